import PyProof.Rows.All
import Wide.All
import OpenK.AllK
import Wide.FinOn
import Lean
import PyProof.EqAt
import PyProof.EqKinds
import PyProof.TupleCall
import PyProof.ZipIter
import PyProof.Draws
import PySem.Challenge.RW_everyplan_k12_parts_at_ways
import PyProof.SetKind
import PyProof.WalksS
import PyProof.CollectWalk
import PyProof.DictKinds
import KE.KEqDict
import PyProof.Rows.TupAdd
import PyProof.NeKinds
import PyProof.MeetsSeq
import KE.KDictList
import PyProof.Rows.EnumRows
import PyProof.SumWalkG
import PyProof.DictItems
import PyProof.DictValues
import PyProof.DictWalks
import PyProof.ReprRoads
import PyProof.WalksEnum
open PySem.W(Frag)
set_option Elab.async false
set_option linter.all false
set_option compiler.extract_closed false
set_option maxRecDepth 100000
set_option maxHeartbeats 8000000
local macro_rules|`(tactic| walk_at "s") => `(tactic| exact ⟨rfl, rfl, rfl, by decide +kernel, rfl, by decide +kernel, by decide +kernel⟩)
local macro_rules|`(tactic| walk_at "v") => `(tactic| first|exact Or.inl rfl|exact Or.inr (Or.inl rfl)|exact Or.inr (Or.inr rfl))
open List
abbrev aG:=PySem.Value->PySem.Shared->Prop
abbrev aP:=List (PySem.Addr×PySem.Obj)
abbrev aZ:=PySem.Str->Option PySem.Value
abbrev aq:=List PySem.Str
abbrev aC:=List PySem.Value
abbrev af:=@PySem.wpAny_bind
abbrev ao:=@PySem.wpAny_pure
abbrev a8:=@PySem.Heap.get?_push_of_some
abbrev a0:=@PySem.Heap.lt_size
abbrev ar:=@Nat.le_refl
abbrev bU:=@Nat.le_trans
abbrev bI:=@Nat.ne_of_lt
abbrev dE:=@Nat.lt_of_lt_of_le
abbrev b6:=@PySem.Heap.get?_push_size
theorem c6 {α:Type _}{l:List α}{i:Nat}{a:α}(h:l[i]?=some a):∃ h:i<l.length,l[i]=a:=List.getElem?_eq_some_iff.mp h
theorem cf {α:Type _}{l:List α}{i:Nat}(h:i<l.length):l[i]?=some l[i]:=List.getElem?_eq_getElem h
namespace L2
open PySem PySem.Spec PyProof.Rows
abbrev Key:=Sum Int Str
def jc:Key->Value->Bool
 |.inl k,v=>Value.isInt k v
 |.inr x,v=>Value.isStrOf x v
def JE (w:World):Key->Int
 |.inl k=>hashInt k
 |.inr x=>hashStr w x
theorem g4:∀{k:Key}{v:Value},jc k v=true->(∃ i t,k=Sum.inl i/\v=Value.int i t)\/(∃ x t,k=Sum.inr x/\v=Value.str x t)
 |.inl i,v,h=>by
  obtain⟨t,e⟩:=Value.isInt_shape (k:=i) (v:=v) h;exact .inl ⟨i,t,rfl,e⟩
 |.inr x,v,h=>by
  obtain⟨t,e⟩:=Value.isStrOf_shape (x:=x) (v:=v) h;exact .inr ⟨x,t,rfl,e⟩
theorem JF (i:Int)(t:Tok):jc (.inl i) (.int i t)=true:=by simp [jc,Value.isInt]
theorem uN (x:Str)(t:Tok):jc (.inr x) (.str x t)=true:=by simp [jc,Value.isStrOf]
theorem JG (a b:Int):decide ((Sum.inl a:Key)=Sum.inl b)=(a==b):=by
 by_cases e:a=b
 ·subst e;simp
 ·have h:¬ (Sum.inl a:Key)=Sum.inl b:=λq=>e (Sum.inl.inj q);rw[decide_eq_false h];exact(beq_eq_false_iff_ne.mpr e).symm
theorem JH (a b:Str):decide ((Sum.inr a:Key)=Sum.inr b)=decide (a=b):=by
 by_cases e:a=b
 ·subst e;simp
 ·have h:¬ (Sum.inr a:Key)=Sum.inr b:=λq=>e (Sum.inr.inj q);rw[decide_eq_false h,decide_eq_false e]
theorem JI (a:Int)(b:Str):decide ((Sum.inl a:Key)=Sum.inr b)=false:=decide_eq_false (λq=>nomatch q)
theorem JJ (a:Str)(b:Int):decide ((Sum.inr a:Key)=Sum.inl b)=false:=decide_eq_false (λq=>nomatch q)
def bM (prog:Program)(w:World):PySem.KeyKind prog w Key where
 is:=jc
 hash:=JE w
 inj:=λv a b ha hb=>by
  rcases g4 ha with ⟨i,t,rfl,rfl⟩|⟨x,t,rfl,rfl⟩
  ·rcases g4 hb with ⟨j,u,rfl,e⟩|⟨y,u,rfl,e⟩
   ·injection e with e1 _;rw[e1]
   ·exact nomatch e
  ·rcases g4 hb with ⟨j,u,rfl,e⟩|⟨y,u,rfl,e⟩
   ·exact nomatch e
   ·injection e with e1 _;rw[e1]
 byValue:=λk v h=>by
  rcases g4 h with ⟨i,t,rfl,rfl⟩|⟨x,t,rfl,rfl⟩<;>rfl
 pyHash:=λhv h=>by
  rcases g4 hv with ⟨i,t,rfl,rfl⟩|⟨x,t,rfl,rfl⟩
  ·exact wpAny_pyHash_int h
  ·exact wpAny_pyHash_str h
 eqBool:=λhu hv h=>by
  rcases g4 hu with ⟨i,t,rfl,rfl⟩|⟨x,t,rfl,rfl⟩
  ·rcases g4 hv with ⟨j,u,rfl,rfl⟩|⟨y,u,rfl,rfl⟩
   ·rw[JG] at h;exact wpAny_eqBool_int h
   ·rw[JI] at h;exact SeqAt.EqAt.int_str i t y u _ _ _ _ h
  ·rcases g4 hv with ⟨j,u,rfl,rfl⟩|⟨y,u,rfl,rfl⟩
   ·rw[JJ] at h;exact SeqAt.EqAt.str_int x t j u _ _ _ _ h
   ·rw[JH] at h;exact wpAny_eqBool_str h
 «strs»:=λk x t v h=>by
  rcases g4 h with ⟨i,u,rfl,e⟩|⟨y,u,rfl,e⟩
  ·exact nomatch e
  ·injection e with e1 _
   subst e1;cases v<;>rfl
theorem JK (prog:Program)(w:World)(i:Int)(t:Tok):(bM prog w).is (.inl i) (.int i t)=true:=JF i t
theorem JL (prog:Program)(w:World)(x:Str)(t:Tok):(bM prog w).is (.inr x) (.str x t)=true:=uN x t
inductive V where
 |non|bl (b:Bool)|int (i:Int)|str (x:Str)|fW (b:Array UInt8)|md (b:UInt64)|ref (a:Addr)|ty (n:String)
 deriving DecidableEq
abbrev Zv:=List V
abbrev bh:=List (Key×V)
def RelV:V->Value->Prop
 |.non,u=>u=Value.none
 |.bl b,u=>u=Value.bool b
 |.int i,u=>∃ t,u=Value.int i t
 |.str x,u=>∃ t,u=Value.str x t
 |.fW b,u=>∃ t,u=Value.bytes b t
 |.md b,u=>∃ t,u=Value.float b t
 |.ref a,u=>u=Value.ref a
 |.ty n,u=>u=Value.type n
abbrev Vals:Zv->aC->Prop:=Paired RelV
theorem Vals.length {xs:Zv}{us:aC}(r:Vals xs us):xs.length=us.length:=Paired.length r
theorem Vals.get:∀{xs:Zv}{us:aC}{i:Nat}{x:V},Vals xs us->xs[i]?=some x->∃ u,us[i]?=some u/\RelV x u
 |_,_,_,_,.nil,e=>by simp at e
 |_,_,0,_,.cons r _,e=>by simp at e;subst e;exact⟨_,rfl,r⟩
 |_,_,i+1,x,.cons _ t,e=>by
  obtain⟨u,h1,h2⟩:=Vals.get (i:=i) (x:=x) t (by simpa using e);exact⟨u,by simpa using h1,h2⟩
theorem Vals.set {x:V}{u:Value}(r:RelV x u):∀{xs:Zv}{us:aC}(i:Nat),Vals xs us->Vals (xs.set i x) (us.set i u)
 |_,_,_,.nil=>.nil
 |_,_,0,.cons _ t=>.cons r t
 |_,_,i+1,.cons q t=>.cons q (Vals.set r i t)
theorem Vals.append:∀{xs ys:Zv}{us ws:aC},Vals xs us->Vals ys ws->Vals (xs++ys) (us++ws)
 |_,_,_,_,.nil,s=>s
 |_,_,_,_,.cons r t,s=>.cons r (Vals.append t s)
theorem Vals.take:∀{xs:Zv}{us:aC}(n:Nat),Vals xs us->Vals (xs.take n) (us.take n)
 |_,_,0,_=>.nil
 |_,_,_+1,.nil=>.nil
 |_,_,n+1,.cons r t=>.cons r (Vals.take n t)
theorem Vals.drop:∀{xs:Zv}{us:aC}(n:Nat),Vals xs us->Vals (xs.drop n) (us.drop n)
 |_,_,0,r=>r
 |_,_,_+1,.nil=>.nil
 |_,_,n+1,.cons _ t=>Vals.drop n t
def g5:Option V->Option Value->Prop
 |some v,some u=>RelV v u
 |none,none=>True
 |_,_=>False
def KV {κ:Type}:List (κ×V)->List (κ×Value)->Prop:=Paired fun(p:κ×V)(q:κ×Value)=>p.1=q.1/\RelV p.2 q.2
def kV:Key->V
 |.inl i=>.int i
 |.inr x=>.str x
inductive HO where
 /-- a list -/
 |lst (xs:Zv)
 /-- a tuple (never changes) -/
 |tup (xs:Zv)
 /-- a dict whose keys are ints and texts;one whose keys are tuples of ints and texts (the empty one is both) -/
 |dK (kvs:bh)|dT (kvs:List (List Key×V))
 /-- a set of ints: its members,its size -/
 |set (S:Int->Bool)(n:Nat)
 /-- an instance of the class at C,its dict at dx,its attributes -/
 |ins (C dx:Addr)(fs:List (Str×V))
 /-- the dict of the instance at x -/
 |own (x:Addr)
 /-- the dict of an exception -/
 |xd (fs:List (Str×V))
 /-- a bound method,f of x -/
 |met (f x:Addr)
 /-- a range object lo,lo+1,.. below hi -/
 |uO (lo hi:Int)
 /-- a thing that is known to the object (the As;a dict while a loop walks it): read,never written while it is so -/
 |bB (o:Obj)(u:HO)
 /-- a code Zf table -/
 |g6 (ps:Array Value)
 /-- the code object of a def of that name -/
 |kM (q:Str)
 /-- any other thing,by what is true of its one object (a def of Zg own: Zh a S n:=HO.ext λh=>..) -/
 |ext (φ:Heap->Prop)
abbrev Hp:=Addr->Option HO
def upd (H:Hp)(a:Addr)(o:HO):Hp:=λb=>if b=a then some o else H b
theorem bD {H:Hp}{a:Addr}{o:HO}:upd H a o a=some o:=by unfold upd;rw[if_pos rfl]
theorem a7 {H:Hp}{a b:Addr}{o:HO}(h:b≠a):upd H a o b=H b:=by unfold upd;rw[if_neg h]
theorem uP {H:Hp}{a b:Addr}{o u:HO}(h:H a=some o)(h':H b=some u)(d:o≠u):a≠b:=by
 intro e;subst e;rw[h] at h';exact d (Option.some.inj h')
theorem dF {H:Hp}{a b:Addr}{o:HO}(h:H a=some o)(h':H b=none):a≠b:=by
 intro e;subst e;rw[h] at h';cases h'
section
variable (P:Program)(w:World)
def cP (H:Hp)(h:Heap)(a:Addr):HO->Prop
 |.lst xs=>xs.length<=sizeLine/\∃(its:aC)(n:Nat),Vals xs its/\h.get? a=some { cls:=.type "list",data:=.seq its.toArray n }
 |.tup xs=>xs.length<=sizeLine/\∃ its:aC,Vals xs its/\IsTup h a its.toArray
 |.dK kvs=>kvs.length<=sizeLine/\(a==sysModules)=false/\∃ vs,KV kvs vs/\h.DictOf (bM P w) a vs
 |.dT kvs=>kvs.length<=sizeLine/\(a==sysModules)=false/\∃ xs:List (List Key×Addr×Value),
   Paired (fun(p:List Key×V)(q:List Key×Addr×Value)=>p.1=q.1/\H q.2.1=some (.tup (p.1.map kV))/\RelV p.2 q.2.2) kvs xs /\
   ∃ o es ep,h.get? a=some o/\o.ExactDict/\o.data=.dict es ep/\es.toList=xs.map (entryOfKey (tupleKind (bM P w)))/\(xs.map (·.1)).Nodup
 |.set S n=>h.SetOf (intKind P w) a S n
 |.ins C dx fs=>H dx=some (.own a)/\fs.length<=1000/\dx≠a/\h.get? a=some (PySem.W.instObj C dx) /\
   ∃ mA,h.Ns1 dx mA/\(∀ f,g5 (fs.lookup f) (mA f))/\PySem.Within mA (fs.map (·.1))
 |.own _=>∃ o,h.get? a=some o
 |.xd fs=>∃ mA,h.Ns1 a mA/\∀ f,g5 (fs.lookup f) (mA f)
 |.uO lo hi=>∃ t u v,h.get? a=some { cls:=.type "range",data:=.fields #[.int lo t,.int hi u,.int 1 v] }
 |.bB o u=>(h.get? a=some o/\∀ xs,u≠.tup xs)/\cP H h a u
 |.g6 ps=>∃ more:Array Value,h.get? a=some { cls:=.none,data:=.fields more }/\(more=#[]\/∃(c:Addr)(q:Str)(k:Tok)(l m:Nat),more=#[rawInt l,rawInt m,.ref c]/\ps=#[.str q k,rawInt l,rawInt m]/\H c=some (.kM q))
 |.kM q=>h.CodeRec (.ref a) q
 |.met f x=>h.get? a=some (PySem.W.methodObj (.ref f) (.ref x))
 |.ext φ=>φ h/\(∃ o,h.get? a=some o)/\∀ h1 h2:Heap,φ h1->(∀ o,h1.get? a=some o->h2.get? a=some o)->φ h2
def cq (H:Hp)(h:Heap):Prop:=∀ a o,H a=some o->cP P w H h a o
end
section
variable {P:Program}{w:World}{H H':Hp}{h h':Heap}{a:Addr}{o:HO}
theorem cP.lt (x:cP P w H h a o):a<h.objs.size:=by
 cases o with
 |lst xs=>obtain⟨_,_,_,_,e⟩:=x;exact a0 e
 |tup xs=>obtain⟨_,_,_,p⟩:=x;exact p.lt
 |dK kvs=>obtain⟨_,_,_,_,o,_,_,e,_⟩:=x;exact a0 e
 |dT kvs=>obtain⟨_,_,_,_,o,_,_,e,_⟩:=x;exact a0 e
 |set S n=>obtain⟨o,_,_,_,e,_⟩:=x;exact a0 e
 |ins C dx fs=>obtain⟨_,_,_,e,_⟩:=x;exact a0 e
 |own y=>obtain⟨_,e⟩:=x;exact a0 e
 |xd fs=>obtain⟨_,⟨_,_,_,e,_⟩,_⟩:=x;exact a0 e
 |uO lo hi=>obtain⟨_,_,_,e⟩:=x;exact a0 e
 |bB ob u=>obtain⟨⟨e,_⟩,_⟩:=x;exact a0 e
 |g6 ps=>obtain⟨_,e,_⟩:=x;exact a0 e
 |kM q=>obtain⟨c,o,vs,t,e,e1,_⟩:=x;cases e;exact a0 e1
 |met f y=>exact a0 (show h.get? a=some _ from x)
 |ext φ=>obtain⟨_,⟨_,e⟩,_⟩:=x;exact a0 e
theorem Paired.uQ {α β:Type}{F G:α->β->Prop}:∀{Au:List α}{Av:List β},Paired F Au Av->(∀ a b,F a b->G a b)->Paired G Au Av
 |_,_,.nil,_=>.nil
 |_,_,.cons r t,f=>.cons (f _ _ r) (Paired.uQ t f)
theorem cP.me (x:cP P w H h a o)(k:∀ b u,(b=a\/H b=some (.own a))->h.get? b=some u->h'.get? b=some u)
  (ho:∀ b,H b=some (.own a)->H' b=some (.own a))(ht:∀ b xs,H b=some (.tup xs)->H' b=some (.tup xs))(hc:∀ b q,H b=some (.kM q)->H' b=some (.kM q):=by exact λ_ _ q=>q):cP P w H' h' a o:=by
 induction o with
 |lst xs=>obtain⟨z,its,n,r,e⟩:=x;exact⟨z,its,n,r,k _ _ (.inl rfl) e⟩
 |tup xs=>obtain⟨z,its,r,ob,e,c⟩:=x;exact⟨z,its,r,ob,k _ _ (.inl rfl) e,c⟩
 |dK kvs=>obtain⟨z,y,vs,r,ob,es,ep,e,c⟩:=x;exact⟨z,y,vs,r,ob,es,ep,k _ _ (.inl rfl) e,c⟩
 |dT kvs=>
  obtain⟨z,y,xs,r,ob,es,ep,e,c⟩:=x;exact⟨z,y,xs,Paired.uQ r λp q z=>⟨z.1,ht _ _ z.2.1,z.2.2⟩,ob,es,ep,k _ _ (.inl rfl) e,c⟩
 |set S n=>obtain⟨ob,es,ep,t,e,c⟩:=x;exact⟨ob,es,ep,t,k _ _ (.inl rfl) e,c⟩
 |ins C dx fs=>
  obtain⟨d,z,ne,e,mA,⟨od,es,ep,e2,c⟩,r⟩:=x;exact⟨ho _ d,z,ne,k _ _ (.inl rfl) e,mA,⟨od,es,ep,k _ _ (.inr d) e2,c⟩,r⟩
 |own y=>obtain⟨ob,e⟩:=x;exact⟨ob,k _ _ (.inl rfl) e⟩
 |xd fs=>obtain⟨mA,⟨od,es,ep,e,c⟩,r⟩:=x;exact⟨mA,⟨od,es,ep,k _ _ (.inl rfl) e,c⟩,r⟩
 |uO lo hi=>obtain⟨t,u,v,e⟩:=x;exact⟨t,u,v,k _ _ (.inl rfl) e⟩
 |bB ob u ih=>obtain⟨⟨e,nt⟩,q⟩:=x;exact⟨⟨k _ _ (.inl rfl) e,nt⟩,ih q⟩
 |g6 ps=>
  obtain⟨more,e,r⟩:=x;refine⟨more,k a _ (.inl rfl) e,?_⟩;rcases r with r|⟨c,q,tk,l,m,e1,e2,e3⟩
  ·exact .inl r
  ·exact .inr ⟨c,q,tk,l,m,e1,e2,hc _ _ e3⟩
 |kM q=>obtain⟨c,o,vs,t,e,e1,e2⟩:=x;cases e;exact⟨a,o,vs,t,rfl,k _ _ (.inl rfl) e1,e2⟩
 |met f y=>
  have e:h.get? a=some (PySem.W.methodObj (.ref f) (.ref y)):=x;show h'.get? a=some (PySem.W.methodObj (.ref f) (.ref y));exact k a _ (.inl rfl) e
 |ext φ=>obtain⟨p,⟨o,e⟩,st⟩:=x;exact⟨st _ _ p λo q=>k _ _ (.inl rfl) q,⟨o,k _ _ (.inl rfl) e⟩,st⟩
theorem cq.lt (x:cq P w H h)(e:H a=some o):a<h.objs.size:=(x a o e).lt
theorem cq.fresh (x:cq P w H h)(e:h.objs.size<=a):H a=none:=by
 cases q:H a with
 |none=>rfl
 |some u=>exact absurd (dE (x.lt q) e) (Nat.lt_irrefl _)
theorem cq.kept (x:cq P w H h)(k:∀ b u,h.get? b=some u->h'.get? b=some u):cq P w H h':=λa o e=>
 (x a o e).me (λb u _ q=>k b u q) (λ_ q=>q) λ_ _ q=>q
theorem cq.laid (x:cq P w H h)(k:∀ b u,h.get? b=some u->h'.get? b=some u)(hp:h.objs.size<=a)(new:cP P w (upd H a o) h' a o):cq P w (upd H a o) h':=λb u e=>by
 have hn:=x.fresh hp;by_cases hb:b=a
 ·subst hb;rw[bD] at e;cases e;exact new
 ·rw[a7 hb] at e;exact(x b u e).me (hc:=λc xs q=>by rw[a7 (dF q hn)];exact q) (λc v _ q=>k c v q) (λc q=>by rw[a7 (dF q hn)];exact q) λc xs q=>by rw[a7 (dF q hn)];exact q
end
def Rd (H:Hp)(a:Addr)(u:HO):Prop:=H a=some u\/∃ o,H a=some (.bB o u)
theorem Rd.ok {P:Program}{w:World}{H:Hp}{h:Heap}{a:Addr}{u:HO}(r:Rd H a u)(x:cq P w H h):cP P w H h a u:=by
 rcases r with r|⟨o,r⟩
 ·exact x a u r
 ·obtain⟨_,q⟩:=x a _ r;exact q
def n6:Option HO->Prop
 |some (.lst _)=>True
 |some (.dK _)=>True
 |some (.dT _)=>True
 |some (.set _ _)=>True
 |some (.ins _ _ _)=>True
 |some (.ext _)=>True
 |_=>False
section
variable {P:Program}{w:World}{H:Hp}{h h':Heap}{x e:Addr}{o':HO}
theorem cq.write (ok:cq P w H h)(mu:n6 (H x))(he:e=x\/H e=some (.own x))(k:∀ b u,b≠e->h.get? b=some u->h'.get? b=some u)(mf:∃ u,h'.get? e=some u)
  (new:cP P w (upd H x o') h' x o'):cq P w (upd H x o') h':=λb u q=>by
 have Aw:∀ c y,H c=some (.own y)->c≠x:=λc y r z=>by subst z;rw[r] at mu;exact mu
 have JM:∀ c xs,H c=some (.tup xs)->c≠x:=λc xs r z=>by subst z;rw[r] at mu;exact mu
 have JN:∀ c xs,H c=some (.kM xs)->c≠x:=λc xs r z=>by subst z;rw[r] at mu;exact mu
 by_cases hb:b=x
 ·subst hb;rw[bD] at q;cases q;exact new
 ·rw[a7 hb] at q;by_cases kN:b=e
  ·have q':H b=some (.own x):=by
    rcases he with z|z
    ·exact absurd (kN.trans z) hb
    ·rw[kN];exact z
   rw[q] at q';cases q';obtain⟨v,hv⟩:=mf;exact⟨v,by rw[kN];exact hv⟩
  ·refine(ok b u q).me (hc:=λc xs r=>by rw[a7 (JN c xs r)];exact r) (λc v hc r=>k c v ?_ r) (λc r=>by rw[a7 (Aw c b r)];exact r) λc xs r=>by rw[a7 (JM c xs r)];exact r
   rcases hc with rfl|hc
   ·exact kN
   ·rintro rfl;rcases he with z|z
    ·exact Aw c b hc z
    ·rw[hc] at z;cases z;exact hb rfl
end
structure Un (fs ex:List Addr)(H H':Hp)(h h':Heap):Prop where
 keep:∀ b o,h.get? b=some o->H b=none->b∉fs->b∉ex->h'.get? b=some o
 slot:∀ b o,h.get? b=some o->H b=none->b∈fs->b∉ex->∃ sl,h'.get? b=some { o with slots:=sl }
 free:∀ b o,h.get? b=some o->H b=none->b∉ex->H' b=none
 there:∀ b o,h.get? b=some o->b∉ex->∃ o',h'.get? b=some o'
 jJ:∀ b xs,H b=some (.tup xs)->H' b=some (.tup xs)
 jd:∀ b o u,H b=some (.bB o u)->H' b=some (.bB o u)
 jK:∀ b ps,H b=some (.g6 ps)->∃ more,H' b=some (.g6 (ps++more))
section
variable {fs JO ex Zi:List Addr}{H H1 H2:Hp}{h h1 h2 h':Heap}{a x e:Addr}{o:HO}
theorem Un.any (u:Un fs ex H H1 h h1){b:Addr}{ob:Obj}(q:h.get? b=some ob)(n:H b=none)(hx:b∉ex):∃ sl,h1.get? b=some { ob with slots:=sl }:=by
 by_cases hb:b∈fs
 ·exact u.slot b ob q n hb hx
 ·exact⟨ob.slots,u.keep b ob q n hb hx⟩
theorem Un.kept (k:∀ b u,h.get? b=some u->h'.get? b=some u):Un fs ex H H h h':=
 ⟨λb ob q _ _ _=>k b ob q,λb ob q _ _ _=>⟨ob.slots,k b ob q⟩,λ_ _ _ n _=>n,λb ob q _=>⟨ob,k b ob q⟩,λ_ _ q=>q,λ_ _ _ q=>q,λ_ ps q=>⟨#[],by rw[q];simp⟩⟩
theorem Un.refl:Un fs ex H H h h:=Un.kept λ_ _ q=>q
theorem Un.laid (k:∀ b u,h.get? b=some u->h'.get? b=some u)(hp:h.objs.size<=a)(hn:H a=none):Un fs ex H (upd H a o) h h' where
 keep:=λb u q _ _ _=>k b u q
 slot:=λb u q _ _ _=>⟨u.slots,k b u q⟩
 free:=λb u q n _=>by rw[a7 (bI (dE (a0 q) hp))];exact n
 there:=λb u q _=>⟨u,k b u q⟩
 jJ:=λb xs q=>by rw[a7 (dF q hn)];exact q
 jd:=λb u xs q=>by rw[a7 (dF q hn)];exact q
 jK:=λb ps q=>⟨#[],by rw[a7 (dF q hn),q];simp⟩
theorem Un.write (mu:n6 (H x))(he:e=x\/H e=some (.own x))(k:∀ b u,b≠e->h.get? b=some u->h'.get? b=some u)(mf:∃ u,h'.get? e=some u):Un fs ex H (upd H x o) h h':=by
 have hx:∀ b,H b=none->b≠x:=λb n z=>by subst z;rw[n] at mu;exact mu
 have hb:∀ b,H b=none->b≠e:=λb n z=>by
  subst z;rcases he with r|r
  ·exact hx b n r
  ·rw[n] at r;cases r
 have hm:∀ b u,H b=some u->¬ n6 (some u)->b≠x:=λb u q nm z=>by subst z;rw[q] at mu;exact nm mu
 refine⟨λb u q n _ _=>k b u (hb b n) q,λb u q n _ _=>⟨u.slots,k b u (hb b n) q⟩,λb u q n _=>by rw[a7 (hx b n)];exact n,λb u q _=>?_,
  λb xs q=>by rw[a7 (hm b _ q λz=>z)];exact q,λb u xs q=>by rw[a7 (hm b _ q λz=>z)];exact q,λb ps q=>⟨#[],by rw[a7 (hm b _ q λz=>z),q];simp⟩⟩
 by_cases kN:b=e
 ·subst kN;exact mf
 ·exact⟨u,k b u kN q⟩
end
def qj (h:Heap)(H:Hp):List Addr:=(range h.objs.size).filter λa=>(H a).isSome
def je (h:Heap)(H:Hp):Heap:=PySem.W.hideAll h (qj h H)
theorem JP (h:Heap)(H:Hp):(je h H).objs.size=h.objs.size:=PySem.W.hideAll_size _ _
theorem JQ {h:Heap}{H:Hp}{b:Addr}{o:Obj}(e:h.get? b=some o)(n:H b=none):(je h H).get? b=some o:=
 PySem.W.hideAll_get _ e λhm=>by
  have q:(H b).isSome=true:=(mem_filter.mp hm).2;rw[n] at q;simp at q
theorem JR {h:Heap}{H:Hp}{b:Addr}{o:Obj}(e:(je h H).get? b=some o):h.get? b=some o/\H b=none:=by
 have e':h.get? b=some o:=PySem.W.of_hideAll (qj h H) e;refine⟨e',?_⟩
 cases q:H b with
 |none=>rfl
 |some x=>
  have hm:b∈qj h H:=mem_filter.mpr ⟨mem_range.mpr (a0 e'),by simp [q]⟩;have z:(je h H).get? b=none:=PySem.W.hideAll_none (qj h H) hm;rw[z] at e;cases e
def JS (g h:Heap)(L:Addr):aP:=(range h.objs.size).filterMap λa=>if a=L\/(g.get? a).isSome=true then none else (h.get? a).map λo=>(a,o)
def rest (g h:Heap)(L d:Addr):aP:=(JS g h L).filter λp=>decide (p.1≠d)
structure Mod (K:Frag)(mg:aZ)(base:Heap):Prop where
 uR:K.In base
 glob:base.Ns mainGlobals mg
 blt:∃ mb,base.Ns builtinsNs mb/\∀ x:Str,x≠"__name__"->mb x=bootBuiltins x
 nolimit:base.NoLimit
structure Cx where
 prog:Program
 w:World
 K:Frag
 mg:aZ
 base:Heap
 A:Around
 N:aq
 c7:Shared
 n_:Hp
 env:Env
 outer:List Env
 stack:List Env
 ex:List Addr
 fn:Str->Bool
 calm:Bool
 pn:aP
 xe:aG
def g7 (l:List Env):List Addr:=l.filterMap (·.frame)
abbrev Cx.fs (X:Cx):List Addr:=g7 X.outer
def di (sc:Scope)(x:Str):Prop:=sc.names.lookup x=some .local\/sc.names.lookup x=some .cell\/sc.names.lookup x=some .free
def Loc (sc:Scope)(x:Str):Prop:=sc.names.lookup x=some .local\/sc.names.lookup x=some .cell
def Look (env:Env)(h:Heap)(m:aZ)(x:Str)(u:Value):Prop:=
 (env.kindOf x=some .local/\m x=some u)\/((env.kindOf x=some .cell\/env.kindOf x=some .free)/\∃ c,env.cells.lookup x=some c/\h.IsCell c (some u))
structure Cx.Ok (X:Cx):Prop where
 mod:Mod X.K X.mg X.base
 kind:X.env.scope.kind=.function
 glob:X.env.globals=mainGlobals
 blt:X.env.builtins=builtinsNs
 above:X.c7.heap.objs.size<=X.env.locals
 inj:∀ x y c,X.env.cells.lookup x=some c->X.env.cells.lookup y=some c->x=y
 has:∀ x,(X.env.kindOf x=some .cell\/X.env.kindOf x=some .free)->∃ c,X.env.cells.lookup x=some c
 mh:∀ x c,X.fn x=true->X.env.cells.lookup x=some c->X.c7.heap.objs.size<=c
 hd:X.calm=true->X.A.handled=none
 frames:X.A.frames=some X.stack
 oe:X.stack=X.outer\/(X.stack=X.env::X.outer/\X.env.frame=some X.env.locals)
 uS:∀ b∈X.ex,b≠X.env.locals/\∀ x c,X.env.cells.lookup x=some c->c≠b
 bs:∀ b o,X.base.get? b=some o->X.c7.heap.get? b=some o/\X.n_ b=none
 jf:X.base.objs.size<=X.c7.heap.objs.size
 mi:∀ b o,X.base.get? b=some o->b∉X.ex
 og:∀ b∈X.ex,b∉X.fs
 gm:X.c7.heap.FunFrames X.base X.outer
 kO:∀ b∈X.fs,X.n_ b=none
structure Inv (X:Cx)(pins:aP)(σ:List (Option V))(H:Hp)(s:Shared):Prop where
 ok:X.Ok
 os:s.os=X.c7.os
 bare:AllBare s.gens
 base:Un X.fs X.ex X.n_ H X.c7.heap s.heap
 loc:∃ m,s.heap.Ns X.env.locals m/\∀(i:Nat)(x:Str)(v:V),X.N[i]?=some x->σ[i]?=some (some v)->di X.env.scope x->∃ u,RelV v u/\Look X.env s.heap m x u
 cell:∀ x c,X.env.cells.lookup x=some c->∃ v,s.heap.IsCell c v
 free:H X.env.locals=none
 gn:∀ x c,X.env.cells.lookup x=some c->H c=none
 pin:∀ p∈X.pn++pins,s.heap.get? p.1=some p.2/\H p.1=none/\p.1≠X.env.locals/\p.1∉X.fs/\∀ v,p.2.data≠.cell v
 aA:cq X.prog X.w H s.heap
 len:X.N.length<=σ.length
section
variable {X:Cx}{pins:aP}{σ:List (Option V)}{H H':Hp}{s:Shared}{h':Heap}
theorem Cx.Ok.JT (ok:X.Ok){b:Addr}{o:Obj}(e:X.base.get? b=some o):b∉X.fs:=λhb=>by
 have:=(ok.gm.mem hb).1;rw[e] at this;cases this
theorem Inv.bs (I:Inv X pins σ H s):∀ b o,X.base.get? b=some o->s.heap.get? b=some o/\H b=none:=λb o e=>
 ⟨I.base.keep b o (I.ok.bs b o e).1 (I.ok.bs b o e).2 (I.ok.JT e) (I.ok.mi b o e),I.base.free b o (I.ok.bs b o e).1 (I.ok.bs b o e).2 (I.ok.mi b o e)⟩
theorem Inv.bk (I:Inv X pins σ H s):∀ b o,X.base.get? b=some o->s.heap.get? b=some o:=λb o e=>(I.bs b o e).1
theorem Inv.mod (I:Inv X pins σ H s):Mod X.K X.mg X.base:=I.ok.mod
theorem Inv.dG (I:Inv X pins σ H s):X.K.In s.heap:=I.ok.mod.uR.keeps I.bk
theorem Inv.lt (I:Inv X pins σ H s):X.env.locals<s.heap.objs.size:=let ⟨_,hn,_⟩:=I.loc;hn.lt
theorem Inv.sz (I:Inv X pins σ H s):X.c7.heap.objs.size<=s.heap.objs.size:=bU I.ok.above (Nat.le_of_lt I.lt)
theorem Inv.JU (I:Inv X pins σ H s){a:Addr}(h:s.heap.objs.size<=a):a∉X.fs:=λhb=>by
 obtain⟨_,o,ho,_⟩:=I.ok.gm.mem hb;exact absurd (dE (a0 ho) (bU I.sz h)) (Nat.lt_irrefl _)
theorem Inv.kQ (I:Inv X pins σ H s):∀ x c,X.env.cells.lookup x=some c->c≠X.env.locals:=λx c e z=>by
 obtain⟨v,o,ho,hd⟩:=I.cell x c e;obtain⟨m,⟨o',es,ep,e8,oh,_⟩,_⟩:=I.loc;rw[z,e8] at ho;cases ho;rw[oh] at hd;cases hd
theorem Inv.gm (I:Inv X pins σ H s):s.heap.FunFrames X.base X.outer:=by
 have all:∀(l:List Env),(∀ b∈g7 l,b∈X.fs)->X.c7.heap.FunFrames X.base l->s.heap.FunFrames X.base l:=by
  intro l
  induction l with
  |nil=>intro _ _;trivial
  |cons env r ih=>
   intro hs hl;obtain⟨hk,⟨L,o,hf,hn,ho,hd⟩,hr⟩:=hl;have hL:L∈X.fs:=hs L (by unfold g7;rw[filterMap_cons,hf];exact mem_cons_self);obtain⟨sl,e⟩:=I.base.slot L o ho (I.ok.kO L hL) hL λz=>I.ok.og L z hL;exact⟨hk,⟨L,_,hf,hn,e,hd⟩,ih (λb hb=>hs b (by unfold g7;rw[filterMap_cons,hf];exact mem_cons_of_mem _ hb)) hr⟩
 exact all X.outer (λ_ hb=>hb) I.ok.gm
theorem Inv.stack (I:Inv X pins σ H s):s.heap.FunFrames X.base X.stack:=by
 rcases I.ok.oe with e|⟨e,hf⟩
 ·rw[e];exact I.gm
 ·rw[e];obtain⟨m,hn,_⟩:=I.loc;refine .cons (by rw[I.ok.kind];decide) hf hn ?_ I.gm;exact Heap.get?_none_of_le (bU I.ok.jf I.ok.above)
theorem Inv.oi (I:Inv X pins σ H s):∀ b∈g7 X.stack,b∈X.env.locals::X.fs:=λb hb=>by
 rcases I.ok.oe with e|⟨e,hf⟩
 ·rw[e] at hb;exact mem_cons_of_mem _ hb
 ·rw[e] at hb;unfold g7 at hb;rw[filterMap_cons,hf] at hb;exact hb
theorem Inv.Ax (I:Inv X pins σ H s):∀ b∈g7 X.stack,H b=none:=λb hb=>by
 rcases mem_cons.mp (I.oi b hb) with e|hb
 ·rw[e];exact I.free
 ·obtain⟨_,o,ho,_⟩:=I.ok.gm.mem hb;exact I.base.free b o ho (I.ok.kO b hb) λz=>I.ok.og b z hb
theorem Inv.step {g':Array GenState}{t':Nat}{d':Drawn}{ch:List Addr}(I:Inv X pins σ H s)
  (iH:∀ b∈ch,(b∈X.ex\/X.c7.heap.objs.size<=b)/\b≠X.env.locals/\(∀ x c,X.env.cells.lookup x=some c->c≠b)/\∀ p∈X.pn++pins,p.1≠b)
  (keep:∀ b o,b≠X.env.locals->b∉X.fs->b∉ch->s.heap.get? b=some o->H b=none->h'.get? b=some o)
  (slot:∀ b o,b≠X.env.locals->b∈X.fs->b∉ch->s.heap.get? b=some o->H b=none->∃ sl,h'.get? b=some { o with slots:=sl })(free:∀ b o,b∉ch->s.heap.get? b=some o->H b=none->H' b=none)
  (there:∀ b o,b∉ch->s.heap.get? b=some o->∃ o',h'.get? b=some o')
  (jJ:∀ b xs,H b=some (.tup xs)->H' b=some (.tup xs))(jd:∀ b o u,H b=some (.bB o u)->H' b=some (.bB o u))(jK:∀ b ps,H b=some (.g6 ps)->∃ more,H' b=some (.g6 (ps++more)))
  (ns:∀ m,s.heap.Ns X.env.locals m->h'.Ns X.env.locals m)(aA:cq X.prog X.w H' h')(hg:AllBare g') :
  Inv X pins σ H' { s with heap:=h',gens:=g',drawn:=d',toks:=t' }:=by
 have Ay:∀ b o,X.c7.heap.get? b=some o->b≠X.env.locals:=λb o e=>bI (dE (a0 e) I.ok.above)
 have qk:∀ b o,X.c7.heap.get? b=some o->b∉X.ex->b∉ch:=λb o e hx hb=>by
  rcases (iH b hb).1 with z|z
  ·exact hx z
  ·exact absurd (dE (a0 e) z) (Nat.lt_irrefl _)
 have cellK:∀ x c,X.env.cells.lookup x=some c->∀ v,s.heap.IsCell c v->h'.IsCell c v:=λx c e v ⟨o,ho,hd⟩=>by
  have oj:c∉ch:=λz=>(iH c z).2.2.1 x c e rfl;by_cases hc:c∈X.fs
  ·obtain⟨sl,q⟩:=slot c o (I.kQ x c e) hc oj ho (I.gn x c e);exact⟨_,q,hd⟩
  ·exact⟨o,keep c o (I.kQ x c e) hc oj ho (I.gn x c e),hd⟩
 refine⟨I.ok,I.os,hg,⟨λb o e n hb hx=>?_,λb o e n hb hx=>?_,λb o e n hx=>?_,λb o e hx=>?_,λb xs e=>jJ b xs (I.base.jJ b xs e),λb o xs e=>jd b o xs (I.base.jd b o xs e),λb ps e=>?_⟩,?_,λx c e=>?_,?_,λx c e=>?_,λp hp=>?_,aA,I.len⟩
 ·exact keep b o (Ay b o e) hb (qk b o e hx) (I.base.keep b o e n hb hx) (I.base.free b o e n hx)
 ·obtain⟨sl,e1⟩:=I.base.slot b o e n hb hx;obtain⟨JV,e2⟩:=slot b _ (Ay b o e) hb (qk b o e hx) e1 (I.base.free b o e n hx);exact⟨JV,e2⟩
 ·obtain⟨o',e1⟩:=I.base.there b o e hx;exact free b o' (qk b o e hx) e1 (I.base.free b o e n hx)
 ·obtain⟨o',e1⟩:=I.base.there b o e hx;exact there b o' (qk b o e hx) e1
 ·obtain⟨m1,e1⟩:=I.base.jK b ps e;obtain⟨m2,e2⟩:=jK b _ e1;exact⟨m1++m2,by rw[e2,Array.append_assoc]⟩
 ·obtain⟨m,hn,hl⟩:=I.loc;refine⟨m,ns m hn,λi x v e1 e2 e3=>?_⟩;obtain⟨u,r,l⟩:=hl i x v e1 e2 e3;refine⟨u,r,?_⟩;rcases l with l|⟨k,c,e,z⟩
  ·exact .inl l
  ·exact .inr ⟨k,c,e,cellK x c e _ z⟩
 ·obtain⟨v,z⟩:=I.cell x c e;exact⟨v,cellK x c e v z⟩
 ·obtain⟨m,⟨o,_,_,ho,_⟩,_⟩:=I.loc;exact free _ o (λz=>(iH _ z).2.1 rfl) ho I.free
 ·obtain⟨v,o,ho,hd⟩:=I.cell x c e;exact free c o (λz=>(iH c z).2.2.1 x c e rfl) ho (I.gn x c e)
 ·obtain⟨e,n,ne,nf,d⟩:=I.pin p hp;have oj:p.1∉ch:=λz=>(iH p.1 z).2.2.2 p hp rfl;exact⟨keep p.1 p.2 ne nf oj e n,free p.1 p.2 oj e n,ne,nf,d⟩
theorem Inv.un {t':Nat}(I:Inv X pins σ H s)(u:Un X.fs [] H H' s.heap h')(aA:cq X.prog X.w H' h'):Inv X pins σ H' { s with heap:=h',toks:=t' }:=by
 obtain⟨m,⟨o,es,ep,ho,r⟩,_⟩:=id I.loc;obtain⟨sl,hL⟩:=u.any ho I.free (by simp)
 exact I.step (g':=s.gens) (d':=s.drawn) (ch:=[]) (λ_ z=>nomatch z) (λb o _ hb _ e n=>u.keep b o e n hb (by simp)) (λb o _ hb _ e n=>u.slot b o e n hb (by simp)) (λb o _ e n=>u.free b o e n (by simp)) (λb o _ e=>u.there b o e (by simp)) u.jJ u.jd u.jK (λm' hm=>by
  obtain⟨o',dH,qm,e8,r'⟩:=hm;rw[ho] at e8;cases e8
  exact⟨_,dH,qm,hL,r'⟩) aA I.bare
theorem Inv.call {g':Array GenState}{t':Nat}{d':Drawn}{ch:List Addr}(I:Inv X pins σ H s)(u:Un (g7 X.stack) ch H H' s.heap h')(aA:cq X.prog X.w H' h')(hg:AllBare g')
  (iH:∀ b∈ch,(b∈X.ex\/X.c7.heap.objs.size<=b)/\b≠X.env.locals/\(∀ x c,X.env.cells.lookup x=some c->c≠b)/\∀ p∈X.pn++pins,p.1≠b) :
  Inv X pins σ H' { s with heap:=h',gens:=g',drawn:=d',toks:=t' }:=by
 obtain⟨m,⟨o,es,ep,ho,r⟩,_⟩:=id I.loc;obtain⟨sl,hL⟩:=u.any ho I.free λz=>(iH _ z).2.1 rfl
 exact I.step (ch:=ch) iH (λb o hL hb hc e n=>u.keep b o e n (λz=>(mem_cons.mp (I.oi b z)).elim hL hb) hc) (λb o _ _ hc e n=>u.any e n hc) (λb o hc e n=>u.free b o e n hc) (λb o hc e=>u.there b o e hc) u.jJ u.jd u.jK (λm' hm=>by
  obtain⟨o',dH,qm,e8,r'⟩:=hm;rw[ho] at e8;cases e8
  exact⟨_,dH,qm,hL,r'⟩) aA hg
theorem Inv.turned {t':Nat}{it:Addr}(I:Inv X pins σ H s)(k:∀ b o,b≠it->s.heap.get? b=some o->h'.get? b=some o)(hn:H it=none)(hL:it≠X.env.locals)
  (h1:it∈X.ex\/X.c7.heap.objs.size<=it)(h2:∀ x c,X.env.cells.lookup x=some c->c≠it)(h3:∀ p∈X.pn++pins,p.1≠it):Inv X pins σ H { s with heap:=h',toks:=t' }:=by
 have Az:∀ b u,H b=some u->b≠it:=λb u e z=>by rw[z,hn] at e;cases e
 refine I.step (g':=s.gens) (d':=s.drawn) (ch:=[it]) (λb hb=>?_) (λb o _ _ hc e _=>k b o (λz=>hc (by simp [z])) e) (λb o _ _ hc e _=>⟨o.slots,k b o (λz=>hc (by simp [z])) e⟩) (λ_ _ _ _ n=>n)
  (λb o hc e=>⟨o,k b o (λz=>hc (by simp [z])) e⟩) (λ_ _ e=>e) (λ_ _ _ e=>e) (λb ps e=>⟨#[],by rw[e];simp⟩) (λm hm=>?_) (λb u e=>?_) I.bare
 ·have e:b=it:=by simpa using hb
  subst e;exact⟨h1,hL,h2,h3⟩
 ·obtain⟨o,es,ep,ho,r⟩:=hm;exact⟨o,es,ep,k _ o (Ne.symm hL) ho,r⟩
 ·refine(I.aA b u e).me (λc v hc q=>k c v ?_ q) (λ_ q=>q) λ_ _ q=>q;rcases hc with z|z
  ·rw[z];exact Az b u e
  ·exact Az c _ z
theorem Inv.tok (I:Inv X pins σ H s)(t:Nat):Inv X pins σ H { s with toks:=t }:=I.un (h':=s.heap) (t':=t) Un.refl I.aA
theorem Inv.kept {t':Nat}(I:Inv X pins σ H s)(k:∀ b u,s.heap.get? b=some u->h'.get? b=some u):Inv X pins σ H { s with heap:=h',toks:=t' }:=I.un (Un.kept k) (I.aA.kept k)
theorem Inv.laid {a:Addr}{o:HO}{t':Nat}(I:Inv X pins σ H s)(k:∀ b u,s.heap.get? b=some u->h'.get? b=some u)(hp:s.heap.objs.size<=a)(new:cP X.prog X.w (upd H a o) h' a o) :
  Inv X pins σ (upd H a o) { s with heap:=h',toks:=t' }:=I.un (Un.laid k hp (I.aA.fresh hp)) (I.aA.laid k hp new)
theorem Inv.write {x e:Addr}{o:HO}{t':Nat}(I:Inv X pins σ H s)(mu:n6 (H x))(he:e=x\/H e=some (.own x))(k:∀ b u,b≠e->s.heap.get? b=some u->h'.get? b=some u)(mf:∃ u,h'.get? e=some u)
  (new:cP X.prog X.w (upd H x o) h' x o):Inv X pins σ (upd H x o) { s with heap:=h',toks:=t' }:=I.un (Un.write mu he k mf) (I.aA.write mu he k mf new)
theorem Inv.AA {AB:aP}(I:Inv X pins σ H s)(h:∀ p∈AB,s.heap.get? p.1=some p.2/\H p.1=none/\p.1≠X.env.locals/\p.1∉X.fs/\∀ v,p.2.data≠.cell v):Inv X AB σ H s:=
 ⟨I.ok,I.os,I.bare,I.base,I.loc,I.cell,I.free,I.gn,λp hp=>(mem_append.mp hp).elim (λz=>I.pin p (mem_append_left _ z)) (h p),I.aA,I.len⟩
theorem AD {N:aq}(hN:N.Nodup){i j:Nat}{x:Str}(a:N[i]?=some x)(b:N[j]?=some x):i=j:=by
 obtain⟨h1,e1⟩:=c6 a;obtain⟨h2,e2⟩:=c6 b;exact(getElem_inj hN).mp (e1.trans e2.symm)
theorem AE {M:Model}{A:Around}{E:aG}{i:Nat}{x:Str}{v:V}{u:Value}{Q:Unit->Shared->Prop}(I:Inv X pins σ H s)(hN:X.N.Nodup)(hi:X.N[i]?=some x)(hx:Loc X.env.scope x)(r:RelV v u)
  (h:∀ s',Inv X pins (σ.set i (some v)) H s'->(∃ a,Heap.SameBut a s.heap s'.heap/\(a=X.env.locals\/X.env.cells.lookup x=some a))->Q () s')(hf:X.fn x=true\/X.env.scope.names.lookup x=some .local:=by first|exact .inl rfl|exact .inr rfl|assumption):wpAny M A (storeName X.env x u) Q E s:=by
 obtain⟨m,hn,hl⟩:=id I.loc;have JW:(X.env.scope.kind==.class||(X.env.scope.kind==.module&&X.env.locals != X.env.globals))=false:=by rw[I.ok.kind];rfl
 have AF:i<σ.length:=dE (c6 hi).1 I.len;have kQ:=I.kQ
 have tracked:∀{a:Addr}{h':Heap},(∃ o,s.heap.get? a=some o/\H a=none)->Heap.SameBut a s.heap h'->cq X.prog X.w H h':=λ{a h'} ha hs b ob e=>by
  obtain⟨_,_,qo⟩:=ha;refine(I.aA b ob e).me (λc w' hc q=>(hs.2 c ?_).trans q) (λ_ q=>q) λ_ _ q=>q;rintro rfl;rcases hc with rfl|hc
  ·rw[qo] at e;cases e
  ·rw[qo] at hc;cases hc
 rcases hx with hk|hk
 ·refine wpAny_storeName_local hk hn (λh' fw hs=>?_) JW;obtain⟨oL,_,_,JX,_⟩:=id hn;refine h _ ⟨I.ok,I.os,I.bare,⟨λb o e n hb hx=>?_,λb o e n hb hx=>?_,I.base.free,λb o e hx=>?_,I.base.jJ,I.base.jd,I.base.jK⟩,⟨_,fw,λj y v' e1 e2 e3=>?_⟩,λy c e=>?_,I.free,I.gn,λp hp=>?_,tracked ⟨oL,JX,I.free⟩ hs,by simpa using I.len⟩ ⟨_,hs,.inl rfl⟩
  ·exact(hs.2 b (bI (dE (a0 e) I.ok.above))).trans (I.base.keep b o e n hb hx)
  ·obtain⟨sl,e1⟩:=I.base.slot b o e n hb hx;exact⟨sl,(hs.2 b (bI (dE (a0 e) I.ok.above))).trans e1⟩
  ·obtain⟨o',e1⟩:=I.base.there b o e hx;exact⟨o',(hs.2 b (bI (dE (a0 e) I.ok.above))).trans e1⟩
  ·by_cases hj:j=i
   ·subst hj;rw[hi] at e1;cases e1;rw[getElem?_set_self AF] at e2;cases e2;exact⟨u,r,.inl ⟨hk,by simp⟩⟩
   ·rw[getElem?_set_ne (Ne.symm hj)] at e2;obtain⟨u',r',q⟩:=hl j y v' e1 e2 e3;refine⟨u',r',?_⟩;rcases q with ⟨k,e⟩|⟨k,c,e,z⟩
    ·refine .inl ⟨k,?_⟩;have:y≠x:=λe=>hj (AD hN e1 (e▸hi));simp [this,e]
    ·exact .inr ⟨k,c,e,z.sameBut hs (kQ y c e)⟩
  ·obtain⟨w',z⟩:=I.cell y c e;exact⟨w',z.sameBut hs (kQ y c e)⟩
  ·obtain⟨e,n,ne,nf,d⟩:=I.pin p hp;exact⟨(hs.2 p.1 ne).trans e,n,ne,nf,d⟩
 ·have uT:X.fn x=true:=by
   rcases hf with z|z
   ·exact z
   ·rw[z] at hk;cases hk
  obtain⟨c,hc⟩:=I.ok.has x (.inl hk);obtain⟨w',z⟩:=I.cell x c hc;refine wpAny_storeName_cell I.ok.kind hk hc z (λh' c8 hs=>?_);obtain⟨oc,AG,JY⟩:=id z;refine h { s with heap:=h' } ⟨I.ok,I.os,I.bare,⟨λb o e n hb hx=>?_,λb o e n hb hx=>?_,I.base.free,λb o e hx=>?_,I.base.jJ,I.base.jd,I.base.jK⟩,⟨m,hn.sameBut hs (Ne.symm (kQ x c hc)),λj y v' e1 e2 e3=>?_⟩,λy c' e=>?_,I.free,I.gn,λp hp=>?_,tracked ⟨oc,AG,I.gn x c hc⟩ hs,by simpa using I.len⟩ ⟨c,hs,.inr hc⟩
  ·exact(hs.2 b (bI (dE (a0 e) (I.ok.mh x c uT hc)))).trans (I.base.keep b o e n hb hx)
  ·obtain⟨sl,e1⟩:=I.base.slot b o e n hb hx;exact⟨sl,(hs.2 b (bI (dE (a0 e) (I.ok.mh x c uT hc)))).trans e1⟩
  ·obtain⟨o',e1⟩:=I.base.there b o e hx;exact⟨o',(hs.2 b (bI (dE (a0 e) (I.ok.mh x c uT hc)))).trans e1⟩
  ·by_cases hj:j=i
   ·subst hj;rw[hi] at e1;cases e1;rw[getElem?_set_self AF] at e2;cases e2;exact⟨u,r,.inr ⟨.inl hk,c,hc,c8⟩⟩
   ·rw[getElem?_set_ne (Ne.symm hj)] at e2;obtain⟨u',r',q⟩:=hl j y v' e1 e2 e3;refine⟨u',r',?_⟩;rcases q with q|⟨k,c',e,z'⟩
    ·exact .inl q
    ·refine .inr ⟨k,c',e,z'.sameBut hs ?_⟩;rintro rfl;exact hj (AD hN e1 (I.ok.inj _ _ _ e hc▸hi))
  ·by_cases AH:c'=c
   ·subst AH;exact⟨_,c8⟩
   ·obtain⟨w2,z2⟩:=I.cell y c' e;exact⟨w2,z2.sameBut hs AH⟩
  ·obtain⟨e,n,ne,nf,d⟩:=I.pin p hp;refine⟨(hs.2 p.1 ?_).trans e,n,ne,nf,d⟩;intro q;rw[q,AG] at e;have q':oc=p.2:=Option.some.inj e;exact d w' (by rw[<- q'];exact JY)
theorem AI {M:Model}{A:Around}{E:aG}{i:Nat}{x:Str}{v:V}{u:Value}{Q:Unit->Shared->Prop}(I:Inv X pins σ H s)(hN:X.N.Nodup)(hi:X.N[i]?=some x)(hx:Loc X.env.scope x)(r:RelV v u)
  (h:∀ s',Inv X pins (σ.set i (some v)) H s'->Q () s')(hf:X.fn x=true\/X.env.scope.names.lookup x=some .local:=by first|exact .inl rfl|exact .inr rfl|assumption):wpAny M A (storeName X.env x u) Q E s:=
 AE I hN hi hx r (λs' I' _=>h s' I') hf
theorem Inv.AJ {s':Shared}{ch:List Addr}(I:Inv X pins σ H s)(ho:s'.os=s.os)(u:Un (g7 X.stack) ch H H' s.heap s'.heap)(aA:cq X.prog X.w H' s'.heap)(hg:AllBare s'.gens)
  (iH:∀ b∈ch,(b∈X.ex\/X.c7.heap.objs.size<=b)/\b≠X.env.locals/\(∀ x c,X.env.cells.lookup x=some c->c≠b)/\∀ p∈X.pn++pins,p.1≠b):Inv X pins σ H' s':=by
 obtain⟨h',g',d',t',o'⟩:=s';have e:o'=s.os:=ho;subst e;exact I.call (g':=g') (t':=t') (d':=d') u aA hg iH
end
abbrev XK:=Value->Option Addr->Hp->Prop
abbrev St:=List (Option V)
abbrev VK:=V->Hp->Prop
abbrev TE:=St->Hp->VK->Prop
abbrev TT:=St->Hp->(Bool->Hp->Prop)->Prop
abbrev TA:=St->Hp->(Zv->Hp->Prop)->Prop
structure Ends where
 nx:St->Hp->Prop
 rt:VK
 bk:St->Hp->Prop:=λ_ _=>False
 ct:St->Hp->Prop:=λ_ _=>False
abbrev TS:=Ends->St->Hp->Prop
def EP (X:Cx)(pins:aP)(σ:St)(Q:VK)(u:Value)(s':Shared):Prop:=∃ v H',Inv X pins σ H' s'/\RelV v u/\Q v H'
def TP (X:Cx)(pins:aP)(σ:St)(Q:Bool->Hp->Prop)(b:Bool)(s':Shared):Prop:=∃ H',Inv X pins σ H' s'/\Q b H'
def AP (X:Cx)(pins:aP)(σ:St)(Q:Zv->Hp->Prop)(us:aC)(s':Shared):Prop:=∃ vs H',Inv X pins σ H' s'/\Vals vs us/\Q vs H'
def SP (X:Cx)(pins:aP)(D:Ends)(f:Flow)(s':Shared):Prop:=
 match f with
 |.next=>∃ aH H',Inv X pins aH H' s'/\D.nx aH H'
 |.brk=>∃ aH H',Inv X pins aH H' s'/\D.bk aH H'
 |.cont=>∃ aH H',Inv X pins aH H' s'/\D.ct aH H'
 |.ret u=>∃ v aH H',Inv X pins aH H' s'/\RelV v u/\D.rt v H'
def PE (X:Cx)(e:Expr)(t:TE):Prop:=
 ∀(pins:aP)(s:Shared)(σ:St)(H:Hp)(Q:VK),Inv X pins σ H s->t σ H Q->wpAny (model X.prog X.w) X.A (eval e X.env) (EP X pins σ Q) X.xe s
def PT (X:Cx)(e:Expr)(t:TT):Prop:=
 ∀(pins:aP)(s:Shared)(σ:St)(H:Hp)(Q:Bool->Hp->Prop),Inv X pins σ H s->t σ H Q->wpAny (model X.prog X.w) X.A (isTrue e X.env (eval e X.env)) (TP X pins σ Q) X.xe s
def PW (X:Cx)(e:Expr)(t:TT):Prop:=
 ∀(whole:Sem Value)(pins:aP)(s:Shared)(σ:St)(H:Hp)(Q:Bool->Hp->Prop),Inv X pins σ H s->t σ H Q->wpAny (model X.prog X.w) X.A (isTrue e X.env whole) (TP X pins σ Q) X.xe s
theorem PW.pt {X:Cx}{e:Expr}{t:TT}(h:PW X e t):PT X e t:=h _
def PA (X:Cx)(es:List Expr)(t:TA):Prop:=
 ∀(pos:Pos)(pins:aP)(s:Shared)(σ:St)(H:Hp)(Q:Zv->Hp->Prop),Inv X pins σ H s->t σ H Q->wpAny (model X.prog X.w) X.A (spliced (backTo pos (starEach es X.env))) (AP X pins σ Q) X.xe s
def PS (X:Cx)(st:Stmt)(t:TS):Prop:=
 ∀(pins:aP)(s:Shared)(σ:St)(H:Hp)(D:Ends),Inv X pins σ H s->t D σ H->wpAny (model X.prog X.w) X.A (exec st X.env) (SP X pins D) X.xe s
def cv (X:Cx)(st:List Stmt)(t:TS):Prop:=
 ∀(pins:aP)(s:Shared)(σ:St)(H:Hp)(D:Ends),Inv X pins σ H s->t D σ H->wpAny (model X.prog X.w) X.A (execs st X.env) (SP X pins D) X.xe s
theorem aD {α:Type}{t:Sem α}{Q Q':α->Shared->Prop}{M:Model}{A:Around}{E:aG}{s:Shared}(h:wpAny M A t Q E s)(hQ:∀ a s,Q a s->Q' a s):wpAny M A t Q' E s:=wpAny_mono h hQ λ_ _ x=>x
section
variable {X:Cx}
theorem bin {a b:Expr}{ta tb:TE}(ha:PE X a ta)(hb:PE X b tb){pins:aP}{s:Shared}{σ:St}{H:Hp}{R:V->V->Hp->Prop}(I:Inv X pins σ H s)(h:ta σ H λx H1=>tb σ H1 λy H2=>R x y H2)
  {α:Type}{Q:α->Shared->Prop}{f:Value->Value->Sem α}
  (hf:∀ v u s2 x y H2,Inv X pins σ H2 s2->RelV x v->RelV y u->R x y H2->wpAny (model X.prog X.w) X.A (f v u) Q X.xe s2) :
  wpAny (model X.prog X.w) X.A (eval a X.env) (λv aT=>wpAny (model X.prog X.w) X.A (eval b X.env) (λu dR=>wpAny (model X.prog X.w) X.A (f v u) Q X.xe dR) X.xe aT) X.xe s:=by
 refine aD (ha pins s σ H _ I h) λv s1 ⟨x,H1,I1,r1,q1⟩=>?_;refine aD (hb pins s1 σ H1 _ I1 q1) λu s2 ⟨y,H2,I2,r2,q2⟩=>?_;exact hf v u s2 x y H2 I2 r1 r2 q2
def AK (i:Nat):TE:=λσ H Q=>∃ v,σ[i]?=some (some v)/\Q v H
def tC (v:V):TE:=λ_ H Q=>Q v H
theorem dY {i:Nat}{x:Str}{pos:Pos}(hN:X.N[i]?=some x)(hv:di X.env.scope x)(hd:(x==("__debug__":Str))=false:=by decide)(bJ:(x==("__classdict__":Str))=false:=by decide):PE X (.Name x pos) (AK i):=by
 intro pins s σ H Q I h;obtain⟨v,e,h⟩:=h;obtain⟨m,hn,hl⟩:=I.loc;obtain⟨u,r,l⟩:=hl i x v hN e hv;have fin:EP X pins σ Q u s:=⟨v,H,I,r,h⟩;rcases l with ⟨hk,hm⟩|⟨hk,c,hc,AL⟩
 ·exact wpAny_Name (wpAny_loadName_local I.ok.kind hk hn hm fin) hd
 ·rcases hk with hk|hk
  ·exact wpAny_Name (wpAny_loadName_cell I.ok.kind hk hc AL fin) hd
  ·exact wpAny_Name (wpAny_loadName_free I.ok.kind hk hc AL fin bJ) hd
theorem cQ {i j pos}:PE X (.Constant (.int i) j pos) (tC (.int i)):=λ_ _ _ H _ I h=>wpAny_Constant_int ⟨.int i,H,I.tok _,⟨_,rfl⟩,h⟩
theorem JZ {b j pos}:PE X (.Constant (.bool b) j pos) (tC (.bl b)):=λ_ _ _ H _ I h=>Constant_bool ⟨.bl b,H,I,rfl,h⟩
theorem J0 {j pos}:PE X (.Constant .none j pos) (tC .non):=λ_ _ _ H _ I h=>Constant_none ⟨.non,H,I,rfl,h⟩
theorem cR {x j pos}:PE X (.Constant (.str x) j pos) (tC (.str x)):=λ_ _ _ H _ I h=>Calls.Constant_str ⟨.str x,H,I.tok _,⟨_,rfl⟩,h⟩
def Gl (X:Cx)(x:Str):Prop:=X.env.kindOf x=some .globalImplicit
theorem AM {E:aG}{pins:aP}{s:Shared}{σ:St}{H:Hp}{x:Str}{u:Value}{pos:Pos}{Q:aG}(I:Inv X pins σ H s)(hg:Gl X x)(hm:X.mg x=some u)(h:Q u s)
  (hd:(x==("__debug__":Str))=false:=by decide):wpAny (model X.prog X.w) X.A (eval (.Name x pos) X.env) Q E s:=
 Calls.Name_function_global I.ok.kind hg (Calls.loadGlobal_global (by rw[I.ok.glob];exact I.mod.glob.keeps I.bk) hm h) hd
theorem mj {E:aG}{pins:aP}{s:Shared}{σ:St}{H:Hp}{x:Str}{u:Value}{pos:Pos}{Q:aG}(I:Inv X pins σ H s)(hg:Gl X x)(hm:X.mg x=none)(hv:bootBuiltins x=some u)(h:Q u s)
  (hn:x≠"__name__":=by decide)(hd:(x==("__debug__":Str))=false:=by decide):wpAny (model X.prog X.w) X.A (eval (.Name x pos) X.env) Q E s:=by
 obtain⟨mb,h1,h2⟩:=I.mod.blt;exact Calls.Name_function_global I.ok.kind hg (Calls.loadGlobal_builtin (by rw[I.ok.glob];exact I.mod.glob.keeps I.bk) hm (by rw[I.ok.blt];exact h1.keeps I.bk) ((h2 x hn).trans hv) h) hd
theorem AO {x:Str}{v:V}{u:Value}{pos:Pos}(hg:Gl X x)(hm:X.mg x=some u)(r:RelV v u)(hd:(x==("__debug__":Str))=false:=by decide):PE X (.Name x pos) (tC v):=
 λ_ _ _ H _ I h=>AM I hg hm ⟨v,H,I,r,h⟩ hd
theorem J1 {x:Str}{v:V}{u:Value}{pos:Pos}(hg:Gl X x)(hm:X.mg x=none)(hv:bootBuiltins x=some u)(r:RelV v u)(hn:x≠"__name__":=by decide)(hd:(x==("__debug__":Str))=false:=by decide):PE X (.Name x pos) (tC v):=
 λ_ _ _ H _ I h=>mj I hg hm hv ⟨v,H,I,r,h⟩ hn hd
def J2 (ta tb:TE)(k:Int->Int->Hp->Prop):St->Hp->Prop:=λσ H=>ta σ H λx H1=>tb σ H1 λy H2=>∃ i j,x=.int i/\y=.int j/\k i j H2
def iI (ta tb:TE):TE:=λσ H Q=>J2 ta tb (λi j H2=>Q (.int (i-j)) H2) σ H
variable {a b:Expr}{ta tb:TE}{pos:Pos}
def PC (X:Cx)(op:CmpOp)(a b:Expr)(t:TE):Prop:=
 ∀(pins:aP)(s:Shared)(σ:St)(H:Hp)(Q:VK),Inv X pins σ H s->t σ H Q ->
  wpAny (model X.prog X.w) X.A (eval a X.env) (λv aT=>wpAny (model X.prog X.w) X.A (eval b X.env) (λu dR=>wpAny (model X.prog X.w) X.A (compareOp op v u) (EP X pins σ Q) X.xe dR) X.xe aT) X.xe s
theorem J_ (b:Expr){op:CmpOp}(h:op≠.In)(h2:op≠.NotIn):behindInMarks op b=false:=by
 have e1:(op==CmpOp.In)=false:=by cases op<;>first|rfl|exact absurd rfl h
 have e2:(op==CmpOp.NotIn)=false:=by cases op<;>first|rfl|exact absurd rfl h2
 cases b<;>simp [behindInMarks,e1,e2]
def tB (t:TE):TT:=λσ H Q=>t σ H λx H1=>∃ c,x=.bl c/\Q c H1
theorem AQ {op:CmpOp}{t:TE}(h:PC X op a b t)(h1:behindInMarks op b=false:=by first|exact J_ _ (by decide) (by decide)|rfl):PT X (.Compare a [op] [b] pos) (tB t):=by
 intro pins s σ H Q I hw;refine wpAny_isTrue_Compare1 (aD (h pins s σ H _ I hw) λv s1 h1=>aD h1 λu s2 h2=>aD h2 λc s3 ⟨x,H1,I1,r1,q1⟩=>?_) h1;obtain⟨d,rfl,q⟩:=q1;cases r1;exact wpAny_truthy_bool ⟨H1,I1,q⟩
variable {tA qp:TT}{rest:List Expr}
def J' (t u:TT):TT:=λσ H Q=>t σ H λc H1=>if c=true then u σ H1 Q else Q false H1
def Ka (t u:TT):TT:=λσ H Q=>t σ H λc H1=>if c=true then Q true H1 else u σ H1 Q
def Kc (t:TT):TT:=λσ H Q=>t σ H λc H1=>Q (!c) H1
theorem AR (ha:PT X a tA):PW X (.BoolOp .And [a] pos) tA:=by
 intro wh pins s σ H Q I h;refine isTrue_and (aD (ha pins s σ H Q I h) λc s1 e=>?_)
 cases c with
 |true=>exact isTrue_and_nil e
 |false=>exact e
theorem Ke (ha:PT X a tA):PW X (.BoolOp .Or [a] pos) tA:=by
 intro wh pins s σ H Q I h;refine isTrue_or (aD (ha pins s σ H Q I h) λc s1 e=>?_)
 cases c with
 |false=>exact isTrue_or_nil e
 |true=>exact e
theorem AU (ha:PT X a tA)(hb:PW X (.BoolOp .And (b::rest) pos) qp):PW X (.BoolOp .And (a::b::rest) pos) (J' tA qp):=by
 intro wh pins s σ H Q I h;refine isTrue_and (aD (ha pins s σ H _ I h) λc s1 ⟨H1,I1,q1⟩=>?_)
 cases c with
 |true=>exact hb wh pins s1 σ H1 Q I1 q1
 |false=>exact⟨H1,I1,q1⟩
theorem Kf (ha:PT X a tA)(hb:PW X (.BoolOp .Or (b::rest) pos) qp):PW X (.BoolOp .Or (a::b::rest) pos) (Ka tA qp):=by
 intro wh pins s σ H Q I h;refine isTrue_or (aD (ha pins s σ H _ I h) λc s1 ⟨H1,I1,q1⟩=>?_)
 cases c with
 |true=>exact⟨H1,I1,q1⟩
 |false=>exact hb wh pins s1 σ H1 Q I1 q1
theorem Kg (ha:PT X a tA):PT X (.UnaryOp .Not a pos) (Kc tA):=by
 intro pins s σ H Q I h;exact isTrue_not (ha pins s σ H (λc H1=>Q (!c) H1) I h)
def Kh (ta tb:TE):TE:=λσ H Q=>ta σ H λx H1=>∃ c,x=.bl c/\if c=true then tb σ H1 Q else Q (.bl false) H1
def Ki (ta:TE):TE:=λσ H Q=>ta σ H λx H1=>∃ c,x=.bl c/\Q (.bl (!c)) H1
theorem Kj {op}{t:TE}(h:PE X a t):PE X (.BoolOp op [a] pos) t:=λpins s σ H Q I hw=>BoolOp_one (h pins s σ H Q I hw)
theorem Kk (ha:PE X a ta)(hb:PE X (.BoolOp .And (b::rest) pos) tb):PE X (.BoolOp .And (a::b::rest) pos) (Kh ta tb):=by
 intro pins s σ H Q I h;refine BoolOp_and (aD (ha pins s σ H _ I h) λv s1 ⟨x,H1,I1,r1,q1⟩=>?_);obtain⟨c,rfl,q1⟩:=q1;cases r1;refine wpAny_truthy_bool ?_
 cases c with
 |true=>exact hb pins s1 σ H1 Q I1 q1
 |false=>exact⟨.bl false,H1,I1,rfl,q1⟩
theorem Kl (ha:PE X a ta):PE X (.UnaryOp .Not a pos) (Ki ta):=by
 intro pins s σ H Q I h;refine UnaryOp_ (aD (ha pins s σ H _ I h) λv s1 ⟨x,H1,I1,r1,q1⟩=>?_);obtain⟨c,rfl,q1⟩:=q1;cases r1;exact not_of (wpAny_truthy_bool ⟨.bl (!c),H1,I1,rfl,q1⟩)
def Km (t:TT)(ta tb:TE):TE:=λσ H Q=>t σ H λc H1=>if c=true then ta σ H1 Q else tb σ H1 Q
theorem Ko {c:Expr}(hc:PT X c tA)(ha:PE X a ta)(hb:PE X b tb):PE X (.IfExp c a b pos) (Km tA ta tb):=by
 intro pins s σ H Q I h;refine wpAny_IfExp (aD (hc pins s σ H _ I h) λd s1 ⟨H1,I1,q1⟩=>?_)
 cases d with
 |true=>exact ha pins s1 σ H1 Q I1 q1
 |false=>exact hb pins s1 σ H1 Q I1 q1
end
def aO (K:Frag)(H:Hp)(a:Addr)(xs:Zv):Prop:=
 Rd H a (.lst xs) \/
  ∃(o:Obj)(its:Array Value)(n:Nat),K.lookup a=some o/\o.cls=.type "list"/\o.dict=none/\o.data=.seq its n/\its.size<=sizeLine/\Vals xs its.toList
def bq (K:Frag)(H:Hp)(a:Addr)(xs:Zv):Prop:=
 Rd H a (.tup xs) \/
  ∃(o:Obj)(its:Array Value)(n:Nat),K.lookup a=some o/\o.cls=.type "tuple"/\o.data=.seq its n/\its.size<=sizeLine/\Vals xs its.toList
def Kq:Value->Option V
 |.none=>some .non
 |.bool b=>some (.bl b)
 |.int i _=>some (.int i)
 |.str x _=>some (.str x)
 |.bytes b _=>some (.fW b)
 |.float b _=>some (.md b)
 |.ref a=>some (.ref a)
 |.type n=>some (.ty n)
 |_=>none
theorem RelV.abs {x:V}{u:Value}(r:RelV x u):Kq u=some x:=by
 cases x with
 |non=>cases r;rfl
 |bl _=>cases r;rfl
 |int _=>obtain⟨t,rfl⟩:=r;rfl
 |str _=>obtain⟨t,rfl⟩:=r;rfl
 |fW _=>obtain⟨t,rfl⟩:=r;rfl
 |md _=>obtain⟨t,rfl⟩:=r;rfl
 |ref _=>cases r;rfl
 |ty _=>cases r;rfl
theorem RelV.inj {x y:V}{u:Value}(r:RelV x u)(q:RelV y u):x=y:=Option.some.inj (r.abs.symm.trans q.abs)
theorem Vals.inj:∀{xs ys:Zv}{us:aC},Vals xs us->Vals ys us->xs=ys
 |_,_,_,.nil,.nil=>rfl
 |_,_,_,.cons r t,.cons r' t'=>by rw[r.inj r',Vals.inj t t']
section
variable {X:Cx}{pins:aP}{σ:St}{H:Hp}{s:Shared}{a:Addr}{xs ys:Zv}
theorem aO.of {K:Frag}(h:H a=some (.lst xs)):aO K H a xs:=.inl (.inl h)
theorem bq.of {K:Frag}(h:H a=some (.tup xs)):bq K H a xs:=.inl (.inl h)
theorem Inv.list (I:Inv X pins σ H s)(h:aO X.K H a xs):∃ its:aC,Vals xs its/\PlainL s.heap a its.toArray/\xs.length<=sizeLine:=by
 rcases h with h|⟨o,its,n,hk,hc,hd,hs,hz,r⟩
 ·obtain⟨z,its,n,r,e⟩:=h.ok I.aA;exact⟨its,r,⟨_,n,e,rfl,rfl,rfl⟩,z⟩
 ·refine⟨its.toList,r,⟨o,n,I.dG a o hk,hc,hd,by simpa using hs⟩,?_⟩;have e:=r.length;simp only[Array.length_toList] at e;omega
theorem Inv.tuple (I:Inv X pins σ H s)(h:bq X.K H a xs):∃ its:aC,Vals xs its/\IsTup s.heap a its.toArray/\xs.length<=sizeLine:=by
 rcases h with h|⟨o,its,n,hk,hc,hs,hz,r⟩
 ·obtain⟨z,its,r,p⟩:=h.ok I.aA;exact⟨its,r,p,z⟩
 ·refine⟨its.toList,r,⟨o,I.dG a o hk,hc,n,by simpa using hs⟩,?_⟩;have e:=r.length;simp only[Array.length_toList] at e;omega
theorem Inv.AV (I:Inv X pins σ H s)(h:aO X.K H a xs)(h':aO X.K H a ys):xs=ys:=by
 obtain⟨its,r,⟨o,n,e,_,_,d⟩,_⟩:=I.list h;obtain⟨its',r',⟨o',n',e',_,_,d'⟩,_⟩:=I.list h';rw[e] at e';cases e';rw[d] at d';injection d' with d1 _
 have:its=its':=by simpa using congrArg Array.toList d1
 subst this;exact r.inj r'
theorem Inv.uU (I:Inv X pins σ H s)(h:bq X.K H a xs)(h':bq X.K H a ys):xs=ys:=by
 obtain⟨its,r,⟨o,e,_,n,d⟩,_⟩:=I.tuple h;obtain⟨its',r',⟨o',e',_,n',d'⟩,_⟩:=I.tuple h';rw[e] at e';cases e';rw[d] at d';injection d' with d1 _
 have:its=its':=by simpa using congrArg Array.toList d1
 subst this;exact r.inj r'
end
abbrev Cx.iJ (X:Cx)(E:aG):Cx:={ X with xe:=E }
abbrev Cx.jL (X:Cx):Cx:=X.iJ λ_ _=>False
theorem Cx.Ok.iJ {X:Cx}(ok:X.Ok)(E:aG):(X.iJ E).Ok:=
 ⟨ok.mod,ok.kind,ok.glob,ok.blt,ok.above,ok.inj,ok.has,ok.mh,ok.hd,ok.frames,ok.oe,ok.uS,ok.bs,ok.jf,ok.mi,ok.og,ok.gm,ok.kO⟩
theorem Cx.Ok.jM {X:Cx}{E:aG}(ok:(X.iJ E).Ok):X.Ok:=
 ⟨ok.mod,ok.kind,ok.glob,ok.blt,ok.above,ok.inj,ok.has,ok.mh,ok.hd,ok.frames,ok.oe,ok.uS,ok.bs,ok.jf,ok.mi,ok.og,ok.gm,ok.kO⟩
section
variable {X:Cx}{pins:aP}{σ:St}{H:Hp}{s:Shared}{E:aG}
theorem Inv.iJ (I:Inv X pins σ H s)(E:aG):Inv (X.iJ E) pins σ H s:=⟨I.ok.iJ E,I.os,I.bare,I.base,I.loc,I.cell,I.free,I.gn,I.pin,I.aA,I.len⟩
theorem Inv.jM (I:Inv (X.iJ E) pins σ H s):Inv X pins σ H s:=⟨I.ok.jM,I.os,I.bare,I.base,I.loc,I.cell,I.free,I.gn,I.pin,I.aA,I.len⟩
theorem SP.jM {D:Ends}{f:Flow}{s':Shared}(h:SP (X.iJ E) pins D f s'):SP X pins D f s':=by
 cases f with
 |next=>obtain⟨aH,H',I,q⟩:=h;exact⟨aH,H',I.jM,q⟩
 |brk=>obtain⟨aH,H',I,q⟩:=h;exact⟨aH,H',I.jM,q⟩
 |cont=>obtain⟨aH,H',I,q⟩:=h;exact⟨aH,H',I.jM,q⟩
 |ret u=>obtain⟨v,aH,H',I,r,q⟩:=h;exact⟨v,aH,H',I.jM,r,q⟩
theorem cv.jL {st:List Stmt}{t:TS}(h:cv X.jL st t):cv X st t:=λpins s σ H D I hw=>
 wpAny_mono (h pins s σ H D (I.iJ _) hw) (λ_ _ q=>q.jM) λ_ _ z=>False.elim z
end
section
variable {X:Cx}{st:Stmt}{rest:List Stmt}{t u:TS}{e:Expr}{te:TE}{pos:Pos}
def Kr:TS:=λD σ H=>D.nx σ H
def Ks (t u:TS):TS:=λD σ H=>t { D with nx:=u D } σ H
theorem qq:cv X [] Kr:=λ_ _ σ H _ I h=>wpAny_execs_nil ⟨σ,H,I,h⟩
theorem eO (h1:PS X st t)(h2:cv X rest u):cv X (st::rest) (Ks t u):=by
 intro pins s σ H D I h;refine wpAny_execs_cons (aD (h1 pins s σ H { D with nx:=u D } I h) λf s1 q=>?_)
 cases f with
 |next=>
  obtain⟨aH,H',I',q⟩:=q;exact h2 pins s1 aH H' D I' q
 |ret v=>exact q
 |brk=>exact q
 |cont=>exact q
theorem jg (h1:PS X st t):cv X [st] t:=by
 intro pins s σ H D I h;refine wpAny_execs_cons (aD (h1 pins s σ H D I h) λf s1 q=>?_)
 cases f with
 |next=>exact wpAny_execs_nil q
 |ret v=>exact q
 |brk=>exact q
 |cont=>exact q
theorem Inv.quiet {pins:aP}{σ:St}{H:Hp}{s:Shared}(I:Inv X pins σ H s):interactive X.env=false:=by simp [interactive,I.ok.kind]
def Kt (te:TE):TS:=λD σ H=>te σ H λ_ H1=>D.nx σ H1
theorem Ku (he:PE X e te)(hs:swapsWith e none pos.line X.env=pure false:=by rfl):PS X (.Expr e pos) (Kt te):=by
 intro pins s σ H D I h;exact wpAny_Expr_any (aD (he pins s σ H _ I h) λv s1 ⟨x,H1,I1,r1,q1⟩=>⟨σ,H1,I1,q1⟩) I.quiet hs
def Kv (te:TE):TS:=λD σ H=>te σ H D.rt
theorem jN (he:PE X e te):PS X (.Return (some e) pos) (Kv te):=by
 intro pins s σ H D I h;exact wpAny_Return_some (aD (he pins s σ H _ I h) λv s1 ⟨x,H1,I1,r1,q1⟩=>⟨x,σ,H1,I1,r1,q1⟩)
def Kw (c:TT)(t u:TS):TS:=λD σ H=>c σ H λb H1=>if b=true then t D σ H1 else u D σ H1
theorem qr {c:Expr}{a b:List Stmt}{tc:TT}(hc:PT X c tc)(ha:cv X a t)(hb:cv X b u):PS X (.If c a b pos) (Kw tc t u):=by
 intro pins s σ H D I h;refine wpAny_If (aD (hc pins s σ H _ I h) λd s1 ⟨H1,I1,q1⟩=>?_)
 cases d with
 |true=>exact ha pins s1 σ H1 D I1 q1
 |false=>exact hb pins s1 σ H1 D I1 q1
end
abbrev TG:=V->St->Hp->(St->Hp->Prop)->Prop
abbrev jh:=Zv->St->Hp->(St->Hp->Prop)->Prop
def PG (X:Cx)(target:Expr)(t:TG):Prop:=
 ∀(pins:aP)(s:Shared)(σ:St)(H:Hp)(v:V)(u:Value)(Q:St->Hp->Prop),Inv X pins σ H s->RelV v u->t v σ H Q ->
  wpAny (model X.prog X.w) X.A (assign target X.env u) (λ_ s'=>∃ aH H',Inv X pins aH H' s'/\Q aH H') X.xe s
def g8 (X:Cx)(ts:List Expr)(t:jh):Prop:=
 ∀(pins:aP)(s:Shared)(σ:St)(H:Hp)(vs:Zv)(us:aC)(Q:St->Hp->Prop),Inv X pins σ H s->Vals vs us->t vs σ H Q ->
  wpAny (model X.prog X.w) X.A (assignInOrder ((assignEach ts X.env).map (·.2)) us) (λ_ s'=>∃ aH H',Inv X pins aH H' s'/\Q aH H') X.xe s
abbrev uV:=V->V->V->Hp->(Hp->Prop)->Prop
def AW (X:Cx)(t:uV):Prop:=
 ∀(pins:aP)(s:Shared)(σ:St)(H:Hp)(o i v:V)(ov iv u:Value)(Q:Hp->Prop),Inv X pins σ H s->RelV o ov->RelV i iv->RelV v u->t o i v H Q ->
  wpAny (model X.prog X.w) X.A (setItem ov iv u) (λ_ s'=>∃ H',Inv X pins σ H' s'/\Q H') X.xe s
section
variable {X:Cx}{pos:Pos}
def AX (i:Nat):TG:=λv σ H Q=>Q (σ.set i (some v)) H
theorem Kx {i:Nat}{x:Str}(hN:X.N.Nodup)(hi:X.N[i]?=some x)(hx:Loc X.env.scope x)(hf:X.fn x=true\/X.env.scope.names.lookup x=some .local:=by first|exact .inl rfl|exact .inr rfl|assumption):PG X (.Name x pos) (AX i):=by
 intro pins s σ H v u Q I r h;exact wpAny_assign_Name (AI I hN hi hx r (λs' I'=>⟨_,H,I',h⟩) hf)
def Ky:jh:=λvs σ H Q=>vs=[]/\Q σ H
def Kz (t:TG)(u:jh):jh:=λvs σ H Q=>∃ v r,vs=v::r/\t v σ H λaH H'=>u r aH H' Q
theorem KA:g8 X [] Ky:=by
 intro pins s σ H vs us Q I r h;obtain⟨e,h⟩:=h;subst e;cases r;exact assignInOrder_nil ⟨σ,H,I,h⟩
theorem KC {e:Expr}{es:List Expr}{t:TG}{u:jh}(h1:PG X e t)(h2:g8 X es u)
  (hs:(assignEach (e::es) X.env).map (·.2)=assign e X.env::(assignEach es X.env).map (·.2):=by rfl):g8 X (e::es) (Kz t u):=by
 intro pins s σ H vs us Q I r h;obtain⟨v,vr,e1,h⟩:=h;subst e1
 cases r with
 |cons r rr=>
  rw[hs];refine assignInOrder_cons (aD (h1 pins s σ H _ _ _ I r h) λ_ s1 ⟨bu,H1,I1,q1⟩=>?_);exact h2 pins s1 bu H1 _ _ Q I1 rr q1
def KD (K:Frag)(n:Nat)(t:jh):TG:=λv σ H Q=>∃ a xs,v=.ref a/\bq K H a xs/\xs.length=n/\t xs σ H Q
theorem KG {es:List Expr}{k:Nat}{t:jh}{n:Nat}(hc:X.calm=true)(h:g8 X es t)
  (hn:(assignEach es X.env).length=n:=by rfl)(fX:(assignEach es X.env).findIdx? (·.1)=none:=by rfl):PG X (.Tuple es k pos) (KD X.K n t):=by
 intro pins s σ H v u Q I r hw;obtain⟨a,xs,e1,hq,hl,hw⟩:=hw;subst e1;cases r;obtain⟨its,rv,ht,hz⟩:=I.tuple hq;refine assign_Tuple_tuple (I.ok.hd hc) ht (by simp [hn,<- hl,rv.length]) fX λh' hx=>?_;have I1:Inv X pins σ H { s with heap:=h' }:=I.kept (t':=s.toks) λb o e=>hx b o (bI (a0 e)) e;exact h pins _ σ H xs _ Q I1 (by simpa using rv) hw
def KH (to ti:TE)(t:uV):TG:=λv σ H Q=>to σ H λo H1=>ti σ H1 λi H2=>t o i v H2 λH3=>Q σ H3
theorem KI {o i:Expr}{to ti:TE}{t:uV}(ho:PE X o to)(hi:PE X i ti)(hs:AW X t)
  (ha:∀ v,assign (.Subscript o i pos) X.env v=(do
   let ov <- holding [v] (eval o X.env)
   let iv <- holding [v,ov] (eval i X.env)
   standAt pos
   holding [v,ov,iv] (setItem ov iv v)
   release [v,ov,iv] []):=by intro _;rfl):PG X (.Subscript o i pos) (KH to ti t):=by
 intro pins s σ H v u Q I r h;rw[ha];refine af (wpAny_holding (aD (ho pins s σ H _ I h) λov s1 ⟨x,H1,I1,r1,q1⟩=>?_));refine af (wpAny_holding (aD (hi pins s1 σ H1 _ I1 q1) λiv s2 ⟨y,H2,I2,r2,q2⟩=>?_));refine af (wpAny_standAt (af (wpAny_holding (aD (hs pins s2 σ H2 x y v ov iv u _ I2 r1 r2 r q2) λ_ s3 ⟨H3,I3,q3⟩=>?_))));exact wpAny_release ⟨σ,H3,I3,q3⟩
def AY (te:TE)(g:TG):TS:=λD σ H=>te σ H λx H1=>g x σ H1 D.nx
theorem AZ {tg e:Expr}{te:TE}{g:TG}(he:PE X e te)(hg:PG X tg g)(hs:swapsWithSole [tg] e pos.line X.env=pure false:=by rfl)(hw:swappedStores [tg] e X.env=pure none:=by rfl)
  (h1:(assignEach [tg] X.env).map (·.2)=[assign tg X.env]:=by rfl):PS X (.Assign [tg] e pos) (AY te g):=by
 intro pins s σ H D I h;refine wpAny_Assign_stores (aD (he pins s σ H _ I h) λv s1 ⟨x,H1,I1,r1,q1⟩=>?_) hs hw;rw[h1];exact aD (hg pins s1 σ H1 x v _ I1 r1 q1) λ_ s2 q=>q
theorem gu {i:Nat}{x:Str}{e:Expr}{te:TE}{pos':Pos}(hN:X.N.Nodup)(hi:X.N[i]?=some x)(hx:Loc X.env.scope x)(he:PE X e te)(hs:swapsWith e (some (.Name x pos')) pos.line X.env=pure false:=by rfl)(hf:X.fn x=true\/X.env.scope.names.lookup x=some .local:=by first|exact .inl rfl|exact .inr rfl|assumption) :
  PS X (.Assign [.Name x pos'] e pos) (AY te (AX i)):=by
 intro pins s σ H D I h;refine wpAny_Assign_Name (aD (he pins s σ H _ I h) λv s1 ⟨y,H1,I1,r1,q1⟩=>?_) hs;exact AI I1 hN hi hx r1 (λs2 I2=>⟨_,H1,I2,q1⟩) hf
end
section
variable {X:Cx}{pos:Pos}
def KJ (c:TT)(tb:TS):TS:=λD σ H=>∃ W:Nat->St->Hp->Prop,(∃ m,W m σ H)/\∀ m σ H,W m σ H ->
 c σ H λb H1=>if b=true then ∃ N:St->Hp->Prop,(∀ aH H',N aH H'->∃ m',m'<m/\W m' aH H')/\tb { D with nx:=N,ct:=N,bk:=D.nx } σ H1 else D.nx σ H1
theorem A0 {c:Expr}{body:List Stmt}{tc:TT}{tb:TS}(hp:PassesOwn (model X.prog X.w) X.A X.env X.xe)(hc:PT X c tc)(hb:cv X body tb):PS X (.While c body [] pos) (KJ tc tb):=by
 intro pins s σ H D I h;obtain⟨W,⟨m0,w0⟩,turn⟩:=h;refine wpAny_While (codeAny_whileLoop (λn s'=>∃ aH H',Inv X pins aH H' s'/\W n aH H') ?_ m0 ⟨σ,H,I,w0⟩);rintro n s1 ⟨bu,H1,I1,w1⟩;refine wpAny_passesOwn hp (aD (hc pins s1 bu H1 _ I1 (turn n bu H1 w1)) λb s2 ⟨H2,I2,q2⟩=>?_)
 cases b with
 |true=>
  obtain⟨N,hN,q2⟩:=q2;rw[if_pos rfl];refine wpAny_passesOwn hp (aD (hb pins s2 bu H2 _ I2 q2) λf s3 q3=>?_)
  cases f with
  |next=>
   obtain⟨cK,H3,I3,n3⟩:=q3;obtain⟨m',hm,w3⟩:=hN cK H3 n3;exact⟨m',hm,cK,H3,I3,w3⟩
  |cont=>
   obtain⟨cK,H3,I3,n3⟩:=q3;obtain⟨m',hm,w3⟩:=hN cK H3 n3;exact⟨m',hm,cK,H3,I3,w3⟩
  |brk=>exact q3
  |ret v=>exact q3
 |false=>
  rw[if_neg Bool.false_ne_true];exact wpAny_execs_nil ⟨bu,H2,I2,q2⟩
end
structure It where
 go:Nat->Hp->Prop
 fJ:Nat->Hp->V->Hp->Prop
 stop:Nat->Hp->Prop
def fY (X:Cx)(pins:aP)(H:Hp)(b:Addr):Prop:=
 H b=none/\b≠X.env.locals/\b∉X.fs/\(b∈X.ex\/X.c7.heap.objs.size<=b)/\(∀ x c,X.env.cells.lookup x=some c->c≠b)/\∀ p∈X.pn++pins,p.1≠b
theorem Inv.jO {X:Cx}{pins:aP}{σ:St}{H H':Hp}{s:Shared}{b:Addr}(I:Inv X pins σ H s)(hb:s.heap.objs.size<=b)(hn:H' b=none):fY X pins H' b:=by
 refine⟨hn,Nat.ne_of_gt (dE I.lt hb),I.JU hb,.inr (bU I.sz hb),λx c e z=>?_,λp hp z=>?_⟩
 ·obtain⟨v,q⟩:=I.cell x c e;exact absurd (dE q.lt (by rw[z];exact hb)) (Nat.lt_irrefl _)
 ·exact absurd (dE (a0 (I.pin p hp).1) (by rw[z];exact hb)) (Nat.lt_irrefl _)
structure Turn (P:Program)(w:World)(K:Frag)(tg:Expr)(J:It)(fp:List Addr)(it:Addr)(tn:Nat->Heap->Prop):Prop where
 mem:it∈fp
 obj:∀ i h,tn i h->∀ b∈fp,∃ o,h.get? b=some o/\∀ v,o.data≠.cell v
 keep:∀ i h h',tn i h->(∀ b∈fp,∀ o,h.get? b=some o->h'.get? b=some o)->tn i h'
 item:∀(X:Cx),X.prog=P->X.w=w->X.K=K->X.calm=true->∀(i:Nat)(pins:aP)(s:Shared)(σ:St)(H:Hp)(E:aG),Inv X pins σ H s->(∀ b∈fp,fY X pins H b)->tn i s.heap->J.go i H ->
  wpAny (model P w) X.A (pyNext (.ref it)) (λr s1=>∃ u,r=some u /\
   wpAny (model P w) X.A (letOwnedTupleGo tg (.ref it) u) (λ_ s2=>∃ x H',Inv X pins σ H' s2/\RelV x u/\J.fJ i H x H'/\tn (i+1) s2.heap/\∀ b∈fp,H' b=none) E s1) E s
 done:∀(X:Cx),X.prog=P->X.w=w->X.K=K->X.calm=true->∀(i:Nat)(pins:aP)(s:Shared)(σ:St)(H:Hp)(E:aG),Inv X pins σ H s->(∀ b∈fp,fY X pins H b)->tn i s.heap->J.stop i H ->
  wpAny (model P w) X.A (pyNext (.ref it)) (λr s1=>r=none/\Inv X pins σ H s1) E s
 self:∀(A:Around)(i:Nat)(s:Shared)(Q:aG)(E:aG),tn i s.heap->Q (.ref it) s->wpAny (model P w) A (pyIter (.ref it)) Q E s
abbrev TI:=St->Hp->(It->Hp->Prop)->Prop
def A5 (X:Cx)(pins:aP)(σ:St)(tg:Expr)(R:It->Hp->Prop)(qt:Value)(s2:Shared):Prop:=
 ∃(it:Addr)(fp:List Addr)(tn:Nat->Heap->Prop)(J:It)(H':Hp),qt=.ref it/\Inv X pins σ H' s2/\Turn X.prog X.w X.K tg J fp it tn/\tn 0 s2.heap/\(∀ b∈fp,fY X pins H' b)/\R J H'
def PI (X:Cx)(tg iter:Expr)(wi:TI):Prop:=
 ∀(pins:aP)(s:Shared)(σ:St)(H:Hp)(R:It->Hp->Prop),Inv X pins σ H s->wi σ H R ->
  wpAny (model X.prog X.w) X.A (eval iter X.env) (λv s1=>wpAny (model X.prog X.w) X.A (pyIter v) (A5 X pins σ tg R) X.xe s1) X.xe s
theorem mn {M:Model}{A:Around}{E:aG}{s:Shared}{tg:Expr}{it:Addr}{u:Value}{o:Obj}{n:String}{vs:Array Value}{Q:Unit->Shared->Prop}(ho:s.heap.get? it=some o)(hc:o.cls=.type n)(hd:o.data=.fields vs)
  (hn:["enumerate","zip","dict_itemiterator","dict_reverseitemiterator","odict_iterator","itertools.zip_longest","itertools.pairwise"].contains n=false)(hQ:Q () s):wpAny M A (letOwnedTupleGo tg (.ref it) u) Q E s:=by
 unfold letOwnedTupleGo
 cases tg<;>first
  |exact ao hQ
  | (cases u<;>first
    |exact ao hQ
    | (refine af (wpAny_load ho ?_)
       rw[hc,hd];show wpAny M A (if (["enumerate","zip","dict_itemiterator","dict_reverseitemiterator","odict_iterator","itertools.zip_longest","itertools.pairwise"].contains n&&vs[0]?==some (rawInt _))=true then _ else _) Q E s;rw[if_neg (by intro h;rw[hn,Bool.false_and] at h;cases h)]
       exact ao hQ))
def kS (K:Frag)(a:Addr):It:=
 ⟨λi H=>∃ xs x,aO K H a xs/\xs[i]?=some x,λi H x H'=>H'=H/\∀ xs,aO K H a xs->xs[i]?=some x,λi H=>∃ xs,aO K H a xs/\xs.length<=i⟩
def uW (K:Frag)(a:Addr):It:=
 ⟨λi H=>∃ xs x,bq K H a xs/\xs[i]?=some x,λi H x H'=>H'=H/\∀ xs,bq K H a xs->xs[i]?=some x,λi H=>∃ xs,bq K H a xs/\xs.length<=i⟩
def qu (lo:Int)(n:Nat):It:=⟨λi _=>i<n,λi H x H'=>H'=H/\x=.int (lo+i),λi _=>n<=i⟩
theorem KL {P:Program}{w:World}{K:Frag}{tg:Expr}(a it:Addr):Turn P w K tg (kS K a) [it] it (λi h=>h.IsListIter it a i) where
 mem:=by simp
 obj:=λi h st b hb=>by
  have e:b=it:=by simpa using hb
  subst e;obtain⟨o,e,c,d⟩:=st;exact⟨o,e,λv z=>by rw[d] at z;cases z⟩
 keep:=λi h h' st k=>st.at λo e=>k it (by simp) o e
 item:=by
  intro X hP hw hK hc i pins s σ H E I hf st hg;subst hP hw hK;obtain⟨xs,x,hq,hx⟩:=hg;obtain⟨its,rv,p,hz⟩:=I.list hq;obtain⟨u,hu,ru⟩:=rv.get hx;obtain⟨f0,f1,f2,f3,f4,f5⟩:=hf it (by simp);refine wpAny_pyNext_list_item st p.isList (x:=u) (by simpa using hu) λh' st' sb=>?_;have I1:Inv X pins σ H { s with heap:=h' }:=I.turned (t':=s.toks) (λb o hb e=>(sb.2 b hb).trans e) f0 f1 f3 f4 f5;obtain⟨o,e,c,d⟩:=id st';exact⟨u,rfl,mn (s:={ s with heap:=h' }) e c d (by decide) ⟨x,H,I1,ru,⟨rfl,λys hy=>by rw[I.AV hy hq];exact hx⟩,st',λb hb=>(hf b hb).1⟩⟩
 done:=by
  intro X hP hw hK hc i pins s σ H E I hf st hg;subst hP hw hK;obtain⟨xs,hq,hx⟩:=hg;obtain⟨its,rv,p,hz⟩:=I.list hq;obtain⟨f0,f1,f2,f3,f4,f5⟩:=hf it (by simp);have hl:=rv.length;exact wpAny_pyNext_list_end (I.ok.hd hc) st p.isList (by simp;omega) λh' eb=>⟨rfl,I.turned (t':=s.toks) (λb o hb e=>eb b o hb e) f0 f1 f3 f4 f5⟩
 self:=λ_ _ _ _ _ st h=>wpAny_pyIter_listiter st h
theorem KN {P:Program}{w:World}{K:Frag}{tg:Expr}(a it:Addr):Turn P w K tg (uW K a) [it] it (λi h=>h.IsTupleIter it a i) where
 mem:=by simp
 obj:=λi h st b hb=>by
  have e:b=it:=by simpa using hb
  subst e;obtain⟨o,e,c,d⟩:=st;exact⟨o,e,λv z=>by rw[d] at z;cases z⟩
 keep:=λi h h' st k=>st.at λo e=>k it (by simp) o e
 item:=by
  intro X hP hw hK hc i pins s σ H E I hf st hg;subst hP hw hK;obtain⟨xs,x,hq,hx⟩:=hg;obtain⟨its,rv,p,hz⟩:=I.tuple hq;obtain⟨u,hu,ru⟩:=rv.get hx;obtain⟨f0,f1,f2,f3,f4,f5⟩:=hf it (by simp);refine wpAny_pyNext_tuple_item st (show s.heap.IsTuple a its.toArray from p) (x:=u) (by simpa using hu) λh' st' sb=>?_;have I1:Inv X pins σ H { s with heap:=h' }:=I.turned (t':=s.toks) (λb o hb e=>(sb.2 b hb).trans e) f0 f1 f3 f4 f5;obtain⟨o,e,c,d⟩:=id st';exact⟨u,rfl,mn (s:={ s with heap:=h' }) e c d (by decide) ⟨x,H,I1,ru,⟨rfl,λys hy=>by rw[I.uU hy hq];exact hx⟩,st',λb hb=>(hf b hb).1⟩⟩
 done:=by
  intro X hP hw hK hc i pins s σ H E I hf st hg;subst hP hw hK;obtain⟨xs,hq,hx⟩:=hg;obtain⟨its,rv,p,hz⟩:=I.tuple hq;obtain⟨f0,f1,f2,f3,f4,f5⟩:=hf it (by simp);have hl:=rv.length;exact wpAny_pyNext_tuple_end (I.ok.hd hc) st (show s.heap.IsTuple a its.toArray from p) (by simp;omega) λh' eb=>⟨rfl,I.turned (t':=s.toks) (λb o hb e=>eb b o hb e) f0 f1 f3 f4 f5⟩
 self:=λ_ _ _ _ _ st h=>wpAny_pyIter_tupleiter st h
theorem KO {P:Program}{w:World}{K:Frag}{tg:Expr}(it:Addr)(lo:Int)(n:Nat):Turn P w K tg (qu lo n) [it] it (λi h=>IsRangeIter h it (lo+(i:Nat)*1) ((n:Int)-(i:Nat)) 1) where
 mem:=by simp
 obj:=λi h st b hb=>by
  have e:b=it:=by simpa using hb
  subst e
  exact⟨_,st,λv z=>by
   have z':Data.fields _=Data.cell v:=z
   cases z'⟩
 keep:=λi h h' st k=>k it (by simp) _ st
 item:=by
  intro X hP hw hK hc i pins s σ H E I hf st hg;subst hP hw hK;obtain⟨f0,f1,f2,f3,f4,f5⟩:=hf it (by simp);have W:=Walks.range (prog:=X.prog) (w:=X.w) (I.ok.hd hc) it lo 1 n;refine W.item i s _ _ hg st λv h' tk hv st' kk=>?_;obtain⟨t,rfl⟩:=hv;have I1:Inv X pins σ H { s with heap:=h',toks:=tk }:=I.turned (λb o hb e=>kk b o (by simpa using hb) e) f0 f1 f3 f4 f5;refine⟨_,rfl,mn (s:={ s with heap:=h',toks:=tk }) (n:="range_iterator") st' rfl rfl (by decide) ⟨.int (lo+i),H,I1,⟨t,?_⟩,⟨rfl,rfl⟩,st',λb hb=>(hf b hb).1⟩⟩;rw[Int.mul_one]
 done:=by
  intro X hP hw hK hc i pins s σ H E I hf st hg;subst hP hw hK;obtain⟨f0,f1,f2,f3,f4,f5⟩:=hf it (by simp);exact wpAny_pyNext_range_end (I.ok.hd hc) st (by have:n<=i:=hg;omega) λh' eb=>⟨rfl,I.turned (t':=s.toks) (λb o hb e=>eb b o hb e) f0 f1 f3 f4 f5⟩
 self:=λ_ _ _ _ _ st h=>wpAny_pyIter_rangeiter st h
section
variable {X:Cx}{tg:Expr}
theorem KP {pins:aP}{σ:St}{H:Hp}{s:Shared}{R:It->Hp->Prop}{E:aG}{lo hi:Int}{t u v:Tok}{tk:Nat}(I:Inv X pins σ H s)(h1:-(2 ^ 62)<=lo)(h2:lo<2 ^ 62)(h3:-(2 ^ 62)<=hi)(h4:hi<2 ^ 62)
  (q:R (qu lo (hi-lo).toNat) H):wpAny (model X.prog X.w) X.A (pyIter (.ref s.heap.objs.size)) (A5 X pins σ tg R) E { s with heap:=s.heap.push { cls:=.type "range",data:=.fields #[.int lo t,.int hi u,.int 1 v] },toks:=tk }:=by
 refine wpAny_pyIter_range (IsRange.new ..) (small_one h1 h2 h3 h4) ?_;have I1:Inv X pins σ H { s with heap:=s.heap.push { cls:=.type "range",data:=.fields #[.int lo t,.int hi u,.int 1 v] },toks:=tk }:=I.kept λb o e=>a8 _ e
 refine⟨(s.heap.push { cls:=.type "range",data:=.fields #[.int lo t,.int hi u,.int 1 v] }).objs.size,[(s.heap.push { cls:=.type "range",data:=.fields #[.int lo t,.int hi u,.int 1 v] }).objs.size],_,_,H,rfl,
  I1.kept (t':=tk) λb o e=>a8 _ e,KO _ lo (hi-lo).toNat,?_,λb hb=>?_,q⟩
 ·have e1:lo+((0:Nat):Int)*1=lo:=by simp
  have e2:(((hi-lo).toNat:Nat):Int)-((0:Nat):Int)=Builtin.Range.rangeSize lo hi 1:=by rw[rangeSize_one];split<;>omega
  show IsRangeIter _ _ (lo+((0:Nat):Int)*1) ((((hi-lo).toNat:Nat):Int)-((0:Nat):Int)) 1;rw[e1,e2];exact b6 _ rfl
 ·have e:b=(s.heap.push { cls:=.type "range",data:=.fields #[.int lo t,.int hi u,.int 1 v] }).objs.size:=by simpa using hb
  subst e;exact I1.jO (ar _) (I1.aA.fresh (ar _))
def KQ (ta:TA):TI:=λσ H R=>ta σ H λvs H1=>∃ j:Int,vs=[.int j] /\ -(2 ^ 62)<=j/\j<2 ^ 62/\R (qu 0 j.toNat) H1
theorem KR {a:Expr}{ta:TA}{p pos:Pos}(hg:Gl X "range")(hm:X.mg "range"=none)(ha:PA X [a] ta)(hs:starEach [a] X.env=[(false,eval a X.env)]:=by rfl):PI X tg (.Call (.Name "range" p) [a] [] pos) (KQ ta):=by
 intro pins s σ H R I h;refine Call_ (mj I hg hm boot_range (PyProof.Rows.callWith_type1 (aD (ha pos pins s σ H _ I h) λus s1 ⟨vs,H1,I1,r1,q1⟩=>?_) hs rfl));obtain⟨j,e,q1,q2,q⟩:=q1;subst e
 cases r1 with
 |cons r rr=>
  cases rr;obtain⟨t,rfl⟩:=r;exact call_range_1 (KP I1 (by omega) (by omega) q1 q2 (by simpa using q))
def KS (wi:TI)(g:TG)(tb:TS):TS:=λD σ H=>wi σ H λJ H1=>∃ W:Nat->Nat->St->Hp->Prop,(∃ m,W 0 m σ H1)/\∀ i m σ H,W i m σ H ->
 (J.stop i H/\D.nx σ H)\/(J.go i H/\∃ N:St->Hp->Prop,(∀ aH H',N aH H'->∃ m',m'<m/\W (i+1) m' aH H')/\∀ x H',J.fJ i H x H'->g x σ H' λbE H2=>tb { D with nx:=N,ct:=N,bk:=D.nx } bE H2)
def om (fp:List Addr)(h:Heap):aP:=fp.filterMap λb=>(h.get? b).map λo=>(b,o)
theorem qw {fp:List Addr}{h:Heap}{b:Addr}{o:Obj}(hb:b∈fp)(e:h.get? b=some o):(b,o)∈om fp h:=mem_filterMap.mpr ⟨b,hb,by rw[e];rfl⟩
theorem KU {fp:List Addr}{h:Heap}{p:Addr×Obj}(hp:p∈om fp h):p.1∈fp/\h.get? p.1=some p.2:=by
 obtain⟨b,hb,e⟩:=mem_filterMap.mp hp
 cases q:h.get? b with
 |none=>rw[q] at e;cases e
 |some o=>
  rw[q] at e;have e':(b,o)=p:=Option.some.inj e;subst e';exact⟨hb,q⟩
theorem Inv.pinned {pins:aP}{σ:St}{H:Hp}{s:Shared}{fp:List Addr}(I:Inv X pins σ H s)(hf:∀ b∈fp,fY X pins H b)(ho:∀ b∈fp,∃ o,s.heap.get? b=some o/\∀ v,o.data≠.cell v):Inv X (pins++om fp s.heap) σ H s:=
 I.AA λp hp=>(mem_append.mp hp).elim (λz=>I.pin p (mem_append_right _ z)) λz=>by
  obtain⟨hb,e⟩:=KU z;obtain⟨f0,f1,f2,_⟩:=hf p.1 hb;obtain⟨o,e',d⟩:=ho p.1 hb;rw[e] at e';cases e';exact⟨e,f0,f1,f2,d⟩
theorem Inv.qy {pins pl:aP}{σ:St}{H:Hp}{s:Shared}(I:Inv X (pins++pl) σ H s):Inv X pins σ H s:=I.AA λp hp=>I.pin p (mem_append_right _ (mem_append_left _ hp))
theorem KW {iter:Expr}{body:List Stmt}{wi:TI}{g:TG}{tb:TS}{pos:Pos}(hp:PassesOwn (model X.prog X.w) X.A X.env X.xe)(hc:X.calm=true)(hi:PI X tg iter wi)(hg:PG X tg g)(hb:cv X body tb)
  (hs:∀ x,foldedSetIterable iter X.env x=pure x:=by intro _;rfl):PS X (.For tg iter body [] pos) (KS wi g tb):=by
 intro pins s σ H D I h;refine wpAny_For (aD (hi pins s σ H _ I h) λv s1 h1=>aD h1 λqt s2 h2=>?_) hs;obtain⟨it,fp,tn,J,H2,e,I2,T,cW,f2,W,⟨m0,w0⟩,turn⟩:=h2;subst e
 -- what stays true of the Zj objects through the loop
 have kT:∀{H':Hp},(∀ b∈fp,H' b=none)->∀ b∈fp,fY X pins H' b:=λhn b hb=>⟨hn b hb,(f2 b hb).2⟩;refine codeAny_forLoop_any (λn s'=>∃ i aH H',Inv X pins aH H' s'/\tn i s'.heap/\(∀ b∈fp,H' b=none)/\W i n aH H') ?_ m0 ⟨0,σ,H2,I2,cW,λb hb=>(f2 b hb).1,w0⟩;rintro n s3 ⟨i,cK,H3,I3,gw,oo,w3⟩;rcases turn i n cK H3 w3 with ⟨stop,qn⟩|⟨go,N,hN,step⟩
 ·refine wpAny_passesOwn hp (aD (T.done X rfl rfl rfl hc i pins s3 cK H3 X.xe I3 (kT oo) gw stop) λr s4 ⟨hr,I4⟩=>?_);subst hr;exact wpAny_execs_nil ⟨cK,H3,I4,qn⟩
 ·refine wpAny_passesOwn hp (aD (T.item X rfl rfl rfl hc i pins s3 cK H3 X.xe I3 (kT oo) gw go) λr s4 ⟨u,hr,h4⟩=>?_);subst hr;refine wpAny_passesOwn hp (aD h4 λ_ s5 ⟨x,H5,I5,r5,y5,jP,uX⟩=>?_);have KY:=I5.pinned (kT uX) (T.obj _ _ jP);refine wpAny_passesOwn hp (aD (hg _ s5 cK H5 x u _ KY r5 (step x H5 y5)) λ_ s6 ⟨iK,H6,I6,q6⟩=>?_);refine wpAny_passesOwn hp (aD (hb _ s6 iK H6 _ I6 q6) λf s7 q7=>?_)
  have again:∀{g9:St}{H7:Hp},Inv X (pins++om fp s5.heap) g9 H7 s7->N g9 H7->∃ m,m<n/\∃ i aH H',Inv X pins aH H' s7/\tn i s7.heap/\(∀ b∈fp,H' b=none)/\W i m aH H':=λ{g9 H7} I7 n7=>by
   obtain⟨m',hm,w7⟩:=hN g9 H7 n7;refine⟨m',hm,i+1,g9,H7,I7.qy,T.keep _ _ _ jP λb hb o e=>(I7.pin (b,o) (mem_append_right _ (mem_append_right _ (qw hb e)))).1,λb hb=>?_,w7⟩;obtain⟨o,e,d⟩:=T.obj _ _ jP b hb;exact(I7.pin (b,o) (mem_append_right _ (mem_append_right _ (qw hb e)))).2.1
  cases f with
  |next=>obtain⟨g9,H7,I7,n7⟩:=q7;exact again I7 n7
  |cont=>obtain⟨g9,H7,I7,n7⟩:=q7;exact again I7 n7
  |brk=>obtain⟨g9,H7,I7,q7⟩:=q7;exact⟨g9,H7,I7.qy,q7⟩
  |ret v=>obtain⟨x7,g9,H7,I7,r7,q7⟩:=q7;exact⟨x7,g9,H7,I7.qy,r7,q7⟩
end
abbrev R2:=V->V->Hp->VK->Prop
def bx (X:Cx)(f:Value->Value->Sem Value)(r:R2):Prop:=
 ∀(pins:aP)(s:Shared)(σ:St)(H:Hp)(x y:V)(v u:Value)(Q:VK),Inv X pins σ H s->RelV x v->RelV y u->r x y H Q ->
  wpAny (model X.prog X.w) X.A (f v u) (EP X pins σ Q) X.xe s
def uY (X:Cx)(f:Value->Sem Value)(r:V->Hp->VK->Prop):Prop:=
 ∀(pins:aP)(s:Shared)(σ:St)(H:Hp)(x:V)(v:Value)(Q:VK),Inv X pins σ H s->RelV x v->r x H Q ->
  wpAny (model X.prog X.w) X.A (f v) (EP X pins σ Q) X.xe s
def cx (X:Cx)(f:Value)(r:Zv->Hp->VK->Prop):Prop:=
 ∀(pins:aP)(s:Shared)(σ:St)(H:Hp)(xs:Zv)(us:aC)(Q:VK),Inv X pins σ H s->Vals xs us->r xs H Q ->
  wpAny (model X.prog X.w) X.A (call f us) (EP X pins σ Q) X.xe s
def KZ (X:Cx)(r:V->Hp->(Bool->Hp->Prop)->Prop):Prop:=
 ∀(pins:aP)(s:Shared)(σ:St)(H:Hp)(x:V)(v:Value)(Q:Bool->Hp->Prop),Inv X pins σ H s->RelV x v->r x H Q ->
  wpAny (model X.prog X.w) X.A (truthy v) (TP X pins σ Q) X.xe s
def jQ (r:R2)(ta tb:TE):TE:=λσ H Q=>ta σ H λx H1=>tb σ H1 λy H2=>r x y H2 Q
def K0 (r:V->Hp->VK->Prop)(ta:TE):TE:=λσ H Q=>ta σ H λx H1=>r x H1 Q
def rI (C:Int->Int->Prop)(g:Int->Int->V):R2:=λx y H Q=>∃ i j,x=.int i/\y=.int j/\C i j/\Q (g i j) H
def gx (g:Int->Int->V):R2:=λx y H Q=>∃ i j,x=.int i/\y=.int j/\Q (g i j) H
def rU (g:Int->V):V->Hp->VK->Prop:=λx H Q=>∃ i,x=.int i/\Q (g i) H
section
variable {X:Cx}{a b c:Expr}{ta tb tc:TE}{pos:Pos}
theorem uZ (ha:PE X a ta)(hb:PE X b tb){pins:aP}{s:Shared}{σ:St}{H:Hp}{R:V->V->Hp->Prop}(I:Inv X pins σ H s)
  (h:ta σ H λx H1=>tb σ H1 λy H2=>R x y H2){Q:aG}{f:Value->Value->Sem Value}
  (hf:∀ v u s2 x y H2,Inv X pins σ H2 s2->RelV x v->RelV y u->R x y H2->wpAny (model X.prog X.w) X.A (f v u) Q X.xe s2) :
  wpAny (model X.prog X.w) X.A (eval a X.env) (λv aT=>wpAny (model X.prog X.w) X.A (eval b X.env) (λu dR=>wpAny (model X.prog X.w) X.A (f v u) Q X.xe dR) X.xe aT) X.xe s:=by
 refine aD (ha pins s σ H _ I h) λv s1 ⟨x,H1,I1,r1,q1⟩=>?_;refine aD (hb pins s1 σ H1 _ I1 q1) λu s2 ⟨y,H2,I2,r2,q2⟩=>?_;exact hf v u s2 x y H2 I2 r1 r2 q2
theorem cX {op:Operator}{r:R2}(ho:bx X (binaryOp op) r)(ha:PE X a ta)(hb:PE X b tb):PE X (.BinOp a op b pos) (jQ r ta tb):=by
 intro pins s σ H Q I h;exact wpAny_BinOp (uZ ha hb I h λv u s2 x y H2 I2 rx ry q=>ho pins s2 σ H2 x y v u Q I2 rx ry q)
theorem A6 {op:UnaryOp}{r:V->Hp->VK->Prop}(ho:uY X (unaryOp op) r)(ha:PE X a ta):PE X (.UnaryOp op a pos) (K0 r ta):=by
 intro pins s σ H Q I h;exact UnaryOp_ (aD (ha pins s σ H _ I h) λv s1 ⟨x,H1,I1,r1,q1⟩=>ho pins s1 σ H1 x v Q I1 r1 q1)
theorem oq {f:Value->Value->Sem Value}{C:Int->Int->Prop}{g:Int->Int->Int}
  (rule:∀(i j:Int)(t u:Tok)(s:Shared)(Q:aG)(E:aG),C i j->Q (.int (g i j) s.toks) { s with toks:=s.toks+1 }->wpAny (model X.prog X.w) X.A (f (.int i t) (.int j u)) Q E s) :
  bx X f (rI C λi j=>.int (g i j)):=by
 intro pins s σ H x y v u Q I rx ry h;obtain⟨i,j,rfl,rfl,hc,q⟩:=h;obtain⟨t,rfl⟩:=rx;obtain⟨t',rfl⟩:=ry;exact rule i j t t' s _ _ hc ⟨.int (g i j),H,I.tok _,⟨_,rfl⟩,q⟩
theorem A7 {f:Value->Value->Sem Value}{g:Int->Int->Int}
  (rule:∀(i j:Int)(t u:Tok)(s:Shared)(Q:aG)(E:aG),Q (.int (g i j) s.toks) { s with toks:=s.toks+1 }->wpAny (model X.prog X.w) X.A (f (.int i t) (.int j u)) Q E s) :
  bx X f (gx λi j=>.int (g i j)):=by
 intro pins s σ H x y v u Q I rx ry h;obtain⟨i,j,rfl,rfl,q⟩:=h;obtain⟨t,rfl⟩:=rx;obtain⟨t',rfl⟩:=ry;exact rule i j t t' s _ _ ⟨.int (g i j),H,I.tok _,⟨_,rfl⟩,q⟩
theorem qz {f:Value->Value->Sem Value}{g:Int->Int->Bool}
  (rule:∀(i j:Int)(t u:Tok)(s:Shared)(Q:aG)(E:aG),Q (.bool (g i j)) s->wpAny (model X.prog X.w) X.A (f (.int i t) (.int j u)) Q E s) :
  bx X f (gx λi j=>.bl (g i j)):=by
 intro pins s σ H x y v u Q I rx ry h;obtain⟨i,j,rfl,rfl,q⟩:=h;obtain⟨t,rfl⟩:=rx;obtain⟨t',rfl⟩:=ry;exact rule i j t t' s _ _ ⟨.bl (g i j),H,I,rfl,q⟩
def K1 (i j:Int):Prop:=0<j/\j<1073741824
def u3 (i j:Int):Prop:=0<=j/\j<=1000000/\i.natAbs<2 ^ 64
def ot (i j:Int):Prop:=(-(2 ^ 64)<i/\i<2 ^ 64)\/(-(2 ^ 64)<j/\j<2 ^ 64)
theorem ot.ok {i j:Int}(h:ot i j):IntMulOk i j:=by
 rcases h with ⟨h1,h2⟩|⟨h1,h2⟩
 ·exact .of_left (intBits_le_64 h1 h2)
 ·exact .of_right (intBits_le_64 h1 h2)
theorem jR:bx X (binaryOp .Add) (gx λi j=>.int (i+j)):=A7 λ_ _ _ _ _ _ _ q=>add_int q
theorem K2:bx X (binaryOp .Sub) (gx λi j=>.int (i-j)):=A7 λ_ _ _ _ _ _ _ q=>sub_int q
theorem kU:bx X (binaryOp .Mult) (rI ot λi j=>.int (i*j)):=oq λ_ _ _ _ _ _ _ hc q=>mul_int q hc.ok
theorem K3:bx X (binaryOp .FloorDiv) (rI K1 λi j=>.int (i / j)):=oq λi j _ _ _ _ _ hc q=>by
 have h1:(0:Int)<j:=hc.1;have h2:j<1073741824:=hc.2;exact floordiv_int (by omega) (by rw[Int.fdiv_eq_ediv_of_nonneg i (by omega)];exact q) (.inl (PyProof.noPylong_small (by omega)))
theorem jS:bx X (binaryOp .Mod) (rI (λ_ j=>0<j) λi j=>.int (i % j)):=oq λi j _ _ _ _ _ hc q=>by
 have h1:(0:Int)<j:=hc;exact mod_int' (by omega) (by rw[Int.fmod_eq_emod_of_nonneg i (by omega)];exact q)
theorem K4:bx X (binaryOp .Pow) (rI u3 λi j=>.int (i ^ j.toNat)):=oq λ_ _ _ _ _ _ _ hc q=>pow_int_small hc.1 hc.2.1 hc.2.2 q
theorem K5 {f:Value->Sem Value}{g:Int->Int}
  (rule:∀(i:Int)(t:Tok)(s:Shared)(Q:aG)(E:aG),Q (.int (g i) s.toks) { s with toks:=s.toks+1 }->wpAny (model X.prog X.w) X.A (f (.int i t)) Q E s) :
  uY X f (rU λi=>.int (g i)):=by
 intro pins s σ H x v Q I rx h;obtain⟨i,rfl,q⟩:=h;obtain⟨t,rfl⟩:=rx;exact rule i t s _ _ ⟨.int (g i),H,I.tok _,⟨_,rfl⟩,q⟩
theorem A8:uY X (unaryOp .USub) (rU λi=>.int (-i)):=K5 λ_ _ _ _ _ q=>neg_int q
end
def K6:V->V->Bool
 |.non,.non=>true|.non,.int _=>true|.int _,.non=>true|.non,.bl _=>true|.bl _,.non=>true|.non,.str _=>true|.str _,.non=>true
 |.int _,.int _=>true|.bl _,.bl _=>true|.str _,.str _=>true|.fW _,.fW _=>true
 |.int _,.str _=>true|.str _,.int _=>true|.bl _,.str _=>true|.str _,.bl _=>true
 |_,_=>false
def K7:R2:=λx y H Q=>K6 x y=true/\Q (.bl (decide (x=y))) H
theorem K8 {i j:Int}:decide (V.int i=V.int j)=(i==j):=by
 rw[Bool.eq_iff_iff];simp
theorem K9 {i j:Bool}:decide (V.bl i=V.bl j)=(i==j):=by
 rw[Bool.eq_iff_iff];simp
theorem K_ {i j:Str}:decide (V.str i=V.str j)=(i==j):=by
 rw[Bool.eq_iff_iff];simp
theorem K' {i j:Array UInt8}:decide (V.fW i=V.fW j)=(i.toList==j.toList):=by
 rw[Bool.eq_iff_iff];cases i;cases j;simp
section
variable {X:Cx}{a b c:Expr}{ta tb tc:TE}{pos:Pos}
theorem dZ {pins:aP}{σ:St}{H:Hp}{s:Shared}{Q:VK}{k k':Bool}(I:Inv X pins σ H s)(q:Q (.bl k) H)(e:k=k'):EP X pins σ Q (.bool k') s:=by
 subst e;exact⟨.bl k,H,I,rfl,q⟩
theorem A9:bx X (compareOp .Eq) K7:=by
 intro pins s σ H x y v u Q I rx ry h;obtain⟨hs,q⟩:=h
 cases x with
 |non=>
  cases rx
  cases y with
  |non=>cases ry;exact PySem.EqNone.eq_none_none (dZ I q (by simp))
  |bl j=>cases ry;exact PySem.EqNone.eq_none_bool (dZ I q (by simp))
  |int j=>obtain⟨t',rfl⟩:=ry;exact PySem.EqNone.eq_none_int (dZ I q (by simp))
  |str j=>obtain⟨t',rfl⟩:=ry;exact PySem.EqNone.eq_none_str (dZ I q (by simp))
  |_=>exact absurd (show false=true from hs) Bool.false_ne_true
 |bl i=>
  cases rx
  cases y with
  |non=>cases ry;exact PySem.EqNone.eq_bool_none (dZ I q (by simp))
  |bl j=>cases ry;exact eq_bool (dZ I q K9)
  |str j=>obtain⟨t',rfl⟩:=ry;exact PySem.EqMixed.eq_bool_str (dZ I q (by simp))
  |_=>exact absurd (show false=true from hs) Bool.false_ne_true
 |int i=>
  obtain⟨t,rfl⟩:=rx
  cases y with
  |non=>cases ry;exact PySem.EqNone.eq_int_none (dZ I q (by simp))
  |int j=>obtain⟨t',rfl⟩:=ry;exact eq_int (dZ I q K8)
  |str j=>obtain⟨t',rfl⟩:=ry;exact PySem.EqMixed.eq_int_str (dZ I q (by simp))
  |_=>exact absurd (show false=true from hs) Bool.false_ne_true
 |str i=>
  obtain⟨t,rfl⟩:=rx
  cases y with
  |non=>cases ry;exact PySem.EqNone.eq_str_none (dZ I q (by simp))
  |bl j=>cases ry;exact PySem.EqMixed.eq_str_bool (dZ I q (by simp))
  |int j=>obtain⟨t',rfl⟩:=ry;exact PySem.EqMixed.eq_str_int (dZ I q (by simp))
  |str j=>obtain⟨t',rfl⟩:=ry;exact eq_str (dZ I q K_)
  |_=>exact absurd (show false=true from hs) Bool.false_ne_true
 |fW i=>
  obtain⟨t,rfl⟩:=rx
  cases y with
  |fW j=>obtain⟨t',rfl⟩:=ry;exact PySem.W.eq_bytes (dZ I q K')
  |_=>exact absurd (show false=true from hs) Bool.false_ne_true
 |_=>cases y<;>exact absurd (show false=true from hs) Bool.false_ne_true
theorem qB:bx X (compareOp .Lt) (gx λi j=>.bl (decide (i<j))):=qz λ_ _ _ _ _ _ _ q=>lt_int q
theorem La:bx X (compareOp .LtE) (gx λi j=>.bl (decide (i<=j))):=qz λ_ _ _ _ _ _ _ q=>le_int q
theorem qD:bx X (compareOp .Gt) (gx λi j=>.bl (decide (j<i))):=qz λ_ _ _ _ _ _ _ q=>gt_int q
theorem Lc:bx X (compareOp .GtE) (gx λi j=>.bl (decide (j<=i))):=qz λ_ _ _ _ _ _ _ q=>ge_int q
theorem u4:bx X (compareOp .Lt) (λx y H Q=>∃ i j,x=.str i/\y=.str j/\Q (.bl (decide (i.cps.toList<j.cps.toList))) H):=by
 intro pins s σ H x y v u Q I rx ry h;obtain⟨i,j,rfl,rfl,q⟩:=h;obtain⟨t,rfl⟩:=rx;obtain⟨t',rfl⟩:=ry;exact lt_str (dZ I q rfl)
theorem Le:bx X (compareOp .In) (λx y H Q=>∃ i j,x=.str i/\y=.str j/\Q (.bl (!(Builtin.Str.occurrences j i 0 j.length 1).isEmpty)) H):=by
 intro pins s σ H x y v u Q I rx ry h;obtain⟨i,j,rfl,rfl,q⟩:=h;obtain⟨t,rfl⟩:=rx;obtain⟨t',rfl⟩:=ry;exact in_str (dZ I q rfl)
theorem Lf:bx X (compareOp .Is) (λx y H Q=>y=.non/\Q (.bl (decide (x=.non))) H):=by
 intro pins s σ H x y v u Q I rx ry h;obtain⟨rfl,q⟩:=h;cases ry;refine is_none_gen (dZ I q ?_)
 cases x<;>first
  |(cases rx;rfl)
  |(obtain⟨t,rfl⟩:=rx;rfl)
theorem Lg:bx X (compareOp .IsNot) (λx y H Q=>y=.non/\Q (.bl (!decide (x=.non))) H):=by
 intro pins s σ H x y v u Q I rx ry h;obtain⟨rfl,q⟩:=h;cases ry;refine isnot_none_gen (dZ I q ?_)
 cases x<;>first
  |(cases rx;rfl)
  |(obtain⟨t,rfl⟩:=rx;rfl)
theorem bx.or {f:Value->Value->Sem Value}{r r':R2}(h:bx X f r)(h':bx X f r'):bx X f (λx y H Q=>r x y H Q\/r' x y H Q):=by
 intro pins s σ H x y v u Q I rx ry q;rcases q with q|q
 ·exact h pins s σ H x y v u Q I rx ry q
 ·exact h' pins s σ H x y v u Q I rx ry q
theorem e_ (b:Expr){op:CmpOp}(h:op≠.In:=by decide)(h2:op≠.NotIn:=by decide):behindInMarks op b=false:=by
 have e1:(op==CmpOp.In)=false:=by cases op<;>first|rfl|exact absurd rfl h
 have e2:(op==CmpOp.NotIn)=false:=by cases op<;>first|rfl|exact absurd rfl h2
 cases b<;>simp [behindInMarks,e1,e2]
theorem Lh {op:CmpOp}{r:R2}(ho:bx X (compareOp op) r)(ha:PE X a ta)(hb:PE X b tb)(hm:behindInMarks op b=false):PE X (.Compare a [op] [b] pos) (jQ r ta tb):=by
 intro pins s σ H Q I h;exact wpAny_Compare1 (uZ ha hb I h λv u s2 x y H2 I2 rx ry q=>ho pins s2 σ H2 x y v u Q I2 rx ry q) hm
def qE (t:TE):TT:=λσ H Q=>t σ H λx H'=>∃ k,x=.bl k/\Q k H'
theorem kW {op:CmpOp}{r:R2}(ho:bx X (compareOp op) r)(ha:PE X a ta)(hb:PE X b tb)(hm:behindInMarks op b=false):PT X (.Compare a [op] [b] pos) (qE (jQ r ta tb)):=by
 intro pins s σ H Q I h
 refine wpAny_isTrue_Compare1 (aD (ha pins s σ H _ I h) λv s1 ⟨x,H1,I1,r1,q1⟩=>aD (hb pins s1 σ H1 _ I1 q1) λu s2 ⟨y,H2,I2,r2,q2⟩=>
  aD (ho pins s2 σ H2 x y v u _ I2 r1 r2 q2) λc s3 ⟨z,H3,I3,r3,k,e,q3⟩=>?_) hm
 subst e;cases r3;exact wpAny_truthy_bool ⟨H3,I3,q3⟩
def Li (r r':R2)(ta tb tc:TE):TE:=λσ H Q=>ta σ H λx H1=>tb σ H1 λy H2=>r x y H2 λz H3=>∃ k,z=.bl k /\
 (if k=true then tc σ H3 λw' H4=>r' y w' H4 Q else Q (.bl false) H3)
theorem Lj {op kX:CmpOp}{r r':R2}(ho:bx X (compareOp op) r)(e8:bx X (compareOp kX) r')(ha:PE X a ta)(hb:PE X b tb)(hc:PE X c tc)
  (hm:lastMarks [op,kX] [b,c]=false:=by with_unfolding_all rfl):PT X (.Compare a [op,kX] [b,c] pos) (qE (Li r r' ta tb tc)):=by
 intro pins s σ H Q I h
 refine isTrue_chain (aD (ha pins s σ H _ I h) λv s1 ⟨x,H1,I1,r1,q1⟩=>test_link (aD (hb pins s1 σ H1 _ I1 q1) λu s2 ⟨y,H2,I2,r2,q2⟩=>
  aD (ho pins s2 σ H2 x y v u _ I2 r1 r2 q2) λd s3 ⟨z,H3,I3,r3,k,e,q3⟩=>?_)) hm
 subst e;cases r3;refine wpAny_truthy_bool ?_
 cases k with
 |false=>
  obtain⟨k',e',q'⟩:=q3;cases e';exact ite_ff ⟨H3,I3,q'⟩
 |true=>
  refine ite_tt (test_last (aD (hc pins s3 σ H3 _ I3 q3) λw' s4 ⟨z',H4,I4,r4,q4⟩=>aD (e8 pins s4 σ H4 y z' u w' _ I4 r2 r4 q4) λd' s5 ⟨z2,H5,I5,r5,k2,e2,q5⟩=>?_));subst e2;cases r5;exact wpAny_truthy_bool ⟨H5,I5,q5⟩
def A_ (K:Frag)(x:V)(H:Hp)(k:Bool):Prop:=
 match x with
 |.non=>k=false
 |.bl b=>k=b
 |.int i=>k=(i != 0)
 |.str y=>y.length<=sizeLine/\k=((y.length:Int) != 0)
 |.fW y=>y.size<=sizeLine/\k=((y.size:Int) != 0)
 |.ref p=>(∃ xs,aO K H p xs/\k=!xs.isEmpty)\/(∃ xs,bq K H p xs/\k=!xs.isEmpty)\/∃ kvs,H p=some (.dK kvs)/\k=!kvs.isEmpty
 |_=>False
theorem Lk {κ:Type}{kvs:List (κ×V)}{vs:List (κ×Value)}(r:KV kvs vs):(!vs.isEmpty)=!kvs.isEmpty:=by
 cases r<;>rfl
theorem A' {xs:Zv}{its:aC}(r:Vals xs its):(!its.toArray.isEmpty)=!xs.isEmpty:=by
 cases r<;>simp
theorem kY:(sizeLine:Nat)<2 ^ 63:=by rw[sizeLine_eq];decide
theorem Lm:KZ X (λx H Q=>∃ k,A_ X.K x H k/\Q k H):=by
 intro pins s σ H x v Q I rx h;obtain⟨k,e,q⟩:=h;have hl:=kY;have hs:sizeLine=16777216:=sizeLine_eq
 cases x with
 |non=>
  cases rx;have e':k=false:=e;subst e';exact truthy_none ⟨H,I,q⟩
 |bl b=>
  cases rx;have e':k=b:=e;subst e';exact wpAny_truthy_bool ⟨H,I,q⟩
 |int i=>
  obtain⟨t,rfl⟩:=rx;have e':k=(i != 0):=e;subst e';exact PySem.P.truthy_int ⟨H,I,q⟩
 |str y=>
  obtain⟨t,rfl⟩:=rx;obtain⟨hy,e'⟩:y.length<=sizeLine/\k=((y.length:Int) != 0):=e;subst e';exact PySem.P.truthy_str (by omega) ⟨H,I.tok _,q⟩
 |fW y=>
  obtain⟨t,rfl⟩:=rx;obtain⟨hy,e'⟩:y.size<=sizeLine/\k=((y.size:Int) != 0):=e;subst e';exact PySem.W.truthy_bytes (by omega) ⟨H,I.tok _,q⟩
 |ref p=>
  cases rx;have e':(∃ xs,aO X.K H p xs/\k=!xs.isEmpty)\/(∃ xs,bq X.K H p xs/\k=!xs.isEmpty)\/∃ kvs,H p=some (.dK kvs)/\k=!kvs.isEmpty:=e;rcases e' with ⟨xs,hx,e'⟩|⟨xs,hx,e'⟩|⟨kvs,hx,e'⟩
  ·subst e';obtain⟨its,r,pl,hz⟩:=I.list hx;have hlen:=r.length;exact wpAny_truthy_list pl.isList (by simp only[size_toArray];omega) ⟨H,I.tok _,by rw[A' r];exact q⟩
  ·subst e';obtain⟨its,r,pl,hz⟩:=I.tuple hx;have hlen:=r.length;exact truthy_tuple pl (by simp only[size_toArray];omega) ⟨H,I.tok _,by rw[A' r];exact q⟩
  ·subst e';obtain⟨hz,hS,vs,r,m⟩:kvs.length<=sizeLine/\(p==sysModules)=false/\∃ vs,KV kvs vs/\s.heap.DictOf (bM X.prog X.w) p vs:=I.aA p _ hx;have hlen:kvs.length=vs.length:=Paired.length r;exact wpAny_truthy_dict hS m (by omega) ⟨H,I.tok _,by rw[Lk r];exact q⟩
 |_=>exact(show False from e).elim
theorem Ln (ha:PE X a ta)(he:∀ whole,isTrue a X.env whole=(do let v <- whole;standAt a.pos;holding [v] (truthy v))) :
  PT X a (λσ H Q=>ta σ H λx H'=>∃ k,A_ X.K x H' k/\Q k H'):=by
 intro pins s σ H Q I h;exact isTrue_plain (aD (ha pins s σ H _ I h) λv s1 ⟨x,H1,I1,r1,q1⟩=>Lm pins s1 σ H1 x v Q I1 r1 q1) (he _)
theorem Lo:bx X (binaryOp .Add) (λx y H Q=>∃ i j,x=.str i/\y=.str j/\i.length+j.length<=sizeLine/\Q (.str (i++j)) H):=by
 intro pins s σ H x y v u Q I rx ry h;obtain⟨i,j,rfl,rfl,hz,q⟩:=h;obtain⟨t,rfl⟩:=rx;obtain⟨t',rfl⟩:=ry;exact add_str (λt' tk=>⟨.str (i++j),H,I.tok _,⟨_,rfl⟩,q⟩) hz
theorem vals1 {x:V}{us:aC}(r:Vals [x] us):∃ u,us=[u]/\RelV x u:=by
 cases r with
 |cons r1 r2=>cases r2;exact⟨_,rfl,r1⟩
theorem vals2 {x y:V}{us:aC}(r:Vals [x,y] us):∃ u w',us=[u,w']/\RelV x u/\RelV y w':=by
 cases r with
 |cons r1 r2=>
  cases r2 with
  |cons r3 r4=>cases r4;exact⟨_,_,rfl,r1,r3⟩
theorem Lp:cx X (.builtin "abs") (λxs H Q=>∃ i,xs=[.int i]/\Q (.int (if i<0 then -i else i)) H):=by
 intro pins s σ H xs us Q I r h;obtain⟨i,rfl,q⟩:=h;obtain⟨u,rfl,t,rfl⟩:=vals1 r;exact call_abs_int λu tk=>⟨.int (if i<0 then -i else i),H,I.tok _,⟨_,rfl⟩,q⟩
theorem Lq (hc:X.calm=true):cx X (.builtin "max") (λxs H Q=>∃ i j,xs=[.int i,.int j]/\Q (.int (if j > i then j else i)) H):=by
 intro pins s σ H xs us Q I r h;obtain⟨i,j,rfl,q⟩:=h;obtain⟨u,w',rfl,⟨t,rfl⟩,⟨t',rfl⟩⟩:=vals2 r;refine max_two_ints (I.ok.hd hc) λh' tk k=>⟨_,H,I.kept k,?_,q⟩;by_cases hj:j > i
 ·rw[if_pos hj,if_pos hj];exact⟨_,rfl⟩
 ·rw[if_neg hj,if_neg hj];exact⟨_,rfl⟩
theorem Lr (hc:X.calm=true):cx X (.builtin "min") (λxs H Q=>∃ i j,xs=[.int i,.int j]/\Q (.int (if j<i then j else i)) H):=by
 intro pins s σ H xs us Q I r h;obtain⟨i,j,rfl,q⟩:=h;obtain⟨u,w',rfl,⟨t,rfl⟩,⟨t',rfl⟩⟩:=vals2 r;refine min_two_ints (I.ok.hd hc) λh' tk k=>⟨_,H,I.kept k,?_,q⟩;by_cases hj:j<i
 ·rw[if_pos hj,if_pos hj];exact⟨_,rfl⟩
 ·rw[if_neg hj,if_neg hj];exact⟨_,rfl⟩
theorem Lu:cx X (.type "int") (λxs H Q=>(∃ i,xs=[.int i]/\Q (.int i) H)\/∃ k,xs=[.bl k]/\Q (.int (if k then 1 else 0)) H):=by
 intro pins s σ H xs us Q I r h;rcases h with ⟨i,rfl,q⟩|⟨k,rfl,q⟩
 ·obtain⟨u,rfl,t,rfl⟩:=vals1 r;exact call_int_int ⟨.int i,H,I,⟨_,rfl⟩,q⟩
 ·obtain⟨u,rfl,r1⟩:=vals1 r;cases r1;exact call_int_bool ⟨.int (if k then 1 else 0),H,I.tok _,⟨_,rfl⟩,q⟩
def Ba (K:Frag)(x:V)(H:Hp)(n:Nat):Prop:=
 match x with
 |.str y=>y.length<=sizeLine/\n=y.length
 |.fW y=>y.size<=sizeLine/\n=y.size
 |.ref p=>(∃ xs,aO K H p xs/\n=xs.length)\/∃ xs,bq K H p xs/\n=xs.length
 |_=>False
theorem Lv:cx X (.builtin "len") (λxs H Q=>∃ x n,xs=[x]/\Ba X.K x H n/\Q (.int n) H):=by
 intro pins s σ H xs us Q I r h;obtain⟨x,n,rfl,e,q⟩:=h;obtain⟨u,rfl,rx⟩:=vals1 r;have hl:=kY;have hs:sizeLine=16777216:=sizeLine_eq
 cases x with
 |str y=>
  obtain⟨t,rfl⟩:=rx;obtain⟨hy,e'⟩:y.length<=sizeLine/\n=y.length:=e;subst e';exact len_str (by omega) ⟨.int _,H,I.tok _,⟨_,rfl⟩,q⟩
 |fW y=>
  obtain⟨t,rfl⟩:=rx;obtain⟨hy,e'⟩:y.size<=sizeLine/\n=y.size:=e;subst e';exact PySem.W.len_bytes (by omega) ⟨.int _,H,I.tok _,⟨_,rfl⟩,q⟩
 |ref p=>
  cases rx;have e':(∃ xs,aO X.K H p xs/\n=xs.length)\/∃ xs,bq X.K H p xs/\n=xs.length:=e;rcases e' with ⟨xs,hx,e'⟩|⟨xs,hx,e'⟩
  ·subst e';obtain⟨its,r',pl,hz⟩:=I.list hx;have hlen:=r'.length;exact Calls.call_len_list pl.isList (by simp only[size_toArray];omega) ⟨.int xs.length,H,I.tok _,⟨_,by simp only[size_toArray];rw[hlen]⟩,q⟩
  ·subst e';obtain⟨its,r',pl,hz⟩:=I.tuple hx;have hlen:=r'.length;exact len_tuple pl (by simp only[size_toArray];omega) ⟨.int xs.length,H,I.tok _,⟨_,by simp only[size_toArray];rw[hlen]⟩,q⟩
 |_=>exact(show False from e).elim
end
structure u5 (h:Heap)(x dx C:Addr)(mA:aZ):Prop where
 obj:h.get? x=some (PySem.W.instObj C dx)
 ns:h.Ns1 dx mA
 ne:dx≠x
theorem Lw {h:Heap}{dx:Addr}{mA:aZ}(n:h.Ns1 dx mA):∃ od,h.get? dx=some od/\∀ name,PySem.W.lookIn name od=some (mA name):=by
 obtain⟨o,es,ep,ho,hd,hk,_,hm⟩:=n;refine⟨o,ho,λname=>?_⟩;have e:=hm name;unfold nsFind findBy at e;rw[<- Array.find?_toList] at e;unfold PySem.W.lookIn;rw[hd];dsimp only
 split
 ·rename_i y q;rw[q] at e;exact congrArg some e
 ·rename_i q;rw[q] at e
  have a:es.toList.any (·.refKey)=false:=by
   rw[any_eq_false];intro y hy;obtain⟨z,t,ji⟩:=hk y (Array.mem_toList_iff.mp hy);simp [DictEntry.refKey,ji]
  have a':¬ es.toList.any (·.refKey)=true:=by rw[a];exact Bool.false_ne_true
  rw[if_neg a'];exact congrArg some e
theorem u5.look {h:Heap}{x dx C:Addr}{mA:aZ}(I:u5 h x dx C mA):∃ od,PySem.W.InstAt h x (PySem.W.instObj C dx) C (some od)/\∀ name,PySem.W.lookIn name od=some (mA name):=
 let ⟨od,ho,hl⟩:=Lw I.ns
 ⟨od,⟨I.obj,rfl,rfl,ho⟩,hl⟩
section
variable {prog:Program}{w:World}{A:Around}{E:aG}{s:Shared}{K:Frag}{x dx C f:Addr}{mA:aZ}{name:Str}{v:Value}
end
theorem g5.some_of {v:V}{o:Option Value}(r:g5 (some v) o):∃ u,o=some u/\RelV v u:=by
 cases o with
 |none=>exact(show False from r).elim
 |some u=>exact⟨u,rfl,r⟩
section
variable {P:Program}{w:World}{H H':Hp}{h h':Heap}{a C dx:Addr}{fs JO:List (Str×V)}
theorem Lx (aA:cq P w H h)(e:H a=some (.ins C dx fs)):∃ mA,u5 h a dx C mA/\(∀ f,g5 (fs.lookup f) (mA f))/\PySem.Within mA (fs.map (·.1))/\fs.length<=1000/\H dx=some (.own a):=by
 obtain⟨d,z,ne,ob,mA,n,r,q⟩:=(show cP P w H h a (.ins C dx fs) from aA a _ e);exact⟨mA,⟨ob,n,ne⟩,r,q,z,d⟩
end
structure u6 (K:Frag)(C:Addr):Prop where
 pg:PySem.W.plainGet K C Str.empty=true
 hd:PySem.W.hasDictIn K C=true
 po:PySem.W.plainOver K C=true
 sa:PySem.W.findIn K (.ref C) "__setattr__"=some (some (.builtin "object.__setattr__"))
theorem u6.get {K:Frag}{C:Addr}(c:u6 K C)(f:Str):PySem.W.plainGet K C f=true:=c.pg
section
variable {X:Cx}{pins:aP}{σ:St}{H:Hp}{s:Shared}{a C dx:Addr}{fs:List (Str×V)}{f:Str}{v:V}{A:Around}{E:aG}
end
section
variable {X:Cx}{o e value:Expr}{f:Str}{pos pos' Ly:Pos}{ta tv:TE}
end
section
variable {X:Cx}{pins:aP}{σ:St}{H:Hp}{s:Shared}{A:Around}{E:aG}{Q:aG}{c:Value}{b:Bool}
inductive fZ (K:Frag)(H:Hp):V->Value->Prop where
 |non:fZ K H .non (.type "NoneType")
 |bl (x:Bool):fZ K H (.bl x) (.type "bool")
 |int (i:Int):fZ K H (.int i) (.type "int")
 |str (x:Str):fZ K H (.str x) (.type "str")
 |md (x:UInt64):fZ K H (.md x) (.type "float")
 |lst {a:Addr}{xs:Zv}(e:H a=some (.lst xs)):fZ K H (.ref a) (.type "list")
 |bB {a:Addr}{o:Obj}{xs:Zv}(e:H a=some (.bB o (.lst xs))):fZ K H (.ref a) (.type "list")
 |tup {a:Addr}{xs:Zv}(e:H a=some (.tup xs)):fZ K H (.ref a) (.type "tuple")
 |dK {a:Addr}{kvs:bh}(e:H a=some (.dK kvs)):fZ K H (.ref a) (.type "dict")
 |dT {a:Addr}{kvs:List (List Key×V)}(e:H a=some (.dT kvs)):fZ K H (.ref a) (.type "dict")
 |ins {a C dx:Addr}{fs:List (Str×V)}(e:H a=some (.ins C dx fs))(cl:u6 K C)(ha:PySem.W.findIn K (.ref C) "__class__"=some (some (.builtin "object.__class__")))
   (hn:PySem.W.specialIn K (.builtin "object.__class__") "__get__"=some (some (.builtin "getset_descriptor.__get__")))(Bb:PySem.W.takesIn K (.builtin "object.__class__")=some true)
   (hm:PySem.W.mroIn K C (.type "object")=some true):fZ K H (.ref a) (.ref C)
theorem Lz {x:V}{u t:Value}(I:Inv X pins σ H s)(rx:RelV x u)(ty:fZ X.K H x t)(e:PySem.W.kitOne X.K t c=some b)(h:∀ tk,Q (.bool b) { s with toks:=tk }) :
  wpAny (model X.prog X.w) A (call (.builtin "isinstance") [u,c]) Q E s:=by
 cases ty with
 |non=>cases (show u=Value.none from rx);exact PySem.W.kia_one PySem.W.kitx_none I.dG True.intro e (λz=>nomatch z) h
 |bl y=>cases (show u=Value.bool y from rx);exact PySem.W.kia_one PySem.W.kitx_bool I.dG True.intro e (λz=>nomatch z) h
 |int i=>obtain⟨t,q⟩:=(show ∃ t,u=Value.int i t from rx);cases q;exact PySem.W.kia_one PySem.W.kitx_int I.dG True.intro e (λz=>nomatch z) h
 |str y=>obtain⟨t,q⟩:=(show ∃ t,u=Value.str y t from rx);cases q;exact PySem.W.kia_one PySem.W.kitx_str I.dG True.intro e (λz=>nomatch z) h
 |md y=>obtain⟨t,q⟩:=(show ∃ t,u=Value.float y t from rx);cases q;exact PySem.W.kia_one PySem.W.kitx_float I.dG True.intro e (λz=>nomatch z) h
 |@lst a xs ea=>
  cases (show u=Value.ref a from rx);obtain⟨_,_,n,_,h1⟩:=(show cP X.prog X.w H s.heap a (.lst xs) from I.aA a _ ea);exact PySem.W.kia_one PySem.W.kitx_list I.dG ⟨_,h1,rfl⟩ e (λz=>nomatch z) h
 |@bB a ob xs ea=>
  cases (show u=Value.ref a from rx);obtain⟨_,_,_,n,_,h1⟩:=(show cP X.prog X.w H s.heap a (.bB ob (.lst xs)) from I.aA a _ ea);exact PySem.W.kia_one PySem.W.kitx_list I.dG ⟨_,h1,rfl⟩ e (λz=>nomatch z) h
 |@tup a xs ea=>
  cases (show u=Value.ref a from rx);obtain⟨_,_,_,p⟩:=(show cP X.prog X.w H s.heap a (.tup xs) from I.aA a _ ea);obtain⟨o,h1,h2,_⟩:=p;exact PySem.W.kia_one PySem.W.kitx_tuple I.dG ⟨o,h1,h2⟩ e (λz=>nomatch z) h
 |@dK a kvs ea=>
  cases (show u=Value.ref a from rx);obtain⟨_,_,vs,_,p⟩:=(show cP X.prog X.w H s.heap a (.dK kvs) from I.aA a _ ea);obtain⟨o,es,ep,h1,h2,_⟩:=p;exact PySem.W.kia_one PySem.W.kitx_dict I.dG ⟨o,h1,h2.1⟩ e (λz=>nomatch z) h
 |@dT a kvs ea=>
  cases (show u=Value.ref a from rx);obtain⟨_,_,xs,_,o,es,ep,h1,h2,_⟩:=(show cP X.prog X.w H s.heap a (.dT kvs) from I.aA a _ ea);exact PySem.W.kia_one PySem.W.kitx_dict I.dG ⟨o,h1,h2.1⟩ e (λz=>nomatch z) h
 |@ins a C dx fs ea cl ha hn Bb hm=>
  cases (show u=Value.ref a from rx);obtain⟨mA,O,_⟩:=Lx I.aA ea;obtain⟨od,J,_⟩:=O.look;exact PySem.W.kia_one (PySem.W.kitx_own (cl.get _) cl.hd ha hn Bb hm) I.dG J e (λz=>nomatch z) h
end
structure bO (k:Nat)(A:Around):Prop where
 hd:A.handled=none
 dp:A.depth+3*k+5<recursionLimit
 un:A.units+16*k+200<cLine
 gd:A.guards=some []
theorem bO.mono {j k:Nat}{A:Around}(r:bO k A)(h:j<=k):bO j A:=⟨r.hd,by have:=r.dp;omega,by have:=r.un;omega,r.gd⟩
theorem bO.deeper {k:Nat}{A:Around}(r:bO (k+1) A)(env:Env):bO k (A.deeper env):=
 ⟨r.hd,by have:=r.dp;show A.depth+1+3*k+5<_;omega,by have:=r.un;show A.units+3+16*k+200<_;omega,r.gd⟩
theorem bO.depth {k:Nat}{A:Around}(r:bO k A):A.depth<recursionLimit:=by have:=r.dp;omega
theorem bO.units {k:Nat}{A:Around}(r:bO k A):A.units+64<cLine:=by have:=r.un;omega
def u7:TA:=λ_ H Q=>Q [] H
def u9 (ta:TE)(tr:TA):TA:=λσ H Q=>ta σ H λx H1=>tr σ H1 λxs H2=>Q (x::xs) H2
section
variable {X:Cx}{e:Expr}{es:List Expr}{te:TE}{t:TA}{pos:Pos}
theorem cN:PA X [] u7:=λ_ _ _ _ H Q I h=>Calls.spliced_nil ⟨[],H,I,.nil,h⟩
theorem b7 (ha:PE X e te)(hr:PA X es t)(hs:starEach (e::es) X.env=(false,eval e X.env)::starEach es X.env:=by rfl):PA X (e::es) (u9 te t):=by
 intro pos pins s σ H Q I h;rw[hs];show wpAny _ _ (spliced ((false,eval e X.env)::backTo pos (starEach es X.env))) _ _ s;refine Calls.spliced_cons (aD (ha pins s σ H _ I h) λu s1 ⟨x,H1,I1,r1,q1⟩=>?_);exact aD (hr pos pins s1 σ H1 _ I1 q1) λus s2 ⟨xs,H2,I2,r2,q2⟩=>⟨x::xs,H2,I2,.cons r1 r2,q2⟩
def LA (t:TA):TE:=λσ H Q=>t σ H λxs H1=>xs.length<=sizeLine/\∀ p,H1 p=none->Q (.ref p) (upd H1 p (.tup xs))
def LB (t:TA):TE:=λσ H Q=>t σ H λxs H1=>xs.length<=sizeLine/\∀ p,H1 p=none->Q (.ref p) (upd H1 p (.lst xs))
theorem LC {x1}(h:PA X es t):PE X (.Tuple es x1 pos) (LA t):=by
 intro pins s σ H Q I hq;refine wpAny_Tuple_spliced (aD (h pos pins s σ H _ I hq) λus s1 ⟨xs,H1,I1,r,z,q⟩=>⟨by rw[<- r.length];exact z,?_⟩);have hf:H1 s1.heap.objs.size=none:=I1.aA.fresh (ar _);refine⟨.ref s1.heap.objs.size,upd H1 s1.heap.objs.size (.tup xs),I1.laid (t':=s1.toks) (λb u e=>a8 _ e) (ar _) ?_,rfl,q _ hf⟩;exact⟨z,us,r,⟨_,b6 _ rfl,rfl,_,rfl⟩⟩
theorem LD (h:PA X es t):PE X (.List es pos) (LB t):=by
 intro pins s σ H Q I hq;refine wpAny_List_spliced (aD (h pos pins s σ H _ I hq) λus s1 ⟨xs,H1,I1,r,z,q⟩=>⟨by rw[<- r.length];exact z,?_⟩);have hf:H1 s1.heap.objs.size=none:=I1.aA.fresh (ar _);refine⟨.ref s1.heap.objs.size,upd H1 s1.heap.objs.size (.lst xs),I1.laid (t':=s1.toks) (λb u e=>a8 _ e) (ar _) ?_,rfl,q _ hf⟩;exact⟨z,us,0,r,b6 _ rfl⟩
end
abbrev Sp:=Zv->Hp->VK->XK->Prop
abbrev fK:=List Env->Hp->Shared->XK->Value->Shared->Prop
structure qF (P:Program)(w:World)(K:Frag)(mg:aZ)(base:Heap)(A:Around)(outer:List Env)(s:Shared)(H:Hp):Prop where
 frames:A.frames=some outer
 mod:Mod K mg base
 bs:∀ b o,base.get? b=some o->s.heap.get? b=some o/\H b=none
 jf:base.objs.size<=s.heap.objs.size
 gm:s.heap.FunFrames base outer
 kO:∀ b∈g7 outer,H b=none
 aA:cq P w H s.heap
 bare:AllBare s.gens
def CE (outer:List Env)(P:Program)(w:World)(H:Hp)(s:Shared)(Q:VK)(u:Value)(s':Shared):Prop:=
 ∃ v H',s'.os=s.os/\AllBare s'.gens/\Un (g7 outer) [] H H' s.heap s'.heap/\cq P w H' s'.heap/\RelV v u/\Q v H'
def CR (CX:fK)(outer:List Env)(P:Program)(w:World)(H:Hp)(s:Shared)(Q:VK)(E:XK)(r:Result)(s':Shared):Prop:=
 match r with
 |.ok (.ret u)=>CE outer P w H s Q u s'
 |.ok _=>False
 |.error e=>CX outer H s E e s'
structure cT (P:Program)(w:World)(K:Frag)(mg:aZ)(base:Heap)(CX:fK)(k:Nat)(f:Addr)(fd:FuncData)(ps:aq)(sp:Sp):Prop where
 len:∀ vs H Q E,sp vs H Q E->vs.length=ps.length
 run:∀(A:Around)(outer:List Env)(s:Shared)(H:Hp)(args:Args)(us:aC)(vs:Zv)(Q:VK)(E:XK),bO k A->qF P w K mg base A outer s H->BindsTo s fd args (ps.zip us)->Vals vs us->sp vs H Q E ->
  codeAny (model P w) A (.call (.ref f) args) (CR CX outer P w H s Q E) s
theorem cT.mono {P:Program}{w:World}{K:Frag}{mg:aZ}{base:Heap}{CX:fK}{j k:Nat}{f:Addr}{fd:FuncData}{ps:aq}{sp:Sp}(F:cT P w K mg base CX j f fd ps sp)(h:j<=k) :
  cT P w K mg base CX k f fd ps sp:=⟨F.len,λA outer s H args us vs Q E hr=>F.run A outer s H args us vs Q E (hr.mono h)⟩
theorem cT.imp {P:Program}{w:World}{K:Frag}{mg:aZ}{base:Heap}{CX:fK}{k:Nat}{f:Addr}{fd:FuncData}{ps:aq}{sp Bc:Sp}(F:cT P w K mg base CX k f fd ps sp)
  (h:∀ vs H Q E,Bc vs H Q E->sp vs H Q E):cT P w K mg base CX k f fd ps Bc:=
 ⟨λvs H Q E q=>F.len vs H Q E (h _ _ _ _ q),λA outer s H args us vs Q E hr he hb hv hs=>F.run A outer s H args us vs Q E hr he hb hv (h _ _ _ _ hs)⟩
section
variable {X:Cx}{pins:aP}{σ:St}{H:Hp}{s s':Shared}
theorem Inv.LF (I:Inv X pins σ H s):qF X.prog X.w X.K X.mg X.base X.A X.stack s H:=
 ⟨I.ok.frames,I.ok.mod,I.bs,bU I.ok.jf I.sz,I.stack,I.Ax,I.aA,I.bare⟩
theorem Inv.after {Q:VK}{u:Value}(I:Inv X pins σ H s)(h:CE X.stack X.prog X.w H s Q u s'):EP X pins σ Q u s':=by
 obtain⟨v,H',os,bare,un,aA,r,q⟩:=h;obtain⟨hh,g,d,t,ou⟩:=s';obtain rfl:ou=s.os:=os;exact⟨v,H',I.call (h':=hh) (g':=g) (d':=d) (t':=t) (ch:=[]) un aA bare (λb z=>absurd z (by simp)),r,q⟩
end
def LG (sp:Sp)(jT:Zv)(E:XK)(t:TA):TE:=λσ H Q=>t σ H λvs H1=>sp (vs++jT) H1 Q E
def Binds (K:Frag)(fd:FuncData)(ps:aq)(ds:aC):Prop:=
 ∀(s:Shared)(us:aC),K.In s.heap->(us++ds).length=ps.length->BindsTo s fd ⟨us,[]⟩ (ps.zip (us++ds))
theorem Binds.all {K:Frag}{fd:FuncData}{ps:aq}(h:∀ us:aC,us.length=ps.length->bindArgs fd ⟨us,[]⟩=pure (ps.zip us)):Binds K fd ps []:=λs us _ hl=>by
 rw[append_nil] at hl ⊢;exact .of_eq (h us hl)
def Passes (CX:fK)(X:Cx)(E:XK):Prop:=∀(pins:aP)(σ:St)(H:Hp)(s:Shared)(e:Value)(s':Shared),Inv X pins σ H s->CX X.stack H s E e s'->X.xe e s'
section
variable {X:Cx}{CX:fK}{k:Nat}{f C:Addr}{fd:FuncData}{ps:aq}{sp:Sp}{jT:Zv}{ds:aC}{E:XK}{x m:Str}{p pos apos:Pos}{e o:Expr}{es:List Expr}{ta:TE}{t:TA}
theorem LH {pins:aP}{σ:St}{H:Hp}{s:Shared}{Q:VK}{us:aC}{vs:Zv}(F:cT X.prog X.w X.K X.mg X.base CX k f fd ps sp)(hr:bO k X.A)(hb:Binds X.K fd ps ds)(hd:Vals jT ds)(hx:Passes CX X E)
  (I:Inv X pins σ H s)(r:Vals vs us)(h:sp (vs++jT) H Q E):wpAny (model X.prog X.w) X.A (call (.ref f) us) (EP X pins σ Q) X.xe s:=by
 have r2:Vals (vs++jT) (us++ds):=r.append hd;have hl:(us++ds).length=ps.length:=by rw[<- r2.length];exact F.len _ _ _ _ h
 refine wpAny_call (codeAny_mono (F.run X.A X.stack s H ⟨us,[]⟩ (us++ds) (vs++jT) Q E hr I.LF (hb s us I.dG hl) r2 h) λr s' hq=>?_)
 cases r with
 |error e=>exact hx pins σ H s e s' I hq
 |ok fl=>
  cases fl with
  |ret u=>exact I.after hq
  |next=>exact False.elim hq
  |brk=>exact False.elim hq
  |cont=>exact False.elim hq
theorem kZ (F:cT X.prog X.w X.K X.mg X.base CX k f fd ps sp)(hr:bO k X.A)(hg:Gl X x)(hm:X.mg x=some (.ref f))(hk:PySem.W.keepIn X.K (.ref f)=true)(hb:Binds X.K fd ps ds)(hd:Vals jT ds)(hx:Passes CX X E)
  (ha:PA X (e::es) t)(g_:(x==("__debug__":Str))=false:=by decide)(he:starEach (e::es) X.env=(false,eval e X.env)::starEach es X.env:=by rfl)(hpl:(backTo pos (starEach es X.env)).any (·.1)=false:=by rfl) :
  PE X (.Call (.Name x p) (e::es) [] pos) (LG sp jT E t):=by
 intro pins s σ H Q I h;refine wpAny_Call_Name_kw (AM I hg hm ?_ g_);refine PySem.W.callWith_K (h₀:=X.base) I.ok.mod.uR hk (aD (ha pos pins s σ H _ I h) λus s1 ⟨vs,H1,I1,r,q⟩=>⟨I1.dG,?_⟩) he hpl;exact LH F hr hb hd hx I1 r q
end
section
variable {X:Cx}{CX:fK}{k:Nat}{f C:Addr}{fd:FuncData}{ps ks:aq}{sp:Sp}{E:XK}{x m:Str}{p pos apos f6:Pos}{e o:Expr}{es:List Expr}{av:List Keyword}{te ta:TE}{t tk:TA}{nm:Option Str}
variable {g:aC->aC->aC}{gV:Zv->Zv->Zv}
end
structure bw (N P:aq)(sc:Scope):Prop where
 kind:sc.kind=.function
 co:sc.isCoroutine=false
 gen:sc.isGenerator=false
 nd:N.Nodup
 pre:N.take P.length=P
 par:∀ x∈P,sc.names.lookup x=some .local\/sc.names.lookup x=some .cell
 LI:∀ y∈sc.names,y.2≠.free
theorem Bd {kindOf:Str->Option NameKind}{x:Str}:∀{binds:List (Str×Value)}{m:aZ},(∀ v,(x,v)∉binds)->bindL kindOf binds m x=m x
 |[],_,_=>rfl
 |(n,v)::r,m,h=>by
  unfold bindL;rw[Bd λw hw=>h w (mem_cons_of_mem _ hw)]
  split
  ·have:x≠n:=by rintro rfl;exact h v mem_cons_self
   simp [this]
  ·rfl
theorem Bf {kindOf:Str->Option NameKind}{x:Str}:∀{binds:List (Str×Value)}{m:aZ},(∀ v,(x,v)∉binds)->bindC kindOf binds m x=m x
 |[],_,_=>rfl
 |(n,v)::r,m,h=>by
  unfold bindC;rw[Bf λw hw=>h w (mem_cons_of_mem _ hw)]
  split
  ·rfl
  ·have:x≠n:=by rintro rfl;exact h v mem_cons_self
   simp [this]
theorem Bg {kindOf:Str->Option NameKind}{x:Str}{v:Value}:∀{P:aq}{vs:aC}{i:Nat}{m:aZ},P.Nodup->P[i]?=some x->vs[i]?=some v->kindOf x=some .local ->
  bindL kindOf (P.zip vs) m x=some v
 |[],_,_,_,_,h,_,_=>by simp at h
 |_::_,[],_,_,_,_,h,_=>by simp at h
 |p::P,w::vs,0,m,nd,h1,h2,hk=>by
  simp at h1 h2;subst h1;subst h2;show bindL kindOf ((p,w)::P.zip vs) m p=_;unfold bindL;rw[Bd λv hv=>(nodup_cons.mp nd).1 (of_mem_zip hv).1,if_pos hk];simp
 |p::P,w::vs,i+1,m,nd,h1,h2,hk=>by
  show bindL kindOf ((p,w)::P.zip vs) m x=_;unfold bindL;exact Bg (i:=i) (nodup_cons.mp nd).2 (by simpa using h1) (by simpa using h2) hk
theorem Bh {kindOf:Str->Option NameKind}{x:Str}{v:Value}:∀{P:aq}{vs:aC}{i:Nat}{m:aZ},P.Nodup->P[i]?=some x->vs[i]?=some v->kindOf x≠some .local ->
  bindC kindOf (P.zip vs) m x=some v
 |[],_,_,_,_,h,_,_=>by simp at h
 |_::_,[],_,_,_,_,h,_=>by simp at h
 |p::P,w::vs,0,m,nd,h1,h2,hk=>by
  simp at h1 h2;subst h1;subst h2;show bindC kindOf ((p,w)::P.zip vs) m p=_;unfold bindC;rw[Bf λv hv=>(nodup_cons.mp nd).1 (of_mem_zip hv).1,if_neg hk];simp
 |p::P,w::vs,i+1,m,nd,h1,h2,hk=>by
  show bindC kindOf ((p,w)::P.zip vs) m x=_;unfold bindC;exact Bh (i:=i) (nodup_cons.mp nd).2 (by simpa using h1) (by simpa using h2) hk
def start (N:aq)(vs:Zv):St:=vs.map some++replicate (N.length-vs.length) none
def iL (CX:fK)(P:Program)(w:World)(K:Frag)(mg:aZ)(base:Heap)(N:aq)(qual:Str)(scope:Scope)(f:Addr)(cd:Value)(A:Around)(outer:List Env)(s:Shared)(H:Hp)(E:XK):Cx where
 prog:=P
 w:=w
 K:=K
 mg:=mg
 base:=base
 A:=A.deeper (envOfC qual scope s.heap.objs.size f cd)
 N:=N
 c7:=s
 n_:=H
 env:=envOfC qual scope s.heap.objs.size f cd
 outer:=outer
 stack:=envOfC qual scope s.heap.objs.size f cd::outer
 ex:=[]
 calm:=true
 fn:=λ_=>true
 pn:=[]
 xe:=λe s'=>wpAny (model P w) (A.deeper (envOfC qual scope s.heap.objs.size f cd)) (leaving (envOfC qual scope s.heap.objs.size f cd) e) (λ_ ox=>CX outer H s E e ox) (λe' ox=>CX outer H s E e' ox) s'
theorem Bi {sc:Scope}{n:Nat}{x:Str}(h:sc.names.lookup x=some .cell):∃ c,(cellsFrom n sc.names []).lookup x=some c:=by
 have q:=PySem.W.cellsFrom_some sc.names n [] (.inl h);exact Option.isSome_iff_exists.mp q
theorem LJ {CX:fK}{P:Program}{w:World}{K:Frag}{mg:aZ}{base:Heap}{N ps:aq}{qual:Str}{scope:Scope}{f:Addr}{cd:Value}{A:Around}{outer:List Env}{s s1:Shared}{H:Hp}{E:XK}{us:aC}{vs:Zv}
  (S:bw N ps scope)(hd:A.handled=none)(e0:qF P w K mg base A outer s H)(hl:vs.length=ps.length)(r:Vals vs us)
  (x:InCallC s s.heap.objs.size (bindL (envOfC qual scope s.heap.objs.size f cd).kindOf (ps.zip us) λ_=>none) (cellsFrom (s.heap.objs.size+1) scope.names []) (bindC (envOfC qual scope s.heap.objs.size f cd).kindOf (ps.zip us) λ_=>none) s1) :
  Inv (iL CX P w K mg base N qual scope f cd A outer s H E) [] (start N vs) H s1:=by
 have hpl:ps.length<=N.length:=by have:=congrArg List.length S.pre;rw[length_take] at this;omega
 obtain⟨h1,tk,rfl,hk⟩:=x.done;have oy:∀ b:Addr,b∉(iL CX P w K mg base N qual scope f cd A outer s H E).ex:=λb z=>absurd (show b∈([]:List Addr) from z) (by simp)
 refine⟨⟨e0.mod,S.kind,rfl,rfl,ar _,λy z c h1 h2=>?_,λy hy=>?_,λy c _ h=>?_,λ_=>hd,Around.frames_deeper e0.frames,.inr ⟨rfl,rfl⟩,λb z=>absurd z (oy b),e0.bs,e0.jf,λb _ _=>oy b,λb z=>absurd z (oy b),e0.gm,e0.kO⟩,
  rfl,e0.bare,Un.kept hk,⟨_,x.toInCall.ns,λi y v h1 h2 h3=>?_⟩,λy c h=>⟨_,x.cell y c h⟩,e0.aA.fresh (ar _),λy c h=>?_,λp hp=>absurd (show p∈([]:aP) from hp) (by simp),e0.aA.kept hk,?_⟩
 ·exact name_of_addr x.apart (PySem.mem_of_lookup h1) (PySem.mem_of_lookup h2)
 ·have hy:scope.names.lookup y=some .cell\/scope.names.lookup y=some .free:=hy;rcases hy with hy|hy
  ·exact Bi hy
  ·exact absurd rfl (S.LI _ (PySem.mem_of_lookup hy))
 ·exact Nat.le_of_lt (x.above y c (PySem.mem_of_lookup h))
 ·have hi:i<vs.length:=by
   unfold start at h2;by_cases hi:i<vs.length
   ·exact hi
   ·rw[getElem?_append_right (by simpa using hi)] at h2;rw[getElem?_replicate] at h2
    split at h2<;>cases h2
  have ha:vs[i]?=some v:=by
   unfold start at h2;rw[getElem?_append_left (by simpa using hi),getElem?_map] at h2
   cases e:vs[i]? with
   |none=>rw[e] at h2;cases h2
   |some a=>rw[e] at h2;cases h2;rfl
  obtain⟨u,hu,rv⟩:=r.get ha
  have hp:ps[i]?=some y:=by
   rw[<- S.pre,getElem?_take_of_lt (by omega)];exact h1
  have Bj:ps.Nodup:=by rw[<- S.pre];exact S.nd.sublist (take_sublist _ _)
  refine⟨u,rv,?_⟩;rcases S.par y (mem_of_getElem? hp) with k|k
  ·exact .inl ⟨k,Bg Bj hp hu k⟩
  ·obtain⟨c,e⟩:=Bi (n:=s.heap.objs.size+1) k;refine .inr ⟨.inl k,c,e,?_⟩;have q:=x.cell y c e;rw[Bh Bj hp hu (by show scope.names.lookup y≠_;rw[k];decide)] at q;exact q
 ·exact e0.aA.fresh (Nat.le_of_lt (x.above y c (PySem.mem_of_lookup h)))
 ·unfold start;show N.length<=_;rw[length_append,length_map,length_replicate];omega
theorem LK {CX:fK}{P:Program}{w:World}{K:Frag}{mg:aZ}{base:Heap}{k:Nat}{f:Addr}{name qual:Str}{params:Arguments}{body:List Stmt}{scope:Scope}{dV kV doc pm aE ct oc:Value}{an od:Option Addr}
  {jj:Array (Option Value)}{N ps:aq}{sp:Sp}(lk:K.lookup f=some ⟨oc,od,.func (PySem.W.fnOf name qual params body scope dV kV doc pm an aE ct),jj⟩)(bJ:PySem.W.codeIn K aE qual=true)(S:bw N ps scope)
  (len:∀ vs H Q E,sp vs H Q E->vs.length=ps.length)
  (hJ:∀(A:Around)(outer:List Env)(s:Shared)(H:Hp)(vs:Zv)(Q:VK)(E:XK),bO k (A.deeper (envOfC qual scope s.heap.objs.size f aE))->sp vs H Q E ->
   ∃ t,cv (iL CX P w K mg base N qual scope f aE A outer s H E) body t/\t { nx:=λ_ H'=>Q .non H',rt:=Q } (start N vs) H) :
  cT P w K mg base CX (k+1) f (PySem.W.fnOf name qual params body scope dV kV doc pm an aE ct) ps sp:=by
 refine⟨len,λA outer s H args us vs Q E hr e0 hb r jU=>?_⟩;have hl:=len _ _ _ _ jU;have KX:K.In s.heap:=e0.mod.uR.keeps λb o e=>(e0.bs b o e).1;have lim:s.heap.NoLimit:=e0.mod.nolimit.keeps λb o e=>(e0.bs b o e).1
 have LL:∀ y∈ps.zip us,scope.names.lookup y.1=some .local\/(scope.names.lookup y.1=some .cell/\((cellsFrom (s.heap.objs.size+1) scope.names []).lookup y.1).isSome=true):=fun⟨n,v⟩ hy=>by
  rcases S.par n (of_mem_zip hy).1 with q|q
  ·exact .inl q
  ·exact .inr ⟨q,PySem.W.cellsFrom_some _ _ _ (.inl q)⟩
 refine codeAny_call_function hr.depth (KX _ _ lk) rfl S.co S.gen rfl (PySem.W.codeRec_of KX bJ) (hb _ _ _ _ ?_);refine wpAny_newFunctionEnv_cells S.kind LL λenv he s1 x=>?_;subst he;refine⟨lim.keeps x.toInCall.keep,codeAny_func ?_⟩;obtain⟨t,ht,hq⟩:=hJ A outer s H vs Q E (hr.deeper _) jU;have I:Inv (iL CX P w K mg base N qual scope f aE A outer s H E) [] (start N vs) H s1:=LJ S hr.hd e0 hl r x;refine wpAny_mono (ht [] s1 (start N vs) H _ I hq) (λfl s' hs=>?_) λe s' hs=>hs
 have fin:∀{aH:St}{H':Hp}{v:V}{u:Value},Inv (iL CX P w K mg base N qual scope f aE A outer s H E) [] aH H' s'->RelV v u->Q v H'->CE outer P w H s Q u s':=
  λ{aH H' v u} J rv q=>⟨v,H',J.os,J.bare,J.base,J.aA,rv,q⟩
 cases fl with
 |ret u=>
  obtain⟨v,aH,H',J,rv,q⟩:=hs;exact fin J rv q
 |next=>
  obtain⟨aH,H',J,q⟩:=hs;exact fin (v:=V.non) (u:=Value.none) J rfl q
 |brk=>
  obtain⟨_,_,_,q⟩:=hs;exact False.elim q
 |cont=>
  obtain⟨_,_,_,q⟩:=hs;exact False.elim q
section
variable {X:Cx}{x:Str}{p pos:Pos}{e:Expr}{es:List Expr}{t:TA}{id T:String}{r:Zv->Hp->VK->Prop}
def qG (r:Zv->Hp->VK->Prop)(t:TA):TE:=λσ H Q=>t σ H λvs H1=>r vs H1 Q
theorem hU (hc:cx X (.builtin id) r)(hg:Gl X x)(hm:X.mg x=none)(hv:bootBuiltins x=some (.builtin id))(ha:PA X (e::es) t)(hn:x≠"__name__":=by decide)(g_:(x==("__debug__":Str))=false:=by decide)
  (he:starEach (e::es) X.env=(false,eval e X.env)::starEach es X.env:=by rfl)(hpl:(backTo pos (starEach es X.env)).any (·.1)=false:=by rfl):PE X (.Call (.Name x p) (e::es) [] pos) (qG r t):=by
 intro pins s σ H Q I h;refine wpAny_Call_Name_kw (mj I hg hm hv ?_ hn g_);exact PyProof.Rows.callWith_builtin1 (aD (ha pos pins s σ H _ I h) λus s1 ⟨vs,H1,I1,r1,q1⟩=>hc pins s1 σ H1 vs us Q I1 r1 q1) he hpl
theorem u_ (hc:cx X (.type T) r)(hg:Gl X x)(hm:X.mg x=none)(hv:bootBuiltins x=some (.type T))(ha:PA X (e::es) t)(hn:x≠"__name__":=by decide)(g_:(x==("__debug__":Str))=false:=by decide)
  (he:starEach (e::es) X.env=(false,eval e X.env)::starEach es X.env:=by rfl)(hpl:(backTo pos (starEach es X.env)).any (·.1)=false:=by rfl):PE X (.Call (.Name x p) (e::es) [] pos) (qG r t):=by
 intro pins s σ H Q I h;refine wpAny_Call_Name_kw (mj I hg hm hv ?_ hn g_);exact PyProof.Rows.callWith_type1 (aD (ha pos pins s σ H _ I h) λus s1 ⟨vs,H1,I1,r1,q1⟩=>hc pins s1 σ H1 vs us Q I1 r1 q1) he hpl
end
section
variable {κ:Type} [DecidableEq κ]
def dj (kvs:List (κ×V))(k:κ):Option V:=(kvs.find? λkv=>decide (kv.1=k)).map (·.2)
def putK (kvs:List (κ×V))(k:κ)(v:V):List (κ×V):=
 if (kvs.any λkv=>decide (kv.1=k))=true then kvs.map (λkv=>if kv.1=k then (kv.1,v) else kv) else kvs++[(k,v)]
theorem oz {p:κ×V}{r:List (κ×V)}{k:κ}(e:p.1=k):dj (p::r) k=some p.2:=by simp [dj,find?_cons,e]
theorem oA {p:κ×V}{r:List (κ×V)}{k:κ}(e:¬ p.1=k):dj (p::r) k=dj r k:=by simp [dj,find?_cons,e]
theorem mq (k:κ):∀ kvs:List (κ×V),(kvs.any λkv=>decide (kv.1=k))=(dj kvs k).isSome
 |[]=>rfl
 |p::r=>by
  rw[any_cons];by_cases e:p.1=k
  ·simp only[oz e,decide_eq_true e,Bool.true_or,Option.isSome_some]
  ·rw[oA e,decide_eq_false e,Bool.false_or];exact mq k r
theorem qH (kvs:List (κ×V))(k:κ)(v:V):(putK kvs k v).length<=kvs.length+1:=by
 unfold putK
 split
 ·rw[length_map];omega
 ·rw[length_append,length_cons,length_nil];omega
theorem LM {kvs:List (κ×V)}{k:κ}(v:V)(h:dj kvs k=none):putK kvs k v=kvs++[(k,v)]:=by
 unfold putK;rw[mq,h];exact if_neg (by decide)
theorem g5.vd {o:Option V}{u:Option Value}(r:g5 o u):o.isSome=u.isSome:=by
 cases o with
 |none=>cases u with
  |none=>rfl
  |some _=>exact(show False from r).elim
 |some _=>cases u with
  |none=>exact(show False from r).elim
  |some _=>rfl
theorem KV.val {kvs:List (κ×V)}{vs:List (κ×Value)}(r:KV kvs vs)(k:κ):g5 (dj kvs k) (valueAt vs k):=by
 unfold KV at r
 induction r with
 |nil=>exact True.intro
 |@cons p q ps qs h t ih=>
  obtain⟨h1,h2⟩:=h;by_cases e:p.1=k
  ·have e':q.1=k:=h1.symm.trans e;have b:valueAt (q::qs) k=some q.2:=by simp [valueAt,find?_cons,e']
   rw[oz e,b];exact h2
  ·have e':¬ q.1=k:=λz=>e (h1.trans z);have b:valueAt (q::qs) k=valueAt qs k:=by simp [valueAt,find?_cons,e']
   rw[oA e,b];exact ih
theorem KV.any {kvs:List (κ×V)}{vs:List (κ×Value)}(r:KV kvs vs)(k:κ):(kvs.any λkv=>decide (kv.1=k))=vs.any λkv=>decide (kv.1=k):=by
 unfold KV at r
 induction r with
 |nil=>rfl
 |cons h t ih=>rw[any_cons,any_cons,ih,h.1]
theorem KV.ve {kvs:List (κ×V)}{vs:List (κ×Value)}(r:KV kvs vs)(k:κ){y:V}{u:Value}(ry:RelV y u) :
  KV (kvs.map λkv=>if kv.1=k then (kv.1,y) else kv) (vs.map λkv=>if kv.1=k then (kv.1,u) else kv):=by
 unfold KV at r ⊢
 induction r with
 |nil=>exact .nil
 |@cons p q ps qs h t ih=>
  rw[map_cons,map_cons];refine .cons ?_ ih;obtain⟨h1,h2⟩:=h;by_cases e:p.1=k
  ·rw[if_pos e,if_pos (h1.symm.trans e)];exact⟨h1,ry⟩
  ·rw[if_neg e,if_neg (λz=>e (h1.trans z))];exact⟨h1,h2⟩
theorem KV.put {kvs:List (κ×V)}{vs:List (κ×Value)}(r:KV kvs vs)(k:κ){y:V}{u:Value}(ry:RelV y u):KV (putK kvs k y) (stored vs k u):=by
 unfold putK stored;rw[r.any k];by_cases e:(vs.any λkv=>decide (kv.1=k))=true
 ·rw[if_pos e,if_pos e];exact r.ve k ry
 ·rw[if_neg e,if_neg e];exact Paired.snoc r ⟨rfl,ry⟩
theorem KV.length {kvs:List (κ×V)}{vs:List (κ×Value)}(r:KV kvs vs):kvs.length=vs.length:=Paired.length r
end
theorem jV {P:Program}{w:World}{k:Key}{u:Value}(r:RelV (kV k) u):(bM P w).is k u=true:=by
 cases k with
 |inl i=>obtain⟨t,e⟩:=(show ∃ t,u=Value.int i t from r);subst e;exact JK P w i t
 |inr x=>obtain⟨t,e⟩:=(show ∃ t,u=Value.str x t from r);subst e;exact JL P w x t
theorem Bk {P:Program}{w:World}:∀{ks:List Key}{us:aC},Vals (ks.map kV) us->ItemsAre (bM P w) ks us
 |[],_,r=>by rw[map_nil] at r;cases r;exact .nil
 |k::ks,_,r=>by
  rw[map_cons] at r
  cases r with
  |cons h t=>exact .cons (jV h) (Bk t)
abbrev KT (H:Hp):List (List Key×V)->List (List Key×Addr×Value)->Prop:=Paired λp q=>p.1=q.1/\H q.2.1=some (.tup (p.1.map kV))/\RelV p.2 q.2.2
theorem KT.val {H:Hp}{kvs:List (List Key×V)}{xs:List (List Key×Addr×Value)}(r:KT H kvs xs)(k:List Key):g5 (dj kvs k) ((atKey xs k).map (·.2)):=by
 induction r with
 |nil=>exact True.intro
 |@cons p q ps qs h t ih=>
  obtain⟨h1,_,h2⟩:=h;by_cases e:p.1=k
  ·have e':q.1=k:=h1.symm.trans e;have b:atKey (q::qs) k=some q.2:=by simp [atKey,find?_cons,e']
   rw[oz e,b];exact h2
  ·have e':¬ q.1=k:=λz=>e (h1.trans z);have b:atKey (q::qs) k=atKey qs k:=by simp [atKey,find?_cons,e']
   rw[oA e,b];exact ih
theorem KT.ve {H:Hp}{kvs:List (List Key×V)}{xs:List (List Key×Addr×Value)}(r:KT H kvs xs)(k:List Key){y:V}{u:Value}(ry:RelV y u) :
  KT H (kvs.map λkv=>if kv.1=k then (kv.1,y) else kv) (xs.map (putAt k u)):=by
 induction r with
 |nil=>exact .nil
 |@cons p q ps qs h t ih=>
  rw[map_cons,map_cons];refine .cons ?_ ih;obtain⟨h1,h2,h3⟩:=h;unfold putAt;by_cases e:p.1=k
  ·rw[if_pos e,if_pos (h1.symm.trans e)];exact⟨h1,h2,ry⟩
  ·rw[if_neg e,if_neg (λz=>e (h1.trans z))];exact⟨h1,h2,h3⟩
theorem KT.put {H:Hp}{kvs:List (List Key×V)}{xs:List (List Key×Addr×Value)}(r:KT H kvs xs)(k:List Key){b:Addr}{y:V}{u:Value}(hb:H b=some (.tup (k.map kV)))(ry:RelV y u) :
  KT H (putK kvs k y) (storedH xs k b u):=by
 have e:(kvs.any λkv=>decide (kv.1=k))=(atKey xs k).isSome:=by
  rw[mq,(r.val k).vd,Option.isSome_map]
 unfold putK storedH;rw[e];by_cases q:(atKey xs k).isSome=true
 ·rw[if_pos q,if_pos q];exact r.ve k ry
 ·rw[if_neg q,if_neg q];exact Paired.snoc r ⟨rfl,hb,ry⟩
theorem KT.keeps {H H':Hp}{kvs:List (List Key×V)}{xs:List (List Key×Addr×Value)}(r:KT H kvs xs)(ht:∀ b ys,H b=some (.tup ys)->H' b=some (.tup ys)):KT H' kvs xs:=
 Paired.uQ r λ_ _ z=>⟨z.1,ht _ _ z.2.1,z.2.2⟩
section
variable {P:Program}{w:World}{H:Hp}{h:Heap}{a:Addr}
theorem Bl {u:HO}(ok:cq P w H h)(e:Rd H a u):cP P w H h a u:=e.ok ok
theorem mx {kvs:bh}(ok:cq P w H h)(e:Rd H a (.dK kvs)):kvs.length<=sizeLine/\(a==sysModules)=false/\∃ vs,KV kvs vs/\h.DictOf (bM P w) a vs:=
 show cP P w H h a (.dK kvs) from Bl ok e
theorem qI {kvs:bh}(ok:cq P w H h)(e:H a=some (.dK kvs)):kvs.length<=sizeLine/\(a==sysModules)=false/\∃ vs,KV kvs vs/\h.DictOf (bM P w) a vs:=mx ok (.inl e)
theorem qJ {ks:List Key}(ok:cq P w H h)(e:H a=some (.tup (ks.map kV))):(tupleKind (bM P w)).is h ks a:=by
 obtain⟨_,its,r,o,h1,h2,n,h3⟩:=(show cP P w H h a (.tup (ks.map kV)) from ok a _ e);exact⟨o,its.toArray,n,h1,h2,h3,by simpa using Bk r⟩
theorem qK {kvs:List (List Key×V)}(ok:cq P w H h)(e:Rd H a (.dT kvs)):kvs.length<=sizeLine/\(a==sysModules)=false /\
  ∃ xs,KT H kvs xs/\h.DictOfH (tupleKind (bM P w)) a xs:=by
 obtain⟨z,y,xs,r,o,es,ep,h1,h2,h3,h4,h5⟩:=(show cP P w H h a (.dT kvs) from Bl ok e);refine⟨z,y,xs,r,o,es,ep,h1,h2,h3,h4,λx hx=>?_,h5⟩
 have all:∀{l:List (List Key×V)}{m:List (List Key×Addr×Value)},KT H l m->∀ x∈m,(tupleKind (bM P w)).is h x.1 x.2.1:=by
  intro l m q
  induction q with
  |nil=>intro x hx;exact nomatch hx
  |@cons p q ps qs hq t ih=>
   intro x hx;rcases mem_cons.mp hx with e|hx
   ·subst e;exact qJ ok (by rw[<- hq.1];exact hq.2.1)
   ·exact ih x hx
 exact all r x hx
theorem LN {kvs:List (List Key×V)}(ok:cq P w H h)(e:H a=some (.dT kvs)):kvs.length<=sizeLine/\(a==sysModules)=false /\
  ∃ xs,KT H kvs xs/\h.DictOfH (tupleKind (bM P w)) a xs:=qK ok (.inl e)
end
def fb (H:Hp)(a:Addr)(y:V)(r:Option V):Prop:=
 (∃ kvs k,Rd H a (.dK kvs)/\y=kV k/\r=dj kvs k)\/∃ kvs k b,Rd H a (.dT kvs)/\y=.ref b/\H b=some (.tup (k.map kV))/\r=dj kvs k
def iM (H:Hp)(a:Addr)(y v:V)(H':Hp):Prop:=
 (∃ kvs k,H a=some (.dK kvs)/\y=kV k/\kvs.length<sizeLine/\H'=upd H a (.dK (putK kvs k v))) \/
 ∃ kvs k b,H a=some (.dT kvs)/\y=.ref b/\H b=some (.tup (k.map kV))/\kvs.length<sizeLine/\H'=upd H a (.dT (putK kvs k v))
theorem fb.k {H:Hp}{a:Addr}{kvs:bh}{k:Key}(e:H a=some (.dK kvs)):fb H a (kV k) (dj kvs k):=.inl ⟨kvs,k,.inl e,rfl,rfl⟩
theorem iM.k {H:Hp}{a:Addr}{kvs:bh}{k:Key}{v:V}(e:H a=some (.dK kvs))(hl:kvs.length<sizeLine):iM H a (kV k) v (upd H a (.dK (putK kvs k v))):=.inl ⟨kvs,k,e,rfl,hl,rfl⟩
section
variable {X:Cx}{pins:aP}{σ:St}{H:Hp}{s:Shared}{a:Addr}{y v:V}{u r:Value}{o:Option V}{A:Around}{E:aG}
theorem Inv.big (I:Inv X pins σ H s):sysModules<s.heap.objs.size:=by
 have h:mainGlobals<s.heap.objs.size:=(I.mod.glob.keeps I.bk).lt;exact Nat.lt_trans (by decide) h
theorem Bm {Q:aG}(hu:A.units+1<cLine)(I:Inv X pins σ H s)(g:fb H a y (some v))(ry:RelV y u)(h:∀ w' s',Inv X pins σ H s'->RelV v w'->Q w' s') :
  wpAny (model X.prog X.w) A (getItem (.ref a) u) Q E s:=by
 rcases g with ⟨kvs,k,e,ey,l⟩|⟨kvs,k,b,e,ey,eb,l⟩
 ·subst ey;obtain⟨z,hd,vs,rel,dd⟩:=mx I.aA e;obtain⟨w',hw,dI⟩:=g5.some_of (v:=v) (o:=valueAt vs k) (by rw[l];exact rel.val k);exact wpAny_getItem_of (jV ry) dd.mapOf hw (h w' _ (I.tok _) dI)
 ·subst ey;cases (show u=Value.ref b from ry);obtain⟨z,hd,xs,rel,dd⟩:=qK I.aA e;obtain⟨w',hw,dI⟩:=g5.some_of (v:=v) (o:=(atKey xs k).map (·.2)) (by rw[l];exact rel.val k);obtain⟨p,hp,qL⟩:=Option.map_eq_some_iff.mp hw;refine wpAny_getItem_heap (tupleKind_room_in1 hu) (qJ I.aA eb) dd hp ?_;rw[qL];exact h w' _ (I.tok _) dI
theorem LO {Q:aG}(hu:A.units+1<cLine)(I:Inv X pins σ H s)(g:fb H a y o)(ry:RelV y u)(h:∀ s',Inv X pins σ H s'->Q (.bool o.isSome) s') :
  wpAny (model X.prog X.w) A (compareOp .In u (.ref a)) Q E s:=by
 rcases g with ⟨kvs,k,e,ey,l⟩|⟨kvs,k,b,e,ey,eb,l⟩
 ·subst ey;obtain⟨z,hd,vs,rel,dd⟩:=mx I.aA e;refine wpAny_in_of (jV ry) hd dd.mapOf ?_;rw[<- (rel.val k).vd,<- l];exact h _ (I.tok _)
 ·subst ey;cases (show u=Value.ref b from ry);obtain⟨z,hd,xs,rel,dd⟩:=qK I.aA e;refine wpAny_in_heap (tupleKind_room_in1 hu) (qJ I.aA eb) hd dd ?_;have q:=(rel.val k).vd;rw[Option.isSome_map] at q;rw[<- q,<- l];exact h _ (I.tok _)
theorem qM {h':Heap}{t':Nat}{ob:HO}(I:Inv X pins σ H s)(mu:n6 (H a))(hs:Heap.SameBut a s.heap h')(he:∃ q,h'.get? a=some q)(new:cP X.prog X.w (upd H a ob) h' a ob) :
  Inv X pins σ (upd H a ob) { s with heap:=h',toks:=t' }:=
 I.write (x:=a) (e:=a) mu (.inl rfl) (λb q hb z=>(hs.2 b hb).trans z) he new
theorem oB {P:Program}{w:World}{H':Hp}{h':Heap}{kvs:bh}{vs:List (Key×Value)}(z:kvs.length<=sizeLine)(hd:(a==sysModules)=false)(rel:KV kvs vs)(dd:h'.DictOf (bM P w) a vs) :
  cP P w H' h' a (.dK kvs):=⟨z,hd,vs,rel,dd⟩
theorem LP {H':Hp}{Q:Unit->Shared->Prop}(hu:A.units+1<cLine)(I:Inv X pins σ H s)(g:iM H a y v H')(ry:RelV y u)(rv:RelV v r)(h:∀ s',Inv X pins σ H' s'->Q () s') :
  wpAny (model X.prog X.w) A (setItem (.ref a) u r) Q E s:=by
 rcases g with ⟨kvs,k,e,ey,l,eH⟩|⟨kvs,k,b,e,ey,eb,l,eH⟩
 ·subst ey eH;obtain⟨z,hd,vs,rel,dd⟩:=qI I.aA e;have hz:vs.length<=sizeLine:=by rw[<- rel.length];exact z
  have hl:(putK kvs k v).length<=sizeLine:=by have:=qH kvs k v;omega
  refine wpAny_setItem_pairs (hsz:=hz) (jV ry) dd λh' gy hs=>h _ ?_;have he:∃ q,h'.get? a=some q:=let ⟨q,_,_,hq,_⟩:=gy;⟨q,hq⟩
  exact qM I (by rw[e];exact True.intro) hs he (oB hl hd (rel.put k rv) gy)
 ·subst ey eH;cases (show u=Value.ref b from ry);obtain⟨z,hd,xs,rel,dd⟩:=LN I.aA e;have hz:xs.length<=sizeLine:=by rw[<- Paired.length rel];exact z
  have hl:(putK kvs k v).length<=sizeLine:=by have:=qH kvs k v;omega
  refine wpAny_setItem_heap (hsz:=hz) (tupleKind_room_in1 hu) (qJ I.aA eb) dd λh' gy hs=>h _ ?_;obtain⟨q,es,ep,hq,h2,h3,h4,_,h5⟩:=gy;refine qM I (by rw[e];exact True.intro) hs ⟨q,hq⟩ ⟨hl,hd,_,(rel.put k eb rv).keeps λc ys ec=>?_,q,es,ep,hq,h2,h3,h4,h5⟩;rw[a7 (uP ec e (λz=>nomatch z))];exact ec
end
section
variable {X:Cx}{pins:aP}{σ:St}{H:Hp}{s:Shared}{a:Addr}{kvs:bh}{k:Key}{u:Value}{A:Around}{E:aG}
end
def qN (i:Expr):Prop:=∀ ov iv,subscripted i false ov iv=operate [ov,iv] (getItem ov iv)
theorem Bn {prog:Program}{w:World}{A:Around}{E:aG}{s:Shared}{env:Env}{value slice:Expr}{pos:Pos}{T id:String}{Q:aG}
  (hl:typeLookup (.type T) "__getitem__"=pure (some (.builtin id)))(hs:qN slice)
  (h:wpAny (model prog w) A (eval value env) (λo aT=>wpAny (model prog w) A (eval slice env) (λi dR=>dR.TypeIs o T/\wpAny (model prog w) A (getItem o i) Q E dR) E aT) E s) :
  wpAny (model prog w) A (eval (.Subscript value slice pos) env) Q E s:=by
 refine Subscript_ (wpAny_mono h (λo aT h₁=>wpAny_mono h₁ (λi dR k0=>?_) λ_ _ x=>x) λ_ _ x=>x);obtain⟨hT,k0⟩:=k0;unfold subscriptTail;refine af ?_;rw[getitemInPython_of_ne hT.not_modules];refine af (wpAny_specialOf hT hl ?_)
 have fin:wpAny (model prog w) A (subscripted slice false o i) (λr my=>wpAny (model prog w) A (letTemporaryGo value o r >>= λ_=>pure r) Q E my) E dR:=by
  rw[hs o i];exact wpAny_operating (wpAny_mono k0 (λr my LQ=>af (wpAny_letTemporaryGo (ao LQ))) λ_ _ x=>x)
 first
  |exact ao (af fin)
  |exact af (ao (af fin))
  |exact af fin
theorem Bo {X:Cx}{pins:aP}{σ:St}{H:Hp}{s:Shared}{a:Addr}{y:V}{o:Option V}(I:Inv X pins σ H s)(g:fb H a y o):s.TypeIs (.ref a) "dict":=by
 rcases g with ⟨kvs,k,e,_,_⟩|⟨kvs,k,b,e,_,_,_⟩
 ·obtain⟨_,_,vs,_,dd⟩:=mx I.aA e;exact dd.typeIs
 ·obtain⟨_,_,xs,_,dd⟩:=qK I.aA e;exact dd.typeIs
def LR (td ty:TE):TE:=λσ H Q=>td σ H λx H1=>ty σ H1 λy H2=>∃ a v,x=.ref a/\fb H2 a y (some v)/\Q v H2
def LS (td ty tv:TE):TS:=λD σ H=>tv σ H λv H1=>td σ H1 λx H2=>ty σ H2 λy H3=>∃ a H4,x=.ref a/\iM H3 a y v H4/\D.nx σ H4
section
variable {X:Cx}{o i e value:Expr}{pos pos' Ly:Pos}{td ty tv:TE}
theorem f7 (hu:X.A.units+1<cLine)(ho:PE X o td)(hi:PE X i ty)(hs:qN i):PE X (.Subscript o i pos) (LR td ty):=by
 intro pins s σ H Q I h;refine Bn PySem.F.slot_dict_getitem.lookup hs (aD (ho pins s σ H _ I h) λu s1 ⟨x,H1,I1,rx,q1⟩=>aD (hi pins s1 σ H1 _ I1 q1) λiv s2 ⟨y,H2,I2,ry,a,v,ex,g,q2⟩=>?_);subst ex;obtain rfl:u=Value.ref a:=rx;exact⟨Bo I2 g,Bm hu I2 g ry λw' s3 I3 dI=>⟨v,H2,I3,dI,q2⟩⟩
theorem jW (hu:X.A.units+1<cLine)(ho:PE X o td)(hi:PE X i ty)(hv:PE X value tv)(hs:swapsWith value (some (.Subscript o i pos')) pos.line X.env=pure false) :
  PS X (.Assign [.Subscript o i pos'] value pos) (LS td ty tv):=by
 intro pins s σ H D I h;refine wpAny_Assign_Subscript (aD (hv pins s σ H _ I h) λr s1 ⟨v,H1,I1,rv,q1⟩=>aD (ho pins s1 σ H1 _ I1 q1) λu s2 ⟨x,H2,I2,rx,q2⟩=>aD (hi pins s2 σ H2 _ I2 q2) λiv s3 ⟨y,H3,I3,ry,a,H4,ex,g,q3⟩=>?_) hs;subst ex;obtain rfl:u=Value.ref a:=rx;exact LP hu I3 g ry rv λs4 I4=>⟨σ,H4,I4,q3⟩
end
theorem Bp {P:Program}{w:World}{H:Hp}(h:Heap)(hb:sysModules<h.objs.size):cP P w H (h.push { cls:=.type "dict",data:=.dict #[] }) h.objs.size (.dK []):=
 ⟨Nat.zero_le _,beq_eq_false_iff_ne.mpr (Ne.symm (bI hb)),[],.nil,Heap.DictOf.new h⟩
def LU:TE:=λ_ H Q=>∀ p,H p=none->Q (.ref p) (upd H p (.dK []))
section
variable {X:Cx}{pos:Pos}
theorem LV:PE X (.Dict [] [] pos) LU:=λpins s σ H Q I h=>
 wpAny_Dict_empty ⟨.ref s.heap.objs.size,_,I.laid (a:=s.heap.objs.size) (o:=.dK []) (t':=s.toks) (λ_ _ q=>a8 _ q) (ar _) (Bp s.heap I.big),rfl,h _ (I.aA.fresh (ar _))⟩
end
def vg:List (TE×TE)->St->Hp->(List (V×V)->Hp->Prop)->Prop
 |[],_,H,Q=>Q [] H
 |(tk,tv)::r,σ,H,Q=>tk σ H λx H1=>tv σ H1 λy H2=>vg r σ H2 λps H3=>Q ((x,y)::ps) H3
abbrev VV:List (V×V)->List (Value×Value)->Prop:=Paired λp q=>RelV p.1 q.1/\RelV p.2 q.2
def qO (X:Cx)(pos:Pos)(keys:List (Option Expr))(values:List Expr)(jk:List (TE×TE)):Prop:=
 ∀(pins:aP)(s:Shared)(σ:St)(H:Hp)(Q:List (V×V)->Hp->Prop),Inv X pins σ H s->vg jk σ H Q ->
  wpAny (model X.prog X.w) X.A (evalPairs (pairTrees keys values X.env pos)) (λvs s'=>∃ ps H',Inv X pins σ H' s'/\VV ps vs/\Q ps H') X.xe s
theorem Bq {X:Cx}{pos:Pos}:qO X pos [] [] []:=λpins s σ H Q I h=>pairTrees_nil_walk ⟨[],H,I,.nil,h⟩
theorem jX {X:Cx}{pos:Pos}{k v:Expr}{ks:List (Option Expr)}{vs:List Expr}{tk tv:TE}{jk:List (TE×TE)}(hk:PE X k tk)(hv:PE X v tv)(hr:qO X pos ks vs jk) :
  qO X pos (some k::ks) (v::vs) ((tk,tv)::jk):=λpins s σ H Q I h=>
 pairTrees_cons_walk (aD (hk pins s σ H _ I h) λu s1 ⟨x,H1,I1,rx,q1⟩=>aD (hv pins s1 σ H1 _ I1 q1) λw2 s2 ⟨y,H2,I2,ry,q2⟩=>
  aD (hr pins s2 σ H2 _ I2 q2) λws s3 ⟨ps,H3,I3,rel,q3⟩=>⟨(x,y)::ps,H3,I3,.cons ⟨rx,ry⟩ rel,q3⟩)
def hV (kvs more:bh):bh:=more.foldl (λacc kv=>putK acc kv.1 kv.2) kvs
theorem KV.merge:∀{more:bh}{rs:List (Key×Value)}{kvs:bh}{vs:List (Key×Value)},KV more rs->KV kvs vs->KV (hV kvs more) (merged vs rs):=by
 intro more rs kvs vs r;unfold KV at r
 induction r generalizing kvs vs with
 |nil=>intro q;exact q
 |@cons p q ps qs h t ih=>
  intro r0
  have e:KV (putK kvs p.1 p.2) (stored vs q.1 q.2):=by
   have:=r0.put p.1 h.2;rw[<- h.1];exact this
  exact ih e
theorem vh:∀(more kvs:bh),(hV kvs more).length<=kvs.length+more.length
 |[],kvs=>by show kvs.length<=kvs.length+0;omega
 |p::r,kvs=>by
  have h1:=vh r (putK kvs p.1 p.2);have h2:=qH kvs p.1 p.2;show(hV (putK kvs p.1 p.2) r).length<=_;rw[length_cons];omega
theorem Br {P:Program}{w:World}:∀{kvs:bh}{ws:List (Value×Value)},VV (kvs.map λkv=>(kV kv.1,kv.2)) ws->∃ rs,Carries (bM P w) ws rs/\KV kvs rs
 |[],_,r=>by rw[map_nil] at r;cases r;exact⟨[],True.intro,.nil⟩
 |p::kvs,_,r=>by
  rw[map_cons] at r
  cases r with
  |@cons a b as bs h t=>
   obtain⟨rs,c,q⟩:=Br (P:=P) (w:=w) t;obtain⟨b1,b2⟩:=b;exact⟨(p.1,b2)::rs,⟨jV h.1,rfl,c⟩,.cons ⟨rfl,h.2⟩ q⟩
def LW (jk:List (TE×TE)):TE:=λσ H Q=>∀ p,H p=none->vg jk σ (upd H p (.dK [])) λps H2=>H2 p=some (.dK [])/\∃ kvs:bh,ps=kvs.map (λkv=>(kV kv.1,kv.2))/\kvs.length<=15/\Q (.ref p) (upd H2 p (.dK (hV [] kvs)))
theorem Bu {X:Cx}{pos:Pos}{keys:List (Option Expr)}{values:List Expr}{jk:List (TE×TE)}(h:qO X pos keys values jk)(vm:keys.all (·.isSome)=true)(hl:keys.length=values.length)(h0:keys≠[])
  (LX:keys.length<=15):PE X (.Dict keys values pos) (LW jk):=by
 intro pins s σ H Q I q;have hn:=I.aA.fresh (ar s.heap.objs.size);have I1:=I.laid (a:=s.heap.objs.size) (o:=.dK []) (h':=s.heap.push { cls:=.type "dict",data:=.dict #[] }) (t':=s.toks) (λ_ _ q=>a8 _ q) (ar _) (Bp s.heap I.big);refine wpAny_Dict_walk (knd:=bM X.prog X.w) vm hl h0 LX (aD (h pins _ σ _ _ I1 (q _ hn)) λws s2 ⟨ps,H2,I2,rel,e,kvs,ep,lk,q2⟩=>?_);subst ep;obtain⟨rs,c,rk⟩:=Br (P:=X.prog) (w:=X.w) rel;obtain⟨z,hd,Zk,r0,dd⟩:=qI I2.aA e;cases r0;refine⟨rs,c,dd,λh' gy hs=>⟨.ref s.heap.objs.size,_,?_,rfl,q2⟩⟩
 have hz:(hV [] kvs).length<=sizeLine:=by
  have h1:=vh kvs [];rw[length_nil] at h1;rw[sizeLine_eq];omega
 have he:∃ q,h'.get? s.heap.objs.size=some q:=let ⟨q,_,_,hq,_⟩:=gy;⟨q,hq⟩
 exact qM I2 (by rw[e];exact True.intro) hs he (oB hz hd (rk.merge .nil) gy)
structure M1 (X:Cx)(o:Expr)(m:Str)(apos:Pos)(e:Expr)(bg:Pos):Prop where
 base:attributeBase o m X.env (eval o X.env)=eval o X.env
 aF:((backTo bg (starEach [e] X.env)).all (λx=>!x.1)&&(backToKw bg (keywordEach [] X.env)).all (λx=>x.1.isSome)
  && decide (([e]:List Expr).length+([]:List Keyword).length+(if ([]:List Keyword).isEmpty then 0 else 1)<30))=true
 line:(apos.endLine==bg.line)=true
 trees:backTo bg (starEach [e] X.env)=[(false,eval e X.env)]
structure M2 (X:Cx)(o:Expr)(m:Str)(apos:Pos)(e f:Expr)(bg:Pos):Prop where
 base:attributeBase o m X.env (eval o X.env)=eval o X.env
 aF:((backTo bg (starEach [e,f] X.env)).all (λx=>!x.1)&&(backToKw bg (keywordEach [] X.env)).all (λx=>x.1.isSome)
  && decide (([e,f]:List Expr).length+([]:List Keyword).length+(if ([]:List Keyword).isEmpty then 0 else 1)<30))=true
 line:(apos.endLine==bg.line)=true
 trees:backTo bg (starEach [e,f] X.env)=[(false,eval e X.env),(false,eval f X.env)]
section
variable {X:Cx}{pins:aP}{σ:St}{H:Hp}{s:Shared}{a:Addr}{y d:V}{u r:Value}{o:Option V}{A:Around}{E:aG}
end
section
variable {X:Cx}{o e f:Expr}{apos bg:Pos}{td ty tx:TE}
end
section
variable {X:Cx}{pins:aP}{σ:St}{H:Hp}{s:Shared}{a:Addr}{kvs:bh}{A:Around}{E:aG}
theorem LY {Q:aG}(I:Inv X pins σ H s)(e:Rd H a (.dK kvs))(h:∀ p s',H p=none->Inv X pins σ (upd H p (.dK kvs)) s'->Q (.ref p) s'):wpAny (model X.prog X.w) A (call (.type "dict") [.ref a]) Q E s:=by
 obtain⟨z,hd,vs,rel,dd⟩:=mx I.aA e;refine kt_call_dict hd dd (by rw[<- rel.length];exact z) λh' gy hs=>?_;refine h _ _ (I.aA.fresh (ar _)) (I.laid (a:=s.heap.objs.size) (o:=.dK kvs) (t':=s.toks) (λb q hq=>?_) (ar _) (oB z (beq_eq_false_iff_ne.mpr (Ne.symm (bI I.big))) rel gy));exact(hs.2 b (bI (a0 hq))).trans (a8 _ hq)
end
section
variable {X:Cx}{pins:aP}{σ:St}{H:Hp}{s:Shared}{a:Addr}{y:V}{u:Value}{A:Around}{E:aG}
end
end L2
namespace HT
open PySem PyProof.Rows
section
open PySem.SeqAt
open PySem.AutoSeq1 (wpAny_loadPart')
open PySem.MeetsSeq PySem.MeetsSeq2 PySem.MeetsSeq3
end
section
variable {prog:Program}{w:World}{A:Around}{E:aG}{s:Shared}
theorem LZ {t b:Addr}{vs ws:aC}{Q:aG}(ht:IsTup s.heap t vs.toArray)(hb:IsTup s.heap b ws.toArray)(hv:vs≠[])
  (h1:ws=[]->Q (.ref t) s)(h2:ws≠[]->Q (.ref s.heap.objs.size) { s with heap:=s.heap.push { cls:=.type "tuple",data:=.seq (vs++ws).toArray } })
  (hsz:vs.length+ws.length<=sizeLine):wpAny (model prog w) A (binaryOp .Add (.ref t) (.ref b)) Q E s:=by
 obtain⟨⟨cls,dd,data,sl⟩,ho,hc,n,hd⟩:=id ht;obtain⟨⟨L0,mz,data2,k5⟩,k7,jY,n2,hd2⟩:=id hb;simp only at hc hd jY hd2;subst hc hd jY hd2;have e:vs.toArray++ws.toArray=(vs++ws).toArray:=by simp
 by_cases hw:ws=[]
 ·exact concat_meets ⟨_,ho,rfl⟩ ⟨_,k7,rfl⟩ noFill_tuple_add seq_tuple_add PySem.F.slot_tuple_add PySem.F.entry_tuple_add (PySem.F.args_tuple_add_2 _ _)
   (tuple_addW1 t b vs.toArray ws.toArray n n2 dd mz sl k5 (by simpa using hv) (by simp [hw])) ⟨ho,k7,h1 hw⟩
 ·refine concat_meets ⟨_,ho,rfl⟩ ⟨_,k7,rfl⟩ noFill_tuple_add seq_tuple_add PySem.F.slot_tuple_add PySem.F.entry_tuple_add (PySem.F.args_tuple_add_2 _ _)
   (tuple_addW2 t b vs.toArray ws.toArray n n2 dd mz sl k5 (by simpa using hv) (by simpa using hw) (by rw[size_toArray,size_toArray];exact hsz)) ⟨ho,k7,?_⟩
  rw[e];exact h2 hw
def aU (n d:Nat):Option Int->Nat
 |none=>d
 |some v=>if v<0 then (v+(n:Int)).toNat else min v.toNat n
theorem Bv (n d:Nat):aU n d none=d:=rfl
theorem L1 (n d:Nat)(hd:d<=n)(o:Option Int):aU n d o<=n:=by
 cases o with
 |none=>exact hd
 |some v=>
  show(if v<0 then (v+(n:Int)).toNat else min v.toNat n)<=n;by_cases hv:v<0
  ·rw[if_pos hv];omega
  ·rw[if_neg hv];exact Nat.min_le_right _ _
theorem Bw (v:Int)(n d:Nat):(if v<0 then max (v+(n:Int)) 0 else min v (n:Int))=((aU n d (some v):Nat):Int):=by
 show(if v<0 then max (v+(n:Int)) 0 else min v (n:Int))=(((if v<0 then (v+(n:Int)).toNat else min v.toNat n):Nat):Int);by_cases hv:v<0
 ·simp only[if_pos hv];omega
 ·simp only[if_neg hv];omega
theorem L3 (lo hi:Option Int)(n:Nat):Builtin.Slice.sliceAdjust lo hi 1 (n:Int)=(((aU n 0 lo:Nat):Int),((aU n n hi:Nat):Int)):=by
 have h1:¬ ((1:Int)<0):=by omega
 unfold Builtin.Slice.sliceAdjust;simp only[h1,if_false];refine Prod.ext ?_ ?_
 ·cases lo with
  |none=>rfl
  |some v=>exact Bw v n 0
 ·cases hi with
  |none=>rfl
  |some v=>exact Bw v n n
theorem L4 (i j:Nat):Builtin.Slice.slicePlaces (i:Int) (j:Int) 1=j-i:=by
 unfold Builtin.Slice.slicePlaces;have h1:(1:Int) > 0:=by omega
 simp only[h1,if_true,Int.ediv_one]
 split<;>omega
theorem Bx {v:Value}{o:Option Int}{Q:Option Int->Shared->Prop}(p:IsPart v o)(h:Q o s):wpAny (model prog w) A (Builtin.Slice.slicePartIndex v) Q E s:=by
 cases p with
 |none=>exact slicePart_none h
 |int i t=>exact slicePart_int h
theorem By {sl:Addr}{vl vu:Value}{lo hi:Option Int}{n:Nat}{Q:Int×Int×Nat->Shared->Prop}(hs:s.heap.IsSliceOf sl vl vu .none)(pl:IsPart vl lo)(pu:IsPart vu hi)
  (h:Q (((aU n 0 lo:Nat):Int),1,aU n n hi-aU n 0 lo) s):wpAny (model prog w) A (Builtin.Slice.sliceApplied (.ref sl) (pure (n:Int))) Q E s:=by
 obtain⟨os,k8,f9,oC⟩:=id hs;unfold Builtin.Slice.sliceApplied Builtin.Slice.sliceFields;refine af (af (wpAny_field k8 oC (x:=vl) rfl (af (wpAny_field k8 oC (x:=vu) rfl (af (wpAny_field k8 oC (x:=.none) rfl (ao ?_)))))));refine af (slicePart_none ?_);show wpAny _ _ (if ((1:Int)==0)=true then _ else _) _ _ s;rw[if_neg (by decide)];refine af (Bx pl (af (Bx pu (af (ao ?_)))));show wpAny _ _ (match Builtin.Slice.sliceAdjust lo hi 1 (n:Int) with|(lo,hi)=>pure (lo,(1:Int),Builtin.Slice.slicePlaces lo hi 1)) _ _ s;rw[L3 lo hi n];show wpAny _ _ (pure (((aU n 0 lo:Nat):Int),(1:Int),Builtin.Slice.slicePlaces ((aU n 0 lo:Nat):Int) ((aU n n hi:Nat):Int) 1)) _ _ s;rw[L4];exact ao h
theorem L5 (xs:Array Value)(i k:Nat):((range k).filterMap fun(m:Nat)=>xs[((i:Int)+(m:Int)*1).toNat]?).toArray=((xs.toList.drop i).take k).toArray:=by
 have e:(fun(m:Nat)=>xs[((i:Int)+(m:Int)*1).toNat]?)=λm=>xs[i+m]?:=by
  funext m
  have:((i:Int)+(m:Int)*1).toNat=i+m:=by omega
  rw[this]
 rw[e];have:=pick_run xs i k;rw[filterMap_map] at this;have e2:((λx=>xs[x]?)∘λx=>i+x)=λm=>xs[i+m]?:=rfl;rw[e2] at this;rw[this]
theorem L6 {t sl:Addr}{items:Array Value}{vl vu:Value}{lo hi:Option Int}{Q:aG}(ht:IsTup s.heap t items)(hs:s.heap.IsSliceOf sl vl vu .none)(pl:IsPart vl lo)(pu:IsPart vu hi)
  (hw:¬ (aU items.size 0 lo=0/\aU items.size items.size hi=items.size))
  (h:Q (.ref s.heap.objs.size) { s with heap:=s.heap.push { cls:=.type "tuple",data:=.seq ((items.toList.drop (aU items.size 0 lo)).take (aU items.size items.size hi-aU items.size 0 lo)).toArray } })
  (hsz:items.size<=sizeLine):wpAny (model prog w) A (getItem (.ref t) (.ref sl)) Q E s:=by
 have qQ:sizeOk (.seq ((items.toList.drop (aU items.size 0 lo)).take (aU items.size items.size hi-aU items.size 0 lo)).toArray):=by
  show((items.toList.drop (aU items.size 0 lo)).take (aU items.size items.size hi-aU items.size 0 lo)).toArray.size<=sizeLine;rw[size_toArray,length_take,length_drop,Array.length_toList];omega
 have hj:aU items.size items.size hi<=items.size:=L1 _ _ (ar _) hi;obtain⟨os,k8,f9,oC⟩:=id hs;have vo:s.TypeIs (.ref sl) "slice":=⟨os,k8,f9⟩;unfold getItem
 try with_reducible refine wpAny_holding ?_
 first|refine af (ao ?_)|skip
 refine af (wpAny_sequenceKey ht.typeIs (by decide) ?_)
 refine af (wpAny_callSpecial?_slot (name:=Str.ofString "__getitem__") ht.typeIs PyProof.Rows.slot_tuple_getitem
  (wpAny_call_entry PyProof.Rows.slot_tuple_getitem ht.typeIs entry_tuple_getitem ?_ (args_tuple_getitem _ _)))
 show wpAny _ _ (Builtin.Tuple.tupleItemsOf (.ref t) >>= _) _ _ s;refine af (tupleItemsOf_ ht ?_);refine af (wpAny_typeOf vo ?_);rw[if_pos (by decide)];refine af (By hs pl pu ?_)
 have qR:¬ ((((aU items.size 0 lo:Nat):Int)==0&&(1:Int)==1&&(aU items.size items.size hi-aU items.size 0 lo)==items.size)=true):=by
  intro q;rw[Bool.and_eq_true,Bool.and_eq_true] at q;have q1:((aU items.size 0 lo:Nat):Int)=0:=eq_of_beq q.1.1;have q2:aU items.size items.size hi-aU items.size 0 lo=items.size:=eq_of_beq q.2;exact hw ⟨by omega,by omega⟩
 show wpAny _ _ (if (((aU items.size 0 lo:Nat):Int)==0&&(1:Int)==1&&(aU items.size items.size hi-aU items.size 0 lo)==items.size)=true then _ else _) _ _ s;rw[if_neg qR,L5]
 first
  |exact af (m:=Builtin.Tuple.tupleExact _) (wpAny_newObj_type (ao ⟨_,rfl,ao h⟩) qQ)
  |exact af (m:=Builtin.Tuple.tupleExact _) (wpAny_newObj_type (af (ao (ao ⟨_,rfl,ao h⟩))) qQ)
  |exact af (af (m:=Builtin.Tuple.tupleExact _) (wpAny_newObj_type (ao (ao ⟨_,rfl,ao h⟩)) qQ))
  |exact af (af (m:=Builtin.Tuple.tupleExact _) (wpAny_newObj_type (ao ⟨_,rfl,ao h⟩) qQ))
end
end HT
namespace L2
open PySem PySem.Spec PyProof.Rows
abbrev TO:=St->Hp->(Option Int->Hp->Prop)->Prop
def PO (X:Cx)(e:Option Expr)(t:TO):Prop:=
 ∀(pins:aP)(s:Shared)(σ:St)(H:Hp)(Q:Option Int->Hp->Prop),Inv X pins σ H s->t σ H Q ->
  wpAny (model X.prog X.w) X.A (evalPart e X.env) (λu s'=>∃ o H',Inv X pins σ H' s'/\IsPart u o/\Q o H') X.xe s
def L7:TO:=λ_ H Q=>Q none H
def oD (t:TE):TO:=λσ H Q=>t σ H λx H1=>∃ i,x=.int i/\Q (some i) H1
section
variable {X:Cx}{e:Expr}{te:TE}{lo hi:Option Expr}{tl th:TO}{pos p2:Pos}
theorem L8:PO X none L7:=by
 intro pins s σ H Q I h;rw[evalPart_none];exact ao ⟨none,H,I,.none,h⟩
theorem L9 (h:PE X e te):PO X (some e) (oD te):=by
 intro pins s σ H Q I hw;rw[evalPart_some];refine aD (h pins s σ H _ I hw) λu s1 ⟨x,H1,I1,r1,q1⟩=>?_;obtain⟨i,rfl,q⟩:=q1;obtain⟨t,rfl⟩:=r1;exact⟨some i,H1,I1,.int i t,q⟩
def jl (X:Cx)(r:V->Option Int->Option Int->Hp->VK->Prop):Prop:=
 ∀(pins:aP)(s:Shared)(σ:St)(H:Hp)(x:V)(v vl vu:Value)(lo hi:Option Int)(sl:Addr)(Q:VK),Inv X pins σ H s->RelV x v->s.heap.IsSliceOf sl vl vu .none->IsPart vl lo->IsPart vu hi->r x lo hi H Q ->
  ∃ T id,typeLookup (.type T) "__getitem__"=pure (some (.builtin id))/\s.TypeIs v T/\wpAny (model X.prog X.w) X.A (getItem v (.ref sl)) (EP X pins σ Q) X.xe s
theorem jl.or {r r':V->Option Int->Option Int->Hp->VK->Prop}(h:jl X r)(h':jl X r'):jl X (λx lo hi H Q=>r x lo hi H Q\/r' x lo hi H Q):=by
 intro pins s σ H x v vl vu lo hi sl Q I rx hs pl pu q;rcases q with q|q
 ·exact h pins s σ H x v vl vu lo hi sl Q I rx hs pl pu q
 ·exact h' pins s σ H x v vl vu lo hi sl Q I rx hs pl pu q
def L_ (r:V->Option Int->Option Int->Hp->VK->Prop)(te:TE)(tl th:TO):TE:=λσ H Q=>te σ H λx H1=>tl σ H1 λl H2=>th σ H2 λu H3=>r x l u H3 Q
theorem Bz {r:V->Option Int->Option Int->Hp->VK->Prop}(hr:jl X r)(he:PE X e te)(hl:PO X lo tl)(hu:PO X hi th):PE X (.Subscript e (.Slice lo hi none p2) pos) (L_ r te tl th):=by
 intro pins s σ H Q I h;refine Subscript_ (aD (he pins s σ H _ I h) λv s1 ⟨x,H1,I1,r1,q1⟩=>?_);refine wpAny_Slice (aD (hl pins s1 σ H1 _ I1 q1) λvl s2 ⟨l,H2,I2,pl,q2⟩=>aD (hu pins s2 σ H2 _ I2 q2) λvu s3 ⟨u,H3,I3,pu,q3⟩=>?_);rw[evalPart_none];refine ao ?_;have I4:Inv X pins σ H3 { s3 with heap:=s3.heap.push { cls:=.type "slice",data:=.fields #[vl,vu,.none] } }:=I3.kept (t':=s3.toks) λb ob q=>a8 _ q;obtain⟨T,id,hT,ht,hg⟩:=hr pins { s3 with heap:=s3.heap.push { cls:=.type "slice",data:=.fields #[vl,vu,.none] } } σ H3 x v vl vu l u s3.heap.objs.size Q I4 r1 (Heap.IsSliceOf.new ..) pl pu q3;show wpAny (model X.prog X.w) X.A (subscriptTail e (.Slice lo hi none p2) v (.ref s3.heap.objs.size)) (EP X pins σ Q) X.xe { s3 with heap:=s3.heap.push { cls:=.type "slice",data:=.fields #[vl,vu,.none] } };exact tail_any (ops:=[.ref s3.heap.objs.size,v]) ht hT hg (by with_unfolding_all rfl)
def hW (xs:Zv)(lo hi:Option Int):Zv:=(xs.drop (HT.aU xs.length 0 lo)).take (HT.aU xs.length xs.length hi-HT.aU xs.length 0 lo)
theorem BA (xs:Zv)(lo hi:Option Int):(hW xs lo hi).length<=xs.length:=by
 unfold hW;rw[length_take,length_drop];omega
def Ma (K:Frag):V->Option Int->Option Int->Hp->VK->Prop:=λx lo hi H Q=>∃ a xs,x=.ref a/\bq K H a xs /\
 ¬ (HT.aU xs.length 0 lo=0/\HT.aU xs.length xs.length hi=xs.length)/\∀ p,H p=none->Q (.ref p) (upd H p (.tup (hW xs lo hi)))
theorem Mb:jl X (Ma X.K):=by
 intro pins s σ H x v vl vu lo hi sl Q I rx hs pl pu h;obtain⟨a,xs,rfl,hx,hw,q⟩:=h;cases rx;obtain⟨its,r,ht,hz⟩:=I.tuple hx;have hlen:its.toArray.size=xs.length:=by rw[size_toArray];exact r.length.symm
 refine⟨"tuple",_,PyProof.Rows.slot_tuple_getitem.lookup,ht.typeIs,?_⟩;refine HT.L6 ht hs pl pu (by rw[hlen];exact hw) ?_ (by rw[hlen];exact hz);rw[hlen];refine⟨.ref s.heap.objs.size,_,I.laid (t':=s.toks) (o:=.tup (hW xs lo hi)) (λb ob q=>a8 _ q) (ar _) ?_,rfl,q _ (I.aA.fresh (ar _))⟩;exact⟨bU (BA xs lo hi) hz,_,(r.drop (HT.aU xs.length 0 lo)).take (HT.aU xs.length xs.length hi-HT.aU xs.length 0 lo),IsTup.new _ _⟩
def Mc (K:Frag):R2:=λx y H Q=>∃ a b xs ys,x=.ref a/\y=.ref b/\bq K H a xs/\bq K H b ys/\xs≠[]/\xs.length+ys.length<=sizeLine /\
 (ys=[]->Q (.ref a) H)/\(ys≠[]->∀ p,H p=none->Q (.ref p) (upd H p (.tup (xs++ys))))
theorem Vals.qS {xs:Zv}{us:aC}(r:Vals xs us):us=[]↔xs=[]:=by
 cases r with
 |nil=>simp
 |cons _ _=>simp
theorem Md:bx X (binaryOp .Add) (Mc X.K):=by
 intro pins s σ H x y v u Q I rx ry h;obtain⟨a,b,xs,ys,rfl,rfl,ha,hb,hx,hz,q1,q2⟩:=h;cases rx;cases ry;obtain⟨its,r1,p1,_⟩:=I.tuple ha;obtain⟨fz,r2,p2,_⟩:=I.tuple hb;refine HT.LZ p1 p2 (λz=>hx (r1.qS.mp z)) (λz=>⟨.ref a,H,I,rfl,q1 (r2.qS.mp z)⟩) (λz=>?_) (by rw[<- r1.length,<- r2.length];exact hz);refine⟨.ref s.heap.objs.size,_,I.laid (t':=s.toks) (o:=.tup (xs++ys)) (λb ob q=>a8 _ q) (ar _) ?_,rfl,q2 (λw=>z (r2.qS.mpr w)) _ (I.aA.fresh (ar _))⟩;exact⟨by rw[length_append];exact hz,_,r1.append r2,IsTup.new _ _⟩
end
def iN (n:Nat)(i:Int):Option Nat:=if 0<=i then (if i<n then some i.toNat else none) else if -(n:Int)<=i then some (i+n).toNat else none
def cy {α:Type}(xs:List α)(i:Int):Option α:=(iN xs.length i).bind λj=>xs[j]?
theorem BB {n:Nat}{i:Int}{j:Nat}(h:iN n i=some j):seqIndex? i n=some j/\j<n /\ -(n:Int)<=i/\i<n:=by
 unfold iN at h;by_cases h0:0<=i
 ·rw[if_pos h0] at h;by_cases h1:i<n
  ·rw[if_pos h1] at h;have e:i.toNat=j:=Option.some.inj h;exact⟨by rw[seqIndex_of h0 h1,e],by omega,by omega,h1⟩
  ·rw[if_neg h1] at h;cases h
 ·rw[if_neg h0] at h;by_cases h1:-(n:Int)<=i
  ·rw[if_pos h1] at h;have e:(i+n).toNat=j:=Option.some.inj h;exact⟨by rw[seqIndex_neg (by omega) h1,e],by omega,h1,by omega⟩
  ·rw[if_neg h1] at h;cases h
theorem vp {α:Type}{xs:List α}{i:Int}{v:α}(h:cy xs i=some v):∃ j,seqIndex? i xs.length=some j/\xs[j]?=some v/\j<xs.length /\ -(xs.length:Int)<=i/\i<xs.length:=by
 unfold cy at h
 cases e:iN xs.length i with
 |none=>rw[e] at h;cases h
 |some j=>
  rw[e] at h;obtain⟨h1,h2,h3,h4⟩:=BB e;exact⟨j,h1,h,h2,h3,h4⟩
theorem Me {α:Type}{xs:List α}{j:Nat}{v:α}(h:xs[j]?=some v):cy xs (j:Int)=some v:=by
 have hj:j<xs.length:=(c6 h).1
 have e:iN xs.length (j:Int)=some j:=by
  unfold iN;rw[if_pos (by omega),if_pos (by omega)];simp
 unfold cy;rw[e];exact h
def vq (b:Expr):Prop:=∀ o i,subscripted b false o i=operate [o,i] (getItem o i)
def hZ (X:Cx)(r:R2):Prop:=
 ∀(value slice:Expr)(pins:aP)(s:Shared)(σ:St)(H:Hp)(x y:V)(v u:Value)(Q:VK),Inv X pins σ H s->RelV x v->RelV y u->r x y H Q ->
  subscripted slice false v u=operate [v,u] (getItem v u)->wpAny (model X.prog X.w) X.A (subscriptTail value slice v u) (EP X pins σ Q) X.xe s
def vt (X:Cx)(id:String)(r:V->Zv->Hp->VK->Prop):Prop:=
 ∀(pins:aP)(s:Shared)(σ:St)(H:Hp)(x:V)(xs:Zv)(v:Value)(us:aC)(Q:VK),Inv X pins σ H s->RelV x v->Vals xs us->r x xs H Q ->
  wpAny (model X.prog X.w) X.A (call (.builtin id) (v::us)) (EP X pins σ Q) X.xe s
section
variable {X:Cx}{a b:Expr}{ta tb:TE}{pos:Pos}
theorem hZ.or {r r':R2}(h:hZ X r)(h':hZ X r'):hZ X (λx y H Q=>r x y H Q\/r' x y H Q):=by
 intro value slice pins s σ H x y v u Q I rx ry q hs;rcases q with q|q
 ·exact h value slice pins s σ H x y v u Q I rx ry q hs
 ·exact h' value slice pins s σ H x y v u Q I rx ry q hs
theorem qT {r:R2}(hr:hZ X r)(ha:PE X a ta)(hb:PE X b tb)(hs:vq b):PE X (.Subscript a b pos) (jQ r ta tb):=by
 intro pins s σ H Q I h;exact Subscript_ (uZ ha hb I h λv u s2 x y H2 I2 rx ry q=>hr a b pins s2 σ H2 x y v u Q I2 rx ry q (hs _ _))
def BC (K:Frag):R2:=λx y H Q=>∃ p xs i v,x=.ref p/\y=.int i/\aO K H p xs/\cy xs i=some v/\Q v H
def BD (K:Frag):R2:=λx y H Q=>∃ p xs i v,x=.ref p/\y=.int i/\bq K H p xs/\cy xs i=some v/\Q v H
def BE:R2:=λx y H Q=>∃ z i c,x=.str z/\y=.int i/\z.length<=sizeLine/\cy z.cps.toList i=some c/\Q (.str ⟨#[c]⟩) H
theorem qU:hZ X (BC X.K):=by
 intro value slice pins s σ H x y v u Q I rx ry h hs;obtain⟨p,xs,i,z,rfl,rfl,hq,he,q⟩:=h;cases rx;obtain⟨t,rfl⟩:=ry;obtain⟨its,r,pl,hz⟩:=I.list hq;obtain⟨j,h1,h2,h3,h4,h5⟩:=vp he;obtain⟨w,ew,dI⟩:=r.get h2;have hl:=r.length;have hn:=kY;have fin:EP X pins σ Q w s:=⟨z,H,I,dI,q⟩;by_cases h0:0<=i
 ·have hj:i.toNat=j:=by
   rw[seqIndex_of h0 h5] at h1;exact Option.some.inj h1
  exact item_listR pl.isList h0 (by omega) (by rw[hj];simpa using ew) fin hs
 ·have hj:(i+(its.toArray.size:Int)).toNat=j:=by
   rw[seqIndex_neg (by omega) h4] at h1;rw[size_toArray,<- hl];exact Option.some.inj h1
  exact subscriptTail_builtinR (x:=w) pl.isList.typeIs slot_list_getitem.lookup
   (wpAny_getItem_list_neg (Q:=λr s'=>r=w/\EP X pins σ Q r s') pl.isList (by omega) (by rw[size_toArray]<;>omega) (by omega) (by rw[hj];simpa using ew) ⟨rfl,fin⟩) hs
theorem Mf:hZ X (BD X.K):=by
 intro value slice pins s σ H x y v u Q I rx ry h hs;obtain⟨p,xs,i,z,rfl,rfl,hq,he,q⟩:=h;cases rx;obtain⟨t,rfl⟩:=ry;obtain⟨its,r,pl,hz⟩:=I.tuple hq;obtain⟨j,h1,h2,h3,h4,h5⟩:=vp he;obtain⟨w,ew,dI⟩:=r.get h2;have hl:=r.length;have hn:=kY;have fin:EP X pins σ Q w s:=⟨z,H,I,dI,q⟩
 exact subscriptTail_builtinR (x:=w) pl.typeIs slot_tuple_getitem.lookup
  (getItem_tuple (j:=j) (Q:=λr s'=>r=w/\EP X pins σ Q r s') pl (by omega) (by omega) (by rw[size_toArray,<- hl];exact h1) (by simpa using ew) ⟨rfl,fin⟩) hs
theorem Mg:hZ X BE:=by
 intro value slice pins s σ H x y v u Q I rx ry h hs;obtain⟨z,i,c,rfl,rfl,hz,he,q⟩:=h;obtain⟨t,rfl⟩:=rx;obtain⟨t',rfl⟩:=ry;obtain⟨j,h1,h2,h3,h4,h5⟩:=vp he;have hl:z.cps.toList.length=z.length:=by simp [Str.length]
 rw[hl] at h1 h4 h5;have hn:=kY
 exact tail_any (typeIs_str s z t) slot_str_getitem.lookup (getItem_str (c:=c) (by
  have e1:decide (i < -(2 ^ 63:Int))=false:=decide_eq_false (by omega);have e2:decide (i≥2 ^ 63)=false:=decide_eq_false (by omega)
  rw[e1,e2,Bool.or_false]) (by rw[h1];simpa using h2) ⟨.str ⟨#[c]⟩,H,I.tok _,⟨_,rfl⟩,q⟩) hs
def vv (K:Frag):R2:=λx y H Q=>BC K x y H Q\/BD K x y H Q\/BE x y H Q
theorem Mh:hZ X (vv X.K):=qU.or (Mf.or Mg)
theorem Mi (its:aC)(n j:Nat)(u:Value):Obj.mapSeq (·.setIfInBounds j u) { cls:=.type "list",data:=.seq its.toArray n }={ cls:=.type "list",data:=.seq (its.set j u).toArray n }:=by
 simp [Obj.mapSeq]
theorem Inv.lst {pins:aP}{σ:St}{H:Hp}{s:Shared}{p:Addr}{xs:Zv}(I:Inv X pins σ H s)(h:H p=some (.lst xs)) :
  ∃(its:aC)(n:Nat),Vals xs its/\s.heap.get? p=some { cls:=.type "list",data:=.seq its.toArray n }/\xs.length<=sizeLine:=by
 obtain⟨z,its,n,r,e⟩:=I.aA p _ h;exact⟨its,n,r,e,z⟩
theorem Inv.Mj {pins:aP}{σ:St}{H:Hp}{s:Shared}{p:Addr}{xs ys:Zv}{its its':aC}{n n':Nat}{f:Obj->Obj}(I:Inv X pins σ H s)(h:H p=some (.lst xs))
  (ho:s.heap.get? p=some { cls:=.type "list",data:=.seq its.toArray n })(hf:f { cls:=.type "list",data:=.seq its.toArray n }={ cls:=.type "list",data:=.seq its'.toArray n' })(r:Vals ys its')(hz:ys.length<=sizeLine)(t:Nat) :
  Inv X pins σ (upd H p (.lst ys)) { s with heap:=s.heap.update p f,toks:=t }:=by
 have e:(s.heap.update p f).get? p=some { cls:=.type "list",data:=.seq its'.toArray n' }:=by
  rw[Heap.get?_update_self f ho (by rw[hf]<;>rfl),hf]
 refine I.write (x:=p) (e:=p) (by rw[h];trivial) (.inl rfl) (λb u hb q=>(Heap.get?_update_other _ _ (Ne.symm hb)).trans q) ⟨_,e⟩ ?_;exact⟨hz,its',n',r,e⟩
def Mk:V->V->V->Hp->(Hp->Prop)->Prop:=λo i v H Q=>∃ p xs k j,o=.ref p/\i=.int k/\H p=some (.lst xs)/\iN xs.length k=some j/\Q (upd H p (.lst (xs.set j v)))
theorem set_list:AW X Mk:=by
 intro pins s σ H o i v ov iv u Q I ro ri rv h;obtain⟨p,xs,k,j,rfl,rfl,hp,hj,q⟩:=h;cases ro;obtain⟨t,rfl⟩:=ri;obtain⟨its,n,r,ho,hz⟩:=I.lst hp;obtain⟨h1,h2,h3,h4⟩:=BB hj;have hl:=r.length;have hn:=kY
 have I':Inv X pins σ (upd H p (.lst (xs.set j v))) { s with heap:=s.heap.update p (Obj.mapSeq (·.setIfInBounds j u)) }:=
  I.Mj hp ho (Mi its n j u) (r.set rv j) (by rw[length_set];exact hz) s.toks
 by_cases h0:0<=k
 ·have hk:k.toNat=j:=by
   rw[seqIndex_of h0 h4] at h1;exact Option.some.inj h1
  exact PySem.W.ki_setAt ho h0 (by omega) (by rw[size_toArray,<- hl];exact h4) (by rw[hk];exact⟨_,I',q⟩)
 ·have hk:(k+(its.toArray.size:Int)).toNat=j:=by
   rw[seqIndex_neg (by omega) h3] at h1;rw[size_toArray,<- hl];exact Option.some.inj h1
  exact PySem.W.ki_setBack ho (by omega) (by rw[size_toArray,<- hl];exact h3) (by omega) (by rw[hk];exact⟨_,I',q⟩)
theorem Mm (lo hi:Option Int)(n:Nat):(sliceBounds lo hi none n).1=((HT.aU n 0 lo:Nat):Int)/\(sliceBounds lo hi none n).2.1=((HT.aU n n hi:Nat):Int)/\(sliceBounds lo hi none n).2.2=1:=by
 refine⟨?_,?_,rfl⟩
 ·cases lo with
  |none=>simp [sliceBounds,HT.aU]
  |some i=>
   simp only[sliceBounds,HT.aU,Option.getD_none,show(1:Int) > 0 by decide,if_true];by_cases h:i<0
   ·simp only[h,if_true]<;>omega
   ·simp only[h,if_false]<;>omega
 ·cases hi with
  |none=>simp [sliceBounds,HT.aU]
  |some i=>
   simp only[sliceBounds,HT.aU,Option.getD_none,show(1:Int) > 0 by decide,if_true];by_cases h:i<0
   ·simp only[h,if_true]<;>omega
   ·simp only[h,if_false]<;>omega
theorem Mn (its:aC)(lo hi:Option Int):slicePick its.toArray lo hi none=((its.drop (HT.aU its.length 0 lo)).take (HT.aU its.length its.length hi-HT.aU its.length 0 lo)).toArray:=by
 obtain⟨h1,h2,h3⟩:=Mm lo hi its.toArray.size;unfold slicePick;rw[h1,h2,h3];simp only[sliceRange_one,pick_run,size_toArray]<;>rfl
def Mo (K:Frag):V->Option Int->Option Int->Hp->VK->Prop:=λx lo hi H Q=>∃ a xs,x=.ref a/\aO K H a xs/\∀ p,H p=none->Q (.ref p) (upd H p (.lst (hW xs lo hi)))
theorem BF:jl X (Mo X.K):=by
 intro pins s σ H x v vl vu lo hi sl Q I rx hs pl pu h;obtain⟨a,xs,rfl,hx,q⟩:=h;cases rx;obtain⟨its,r,ht,hz⟩:=I.list hx;have hlen:=r.length;refine⟨"list",_,slot_list_getitem.lookup,ht.isList.typeIs,?_⟩;refine wpAny_getItem_list_slice ht.isList hs pl pu .none (by simp) ?_ (by rw[size_toArray]<;>omega);rw[Mn,<- hlen];refine⟨.ref s.heap.objs.size,_,I.laid (t':=s.toks) (o:=.lst (hW xs lo hi)) (λb ob q=>a8 _ q) (ar _) ?_,rfl,q _ (I.aA.fresh (ar _))⟩;exact⟨bU (BA xs lo hi) hz,_,0,(r.drop (HT.aU xs.length 0 lo)).take (HT.aU xs.length xs.length hi-HT.aU xs.length 0 lo),b6 _ rfl⟩
def k9:V->Bool
 |.non=>true
 |.bl _=>true
 |.int _=>true
 |.str _=>true
 |_=>false
def oE:V->V->Bool
 |.non,.non=>true
 |.bl a,.bl b=>a==b
 |.bl a,.int b=>(if a then 1 else 0)==b
 |.int a,.bl b=>a==(if b then 1 else 0)
 |.int a,.int b=>a==b
 |.str a,.str b=>a==b
 |_,_=>false
theorem Mp {A:Around}{s:Shared}{y x:V}{u v:Value}(ry:RelV y u)(rx:RelV x v)(fy:k9 y=true)(fx:k9 x=true):SeqAt.EqAt A s u v (oE y x):=by
 cases y with
 |non=>
  cases ry
  cases x with
  |non=>cases rx;exact SeqAt.EqAt.same _
  |bl b=>cases rx;exact SeqAt.EqAt.none_bool b
  |int b=>obtain⟨t,rfl⟩:=rx;exact SeqAt.EqAt.none_int b t
  |str b=>obtain⟨t,rfl⟩:=rx;exact SeqAt.EqAt.none_str b t
  |_=>exact absurd (show false=true from fx) Bool.false_ne_true
 |bl a=>
  cases ry
  cases x with
  |non=>cases rx;exact SeqAt.EqAt.bool_none a
  |bl b=>cases rx;exact SeqAt.EqAt.bool_bool a b
  |int b=>obtain⟨t,rfl⟩:=rx;exact SeqAt.EqAt.bool_int a b t
  |str b=>obtain⟨t,rfl⟩:=rx;exact SeqAt.EqAt.bool_str a b t
  |_=>exact absurd (show false=true from fx) Bool.false_ne_true
 |int a=>
  obtain⟨t',rfl⟩:=ry
  cases x with
  |non=>cases rx;exact SeqAt.EqAt.int_none a t'
  |bl b=>cases rx;exact SeqAt.EqAt.int_bool a t' b
  |int b=>obtain⟨t,rfl⟩:=rx;exact SeqAt.EqAt.int_int a t' b t
  |str b=>obtain⟨t,rfl⟩:=rx;exact SeqAt.EqAt.int_str a t' b t
  |_=>exact absurd (show false=true from fx) Bool.false_ne_true
 |str a=>
  obtain⟨t',rfl⟩:=ry
  cases x with
  |non=>cases rx;exact SeqAt.EqAt.str_none a t'
  |bl b=>cases rx;exact SeqAt.EqAt.str_bool a t' b
  |int b=>obtain⟨t,rfl⟩:=rx;exact SeqAt.EqAt.str_int a t' b t
  |str b=>obtain⟨t,rfl⟩:=rx;exact SeqAt.EqAt.str_str a t' b t
  |_=>exact absurd (show false=true from fx) Bool.false_ne_true
 |_=>exact absurd (show false=true from fy) Bool.false_ne_true
theorem oF:cx X (.builtin "len") (λxs H Q=>∃ p ys,xs=[.ref p]/\(aO X.K H p ys\/bq X.K H p ys)/\Q (.int ys.length) H):=by
 intro pins s σ H xs us Q I r h;obtain⟨p,ys,rfl,hq,q⟩:=h;obtain⟨u,rfl,rx⟩:=vals1 r;cases rx;have hn:=kY;rcases hq with hq|hq
 ·obtain⟨its,r',pl,hz⟩:=I.list hq;have hlen:=r'.length;exact Calls.call_len_list pl.isList (by simp only[size_toArray]<;>omega) ⟨.int ys.length,H,I.tok _,⟨s.toks+1,by rw[size_toArray,hlen]⟩,q⟩
 ·obtain⟨its,r',pl,hz⟩:=I.tuple hq;have hlen:=r'.length;exact len_tuple pl (by simp only[size_toArray]<;>omega) ⟨.int ys.length,H,I.tok _,⟨s.toks+1,by rw[size_toArray,hlen]⟩,q⟩
theorem cx.or {f:Value}{r r':Zv->Hp->VK->Prop}(h:cx X f r)(h':cx X f r'):cx X f (λxs H Q=>r xs H Q\/r' xs H Q):=by
 intro pins s σ H xs us Q I rs q;rcases q with q|q
 ·exact h pins s σ H xs us Q I rs q
 ·exact h' pins s σ H xs us Q I rs q
theorem Mq:cx X (.type "tuple") (λxs H Q=>∃ p ys,xs=[.ref p]/\((aO X.K H p ys/\∀ l,H l=none->Q (.ref l) (upd H l (.tup ys)))\/(bq X.K H p ys/\Q (.ref p) H))):=by
 intro pins s σ H xs us Q I r h;obtain⟨p,ys,rfl,h⟩:=h;obtain⟨u,rfl,rx⟩:=vals1 r;cases rx;rcases h with ⟨hq,q⟩|⟨hq,q⟩
 ·obtain⟨its,r',pl,hz⟩:=I.list hq;have hlen:=r'.length;refine call_tuple_list pl.isList (λh' kp=>?_) (by simp only[size_toArray]<;>omega);have I1:Inv X pins σ H { s with heap:=h' }:=I.kept (t':=s.toks) kp
  have I2:Inv X pins σ (upd H h'.objs.size (.tup ys)) { s with heap:=h'.push { cls:=.type "tuple",data:=.seq its.toArray } }:=
   I1.laid (t':=s.toks) (λb o e=>a8 _ e) (ar _) (show cP X.prog X.w _ _ _ (.tup ys) from⟨hz,its,r',IsTup.new _ _⟩)
  exact⟨.ref h'.objs.size,_,I2,rfl,q _ (I1.aA.fresh (ar _))⟩
 ·obtain⟨its,r',pl,hz⟩:=I.tuple hq;exact call_tuple_same pl ⟨.ref p,H,I,rfl,q⟩
def vw (K:Frag)(T:String)(x:V)(H:Hp):Prop:=match x with
 |.str _=>T="str"
 |.int _=>T="int"
 |.ref p=>(T="list"/\∃ xs,aO K H p xs)\/(T="tuple"/\∃ o,K.lookup p=some o/\o.cls=.type "tuple"/\o.dict=none) \/
   (T="dict"/\((∃ kvs,H p=some (.dK kvs))\/∃ kvs,H p=some (.dT kvs)))\/(T="set"/\∃ S n,H p=some (.set S n))
 |_=>False
theorem BG {pins:aP}{σ:St}{H:Hp}{s:Shared}{T:String}{x:V}{v:Value}(I:Inv X pins σ H s)(r:RelV x v)(ty:vw X.K T x H) :
  s.TypeIs v T/\∀ a,v=.ref a->∃ ob,s.heap.get? a=some ob/\ob.dict=none:=by
 cases x with
 |str z=>
  obtain⟨t,rfl⟩:=r;cases (show T="str" from ty);exact⟨typeIs_str s z t,λ_ e=>nomatch e⟩
 |int i=>
  obtain⟨t,rfl⟩:=r;cases (show T="int" from ty);exact⟨typeIs_int s i t,λ_ e=>nomatch e⟩
 |ref p=>
  cases r;rcases ty with ⟨rfl,xs,hq⟩|⟨rfl,o,hk,hc,hd⟩|⟨rfl,hk⟩|⟨rfl,S,n,hk⟩
  ·obtain⟨its,_,pl,_⟩:=I.list hq;refine⟨pl.isList.typeIs,λa e=>?_⟩;cases e;obtain⟨o,n,e,c,hd,_⟩:=pl;exact⟨o,e,hd⟩
  ·refine⟨⟨o,I.dG p o hk,hc⟩,λa e=>?_⟩;cases e;exact⟨o,I.dG _ o hk,hd⟩
  ·have z:∃ o,s.heap.get? p=some o/\o.ExactDict:=by
    rcases hk with ⟨kvs,hk⟩|⟨kvs,hk⟩
    ·obtain⟨_,_,_,_,o,_,_,e,ex,_⟩:=I.aA p _ hk;exact⟨o,e,ex⟩
    ·obtain⟨_,_,_,_,o,_,_,e,ex,_⟩:=I.aA p _ hk;exact⟨o,e,ex⟩
   obtain⟨o,e,ex⟩:=z;refine⟨⟨o,e,ex.1⟩,λa e2=>?_⟩;cases e2;exact⟨o,e,ex.2.1⟩
  ·obtain⟨o,_,_,_,e,ex,_⟩:=I.aA p _ hk;refine⟨⟨o,e,ex.1⟩,λa e2=>?_⟩;cases e2;exact⟨o,e,ex.2.1⟩
 |_=>exact False.elim ty
def Mr (K:Frag)(T:String)(r:V->Zv->Hp->VK->Prop)(to:TE):TE:=λσ H Q=>to σ H λx H1=>vw K T x H1/\r x [] H1 Q
def Ms (K:Frag)(T:String)(r:V->Zv->Hp->VK->Prop)(to:TE)(t:TA):TE:=λσ H Q=>to σ H λx H1=>vw K T x H1/\t σ H1 λxs H2=>r x xs H2 Q
variable {o e:Expr}{es:List Expr}{to:TE}{t:TA}{name:Str}{apos bg:Pos}{T id:String}{r:V->Zv->Hp->VK->Prop}
theorem Mu (pa:PlainAttrs T)(slot:Slot T name id)(vx:typeOf (.builtin id)=pure (.type "method_descriptor"))(hm:vt X id r)(ho:PE X o to)
  (d0:attributeBase o name X.env (eval o X.env)=eval o X.env:=by rfl)(d5:(apos.endLine==bg.line)=true:=by rfl):PE X (.Call (.Attribute o name apos) [] [] bg) (Mr X.K T r to):=by
 intro pins s σ H Q I h;refine wpAny_Call_method0_late d0 d5 (aD (ho pins s σ H _ I h) λv s1 ⟨x,H1,I1,r1,ty,q1⟩=>?_);obtain⟨h1,h2⟩:=BG I1 r1 ty;exact⟨T,id,pa,slot,vx,h1,h2,Calls.callWith_builtin rfl (PySem.evalArgs_none (hm pins s1 σ H1 x [] v [] Q I1 r1 .nil q1))⟩
theorem oG (pa:PlainAttrs T)(slot:Slot T name id)(vx:typeOf (.builtin id)=pure (.type "method_descriptor"))(hm:vt X id r)(ho:PE X o to)(ha:PA X (e::es) t)
  (d0:attributeBase o name X.env (eval o X.env)=eval o X.env:=by rfl)
  (h_:((backTo bg (starEach (e::es) X.env)).all (λx=>!x.1)&&(backToKw bg (keywordEach [] X.env)).all (λx=>x.1.isSome)
   && decide ((e::es).length+([]:List Keyword).length+(if ([]:List Keyword).isEmpty then 0 else 1)<30))=true:=by rfl)
  (d5:(apos.endLine==bg.line)=true:=by rfl)(hs:starEach (e::es) X.env=(false,eval e X.env)::starEach es X.env:=by rfl)(Mv:(backTo bg (starEach es X.env)).any (·.1)=false:=by rfl) :
  PE X (.Call (.Attribute o name apos) (e::es) [] bg) (Ms X.K T r to t):=by
 intro pins s σ H Q I h;refine wpAny_Call_method_late d0 h_ d5 rfl (aD (ho pins s σ H _ I h) λv s1 ⟨x,H1,I1,r1,ty,q1⟩=>?_);obtain⟨h1,h2⟩:=BG I1 r1 ty;refine⟨T,id,pa,slot,vx,h1,h2,?_⟩;have hA:=ha bg pins s1 σ H1 _ I1 q1;rw[hs] at hA ⊢;refine Calls.callWith_builtin (by show(false||(backTo bg (starEach es X.env)).any (·.1))=false;rw[Mv]<;>rfl) (Calls.evalArgs_plain ?_);exact aD hA λus s2 ⟨vs,H2,I2,r2,q2⟩=>hm pins s2 σ H2 x vs v us Q I2 r1 r2 q2
end
def jm (X:Cx)(id:String)(r:V->Zv->Hp->VK->Prop):Prop:=
 ∀(pins:aP)(s:Shared)(σ:St)(H:Hp)(x:V)(xs:Zv)(v:Value)(us:aC)(Q:VK),Inv X pins σ H s->RelV x v->Vals xs us->r x xs H Q ->
  wpAny (model X.prog X.w) X.A (call (.builtin id) (v::us)) (EP X pins σ Q) X.xe s
theorem Vals.one:∀{x:V}{us:aC},Vals [x] us->∃ u,us=[u]/\RelV x u
 |_,_,.cons r .nil=>⟨_,rfl,r⟩
theorem Vals.zero:∀{us:aC},Vals [] us->us=[]
 |_,.nil=>rfl
theorem Vals.dropLast {xs:Zv}{us:aC}(h:Vals xs us):Vals xs.dropLast us.dropLast:=by
 induction h with
 |nil=>exact .nil
 |cons r t ih=>
  cases t with
  |nil=>exact .nil
  |cons q t'=>exact .cons r ih
theorem Vals.eraseIdx:∀{xs:Zv}{us:aC}(i:Nat),Vals xs us->Vals (xs.eraseIdx i) (us.eraseIdx i)
 |_,_,_,.nil=>.nil
 |_,_,0,.cons _ t=>t
 |_,_,i+1,.cons r t=>.cons r (Vals.eraseIdx i t)
theorem Vals.reverse {xs:Zv}{us:aC}(h:Vals xs us):Vals xs.reverse us.reverse:=by
 induction h with
 |nil=>exact .nil
 |cons r t ih=>rw[reverse_cons,reverse_cons];exact Vals.append ih (.cons r .nil)
theorem Vals.rep {xs:Zv}{us:aC}(h:Vals xs us):∀ k:Nat,Vals (replicate k xs).flatten (replicate k us).flatten
 |0=>.nil
 |k+1=>by
  rw[replicate_succ,replicate_succ,flatten_cons,flatten_cons];exact Vals.append h (Vals.rep h k)
theorem Mw {α:Type}(l:List α):l.eraseIdx (l.length-1)=l.dropLast:=by
 induction l with
 |nil=>rfl
 |cons a r ih=>
  cases r with
  |nil=>rfl
  |cons b r=>
   have e:(a::b::r).length-1=((b::r).length-1)+1:=by
    have h1:(a::b::r).length=r.length+2:=rfl;have h2:(b::r).length=r.length+1:=rfl;omega
   rw[e,eraseIdx_cons_succ,ih]
   all_goals rfl
theorem BH {α:Type}:∀(l:List α)(i:Nat),(l.eraseIdx i).length<=l.length
 |[],_=>ar _
 |_::_,0=>Nat.le_succ _
 |_::r,i+1=>Nat.succ_le_succ (BH r i)
theorem foldl_rep (its:aC):∀(k:Nat)(acc:aC),
  foldl (λx1 x2=>x1++x2) acc.toArray (replicate k its.toArray)=(acc++(replicate k its).flatten).toArray
 |0,acc=>by simp
 |k+1,acc=>by
  have e:acc.toArray++its.toArray=(acc++its).toArray:=by simp
  have e2:(acc++its)++(replicate k its).flatten=acc++(replicate (k+1) its).flatten:=by
   rw[replicate_succ,flatten_cons,append_assoc]
  rw[<- e2,<- foldl_rep its k (acc++its),<- e,replicate_succ,foldl_cons]
section
variable {X:Cx}{pins:aP}{σ:St}{H:Hp}{s:Shared}{l b:Addr}{xs ys zs:Zv}
theorem Inv.oH {its its':aC}{n:Nat}{f:Array Value->Array Value}{t':Nat}(I:Inv X pins σ H s)(hH:H l=some (.lst xs))
  (e:s.heap.get? l=some { cls:=.type "list",data:=.seq its.toArray n })(hf:f its.toArray=its'.toArray)(hv:Vals ys its')(hz:ys.length<=sizeLine) :
  Inv X pins σ (upd H l (.lst ys)) { s with heap:=s.heap.update l (Obj.mapSeq f),toks:=t' }:=by
 have q:=PySem.IsL.update e f;rw[hf] at q;refine I.write (x:=l) (e:=l) (by rw[hH];exact trivial) (.inl rfl) (λb' u hb hu=>(Heap.get?_update_other s.heap (Obj.mapSeq f) (Ne.symm hb)).trans hu) ⟨_,q⟩ ?_;exact⟨hz,its',_,hv,q⟩
theorem Inv.vy {its:aC}{t':Nat}(I:Inv X pins σ H s)(hv:Vals ys its)(hz:ys.length<=sizeLine) :
  Inv X pins σ (upd H s.heap.objs.size (.lst ys)) { s with heap:=s.heap.push { cls:=.type "list",data:=.seq its.toArray },toks:=t' }:=
 I.laid (λ_ _ q=>a8 _ q) (ar _) ⟨hz,its,0,hv,b6 _ rfl⟩
theorem Inv.fresh (I:Inv X pins σ H s):H s.heap.objs.size=none:=I.aA.fresh (ar _)
theorem Inv.iO (I:Inv X pins σ H s)(hH:H l=some (.lst xs)):xs.length<=sizeLine/\∃(its:aC)(n:Nat),Vals xs its/\xs.length=its.length/\s.heap.get? l=some { cls:=.type "list",data:=.seq its.toArray n }:=by
 obtain⟨z,its,n,r,e⟩:=I.aA l _ hH;exact⟨z,its,n,r,r.length,e⟩
theorem vz {n:Nat}(h:n<=sizeLine):Builtin.List.listTooLong n=false:=by
 unfold Builtin.List.listTooLong;exact decide_eq_false (by omega)
end
section
variable {X:Cx}
def Mx:V->Zv->Hp->VK->Prop:=λx vs H Q=>∃ l xs y,x=.ref l/\vs=[y]/\H l=some (.lst xs)/\xs.length<sizeLine/\Q .non (upd H l (.lst (xs++[y])))
theorem vA:jm X "list.append" Mx:=by
 intro pins s σ H x vs v us Q I rx rv h;obtain⟨l,xs,y,rfl,rfl,hH,hz,q⟩:=h;cases rx;obtain⟨u,rfl,ru⟩:=rv.one;obtain⟨z,its,n,r,hl,e⟩:=I.iO hH;refine call_meets F.slot_list_append ⟨_,e,rfl⟩ F.entry_list_append (F.args_list_append_2 _ _) (PySem.list_append l its.toArray n u (by rw[size_toArray];omega)) ⟨e,?_⟩;refine⟨.non,_,I.oH (its':=its++[u]) hH e (by simp) (r.append (.cons ru .nil)) ?_,rfl,q⟩;rw[length_append,length_singleton];omega
def My:V->Zv->Hp->VK->Prop:=λx vs H Q=>∃ l b xs zs,x=.ref l/\vs=[.ref b]/\H l=some (.lst xs)/\H b=some (.lst zs)/\xs.length+zs.length<=sizeLine/\Q .non (upd H l (.lst (xs++zs)))
theorem Mz:jm X "list.extend" My:=by
 intro pins s σ H x vs v us Q I rx rv h;obtain⟨l,b,xs,zs,rfl,rfl,hH,hB,hz,q⟩:=h;cases rx;obtain⟨u,rfl,ru⟩:=rv.one;cases ru;obtain⟨z,its,n,r,hl,e⟩:=I.iO hH;obtain⟨z2,fz,n2,r2,oI,e2⟩:=I.iO hB;have hsz:its.toArray.size+fz.toArray.size<=sizeLine:=by rw[size_toArray,size_toArray];omega
 have oJ:¬ (!its.toArray.isEmpty&&Builtin.List.listTooLong (its.toArray.size+fz.toArray.size))=true:=by
  rw[vz hsz,Bool.and_false];exact Bool.false_ne_true
 refine call_meets F.slot_list_extend ⟨_,e,rfl⟩ F.entry_list_extend (F.args_list_extend_2 _ _)
  (AutoSeq1.list_extend_list_list_0 l its.toArray n b fz.toArray n2 oJ (by rw[size_toArray];omega) (by omega)) ⟨e,e2,?_⟩
 refine⟨.non,_,I.oH (its':=its++fz) hH e (by simp) (r.append r2) ?_,rfl,q⟩;rw[length_append];omega
def MA:V->Zv->Hp->VK->Prop:=λx vs H Q=>∃ l xs y,x=.ref l/\vs=[]/\H l=some (.lst xs)/\xs[xs.length-1]?=some y/\Q y (upd H l (.lst xs.dropLast))
theorem MB:jm X "list.pop" MA:=by
 intro pins s σ H x vs v us Q I rx rv h;obtain⟨l,xs,y,rfl,rfl,hH,hy,q⟩:=h;cases rx;have MC:=rv.zero;subst MC;obtain⟨z,its,n,r,hl,e⟩:=I.iO hH;obtain⟨u,hu,ru⟩:=r.get hy
 have MD:its.toArray[its.toArray.size-1]?=some u:=by
  show its.toArray[its.length-1]?=some u;rw[<- Array.getElem?_toList,<- hl];exact hu
 refine call_meets F.slot_list_pop ⟨_,e,rfl⟩ F.entry_list_pop (F.args_list_pop_1 _) (MeetsSeq.list_pop_last l its.toArray n u MD (by rw[size_toArray];omega)) ⟨e,?_⟩;refine⟨y,_,I.oH (its':=its.dropLast) hH e ?_ r.dropLast ?_,ru,q⟩
 ·show its.toArray.eraseIdxIfInBounds (its.toArray.size-1)=its.dropLast.toArray;rw[size_toArray,eraseIdxIfInBounds_toArray,Mw]
 ·rw[length_dropLast];omega
def ME:V->Zv->Hp->VK->Prop:=λx vs H Q=>∃ l xs i k y,x=.ref l/\vs=[.int i]/\H l=some (.lst xs) /\ -(2 ^ 63)<=i/\i<2 ^ 63/\seqIndex? i xs.length=some k/\xs[k]?=some y/\Q y (upd H l (.lst (xs.eraseIdx k)))
theorem MF:jm X "list.pop" ME:=by
 intro pins s σ H x vs v us Q I rx rv h;obtain⟨l,xs,i,k,y,rfl,rfl,hH,h1,h2,hk,hy,q⟩:=h;cases rx;obtain⟨u,rfl,ru⟩:=rv.one;obtain⟨t,rfl⟩:=ru;obtain⟨z,its,n,r,hl,e⟩:=I.iO hH;obtain⟨w,hw,dI⟩:=r.get hy
 refine call_meets F.slot_list_pop ⟨_,e,rfl⟩ F.entry_list_pop (F.args_list_pop_2 _ _)
  (MeetsSeq.list_pop_at l its.toArray n i t k w (fitsIndex_both h1 h2) (by rw[size_toArray,<- hl];exact hk) (by rw[<- Array.getElem?_toList];exact hw) (by rw[size_toArray];omega)) ⟨e,?_⟩
 refine⟨y,_,I.oH (its':=its.eraseIdx k) hH e ?_ (r.eraseIdx k) ?_,dI,q⟩
 ·show its.toArray.eraseIdxIfInBounds k=(its.eraseIdx k).toArray;rw[eraseIdxIfInBounds_toArray]
 ·have:=BH xs k;omega
def vB:R2:=λx y H Q=>∃ l b xs zs,x=.ref l/\y=.ref b/\H l=some (.lst xs)/\H b=some (.lst zs)/\xs.length+zs.length<=sizeLine/\∀ p,H p=none->Q (.ref p) (upd H p (.lst (xs++zs)))
theorem BI:bx X (binaryOp .Add) vB:=by
 intro pins s σ H x y v u Q I rx ry h;obtain⟨l,b,xs,zs,rfl,rfl,hH,hB,hz,q⟩:=h;cases rx;cases ry;obtain⟨z,its,n,r,hl,e⟩:=I.iO hH;obtain⟨z2,fz,n2,r2,oI,e2⟩:=I.iO hB;refine PySem.P.add_list e e2 ?_ (by rw[size_toArray,size_toArray];omega);have ea:its.toArray++fz.toArray=(its++fz).toArray:=by simp
 rw[ea];exact⟨.ref _,_,I.vy (t':=s.toks) (r.append r2) (by rw[length_append];omega),rfl,q _ I.fresh⟩
def qV:R2:=λx y H Q=>∃ l k xs,x=.ref l/\y=.int k/\H l=some (.lst xs) /\ -(2 ^ 63)<=k/\k<2 ^ 63/\xs.length*k.toNat<=sizeLine /\
 ∀ p,H p=none->Q (.ref p) (upd H p (.lst (replicate k.toNat xs).flatten))
theorem len_rep {α:Type}(xs:List α)(k:Nat):(replicate k xs).flatten.length=k*xs.length:=by
 induction k with
 |zero=>simp
 |succ k ih=>rw[replicate_succ,flatten_cons,length_append,ih,Nat.succ_mul,Nat.add_comm]
theorem MG:bx X (binaryOp .Mult) qV:=by
 intro pins s σ H x y v u Q I rx ry h;obtain⟨l,k,xs,rfl,rfl,hH,h1,h2,hz,q⟩:=h;cases rx;obtain⟨t,rfl⟩:=ry;obtain⟨z,its,n,r,hl,e⟩:=I.iO hH;have hlen:its.toArray.size*k.toNat<=sizeLine:=by rw[size_toArray,<- hl];exact hz
 have MH:¬ its.toArray.size*k.toNat > (2 ^ 63-1) / 8:=by
  have:(sizeLine:Nat)<=(2 ^ 63-1) / 8:=by decide
  omega
 have MI:¬ (!Builtin.List.listFitsIndex k)=true:=by
  rw[fitsIndex_both h1 h2];exact Bool.false_ne_true
 have oJ:¬ Builtin.List.listTooLong (its.toArray.size*k.toNat)=true:=by
  rw[vz hlen];exact Bool.false_ne_true
 have MJ:foldl (λx1 x2=>x1++x2) #[] (replicate (if its.toArray.isEmpty=true then 0 else k.toNat) its.toArray)=(replicate k.toNat its).flatten.toArray:=by
  have f0:∀ m:Nat,foldl (λx1 x2=>x1++x2) #[] (replicate m its.toArray)=(replicate m its).flatten.toArray:=λm=>by
   have:=foldl_rep its m [];rw[nil_append] at this;exact this
  rw[f0]
  cases its with
  |nil=>simp
  |cons a r'=>rw[if_neg (by simp)]
 refine wpAny_binaryOp_repeat_ref (T:="list") (U:="int") (by decide) ⟨_,e,rfl⟩ (λs'=>typeIs_int s' k t) noFill_list_mul F.fills_int_mul F.slot_int_rmul repeat_list F.slot_int_index.lookup
  (call_meets F.slot_int_rmul (typeIs_int s k t) F.entry_int_rmul (F.args_int_rmul_2 _ _) (int___rmul___int_list k t l its.toArray n)
   ⟨e,rfl,⟨_,e,rfl⟩,call_meets F.slot_list_mul ⟨_,e,rfl⟩ F.entry_list_mul (F.args_list_mul_2 _ _) (AutoListH.list___mul___list_int_3 l its.toArray n k t MI MH oJ) ⟨e,?_⟩⟩)
 rw[MJ];exact⟨.ref _,_,I.vy (t':=s.toks) (r.rep k.toNat) (by rw[len_rep,Nat.mul_comm];exact hz),rfl,q _ I.fresh⟩
end
section
variable {prog:Program}{w:World}{A:Around}{E:aG}{s:Shared}
set_option maxRecDepth 100000 in
end
section
variable {X:Cx}
end
end L2
namespace BJ
open PySem PySem.W PySem.Calls PyProof.Rows
theorem MK {P:Params}{h:Heap}:∀(ns:List Int)(vs:aC),WellAll P h vs (ns.map WData.int)->IntsAre vs ns:=by
 intro ns
 induction ns with
 |nil=>
  intro vs w;rw[map_nil] at w;cases w;exact .nil
 |cons n ns ih=>
  intro vs w;rw[map_cons] at w
  cases w with
  |cons a b=>
   cases a;exact .cons _ _ (ih _ b)
theorem ML {l:OpenLaw}{n:Nat}(hn:l.most=some n){P:Params}{h:Heap}{args:List WData}{vals:aC}
  (qX:l.row.toRowW.claim.pre args=true)(vC:WellAll P h vals args) :
  ∃ a vs ns,vals=[Value.ref a]/\args=[WData.list (ns.map WData.int)]/\h.get? a=some { cls:=.type "list",data:=.seq vs.toArray }/\IntsAre vs ns/\ns.length<=n:=by
 have vD:WShape.hasAll [] args [.list .int]=true:=(pre_splitW qX).1;have hc:l.pre.holds [] { args:=args }=true:=(pre_splitW qX).2;obtain⟨d,r,rfl,h1,h2⟩:=hasAllW_cons vD;obtain rfl:=hasAllW_nil h2;obtain⟨xs,rfl,h3⟩:=hasW_list h1;obtain⟨ns,rfl⟩:=items_int h3
 have hlen:ns.length<=n:=by
  unfold OpenLaw.pre at hc
  have h4:(WTm.not (.lt (.lit (.int (n:Int))) (.len (.arg 0)))).holds [] { args:=[.list (ns.map .int)] }=true:=by
   have h4:=(holds_andW hc).1;rw[hn] at h4;exact h4
  have h5:=condW_of h4 (w_not (w_lt w_lit (w_len_list (w_arg rfl))));rw[length_map] at h5;refine Nat.le_of_not_lt λq=>?_;have q':(n:Int)<((ns.length:Nat):Int):=by omega
  first
   |(rw[decide_eq_true q'] at h5;exact absurd h5 (by decide))
   |(simp at h5;omega)
 cases vC with
 |cons w1 w2=>
  cases w2
  cases w1 with
  |list ho vm=>exact⟨_,_,ns,rfl,rfl,ho,MK ns _ vm,hlen⟩
theorem MN (l:OpenLaw)(args:List WData):l.row.toRowW.claim.post args (.bool true) args=true:=
 postW_of (r:=l.row.toRowW) (X:=(true==true))
  (show WShape.has [] (.bool true) .bool=true by first|rfl|decide|simp [WShape.has,WShape.arms,WShape.armsAll])
  (show(WTm.eq .res (.lit (.bool true))).value [] { args:=args,res:=some (.bool true),after:=args }=some (.bool (true==true)) from w_eq_bool (w_res rfl) w_lit) rfl
theorem MO {l:OpenLaw}{n:Nat}{q:Program}{loose:aq}{XP:(aZ)->Heap->Prop}{YP:World->Heap->Prop}{d:DefRec}
  (hn:l.most=some n)(oK:d.params.defaults=[])
  (call:∀(w:World)(c7 aT:Shared)(mg mb:aZ)(fa:Addr)(o:Obj)(pm cd doc:Value)(a:Addr)(vs:aC)(ns:List Int),
   Ground q loose [] XP w c7 mg mb aT.heap->YP w aT.heap ->
   aT.heap.get? fa=some o->o.data=.func (docDef d.name d.params d.body d.scope pm cd doc)->aT.heap.CodeRec cd d.name->mg d.name=some (.ref fa) ->
   aT.heap.get? a=some { cls:=.type "list",data:=.seq vs.toArray }->IntsAre vs ns->ns.length<=n->aT.gens=#[] ->
   codeAny (model l.prog w) callerA (.call (.ref fa) ⟨[.ref a],[]⟩) (λr s'=>r=.ok (.ret (.bool true))/\OldK aT.heap s'.heap/\s'.os=aT.os/\AllBare s'.gens) aT) :
  WalkO q loose XP YP l.row.toRowW d [] (λf vs=>PySem.call f vs):=by
 intro w c7 aT mg mb G Y fa o pm cd doc dV kV ho hd bJ hD oM hg args vals as qX Zl Zm vC Zn;obtain rfl:dV=.none:=Dflts.none hD oK;obtain rfl:kV=.none:=Dflts.noKw hD;obtain⟨a,vs,ns,rfl,rfl,vE,hints,hlen⟩:=ML hn qX vC;refine enter_call (codeAny_mono (call w c7 aT mg mb fa o pm cd doc a vs ns G Y ho (fd_plain hd) bJ oM vE hints hlen hg) λr s' hq=>?_);obtain⟨rfl,h2,h3,h4⟩:=hq;exact⟨.inl ⟨.bool true,.bool true,[],rfl,λ_=>rfl,.bool true,MN l _,λ_=>⟨Pairwise.nil,λ_ hm=>(nomatch hm)⟩⟩,h2,h3,h4⟩
section
variable {prog:Program}{w:World}{A:Around}{E:aG}{s:Shared}{K:Frag}
end
end BJ
namespace L2
open PySem PySem.Spec PyProof.Rows
theorem BK:∀{vs:aC}{ns:List Int},IntsAre vs ns->Vals (ns.map V.int) vs
 |_,_,.nil=>.nil
 |_,_,.cons n t h=>.cons ⟨t,rfl⟩ (BK h)
def mB (H:Hp):Prop:=∀ b,H b=none\/∃ o xs,H b=some (.bB o (.lst xs))
theorem MP {P:Program}{w:World}{K:Frag}{mg mb:aZ}{CX:fK}{k:Nat}{fa a:Addr}{fd:FuncData}{x:Str}{sp:Sp}{aT:Shared}{vs:aC}{ns:List Int}
  (KX:K.In aT.heap)(BL:aT.heap.Ns mainGlobals mg)(hb:aT.heap.Ns builtinsNs mb)(MQ:∀ x:Str,x≠"__name__"->mb x=bootBuiltins x)(MR:aT.heap.NoLimit)(hg:aT.gens=#[])
  (ha:aT.heap.get? a=some { cls:=.type "list",data:=.seq vs.toArray })(hi:IntsAre vs ns)(hl:ns.length<=sizeLine)(hr:bO k callerA)
  (F:∀ base:Heap,K.In base->base.Ns mainGlobals mg->cT P w K mg base CX k fa fd [x] sp)(MS:∀(s:Shared)(u:Value),BindsTo s fd ⟨[u],[]⟩ [(x,u)])
  (jU:∀ H:Hp,mB H->aO K H a (ns.map V.int)->sp [.ref a] H (λv _=>v=.bl true) λ_ _ _=>False)
  (vF:∀ H e s',CX [] H aT (λ_ _ _=>False) e s'->False) :
  codeAny (model P w) callerA (.call (.ref fa) ⟨[.ref a],[]⟩) (λr s'=>r=.ok (.ret (.bool true))/\OldK aT.heap s'.heap/\s'.os=aT.os/\AllBare s'.gens) aT:=by
 have rv:=BK hi;have MT:=hi.length
 -- from an abstract heap in Zo nothing but the As may be tracked
 have core:∀ H:Hp,mB H->aO K H a (ns.map V.int)->cq P w H aT.heap->(∀ b,H b≠none->b=a)->(H a≠none->K.lookup a=none) ->
   codeAny (model P w) callerA (.call (.ref fa) ⟨[.ref a],[]⟩) (λr s'=>r=.ok (.ret (.bool true))/\OldK aT.heap s'.heap/\s'.os=aT.os/\AllBare s'.gens) aT:=by
  intro H hO hS aA hA hK;have BM:∀{b:Addr}{o:Obj},aT.heap.get? b=some o->H b=none->(je aT.heap H).get? b=some o:=λe n=>JQ e n
  have oy:∀{b:Addr}{o:Obj}{es:Array DictEntry}{ep:Nat},aT.heap.get? b=some o->o.data=.dict es ep->H b=none:=λ{b o es ep} e d=>by
   cases q:H b with
   |none=>rfl
   |some u=>
    have e':b=a:=hA b (by rw[q];simp);subst e';rw[ha] at e;cases e;have d':Data.seq vs.toArray _=Data.dict es ep:=d;cases d'
  have qY:∀{b:Addr}{m:aZ},aT.heap.Ns b m->(je aT.heap H).Ns b m:=λ{b m} ⟨o,es,ep,e,d,r⟩=>⟨o,es,ep,BM e (oy e d),d,r⟩
  have BN:K.In (je aT.heap H):=λb o e=>BM (KX b o e) (by
   cases q:H b with
   |none=>rfl
   |some u=>
    have e':b=a:=hA b (by rw[q];simp);subst e'
    rw[hK (by rw[q];simp)] at e;cases e)
  have hM:Mod K mg (je aT.heap H):=⟨BN,qY BL,⟨mb,qY hb,MQ⟩,let ⟨mc,h1,h2⟩:=MR;⟨mc,qY h1,h2⟩⟩;have e0:qF P w K mg (je aT.heap H) callerA [] aT H:=⟨rfl,hM,λb o e=>JR e,Nat.le_of_eq (JP _ _),trivial,λb hb=>absurd (show b∈([]:List Addr) from hb) (by simp),aA,.of_eq hg⟩;refine codeAny_mono ((F _ BN (qY BL)).run callerA [] aT H ⟨[.ref a],[]⟩ [.ref a] [.ref a] _ _ hr e0 (MS aT (.ref a)) (.cons rfl .nil) (jU H hO hS)) λr s' h=>?_
  cases r with
  |error e=>exact(vF H e s' h).elim
  |ok fl=>
   cases fl with
   |next=>exact False.elim h
   |brk=>exact False.elim h
   |cont=>exact False.elim h
   |ret u=>
    obtain⟨v,H',os,bare,un,MU,r',q⟩:=h;have q':v=.bl true:=q;subst q';obtain rfl:u=Value.bool true:=r';refine⟨rfl,OldK.of_keep λb o e=>?_,os,bare⟩
    cases q:H b with
    |none=>exact un.keep b o e q (by intro z;exact absurd (show b∈([]:List Addr) from z) (by simp)) (by simp)
    |some u=>
     rcases hO b with z|⟨ob,xs,z⟩
     ·rw[q] at z;cases z
     ·have z2:=un.jd b ob _ z;obtain⟨⟨e1,_⟩,_⟩:=aA b _ z;obtain⟨⟨e2,_⟩,_⟩:=MU b _ z2;rw[e] at e1;cases e1;exact e2
 cases hk:K.lookup a with
 |some o=>
  -- the As is one of the Zp own objects
  have e:=KX a o hk;rw[ha] at e;cases e;refine core (λ_=>none) (λ_=>.inl rfl) (.inr ⟨_,vs.toArray,_,hk,rfl,rfl,rfl,by rw[size_toArray,MT];exact hl,by simpa using rv⟩) (λb u z=>by have z':(none:Option HO)=some u:=z;cases z') (λb z=>absurd rfl z) λz=>absurd rfl z
 |none=>
  refine core (λb=>if b=a then some (.bB { cls:=.type "list",data:=.seq vs.toArray } (.lst (ns.map V.int))) else none) (λb=>?_) (.inl (.inr ⟨{ cls:=.type "list",data:=.seq vs.toArray },if_pos rfl⟩)) (λb u z=>?_) (λb z=>?_) λ_=>hk
  ·by_cases hb:b=a
   ·exact .inr ⟨_,_,if_pos hb⟩
   ·exact .inl (if_neg hb)
  ·by_cases hb:b=a
   ·have z':=(if_pos hb).symm.trans z;cases z';subst hb;exact⟨⟨ha,λ_ z=>nomatch z⟩,by rw[length_map];exact hl,vs,_,rv,ha⟩
   ·have z':=(if_neg hb).symm.trans z;cases z'
  ·by_cases hb:b=a
   ·exact hb
   ·exact absurd (if_neg hb) z
theorem MV {l:PySem.W.OpenLaw}{n k:Nat}{q:Program}{loose:aq}{XP:(aZ)->Heap->Prop}{YP:World->Heap->Prop}{d:DefRec}{K:Params->Frag}{CX:World->fK}{sp:World->Sp}{x:Str}
  (hn:l.most=some n)(BO:n<=sizeLine)(oK:d.params.defaults=[])(hr:bO k callerA)
  (hY:∀(w:World)(h:Heap),YP w h->(K w.params).In h)
  (F:∀(w:World)(mg:aZ)(fa:Addr)(h:Heap),(K w.params).In h->h.Ns mainGlobals mg->mg d.name=some (.ref fa) ->
   ∃ fd:FuncData,(∀(s:Shared)(u:Value),BindsTo s fd ⟨[u],[]⟩ [(x,u)]) /\
    ∀ base:Heap,(K w.params).In base->base.Ns mainGlobals mg->cT l.prog w (K w.params) mg base (CX w) k fa fd [x] (sp w))
  (jU:∀(w:World)(H:Hp)(a:Addr)(ns:List Int),ns.length<=n->mB H->aO (K w.params) H a (ns.map V.int)->sp w [.ref a] H (λv _=>v=.bl true) λ_ _ _=>False)
  (vF:∀(w:World)(H:Hp)(s:Shared)(e:Value)(s':Shared),CX w [] H s (λ_ _ _=>False) e s'->False) :
  PySem.W.WalkO q loose XP YP l.row.toRowW d [] (λf vs=>PySem.call f vs):=by
 refine BJ.MO hn oK λw c7 aT mg mb fa o pm cd doc a vs ns G Y ho hd bJ oM vE hints hlen hg=>?_;have KX:=hY w _ Y;obtain⟨fd,hb,hF⟩:=F w mg fa _ KX G.T.g oM;exact MP KX G.T.g G.T.b G.T.builtins G.T.nolimit hg vE hints (bU hlen BO) hr hF hb (λH hO hS=>jU w H a ns hlen hO hS) λH e s'=>vF w H aT e s'
def iP (s:Stmt):Arguments:=match s with
 |.FunctionDef _ a _ _ _ _ _ _ _ _=>a
 |_=>{ posonlyargs:=[],args:=[],vararg:=none,kwonlyargs:=[],kw_defaults:=[],kwarg:=none,defaults:=[] }
def fA (s:Stmt):List Stmt:=match s with
 |.FunctionDef _ _ b _ _ _ _ _ _ _=>b
 |_=>[]
def aW (s:Stmt):Scope:=match s with
 |.FunctionDef _ _ _ _ _ _ sc _ _ _=>sc
 |_=>{ kind:=.function,names:=[],isGenerator:=false,isCoroutine:=false }
abbrev dq:fK:=λ_ _ _ _ _ _=>False
abbrev E0:XK:=λ_ _ _=>False
theorem k_ {X:Cx}:Passes dq X E0:=λ_ _ _ _ _ _ _ h=>h.elim
structure fB (K:Frag)(x qual:Str)(st:Stmt)(f:Addr)(fd:FuncData):Prop where
 ex:∃(oc:Value)(od:Option Addr)(kV doc pm:Value)(an:Option Addr)(aE ct:Value)(jj:Array (Option Value)),
  fd=PySem.W.fnOf x qual (iP st) (fA st) (aW st) .none kV doc pm an aE ct/\K.lookup f=some ⟨oc,od,.func fd,jj⟩/\PySem.W.codeIn K aE qual=true
 kp:PySem.W.keepIn K (.ref f)=true
section
variable {P:Program}{w:World}{K:Frag}{mg:aZ}{base:Heap}
theorem fB.ok {x qual:Str}{st:Stmt}{f:Addr}{fd:FuncData}{N ps:aq}{k:Nat}{sp:Sp}(F:fB K x qual st f fd)(S:bw N ps (aW st))(len:∀ vs H Q E,sp vs H Q E->vs.length=ps.length)
  (hJ:∀(aE:Value)(A:Around)(outer:List Env)(s:Shared)(H:Hp)(vs:Zv)(Q:VK)(E:XK),bO k (A.deeper (envOfC qual (aW st) s.heap.objs.size f aE))->sp vs H Q E ->
   ∃ t,cv (iL dq P w K mg base N qual (aW st) f aE A outer s H E).jL (fA st) t/\t { nx:=λ_ H'=>Q .non H',rt:=Q } (start N vs) H):cT P w K mg base dq (k+1) f fd ps sp:=by
 obtain⟨oc,od,kV,doc,pm,an,aE,ct,jj,rfl,lk,bJ⟩:=F.ex;refine LK lk bJ S len λA outer s H vs Q E hr jU=>?_;obtain⟨t,h,q⟩:=hJ aE A outer s H vs Q E hr jU;exact⟨t,h.jL,q⟩
theorem fB.binds {x qual:Str}{st:Stmt}{f:Addr}{fd:FuncData}{ps:aq}(F:fB K x qual st f fd)
  (h:∀(kV doc pm:Value)(an:Option Addr)(aE ct:Value)(us:aC),us.length=ps.length->bindArgs (PySem.W.fnOf x qual (iP st) (fA st) (aW st) .none kV doc pm an aE ct) ⟨us,[]⟩=pure (ps.zip us)):Binds K fd ps []:=by
 obtain⟨oc,od,kV,doc,pm,an,aE,ct,jj,rfl,lk,bJ⟩:=F.ex;exact .all (h kV doc pm an aE ct)
theorem MW {x qual:Str}{st:Stmt}{f:Addr}{oc:Value}{od an:Option Addr}{jj:Array (Option Value)}{kV doc pm aE ct:Value}(l:K.lookup f=some ⟨oc,od,.func (PySem.W.fnOf x qual (iP st) (fA st) (aW st) .none kV doc pm an aE ct),jj⟩)
  (c:PySem.W.codeIn K aE qual=true)(k:PySem.W.keepIn K (.ref f)=true):fB K x qual st f (PySem.W.fnOf x qual (iP st) (fA st) (aW st) .none kV doc pm an aE ct):=⟨⟨oc,od,kV,doc,pm,an,aE,ct,jj,rfl,l,c⟩,k⟩
end
theorem gB {A:Around}{k:Nat}(hr:bO k A):A.units+1<cLine:=Nat.lt_of_le_of_lt (Nat.add_le_add_left (by decide:1<=64) _) hr.units
theorem jo {n:Nat}(h:n<=1000):n<sizeLine:=Nat.lt_of_le_of_lt h (by decide)
section
variable {X:Cx}
theorem pv (i:Nat){x:Str}{pos:Pos}(hN:X.N[i]?=some x:=by rfl)(hv:di X.env.scope x:=by walk_at "v")(hd:(x==("__debug__":Str))=false:=by decide)
  (bJ:(x==("__classdict__":Str))=false:=by decide):PE X (.Name x pos) (AK i):=dY hN hv hd bJ
end
theorem la {A B:Prop}(h:B):if false=true then A else B:=by
 rw[if_neg Bool.false_ne_true];exact h
theorem lg {A B:Prop}(h:A):if true=true then A else B:=by
 rw[if_pos rfl];exact h
theorem oN {c A B:Prop} [Decidable c] (h1:c->A)(h2:¬ c->B):if c then A else B:=by
 by_cases h:c
 ·rw[if_pos h];exact h1 h
 ·rw[if_neg h];exact h2 h
def aR (H H':Hp):Prop:=∀ b o,H b=some o->H' b=some o
theorem aR.refl (H:Hp):aR H H:=λ_ _ h=>h
section
variable {κ:Type} [DecidableEq κ]
theorem MX {kvs:List (κ×V)}{k:κ}{v:V}(h:dj kvs k=some v):k∈kvs.map (·.1):=by
 have q:(kvs.any λkv=>decide (kv.1=k))=true:=by
  rw[mq,h]
  all_goals rfl
 obtain⟨p,hp,e⟩:=any_eq_true.mp q;exact mem_map.mpr ⟨p,hp,of_decide_eq_true e⟩
end
def f_ (k:Nat)(ix:List Nat)(σ:St):St:=replicate k none++ix.map λj=>(σ[j]?).join
section
variable {σ:St}{k:Nat}{ix:List Nat}
theorem MY {i:Nat}{v:V}(h:(f_ k ix σ)[i]?=some (some v)):∃ i' j,i=k+i'/\ix[i']?=some j/\σ[j]?=some (some v):=by
 unfold f_ at h;by_cases hi:i<k
 ·rw[getElem?_append_left (by simpa using hi),getElem?_replicate,if_pos hi] at h;cases h
 ·rw[getElem?_append_right (by simpa using (Nat.le_of_not_lt hi)),length_replicate,getElem?_map] at h
  cases e:ix[i-k]? with
  |none=>rw[e] at h;cases h
  |some j=>
   rw[e] at h;have h2:(σ[j]?).join=some v:=Option.some.inj h;refine⟨i-k,j,by omega,e,?_⟩
   cases e2:σ[j]? with
   |none=>rw[e2] at h2;cases h2
   |some o=>rw[e2] at h2;exact congrArg some h2
end
def ia (X:Cx)(ifs:List Expr)(t:TT):Prop:=
 ∀(pins:aP)(s:Shared)(σ:St)(H:Hp)(Q:Bool->Hp->Prop),Inv X pins σ H s->t σ H Q ->
  wpAny (model X.prog X.w) X.A (forIn ifs true λc r=>if r=true then do let ok <- isTrue c X.env (eval c X.env);pure (ForInStep.yield ok) else pure (ForInStep.yield r)) (TP X pins σ Q) X.xe s
def MZ:TT:=λ_ H Q=>Q true H
theorem M0 {X:Cx}:ia X [] MZ:=λ_ _ _ H _ I h=>wpAny_tests_nil ⟨H,I,h⟩
theorem M4 {X:Cx}{c:Expr}{t:TT}(h:PT X c t):ia X [c] t:=λpins s σ H Q I q=>wpAny_tests_one (h pins s σ H Q I q)
def oO (J:It)(g:TG)(tI:TT)(te:TE)(acc:Addr)(Q:VK)(σ:St)(H:Hp):Prop:=
 ∃ W:Nat->Nat->St->Hp->Prop,(∃ m,W 0 m σ H)/\∀ i m aH H',W i m aH H' ->
  (J.stop i H'/\Q (.ref acc) H')\/(J.go i H'/\∃ N:St->Hp->Prop,(∀ bE H2,N bE H2->∃ m',m'<m/\W (i+1) m' bE H2) /\
   ∀ x H2,J.fJ i H' x H2->g x aH H2 λcK H3=>tI cK H3 λb H4=>if b=true then te cK H4 λy H5=>∃ ys,H5 acc=some (.lst ys)/\ys.length<sizeLine/\N cK (upd H5 acc (.lst (ys++[y]))) else N cK H4)
def M5 (k:Nat)(ix:List Nat)(wi:TI)(g:TG)(tI:TT)(te:TE):TE:=λσ H Q=>wi σ H λJ H1=>∀ acc,H1 acc=none->oO J g tI te acc Q (f_ k ix σ) (upd H1 acc (.lst []))
def M6 (i k:Nat)(ix:List Nat)(wi:TI)(g:TG)(tI:TT)(te:TE):TS:=λD σ H=>wi σ H λJ H1=>∀ acc,H1 acc=none->oO J g tI te acc (λv H2=>D.nx (σ.set i (some v)) H2) (f_ k ix σ) (upd H1 acc (.lst []))
section
variable {X:Cx}
theorem vG:bx X (binaryOp .FloorDiv) (rI (λ_ j=>0<j/\j<2 ^ 200) λi j=>.int (i / j)):=oq λi j _ _ _ _ _ hc q=>by
 have h1:(0:Int)<j:=hc.1;have h2:j<2 ^ 200:=hc.2;have h3:j.natAbs<2 ^ 200:=by omega
 have h4:j.natAbs≠0:=by omega
 have h5:j.natAbs.log2<9000:=(Nat.log2_lt h4).mpr (dE h3 (Nat.pow_le_pow_right (by decide) (by decide)));exact floordiv_int (by omega) (by rw[Int.fdiv_eq_ediv_of_nonneg i (by omega)];exact q) (.inl (PyProof.noPylong_of_log2 h5))
theorem M7:bx X (compareOp .LtE) (λx y H Q=>∃ i j,x=.str i/\y=.str j/\Q (.bl (!(decide (j.cps.toList<i.cps.toList)))) H):=by
 intro pins s σ H x y v u Q I rx ry h;obtain⟨i,j,rfl,rfl,q⟩:=h;obtain⟨t,rfl⟩:=rx;obtain⟨t',rfl⟩:=ry;exact P.le_str ⟨.bl _,H,I,rfl,q⟩
theorem qZ:∀{ys:aq}{us:aC},Vals (ys.map V.str) us->StrsAre us ys
 |[],_,r=>by rw[map_nil] at r;cases r;exact .nil
 |y::ys,_,r=>by
  rw[map_cons] at r
  cases r with
  |cons h t=>
   obtain⟨k,rfl⟩:=h;exact .cons y k (qZ t)
end
def vH (x:Str):It:=⟨λi _=>i<x.cps.size,λi H y H'=>H'=H/\∃ c,x.cps[i]?=some c/\y=.str ⟨#[c]⟩,λi _=>x.cps.size<=i⟩
theorem M8 {P:Program}{w:World}{K:Frag}{tg:Expr}(it:Addr)(x:Str)(t:Tok):Turn P w K tg (vH x) [it] it (λi h=>h.IsStrIter it "str_ascii_iterator" x t i) where
 mem:=by simp
 obj:=λi h st b hb=>by
  have e:b=it:=by simpa using hb
  subst e;obtain⟨o,e,c,d⟩:=st;exact⟨o,e,λv z=>by rw[d] at z;cases z⟩
 keep:=λi h h' st k=>by
  obtain⟨o,e,c,d⟩:=st;exact⟨o,k it (by simp) o e,c,d⟩
 item:=by
  intro X hP hw hK hc i pins s σ H E I hf st hg;subst hP hw hK;obtain⟨f0,f1,f2,f3,f4,f5⟩:=hf it (by simp);have hx:x.cps[i]?=some x.cps[i]:=Array.getElem?_eq_getElem hg;refine wpAny_pyNext_ascii_item st hx λh' st' sb=>?_;have I1:Inv X pins σ H { s with heap:=h',toks:=s.toks+1 }:=I.turned (t':=s.toks+1) (λb o hb e=>(sb.2 b hb).trans e) f0 f1 f3 f4 f5;obtain⟨o,e,c,d⟩:=id st';exact⟨_,rfl,mn (s:={ s with heap:=h',toks:=s.toks+1 }) e c d (by decide) ⟨.str ⟨#[x.cps[i]]⟩,H,I1,⟨_,rfl⟩,⟨rfl,_,hx,rfl⟩,st',λb hb=>(hf b hb).1⟩⟩
 done:=by
  intro X hP hw hK hc i pins s σ H E I hf st hg;subst hP hw hK;obtain⟨f0,f1,f2,f3,f4,f5⟩:=hf it (by simp);exact wpAny_pyNext_ascii_end (I.ok.hd hc) st (Array.getElem?_eq_none hg) λh' eb=>⟨rfl,I.turned (t':=s.toks) (λb o hb e=>eb b o hb e) f0 f1 f3 f4 f5⟩
 self:=λA i s Q E st h=>by
  refine wpAny_pyIter_slot st.typeIs F.slot_str_ascii_iterator_iter (wpAny_call_entry F.slot_str_ascii_iterator_iter st.typeIs F.entry_str_ascii_iterator_iter ?_ (F.args_str_ascii_iterator_iter_1 _));show wpAny _ _ (ret (.ref it)) _ _ s;exact ao ⟨_,rfl,"str_ascii_iterator",_,st.typeIs,F.slot_str_ascii_iterator_next.lookup,h⟩
section
variable {X:Cx}
end
end L2
namespace HQ
open PySem PyProof.Rows PySem.SeqAt
section
open PySem.AutoSeq1 (wpAny_loadPart')
open PySem.MeetsSeq PySem.MeetsSeq2 PySem.MeetsSeq3
end
end HQ
namespace L2
open PySem PySem.Spec PyProof.Rows
section
variable {X:Cx}{pins:aP}{σ:St}{H:Hp}{s:Shared}
theorem BP {A:Around}{x y:V}{u v:Value}(fx:k9 x=true)(fy:k9 y=true)(rx:RelV x u)(ry:RelV y v):SeqAt.EqAt A s u v (oE x y):=Mp rx ry fx fy
theorem in1_units (A:Around):A.in1.units=A.units+1:=rfl
theorem M9 {A:Around}{R:V->V->Bool->Prop}{xs ys:Zv}{us vs:aC}{e:Nat->Bool}(r1:Vals xs us)(r2:Vals ys vs)(he:∀(j:Nat)(x y:V),xs[j]?=some x->ys[j]?=some y->R x y (e j))
  (hR:∀ x y b u v,R x y b->RelV x u->RelV y v->SeqAt.EqAt A s u v b):∀ j (h1:j<us.toArray.size)(h2:j<vs.toArray.size),SeqAt.EqAt A s us.toArray[j] vs.toArray[j] (e j):=λj h1 h2=>by
 have l1:=r1.length;have l2:=r2.length;have jZ:j<us.length:=by simpa using h1
 have vI:j<vs.length:=by simpa using h2
 obtain⟨u,hu,ru⟩:=r1.get (i:=j) (x:=xs[j]'(by omega)) (cf _);obtain⟨v,hv,rv⟩:=r2.get (i:=j) (x:=ys[j]'(by omega)) (cf _)
 have eu:us.toArray[j]=u:=by
  rw[cf jZ] at hu;simpa using Option.some.inj hu
 have ev:vs.toArray[j]=v:=by
  rw[cf vI] at hv;simpa using Option.some.inj hv
 rw[eu,ev];exact hR _ _ _ _ _ (he j _ _ (cf _) (cf _)) ru rv
end
end L2
namespace HZ
open PySem PyProof.Rows
section
variable {prog:Program}{w:World}{A:Around}{E:aG}{s:Shared}
theorem M_ {j t:Addr}{i:Nat}{its:Array Value}{x:Value}{Q:aG}(st:s.heap.IsTupleIter j t i)(ht:s.heap.IsTuple t its)(hx:its[i]?=some x)
  (hQ:∀ h',h'.IsTupleIter j t (i+1)->Heap.SameBut j s.heap h'->Q x { s with heap:=h' }):wpAny (model prog w) A (Builtin.SmallTypes.nextOf (.ref j)) Q E s:=by
 obtain⟨o1,e1,c1,d1⟩:=id st;obtain⟨o2,e2,_,n2,d2⟩:=ht;unfold Builtin.SmallTypes.nextOf;refine af (wpAny_callSpecial?_slot (name:=Str.ofString "__next__") st.typeIs PySem.F.slot_tuple_iterator_next (wpAny_call_entry PySem.F.slot_tuple_iterator_next st.typeIs PySem.F.entry_tuple_iterator_next ?_ (PySem.F.args_tuple_iterator_next_1 _)));show wpAny _ _ (field (.ref j) 0 >>= _) _ _ s;refine af (wpAny_field e1 d1 (x:=.ref t) rfl ?_);show wpAny _ _ (if (Value.ref t==Value.none)=true then _ else _) _ _ s;rw[if_neg (show ¬ ((Value.ref t==Value.none)=true) from Bool.false_ne_true)];show wpAny _ _ (field (.ref j) 1 >>= _) _ _ s;refine af (wpAny_field e1 d1 (x:=.int i 0) rfl ?_);show wpAny _ _ (seqItems? (.ref t) >>= _) _ _ s;refine af (wpAny_seqItems e2 d2 ?_);simp only[Int.toNat_natCast,hx];refine af (wpAny_setField e1 d1 (by simp) (ao ⟨x,rfl,ao (hQ _ ?_ (Heap.SameBut.update ..))⟩));exact⟨_,Heap.get?_update_self _ e1 (Obj.isFreed_of_fields (Obj.data_mapFields d1 _)),(Obj.cls_mapFields ..).trans c1,by rw[Obj.data_mapFields d1];simp [rawInt]⟩
theorem M' {j t:Addr}{i:Nat}{its:Array Value}{Q:aG}(hh:A.handled=none)(st:s.heap.IsTupleIter j t i)(ht:s.heap.IsTuple t its)(hx:its[i]?=none)
  (hE:∀ h' e,Heap.ExtBut j s.heap h'->(∃ o,h'.get? e=some o/\o.cls=.type "StopIteration")->E (.ref e) { s with heap:=h' }):wpAny (model prog w) A (Builtin.SmallTypes.nextOf (.ref j)) Q E s:=by
 obtain⟨o1,e1,c1,d1⟩:=id st;obtain⟨o2,e2,_,n2,d2⟩:=ht;unfold Builtin.SmallTypes.nextOf;refine af (wpAny_callSpecial?_slot (name:=Str.ofString "__next__") st.typeIs PySem.F.slot_tuple_iterator_next (wpAny_call_entry PySem.F.slot_tuple_iterator_next st.typeIs PySem.F.entry_tuple_iterator_next ?_ (PySem.F.args_tuple_iterator_next_1 _)));show wpAny _ _ (field (.ref j) 0 >>= _) _ _ s;refine af (wpAny_field e1 d1 (x:=.ref t) rfl ?_);show wpAny _ _ (if (Value.ref t==Value.none)=true then _ else _) _ _ s;rw[if_neg (show ¬ ((Value.ref t==Value.none)=true) from Bool.false_ne_true)];show wpAny _ _ (field (.ref j) 1 >>= _) _ _ s;refine af (wpAny_field e1 d1 (x:=.int i 0) rfl ?_);show wpAny _ _ (seqItems? (.ref t) >>= _) _ _ s;refine af (wpAny_seqItems e2 d2 ?_);simp only[Int.toNat_natCast,hx];refine af (wpAny_rule (af (wpAny_setField e1 d1 (by simp) ?_)));show wpAny _ _ (newExc (.type "StopIteration") [] >>= _) _ _ _;refine af ?_;simp only[newExc,newTuple];refine af (wpAny_newObj_type ?_ (by size_fits));refine af (m:=firstArgMember _ _) (wpAny_of_eq (a:=Value.none) (by first|rfl|(simp only[firstArgMember];rfl)) ?_);refine wpAny_newObj_type ?_ (by size_fits);simp only[raiseNew];refine af (wpAny_handled ?_);first|rw[show A.in1.handled=none from hh]|rw[hh]
 refine af (ao (wpAny_throw ?_));exact hE _ _ (((Heap.SameBut.update ..).extBut.push _).push _) ⟨_,b6 _ rfl,rfl⟩
abbrev oP (h:Heap)(l1:Addr):Heap:=h.push { cls:=.type "tuple_iterator",data:=.fields #[.ref l1,.int 0 0] }
end
end HZ
namespace L2
open PySem PySem.Spec PyProof.Rows
theorem gD {α:Type}{P:List α->Prop}(h:∀ a,P [a]):∀ us,us.length=1->P us:=λus e=>by
 match us,e with
 |[a],_=>exact h a
theorem fc {α:Type}{P:List α->Prop}(h:∀ a b,P [a,b]):∀ us,us.length=2->P us:=λus e=>by
 match us,e with
 |[a,b],_=>exact h a b
theorem fL {α:Type}{P:List α->Prop}(h:∀ a b c,P [a,b,c]):∀ us,us.length=3->P us:=λus e=>by
 match us,e with
 |[a,b,c],_=>exact h a b c
theorem j0 {α:Type}{P:List α->Prop}(h:∀ a b c d,P [a,b,c,d]):∀ us,us.length=4->P us:=λus e=>by
 match us,e with
 |[a,b,c,d],_=>exact h a b c d
theorem Na {α:Type}{P:List α->Prop}(h:∀ a b c d e,P [a,b,c,d,e]):∀ us,us.length=5->P us:=λus e=>by
 match us,e with
 |[a,b,c,d,e],_=>exact h a b c d e
section
variable {κ:Type} [DecidableEq κ]
theorem Nb {kvs:List (κ×V)}{k:κ}(h:¬ k∈kvs.map (·.1)):dj kvs k=none:=by
 cases e:dj kvs k with
 |none=>rfl
 |some v=>exact absurd (MX e) h
theorem vJ:∀{ks:List κ}{vs:Zv}{i:Nat}{k:κ}{v:V},ks.Nodup->ks[i]?=some k->vs[i]?=some v->dj (ks.zip vs) k=some v
 |[],_,_,_,_,_,hk,_=>by simp at hk
 |_::_,[],_,_,_,_,_,hv=>by simp at hv
 |a::ks,b::vs,0,k,v,nd,hk,hv=>by
  simp at hk hv;subst hk hv;exact oz (p:=(a,b)) rfl
 |a::ks,b::vs,i+1,k,v,nd,hk,hv=>by
  have iQ:ks[i]?=some k:=by simpa using hk
  have bK:¬ (a=k):=λe=>by
   subst e;exact(nodup_cons.mp nd).1 (mem_of_getElem? iQ)
  show dj ((a,b)::ks.zip vs) k=some v;rw[oA (p:=(a,b)) bK];exact vJ (nodup_cons.mp nd).2 iQ (by simpa using hv)
theorem BQ:∀{ks:List κ}{vs:Zv}{i:Nat}{k:κ}(v:V),ks.Nodup->ks[i]?=some k->vs.length=ks.length->(ks.zip vs).map (λkv=>if kv.1=k then (kv.1,v) else kv)=ks.zip (vs.set i v)
 |[],_,_,_,_,_,hk,_=>by simp at hk
 |_::_,[],_,_,_,_,_,hl=>by simp at hl
 |a::ks,b::vs,0,k,v,nd,hk,hl=>by
  simp at hk;subst hk;show(if a=a then (a,v) else (a,b))::(ks.zip vs).map _=(a,v)::ks.zip vs;rw[if_pos rfl]
  congr 1
  have:∀ kv∈ks.zip vs,(if kv.1=a then (kv.1,v) else kv)=kv:=λkv hm=>by
   rw[if_neg λe=>(nodup_cons.mp nd).1 (by rw[<- e];exact(of_mem_zip (a:=kv.1) (b:=kv.2) hm).1)]
  conv=>rhs;rw[<- map_id (ks.zip vs)]
  exact map_congr_left this
 |a::ks,b::vs,i+1,k,v,nd,hk,hl=>by
  have iQ:ks[i]?=some k:=by simpa using hk
  have bK:¬ (a=k):=λe=>by
   subst e;exact(nodup_cons.mp nd).1 (mem_of_getElem? iQ)
  show(if a=k then (a,v) else (a,b))::(ks.zip vs).map _=(a,b)::ks.zip (vs.set i v);rw[if_neg bK,BQ v (nodup_cons.mp nd).2 iQ (by simpa using hl)]
theorem Nc {ks:List κ}{vs:Zv}{i:Nat}{k:κ}(v:V)(nd:ks.Nodup)(hk:ks[i]?=some k)(hl:vs.length=ks.length):putK (ks.zip vs) k v=ks.zip (vs.set i v):=by
 unfold putK;have hi:i<vs.length:=by rw[hl];exact(c6 hk).1
 have e:=vJ (vs:=vs) (v:=vs[i]) nd hk (cf hi);rw[if_pos (by rw[mq,e];rfl),BQ v nd hk hl]
end
theorem BR:∀(more kvs:bh),((kvs++more).map (·.1)).Nodup->hV kvs more=kvs++more
 |[],kvs,_=>by rw[append_nil];rfl
 |p::r,kvs,nd=>by
  have hn:¬ p.1∈kvs.map (·.1):=λm=>by
   rw[map_append,map_cons] at nd;exact(nodup_append.mp nd).2.2 p.1 m p.1 mem_cons_self rfl
  show hV (putK kvs p.1 p.2) r=_;rw[LM _ (Nb hn),BR r _ (by rw[append_assoc];exact nd),append_assoc];rfl
def cz (d:Addr)(H H':Hp):Prop:=∀ c o,H c=some o->c≠d->H' c=some o
theorem cz.refl (d:Addr)(H:Hp):cz d H H:=λ_ _ h _=>h
theorem cz.trans {d:Addr}{H H1 H2:Hp}(a:cz d H H1)(b:cz d H1 H2):cz d H H2:=λc o h n=>b c o (a c o h n) n
theorem cz.upd {d:Addr}{H H':Hp}(a:cz d H H')(o:HO):cz d H (L2.upd H' d o):=λc u h n=>by rw[a7 n];exact a c u h n
theorem cz.seq {K:Frag}{d:Addr}{H H':Hp}{a:Addr}{xs:Zv}{kvs:bh}(b:cz d H H')(hd:H d=some (.dK kvs))(h:aO K H a xs):aO K H' a xs:=by
 rcases h with (h|⟨o,h⟩)|h
 ·exact .inl (.inl (b _ _ h (uP h hd (λz=>nomatch z))))
 ·exact .inl (.inr ⟨o,b _ _ h (uP h hd (λz=>nomatch z))⟩)
 ·exact .inr h
theorem dJ {H:Hp}{p:Addr}(h:H p=none)(o:HO):aR H (L2.upd H p o):=λb u q=>by rw[a7 (dF q h)];exact q
def SK:List Key:=[.inr "script",.inr "at",.inr "left",.inr "way",.inr "names",.inr "parts",.inr "turn"]
theorem vK:SK.Nodup:=by decide +kernel
structure Bs where
 nm:Int
 pt:Int
 x:Str
 z:Int
 y:Int
 /-- a thing that Zq as it is through the whole Zr: where,what (a code table: Zs Zt) -/
 tb:Option (Addr×Array Value)
def SV (a:Addr)(t l w:Int)(B:Bs):Zv:=[.ref a,.int t,.int l,.int w,.int B.nm,.int B.pt,.int B.z]
theorem fM {H:Hp}{d:Addr}{vs:Zv}{i:Nat}{x:Str}{v:V}(hd:H d=some (.dK (SK.zip vs)))(hk:SK[i]?=some (.inr x))(hv:vs[i]?=some v):fb H d (.str x) (some v):=by
 have g:=fb.k (k:=Sum.inr x) hd;rw[vJ vK hk hv] at g;exact g
theorem dput {H:Hp}{d:Addr}{vs:Zv}{i:Nat}{x:Str}{v:V}(hd:H d=some (.dK (SK.zip vs)))(hl:vs.length=7)(hk:SK[i]?=some (.inr x)):iM H d (.str x) v (L2.upd H d (.dK (SK.zip (vs.set i v)))):=by
 have e:putK (SK.zip vs) (Sum.inr x) v=SK.zip (vs.set i v):=Nc v vK hk hl;have g:=iM.k (k:=Sum.inr x) (v:=v) hd (by rw[length_zip,hl];decide);rw[e] at g;exact g
structure cE (H:Hp)(d a:Addr)(n:Nat)(B:Bs):Prop where
 ex:∃(t l w:Int),H d=some (.dK (SK.zip (SV a t l w B)))/\1<=t/\t<=(n:Int)+64/\0<=l
 tb:∀ T o,B.tb=some (T,o)->H T=some (.g6 o)/\T≠d
theorem cE.dk {H:Hp}{d a:Addr}{n:Nat}{B:Bs}(h:cE H d a n B):∃ kvs,H d=some (.dK kvs):=by
 obtain⟨t,l,w,e,_⟩:=h.ex;exact⟨_,e⟩
theorem cE.same {H H':Hp}{d a:Addr}{n:Nat}{B:Bs}(h:cE H d a n B)(s:aR H H'):cE H' d a n B:=by
 obtain⟨t,l,w,e,r⟩:=h.ex;exact⟨⟨t,l,w,s _ _ e,r⟩,λT o z=>⟨s _ _ (h.tb T o z).1,(h.tb T o z).2⟩⟩
theorem cE.vL {H:Hp}{d a:Addr}{n:Nat}{B B':Bs}{o':HO}(h:cE H d a n B)(e:B'.tb=B.tb):∀ T o,B'.tb=some (T,o)->L2.upd H d o' T=some (.g6 o)/\T≠d:=λT o z=>by
 obtain⟨h1,h2⟩:=h.tb T o (e▸z);exact⟨by rw[a7 h2];exact h1,h2⟩
theorem cE.vM {H H1:Hp}{d a:Addr}{n:Nat}{B B':Bs}(h:cE H d a n B)(b:cz d H H1)(e:B'.tb=B.tb):∀ T o,B'.tb=some (T,o)->H1 T=some (.g6 o)/\T≠d:=λT o z=>by
 obtain⟨h1,h2⟩:=h.tb T o (e▸z);exact⟨b _ _ h1 h2,h2⟩
def q_ (K:Frag)(H:Hp)(a:Addr):Prop:=∃ ns:List Int,aO K H a (ns.map V.int)/\ns.length<=63
def j5 (K:Frag):Sp:=λvs H Q _=>∃(d a:Addr)(n:Nat)(B:Bs)(m:Int),vs=[.ref d,.int m]/\cE H d a n B/\q_ K H a/\n<=100000/\0<m/\m<2 ^ 200 /\
 ∀(r:Int)(H':Hp),0<=r->r<m->cE H' d a (n+1) B->cz d H H'->Q (.int r) H'
theorem vN {ns:List Int}{k:Int}(h0:0<=k)(h:k<(ns.length:Int)):∃ v:Int,cy (ns.map V.int) k=some (.int v):=by
 have hk:k.toNat<ns.length:=by omega
 have ek:k=((k.toNat:Nat):Int):=by omega
 have q:cy (ns.map V.int) ((k.toNat:Nat):Int)=some (.int ns[k.toNat]):=Me (by rw[getElem?_map,cf hk]<;>rfl);rw[<- ek] at q;exact⟨_,q⟩
def fD (env:Env):List (Str×NameKind)->List (Str×Addr)->List (Str×Addr)
 |[],acc=>acc
 |(n,k)::r,acc=>if (k==NameKind.free)=true then fD env r ((n,(env.cells.lookup n).getD 0)::acc) else fD env r acc
theorem vO {env:Env}:∀(names:List (Str×NameKind))(acc:List (Str×Addr)),(∀ y∈names,y.2=.free->∃ c,env.cells.lookup y.1=some c) ->
  (forIn (m:=Sem) names acc λx cs=>match x with|(name,kind)=>if (kind==NameKind.free)=true then (do let c <- cellOf env name;pure (ForInStep.yield ((name,c)::cs))) else pure (ForInStep.yield cs))=pure (fD env names acc)
 |[],acc,_=>rfl
 |(n,k)::r,acc,h=>by
  rw[forIn_cons];by_cases hk:(k==NameKind.free)=true
  ·obtain⟨c,hc⟩:=h (n,k) mem_cons_self (by simpa using hk)
   have e:cellOf env n=pure c:=by
    unfold cellOf;rw[hc]
   have z:=vO r ((n,c)::acc) λy hy=>h y (mem_cons_of_mem _ hy);unfold fD;rw[if_pos hk,hc];simp only[hk,if_true,e];exact z
  ·have z:=vO r acc λy hy=>h y (mem_cons_of_mem _ hy);unfold fD;rw[if_neg hk];simp only[hk];exact z
theorem Nd {sc:Scope}{env:Env}(h:∀ y∈sc.names,y.2=.free->∃ c,env.cells.lookup y.1=some c):closureFor sc env=pure (fD env sc.names []):=by
 have z:=vO sc.names [] h;simp only[closureFor]
 first
  |(rw[z];rfl)
  |exact z
theorem vP {env:Env}:∀(names:List (Str×NameKind))(acc:List (Str×Addr)),(∀ y∈names,y.2=.free->∃ c,env.cells.lookup y.1=some c)->(∀ p∈acc,env.cells.lookup p.1=some p.2)->∀ p∈fD env names acc,env.cells.lookup p.1=some p.2
 |[],acc,_,ha,p,hp=>ha p hp
 |(n,k)::r,acc,h,ha,p,hp=>by
  unfold fD at hp;by_cases hk:(k==NameKind.free)=true
  ·rw[if_pos hk] at hp;refine vP r _ (λy hy=>h y (mem_cons_of_mem _ hy)) (λq hq=>?_) p hp;rcases mem_cons.mp hq with rfl|hq
   ·obtain⟨c,hc⟩:=h (n,k) mem_cons_self (by simpa using hk);show env.cells.lookup n=some ((env.cells.lookup n).getD 0);rw[show env.cells.lookup n=some c from hc];rfl
   ·exact ha q hq
  ·rw[if_neg hk] at hp;exact vP r acc (λy hy=>h y (mem_cons_of_mem _ hy)) ha p hp
theorem vQ {env:Env}:∀(names:List (Str×NameKind))(acc:List (Str×Addr)),(∀ p∈acc,p∈fD env names acc)
 |[],acc,p,hp=>hp
 |(n,k)::r,acc,p,hp=>by
  unfold fD
  split
  ·exact vQ r _ p (mem_cons_of_mem _ hp)
  ·exact vQ r acc p hp
theorem vR {env:Env}:∀(names:List (Str×NameKind))(acc:List (Str×Addr))(x:Str),(x,NameKind.free)∈names->∃ c,(x,c)∈fD env names acc
 |[],_,_,h=>nomatch h
 |(n,k)::r,acc,x,h=>by
  unfold fD;rcases mem_cons.mp h with e|h
  ·cases e;rw[if_pos (by rfl)];exact⟨_,vQ r _ _ mem_cons_self⟩
  ·split
   ·exact vR r _ x h
   ·exact vR r acc x h
theorem mem_lookup {β:Type}{x:Str}{c:β}:∀{l:List (Str×β)},l.lookup x=some c->(x,c)∈l
 |[],h=>nomatch h
 |(n,d)::r,h=>by
  rw[lookup_cons] at h
  cases e:(x==n) with
  |true=>
   rw[e] at h;have q:x=n:=by simpa using e
   cases h;subst q;exact mem_cons_self
  |false=>
   rw[e] at h;exact mem_cons_of_mem _ (mem_lookup h)
theorem lookup_mem {β:Type}{x:Str}{c:β}:∀{l:List (Str×β)},(x,c)∈l->∃ d,l.lookup x=some d
 |[],h=>nomatch h
 |(n,d)::r,h=>by
  rw[lookup_cons]
  cases e:(x==n) with
  |true=>exact⟨d,rfl⟩
  |false=>
   rcases mem_cons.mp h with q|q
   ·cases q;rw[beq_self_eq_true] at e;cases e
   ·exact lookup_mem q
abbrev fg (sc:Scope)(cl:List (Str×Addr))(C:Addr):List (Str×Addr):=cellsFrom (C+1) sc.names cl
def du (X:Cx)(N:aq)(sc:Scope)(cl:List (Str×Addr))(C:Addr)(fp:List Addr)(s:Shared)(H:Hp):Cx:=
 { X with N:=N,c7:=s,n_:=H,env:=compEnvC sc (fg sc cl C) C X.env,outer:=X.stack,ex:=fp,fn:=λx=>decide ((x,NameKind.cell)∈sc.names),xe:=λ_ _=>False }
structure ib (X:Cx)(sc:Scope)(cl:List (Str×Addr))(N:aq)(k:Nat)(ix:List Nat):Prop where
 vS:closureFor sc X.env=pure cl
 kind:sc.kind=.function
 names:∀ y∈sc.names,y.2=.local->sc.names.lookup y.1=some .local
 sub:∀ x c,(x,c)∈cl->X.env.cells.lookup x=some c
 has:∀ x,(x,NameKind.free)∈sc.names->∃ c,(x,c)∈cl
 fr:∀ x c,(x,c)∈cl->(x,NameKind.free)∈sc.names
 ra:∀ x,(x,NameKind.cell)∈sc.names->(x,NameKind.free)∉sc.names
 len:N.length=k+ix.length
 rb:∀ i j x,ix[i]?=some j->N[k+i]?=some x->X.N[j]?=some x/\(X.env.kindOf x=some .cell\/X.env.kindOf x=some .free) /\
  ((relabel sc X.env).names.lookup x=some .cell\/(relabel sc X.env).names.lookup x=some .free)/\(x,NameKind.cell)∉sc.names
theorem rg:∀(names:List (Str×NameKind))(lo:Nat)(acc:List (Str×Addr))(p:Str×Addr),p∈acc->p∈cellsFrom lo names acc
 |[],_,_,_,h=>h
 |(name,kind)::r,lo,acc,p,h=>by
  unfold cellsFrom
  split
  ·exact rg r _ _ p (mem_cons_of_mem _ h)
  ·exact rg r _ _ p h
theorem vT:∀(names:List (Str×NameKind))(lo:Nat)(acc:List (Str×Addr))(x:Str),(x,NameKind.cell)∈names->∃ c,(x,c)∈cellsFrom lo names acc
 |[],_,_,_,h=>nomatch h
 |(name,kind)::r,lo,acc,x,h=>by
  unfold cellsFrom;rcases mem_cons.mp h with e|h
  ·cases e;rw[if_pos (by rfl)];exact⟨lo,rg r _ _ _ mem_cons_self⟩
  ·split
   ·exact vT r _ _ x h
   ·exact vT r _ _ x h
theorem rh:∀(names:List (Str×NameKind))(h:Heap)(acc:List (Str×Addr))(n:Str)(c:Addr),(n,c)∈cellsFrom h.objs.size names acc->(n,c)∈acc\/((pushCells h names).IsCell c none/\h.objs.size<=c/\(n,NameKind.cell)∈names)
 |[],_,_,_,_,m=>.inl m
 |(name,kind)::r,h,acc,n,c,m=>by
  unfold cellsFrom at m;unfold pushCells
  split at m
  ·rename_i hk;rw[if_pos hk];have q:=rh r (h.push { cls:=.type "cell",data:=.cell none }) ((name,h.objs.size)::acc) n c (by rw[Heap.size_push];exact m);rw[Heap.size_push] at q;rcases q with q|⟨q1,q2,q3⟩
   ·rcases mem_cons.mp q with e|q
    ·cases e;have:kind=NameKind.cell:=by simpa using hk
     subst this;refine .inr ⟨?_,ar _,mem_cons_self⟩;have ic:(h.push { cls:=.type "cell",data:=.cell none }).IsCell h.objs.size none:=⟨_,b6 _ rfl,rfl⟩;exact ic.keeps λb o e=>pushCells_keeps r _ b o e
    ·exact .inl q
   ·exact .inr ⟨q1,by omega,mem_cons_of_mem _ q3⟩
  ·rename_i hk;rw[if_neg hk];rcases rh r h acc n c m with q|⟨q1,q2,q3⟩
   ·exact .inl q
   ·exact .inr ⟨q1,q2,mem_cons_of_mem _ q3⟩
theorem vU:∀(names:List (Str×NameKind))(lo hi:Nat)(acc:List (Str×Addr)),lo<=hi->(∀ p∈acc,p.2<hi)->(∀ p∈acc,∀ q∈acc,p.2=q.2->lo<=p.2->p.1=q.1)->∀ p∈cellsFrom hi names acc,∀ q∈cellsFrom hi names acc,p.2=q.2->lo<=p.2->p.1=q.1
 |[],_,_,_,_,_,h=>h
 |(name,kind)::r,lo,hi,acc,hl,h1,h2=>by
  unfold cellsFrom
  split
  ·refine vU r lo (hi+1) _ (by omega) (λp hp=>?_) λp hp q hq e l=>?_
   ·rcases mem_cons.mp hp with rfl|hp
    ·exact Nat.lt_succ_self _
    ·exact Nat.lt_succ_of_lt (h1 p hp)
   ·rcases mem_cons.mp hp with rfl|hp<;>rcases mem_cons.mp hq with rfl|hq
    ·rfl
    ·have:=h1 q hq;have e':hi=q.2:=e;exact absurd this (by rw[<- e'];exact Nat.lt_irrefl _)
    ·have:=h1 p hp;have e':p.2=hi:=e;exact absurd this (by rw[e'];exact Nat.lt_irrefl _)
    ·exact h2 p hp q hq e l
  ·exact vU r lo hi acc hl h1 h2
theorem Nf {prog:Program}{w:World}{A:Around}{E:aG}{s:Shared}{sc:Scope}{cl:List (Str×Addr)}{env:Env}{Q:Env->Shared->Prop}
  (hQ:∀ h',h'.Ns s.heap.objs.size (λ_=>none)->(∀ b o,s.heap.get? b=some o->h'.get? b=some o)->(∀ n c,(n,c)∈fg sc cl s.heap.objs.size->(n,c)∈cl\/(h'.IsCell c none/\s.heap.objs.size+1<=c/\(n,NameKind.cell)∈sc.names)) ->
   Q { scope:=sc,locals:=s.heap.objs.size,globals:=env.globals,cells:=fg sc cl s.heap.objs.size,qual:=env.qual,func:=none,code:=env.code,frame:=env.frame,builtins:=env.builtins } { s with heap:=h' }) :
  wpAny (model prog w) A (newFunctionEnv sc env.globals cl [] env.qual none .none (some env)) Q E s:=by
 simp only[newFunctionEnv,Option.isSome_some,if_true];refine af (wpAny_alloc ?_);refine af (wpAny_layCells _ (λname kind cells=>by cases Ng:kind==NameKind.cell<;>simp [Ng]) _ _ _ _ ?_);have es:({ s with heap:=s.heap.push { cls:=.type "dict",data:=.dict #[] } }:Shared).heap.objs.size=s.heap.objs.size+1:=Heap.size_push ..;rw[es];have hs:(s.heap.push { cls:=.type "dict",data:=.dict #[] }).objs.size=s.heap.objs.size+1:=Heap.size_push ..
 have q:=hQ (pushCells (s.heap.push { cls:=.type "dict",data:=.dict #[] }) sc.names) ((Heap.Ns.new s.heap (.type "dict")).keeps (pushCells_keeps _ _)) (λb o e=>pushCells_keeps _ _ b o (a8 _ e)) λn c m=>by
  have z:=rh sc.names (s.heap.push { cls:=.type "dict",data:=.dict #[] }) cl n c (by rw[hs];exact m);rw[hs] at z;exact z
 rw[forIn_nil];exact af (ao (ao q))
section
variable {X:Cx}{pins:aP}{σ:St}{H:Hp}{s:Shared}{sc:Scope}{cl:List (Str×Addr)}{N:aq}{k:Nat}{ix:List Nat}{C:Addr}{fp:List Addr}
theorem ib.at (S:ib X sc cl N k ix)(I:Inv X pins σ H s)(hC:C=s.heap.objs.size){x:Str}{c:Addr}(h:(fg sc cl C).lookup x=some c):(X.env.cells.lookup x=some c/\c<C/\(x,c)∈cl)\/(C+1<=c/\(x,NameKind.cell)∈sc.names):=by
 have m:=mem_lookup h;have hs:(s.heap.push { cls:=.type "dict",data:=.dict #[] }).objs.size=C+1:=by rw[hC];exact Heap.size_push ..
 have z:=rh sc.names (s.heap.push { cls:=.type "dict",data:=.dict #[] }) cl x c (by rw[hs];exact m);rw[hs] at z;rcases z with z|⟨_,z1,z2⟩
 ·have q:=S.sub x c z;obtain⟨v,o,ho,_⟩:=I.cell x c q;exact .inl ⟨q,by rw[hC];exact a0 ho,z⟩
 ·exact .inr ⟨z1,z2⟩
theorem Nh {env:Env}{x:Str}(h:(relabel sc env).names.lookup x=some .cell\/(relabel sc env).names.lookup x=some .free):(x,NameKind.cell)∈sc.names\/(x,NameKind.free)∈sc.names:=by
 rcases h with h|h
 ·have m:=mem_lookup h;obtain⟨⟨n,kd⟩,hm,e⟩:=mem_map.mp m;dsimp only at e
  split at e
  ·rename_i hc;cases e;rw[Bool.and_eq_true,Bool.and_eq_true] at hc;have:kd=.free:=by simpa using hc.1.1
   subst this;exact .inr hm
  ·cases e;exact .inl hm
 ·have m:=mem_lookup h;obtain⟨⟨n,kd⟩,hm,e⟩:=mem_map.mp m;dsimp only at e
  split at e
  ·cases e
  ·cases e;exact .inr hm
theorem BS (S:ib X sc cl N k ix)(I:Inv X pins σ H s)(hC:C=s.heap.objs.size)(hf:∀ b∈fp,fY X pins H b/\b<s.heap.objs.size):(du X N sc cl C fp s H).Ok where
 mod:=I.ok.mod
 kind:=S.kind
 glob:=I.ok.glob
 blt:=I.ok.blt
 above:=by subst hC;exact ar _
 inj:=λx y c h1 h2=>by
  have h1:(fg sc cl C).lookup x=some c:=h1;have h2:(fg sc cl C).lookup y=some c:=h2;rcases S.at I hC h1 with ⟨a1,a2,a3⟩|⟨a1,a2⟩<;>rcases S.at I hC h2 with ⟨b1,b2,b3⟩|⟨b1,b2⟩
  ·exact I.ok.inj x y c a1 b1
  ·exact absurd (dE (Nat.lt_trans a2 (Nat.lt_succ_self C)) b1) (Nat.lt_irrefl _)
  ·exact absurd (dE (Nat.lt_trans b2 (Nat.lt_succ_self C)) a1) (Nat.lt_irrefl _)
  ·have small:∀ p∈cl,p.2<C+1:=λp hp=>by
    obtain⟨v,o,ho,_⟩:=I.cell p.1 p.2 (S.sub p.1 p.2 hp);rw[hC];exact Nat.lt_succ_of_lt (a0 ho)
   exact vU sc.names (C+1) (C+1) cl (ar _) small (λp hp q _ _ l=>absurd (small p hp) (Nat.not_lt.mpr l)) (x,c) (mem_lookup h1) (y,c) (mem_lookup h2) rfl a1
 has:=λx h=>by
  rcases Nh h with h|h
  ·obtain⟨c,hc⟩:=vT sc.names (C+1) cl x h;exact lookup_mem hc
  ·obtain⟨c,hc⟩:=S.has x h;exact lookup_mem (rg sc.names (C+1) cl _ hc)
 mh:=λx c h1 h2=>by
  have h1:(x,NameKind.cell)∈sc.names:=of_decide_eq_true h1;rcases S.at I hC (show(fg sc cl C).lookup x=some c from h2) with ⟨a1,a2,a3⟩|⟨a1,a2⟩
  ·exact absurd (S.fr x c a3) (S.ra x h1)
  ·show s.heap.objs.size<=c;rw[<- hC];exact Nat.le_of_succ_le a1
 hd:=I.ok.hd
 frames:=I.ok.frames
 oe:=.inl rfl
 uS:=λb hb=>⟨by subst hC;exact bI (hf b hb).2,λx c e=>by
  rcases S.at I hC (show(fg sc cl C).lookup x=some c from e) with ⟨a1,a2,a3⟩|⟨a1,a2⟩
  ·exact(hf b hb).1.2.2.2.2.1 x c a1
  ·exact λz=>absurd (hf b hb).2 (by rw[<- hC,<- z];exact Nat.not_lt.mpr (Nat.le_of_succ_le a1))⟩
 bs:=I.bs
 jf:=bU I.ok.jf I.sz
 mi:=λb o e hb=>by
  obtain⟨_,_,_,h1,_⟩:=(hf b hb).1;rcases h1 with z|z
  ·exact I.ok.mi b o e z
  ·exact absurd (dE (a0 e) (bU I.ok.jf z)) (Nat.lt_irrefl _)
 og:=λb hb hz=>by
  obtain⟨_,h1,h2,_⟩:=(hf b hb).1;exact(mem_cons.mp (I.oi b hz)).elim h1 h2
 gm:=I.stack
 kO:=I.Ax
theorem Ni {h₁:Heap}{tk:Nat}{m:aZ}(S:ib X sc cl N k ix)(I:Inv X pins σ H s)(hC:C=s.heap.objs.size)(hf:∀ b∈fp,fY X pins H b/\b<s.heap.objs.size)
  (hn:h₁.Ns C m)(kp:∀ b o,s.heap.get? b=some o->h₁.get? b=some o)(f9:∀ n c,(n,c)∈fg sc cl C->(n,c)∈cl\/(h₁.IsCell c none/\C+1<=c/\(n,NameKind.cell)∈sc.names)):Inv (du X N sc cl C fp s H) pins (f_ k ix σ) H { s with heap:=h₁,toks:=tk } where
 ok:=BS S I hC hf
 os:=rfl
 bare:=I.bare
 base:=Un.kept kp
 loc:=by
  refine⟨m,hn,λi x v e1 e2 _=>?_⟩;obtain⟨i',j,rfl,e3,e4⟩:=MY e2;obtain⟨n1,k1,k2,k3⟩:=S.rb i' j x e3 e1;obtain⟨mX,_,hl⟩:=I.loc
  have Nj:di X.env.scope x:=by
   rcases k1 with z|z
   ·exact .inr (.inl z)
   ·exact .inr (.inr z)
  obtain⟨u,r,l⟩:=hl j x v n1 e4 Nj;refine⟨u,r,.inr ⟨k2,?_⟩⟩;rcases l with ⟨z,_⟩|⟨_,c,z,o,ho,hd⟩
  ·rcases k1 with y|y
   ·rw[y] at z;cases z
   ·rw[y] at z;cases z
  ·obtain⟨c',c8⟩:=(BS (fp:=fp) S I hC hf).has x k2;rcases S.at I hC (show(fg sc cl C).lookup x=some c' from c8) with ⟨q,_,_⟩|⟨_,q⟩
   ·rw[z] at q;cases q;exact⟨c,c8,o,kp _ _ ho,hd⟩
   ·exact absurd q k3
 cell:=λx c e=>by
  rcases f9 x c (mem_lookup e) with q|⟨q,_,_⟩
  ·obtain⟨v,o,ho,hd⟩:=I.cell x c (S.sub x c q);exact⟨v,o,kp _ _ ho,hd⟩
  ·exact⟨_,q⟩
 free:=by
  show H C=none;rw[hC];exact I.aA.fresh (ar _)
 gn:=λx c e=>by
  rcases S.at I hC (show(fg sc cl C).lookup x=some c from e) with ⟨q,_,_⟩|⟨q,_⟩
  ·exact I.gn x c q
  ·exact I.aA.fresh (by rw[<- hC];exact Nat.le_of_succ_le q)
 pin:=λp hp=>by
  obtain⟨e,n,ne,nf,d⟩:=I.pin p hp;refine⟨kp _ _ e,n,?_,λhz=>(mem_cons.mp (I.oi _ hz)).elim ne nf,d⟩;show p.1≠C;rw[hC];exact bI (a0 e)
 aA:=I.aA.kept kp
 len:=by
  show N.length<=(f_ k ix σ).length;unfold f_;rw[S.len,length_append,length_replicate,length_map];exact ar _
theorem Nk {C':Addr}{aH:St}{H':Hp}{s':Shared}(I:Inv X pins σ H s)(hf:∀ b∈fp,fY X pins H b)(J:Inv (du X N sc cl C' fp s H) pins aH H' s'):Inv X pins σ H' s':=
 I.AJ J.os J.base J.aA J.bare λb hb=>⟨(hf b hb).2.2.2.1,(hf b hb).2.1,(hf b hb).2.2.2.2.1,(hf b hb).2.2.2.2.2⟩
end
section
variable {X:Cx}{elt tg iter:Expr}{ifs:List Expr}{pos:Pos}{sc:Scope}{cl:List (Str×Addr)}{N:aq}{k:Nat}{ix:List Nat}{g:TG}{tI:TT}{te:TE}{wi:TI}
theorem BU {pins:aP}{σ:St}{H:Hp}{s2:Shared}{it:Addr}{fp:List Addr}{tn:Nat->Heap->Prop}{J:It}{Q:VK}{E:aG}{RR:Value->Addr->Result->Shared->Prop}
  (S:ib X sc cl N k ix)(hc:X.calm=true)(hg:∀ C fp s H,PG (du X N sc cl C fp s H) tg g)(hi:∀ C fp s H,ia (du X N sc cl C fp s H) ifs tI)(he:∀ C fp s H,PE (du X N sc cl C fp s H) elt te)
  (I:Inv X pins σ H s2)(T:Turn X.prog X.w X.K tg J fp it tn)(st:tn 0 s2.heap)(ff:∀ b∈fp,fY X pins H b)
  (q:∀ acc,H acc=none->oO J g tI te acc Q (f_ k ix σ) (upd H acc (.lst [])))
  (Nl:∀(acc C:Addr)(H':Hp)(s':Shared),Inv X pins σ H' s'->fY X pins H' C->(∃ m,s'.heap.Ns C m)->Q (.ref acc) H'->RR (.ref acc) C (.ok .next) s') :
  wpAny (model X.prog X.w) X.A (newList []) (λacc my=>wpAny (model X.prog X.w) X.A (newFunctionEnv sc X.env.globals cl [] X.env.qual none .none (some X.env)) (λBV Nm=>
   codeAny (model X.prog X.w) X.A (.compStart (.ListComp elt [⟨tg,iter,ifs,0⟩] sc pos) 0 (.ref it) acc { BV with scope:=relabel sc X.env }) (RR acc BV.locals) Nm) E my) E s2:=by
 refine wpAny_newObj_type (Nf λh₁ BW BX f9=>?_);dsimp only at BW BX f9 ⊢;have I3:Inv X pins σ (upd H s2.heap.objs.size (.lst [])) { s2 with heap:=s2.heap.push { cls:=.type "list",data:=.seq ([]:aC).toArray },toks:=s2.toks }:=I.vy (ys:=[]) (its:=[]) .nil (by decide);have qo:H s2.heap.objs.size=none:=I.aA.fresh (ar _)
 have eE:∀ b∈fp,b<s2.heap.objs.size:=λb hb=>by
  obtain⟨o,e,_⟩:=T.obj 0 _ st b hb;exact a0 e
 have hsz:(s2.heap.push { cls:=.type "list",data:=.seq ([]:aC).toArray }).objs.size=s2.heap.objs.size+1:=Heap.size_push ..
 have rm:∀ b∈fp,fY X pins (upd H s2.heap.objs.size (.lst [])) b:=λb hb=>by
  obtain⟨f0,f1,f2,f3,f4,f5⟩:=ff b hb;exact⟨by rw[a7 (bI (eE b hb))];exact f0,f1,f2,f3,f4,f5⟩
 obtain⟨W,⟨m0,w0⟩,turn⟩:=q _ qo;have kp:∀ b o,(s2.heap.push { cls:=.type "list",data:=.seq ([]:aC).toArray }).get? b=some o->h₁.get? b=some o:=BX
 have I4:=Ni (h₁:=h₁) (tk:=s2.toks) (fp:=fp) S I3 rfl (λb hb=>⟨rm b hb,by
  show b<(s2.heap.push _).objs.size;rw[hsz]
  exact Nat.lt_succ_of_lt (eE b hb)⟩) BW kp f9
 have rn:tn 0 h₁:=T.keep 0 _ _ st λb _ o e=>kp b o (a8 _ e);generalize hC:(s2.heap.push { cls:=.type "list",data:=.seq ([]:aC).toArray }).objs.size=C at *;generalize hX:du X N sc cl C fp { s2 with heap:=s2.heap.push { cls:=.type "list",data:=.seq ([]:aC).toArray },toks:=s2.toks } (upd H s2.heap.objs.size (.lst []))=Y at I4
 have loop:∀ s':Shared,s'={ s2 with heap:=h₁,toks:=s2.toks } ->
   codeAny (model X.prog X.w) X.A (.compLoop (.ListComp elt [⟨tg,iter,ifs,0⟩] sc pos) 0 (.ref it) (.ref s2.heap.objs.size) (compEnvC sc (fg sc cl C) C X.env)) (RR (.ref s2.heap.objs.size) C) s':=by
  rintro s' rfl;refine codeAny_loop rfl (λn s'=>∃ i aH H',Inv Y pins aH H' s'/\tn i s'.heap/\(∀ b∈fp,H' b=none)/\W i n aH H') (λn s3 hI=>?_) m0 ⟨0,_,_,I4,rn,λb hb=>(rm b hb).1,w0⟩;obtain⟨i,cK,H3,J3,gw,oo,w3⟩:=hI;show wpAny _ _ ((compTurn (.ListComp elt [⟨tg,iter,ifs,0⟩] sc pos) 0 (.ref it) (.ref s2.heap.objs.size) (compEnvC sc (fg sc cl C) C X.env)).onRaise (λx=>do noteFrame x (compEnvC sc (fg sc cl C) C X.env);theTreesLotGoes x)) _ _ s3;refine wpAny_noted ?_;rw[compTurn_list]
  have kT:∀{H':Hp},(∀ b∈fp,H' b=none)->∀ b∈fp,fY Y pins H' b:=λhn b hb=>by
   obtain⟨f0,f1,f2,f3,f4,f5⟩:=rm b hb;subst hX;refine⟨hn b hb,?_,λhz=>(mem_cons.mp (I3.oi b hz)).elim f1 f2,.inl hb,λx c e=>?_,f5⟩
   ·show b≠C;rw[hsz];exact bI (Nat.lt_succ_of_lt (eE b hb))
   ·rcases S.at I3 hC.symm (show(fg sc cl C).lookup x=some c from e) with ⟨q,_,_⟩|⟨q,_⟩
    ·exact f4 x c q
    ·exact λz=>absurd (eE b hb) (by rw[<- z];exact Nat.not_lt.mpr (bU (by rw[hsz];exact Nat.le_succ_of_le (Nat.le_succ _)) q))
  have eX:Y.prog=X.prog/\Y.w=X.w/\Y.K=X.K/\Y.calm=X.calm/\Y.A=X.A/\Y.env=compEnvC sc (fg sc cl C) C X.env/\Y.xe=λ_ _=>False:=by
   subst hX;exact⟨rfl,rfl,rfl,rfl,rfl,rfl,rfl⟩
  obtain⟨y1,y2,y3,y4,y5,y6,y7⟩:=eX;have Nn:PG Y tg g:=hX▸hg _ _ _ _;have Np:ia Y ifs tI:=hX▸hi _ _ _ _;have Nq:PE Y elt te:=hX▸he _ _ _ _
  have no:∀{α:Type}{m:Sem α}{P:α->Shared->Prop}{E':aG}{s':Shared},wpAny (model Y.prog Y.w) Y.A m P Y.xe s'->wpAny (model X.prog X.w) X.A m P E' s':=λ{α m P E' s'} h=>by
   rw[y1,y2,y5,y7] at h;exact wpAny_mono h (λ_ _ z=>z) λ_ _ z=>z.elim
  rcases turn i n cK H3 w3 with ⟨stop,qn⟩|⟨go,Nx,hN,step⟩
  ·refine af (wpAny_standAt (af (wpAny_mono (no (T.done Y y1 y2 y3 (y4.trans hc) i pins s3 cK H3 Y.xe J3 (kT oo) gw stop |> λz=>by rw[y1,y2] at *;exact z)) (λr s4 hr=>?_) λ_ _ z=>z)));obtain⟨hr,J4⟩:=hr;subst hr;refine ao ?_;subst hX;have J5:=Nk I3 rm J4;obtain⟨m,hn,_⟩:=J4.loc;exact Nl _ _ _ _ J5 (I3.jO (Nat.le_of_eq hC) J4.free) ⟨m,hn⟩ qn
  ·refine af (wpAny_standAt (af (wpAny_mono (no (T.item Y y1 y2 y3 (y4.trans hc) i pins s3 cK H3 Y.xe J3 (kT oo) gw go |> λz=>by rw[y1,y2] at *;exact z)) (λr s4 hr=>?_) λ_ _ z=>z)));obtain⟨u,hr,h4⟩:=hr;subst hr;refine af (wpAny_mono (no (by rw[y1,y2];exact h4)) (λ_ s5 h5=>?_) λ_ _ z=>z);obtain⟨x,H5,J5,r5,Nr,jP,uX⟩:=h5;have Nt:=J5.pinned (kT uX) (T.obj _ _ jP);refine af (wpAny_mono (no (y6▸Nn _ s5 cK H5 x u _ Nt r5 (step x H5 Nr))) (λ_ s6 h6=>?_) λ_ _ z=>z);obtain⟨iK,H6,J6,q6⟩:=h6;refine af (wpAny_mono (no (y6▸Np _ s6 iK H6 _ J6 q6)) (λok s7 h7=>?_) λ_ _ z=>z);obtain⟨H7,J7,q7⟩:=h7
   have again:∀{s8:Shared}{H8:Hp},Inv Y (pins++om fp s5.heap) iK H8 s8->Nx iK H8->∃ m,m<n/\∃ i aH H',Inv Y pins aH H' s8/\tn i s8.heap/\(∀ b∈fp,H' b=none)/\W i m aH H':=λ{s8 H8} J8 n8=>by
    obtain⟨m',hm,w8⟩:=hN iK H8 n8;refine⟨m',hm,i+1,iK,H8,J8.qy,T.keep _ _ _ jP λb hb o e=>(J8.pin (b,o) (mem_append_right _ (mem_append_right _ (qw hb e)))).1,λb hb=>?_,w8⟩;obtain⟨o,e,d⟩:=T.obj _ _ jP b hb;exact(J8.pin (b,o) (mem_append_right _ (mem_append_right _ (qw hb e)))).2.1
   cases ok with
   |false=>exact ao ⟨rfl,again J7 q7⟩
   |true=>
    refine af (af (wpAny_mono (no (y6▸Nq _ s7 iK H7 _ J7 q7)) (λv s8 h8=>?_) λ_ _ z=>z));obtain⟨y,H8,J8,r8,ys,ha,hl,n8⟩:=h8;refine af (wpAny_mono (no (vA (X:=Y) _ s8 iK H8 (.ref s2.heap.objs.size) [y] (.ref s2.heap.objs.size) [v] (λ_ H9=>Nx iK H9) J8 rfl (.cons r8 .nil) ⟨_,ys,y,rfl,rfl,ha,hl,n8⟩)) (λ_ s9 h9=>?_) λ_ _ z=>z);obtain⟨_,H9,J9,_,n9⟩:=h9;exact ao (ao ⟨rfl,again J9 n9⟩)
 exact codeAny_compStart_list (loop _ rfl) (T.self _ 0 _ _ _ rn (loop _ rfl))
theorem Nu (S:ib X sc cl N k ix)(hc:X.calm=true)(hp:PI X tg iter wi)(hg:∀ C fp s H,PG (du X N sc cl C fp s H) tg g)(hi:∀ C fp s H,ia (du X N sc cl C fp s H) ifs tI)
  (he:∀ C fp s H,PE (du X N sc cl C fp s H) elt te)(hs:∀ x,foldedSetIterable iter X.env x=pure x:=by intro _;rfl):PE X (.ListComp elt [⟨tg,iter,ifs,0⟩] sc pos) (M5 k ix wi g tI te):=by
 intro pins s σ H Q I h;rw[eval_ListComp];refine wpAny_comprehension_free (use:=none) rfl hs S.vS S.kind S.names (aD (hp pins s σ H _ I h) λxv aT h₁=>aD h₁ λqt dR k0=>?_);obtain⟨it,fp,tn,J,H2,e,I2,T,cW,f2,q2⟩:=k0;subst e;refine BU (RR:=λacc C=>compPost (model X.prog X.w) X.A X.xe none (EP X pins σ Q) acc C) S hc hg hi he I2 T cW f2 q2 λacc C H' s' I' fC hm hq=>?_;obtain⟨m,hn⟩:=hm;obtain⟨f0,f1,f2,f3,f4,f5⟩:=fC;exact⟨m,hn,λh' rp=>⟨.ref acc,H',I'.turned (t':=s'.toks) (λb o hb e=>rp.extBut b o hb e) f0 f1 f3 f4 f5,rfl,hq⟩⟩
end
section
variable {X:Cx}{elt tg iter:Expr}{ifs:List Expr}{pos:Pos}{sc:Scope}{cl:List (Str×Addr)}{N:aq}{k:Nat}{ix:List Nat}{g:TG}{tI:TT}{te:TE}{wi:TI}
theorem BY {i:Nat}{y:Str}{py cY:Pos}(hN:X.N.Nodup)(ie:X.N[i]?=some y)(hy:X.env.scope.names.lookup y=some .local)
  (oQ:swapsWith (.ListComp elt [⟨tg,iter,ifs,0⟩] sc pos) (some (.Name y py)) cY.line X.env=pure true)
  (S:ib X sc cl N k ix)(hc:X.calm=true)(hp:PI X tg iter wi)(hg:∀ C fp s H,PG (du X N sc cl C fp s H) tg g)(hi:∀ C fp s H,ia (du X N sc cl C fp s H) ifs tI)
  (he:∀ C fp s H,PE (du X N sc cl C fp s H) elt te)(hs:∀ x,foldedSetIterable iter X.env x=pure x:=by intro _;rfl):PS X (.Assign [.Name y py] (.ListComp elt [⟨tg,iter,ifs,0⟩] sc pos) cY) (M6 i k ix wi g tI te):=by
 intro pins s σ H D I h;rw[exec_Assign_Name_used _ _ _ _ oQ];refine af (wpAny_standAt (af ?_));show wpAny _ X.A (do let _ <- comprehension (.ListComp elt [⟨tg,iter,ifs,0⟩] sc pos) sc X.env _ (newList []) false (eval iter X.env) (some (assign (.Name y py) X.env))) _ _ s
 refine af (wpAny_mono (wpAny_comprehension_free (use:=some (assign (.Name y py) X.env)) (Q:=λ_ s'=>SP X pins D .next s') rfl hs S.vS S.kind S.names
  (aD (hp pins s σ H _ I h) λxv aT h₁=>aD h₁ λqt dR k0=>?_)) (λ_ s' hq=>ao (ao hq)) λ_ _ e=>e)
 obtain⟨it,fp,tn,J,H2,e,I2,T,cW,f2,q2⟩:=k0;subst e;refine BU (RR:=λacc C=>compPost (model X.prog X.w) X.A X.xe (some (assign (.Name y py) X.env)) (λ_ s'=>SP X pins D .next s') acc C) S hc hg hi he I2 T cW f2 q2 λacc C H' s' I' fC hm hq=>?_;obtain⟨m,hn⟩:=hm;obtain⟨f0,f1,f2,f3,f4,f5⟩:=fC;show wpAny _ X.A (assign (.Name y py) X.env (.ref acc)) _ _ _;refine wpAny_assign_Name (AE I' hN ie (.inl hy) (show RelV (.ref acc) (.ref acc) from rfl) (λox Nv ⟨a,Nw,ha⟩=>?_) (.inr hy))
 have bK:C≠a:=by
  rcases ha with z|z
  ·rw[z];exact f1
  ·exact λq=>f4 y a z q.symm
 refine⟨m,hn.sameBut Nw bK,λh' rp=>?_⟩;exact⟨_,H',Nv.turned (t':=ox.toks) (λb o hb e=>rp.extBut b o hb e) f0 f1 f3 f4 f5,hq⟩
end
section
variable {X:Cx}
theorem part_of {v:Value}{o:Option Int}(p:IsPart v o):∃ l:Option (Int×Tok),v=partValue l/\o=l.map (·.1):=by
 cases p with
 |none=>exact⟨none,rfl,rfl⟩
 |int i t=>exact⟨some (i,t),rfl,rfl⟩
theorem Ny:jl X (λx lo hi H Q=>∃ z,x=.str z/\z.length<=sizeLine/\Q (.str (Txt.slice z lo hi)) H):=by
 intro pins s σ H x v vl vu lo hi sl Q I rx hs pl pu h;obtain⟨z,rfl,hz,q⟩:=h;obtain⟨t,rfl⟩:=rx;obtain⟨l,rfl,rfl⟩:=part_of pl;obtain⟨u,rfl,rfl⟩:=part_of pu;refine⟨"str",_,F.slot_str_getitem.lookup,typeIs_str _ _ _,?_⟩;refine wpAny_getItem_str_slice (l:=l) (u:=u) (st:=none) hs rfl (post_val_or_str ⟨bU (Txt.slice_le z _ _) hz,λt' k=>?_⟩);exact⟨.str _,H,I.kept (t':=k) λb ob q=>q,⟨t',rfl⟩,q⟩
end
end L2
namespace cU
open PySem L2
def top (i:Nat):Stmt:=PySem.Challenge.pw_everyplan_k12_parts_at_ways.main.body.getD i (.Pass ⟨0,0,0,0⟩)
abbrev vV:Stmt:=top 1
abbrev vW:Stmt:=top 3
abbrev vX:Stmt:=top 7
abbrev vY:Stmt:=top 8
abbrev vZ:Stmt:=top 9
abbrev v7:Stmt:=top 10
abbrev v8:Stmt:=top 11
abbrev v9:Stmt:=top 12
abbrev v_:Stmt:=top 13
abbrev wa:Stmt:=top 15
abbrev wb:Stmt:=top 16
abbrev wc:Stmt:=top 17
abbrev wg:Stmt:=top 18
abbrev wj:Stmt:=top 19
abbrev wk:Stmt:=top 20
abbrev wm:Stmt:=top 21
abbrev wo:Stmt:=top 22
abbrev wq:Stmt:=top 23
abbrev wt:Stmt:=top 24
abbrev wu:Stmt:=top 25
abbrev wz:Stmt:=top 26
abbrev wB:Stmt:=top 27
abbrev wD:Stmt:=top 28
abbrev wF:Stmt:=top 29
abbrev wG:Stmt:=top 30
abbrev wH:Stmt:=top 31
abbrev wI:Stmt:=top 32
abbrev wJ:Stmt:=top 33
abbrev wK:Stmt:=top 34
abbrev wL:Stmt:=top 35
abbrev wM:Stmt:=top 36
abbrev wN:Stmt:=top 37
abbrev wO:Stmt:=top 38
abbrev wQ:Stmt:=top 39
abbrev wR:Stmt:=top 40
abbrev wU:Stmt:=top 41
abbrev wV:Stmt:=top 42
abbrev wW:Stmt:=top 43
abbrev wX:Stmt:=top 44
abbrev lh:Stmt:=top 45
structure Bt (mg:aZ):Prop where
 abs:mg "abs"=none
 bool:mg "bool"=none
 dict:mg "dict"=none
 enumerate:mg "enumerate"=none
 int:mg "int"=none
 isinstance:mg "isinstance"=none
 len:mg "len"=none
 list:mg "list"=none
 max:mg "max"=none
 min:mg "min"=none
 range:mg "range"=none
 repr:mg "repr"=none
 reversed:mg "reversed"=none
 set:mg "set"=none
 sorted:mg "sorted"=none
 sum:mg "sum"=none
 tuple:mg "tuple"=none
section
variable {P:Program}{w:World}{K:Frag}{mg:aZ}{base:Heap}
theorem BZ:bw ["_law_state","_law_most","_law_found"] ["_law_state","_law_most"] (aW wb):=by walk_at "s"
theorem NA {f:Addr}{fd:FuncData}(F:fB K "_law_digit" "_law_digit" wb f fd)(B:Bt mg):cT P w K mg base dq 1 f fd ["_law_state","_law_most"] (j5 K):=by
 refine F.ok BZ (λvs H Q E h=>?_) (λaE A outer s H vs Q E hr h=>?_)
 ·obtain⟨d,a,n,D,m,rfl,_⟩:=h;rfl
 obtain⟨d,a,n,D,m,rfl,S,Sc,hn,hm,a_,q⟩:=h;have hu:=gB hr
 refine⟨_,eO (A0 PassesOwn.never
   ((AU (kW A9 (f7 hu (pv 0) cR (λ_ _=>rfl)) cQ (e_ _))
    (AR (kW qB (f7 hu (pv 0) cR (λ_ _=>rfl)) (hU oF (by rfl) B.len PySem.boot_len (b7 (f7 hu (pv 0) cR (λ_ _=>rfl)) cN)) (e_ _)))).pt)
   (eO (jW hu (pv 0) cR (hU Lp (by rfl) B.abs PyProof.Rows.boot_abs (b7 (qT qU (f7 hu (pv 0) cR (λ_ _=>rfl)) (f7 hu (pv 0) cR (λ_ _=>rfl)) (λ_ _=>rfl)) cN)) rfl)
   (jg (jW hu (pv 0) cR (cX jR (f7 hu (pv 0) cR (λ_ _=>rfl)) cQ) rfl))))
  (eO (gu (i:=2) BZ.nd rfl (Or.inl rfl) (cX jS (f7 hu (pv 0) cR (λ_ _=>rfl)) (pv 1)))
  (eO (jW hu (pv 0) cR (cX vG (f7 hu (pv 0) cR (λ_ _=>rfl)) (pv 1)) rfl)
  (jg (jN (pv 2))))),?_⟩
 obtain⟨ns,hS,hl⟩:=Sc;obtain⟨B0,B1⟩:=S.dk;obtain⟨t,l,wy,hd,h1,h2,h3⟩:=S.ex
 refine⟨λk σ H1=>∃(t l:Int),σ=[some (.ref d),some (.int m),none]/\cz d H H1/\H1 d=some (.dK (SK.zip (SV a t l wy D)))/\1<=t/\t<=(n:Int)+64/\0<=l/\k=((n:Int)+64-t).toNat,
  ⟨_,t,l,rfl,cz.refl _ _,hd,h1,h2,h3,rfl⟩,?_⟩
 rintro k σ H1 ⟨t,l,rfl,b1,hd,h1,h2,h3,rfl⟩;refine⟨_,rfl,d,_,rfl,fM (i:=2) hd rfl rfl,rfl,_,rfl,?_⟩;refine oN (λc1=>?_) (λc1=>?_)
 ·refine⟨_,rfl,d,_,rfl,fM (i:=1) hd rfl rfl,_,rfl,d,_,rfl,fM (i:=0) hd rfl rfl,a,_,rfl,.inl (b1.seq B1 hS),_,_,rfl,rfl,_,rfl,?_⟩;refine oN (λc2=>?_) (λc2=>?_)
  ·have B3:t<((ns.map V.int).length:Int):=of_decide_eq_true c2;rw[length_map] at B3;obtain⟨v,hv⟩:=vN (ns:=ns) (k:=t) (by omega) B3;refine⟨λaH H'=>∃(t' l':Int),aH=[some (.ref d),some (.int m),none]/\cz d H H'/\H' d=some (.dK (SK.zip (SV a t' l' wy D)))/\t'=t+1/\0<=l',λaH H' ⟨t',l',e1,b2,e2,e3,e4⟩=>⟨_,by omega,t',l',e1,b2,e2,by omega,by omega,e4,rfl⟩,?_⟩;refine⟨_,rfl,d,_,rfl,fM (i:=0) hd rfl rfl,_,rfl,d,_,rfl,fM (i:=1) hd rfl rfl,a,_,_,_,rfl,rfl,b1.seq B1 hS,hv,v,rfl,_,rfl,d,_,rfl,dput (i:=2) hd rfl rfl,?_⟩;have hd2:(upd H1 d (.dK (SK.zip ((SV a t l wy D).set 2 (.int (if v<0 then -v else v)))))) d=some (.dK (SK.zip (SV a t (if v<0 then -v else v) wy D))):=bD;refine⟨_,rfl,d,_,rfl,fM (i:=1) hd2 rfl rfl,_,_,rfl,rfl,_,rfl,d,_,rfl,dput (i:=1) hd2 rfl rfl,?_⟩;exact⟨t+1,_,rfl,(b1.upd _).upd _,bD,rfl,by split<;>omega⟩
  ·refine⟨_,rfl,d,_,rfl,fM (i:=2) hd rfl rfl,_,rfl,_,_,rfl,rfl,hm,?_⟩;refine⟨_,rfl,d,_,rfl,fM (i:=2) hd rfl rfl,_,rfl,_,_,rfl,rfl,⟨hm,a_⟩,_,rfl,d,_,rfl,dput (i:=2) hd rfl rfl,_,rfl,?_⟩;exact q (l % m) _ (Int.emod_nonneg _ (by omega)) (Int.emod_lt_of_pos _ hm) ⟨⟨t,l / m,wy,bD,h1,by omega,Int.ediv_nonneg h3 (by omega)⟩,S.vM (b1.upd _) rfl⟩ (b1.upd _)
 ·refine⟨_,rfl,d,_,rfl,fM (i:=2) hd rfl rfl,_,rfl,_,_,rfl,rfl,hm,?_⟩;refine⟨_,rfl,d,_,rfl,fM (i:=2) hd rfl rfl,_,rfl,_,_,rfl,rfl,⟨hm,a_⟩,_,rfl,d,_,rfl,dput (i:=2) hd rfl rfl,_,rfl,?_⟩;exact q (l % m) _ (Int.emod_nonneg _ (by omega)) (Int.emod_lt_of_pos _ hm) ⟨⟨t,l / m,wy,bD,h1,by omega,Int.ediv_nonneg h3 (by omega)⟩,S.vM (b1.upd _) rfl⟩ (b1.upd _)
theorem mD:bw ["_law_state","_law_most","_law_script","_law_at","_law_cell"] ["_law_state","_law_most"] (aW wc):=by walk_at "s"
theorem NB {f:Addr}{fd:FuncData}(F:fB K "_law_mixed" "_law_mixed" wc f fd)(B:Bt mg):cT P w K mg base dq 1 f fd ["_law_state","_law_most"] (j5 K):=by
 refine F.ok mD (λvs H Q E h=>?_) (λaE A outer s H vs Q E hr h=>?_)
 ·obtain⟨d,a,n,D,m,rfl,_⟩:=h;rfl
 obtain⟨d,a,n,D,m,rfl,S,Sc,hn,hm,a_,q⟩:=h;have hu:=gB hr
 refine⟨_,eO (gu (i:=2) mD.nd rfl (Or.inl rfl) (f7 hu (pv 0) cR (λ_ _=>rfl)))
  (eO (gu (i:=3) mD.nd rfl (Or.inl rfl) (f7 hu (pv 0) cR (λ_ _=>rfl)))
  (eO (jW hu (pv 0) cR (cX jR (pv 3) cQ) rfl)
  (eO (gu (i:=4) mD.nd rfl (Or.inl rfl) (cX jR (cX kU (cX kU (pv 3) (pv 3)) cQ) cQ))
  (eO (qr (kW qD (hU oF (by rfl) B.len PySem.boot_len (b7 (pv 2) cN)) cQ (e_ _))
   (jg (gu (i:=4) mD.nd rfl (Or.inl rfl) (cX jR (pv 4) (cX kU (cX jS (qT qU (pv 2) (cX jS (pv 3) (hU oF (by rfl) B.len PySem.boot_len (b7 (pv 2) cN))) (λ_ _=>rfl)) cQ)
    (cX jR cQ (cX vG (pv 3) (hU oF (by rfl) B.len PySem.boot_len (b7 (pv 2) cN)))))))) qq)
  (eO (gu (i:=4) mD.nd rfl (Or.inl rfl) (cX jS (cX kU (pv 4) cQ) cQ))
  (jg (jN (cX jS (cX K3 (cX jS (cX jR (cX jR (cX kU (pv 4) (pv 4)) (cX kU cQ (pv 4))) (pv 3)) cQ) cQ) (pv 1))))))))),?_⟩
 obtain⟨ns,hS,hl⟩:=Sc;obtain⟨t,l,wy,hd,h1,h2,h3⟩:=S.ex;have b1:cz d H (upd H d (.dK (SK.zip ((SV a t l wy D).set 1 (.int (t+1)))))):=(cz.refl d H).upd _;have rq:=b1.seq hd hS;refine⟨_,rfl,d,_,rfl,fM (i:=0) hd rfl rfl,_,rfl,d,_,rfl,fM (i:=1) hd rfl rfl,_,rfl,_,_,rfl,rfl,_,rfl,d,_,rfl,dput (i:=1) hd rfl rfl,?_⟩;refine⟨_,rfl,_,rfl,_,_,rfl,rfl,.inl ⟨by omega,by omega⟩,_,_,rfl,rfl,.inr ⟨by decide,by decide⟩,_,_,rfl,rfl,?_⟩;refine⟨_,rfl,a,_,rfl,.inl rq,_,_,rfl,rfl,_,rfl,?_⟩;have fin:∀ c:Int,q=q->(0<=c % 2147483629/\c % 2147483629<2147483629):=λc _=>⟨Int.emod_nonneg _ (by decide),Int.emod_lt_of_pos _ (by decide)⟩;have S1:cE (upd H d (.dK (SK.zip ((SV a t l wy D).set 1 (.int (t+1)))))) d a (n+1) D:=⟨⟨t+1,l,wy,bD,by omega,by omega,h3⟩,S.vM b1 rfl⟩;refine oN (λc=>?_) (λc=>?_)
 ·have c':(0:Int)<((ns.map V.int).length:Int):=of_decide_eq_true c;have hlen:((ns.map V.int).length:Int)=(ns.length:Int):=by rw[length_map]
  have p1:0<=t % ((ns.map V.int).length:Int):=Int.emod_nonneg _ (by omega);have p2:t % ((ns.map V.int).length:Int)<((ns.map V.int).length:Int):=Int.emod_lt_of_pos _ c';obtain⟨v,hv⟩:=vN (ns:=ns) (k:=t % ((ns.map V.int).length:Int)) p1 (by omega);have p3:0<=v % 2147483647/\v % 2147483647<2147483647:=⟨Int.emod_nonneg _ (by decide),Int.emod_lt_of_pos _ (by decide)⟩;refine⟨_,rfl,_,rfl,_,rfl,_,rfl,a,_,rfl,.inl rq,_,_,rfl,rfl,c',a,_,_,_,rfl,rfl,rq,hv,_,_,rfl,rfl,(by show(0:Int)<2147483647;decide),_,rfl,_,rfl,a,_,rfl,.inl rq,_,_,rfl,rfl,⟨c',by omega⟩,_,_,rfl,rfl,_,_,rfl,rfl,.inl ⟨by omega,by omega⟩,_,_,rfl,rfl,?_⟩;refine⟨_,rfl,_,_,rfl,rfl,.inr ⟨by decide,by decide⟩,_,_,rfl,rfl,(by show(0:Int)<2147483629;decide),?_⟩;have f1:=fin ((t*t*7919+11+v % 2147483647*(1+t / ((ns.map V.int).length:Int)))*48271) rfl;refine⟨_,rfl,_,rfl,_,_,rfl,rfl,.inl ⟨by omega,by omega⟩,_,rfl,_,_,rfl,rfl,.inl ⟨by decide,by decide⟩,_,_,rfl,rfl,_,rfl,_,_,rfl,rfl,_,_,rfl,rfl,(by show(0:Int)<2147483587;decide),_,_,rfl,rfl,⟨by decide,by decide⟩,_,rfl,_,_,rfl,rfl,hm,?_⟩;exact q _ _ (Int.emod_nonneg _ (by omega)) (Int.emod_lt_of_pos _ hm) S1 b1
 ·refine⟨_,rfl,_,_,rfl,rfl,.inr ⟨by decide,by decide⟩,_,_,rfl,rfl,(by show(0:Int)<2147483629;decide),?_⟩;have f1:=fin ((t*t*7919+11)*48271) rfl;refine⟨_,rfl,_,rfl,_,_,rfl,rfl,.inl ⟨by omega,by omega⟩,_,rfl,_,_,rfl,rfl,.inl ⟨by decide,by decide⟩,_,_,rfl,rfl,_,rfl,_,_,rfl,rfl,_,_,rfl,rfl,(by show(0:Int)<2147483587;decide),_,_,rfl,rfl,⟨by decide,by decide⟩,_,rfl,_,_,rfl,rfl,hm,?_⟩;exact q _ _ (Int.emod_nonneg _ (by omega)) (Int.emod_lt_of_pos _ hm) S1 b1
theorem NC:bw ["_law_state","_law_most"] ["_law_state","_law_most"] (aW wg):=by walk_at "s"
theorem ND {f g h:Addr}{fd gd hd:FuncData}(F:fB K "_law_take" "_law_take" wg f fd)(G:cT P w K mg base dq 1 g gd ["_law_state","_law_most"] (j5 K))(bG:Binds K gd ["_law_state","_law_most"] [])(kG:PySem.W.keepIn K (.ref g)=true)(mG:mg "_law_digit"=some (.ref g))
  (G2:cT P w K mg base dq 1 h hd ["_law_state","_law_most"] (j5 K))(NF:Binds K hd ["_law_state","_law_most"] [])(NG:PySem.W.keepIn K (.ref h)=true)(NH:mg "_law_mixed"=some (.ref h)) :
  cT P w K mg base dq 2 f fd ["_law_state","_law_most"] (j5 K):=by
 refine F.ok NC (λvs H Q E h=>?_) (λaE A outer s H vs Q E hr h=>?_)
 ·obtain⟨d,a,n,D,m,rfl,_⟩:=h;rfl
 obtain⟨d,a,n,D,m,rfl,S,Sc,hn,hm,a_,q⟩:=h;have hu:=gB hr
 refine⟨_,eO (qr (kW A9 (f7 hu (pv 0) cR (λ_ _=>rfl)) cQ (e_ _)) (jg (jN (kZ G hr rfl mG kG bG .nil k_ (b7 (pv 0) (b7 (pv 1) cN))))) qq)
  (jg (jN (kZ G2 hr rfl NH NG NF .nil k_ (b7 (pv 0) (b7 (pv 1) cN))))),?_⟩
 obtain⟨t,l,wy,hd,h1,h2,h3⟩:=S.ex;refine⟨_,rfl,d,_,rfl,fM (i:=3) hd rfl rfl,rfl,_,rfl,?_⟩;refine oN (λc=>?_) (λc=>?_)
 ·exact⟨_,rfl,_,rfl,d,a,n,D,m,rfl,S,Sc,hn,hm,a_,q⟩
 ·exact⟨_,rfl,_,rfl,d,a,n,D,m,rfl,S,Sc,hn,hm,a_,q⟩
end
open PySem.W PyProof.Rows
abbrev eF:Program:=PySem.Challenge.pw_everyplan_k12_parts_at_ways
set_option maxHeartbeats 0 in
theorem NI:PySem.Challenge.rw_everyplan_k12_parts_at_ways.wellSaid=true:=by kernel_rfl
def NJ (l:List Stmt):List Stmt:=l.filter λs=>match s with
 |.Assign [.Name x _] _ _=>!(x==("__name__":Str))
 |_=>true
def j6:Program:={ eF with main:={ eF.main with body:=NJ eF.main.body } }
abbrev rA:aq:=["ASK_SIZES","COND_PLACES"]
abbrev aV (P:Params)(k:Str)(t:Tok)(v:Value):DictEntry:=.mk (PyData.keyHash P k) (.str k t) v
abbrev B4 (n q:Str)(s:Stmt):=FuncData.mk n q (L2.iP s) (FuncBody.stmts (L2.fA s)) (L2.aW s)
abbrev oR:Life:=.mk [] [] [] 0 [] [] false #[] [] 0 false false false 0 [2000,10,10] false 0 true [] [] 0 false
noncomputable def o3 (P:Params):Obj:=(Obj.mk (.type "dict") none (Data.dict (toArray ((aV P "__name__" 165 (.str "law_everyplan_k12_parts_at_ways" 334))::(aV P "__doc__" 166 .none)::(aV P "__package__" 167 .none)::(aV P "__loader__" 168 (.builtin "__main__.__loader__#opaque"))::(aV P "__spec__" 169 .none)::(aV P "__annotations__" 170 (.ref 6))::(aV P "__builtins__" 171 (.ref 4))::(aV P "__file__" 173 (.str "/claim/cut.py" 172))::(aV P "__cached__" 174 .none)::(aV P "is_whole" 195 (.ref 21))::(aV P "replaced" 209 (.ref 28))::(aV P "ASK_SIZES" 256 (.ref 29))::(aV P "COND_PLACES" 272 (.ref 41))::(aV P "asks_within" 279 (.ref 48))::(aV P "some_paths" 291 (.ref 55))::(aV P "child_paths" 297 (.ref 60))::(aV P "children" 303 (.ref 65))::(aV P "path_to" 314 (.ref 72))::(aV P "part_at" 323 (.ref 79))::(aV P "with_part" 333 (.ref 86))::(aV P "_law_begin" 344 (.ref 93))::(aV P "_law_digit" 353 (.ref 100))::(aV P "_law_mixed" 364 (.ref 107))::(aV P "_law_take" 372 (.ref 114))::(aV P "_law_word" 380 (.ref 121))::(aV P "_law_new" 388 (.ref 128))::(aV P "_law_merged" 397 (.ref 135))::(aV P "_law_value" 406 (.ref 142))::(aV P "_law_world" 412 (.ref 147))::(aV P "_law_sum" 418 (.ref 152))::(aV P "_law_kind" 424 (.ref 157))::(aV P "_law_cond" 440 (.ref 164))::(aV P "_law_meeting" 446 (.ref 169))::(aV P "_law_part" 452 (.ref 174))::(aV P "_law_shown" 470 (.ref 181))::(aV P "_law_both" 487 (.ref 188))::(aV P "_law_grouped" 493 (.ref 193))::(aV P "_law_keys" 504 (.ref 200))::(aV P "_law_ask" 517 (.ref 207))::(aV P "_law_added" 536 (.ref 214))::(aV P "_law_somes" 545 (.ref 221))::(aV P "_law_children" 552 (.ref 228))::(aV P "_law_cond_with" 565 (.ref 235))::(aV P "_law_with" 578 (.ref 242))::(aV P "_law_way" 589 (.ref 249))::(aV P "_law_along" 599 (.ref 256))::(aV P "_law_many" 605 (.ref 261))::(aV P "_law_twice_right" 619 (.ref 268))::(aV P "_law_joined" 628 (.ref 275))::(aV P "_law_somes_right" 643 (.ref 282))::(aV P "law" 649 (.ref 287))::[])) 51) #[])
def q1:Obj:=(Obj.mk (.type "tuple") none (Data.seq #[] 0) #[])
noncomputable def rB:aC:=([(2,20),(5,27),(16,47),(18,54),(33,59),(39,64),(41,71),(52,78),(55,85),(59,92),(66,99),(73,106),(82,113),(86,120),(88,127),(92,134),(96,141),(103,146),(116,151),(129,156),(132,163),(148,168),(160,173),(165,180),(180,187),(189,192),(202,199),(208,206),(226,213),(236,220),(244,227),(254,234),(266,241),(275,248),(283,255),(293,260),(295,267),(310,274),(315,281),(328,286)]:List (Int×Nat)).flatMap λp=>[.int p.1 0,.int 0 0,.ref p.2]
noncomputable def oS:Obj:=(Obj.mk .none none (Data.fields (toArray rB)) #[])
def q2:Obj:=(Obj.mk .none none (Data.fields #[]) #[])
def NK:=q2
def q3 (x0:Str)(x1:Nat):Obj:=(Obj.mk (.type "tuple") none (Data.seq (toArray ((.str x0 x1)::[])) 0) #[])
def q4 (x0:Str)(x1:Nat):Obj:=(Obj.mk .none none (Data.func (B4 x0 x0 (top x1) 0 [] .none .none .none .none none .none .none 0)) #[])
def q5 (x0:Str)(x1:Nat)(x2:Nat)(x3:Nat)(x4:Int)(x5:Int)(x6:Nat)(x7:Nat)(x8:Nat)(x9:Nat)(oT:Nat)(wY:Int)(wZ:Nat):Obj:=(Obj.mk (.type "code") none (Data.fields (toArray ((.str x0 x1)::((.str x0 x2)::((.str "/claim/cut.py" x3)::((.int x4 0)::((.int x5 0)::((.int 0 0)::((.int 0 0)::((.int 3 0)::((.ref x6)::((.bool true)::((.int 181 0)::((.ref x7)::(.none::((.ref x8)::((.ref x9)::((.ref oT)::((.int wY 0)::((.int x4 0)::((.str "/claim/cut.py" wZ)::[]))))))))))))))))))))) #[])
def B5:=q5 "is_whole" 189 190 191 2 1 15 16 17 18 19 193 194
def B6:=q5 "replaced" 198 199 200 5 3 22 23 24 25 26 207 208
def B7:=q5 "asks_within" 273 274 275 16 1 42 43 44 45 46 277 278
def B8:=q5 "some_paths" 280 281 282 18 2 49 50 51 52 53 289 290
def B9:=q5 "path_to" 304 305 306 41 2 66 67 68 69 70 312 313
def B_:=q5 "part_at" 315 316 317 52 2 73 74 75 76 77 321 322
def Ca:=q5 "with_part" 324 325 326 55 3 80 81 82 83 84 331 332
def Cb:=q5 "_law_begin" 336 337 338 59 1 87 88 89 90 91 342 343
def Cc:=q5 "_law_digit" 345 346 347 66 2 94 95 96 97 98 351 352
def Ce:=q5 "_law_mixed" 354 355 356 73 2 101 102 103 104 105 362 363
def Cf:=q5 "_law_take" 365 366 367 82 2 108 109 110 111 112 370 371
def Cg:=q5 "_law_word" 373 374 375 86 2 115 116 117 118 119 378 379
def Ci:=q5 "_law_new" 381 382 383 88 1 122 123 124 125 126 386 387
def Cj:=q5 "_law_merged" 389 390 391 92 2 129 130 131 132 133 395 396
def Ck:=q5 "_law_value" 398 399 400 96 2 136 137 138 139 140 404 405
def Cm:=q5 "_law_cond" 425 426 427 132 4 158 159 160 161 162 438 439
def Cn:=q5 "_law_shown" 453 454 455 165 3 175 176 177 178 179 468 469
def Co:=q5 "_law_both" 471 472 473 180 4 182 183 184 185 186 485 486
def Cp:=q5 "_law_keys" 494 495 496 202 2 194 195 196 197 198 502 503
def Cq:=q5 "_law_ask" 505 506 507 208 3 201 202 203 204 205 515 516
def Cr:=q5 "_law_added" 518 519 520 226 3 208 209 210 211 212 534 535
def Cs:=q5 "_law_somes" 537 538 539 236 1 215 216 217 218 219 543 544
def Ct:=q5 "_law_children" 546 547 548 244 1 222 223 224 225 226 550 551
def Cu:=q5 "_law_cond_with" 553 554 555 254 3 229 230 231 232 233 563 564
def Cv:=q5 "_law_with" 566 567 568 266 3 236 237 238 239 240 576 577
def Cw:=q5 "_law_way" 579 580 581 275 2 243 244 245 246 247 587 588
def Cy:=q5 "_law_along" 590 591 592 283 2 250 251 252 253 254 597 598
def Cz:=q5 "_law_twice_right" 606 607 608 295 2 262 263 264 265 266 617 618
def CA:=q5 "_law_joined" 620 621 622 310 2 269 270 271 272 273 626 627
def CB:=q5 "_law_somes_right" 629 630 631 315 5 276 277 278 279 280 641 642
def q6 (x0:Str)(x1:Nat)(x2:Str)(x3:Nat)(x4:Nat):Obj:=(Obj.mk (.type "function") none (Data.func (B4 x0 x0 (top x1) 3 [] .none .none .none (.str x2 x3) none (.ref x4) .none 0)) #[])
def CC:=q6 "is_whole" 1 "everyplan.values" 187 20
def CD:=q6 "replaced" 3 "everyplan.walks" 196 27
def CF:=q6 "asks_within" 7 "everyplan.asks" 210 47
def CG:=q6 "some_paths" 8 "everyplan.asks" 210 54
def CH:=q6 "child_paths" 9 "everyplan.asks" 210 59
def CI:=q6 "children" 10 "everyplan.asks" 210 64
def CJ:=q6 "path_to" 11 "everyplan.asks" 210 71
def CK:=q6 "part_at" 12 "everyplan.asks" 210 78
def CL:=q6 "with_part" 13 "everyplan.asks" 210 85
def CM:=q6 "_law_begin" 15 "law_everyplan_k12_parts_at_ways" 334 92
def CN:=q6 "_law_digit" 16 "law_everyplan_k12_parts_at_ways" 334 99
def CO:=q6 "_law_mixed" 17 "law_everyplan_k12_parts_at_ways" 334 106
def CP:=q6 "_law_take" 18 "law_everyplan_k12_parts_at_ways" 334 113
def CQ:=q6 "_law_word" 19 "law_everyplan_k12_parts_at_ways" 334 120
def CS:=q6 "_law_new" 20 "law_everyplan_k12_parts_at_ways" 334 127
def CT:=q6 "_law_merged" 21 "law_everyplan_k12_parts_at_ways" 334 134
def CU:=q6 "_law_value" 22 "law_everyplan_k12_parts_at_ways" 334 141
def CV:=q6 "_law_world" 23 "law_everyplan_k12_parts_at_ways" 334 146
def CW:=q6 "_law_sum" 24 "law_everyplan_k12_parts_at_ways" 334 151
def CY:=q6 "_law_kind" 25 "law_everyplan_k12_parts_at_ways" 334 156
def CZ:=q6 "_law_cond" 26 "law_everyplan_k12_parts_at_ways" 334 163
def C0:=q6 "_law_meeting" 27 "law_everyplan_k12_parts_at_ways" 334 168
def C1:=q6 "_law_part" 28 "law_everyplan_k12_parts_at_ways" 334 173
def C2:=q6 "_law_shown" 29 "law_everyplan_k12_parts_at_ways" 334 180
def C3:=q6 "_law_both" 30 "law_everyplan_k12_parts_at_ways" 334 187
def C4:=q6 "_law_grouped" 31 "law_everyplan_k12_parts_at_ways" 334 192
def C5:=q6 "_law_keys" 32 "law_everyplan_k12_parts_at_ways" 334 199
def C6:=q6 "_law_ask" 33 "law_everyplan_k12_parts_at_ways" 334 206
def C7:=q6 "_law_added" 34 "law_everyplan_k12_parts_at_ways" 334 213
def C8:=q6 "_law_somes" 35 "law_everyplan_k12_parts_at_ways" 334 220
def C9:=q6 "_law_children" 36 "law_everyplan_k12_parts_at_ways" 334 227
def C_:=q6 "_law_cond_with" 37 "law_everyplan_k12_parts_at_ways" 334 234
def Dc:=q6 "_law_with" 38 "law_everyplan_k12_parts_at_ways" 334 241
def Dd:=q6 "_law_way" 39 "law_everyplan_k12_parts_at_ways" 334 248
def De:=q6 "_law_along" 40 "law_everyplan_k12_parts_at_ways" 334 255
def Dg:=q6 "_law_many" 41 "law_everyplan_k12_parts_at_ways" 334 260
def Dh:=q6 "_law_twice_right" 42 "law_everyplan_k12_parts_at_ways" 334 267
def Di:=q6 "_law_joined" 43 "law_everyplan_k12_parts_at_ways" 334 274
def Dj:=q6 "_law_somes_right" 44 "law_everyplan_k12_parts_at_ways" 334 281
def Dk:=q6 "law" 45 "law_everyplan_k12_parts_at_ways" 334 286
def Dl (P:Params):Obj:=(Obj.mk (.type "dict") none (Data.dict (toArray ((aV P "table" 212 (.ref 30))::((aV P "pick" 215 (.ref 31))::((aV P "show" 218 (.ref 32))::((aV P "join" 221 (.ref 33))::((aV P "left" 224 (.ref 34))::((aV P "half" 227 (.ref 35))::((aV P "lack" 230 (.ref 36))::((aV P "once" 233 (.ref 37))::((aV P "group" 236 (.ref 38))::((aV P "add" 239 (.ref 39))::((aV P "first" 242 (.ref 40))::[])))))))))))) 11) #[])
def q7 (x0:Int)(x1:Nat)(x2:Int)(x3:Nat):Obj:=(Obj.mk (.type "tuple") none (Data.seq (toArray ((.int x0 x1)::((.int x2 x3)::[]))) 0) #[])
def Dm:=q7 3 213 0 214
def Dn:=q7 3 216 1 217
def Dq:=q7 3 219 1 220
def Dr:=q7 4 222 2 223
def Ds:=q7 4 225 2 226
def Dt:=q7 4 228 2 229
def Du:=q7 4 231 2 232
def Dv:=q7 2 234 1 235
def Dw:=q7 4 237 1 238
def Dx:=q7 3 240 2 241
def Dy:=q7 4 243 1 244
def Dz (P:Params):Obj:=(Obj.mk (.type "dict") none (Data.dict (toArray ((aV P "pick" 257 (.int 2 258))::((aV P "join" 259 (.int 3 260))::((aV P "left" 261 (.int 3 262))::((aV P "half" 263 (.int 3 264))::((aV P "lack" 265 (.int 3 266))::[])))))) 5) #[])
def q8 (x0:Str)(x1:Nat)(x2:Nat)(x3:Nat)(x4:Int)(x5:Int)(x6:Nat)(x7:Nat)(x8:Nat)(x9:Int)(oT:Nat):Obj:=(Obj.mk (.type "code") none (Data.fields (toArray ((.str x0 x1)::((.str x0 x2)::((.str "/claim/cut.py" x3)::((.int x4 0)::((.int x5 0)::((.int 0 0)::((.int 0 0)::((.int 3 0)::((.ref x6)::((.bool true)::((.int 181 0)::((.ref x7)::(.none::(.none::(.none::((.ref x8)::((.int x9 0)::((.int x4 0)::((.str "/claim/cut.py" oT)::[]))))))))))))))))))))) #[])
def DA:=q8 "child_paths" 292 293 294 33 1 56 57 58 295 296
def DB:=q8 "children" 298 299 300 39 1 61 62 63 301 302
def DC:=q8 "_law_world" 407 408 409 103 1 143 144 145 410 411
def DF:=q8 "_law_sum" 413 414 415 116 4 148 149 150 416 417
def DG:=q8 "_law_kind" 419 420 421 129 2 153 154 155 422 423
def DH:=q8 "_law_meeting" 441 442 443 148 4 165 166 167 444 445
def DI:=q8 "_law_part" 447 448 449 160 2 170 171 172 450 451
def DJ:=q8 "_law_grouped" 488 489 490 189 3 189 190 191 491 492
def DK:=q8 "_law_many" 600 601 602 293 1 257 258 259 603 604
def DL:=q8 "law" 644 645 646 328 1 283 284 285 647 648
def q9 (x0:Str)(x1:Nat)(x2:Str)(x3:Nat)(x4:Str)(x5:Nat)(x6:Str)(x7:Nat)(x8:Str)(x9:Nat):Obj:=(Obj.mk (.type "tuple") none (Data.seq (toArray ((.str x0 x1)::((.str x2 x3)::((.str x4 x5)::((.str x6 x7)::((.str x8 x9)::[])))))) 0) #[])
def f' (x0:Str)(x1:Nat)(x2:Str)(x3:Nat)(x4:Str)(x5:Nat):Obj:=(Obj.mk (.type "tuple") none (Data.seq (toArray ((.str x0 x1)::((.str x2 x3)::((.str x4 x5)::[])))) 0) #[])
def mE (x0:Nat)(x1:Str)(x2:Nat):Obj:=(Obj.mk (.type "tuple") none (Data.seq (toArray ((.str "_law_state" x0)::((.str x1 x2)::[]))) 0) #[])
def lj (x0:Str)(x1:Nat)(x2:Str)(x3:Nat)(x4:Str)(x5:Nat)(x6:Str)(x7:Nat)(x8:Str)(x9:Nat)(oT:Str)(wY:Nat)(wZ:Str)(NL:Nat):Obj:=(Obj.mk (.type "tuple") none (Data.seq (toArray ((.str x0 x1)::((.str x2 x3)::((.str x4 x5)::((.str x6 x7)::((.str x8 x9)::((.str oT wY)::((.str wZ NL)::[])))))))) 0) #[])
noncomputable def NM (P:Params):Obj:=match o3 P with
 |⟨a,b,.dict l _,s⟩=>⟨a,b,.dict ((aV P "__name__" 165 (.str "everyplan.asks" 210))::(l.toList.drop 1).take 12).toArray 13,s⟩
 |o=>o
noncomputable def NN:Obj:=(Obj.mk .none none (Data.fields (toArray (rB.take 6))) #[])
noncomputable def NO (P:Params):Obj:=match o3 P with
 |⟨a,b,.dict l _,s⟩=>⟨a,b,.dict (l.toList.take 25).toArray 25,s⟩
 |o=>o
noncomputable def NP:Obj:=(Obj.mk .none none (Data.fields (toArray (rB.take 42))) #[])
noncomputable def NQ (P:Params):Obj:=match o3 P with
 |⟨a,b,.dict l _,s⟩=>⟨a,b,.dict (l.toList.take 38).toArray 38,s⟩
 |o=>o
noncomputable def NR:Obj:=(Obj.mk .none none (Data.fields (toArray (rB.take 81))) #[])
noncomputable def rC (P:Params)(v3:Obj)(NS:Obj)(l:List Obj):List Obj:=(W.boot_o_0 P)::(W.boot_o_1 P)::(W.boot_o_2 P)::v3::(W.boot_o_4 P)::(W.boot_o_5 P)::(W.boot_o_6 P)::(W.boot_o_7 P)::(W.boot_o_8 P)::(W.boot_o_9 P)::(W.boot_o_10 P)::(q1 )::NS::(Obj.mk (.type "code") none (Data.fields (toArray ((.str "<module>" 182)::((.str "<module>" 183)::((.str "/claim/cut.py" 184)::((.int 1 0)::((.int 0 0)::((.int 0 0)::((.int 0 0)::((.int 0 0)::((.ref 11)::((.bool false)::((.int 181 0)::((.ref 12)::(.none::(.none::(.none::(.none::((.int 185 0)::((.int 1 0)::((.str "/claim/cut.py" 186)::[]))))))))))))))))))))) #[])::(Obj.mk (.type "frame") none Data.plain (toArray ((some (.ref 13))::((some (.ref 3))::((some (.ref 3))::(none::((some (.str "__main__" 164))::(none::((some (.ref 0))::[])))))))))::(q1 )::(q2 )::(q3 "thing" 192)::(q1 )::(q4 "is_whole" 1)::B5::CC::(q1 )::(q2 )::(Obj.mk (.type "tuple") none (Data.seq (toArray ((.str "thing" 201)::((.str "path" 202)::((.str "other" 203)::((.str "passed" 204)::((.str "place" 205)::((.str "around" 206)::[]))))))) 0) #[])::(q1 )::(q4 "replaced" 3)::B6::CD::Dl P::Dm::Dn::Dq::Dr::Ds::Dt::Du::Dv::Dw::Dx::Dy::Dz P::l
noncomputable def w6 (P:Params)(l:List Obj):List Obj:=(q1 )::(q2 )::(q3 "ask" 276)::(q1 )::(q4 "asks_within" 7)::B7::CF::(q1 )::(q2 )::(Obj.mk (.type "tuple") none (Data.seq (toArray ((.str "cond" 283)::((.str "path" 284)::((.str "found" 285)::((.str "left" 286)::((.str "at" 287)::((.str "part" 288)::[]))))))) 0) #[])::(q1 )::(q4 "some_paths" 8)::B8::CG::(q1 )::(q2 )::(q4 "child_paths" 9)::DA::CH::(q1 )::(q2 )::(q4 "children" 10)::DB::CI::(q1 )::(q2 )::(q9 "ask" 307 "way" 308 "path" 309 "number" 310 "found" 311)::(q1 )::(q4 "path_to" 11)::B9::CJ::(q1 )::(q2 )::(f' "ask" 318 "way" 319 "found" 320)::(q1 )::(q4 "part_at" 12)::B_::CK::(q1 )::(q2 )::(Obj.mk (.type "tuple") none (Data.seq (toArray ((.str "ask" 327)::((.str "way" 328)::((.str "part" 329)::((.str "found" 330)::[]))))) 0) #[])::(q1 )::(q4 "with_part" 13)::Ca::CL::(q1 )::(q2 )::(f' "_law_script" 339 "_law_way_here" 340 "_law_state" 341)::(q1 )::(q4 "_law_begin" 15)::Cb::CM::(q1 )::(q2 )::(f' "_law_state" 348 "_law_most" 349 "_law_found" 350)::(q1 )::(q4 "_law_digit" 16)::Cc::CN::(q1 )::(q2 )::(q9 "_law_state" 357 "_law_most" 358 "_law_script" 359 "_law_at" 360 "_law_cell" 361)::(q1 )::(q4 "_law_mixed" 17)::Ce::CO::(q1 )::(q2 )::(mE 368 "_law_most" 369)::(q1 )::(q4 "_law_take" 18)::Cf::CP::(q1 )::(q2 )::(mE 376 "_law_number" 377)::(q1 )::(q4 "_law_word" 19)::Cg::CQ::l
noncomputable def DM (P:Params)(l:List Obj):List Obj:=(q1 )::(q2 )::(mE 384 "_law_number" 385)::(q1 )::(q4 "_law_new" 20)::Ci::CS::(q1 )::(q2 )::(f' "_law_here" 392 "_law_row" 393 "_law_both_here" 394)::(q1 )::(q4 "_law_merged" 21)::Cj::CT::(q1 )::(q2 )::(f' "_law_state" 401 "_law_kind_here" 402 "_law_way_here" 403)::(q1 )::(q4 "_law_value" 22)::Ck::CU::(q1 )::(q2 )::(q4 "_law_world" 23)::DC::CV::(q1 )::(q2 )::(q4 "_law_sum" 24)::DF::CW::(q1 )::(q2 )::(q4 "_law_kind" 25)::DG::CY::(q1 )::(q2 )::(Obj.mk (.type "tuple") none (Data.seq (toArray ((.str "_law_state" 428)::((.str "_law_frame" 429)::((.str "_law_cols" 430)::((.str "_law_deep" 431)::((.str "_law_way_here" 432)::((.str "_law_ask_here" 433)::((.str "_law_more" 434)::((.str "_law_size" 435)::((.str "_law_one" 436)::((.str "_law_kind_here" 437)::[]))))))))))) 0) #[])::(q1 )::(q4 "_law_cond" 26)::Cm::CZ::(q1 )::(q2 )::(q4 "_law_meeting" 27)::DH::C0::(q1 )::(q2 )::(q4 "_law_part" 28)::DI::C1::(q1 )::(q2 )::(Obj.mk (.type "tuple") none (Data.seq (toArray ((.str "_law_state" 456)::((.str "_law_frame" 457)::((.str "_law_deep" 458)::((.str "_law_ask_here" 459)::((.str "_law_cols" 460)::((.str "_law_size" 461)::((.str "_law_shown_here" 462)::((.str "_law_pairs" 463)::((.str "_law_name" 464)::((.str "_law_way_here" 465)::((.str "_law_word_here" 466)::((.str "_law_turn" 467)::[]))))))))))))) 0) #[])::(q1 )::(q4 "_law_shown" 29)::Cn::C2::(q1 )::(q2 )::(Obj.mk (.type "tuple") none (Data.seq (toArray ((.str "_law_state" 474)::((.str "_law_frame" 475)::((.str "_law_word_here" 476)::((.str "_law_deep" 477)::((.str "_law_a" 478)::((.str "_law_mine" 479)::((.str "_law_one" 480)::((.str "_law_b" 481)::((.str "_law_yours" 482)::((.str "_law_other" 483)::((.str "_law_ask_here" 484)::[])))))))))))) 0) #[])::(q1 )::(q4 "_law_both" 30)::Co::C3::(q1 )::(q2 )::(q4 "_law_grouped" 31)::DJ::C4::(q1 )::(q2 )::(q9 "_law_state" 497 "_law_cols" 498 "_law_left" 499 "_law_keys_here" 500 "_law_k" 501)::(q1 )::(q4 "_law_keys" 32)::Cp::C5::l
noncomputable def NT (P:Params)(l:List Obj):List Obj:=(q1 )::(q2 )::(lj "_law_state" 508 "_law_frame" 509 "_law_deep" 510 "_law_way_here" 511 "_law_ask_here" 512 "_law_cols" 513 "_law_size" 514)::(q1 )::(q4 "_law_ask" 33)::Cq::C6::(q1 )::(q2 )::(Obj.mk (.type "tuple") none (Data.seq (toArray ((.str "_law_state" 521)::((.str "_law_frame" 522)::((.str "_law_deep" 523)::((.str "_law_ask_here" 524)::((.str "_law_cols" 525)::((.str "_law_size" 526)::((.str "_law_other" 527)::((.str "_law_others" 528)::((.str "_law_more" 529)::((.str "_law_word_here" 530)::((.str "_law_kind_here" 531)::((.str "_law_one" 532)::((.str "_law_two" 533)::[])))))))))))))) 0) #[])::(q1 )::(q4 "_law_added" 34)::Cr::C7::(q1 )::(q2 )::(f' "_law_cond_here" 540 "_law_found" 541 "_law_part_here" 542)::(q1 )::(q4 "_law_somes" 35)::Cs::C8::(q1 )::(q2 )::(q3 "_law_ask_here" 549)::(q1 )::(q4 "_law_children" 36)::Ct::C9::(q1 )::(q2 )::(lj "_law_cond_here" 556 "_law_at" 557 "_law_part_here" 558 "_law_inner" 559 "_law_left" 560 "_law_found" 561 "_law_one" 562)::(q1 )::(q4 "_law_cond_with" 37)::Cu::C_::(q1 )::(q2 )::(lj "_law_ask_here" 569 "_law_way_here" 570 "_law_part_here" 571 "_law_made" 572 "_law_sides" 573 "_law_cond_here" 574 "_law_left" 575)::(q1 )::(q4 "_law_with" 38)::Cv::Dc::(q1 )::(q2 )::(q9 "_law_state" 582 "_law_ask_here" 583 "_law_way_here" 584 "_law_k" 585 "_law_some" 586)::(q1 )::(q4 "_law_way" 39)::Cw::Dd::(q1 )::(q2 )::(Obj.mk (.type "tuple") none (Data.seq (toArray ((.str "_law_ask_here" 593)::((.str "_law_way_here" 594)::((.str "_law_step" 595)::((.str "_law_found" 596)::[]))))) 0) #[])::(q1 )::(q4 "_law_along" 40)::Cy::De::(q1 )::(q2 )::(q4 "_law_many" 41)::DK::Dg::(q1 )::(q2 )::(Obj.mk (.type "tuple") none (Data.seq (toArray ((.str "_law_ask_here" 609)::((.str "_law_other" 610)::((.str "_law_both_here" 611)::((.str "_law_twice" 612)::((.str "_law_i" 613)::((.str "_law_j" 614)::((.str "_law_sides" 615)::((.str "_law_inner" 616)::[]))))))))) 0) #[])::(q1 )::(q4 "_law_twice_right" 42)::Cz::Dh::(q1 )::(q2 )::(f' "_law_words" 623 "_law_somes_here" 624 "_law_found" 625)::(q1 )::(q4 "_law_joined" 43)::CA::Di::(q1 )::(q2 )::(Obj.mk (.type "tuple") none (Data.seq (toArray ((.str "_law_words" 632)::((.str "_law_ask_here" 633)::((.str "_law_q" 634)::((.str "_law_other" 635)::((.str "_law_many_here" 636)::((.str "_law_some" 637)::((.str "_law_whole" 638)::((.str "_law_k" 639)::((.str "_law_others" 640)::[])))))))))) 0) #[])::(q1 )::(q4 "_law_somes_right" 44)::CB::Dj::(q1 )::(q2 )::(q4 "law" 45)::DL::Dk::l
noncomputable def j7:Params->Heap:=λP=>.mk (.mk ((rC P (o3 P) (oS) (w6 P  (DM P  (NT P  [])))))) oR
noncomputable def rD:Params->Heap:=λP=>.mk (.mk ((W.boot_o_0 P)::(W.boot_o_1 P)::(W.boot_o_2 P)::(W.boot_o_3 P)::(W.boot_o_4 P)::(W.boot_o_5 P)::(W.boot_o_6 P)::(W.boot_o_7 P)::(W.boot_o_8 P)::(W.boot_o_9 P)::(W.boot_o_10 P)::(q1 )::NK::(Obj.mk (.type "code") none (Data.fields (toArray ((.str "<module>" 182)::((.str "<module>" 183)::((.str "/claim/cut.py" 184)::((.int 1 0)::((.int 0 0)::((.int 0 0)::((.int 0 0)::((.int 0 0)::((.ref 11)::((.bool false)::((.int 181 0)::((.ref 12)::(.none::(.none::(.none::(.none::((.int 185 0)::((.int 1 0)::((.str "/claim/cut.py" 186)::[]))))))))))))))))))))) #[])::(Obj.mk (.type "frame") none Data.plain (toArray ((some (.ref 13))::((some (.ref 3))::((some (.ref 3))::(none::((some (.str "__main__" 164))::(none::((some (.ref 0))::[])))))))))::[])) oR
noncomputable def DN:Params->Heap:=λP=>.mk (.mk ((rC P (NM P) (NN) []))) oR
noncomputable def DO:Params->Heap:=λP=>.mk (.mk ((rC P (NO P) (NP) (w6 P  [])))) oR
noncomputable def DP:Params->Heap:=λP=>.mk (.mk ((rC P (NQ P) (NR) (w6 P  (DM P  []))))) oR
def jq:List Stmt:=behindTheImports eF
def mF:Env:=⟨eF.main.scope,mainNs,mainNs,[],Str.empty,none,.ref 13,some 14,0⟩
abbrev ig:Code:=.body jq mF
noncomputable def oU:Params->Frag:=λP=>
 ((nat_lit 3),o3 P) ::
 ((nat_lit 20),B5) ::
 ((nat_lit 21),CC) ::
 ((nat_lit 27),B6) ::
 ((nat_lit 28),CD) ::
 ((nat_lit 29),Dl P) ::
 ((nat_lit 30),Dm) ::
 ((nat_lit 31),Dn) ::
 ((nat_lit 32),Dq) ::
 ((nat_lit 33),Dr) ::
 ((nat_lit 34),Ds) ::
 ((nat_lit 35),Dt) ::
 ((nat_lit 36),Du) ::
 ((nat_lit 37),Dv) ::
 ((nat_lit 38),Dw) ::
 ((nat_lit 39),Dx) ::
 ((nat_lit 40),Dy) ::
 ((nat_lit 41),Dz P) ::
 ((nat_lit 47),B7) ::
 ((nat_lit 48),CF) ::
 ((nat_lit 54),B8) ::
 ((nat_lit 55),CG) ::
 ((nat_lit 59),DA) ::
 ((nat_lit 60),CH) ::
 ((nat_lit 64),DB) ::
 ((nat_lit 65),CI) ::
 ((nat_lit 71),B9) ::
 ((nat_lit 72),CJ) ::
 ((nat_lit 78),B_) ::
 ((nat_lit 79),CK) ::
 ((nat_lit 85),Ca) ::
 ((nat_lit 86),CL) ::
 ((nat_lit 92),Cb) ::
 ((nat_lit 93),CM) ::
 ((nat_lit 99),Cc) ::
 ((nat_lit 100),CN) ::
 ((nat_lit 106),Ce) ::
 ((nat_lit 107),CO) ::
 ((nat_lit 113),Cf) ::
 ((nat_lit 114),CP) ::
 ((nat_lit 120),Cg) ::
 ((nat_lit 121),CQ) ::
 ((nat_lit 127),Ci) ::
 ((nat_lit 128),CS) ::
 ((nat_lit 134),Cj) ::
 ((nat_lit 135),CT) ::
 ((nat_lit 141),Ck) ::
 ((nat_lit 142),CU) ::
 ((nat_lit 146),DC) ::
 ((nat_lit 147),CV) ::
 ((nat_lit 151),DF) ::
 ((nat_lit 152),CW) ::
 ((nat_lit 156),DG) ::
 ((nat_lit 157),CY) ::
 ((nat_lit 163),Cm) ::
 ((nat_lit 164),CZ) ::
 ((nat_lit 168),DH) ::
 ((nat_lit 169),C0) ::
 ((nat_lit 173),DI) ::
 ((nat_lit 174),C1) ::
 ((nat_lit 180),Cn) ::
 ((nat_lit 181),C2) ::
 ((nat_lit 187),Co) ::
 ((nat_lit 188),C3) ::
 ((nat_lit 192),DJ) ::
 ((nat_lit 193),C4) ::
 ((nat_lit 199),Cp) ::
 ((nat_lit 200),C5) ::
 ((nat_lit 206),Cq) ::
 ((nat_lit 207),C6) ::
 ((nat_lit 213),Cr) ::
 ((nat_lit 214),C7) ::
 ((nat_lit 220),Cs) ::
 ((nat_lit 221),C8) ::
 ((nat_lit 227),Ct) ::
 ((nat_lit 228),C9) ::
 ((nat_lit 234),Cu) ::
 ((nat_lit 235),C_) ::
 ((nat_lit 241),Cv) ::
 ((nat_lit 242),Dc) ::
 ((nat_lit 248),Cw) ::
 ((nat_lit 249),Dd) ::
 ((nat_lit 255),Cy) ::
 ((nat_lit 256),De) ::
 ((nat_lit 260),DK) ::
 ((nat_lit 261),Dg) ::
 ((nat_lit 267),Cz) ::
 ((nat_lit 268),Dh) ::
 ((nat_lit 274),CA) ::
 ((nat_lit 275),Di) ::
 ((nat_lit 281),CB) ::
 ((nat_lit 282),Dj) ::
 ((nat_lit 286),DL) ::
 ((nat_lit 287),Dk) ::
 []
noncomputable def oV:List Nat:=(nat_lit 3)::(nat_lit 20)::(nat_lit 21)::(nat_lit 27)::(nat_lit 28)::(nat_lit 29)::(nat_lit 30)::(nat_lit 31)::(nat_lit 32)::(nat_lit 33)::(nat_lit 34)::(nat_lit 35)::(nat_lit 36)::(nat_lit 37)::(nat_lit 38)::(nat_lit 39)::(nat_lit 40)::(nat_lit 41)::(nat_lit 47)::(nat_lit 48)::(nat_lit 54)::(nat_lit 55)::(nat_lit 59)::(nat_lit 60)::(nat_lit 64)::(nat_lit 65)::(nat_lit 71)::(nat_lit 72)::(nat_lit 78)::(nat_lit 79)::(nat_lit 85)::(nat_lit 86)::(nat_lit 92)::(nat_lit 93)::(nat_lit 99)::(nat_lit 100)::(nat_lit 106)::(nat_lit 107)::(nat_lit 113)::(nat_lit 114)::(nat_lit 120)::(nat_lit 121)::(nat_lit 127)::(nat_lit 128)::(nat_lit 134)::(nat_lit 135)::(nat_lit 141)::(nat_lit 142)::(nat_lit 146)::(nat_lit 147)::(nat_lit 151)::(nat_lit 152)::(nat_lit 156)::(nat_lit 157)::(nat_lit 163)::(nat_lit 164)::(nat_lit 168)::(nat_lit 169)::(nat_lit 173)::(nat_lit 174)::(nat_lit 180)::(nat_lit 181)::(nat_lit 187)::(nat_lit 188)::(nat_lit 192)::(nat_lit 193)::(nat_lit 199)::(nat_lit 200)::(nat_lit 206)::(nat_lit 207)::(nat_lit 213)::(nat_lit 214)::(nat_lit 220)::(nat_lit 221)::(nat_lit 227)::(nat_lit 228)::(nat_lit 234)::(nat_lit 235)::(nat_lit 241)::(nat_lit 242)::(nat_lit 248)::(nat_lit 249)::(nat_lit 255)::(nat_lit 256)::(nat_lit 260)::(nat_lit 261)::(nat_lit 267)::(nat_lit 268)::(nat_lit 274)::(nat_lit 275)::(nat_lit 281)::(nat_lit 282)::(nat_lit 286)::(nat_lit 287)::[]
theorem rE (P:Params):oV=(oU P).map (·.1):=rfl
noncomputable abbrev rF:Hook:=kHook oU oV rE
set_option maxHeartbeats 0 in
theorem NU (w:World):((boot_heap w.params).isNs mainGlobals&&(#[]:Array GenState).size==0,(boot_heap w.params).objs.size,(boot_heap w.params).nsMap mainGlobals "__annotations__")=(true,11,some (.ref 6)):=by kernel_rfl
set_option maxHeartbeats 0 in
theorem NV (w:World)(os:OsState):topGo treeTable eF w 11 (some (.ref 6)) 12 ⟨boot_heap w.params,#[],boot_drawn,boot_toks,os⟩ (topStub eF)=some (⟨rD w.params,#[],⟨0,0,0,0⟩,187,os⟩,⟨denote treeTable ig,ig,⟨0,0,0,0⟩,[topFrame ⟨0,0,0,0⟩]⟩):=by kernel_rfl
set_option maxHeartbeats 0 in
theorem NW (w:World)(os:OsState):segRun treeTable eF w 11 (some (.ref 6)) 1 1 ⟨rD w.params,#[],⟨0,0,0,0⟩,187,os⟩ (blockOf jq mF ig ⟨0,0,0,0⟩ [topFrame ⟨0,0,0,0⟩])=some (.next,⟨rD w.params,#[],⟨0,0,0,0⟩,187,os⟩,ig,⟨0,0,0,0⟩):=by kernel_rfl
def mH (w:World)(os:OsState):Prop:=segRun treeTable eF w 11 (some (.ref 6)) 1 384 ⟨rD w.params,#[],⟨0,0,0,0⟩,187,os⟩ (piecesOf (jq.take 7) mF ig ⟨0,0,0,0⟩ [topFrame ⟨0,0,0,0⟩])=some (.next,⟨DN w.params,#[],⟨0,0,0,0⟩,273,os⟩,ig,⟨15,0,15,11⟩)
set_option maxHeartbeats 0 in
theorem NX (w:World)(os:OsState):mH (w.withFollow "special-get-raises" true) os:=by unfold mH;kernel_rfl
set_option maxHeartbeats 0 in
theorem NY (w:World)(os:OsState):mH (w.withFollow "special-get-raises" false) os:=by unfold mH;kernel_rfl
theorem NZ (w:World)(os:OsState):mH w os:=by
 have h:∀ b,mH (w.withFollow "special-get-raises" b) os:=λb=>by
  cases b
  ·exact NY w os
  ·exact NX w os
 have:=h (w.params.followText "special-get-raises");rwa [World.withFollow_self] at this
set_option maxHeartbeats 0 in
theorem N0 (w:World)(os:OsState):segRun treeTable eF w 11 (some (.ref 6)) 1 376 ⟨DN w.params,#[],⟨0,0,0,0⟩,273,os⟩ (piecesOf ((jq.drop 7).take 13) mF ig ⟨15,0,15,11⟩ [topFrame ⟨0,0,0,0⟩])=some (.next,⟨DO w.params,#[],⟨0,0,0,0⟩,381,os⟩,ig,⟨86,0,87,80⟩):=by kernel_rfl
set_option maxHeartbeats 0 in
theorem N1 (w:World)(os:OsState):segRun treeTable eF w 11 (some (.ref 6)) 1 399 ⟨DO w.params,#[],⟨0,0,0,0⟩,381,os⟩ (piecesOf (((jq.drop 7).drop 13).take 13) mF ig ⟨86,0,87,80⟩ [topFrame ⟨0,0,0,0⟩])=some (.next,⟨DP w.params,#[],⟨0,0,0,0⟩,505,os⟩,ig,⟨202,0,207,32⟩):=by kernel_rfl
set_option maxHeartbeats 0 in
theorem N2 (w:World)(os:OsState):topRun treeTable eF w 11 (some (.ref 6)) 528 ⟨DP w.params,#[],⟨0,0,0,0⟩,505,os⟩ (restOf (((jq.drop 7).drop 13).drop 13) mF ig ⟨202,0,207,32⟩ [topFrame ⟨0,0,0,0⟩])=some ⟨j7 w.params,#[],⟨0,0,0,0⟩,650,os⟩:=by kernel_rfl
theorem N3 (w:World)(os:OsState):topRun treeTable eF w 11 (some (.ref 6)) 1700 ⟨boot_heap w.params,#[],boot_drawn,boot_toks,os⟩ (topStub eF)=some ⟨j7 w.params,#[],⟨0,0,0,0⟩,650,os⟩:=
 go_top (N:=1688) (NV w os) (piece_block (N:=1687) (NW w os) ((take_append_drop 7 jq)▸piece_app (N:=1303) (NZ w os) (((take_append_drop 13 (jq.drop 7))▸piece_app (N:=927) (N0 w os) (((take_append_drop 13 ((jq.drop 7).drop 13))▸piece_app (N:=528) (N1 w os) (N2 w os)))))))
set_option maxHeartbeats 0 in
theorem N4 (w:World):(λos=>((staticsOk (importedModules eF.main.body) (boot_heap w.params) (j7 w.params)&&namesBound eF (j7 w.params)&&gensDone ⟨j7 w.params,#[],⟨0,0,0,0⟩,650,os⟩&&laidKept (boot_heap w.params) (j7 w.params)),
    openSeen j6 rA (importedModules eF.main.body) (λs=>xlAt j6 [] s&&recOk [] s) true ⟨j7 w.params,#[],⟨0,0,0,0⟩,650,os⟩,Hook.obs rF ⟨j7 w.params,#[],⟨0,0,0,0⟩,650,os⟩))=λ_=>(true,openGood j6 rA,Hook.val rF w):=by kernel_rfl
theorem N5:LeftO eF j6 rA (λs=>xlAt j6 [] s&&recOk [] s) (Hook.obs rF) (Hook.val rF) 1700:=
 LeftO.of_pieces (boot_open (by kernel_rfl) (by decide) λ_=>by kernel_rfl) NU N3 rfl N4
section
variable {P:Program}{w:World}{K:Frag}{mg:aZ}{base:Heap}{tk:Addr}{td:FuncData}
structure Tk (P:Program)(w:World)(K:Frag)(mg:aZ)(base:Heap)(tk:Addr)(td:FuncData):Prop where
 G:cT P w K mg base dq 2 tk td ["_law_state","_law_most"] (j5 K)
 b:Binds K td ["_law_state","_law_most"] []
 k:PySem.W.keepIn K (.ref tk)=true
 m:mg "_law_take"=some (.ref tk)
def dv (B:Bs):Prop:=0<=B.z/\B.z<26
def w9 (K:Frag):Sp:=λvs H Q _=>∃ a,vs=[.ref a]/\q_ K H a/\∀(d:Addr)(B:Bs)(H':Hp),H d=none->dv B->cE H' d a 10 B->aR H H'->Q (.ref d) H'
theorem rG:bw ["_law_script","_law_way_here","_law_state"] ["_law_script"] (aW wa):=by walk_at "s"
def rH (a:Addr)(wy:Int):bh:=[(.inr "script",.ref a),(.inr "at",.int 1),(.inr "left",.int 0),(.inr "way",.int wy),(.inr "names",.int 0),(.inr "parts",.int 0),(.inr "turn",.int 0)]
theorem DQ (a:Addr)(wy:Int):hV [] (rH a wy)=SK.zip (SV a 1 0 wy ⟨0,0,"",0,0,none⟩):=BR (rH a wy) [] (show SK.Nodup from vK)
theorem N6 {f:Addr}{fd:FuncData}(F:fB K "_law_begin" "_law_begin" wa f fd)(B:Bt mg)(T:Tk P w K mg base tk td):cT P w K mg base dq 3 f fd ["_law_script"] (w9 K):=by
 refine F.ok rG (λvs H Q E h=>?_) (λaE A outer s H vs Q E hr h=>?_)
 ·obtain⟨a,rfl,_⟩:=h;rfl
 obtain⟨a,rfl,Sc,q⟩:=h;have hu:=gB hr
 refine⟨_,eO (gu (i:=1) rG.nd rfl (Or.inl rfl) cQ)
  (eO (qr (kW qD (hU oF (by rfl) B.len PySem.boot_len (b7 (pv 0) cN)) cQ (e_ _)) (jg (gu (i:=1) rG.nd rfl (Or.inl rfl) (cX jS (qT qU (pv 0) cQ (λ_ _=>rfl)) cQ))) qq)
  (eO (gu (i:=2) rG.nd rfl (Or.inl rfl) (Bu (jX cR (pv 0) (jX cR cQ (jX cR cQ (jX cR (pv 1) (jX cR cQ (jX cR cQ (jX cR cQ Bq))))))) rfl rfl (by simp) (by decide)))
  (eO (jW hu (pv 2) cR (kZ T.G hr rfl T.m T.k T.b .nil k_ (b7 (pv 2) (b7 cQ cN))) rfl)
  (jg (jN (pv 2)))))),?_⟩
 obtain⟨ns,hS,hl⟩:=id Sc
 have fin:∀(wy:Int)(p:Addr),H p=none->∀ H1,H1=upd (upd H p (.dK [])) p (.dK (SK.zip (SV a 1 0 wy ⟨0,0,"",0,0,none⟩)))->cE H1 p a 0 ⟨0,0,"",0,0,none⟩/\cz p H H1/\q_ K H1 a:=λwy p hp H1 e=>by
  subst e;have b1:cz p H (upd (upd H p (.dK [])) p (.dK (SK.zip (SV a 1 0 wy ⟨0,0,"",0,0,none⟩)))):=((cz.refl p H).upd _).upd _;refine⟨⟨⟨1,0,wy,bD,by decide,by decide,by decide⟩,λT o z=>by cases z⟩,b1,ns,?_,hl⟩;rcases hS with (h|⟨o,h⟩)|h
  ·exact .inl (.inl (b1 _ _ h (dF h hp)))
  ·exact .inl (.inr ⟨o,b1 _ _ h (dF h hp)⟩)
  ·exact .inr h
 have rest:∀(p:Addr)(H1:Hp),H p=none->cE H1 p a 0 ⟨0,0,"",0,0,none⟩->cz p H H1->∀(r2:Int)(H4:Hp),0<=r2->r2<26->cE H4 p a (0+1) ⟨0,0,"",0,0,none⟩->cz p H1 H4->∃ H',iM H4 p (.str "turn") (.int r2) H'/\Q (.ref p) H':=λp H1 hp S1 b1 r2 H4 s0 s1 S4 b4=>by
  obtain⟨t4,l4,w4,N7,g1,g2,g3⟩:=S4.ex;refine⟨_,dput (i:=6) N7 rfl rfl,?_⟩;refine q p { nm:=0,pt:=0,x:="",z:=r2,y:=0,tb:=none } _ hp ⟨s0,s1⟩ ⟨⟨t4,l4,w4,bD,g1,by omega,g3⟩,S4.vL rfl⟩ λc o e=>?_;exact((b1.trans b4).upd _) c o e (dF e hp)
 refine⟨_,rfl,a,_,rfl,.inl hS,_,_,rfl,rfl,_,rfl,?_⟩;refine oN (λc=>?_) (λc=>?_)
 ·have c':(0:Int)<((ns.map V.int).length:Int):=of_decide_eq_true c;rw[length_map] at c';obtain⟨v,hv⟩:=vN (ns:=ns) (k:=0) (by decide) c';refine⟨_,rfl,a,_,_,_,rfl,rfl,hS,hv,_,_,rfl,rfl,(by show(0:Int)<2;decide),?_⟩;refine λp hp=>⟨_,rfl,_,rfl,bD,rH a (v % 2),rfl,(by show 7<=15;decide),?_⟩;rw[DQ];obtain⟨S1,b1,sc⟩:=fin (v % 2) p hp _ rfl;refine⟨_,rfl,p,a,0,_,26,rfl,S1,sc,by decide,by decide,by decide,λr2 H4 s0 s1 S4 b4=>?_⟩;obtain⟨H',d1,q1⟩:=rest p _ hp S1 b1 r2 H4 s0 s1 S4 b4;exact⟨_,rfl,p,_,rfl,d1,_,rfl,q1⟩
 ·refine λp hp=>⟨_,rfl,_,rfl,bD,rH a 0,rfl,(by show 7<=15;decide),?_⟩;rw[DQ];obtain⟨S1,b1,sc⟩:=fin 0 p hp _ rfl;refine⟨_,rfl,p,a,0,_,26,rfl,S1,sc,by decide,by decide,by decide,λr2 H4 s0 s1 S4 b4=>?_⟩;obtain⟨H',d1,q1⟩:=rest p _ hp S1 b1 r2 H4 s0 s1 S4 b4;exact⟨_,rfl,p,_,rfl,d1,_,rfl,q1⟩
end
end cU
namespace L2
open PySem
section
variable {M:Model}{A:Around}{E:aG}{s:Shared}
theorem N8 {src:Source}{n:Nat}{Q:Nat->Shared->Prop}(hn:n≠0)(h:∀ i dr,i<n->Q i { s with drawn:=dr }):wpAny M A (choose src n) Q E s:=fun Γ p Zu=>by
 show Sem.wp M Γ (Sem.choose src n .pure) _ _ _ _;rw[Sem.wp_choose];exact⟨hn,h _ _ (Nat.mod_lt _ (Nat.pos_of_ne_zero hn))⟩
theorem w_ {α:Type}:∀(l:List α)(i:Nat)(h:i<l.length),(l[i]::l.eraseIdx i).Perm l
 |a::r,0,_=>.refl _
 |a::r,i+1,h=>by
  have hi:i<r.length:=by simpa using h
  show(r[i]::a::r.eraseIdx i).Perm (a::r);exact(Perm.swap a r[i] (r.eraseIdx i)).trans ((w_ r i hi).cons a)
theorem DR {α:Type}:∀(n:Nat)(xs:List α)(s:Shared)(Q:List α->Shared->Prop),xs.length=n->(∀ ys dr,ys.Perm xs->Q ys { s with drawn:=dr })->wpAny M A (drawOrder n xs) Q E s
 |0,[],s,Q,_,h=>by
  unfold drawOrder;exact ao (h [] s.drawn (.refl _))
 |0,_::_,_,_,hl,_=>by simp at hl
 |n+1,[],_,_,hl,_=>by simp at hl
 |n+1,x::r,s,Q,hl,h=>by
  show wpAny M A (choose .order (x::r).length >>= λi=>_) Q E s;refine af (N8 (by simp) λi dr hi=>?_);rw[cf hi];dsimp only;refine af (DR n ((x::r).eraseIdx i) _ _ (by rw[length_eraseIdx_of_lt hi];simpa using hl) λys N9 hp=>?_);exact ao (h _ N9 ((hp.cons _).trans (w_ _ i hi)))
end
theorem DS {α:Type}(next:Nat->Nat):∀(fuel k:Nat)(left:List α)(out:Array α),left.length=fuel->(pickOrder.go next fuel k left out).toList.Perm (out.toList++left)
 |0,_,[],out,_=>by
  unfold pickOrder.go;rw[append_nil]
 |0,_,_::_,_,hl=>by simp at hl
 |fuel+1,k,left,out,hl=>by
  unfold pickOrder.go;have N_:0<left.length:=by omega
  have hi:next k % left.length<left.length:=Nat.mod_lt _ N_
  rw[cf hi];dsimp only;refine(DS next fuel (k+1) _ _ (by rw[length_eraseIdx_of_lt hi];omega)).trans ?_;rw[Array.toList_push,append_assoc];exact(w_ left _ hi).append_left _
theorem Oa {α:Type}(next:Nat->Nat)(xs:Array α):(pickOrder next xs).toList.Perm xs.toList:=by
 have z:=DS next xs.size 0 xs.toList #[] (by simp)
 simpa [pickOrder] using z
theorem Ob (t:SetTable)(n:Nat):(t.orStandIn n).led=t.led/\((t.orStandIn n).plain=t.plain\/(t.orStandIn n).plain=false):=by
 unfold SetTable.orStandIn
 split
 ·exact⟨rfl,.inl rfl⟩
 ·exact⟨rfl,.inr rfl⟩
theorem Oc (t:SetTable)(es:Array (Int×Value))(h:Int)(x:Value):(layNew t es h x).2.1.led=t.led/\((layNew t es h x).2.1.plain=t.plain\/(layNew t es h x).2.1.plain=false):=by
 unfold layNew
 split
 ·rename_i slot wd _;exact Ob (t.put slot).1 _
 ·exact⟨rfl,.inr rfl⟩
theorem Od (t:SetTable)(es:Array (Int×Value))(n:Nat):(relayAll t es n).2.1.led=t.led/\((relayAll t es n).2.1.plain=t.plain\/(relayAll t es n).2.1.plain=false):=by
 unfold relayAll
 split
 ·rename_i t' order e
  have ht:t'.led=t.led/\t'.plain=t.plain:=by
   unfold SetTable.relaid SetTable.laid at e
   cases hc:SetTable.layClean (SetTable.sizeAbove n-1) (es.map (·.1)) with
   |none=>rw[hc] at e;cases e
   |some ow=>
    rw[hc] at e;simp only[Option.pure_def,Option.bind_eq_bind,Option.bind_some,Option.some.injEq,Prod.mk.injEq] at e;rw[<- e.1];exact⟨rfl,rfl⟩
  dsimp only
  split
  ·exact⟨ht.1,.inl ht.2⟩
  ·exact⟨rfl,.inr rfl⟩
 ·exact⟨rfl,.inr rfl⟩
def tx:Value->Str
 |.str z _=>z
 |_=>""
theorem rJ {prog:Program}{w:World}{z:Str}{v:Value}(h:(PySem.strKind prog w).is z v=true):tx v=z/\∃ t,v=.str z t:=by
 obtain⟨t,rfl⟩:=Value.isStrOf_shape h;exact⟨rfl,t,rfl⟩
theorem DT (prog:Program)(w:World)(z:Str)(t:Tok):(PySem.strKind prog w).is z (.str z t)=true:=by
 show Value.isStrOf z (.str z t)=true;simp [Value.isStrOf]
def eG (zs:aq)(z:Str):aq:=if z∈zs then zs else zs++[z]
def c9 (ys:aq):aq:=ys.foldl eG []
theorem Oe {zs:aq}{z y:Str}:y∈eG zs z↔y∈zs\/y=z:=by
 unfold eG
 split
 ·rename_i hz;exact⟨.inl,λh=>h.elim id λe=>e▸hz⟩
 ·rw[mem_append,mem_singleton]
theorem DU:∀(ys zs:aq)(z:Str),z∈ys.foldl eG zs↔z∈zs\/z∈ys
 |[],zs,z=>by simp
 |y::r,zs,z=>by
  show z∈r.foldl eG (eG zs y)↔_;rw[DU r,Oe,mem_cons,or_assoc]
theorem Of {ys:aq}{z:Str}:z∈c9 ys↔z∈ys:=by
 unfold c9;rw[DU];simp
structure cg (prog:Program)(w:World)(lb:Bool)(h:Heap)(a:Addr)(zs:aq)(es:Array (Int×Value))(ep:Nat)(t:SetTable):Prop where
 get:∃ o,h.get? a=some o/\o.ExactSet/\o.data=.set es ep t
 el:ElemsOf (PySem.strKind prog w) es.toList
 aF:es.size<scanBound
 fits:t.fits es.size=true
 led:t.led=lb
 pl:es.size=0\/t.plain=false
 ks:(es.toList.map λe=>tx e.2).Perm zs
section
variable {prog:Program}{w:World}{A:Around}{E:aG}{s:Shared}{a:Addr}{lb:Bool}
theorem DV {h:Heap}{o:Obj}{es dH:Array (Int×Value)}{ep:Nat}{t t':SetTable}{zs:aq}(ho:h.get? a=some o)(hx:o.ExactSet)(hd:o.data=.set es ep t)
  (el:ElemsOf (PySem.strKind prog w) dH.toList)(aF:dH.size<scanBound)(fits:t'.fits dH.size=true)(led:t'.led=lb)(pl:dH.size=0\/t'.plain=false)(ks:(dH.toList.map λe=>tx e.2).Perm zs) :
  (h.update a (Obj.putSet dH t')).get? a=some { o with data:=.set dH (ep+1) t' }/\cg prog w lb (h.update a (Obj.putSet dH t')) a zs dH (ep+1) t':=by
 have g:(h.update a (Obj.putSet dH t')).get? a=some { o with data:=.set dH (ep+1) t' }:=by
  have z:=Heap.get?_update_self (Obj.putSet dH t') ho (by rw[putSet_of dH t' hd];rfl);rwa [putSet_of dH t' hd] at z
 exact⟨g,⟨_,g,hx,rfl⟩,el,aF,fits,led,pl,ks⟩
theorem DW {g:Bool->Sem Unit}(hg:∀(b:Bool)(aT:Shared)(Q':Unit->Shared->Prop),Q' () aT->wpAny (model prog w) A (g b) Q' E aT)
  {o:Obj}{es:Array (Int×Value)}{ep:Nat}{t:SetTable}(ho:s.heap.get? a=some o)(hx:o.ExactSet)(hd:o.data=.set es ep t)
  {e1:Array (Int×Value)}{t1:SetTable}{zs:aq}(el:ElemsOf (PySem.strKind prog w) e1.toList)(aF:e1.size<scanBound)(fits:t1.fits e1.size=true)(led:t1.led=lb)(pl:t1.plain=false)
  (ks:(e1.toList.map λe=>tx e.2).Perm zs){dm:Bool}{R:Option Bool->Shared->Prop}
  (h:∀ h' e2 p2 t2,Heap.SameBut a s.heap h'->cg prog w lb h' a zs e2 p2 t2->R (some true) { s with heap:=h' }) :
  wpAny (model prog w) A (do
    storeSet a e1 t1
    if (!dm&&t1.tooFull)=true then do
      g (relayAll t1 e1 (SetTable.grown e1.size)).2.2
      storeSet a (relayAll t1 e1 (SetTable.grown e1.size)).1 (relayAll t1 e1 (SetTable.grown e1.size)).2.1
      pure (some true)
     else pure (some true)) R E s:=by
 refine af (wpAny_storeSet_of ho hd ?_ (fits_of_scanBound aF));obtain⟨o1,T1⟩:=DV (prog:=prog) (w:=w) (lb:=lb) ho hx hd el aF fits led (.inr pl) ks;have b1:=Heap.SameBut.update s.heap a (Obj.putSet e1 t1)
 split
 ·have p2:=relayAll_perm t1 e1 (SetTable.grown e1.size);have f2:=relayAll_fits t1 e1 (SetTable.grown e1.size);have l2:=Od t1 e1 (SetTable.grown e1.size);generalize relayAll t1 e1 (SetTable.grown e1.size)=Rl at p2 f2 l2 ⊢;obtain⟨e2,t2,gv⟩:=Rl;dsimp only at p2 f2 l2 ⊢;have z2:e2.size=e1.size:=by rw[<- Array.length_toList,p2.length_eq,Array.length_toList]
  refine af (hg _ _ _ ?_);refine af (wpAny_storeSet_of o1 rfl ?_ (fits_of_scanBound (by rw[z2];exact aF)));obtain⟨_,T2⟩:=DV (prog:=prog) (w:=w) (lb:=lb) (zs:=zs) o1 hx rfl (el.perm p2) (by rw[z2];exact aF) f2 (l2.1.trans led) (.inr (l2.2.elim (λe=>e.trans pl) id)) ((p2.map _).trans ks);exact ao (h _ _ _ _ (b1.trans (Heap.SameBut.update _ a _)) T2)
 ·exact ao (h _ _ _ _ b1 T1)
theorem Og {z:Str}{tk:Tok}{zs:aq}{es:Array (Int×Value)}{ep:Nat}{t:SetTable}{Q:Bool->Shared->Prop}(T:cg prog w lb s.heap a zs es ep t)(room:zs.length+1<scanBound)
  (h:∀ b h' e2 p2 t2,Heap.SameBut a s.heap h'->cg prog w lb h' a (eG zs z) e2 p2 t2->Q b { s with heap:=h' }) :
  wpAny (model prog w) A (setAddHashed a (.str z tk) ((PySem.strKind prog w).hash z)) Q E s:=by
 obtain⟨⟨o,ho,hx,hd⟩,el,aF,fits,led,pl,ks⟩:=T
 have hlen:es.size=zs.length:=by
  have q:=ks.length_eq;rwa [length_map,Array.length_toList] at q
 have hk:=DT prog w z tk;have xa:(Value.str z tk).scannable=true:=rfl;unfold setAddHashed setAddHashedIn;refine wpAny_holding (af (wpAny_setState_of ho hd fits ?_));dsimp only;rw[if_pos (byScan_of xa aF el)];refine af ?_;unfold setAddByScan;refine af (wpAny_rule ?_);refine af (wpAny_setScan_of hk ho hd fits el ?_)
 have xb:∀ e∈es.toList,((PySem.strKind prog w).is z e.2=true↔tx e.2=z):=λe he=>by
  obtain⟨⟨k,iQ,_⟩,_⟩:=el e he;obtain⟨e1,u,e2⟩:=rJ iQ;refine⟨λq=>(rJ q).1,λq=>?_⟩;rw[e1] at q;subst q;exact iQ
 cases hr:findIdx? (λe:Int×Value=>(PySem.strKind prog w).is z e.2) es.toList with
 |some j=>
  dsimp only;obtain⟨hj,Oh,_⟩:=findIdx?_eq_some_iff_getElem.mp hr;have hz:z∈zs:=ks.mem_iff.mp (mem_map.mpr ⟨es.toList[j],getElem_mem hj,(rJ Oh).1⟩);refine ao (ao ?_);have q:=h false s.heap es ep t (Heap.SameBut.refl a s.heap) ⟨⟨o,ho,hx,hd⟩,el,aF,fits,led,pl,by unfold eG;rw[if_pos hz];exact ks⟩;cases s;exact q
 |none=>
  dsimp only
  have hz:z∉zs:=λm=>by
   obtain⟨e,he,q⟩:=mem_map.mp (ks.mem_iff.mpr m);have no:=findIdx?_eq_none_iff.mp hr e he;rw[(xb e he).mpr q] at no;cases no
  have give:∀(b:Bool){aT:Shared}{Q':Unit->Shared->Prop},Q' () aT->wpAny (model prog w) A (match b with|true=>rule "set.scan.the-table-gave-way"|false=>pure ()) Q' E aT:=λb aT Q' q=>by
   cases b
   ·exact ao q
   ·exact wpAny_rule q
  have p1:=layNew_perm t es ((PySem.strKind prog w).hash z) (.str z tk);have f1:=layNew_fits t es ((PySem.strKind prog w).hash z) (.str z tk);have l1:=Oc t es ((PySem.strKind prog w).hash z) (.str z tk);generalize layNew t es ((PySem.strKind prog w).hash z) (.str z tk)=L at p1 f1 l1 ⊢;obtain⟨e1,t1,dm,gv⟩:=L;dsimp only at p1 f1 l1 ⊢;rw[Array.toList_push] at p1;have DX:ElemsOf (PySem.strKind prog w) e1.toList:=(el.push hk xa).perm p1;have z1:e1.size=es.size+1:=by rw[<- Array.length_toList,p1.length_eq,length_append,Array.length_toList];rfl
  have DY:e1.size<scanBound:=by rw[z1,hlen];exact room
  have DZ:(e1.toList.map λe=>tx e.2).Perm (eG zs z):=by
   unfold eG;rw[if_neg hz];refine(p1.map _).trans ?_;rw[map_append];exact ks.append_right _
  refine af (give _ ?_);have fin:∀ h' e2 p2 t2,Heap.SameBut a s.heap h'->cg prog w lb h' a (eG zs z) e2 p2 t2->Q true { s with heap:=h' }:=λh' e2 p2 t2 b T2=>h true h' e2 p2 t2 b T2
  split
  ·refine af ?_;rw[hashByValue_scannable 8 xa];refine ao ?_;refine DW (prog:=prog) (w:=w) (lb:=lb) (zs:=eG zs z) (λb aT Q' q=>?_) ho hx hd DX DY ?_ ?_ ?_ DZ (λh' e2 p2 t2 b T2=>?_)
   ·cases b
    ·exact ao q
    ·exact wpAny_rule q
   ·split
    ·exact f1
    ·exact SetTable.fits_plain_off f1
   ·split
    ·exact l1.1.trans led
    ·exact l1.1.trans led
   ·rfl
   ·dsimp only;exact ao (fin h' e2 p2 t2 b T2)
  ·rename_i hpl;refine af (ao ?_);simp only[↓reduceIte];refine DW (prog:=prog) (w:=w) (lb:=lb) (zs:=eG zs z) (λb aT Q' q=>?_) ho hx hd DX DY f1 (l1.1.trans led) (by simpa using hpl) DZ (λh' e2 p2 t2 b T2=>?_)
   ·cases b
    ·exact ao q
    ·exact wpAny_rule q
   ·dsimp only;exact ao (fin h' e2 p2 t2 b T2)
end
open PyProof.Rows
theorem xc:∀{vs:aC}{ys:aq},StrsAre vs ys->∀(i:Nat)(v:Value),vs[i]?=some v->∃ z t,ys[i]?=some z/\v=.str z t
 |_,_,.cons z t _,0,v,e=>by
  cases e;exact⟨z,t,rfl,rfl⟩
 |_,_,.cons _ _ r,i+1,v,e=>xc r i v (by simpa using e)
 |_,_,.nil,i,v,e=>by simp at e
section
variable {prog:Program}{w:World}{A:Around}{R:Result->Shared->Prop}{I:Addr}{fp wr:List Addr}{G:Array GenState->Array GenState->Prop}{n:Nat}{P:Nat->Value->Prop}{St:Nat->Shared->Prop}{lb:Bool}
theorem cg.moved {h h':Heap}{a:Addr}{zs:aq}{es:Array (Int×Value)}{ep:Nat}{t:SetTable}(T:cg prog w lb h a zs es ep t)(k:∀ o,h.get? a=some o->h'.get? a=some o):cg prog w lb h' a zs es ep t:=by
 obtain⟨o,ho,x⟩:=T.get;exact⟨⟨o,k _ ho,x⟩,T.el,T.aF,T.fits,T.led,T.pl,T.ks⟩
theorem D0 (ys:aq):(c9 ys).length<=ys.length:=by
 have q:∀(ys zs:aq),(ys.foldl eG zs).length<=zs.length+ys.length:=by
  intro ys
  induction ys with
  |nil=>intro zs;simp
  |cons y r ih=>
   intro zs;refine bU (ih (eG zs y)) ?_
   have:(eG zs y).length<=zs.length+1:=by
    unfold eG
    split
    ·omega
    ·simp
   simp only[length_cons];omega
 have z:=q ys [];rw[length_nil,Nat.zero_add] at z;exact z
theorem Oi (ys:aq)(z:Str):c9 (ys++[z])=eG (c9 ys) z:=by
 unfold c9;rw[foldl_append];rfl
theorem D1 (W:WalksS prog w A.in1 I fp wr G n P St)(S:Addr)(D2:S∉fp)(ys:aq)(hy:ys.length=n)(Oj:∀ i v,P i v->∃ z t,ys[i]?=some z/\v=.str z t)(hb:n+1<scanBound) :
  ∀(k i:Nat)(s:Shared),n-i=k->i<=n->St i s->(∃ es ep t,cg prog w lb s.heap S (c9 (ys.take i)) es ep t) ->
   (∀ s',Moved (S::wr) G s s'->(∃ es ep t,cg prog w lb s'.heap S (c9 ys) es ep t)->R (.ok (.ret .none)) s')->codeAny (model prog w) A (.builtin "set.update.loop" ⟨[.ref S,.ref I],[]⟩) R s:=by
 have nw:S∉wr:=λm=>D2 (W.sub _ m);have sub:∀ b∈wr,b∈S::wr:=λb m=>mem_cons_of_mem _ m;intro k
 induction k with
 |zero=>
  intro i s hk hi st T fin;have e:i=n:=by omega
  subst e;refine codeAny_builtin PyProof.Rows.F.entry_set_update_loop ?_;rw[Around.under_plainId PyProof.Rows.F.plain_set_update_loop _];show wpAny _ A.in1 (pyNext (.ref I) >>= _) _ _ s;refine af (W.done s _ _ st λs' mv=>?_);show wpAny _ A.in1 (ret Value.none) _ _ s';obtain⟨es,ep,t,T⟩:=T;rw[<- hy,take_length] at T;exact ao (fin s' (mv.mono sub) ⟨es,ep,t,T.moved λo e=>mv.heap S o nw e⟩)
 |succ k ih=>
  intro i s hk hi st T fin;have lt:i<n:=by omega
  refine codeAny_builtin PyProof.Rows.F.entry_set_update_loop ?_;rw[Around.under_plainId PyProof.Rows.F.plain_set_update_loop _];show wpAny _ A.in1 (pyNext (.ref I) >>= _) _ _ s;refine af (W.item i s _ _ lt st λv s' hP st' mv=>?_);obtain⟨z,tk,hz,rfl⟩:=Oj i v hP;obtain⟨es,ep,t,T⟩:=T;have T':=T.moved (h':=s'.heap) λo e=>mv.heap S o nw e;show wpAny _ A.in1 (holding [Value.str z tk] (setAdd S (.str z tk)) >>= _) _ _ s';refine af (wpAny_holding ?_);unfold setAdd;refine wpAny_holding ?_;refine af ((PySem.strKind prog w).pyHash (k:=z) (DT prog w z tk) ?_);have l1:=D0 (ys.take i);rw[length_take] at l1;refine Og (s:={ s' with toks:=s'.toks+1 }) T' (by omega) λb h' e2 p2 t2 sb T2=>?_;have et:ys.take (i+1)=ys.take i++[z]:=by rw[take_add_one,hz];rfl
  rw[<- Oi,<- et] at T2;refine ao ⟨plainId_quiet PyProof.Rows.F.plain_set_update_loop _,ih (i+1) _ (by omega) lt (W.frame _ s' _ _ st' (Nat.le_succ _) λc hc o e=>?_) ⟨e2,p2,t2,T2⟩ λs2 xf T3=>?_⟩
  ·rw[sb.2 c (λq:c=S=>D2 (q▸hc))];exact e
  ·refine fin s2 (Moved.trans W.gtrans ((mv.mono sub).then_heap (Nat.le_succ _) λc o hc e=>?_) xf) T3;rw[sb.2 c (λq:c=S=>hc (q▸mem_cons_self))];exact e
end
section
variable {prog:Program}{w:World}{A:Around}{E:aG}{s:Shared}
def bY (w:World):Bool:=w.params.followText "set-order"
abbrev d6 (w:World):Obj:={ cls:=.type "set",dict:=none,data:=.set #[] 0 (.fresh 0 0 (!bY w)) }
theorem D3 (x:Value){Q₁:aG}(h:Q₁ (.ref s.heap.objs.size) { s with heap:=s.heap.push (d6 w) }):codeAny (model prog w) A (.call (.builtin "set.__new__") ⟨[.type "set",x],[]⟩) (wants Q₁ E) s:=by
 refine codeAny_of_tree ?_;show wpAny _ A.in1 (do checkBuiltinCall "set.__new__" ⟨[.type "set",x],[]⟩;again (.builtin "set.__new__" ⟨[.type "set",x],[]⟩)) _ _ s;refine af (wpAny_of_eq (PySem.F.newCall_set_1 x) (ao ⟨plainId_quiet PySem.F.plain_set_new _,codeAny_builtin PySem.F.entry_set_new ?_⟩));rw[Around.under_plainId PySem.F.plain_set_new _];unfold Builtin.«set.__new__»;unfold Builtin.Frozenset.newClass;have q1:=PySem.sub_set_self;obtain⟨hp,gs,dr,tk,os⟩:=s;dsimp only;wp_walk;refine wpAny_askSetting (ao ?_);dsimp only;simp only[newObj];exact af (wpAny_alloc (ao (ao h)))
end
section
variable {prog:Program}{w:World}{A:Around}{E:aG}{s:Shared}
theorem Ol {l:Addr}{items:Array Value}{ys:aq}{Q:aG}(hh:A.handled=none)(hl:s.heap.IsList l items)(hi:StrsAre items.toList ys)(hb:ys.length+1<scanBound)
  (h:∀ h' tk es ep t,cg prog w (!bY w) h' s.heap.objs.size (c9 ys) es ep t->(∀ b o,b<s.heap.objs.size->s.heap.get? b=some o->h'.get? b=some o)->Q (.ref s.heap.objs.size) { s with heap:=h',toks:=tk }) :
  wpAny (model prog w) A (call (.type "set") [.ref l]) Q E s:=by
 obtain⟨c,tl,q0⟩:=PySem.F.called_set.mro;have q1:=PySem.F.called_set.made;have q2:=PySem.F.called_set.sub;refine wpAny_call (codeAny_of_tree ?_);show wpAny _ _ (callAny (.type "set") _) _ _ _;refine ao ⟨Code.quiet_builtin _ (by decide +kernel),codeAny_builtin PySem.F.entry_type_call ?_⟩;rw[Around.under_plain (weight_type_call_type "set" [.ref l] []) rfl];have q3:=PySem.F.called_set.notType;have q4:=PySem.F.called_set.canCreate;have q5:=PySem.F.typeCall_set_1 (.ref l)
 repeat (any_goals (first|assumption|wp_step))
 refine codeAny_mono (D3 (.ref l) (E:=E) (Q₁:=λobj aT=>obj=.ref s.heap.objs.size/\aT={ s with heap:=s.heap.push (d6 w) }) ⟨rfl,rfl⟩) λr aT hr=>?_
 cases r with
 |error e=>exact hr
 |ok fl=>
  cases fl with
  |ret obj=>
   obtain⟨rfl,rfl⟩:=hr;have g0:(s.heap.push (d6 w)).get? s.heap.objs.size=some (d6 w):=b6 _ rfl;have ty:Shared.TypeIs { s with heap:=s.heap.push (d6 w) } (.ref s.heap.objs.size) "set":=⟨_,g0,rfl⟩;have q6:=PySem.F.called_set.init.lookup;have q7:=PySem.F.called_set.init.bind (.ref s.heap.objs.size)
   repeat (any_goals (first|assumption|wp_step))
   refine codeAny_mono (codeAny_call_builtin (R:=wants (λr dR=>r=.none/\∃ h' tk,dR={ s with heap:=h',toks:=tk }/\(∃ es ep t,cg prog w (!bY w) h' s.heap.objs.size (c9 ys) es ep t) /\
     (∀ b o,b<s.heap.objs.size->s.heap.get? b=some o->h'.get? b=some o)) E) PySem.F.called_set.init.plain PySem.F.entry_set_init (check_set_init_1 ty ?_)) λxg dR lq=>?_
   ·obtain⟨ol,g1,cl,nl,dl⟩:=hl;obtain⟨Om,xh,Oo,xi⟩:=ol;simp only at cl dl;subst cl;subst dl;have g2:(s.heap.push (d6 w)).get? l=some { cls:=.type "list",dict:=xh,data:=.seq items nl,slots:=xi }:=a8 _ g1;have q8:=PySem.F.sub_list_set;have q9:=PySem.F.sub_list_frozenset;have f':(Value.type "list"==Value.type "dict")=false:=by decide
    have l1:(s.heap.push (d6 w)).IsList l items:=⟨_,g2,rfl,nl,rfl⟩;unfold Builtin.«set.__init__» noKeywords;unfold Builtin.Frozenset.updateFrom;generalize xj:pyIter=PI;wp_walk;subst xj;refine wpAny_pyIter_list l1 ?_;refine af (wpAny_runValue ?_);have lt:l<s.heap.objs.size:=a0 g1;have xk:A.in1.in1.in1.handled=none:=by simp [hh]
    have sz:(s.heap.push (d6 w)).objs.size=s.heap.objs.size+1:=Heap.size_push ..;have ne:l≠(s.heap.push (d6 w)).objs.size:=by rw[sz];exact bI (Nat.lt_succ_of_lt lt)
    have nf:s.heap.objs.size∉[(s.heap.push (d6 w)).objs.size,l]:=by
     rw[sz];simp only[mem_cons,mem_singleton,not_mem_nil,or_false,not_or];exact⟨bI (Nat.lt_succ_self _),Nat.ne_of_gt lt⟩
    have hn:items.size=ys.length:=by
     have z:=StrsAre.length hi;rw[Array.length_toList] at z
     first|exact z|exact z.symm
    refine D1 (lb:=!bY w) ((Walks.list xk _ l ne items).toS) s.heap.objs.size nf ys hn.symm (λi v e=>xc hi i v (by rw[Array.getElem?_toList];exact e)) (by rw[hn];exact hb) (items.size-0) 0 _ (by omega) (Nat.zero_le _)
     ⟨⟨_,b6 _ rfl,rfl,rfl⟩,(l1.push _)⟩ ?_ ?_
    ·exact⟨#[],0,.fresh 0 0 (!bY w),⟨_,a8 _ g0,⟨rfl,rfl,rfl⟩,rfl⟩,λe he=>by simp at he,by decide,by rfl,rfl,.inl rfl,.refl _⟩
    ·intro s' mv T;obtain⟨h',g',d',lr,ou⟩:=s';have eg:g'=s.gens:=mv.gens;have ed:d'=s.drawn:=mv.drawn;have eo:ou=s.os:=mv.os;subst eg ed eo;show wpAny _ _ _ _ _ _;refine ao ?_;show wpAny _ _ (ret Value.none) _ _ _;refine ao ⟨rfl,h',lr,rfl,T,λb o hb e=>?_⟩;refine mv.heap b o ?_ (a8 _ (a8 _ e));simp only[mem_cons,mem_singleton,not_mem_nil,or_false,not_or];exact⟨bI hb,by rw[sz];exact bI (Nat.lt_succ_of_lt hb)⟩
   ·cases xg with
    |error e=>exact lq
    |ok xl=>
     cases xl with
     |ret r=>
      obtain⟨rfl,h',tk,rfl,⟨es,ep,t,T⟩,k⟩:=lq
      repeat (any_goals (first|assumption|wp_step))
      exact h h' tk es ep t T k
     |_=>exact lq.elim
  |_=>exact hr.elim
end
theorem Oq:entryFor table "set.__iter__"=some Builtin.«frozenset.__iter__»:=entryFor_alias (id':="frozenset.__iter__") (by kernel_rfl) rfl (by decide +kernel) (by kernel_rfl)
theorem ik:Slot "set_iterator" "__next__" "set_iterator.__next__":=.of (owner:="set_iterator") (n:="__next__") (by rw[typeLookup_type,builtinLookup_eq_fast];kernel_rfl) (by decide +kernel) (by decide +kernel)
 (by decide +kernel) (by first|exact .inl (by decide +kernel)|exact .inr (by decide +kernel)) (by rw[isSubtype_type];kernel_rfl)
theorem D4:Slot "set_iterator" "__iter__" "set_iterator.__iter__":=.of (owner:="set_iterator") (n:="__iter__") (by rw[typeLookup_type,builtinLookup_eq_fast];kernel_rfl) (by decide +kernel) (by decide +kernel)
 (by decide +kernel) (by first|exact .inl (by decide +kernel)|exact .inr (by decide +kernel)) (by rw[isSubtype_type];kernel_rfl)
theorem rK:entryFor table "set_iterator.__next__"=some Builtin.«set_iterator.__next__»:=entryFor_of_tree (by kernel_rfl)
theorem Ot:entryFor table "set_iterator.__iter__"=some Builtin.«dict_keyiterator.__iter__»:=entryFor_alias (id':="dict_keyiterator.__iter__") (by kernel_rfl) rfl (by decide +kernel) (by kernel_rfl)
theorem D5:Manifest.owners.lookup (String.ofList ['r','o','t','a','r','e','t','i','_','t','e','s'].reverse)=some Manifest.sig_set_iterator:=by kernel_rfl
theorem rL (a:Value):argsOk "set_iterator.__next__" ⟨[a],[]⟩:=by
 unfold argsOk;rw[signature?_of (id:="set_iterator.__next__") (n:=['_','_','t','x','e','n','_','_']) (o:=['r','o','t','a','r','e','t','i','_','t','e','s']) (by kernel_rfl) D5]
 kernel_rfl
theorem Ou (a:Value):argsOk "set_iterator.__iter__" ⟨[a],[]⟩:=by
 unfold argsOk;rw[signature?_of (id:="set_iterator.__iter__") (n:=['_','_','r','e','t','i','_','_']) (o:=['r','o','t','a','r','e','t','i','_','t','e','s']) (by kernel_rfl) D5]
 kernel_rfl
def jr (es:Array (Int×Value))(t:SetTable):Bool:=!t.plain&&decide (es.size > 1)
section
variable {prog:Program}{w:World}{A:Around}{E:aG}{s:Shared}{a:Addr}{zs:aq}{es:Array (Int×Value)}{ep:Nat}{t:SetTable}
theorem cg.ty (T:cg prog w (!bY w) s.heap a zs es ep t):s.TypeIs (.ref a) "set":=by
 obtain⟨o,ho,hx,_⟩:=T.get;exact⟨o,ho,hx.1⟩
theorem Ov {Q:Bool->Shared->Prop}(T:cg prog w (!bY w) s.heap a zs es ep t)(h:Q (!bY w&&jr es t) s):wpAny (model prog w) A (setDrawn a) Q E s:=by
 obtain⟨o,ho,hx,hd⟩:=T.get;unfold setDrawn;refine af (wpAny_setState_of ho hd T.fits ?_);dsimp only;unfold setsByText;refine af (af (wpAny_askSetting (ao ?_)));exact ao h
def gE (w:World)(a:Addr)(ep:Nat)(es:Array (Int×Value)):Array (Int×Value):=if bY w then pickOrder (w.params.setOrder a ep) es else es
def slt (w:World)(t:SetTable)(i:Nat):Nat:=if bY w then 0 else if i=0 then 0 else t.place.getD (i-1) 0+1
theorem rM (w:World)(a:Addr)(ep:Nat)(es:Array (Int×Value)):(gE w a ep es).toList.Perm es.toList:=by
 unfold gE
 split
 ·exact Oa _ _
 ·exact .refl _
end
def rN (es:Array (Int×Value))(pl:Array Nat)(i:Nat):Option (Value×Nat):=match es[i]?,pl[i]? with
 |some (_,x),some j=>some (x,j+1)
 |_,_=>none
def rO (pl:Array Nat)(i:Nat):Nat:=if i=0 then 0 else pl.getD (i-1) 0+1
theorem Ow (j:Nat):SetTable.below #[j] 0=0:=by simp [SetTable.below,SetTable.below.go]
theorem Ox (j:Nat):SetTable.below #[j] (j+1)=1:=by simp [SetTable.below,SetTable.below.go]
theorem Oy:∀(es:Array (Int×Value))(pl:Array Nat)(i:Nat),pl.size=es.size->es.size<=1->i<=es.size->rN es pl (SetTable.below pl (rO pl i))=(es[i]?).map λe=>(e.2,rO pl (i+1))
 |⟨[]⟩,⟨[]⟩,0,_,_,_=>rfl
 |⟨[e]⟩,⟨[j]⟩,0,_,_,_=>by
  show rN #[e] #[j] (SetTable.below #[j] 0)=_;rw[Ow];rfl
 |⟨[e]⟩,⟨[j]⟩,1,_,_,_=>by
  show rN #[e] #[j] (SetTable.below #[j] (j+1))=_;rw[Ox];rfl
 |⟨[]⟩,⟨_::_⟩,_,hp,_,_=>by simp at hp
 |⟨[_]⟩,⟨[]⟩,_,hp,_,_=>by simp at hp
 |⟨[_]⟩,⟨_::_::_⟩,_,hp,_,_=>by simp at hp
 |⟨_::_::_⟩,_,_,_,hf,_=>by simp at hf
 |⟨[]⟩,⟨[]⟩,_+1,_,_,hi=>by simp at hi
 |⟨[_]⟩,⟨[_]⟩,_+2,_,_,hi=>by simp at hi
section
variable {prog:Program}{w:World}{A:Around}{E:aG}{s:Shared}{a:Addr}{zs:aq}{es:Array (Int×Value)}{ep:Nat}{t:SetTable}
theorem D6 {i:Nat}{Q:Option (Value×Nat)->Shared->Prop}(T:cg prog w (!bY w) s.heap a zs es ep t)(nd:(!bY w&&jr es t)=false)(hi:i<=es.size)
  (h:Q (((gE w a ep es)[i]?).map λe=>(e.2,slt w t (i+1))) s):wpAny (model prog w) A (setNext a (slt w t i) i ep) Q E s:=by
 obtain⟨o,ho,hx,hd⟩:=T.get;unfold setNext;refine af (wpAny_setState_of ho hd T.fits ?_);dsimp only;unfold setsByText;refine af (af (wpAny_askSetting (ao ?_)));show wpAny _ _ (if bY w=true then _ else _) _ _ s;by_cases hb:bY w=true
 ·rw[if_pos hb];rw[if_neg (by simp)];unfold setWalk;refine af (af (wpAny_setState_of ho hd T.fits ?_));dsimp only;unfold setsByText;refine af (af (wpAny_askSetting (ao ?_)));show wpAny _ _ (if bY w=true then _ else _) _ _ s;rw[if_pos hb];refine af (wpAny_askSetting (ao (ao ?_)));unfold gE slt at h;rw[if_pos hb] at h;simp only[hb,if_true] at h ⊢;unfold slt;rw[if_pos hb];exact h
 ·have oW:bY w=false:=by simpa using hb
  rw[if_neg hb];have xm:jr es t=false:=by simpa [oW] using nd
  show wpAny _ _ (if jr es t=true then _ else _) _ _ s;rw[if_neg (by rw[xm];exact Bool.false_ne_true)];have hl:t.led=true:=by rw[T.led,oW];rfl
  have aF:es.size<=1:=by
   rcases T.pl with z|z
   ·omega
   ·simp only[jr,z,Bool.not_false,Bool.true_and,decide_eq_false_iff_not,Nat.not_lt] at xm;exact xm
  have hp:t.place.size=es.size:=by
   have f:=T.fits;simp only[SetTable.fits,Bool.and_eq_true,beq_iff_eq] at f;exact f.1
  show wpAny _ _ ((if (!t.led&&!es.isEmpty)=true then _ else _) >>= _) _ _ s;rw[if_neg (by rw[hl];simp)];refine af (ao (ao ?_));show Q (rN es t.place (SetTable.below t.place (slt w t i))) s;unfold gE at h;rw[if_neg hb] at h
  have Oz:∀ j,slt w t j=rO t.place j:=λj=>by
   unfold slt rO;rw[if_neg hb]
  rw[Oz] at h ⊢;rw[Oy es t.place i hp aF hi];exact h
end
def fh (h:Heap)(it a:Addr)(f:Value)(i n ep:Nat):Prop:=∃ o,h.get? it=some o/\o.cls=.type "set_iterator"/\o.data=.fields #[f,.int i 0,.ref a,.int n 0,.int ep 0]
section
variable {prog:Program}{w:World}{A:Around}{E:aG}{s:Shared}{it a:Addr}{zs:aq}{es:Array (Int×Value)}{ep:Nat}{t:SetTable}
theorem fh.ty {f:Value}{i n:Nat}(x:fh s.heap it a f i n ep):s.TypeIs (.ref it) "set_iterator":=by
 obtain⟨o,ho,hc,_⟩:=x;exact⟨o,ho,hc⟩
theorem OA {i:Nat}{x:Int×Value}{Q:Option Value->Shared->Prop}(T:cg prog w (!bY w) s.heap a zs es ep t)(x1:fh s.heap it a (.int (slt w t i) 0) i es.size ep)(nd:(!bY w&&jr es t)=false)
  (hi:(gE w a ep es)[i]?=some x)(h:∀ h',fh h' it a (.int (slt w t (i+1)) 0) (i+1) es.size ep->Heap.SameBut it s.heap h'->Q (some x.2) { s with heap:=h' }) :
  wpAny (model prog w) A (pyNext (.ref it)) Q E s:=by
 obtain⟨o,ho,hc,hd⟩:=id x1;obtain⟨oa,ha,oX,gb⟩:=T.get
 have lt:i<es.size:=by
  have z:=(rM w a ep es).length_eq;rw[Array.length_toList,Array.length_toList] at z;rw[<- z];exact(Array.getElem?_eq_some_iff.mp hi).1
 unfold pyNext;refine af (wpAny_attempt (wpAny_callSpecial?_slot (name:=Str.ofString "__next__") x1.ty ik (wpAny_call_entry ik x1.ty rK ?_ (rL _))));unfold Builtin.«set_iterator.__next__»;refine af (ao ?_);refine af (wpAny_fieldsOf ho hd ?_);dsimp only;refine af (wpAny_setEntries_of ha gb T.fits ?_);rw[if_neg (by simp)];refine af ?_;simp only[Int.toNat_natCast];refine D6 T nd (Nat.le_of_lt lt) ?_;rw[hi];dsimp only[Option.map_some];refine af (wpAny_setField ho hd (by simp) ?_);have o1:=Heap.get?_update_self (Obj.mapFields (·.setIfInBounds 0 (rawInt (slt w t (i+1))))) ho (Obj.isFreed_of_fields (Obj.data_mapFields hd _));refine af (wpAny_setField o1 (Obj.data_mapFields hd _) (by simp) ?_);refine ao ⟨x.2,rfl,ao (h _ ?_ ((Heap.SameBut.update ..).trans (Heap.SameBut.update ..)))⟩
 exact⟨_,Heap.get?_update_self _ o1 (Obj.isFreed_of_fields (Obj.data_mapFields (Obj.data_mapFields hd _) _)),((Obj.cls_mapFields ..).trans (Obj.cls_mapFields ..)).trans hc,by
  rw[Obj.data_mapFields (Obj.data_mapFields hd _)]
  simp [rawInt]⟩
theorem OB {Q:Option Value->Shared->Prop}(hh:A.handled=none)(T:cg prog w (!bY w) s.heap a zs es ep t)(x1:fh s.heap it a (.int (slt w t es.size) 0) es.size es.size ep)(nd:(!bY w&&jr es t)=false)
  (h:∀ h',Heap.ExtBut it s.heap h'->Q none { s with heap:=h' }):wpAny (model prog w) A (pyNext (.ref it)) Q E s:=by
 obtain⟨o,ho,hc,hd⟩:=id x1;obtain⟨oa,ha,oX,gb⟩:=T.get
 have hi:(gE w a ep es)[es.size]?=none:=by
  have z:=(rM w a ep es).length_eq;rw[Array.length_toList,Array.length_toList] at z;exact Array.getElem?_eq_none (by omega)
 unfold pyNext;refine af (wpAny_attempt (wpAny_callSpecial?_slot (name:=Str.ofString "__next__") x1.ty ik (wpAny_call_entry ik x1.ty rK ?_ (rL _))));unfold Builtin.«set_iterator.__next__»;refine af (ao ?_);refine af (wpAny_fieldsOf ho hd ?_);dsimp only;refine af (wpAny_setEntries_of ha gb T.fits ?_);rw[if_neg (by simp)];refine af ?_;simp only[Int.toNat_natCast];refine D6 T nd (ar _) ?_;rw[hi];dsimp only[Option.map_none];refine af (wpAny_setField ho hd (by simp) ?_);show wpAny _ _ (newExc (.type "StopIteration") [] >>= _) _ _ _;refine af ?_;simp only[newExc,newTuple];refine af (wpAny_newObj_type ?_ (by size_fits));refine af (m:=firstArgMember _ _) (wpAny_of_eq (a:=Value.none) (by simp only[firstArgMember];rfl) ?_);refine wpAny_newObj_type ?_ (by size_fits);simp only[raiseNew];refine af (wpAny_handled ?_);rw[show A.in1.handled=none from hh];refine af (ao (wpAny_throw ?_));refine af (wpAny_isInstance (T:="StopIteration") (b:=true) ⟨_,b6 _ rfl,rfl⟩ isSubtype_stop ?_);exact ao (h _ (((Heap.SameBut.update ..).extBut.push _).push _))
def lu (h:Heap)(p:Addr)(ks:List Nat):Prop:=∃ o n,h.get? p=some o/\o.data=.seq (ks.map fun(k:Nat)=>rawInt k).toArray n
theorem OD {p:Addr}{ks:List Nat}{i k:Nat}{x:Int×Value}{Q:Option Value->Shared->Prop}(T:cg prog w (!bY w) s.heap a zs es ep t)(x1:fh s.heap it a (.ref p) i es.size ep)(x2:lu s.heap p ks)
  (hk:ks[i]?=some k)(hx:es[k]?=some x)(h:∀ h',fh h' it a (.ref p) (i+1) es.size ep->Heap.SameBut it s.heap h'->Q (some x.2) { s with heap:=h' }) :
  wpAny (model prog w) A (pyNext (.ref it)) Q E s:=by
 obtain⟨o,ho,hc,hd⟩:=id x1;obtain⟨oa,ha,oX,gb⟩:=T.get;obtain⟨op,np,xn,dS⟩:=x2;unfold pyNext;refine af (wpAny_attempt (wpAny_callSpecial?_slot (name:=Str.ofString "__next__") x1.ty ik (wpAny_call_entry ik x1.ty rK ?_ (rL _))));unfold Builtin.«set_iterator.__next__»;refine af (ao ?_);refine af (wpAny_fieldsOf ho hd ?_);dsimp only;refine af (wpAny_setEntries_of ha gb T.fits ?_);rw[if_neg (by simp)];refine af (wpAny_seqItems xn dS ?_);dsimp only
 have e:(ks.map fun(k:Nat)=>rawInt k).toArray[(i:Int).toNat]?=some (.int k 0):=by
  rw[Int.toNat_natCast,getElem?_toArray,getElem?_map,hk];rfl
 rw[e];dsimp only;refine af ?_;unfold setNextDrawn;refine af (wpAny_setState_of ha gb T.fits ?_);dsimp only;rw[if_neg (by simp)];rw[Int.toNat_natCast,hx];refine ao ?_;refine af (wpAny_setField ho hd (by simp) ?_);refine ao ⟨x.2,rfl,ao (h _ ?_ (Heap.SameBut.update ..))⟩
 exact⟨_,Heap.get?_update_self _ ho (Obj.isFreed_of_fields (Obj.data_mapFields hd _)),(Obj.cls_mapFields ..).trans hc,by
  rw[Obj.data_mapFields hd]
  simp [rawInt]⟩
theorem OE {p:Addr}{ks:List Nat}{Q:Option Value->Shared->Prop}(hh:A.handled=none)(T:cg prog w (!bY w) s.heap a zs es ep t)(x1:fh s.heap it a (.ref p) ks.length es.size ep)(x2:lu s.heap p ks)
  (h:∀ h',Heap.ExtBut it s.heap h'->Q none { s with heap:=h' }):wpAny (model prog w) A (pyNext (.ref it)) Q E s:=by
 obtain⟨o,ho,hc,hd⟩:=id x1;obtain⟨oa,ha,oX,gb⟩:=T.get;obtain⟨op,np,xn,dS⟩:=x2;unfold pyNext;refine af (wpAny_attempt (wpAny_callSpecial?_slot (name:=Str.ofString "__next__") x1.ty ik (wpAny_call_entry ik x1.ty rK ?_ (rL _))));unfold Builtin.«set_iterator.__next__»;refine af (ao ?_);refine af (wpAny_fieldsOf ho hd ?_);dsimp only;refine af (wpAny_setEntries_of ha gb T.fits ?_);rw[if_neg (by simp)];refine af (wpAny_seqItems xn dS ?_);dsimp only
 have e:(ks.map fun(k:Nat)=>rawInt k).toArray[(ks.length:Int).toNat]?=none:=by
  rw[Int.toNat_natCast,getElem?_toArray,getElem?_map,getElem?_eq_none (ar _)];rfl
 rw[e];dsimp only;refine af (wpAny_setField ho hd (by simp) ?_);have o1:=Heap.get?_update_self (Obj.mapFields (·.setIfInBounds 0 (rawInt 0))) ho (Obj.isFreed_of_fields (Obj.data_mapFields hd _));refine af (wpAny_setField o1 (Obj.data_mapFields hd _) (by simp) ?_);show wpAny _ _ (newExc (.type "StopIteration") [] >>= _) _ _ _;refine af ?_;simp only[newExc,newTuple];refine af (wpAny_newObj_type ?_ (by size_fits));refine af (m:=firstArgMember _ _) (wpAny_of_eq (a:=Value.none) (by simp only[firstArgMember];rfl) ?_);refine wpAny_newObj_type ?_ (by size_fits);simp only[raiseNew];refine af (wpAny_handled ?_);rw[show A.in1.handled=none from hh];refine af (ao (wpAny_throw ?_));refine af (wpAny_isInstance (T:="StopIteration") (b:=true) ⟨_,b6 _ rfl,rfl⟩ isSubtype_stop ?_);exact ao (h _ ((((Heap.SameBut.update ..).trans (Heap.SameBut.update ..)).extBut.push _).push _))
end
section
variable {prog:Program}{w:World}{A:Around}{E:aG}{s:Shared}{it a:Addr}{zs:aq}{es:Array (Int×Value)}{ep:Nat}{t:SetTable}
theorem fh.kept {h h':Heap}{f:Value}{i n:Nat}(x:fh h it a f i n ep)(k:∀ o,h.get? it=some o->h'.get? it=some o):fh h' it a f i n ep:=by
 obtain⟨o,ho,r⟩:=x;exact⟨o,k _ ho,r⟩
theorem lu.kept {h h':Heap}{p:Addr}{ks:List Nat}(x:lu h p ks)(k:∀ o,h.get? p=some o->h'.get? p=some o):lu h' p ks:=by
 obtain⟨o,n,ho,r⟩:=x;exact⟨o,n,k _ ho,r⟩
theorem D7 {f:Value}{i n:Nat}{Q:aG}(x:fh s.heap it a f i n ep)(h:Q (.ref it) s):wpAny (model prog w) A (pyIter (.ref it)) Q E s:=by
 refine wpAny_pyIter_slot x.ty D4 (wpAny_call_entry D4 x.ty Ot ?_ (Ou _));show wpAny _ _ (ret (.ref it)) _ _ s;exact ao ⟨_,rfl,"set_iterator",_,x.ty,ik.lookup,h⟩
theorem OG (hh:A.handled=none)(ne:a≠it)(nd:(!bY w&&jr es t)=false) :
  Walks prog w A it [it,a] [it] es.size (λi v=>((gE w a ep es).toList.map (·.2))[i]?=some v) (λi h=>cg prog w (!bY w) h a zs es ep t/\fh h it a (.int (slt w t i) 0) i es.size ep) where
 sub:=λb m=>mem_cons.mpr (.inl (mem_singleton.mp m))
 frame:=λ_ _ _ st k=>⟨st.1.moved λo e=>k a (by simp) o e,st.2.kept λo e=>k it (by simp) o e⟩
 item:=λi s Q E hi st h=>by
  have z:=(rM w a ep es).length_eq;rw[Array.length_toList,Array.length_toList] at z;have e:(gE w a ep es)[i]?=some (gE w a ep es)[i]:=Array.getElem?_eq_getElem (by omega);refine OA st.1 st.2 nd e λh' x2 sb=>h _ h' s.toks ?_ ⟨st.1.moved λo q=>(sb.2 a ne).trans q,x2⟩ λb o m q=>(sb.2 b (λc=>m (mem_singleton.mpr c))).trans q;rw[getElem?_map,Array.getElem?_toList,e];rfl
 done:=λs Q E st h=>OB hh st.1 st.2 nd λh' eb=>h h' s.toks λb o m q=>eb b o (λc=>m (mem_singleton.mpr c)) q
 self:=λ_ _ _ _ st h=>D7 st.2 h
def atK (es:Array (Int×Value))(k:Nat):Value:=((es[k]?).map (·.2)).getD .none
theorem OH (es:Array (Int×Value)):(range es.size).map (atK es)=es.toList.map (·.2):=by
 refine ext_getElem (by simp) λi h1 h2=>?_;have hi:i<es.size:=by simpa using h1
 simp [atK,hi]
theorem OI {p:Addr}{ks:List Nat}(hh:A.handled=none)(ne:a≠it)(np:p≠it)(hp:ks.Perm (range es.size)) :
  Walks prog w A it [it,a,p] [it] ks.length (λi v=>(ks.map (atK es))[i]?=some v) (λi h=>cg prog w (!bY w) h a zs es ep t/\fh h it a (.ref p) i es.size ep/\lu h p ks) where
 sub:=λb m=>mem_cons.mpr (.inl (mem_singleton.mp m))
 frame:=λ_ _ _ st k=>⟨st.1.moved λo e=>k a (by simp) o e,st.2.1.kept λo e=>k it (by simp) o e,st.2.2.kept λo e=>k p (by simp) o e⟩
 item:=λi s Q E hi st h=>by
  have hk:ks[i]?=some ks[i]:=cf hi;have hm:ks[i]<es.size:=mem_range.mp (hp.mem_iff.mp (getElem_mem hi));have hx:es[ks[i]]?=some es[ks[i]]:=Array.getElem?_eq_getElem hm;refine OD st.1 st.2.1 st.2.2 hk hx λh' x2 sb=>h _ h' s.toks ?_ ⟨st.1.moved λo q=>(sb.2 a ne).trans q,x2,st.2.2.kept λo q=>(sb.2 p np).trans q⟩ λb o m q=>(sb.2 b (λc=>m (mem_singleton.mpr c))).trans q;rw[getElem?_map,hk];simp [atK,hm]
 done:=λs Q E st h=>OE hh st.1 st.2.1 st.2.2 λh' eb=>h h' s.toks λb o m q=>eb b o (λc=>m (mem_singleton.mpr c)) q
 self:=λ_ _ _ _ st h=>D7 st.2.1 h
theorem cg.strs {h:Heap}{lb:Bool}(T:cg prog w lb h a zs es ep t):∀ v∈es.toList.map (·.2),∃ z k,v=.str z k:=λv m=>by
 obtain⟨e,he,rfl⟩:=mem_map.mp m;obtain⟨⟨k,hk,_⟩,_⟩:=T.el e he;obtain⟨_,u,q⟩:=rJ hk;exact⟨k,u,q⟩
theorem cg.all {h:Heap}{lb:Bool}(T:cg prog w lb h a zs es ep t){vs:aC}(p:vs.Perm (es.toList.map (·.2))):(vs.map tx).Perm zs/\∀ v∈vs,∃ z k,v=.str z k:=by
 refine⟨(p.map tx).trans ?_,λv m=>T.strs v (p.mem_iff.mp m)⟩;rw[map_map];exact T.ks
theorem OJ {Q:aG}(hh:A.handled=none)(T:cg prog w (!bY w) s.heap a zs es ep t)
  (h:∀(it:Addr)(fp:List Addr)(vs:aC)(St:Nat->Heap->Prop)(h':Heap)(dr:Drawn),Walks prog w A it fp [it] vs.length (λi v=>vs[i]?=some v) St->St 0 h'->(∀ b o,s.heap.get? b=some o->h'.get? b=some o)->s.heap.objs.size<=it->(∀ b∈fp,b=a\/s.heap.objs.size<=b) ->
   (vs.map tx).Perm zs->(∀ v∈vs,∃ z k,v=.str z k)->Q (.ref it) { s with heap:=h',drawn:=dr }):wpAny (model prog w) A (pyIter (.ref a)) Q E s:=by
 obtain⟨oa,ha,oX,gb⟩:=T.get;have lt:a<s.heap.objs.size:=a0 ha;refine wpAny_pyIter_slot T.ty PySem.F.slot_set_iter (wpAny_call_entry PySem.F.slot_set_iter T.ty Oq ?_ (PySem.F.args_set_iter_1 _));unfold Builtin.«frozenset.__iter__»;unfold Builtin.Frozenset.slot0 Builtin.Frozenset.addrOf;refine af (af (ao ?_));refine ao ?_;unfold Builtin.Frozenset.sizeOf;refine af (af (wpAny_setEntries_of ha gb T.fits (ao ?_)));refine af (Ov T ?_)
 cases nd:(!bY w&&jr es t) with
 |false=>
  rw[if_neg Bool.false_ne_true];refine af (ao ?_);refine af ?_;unfold setEpoch;refine af (wpAny_setState_of ha gb T.fits (ao ?_));unfold newFields;refine af (wpAny_newObj_type ?_ (by size_fits))
  have x0:fh (s.heap.push { cls:=.type "set_iterator",data:=.fields #[rawInt 0,rawInt 0,.ref a,rawInt es.size,rawInt ep] }) s.heap.objs.size a (.int (slt w t 0) 0) 0 es.size ep:=by
   refine⟨_,b6 _ rfl,rfl,?_⟩;have q:slt w t 0=0:=by unfold slt;split<;>rfl
   rw[q];rfl
  have T0:=T.moved (h':=s.heap.push { cls:=.type "set_iterator",data:=.fields #[rawInt 0,rawInt 0,.ref a,rawInt es.size,rawInt ep] }) λo e=>a8 _ e;refine ao ⟨_,rfl,"set_iterator",_,x0.ty (s:={ s with heap:=_ }),ik.lookup,?_⟩;have pm:((gE w a ep es).toList.map (·.2)).Perm (es.toList.map (·.2)):=(rM w a ep es).map _;have al:=T.all pm;have W:=OG (prog:=prog) (w:=w) (A:=A) (it:=s.heap.objs.size) (a:=a) (zs:=zs) (es:=es) (ep:=ep) (t:=t) hh (bI lt) nd;have len:es.size=((gE w a ep es).toList.map (·.2)).length:=by rw[pm.length_eq,length_map,Array.length_toList]
  rw[len] at W
  exact h s.heap.objs.size _ _ _ _ s.drawn W ⟨T0,by rw[<- len];exact x0⟩ (λb o e=>a8 _ e) (ar _) (λb m=>by
   rcases mem_cons.mp m with rfl|m
   ·exact .inr (ar _)
   ·exact .inl (mem_singleton.mp m)) al.1 al.2
 |true=>
  rw[if_pos rfl];refine af (DR es.size (range es.size) _ _ (by simp) λks dr hp=>?_)
  have aF:ks.length<=sizeLine:=by
   rw[hp.length_eq,length_range];exact fits_of_scanBound T.aF
  refine af (wpAny_newTuple ?_ (by rw[length_map];exact aF));generalize hH:s.heap.push { cls:=.type "tuple",data:=.seq (ks.map fun(i:Nat)=>rawInt i).toArray }=H1;have k1:∀ b o,s.heap.get? b=some o->H1.get? b=some o:=λb o e=>by rw[<- hH];exact a8 _ e
  have z1:H1.objs.size=s.heap.objs.size+1:=by rw[<- hH];exact Heap.size_push ..
  have pl:lu H1 s.heap.objs.size ks:=⟨_,0,by rw[<- hH];exact b6 _ rfl,rfl⟩;refine af ?_;unfold setEpoch;refine af (wpAny_setState_of (k1 _ _ ha) gb T.fits (ao ?_));unfold newFields;refine af (wpAny_newObj_type ?_ (by size_fits));have x0:fh (H1.push { cls:=.type "set_iterator",data:=.fields #[.ref s.heap.objs.size,rawInt 0,.ref a,rawInt es.size,rawInt ep] }) H1.objs.size a (.ref s.heap.objs.size) 0 es.size ep:=⟨_,b6 _ rfl,rfl,rfl⟩;have T0:=T.moved (h':=H1.push { cls:=.type "set_iterator",data:=.fields #[.ref s.heap.objs.size,rawInt 0,.ref a,rawInt es.size,rawInt ep] }) λo e=>a8 _ (k1 _ _ e);refine ao ⟨_,rfl,"set_iterator",_,x0.ty (s:={ s with heap:=_,drawn:=dr }),ik.lookup,?_⟩;have pm:(ks.map (atK es)).Perm (es.toList.map (·.2)):=(hp.map _).trans (by rw[OH]);have al:=T.all pm;have W:=OI (prog:=prog) (w:=w) (A:=A) (it:=H1.objs.size) (a:=a) (zs:=zs) (es:=es) (ep:=ep) (t:=t) (p:=s.heap.objs.size) hh (by rw[z1];exact bI (Nat.lt_succ_of_lt lt)) (by rw[z1];exact bI (Nat.lt_succ_self _)) hp;have len:ks.length=(ks.map (atK es)).length:=by rw[length_map]
  rw[len] at W
  exact h H1.objs.size _ _ _ _ dr W ⟨T0,x0,pl.kept λo e=>a8 _ e⟩ (λb o e=>a8 _ (k1 _ _ e)) (by rw[z1];exact Nat.le_succ _) (λb m=>by
   rcases mem_cons.mp m with rfl|m
   ·exact .inr (by rw[z1];exact Nat.le_succ _)
   rcases mem_cons.mp m with rfl|m
   ·exact .inl rfl
   ·exact .inr (Nat.le_of_eq (mem_singleton.mp m).symm)) al.1 al.2
end
section
variable {prog:Program}{w:World}{A:Around}{E:aG}{s:Shared}{a:Addr}{zs:aq}{es:Array (Int×Value)}{ep:Nat}{t:SetTable}
theorem OK {Q:Bool->Shared->Prop}(ty:s.TypeIs (.ref a) "set")(h:Q false s):wpAny (model prog w) A (Builtin.List.listLengthHint (.ref a)) Q E s:=by
 unfold Builtin.List.listLengthHint;refine af (wpAny_specialOf ty PySem.F.slot_set_len.lookup ?_);generalize D8:("set.__len__":String)=OL
 wp_delta
 rw[show splitId OL=some ("set","__len__") from by subst D8;decide +kernel];subst D8;refine af (wpAny_isInstance (T:="set") (b:=true) ty PySem.sub_set_self ?_);refine wpAny_ite_split (λc=>absurd c (by decide)) (λ_=>?_);refine wpAny_ite_split (λ_=>?_) (λc=>absurd (by decide +kernel) c);exact af (wpAny_typeOf ty (ao h))
theorem OM {R:Result->Shared->Prop}(hh:A.handled=none)(T:cg prog w (!bY w) s.heap a zs es ep t)(S:Addr)(D9:S≠a)(res:Value)(c₀:Nat)(hS:s.heap.get? S=some { cls:=.type "list",data:=.seq #[] c₀ })(aF:zs.length<=1000)
  (fin:∀ h' tk dr vs c',(∀ b o,b≠S->s.heap.get? b=some o->h'.get? b=some o)->h'.get? S=some { cls:=.type "list",dict:=none,data:=.seq (vs:aC).toArray c',slots:=#[] }->(vs.map tx).Perm zs->(∀ v∈vs,∃ z k,v=.str z k) ->
   R (.ok (.ret res)) { s with heap:=h',toks:=tk,drawn:=dr }) :
  wpAny (model prog w) A.in1 (Builtin.List.listExtendWith (.ref S) (.ref a) res)
   (λf s'=>match f with|.done f=>R (.ok f) s'|.again c'=>c'.quiet=true/\codeAny (model prog w) A c' R s') (λe s'=>R (.error e) s') s:=by
 have D_:S<s.heap.objs.size:=a0 hS;unfold Builtin.List.listExtendWith;refine af (wpAny_typeOf (T:="set") T.ty ?_);have h1:Builtin.List.listSameRef (.ref S) (.ref a)=false:=by simp [Builtin.List.listSameRef,D9]
 have h2:(Value.type "set"==Value.type "list")=false:=by decide
 have h3:(Value.type "set"==Value.type "tuple")=false:=by decide
 simp only[h1,h2,h3,Bool.or_false,Bool.false_eq_true,if_false];refine af (OJ hh T λit fp vs St h' dr W st k1 li hf pm al=>?_)
 have hn:vs.length<=sizeLine:=by
  have z:=pm.length_eq;rw[length_map] at z;exact Nat.le_of_lt (jo (by omega))
 have nf:S∉fp:=λm=>(hf S m).elim D9 λz=>absurd D_ (Nat.not_lt.mpr z);have nw:S≠it:=λe=>absurd D_ (Nat.not_lt.mpr (e▸li))
 have loop:∀(h:Heap)(c₁ tk:Nat),St 0 h->(∀ b o,b≠S->s.heap.get? b=some o->h.get? b=some o)->h.get? S=some { cls:=.type "list",data:=.seq #[] c₁ } ->
   codeAny (model prog w) A (.builtin "list.extend.loop" ⟨[.ref S,.ref it,res],[]⟩) R { s with heap:=h,toks:=tk,drawn:=dr }:=by
  intro h c₁ tk st' k oY;refine codeAny_extend_loopS W.toS hn S nf res vs.length 0 _ #[] c₁ rfl (Nat.zero_le _) st' oY (ItemsOf.nil _) λs' acc c' mv eP fi=>?_;rw[Moved.eq_with mv]
  have ea:acc=vs.toArray:=by
   refine Array.ext (by rw[fi.1];simp) λi h1 h2=>?_;have q:vs[i]?=some acc[i]:=fi.2 i acc[i] (Array.getElem?_eq_getElem h1);have vI:i<vs.length:=by simpa using h2
   rw[cf vI] at q;simpa using (Option.some.inj q).symm
  subst ea;refine fin s'.heap s'.toks dr vs c' (λb o hb e=>mv.heap b o (λm=>?_) (k b o hb e)) eP pm al;rcases mem_cons.mp m with q|m
  ·exact hb q
  ·have q:=mem_singleton.mp m;subst q;exact absurd (a0 e) (Nat.not_lt.mpr li)
 have oY:=k1 _ _ hS;refine af (wpAny_holding (OK (T.moved (h':=h') λo e=>k1 _ _ e).ty ?_));refine wpAny_ite_split (λ_=>?_) (λ_=>ao ⟨plainId_quiet PySem.F.plain_extend_loop _,loop _ c₀ _ st (λb o _ e=>k1 b o e) oY⟩);refine af (wpAny_rule ?_);refine af ?_;show wpAny _ _ (updateSeq S (·.push .none) >>= λ_=>updateSeq S (·.pop)) _ _ _;refine af (wpAny_updateSeq oY rfl ?_);have D':=Heap.get?_update_self (Obj.mapSeq (·.push Value.none)) oY rfl;refine wpAny_updateSeq (hz:=by seq_fits) D' rfl ?_;have ON:=Heap.get?_update_self (Obj.mapSeq (·.pop)) D' rfl
 have Ea:∀ b o,b≠S->h'.get? b=some o->((h'.update S (Obj.mapSeq (·.push Value.none))).update S (Obj.mapSeq (·.pop))).get? b=some o:=λb o hb e=>
  (Heap.get?_update_other _ _ (Ne.symm hb)).trans ((Heap.get?_update_other _ _ (Ne.symm hb)).trans e)
 exact ao ⟨plainId_quiet PySem.F.plain_extend_loop _,loop _ _ _ (W.frame 0 _ _ st λb m o e=>Ea b o (λq=>nf (q▸m)) e) (λb o hb e=>Ea b o hb (k1 _ _ e)) ON⟩
theorem OO {R:aC->Shared->Prop}(hh:A.handled=none)(T:cg prog w (!bY w) s.heap a zs es ep t)(aF:zs.length<=1000)
  (h:∀ h' tk dr vs,(∀ b o,s.heap.get? b=some o->h'.get? b=some o)->s.heap.objs.size<h'.objs.size->(vs.map tx).Perm zs->(∀ v∈vs,∃ z k,v=.str z k)->R vs { s with heap:=h',toks:=tk,drawn:=dr }):wpAny (model prog w) A (collect (.ref a)) R E s:=by
 obtain⟨oa,ha,oX,gb⟩:=T.get;have lt:a<s.heap.objs.size:=a0 ha;unfold collect;refine af (wpAny_runValue (codeAny_builtin PyProof.Rows.entry_proto_collect' ?_));rw[Around.under_plainId PySem.F.plain_proto_collect _];show wpAny _ A.in1 (newList [] >>= λl=>again (.builtin "list.__iadd__" ⟨[l,.ref a],[]⟩)) _ _ s;refine af (wpAny_newObj_type ?_);refine ao ⟨plainId_quiet PySem.F.plain_list_iadd _,codeAny_builtin PyProof.Rows.entry_list_iadd' ?_⟩;rw[Around.under_plainId PySem.F.plain_list_iadd _];have g0:(s.heap.push { cls:=.type "list",data:=.seq ([]:aC).toArray }).get? s.heap.objs.size=some { cls:=.type "list",data:=.seq #[] }:=b6 _ rfl;show wpAny _ A.in1 (Builtin.List.listExtendWith (.ref s.heap.objs.size) (.ref a) (.ref s.heap.objs.size)) _ _ _;have T0:=T.moved (h':=s.heap.push { cls:=.type "list",data:=.seq ([]:aC).toArray }) λo e=>a8 _ e
 have key:=OM (A:=A) (s:={ s with heap:=s.heap.push { cls:=.type "list",data:=.seq ([]:aC).toArray } })
  (R:=fun(q:Result)(s':Shared)=>∃(h':Heap)(tk:Nat)(dr:Drawn)(vs:aC)(c':Nat),q=.ok (.ret (.ref s.heap.objs.size))/\s'={ s with heap:=h',toks:=tk,drawn:=dr } /\
   (∀ b o,s.heap.get? b=some o->h'.get? b=some o)/\h'.get? s.heap.objs.size=some { cls:=.type "list",dict:=none,data:=.seq vs.toArray c',slots:=#[] }/\(vs.map tx).Perm zs/\(∀ v∈vs,∃ z k,v=.str z k))
  hh T0 s.heap.objs.size (Nat.ne_of_gt lt) (.ref s.heap.objs.size) 0 g0 aF
  (λh' tk dr vs c' k eP pm al=>⟨h',tk,dr,vs,c',rfl,rfl,λb o e=>k b o (bI (a0 e)) (a8 _ e),eP,pm,al⟩)
 refine wpAny_mono key (λf s' x=>?_) λe s' x=>?_
 ·cases f with
  |done f=>
   obtain⟨h',tk,dr,vs,c',e,rfl,k,eP,pm,al⟩:=x;cases e;show wpAny _ A (load s.heap.objs.size >>= _) _ _ _;refine af (wpAny_load eP ?_);have q:=h h' tk dr vs k (a0 eP) pm al;exact ao (by simpa using q)
  |again c₁=>
   refine⟨x.1,codeAny_mono x.2 λq dR y=>?_⟩;obtain⟨h',tk,dr,vs,c',rfl,rfl,k,eP,pm,al⟩:=y;show wpAny _ A (load s.heap.objs.size >>= _) _ _ _;refine af (wpAny_load eP ?_);have q:=h h' tk dr vs k (a0 eP) pm al;exact ao (by simpa using q)
 ·obtain⟨_,_,_,_,_,e',_⟩:=x;cases e'
end
open PySem.Spec
def fN (a b:Str):Prop:=¬ b.cps.toList<a.cps.toList
theorem OP {a b:Str}(h1:fN a b)(h2:fN b a):a=b:=by
 have e:a.cps.toList=b.cps.toList:=List.le_antisymm (List.not_lt.mp h1) (List.not_lt.mp h2);obtain⟨x⟩:=a;obtain⟨y⟩:=b
 have:x=y:=by
  cases x;cases y;exact congrArg _ e
 rw[this]
theorem Eb {a b c:Str}(h1:fN a b)(h2:fN b c):fN a c:=List.not_lt.mpr (List.le_trans (List.not_lt.mp h1) (List.not_lt.mp h2))
theorem Ec:∀(p:Str)(l:aq),risingS p l=true->(p::l).Pairwise fN
 |p,[],_=>pairwise_singleton _ _
 |p,x::r,h=>by
  have h':(!ltCps x.cps.toList p.cps.toList&&risingS x r)=true:=h;rw[Bool.and_eq_true] at h';have z:=Ec x r h'.2
  have px:fN p x:=by
   have q:=h'.1;rw[ltCps_eq] at q;simpa [fN] using q
  refine pairwise_cons.mpr ⟨λy m=>?_,z⟩;rcases mem_cons.mp m with rfl|m
  ·exact px
  ·exact Eb px (rel_of_pairwise_cons z m)
theorem xo:∀{l:aq},sortedS l=true->l.Pairwise fN
 |[],_=>Pairwise.nil
 |x::r,h=>Ec x r h
theorem Ed:∀{l m:aq},l.Pairwise fN->m.Pairwise fN->l.Perm m->l=m
 |[],m,_,_,p=>p.nil_eq
 |x::r,[],_,_,p=>absurd p.length_eq (by simp)
 |x::r,y::q,h1,h2,p=>by
  have hx:x∈y::q:=p.mem_iff.mp mem_cons_self;have hy:y∈x::r:=p.mem_iff.mpr mem_cons_self
  have e:x=y:=by
   rcases mem_cons.mp hx with e|hx
   ·exact e
   rcases mem_cons.mp hy with e|hy
   ·exact e.symm
   exact OP (rel_of_pairwise_cons h1 hy) (rel_of_pairwise_cons h2 hx)
  subst e;rw[Ed (pairwise_cons.mp h1).2 (pairwise_cons.mp h2).2 p.cons_inv]
def js (zs ss:aq):Prop:=ss.Perm zs/\ss.Pairwise fN
theorem js.one {zs ys ss rs:aq}(h1:js zs ss)(h2:js ys rs)(p:zs.Perm ys):ss=rs:=Ed h1.2 h2.2 ((h1.1.trans p).trans h2.1.symm)
def mI (prog:Program)(w:World)(p:Addr)(zs:aq):Heap->Prop:=λh=>∃ es ep t,cg prog w (!bY w) h p zs es ep t
theorem rP:∀{us:aC}{ys:aq},StrsAre us ys->Vals (ys.map V.str) us
 |_,_,.nil=>.nil
 |_,_,.cons z t r=>.cons ⟨t,rfl⟩ (rP r)
theorem Ee:∀(vs:aC),(∀ v∈vs,∃ z k,v=.str z k)->StrsAre vs (vs.map tx)
 |[],_=>.nil
 |v::r,h=>by
  obtain⟨z,k,rfl⟩:=h v mem_cons_self;exact .cons z k (Ee r λu m=>h u (mem_cons_of_mem _ m))
section
variable {X:Cx}
theorem Inv.OQ {pins:aP}{σ:St}{H:Hp}{s:Shared}(I:Inv X pins σ H s)(dr:Drawn):Inv X pins σ H { s with drawn:=dr }:=I.AJ (ch:=[]) rfl Un.refl I.aA I.bare (λb hb=>nomatch hb)
theorem OR (hc:X.calm=true):cx X (.type "set") (λxs H Q=>∃ p ys,xs=[.ref p]/\aO X.K H p (ys.map V.str)/\ys.length<=1000/\∀ l,H l=none->Q (.ref l) (upd H l (.ext (mI X.prog X.w l (c9 ys))))):=by
 intro pins s σ H xs us Q I r h;obtain⟨p,ys,rfl,hl,hz,q⟩:=h;obtain⟨u,rfl,ru⟩:=vals1 r;cases ru;obtain⟨its,rv,pl,_⟩:=I.list hl;refine Ol (I.ok.hd hc) pl.isList (ys:=ys) (by simpa using qZ rv) (by unfold scanBound;omega) λh' tk es ep t T k=>?_;obtain⟨o,ho,_⟩:=T.get;exact⟨.ref _,_,I.laid (o:=.ext (mI X.prog X.w s.heap.objs.size (c9 ys))) (t':=tk) (λb u e=>k b u (a0 e) e) (ar _) ⟨⟨es,ep,t,T⟩,⟨o,ho⟩,λh1 h2 ⟨es,ep,t,T⟩ kk=>⟨es,ep,t,T.moved kk⟩⟩,rfl,q _ I.fresh⟩
theorem OS (hc:X.calm=true):cx X (.builtin "sorted") (λxs H Q=>∃ p zs,xs=[.ref p]/\H p=some (.ext (mI X.prog X.w p zs))/\zs.length<64/\∀ l ss,H l=none->js zs ss->Q (.ref l) (upd H l (.lst (ss.map V.str)))):=by
 intro pins s σ H xs us Q I r h;obtain⟨p,zs,rfl,hp,hz,q⟩:=h;obtain⟨u,rfl,ru⟩:=vals1 r;cases ru;obtain⟨⟨es,ep,t,T⟩,_,_⟩:=I.aA p _ hp;refine Calls.call_function_entry kind_sorted plain_sorted entry_sorted (args_sorted1 _) ?_;unfold Builtin.«sorted»;refine af (m:=checkCount "sorted" 1 1 _) (ao ?_);refine af (OO (A:=X.A.in1) (I.ok.hd hc) T (by omega) λh' tk dr vs k lt pm al=>?_)
 have len:vs.length<64:=by
  have z:=pm.length_eq;rw[length_map] at z;omega
 refine af (wpAny_newList ?_ (Nat.le_of_lt (jo (by omega))));have hS:=Ee vs al;have oL:(h'.push { cls:=.type "list",data:=.seq vs.toArray }).get? h'.objs.size=some (seqObj "list" vs.toArray 0):=b6 _ rfl;refine af (wpAny_holding (wpAny_call_entry slot_list_sort ⟨_,oL,rfl⟩ entry_list_sort (list_sort_treeK strKind_oneLt oL hS.keysOf (λOT OU rest e=>keyKind_strs (by rw[<- e];exact hS)) len λst' a1 a2=>⟨_,rfl,?_⟩) (args_list_sort _)));obtain⟨ss,b1,b2,b3⟩:=sorted_out_str hS a1 a2;obtain⟨ex,he⟩:=sortedHeap_at (out:=(arrOf st').map (·.2)) oL
 have kp:∀ b o,s.heap.get? b=some o->(sortedHeap (h'.push { cls:=.type "list",data:=.seq vs.toArray }) h'.objs.size vs ((arrOf st').map (·.2))).get? b=some o:=λb o e=>by
  have e1:=k b o e;have l1:=a0 e1;rw[sortedHeap_old (bI l1) (by rw[size_push'];exact Nat.lt_succ_of_lt l1)];exact a8 _ e1
 have le:s.heap.objs.size<=h'.objs.size:=Nat.le_of_lt lt
 have I1:=(I.OQ dr).laid (a:=h'.objs.size) (o:=.lst (ss.map V.str)) (t':=tk) kp le ⟨by rw[length_map,b2.length_eq,length_map];exact Nat.le_of_lt (jo (by omega)),((arrOf st').map (·.2)).toList,ex,rP b1,by
  rw[Array.toArray_toList]
  exact he⟩
 exact ao ⟨_,rfl,.ref h'.objs.size,_,I1,rfl,q _ ss (I.aA.fresh le) ⟨b2.trans pm,xo b3⟩⟩
theorem OV:cx X (.builtin "sorted") (λxs H Q=>∃ p ys,xs=[.ref p]/\aO X.K H p (ys.map V.str)/\ys.length<64/\∀ l ss,H l=none->js ys ss->Q (.ref l) (upd H l (.lst (ss.map V.str)))):=by
 intro pins s σ H xs us Q I r h;obtain⟨p,ys,rfl,hl,hz,q⟩:=h;obtain⟨u,rfl,ru⟩:=vals1 r;cases ru;obtain⟨its,rv,pl,_⟩:=I.list hl;have hS:StrsAre its ys:=qZ rv;have l0:=rv.length;rw[length_map] at l0;refine sorted_strs pl.isList hS (by omega) λout ss b1 b2 b3=>?_;obtain⟨ex,he⟩:=sortedAll_at s.heap its out;have I1:=I.laid (a:=s.heap.objs.size+1) (o:=.lst (ss.map V.str)) (t':=s.toks) (h':=sortedAll s.heap its out) (λb o e=>sortedAll_old e) (Nat.le_succ _) ⟨by rw[length_map,b2.length_eq];exact Nat.le_of_lt (jo (by omega)),_,ex,rP b1,by simpa [seqObj] using he⟩;exact⟨.ref _,_,I1,rfl,q _ ss (I.aA.fresh (Nat.le_succ _)) ⟨b2,xo b3⟩⟩
end
theorem OW {J:It}{g:TG}{tI:TT}{te:TE}{acc:Addr}{Q:VK}{σ:St}{H:Hp}(n:Nat)(Pv:Nat->St->Hp->Prop)(h0:Pv 0 σ H)(stop:∀ σ H,Pv n σ H->J.stop n H/\Q (.ref acc) H)
  (go:∀ i σ H,i<n->Pv i σ H->J.go i H/\∀ x H2,J.fJ i H x H2->g x σ H2 λcK H3=>tI cK H3 λb H4=>if b=true then te cK H4 λy H5=>∃ ys,H5 acc=some (.lst ys)/\ys.length<sizeLine/\Pv (i+1) cK (upd H5 acc (.lst (ys++[y]))) else Pv (i+1) cK H4) :
  oO J g tI te acc Q σ H:=by
 refine⟨λi m σ H=>m=n-i/\i<=n/\Pv i σ H,⟨n,by simp,Nat.zero_le _,h0⟩,?_⟩;rintro i m σ H ⟨rfl,hi,p⟩;by_cases eE:i<n
 ·obtain⟨g1,g2⟩:=go i σ H eE p;exact .inr ⟨g1,Pv (i+1),λaH H' p'=>⟨n-(i+1),by omega,rfl,eE,p'⟩,λx H2 y=>g2 x H2 y⟩
 ·have e:i=n:=by omega
  subst e;exact .inl (stop σ H p)
section
variable {X:Cx}{k:Nat}{f:Addr}{fd:FuncData}{ps:aq}{sp:Sp}{CX:fK}{E:XK}{x:Str}{p pos:Pos}{e:Expr}{es:List Expr}{t:TA}{i:Nat}
end
section
variable {X:Cx}
end
theorem OX (n:Nat):sliceRange ((n:Int)-1) (-1) (-1)=(range n).map λi=>n-1-i:=by
 unfold sliceRange;rw[if_neg (by decide)]
 have e:(if ((n:Int)-1) > -1 then ((n:Int)-1 - -1 - -1-1) / - -1 else 0).toNat=n:=by
  rw[show(- -1:Int)=1 from rfl,Int.ediv_one];by_cases h:((n:Int)-1) > -1
  ·rw[if_pos h];omega
  ·rw[if_neg h];omega
 simp only[e];refine map_congr_left λi hi=>?_;have:=mem_range.mp hi;omega
theorem OY (its:aC):slicePick its.toArray none none (some (-1))=its.reverse.toArray:=by
 unfold slicePick;have b:sliceBounds none none (some (-1)) its.toArray.size=((its.length:Int)-1,-1,-1):=rfl;rw[b];show((sliceRange ((its.length:Int)-1) (-1) (-1)).filterMap (its.toArray[·]?)).toArray=_;rw[OX]
 congr 1
 refine ext_getElem? λi=>?_;rw[filterMap_map]
 have all:∀(l:List Nat),(∀ j∈l,j<its.length)->l.filterMap ((λx=>its.toArray[x]?)∘λi=>its.length-1-i)=l.map λi=>its.getD (its.length-1-i) .none:=by
  intro l
  induction l with
  |nil=>intro _;rfl
  |cons j r ih=>
   intro h;have hj:=h j mem_cons_self
   have e:((λx=>its.toArray[x]?)∘λi=>its.length-1-i) j=some (its.getD (its.length-1-j) .none):=by
    show its.toArray[its.length-1-j]?=_;rw[getElem?_toArray,cf (by omega)];simp [getD,cf (show its.length-1-j<its.length by omega)]
   rw[filterMap_cons,e,map_cons,ih λk m=>h k (mem_cons_of_mem _ m)]
 rw[all _ λj m=>mem_range.mp m,getElem?_map];by_cases hi:i<its.length
 ·rw[getElem?_range hi,getElem?_reverse hi,Option.map_some];simp [getD,cf (show its.length-1-i<its.length by omega)]
 ·rw[getElem?_eq_none (by simpa using hi),getElem?_eq_none (by simpa using hi)];rfl
section
variable {X:Cx}{e:Expr}{te:TE}{pos p2 p3 p4:Pos}{j:Nat}
theorem OZ {K:Frag}(hK:X.K=K)(he:PE X e te):PE X (.Subscript e (.Slice none none (some (.UnaryOp .USub (.Constant (.int 1) j p3) p4)) p2) pos) (λσ H Q=>te σ H λx H1=>∃ a xs,x=.ref a/\aO K H1 a xs/\∀ p,H1 p=none->Q (.ref p) (upd H1 p (.lst xs.reverse))):=by
 subst hK;intro pins s σ H Q I h;refine Subscript_ (aD (he pins s σ H _ I h) λv s1 ⟨x,H1,I1,r1,q1⟩=>?_);obtain⟨a,xs,rfl,hx,q⟩:=q1;cases r1;refine wpAny_Slice ?_;rw[evalPart_none];refine ao (ao ?_);rw[evalPart_some];refine aD (A6 (X:=X) A8 (cQ (i:=1)) pins s1 σ H1 (λu H2=>u=.int (-1)/\H2=H1) I1 ⟨1,rfl,rfl,rfl⟩) λu s2 ⟨x2,H2,I2,r2,e1,e2⟩=>?_;subst e1 e2;obtain⟨t,rfl⟩:=r2;obtain⟨its,r,ht,hz⟩:=I2.list hx;have hlen:=r.length;have k:∀ b o,s2.heap.get? b=some o->(s2.heap.push { cls:=.type "slice",data:=.fields #[.none,.none,.int (-1) t] }).get? b=some o:=λb o e=>a8 _ e;have I3:Inv X pins σ H2 { s2 with heap:=s2.heap.push { cls:=.type "slice",data:=.fields #[.none,.none,.int (-1) t] } }:=I2.kept (t':=s2.toks) k;have Ef:(s2.heap.push { cls:=.type "slice",data:=.fields #[.none,.none,.int (-1) t] }).IsList a its.toArray:=ht.isList.push _
 have hg:wpAny (model X.prog X.w) X.A (getItem (.ref a) (.ref s2.heap.objs.size)) (EP X pins σ Q) X.xe { s2 with heap:=s2.heap.push { cls:=.type "slice",data:=.fields #[.none,.none,.int (-1) t] } }:=by
  refine wpAny_getItem_list_slice Ef (Heap.IsSliceOf.new ..) .none .none (.int (-1) t) (by simp) ?_ (by rw[size_toArray];omega);rw[OY];refine⟨.ref _,_,I3.laid (t':=s2.toks) (o:=.lst xs.reverse) (λb ob q=>a8 _ q) (ar _) ?_,rfl,q _ (I3.aA.fresh (ar _))⟩;exact⟨by rw[length_reverse];exact hz,its.reverse,0,r.reverse,b6 _ rfl⟩
 show wpAny (model X.prog X.w) X.A (subscriptTail e (.Slice none none (some (.UnaryOp .USub (.Constant (.int 1) j p3) p4)) p2) (.ref a) (.ref s2.heap.objs.size)) (EP X pins σ Q) X.xe _;exact tail_any (ops:=[.ref a,.ref s2.heap.objs.size]) (Ef.typeIs (s:={ s2 with heap:=_ })) slot_list_getitem.lookup hg (by with_unfolding_all rfl)
end
section
variable {prog:Program}{w:World}{A:Around}{E:aG}{s:Shared}
theorem O0 {l:Addr}{items:Array Value}{ys:aq}{Q:aG}(hh:A.handled=none)(hl:s.heap.IsTuple l items)(hi:StrsAre items.toList ys)(hb:ys.length+1<scanBound)
  (h:∀ h' tk es ep t,cg prog w (!bY w) h' s.heap.objs.size (c9 ys) es ep t->(∀ b o,b<s.heap.objs.size->s.heap.get? b=some o->h'.get? b=some o)->Q (.ref s.heap.objs.size) { s with heap:=h',toks:=tk }) :
  wpAny (model prog w) A (call (.type "set") [.ref l]) Q E s:=by
 obtain⟨c,tl,q0⟩:=PySem.F.called_set.mro;have q1:=PySem.F.called_set.made;have q2:=PySem.F.called_set.sub;refine wpAny_call (codeAny_of_tree ?_);show wpAny _ _ (callAny (.type "set") _) _ _ _;refine ao ⟨Code.quiet_builtin _ (by decide +kernel),codeAny_builtin PySem.F.entry_type_call ?_⟩;rw[Around.under_plain (weight_type_call_type "set" [.ref l] []) rfl];have q3:=PySem.F.called_set.notType;have q4:=PySem.F.called_set.canCreate;have q5:=PySem.F.typeCall_set_1 (.ref l)
 repeat (any_goals (first|assumption|wp_step))
 refine codeAny_mono (D3 (.ref l) (E:=E) (Q₁:=λobj aT=>obj=.ref s.heap.objs.size/\aT={ s with heap:=s.heap.push (d6 w) }) ⟨rfl,rfl⟩) λr aT hr=>?_
 cases r with
 |error e=>exact hr
 |ok fl=>
  cases fl with
  |ret obj=>
   obtain⟨rfl,rfl⟩:=hr;have g0:(s.heap.push (d6 w)).get? s.heap.objs.size=some (d6 w):=b6 _ rfl;have ty:Shared.TypeIs { s with heap:=s.heap.push (d6 w) } (.ref s.heap.objs.size) "set":=⟨_,g0,rfl⟩;have q6:=PySem.F.called_set.init.lookup;have q7:=PySem.F.called_set.init.bind (.ref s.heap.objs.size)
   repeat (any_goals (first|assumption|wp_step))
   refine codeAny_mono (codeAny_call_builtin (R:=wants (λr dR=>r=.none/\∃ h' tk,dR={ s with heap:=h',toks:=tk }/\(∃ es ep t,cg prog w (!bY w) h' s.heap.objs.size (c9 ys) es ep t) /\
     (∀ b o,b<s.heap.objs.size->s.heap.get? b=some o->h'.get? b=some o)) E) PySem.F.called_set.init.plain PySem.F.entry_set_init (check_set_init_1 ty ?_)) λxg dR lq=>?_
   ·obtain⟨ol,g1,cl,nl,dl⟩:=hl;obtain⟨Om,xh,Oo,xi⟩:=ol;simp only at cl dl;subst cl;subst dl;have g2:(s.heap.push (d6 w)).get? l=some { cls:=.type "tuple",dict:=xh,data:=.seq items nl,slots:=xi }:=a8 _ g1;have q8:=PySem.F.sub_tuple_set;have q9:=PySem.F.sub_tuple_frozenset;have f':(Value.type "tuple"==Value.type "dict")=false:=by decide
    have l1:(s.heap.push (d6 w)).IsTuple l items:=⟨_,g2,rfl,nl,rfl⟩;unfold Builtin.«set.__init__» noKeywords;unfold Builtin.Frozenset.updateFrom;generalize xj:pyIter=PI;wp_walk;subst xj;refine wpAny_pyIter_tuple l1 ?_;refine af (wpAny_runValue ?_);have lt:l<s.heap.objs.size:=a0 g1;have xk:A.in1.in1.in1.handled=none:=by simp [hh]
    have sz:(s.heap.push (d6 w)).objs.size=s.heap.objs.size+1:=Heap.size_push ..;have ne:l≠(s.heap.push (d6 w)).objs.size:=by rw[sz];exact bI (Nat.lt_succ_of_lt lt)
    have nf:s.heap.objs.size∉[(s.heap.push (d6 w)).objs.size,l]:=by
     rw[sz];simp only[mem_cons,mem_singleton,not_mem_nil,or_false,not_or];exact⟨bI (Nat.lt_succ_self _),Nat.ne_of_gt lt⟩
    have hn:items.size=ys.length:=by
     have z:=StrsAre.length hi;rw[Array.length_toList] at z
     first|exact z|exact z.symm
    refine D1 (lb:=!bY w) ((Walks.tuple xk _ l ne items).toS) s.heap.objs.size nf ys hn.symm (λi v e=>xc hi i v (by rw[Array.getElem?_toList];exact e)) (by rw[hn];exact hb) (items.size-0) 0 _ (by omega) (Nat.zero_le _)
     ⟨⟨_,b6 _ rfl,rfl,rfl⟩,(l1.push _)⟩ ?_ ?_
    ·exact⟨#[],0,.fresh 0 0 (!bY w),⟨_,a8 _ g0,⟨rfl,rfl,rfl⟩,rfl⟩,λe he=>by simp at he,by decide,by rfl,rfl,.inl rfl,.refl _⟩
    ·intro s' mv T;obtain⟨h',g',d',lr,ou⟩:=s';have eg:g'=s.gens:=mv.gens;have ed:d'=s.drawn:=mv.drawn;have eo:ou=s.os:=mv.os;subst eg ed eo;show wpAny _ _ _ _ _ _;refine ao ?_;show wpAny _ _ (ret Value.none) _ _ _;refine ao ⟨rfl,h',lr,rfl,T,λb o hb e=>?_⟩;refine mv.heap b o ?_ (a8 _ (a8 _ e));simp only[mem_cons,mem_singleton,not_mem_nil,or_false,not_or];exact⟨bI hb,by rw[sz];exact bI (Nat.lt_succ_of_lt hb)⟩
   ·cases xg with
    |error e=>exact lq
    |ok xl=>
     cases xl with
     |ret r=>
      obtain⟨rfl,h',tk,rfl,⟨es,ep,t,T⟩,k⟩:=lq
      repeat (any_goals (first|assumption|wp_step))
      exact h h' tk es ep t T k
     |_=>exact lq.elim
  |_=>exact hr.elim
end
inductive Rl {α:Type}(R:α->V->Prop):List α->Zv->Prop where
 |nil:Rl R [] []
 |cons {a:α}{v:V}{as:List α}{vs:Zv}:R a v->Rl R as vs->Rl R (a::as) (v::vs)
section
variable {α:Type}{R S:α->V->Prop}
theorem Rl.len {as:List α}{vs:Zv}(h:Rl R as vs):as.length=vs.length:=by
 induction h with
 |nil=>rfl
 |cons _ _ ih=>simp [ih]
end
def kd (t:Bool):Str:=if t then "text" else "number"
section
variable {X:Cx}
end
theorem O1:typeLookup (.type "list") "keys"=pure none:=am_miss_of_fast (by kernel_rfl)
section
variable {prog:Program}{w:World}{A:Around}{E:aG}{s:Shared}
theorem O2 {a:Addr}{xs:Array Value}{k:Nat}{sl:Array (Option Value)}{Q:Option Value->Shared->Prop}(hx:s.heap.get? a=some { cls:=.type "list",dict:=none,data:=.seq xs k,slots:=sl })(hA:A.handled=none)
  (h:∀ h' tk,(∀ b o,s.heap.get? b=some o->h'.get? b=some o)->Q none { s with heap:=h',toks:=tk }):wpAny (model prog w) A (getAttr? (.ref a) "keys") Q E s:=by
 obtain⟨hp,gs,dr,tk,os⟩:=s;have hT:∀ lr,(⟨hp,gs,dr,lr,os⟩:Shared).TypeIs (.ref a) "list":=λ_=>⟨_,hx,rfl⟩;have f1:=sub_AttributeError;have f3:=PySem.F.slot_list_getattribute.lookup;have f4:=PySem.F.slot_list_getattribute.bind (.ref a);have f5:=am_list_getattr_none;unfold getAttr? getAttrBy? getAttrBy
 repeat (any_goals (first|assumption|exact hT _|((with_reducible show wpAny _ _ (call (Value.builtin "list.__getattribute__") _ _) _ _ _);refine call_meets PySem.F.slot_list_getattribute (hT _) am_entry_list_getattribute (PySem.F.args_list_getattribute_2 _ _) (meets_getattribute_miss_list a xs k sl "keys" _ O1 (by decide +kernel)) ⟨hx,hA,λh' lr e Eg=>?_⟩)|wp_step))
 obtain⟨t',u',he⟩:=Eg.there;show wpAny _ _ (getattributeRaised _ _ _ _ _ _ _) _ _ _;unfold getattributeRaised
 repeat (any_goals (first|assumption|wp_step))
 exact h h' lr Eg.of.keeps
end
theorem Eh:entryFor table "dict.update.loop"=some Builtin.«dict.update.loop»:=entryFor_of_tree (by kernel_rfl)
theorem rQ:plainId "dict.update.loop"=true:=by decide +kernel
def putAll (kvs:List (Key×Value)):List (Key×Value):=kvs.foldl (λacc kv=>stored acc kv.1 kv.2) []
theorem O3 (kvs:List (Key×Value))(k:Key)(v:Value):(stored kvs k v).length<=kvs.length+1:=by
 unfold stored
 split<;>simp
section
variable {prog:Program}{w:World}{A:Around}{R:Result->Shared->Prop}{I:Addr}{fp wr:List Addr}{G:Array GenState->Array GenState->Prop}{n:Nat}{P:Nat->Value->Prop}{St:Nat->Shared->Prop}
theorem O4 (W:WalksS prog w A.in1 I fp wr G n P St)(D:Addr)(Ei:D∉fp)(h0:Heap)(kvs:List (Key×Value))(res:Value)(aF:n<=1000)
  (hv:∀ i v,P i v->∃ p o m key x k,v=.ref p/\p∉D::wr/\h0.get? p=some o/\o.cls=.type "tuple"/\o.data=.seq #[key,x] m/\kvs[i]?=some (k,x)/\(bM prog w).is k key=true)(hn:kvs.length=n) :
  ∀(c i:Nat)(s:Shared),n-i=c->i<=n->St i s->s.heap.DictOf (bM prog w) D (putAll (kvs.take i))->(∀ b o,b∉D::wr->h0.get? b=some o->s.heap.get? b=some o) ->
   (∀ s',Moved (D::wr) G s s'->s'.heap.DictOf (bM prog w) D (putAll kvs)->R (.ok (.ret res)) s')->codeAny (model prog w) A (.builtin "dict.update.loop" ⟨[.ref D,.ref I,rawInt i,res],[]⟩) R s:=by
 have nw:D∉wr:=λm=>Ei (W.sub _ m);have sub:∀ b∈wr,b∈D::wr:=λb m=>mem_cons_of_mem _ m;intro c
 induction c with
 |zero=>
  intro i s hk hi st T kp fin;have e:i=n:=by omega
  subst e;refine codeAny_builtin Eh ?_;rw[Around.under_plainId rQ _];show wpAny _ A.in1 (pyNext (.ref I) >>= _) _ _ s;refine af (W.done s _ _ st λs' mv=>?_);show wpAny _ A.in1 (Builtin.Dict.addKeywords D [] >>= _) _ _ s';refine af (ao ?_);rw[<- hn,take_length] at T;refine ao (fin s' (mv.mono sub) ?_);obtain⟨o,es,ep,ho,r⟩:=T;exact⟨o,es,ep,mv.heap D _ nw ho,r⟩
 |succ c ih=>
  intro i s hk hi st T kp fin;have lt:i<n:=by omega
  refine codeAny_builtin Eh ?_;rw[Around.under_plainId rQ _];show wpAny _ A.in1 (pyNext (.ref I) >>= _) _ _ s;refine af (W.item i s _ _ lt st λv s' hP st' mv=>?_);obtain⟨p,o,m,key,x,k,rfl,np,ho,hc,hd,mJ,O5⟩:=hv i v hP;have O6:p∉wr:=λq=>np (sub _ q);have e8:=mv.heap p _ O6 (kp p o np ho)
  have T':s'.heap.DictOf (bM prog w) D (putAll (kvs.take i)):=by
   obtain⟨od,es,ep,O7,r⟩:=T;exact⟨od,es,ep,mv.heap D _ nw O7,r⟩
  have len:(putAll (kvs.take i)).length<=1000:=by
   have z:∀(l acc:List (Key×Value)),(l.foldl (λacc kv=>stored acc kv.1 kv.2) acc).length<=acc.length+l.length:=by
    intro l
    induction l with
    |nil=>intro acc;simp
    |cons kv r xp=>
     intro acc;refine bU (xp _) ?_;have:=O3 acc kv.1 kv.2;simp only[length_cons];omega
   have z2:=z (kvs.take i) [];rw[length_take,length_nil] at z2;show(foldl (fun(acc:List (Key×Value))(kv:Key×Value)=>stored acc kv.1 kv.2) [] (kvs.take i)).length<=1000;omega
  have et:putAll (kvs.take (i+1))=stored (putAll (kvs.take i)) k x:=by
   unfold putAll;rw[take_add_one,mJ,foldl_append];rfl
  dsimp only;refine af (wpAny_holding ?_);refine af (wpAny_tryCatch ?_);unfold Builtin.Dict.pairItems;refine af (wpAny_typeOf (T:="tuple") ⟨o,e8,hc⟩ ?_);rw[if_pos (by decide)];refine af (wpAny_seqItems e8 hd (ao ?_));dsimp only[Option.getD_some];refine wpAny_holding (wpAny_dictSet_pairs O5 T' (λh' dd sb=>?_) (Nat.le_of_lt (jo len)));rw[<- et] at dd;refine ao ⟨plainId_quiet rQ _,ih (i+1) _ (by omega) lt (W.frame _ s' _ _ st' (Nat.le_succ _) λb hb ob e=>?_) dd (λb ob hb e=>?_) λs2 xf T3=>?_⟩
  ·rw[sb.2 b (λq:b=D=>Ei (q▸hb))];exact e
  ·rw[sb.2 b (λq:b=D=>hb (q▸mem_cons_self))];exact mv.heap b ob (λq=>hb (sub _ q)) (kp b ob hb e)
  ·refine fin s2 (Moved.trans W.gtrans ((mv.mono sub).then_heap (Nat.le_succ _) λb ob hb e=>?_) xf) T3;rw[sb.2 b (λq:b=D=>hb (q▸mem_cons_self))];exact e
end
section
variable {prog:Program}{w:World}{A:Around}{E:aG}{s:Shared}
theorem O8 {l:Addr}{its:aC}{m:Nat}{kvs:List (Key×Value)}{Q:aG}(hh:A.handled=none)(hl:s.heap.get? l=some { cls:=.type "list",data:=.seq its.toArray m })(aF:its.length<=1000)(hn:kvs.length=its.length)
  (hv:∀(i:Nat)(v:Value),its[i]?=some v->∃ p o m key x k,v=.ref p/\s.heap.get? p=some o/\o.cls=.type "tuple"/\o.data=.seq #[key,x] m/\kvs[i]?=some (k,x)/\(bM prog w).is k key=true)
  (h:∀ h' tk,h'.DictOf (bM prog w) s.heap.objs.size (putAll kvs)->(∀ b o,s.heap.get? b=some o->h'.get? b=some o)->Q (.ref s.heap.objs.size) { s with heap:=h',toks:=tk }) :
  wpAny (model prog w) A (call (.type "dict") [.ref l]) Q E s:=by
 refine callType_codes (Q₁:=λobj aT=>obj=.ref s.heap.objs.size/\aT={ s with heap:=s.heap.push { cls:=.type "dict",data:=.dict #[] } }) PySem.F.kt_called_dict (PySem.F.kt_typeCall_dict_1 _) PySem.F.entry_dict_init (kt_code_dict_new _ ⟨rfl,rfl⟩) ?_;rintro obj aT ⟨rfl,rfl⟩;have new:(s.heap.push { cls:=.type "dict",data:=.dict #[] }).DictOf (bM prog w) s.heap.objs.size []:=Heap.DictOf.new s.heap;refine⟨new.typeIs,PySem.F.args_dict_init_2 _ _,?_⟩;unfold Builtin.«dict.__init__»;refine af ?_;unfold Builtin.Dict.selfAndRest;refine af (wpAny_notOrdered_dict new.typeIs ?_);show wpAny _ _ (pure (s.heap.objs.size,[Value.ref l])) _ _ _;refine ao ?_;show wpAny _ _ (Builtin.Dict.updateFrom "dict.__init__" s.heap.objs.size (.ref l) [] .none) _ _ _;unfold Builtin.Dict.updateFrom;have l1:(s.heap.push { cls:=.type "dict",data:=.dict #[] }).get? l=some { cls:=.type "list",data:=.seq its.toArray m }:=a8 _ hl;refine af (wpAny_typeOf (T:="list") ⟨_,l1,rfl⟩ ?_);rw[if_pos (by decide)];refine af (O2 l1 (by simp [hh]) λh1 mK k1=>?_);rw[if_pos (show(none:Option Value).isNone=true from rfl)];refine af (wpAny_rule ?_);have l2:=k1 _ _ l1;have Ej:h1.IsList l its.toArray:=⟨_,l2,rfl,m,rfl⟩
 have d1:h1.DictOf (bM prog w) s.heap.objs.size []:=by
  obtain⟨o,es,ep,ho,r⟩:=new;exact⟨o,es,ep,k1 _ _ ho,r⟩
 refine af (wpAny_pyIter_list Ej ?_)
 have sz:s.heap.objs.size<h1.objs.size:=by
  obtain⟨o,es,ep,ho,r⟩:=d1;exact a0 ho
 have lt:l<s.heap.objs.size:=a0 hl;have ne:l≠h1.objs.size:=bI (Nat.lt_trans lt sz)
 have nf:s.heap.objs.size∉[h1.objs.size,l]:=by
  simp only[mem_cons,mem_singleton,not_mem_nil,or_false,not_or];exact⟨bI sz,Nat.ne_of_gt lt⟩
 refine ao ⟨plainId_quiet rQ _,?_⟩
 refine O4 ((Walks.list (by simp [hh]) _ l ne its.toArray).toS) s.heap.objs.size nf h1 kvs .none (by rw[size_toArray];exact aF) (λi v e=>?_) (by rw[size_toArray];exact hn) (its.toArray.size-0) 0 _ (by omega) (Nat.zero_le _)
  ⟨⟨_,b6 _ rfl,rfl,rfl⟩,Ej.push _⟩ ?_ (λb o _ e=>a8 _ e) (λs' mv T=>?_)
 ·obtain⟨p,o,m',key,x,k,rfl,ho,r⟩:=hv i v (by simpa using e);have lp:p<s.heap.objs.size:=a0 ho;refine⟨p,o,m',key,x,k,rfl,?_,k1 _ _ (a8 _ ho),r⟩;simp only[mem_cons,mem_singleton,not_mem_nil,or_false,not_or];exact⟨bI lp,bI (Nat.lt_trans lp sz)⟩
 ·exact d1.push _
 ·rw[Moved.eq_with mv];refine⟨rfl,h s'.heap s'.toks T λb o e=>?_⟩;have lb:b<s.heap.objs.size:=a0 e;refine mv.heap b o ?_ (a8 _ (k1 _ _ (a8 _ e)));simp only[mem_cons,mem_singleton,not_mem_nil,or_false,not_or];exact⟨bI lb,bI (Nat.lt_trans lb sz)⟩
end
def rR (kvs:bh):bh:=kvs.foldl (λacc kv=>putK acc kv.1 kv.2) []
theorem O9 (kvs:bh):(rR kvs).length<=kvs.length:=by
 have z:∀(l acc:bh),(l.foldl (λacc kv=>putK acc kv.1 kv.2) acc).length<=acc.length+l.length:=by
  intro l
  induction l with
  |nil=>intro acc;simp
  |cons kv r ih=>
   intro acc;refine bU (ih _) ?_;have:=qH acc kv.1 kv.2;simp only[length_cons];omega
 have q:=z kvs [];rw[length_nil,Nat.zero_add] at q;exact q
section
variable {X:Cx}
theorem O_ {kvs:bh}{vs:List (Key×Value)}(r:KV kvs vs):KV (rR kvs) (putAll vs):=by
 have z:∀{l:bh}{m:List (Key×Value)}{acc:bh}{acc':List (Key×Value)},KV l m->KV acc acc'->KV (l.foldl (λacc kv=>putK acc kv.1 kv.2) acc) (m.foldl (λacc kv=>stored acc kv.1 kv.2) acc'):=by
  intro l
  induction l with
  |nil=>intro m acc acc' h g;cases h;exact g
  |cons kv r ih=>
   intro m acc acc' h g
   match m,h with
   |b::m',.cons h t=>
    obtain⟨e,rv⟩:=h;refine ih (m:=m') (acc:=putK acc kv.1 kv.2) (acc':=stored acc' b.1 b.2) t ?_;rw[<- e];exact g.put _ rv
 exact z r .nil
end
section
variable {X:Cx}
def Ek (K:Frag):R2:=λx y H Q=>∃ a b xs ys,x=.ref a/\y=.ref b/\bq K H a xs/\bq K H b ys/\xs.length+ys.length<=sizeLine /\
 (xs=[]->Q (.ref b) H)/\(xs≠[]->ys=[]->Q (.ref a) H)/\(xs≠[]->ys≠[]->∀ p,H p=none->Q (.ref p) (upd H p (.tup (xs++ys))))
theorem O':bx X (binaryOp .Add) (Ek X.K):=by
 intro pins s σ H x y v u Q I rx ry h;obtain⟨a,b,xs,ys,rfl,rfl,ha,hb,hz,q0,q1,q2⟩:=h;by_cases hx:xs=[]
 ·cases rx;cases ry;obtain⟨its,r1,p1,_⟩:=I.tuple ha;obtain⟨fz,r2,p2,_⟩:=I.tuple hb;have e:its=[]:=r1.qS.mpr hx;obtain⟨⟨cls,dd,data,sl⟩,ho,hc,n,hd⟩:=id p1;obtain⟨⟨L0,mz,data2,k5⟩,k7,jY,n2,hd2⟩:=id p2;simp only at hc hd jY hd2;subst hc hd jY hd2
  exact concat_meets ⟨_,ho,rfl⟩ ⟨_,k7,rfl⟩ noFill_tuple_add seq_tuple_add PySem.F.slot_tuple_add PySem.F.entry_tuple_add (PySem.F.args_tuple_add_2 _ _)
   (tuple_addW0 a b its.toArray fz.toArray n n2 dd mz sl k5 (by simp [e])) ⟨ho,k7,⟨.ref b,H,I,rfl,q0 hx⟩⟩
 ·exact Md pins s σ H _ _ v u Q I rx ry ⟨a,b,xs,ys,rfl,rfl,ha,hb,hx,hz,q1 hx,q2 hx⟩
end
section
variable {X:Cx}{pins:aP}{σ:St}{H:Hp}{s:Shared}
theorem Inv.El {p:Addr}{kvs:bh}(I:Inv X pins σ H s)(h:H p=some (.dK kvs)):∃ od,Inv X pins σ (upd H p (.bB od (.dK kvs))) s:=by
 obtain⟨z,n,vs,r,ob,es,ep,e,rest⟩:=qI I.aA h;refine⟨ob,I.write (x:=p) (e:=p) (h':=s.heap) (t':=s.toks) (by rw[h];trivial) (.inl rfl) (λ_ _ _ q=>q) ⟨ob,e⟩ ⟨⟨e,λ_ z=>nomatch z⟩,z,n,vs,r,ob,es,ep,e,rest⟩⟩
theorem PE.post {e:Expr}{t t':TE}(h:PE X e t)(f:∀ σ H Q,t' σ H Q->t σ H λv H1=>∀ pins s,Inv X pins σ H1 s->∃ H2,Inv X pins σ H2 s/\Q v H2):PE X e t':=λpins s σ H Q I w=>
 aD (h pins s σ H _ I (f _ _ _ w)) λu s1 ⟨v,H1,I1,r,q⟩=>by
  obtain⟨H2,I2,q2⟩:=q pins s1 I1;exact⟨v,H2,I2,r,q2⟩
theorem Pa:cx X (.type "dict") (λxs H Q=>∃ a kvs,xs=[.ref a]/\Rd H a (.dK kvs)/\∀ p,H p=none->Q (.ref p) (upd H p (.dK kvs))):=by
 intro pins s σ H xs us Q I r h;obtain⟨a,kvs,rfl,ha,q⟩:=h;obtain⟨u,rfl,ru⟩:=vals1 r;cases ru;exact LY I ha λp s' hp I'=>⟨.ref p,_,I',rfl,q p hp⟩
theorem Pb:vt X "dict.update" (λx vs H Q=>∃ d o kvs more,x=.ref d/\vs=[.ref o]/\d≠o/\H d=some (.dK kvs)/\Rd H o (.dK more)/\kvs.length+more.length<=sizeLine/\Q .non (upd H d (.dK (hV kvs more)))):=by
 intro pins s σ H x xs v us Q I rx rv h;obtain⟨d,o,kvs,more,rfl,rfl,bK,hd,ho,hz,q⟩:=h;cases rx;obtain⟨u,rfl,ru⟩:=vals1 rv;cases ru;obtain⟨z1,n1,Pc,r1,Em⟩:=qI I.aA hd;obtain⟨z2,n2,Pd,r2,mz⟩:=ho.ok I.aA
 refine call_meetsIn PySem.F.slot_dict_update Em.typeIs PySem.F.entry_dict_update (PySem.F.args_dict_update_2 _ _) (meets_dict_update (bM X.prog X.w) d o bK n2)
  ⟨Pc,Pd,Em,mz,(by rw[<- r1.length,<- r2.length];exact hz),λh' gy _ hs=>?_⟩
 refine⟨.non,_,qM (t':=s.toks) I (by rw[hd];trivial) hs ?_ (oB (bU (vh _ _) hz) n1 (KV.merge r2 r1) gy),rfl,q⟩;obtain⟨ob,_,_,e,_⟩:=gy;exact⟨ob,e⟩
def mL (a:Addr)(od:Obj):It:=
 ⟨λi H=>∃ kvs kv,H a=some (.bB od (.dK kvs))/\kvs[i]?=some kv,λi H x H'=>H'=H/\∀ kvs,H a=some (.bB od (.dK kvs))->∃ kv,kvs[i]?=some kv/\x=kV kv.1,λi H=>∃ kvs,H a=some (.bB od (.dK kvs))/\kvs.length<=i⟩
theorem Pe {kvs:bh}{vs:List (Key×Value)}(h:KV kvs vs){i:Nat}{kv:Key×V}(e:kvs[i]?=some kv):∃ u,vs[i]?=some (kv.1,u):=by
 unfold KV at h
 induction h generalizing i with
 |nil=>simp at e
 |@cons p q xs ys h1 h2 ih=>
  cases i with
  |zero=>
   simp only[getElem?_cons_zero,Option.some.injEq] at e;subst e;exact⟨q.2,by rw[h1.1];rfl⟩
  |succ i=>exact ih (by simpa using e)
theorem En {a:Addr}{od:Obj}{kvs:bh}{es:Array DictEntry}{ep:Nat}(I:Inv X pins σ H s)(h:H a=some (.bB od (.dK kvs)))(hd:od.data=.dict es ep):∃ vs,KV kvs vs/\s.heap.DictAt (bM X.prog X.w) a vs ep/\es.size=vs.length:=by
 obtain⟨⟨e,_⟩,z,n,vs,r,ob,dH,qm,e',c,d,q1,q2,q3⟩:=I.aA a _ h;rw[e] at e';cases e';rw[hd] at d;cases d;exact⟨vs,r,⟨od,es,e,c,hd,q1,q2,q3⟩,by rw[<- q2.length];simp⟩
theorem Pf {k:Key}{v:Value}(h:jc k v=true):RelV (kV k) v:=by
 rcases g4 h with ⟨i,t,rfl,rfl⟩|⟨x,t,rfl,rfl⟩
 ·exact⟨t,rfl⟩
 ·exact⟨t,rfl⟩
theorem Pg {P:Program}{w:World}{K:Frag}{tg:Expr}(a it:Addr)(od:Obj)(es:Array DictEntry)(ep:Nat)(hd:od.data=.dict es ep):Turn P w K tg (mL a od) [it] it (λi h=>h.IsKeyIter it a i es.size ep) where
 mem:=by simp
 obj:=λi h st b hb=>by
  have e:b=it:=by simpa using hb
  subst e;obtain⟨o,e,c,d⟩:=st;exact⟨o,e,λv z=>by rw[d] at z;cases z⟩
 keep:=λi h h' st k=>by
  obtain⟨o,e,c,d⟩:=st;exact⟨o,k it (by simp) o e,c,d⟩
 item:=by
  intro X hP hw hK hc i pins s σ H E I hf st hg;subst hP hw hK;obtain⟨kvs,kv,hq,hx⟩:=hg;obtain⟨vs,r,da,hsz⟩:=En I hq hd;obtain⟨u,hu⟩:=Pe r hx;obtain⟨f0,f1,f2,f3,f4,f5⟩:=hf it (by simp);rw[hsz] at st;refine wpAny_pyNext_dict_item st da hu λkey h' hk st' sb=>?_;have I1:Inv X pins σ H { s with heap:=h' }:=I.turned (t':=s.toks) (λb o hb e=>(sb.2 b hb).trans e) f0 f1 f3 f4 f5;obtain⟨o,e,c,d⟩:=id st';refine⟨key,rfl,mn (s:={ s with heap:=h' }) e c d (by decide) ⟨kV kv.1,H,I1,Pf hk,⟨rfl,λys hy=>?_⟩,by rw[hsz];exact st',λb hb=>(hf b hb).1⟩⟩;rw[hq] at hy;cases hy;exact⟨kv,hx,rfl⟩
 done:=by
  intro X hP hw hK hc i pins s σ H E I hf st hg;subst hP hw hK;obtain⟨kvs,hq,hx⟩:=hg;obtain⟨vs,r,da,hsz⟩:=En I hq hd;obtain⟨f0,f1,f2,f3,f4,f5⟩:=hf it (by simp);have hl:=r.length;rw[hsz] at st;exact wpAny_pyNext_dict_end (I.ok.hd hc) st da (getElem?_eq_none (by omega)) λh' eb=>⟨rfl,I.turned (t':=s.toks) (λb o hb e=>eb b o hb e) f0 f1 f3 f4 f5⟩
 self:=λA i s Q E st h=>by
  refine wpAny_pyIter_slot st.typeIs F.slot_dict_keyiterator_iter (wpAny_call_entry F.slot_dict_keyiterator_iter st.typeIs F.entry_dict_keyiterator_iter ?_ (F.args_dict_keyiterator_iter_1 _));show wpAny _ _ (ret (.ref it)) _ _ s;exact ao ⟨_,rfl,"dict_keyiterator",_,st.typeIs,F.slot_dict_keyiterator_next.lookup,h⟩
end
inductive PV where
 |non|bl (b:Bool)|int (i:Int)|str (x:Str)|tup (xs:List PV)|lst (xs:List PV)|ah (kvs:List (PV×PV))|raw (v:V)
abbrev ai:=List PV
abbrev aS:=List (PV×PV)
def Ph (H:Hp)(a:Addr)(av:List (V×V)):Prop:=∃(kvs:bh)(od:Obj),H a=some (.bB od (.dK kvs))/\av=kvs.map λkv=>(kV kv.1,kv.2)
mutual
inductive RV (K:Frag)(N:Addr->Prop)(H:Hp):PV->V->Prop where
 |non:RV K N H .non .non
 |bl (b:Bool):RV K N H (.bl b) (.bl b)
 |int (i:Int):RV K N H (.int i) (.int i)
 |str (x:Str):RV K N H (.str x) (.str x)
 |raw (a:Addr):RV K N H (.raw (.ref a)) (.ref a)
 |tup {a:Addr}{xs:ai}{vs:Zv}:bq K H a vs->aI K N H xs vs->RV K N H (.tup xs) (.ref a)
 |lst {a:Addr}{xs:ai}{vs:Zv}:¬ N a->H a=some (.lst vs)->aI K N H xs vs->RV K N H (.lst xs) (.ref a)
 |ah {a:Addr}{kvs:aS}{av:List (V×V)}:¬ N a->Ph H a av->bQ K N H kvs av->RV K N H (.ah kvs) (.ref a)
inductive aI (K:Frag)(N:Addr->Prop)(H:Hp):ai->Zv->Prop where
 |nil:aI K N H [] []
 |cons {x:PV}{v:V}{xs:ai}{vs:Zv}:RV K N H x v->aI K N H xs vs->aI K N H (x::xs) (v::vs)
inductive bQ (K:Frag)(N:Addr->Prop)(H:Hp):aS->List (V×V)->Prop where
 |nil:bQ K N H [] []
 |cons {k x:PV}{l v:V}{xs:aS}{vs:List (V×V)}:RV K N H k l->RV K N H x v->bQ K N H xs vs->bQ K N H ((k,x)::xs) ((l,v)::vs)
end
section
variable {K:Frag}{N N':Addr->Prop}{H H':Hp}
structure d7 (K:Frag)(N N':Addr->Prop)(H H':Hp):Prop where
 t:∀ a vs,bq K H a vs->bq K H' a vs
 l:∀ a o,¬ N a->H a=some o->¬ N' a/\H' a=some o
theorem RV.imp (k:d7 K N N' H H'){x:PV}{v:V}(h:RV K N H x v):RV K N' H' x v:=by
 refine RV.rec (motive_1:=λx v _=>RV K N' H' x v) (motive_2:=λxs vs _=>aI K N' H' xs vs) (motive_3:=λxs vs _=>bQ K N' H' xs vs) .non .bl .int .str .raw
  (λh _ r=>.tup (k.t _ _ h) r) (λn h _ r=>.lst (k.l _ _ n h).1 (k.l _ _ n h).2 r) (λn h _ r=>?_) .nil (λ_ _ r s=>.cons r s) .nil (λ_ _ _ a b r=>.cons a b r) h
 obtain⟨kvs,od,h1,rfl⟩:=h;exact .ah (k.l _ _ n h1).1 ⟨kvs,od,(k.l _ _ n h1).2,rfl⟩ r
theorem aI.imp (k:d7 K N N' H H'){xs:ai}{vs:Zv}(h:aI K N H xs vs):aI K N' H' xs vs:=by
 induction vs generalizing xs with
 |nil=>cases h;exact .nil
 |cons v vs ih=>cases h with|cons h1 h2=>exact .cons (h1.imp k) (ih h2)
theorem bQ.imp (k:d7 K N N' H H'){xs:aS}{vs:List (V×V)}(h:bQ K N H xs vs):bQ K N' H' xs vs:=by
 induction vs generalizing xs with
 |nil=>cases h;exact .nil
 |cons v vs ih=>cases h with|cons h1 h2 h3=>exact .cons (h1.imp k) (h2.imp k) (ih h3)
theorem aI.len {xs:ai}{vs:Zv}(h:aI K N H xs vs):xs.length=vs.length:=by
 induction vs generalizing xs with
 |nil=>cases h;rfl
 |cons v vs ih=>cases h with|cons h1 h2=>rw[length_cons,length_cons,ih h2]
theorem aI.app {xs ys:ai}{vs us:Zv}(h:aI K N H xs vs)(g:aI K N H ys us):aI K N H (xs++ys) (vs++us):=by
 induction vs generalizing xs with
 |nil=>cases h;exact g
 |cons v vs ih=>cases h with|cons h1 h2=>exact .cons h1 (ih h2)
theorem aI.at {xs:ai}{vs:Zv}(h:aI K N H xs vs){i:Nat}{x:PV}(e:xs[i]?=some x):∃ v,vs[i]?=some v/\RV K N H x v:=by
 induction vs generalizing xs i with
 |nil=>cases h;simp at e
 |cons v vs ih=>
  cases h with
  |cons h1 h2=>
   cases i with
   |zero=>cases e;exact⟨v,rfl,h1⟩
   |succ i=>exact ih h2 (by simpa using e)
theorem aI.at' {xs:ai}{vs:Zv}(h:aI K N H xs vs){i:Nat}{v:V}(e:vs[i]?=some v):∃ x,xs[i]?=some x/\RV K N H x v:=by
 induction vs generalizing xs i with
 |nil=>simp at e
 |cons u vs ih=>
  cases h with
  |cons h1 h2=>
   cases i with
   |zero=>cases e;exact⟨_,rfl,h1⟩
   |succ i=>exact ih h2 (by simpa using e)
theorem aI.take {xs:ai}{vs:Zv}(h:aI K N H xs vs)(n:Nat):aI K N H (xs.take n) (vs.take n):=by
 induction vs generalizing xs n with
 |nil=>cases h;simpa using aI.nil
 |cons u vs ih=>
  cases h with
  |cons h1 h2=>
   cases n with
   |zero=>exact .nil
   |succ n=>exact .cons h1 (ih h2 n)
theorem aI.drop {xs:ai}{vs:Zv}(h:aI K N H xs vs)(n:Nat):aI K N H (xs.drop n) (vs.drop n):=by
 induction vs generalizing xs n with
 |nil=>cases h;simpa using aI.nil
 |cons u vs ih=>
  cases h with
  |cons h1 h2=>
   cases n with
   |zero=>exact .cons h1 h2
   |succ n=>exact ih h2 n
theorem aI.rev {xs:ai}{vs:Zv}(h:aI K N H xs vs):aI K N H xs.reverse vs.reverse:=by
 induction vs generalizing xs with
 |nil=>cases h;exact .nil
 |cons u vs ih=>
  cases h with
  |cons h1 h2=>rw[reverse_cons,reverse_cons];exact(ih h2).app (.cons h1 .nil)
theorem aI.set {xs:ai}{vs:Zv}(h:aI K N H xs vs)(i:Nat){x:PV}{v:V}(r:RV K N H x v):aI K N H (xs.set i x) (vs.set i v):=by
 induction vs generalizing xs i with
 |nil=>cases h;exact .nil
 |cons u vs ih=>
  cases h with
  |cons h1 h2=>
   cases i with
   |zero=>exact .cons r h2
   |succ i=>exact .cons h1 (ih h2 i)
end
inductive OC where
 |lst (xs:ai)|ah (kvs:aS)|ins (C dx:Addr)(fs:List (Str×PV))|cO (kvs:List (List Key×PV))
def OC.pv:OC->PV
 |.lst xs=>.lst xs
 |.ah kvs=>.ah kvs
 |.ins _ _ _=>.raw .non
 |.cO _=>.raw .non
def OC.Ld:OC->Prop
 |.ins _ _ _=>False
 |.cO _=>False
 |_=>True
def Eo (K:Frag)(N:Addr->Prop)(H:Hp)(fs:List (Str×PV))(ws:List (Str×V)):Prop:=fs.map Prod.fst=ws.map Prod.fst/\aI K N H (fs.map Prod.snd) (ws.map Prod.snd)
def Ep (K:Frag)(N:Addr->Prop)(H:Hp)(kvs:List (List Key×PV))(av:List (List Key×V)):Prop:=kvs.map Prod.fst=av.map Prod.fst/\aI K N H (kvs.map Prod.snd) (av.map Prod.snd)
inductive Sl where
 |val (x:PV)|own (a:Addr)(c:OC)|peek (a:Addr)(c:OC)
abbrev cL:=List (Option Sl)
structure ag where
 d:Addr
 a:Addr
 n:Nat
 b:Bs
structure AS where
 B:Addr->Prop
 ae:cL
 S:Option ag
abbrev cu:=AS->Prop
def Own (ae:cL)(a:Addr):Prop:=∃(i:Nat)(c:OC),ae[i]?=some (some (.own a c))
def AN (A:AS)(a:Addr):Prop:=A.B a\/Own A.ae a
def Mt (A:AS)(a:Addr):Prop:=Own A.ae a\/∃ st,A.S=some st/\st.d=a
def gF (K:Frag)(N:Addr->Prop)(H:Hp)(a:Addr):OC->Prop
 |.lst xs=>∃ vs,H a=some (.lst vs)/\aI K N H xs vs
 |.ah kvs=>∃ av:bh,H a=some (.dK av)/\bQ K N H kvs (av.map λkv=>(kV kv.1,kv.2))
 |.ins C dx fs=>∃ ws:List (Str×V),H a=some (.ins C dx ws)/\Eo K N H fs ws
 |.cO kvs=>∃ av:List (List Key×V),H a=some (.dT av)/\Ep K N H kvs av
def Pj (K:Frag)(A:AS)(H:Hp):Sl->V->Prop
 |.val x,v=>RV K (AN A) H x v
 |.own a c,v=>v=.ref a/\¬ A.B a/\gF K (AN A) H a c
 |.peek a c,v=>v=.ref a/\A.B a/\gF K (AN A) H a c
def eI (K:Frag)(H:Hp)(a:Addr):Prop:=∃ ns:List Int,ns.length<=63/\((∃ o:Obj,H a=some (.bB o (.lst (ns.map V.int))))\/∃(o:Obj)(its:Array Value)(n:Nat),K.lookup a=some o/\o.cls=.type "list"/\o.dict=none/\o.data=.seq its n/\its.size<=sizeLine/\Vals (ns.map V.int) its.toList)
theorem eI.Pk {K:Frag}{H:Hp}{a:Addr}(h:eI K H a):q_ K H a:=by
 obtain⟨ns,l,⟨o,h⟩|h⟩:=h
 ·exact⟨ns,.inl (.inr ⟨o,h⟩),l⟩
 ·exact⟨ns,.inr h,l⟩
theorem eI.iR {K:Frag}{H H':Hp}{a:Addr}(h:eI K H a)(f:∀ o u,H a=some (.bB o u)->H' a=some (.bB o u)):eI K H' a:=by
 obtain⟨ns,l,⟨o,h⟩|h⟩:=h
 ·exact⟨ns,l,.inl ⟨o,f _ _ h⟩⟩
 ·exact⟨ns,l,.inr h⟩
theorem eI.keep {K:Frag}{H H':Hp}{a:Addr}(h:eI K H a)(f:∀ o,H a=some o->H' a=some o):eI K H' a:=h.iR λ_ _=>f _
theorem cE.upd {H:Hp}{d a p:Addr}{n:Nat}{B:Bs}{o:HO}(h:cE H d a n B)(np:p≠d)(nt:∀ ps,H p≠some (.g6 ps)):cE (L2.upd H p o) d a n B:=by
 obtain⟨t,l,w,e,r⟩:=h.ex;exact⟨⟨t,l,w,by rw[a7 np.symm];exact e,r⟩,λT o z=>⟨by rw[a7 λy=>nt _ (y▸(h.tb T o z).1)];exact(h.tb T o z).1,(h.tb T o z).2⟩⟩
structure Rep (K:Frag)(H:Hp)(σ:St)(A:AS):Prop where
 len:σ.length=A.ae.length
 sl:∀(i:Nat)(s:Sl),A.ae[i]?=some (some s)->∃ v,σ[i]?=some (some v)/\Pj K A H s v
 c_:∀ a,A.B a->H a≠none
 nd:∀(i j:Nat)(a:Addr)(c c':OC),A.ae[i]?=some (some (.own a c))->A.ae[j]?=some (some (.own a c'))->i=j
 st:∀ st,A.S=some st->A.B st.d/\cE H st.d st.a st.n st.b/\eI K H st.a
 pk:∀(i:Nat)(a:Addr)(c:OC)(st:ag),A.ae[i]?=some (some (.peek a c))->A.S=some st->a≠st.d
structure ay (A:AS)(H:Hp)(A1:AS)(H1:Hp):Prop where
 fr:∀ a o,H a=some o->¬ Mt A a->H1 a=some o
 ow:∀ a,Own A1.ae a->Own A.ae a\/H a=none
 b:A1.B=A.B
 dm:∀ a,H a≠none->H1 a≠none
 sd:A1.S.map ag.d=A.S.map ag.d
section
variable {K:Frag}{H H1 H2:Hp}{σ:St}{A A1 A2:AS}
theorem ay.refl (A:AS)(H:Hp):ay A H A H:=⟨λ_ _ h _=>h,λ_ h=>.inl h,rfl,λ_ h=>h,rfl⟩
theorem lx {S S1:Option ag}(e:S1.map ag.d=S.map ag.d){a:Addr}(h:∃ st,S1=some st/\st.d=a):∃ st,S=some st/\st.d=a:=by
 obtain⟨st,rfl,rfl⟩:=h
 cases S with
 |none=>cases e
 |some t=>exact⟨t,rfl,by simpa using e.symm⟩
theorem ay.mt (s:ay A H A1 H1){a:Addr}(h:Mt A1 a)(hd:H a≠none):Mt A a:=by
 rcases h with h|h
 ·rcases s.ow a h with z|z
  ·exact .inl z
  ·exact absurd z hd
 ·exact .inr (lx s.sd h)
theorem fE {α:Type}{o:Option α}{x:α}(h:o=some x):o≠none:=by rw[h];intro z;cases z
theorem ay.trans (s:ay A H A1 H1)(t:ay A1 H1 A2 H2):ay A H A2 H2 where
 fr:=λa o h n=>t.fr a o (s.fr a o h n) λm=>n (s.mt m (fE h))
 ow:=λa h=>by
  rcases t.ow a h with z|z
  ·exact s.ow a z
  ·refine .inr ?_
   cases e:H a with
   |none=>rfl
   |some o=>exact absurd z (s.dm a (fE e))
 b:=t.b.trans s.b
 dm:=λa h=>t.dm a (s.dm a h)
 sd:=t.sd.trans s.sd
theorem ay.same (A:AS)(s:aR H H1):ay A H A H1 where
 fr:=λa o h _=>s a o h
 ow:=λ_ h=>.inl h
 b:=rfl
 dm:=λa h=>by
  cases e:H a with
  |none=>exact absurd e h
  |some o=>exact fE (s a o e)
 sd:=rfl
theorem Rep.jt (R:Rep K H σ A){a:Addr}(h:Own A.ae a):(∃ vs,H a=some (.lst vs))\/(∃ kvs,H a=some (.dK kvs))\/(∃ C dx ws,H a=some (.ins C dx ws))\/∃ av,H a=some (.dT av):=by
 obtain⟨i,c,h⟩:=h;obtain⟨v,_,_,_,o⟩:=R.sl i _ h
 cases c with
 |lst xs=>obtain⟨vs,h,_⟩:=o;exact .inl ⟨vs,h⟩
 |ah xs=>obtain⟨vs,h,_⟩:=o;exact .inr (.inl ⟨vs,h⟩)
 |ins C dx xs=>obtain⟨vs,h,_⟩:=o;exact .inr (.inr (.inl ⟨_,_,vs,h⟩))
 |cO xs=>obtain⟨vs,h,_⟩:=o;exact .inr (.inr (.inr ⟨vs,h⟩))
theorem Rep.Pl (R:Rep K H σ A){a:Addr}(h:Mt A a):(∃ vs,H a=some (.lst vs))\/(∃ kvs,H a=some (.dK kvs))\/(∃ C dx ws,H a=some (.ins C dx ws))\/∃ av,H a=some (.dT av):=by
 rcases h with h|⟨st,h,rfl⟩
 ·exact R.jt h
 ·exact .inr (.inl (R.st st h).2.1.dk)
theorem Rep.Pm (R:Rep K H σ A){a:Addr}(h:Mt A a):AN A a:=by
 rcases h with h|⟨st,h,rfl⟩
 ·exact .inr h
 ·exact .inl (R.st st h).1
theorem Er {a:Addr}{u:HO}{n:Prop}(f:∀ o,H a=some o->¬ n->H1 a=some o)(hn:¬ n)(h:Rd H a u):Rd H1 a u:=by
 rcases h with h|⟨o,h⟩
 ·exact .inl (f _ h hn)
 ·exact .inr ⟨o,f _ h hn⟩
theorem Rep.keep (R:Rep K H σ A)(s:ay A H A1 H1):d7 K (AN A) (AN A1) H H1:=by
 have nan:∀ a,¬ AN A a->H a≠none->¬ AN A1 a:=by
  rintro a n hd (h|h)
  ·exact n (.inl (by rw[<- s.b];exact h))
  ·rcases s.ow a h with z|z
   ·exact n (.inr z)
   ·exact hd z
 refine⟨λa vs h=>?_,λa o n h=>⟨nan a n (fE h),s.fr a o h λm=>n (R.Pm m)⟩⟩;rcases h with h|h
 ·refine .inl (Er (n:=Mt A a) (λo e m=>s.fr a o e m) (λm=>?_) h);rcases R.Pl m with ⟨z,e⟩|⟨z,e⟩|⟨_,_,z,e⟩|⟨z,e⟩
  ·rcases h with h|⟨o,h⟩<;>(rw[e] at h;cases h)
  ·rcases h with h|⟨o,h⟩<;>(rw[e] at h;cases h)
  ·rcases h with h|⟨o,h⟩<;>(rw[e] at h;cases h)
  ·rcases h with h|⟨o,h⟩<;>(rw[e] at h;cases h)
 ·exact .inr h
theorem gF.imp {N N':Addr->Prop}(k:d7 K N N' H H1){a:Addr}{c:OC}(e:∀ o,H a=some o->H1 a=some o)(h:gF K N H a c):gF K N' H1 a c:=by
 cases c with
 |lst xs=>obtain⟨vs,h1,h2⟩:=h;exact⟨vs,e _ h1,h2.imp k⟩
 |ah xs=>obtain⟨vs,h1,h2⟩:=h;exact⟨vs,e _ h1,h2.imp k⟩
 |ins C dx xs=>obtain⟨vs,h1,h2⟩:=h;exact⟨vs,e _ h1,h2.1,h2.2.imp k⟩
 |cO xs=>obtain⟨vs,h1,h2⟩:=h;exact⟨vs,e _ h1,h2.1,h2.2.imp k⟩
theorem Rep.same (R:Rep K H σ A)(s:aR H H1):Rep K H1 σ A where
 len:=R.len
 sl:=λi t h=>by
  obtain⟨v,e,q⟩:=R.sl i t h;have k:=R.keep (ay.same A s);refine⟨v,e,?_⟩
  cases t with
  |val x=>exact q.imp k
  |own a c=>exact⟨q.1,q.2.1,q.2.2.imp k λo=>s a o⟩
  |peek a c=>exact⟨q.1,q.2.1,q.2.2.imp k λo=>s a o⟩
 c_:=λa h=>(ay.same A s).dm a (R.c_ a h)
 nd:=R.nd
 st:=λst h=>by
  obtain⟨h1,h2,h3⟩:=R.st st h;exact⟨h1,h2.same s,h3.keep λo=>s _ o⟩
 pk:=R.pk
end
theorem PE.mono {X:Cx}{e:Expr}{t t':TE}(h:PE X e t)(f:∀ σ H Q,t' σ H Q->t σ H Q):PE X e t':=λpins s σ H Q I w=>h pins s σ H Q I (f _ _ _ w)
theorem PT.mono {X:Cx}{e:Expr}{t t':TT}(h:PT X e t)(f:∀ σ H Q,t' σ H Q->t σ H Q):PT X e t':=λpins s σ H Q I w=>h pins s σ H Q I (f _ _ _ w)
theorem PW.mono {X:Cx}{e:Expr}{t t':TT}(h:PW X e t)(f:∀ σ H Q,t' σ H Q->t σ H Q):PW X e t':=λwh pins s σ H Q I w=>h wh pins s σ H Q I (f _ _ _ w)
theorem PA.mono {X:Cx}{e:List Expr}{t t':TA}(h:PA X e t)(f:∀ σ H Q,t' σ H Q->t σ H Q):PA X e t':=λpos pins s σ H Q I w=>h pos pins s σ H Q I (f _ _ _ w)
theorem PS.mono {X:Cx}{e:Stmt}{t t':TS}(h:PS X e t)(f:∀ D σ H,t' D σ H->t D σ H):PS X e t':=λpins s σ H D I w=>h pins s σ H D I (f _ _ _ w)
theorem cv.mono {X:Cx}{e:List Stmt}{t t':TS}(h:cv X e t)(f:∀ D σ H,t' D σ H->t D σ H):cv X e t':=λpins s σ H D I w=>h pins s σ H D I (f _ _ _ w)
theorem PI.mono {X:Cx}{tg e:Expr}{t t':TI}(h:PI X tg e t)(f:∀ σ H Q,t' σ H Q->t σ H Q):PI X tg e t':=λpins s σ H Q I w=>h pins s σ H Q I (f _ _ _ w)
abbrev UE:=AS->(PV->AS->Prop)->Prop
abbrev UA:=AS->(ai->AS->Prop)->Prop
abbrev UT:=AS->(Bool->AS->Prop)->Prop
def bV (K:Frag)(A:AS)(H:Hp)(r:PV)(v:V):Prop:=
 RV K (AN A) H r v\/∃(i:Nat)(a:Addr)(c:OC),((A.ae[i]?=some (some (.own a c))\/A.ae[i]?=some (some (.peek a c)))/\c.Ld)/\r=c.pv/\v=.ref a
section
variable {K:Frag}{H H1 H2:Hp}{σ:St}{A A1 A2:AS}
theorem bV.step {r:PV}{v:V}(R:Rep K H σ A)(h:bV K A H r v)(s:ay A H A1 H1)(e:A1.ae=A.ae):bV K A1 H1 r v:=by
 rcases h with h|h
 ·exact .inl (h.imp (R.keep s))
 ·exact .inr (by rw[e];exact h)
theorem bV.oc {v:V}{c:OC}(R:Rep K H σ A)(h:bV K A H c.pv v):∃ a,v=.ref a/\(match c with
  |.lst xs=>∃ vs,H a=some (.lst vs)/\aI K (AN A) H xs vs
  |.ah kvs=>∃ av:bh,Rd H a (.dK av)/\bQ K (AN A) H kvs (av.map λkv=>(kV kv.1,kv.2))
  |.ins _ _ _=>True
  | .cO _=>True):=by
 rcases h with h|⟨i,a,c',h,e,rfl⟩
 ·cases c with
  |lst xs=>cases h with|lst _ h1 h2=>exact⟨_,rfl,_,h1,h2⟩
  |ah kvs=>cases h with|ah _ h1 h2=>obtain⟨kvs,od,h1,rfl⟩:=h1;exact⟨_,rfl,_,.inr ⟨od,h1⟩,h2⟩
  |ins _ _ _=>cases h
  |cO _=>cases h
 ·have o:gF K (AN A) H a c':=by
   rcases h.1 with h|h
   ·obtain⟨_,_,_,_,o⟩:=R.sl i _ h;exact o
   ·obtain⟨_,_,_,_,o⟩:=R.sl i _ h;exact o
  refine⟨a,rfl,?_⟩
  cases c with
  |lst xs=>
   cases c' with
   |lst ys=>cases e;obtain⟨vs,h1,h2⟩:=o;exact⟨vs,h1,h2⟩
   |ah _=>cases e
   |ins _ _ _=>cases e
   |cO _=>cases e
  |ah xs=>
   cases c' with
   |lst ys=>cases e
   |ah _=>cases e;obtain⟨vs,h1,h2⟩:=o;exact⟨vs,.inl h1,h2⟩
   |ins _ _ _=>cases e
   |cO _=>cases e
  |ins _ _ _=>trivial
  |cO _=>trivial
theorem bV.lst {v:V}{xs:ai}(R:Rep K H σ A)(h:bV K A H (.lst xs) v):∃ a vs,v=.ref a/\H a=some (.lst vs)/\aI K (AN A) H xs vs:=by
 obtain⟨a,e,vs,h1,h2⟩:=bV.oc (c:=.lst xs) R h;exact⟨a,vs,e,h1,h2⟩
theorem bV.ah {v:V}{kvs:aS}(R:Rep K H σ A)(h:bV K A H (.ah kvs) v):∃ a av,v=.ref a/\Rd H a (.dK av)/\bQ K (AN A) H kvs (av.map λkv=>(kV kv.1,kv.2)):=by
 obtain⟨a,e,vs,h1,h2⟩:=bV.oc (c:=.ah kvs) R h;exact⟨a,vs,e,h1,h2⟩
theorem bV.rv {v:V}{r:PV}(h:bV K A H r v)(hn:∀ c:OC,r≠c.pv):RV K (AN A) H r v:=by
 rcases h with h|⟨_,_,c,_,e,_⟩
 ·exact h
 ·exact absurd e (hn c)
theorem bV.tup {v:V}{xs:ai}(h:bV K A H (.tup xs) v):∃ a vs,v=.ref a/\bq K H a vs/\aI K (AN A) H xs vs:=by
 have:=h.rv (by intro c;cases c<;>(intro z;cases z))
 cases this with|tup h1 h2=>exact⟨_,_,rfl,h1,h2⟩
theorem bV.int {v:V}{i:Int}(h:bV K A H (.int i) v):v=.int i:=by
 have:=h.rv (by intro c;cases c<;>(intro z;cases z));cases this;rfl
theorem bV.bl {v:V}{i:Bool}(h:bV K A H (.bl i) v):v=.bl i:=by
 have:=h.rv (by intro c;cases c<;>(intro z;cases z));cases this;rfl
theorem bV.str {v:V}{i:Str}(h:bV K A H (.str i) v):v=.str i:=by
 have:=h.rv (by intro c;cases c<;>(intro z;cases z));cases this;rfl
theorem bV.non {v:V}(h:bV K A H .non v):v=.non:=by
 have:=h.rv (by intro c;cases c<;>(intro z;cases z));cases this;rfl
end
def aB (K:Frag)(u:UE):TE:=λσ H Q=>∃ A P,Rep K H σ A/\u A P/\∀ r A1 v H1,P r A1->Rep K H1 σ A1->ay A H A1 H1->RV K (AN A1) H1 r v->Q v H1
def az (K:Frag)(u:UE):TE:=λσ H Q=>∃ A P,Rep K H σ A/\u A P/\∀ r A1 v H1,P r A1->Rep K H1 σ A1->ay A H A1 H1->bV K A1 H1 r v->Q v H1
def eJ (K:Frag)(N:Addr->Prop)(H0 H1:Hp)(r:PV)(v:V):Prop:=∃ p c,r=OC.pv c/\v=.ref p/\H0 p=none/\aR H0 H1/\(match c with
  |.lst xs=>∃ vs,H1 p=some (.lst vs)/\aI K N H0 xs vs
  |.ah kvs=>∃ av:bh,H1 p=some (.dK av)/\bQ K N H0 kvs (av.map λkv=>(kV kv.1,kv.2))
  |.ins _ _ _=>False
  | .cO _=>False)
def c3 (K:Frag)(u:UE):TE:=λσ H Q=>∃ A P,Rep K H σ A/\u A P/\∀ r A1 v H0 H1,P r A1->Rep K H0 σ A1->ay A H A1 H0->eJ K (AN A1) H0 H1 r v->Q v H1
def liftT (K:Frag)(u:UT):TT:=λσ H Q=>∃ A P,Rep K H σ A/\u A P/\∀ b A1 H1,P b A1->Rep K H1 σ A1->ay A H A1 H1->Q b H1
def j8 (K:Frag)(u:UA):TA:=λσ H Q=>∃ A P,Rep K H σ A/\u A P/\∀ rs A1 vs H1,P rs A1->Rep K H1 σ A1->ay A H A1 H1->aI K (AN A1) H1 rs vs->Q vs H1
section
variable {X:Cx}{K:Frag}{e:Expr}{u:UE}{pos:Pos}
theorem Rep.new {H:Hp}{σ:St}{A:AS}{p:Addr}(R:Rep K H σ A)(hp:H p=none):¬ AN A p:=by
 rintro(h|h)
 ·exact R.c_ p h hp
 ·rcases R.jt h with ⟨z,e⟩|⟨z,e⟩|⟨_,_,z,e⟩|⟨z,e⟩<;>(rw[e] at hp;cases hp)
theorem eJ.same {N:Addr->Prop}{H0 H1:Hp}{r:PV}{v:V}(f:eJ K N H0 H1 r v):aR H0 H1:=by
 obtain⟨_,_,_,_,_,s,_⟩:=f;exact s
theorem iS {N:Addr->Prop}{H0 H1:Hp}(s:aR H0 H1):d7 K N N H0 H1:=⟨λa vs h=>by
  rcases h with (h|⟨o,h⟩)|h
  ·exact .inl (.inl (s _ _ h))
  ·exact .inl (.inr ⟨o,s _ _ h⟩)
  ·exact .inr h,λa o n h=>⟨n,s a o h⟩⟩
theorem eJ.Es {N:Addr->Prop}{H0 H1:Hp}{xs:ai}{v:V}(dm:∀ p,H0 p=none->¬ N p)(f:eJ K N H0 H1 (.lst xs) v):RV K N H1 (.lst xs) v:=by
 obtain⟨p,c,e,rfl,hp,s,h⟩:=f
 cases c with
 |lst ys=>cases e;obtain⟨vs,h1,h2⟩:=h;exact .lst (dm p hp) h1 (h2.imp (iS s))
 |ah ys=>cases e
 |ins _ _ _=>exact h.elim
 |cO _=>exact h.elim
theorem eJ.fix {pins:aP}{σ:St}{s:Shared}{N:Addr->Prop}{H0 H1:Hp}{r:PV}{v:V}(dm:∀ p,H0 p=none->¬ N p)(f:eJ K N H0 H1 r v)(I:Inv X pins σ H1 s):∃ H2,Inv X pins σ H2 s/\aR H0 H2/\RV K N H2 r v:=by
 obtain⟨p,c,rfl,rfl,hp,sm,h⟩:=f
 cases c with
 |lst xs=>obtain⟨vs,h1,h2⟩:=h;exact⟨H1,I,sm,.lst (dm p hp) h1 (h2.imp (iS sm))⟩
 |ah xs=>
  obtain⟨vs,h1,h2⟩:=h;obtain⟨od,I2⟩:=I.El h1
  have s2:aR H0 (upd H1 p (.bB od (.dK vs))):=λb o e=>by
   rw[a7 (dF e hp)];exact sm b o e
  exact⟨_,I2,s2,.ah (dm p hp) ⟨vs,od,bD,rfl⟩ (h2.imp (iS s2))⟩
 |ins _ _ _=>exact h.elim
 |cO _=>exact h.elim
theorem vf (h:PE X e (c3 K u)):PE X e (aB K u):=h.post λσ H Q ⟨A,P,R,h,c⟩=>⟨A,P,R,h,λr A1 v H0 H1 p R0 S0 f pins s I=>by
 obtain⟨H2,I2,s2,rv⟩:=f.fix (λ_=>R0.new) I
 exact⟨H2,I2,c r A1 v H2 p (R0.same s2) (S0.trans (ay.same A1 s2)) rv⟩⟩
theorem qv (h:PE X e (aB K u)):PE X e (az K u):=h.mono λσ H Q ⟨A,P,R,h,c⟩=>⟨A,P,R,h,λr A1 v H1 p R1 S1 rv=>c r A1 v H1 p R1 S1 (.inl rv)⟩
theorem qf (h:PE X e (c3 K u)):PE X e (az K u):=qv (vf h)
def bB (A:AS)(i:Nat)(c:OC):AS:={ A with ae:=A.ae.set i (some (.val c.pv)) }
def xq (i:Nat):UE:=λA Q=>match A.ae[i]? with
 |some (some (.val x))=>Q x A
 |some (some (.own _ (.lst xs)))=>Q (.lst xs) (bB A i (.lst xs))
 |some (some (.own _ (.ah xs)))=>Q (.ah xs) (bB A i (.ah xs))
 |_=>False
def xr (i:Nat):UE:=λA Q=>match A.ae[i]? with
 |some (some (.val x))=>Q x A
 |some (some (.own _ (.lst xs)))=>Q (.lst xs) A
 |some (some (.own _ (.ah xs)))=>Q (.ah xs) A
 |some (some (.peek _ (.lst xs)))=>Q (.lst xs) A
 |some (some (.peek _ (.ah xs)))=>Q (.ah xs) A
 |_=>False
theorem cF {α:Type}{l:List α}{i j:Nat}{a b:α}(h:(l.set i a)[j]?=some b):(i=j/\b=a)\/(i≠j/\l[j]?=some b):=by
 rw[getElem?_set] at h;by_cases e:i=j
 ·rw[if_pos e] at h
  split at h
  ·exact .inl ⟨e,(Option.some.inj h).symm⟩
  ·cases h
 ·rw[if_neg e] at h;exact .inr ⟨e,h⟩
theorem Rep.freeze {H:Hp}{σ:St}{A:AS}{i:Nat}{a:Addr}{c:OC}(R:Rep K H σ A)(hi:A.ae[i]?=some (some (.own a c))){H2:Hp}(hb:∀ b,b≠a->H2 b=H b)(hc:match c with|.lst _=>H2=H|.ah _=>∃ av od,H a=some (.dK av)/\H2 a=some (.bB od (.dK av))|.ins _ _ _=>False|.cO _=>False):Rep K H2 σ (bB A i c)/\ay A H (bB A i c) H2/\RV K (AN (bB A i c)) H2 c.pv (.ref a)/\σ[i]?=some (some (.ref a)):=by
 have oa:Own A.ae a:=⟨i,c,hi⟩
 have ow:∀ b,Own (bB A i c).ae b->Own A.ae b/\b≠a:=by
  rintro b ⟨j,c',h⟩;rcases cF h with ⟨_,z⟩|⟨n,z⟩
  ·cases z
  ·exact⟨⟨j,c',z⟩,λe=>n (by subst e;exact R.nd i j _ _ _ hi z)⟩
 have an:∀ b,AN (bB A i c) b->AN A b:=λb h=>h.elim .inl λz=>.inr (ow b z).1
 have kp:d7 K (AN A) (AN (bB A i c)) H H2:=by
  refine⟨λb vs h=>?_,λb o n h=>⟨λz=>n (an _ z),by rw[hb b λe=>n (by rw[e];exact .inr oa)];exact h⟩⟩;rcases h with h|h
  ·by_cases e:b=a
   ·subst e;rcases R.jt oa with ⟨z,q⟩|⟨z,q⟩|⟨_,_,z,q⟩|⟨z,q⟩<;>(rcases h with h|⟨o,h⟩<;>(rw[q] at h;cases h))
   ·refine .inl ?_;unfold Rd at h ⊢;rw[hb b e];exact h
  ·exact .inr h
 obtain⟨v,e,rfl,nb,oc⟩:=R.sl i _ hi
 have na:¬ AN (bB A i c) a:=by
  rintro(z|z)
  ·exact nb z
  ·exact(ow a z).2 rfl
 have rv:RV K (AN (bB A i c)) H2 c.pv (.ref a):=by
  cases c with
  |lst xs=>
   obtain⟨vs,h1,h2⟩:=oc;have e2:H2=H:=hc;exact .lst na (by rw[e2];exact h1) (h2.imp kp)
  |ah xs=>
   obtain⟨vs,h1,h2⟩:=oc;obtain⟨av,od,e1,e2⟩:=hc;rw[h1] at e1;cases e1;exact .ah na ⟨vs,od,e2,rfl⟩ (h2.imp kp)
  |ins _ _ _=>exact hc.elim
  |cO _=>exact hc.elim
 have ha:H2 a≠none:=by
  cases c with
  |lst xs=>
   obtain⟨vs,h1,h2⟩:=oc;have e2:H2=H:=hc;rw[e2,h1];intro z;cases z
  |ah xs=>
   obtain⟨av,od,e1,e2⟩:=hc;rw[e2];intro z;cases z
  |ins _ _ _=>exact hc.elim
  |cO _=>exact hc.elim
 have bn:∀ b,A.B b->b≠a:=λb h z=>nb (by rw[<- z];exact h);refine⟨⟨?_,?_,λb h=>by rw[hb b (bn b h)];exact R.c_ b h,?_,?_,?_⟩,⟨λb o h m=>by rw[hb b λz=>m (by rw[z];exact .inl oa)];exact h,λb z=>.inl (ow b z).1,rfl,λb h=>?_,rfl⟩,rv,e⟩
 ·rw[R.len];exact(length_set ..).symm
 ·intro j s h;rcases cF h with ⟨rfl,z⟩|⟨n,z⟩
  ·cases z;exact⟨_,e,rv⟩
  ·obtain⟨v,e1,q⟩:=R.sl j s z;refine⟨v,e1,?_⟩
   cases s with
   |val x=>exact q.imp kp
   |own b c'=>exact⟨q.1,q.2.1,q.2.2.imp kp λo h=>by rw[hb b λy=>n (by subst y;exact R.nd i j _ _ _ hi z)];exact h⟩
   |peek b c'=>exact⟨q.1,q.2.1,q.2.2.imp kp λo h=>by rw[hb b (bn b q.2.1)];exact h⟩
 ·intro i1 j1 b c1 c2 h1 h2;rcases cF h1 with ⟨_,z⟩|⟨_,z1⟩
  ·cases z
  ·rcases cF h2 with ⟨_,z⟩|⟨_,z2⟩
   ·cases z
   ·exact R.nd _ _ _ _ _ z1 z2
 ·intro st h;obtain⟨h1,h2,h3⟩:=R.st st h;refine⟨h1,?_,h3.iR λo u q=>?_⟩
  ·obtain⟨t,l,w,e,r⟩:=h2.ex
   exact⟨⟨t,l,w,by rw[hb _ (bn _ h1)];exact e,r⟩,λT o z=>⟨by
    rw[hb _ λy=>by
     have q:=(h2.tb T o z).1;rw[y] at q
     rcases R.jt oa with ⟨y,q2⟩|⟨y,q2⟩|⟨_,_,y,q2⟩|⟨y,q2⟩<;>(rw[q2] at q;cases q)]
    exact(h2.tb T o z).1,(h2.tb T o z).2⟩⟩
  ·rw[hb _ λz=>by
    rw[z] at q
    rcases R.jt oa with ⟨y,q2⟩|⟨y,q2⟩|⟨_,_,y,q2⟩|⟨y,q2⟩<;>(rw[q2] at q;cases q)]
   exact q
 ·intro i1 b c1 st h1 h2;rcases cF h1 with ⟨_,z⟩|⟨_,z1⟩
  ·cases z
  ·exact R.pk _ _ _ _ z1 h2
 ·by_cases z:b=a
  ·rw[z];exact ha
  ·rw[hb b z];exact h
theorem vn (i:Nat){x:Str}(hN:X.N[i]?=some x:=by rfl)(hv:di X.env.scope x:=by walk_at "v")(hd:(x==("__debug__":Str))=false:=by decide)
  (bJ:(x==("__classdict__":Str))=false:=by decide):PE X (.Name x pos) (aB K (xq i)):=(dY hN hv hd bJ).post λσ H Q ⟨A,P,R,h,c⟩=>by
 unfold xq at h
 split at h
 ·rename_i x hx;obtain⟨v,e,q⟩:=R.sl i _ hx;exact⟨v,e,λpins s I=>⟨H,I,c _ A v H h R (ay.refl A H) q⟩⟩
 ·rename_i a xs hx;obtain⟨R1,S1,rv,e⟩:=R.freeze hx (H2:=H) (λ_ _=>rfl) rfl;exact⟨_,e,λpins s I=>⟨H,I,c _ _ _ H h R1 S1 rv⟩⟩
 ·rename_i a xs hx;obtain⟨v,e,rfl,nb,ws,h1,h2⟩:=R.sl i _ hx;refine⟨_,e,λpins s I=>?_⟩;obtain⟨od,I2⟩:=I.El h1;obtain⟨R1,S1,rv,_⟩:=R.freeze hx (H2:=upd H a (.bB od (.dK ws))) (λb hb=>a7 hb) ⟨ws,od,h1,bD⟩;exact⟨_,I2,c _ _ _ _ h R1 S1 rv⟩
 ·exact h.elim
theorem qn (i:Nat){x:Str}(hN:X.N[i]?=some x:=by rfl)(hv:di X.env.scope x:=by walk_at "v")(hd:(x==("__debug__":Str))=false:=by decide)
  (bJ:(x==("__classdict__":Str))=false:=by decide):PE X (.Name x pos) (az K (xr i)):=(dY hN hv hd bJ).mono λσ H Q ⟨A,P,R,h,c⟩=>by
 unfold xr at h
 split at h
 ·rename_i x hx;obtain⟨v,e,q⟩:=R.sl i _ hx;exact⟨v,e,c _ A v H h R (ay.refl A H) (.inl q)⟩
 ·rename_i a oc hx;obtain⟨v,e,rfl,_,q⟩:=R.sl i _ hx;exact⟨_,e,c _ A _ H h R (ay.refl A H) (.inr ⟨i,a,.lst oc,⟨.inl hx,trivial⟩,rfl,rfl⟩)⟩
 ·rename_i a oc hx;obtain⟨v,e,rfl,_,q⟩:=R.sl i _ hx;exact⟨_,e,c _ A _ H h R (ay.refl A H) (.inr ⟨i,a,.ah oc,⟨.inl hx,trivial⟩,rfl,rfl⟩)⟩
 ·rename_i a oc hx;obtain⟨v,e,rfl,_,q⟩:=R.sl i _ hx;exact⟨_,e,c _ A _ H h R (ay.refl A H) (.inr ⟨i,a,.lst oc,⟨.inr hx,trivial⟩,rfl,rfl⟩)⟩
 ·rename_i a oc hx;obtain⟨v,e,rfl,_,q⟩:=R.sl i _ hx;exact⟨_,e,c _ A _ H h R (ay.refl A H) (.inr ⟨i,a,.ah oc,⟨.inr hx,trivial⟩,rfl,rfl⟩)⟩
 ·exact h.elim
def uC (x:PV):UE:=λA Q=>Q x A
theorem rS {v:V}{x:PV}(h:PE X e (tC v))(r:∀ N H,RV K N H x v):PE X e (aB K (uC x)):=h.mono λσ H Q ⟨A,P,R,h,c⟩=>c x A v H h R (ay.refl A H) (r _ _)
theorem vi {i:Int} {j}:PE X (.Constant (.int i) j pos) (aB K (uC (.int i))):=rS cQ λ_ _=>.int i
theorem vb {i:Bool} {j}:PE X (.Constant (.bool i) j pos) (aB K (uC (.bl i))):=rS JZ λ_ _=>.bl i
theorem vs {i:Str} {j}:PE X (.Constant (.str i) j pos) (aB K (uC (.str i))):=rS cR λ_ _=>.str i
theorem v0 {j}:PE X (.Constant .none j pos) (aB K (uC .non)):=rS J0 λ_ _=>.non
end
def Et:UA:=λA Q=>Q [] A
def Eu (ue:UE)(ua:UA):UA:=λA Q=>ue A λx A1=>ua A1 λxs A2=>Q (x::xs) A2
def Ew (u:UA):UE:=λA Q=>u A λxs A1=>xs.length<=1000/\Q (.tup xs) A1
def Ex (u:UA):UE:=λA Q=>u A λxs A1=>xs.length<=1000/\Q (.lst xs) A1
section
variable {X:Cx}{K:Frag}{e:Expr}{es:List Expr}{ue:UE}{ua:UA}{pos:Pos}
theorem an:PA X [] (j8 K Et):=cN.mono λσ H Q ⟨A,P,R,h,c⟩=>c [] A [] H h R (ay.refl A H) .nil
theorem ac (h1:PE X e (aB K ue))(h2:PA X es (j8 K ua))(hs:starEach (e::es) X.env=(false,eval e X.env)::starEach es X.env:=by rfl):PA X (e::es) (j8 K (Eu ue ua)):=
 (b7 h1 h2 hs).mono λσ H Q ⟨A,P,R,h,c⟩=>⟨A,_,R,h,λx A1 v H1 p1 R1 S1 r1=>⟨A1,_,R1,p1,λxs A2 vs H2 p2 R2 S2 r2=>
  c (x::xs) A2 (v::vs) H2 p2 R2 (S1.trans S2) (.cons (r1.imp (R1.keep S2)) r2)⟩⟩
theorem xt {n:Nat}(h:n<=1000):n<=sizeLine:=bU h (by decide)
theorem et {x1}(h:PA X es (j8 K ua)):PE X (.Tuple es x1 pos) (aB K (Ew ua)):=(LC h).mono λσ H Q ⟨A,P,R,h,c⟩=>⟨A,_,R,h,λxs A1 vs H1 p1 R1 S1 r1=>by
 obtain⟨aF,p1⟩:=p1;refine⟨xt (by rw[<- r1.len];exact aF),λp hp=>?_⟩;have s:=dJ hp (.tup vs)
 exact c (.tup xs) A1 (.ref p) _ p1 (R1.same s) (S1.trans (ay.same A1 s)) (.tup (bq.of bD) (r1.imp (R1.keep (ay.same A1 s))))⟩
theorem el (h:PA X es (j8 K ua)):PE X (.List es pos) (c3 K (Ex ua)):=(LD h).mono λσ H Q ⟨A,P,R,h,c⟩=>⟨A,_,R,h,λxs A1 vs H1 p1 R1 S1 r1=>by
 obtain⟨aF,p1⟩:=p1;refine⟨xt (by rw[<- r1.len];exact aF),λp hp=>?_⟩;have s:=dJ hp (.lst vs)
 exact c (.lst xs) A1 (.ref p) H1 _ p1 R1 S1 ⟨p,.lst xs,rfl,rfl,hp,s,vs,bD,r1⟩⟩
end
abbrev G2:=PV->PV->PV->Prop
def dw (K:Frag)(r:R2)(G:G2):Prop:=∀(H:Hp)(A:AS)(σ:St)(x y:PV)(v w:V)(z:PV)(Q:VK),Rep K H σ A->bV K A H x v->bV K A H y w->G x y z ->
 (∀ v' H',aR H H'->RV K (AN A) H' z v'->Q v' H')->r v w H Q
def xu (K:Frag)(r:R2)(G:G2):Prop:=∀(H:Hp)(A:AS)(σ:St)(x y:PV)(v w:V)(z:PV)(Q:VK),Rep K H σ A->bV K A H x v->bV K A H y w->G x y z ->
 (∀ v' H',eJ K (AN A) H H' z v'->Q v' H')->r v w H Q
def u2 (G:G2)(ua ub:UE):UE:=λA Q=>ua A λx A1=>ub A1 λy A2=>A2.ae=A1.ae/\∃ z,G x y z/\Q z A2
def ip (G:G2)(ua ub:UE):UT:=λA Q=>ua A λx A1=>ub A1 λy A2=>A2.ae=A1.ae/\∃ z,G x y (.bl z)/\Q z A2
section
variable {X:Cx}{K:Frag}{a b:Expr}{ua ub uc:UE}{pos:Pos}{r r':R2}{G G':G2}
theorem rT (br:dw K r G):∀ σ H Q,aB K (u2 G ua ub) σ H Q->jQ r (az K ua) (az K ub) σ H Q:=λσ H Q ⟨A,P,R,h,c⟩=>
 ⟨A,_,R,h,λx A1 v H1 p1 R1 S1 q1=>⟨A1,_,R1,p1,λy A2 w H2 p2 R2 S2 q2=>by
  obtain⟨e,z,g,p⟩:=p2
  exact br H2 A2 σ x y v w z Q R2 (q1.step R1 S2 e) q2 g λv' H' s rv=>c z A2 v' H' p (R2.same s) (S1.trans (S2.trans (ay.same A2 s))) rv⟩⟩
theorem Pn (br:xu K r G):∀ σ H Q,c3 K (u2 G ua ub) σ H Q->jQ r (az K ua) (az K ub) σ H Q:=λσ H Q ⟨A,P,R,h,c⟩=>
 ⟨A,_,R,h,λx A1 v H1 p1 R1 S1 q1=>⟨A1,_,R1,p1,λy A2 w H2 p2 R2 S2 q2=>by
  obtain⟨e,z,g,p⟩:=p2
  exact br H2 A2 σ x y v w z Q R2 (q1.step R1 S2 e) q2 g λv' H' f=>c z A2 v' H2 H' p R2 (S1.trans S2) f⟩⟩
theorem Po (br:dw K r G):∀ σ H Q,liftT K (ip G ua ub) σ H Q->qE (jQ r (az K ua) (az K ub)) σ H Q:=λσ H Q ⟨A,P,R,h,c⟩=>
 ⟨A,_,R,h,λx A1 v H1 p1 R1 S1 q1=>⟨A1,_,R1,p1,λy A2 w H2 p2 R2 S2 q2=>by
  obtain⟨e,z,g,p⟩:=p2
  exact br H2 A2 σ x y v w (.bl z) _ R2 (q1.step R1 S2 e) q2 g λv' H' s rv=>by
   cases rv
   exact⟨z,rfl,c z A2 H' p (R2.same s) (S1.trans (S2.trans (ay.same A2 s)))⟩⟩⟩
theorem mM {op:Operator}(ho:bx X (binaryOp op) r)(br:dw K r G)(ha:PE X a (az K ua))(hb:PE X b (az K ub)):PE X (.BinOp a op b pos) (aB K (u2 G ua ub)):=(cX ho ha hb).mono (rT br)
theorem Ey {op:Operator}(ho:bx X (binaryOp op) r)(br:xu K r G)(ha:PE X a (az K ua))(hb:PE X b (az K ub)):PE X (.BinOp a op b pos) (c3 K (u2 G ua ub)):=(cX ho ha hb).mono (Pn br)
theorem rV {op:CmpOp}(ho:bx X (compareOp op) r)(br:dw K r G)(ha:PE X a (az K ua))(hb:PE X b (az K ub))(hm:behindInMarks op b=false):PE X (.Compare a [op] [b] pos) (aB K (u2 G ua ub)):=(Lh ho ha hb hm).mono (rT br)
theorem j9 {op:CmpOp}(ho:bx X (compareOp op) r)(br:dw K r G)(ha:PE X a (az K ua))(hb:PE X b (az K ub))(hm:behindInMarks op b=false):PT X (.Compare a [op] [b] pos) (liftT K (ip G ua ub)):=(kW ho ha hb hm).mono (Po br)
theorem Pp (ho:hZ X r)(br:dw K r G)(ha:PE X a (az K ua))(hb:PE X b (az K ub))(hs:vq b):PE X (.Subscript a b pos) (aB K (u2 G ua ub)):=(qT ho ha hb hs).mono (rT br)
end
def Ez (t u:UT):UT:=λA Q=>t A λc A1=>if c=true then u A1 Q else Q false A1
def EA (t u:UT):UT:=λA Q=>t A λc A1=>if c=true then Q true A1 else u A1 Q
def EB (t:UT):UT:=λA Q=>t A λc A1=>Q (!c) A1
def uB (u:UE):UT:=λA Q=>u A λx A1=>∃ c,x=.bl c/\Q c A1
def EC (ua ub:UE):UE:=λA Q=>ua A λx A1=>∃ c,x=.bl c/\if c=true then ub A1 Q else Q (.bl false) A1
def ED (ua:UE):UE:=λA Q=>ua A λx A1=>∃ c,x=.bl c/\Q (.bl (!c)) A1
def EE (t:UT)(ua ub:UE):UE:=λA Q=>t A λc A1=>if c=true then ua A1 Q else ub A1 Q
def rW:PV->Option Bool
 |.non=>some false
 |.bl b=>some b
 |.int i=>some (i != 0)
 |.str x=>if x.length<=1000 then some ((x.length:Int) != 0) else none
 |.tup xs=>some !xs.isEmpty
 |.lst xs=>some !xs.isEmpty
 |_=>none
def EF (u:UE):UT:=λA Q=>u A λx A1=>∃ c,rW x=some c/\Q c A1
section
variable {X:Cx}{K:Frag}{a b c:Expr}{rest:List Expr}{ua ub:UE}{t u:UT}{pos:Pos}
theorem ju (h:PT X a (liftT K t)):PW X (.BoolOp .And [a] pos) (liftT K t):=AR h
theorem iT (h:PT X a (liftT K t)):PW X (.BoolOp .Or [a] pos) (liftT K t):=Ke h
theorem iq (ha:PT X a (liftT K t))(hb:PW X (.BoolOp .And (b::rest) pos) (liftT K u)):PW X (.BoolOp .And (a::b::rest) pos) (liftT K (Ez t u)):=(AU ha hb).mono λσ H Q ⟨A,P,R,h,c⟩=>
 ⟨A,_,R,h,λk A1 H1 p1 R1 S1=>by
  cases k with
  |true=>exact lg ⟨A1,P,R1,p1,λb A2 H2 p2 R2 S2=>c b A2 H2 p2 R2 (S1.trans S2)⟩
  | false=>exact la (c false A1 H1 p1 R1 S1)⟩
theorem gG (ha:PT X a (liftT K t))(hb:PW X (.BoolOp .Or (b::rest) pos) (liftT K u)):PW X (.BoolOp .Or (a::b::rest) pos) (liftT K (EA t u)):=(Kf ha hb).mono λσ H Q ⟨A,P,R,h,c⟩=>
 ⟨A,_,R,h,λk A1 H1 p1 R1 S1=>by
  cases k with
  |true=>exact lg (c true A1 H1 p1 R1 S1)
  | false=>exact la ⟨A1,P,R1,p1,λb A2 H2 p2 R2 S2=>c b A2 H2 p2 R2 (S1.trans S2)⟩⟩
theorem j_ (ha:PT X a (liftT K t)):PT X (.UnaryOp .Not a pos) (liftT K (EB t)):=(Kg ha).mono λσ H Q ⟨A,P,R,h,c⟩=>⟨A,_,R,h,λk A1 H1 p1 R1 S1=>c (!k) A1 H1 p1 R1 S1⟩
theorem ka (hK:X.K=K)(h:PE X a (az K ua))(he:∀ whole,isTrue a X.env whole=(do let v <- whole;standAt a.pos;holding [v] (truthy v)):=by intro _;rfl):PT X a (liftT K (EF ua)):=(Ln h he).mono λσ H Q ⟨A,P,R,h,c⟩=>
 ⟨A,_,R,h,λx A1 v H1 p1 R1 S1 r1=>by
  subst hK;obtain⟨k,e,p1⟩:=p1;refine⟨k,?_,c k A1 H1 p1 R1 S1⟩
  cases x with
  |non=>cases r1.non;exact(Option.some.inj e).symm
  |bl b=>cases r1.bl;exact(Option.some.inj e).symm
  |int b=>cases r1.int;exact(Option.some.inj e).symm
  |str b=>
   cases r1.str;have e':(if b.length<=1000 then some ((b.length:Int) != 0) else none)=some k:=e;by_cases hb:b.length<=1000
   ·rw[if_pos hb] at e';exact⟨xt hb,(Option.some.inj e').symm⟩
   ·rw[if_neg hb] at e';cases e'
  |tup xs=>
   obtain⟨p,vs,rfl,h1,h2⟩:=r1.tup;refine .inr (.inl ⟨vs,h1,?_⟩);rw[<- Option.some.inj e];cases h2<;>rfl
  |lst xs=>
   obtain⟨p,vs,rfl,h1,h2⟩:=r1.lst R1;refine .inl ⟨vs,.inl (.inl h1),?_⟩;rw[<- Option.some.inj e];cases h2<;>rfl
  |ah _=>cases e
  | raw _=>cases e⟩
theorem xw {op}(h:PE X a (aB K ua)):PE X (.BoolOp op [a] pos) (aB K ua):=Kj h
theorem xx (ha:PE X a (aB K ua))(hb:PE X (.BoolOp .And (b::rest) pos) (aB K ub)):PE X (.BoolOp .And (a::b::rest) pos) (aB K (EC ua ub)):=(Kk ha hb).mono λσ H Q ⟨A,P,R,h,c⟩=>
 ⟨A,_,R,h,λx A1 v H1 p1 R1 S1 r1=>by
  obtain⟨k,rfl,p1⟩:=p1;cases r1;refine⟨k,rfl,?_⟩
  cases k with
  |true=>exact lg ⟨A1,P,R1,p1,λb A2 v H2 p2 R2 S2 r2=>c b A2 v H2 p2 R2 (S1.trans S2) r2⟩
  | false=>exact la (c _ A1 _ H1 p1 R1 S1 (.bl false))⟩
theorem Pq (ha:PE X a (aB K ua)):PE X (.UnaryOp .Not a pos) (aB K (ED ua)):=(Kl ha).mono λσ H Q ⟨A,P,R,h,c⟩=>
 ⟨A,_,R,h,λx A1 v H1 p1 R1 S1 r1=>by
  obtain⟨k,rfl,p1⟩:=p1;cases r1
  exact⟨k,rfl,c _ A1 _ H1 p1 R1 S1 (.bl (!k))⟩⟩
theorem EG (hc:PT X c (liftT K t))(ha:PE X a (aB K ua))(hb:PE X b (aB K ub)):PE X (.IfExp c a b pos) (aB K (EE t ua ub)):=(Ko hc ha hb).mono λσ H Q ⟨A,P,R,h,c⟩=>
 ⟨A,_,R,h,λk A1 H1 p1 R1 S1=>by
  cases k with
  |true=>exact lg ⟨A1,P,R1,p1,λb A2 v H2 p2 R2 S2 r2=>c b A2 v H2 p2 R2 (S1.trans S2) r2⟩
  | false=>exact la ⟨A1,P,R1,p1,λb A2 v H2 p2 R2 S2 r2=>c b A2 v H2 p2 R2 (S1.trans S2) r2⟩⟩
end
def put (A:AS)(i:Nat)(s:Sl):AS:={ A with ae:=A.ae.set i (some s) }
def forget (A:AS)(i:Nat):AS:={ A with ae:=A.ae.set i none }
structure gH where
 nx:cu
 rt:PV->AS->Prop
 rf:PV->AS->Prop
 bk:cu:=λ_=>False
 ct:cu:=λ_=>False
abbrev US:=gH->AS->Prop
structure rX (K:Frag)(A:AS)(H:Hp)(E:gH)(D:Ends):Prop where
 nx:∀ A1 bu H1,E.nx A1->Rep K H1 bu A1->ay A H A1 H1->D.nx bu H1
 rt:∀ r A1 bu v H1,E.rt r A1->Rep K H1 bu A1->ay A H A1 H1->RV K (AN A1) H1 r v->D.rt v H1
 rf:∀ r A1 bu v H0 H1,E.rf r A1->Rep K H0 bu A1->ay A H A1 H0->eJ K (AN A1) H0 H1 r v->D.rt v H1
 ro:∀(i:Nat)(a:Addr) (c:OC) A1 bu H1,A1.ae[i]?=some (some (.own a c))->c.Ld->E.rf c.pv (forget A1 i)->Rep K H1 bu A1->ay A H A1 H1->D.rt (.ref a) H1
 bk:∀ A1 bu H1,E.bk A1->Rep K H1 bu A1->ay A H A1 H1->D.bk bu H1
 ct:∀ A1 bu H1,E.ct A1->Rep K H1 bu A1->ay A H A1 H1->D.ct bu H1
theorem rX.step {K:Frag}{A A1:AS}{H H1:Hp}{E:gH}{D:Ends}(k:rX K A H E D)(s:ay A H A1 H1):rX K A1 H1 E D:=
 ⟨λA2 bE H2 p R t=>k.nx A2 bE H2 p R (s.trans t),λr A2 bE v H2 p R t=>k.rt r A2 bE v H2 p R (s.trans t),λr A2 bE v H0 H2 p R t=>k.rf r A2 bE v H0 H2 p R (s.trans t),λi a c A2 bE H2 hi hl p R t=>k.ro i a c A2 bE H2 hi hl p R (s.trans t),λA2 bE H2 p R t=>k.bk A2 bE H2 p R (s.trans t),λA2 bE H2 p R t=>k.ct A2 bE H2 p R (s.trans t)⟩
def b8 (K:Frag)(u:US):TS:=λD σ H=>∃ A E,Rep K H σ A/\u E A/\rX K A H E D
def EH:US:=λE A=>E.nx A
def EI (u w:US):US:=λE A=>u { E with nx:=λA1=>w E A1 } A
def EJ (t:UT)(u w:US):US:=λE A=>t A λk A1=>if k=true then u E A1 else w E A1
def xy (i:Nat)(u:UE):US:=λE A=>u A λr A1=>E.nx (put A1 i (.val r))
def xA (i:Nat)(u:UE):US:=λE A=>u A λr A1=>∃ c:OC,r=c.pv/\∀ p,E.nx (put A1 i (.own p c))
def EK (u:UE):US:=λE A=>u A λ_ A1=>E.nx A1
def EL (u:UE):US:=λE A=>u A λr A1=>E.rt r A1
def EM (u:UE):US:=λE A=>u A λr A1=>E.rf r A1
def xB (i:Nat):US:=λE A=>match A.ae[i]? with
 |some (some (.own _ (.lst xs)))=>E.rf (.lst xs) (forget A i)
 |some (some (.own _ (.ah xs)))=>E.rf (.ah xs) (forget A i)
 |_=>False
section
variable {K:Frag}{H H1:Hp}{σ:St}{A:AS}{i:Nat}
theorem Pr {s:Sl}(hs:∀ a c,s≠.own a c){b:Addr}(h:AN (put A i s) b):AN A b:=by
 rcases h with h|⟨j,c,h⟩
 ·exact .inl h
 ·rcases cF h with ⟨_,z⟩|⟨_,z⟩
  ·exact absurd (Option.some.inj z).symm (hs _ _)
  ·exact .inr ⟨j,c,z⟩
theorem Pt {s:Sl}(hs:∀ a c,s≠.own a c){b:Addr}(h:Own (put A i s).ae b):Own A.ae b:=by
 obtain⟨j,c,h⟩:=h;rcases cF h with ⟨_,z⟩|⟨_,z⟩
 ·exact absurd (Option.some.inj z).symm (hs _ _)
 ·exact⟨j,c,z⟩
theorem Rep.val (R:Rep K H σ A){r:PV}{v:V}(rv:RV K (AN A) H r v):Rep K H (σ.set i (some v)) (put A i (.val r))/\ay A H (put A i (.val r)) H:=by
 have no:∀ a c,Sl.val r≠.own a c:=λ_ _ z=>by cases z
 have kp:d7 K (AN A) (AN (put A i (.val r))) H H:=⟨λ_ _ h=>h,λ_ _ n h=>⟨λz=>n (Pr no z),h⟩⟩;refine⟨⟨?_,?_,R.c_,?_,R.st,?_⟩,⟨λ_ _ h _=>h,λb z=>.inl (Pt no z),rfl,λ_ h=>h,rfl⟩⟩
 ·rw[length_set,R.len];exact(length_set ..).symm
 ·intro j s h;rcases cF h with ⟨rfl,z⟩|⟨n,z⟩
  ·cases z;refine⟨v,?_,rv.imp kp⟩
   have:i<A.ae.length:=by
    by_cases hl:i<A.ae.length
    ·exact hl
    ·have h':(A.ae.set i (some (Sl.val r)))[i]?=some (some (.val r)):=h;rw[getElem?_set,if_pos rfl,if_neg hl] at h';cases h'
   rw[getElem?_set,if_pos rfl,if_pos (by rw[R.len];exact this)]
  ·obtain⟨w,e1,q⟩:=R.sl j s z;refine⟨w,by rw[getElem?_set,if_neg n];exact e1,?_⟩
   cases s with
   |val x=>exact q.imp kp
   |own b c=>exact⟨q.1,q.2.1,q.2.2.imp kp λ_ h=>h⟩
   |peek b c=>exact⟨q.1,q.2.1,q.2.2.imp kp λ_ h=>h⟩
 ·intro i1 j1 b c1 c2 h1 h2;rcases cF h1 with ⟨_,z⟩|⟨_,z1⟩
  ·cases z
  ·rcases cF h2 with ⟨_,z⟩|⟨_,z2⟩
   ·cases z
   ·exact R.nd _ _ _ _ _ z1 z2
 ·intro i1 b c1 st h1 h2;rcases cF h1 with ⟨_,z⟩|⟨_,z1⟩
  ·cases z
  ·exact R.pk _ _ _ _ z1 h2
theorem Rep.EN (R:Rep K H σ A){c':OC}{p:Addr}(hp:H p=none)(s:aR H H1)(hc:match c' with
  |.lst xs=>∃ vs,H1 p=some (.lst vs)/\aI K (AN A) H xs vs
  |.ah kvs=>∃ av:bh,H1 p=some (.dK av)/\bQ K (AN A) H kvs (av.map λkv=>(kV kv.1,kv.2))
  |.ins C dx fs=>∃ ws,H1 p=some (.ins C dx ws)/\Eo K (AN A) H fs ws
  | .cO kvs=>∃ ws,H1 p=some (.dT ws)/\Ep K (AN A) H kvs ws):Rep K H1 (σ.set i (some (.ref p))) (put A i (.own p c'))/\ay A H (put A i (.own p c')) H1:=by
 have np:=R.new hp
 have ow:∀ b,Own (put A i (.own p c')).ae b->Own A.ae b\/b=p:=by
  rintro b ⟨j,c,h⟩;rcases cF h with ⟨_,z⟩|⟨_,z⟩
  ·cases z;exact .inr rfl
  ·exact .inl ⟨j,c,z⟩
 have S:ay A H (put A i (.own p c')) H1:=⟨λa o h _=>s a o h,λb z=>(ow b z).elim .inl λe=>.inr (by rw[e];exact hp),rfl,(ay.same A s).dm,rfl⟩;have kp:=R.keep S
 have oc:gF K (AN (put A i (.own p c'))) H1 p c':=by
  cases c' with
  |lst xs=>obtain⟨vs,h1,h2⟩:=hc;exact⟨vs,h1,h2.imp kp⟩
  |ah xs=>obtain⟨vs,h1,h2⟩:=hc;exact⟨vs,h1,h2.imp kp⟩
  |ins C dx xs=>obtain⟨vs,h1,h2⟩:=hc;exact⟨vs,h1,h2.1,h2.2.imp kp⟩
  |cO xs=>obtain⟨vs,h1,h2⟩:=hc;exact⟨vs,h1,h2.1,h2.2.imp kp⟩
 have R1:=R.same s;refine⟨⟨?_,?_,R1.c_,?_,R1.st,?_⟩,S⟩
 ·rw[length_set,R.len];exact(length_set ..).symm
 ·intro j t h;rcases cF h with ⟨rfl,z⟩|⟨n,z⟩
  ·cases z;refine⟨.ref p,?_,rfl,λz=>np (.inl z),oc⟩
   have:i<A.ae.length:=by
    by_cases hl:i<A.ae.length
    ·exact hl
    ·have h':(A.ae.set i (some (Sl.own p c')))[i]?=some (some (.own p c')):=h;rw[getElem?_set,if_pos rfl,if_neg hl] at h';cases h'
   rw[getElem?_set,if_pos rfl,if_pos (by rw[R.len];exact this)]
  ·obtain⟨w,e1,q⟩:=R.sl j t z;refine⟨w,by rw[getElem?_set,if_neg n];exact e1,?_⟩
   cases t with
   |val x=>exact q.imp kp
   |own b c=>exact⟨q.1,q.2.1,q.2.2.imp kp λo h=>s b o h⟩
   |peek b c=>exact⟨q.1,q.2.1,q.2.2.imp kp λo h=>s b o h⟩
 ·intro i1 j1 b c1 c2 h1 h2;have EO:∀{j:Nat}{c:OC},A.ae[j]?=some (some (.own p c))->False:=λh=>np (.inr ⟨_,_,h⟩);rcases cF h1 with ⟨e1,z1⟩|⟨_,z1⟩
  ·cases z1;rcases cF h2 with ⟨e2,z2⟩|⟨_,z2⟩
   ·exact e1.symm.trans e2
   ·exact(EO z2).elim
  ·rcases cF h2 with ⟨_,z2⟩|⟨_,z2⟩
   ·cases z2;exact(EO z1).elim
   ·exact R.nd _ _ _ _ _ z1 z2
 ·intro i1 b c1 st h1 h2;rcases cF h1 with ⟨_,z⟩|⟨_,z1⟩
  ·cases z
  ·exact R.pk _ _ _ _ z1 h2
theorem Rep.fresh (R:Rep K H σ A){c:OC}{v:V}(f:eJ K (AN A) H H1 c.pv v):∃ p,v=.ref p/\Rep K H1 (σ.set i (some v)) (put A i (.own p c))/\ay A H (put A i (.own p c)) H1:=by
 obtain⟨p,c',e,rfl,hp,s,hc⟩:=f
 cases c' with
 |lst xs=>
  have ec:OC.lst xs=c:=by cases c<;>cases e<;>rfl
  subst ec;exact⟨p,rfl,R.EN hp s hc⟩
 |ah xs=>
  have ec:OC.ah xs=c:=by cases c<;>cases e<;>rfl
  subst ec;exact⟨p,rfl,R.EN hp s hc⟩
 |ins _ _ _=>exact hc.elim
 |cO _=>exact hc.elim
theorem Rep.turn (R:Rep K H σ A){a:Addr}{xs ys:ai}{vs:Zv}(hi:A.ae[i]?=some (some (.own a (.lst xs))))(r:aI K (AN A) H ys vs):Rep K (upd H a (.lst vs)) σ (put A i (.own a (.lst ys)))/\ay A H (put A i (.own a (.lst ys))) (upd H a (.lst vs)):=by
 obtain⟨v,ev,rfl,nb,us,ha,_⟩:=R.sl i _ hi
 have ow:∀ b,Own (put A i (.own a (.lst ys))).ae b->Own A.ae b:=by
  rintro b ⟨j,c,h⟩;rcases cF h with ⟨_,z⟩|⟨_,z⟩
  ·cases z;exact⟨i,_,hi⟩
  ·exact⟨j,c,z⟩
 have dm:∀ b,H b≠none->upd H a (.lst vs) b≠none:=λb h=>by
  by_cases e:b=a
  ·subst e;rw[bD];intro z;cases z
  ·rw[a7 e];exact h
 have S:ay A H (put A i (.own a (.lst ys))) (upd H a (.lst vs)):=⟨λb o h m=>by
  rw[a7 λe=>m (.inl ⟨i,_,by rw[e];exact hi⟩)];exact h,λb z=>.inl (ow b z),rfl,dm,rfl⟩
 have kp:=R.keep S;refine⟨⟨?_,?_,λb h=>dm b (R.c_ b h),?_,?_,?_⟩,S⟩
 ·rw[R.len];exact(length_set ..).symm
 ·intro j t h;rcases cF h with ⟨rfl,z⟩|⟨n,z⟩
  ·cases z;exact⟨_,ev,rfl,nb,vs,bD,r.imp kp⟩
  ·obtain⟨w,e1,q⟩:=R.sl j t z;refine⟨w,e1,?_⟩
   cases t with
   |val x=>exact q.imp kp
   |own b c=>
    have ly:b≠a:=λe=>n (by subst e;exact R.nd _ _ _ _ _ hi z);exact⟨q.1,q.2.1,q.2.2.imp kp λo h=>by rw[a7 ly];exact h⟩
   |peek b c=>
    have ly:b≠a:=λe=>nb (by subst e;exact q.2.1);exact⟨q.1,q.2.1,q.2.2.imp kp λo h=>by rw[a7 ly];exact h⟩
 ·intro i1 j1 b c1 c2 h1 h2;rcases cF h1 with ⟨e1,z1⟩|⟨_,z1⟩
  ·cases z1;rcases cF h2 with ⟨e2,z2⟩|⟨_,z2⟩
   ·exact e1.symm.trans e2
   ·exact e1.symm.trans (R.nd _ _ _ _ _ hi z2)
  ·rcases cF h2 with ⟨e2,z2⟩|⟨_,z2⟩
   ·cases z2;exact(R.nd _ _ _ _ _ z1 hi).trans e2
   ·exact R.nd _ _ _ _ _ z1 z2
 ·intro st h;obtain⟨h1,h2,h3⟩:=R.st st h;have nd:a≠st.d:=λe=>nb (by rw[e];exact h1);refine⟨h1,h2.upd nd (λps z=>by rw[ha] at z;cases z),?_⟩
  exact h3.iR λo u h3=>by
   rw[a7 λe=>by rw[e,ha] at h3;cases h3];exact h3
 ·intro i1 b c1 st h1 h2;rcases cF h1 with ⟨_,z⟩|⟨_,z1⟩
  ·cases z
  ·exact R.pk _ _ _ _ z1 h2
end
section
variable {X:Cx}{K:Frag}{st:Stmt}{rest sa sb:List Stmt}{u w:US}{e c:Expr}{ue:UE}{t:UT}{pos:Pos}
theorem sn:cv X [] (b8 K EH):=qq.mono λD σ H ⟨A,E,R,h,k⟩=>k.nx A σ H h R (ay.refl A H)
theorem sc (h1:PS X st (b8 K u))(h2:cv X rest (b8 K w)):cv X (st::rest) (b8 K (EI u w)):=(eO h1 h2).mono λD σ H ⟨A,E,R,h,k⟩=>
 ⟨A,{ E with nx:=λA1=>w E A1 },R,h,⟨λA1 bu H1 p R1 S1=>⟨A1,E,R1,p,k.step S1⟩,k.rt,k.rf,k.ro,k.bk,k.ct⟩⟩
theorem s1 (h1:PS X st (b8 K u)):cv X [st] (b8 K u):=jg h1
theorem bc (hc:PT X c (liftT K t))(ha:cv X sa (b8 K u))(hb:cv X sb (b8 K w)):PS X (.If c sa sb pos) (b8 K (EJ t u w)):=(qr hc ha hb).mono λD σ H ⟨A,E,R,h,k⟩=>
 ⟨A,_,R,h,λb A1 H1 p R1 S1=>by
  cases b with
  |true=>exact lg ⟨A1,E,R1,p,k.step S1⟩
  | false=>exact la ⟨A1,E,R1,p,k.step S1⟩⟩
theorem a9 {i:Nat}{x:Str}{pos':Pos}(hN:X.N.Nodup)(he:PE X e (aB K ue))(hi:X.N[i]?=some x:=by rfl)(hx:Loc X.env.scope x:=by first|exact Or.inl rfl|exact Or.inr rfl)(hs:swapsWith e (some (.Name x pos')) pos.line X.env=pure false:=by rfl)
  (hf:X.fn x=true\/X.env.scope.names.lookup x=some .local:=by first|exact .inl rfl|exact .inr rfl|assumption):PS X (.Assign [.Name x pos'] e pos) (b8 K (xy i ue)):=(gu hN hi hx he hs hf).mono λD σ H ⟨A,E,R,h,k⟩=>
 ⟨A,_,R,h,λr A1 v H1 p R1 S1 rv=>k.nx _ _ H1 p (R1.val rv).1 (S1.trans (R1.val rv).2)⟩
theorem eQ {i:Nat}{x:Str}{pos':Pos}(hN:X.N.Nodup)(he:PE X e (c3 K ue))(hi:X.N[i]?=some x:=by rfl)(hx:Loc X.env.scope x:=by first|exact Or.inl rfl|exact Or.inr rfl)(hs:swapsWith e (some (.Name x pos')) pos.line X.env=pure false:=by rfl)
  (hf:X.fn x=true\/X.env.scope.names.lookup x=some .local:=by first|exact .inl rfl|exact .inr rfl|assumption):PS X (.Assign [.Name x pos'] e pos) (b8 K (xA i ue)):=(gu hN hi hx he hs hf).mono λD σ H ⟨A,E,R,h,k⟩=>
 ⟨A,_,R,h,λr A1 v H0 H1 p R1 S1 f=>by
  obtain⟨c,rfl,p⟩:=p;obtain⟨q,rfl,R2,S2⟩:=R1.fresh (i:=i) f
  exact k.nx _ _ H1 (p q) R2 (S1.trans S2)⟩
theorem eR (he:PE X e (aB K ue))(hs:swapsWith e none pos.line X.env=pure false:=by rfl):PS X (.Expr e pos) (b8 K (EK ue)):=(Ku he hs).mono λD σ H ⟨A,E,R,h,k⟩=>
 ⟨A,_,R,h,λr A1 v H1 p R1 S1 rv=>k.nx _ _ H1 p R1 S1⟩
theorem aK (he:PE X e (aB K ue)):PS X (.Return (some e) pos) (b8 K (EL ue)):=(jN he).mono λD σ H ⟨A,E,R,h,k⟩=>
 ⟨A,_,R,h,λr A1 v H1 p R1 S1 rv=>k.rt r A1 σ v H1 p R1 S1 rv⟩
theorem Pu (he:PE X e (c3 K ue)):PS X (.Return (some e) pos) (b8 K (EM ue)):=(jN he).mono λD σ H ⟨A,E,R,h,k⟩=>
 ⟨A,_,R,h,λr A1 v H0 H1 p R1 S1 f=>k.rf r A1 σ v H0 H1 p R1 S1 f⟩
theorem ER {i:Nat}{x:Str}{pos':Pos}(hN:X.N[i]?=some x:=by rfl)(hv:di X.env.scope x:=by walk_at "v")(hd:(x==("__debug__":Str))=false:=by decide)
  (bJ:(x==("__classdict__":Str))=false:=by decide):PS X (.Return (some (.Name x pos')) pos) (b8 K (xB i)):=(jN (dY hN hv hd bJ)).mono λD σ H ⟨A,E,R,h,k⟩=>by
 unfold xB at h
 split at h
 ·rename_i a cc hx;obtain⟨v,e,rfl,_⟩:=R.sl i _ hx;exact⟨_,e,k.ro i a (.lst cc) A σ H hx trivial h R (ay.refl A H)⟩
 ·rename_i a cc hx;obtain⟨v,e,rfl,_⟩:=R.sl i _ hx;exact⟨_,e,k.ro i a (.ah cc) A σ H hx trivial h R (ay.refl A H)⟩
 ·exact h.elim
end
abbrev UI:=AS->(ai->(cu)->AS->Prop)->Prop
abbrev UG:=PV->AS->(cu)->Prop
abbrev lz:=ai->AS->(cu)->Prop
def iU (S:Option ag)(H H1:Hp):Prop:=∀ b o,H b=some o->(¬ ∃ st,S=some st/\st.d=b)->H1 b=some o
structure iV (K:Frag)(A:AS)(H:Hp)(J:It)(xs:ai)(C:cu):Prop where
 go:∀ bE A2 H2,Rep K H2 bE A2->ay A H A2 H2->C A2->∀ i x,xs[i]?=some x->J.go i H2/\∀ v H',J.fJ i H2 v H'->aR H2 H'/\RV K (AN A2) H' x v
 stop:∀ bE A2 H2,Rep K H2 bE A2->ay A H A2 H2->C A2->J.stop xs.length H2
 cm:∀ H2,iU A.S H H2->(∀ i x,xs[i]?=some x->J.go i H2/\∀ v H',J.fJ i H2 v H'->aR H2 H'/\RV K (λa=>AN A a\/H a=none) H' x v)/\J.stop xs.length H2
def jv (K:Frag)(u:UI):TI:=λσ H R=>∃ A P,Rep K H σ A/\u A P/\∀ xs C A1 J H1,P xs C A1->Rep K H1 σ A1->ay A H A1 H1->iV K A1 H1 J xs C->R J H1
def jw (K:Frag)(g:UG):TG:=λv σ H Q=>∃ x A P,Rep K H σ A/\RV K (AN A) H x v/\g x A P/\∀ A1 bu,P A1->Rep K H bu A1->ay A H A1 H->Q bu H
def rY (K:Frag)(g:lz):jh:=λvs σ H Q=>∃ xs A P,Rep K H σ A/\aI K (AN A) H xs vs/\g xs A P/\∀ A1 bu,P A1->Rep K H bu A1->ay A H A1 H->Q bu H
theorem PG.mono {X:Cx}{e:Expr}{t t':TG}(h:PG X e t)(f:∀ v σ H Q,t' v σ H Q->t v σ H Q):PG X e t':=λpins s σ H v u Q I r w=>h pins s σ H v u Q I r (f _ _ _ _ w)
theorem g8.mono {X:Cx}{e:List Expr}{t t':jh}(h:g8 X e t)(f:∀ v σ H Q,t' v σ H Q->t v σ H Q):g8 X e t':=λpins s σ H v u Q I r w=>h pins s σ H v u Q I r (f _ _ _ _ w)
def gN (i:Nat):UG:=λx A Q=>Q (put A i (.val x))
def gT (n:Nat)(g:lz):UG:=λx A Q=>∃ xs,x=.tup xs/\xs.length=n/\g xs A Q
def xC:lz:=λxs A Q=>xs=[]/\Q A
def xD (g:UG)(gs:lz):lz:=λxs A Q=>∃ x r,xs=x::r/\g x A λA1=>gs r A1 Q
section
variable {X:Cx}{K:Frag}{e tg:Expr}{es:List Expr}{g:UG}{gs:lz}{pos:Pos}
theorem aQ {i:Nat}{x:Str}(hN:X.N.Nodup)(hi:X.N[i]?=some x:=by rfl)(hx:Loc X.env.scope x:=by first|exact Or.inl rfl|exact Or.inr rfl)(hf:X.fn x=true\/X.env.scope.names.lookup x=some .local:=by first|exact .inl rfl|exact .inr rfl|assumption):PG X (.Name x pos) (jw K (gN i)):=
 (Kx hN hi hx hf).mono λv σ H Q ⟨x,A,P,R,rv,h,c⟩=>c _ _ h (R.val rv).1 (R.val rv).2
theorem dU:g8 X [] (rY K xC):=KA.mono λv σ H Q ⟨xs,A,P,R,rv,⟨e,h⟩,c⟩=>by
 subst e;cases rv;exact⟨rfl,c A σ h R (ay.refl A H)⟩
theorem bj (h1:PG X e (jw K g))(h2:g8 X es (rY K gs))(hs:(assignEach (e::es) X.env).map (·.2)=assign e X.env::(assignEach es X.env).map (·.2):=by rfl):g8 X (e::es) (rY K (xD g gs)):=
 (KC h1 h2 hs).mono λv σ H Q ⟨xs,A,P,R,rv,⟨x,r,e,h⟩,c⟩=>by
  subst e
  cases rv with
  |cons r1 r2=>exact⟨_,_,rfl,x,A,_,R,r1,h,λA1 bu p R1 S1=>⟨r,A1,P,R1,r2.imp (R.keep S1),p,λA2 bE p2 R2 S2=>c A2 bE p2 R2 (S1.trans S2)⟩⟩
theorem dW {k n:Nat}(hK:X.K=K)(hc:X.calm=true)(h:g8 X es (rY K gs))(hn:(assignEach es X.env).length=n:=by rfl)(fX:(assignEach es X.env).findIdx? (·.1)=none:=by rfl):PG X (.Tuple es k pos) (jw K (gT n gs)):=by
 subst hK
 exact(KG hc h hn fX).mono λv σ H Q ⟨x,A,P,R,rv,⟨xs,e,l,h⟩,c⟩=>by
  subst e
  cases rv with
  |tup h1 h2=>exact⟨_,_,rfl,h1,by rw[<- h2.len];exact l,xs,A,P,R,h2,h,c⟩
end
def Pw (K:Frag)(tl:TE):TI:=λσ H R=>tl σ H λx H1=>(∃ a,x=.ref a/\(∃ xs,aO K H1 a xs)/\R (kS K a) H1)\/(∃ a,x=.ref a/\(∃ xs,bq K H1 a xs)/\R (uW K a) H1)\/(∃ z,x=.str z/\z.cps.all (·<128)=true/\R (vH z) H1)\/∃ a od kvs,x=.ref a/\H1 a=some (.bB od (.dK kvs))/\R (mL a od) H1
theorem ES {X:Cx}{tg l:Expr}{tl:TE}(hl:PE X l tl):PI X tg l (Pw X.K tl):=by
 intro pins s σ H R I h;refine aD (hl pins s σ H _ I h) λv s1 ⟨x,H1,I1,r1,q1⟩=>?_;rcases q1 with ⟨a,e,⟨xs,hq⟩,q⟩|⟨a,e,⟨xs,hq⟩,q⟩|⟨z,e,ha,q⟩|⟨a,od,kvs,e,hq,q⟩
 ·subst e;cases r1;obtain⟨its,rv,p,hz⟩:=I1.list hq;refine wpAny_pyIter_list p.isList ?_;refine⟨s1.heap.objs.size,[s1.heap.objs.size],_,_,H1,rfl,I1.kept (t':=s1.toks) λb o e=>a8 _ e,KL a _,⟨_,b6 _ rfl,rfl,rfl⟩,λb hb=>?_,q⟩;have e:b=s1.heap.objs.size:=by simpa using hb
  subst e;exact I1.jO (ar _) (I1.aA.fresh (ar _))
 ·subst e;cases r1;obtain⟨its,rv,p,hz⟩:=I1.tuple hq;refine wpAny_pyIter_tuple (show s1.heap.IsTuple a its.toArray from p) ?_;refine⟨s1.heap.objs.size,[s1.heap.objs.size],_,_,H1,rfl,I1.kept (t':=s1.toks) λb o e=>a8 _ e,KN a _,⟨_,b6 _ rfl,rfl,rfl⟩,λb hb=>?_,q⟩;have e:b=s1.heap.objs.size:=by simpa using hb
  subst e;exact I1.jO (ar _) (I1.aA.fresh (ar _))
 ·subst e;obtain⟨t,rfl⟩:=r1;refine wpAny_pyIter_ascii ha ?_;refine⟨s1.heap.objs.size,[s1.heap.objs.size],_,_,H1,rfl,I1.kept (t':=s1.toks) λb o e=>a8 _ e,M8 _ z t,⟨_,b6 _ rfl,rfl,rfl⟩,λb hb=>?_,q⟩;have e:b=s1.heap.objs.size:=by simpa using hb
  subst e;exact I1.jO (ar _) (I1.aA.fresh (ar _))
 ·subst e;cases r1;obtain⟨⟨e,_⟩,z,n,vs,r,ob,es,ep,e',c,d,q1,q2,q3⟩:=id (I1.aA a _ hq);rw[e] at e';cases e';have hsz:es.size=vs.length:=by rw[<- q2.length];simp
  refine wpAny_pyIter_dict (knd:=bM X.prog X.w) (kvs:=vs) (ep:=ep) n ⟨od,es,e,c,d,q1,q2,q3⟩ ?_;refine⟨s1.heap.objs.size,[s1.heap.objs.size],_,_,H1,rfl,I1.kept (t':=s1.toks) λb o e=>a8 _ e,Pg a _ od es ep d,⟨_,b6 _ rfl,rfl,by rw[hsz];rfl⟩,λb hb=>?_,q⟩;have e:b=s1.heap.objs.size:=by simpa using hb
  subst e;exact I1.jO (ar _) (I1.aA.fresh (ar _))
def signs (z:Str):ai:=z.cps.toList.map λc=>PV.str ⟨#[c]⟩
def xE:PV->(ai->Prop)->Prop
 |.lst xs,P=>P xs
 |.tup xs,P=>P xs
 |.str z,P=>z.cps.all (·<128)=true/\P (signs z)
 |.ah kvs,P=>P (kvs.map Prod.fst)
 |_,_=>False
def ET (ue:UE):UI:=λA P=>ue A λx A1=>xE x λxs=>P xs (λ_=>True) A1
def oZ:Option (Option Sl)->Nat->AS->(ai->(cu)->AS->Prop)->Prop
 |some (some (.val x)),_,A,P=>xE x λxs=>P xs (λ_=>True) A
 |some (some (.own a (.lst xs))),i,A,P=>P xs (λA2=>A2.ae[i]?=some (some (.own a (.lst xs)))) A
 |some (some (.peek a (.lst xs))),i,A,P=>P xs (λA2=>A2.ae[i]?=some (some (.peek a (.lst xs)))) A
 |_,_,_,_=>False
def EU (i:Nat):UI:=λA P=>oZ A.ae[i]? i A P
def EV (ue:UE):UI:=λA P=>ue A λx A1=>∃ n:Int,x=.int n/\n<=1000000000 /\ -1000000000<=n/\P ((range n.toNat).map fun(k:Nat)=>PV.int k) (λ_=>True) A1
section
variable {X:Cx}{K:Frag}{e e2 tg:Expr}{pos p:Pos}{ue uf:UE}
theorem Rep.EW {A:AS}{H:Hp}{σ:St}(R:Rep K H σ A){a:Addr}(n:¬ AN A a):¬ ∃ st,A.S=some st/\st.d=a:=by
 rintro⟨st,h,rfl⟩;exact n (.inl (R.st st h).1)
theorem Rep.lB {A:AS}{H H2:Hp}{σ:St}(R:Rep K H σ A)(b:iU A.S H H2):d7 K (AN A) (λa=>AN A a\/H a=none) H H2:=by
 refine⟨λa vs h=>?_,λa o n h=>⟨λz=>z.elim n (fE h),b a o h (R.EW n)⟩⟩;rcases h with h|h
 ·refine .inl (Er (n:=∃ st,A.S=some st/\st.d=a) (λo e m=>b a o e m) ?_ h);rintro⟨st,h1,rfl⟩;obtain⟨kvs,e⟩:=(R.st st h1).2.1.dk;rcases h with h|⟨o,h⟩<;>(rw[e] at h;cases h)
 ·exact .inr h
theorem EX {A:AS}{H H2:Hp}{σ:St}{a:Addr}{xs:ai}{vs:Zv}(R:Rep K H σ A)(b:iU A.S H H2)(h1:H2 a=some (.lst vs))(h2:aI K (AN A) H xs vs) :
  (∀ i x,xs[i]?=some x->(kS K a).go i H2/\∀ v H',(kS K a).fJ i H2 v H'->aR H2 H'/\RV K (λa=>AN A a\/H a=none) H' x v)/\(kS K a).stop xs.length H2:=by
 refine⟨λi x hx=>?_,⟨_,aO.of h1,by rw[h2.len];exact ar _⟩⟩;obtain⟨v,hv,rv⟩:=h2.at hx;refine⟨⟨_,v,aO.of h1,hv⟩,λv' H' y=>?_⟩;obtain⟨rfl,y⟩:=y;have:=y _ (aO.of h1);rw[hv] at this;cases this;exact⟨aR.refl _,rv.imp (R.lB b)⟩
theorem EY {A:AS}{H:Hp}{σ:St}{a:Addr}{xs:ai}(R:Rep K H σ A)(h:RV K (AN A) H (.lst xs) (.ref a)):iV K A H (kS K a) xs λ_=>True where
 go:=λbE A2 H2 R2 S2 _ i x hx=>by
  cases h.imp (R.keep S2) with
  |lst n h1 h2=>
   obtain⟨v,hv,rv⟩:=h2.at hx;refine⟨⟨_,v,aO.of h1,hv⟩,λv' H' y=>?_⟩;obtain⟨rfl,y⟩:=y;have:=y _ (aO.of h1);rw[hv] at this;cases this;exact⟨aR.refl _,rv⟩
 stop:=λbE A2 H2 R2 S2 _=>by
  cases h.imp (R.keep S2) with
  |lst n h1 h2=>exact⟨_,aO.of h1,by rw[h2.len];exact ar _⟩
 cm:=λH2 b=>by
  cases h with
  |lst n h1 h2=>exact EX R b (b a _ h1 (R.EW n)) h2
theorem EZ {A:AS}{H:Hp}{σ:St}{a:Addr}{xs:ai}(R:Rep K H σ A)(h:RV K (AN A) H (.tup xs) (.ref a)):iV K A H (uW K a) xs λ_=>True where
 go:=λbE A2 H2 R2 S2 _ i x hx=>by
  cases h.imp (R.keep S2) with
  |tup h1 h2=>
   obtain⟨v,hv,rv⟩:=h2.at hx;refine⟨⟨_,v,h1,hv⟩,λv' H' y=>?_⟩;obtain⟨rfl,y⟩:=y;have:=y _ h1;rw[hv] at this;cases this;exact⟨aR.refl _,rv⟩
 stop:=λbE A2 H2 R2 S2 _=>by
  cases h.imp (R.keep S2) with
  |tup h1 h2=>exact⟨_,h1,by rw[h2.len];exact ar _⟩
 cm:=λH2 b=>by
  cases h with
  |tup h1 h2=>
   have jZ:=(R.lB b).t _ _ h1;refine⟨λi x hx=>?_,⟨_,jZ,by rw[h2.len];exact ar _⟩⟩;obtain⟨v,hv,rv⟩:=h2.at hx;refine⟨⟨_,v,jZ,hv⟩,λv' H' y=>?_⟩;obtain⟨rfl,y⟩:=y;have:=y _ jZ;rw[hv] at this;cases this;exact⟨aR.refl _,rv.imp (R.lB b)⟩
theorem E1 {A:AS}{H:Hp}{σ:St}{a:Addr}{xs:ai}{i:Nat}{s:Sl}(R:Rep K H σ A)(hA:A.ae[i]?=some (some s))(hs:s=.own a (.lst xs)\/s=.peek a (.lst xs)):iV K A H (kS K a) xs λA2=>A2.ae[i]?=some (some s) where
 go:=λbE A2 H2 R2 S2 hc i x hx=>by
  obtain⟨w,_,o⟩:=R2.sl _ _ hc;have o':gF K (AN A2) H2 a (.lst xs):=by rcases hs with rfl|rfl<;>exact o.2.2
  obtain⟨vs,h1,h2⟩:=o';obtain⟨v,hv,rv⟩:=h2.at hx;refine⟨⟨_,v,aO.of h1,hv⟩,λv' H' y=>?_⟩;obtain⟨rfl,y⟩:=y;have:=y _ (aO.of h1);rw[hv] at this;cases this;exact⟨aR.refl _,rv⟩
 stop:=λbE A2 H2 R2 S2 hc=>by
  obtain⟨w,_,o⟩:=R2.sl _ _ hc;have o':gF K (AN A2) H2 a (.lst xs):=by rcases hs with rfl|rfl<;>exact o.2.2
  obtain⟨vs,h1,h2⟩:=o';exact⟨_,aO.of h1,by rw[h2.len];exact ar _⟩
 cm:=λH2 b=>by
  obtain⟨w,_,o⟩:=R.sl _ _ hA
  have nd:¬ ∃ st,A.S=some st/\st.d=a:=by
   rintro⟨st,h,rfl⟩;rcases hs with rfl|rfl
   ·exact o.2.1 (R.st st h).1
   ·exact R.pk _ _ _ st hA h rfl
  have o':gF K (AN A) H a (.lst xs):=by rcases hs with rfl|rfl<;>exact o.2.2
  obtain⟨vs,h1,h2⟩:=o';exact EX R b (b a _ h1 nd) h2
theorem bQ.at {N:Addr->Prop}{H:Hp}{xs:aS}{vs:List (V×V)}(h:bQ K N H xs vs){i:Nat}{x:PV}(e:(xs.map Prod.fst)[i]?=some x):∃ v,vs[i]?=some v/\RV K N H x v.1:=by
 induction vs generalizing xs i with
 |nil=>cases h;simp at e
 |cons v vs ih=>
  cases h with
  |cons h1 h2 h3=>
   cases i with
   |zero=>simp at e;subst e;exact⟨_,rfl,h1⟩
   |succ i=>exact ih h3 (by simpa using e)
theorem bQ.len0 {N:Addr->Prop}{H:Hp}{xs:aS}{vs:List (V×V)}(h:bQ K N H xs vs):xs.length=vs.length:=by
 induction vs generalizing xs with
 |nil=>cases h;rfl
 |cons v vs ih=>cases h with|cons h1 h2 h3=>rw[length_cons,length_cons,ih h3]
theorem xF {N:Addr->Prop}{H2:Hp}{a:Addr}{od:Obj}{kvs:aS}{av:bh}(h1:H2 a=some (.bB od (.dK av)))(h2:bQ K N H2 kvs (av.map λkv=>(kV kv.1,kv.2))) :
  (∀ i x,(kvs.map Prod.fst)[i]?=some x->(mL a od).go i H2/\∀ v H',(mL a od).fJ i H2 v H'->aR H2 H'/\RV K N H' x v)/\(mL a od).stop (kvs.map Prod.fst).length H2:=by
 have l:=h2.len0;rw[length_map] at l;refine⟨λi x hx=>?_,⟨av,h1,by rw[length_map,l];exact ar _⟩⟩;obtain⟨v,hv,rv⟩:=h2.at hx;rw[getElem?_map] at hv;obtain⟨kv,mJ,rfl⟩:=Option.map_eq_some_iff.mp hv;refine⟨⟨av,kv,h1,mJ⟩,λv' H' y=>?_⟩;obtain⟨rfl,y⟩:=y;obtain⟨kb,e1,rfl⟩:=y av h1;rw[mJ] at e1;cases e1;exact⟨aR.refl _,rv⟩
theorem E2 {A:AS}{H:Hp}{σ:St}{a:Addr}{od:Obj}{kvs:aS}{av:bh}(R:Rep K H σ A)(n:¬ AN A a)(h1:H a=some (.bB od (.dK av)))(h2:bQ K (AN A) H kvs (av.map λkv=>(kV kv.1,kv.2))):iV K A H (mL a od) (kvs.map Prod.fst) λ_=>True where
 go:=λbE A2 H2 R2 S2 _ i x hx=>by
  have k:=R.keep S2;exact(xF (k.l _ _ n h1).2 (h2.imp k)).1 i x hx
 stop:=λbE A2 H2 R2 S2 _=>by
  have k:=R.keep S2;exact(xF (k.l _ _ n h1).2 (h2.imp k)).2
 cm:=λH2 b=>by
  have k:=R.lB b;have z:=xF (N:=λa=>AN A a\/H a=none) (k.l _ _ n h1).2 (h2.imp k);exact z
theorem E3 {A:AS}{H:Hp}{z:Str}:iV K A H (vH z) (signs z) λ_=>True where
 go:=λbE A2 H2 R2 S2 _ i x hx=>by
  unfold signs at hx;rw[getElem?_map] at hx;obtain⟨c,hc,rfl⟩:=Option.map_eq_some_iff.mp hx;have c8:z.cps[i]?=some c:=by simpa using hc
  refine⟨?_,?_⟩
  ·show i<z.cps.size;rcases Nat.lt_or_ge i z.cps.size with q|q
   ·exact q
   ·rw[Array.getElem?_eq_none q] at c8;cases c8
  ·rintro v H' ⟨rfl,c',h1,rfl⟩;rw[c8] at h1;cases h1;exact⟨aR.refl _,.str _⟩
 stop:=λbE A2 H2 R2 S2 _=>by
  show z.cps.size<=_;unfold signs;simp
 cm:=λH2 b=>⟨λi x hx=>by
  unfold signs at hx;rw[getElem?_map] at hx;obtain⟨c,hc,rfl⟩:=Option.map_eq_some_iff.mp hx;have c8:z.cps[i]?=some c:=by simpa using hc
  refine⟨?_,?_⟩
  ·show i<z.cps.size;rcases Nat.lt_or_ge i z.cps.size with q|q
   ·exact q
   ·rw[Array.getElem?_eq_none q] at c8;cases c8
  ·rintro v H' ⟨rfl,c',h1,rfl⟩;rw[c8] at h1;cases h1
   exact⟨aR.refl _,.str _⟩,by
  show z.cps.size<=_;unfold signs
  simp⟩
theorem Px {A:AS}{H:Hp}{lo:Int}{n:Nat}:iV K A H (qu lo n) ((range n).map fun(k:Nat)=>PV.int (lo+k)) λ_=>True where
 go:=λbE A2 H2 R2 S2 _ i x hx=>by
  rw[getElem?_map] at hx;obtain⟨c,hc,rfl⟩:=Option.map_eq_some_iff.mp hx;obtain⟨hi,e⟩:=c6 hc;have e':i=c:=by simpa using e
  subst e';refine⟨(by simpa using hi:i<n),?_⟩;rintro v H' ⟨rfl,rfl⟩;exact⟨aR.refl _,.int _⟩
 stop:=λbE A2 H2 R2 S2 _=>by
  show n<=_;simp
 cm:=λH2 b=>⟨λi x hx=>by
  rw[getElem?_map] at hx;obtain⟨c,hc,rfl⟩:=Option.map_eq_some_iff.mp hx;obtain⟨hi,e⟩:=c6 hc;have e':i=c:=by simpa using e
  subst e';refine⟨(by simpa using hi:i<n),?_⟩;rintro v H' ⟨rfl,rfl⟩
  exact⟨aR.refl _,.int _⟩,by
  show n<=_
  simp⟩
theorem iv (hK:X.K=K)(h:PE X e (aB K ue)):PI X tg e (jv K (ET ue)):=by
 subst hK;refine(ES h).mono λσ H Q ⟨A,P,R,h,c⟩=>⟨A,_,R,h,λx A1 v H1 p R1 S1 rv=>?_⟩
 cases x with
 |lst xs=>cases rv with|lst n h1 h2=>exact .inl ⟨_,rfl,⟨_,aO.of h1⟩,c xs _ A1 _ H1 p R1 S1 (EY R1 (.lst n h1 h2))⟩
 |tup xs=>cases rv with|tup h1 h2=>exact .inr (.inl ⟨_,rfl,⟨_,h1⟩,c xs _ A1 _ H1 p R1 S1 (EZ R1 (.tup h1 h2))⟩)
 |str z=>cases rv;exact .inr (.inr (.inl ⟨z,rfl,p.1,c _ _ A1 _ H1 p.2 R1 S1 E3⟩))
 |ah kvs=>
  cases rv with
  |ah n hD h2=>
   obtain⟨av,od,h1,rfl⟩:=hD;exact .inr (.inr (.inr ⟨_,od,av,rfl,h1,c _ _ A1 _ H1 p R1 S1 (E2 R1 n h1 h2)⟩))
 |_=>exact p.elim
theorem jx (hK:X.K=K)(i:Nat){x:Str}(hN:X.N[i]?=some x:=by rfl)(hv:di X.env.scope x:=by walk_at "v")(hd:(x==("__debug__":Str))=false:=by decide)
  (bJ:(x==("__classdict__":Str))=false:=by decide):PI X tg (.Name x pos) (jv K (EU i)):=by
 subst hK;refine(ES (dY hN hv hd bJ)).mono λσ H Q ⟨A,P,R,h,c⟩=>?_;have h':oZ A.ae[i]? i A P:=h
 cases hx:A.ae[i]? with
 |none=>rw[hx] at h';exact h'.elim
 |some o=>
  cases o with
  |none=>rw[hx] at h';exact h'.elim
  |some s=>
   rw[hx] at h'
   cases s with
   |val x=>
    obtain⟨v,e,q⟩:=R.sl i _ hx
    cases x with
    |lst xs=>cases (show RV X.K (AN A) H (.lst xs) v from q) with|lst n h1 h2=>exact⟨_,e,.inl ⟨_,rfl,⟨_,aO.of h1⟩,c xs _ A _ H h' R (ay.refl A H) (EY R (.lst n h1 h2))⟩⟩
    |tup xs=>cases (show RV X.K (AN A) H (.tup xs) v from q) with|tup h1 h2=>exact⟨_,e,.inr (.inl ⟨_,rfl,⟨_,h1⟩,c xs _ A _ H h' R (ay.refl A H) (EZ R (.tup h1 h2))⟩)⟩
    |str z=>
     cases (show RV X.K (AN A) H (.str z) v from q);exact⟨_,e,.inr (.inr (.inl ⟨z,rfl,h'.1,c _ _ A _ H h'.2 R (ay.refl A H) E3⟩))⟩
    |ah kvs=>
     cases (show RV X.K (AN A) H (.ah kvs) v from q) with
     |ah n hD h2=>
      obtain⟨av,od,h1,rfl⟩:=hD;exact⟨_,e,.inr (.inr (.inr ⟨_,od,av,rfl,h1,c _ _ A _ H h' R (ay.refl A H) (E2 R n h1 h2)⟩))⟩
    |_=>exact h'.elim
   |own a oc=>
    cases oc with
    |lst xs=>
     obtain⟨v,e,rfl,_,vs,h1,h2⟩:=R.sl i _ hx;exact⟨_,e,.inl ⟨_,rfl,⟨_,aO.of h1⟩,c xs _ A _ H h' R (ay.refl A H) (E1 R hx (.inl rfl))⟩⟩
    |ah _=>exact h'.elim
    |ins _ _ _=>exact h'.elim
    |cO _=>exact h'.elim
   |peek a oc=>
    cases oc with
    |lst xs=>
     obtain⟨v,e,rfl,_,vs,h1,h2⟩:=R.sl i _ hx;exact⟨_,e,.inl ⟨_,rfl,⟨_,aO.of h1⟩,c xs _ A _ H h' R (ay.refl A H) (E1 R hx (.inr rfl))⟩⟩
    |ah _=>exact h'.elim
    |ins _ _ _=>exact h'.elim
    |cO _=>exact h'.elim
theorem iW (hg:Gl X "range")(hm:X.mg "range"=none)(h:PE X e (aB K ue))(hs:starEach [e] X.env=[(false,eval e X.env)]:=by rfl):PI X tg (.Call (.Name "range" p) [e] [] pos) (jv K (EV ue)):=by
 refine(KR hg hm (b7 h cN hs) hs).mono λσ H Q ⟨A,P,R,h,c⟩=>⟨A,_,R,h,λx A1 v H1 q R1 S1 rv=>?_⟩;obtain⟨n,rfl,n1,n2,q⟩:=q;cases rv;refine⟨n,rfl,by omega,by omega,c _ _ A1 _ H1 q R1 S1 ?_⟩;have:=Px (K:=K) (A:=A1) (H:=H1) (lo:=0) (n:=n.toNat);simpa using this
end
def fF (xs:ai)(C:cu)(A1:AS)(g:UG)(ub:US)(E:gH):Prop:=∃ I:ai->AS->Prop,I [] A1/\(∀ d A2,I d A2->C A2) /\
 (∀ d x r A2,xs=d++x::r->I d A2->g x A2 λA3=>ub { E with nx:=I (d++[x]),ct:=I (d++[x]),bk:=E.nx } A3)/\∀ A2,I xs A2->E.nx A2
def E4 (ui:UI)(g:UG)(ub:US):US:=λE A=>ui A λxs C A1=>fF xs C A1 g ub E
def Py (t:UT)(ub:US):US:=λE A=>∃(I:cu)(μ:AS->Nat),I A/\∀ A1,I A1->t A1 λk A2=>if k=true then ub { E with nx:=λA3=>I A3/\μ A3<μ A1,ct:=λA3=>I A3/\μ A3<μ A1,bk:=E.nx } A2 else E.nx A2
section
variable {X:Cx}{K:Frag}{tg iter c:Expr}{body:List Stmt}{ui:UI}{g:UG}{ub:US}{t:UT}{pos:Pos}
theorem eS (hp:PassesOwn (model X.prog X.w) X.A X.env X.xe)(hc:X.calm=true)(hi:PI X tg iter (jv K ui))(hg:PG X tg (jw K g))(hb:cv X body (b8 K ub))(hs:∀ x,foldedSetIterable iter X.env x=pure x:=by intro _;rfl) :
  PS X (.For tg iter body [] pos) (b8 K (E4 ui g ub)):=by
 refine(KW hp hc hi hg hb hs).mono λD σ H ⟨A,E,R,h,k⟩=>⟨A,_,R,h,λxs C A1 J H1 p R1 S1 ok=>?_⟩;obtain⟨I,i0,iC,step,fin⟩:=p;refine⟨λi m aH H'=>m=xs.length-i/\i<=xs.length/\∃ A2,I (xs.take i) A2/\Rep K H' aH A2/\ay A1 H1 A2 H',⟨_,rfl,Nat.zero_le _,A1,i0,R1,ay.refl A1 H1⟩,?_⟩;rintro i m aH H' ⟨rfl,hi,A2,hI,R2,S2⟩;by_cases eE:i<xs.length
 ·obtain⟨go,fJ⟩:=ok.go aH A2 H' R2 S2 (iC _ _ hI) i xs[i] (cf eE);refine .inr ⟨go,λo_ jy=>∃ A3,I (xs.take (i+1)) A3/\Rep K jy o_ A3/\ay A1 H1 A3 jy,λo_ jy q=>⟨xs.length-(i+1),by omega,rfl,eE,q⟩,λv H3 y=>?_⟩;obtain⟨s,rv⟩:=fJ v H3 y;have eT:xs.take (i+1)=xs.take i++[xs[i]]:=by rw[take_add_one,cf eE];rfl
  refine⟨xs[i],A2,_,R2.same s,rv,step (xs.take i) xs[i] (xs.drop (i+1)) A2 (by simp) hI,λA3 cK p3 R3 S3=>⟨A3,_,R3,p3,?_⟩⟩;have xG:ay A1 H1 A3 H3:=S2.trans ((ay.same A2 s).trans S3);have k3:=k.step (S1.trans xG);exact⟨λA4 xH H4 q R4 S4=>⟨A4,by rw[eT];exact q,R4,xG.trans S4⟩,k3.rt,k3.rf,k3.ro,k3.nx,λA4 xH H4 q R4 S4=>⟨A4,by rw[eT];exact q,R4,xG.trans S4⟩⟩
 ·have e:i=xs.length:=by omega
  subst e;rw[take_length] at hI;exact .inl ⟨ok.stop aH A2 H' R2 S2 (iC _ _ hI),k.nx A2 aH H' (fin A2 hI) R2 (S1.trans S2)⟩
theorem Pz (hp:PassesOwn (model X.prog X.w) X.A X.env X.xe)(hc:PT X c (liftT K t))(hb:cv X body (b8 K ub)):PS X (.While c body [] pos) (b8 K (Py t ub)):=by
 refine(A0 hp hc hb).mono λD σ H ⟨A,E,R,h,k⟩=>?_;obtain⟨I,μ,i0,step⟩:=h;refine⟨λm aH H'=>∃ A1,m=μ A1/\I A1/\Rep K H' aH A1/\ay A H A1 H',⟨_,A,rfl,i0,R,ay.refl A H⟩,?_⟩;rintro m aH H' ⟨A1,rfl,hI,R1,S1⟩;refine⟨A1,_,R1,step A1 hI,λb A2 H2 p R2 S2=>?_⟩;have k2:=k.step (S1.trans S2)
 cases b with
 |true=>
  refine⟨λo_ jy=>∃ A3,(I A3/\μ A3<μ A1)/\Rep K jy o_ A3/\ay A H A3 jy,?_,?_⟩
  ·rintro o_ jy ⟨A3,⟨q1,q2⟩,R3,S3⟩;exact⟨μ A3,q2,A3,rfl,q1,R3,S3⟩
  ·exact⟨A2,_,R2,p,⟨λA4 xH H4 q R4 S4=>⟨A4,q,R4,S1.trans (S2.trans S4)⟩,k2.rt,k2.rf,k2.ro,k2.nx,λA4 xH H4 q R4 S4=>⟨A4,q,R4,S1.trans (S2.trans S4)⟩⟩⟩
 |false=>exact k2.nx A2 aH H2 p R2 (ay.refl A2 H2)
end
def Sl.rZ:Sl->Sl
 |.own a c=>.peek a c
 |s=>s
def mN (ix:List Nat)(ae:cL):cL:=ix.map λj=>((ae[j]?).join).map Sl.rZ
def df (k:Nat)(ix:List Nat)(ae:cL):cL:=replicate k none++mN ix ae
def Kp (k:Nat)(ix:List Nat)(ae:cL)(A:AS):Prop:=A.ae.length=k+ix.length/\A.ae.drop k=mN ix ae
def kc:UT:=λA Q=>Q true A
def kf (k:Nat)(ix:List Nat)(xs:ai)(A1:AS)(g:UG)(t:UT)(ue:UE)(Q:PV->AS->Prop):Prop:=xs.length<=1000000/\∃ I:ai->ai->Option ag->Prop,I [] [] A1.S /\
 (∀ B d x r ys S,xs=d++x::r->I d ys S->g x ⟨B,df k ix A1.ae,S⟩ λA2=>t A2 λb A3=>if b=true then ue A3 λy A4=>Kp k ix A1.ae A4/\I (d++[x]) (ys++[y]) A4.S else Kp k ix A1.ae A3/\I (d++[x]) ys A3.S) /\
 ∀ ys S,I xs ys S->Q (.lst ys) { A1 with S:=S }
def r6 (k:Nat)(ix:List Nat)(ui:UI)(g:UG)(t:UT)(ue:UE):UE:=λA Q=>ui A λxs _ A1=>kf k ix xs A1 g t ue Q
def erase (H:Hp)(p:Addr):Hp:=λb=>if b=p then none else H b
theorem mO (H:Hp)(p:Addr):erase H p p=none:=if_pos rfl
theorem cG {H:Hp}{p b:Addr}(h:b≠p):erase H p b=H b:=if_neg h
section
variable {K:Frag}{H H1 H2:Hp}{σ:St}{A:AS}
theorem iU.E5 (R:Rep K H σ A){S:Option ag}(hs:S.map ag.d=A.S.map ag.d)(fX:∀ st,S=some st->cE H1 st.d st.a st.n st.b/\eI K H1 st.a)(b:iU A.S H H1):Rep K H1 σ { A with S:=S }/\ay A H { A with S:=S } H1:=by
 have dm:∀ a,H a≠none->H1 a≠none:=λa h=>by
  by_cases e:∃ st,A.S=some st/\st.d=a
  ·obtain⟨st',h1,h2⟩:=lx hs.symm e;obtain⟨kvs,q⟩:=(fX st' h1).1.dk;rw[<- h2];exact fE q
  ·cases q:H a with
   |none=>exact absurd q h
   |some o=>exact fE (b a o q e)
 have S0:ay A H { A with S:=S } H1:=⟨λa o h m=>b a o h λz=>m (.inr z),λ_ h=>.inl h,rfl,dm,hs⟩;have kp:=R.keep S0;refine⟨⟨R.len,λi s h=>?_,λa h=>dm a (R.c_ a h),R.nd,λst h=>?_,λi a c st h1 h2=>?_⟩,S0⟩
 ·obtain⟨v,e,q⟩:=R.sl i s h;refine⟨v,e,?_⟩
  cases s with
  |val x=>exact q.imp kp
  |own a c=>exact⟨q.1,q.2.1,q.2.2.imp kp λo h=>b a o h fun⟨st,z1,z2⟩=>q.2.1 (by rw[<- z2];exact(R.st st z1).1)⟩
  |peek a c=>exact⟨q.1,q.2.1,q.2.2.imp kp λo h2=>b a o h2 fun⟨st,z1,z2⟩=>R.pk i a c st h z1 z2.symm⟩
 ·obtain⟨st',h1,h2⟩:=lx hs ⟨st,h,rfl⟩;exact⟨by show A.B st.d;rw[<- h2];exact(R.st st' h1).1,(fX st h).1,(fX st h).2⟩
 ·obtain⟨st',h3,h4⟩:=lx hs ⟨st,h2,rfl⟩;rw[<- h4];exact R.pk i a c st' h1 h3
theorem Rep.drop (R:Rep K H σ A){k:Nat}{cs:cL}(e:A.ae.drop k=cs)(hk:k<=A.ae.length):Rep K H σ { A with ae:=replicate k none++cs }/\∀ a,Own (replicate k none++cs) a->Own A.ae a:=by
 have at':∀ i s,(replicate k none++cs)[i]?=some (some s)->A.ae[i]?=some (some s):=λi s h=>by
  by_cases hi:i<k
  ·rw[getElem?_append_left (by simpa using hi),getElem?_replicate,if_pos hi] at h;cases h
  ·rw[getElem?_append_right (by simpa using (Nat.le_of_not_lt hi)),length_replicate,<- e,getElem?_drop] at h;rwa [show k+(i-k)=i by omega] at h
 have ow:∀ a,Own (replicate k none++cs) a->Own A.ae a:=λa ⟨i,c,h⟩=>⟨i,c,at' i _ h⟩;have kp:d7 K (AN A) (AN { A with ae:=replicate k none++cs }) H H:=⟨λ_ _ h=>h,λ_ _ n h=>⟨λz=>n (z.elim .inl λy=>.inr (ow _ y)),h⟩⟩;refine⟨⟨?_,λi s h=>?_,R.c_,λi j a c c' h1 h2=>R.nd i j a c c' (at' i _ h1) (at' j _ h2),R.st,λi a c st h1 h2=>R.pk i a c st (at' i _ h1) h2⟩,ow⟩
 ·rw[R.len];show _=(replicate k none++cs).length;rw[<- e,length_append,length_replicate,length_drop];omega
 ·obtain⟨v,e1,q⟩:=R.sl i s (at' i s h);refine⟨v,e1,?_⟩
  cases s with
  |val x=>exact q.imp kp
  |own b c=>exact⟨q.1,q.2.1,q.2.2.imp kp λ_ h=>h⟩
  |peek b c=>exact⟨q.1,q.2.1,q.2.2.imp kp λ_ h=>h⟩
theorem PB {ix:List Nat}{ae:cL}{i:Nat}{s:Sl}(h:(mN ix ae)[i]?=some (some s)):∃ j t,ix[i]?=some j/\ae[j]?=some (some t)/\s=t.rZ:=by
 unfold mN at h;rw[getElem?_map] at h;obtain⟨j,hj,e⟩:=Option.map_eq_some_iff.mp h;obtain⟨t,ht,e2⟩:=Option.map_eq_some_iff.mp e;refine⟨j,t,hj,?_,e2.symm⟩
 cases q:ae[j]? with
 |none=>rw[q] at ht;cases ht
 |some o=>rw[q] at ht;exact congrArg some ht
theorem r9 {k:Nat}{ix:List Nat}{ae:cL}{i:Nat}{s:Sl}(h:(df k ix ae)[i]?=some (some s)):∃ i' j t,i=k+i'/\ix[i']?=some j/\ae[j]?=some (some t)/\s=t.rZ:=by
 unfold df at h;by_cases hi:i<k
 ·rw[getElem?_append_left (by simpa using hi),getElem?_replicate,if_pos hi] at h;cases h
 ·rw[getElem?_append_right (by simpa using (Nat.le_of_not_lt hi)),length_replicate] at h;obtain⟨j,t,h1,h2,h3⟩:=PB h;exact⟨i-k,j,t,by omega,h1,h2,h3⟩
theorem lD {k:Nat}{ix:List Nat}{ae:cL}{a:Addr}:¬ Own (df k ix ae) a:=by
 rintro⟨i,c,h⟩;obtain⟨_,_,t,_,_,_,e⟩:=r9 h;cases t<;>cases e
theorem gF.some {N:Addr->Prop}{a:Addr}{c:OC}(h:gF K N H a c):H a≠none:=by
 cases c with
 |lst xs=>obtain⟨vs,h,_⟩:=h;exact fE h
 |ah xs=>obtain⟨vs,h,_⟩:=h;exact fE h
 |ins _ _ xs=>obtain⟨vs,h,_⟩:=h;exact fE h
 |cO xs=>obtain⟨vs,h,_⟩:=h;exact fE h
theorem xI {a acc:Addr}{us vs ws:Zv}(ha:H acc=Option.some (.lst vs))(h:bq K H a us):bq K (upd H acc (.lst ws)) a us:=by
 rcases h with h|h
 ·refine .inl ?_;rcases h with h|⟨o,h⟩
  ·exact .inl (by rw[a7 λe=>by rw[e,ha] at h;cases h];exact h)
  ·exact .inr ⟨o,by rw[a7 λe=>by rw[e,ha] at h;cases h];exact h⟩
 ·exact .inr h
theorem Rep.PD (R:Rep K H σ A){acc:Addr}{vs ws:Zv}(ha:H acc=Option.some (.lst vs))(hB:A.B acc)(hp:∀(i:Nat)(a:Addr)(c:OC),A.ae[i]?=Option.some (Option.some (Sl.peek a c))->a≠acc):Rep K (upd H acc (.lst ws)) σ A:=by
 have kp:d7 K (AN A) (AN A) H (upd H acc (.lst ws)):=⟨λa us h=>xI ha h,λa o n h=>⟨n,by rw[a7 λe=>n (by rw[e];exact .inl hB)];exact h⟩⟩;refine⟨R.len,λi s h=>?_,λa h=>?_,R.nd,λst h=>?_,R.pk⟩
 ·obtain⟨v,e,q⟩:=R.sl i s h;refine⟨v,e,?_⟩
  cases s with
  |val x=>exact q.imp kp
  |own a c=>exact⟨q.1,q.2.1,q.2.2.imp kp λo h=>by rw[a7 λe=>q.2.1 (by rw[e];exact hB)];exact h⟩
  |peek a c=>exact⟨q.1,q.2.1,q.2.2.imp kp λo h2=>by rw[a7 (hp i a c h)];exact h2⟩
 ·by_cases e:a=acc
  ·rw[e,bD];intro z;cases z
  ·rw[a7 e];exact R.c_ a h
 ·obtain⟨h1,h2,h3⟩:=R.st st h;refine⟨h1,h2.upd (λe=>?_) (λps z=>by rw[ha] at z;cases z),h3.iR λo u z=>?_⟩
  ·obtain⟨kvs,q⟩:=h2.dk;rw[<- e,ha] at q;cases q
  ·rw[a7 λe=>by rw[e,ha] at z;cases z];exact z
theorem Rep.inner (R:Rep K H σ A){acc:Addr}(fi:H acc=none)(k:Nat)(ix:List Nat):Rep K (upd H acc (.lst [])) (f_ k ix σ) ⟨λb=>AN A b\/b=acc,df k ix A.ae,A.S⟩:=by
 have s:aR H (upd H acc (.lst [])):=dJ fi _;have R1:=R.same s;have na:∀ a o,H a=some o->a≠acc:=λa o h=>dF h fi
 have kp:d7 K (AN A) (AN ⟨λb=>AN A b\/b=acc,df k ix A.ae,A.S⟩) H (upd H acc (.lst [])):=⟨(iS (K:=K) (N:=AN A) s).t,λa o n h=>⟨λz=>by
  rcases z with (z|z)|z
  ·exact n z
  ·exact na a o h z
  ·exact lD z,s a o h⟩⟩
 refine⟨?_,λi t h=>?_,λa h=>?_,λi j a c c' h _=>absurd ⟨i,c,h⟩ lD,λst h=>?_,λi a c st h1 h2=>?_⟩
 ·show(f_ k ix σ).length=(df k ix A.ae).length;unfold f_ df mN;rw[length_append,length_append,length_map,length_map,length_replicate,length_replicate]
 ·obtain⟨i',j,t',rfl,h1,h2,rfl⟩:=r9 h;obtain⟨v,e,q⟩:=R.sl j _ h2;refine⟨v,?_,?_⟩
  ·unfold f_;rw[getElem?_append_right (by simp),length_replicate,getElem?_map,show k+i'-k=i' by omega,h1];show some ((σ[j]?).join)=_;rw[e];rfl
  ·cases t' with
   |val x=>exact q.imp kp
   |own a c=>exact⟨q.1,.inl (.inr ⟨j,c,h2⟩),q.2.2.imp kp λo=>s a o⟩
   |peek a c=>exact⟨q.1,.inl (.inl q.2.1),q.2.2.imp kp λo=>s a o⟩
 ·rcases h with h|h
  ·rcases h with h|h
   ·exact R1.c_ a h
   ·rcases R.jt h with ⟨z,e⟩|⟨z,e⟩|⟨_,_,z,e⟩|⟨z,e⟩
    ·exact fE (s _ _ e)
    ·exact fE (s _ _ e)
    ·exact fE (s _ _ e)
    ·exact fE (s _ _ e)
  ·subst h;rw[bD];intro z;cases z
 ·obtain⟨h1,h2,h3⟩:=R1.st st h;exact⟨.inl (.inl h1),h2,h3⟩
 ·obtain⟨i',j,t,rfl,h3,h4,e⟩:=r9 h1
  cases t with
  |val x=>cases e
  |own b c=>cases e;intro z;obtain⟨_,_,_,nb,_⟩:=R.sl j _ h4;exact nb (by rw[z];exact(R.st st h2).1)
  |peek b c=>cases e;exact R.pk j _ _ st h4 h2
theorem xJ {J:It}{g:UG}{t:UT}{ue:UE}{k:Nat}{ix:List Nat}{acc:Addr}{xs:ai}{C:cu}{Q:VK}{I:ai->ai->Option ag->Prop}{fin:PV->AS->Prop}(R:Rep K H σ A)(ok:iV K A H J xs C)(fi:H acc=none)
  (aF:xs.length<=1000000)(i0:I [] [] A.S)
  (step:∀ B d x r ys S,xs=d++x::r->I d ys S->g x ⟨B,df k ix A.ae,S⟩ λA2=>t A2 λb A3=>if b=true then ue A3 λy A4=>Kp k ix A.ae A4/\I (d++[x]) (ys++[y]) A4.S else Kp k ix A.ae A3/\I (d++[x]) ys A3.S)
  (PF:∀ ys S,I xs ys S->fin (.lst ys) { A with S:=S })(q:∀ zs A1 v H0 H1,fin (.lst zs) A1->Rep K H0 σ A1->ay A H A1 H0->eJ K (AN A1) H0 H1 (.lst zs) v->Q v H1) :
  oO J (jw K g) (liftT K t) (aB K ue) acc Q (f_ k ix σ) (upd H acc (.lst [])):=by
 let B:Addr->Prop:=λb=>AN A b\/b=acc
 have na:∀ a o,H a=some o->a≠acc:=λa o h=>dF h fi
 refine OW xs.length (λi aH H'=>∃ ys vs S,I (xs.take i) ys S/\Rep K H' aH ⟨B,df k ix A.ae,S⟩/\H' acc=some (.lst vs)/\aI K B H' ys vs/\vs.length<=i/\iU A.S H H'/\S.map ag.d=A.S.map ag.d)
  ⟨[],[],A.S,i0,R.inner fi k ix,bD,.nil,ar _,λb o h _=>by rw[a7 (na b o h)];exact h,rfl⟩ ?_ ?_
 ·rintro aH H' ⟨ys,vs,S,hI,R',ha,rs,_,bs,hs⟩;rw[take_length] at hI;refine⟨(ok.cm H' bs).2,?_⟩
  -- the heap without the new list
  have be:iU A.S H (erase H' acc):=λb o h n=>by rw[cG (na b o h)];exact bs b o h n
  have PH:∀ st,S=some st->cE (erase H' acc) st.d st.a st.n st.b/\eI K (erase H' acc) st.a:=λst h=>by
   obtain⟨_,h1,h2⟩:=R'.st st h;obtain⟨st',e1,e2⟩:=lx hs ⟨st,h,rfl⟩;obtain⟨kvs,hd⟩:=(R.st st' e1).2.1.dk;have nd:st.d≠acc:=by rw[<- e2];exact na _ _ hd
   refine⟨?_,?_⟩
   ·obtain⟨t,l,w,e,r⟩:=h1.ex
    exact⟨⟨t,l,w,by rw[cG nd];exact e,r⟩,λT o z=>⟨by
     rw[cG λy=>by
      have q:=(h1.tb T o z).1;rw[y,ha] at q
      cases q]
     exact(h1.tb T o z).1,(h1.tb T o z).2⟩⟩
   ·exact h2.iR λo u h2=>by
     rw[cG λe=>by rw[e,ha] at h2;cases h2];exact h2
  obtain⟨R3,S3⟩:=iU.E5 R hs PH be;refine q ys _ _ (erase H' acc) H' (PF ys S hI) R3 S3 ⟨acc,.lst ys,rfl,rfl,mO _ _,λb o h=>?_,vs,ha,rs.imp ⟨λa vs h=>?_,λa o n h=>?_⟩⟩
  ·by_cases e:b=acc
   ·subst e;rw[mO] at h;cases h
   ·rw[cG e] at h;exact h
  ·rcases h with h|h
   ·refine .inl ?_;rcases h with h|⟨o,h⟩
    ·exact .inl (by rw[cG λe=>by rw[e,ha] at h;cases h];exact h)
    ·exact .inr ⟨o,by rw[cG λe=>by rw[e,ha] at h;cases h];exact h⟩
   ·exact .inr h
  ·refine⟨λz=>n (.inl z),?_⟩;rw[cG λe=>n (.inr e)];exact h
 ·rintro i aH H' hi ⟨ys,vs,S,hI,R',ha,rs,lv,bs,hs⟩;obtain⟨go,fJ⟩:=(ok.cm H' bs).1 i xs[i] (cf hi);refine⟨go,λv H3 y=>?_⟩;obtain⟨s,rv⟩:=fJ v H3 y;have eT:xs.take (i+1)=xs.take i++[xs[i]]:=by rw[take_add_one,cf hi];rfl
  have R3:=R'.same s;have PJ:∀ a,AN ⟨B,df k ix A.ae,S⟩ a->AN A a\/H a=none:=λa z=>z.elim (λy=>y.imp id λe=>by rw[e];exact fi) λz=>absurd z lD;have ir:RV K (AN ⟨B,df k ix A.ae,S⟩) H3 xs[i] v:=rv.imp ⟨λ_ _ h=>h,λa o n h=>⟨λz=>n (PJ a z),h⟩⟩
  have E6:¬ Mt ⟨B,df k ix A.ae,S⟩ acc:=by
   rintro(z|⟨st,z1,z2⟩)
   ·exact lD z
   ·obtain⟨kvs,e⟩:=(R'.st st z1).2.1.dk;rw[z2,ha] at e;cases e
  have E7:∀{H6:Hp}{A4:AS},ay ⟨B,df k ix A.ae,S⟩ H' A4 H6->iU A.S H H6:=λSx b o h n=>Sx.fr b o (bs b o h n) λm=>m.elim lD λz=>n (lx hs z);refine⟨xs[i],⟨B,df k ix A.ae,S⟩,_,R3,ir,step B (xs.take i) xs[i] (xs.drop (i+1)) ys S (by simp) hI,λA2 cK p2 Ra Sa=>⟨A2,_,Ra,p2,λb A3 H5 p3 Rb Sb=>?_⟩⟩;have Sy:=(ay.same ⟨B,df k ix A.ae,S⟩ s).trans (Sa.trans Sb)
  cases b with
  |true=>
   refine lg ⟨A3,_,Rb,p3,λy A4 w H6 p4 Rc Sc ry=>?_⟩;obtain⟨⟨kl,kd⟩,xK⟩:=p4;have Sx:=Sy.trans Sc;have r_:H6 acc=some (.lst vs):=Sx.fr acc _ ha E6;refine⟨vs,r_,Nat.lt_of_le_of_lt lv (dE hi (bU aF (by decide))),ys++[y],vs++[w],A4.S,by rw[eT];exact xK,?_,bD,?_,?_,?_,Sx.sd.trans hs⟩
   ·have Rd:=(Rc.drop kd (by omega)).1;have eB:A4.B=B:=Sx.b;rw[eB] at Rd
    exact Rd.PD r_ (.inr rfl) λj a c h=>by
     obtain⟨i',j',t',_,_,h4,e⟩:=r9 h;obtain⟨_,_,q⟩:=R.sl j' _ h4
     have:H a≠none:=by
      cases t' with
      |val x=>cases e
      |own a' c'=>cases e;exact q.2.2.some
      |peek a' c'=>cases e;exact q.2.2.some
     exact λz=>this (by rw[z];exact fi)
   ·have kp:d7 K B B H' (upd H6 acc (.lst (vs++[w]))):=⟨λa us h=>?_,λa o n h=>⟨n,?_⟩⟩;have kq:d7 K (AN A4) B H6 (upd H6 acc (.lst (vs++[w]))):=⟨λa us h=>?_,λa o n h=>⟨λz=>n (.inl (by rw[Sx.b];exact z)),?_⟩⟩
    ·exact(rs.imp kp).app (.cons (ry.imp kq) .nil)
    ·exact xI r_ h
    ·rw[a7 λe=>n (by rw[e];exact .inl (by rw[Sx.b];exact .inr rfl))];exact h
    ·exact xI r_ (((R'.keep Sx).t) a us h)
    ·have PK:a≠acc:=λe=>n (.inr e);rw[a7 PK];exact Sx.fr a o h λm=>m.elim lD fun⟨st,z1,z2⟩=>n (by rw[<- z2];exact(R'.st st z1).1)
   ·rw[length_append];exact Nat.succ_le_succ lv
   ·intro b o h n;rw[a7 (na b o h)];exact E7 Sx b o h n
  |false=>
   obtain⟨⟨kl,kd⟩,xK⟩:=p3;have PL:H5 acc=some (.lst vs):=Sy.fr acc _ ha E6;have Rd:=(Rb.drop kd (by omega)).1;have eB:A3.B=B:=Sy.b;rw[eB] at Rd;refine la ⟨ys,vs,A3.S,by rw[eT];exact xK,Rd,PL,rs.imp ⟨(R'.keep Sy).t,λa o n h=>⟨n,Sy.fr a o h λm=>m.elim lD fun⟨st,z1,z2⟩=>n (by rw[<- z2];exact(R'.st st z1).1)⟩⟩,Nat.le_succ_of_le lv,E7 Sy,Sy.sd.trans hs⟩
end
section
variable {X:Cx}{K:Frag}{elt tg iter:Expr}{ifs:List Expr}{pos:Pos}{sc:Scope}{cl:List (Str×Addr)}{N:aq}{k:Nat}{ix:List Nat}{g:UG}{t:UT}{ue:UE}{ui:UI}
theorem lE (S:ib X sc cl N k ix)(hc:X.calm=true)(hp:PI X tg iter (jv K ui))(hg:∀ C fp s H,PG (du X N sc cl C fp s H) tg (jw K g))(hi:∀ C fp s H,ia (du X N sc cl C fp s H) ifs (liftT K t))(he:∀ C fp s H,PE (du X N sc cl C fp s H) elt (aB K ue))
  (hs:∀ x,foldedSetIterable iter X.env x=pure x:=by intro _;rfl):PE X (.ListComp elt [⟨tg,iter,ifs,0⟩] sc pos) (c3 K (r6 k ix ui g t ue)):=(Nu S hc hp hg hi he hs).mono λσ H Q ⟨A,P,R,h,c⟩=>
 ⟨A,_,R,h,λxs C A1 J H1 p R1 S1 ok acc fi=>by
  obtain⟨aF,I,i0,step,fin⟩:=p
  exact xJ R1 ok fi aF i0 step fin λr A2 v H0 H2 q R2 S2 f=>c (.lst r) A2 v H0 H2 q R2 (S1.trans S2) f⟩
theorem se {i:Nat}{y:Str}{py cY:Pos}(hN:X.N.Nodup)(S:ib X sc cl N k ix)(hc:X.calm=true)(hp:PI X tg iter (jv K ui))(hg:∀ C fp s H,PG (du X N sc cl C fp s H) tg (jw K g))(hi:∀ C fp s H,ia (du X N sc cl C fp s H) ifs (liftT K t))(he:∀ C fp s H,PE (du X N sc cl C fp s H) elt (aB K ue))
  (ie:X.N[i]?=some y:=by rfl)(hy:X.env.scope.names.lookup y=some .local:=by rfl)(oQ:swapsWith (.ListComp elt [⟨tg,iter,ifs,0⟩] sc pos) (some (.Name y py)) cY.line X.env=pure true:=by rfl)
  (hs:∀ x,foldedSetIterable iter X.env x=pure x:=by intro _;rfl):PS X (.Assign [.Name y py] (.ListComp elt [⟨tg,iter,ifs,0⟩] sc pos) cY) (b8 K (xy i (r6 k ix ui g t ue))):=(BY hN ie hy oQ S hc hp hg hi he hs).mono λD σ H ⟨A,E,R,h,c⟩=>
 ⟨A,_,R,h,λxs C A1 J H1 p R1 S1 ok acc fi=>by
  obtain⟨aF,I,i0,step,fin⟩:=p
  exact xJ (fin:=λr A1=>E.nx (put A1 i (.val r))) R1 ok fi aF i0 step fin λr A2 v H0 H2 q R2 S2 f=>by
   have rv:=(f.Es λ_=>R2.new);have R3:=R2.same f.same
   exact c.nx _ _ H2 q (R3.val rv).1 (S1.trans (S2.trans ((ay.same A2 f.same).trans (R3.val rv).2)))⟩
theorem PM {i:Nat}{y:Str}{py cY:Pos}(hN:X.N.Nodup)(S:ib X sc cl N k ix)(hc:X.calm=true)(hp:PI X tg iter (jv K ui))(hg:∀ C fp s H,PG (du X N sc cl C fp s H) tg (jw K g))(hi:∀ C fp s H,ia (du X N sc cl C fp s H) ifs (liftT K t))(he:∀ C fp s H,PE (du X N sc cl C fp s H) elt (aB K ue))
  (ie:X.N[i]?=some y:=by rfl)(hy:X.env.scope.names.lookup y=some .local:=by rfl)(oQ:swapsWith (.ListComp elt [⟨tg,iter,ifs,0⟩] sc pos) (some (.Name y py)) cY.line X.env=pure true:=by rfl)
  (hs:∀ x,foldedSetIterable iter X.env x=pure x:=by intro _;rfl):PS X (.Assign [.Name y py] (.ListComp elt [⟨tg,iter,ifs,0⟩] sc pos) cY) (b8 K (xA i (r6 k ix ui g t ue))):=(BY hN ie hy oQ S hc hp hg hi he hs).mono λD σ H ⟨A,E,R,h,c⟩=>
 ⟨A,_,R,h,λxs C A1 J H1 p R1 S1 ok acc fi=>by
  obtain⟨aF,I,i0,step,fin⟩:=p
  exact xJ (fin:=λr A2=>∃ c:OC,r=c.pv/\∀ p,E.nx (put A2 i (.own p c))) R1 ok fi aF i0 step fin λr A2 v H0 H2 q R2 S2 f=>by
   obtain⟨c',e',q⟩:=q;rw[e'] at f;obtain⟨p',rfl,R3,S3⟩:=R2.fresh (i:=i) f
   exact c.nx _ _ H2 (q p') R3 (S1.trans (S2.trans S3))⟩
theorem kg:ia X [] (liftT K kc):=λpins s σ H Q I h=>M0 pins s σ H Q I (by
 obtain⟨A,P,R,h,c⟩:=h
 exact c true A H h R (ay.refl A H))
theorem sf {c:Expr}(h:PT X c (liftT K t)):ia X [c] (liftT K t):=M4 h
end
section
variable {k:Nat}{ix:List Nat}{g:UG}{t:UT}{ue:UE}{xs:ai}{A1:AS}{Q:PV->AS->Prop}
end
abbrev Rel:=ai->PV->Prop
abbrev Tr:=ai->ag->(PV->ag->Prop)->Prop
def PN (fr:Bool)(K:Frag)(B:Addr->Prop)(H:Hp)(r:PV)(v:V)(H':Hp):Prop:=if fr=true then ∃ H0,aR H H0/\eJ K B H0 H' r v else aR H H'/\RV K B H' r v
def aX (K:Frag)(fr:Bool)(G:Rel):Sp:=λvs H Q _=>∃ B xs r,(∀ a,B a->H a≠none)/\aI K B H xs vs/\G xs r/\∀ v H',PN fr K B H r v H'->Q v H'
def PQ (fr:Bool)(K:Frag)(B:Addr->Prop)(d:Addr)(H:Hp)(r:PV)(v:V)(H':Hp)(st:ag):Prop:=if fr=true then ∃ H0,cz d H H0/\cE H0 st.d st.a st.n st.b/\eI K H0 st.a/\eJ K B H0 H' r v else cz d H H'/\RV K B H' r v
def spS (K:Frag)(fr:Bool)(T:Tr):Sp:=λvs H Q _=>∃ B xs st P,(∀ a,B a->H a≠none)/\B st.d/\cE H st.d st.a st.n st.b/\eI K H st.a/\aI K B H xs vs/\T xs st P /\
 ∀ r st' v H',P r st'->st'.d=st.d->cE H' st'.d st'.a st'.n st'.b->eI K H' st'.a->PQ fr K B st.d H r v H' st'->Q v H'
def entry (B:Addr->Prop)(N:aq)(xs:ai)(S:Option ag):AS:=⟨B,xs.map (λx=>some (Sl.val x))++replicate (N.length-xs.length) none,S⟩
def cV (fr:Bool)(r:PV):gH:=⟨λ_=>fr=false/\r=.non,λr' _=>fr=false/\r'=r,λr' _=>fr=true/\r'=r,λ_=>False,λ_=>False⟩
def dM (fr:Bool)(P:PV->ag->Prop):gH:=⟨λA=>fr=false/\∃ st,A.S=some st/\P .non st,λr A=>fr=false/\∃ st,A.S=some st/\P r st,λr A=>fr=true/\∃ st,A.S=some st/\P r st,λ_=>False,λ_=>False⟩
section
variable {K:Frag}{H H1:Hp}{B:Addr->Prop}
theorem eJ.weak {N N':Addr->Prop}{H0 H1:Hp}{r:PV}{v:V}(f:eJ K N H0 H1 r v)(h:∀ a,N' a->N a):eJ K N' H0 H1 r v:=by
 obtain⟨p,c,e1,e2,hp,s,hc⟩:=f;have kp:d7 K N N' H0 H0:=⟨λ_ _ h=>h,λa o n e=>⟨λz=>n (h a z),e⟩⟩;refine⟨p,c,e1,e2,hp,s,?_⟩
 cases c with
 |lst xs=>obtain⟨vs,h1,h2⟩:=hc;exact⟨vs,h1,h2.imp kp⟩
 |ah xs=>obtain⟨vs,h1,h2⟩:=hc;exact⟨vs,h1,h2.imp kp⟩
 |ins _ _ _=>exact hc.elim
 |cO _=>exact hc.elim
theorem RV.weak {N N':Addr->Prop}{r:PV}{v:V}(f:RV K N H r v)(h:∀ a,N' a->N a):RV K N' H r v:=f.imp ⟨λ_ _ h=>h,λa o n e=>⟨λz=>n (h a z),e⟩⟩
theorem Rep.E8 {σ:St}{A:AS}{i:Nat}{a:Addr}{c:OC}(R:Rep K H σ A)(hi:A.ae[i]?=some (some (.own a c)))(lF:c.Ld):eJ K A.B (erase H a) H c.pv (.ref a):=by
 obtain⟨v,_,rfl,nb,oc⟩:=R.sl i _ hi
 have hs:aR (erase H a) H:=λb o h=>by
  by_cases e:b=a
  ·rw[e,mO] at h;cases h
  ·rw[cG e] at h;exact h
 have kp:d7 K (AN A) A.B H (erase H a):=by
  refine⟨λb vs h=>?_,λb o n h=>⟨λz=>n (.inl z),by rw[cG λe=>n (by rw[e];exact .inr ⟨i,c,hi⟩)];exact h⟩⟩;rcases h with h|h
  ·have nb:b≠a:=λe=>by
    rw[e] at h;rcases R.jt ⟨i,c,hi⟩ with ⟨z,q⟩|⟨z,q⟩|⟨_,_,z,q⟩|⟨z,q⟩<;>(rcases h with h|⟨o,h⟩<;>(rw[q] at h;cases h))
   exact .inl (h.imp (λz=>by rw[cG nb];exact z) fun⟨o,z⟩=>⟨o,by rw[cG nb];exact z⟩)
  ·exact .inr h
 refine⟨a,c,rfl,rfl,mO _ _,hs,?_⟩
 cases c with
 |lst xs=>obtain⟨vs,h1,h2⟩:=oc;exact⟨vs,h1,h2.imp kp⟩
 |ah xs=>obtain⟨vs,h1,h2⟩:=oc;exact⟨vs,h1,h2.imp kp⟩
 |ins _ _ _=>exact lF.elim
 |cO _=>exact lF.elim
theorem mP {N:aq}{xs:ai}{S:Option ag}{a:Addr}:¬ Own (entry B N xs S).ae a:=by
 rintro⟨i,c,h⟩;have h':(xs.map (λx=>some (Sl.val x))++replicate (N.length-xs.length) none)[i]?=some (some (.own a c)):=h;by_cases hi:i<xs.length
 ·rw[getElem?_append_left (by simpa using hi),getElem?_map] at h';obtain⟨x,_,e⟩:=Option.map_eq_some_iff.mp h';cases e
 ·rw[getElem?_append_right (by simpa using (Nat.le_of_not_lt hi)),getElem?_replicate] at h'
  split at h'<;>cases h'
theorem E9 {N:aq}{xs:ai}{vs:Zv}{S:Option ag}(c_:∀ a,B a->H a≠none)(r:aI K B H xs vs)(hl:xs.length<=N.length)(hS:∀ st,S=some st->B st.d/\cE H st.d st.a st.n st.b/\eI K H st.a):Rep K H (start N vs) (entry B N xs S):=by
 have an:∀ a,AN (entry B N xs S) a->B a:=λa h=>h.elim id λz=>absurd z mP;have ll:=r.len;refine⟨?_,λi s h=>?_,c_,λi j a c c' h _=>absurd ⟨i,c,h⟩ mP,hS,λi a c st h _=>?_⟩
 ·show(start N vs).length=(xs.map (λx=>some (Sl.val x))++replicate (N.length-xs.length) none).length;unfold start;rw[length_append,length_append,length_map,length_map,length_replicate,length_replicate,ll]
 ·have h':(xs.map (λx=>some (Sl.val x))++replicate (N.length-xs.length) none)[i]?=some (some s):=h;by_cases hi:i<xs.length
  ·rw[getElem?_append_left (by simpa using hi),getElem?_map] at h';obtain⟨x,hx,e⟩:=Option.map_eq_some_iff.mp h';cases e;obtain⟨v,hv,rv⟩:=r.at hx;refine⟨v,?_,rv.weak an⟩;unfold start;rw[getElem?_append_left (by rw[length_map];omega),getElem?_map,hv];rfl
  ·rw[getElem?_append_right (by simpa using (Nat.le_of_not_lt hi)),getElem?_replicate] at h'
   split at h'<;>cases h'
 ·have h':(xs.map (λx=>some (Sl.val x))++replicate (N.length-xs.length) none)[i]?=some (some (.peek a c)):=h;by_cases hi:i<xs.length
  ·rw[getElem?_append_left (by simpa using hi),getElem?_map] at h';obtain⟨x,_,e⟩:=Option.map_eq_some_iff.mp h';cases e
  ·rw[getElem?_append_right (by simpa using (Nat.le_of_not_lt hi)),getElem?_replicate] at h'
   split at h'<;>cases h'
theorem sg {A A1:AS}(e:A1.B=A.B):∀ a,A.B a->AN A1 a:=λa h=>.inl (by rw[e];exact h)
end
section
variable {P:Program}{w:World}{K:Frag}{mg:aZ}{base:Heap}
theorem fB.dN {x qual:Str}{st:Stmt}{f:Addr}{fd:FuncData}{N ps:aq}{k:Nat}{fr:Bool}{G:Rel}(F:fB K x qual st f fd)(S:bw N ps (aW st))(len:∀ xs r,G xs r->xs.length=ps.length)(lN:ps.length<=N.length)
  (hJ:∀(aE:Value)(A:Around)(outer:List Env)(s:Shared)(H:Hp)(E:XK),bO k (A.deeper (envOfC qual (aW st) s.heap.objs.size f aE)) ->
   ∃ u,cv (iL dq P w K mg base N qual (aW st) f aE A outer s H E).jL (fA st) (b8 K u)/\∀ B xs r,G xs r->u (cV fr r) (entry B N xs none)):cT P w K mg base dq (k+1) f fd ps (aX K fr G):=by
 refine F.ok S (λvs H Q E h=>?_) λaE A outer s H vs Q E hr h=>?_
 ·obtain⟨B,xs,r,_,rv,g,_⟩:=h;rw[<- rv.len];exact len xs r g
 obtain⟨B,xs,r,c_,rv,g,fin⟩:=h;obtain⟨u,hu,q⟩:=hJ aE A outer s H E hr;have R0:=E9 (K:=K) (S:=none) (N:=N) c_ rv (by rw[len xs r g];exact lN) λst h=>by cases h
 have same:∀{A1:AS}{H1:Hp},ay (entry B N xs none) H A1 H1->aR H H1:=λS1 b o h=>S1.fr b o h λm=>m.elim mP fun⟨st,z,_⟩=>by cases z
 refine⟨_,hu,entry B N xs none,cV fr r,R0,q B xs r g,?_,?_,?_,?_,?_,?_⟩
 ·rintro A1 bu H1 ⟨rfl,rfl⟩ R1 S1;exact fin _ _ ⟨same S1,.non⟩
 ·rintro r' A1 bu v H1 ⟨rfl,rfl⟩ R1 S1 ir;exact fin _ _ ⟨same S1,ir.weak (sg S1.b)⟩
 ·rintro r' A1 bu v H0 H1 ⟨rfl,rfl⟩ R1 S1 f;exact fin _ _ ⟨H0,same S1,f.weak (sg S1.b)⟩
 ·rintro i a c A1 bu H1 hi lF e R1 S1;obtain⟨rfl,e'⟩:=e;subst e';have f:=R1.E8 hi lF
  have sm:aR H (erase H1 a):=λb o h=>by
   have nb:b≠a:=λz=>by
    rcases S1.ow a ⟨i,c,hi⟩ with y|y
    ·exact mP y
    ·rw[z,y] at h;cases h
   rw[cG nb];exact same S1 b o h
  have hB:∀ a,B a->A1.B a:=λa h=>by rw[S1.b];exact h
  exact fin _ _ ⟨_,sm,f.weak hB⟩
 ·rintro A1 bu H1 h;exact h.elim
 ·rintro A1 bu H1 h;exact h.elim
theorem fB.eK {x qual:Str}{st:Stmt}{f:Addr}{fd:FuncData}{N ps:aq}{k:Nat}{fr:Bool}{T:Tr}(F:fB K x qual st f fd)(S:bw N ps (aW st))(len:∀ xs st P,T xs st P->xs.length=ps.length)(lN:ps.length<=N.length)
  (hJ:∀(aE:Value)(A:Around)(outer:List Env)(s:Shared)(H:Hp)(E:XK),bO k (A.deeper (envOfC qual (aW st) s.heap.objs.size f aE)) ->
   ∃ u,cv (iL dq P w K mg base N qual (aW st) f aE A outer s H E).jL (fA st) (b8 K u)/\∀ B xs st P,T xs st P->u (dM fr P) (entry B N xs (some st))):cT P w K mg base dq (k+1) f fd ps (spS K fr T):=by
 refine F.ok S (λvs H Q E h=>?_) λaE A outer s H vs Q E hr h=>?_
 ·obtain⟨B,xs,st,P,_,_,_,_,rv,g,_⟩:=h;rw[<- rv.len];exact len xs st P g
 obtain⟨B,xs,st,P,c_,hd,h1,h2,rv,g,fin⟩:=h;obtain⟨u,hu,q⟩:=hJ aE A outer s H E hr;have R0:=E9 (K:=K) (S:=some st) (N:=N) c_ rv (by rw[len xs st P g];exact lN) λst' h=>by cases h;exact⟨hd,h1,h2⟩
 have same:∀{A1:AS}{H1:Hp},ay (entry B N xs (some st)) H A1 H1->cz st.d H H1:=λS1 b o h n=>S1.fr b o h λm=>m.elim mP fun⟨st',z,e⟩=>n (by cases z;exact e.symm)
 have si:∀{A1:AS}{H1:Hp}{st':ag},ay (entry B N xs (some st)) H A1 H1->A1.S=some st'->st'.d=st.d:=λS1 e=>by
  have:=S1.sd;rw[e] at this;exact Option.some.inj this
 refine⟨_,hu,entry B N xs (some st),dM fr P,R0,q B xs st P g,?_,?_,?_,?_,?_,?_⟩
 ·rintro A1 bu H1 ⟨rfl,st',e,p⟩ R1 S1;exact fin _ st' _ _ p (si S1 e) (R1.st st' e).2.1 (R1.st st' e).2.2 ⟨same S1,.non⟩
 ·rintro r' A1 bu v H1 ⟨rfl,st',e,p⟩ R1 S1 ir;exact fin _ st' _ _ p (si S1 e) (R1.st st' e).2.1 (R1.st st' e).2.2 ⟨same S1,ir.weak (sg S1.b)⟩
 ·rintro r' A1 bu v H0 H1 ⟨rfl,st',e,p⟩ R1 S1 f;have R2:=R1.same f.same;exact fin _ st' _ _ p (si S1 e) (R2.st st' e).2.1 (R2.st st' e).2.2 ⟨H0,same S1,(R1.st st' e).2.1,(R1.st st' e).2.2,f.weak (sg S1.b)⟩
 ·rintro i a c A1 bu H1 hi lF ⟨rfl,st',e,p⟩ R1 S1;have f:=R1.E8 hi lF;have e':A1.S=some st':=e;have PR:H a=none:=(S1.ow a ⟨i,c,hi⟩).elim (λy=>absurd y mP) id
  have sm:cz st.d H (erase H1 a):=λb o h n=>by
   rw[cG λz=>by rw[z,PR] at h;cases h];exact same S1 b o h n
  have hB:∀ a,B a->A1.B a:=λa h=>by rw[S1.b];exact h
  refine fin _ st' _ _ p (si S1 e') (R1.st st' e').2.1 (R1.st st' e').2.2 ?_;obtain⟨b1,h1,hF⟩:=R1.st st' e';have PU:st'.d≠a:=λz=>(R1.sl i _ hi).choose_spec.2.2.1 (by rw[<- z];exact b1);obtain⟨t,l',w,e2,r⟩:=h1.ex
  refine⟨_,sm,⟨⟨t,l',w,by rw[cG PU];exact e2,r⟩,λT o z=>⟨by
   rw[cG λy=>by
    have q:=(h1.tb T o z).1;rw[y] at q
    rcases R1.jt ⟨i,c,hi⟩ with ⟨y,q2⟩|⟨y,q2⟩|⟨_,_,y,q2⟩|⟨y,q2⟩<;>(rw[q2] at q;cases q)]
   exact(h1.tb T o z).1,(h1.tb T o z).2⟩⟩,hF.iR λo u h2=>?_,f.weak hB⟩
  rw[cG λz=>by
   rw[z] at h2
   rcases R1.jt ⟨i,c,hi⟩ with ⟨y,q⟩|⟨y,q⟩|⟨_,_,y,q⟩|⟨y,q⟩<;>(rw[q] at h2;cases h2)]
  exact h2
 ·rintro A1 bu H1 h;exact h.elim
 ·rintro A1 bu H1 h;exact h.elim
structure Kn (P:Program)(w:World)(K:Frag)(mg:aZ)(base:Heap)(k:Nat)(x:Str)(sp:Sp):Prop where
 ex:∃ f fd ps,cT P w K mg base dq k f fd ps sp/\Binds K fd ps []/\PySem.W.keepIn K (.ref f)=true/\mg x=some (.ref f)
end
def xM (G:Rel)(ua:UA):UE:=λA Q=>ua A λxs A1=>∃ r,G xs r/\Q r A1
def E_ (T:Tr)(ua:UA):UE:=λA Q=>ua A λxs A1=>∃ st,A1.S=some st/\T xs st λr st'=>Q r { A1 with S:=some st' }
section
variable {X:Cx}{K:Frag}{k:Nat}{x:Str}{p pos:Pos}{e:Expr}{es:List Expr}{ua:UA}{G:Rel}{T:Tr}{fr:Bool}
theorem Rep.xN {H:Hp}{σ:St}{A:AS}(R:Rep K H σ A):∀ a,AN A a->H a≠none:=λa h hn=>R.new hn h
theorem bH (hK:X.K=K)(F:Kn X.prog X.w X.K X.mg X.base k x (aX K false G))(hr:bO k X.A)(ha:PA X (e::es) (j8 K ua))(hg:Gl X x:=by rfl)(g_:(x==("__debug__":Str))=false:=by decide)(he:starEach (e::es) X.env=(false,eval e X.env)::starEach es X.env:=by rfl)(hpl:(backTo pos (starEach es X.env)).any (·.1)=false:=by rfl) :
  PE X (.Call (.Name x p) (e::es) [] pos) (aB K (xM G ua)):=by
 obtain⟨f,fd,ps,F1,b,kp,hm⟩:=F.ex;refine(kZ F1 hr hg hm kp b .nil k_ ha g_ he hpl).mono λσ H Q ⟨A,P,R,h,c⟩=>⟨A,_,R,h,λxs A1 vs H1 p R1 S1 rs=>?_⟩;obtain⟨r,g,p⟩:=p;rw[append_nil];refine⟨AN A1,xs,r,R1.xN,rs,g,λv H' q=>?_⟩;have q':aR H1 H'/\RV K (AN A1) H' r v:=q;exact c r A1 v H' p (R1.same q'.1) (S1.trans (ay.same A1 q'.1)) q'.2
theorem jz (hK:X.K=K)(F:Kn X.prog X.w X.K X.mg X.base k x (aX K true G))(hr:bO k X.A)(ha:PA X (e::es) (j8 K ua))(hg:Gl X x:=by rfl)(g_:(x==("__debug__":Str))=false:=by decide)(he:starEach (e::es) X.env=(false,eval e X.env)::starEach es X.env:=by rfl)(hpl:(backTo pos (starEach es X.env)).any (·.1)=false:=by rfl) :
  PE X (.Call (.Name x p) (e::es) [] pos) (c3 K (xM G ua)):=by
 obtain⟨f,fd,ps,F1,b,kp,hm⟩:=F.ex;refine(kZ F1 hr hg hm kp b .nil k_ ha g_ he hpl).mono λσ H Q ⟨A,P,R,h,c⟩=>⟨A,_,R,h,λxs A1 vs H1 p R1 S1 rs=>?_⟩;obtain⟨r,g,p⟩:=p;rw[append_nil];refine⟨AN A1,xs,r,R1.xN,rs,g,λv H' q=>?_⟩;obtain⟨H0,s,f⟩:=q;exact c r A1 v H0 H' p (R1.same s) (S1.trans (ay.same A1 s)) f
theorem Fb {H H':Hp}{σ:St}{A:AS}(R:Rep K H σ A){st st':ag}(hS:A.S=some st)(b:cz st.d H H')(hd:st'.d=st.d)(h1:cE H' st'.d st'.a st'.n st'.b)(h2:eI K H' st'.a):Rep K H' σ { A with S:=some st' }/\ay A H { A with S:=some st' } H':=
 iU.E5 R (by rw[hS];simp [hd]) (λcW e=>by cases e;exact⟨h1,h2⟩) λc o h n=>b c o h λe=>n ⟨st,hS,e.symm⟩
theorem aN (hK:X.K=K)(F:Kn X.prog X.w X.K X.mg X.base k x (spS K false T))(hr:bO k X.A)(ha:PA X (e::es) (j8 K ua))(hg:Gl X x:=by rfl)(g_:(x==("__debug__":Str))=false:=by decide)(he:starEach (e::es) X.env=(false,eval e X.env)::starEach es X.env:=by rfl)(hpl:(backTo pos (starEach es X.env)).any (·.1)=false:=by rfl) :
  PE X (.Call (.Name x p) (e::es) [] pos) (aB K (E_ T ua)):=by
 obtain⟨f,fd,ps,F1,b,kp,hm⟩:=F.ex;refine(kZ F1 hr hg hm kp b .nil k_ ha g_ he hpl).mono λσ H Q ⟨A,P,R,h,c⟩=>⟨A,_,R,h,λxs A1 vs H1 p R1 S1 rs=>?_⟩;obtain⟨st,hS,p⟩:=p;rw[append_nil];obtain⟨s1,s2,s3⟩:=R1.st st hS;refine⟨AN A1,xs,st,_,R1.xN,.inl s1,s2,s3,rs,p,λr st' v H' q hd h1 h2 po=>?_⟩;have q':cz st.d H1 H'/\RV K (AN A1) H' r v:=po;obtain⟨R2,S2⟩:=Fb R1 hS q'.1 hd h1 h2;exact c r _ v H' q R2 (S1.trans S2) q'.2
end
theorem mQ {n:Nat}(h:n<=100000):n<=sizeLine:=bU h (by decide)
def mR:G2
 |.int i,.int j,z=>z=.int (i+j)
 |.str a,.str b,z=>a.length+b.length<=100000/\z=.str (a++b)
 |.tup xs,.tup ys,z=>xs.length+ys.length<=100000/\z=.tup (xs++ys)
 |.lst xs,.lst ys,z=>xs.length+ys.length<=100000/\z=.lst (xs++ys)
 |_,_,_=>False
def xO:G2
 |.lst xs,.lst ys,z=>xs.length+ys.length<=100000/\z=.lst (xs++ys)
 |_,_,_=>False
def PX:R2:=λx y H Q=>∃ i j,x=.str i/\y=.str j/\i.length+j.length<=sizeLine/\Q (.str (i++j)) H
def Fc (K:Frag):R2:=λx y H Q=>(gx λi j=>.int (i+j)) x y H Q\/PX x y H Q\/Ek K x y H Q\/vB x y H Q
section
variable {X:Cx}{K:Frag}
theorem PY (hK:X.K=K):bx X (binaryOp .Add) (Fc K):=by
 subst hK;exact jR.or (Lo.or (O'.or BI))
theorem Fd:xu K vB xO:=by
 intro H A σ x y v w z Q R q1 q2 g c;cases x<;>cases y<;>try exact g.elim
 rename_i xs ys;obtain⟨aF,rfl⟩:=g;obtain⟨a,vs,rfl,h1,r1⟩:=q1.lst R;obtain⟨b,ws,rfl,h2,r2⟩:=q2.lst R;refine⟨a,b,vs,ws,rfl,rfl,h1,h2,mQ (by rw[<- r1.len,<- r2.len];exact aF),λp hp=>c _ _ ⟨p,.lst _,rfl,rfl,hp,dJ hp _,_,bD,r1.app r2⟩⟩
theorem PZ:dw K (Fc K) mR:=by
 intro H A σ x y v w z Q R q1 q2 g c;cases x<;>cases y<;>try exact g.elim
 ·cases q1.int;cases q2.int;cases g;exact .inl ⟨_,_,rfl,rfl,c _ H (aR.refl H) (.int _)⟩
 ·cases q1.str;cases q2.str;obtain⟨aF,rfl⟩:=g;exact .inr (.inl ⟨_,_,rfl,rfl,mQ aF,c _ H (aR.refl H) (.str _)⟩)
 ·rename_i xs ys;obtain⟨aF,rfl⟩:=g;obtain⟨a,vs,rfl,h1,r1⟩:=q1.tup;obtain⟨b,ws,rfl,h2,r2⟩:=q2.tup;refine .inr (.inr (.inl ⟨a,b,vs,ws,rfl,rfl,h1,h2,mQ (by rw[<- r1.len,<- r2.len];exact aF),λe=>?_,λ_ e=>?_,λ_ _ p hp=>?_⟩))
  ·subst e;cases r1;exact c _ H (aR.refl H) (.tup h2 r2)
  ·subst e;cases r2;rw[append_nil] at c;exact c _ H (aR.refl H) (.tup h1 r1)
  ·have s:=dJ hp (.tup (vs++ws));exact c _ _ s (.tup (bq.of bD) ((r1.app r2).imp (iS s)))
 ·rename_i xs ys;obtain⟨aF,rfl⟩:=id g;exact .inr (.inr (.inr (Fd H A σ _ _ v w _ Q R q1 q2 g λv' H' f=>c v' H' f.same (f.Es λ_=>R.new))))
def gI (C:Int->Int->Prop)(f:Int->Int->PV):G2
 |.int i,.int j,z=>C i j/\z=f i j
 |_,_,_=>False
theorem sj {C:Int->Int->Prop}{f:Int->Int->V}{g:Int->Int->PV}(h:∀ N H i j,RV K N H (g i j) (f i j)):dw K (rI C f) (gI C g):=by
 intro H A σ x y v w z Q R q1 q2 g c;cases x<;>cases y<;>try exact g.elim
 obtain⟨hc,rfl⟩:=g;cases q1.int;cases q2.int;exact⟨_,_,rfl,rfl,hc,c _ H (aR.refl H) (h _ _ _ _)⟩
def kh (f:Int->Int->PV):G2
 |.int i,.int j,z=>z=f i j
 |_,_,_=>False
theorem sk {f:Int->Int->V}{g:Int->Int->PV}(h:∀ N H i j,RV K N H (g i j) (f i j)):dw K (gx f) (kh g):=by
 intro H A σ x y v w z Q R q1 q2 g c;cases x<;>cases y<;>try exact g.elim
 cases g;cases q1.int;cases q2.int;exact⟨_,_,rfl,rfl,c _ H (aR.refl H) (h _ _ _ _)⟩
end
section
variable {X:Cx}{K:Frag}{a b:Expr}{ua ub:UE}{pos:Pos}
theorem bR (hK:X.K=K)(ha:PE X a (az K ua))(hb:PE X b (az K ub)):PE X (.BinOp a .Add b pos) (aB K (u2 mR ua ub)):=mM (PY hK) PZ ha hb
theorem mS (ha:PE X a (az K ua))(hb:PE X b (az K ub)):PE X (.BinOp a .Add b pos) (c3 K (u2 xO ua ub)):=Ey BI Fd ha hb
theorem eU (ha:PE X a (az K ua))(hb:PE X b (az K ub)):PE X (.BinOp a .Sub b pos) (aB K (u2 (kh λi j=>.int (i-j)) ua ub)):=mM K2 (sk λ_ _ _ _=>.int _) ha hb
theorem sr (ha:PE X a (az K ua))(hb:PE X b (az K ub)):PE X (.BinOp a .Mult b pos) (aB K (u2 (gI ot λi j=>.int (i*j)) ua ub)):=mM kU (sj λ_ _ _ _=>.int _) ha hb
theorem P0 (ha:PE X a (az K ua))(hb:PE X b (az K ub)):PE X (.BinOp a .FloorDiv b pos) (aB K (u2 (gI (λ_ j=>0<j/\j<2 ^ 200) λi j=>.int (i / j)) ua ub)):=mM vG (sj λ_ _ _ _=>.int _) ha hb
theorem xP (ha:PE X a (az K ua))(hb:PE X b (az K ub)):PE X (.BinOp a .Mod b pos) (aB K (u2 (gI (λ_ j=>0<j) λi j=>.int (i % j)) ua ub)):=mM jS (sj λ_ _ _ _=>.int _) ha hb
end
mutual
def bN:PV->PV->Bool
 |.non,.non=>true
 |.bl a,.bl b=>a==b
 |.bl a,.int b=>(if a then 1 else 0)==b
 |.int a,.bl b=>a==(if b then 1 else 0)
 |.int a,.int b=>a==b
 |.str a,.str b=>a==b
 |.tup xs,.tup ys=>c4 xs ys
 |.lst xs,.lst ys=>c4 xs ys
 |_,_=>false
def c4:ai->ai->Bool
 |[],[]=>true
 |x::xs,y::ys=>bN x y&&c4 xs ys
 |_,_=>false
end
mutual
def mT:PV->Option Nat
 |.tup xs=>(iu xs).map (·+1)
 |.lst xs=>(iu xs).map (·+1)
 |.raw _=>none
 |.ah _=>none
 |_=>some 0
def iu:ai->Option Nat
 |[]=>some 0
 |x::xs=>match mT x,iu xs with
  |some m,some n=>some (max m n)
  |_,_=>none
end
def Dp (n:Nat)(x:PV):Prop:=∃ m,mT x=some m/\m<=n
theorem P5 {n:Nat}{x:PV}{xs:ai}:(∃ m,iu (x::xs)=some m/\m<=n)↔Dp n x/\∃ m,iu xs=some m/\m<=n:=by
 constructor
 ·rintro⟨m,e,h⟩;unfold iu at e
  split at e
  ·rename_i a b e1 e2;cases e;exact⟨⟨a,e1,by omega⟩,b,e2,by omega⟩
  ·cases e
 ·rintro⟨⟨a,e1,h1⟩,b,e2,h2⟩;refine⟨max a b,?_,by omega⟩;unfold iu;rw[e1,e2]
theorem iw {n:Nat}{xs:ai}:Dp (n+1) (.tup xs)↔∃ m,iu xs=some m/\m<=n:=by
 unfold Dp mT;constructor
 ·rintro⟨m,e,h⟩;obtain⟨k,hk,rfl⟩:=Option.map_eq_some_iff.mp e;exact⟨k,hk,by omega⟩
 ·rintro⟨m,e,h⟩;exact⟨m+1,by rw[e];rfl,by omega⟩
theorem jA {n:Nat}{xs:ai}:Dp (n+1) (.lst xs)↔∃ m,iu xs=some m/\m<=n:=by
 unfold Dp mT;constructor
 ·rintro⟨m,e,h⟩;obtain⟨k,hk,rfl⟩:=Option.map_eq_some_iff.mp e;exact⟨k,hk,by omega⟩
 ·rintro⟨m,e,h⟩;exact⟨m+1,by rw[e];rfl,by omega⟩
theorem ki {xs:ai}:¬ Dp 0 (.tup xs):=by
 rintro⟨m,e,h⟩;unfold mT at e;obtain⟨k,hk,rfl⟩:=Option.map_eq_some_iff.mp e;omega
theorem mU {xs:ai}:¬ Dp 0 (.lst xs):=by
 rintro⟨m,e,h⟩;unfold mT at e;obtain⟨k,hk,rfl⟩:=Option.map_eq_some_iff.mp e;omega
theorem dO {n:Nat}:∀{xs:ai},(∃ m,iu xs=some m/\m<=n)↔∀ x∈xs,Dp n x
 |[]=>by simp [iu]
 |x::xs=>by
  rw[P5,dO];simp
mutual
theorem Fe:∀(n:Nat)(x:PV),Dp n x->bN x x=true
 |_,.non,_=>rfl
 |_,.bl b,_=>by simp [bN]
 |_,.int b,_=>by simp [bN]
 |_,.str b,_=>by simp [bN]
 |0,.tup xs,h=>absurd h ki
 |0,.lst xs,h=>absurd h mU
 |n+1,.tup xs,h=>by
  show c4 xs xs=true;exact xQ n xs (dO.mp (iw.mp h))
 |n+1,.lst xs,h=>by
  show c4 xs xs=true;exact xQ n xs (dO.mp (jA.mp h))
 |_,.raw v,⟨m,e,_⟩=>by cases e
 |_,.ah v,⟨m,e,_⟩=>by cases e
theorem xQ:∀(n:Nat)(xs:ai),(∀ x∈xs,Dp n x)->c4 xs xs=true
 |_,[],_=>rfl
 |n,x::xs,h=>by
  show(bN x x&&c4 xs xs)=true;rw[Fe n x (h x (by simp)),xQ n xs λy hy=>h y (by simp [hy])];rfl
end
def ej (xs ys:ai)(j:Nat):Bool:=match xs[j]?,ys[j]? with
 |some x,some y=>bN x y
 |_,_=>false
theorem xR:∀(xs ys:ai),c4 xs ys=((range (min xs.length ys.length)).all (ej xs ys)&&xs.length==ys.length)
 |[],[]=>by simp [c4]
 |[],y::ys=>by simp [c4]
 |x::xs,[]=>by simp [c4]
 |x::xs,y::ys=>by
  have ih:=xR xs ys;have e1:min (x::xs).length (y::ys).length=min xs.length ys.length+1:=by simp only[length_cons];omega
  have e2:((x::xs).length==(y::ys).length)=(xs.length==ys.length):=by simp
  have e3:ej (x::xs) (y::ys) 0=bN x y:=rfl;have e4:(ej (x::xs) (y::ys))∘Nat.succ=ej xs ys:=by funext j;simp [ej]
  rw[e1,e2,range_succ_eq_map,all_cons,all_map,e3,e4];show(bN x y&&c4 xs ys)=_;rw[ih,Bool.and_assoc]
section
variable {X:Cx}{pins:aP}{σ:St}{H:Hp}{s:Shared}{N:Addr->Prop}
theorem Ff (I:Inv X pins σ H s){a:Addr}{vs ws:Zv}(h1:bq X.K H a vs)(h2:H a=some (.lst ws)):False:=by
 obtain⟨its,_,p,_⟩:=I.tuple h1;obtain⟨its',_,q,_⟩:=I.list (aO.of (K:=X.K) h2);obtain⟨o,e1,c1,_⟩:=p;obtain⟨o',n,e2,c2,_⟩:=q;rw[e1] at e2;cases e2;rw[c1] at c2;injection c2 with c2
 exact absurd c2 (by decide)
mutual
theorem su (I:Inv X pins σ H s):∀(n:Nat)(x y:PV)(v:V),Dp n x->Dp n y->RV X.K N H x v->RV X.K N H y v->bN x y=true
 |n,.non,y,v,_,hy,r1,r2=>by cases r1;cases r2<;>first|(obtain⟨m,e,_⟩:=hy;cases e;done)|rfl|simp [bN]
 |n,.bl b,y,v,_,hy,r1,r2=>by cases r1;cases r2<;>first|(obtain⟨m,e,_⟩:=hy;cases e;done)|rfl|simp [bN]
 |n,.int b,y,v,_,hy,r1,r2=>by cases r1;cases r2<;>first|(obtain⟨m,e,_⟩:=hy;cases e;done)|rfl|simp [bN]
 |n,.str b,y,v,_,hy,r1,r2=>by cases r1;cases r2<;>first|(obtain⟨m,e,_⟩:=hy;cases e;done)|rfl|simp [bN]
 |0,.tup xs,y,v,h,_,_,_=>absurd h ki
 |0,.lst xs,y,v,h,_,_,_=>absurd h mU
 |n+1,.tup xs,y,v,hx,hy,r1,r2=>by
  cases r1 with
  |tup h1 h2=>
   cases r2 with
   |raw=>obtain⟨m,e,_⟩:=hy;cases e
   |tup g1 g2=>
    have e:=I.uU h1 g1;subst e;exact xS I n _ _ _ (dO.mp (iw.mp hx)) (dO.mp (iw.mp hy)) h2 g2
   |lst _ g1 g2=>exact(Ff I h1 g1).elim
   |ah _ _ _=>obtain⟨m,e,_⟩:=hy;cases e
 |n+1,.lst xs,y,v,hx,hy,r1,r2=>by
  cases r1 with
  |lst _ h1 h2=>
   cases r2 with
   |raw=>obtain⟨m,e,_⟩:=hy;cases e
   |tup g1 g2=>exact(Ff I g1 h1).elim
   |lst _ g1 g2=>
    rw[h1] at g1;cases g1;exact xS I n _ _ _ (dO.mp (jA.mp hx)) (dO.mp (jA.mp hy)) h2 g2
   |ah _ _ _=>obtain⟨m,e,_⟩:=hy;cases e
 |_,.raw v,_,_,⟨m,e,_⟩,_,_,_=>by cases e
 |_,.ah v,_,_,⟨m,e,_⟩,_,_,_=>by cases e
theorem xS (I:Inv X pins σ H s):∀(n:Nat)(xs ys:ai)(vs:Zv),(∀ x∈xs,Dp n x)->(∀ x∈ys,Dp n x)->aI X.K N H xs vs->aI X.K N H ys vs->c4 xs ys=true
 |_,[],ys,_,_,_,.nil,r2=>by cases r2;rfl
 |n,x::xs,ys,_,hx,hy,.cons r1 q1,r2=>by
  cases r2 with
  |cons r2 q2=>
   show(bN x _&&c4 xs _)=true;rw[su I n x _ _ (hx x (by simp)) (hy _ (by simp)) r1 r2,xS I n xs _ _ (λy h=>hx y (by simp [h])) (λy h=>hy y (by simp [h])) q1 q2];rfl
end
theorem sv {A:Around}{n:Nat}{xs ys:ai}{vs ws:Zv}{us fO:aC}(r1:aI X.K N H xs vs)(r2:aI X.K N H ys ws)(q1:Vals vs us)(q2:Vals ws fO)(d1:∀ x∈xs,Dp n x)(d2:∀ x∈ys,Dp n x)
  (hR:∀ x y v w u u',Dp n x->Dp n y->RV X.K N H x v->RV X.K N H y w->RelV v u->RelV w u'->SeqAt.EqAt A s u u' (bN x y)):∀ j (h1:j<us.toArray.size)(h2:j<fO.toArray.size),SeqAt.EqAt A s us.toArray[j] fO.toArray[j] (ej xs ys j):=by
 refine M9 (R:=λv w b=>∃ x y,Dp n x/\Dp n y/\RV X.K N H x v/\RV X.K N H y w/\b=bN x y) q1 q2 (λj v w hv hw=>?_) λv w b u u' ⟨x,y,e1,e2,e3,e4,e5⟩ ru rw=>by subst e5;exact hR x y v w u u' e1 e2 e3 e4 ru rw
 obtain⟨x,hx,rx⟩:=r1.at' hv;obtain⟨y,hy,ry⟩:=r2.at' hw;refine⟨x,y,d1 x (mem_of_getElem? hx),d2 y (mem_of_getElem? hy),rx,ry,?_⟩;unfold ej;rw[hx,hy]
theorem Fg {A:Around}{n:Nat}{xs ys:ai}{vs ws:Zv}{a b:Addr}(I:Inv X pins σ H s)(hu:A.units<cLine)(h1:bq X.K H a vs)(h2:bq X.K H b ws)(r1:aI X.K N H xs vs)(r2:aI X.K N H ys ws)(d1:∀ x∈xs,Dp n x)(d2:∀ x∈ys,Dp n x)
  (hR:∀ x y v w u u',Dp n x->Dp n y->RV X.K N H x v->RV X.K N H y w->RelV v u->RelV w u'->SeqAt.EqAt A.in1 s u u' (bN x y)):SeqAt.RcAt A s (.ref a) (.ref b) (c4 xs ys)/\SeqAt.RcNeAt A s (.ref a) (.ref b) (!c4 xs ys):=by
 obtain⟨us,q1,p1,_⟩:=I.tuple h1;obtain⟨fO,q2,p2,_⟩:=I.tuple h2;have z:=SeqAt.RcAt.tuples (A:=A) (s:=s) (e:=ej xs ys) (show s.heap.IsTuple a us.toArray from p1) (show s.heap.IsTuple b fO.toArray from p2) hu (sv r1 r2 q1 q2 d1 d2 hR);have z2:=SeqAt.RcNeAt.tuples (A:=A) (s:=s) (e:=ej xs ys) (show s.heap.IsTuple a us.toArray from p1) (show s.heap.IsTuple b fO.toArray from p2) hu (sv r1 r2 q1 q2 d1 d2 hR);simp only[size_toArray] at z z2;rw[<- q1.length,<- q2.length,<- r1.len,<- r2.len] at z z2;rw[xR];exact⟨z,z2⟩
theorem Fh {A:Around}{n:Nat}{xs ys:ai}{vs ws:Zv}{a b:Addr}(I:Inv X pins σ H s)(hu:A.units<cLine)(h1:H a=some (.lst vs))(h2:H b=some (.lst ws))(r1:aI X.K N H xs vs)(r2:aI X.K N H ys ws)(d1:∀ x∈xs,Dp n x)(d2:∀ x∈ys,Dp n x)
  (hR:∀ x y v w u u',Dp n x->Dp n y->RV X.K N H x v->RV X.K N H y w->RelV v u->RelV w u'->SeqAt.EqAt A.in1 s u u' (bN x y)):SeqAt.RcAt A s (.ref a) (.ref b) (c4 xs ys)/\SeqAt.RcNeAt A s (.ref a) (.ref b) (!c4 xs ys):=by
 obtain⟨us,q1,p1,_⟩:=I.list (aO.of (K:=X.K) h1);obtain⟨fO,q2,p2,_⟩:=I.list (aO.of (K:=X.K) h2);have l1:=q1.length;have l2:=q2.length;have l3:=r1.len;have l4:=r2.len;rw[xR];by_cases hz:xs.length=ys.length
 ·have z:=SeqAt.RcAt.lists (A:=A) (s:=s) (e:=ej xs ys) p1.isList p2.isList (by simp;omega) hu (sv r1 r2 q1 q2 d1 d2 hR);have z2:=SeqAt.RcNeAt.lists (A:=A) (s:=s) (e:=ej xs ys) p1.isList p2.isList (by simp;omega) hu (sv r1 r2 q1 q2 d1 d2 hR);simp only[size_toArray] at z z2;rw[<- l1,<- l3] at z z2;rw[hz,Nat.min_self,beq_self_eq_true,Bool.and_true,<- hz];exact⟨z,z2⟩
 ·rw[show(xs.length==ys.length)=false by simpa using hz,Bool.and_false];exact⟨SeqAt.RcAt.lists_lengths (A:=A) (s:=s) p1.isList p2.isList (by simp;omega) hu,SeqAt.RcNeAt.lists_lengths (A:=A) (s:=s) p1.isList p2.isList (by simp;omega) hu⟩
theorem Dp.mono {n m:Nat}{x:PV}(h:Dp n x)(l:n<=m):Dp m x:=by
 obtain⟨k,e,h⟩:=h;exact⟨k,e,bU h l⟩
def kn:PV->Bool
 |.non=>true
 |.bl _=>true
 |.int _=>true
 |.str _=>true
 |_=>false
theorem mV {x:PV}{v:V}(h:kn x=true)(r:RV X.K N H x v):k9 v=true:=by
 cases r<;>first|rfl|cases h
theorem xT {x y:PV}{v w:V}(hx:kn x=true)(hy:kn y=true)(r1:RV X.K N H x v)(r2:RV X.K N H y w):oE v w=bN x y:=by
 cases r1<;>(first|(cases hx;done)|(cases r2<;>first|(cases hy;done)|rfl))
theorem Fi (I:Inv X pins σ H s):∀(n:Nat)(A:Around)(x y:PV)(v w:V)(u u':Value),A.units+n<cLine->Dp n x->Dp n y->RV X.K N H x v->RV X.K N H y w->RelV v u->RelV w u'->SeqAt.EqAt A s u u' (bN x y):=by
 intro n
 induction n with
 |zero=>
  intro A x y v w u u' hu hx hy r1 r2 q1 q2
  have fx:kn x=true:=by
   cases x<;>first|rfl|exact absurd hx ki|exact absurd hx mU|(obtain⟨m,e,_⟩:=hx;cases e)
  have fy:kn y=true:=by
   cases y<;>first|rfl|exact absurd hy ki|exact absurd hy mU|(obtain⟨m,e,_⟩:=hy;cases e)
  rw[<- xT fx fy r1 r2];exact BP (mV fx r1) (mV fy r2) q1 q2
 |succ n ih=>
  intro A x y v w u u' hu hx hy r1 r2 q1 q2;by_cases fx:kn x=true
  ·by_cases fy:kn y=true
   ·rw[<- xT fx fy r1 r2];exact BP (mV fx r1) (mV fy r2) q1 q2
   ·cases r2<;>first|exact absurd rfl fy|(obtain⟨m,e,_⟩:=hy;cases e;done)|skip
    ·rename_i a xs vs h1 h2;cases q2;obtain⟨us,_,p,_⟩:=I.tuple h1;have p':s.heap.IsTuple a us.toArray:=p;cases r1<;>first|(cases fx;done)|skip
     ·cases q1;exact SeqAt.EqAt.none_tuple p' (by omega)
     ·cases q1;exact SeqAt.EqAt.bool_tuple _ p' (by omega)
     ·obtain⟨t,rfl⟩:=q1;exact SeqAt.EqAt.int_tuple _ _ p' (by omega)
     ·obtain⟨t,rfl⟩:=q1;exact SeqAt.EqAt.str_tuple _ _ p' (by omega)
    ·rename_i a xs vs na h1 h2;cases q2;obtain⟨us,_,p,_⟩:=I.list (aO.of (K:=X.K) h1);have p':=p.isList;cases r1<;>first|(cases fx;done)|skip
     ·cases q1;exact SeqAt.EqAt.none_list p' (by omega)
     ·cases q1;exact SeqAt.EqAt.bool_list _ p' (by omega)
     ·obtain⟨t,rfl⟩:=q1;exact SeqAt.EqAt.int_list _ _ p' (by omega)
     ·obtain⟨t,rfl⟩:=q1;exact SeqAt.EqAt.str_list _ _ p' (by omega)
  ·cases r1<;>first|exact absurd rfl fx|(obtain⟨m,e,_⟩:=hx;cases e;done)|skip
   ·rename_i a xs vs h1 h2;cases q1;obtain⟨us,_,p,_⟩:=I.tuple h1;have p':s.heap.IsTuple a us.toArray:=p;cases r2<;>first|(obtain⟨m,e,_⟩:=hy;cases e;done)|skip
    ·cases q2;exact SeqAt.EqAt.tuple_none p' (by omega)
    ·cases q2;exact SeqAt.EqAt.tuple_bool _ p' (by omega)
    ·obtain⟨t,rfl⟩:=q2;exact SeqAt.EqAt.tuple_int _ _ p' (by omega)
    ·obtain⟨t,rfl⟩:=q2;exact SeqAt.EqAt.tuple_str _ _ p' (by omega)
    ·rename_i b ys ws g1 g2;cases q2;by_cases e:a=b
     ·subst e;rw[su I (n+1) _ _ _ hx hy (.tup h1 h2) (.tup g1 g2)];exact SeqAt.EqAt.same _
     ·exact .of_refs e (Fg I (by omega) h1 g1 h2 g2 (dO.mp (iw.mp hx)) (dO.mp (iw.mp hy)) λx y v w u u' a1 a2 a3 a4 a5 a6=>ih A.in1 x y v w u u' (by rw[in1_units];omega) a1 a2 a3 a4 a5 a6).1
    ·rename_i b ys ws nb g1 g2;cases q2;obtain⟨fO,_,p2,_⟩:=I.list (aO.of (K:=X.K) g1);exact SeqAt.EqAt.tuple_list p' p2.isList (by omega)
   ·rename_i a xs vs na h1 h2;cases q1;obtain⟨us,_,p,_⟩:=I.list (aO.of (K:=X.K) h1);have p':=p.isList;cases r2<;>first|(obtain⟨m,e,_⟩:=hy;cases e;done)|skip
    ·cases q2;exact SeqAt.EqAt.list_none p' (by omega)
    ·cases q2;exact SeqAt.EqAt.list_bool _ p' (by omega)
    ·obtain⟨t,rfl⟩:=q2;exact SeqAt.EqAt.list_int _ _ p' (by omega)
    ·obtain⟨t,rfl⟩:=q2;exact SeqAt.EqAt.list_str _ _ p' (by omega)
    ·rename_i b ys ws g1 g2;cases q2;obtain⟨fO,_,p2,_⟩:=I.tuple g1;exact SeqAt.EqAt.list_tuple p' (show s.heap.IsTuple b fO.toArray from p2) (by omega)
    ·rename_i b ys ws nb g1 g2;cases q2;by_cases e:a=b
     ·subst e;rw[su I (n+1) _ _ _ hx hy (.lst na h1 h2) (.lst nb g1 g2)];exact SeqAt.EqAt.same _
     ·exact .of_refs e (Fh I (by omega) h1 g1 h2 g2 (dO.mp (jA.mp hx)) (dO.mp (jA.mp hy)) λx y v w u u' a1 a2 a3 a4 a5 a6=>ih A.in1 x y v w u u' (by rw[in1_units];omega) a1 a2 a3 a4 a5 a6).1
end
mutual
def gJ:PV->PV
 |.bl b=>.int (if b then 1 else 0)
 |.tup xs=>.tup (gc xs)
 |.lst xs=>.lst (gc xs)
 |x=>x
def gc:ai->ai
 |[]=>[]
 |x::xs=>gJ x::gc xs
end
mutual
theorem sy:∀(n:Nat)(x y:PV),Dp n x->Dp n y->(bN x y=true↔gJ x=gJ y)
 |n,.non,y,_,hy=>by cases y<;>first|(obtain⟨m,e,_⟩:=hy;cases e;done)|simp [bN,gJ]
 |n,.bl b,y,_,hy=>by cases y<;>first|(obtain⟨m,e,_⟩:=hy;cases e;done)|(simp [bN,gJ];done)|(rename_i c;cases b<;>cases c<;>simp [bN,gJ])
 |n,.int b,y,_,hy=>by cases y<;>first|(obtain⟨m,e,_⟩:=hy;cases e;done)|simp [bN,gJ]
 |n,.str b,y,_,hy=>by cases y<;>first|(obtain⟨m,e,_⟩:=hy;cases e;done)|simp [bN,gJ]
 |0,.tup xs,y,h,_=>absurd h ki
 |0,.lst xs,y,h,_=>absurd h mU
 |n+1,.tup xs,y,hx,hy=>by
  cases y with
  |tup ys=>
   show c4 xs ys=true↔PV.tup (gc xs)=PV.tup (gc ys);rw[xU n xs ys (dO.mp (iw.mp hx)) (dO.mp (iw.mp hy))];simp
  |raw _=>obtain⟨m,e,_⟩:=hy;cases e
  |ah _=>obtain⟨m,e,_⟩:=hy;cases e
  |_=>simp [bN,gJ]
 |n+1,.lst xs,y,hx,hy=>by
  cases y with
  |lst ys=>
   show c4 xs ys=true↔PV.lst (gc xs)=PV.lst (gc ys);rw[xU n xs ys (dO.mp (jA.mp hx)) (dO.mp (jA.mp hy))];simp
  |raw _=>obtain⟨m,e,_⟩:=hy;cases e
  |ah _=>obtain⟨m,e,_⟩:=hy;cases e
  |_=>simp [bN,gJ]
 |_,.raw v,_,⟨m,e,_⟩,_=>by cases e
 |_,.ah v,_,⟨m,e,_⟩,_=>by cases e
theorem xU:∀(n:Nat)(xs ys:ai),(∀ x∈xs,Dp n x)->(∀ x∈ys,Dp n x)->(c4 xs ys=true↔gc xs=gc ys)
 |_,[],ys,_,_=>by cases ys<;>simp [c4,gc]
 |n,x::xs,ys,hx,hy=>by
  cases ys with
  |nil=>simp [c4,gc]
  |cons y ys=>
   show(bN x y&&c4 xs ys)=true↔gJ x::gc xs=gJ y::gc ys;rw[Bool.and_eq_true,sy n x y (hx x (by simp)) (hy y (by simp)),xU n xs ys (λz h=>hx z (by simp [h])) (λz h=>hy z (by simp [h]))];simp
end
def lG (K:Frag)(N:Addr->Prop)(H:Hp)(p:PV)(v:V):Prop:=RV K N H p v\/∃ a xs vs,p=.lst xs/\v=.ref a/\H a=some (.lst vs)/\aI K N H xs vs
theorem bV.r {K:Frag}{A:AS}{H:Hp}{σ:St}{p:PV}{v:V}(R:Rep K H σ A)(h:bV K A H p v)(hd:∀ k,p≠.ah k):lG K (AN A) H p v:=by
 rcases id h with h'|⟨i,a,c,hl,rfl,rfl⟩
 ·exact .inl h'
 ·cases c with
  |lst xs=>obtain⟨a,vs,h1,h2,h3⟩:=h.lst R;exact .inr ⟨a,xs,vs,rfl,h1,h2,h3⟩
  |ah xs=>exact absurd rfl (hd xs)
  |ins _ _ _=>exact hl.2.elim
  |cO _=>exact hl.2.elim
def xV (K:Frag)(neg:Bool):R2:=λx y H Q=>∃ N px py n,n<=80/\Dp n px/\Dp n py/\lG K N H px x/\lG K N H py y/\Q (.bl (neg^^bN px py)) H
section
variable {X:Cx}{pins:aP}{σ:St}{H:Hp}{s:Shared}{N:Addr->Prop}
theorem P6 {A:Around}{x y:V}{u v:Value}(fx:k9 x=true)(fy:k9 y=true)(rx:RelV x u)(ry:RelV y v):SeqAt.RcAt A s u v (oE x y)/\SeqAt.RcNeAt A s u v (!oE x y):=by
 cases x<;>first|(cases fx;done)|skip
 ·cases rx;cases y<;>first|(cases fy;done)|skip
  ·cases ry;exact⟨.none_none,.none_none⟩
  ·cases ry;exact⟨.none_bool _,.none_bool _⟩
  ·obtain⟨t,rfl⟩:=ry;exact⟨.none_int _ _,.none_int _ _⟩
  ·obtain⟨t,rfl⟩:=ry;exact⟨.none_str _ _,.none_str _ _⟩
 ·cases rx;cases y<;>first|(cases fy;done)|skip
  ·cases ry;exact⟨.bool_none _,.bool_none _⟩
  ·cases ry;exact⟨.bool_bool _ _,.bool_bool _ _⟩
  ·obtain⟨t,rfl⟩:=ry;exact⟨.bool_int _ _ _,.bool_int _ _ _⟩
  ·obtain⟨t,rfl⟩:=ry;exact⟨.bool_str _ _ _,.bool_str _ _ _⟩
 ·obtain⟨t,rfl⟩:=rx;cases y<;>first|(cases fy;done)|skip
  ·cases ry;exact⟨.int_none _ _,.int_none _ _⟩
  ·cases ry;exact⟨.int_bool _ _ _,.int_bool _ _ _⟩
  ·obtain⟨t,rfl⟩:=ry;exact⟨.int_int _ _ _ _,.int_int _ _ _ _⟩
  ·obtain⟨t,rfl⟩:=ry;exact⟨.int_str _ _ _ _,.int_str _ _ _ _⟩
 ·obtain⟨t,rfl⟩:=rx;cases y<;>first|(cases fy;done)|skip
  ·cases ry;exact⟨.str_none _ _,.str_none _ _⟩
  ·cases ry;exact⟨.str_bool _ _ _,.str_bool _ _ _⟩
  ·obtain⟨t,rfl⟩:=ry;exact⟨.str_int _ _ _ _,.str_int _ _ _ _⟩
  ·obtain⟨t,rfl⟩:=ry;exact⟨.str_str _ _ _ _,.str_str _ _ _ _⟩
theorem lG.get {p:PV}{v:V}{n:Nat}(d:Dp n p)(h:lG X.K N H p v):(kn p=true/\RV X.K N H p v)\/(∃ xs a vs m,n=m+1/\p=.tup xs/\v=.ref a/\bq X.K H a vs/\aI X.K N H xs vs/\∀ x∈xs,Dp m x) \/
  ∃ xs a vs m,n=m+1/\p=.lst xs/\v=.ref a/\H a=some (.lst vs)/\aI X.K N H xs vs/\∀ x∈xs,Dp m x:=by
 have g:∀ xs,p=.lst xs->∃ m,n=m+1/\∀ x∈xs,Dp m x:=λxs e=>by
  subst e
  cases n with
  |zero=>exact absurd d mU
  |succ m=>exact⟨m,rfl,dO.mp (jA.mp d)⟩
 rcases h with h|⟨a,xs,vs,e,rfl,h1,h2⟩
 ·cases id h<;>first|exact .inl ⟨rfl,h⟩|skip
  ·obtain⟨m,e,_⟩:=d;cases e
  ·rename_i a xs vs h1 h2
   cases n with
   |zero=>exact absurd d ki
   |succ m=>exact .inr (.inl ⟨xs,a,vs,m,rfl,rfl,rfl,h1,h2,dO.mp (iw.mp d)⟩)
  ·rename_i a xs vs _ h1 h2;obtain⟨m,e,q⟩:=g xs rfl;exact .inr (.inr ⟨xs,a,vs,m,e,rfl,rfl,h1,h2,q⟩)
  ·obtain⟨m,e,_⟩:=d;cases e
 ·obtain⟨m,e',q⟩:=g xs e;exact .inr (.inr ⟨xs,a,vs,m,e',e,rfl,h1,h2,q⟩)
theorem Fj (I:Inv X pins σ H s){n:Nat}{A:Around}{x y:PV}{v w:V}{u u':Value}(hu:A.units+n<cLine)(hx:Dp n x)(hy:Dp n y)(r1:lG X.K N H x v)(r2:lG X.K N H y w)(q1:RelV v u)(q2:RelV w u') :
  SeqAt.RcAt A s u u' (bN x y)/\SeqAt.RcNeAt A s u u' (!bN x y):=by
 have deep:∀ m,n=m+1->∀ x y v w u u',Dp m x->Dp m y->RV X.K N H x v->RV X.K N H y w->RelV v u->RelV w u'->SeqAt.EqAt A.in1 s u u' (bN x y):=λm e x y v w u u' a1 a2 a3 a4 a5 a6=>Fi I m A.in1 x y v w u u' (by rw[in1_units];omega) a1 a2 a3 a4 a5 a6;have bT:A.units<cLine:=by omega
 rcases r1.get hx with ⟨fx,r1⟩|⟨xs,a,vs,m,e,rfl,rfl,h1,h2,d1⟩|⟨xs,a,vs,m,e,rfl,rfl,h1,h2,d1⟩
 ·rcases r2.get hy with ⟨fy,r2⟩|⟨ys,b,ws,m',e',rfl,rfl,g1,g2,d2⟩|⟨ys,b,ws,m',e',rfl,rfl,g1,g2,d2⟩
  ·rw[<- xT fx fy r1 r2];exact P6 (mV fx r1) (mV fy r2) q1 q2
  ·cases q2;obtain⟨us,_,p,_⟩:=I.tuple g1;have p':s.heap.IsTuple b us.toArray:=p;cases r1<;>first|(cases fx;done)|skip
   ·cases q1;exact⟨.none_tuple p' bT,.none_tuple p' bT⟩
   ·cases q1;exact⟨.bool_tuple _ p' bT,.bool_tuple _ p' bT⟩
   ·obtain⟨t,rfl⟩:=q1;exact⟨.int_tuple _ _ p' bT,.int_tuple _ _ p' bT⟩
   ·obtain⟨t,rfl⟩:=q1;exact⟨.str_tuple _ _ p' bT,.str_tuple _ _ p' bT⟩
  ·cases q2;obtain⟨us,_,p,_⟩:=I.list (aO.of (K:=X.K) g1);have p':=p.isList;cases r1<;>first|(cases fx;done)|skip
   ·cases q1;exact⟨.none_list p' bT,.none_list p' bT⟩
   ·cases q1;exact⟨.bool_list _ p' bT,.bool_list _ p' bT⟩
   ·obtain⟨t,rfl⟩:=q1;exact⟨.int_list _ _ p' bT,.int_list _ _ p' bT⟩
   ·obtain⟨t,rfl⟩:=q1;exact⟨.str_list _ _ p' bT,.str_list _ _ p' bT⟩
 ·cases q1;obtain⟨us,_,p,_⟩:=I.tuple h1;have p':s.heap.IsTuple a us.toArray:=p;rcases r2.get hy with ⟨fy,r2⟩|⟨ys,b,ws,m',e',rfl,rfl,g1,g2,d2⟩|⟨ys,b,ws,m',e',rfl,rfl,g1,g2,d2⟩
  ·cases r2<;>first|(cases fy;done)|skip
   ·cases q2;exact⟨.tuple_none p' bT,.tuple_none p' bT⟩
   ·cases q2;exact⟨.tuple_bool _ p' bT,.tuple_bool _ p' bT⟩
   ·obtain⟨t,rfl⟩:=q2;exact⟨.tuple_int _ _ p' bT,.tuple_int _ _ p' bT⟩
   ·obtain⟨t,rfl⟩:=q2;exact⟨.tuple_str _ _ p' bT,.tuple_str _ _ p' bT⟩
  ·cases q2;have em:m'=m:=by omega
   subst em;exact Fg I bT h1 g1 h2 g2 d1 d2 (deep _ e)
  ·cases q2;obtain⟨fO,_,p2,_⟩:=I.list (aO.of (K:=X.K) g1);exact⟨.tuple_list p' p2.isList bT,.tuple_list p' p2.isList bT⟩
 ·cases q1;obtain⟨us,_,p,_⟩:=I.list (aO.of (K:=X.K) h1);have p':=p.isList;rcases r2.get hy with ⟨fy,r2⟩|⟨ys,b,ws,m',e',rfl,rfl,g1,g2,d2⟩|⟨ys,b,ws,m',e',rfl,rfl,g1,g2,d2⟩
  ·cases r2<;>first|(cases fy;done)|skip
   ·cases q2;exact⟨.list_none p' bT,.list_none p' bT⟩
   ·cases q2;exact⟨.list_bool _ p' bT,.list_bool _ p' bT⟩
   ·obtain⟨t,rfl⟩:=q2;exact⟨.list_int _ _ p' bT,.list_int _ _ p' bT⟩
   ·obtain⟨t,rfl⟩:=q2;exact⟨.list_str _ _ p' bT,.list_str _ _ p' bT⟩
  ·cases q2;obtain⟨fO,_,p2,_⟩:=I.tuple g1;exact⟨.list_tuple p' (show s.heap.IsTuple b fO.toArray from p2) bT,.list_tuple p' (show s.heap.IsTuple b fO.toArray from p2) bT⟩
  ·cases q2;have em:m'=m:=by omega
   subst em;exact Fh I bT h1 g1 h2 g2 d1 d2 (deep _ e)
end
section
variable {X:Cx}
theorem Fm (hu:X.A.units+100<cLine):bx X (compareOp .Eq) (xV X.K false):=by
 intro pins s σ H x y v u Q I rx ry h;obtain⟨N,px,py,n,hn,d1,d2,r1,r2,q⟩:=h;exact(Fj I (by omega) d1 d2 r1 r2 rx ry).1 X.prog X.w X.xe _ ⟨.bl _,H,I,rfl,by simpa using q⟩
theorem Fn (hu:X.A.units+100<cLine):bx X (compareOp .NotEq) (xV X.K true):=by
 intro pins s σ H x y v u Q I rx ry h;obtain⟨N,px,py,n,hn,d1,d2,r1,r2,q⟩:=h;exact(Fj I (by omega) d1 d2 r1 r2 rx ry).2 X.prog X.w X.xe _ ⟨.bl _,H,I,rfl,by simpa using q⟩
end
def fP (neg:Bool):G2:=λx y z=>(∃ n,n<=80/\Dp n x/\Dp n y)/\z=.bl (neg^^bN x y)
theorem sD {K:Frag}{neg:Bool}:dw K (xV K neg) (fP neg):=by
 intro H A σ x y v w z Q R q1 q2 g c;obtain⟨⟨n,hn,d1,d2⟩,rfl⟩:=g;have nd:∀{x:PV},Dp n x->∀ k,x≠.ah k:=λd k e=>by subst e;obtain⟨m,e,_⟩:=d;cases e
 exact⟨AN A,x,y,n,hn,d1,d2,q1.r R (nd d1),q2.r R (nd d2),c _ H (aR.refl H) (.bl _)⟩
section
variable {X:Cx}{K:Frag}{a b:Expr}{ua ub:UE}{pos:Pos}{k:Nat}
theorem lH (hK:X.K=K)(hr:bO k X.A)(ha:PE X a (az K ua))(hb:PE X b (az K ub)):PE X (.Compare a [.Eq] [b] pos) (aB K (u2 (fP false) ua ub)):=by
 subst hK;exact rV (Fm (by have:=hr.un;omega)) sD ha hb (e_ _)
theorem bW (hK:X.K=K)(hr:bO k X.A)(ha:PE X a (az K ua))(hb:PE X b (az K ub)):PT X (.Compare a [.Eq] [b] pos) (liftT K (ip (fP false) ua ub)):=by
 subst hK;exact j9 (Fm (by have:=hr.un;omega)) sD ha hb (e_ _)
theorem gf (hK:X.K=K)(hr:bO k X.A)(ha:PE X a (az K ua))(hb:PE X b (az K ub)):PT X (.Compare a [.NotEq] [b] pos) (liftT K (ip (fP true) ua ub)):=by
 subst hK;exact j9 (Fn (by have:=hr.un;omega)) sD ha hb (e_ _)
end
def pin (x:PV)(ys:ai):Bool:=ys.any λy=>bN y x
open Classical in
noncomputable def iX (K:Frag)(N:Addr->Prop)(H:Hp)(n:Nat)(px:PV)(u:Value):Bool:=decide (∃ p v,RelV v u/\RV K N H p v/\Dp n p/\bN p px=true)
section
variable {X:Cx}{pins:aP}{σ:St}{H:Hp}{s:Shared}{N:Addr->Prop}
open Classical in
theorem Fo (I:Inv X pins σ H s){n:Nat}{px p:PV}{v:V}{u:Value}(dx:Dp n px)(dp:Dp n p)(r:RV X.K N H p v)(q:RelV v u):iX X.K N H n px u=bN p px:=by
 unfold iX;by_cases e:bN p px=true
 ·rw[e];exact decide_eq_true ⟨p,v,q,r,dp,e⟩
 ·have e':bN p px=false:=by simpa using e
  rw[e'];refine decide_eq_false ?_;rintro⟨p',v',q',r',xW,e2⟩;have ev:=q'.inj q;subst ev;have z:=(sy n p' p xW dp).mp (su I n p' p _ xW dp r' r);have z2:=(sy n p' px xW dx).mp e2;exact e ((sy n p px dp dx).mpr (z.symm.trans z2))
theorem xX (I:Inv X pins σ H s){n:Nat}{px:PV}(dx:Dp n px):∀{ps:ai}{vs:Zv}{us:aC},aI X.K N H ps vs->Vals vs us->(∀ p∈ps,Dp n p)->us.any (iX X.K N H n px)=pin px ps
 |_,_,_,.nil,.nil,_=>rfl
 |_,_,_,.cons r rs,.cons q qs,d=>by
  rw[any_cons,Fo I dx (d _ (by simp)) r q,xX I dx rs qs λp h=>d p (by simp [h])];rfl
theorem xY (I:Inv X pins σ H s){A:Around}{n:Nat}{px:PV}{x:V}{ux:Value}(hu:A.units+n<cLine)(dx:Dp n px)(rx:RV X.K N H px x)(qx:RelV x ux):∀{ps:ai}{vs:Zv}{us:aC},aI X.K N H ps vs->Vals vs us->(∀ p∈ps,Dp n p) ->
  ∀ u∈us,SeqAt.EqAt A s u ux (iX X.K N H n px u)
 |_,_,_,.nil,.nil,_=>λu h=>nomatch h
 |_,_,_,.cons r rs,.cons q qs,d=>λu h=>by
  rcases mem_cons.mp h with rfl|h
  ·rw[Fo I dx (d _ (by simp)) r q];exact Fi I n A _ _ _ _ _ _ hu (d _ (by simp)) dx r rx q qx
  ·exact xY I hu dx rx qx rs qs (λp h=>d p (by simp [h])) u h
end
def Fp (K:Frag)(neg:Bool):R2:=λx y H Q=>∃ N px pb n,n<=80/\Dp n px/\(∀ p∈pb,Dp n p)/\RV K N H px x/\(∃ a vs,y=.ref a/\(bq K H a vs\/H a=some (.lst vs))/\aI K N H pb vs)/\Q (.bl (neg^^pin px pb)) H
section
variable {X:Cx}
theorem P7 (hu:X.A.units+100<cLine):bx X (compareOp .In) (Fp X.K false):=by
 intro pins s σ H x y v u Q I rx ry h;obtain⟨N,px,pb,n,hn,dx,dy,r1,⟨a,vs,rfl,hq,rs⟩,q⟩:=h;cases ry;have q':Q (.bl (pin px pb)) H:=by simpa using q
 rcases hq with hq|hq
 ·obtain⟨its,r,pl,hz⟩:=I.tuple hq;refine SeqAt.in_tupleAt (iX X.K N H n px) pl (λw hw=>xY I (by rw[in1_units];omega) dx r1 rx rs r dy w (by simpa using hw)) ⟨.bl _,H,I,rfl,?_⟩;rw[show its.toArray.any (iX X.K N H n px)=its.any (iX X.K N H n px) by simp,xX I dx rs r dy];exact q'
 ·obtain⟨its,r,pl,hz⟩:=I.list (aO.of (K:=X.K) hq);refine SeqAt.in_listAt (iX X.K N H n px) pl.isList (λw hw=>xY I (by rw[in1_units];omega) dx r1 rx rs r dy w (by simpa using hw)) ⟨.bl _,H,I,rfl,?_⟩;rw[show its.toArray.any (iX X.K N H n px)=its.any (iX X.K N H n px) by simp,xX I dx rs r dy];exact q'
end
def xZ (i j:Str):Bool:=!(Builtin.Str.occurrences j i 0 j.length 1).isEmpty
def P8 (neg:Bool):R2:=λx y H Q=>∃ i j,x=.str i/\y=.str j/\Q (.bl (neg^^xZ i j)) H
def sE (K:Frag)(neg:Bool):R2:=λx y H Q=>Fp K neg x y H Q\/P8 neg x y H Q
def x_ (neg:Bool):G2
 |x,.tup ys,z=>(∀ c:OC,x≠c.pv)/\(∃ n,n<=80/\Dp n x/\∀ p∈ys,Dp n p)/\z=.bl (neg^^pin x ys)
 |x,.lst ys,z=>(∀ c:OC,x≠c.pv)/\(∃ n,n<=80/\Dp n x/\∀ p∈ys,Dp n p)/\z=.bl (neg^^pin x ys)
 |.str i,.str j,z=>z=.bl (neg^^xZ i j)
 |_,_,_=>False
theorem P9 {K:Frag}{neg:Bool}:dw K (sE K neg) (x_ neg):=by
 intro H A σ x y v w z Q R q1 q2 g c
 have main:∀ ys,((∀ c:OC,x≠c.pv)/\(∃ n,n<=80/\Dp n x/\∀ p∈ys,Dp n p)/\z=.bl (neg^^pin x ys))->(∃ a vs,w=.ref a/\(bq K H a vs\/H a=some (.lst vs))/\aI K (AN A) H ys vs)->sE K neg v w H Q:=by
  rintro ys ⟨nc,⟨n,hn,d1,d2⟩,rfl⟩ h;exact .inl ⟨AN A,x,ys,n,hn,d1,d2,q1.rv nc,h,c _ H (aR.refl H) (.bl _)⟩
 cases y with
 |tup ys=>obtain⟨a,vs,rfl,h1,h2⟩:=q2.tup;exact main ys (by cases x<;>exact g) ⟨a,vs,rfl,.inl h1,h2⟩
 |lst ys=>obtain⟨a,vs,rfl,h1,h2⟩:=q2.lst R;exact main ys (by cases x<;>exact g) ⟨a,vs,rfl,.inr h1,h2⟩
 |str j=>
  cases x<;>first|exact g.elim|skip
  cases g;cases q1.str;cases q2.str;exact .inr ⟨_,_,rfl,rfl,c _ H (aR.refl H) (.bl _)⟩
 |_=>cases x<;>exact g.elim
section
variable {X:Cx}{K:Frag}{a b:Expr}{ua ub:UE}{pos:Pos}{k:Nat}
theorem Fq (hK:X.K=K)(hr:bO k X.A):bx X (compareOp .In) (sE K false):=by
 subst hK;refine(P7 (by have:=hr.un;omega)).or ?_;intro pins s σ H x y v u Q I rx ry h;obtain⟨i,j,e1,e2,q⟩:=h;exact Le pins s σ H x y v u Q I rx ry ⟨i,j,e1,e2,by simpa [xZ] using q⟩
end
def sF:G2
 |.int i,.int j,z=>z=.bl (decide (i<j))
 |.str i,.str j,z=>z=.bl (decide (i.cps.toList<j.cps.toList))
 |_,_,_=>False
def Fs:G2
 |.int i,.int j,z=>z=.bl (decide (i<=j))
 |.str i,.str j,z=>z=.bl (!decide (j.cps.toList<i.cps.toList))
 |_,_,_=>False
def P_:R2:=λx y H Q=>(gx λi j=>.bl (decide (i<j))) x y H Q\/∃ i j,x=.str i/\y=.str j/\Q (.bl (decide (i.cps.toList<j.cps.toList))) H
def P':R2:=λx y H Q=>(gx λi j=>.bl (decide (i<=j))) x y H Q\/∃ i j,x=.str i/\y=.str j/\Q (.bl (!(decide (j.cps.toList<i.cps.toList)))) H
theorem yb {K:Frag}:dw K P_ sF:=by
 intro H A σ x y v w z Q R q1 q2 g c;cases x<;>cases y<;>first|exact g.elim|skip
 ·cases g;cases q1.int;cases q2.int;exact .inl ⟨_,_,rfl,rfl,c _ H (aR.refl H) (.bl _)⟩
 ·cases g;cases q1.str;cases q2.str;exact .inr ⟨_,_,rfl,rfl,c _ H (aR.refl H) (.bl _)⟩
theorem Qa {K:Frag}:dw K P' Fs:=by
 intro H A σ x y v w z Q R q1 q2 g c;cases x<;>cases y<;>first|exact g.elim|skip
 ·cases g;cases q1.int;cases q2.int;exact .inl ⟨_,_,rfl,rfl,c _ H (aR.refl H) (.bl _)⟩
 ·cases g;cases q1.str;cases q2.str;exact .inr ⟨_,_,rfl,rfl,c _ H (aR.refl H) (.bl _)⟩
def pe:PV->Bool
 |.non=>true
 |_=>false
theorem Qb {X:Cx}:bx X (compareOp .Is) (λx y H Q=>∃ a b,x=.bl a/\y=.bl b/\Q (.bl (a==b)) H):=by
 intro pins s σ H x y v u Q I rx ry h;obtain⟨a,b,rfl,rfl,q⟩:=h;cases (show v=Value.bool a from rx);cases (show u=Value.bool b from ry);refine PySem.wpAny_is_plain (by cases a<;>cases b<;>rfl) ⟨.bl _,H,I,?_,q⟩;cases a<;>cases b<;>rfl
def Qc:R2:=λx y H Q=>(y=.non/\Q (.bl (decide (x=.non))) H)\/∃ a b,x=.bl a/\y=.bl b/\Q (.bl (a==b)) H
def sG:G2
 |.raw _,_,_=>False
 |x,.non,z=>z=.bl (pe x)
 |.bl a,.bl b,z=>z=.bl (a==b)
 |_,_,_=>False
def yc:G2
 |.raw _,_,_=>False
 |x,.non,z=>z=.bl (!pe x)
 |_,_,_=>False
theorem Ft {K:Frag}{A:AS}{H:Hp}{σ:St}{x:PV}{v:V}(R:Rep K H σ A)(q:bV K A H x v)(nr:∀ w,x≠.raw w):decide (v=.non)=pe x:=by
 cases x with
 |non=>cases q.non;rfl
 |bl b=>cases q.bl;rfl
 |int b=>cases q.int;rfl
 |str b=>cases q.str;rfl
 |tup xs=>obtain⟨a,vs,rfl,_⟩:=q.tup;rfl
 |lst xs=>obtain⟨a,vs,rfl,_⟩:=q.lst R;rfl
 |ah xs=>obtain⟨a,vs,rfl,_⟩:=q.ah R;rfl
 |raw w=>exact absurd rfl (nr w)
theorem Qd {K:Frag}:dw K Qc sG:=by
 intro H A σ x y v w z Q R q1 q2 g c;by_cases nr:∀ w,x≠.raw w
 ·cases y with
  |non=>
   cases q2.non;have e:z=.bl (pe x):=by cases x<;>first|exact g|exact g.elim
   subst e;refine .inl ⟨rfl,?_⟩;rw[Ft R q1 nr];exact c _ H (aR.refl H) (.bl _)
  |bl b=>
   cases x<;>first|exact g.elim|skip
   cases g;cases q1.bl;cases q2.bl;exact .inr ⟨_,_,rfl,rfl,c _ H (aR.refl H) (.bl _)⟩
  |_=>cases x<;>exact g.elim
 ·cases x<;>first|exact g.elim|exact absurd (λw z=>by cases z) nr
theorem Qe {K:Frag}:dw K (λx y H Q=>y=.non/\Q (.bl (!decide (x=.non))) H) yc:=by
 intro H A σ x y v w z Q R q1 q2 g c;by_cases nr:∀ w,x≠.raw w
 ·cases y with
  |non=>
   cases q2.non;have e:z=.bl (!pe x):=by cases x<;>first|exact g|exact g.elim
   subst e;refine⟨rfl,?_⟩;rw[Ft R q1 nr];exact c _ H (aR.refl H) (.bl _)
  |_=>cases x<;>exact g.elim
 ·cases x<;>first|exact g.elim|exact absurd (λw z=>by cases z) nr
section
variable {X:Cx}{K:Frag}{a b:Expr}{ua ub:UE}{pos:Pos}{k:Nat}
theorem Qf (ha:PE X a (az K ua))(hb:PE X b (az K ub)):PE X (.Compare a [.Lt] [b] pos) (aB K (u2 sF ua ub)):=rV (qB.or u4) yb ha hb (e_ _)
theorem mW (ha:PE X a (az K ua))(hb:PE X b (az K ub)):PT X (.Compare a [.Lt] [b] pos) (liftT K (ip sF ua ub)):=j9 (qB.or u4) yb ha hb (e_ _)
theorem Fu (ha:PE X a (az K ua))(hb:PE X b (az K ub)):PE X (.Compare a [.Gt] [b] pos) (aB K (u2 (kh λi j=>.bl (decide (j<i))) ua ub)):=rV qD (sk λ_ _ _ _=>.bl _) ha hb (e_ _)
theorem lI (ha:PE X a (az K ua))(hb:PE X b (az K ub)):PT X (.Compare a [.Gt] [b] pos) (liftT K (ip (kh λi j=>.bl (decide (j<i))) ua ub)):=j9 qD (sk λ_ _ _ _=>.bl _) ha hb (e_ _)
theorem Qg (ha:PE X a (az K ua))(hb:PE X b (az K ub)):PT X (.Compare a [.GtE] [b] pos) (liftT K (ip (kh λi j=>.bl (decide (j<=i))) ua ub)):=j9 Lc (sk λ_ _ _ _=>.bl _) ha hb (e_ _)
theorem Fv (ha:PE X a (az K ua))(hb:PE X b (az K ub)):PT X (.Compare a [.Is] [b] pos) (liftT K (ip sG ua ub)):=j9 (Lf.or Qb) Qd ha hb (e_ _)
theorem Fw (ha:PE X a (az K ua))(hb:PE X b (az K ub)):PT X (.Compare a [.IsNot] [b] pos) (liftT K (ip yc ua ub)):=j9 Lg Qe ha hb (e_ _)
end
def mY:G2
 |.tup xs,.int i,z=>cy xs i=some z
 |.lst xs,.int i,z=>cy xs i=some z
 |.str s,.int i,z=>s.length<=100000/\∃ c,cy s.cps.toList i=some c/\z=.str ⟨#[c]⟩
 |_,_,_=>False
theorem Fx {K:Frag}{N:Addr->Prop}{H:Hp}{xs:ai}{vs:Zv}{i:Int}{z:PV}(r:aI K N H xs vs)(h:cy xs i=some z):∃ v,cy vs i=some v/\RV K N H z v:=by
 unfold cy at h ⊢;obtain⟨j,hj,hz⟩:=Option.bind_eq_some_iff.mp h;obtain⟨v,hv,rv⟩:=r.at hz;refine⟨v,?_,rv⟩;rw[<- r.len,hj];exact hv
theorem Qh {K:Frag}:dw K (vv K) mY:=by
 intro H A σ x y v w z Q R q1 q2 g c
 cases y with
 |int i=>
  cases q2.int;cases x<;>first|exact g.elim|skip
  ·cases q1.str;obtain⟨aF,ch,hc,rfl⟩:=g;exact .inr (.inr ⟨_,i,ch,rfl,rfl,mQ aF,hc,c _ H (aR.refl H) (.str _)⟩)
  ·obtain⟨a,vs,rfl,h1,h2⟩:=q1.tup;obtain⟨v,hv,rv⟩:=Fx h2 g;exact .inr (.inl ⟨a,vs,i,v,rfl,rfl,h1,hv,c _ H (aR.refl H) rv⟩)
  ·obtain⟨a,vs,rfl,h1,h2⟩:=q1.lst R;obtain⟨v,hv,rv⟩:=Fx h2 g;exact .inl ⟨a,vs,i,v,rfl,rfl,aO.of h1,hv,c _ H (aR.refl H) rv⟩
 |_=>cases x<;>exact g.elim
section
variable {X:Cx}{K:Frag}{a b:Expr}{ua ub:UE}{pos:Pos}
end
namespace Fy
section
variable {prog:Program}{w:World}{A:Around}{E:aG}{s:Shared}
theorem Qi {t sl:Addr}{items:Array Value}{vl vu:Value}{lo hi:Option Int}{Q:aG}(ht:IsTup s.heap t items)(hs:s.heap.IsSliceOf sl vl vu .none)(pl:IsPart vl lo)(pu:IsPart vu hi)
  (hw:HT.aU items.size 0 lo=0/\HT.aU items.size items.size hi=items.size)(h:Q (.ref t) s):wpAny (model prog w) A (getItem (.ref t) (.ref sl)) Q E s:=by
 obtain⟨os,k8,f9,oC⟩:=id hs;have vo:s.TypeIs (.ref sl) "slice":=⟨os,k8,f9⟩;unfold getItem
 try with_reducible refine wpAny_holding ?_
 first|refine af (ao ?_)|skip
 refine af (wpAny_sequenceKey ht.typeIs (by decide) ?_)
 refine af (wpAny_callSpecial?_slot (name:=Str.ofString "__getitem__") ht.typeIs PyProof.Rows.slot_tuple_getitem
  (wpAny_call_entry PyProof.Rows.slot_tuple_getitem ht.typeIs entry_tuple_getitem ?_ (args_tuple_getitem _ _)))
 show wpAny _ _ (Builtin.Tuple.tupleItemsOf (.ref t) >>= _) _ _ s;refine af (tupleItemsOf_ ht ?_);refine af (wpAny_typeOf vo ?_);rw[if_pos (by decide)];refine af (HT.By hs pl pu ?_)
 have Qj:(((HT.aU items.size 0 lo:Nat):Int)==0&&(1:Int)==1&&(HT.aU items.size items.size hi-HT.aU items.size 0 lo)==items.size)=true:=by
  rw[hw.1,hw.2];simp
 show wpAny _ _ (if (((HT.aU items.size 0 lo:Nat):Int)==0&&(1:Int)==1&&(HT.aU items.size items.size hi-HT.aU items.size 0 lo)==items.size)=true then _ else _) _ _ s;rw[if_pos Qj];unfold Builtin.Tuple.tupleIsExact;refine af (af (wpAny_typeOf ht.typeIs (ao ?_)));rw[if_pos (by decide)];refine af (wpAny_rule ?_);exact ao ⟨_,rfl,ao h⟩
end
end Fy
def whole (n:Nat)(lo hi:Option Int):Prop:=HT.aU n 0 lo=0/\HT.aU n n hi=n
instance {n:Nat}{lo hi:Option Int}:Decidable (whole n lo hi):=by unfold whole;infer_instance
def Qk (K:Frag):V->Option Int->Option Int->Hp->VK->Prop:=λx lo hi H Q=>∃ a xs,x=.ref a/\bq K H a xs/\(whole xs.length lo hi->Q (.ref a) H)/\(¬ whole xs.length lo hi->∀ p,H p=none->Q (.ref p) (upd H p (.tup (hW xs lo hi))))
def cH (xs:ai)(lo hi:Option Int):ai:=(xs.drop (HT.aU xs.length 0 lo)).take (HT.aU xs.length xs.length hi-HT.aU xs.length 0 lo)
theorem yd {K:Frag}{N:Addr->Prop}{H:Hp}{xs:ai}{vs:Zv}(r:aI K N H xs vs)(lo hi:Option Int):aI K N H (cH xs lo hi) (hW vs lo hi):=by
 unfold cH hW;rw[r.len];exact(r.drop _).take _
theorem Ql {xs:ai}{lo hi:Option Int}(h:whole xs.length lo hi):cH xs lo hi=xs:=by
 unfold cH;rw[h.1,h.2];simp
section
variable {X:Cx}
theorem Qm:jl X (Qk X.K):=by
 intro pins s σ H x v vl vu lo hi sl Q I rx hs pl pu h;obtain⟨a,xs,rfl,hx,q1,q2⟩:=h;by_cases hw:whole xs.length lo hi
 ·cases rx;obtain⟨its,r,ht,hz⟩:=I.tuple hx;have hlen:its.toArray.size=xs.length:=by rw[size_toArray];exact r.length.symm
  refine⟨"tuple",_,PyProof.Rows.slot_tuple_getitem.lookup,ht.typeIs,?_⟩;exact Fy.Qi ht hs pl pu (by rw[hlen];exact hw) ⟨.ref a,H,I,rfl,q1 hw⟩
 ·exact Mb pins s σ H _ v vl vu lo hi sl Q I rx hs pl pu ⟨a,xs,rfl,hx,hw,q2 hw⟩
end
abbrev UO:=AS->(Option Int->AS->Prop)->Prop
def Fz:UO:=λA Q=>Q none A
def FA (ue:UE):UO:=λA Q=>ue A λx A1=>∃ i,x=.int i/\Q (some i) A1
def mZ (K:Frag)(u:UO):TO:=λσ H Q=>∃ A P,Rep K H σ A/\u A P/\∀ o A1 H1,P o A1->Rep K H1 σ A1->ay A H A1 H1->Q o H1
theorem PO.mono {X:Cx}{e:Option Expr}{t t':TO}(h:PO X e t)(f:∀ σ H Q,t' σ H Q->t σ H Q):PO X e t':=λpins s σ H Q I w=>h pins s σ H Q I (f _ _ _ w)
def FC:PV->Option Int->Option Int->PV->Prop
 |.tup xs,lo,hi,z=>z=.tup (cH xs lo hi)
 |.lst xs,lo,hi,z=>z=.lst (cH xs lo hi)
 |.str x,lo,hi,z=>x.length<=100000/\z=.str (Txt.slice x lo hi)
 |_,_,_,_=>False
def FD:PV->Option Int->Option Int->PV->Prop
 |.lst xs,lo,hi,z=>z=.lst (cH xs lo hi)
 |_,_,_,_=>False
def ye (g:PV->Option Int->Option Int->PV->Prop)(ue:UE)(ul uh:UO):UE:=λA Q=>ue A λx A1=>ul A1 λl A2=>uh A2 λh A3=>A3.ae=A1.ae/\∃ z,g x l h z/\Q z A3
section
variable {X:Cx}{K:Frag}{e:Expr}{ue:UE}{ul uh:UO}{lo hi:Option Expr}{pos p2:Pos}
theorem iY:PO X none (mZ K Fz):=L8.mono λσ H Q ⟨A,P,R,h,c⟩=>c none A H h R (ay.refl A H)
theorem gK (h:PE X e (aB K ue)):PO X (some e) (mZ K (FA ue)):=(L9 h).mono λσ H Q ⟨A,P,R,h,c⟩=>⟨A,_,R,h,λx A1 v H1 p R1 S1 rv=>by
 obtain⟨i,rfl,p⟩:=p;cases rv
 exact⟨i,rfl,c _ A1 H1 p R1 S1⟩⟩
theorem jB (hK:X.K=K)(he:PE X e (az K ue))(hl:PO X lo (mZ K ul))(hh:PO X hi (mZ K uh)):PE X (.Subscript e (.Slice lo hi none p2) pos) (aB K (ye FC ue ul uh)):=by
 subst hK;refine(Bz (Qm.or (BF.or Ny)) he hl hh).mono λσ H Q ⟨A,P,R,h,c⟩=>⟨A,_,R,h,λx A1 v H1 p R1 S1 q1=>⟨A1,_,R1,p,λl A2 H2 p R2 S2=>⟨A2,_,R2,p,λu A3 H3 p R3 S3=>?_⟩⟩⟩;obtain⟨e,z,g,p⟩:=p;have q3:=q1.step R1 (S2.trans S3) e;have Sx:=S1.trans (S2.trans S3);cases x<;>first|exact g.elim|skip
 ·cases q3.str;obtain⟨aF,rfl⟩:=g;exact .inr (.inr ⟨_,rfl,mQ aF,c _ A3 _ H3 p R3 Sx (.str _)⟩)
 ·cases g;obtain⟨a,vs,rfl,h1,h2⟩:=q3.tup;refine .inl ⟨a,vs,rfl,h1,λhw=>?_,λ_ q hq=>?_⟩
  ·rw[Ql (by rw[h2.len];exact hw)] at p;exact c _ A3 _ H3 p R3 Sx (.tup h1 h2)
  ·have s:=dJ hq (.tup (hW vs l u));exact c _ A3 _ _ p (R3.same s) (Sx.trans (ay.same A3 s)) (.tup (bq.of bD) ((yd h2 l u).imp (iS s)))
 ·cases g;obtain⟨a,vs,rfl,h1,h2⟩:=q3.lst R3;refine .inr (.inl ⟨a,vs,rfl,aO.of h1,λq hq=>?_⟩);have s:=dJ hq (.lst (hW vs l u));exact c _ A3 _ _ p (R3.same s) (Sx.trans (ay.same A3 s)) (.lst (R3.new hq) bD ((yd h2 l u).imp (iS s)))
theorem FE (hK:X.K=K)(he:PE X e (az K ue))(hl:PO X lo (mZ K ul))(hh:PO X hi (mZ K uh)):PE X (.Subscript e (.Slice lo hi none p2) pos) (c3 K (ye FD ue ul uh)):=by
 subst hK;refine(Bz BF he hl hh).mono λσ H Q ⟨A,P,R,h,c⟩=>⟨A,_,R,h,λx A1 v H1 p R1 S1 q1=>⟨A1,_,R1,p,λl A2 H2 p R2 S2=>⟨A2,_,R2,p,λu A3 H3 p R3 S3=>?_⟩⟩⟩;obtain⟨e,z,g,p⟩:=p;have q3:=q1.step R1 (S2.trans S3) e;cases x<;>first|exact g.elim|skip
 cases g;obtain⟨a,vs,rfl,h1,h2⟩:=q3.lst R3;exact⟨a,vs,rfl,aO.of h1,λq hq=>c _ A3 _ H3 _ p R3 (S1.trans (S2.trans S3)) ⟨q,.lst _,rfl,rfl,hq,dJ hq _,_,bD,yd h2 l u⟩⟩
def FF (ue:UE):UE:=λA Q=>ue A λx A1=>∃ xs,x=.lst xs/\Q (.lst xs.reverse) A1
theorem Qn {j:Nat}{p3 p4:Pos}(hK:X.K=K)(he:PE X e (az K ue)):PE X (.Subscript e (.Slice none none (some (.UnaryOp .USub (.Constant (.int 1) j p3) p4)) p2) pos) (c3 K (FF ue)):=
 (OZ hK he).mono λσ H Q ⟨A,P,R,h,c⟩=>⟨A,_,R,h,λx A1 v H1 p R1 S1 q1=>by
  obtain⟨xs,rfl,p⟩:=p;obtain⟨a,vs,rfl,h1,h2⟩:=q1.lst R1
  exact⟨a,vs,rfl,aO.of h1,λq hq=>c _ A1 _ H1 _ p R1 S1 ⟨q,.lst _,rfl,rfl,hq,dJ hq _,_,bD,h2.rev⟩⟩⟩
end
abbrev G1:=PV->PV->Prop
def lJ (K:Frag)(r:Zv->Hp->VK->Prop)(g:G1):Prop:=∀(H:Hp)(A:AS)(σ:St)(x:PV)(v:V)(z:PV)(Q:VK),Rep K H σ A->bV K A H x v->g x z->(∀ v' H',aR H H'->RV K (AN A) H' z v'->Q v' H')->r [v] H Q
def yf (K:Frag)(r:Zv->Hp->VK->Prop)(g:G1):Prop:=∀(H:Hp)(A:AS)(σ:St)(x:PV)(v:V)(z:PV)(Q:VK),Rep K H σ A->bV K A H x v->g x z->(∀ v' H',eJ K (AN A) H H' z v'->Q v' H')->r [v] H Q
def u1 (g:G1)(ue:UE):UE:=λA Q=>ue A λx A1=>∃ z,g x z/\Q z A1
section
variable {X:Cx}{K:Frag}{e:Expr}{ue:UE}{x:Str}{p pos:Pos}{id T:String}{r:Zv->Hp->VK->Prop}{g:G1}
theorem c1 (br:lJ K r g):∀ σ H Q,aB K (u1 g ue) σ H Q->qG r (u9 (az K ue) u7) σ H Q:=λσ H Q ⟨A,P,R,h,c⟩=>⟨A,_,R,h,λx A1 v H1 p R1 S1 q1=>by
 obtain⟨z,g,p⟩:=p
 exact br H1 A1 σ x v z Q R1 q1 g λv' H' s rv=>c z A1 v' H' p (R1.same s) (S1.trans (ay.same A1 s)) rv⟩
theorem FG (br:yf K r g):∀ σ H Q,c3 K (u1 g ue) σ H Q->qG r (u9 (az K ue) u7) σ H Q:=λσ H Q ⟨A,P,R,h,c⟩=>⟨A,_,R,h,λx A1 v H1 p R1 S1 q1=>by
 obtain⟨z,g,p⟩:=p
 exact br H1 A1 σ x v z Q R1 q1 g λv' H' f=>c z A1 v' H1 H' p R1 S1 f⟩
theorem sH (hc:cx X (.builtin id) r)(br:lJ K r g)(hv:bootBuiltins x=some (.builtin id))(hm:X.mg x=none)(he:PE X e (az K ue))(hg:Gl X x:=by rfl)(hn:x≠"__name__":=by decide)(hd:(x==("__debug__":Str))=false:=by decide)(hs:starEach [e] X.env=[(false,eval e X.env)]:=by rfl) :
  PE X (.Call (.Name x p) [e] [] pos) (aB K (u1 g ue)):=(hU hc hg hm hv (b7 he cN hs) hn hd hs).mono (c1 br)
theorem FH (hc:cx X (.builtin id) r)(br:yf K r g)(hv:bootBuiltins x=some (.builtin id))(hm:X.mg x=none)(he:PE X e (az K ue))(hg:Gl X x:=by rfl)(hn:x≠"__name__":=by decide)(hd:(x==("__debug__":Str))=false:=by decide)(hs:starEach [e] X.env=[(false,eval e X.env)]:=by rfl) :
  PE X (.Call (.Name x p) [e] [] pos) (c3 K (u1 g ue)):=(hU hc hg hm hv (b7 he cN hs) hn hd hs).mono (FG br)
theorem FI (hc:cx X (.type T) r)(br:lJ K r g)(hv:bootBuiltins x=some (.type T))(hm:X.mg x=none)(he:PE X e (az K ue))(hg:Gl X x:=by rfl)(hn:x≠"__name__":=by decide)(hd:(x==("__debug__":Str))=false:=by decide)(hs:starEach [e] X.env=[(false,eval e X.env)]:=by rfl) :
  PE X (.Call (.Name x p) [e] [] pos) (aB K (u1 g ue)):=(u_ hc hg hm hv (b7 he cN hs) hn hd hs).mono (c1 br)
theorem FJ (hc:cx X (.type T) r)(br:yf K r g)(hv:bootBuiltins x=some (.type T))(hm:X.mg x=none)(he:PE X e (az K ue))(hg:Gl X x:=by rfl)(hn:x≠"__name__":=by decide)(hd:(x==("__debug__":Str))=false:=by decide)(hs:starEach [e] X.env=[(false,eval e X.env)]:=by rfl) :
  PE X (.Call (.Name x p) [e] [] pos) (c3 K (u1 g ue)):=(u_ hc hg hm hv (b7 he cN hs) hn hd hs).mono (FG br)
end
section
variable {X:Cx}{K:Frag}{e:Expr}{ue:UE}{p pos:Pos}{k:Nat}
def sJ:G1
 |.tup xs,z=>z=.int xs.length
 |.lst xs,z=>z=.int xs.length
 |.str x,z=>x.length<=100000/\z=.int x.length
 |_,_=>False
theorem Qo:lJ K (λxs H Q=>∃ x n,xs=[x]/\Ba K x H n/\Q (.int n) H) sJ:=by
 intro H A σ x v z Q R q1 g c;cases x<;>first|exact g.elim|skip
 ·obtain⟨aF,rfl⟩:=g;cases q1.str;exact⟨_,_,rfl,⟨mQ aF,rfl⟩,c _ H (aR.refl H) (.int _)⟩
 ·cases g;obtain⟨a,vs,rfl,h1,h2⟩:=q1.tup;refine⟨_,_,rfl,.inr ⟨vs,h1,rfl⟩,?_⟩;rw[<- h2.len];exact c _ H (aR.refl H) (.int _)
 ·cases g;obtain⟨a,vs,rfl,h1,h2⟩:=q1.lst R;refine⟨_,_,rfl,.inl ⟨vs,aO.of h1,rfl⟩,?_⟩;rw[<- h2.len];exact c _ H (aR.refl H) (.int _)
theorem fG (hK:X.K=K)(hm:X.mg "len"=none)(he:PE X e (az K ue))(hg:Gl X "len":=by rfl)(hs:starEach [e] X.env=[(false,eval e X.env)]:=by rfl):PE X (.Call (.Name "len" p) [e] [] pos) (aB K (u1 sJ ue)):=by
 subst hK;exact sH Lv Qo PySem.boot_len hm he hg (hs:=hs)
inductive Ty where
 |int|str|bool|tuple|list|dict
def Ty.n:Ty->String
 |.int=>"int"
 |.str=>"str"
 |.bool=>"bool"
 |.tuple=>"tuple"
 |.list=>"list"
 |.dict=>"dict"
def lK:Ty->PV->Option Bool
 |_,.raw _=>none
 |.int,.int _=>some true
 |.int,.bl _=>some true
 |.str,.str _=>some true
 |.bool,.bl _=>some true
 |.tuple,.tup _=>some true
 |.list,.lst _=>some true
 |.dict,.ah _=>some true
 |_,_=>some false
theorem Qp {K:Frag}:∀(t:Ty)(T:String),T∈["NoneType","bool","int","str","list","tuple","dict"]->PySem.W.kitOne K (.type T) (.type t.n)=some (T==t.n||(t.n=="int"&&T=="bool")):=by
 intro t T h;simp only[mem_cons,not_mem_nil,or_false] at h;cases t<;>(rcases h with rfl|rfl|rfl|rfl|rfl|rfl|rfl)<;>with_unfolding_all rfl
theorem Qq {pins:aP}{σ:St}{H:Hp}{s:Shared}{A:Around}{E:aG}{Q:aG}{c:Value}{b:Bool}{a:Addr}{vs:Zv}(I:Inv X pins σ H s)(h1:bq X.K H a vs)(e:PySem.W.kitOne X.K (.type "tuple") c=some b)(h:∀ tk,Q (.bool b) { s with toks:=tk }) :
  wpAny (model X.prog X.w) A (call (.builtin "isinstance") [.ref a,c]) Q E s:=by
 obtain⟨its,_,⟨o,g1,g2,_⟩,_⟩:=I.tuple h1;exact PySem.W.kia_one PySem.W.kitx_tuple I.dG ⟨o,g1,g2⟩ e (λz=>nomatch z) h
theorem Qr {pins:aP}{σ:St}{H:Hp}{s:Shared}{A:Around}{E:aG}{Q:aG}{c:Value}{b:Bool}{a:Addr}{kvs:bh}(I:Inv X pins σ H s)(h1:Rd H a (.dK kvs))(e:PySem.W.kitOne X.K (.type "dict") c=some b)(h:∀ tk,Q (.bool b) { s with toks:=tk }) :
  wpAny (model X.prog X.w) A (call (.builtin "isinstance") [.ref a,c]) Q E s:=by
 obtain⟨_,_,vs,_,ob,es,ep,g1,g2,_⟩:=h1.ok I.aA;exact PySem.W.kia_one PySem.W.kitx_dict I.dG ⟨ob,g1,g2.1⟩ e (λz=>nomatch z) h
def Qs (K:Frag):Zv->Hp->VK->Prop:=λxs H Q=>∃(x:V)(t:Value)(n:Ty)(b:Bool),xs=[x,.ty n.n]/\(fZ K H x t\/(∃ a vs,x=.ref a/\t=.type "tuple"/\bq K H a vs)\/∃ a kvs,x=.ref a/\t=.type "dict"/\Rd H a (.dK kvs))/\PySem.W.kitOne K t (.type n.n)=some b/\Q (.bl b) H
theorem Qt:cx X (.builtin "isinstance") (Qs X.K):=by
 intro pins s σ H xs us Q I r h;obtain⟨x,t,n,b,rfl,ty,e,q⟩:=h;obtain⟨u,v,rfl,ru,rv⟩:=vals2 r;cases (show v=Value.type n.n from rv);rcases ty with ty|⟨a,vs,rfl,rfl,h1⟩|⟨a,vs,rfl,rfl,h1⟩
 ·exact Lz I ru ty e λtk=>⟨.bl b,H,I.tok tk,rfl,q⟩
 ·cases ru;exact Qq I h1 e λtk=>⟨.bl b,H,I.tok tk,rfl,q⟩
 ·cases ru;exact Qr I h1 e λtk=>⟨.bl b,H,I.tok tk,rfl,q⟩
def FK (t:Ty)(ue:UE):UE:=λA Q=>ue A λx A1=>∃ b,lK t x=some b/\Q (.bl b) A1
theorem pf (t:Ty){T:Str}{pt:Pos}(hK:X.K=K)(hm:X.mg "isinstance"=none)(hT:X.mg T=none)(hv:bootBuiltins T=some (.type t.n))(he:PE X e (az K ue))(hg:Gl X "isinstance":=by rfl)(Qu:Gl X T:=by rfl)(hn:T≠"__name__":=by decide)(hd:(T==("__debug__":Str))=false:=by decide)
  (hs:starEach [e,.Name T pt] X.env=(false,eval e X.env)::starEach [.Name T pt] X.env:=by rfl)(hs2:starEach [.Name T pt] X.env=[(false,eval (.Name T pt) X.env)]:=by rfl)(hpl:(backTo pos (starEach [.Name T pt] X.env)).any (·.1)=false:=by rfl) :
  PE X (.Call (.Name "isinstance" p) [e,.Name T pt] [] pos) (aB K (FK t ue)):=by
 subst hK;refine(hU Qt hg hm PyProof.Rows.boot_isinstance (b7 he (b7 (J1 (v:=.ty t.n) Qu hT hv rfl hn hd) cN hs2) hs) (by decide) (by decide) hs hpl).mono λσ H Q ⟨A,P,R,h,c⟩=>⟨A,_,R,h,λx A1 v H1 p R1 S1 q1=>?_⟩;obtain⟨b,eb,p⟩:=p;have fin:=c _ A1 _ H1 p R1 S1 (.bl b);have one:∀ T,T∈["NoneType","bool","int","str","list","tuple","dict"]->(T==t.n||(t.n=="int"&&T=="bool"))=b->PySem.W.kitOne X.K (.type T) (.type t.n)=some b:=λT h e=>by rw[Qp t T h,e]
 cases x with
 |raw w=>cases t<;>cases eb
 |non=>cases q1.non;exact⟨_,_,t,b,rfl,.inl .non,one _ (by simp) (by cases t<;>cases eb<;>rfl),fin⟩
 |bl y=>cases q1.bl;exact⟨_,_,t,b,rfl,.inl (.bl _),one _ (by simp) (by cases t<;>cases eb<;>rfl),fin⟩
 |int y=>cases q1.int;exact⟨_,_,t,b,rfl,.inl (.int _),one _ (by simp) (by cases t<;>cases eb<;>rfl),fin⟩
 |str y=>cases q1.str;exact⟨_,_,t,b,rfl,.inl (.str _),one _ (by simp) (by cases t<;>cases eb<;>rfl),fin⟩
 |tup y=>obtain⟨a,vs,rfl,h1,_⟩:=q1.tup;exact⟨_,_,t,b,rfl,.inr (.inl ⟨a,vs,rfl,rfl,h1⟩),one _ (by simp) (by cases t<;>cases eb<;>rfl),fin⟩
 |lst y=>obtain⟨a,vs,rfl,h1,_⟩:=q1.lst R1;exact⟨_,_,t,b,rfl,.inl (.lst h1),one _ (by simp) (by cases t<;>cases eb<;>rfl),fin⟩
 |ah y=>obtain⟨a,vs,rfl,h1,_⟩:=q1.ah R1;exact⟨_,_,t,b,rfl,.inr (.inr ⟨a,vs,rfl,rfl,h1⟩),one _ (by simp) (by cases t<;>cases eb<;>rfl),fin⟩
def yg:G1
 |.tup xs,z=>z=.tup xs
 |.lst xs,z=>z=.tup xs
 |_,_=>False
theorem Qv:lJ K (λxs H Q=>∃ p ys,xs=[.ref p]/\((aO K H p ys/\∀ l,H l=none->Q (.ref l) (upd H l (.tup ys)))\/(bq K H p ys/\Q (.ref p) H))) yg:=by
 intro H A σ x v z Q R q1 g c;cases x<;>first|exact g.elim|skip
 ·cases g;obtain⟨a,vs,rfl,h1,h2⟩:=q1.tup;exact⟨a,vs,rfl,.inr ⟨h1,c _ H (aR.refl H) (.tup h1 h2)⟩⟩
 ·cases g;obtain⟨a,vs,rfl,h1,h2⟩:=q1.lst R;refine⟨a,vs,rfl,.inl ⟨aO.of h1,λl hl=>?_⟩⟩;have s:=dJ hl (.tup vs);exact c _ _ s (.tup (bq.of bD) (h2.imp (iS s)))
theorem ko (hK:X.K=K)(hm:X.mg "tuple"=none)(he:PE X e (az K ue))(hg:Gl X "tuple":=by rfl)(hs:starEach [e] X.env=[(false,eval e X.env)]:=by rfl):PE X (.Call (.Name "tuple" p) [e] [] pos) (aB K (u1 yg ue)):=by
 subst hK;exact FI Mq Qv PyProof.Rows.boot_tuple hm he hg (hs:=hs)
def yh:G1
 |.int i,z=>z=.int i
 |.bl b,z=>z=.int (if b then 1 else 0)
 |_,_=>False
theorem Qw:lJ K (λxs H Q=>(∃ i,xs=[.int i]/\Q (.int i) H)\/∃ k,xs=[.bl k]/\Q (.int (if k then 1 else 0)) H) yh:=by
 intro H A σ x v z Q R q1 g c;cases x<;>first|exact g.elim|skip
 ·cases g;cases q1.bl;exact .inr ⟨_,rfl,c _ H (aR.refl H) (.int _)⟩
 ·cases g;cases q1.int;exact .inl ⟨_,rfl,c _ H (aR.refl H) (.int _)⟩
theorem lL (hm:X.mg "int"=none)(he:PE X e (az K ue))(hg:Gl X "int":=by rfl)(hs:starEach [e] X.env=[(false,eval e X.env)]:=by rfl):PE X (.Call (.Name "int" p) [e] [] pos) (aB K (u1 yh ue)):=FI Lu Qw PyProof.Rows.boot_int hm he hg (hs:=hs)
def FL (ue:UE):UE:=λA Q=>ue A λx A1=>∃ i,x=.int i/\Q (.int (-i)) A1
theorem lM (he:PE X e (aB K ue)):PE X (.UnaryOp .USub e pos) (aB K (FL ue)):=(A6 A8 he).mono λσ H Q ⟨A,P,R,h,c⟩=>⟨A,_,R,h,λx A1 v H1 p R1 S1 rv=>by
 obtain⟨i,rfl,p⟩:=p;cases rv
 exact⟨i,rfl,c _ A1 _ H1 p R1 S1 (.int _)⟩⟩
end
end L2
namespace HR
open PySem PyProof.Rows PySem.SeqAt
section
open PySem.AutoSeq1 (wpAny_loadPart')
open PySem.MeetsSeq PySem.MeetsSeq2 PySem.MeetsSeq3
end
end HR
namespace L2
open PySem PySem.Spec PyProof.Rows
section
variable {X:Cx}
end
theorem aI.erase {K:Frag}{N:Addr->Prop}{H:Hp}{xs:ai}{vs:Zv}(h:aI K N H xs vs)(j:Nat):aI K N H (xs.eraseIdx j) (vs.eraseIdx j):=by
 induction vs generalizing xs j with
 |nil=>cases h;exact .nil
 |cons u vs ih=>
  cases h with
  |cons h1 h2=>
   cases j with
   |zero=>exact h2
   |succ j=>exact .cons h1 (ih h2 j)
theorem aI.last {K:Frag}{N:Addr->Prop}{H:Hp}{xs:ai}{x:PV}{vs:Zv}(h:aI K N H (xs++[x]) vs):∃ ws w,vs=ws++[w]/\aI K N H xs ws/\RV K N H x w:=by
 induction xs generalizing vs with
 |nil=>cases h with|cons h1 h2=>cases h2;exact⟨[],_,rfl,.nil,h1⟩
 |cons y ys ih=>
  cases h with
  |cons h1 h2=>
   obtain⟨ws,w,rfl,r1,r2⟩:=ih h2;exact⟨_::ws,w,rfl,.cons h1 r1,r2⟩
def ph (i:Nat)(ue:UE):UE:=λA Q=>match A.ae[i]? with
 |some (some (.own a (.lst _)))=>ue A λr A1=>∃ xs,A1.ae[i]?=some (some (.own a (.lst xs)))/\xs.length<=1000000/\Q .non (put A1 i (.own a (.lst (xs++[r]))))
 |_=>False
def pj (i:Nat):UE:=λA Q=>match A.ae[i]? with
 |some (some (.own a (.lst xs)))=>∃ ys y,xs=ys++[y]/\Q y (put A i (.own a (.lst ys)))
 |_=>False
def sL (i:Nat)(ue:UE):UE:=λA Q=>match A.ae[i]? with
 |some (some (.own a (.lst _)))=>ue A λr A1=>∃ xs ys,A1.ae[i]?=some (some (.own a (.lst xs)))/\(r=.lst ys\/r=.tup ys)/\xs.length+ys.length<=1000000/\Q .non (put A1 i (.own a (.lst (xs++ys))))
 |_=>False
theorem Qx {X:Cx}:jm X "list.extend" (λx vs H Q=>∃ l b xs zs,x=.ref l/\vs=[.ref b]/\H l=some (.lst xs)/\bq X.K H b zs/\xs.length+zs.length<=sizeLine/\Q .non (upd H l (.lst (xs++zs)))):=by
 intro pins s σ H x vs v us Q I rx rv h;obtain⟨l,b,xs,zs,rfl,rfl,hH,hB,hz,q⟩:=h;cases rx;obtain⟨u,rfl,ru⟩:=rv.one;cases ru;obtain⟨z,its,n,r,hl,e⟩:=I.iO hH;obtain⟨fz,r2,e2,z2⟩:=I.tuple hB;have oI:=r2.length;obtain⟨ob,e2,c2,n2,d2⟩:=e2;have hsz:its.toArray.size+fz.toArray.size<=sizeLine:=by rw[size_toArray,size_toArray];omega
 have oJ:¬ (!its.toArray.isEmpty&&Builtin.List.listTooLong (its.toArray.size+fz.toArray.size))=true:=by
  rw[vz hsz,Bool.and_false];exact Bool.false_ne_true
 refine wpAny_call_entry PySem.F.slot_list_extend ⟨_,e,rfl⟩ PySem.F.entry_list_extend ?_ (PySem.F.args_list_extend_2 _ _);show wpAny _ _ (Builtin.List.listExtendWith (.ref l) (.ref b) .none) _ _ s;unfold Builtin.List.listExtendWith;refine af (wpAny_typeOf (T:="tuple") ⟨ob,e2,c2⟩ ?_);have h3:(Value.type "tuple"==Value.type "tuple")=true:=by decide
 simp only[h3,Bool.or_true,if_true];unfold Builtin.List.listItems;refine af (af (wpAny_seqItems e2 d2 (ao ?_)));refine af (af (wpAny_seqItems e rfl (ao ?_)));rw[if_neg oJ];show wpAny _ _ (updateSeq l (·++fz.toArray) >>= _) _ _ s;refine af (wpAny_updateSeq e rfl ?_ (by rw[size_toArray];omega) (by rw[Array.size_append];omega));refine ao ⟨_,rfl,.non,_,I.oH (its':=its++fz) (t':=s.toks) hH e (by simp) (r.append r2) ?_,rfl,q⟩;rw[length_append];omega
theorem jm.or {X:Cx}{id:String}{r r':V->Zv->Hp->VK->Prop}(h:jm X id r)(h':jm X id r'):jm X id (λx xs H Q=>r x xs H Q\/r' x xs H Q):=λpins s σ H x xs v us Q I rx rs q=>q.elim (h pins s σ H x xs v us Q I rx rs) (h' pins s σ H x xs v us Q I rx rs)
theorem sM {n:Nat}(h:n<=1000000):n<=sizeLine:=bU h (by decide)
section
variable {X:Cx}{K:Frag}{e:Expr}{ue:UE}{apos bg bz:Pos}{k:Nat}
theorem fQ (hK:X.K=K)(i:Nat){x:Str}(he:PE X e (aB K ue))(hN:X.N[i]?=some x:=by rfl)(hv:di X.env.scope x:=by walk_at "v")(hd:(x==("__debug__":Str))=false:=by decide)(bJ:(x==("__classdict__":Str))=false:=by decide)
  (d0:attributeBase (.Name x bz) "append" X.env (eval (.Name x bz) X.env)=eval (.Name x bz) X.env:=by rfl)
  (h_:((backTo bg (starEach [e] X.env)).all (λx=>!x.1)&&(backToKw bg (keywordEach [] X.env)).all (λx=>x.1.isSome)&&decide ([e].length+([]:List Keyword).length+(if ([]:List Keyword).isEmpty then 0 else 1)<30))=true:=by rfl)
  (d5:(apos.endLine==bg.line)=true:=by rfl)(hs:starEach [e] X.env=[(false,eval e X.env)]:=by rfl):PE X (.Call (.Attribute (.Name x bz) "append" apos) [e] [] bg) (aB K (ph i ue)):=by
 subst hK;refine(oG PySem.F.plainAttrs_list PySem.F.slot_list_append PySem.F.type_list_append vA (dY hN hv hd bJ) (b7 he cN hs) d0 h_ d5 hs rfl).mono λσ H Q ⟨A,P,R,h,c⟩=>?_;unfold ph at h
 split at h
 ·rename_i a ys hx;obtain⟨v,ev,rfl,nb,vs,h1,h2⟩:=R.sl i _ hx;refine⟨_,ev,.inl ⟨rfl,_,aO.of h1⟩,A,_,R,h,λr A1 w H1 p R1 S1 dI=>?_⟩;obtain⟨xs,hA,aF,p⟩:=p;obtain⟨_,_,_,_,us,g1,g2⟩:=R1.sl i _ hA;have:=g2.len;obtain⟨R2,S2⟩:=R1.turn hA (g2.app (.cons dI .nil));exact⟨a,us,w,rfl,rfl,g1,Nat.lt_of_le_of_lt (by omega:us.length<=1000000) (by decide),c _ _ _ _ p R2 (S1.trans S2) .non⟩
 ·exact h.elim
theorem Qy (hK:X.K=K)(i:Nat){x:Str}(hN:X.N[i]?=some x:=by rfl)(hv:di X.env.scope x:=by walk_at "v")(hd:(x==("__debug__":Str))=false:=by decide)(bJ:(x==("__classdict__":Str))=false:=by decide)
  (d0:attributeBase (.Name x bz) "pop" X.env (eval (.Name x bz) X.env)=eval (.Name x bz) X.env:=by rfl)(d5:(apos.endLine==bg.line)=true:=by rfl):PE X (.Call (.Attribute (.Name x bz) "pop" apos) [] [] bg) (aB K (pj i)):=by
 subst hK;refine(Mu PySem.F.plainAttrs_list PySem.F.slot_list_pop PySem.F.type_list_pop MB (dY hN hv hd bJ) d0 d5).mono λσ H Q ⟨A,P,R,h,c⟩=>?_;unfold pj at h
 split at h
 ·rename_i a xs hx;obtain⟨v,ev,rfl,nb,vs,h1,h2⟩:=R.sl i _ hx;obtain⟨ys,y,rfl,h⟩:=h;obtain⟨ws,w,rfl,g1,g2⟩:=h2.last;obtain⟨R2,S2⟩:=R.turn hx g1;refine⟨_,ev,.inl ⟨rfl,_,aO.of h1⟩,a,_,w,rfl,rfl,h1,by simp,?_⟩;rw[dropLast_concat];exact c _ _ _ _ h R2 S2 (g2.imp (R.keep S2))
 ·exact h.elim
theorem Qz (hK:X.K=K)(i:Nat){x:Str}(he:PE X e (az K ue))(hN:X.N[i]?=some x:=by rfl)(hv:di X.env.scope x:=by walk_at "v")(hd:(x==("__debug__":Str))=false:=by decide)(bJ:(x==("__classdict__":Str))=false:=by decide)
  (d0:attributeBase (.Name x bz) "extend" X.env (eval (.Name x bz) X.env)=eval (.Name x bz) X.env:=by rfl)
  (h_:((backTo bg (starEach [e] X.env)).all (λx=>!x.1)&&(backToKw bg (keywordEach [] X.env)).all (λx=>x.1.isSome)&&decide ([e].length+([]:List Keyword).length+(if ([]:List Keyword).isEmpty then 0 else 1)<30))=true:=by rfl)
  (d5:(apos.endLine==bg.line)=true:=by rfl)(hs:starEach [e] X.env=[(false,eval e X.env)]:=by rfl):PE X (.Call (.Attribute (.Name x bz) "extend" apos) [e] [] bg) (aB K (sL i ue)):=by
 subst hK;refine(oG PySem.F.plainAttrs_list PySem.F.slot_list_extend PySem.F.type_list_extend (Mz.or Qx) (dY hN hv hd bJ) (b7 he cN hs) d0 h_ d5 hs rfl).mono λσ H Q ⟨A,P,R,h,c⟩=>?_;unfold sL at h
 split at h
 ·rename_i a ys hx;obtain⟨v,ev,rfl,nb,vs,h1,h2⟩:=R.sl i _ hx;refine⟨_,ev,.inl ⟨rfl,_,aO.of h1⟩,A,_,R,h,λr A1 w H1 p R1 S1 q1=>?_⟩;obtain⟨xs,ys,hA,hr,aF,p⟩:=p;obtain⟨_,_,_,_,us,g1,g2⟩:=R1.sl i _ hA;have l1:=g2.len;rcases hr with rfl|rfl
  ·obtain⟨b,ws,rfl,f1,f2⟩:=q1.lst R1;have l2:=f2.len;obtain⟨R2,S2⟩:=R1.turn hA (g2.app f2);exact .inl ⟨a,b,us,ws,rfl,rfl,g1,f1,sM (by omega),c _ _ _ _ p R2 (S1.trans S2) .non⟩
  ·obtain⟨b,ws,rfl,f1,f2⟩:=q1.tup;have l2:=f2.len;obtain⟨R2,S2⟩:=R1.turn hA (g2.app f2);exact .inr ⟨a,b,us,ws,rfl,rfl,g1,f1,sM (by omega),c _ _ _ _ p R2 (S1.trans S2) .non⟩
 ·exact h.elim
end
def sN (cells:List (Str×Addr)):List (Str×NameKind)->Bool
 |[]=>true
 |(x,.free)::r=>(cells.lookup x).isSome&&sN cells r
 |_::r=>sN cells r
theorem yi {cells:List (Str×Addr)}:∀{l:List (Str×NameKind)},sN cells l=true->∀ y∈l,y.2=.free->∃ c,cells.lookup y.1=some c
 |[],_,y,hy,_=>by cases hy
 |(x,k)::r,h,y,hy,hf=>by
  rcases mem_cons.mp hy with e|e
  ·subst e;cases hf;exact Option.isSome_iff_exists.mp (Bool.and_eq_true_iff.mp h).1
  ·refine yi (l:=r) ?_ y e hf;cases k<;>first|exact h|exact(Bool.and_eq_true_iff.mp h).2
theorem yj {env:Env}:∀(names:List (Str×NameKind))(acc:List (Str×Addr))(x:Str)(c:Addr),(x,c)∈fD env names acc->(x,c)∈acc\/(x,NameKind.free)∈names
 |[],_,_,_,h=>.inl h
 |(n,k)::r,acc,x,c,h=>by
  unfold fD at h
  split at h
  ·rename_i hk;have:k=NameKind.free:=by simpa using hk
   subst this;rcases yj r _ x c h with z|z
   ·rcases mem_cons.mp z with e|z
    ·cases e;exact .inr mem_cons_self
    ·exact .inl z
   ·exact .inr (mem_cons_of_mem _ z)
  ·rcases yj r _ x c h with z|z
   ·exact .inl z
   ·exact .inr (mem_cons_of_mem _ z)
def sO:Option NameKind->Bool
 |some .cell=>true
 |some .free=>true
 |_=>false
theorem FN {o:Option NameKind}(h:sO o=true):o=some .cell\/o=some .free:=by
 unfold sO at h
 split at h
 ·exact .inl rfl
 ·exact .inr rfl
 ·cases h
def sP (XN:aq)(e:Env)(sc:List (Str×NameKind)):List Nat->aq->Bool
 |j::ix,x::N=>(match XN[j]? with|some y=>y==x|none=>false)&&sO (e.kindOf x)&&sO (sc.lookup x)&&sP XN e sc ix N
 |_,_=>true
theorem FO {XN:aq}{e:Env}{sc:List (Str×NameKind)}:∀{ix:List Nat}{N:aq},sP XN e sc ix N=true->∀(i j:Nat)(x:Str),ix[i]?=some j->N[i]?=some x->XN[j]?=some x/\(e.kindOf x=some .cell\/e.kindOf x=some .free)/\(sc.lookup x=some .cell\/sc.lookup x=some .free)
 |[],_,_,i,j,x,h1,_=>by simp at h1
 |_::_,[],_,i,j,x,_,h2=>by simp at h2
 |a::ix,b::N,h,i,j,x,h1,h2=>by
  simp only[sP,Bool.and_eq_true] at h;obtain⟨⟨⟨q1,q2⟩,q3⟩,q4⟩:=h
  cases i with
  |zero=>
   cases h1;cases h2;refine⟨?_,FN q2,FN q3⟩
   split at q1
   ·rename_i y hy;rw[hy];rw[show y=b by simpa using q1]
   ·cases q1
  |succ i=>exact FO q4 i j x (by simpa using h1) (by simpa using h2)
theorem cS {X:Cx}{sc:Scope}{N:aq}{k:Nat}{ix:List Nat}(kind:sc.kind=.function:=by rfl)(names:∀ y∈sc.names,y.2=.local->sc.names.lookup y.1=some .local:=by decide +kernel)
  (FP:sN X.env.cells sc.names=true:=by rfl)(ra:∀ y∈sc.names,y.2=.cell->(y.1,NameKind.free)∉sc.names:=by decide +kernel)(len:N.length=k+ix.length:=by rfl)
  (rb:sP X.N X.env (relabel sc X.env).names ix (N.drop k)=true:=by rfl)
  (nc:∀ x∈N.drop k,(x,NameKind.cell)∉sc.names:=by decide +kernel):ib X sc (fD X.env sc.names []) N k ix where
 vS:=Nd (yi FP)
 kind:=kind
 names:=names
 sub:=λx c h=>vP sc.names [] (yi FP) (λ_ hp=>nomatch hp) (x,c) h
 has:=λx h=>vR (env:=X.env) sc.names [] x h
 fr:=λx c h=>(yj sc.names [] x c h).elim (λz=>nomatch z) id
 ra:=λx h=>ra (x,.cell) h rfl
 len:=len
 rb:=λi j x h1 h2=>by
  obtain⟨a,b,c⟩:=FO rb i j x h1 (by rw[getElem?_drop];exact h2);exact⟨a,b,c,nc x (mem_of_getElem? (i:=i) (by rw[getElem?_drop];exact h2))⟩
def FQ (ue:UE)(g:UG):US:=λE A=>ue A λx A1=>g x A1 E.nx
theorem eV {X:Cx}{K:Frag}{tg e:Expr}{ue:UE}{g:UG}{pos:Pos}(he:PE X e (aB K ue))(hg:PG X tg (jw K g))(hs:swapsWithSole [tg] e pos.line X.env=pure false:=by rfl)(hw:swappedStores [tg] e X.env=pure none:=by rfl)
  (h1:(assignEach [tg] X.env).map (·.2)=[assign tg X.env]:=by rfl):PS X (.Assign [tg] e pos) (b8 K (FQ ue g)):=(AZ he hg hs hw h1).mono λD σ H ⟨A,E,R,h,k⟩=>
 ⟨A,_,R,h,λx A1 v H1 p R1 S1 rv=>⟨x,A1,_,R1,rv,p,λA2 bE p2 R2 S2=>k.nx A2 bE H1 p2 R2 (S1.trans S2)⟩⟩
def FR (G G':G2)(ua ub uc:UE):UT:=λA Q=>ua A λx A1=>ub A1 λy A2=>A2.ae=A1.ae/\∃ z,G x y (.bl z)/\if z=true then uc A2 λw A3=>A3.ae=A2.ae/\∃ z',G' y w (.bl z')/\Q z' A3 else Q false A2
section
variable {X:Cx}{K:Frag}{a b c:Expr}{ua ub uc:UE}{pos:Pos}{r r':R2}{G G':G2}{op kX:CmpOp}
theorem QB (ho:bx X (compareOp op) r)(e8:bx X (compareOp kX) r')(br:dw K r G)(QC:dw K r' G')(ha:PE X a (az K ua))(hb:PE X b (az K ub))(hc:PE X c (az K uc))(hm:lastMarks [op,kX] [b,c]=false:=by with_unfolding_all rfl) :
  PT X (.Compare a [op,kX] [b,c] pos) (liftT K (FR G G' ua ub uc)):=(Lj ho e8 ha hb hc hm).mono λσ H Q ⟨A,P,R,h,c⟩=>
 ⟨A,_,R,h,λx A1 v H1 p1 R1 S1 q1=>⟨A1,_,R1,p1,λy A2 w H2 p2 R2 S2 q2=>by
  obtain⟨e,z,g,p⟩:=p2;refine br H2 A2 σ x y v w (.bl z) _ R2 (q1.step R1 S2 e) q2 g λv' H' s rv=>?_;cases rv;refine⟨z,rfl,?_⟩;have R3:=R2.same s;have S3:=S1.trans (S2.trans (ay.same A2 s))
  cases z with
  |false=>exact la ⟨false,rfl,c _ A2 H' p R3 S3⟩
  |true=>
   refine lg ⟨A2,_,R3,p,λt A3 u H4 p4 R4 S4 q4=>?_⟩;obtain⟨e4,z',g',p4⟩:=p4
   exact QC H4 A3 σ y t w u (.bl z') _ R4 ((q2.step R2 (ay.same A2 s) rfl).step R3 S4 e4) q4 g' λZw jy s' ir=>by
    cases ir
    exact⟨z',rfl,c z' A3 jy p4 (R4.same s') (S3.trans (S4.trans (ay.same A3 s')))⟩⟩⟩
end
def sQ:Nat->ag->PV
 |4,st=>.int st.b.nm
 |5,st=>.int st.b.pt
 |6,st=>.int st.b.z
 |_,_=>.non
def yk (i j:Nat):UE:=λA Q=>∃ st,A.S=some st/\A.ae[i]?=some (some (.val (.raw (.ref st.d))))/\Q (sQ j st) A
def iZ (j:Nat)(v:Int)(st:ag):ag:=match j with
 |4=>{ st with b:={ st.b with nm:=v } }
 |5=>{ st with b:={ st.b with pt:=v } }
 |_=>st
def ym (i j:Nat)(ue:UE):US:=λE A=>ue A λx A1=>∃ st v,A1.S=some st/\A1.ae[i]?=some (some (.val (.raw (.ref st.d))))/\x=.int v/\E.nx { A1 with S:=some (iZ j v st) }
section
variable {X:Cx}{K:Frag}{e:Expr}{ue:UE}{pos bz f6 cY:Pos}{k kk:Nat}
theorem m7 (hr:bO k X.A)(i j:Nat){x key:Str}(hj:4<=j)(Zx:j<=6)(hk:SK[j]?=some (.inr key))(hN:X.N[i]?=some x:=by rfl)(hv:di X.env.scope x:=by walk_at "v")(hd:(x==("__debug__":Str))=false:=by decide)(bJ:(x==("__classdict__":Str))=false:=by decide)
  (hs:qN (.Constant (.str key) kk f6):=by intro _ _;rfl):PE X (.Subscript (.Name x bz) (.Constant (.str key) kk f6) pos) (aB K (yk i j)):=(f7 (gB hr) (dY hN hv hd bJ) cR hs).mono λσ H Q ⟨A,P,R,h,c⟩=>by
 obtain⟨st,hS,hx,h⟩:=h;obtain⟨v,ev,rv⟩:=R.sl i _ hx;cases (show RV K (AN A) H (.raw (.ref st.d)) v from rv);obtain⟨t,l,w,e,_⟩:=(R.st st hS).2.1.ex
 have main:∀ z w',(SV st.a t l w st.b)[j]?=some w'->sQ j st=z->RV K (AN A) H z w'->∃ v,σ[i]?=some (some v)/\tC (.str key) σ H (λy H2=>∃ a v',v=.ref a/\fb H2 a y (some v')/\Q v' H2):=λz w' hw hz rz=>by
  subst hz;exact⟨_,ev,_,w',rfl,fM e hk hw,c _ A _ H h R (ay.refl A H) rz⟩
 have QD:j=4\/j=5\/j=6:=by omega
 rcases QD with rfl|rfl|rfl
 ·exact main _ _ rfl rfl (.int _)
 ·exact main _ _ rfl rfl (.int _)
 ·exact main _ _ rfl rfl (.int _)
theorem FT (hr:bO k X.A)(i j:Nat){x key:Str}(hj:j=4\/j=5)(hk:SK[j]?=some (.inr key))(he:PE X e (aB K ue))(hN:X.N[i]?=some x:=by rfl)(hv:di X.env.scope x:=by walk_at "v")(hd:(x==("__debug__":Str))=false:=by decide)(bJ:(x==("__classdict__":Str))=false:=by decide)
  (hs:swapsWith e (some (.Subscript (.Name x bz) (.Constant (.str key) kk f6) pos)) cY.line X.env=pure false:=by rfl):PS X (.Assign [.Subscript (.Name x bz) (.Constant (.str key) kk f6) pos] e cY) (b8 K (ym i j ue)):=(jW (gB hr) (dY hN hv hd bJ) cR he hs).mono λD σ H ⟨A,E,R,h,k⟩=>by
 refine⟨A,_,R,h,λx A1 v H1 p R1 S1 rv=>?_⟩;obtain⟨st,n,hS,hx,rfl,p⟩:=p;obtain⟨v',ev,ir⟩:=R1.sl i _ hx;cases (show RV K (AN A1) H1 (.raw (.ref st.d)) v' from ir);cases rv;obtain⟨b1,s0,h3⟩:=R1.st st hS;obtain⟨t,l,w,e,g1,g2,g3⟩:=s0.ex;have d4:iM H1 st.d (.str key) (.int n) (upd H1 st.d (.dK (SK.zip ((SV st.a t l w st.b).set j (.int n))))):=dput e rfl hk;have b4:cz st.d H1 (upd H1 st.d (.dK (SK.zip ((SV st.a t l w st.b).set j (.int n))))):=λc o h nc=>by rw[a7 nc];exact h
 have s4:cE (upd H1 st.d (.dK (SK.zip ((SV st.a t l w st.b).set j (.int n))))) st.d st.a st.n (iZ j n st).b:=by
  rcases hj with rfl|rfl
  ·exact⟨⟨t,l,w,bD,g1,g2,g3⟩,s0.vL rfl⟩
  ·exact⟨⟨t,l,w,bD,g1,g2,g3⟩,s0.vL rfl⟩
 have sp:(iZ j n st).d=st.d/\(iZ j n st).a=st.a/\(iZ j n st).n=st.n:=by rcases hj with rfl|rfl<;>exact⟨rfl,rfl,rfl⟩
 have QE:eI K (upd H1 st.d (.dK (SK.zip ((SV st.a t l w st.b).set j (.int n))))) (iZ j n st).a:=by
  rw[sp.2.1]
  exact h3.iR λo u ho=>by
   rw[a7 λz=>by rw[z,e] at ho;cases ho];exact ho
 obtain⟨R2,S2⟩:=Fb (st':=iZ j n st) R1 hS b4 sp.1 (by rw[sp.1,sp.2.1,sp.2.2];exact s4) QE;exact⟨_,ev,_,_,rfl,d4,k.nx _ σ _ p R2 (S1.trans S2)⟩
end
def FU:Tr:=λxs st P=>∃ m,xs=[.raw (.ref st.d),.int m]/\st.n<=100000/\0<m/\m<2 ^ 200/\∀ r:Int,0<=r->r<m->P (.int r) { st with n:=st.n+1 }
theorem QF {K:Frag}{vs:Zv}{H:Hp}{Q:VK}{E:XK}(h:spS K false FU vs H Q E):j5 K vs H Q E:=by
 obtain⟨B,xs,st,P,c_,hd,h1,h2,rv,⟨m,rfl,n1,m0,m1,p⟩,fin⟩:=h
 cases rv with
 |cons r1 r2=>
  cases r1
  cases r2 with
  |cons r3 r4=>
   cases r3;cases r4
   exact⟨st.d,st.a,st.n,st.b,m,rfl,h1,h2.Pk,n1,m0,m1,λr H' a1 a2 s b=>fin _ { st with n:=st.n+1 } _ H' (p r a1 a2) rfl s (by
    obtain⟨kvs,e⟩:=h1.dk
    exact h2.iR λo u h2=>b _ _ h2 (λz=>by rw[z,e] at h2;cases h2)) ⟨b,.int r⟩⟩
theorem fb.kR {H:Hp}{a:Addr}{kvs:bh}{k:Key}(e:Rd H a (.dK kvs)):fb H a (kV k) (dj kvs k):=.inl ⟨kvs,k,e,rfl,rfl⟩
def pk:PV->Option Key
 |.int i=>some (.inl i)
 |.str s=>some (.inr s)
 |_=>none
def kP:Key->PV
 |.inl i=>.int i
 |.inr s=>.str s
theorem QH (k:Key):pk (kP k)=some k:=by cases k<;>rfl
def bZ:aS->Key->Option PV
 |[],_=>none
 |(p,x)::r,k=>if pk p=some k then some x else bZ r k
def dP (kvs:aS)(k:Key)(v:PV):aS:=if (bZ kvs k).isSome then kvs.map (λkv=>if pk kv.1=some k then (kv.1,v) else kv) else kvs++[(kP k,v)]
section
variable {K:Frag}{N:Addr->Prop}{H:Hp}
theorem sR {p:PV}{k:Key}(r:RV K N H p (kV k)):pk p=some k:=by
 cases k with
 |inl i=>cases (show RV K N H p (.int i) from r);rfl
 |inr i=>cases (show RV K N H p (.str i) from r);rfl
theorem sS {p:PV}{v:V}{k:Key}(h:pk p=some k)(r:RV K N H p v):v=kV k:=by
 cases p<;>first|(cases h;done)|(cases h;cases r;rfl)
theorem QJ (k:Key):RV K N H (kP k) (kV k):=by
 cases k with
 |inl i=>exact .int i
 |inr i=>exact .str i
abbrev gg (kv:Key×V):V×V:=(kV kv.1,kv.2)
theorem pq:∀{kvs:aS}{av:bh},bQ K N H kvs (av.map gg)->∀ k,(∀ x,bZ kvs k=some x->∃ v,dj av k=some v/\RV K N H x v)/\(bZ kvs k=none->dj av k=none)
 |[],[],_,k=>⟨λx h=>(by cases h),λ_=>rfl⟩
 |[],_::_,h,_=>nomatch h
 |_::_,[],h,_=>nomatch h
 |(p,x)::kvs,kw::av,h,k=>by
  cases h with
  |cons r1 r2 r3=>
   have e:=sR r1;have ih:=pq r3 k;by_cases hk:kw.1=k
   ·have e':pk p=some k:=by rw[e,hk]
    unfold bZ;rw[if_pos e',oz hk];exact⟨λy hy=>(by cases hy;exact⟨_,rfl,r2⟩),λz=>by cases z⟩
   ·have e':¬ pk p=some k:=by rw[e];exact λz=>hk (Option.some.inj z)
    unfold bZ;rw[if_neg e',oA hk];exact ih
theorem FV {kvs:aS}{av:bh}(h:bQ K N H kvs (av.map gg))(k:Key):(bZ kvs k).isSome=(dj av k).isSome:=by
 cases e:bZ kvs k with
 |none=>rw[(pq h k).2 e];rfl
 |some x=>obtain⟨v,hv,_⟩:=(pq h k).1 x e;rw[hv];rfl
theorem bQ.app {kvs m8:aS}{vs FW:List (V×V)}(h:bQ K N H kvs vs)(g:bQ K N H m8 FW):bQ K N H (kvs++m8) (vs++FW):=by
 induction vs generalizing kvs with
 |nil=>cases h;exact g
 |cons v vs ih=>cases h with|cons h1 h2 h3=>exact .cons h1 h2 (ih h3)
theorem sT {kvs:aS}{av:bh}(h:bQ K N H kvs (av.map gg))(k:Key){x:PV}{v:V}(r:RV K N H x v):bQ K N H (dP kvs k x) ((putK av k v).map gg):=by
 unfold dP putK;rw[mq,FV h k]
 cases e:(dj av k).isSome with
 |false=>
  rw[if_neg Bool.false_ne_true,if_neg Bool.false_ne_true,map_append];exact h.app (.cons (QJ k) r .nil)
 |true=>
  rw[if_pos rfl,if_pos rfl];clear e
  have z:∀{kvs:aS}{av:bh},bQ K N H kvs (av.map gg)->bQ K N H (kvs.map λkv=>if pk kv.1=some k then (kv.1,x) else kv) ((av.map λkv=>if kv.1=k then (kv.1,v) else kv).map gg):=by
   intro kvs
   induction kvs with
   |nil=>intro av h;cases av with|nil=>exact .nil|cons _ _=>cases h
   |cons p kvs ih=>
    intro av h
    cases av with
    |nil=>cases h
    |cons kw av=>
     cases h with
     |cons r1 r2 r3=>
      have e:=sR r1;rw[map_cons,map_cons,map_cons];by_cases hk:kw.1=k
      ·rw[if_pos hk,if_pos (by show pk _=_;rw[e,hk])];exact .cons r1 r (ih r3)
      ·rw[if_neg hk,if_neg (by show ¬ pk _=_;rw[e];exact λz=>hk (Option.some.inj z))];exact .cons r1 r2 (ih r3)
  exact z h
end
section
variable {X:Cx}{K:Frag}{e:Expr}{ue:UE}{pos:Pos}
theorem FX:PE X (.Dict [] [] pos) (c3 K (uC (.ah []))):=LV.mono λσ H Q ⟨A,P,R,h,c⟩=>λp hp=>
 c _ A _ H _ h R (ay.refl A H) ⟨p,.ah [],rfl,rfl,hp,dJ hp _,[],bD,.nil⟩
end
theorem Rep.yn {K:Frag}{H:Hp}{σ:St}{A:AS}{i:Nat}(R:Rep K H σ A){a:Addr}{xs ys:aS}{vs:bh}(hi:A.ae[i]?=some (some (.own a (.ah xs))))(r:bQ K (AN A) H ys (vs.map gg)):Rep K (upd H a (.dK vs)) σ (put A i (.own a (.ah ys)))/\ay A H (put A i (.own a (.ah ys))) (upd H a (.dK vs)):=by
 obtain⟨v,ev,rfl,nb,us,ha,_⟩:=R.sl i _ hi
 have ow:∀ b,Own (put A i (.own a (.ah ys))).ae b->Own A.ae b:=by
  rintro b ⟨j,c,h⟩;rcases cF h with ⟨_,z⟩|⟨_,z⟩
  ·cases z;exact⟨i,_,hi⟩
  ·exact⟨j,c,z⟩
 have dm:∀ b,H b≠none->upd H a (.dK vs) b≠none:=λb h=>by
  by_cases e:b=a
  ·subst e;rw[bD];intro z;cases z
  ·rw[a7 e];exact h
 have S:ay A H (put A i (.own a (.ah ys))) (upd H a (.dK vs)):=⟨λb o h m=>by
  rw[a7 λe=>m (.inl ⟨i,_,by rw[e];exact hi⟩)];exact h,λb z=>.inl (ow b z),rfl,dm,rfl⟩
 have kp:=R.keep S;refine⟨⟨?_,?_,λb h=>dm b (R.c_ b h),?_,?_,?_⟩,S⟩
 ·rw[R.len];exact(length_set ..).symm
 ·intro j t h;rcases cF h with ⟨rfl,z⟩|⟨n,z⟩
  ·cases z;exact⟨_,ev,rfl,nb,vs,bD,r.imp kp⟩
  ·obtain⟨w,e1,q⟩:=R.sl j t z;refine⟨w,e1,?_⟩
   cases t with
   |val x=>exact q.imp kp
   |own b c=>
    have ly:b≠a:=λe=>n (by subst e;exact R.nd _ _ _ _ _ hi z);exact⟨q.1,q.2.1,q.2.2.imp kp λo h=>by rw[a7 ly];exact h⟩
   |peek b c=>
    have ly:b≠a:=λe=>nb (by subst e;exact q.2.1);exact⟨q.1,q.2.1,q.2.2.imp kp λo h=>by rw[a7 ly];exact h⟩
 ·intro i1 j1 b c1 c2 h1 h2;rcases cF h1 with ⟨e1,z1⟩|⟨_,z1⟩
  ·cases z1;rcases cF h2 with ⟨e2,z2⟩|⟨_,z2⟩
   ·exact e1.symm.trans e2
   ·exact e1.symm.trans (R.nd _ _ _ _ _ hi z2)
  ·rcases cF h2 with ⟨e2,z2⟩|⟨_,z2⟩
   ·cases z2;exact(R.nd _ _ _ _ _ z1 hi).trans e2
   ·exact R.nd _ _ _ _ _ z1 z2
 ·intro st h;obtain⟨h1,h2,h3⟩:=R.st st h;have nd:a≠st.d:=λe=>nb (by rw[e];exact h1);refine⟨h1,h2.upd nd (λps z=>by rw[ha] at z;cases z),?_⟩
  exact h3.iR λo u h3=>by
   rw[a7 λe=>by rw[e,ha] at h3;cases h3];exact h3
 ·intro i1 b c1 st h1 h2;rcases cF h1 with ⟨_,z⟩|⟨_,z1⟩
  ·cases z
  ·exact R.pk _ _ _ _ z1 h2
def yo (i:Nat)(ue uk:UE):US:=λE A=>ue A λv A1=>match A1.ae[i]? with
 |some (some (.own a (.ah _)))=>uk A1 λkp A2=>∃ k xs,pk kp=some k/\A2.ae[i]?=some (some (.own a (.ah xs)))/\xs.length<=1000000/\E.nx (put A2 i (.own a (.ah (dP xs k v))))
 |_=>False
theorem bQ.len {K:Frag}{N:Addr->Prop}{H:Hp}{xs:aS}{vs:List (V×V)}(h:bQ K N H xs vs):xs.length=vs.length:=by
 induction vs generalizing xs with
 |nil=>cases h;rfl
 |cons v vs ih=>cases h with|cons h1 h2 h3=>rw[length_cons,length_cons,ih h3]
section
variable {X:Cx}{K:Frag}{e ke de fe:Expr}{ue uk ud uf:UE}{pos bz cY apos bg:Pos}{k:Nat}
theorem yq (hr:bO k X.A)(i:Nat){x:Str}(he:PE X e (aB K ue))(hk:PE X ke (aB K uk))(hN:X.N[i]?=some x:=by rfl)(hv:di X.env.scope x:=by walk_at "v")(hd:(x==("__debug__":Str))=false:=by decide)(bJ:(x==("__classdict__":Str))=false:=by decide)
  (hs:swapsWith e (some (.Subscript (.Name x bz) ke pos)) cY.line X.env=pure false:=by rfl):PS X (.Assign [.Subscript (.Name x bz) ke pos] e cY) (b8 K (yo i ue uk)):=(jW (gB hr) (dY hN hv hd bJ) hk he hs).mono λD σ H ⟨A,E,R,h,k⟩=>by
 refine⟨A,_,R,h,λv A1 w H1 p R1 S1 rv=>?_⟩
 split at p
 ·rename_i a ys hx;obtain⟨_,ev,rfl,nb,vs,h1,h2⟩:=R1.sl i _ hx;refine⟨_,ev,A1,_,R1,p,λkp A2 kw H2 p2 R2 S2 rk=>?_⟩;obtain⟨key,xs,ji,hA,aF,p2⟩:=p2;obtain⟨_,_,_,_,us,g1,g2⟩:=R2.sl i _ hA;cases sS ji rk;have ll:=g2.len;rw[length_map] at ll;obtain⟨R3,S3⟩:=R2.yn hA (sT g2 key (rv.imp (R1.keep S2)));exact⟨a,_,rfl,iM.k g1 (Nat.lt_of_le_of_lt (by omega:us.length<=1000000) (by decide)),k.nx _ σ _ p2 R3 (S1.trans (S2.trans S3))⟩
 ·exact p.elim
def pw:G2
 |.ah kvs,kp,z=>∃ k,pk kp=some k/\bZ kvs k=some z
 |_,_,_=>False
def FY (neg:Bool):G2
 |kp,.ah kvs,z=>∃ k,pk kp=some k/\z=.bl (neg^^(bZ kvs k).isSome)
 |_,_,_=>False
theorem FZ {u:UE}{t:TE}(h:∀ σ H Q,aB K u σ H Q->t σ H Q):∀ σ H Q,liftT K (uB u) σ H Q->tB t σ H Q:=λσ H Q ⟨A,P,R,hu,c⟩=>h σ H _ ⟨A,_,R,hu,λx A1 v H1 p R1 S1 rv=>by
 obtain⟨b,rfl,p⟩:=p;cases rv
 exact⟨b,rfl,c b A1 H1 p R1 S1⟩⟩
end
def yr (K:Frag)(H:Hp)(kv:Key×V)(v:V):Prop:=∃ a,v=.ref a/\bq K H a [kV kv.1,kv.2]
theorem F0 {X:Cx}(hc:X.calm=true):cx X (.type "dict") (λxs H Q=>∃(l:Addr)(vs:Zv)(kvs:bh),xs=[.ref l]/\H l=some (.lst vs)/\Rl (yr X.K H) kvs vs/\kvs.length<=1000/\∀ p,H p=none->Q (.ref p) (upd H p (.dK (rR kvs)))):=by
 intro pins s σ H xs us Q I r h;obtain⟨l,vs,kvs,rfl,hl,rl,aF,q⟩:=h;obtain⟨u,rfl,ru⟩:=vals1 r;cases ru;obtain⟨z,its,n,rv,hlen,e⟩:=I.iO hl;have len:=rl.len
 have all:∀{kvs:bh}{vs:Zv}{its:aC},Rl (yr X.K H) kvs vs->Vals vs its->∃ ws:List (Key×Value),KV kvs ws/\∀(i:Nat)(v:Value),its[i]?=some v->∃ p o m key x k,v=.ref p/\s.heap.get? p=some o/\o.cls=.type "tuple"/\o.data=.seq #[key,x] m/\ws[i]?=some (k,x)/\(bM X.prog X.w).is k key=true:=by
  intro kvs vs its h
  induction h generalizing its with
  |nil=>
   intro g;cases g;exact⟨[],.nil,λi v e=>by simp at e⟩
  |@cons kv v kvs vs hp _ ih=>
   intro g
   cases g with
   |cons g1 g2=>
    obtain⟨ws,kw,hw⟩:=ih g2;obtain⟨a,rfl,ha⟩:=hp;cases g1;obtain⟨Zy,rj,⟨o,ho,yt,m,hd⟩,_⟩:=I.tuple ha;obtain⟨key,x,rfl,rk,rx⟩:=vals2 rj;refine⟨(kv.1,x)::ws,.cons ⟨rfl,rx⟩ kw,λi v e=>?_⟩
    cases i with
    |zero=>
     cases e;exact⟨a,o,m,key,x,kv.1,rfl,ho,yt,hd,rfl,jV rk⟩
    |succ i=>exact hw i v (by simpa using e)
 obtain⟨ws,kw,hw⟩:=all rl rv;refine O8 (kvs:=ws) (I.ok.hd hc) e (by omega) (by rw[<- kw.length];omega) hw λh' tk dd kp=>?_;have big:=I.big;refine⟨.ref _,_,I.laid (o:=.dK (rR kvs)) (t':=tk) kp (ar _) (oB (bU (O9 kvs) (Nat.le_of_lt (jo aF))) (beq_eq_false_iff_ne.mpr (Ne.symm (bI big))) (O_ kw) dd),rfl,q _ I.fresh⟩
def lO:ai->Option (List (Key×PV))
 |[]=>some []
 |.tup [p,x]::r=>match pk p,lO r with
  |some k,some l=>some ((k,x)::l)
  |_,_=>none
 |_=>none
def dictOf (l:List (Key×PV)):aS:=l.foldl (λacc kv=>dP acc kv.1 kv.2) []
def sU:G1
 |.lst xs,z=>∃ l,lO xs=some l/\l.length<=1000/\z=.ah (dictOf l)
 |_,_=>False
theorem yu {K:Frag}{N:Addr->Prop}{H:Hp}:∀{xs:ai}{vs:Zv}{l:List (Key×PV)},aI K N H xs vs->lO xs=some l->∃ kvs:bh,Rl (yr K H) kvs vs/\l.length=kvs.length/\∀(acc:aS)(acc':bh),bQ K N H acc (acc'.map gg)->bQ K N H (l.foldl (λacc kv=>dP acc kv.1 kv.2) acc) ((kvs.foldl (λacc kv=>putK acc kv.1 kv.2) acc').map gg)
 |_,_,_,.nil,h=>by cases h;exact⟨[],.nil,rfl,λ_ _ h=>h⟩
 |x::xs,_,l,.cons r rs,h=>by
  unfold lO at h
  split at h
  ·rename_i heq;cases heq
  ·rename_i p y r' heq;cases heq
   split at h
   ·rename_i k l' hk hl;cases h;obtain⟨kvs,h1,h2,h3⟩:=yu rs hl
    cases r with
    |tup g1 g2=>
     cases g2 with
     |cons q1 q2=>
      cases q2 with
      |cons q3 q4=>
       cases q4;rename_i v1 v2;cases sS hk q1;exact⟨(k,v2)::kvs,.cons ⟨_,rfl,g1⟩ h1,by simp [h2],λacc acc' ha=>h3 _ _ (sT ha k q3)⟩
   ·cases h
  ·cases h
section
variable {X:Cx}{K:Frag}{e:Expr}{ue:UE}{p pos:Pos}
theorem F2 (hK:X.K=K)(hc:X.calm=true)(hm:X.mg "dict"=none)(he:PE X e (az K ue))(hg:Gl X "dict":=by rfl)(hs:starEach [e] X.env=[(false,eval e X.env)]:=by rfl):PE X (.Call (.Name "dict" p) [e] [] pos) (c3 K (u1 sU ue)):=by
 subst hK;refine FJ (F0 hc) ?_ PyProof.Rows.boot_dict hm he hg (hs:=hs);intro H A σ x v z Q R q1 g c;cases x<;>first|exact g.elim|skip
 obtain⟨l,hl,aF,rfl⟩:=g;obtain⟨a,vs,rfl,h1,h2⟩:=q1.lst R;obtain⟨kvs,g1,g2,g3⟩:=yu h2 hl;exact⟨a,vs,kvs,rfl,h1,g1,by omega,λq hq=>c _ _ ⟨q,.ah _,rfl,rfl,hq,dJ hq _,_,bD,g3 [] [] .nil⟩⟩
end
def F3:R2:=λx y H Q=>∃ a v,x=.ref a/\fb H a y (some v)/\Q v H
theorem QK {X:Cx}(hu:X.A.units+1<cLine):hZ X F3:=by
 intro value slice pins s σ H x y v u Q I rx ry h hs;obtain⟨a,z,rfl,g,q⟩:=h;cases rx;have hT:=Bo I g;unfold subscriptTail;refine af ?_;rw[getitemInPython_of_ne hT.not_modules];refine af (wpAny_specialOf hT PySem.F.slot_dict_getitem.lookup ?_)
 have fin:wpAny (model X.prog X.w) X.A (subscripted slice false (.ref a) u) (λr my=>wpAny (model X.prog X.w) X.A (letTemporaryGo value (.ref a) r >>= λ_=>pure r) (EP X pins σ Q) X.xe my) X.xe s:=by
  rw[hs];exact wpAny_operating (Bm hu I g ry λw' s3 I3 dI=>af (wpAny_letTemporaryGo (ao ⟨z,H,I3,dI,q⟩)))
 first
  |exact ao (af fin)
  |exact af (ao (af fin))
  |exact af fin
def F4 (neg:Bool):R2:=λy x H Q=>∃ a o,x=.ref a/\fb H a y o/\Q (.bl (neg^^o.isSome)) H
theorem F5 {X:Cx}(hu:X.A.units+1<cLine):bx X (compareOp .In) (F4 false):=by
 intro pins s σ H y x u v Q I ry rx h;obtain⟨a,o,rfl,g,q⟩:=h;cases rx;exact LO hu I g ry λs3 I3=>⟨.bl o.isSome,H,I3,rfl,by simpa using q⟩
def i2 (x y z:PV):Prop:=mY x y z\/pw x y z
def i3 (neg:Bool)(x y z:PV):Prop:=x_ neg x y z\/FY neg x y z
section
variable {X:Cx}{K:Frag}{a b:Expr}{ua ub:UE}{pos:Pos}{k:Nat}
theorem QL:dw K (λx y H Q=>vv K x y H Q\/F3 x y H Q) i2:=by
 intro H A σ x y v w z Q R q1 q2 g c;rcases g with g|g
 ·exact .inl (Qh H A σ x y v w z Q R q1 q2 g c)
 ·cases x<;>first|exact g.elim|skip
  obtain⟨key,ji,hl⟩:=g;obtain⟨a,av,rfl,h1,h2⟩:=q1.ah R;have rk:RV K (AN A) H y w:=q2.rv λc z=>by subst z;cases c<;>cases ji
  cases sS ji rk;obtain⟨u,hu,ru⟩:=(pq h2 key).1 z hl;refine .inr ⟨a,u,rfl,?_,c _ H (aR.refl H) ru⟩;rw[<- hu];exact fb.kR h1
theorem F6 {neg:Bool}:dw K (λx y H Q=>sE K neg x y H Q\/F4 neg x y H Q) (i3 neg):=by
 intro H A σ y x w v z Q R q1 q2 g c;rcases g with g|g
 ·exact .inl (P9 H A σ y x w v z Q R q1 q2 g c)
 ·cases x<;>first|(cases y<;>exact g.elim)|skip
  rename_i kvs;have g':∃ k,pk y=some k/\z=.bl (neg^^(bZ kvs k).isSome):=by cases y<;>exact g
  obtain⟨key,ji,rfl⟩:=g';obtain⟨a,av,rfl,h1,h2⟩:=q2.ah R;have rk:RV K (AN A) H y w:=q1.rv λc z=>by subst z;cases c<;>cases ji
  cases sS ji rk;refine .inr ⟨a,_,rfl,fb.kR (k:=key) h1,?_⟩;rw[<- FV h2 key];exact c _ H (aR.refl H) (.bl _)
theorem ax (hK:X.K=K)(hr:bO k X.A)(ha:PE X a (az K ua))(hb:PE X b (az K ub))(hs:vq b:=by intro _ _;rfl):PE X (.Subscript a b pos) (aB K (u2 i2 ua ub)):=by
 subst hK;exact Pp (Mh.or (QK (gB hr))) QL ha hb hs
theorem QM (hK:X.K=K)(hr:bO k X.A)(ha:PE X a (az K ua))(hb:PE X b (az K ub))(hm:behindInMarks .In b=false:=by with_unfolding_all rfl):PE X (.Compare a [.In] [b] pos) (aB K (u2 (i3 false) ua ub)):=rV ((Fq hK hr).or (F5 (gB hr))) F6 ha hb hm
theorem m9 (hK:X.K=K)(hr:bO k X.A)(ha:PE X a (az K ua))(hb:PE X b (az K ub))(hm:behindInMarks .In b=false:=by with_unfolding_all rfl):PT X (.Compare a [.In] [b] pos) (liftT K (ip (i3 false) ua ub)):=j9 ((Fq hK hr).or (F5 (gB hr))) F6 ha hb hm
end
section
variable {i:Int}{s u:Str}{xs ys:ai}{z x:PV}{kvs:aS}{n:Bool}
theorem QN:i2 (.tup xs) (.int i) z=(cy xs i=some z):=by simp [i2,mY,pw]
theorem QP:i2 (.lst xs) (.int i) z=(cy xs i=some z):=by simp [i2,mY,pw]
theorem QQ:i2 (.str s) (.int i) z=(s.length<=100000/\∃ c,cy s.cps.toList i=some c/\z=.str ⟨#[c]⟩):=by simp [i2,mY,pw]
theorem QR:i2 (.ah kvs) x z=(∃ k,pk x=some k/\bZ kvs k=some z):=by cases x<;>simp [i2,mY,pw]
theorem F7:i3 n x (.tup ys) z=((∀ c:OC,x≠c.pv)/\(∃ n,n<=80/\Dp n x/\∀ p∈ys,Dp n p)/\z=.bl (n^^pin x ys)):=by cases x<;>simp [i3,x_,FY]
end
def jC:ai->Option (aq)
 |[]=>some []
 |.str s::r=>(jC r).map (s::·)
 |_=>none
theorem F8 (ys:aq):jC (ys.map PV.str)=some ys:=by
 induction ys with
 |nil=>rfl
 |cons y ys ih=>show(jC (ys.map PV.str)).map (y::·)=_;rw[ih];rfl
theorem sV {K:Frag}{N:Addr->Prop}{H:Hp}:∀{xs:ai}{vs:Zv}{ys:aq},aI K N H xs vs->jC xs=some ys->vs=ys.map V.str
 |_,_,_,.nil,h=>by cases h;rfl
 |x::xs,_,ys,.cons r rs,h=>by
  cases x<;>first|(cases h;done)|skip
  rename_i b;obtain⟨cs,hc,rfl⟩:=Option.map_eq_some_iff.mp (show(jC xs).map (b::·)=some ys from h);cases r;rw[sV rs hc];rfl
theorem yv {K:Frag}{N:Addr->Prop}{H:Hp}(ys:aq):aI K N H (ys.map PV.str) (ys.map V.str):=by
 induction ys with
 |nil=>exact .nil
 |cons y ys ih=>exact .cons (.str y) ih
def strsOf:PV->Option (aq)
 |.lst xs=>jC xs
 |.tup xs=>jC xs
 |_=>none
theorem QS {X:Cx}(hc:X.calm=true):cx X (.type "set") (λxs H Q=>∃ p ys,xs=[.ref p]/\(aO X.K H p (ys.map V.str)\/bq X.K H p (ys.map V.str))/\ys.length<=1000/\∀ l,H l=none->Q (.ref l) (upd H l (.ext (mI X.prog X.w l (c9 ys))))):=by
 intro pins s σ H xs us Q I r h;obtain⟨p,ys,rfl,hq,aF,q⟩:=h;rcases hq with hq|hq
 ·exact OR hc pins s σ H _ us Q I r ⟨p,ys,rfl,hq,aF,q⟩
 ·obtain⟨u,rfl,ru⟩:=vals1 r;cases ru;obtain⟨its,rv,pl,_⟩:=I.tuple hq;refine O0 (I.ok.hd hc) pl (ys:=ys) (by simpa using qZ rv) (by unfold scanBound;omega) λh' tk es ep t T k=>?_;obtain⟨o,ho,_⟩:=T.get;exact⟨.ref _,_,I.laid (o:=.ext (mI X.prog X.w s.heap.objs.size (c9 ys))) (t':=tk) (λb u e=>k b u (a0 e) e) (ar _) ⟨⟨es,ep,t,T⟩,⟨o,ho⟩,λh1 h2 ⟨es,ep,t,T⟩ kk=>⟨es,ep,t,T.moved kk⟩⟩,rfl,q _ I.fresh⟩
def m_ (x:Str):aq->aq
 |[]=>[x]
 |y::r=>if y.cps.toList<x.cps.toList then y::m_ x r else x::y::r
def b9:aq->aq
 |[]=>[]
 |x::r=>m_ x (b9 r)
theorem yw (x:Str):∀ l:aq,(m_ x l).Perm (x::l)
 |[]=>.refl _
 |y::r=>by
  unfold m_
  split
  ·exact((yw x r).cons y).trans (.swap x y r)
  ·exact .refl _
theorem d8:∀ l:aq,(b9 l).Perm l
 |[]=>.refl _
 |x::r=>(yw x (b9 r)).trans ((d8 r).cons x)
theorem F9 (x:Str):∀ l:aq,l.Pairwise fN->(m_ x l).Pairwise fN
 |[],_=>pairwise_singleton _ _
 |y::r,h=>by
  obtain⟨h1,h2⟩:=pairwise_cons.mp h;unfold m_
  split
  ·rename_i eE;refine pairwise_cons.mpr ⟨λz hz=>?_,F9 x r h2⟩;rcases mem_cons.mp ((yw x r).mem_iff.mp hz) with rfl|hz
   ·exact λz=>List.lt_asymm eE z
   ·exact h1 z hz
  ·rename_i eE;refine pairwise_cons.mpr ⟨λz hz=>?_,h⟩;rcases mem_cons.mp hz with rfl|hz
   ·exact eE
   ·exact Eb eE (h1 z hz)
theorem QU (l:aq):js l (b9 l):=by
 refine⟨d8 l,?_⟩
 induction l with
 |nil=>exact Pairwise.nil
 |cons x r ih=>exact F9 x _ ih
theorem js.eq {zs ss:aq}(h:js zs ss):ss=b9 zs:=h.one (QU zs) (.refl _)
def QW:G1:=λx z=>∃ ys,strsOf x=some ys/\(c9 ys).length<64/\ys.length<=1000/\z=.lst ((b9 (c9 ys)).map PV.str)
def QX:G1
 |.lst xs,z=>∃ ys,jC xs=some ys/\ys.length<64/\z=.lst ((b9 ys).map PV.str)
 |_,_=>False
section
variable {X:Cx}{K:Frag}{e:Expr}{ue:UE}{p pos p1 QY:Pos}
theorem QZ {H:Hp}{σ:St}{A:AS}{x:PV}{v:V}{ys:aq}(R:Rep K H σ A)(q:bV K A H x v)(h:strsOf x=some ys):∃ a,v=.ref a/\(aO K H a (ys.map V.str)\/bq K H a (ys.map V.str)):=by
 cases x<;>first|(cases h;done)|skip
 ·obtain⟨a,vs,rfl,h1,h2⟩:=q.tup;exact⟨a,rfl,.inr (by rw[<- sV h2 h];exact h1)⟩
 ·obtain⟨a,vs,rfl,h1,h2⟩:=q.lst R;exact⟨a,rfl,.inl (by rw[<- sV h2 h];exact aO.of h1)⟩
theorem Q0 (hK:X.K=K)(hc:X.calm=true)(hm:X.mg "sorted"=none)(a_:X.mg "set"=none)(he:PE X e (az K ue))(hg:Gl X "sorted":=by rfl)(Q1:Gl X "set":=by rfl)(hs:starEach [e] X.env=[(false,eval e X.env)]:=by rfl)(hs2:starEach [.Call (.Name "set" p) [e] [] pos] X.env=[(false,eval (.Call (.Name "set" p) [e] [] pos) X.env)]:=by rfl) :
  PE X (.Call (.Name "sorted" p1) [.Call (.Name "set" p) [e] [] pos] [] QY) (c3 K (u1 QW ue)):=by
 subst hK;refine(hU (OS hc) hg hm PyProof.Rows.boot_sorted (b7 (u_ (QS hc) Q1 a_ PyProof.Rows.boot_set (b7 he cN hs) (by decide) (by decide) hs) cN hs2) (by decide) (by decide) hs2).mono λσ H Q ⟨A,P,R,h,c⟩=>⟨A,_,R,h,λx A1 v H1 p R1 S1 q1=>?_⟩;obtain⟨z,⟨ys,hy,aF,Q2,rfl⟩,p⟩:=p;obtain⟨a,rfl,ha⟩:=QZ R1 q1 hy;refine⟨a,ys,rfl,ha,Q2,λl hl=>⟨l,c9 ys,rfl,bD,aF,λl2 ss oI pz=>?_⟩⟩;have s:=dJ hl (.ext (mI X.prog X.w l (c9 ys)));cases pz.eq;exact c _ A1 _ _ _ p (R1.same s) (S1.trans (ay.same A1 s)) ⟨l2,.lst _,rfl,rfl,oI,dJ oI _,_,bD,yv _⟩
theorem Q3 (hK:X.K=K)(hm:X.mg "sorted"=none)(he:PE X e (az K ue))(hg:Gl X "sorted":=by rfl)(hs:starEach [e] X.env=[(false,eval e X.env)]:=by rfl):PE X (.Call (.Name "sorted" p) [e] [] pos) (c3 K (u1 QX ue)):=by
 subst hK;refine FH OV ?_ PyProof.Rows.boot_sorted hm he hg (hs:=hs);intro H A σ x v z Q R q1 g c;cases x<;>first|exact g.elim|skip
 obtain⟨ys,hy,aF,rfl⟩:=g;obtain⟨a,vs,rfl,h1,h2⟩:=q1.lst R;refine⟨a,ys,rfl,by rw[<- sV h2 hy];exact aO.of h1,aF,λl ss hl pz=>?_⟩;cases pz.eq;exact c _ _ ⟨l,.lst _,rfl,rfl,hl,dJ hl _,_,bD,yv _⟩
end
structure Df (K:Frag)(mg:aZ)(x:Str)(st:Stmt):Prop where
 ex:∃ f fd,fB K x x st f fd/\mg x=some (.ref f)
section
variable {P:Program}{w:World}{K:Frag}{mg:aZ}{base:Heap}
theorem Kn.mono {j k:Nat}{x:Str}{sp:Sp}(h:Kn P w K mg base j x sp)(l:j<=k):Kn P w K mg base k x sp:=by
 obtain⟨f,fd,ps,F,r⟩:=h.ex;exact⟨f,fd,ps,F.mono l,r⟩
theorem Df.dN {x:Str}{st:Stmt}{N ps:aq}{k:Nat}{fr:Bool}{G:Rel}(D:Df K mg x st)(S:bw N ps (aW st))
  (bd:∀(kV doc pm:Value)(an:Option Addr)(aE ct:Value)(us:aC),us.length=ps.length->bindArgs (PySem.W.fnOf x x (iP st) (fA st) (aW st) .none kV doc pm an aE ct) ⟨us,[]⟩=pure (ps.zip us))
  (len:∀ xs r,G xs r->xs.length=ps.length)(lN:ps.length<=N.length)
  (hJ:∀(f:Addr)(aE:Value)(A:Around)(outer:List Env)(s:Shared)(H:Hp)(E:XK),bO k (A.deeper (envOfC x (aW st) s.heap.objs.size f aE)) ->
   ∃ u,cv (iL dq P w K mg base N x (aW st) f aE A outer s H E).jL (fA st) (b8 K u)/\∀ B xs r,G xs r->u (cV fr r) (entry B N xs none)):Kn P w K mg base (k+1) x (aX K fr G):=by
 obtain⟨f,fd,F,hm⟩:=D.ex;exact⟨f,fd,ps,F.dN S len lN (hJ f),F.binds bd,F.kp,hm⟩
theorem Df.eK {x:Str}{st:Stmt}{N ps:aq}{k:Nat}{fr:Bool}{T:Tr}(D:Df K mg x st)(S:bw N ps (aW st))
  (bd:∀(kV doc pm:Value)(an:Option Addr)(aE ct:Value)(us:aC),us.length=ps.length->bindArgs (PySem.W.fnOf x x (iP st) (fA st) (aW st) .none kV doc pm an aE ct) ⟨us,[]⟩=pure (ps.zip us))
  (len:∀ xs st P,T xs st P->xs.length=ps.length)(lN:ps.length<=N.length)
  (hJ:∀(f:Addr)(aE:Value)(A:Around)(outer:List Env)(s:Shared)(H:Hp)(E:XK),bO k (A.deeper (envOfC x (aW st) s.heap.objs.size f aE)) ->
   ∃ u,cv (iL dq P w K mg base N x (aW st) f aE A outer s H E).jL (fA st) (b8 K u)/\∀ B xs st P,T xs st P->u (dM fr P) (entry B N xs (some st))):Kn P w K mg base (k+1) x (spS K fr T):=by
 obtain⟨f,fd,F,hm⟩:=D.ex;exact⟨f,fd,ps,F.eK S len lN (hJ f),F.binds bd,F.kp,hm⟩
end
def bX (P:PV->PV->Prop):Rel:=λxs r=>∃ x0,xs=[x0]/\P x0 r
def cB (P:PV->PV->PV->Prop):Rel:=λxs r=>∃ x0 x1,xs=[x0,x1]/\P x0 x1 r
def dz (P:PV->PV->PV->PV->Prop):Rel:=λxs r=>∃ x0 x1 x2,xs=[x0,x1,x2]/\P x0 x1 x2 r
theorem bX.len {P:PV->PV->Prop}{xs:ai}{r:PV}(h:bX P xs r):xs.length=1:=by obtain⟨_,rfl,_⟩:=h;rfl
theorem cB.len {P:PV->PV->PV->Prop}{xs:ai}{r:PV}(h:cB P xs r):xs.length=2:=by obtain⟨_,_,rfl,_⟩:=h;rfl
theorem dz.len {P:PV->PV->PV->PV->Prop}{xs:ai}{r:PV}(h:dz P xs r):xs.length=3:=by obtain⟨_,_,_,rfl,_⟩:=h;rfl
abbrev eL:=ag->(PV->ag->Prop)->Prop
def gL (T:eL):Tr:=λxs st P=>xs=[.raw (.ref st.d)]/\T st P
def bP (T:PV->eL):Tr:=λxs st P=>∃ x1,xs=[.raw (.ref st.d),x1]/\T x1 st P
def cZ (T:PV->PV->eL):Tr:=λxs st P=>∃ x1 x2,xs=[.raw (.ref st.d),x1,x2]/\T x1 x2 st P
def c0 (T:PV->PV->PV->eL):Tr:=λxs st P=>∃ x1 x2 x3,xs=[.raw (.ref st.d),x1,x2,x3]/\T x1 x2 x3 st P
theorem gL.len {T:eL}{xs:ai}{st:ag}{P:PV->ag->Prop}(h:gL T xs st P):xs.length=1:=by obtain⟨rfl,_⟩:=h;rfl
theorem bP.len {T:PV->eL}{xs:ai}{st:ag}{P:PV->ag->Prop}(h:bP T xs st P):xs.length=2:=by obtain⟨_,rfl,_⟩:=h;rfl
theorem cZ.len {T:PV->PV->eL}{xs:ai}{st:ag}{P:PV->ag->Prop}(h:cZ T xs st P):xs.length=3:=by obtain⟨_,_,rfl,_⟩:=h;rfl
theorem c0.len {T:PV->PV->PV->eL}{xs:ai}{st:ag}{P:PV->ag->Prop}(h:c0 T xs st P):xs.length=4:=by obtain⟨_,_,_,rfl,_⟩:=h;rfl
def eM:PV->eL:=λx1 st P=>∃ m,x1=.int m/\st.n<=100000/\0<m/\m<2 ^ 200/\∀ r:Int,0<=r->r<m->P (.int r) { st with n:=st.n+1 }
theorem take2 {xs:ai}{st:ag}{P:PV->ag->Prop}(h:bP eM xs st P):FU xs st P:=by
 obtain⟨_,rfl,m,rfl,h⟩:=h;exact⟨m,rfl,h⟩
section
variable {i j:Int}{a b:Bool}{s u:Str}{xs ys:ai}{z x:PV}{P:ai->Prop}{C:Int->Int->Prop}{f:Int->Int->PV}{l h:Option Int}{kvs:aS}{n:Bool}
theorem Q4:mR (.int i) (.int j) z=(z=.int (i+j)):=rfl
theorem Q5:mR (.str s) (.str u) z=(s.length+u.length<=100000/\z=.str (s++u)):=rfl
theorem Q6:mR (.tup xs) (.tup ys) z=(xs.length+ys.length<=100000/\z=.tup (xs++ys)):=rfl
theorem Q7:mR (.lst xs) (.lst ys) z=(xs.length+ys.length<=100000/\z=.lst (xs++ys)):=rfl
theorem Q8:xO (.lst xs) (.lst ys) z=(xs.length+ys.length<=100000/\z=.lst (xs++ys)):=rfl
theorem Q9:gI C f (.int i) (.int j) z=(C i j/\z=f i j):=rfl
theorem Q_:kh f (.int i) (.int j) z=(z=f i j):=rfl
theorem Rf:sJ (.tup xs) z=(z=.int xs.length):=rfl
theorem Rg:sJ (.lst xs) z=(z=.int xs.length):=rfl
theorem Rh:FC (.tup xs) l h z=(z=.tup (cH xs l h)):=rfl
theorem Ri:FD (.lst xs) l h z=(z=.lst (cH xs l h)):=rfl
theorem Rj:yg (.lst xs) z=(z=.tup xs):=rfl
theorem Rk:sF (.int i) (.int j) z=(z=.bl (decide (i<j))):=rfl
theorem Rm:Fs (.int i) (.int j) z=(z=.bl (decide (i<=j))):=rfl
theorem Ro:sG .non .non z=(z=.bl true):=rfl
theorem Rp:sG (.tup xs) .non z=(z=.bl false):=rfl
theorem Rq:yc .non .non z=(z=.bl false):=rfl
theorem Rr:yh (.bl a) z=(z=.int (if a then 1 else 0)):=rfl
theorem Rt:sU (.lst xs) z=(∃ l,lO xs=some l/\l.length<=1000/\z=.ah (dictOf l)):=rfl
theorem Ru:rW (.bl a)=some a:=rfl
theorem Rv:rW (.lst xs)=some (!xs.isEmpty):=rfl
theorem Rw:lK .tuple (.tup xs)=some true:=rfl
theorem Rx:lK .list (.lst xs)=some true:=rfl
theorem Ry:lK .int (.int i)=some true:=rfl
theorem Rz:lK .bool (.int i)=some false:=rfl
theorem jD (n:Nat)(s:Str):Dp n (.str s):=⟨0,rfl,Nat.zero_le _⟩
theorem lP (n:Nat)(s:Int):Dp n (.int s):=⟨0,rfl,Nat.zero_le _⟩
theorem RA (n:Nat):Dp n .non:=⟨0,rfl,Nat.zero_le _⟩
theorem RB (s:Str):∀ c:OC,PV.str s≠c.pv:=by intro c;cases c<;>(intro z;cases z)
theorem RC (s:Int):∀ c:OC,PV.int s≠c.pv:=by intro c;cases c<;>(intro z;cases z)
end
section
variable {α:Type}{k:Nat}{ix:List Nat}{A1:AS}{g:UG}{t:UT}{ue:UE}{Q:PV->AS->Prop}
theorem pre_of {e:α->PV}{l:List α}{d r:ai}{x:PV}(h:l.map e=d++x::r):∃ d1 x1 r1,l=d1++x1::r1/\d=d1.map e/\x=e x1/\d1=l.take d.length:=by
 obtain⟨d1,r0,rfl,rfl,h2⟩:=map_eq_append_iff.mp h;obtain⟨x1,r1,rfl,rfl,rfl⟩:=map_eq_cons_iff.mp h2;exact⟨d1,x1,r1,rfl,rfl,rfl,by simp⟩
theorem ng (l:List α)(e F:α->PV)(aF:l.length<=1000000)(each:∀ B x,x∈l->∀ R:PV->AS->Prop,(∀ A4,Kp k ix A1.ae A4->A4.S=A1.S->R (F x) A4)->g (e x) ⟨B,df k ix A1.ae,A1.S⟩ λA2=>ue A2 R)(fin:Q (.lst (l.map F)) A1):kf k ix (l.map e) A1 g kc ue Q:=by
 refine⟨by rw[length_map];exact aF,λd ys S=>ys=(l.take d.length).map F/\S=A1.S,⟨by simp,rfl⟩,?_,?_⟩
 ·rintro B d x r ys S e' ⟨rfl,rfl⟩;obtain⟨d1,x1,r1,e1,rfl,rfl,e2⟩:=pre_of e'
  have e0:l.take (d1.map e++[e x1]).length=d1++[x1]:=by
   rw[e1,length_append,length_map,length_singleton,<- singleton_append,<- append_assoc,take_left' (by simp)]
  have e3:(l.take (d1.map e).length).map F++[F x1]=(l.take (d1.map e++[e x1]).length).map F:=by
   rw[e0,<- e2];simp
  have q:=each B x1 (by rw[e1];simp) (λy A4=>Kp k ix A1.ae A4/\(l.take (d1.map e).length).map F++[y]=(l.take (d1.map e++[e x1]).length).map F/\A4.S=A1.S) λA4 k1 s1=>⟨k1,e3,s1⟩
  have e4:(λA2=>ue A2 λy A4=>Kp k ix A1.ae A4/\(l.take (d1.map e).length).map F++[y]=(l.take (d1.map e++[e x1]).length).map F/\A4.S=A1.S)=λA2=>kc A2 λb A3=>if b=true then ue A3 λy A4=>Kp k ix A1.ae A4/\(l.take (d1.map e).length).map F++[y]=(l.take (d1.map e++[e x1]).length).map F/\A4.S=A1.S else Kp k ix A1.ae A3/\(l.take (d1.map e).length).map F=(l.take (d1.map e++[e x1]).length).map F/\A3.S=A1.S:=by
   funext A2
   unfold kc;dsimp only;rw[if_pos rfl]
  rw[e4] at q;exact q
 ·rintro ys S ⟨rfl,rfl⟩;rw[length_map,take_length];exact fin
theorem RD (l:List α)(e F:α->PV)(p:α->Bool)(aF:l.length<=1000000)(each:∀ B x,x∈l->∀(Rs:PV->AS->Prop)(Rn:cu),(∀ A4,p x=true->Kp k ix A1.ae A4->A4.S=A1.S->Rs (F x) A4)->(∀ A4,p x=false->Kp k ix A1.ae A4->A4.S=A1.S->Rn A4) ->
  g (e x) ⟨B,df k ix A1.ae,A1.S⟩ λA2=>t A2 λb A3=>if b=true then ue A3 Rs else Rn A3)(fin:Q (.lst ((l.filter p).map F)) A1):kf k ix (l.map e) A1 g t ue Q:=by
 refine⟨by rw[length_map];exact aF,λd ys S=>ys=((l.take d.length).filter p).map F/\S=A1.S,⟨by simp,rfl⟩,?_,?_⟩
 ·rintro B d x r ys S e' ⟨rfl,rfl⟩;obtain⟨d1,x1,r1,e1,rfl,rfl,e2⟩:=pre_of e'
  have e3:l.take (d1.map e++[e x1]).length=d1++[x1]:=by
   rw[e1,length_append,length_map,length_singleton,<- singleton_append,<- append_assoc,take_left' (by simp)]
  dsimp (config:={failIfUnchanged:=false}) only;rw[e3,<- e2];refine each B x1 (by rw[e1];simp) _ _ (λA4 h1 k1 s1=>⟨k1,?_,s1⟩) λA4 h1 k1 s1=>⟨k1,?_,s1⟩
  ·rw[filter_append,filter_cons,h1];simp
  ·rw[filter_append,filter_cons,h1];simp
 ·rintro ys S ⟨rfl,rfl⟩;rw[length_map,take_length];exact fin
theorem F_ (l:List α)(e:α->PV)(I:List α->ai->Option ag->Prop)(aF:l.length<=1000000)(i0:I [] [] A1.S)
  (each:∀ B d x r ys S,l=d++x::r->I d ys S->∀ R:PV->AS->Prop,(∀ y A4,Kp k ix A1.ae A4->I (d++[x]) (ys++[y]) A4.S->R y A4)->g (e x) ⟨B,df k ix A1.ae,S⟩ λA2=>ue A2 R)(fin:∀ ys S,I l ys S->Q (.lst ys) { A1 with S:=S }):kf k ix (l.map e) A1 g kc ue Q:=by
 refine⟨by rw[length_map];exact aF,λd ys S=>I (l.take d.length) ys S,by simpa using i0,?_,?_⟩
 ·rintro B d x r ys S e' hI;obtain⟨d1,x1,r1,e1,rfl,rfl,e2⟩:=pre_of e'
  have e3:l.take (d1.map e++[e x1]).length=d1++[x1]:=by
   rw[e1,length_append,length_map,length_singleton,<- singleton_append,<- append_assoc,take_left' (by simp)]
  rw[<- e2] at hI;dsimp (config:={failIfUnchanged:=false}) only;rw[e3];have q:=each B d1 x1 r1 ys S e1 hI (λy A4=>Kp k ix A1.ae A4/\I (d1++[x1]) (ys++[y]) A4.S) λy A4 k1 s1=>⟨k1,s1⟩
  have e4:(λA2=>ue A2 λy A4=>Kp k ix A1.ae A4/\I (d1++[x1]) (ys++[y]) A4.S)=λA2=>kc A2 λb A3=>if b=true then ue A3 λy A4=>Kp k ix A1.ae A4/\I (d1++[x1]) (ys++[y]) A4.S else Kp k ix A1.ae A3/\I (d1++[x1]) ys A3.S:=by
   funext A2
   unfold kc;dsimp only;rw[if_pos rfl]
  rw[e4] at q;exact q
 ·rintro ys S hI;rw[length_map,take_length] at hI;exact fin ys S hI
variable {C:cu}{ub:US}{E:gH}
theorem gh (l:List α)(e:α->PV)(I:List α->AS->Prop)(h0:I [] A1)(hC:∀ d A2,I d A2->C A2)
  (step:∀ d x r A2,l=d++x::r->I d A2->g (e x) A2 λA3=>ub { E with nx:=I (d++[x]),ct:=I (d++[x]),bk:=E.nx } A3)(fin:∀ A2,I l A2->E.nx A2):fF (l.map e) C A1 g ub E:=by
 refine⟨λd A=>I (l.take d.length) A,by simpa using h0,λd A2 h=>hC _ A2 h,?_,?_⟩
 ·rintro d x r A2 e' hI;obtain⟨d1,x1,r1,e1,rfl,rfl,e2⟩:=pre_of e'
  have e3:l.take (d1.map e++[e x1]).length=d1++[x1]:=by
   rw[e1,length_append,length_map,length_singleton,<- singleton_append,<- append_assoc,take_left' (by simp)]
  rw[<- e2] at hI;dsimp (config:={failIfUnchanged:=false}) only;rw[e3];exact step d1 x1 r1 A2 e1 hI
 ·intro A2 hI;rw[length_map,take_length] at hI;exact fin A2 hI
end
theorem lQ {n:Nat}{xs:ai}(h:∀ x∈xs,Dp n x):Dp (n+1) (.tup xs):=iw.mpr (dO.mpr h)
theorem iy {n:Nat}{xs:ai}(h:∀ x∈xs,Dp n x):Dp (n+1) (.lst xs):=jA.mpr (dO.mpr h)
theorem RE (s:Str)(l:aq):pin (.str s) (l.map PV.str)=l.contains s:=by
 unfold pin;rw[any_map,contains_eq_any_beq]
 congr 1
 funext y
 show(y==s)=(s==y);rw[Bool.eq_iff_iff,beq_iff_eq,beq_iff_eq];exact eq_comm
def b0 {α:Type}(P:α->Prop)(Q:α->AS->Prop)(A:AS):Prop:=∃ z,P z/\Q z A
section
variable {α:Type}{P:α->Prop}{Q:α->AS->Prop}{A:AS}{v:α}{p q p3:Prop}
theorem aj (v:α)(h:P v)(k:Q v A):b0 P Q A:=⟨v,h,k⟩
theorem RF:b0 (λz=>z=v) Q A=Q v A:=by simp [b0]
theorem RG:b0 (λz=>v=z) Q A=Q v A:=by simp [b0]
theorem RH:b0 (λz=>p/\z=v) Q A=(p/\Q v A):=by
 unfold b0;exact propext ⟨fun⟨_,⟨h,rfl⟩,k⟩=>⟨h,k⟩,fun⟨h,k⟩=>⟨_,⟨h,rfl⟩,k⟩⟩
theorem RI:b0 (λz=>p/\q/\p3/\z=v) Q A=(p/\q/\p3/\Q v A):=by
 unfold b0;exact propext ⟨fun⟨_,⟨h,h2,h3,rfl⟩,k⟩=>⟨h,h2,h3,k⟩,fun⟨h,h2,h3,k⟩=>⟨_,⟨h,h2,h3,rfl⟩,k⟩⟩
end
def d9 (c:Bool)(P Q:cu)(A:AS):Prop:=if c=true then P A else Q A
section
variable {c:Bool}{P Q:cu}{A:AS}
theorem yx:d9 true P Q A=P A:=by simp [d9]
theorem yy:d9 false P Q A=Q A:=by simp [d9]
theorem RJ:d9 (!c) P Q A=d9 c Q P A:=by cases c<;>simp [d9]
theorem cI (h:c=true)(k:P A):d9 c P Q A:=by rw[h,yx];exact k
theorem bp (h:c=false)(k:Q A):d9 c P Q A:=by rw[h,yy];exact k
theorem bL (h:c=true->P A)(k:c=false->Q A):d9 c P Q A:=by
 cases c
 ·rw[yy];exact k rfl
 ·rw[yx];exact h rfl
end
def sW (s:Option (Option Sl))(i:Nat)(A:AS)(Q:PV->AS->Prop):Prop:=match s with
 |some (some (.val x))=>Q x A
 |some (some (.own _ (.lst xs)))=>Q (.lst xs) (bB A i (.lst xs))
 |some (some (.own _ (.ah xs)))=>Q (.ah xs) (bB A i (.ah xs))
 |_=>False
def yz (s:Option (Option Sl))(A:AS)(Q:PV->AS->Prop):Prop:=match s with
 |some (some (.val x))=>Q x A
 |some (some (.own _ (.lst xs)))=>Q (.lst xs) A
 |some (some (.own _ (.ah xs)))=>Q (.ah xs) A
 |some (some (.peek _ (.lst xs)))=>Q (.lst xs) A
 |some (some (.peek _ (.ah xs)))=>Q (.ah xs) A
 |_=>False
def pA (nx:cu)(r:PV)(A:AS)(i:Nat):Prop:=∃ c:OC,r=c.pv/\∀ p,nx (put A i (.own p c))
def F' (s:Option (Option Sl))(i:Nat)(A:AS)(Q:PV->AS->Prop):Prop:=match s with
 |some (some (.own _ (.lst xs)))=>Q (.lst xs) (forget A i)
 |some (some (.own _ (.ah xs)))=>Q (.ah xs) (forget A i)
 |_=>False
def fR (s:Option (Option Sl))(F:Addr->ai->AS->Prop)(A:AS):Prop:=match s with
 |some (some (.own a (.lst xs)))=>F a xs A
 |_=>False
def pB (s:Option (Option Sl))(F:Addr->aS->AS->Prop)(A:AS):Prop:=match s with
 |some (some (.own a (.ah xs)))=>F a xs A
 |_=>False
def pD (x:PV)(Q:ai->(cu)->AS->Prop)(A:AS):Prop:=xE x λxs=>Q xs (λ_=>True) A
def yA (x:PV)(Q:Option Int->AS->Prop)(A:AS):Prop:=∃ i,x=.int i/\Q (some i) A
def yB (x:PV)(Q:PV->AS->Prop)(A:AS):Prop:=∃ xs,x=.lst xs/\Q (.lst xs.reverse) A
def sX (x:PV)(Q:ai->AS->Prop)(A:AS):Prop:=∃ ys,(x=.lst ys\/x=.tup ys)/\Q ys A
def nh (x:PV)(Q:Int->AS->Prop)(A:AS):Prop:=∃ i,x=.int i/\Q i A
def lR (T:Tr)(xs:ai)(Q:PV->AS->Prop)(A:AS):Prop:=∃ st,A.S=some st/\T xs st λr st'=>Q r { A with S:=some st' }
def ni (T:eL)(st:ag)(Q:PV->AS->Prop)(B:Addr->Prop)(ae:cL):Prop:=T st λr st'=>Q r ⟨B,ae,some st'⟩
def yC (m:Int)(st:ag)(Q:PV->AS->Prop)(B:Addr->Prop)(ae:cL):Prop:=st.n<=100000/\0<m/\m<2 ^ 200/\∀ r:Int,0<=r->r<m->Q (.int r) ⟨B,ae,some { st with n:=st.n+1 }⟩
def pE (P:PV->ag->Prop)(r:PV)(A:AS):Prop:=∃ st,A.S=some st/\P r st
section
variable {B:Addr->Prop}{ae:cL}{S:Option ag}{E:gH}{u w:US}{t t2:UT}{ue fj Ga:UE}{ua:UA}{i j k n:Nat}{QV:PV->AS->Prop}{QT:Bool->AS->Prop}{QA:ai->AS->Prop}{QG:cu}
 {QI:ai->(cu)->AS->Prop}{QO:Option Int->AS->Prop}{G G':G2}{g1:G1}{ug:UG}{sY:lz}{ui:UI}{uo Ge:UO}{A:AS}{x y:PV}{xs:ai}{a:Addr}{oc:OC}{ix:List Nat}{st:ag}{nx:cu}{kvs:aS}{R:Rel}{T:Tr}{m:Int}
theorem RK:EH E ⟨B,ae,S⟩=E.nx ⟨B,ae,S⟩:=rfl
theorem RL:EI u w E ⟨B,ae,S⟩=u { E with nx:=λA1=>w E A1 } ⟨B,ae,S⟩:=rfl
theorem RM:EJ t u w E ⟨B,ae,S⟩=t ⟨B,ae,S⟩ λk A1=>d9 k (u E) (w E) A1:=rfl
theorem RN:xy i ue E ⟨B,ae,S⟩=ue ⟨B,ae,S⟩ λr A1=>E.nx (put A1 i (.val r)):=rfl
theorem RO:xA i ue E ⟨B,ae,S⟩=ue ⟨B,ae,S⟩ λr A1=>pA E.nx r A1 i:=rfl
theorem RP:EK ue E ⟨B,ae,S⟩=ue ⟨B,ae,S⟩ λ_ A1=>E.nx A1:=rfl
theorem RQ:EL ue E ⟨B,ae,S⟩=ue ⟨B,ae,S⟩ λr A1=>E.rt r A1:=rfl
theorem RS:EM ue E ⟨B,ae,S⟩=ue ⟨B,ae,S⟩ λr A1=>E.rf r A1:=rfl
theorem RT:xB i E ⟨B,ae,S⟩=F' ae[i]? i ⟨B,ae,S⟩ E.rf:=rfl
theorem RU {s:Sl}:put ⟨B,ae,S⟩ i s=⟨B,ae.set i (some s),S⟩:=rfl
theorem RW:bB ⟨B,ae,S⟩ i oc=⟨B,ae.set i (some (.val oc.pv)),S⟩:=rfl
theorem RX:OC.pv (.lst xs)=.lst xs:=rfl
theorem RY:OC.pv (.ah kvs)=.ah kvs:=rfl
theorem RZ:xq i ⟨B,ae,S⟩ QV=sW ae[i]? i ⟨B,ae,S⟩ QV:=rfl
theorem R5:sW (some (some (.val x))) i A QV=QV x A:=rfl
theorem R6:sW (some (some (.own a (.lst xs)))) i A QV=QV (.lst xs) (bB A i (.lst xs)):=rfl
theorem R7:sW (some (some (.own a (.ah kvs)))) i A QV=QV (.ah kvs) (bB A i (.ah kvs)):=rfl
theorem R8:xr i ⟨B,ae,S⟩ QV=yz ae[i]? ⟨B,ae,S⟩ QV:=rfl
theorem R9:yz (some (some (.val x))) A QV=QV x A:=rfl
theorem R_:yz (some (some (.own a (.lst xs)))) A QV=QV (.lst xs) A:=rfl
theorem Sd:uC x ⟨B,ae,S⟩ QV=QV x ⟨B,ae,S⟩:=rfl
theorem Se:Et ⟨B,ae,S⟩ QA=QA [] ⟨B,ae,S⟩:=rfl
theorem Sf:Eu ue ua ⟨B,ae,S⟩ QA=ue ⟨B,ae,S⟩ λx A1=>ua A1 λxs A2=>QA (x::xs) A2:=rfl
theorem Sg:Ew ua ⟨B,ae,S⟩ QV=ua ⟨B,ae,S⟩ λxs A1=>xs.length<=1000/\QV (.tup xs) A1:=rfl
theorem Si:Ex ua ⟨B,ae,S⟩ QV=ua ⟨B,ae,S⟩ λxs A1=>xs.length<=1000/\QV (.lst xs) A1:=rfl
theorem Sj:u2 G ue fj ⟨B,ae,S⟩ QV=ue ⟨B,ae,S⟩ λx A1=>fj A1 λy A2=>A2.ae=A1.ae/\b0 (λz=>G x y z) QV A2:=rfl
theorem Sm:ip G ue fj ⟨B,ae,S⟩ QT=ue ⟨B,ae,S⟩ λx A1=>fj A1 λy A2=>A2.ae=A1.ae/\b0 (λz=>G x y (.bl z)) QT A2:=rfl
theorem Sn:Ez t t2 ⟨B,ae,S⟩ QT=t ⟨B,ae,S⟩ λc A1=>d9 c (λA=>t2 A QT) (λA=>QT false A) A1:=rfl
theorem So:EA t t2 ⟨B,ae,S⟩ QT=t ⟨B,ae,S⟩ λc A1=>d9 c (λA=>QT true A) (λA=>t2 A QT) A1:=rfl
theorem Sq:EB t ⟨B,ae,S⟩ QT=t ⟨B,ae,S⟩ λc A1=>QT (!c) A1:=rfl
theorem Sr:uB ue ⟨B,ae,S⟩ QT=ue ⟨B,ae,S⟩ λx A1=>b0 (λc=>x=.bl c) QT A1:=rfl
theorem Ss:EC ue fj ⟨B,ae,S⟩ QV=ue ⟨B,ae,S⟩ λx A1=>b0 (λc=>x=.bl c) (λc A=>d9 c (λA=>fj A QV) (λA=>QV (.bl false) A) A) A1:=rfl
theorem Su:ED ue ⟨B,ae,S⟩ QV=ue ⟨B,ae,S⟩ λx A1=>b0 (λc=>x=.bl c) (λc A=>QV (.bl (!c)) A) A1:=rfl
theorem Sv:EE t ue fj ⟨B,ae,S⟩ QV=t ⟨B,ae,S⟩ λc A1=>d9 c (λA=>ue A QV) (λA=>fj A QV) A1:=rfl
theorem Sw:EF ue ⟨B,ae,S⟩ QT=ue ⟨B,ae,S⟩ λx A1=>b0 (λc=>rW x=some c) QT A1:=rfl
theorem Sz {ty:Ty}:FK ty ue ⟨B,ae,S⟩ QV=ue ⟨B,ae,S⟩ λx A1=>b0 (λc=>lK ty x=some c) (λc A=>QV (.bl c) A) A1:=rfl
theorem SA:u1 g1 ue ⟨B,ae,S⟩ QV=ue ⟨B,ae,S⟩ λx A1=>b0 (λz=>g1 x z) QV A1:=rfl
theorem SD:FQ ue ug E ⟨B,ae,S⟩=ue ⟨B,ae,S⟩ λx A1=>ug x A1 E.nx:=rfl
theorem SE:gN i x ⟨B,ae,S⟩ QG=QG (put ⟨B,ae,S⟩ i (.val x)):=rfl
theorem SF:gT n sY (.tup xs) ⟨B,ae,S⟩ QG=(xs.length=n/\sY xs ⟨B,ae,S⟩ QG):=by
 unfold gT;exact propext ⟨fun⟨_,e,h⟩=>by cases e;exact h,λh=>⟨_,rfl,h⟩⟩
theorem SG:xC [] ⟨B,ae,S⟩ QG=QG ⟨B,ae,S⟩:=by simp [xC]
theorem SH:xD ug sY (x::xs) ⟨B,ae,S⟩ QG=ug x ⟨B,ae,S⟩ λA1=>sY xs A1 QG:=by
 unfold xD;exact propext ⟨fun⟨_,_,e,h⟩=>by cases e;exact h,λh=>⟨_,_,rfl,h⟩⟩
theorem SI:ET ue ⟨B,ae,S⟩ QI=ue ⟨B,ae,S⟩ λx A1=>pD x QI A1:=rfl
theorem SJ:EU i ⟨B,ae,S⟩ QI=oZ ae[i]? i ⟨B,ae,S⟩ QI:=rfl
theorem SM:oZ (some (some (.val x))) i A QI=pD x QI A:=rfl
theorem SN:pD (.lst xs) QI A=QI xs (λ_=>True) A:=rfl
theorem SO:pD (.tup xs) QI A=QI xs (λ_=>True) A:=rfl
theorem SQ:oZ (some (some (.own a (.lst xs)))) i A QI=QI xs (λA2=>A2.ae[i]?=some (some (.own a (.lst xs)))) A:=rfl
theorem SR {F:Int->AS->Prop}:nh (.int m) F A=F m A:=by
 unfold nh;exact propext ⟨fun⟨_,e,h⟩=>by cases e;exact h,λh=>⟨_,rfl,h⟩⟩
theorem SS:EV ue ⟨B,ae,S⟩ QI=ue ⟨B,ae,S⟩ λx A1=>nh x (λn A=>n<=1000000000 /\ -1000000000<=n/\QI ((range n.toNat).map fun(k:Nat)=>PV.int k) (λ_=>True) A) A1:=rfl
theorem SU:E4 ui ug u E ⟨B,ae,S⟩=ui ⟨B,ae,S⟩ λxs C A1=>fF xs C A1 ug u E:=rfl
theorem SW:r6 k ix ui ug t ue ⟨B,ae,S⟩ QV=ui ⟨B,ae,S⟩ λxs _ A1=>kf k ix xs A1 ug t ue QV:=rfl
theorem SX:xM R ua ⟨B,ae,S⟩ QV=ua ⟨B,ae,S⟩ λxs A1=>b0 (λr=>R xs r) QV A1:=rfl
theorem SY:E_ T ua ⟨B,ae,S⟩ QV=ua ⟨B,ae,S⟩ λxs A1=>lR T xs QV A1:=rfl
theorem S5:yk i j ⟨B,ae,some st⟩ QV=(ae[i]?=some (some (.val (.raw (.ref st.d))))/\QV (sQ j st) ⟨B,ae,some st⟩):=by
 unfold yk;exact propext ⟨fun⟨_,e,h⟩=>by cases e;exact h,λh=>⟨_,rfl,h⟩⟩
def sZ (i j:Nat)(nx:cu)(v:Int)(A:AS):Prop:=∃ st,A.S=some st/\A.ae[i]?=some (some (.val (.raw (.ref st.d))))/\nx { A with S:=some (iZ j v st) }
theorem S6 {v:Int}:sZ i j nx v ⟨B,ae,some st⟩=(ae[i]?=some (some (.val (.raw (.ref st.d))))/\nx ⟨B,ae,some (iZ j v st)⟩):=by
 unfold sZ;exact propext ⟨fun⟨_,e,h⟩=>by cases e;exact h,λh=>⟨_,rfl,h⟩⟩
theorem S7:ym i j ue E ⟨B,ae,S⟩=ue ⟨B,ae,S⟩ λx A1=>nh x (λv A=>sZ i j E.nx v A) A1:=by
 unfold ym
 congr 1;funext x A1
 unfold nh sZ;exact propext ⟨fun⟨m,n,a,b,c,d⟩=>⟨n,c,m,a,b,d⟩,fun⟨n,c,m,a,b,d⟩=>⟨m,n,a,b,c,d⟩⟩
theorem S8 {F:Addr->ai->AS->Prop}:fR (some (some (.own a (.lst xs)))) F A=F a xs A:=rfl
theorem S9 {F:Addr->aS->AS->Prop}:pB (some (some (.own a (.ah kvs)))) F A=F a kvs A:=rfl
theorem S_:ph i ue ⟨B,ae,S⟩ QV=fR ae[i]? (λa _ A=>ue A λr A1=>b0 (λxs=>A1.ae[i]?=some (some (.own a (.lst xs)))) (λxs A=>xs.length<=1000000/\QV .non (put A i (.own a (.lst (xs++[r]))))) A1) ⟨B,ae,S⟩:=by
 first
 |(unfold ph fR;rfl)
 |(unfold ph fR;dsimp only;generalize ae[i]?=s;rcases s with _|_|s<;>first|rfl|(cases s<;>first|rfl|(rename_i c;cases c<;>rfl)))
theorem S':pj i ⟨B,ae,S⟩ QV=fR ae[i]? (λa xs A=>∃ ys y,xs=ys++[y]/\QV y (put A i (.own a (.lst ys)))) ⟨B,ae,S⟩:=by
 first
 |(unfold pj fR;rfl)
 |(unfold pj fR;dsimp only;generalize ae[i]?=s;rcases s with _|_|s<;>first|rfl|(cases s<;>first|rfl|(rename_i c;cases c<;>rfl)))
theorem Ta:sL i ue ⟨B,ae,S⟩ QV=fR ae[i]? (λa _ A=>ue A λr A1=>b0 (λxs=>A1.ae[i]?=some (some (.own a (.lst xs)))) (λxs A=>sX r (λys A=>xs.length+ys.length<=1000000/\QV .non (put A i (.own a (.lst (xs++ys))))) A) A1) ⟨B,ae,S⟩:=by
 unfold sL fR sX b0;dsimp only;generalize ae[i]?=s;rcases s with _|_|s<;>first|rfl|(cases s<;>first|rfl|skip)
 rename_i c;cases c<;>first|rfl|skip
 refine congrArg (ue ⟨B,ae,S⟩) (funext λr=>funext λA1=>?_);exact propext ⟨fun⟨xs,ys,h1,h2,h3⟩=>⟨xs,h1,ys,h2,h3⟩,fun⟨xs,h1,ys,h2,h3⟩=>⟨xs,ys,h1,h2,h3⟩⟩
theorem Tb:yo i ue fj E ⟨B,ae,S⟩=ue ⟨B,ae,S⟩ λv A1=>pB A1.ae[i]? (λa _ A=>fj A λkp A2=>b0 (λxs=>A2.ae[i]?=some (some (.own a (.ah xs)))) (λxs A=>b0 (λk=>pk kp=some k) (λk A=>xs.length<=1000000/\E.nx (put A i (.own a (.ah (dP xs k v))))) A) A2) A1:=by
 unfold yo pB b0;congr 1;funext v A1;dsimp only;generalize A1.ae[i]?=s;rcases s with _|_|s<;>first|rfl|(cases s<;>first|rfl|skip)
 rename_i c;cases c<;>first|rfl|skip
 refine congrArg (fj A1) (funext λr=>funext λA2=>?_);exact propext ⟨fun⟨k,xs,h1,h2,h3⟩=>⟨xs,h2,k,h1,h3⟩,fun⟨xs,h2,k,h1,h3⟩=>⟨k,xs,h1,h2,h3⟩⟩
theorem Tc:pA nx (.lst xs) A i=∀ p,nx (put A i (.own p (.lst xs))):=by
 unfold pA;refine propext ⟨fun⟨c,e,h⟩=>?_,λh=>⟨.lst xs,rfl,h⟩⟩
 cases c with
 |lst ys=>cases e;exact h
 |ah _=>cases e
 |ins _ _ _=>cases e
 |cO _=>cases e
theorem Td:pA nx (.ah kvs) A i=∀ p,nx (put A i (.own p (.ah kvs))):=by
 unfold pA;refine propext ⟨fun⟨c,e,h⟩=>?_,λh=>⟨.ah kvs,rfl,h⟩⟩
 cases c with
 |ah ys=>cases e;exact h
 |lst _=>cases e
 |ins _ _ _=>cases e
 |cO _=>cases e
theorem Te:F' (some (some (.own a (.lst xs)))) i A QV=QV (.lst xs) (forget A i):=rfl
theorem Tf:Fz ⟨B,ae,S⟩ QO=QO none ⟨B,ae,S⟩:=rfl
theorem Tg:FA ue ⟨B,ae,S⟩ QO=ue ⟨B,ae,S⟩ λx A1=>yA x QO A1:=rfl
theorem Th:yA (.int m) QO A=QO (some m) A:=by
 unfold yA;exact propext ⟨fun⟨_,e,h⟩=>by cases e;exact h,λh=>⟨_,rfl,h⟩⟩
theorem Ti {g:PV->Option Int->Option Int->PV->Prop}:ye g ue uo Ge ⟨B,ae,S⟩ QV=ue ⟨B,ae,S⟩ λx A1=>uo A1 λl A2=>Ge A2 λh A3=>A3.ae=A1.ae/\b0 (λz=>g x l h z) QV A3:=rfl
theorem Tj:FF ue ⟨B,ae,S⟩ QV=ue ⟨B,ae,S⟩ λx A1=>yB x QV A1:=rfl
theorem Tn:yB (.lst xs) QV A=QV (.lst xs.reverse) A:=by
 unfold yB;exact propext ⟨fun⟨_,e,h⟩=>by cases e;exact h,λh=>⟨_,rfl,h⟩⟩
theorem To {F:ai->AS->Prop}:sX (.lst xs) F A=F xs A:=by
 unfold sX;exact propext ⟨fun⟨_,e,h⟩=>by rcases e with e|e<;>cases e;exact h,λh=>⟨_,.inl rfl,h⟩⟩
theorem Tp:FL ue ⟨B,ae,S⟩ QV=ue ⟨B,ae,S⟩ λx A1=>nh x (λi A=>QV (.int (-i)) A) A1:=rfl
theorem Tq:FR G G' ue fj Ga ⟨B,ae,S⟩ QT=ue ⟨B,ae,S⟩ λx A1=>fj A1 λy A2=>A2.ae=A1.ae/\b0 (λz=>G x y (.bl z)) (λz A=>d9 z (λA=>Ga A λw A3=>A3.ae=A.ae/\b0 (λz'=>G' y w (.bl z')) QT A3) (λA=>QT false A) A) A2:=rfl
theorem Ts {r:PV}:cV false r=⟨λ_=>r=.non,λr' _=>r'=r,λ_ _=>False,λ_=>False,λ_=>False⟩:=by simp [cV]
theorem Tt {r:PV}:cV true r=⟨λ_=>False,λ_ _=>False,λr' _=>r'=r,λ_=>False,λ_=>False⟩:=by simp [cV]
theorem Tu {P:PV->ag->Prop}:dM false P=⟨λA=>pE P .non A,λr A=>pE P r A,λ_ _=>False,λ_=>False,λ_=>False⟩:=by simp [dM,pE]
theorem Tv {P:PV->ag->Prop}:pE P x ⟨B,ae,some st⟩=P x st:=by
 unfold pE;exact propext ⟨fun⟨_,e,h⟩=>by cases e;exact h,λh=>⟨_,rfl,h⟩⟩
theorem Tw:ni (eM (.int m)) st QV B ae=yC m st QV B ae:=by
 unfold ni eM yC;exact propext ⟨fun⟨_,e,h⟩=>by cases e;exact h,λh=>⟨_,rfl,h⟩⟩
end
section
variable {P1:PV->PV->Prop}{P2:PV->PV->PV->Prop}{P3:PV->PV->PV->PV->Prop}{P4:PV->PV->PV->PV->PV->Prop}{a b c d r:PV}{st:ag}{Q:PV->ag->Prop}{T1:eL}{T2:PV->eL}{T3:PV->PV->eL}{T4:PV->PV->PV->eL}{α:Type}{l:List α}{x y z w v:α}
theorem Tx:bX P1 [a] r=P1 a r:=by simp [bX]
theorem Tz:cB P2 [a,b] r=P2 a b r:=by
 unfold cB;exact propext ⟨fun⟨_,_,e,h⟩=>by cases e;exact h,λh=>⟨_,_,rfl,h⟩⟩
theorem TB:dz P3 [a,b,c] r=P3 a b c r:=by
 unfold dz;exact propext ⟨fun⟨_,_,_,e,h⟩=>by cases e;exact h,λh=>⟨_,_,_,rfl,h⟩⟩
end
section
variable {α:Type}{l:List α}{x y u v w:α}
theorem i4 {i:Int}(h0:0<=i)(e:l[i.toNat]?=some x):cy l i=some x:=by
 have hl:i.toNat<l.length:=(c6 e).1;unfold cy iN;rw[if_pos h0,if_pos (by omega)];exact e
theorem Gf:cy (x::l) 0=some x:=i4 (by decide) rfl
theorem Gg:cy (x::y::l) 1=some y:=i4 (by decide) rfl
theorem TC:cy (x::y::u::l) 2=some u:=i4 (by decide) rfl
theorem TF:cy (x::y::u::v::l) 3=some v:=i4 (by decide) rfl
end
section
variable {n:Bool}{s t:Str}{i j:Int}{z:PV}{l:aq}
theorem TH:fP n (.str s) (.str t) z=(z=.bl (n^^(s==t))):=by
 unfold fP;exact propext ⟨λh=>h.2,λh=>⟨⟨0,by decide,jD _ _,jD _ _⟩,h⟩⟩
theorem TJ:fP n (.int i) (.int j) z=(z=.bl (n^^(i==j))):=by
 unfold fP;exact propext ⟨λh=>h.2,λh=>⟨⟨0,by decide,lP _ _,lP _ _⟩,h⟩⟩
theorem TK (k:Nat){l:aq}:∀ p∈l.map PV.str,Dp k p:=λp hp=>by obtain⟨q,_,rfl⟩:=mem_map.mp hp;exact jD _ _
theorem Gh:i3 n (.str s) (.tup (l.map PV.str)) z=(z=.bl (n^^l.contains s)):=by
 rw[F7,RE];exact propext ⟨λh=>h.2.2,λh=>⟨RB s,⟨0,by decide,jD _ _,TK 0⟩,h⟩⟩
end
theorem nj {p x:PV}{r:aS}{k:Key}:bZ ((p,x)::r) k=if pk p=some k then some x else bZ r k:=rfl
theorem Gj {kvs:aS}{k:Key}{v:PV}(k':Key):bZ (dP kvs k v) k'=if k=k' then some v else bZ kvs k':=by
 have app:∀(l:aS),bZ (l++[(kP k,v)]) k'=match bZ l k' with|some x=>some x|none=>if k=k' then some v else none:=by
  intro l
  induction l with
  |nil=>simp [bZ,QH]
  |cons a l ih=>
   obtain⟨p,x⟩:=a;rw[cons_append,nj,nj];by_cases h:pk p=some k'
   ·rw[if_pos h,if_pos h]
   ·rw[if_neg h,if_neg h,ih]
 have upd:∀(l:aS),bZ (l.map λkv=>if pk kv.1=some k then (kv.1,v) else kv) k'=if k=k' then (if (bZ l k).isSome then some v else none) else bZ l k':=by
  intro l
  induction l with
  |nil=>simp [bZ]
  |cons a l ih=>
   obtain⟨p,x⟩:=a;rw[map_cons,nj,nj];by_cases h:pk p=some k
   ·rw[if_pos h,nj];by_cases e:k=k'
    ·subst e;simp [h]
    ·have h':¬ pk p=some k':=by rw[h];exact λz=>e (Option.some.inj z)
     rw[if_neg e,if_neg h',if_neg h',ih,if_neg e]
   ·rw[if_neg h,nj];by_cases e:k=k'
    ·subst e;rw[if_pos rfl,if_neg h,if_neg h,ih,if_pos rfl]
    ·rw[if_neg e,ih,if_neg e]
 unfold dP;by_cases hs:(bZ kvs k).isSome=true
 ·rw[if_pos hs,upd,if_pos hs]
 ·rw[if_neg hs,app];by_cases e:k=k'
  ·subst e
   cases h:bZ kvs k with
   |none=>rfl
   |some z=>rw[h] at hs;exact absurd rfl hs
  ·simp only[if_neg e];cases bZ kvs k'<;>rfl
theorem yD {α:Type}{k:Nat}{ix:List Nat}{A1:AS}{g:UG}{t:UT}{ue:UE}{Q:PV->AS->Prop}(l:List α)(e F:α->PV)(p:α->Bool)(aF:l.length<=1000000)(each:∀ B x,x∈l->∀(Rs:PV->AS->Prop)(Rn:cu),(∀ A4,p x=true->Kp k ix A1.ae A4->A4.S=A1.S->Rs (F x) A4)->(∀ A4,p x=false->Kp k ix A1.ae A4->A4.S=A1.S->Rn A4) ->
  g (e x) ⟨B,df k ix A1.ae,A1.S⟩ λA2=>t A2 λb A3=>d9 b (λA=>ue A Rs) Rn A3)(fin:Q (.lst ((l.filter p).map F)) A1):kf k ix (l.map e) A1 g t ue Q:=RD l e F p aF each fin
theorem TL {s:Str}:pk (.str s)=some (.inr s):=rfl
section
variable {d p:Addr}{n:Nat}{b:Bs}{Q:PV->AS->Prop}{B:Addr->Prop}{ae:cL}{T1:eL}{T2:PV->eL}{T3:PV->PV->eL}{T4:PV->PV->PV->eL}{x y z:PV}{m:Int}
theorem s_ {T:Tr}{xs:ai}{st:ag}:lR T xs Q ⟨B,ae,some st⟩=T xs st λr st'=>Q r ⟨B,ae,some st'⟩:=by
 unfold lR;exact propext ⟨fun⟨_,e,h⟩=>by cases e;exact h,λh=>⟨_,rfl,h⟩⟩
theorem TM:lR (gL T1) [.raw (.ref d)] Q ⟨B,ae,some ⟨d,p,n,b⟩⟩=ni T1 ⟨d,p,n,b⟩ Q B ae:=by
 rw[s_];exact propext ⟨fun⟨_,h⟩=>h,λh=>⟨rfl,h⟩⟩
theorem TN:lR (bP T2) [.raw (.ref d),x] Q ⟨B,ae,some ⟨d,p,n,b⟩⟩=ni (T2 x) ⟨d,p,n,b⟩ Q B ae:=by
 rw[s_];exact propext ⟨fun⟨_,e,h⟩=>by cases e;exact h,λh=>⟨_,rfl,h⟩⟩
theorem TQ:lR (cZ T3) [.raw (.ref d),x,y] Q ⟨B,ae,some ⟨d,p,n,b⟩⟩=ni (T3 x y) ⟨d,p,n,b⟩ Q B ae:=by
 rw[s_];exact propext ⟨fun⟨_,_,e,h⟩=>by cases e;exact h,λh=>⟨_,_,rfl,h⟩⟩
theorem TR:lR (c0 T4) [.raw (.ref d),x,y,z] Q ⟨B,ae,some ⟨d,p,n,b⟩⟩=ni (T4 x y z) ⟨d,p,n,b⟩ Q B ae:=by
 rw[s_];exact propext ⟨fun⟨_,_,_,e,h⟩=>by cases e;exact h,λh=>⟨_,_,_,rfl,h⟩⟩
theorem draw (h1:n<=100000)(h2:0<m)(h3:m<2 ^ 200)(h4:∀ r:Int,0<=r->r<m->Q (.int r) ⟨B,ae,some ⟨d,p,n+1,b⟩⟩):yC m ⟨d,p,n,b⟩ Q B ae:=⟨h1,h2,h3,h4⟩
end
section
variable {A1:AS}{g:UG}{C:cu}{ub:US}{E:gH}{t:UT}{ue:UE}{k:Nat}{ix:List Nat}{Q:PV->AS->Prop}
theorem jE (N:Nat)(I:Nat->AS->Prop)(h0:I 0 A1)(hC:∀ i A2,I i A2->C A2)
  (step:∀ i A2,i<N->I i A2->g (.int i) A2 λA3=>ub { E with nx:=I (i+1),ct:=I (i+1),bk:=E.nx } A3)(fin:∀ A2,I N A2->E.nx A2):fF ((range N).map fun(k:Nat)=>PV.int k) C A1 g ub E:=by
 refine gh (range N) (fun(k:Nat)=>PV.int k) (λd A=>I d.length A) h0 (λd A h=>hC _ A h) ?_ ?_
 ·intro d x r A2 e hI
  have hx:x=d.length/\d.length<N:=by
   have h1:(range N)[d.length]?=some x:=by rw[e];simp
   obtain⟨h2,h3⟩:=c6 h1;rw[length_range] at h2;rw[getElem_range] at h3;exact⟨h3.symm,h2⟩
  rw[hx.1];rw[length_append,length_singleton];exact step _ A2 hx.2 hI
 ·intro A2 h;rw[length_range] at h;exact fin A2 h
theorem TU (N:Nat)(I:Nat->ai->Option ag->Prop)(aF:N<=1000000)(i0:I 0 [] A1.S)
  (each:∀ B i ys S,i<N->I i ys S->∀ R:PV->AS->Prop,(∀ y A4,Kp k ix A1.ae A4->I (i+1) (ys++[y]) A4.S->R y A4)->g (.int i) ⟨B,df k ix A1.ae,S⟩ λA2=>ue A2 R)(fin:∀ ys S,I N ys S->Q (.lst ys) { A1 with S:=S }):kf k ix ((range N).map fun(k:Nat)=>PV.int k) A1 g kc ue Q:=by
 refine F_ (range N) (fun(k:Nat)=>PV.int k) (λd ys S=>I d.length ys S) (by rw[length_range];exact aF) i0 ?_ ?_
 ·intro B d x r ys S e hI R hR
  have hx:x=d.length/\d.length<N:=by
   have h1:(range N)[d.length]?=some x:=by rw[e];simp
   obtain⟨h2,h3⟩:=c6 h1;rw[length_range] at h2;rw[getElem_range] at h3;exact⟨h3.symm,h2⟩
  obtain⟨rfl,hx⟩:=hx;refine each B d.length ys S hx hI R λy A4 k1 i1=>hR y A4 k1 ?_;rw[length_append,length_singleton];exact i1
 ·intro ys S h;rw[length_range] at h;exact fin ys S h
end
theorem iz {xs:ai}{i:Int}(h0:0<=i)(h1:i<=xs.length):cH xs (some i) none=xs.drop i.toNat:=by
 unfold cH
 have e:HT.aU xs.length 0 (some i)=i.toNat:=by
  show(if i<0 then _ else min i.toNat xs.length)=_;rw[if_neg (by omega)];omega
 rw[e,HT.Bv,take_of_length_le (by rw[length_drop];exact ar _)]
theorem tq {xs:ai}{i:Int}(h0:0<=i)(h1:i<=xs.length):cH xs none (some i)=xs.take i.toNat:=by
 unfold cH
 have e:HT.aU xs.length xs.length (some i)=i.toNat:=by
  show(if i<0 then _ else min i.toNat xs.length)=_;rw[if_neg (by omega)];omega
 rw[e,HT.Bv,Nat.sub_zero,drop_zero]
def Nx (st:ag)(c:Nat)(st':ag):Prop:=∃ n,n<=st.n+c/\st'=⟨st.d,st.a,n,st.b⟩
def tu:gH:=⟨λ_=>False,λr _=>r=.bl true,λr _=>r=.bl true,λ_=>False,λ_=>False⟩
theorem TV {K:Frag}{H:Hp}{a:Addr}{ns:List Int}(hO:mB H)(hS:aO K H a (ns.map V.int))(hl:ns.length<=63):eI K H a:=by
 rcases hS with (h|h)|h
 ·rcases hO a with z|⟨o,xs,z⟩<;>(rw[h] at z;cases z)
 ·exact⟨ns,hl,.inl h⟩
 ·exact⟨ns,hl,.inr h⟩
theorem TX {K:Frag}{u:US}{H H1:Hp}{a d:Addr}{D:Bs}{n0:Nat}{ns:List Int}(hO:mB H)(hS:aO K H a (ns.map V.int))(hl:ns.length<=63)(S1:cE H1 d a n0 D)(s1:aR H H1)(m:Nat)
  (q:u tu ⟨λb=>b=d,some (.val (.raw (.ref a)))::some (.val (.raw (.ref d)))::replicate m none,some ⟨d,a,n0,D⟩⟩){Q:VK}(hQ:∀ H',Q (.bl true) H') :
  b8 K u { nx:=λ_ H'=>Q .non H',rt:=Q } (some (.ref a)::some (.ref d)::replicate m none) H1:=by
 obtain⟨kvs,hd⟩:=S1.dk
 have yE:∀(i:Nat)(s:Sl),(some (Sl.val (.raw (.ref a)))::some (.val (.raw (.ref d)))::replicate m none:cL)[i]?=some (some s)->(i=0/\s=.val (.raw (.ref a)))\/(i=1/\s=.val (.raw (.ref d))):=by
  intro i s h;rcases i with _|_|i
  ·cases h;exact .inl ⟨rfl,rfl⟩
  ·cases h;exact .inr ⟨rfl,rfl⟩
  ·rw[getElem?_cons_succ,getElem?_cons_succ,getElem?_replicate] at h
   split at h<;>cases h
 refine⟨_,tu,⟨?_,?_,?_,?_,?_,?_⟩,q,?_⟩
 ·simp
 ·intro i s h;rcases yE i s h with ⟨rfl,rfl⟩|⟨rfl,rfl⟩
  ·exact⟨_,rfl,.raw a⟩
  ·exact⟨_,rfl,.raw d⟩
 ·rintro b rfl;rw[hd];intro z;cases z
 ·intro i j b c c' h1 h2;rcases yE _ _ h1 with ⟨_,z⟩|⟨_,z⟩<;>cases z
 ·rintro st h;cases h;exact⟨rfl,S1,(TV hO hS hl).keep λo=>s1 _ o⟩
 ·intro i b c st h1 h2;rcases yE _ _ h1 with ⟨_,z⟩|⟨_,z⟩<;>cases z
 ·refine⟨λA1 bu H2 p=>p.elim,?_,?_,?_,λA1 bu H2 p=>p.elim,λA1 bu H2 p=>p.elim⟩
  ·rintro r A1 bu v H2 rfl R1 S2 rv;cases rv;exact hQ _
  ·rintro r A1 bu v H0 H2 rfl R1 S2 ⟨p,c,e,_⟩;cases c<;>cases e
  ·intro i b c A1 bu H2 hi lF p R1 S2;have p':c.pv=.bl true:=p;cases c<;>cases p'
section
variable {X:Cx}{K:Frag}{a b e:Expr}{ua ub ue:UE}{p pos apos bg bz:Pos}{k:Nat}
def Gm (r:Zv->Hp->VK->Prop):R2:=λx y H Q=>r [x,y] H Q
theorem Gn {id:String}{x:Str}{r:Zv->Hp->VK->Prop}{G:G2}(hc:cx X (.builtin id) r)(br:dw K (Gm r) G)(hv:bootBuiltins x=some (.builtin id))(hm:X.mg x=none)(ha:PE X a (az K ua))(hb:PE X b (az K ub))(hg:Gl X x:=by rfl)(hn:x≠"__name__":=by decide)(hd:(x==("__debug__":Str))=false:=by decide)
  (hs:starEach [a,b] X.env=[(false,eval a X.env),(false,eval b X.env)]:=by rfl)(hs2:starEach [b] X.env=[(false,eval b X.env)]:=by rfl):PE X (.Call (.Name x p) [a,b] [] pos) (aB K (u2 G ua ub)):=
 (hU hc hg hm hv (b7 ha (b7 hb cN hs2) (by rw[hs,hs2])) hn hd (by rw[hs,hs2]) (hpl:=by rw[hs2];rfl)).mono (rT (r:=Gm r) br)
def Gp:G2:=kh λi j=>.int (if j<i then j else i)
def Gq:G2:=kh λi j=>.int (if j > i then j else i)
theorem tw (hc:X.calm=true)(hm:X.mg "min"=none)(ha:PE X a (az K ua))(hb:PE X b (az K ub))(hg:Gl X "min":=by rfl)
  (hs:starEach [a,b] X.env=[(false,eval a X.env),(false,eval b X.env)]:=by rfl)(hs2:starEach [b] X.env=[(false,eval b X.env)]:=by rfl):PE X (.Call (.Name "min" p) [a,b] [] pos) (aB K (u2 Gp ua ub)):=by
 refine Gn (Lr hc) ?_ (by with_unfolding_all rfl) hm ha hb hg (hs:=hs) (hs2:=hs2);intro H A σ x y v w z Q R q1 q2 g c;cases x<;>cases y<;>try exact(show False from g).elim
 cases (show z=_ from g);cases q1.int;cases q2.int;exact⟨_,_,rfl,c _ H (aR.refl H) (.int _)⟩
theorem Gr (hc:X.calm=true)(hm:X.mg "max"=none)(ha:PE X a (az K ua))(hb:PE X b (az K ub))(hg:Gl X "max":=by rfl)
  (hs:starEach [a,b] X.env=[(false,eval a X.env),(false,eval b X.env)]:=by rfl)(hs2:starEach [b] X.env=[(false,eval b X.env)]:=by rfl):PE X (.Call (.Name "max" p) [a,b] [] pos) (aB K (u2 Gq ua ub)):=by
 refine Gn (Lq hc) ?_ (by with_unfolding_all rfl) hm ha hb hg (hs:=hs) (hs2:=hs2);intro H A σ x y v w z Q R q1 q2 g c;cases x<;>cases y<;>try exact(show False from g).elim
 cases (show z=_ from g);cases q1.int;cases q2.int;exact⟨_,_,rfl,c _ H (aR.refl H) (.int _)⟩
def tD (i:Nat)(ue:UE):UE:=λA Q=>match A.ae[i]? with
 |some (some (.own a (.lst _)))=>ue A λr A1=>∃ xs j y,A1.ae[i]?=some (some (.own a (.lst xs)))/\r=.int (j:Nat)/\j<=1000000/\xs[j]?=some y/\Q y (put A1 i (.own a (.lst (xs.eraseIdx j))))
 |_=>False
theorem TY (hK:X.K=K)(i:Nat){x:Str}(he:PE X e (aB K ue))(hN:X.N[i]?=some x:=by rfl)(hv:di X.env.scope x:=by walk_at "v")(hd:(x==("__debug__":Str))=false:=by decide)(bJ:(x==("__classdict__":Str))=false:=by decide)
  (d0:attributeBase (.Name x bz) "pop" X.env (eval (.Name x bz) X.env)=eval (.Name x bz) X.env:=by rfl)
  (h_:((backTo bg (starEach [e] X.env)).all (λx=>!x.1)&&(backToKw bg (keywordEach [] X.env)).all (λx=>x.1.isSome)&&decide ([e].length+([]:List Keyword).length+(if ([]:List Keyword).isEmpty then 0 else 1)<30))=true:=by rfl)
  (d5:(apos.endLine==bg.line)=true:=by rfl)(hs:starEach [e] X.env=[(false,eval e X.env)]:=by rfl):PE X (.Call (.Attribute (.Name x bz) "pop" apos) [e] [] bg) (aB K (tD i ue)):=by
 subst hK;refine(oG PySem.F.plainAttrs_list PySem.F.slot_list_pop PySem.F.type_list_pop MF (dY hN hv hd bJ) (b7 he cN hs) d0 h_ d5 hs rfl).mono λσ H Q ⟨A,P,R,h,c⟩=>?_;unfold tD at h
 split at h
 ·rename_i a ys hx;obtain⟨v,ev,rfl,nb,vs,h1,h2⟩:=R.sl i _ hx;refine⟨_,ev,.inl ⟨rfl,_,aO.of h1⟩,A,_,R,h,λr A1 w H1 p R1 S1 dI=>?_⟩;obtain⟨xs,j,y,hA,rfl,aF,hy,p⟩:=p;obtain⟨_,_,_,_,us,g1,g2⟩:=R1.sl i _ hA;cases dI;obtain⟨u,hu,ru⟩:=g2.at hy;have hl:j<us.length:=(c6 hu).1;obtain⟨R2,S2⟩:=R1.turn hA (g2.erase j);exact⟨a,us,j,j,u,rfl,rfl,g1,by omega,by omega,seqIndex_of (by omega) (by omega),hu,c _ _ _ _ p R2 (S1.trans S2) (ru.imp (R1.keep S2))⟩
 ·exact h.elim
def Gs:G1
 |.lst xs,z=>sU (.lst xs) z
 |.ah kvs,z=>z=.ah kvs
 |_,_=>False
def Gu:G2
 |.lst xs,.int k,z=>-(2 ^ 63)<=k/\k<2 ^ 63/\xs.length*k.toNat<=1000000/\z=.lst (replicate k.toNat xs).flatten
 |_,_,_=>False
theorem aI.rep {N:Addr->Prop}{H:Hp}{xs:ai}{vs:Zv}(h:aI K N H xs vs)(n:Nat):aI K N H (replicate n xs).flatten (replicate n vs).flatten:=by
 induction n with
 |zero=>exact .nil
 |succ n ih=>
  rw[replicate_succ,replicate_succ,flatten_cons,flatten_cons];exact h.app ih
theorem yF (ha:PE X a (az K ua))(hb:PE X b (az K ub)):PE X (.BinOp a .Mult b pos) (c3 K (u2 Gu ua ub)):=by
 refine Ey MG ?_ ha hb;intro H A σ x y v w z Q R q1 q2 g c;cases x<;>cases y<;>try exact(show False from g).elim
 obtain⟨h1,h2,h3,rfl⟩:=g;obtain⟨l,vs,rfl,g1,g2⟩:=q1.lst R;cases q2.int;exact⟨l,_,vs,rfl,rfl,g1,h1,h2,by rw[<- g2.len];exact sM h3,λq hq=>c _ _ ⟨q,.lst _,rfl,rfl,hq,dJ hq _,_,bD,g2.rep _⟩⟩
end
def i5 (kvs more:aS):aS:=more.foldl (λacc kv=>match pk kv.1 with|some k=>dP acc k kv.2|none=>acc) kvs
theorem Gv {K:Frag}{N:Addr->Prop}{H:Hp}:∀{more:aS}{yG:bh}{kvs:aS}{av:bh},bQ K N H more (yG.map gg)->bQ K N H kvs (av.map gg)->bQ K N H (i5 kvs more) ((hV av yG).map gg)
 |[],[],_,_,_,h=>h
 |[],_::_,_,_,h,_=>nomatch h
 |_::_,[],_,_,h,_=>nomatch h
 |(p,x)::more,kw::yG,kvs,av,h,g=>by
  cases h with
  |cons r1 r2 r3=>
   have e:=sR r1;unfold i5 hV;rw[foldl_cons,foldl_cons];simp only[e];exact Gv r3 (sT g kw.1 r2)
section
variable {X:Cx}{K:Frag}{e:Expr}{ue:UE}{p pos apos bg bz:Pos}
theorem TZ (hK:X.K=K)(hc:X.calm=true)(hm:X.mg "dict"=none)(he:PE X e (az K ue))(hg:Gl X "dict":=by rfl)(hs:starEach [e] X.env=[(false,eval e X.env)]:=by rfl):PE X (.Call (.Name "dict" p) [e] [] pos) (c3 K (u1 Gs ue)):=by
 subst hK;refine FJ (cx.or (F0 hc) Pa) ?_ PyProof.Rows.boot_dict hm he hg (hs:=hs);intro H A σ x v z Q R q1 g c;cases x<;>first|exact(show False from g).elim|skip
 ·rename_i xs;obtain⟨l,hl,aF,rfl⟩:=(show sU (.lst xs) z from g);obtain⟨a,vs,rfl,h1,h2⟩:=q1.lst R;obtain⟨kvs,g1,g2,g3⟩:=yu h2 hl;exact .inl ⟨a,vs,kvs,rfl,h1,g1,by omega,λq hq=>c _ _ ⟨q,.ah _,rfl,rfl,hq,dJ hq _,_,bD,g3 [] [] .nil⟩⟩
 ·rename_i kvs;cases (show z=.ah kvs from g);obtain⟨a,av,rfl,h1,h2⟩:=q1.ah R;exact .inr ⟨a,av,rfl,h1,λq hq=>c _ _ ⟨q,.ah _,rfl,rfl,hq,dJ hq _,_,bD,h2⟩⟩
def tE (i:Nat)(ue:UE):UE:=λA Q=>match A.ae[i]? with
 |some (some (.own a (.ah _)))=>ue A λr A1=>∃ xs ys,A1.ae[i]?=some (some (.own a (.ah xs)))/\r=.ah ys/\xs.length+ys.length<=1000000/\Q .non (put A1 i (.own a (.ah (i5 xs ys))))
 |_=>False
theorem T5 (hK:X.K=K)(i:Nat){x:Str}(he:PE X e (aB K ue))(hN:X.N[i]?=some x:=by rfl)(hv:di X.env.scope x:=by walk_at "v")(hd:(x==("__debug__":Str))=false:=by decide)(bJ:(x==("__classdict__":Str))=false:=by decide)
  (d0:attributeBase (.Name x bz) "update" X.env (eval (.Name x bz) X.env)=eval (.Name x bz) X.env:=by rfl)
  (h_:((backTo bg (starEach [e] X.env)).all (λx=>!x.1)&&(backToKw bg (keywordEach [] X.env)).all (λx=>x.1.isSome)&&decide ([e].length+([]:List Keyword).length+(if ([]:List Keyword).isEmpty then 0 else 1)<30))=true:=by rfl)
  (d5:(apos.endLine==bg.line)=true:=by rfl)(hs:starEach [e] X.env=[(false,eval e X.env)]:=by rfl):PE X (.Call (.Attribute (.Name x bz) "update" apos) [e] [] bg) (aB K (tE i ue)):=by
 subst hK;refine(oG PySem.F.plainAttrs_dict PySem.F.slot_dict_update PySem.F.type_dict_update Pb (dY hN hv hd bJ) (b7 he cN hs) d0 h_ d5 hs rfl).mono λσ H Q ⟨A,P,R,h,c⟩=>?_;unfold tE at h
 split at h
 ·rename_i a ys hx;obtain⟨v,ev,rfl,nb,vs,h1,h2⟩:=R.sl i _ hx;refine⟨_,ev,.inr (.inr (.inl ⟨rfl,.inl ⟨_,h1⟩⟩)),A,_,R,h,λr A1 w H1 p R1 S1 dI=>?_⟩;obtain⟨xs,zs,hA,rfl,aF,p⟩:=p;obtain⟨_,_,_,_,us,g1,g2⟩:=R1.sl i _ hA
  cases dI with
  |ah nN hD f2=>
   obtain⟨ws,od,f1,rfl⟩:=hD;have l1:=g2.len;have l2:=f2.len;rw[length_map] at l1 l2;obtain⟨R2,S2⟩:=R1.yn hA (Gv f2 g2);exact⟨a,_,us,ws,rfl,rfl,λz=>nN (.inr ⟨i,_,by rw[<- z];exact hA⟩),g1,.inr ⟨od,f1⟩,sM (by omega),c _ _ _ _ p R2 (S1.trans S2) .non⟩
 ·exact h.elim
end
section
variable {B:Addr->Prop}{ae:cL}{S:Option ag}{A:AS}{i:Nat}{ue:UE}{QV:PV->AS->Prop}{QI:ai->(cu)->AS->Prop}{kvs:aS}{xs:ai}{z:PV}{m n:Int}
theorem T6:pD (.ah kvs) QI A=QI (kvs.map Prod.fst) (λ_=>True) A:=rfl
theorem T7:Gp (.int m) (.int n) z=(z=.int (if n<m then n else m)):=rfl
theorem T8:Gq (.int m) (.int n) z=(z=.int (if n > m then n else m)):=rfl
theorem T9:Gu (.lst xs) (.int m) z=(-(2 ^ 63)<=m/\m<2 ^ 63/\xs.length*m.toNat<=1000000/\z=.lst (replicate m.toNat xs).flatten):=rfl
theorem T_:Gs (.ah kvs) z=(z=.ah kvs):=rfl
theorem Ua:tD i ue ⟨B,ae,S⟩ QV=fR ae[i]? (λa _ A=>ue A λr A1=>b0 (λxs=>A1.ae[i]?=some (some (.own a (.lst xs)))) (λxs A=>∃ j y,r=.int (j:Nat)/\j<=1000000/\xs[j]?=some y/\QV y (put A i (.own a (.lst (xs.eraseIdx j))))) A1) ⟨B,ae,S⟩:=by
 unfold tD fR b0;dsimp only;generalize ae[i]?=s;rcases s with _|_|s<;>first|rfl|(cases s<;>first|rfl|skip)
 rename_i c;cases c<;>first|rfl|skip
 refine congrArg (ue ⟨B,ae,S⟩) (funext λr=>funext λA1=>?_);exact propext ⟨fun⟨xs,j,y,h1,h2⟩=>⟨xs,h1,j,y,h2⟩,fun⟨xs,h1,j,y,h2⟩=>⟨xs,j,y,h1,h2⟩⟩
theorem Ub:tE i ue ⟨B,ae,S⟩ QV=pB ae[i]? (λa _ A=>ue A λr A1=>b0 (λxs=>A1.ae[i]?=some (some (.own a (.ah xs)))) (λxs A=>∃ ys,r=.ah ys/\xs.length+ys.length<=1000000/\QV .non (put A i (.own a (.ah (i5 xs ys))))) A1) ⟨B,ae,S⟩:=by
 unfold tE pB b0;dsimp only;generalize ae[i]?=s;rcases s with _|_|s<;>first|rfl|(cases s<;>first|rfl|skip)
 rename_i c;cases c<;>first|rfl|skip
 refine congrArg (ue ⟨B,ae,S⟩) (funext λr=>funext λA1=>?_);exact propext ⟨fun⟨xs,ys,h1,h2⟩=>⟨xs,h1,ys,h2⟩,fun⟨xs,h1,ys,h2⟩=>⟨xs,ys,h1,h2⟩⟩
end
theorem Uc {X:Cx}{K:Frag}{a b:Expr}{ua ub:UE}{pos:Pos}(ha:PE X a (az K ua))(hb:PE X b (az K ub)):PE X (.BinOp a .Pow b pos) (aB K (u2 (gI u3 λi j=>.int (i ^ j.toNat)) ua ub)):=mM K4 (sj λ_ _ _ _=>.int _) ha hb
section
variable {prog:Program}{w:World}{A:Around}{E:aG}{s:Shared}{a:Addr}{vs:List (Key×Value)}{ep:Nat}
theorem Ud {R:aC->Shared->Prop}(hh:A.handled=none)(lo:(a==sysModules)=false)(T:s.heap.DictAt (bM prog w) a vs ep)(aF:vs.length<=sizeLine)
  (h:∀ h' tk (us:aC),(∀ b o,s.heap.get? b=some o->h'.get? b=some o)->s.heap.objs.size<h'.objs.size->us.length=vs.length->(∀(i:Nat)(v:Value),us[i]?=some v->∃ k x,vs[i]?=some (k,x)/\(bM prog w).is k v=true)->R us { s with heap:=h',toks:=tk }):wpAny (model prog w) A (collect (.ref a)) R E s:=by
 have lt:a<s.heap.objs.size:=T.lt_size;unfold collect;refine af (wpAny_runValue (codeAny_builtin PyProof.Rows.entry_proto_collect' ?_));rw[Around.under_plainId PySem.F.plain_proto_collect _];show wpAny _ A.in1 (newList [] >>= λl=>again (.builtin "list.__iadd__" ⟨[l,.ref a],[]⟩)) _ _ s;refine af (wpAny_newObj_type ?_);refine ao ⟨plainId_quiet PySem.F.plain_list_iadd _,codeAny_builtin PyProof.Rows.entry_list_iadd' ?_⟩;rw[Around.under_plainId PySem.F.plain_list_iadd _];have g0:(s.heap.push { cls:=.type "list",data:=.seq ([]:aC).toArray }).get? s.heap.objs.size=some { cls:=.type "list",data:=.seq #[] }:=b6 _ rfl;show wpAny _ A.in1 (Builtin.List.listExtendWith (.ref s.heap.objs.size) (.ref a) (.ref s.heap.objs.size)) _ _ _
 have key:=PySem.W.kdl_extend (A:=A) (s:={ s with heap:=s.heap.push { cls:=.type "list",data:=.seq ([]:aC).toArray } })
  (R:=fun(q:Result)(s':Shared)=>∃(h':Heap)(tk:Nat)(us:Array Value)(c':Nat),q=.ok (.ret (.ref s.heap.objs.size))/\s'={ s with heap:=h',toks:=tk } /\
   (∀ b o,s.heap.get? b=some o->h'.get? b=some o)/\h'.get? s.heap.objs.size=some { cls:=.type "list",dict:=none,data:=.seq us c',slots:=#[] }/\ItemsOf (λi v=>∃ k x,vs[i]?=some (k,x)/\(bM prog w).is k v=true) us vs.length)
  (PySem.W.kdl_dict (knd:=bM prog w) (kvs:=vs) (ep:=ep) lo) hh (T.at' λo e=>a8 _ e) s.heap.objs.size (Nat.ne_of_gt lt) (Nat.ne_of_gt lt) (.ref s.heap.objs.size) 0 g0
  (λh' tk us c' k eP it=>⟨h',tk,us,c',rfl,rfl,λb o e=>k b o (bI (a0 e)) (a8 _ e),eP,it⟩) aF
 refine wpAny_mono key (λf s' x=>?_) λe s' x=>?_
 ·cases f with
  |done f=>
   obtain⟨h',tk,us,c',e,rfl,k,eP,it⟩:=x;cases e;show wpAny _ A (load s.heap.objs.size >>= _) _ _ _;refine af (wpAny_load eP ?_);have q:=h h' tk us.toList k (a0 eP) (by rw[Array.length_toList];exact it.1) λi v e=>it.2 i v (by rw[<- Array.getElem?_toList];exact e);exact ao q
  |again c₁=>
   refine⟨x.1,codeAny_mono x.2 λq dR y=>?_⟩;obtain⟨h',tk,us,c',rfl,rfl,k,eP,it⟩:=y;show wpAny _ A (load s.heap.objs.size >>= _) _ _ _;refine af (wpAny_load eP ?_);have q:=h h' tk us.toList k (a0 eP) (by rw[Array.length_toList];exact it.1) λi v e=>it.2 i v (by rw[<- Array.getElem?_toList];exact e);exact ao q
 ·obtain⟨_,_,_,_,e',_⟩:=x;cases e'
end
section
variable {X:Cx}
theorem Ue:∀{kvs:bh}{vs:List (Key×Value)}{us:aC}{zs:aq},KV kvs vs->kvs.map Prod.fst=zs.map Sum.inr->us.length=vs.length->(∀(i:Nat)(v:Value),us[i]?=some v->∃ k x,vs[i]?=some (k,x)/\jc k v=true)->StrsAre us zs:=by
 intro kvs vs us zs r;unfold KV at r
 induction r generalizing us zs with
 |nil=>
  intro hz hl _
  cases zs with
  |nil=>cases us with|nil=>exact .nil|cons _ _=>simp at hl
  |cons _ _=>simp at hz
 |@cons p q xs ys h1 h2 ih=>
  intro hz hl hv
  cases zs with
  |nil=>simp at hz
  |cons z zs=>
   cases us with
   |nil=>simp at hl
   |cons u us=>
    simp only[map_cons,cons.injEq] at hz;obtain⟨k,x,e,hk⟩:=hv 0 u rfl;simp only[getElem?_cons_zero,Option.some.injEq] at e;have e1:q.1=k:=by rw[e]
    have iQ:jc (.inr z) u=true:=by rw[<- hz.1,h1.1,e1];exact hk
    rcases g4 iQ with ⟨i,t,e',_⟩|⟨y,t,e',rfl⟩
    ·cases e'
    ·cases e';exact .cons z t (ih hz.2 (by simpa using hl) λi v e=>by simpa using hv (i+1) v (by simpa using e))
theorem Ug (hc:X.calm=true):cx X (.builtin "sorted") (λxs H Q=>∃ p kvs zs,xs=[.ref p]/\Rd H p (.dK kvs)/\kvs.map Prod.fst=zs.map Sum.inr/\zs.length<64/\∀ l ss,H l=none->js zs ss->Q (.ref l) (upd H l (.lst (ss.map V.str)))):=by
 intro pins s σ H xs us Q I r h;obtain⟨p,kvs,zs,rfl,hp,hk,hz,q⟩:=h;obtain⟨u,rfl,ru⟩:=vals1 r;cases ru;obtain⟨z,n,av,rk,od,es,ep,T⟩:=hp.ok I.aA;have T:s.heap.DictAt (bM X.prog X.w) p av ep:=⟨od,es,T⟩
 have l0:av.length=zs.length:=by
  have l1:=rk.length;have l2:=congrArg List.length hk;simp only[length_map] at l2;omega
 refine Calls.call_function_entry kind_sorted plain_sorted entry_sorted (args_sorted1 _) ?_;unfold Builtin.«sorted»;refine af (m:=checkCount "sorted" 1 1 _) (ao ?_);refine af (Ud (A:=X.A.in1) (I.ok.hd hc) n T (Nat.le_of_lt (jo (by omega))) λh' tk vs k lt hl hv=>?_);have hS:StrsAre vs zs:=Ue rk hk hl hv;have len:vs.length<64:=by omega
 refine af (wpAny_newList ?_ (Nat.le_of_lt (jo (by omega))));have oL:(h'.push { cls:=.type "list",data:=.seq vs.toArray }).get? h'.objs.size=some (seqObj "list" vs.toArray 0):=b6 _ rfl;refine af (wpAny_holding (wpAny_call_entry slot_list_sort ⟨_,oL,rfl⟩ entry_list_sort (list_sort_treeK strKind_oneLt oL hS.keysOf (λOT OU rest e=>keyKind_strs (by rw[<- e];exact hS)) len λst' a1 a2=>⟨_,rfl,?_⟩) (args_list_sort _)));obtain⟨ss,b1,b2,b3⟩:=sorted_out_str hS a1 a2;obtain⟨ex,he⟩:=sortedHeap_at (out:=(arrOf st').map (·.2)) oL
 have kp:∀ b o,s.heap.get? b=some o->(sortedHeap (h'.push { cls:=.type "list",data:=.seq vs.toArray }) h'.objs.size vs ((arrOf st').map (·.2))).get? b=some o:=λb o e=>by
  have e1:=k b o e;have l1:=a0 e1;rw[sortedHeap_old (bI l1) (by rw[size_push'];exact Nat.lt_succ_of_lt l1)];exact a8 _ e1
 have le:s.heap.objs.size<=h'.objs.size:=Nat.le_of_lt lt
 have I1:=I.laid (a:=h'.objs.size) (o:=.lst (ss.map V.str)) (t':=tk) kp le ⟨by rw[length_map,b2.length_eq];exact Nat.le_of_lt (jo (by omega)),((arrOf st').map (·.2)).toList,ex,rP b1,by
  rw[Array.toArray_toList]
  exact he⟩
 exact ao ⟨_,rfl,.ref h'.objs.size,_,I1,rfl,q _ ss (I.aA.fresh le) ⟨b2,xo b3⟩⟩
end
def Gw:G1
 |.ah kvs,z=>∃ zs,kvs.map Prod.fst=zs.map PV.str/\zs.length<64/\z=.lst ((b9 zs).map PV.str)
 |_,_=>False
theorem Uh {kvs:aS}{z:PV}:Gw (.ah kvs) z=(∃ zs,kvs.map Prod.fst=zs.map PV.str/\zs.length<64/\z=.lst ((b9 zs).map PV.str)):=rfl
section
variable {X:Cx}{K:Frag}{e:Expr}{ue:UE}{p pos:Pos}
theorem Gx {N:Addr->Prop}{H:Hp}:∀{kvs:aS}{av:bh}{zs:aq},bQ K N H kvs (av.map gg)->kvs.map Prod.fst=zs.map PV.str->av.map Prod.fst=zs.map Sum.inr
 |[],[],[],_,_=>rfl
 |[],[],_::_,_,h=>by simp at h
 |[],_::_,_,h,_=>nomatch h
 |_::_,[],_,h,_=>nomatch h
 |_::_,_::_,[],_,h=>by simp at h
 |(p,x)::kvs,kw::av,z::zs,h,g=>by
  cases h with
  |cons r1 r2 r3=>
   have e:=sR r1;simp only[map_cons,cons.injEq] at g ⊢;have g1:p=.str z:=g.1;subst g1;refine⟨?_,Gx r3 g.2⟩;simpa [pk] using e.symm
theorem pF (hK:X.K=K)(hc:X.calm=true)(hm:X.mg "sorted"=none)(he:PE X e (az K ue))(hg:Gl X "sorted":=by rfl)(hs:starEach [e] X.env=[(false,eval e X.env)]:=by rfl):PE X (.Call (.Name "sorted" p) [e] [] pos) (c3 K (u1 Gw ue)):=by
 subst hK;refine FH (Ug hc) ?_ PyProof.Rows.boot_sorted hm he hg (hs:=hs);intro H A σ x v z Q R q1 g c;cases x<;>first|exact g.elim|skip
 obtain⟨zs,hz,aF,rfl⟩:=g;obtain⟨a,av,rfl,h1,h2⟩:=q1.ah R;refine⟨a,av,zs,rfl,h1,Gx h2 hz,aF,λl ss hl pz=>?_⟩;cases pz.eq;exact c _ _ ⟨l,.lst _,rfl,rfl,hl,dJ hl _,_,bD,yv _⟩
end
def yH (G:G2)(ua ub:UE):UT:=λA Q=>ua A λx A1=>ub A1 λy A2=>∃ z,G x y (.bl z)/\Q z A2
theorem Ui {G:G2}{ue fj:UE}{B:Addr->Prop}{ae:cL}{S:Option ag}{QT:Bool->AS->Prop}:yH G ue fj ⟨B,ae,S⟩ QT=ue ⟨B,ae,S⟩ λx A1=>fj A1 λy A2=>b0 (λz=>G x y (.bl z)) QT A2:=rfl
section
variable {X:Cx}{K:Frag}{a b:Expr}{ua ub:UE}{pos:Pos}{r:R2}{G:G2}{k:Nat}
theorem Uj (br:dw K r G):∀ σ H Q,liftT K (yH G ua ub) σ H Q->qE (jQ r (aB K ua) (az K ub)) σ H Q:=λσ H Q ⟨A,P,R,h,c⟩=>
 ⟨A,_,R,h,λx A1 v H1 p1 R1 S1 q1=>⟨A1,_,R1,p1,λy A2 w H2 p2 R2 S2 q2=>by
  obtain⟨z,g,p⟩:=p2
  exact br H2 A2 σ x y v w (.bl z) _ R2 (.inl (q1.imp (R1.keep S2))) q2 g λv' H' s rv=>by
   cases rv
   exact⟨z,rfl,c z A2 H' p (R2.same s) (S1.trans (S2.trans (ay.same A2 s)))⟩⟩⟩
theorem yI (hK:X.K=K)(hr:bO k X.A)(ha:PE X a (aB K ua))(hb:PE X b (az K ub)):PT X (.Compare a [.NotEq] [b] pos) (liftT K (yH (fP true) ua ub)):=by
 subst hK;exact(kW (Fn (by have:=hr.un;omega)) ha hb (e_ _)).mono (Uj sD)
end
def yJ (z:Str)(ue:UE)(Q:PV->AS->Prop):cu:=λA=>∀ B,ue ⟨B,A.ae,A.S⟩ λx A2=>A2.ae=A.ae/\Q (.ah [(.str z,x)]) ⟨A.B,A.ae,A2.S⟩
def Gy (i:Nat)(ue:UE):UE:=λA Q=>∃ z,A.ae[i]?=some (some (.val (.str z)))/\yJ z ue Q A
theorem Uk {i:Nat}{ue:UE}{B:Addr->Prop}{ae:cL}{S:Option ag}{QV:PV->AS->Prop}:Gy i ue ⟨B,ae,S⟩ QV=b0 (λz=>ae[i]?=some (some (.val (.str z)))) (λz=>yJ z ue QV) ⟨B,ae,S⟩:=rfl
section
variable {K:Frag}{H H1 H2:Hp}{σ:St}{A:AS}
theorem Rep.Ul (R:Rep K H σ A){p:Addr}(hp:H p=none)(o:HO):Rep K (upd H p o) σ ⟨λb=>A.B b\/b=p,A.ae,A.S⟩:=by
 have s:aR H (upd H p o):=dJ hp o;have na:∀ a u,H a=some u->a≠p:=λa u h=>dF h hp
 have kp:d7 K (AN A) (AN ⟨λb=>A.B b\/b=p,A.ae,A.S⟩) H (upd H p o):=⟨(iS (K:=K) (N:=AN A) s).t,λa u n h=>⟨λz=>by
  rcases z with (z|z)|z
  ·exact n (.inl z)
  ·exact na a u h z
  ·exact n (.inr z),s a u h⟩⟩
 have R1:=R.same s;refine⟨R.len,λi t h=>?_,λa h=>?_,R.nd,λst h=>?_,R.pk⟩
 ·obtain⟨v,e,q⟩:=R.sl i t h;refine⟨v,e,?_⟩
  cases t with
  |val x=>exact q.imp kp
  |own a c=>exact⟨q.1,λz=>z.elim q.2.1 λe=>q.2.2.some (by rw[e];exact hp),q.2.2.imp kp λo=>s a o⟩
  |peek a c=>exact⟨q.1,.inl q.2.1,q.2.2.imp kp λo=>s a o⟩
 ·rcases h with h|h
  ·exact R1.c_ a h
  ·rw[h,bD];intro z;cases z
 ·obtain⟨h1,h2,h3⟩:=R1.st st h;exact⟨.inl h1,h2,h3⟩
theorem Rep.Um {ae:cL}{S:Option ag}{B:Addr->Prop}{p:Addr}(R:Rep K H σ ⟨λb=>B b\/b=p,ae,S⟩)(hB:¬ B p)(hp:H p=some (.dK []))(hd:∀ st,S=some st->st.d≠p)(hk:∀(i:Nat)(c:OC),ae[i]?≠some (some (.peek p c))) :
  Rep K (erase H p) σ ⟨B,ae,S⟩/\d7 K (AN ⟨λb=>B b\/b=p,ae,S⟩) (AN ⟨B,ae,S⟩) H (erase H p):=by
 have kp:d7 K (AN ⟨λb=>B b\/b=p,ae,S⟩) (AN ⟨B,ae,S⟩) H (erase H p):=⟨λa vs h=>by
  rcases h with h|h
  ·refine .inl ?_;rcases h with h|⟨o,h⟩
   ·exact .inl (by rw[cG λe=>by rw[e,hp] at h;cases h];exact h)
   ·exact .inr ⟨o,by rw[cG λe=>by rw[e,hp] at h;cases h];exact h⟩
  ·exact .inr h,λa o n h=>⟨λz=>n (z.imp .inl id),by rw[cG λe=>n (.inl (.inr e))];exact h⟩⟩
 refine⟨⟨R.len,λi t h=>?_,λa h=>?_,R.nd,λst h=>?_,R.pk⟩,kp⟩
 ·obtain⟨v,e,q⟩:=R.sl i t h;refine⟨v,e,?_⟩
  cases t with
  |val x=>exact q.imp kp
  |own a c=>exact⟨q.1,λz=>q.2.1 (.inl z),q.2.2.imp kp λo h2=>by rw[cG λe=>q.2.1 (.inr e)];exact h2⟩
  |peek a c=>
   have na:a≠p:=λe=>hk i c (by rw[<- e];exact h);exact⟨q.1,q.2.1.resolve_right na,q.2.2.imp kp λo h2=>by rw[cG na];exact h2⟩
 ·rw[cG λe=>hB (by rw[<- e];exact h)];exact R.c_ a (.inl h)
 ·obtain⟨h1,h2,h3⟩:=R.st st h;refine⟨h1.resolve_right (hd st h),?_,h3.iR λo u z=>by rw[cG λe=>by rw[e,hp] at z;cases z];exact z⟩;obtain⟨t,l,w,e,r⟩:=h2.ex
  exact⟨⟨t,l,w,by rw[cG (hd st h)];exact e,r⟩,λT o z=>⟨by
   rw[cG λy=>by
    have q:=(h2.tb T o z).1;rw[y,hp] at q
    cases q]
   exact(h2.tb T o z).1,(h2.tb T o z).2⟩⟩
end
section
variable {X:Cx}{K:Frag}{pos bz:Pos}{e:Expr}{ue:UE}
theorem Uo (i:Nat){x:Str}(he:PE X e (aB K ue))(hN:X.N[i]?=some x:=by rfl)(hv:di X.env.scope x:=by walk_at "v")(hd:(x==("__debug__":Str))=false:=by decide)(bJ:(x==("__classdict__":Str))=false:=by decide) :
  PE X (.Dict [some (.Name x bz)] [e] pos) (c3 K (Gy i ue)):=by
 refine(Bu (jX (dY hN hv hd bJ) he Bq) rfl rfl (by simp) (Nat.succ_le_succ (Nat.zero_le _))).mono λσ H Q ⟨A,P,R,h,c⟩=>λp hp=>?_;obtain⟨z,hz,h⟩:=h;obtain⟨v,ev,rv⟩:=R.sl i _ hz;have hv:v=.str z:=by cases rv;rfl
 subst hv;refine⟨_,ev,_,_,R.Ul hp _,h _,λr A2 v H2 q R2 S2 Up=>?_⟩;obtain⟨B2,Uq,S0⟩:=A2;obtain⟨Ur,q⟩:=q;have eB:B2=λb=>A.B b\/b=p:=S2.b;have Us:Uq=A.ae:=Ur;subst eB Us;have nB:¬ A.B p:=λz=>R.c_ p z hp
 have Gz:∀ st,A.S=some st->st.d≠p:=λst h e=>by
  obtain⟨kvs,q⟩:=(R.st st h).2.1.dk;rw[e,hp] at q;cases q
 have Ut:¬ Own A.ae p:=λz=>R.new hp (.inr z);have qL:H2 p=some (.dK []):=S2.fr p _ bD λm=>m.elim Ut fun⟨st,z1,z2⟩=>Gz st z1 z2
 obtain⟨R3,kp⟩:=R2.Um nB qL (λst h e=>by
  obtain⟨st',e1,e2⟩:=lx S2.sd ⟨st,h,rfl⟩
  exact Gz st' e1 (e2.trans e)) λi c h=>by
   obtain⟨_,_,q⟩:=R.sl i _ h;exact q.2.2.some hp
 have S3:ay A H ⟨A.B,A.ae,S0⟩ (erase H2 p):=by
  refine⟨λa o h m=>?_,λa h=>.inl h,rfl,λa h=>?_,S2.sd⟩
  ·have na:a≠p:=dF h hp;rw[cG na];exact S2.fr a o (by rw[a7 na];exact h) m
  ·have na:a≠p:=λe=>h (by rw[e];exact hp);rw[cG na];exact S2.dm a (by rw[a7 na];exact h)
 refine⟨qL,[(.inr z,v)],rfl,Nat.succ_le_succ (Nat.zero_le _),?_⟩;refine c _ _ _ (erase H2 p) _ q R3 S3 ⟨p,.ah _,rfl,rfl,mO _ _,λb o h=>?_,[(.inr z,v)],bD,.cons (.str z) (Up.imp kp) .nil⟩;have nb:b≠p:=λe=>by rw[e,mO] at h;cases h
 rw[a7 nb];rw[cG nb] at h;exact h
end
def pG (K:Frag)(a:Addr)(n:Nat):It:=
 ⟨λi H=>∃ xs x,aO K H a xs/\i<n/\xs[n-1-i]?=some x,λi H x H'=>H'=H/\∀ xs,aO K H a xs->xs[n-1-i]?=some x,λi H=>n<=i⟩
theorem Uu {P:Program}{w:World}{K:Frag}{tg:Expr}(a it:Addr)(n:Nat):Turn P w K tg (pG K a n) [it] it (λi h=>i<=n/\h.IsRevIter it a ((n:Int)-1-i)) where
 mem:=by simp
 obj:=λi h st b hb=>by
  have e:b=it:=by simpa using hb
  subst e;obtain⟨_,o,e,c,d⟩:=st;exact⟨o,e,λv z=>by rw[d] at z;cases z⟩
 keep:=λi h h' st k=>⟨st.1,st.2.at λo e=>k it (by simp) o e⟩
 item:=by
  intro X hP hw hK hc i pins s σ H E I hf st hg;subst hP hw hK;obtain⟨xs,x,hq,hi,hx⟩:=hg;obtain⟨its,rv,p,hz⟩:=I.list hq;obtain⟨u,hu,ru⟩:=rv.get hx;obtain⟨f0,f1,f2,f3,f4,f5⟩:=hf it (by simp)
  have cW:s.heap.IsRevIter it a ((n-1-i:Nat):Int):=by
   rw[show((n-1-i:Nat):Int)=(n:Int)-1-i by omega];exact st.2
  refine wpAny_pyNext_rev_item cW p.isList (x:=u) (by simpa using hu) λh' st' sb=>?_;have I1:Inv X pins σ H { s with heap:=h' }:=I.turned (t':=s.toks) (λb o hb e=>(sb.2 b hb).trans e) f0 f1 f3 f4 f5;obtain⟨o,e,c,d⟩:=id st';refine⟨u,rfl,mn (s:={ s with heap:=h' }) e c d (by decide) ⟨x,H,I1,ru,⟨rfl,λys hy=>by rw[I.AV hy hq];exact hx⟩,⟨hi,?_⟩,λb hb=>(hf b hb).1⟩⟩;rw[show(n:Int)-1-((i+1:Nat):Int)=((n-1-i:Nat):Int)-1 by omega];exact st'
 done:=by
  intro X hP hw hK hc i pins s σ H E I hf st hg;subst hP hw hK;obtain⟨f0,f1,f2,f3,f4,f5⟩:=hf it (by simp);have hi:i=n:=Nat.le_antisymm st.1 hg
  have cW:s.heap.IsRevIter it a (-1):=by
   rw[show(-1:Int)=(n:Int)-1-i by omega];exact st.2
  exact wpAny_pyNext_rev_end (I.ok.hd hc) cW λh' eb=>⟨rfl,I.turned (t':=s.toks) (λb o hb e=>eb b o hb e) f0 f1 f3 f4 f5⟩
 self:=λ_ _ _ _ _ st h=>wpAny_pyIter_revIter st.2 h
def Uv (K:Frag)(ta:TA):TI:=λσ H R=>ta σ H λvs H1=>∃ l xs,vs=[.ref l]/\aO K H1 l xs/\R (pG K l xs.length) H1
theorem Uw {X:Cx}{tg a:Expr}{ta:TA}{p pos:Pos}(hg:Gl X "reversed")(hm:X.mg "reversed"=none)(ha:PA X [a] ta)
  (hs:starEach [a] X.env=[(false,eval a X.env)]:=by rfl):PI X tg (.Call (.Name "reversed" p) [a] [] pos) (Uv X.K ta):=by
 intro pins s σ H R I h;refine Call_ (mj I hg hm PyProof.Rows.boot_reversed (PyProof.Rows.callWith_type1 (aD (ha pos pins s σ H _ I h) λus s1 ⟨vs,H1,I1,r1,q1⟩=>?_) (by rw[hs];rfl) (by rfl)));obtain⟨l,xs,e,h1,q⟩:=q1;subst e;obtain⟨u,rfl,ru⟩:=vals1 r1;cases ru;obtain⟨its,rv,p1,_⟩:=I1.list h1;have hl:=rv.length;refine PySem.call_reversed_list p1.isList ?_;have g1:(s1.heap.push (revObj l ((its.toArray.size:Int)-1))).IsRevIter s1.heap.objs.size l ((its.toArray.size:Int)-1):=⟨_,b6 _ rfl,rfl,rfl⟩;refine wpAny_pyIter_revIter g1 ?_;refine⟨s1.heap.objs.size,[s1.heap.objs.size],_,_,H1,rfl,I1.kept (t':=s1.toks) λb o e=>a8 _ e,Uu l _ xs.length,⟨Nat.zero_le _,?_⟩,λb hb=>?_,q⟩
 ·rw[show(xs.length:Int)-1-((0:Nat):Int)=(its.toArray.size:Int)-1 by simp;omega];exact g1
 ·have e:b=s1.heap.objs.size:=by simpa using hb
  subst e;exact I1.jO (ar _) (I1.aA.fresh (ar _))
def GA (P:ai->(cu)->AS->Prop)(x:PV)(A1:AS):Prop:=∃ xs,x=.lst xs/\P xs.reverse (λ_=>True) A1
def GB (ue:UE):UI:=λA P=>ue A λx A1=>GA P x A1
theorem Ux {ue:UE}{B:Addr->Prop}{ae:cL}{S:Option ag}{P:ai->(cu)->AS->Prop}:GB ue ⟨B,ae,S⟩ P=ue ⟨B,ae,S⟩ λx A1=>GA P x A1:=rfl
theorem Uy {α:Type}{xs:List α}{i:Nat}{x:α}(h:xs.reverse[i]?=some x):i<xs.length/\xs[xs.length-1-i]?=some x:=by
 have hi:i<xs.length:=by
  have:=c6 h;obtain⟨z,_⟩:=this;simpa using z
 exact⟨hi,by rw[<- getElem?_reverse hi];exact h⟩
section
variable {X:Cx}{K:Frag}{e tg:Expr}{pos p:Pos}{ue:UE}
theorem Uz {A:AS}{H:Hp}{σ:St}{a:Addr}{xs:ai}(R:Rep K H σ A)(h:RV K (AN A) H (.lst xs) (.ref a)):iV K A H (pG K a xs.length) xs.reverse λ_=>True:=by
 have go:∀{N:Addr->Prop}{H2:Hp}{vs:Zv},H2 a=some (.lst vs)->aI K N H2 xs vs->∀ i x,xs.reverse[i]?=some x->(pG K a xs.length).go i H2/\∀ v H',(pG K a xs.length).fJ i H2 v H'->aR H2 H'/\RV K N H' x v:=λ{N H2 vs} h1 h2 i x hx=>by
  obtain⟨hi,hy⟩:=Uy hx;obtain⟨v,hv,rv⟩:=h2.at hy;refine⟨⟨_,v,aO.of h1,hi,hv⟩,λv' H' y=>?_⟩;obtain⟨rfl,y⟩:=y;have:=y _ (aO.of h1);rw[hv] at this;cases this;exact⟨aR.refl _,rv⟩
 exact {
  go:=λbE A2 H2 R2 S2 _ i x hx=>by cases h.imp (R.keep S2) with|lst n h1 h2=>exact go h1 h2 i x hx
  stop:=λbE A2 H2 R2 S2 _=>by show _<=_;rw[length_reverse];exact ar _
  cm:=λH2 b=>by
   cases h.imp (R.lB b) with
   | lst n h1 h2=>exact⟨λi x hx=>go h1 h2 i x hx,by show _<=_;rw[length_reverse];exact ar _⟩ }
theorem UB (hK:X.K=K)(hm:X.mg "reversed"=none)(h:PE X e (aB K ue))(hg:Gl X "reversed":=by rfl)(hs:starEach [e] X.env=[(false,eval e X.env)]:=by rfl):PI X tg (.Call (.Name "reversed" p) [e] [] pos) (jv K (GB ue)):=by
 subst hK;refine(Uw hg hm (b7 h cN hs) hs).mono λσ H Q ⟨A,P,R,h,c⟩=>⟨A,_,R,h,λx A1 v H1 q R1 S1 rv=>?_⟩;obtain⟨xs,rfl,q⟩:=q
 cases rv with
 |lst n h1 h2=>exact⟨_,_,rfl,aO.of h1,c _ _ A1 _ H1 q R1 S1 (by have:=Uz R1 (.lst n h1 h2);rw[h2.len] at this;exact this)⟩
end
section
variable {X:Cx}{K:Frag}{e ke:Expr}{pos p:Pos}{ue uk:UE}
def GC (i:Nat)(nx:cu)(a:Addr)(v k:PV)(A:AS):Prop:=∃ xs j,A.ae[i]?=some (some (.own a (.lst xs)))/\k=.int (j:Nat)/\j<xs.length/\nx (put A i (.own a (.lst (xs.set j v))))
def GD (i:Nat)(ue uk:UE):US:=λE A=>ue A λv A1=>fR A1.ae[i]? (λa _ A=>uk A λk A2=>GC i E.nx a v k A2) A1
theorem UC {i:Nat}{E:gH}{B:Addr->Prop}{ae:cL}{S:Option ag}:GD i ue uk E ⟨B,ae,S⟩=ue ⟨B,ae,S⟩ λv A1=>fR A1.ae[i]? (λa _ A=>uk A λk A2=>GC i E.nx a v k A2) A1:=rfl
theorem GF (i:Nat){x:Str}{bz cY:Pos}(he:PE X e (aB K ue))(hk:PE X ke (aB K uk))(hN:X.N[i]?=some x:=by rfl)(hv:di X.env.scope x:=by walk_at "v")(hd:(x==("__debug__":Str))=false:=by decide)(bJ:(x==("__classdict__":Str))=false:=by decide)
  (ha:∀ v,assign (.Subscript (.Name x bz) ke pos) X.env v=(do
   let ov <- holding [v] (eval (.Name x bz) X.env)
   let iv <- holding [v,ov] (eval ke X.env)
   standAt pos
   holding [v,ov,iv] (setItem ov iv v)
   release [v,ov,iv] []):=by intro _;rfl)
  (hs:swapsWithSole [.Subscript (.Name x bz) ke pos] e cY.line X.env=pure false:=by rfl)(hw:swappedStores [.Subscript (.Name x bz) ke pos] e X.env=pure none:=by rfl)
  (h1:(assignEach [.Subscript (.Name x bz) ke pos] X.env).map (·.2)=[assign (.Subscript (.Name x bz) ke pos) X.env]:=by rfl):PS X (.Assign [.Subscript (.Name x bz) ke pos] e cY) (b8 K (GD i ue uk)):=by
 refine(AZ he (KI (dY (i:=i) hN hv hd bJ) hk set_list ha) hs hw h1).mono λD σ H ⟨A,E,R,h,c⟩=>⟨A,_,R,h,λv A1 w H1 q R1 S1 rv=>?_⟩;unfold fR at q
 split at q
 ·rename_i a ys hx;obtain⟨_,ev,rfl,nb,vs,g1,g2⟩:=R1.sl i _ hx;refine⟨_,ev,A1,_,R1,q,λk A2 kw H2 q2 R2 S2 rk=>?_⟩;obtain⟨xs,j,hA,rfl,hj,q2⟩:=q2;cases rk;obtain⟨_,_,_,_,us,k1,k2⟩:=R2.sl i _ hA;obtain⟨R3,S3⟩:=R2.turn hA (k2.set j (rv.imp (R1.keep S2)));have ll:=k2.len;refine⟨a,us,j,j,rfl,rfl,k1,?_,c.nx _ σ _ q2 R3 (S1.trans (S2.trans S3))⟩;unfold iN;rw[if_pos (by omega),if_pos (by omega)];simp
 ·exact q.elim
end
theorem GG (is:List Int):∀ n,n<=is.length->preSum (λi=>is.getD i 0) n=(is.take n).sum
 |0,_=>by simp [preSum]
 |n+1,h=>by
  have ih:=GG is n (by omega);have e:is.take (n+1)=is.take n++[is[n]]:=by rw[take_add_one,cf (by omega)];rfl
  rw[e,sum_append,<- ih];simp [preSum,cf (show n<is.length by omega)]
theorem UD {X:Cx}(hc:X.calm=true):cx X (.builtin "sum") (λxs H Q=>∃(p:Addr)(is:List Int),xs=[.ref p]/\aO X.K H p (is.map V.int)/\Q (.int is.sum) H):=by
 intro pins s σ H xs us Q I r h;obtain⟨p,is,rfl,hl,q⟩:=h;obtain⟨u,rfl,ru⟩:=vals1 r;cases ru;obtain⟨its,rv,pl,hz⟩:=I.list hl
 have bK:p≠s.heap.objs.size:=by
  obtain⟨o,ho,_⟩:=pl.isList;exact bI (a0 ho)
 have hlen:its.length=is.length:=by
  have:=rv.length;rw[length_map] at this;omega
 refine call_sum_walkG (wpAny_pyIter_list pl.isList ?_);refine⟨s.heap.objs.size,_,_,_,_,_,λi=>is.getD i 0,rfl,Walks.list (A:=X.A.in1) (I.ok.hd hc) s.heap.objs.size p bK its.toArray,⟨⟨_,b6 _ rfl,rfl,rfl⟩,pl.isList.push _⟩,λb hb=>?_,λi v hv=>?_,λh' tk t' hk=>?_⟩
 ·simp only[mem_cons,not_mem_nil,or_false] at hb;obtain⟨o,ho,_⟩:=pl.isList;have:=a0 ho;rw[Heap.size_push];rcases hb with rfl|rfl
  ·exact Nat.lt_succ_self _
  ·exact Nat.lt_succ_of_lt this
 ·have GH:its[i]?=some v:=by simpa using hv
  have hi:i<its.length:=(c6 GH).1;have GI:i<is.length:=by omega
  obtain⟨u,hu,t,ru⟩:=rv.get (i:=i) (x:=V.int is[i]) (by rw[getElem?_map,cf GI];rfl);rw[GH] at hu;cases hu;exact⟨t,by rw[ru];simp [cf GI]⟩
 ·refine⟨.int is.sum,H,I.kept λb o e=>hk b o ?_ (a8 _ e),⟨t',?_⟩,q⟩
  ·intro hb;have:b=s.heap.objs.size:=by simpa using hb
   exact absurd (a0 e) (by rw[this];exact Nat.lt_irrefl _)
  ·have z:its.toArray.size=is.length:=by simp [hlen]
   rw[z,GG is is.length (ar _),take_length]
def ins:ai->Option (List Int)
 |[]=>some []
 |.int b::xs=>(ins xs).map (b::·)
 |_=>none
def GJ:G1
 |.lst xs,z=>∃ is,ins xs=some is/\z=.int is.sum
 |_,_=>False
section
variable {X:Cx}{K:Frag}{e:Expr}{pos p:Pos}{ue:UE}
theorem GK {N:Addr->Prop}{H:Hp}:∀{xs:ai}{vs:Zv}{bs:List Int},aI K N H xs vs->ins xs=some bs->vs=bs.map V.int
 |_,_,_,.nil,h=>by cases h;rfl
 |x::xs,_,bs,.cons r rs,h=>by
  cases x<;>first|(cases h;done)|skip
  rename_i b;obtain⟨cs,hc,rfl⟩:=Option.map_eq_some_iff.mp (show(ins xs).map (b::·)=some bs from h);cases r;rw[GK rs hc];rfl
theorem UH:lJ K (λxs H Q=>∃(p:Addr)(bs:List Int),xs=[.ref p]/\aO K H p (bs.map V.int)/\Q (.int bs.sum) H) GJ:=by
 intro H A σ x v z Q R q1 g c;cases x<;>first|exact g.elim|skip
 obtain⟨bs,hb,rfl⟩:=g;obtain⟨a,vs,rfl,h1,h2⟩:=q1.lst R;exact⟨a,bs,rfl,by rw[<- GK h2 hb];exact aO.of h1,c _ H (aR.refl H) (.int _)⟩
theorem UJ (hK:X.K=K)(hc:X.calm=true)(hm:X.mg "sum"=none)(he:PE X e (az K ue))(hg:Gl X "sum":=by rfl)(hs:starEach [e] X.env=[(false,eval e X.env)]:=by rfl):PE X (.Call (.Name "sum" p) [e] [] pos) (aB K (u1 GJ ue)):=by
 subst hK;exact sH (UD hc) UH PyProof.Rows.boot_sum hm he hg (hs:=hs)
end
theorem UK {kvs:bh}{vs:List (Key×Value)}(h:KV kvs vs){i:Nat}{kv:Key×V}(e:kvs[i]?=some kv):∃ u,vs[i]?=some (kv.1,u)/\RelV kv.2 u:=by
 unfold KV at h
 induction h generalizing i with
 |nil=>simp at e
 |@cons p q xs ys h1 h2 ih=>
  cases i with
  |zero=>
   simp only[getElem?_cons_zero,Option.some.injEq] at e;subst e;exact⟨q.2,by rw[getElem?_cons_zero,h1.1],h1.2⟩
  |succ i=>exact ih (by simpa using e)
section
variable {X:Cx}{o tg:Expr}{to:TE}{apos bg:Pos}
end
section
variable {X:Cx}{pins:aP}{σ aH:St}{H:Hp}{s:Shared}
theorem Inv.agree (I:Inv X pins σ H s)(hl:X.N.length<=aH.length)(h:∀ i,i<X.N.length->aH[i]?=σ[i]?):Inv X pins aH H s:=
 ⟨I.ok,I.os,I.bare,I.base,let ⟨m,hn,UL⟩:=I.loc;⟨m,hn,λi x v e1 e2 e3=>UL i x v e1 (by rw[<- h i (c6 e1).1];exact e2) e3⟩,I.cell,I.free,I.gn,I.pin,I.aA,hl⟩
end
section
variable {K:Frag}{H:Hp}{σ:St}{A:AS}
theorem pH {ae:cL}{n i:Nat}{s:Sl}(h:(ae++replicate n none)[i]?=some (some s)):ae[i]?=some (some s):=by
 by_cases hi:i<ae.length
 ·rwa [getElem?_append_left hi] at h
 ·rw[getElem?_append_right (Nat.le_of_not_lt hi),getElem?_replicate] at h
  split at h<;>cases h
def nk (n:Nat)(A:AS):AS:=⟨A.B,A.ae++replicate n none,A.S⟩
theorem Rep.pad (R:Rep K H σ A)(n:Nat):Rep K H (σ++replicate n none) (nk n A)/\ay A H (nk n A) H:=by
 have ow:∀ b,Own (nk n A).ae b->Own A.ae b:=λb ⟨i,c,h⟩=>⟨i,c,pH h⟩;have S:ay A H (nk n A) H:=⟨λ_ _ h _=>h,λb z=>.inl (ow b z),rfl,λ_ h=>h,rfl⟩;have kp:=R.keep S;refine⟨⟨?_,λi t h=>?_,R.c_,λi j a c c' h1 h2=>R.nd i j a c c' (pH h1) (pH h2),R.st,λi a c st h1 h2=>R.pk i a c st (pH h1) h2⟩,S⟩
 ·show(σ++_).length=(A.ae++_).length;rw[length_append,length_append,R.len];simp
 ·obtain⟨v,e,q⟩:=R.sl i t (pH h);refine⟨v,by rw[getElem?_append_left (c6 e).1];exact e,?_⟩
  cases t with
  |val x=>exact q.imp kp
  |own a c=>exact⟨q.1,q.2.1,q.2.2.imp kp λ_ h=>h⟩
  |peek a c=>exact⟨q.1,q.2.1,q.2.2.imp kp λ_ h=>h⟩
end
def GL (n:Nat)(u:US):US:=λE A=>u E (nk n A)
theorem UM {n:Nat}{u:US}{E:gH}{B:Addr->Prop}{ae:cL}{S:Option ag}:GL n u E ⟨B,ae,S⟩=u E ⟨B,ae++replicate n none,S⟩:=rfl
section
variable {X:Cx}{K:Frag}{u:US}{st:Stmt}{ss:List Stmt}
theorem UN (n:Nat)(h:cv X ss (b8 K u)):cv X ss (b8 K (GL n u)):=λpins s σ H D I w=>by
 obtain⟨A,E,R,h',k⟩:=w;obtain⟨R',S⟩:=R.pad n;refine h pins s (σ++replicate n none) H D (I.agree (bU I.len (by simp)) λi hi=>getElem?_append_left (dE hi I.len)) ⟨nk n A,E,R',h',k.step S⟩
theorem PS.postG {t t':TS}(h:PS X st t)(f:∀ D σ H,t' D σ H->t ⟨λbu H1=>∃ bE,(bE.length=bu.length/\∀ i,i<X.N.length->bE[i]?=bu[i]?)/\D.nx bE H1,D.rt,D.bk,D.ct⟩ σ H):PS X st t':=λpins s σ H D I w=>
 aD (h pins s σ H _ I (f _ _ _ w)) λfl s1 q=>by
  cases fl with
  |next=>
   obtain⟨aH,H',I',bE,⟨a,b⟩,q⟩:=q;exact⟨bE,H',I'.agree (by rw[a];exact I'.len) b,q⟩
  |_=>exact q
end
def GN (n i kj:Nat)(ue:UE):US:=λE A=>ue A λr A1=>∃(xs:ai)(a:Addr)(kvs:aS)(z:Str)(j:Nat),r=.lst xs/\A1.ae[i]?=some (some (.own a (.ah kvs)))/\A1.ae[kj]?=some (some (.val (.str z)))/\n<=j/\A1.ae[j]?=some none/\kvs.length<=1000000 /\
 ∀ p,E.nx (put (put A1 j (.own p (.lst xs))) i (.own a (.ah (dP kvs (.inr z) (.raw (.ref p))))))
section
variable {X:Cx}{K:Frag}{e:Expr}{ue:UE}{bz f6 pos cY:Pos}{k:Nat}
theorem UP (hr:bO k X.A)(n i kj:Nat){x y:Str}(he:PE X e (c3 K ue))(hn:X.N.length=n:=by rfl)(hN:X.N[i]?=some x:=by rfl)(hv:di X.env.scope x:=by walk_at "v")(hd:(x==("__debug__":Str))=false:=by decide)(bJ:(x==("__classdict__":Str))=false:=by decide)
  (yK:X.N[kj]?=some y:=by rfl)(yL:di X.env.scope y:=by walk_at "v")(hd2:(y==("__debug__":Str))=false:=by decide)(yM:(y==("__classdict__":Str))=false:=by decide)
  (hs:swapsWith e (some (.Subscript (.Name x bz) (.Name y f6) pos)) cY.line X.env=pure false:=by rfl):PS X (.Assign [.Subscript (.Name x bz) (.Name y f6) pos] e cY) (b8 K (GN n i kj ue)):=by
 refine PS.postG (jW (gB hr) (dY hN hv hd bJ) (dY yK yL hd2 yM) he hs) λD σ H ⟨A,E,R,h,c⟩=>?_;refine⟨A,_,R,h,λr A1 v H0 H1 q R1 S1 f=>?_⟩;obtain⟨xs,a,kvs,z,j,rfl,hi,hk,hj,UQ,aF,q⟩:=q;have ij:i≠j:=λe=>by rw[e,UQ] at hi;cases hi
 obtain⟨p,rfl,R2,S2⟩:=R1.fresh (i:=j) (c:=.lst xs) f;obtain⟨vi,ei,rfl,nb,Zz,_,_⟩:=R1.sl i _ hi;obtain⟨vk,ek,rk⟩:=R1.sl kj _ hk;have pI:vk=.str z:=by cases rk;rfl
 subst pI
 have hA:(put A1 j (.own p (.lst xs))).ae[i]?=some (some (.own a (.ah kvs))):=by
  show(A1.ae.set j _)[i]?=_;rw[getElem?_set_ne (Ne.symm ij)];exact hi
 obtain⟨_,_,_,_,us,g1,g2⟩:=R2.sl i _ hA;have ll:=g2.len;rw[length_map] at ll;obtain⟨R3,S3⟩:=R2.yn hA (sT g2 (.inr z) (.raw p));refine⟨_,ei,_,ek,a,_,rfl,iM.k (k:=.inr z) g1 (Nat.lt_of_le_of_lt (by omega:us.length<=1000000) (by decide)),σ.set j (some (.ref p)),⟨length_set ..,λl hl=>getElem?_set_ne (by omega)⟩,c.nx _ _ _ (q p) R3 (S1.trans (S2.trans S3))⟩
end
mutual
def toD:PV->PyData
 |.non=>.none
 |.bl b=>.bool b
 |.int i=>.int i
 |.str z=>.str z
 |.tup xs=>.tuple (fS xs)
 |.lst xs=>.list (fS xs)
 |.ah _=>.none
 |.raw _=>.none
def fS:ai->List PyData
 |[]=>[]
 |x::xs=>toD x::fS xs
end
mutual
def kr:PV->Bool
 |.tup xs=>lS xs
 |.lst xs=>lS xs
 |.ah _=>false
 |.raw _=>false
 |_=>true
def lS:ai->Bool
 |[]=>true
 |x::xs=>kr x&&lS xs
end
section
variable {X:Cx}{pins:aP}{σ:St}{H:Hp}{s:Shared}{N:Addr->Prop}
theorem UR (I:Inv X pins σ H s){x:PV}{v:V}(h:RV X.K N H x v):∀{u:Value},RelV v u->kr x=true->∃ as,Reads s.heap u (toD x) as:=by
 refine RV.rec (motive_1:=λx v _=>∀{u:Value},RelV v u->kr x=true->∃ as,Reads s.heap u (toD x) as)
  (motive_2:=λxs vs _=>∀{us:aC},Vals vs us->lS xs=true->∃ as,ReadsAll s.heap us (fS xs) as) (motive_3:=λ_ _ _=>True)
  ?_ ?_ ?_ ?_ ?_ ?_ ?_ ?_ ?_ ?_ trivial (λ_ _ _ _ _ _=>trivial) h
 ·intro u r _;cases (show u=Value.none from r);exact⟨_,.none⟩
 ·intro b u r _;cases (show u=Value.bool b from r);exact⟨_,.bool b⟩
 ·intro i u r _;obtain⟨t,rfl⟩:=r;exact⟨_,.int i t⟩
 ·intro z u r _;obtain⟨t,rfl⟩:=r;exact⟨_,.str z t⟩
 ·intro a u r p;cases p
 ·intro a xs vs sq rs ih u r p;cases r;obtain⟨its,rv,pl,_⟩:=I.tuple sq;obtain⟨o,e,c,n,d⟩:=(show s.heap.IsTuple a its.toArray from pl);obtain⟨as,q⟩:=ih rv p;exact⟨_,.tuple e c d (by simpa using q)⟩
 ·intro a xs vs n h1 rs ih u r p;cases r;obtain⟨its,rv,pl,_⟩:=I.list (aO.of h1);obtain⟨o,e,c,n,d⟩:=pl.isList;obtain⟨as,q⟩:=ih rv p;exact⟨_,.list e c d (by simpa using q)⟩
 ·intro a kvs av n h1 rs ih u r p;cases p
 ·intro us r _;cases r;exact⟨_,.nil⟩
 ·intro x v xs vs r1 r2 UU xp us r p
  cases r with
  |cons a b=>
   obtain⟨p1,p2⟩:=Bool.and_eq_true_iff.mp (show(kr x&&lS xs)=true from p);obtain⟨as,q1⟩:=UU a p1;obtain⟨bs,q2⟩:=xp b p2;exact⟨_,.cons q1 q2⟩
end
def GO (x z:PV):Prop:=((∃ xs,x=.tup xs)\/∃ xs,x=.lst xs)/\kr x=true/\(toD x).showable=true/\(toD x).hasDict=false/\(toD x).depth<=100/\(toD x).shown.length<=sizeLine/\z=.str (toD x).shown
section
variable {X:Cx}{K:Frag}{e:Expr}{pos p:Pos}{ue:UE}{k:Nat}
theorem UW (hr:bO k X.A):cx X (.builtin "repr") (λxs H Q=>∃(N:Addr->Prop)(q:Addr)(x:PV),xs=[.ref q]/\RV X.K N H x (.ref q)/\kr x=true/\(toD x).showable=true/\(toD x).hasDict=false/\(toD x).depth<=100/\(toD x).shown.length<=sizeLine/\Q (.str (toD x).shown) H):=by
 intro pins s σ H xs us Q I r h;obtain⟨N,a,x,rfl,rv,p1,p2,p3,p4,p5,q⟩:=h;obtain⟨u,rfl,ru⟩:=vals1 r;cases ru;obtain⟨as,rd⟩:=UR I rv (u:=.ref a) rfl p1;refine repr_of_reads' rd p2 (λz=>by rw[p3] at z;cases z) hr.gd (by have:=hr.un;omega) (λ_ _ e=>e) (λh' u tk kp=>⟨.str _,H,I.kept (t':=tk) kp,⟨u,rfl⟩,q⟩) p5
theorem GP (hK:X.K=K)(hr:bO k X.A)(hm:X.mg "repr"=none)(he:PE X e (az K ue))(hg:Gl X "repr":=by rfl)(hs:starEach [e] X.env=[(false,eval e X.env)]:=by rfl):PE X (.Call (.Name "repr" p) [e] [] pos) (aB K (u1 GO ue)):=by
 subst hK;refine sH (UW hr) ?_ PyProof.Rows.boot_repr hm he hg (hs:=hs);intro H A σ x v z Q R q1 g c;obtain⟨t,p1,p2,p3,p4,p5,rfl⟩:=g;rcases t with ⟨xs,rfl⟩|⟨xs,rfl⟩
 ·obtain⟨a,vs,rfl,h1,h2⟩:=q1.tup;exact⟨AN A,a,_,rfl,.tup h1 h2,p1,p2,p3,p4,p5,c _ H (aR.refl H) (.str _)⟩
 ·obtain⟨a,vs,rfl,h1,h2⟩:=q1.lst R;exact⟨λ_=>False,a,_,rfl,.lst (λz=>z) h1 (h2.imp ⟨λ_ _ h=>h,λb o n e=>⟨λz=>z,e⟩⟩),p1,p2,p3,p4,p5,c _ H (aR.refl H) (.str _)⟩
end
def GQ (x z:PV):Prop:=∃ kvs,x=.ah kvs/\z=.int kvs.length
theorem UX {kvs:aS}{z:PV}:GQ (.ah kvs) z=(z=.int kvs.length):=propext ⟨fun⟨_,e,h⟩=>by cases e;exact h,λh=>⟨_,rfl,h⟩⟩
section
variable {X:Cx}{K:Frag}{e:Expr}{pos p:Pos}{ue:UE}{k:Nat}
theorem UY:cx X (.builtin "len") (λxs H Q=>∃(q:Addr)(av:bh),xs=[.ref q]/\Rd H q (.dK av)/\Q (.int av.length) H):=by
 intro pins s σ H xs us Q I r h;obtain⟨a,av,rfl,h1,q⟩:=h;obtain⟨u,rfl,ru⟩:=vals1 r;cases ru;obtain⟨hz,ne,vs,rel,d⟩:=mx I.aA h1;have hl:vs.length=av.length:=rel.length.symm;have hs:sizeLine=16777216:=sizeLine_eq;exact call_len_dict ne d (by omega) ⟨.int _,H,I.tok _,⟨_,by rw[hl]⟩,q⟩
theorem UZ (hK:X.K=K)(hm:X.mg "len"=none)(he:PE X e (az K ue))(hg:Gl X "len":=by rfl)(hs:starEach [e] X.env=[(false,eval e X.env)]:=by rfl):PE X (.Call (.Name "len" p) [e] [] pos) (aB K (u1 GQ ue)):=by
 subst hK;refine sH UY ?_ PySem.boot_len hm he hg (hs:=hs);intro H A σ x v z Q R q1 g c;obtain⟨kvs,rfl,rfl⟩:=g;obtain⟨a,av,rfl,h1,h2⟩:=q1.ah R;refine⟨a,av,rfl,h1,?_⟩;have e:av.length=kvs.length:=by have:=h2.len;simpa using this.symm
 rw[e];exact c _ H (aR.refl H) (.int _)
end
theorem GR:entryFor table "proto.contains_iter"=some Builtin.«proto.contains_iter»:=entryFor_of_tree (by kernel_rfl)
theorem yN:plainId "proto.contains_iter"=true:=by decide +kernel
theorem GS:typeLookup (.type "dict_values") "__contains__"=pure none:=am_miss_of_fast (by kernel_rfl)
section
variable {prog:Program}{w:World}{A:Around}{R:Result->Shared->Prop}
theorem U0 {vs:List (Key×Value)}{zs:aq}{a it:Addr}{ep:Nat}{z:Str}{t:Tok}(hA:A.handled=none)(hv:∀(i:Nat)(kv:Key×Value),vs[i]?=some kv->∃(u:Tok)(y:Str),kv.2=.str y u/\zs[i]?=some y)(hz:zs.length=vs.length)(bK:a≠it) :
  ∀(c i:Nat)(s:Shared),vs.length-i=c->i<=vs.length->s.heap.IsValIter it a i vs.length ep->s.heap.DictAt (bM prog w) a vs ep ->
   (∀ h',(∀ b o,b≠it->s.heap.get? b=some o->h'.get? b=some o)->R (.ok (.ret (.bool ((zs.drop i).contains z)))) { s with heap:=h' })->codeAny (model prog w) A (.builtin "proto.contains_iter" ⟨[.ref it,.str z t],[]⟩) R s:=by
 intro c
 induction c with
 |zero=>
  intro i s hk hi st da fin;have e:i=vs.length:=by omega
  subst e;refine codeAny_builtin GR ?_;rw[Around.under_plainId yN _];show wpAny _ A.in1 (pyNext (.ref it) >>= _) _ _ s;refine af (wpAny_pyNext_values_end hA st da (getElem?_eq_none (ar _)) λh' eb=>?_);refine af (wpAny_rule ?_);refine ao ?_;have:=fin h' eb;rw[<- hz,drop_length] at this;exact this
 |succ c ih=>
  intro i s hk hi st da fin;have lt:i<vs.length:=by omega
  refine codeAny_builtin GR ?_;rw[Around.under_plainId yN _];show wpAny _ A.in1 (pyNext (.ref it) >>= _) _ _ s;obtain⟨u,y,hy,U1⟩:=hv i vs[i] (cf lt);have hu:vs[i]?=some (vs[i].1,Value.str y u):=by rw[<- hy];exact cf lt
  refine af (wpAny_pyNext_values_item st da hu λh' st' sb=>?_)
  have dr:zs.drop i=y::zs.drop (i+1):=by
   obtain⟨h1,h2⟩:=c6 U1;rw[drop_eq_getElem_cons h1,h2]
  dsimp only;refine af (wpAny_eqBool_str ?_);have kp:∀ b o,b≠it->s.heap.get? b=some o->h'.get? b=some o:=λb o hb e=>(sb.2 b hb).trans e;by_cases e:y=z
  ·rw[if_pos (by simpa using e)];refine af (wpAny_rule ?_);refine ao ?_;have:=fin h' kp;rw[dr,contains_cons,e,beq_self_eq_true,Bool.true_or] at this;exact this
  ·rw[if_neg (by simpa using e)];refine ao ⟨plainId_quiet yN _,ih (i+1) _ (by omega) lt st' ?_ λh2 k2=>?_⟩
   ·obtain⟨o,es,ho,r⟩:=da;exact⟨o,es,kp a o bK ho,r⟩
   ·have:=fin h2 λb o hb e=>k2 b o hb (kp b o hb e);rw[dr,contains_cons,show(z==y)=false by simpa using λq=>e q.symm,Bool.false_or] at this;exact this
end
theorem U2 {prog:Program}{w:World}{A:Around}{E:aG}{s:Shared}{vs:List (Key×Value)}{zs:aq}{a v:Addr}{ep:Nat}{z:Str}{t:Tok}{Q:Bool->Shared->Prop}(hA:A.handled=none)(hv:∀(i:Nat)(kv:Key×Value),vs[i]?=some kv->∃(u:Tok)(y:Str),kv.2=.str y u/\zs[i]?=some y)(hz:zs.length=vs.length)
  (iv:s.heap.IsValuesView v a)(da:s.heap.DictAt (bM prog w) a vs ep)(fin:∀ h',(∀ b o,s.heap.get? b=some o->h'.get? b=some o)->Q (zs.contains z) { s with heap:=h' }):wpAny (model prog w) A (PySem.contains (.ref v) (.str z t)) Q E s:=by
 unfold PySem.contains;refine wpAny_holding ?_;have hT:=iv.typeIs;rw[stdlibNamesSay?_of_typeIs hT];refine af (wpAny_specialOf hT GS ?_);show wpAny _ A (if ((none:Option Value)==some Value.none)=true then _ else _) Q E s;rw[if_neg (by simp)];refine af ?_;unfold callSpecialUnlessNone?;refine af (wpAny_specialOf hT GS ?_);refine ao ?_;dsimp only;refine af (wpAny_rule ?_);refine af (wpAny_tryCatch (wpAny_pyIter_values (knd:=bM prog w) (kvs:=vs) (ep:=ep) iv da ?_));obtain⟨o,es,ho,r⟩:=id da;have bK:a≠s.heap.objs.size:=bI (a0 ho);refine af (wpAny_runValue (U0 (vs:=vs) (zs:=zs) (a:=a) (it:=s.heap.objs.size) (ep:=ep) hA hv hz bK _ 0 _ rfl (Nat.zero_le _) ⟨_,b6 _ rfl,rfl,rfl⟩ ⟨o,es,a8 _ ho,r⟩ λh' k=>?_));dsimp only[drop_zero];refine ao (fin h' λb o e=>k b o (bI (a0 e)) (a8 _ e))
def GU (ty to:TE):TE:=λσ H Q=>ty σ H λy H1=>to σ H1 λx H2=>∃(a:Addr)(od:Obj)(av:bh)(zs:aq)(z:Str),x=.ref a/\H2 a=some (.bB od (.dK av))/\y=.str z/\av.map (·.2)=zs.map V.str/\Q (.bl (zs.contains z)) H2
section
variable {X:Cx}{i o:Expr}{ty to:TE}{apos bg:Pos}
theorem U3 (hc:X.calm=true)(hi:PE X i ty)(ho:PE X o to)(d0:attributeBase o "values" X.env (eval o X.env)=eval o X.env:=by rfl)(d5:(apos.endLine==bg.line)=true:=by rfl):PC X .In i (.Call (.Attribute o "values" apos) [] [] bg) (GU ty to):=by
 intro pins s σ H Q I h;refine aD (hi pins s σ H _ I h) λiv s1 ⟨y,H1,I1,ry,q1⟩=>?_;refine wpAny_Call_method0_late d0 d5 (aD (ho pins s1 σ H1 _ I1 q1) λu s2 ⟨x,H2,I2,rx,a,od,av,zs,z,ex,hq,ey,ez,q2⟩=>?_);subst ex ey;cases rx;obtain⟨t,rfl⟩:=ry;obtain⟨⟨e,_⟩,_,n,vs,r,ob,es,ep,e',c,d,p1,p2,p3⟩:=id (I2.aA a _ hq);rw[e] at e';cases e';have ty:s2.TypeIs (.ref a) "dict":=⟨od,e,c.1⟩;refine⟨"dict","dict.values",PySem.F.plainAttrs_dict,PySem.F.slot_dict_values,PySem.F.type_dict_values,ty,λb eb=>by cases eb;exact⟨od,e,c.2.1⟩,Calls.callWith_builtin rfl (PySem.evalArgs_none ?_)⟩;refine call_meetsIn PySem.F.slot_dict_values ty PySem.F.entry_dict_values (PySem.F.args_dict_values_1 _) (meets_dict_values (bM X.prog X.w) a n) ⟨⟨vs,od,es,ep,e,c,d,p1,p2,p3⟩,?_⟩;have U4:Heap.IsValuesView (s2.heap.push { cls:=.type "dict_values",data:=.fields #[.ref a] }) s2.heap.objs.size a:=⟨_,b6 _ rfl,rfl,rfl⟩;have I3:Inv X pins σ H2 { s2 with heap:=s2.heap.push { cls:=.type "dict_values",data:=.fields #[.ref a] } }:=I2.kept (t':=s2.toks) λb o e=>a8 _ e;show wpAny _ _ (PySem.contains _ _ >>= _) _ _ _;refine af (U2 (zs:=zs) (vs:=vs) (I2.ok.hd hc) (λj kv hj=>?_) ?_ U4 ⟨od,es,a8 _ e,c,d,p1,p2,p3⟩ λh' kp=>ao ⟨.bl _,H2,I3.kept (t':=s2.toks) kp,rfl,q2⟩)
 ·have hl:=r.length;have gM:j<av.length:=by rw[hl];exact(c6 hj).1
  obtain⟨u,hu,ru⟩:=UK r (cf gM);rw[hu] at hj;cases hj;have e3:(av.map (·.2))[j]?=(zs.map V.str)[j]?:=by rw[ez]
  rw[getElem?_map,getElem?_map,cf gM] at e3
  cases GV:zs[j]? with
  |none=>rw[GV] at e3;cases e3
  |some y=>
   rw[GV] at e3;have e4:av[j].2=V.str y:=by simpa using e3
   rw[e4] at ru;obtain⟨tt,rfl⟩:=ru;exact⟨tt,y,rfl,rfl⟩
 ·have:=congrArg List.length ez;rw[length_map,length_map] at this;rw[<- this,r.length]
end
def yO:G2
 |.str z,.ah kvs,r=>∃ zs:aq,kvs.map Prod.snd=zs.map PV.str/\r=.bl (zs.contains z)
 |_,_,_=>False
theorem U5 {z:Str}{kvs:aS}{r:PV}:yO (.str z) (.ah kvs) r=∃ zs:aq,kvs.map Prod.snd=zs.map PV.str/\r=.bl (zs.contains z):=rfl
theorem GW {K:Frag}{N:Addr->Prop}{H:Hp}:∀{xs:aS}{ws:List (V×V)}{zs:aq},bQ K N H xs ws->xs.map Prod.snd=zs.map PV.str->ws.map Prod.snd=zs.map V.str
 |[],_,[],.nil,_=>rfl
 |[],_,_::_,.nil,e=>by cases e
 |_::_,_,[],.cons _ _ _,e=>by cases e
 |(k,x)::xs,_,z::zs,.cons a b c,e=>by
  simp only[map_cons,cons.injEq] at e;obtain⟨rfl,e2⟩:=e;have:=GW c e2;cases b;simp only[map_cons,this]
section
variable {X:Cx}{K:Frag}{ke de:Expr}{uk ud:UE}{pos apos bg:Pos}{k:Nat}
theorem U6 {σ:St}{H:Hp}{Q:VK}(h:aB K (u2 yO uk ud) σ H Q):GU (az K uk) (aB K ud) σ H Q:=by
 obtain⟨A,P,R,h,c⟩:=h
 exact⟨A,_,R,h,λy A1 w H1 p1 R1 S1 q1=>⟨A1,_,R1,p1,λx A2 v H2 p2 R2 S2 rv=>by
  obtain⟨e,r,g,p⟩:=p2;cases y<;>first|exact g.elim|skip
  cases x<;>first|exact g.elim|skip
  obtain⟨zs,e1,rfl⟩:=g;have U7:=q1.step R1 S2 e;cases U7.str
  cases rv with
  |ah n h1 h2=>
   obtain⟨av,od,h1,rfl⟩:=h1;have:=GW h2 e1;rw[map_map] at this
   exact⟨_,od,av,zs,_,rfl,h1,rfl,this,c _ A2 _ H2 p R2 (S1.trans S2) (.bl _)⟩⟩⟩
theorem U8 (hc:X.calm=true)(hk:PE X ke (az K uk))(hd:PE X de (aB K ud))(d0:attributeBase de "values" X.env (eval de X.env)=eval de X.env:=by rfl)(d5:(apos.endLine==bg.line)=true:=by rfl)(hm:behindInMarks .In (.Call (.Attribute de "values" apos) [] [] bg)=false:=by rfl) :
  PT X (.Compare ke [.In] [.Call (.Attribute de "values" apos) [] [] bg] pos) (liftT K (uB (u2 yO uk ud))):=
 (AQ (U3 hc hk hd d0 d5) hm).mono (FZ λσ H Q h=>U6 h)
end
end L2
namespace HE
open PySem PyProof.Rows
open PySem.AutoSeq1 (wpAny_loadPart')
section
variable {prog:Program}{w:World}{A:Around}{E:aG}{s:Shared}
theorem U9 (a b:Value):checkTypeCall "enumerate" { pos:=[a,b] }=pure ():=by first|rfl|(with_unfolding_all rfl)
theorem U_ (a b:Value):checkBuiltinCall "enumerate.__new__" { pos:=[.type "enumerate",a,b] }=pure ():=by first|rfl|(with_unfolding_all rfl)
theorem U' {e it l:Addr}{i:Nat}{c:Int}{its:Array Value}{x old:Value}{Q:aG}(he:IsEnum s.heap e it c old)(hit:s.heap.IsTupleIter it l i)(hl:s.heap.IsTuple l its)(hx:its[i]?=some x)(bK:e≠it)
  (hQ:∀ h',IsEnumOut h' e it (c+1) x s.heap.objs.size->h'.IsTupleIter it l (i+1)->h'.get? s.heap.objs.size=some { cls:=.type "tuple",data:=.seq #[.int c s.toks,x] } ->
   (∀ b o,b≠e->b≠it->s.heap.get? b=some o->h'.get? b=some o)->Q (.ref s.heap.objs.size) { s with heap:=h',toks:=s.toks+1 }) :
  wpAny (model prog w) A (Builtin.«enumerate.__next__» ⟨[.ref e],[]⟩) (λfin s'=>∃ v,fin=.done (.ret v)/\Q v s') E s:=by
 obtain⟨hp,g,d,tk,os⟩:=s;show wpAny _ _ (field (.ref e) 2 >>= _) _ _ _;refine af (wpAny_field he rfl (x:=.ref it) rfl ?_);refine af (HZ.M_ hit hl hx λh1 Va s1=>?_);have e1:IsEnum h1 e it c old:=(s1.2 e bK).trans he;show wpAny _ _ (field (.ref e) 3 >>= _) _ _ ⟨h1,g,d,tk,os⟩;refine af (wpAny_field e1 rfl (x:=rawInt c) rfl ?_);show wpAny _ _ (field (.ref e) 4 >>= _) _ _ ⟨h1,g,d,tk,os⟩;refine af (wpAny_field e1 rfl (x:=.none) rfl ?_);show wpAny _ _ (mkInt c >>= _) _ _ ⟨h1,g,d,tk,os⟩;refine af (wpAny_mkInt ?_);show wpAny _ _ (setField (.ref e) 3 (rawInt (c+1)) >>= _) _ _ ⟨h1,g,d,tk+1,os⟩;refine af (wpAny_setField_rec e1 (by simp) λh2 e2 s2=>?_);have Vb:IsEnum h2 e it (c+1) old:=e2;show wpAny _ _ (setField (.ref e) 4 .none >>= _) _ _ ⟨h2,g,d,tk+1,os⟩;refine af (wpAny_setField_rec Vb (by simp) λh3 e3 s3=>?_);have Vc:IsEnum h3 e it (c+1) old:=e3;have z3:h3.objs.size=hp.objs.size:=by rw[s3.1];exact s2.1.trans s1.1
 show wpAny _ _ (newTuple [.int c tk,x] >>= _) _ _ ⟨h3,g,d,tk+1,os⟩;refine af (wpAny_newTuple ?_);generalize hh:h3.push { cls:=.type "tuple",data:=.seq [Value.int c tk,x].toArray }=h4;have e4:IsEnum h4 e it (c+1) old:=by rw[<- hh];exact a8 _ Vc
 have t4:h4.get? hp.objs.size=some { cls:=.type "tuple",data:=.seq #[.int c tk,x] }:=by rw[<- hh,<- z3];exact b6 _ rfl
 have k4:∀ b o,b≠e->b≠it->hp.get? b=some o->h4.get? b=some o:=λb o n1 n2 hb=>by rw[<- hh];exact a8 _ (s3.extBut b o n1 (s2.extBut b o n1 (s1.extBut b o n2 hb)))
 have Vd:h4.IsTupleIter it l (i+1):=by
  obtain⟨o,ho,r⟩:=(Va.extBut s2.extBut (Ne.symm bK)).extBut s3.extBut (Ne.symm bK);rw[<- hh];exact⟨o,a8 _ ho,r⟩
 have Ve:hp.objs.size≠e:=Nat.ne_of_gt (a0 he);rw[z3];show wpAny _ _ (Builtin.SmallTypes.ownedTupleIsFree (.ref e) >>= _) _ _ ⟨h4,g,d,tk+1,os⟩;refine af ?_;unfold Builtin.SmallTypes.ownedTupleIsFree;refine af (wpAny_field e4 rfl (x:=.none) rfl (ao ?_));simp only[if_true];refine af (wpAny_rule ?_);refine af (wpAny_field e4 rfl (x:=old) rfl ?_);refine af (wpAny_setField_rec e4 (by simp) λh5 e5 s5=>?_);have Vf:IsEnum h5 e it (c+1) x:=e5;show wpAny _ _ (Builtin.SmallTypes.ownedTupleHandOut (.ref e) (.ref hp.objs.size) >>= _) _ _ ⟨h5,g,d,tk+1,os⟩;refine af ?_;unfold Builtin.SmallTypes.ownedTupleHandOut;refine af (wpAny_setField_rec Vf (by simp) λh6 e6 s6=>?_);have Vg:IsEnumOut h6 e it (c+1) x hp.objs.size:=e6;refine wpAny_setField_rec Vg (by simp) λh7 e7 s7=>?_;have up:∀ b o,b≠e->h4.get? b=some o->h7.get? b=some o:=λb o n q=>s7.extBut b o n (s6.extBut b o n (s5.extBut b o n q));refine af (wpAny_letGo (ao ⟨_,rfl,hQ h7 e7 ?_ (up _ _ Ve t4) λb o n1 n2 q=>up b o n1 (k4 b o n1 n2 q)⟩));exact Vd.at λo q=>up it o (Ne.symm bK) q
theorem Vh (mK:Tok)(l:Addr)(its:Array Value)(n:Nat)(yP:Option Addr)(sl:Array (Option Value)) :
  Meets (Builtin.«enumerate.__new__» ⟨[.type "enumerate",.ref l,.int 1 mK],[]⟩) (λ_ R s=>s.heap.get? l=some { cls:=.type "tuple",dict:=yP,data:=.seq its n,slots:=sl } /\
   R (.ok (.ret (.ref (HZ.oP s.heap l).objs.size))) { s with heap:=(HZ.oP s.heap l).push { cls:=.type "enumerate",data:=.fields #[.none,.bool false,.ref s.heap.objs.size,rawInt 1,.none,.none] } }):=
 .of_wp λprog w A R s h=>by
  obtain⟨hp,g,d,tk,os⟩:=s;obtain⟨hl,h⟩:=h;have ZA:=sub_enumerate;have hL:Heap.IsTuple (Shared.heap ⟨hp,g,d,tk,os⟩) l its:=⟨_,hl,rfl,n,rfl⟩;wp_walk using wpAny_loadPart' hl
  refine wpAny_stack_any λst=>ao ?_
  split
  ·rename_i c _ _ _ _ _;cases (c==Value.type "enumerate")<;>(wp_walk using wpAny_loadPart' hl,wpAny_pyIter_tuple hL;exact⟨_,rfl,h⟩)
  ·wp_walk using wpAny_loadPart' hl,wpAny_pyIter_tuple hL;exact⟨_,rfl,h⟩
theorem Vi {mK:Tok}{l:Addr}{its:Array Value}{Q:aG}(hL:s.heap.IsTuple l its)
  (h:∀ h',IsEnum h' (s.heap.objs.size+1) s.heap.objs.size 1 .none->h'.IsTupleIter s.heap.objs.size l 0->(∀ b o,s.heap.get? b=some o->h'.get? b=some o)->Q (.ref (s.heap.objs.size+1)) { s with heap:=h' }) :
  wpAny (model prog w) A (call (.type "enumerate") [.ref l,.int 1 mK]) Q E s:=by
 obtain⟨⟨c,yP,dt,sl⟩,hl,hc,n,hd⟩:=hL;simp only at hc hd;subst hc hd;refine callType_new PySem.F.called_enumerate (by decide) (U9 _ _) (U_ _ _) (λobj=>PySem.F.args_object_init_3 obj _ _) PySem.F.entry_enumerate_new (Vh mK l its n yP sl) ⟨hl,?_⟩;have z1:(HZ.oP s.heap l).objs.size=s.heap.objs.size+1:=Heap.size_push ..;have g2:((HZ.oP s.heap l).push { cls:=.type "enumerate",data:=.fields #[.none,.bool false,.ref s.heap.objs.size,rawInt 1,.none,.none] }).get? (HZ.oP s.heap l).objs.size=some _:=b6 _ rfl;show _/\_;rw[z1] at g2 ⊢;exact⟨⟨_,g2,rfl⟩,h _ g2 ⟨_,a8 _ (b6 _ rfl),rfl,rfl⟩ λb o x=>a8 _ (a8 _ x)⟩
end
end HE
namespace L2
open PySem PySem.Spec PyProof.Rows
def pJ (K:Frag)(l:Addr):It:=
 ⟨λi H=>∃ xs x,bq K H l xs/\xs[i]?=some x,
 λi H v H'=>∃ p x,H p=none/\v=.ref p/\H'=upd H p (.tup [.int ((i:Int)+1),x])/\∀ xs,bq K H l xs->xs[i]?=some x,
 λi H=>∃ xs,bq K H l xs/\xs.length<=i⟩
def Vj (e it l:Addr)(i:Nat)(h:Heap):Prop:=(∃ old,IsEnum h e it ((i:Int)+1) old)/\h.IsTupleIter it l i
theorem Vk {P:Program}{w:World}{K:Frag}{es:List Expr}{k:Nat}{pos:Pos}{e it l:Addr}(bK:e≠it):Turn P w K (.Tuple es k pos) (pJ K l) [e,it] e (Vj e it l) where
 mem:=by simp
 obj:=λi h st b hb=>by
  obtain⟨⟨old,t1⟩,⟨o4,e4,_,d4⟩⟩:=st;simp only[mem_cons,not_mem_nil,or_false] at hb;rcases hb with rfl|rfl
  ·exact⟨_,t1,λv r=>by cases (show Data.fields _=Data.cell v from r)⟩
  ·exact⟨o4,e4,λv r=>by rw[d4] at r;cases r⟩
 keep:=λi h h' st kp=>by
  obtain⟨⟨old,t1⟩,t4⟩:=st;exact⟨⟨old,kp e (by simp) _ t1⟩,t4.at λo q=>kp it (by simp) o q⟩
 item:=by
  intro X hP hw hK hc i pins s σ H E I hf st hg;subst hP hw hK;obtain⟨xs,x,q1,hx⟩:=hg;obtain⟨us,r1,p1,_⟩:=I.tuple q1;obtain⟨u,hu,ru⟩:=r1.get hx;obtain⟨⟨old,t1⟩,t4⟩:=st;have hT:s.TypeIs (.ref e) "enumerate":=⟨_,t1,rfl⟩;unfold pyNext
  refine af (wpAny_attempt (wpAny_callSpecial?_slot (name:=Str.ofString "__next__") hT PySem.F.slot_enumerate_next (wpAny_call_entry PySem.F.slot_enumerate_next hT PySem.F.entry_enumerate_next
   (HE.U' t1 t4 (show s.heap.IsTuple l us.toArray from p1) (x:=u) (by simpa using hu) bK λh' a1 a2 a3 kp=>ao ⟨_,rfl,?_⟩) (PySem.F.args_enumerate_next_1 _))))
  refine wpAny_letOwnedTupleGo_enum a1 λh2 b1 sb=>?_;have fr:H s.heap.objs.size=none:=I.aA.fresh (ar _);have nz:s.heap.objs.size≠e:=Nat.ne_of_gt (a0 t1);have nq:∀ b o,b≠e->b≠it->s.heap.get? b=some o->h2.get? b=some o:=λb o n1 n2 q=>sb.extBut b o n1 (kp b o n1 n2 q)
  have tF:∀ f,f∈[e,it]->∀ b u',H b=some u'->b≠f:=λf hm b u' q r=>by
   rw[r,(hf f hm).1] at q;cases q
  have Vl:cq X.prog X.w (upd H s.heap.objs.size (.tup [.int ((i:Int)+1),x])) h2:=by
   intro b ob q;by_cases hb:b=s.heap.objs.size
   ·subst hb;rw[bD] at q;cases q;exact⟨by show 2<=sizeLine;decide,[_,u],.cons ⟨s.toks,rfl⟩ (.cons ru .nil),⟨_,sb.extBut _ _ nz a3,rfl,_,rfl⟩⟩
   ·rw[a7 hb] at q;refine(I.aA b ob q).me (hc:=λd zs q'=>by rw[a7 (dF q' fr)];exact q') (λd w' hd q'=>?_) (λd q'=>by rw[a7 (dF q' fr)];exact q') λd zs q'=>by rw[a7 (dF q' fr)];exact q'
    rcases hd with rfl|hd
    ·exact nq _ _ (tF e (by simp) _ _ q) (tF it (by simp) _ _ q) q'
    ·exact nq _ _ (tF e (by simp) _ _ hd) (tF it (by simp) _ _ hd) q'
  have I2:Inv X pins σ (upd H s.heap.objs.size (.tup [.int ((i:Int)+1),x])) { s with heap:=h2,toks:=s.toks+1 }:=by
   refine I.step (g':=s.gens) (d':=s.drawn) (t':=s.toks+1) (ch:=[e,it]) (λb hb=>?_) (λb o _ _ c8 q _=>?_) (λb o _ _ c8 q _=>⟨o.slots,?_⟩) (λb o c8 q n=>?_) (λb o c8 q=>⟨o,?_⟩) (λb zs q=>?_) (λb o zs q=>?_) (λb ps q=>⟨#[],?_⟩) (λm hm=>?_) Vl I.bare
   ·obtain⟨f0,f1,f2,f3,f4,f5⟩:=hf b hb;exact⟨f3,f1,f4,f5⟩
   ·exact nq b o (λr=>c8 (by simp [r])) (λr=>c8 (by simp [r])) q
   ·exact nq b o (λr=>c8 (by simp [r])) (λr=>c8 (by simp [r])) q
   ·rw[a7 (bI (a0 q))];exact n
   ·exact nq b o (λr=>c8 (by simp [r])) (λr=>c8 (by simp [r])) q
   ·rw[a7 (dF q fr)];exact q
   ·rw[a7 (dF q fr)];exact q
   ·rw[a7 (dF q fr),q];simp
   ·obtain⟨o,dH,ep,q,r⟩:=hm;exact⟨o,dH,ep,nq _ o (Ne.symm (hf e (by simp)).2.1) (Ne.symm (hf it (by simp)).2.1) q,r⟩
  refine⟨.ref s.heap.objs.size,_,I2,rfl,⟨_,x,fr,rfl,rfl,λzs hz=>by rw[I.uU hz q1];exact hx⟩,⟨⟨_,by simpa using b1⟩,a2.at λo q=>sb.extBut _ o bK.symm q⟩,λb hb=>?_⟩
  have eE:b<s.heap.objs.size:=by
   simp only[mem_cons,not_mem_nil,or_false] at hb;obtain⟨o4,e4,_⟩:=t4;rcases hb with rfl|rfl
   ·exact a0 t1
   ·exact a0 e4
  rw[a7 (bI eE)];exact(hf b hb).1
 done:=by
  intro X hP hw hK hc i pins s σ H E I hf st hg;subst hP hw hK;obtain⟨xs,q1,ZC⟩:=hg;obtain⟨us,r1,p1,_⟩:=I.tuple q1;obtain⟨⟨old,t1⟩,t4⟩:=st;have GX:=r1.length;have hT:s.TypeIs (.ref e) "enumerate":=⟨_,t1,rfl⟩;unfold pyNext;refine af (wpAny_attempt (wpAny_callSpecial?_slot (name:=Str.ofString "__next__") hT PySem.F.slot_enumerate_next (wpAny_call_entry PySem.F.slot_enumerate_next hT PySem.F.entry_enumerate_next ?_ (PySem.F.args_enumerate_next_1 _))));show wpAny _ _ (field (.ref e) 2 >>= _) _ _ _;refine af (wpAny_field t1 rfl (x:=.ref it) rfl ?_);refine af (HZ.M' (I.ok.hd hc) t4 (show s.heap.IsTuple l us.toArray from p1) (by simp;omega) λh' y kp hy=>?_);obtain⟨o,ho,yt⟩:=hy;refine af (wpAny_isInstance (T:="StopIteration") (b:=true) ⟨o,ho,yt⟩ isSubtype_stop (ao ⟨rfl,?_⟩));obtain⟨f0,f1,f2,f3,f4,f5⟩:=hf it (by simp);exact Inv.turned (t':=s.toks) I (λb o n q=>kp b o n q) f0 f1 f3 f4 f5
 self:=λA i s Q E st h=>by obtain⟨⟨old,t1⟩,_⟩:=st;exact wpAny_pyIter_enum t1 h
def Vm (K:Frag)(ta:TA):TI:=λσ H R=>ta σ H λvs H1=>∃ l xs,vs=[.ref l,.int 1]/\bq K H1 l xs/\R (pJ K l) H1
theorem Vn {X:Cx}{es:List Expr}{k:Nat}{tp:Pos}{a b:Expr}{ta:TA}{p pos:Pos}(hg:Gl X "enumerate")(hm:X.mg "enumerate"=none)(hv:bootBuiltins "enumerate"=some (.type "enumerate"))(ha:PA X [a,b] ta)
  (hs:starEach [a,b] X.env=[(false,eval a X.env),(false,eval b X.env)]:=by rfl)(hs2:starEach [b] X.env=[(false,eval b X.env)]:=by rfl):PI X (.Tuple es k tp) (.Call (.Name "enumerate" p) [a,b] [] pos) (Vm X.K ta):=by
 intro pins s σ H R I h;refine Call_ (mj I hg hm hv (PyProof.Rows.callWith_type1 (aD (ha pos pins s σ H _ I h) λus s1 ⟨vs,H1,I1,r1,q1⟩=>?_) (by rw[hs,hs2]) (by rw[hs2];rfl)));obtain⟨l,xs,e,h1,q⟩:=q1;subst e;obtain⟨u,u2,rfl,ru,mK,rfl⟩:=(show ∃ u u2,us=[u,u2]/\RelV (.ref l) u/\RelV (.int 1) u2 by cases r1 with|cons r rr=>cases rr with|cons r2 rr=>cases rr;exact⟨_,_,rfl,r,r2⟩);cases ru;obtain⟨us,r1,p1,_⟩:=I1.tuple h1;refine HE.Vi (show s1.heap.IsTuple l us.toArray from p1) λh' a1 a2 kp=>?_;refine wpAny_pyIter_enum a1 ?_;refine⟨s1.heap.objs.size+1,[s1.heap.objs.size+1,s1.heap.objs.size],_,_,H1,rfl,I1.kept (t':=s1.toks) kp,Vk (l:=l) (by show(_:Nat)≠(_:Nat);omega),⟨⟨_,a1⟩,a2⟩,λb hb=>?_,q⟩
 have oW:s1.heap.objs.size<=b:=by
  simp only[mem_cons,not_mem_nil,or_false] at hb;rcases hb with rfl|rfl
  ·exact Nat.le_add_right _ _
  ·exact ar _
 exact I1.jO oW (I1.aA.fresh oW)
def i6 (xs:ai):ai:=xs.zipIdx.map λp=>.tup [.int ((p.2:Int)+1),p.1]
def GY (ue uf:UE):UI:=λA P=>ue A λx A1=>uf A1 λy A2=>A2.ae=A1.ae/\y=.int 1/\∃ xs,x=.tup xs/\P (i6 xs) (λ_=>True) A2
theorem Vo {ue uf:UE}{B:Addr->Prop}{ae:cL}{S:Option ag}{P:ai->(cu)->AS->Prop}:GY ue uf ⟨B,ae,S⟩ P=ue ⟨B,ae,S⟩ λx A1=>uf A1 λy A2=>A2.ae=A1.ae/\y=.int 1/\∃ xs,x=.tup xs/\P (i6 xs) (λ_=>True) A2:=rfl
theorem Vp {xs:ai}{i:Nat}{x:PV}(h:(i6 xs)[i]?=some x):∃ y,xs[i]?=some y/\x=.tup [.int ((i:Int)+1),y]:=by
 unfold i6 at h;rw[getElem?_map,getElem?_zipIdx] at h
 cases e:xs[i]? with
 |none=>rw[e] at h;cases h
 |some y=>rw[e] at h;refine⟨y,rfl,?_⟩;simpa using h.symm
theorem GZ {xs:ai}:(i6 xs).length=xs.length:=by unfold i6;simp
section
variable {X:Cx}{K:Frag}{e f:Expr}{pos p:Pos}{ue uf:UE}{x:Str}{kvs:List (Str×PV)}
theorem Vq {A:AS}{H:Hp}{σ:St}{a:Addr}{xs:ai}(R:Rep K H σ A)(h:RV K (AN A) H (.tup xs) (.ref a)):iV K A H (pJ K a) (i6 xs) λ_=>True:=by
 have go:∀{N:Addr->Prop}{H2:Hp}{vs:Zv},bq K H2 a vs->aI K N H2 xs vs->∀ i x,(i6 xs)[i]?=some x->(pJ K a).go i H2/\∀ v H',(pJ K a).fJ i H2 v H'->aR H2 H'/\RV K N H' x v:=λ{N H2 vs} h1 h2 i x hx=>by
  obtain⟨y,hy,rfl⟩:=Vp hx;obtain⟨v,hv,rv⟩:=h2.at hy;refine⟨⟨_,v,h1,hv⟩,λv' H' ⟨p,z,hp,e1,e2,e3⟩=>?_⟩;have:=e3 _ h1;rw[hv] at this;cases this;subst e1 e2;have s2:=dJ hp (.tup [.int ((i:Int)+1),v]);exact⟨s2,.tup (.inl (.inl bD)) (.cons (.int _) (.cons (rv.imp (iS s2)) .nil))⟩
 exact {
  go:=λbE A2 H2 R2 S2 _ i x hx=>by cases h.imp (R.keep S2) with|tup h1 h2=>exact go h1 h2 i x hx
  stop:=λbE A2 H2 R2 S2 _=>by cases h.imp (R.keep S2) with|tup h1 h2=>exact⟨_,h1,by rw[GZ,h2.len];exact ar _⟩
  cm:=λH2 b=>by
   cases h with
   |tup h1 h2=>
    have jZ:=(R.lB b).t _ _ h1
    exact⟨λi x hx=>go jZ (h2.imp (R.lB b)) i x hx,⟨_,jZ,by rw[GZ,h2.len];exact ar _⟩⟩ }
theorem Vr {es:List Expr}{k:Nat}{tp:Pos}(hK:X.K=K)(hm:X.mg "enumerate"=none)(h:PE X e (aB K ue))(h2:PE X f (aB K uf))(hg:Gl X "enumerate":=by rfl)(hs:starEach [e,f] X.env=[(false,eval e X.env),(false,eval f X.env)]:=by rfl)(hs2:starEach [f] X.env=[(false,eval f X.env)]:=by rfl):PI X (.Tuple es k tp) (.Call (.Name "enumerate" p) [e,f] [] pos) (jv K (GY ue uf)):=by
 subst hK;refine(Vn hg hm PyProof.Rows.boot_enumerate (b7 h (b7 h2 cN hs2) (by rw[hs,hs2])) hs hs2).mono λσ H Q ⟨A,P,R,h,c⟩=>⟨A,_,R,h,λx A1 v H1 q R1 S1 rv=>⟨A1,_,R1,q,λy A2 w H2 q2 R2 S2 Vs=>?_⟩⟩;obtain⟨e,rfl,xs,rfl,q3⟩:=q2;have ir:=rv.imp (R1.keep S2);cases Vs
 cases ir with
 |tup h1 h2=>exact⟨_,_,rfl,h1,c _ _ A2 _ H2 q3 R2 (S1.trans S2) (Vq R2 (.tup h1 h2))⟩
end
def eW:List (Str×PV)->Str->Option PV
 |[],_=>none
 |(t,x)::r,s=>if t=s then some x else eW r s
structure Gd (P:Program)(w:World)(K:Frag)(mg:aZ)(x:Str)(kvs:List (Str×PV)):Prop where
 ex:∃(a:Addr)(vs:List (Key×Value)),mg x=some (.ref a)/\(a==sysModules)=false/\(∀ h:Heap,K.In h->h.DictOf (bM P w) a vs) /\
  (∀ s z,eW kvs s=some z->∃ u v,valueAt vs (.inr s)=some u/\RelV v u/\∀ N H,RV K N H z v)/\∀ s,eW kvs s=none->valueAt vs (.inr s)=none
def yQ (kvs:List (Str×PV)):G1:=λx z=>∃ s,x=.str s/\eW kvs s=some z
def tG (kvs:List (Str×PV)):G1:=λx z=>∃ s,x=.str s/\z=.bl (eW kvs s).isSome
theorem Vt {kvs:List (Str×PV)}{s:Str}{z:PV}:yQ kvs (.str s) z=(eW kvs s=some z):=propext ⟨fun⟨_,e,h⟩=>by cases e;exact h,λh=>⟨_,rfl,h⟩⟩
theorem Vu {kvs:List (Str×PV)}{s:Str}{z:PV}:tG kvs (.str s) z=(z=.bl (eW kvs s).isSome):=propext ⟨fun⟨_,e,h⟩=>by cases e;exact h,λh=>⟨_,rfl,h⟩⟩
section
variable {X:Cx}{K:Frag}{e:Expr}{pos p:Pos}{ue:UE}{x:Str}{kvs:List (Str×PV)}
theorem G0 (G:Gd X.prog X.w K X.mg x kvs)(hK:X.K=K)(he:PE X e (az K ue))(hs:qN e:=by intro _ _;rfl)(hg:Gl X x:=by rfl)(hd:(x==("__debug__":Str))=false:=by decide):PE X (.Subscript (.Name x p) e pos) (aB K (u1 (yQ kvs) ue)):=by
 subst hK;obtain⟨a,vs,hm,_,oh,hl,_⟩:=G.ex;intro pins s σ H Q I h;obtain⟨A,P,R,hu,c⟩:=h;refine Bn PySem.F.slot_dict_getitem.lookup hs (aD (AO (v:=.ref a) hg hm rfl hd pins s σ H (λx' H1=>x'=.ref a/\H1=H) I ⟨rfl,rfl⟩) λu s1 ⟨x',H1,I1,rx,ex,eH⟩=>?_);subst ex eH;obtain rfl:u=Value.ref a:=rx;refine aD (he pins s1 σ H1 (λv H2=>∃ r A1,(∃ z,yQ kvs r z/\P z A1)/\Rep X.K H2 σ A1/\ay A H1 A1 H2/\bV X.K A1 H2 r v) I1 ⟨A,_,R,hu,λr A1 v H2 p R1 S1 q=>⟨r,A1,p,R1,S1,q⟩⟩) λiv s2 ⟨y,H2,I2,ry,r,A1,p,R1,S1,q⟩=>?_;obtain⟨z,⟨t,rfl,hz⟩,p⟩:=p;obtain⟨u',v,hv,rv,hr⟩:=hl t z hz;cases q.str;have dd:=oh _ I2.dG;exact⟨dd.typeIs,wpAny_getItem_of (jV (k:=.inr t) ry) dd.mapOf hv ⟨v,H2,I2.tok _,rv,c z A1 v H2 p R1 S1 (hr _ _)⟩⟩
theorem Vv (G:Gd X.prog X.w K X.mg x kvs)(hK:X.K=K)(he:PE X e (az K ue))(hg:Gl X x)(hd:(x==("__debug__":Str))=false):PC X .In e (.Name x p) (aB K (u1 (tG kvs) ue)):=by
 subst hK;obtain⟨a,vs,hm,hn,oh,hl,Vw⟩:=G.ex;intro pins s σ H Q I h;obtain⟨A,P,R,hu,c⟩:=h;refine aD (he pins s σ H (λv H2=>∃ r A1,(∃ z,tG kvs r z/\P z A1)/\Rep X.K H2 σ A1/\ay A H A1 H2/\bV X.K A1 H2 r v) I ⟨A,_,R,hu,λr A1 v H2 p R1 S1 q=>⟨r,A1,p,R1,S1,q⟩⟩) λiv s1 ⟨y,H1,I1,ry,r,A1,p,R1,S1,q⟩=>?_;refine aD (AO (v:=.ref a) hg hm rfl hd pins s1 σ H1 (λx' H2=>x'=.ref a/\H2=H1) I1 ⟨rfl,rfl⟩) λu s2 ⟨x',H2,I2,rx,ex,eH⟩=>?_;subst ex eH;obtain rfl:u=Value.ref a:=rx;obtain⟨z,⟨t,rfl,rfl⟩,p⟩:=p;cases q.str;have dd:=oh _ I2.dG;refine wpAny_in_of (jV (k:=.inr t) ry) hn dd.mapOf ?_
 have ev:(valueAt vs (.inr t)).isSome=(eW kvs t).isSome:=by
  cases hz:eW kvs t with
  |none=>rw[Vw t hz];rfl
  |some z=>obtain⟨u',v,hv,_⟩:=hl t z hz;rw[hv];rfl
 rw[ev];exact⟨.bl _,H2,I2.tok _,rfl,c _ A1 _ H2 p R1 S1 (.bl _)⟩
theorem Vx (G:Gd X.prog X.w K X.mg x kvs)(hK:X.K=K)(he:PE X e (az K ue))(hg:Gl X x:=by rfl)(hd:(x==("__debug__":Str))=false:=by decide)(hm:behindInMarks .In (.Name x p)=false:=by rfl):PT X (.Compare e [.In] [.Name x p] pos) (liftT K (uB (u1 (tG kvs) ue))):=
 (AQ (Vv G hK he hg hd) hm).mono (FZ λ_ _ _ h=>h)
end
def G3 (i kj:Nat)(ue:UE):UE:=λA Q=>∃(a p:Addr)(kvs:aS)(z:Str)(j:Nat)(xs:ai),A.ae[i]?=some (some (.own a (.ah kvs)))/\A.ae[kj]?=some (some (.val (.str z)))/\bZ kvs (.inr z)=some (.raw (.ref p))/\A.ae[j]?=some (some (.own p (.lst xs))) /\
 ue A λx A1=>∃ ys,A1.ae[j]?=some (some (.own p (.lst ys)))/\ys.length<=1000000/\Q .non (put A1 j (.own p (.lst (ys++[x]))))
section
variable {X:Cx}{K:Frag}{e:Expr}{ue:UE}{apos bg bz f6 cY:Pos}{k:Nat}
theorem Vy (hK:X.K=K)(hr:bO k X.A)(i kj:Nat){x y:Str}(he:PE X e (aB K ue))(hN:X.N[i]?=some x:=by rfl)(hv:di X.env.scope x:=by walk_at "v")(hd:(x==("__debug__":Str))=false:=by decide)(bJ:(x==("__classdict__":Str))=false:=by decide)
  (yK:X.N[kj]?=some y:=by rfl)(yL:di X.env.scope y:=by walk_at "v")(hd2:(y==("__debug__":Str))=false:=by decide)(yM:(y==("__classdict__":Str))=false:=by decide)
  (d0:attributeBase (.Subscript (.Name x bz) (.Name y f6) cY) "append" X.env (eval (.Subscript (.Name x bz) (.Name y f6) cY) X.env)=eval (.Subscript (.Name x bz) (.Name y f6) cY) X.env:=by rfl)
  (h_:((backTo bg (starEach [e] X.env)).all (λx=>!x.1)&&(backToKw bg (keywordEach [] X.env)).all (λx=>x.1.isSome)&&decide ([e].length+([]:List Keyword).length+(if ([]:List Keyword).isEmpty then 0 else 1)<30))=true:=by rfl)
  (d5:(apos.endLine==bg.line)=true:=by rfl)(hs:starEach [e] X.env=[(false,eval e X.env)]:=by rfl):PE X (.Call (.Attribute (.Subscript (.Name x bz) (.Name y f6) cY) "append" apos) [e] [] bg) (aB K (G3 i kj ue)):=by
 subst hK;refine(oG PySem.F.plainAttrs_list PySem.F.slot_list_append PySem.F.type_list_append vA (f7 (gB hr) (dY hN hv hd bJ) (dY yK yL hd2 yM) (by intro _ _;rfl)) (b7 he cN hs) d0 h_ d5 hs rfl).mono λσ H Q ⟨A,P,R,h,c⟩=>?_;obtain⟨a,p,kvs,z,j,xs,hi,hk,hl,hj,h⟩:=h;obtain⟨vi,ei,rfl,nb,av,g1,g2⟩:=R.sl i _ hi;obtain⟨vk,ek,rk⟩:=R.sl kj _ hk;have pI:vk=.str z:=by cases rk;rfl
 subst pI;obtain⟨u,hu,ru⟩:=(pq g2 (.inr z)).1 _ hl;have eu:u=.ref p:=by cases ru;rfl
 subst eu;obtain⟨vj,ej,rfl,ZD,vs,j1,j2⟩:=R.sl j _ hj;refine⟨_,ei,_,ek,a,.ref p,rfl,by rw[<- hu];exact fb.k (k:=.inr z) g1,.inl ⟨rfl,_,aO.of j1⟩,A,_,R,h,λr A1 w H1 q R1 S1 dI=>?_⟩;obtain⟨ys,hA,aF,q⟩:=q;obtain⟨_,_,_,_,us,k1,k2⟩:=R1.sl j _ hA;have:=k2.len;obtain⟨R2,S2⟩:=R1.turn hA (k2.app (.cons dI .nil));exact⟨p,us,w,rfl,rfl,k1,Nat.lt_of_le_of_lt (by omega:us.length<=1000000) (by decide),c _ _ _ _ q R2 (S1.trans S2) .non⟩
end
def lT (P:PV->PV->PV->PV->PV->PV->Prop):Rel:=λxs r=>∃ x0 x1 x2 x3 x4,xs=[x0,x1,x2,x3,x4]/\P x0 x1 x2 x3 x4 r
theorem lT.len {P:PV->PV->PV->PV->PV->PV->Prop}{xs:ai}{r:PV}(h:lT P xs r):xs.length=5:=by obtain⟨_,_,_,_,_,rfl,_⟩:=h;rfl
theorem Vz {P:PV->PV->PV->PV->PV->PV->Prop}{a b c d e r:PV}:lT P [a,b,c,d,e] r=P a b c d e r:=by
 unfold lT;refine propext ⟨fun⟨_,_,_,_,_,e,h⟩=>?_,λh=>⟨_,_,_,_,_,rfl,h⟩⟩;simp only[cons.injEq,and_true] at e;obtain⟨rfl,rfl,rfl,rfl,rfl⟩:=e;exact h
inductive dg (w:World)(K:Frag):List DictEntry->List (Str×PV)->Prop where
 |nil:dg w K [] []
 |cons {s:Str}{t:Tok}{u:Value}{v:V}{z:PV}{es:List DictEntry}{kvs:List (Str×PV)}:RelV v u->(∀ N H,RV K N H z v)->dg w K es kvs->dg w K (⟨PyData.keyHash w.params s,.str s t,u⟩::es) ((s,z)::kvs)
theorem VA {P:Program}{w:World}{K:Frag}{es:List DictEntry}{kvs:List (Str×PV)}(h:dg w K es kvs):∃ vs:List (Key×Value),(∀ e∈es,∃ k,(bM P w).is k e.key=true/\e.hash=(bM P w).hash k)/\Pairs (bM P w) es vs/\vs.map (·.1)=kvs.map (λkv=>(Sum.inr kv.1:Key)) /\
  (∀ s z,eW kvs s=some z->∃ u v,valueAt vs (.inr s)=some u/\RelV v u/\∀ N H,RV K N H z v)/\∀ s,eW kvs s=none->valueAt vs (.inr s)=none:=by
 induction h with
 |nil=>exact⟨[],(λe h=>by cases h),.nil,rfl,(λs z h=>by cases h),λs _=>rfl⟩
 |@cons s t u v z es kvs r1 r2 _ ih=>
  obtain⟨vs,h1,h2,h3,h4,h5⟩:=ih
  have va:∀ y,valueAt ((.inr s,u)::vs:List (Key×Value)) (.inr y)=if s=y then some u else valueAt vs (.inr y):=λy=>by
   unfold valueAt;rw[find?_cons];by_cases e:s=y
   ·rw[if_pos e,e];simp
   ·rw[if_neg e,decide_eq_false (λq=>e (Sum.inr.inj q))]
  refine⟨(.inr s,u)::vs,λe he=>?_,.cons (uN s t) rfl h2,by rw[map_cons,map_cons,h3],λy z' hz=>?_,λy hy=>?_⟩
  ·rcases mem_cons.mp he with e1|e1
   ·rw[e1];exact⟨.inr s,uN s t,rfl⟩
   ·exact h1 e e1
  ·rw[va];simp only[eW] at hz;by_cases e:s=y
   ·rw[if_pos e] at hz ⊢;cases hz;exact⟨u,v,rfl,r1,r2⟩
   ·rw[if_neg e] at hz ⊢;exact h4 y z' hz
  ·rw[va];simp only[eW] at hy;by_cases e:s=y
   ·rw[if_pos e] at hy;cases hy
   ·rw[if_neg e] at hy ⊢;exact h5 y hy
theorem G4 {P:Program}{w:World}{K:Frag}{mg:aZ}{x:Str}{a:Addr}{es:List DictEntry}{ep:Nat}{kvs:List (Str×PV)}(hm:mg x=some (.ref a))(hs:(a==sysModules)=false)(l:K.lookup a=some ⟨.type "dict",none,.dict es.toArray ep,#[]⟩)(h:dg w K es kvs)(nd:(kvs.map (λkv=>(Sum.inr kv.1:Key))).Nodup):Gd P w K mg x kvs:=by
 obtain⟨vs,h1,h2,h3,h4,h5⟩:=VA (P:=P) h;exact⟨a,vs,hm,hs,λhp I=>⟨_,es.toArray,ep,I a _ l,⟨rfl,rfl,rfl⟩,rfl,λe he=>h1 e (by simpa using he),by simpa using h2,by rw[h3];exact nd⟩,h4,h5⟩
theorem iA {K:Frag}{b:Addr}{i j:Int}{ti tj:Tok}{n:Nat}{ok:Option Addr}{ss:Array (Option Value)}(l:K.lookup b=some ⟨.type "tuple",ok,.seq #[.int i ti,.int j tj] n,ss⟩):∀ N H,RV K N H (.tup [.int i,.int j]) (.ref b):=λN H=>RV.tup (vs:=[V.int i,V.int j]) (.inr ⟨_,_,n,l,rfl,rfl,(by show 2<=sizeLine;decide),.cons ⟨ti,rfl⟩ (.cons ⟨tj,rfl⟩ .nil)⟩) (.cons (.int _) (.cons (.int _) .nil))
end L2
namespace cU
open PySem L2
structure Tm (d b:Nat)(x:PV):Prop where
 p:kr x=true
 s:(toD x).showable=true
 n:(toD x).hasDict=false
 l:(toD x).leavesShort 30=true
 e:(toD x).depth<=d
 c:(toD x).bulk<=b
 q:Dp d x
structure jF (d b:Nat)(xs:ai):Prop where
 p:lS xs=true
 s:PyData.showableAll (fS xs)=true
 n:PyData.hasDictAll (fS xs)=false
 l:PyData.leavesShortAll 30 (fS xs)=true
 e:PyData.depthAll (fS xs)<=d
 c:PyData.bulkAll (fS xs)<=b
 q:∀ x∈xs,Dp d x
theorem Tm.mono {d b e c:Nat}{x:PV}(h:Tm d b x)(l:d<=e)(k:b<=c):Tm e c x:=⟨h.p,h.s,h.n,h.l,bU h.e l,bU h.c k,h.q.mono l⟩
theorem jF.mono {d b e c:Nat}{x:ai}(h:jF d b x)(l:d<=e)(k:b<=c):jF e c x:=⟨h.p,h.s,h.n,h.l,bU h.e l,bU h.c k,λy hy=>(h.q y hy).mono l⟩
theorem i7 {d b:Nat}:jF d b []:=⟨rfl,rfl,rfl,rfl,Nat.zero_le _,Nat.zero_le _,λ_ h=>by cases h⟩
theorem dB {d b c:Nat}{x:PV}{xs:ai}(h:Tm d b x)(g:jF d c xs):jF d (b+1+c) (x::xs):=by
 refine⟨?_,?_,?_,?_,?_,?_,?_⟩
 ·show(kr x&&lS xs)=true;rw[h.p,g.p];rfl
 ·show(PyData.showable _&&PyData.showableAll _)=true;rw[h.s,g.s];rfl
 ·show(PyData.hasDict _||PyData.hasDictAll _)=false;rw[h.n,g.n];rfl
 ·show(PyData.leavesShort 30 _&&PyData.leavesShortAll 30 _)=true;rw[h.l,g.l];rfl
 ·show max _ _<=d;have:=h.e;have:=g.e;omega
 ·show PyData.bulk _+1+PyData.bulkAll _<=_;have:=h.c;have:=g.c;omega
 ·intro y hy;rcases mem_cons.mp hy with e|e
  ·rw[e];exact h.q
  ·exact g.q y e
theorem gO {d b:Nat}{xs:ai}(h:jF d b xs):Tm (d+1) b (.tup xs):=⟨h.p,h.s,h.n,h.l,Nat.succ_le_succ h.e,h.c,lQ h.q⟩
theorem VB {d b:Nat}{xs:ai}(h:jF d b xs):Tm (d+1) b (.lst xs):=⟨h.p,h.s,h.n,h.l,Nat.succ_le_succ h.e,h.c,iy h.q⟩
theorem pK {d b:Nat}:∀{xs:ai},(∀ x∈xs,Tm d b x)->jF d (xs.length*(b+1)) xs
 |[],_=>i7
 |x::xs,h=>(dB (h x (by simp)) (pK λy hy=>h y (by simp [hy]))).mono (ar _) (by rw[length_cons,Nat.add_mul];omega)
def Sh (z:Str):Prop:=z.length<=20/\∀ c∈z.cps.toList,c<200
theorem d_ {d:Nat}{z:Str}(h:Sh z):Tm d 20 (.str z):=⟨rfl,rfl,rfl,all_eq_true.mpr λc hc=>decide_eq_true (by have:=h.2 c hc;omega),Nat.zero_le _,h.1,jD _ _⟩
theorem VC {d b:Nat}:Tm d b .non:=⟨rfl,rfl,rfl,rfl,Nat.zero_le _,Nat.zero_le _,RA _⟩
theorem G5 (z:Str)(h:(decide (z.length<=20)&&z.cps.toList.all λc=>decide (c<200))=true):Sh z:=by
 rw[Bool.and_eq_true] at h;exact⟨of_decide_eq_true h.1,λc hc=>of_decide_eq_true (all_eq_true.mp h.2 c hc)⟩
theorem G6 {d:Nat}{i:Int}(h0:-1<=i)(h1:i<100):Tm d 20 (.int i):=by
 have:∀ k:Fin 101,(PyData.int ((k.val:Int)-1)).showable=true/\(PyData.int ((k.val:Int)-1)).leavesShort 30=true/\(PyData.int ((k.val:Int)-1)).bulk<=20:=by decide +kernel
 have q:=this ⟨(i+1).toNat,by omega⟩;have e:(((i+1).toNat:Nat):Int)-1=i:=by omega
 simp only[e] at q;exact⟨rfl,q.1,rfl,q.2.1,Nat.zero_le _,q.2.2,lP _ _⟩
theorem G7 {d b:Nat}{xs:ai}(h:Tm d b (.lst xs))(l:d<=90)(k:b<=400000):GO (.lst xs) (.str (toD (.lst xs)).shown):=by
 refine⟨.inr ⟨xs,rfl⟩,h.p,h.s,h.n,by have:=h.e;omega,?_,rfl⟩;have:=PyData.shown_le_bulk 30 (by decide) _ h.l;have hb:=h.c;have hs:sizeLine=2 ^ 24:=rfl;omega
mutual
inductive Ak where
 |tab (n w:Str)
 |one (h:Str)(a:Ak)(r:ai)
 |pick (a:Ak)(c:Cd)
 |two (h:Str)(a b:Ak)(c:Cd)
 |add (a b:Ak)
inductive Cd where
 |cj (a:Ak)(c:Cd)
 |nt (c:Cd)
 |bo (h:Str)(c d:Cd)
 |lf (h:Str)(r:ai)
end
mutual
def qA:Ak->PV
 |.tab n w=>.tup [.str "table",.str n,.str w]
 |.one h a r=>.tup (.str h::qA a::r)
 |.pick a c=>.tup [.str "pick",qA a,qC c]
 |.two h a b c=>.tup [.str h,qA a,qA b,qC c]
 |.add a b=>.tup [.str "add",qA a,qA b]
def qC:Cd->PV
 |.cj a c=>.tup [.str "some",qA a,qC c]
 |.nt c=>.tup [.str "not",qC c]
 |.bo h c d=>.tup [.str h,qC c,qC d]
 |.lf h r=>.tup (.str h::r)
end
def H1:aq:=["show","once","group","first"]
def H2:aq:=["join","left","half","lack"]
def H3:aq:=["both","either"]
def H4:aq:=["yes","isnothing","is","less"]
mutual
def wA:Ak->Prop
 |.tab _ _=>True
 |.one h a _=>h∈H1/\wA a
 |.pick a c=>wA a/\wC c
 |.two h a b c=>h∈H2/\wA a/\wA b/\wC c
 |.add a b=>wA a/\wA b
def wC:Cd->Prop
 |.cj a c=>wA a/\wC c
 |.nt c=>wC c
 |.bo h c d=>h∈H3/\wC c/\wC d
 |.lf h _=>h∈H4
end
mutual
def hA:Ak->Nat
 |.tab _ _=>1
 |.one _ a _=>hA a+1
 |.pick a c=>max (hA a) (hC c)+1
 |.two _ a b c=>max (max (hA a) (hA b)) (hC c)+1
 |.add a b=>max (hA a) (hA b)+1
def hC:Cd->Nat
 |.cj a c=>max (hA a) (hC c)+1
 |.nt c=>hC c+1
 |.bo _ c d=>max (hC c) (hC d)+1
 |.lf _ _=>1
end
mutual
def nA:Ak->Nat
 |.tab _ _=>1
 |.one _ a r=>nA a+r.length+1
 |.pick a c=>nA a+nC c+1
 |.two _ a b c=>nA a+nA b+nC c+1
 |.add a b=>nA a+nA b+1
def nC:Cd->Nat
 |.cj a c=>nA a+nC c+1
 |.nt c=>nC c+1
 |.bo _ c d=>nC c+nC d+1
 |.lf _ r=>r.length+1
end
mutual
theorem i8:∀ a:Ak,hA a<=(toD (qA a)).depth
 |.tab _ _=>by show 1<=PyData.depthAll _+1;omega
 |.one h a r=>by
  have:=i8 a;show hA a+1<=max 0 (max (PyData.depth (toD (qA a))) (PyData.depthAll (fS r)))+1;omega
 |.pick a c=>by
  have:=i8 a;have:=nu c;show max (hA a) (hC c)+1<=max 0 (max (PyData.depth (toD (qA a))) (max (PyData.depth (toD (qC c))) 0))+1;omega
 |.two h a b c=>by
  have:=i8 a;have:=i8 b;have:=nu c;show max (max (hA a) (hA b)) (hC c)+1<=max 0 (max (PyData.depth (toD (qA a))) (max (PyData.depth (toD (qA b))) (max (PyData.depth (toD (qC c))) 0)))+1;omega
 |.add a b=>by
  have:=i8 a;have:=i8 b;show max (hA a) (hA b)+1<=max 0 (max (PyData.depth (toD (qA a))) (max (PyData.depth (toD (qA b))) 0))+1;omega
theorem nu:∀ c:Cd,hC c<=(toD (qC c)).depth
 |.cj a c=>by
  have:=i8 a;have:=nu c;show max (hA a) (hC c)+1<=max 0 (max (PyData.depth (toD (qA a))) (max (PyData.depth (toD (qC c))) 0))+1;omega
 |.nt c=>by
  have:=nu c;show hC c+1<=max 0 (max (PyData.depth (toD (qC c))) 0)+1;omega
 |.bo h c d=>by
  have:=nu c;have:=nu d;show max (hC c) (hC d)+1<=max 0 (max (PyData.depth (toD (qC c))) (max (PyData.depth (toD (qC d))) 0))+1;omega
 |.lf h r=>by show 1<=PyData.depthAll _+1;omega
end
theorem yR:∀ xs:ai,xs.length<=PyData.bulkAll (fS xs)
 |[]=>ar _
 |x::xs=>by
  have:=yR xs;show xs.length+1<=PyData.bulk (toD x)+1+PyData.bulkAll (fS xs);omega
mutual
theorem ku:∀ a:Ak,nA a<=(toD (qA a)).bulk+1
 |.tab _ _=>by show 1<=_+1;omega
 |.one h a r=>by
  have:=ku a;have:=yR r;show nA a+r.length+1<=PyData.bulk (toD (.str h))+1+(PyData.bulk (toD (qA a))+1+PyData.bulkAll (fS r))+1;omega
 |.pick a c=>by
  have:=ku a;have:=nv c;show nA a+nC c+1<=PyData.bulk (toD (.str "pick"))+1+(PyData.bulk (toD (qA a))+1+(PyData.bulk (toD (qC c))+1+0))+1;omega
 |.two h a b c=>by
  have:=ku a;have:=ku b;have:=nv c;show nA a+nA b+nC c+1<=PyData.bulk (toD (.str h))+1+(PyData.bulk (toD (qA a))+1+(PyData.bulk (toD (qA b))+1+(PyData.bulk (toD (qC c))+1+0)))+1;omega
 |.add a b=>by
  have:=ku a;have:=ku b;show nA a+nA b+1<=PyData.bulk (toD (.str "add"))+1+(PyData.bulk (toD (qA a))+1+(PyData.bulk (toD (qA b))+1+0))+1;omega
theorem nv:∀ c:Cd,nC c<=(toD (qC c)).bulk+1
 |.cj a c=>by
  have:=ku a;have:=nv c;show nA a+nC c+1<=PyData.bulk (toD (.str "some"))+1+(PyData.bulk (toD (qA a))+1+(PyData.bulk (toD (qC c))+1+0))+1;omega
 |.nt c=>by
  have:=nv c;show nC c+1<=PyData.bulk (toD (.str "not"))+1+(PyData.bulk (toD (qC c))+1+0)+1;omega
 |.bo h c d=>by
  have:=nv c;have:=nv d;show nC c+nC d+1<=PyData.bulk (toD (.str h))+1+(PyData.bulk (toD (qC c))+1+(PyData.bulk (toD (qC d))+1+0))+1;omega
 |.lf h r=>by
  have:=yR r;show r.length+1<=PyData.bulk (toD (.str h))+1+PyData.bulkAll (fS r)+1;omega
end
def aJ:Cd->List Ak
 |.cj a c=>a::aJ c
 |.nt c=>aJ c
 |.bo _ c d=>aJ c++aJ d
 |.lf _ _=>[]
def kids:Ak->List Ak
 |.tab _ _=>[]
 |.one _ a _=>[a]
 |.pick a c=>a::aJ c
 |.two _ a b c=>a::b::aJ c
 |.add a b=>[a,b]
def cps:Cd->List Nat->List (List Nat×Ak)
 |.cj a c,p=>(p++[1],a)::cps c (p++[2])
 |.nt c,p=>cps c (p++[1])
 |.bo _ c d,p=>cps c (p++[1])++cps d (p++[2])
 |.lf _ _,_=>[]
def cM:Ak->List (List Nat×Ak)
 |.tab _ _=>[]
 |.one _ a _=>[([1],a)]
 |.pick a c=>([1],a)::cps c [2]
 |.two _ a b c=>([1],a)::([2],b)::cps c [3]
 |.add a b=>[([1],a),([2],b)]
theorem jG:∀(c:Cd)(p:List Nat),(cps c p).map Prod.snd=aJ c
 |.cj a c,p=>by simp [cps,aJ,jG c]
 |.nt c,p=>by simp [cps,aJ,jG c]
 |.bo _ c d,p=>by simp [cps,aJ,jG c,jG d]
 |.lf _ _,_=>rfl
theorem tH (a:Ak):(cM a).map Prod.snd=kids a:=by
 cases a<;>simp [cM,kids,jG]
theorem eY:∀ c:Cd,(aJ c).length<=nC c
 |.cj a c=>by have:=eY c;simp only[aJ,nC,length_cons];omega
 |.nt c=>by have:=eY c;simp only[aJ,nC];omega
 |.bo _ c d=>by have:=eY c;have:=eY d;simp only[aJ,nC,length_append];omega
 |.lf _ _=>by simp [aJ,nC]
theorem tJ (a:Ak):(kids a).length<=nA a+1:=by
 cases a with
 |tab _ _=>simp [kids]
 |one _ a _=>simp [kids]
 |pick a c=>have:=eY c;simp only[kids,nA,length_cons];omega
 |two _ a b c=>have:=eY c;simp only[kids,nA,length_cons];omega
 |add a b=>simp only[kids,nA,length_cons,length_nil];omega
def b_:Cd->Nat->Ak->Cd
 |.cj _ c,0,q=>.cj q c
 |.cj a c,i+1,q=>.cj a (b_ c i q)
 |.nt c,i,q=>.nt (b_ c i q)
 |.bo h c d,i,q=>if i<(aJ c).length then .bo h (b_ c i q) d else .bo h c (b_ d (i-(aJ c).length) q)
 |.lf h r,_,_=>.lf h r
def cn:Ak->Nat->Ak->Ak
 |.one h _ r,0,q=>.one h q r
 |.pick _ c,0,q=>.pick q c
 |.pick a c,i+1,q=>.pick a (b_ c i q)
 |.two h _ b c,0,q=>.two h q b c
 |.two h a _ c,1,q=>.two h a q c
 |.two h a b c,i+2,q=>.two h a b (b_ c i q)
 |.add _ b,0,q=>.add q b
 |.add a _,1,q=>.add a q
 |a,_,_=>a
def c5:Ak->List Nat->Ak->Ak
 |_,[],q=>q
 |a,i::w,q=>match (kids a)[i]? with
  |some k=>cn a i (c5 k w q)
  |none=>a
def apart:Ak->List Nat->Option Ak
 |a,[]=>some a
 |a,i::w=>match (kids a)[i]? with
  |some k=>apart k w
  |none=>none
local macro_rules|`(tactic| w_on) => `(tactic| try simp only [UX, U5, ↓Uk, Vz, ↓UC, ↓UM, ↓Vo, Vt, Vu, ↓Ux, T6, tu, R7, Uh, ↓Ub, T_, ↓Ua, T7, T8, T9, ↓Ui, ↓RK, ↓RL, ↓RM, ↓RN, ↓RO, ↓RP, ↓RQ, ↓RS, ↓RT, ↓RZ, ↓R8, ↓Sd, ↓Se, ↓Sf, ↓Sg, ↓Si, ↓Sj, ↓Sm, ↓Sn, ↓So, ↓Sq, ↓Sr, ↓Ss, ↓Su, ↓Sv, ↓Sw, ↓Sz, ↓SA, ↓SD, ↓SE, ↓SF, ↓SH, ↓SI, ↓SJ, ↓SS, ↓SU, ↓SW, ↓SX, ↓SY, ↓S5, ↓S6, ↓S7, ↓S_, ↓S', ↓Ta, ↓Tb, ↓Tf, ↓Tg, ↓Ti, ↓Tj, ↓Tp, ↓Tq, ↓Tv, ↓Tw, ↓TM, ↓TN, ↓TQ, ↓TR, RU, RW, RX, RY, R5, R6, R9, R_, SG, SM, SQ, SN, SO, SR, S8, S9, Tc, Td, Te, Th, Tn, To, Ts, Tt, Tu, Tx, Tz, TB, TL, Rt, RF, RG, RH, RI, exists_eq_left', yx, yy, RJ, df, mN, Sl.rZ, sQ, iZ, replicate, map_cons, map_nil, cons_append, nil_append, Option.join_some, Option.map_some, getElem?_cons_zero, getElem?_cons_succ, set_cons_zero, set_cons_succ, true_and, and_true, and_self, Bool.false_eq_true, Bool.not_true, Bool.not_false, Option.some.injEq, PV.bl.injEq, PV.int.injEq, PV.str.injEq, PV.tup.injEq, PV.lst.injEq, Sl.own.injEq, Sl.val.injEq, OC.lst.injEq, OC.ah.injEq, cons.injEq, length_cons, length_nil, Q4, Q5, Q6, Q7, Q8, Q9, Q_, Rf, Rg, QN, QP, QQ, QR, Rh, Ri, Rj, Rk, Rm, Ro, Rp, Rq, Rr, TH, TJ, Ru, Rv, Rw, Rx, Ry, Rz, Gf, Gg, TC, TF, Bool.false_xor, Int.reduceLT, Int.reduceLE, Int.reduceAdd, Nat.reduceAdd, Nat.reduceLeDiff, Function.comp_def])
def Nz (st:ag)(c:Nat)(st':ag):Prop:=∃(n:Nat)(nm pt:Int),n<=st.n+c/\st'=⟨st.d,st.a,n,{ st.b with nm:=nm,pt:=pt }⟩
def W4 (z:Str):Prop:=z.length<=4/\∀ c∈z.cps.toList,c<200
theorem W4.sh {z:Str}(h:W4 z):Sh z:=⟨bU h.1 (by decide),h.2⟩
theorem ny (a b:Str):(a++b).length=a.length+b.length:=by
 show(a.cps++b.cps).size=_;rw[Array.size_append];rfl
theorem tK {a b:Str}(h:∀ c∈a.cps.toList,c<200)(g:∀ c∈b.cps.toList,c<200):∀ c∈(a++b).cps.toList,c<200:=by
 intro c hc;have:c∈(a.cps++b.cps).toList:=hc;rw[Array.toList_append] at this;rcases mem_append.mp this with z|z
 ·exact h c z
 ·exact g c z
theorem VD:∀ i:Fin 26,∃ c,("abcdefghijklmnopqrstuvwxyz":Str).cps[i.val]?=some c/\c<200:=λi=>⟨97+i.val,by revert i;decide +kernel,by omega⟩
theorem VE {r:Int}(h0:0<=r)(h1:r<26):∃ c,("abcdefghijklmnopqrstuvwxyz":Str).cps[r.toNat]?=some c/\c<200:=VD ⟨r.toNat,by omega⟩
def yS (x:PV)(st:ag)(Q:PV->ag->Prop):Prop:=∃ k:Int,x=.int k/\dv st.b/\∀ z:Str,z.length=1->(∀ c∈z.cps.toList,c<200)->Q (.str z) st
def pL (st:ag)(Q:PV->ag->Prop):Prop:=dv st.b/\∀(z:Str)(st':ag),W4 z->Nz st 0 st'->Q (.str z) st'
def tN (x y r:PV):Prop:=∃ k1 k2,x=.ah k1/\y=.ah k2/\k1.length+k2.length<=60/\r=.ah (i5 k1 k2)
section
variable {P:Program}{w:World}{K:Frag}{mg:aZ}{base:Heap}
theorem VF:bw ["_law_state","_law_number"] ["_law_state","_law_number"] (aW wj):=by walk_at "s"
theorem VG {k:Nat}(D:Df K mg "_law_word" wj)(B:Bt mg):Kn P w K mg base (k+1) "_law_word" (spS K false (bP yS)):=by
 refine D.eK VF (λ_ _ _ _ _ _=>fc λ_ _=>rfl) (λ_ _ _=>bP.len) (by decide) (λf aE A outer s H E hr=>⟨_,(s1 (aK (ax rfl hr (qv vs) (qv (xP (qv (bR rfl (qv (m7 hr 0 6 (by decide) (by decide) rfl)) (qn 1))) (qv vi)))))),λB' xs st Q h=>?_⟩);obtain⟨x1,rfl,h⟩:=h;change (_:US) (dM false Q) ⟨B',[some (.val (.raw (.ref st.d))),some (.val x1)],some st⟩;obtain⟨k,rfl,W,h⟩:=h;obtain⟨d,a,n,D⟩:=st;have W':dv D:=W;have r0:0<=(D.z+k) % 26:=Int.emod_nonneg _ (by decide);have r1:(D.z+k) % 26<26:=Int.emod_lt_of_pos _ (by decide);obtain⟨c,hc,hl⟩:=VE r0 r1;w_on;refine aj _ ⟨by decide +kernel,_,i4 r0 (by rw[Array.getElem?_toList];exact hc),rfl⟩ ?_;w_on;exact h _ rfl λc' h'=>by rw[mem_singleton.mp h'];exact hl
theorem G8:bw ["_law_state","_law_number"] ["_law_state"] (aW wk):=by walk_at "s"
theorem VH {k:Nat}(D:Df K mg "_law_new" wk)(B:Bt mg)(kx:Kn P w K mg base k "_law_word" (spS K false (bP yS))):Kn P w K mg base (k+1) "_law_new" (spS K false (gL pL)):=by
 refine D.eK G8 (λ_ _ _ _ _ _=>gD λ_=>rfl) (λ_ _ _=>gL.len) (by decide) (λf aE A outer s H E hr=>⟨_,(sc (FT hr 0 4 (by decide) rfl (bR rfl (qv (m7 hr 0 4 (by decide) (by decide) rfl)) (qv vi)))
  (sc (a9 (i:=1) G8.nd (eU (qv (m7 hr 0 4 (by decide) (by decide) rfl)) (qv vi)))
  (s1 (aK (bR rfl (qv (bR rfl (qv (aN rfl kx hr (ac (vn 0) (ac vi an)))) (qv (aN rfl kx hr (ac (vn 0) (ac (P0 (qn 1) (qv vi)) an)))))) (qv (aN rfl kx hr (ac (vn 0) (ac (vn 1) an))))))))),λB' xs st Q h=>?_⟩)
 obtain⟨rfl,h⟩:=h;change (_:US) (dM false Q) ⟨B',[some (.val (.raw (.ref st.d))),none],some st⟩;obtain⟨W,h⟩:=h;obtain⟨d,a,n,D⟩:=st;have W':dv D:=W;w_on;refine⟨_,rfl,W',λz1 l1 s1=>?_⟩;w_on;refine⟨by decide,_,rfl,W',λz2 l2 s2=>?_⟩;w_on;refine⟨by omega,_,rfl,W',λz3 l3 s3=>?_⟩;w_on;refine⟨by rw[ny];omega,?_⟩;exact h _ _ ⟨by rw[ny,ny];omega,tK (tK s1 s2) s3⟩ ⟨n,D.nm+1,D.pt,ar _,rfl⟩
theorem G9:bw ["_law_here","_law_row","_law_both_here"] ["_law_here","_law_row"] (aW wm):=by walk_at "s"
theorem VI {k:Nat}(D:Df K mg "_law_merged" wm)(B:Bt mg):Kn P w K mg base (k+1) "_law_merged" (aX K false (cB tN)):=by
 refine D.dN G9 (λ_ _ _ _ _ _=>fc λ_ _=>rfl) (λ_ _=>cB.len) (by decide) (λf aE A outer s H E hr=>⟨_,(sc (eQ (i:=2) G9.nd (TZ rfl rfl B.dict (qn 0)))
  (sc (eR (T5 rfl 2 (vn 1)))
  (s1 (aK (vn 2))))),λB' xs r h=>?_⟩)
 obtain⟨x0,x1,rfl,h⟩:=h;change (_:US) (cV false r) ⟨B',[some (.val x0),some (.val x1),none],none⟩;obtain⟨k1,k2,rfl,rfl,hl,rfl⟩:=h;w_on;intro p;exact⟨k2,rfl,by omega,rfl⟩
end
def Kd (k:Str):Prop:=k="number"\/k="text"
theorem Kd.sh {k:Str}(h:Kd k):Sh k:=by rcases h with rfl|rfl<;>exact G5 _ (by decide +kernel)
def DE (kvs:aS):Prop:=∀ kv∈kvs,∃ z k:Str,kv=(.str z,.str k)/\Sh z/\Kd k
def DD (n:Nat)(kvs:aS):Prop:=kvs.length<=n/\∀ kv∈kvs,∃ z k:Str,kv=(.str z,.str k)/\(Sh z/\Kd k)/\bZ kvs (.inr z)=some (.str k)
theorem DD.e {n:Nat}{kvs:aS}(h:DD n kvs):DE kvs:=λkv hk=>by
 obtain⟨z,k,e,h1,_⟩:=h.2 kv hk;exact⟨z,k,e,h1⟩
def kd (kvs:aS)(z:Str):Str:=match bZ kvs (.inr z) with
 |some (.str k)=>k
 |_=>""
def i9 (kvs:aS)(z:Str):Prop:=bZ kvs (.inr z)=some (.str (kd kvs z))/\Sh z/\Kd (kd kvs z)
theorem VJ {n:Nat}{kvs:aS}(h:DD n kvs)(z:Str)(hz:.str z∈kvs.map Prod.fst):i9 kvs z:=by
 obtain⟨kv,hk,e⟩:=mem_map.mp hz;obtain⟨y,k,rfl,⟨h1,h2⟩,h3⟩:=h.2 kv hk;obtain rfl:y=z:=by injection e
 unfold i9 kd;rw[h3];exact⟨rfl,h1,h2⟩
theorem lU {n:Nat}{kvs:aS}(h:DD n kvs):∃ zs:aq,kvs.map Prod.fst=zs.map PV.str/\zs.length=kvs.length/\∀ z∈zs,i9 kvs z:=by
 have:∃ zs:aq,kvs.map Prod.fst=zs.map PV.str/\zs.length=kvs.length:=by
  have h2:=h.e;clear h
  induction kvs with
  |nil=>exact⟨[],rfl,rfl⟩
  |cons kv r ih=>
   obtain⟨y,k,rfl,_⟩:=h2 kv mem_cons_self;obtain⟨zs,e1,e2⟩:=ih λkb hk=>h2 kb (mem_cons_of_mem _ hk);exact⟨y::zs,by simp [e1],by simp [e2]⟩
 obtain⟨zs,e1,e2⟩:=this;exact⟨zs,e1,e2,λz hz=>VJ h z (by rw[e1];exact mem_map.mpr ⟨z,hz,rfl⟩)⟩
theorem G_ {kvs:aS}{k:Key}{v:PV}:(dP kvs k v).length<=kvs.length+1:=by
 unfold dP
 split
 ·rw[length_map];omega
 ·rw[length_append];exact ar _
theorem DD.put {n:Nat}{kvs:aS}(h:DD n kvs){z k:Str}(hz:Sh z)(hk:Kd k):DD (n+1) (dP kvs (.inr z) (.str k))/\dP kvs (.inr z) (.str k)≠[]:=by
 have lk:∀ k':Key,bZ (dP kvs (.inr z) (.str k)) k'=if (.inr z:Key)=k' then some (.str k) else bZ kvs k':=λk'=>Gj k'
 refine⟨⟨bU G_ (Nat.succ_le_succ h.1),λkv hm=>?_⟩,λe=>?_⟩
 ·have gP:=hm;unfold dP at gP
  split at gP
  ·obtain⟨kb,h1,rfl⟩:=mem_map.mp gP;obtain⟨y,k',rfl,q1,q2⟩:=h.2 kb h1;by_cases e:y=z
   ·subst e;rw[if_pos (show pk (PV.str y)=some (Sum.inr y) from rfl)];exact⟨y,k,rfl,⟨hz,hk⟩,by rw[lk,if_pos rfl]⟩
   ·rw[if_neg (by simp [pk,e])];exact⟨y,k',rfl,q1,by rw[lk,if_neg (by simpa using λq=>e q.symm)];exact q2⟩
  ·rename_i qR;rcases mem_append.mp gP with q|q
   ·obtain⟨y,k',rfl,q1,q2⟩:=h.2 kv q;have ne:y≠z:=λe=>by rw[e] at q2;rw[q2] at qR;exact qR rfl
    exact⟨y,k',rfl,q1,by rw[lk,if_neg (by simpa using λq=>ne q.symm)];exact q2⟩
   ·rw[mem_singleton.mp q];exact⟨z,k,rfl,⟨hz,hk⟩,by rw[lk,if_pos rfl]⟩
 ·have:=lk (.inr z);rw[e,if_pos rfl] at this;cases this
theorem DD.mono {n m:Nat}{kvs:aS}(h:DD n kvs)(l:n<=m):DD m kvs:=⟨bU h.1 l,h.2⟩
theorem DD.Ha:∀{more kvs:aS}{n:Nat},DD n kvs->DE more->DD (n+more.length) (i5 kvs more)/\(kvs≠[]->i5 kvs more≠[])
 |[],kvs,n,h,_=>⟨h,id⟩
 |kv::more,kvs,n,h,g=>by
  obtain⟨z,k,rfl,hz,hk⟩:=g _ mem_cons_self;have p:=h.put hz hk;have q:=DD.Ha (more:=more) p.1 λkb hk=>g kb (mem_cons_of_mem _ hk);refine⟨?_,λ_=>q.2 p.2⟩;have e:n+(more.length+1)=n+1+more.length:=by omega
  show DD (n+(more.length+1)) _;rw[e];exact q.1
theorem DD.merge {m n:Nat}{more kvs:aS}(h:DD n kvs)(g:DD m more):DD (n+more.length) (i5 kvs more)/\(kvs≠[]->i5 kvs more≠[]):=h.Ha g.e
theorem Hb:∀{l:List (Str×Str)}{n:Nat}{kvs:aS},DD n kvs->(∀ p∈l,Sh p.1/\Kd p.2)->DD (n+l.length) ((l.map λp=>((.inr p.1:Key),PV.str p.2)).foldl (λacc kv=>dP acc kv.1 kv.2) kvs)/\(l≠[]\/kvs≠[]->(l.map λp=>((.inr p.1:Key),PV.str p.2)).foldl (λacc kv=>dP acc kv.1 kv.2) kvs≠[])
 |[],n,kvs,h,_=>⟨h,λq=>q.elim (λe=>absurd rfl e) id⟩
 |p::l,n,kvs,h,g=>by
  have q:=h.put (g p (by simp)).1 (g p (by simp)).2;have r:=Hb (l:=l) q.1 λp' hp=>g p' (by simp [hp]);refine⟨?_,λ_=>r.2 (.inr q.2)⟩;have e:n+(l.length+1)=n+1+l.length:=by omega
  show DD (n+(l.length+1)) _;rw[e];exact r.1
theorem yT:∀ l:List (Str×Str),lO (l.map λp=>PV.tup [.str p.1,.str p.2])=some (l.map λp=>((.inr p.1:Key),PV.str p.2))
 |[]=>rfl
 |p::l=>by
  have:=yT l;simp only[map_cons,lO,this,pk]
theorem Hc {l:List (Str×Str)}(h:∀ p∈l,Sh p.1/\Kd p.2):DD l.length (dictOf (l.map λp=>((.inr p.1:Key),PV.str p.2)))/\(l≠[]->dictOf (l.map λp=>((.inr p.1:Key),PV.str p.2))≠[]):=by
 have:=Hb (l:=l) (n:=0) (kvs:=[]) ⟨ar _,λ_ h=>by cases h⟩ h;rw[Nat.zero_add] at this;exact⟨this.1,λe=>this.2 (.inl e)⟩
structure yU where
 n:Str
 k:Str
structure Tab where
 n:Str
 cs:List yU
def pC (c:yU):PV:=.tup [.str c.n,.str c.k,.bl true]
def pT (t:Tab):PV:=.tup [.str t.n,.tup (t.cs.map pC),.tup []]
structure Hd (t:Tab):Prop where
 n:W4 t.n
 ne:t.cs≠[]
 aF:t.cs.length<=3
 cs:∀ c∈t.cs,W4 c.n/\Kd c.k
def lV (x:PV):Prop:=∃(ts:List Tab)(y:PV),x=.tup [.tup (ts.map pT),y]/\ts≠[]/\ts.length<=3/\∀ t∈ts,Hd t
structure gQ (d b:Nat)(a:Ak):Prop where
 w:wA a
 t:Tm d b (qA a)
structure ky (d b:Nat)(c:Cd):Prop where
 w:wC c
 t:Tm d b (qC c)
theorem gQ.mono {d b e f:Nat}{a:Ak}(h:gQ d b a)(l:d<=e)(k:b<=f):gQ e f a:=⟨h.w,h.t.mono l k⟩
theorem ky.mono {d b e f:Nat}{a:Cd}(h:ky d b a)(l:d<=e)(k:b<=f):ky e f a:=⟨h.w,h.t.mono l k⟩
theorem cD (z:Str)(h:(decide (z.length<=20)&&z.cps.toList.all λc=>decide (c<200))=true:=by decide +kernel):Sh z:=G5 z h
theorem yV {n w:Str}(h:Sh n)(g:Sh w):gQ 1 70 (.tab n w):=⟨trivial,(gO (dB (d_ (cD _)) (dB (d_ h) (dB (d_ g) i7)))).mono (ar _) (by decide:20+1+(20+1+(20+1+0))<=70)⟩
def oD (x:PV)(st:ag)(Q:PV->ag->Prop):Prop:=lV x/\dv st.b/\st.n<=90000/\∀(u v:Str)(kvs:aS)(st':ag),Sh u->Sh v->DD 3 kvs->kvs≠[]->Nz st 1 st'->Q (.tup [qA (.tab u v),.ah kvs,.int 4]) st'
section
variable {P:Program}{w:World}{K:Frag}{mg:aZ}{base:Heap}
theorem pM:bw ["_law_state","_law_frame","_law_name","_law_fields","_law_keys_here","_law_word_here"] ["_law_state","_law_frame"] (aW wD):=by walk_at "s"
theorem VL {k:Nat}(D:Df K mg "_law_part" wD)(B:Bt mg)(iB:Kn P w K mg base k "_law_new" (spS K false (gL pL)))(aY:Kn P w K mg base k "_law_take" (spS K false (bP eM))):Kn P w K mg base (k+1) "_law_part" (spS K false (bP oD)):=by
 refine D.eK pM (λ_ _ _ _ _ _=>fc λ_ _=>rfl) (λ_ _ _=>bP.len) (by decide) (λf aE A outer s H E hr=>⟨_,(sc (eV (ax rfl hr (qv (ax rfl hr (qn 1) (qv vi))) (qv (aN rfl aY hr (ac (vn 0) (ac (fG rfl B.len (qv (ax rfl hr (qn 1) (qv vi)))) an))))) (dW (n:=3) rfl rfl (bj (aQ (i:=2) pM.nd) (bj (aQ (i:=3) pM.nd) (bj (aQ (i:=4) pM.nd) dU)))))
  (sc (FT hr 0 5 (by decide) rfl (bR rfl (qv (m7 hr 0 5 (by decide) (by decide) rfl)) (qv vi)))
  (sc (a9 (i:=5) pM.nd (aN rfl iB hr (ac (vn 0) an)))
  (s1 (aK (et (ac (et (ac vs (ac (vn 2) (ac (vn 5) an)))) (ac (vf (F2 rfl rfl B.dict (qf (lE (N:=["_law_field","_law_word_here"]) (k:=1) (ix:=[5]) cS rfl (jx rfl 3) (λ_ _ _ _=>(aQ (i:=0) (by show(["_law_field","_law_word_here"]:aq).Nodup;decide +kernel))) (λ_ _ _ _=>kg) (λ_ _ _ _=>(et (ac (bR rfl (qv (bR rfl (qn 1) (qv vs))) (qv (ax rfl hr (qn 0) (qv vi)))) (ac (ax rfl hr (qn 0) (qv vi)) an)))))))) (ac vi an))))))))),λB' xs st Q h=>?_⟩)
 obtain⟨x1,rfl,h⟩:=h;change (_:US) (dM false Q) ⟨B',[some (.val (.raw (.ref st.d))),some (.val x1),none,none,none,none],some st⟩;obtain⟨⟨ts,y,rfl,ne,aF,hT⟩,W,hn,h⟩:=h;obtain⟨d,a,n,D⟩:=st;have W':dv D:=W;have fw:n<=90000:=hn;clear hn;have n0:0<ts.length:=length_pos_iff.mpr ne;have lm:(ts.map pT).length=ts.length:=length_map ..;w_on;refine draw (by omega) (by omega) (Int.lt_of_le_of_lt (b:=900) (by omega) (by decide)) λq q0 q1=>?_;have hq:q.toNat<ts.length:=by omega
 have ho:ts[q.toNat]∈ts:=getElem_mem hq;have eo:cy (ts.map pT) q=some (pT ts[q.toNat]):=i4 q0 (by rw[getElem?_map,cf hq];rfl);generalize ts[q.toNat]=t at ho eo;have T:=hT t ho;w_on;refine aj _ eo ?_;simp only[pT];w_on;refine⟨W',λz st' hz fX=>?_⟩;obtain⟨m,nm,pt,hm,rfl⟩:=fX;have gP:m<=n+1+0:=hm;clear hm;simp only[ag.d,ag.a,ag.b];have yW:(".":Str).length=1:=by decide +kernel
 have z4:=hz.1;have t3:=T.aF;w_on;refine ng t.cs pC (λc=>.tup [.str (z++"."++c.n),.str c.k]) (by omega) ?_ ?_
 ·intro B x hx R hR;have sx:=(T.cs x hx).1.1;simp only[pC];w_on;refine⟨by rw[yW];omega,by rw[ny,yW];omega,hR _ ⟨rfl,rfl⟩ rfl⟩
 have hd:=Hc (l:=t.cs.map λc=>(z++"."++c.n,c.k)) λp hp=>by
  obtain⟨c,hc,rfl⟩:=mem_map.mp hp;obtain⟨c1,c2⟩:=T.cs c hc;have:=c1.1;exact⟨⟨by show(z++"."++c.n).length<=20;rw[ny,ny,yW];omega,tK (tK hz.2 (by decide +kernel)) c1.2⟩,c2⟩
 have kv:=yT (t.cs.map λc=>(z++"."++c.n,c.k));simp only[map_map,Function.comp_def,length_map] at kv hd;w_on;refine aj _ ⟨_,kv,by rw[length_map];omega,rfl⟩ ?_;w_on;exact h _ _ _ _ T.n.sh hz.sh (hd.1.mono t3) (hd.2 λe=>T.ne (map_eq_nil_iff.mp e)) ⟨m,nm,pt,(by show m<=n+1;omega),rfl⟩
end
theorem ef {l:ai}{r:Int}{Q:PV->AS->Prop}{A:AS}(r0:0<=r)(r1:r<(l.length:Int))(h:∀ z∈l,Q z A):b0 (λz=>cy l r=some z) Q A:=by
 have hr:r.toNat<l.length:=by omega
 exact aj l[r.toNat] (i4 r0 (cf hr)) (h _ (getElem_mem hr))
theorem ne_nil (zs:aq):fP true (.lst (zs.map PV.str)) (.lst []) (.bl (!zs.isEmpty)):=by
 refine⟨⟨1,by decide,iy λx hx=>by obtain⟨n,_,rfl⟩:=mem_map.mp hx;exact jD _ _,iy λx hx=>by cases hx⟩,?_⟩;cases zs<;>rfl
theorem VM {α:Type}(l:List α)(f:α->Str):jC (l.map λc=>PV.str (f c))=some (l.map f):=by
 have:=F8 (l.map f);rw[map_map] at this;exact this
theorem lW {c:Bool}{P Q:cu}{A:AS}(q:Q A)(p:c=true->Q A->P A):d9 c P Q A:=bL (λe=>p e q) λ_=>q
theorem gR {d b:Nat}{t:Str}{x:PV}(ht:Sh t)(h:Tm d b x):Tm (d+1) (22+b) (.tup [.str t,x]):=(gO (dB (d_ ht) (dB h i7))).mono (ar _) (Nat.le_of_eq (by omega:20+1+(b+1+0)=22+b))
theorem gS {d b c:Nat}{t:Str}{x y:PV}(ht:Sh t)(h:Tm d b x)(g:Tm d c y):Tm (d+1) (23+b+c) (.tup [.str t,x,y]):=(gO (dB (d_ ht) (dB h (dB g i7)))).mono (ar _) (Nat.le_of_eq (by omega:20+1+(b+1+(c+1+0))=23+b+c))
def yX (x:PV)(st:ag)(Q:PV->ag->Prop):Prop:=∃ kvs,x=.ah kvs/\DD 30 kvs/\st.n<=90000/\∀(k:Str)(st':ag),Kd k->Nx st 1 st'->Q (.str k) st'
def nS:Nat->Nat
 |0=>4
 |m+1=>4+2*nS m
def bS:Nat->Nat
 |0=>50
 |m+1=>25+2*bS m
def VN:Nat->PV->PV->PV->ag->(PV->ag->Prop)->Prop
 |0,_,_,_,_,_=>False
 |m+1,x,y,z,st,Q=>∃(kvs:aS)(k:Str),x=.ah kvs/\y=.str k/\z=.int (m:Nat)/\DD 30 kvs/\Kd k/\st.n+nS m<=90000/\∀(s:PV)(st':ag),Tm (m+1) (bS m) s->Nx st (nS m) st'->Q s st'
def nD (m:Nat)(x y z:PV)(st:ag)(Q:PV->ag->Prop):Prop:=∃ j,j<=m/\VN j x y z st Q
section
variable {P:Program}{w:World}{K:Frag}{mg:aZ}{base:Heap}
theorem He:bw ["_law_state","_law_cols","_law_kinds"] ["_law_state","_law_cols"] (aW wu):=by walk_at "s"
theorem VO {k:Nat}(D:Df K mg "_law_kind" wu)(B:Bt mg)(aY:Kn P w K mg base k "_law_take" (spS K false (bP eM))):Kn P w K mg base (k+1) "_law_kind" (spS K false (bP yX)):=by
 refine D.eK He (λ_ _ _ _ _ _=>fc λ_ _=>rfl) (λ_ _ _=>bP.len) (by decide) (λf aE A outer s H E hr=>⟨_,(sc (a9 (i:=2) He.nd (vf (mS (qf (Q0 rfl rfl B.sorted B.set (qf (lE (N:=["_law_name","_law_cols"]) (k:=1) (ix:=[1]) cS rfl (jx rfl 1) (λ_ _ _ _=>(aQ (i:=0) (by show(["_law_name","_law_cols"]:aq).Nodup;decide +kernel))) (λ_ _ _ _=>kg) (λ_ _ _ _=>(ax rfl hr (qn 1) (qn 0))))))) (qf (el (ac vs an))))))
  (s1 (aK (ax rfl hr (qn 2) (qv (aN rfl aY hr (ac (vn 0) (ac (fG rfl B.len (qn 2)) an)))))))),λB' xs st Q h=>?_⟩)
 obtain⟨x1,rfl,h⟩:=h;change (_:US) (dM false Q) ⟨B',[some (.val (.raw (.ref st.d))),some (.val x1),none],some st⟩;obtain⟨kvs,rfl,ok,hn,h⟩:=h;obtain⟨d,a,n,D⟩:=st;have fw:n<=90000:=hn;clear hn;obtain⟨zs,ek,el,hz⟩:=lU ok;have l3:=ok.1;w_on;rw[ek];refine ng zs (λc=>.str c) (λc=>.str (kd kvs c)) (by omega) ?_ ?_
 ·intro B x hx R hR;w_on;refine aj _ (hz x hx).1 ?_;w_on;exact hR _ ⟨rfl,rfl⟩ rfl
 w_on;have dl:=D0 (zs.map (kd kvs));rw[length_map] at dl;refine aj _ ⟨zs.map (kd kvs),VM zs (kd kvs),by omega,by rw[length_map];omega,rfl⟩ ?_
 have sl:(b9 (c9 (zs.map (kd kvs)))).length<=30:=by
  rw[(d8 _).length_eq];omega
 have sa:∀ y∈b9 (c9 (zs.map (kd kvs))),Kd y:=λy hy=>by
  have h1:=(d8 _).mem_iff.mp hy;have h2:y∈zs.map (kd kvs):=Of.mp h1;obtain⟨z,kz,rfl⟩:=mem_map.mp h2;exact(hz z kz).2.2
 generalize b9 (c9 (zs.map (kd kvs)))=ys at sl sa;w_on;have ll:(ys.map PV.str++[PV.str "number"]).length=ys.length+1:=by rw[length_append,length_map];rfl
 refine⟨by rw[length_map];omega,draw (by omega) (by omega) (Int.lt_of_le_of_lt (b:=900) (by omega) (by decide)) λu u0 u1=>?_⟩;w_on;refine ef u0 u1 λx hx=>?_;w_on;rcases mem_append.mp hx with z|z
 ·obtain⟨y,hy,rfl⟩:=mem_map.mp z;exact h y ⟨d,a,n+1,D⟩ (sa y hy) ⟨n+1,ar _,rfl⟩
 ·rw[mem_singleton.mp z];exact h "number" ⟨d,a,n+1,D⟩ (.inl rfl) ⟨n+1,ar _,rfl⟩
variable {m₀:Nat}
theorem pN:bw ["_law_state","_law_cols","_law_kind_here","_law_deep","_law_names","_law_way_here","_law_word_here"] ["_law_state","_law_cols","_law_kind_here","_law_deep"] (aW wt):=by walk_at "s"
theorem VP {k:Nat}(D:Df K mg "_law_sum" wt)(B:Bt mg)(aY:Kn P w K mg base k "_law_take" (spS K false (bP eM)))(fH:Kn P w K mg base k "_law_sum" (spS K false (c0 (nD m₀)))):Kn P w K mg base (k+1) "_law_sum" (spS K false (c0 (nD (m₀+1)))):=by
 refine D.eK pN (λ_ _ _ _ _ _=>j0 λ_ _ _ _=>rfl) (λ_ _ _=>c0.len) (by decide) (λf aE A outer s H E hr=>⟨_,(sc (a9 (i:=4) pN.nd (vf (Q3 rfl B.sorted (qf (lE (N:=["_law_name","_law_kind_here","_law_cols"]) (k:=1) (ix:=[2,1]) cS rfl (jx rfl 1) (λ_ _ _ _=>(aQ (i:=0) (by show(["_law_name","_law_kind_here","_law_cols"]:aq).Nodup;decide +kernel))) (λ_ _ _ _=>(sf (bW rfl hr (qv (ax rfl hr (qn 2) (qn 0))) (qn 1)))) (λ_ _ _ _=>(vn 0)))))))
  (sc (a9 (i:=5) pN.nd (aN rfl aY hr (ac (vn 0) (ac vi an))))
  (sc (bc (PW.pt (iq (bW rfl hr (qn 5) (qv vi)) (iq (bW rfl hr (qn 2) (qv vs)) (ju (lI (qn 3) (qv vi)))))) (sc (a9 (i:=6) pN.nd (ax rfl hr (qf (el (ac vs (ac vs (ac vs an))))) (qv (aN rfl aY hr (ac (vn 0) (ac vi an))))))
  (s1 (aK (et (ac (vn 6) (ac (aN rfl fH hr (ac (vn 0) (ac (vn 1) (ac (vn 2) (ac (eU (qn 3) (qv vi)) an))))) (ac (aN rfl fH hr (ac (vn 0) (ac (vn 1) (ac (vn 2) (ac (eU (qn 3) (qv vi)) an))))) an))))))) sn)
  (sc (bc (PW.pt (iq (gf rfl hr (qn 4) (qf (el an))) (ju (mW (qn 5) (qv vi))))) (s1 (aK (et (ac vs (ac (ax rfl hr (qn 4) (qv (aN rfl aY hr (ac (vn 0) (ac (fG rfl B.len (qn 4)) an))))) an))))) sn)
  (sc (bc (bW rfl hr (qn 5) (qv vi)) (s1 (aK (et (ac vs (ac (vn 2) an))))) sn)
  (sc (bc (bW rfl hr (qn 2) (qv vs)) (s1 (aK (et (ac vs (ac (ax rfl hr (qf (el (ac vs (ac vs (ac vs an))))) (qv (aN rfl aY hr (ac (vn 0) (ac vi an))))) an))))) sn)
  (s1 (aK (et (ac vs (ac (ax rfl hr (qf (el (ac vi (ac vi (ac vi (ac (lM vi) an)))))) (qv (aN rfl aY hr (ac (vn 0) (ac vi an))))) an))))))))))),λB' xs st Q h=>?_⟩)
 obtain⟨x1,x2,x3,rfl,h⟩:=h;change (_:US) (dM false Q) ⟨B',[some (.val (.raw (.ref st.d))),some (.val x1),some (.val x2),some (.val x3),none,none,none],some st⟩;obtain⟨j,hj,h⟩:=h
 obtain⟨m,rfl⟩:∃ m,j=m+1:=by
  cases j with
  |zero=>exact h.elim
  |succ m=>exact⟨m,rfl⟩
 obtain⟨kvs,k,rfl,rfl,rfl,ok,hk,hn,h⟩:=h;obtain⟨d,a,n,D⟩:=st;have fw:n+nS m<=90000:=hn;clear hn;have n4:4<=nS m:=by cases m<;>simp only[nS]<;>omega
 have b5:50<=bS m:=by
  clear hj h fw n4
  induction m with
  |zero=>exact ar _
  |succ m ih=>simp only[bS];omega
 have tO:∀(t:Str)(x:PV)(m':Nat),Sh t->Tm 0 20 x->m'<=n+nS m->Q (.tup [.str t,x]) ⟨d,a,m',D⟩:=λt x m' ht hx hm=>h _ ⟨d,a,m',D⟩ ((gR ht hx).mono (by omega) (by omega)) ⟨m',hm,rfl⟩;obtain⟨zs,ek,el,hz⟩:=lU ok;have l3:=ok.1;w_on;rw[ek];refine yD zs (λc=>.str c) (λc=>.str c) (λc=>kd kvs c==k) (by omega) ?_ ?_
 ·intro B x hx Rs Rn hs hn;w_on;refine aj _ (hz x hx).1 ?_;w_on;refine bL (λe=>?_) λe=>?_
  ·w_on;exact hs _ e ⟨rfl,rfl⟩ rfl
  ·exact hn _ e ⟨rfl,rfl⟩ rfl
 w_on;have fl:(zs.filter λc=>kd kvs c==k).length<=30:=by have:=length_filter_le (λc=>kd kvs c==k) zs;omega
 refine aj _ ⟨_,F8 (zs.filter λc=>kd kvs c==k),by omega,rfl⟩ ?_;have all:∀ z∈b9 (zs.filter λc=>kd kvs c==k),i9 kvs z:=λz eh=>hz z (mem_filter.mp ((d8 _).mem_iff.mp eh)).1;have sl:(b9 (zs.filter λc=>kd kvs c==k)).length<=30:=by rw[(d8 _).length_eq];exact fl
 generalize b9 (zs.filter λc=>kd kvs c==k)=ys at all sl;w_on;refine draw (by omega) (by decide) (by decide) λu u0 u1=>?_;w_on;refine lW ?_ λe tl=>?_
 ·w_on;refine aj (!ys.isEmpty) (ne_nil ys) ?_;refine lW ?_ λe3 tl=>?_
  ·w_on;refine bL (λe=>?_) λe=>?_
   ·w_on;exact tO _ _ _ (cD _) (d_ hk.sh) (by omega)
   ·w_on;refine bL (λe=>?_) λe=>?_
    ·w_on;refine draw (by omega) (by decide) (by decide) λv v0 v1=>?_;w_on;refine ef v0 (by simpa using v1) λx hx=>?_;w_on;simp only[mem_cons,not_mem_nil,or_false] at hx;rcases hx with rfl|rfl|rfl<;>exact tO _ _ _ (cD _) (d_ (cD _)) (by omega)
    ·w_on;refine draw (by omega) (by decide) (by decide) λv v0 v1=>?_;w_on;refine ef v0 (by simpa using v1) λx hx=>?_;w_on;simp only[mem_cons,not_mem_nil,or_false] at hx;rcases hx with rfl|rfl|rfl|rfl<;>exact tO _ _ _ (cD _) (G6 (by decide) (by decide)) (by omega)
  ·w_on;refine bL (λe4=>?_) λ_=>tl
   have z0:0<ys.length:=by
    cases ys with
    |nil=>simp at e3
    |cons b l=>simp
   have zl:(ys.map PV.str).length=ys.length:=length_map ..;w_on;refine draw (by omega) (by omega) (Int.lt_of_le_of_lt (b:=900) (by omega) (by decide)) λv v0 v1=>?_;w_on;refine ef v0 v1 λx hx=>?_;obtain⟨z,hz,rfl⟩:=mem_map.mp hx;w_on;exact tO _ _ _ (cD _) (d_ (all z hz).2.1) (by omega)
 ·w_on;refine bL (λe1=>?_) λ_=>tl;w_on;refine bL (λe2=>?_) λ_=>tl;obtain⟨m',rfl⟩:∃ m',m=m'+1:=⟨m-1,by have:=of_decide_eq_true e2;omega⟩;have BO:n+(4+2*nS m')<=90000:=fw;have e5:((m'+1:Nat):Int)-1=(m':Nat):=by omega
  clear tl;w_on;refine draw (by omega) (by decide) (by decide) λv v0 v1=>?_;w_on;refine ef v0 (by simpa using v1) λx hx=>?_
  have wx:∃ t:Str,x=.str t/\Sh t:=by
   simp only[mem_cons,not_mem_nil,or_false] at hx;rcases hx with rfl|rfl|rfl<;>exact⟨_,rfl,cD _⟩
  obtain⟨t,rfl,ht⟩:=wx;w_on;rw[e5];refine⟨m'+1,by omega,kvs,k,rfl,rfl,rfl,ok,hk,(by show n+1+1+nS m'<=90000;omega),λs1 fm iD cb=>?_⟩;obtain⟨m1,bt,rfl⟩:=cb;have fq:m1<=n+1+1+nS m':=bt;clear bt;w_on;rw[e5];refine⟨m'+1,by omega,kvs,k,rfl,rfl,rfl,ok,hk,(by show m1+nS m'<=90000;omega),λs2 cW hs2 cJ=>?_⟩;obtain⟨m2,a_,rfl⟩:=cJ;have fT:m2<=m1+nS m':=a_;clear a_;w_on;exact h _ ⟨d,a,m2,D⟩ ((gS ht iD hs2).mono (ar _) (by show 23+bS m'+bS m'<=25+2*bS m';omega)) ⟨m2,(by show m2<=n+(4+2*nS m');omega),rfl⟩
end
def lC:Nat->Nat|0=>1|1=>2|_=>6
def lA:Nat->Nat|0=>1|d+1=>2*d+5
def gC:Nat->Nat|0=>40|1=>90|_=>300
def gA:Nat->Nat|0=>5|1=>200|2=>600|_=>1200
def bC:Nat->Nat|0=>280|1=>600|_=>1750
def bA:Nat->Nat|0=>70|1=>1100|2=>4000|_=>9000
def dC:Nat->Nat|0=>3|1=>4|_=>7
def dA:Nat->Nat|0=>1|1=>6|2=>8|_=>10
def cA:Nat->Nat|0=>3|1=>6|2=>12|_=>24
def kC:Nat->Nat|0=>24|1=>18|_=>12
def zA:Nat->Nat|0=>100|1=>200|2=>400|_=>800
def lX (m:Nat)(x y z:PV)(st:ag)(Q:PV->ag->Prop):Prop:=∃(deep:Nat)(kvs:aS),deep<=2/\lC deep<=m/\lV x/\y=.ah kvs/\z=.int deep/\DD (kC deep) kvs/\dv st.b/\st.n+gC deep<=80000/\∀(c:Cd)(st':ag),ky (dC deep) (bC deep) c->Nz st (gC deep) st'->Q (qC c) st'
def VQ (deep:Nat)(st:ag)(Q:PV->ag->Prop):Prop:=∀(a:Ak)(kvs:aS)(s:Int)(st':ag),gQ (dA deep) (bA deep) a->DD (cA deep) kvs->kvs≠[]->0<=s->s<=zA deep->Nz st (gA deep) st'->Q (.tup [qA a,.ah kvs,.int s]) st'
def jH (m:Nat)(x y:PV)(st:ag)(Q:PV->ag->Prop):Prop:=∃ deep:Nat,deep<=3/\lA deep<=m/\lV x/\y=.int deep/\dv st.b/\st.n+gA deep<=80000/\VQ deep st Q
section
variable {P:Program}{w:World}{K:Frag}{mg:aZ}{base:Heap}
variable {m₀:Nat}
theorem kA:bw ["_law_state","_law_frame","_law_cols","_law_deep","_law_way_here","_law_ask_here","_law_more","_law_size","_law_one","_law_kind_here"] ["_law_state","_law_frame","_law_cols","_law_deep"] (aW wz):=by walk_at "s"
theorem VR {k:Nat}(D:Df K mg "_law_cond" wz)(B:Bt mg)(aY:Kn P w K mg base k "_law_take" (spS K false (bP eM)))(pO:Kn P w K mg base k "_law_kind" (spS K false (bP yX)))(dh:Kn P w K mg base k "_law_ask" (spS K false (cZ (jH m₀))))(fI:Kn P w K mg base k "_law_cond" (spS K false (c0 (lX m₀))))(fH:Kn P w K mg base k "_law_sum" (spS K false (c0 (nD 3))))(kB:Kn P w K mg base k "_law_merged" (aX K false (cB tN))):Kn P w K mg base (k+1) "_law_cond" (spS K false (c0 (lX (m₀+1)))):=by
 refine D.eK kA (λ_ _ _ _ _ _=>j0 λ_ _ _ _=>rfl) (λ_ _ _=>c0.len) (by decide) (λf aE A outer s H E hr=>⟨_,(sc (a9 (i:=4) kA.nd (aN rfl aY hr (ac (vn 0) (ac vi an))))
  (sc (bc (PW.pt (iq (lI (qn 3) (qv vi)) (iq (bW rfl hr (qn 4) (qv vi)) (ju (mW (qv (m7 hr 0 5 (by decide) (by decide) rfl)) (qv vi)))))) (sc (eV (aN rfl dh hr (ac (vn 0) (ac (vn 1) (ac (tw rfl B.min (qv vi) (qv (eU (qn 3) (qv vi)))) an)))) (dW (n:=3) rfl rfl (bj (aQ (i:=5) kA.nd) (bj (aQ (i:=6) kA.nd) (bj (aQ (i:=7) kA.nd) dU)))))
  (s1 (aK (et (ac vs (ac (vn 5) (ac (aN rfl fI hr (ac (vn 0) (ac (vn 1) (ac (bH rfl kB hr (ac (vn 2) (ac (vn 6) an))) (ac (eU (qn 3) (qv vi)) an))))) an))))))) sn)
  (sc (bc (PW.pt (iq (lI (qn 3) (qv vi)) (ju (bW rfl hr (qn 4) (qv vi))))) (s1 (aK (et (ac vs (ac (aN rfl fI hr (ac (vn 0) (ac (vn 1) (ac (vn 2) (ac (eU (qn 3) (qv vi)) an))))) an))))) sn)
  (sc (bc (PW.pt (iq (lI (qn 3) (qv vi)) (ju (lI (qn 4) (qv vi))))) (sc (a9 (i:=8) kA.nd (aN rfl fI hr (ac (vn 0) (ac (vn 1) (ac (vn 2) (ac (eU (qn 3) (qv vi)) an))))))
  (s1 (aK (et (ac (ax rfl hr (qf (el (ac vs (ac vs an)))) (qv (xP (qn 4) (qv vi)))) (ac (vn 8) (ac (aN rfl fI hr (ac (vn 0) (ac (vn 1) (ac (vn 2) (ac (eU (qn 3) (qv vi)) an))))) an))))))) sn)
  (sc (bc (bW rfl hr (qn 4) (qv vi)) (s1 (aK (et (ac vs an)))) sn)
  (sc (a9 (i:=9) kA.nd (aN rfl pO hr (ac (vn 0) (ac (vn 2) an))))
  (sc (bc (bW rfl hr (qn 4) (qv vi)) (s1 (aK (et (ac vs (ac (aN rfl fH hr (ac (vn 0) (ac (vn 2) (ac (vn 9) (ac vi an))))) an))))) sn)
  (s1 (aK (et (ac (ax rfl hr (qf (el (ac vs (ac vs (ac vs an))))) (qv (xP (qn 4) (qv vi)))) (ac (aN rfl fH hr (ac (vn 0) (ac (vn 2) (ac (vn 9) (ac vi an))))) (ac (aN rfl fH hr (ac (vn 0) (ac (vn 2) (ac (vn 9) (ac vi an))))) an))))))))))))),λB' xs st Q h=>?_⟩)
 obtain⟨x1,x2,x3,rfl,h⟩:=h;change (_:US) (dM false Q) ⟨B',[some (.val (.raw (.ref st.d))),some (.val x1),some (.val x2),some (.val x3),none,none,none,none,none,none],some st⟩;obtain⟨deep,kvs,d2,hl,F,rfl,rfl,ok,W,hn,h⟩:=h;obtain⟨d,a,n,D⟩:=st;have W':dv D:=W;have ZE:n+gC deep<=80000:=hn;clear hn;have hd:deep=0\/deep=1\/deep=2:=by omega
 have ZF:40<=gC deep:=by rcases hd with rfl|rfl|rfl<;>decide
 have VS:280<=bC deep:=by rcases hd with rfl|rfl|rfl<;>decide
 have d3:3<=dC deep:=by rcases hd with rfl|rfl|rfl<;>decide
 have kD:DD 30 kvs:=ok.mono (by rcases hd with rfl|rfl|rfl<;>decide);have Hf:nS 1=12:=rfl;have e9:bS 1=125:=rfl;w_on;refine draw (by omega) (by decide) (by decide) λu u0 u1=>?_;w_on;have yY:∀(t:Str)(r:ai)(m:Nat),t∈H4->Tm 3 280 (.tup (.str t::r))->m<=n+40->Q (.tup (.str t::r)) ⟨d,a,m,D⟩:=λt r m ht hr hm=>h (.lf t r) ⟨d,a,m,D⟩ ⟨ht,hr.mono d3 VS⟩ ⟨m,D.nm,D.pt,(by show m<=n+gC deep;omega),rfl⟩;refine lW ?_ λe tl=>?_
 ·w_on;refine lW ?_ λe tl=>?_
  ·w_on;refine lW ?_ λe tl=>?_
   ·w_on;refine bL (λe=>?_) λe=>?_
    ·w_on;exact yY "yes" [] _ (by decide) ((gO (dB (d:=2) (d_ (cD _)) i7)).mono (by decide) (by decide:20+1+0<=280)) (by omega)
    w_on;refine⟨kvs,rfl,kD,(by show n+1<=90000;omega),λk fm hk cb=>?_⟩;obtain⟨m1,bt,rfl⟩:=cb;have fq:m1<=n+1+1:=bt;clear bt;w_on;refine bL (λe=>?_) λe=>?_
    ·w_on;refine⟨2,by decide,kvs,k,rfl,rfl,rfl,kD,hk,(by show m1+nS 1<=90000;omega),λs1 cW iD cJ=>?_⟩;obtain⟨m2,a_,rfl⟩:=cJ;have fT:m2<=m1+nS 1:=a_;clear a_;w_on;exact yY "isnothing" [s1] m2 (by decide) ((gR (cD _) iD).mono (by decide) (by rw[e9];decide)) (by omega)
    ·have m0:0<=u % 3:=Int.emod_nonneg _ (by decide);have m3:u % 3<3:=Int.emod_lt_of_pos _ (by decide);w_on;refine ef m0 (by simpa using m3) λx hx=>?_
     have wx:∃ t:Str,x=.str t/\t∈H4/\Sh t:=by
      simp only[mem_cons,not_mem_nil,or_false] at hx;rcases hx with rfl|rfl|rfl<;>exact⟨_,rfl,by decide,cD _⟩
     obtain⟨t,rfl,t1,t2⟩:=wx;w_on;refine⟨2,by decide,kvs,k,rfl,rfl,rfl,kD,hk,(by show m1+nS 1<=90000;omega),λs1 cW iD cJ=>?_⟩;obtain⟨m2,a_,rfl⟩:=cJ;have fT:m2<=m1+nS 1:=a_;clear a_;w_on;refine⟨2,by decide,kvs,k,rfl,rfl,rfl,kD,hk,(by show m2+nS 1<=90000;omega),λs2 gw hs2 gi=>?_⟩;obtain⟨m3,dD,rfl⟩:=gi;have nE:m3<=m2+nS 1:=dD;clear dD;w_on;exact yY t [s1,s2] m3 t1 ((gS t2 iD hs2).mono (by decide) (by rw[e9];decide)) (by omega)
   ·w_on;refine bL (λe2=>?_) λ_=>tl;clear tl;obtain⟨dp,rfl,dS⟩:∃ dp,deep=dp+1/\(dp=0\/dp=1):=⟨deep-1,by have:=of_decide_eq_true e;omega,by omega⟩;have e5:((dp+1:Nat):Int)-1=(dp:Nat):=by omega
    have q1:lC dp+1<=lC (dp+1)/\gC dp*2+5<=gC (dp+1)/\23+bC dp+bC dp<=bC (dp+1)/\dC dp+1<=dC (dp+1)/\kC (dp+1)<=kC dp:=by rcases dS with rfl|rfl<;>decide
    obtain⟨q1,q2,q3,q4,q5⟩:=q1;w_on;rw[e5];refine⟨dp,kvs,by omega,by omega,F,rfl,rfl,ok.mono q5,W',(by show n+1+gC dp<=80000;omega),λc1 fm kE cb=>?_⟩;obtain⟨m1,tP,tQ,bt,rfl⟩:=cb;have fq:m1<=n+1+gC dp:=bt;clear bt;simp only[ag.d,ag.a,ag.b];have m0:0<=u % 2:=Int.emod_nonneg _ (by decide);have m3:u % 2<2:=Int.emod_lt_of_pos _ (by decide);w_on;refine ef m0 (by simpa using m3) λx hx=>?_
    have wx:∃ t:Str,x=.str t/\t∈H3/\Sh t:=by
     simp only[mem_cons,not_mem_nil,or_false] at hx;rcases hx with rfl|rfl<;>exact⟨_,rfl,by decide,cD _⟩
    obtain⟨t,rfl,t1,t2⟩:=wx;w_on;rw[e5];refine⟨dp,kvs,by omega,by omega,F,rfl,rfl,ok.mono q5,W',(by show m1+gC dp<=80000;omega),λc2 cW jY cJ=>?_⟩;obtain⟨m2,gU,gW,a_,rfl⟩:=cJ;have fT:m2<=m1+gC dp:=a_;clear a_;simp only[ag.d,ag.a,ag.b];w_on;exact h (.bo t c1 c2) _ ⟨⟨t1,kE.w,jY.w⟩,(gS t2 kE.t jY.t).mono q4 q3⟩ ⟨m2,gU,gW,(by show m2<=n+gC (dp+1);omega),rfl⟩
  ·w_on;refine bL (λe2=>?_) λ_=>tl;clear tl;obtain⟨dp,rfl,dS⟩:∃ dp,deep=dp+1/\(dp=0\/dp=1):=⟨deep-1,by have:=of_decide_eq_true e;omega,by omega⟩;have e5:((dp+1:Nat):Int)-1=(dp:Nat):=by omega
   have q1:lC dp+1<=lC (dp+1)/\gC dp*2+5<=gC (dp+1)/\22+bC dp<=bC (dp+1)/\dC dp+1<=dC (dp+1)/\kC (dp+1)<=kC dp:=by rcases dS with rfl|rfl<;>decide
   obtain⟨q1,q2,q3,q4,q5⟩:=q1;w_on;rw[e5];refine⟨dp,kvs,by omega,by omega,F,rfl,rfl,ok.mono q5,W',(by show n+1+gC dp<=80000;omega),λc1 fm kE cb=>?_⟩;obtain⟨m1,tP,tQ,bt,rfl⟩:=cb;have fq:m1<=n+1+gC dp:=bt;clear bt;simp only[ag.d,ag.a,ag.b];w_on;exact h (.nt c1) _ ⟨kE.w,(gR (cD _) kE.t).mono q4 q3⟩ ⟨m1,tP,tQ,(by show m1<=n+gC (dp+1);omega),rfl⟩
 ·w_on;refine bL (λe2=>?_) λ_=>tl;w_on;refine bL (λe3=>?_) λ_=>tl;clear tl;obtain⟨dp,rfl,dS⟩:∃ dp,deep=dp+1/\(dp=0\/dp=1):=⟨deep-1,by have:=of_decide_eq_true e;omega,by omega⟩;have e5:((dp+1:Nat):Int)-1=(dp:Nat):=by omega
  have q1:lC dp+1<=lC (dp+1)/\lA dp+1<=lC (dp+1)/\gA dp+gC dp+5<=gC (dp+1)/\23+bA dp+bC dp<=bC (dp+1)/\(max (dA dp) (dC dp)+1<=dC (dp+1))/\kC (dp+1)+cA dp<=kC dp/\kC dp<=24:=by rcases dS with rfl|rfl<;>decide
  obtain⟨q1,q0,q2,q3,q4,q5,q6⟩:=q1;have e6:(if ((dp:Nat):Int)<1 then ((dp:Nat):Int) else 1)=((dp:Nat):Int):=by rcases dS with rfl|rfl<;>rfl
  w_on;rw[e5,e6];refine⟨dp,by omega,by omega,F,rfl,W',(by show n+1+gA dp<=80000;omega),λa1 k1 s1 fm Hg Hh ne1 _ _ cb=>?_⟩;obtain⟨m1,tP,tQ,bt,rfl⟩:=cb;have fq:m1<=n+1+gA dp:=bt;clear bt;simp only[ag.d,ag.a,ag.b];have mr:=DD.merge ok Hh;have l1:=ok.1;have l2:=Hh.1;w_on;refine aj _ ⟨_,_,rfl,rfl,by omega,rfl⟩ ?_;w_on;rw[e5];refine⟨dp,_,by omega,by omega,F,rfl,rfl,mr.1.mono (by omega),W',(by show m1+gC dp<=80000;omega),λc1 cW kE cJ=>?_⟩;obtain⟨m2,gU,gW,a_,rfl⟩:=cJ;have fT:m2<=m1+gC dp:=a_;clear a_;simp only[ag.d,ag.a,ag.b];w_on;exact h (.cj a1 c1) _ ⟨⟨Hg.w,kE.w⟩,(gS (cD _) (Hg.t.mono (Nat.le_max_left _ (dC dp)) (ar _)) (kE.t.mono (Nat.le_max_right (dA dp) _) (ar _))).mono q4 q3⟩ ⟨m2,gU,gW,(by show m2<=n+gC (dp+1);omega),rfl⟩
end
theorem dQ (z:Str)(l:aq){b:Bool}(h:l.contains z=b):i3 false (.str z) (.tup (l.map PV.str)) (.bl b):=by rw[Gh,h,Bool.false_xor]
theorem Hi (c:Cd):1<=hC c:=by cases c<;>simp only[hC]<;>omega
theorem VT (a:Ak):1<=hA a:=by cases a<;>simp only[hA]<;>omega
def tR:Nat->PV->PV->Prop
 |m,x,r=>∃ c:Cd,x=qC c/\wC c/\hC c<=m/\nC c<=100000/\r=.lst ((aJ c).map qA)
def nF (x r:PV):Prop:=∃ a:Ak,x=qA a/\wA a/\hA a<=50/\nA a<=100000/\r=.lst ((kids a).map qA)
section
variable {P:Program}{w:World}{K:Frag}{mg:aZ}{base:Heap}
variable {m₀:Nat}
theorem pP:bw ["_law_cond_here","_law_found","_law_part_here"] ["_law_cond_here"] (aW wL):=by walk_at "s"
theorem VU {k:Nat}(D:Df K mg "_law_somes" wL)(B:Bt mg)(lY:Kn P w K mg base k "_law_somes" (aX K false (bX (tR m₀)))):Kn P w K mg base (k+1) "_law_somes" (aX K false (bX (tR (m₀+1)))):=by
 refine D.dN pP (λ_ _ _ _ _ _=>gD λ_=>rfl) (λ_ _=>bX.len) (by decide) (λf aE A outer s H E hr=>⟨_,(sc (bc (bW rfl hr (qv (ax rfl hr (qn 0) (qv vi))) (qv vs)) (s1 (aK (vf (mS (qf (el (ac (ax rfl hr (qn 0) (qv vi)) an))) (qv (bH rfl lY hr (ac (ax rfl hr (qn 0) (qv vi)) an))))))) sn)
  (sc (a9 (i:=1) pP.nd (vf (el an)))
  (sc (eS PassesOwn.never rfl (iv rfl (jB rfl (qn 0) (gK vi) iY)) (aQ (i:=2) pP.nd)
  (s1 (bc (m9 rfl hr (qv (ax rfl hr (qn 0) (qv vi))) (qv (et (ac vs (ac vs (ac vs an)))))) (s1 (a9 (i:=1) pP.nd (bR rfl (qn 1) (qv (bH rfl lY hr (ac (vn 2) an)))))) sn)))
  (s1 (aK (vn 1)))))),λB' xs r h=>?_⟩)
 obtain⟨x0,rfl,h⟩:=h;change (_:US) (cV false r) ⟨B',[some (.val x0),none,none],none⟩;obtain⟨c,rfl,hw,hh,hn,rfl⟩:=h
 cases c with
 |cj a c=>
  simp only[wC,hC,nC] at hw hh hn;simp only[qC,aJ];w_on;refine cI (by decide +kernel) ?_;w_on;refine aj _ ⟨c,rfl,hw.2,by omega,by omega,rfl⟩ ?_;have:=eY c;w_on;rw[length_map];omega
 |nt c=>
  simp only[wC,hC,nC] at hw hh hn;simp only[qC,aJ];w_on;refine bp (by decide +kernel) ?_;w_on;rw[iz (by decide) (by show(1:Int)<=(_+1:Nat);omega)];show fF ([c].map qC) _ _ _ _ _;refine gh [c] qC (λdd A=>∃(xs:List Ak)(o:Option Sl),A=⟨B',[some (.val (PV.tup [PV.str "not",qC c])),some (.val (.lst (xs.map qA))),o],none⟩/\xs=dd.flatMap aJ) ⟨[],none,rfl,rfl⟩ (λ_ _ _=>trivial) ?_ ?_
  ·rintro dd x r A2 e ⟨xs,o,rfl,rfl⟩
   have hx:wC x/\hC x<=m₀/\nC x<=100000:=by
    have:x∈[c]:=by rw[e];simp
    simp only[mem_cons,not_mem_nil,or_false] at this;rw[this];exact⟨hw,by omega,by omega⟩
   have hl:(dd.flatMap aJ).length+(aJ x).length<=100000:=by
    have:=eY c
    cases dd with
    |nil=>injection e with e1 _;subst e1;show 0+_<=_;omega
    |cons y dd=>injection e with _ e2;exact absurd (congrArg List.length e2) (by simp)
   w_on;refine aj _ (dQ "not" ["not","both","either"] rfl) ?_;refine cI (by decide +kernel) ?_;w_on;refine aj _ ⟨x,rfl,hx.1,hx.2.1,hx.2.2,rfl⟩ ?_;w_on;exact⟨by rw[length_map,length_map];omega,dd.flatMap aJ++aJ x,some (.val (qC x)),by rw[map_append],by rw[flatMap_append];simp⟩
  ·rintro A2 ⟨xs,o,rfl,rfl⟩;w_on;simp
 |bo h c d=>
  simp only[wC,hC,nC] at hw hh hn;simp only[qC,aJ];w_on;refine bp (by simp only[H3,mem_cons,not_mem_nil,or_false] at hw;rcases hw.1 with rfl|rfl<;>decide +kernel) ?_;w_on;rw[iz (by decide) (by show(1:Int)<=(_+1:Nat);omega)];show fF ([c,d].map qC) _ _ _ _ _;refine gh [c,d] qC (λdd A=>∃(xs:List Ak)(o:Option Sl),A=⟨B',[some (.val (PV.tup [PV.str h,qC c,qC d])),some (.val (.lst (xs.map qA))),o],none⟩/\xs=dd.flatMap aJ) ⟨[],none,rfl,rfl⟩ (λ_ _ _=>trivial) ?_ ?_
  ·rintro dd x r A2 e ⟨xs,o,rfl,rfl⟩
   have hx:wC x/\hC x<=m₀/\nC x<=100000:=by
    have:x∈[c,d]:=by rw[e];simp
    simp only[mem_cons,not_mem_nil,or_false] at this;rcases this with e5|e5
    ·rw[e5];exact⟨hw.2.1,by omega,by omega⟩
    ·rw[e5];exact⟨hw.2.2,by omega,by omega⟩
   have hl:(dd.flatMap aJ).length+(aJ x).length<=100000:=by
    have l1:=eY c;have l2:=eY d
    cases dd with
    |nil=>injection e with e1 _;subst e1;show 0+_<=_;omega
    |cons y dd=>
     injection e with e1 e2
     subst e1
     cases dd with
     |nil=>injection e2 with e3 _;subst e3;simp;omega
     |cons y dd=>injection e2 with _ e4;exact absurd (congrArg List.length e4) (by simp)
   w_on;refine aj _ (dQ h ["not","both","either"] rfl) ?_;refine cI (by simp only[H3,mem_cons,not_mem_nil,or_false] at hw;rcases hw.1 with rfl|rfl<;>decide +kernel) ?_;w_on;refine aj _ ⟨x,rfl,hx.1,hx.2.1,hx.2.2,rfl⟩ ?_;w_on;exact⟨by rw[length_map,length_map];omega,dd.flatMap aJ++aJ x,some (.val (qC x)),by rw[map_append],by rw[flatMap_append];simp⟩
  ·rintro A2 ⟨xs,o,rfl,rfl⟩;w_on;simp
 |lf h r=>
  simp only[wC] at hw;have h1:(h=="some")=false:=by simp only[H4,mem_cons,not_mem_nil,or_false] at hw;rcases hw with rfl|rfl|rfl|rfl<;>decide +kernel
  have h2:[("not":Str),"both","either"].contains h=false:=by simp only[H4,mem_cons,not_mem_nil,or_false] at hw;rcases hw with rfl|rfl|rfl|rfl<;>decide +kernel
  simp only[qC,aJ];w_on;refine bp h1 ?_;w_on;rw[iz (by decide) (by show(1:Int)<=(_+1:Nat);omega)];show fF r _ _ _ _ _;rw[<- map_id r];refine gh r id (λdd A=>∃(o:Option Sl),A=⟨B',[some (.val (.tup (.str h::map id r))),some (.val (.lst [])),o],none⟩) ⟨none,rfl⟩ (λ_ _ _=>trivial) ?_ ?_
  ·rintro dd x r A2 e ⟨o,rfl⟩;w_on;refine aj _ (dQ h ["not","both","either"] h2) ?_;refine bp rfl ?_;w_on;exact⟨_,rfl⟩
  ·rintro A2 ⟨o,rfl⟩;w_on
end
mutual
def many:Ak->Nat
 |.tab _ _=>1
 |.one _ a _=>1+many a
 |.pick a c=>1+(many a+i_ c)
 |.two _ a b c=>1+(many a+(many b+i_ c))
 |.add a b=>1+(many a+many b)
def i_:Cd->Nat
 |.cj a c=>many a+i_ c
 |.nt c=>i_ c
 |.bo _ c d=>i_ c+i_ d
 |.lf _ _=>0
end
theorem pQ:∀ c:Cd,((aJ c).map many).sum=i_ c
 |.cj a c=>by simp [aJ,i_,pQ c]
 |.nt c=>by simp [aJ,i_,pQ c]
 |.bo _ c d=>by simp [aJ,i_,pQ c,pQ d]
 |.lf _ _=>rfl
theorem VW (a:Ak):many a=1+((kids a).map many).sum:=by
 cases a<;>simp [kids,many,pQ]
theorem nG:∀{c:Cd},wC c->∀ a∈aJ c,wA a/\hA a<hC c/\nA a<nC c
 |.cj a c,h,x,hx=>by
  simp only[wC,hC,nC] at h ⊢;rcases mem_cons.mp hx with e|e
  ·subst e;exact⟨h.1,by omega,by omega⟩
  ·have:=nG h.2 x e;exact⟨this.1,by omega,by omega⟩
 |.nt c,h,x,hx=>by
  simp only[wC,hC,nC] at h ⊢;have:=nG h x hx;exact⟨this.1,by omega,by omega⟩
 |.bo _ c d,h,x,hx=>by
  simp only[wC,hC,nC] at h ⊢;rcases mem_append.mp hx with e|e
  ·have:=nG h.2.1 x e;exact⟨this.1,by omega,by omega⟩
  ·have:=nG h.2.2 x e;exact⟨this.1,by omega,by omega⟩
 |.lf _ _,_,x,hx=>by cases hx
theorem kF {a:Ak}(h:wA a):∀ x∈kids a,wA x/\hA x<hA a/\nA x<nA a:=by
 intro x hx
 cases a with
 |tab _ _=>cases hx
 |one _ a _=>
  simp only[wA,hA,nA] at h ⊢;rw[mem_singleton.mp hx];exact⟨h.2,by omega,by omega⟩
 |pick a c=>
  simp only[wA,hA,nA] at h ⊢;rcases mem_cons.mp hx with e|e
  ·subst e;exact⟨h.1,by omega,by omega⟩
  ·have:=nG h.2 x e;exact⟨this.1,by omega,by omega⟩
 |two _ a b c=>
  simp only[wA,hA,nA] at h ⊢;rcases mem_cons.mp hx with e|e
  ·subst e;exact⟨h.2.1,by omega,by omega⟩
  rcases mem_cons.mp e with e|e
  ·subst e;exact⟨h.2.2.1,by omega,by omega⟩
  ·have:=nG h.2.2.2 x e;exact⟨this.1,by omega,by omega⟩
 |add a b=>
  simp only[wA,hA,nA] at h ⊢;rcases mem_cons.mp hx with e|e
  ·subst e;exact⟨h.1,by omega,by omega⟩
  ·rw[mem_singleton.mp e];exact⟨h.2,by omega,by omega⟩
theorem Hj:∀ l:List Ak,ins (l.map λk=>PV.int (many k:Nat))=some (l.map λk=>((many k:Nat):Int))
 |[]=>rfl
 |k::l=>by
  have:=Hj l;simp only[map_cons,ins,this];rfl
theorem Hk:∀ l:List Ak,(l.map λk=>((many k:Nat):Int)).sum=(((l.map many).sum:Nat):Int)
 |[]=>rfl
 |k::l=>by simp [Hk l]
theorem yZ (a:Ak):1<=nA a:=by cases a<;>simp only[nA]<;>omega
def tS (m:Nat)(x r:PV):Prop:=∃ a:Ak,x=qA a/\wA a/\hA a<=m/\hA a<=50/\nA a<=100000/\r=.int (many a:Nat)
section
variable {P:Program}{w:World}{K:Frag}{mg:aZ}{base:Heap}
theorem VX:bw ["_law_ask_here"] ["_law_ask_here"] (aW wM):=by walk_at "s"
theorem VY {k:Nat}(D:Df K mg "_law_children" wM)(B:Bt mg)(lY:Kn P w K mg base k "_law_somes" (aX K false (bX (tR 50)))):Kn P w K mg base (k+1) "_law_children" (aX K false (bX nF)):=by
 refine D.dN VX (λ_ _ _ _ _ _=>gD λ_=>rfl) (λ_ _=>bX.len) (by decide) (λf aE A outer s H E hr=>⟨_,(sc (bc (bW rfl hr (qv (ax rfl hr (qn 0) (qv vi))) (qv vs)) (s1 (aK (vf (el an)))) sn)
  (sc (bc (m9 rfl hr (qv (ax rfl hr (qn 0) (qv vi))) (qv (et (ac vs (ac vs (ac vs (ac vs an))))))) (s1 (aK (vf (mS (qf (el (ac (ax rfl hr (qn 0) (qv vi)) (ac (ax rfl hr (qn 0) (qv vi)) an)))) (qv (bH rfl lY hr (ac (ax rfl hr (qn 0) (qv vi)) an))))))) sn)
  (sc (bc (bW rfl hr (qv (ax rfl hr (qn 0) (qv vi))) (qv vs)) (s1 (aK (vf (el (ac (ax rfl hr (qn 0) (qv vi)) (ac (ax rfl hr (qn 0) (qv vi)) an)))))) sn)
  (sc (bc (bW rfl hr (qv (ax rfl hr (qn 0) (qv vi))) (qv vs)) (s1 (aK (vf (mS (qf (el (ac (ax rfl hr (qn 0) (qv vi)) an))) (qv (bH rfl lY hr (ac (ax rfl hr (qn 0) (qv vi)) an))))))) sn)
  (s1 (aK (vf (el (ac (ax rfl hr (qn 0) (qv vi)) an))))))))),λB' xs r h=>?_⟩)
 obtain⟨x0,rfl,h⟩:=h;change (_:US) (cV false r) ⟨B',[some (.val x0)],none⟩;obtain⟨a,rfl,hw,hh,hn,rfl⟩:=h
 cases a with
 |tab n w=>
  simp only[qA,kids];w_on;exact cI (by decide +kernel) (by w_on)
 |one h a r=>
  simp only[wA,hA,nA] at hw hh hn
  have h1:(h=="table")=false/\[("join":Str),"left","half","lack"].contains h=false/\(h=="add")=false/\(h=="pick")=false:=by
   simp only[H1,mem_cons,not_mem_nil,or_false] at hw;rcases hw.1 with rfl|rfl|rfl|rfl<;>decide +kernel
  simp only[qA,kids];w_on;refine bp h1.1 ?_;w_on;refine aj _ (dQ h ["join","left","half","lack"] h1.2.1) ?_;refine bp rfl ?_;w_on;refine bp h1.2.2.1 ?_;w_on;refine bp h1.2.2.2 ?_;w_on
 |pick a c=>
  simp only[wA,hA,nA] at hw hh hn;simp only[qA,kids];w_on;refine bp (by decide +kernel) ?_;w_on;refine aj _ (dQ "pick" ["join","left","half","lack"] rfl) ?_;refine bp (by decide +kernel) ?_;w_on;refine bp (by decide +kernel) ?_;w_on;refine cI (by decide +kernel) ?_;w_on;refine aj _ ⟨c,rfl,hw.2,by omega,by omega,rfl⟩ ?_;have:=eY c;w_on;rw[length_map];omega
 |two h a b c=>
  simp only[wA,hA,nA] at hw hh hn
  have h1:(h=="table")=false/\[("join":Str),"left","half","lack"].contains h=true:=by
   simp only[H2,mem_cons,not_mem_nil,or_false] at hw;rcases hw.1 with rfl|rfl|rfl|rfl<;>decide +kernel
  simp only[qA,kids];w_on;refine bp h1.1 ?_;w_on;refine aj _ (dQ h ["join","left","half","lack"] h1.2) ?_;refine cI rfl ?_;w_on;refine aj _ ⟨c,rfl,hw.2.2.2,by omega,by omega,rfl⟩ ?_;have:=eY c;have:=yZ a;w_on;rw[length_map];omega
 |add a b=>
  simp only[qA,kids];w_on;refine bp (by decide +kernel) ?_;w_on;refine aj _ (dQ "add" ["join","left","half","lack"] rfl) ?_;refine bp (by decide +kernel) ?_;w_on;refine cI (by decide +kernel) ?_;w_on
variable {m₀:Nat}
theorem Hl:bw ["_law_ask_here"] ["_law_ask_here"] (aW wU):=by walk_at "s"
theorem VZ {k:Nat}(D:Df K mg "_law_many" wU)(B:Bt mg)(nH:Kn P w K mg base k "_law_many" (aX K false (bX (tS m₀))))(eN:Kn P w K mg base k "_law_children" (aX K false (bX nF))):Kn P w K mg base (k+1) "_law_many" (aX K false (bX (tS (m₀+1)))):=by
 refine D.dN Hl (λ_ _ _ _ _ _=>gD λ_=>rfl) (λ_ _=>bX.len) (by decide) (λf aE A outer s H E hr=>⟨_,(s1 (aK (bR rfl (qv vi) (qv (UJ rfl rfl B.sum (qf (lE (N:=["_law_child"]) (k:=1) (ix:=[]) cS rfl (iv rfl (bH rfl eN hr (ac (vn 0) an))) (λ_ _ _ _=>(aQ (i:=0) (by show(["_law_child"]:aq).Nodup;decide +kernel))) (λ_ _ _ _=>kg) (λ_ _ _ _=>(bH rfl nH hr (ac (vn 0) an)))))))))),λB' xs r h=>?_⟩);obtain⟨x0,rfl,h⟩:=h;change (_:US) (cV false r) ⟨B',[some (.val x0)],none⟩;obtain⟨a,rfl,hw,hh,h5,hn,rfl⟩:=h;have kl:=tJ a;w_on;refine aj _ ⟨a,rfl,hw,h5,hn,rfl⟩ ?_;w_on;refine ng (kids a) qA (λk=>.int (many k:Nat)) (by omega) ?_ ?_
 ·intro B x hx R hR;obtain⟨k1,k2,k3⟩:=kF hw x hx;w_on;refine aj _ ⟨x,rfl,k1,by omega,by omega,by omega,rfl⟩ ?_;exact hR _ ⟨rfl,rfl⟩ rfl
 refine aj _ ⟨_,Hj _,rfl⟩ ?_;rw[Hk];w_on;rw[VW a];simp
end
theorem tT:∀{c:Cd}{i:Nat}{q:Ak},(aJ c).length<=i->b_ c i q=c
 |.cj a c,0,q,h=>by simp [aJ] at h
 |.cj a c,i+1,q,h=>by
  simp only[aJ,length_cons] at h;simp only[b_];rw[tT (by omega)]
 |.nt c,i,q,h=>by simp only[aJ] at h;simp only[b_];rw[tT h]
 |.bo t c d,i,q,h=>by
  simp only[aJ,length_append] at h;simp only[b_];rw[if_neg (by omega),tT (by omega)]
 |.lf _ _,_,_,_=>by simp only[b_]
def eA (c:Cd)(i:Nat):Int:=if i<(aJ c).length then -1 else (i:Int)-(aJ c).length
theorem V0 {a:Ak}{c:Cd}{i:Nat}:eA c i=eA (.cj a c) (i+1):=by
 unfold eA;by_cases h:i<(aJ c).length
 ·rw[if_pos (show i+1<(aJ (.cj a c)).length by simp only[aJ,length_cons];omega),if_pos h]
 ·rw[if_neg (show ¬ i+1<(aJ (.cj a c)).length by simp only[aJ,length_cons];omega),if_neg h];simp only[aJ,length_cons];omega
def tU (m:Nat)(x y z r:PV):Prop:=∃(c:Cd)(i:Nat)(q:Ak),x=qC c/\y=.int (i:Nat)/\z=qA q/\wC c/\hC c<=m/\nC c<=100000/\i<=200000/\r=.tup [qC (b_ c i q),.int (eA c i)]
def cw (q:Ak):ai×Int->Cd->ai×Int:=λs x=>if 0<=s.2 then (s.1++[qC (b_ x s.2.toNat q)],eA x s.2.toNat) else (s.1++[qC x],s.2)
theorem tV {q:Ak}{xs:ai}{k:Nat}{x:Cd}:cw q (xs,(k:Int)) x=(xs++[qC (b_ x k q)],eA x k):=by
 unfold cw;rw[if_pos (show(0:Int)<=(k:Int) by omega)];rfl
theorem y8 {q:Ak}{xs:ai}{j:Int}{x:Cd}(h:j<0):cw q (xs,j) x=(xs++[qC x],j):=by
 unfold cw;rw[if_neg (show ¬ (0:Int)<=j by omega)]
theorem V1 {q:Ak}{h:Str}{c d:Cd}{i:Nat}:PV.tup ([c,d].foldl (cw q) ([.str h],(i:Int))).1=qC (b_ (.bo h c d) i q)/\([c,d].foldl (cw q) ([.str h],(i:Int))).2=eA (.bo h c d) i:=by
 rw[foldl_cons,foldl_cons,foldl_nil,tV];have lb:(aJ (.bo h c d)).length=(aJ c).length+(aJ d).length:=by simp only[aJ,length_append]
 by_cases e:i<(aJ c).length
 ·have e1:eA c i=-1:=by unfold eA;rw[if_pos e]
  rw[e1,y8 (by decide)];refine⟨?_,?_⟩
  ·simp only[b_];rw[if_pos e];rfl
  ·unfold eA;rw[if_pos (by omega)]
 ·have e1:eA c i=((i-(aJ c).length:Nat):Int):=by unfold eA;rw[if_neg e];omega
  rw[e1,tV,tT (c:=c) (by omega)];refine⟨?_,?_⟩
  ·simp only[b_];rw[if_neg e];rfl
  ·unfold eA;rw[lb];by_cases e2:i-(aJ c).length<(aJ d).length
   ·rw[if_pos e2,if_pos (by omega)]
   ·rw[if_neg e2,if_neg (by omega)];omega
theorem y9 (q:Ak):∀(l:List Cd)(s:ai×Int),(l.foldl (cw q) s).1.length=s.1.length+l.length
 |[],s=>rfl
 |x::l,s=>by
  rw[foldl_cons,y9 q l];unfold cw
  split<;>simp<;>omega
theorem Hm (c:Cd)(i:Nat):eA c i<=i /\ -1<=eA c i:=by unfold eA;split<;>omega
theorem y_ (q:Ak):∀(l:List Cd)(s:ai×Int){b:Int},s.2<=b -> -1<=s.2->(l.foldl (cw q) s).2<=b /\ -1<=(l.foldl (cw q) s).2
 |[],s,b,h,g=>⟨h,g⟩
 |x::l,s,b,h,g=>by
  rw[foldl_cons];refine y_ q l _ ?_ ?_
  ·unfold cw;split
   ·have:=(Hm x s.2.toNat).1;show eA x s.2.toNat<=b;omega
   ·exact h
  ·unfold cw;split
   ·exact(Hm x s.2.toNat).2
   ·exact g
section
variable {P:Program}{w:World}{K:Frag}{mg:aZ}{base:Heap}
variable {m₀:Nat}
theorem kH:bw ["_law_cond_here","_law_at","_law_part_here","_law_inner","_law_left","_law_found","_law_one"] ["_law_cond_here","_law_at","_law_part_here"] (aW wN):=by walk_at "s"
theorem V2 {k:Nat}(D:Df K mg "_law_cond_with" wN)(B:Bt mg)(nI:Kn P w K mg base k "_law_cond_with" (aX K false (dz (tU m₀)))):Kn P w K mg base (k+1) "_law_cond_with" (aX K false (dz (tU (m₀+1)))):=by
 refine D.dN kH (λ_ _ _ _ _ _=>fL λ_ _ _=>rfl) (λ_ _=>dz.len) (by decide) (λf aE A outer s H E hr=>⟨_,(sc (bc (bW rfl hr (qv (ax rfl hr (qn 0) (qv vi))) (qv vs)) (sc (bc (bW rfl hr (qn 1) (qv vi)) (s1 (aK (et (ac (et (ac vs (ac (vn 2) (ac (ax rfl hr (qn 0) (qv vi)) an)))) (ac (lM vi) an))))) sn)
  (sc (eV (bH rfl nI hr (ac (ax rfl hr (qn 0) (qv vi)) (ac (eU (qn 1) (qv vi)) (ac (vn 2) an)))) (dW (n:=2) rfl rfl (bj (aQ (i:=3) kH.nd) (bj (aQ (i:=4) kH.nd) dU))))
  (s1 (aK (et (ac (et (ac vs (ac (ax rfl hr (qn 0) (qv vi)) (ac (vn 3) an)))) (ac (vn 4) an))))))) sn)
  (sc (eQ (i:=5) kH.nd (el (ac (ax rfl hr (qn 0) (qv vi)) an)))
  (sc (eS PassesOwn.never rfl (iv rfl (jB rfl (qn 0) (gK vi) iY)) (aQ (i:=6) kH.nd)
  (sc (bc (PW.pt (iq (m9 rfl hr (qv (ax rfl hr (qn 0) (qv vi))) (qv (et (ac vs (ac vs (ac vs an)))))) (ju (Qg (qn 1) (qv vi))))) (s1 (eV (bH rfl nI hr (ac (vn 6) (ac (vn 1) (ac (vn 2) an)))) (dW (n:=2) rfl rfl (bj (aQ (i:=6) kH.nd) (bj (aQ (i:=1) kH.nd) dU))))) sn)
  (s1 (eR (fQ rfl 5 (vn 6))))))
  (s1 (aK (et (ac (ko rfl B.tuple (qn 5)) (ac (vn 1) an)))))))),λB' xs r h=>?_⟩)
 obtain⟨x0,x1,x2,rfl,h⟩:=h;change (_:US) (cV false r) ⟨B',[some (.val x0),some (.val x1),some (.val x2),none,none,none,none],none⟩;obtain⟨c,i,q,rfl,rfl,rfl,hw,hh,hn,hi,rfl⟩:=h
 cases c with
 |cj a c=>
  simp only[wC,hC,nC] at hw hh hn;simp only[qC];w_on;refine cI (by decide +kernel) ?_;w_on;refine bL (λe=>?_) λe=>?_
  ·obtain rfl:i=0:=by have:=of_decide_eq_true e;omega
   w_on;exact⟨rfl,by unfold eA;rw[if_pos (by simp [aJ])]⟩
  obtain⟨i,rfl⟩:∃ j,i=j+1:=⟨i-1,by have:=of_decide_eq_false e;omega⟩;have e1:(((i+1:Nat):Int)-1)=(i:Nat):=by omega
  w_on;rw[e1];refine aj _ ⟨c,i,q,rfl,rfl,rfl,hw.2,by omega,by omega,by omega,rfl⟩ ?_;w_on;exact⟨rfl,V0⟩
 |nt c=>
  simp only[wC,hC,nC] at hw hh hn;simp only[qC];w_on;refine bp (by decide +kernel) ?_;w_on;intro p;rw[iz (by decide) (by show(1:Int)<=(_+1:Nat);omega)];show fF ([c].map qC) _ _ _ _ _;refine gh [c] qC (λdd A=>∃(o4:Option Sl),A=⟨B',[some (.val (PV.tup [PV.str "not",qC c])),some (.val (.int (dd.foldl (cw q) ([.str "not"],(i:Int))).2)),some (.val (qA q)),none,none,some (.own p (.lst (dd.foldl (cw q) ([.str "not"],(i:Int))).1)),o4],none⟩) ⟨none,rfl⟩ (λ_ _ _=>trivial) ?_ ?_
  ·rintro dd x r A2 e ⟨o4,rfl⟩
   have hx:wC x/\hC x<=m₀/\nC x<=100000:=by
    have:x∈[c]:=by rw[e];simp
    simp only[mem_cons,not_mem_nil,or_false] at this;rw[this];exact⟨hw,by omega,by omega⟩
   have dl:dd.length<=5:=by have:=congrArg List.length e;simp at this;omega
   have l1:=y9 q dd ([.str "not"],(i:Int));have l2:=y_ q dd ([.str "not"],(i:Int)) (b:=200000) (by show(i:Int)<=_;omega) (by show -1<=(i:Int);omega);have en:(dd++[x]).foldl (cw q) ([.str "not"],(i:Int))=cw q (dd.foldl (cw q) ([.str "not"],(i:Int))) x:=by rw[foldl_append];rfl
   rw[en];generalize dd.foldl (cw q) ([.str "not"],(i:Int))=s at l1 l2 ⊢;obtain⟨xs,j⟩:=s;have GX:xs.length=1+dd.length:=l1;have V3:j<=200000 /\ -1<=j:=l2;w_on;refine aj _ (dQ "not" ["not","both","either"] rfl) ?_;refine cI (by decide +kernel) ?_;w_on;refine bL (λe0=>?_) λe0=>?_
   ·obtain⟨k,rfl⟩:∃ k:Nat,j=(k:Int):=⟨j.toNat,by have:=of_decide_eq_true e0;omega⟩;simp only[tV];w_on;refine aj _ ⟨x,k,q,rfl,rfl,rfl,hx.1,hx.2.1,hx.2.2,by omega,rfl⟩ ?_;w_on;exact⟨by omega,_,rfl⟩
   ·simp only[y8 (q:=q) (xs:=xs) (x:=x) (show j<0 by have:=of_decide_eq_false e0;omega)];w_on;exact⟨by omega,_,rfl⟩
  ·rintro A2 ⟨o4,rfl⟩;w_on;exact⟨rfl,rfl⟩
 |bo h c d=>
  simp only[wC,hC,nC] at hw hh hn;simp only[qC];w_on;refine bp (by simp only[H3,mem_cons,not_mem_nil,or_false] at hw;rcases hw.1 with rfl|rfl<;>decide +kernel) ?_;w_on;intro p;rw[iz (by decide) (by show(1:Int)<=(_+1:Nat);omega)];show fF ([c,d].map qC) _ _ _ _ _;refine gh [c,d] qC (λdd A=>∃(o4:Option Sl),A=⟨B',[some (.val (PV.tup [PV.str h,qC c,qC d])),some (.val (.int (dd.foldl (cw q) ([.str h],(i:Int))).2)),some (.val (qA q)),none,none,some (.own p (.lst (dd.foldl (cw q) ([.str h],(i:Int))).1)),o4],none⟩) ⟨none,rfl⟩ (λ_ _ _=>trivial) ?_ ?_
  ·rintro dd x r A2 e ⟨o4,rfl⟩
   have hx:wC x/\hC x<=m₀/\nC x<=100000:=by
    have:x∈[c,d]:=by rw[e];simp
    simp only[mem_cons,not_mem_nil,or_false] at this;rcases this with e5|e5
    ·rw[e5];exact⟨hw.2.1,by omega,by omega⟩
    ·rw[e5];exact⟨hw.2.2,by omega,by omega⟩
   have dl:dd.length<=5:=by have:=congrArg List.length e;simp at this;omega
   have l1:=y9 q dd ([.str h],(i:Int));have l2:=y_ q dd ([.str h],(i:Int)) (b:=200000) (by show(i:Int)<=_;omega) (by show -1<=(i:Int);omega);have en:(dd++[x]).foldl (cw q) ([.str h],(i:Int))=cw q (dd.foldl (cw q) ([.str h],(i:Int))) x:=by rw[foldl_append];rfl
   rw[en];generalize dd.foldl (cw q) ([.str h],(i:Int))=s at l1 l2 ⊢;obtain⟨xs,j⟩:=s;have GX:xs.length=1+dd.length:=l1;have V3:j<=200000 /\ -1<=j:=l2;w_on;refine aj _ (dQ h ["not","both","either"] rfl) ?_;refine cI (by simp only[H3,mem_cons,not_mem_nil,or_false] at hw;rcases hw.1 with rfl|rfl<;>decide +kernel) ?_;w_on;refine bL (λe0=>?_) λe0=>?_
   ·obtain⟨k,rfl⟩:∃ k:Nat,j=(k:Int):=⟨j.toNat,by have:=of_decide_eq_true e0;omega⟩;simp only[tV];w_on;refine aj _ ⟨x,k,q,rfl,rfl,rfl,hx.1,hx.2.1,hx.2.2,by omega,rfl⟩ ?_;w_on;exact⟨by omega,_,rfl⟩
   ·simp only[y8 (q:=q) (xs:=xs) (x:=x) (show j<0 by have:=of_decide_eq_false e0;omega)];w_on;exact⟨by omega,_,rfl⟩
  ·rintro A2 ⟨o4,rfl⟩;w_on;exact V1
 |lf h r=>
  simp only[wC] at hw;have h1:(h=="some")=false:=by simp only[H4,mem_cons,not_mem_nil,or_false] at hw;rcases hw with rfl|rfl|rfl|rfl<;>decide +kernel
  have h2:[("not":Str),"both","either"].contains h=false:=by simp only[H4,mem_cons,not_mem_nil,or_false] at hw;rcases hw with rfl|rfl|rfl|rfl<;>decide +kernel
  simp only[qC];w_on;refine bp h1 ?_;simp only[nC] at hn;w_on;intro p;rw[iz (by decide) (by show(1:Int)<=(_+1:Nat);omega)];show fF r _ _ _ _ _;rw[<- map_id r];refine gh r id (λdd A=>∃(o:Option Sl),A=⟨B',[some (.val (.tup (.str h::map id r))),some (.val (.int (i:Nat))),some (.val (qA q)),none,none,some (.own p (.lst (.str h::dd))),o],none⟩) ⟨none,rfl⟩ (λ_ _ _=>trivial) ?_ ?_
  ·rintro dd x r A2 e ⟨o,rfl⟩;have dl:dd.length<=99999:=by have:=congrArg List.length e;simp at this;omega
   w_on;refine aj _ (dQ h ["not","both","either"] h2) ?_;refine bp rfl ?_;w_on;exact⟨by omega,_,rfl⟩
  ·rintro A2 ⟨o,rfl⟩;w_on;rw[map_id];exact⟨rfl,by unfold eA;rw[if_neg (by simp [aJ])];simp [aJ]⟩
end
def qW (w:List Nat):PV:=.tup (w.map λi=>.int (i:Nat))
def qP (s:List Nat×Ak):PV:=.tup [qW s.1,qA s.2]
def Ch:PV->List (ai×Nat)->PV->Prop
 |t,[],u=>u=t
 |t,s::L,u=>t=.tup s.1/\s.1.length<=100000/\∃ y,s.1[s.2]?=some y/\Ch y L u
def fo (L:List (ai×Nat))(z:PV):PV:=L.foldr (λs o=>.tup (s.1.take s.2++[o]++s.1.drop (s.2+1))) z
theorem za:∀{L M:List (ai×Nat)}{t u v:PV},Ch t L u->Ch u M v->Ch t (L++M) v
 |[],M,t,u,v,h,g=>by cases h;exact g
 |s::L,M,t,u,v,h,g=>⟨h.1,h.2.1,h.2.2.choose,h.2.2.choose_spec.1,za h.2.2.choose_spec.2 g⟩
theorem Hn (L M:List (ai×Nat))(z:PV):fo (L++M) z=fo L (fo M z):=by unfold fo;rw[foldr_append]
theorem Ho:∀{L:List (ai×Nat)}{t u:PV},Ch t L u->fo L u=t
 |[],t,u,h=>h
 |s::L,t,u,h=>by
  obtain⟨rfl,_,y,hy,h⟩:=h;show PV.tup (s.1.take s.2++[fo L u]++s.1.drop (s.2+1))=_;rw[Ho h];obtain⟨h1,h2⟩:=c6 hy;rw[append_assoc,<- h2,singleton_append,<- drop_eq_getElem_cons h1,take_append_drop]
theorem Hq:∀{L:List (ai×Nat)}{t u z:PV}{d e:Nat},Ch t L u->Dp d t->Dp e z->Dp (d+e) (fo L z)
 |[],t,u,z,d,e,_,_,h=>h.mono (by omega)
 |s::L,t,u,z,d,e,h,g,k=>by
  obtain⟨rfl,_,y,hy,h⟩:=h
  cases d with
  |zero=>exact absurd g ki
  |succ d=>
   have g':=dO.mp (iw.mp g);have r:=Hq h (g' y (mem_of_getElem? hy)) k;show Dp (d+1+e) (.tup (s.1.take s.2++[fo L z]++s.1.drop (s.2+1)));rw[show d+1+e=(d+e)+1 by omega];refine lQ λx hx=>?_;simp only[append_assoc,mem_append,mem_singleton] at hx;rcases hx with hx|hx|hx
   ·exact(g' x (mem_of_mem_take hx)).mono (by omega)
   ·rw[hx];exact r
   ·exact(g' x (mem_of_mem_drop hx)).mono (by omega)
theorem nJ:∀{c:Cd}{p0 p:List Nat}{i:Nat}{k:Ak},(cps c p0)[i]?=some (p,k)->∃ L,p=p0++L.map (·.2)/\Ch (qC c) L (qA k)/\L.length<=hC c/\∀ b,fo L (qA b)=qC (b_ c i b)
 |.cj a c,p0,p,i,k,h=>by
  simp only[cps] at h
  cases i with
  |zero=>
   simp only[getElem?_cons_zero,Option.some.injEq,Prod.mk.injEq] at h;obtain⟨rfl,rfl⟩:=h;exact⟨[([.str "some",qA a,qC c],1)],rfl,⟨rfl,by show 3<=100000;decide,_,rfl,rfl⟩,by show 1<=max (hA a) (hC c)+1;omega,λb=>rfl⟩
  |succ i=>
   simp only[getElem?_cons_succ] at h;obtain⟨L,e1,e2,e3,e4⟩:=nJ h;refine⟨([.str "some",qA a,qC c],2)::L,by rw[e1];simp,⟨rfl,by show 3<=100000;decide,_,rfl,e2⟩,?_,λb=>?_⟩
   ·simp only[length_cons,hC];omega
   ·show PV.tup [.str "some",qA a,fo L (qA b)]=_;rw[e4];rfl
 |.nt c,p0,p,i,k,h=>by
  simp only[cps] at h;obtain⟨L,e1,e2,e3,e4⟩:=nJ h;refine⟨([.str "not",qC c],1)::L,by rw[e1];simp,⟨rfl,by show 2<=100000;decide,_,rfl,e2⟩,?_,λb=>?_⟩
  ·simp only[length_cons,hC];omega
  ·show PV.tup [.str "not",fo L (qA b)]=_;rw[e4];rfl
 |.bo t c d,p0,p,i,k,h=>by
  simp only[cps] at h;have lc:(cps c (p0++[1])).length=(aJ c).length:=by rw[<- jG c (p0++[1]),length_map]
  by_cases hi:i<(aJ c).length
  ·rw[getElem?_append_left (by omega)] at h;obtain⟨L,e1,e2,e3,e4⟩:=nJ h;refine⟨([.str t,qC c,qC d],1)::L,by rw[e1];simp,⟨rfl,by show 3<=100000;decide,_,rfl,e2⟩,?_,λb=>?_⟩
   ·simp only[length_cons,hC];omega
   ·show PV.tup [.str t,fo L (qA b),qC d]=_;rw[e4];simp only[b_];rw[if_pos hi];rfl
  ·rw[getElem?_append_right (by omega),lc] at h;obtain⟨L,e1,e2,e3,e4⟩:=nJ h;refine⟨([.str t,qC c,qC d],2)::L,by rw[e1];simp,⟨rfl,by show 3<=100000;decide,_,rfl,e2⟩,?_,λb=>?_⟩
   ·simp only[length_cons,hC];omega
   ·show PV.tup [.str t,qC c,fo L (qA b)]=_;rw[e4];simp only[b_];rw[if_neg hi];rfl
 |.lf _ _,p0,p,i,k,h=>by simp [cps] at h
theorem tW {a:Ak}{p:List Nat}{i:Nat}{k:Ak}(hn:nA a<=100000)(h:(cM a)[i]?=some (p,k)):∃ L,p=L.map (·.2)/\Ch (qA a) L (qA k)/\L.length<=hA a/\∀ b,fo L (qA b)=qA (cn a i b):=by
 cases a with
 |tab _ _=>simp [cM] at h
 |one t a r=>
  cases i with
  |succ i=>simp [cM] at h
  |zero=>
   simp only[cM,getElem?_cons_zero,Option.some.injEq,Prod.mk.injEq] at h;obtain⟨rfl,rfl⟩:=h;simp only[nA] at hn;exact⟨[(.str t::qA a::r,1)],rfl,⟨rfl,by simp only[length_cons];have:=yZ a;omega,_,rfl,rfl⟩,by show 1<=hA a+1;omega,λb=>rfl⟩
 |pick a c=>
  cases i with
  |zero=>
   simp only[cM,getElem?_cons_zero,Option.some.injEq,Prod.mk.injEq] at h;obtain⟨rfl,rfl⟩:=h;exact⟨[([.str "pick",qA a,qC c],1)],rfl,⟨rfl,by show 3<=100000;decide,_,rfl,rfl⟩,by show 1<=max (hA a) (hC c)+1;omega,λb=>rfl⟩
  |succ i=>
   simp only[cM,getElem?_cons_succ] at h;obtain⟨L,e1,e2,e3,e4⟩:=nJ h;refine⟨([.str "pick",qA a,qC c],2)::L,by rw[e1];simp,⟨rfl,by show 3<=100000;decide,_,rfl,e2⟩,?_,λb=>?_⟩
   ·simp only[length_cons,hA];omega
   ·show PV.tup [.str "pick",qA a,fo L (qA b)]=_;rw[e4];rfl
 |two t a c d=>
  match i with
  |0=>
   simp only[cM,getElem?_cons_zero,Option.some.injEq,Prod.mk.injEq] at h;obtain⟨rfl,rfl⟩:=h;exact⟨[([.str t,qA a,qA c,qC d],1)],rfl,⟨rfl,by show 4<=100000;decide,_,rfl,rfl⟩,by show 1<=_+1;omega,λb=>rfl⟩
  |1=>
   simp only[cM,getElem?_cons_succ,getElem?_cons_zero,Option.some.injEq,Prod.mk.injEq] at h;obtain⟨rfl,rfl⟩:=h;exact⟨[([.str t,qA a,qA c,qC d],2)],rfl,⟨rfl,by show 4<=100000;decide,_,rfl,rfl⟩,by show 1<=_+1;omega,λb=>rfl⟩
  |i+2=>
   simp only[cM,getElem?_cons_succ] at h;obtain⟨L,e1,e2,e3,e4⟩:=nJ h;refine⟨([.str t,qA a,qA c,qC d],3)::L,by rw[e1];simp,⟨rfl,by show 4<=100000;decide,_,rfl,e2⟩,?_,λb=>?_⟩
   ·simp only[length_cons,hA];omega
   ·show PV.tup [.str t,qA a,qA c,fo L (qA b)]=_;rw[e4];rfl
 |add a c=>
  match i with
  |0=>
   simp only[cM,getElem?_cons_zero,Option.some.injEq,Prod.mk.injEq] at h;obtain⟨rfl,rfl⟩:=h;exact⟨[([.str "add",qA a,qA c],1)],rfl,⟨rfl,by show 3<=100000;decide,_,rfl,rfl⟩,by show 1<=_+1;omega,λb=>rfl⟩
  |1=>
   simp only[cM,getElem?_cons_succ,getElem?_cons_zero,Option.some.injEq,Prod.mk.injEq] at h;obtain⟨rfl,rfl⟩:=h;exact⟨[([.str "add",qA a,qA c],2)],rfl,⟨rfl,by show 3<=100000;decide,_,rfl,rfl⟩,by show 1<=_+1;omega,λb=>rfl⟩
  |i+2=>simp [cM] at h
theorem tX {a:Ak}{i:Nat}{k:Ak}(h:(kids a)[i]?=some k):∃ p,(cM a)[i]?=some (p,k):=by
 rw[<- tH,getElem?_map] at h
 cases e:(cM a)[i]? with
 |none=>rw[e] at h;cases h
 |some s=>rw[e] at h;simp only[Option.map_some,Option.some.injEq] at h;subst h;exact⟨s.1,rfl⟩
theorem tY:∀{w:List Nat}{a p:Ak},wA a->nA a<=100000->apart a w=some p->∃ L,Ch (qA a) L (qA p)/\L.length<=hA a*w.length/\∀ b,fo L (qA b)=qA (c5 a w b)
 |[],a,p,hw,hn,h=>by
  simp only[apart,Option.some.injEq] at h;subst h;exact⟨[],rfl,Nat.zero_le _,λb=>rfl⟩
 |i::w,a,p,hw,hn,h=>by
  simp only[apart] at h
  cases hk:(kids a)[i]? with
  |none=>rw[hk] at h;cases h
  |some k=>
   rw[hk] at h;obtain⟨q,hq⟩:=tX hk;obtain⟨k1,k2,k3⟩:=kF hw k (mem_of_getElem? hk);obtain⟨L,e1,e2,e3,e4⟩:=tW hn hq;obtain⟨M,f2,f3,f4⟩:=tY k1 (by omega) h;refine⟨L++M,za e2 f2,?_,λb=>?_⟩
   ·rw[length_append,length_cons,Nat.mul_succ];have:=Nat.mul_le_mul_right w.length (Nat.le_of_lt k2);omega
   ·rw[Hn,f4,e4];simp only[c5,hk]
def ft:Ak->ai->Option (List Nat×Ak)
 |a,[]=>some ([],a)
 |a,x::ws=>match x with
  |.int i=>if 0<=i then match (cM a)[i.toNat]? with
   |some (p,k)=>(ft k ws).map λs=>(p++s.1,s.2)
   |none=>none
   else none
  |_=>none
theorem zb:∀{w:List Nat}{a p:Ak},wA a->nA a<=100000->apart a w=some p->∃ q L,ft a (w.map λi=>.int (i:Nat))=some (q,p)/\q=L.map (·.2)/\Ch (qA a) L (qA p)/\L.length<=hA a*w.length/\∀ b,fo L (qA b)=qA (c5 a w b)
 |[],a,p,hw,hn,h=>by
  simp only[apart,Option.some.injEq] at h;subst h;exact⟨[],[],rfl,rfl,rfl,Nat.zero_le _,λb=>rfl⟩
 |i::w,a,p,hw,hn,h=>by
  simp only[apart] at h
  cases hk:(kids a)[i]? with
  |none=>rw[hk] at h;cases h
  |some k=>
   rw[hk] at h;obtain⟨q,hq⟩:=tX hk;obtain⟨k1,k2,k3⟩:=kF hw k (mem_of_getElem? hk);obtain⟨L,e1,e2,e3,e4⟩:=tW hn hq;obtain⟨q2,M,f0,f1,f2,f3,f4⟩:=zb k1 (by omega) h;refine⟨q++q2,L++M,?_,by rw[e1,f1,map_append],za e2 f2,?_,λb=>?_⟩
   ·simp only[map_cons,ft];rw[if_pos (by omega),Int.toNat_natCast,hq];simp only[f0,Option.map_some]
   ·rw[length_append,length_cons,Nat.mul_succ];have:=Nat.mul_le_mul_right w.length (Nat.le_of_lt k2);omega
   ·rw[Hn,f4,e4];simp only[c5,hk]
theorem Hr (a:Ak):(cM a).length=(kids a).length:=by rw[<- tH,length_map]
theorem Hs:∀{w:List Nat}{a p:Ak}{x:PV}{r:ai},apart a w=some p->(∀ i:Int,x=.int i->i<0\/(kids p).length<=i)->ft a ((w.map λi=>PV.int (i:Nat))++x::r)=none
 |[],a,p,x,r,h,hx=>by
  simp only[apart,Option.some.injEq] at h;subst h;simp only[map_nil,nil_append]
  cases x with
  |int i=>
   simp only[ft];rcases hx i rfl with h|h
   ·rw[if_neg (by omega)]
   ·rw[if_pos (by omega),getElem?_eq_none (by rw[Hr];omega)]
  |_=>rfl
 |j::w,a,p,x,r,h,hx=>by
  simp only[apart] at h
  cases hk:(kids a)[j]? with
  |none=>rw[hk] at h;cases h
  |some k=>
   rw[hk] at h;obtain⟨q,hq⟩:=tX hk;simp only[map_cons,cons_append,ft];rw[if_pos (by omega),Int.toNat_natCast,hq];simp only[Hs h hx,Option.map_none]
theorem nK:∀{c:Cd}{i:Nat}{q:Ak},aJ (b_ c i q)=(aJ c).set i q
 |.cj a c,0,q=>rfl
 |.cj a c,i+1,q=>by simp only[b_,aJ,set_cons_succ,nK]
 |.nt c,i,q=>by simp only[b_,aJ,nK]
 |.bo t c d,i,q=>by
  simp only[b_,aJ];by_cases h:i<(aJ c).length
  ·rw[if_pos h];simp only[aJ,nK];rw[set_append_left _ _ h]
  ·rw[if_neg h];simp only[aJ,nK];rw[set_append_right _ _ (by omega)]
 |.lf _ _,i,q=>by simp [b_,aJ]
theorem V4 (a:Ak)(i:Nat)(q:Ak):kids (cn a i q)=(kids a).set i q:=by
 cases a with
 |tab _ _=>simp [cn,kids]
 |one _ a _=>cases i<;>simp [cn,kids]
 |pick a c=>cases i<;>simp [cn,kids,nK]
 |two _ a b c=>match i with
  |0=>simp [cn,kids]
  |1=>simp [cn,kids]
  |i+2=>simp [cn,kids,nK]
 |add a b=>match i with
  |0=>simp [cn,kids]
  |1=>simp [cn,kids]
  |i+2=>simp [cn,kids]
theorem Ht:∀{w:List Nat}{a p q:Ak},apart a w=some p->apart (c5 a w q) w=some q
 |[],a,p,q,h=>rfl
 |i::w,a,p,q,h=>by
  simp only[apart] at h
  cases hk:(kids a)[i]? with
  |none=>rw[hk] at h;cases h
  |some k=>
   rw[hk] at h;have hi:i<(kids a).length:=(c6 hk).1;simp only[c5,hk,apart,V4];rw[getElem?_set_self hi];exact Ht h
theorem nL:∀{c:Cd}{i:Nat}{k b:Ak}{t t':Nat},wC c->wA b->(aJ c)[i]?=some k->hA b<=hA k+t->nA b<=nA k+t'->wC (b_ c i b)/\hC (b_ c i b)<=hC c+t/\nC (b_ c i b)<=nC c+t'
 |.cj a c,0,k,b,t,t',h,g,e,l,m=>by
  simp only[aJ,getElem?_cons_zero,Option.some.injEq] at e;subst e;simp only[b_,wC,hC,nC] at h ⊢;exact⟨⟨g,h.2⟩,by omega,by omega⟩
 |.cj a c,i+1,k,b,t,t',h,g,e,l,m=>by
  simp only[aJ,getElem?_cons_succ] at e;simp only[wC] at h;have:=nL h.2 g e l m;simp only[b_,wC,hC,nC];exact⟨⟨h.1,this.1⟩,by omega,by omega⟩
 |.nt c,i,k,b,t,t',h,g,e,l,m=>by
  simp only[aJ] at e;simp only[wC] at h;have:=nL h g e l m;simp only[b_,wC,hC,nC];exact⟨this.1,by omega,by omega⟩
 |.bo z c d,i,k,b,t,t',h,g,e,l,m=>by
  simp only[aJ] at e;simp only[wC] at h;by_cases hi:i<(aJ c).length
  ·rw[getElem?_append_left hi] at e;have:=nL h.2.1 g e l m;simp only[b_];rw[if_pos hi];simp only[wC,hC,nC];exact⟨⟨h.1,this.1,h.2.2⟩,by omega,by omega⟩
  ·rw[getElem?_append_right (by omega)] at e;have:=nL h.2.2 g e l m;simp only[b_];rw[if_neg hi];simp only[wC,hC,nC];exact⟨⟨h.1,h.2.1,this.1⟩,by omega,by omega⟩
 |.lf _ _,i,k,b,t,t',h,g,e,l,m=>by simp [aJ] at e
theorem V5 {a:Ak}{i:Nat}{k b:Ak}{t t':Nat}(h:wA a)(g:wA b)(e:(kids a)[i]?=some k)(l:hA b<=hA k+t)(m:nA b<=nA k+t'):wA (cn a i b)/\hA (cn a i b)<=hA a+t/\nA (cn a i b)<=nA a+t':=by
 cases a with
 |tab _ _=>simp [kids] at e
 |one _ a _=>
  cases i with
  |succ i=>simp [kids] at e
  |zero=>
   simp only[kids,getElem?_cons_zero,Option.some.injEq] at e;subst e;simp only[cn,wA,hA,nA] at h ⊢;exact⟨⟨h.1,g⟩,by omega,by omega⟩
 |pick a c=>
  cases i with
  |zero=>
   simp only[kids,getElem?_cons_zero,Option.some.injEq] at e;subst e;simp only[cn,wA,hA,nA] at h ⊢;exact⟨⟨g,h.2⟩,by omega,by omega⟩
  |succ i=>
   simp only[kids,getElem?_cons_succ] at e;simp only[wA] at h;have:=nL h.2 g e l m;simp only[cn,wA,hA,nA];exact⟨⟨h.1,this.1⟩,by omega,by omega⟩
 |two _ a c d=>match i with
  |0=>
   simp only[kids,getElem?_cons_zero,Option.some.injEq] at e;subst e;simp only[cn,wA,hA,nA] at h ⊢;exact⟨⟨h.1,g,h.2.2⟩,by omega,by omega⟩
  |1=>
   simp only[kids,getElem?_cons_succ,getElem?_cons_zero,Option.some.injEq] at e;subst e;simp only[cn,wA,hA,nA] at h ⊢;exact⟨⟨h.1,h.2.1,g,h.2.2.2⟩,by omega,by omega⟩
  |i+2=>
   simp only[kids,getElem?_cons_succ] at e;simp only[wA] at h;have:=nL h.2.2.2 g e l m;simp only[cn,wA,hA,nA];exact⟨⟨h.1,h.2.1,h.2.2.1,this.1⟩,by omega,by omega⟩
 |add a c=>match i with
  |0=>
   simp only[kids,getElem?_cons_zero,Option.some.injEq] at e;subst e;simp only[cn,wA,hA,nA] at h ⊢;exact⟨⟨g,h.2⟩,by omega,by omega⟩
  |1=>
   simp only[kids,getElem?_cons_succ,getElem?_cons_zero,Option.some.injEq] at e;subst e;simp only[cn,wA,hA,nA] at h ⊢;exact⟨⟨h.1,g⟩,by omega,by omega⟩
  |i+2=>simp [kids] at e
theorem Hu:∀{w:List Nat}{a p q:Ak},wA a->wA q->apart a w=some p->wA (c5 a w q)/\hA (c5 a w q)<=hA a+hA q/\nA (c5 a w q)<=nA a+nA q
 |[],a,p,q,h,g,e=>⟨g,by simp only[c5];omega,by simp only[c5];omega⟩
 |i::w,a,p,q,h,g,e=>by
  simp only[apart] at e
  cases hk:(kids a)[i]? with
  |none=>rw[hk] at e;cases e
  |some k=>
   rw[hk] at e;have r:=Hu (kF h k (mem_of_getElem? hk)).1 g e;simp only[c5,hk];exact V5 h r.1 hk r.2.1 r.2.2
theorem zc:∀{w:List Nat}{a p:Ak},wA a->apart a w=some p->wA p/\hA p<=hA a/\nA p<=nA a
 |[],a,p,h,e=>by simp only[apart,Option.some.injEq] at e;subst e;exact⟨h,ar _,ar _⟩
 |i::w,a,p,h,e=>by
  simp only[apart] at e
  cases hk:(kids a)[i]? with
  |none=>rw[hk] at e;cases e
  |some k=>
   rw[hk] at e;obtain⟨k1,k2,k3⟩:=kF h k (mem_of_getElem? hk);have:=zc k1 e;exact⟨this.1,by omega,by omega⟩
theorem Hv:∀{w:List Nat}{a p k:Ak}{i:Nat},apart a w=some p->(kids p)[i]?=some k->apart a (w++[i])=some k
 |[],a,p,k,i,h,g=>by
  simp only[apart,Option.some.injEq] at h;subst h;simp only[nil_append,apart,g]
 |j::w,a,p,k,i,h,g=>by
  simp only[apart] at h
  cases hk:(kids a)[j]? with
  |none=>rw[hk] at h;cases h
  |some k'=>
   rw[hk] at h;simp only[cons_append,apart,hk];exact Hv h g
theorem zd:∀{L:List (ai×Nat)}{t u:PV}{d:Nat},Ch t L u->Dp d t->Dp d u
 |[],t,u,d,h,g=>by rw[show u=t from h];exact g
 |s::L,t,u,d,h,g=>by
  obtain⟨rfl,_,y,hy,h⟩:=h
  cases d with
  |zero=>exact absurd g ki
  |succ d=>exact(zd h (dO.mp (iw.mp g) y (mem_of_getElem? hy))).mono (Nat.le_succ d)
def tZ (m:Nat)(x y z r:PV):Prop:=∃(a:Ak)(w:List Nat)(q p:Ak),x=qA a/\y=qW w/\z=qA q/\wA a/\hA a<=50/\nA a<=100000/\apart a w=some p/\w.length<m/\w.length<=100/\r=qA (c5 a w q)
theorem ze {a:Ak}{i:Nat}{k:Ak}(h:(kids a)[i]?=some k):cy ((kids a).map qA) (i:Int)=some (qA k):=i4 (by omega) (by show((kids a).map qA)[((i:Nat):Int).toNat]?=_;rw[Int.toNat_natCast,getElem?_map,h];rfl)
theorem nM {xs:ai}{i:Nat}(y:PV)(h:i+1<xs.length):cH xs none (some (1+(i:Int)))++[y]++cH xs (some (2+(i:Int))) none=xs.take (i+1)++[y]++xs.drop (i+2)/\(cH xs none (some (1+(i:Int)))).length=i+1/\(cH xs none (some (1+(i:Int)))++[y]).length+(cH xs (some (2+(i:Int))) none).length=xs.length:=by
 have e1:(1+(i:Int)).toNat=i+1:=by omega
 have e2:(2+(i:Int)).toNat=i+2:=by omega
 rw[tq (by omega) (by omega),iz (by omega) (by omega),e1,e2];refine⟨rfl,by rw[length_take];omega,?_⟩;rw[length_append,length_take,length_drop,length_singleton];omega
section
variable {P:Program}{w:World}{K:Frag}{mg:aZ}{base:Heap}
variable {m₀:Nat}
theorem nO:bw ["_law_ask_here","_law_way_here","_law_part_here","_law_made","_law_sides","_law_cond_here","_law_left"] ["_law_ask_here","_law_way_here","_law_part_here"] (aW wO):=by walk_at "s"
theorem V6 {k:Nat}(D:Df K mg "_law_with" wO)(B:Bt mg)(pR:Kn P w K mg base k "_law_with" (aX K false (dz (tZ m₀))))(nI:Kn P w K mg base k "_law_cond_with" (aX K false (dz (tU 50))))(eN:Kn P w K mg base k "_law_children" (aX K false (bX nF))):Kn P w K mg base (k+1) "_law_with" (aX K false (dz (tZ (m₀+1)))):=by
 refine D.dN nO (λ_ _ _ _ _ _=>fL λ_ _ _=>rfl) (λ_ _=>dz.len) (by decide) (λf aE A outer s H E hr=>⟨_,(sc (bc (bW rfl hr (qn 1) (qv (et an))) (s1 (aK (vn 2))) sn)
  (sc (a9 (i:=3) nO.nd (bH rfl pR hr (ac (ax rfl hr (qv (bH rfl eN hr (ac (vn 0) an))) (qv (ax rfl hr (qn 1) (qv vi)))) (ac (jB rfl (qn 1) (gK vi) iY) (ac (vn 2) an)))))
  (sc (a9 (i:=4) nO.nd (bR rfl (qv vi) (qv (lL B.int (qv (QM rfl hr (qv (ax rfl hr (qn 0) (qv vi))) (qv (et (ac vs (ac vs (ac vs (ac vs (ac vs an)))))))))))))
  (sc (bc (mW (qv (ax rfl hr (qn 1) (qv vi))) (qn 4)) (s1 (aK (bR rfl (qv (bR rfl (qv (jB rfl (qn 0) iY (gK (bR rfl (qv vi) (qv (ax rfl hr (qn 1) (qv vi))))))) (qv (et (ac (vn 3) an))))) (qv (jB rfl (qn 0) (gK (bR rfl (qv vi) (qv (ax rfl hr (qn 1) (qv vi))))) iY))))) sn)
  (sc (eV (bH rfl nI hr (ac (ax rfl hr (qn 0) (qv (lM vi))) (ac (eU (qv (ax rfl hr (qn 1) (qv vi))) (qn 4)) (ac (vn 3) an)))) (dW (n:=2) rfl rfl (bj (aQ (i:=5) nO.nd) (bj (aQ (i:=6) nO.nd) dU))))
  (s1 (aK (bR rfl (qv (jB rfl (qn 0) iY (gK (lM vi)))) (qv (et (ac (vn 5) an))))))))))),λB' xs r h=>?_⟩)
 obtain⟨x0,x1,x2,rfl,h⟩:=h;change (_:US) (cV false r) ⟨B',[some (.val x0),some (.val x1),some (.val x2),none,none,none,none],none⟩;obtain⟨a,wy,q,pp,rfl,rfl,rfl,hw,hh,hn,hp,hm,hl,rfl⟩:=h
 cases wy with
 |nil=>
  simp only[qW,map_nil];w_on;refine aj true ⟨⟨1,by decide,lQ λ_ h=>(by cases h),lQ λ_ h=>(by cases h)⟩,rfl⟩ ?_;refine cI rfl ?_;w_on;rfl
 |cons i wy=>
  simp only[apart] at hp
  cases hk:(kids a)[i]? with
  |none=>rw[hk] at hp;cases hp
  |some k=>
   rw[hk] at hp;have V7:apart k wy=some pp:=hp;have km:k∈kids a:=mem_of_getElem? hk;obtain⟨k1,k2,k3⟩:=kF hw k km;simp only[length_cons] at hm hl;have aw:c5 a (i::wy) q=cn a i (c5 k wy q):=by simp only[c5,hk]
   rw[aw];simp only[qW,map_cons];w_on;refine aj false ⟨⟨1,by decide,lQ λx h=>?_,lQ λ_ h=>(by cases h)⟩,rfl⟩ ?_
   ·rcases mem_cons.mp h with e|e
    ·rw[e];exact lP _ _
    ·obtain⟨j,_,rfl⟩:=mem_map.mp e;exact lP _ _
   refine bp rfl ?_;w_on;refine aj _ ⟨a,rfl,hw,hh,hn,rfl⟩ ?_;w_on;refine aj _ (ze hk) ?_
   have ct:cH (PV.int (i:Nat)::wy.map λi=>PV.int (i:Nat)) (some 1) none=wy.map λi=>PV.int (i:Nat):=by
    rw[iz (by decide) (by show(1:Int)<=(_+1:Nat);omega)];rfl
   w_on;rw[ct];refine aj _ ⟨k,wy,q,pp,rfl,rfl,rfl,k1,by omega,by omega,V7,by omega,by omega,rfl⟩ ?_;generalize c5 k wy q=b;w_on
   cases a with
   |tab n w=>cases hk
   |one h a r=>
    obtain rfl:i=0:=by cases i with|zero=>rfl|succ i=>simp [kids] at hk
    simp only[wA,nA] at hw hn
    have h1:[("join":Str),"left","half","lack","add"].contains h=false:=by
     simp only[H1,mem_cons,not_mem_nil,or_false] at hw;rcases hw.1 with rfl|rfl|rfl|rfl<;>decide +kernel
    simp only[qA,cn];w_on;refine aj _ (dQ h ["join","left","half","lack","add"] h1) ?_;w_on;refine cI (by decide +kernel) ?_;w_on;have cp:=nM (xs:=PV.str h::qA a::r) (i:=0) (qA b) (by simp);exact⟨by rw[cp.2.1];decide,by rw[cp.2.2];simp only[length_cons];have:=yZ a;omega,cp.1⟩
   |pick a c=>
    simp only[wA,nA,hA] at hw hn hh
    cases i with
    |zero=>
     simp only[qA,cn];w_on;refine aj _ (dQ "pick" ["join","left","half","lack","add"] rfl) ?_;w_on;refine cI (by decide +kernel) ?_;w_on;have cp:=nM (xs:=[PV.str "pick",qA a,qC c]) (i:=0) (qA b) (by simp);exact⟨by rw[cp.2.1];decide,by rw[cp.2.2];simp,cp.1⟩
    |succ i=>
     simp only[qA,cn];w_on;refine aj _ (dQ "pick" ["join","left","half","lack","add"] (b:=false) (by decide +kernel)) ?_;have e1:(((i+1:Nat):Int)-(1+0))=(i:Nat):=by omega
     have hs:i<(aJ c).length:=by have:=(c6 hk).1;simp only[kids,length_cons] at this;omega
     have:=eY c;w_on;refine bp (by rw[decide_eq_false_iff_not];simp only[↓reduceIte];omega) ?_;w_on;refine aj (qC c) rfl ?_;w_on;simp only[↓reduceIte];rw[e1];refine aj _ ⟨c,i,b,rfl,rfl,rfl,hw.2,by omega,by omega,by omega,rfl⟩ ?_;w_on;exact⟨by show 2<=99999;decide,rfl⟩
   |two h a b2 c=>
    simp only[wA,nA,hA] at hw hn hh
    have h1:[("join":Str),"left","half","lack","add"].contains h=true:=by
     simp only[H2,mem_cons,not_mem_nil,or_false] at hw;rcases hw.1 with rfl|rfl|rfl|rfl<;>decide +kernel
    match i,hk with
    |0,hk=>
     simp only[qA,cn];w_on;refine aj _ (dQ h ["join","left","half","lack","add"] h1) ?_;w_on;refine cI (by decide +kernel) ?_;w_on;have cp:=nM (xs:=[PV.str h,qA a,qA b2,qC c]) (i:=0) (qA b) (by simp);exact⟨by rw[cp.2.1];decide,by rw[cp.2.2];simp,cp.1⟩
    |1,hk=>
     simp only[qA,cn];w_on;refine aj _ (dQ h ["join","left","half","lack","add"] h1) ?_;w_on;refine cI (by decide +kernel) ?_;w_on;have cp:=nM (xs:=[PV.str h,qA a,qA b2,qC c]) (i:=1) (qA b) (by simp);exact⟨by rw[cp.2.1];decide,by rw[cp.2.2];simp,cp.1⟩
    |i+2,hk=>
     simp only[qA,cn];w_on;refine aj _ (dQ h ["join","left","half","lack","add"] h1) ?_;have e1:(((i+2:Nat):Int)-(1+1))=(i:Nat):=by omega
     have hs:i<(aJ c).length:=by have:=(c6 hk).1;simp only[kids,length_cons] at this;omega
     have:=eY c;w_on;refine bp (by rw[decide_eq_false_iff_not];simp only[↓reduceIte];omega) ?_;w_on;refine aj (qC c) rfl ?_;w_on;simp only[↓reduceIte];rw[e1];refine aj _ ⟨c,i,b,rfl,rfl,rfl,hw.2.2.2,by omega,by omega,by omega,rfl⟩ ?_;w_on;exact⟨by show 3<=99999;decide,rfl⟩
   |add a b2=>
    simp only[wA,nA,hA] at hw hn hh
    match i,hk with
    |0,hk=>
     simp only[qA,cn];w_on;refine aj _ (dQ "add" ["join","left","half","lack","add"] (b:=true) (by decide +kernel)) ?_;w_on;refine cI (by decide +kernel) ?_;w_on;have cp:=nM (xs:=[PV.str "add",qA a,qA b2]) (i:=0) (qA b) (by simp);exact⟨by rw[cp.2.1];decide,by rw[cp.2.2];simp,cp.1⟩
    |1,hk=>
     simp only[qA,cn];w_on;refine aj _ (dQ "add" ["join","left","half","lack","add"] (b:=true) (by decide +kernel)) ?_;w_on;refine cI (by decide +kernel) ?_;w_on;have cp:=nM (xs:=[PV.str "add",qA a,qA b2]) (i:=1) (qA b) (by simp);exact⟨by rw[cp.2.1];decide,by rw[cp.2.2];simp,cp.1⟩
    |i+2,hk=>simp [kids] at hk
end
def nP:PV->Prop
 |.int _=>True
 |.bl _=>True
 |_=>False
def V8:PV->Bool
 |.int _=>true
 |_=>false
def Hw (x r:PV):Prop:=nP x/\r=.bl (V8 x)
def qV (x y z r:PV):Prop:=∃(L:List (ai×Nat))(u:PV),Ch x L u/\y=qW (L.map (·.2))/\L.length<=10000/\r=fo L z
theorem Hx:∀{L:List (ai×Nat)}{t u:PV},Ch t L u->∀ s∈L,s.2<s.1.length/\s.1.length<=100000
 |s::L,t,u,⟨_,h2,y,hy,h⟩,x,hx=>by
  rcases mem_cons.mp hx with rfl|e
  ·exact⟨(c6 hy).1,h2⟩
  ·exact Hx h x e
def pS (s:ai×Nat):PV:=.tup [.tup s.1,.int (s.2:Nat)]
def fU:Ak->List Ak
 |.tab _ _=>[]
 |.one _ a _=>[a]
 |.pick a _=>[a]
 |.two _ a b _=>[a,b]
 |.add a b=>[a,b]
def cond:Ak->Option (Nat×Cd)
 |.pick _ c=>some (2,c)
 |.two _ _ _ c=>some (3,c)
 |_=>none
def Hy (x r:PV):Prop:=∃ a:Ak,x=qA a/\wA a/\nA a<=100000/\r=.tup ((fU a).map qA)
def Hz (x y r:PV):Prop:=∃(c:Cd)(p:List Nat),x=qC c/\y=qW p/\wC c/\nC c<=100000/\hC c<=50/\p.length<=50/\r=.lst ((cps c p).map qP)
def zf (x r:PV):Prop:=∃ a:Ak,x=qA a/\wA a/\hA a<=50/\nA a<=100000/\r=.lst ((cM a).map qP)
def t5:List (Str×PV):=[("table",.tup [.int 3,.int 0]),("pick",.tup [.int 3,.int 1]),("show",.tup [.int 3,.int 1]),("join",.tup [.int 4,.int 2]),("left",.tup [.int 4,.int 2]),("half",.tup [.int 4,.int 2]),("lack",.tup [.int 4,.int 2]),("once",.tup [.int 2,.int 1]),("group",.tup [.int 4,.int 1]),("add",.tup [.int 3,.int 2]),("first",.tup [.int 4,.int 1])]
def t6:List (Str×PV):=[("pick",.int 2),("join",.int 3),("left",.int 3),("half",.int 3),("lack",.int 3)]
theorem sI {n d:Nat}{i:Int}(h0:0<=i)(h1:i<=n):HT.aU n d (some i)=i.toNat:=by
 show(if i<0 then _ else min i.toNat n)=_;rw[if_neg (by omega)];omega
theorem V9 {xs:ai}{a b:Nat}(h1:a<=b)(h2:b<=xs.length):cH xs (some (a:Int)) (some (b:Int))=(xs.drop a).take (b-a):=by
 unfold cH;rw[sI (by omega) (by omega),sI (by omega) (by omega),Int.toNat_natCast,Int.toNat_natCast]
theorem V_ {h:Str}(hh:h∈H1):∃ k:Int,eW t5 h=some (.tup [.int k,.int 1]):=by
 simp only[H1,mem_cons,not_mem_nil,or_false] at hh;rcases hh with rfl|rfl|rfl|rfl<;>exact⟨_,rfl⟩
theorem V' {h:Str}(hh:h∈H2):eW t5 h=some (.tup [.int 4,.int 2]):=by
 simp only[H2,mem_cons,not_mem_nil,or_false] at hh;rcases hh with rfl|rfl|rfl|rfl<;>rfl
section
variable {P:Program}{w:World}{K:Frag}{mg:aZ}{base:Heap}
theorem Wa:bw ["thing"] ["thing"] (aW vV):=by walk_at "s"
theorem Wb {k:Nat}(D:Df K mg "is_whole" vV)(B:Bt mg):Kn P w K mg base (k+1) "is_whole" (aX K false (bX Hw)):=by
 refine D.dN Wa (λ_ _ _ _ _ _=>gD λ_=>rfl) (λ_ _=>bX.len) (by decide) (λf aE A outer s H E hr=>⟨_,(s1 (aK (xx (pf .int rfl B.isinstance B.int PyProof.Rows.boot_int (qn 0)) (xw (Pq (pf .bool rfl B.isinstance B.bool PyProof.Rows.boot_bool (qn 0))))))),λB' xs r h=>?_⟩);obtain⟨x0,rfl,h⟩:=h;change (_:US) (cV false r) ⟨B',[some (.val x0)],none⟩;obtain⟨hx,rfl⟩:=h;cases x0<;>first|exact hx.elim|skip
 all_goals w_on
 case bl b=>
  refine aj true rfl ?_;refine cI rfl ?_;w_on;refine aj true (by cases b<;>rfl) ?_;w_on;rfl
 case int i=>rfl
theorem lZ:bw ["thing","path","other","passed","place","around"] ["thing","path","other"] (aW vW):=by walk_at "s"
theorem Wc {k:Nat}(D:Df K mg "replaced" vW)(B:Bt mg):Kn P w K mg base (k+1) "replaced" (aX K false (dz qV)):=by
 refine D.dN lZ (λ_ _ _ _ _ _=>fL λ_ _ _=>rfl) (λ_ _=>dz.len) (by decide) (λf aE A outer s H E hr=>⟨_,(sc (eQ (i:=3) lZ.nd (el an))
  (sc (eS PassesOwn.never rfl (jx rfl 1) (aQ (i:=4) lZ.nd)
  (sc (eR (fQ rfl 3 (et (ac (vn 0) (ac (vn 4) an)))))
  (s1 (a9 (i:=0) lZ.nd (ax rfl hr (qn 0) (qn 4))))))
  (sc (eS PassesOwn.never rfl (UB rfl B.reversed (vn 3)) (dW (n:=2) rfl rfl (bj (aQ (i:=5) lZ.nd) (bj (aQ (i:=4) lZ.nd) dU)))
  (s1 (a9 (i:=2) lZ.nd (bR rfl (qv (bR rfl (qv (jB rfl (qn 5) iY (gK (vn 4)))) (qv (et (ac (vn 2) an))))) (qv (jB rfl (qn 5) (gK (bR rfl (qn 4) (qv vi))) iY))))))
  (s1 (aK (vn 2)))))),λB' xs r h=>?_⟩)
 obtain⟨x0,x1,x2,rfl,h⟩:=h;change (_:US) (cV false r) ⟨B',[some (.val x0),some (.val x1),some (.val x2),none,none,none],none⟩;obtain⟨L,u,hc,rfl,hl,rfl⟩:=h;have xb:=Hx hc;simp only[qW,map_map];w_on;intro p;show fF (L.map λs=>PV.int (s.2:Nat)) _ _ _ _ _;refine gh L (λs=>PV.int (s.2:Nat)) (λdd A=>∃(t:PV)(o:Option Sl),A=⟨B',[some (.val t),some (.val (PV.tup (L.map λs=>PV.int (s.2:Nat)))),some (.val x2),some (.own p (.lst (dd.map pS))),o,none],none⟩/\∀ r,L=dd++r->Ch t r u) ⟨x0,none,rfl,λr e=>by rw[nil_append] at e;rw[<- e];exact hc⟩ (λ_ _ _=>trivial) ?_ ?_
 ·rintro dd s r A2 e ⟨t,o,rfl,ht⟩;obtain⟨rfl,h2,y,hy,h3⟩:=ht _ e;have dl:dd.length<=10000:=by have:=congrArg List.length e;simp at this;omega
  w_on;refine⟨by rw[length_map];omega,?_⟩;refine aj y (i4 (by omega) (by rw[Int.toNat_natCast];exact hy)) ?_;w_on;exact⟨y,_,by rw[map_append];rfl,λr' e'=>by rw[e,append_assoc] at e';have:=append_cancel_left e';simp only[singleton_append,cons.injEq,true_and] at this;rw[<- this];exact h3⟩
 ·rintro A2 ⟨t,o,rfl,ht⟩;w_on;refine⟨L.map pS,rfl,?_⟩;rw[<- map_reverse];refine gh L.reverse pS (λdd A=>∃(o4 o5:Option Sl),A=⟨B',[some (.val t),some (.val (PV.tup (L.map λs=>PV.int (s.2:Nat)))),some (.val (fo dd.reverse x2)),some (.val (.lst (L.map pS))),o4,o5],none⟩) ⟨_,_,rfl⟩ (λ_ _ _=>trivial) ?_ ?_
  ·rintro dd s r A2 e ⟨o4,o5,rfl⟩;have hs:=xb s (mem_reverse.mp (by rw[e];simp));simp only[pS];w_on;have e1:cH s.1 none (some (s.2:Int))=s.1.take s.2:=by rw[tq (by omega) (by omega),Int.toNat_natCast]
   have e2:cH s.1 (some ((s.2:Int)+1)) none=s.1.drop (s.2+1):=by rw[iz (by omega) (by omega),show((s.2:Int)+1).toNat=s.2+1 by omega]
   rw[e1,e2,reverse_append];exact⟨by rw[length_take];omega,by rw[length_append,length_take,length_drop,length_singleton];omega,_,_,rfl⟩
  ·rintro A2 ⟨o4,o5,rfl⟩;w_on;rw[reverse_reverse]
theorem Wd:bw ["ask"] ["ask"] (aW vX):=by walk_at "s"
theorem We {k:Nat}(D:Df K mg "asks_within" vX)(B:Bt mg)(t7:Gd P w K mg "ASK_SIZES" t5):Kn P w K mg base (k+1) "asks_within" (aX K false (bX Hy)):=by
 refine D.dN Wd (λ_ _ _ _ _ _=>gD λ_=>rfl) (λ_ _=>bX.len) (by decide) (λf aE A outer s H E hr=>⟨_,(s1 (aK (jB rfl (qn 0) (gK vi) (gK (bR rfl (qv vi) (qv (ax rfl hr (qv (G0 t7 rfl (qv (ax rfl hr (qn 0) (qv vi))))) (qv vi)))))))),λB' xs r h=>?_⟩);obtain⟨x0,rfl,h⟩:=h;change (_:US) (cV false r) ⟨B',[some (.val x0)],none⟩;obtain⟨a,rfl,hw,hn,rfl⟩:=h
 cases a with
 |tab n w=>
  simp only[qA,fU];w_on;refine aj (.tup [.int 3,.int 0]) (by rfl) ?_;w_on;rfl
 |one h a r=>
  simp only[wA] at hw;obtain⟨k,hk⟩:=V_ hw.1;simp only[qA,fU];w_on;refine aj _ hk ?_;w_on;exact(V9 (xs:=PV.str h::qA a::r) (a:=1) (b:=2) (by decide) (by simp)).trans rfl
 |pick a c=>
  simp only[qA,fU];w_on;refine aj (.tup [.int 3,.int 1]) (by rfl) ?_;w_on;rfl
 |two h a b c=>
  simp only[wA] at hw;simp only[qA,fU];w_on;refine aj _ (V' hw.1) ?_;w_on;rfl
 |add a b=>
  simp only[qA,fU];w_on;refine aj (.tup [.int 3,.int 2]) (by rfl) ?_;w_on;rfl
end
def m1:PV->Nat
 |.tup [c,_]=>(toD c).bulk+1
 |_=>0
def mu (A:AS):Nat:=match A.ae[3]? with
 |some (some (Sl.own _ (OC.lst xs)))=>(xs.map m1).sum
 |_=>0
def eD (s:Cd×List Nat):PV:=.tup [qC s.1,qW s.2]
theorem Wf {α:Type}(l:List α):l=[]\/∃ ys y,l=ys++[y]:=by
 rcases eq_nil_or_concat l with h|⟨ys,y,h⟩
 ·exact .inl h
 ·exact .inr ⟨ys,y,by rw[h,concat_eq_append]⟩
def nQ (st:List (Cd×List Nat)):List (List Nat×Ak):=st.reverse.flatMap λs=>cps s.1 s.2
theorem pU (ys:List (Cd×List Nat))(y:Cd×List Nat):nQ (ys++[y])=cps y.1 y.2++nQ ys:=by
 unfold nQ;rw[reverse_append];simp
def l5 (st:List (Cd×List Nat)):Nat:=(st.map λs=>nC s.1).sum
theorem Wg (c:Cd):1<=nC c:=by cases c<;>simp only[nC]<;>omega
theorem pV (ys:List (Cd×List Nat))(y:Cd×List Nat):l5 (ys++[y])=l5 ys+nC y.1:=by
 unfold l5;simp
theorem HA:∀ st:List (Cd×List Nat),st.length<=l5 st
 |[]=>ar _
 |s::st=>by
  have:=HA st;have:=Wg s.1;unfold l5 at *;simp only[length_cons,map_cons,sum_cons];omega
section
variable {P:Program}{w:World}{K:Frag}{mg:aZ}{base:Heap}
theorem pW:bw ["cond","path","found","left","at","part"] ["cond","path"] (aW vY):=by walk_at "s"
theorem Wh {k:Nat}(D:Df K mg "some_paths" vY)(B:Bt mg):Kn P w K mg base (k+1) "some_paths" (aX K true (cB Hz)):=by
 refine D.dN pW (λ_ _ _ _ _ _=>fc λ_ _=>rfl) (λ_ _=>cB.len) (by decide) (λf aE A outer s H E hr=>⟨_,(sc (eQ (i:=2) pW.nd (el an))
  (sc (eQ (i:=3) pW.nd (el (ac (et (ac (vn 0) (ac (vn 1) an))) an)))
  (sc (Pz PassesOwn.never (ka rfl (qn 3))
  (sc (a9 (i:=4) pW.nd (Qy rfl 3))
  (sc (a9 (i:=5) pW.nd (ax rfl hr (qn 4) (qv vi)))
  (s1 (bc (bW rfl hr (qv (ax rfl hr (qn 5) (qv vi))) (qv vs)) (sc (eR (fQ rfl 2 (et (ac (bR rfl (qv (ax rfl hr (qn 4) (qv vi))) (qv (et (ac vi an)))) (ac (ax rfl hr (qn 5) (qv vi)) an)))))
  (s1 (eR (fQ rfl 3 (et (ac (ax rfl hr (qn 5) (qv vi)) (ac (bR rfl (qv (ax rfl hr (qn 4) (qv vi))) (qv (et (ac vi an)))) an))))))) (s1 (bc (m9 rfl hr (qv (ax rfl hr (qn 5) (qv vi))) (qv (et (ac vs (ac vs an))))) (sc (eR (fQ rfl 3 (et (ac (ax rfl hr (qn 5) (qv vi)) (ac (bR rfl (qv (ax rfl hr (qn 4) (qv vi))) (qv (et (ac vi an)))) an)))))
  (s1 (eR (fQ rfl 3 (et (ac (ax rfl hr (qn 5) (qv vi)) (ac (bR rfl (qv (ax rfl hr (qn 4) (qv vi))) (qv (et (ac vi an)))) an))))))) (s1 (bc (bW rfl hr (qv (ax rfl hr (qn 5) (qv vi))) (qv vs)) (s1 (eR (fQ rfl 3 (et (ac (ax rfl hr (qn 5) (qv vi)) (ac (bR rfl (qv (ax rfl hr (qn 4) (qv vi))) (qv (et (ac vi an)))) an)))))) sn)))))))))
  (s1 (ER (i:=2)))))),λB' xs r h=>?_⟩)
 obtain⟨x0,x1,rfl,h⟩:=h;change (_:US) (cV true r) ⟨B',[some (.val x0),some (.val x1),none,none,none,none],none⟩;obtain⟨c,pt,rfl,rfl,hw,hn,hh,hp,rfl⟩:=h;w_on;intro p q;refine⟨λA=>∃(acc:List (List Nat×Ak))(st:List (Cd×List Nat))(o1 o2:Option Sl),A=⟨B',[some (.val (qC c)),some (.val (qW pt)),some (.own p (.lst (acc.map qP))),some (.own q (.lst (st.map eD))),o1,o2],none⟩/\(∀ y∈st,wC y.1/\y.2.length+hC y.1<=100)/\acc++nQ st=cps c pt/\l5 st<=nC c,mu,⟨[],[(c,pt)],none,none,rfl,λy hy=>by rw[mem_singleton.mp hy];exact⟨hw,by show pt.length+hC c<=100;omega⟩,by simp [nQ],by simp [l5]⟩,?_⟩;rintro _ ⟨acc,st,o1,o2,rfl,hs,he,hN⟩
 have hL:acc.length<=100000:=by
  have h1:=congrArg List.length he;have h2:=congrArg List.length (jG c pt);have h3:=eY c;rw[length_append] at h1;rw[length_map] at h2;omega
 rcases Wf st with rfl|⟨ys,y,rfl⟩
 ·w_on;rw[if_neg (by decide)];w_on;rw[show nQ []=[] from rfl,append_nil] at he;rw[he]
 ·have hy:=hs y (by simp);have t8:∀ z∈ys,wC z.1/\z.2.length+hC z.1<=100:=λz hz=>hs z (by simp [hz]);rw[pU] at he;rw[pV] at hN;have ZG:=HA ys;obtain⟨y,yp⟩:=y
  have dec:∀(A:AS)(zs:ai),A.ae[3]?=some (some (Sl.own q (OC.lst (ys.map eD++zs))))->(zs.map m1).sum<(toD (qC y)).bulk+1->mu A<mu ⟨B',[some (.val (qC c)),some (.val (qW pt)),some (.own p (.lst (acc.map qP))),some (.own q (.lst ((ys++[(y,yp)]).map eD))),o1,o2],none⟩:=λA zs e hl=>by
   show(match A.ae[3]? with|some (some (Sl.own _ (OC.lst xs)))=>(xs.map m1).sum|_=>0)<(((ys++[(y,yp)]).map eD).map m1).sum;rw[e];show((ys.map eD++zs).map m1).sum<_;simp only[map_append,sum_append,map_cons,map_nil,sum_cons,sum_nil,eD,m1];omega
  w_on;rw[if_pos (by simp)];refine⟨ys.map eD,eD (y,yp),by rw[map_append];rfl,?_⟩;simp only[eD];w_on;have yl:yp.length<=100:=by have:=hy.2;simp only at this;omega
  have ml:(yp.map λi=>PV.int (i:Nat)).length=yp.length:=length_map ..
  cases y with
  |cj a c2=>
   simp only[wC,hC,nC,cps] at hy hN he;simp only[qC,qW];w_on;refine cI (by decide +kernel) ?_;w_on;refine⟨by omega,by rw[length_map];omega,by omega,by rw[length_map];omega,⟨acc++[(yp++[1],a)],ys++[(c2,yp++[2])],_,_,by simp only[map_append,map_cons,map_nil,qP,eD,qW];rfl,?_,?_,?_⟩,?_⟩
   ·intro z hz;rcases mem_append.mp hz with e|e
    ·exact t8 z e
    ·rw[mem_singleton.mp e];exact⟨hy.1.2,by show(yp++[2]).length+hC c2<=100;rw[length_append,length_singleton];omega⟩
   ·rw[pU,<- he];simp
   ·rw[pV];simp only;omega
   ·refine dec _ [eD (c2,yp++[2])] ?_ ?_
    ·simp only[eD,qW,map_append,map_cons,map_nil];rfl
    ·show((toD (qC c2)).bulk+1)+0<PyData.bulk (toD (.str "some"))+1+(PyData.bulk (toD (qA a))+1+(PyData.bulk (toD (qC c2))+1+0))+1;omega
  |nt c2=>
   simp only[wC,hC,nC,cps] at hy hN he;simp only[qC,qW];w_on;refine bp (by decide +kernel) ?_;w_on;refine aj _ (dQ "not" ["both","either"] (b:=false) (by decide +kernel)) ?_;refine bp rfl ?_;w_on;refine cI (by decide +kernel) ?_;w_on;refine⟨by omega,by rw[length_map];omega,⟨acc,ys++[(c2,yp++[1])],_,_,by simp only[map_append,map_cons,map_nil,eD,qW];rfl,?_,?_,?_⟩,?_⟩
   ·intro z hz;rcases mem_append.mp hz with e|e
    ·exact t8 z e
    ·rw[mem_singleton.mp e];exact⟨hy.1,by show(yp++[1]).length+hC c2<=100;rw[length_append,length_singleton];omega⟩
   ·rw[pU,<- he]
   ·rw[pV];simp only;omega
   ·refine dec _ [eD (c2,yp++[1])] ?_ ?_
    ·simp only[eD,qW,map_append,map_cons,map_nil];rfl
    ·show((toD (qC c2)).bulk+1)+0<PyData.bulk (toD (.str "not"))+1+(PyData.bulk (toD (qC c2))+1+0)+1;omega
  |bo h c2 d=>
   simp only[wC,hC,nC,cps] at hy hN he
   have h1:(h=="some")=false/\[("both":Str),"either"].contains h=true:=by
    simp only[H3,mem_cons,not_mem_nil,or_false] at hy;rcases hy.1.1 with rfl|rfl<;>decide +kernel
   simp only[qC,qW];w_on;refine bp h1.1 ?_;w_on;refine aj _ (dQ h ["both","either"] h1.2) ?_;refine cI rfl ?_;w_on;refine⟨by omega,by rw[length_map];omega,by omega,by rw[length_append,length_map,length_singleton];omega,⟨acc,ys++[(d,yp++[2])]++[(c2,yp++[1])],_,_,by simp only[map_append,map_cons,map_nil,eD,qW];rfl,?_,?_,?_⟩,?_⟩
   ·intro z hz;rcases mem_append.mp hz with e|e
    ·rcases mem_append.mp e with e|e
     ·exact t8 z e
     ·rw[mem_singleton.mp e];exact⟨hy.1.2.2,by show(yp++[2]).length+hC d<=100;rw[length_append,length_singleton];omega⟩
    ·rw[mem_singleton.mp e];exact⟨hy.1.2.1,by show(yp++[1]).length+hC c2<=100;rw[length_append,length_singleton];omega⟩
   ·rw[pU,pU,<- he];simp
   ·rw[pV,pV];simp only;omega
   ·refine dec _ [eD (d,yp++[2]),eD (c2,yp++[1])] ?_ ?_
    ·simp only[eD,qW,map_append,map_cons,map_nil,append_assoc];rfl
    ·show((toD (qC d)).bulk+1)+(((toD (qC c2)).bulk+1)+0)<PyData.bulk (toD (.str h))+1+(PyData.bulk (toD (qC c2))+1+(PyData.bulk (toD (qC d))+1+0))+1;omega
  |lf h r=>
   simp only[wC,hC,nC,cps] at hy hN he
   have h1:(h=="some")=false/\[("both":Str),"either"].contains h=false/\(h=="not")=false:=by
    simp only[H4,mem_cons,not_mem_nil,or_false] at hy;rcases hy.1 with rfl|rfl|rfl|rfl<;>decide +kernel
   simp only[qC,qW];w_on;refine bp h1.1 ?_;w_on;refine aj _ (dQ h ["both","either"] h1.2.1) ?_;refine bp rfl ?_;w_on;refine bp h1.2.2 ?_;w_on;exact⟨⟨acc,ys,_,_,rfl,t8,he,by omega⟩,dec _ [] (by rw[append_nil];rfl) (by show 0<_+1;omega)⟩
end
theorem Wi (l:List Ak):i6 (l.map qA)=l.zipIdx.map λq=>PV.tup [.int ((q.2:Int)+1),qA q.1]:=by
 unfold i6;rw[zipIdx_map,map_map];rfl
theorem HB {h:Str}(hh:h∈H2):eW t6 h=some (.int 3):=by
 simp only[H2,mem_cons,not_mem_nil,or_false] at hh;rcases hh with rfl|rfl|rfl|rfl<;>rfl
theorem Wj {h:Str}(hh:h∈H1):eW t6 h=none:=by
 simp only[H1,mem_cons,not_mem_nil,or_false] at hh;rcases hh with rfl|rfl|rfl|rfl<;>rfl
def t9 (x r:PV):Prop:=∃ a:Ak,x=qA a/\wA a/\hA a<=50/\nA a<=100000/\r=.lst ((kids a).map qA)
def pX:Option (List Nat×Ak)->PV
 |some s=>qP s
 |none=>.non
def zg:Option (List Nat×Ak)->PV
 |some s=>qA s.2
 |none=>.non
def zh (x y r:PV):Prop:=∃(a:Ak)(ws:ai),x=qA a/\y=.tup ws/\wA a/\hA a<=50/\nA a<=100000/\ws.length<=100/\(∀ x∈ws,nP x)/\r=pX (ft a ws)
def nR (x y r:PV):Prop:=∃(a:Ak)(ws:ai),x=qA a/\y=.tup ws/\wA a/\hA a<=50/\nA a<=100000/\ws.length<=100/\(∀ x∈ws,nP x)/\r=zg (ft a ws)
def t_ (x y z r:PV):Prop:=∃(a p q:Ak)(wy:List Nat),x=qA a/\y=qW wy/\z=qA q/\wA a/\hA a<=50/\nA a<=100000/\wy.length<=100/\apart a wy=some p/\r=qA (c5 a wy q)
section
variable {P:Program}{w:World}{K:Frag}{mg:aZ}{base:Heap}
theorem zi:bw ["ask","found","place"] ["ask"] (aW vZ):=by walk_at "s"
theorem Wk {k:Nat}(D:Df K mg "child_paths" vZ)(B:Bt mg)(pY:Gd P w K mg "COND_PLACES" t6)(HC:Kn P w K mg base k "some_paths" (aX K true (cB Hz)))(HD:Kn P w K mg base k "asks_within" (aX K false (bX Hy))):Kn P w K mg base (k+1) "child_paths" (aX K true (bX zf)):=by
 refine D.dN zi (λ_ _ _ _ _ _=>gD λ_=>rfl) (λ_ _=>bX.len) (by decide) (λf aE A outer s H E hr=>⟨_,(sc (PM (i:=1) zi.nd (N:=["place","child"]) (k:=2) (ix:=[]) cS rfl (Vr rfl B.enumerate (bH rfl HD hr (ac (vn 0) an)) vi) (λ_ _ _ _=>(dW (n:=2) rfl rfl (bj (aQ (i:=0) (by show(["place","child"]:aq).Nodup;decide +kernel)) (bj (aQ (i:=1) (by show(["place","child"]:aq).Nodup;decide +kernel)) dU)))) (λ_ _ _ _=>kg) (λ_ _ _ _=>(et (ac (et (ac (vn 0) an)) (ac (vn 1) an)))))
  (sc (bc (Vx pY rfl (qv (ax rfl hr (qn 0) (qv vi)))) (sc (a9 (i:=2) zi.nd (G0 pY rfl (qv (ax rfl hr (qn 0) (qv vi)))))
  (s1 (eR (Qz rfl 1 (qf (jz rfl HC hr (ac (ax rfl hr (qn 0) (qn 2)) (ac (et (ac (vn 2) an)) an)))))))) sn)
  (s1 (ER (i:=1))))),λB' xs r h=>?_⟩)
 obtain⟨x0,rfl,h⟩:=h;change (_:US) (cV true r) ⟨B',[some (.val x0),none,none],none⟩;obtain⟨a,rfl,hw,hh,hn,rfl⟩:=h;have sl:(fU a).length<=2:=by cases a<;>simp [fU]
 w_on;refine aj _ ⟨a,rfl,hw,hn,rfl⟩ ?_;w_on;rw[Wi];refine ng (fU a).zipIdx (λq=>PV.tup [.int ((q.2:Int)+1),qA q.1]) (λq=>qP ([q.2+1],q.1)) (by rw[length_zipIdx];omega) ?_ ?_
 ·intro B x hx R hR;w_on;exact hR _ ⟨rfl,rfl⟩ rfl
 w_on;intro p
 cases a with
 |tab n w=>
  simp only[qA,fU,cM];w_on;refine bp (by rfl) ?_;w_on;rfl
 |one h a r=>
  simp only[wA] at hw;simp only[qA,fU,cM];w_on;refine bp (by rw[Wj hw.1];rfl) ?_;w_on;rfl
 |pick a c=>
  simp only[wA,hA,nA] at hw hh hn;have cl:=eY c;have ck:=congrArg List.length (jG c [2]);rw[length_map] at ck;simp only[qA,fU,cM];w_on;refine cI (by rfl) ?_;w_on;refine aj (.int 2) (by rfl) ?_;w_on;refine aj _ ⟨c,[2],rfl,rfl,hw.2,by omega,by omega,by decide,rfl⟩ ?_;w_on;exact⟨by rw[length_map,length_map,length_zipIdx,length_singleton];omega,rfl⟩
 |two h a b c=>
  simp only[wA,hA,nA] at hw hh hn;have cl:=eY c;have ck:=congrArg List.length (jG c [3]);rw[length_map] at ck;simp only[qA,fU,cM];w_on;refine cI (by rw[HB hw.1];rfl) ?_;w_on;refine aj _ (HB hw.1) ?_;w_on;refine aj _ ⟨c,[3],rfl,rfl,hw.2.2.2,by omega,by omega,by decide,rfl⟩ ?_;w_on;exact⟨by rw[length_map,length_map,length_zipIdx];simp only[length_cons,length_nil];omega,rfl⟩
 |add a b=>
  simp only[qA,fU,cM];w_on;refine bp (by rfl) ?_;w_on;rfl
theorem Wl:bw ["ask"] ["ask"] (aW v7):=by walk_at "s"
theorem Wm {k:Nat}(D:Df K mg "children" v7)(B:Bt mg)(pZ:Kn P w K mg base k "child_paths" (aX K true (bX zf))):Kn P w K mg base (k+1) "children" (aX K true (bX t9)):=by
 refine D.dN Wl (λ_ _ _ _ _ _=>gD λ_=>rfl) (λ_ _=>bX.len) (by decide) (λf aE A outer s H E hr=>⟨_,(s1 (Pu (lE (N:=["path","child"]) (k:=2) (ix:=[]) cS rfl (iv rfl (vf (jz rfl pZ hr (ac (vn 0) an)))) (λ_ _ _ _=>(dW (n:=2) rfl rfl (bj (aQ (i:=0) (by show(["path","child"]:aq).Nodup;decide +kernel)) (bj (aQ (i:=1) (by show(["path","child"]:aq).Nodup;decide +kernel)) dU)))) (λ_ _ _ _=>kg) (λ_ _ _ _=>(vn 1))))),λB' xs r h=>?_⟩);obtain⟨x0,rfl,h⟩:=h;change (_:US) (cV true r) ⟨B',[some (.val x0)],none⟩;obtain⟨a,rfl,hw,hh,hn,rfl⟩:=h;have kl:=tJ a;have k2:=Hr a;w_on;refine aj _ ⟨a,rfl,hw,hh,hn,rfl⟩ ?_;w_on;refine ng (cM a) qP (λs=>qA s.2) (by omega) ?_ ?_
 ·intro B x hx R hR;simp only[qP];w_on;exact hR _ ⟨rfl,rfl⟩ rfl
 w_on;rw[<- tH,map_map];rfl
theorem nT:bw ["ask","way","path","number","found"] ["ask","way"] (aW v8):=by walk_at "s"
theorem Wn {k:Nat}(D:Df K mg "path_to" v8)(B:Bt mg)(pZ:Kn P w K mg base k "child_paths" (aX K true (bX zf)))(HF:Kn P w K mg base k "is_whole" (aX K false (bX Hw))):Kn P w K mg base (k+1) "path_to" (aX K false (cB zh)):=by
 refine D.dN nT (λ_ _ _ _ _ _=>fc λ_ _=>rfl) (λ_ _=>cB.len) (by decide) (λf aE A outer s H E hr=>⟨_,(sc (bc (j_ (ka rfl (qv (pf .tuple rfl B.isinstance B.tuple PyProof.Rows.boot_tuple (qn 1))))) (s1 (aK v0)) sn)
  (sc (a9 (i:=2) nT.nd (et an))
  (sc (eS PassesOwn.never rfl (jx rfl 1) (aQ (i:=3) nT.nd)
  (sc (a9 (i:=4) nT.nd (vf (jz rfl pZ hr (ac (vn 0) an))))
  (sc (bc (PW.pt (gG (j_ (ka rfl (qv (bH rfl HF hr (ac (vn 3) an))))) (iT (j_ (QB (La.or M7) (qB.or u4) Qa yb (qv vi) (qn 3) (qv (fG rfl B.len (qn 4)))))))) (s1 (aK v0)) sn)
  (sc (a9 (i:=2) nT.nd (bR rfl (qn 2) (qv (ax rfl hr (qv (ax rfl hr (qn 4) (qn 3))) (qv vi)))))
  (s1 (a9 (i:=0) nT.nd (ax rfl hr (qv (ax rfl hr (qn 4) (qn 3))) (qv vi))))))))
  (s1 (aK (et (ac (vn 2) (ac (vn 0) an)))))))),λB' xs r h=>?_⟩)
 obtain⟨x0,x1,rfl,h⟩:=h;change (_:US) (cV false r) ⟨B',[some (.val x0),some (.val x1),none,none,none],none⟩;obtain⟨a,ws,rfl,rfl,hw,hh,hn,hl,hk,rfl⟩:=h;w_on;rw[show fF ws=fF (ws.map id) by rw[map_id]];refine gh ws id (λdd A=>∃(k:Ak)(p:List Nat)(o3 o4:Option Sl),A=⟨B',[some (.val (qA k)),some (.val (.tup ws)),some (.val (qW p)),o3,o4],none⟩/\wA k/\hA k<=50/\nA k<=100000/\p.length<=50*dd.length/\∀ r,ws=dd++r->ft a ws=(ft k r).map λs=>(p++s.1,s.2)) ⟨a,[],none,none,rfl,hw,hh,hn,Nat.zero_le _,λr e=>by rw[nil_append] at e;rw[<- e];cases ft a ws<;>rfl⟩ (λ_ _ _=>trivial) ?_ ?_
 ·rintro dd x r A2 e ⟨k,p,o3,o4,rfl,w1,w2,w3,w4,w5⟩;have hx:=hk x (by rw[e];simp);have e5:=w5 _ e;have dl:dd.length<=100:=by have:=congrArg List.length e;simp at this;omega
  w_on;refine aj _ ⟨k,rfl,w1,w2,w3,rfl⟩ ?_;w_on;refine aj _ ⟨hx,rfl⟩ ?_;cases x<;>first|exact hx.elim|skip
  ·simp only[id];w_on;refine bp rfl ?_;w_on;rw[e5];rfl
  ·rename_i i;simp only[id];w_on;refine cI rfl ?_;w_on;refine bL (λe0=>?_) λe0=>?_
   ·have i0:=of_decide_eq_true e0;w_on;refine bL (λe1=>?_) λe1=>?_
    ·have i1:=of_decide_eq_true e1;rw[length_map] at i1;have il:i.toNat<(cM k).length:=by omega
     obtain⟨⟨q,k2⟩,hq⟩:∃ s,(cM k)[i.toNat]?=some s:=⟨_,cf il⟩;obtain⟨L,l1,_,l3,_⟩:=tW w3 hq;have kk:k2∈kids k:=by rw[<- tH];exact mem_map.mpr ⟨_,mem_of_getElem? hq,rfl⟩
     obtain⟨k1,k3,k4⟩:=kF w1 k2 kk;have ql:q.length<=50:=by rw[l1,length_map];omega
     have HG:cy ((cM k).map qP) i=some (qP (q,k2)):=i4 i0 (by rw[getElem?_map,hq];rfl);w_on;refine aj _ HG ?_;simp only[qP,qW];w_on;refine⟨by rw[length_map,length_map];omega,?_⟩;refine aj _ HG ?_;simp only[qP,qW];w_on;refine⟨k2,p++q,_,_,by simp only[qW,map_append];rfl,k1,by omega,by omega,by rw[length_append,length_append,length_singleton];omega,λr' e'=>?_⟩
     have er:r=r':=by
      rw[e,append_assoc] at e';have:=append_cancel_left e';simpa using this
     subst er;rw[e5];simp only[ft];rw[if_pos i0,hq];simp only[Option.map_map]
     congr 1
     funext s
     simp only[Function.comp,append_assoc]
    ·have i1:=of_decide_eq_false e1;rw[length_map] at i1;w_on;rw[e5];simp only[ft];rw[if_pos i0,getElem?_eq_none (by omega)];rfl
   ·have i0:=of_decide_eq_false e0;w_on;rw[e5];simp only[ft];rw[if_neg i0];rfl
 ·rintro A2 ⟨k,p,o3,o4,rfl,w1,w2,w3,w4,w5⟩;have:=w5 [] (by simp);w_on;rw[this];simp only[ft,Option.map_some,pX,qP,append_nil]
theorem HH:bw ["ask","way","found"] ["ask","way"] (aW v9):=by walk_at "s"
theorem Wq {k:Nat}(D:Df K mg "part_at" v9)(B:Bt mg)(p6:Kn P w K mg base k "path_to" (aX K false (cB zh))):Kn P w K mg base (k+1) "part_at" (aX K false (cB nR)):=by
 refine D.dN HH (λ_ _ _ _ _ _=>fc λ_ _=>rfl) (λ_ _=>cB.len) (by decide) (λf aE A outer s H E hr=>⟨_,(sc (a9 (i:=2) HH.nd (bH rfl p6 hr (ac (vn 0) (ac (vn 1) an))))
  (s1 (aK (EG (Fv (qn 2) (qv v0)) v0 (ax rfl hr (qn 2) (qv vi)))))),λB' xs r h=>?_⟩)
 obtain⟨x0,x1,rfl,h⟩:=h;change (_:US) (cV false r) ⟨B',[some (.val x0),some (.val x1),none],none⟩;obtain⟨a,ws,rfl,rfl,hw,hh,hn,hl,hk,rfl⟩:=h;w_on;refine aj _ ⟨a,ws,rfl,rfl,hw,hh,hn,hl,hk,rfl⟩ ?_
 cases ft a ws with
 |none=>
  simp only[pX,zg];w_on
 |some s=>
  simp only[pX,zg,qP];w_on
theorem HI:bw ["ask","way","part","found"] ["ask","way","part"] (aW v_):=by walk_at "s"
theorem Wr {k:Nat}(D:Df K mg "with_part" v_)(B:Bt mg)(p6:Kn P w K mg base k "path_to" (aX K false (cB zh)))(HJ:Kn P w K mg base k "replaced" (aX K false (dz qV))):Kn P w K mg base (k+1) "with_part" (aX K false (dz t_)):=by
 refine D.dN HI (λ_ _ _ _ _ _=>fL λ_ _ _=>rfl) (λ_ _=>dz.len) (by decide) (λf aE A outer s H E hr=>⟨_,(sc (a9 (i:=3) HI.nd (bH rfl p6 hr (ac (vn 0) (ac (vn 1) an))))
  (s1 (aK (EG (Fv (qn 3) (qv v0)) v0 (bH rfl HJ hr (ac (vn 0) (ac (ax rfl hr (qn 3) (qv vi)) (ac (vn 2) an)))))))),λB' xs r h=>?_⟩)
 obtain⟨x0,x1,x2,rfl,h⟩:=h;change (_:US) (cV false r) ⟨B',[some (.val x0),some (.val x1),some (.val x2),none],none⟩;obtain⟨a,p,q,wy,rfl,rfl,rfl,hw,hh,hn,hl,ha,rfl⟩:=h;obtain⟨pt,L,h1,h2,h3,h4,h5⟩:=zb hw hn ha
 have lb:L.length<=10000:=by
  have:=Nat.mul_le_mul hh hl;omega
 w_on;refine aj _ ⟨a,wy.map λi=>.int (i:Nat),rfl,rfl,hw,hh,hn,by rw[length_map];exact hl,λx hx=>by obtain⟨i,_,rfl⟩:=mem_map.mp hx;trivial,rfl⟩ ?_;rw[h1];simp only[pX,qP];w_on;exact aj _ ⟨L,_,h3,by rw[h2],lb,rfl⟩ (h5 q)
end
def HK (x:PV)(st:ag)(Q:PV->ag->Prop):Prop:=∃ k:Str,x=.str k/\st.n<=90000/\∀(r:PV)(st':ag),Nx st 1 st'->Q r st'
def HL (st:ag)(Q:PV->ag->Prop):Prop:=dv st.b/\st.n<=1000/\∀(fr y:PV)(st':ag),lV fr->Nx st 40 st'->Q (.tup [fr,y]) st'
theorem Ws:∀ j:Nat,0<=j->j<2->([none,none]:cL)[j]?=some none
 |0,_,_=>rfl
 |1,_,_=>rfl
section
variable {P:Program}{w:World}{K:Frag}{mg:aZ}{base:Heap}
theorem HM:bw ["_law_state","_law_kind_here","_law_way_here"] ["_law_state","_law_kind_here"] (aW wo):=by walk_at "s"
theorem Wt {k:Nat}(D:Df K mg "_law_value" wo)(B:Bt mg)(aY:Kn P w K mg base k "_law_take" (spS K false (bP eM))):Kn P w K mg base (k+1) "_law_value" (spS K false (bP HK)):=by
 refine D.eK HM (λ_ _ _ _ _ _=>fc λ_ _=>rfl) (λ_ _ _=>bP.len) (by decide) (λf aE A outer s H E hr=>⟨_,(sc (a9 (i:=2) HM.nd (aN rfl aY hr (ac (vn 0) (ac vi an))))
  (sc (bc (bW rfl hr (qn 2) (qv vi)) (s1 (aK v0)) sn)
  (sc (bc (bW rfl hr (qn 1) (qv vs)) (s1 (aK (ax rfl hr (qf (el (ac vs (ac vs (ac vs (ac vs (ac vs an))))))) (qn 2)))) sn)
  (s1 (aK (ax rfl hr (qf (el (ac vi (ac vi (ac vi (ac (lM vi) (ac (Uc (qv vi) (qv vi)) an))))))) (qn 2))))))),λB' xs st Q h=>?_⟩)
 obtain⟨x1,rfl,h⟩:=h;change (_:US) (dM false Q) ⟨B',[some (.val (.raw (.ref st.d))),some (.val x1),none],some st⟩;obtain⟨k,rfl,hn,h⟩:=h;obtain⟨d,a,n,D⟩:=st;have fw:n<=90000:=hn;have fin:∀ r:PV,Q r ⟨d,a,n+1,D⟩:=λr=>h r _ ⟨n+1,ar _,rfl⟩;w_on;refine draw (by omega) (by decide) (by decide) λq q0 q1=>?_;w_on;refine bL (λe=>?_) λe=>?_
 ·w_on;exact fin _
 have q5:q<5:=by have:=of_decide_eq_false e;omega
 w_on;refine bL (λe=>?_) λe=>?_
 ·w_on;refine ef q0 (by simpa using q5) λx hx=>?_;w_on;exact fin _
 ·w_on;refine⟨by unfold u3;decide,ef q0 (by simpa using q5) λx hx=>?_⟩;w_on;exact fin _
theorem kI:bw ["_law_state","_law_tables","_law_book","_law_number","_law_fields","_law_k","_law_name"] ["_law_state"] (aW wq):=by walk_at "s"
theorem Wu {k:Nat}(D:Df K mg "_law_world" wq)(B:Bt mg)(kx:Kn P w K mg base k "_law_word" (spS K false (bP yS)))(aY:Kn P w K mg base k "_law_take" (spS K false (bP eM)))(HN:Kn P w K mg base k "_law_value" (spS K false (bP HK))):Kn P w K mg base (k+1) "_law_world" (spS K false (gL HL)):=by
 refine D.eK kI (λ_ _ _ _ _ _=>gD λ_=>rfl) (λ_ _ _=>gL.len) (by decide) (λf aE A outer s H E hr=>⟨_,(UN 2 (sc (eQ (i:=1) kI.nd (el an))
  (sc (eQ (i:=2) kI.nd FX)
  (sc (eS PassesOwn.never rfl (iW (by rfl) B.range vi) (aQ (i:=3) kI.nd)
  (sc (eQ (i:=4) kI.nd (el an))
  (sc (eS PassesOwn.never rfl (iW (by rfl) B.range (bR rfl (qv vi) (qv (aN rfl aY hr (ac (vn 0) (ac vi an)))))) (aQ (i:=5) kI.nd)
  (s1 (eR (fQ rfl 4 (et (ac (aN rfl kx hr (ac (vn 0) (ac (bR rfl (qn 5) (qn 3)) an))) (ac (ax rfl hr (qf (el (ac vs (ac vs (ac vs an))))) (qv (aN rfl aY hr (ac (vn 0) (ac vi an))))) (ac vb an))))))))
  (sc (a9 (i:=6) kI.nd (aN rfl kx hr (ac (vn 0) (ac (bR rfl (qv vi) (qn 3)) an))))
  (sc (eR (fQ rfl 1 (et (ac (vn 6) (ac (ko rfl B.tuple (qn 4)) (ac (et an) an))))))
  (sc (UP hr 7 2 6 (el an))
  (s1 (eS PassesOwn.never rfl (iW (by rfl) B.range (aN rfl aY hr (ac (vn 0) (ac vi an)))) (aQ (i:=5) kI.nd)
  (s1 (eR (Vy rfl hr 2 6 (ko rfl B.tuple (qf (lE (N:=["_law_field","_law_state"]) (k:=1) (ix:=[0]) cS rfl (jx rfl 4) (λ_ _ _ _=>(aQ (i:=0) (by show(["_law_field","_law_state"]:aq).Nodup;decide +kernel))) (λ_ _ _ _=>kg) (λ_ _ _ _=>(aN rfl HN hr (ac (vn 1) (ac (ax rfl hr (qn 0) (qv vi)) an))))))))))))))))))
  (s1 (aK (et (ac (et (ac (ko rfl B.tuple (qn 1)) (ac (et an) an))) (ac (vn 2) an))))))))),λB' xs st Q h=>?_⟩)
 obtain⟨rfl,h⟩:=h;change (_:US) (dM false Q) ⟨B',[some (.val (.raw (.ref st.d))),none,none,none,none,none,none],some st⟩;obtain⟨W,hn,h⟩:=h;obtain⟨d,a,n,D⟩:=st;have fw:n<=1000:=hn;have W':dv D:=W;w_on;intro p q;refine jE 2 (λi A=>∃(ts:List Tab)(kvs:aS)(m:Nat)(o3 o4 o5 o6:Option Sl)(G:cL),A=⟨B',some (.val (.raw (.ref d)))::some (.own p (.lst (ts.map pT)))::some (.own q (.ah kvs))::o3::o4::o5::o6::G,some ⟨d,a,m,D⟩⟩/\ts.length=i/\(∀ t∈ts,Hd t)/\kvs.length<=i/\m<=n+20*i/\∀ j,i<=j->j<2->G[j]?=some none) ⟨[],[],n,none,none,none,none,[none,none],rfl,rfl,(λ_ h=>by cases h),ar _,ar _,Ws⟩ (λ_ _ _=>trivial) ?_ ?_
 ·rintro i A2 hi ⟨ts,kvs,m,o3,o4,o5,o6,G,rfl,tl,hT,kl,hm,hG⟩;w_on;intro fa;refine draw (by omega) (by decide) (by decide) λu u0 u1=>?_;w_on;refine⟨by omega,by omega,?_⟩;have hN:1<=(1+u).toNat/\(1+u).toNat<=3:=by omega
  generalize (1+u).toNat=N at hN;refine jE N (λk A=>∃(cs:List yU)(m2:Nat)(o5:Option Sl),A=⟨B',some (.val (.raw (.ref d)))::some (.own p (.lst (ts.map pT)))::some (.own q (.ah kvs))::some (.val (.int (i:Nat)))::some (.own fa (.lst (cs.map pC)))::o5::o6::G,some ⟨d,a,m2,D⟩⟩/\cs.length=k/\(∀ c∈cs,W4 c.n/\Kd c.k)/\m2<=m+1+k) ⟨[],m+1,o5,rfl,rfl,(λ_ h=>by cases h),ar _⟩ (λ_ _ _=>trivial) ?_ ?_
  ·rintro k A3 hk ⟨cs,m2,o5,rfl,cl,f9,a_⟩;w_on;refine⟨_,rfl,W',λz zl zs=>?_⟩;w_on;refine draw (by omega) (by decide) (by decide) λv v0 v1=>?_;w_on;refine ef v0 (by simpa using v1) λx hx=>?_
   have wx:∃ t:Str,x=.str t/\Kd t:=by
    simp only[mem_cons,not_mem_nil,or_false] at hx;rcases hx with rfl|rfl|rfl
    ·exact⟨_,rfl,.inl rfl⟩
    ·exact⟨_,rfl,.inl rfl⟩
    ·exact⟨_,rfl,.inr rfl⟩
   obtain⟨t,rfl,ht⟩:=wx;w_on
   exact⟨by rw[length_map];omega,cs++[⟨z,t⟩],m2+1,_,by rw[map_append];rfl,by rw[length_append,length_singleton];omega,λc hc=>by
    rcases mem_append.mp hc with e|e
    ·exact f9 c e
    ·rw[mem_singleton.mp e];exact⟨⟨by show z.length<=4;omega,zs⟩,ht⟩,by omega⟩
  ·rintro A3 ⟨cs,m2,o5,rfl,cl,f9,a_⟩;w_on;refine⟨_,rfl,W',λz zl zs=>?_⟩;w_on;have Gi:i<G.length:=(c6 (hG i (ar _) hi)).1;refine⟨by rw[length_map];omega,?_⟩;unfold GN;w_on;refine⟨[],q,kvs,z,i+7,rfl,⟨rfl,rfl⟩,rfl,by omega,hG i (ar _) hi,by omega,λg=>?_⟩;simp only[set_cons_succ,set_cons_zero];have dl:bZ (dP kvs (.inr z) (.raw (.ref g))) (.inr z)=some (.raw (.ref g)):=(Gj (.inr z)).trans (if_pos rfl);have HP:(dP kvs (.inr z) (.raw (.ref g))).length<=i+1:=bU G_ (Nat.succ_le_succ kl);generalize dP kvs (.inr z) (.raw (.ref g))=m8 at dl HP;w_on;refine draw (by omega) (by decide) (by decide) λy y0 y1=>?_;w_on;refine⟨by omega,by omega,?_⟩;have hM:y.toNat<=4:=by omega
   generalize y.toNat=M at hM;refine jE M (λk A=>∃(rows:ai)(m3:Nat)(o5:Option Sl),A=⟨B',some (.val (.raw (.ref d)))::some (.own p (.lst (ts.map pT++[PV.tup [PV.str z,PV.tup (cs.map pC),PV.tup []]])))::some (.own q (.ah m8))::some (.val (.int (i:Nat)))::some (.own fa (.lst (cs.map pC)))::o5::some (.val (.str z))::G.set i (some (.own g (.lst rows))),some ⟨d,a,m3,D⟩⟩/\rows.length=k/\m3<=m2+1+3*k) ⟨[],m2+1,o5,rfl,rfl,ar _⟩ (λ_ _ _=>trivial) ?_ ?_
   ·rintro k A4 hk ⟨rows,m3,o5,rfl,rl,dD⟩;w_on;unfold G3;w_on;refine⟨q,g,m8,z,i+7,rows,⟨rfl,rfl⟩,rfl,dl,getElem?_set_self Gi,?_⟩;refine F_ cs pC (λdc ys S=>∃ m4,S=some ⟨d,a,m4,D⟩/\m4<=m3+dc.length) (by omega) ⟨m3,rfl,ar _⟩ ?_ ?_
    ·rintro B dc c r ys S e ⟨m4,rfl,l6⟩ R hR;have ZH:dc.length<3:=by have:=congrArg List.length e;simp at this;omega
     simp only[pC];w_on;refine⟨_,rfl,by show m4<=90000;omega,λrr st' fX=>?_⟩;obtain⟨m5,p7,rfl⟩:=fX;refine hR _ _ ⟨rfl,rfl⟩ ⟨m5,rfl,?_⟩;rw[length_append,length_singleton];have:m5<=m4+1:=p7;omega
    ·rintro ys S ⟨m4,rfl,l6⟩;w_on;exact⟨rows,getElem?_set_self Gi,by omega,rows++[.tup ys],m4,_,by rw[set_set],by rw[length_append,length_singleton];omega,by omega⟩
   ·rintro A4 ⟨rows,m3,o5,rfl,rl,dD⟩;refine⟨ts++[⟨z,cs⟩],m8,m3,_,_,_,_,_,by rw[map_append];rfl,by rw[length_append,length_singleton];omega,λt ht=>?_,HP,by omega,λj j1 j2=>?_⟩
    ·rcases mem_append.mp ht with e|e
     ·exact hT t e
     ·rw[mem_singleton.mp e];exact⟨⟨by show z.length<=4;omega,zs⟩,(λe=>by rw[show cs=[] from e] at cl;simp at cl;omega),by show cs.length<=3;omega,f9⟩
    ·rw[getElem?_set_ne (by omega)];exact hG j (by omega) j2
 ·rintro A2 ⟨ts,kvs,m,o3,o4,o5,o6,G,rfl,tl,hT,kl,hm,hG⟩;w_on;exact h _ _ ⟨d,a,m,D⟩ ⟨ts,_,rfl,(λe=>by rw[e] at tl;cases tl),by omega,hT⟩ ⟨m,hm,rfl⟩
end
theorem zj {a k:Ak}{i d:Nat}(hn:nA a<=100000)(h:(kids a)[i]?=some k)(g:Dp d (qA a)):Dp d (qA k):=by
 obtain⟨p,hp⟩:=tX h;obtain⟨L,_,h2,_⟩:=tW hn hp;exact zd h2 g
theorem zk {a:Ak}{d:Nat}(hn:nA a<=100000)(g:Dp d (qA a)):∀ x∈(kids a).map qA,Dp d x:=λx hx=>by
 obtain⟨k,hk,rfl⟩:=mem_map.mp hx;obtain⟨i,hi⟩:=getElem?_of_mem hk;exact zj hn hi g
theorem Wv {d:Nat}{l:ai}(h:∀ x∈l,Dp d x)(hd:d<80):fP true (.lst l) (.lst []) (.bl (!l.isEmpty)):=
 ⟨⟨d+1,hd,iy h,iy λ_ h=>by cases h⟩,by cases l<;>rfl⟩
theorem eZ {x:PV}{d:Nat}{n:Bool}(h:Dp d x)(hd:d<=80):fP n x x (.bl (!n)):=⟨⟨d,hd,h,h⟩,by rw[Fe d x h,Bool.xor_true]⟩
theorem Ww (xs:ai)(x:PV):cy (xs++[x]) (-1)=some x:=by
 have hl:(xs++[x]).length=xs.length+1:=by rw[length_append,length_singleton]
 unfold cy iN;rw[hl,if_neg (by decide),if_pos (by omega),show(-1+((xs.length+1:Nat):Int)).toNat=xs.length by omega];simp
def HS (x:PV)(st:ag)(Q:PV->ag->Prop):Prop:=∃ a:Ak,x=qA a/\wA a/\hA a<=50/\nA a<=100000/\Dp 40 (qA a)/\st.n<=80000/\∀(wy:List Nat)(p:Ak)(st':ag),apart a wy=some p->wy.length<=6->Nx st 7 st'->Q (.tup [qW wy,qA p]) st'
def HU (x y r:PV):Prop:=∃(a p:Ak)(wy:List Nat),x=qA a/\y=qW wy/\wA a/\hA a<=50/\nA a<=100000/\Dp 40 (qA a)/\apart a wy=some p/\wy.length<=100/\r=.bl true
section
variable {P:Program}{w:World}{K:Frag}{mg:aZ}{base:Heap}
theorem nU:bw ["_law_state","_law_ask_here","_law_way_here","_law_k","_law_some"] ["_law_state","_law_ask_here"] (aW wQ):=by walk_at "s"
theorem Wx {k:Nat}(D:Df K mg "_law_way" wQ)(B:Bt mg)(aY:Kn P w K mg base k "_law_take" (spS K false (bP eM)))(eN:Kn P w K mg base k "_law_children" (aX K false (bX nF))):Kn P w K mg base (k+1) "_law_way" (spS K false (bP HS)):=by
 refine D.eK nU (λ_ _ _ _ _ _=>fc λ_ _=>rfl) (λ_ _ _=>bP.len) (by decide) (λf aE A outer s H E hr=>⟨_,(sc (a9 (i:=2) nU.nd (et an))
  (sc (eS PassesOwn.never rfl (iW (by rfl) B.range (aN rfl aY hr (ac (vn 0) (ac vi an)))) (aQ (i:=3) nU.nd)
  (sc (a9 (i:=4) nU.nd (bH rfl eN hr (ac (vn 1) an)))
  (s1 (bc (gf rfl hr (qn 4) (qf (el an))) (sc (a9 (i:=2) nU.nd (bR rfl (qn 2) (qv (et (ac (aN rfl aY hr (ac (vn 0) (ac (fG rfl B.len (qn 4)) an))) an)))))
  (s1 (a9 (i:=1) nU.nd (ax rfl hr (qn 4) (qv (ax rfl hr (qn 2) (qv (lM vi)))))))) sn))))
  (s1 (aK (et (ac (vn 2) (ac (vn 1) an))))))),λB' xs st Q h=>?_⟩)
 obtain⟨x1,rfl,h⟩:=h;change (_:US) (dM false Q) ⟨B',[some (.val (.raw (.ref st.d))),some (.val x1),none,none,none],some st⟩;obtain⟨ak,rfl,hw,hh,hn,hd,hs,h⟩:=h;obtain⟨d,a,n,D⟩:=st;have rp:n<=80000:=hs;w_on;refine draw (by omega) (by decide) (by decide) λu u0 u1=>?_;w_on;refine⟨by omega,by omega,?_⟩;have hN:u.toNat<=6:=by omega
 generalize u.toNat=N at hN;refine jE N (λi A=>∃(k:Ak)(wy:List Nat)(m:Nat)(o3 o4:Option Sl),A=⟨B',[some (.val (.raw (.ref d))),some (.val (qA k)),some (.val (qW wy)),o3,o4],some ⟨d,a,m,D⟩⟩/\apart ak wy=some k/\Dp 40 (qA k)/\wy.length<=i/\m<=n+1+i) ⟨ak,[],n+1,none,none,rfl,rfl,hd,ar _,ar _⟩ (λ_ _ _=>trivial) ?_ ?_
 ·rintro i A2 hi ⟨k,wy,m,o3,o4,rfl,hp,dk,wl,hm⟩;obtain⟨k1,k2,k3⟩:=zc hw hp;w_on;refine aj _ ⟨k,rfl,k1,by omega,by omega,rfl⟩ ?_;w_on;refine aj _ (Wv (zk (by omega) dk) (by decide)) ?_;refine bL (λe=>?_) λe=>?_
  ·have kp:0<(kids k).length:=by
    cases hk:kids k with
    |nil=>rw[hk] at e;cases e
    |cons x l=>simp
   have kl:=tJ k;have ml:((kids k).map qA).length=(kids k).length:=length_map ..;have mw:(wy.map λi=>PV.int (i:Nat)).length=wy.length:=length_map ..;simp only[qW];w_on;refine draw (by omega) (by omega) (Int.lt_of_le_of_lt (b:=200000) (by omega) (by decide)) λv v0 v1=>?_;obtain⟨j,rfl⟩:=Int.eq_ofNat_of_zero_le v0;have hj:j<(kids k).length:=by omega
   have ja:(kids k)[j]?=some (kids k)[j]:=cf hj;generalize (kids k)[j]=k' at ja;w_on;refine⟨by omega,?_⟩;refine aj _ (Ww _ _) ?_;w_on;refine aj _ (ze ja) ?_;w_on;exact⟨k',wy++[j],m+1,_,_,by simp only[qW,map_append];rfl,Hv hp ja,zj (by omega) ja dk,by rw[length_append,length_singleton];omega,by omega⟩
  ·w_on;exact⟨k,wy,m,_,_,rfl,hp,dk,by omega,by omega⟩
 ·rintro A2 ⟨k,wy,m,o3,o4,rfl,hp,dk,wl,hm⟩;w_on;exact h wy k ⟨d,a,m,D⟩ hp (by omega) ⟨m,(by show m<=n+7;omega),rfl⟩
theorem uj:bw ["_law_ask_here","_law_way_here","_law_step","_law_found"] ["_law_ask_here","_law_way_here"] (aW wR):=by walk_at "s"
theorem Wy {k:Nat}(D:Df K mg "_law_along" wR)(B:Bt mg)(iE:Kn P w K mg base k "children" (aX K true (bX t9)))(eN:Kn P w K mg base k "_law_children" (aX K false (bX nF))):Kn P w K mg base (k+1) "_law_along" (aX K false (cB HU)):=by
 refine D.dN uj (λ_ _ _ _ _ _=>fc λ_ _=>rfl) (λ_ _=>cB.len) (by decide) (λf aE A outer s H E hr=>⟨_,(sc (eS PassesOwn.never rfl (jx rfl 1) (aQ (i:=2) uj.nd)
  (sc (eQ (i:=3) uj.nd (jz rfl iE hr (ac (vn 0) an)))
  (sc (bc (PW.pt (gG (j_ (ka rfl (qv (pf .list rfl B.isinstance B.list PyProof.Rows.boot_list (qn 3))))) (iT (gf rfl hr (qn 3) (qv (bH rfl eN hr (ac (vn 0) an))))))) (s1 (aK vb)) sn)
  (sc (eR (fQ rfl 3 (vn 0)))
  (sc (bc (gf rfl hr (qf (jz rfl iE hr (ac (vn 0) an))) (qv (bH rfl eN hr (ac (vn 0) an)))) (s1 (aK vb)) sn)
  (s1 (a9 (i:=0) uj.nd (ax rfl hr (qv (bH rfl eN hr (ac (vn 0) an))) (qn 2)))))))))
  (s1 (aK (lH rfl hr (qf (jz rfl iE hr (ac (vn 0) an))) (qv (bH rfl eN hr (ac (vn 0) an))))))),λB' xs r h=>?_⟩)
 obtain⟨x0,x1,rfl,h⟩:=h;change (_:US) (cV false r) ⟨B',[some (.val x0),some (.val x1),none,none],none⟩;obtain⟨a,p,wy,rfl,rfl,hw,hh,hn,hd,hp,hl,rfl⟩:=h;simp only[qW];w_on;refine gh wy (λi=>PV.int (i:Nat)) (λdd A=>∃(k:Ak)(o2 o3:Option Sl),A=⟨B',[some (.val (qA k)),some (.val (.tup (wy.map λi=>PV.int (i:Nat)))),o2,o3],none⟩/\wA k/\hA k<=50/\nA k<=100000/\Dp 40 (qA k)/\∀ r,wy=dd++r->apart k r=some p) ⟨a,none,none,rfl,hw,hh,hn,hd,λr e=>by rw[nil_append] at e;rw[<- e];exact hp⟩ (λ_ _ _=>trivial) ?_ ?_
 ·rintro dd j r A2 e ⟨k,o2,o3,rfl,k1,k2,k3,dk,hk⟩;have ap:=hk _ e;simp only[apart] at ap
  cases ja:(kids k)[j]? with
  |none=>rw[ja] at ap;cases ap
  |some k'=>
   rw[ja] at ap;have kl:=tJ k;have dl:Dp 41 (.lst ((kids k).map qA)):=iy (zk (by omega) dk);obtain⟨q1,q2,q3⟩:=kF k1 k' (mem_of_getElem? ja);w_on;refine aj _ ⟨k,rfl,k1,k2,k3,rfl⟩ ?_;w_on;intro pa;refine aj _ ⟨k,rfl,k1,k2,k3,rfl⟩ ?_;w_on;refine aj false (eZ dl (by decide)) ?_;refine bp rfl ?_;w_on;refine⟨by rw[length_map];omega,?_⟩;refine aj _ ⟨k,rfl,k1,k2,k3,rfl⟩ ?_;w_on;refine aj _ ⟨k,rfl,k1,k2,k3,rfl⟩ ?_;w_on;refine aj false (eZ dl (by decide)) ?_;refine bp rfl ?_;w_on;refine aj _ ⟨k,rfl,k1,k2,k3,rfl⟩ ?_;w_on;refine aj _ (ze ja) ?_;w_on;refine⟨k',_,_,rfl,q1,by omega,by omega,zj (by omega) ja dk,λr' e'=>?_⟩
   have er:r=r':=by
    rw[e,append_assoc] at e';have:=append_cancel_left e';simpa using this
   rw[<- er];exact ap
 ·rintro A2 ⟨k,o2,o3,rfl,k1,k2,k3,dk,hk⟩;have dl:Dp 41 (.lst ((kids k).map qA)):=iy (zk (by omega) dk);w_on;refine aj _ ⟨k,rfl,k1,k2,k3,rfl⟩ ?_;w_on;refine aj _ ⟨k,rfl,k1,k2,k3,rfl⟩ ?_;w_on;exact aj _ (eZ dl (by decide)) rfl
end
structure Gk (a:Ak):Prop where
 w:wA a
 h:hA a<=40
 n:nA a<=20000
 d:Dp 40 (qA a)
theorem p8 {n:Nat}{t:Str}{xs:ai}(h:∀ x∈xs,Dp n x):Dp (n+1) (.tup (.str t::xs)):=lQ λx hx=>by
 rcases mem_cons.mp hx with e|e
 ·rw[e];exact jD _ _
 ·exact h x e
theorem nV {n:Nat}{a b:Ak}(h:Dp n (qA a))(g:Dp n (qA b)):Dp (n+1) (qA (.add a b)):=p8 λx hx=>by
 simp only[mem_cons,not_mem_nil,or_false] at hx;rcases hx with rfl|rfl
 ·exact h
 ·exact g
theorem HV {n:Nat}{x y:PV}(h:Dp n x)(g:Dp n y):Dp (n+1) (.lst [x,y]):=iy λz hz=>by
 simp only[mem_cons,not_mem_nil,or_false] at hz;rcases hz with rfl|rfl
 ·exact h
 ·exact g
def l7 (a q:Ak):Nat->Ak
 |0=>.add q a
 |_=>.add a q
def HW (x y r:PV):Prop:=∃ a q:Ak,x=qA a/\y=qA q/\Gk a/\Gk q/\r=.bl true
theorem p9 {a p:Ak}{wy:List Nat}(hw:wA a)(hh:hA a<=50)(hn:nA a<=100000)(hl:wy.length<=100)(h:apart a wy=some p):nR (qA a) (.tup (wy.map λi=>.int (i:Nat))) (qA p):=by
 obtain⟨q,_,e,_⟩:=zb hw hn h;exact⟨a,_,rfl,rfl,hw,hh,hn,by rw[length_map];exact hl,λx hx=>by obtain⟨i,_,rfl⟩:=mem_map.mp hx;trivial,by rw[e];rfl⟩
def jn (w0 w1:Str):List Cd->Cd
 |[s0,s1]=>.bo w0 s0 s1
 |[s0,s1,s2]=>.bo w1 (.bo w0 s0 s1) (.nt s2)
 |_=>.lf "yes" []
def rJoin (x y r:PV):Prop:=∃(w0 w1:Str)(l:List Cd),x=.lst [.str w0,.str w1]/\y=.lst (l.map qC)/\(l.length=2\/l.length=3)/\r=qC (jn w0 w1 l)
def sm (q:Ak):Cd:=.cj q (.lf "yes" [])
theorem HX (q:Ak):qC (sm q)=.tup [.str "some",qA q,.tup [.str "yes"]]:=rfl
def HY (x y z u v r:PV):Prop:=∃(w0 w1:Str)(a q o:Ak)(m:Nat),x=.lst [.str w0,.str w1]/\w0∈H3/\w1∈H3/\y=qA a/\z=qA q/\u=qA o/\v=.int (m:Nat)/\(m=2\/m=3)/\Gk a/\Gk q/\Gk o/\r=.bl true
theorem um (x:PV):∀ n:Nat,(replicate n [x]).flatten=replicate n x
 |0=>rfl
 |n+1=>by rw[replicate_succ,replicate_succ,flatten_cons,um x n];rfl
structure Sk (c:Cd):Prop where
 w:wC c
 h:hC c<=41
 n:nC c<=20002
 d:Dp 41 (qC c)
theorem H_ {q:Ak}(h:Gk q):Sk (sm q):=by
 have h1:=h.h;have h2:=h.n;refine⟨⟨h.w,by simp [wC,H4]⟩,by simp only[sm,hC];omega,by simp only[sm,nC,length_nil];omega,p8 λx hx=>?_⟩;simp only[mem_cons,not_mem_nil,or_false] at hx;rcases hx with rfl|rfl
 ·exact h.d
 ·exact(p8 (n:=0) λ_ h=>by cases h).mono (by decide)
theorem uq {n:Nat}{t:Str}{x y:PV}(h:Dp n x)(g:Dp n y):Dp (n+1) (.tup [.str t,x,y]):=p8 λz hz=>by
 simp only[mem_cons,not_mem_nil,or_false] at hz;rcases hz with rfl|rfl
 ·exact h
 ·exact g
theorem Ia {w0 w1:Str}(h0:w0∈H3)(h1:w1∈H3):∀{l:List Cd},l.length=2\/l.length=3->(∀ c∈l,Sk c)->wC (jn w0 w1 l)/\hC (jn w0 w1 l)<=43/\nC (jn w0 w1 l)<=60010/\Dp 43 (qC (jn w0 w1 l))
 |[s0,s1],_,h=>by
  have a:=h s0 (by simp);have b:=h s1 (by simp);have:=a.h;have:=b.h;have:=a.n;have:=b.n;simp only[jn,wC,hC,nC,qC];exact⟨⟨h0,a.w,b.w⟩,by omega,by omega,(uq a.d b.d).mono (by decide)⟩
 |[s0,s1,s2],_,h=>by
  have a:=h s0 (by simp);have b:=h s1 (by simp);have c:=h s2 (by simp);have:=a.h;have:=b.h;have:=a.n;have:=b.n;have:=c.h;have:=c.n;simp only[jn,wC,hC,nC,qC];exact⟨⟨h1,⟨h0,a.w,b.w⟩,c.w⟩,by omega,by omega,uq (uq a.d b.d) (p8 λx hx=>by rw[mem_singleton.mp hx];exact c.d)⟩
theorem Ib {w0 w1:Str}{a q:Ak}{m:Nat}(hm:m=2\/m=3):kids (.pick a (jn w0 w1 (replicate m (sm q))))=a::replicate m q:=by
 rcases hm with rfl|rfl<;>rfl
theorem Wz {w0 w1:Str}{a q o:Ak}{m k:Nat}(hm:m=2\/m=3)(hk:k<m):c5 (.pick a (jn w0 w1 (replicate m (sm q)))) [1+k] o=.pick a (jn w0 w1 ((replicate m (sm q)).set k (sm o))):=by
 rcases hm with rfl|rfl
 ·have:k=0\/k=1:=by omega
  rcases this with rfl|rfl<;>rfl
 ·have:k=0\/k=1\/k=2:=by omega
  rcases this with rfl|rfl|rfl<;>rfl
theorem Ic {w0 w1:Str}{a q:Ak}{m k:Nat}(hm:m=2\/m=3)(hk:k<m):apart (.pick a (jn w0 w1 (replicate m (sm q)))) [1+k]=some q:=by
 simp only[apart,Ib hm];rw[Nat.add_comm,getElem?_cons_succ,getElem?_replicate,if_pos hk]
section
variable {P:Program}{w:World}{K:Frag}{mg:aZ}{base:Heap}
theorem l8:bw ["_law_ask_here","_law_other","_law_both_here","_law_twice","_law_i","_law_j","_law_sides","_law_inner"] ["_law_ask_here","_law_other"] (aW wV):=by walk_at "s"
theorem WA {k:Nat}(D:Df K mg "_law_twice_right" wV)(B:Bt mg)(iE:Kn P w K mg base k "children" (aX K true (bX t9)))(jb:Kn P w K mg base k "with_part" (aX K false (dz t_)))(gX:Kn P w K mg base k "part_at" (aX K false (cB nR))):Kn P w K mg base (k+1) "_law_twice_right" (aX K false (cB HW)):=by
 refine D.dN l8 (λ_ _ _ _ _ _=>fc λ_ _=>rfl) (λ_ _=>cB.len) (by decide) (λf aE A outer s H E hr=>⟨_,(sc (a9 (i:=2) l8.nd (et (ac vs (ac (vn 0) (ac (vn 0) an)))))
  (sc (a9 (i:=3) l8.nd (et (ac vs (ac (vn 2) (ac (vn 2) an)))))
  (sc (bc (PW.pt (gG (gf rfl hr (qf (jz rfl iE hr (ac (vn 2) an))) (qf (el (ac (vn 0) (ac (vn 0) an))))) (iT (gf rfl hr (qf (jz rfl iE hr (ac (vn 3) an))) (qf (el (ac (vn 2) (ac (vn 2) an)))))))) (s1 (aK vb)) sn)
  (sc (eS PassesOwn.never rfl (iW (by rfl) B.range vi) (aQ (i:=4) l8.nd)
  (s1 (eS PassesOwn.never rfl (iW (by rfl) B.range vi) (aQ (i:=5) l8.nd)
  (sc (eQ (i:=6) l8.nd (el (ac (vn 0) (ac (vn 0) an))))
  (sc (GF 6 (vn 1) (vn 5))
  (sc (a9 (i:=7) l8.nd (et (ac vs (ac (ax rfl hr (qn 6) (qv vi)) (ac (ax rfl hr (qn 6) (qv vi)) an)))))
  (sc (bc (PW.pt (gG (gf rfl hr (qv (bH rfl gX hr (ac (vn 3) (ac (et (ac (vn 4) (ac (vn 5) an))) an)))) (qn 0)) (iT (gf rfl hr (qv (bH rfl jb hr (ac (vn 2) (ac (et (ac (vn 5) an)) (ac (vn 1) an))))) (qn 7))))) (s1 (aK vb)) sn)
  (s1 (bc (gf rfl hr (qv (bH rfl jb hr (ac (vn 3) (ac (et (ac (vn 4) (ac (vn 5) an))) (ac (vn 1) an))))) (qv (ax rfl hr (qf (el (ac (et (ac vs (ac (vn 7) (ac (vn 2) an)))) (ac (et (ac vs (ac (vn 2) (ac (vn 7) an)))) an)))) (qn 4)))) (s1 (aK vb)) sn)))))))))
  (s1 (aK vb)))))),λB' xs r h=>?_⟩)
 obtain⟨x0,x1,rfl,h⟩:=h;change (_:US) (cV false r) ⟨B',[some (.val x0),some (.val x1),none,none,none,none,none,none],none⟩;obtain⟨a,q,rfl,rfl,ha,hq,rfl⟩:=h;have w1:wA (.add a a):=⟨ha.w,ha.w⟩;have w2:wA (.add (.add a a) (.add a a)):=⟨w1,w1⟩;have h1:hA (.add a a)<=50:=by have:=ha.h;simp only[hA];omega
 have h2:hA (.add (.add a a) (.add a a))<=50:=by have:=ha.h;simp only[hA];omega
 have n1:nA (.add a a)<=100000:=by have:=ha.n;simp only[nA];omega
 have n2:nA (.add (.add a a) (.add a a))<=100000:=by have:=ha.n;simp only[nA];omega
 have d1:=nV ha.d ha.d;have d2:=nV d1 d1;w_on;refine aj _ ⟨.add a a,rfl,w1,h1,n1,rfl⟩ ?_;w_on;refine aj false (eZ (HV ha.d ha.d) (by decide)) ?_;refine bp rfl ?_;w_on;refine aj _ ⟨.add (.add a a) (.add a a),rfl,w2,h2,n2,rfl⟩ ?_;w_on;refine aj false (eZ (HV d1 d1) (by decide)) ?_;refine bp rfl ?_;w_on;refine jE 2 (λi A=>∃(o4 o5 o6 o7:Option Sl),A=⟨B',[some (.val (qA a)),some (.val (qA q)),some (.val (qA (.add a a))),some (.val (qA (.add (.add a a) (.add a a)))),o4,o5,o6,o7],none⟩) ⟨_,_,_,_,rfl⟩ (λ_ _ _=>trivial) ?_ ?_
 ·rintro i A2 hi ⟨o4,o5,o6,o7,rfl⟩;w_on;refine jE 2 (λj A=>∃(o5 o6 o7:Option Sl),A=⟨B',[some (.val (qA a)),some (.val (qA q)),some (.val (qA (.add a a))),some (.val (qA (.add (.add a a) (.add a a)))),some (.val (.int (i:Nat))),o5,o6,o7],none⟩) ⟨_,_,_,rfl⟩ (λ_ _ _=>trivial) ?_ ?_
  ·rintro j A3 hj ⟨o5,o6,o7,rfl⟩
   have e1:apart (.add (.add a a) (.add a a)) [i,j]=some a:=by
    have ie:i=0\/i=1:=by omega
    have gM:j=0\/j=1:=by omega
    rcases ie with rfl|rfl<;>rcases gM with rfl|rfl<;>rfl
   have e2:apart (.add a a) [j]=some a:=by
    have gM:j=0\/j=1:=by omega
    rcases gM with rfl|rfl<;>rfl
   have e3:c5 (.add a a) [j] q=l7 a q j:=by
    have gM:j=0\/j=1:=by omega
    rcases gM with rfl|rfl<;>rfl
   have e4:c5 (.add (.add a a) (.add a a)) [i,j] q=if i=0 then .add (l7 a q j) (.add a a) else .add (.add a a) (l7 a q j):=by
    have ie:i=0\/i=1:=by omega
    have gM:j=0\/j=1:=by omega
    rcases ie with rfl|rfl<;>rcases gM with rfl|rfl<;>rfl
   obtain⟨s0,s1,es,e5⟩:∃ s0 s1:PV,[qA a,qA a].set j (qA q)=[s0,s1]/\PV.tup [.str "add",s0,s1]=qA (l7 a q j):=by
    have gM:j=0\/j=1:=by omega
    rcases gM with rfl|rfl<;>exact⟨_,_,rfl,rfl⟩
   have wi:wA (l7 a q j)/\Dp 41 (qA (l7 a q j)):=by
    unfold l7
    split
    ·exact⟨⟨hq.w,ha.w⟩,nV hq.d ha.d⟩
    ·exact⟨⟨ha.w,hq.w⟩,nV ha.d hq.d⟩
   w_on;intro pa;refine⟨[qA a,qA a],j,rfl,rfl,by simp;omega,?_⟩;rw[es];w_on;rw[e5];refine aj _ (p9 (wy:=[i,j]) w2 h2 n2 (by show 2<=100;decide) e1) ?_;w_on;refine aj false (eZ ha.d (by decide)) ?_;refine bp rfl ?_;w_on;refine aj _ ⟨.add a a,a,q,[j],rfl,rfl,rfl,w1,h1,n1,by show 1<=100;decide,e2,rfl⟩ ?_;rw[e3];w_on;refine aj false (eZ wi.2 (by decide)) ?_;refine bp rfl ?_;w_on;refine aj _ ⟨.add (.add a a) (.add a a),a,q,[i,j],rfl,rfl,rfl,w2,h2,n2,by show 2<=100;decide,e1,rfl⟩ ?_;rw[e4];w_on;have ie:i=0\/i=1:=by omega
   rcases ie with rfl|rfl
   ·rw[if_pos rfl];refine aj _ Gf ?_;w_on;refine aj false (eZ (nV wi.2 d1) (by decide)) ?_;refine bp rfl ?_;w_on;exact⟨_,_,_,rfl⟩
   ·rw[if_neg (by decide)];refine aj _ Gg ?_;w_on;refine aj false (eZ (nV d1 wi.2) (by decide)) ?_;refine bp rfl ?_;w_on;exact⟨_,_,_,rfl⟩
  ·rintro A3 ⟨o5,o6,o7,rfl⟩;exact⟨_,_,_,_,rfl⟩
 ·rintro A2 ⟨o4,o5,o6,o7,rfl⟩;w_on
theorem zm:bw ["_law_words","_law_somes_here","_law_found"] ["_law_words","_law_somes_here"] (aW wW):=by walk_at "s"
theorem WB {k:Nat}(D:Df K mg "_law_joined" wW)(B:Bt mg):Kn P w K mg base (k+1) "_law_joined" (aX K false (cB rJoin)):=by
 refine D.dN zm (λ_ _ _ _ _ _=>fc λ_ _=>rfl) (λ_ _=>cB.len) (by decide) (λf aE A outer s H E hr=>⟨_,(sc (a9 (i:=2) zm.nd (et (ac (ax rfl hr (qn 0) (qv vi)) (ac (ax rfl hr (qn 1) (qv vi)) (ac (ax rfl hr (qn 1) (qv vi)) an)))))
  (sc (bc (lI (qv (fG rfl B.len (qn 1))) (qv vi)) (s1 (a9 (i:=2) zm.nd (et (ac (ax rfl hr (qn 0) (qv vi)) (ac (vn 2) (ac (et (ac vs (ac (ax rfl hr (qn 1) (qv vi)) an))) an)))))) sn)
  (s1 (aK (vn 2))))),λB' xs r h=>?_⟩)
 obtain⟨x0,x1,rfl,h⟩:=h;change (_:US) (cV false r) ⟨B',[some (.val x0),some (.val x1),none],none⟩;obtain⟨w0,w1,l,rfl,rfl,hl,rfl⟩:=h
 match l,hl with
 |[s0,s1],_=>
  simp only[map_cons,map_nil,jn,qC];w_on;refine bp (by decide) ?_;w_on
 |[s0,s1,s2],_=>
  simp only[map_cons,map_nil,jn,qC];w_on;refine cI (by decide) ?_;w_on
theorem p_:bw ["_law_words","_law_ask_here","_law_q","_law_other","_law_many_here","_law_some","_law_whole","_law_k","_law_others"] ["_law_words","_law_ask_here","_law_q","_law_other","_law_many_here"] (aW wX):=by walk_at "s"
theorem WC {k:Nat}(D:Df K mg "_law_somes_right" wX)(B:Bt mg)(zo:Kn P w K mg base k "_law_joined" (aX K false (cB rJoin)))(iE:Kn P w K mg base k "children" (aX K true (bX t9)))(jb:Kn P w K mg base k "with_part" (aX K false (dz t_)))(gX:Kn P w K mg base k "part_at" (aX K false (cB nR))):Kn P w K mg base (k+1) "_law_somes_right" (aX K false (lT HY)):=by
 refine D.dN p_ (λ_ _ _ _ _ _=>Na λ_ _ _ _ _=>rfl) (λ_ _=>lT.len) (by decide) (λf aE A outer s H E hr=>⟨_,(sc (a9 (i:=5) p_.nd (et (ac vs (ac (vn 2) (ac (et (ac vs an)) an)))))
  (sc (a9 (i:=6) p_.nd (et (ac vs (ac (vn 1) (ac (bH rfl zo hr (ac (vn 0) (ac (vf (yF (qf (el (ac (vn 5) an))) (qn 4))) an))) an)))))
  (sc (bc (yI rfl hr (vf (jz rfl iE hr (ac (vn 6) an))) (qf (mS (qf (el (ac (vn 1) an))) (qf (yF (qf (el (ac (vn 2) an))) (qn 4)))))) (s1 (aK vb)) sn)
  (sc (eS PassesOwn.never rfl (iW (by rfl) B.range (vn 4)) (aQ (i:=7) p_.nd)
  (sc (eQ (i:=8) p_.nd (yF (qf (el (ac (vn 5) an))) (qn 4)))
  (sc (GF 8 (et (ac vs (ac (vn 3) (ac (et (ac vs an)) an)))) (vn 7))
  (sc (bc (yI rfl hr (bH rfl jb hr (ac (vn 6) (ac (et (ac (bR rfl (qv vi) (qn 7)) an)) (ac (vn 3) an)))) (qv (et (ac vs (ac (vn 1) (ac (bH rfl zo hr (ac (vn 0) (ac (vn 8) an))) an)))))) (s1 (aK vb)) sn)
  (s1 (bc (yI rfl hr (bH rfl gX hr (ac (vn 6) (ac (et (ac (bR rfl (qv vi) (qn 7)) an)) an))) (qn 2)) (s1 (aK vb)) sn))))))
  (s1 (aK vb)))))),λB' xs r h=>?_⟩)
 obtain⟨x0,x1,x2,x3,x4,rfl,h⟩:=h;change (_:US) (cV false r) ⟨B',[some (.val x0),some (.val x1),some (.val x2),some (.val x3),some (.val x4),none,none,none,none],none⟩;obtain⟨w0,w1,a,q,o,m,rfl,h0,h1,rfl,rfl,rfl,rfl,hm,ha,hq,ho,rfl⟩:=h;w_on;refine⟨by omega,by omega,by show 1*_<=_;omega,?_⟩;rw[Int.toNat_natCast,um,<- HX,<- map_replicate];have hr:∀ c∈replicate m (sm q),Sk c:=λc hc=>by rw[(mem_replicate.mp hc).2];exact H_ hq
 have hl:(replicate m (sm q)).length=m:=length_replicate ..;obtain⟨j1,j2,j3,j4⟩:=Ia h0 h1 (by rw[hl];exact hm) hr;have ww:wA (.pick a (jn w0 w1 (replicate m (sm q)))):=⟨ha.w,j1⟩;have hh:hA (.pick a (jn w0 w1 (replicate m (sm q))))<=50:=by have:=ha.h;simp only[hA];omega
 have nn:nA (.pick a (jn w0 w1 (replicate m (sm q))))<=100000:=by have:=ha.n;simp only[nA];omega
 have dk:Dp 41 (.lst ((a::replicate m q).map qA)):=iy λx hx=>by
  rw[map_cons] at hx;rcases mem_cons.mp hx with e|e
  ·rw[e];exact ha.d
  ·obtain⟨k,hk,rfl⟩:=mem_map.mp e;rw[(mem_replicate.mp hk).2];exact hq.d
 refine aj _ ⟨w0,w1,replicate m (sm q),rfl,rfl,by rw[hl];exact hm,rfl⟩ ?_;w_on;refine aj _ ⟨.pick a (jn w0 w1 (replicate m (sm q))),rfl,ww,hh,nn,rfl⟩ ?_;rw[Ib hm];w_on;refine⟨by omega,by omega,by show 1*_<=_;omega,?_⟩;rw[Int.toNat_natCast,um,<- map_replicate];refine⟨by rw[length_map,length_replicate];omega,aj false (eZ dk (by decide)) ?_⟩;refine bp rfl ?_;w_on;refine⟨by omega,by omega,?_⟩;rw[Int.toNat_natCast];refine jE m (λi A=>∃(o7 o8:Option Sl),A=⟨B',[some (.val (.lst [.str w0,.str w1])),some (.val (qA a)),some (.val (qA q)),some (.val (qA o)),some (.val (.int (m:Nat))),some (.val (qC (sm q))),some (.val (qA (.pick a (jn w0 w1 (replicate m (sm q)))))),o7,o8],none⟩) ⟨_,_,rfl⟩ (λ_ _ _=>trivial) ?_ ?_
 ·rintro k A2 hk ⟨o7,o8,rfl⟩
  have hs:∀ c∈(replicate m (sm q)).set k (sm o),Sk c:=λc hc=>by
   rcases mem_or_eq_of_mem_set hc with e|e
   ·exact hr c e
   ·rw[e];exact H_ ho
  have sl:((replicate m (sm q)).set k (sm o)).length=m:=by rw[length_set,hl]
  obtain⟨_,_,_,d4⟩:=Ia h0 h1 (l:=(replicate m (sm q)).set k (sm o)) (by rw[sl];exact hm) hs;have dd:Dp 44 (qA (.pick a (jn w0 w1 ((replicate m (sm q)).set k (sm o))))):=uq (ha.d.mono (by decide)) d4;w_on;refine⟨by omega,by omega,by show 1*_<=_;omega,?_⟩;rw[Int.toNat_natCast,um];intro pa;refine⟨replicate m (qC (sm q)),k,rfl,rfl,by rw[length_replicate];exact hk,?_⟩;rw[<- HX o,<- map_replicate (f:=qC),<- map_set];have e1:(1:Int)+(k:Nat)=((1+k:Nat):Int):=by omega
  w_on;rw[e1];refine aj _ ⟨_,q,o,[1+k],rfl,rfl,rfl,ww,hh,nn,by show 1<=100;decide,Ic hm hk,rfl⟩ ?_;rw[Wz hm hk];w_on;refine aj _ ⟨w0,w1,_,rfl,rfl,by rw[sl];exact hm,rfl⟩ ?_;w_on;refine aj false (eZ dd (by decide)) ?_;refine bp rfl ?_;w_on;rw[e1];refine aj _ (p9 (wy:=[1+k]) ww hh nn (by show 1<=100;decide) (Ic hm hk)) ?_;w_on;refine aj false (eZ hq.d (by decide)) ?_;refine bp rfl ?_;w_on;exact⟨_,_,rfl⟩
 ·rintro A2 ⟨o7,o8,rfl⟩;w_on
end
theorem gQ.gk {d b:Nat}{a:Ak}(h:gQ d b a)(hd:d<=40)(hb:b<20000):Gk a:=
 ⟨h.w,bU (i8 a) (bU h.t.e hd),by have:=ku a;have:=h.t.c;omega,h.t.q.mono hd⟩
theorem WD {a p:Ak}{wy:List Nat}(h:Gk a)(g:apart a wy=some p):Gk p:=by
 obtain⟨q1,q2,q3⟩:=zc h.w g;have:=h.h;have:=h.n;obtain⟨L,l1,_⟩:=tY h.w (by omega) g;exact⟨q1,by omega,by omega,zd l1 h.d⟩
theorem WE {a p:Ak}{wy:List Nat}(h:Gk a)(g:apart a wy=some p):qA (c5 a wy p)=qA a:=by
 have:=h.n;obtain⟨L,l1,_,l3⟩:=tY h.w (by omega) g;rw[<- l3,Ho l1]
theorem Ie {a p:Ak}{wy:List Nat}{x:PV}{r:ai}(h:Gk a)(g:apart a wy=some p)(hl:wy.length<=90)(hr:r.length<=5)(ok:nP x)(WG:∀ y∈r,nP y)(hx:∀ i:Int,x=.int i->i<0\/(kids p).length<=i):nR (qA a) (.tup ((wy.map λi=>PV.int (i:Nat))++x::r)) .non:=by
 have:=h.h;have:=h.n;refine⟨a,_,rfl,rfl,h.w,by omega,by omega,by rw[length_append,length_map,length_cons];omega,λy hy=>?_,by rw[Hs g hx];rfl⟩;rcases mem_append.mp hy with e|e
 ·obtain⟨i,_,rfl⟩:=mem_map.mp e;trivial
 ·rcases mem_cons.mp e with e|e
  ·rw[e];exact ok
  ·exact WG y e
theorem is_tup (a:Ak):lK .tuple (qA a)=some true:=by cases a<;>rfl
section
variable {P:Program}{w:World}{K:Frag}{mg:aZ}{base:Heap}
def ur (K:Frag):Sp:=λvs H Q _=>∃(a:Addr)(ns:List Int),vs=[.ref a]/\mB H/\aO K H a (ns.map V.int)/\ns.length<=63/\∀ H',Q (.bl true) H'
theorem dX:bw ["_law_script","_law_state","_law_frame","_law_book","_law_ask_here","_law_cols","_law_size","_law_other","_law_way_here","_law_part_here","_law_kept","_law_step","_law_words","_law_q","_law_many_here","_law_made"] ["_law_script"] (aW lh):=by walk_at "s"
theorem WH {k:Nat}{f:Addr}{fd:FuncData}(F:fB K "law" "law" lh f fd)(B:Bt mg)(Be:Kn P w K mg base k "_law_begin" (w9 K))(Ig:Kn P w K mg base k "_law_world" (spS K false (gL HL)))(dh:Kn P w K mg base k "_law_ask" (spS K false (cZ (jH 10))))(Ih:Kn P w K mg base k "_law_way" (spS K false (bP HS)))(qa:Kn P w K mg base k "_law_part" (spS K false (bP oD)))(jb:Kn P w K mg base k "with_part" (aX K false (dz t_)))(aY:Kn P w K mg base k "_law_take" (spS K false (bP eM)))(Ii:Kn P w K mg base k "_law_along" (aX K false (cB HU)))(gX:Kn P w K mg base k "part_at" (aX K false (cB nR)))(eN:Kn P w K mg base k "_law_children" (aX K false (bX nF)))(nH:Kn P w K mg base k "_law_many" (aX K false (bX (tS 50))))(Ij:Kn P w K mg base k "_law_twice_right" (aX K false (cB HW)))(Ik:Kn P w K mg base k "_law_somes_right" (aX K false (lT HY)))(pR:Kn P w K mg base k "_law_with" (aX K false (dz (tZ 8)))):cT P w K mg base dq (k+1) f fd ["_law_script"] (ur K):=by
 refine F.ok dX (λvs H Q E h=>by obtain⟨a,ns,rfl,_⟩:=h;rfl) (λaE A outer s H vs Q E hr h=>?_);obtain⟨a,ns,rfl,hO,hS,hl,q⟩:=h;obtain⟨bf,bd,ZI,bF,bb,bk,bm⟩:=Be.ex
 refine⟨_,eO (gu (i:=1) dX.nd rfl (by first|exact Or.inl rfl|exact Or.inr rfl) (kZ bF hr rfl bm bk bb .nil k_ (b7 (pv 0) cN))) (sc (eV (aN rfl Ig hr (ac (vn 1) an)) (dW (n:=2) rfl rfl (bj (aQ (i:=2) dX.nd) (bj (aQ (i:=3) dX.nd) dU))))
  (sc (eV (aN rfl dh hr (ac (vn 1) (ac (vn 2) (ac vi an)))) (dW (n:=3) rfl rfl (bj (aQ (i:=4) dX.nd) (bj (aQ (i:=5) dX.nd) (bj (aQ (i:=6) dX.nd) dU)))))
  (sc (eV (aN rfl dh hr (ac (vn 1) (ac (vn 2) (ac vi an)))) (dW (n:=3) rfl rfl (bj (aQ (i:=7) dX.nd) (bj (aQ (i:=5) dX.nd) (bj (aQ (i:=6) dX.nd) dU)))))
  (sc (eV (aN rfl Ih hr (ac (vn 1) (ac (vn 4) an))) (dW (n:=2) rfl rfl (bj (aQ (i:=8) dX.nd) (bj (aQ (i:=9) dX.nd) dU))))
  (sc (a9 (i:=10) dX.nd (GP rfl hr B.repr (qf (el (ac (vn 4) (ac (vn 7) an))))))
  (sc (bc (PW.pt (gG (j_ (ka rfl (qv (bH rfl Ii hr (ac (vn 4) (ac (vn 8) an)))))) (gG (gf rfl hr (qv (bH rfl gX hr (ac (vn 4) (ac (vn 8) an)))) (qn 9)) (iT (gf rfl hr (qv (bH rfl gX hr (ac (vn 4) (ac (et an) an)))) (qn 4)))))) (s1 (aK vb)) sn)
  (sc (eS PassesOwn.never rfl (iv rfl (et (ac (fG rfl B.len (qv (bH rfl eN hr (ac (vn 9) an)))) (ac (lM vi) (ac (bR rfl (qv (fG rfl B.len (qv (bH rfl eN hr (ac (vn 9) an))))) (qv vi)) (ac vb an)))))) (aQ (i:=11) dX.nd)
  (s1 (bc (PW.pt (gG (Fw (qv (bH rfl gX hr (ac (vn 4) (ac (bR rfl (qn 8) (qv (et (ac (vn 11) an)))) an)))) (qv v0)) (iT (Fw (qv (bH rfl gX hr (ac (vn 4) (ac (bR rfl (qn 8) (qv (et (ac (vn 11) (ac vi an))))) an)))) (qv v0))))) (s1 (aK vb)) sn)))
  (sc (se (i:=12) dX.nd (N:=["_law_k","_law_state"]) (k:=1) (ix:=[1]) cS rfl (iW (by rfl) B.range vi) (λ_ _ _ _=>(aQ (i:=0) (by show(["_law_k","_law_state"]:aq).Nodup;decide +kernel))) (λ_ _ _ _=>kg) (λ_ _ _ _=>(ax rfl hr (qf (el (ac vs (ac vs an)))) (qv (aN rfl aY hr (ac (vn 1) (ac vi an)))))))
  (sc (eV (aN rfl qa hr (ac (vn 1) (ac (vn 2) an))) (dW (n:=3) rfl rfl (bj (aQ (i:=13) dX.nd) (bj (aQ (i:=5) dX.nd) (bj (aQ (i:=6) dX.nd) dU)))))
  (sc (bc (PW.pt (iq (mW (qv (bH rfl nH hr (ac (vn 9) an))) (qv vi)) (ju (j_ (ka rfl (qv (bH rfl Ij hr (ac (vn 9) (ac (vn 7) an))))))))) (s1 (aK vb)) sn)
  (sc (a9 (i:=14) dX.nd (bR rfl (qv vi) (qv (aN rfl aY hr (ac (vn 1) (ac vi an))))))
  (sc (bc (PW.pt (iq (mW (qv (bR rfl (qv (bH rfl nH hr (ac (vn 4) an))) (qn 14))) (qv vi)) (ju (j_ (ka rfl (qv (bH rfl Ik hr (ac (vn 12) (ac (vn 4) (ac (vn 13) (ac (vn 7) (ac (vn 14) an)))))))))))) (s1 (aK vb)) sn)
  (sc (a9 (i:=15) dX.nd (bH rfl jb hr (ac (vn 4) (ac (vn 8) (ac (vn 7) an)))))
  (sc (bc (PW.pt (gG (j_ (ka rfl (qv (pf .tuple rfl B.isinstance B.tuple PyProof.Rows.boot_tuple (qn 15))))) (gG (gf rfl hr (qn 15) (qv (bH rfl pR hr (ac (vn 4) (ac (vn 8) (ac (vn 7) an)))))) (iT (gf rfl hr (qv (bH rfl gX hr (ac (vn 15) (ac (vn 8) an)))) (qn 7)))))) (s1 (aK vb)) sn)
  (s1 (aK (xx (lH rfl hr (qv (bH rfl jb hr (ac (vn 4) (ac (vn 8) (ac (vn 9) an))))) (qn 4)) (xw (lH rfl hr (qv (GP rfl hr B.repr (qf (el (ac (vn 4) (ac (vn 7) an)))))) (qn 10)))))))))))))))))))),?_⟩
 refine⟨_,rfl,a,rfl,⟨ns,hS,hl⟩,λd D H1 ZJ Wo S1 s1=>?_⟩;refine TX hO hS hl S1 s1 14 ?_ q;change (_:US) tu ⟨λb=>b=d,[some (.val (.raw (.ref a))),some (.val (.raw (.ref d))),none,none,none,none,none,none,none,none,none,none,none,none,none,none],some ⟨d,a,10,D⟩⟩;have W':dv D:=Wo;w_on;refine⟨W',(by show 10<=1000;decide),λfr y fm F cb=>?_⟩;obtain⟨m1,bt,rfl⟩:=cb;have fq:m1<=50:=bt;clear bt;w_on;refine⟨3,by decide,by decide,F,rfl,W',(by show m1+1200<=80000;omega),λak k2 s2 cW A2 Il ne2 Im Io cJ=>?_⟩;obtain⟨m2,gU,gW,a_,rfl⟩:=cJ;have fT:m2<=m1+1200:=a_;clear a_;simp only[ag.d,ag.a,ag.b];w_on;refine⟨1,by decide,by decide,F,rfl,W',(by show m2+200<=80000;omega),λo k3 s3 gw A3 ZK ne3 ZL ZM gi=>?_⟩;obtain⟨m3,qb,qc,dD,rfl⟩:=gi;have nE:m3<=m2+200:=dD;clear dD;simp only[ag.d,ag.a,ag.b];have ga:=A2.gk (by decide) (by decide);have go:=A3.gk (by decide) (by decide);have ZN:=ga.h;have ZO:=ga.n;have ZP:=go.h;have ZQ:hA ak<=10:=bU (i8 ak) A2.t.e;have ZR:hA o<=6:=bU (i8 o) A3.t.e;have go2:=go.n;have tm:Tm 11 12000 (.lst [qA ak,qA o]):=(VB (dB A2.t (dB (A3.t.mono (by decide:dA 1<=dA 3) (ar _)) (i7 (b:=0))))).mono (by decide) (by decide);w_on;refine⟨ak,rfl,ga.w,by omega,by omega,ga.d,(by show m3<=80000;omega),λwy p rn hp wl zp=>?_⟩;obtain⟨m4,l6,rfl⟩:=zp;have WI:m4<=m3+7:=l6;clear l6;have gp:=WD ga hp;have ZS:=gp.h;have ZT:=gp.n;w_on;refine aj _ (G7 tm (by decide) (by decide)) ?_;w_on;refine aj _ ⟨ak,p,wy,rfl,rfl,ga.w,by omega,by omega,ga.d,hp,by omega,rfl⟩ ?_;w_on;refine aj _ (p9 ga.w (by omega) (by omega) (by omega) hp) ?_;w_on;refine aj false (eZ gp.d (by decide)) ?_;refine bp rfl ?_;w_on;refine aj _ (p9 (wy:=[]) ga.w (by omega) (by omega) (by decide) rfl) ?_;w_on;refine aj false (eZ ga.d (by decide)) ?_;refine bp rfl ?_;w_on;refine aj _ ⟨p,rfl,gp.w,by omega,by omega,rfl⟩ ?_;w_on;refine aj _ ⟨p,rfl,gp.w,by omega,by omega,rfl⟩ ?_;w_on
 have Ip:∀ x∈[PV.int ((kids p).map qA).length,PV.int (-1),PV.int (((kids p).map qA).length+5),PV.bl true],nP x/\∀ i:Int,x=.int i->i<0\/((kids p).length:Int)<=i:=by
  intro x hx;rw[length_map] at hx;simp only[mem_cons,not_mem_nil,or_false] at hx;rcases hx with rfl|rfl|rfl|rfl
  ·exact⟨trivial,λi e=>by injection e with e;omega⟩
  ·exact⟨trivial,λi e=>by injection e with e;omega⟩
  ·exact⟨trivial,λi e=>by injection e with e;omega⟩
  ·exact⟨trivial,λi e=>by cases e⟩
 generalize [PV.int ((kids p).map qA).length,PV.int (-1),PV.int (((kids p).map qA).length+5),PV.bl true]=Ls at Ip;rw[show fF Ls=fF (Ls.map id) by rw[map_id]];generalize vD:(toD (PV.lst [qA ak,qA o])).shown=sh;refine gh Ls id (λdd A=>∃ l9:Option Sl,A=⟨λb=>b=d,[some (.val (.raw (.ref a))),some (.val (.raw (.ref d))),some (.val fr),some (.val y),some (.val (qA ak)),some (.val (.ah k3)),some (.val (.int s3)),some (.val (qA o)),some (.val (qW wy)),some (.val (qA p)),some (.val (.str sh)),l9,none,none,none,none],some ⟨d,a,m4,{ nm:=qb,pt:=qc,x:=D.x,z:=D.z,y:=D.y,tb:=D.tb }⟩⟩) ⟨_,rfl⟩ (λ_ _ _=>trivial) ?_ ?_
 ·rintro dd x r A4 e ⟨l9,rfl⟩;obtain⟨Iq,bad⟩:=Ip x (by rw[e];simp);have mw:(wy.map λi=>PV.int (i:Nat)).length=wy.length:=length_map ..;simp only[id,qW];w_on;refine⟨by omega,aj _ (Ie (r:=[]) ga hp (by omega) (by decide) Iq (λ_ h=>by cases h) bad) ?_⟩;w_on;refine⟨by omega,aj _ (Ie (r:=[.int 0]) ga hp (by omega) (by decide) Iq (λy h=>by rw[mem_singleton.mp h];trivial) bad) ?_⟩;w_on;exact⟨_,rfl⟩
 ·rintro A4 ⟨l9,rfl⟩;w_on;refine TU 2 (λi ys S=>∃(zs:aq)(m:Nat),ys=zs.map PV.str/\zs.length=i/\(∀ z∈zs,z∈H3)/\S=some ⟨d,a,m,{ nm:=qb,pt:=qc,x:=D.x,z:=D.z,y:=D.y,tb:=D.tb }⟩/\m<=m4+i) (by decide) ⟨[],m4,rfl,rfl,(λ_ h=>by cases h),rfl,ar _⟩ ?_ ?_
  ·rintro B i ys S hi ⟨zs,m,rfl,zl,hz,rfl,hm⟩ R hR;w_on;refine draw (by omega) (by decide) (by decide) λv v0 v1=>?_;w_on;refine ef v0 (by simpa using v1) λx hx=>?_
   have wx:∃ t:Str,x=.str t/\t∈H3:=by
    simp only[mem_cons,not_mem_nil,or_false] at hx;rcases hx with rfl|rfl<;>exact⟨_,rfl,by decide⟩
   obtain⟨t,rfl,ht⟩:=wx;refine hR _ _ ⟨rfl,rfl⟩ ⟨zs++[t],m+1,by rw[map_append];rfl,by rw[length_append,length_singleton];omega,λz eh=>?_,rfl,by omega⟩;rcases mem_append.mp eh with e|e
   ·exact hz z e
   ·rw[mem_singleton.mp e];exact ht
  rintro ys S ⟨zs,m5,rfl,zl,hz,rfl,p7⟩
  obtain⟨w0,w1,rfl⟩:∃ w0 w1,zs=[w0,w1]:=by
   match zs,zl with
   |[w0,w1],_=>exact⟨w0,w1,rfl⟩
  have WJ:=hz w0 (by simp);have WK:=hz w1 (by simp);simp only[map_cons,map_nil];w_on;refine⟨F,W',(by show m5<=90000;omega),λu v5 k6 WL hu hv ZU ZV zq=>?_⟩;obtain⟨m6,ZW,ZX,qd,rfl⟩:=zq;have WM:m6<=m5+1:=qd;clear qd;simp only[ag.d,ag.a,ag.b];have gq:Gk (.tab u v5):=(yV hu hv).gk (by decide) (by decide);w_on;refine aj _ ⟨p,rfl,gp.w,by omega,by omega,by omega,rfl⟩ ?_;w_on;have aw:=Hu ga.w go.w hp
  have WN:Dp 80 (qA (c5 ak wy o)):=by
   obtain⟨L,l1,_,l3⟩:=tY ga.w (by omega) hp;rw[<- l3];exact Hq l1 ga.d go.d
  refine lW ?_ λe tl=>?_
  ·w_on;refine draw (by omega) (by decide) (by decide) λv v0 v1=>?_;obtain⟨mm,em,WO⟩:∃ mm:Nat,2+v=((mm:Nat):Int)/\(mm=2\/mm=3):=⟨(2+v).toNat,by omega,by omega⟩;w_on;rw[em];refine aj _ ⟨ak,rfl,ga.w,by omega,by omega,by omega,rfl⟩ ?_;w_on;refine lW ?_ λe tl=>?_
   ·w_on;refine aj _ ⟨ak,p,o,wy,rfl,rfl,rfl,ga.w,by omega,by omega,by omega,hp,rfl⟩ ?_;w_on;refine aj true (is_tup _) ?_;w_on;refine aj _ ⟨ak,wy,o,p,rfl,rfl,rfl,ga.w,by omega,by omega,hp,by omega,by omega,rfl⟩ ?_;w_on;refine aj false (eZ WN (by decide)) ?_;refine bp rfl ?_;w_on;refine aj _ (p9 aw.1 (by omega) (by omega) (by omega) (Ht hp)) ?_;w_on;refine aj false (eZ go.d (by decide)) ?_;refine bp rfl ?_;w_on;refine aj _ ⟨ak,p,p,wy,rfl,rfl,rfl,ga.w,by omega,by omega,by omega,hp,rfl⟩ ?_;rw[WE ga hp];w_on;refine aj (.bl true) (eZ ga.d (by decide)) ?_;refine aj true rfl ?_;refine cI rfl ?_;w_on;refine aj _ (G7 tm (by decide) (by decide)) ?_;rw[vD];w_on;exact beq_self_eq_true sh
   ·w_on;refine aj _ ⟨w0,w1,ak,.tab u v5,o,mm,rfl,WJ,WK,rfl,rfl,rfl,rfl,WO,ga,gq,go,rfl⟩ ?_;revert tl;w_on;exact id
  ·w_on;refine aj _ ⟨p,o,rfl,rfl,gp,go,rfl⟩ ?_;revert tl;w_on;exact id
end
def Ir (x:PV)(st:ag)(Q:PV->ag->Prop):Prop:=∃ kvs,x=.ah kvs/\DD 30 kvs/\st.n<=80000/\∀(r:PV)(st':ag),Tm 2 150 r->Nx st 10 st'->Q r st'
def Iu (deep c:Nat)(st:ag)(Q:PV->ag->Prop):Prop:=∀(a:Ak)(kvs:aS)(s:Int)(st':ag),gQ (dA deep) (bA deep) a->DD (cA deep) kvs->kvs≠[]->0<=s->s<=zA deep->Nz st c st'->Q (.tup [qA a,.ah kvs,.int s]) st'
def iI (m:Nat)(x y:PV)(st:ag)(Q:PV->ag->Prop):Prop:=∃ d:Nat,d<=2/\max (lA d) 2+1<=m/\lV x/\y=.int d/\dv st.b/\st.n+gA (d+1)<=80001/\Iu (d+1) (gA (d+1)-1) st Q
theorem WQ {M:ai}{u:Int}(h0:0<=u)(h1:u<=M.length):∀ y∈cH M (some u) none++cH M none (some u),y∈M:=by
 rw[iz h0 h1,tq h0 h1];intro y hy;rcases mem_append.mp hy with e|e
 ·exact mem_of_mem_drop e
 ·exact mem_of_mem_take e
theorem WR {M:ai}{u:Int}(h0:0<=u)(h1:u<=M.length):(cH M (some u) none).length+(cH M none (some u)).length=M.length:=by
 rw[iz h0 h1,tq h0 h1,length_drop,length_take];omega
theorem kJ {d b:Nat}{M:ai}{x:PV}(h:∀ y∈M,Tm d b y)(hx:Tm d b x):∀ y∈M++[x],Tm d b y:=λy hy=>by
 rcases mem_append.mp hy with e|e
 ·exact h y e
 ·rw[mem_singleton.mp e];exact hx
section
variable {P:Program}{w:World}{K:Frag}{mg:aZ}{base:Heap}
theorem uu:bw ["_law_state","_law_cols","_law_left","_law_keys_here","_law_k"] ["_law_state","_law_cols"] (aW wI):=by walk_at "s"
theorem WS {k:Nat}(D:Df K mg "_law_keys" wI)(B:Bt mg)(aY:Kn P w K mg base k "_law_take" (spS K false (bP eM))):Kn P w K mg base (k+1) "_law_keys" (spS K false (bP Ir)):=by
 refine D.eK uu (λ_ _ _ _ _ _=>fc λ_ _=>rfl) (λ_ _ _=>bP.len) (by decide) (λf aE A outer s H E hr=>⟨_,(sc (eQ (i:=2) uu.nd (pF rfl rfl B.sorted (qn 1)))
  (sc (eQ (i:=3) uu.nd (el an))
  (sc (eS PassesOwn.never rfl (iW (by rfl) B.range (tw rfl B.min (qv (fG rfl B.len (qn 2))) (qv (aN rfl aY hr (ac (vn 0) (ac vi an)))))) (aQ (i:=4) uu.nd)
  (s1 (eR (fQ rfl 3 (et (ac (TY rfl 2 (aN rfl aY hr (ac (vn 0) (ac (fG rfl B.len (qn 2)) an)))) (ac (ax rfl hr (qf (el (ac vs (ac vs an)))) (qv (aN rfl aY hr (ac (vn 0) (ac vi an))))) an)))))))
  (s1 (aK (ko rfl B.tuple (qn 3))))))),λB' xs st Q h=>?_⟩)
 obtain⟨x1,rfl,h⟩:=h;change (_:US) (dM false Q) ⟨B',[some (.val (.raw (.ref st.d))),some (.val x1),none,none,none],some st⟩;obtain⟨kvs,rfl,ok,hn,h⟩:=h;obtain⟨d,a,n,D⟩:=st;have fw:n<=80000:=hn;clear hn;obtain⟨zs,ek,el,hz⟩:=lU ok;have l3:=ok.1;w_on;refine aj _ ⟨zs,ek,by omega,rfl⟩ ?_;have sl:(b9 zs).length<=30:=by rw[(d8 _).length_eq];omega
 have all:∀ z∈b9 zs,Sh z:=λz eh=>(hz z ((d8 _).mem_iff.mp eh)).2.1;generalize b9 zs=ys at sl all;w_on;intro p q;have yl:(ys.map PV.str).length=ys.length:=length_map ..
 have ya:∀ y∈ys.map PV.str,Tm 0 20 y:=λy hy=>by
  obtain⟨z,kz,rfl⟩:=mem_map.mp hy;exact d_ (all z kz)
 refine draw (by omega) (by decide) (by decide) λu u0 u1=>?_;w_on;generalize hN:(if u<((ys.map PV.str).length:Int) then u else ((ys.map PV.str).length:Int))=N;have WT:0<=N:=by rw[<- hN];split<;>omega
 have Iv:N<=ys.length:=by rw[<- hN];split<;>omega
 have WU:N<=3:=by rw[<- hN];split<;>omega
 refine⟨by omega,by omega,jE _ (λi A=>∃(L M:ai)(o:Option Sl)(m:Nat),A=⟨B',[some (.val (.raw (.ref d))),some (.val (.ah kvs)),some (.own p (.lst L)),some (.own q (.lst M)),o],some ⟨d,a,m,D⟩⟩/\L.length+i=ys.length/\M.length=i/\(∀ y∈L,Tm 0 20 y)/\(∀ y∈M,Tm 1 42 y)/\m<=n+1+2*i) ⟨ys.map PV.str,[],none,n+1,rfl,by omega,rfl,ya,(λ_ h=>by cases h),by omega⟩ (λ_ _ _=>trivial) ?_ ?_⟩
 ·rintro i _ hi ⟨L,M,o,m,rfl,hL,hM,aL,aM,hm⟩;w_on;refine draw (by omega) (by omega) (Int.lt_of_le_of_lt (b:=900) (by omega) (by decide)) λv v0 v1=>?_;w_on;have hv:v.toNat<L.length:=by omega
  refine⟨v.toNat,L[v.toNat],by rw[Int.toNat_of_nonneg v0],by omega,cf hv,?_⟩;have zr:=aL _ (getElem_mem hv);w_on;refine draw (by omega) (by decide) (by decide) λv' nW nX=>?_;w_on;refine ef nW (by simpa using nX) λx hx=>?_
  have qe:Tm 0 20 x:=by
   simp only[mem_cons,not_mem_nil,or_false] at hx;rcases hx with rfl|rfl<;>exact d_ (cD _)
  w_on;refine⟨by omega,_,_,_,_,rfl,?_,?_,λy hy=>aL y (mem_of_mem_eraseIdx hy),kJ aM ((gO (dB zr (dB qe i7))).mono (ar _) (by decide:20+1+(20+1+0)<=42)),by omega⟩
  ·rw[length_eraseIdx_of_lt hv];omega
  ·rw[length_append,hM];rfl
 ·rintro _ ⟨L,M,o,m,rfl,hL,hM,aL,aM,hm⟩;have M3:M.length<=3:=by omega
  w_on;exact h _ ⟨d,a,m,D⟩ ((gO (pK aM)).mono (ar _) (by have:M.length*(42+1)<=3*43:=Nat.mul_le_mul_right _ M3;omega)) ⟨m,(by show m<=n+10;omega),rfl⟩
end
section
variable {P:Program}{w:World}{K:Frag}{mg:aZ}{base:Heap}
variable {m₀:Nat}
theorem iF:bw ["_law_state","_law_frame","_law_deep","_law_ask_here","_law_cols","_law_size","_law_shown_here","_law_pairs","_law_name","_law_way_here","_law_word_here","_law_turn"] ["_law_state","_law_frame","_law_deep"] (aW wF):=by walk_at "s"
theorem WV {k:Nat}(D:Df K mg "_law_shown" wF)(B:Bt mg)(dh:Kn P w K mg base k "_law_ask" (spS K false (cZ (jH m₀))))(aY:Kn P w K mg base k "_law_take" (spS K false (bP eM)))(iB:Kn P w K mg base k "_law_new" (spS K false (gL pL)))(fH:Kn P w K mg base k "_law_sum" (spS K false (c0 (nD 3)))):Kn P w K mg base (k+1) "_law_shown" (spS K false (cZ (iI (m₀+1)))):=by
 refine D.eK iF (λ_ _ _ _ _ _=>fL λ_ _ _=>rfl) (λ_ _ _=>cZ.len) (by decide) (λf aE A outer s H E hr=>⟨_,(sc (eV (aN rfl dh hr (ac (vn 0) (ac (vn 1) (ac (vn 2) an)))) (dW (n:=3) rfl rfl (bj (aQ (i:=3) iF.nd) (bj (aQ (i:=4) iF.nd) (bj (aQ (i:=5) iF.nd) dU)))))
  (sc (eQ (i:=6) iF.nd FX)
  (sc (eQ (i:=7) iF.nd (el an))
  (sc (eS PassesOwn.never rfl (iv rfl (vf (pF rfl rfl B.sorted (qn 4)))) (aQ (i:=8) iF.nd)
  (sc (a9 (i:=9) iF.nd (aN rfl aY hr (ac (vn 0) (ac vi an))))
  (sc (bc (PW.pt (gG (mW (qn 9) (qv vi)) (iT (bW rfl hr (qv (UZ rfl B.len (qn 4))) (qv vi))))) (sc (eR (fQ rfl 7 (et (ac (vn 8) (ac (et (ac vs (ac (vn 8) an))) an)))))
  (s1 (yq hr 6 (ax rfl hr (qn 4) (qn 8)) (vn 8)))) sn)
  (s1 (bc (PW.pt (gG (bW rfl hr (qn 9) (qv vi)) (iT (bW rfl hr (qv (fG rfl B.len (qn 7))) (qv vi))))) (sc (a9 (i:=10) iF.nd (aN rfl iB hr (ac (vn 0) an)))
  (sc (eR (fQ rfl 7 (et (ac (vn 10) (ac (aN rfl fH hr (ac (vn 0) (ac (vn 4) (ac (ax rfl hr (qn 4) (qn 8)) (ac vi an))))) an)))))
  (s1 (yq hr 6 (ax rfl hr (qn 4) (qn 8)) (vn 10))))) sn)))))
  (sc (a9 (i:=11) iF.nd (aN rfl aY hr (ac (vn 0) (ac (fG rfl B.len (qn 7)) an))))
  (s1 (aK (et (ac (et (ac vs (ac (vn 3) (ac (ko rfl B.tuple (qf (mS (qf (FE rfl (qn 7) (gK (vn 11)) iY)) (qf (FE rfl (qn 7) iY (gK (vn 11))))))) an)))) (ac (vn 6) (ac (vn 5) an))))))))))),λB' xs st Q h=>?_⟩)
 obtain⟨x1,x2,rfl,h⟩:=h;change (_:US) (dM false Q) ⟨B',[some (.val (.raw (.ref st.d))),some (.val x1),some (.val x2),none,none,none,none,none,none,none,none,none],some st⟩;obtain⟨dp,hd2,hm,F,rfl,W,hn,h⟩:=h;obtain⟨d,a,n,D⟩:=st;have W':dv D:=W;have fw:n+gA (dp+1)<=80001:=hn;clear hn;have dS:dp=0\/dp=1\/dp=2:=by omega
 have qs:gA dp+13*cA dp+5<=gA (dp+1)/\cA dp*2=cA (dp+1)/\cA dp<=12/\bA dp+25+148*cA (dp+1)<=bA (dp+1)/\max (dA dp) 4+1<=dA (dp+1)/\zA dp<=zA (dp+1):=by rcases dS with rfl|rfl|rfl<;>decide
 obtain⟨q1,q2,q3,q4,q5,q6⟩:=qs;w_on;refine⟨dp,by omega,by omega,F,rfl,W',(by show n+gA dp<=80000;omega),λau kvs sz fm hu ok bK uv Iw cb=>?_⟩;obtain⟨m1,nm,pt,bt,rfl⟩:=cb;have fq:m1<=n+gA dp:=bt;clear bt;simp only[ag.d,ag.a,ag.b];obtain⟨zs,ek,el,hz⟩:=lU ok;have l3:=ok.1;w_on;intro p q;refine aj _ ⟨zs,ek,by omega,rfl⟩ ?_;have sl:(b9 zs).length<=cA dp:=by rw[(d8 _).length_eq];omega
 have all:∀ z∈b9 zs,i9 kvs z:=λz eh=>hz z ((d8 _).mem_iff.mp eh)
 have qg:b9 zs≠[]:=λe=>by
  have h1:=(d8 zs).length_eq;rw[e,el] at h1;exact bK (eq_nil_of_length_eq_zero h1.symm)
 generalize b9 zs=ys at sl all qg;w_on;have kD:DD 30 kvs:=ok.mono (by omega);have Hf:nS 1=12:=rfl;have e9:bS 1=125:=rfl;refine gh ys PV.str (λdd A=>∃(M:ai)(nY:aS)(o8 o9 l_:Option Sl)(m:Nat)(fu fv:Int),A=⟨B',[some (.val (.raw (.ref d))),some (.val x1),some (.val (.int (dp:Nat))),some (.val (qA au)),some (.val (.ah kvs)),some (.val (.int sz)),some (.own p (.ah nY)),some (.own q (.lst M)),o8,o9,l_,none],some ⟨d,a,m,{ nm:=fu,pt:=fv,x:=D.x,z:=D.z,y:=D.y,tb:=D.tb }⟩⟩/\DD (2*dd.length) nY/\M.length<=2*dd.length/\(M≠[]->nY≠[])/\(dd≠[]->M≠[])/\(∀ y∈M,Tm 3 147 y)/\m<=m1+13*dd.length) ⟨[],[],none,none,none,m1,nm,pt,rfl,⟨ar _,λ_ h=>by cases h⟩,ar _,(λh=>absurd rfl h),(λh=>absurd rfl h),(λ_ h=>by cases h),by omega⟩ (λ_ _ _=>trivial) ?_ ?_
 ·rintro dd x r A2 e ⟨M,nY,o8,o9,l_,m,fu,fv,rfl,hD,hM,zt,_,aM,hm⟩;have hx:i9 kvs x:=all x (by rw[e];simp);have WW:dd.length+1<=cA dp:=by rw[e,length_append,length_cons] at sl;omega
  have kl:=hD.1;have ll:(dd++[x]).length=dd.length+1:=by simp
  w_on;refine draw (by omega) (by decide) (by decide) λu u0 u1=>?_;w_on;have tc:Tm 3 147 (.tup [.str x,.tup [.str "column",.str x]]):=(gR hx.2.1 (gR (d:=0) (cD _) (d_ hx.2.1))).mono (by decide) (by decide);have pp:=hD.put hx.2.1 hx.2.2;have ZY:=pp.1.1;refine bL (λe1=>?_) λe1=>?_
  ·w_on;refine⟨by omega,aj _ hx.1 ?_⟩;w_on;refine⟨by omega,bp ?_ ?_⟩
   ·have:=of_decide_eq_true e1;simp;omega
   w_on;refine bp (by simp;omega) ?_;w_on;exact⟨_,_,_,_,_,_,_,_,rfl,pp.1.mono (by omega),by rw[length_append];show M.length+1<=_;omega,λ_=>pp.2,λ_ e=>by simp at e,kJ aM tc,by omega⟩
  w_on;refine bL (λe3=>?_) λe3=>?_
  ·w_on;refine⟨by omega,aj _ hx.1 ?_⟩;w_on;refine⟨by omega,bL (λe2=>?_) λe2=>?_⟩
   ·w_on;refine⟨W',λz cW iG cJ=>?_⟩;obtain⟨m2,gU,gW,a_,rfl⟩:=cJ;have fT:m2<=m+1+0:=a_;clear a_;simp only[ag.d,ag.a,ag.b];w_on;refine aj _ hx.1 ?_;w_on;refine⟨2,by decide,kvs,kd kvs x,rfl,rfl,rfl,kD,hx.2.2,(by show m2+nS 1<=90000;omega),λs1 gw iD gi=>?_⟩;obtain⟨m3,dD,rfl⟩:=gi;have nE:m3<=m2+nS 1:=dD;clear dD;have tp:Tm 3 147 (.tup [.str z,s1]):=(gR iG.sh iD).mono (ar _) (by rw[e9];decide);w_on;refine⟨by first|omega|(simp only[length_append,length_cons,length_nil,ll];omega),aj _ hx.1 ?_⟩;w_on;have p2:=pp.1.put iG.sh hx.2.2;exact⟨by first|omega|(simp only[length_append,length_cons,length_nil,ll];omega),_,_,_,_,_,_,_,_,rfl,p2.1.mono (by omega),by first|omega|(simp only[length_append,length_cons,length_nil,ll];omega),λ_=>p2.2,λ_ e=>by simp at e,kJ (kJ aM tc) tp,by omega⟩
   ·w_on;refine bp (by simp;omega) ?_;w_on;exact⟨_,_,_,_,_,_,_,_,rfl,pp.1.mono (by omega),by rw[length_append];show M.length+1<=_;omega,λ_=>pp.2,λ_ e=>by simp at e,kJ aM tc,by omega⟩
  ·w_on;refine bL (λe2=>?_) λe2=>?_
   ·w_on;refine⟨W',λz cW iG cJ=>?_⟩;obtain⟨m2,gU,gW,a_,rfl⟩:=cJ;have fT:m2<=m+1+0:=a_;clear a_;simp only[ag.d,ag.a,ag.b];w_on;refine aj _ hx.1 ?_;w_on;refine⟨2,by decide,kvs,kd kvs x,rfl,rfl,rfl,kD,hx.2.2,(by show m2+nS 1<=90000;omega),λs1 gw iD gi=>?_⟩;obtain⟨m3,dD,rfl⟩:=gi;have nE:m3<=m2+nS 1:=dD;clear dD;have tp:Tm 3 147 (.tup [.str z,s1]):=(gR iG.sh iD).mono (ar _) (by rw[e9];decide);w_on;refine⟨by first|omega|(simp only[length_append,length_cons,length_nil,ll];omega),aj _ hx.1 ?_⟩;w_on;have p2:=hD.put iG.sh hx.2.2;exact⟨by first|omega|(simp only[length_append,length_cons,length_nil,ll];omega),_,_,_,_,_,_,_,_,rfl,p2.1.mono (by omega),by first|omega|(simp only[length_append,length_cons,length_nil,ll];omega),λ_=>p2.2,λ_ e=>by simp at e,kJ aM tp,by omega⟩
   ·w_on;refine bL (λe4=>?_) λe4=>?_
    ·w_on;refine⟨W',λz cW iG cJ=>?_⟩;obtain⟨m2,gU,gW,a_,rfl⟩:=cJ;have fT:m2<=m+1+0:=a_;clear a_;simp only[ag.d,ag.a,ag.b];w_on;refine aj _ hx.1 ?_;w_on;refine⟨2,by decide,kvs,kd kvs x,rfl,rfl,rfl,kD,hx.2.2,(by show m2+nS 1<=90000;omega),λs1 gw iD gi=>?_⟩;obtain⟨m3,dD,rfl⟩:=gi;have nE:m3<=m2+nS 1:=dD;clear dD;have tp:Tm 3 147 (.tup [.str z,s1]):=(gR iG.sh iD).mono (ar _) (by rw[e9];decide);w_on;refine⟨by first|omega|(simp only[length_append,length_cons,length_nil,ll];omega),aj _ hx.1 ?_⟩;w_on;have p2:=hD.put iG.sh hx.2.2;exact⟨by first|omega|(simp only[length_append,length_cons,length_nil,ll];omega),_,_,_,_,_,_,_,_,rfl,p2.1.mono (by omega),by first|omega|(simp only[length_append,length_cons,length_nil,ll];omega),λ_=>p2.2,λ_ e=>by simp at e,kJ aM tp,by omega⟩
    ·w_on;exact⟨_,_,_,_,_,_,_,_,rfl,hD.mono (by omega),by omega,zt,(λ_ e=>by rw[e] at e4;cases e4),aM,by omega⟩
 ·rintro A2 ⟨M,nY,o8,o9,l_,m,fu,fv,rfl,hD,hM,zt,Iy,aM,hm⟩;have kl:=hD.1;have hl:0<M.length:=length_pos_iff.mpr (Iy qg);have Ml:M.length<=cA (dp+1):=by omega
  w_on;refine draw (by omega) (by omega) (Int.lt_of_le_of_lt (b:=900) (by omega) (by decide)) λu u0 u1=>?_;w_on;have cm:=WQ (M:=M) u0 (by omega);have ct:=WR (M:=M) u0 (by omega);refine⟨by omega,?_⟩;generalize hL:cH M (some u) none++cH M none (some u)=L at cm;have Ll:L.length=M.length:=by rw[<- hL,length_append];omega
  have tL:=pK (d:=3) (b:=147) λy hy=>aM y (cm y hy);have Lb:L.length*(147+1)<=cA (dp+1)*148:=Nat.mul_le_mul_right _ (by omega);exact h (.one "show" au [.tup L]) nY sz _ ⟨⟨by decide,hu.w⟩,(gS (cD _) (hu.t.mono (Nat.le_max_left _ 4) (ar _)) ((gO tL).mono (Nat.le_max_right (dA dp) 4) (ar _))).mono q5 (by omega)⟩ (hD.mono (by omega)) (zt (Iy qg)) uv (by omega) ⟨m+1,fu,fv,(by show m+1<=n+(gA (dp+1)-1);omega),rfl⟩
end
def zu (m:Nat)(x y z:PV)(st:ag)(Q:PV->ag->Prop):Prop:=∃(k1 k2:aS)(n1 n2:Nat),3<=m/\lV x/\y=.ah k1/\z=.ah k2/\DD n1 k1/\DD n2 k2/\n1+n2<=18/\dv st.b/\st.n+100<=80000/\∀(c:Cd)(st':ag),ky 5 910 c->Nz st 100 st'->Q (qC c) st'
def zv (m:Nat)(x y z:PV)(st:ag)(Q:PV->ag->Prop):Prop:=∃(d:Nat)(t:Str),d<=2/\max (lA d) 3+1<=m/\lV x/\y=.str t/\t∈H2/\z=.int d/\dv st.b/\st.n+gA (d+1)<=80001/\Iu (d+1) (gA (d+1)-1) st Q
theorem WX (z:Str){b:Bool}(h:[("half":Str),"lack"].contains z=b):i3 false (.str z) (.tup [.str "half",.str "lack"]) (.bl b):=by
 show i3 false (.str z) (.tup ([("half":Str),"lack"].map PV.str)) (.bl b);rw[Gh,h,Bool.false_xor]
theorem zw {d b c e:Nat}{t:Str}{x y z:PV}(ht:Sh t)(h:Tm d b x)(g:Tm d c y)(k:Tm d e z):Tm (d+1) (24+b+c+e) (.tup [.str t,x,y,z]):=(gO (dB (d_ ht) (dB h (dB g (dB k i7))))).mono (ar _) (Nat.le_of_eq (by omega:20+1+(b+1+(c+1+(e+1+0)))=24+b+c+e))
theorem WY {t:Str}(h:t∈H2):Sh t:=by
 simp only[H2,mem_cons,not_mem_nil,or_false] at h;rcases h with rfl|rfl|rfl|rfl<;>exact cD _
def pd:Nat->Nat|0=>0|d+1=>d
section
variable {P:Program}{w:World}{K:Frag}{mg:aZ}{base:Heap}
variable {m₀:Nat}
theorem jI:bw ["_law_state","_law_frame","_law_word_here","_law_deep","_law_a","_law_mine","_law_one","_law_b","_law_yours","_law_other","_law_ask_here"] ["_law_state","_law_frame","_law_word_here","_law_deep"] (aW wG):=by walk_at "s"
theorem WZ {k:Nat}(D:Df K mg "_law_both" wG)(B:Bt mg)(dh:Kn P w K mg base k "_law_ask" (spS K false (cZ (jH m₀))))(Iz:Kn P w K mg base k "_law_meeting" (spS K false (c0 (zu m₀))))(kB:Kn P w K mg base k "_law_merged" (aX K false (cB tN))):Kn P w K mg base (k+1) "_law_both" (spS K false (c0 (zv (m₀+1)))):=by
 refine D.eK jI (λ_ _ _ _ _ _=>j0 λ_ _ _ _=>rfl) (λ_ _ _=>c0.len) (by decide) (λf aE A outer s H E hr=>⟨_,(sc (eV (aN rfl dh hr (ac (vn 0) (ac (vn 1) (ac (vn 3) an)))) (dW (n:=3) rfl rfl (bj (aQ (i:=4) jI.nd) (bj (aQ (i:=5) jI.nd) (bj (aQ (i:=6) jI.nd) dU)))))
  (sc (eV (aN rfl dh hr (ac (vn 0) (ac (vn 1) (ac (eU (qn 3) (qv (lL B.int (qv (Fu (qn 3) (qv vi)))))) an)))) (dW (n:=3) rfl rfl (bj (aQ (i:=7) jI.nd) (bj (aQ (i:=8) jI.nd) (bj (aQ (i:=9) jI.nd) dU)))))
  (sc (bc (lI (qv (sr (qn 6) (qv (Gr rfl B.max (qv vi) (qn 9))))) (qv vi)) (s1 (aK (et (ac (vn 4) (ac (vn 5) (ac (vn 6) an)))))) sn)
  (sc (a9 (i:=10) jI.nd (et (ac (vn 2) (ac (vn 4) (ac (vn 7) (ac (aN rfl Iz hr (ac (vn 0) (ac (vn 1) (ac (vn 5) (ac (vn 8) an))))) an))))))
  (sc (bc (m9 rfl hr (qn 2) (qv (et (ac vs (ac vs an))))) (s1 (aK (et (ac (vn 10) (ac (vn 5) (ac (vn 6) an)))))) sn)
  (s1 (aK (et (ac (vn 10) (ac (bH rfl kB hr (ac (vn 5) (ac (vn 8) an))) (ac (sr (qn 6) (qv (Gr rfl B.max (qv vi) (qn 9)))) an))))))))))),λB' xs st Q h=>?_⟩)
 obtain⟨x1,x2,x3,rfl,h⟩:=h;change (_:US) (dM false Q) ⟨B',[some (.val (.raw (.ref st.d))),some (.val x1),some (.val x2),some (.val x3),none,none,none,none,none,none,none],some st⟩;obtain⟨dp,t,hd2,hm,F,rfl,ht,rfl,W,hn,h⟩:=h;obtain⟨d,a,n,D⟩:=st;have W':dv D:=W;have fw:n+gA (dp+1)<=80001:=hn;clear hn;have dS:dp=0\/dp=1\/dp=2:=by omega
 have qs:gA dp+gA (pd dp)+105<=gA (dp+1)/\cA dp+cA (pd dp)<=cA (dp+1)/\cA dp+cA (pd dp)<=18/\24+bA dp+bA (pd dp)+910<=bA (dp+1)/\max (max (dA dp) (dA (pd dp))) 5+1<=dA (dp+1)/\zA dp<=zA (dp+1)/\lA (pd dp)<=lA dp/\pd dp<=2/\zA dp<=1000/\zA (pd dp)<=1000/\100<=zA (dp+1)/\((dp:Int)-(if decide ((0:Int)<dp)=true then 1 else 0))=(pd dp:Nat):=by rcases dS with rfl|rfl|rfl<;>decide
 obtain⟨q1,q2,q3,q4,q5,q6,q7,q8,q9,f',mE,lj⟩:=qs;w_on;refine⟨dp,by omega,by omega,F,rfl,W',(by show n+gA dp<=80000;omega),λu1 k1 s1 fm zx d1 ne1 zy ZZ cb=>?_⟩;obtain⟨m1,tP,tQ,bt,rfl⟩:=cb;have fq:m1<=n+gA dp:=bt;clear bt;simp only[ag.d,ag.a,ag.b];w_on;rw[lj];refine⟨pd dp,by omega,by omega,F,rfl,W',(by show m1+gA (pd dp)<=80000;omega),λu2 k2 s2 cW qh d2 ne2 Im Io cJ=>?_⟩;obtain⟨m2,gU,gW,a_,rfl⟩:=cJ;have fT:m2<=m1+gA (pd dp):=a_;clear a_;simp only[ag.d,ag.a,ag.b];have fin:∀(r:Ak)(kvs:aS)(s:Int)(m:Nat)(nm pt:Int),gQ (dA (dp+1)) (bA (dp+1)) r->DD (cA (dp+1)) kvs->kvs≠[]->0<=s->s<=zA (dp+1)->m<=n+(gA (dp+1)-1)->Q (.tup [qA r,.ah kvs,.int s]) ⟨d,a,m,{ nm:=nm,pt:=pt,x:=D.x,z:=D.z,y:=D.y,tb:=D.tb }⟩:=λr kvs s m nm pt h1 h2 h3 h4 h5 hm=>h r kvs s _ h1 h2 h3 h4 h5 ⟨m,nm,pt,hm,rfl⟩;w_on;have cm:ot s1 (if s2 > 1 then s2 else 1):=.inl ⟨by omega,by omega⟩;have M1:0<=s1*(if s2 > 1 then s2 else 1):=Int.mul_nonneg zy (by split<;>omega);refine⟨cm,bL (λe=>?_) λe=>?_⟩
 ·w_on;exact fin u1 _ _ _ _ _ (zx.mono (by omega) (by omega)) (d1.mono (by omega)) ne1 zy (by omega) (by omega)
 have M2:=of_decide_eq_false e;have dn:=d1.1;have Z0:=d2.1;w_on;refine⟨k1,k2,_,_,by omega,F,rfl,rfl,d1,d2,q3,W',(by show m2+100<=80000;omega),λc gw hc gi=>?_⟩;obtain⟨m3,qb,qc,dD,rfl⟩:=gi;have nE:m3<=m2+100:=dD;clear dD;simp only[ag.d,ag.a,ag.b];have ok:gQ (dA (dp+1)) (bA (dp+1)) (.two t u1 u2 c):=⟨⟨ht,zx.w,qh.w,hc.w⟩,(zw (WY ht) (zx.t.mono (by omega:dA dp<=max (max (dA dp) (dA (pd dp))) 5) (ar _)) (qh.t.mono (by omega) (ar _)) (hc.t.mono (by omega) (ar _))).mono q5 q4⟩;w_on;refine aj _ (WX t rfl) ?_;refine bL (λe=>?_) λe=>?_
 ·w_on;exact fin (.two t u1 u2 c) _ _ _ _ _ ok (d1.mono (by omega)) ne1 zy (by omega) (by omega)
 have mr:=DD.merge d1 d2;w_on;refine aj _ ⟨_,_,rfl,rfl,by omega,rfl⟩ ?_;w_on;exact⟨cm,fin (.two t u1 u2 c) _ _ _ _ _ ok (mr.1.mono (by omega)) (mr.2 ne1) M1 (by omega) (by omega)⟩
end
namespace L2
theorem W0 {α:Type}{k:Nat}{ix:List Nat}{A1:AS}{g:UG}{t:UT}{ue:UE}{Q:PV->AS->Prop}(l:List α)(e:α->PV)(I:List α->ai->Option ag->Prop)(aF:l.length<=1000000)(i0:I [] [] A1.S)
  (each:∀ B d x r ys S,l=d++x::r->I d ys S->∀(Rs:PV->AS->Prop)(Rn:cu),(∀ y A4,Kp k ix A1.ae A4->I (d++[x]) (ys++[y]) A4.S->Rs y A4)->(∀ A4,Kp k ix A1.ae A4->I (d++[x]) ys A4.S->Rn A4)->g (e x) ⟨B,df k ix A1.ae,S⟩ λA2=>t A2 λb A3=>d9 b (λA=>ue A Rs) Rn A3)
  (fin:∀ ys S,I l ys S->Q (.lst ys) { A1 with S:=S }):kf k ix (l.map e) A1 g t ue Q:=by
 refine⟨by rw[length_map];exact aF,λd ys S=>I (l.take d.length) ys S,by simpa using i0,?_,?_⟩
 ·rintro B d x r ys S e' hI;obtain⟨d1,x1,r1,e1,rfl,rfl,e2⟩:=pre_of e'
  have e3:l.take (d1.map e++[e x1]).length=d1++[x1]:=by
   rw[e1,length_append,length_map,length_singleton,<- singleton_append,<- append_assoc,take_left' (by simp)]
  rw[<- e2] at hI;dsimp (config:={failIfUnchanged:=false}) only;rw[e3];exact each B d1 x1 r1 ys S e1 hI (λy A4=>Kp k ix A1.ae A4/\I (d1++[x1]) (ys++[y]) A4.S) (λA3=>Kp k ix A1.ae A3/\I (d1++[x1]) ys A3.S) (λy A4 k1 s1=>⟨k1,s1⟩) λA4 k1 s1=>⟨k1,s1⟩
 ·rintro ys S hI;rw[length_map,take_length] at hI;exact fin ys S hI
namespace cU
theorem IA {n:Nat}{xs:ai}{z:PV}(h:∀ x∈xs,Dp n x)(l:n<80):fP false (.lst xs) (.lst []) z=(z=.bl xs.isEmpty):=by
 unfold fP
 have e:bN (.lst xs) (.lst [])=xs.isEmpty:=by
  cases xs<;>rfl
 rw[e,Bool.false_xor];exact propext ⟨λh=>h.2,λq=>⟨⟨n+1,l,iy h,iy λx hx=>by cases hx⟩,q⟩⟩
section
variable {P:Program}{w:World}{K:Frag}{mg:aZ}{base:Heap}
variable {m₀:Nat}
theorem gj:bw ["_law_state","_law_frame","_law_deep","_law_ask_here","_law_cols","_law_size","_law_names","_law_fields","_law_found","_law_tells","_law_k","_law_name","_law_word_here","_law_label"] ["_law_state","_law_frame","_law_deep"] (aW wH):=by walk_at "s"
theorem W2 {k:Nat}(D:Df K mg "_law_grouped" wH)(B:Bt mg)(dh:Kn P w K mg base k "_law_ask" (spS K false (cZ (jH m₀))))(iB:Kn P w K mg base k "_law_new" (spS K false (gL pL)))(aY:Kn P w K mg base k "_law_take" (spS K false (bP eM))):Kn P w K mg base (k+1) "_law_grouped" (spS K false (cZ (iI (m₀+1)))):=by
 refine D.eK gj (λ_ _ _ _ _ _=>fL λ_ _ _=>rfl) (λ_ _ _=>cZ.len) (by decide) (λf aE A outer s H E hr=>⟨_,(sc (eV (aN rfl dh hr (ac (vn 0) (ac (vn 1) (ac (vn 2) an)))) (dW (n:=3) rfl rfl (bj (aQ (i:=3) gj.nd) (bj (aQ (i:=4) gj.nd) (bj (aQ (i:=5) gj.nd) dU)))))
  (sc (a9 (i:=6) gj.nd (vf (pF rfl rfl B.sorted (qn 4))))
  (sc (se (i:=7) gj.nd (N:=["_law_name","_law_state"]) (k:=1) (ix:=[0]) cS rfl (jx rfl 6) (λ_ _ _ _=>(aQ (i:=0) (by show(["_law_name","_law_state"]:aq).Nodup;decide +kernel))) (λ_ _ _ _=>(sf (bW rfl hr (qv (aN rfl aY hr (ac (vn 1) (ac vi an)))) (qv vi)))) (λ_ _ _ _=>(vn 0)))
  (sc (eQ (i:=8) gj.nd (F2 rfl rfl B.dict (qf (lE (N:=["_law_name","_law_cols"]) (k:=1) (ix:=[4]) cS rfl (jx rfl 7) (λ_ _ _ _=>(aQ (i:=0) (by show(["_law_name","_law_cols"]:aq).Nodup;decide +kernel))) (λ_ _ _ _=>kg) (λ_ _ _ _=>(et (ac (vn 0) (ac (ax rfl hr (qn 1) (qn 0)) an))))))))
  (sc (eQ (i:=9) gj.nd (el an))
  (sc (eS PassesOwn.never rfl (iW (by rfl) B.range (bR rfl (qv (lL B.int (qv (lH rfl hr (qn 7) (qf (el an)))))) (qv (aN rfl aY hr (ac (vn 0) (ac vi an)))))) (aQ (i:=10) gj.nd)
  (sc (a9 (i:=11) gj.nd (ax rfl hr (qn 6) (qv (aN rfl aY hr (ac (vn 0) (ac (fG rfl B.len (qn 6)) an))))))
  (sc (a9 (i:=12) gj.nd (ax rfl hr (qf (el (ac vs (ac vs (ac vs (ac vs an)))))) (qv (aN rfl aY hr (ac (vn 0) (ac (bR rfl (qv vi) (qv (lL B.int (qv (lH rfl hr (qv (ax rfl hr (qn 4) (qn 11))) (qv vs)))))) an))))))
  (sc (a9 (i:=13) gj.nd (aN rfl iB hr (ac (vn 0) an)))
  (sc (yq hr 8 (ax rfl hr (qf (el (ac (ax rfl hr (qn 4) (qn 11)) (ac vs an)))) (qv (lL B.int (qv (lH rfl hr (qn 12) (qv vs)))))) (vn 13))
  (s1 (eR (fQ rfl 9 (et (ac (vn 13) (ac (vn 12) (ac (ax rfl hr (qf (el (ac (vn 11) (ac v0 an)))) (qv (lL B.int (qv (lH rfl hr (qn 12) (qv vs)))))) an))))))))))))
  (s1 (aK (et (ac (et (ac vs (ac (vn 3) (ac (ko rfl B.tuple (qf (Qn rfl (qn 7)))) (ac (ko rfl B.tuple (qn 9)) an))))) (ac (vn 8) (ac (vn 5) an)))))))))))),λB' xs st Q h=>?_⟩)
 obtain⟨x1,x2,rfl,h⟩:=h;change (_:US) (dM false Q) ⟨B',[some (.val (.raw (.ref st.d))),some (.val x1),some (.val x2),none,none,none,none,none,none,none,none,none,none,none],some st⟩;obtain⟨dp,hd2,hm,F,rfl,W,hn,h⟩:=h;obtain⟨d,a,n,D⟩:=st;have W':dv D:=W;have fw:n+gA (dp+1)<=80001:=hn;clear hn;have dS:dp=0\/dp=1\/dp=2:=by omega
 have qs:gA dp+cA dp+20<=gA (dp+1)/\cA dp+3<=cA (dp+1)/\cA dp<=12/\bA dp+25+21*cA dp+1+200<=bA (dp+1)/\max (dA dp) 2+1<=dA (dp+1)/\zA dp<=zA (dp+1):=by rcases dS with rfl|rfl|rfl<;>decide
 obtain⟨q1,q2,q3,q4,q5,q6⟩:=qs;w_on;refine⟨dp,by omega,by omega,F,rfl,W',(by show n+gA dp<=80000;omega),λau kvs sz fm hu ok bK uv Iw cb=>?_⟩;obtain⟨m1,nm,pt,bt,rfl⟩:=cb;have fq:m1<=n+gA dp:=bt;clear bt;simp only[ag.d,ag.a,ag.b];obtain⟨zs,ek,el,hz⟩:=lU ok;have l3:=ok.1;w_on;refine aj _ ⟨zs,ek,by omega,rfl⟩ ?_;have sl:(b9 zs).length<=cA dp:=by rw[(d8 _).length_eq];omega
 have all:∀ z∈b9 zs,i9 kvs z:=λz eh=>hz z ((d8 _).mem_iff.mp eh)
 have qg:0<(b9 zs).length:=by
  rw[(d8 zs).length_eq,el];exact length_pos_iff.mpr bK
 generalize b9 zs=ys at sl all qg;w_on;refine W0 ys PV.str (λdd rs S=>∃(fs:aq)(m:Nat),rs=fs.map PV.str/\fs.length<=dd.length/\(∀ f∈fs,f∈ys)/\m<=m1+dd.length/\S=some ⟨d,a,m,{ nm:=nm,pt:=pt,x:=D.x,z:=D.z,y:=D.y,tb:=D.tb }⟩) (by omega) ⟨[],m1,rfl,ar _,(λ_ h=>by cases h),by simp,rfl⟩ ?_ ?_
 ·rintro B dd x r rs S e ⟨fs,m,rfl,W3,ma,a_,rfl⟩ Rs Rn hs hn;have ll:(dd++[x]).length=dd.length+1:=by simp
  have WW:dd.length<=cA dp:=by rw[e,length_append] at sl;omega
  w_on;refine draw (by omega) (by decide) (by decide) λu u0 u1=>?_;w_on;refine bL (λe1=>?_) λe1=>?_
  ·w_on;refine hs _ _ ⟨rfl,rfl⟩ ⟨fs++[x],m+1,by rw[map_append];rfl,by rw[length_append,ll];show fs.length+1<=_;omega,λf hf=>?_,by omega,rfl⟩;rcases mem_append.mp hf with z|z
   ·exact ma f z
   ·rw[mem_singleton.mp z,e];simp
  ·exact hn _ ⟨rfl,rfl⟩ ⟨fs,m+1,rfl,by omega,ma,by omega,rfl⟩
 rintro _ _ ⟨fs,m,rfl,W3,ma,a_,rfl⟩;have fl:fs.length<=cA dp:=by omega
 w_on;refine ng fs PV.str (λf=>.tup [.str f,.str (kd kvs f)]) (by omega) ?_ ?_
 ·intro B x hx R hR;w_on;refine aj _ (all x (ma x hx)).1 ?_;w_on;exact hR _ ⟨rfl,rfl⟩ rfl
 w_on;have kv:=yT (fs.map λf=>(f,kd kvs f))
 have hd:=Hc (l:=fs.map λf=>(f,kd kvs f)) λp hp=>by
  obtain⟨f,hf,rfl⟩:=mem_map.mp hp;exact⟨(all f (ma f hf)).2.1,(all f (ma f hf)).2.2⟩
 simp only[map_map,Function.comp_def,length_map] at kv hd;refine aj _ ⟨_,kv,by rw[length_map];omega,rfl⟩ ?_;have IB:=hd.1;have zB:fs≠[]->_:=λe=>hd.2 (λe2=>e (map_eq_nil_iff.mp e2));generalize dictOf (fs.map λx=>((Sum.inr x:Key),PV.str (kd kvs x)))=B0 at IB zB ⊢;have yl:(ys.map PV.str).length=ys.length:=length_map ..;w_on;intro p q;refine aj _ (by rw[IA (n:=1) (λy hy=>by obtain⟨z,_,rfl⟩:=mem_map.mp hy;exact jD _ _) (by decide)]) ?_;w_on;refine draw (by omega) (by decide) (by decide) λu u0 u1=>?_;w_on;generalize hN:((if (fs.map PV.str).isEmpty=true then 1 else 0:Int)+u)=N;have WT:0<=N:=by rw[<- hN];split<;>omega
 have WU:N<=3:=by rw[<- hN];split<;>omega
 have Iv:fs=[]->1<=N:=λe=>by rw[<- hN,e];show 1<=(1:Int)+u;omega
 refine⟨by omega,by omega,jE _ (λi A=>∃(kv:aS)(M:ai)(l_ l9 oS zC:Option Sl)(m':Nat)(fu fv:Int),A=⟨B',[some (.val (.raw (.ref d))),some (.val x1),some (.val (.int (dp:Nat))),some (.val (qA au)),some (.val (.ah kvs)),some (.val (.int sz)),some (.val (.lst (ys.map PV.str))),some (.val (.lst (fs.map PV.str))),some (.own p (.ah kv)),some (.own q (.lst M)),l_,l9,oS,zC],some ⟨d,a,m',{ nm:=fu,pt:=fv,x:=D.x,z:=D.z,y:=D.y,tb:=D.tb }⟩⟩/\DD (cA dp+i) kv/\(fs≠[]\/0<i->kv≠[])/\M.length<=i/\(∀ y∈M,Tm 1 63 y)/\m'<=m+1+2*i) ⟨B0,[],none,none,none,none,m+1,nm,pt,rfl,IB.mono (by omega),(λh=>h.elim zB λz=>absurd z (by omega)),ar _,(λ_ h=>by cases h),by omega⟩ (λ_ _ _=>trivial) ?_ ?_⟩
 ·rintro i _ hi ⟨kv,M,l_,l9,oS,zC,m',fu,fv,rfl,hD,IC,hM,aM,gP⟩;have Z1:i<3:=by omega
  have kl:=hD.1;w_on;refine draw (by omega) (by omega) (Int.lt_of_le_of_lt (b:=900) (by omega) (by decide)) λv v0 v1=>?_;w_on;refine ef v0 v1 λx hx=>?_;obtain⟨z,eh,rfl⟩:=mem_map.mp hx;have kz:=all z eh;w_on;refine aj _ kz.1 ?_;w_on;refine draw (by omega) (by split<;>omega) (by split<;>decide) λv' nW nX=>?_;w_on;refine ef nW (by show v'<4;revert nX;split<;>omega) λx hx=>?_
  obtain⟨t,rfl,ht⟩:∃ t:Str,x=.str t/\Sh t:=by
   simp only[mem_cons,not_mem_nil,or_false] at hx;rcases hx with rfl|rfl|rfl|rfl<;>exact⟨_,rfl,cD _⟩
  w_on;refine⟨W',λzz cW iG cJ=>?_⟩;obtain⟨m2,gU,gW,a_,rfl⟩:=cJ;have fT:m2<=m'+1+1+0:=a_;clear a_;simp only[ag.d,ag.a,ag.b];w_on;refine aj _ kz.1 ?_;w_on;refine ef (by split<;>decide) (by show _<(2:Int);split<;>decide) λx hx=>?_
  obtain⟨k,rfl,hk⟩:∃ k:Str,x=.str k/\Kd k:=by
   simp only[mem_cons,not_mem_nil,or_false] at hx;rcases hx with rfl|rfl
   ·exact⟨_,rfl,kz.2.2⟩
   ·exact⟨_,rfl,.inl rfl⟩
  have pp:=hD.put iG.sh hk;w_on;refine⟨by omega,ef (by split<;>decide) (by show _<(2:Int);split<;>decide) λx hx=>?_⟩
  have qe:Tm 0 20 x:=by
   simp only[mem_cons,not_mem_nil,or_false] at hx;rcases hx with rfl|rfl
   ·exact d_ kz.2.1
   ·exact VC
  w_on;exact⟨by omega,_,_,_,_,_,_,_,_,_,rfl,pp.1.mono (by omega),λ_=>pp.2,by rw[length_append];show M.length+1<=_;omega,kJ aM ((gO (dB (d_ iG.sh) (dB (d_ ht) (dB qe i7)))).mono (ar _) (by decide:20+1+(20+1+(20+1+0))<=63)),by omega⟩
 ·rintro _ ⟨kv,M,l_,l9,oS,zC,m',fu,fv,rfl,hD,IC,hM,aM,gP⟩;have W5:(fs.map PV.str).length=fs.length:=length_map ..;have M3:M.length<=3:=by omega
  have tf:Tm 1 (21*cA dp) (.tup (fs.map PV.str).reverse):=(gO (pK (b:=20) (d:=0) λy hy=>by
   obtain⟨f,hf,rfl⟩:=mem_map.mp (mem_reverse.mp hy)
   exact d_ (all f (ma f hf)).2.1)).mono (ar _) (by rw[length_reverse,W5,Nat.mul_comm];exact Nat.mul_le_mul_left _ fl)
  have tM:Tm 2 192 (.tup M):=(gO (pK aM)).mono (ar _) (by have:M.length*(63+1)<=3*64:=Nat.mul_le_mul_right _ M3;omega);w_on;refine h (.one "group" au [.tup (fs.map PV.str).reverse,.tup M]) kv sz _ ⟨⟨by decide,hu.w⟩,(zw (cD _) (hu.t.mono (by omega:dA dp<=max (dA dp) 2) (ar _)) (tf.mono (by omega) (ar _)) (tM.mono (by omega) (ar _))).mono q5 (by omega)⟩ (hD.mono (by omega)) (IC ?_) uv (by omega) ⟨m',fu,fv,(by show m'<=n+(gA (dp+1)-1);omega),rfl⟩;rcases Classical.em (fs=[]) with e|e
  ·exact .inr (by have:=Iv e;omega)
  ·exact .inl e
end
theorem W6 {z:Str}{ue:UE}{Q:PV->AS->Prop}{B:Addr->Prop}{ae:cL}{S:Option ag}(h:∀ B',ue ⟨B',ae,S⟩ λx A2=>A2.ae=ae/\Q (.ah [(.str z,x)]) ⟨B,ae,A2.S⟩):yJ z ue Q ⟨B,ae,S⟩:=h
theorem W7 (i:Int)(l:List Int):i3 false (.int i) (.tup (l.map PV.int)) (.bl (pin (.int i) (l.map PV.int))):=by
 rw[F7];exact⟨RC _,⟨0,by decide,lP _ _,λp hp=>by obtain⟨z,_,rfl⟩:=mem_map.mp hp;exact lP _ _⟩,by rw[Bool.false_xor]⟩
theorem W8 {i:Int}{l:List Int}(h:pin (.int i) (l.map PV.int)=true):i∈l:=by
 unfold pin at h;rw[any_map,any_eq_true] at h;obtain⟨a,ha,e⟩:=h;have:(a==i)=true:=e;rw[<- (by simpa using this:a=i)];exact ha
section
variable {P:Program}{w:World}{K:Frag}{mg:aZ}{base:Heap}
variable {m₀:Nat}
theorem gY:bw ["_law_state","_law_frame","_law_deep","_law_ask_here","_law_cols","_law_size","_law_other","_law_others","_law_more","_law_word_here","_law_kind_here","_law_one","_law_two"] ["_law_state","_law_frame","_law_deep"] (aW wK):=by walk_at "s"
theorem W9 {k:Nat}(D:Df K mg "_law_added" wK)(B:Bt mg)(dh:Kn P w K mg base k "_law_ask" (spS K false (cZ (jH m₀))))(iB:Kn P w K mg base k "_law_new" (spS K false (gL pL)))(pO:Kn P w K mg base k "_law_kind" (spS K false (bP yX)))(aY:Kn P w K mg base k "_law_take" (spS K false (bP eM)))(fH:Kn P w K mg base k "_law_sum" (spS K false (c0 (nD 3))))(fI:Kn P w K mg base k "_law_cond" (spS K false (c0 (lX m₀)))):Kn P w K mg base (k+1) "_law_added" (spS K false (cZ (iI (m₀+1)))):=by
 refine D.eK gY (λ_ _ _ _ _ _=>fL λ_ _ _=>rfl) (λ_ _ _=>cZ.len) (by decide) (λf aE A outer s H E hr=>⟨_,(sc (eV (aN rfl dh hr (ac (vn 0) (ac (vn 1) (ac (vn 2) an)))) (dW (n:=3) rfl rfl (bj (aQ (i:=3) gY.nd) (bj (aQ (i:=4) gY.nd) (bj (aQ (i:=5) gY.nd) dU)))))
  (sc (bc (bW rfl hr (qv (aN rfl aY hr (ac (vn 0) (ac vi an)))) (qv vi)) (s1 (aK (et (ac (et (ac vs (ac (et (ac vs (ac (vn 3) (ac (aN rfl fI hr (ac (vn 0) (ac (vn 1) (ac (vn 4) (ac vi an))))) an)))) (ac (vn 3) an)))) (ac (vn 4) (ac (sr (qv vi) (qn 5)) an)))))) sn)
  (sc (eV (aN rfl dh hr (ac (vn 0) (ac (vn 1) (ac (tw rfl B.min (qv vi) (qn 2)) an)))) (dW (n:=3) rfl rfl (bj (aQ (i:=6) gY.nd) (bj (aQ (i:=7) gY.nd) (bj (aQ (i:=8) gY.nd) dU)))))
  (sc (a9 (i:=9) gY.nd (aN rfl iB hr (ac (vn 0) an)))
  (sc (a9 (i:=10) gY.nd (aN rfl pO hr (ac (vn 0) (ac (vn 4) an))))
  (sc (a9 (i:=11) gY.nd (et (ac vs (ac (vn 3) (ac (et (ac (et (ac (vn 9) (ac (aN rfl fH hr (ac (vn 0) (ac (vn 4) (ac (vn 10) (ac vi an))))) an))) an)) an)))))
  (sc (a9 (i:=12) gY.nd (et (ac vs (ac (vn 6) (ac (et (ac (et (ac (vn 9) (ac (aN rfl fH hr (ac (vn 0) (ac (vn 7) (ac (vn 10) (ac vi an))))) an))) an)) an)))))
  (s1 (aK (et (ac (et (ac vs (ac (vn 11) (ac (vn 12) an)))) (ac (vf (Uo 9 (vn 10))) (ac (bR rfl (qn 5) (qn 8)) an))))))))))))),λB' xs st Q h=>?_⟩)
 obtain⟨x1,x2,rfl,h⟩:=h;change (_:US) (dM false Q) ⟨B',[some (.val (.raw (.ref st.d))),some (.val x1),some (.val x2),none,none,none,none,none,none,none,none,none,none],some st⟩;obtain⟨dp,hd2,hm,F,rfl,W,hn,h⟩:=h;obtain⟨d,a,n,D⟩:=st;have W':dv D:=W;have fw:n+gA (dp+1)<=80001:=hn;clear hn;have dS:dp=0\/dp=1\/dp=2:=by omega
 have qs:gA dp+95<=gA (dp+1)/\gA dp+gA (min 1 dp)+40<=gA (dp+1)/\cA dp<=cA (dp+1)/\cA dp<=12/\cA (min 1 dp)<=12/\1<=cA (dp+1)/\646+2*bA dp<=bA (dp+1)/\400+bA dp+bA (min 1 dp)<=bA (dp+1)/\max (dA dp) 4+2<=dA (dp+1)/\dA (min 1 dp)<=max (dA dp) 4/\2*zA dp<=zA (dp+1)/\zA dp+zA (min 1 dp)<=zA (dp+1)/\lA (min 1 dp)<=lA dp/\min 1 dp<=2/\(if ((dp:Nat):Int)<1 then ((dp:Nat):Int) else 1)=((min 1 dp:Nat):Int):=by rcases dS with rfl|rfl|rfl<;>decide
 obtain⟨q1,q2,q3,q4,q5,q6,q7,q8,q9,f',mE,lj,ID,IE,zD⟩:=qs;have Hf:nS 1=12:=rfl;have e9:bS 1=125:=rfl;have eC:gC 1=90:=rfl;w_on;refine⟨dp,by omega,by omega,F,rfl,W',(by show n+gA dp<=80000;omega),λau kvs sz fm hu ok bK uv Iw cb=>?_⟩;obtain⟨m1,nm,pt,bt,rfl⟩:=cb;have fq:m1<=n+gA dp:=bt;clear bt;simp only[ag.d,ag.a,ag.b];w_on;refine draw (by omega) (by decide) (by decide) λu u0 u1=>?_;w_on;have fin:∀(r:Ak)(kvs:aS)(s:Int)(m:Nat)(nm pt:Int),gQ (dA (dp+1)) (bA (dp+1)) r->DD (cA (dp+1)) kvs->kvs≠[]->0<=s->s<=zA (dp+1)->m<=n+(gA (dp+1)-1)->Q (.tup [qA r,.ah kvs,.int s]) ⟨d,a,m,{ nm:=nm,pt:=pt,x:=D.x,z:=D.z,y:=D.y,tb:=D.tb }⟩:=λr kvs s m nm pt h1 h2 h3 h4 h5 hm=>h r kvs s _ h1 h2 h3 h4 h5 ⟨m,nm,pt,hm,rfl⟩;have up:Tm (max (dA dp) 4) (bA dp) (qA au):=hu.t.mono (by omega) (ar _);refine bL (λe=>?_) λe=>?_
 ·w_on;refine⟨1,kvs,by decide,by show 2<=m₀;omega,F,rfl,rfl,ok.mono (by show _<=18;omega),W',(by show m1+1+gC 1<=80000;omega),λc cW hc cJ=>?_⟩;obtain⟨m2,gU,gW,a_,rfl⟩:=cJ;have fT:m2<=m1+1+gC 1:=a_;clear a_;simp only[ag.d,ag.a,ag.b];w_on;refine⟨.inl ⟨by decide,by decide⟩,fin (.add (.pick au c) au) _ _ _ _ _ ⟨⟨⟨hu.w,hc.w⟩,hu.w⟩,(gS (cD _) (gS (cD _) up (hc.t.mono (by show 4<=_;omega) (ar _))) (up.mono (Nat.le_succ _) (ar _))).mono q9 (by show 23+(23+bA dp+600)+bA dp<=_;omega)⟩ (ok.mono q3) bK (by omega) (by omega) (by omega)⟩
 w_on;rw[zD];refine⟨min 1 dp,by omega,by omega,F,rfl,W',(by show m1+1+gA (min 1 dp)<=80000;omega),λu2 k2 s2 cW qh Il ne2 Im Io cJ=>?_⟩;obtain⟨m2,gU,gW,a_,rfl⟩:=cJ;have fT:m2<=m1+1+gA (min 1 dp):=a_;clear a_;simp only[ag.d,ag.a,ag.b];w_on;refine⟨W',λz gw hz gi=>?_⟩;obtain⟨m3,qb,qc,dD,rfl⟩:=gi;have nE:m3<=m2+0:=dD;clear dD;simp only[ag.d,ag.a,ag.b];w_on;refine⟨kvs,rfl,ok.mono (by omega),(by show m3<=90000;omega),λk rn hk zp=>?_⟩;obtain⟨m4,l6,rfl⟩:=zp;have WI:m4<=m3+1:=l6;clear l6;w_on;refine⟨2,by decide,kvs,k,rfl,rfl,rfl,ok.mono (by omega),hk,(by show m4+nS 1<=90000;omega),λx1 jP zr W_=>?_⟩;obtain⟨m5,p7,rfl⟩:=W_;have Z2:m5<=m4+nS 1:=p7;clear p7;w_on;refine⟨2,by decide,k2,k,rfl,rfl,rfl,Il.mono (by omega),hk,(by show m5+nS 1<=90000;omega),λx2 WL qe zq=>?_⟩;obtain⟨m6,qd,rfl⟩:=zq;have WM:m6<=m5+nS 1:=qd;clear qd;w_on;have sh:∀(v:Ak)(x:PV)(b:Nat),Tm (max (dA dp) 4) b (qA v)->Tm 2 (bS 1) x->Tm (max (dA dp) 4+1) (23+b+148) (qA (.one "show" v [.tup [.tup [.str z,x]]])):=λv x b h1 h2=>gS (cD _) h1 ((gO (dB (gR hz.sh h2) i7)).mono (Nat.le_max_right _ 4) (by rw[e9];decide:22+bS 1+1+0<=148));refine W6 λB2=>?_;w_on;exact fin (.add (.one "show" au [.tup [.tup [.str z,x1]]]) (.one "show" u2 [.tup [.tup [.str z,x2]]])) [(.str z,.str k)] _ m6 qb qc ⟨⟨⟨by decide,hu.w⟩,by decide,qh.w⟩,(gS (cD _) (sh au x1 _ up zr) (sh u2 x2 _ (qh.t.mono f' (ar _)) qe)).mono q9 (by omega)⟩ ⟨q6,λkv mJ=>by rw[mem_singleton.mp mJ];exact⟨z,k,rfl,⟨hz.sh,hk⟩,by simp [bZ,pk]⟩⟩ (by simp) (by omega) (by omega) (by omega)
variable {m₀:Nat}
theorem nZ:bw ["_law_state","_law_frame","_law_deep","_law_way_here","_law_ask_here","_law_cols","_law_size"] ["_law_state","_law_frame","_law_deep"] (aW wJ):=by walk_at "s"
theorem Xa {k:Nat}(D:Df K mg "_law_ask" wJ)(B:Bt mg)(dh:Kn P w K mg base k "_law_ask" (spS K false (cZ (jH m₀))))(aY:Kn P w K mg base k "_law_take" (spS K false (bP eM)))(qa:Kn P w K mg base k "_law_part" (spS K false (bP oD)))(IF:Kn P w K mg base k "_law_shown" (spS K false (cZ (iI m₀))))(IG:Kn P w K mg base k "_law_both" (spS K false (c0 (zv m₀))))(IH:Kn P w K mg base k "_law_grouped" (spS K false (cZ (iI m₀))))(II:Kn P w K mg base k "_law_added" (spS K false (cZ (iI m₀))))(fI:Kn P w K mg base k "_law_cond" (spS K false (c0 (lX m₀))))(IJ:Kn P w K mg base k "_law_keys" (spS K false (bP Ir))):Kn P w K mg base (k+1) "_law_ask" (spS K false (cZ (jH (m₀+1)))):=by
 refine D.eK nZ (λ_ _ _ _ _ _=>fL λ_ _ _=>rfl) (λ_ _ _=>cZ.len) (by decide) (λf aE A outer s H E hr=>⟨_,(sc (a9 (i:=3) nZ.nd (sr (qv (aN rfl aY hr (ac (vn 0) (ac vi an)))) (qv (lL B.int (qv (xx (Fu (qn 2) (qv vi)) (xw (Qf (qv (m7 hr 0 5 (by decide) (by decide) rfl)) (qv vi)))))))))
  (sc (bc (bW rfl hr (qn 3) (qv vi)) (s1 (aK (aN rfl qa hr (ac (vn 0) (ac (vn 1) an))))) sn)
  (sc (bc (bW rfl hr (qn 3) (qv vi)) (s1 (aK (aN rfl IF hr (ac (vn 0) (ac (vn 1) (ac (eU (qn 2) (qv vi)) an)))))) sn)
  (sc (bc (m9 rfl hr (qn 3) (qv (et (ac vi (ac vi (ac vi (ac vi (ac vi an)))))))) (s1 (aK (aN rfl IG hr (ac (vn 0) (ac (vn 1) (ac (ax rfl hr (qf (el (ac vs (ac vs (ac vs (ac vs (ac vs an))))))) (qv (eU (qn 3) (qv vi)))) (ac (eU (qn 2) (qv vi)) an))))))) sn)
  (sc (bc (bW rfl hr (qn 3) (qv vi)) (s1 (aK (aN rfl IH hr (ac (vn 0) (ac (vn 1) (ac (eU (qn 2) (qv vi)) an)))))) sn)
  (sc (bc (bW rfl hr (qn 3) (qv vi)) (s1 (aK (aN rfl II hr (ac (vn 0) (ac (vn 1) (ac (eU (qn 2) (qv vi)) an)))))) sn)
  (sc (eV (aN rfl dh hr (ac (vn 0) (ac (vn 1) (ac (eU (qn 2) (qv vi)) an)))) (dW (n:=3) rfl rfl (bj (aQ (i:=4) nZ.nd) (bj (aQ (i:=5) nZ.nd) (bj (aQ (i:=6) nZ.nd) dU)))))
  (sc (bc (PW.pt (iq (bW rfl hr (qn 3) (qv vi)) (ju (bW rfl hr (qv (aN rfl aY hr (ac (vn 0) (ac vi an)))) (qv vi))))) (s1 (aK (et (ac (et (ac vs (ac (vn 4) an))) (ac (vn 5) (ac (vn 6) an)))))) sn)
  (sc (bc (bW rfl hr (qn 3) (qv vi)) (s1 (aK (et (ac (et (ac vs (ac (vn 4) (ac (aN rfl IJ hr (ac (vn 0) (ac (vn 5) an))) (ac (aN rfl aY hr (ac (vn 0) (ac vi an))) an))))) (ac (vn 5) (ac (vn 6) an)))))) sn)
  (s1 (aK (et (ac (et (ac vs (ac (vn 4) (ac (aN rfl fI hr (ac (vn 0) (ac (vn 1) (ac (vn 5) (ac (tw rfl B.min (qv vi) (qn 2)) an))))) an)))) (ac (vn 5) (ac (vn 6) an))))))))))))))),λB' xs st Q h=>?_⟩)
 obtain⟨x1,x2,rfl,h⟩:=h;change (_:US) (dM false Q) ⟨B',[some (.val (.raw (.ref st.d))),some (.val x1),some (.val x2),none,none,none,none],some st⟩;obtain⟨deep,zB,hm,F,rfl,W,hn,h⟩:=h;obtain⟨d,a,n,D⟩:=st;have W':dv D:=W;have fw:n+gA deep<=80000:=hn;clear hn;w_on;refine draw (by omega) (by decide) (by decide) λu u0 u1=>?_;w_on
 cases deep with
 |zero=>
  have e5:gA 0=5:=rfl;refine bp (by decide) ?_;w_on;refine⟨.inl ⟨by omega,by omega⟩,cI (by simp) ?_⟩;w_on;refine⟨F,W',(by show n+1<=90000;omega),λa1 a2 kvs fm h1 h2 hk bK cb=>?_⟩;obtain⟨m1,nm,pt,bt,rfl⟩:=cb;have fq:m1<=n+1+1:=bt;clear bt;simp only[ag.d,ag.a,ag.b];w_on;exact h (.tab a1 a2) kvs 4 _ (yV h1 h2) hk bK (by decide) (by decide) ⟨m1,nm,pt,(by show m1<=n+5;omega),rfl⟩
 |succ dp=>
  have dS:dp=0\/dp=1\/dp=2:=by omega
  have ep:(((dp+1:Nat):Int)-1)=(dp:Nat):=by omega
  have qs:gA dp+gC (min 2 (dp+1))+5<=gA (dp+1)/\gA dp+30<=gA (dp+1)/\cA dp<=cA (dp+1)/\cA dp<=12/\cA dp<=kC (min 2 (dp+1))/\23+bA dp+bC (min 2 (dp+1))<=bA (dp+1)/\300+bA dp<=bA (dp+1)/\max (dA dp) (dC (min 2 (dp+1)))+1<=dA (dp+1)/\max (dA dp) 4+1<=dA (dp+1)/\zA dp<=zA (dp+1)/\max (lA dp) 3+2<=lA (dp+1)/\lC (min 2 (dp+1))+1<=lA (dp+1)/\min 2 (dp+1)<=2/\(if ((dp+1:Nat):Int)<2 then ((dp+1:Nat):Int) else 2)=((min 2 (dp+1):Nat):Int)/\70<=bA (dp+1)/\1<=dA (dp+1)/\3<=cA (dp+1)/\4<=zA (dp+1)/\10<=gA (dp+1):=by rcases dS with rfl|rfl|rfl<;>decide
  obtain⟨q1,q2,q3,q4,q5,q6,q7,q8,q9,f',mE,lj,ID,IE,zD,Xb,Xc,Z3,Z4⟩:=qs;refine cI (by simp) ?_;have fin:∀(r:Ak)(kvs:aS)(s:Int)(m:Nat)(nm pt:Int),gQ (dA (dp+1)) (bA (dp+1)) r->DD (cA (dp+1)) kvs->kvs≠[]->0<=s->s<=zA (dp+1)->m<=n+gA (dp+1)->Q (.tup [qA r,.ah kvs,.int s]) ⟨d,a,m,{ nm:=nm,pt:=pt,x:=D.x,z:=D.z,y:=D.y,tb:=D.tb }⟩:=λr kvs s m nm pt h1 h2 h3 h4 h5 hm=>h r kvs s _ h1 h2 h3 h4 h5 ⟨m,nm,pt,hm,rfl⟩;w_on;generalize hw:(u*if decide (D.pt<7)=true then 1 else 0)=way;have w0:0<=way:=by rw[<- hw];split<;>omega
  have w1:way<12:=by rw[<- hw];split<;>omega
  refine⟨.inl ⟨by omega,by omega⟩,bL (λe=>?_) λe=>?_⟩
  ·w_on;refine⟨F,W',(by show n+1<=90000;omega),λa1 a2 kvs fm h1 h2 hk bK cb=>?_⟩;obtain⟨m1,nm,pt,bt,rfl⟩:=cb;have fq:m1<=n+1+1:=bt;clear bt;simp only[ag.d,ag.a,ag.b];w_on;exact fin (.tab a1 a2) kvs 4 _ _ _ ((yV h1 h2).mono Xb zD) (hk.mono Xc) bK (by decide) (by omega) (by omega)
  w_on;refine bL (λe=>?_) λe=>?_
  ·w_on;rw[ep];refine⟨dp,by omega,by omega,F,rfl,W',(by show n+1+gA (dp+1)<=80001;omega),λu1 kvs sz fm hu ok bK s0 s1 cb=>?_⟩;obtain⟨m1,nm,pt,bt,rfl⟩:=cb;have fq:m1<=n+1+(gA (dp+1)-1):=bt;clear bt;simp only[ag.d,ag.a,ag.b];w_on;exact fin u1 kvs sz _ _ _ hu ok bK s0 s1 (by omega)
  w_on;refine aj _ (W7 way [4,5,6,7,8]) ?_;refine bL (λe=>?_) λe=>?_
  ·have Xd:=W8 e;simp only[mem_cons,not_mem_nil,or_false] at Xd;w_on;refine ef (by omega) (by show way-4<5;omega) λx hx=>?_
   obtain⟨t,rfl,ht⟩:∃ t:Str,x=.str t/\t∈H2:=by
    simp only[mem_cons,not_mem_nil,or_false] at hx;rcases hx with rfl|rfl|rfl|rfl|rfl<;>exact⟨_,rfl,by decide⟩
   w_on;rw[ep];refine⟨dp,t,by omega,by omega,F,rfl,ht,rfl,W',(by show n+1+gA (dp+1)<=80001;omega),λu1 kvs sz fm hu ok bK s0 s1 cb=>?_⟩;obtain⟨m1,nm,pt,bt,rfl⟩:=cb;have fq:m1<=n+1+(gA (dp+1)-1):=bt;clear bt;simp only[ag.d,ag.a,ag.b];w_on;exact fin u1 kvs sz _ _ _ hu ok bK s0 s1 (by omega)
  w_on;refine bL (λe=>?_) λe=>?_
  ·w_on;rw[ep];refine⟨dp,by omega,by omega,F,rfl,W',(by show n+1+gA (dp+1)<=80001;omega),λu1 kvs sz fm hu ok bK s0 s1 cb=>?_⟩;obtain⟨m1,nm,pt,bt,rfl⟩:=cb;have fq:m1<=n+1+(gA (dp+1)-1):=bt;clear bt;simp only[ag.d,ag.a,ag.b];w_on;exact fin u1 kvs sz _ _ _ hu ok bK s0 s1 (by omega)
  w_on;refine bL (λe=>?_) λe=>?_
  ·w_on;rw[ep];refine⟨dp,by omega,by omega,F,rfl,W',(by show n+1+gA (dp+1)<=80001;omega),λu1 kvs sz fm hu ok bK s0 s1 cb=>?_⟩;obtain⟨m1,nm,pt,bt,rfl⟩:=cb;have fq:m1<=n+1+(gA (dp+1)-1):=bt;clear bt;simp only[ag.d,ag.a,ag.b];w_on;exact fin u1 kvs sz _ _ _ hu ok bK s0 s1 (by omega)
  w_on;rw[ep];refine⟨dp,by omega,by omega,F,rfl,W',(by show n+1+gA dp<=80000;omega),λu1 kvs sz fm hu ok bK s0 s1 cb=>?_⟩;obtain⟨m1,nm,pt,bt,rfl⟩:=cb;have fq:m1<=n+1+gA dp:=bt;clear bt;simp only[ag.d,ag.a,ag.b];have up:Tm (max (dA dp) 4) (bA dp) (qA u1):=hu.t.mono (by omega) (ar _);w_on;refine bL (λzE=>?_) λzE=>?_
  ·w_on;refine draw (by omega) (by decide) (by decide) λv v0 v1=>?_;w_on;refine bL (λe=>?_) λe=>?_
   ·w_on;exact fin (.one "once" u1 []) kvs sz _ _ _ ⟨⟨by decide,hu.w⟩,(gR (cD _) up).mono q9 (by omega)⟩ (ok.mono q3) bK s0 (by omega) (by omega)
   w_on;refine cI zE ?_;w_on;refine⟨kvs,rfl,ok.mono (by omega),(by show m1+1<=80000;omega),λr cW hr cJ=>?_⟩;obtain⟨m2,a_,rfl⟩:=cJ;have fT:m2<=m1+1+10:=a_;clear a_;w_on;refine draw (by omega) (by decide) (by decide) λv' nW nX=>?_;w_on;exact fin (.one "first" u1 [r,.int v']) kvs sz _ _ _ ⟨⟨by decide,hu.w⟩,(zw (cD _) up (hr.mono (by omega) (ar _)) (G6 (by omega) (by omega))).mono q9 (by omega)⟩ (ok.mono q3) bK s0 (by omega) (by omega)
  w_on;refine bp zE ?_;w_on;rw[IE];refine⟨min 2 (dp+1),kvs,ID,by omega,F,rfl,rfl,ok.mono q5,W',(by show m1+gC (min 2 (dp+1))<=80000;omega),λc cW hc cJ=>?_⟩;obtain⟨m2,gU,gW,a_,rfl⟩:=cJ;have fT:m2<=m1+gC (min 2 (dp+1)):=a_;clear a_;simp only[ag.d,ag.a,ag.b];w_on;exact fin (.pick u1 c) kvs sz _ _ _ ⟨⟨hu.w,hc.w⟩,(gS (cD _) (hu.t.mono (Nat.le_max_left _ (dC (min 2 (dp+1)))) (ar _)) (hc.t.mono (Nat.le_max_right (dA dp) _) (ar _))).mono q8 q6⟩ (ok.mono q3) bK s0 (by omega) (by omega)
end
theorem Xe {n:Nat}{kvs:aS}(h:DD n kvs):∃ ks:aq,kvs.map Prod.snd=ks.map PV.str/\∀ k∈ks,∃ z,.str z∈kvs.map Prod.fst/\kd kvs z=k:=by
 have:∃ ks:aq,kvs.map Prod.snd=ks.map PV.str:=by
  have h2:=h.e;clear h
  induction kvs with
  |nil=>exact⟨[],rfl⟩
  |cons kv r ih=>
   obtain⟨y,k,rfl,_⟩:=h2 kv mem_cons_self;obtain⟨ks,e⟩:=ih λkb hk=>h2 kb (mem_cons_of_mem _ hk);exact⟨k::ks,by simp [e]⟩
 obtain⟨ks,e⟩:=this;refine⟨ks,e,λk hk=>?_⟩;have:PV.str k∈kvs.map Prod.snd:=by rw[e];exact mem_map.mpr ⟨k,hk,rfl⟩
 obtain⟨kv,hm,e1⟩:=mem_map.mp this;obtain⟨z,k',rfl,_,h3⟩:=h.2 kv hm;obtain rfl:k'=k:=by injection e1
 exact⟨z,mem_map.mpr ⟨_,hm,rfl⟩,by unfold kd;rw[h3]⟩
section
variable {P:Program}{w:World}{K:Frag}{mg:aZ}{base:Heap}
variable {m₀:Nat}
theorem kK:bw ["_law_state","_law_frame","_law_mine","_law_yours","_law_pairs","_law_both_here","_law_way_here","_law_one","_law_others","_law_found"] ["_law_state","_law_frame","_law_mine","_law_yours"] (aW wB):=by walk_at "s"
theorem Xf {k:Nat}(D:Df K mg "_law_meeting" wB)(B:Bt mg)(kB:Kn P w K mg base k "_law_merged" (aX K false (cB tN)))(aY:Kn P w K mg base k "_law_take" (spS K false (bP eM)))(fI:Kn P w K mg base k "_law_cond" (spS K false (c0 (lX m₀)))):Kn P w K mg base (k+1) "_law_meeting" (spS K false (c0 (zu (m₀+1)))):=by
 refine D.eK kK (λ_ _ _ _ _ _=>j0 λ_ _ _ _=>rfl) (λ_ _ _=>c0.len) (by decide) (λf aE A outer s H E hr=>⟨_,(sc (se (i:=4) kK.nd (N:=["_law_one","_law_mine","_law_yours"]) (k:=1) (ix:=[2,3]) cS rfl (iv rfl (vf (pF rfl rfl B.sorted (qn 2)))) (λ_ _ _ _=>(aQ (i:=0) (by show(["_law_one","_law_mine","_law_yours"]:aq).Nodup;decide +kernel))) (λ_ _ _ _=>(sf (U8 rfl (qv (ax rfl hr (qn 1) (qn 0))) (vn 2)))) (λ_ _ _ _=>(vn 0)))
  (sc (a9 (i:=5) kK.nd (bH rfl kB hr (ac (vn 2) (ac (vn 3) an))))
  (sc (a9 (i:=6) kK.nd (aN rfl aY hr (ac (vn 0) (ac vi an))))
  (sc (bc (PW.pt (gG (bW rfl hr (qn 4) (qf (el an))) (iT (bW rfl hr (qn 6) (qv vi))))) (s1 (aK (aN rfl fI hr (ac (vn 0) (ac (vn 1) (ac (vn 5) (ac vi an))))))) sn)
  (sc (a9 (i:=7) kK.nd (ax rfl hr (qn 4) (qv (aN rfl aY hr (ac (vn 0) (ac (fG rfl B.len (qn 4)) an))))))
  (sc (se (i:=8) kK.nd (N:=["_law_other","_law_yours","_law_mine","_law_one"]) (k:=1) (ix:=[3,2,7]) cS rfl (iv rfl (vf (pF rfl rfl B.sorted (qn 3)))) (λ_ _ _ _=>(aQ (i:=0) (by show(["_law_other","_law_yours","_law_mine","_law_one"]:aq).Nodup;decide +kernel))) (λ_ _ _ _=>(sf (bW rfl hr (qv (ax rfl hr (qn 1) (qn 0))) (qv (ax rfl hr (qn 2) (qn 3)))))) (λ_ _ _ _=>(vn 0)))
  (sc (a9 (i:=9) kK.nd (et (ac vs (ac (et (ac vs (ac (vn 7) an))) (ac (et (ac vs (ac (ax rfl hr (qn 8) (qv (aN rfl aY hr (ac (vn 0) (ac (fG rfl B.len (qn 8)) an))))) an))) an)))))
  (sc (bc (bW rfl hr (qn 6) (qv vi)) (s1 (aK (et (ac vs (ac (vn 9) (ac (aN rfl fI hr (ac (vn 0) (ac (vn 1) (ac (vn 5) (ac vi an))))) an)))))) sn)
  (s1 (aK (vn 9))))))))))),λB' xs st Q h=>?_⟩)
 obtain⟨x1,x2,x3,rfl,h⟩:=h;change (_:US) (dM false Q) ⟨B',[some (.val (.raw (.ref st.d))),some (.val x1),some (.val x2),some (.val x3),none,none,none,none,none,none],some st⟩;obtain⟨k1,k2,n1,n2,hm,F,rfl,rfl,d1,d2,Z5,W,hn,h⟩:=h;obtain⟨d,a,n,D⟩:=st;have W':dv D:=W;have fw:n+100<=80000:=hn;clear hn;obtain⟨zs,ek,el,hz⟩:=lU d1;obtain⟨ys,fk,fe,hy⟩:=lU d2;obtain⟨vs,ev,pI⟩:=Xe d2;have l1:=d1.1;have l2:=d2.1;w_on;refine aj _ ⟨zs,ek,by omega,rfl⟩ ?_;have sl:(b9 zs).length<=18:=by rw[(d8 _).length_eq];omega
 have all:∀ z∈b9 zs,i9 k1 z:=λz eh=>hz z ((d8 _).mem_iff.mp eh);generalize b9 zs=xs at sl all;w_on;refine yD xs PV.str PV.str (λc=>vs.contains (kd k1 c)) (by omega) ?_ ?_
 ·intro B x hx Rs Rn hs hn;w_on;refine aj _ (all x hx).1 ?_;w_on;refine aj _ ⟨vs,ev,rfl⟩ ?_;w_on;refine bL (λe=>?_) λe=>?_
  ·w_on;exact hs _ e ⟨rfl,rfl⟩ rfl
  ·exact hn _ e ⟨rfl,rfl⟩ rfl
 have fl:(xs.filter λc=>vs.contains (kd k1 c)).length<=18:=bU (length_filter_le ..) sl
 have fa:∀ z∈xs.filter λc=>vs.contains (kd k1 c),i9 k1 z/\∃ y∈ys,kd k2 y=kd k1 z:=λz eh=>by
  obtain⟨h1,h2⟩:=mem_filter.mp eh;rw[contains_iff_mem] at h2;obtain⟨y,IK,Xg⟩:=pI _ h2;rw[fk] at IK;obtain⟨y',Xh,e3⟩:=mem_map.mp IK;obtain rfl:y'=y:=by injection e3
  exact⟨all z h1,y',Xh,Xg⟩
 generalize xs.filter (λc=>vs.contains (kd k1 c))=ms at fl fa;have Xi:=(DD.merge d1 d2).1;have eC:gC 1=90:=rfl;w_on;refine aj _ ⟨_,_,rfl,rfl,by omega,rfl⟩ ?_;w_on;refine draw (by omega) (by decide) (by decide) λu u0 u1=>?_;w_on;refine aj _ (by rw[IA (n:=1) (λy hy=>by obtain⟨z,_,rfl⟩:=mem_map.mp hy;exact jD _ _) (by decide)]) ?_
 have zF:∀(m:Nat)(nm pt:Int)(R:PV->ag->Prop),m<=n+3->(∀(c:Cd) m' fu fv,ky 4 600 c->m'<=m+90->R (qC c) ⟨d,a,m',{ nm:=fu,pt:=fv,x:=D.x,z:=D.z,y:=D.y,tb:=D.tb }⟩)->lX m₀ x1 (.ah (i5 k1 k2)) (.int 1) ⟨d,a,m,{ nm:=nm,pt:=pt,x:=D.x,z:=D.z,y:=D.y,tb:=D.tb }⟩ R:=λm nm pt R bt hR=>
  ⟨1,_,by decide,(by show 2<=m₀;omega),F,rfl,rfl,Xi.mono (by show _<=18;omega),W',(by show m+90<=80000;omega),λc st' hc fX=>by
   obtain⟨m',fu,fv,gP,rfl⟩:=fX
   exact hR c m' fu fv hc gP⟩
 have fin:∀(c:Cd)(m:Nat)(nm pt:Int),ky 5 910 c->m<=n+100->Q (qC c) ⟨d,a,m,{ nm:=nm,pt:=pt,x:=D.x,z:=D.z,y:=D.y,tb:=D.tb }⟩:=λc m nm pt hc hm=>h c _ hc ⟨m,nm,pt,hm,rfl⟩;refine bL (λe=>?_) λe=>?_
 ·w_on;refine zF _ D.nm D.pt _ (by omega) λc m' fu fv hc gP=>?_;w_on;exact fin c _ _ _ (hc.mono (by decide) (by decide)) (by omega)
 w_on;refine bL (λe=>?_) λe=>?_
 ·w_on;refine zF _ D.nm D.pt _ (by omega) λc m' fu fv hc gP=>?_;w_on;exact fin c _ _ _ (hc.mono (by decide) (by decide)) (by omega)
 have ml:(ms.map PV.str).length=ms.length:=length_map ..;have m0:0<ms.length:=by cases ms with|nil=>simp at*| cons _ _=>simp
 w_on;refine draw (by omega) (by omega) (Int.lt_of_le_of_lt (b:=900) (by omega) (by decide)) λv v0 v1=>?_;w_on;refine ef v0 v1 λx hx=>?_;obtain⟨o,ho,rfl⟩:=mem_map.mp hx;obtain⟨IL,y0,Xj,Xk⟩:=fa o ho;w_on;refine aj _ ⟨ys,fk,by omega,rfl⟩ ?_;have k5:(b9 ys).length<=18:=by rw[(d8 _).length_eq];omega
 have all2:∀ z∈b9 ys,i9 k2 z:=λz eh=>hy z ((d8 _).mem_iff.mp eh);have IM:y0∈b9 ys:=(d8 _).mem_iff.mpr Xj;generalize b9 ys=ts at k5 all2 IM;w_on;refine yD ts PV.str PV.str (λc=>kd k2 c==kd k1 o) (by omega) ?_ ?_
 ·intro B x hx Rs Rn hs hn;w_on;refine aj _ (all2 x hx).1 ?_;w_on;refine aj _ IL.1 ?_;w_on;refine bL (λe=>?_) λe=>?_
  ·w_on;exact hs _ e ⟨rfl,rfl⟩ rfl
  ·exact hn _ e ⟨rfl,rfl⟩ rfl
 have gl:(ts.filter λc=>kd k2 c==kd k1 o).length<=18:=bU (length_filter_le ..) k5;have g0:0<(ts.filter λc=>kd k2 c==kd k1 o).length:=length_pos_of_mem (mem_filter.mpr ⟨IM,by simp [Xk]⟩);have ga:∀ z∈ts.filter λc=>kd k2 c==kd k1 o,Sh z:=λz eh=>(all2 z (mem_filter.mp eh).1).2.1;generalize ts.filter (λc=>kd k2 c==kd k1 o)=os at gl g0 ga;have jj:(os.map PV.str).length=os.length:=length_map ..;w_on;refine draw (by omega) (by omega) (Int.lt_of_le_of_lt (b:=900) (by omega) (by decide)) λv' nW nX=>?_;w_on;refine ef nW nX λx hx=>?_;obtain⟨o',e8,rfl⟩:=mem_map.mp hx;have lo:ky 2 150 (.lf "is" [.tup [.str "column",.str o],.tup [.str "column",.str o']]):=⟨(by show("is":Str)∈H4;decide),(gS (cD _) (gR (d:=0) (cD _) (d_ IL.2.1)) (gR (cD _) (d_ (ga o' e8)))).mono (by decide) (by decide)⟩;w_on;refine bL (λe=>?_) λe=>?_
 ·w_on;refine zF _ D.nm D.pt _ (by omega) λc m' fu fv hc gP=>?_;w_on;exact fin (.bo "both" (.lf "is" [.tup [.str "column",.str o],.tup [.str "column",.str o']]) c) _ _ _ ⟨⟨by decide,lo.w,hc.w⟩,(gS (cD _) (lo.t.mono (by decide:2<=4) (ar _)) hc.t).mono (by decide) (by decide)⟩ (by omega)
 ·w_on;exact fin (.lf "is" [.tup [.str "column",.str o],.tup [.str "column",.str o']]) _ D.nm D.pt (lo.mono (by decide) (by decide)) (by omega)
end
theorem Xl {K:Frag}{h:Heap}{mg:aZ}{n:Str}{st:Stmt}{f:Addr}{od an:Option Addr}{sl:Array (Option Value)}{oc kV dc pm cd ct:Value}(X:K.In h)(G:h.Ns mainGlobals mg)(a:PySem.W.nsIn K mainGlobals n=some (some (.ref f)))
  (l:K.lookup f=some ⟨oc,od,.func (PySem.W.fnOf n n (iP st) (fA st) (aW st) .none kV dc pm an cd ct),sl⟩)(c:PySem.W.codeIn K cd n=true)(k:PySem.W.keepIn K (.ref f)=true):Df K mg n st:=⟨_,_,MW (st:=st) l c k,PySem.W.mg_of X G a⟩
theorem Xm (d:Nat):1<=lC d:=by unfold lC;split<;>decide
theorem Xn (d:Nat):1<=lA d:=by cases d<;>simp only[lA]<;>omega
section
variable {P:Program}{w:World}{K:Frag}{mg:aZ}{base:Heap}{x:Str}{st:Stmt}{N ps:aq}{k:Nat}{fr:Bool}
theorem gZ {sp:Sp}(D:Df K mg x st)(S:bw N ps (aW st))(bd:∀(kV doc pm:Value)(an:Option Addr)(aE ct:Value)(us:aC),us.length=ps.length->bindArgs (PySem.W.fnOf x x (iP st) (fA st) (aW st) .none kV doc pm an aE ct) ⟨us,[]⟩=pure (ps.zip us))
  (no:∀ vs H Q E,sp vs H Q E->False):Kn P w K mg base (k+1) x sp:=by
 obtain⟨f,fd,F,m⟩:=D;exact⟨f,fd,ps,F.ok S (λvs H Q E h=>(no _ _ _ _ h).elim) (λ_ _ _ _ _ _ _ _ _ h=>(no _ _ _ _ h).elim),F.binds bd,F.kp,m⟩
theorem uw {G:Rel}(no:∀ xs r,¬ G xs r):∀ vs H Q E,aX K fr G vs H Q E->False:=λvs H Q E h=>by
 obtain⟨B,xs,r,_,_,h,_⟩:=h;exact no xs r h
theorem kL {T:Tr}(no:∀ xs st P,¬ T xs st P):∀ vs H Q E,spS K fr T vs H Q E->False:=λvs H Q E h=>by
 obtain⟨B,xs,st,P,_,_,_,_,_,h,_⟩:=h;exact no xs st P h
end
theorem all_mk {l:PySem.W.OpenLaw}{w:World}{K:Frag}{h:Heap}{mg:aZ}{fa:Addr}(X:K.In h)(G:h.Ns mainGlobals mg)(Xo:mg "law"=some (.ref fa))
  (IP:Df K mg "is_whole" vV)
  (IQ:Df K mg "replaced" vW)
  (IS:Df K mg "asks_within" vX)
  (IT:Df K mg "some_paths" vY)
  (IU:Df K mg "child_paths" vZ)
  (IV:Df K mg "children" v7)
  (IW:Df K mg "path_to" v8)
  (IX:Df K mg "part_at" v9)
  (IY:Df K mg "with_part" v_)
  (IZ:Df K mg "_law_begin" wa)
  (I0:Df K mg "_law_digit" wb)
  (I8:Df K mg "_law_mixed" wc)
  (I9:Df K mg "_law_take" wg)
  (I_:Df K mg "_law_word" wj)
  (Ja:Df K mg "_law_new" wk)
  (Jb:Df K mg "_law_merged" wm)
  (Jc:Df K mg "_law_value" wo)
  (Jd:Df K mg "_law_world" wq)
  (zG:Df K mg "_law_sum" wt)
  (Je:Df K mg "_law_kind" wu)
  (zH:Df K mg "_law_cond" wz)
  (zI:Df K mg "_law_meeting" wB)
  (Jf:Df K mg "_law_part" wD)
  (zJ:Df K mg "_law_shown" wF)
  (zK:Df K mg "_law_both" wG)
  (zL:Df K mg "_law_grouped" wH)
  (Jg:Df K mg "_law_keys" wI)
  (zM:Df K mg "_law_ask" wJ)
  (zN:Df K mg "_law_added" wK)
  (zO:Df K mg "_law_somes" wL)
  (Jh:Df K mg "_law_children" wM)
  (zP:Df K mg "_law_cond_with" wN)
  (zQ:Df K mg "_law_with" wO)
  (Ji:Df K mg "_law_way" wQ)
  (Jj:Df K mg "_law_along" wR)
  (zR:Df K mg "_law_many" wU)
  (Jk:Df K mg "_law_twice_right" wV)
  (Jl:Df K mg "_law_joined" wW)
  (Jm:Df K mg "_law_somes_right" wX)
  (Jn:Df K mg "law" lh)
  {zS zT:Addr}{Xp Xq:Nat}{Xr:Tok}{uy:Addr}{Xs:Option Addr}{Xu:Nat}{Xv:Array (Option Value)}{Xw Xx:Tok}{Xy:Tok}{uz:Addr}{Xz:Option Addr}{XA:Nat}{XB:Array (Option Value)}{XC XD:Tok}{XE:Tok}{uA:Addr}{XF:Option Addr}{XG:Nat}{XH:Array (Option Value)}{XI XJ:Tok}{XM:Tok}{uD:Addr}{XO:Option Addr}{XQ:Nat}{XR:Array (Option Value)}{XS XT:Tok}{XU:Tok}{uE:Addr}{XW:Option Addr}{XX:Nat}{XY:Array (Option Value)}{XZ X0:Tok}{X1:Tok}{uF:Addr}{X2:Option Addr}{X3:Nat}{X4:Array (Option Value)}{X5 X6:Tok}{X7:Tok}{uG:Addr}{X8:Option Addr}{X9:Nat}{X_:Array (Option Value)}{X' Yb:Tok}{Yc:Tok}{uH:Addr}{Yd:Option Addr}{Ye:Nat}{Yg:Array (Option Value)}{Yh Yi:Tok}{Yj:Tok}{uI:Addr}{Yk:Option Addr}{Yl:Nat}{Ym:Array (Option Value)}{Yn Yo:Tok}{Yp:Tok}{uJ:Addr}{Yq:Option Addr}{Yr:Nat}{Ys:Array (Option Value)}{Yt Yu:Tok}{Yv:Tok}{uK:Addr}{Yw:Option Addr}{Yx:Nat}{Yy:Array (Option Value)}{Yz YA:Tok}{YB zU:Tok}{YC zV:Tok}{YD zW:Tok}{YE zX:Tok}{YF zY:Tok}(cA:PySem.W.nsIn K mainGlobals "ASK_SIZES"=some (some (.ref zS)))(cC:PySem.W.nsIn K mainGlobals "COND_PLACES"=some (some (.ref zT)))(mA:K.lookup zS=some ⟨.type "dict",none,.dict (toArray [⟨PyData.keyHash w.params "table",.str "table" Xr,.ref uy⟩,⟨PyData.keyHash w.params "pick",.str "pick" Xy,.ref uz⟩,⟨PyData.keyHash w.params "show",.str "show" XE,.ref uA⟩,⟨PyData.keyHash w.params "join",.str "join" XM,.ref uD⟩,⟨PyData.keyHash w.params "left",.str "left" XU,.ref uE⟩,⟨PyData.keyHash w.params "half",.str "half" X1,.ref uF⟩,⟨PyData.keyHash w.params "lack",.str "lack" X7,.ref uG⟩,⟨PyData.keyHash w.params "once",.str "once" Yc,.ref uH⟩,⟨PyData.keyHash w.params "group",.str "group" Yj,.ref uI⟩,⟨PyData.keyHash w.params "add",.str "add" Yp,.ref uJ⟩,⟨PyData.keyHash w.params "first",.str "first" Yv,.ref uK⟩]) Xp,#[]⟩)(mC:K.lookup zT=some ⟨.type "dict",none,.dict (toArray [⟨PyData.keyHash w.params "pick",.str "pick" YB,.int 2 zU⟩,⟨PyData.keyHash w.params "join",.str "join" YC,.int 3 zV⟩,⟨PyData.keyHash w.params "left",.str "left" YD,.int 3 zW⟩,⟨PyData.keyHash w.params "half",.str "half" YE,.int 3 zX⟩,⟨PyData.keyHash w.params "lack",.str "lack" YF,.int 3 zY⟩]) Xq,#[]⟩)(zZ:K.lookup uy=some ⟨.type "tuple",Xs,.seq #[.int 3 Xw,.int 0 Xx] Xu,Xv⟩)(z_:K.lookup uz=some ⟨.type "tuple",Xz,.seq #[.int 3 XC,.int 1 XD] XA,XB⟩)(Aa:K.lookup uA=some ⟨.type "tuple",XF,.seq #[.int 3 XI,.int 1 XJ] XG,XH⟩)(Ab:K.lookup uD=some ⟨.type "tuple",XO,.seq #[.int 4 XS,.int 2 XT] XQ,XR⟩)(Ac:K.lookup uE=some ⟨.type "tuple",XW,.seq #[.int 4 XZ,.int 2 X0] XX,XY⟩)(Ad:K.lookup uF=some ⟨.type "tuple",X2,.seq #[.int 4 X5,.int 2 X6] X3,X4⟩)(Ae:K.lookup uG=some ⟨.type "tuple",X8,.seq #[.int 4 X',.int 2 Yb] X9,X_⟩)(Af:K.lookup uH=some ⟨.type "tuple",Yd,.seq #[.int 2 Yh,.int 1 Yi] Ye,Yg⟩)(Ag:K.lookup uI=some ⟨.type "tuple",Yk,.seq #[.int 4 Yn,.int 1 Yo] Yl,Ym⟩)(Ah:K.lookup uJ=some ⟨.type "tuple",Yq,.seq #[.int 3 Yt,.int 2 Yu] Yr,Ys⟩)(Ai:K.lookup uK=some ⟨.type "tuple",Yw,.seq #[.int 4 Yz,.int 1 YA] Yx,Yy⟩)(sA:(zS==sysModules)=false)(sC:(zT==sysModules)=false)
  (z1:PySem.W.nsIn K mainGlobals "abs"=some none)(z2:PySem.W.nsIn K mainGlobals "bool"=some none)(z3:PySem.W.nsIn K mainGlobals "dict"=some none)(z4:PySem.W.nsIn K mainGlobals "enumerate"=some none)(z5:PySem.W.nsIn K mainGlobals "int"=some none)(z6:PySem.W.nsIn K mainGlobals "isinstance"=some none)(z7:PySem.W.nsIn K mainGlobals "len"=some none)(z8:PySem.W.nsIn K mainGlobals "list"=some none)(z9:PySem.W.nsIn K mainGlobals "max"=some none)(Jo:PySem.W.nsIn K mainGlobals "min"=some none)(Jp:PySem.W.nsIn K mainGlobals "range"=some none)(Jq:PySem.W.nsIn K mainGlobals "repr"=some none)(Jr:PySem.W.nsIn K mainGlobals "reversed"=some none)(Js:PySem.W.nsIn K mainGlobals "set"=some none)(Jt:PySem.W.nsIn K mainGlobals "sorted"=some none)(Ju:PySem.W.nsIn K mainGlobals "sum"=some none)(Jv:PySem.W.nsIn K mainGlobals "tuple"=some none) :
  ∃ fd:FuncData,(∀(s:Shared)(v:Value),BindsTo s fd ⟨[v],[]⟩ [("_law_script",v)])/\∀ base:Heap,K.In base->base.Ns mainGlobals mg->cT l.prog w K mg base dq 103 fa fd ["_law_script"] (ur K):=by
 have B:Bt mg:=⟨PySem.W.mg_none_of X G z1,PySem.W.mg_none_of X G z2,PySem.W.mg_none_of X G z3,PySem.W.mg_none_of X G z4,PySem.W.mg_none_of X G z5,PySem.W.mg_none_of X G z6,PySem.W.mg_none_of X G z7,PySem.W.mg_none_of X G z8,PySem.W.mg_none_of X G z9,PySem.W.mg_none_of X G Jo,PySem.W.mg_none_of X G Jp,PySem.W.mg_none_of X G Jq,PySem.W.mg_none_of X G Jr,PySem.W.mg_none_of X G Js,PySem.W.mg_none_of X G Jt,PySem.W.mg_none_of X G Ju,PySem.W.mg_none_of X G Jv⟩;have t7:Gd l.prog w K mg "ASK_SIZES" t5:=G4 (PySem.W.mg_of X G cA) sA mA (dg.cons (u:=.ref uy) (v:=.ref uy) rfl (iA zZ) (dg.cons (u:=.ref uz) (v:=.ref uz) rfl (iA z_) (dg.cons (u:=.ref uA) (v:=.ref uA) rfl (iA Aa) (dg.cons (u:=.ref uD) (v:=.ref uD) rfl (iA Ab) (dg.cons (u:=.ref uE) (v:=.ref uE) rfl (iA Ac) (dg.cons (u:=.ref uF) (v:=.ref uF) rfl (iA Ad) (dg.cons (u:=.ref uG) (v:=.ref uG) rfl (iA Ae) (dg.cons (u:=.ref uH) (v:=.ref uH) rfl (iA Af) (dg.cons (u:=.ref uI) (v:=.ref uI) rfl (iA Ag) (dg.cons (u:=.ref uJ) (v:=.ref uJ) rfl (iA Ah) (dg.cons (u:=.ref uK) (v:=.ref uK) rfl (iA Ai) (dg.nil)))))))))))) (by decide +kernel);have pY:Gd l.prog w K mg "COND_PLACES" t6:=G4 (PySem.W.mg_of X G cC) sC mC (dg.cons (u:=.int 2 zU) (v:=.int 2) ⟨zU,rfl⟩ (λ_ _=>.int _) (dg.cons (u:=.int 3 zV) (v:=.int 3) ⟨zV,rfl⟩ (λ_ _=>.int _) (dg.cons (u:=.int 3 zW) (v:=.int 3) ⟨zW,rfl⟩ (λ_ _=>.int _) (dg.cons (u:=.int 3 zX) (v:=.int 3) ⟨zX,rfl⟩ (λ_ _=>.int _) (dg.cons (u:=.int 3 zY) (v:=.int 3) ⟨zY,rfl⟩ (λ_ _=>.int _) (dg.nil)))))) (by decide +kernel);obtain⟨fl,fld,Fl,ml⟩:=Jn;have e:=Xo.symm.trans ml;cases e;refine⟨fld,?_,λbase Kb Gb=>?_⟩
 ·obtain⟨_,_,_,_,_,_,_,_,_,rfl,_⟩:=Fl.ex;exact λs u=>.of_eq rfl
 obtain⟨Z6,Z7,Aj,YG⟩:=I0;have YH:=Aj.binds (ps:=["_law_state","_law_most"]) (λ_ _ _ _ _ _=>fc λ_ _=>rfl);obtain⟨Z8,Z9,Al,YI⟩:=I8;have YJ:=Al.binds (ps:=["_law_state","_law_most"]) (λ_ _ _ _ _ _=>fc λ_ _=>rfl);obtain⟨Jw,Z_,aY,Jx⟩:=I9;have Jy:=aY.binds (ps:=["_law_state","_law_most"]) (λ_ _ _ _ _ _=>fc λ_ _=>rfl);obtain⟨Z',ydD,Am,YK⟩:=IZ;have YL:=Am.binds (ps:=["_law_script"]) (λ_ _ _ _ _ _=>gD λ_=>rfl);have GT:cT l.prog w K mg base dq 2 Jw _ ["_law_state","_law_most"] (j5 K):=ND aY (NA Aj B) YH Aj.kp YG (NB Al B) YJ Al.kp YI;have YM:Tk l.prog w K mg base Jw _:=⟨GT,Jy,aY.kp,Jx⟩;have YN:Kn l.prog w K mg base 3 "_law_begin" (w9 K):=⟨_,_,_,N6 Am B YM,YL,Am.kp,YK⟩;have fV:Kn l.prog w K mg base 2 "_law_take" (spS K false (bP eM)):=⟨_,_,_,GT.imp (λvs H Q E h=>by obtain⟨B,xs,st,P,q1,q2,q3,q4,q5,q6,q7⟩:=h;exact QF ⟨B,xs,st,P,q1,q2,q3,q4,q5,take2 q6,q7⟩),Jy,aY.kp,Jx⟩;have Jz:=VG (P:=l.prog) (w:=w) (base:=base) (k:=0) I_ B;have YO:=Wt (P:=l.prog) (w:=w) (base:=base) (k:=2) Jc B (aY:=fV.mono (by decide));have YQ:=Wu (P:=l.prog) (w:=w) (base:=base) (k:=3) Jd B (kx:=Jz.mono (by decide)) (aY:=fV.mono (by decide)) (HN:=YO.mono (by decide));have JA:=VO (P:=l.prog) (w:=w) (base:=base) (k:=2) Je B (aY:=fV.mono (by decide))
 have YR:∀ m,Kn l.prog w K mg base (2+m) "_law_sum" (spS K false (c0 (nD m))):=λm=>by
  induction m with
  | zero=>exact gZ (k:=1) zG pN (λ_ _ _ _ _ _=>j0 λ_ _ _ _=>rfl) (kL λ_ _ _ ⟨_,_,_,_,j,hj,h⟩=>by
    cases Nat.le_zero.mp hj
    exact h)
  |succ m ih=>exact VP (m₀:=m) (k:=2+m) zG B (aY:=fV.mono (by omega)) (fH:=ih)
 have An:=YR 3;have Ao:=VI (P:=l.prog) (w:=w) (base:=base) (k:=0) Jb B;have uL:=VH (P:=l.prog) (w:=w) (base:=base) (k:=1) Ja B (kx:=Jz.mono (by decide));have JB:=VL (P:=l.prog) (w:=w) (base:=base) (k:=2) Jf B (iB:=uL.mono (by decide)) (aY:=fV.mono (by decide));have YS:=WS (P:=l.prog) (w:=w) (base:=base) (k:=2) Jg B (aY:=fV.mono (by decide))
 have J:∀ m,Kn l.prog w K mg base (5+m) "_law_cond" (spS K false (c0 (lX m)))/\Kn l.prog w K mg base (5+m) "_law_ask" (spS K false (cZ (jH m)))/\Kn l.prog w K mg base (5+m) "_law_meeting" (spS K false (c0 (zu m)))/\Kn l.prog w K mg base (5+m) "_law_shown" (spS K false (cZ (iI m)))/\Kn l.prog w K mg base (5+m) "_law_both" (spS K false (c0 (zv m)))/\Kn l.prog w K mg base (5+m) "_law_grouped" (spS K false (cZ (iI m)))/\Kn l.prog w K mg base (5+m) "_law_added" (spS K false (cZ (iI m))):=λm=>by
  induction m with
  | zero=>exact⟨gZ (k:=4) zH kA (λ_ _ _ _ _ _=>j0 λ_ _ _ _=>rfl) (kL λ_ _ _ ⟨_,_,_,_,deep,kvs,hd,h,_⟩=>by have:=Xm deep;omega),
    gZ (k:=4) zM nZ (λ_ _ _ _ _ _=>fL λ_ _ _=>rfl) (kL λ_ _ _ ⟨_,_,_,deep,hd,h,_⟩=>by have:=Xn deep;omega),
    gZ (k:=4) zI kK (λ_ _ _ _ _ _=>j0 λ_ _ _ _=>rfl) (kL λ_ _ _ ⟨_,_,_,_,k1,k2,n1,n2,h,_⟩=>by omega),
    gZ (k:=4) zJ iF (λ_ _ _ _ _ _=>fL λ_ _ _=>rfl) (kL λ_ _ _ ⟨_,_,_,d,_,h,_⟩=>by omega),
    gZ (k:=4) zK jI (λ_ _ _ _ _ _=>j0 λ_ _ _ _=>rfl) (kL λ_ _ _ ⟨_,_,_,_,d,t,_,h,_⟩=>by omega),
    gZ (k:=4) zL gj (λ_ _ _ _ _ _=>fL λ_ _ _=>rfl) (kL λ_ _ _ ⟨_,_,_,d,_,h,_⟩=>by omega),
    gZ (k:=4) zN gY (λ_ _ _ _ _ _=>fL λ_ _ _=>rfl) (kL λ_ _ _ ⟨_,_,_,d,_,h,_⟩=>by omega)⟩
  |succ m ih=>
   obtain⟨uM,n5,YT,YU,YV,YW,YX⟩:=ih
   exact⟨VR (m₀:=m) (k:=5+m) zH B (aY:=fV.mono (by omega)) (pO:=JA.mono (by omega)) (dh:=n5) (fI:=uM) (fH:=An.mono (by omega)) (kB:=Ao.mono (by omega)),
    Xa (m₀:=m) (k:=5+m) zM B (dh:=n5) (aY:=fV.mono (by omega)) (qa:=JB.mono (by omega)) (IF:=YU) (IG:=YV) (IH:=YW) (II:=YX) (fI:=uM) (IJ:=YS.mono (by omega)),
    Xf (m₀:=m) (k:=5+m) zI B (kB:=Ao.mono (by omega)) (aY:=fV.mono (by omega)) (fI:=uM),
    WV (m₀:=m) (k:=5+m) zJ B (dh:=n5) (aY:=fV.mono (by omega)) (iB:=uL.mono (by omega)) (fH:=An.mono (by omega)),
    WZ (m₀:=m) (k:=5+m) zK B (dh:=n5) (Iz:=YT) (kB:=Ao.mono (by omega)),
    W2 (m₀:=m) (k:=5+m) zL B (dh:=n5) (iB:=uL.mono (by omega)) (aY:=fV.mono (by omega)),
    W9 (m₀:=m) (k:=5+m) zN B (dh:=n5) (iB:=uL.mono (by omega)) (pO:=JA.mono (by omega)) (aY:=fV.mono (by omega)) (fH:=An.mono (by omega)) (fI:=uM)⟩
 obtain⟨ydK,YY,ydz,ydI,ydL,ydA,ydJ⟩:=J 10
 have YZ:∀ m,Kn l.prog w K mg base (1+m) "_law_somes" (aX K false (bX (tR m))):=λm=>by
  induction m with
  |zero=>exact gZ (k:=0) zO pP (λ_ _ _ _ _ _=>gD λ_=>rfl) (uw λ_ _ ⟨_,_,c,_,_,h,_⟩=>by have:=Hi c;omega)
  |succ m ih=>exact VU (m₀:=m) (k:=1+m) zO B (lY:=ih)
 have Y0:=YZ 50;have qi:=VY (P:=l.prog) (w:=w) (base:=base) (k:=51) Jh B (lY:=Y0.mono (by decide));have Y1:=Wx (P:=l.prog) (w:=w) (base:=base) (k:=52) Ji B (aY:=fV.mono (by decide)) (eN:=qi.mono (by decide));have Y2:=Wh (P:=l.prog) (w:=w) (base:=base) (k:=0) IT B;have Y3:=We (P:=l.prog) (w:=w) (base:=base) (k:=0) IS B (t7:=t7);have JC:=Wk (P:=l.prog) (w:=w) (base:=base) (k:=1) IU B (pY:=pY) (HC:=Y2.mono (by decide)) (HD:=Y3.mono (by decide));have Y4:=Wb (P:=l.prog) (w:=w) (base:=base) (k:=0) IP B;have JD:=Wn (P:=l.prog) (w:=w) (base:=base) (k:=2) IW B (pZ:=JC.mono (by decide)) (HF:=Y4.mono (by decide));have Y5:=Wc (P:=l.prog) (w:=w) (base:=base) (k:=0) IQ B;have Ap:=Wr (P:=l.prog) (w:=w) (base:=base) (k:=3) IY B (p6:=JD.mono (by decide)) (HJ:=Y5.mono (by decide));have Aq:=Wm (P:=l.prog) (w:=w) (base:=base) (k:=2) IV B (pZ:=JC.mono (by decide));have Y6:=Wy (P:=l.prog) (w:=w) (base:=base) (k:=52) Jj B (iE:=Aq.mono (by decide)) (eN:=qi.mono (by decide));have Ar:=Wq (P:=l.prog) (w:=w) (base:=base) (k:=3) IX B (p6:=JD.mono (by decide))
 have Y7:∀ m,Kn l.prog w K mg base (52+m) "_law_many" (aX K false (bX (tS m))):=λm=>by
  induction m with
  |zero=>exact gZ (k:=51) zR Hl (λ_ _ _ _ _ _=>gD λ_=>rfl) (uw λ_ _ ⟨_,_,a,_,_,h,_⟩=>by have:=VT a;omega)
  |succ m ih=>exact VZ (m₀:=m) (k:=52+m) zR B (nH:=ih) (eN:=qi.mono (by omega))
 have Y8:=Y7 50;have Y9:=WA (P:=l.prog) (w:=w) (base:=base) (k:=4) Jk B (iE:=Aq.mono (by decide)) (jb:=Ap.mono (by decide)) (gX:=Ar.mono (by decide));have Y_:=WB (P:=l.prog) (w:=w) (base:=base) (k:=0) Jl B;have Y':=WC (P:=l.prog) (w:=w) (base:=base) (k:=4) Jm B (zo:=Y_.mono (by decide)) (iE:=Aq.mono (by decide)) (jb:=Ap.mono (by decide)) (gX:=Ar.mono (by decide))
 have Za:∀ m,Kn l.prog w K mg base (1+m) "_law_cond_with" (aX K false (dz (tU m))):=λm=>by
  induction m with
  |zero=>exact gZ (k:=0) zP kH (λ_ _ _ _ _ _=>fL λ_ _ _=>rfl) (uw λ_ _ ⟨_,_,_,_,c,_,_,_,_,_,_,h,_⟩=>by have:=Hi c;omega)
  |succ m ih=>exact V2 (m₀:=m) (k:=1+m) zP B (nI:=ih)
 have Zb:=Za 50
 have Zc:∀ m,Kn l.prog w K mg base (52+m) "_law_with" (aX K false (dz (tZ m))):=λm=>by
  induction m with
  |zero=>exact gZ (k:=51) zQ nO (λ_ _ _ _ _ _=>fL λ_ _ _=>rfl) (uw λ_ _ ⟨_,_,_,_,_,_,_,_,_,_,_,_,_,_,_,h,_⟩=>by omega)
  |succ m ih=>exact V6 (m₀:=m) (k:=52+m) zQ B (pR:=ih) (nI:=Zb.mono (by omega)) (eN:=qi.mono (by omega))
 have Zd:=Zc 8;exact WH (k:=102) Fl B (YN.mono (by decide)) (Ig:=YQ.mono (by decide)) (dh:=YY.mono (by decide)) (Ih:=Y1.mono (by decide)) (qa:=JB.mono (by decide)) (jb:=Ap.mono (by decide)) (aY:=fV.mono (by decide)) (Ii:=Y6.mono (by decide)) (gX:=Ar.mono (by decide)) (eN:=qi.mono (by decide)) (nH:=Y8.mono (by decide)) (Ij:=Y9.mono (by decide)) (Ik:=Y'.mono (by decide)) (pR:=Zd.mono (by decide))
theorem walk {l:PySem.W.OpenLaw}{q:Program}{loose:aq}{XP:(aZ)->Heap->Prop}{YP:World->Heap->Prop}{d:DefRec}{K:Params->Frag}(hn:l.most=some 63)(oK:d.params.defaults=[])
  (hY:∀(w:World)(h:Heap),YP w h->(K w.params).In h)
  (F:∀(w:World)(mg:aZ)(fa:Addr)(h:Heap),(K w.params).In h->h.Ns mainGlobals mg->mg d.name=some (.ref fa) ->
   ∃ fd:FuncData,(∀(s:Shared)(u:Value),BindsTo s fd ⟨[u],[]⟩ [("_law_script",u)])/\∀ base:Heap,(K w.params).In base->base.Ns mainGlobals mg->cT l.prog w (K w.params) mg base dq 103 fa fd ["_law_script"] (ur (K w.params))) :
  PySem.W.WalkO q loose XP YP l.row.toRowW d [] (λf vs=>PySem.call f vs):=
 L2.MV (n:=63) (k:=103) (x:="_law_script") (CX:=λ_=>dq) (sp:=λw=>ur (K w.params)) hn (by decide) oK ⟨rfl,by decide,by decide,rfl⟩ hY F (λ_ _ a ns hl hO hS=>⟨a,ns,rfl,hO,hS,hl,λ_=>rfl⟩) λ_ _ _ _ _ z=>z
end cU
open PySem PySem.W PyProof.Rows
set_option maxRecDepth 100000 in
set_option maxHeartbeats 0 in
theorem PySem.Challenge.cw_everyplan_k12_parts_at_ways_holds : PySem.Challenge.rw_everyplan_k12_parts_at_ways.Holds := by
 refine holds_law cU.NI λZe=>?_
 refine holds_open (r:=PySem.Challenge.rw_everyplan_k12_parts_at_ways.row) (q:=cU.j6) (loose:=cU.rA) (Xt:=λs=>xlAt cU.j6 [] s&&recOk [] s) (XP:=XL cU.j6 []) (Yf:=Hook.obs (kHook cU.oU cU.oV cU.rE)) (Ya:=Hook.val (kHook cU.oU cU.oV cU.rE)) (YP:=Hook.says (kHook cU.oU cU.oV cU.rE)) (N:=1700)
  (d:={ name:="law",params:=L2.iP cU.lh,body:=L2.fA cU.lh,scope:=L2.aW cU.lh,pos:=cU.lh.pos }) (kwd:=[])
  cU.N5 (Hook.of _) (Hook.keeps _) (λs e=>xl_of s (Bool.and_eq_true_iff.mp e).1) XL.keeps (by kernel_rfl) (by kernel_rfl) (by kernel_rfl)
  (λs e=>recFacts_of (Bool.and_eq_true_iff.mp e).2) (by rfl) Ze (by kernel_rfl) ⟨rfl,rfl,rfl,rfl,rfl,by decide +kernel⟩ ?hw ?hc
 case hw=>w_witness2
 k_fill
 refine cU.walk (l:=PySem.Challenge.rw_everyplan_k12_parts_at_ways) rfl rfl (λw h Y=>PySem.W.kIn_of Y) ?F
 case F=>
  intro w mg fa h KX G oM;refine' cU.all_mk KX G oM ?IP ?IQ ?IS ?IT ?IU ?IV ?IW ?IX ?IY ?IZ ?I0 ?I8 ?I9 ?I_ ?Ja ?Jb ?Jc ?Jd ?zG ?Je ?zH ?zI ?Jf ?zJ ?zK ?zL ?Jg ?zM ?zN ?zO ?Jh ?zP ?zQ ?Ji ?Jj ?zR ?Jk ?Jl ?Jm ?Jn ?cA ?cC ?mA ?mC ?zZ ?z_ ?Aa ?Ab ?Ac ?Ad ?Ae ?Af ?Ag ?Ah ?Ai ?sA ?sC ?z1 ?z2 ?z3 ?z4 ?z5 ?z6 ?z7 ?z8 ?z9 ?Jo ?Jp ?Jq ?Jr ?Js ?Jt ?Ju ?Jv
  (case cA=>k_is)
  (case cC=>k_is)
  (case mA=>k_is)
  (case mC=>k_is)
  (case zZ=>k_is)
  (case z_=>k_is)
  (case Aa=>k_is)
  (case Ab=>k_is)
  (case Ac=>k_is)
  (case Ad=>k_is)
  (case Ae=>k_is)
  (case Af=>k_is)
  (case Ag=>k_is)
  (case Ah=>k_is)
  (case Ai=>k_is)
  (case sA=>rfl)
  (case sC=>rfl)
  all_goals first|(apply cU.Xl KX G;iterate 4 k_is)|k_is
