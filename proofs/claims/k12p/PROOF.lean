import PyProof.Rows.All
import Wide.All
import OpenK.AllK
import Wide.FinOn
import Lean
import PyProof.EqAt
import PyProof.EqKinds
import PyProof.TupleCall
import PyProof.ZipIter
import PyProof.Draws
import PySem.Challenge.RW_everyplan_k12_parts_at_ways
import PyProof.SetKind
import PyProof.WalksS
import PyProof.CollectWalk
import PyProof.DictKinds
import KE.KEqDict
import PyProof.Rows.TupAdd
import PyProof.NeKinds
import PyProof.MeetsSeq
import KE.KDictList
import PyProof.Rows.EnumRows
import PyProof.SumWalkG
import PyProof.DictItems
import PyProof.DictValues
import PyProof.DictWalks
import PyProof.ReprRoads
import PyProof.WalksEnum
open PySem.W(Frag)
set_option Elab.async false
set_option linter.all false
set_option genSizeOf false
set_option compiler.extract_closed false
set_option maxRecDepth 100000
set_option maxHeartbeats 8000000
local macro_rules|`(tactic| walk_at "s") => `(tactic| exact ⟨rfl, rfl, rfl, by decide +kernel, rfl, by decide +kernel, by decide +kernel⟩)
local macro_rules|`(tactic| walk_at "v") => `(tactic| first|exact Or.inl rfl|exact Or.inr (Or.inl rfl)|exact Or.inr (Or.inr rfl))
open List
noncomputable abbrev aG:=PySem.Value->PySem.Shared->Prop
noncomputable abbrev aO:=List (PySem.Addr×PySem.Obj)
noncomputable abbrev a0:=PySem.Str->Option PySem.Value
noncomputable abbrev aq:=List PySem.Str
noncomputable abbrev aC:=List PySem.Value
noncomputable abbrev af:=@PySem.wpAny_bind
noncomputable abbrev ao:=@PySem.wpAny_pure
noncomputable abbrev a9:=@PySem.Heap.get?_push_of_some
noncomputable abbrev a7:=@PySem.Heap.lt_size
noncomputable abbrev ar:=@Nat.le_refl
noncomputable abbrev aP:=@Nat.le_trans
noncomputable abbrev bJ:=@Nat.ne_of_lt
noncomputable abbrev dF:=@Nat.lt_of_lt_of_le
noncomputable abbrev b7:=@PySem.Heap.get?_push_size
theorem c7 {α:Type _}{l:List α}{i:Nat}{a:α}(h:l[i]?=some a):∃ h:i<l.length,l[i]=a:=List.getElem?_eq_some_iff.mp h
theorem cg {α:Type _}{l:List α}{i:Nat}(h:i<l.length):l[i]?=some l[i]:=List.getElem?_eq_getElem h
namespace L2
open PySem PySem.Spec PyProof.Rows
noncomputable abbrev Key:=Sum Int Str
noncomputable def jd:Key->Value->Bool
 |.inl k,v=>Value.isInt k v
 |.inr x,v=>Value.isStrOf x v
noncomputable def JU (w:World):Key->Int
 |.inl k=>hashInt k
 |.inr x=>hashStr w x
theorem g4:∀{k:Key}{v:Value},jd k v=true->(∃ i t,k=Sum.inl i/\v=Value.int i t)\/(∃ x t,k=Sum.inr x/\v=Value.str x t)
 |.inl i,v,h=>by
  obtain⟨t,e⟩:=Value.isInt_shape (k:=i) (v:=v) h;exact .inl ⟨i,t,rfl,e⟩
 |.inr x,v,h=>by
  obtain⟨t,e⟩:=Value.isStrOf_shape (x:=x) (v:=v) h;exact .inr ⟨x,t,rfl,e⟩
theorem JV (i:Int)(t:Tok):jd (.inl i) (.int i t)=true:=by simp [jd,Value.isInt]
theorem u3 (x:Str)(t:Tok):jd (.inr x) (.str x t)=true:=by simp [jd,Value.isStrOf]
theorem JW (a b:Int):decide ((Sum.inl a:Key)=Sum.inl b)=(a==b):=by
 by_cases e:a=b
 ·subst e;simp
 ·have h:¬ (Sum.inl a:Key)=Sum.inl b:=λq=>e (Sum.inl.inj q);rw[decide_eq_false h];exact(beq_eq_false_iff_ne.mpr e).symm
theorem JX (a b:Str):decide ((Sum.inr a:Key)=Sum.inr b)=decide (a=b):=by
 by_cases e:a=b
 ·subst e;simp
 ·have h:¬ (Sum.inr a:Key)=Sum.inr b:=λq=>e (Sum.inr.inj q);rw[decide_eq_false h,decide_eq_false e]
theorem JY (a:Int)(b:Str):decide ((Sum.inl a:Key)=Sum.inr b)=false:=decide_eq_false (λq=>nomatch q)
theorem JZ (a:Str)(b:Int):decide ((Sum.inr a:Key)=Sum.inl b)=false:=decide_eq_false (λq=>nomatch q)
noncomputable def bN (prog:Program)(w:World):PySem.KeyKind prog w Key where
 is:=jd
 hash:=JU w
 inj:=λv a b ha hb=>by
  rcases g4 ha with ⟨i,t,rfl,rfl⟩|⟨x,t,rfl,rfl⟩
  ·rcases g4 hb with ⟨j,u,rfl,e⟩|⟨y,u,rfl,e⟩
   ·injection e with e1 _;rw[e1]
   ·exact nomatch e
  ·rcases g4 hb with ⟨j,u,rfl,e⟩|⟨y,u,rfl,e⟩
   ·exact nomatch e
   ·injection e with e1 _;rw[e1]
 byValue:=λk v h=>by
  rcases g4 h with ⟨i,t,rfl,rfl⟩|⟨x,t,rfl,rfl⟩<;>rfl
 pyHash:=λhv h=>by
  rcases g4 hv with ⟨i,t,rfl,rfl⟩|⟨x,t,rfl,rfl⟩
  ·exact wpAny_pyHash_int h
  ·exact wpAny_pyHash_str h
 eqBool:=λhu hv h=>by
  rcases g4 hu with ⟨i,t,rfl,rfl⟩|⟨x,t,rfl,rfl⟩
  ·rcases g4 hv with ⟨j,u,rfl,rfl⟩|⟨y,u,rfl,rfl⟩
   ·rw[JW] at h;exact wpAny_eqBool_int h
   ·rw[JY] at h;exact SeqAt.EqAt.int_str i t y u _ _ _ _ h
  ·rcases g4 hv with ⟨j,u,rfl,rfl⟩|⟨y,u,rfl,rfl⟩
   ·rw[JZ] at h;exact SeqAt.EqAt.str_int x t j u _ _ _ _ h
   ·rw[JX] at h;exact wpAny_eqBool_str h
 «strs»:=λk x t v h=>by
  rcases g4 h with ⟨i,u,rfl,e⟩|⟨y,u,rfl,e⟩
  ·exact nomatch e
  ·injection e with e1 _
   subst e1;cases v<;>rfl
theorem J0 (prog:Program)(w:World)(i:Int)(t:Tok):(bN prog w).is (.inl i) (.int i t)=true:=JV i t
theorem J1 (prog:Program)(w:World)(x:Str)(t:Tok):(bN prog w).is (.inr x) (.str x t)=true:=u3 x t
inductive V where
 |non|bl (b:Bool)|int (i:Int)|str (x:Str)|fW (b:Array UInt8)|mi (b:UInt64)|ref (a:Addr)|ty (n:String)
 deriving DecidableEq
noncomputable abbrev Zv:=List V
noncomputable abbrev bj:=List (Key×V)
noncomputable def RelV:V->Value->Prop
 |.non,u=>u=Value.none
 |.bl b,u=>u=Value.bool b
 |.int i,u=>∃ t,u=Value.int i t
 |.str x,u=>∃ t,u=Value.str x t
 |.fW b,u=>∃ t,u=Value.bytes b t
 |.mi b,u=>∃ t,u=Value.float b t
 |.ref a,u=>u=Value.ref a
 |.ty n,u=>u=Value.type n
noncomputable abbrev Vals:Zv->aC->Prop:=Paired RelV
theorem Vals.length {xs:Zv}{us:aC}(r:Vals xs us):xs.length=us.length:=Paired.length r
theorem Vals.get:∀{xs:Zv}{us:aC}{i:Nat}{x:V},Vals xs us->xs[i]?=some x->∃ u,us[i]?=some u/\RelV x u
 |_,_,_,_,.nil,e=>by simp at e
 |_,_,0,_,.cons r _,e=>by simp at e;subst e;exact⟨_,rfl,r⟩
 |_,_,i+1,x,.cons _ t,e=>by
  obtain⟨u,h1,h2⟩:=Vals.get (i:=i) (x:=x) t (by simpa using e);exact⟨u,by simpa using h1,h2⟩
theorem Vals.set {x:V}{u:Value}(r:RelV x u):∀{xs:Zv}{us:aC}(i:Nat),Vals xs us->Vals (xs.set i x) (us.set i u)
 |_,_,_,.nil=>.nil
 |_,_,0,.cons _ t=>.cons r t
 |_,_,i+1,.cons q t=>.cons q (Vals.set r i t)
theorem Vals.append:∀{xs ys:Zv}{us ws:aC},Vals xs us->Vals ys ws->Vals (xs++ys) (us++ws)
 |_,_,_,_,.nil,s=>s
 |_,_,_,_,.cons r t,s=>.cons r (Vals.append t s)
theorem Vals.take:∀{xs:Zv}{us:aC}(n:Nat),Vals xs us->Vals (xs.take n) (us.take n)
 |_,_,0,_=>.nil
 |_,_,_+1,.nil=>.nil
 |_,_,n+1,.cons r t=>.cons r (Vals.take n t)
theorem Vals.drop:∀{xs:Zv}{us:aC}(n:Nat),Vals xs us->Vals (xs.drop n) (us.drop n)
 |_,_,0,r=>r
 |_,_,_+1,.nil=>.nil
 |_,_,n+1,.cons _ t=>Vals.drop n t
noncomputable def g5:Option V->Option Value->Prop
 |some v,some u=>RelV v u
 |none,none=>True
 |_,_=>False
noncomputable def KV {κ:Type}:List (κ×V)->List (κ×Value)->Prop:=Paired fun(p:κ×V)(q:κ×Value)=>p.1=q.1/\RelV p.2 q.2
noncomputable def kV:Key->V
 |.inl i=>.int i
 |.inr x=>.str x
inductive HO where
 |lst (xs:Zv)
 |tup (xs:Zv)
 |dK (kvs:bj)|dT (kvs:List (List Key×V))
 |set (S:Int->Bool)(n:Nat)
 |ins (C dx:Addr)(fs:List (Str×V))
 |own (x:Addr)
 |xd (fs:List (Str×V))
 |met (f x:Addr)
 |u4 (lo hi:Int)
 |bD (o:Obj)(u:HO)
 |g6 (ps:Array Value)
 |kQ (q:Str)
 |ext (φ:Heap->Prop)
noncomputable abbrev Hp:=Addr->Option HO
noncomputable def upd (H:Hp)(a:Addr)(o:HO):Hp:=λb=>if b=a then some o else H b
theorem bE {H:Hp}{a:Addr}{o:HO}:upd H a o a=some o:=by unfold upd;rw[if_pos rfl]
theorem a8 {H:Hp}{a b:Addr}{o:HO}(h:b≠a):upd H a o b=H b:=by unfold upd;rw[if_neg h]
theorem u5 {H:Hp}{a b:Addr}{o u:HO}(h:H a=some o)(h':H b=some u)(d:o≠u):a≠b:=by
 intro e;subst e;rw[h] at h';exact d (Option.some.inj h')
theorem dG {H:Hp}{a b:Addr}{o:HO}(h:H a=some o)(h':H b=none):a≠b:=by
 intro e;subst e;rw[h] at h';cases h'
section
variable (P:Program)(w:World)
noncomputable def cQ (H:Hp)(h:Heap)(a:Addr):HO->Prop
 |.lst xs=>xs.length<=sizeLine/\∃(its:aC)(n:Nat),Vals xs its/\h.get? a=some { cls:=.type "list",data:=.seq its.toArray n }
 |.tup xs=>xs.length<=sizeLine/\∃ its:aC,Vals xs its/\IsTup h a its.toArray
 |.dK kvs=>kvs.length<=sizeLine/\(a==sysModules)=false/\∃ vs,KV kvs vs/\h.DictOf (bN P w) a vs
 |.dT kvs=>kvs.length<=sizeLine/\(a==sysModules)=false/\∃ xs:List (List Key×Addr×Value),
   Paired (fun(p:List Key×V)(q:List Key×Addr×Value)=>p.1=q.1/\H q.2.1=some (.tup (p.1.map kV))/\RelV p.2 q.2.2) kvs xs /\
   ∃ o es ep,h.get? a=some o/\o.ExactDict/\o.data=.dict es ep/\es.toList=xs.map (entryOfKey (tupleKind (bN P w)))/\(xs.map (·.1)).Nodup
 |.set S n=>h.SetOf (intKind P w) a S n
 |.ins C dx fs=>H dx=some (.own a)/\fs.length<=1000/\dx≠a/\h.get? a=some (PySem.W.instObj C dx) /\
   ∃ mA,h.Ns1 dx mA/\(∀ f,g5 (fs.lookup f) (mA f))/\PySem.Within mA (fs.map (·.1))
 |.own _=>∃ o,h.get? a=some o
 |.xd fs=>∃ mA,h.Ns1 a mA/\∀ f,g5 (fs.lookup f) (mA f)
 |.u4 lo hi=>∃ t u v,h.get? a=some { cls:=.type "range",data:=.fields #[.int lo t,.int hi u,.int 1 v] }
 |.bD o u=>(h.get? a=some o/\∀ xs,u≠.tup xs)/\cQ H h a u
 |.g6 ps=>∃ more:Array Value,h.get? a=some { cls:=.none,data:=.fields more }/\(more=#[]\/∃(c:Addr)(q:Str)(k:Tok)(l m:Nat),more=#[rawInt l,rawInt m,.ref c]/\ps=#[.str q k,rawInt l,rawInt m]/\H c=some (.kQ q))
 |.kQ q=>h.CodeRec (.ref a) q
 |.met f x=>h.get? a=some (PySem.W.methodObj (.ref f) (.ref x))
 |.ext φ=>φ h/\(∃ o,h.get? a=some o)/\∀ h1 h2:Heap,φ h1->(∀ o,h1.get? a=some o->h2.get? a=some o)->φ h2
noncomputable def cu (H:Hp)(h:Heap):Prop:=∀ a o,H a=some o->cQ P w H h a o
end
section
variable {P:Program}{w:World}{H H':Hp}{h h':Heap}{a:Addr}{o:HO}
theorem cQ.lt (x:cQ P w H h a o):a<h.objs.size:=by
 cases o with
 |lst xs=>obtain⟨_,_,_,_,e⟩:=x;exact a7 e
 |tup xs=>obtain⟨_,_,_,p⟩:=x;exact p.lt
 |dK kvs=>obtain⟨_,_,_,_,o,_,_,e,_⟩:=x;exact a7 e
 |dT kvs=>obtain⟨_,_,_,_,o,_,_,e,_⟩:=x;exact a7 e
 |set S n=>obtain⟨o,_,_,_,e,_⟩:=x;exact a7 e
 |ins C dx fs=>obtain⟨_,_,_,e,_⟩:=x;exact a7 e
 |own y=>obtain⟨_,e⟩:=x;exact a7 e
 |xd fs=>obtain⟨_,⟨_,_,_,e,_⟩,_⟩:=x;exact a7 e
 |u4 lo hi=>obtain⟨_,_,_,e⟩:=x;exact a7 e
 |bD ob u=>obtain⟨⟨e,_⟩,_⟩:=x;exact a7 e
 |g6 ps=>obtain⟨_,e,_⟩:=x;exact a7 e
 |kQ q=>obtain⟨c,o,vs,t,e,e1,_⟩:=x;cases e;exact a7 e1
 |met f y=>exact a7 (show h.get? a=some _ from x)
 |ext φ=>obtain⟨_,⟨_,e⟩,_⟩:=x;exact a7 e
theorem Paired.u6 {α β:Type}{F G:α->β->Prop}:∀{AK:List α}{AL:List β},Paired F AK AL->(∀ a b,F a b->G a b)->Paired G AK AL
 |_,_,.nil,_=>.nil
 |_,_,.cons r t,f=>.cons (f _ _ r) (Paired.u6 t f)
theorem cQ.mj (x:cQ P w H h a o)(k:∀ b u,(b=a\/H b=some (.own a))->h.get? b=some u->h'.get? b=some u)
  (ho:∀ b,H b=some (.own a)->H' b=some (.own a))(ht:∀ b xs,H b=some (.tup xs)->H' b=some (.tup xs))(hc:∀ b q,H b=some (.kQ q)->H' b=some (.kQ q):=by exact λ_ _ q=>q):cQ P w H' h' a o:=by
 induction o with
 |lst xs=>obtain⟨z,its,n,r,e⟩:=x;exact⟨z,its,n,r,k _ _ (.inl rfl) e⟩
 |tup xs=>obtain⟨z,its,r,ob,e,c⟩:=x;exact⟨z,its,r,ob,k _ _ (.inl rfl) e,c⟩
 |dK kvs=>obtain⟨z,y,vs,r,ob,es,ep,e,c⟩:=x;exact⟨z,y,vs,r,ob,es,ep,k _ _ (.inl rfl) e,c⟩
 |dT kvs=>
  obtain⟨z,y,xs,r,ob,es,ep,e,c⟩:=x;exact⟨z,y,xs,Paired.u6 r λp q z=>⟨z.1,ht _ _ z.2.1,z.2.2⟩,ob,es,ep,k _ _ (.inl rfl) e,c⟩
 |set S n=>obtain⟨ob,es,ep,t,e,c⟩:=x;exact⟨ob,es,ep,t,k _ _ (.inl rfl) e,c⟩
 |ins C dx fs=>
  obtain⟨d,z,ne,e,mA,⟨od,es,ep,e2,c⟩,r⟩:=x;exact⟨ho _ d,z,ne,k _ _ (.inl rfl) e,mA,⟨od,es,ep,k _ _ (.inr d) e2,c⟩,r⟩
 |own y=>obtain⟨ob,e⟩:=x;exact⟨ob,k _ _ (.inl rfl) e⟩
 |xd fs=>obtain⟨mA,⟨od,es,ep,e,c⟩,r⟩:=x;exact⟨mA,⟨od,es,ep,k _ _ (.inl rfl) e,c⟩,r⟩
 |u4 lo hi=>obtain⟨t,u,v,e⟩:=x;exact⟨t,u,v,k _ _ (.inl rfl) e⟩
 |bD ob u ih=>obtain⟨⟨e,nt⟩,q⟩:=x;exact⟨⟨k _ _ (.inl rfl) e,nt⟩,ih q⟩
 |g6 ps=>
  obtain⟨more,e,r⟩:=x;refine⟨more,k a _ (.inl rfl) e,?_⟩;rcases r with r|⟨c,q,tk,l,m,e1,e2,e3⟩
  ·exact .inl r
  ·exact .inr ⟨c,q,tk,l,m,e1,e2,hc _ _ e3⟩
 |kQ q=>obtain⟨c,o,vs,t,e,e1,e2⟩:=x;cases e;exact⟨a,o,vs,t,rfl,k _ _ (.inl rfl) e1,e2⟩
 |met f y=>
  have e:h.get? a=some (PySem.W.methodObj (.ref f) (.ref y)):=x;show h'.get? a=some (PySem.W.methodObj (.ref f) (.ref y));exact k a _ (.inl rfl) e
 |ext φ=>obtain⟨p,⟨o,e⟩,st⟩:=x;exact⟨st _ _ p λo q=>k _ _ (.inl rfl) q,⟨o,k _ _ (.inl rfl) e⟩,st⟩
theorem cu.lt (x:cu P w H h)(e:H a=some o):a<h.objs.size:=(x a o e).lt
theorem cu.fresh (x:cu P w H h)(e:h.objs.size<=a):H a=none:=by
 cases q:H a with
 |none=>rfl
 |some u=>exact absurd (dF (x.lt q) e) (Nat.lt_irrefl _)
theorem cu.kept (x:cu P w H h)(k:∀ b u,h.get? b=some u->h'.get? b=some u):cu P w H h':=λa o e=>
 (x a o e).mj (λb u _ q=>k b u q) (λ_ q=>q) λ_ _ q=>q
theorem cu.laid (x:cu P w H h)(k:∀ b u,h.get? b=some u->h'.get? b=some u)(hp:h.objs.size<=a)(new:cQ P w (upd H a o) h' a o):cu P w (upd H a o) h':=λb u e=>by
 have hn:=x.fresh hp;by_cases hb:b=a
 ·subst hb;rw[bE] at e;cases e;exact new
 ·rw[a8 hb] at e;exact(x b u e).mj (hc:=λc xs q=>by rw[a8 (dG q hn)];exact q) (λc v _ q=>k c v q) (λc q=>by rw[a8 (dG q hn)];exact q) λc xs q=>by rw[a8 (dG q hn)];exact q
end
noncomputable def Rd (H:Hp)(a:Addr)(u:HO):Prop:=H a=some u\/∃ o,H a=some (.bD o u)
theorem Rd.ok {P:Program}{w:World}{H:Hp}{h:Heap}{a:Addr}{u:HO}(r:Rd H a u)(x:cu P w H h):cQ P w H h a u:=by
 rcases r with r|⟨o,r⟩
 ·exact x a u r
 ·obtain⟨_,q⟩:=x a _ r;exact q
noncomputable def oj:Option HO->Prop
 |some (.lst _)=>True
 |some (.dK _)=>True
 |some (.dT _)=>True
 |some (.set _ _)=>True
 |some (.ins _ _ _)=>True
 |some (.ext _)=>True
 |_=>False
section
variable {P:Program}{w:World}{H:Hp}{h h':Heap}{x e:Addr}{o':HO}
theorem cu.write (ok:cu P w H h)(mu:oj (H x))(he:e=x\/H e=some (.own x))(k:∀ b u,b≠e->h.get? b=some u->h'.get? b=some u)(mn:∃ u,h'.get? e=some u)
  (new:cQ P w (upd H x o') h' x o'):cu P w (upd H x o') h':=λb u q=>by
 have AM:∀ c y,H c=some (.own y)->c≠x:=λc y r z=>by subst z;rw[r] at mu;exact mu
 have J2:∀ c xs,H c=some (.tup xs)->c≠x:=λc xs r z=>by subst z;rw[r] at mu;exact mu
 have J_:∀ c xs,H c=some (.kQ xs)->c≠x:=λc xs r z=>by subst z;rw[r] at mu;exact mu
 by_cases hb:b=x
 ·subst hb;rw[bE] at q;cases q;exact new
 ·rw[a8 hb] at q;by_cases kS:b=e
  ·have q':H b=some (.own x):=by
    rcases he with z|z
    ·exact absurd (kS.trans z) hb
    ·rw[kS];exact z
   rw[q] at q';cases q';obtain⟨v,hv⟩:=mn;exact⟨v,by rw[kS];exact hv⟩
  ·refine(ok b u q).mj (hc:=λc xs r=>by rw[a8 (J_ c xs r)];exact r) (λc v hc r=>k c v ?_ r) (λc r=>by rw[a8 (AM c b r)];exact r) λc xs r=>by rw[a8 (J2 c xs r)];exact r
   rcases hc with rfl|hc
   ·exact kS
   ·rintro rfl;rcases he with z|z
    ·exact AM c b hc z
    ·rw[hc] at z;cases z;exact hb rfl
end
structure Un (fs ex:List Addr)(H H':Hp)(h h':Heap):Prop where
 keep:∀ b o,h.get? b=some o->H b=none->b∉fs->b∉ex->h'.get? b=some o
 slot:∀ b o,h.get? b=some o->H b=none->b∈fs->b∉ex->∃ sl,h'.get? b=some { o with slots:=sl }
 free:∀ b o,h.get? b=some o->H b=none->b∉ex->H' b=none
 there:∀ b o,h.get? b=some o->b∉ex->∃ o',h'.get? b=some o'
 jM:∀ b xs,H b=some (.tup xs)->H' b=some (.tup xs)
 je:∀ b o u,H b=some (.bD o u)->H' b=some (.bD o u)
 jN:∀ b ps,H b=some (.g6 ps)->∃ more,H' b=some (.g6 (ps++more))
section
variable {fs J' ex ZJ:List Addr}{H H1 H2:Hp}{h h1 h2 h':Heap}{a x e:Addr}{o:HO}
theorem Un.any (u:Un fs ex H H1 h h1){b:Addr}{ob:Obj}(q:h.get? b=some ob)(n:H b=none)(hx:b∉ex):∃ sl,h1.get? b=some { ob with slots:=sl }:=by
 by_cases hb:b∈fs
 ·exact u.slot b ob q n hb hx
 ·exact⟨ob.slots,u.keep b ob q n hb hx⟩
theorem Un.kept (k:∀ b u,h.get? b=some u->h'.get? b=some u):Un fs ex H H h h':=
 ⟨λb ob q _ _ _=>k b ob q,λb ob q _ _ _=>⟨ob.slots,k b ob q⟩,λ_ _ _ n _=>n,λb ob q _=>⟨ob,k b ob q⟩,λ_ _ q=>q,λ_ _ _ q=>q,λ_ ps q=>⟨#[],by rw[q];simp⟩⟩
theorem Un.refl:Un fs ex H H h h:=Un.kept λ_ _ q=>q
theorem Un.laid (k:∀ b u,h.get? b=some u->h'.get? b=some u)(hp:h.objs.size<=a)(hn:H a=none):Un fs ex H (upd H a o) h h' where
 keep:=λb u q _ _ _=>k b u q
 slot:=λb u q _ _ _=>⟨u.slots,k b u q⟩
 free:=λb u q n _=>by rw[a8 (bJ (dF (a7 q) hp))];exact n
 there:=λb u q _=>⟨u,k b u q⟩
 jM:=λb xs q=>by rw[a8 (dG q hn)];exact q
 je:=λb u xs q=>by rw[a8 (dG q hn)];exact q
 jN:=λb ps q=>⟨#[],by rw[a8 (dG q hn),q];simp⟩
theorem Un.write (mu:oj (H x))(he:e=x\/H e=some (.own x))(k:∀ b u,b≠e->h.get? b=some u->h'.get? b=some u)(mn:∃ u,h'.get? e=some u):Un fs ex H (upd H x o) h h':=by
 have hx:∀ b,H b=none->b≠x:=λb n z=>by subst z;rw[n] at mu;exact mu
 have hb:∀ b,H b=none->b≠e:=λb n z=>by
  subst z;rcases he with r|r
  ·exact hx b n r
  ·rw[n] at r;cases r
 have hm:∀ b u,H b=some u->¬ oj (some u)->b≠x:=λb u q nm z=>by subst z;rw[q] at mu;exact nm mu
 refine⟨λb u q n _ _=>k b u (hb b n) q,λb u q n _ _=>⟨u.slots,k b u (hb b n) q⟩,λb u q n _=>by rw[a8 (hx b n)];exact n,λb u q _=>?_,
  λb xs q=>by rw[a8 (hm b _ q λz=>z)];exact q,λb u xs q=>by rw[a8 (hm b _ q λz=>z)];exact q,λb ps q=>⟨#[],by rw[a8 (hm b _ q λz=>z),q];simp⟩⟩
 by_cases kS:b=e
 ·subst kS;exact mn
 ·exact⟨u,k b u kS q⟩
end
noncomputable def qt (h:Heap)(H:Hp):List Addr:=(range h.objs.size).filter λa=>(H a).isSome
noncomputable def jf (h:Heap)(H:Hp):Heap:=PySem.W.hideAll h (qt h H)
theorem Ka (h:Heap)(H:Hp):(jf h H).objs.size=h.objs.size:=PySem.W.hideAll_size _ _
theorem Kc {h:Heap}{H:Hp}{b:Addr}{o:Obj}(e:h.get? b=some o)(n:H b=none):(jf h H).get? b=some o:=
 PySem.W.hideAll_get _ e λhm=>by
  have q:(H b).isSome=true:=(mem_filter.mp hm).2;rw[n] at q;simp at q
theorem Ke {h:Heap}{H:Hp}{b:Addr}{o:Obj}(e:(jf h H).get? b=some o):h.get? b=some o/\H b=none:=by
 have e':h.get? b=some o:=PySem.W.of_hideAll (qt h H) e;refine⟨e',?_⟩
 cases q:H b with
 |none=>rfl
 |some x=>
  have hm:b∈qt h H:=mem_filter.mpr ⟨mem_range.mpr (a7 e'),by simp [q]⟩;have z:(jf h H).get? b=none:=PySem.W.hideAll_none (qt h H) hm;rw[z] at e;cases e
noncomputable def Kf (g h:Heap)(L:Addr):aO:=(range h.objs.size).filterMap λa=>if a=L\/(g.get? a).isSome=true then none else (h.get? a).map λo=>(a,o)
noncomputable def rest (g h:Heap)(L d:Addr):aO:=(Kf g h L).filter λp=>decide (p.1≠d)
structure Mod (K:Frag)(mg:a0)(base:Heap):Prop where
 u7:K.In base
 glob:base.Ns mainGlobals mg
 blt:∃ mb,base.Ns builtinsNs mb/\∀ x:Str,x≠"__name__"->mb x=bootBuiltins x
 nolimit:base.NoLimit
structure Cx where
 prog:Program
 w:World
 K:Frag
 mg:a0
 base:Heap
 A:Around
 N:aq
 c8:Shared
 om:Hp
 env:Env
 outer:List Env
 stack:List Env
 ex:List Addr
 fn:Str->Bool
 calm:Bool
 pn:aO
 xe:aG
noncomputable def g7 (l:List Env):List Addr:=l.filterMap (·.frame)
noncomputable abbrev Cx.fs (X:Cx):List Addr:=g7 X.outer
noncomputable def dj (sc:Scope)(x:Str):Prop:=sc.names.lookup x=some .local\/sc.names.lookup x=some .cell\/sc.names.lookup x=some .free
noncomputable def Loc (sc:Scope)(x:Str):Prop:=sc.names.lookup x=some .local\/sc.names.lookup x=some .cell
noncomputable def Look (env:Env)(h:Heap)(m:a0)(x:Str)(u:Value):Prop:=
 (env.kindOf x=some .local/\m x=some u)\/((env.kindOf x=some .cell\/env.kindOf x=some .free)/\∃ c,env.cells.lookup x=some c/\h.IsCell c (some u))
structure Cx.Ok (X:Cx):Prop where
 mod:Mod X.K X.mg X.base
 kind:X.env.scope.kind=.function
 glob:X.env.globals=mainGlobals
 blt:X.env.builtins=builtinsNs
 above:X.c8.heap.objs.size<=X.env.locals
 inj:∀ x y c,X.env.cells.lookup x=some c->X.env.cells.lookup y=some c->x=y
 has:∀ x,(X.env.kindOf x=some .cell\/X.env.kindOf x=some .free)->∃ c,X.env.cells.lookup x=some c
 mq:∀ x c,X.fn x=true->X.env.cells.lookup x=some c->X.c8.heap.objs.size<=c
 hd:X.calm=true->X.A.handled=none
 frames:X.A.frames=some X.stack
 oo:X.stack=X.outer\/(X.stack=X.env::X.outer/\X.env.frame=some X.env.locals)
 u9:∀ b∈X.ex,b≠X.env.locals/\∀ x c,X.env.cells.lookup x=some c->c≠b
 bs:∀ b o,X.base.get? b=some o->X.c8.heap.get? b=some o/\X.om b=none
 jg:X.base.objs.size<=X.c8.heap.objs.size
 mx:∀ b o,X.base.get? b=some o->b∉X.ex
 oq:∀ b∈X.ex,b∉X.fs
 gm:X.c8.heap.FunFrames X.base X.outer
 kT:∀ b∈X.fs,X.om b=none
structure Inv (X:Cx)(pins:aO)(σ:List (Option V))(H:Hp)(s:Shared):Prop where
 ok:X.Ok
 os:s.os=X.c8.os
 bare:AllBare s.gens
 base:Un X.fs X.ex X.om H X.c8.heap s.heap
 loc:∃ m,s.heap.Ns X.env.locals m/\∀(i:Nat)(x:Str)(v:V),X.N[i]?=some x->σ[i]?=some (some v)->dj X.env.scope x->∃ u,RelV v u/\Look X.env s.heap m x u
 cell:∀ x c,X.env.cells.lookup x=some c->∃ v,s.heap.IsCell c v
 free:H X.env.locals=none
 gn:∀ x c,X.env.cells.lookup x=some c->H c=none
 pin:∀ p∈X.pn++pins,s.heap.get? p.1=some p.2/\H p.1=none/\p.1≠X.env.locals/\p.1∉X.fs/\∀ v,p.2.data≠.cell v
 aA:cu X.prog X.w H s.heap
 len:X.N.length<=σ.length
section
variable {X:Cx}{pins:aO}{σ:List (Option V)}{H H':Hp}{s:Shared}{h':Heap}
theorem Cx.Ok.Kg (ok:X.Ok){b:Addr}{o:Obj}(e:X.base.get? b=some o):b∉X.fs:=λhb=>by
 have:=(ok.gm.mem hb).1;rw[e] at this;cases this
theorem Inv.bs (I:Inv X pins σ H s):∀ b o,X.base.get? b=some o->s.heap.get? b=some o/\H b=none:=λb o e=>
 ⟨I.base.keep b o (I.ok.bs b o e).1 (I.ok.bs b o e).2 (I.ok.Kg e) (I.ok.mx b o e),I.base.free b o (I.ok.bs b o e).1 (I.ok.bs b o e).2 (I.ok.mx b o e)⟩
theorem Inv.bk (I:Inv X pins σ H s):∀ b o,X.base.get? b=some o->s.heap.get? b=some o:=λb o e=>(I.bs b o e).1
theorem Inv.mod (I:Inv X pins σ H s):Mod X.K X.mg X.base:=I.ok.mod
theorem Inv.dH (I:Inv X pins σ H s):X.K.In s.heap:=I.ok.mod.u7.keeps I.bk
theorem Inv.lt (I:Inv X pins σ H s):X.env.locals<s.heap.objs.size:=let ⟨_,hn,_⟩:=I.loc;hn.lt
theorem Inv.sz (I:Inv X pins σ H s):X.c8.heap.objs.size<=s.heap.objs.size:=aP I.ok.above (Nat.le_of_lt I.lt)
theorem Inv.Kh (I:Inv X pins σ H s){a:Addr}(h:s.heap.objs.size<=a):a∉X.fs:=λhb=>by
 obtain⟨_,o,ho,_⟩:=I.ok.gm.mem hb;exact absurd (dF (a7 ho) (aP I.sz h)) (Nat.lt_irrefl _)
theorem Inv.kU (I:Inv X pins σ H s):∀ x c,X.env.cells.lookup x=some c->c≠X.env.locals:=λx c e z=>by
 obtain⟨v,o,ho,hd⟩:=I.cell x c e;obtain⟨m,⟨o',es,ep,e_,ot,_⟩,_⟩:=I.loc;rw[z,e_] at ho;cases ho;rw[ot] at hd;cases hd
theorem Inv.gm (I:Inv X pins σ H s):s.heap.FunFrames X.base X.outer:=by
 have all:∀(l:List Env),(∀ b∈g7 l,b∈X.fs)->X.c8.heap.FunFrames X.base l->s.heap.FunFrames X.base l:=by
  intro l
  induction l with
  |nil=>intro _ _;trivial
  |cons env r ih=>
   intro hs hl;obtain⟨hk,⟨L,o,hf,hn,ho,hd⟩,hr⟩:=hl;have hL:L∈X.fs:=hs L (by unfold g7;rw[filterMap_cons,hf];exact mem_cons_self);obtain⟨sl,e⟩:=I.base.slot L o ho (I.ok.kT L hL) hL λz=>I.ok.oq L z hL;exact⟨hk,⟨L,_,hf,hn,e,hd⟩,ih (λb hb=>hs b (by unfold g7;rw[filterMap_cons,hf];exact mem_cons_of_mem _ hb)) hr⟩
 exact all X.outer (λ_ hb=>hb) I.ok.gm
theorem Inv.stack (I:Inv X pins σ H s):s.heap.FunFrames X.base X.stack:=by
 rcases I.ok.oo with e|⟨e,hf⟩
 ·rw[e];exact I.gm
 ·rw[e];obtain⟨m,hn,_⟩:=I.loc;refine .cons (by rw[I.ok.kind];decide) hf hn ?_ I.gm;exact Heap.get?_none_of_le (aP I.ok.jg I.ok.above)
theorem Inv.ou (I:Inv X pins σ H s):∀ b∈g7 X.stack,b∈X.env.locals::X.fs:=λb hb=>by
 rcases I.ok.oo with e|⟨e,hf⟩
 ·rw[e] at hb;exact mem_cons_of_mem _ hb
 ·rw[e] at hb;unfold g7 at hb;rw[filterMap_cons,hf] at hb;exact hb
theorem Inv.AO (I:Inv X pins σ H s):∀ b∈g7 X.stack,H b=none:=λb hb=>by
 rcases mem_cons.mp (I.ou b hb) with e|hb
 ·rw[e];exact I.free
 ·obtain⟨_,o,ho,_⟩:=I.ok.gm.mem hb;exact I.base.free b o ho (I.ok.kT b hb) λz=>I.ok.oq b z hb
theorem Inv.step {g':Array GenState}{t':Nat}{d':Drawn}{ch:List Addr}(I:Inv X pins σ H s)
  (iI:∀ b∈ch,(b∈X.ex\/X.c8.heap.objs.size<=b)/\b≠X.env.locals/\(∀ x c,X.env.cells.lookup x=some c->c≠b)/\∀ p∈X.pn++pins,p.1≠b)
  (keep:∀ b o,b≠X.env.locals->b∉X.fs->b∉ch->s.heap.get? b=some o->H b=none->h'.get? b=some o)
  (slot:∀ b o,b≠X.env.locals->b∈X.fs->b∉ch->s.heap.get? b=some o->H b=none->∃ sl,h'.get? b=some { o with slots:=sl })(free:∀ b o,b∉ch->s.heap.get? b=some o->H b=none->H' b=none)
  (there:∀ b o,b∉ch->s.heap.get? b=some o->∃ o',h'.get? b=some o')
  (jM:∀ b xs,H b=some (.tup xs)->H' b=some (.tup xs))(je:∀ b o u,H b=some (.bD o u)->H' b=some (.bD o u))(jN:∀ b ps,H b=some (.g6 ps)->∃ more,H' b=some (.g6 (ps++more)))
  (ns:∀ m,s.heap.Ns X.env.locals m->h'.Ns X.env.locals m)(aA:cu X.prog X.w H' h')(hg:AllBare g') :
  Inv X pins σ H' { s with heap:=h',gens:=g',drawn:=d',toks:=t' }:=by
 have AQ:∀ b o,X.c8.heap.get? b=some o->b≠X.env.locals:=λb o e=>bJ (dF (a7 e) I.ok.above)
 have qu:∀ b o,X.c8.heap.get? b=some o->b∉X.ex->b∉ch:=λb o e hx hb=>by
  rcases (iI b hb).1 with z|z
  ·exact hx z
  ·exact absurd (dF (a7 e) z) (Nat.lt_irrefl _)
 have cellK:∀ x c,X.env.cells.lookup x=some c->∀ v,s.heap.IsCell c v->h'.IsCell c v:=λx c e v ⟨o,ho,hd⟩=>by
  have ox:c∉ch:=λz=>(iI c z).2.2.1 x c e rfl;by_cases hc:c∈X.fs
  ·obtain⟨sl,q⟩:=slot c o (I.kU x c e) hc ox ho (I.gn x c e);exact⟨_,q,hd⟩
  ·exact⟨o,keep c o (I.kU x c e) hc ox ho (I.gn x c e),hd⟩
 refine⟨I.ok,I.os,hg,⟨λb o e n hb hx=>?_,λb o e n hb hx=>?_,λb o e n hx=>?_,λb o e hx=>?_,λb xs e=>jM b xs (I.base.jM b xs e),λb o xs e=>je b o xs (I.base.je b o xs e),λb ps e=>?_⟩,?_,λx c e=>?_,?_,λx c e=>?_,λp hp=>?_,aA,I.len⟩
 ·exact keep b o (AQ b o e) hb (qu b o e hx) (I.base.keep b o e n hb hx) (I.base.free b o e n hx)
 ·obtain⟨sl,e1⟩:=I.base.slot b o e n hb hx;obtain⟨Ki,e2⟩:=slot b _ (AQ b o e) hb (qu b o e hx) e1 (I.base.free b o e n hx);exact⟨Ki,e2⟩
 ·obtain⟨o',e1⟩:=I.base.there b o e hx;exact free b o' (qu b o e hx) e1 (I.base.free b o e n hx)
 ·obtain⟨o',e1⟩:=I.base.there b o e hx;exact there b o' (qu b o e hx) e1
 ·obtain⟨m1,e1⟩:=I.base.jN b ps e;obtain⟨m2,e2⟩:=jN b _ e1;exact⟨m1++m2,by rw[e2,Array.append_assoc]⟩
 ·obtain⟨m,hn,hl⟩:=I.loc;refine⟨m,ns m hn,λi x v e1 e2 e3=>?_⟩;obtain⟨u,r,l⟩:=hl i x v e1 e2 e3;refine⟨u,r,?_⟩;rcases l with l|⟨k,c,e,z⟩
  ·exact .inl l
  ·exact .inr ⟨k,c,e,cellK x c e _ z⟩
 ·obtain⟨v,z⟩:=I.cell x c e;exact⟨v,cellK x c e v z⟩
 ·obtain⟨m,⟨o,_,_,ho,_⟩,_⟩:=I.loc;exact free _ o (λz=>(iI _ z).2.1 rfl) ho I.free
 ·obtain⟨v,o,ho,hd⟩:=I.cell x c e;exact free c o (λz=>(iI c z).2.2.1 x c e rfl) ho (I.gn x c e)
 ·obtain⟨e,n,ne,nf,d⟩:=I.pin p hp;have ox:p.1∉ch:=λz=>(iI p.1 z).2.2.2 p hp rfl;exact⟨keep p.1 p.2 ne nf ox e n,free p.1 p.2 ox e n,ne,nf,d⟩
theorem Inv.un {t':Nat}(I:Inv X pins σ H s)(u:Un X.fs [] H H' s.heap h')(aA:cu X.prog X.w H' h'):Inv X pins σ H' { s with heap:=h',toks:=t' }:=by
 obtain⟨m,⟨o,es,ep,ho,r⟩,_⟩:=id I.loc;obtain⟨sl,hL⟩:=u.any ho I.free (by simp)
 exact I.step (g':=s.gens) (d':=s.drawn) (ch:=[]) (λ_ z=>nomatch z) (λb o _ hb _ e n=>u.keep b o e n hb (by simp)) (λb o _ hb _ e n=>u.slot b o e n hb (by simp)) (λb o _ e n=>u.free b o e n (by simp)) (λb o _ e=>u.there b o e (by simp)) u.jM u.je u.jN (λm' hm=>by
  obtain⟨o',dI,qw,e_,r'⟩:=hm;rw[ho] at e_;cases e_
  exact⟨_,dI,qw,hL,r'⟩) aA I.bare
theorem Inv.call {g':Array GenState}{t':Nat}{d':Drawn}{ch:List Addr}(I:Inv X pins σ H s)(u:Un (g7 X.stack) ch H H' s.heap h')(aA:cu X.prog X.w H' h')(hg:AllBare g')
  (iI:∀ b∈ch,(b∈X.ex\/X.c8.heap.objs.size<=b)/\b≠X.env.locals/\(∀ x c,X.env.cells.lookup x=some c->c≠b)/\∀ p∈X.pn++pins,p.1≠b) :
  Inv X pins σ H' { s with heap:=h',gens:=g',drawn:=d',toks:=t' }:=by
 obtain⟨m,⟨o,es,ep,ho,r⟩,_⟩:=id I.loc;obtain⟨sl,hL⟩:=u.any ho I.free λz=>(iI _ z).2.1 rfl
 exact I.step (ch:=ch) iI (λb o hL hb hc e n=>u.keep b o e n (λz=>(mem_cons.mp (I.ou b z)).elim hL hb) hc) (λb o _ _ hc e n=>u.any e n hc) (λb o hc e n=>u.free b o e n hc) (λb o hc e=>u.there b o e hc) u.jM u.je u.jN (λm' hm=>by
  obtain⟨o',dI,qw,e_,r'⟩:=hm;rw[ho] at e_;cases e_
  exact⟨_,dI,qw,hL,r'⟩) aA hg
theorem Inv.turned {t':Nat}{it:Addr}(I:Inv X pins σ H s)(k:∀ b o,b≠it->s.heap.get? b=some o->h'.get? b=some o)(hn:H it=none)(hL:it≠X.env.locals)
  (h1:it∈X.ex\/X.c8.heap.objs.size<=it)(h2:∀ x c,X.env.cells.lookup x=some c->c≠it)(h3:∀ p∈X.pn++pins,p.1≠it):Inv X pins σ H { s with heap:=h',toks:=t' }:=by
 have AR:∀ b u,H b=some u->b≠it:=λb u e z=>by rw[z,hn] at e;cases e
 refine I.step (g':=s.gens) (d':=s.drawn) (ch:=[it]) (λb hb=>?_) (λb o _ _ hc e _=>k b o (λz=>hc (by simp [z])) e) (λb o _ _ hc e _=>⟨o.slots,k b o (λz=>hc (by simp [z])) e⟩) (λ_ _ _ _ n=>n)
  (λb o hc e=>⟨o,k b o (λz=>hc (by simp [z])) e⟩) (λ_ _ e=>e) (λ_ _ _ e=>e) (λb ps e=>⟨#[],by rw[e];simp⟩) (λm hm=>?_) (λb u e=>?_) I.bare
 ·have e:b=it:=by simpa using hb
  subst e;exact⟨h1,hL,h2,h3⟩
 ·obtain⟨o,es,ep,ho,r⟩:=hm;exact⟨o,es,ep,k _ o (Ne.symm hL) ho,r⟩
 ·refine(I.aA b u e).mj (λc v hc q=>k c v ?_ q) (λ_ q=>q) λ_ _ q=>q;rcases hc with z|z
  ·rw[z];exact AR b u e
  ·exact AR c _ z
theorem Inv.tok (I:Inv X pins σ H s)(t:Nat):Inv X pins σ H { s with toks:=t }:=I.un (h':=s.heap) (t':=t) Un.refl I.aA
theorem Inv.kept {t':Nat}(I:Inv X pins σ H s)(k:∀ b u,s.heap.get? b=some u->h'.get? b=some u):Inv X pins σ H { s with heap:=h',toks:=t' }:=I.un (Un.kept k) (I.aA.kept k)
theorem Inv.laid {a:Addr}{o:HO}{t':Nat}(I:Inv X pins σ H s)(k:∀ b u,s.heap.get? b=some u->h'.get? b=some u)(hp:s.heap.objs.size<=a)(new:cQ X.prog X.w (upd H a o) h' a o) :
  Inv X pins σ (upd H a o) { s with heap:=h',toks:=t' }:=I.un (Un.laid k hp (I.aA.fresh hp)) (I.aA.laid k hp new)
theorem Inv.write {x e:Addr}{o:HO}{t':Nat}(I:Inv X pins σ H s)(mu:oj (H x))(he:e=x\/H e=some (.own x))(k:∀ b u,b≠e->s.heap.get? b=some u->h'.get? b=some u)(mn:∃ u,h'.get? e=some u)
  (new:cQ X.prog X.w (upd H x o) h' x o):Inv X pins σ (upd H x o) { s with heap:=h',toks:=t' }:=I.un (Un.write mu he k mn) (I.aA.write mu he k mn new)
theorem Inv.AU {AV:aO}(I:Inv X pins σ H s)(h:∀ p∈AV,s.heap.get? p.1=some p.2/\H p.1=none/\p.1≠X.env.locals/\p.1∉X.fs/\∀ v,p.2.data≠.cell v):Inv X AV σ H s:=
 ⟨I.ok,I.os,I.bare,I.base,I.loc,I.cell,I.free,I.gn,λp hp=>(mem_append.mp hp).elim (λz=>I.pin p (mem_append_left _ z)) (h p),I.aA,I.len⟩
theorem AW {N:aq}(hN:N.Nodup){i j:Nat}{x:Str}(a:N[i]?=some x)(b:N[j]?=some x):i=j:=by
 obtain⟨h1,e1⟩:=c7 a;obtain⟨h2,e2⟩:=c7 b;exact(getElem_inj hN).mp (e1.trans e2.symm)
theorem AX {M:Model}{A:Around}{E:aG}{i:Nat}{x:Str}{v:V}{u:Value}{Q:Unit->Shared->Prop}(I:Inv X pins σ H s)(hN:X.N.Nodup)(hi:X.N[i]?=some x)(hx:Loc X.env.scope x)(r:RelV v u)
  (h:∀ s',Inv X pins (σ.set i (some v)) H s'->(∃ a,Heap.SameBut a s.heap s'.heap/\(a=X.env.locals\/X.env.cells.lookup x=some a))->Q () s')(hf:X.fn x=true\/X.env.scope.names.lookup x=some .local:=by first|exact .inl rfl|exact .inr rfl|assumption):wpAny M A (storeName X.env x u) Q E s:=by
 obtain⟨m,hn,hl⟩:=id I.loc;have Kj:(X.env.scope.kind==.class||(X.env.scope.kind==.module&&X.env.locals != X.env.globals))=false:=by rw[I.ok.kind];rfl
 have AY:i<σ.length:=dF (c7 hi).1 I.len;have kU:=I.kU
 have tracked:∀{a:Addr}{h':Heap},(∃ o,s.heap.get? a=some o/\H a=none)->Heap.SameBut a s.heap h'->cu X.prog X.w H h':=λ{a h'} ha hs b ob e=>by
  obtain⟨_,_,qy⟩:=ha;refine(I.aA b ob e).mj (λc w' hc q=>(hs.2 c ?_).trans q) (λ_ q=>q) λ_ _ q=>q;rintro rfl;rcases hc with rfl|hc
  ·rw[qy] at e;cases e
  ·rw[qy] at hc;cases hc
 rcases hx with hk|hk
 ·refine wpAny_storeName_local hk hn (λh' fz hs=>?_) Kj;obtain⟨oL,_,_,Kk,_⟩:=id hn;refine h _ ⟨I.ok,I.os,I.bare,⟨λb o e n hb hx=>?_,λb o e n hb hx=>?_,I.base.free,λb o e hx=>?_,I.base.jM,I.base.je,I.base.jN⟩,⟨_,fz,λj y v' e1 e2 e3=>?_⟩,λy c e=>?_,I.free,I.gn,λp hp=>?_,tracked ⟨oL,Kk,I.free⟩ hs,by simpa using I.len⟩ ⟨_,hs,.inl rfl⟩
  ·exact(hs.2 b (bJ (dF (a7 e) I.ok.above))).trans (I.base.keep b o e n hb hx)
  ·obtain⟨sl,e1⟩:=I.base.slot b o e n hb hx;exact⟨sl,(hs.2 b (bJ (dF (a7 e) I.ok.above))).trans e1⟩
  ·obtain⟨o',e1⟩:=I.base.there b o e hx;exact⟨o',(hs.2 b (bJ (dF (a7 e) I.ok.above))).trans e1⟩
  ·by_cases hj:j=i
   ·subst hj;rw[hi] at e1;cases e1;rw[getElem?_set_self AY] at e2;cases e2;exact⟨u,r,.inl ⟨hk,by simp⟩⟩
   ·rw[getElem?_set_ne (Ne.symm hj)] at e2;obtain⟨u',r',q⟩:=hl j y v' e1 e2 e3;refine⟨u',r',?_⟩;rcases q with ⟨k,e⟩|⟨k,c,e,z⟩
    ·refine .inl ⟨k,?_⟩;have:y≠x:=λe=>hj (AW hN e1 (e▸hi));simp [this,e]
    ·exact .inr ⟨k,c,e,z.sameBut hs (kU y c e)⟩
  ·obtain⟨w',z⟩:=I.cell y c e;exact⟨w',z.sameBut hs (kU y c e)⟩
  ·obtain⟨e,n,ne,nf,d⟩:=I.pin p hp;exact⟨(hs.2 p.1 ne).trans e,n,ne,nf,d⟩
 ·have u_:X.fn x=true:=by
   rcases hf with z|z
   ·exact z
   ·rw[z] at hk;cases hk
  obtain⟨c,hc⟩:=I.ok.has x (.inl hk);obtain⟨w',z⟩:=I.cell x c hc;refine wpAny_storeName_cell I.ok.kind hk hc z (λh' c9 hs=>?_);obtain⟨oc,AZ,Kl⟩:=id z;refine h { s with heap:=h' } ⟨I.ok,I.os,I.bare,⟨λb o e n hb hx=>?_,λb o e n hb hx=>?_,I.base.free,λb o e hx=>?_,I.base.jM,I.base.je,I.base.jN⟩,⟨m,hn.sameBut hs (Ne.symm (kU x c hc)),λj y v' e1 e2 e3=>?_⟩,λy c' e=>?_,I.free,I.gn,λp hp=>?_,tracked ⟨oc,AZ,I.gn x c hc⟩ hs,by simpa using I.len⟩ ⟨c,hs,.inr hc⟩
  ·exact(hs.2 b (bJ (dF (a7 e) (I.ok.mq x c u_ hc)))).trans (I.base.keep b o e n hb hx)
  ·obtain⟨sl,e1⟩:=I.base.slot b o e n hb hx;exact⟨sl,(hs.2 b (bJ (dF (a7 e) (I.ok.mq x c u_ hc)))).trans e1⟩
  ·obtain⟨o',e1⟩:=I.base.there b o e hx;exact⟨o',(hs.2 b (bJ (dF (a7 e) (I.ok.mq x c u_ hc)))).trans e1⟩
  ·by_cases hj:j=i
   ·subst hj;rw[hi] at e1;cases e1;rw[getElem?_set_self AY] at e2;cases e2;exact⟨u,r,.inr ⟨.inl hk,c,hc,c9⟩⟩
   ·rw[getElem?_set_ne (Ne.symm hj)] at e2;obtain⟨u',r',q⟩:=hl j y v' e1 e2 e3;refine⟨u',r',?_⟩;rcases q with q|⟨k,c',e,z'⟩
    ·exact .inl q
    ·refine .inr ⟨k,c',e,z'.sameBut hs ?_⟩;rintro rfl;exact hj (AW hN e1 (I.ok.inj _ _ _ e hc▸hi))
  ·by_cases A0:c'=c
   ·subst A0;exact⟨_,c9⟩
   ·obtain⟨w2,z2⟩:=I.cell y c' e;exact⟨w2,z2.sameBut hs A0⟩
  ·obtain⟨e,n,ne,nf,d⟩:=I.pin p hp;refine⟨(hs.2 p.1 ?_).trans e,n,ne,nf,d⟩;intro q;rw[q,AZ] at e;have q':oc=p.2:=Option.some.inj e;exact d w' (by rw[<- q'];exact Kl)
theorem A5 {M:Model}{A:Around}{E:aG}{i:Nat}{x:Str}{v:V}{u:Value}{Q:Unit->Shared->Prop}(I:Inv X pins σ H s)(hN:X.N.Nodup)(hi:X.N[i]?=some x)(hx:Loc X.env.scope x)(r:RelV v u)
  (h:∀ s',Inv X pins (σ.set i (some v)) H s'->Q () s')(hf:X.fn x=true\/X.env.scope.names.lookup x=some .local:=by first|exact .inl rfl|exact .inr rfl|assumption):wpAny M A (storeName X.env x u) Q E s:=
 AX I hN hi hx r (λs' I' _=>h s' I') hf
theorem Inv.A6 {s':Shared}{ch:List Addr}(I:Inv X pins σ H s)(ho:s'.os=s.os)(u:Un (g7 X.stack) ch H H' s.heap s'.heap)(aA:cu X.prog X.w H' s'.heap)(hg:AllBare s'.gens)
  (iI:∀ b∈ch,(b∈X.ex\/X.c8.heap.objs.size<=b)/\b≠X.env.locals/\(∀ x c,X.env.cells.lookup x=some c->c≠b)/\∀ p∈X.pn++pins,p.1≠b):Inv X pins σ H' s':=by
 obtain⟨h',g',d',t',o'⟩:=s';have e:o'=s.os:=ho;subst e;exact I.call (g':=g') (t':=t') (d':=d') u aA hg iI
end
noncomputable abbrev XK:=Value->Option Addr->Hp->Prop
noncomputable abbrev St:=List (Option V)
noncomputable abbrev VK:=V->Hp->Prop
noncomputable abbrev TE:=St->Hp->VK->Prop
noncomputable abbrev TT:=St->Hp->(Bool->Hp->Prop)->Prop
noncomputable abbrev TA:=St->Hp->(Zv->Hp->Prop)->Prop
structure Ends where
 nx:St->Hp->Prop
 rt:VK
 bk:St->Hp->Prop:=λ_ _=>False
 ct:St->Hp->Prop:=λ_ _=>False
noncomputable abbrev TS:=Ends->St->Hp->Prop
noncomputable def EP (X:Cx)(pins:aO)(σ:St)(Q:VK)(u:Value)(s':Shared):Prop:=∃ v H',Inv X pins σ H' s'/\RelV v u/\Q v H'
noncomputable def TP (X:Cx)(pins:aO)(σ:St)(Q:Bool->Hp->Prop)(b:Bool)(s':Shared):Prop:=∃ H',Inv X pins σ H' s'/\Q b H'
noncomputable def AP (X:Cx)(pins:aO)(σ:St)(Q:Zv->Hp->Prop)(us:aC)(s':Shared):Prop:=∃ vs H',Inv X pins σ H' s'/\Vals vs us/\Q vs H'
noncomputable def SP (X:Cx)(pins:aO)(D:Ends)(f:Flow)(s':Shared):Prop:=
 match f with
 |.next=>∃ aH H',Inv X pins aH H' s'/\D.nx aH H'
 |.brk=>∃ aH H',Inv X pins aH H' s'/\D.bk aH H'
 |.cont=>∃ aH H',Inv X pins aH H' s'/\D.ct aH H'
 |.ret u=>∃ v aH H',Inv X pins aH H' s'/\RelV v u/\D.rt v H'
noncomputable def PE (X:Cx)(e:Expr)(t:TE):Prop:=
 ∀(pins:aO)(s:Shared)(σ:St)(H:Hp)(Q:VK),Inv X pins σ H s->t σ H Q->wpAny (model X.prog X.w) X.A (eval e X.env) (EP X pins σ Q) X.xe s
noncomputable def PT (X:Cx)(e:Expr)(t:TT):Prop:=
 ∀(pins:aO)(s:Shared)(σ:St)(H:Hp)(Q:Bool->Hp->Prop),Inv X pins σ H s->t σ H Q->wpAny (model X.prog X.w) X.A (isTrue e X.env (eval e X.env)) (TP X pins σ Q) X.xe s
noncomputable def PW (X:Cx)(e:Expr)(t:TT):Prop:=
 ∀(whole:Sem Value)(pins:aO)(s:Shared)(σ:St)(H:Hp)(Q:Bool->Hp->Prop),Inv X pins σ H s->t σ H Q->wpAny (model X.prog X.w) X.A (isTrue e X.env whole) (TP X pins σ Q) X.xe s
theorem PW.pt {X:Cx}{e:Expr}{t:TT}(h:PW X e t):PT X e t:=h _
noncomputable def PA (X:Cx)(es:List Expr)(t:TA):Prop:=
 ∀(pos:Pos)(pins:aO)(s:Shared)(σ:St)(H:Hp)(Q:Zv->Hp->Prop),Inv X pins σ H s->t σ H Q->wpAny (model X.prog X.w) X.A (spliced (backTo pos (starEach es X.env))) (AP X pins σ Q) X.xe s
noncomputable def PS (X:Cx)(st:Stmt)(t:TS):Prop:=
 ∀(pins:aO)(s:Shared)(σ:St)(H:Hp)(D:Ends),Inv X pins σ H s->t D σ H->wpAny (model X.prog X.w) X.A (exec st X.env) (SP X pins D) X.xe s
noncomputable def cx (X:Cx)(st:List Stmt)(t:TS):Prop:=
 ∀(pins:aO)(s:Shared)(σ:St)(H:Hp)(D:Ends),Inv X pins σ H s->t D σ H->wpAny (model X.prog X.w) X.A (execs st X.env) (SP X pins D) X.xe s
theorem aD {α:Type}{t:Sem α}{Q Q':α->Shared->Prop}{M:Model}{A:Around}{E:aG}{s:Shared}(h:wpAny M A t Q E s)(hQ:∀ a s,Q a s->Q' a s):wpAny M A t Q' E s:=wpAny_mono h hQ λ_ _ x=>x
section
variable {X:Cx}
theorem bin {a b:Expr}{ta tb:TE}(ha:PE X a ta)(hb:PE X b tb){pins:aO}{s:Shared}{σ:St}{H:Hp}{R:V->V->Hp->Prop}(I:Inv X pins σ H s)(h:ta σ H λx H1=>tb σ H1 λy H2=>R x y H2)
  {α:Type}{Q:α->Shared->Prop}{f:Value->Value->Sem α}
  (hf:∀ v u s2 x y H2,Inv X pins σ H2 s2->RelV x v->RelV y u->R x y H2->wpAny (model X.prog X.w) X.A (f v u) Q X.xe s2) :
  wpAny (model X.prog X.w) X.A (eval a X.env) (λv aU=>wpAny (model X.prog X.w) X.A (eval b X.env) (λu dS=>wpAny (model X.prog X.w) X.A (f v u) Q X.xe dS) X.xe aU) X.xe s:=by
 refine aD (ha pins s σ H _ I h) λv s1 ⟨x,H1,I1,r1,q1⟩=>?_;refine aD (hb pins s1 σ H1 _ I1 q1) λu s2 ⟨y,H2,I2,r2,q2⟩=>?_;exact hf v u s2 x y H2 I2 r1 r2 q2
noncomputable def A7 (i:Nat):TE:=λσ H Q=>∃ v,σ[i]?=some (some v)/\Q v H
noncomputable def tC (v:V):TE:=λ_ H Q=>Q v H
theorem dZ {i:Nat}{x:Str}{pos:Pos}(hN:X.N[i]?=some x)(hv:dj X.env.scope x)(hd:(x==("__debug__":Str))=false:=by decide)(bK:(x==("__classdict__":Str))=false:=by decide):PE X (.Name x pos) (A7 i):=by
 intro pins s σ H Q I h;obtain⟨v,e,h⟩:=h;obtain⟨m,hn,hl⟩:=I.loc;obtain⟨u,r,l⟩:=hl i x v hN e hv;have fin:EP X pins σ Q u s:=⟨v,H,I,r,h⟩;rcases l with ⟨hk,hm⟩|⟨hk,c,hc,A8⟩
 ·exact wpAny_Name (wpAny_loadName_local I.ok.kind hk hn hm fin) hd
 ·rcases hk with hk|hk
  ·exact wpAny_Name (wpAny_loadName_cell I.ok.kind hk hc A8 fin) hd
  ·exact wpAny_Name (wpAny_loadName_free I.ok.kind hk hc A8 fin bK) hd
theorem cR {i j pos}:PE X (.Constant (.int i) j pos) (tC (.int i)):=λ_ _ _ H _ I h=>wpAny_Constant_int ⟨.int i,H,I.tok _,⟨_,rfl⟩,h⟩
theorem Km {b j pos}:PE X (.Constant (.bool b) j pos) (tC (.bl b)):=λ_ _ _ H _ I h=>Constant_bool ⟨.bl b,H,I,rfl,h⟩
theorem Ko {j pos}:PE X (.Constant .none j pos) (tC .non):=λ_ _ _ H _ I h=>Constant_none ⟨.non,H,I,rfl,h⟩
theorem cT {x j pos}:PE X (.Constant (.str x) j pos) (tC (.str x)):=λ_ _ _ H _ I h=>Calls.Constant_str ⟨.str x,H,I.tok _,⟨_,rfl⟩,h⟩
noncomputable def Gl (X:Cx)(x:Str):Prop:=X.env.kindOf x=some .globalImplicit
theorem A9 {E:aG}{pins:aO}{s:Shared}{σ:St}{H:Hp}{x:Str}{u:Value}{pos:Pos}{Q:aG}(I:Inv X pins σ H s)(hg:Gl X x)(hm:X.mg x=some u)(h:Q u s)
  (hd:(x==("__debug__":Str))=false:=by decide):wpAny (model X.prog X.w) X.A (eval (.Name x pos) X.env) Q E s:=
 Calls.Name_function_global I.ok.kind hg (Calls.loadGlobal_global (by rw[I.ok.glob];exact I.mod.glob.keeps I.bk) hm h) hd
theorem my {E:aG}{pins:aO}{s:Shared}{σ:St}{H:Hp}{x:Str}{u:Value}{pos:Pos}{Q:aG}(I:Inv X pins σ H s)(hg:Gl X x)(hm:X.mg x=none)(hv:bootBuiltins x=some u)(h:Q u s)
  (hn:x≠"__name__":=by decide)(hd:(x==("__debug__":Str))=false:=by decide):wpAny (model X.prog X.w) X.A (eval (.Name x pos) X.env) Q E s:=by
 obtain⟨mb,h1,h2⟩:=I.mod.blt;exact Calls.Name_function_global I.ok.kind hg (Calls.loadGlobal_builtin (by rw[I.ok.glob];exact I.mod.glob.keeps I.bk) hm (by rw[I.ok.blt];exact h1.keeps I.bk) ((h2 x hn).trans hv) h) hd
theorem A_ {x:Str}{v:V}{u:Value}{pos:Pos}(hg:Gl X x)(hm:X.mg x=some u)(r:RelV v u)(hd:(x==("__debug__":Str))=false:=by decide):PE X (.Name x pos) (tC v):=
 λ_ _ _ H _ I h=>A9 I hg hm ⟨v,H,I,r,h⟩ hd
theorem Kq {x:Str}{v:V}{u:Value}{pos:Pos}(hg:Gl X x)(hm:X.mg x=none)(hv:bootBuiltins x=some u)(r:RelV v u)(hn:x≠"__name__":=by decide)(hd:(x==("__debug__":Str))=false:=by decide):PE X (.Name x pos) (tC v):=
 λ_ _ _ H _ I h=>my I hg hm hv ⟨v,H,I,r,h⟩ hn hd
noncomputable def Kr (ta tb:TE)(k:Int->Int->Hp->Prop):St->Hp->Prop:=λσ H=>ta σ H λx H1=>tb σ H1 λy H2=>∃ i j,x=.int i/\y=.int j/\k i j H2
noncomputable def iJ (ta tb:TE):TE:=λσ H Q=>Kr ta tb (λi j H2=>Q (.int (i-j)) H2) σ H
variable {a b:Expr}{ta tb:TE}{pos:Pos}
noncomputable def PC (X:Cx)(op:CmpOp)(a b:Expr)(t:TE):Prop:=
 ∀(pins:aO)(s:Shared)(σ:St)(H:Hp)(Q:VK),Inv X pins σ H s->t σ H Q ->
  wpAny (model X.prog X.w) X.A (eval a X.env) (λv aU=>wpAny (model X.prog X.w) X.A (eval b X.env) (λu dS=>wpAny (model X.prog X.w) X.A (compareOp op v u) (EP X pins σ Q) X.xe dS) X.xe aU) X.xe s
theorem Ks (b:Expr){op:CmpOp}(h:op≠.In)(h2:op≠.NotIn):behindInMarks op b=false:=by
 have e1:(op==CmpOp.In)=false:=by cases op<;>first|rfl|exact absurd rfl h
 have e2:(op==CmpOp.NotIn)=false:=by cases op<;>first|rfl|exact absurd rfl h2
 cases b<;>simp [behindInMarks,e1,e2]
noncomputable def tB (t:TE):TT:=λσ H Q=>t σ H λx H1=>∃ c,x=.bl c/\Q c H1
theorem A' {op:CmpOp}{t:TE}(h:PC X op a b t)(h1:behindInMarks op b=false:=by first|exact Ks _ (by decide) (by decide)|rfl):PT X (.Compare a [op] [b] pos) (tB t):=by
 intro pins s σ H Q I hw;refine wpAny_isTrue_Compare1 (aD (h pins s σ H _ I hw) λv s1 h1=>aD h1 λu s2 h2=>aD h2 λc s3 ⟨x,H1,I1,r1,q1⟩=>?_) h1;obtain⟨d,rfl,q⟩:=q1;cases r1;exact wpAny_truthy_bool ⟨H1,I1,q⟩
variable {tA qz:TT}{rest:List Expr}
noncomputable def Kt (t u:TT):TT:=λσ H Q=>t σ H λc H1=>if c=true then u σ H1 Q else Q false H1
noncomputable def Ku (t u:TT):TT:=λσ H Q=>t σ H λc H1=>if c=true then Q true H1 else u σ H1 Q
noncomputable def Kv (t:TT):TT:=λσ H Q=>t σ H λc H1=>Q (!c) H1
theorem Ba (ha:PT X a tA):PW X (.BoolOp .And [a] pos) tA:=by
 intro wh pins s σ H Q I h;refine isTrue_and (aD (ha pins s σ H Q I h) λc s1 e=>?_)
 cases c with
 |true=>exact isTrue_and_nil e
 |false=>exact e
theorem Kw (ha:PT X a tA):PW X (.BoolOp .Or [a] pos) tA:=by
 intro wh pins s σ H Q I h;refine isTrue_or (aD (ha pins s σ H Q I h) λc s1 e=>?_)
 cases c with
 |false=>exact isTrue_or_nil e
 |true=>exact e
theorem Bb (ha:PT X a tA)(hb:PW X (.BoolOp .And (b::rest) pos) qz):PW X (.BoolOp .And (a::b::rest) pos) (Kt tA qz):=by
 intro wh pins s σ H Q I h;refine isTrue_and (aD (ha pins s σ H _ I h) λc s1 ⟨H1,I1,q1⟩=>?_)
 cases c with
 |true=>exact hb wh pins s1 σ H1 Q I1 q1
 |false=>exact⟨H1,I1,q1⟩
theorem Kx (ha:PT X a tA)(hb:PW X (.BoolOp .Or (b::rest) pos) qz):PW X (.BoolOp .Or (a::b::rest) pos) (Ku tA qz):=by
 intro wh pins s σ H Q I h;refine isTrue_or (aD (ha pins s σ H _ I h) λc s1 ⟨H1,I1,q1⟩=>?_)
 cases c with
 |true=>exact⟨H1,I1,q1⟩
 |false=>exact hb wh pins s1 σ H1 Q I1 q1
theorem Ky (ha:PT X a tA):PT X (.UnaryOp .Not a pos) (Kv tA):=by
 intro pins s σ H Q I h;exact isTrue_not (ha pins s σ H (λc H1=>Q (!c) H1) I h)
noncomputable def Kz (ta tb:TE):TE:=λσ H Q=>ta σ H λx H1=>∃ c,x=.bl c/\if c=true then tb σ H1 Q else Q (.bl false) H1
noncomputable def KA (ta:TE):TE:=λσ H Q=>ta σ H λx H1=>∃ c,x=.bl c/\Q (.bl (!c)) H1
theorem KC {op}{t:TE}(h:PE X a t):PE X (.BoolOp op [a] pos) t:=λpins s σ H Q I hw=>BoolOp_one (h pins s σ H Q I hw)
theorem KD (ha:PE X a ta)(hb:PE X (.BoolOp .And (b::rest) pos) tb):PE X (.BoolOp .And (a::b::rest) pos) (Kz ta tb):=by
 intro pins s σ H Q I h;refine BoolOp_and (aD (ha pins s σ H _ I h) λv s1 ⟨x,H1,I1,r1,q1⟩=>?_);obtain⟨c,rfl,q1⟩:=q1;cases r1;refine wpAny_truthy_bool ?_
 cases c with
 |true=>exact hb pins s1 σ H1 Q I1 q1
 |false=>exact⟨.bl false,H1,I1,rfl,q1⟩
theorem KG (ha:PE X a ta):PE X (.UnaryOp .Not a pos) (KA ta):=by
 intro pins s σ H Q I h;refine UnaryOp_ (aD (ha pins s σ H _ I h) λv s1 ⟨x,H1,I1,r1,q1⟩=>?_);obtain⟨c,rfl,q1⟩:=q1;cases r1;exact not_of (wpAny_truthy_bool ⟨.bl (!c),H1,I1,rfl,q1⟩)
noncomputable def KH (t:TT)(ta tb:TE):TE:=λσ H Q=>t σ H λc H1=>if c=true then ta σ H1 Q else tb σ H1 Q
theorem KI {c:Expr}(hc:PT X c tA)(ha:PE X a ta)(hb:PE X b tb):PE X (.IfExp c a b pos) (KH tA ta tb):=by
 intro pins s σ H Q I h;refine wpAny_IfExp (aD (hc pins s σ H _ I h) λd s1 ⟨H1,I1,q1⟩=>?_)
 cases d with
 |true=>exact ha pins s1 σ H1 Q I1 q1
 |false=>exact hb pins s1 σ H1 Q I1 q1
end
noncomputable def aN (K:Frag)(H:Hp)(a:Addr)(xs:Zv):Prop:=
 Rd H a (.lst xs) \/
  ∃(o:Obj)(its:Array Value)(n:Nat),K.lookup a=some o/\o.cls=.type "list"/\o.dict=none/\o.data=.seq its n/\its.size<=sizeLine/\Vals xs its.toList
noncomputable def bt (K:Frag)(H:Hp)(a:Addr)(xs:Zv):Prop:=
 Rd H a (.tup xs) \/
  ∃(o:Obj)(its:Array Value)(n:Nat),K.lookup a=some o/\o.cls=.type "tuple"/\o.data=.seq its n/\its.size<=sizeLine/\Vals xs its.toList
noncomputable def KJ:Value->Option V
 |.none=>some .non
 |.bool b=>some (.bl b)
 |.int i _=>some (.int i)
 |.str x _=>some (.str x)
 |.bytes b _=>some (.fW b)
 |.float b _=>some (.mi b)
 |.ref a=>some (.ref a)
 |.type n=>some (.ty n)
 |_=>none
theorem RelV.abs {x:V}{u:Value}(r:RelV x u):KJ u=some x:=by
 cases x with
 |non=>cases r;rfl
 |bl _=>cases r;rfl
 |int _=>obtain⟨t,rfl⟩:=r;rfl
 |str _=>obtain⟨t,rfl⟩:=r;rfl
 |fW _=>obtain⟨t,rfl⟩:=r;rfl
 |mi _=>obtain⟨t,rfl⟩:=r;rfl
 |ref _=>cases r;rfl
 |ty _=>cases r;rfl
theorem RelV.inj {x y:V}{u:Value}(r:RelV x u)(q:RelV y u):x=y:=Option.some.inj (r.abs.symm.trans q.abs)
theorem Vals.inj:∀{xs ys:Zv}{us:aC},Vals xs us->Vals ys us->xs=ys
 |_,_,_,.nil,.nil=>rfl
 |_,_,_,.cons r t,.cons r' t'=>by rw[r.inj r',Vals.inj t t']
section
variable {X:Cx}{pins:aO}{σ:St}{H:Hp}{s:Shared}{a:Addr}{xs ys:Zv}
theorem aN.of {K:Frag}(h:H a=some (.lst xs)):aN K H a xs:=.inl (.inl h)
theorem bt.of {K:Frag}(h:H a=some (.tup xs)):bt K H a xs:=.inl (.inl h)
theorem Inv.list (I:Inv X pins σ H s)(h:aN X.K H a xs):∃ its:aC,Vals xs its/\PlainL s.heap a its.toArray/\xs.length<=sizeLine:=by
 rcases h with h|⟨o,its,n,hk,hc,hd,hs,hz,r⟩
 ·obtain⟨z,its,n,r,e⟩:=h.ok I.aA;exact⟨its,r,⟨_,n,e,rfl,rfl,rfl⟩,z⟩
 ·refine⟨its.toList,r,⟨o,n,I.dH a o hk,hc,hd,by simpa using hs⟩,?_⟩;have e:=r.length;simp only[Array.length_toList] at e;omega
theorem Inv.tuple (I:Inv X pins σ H s)(h:bt X.K H a xs):∃ its:aC,Vals xs its/\IsTup s.heap a its.toArray/\xs.length<=sizeLine:=by
 rcases h with h|⟨o,its,n,hk,hc,hs,hz,r⟩
 ·obtain⟨z,its,r,p⟩:=h.ok I.aA;exact⟨its,r,p,z⟩
 ·refine⟨its.toList,r,⟨o,I.dH a o hk,hc,n,by simpa using hs⟩,?_⟩;have e:=r.length;simp only[Array.length_toList] at e;omega
theorem Inv.Bc (I:Inv X pins σ H s)(h:aN X.K H a xs)(h':aN X.K H a ys):xs=ys:=by
 obtain⟨its,r,⟨o,n,e,_,_,d⟩,_⟩:=I.list h;obtain⟨its',r',⟨o',n',e',_,_,d'⟩,_⟩:=I.list h';rw[e] at e';cases e';rw[d] at d';injection d' with d1 _
 have:its=its':=by simpa using congrArg Array.toList d1
 subst this;exact r.inj r'
theorem Inv.vd (I:Inv X pins σ H s)(h:bt X.K H a xs)(h':bt X.K H a ys):xs=ys:=by
 obtain⟨its,r,⟨o,e,_,n,d⟩,_⟩:=I.tuple h;obtain⟨its',r',⟨o',e',_,n',d'⟩,_⟩:=I.tuple h';rw[e] at e';cases e';rw[d] at d';injection d' with d1 _
 have:its=its':=by simpa using congrArg Array.toList d1
 subst this;exact r.inj r'
end
noncomputable abbrev Cx.iK (X:Cx)(E:aG):Cx:={ X with xe:=E }
noncomputable abbrev Cx.jO (X:Cx):Cx:=X.iK λ_ _=>False
theorem Cx.Ok.iK {X:Cx}(ok:X.Ok)(E:aG):(X.iK E).Ok:=
 ⟨ok.mod,ok.kind,ok.glob,ok.blt,ok.above,ok.inj,ok.has,ok.mq,ok.hd,ok.frames,ok.oo,ok.u9,ok.bs,ok.jg,ok.mx,ok.oq,ok.gm,ok.kT⟩
theorem Cx.Ok.jP {X:Cx}{E:aG}(ok:(X.iK E).Ok):X.Ok:=
 ⟨ok.mod,ok.kind,ok.glob,ok.blt,ok.above,ok.inj,ok.has,ok.mq,ok.hd,ok.frames,ok.oo,ok.u9,ok.bs,ok.jg,ok.mx,ok.oq,ok.gm,ok.kT⟩
section
variable {X:Cx}{pins:aO}{σ:St}{H:Hp}{s:Shared}{E:aG}
theorem Inv.iK (I:Inv X pins σ H s)(E:aG):Inv (X.iK E) pins σ H s:=⟨I.ok.iK E,I.os,I.bare,I.base,I.loc,I.cell,I.free,I.gn,I.pin,I.aA,I.len⟩
theorem Inv.jP (I:Inv (X.iK E) pins σ H s):Inv X pins σ H s:=⟨I.ok.jP,I.os,I.bare,I.base,I.loc,I.cell,I.free,I.gn,I.pin,I.aA,I.len⟩
theorem SP.jP {D:Ends}{f:Flow}{s':Shared}(h:SP (X.iK E) pins D f s'):SP X pins D f s':=by
 cases f with
 |next=>obtain⟨aH,H',I,q⟩:=h;exact⟨aH,H',I.jP,q⟩
 |brk=>obtain⟨aH,H',I,q⟩:=h;exact⟨aH,H',I.jP,q⟩
 |cont=>obtain⟨aH,H',I,q⟩:=h;exact⟨aH,H',I.jP,q⟩
 |ret u=>obtain⟨v,aH,H',I,r,q⟩:=h;exact⟨v,aH,H',I.jP,r,q⟩
theorem cx.jO {st:List Stmt}{t:TS}(h:cx X.jO st t):cx X st t:=λpins s σ H D I hw=>
 wpAny_mono (h pins s σ H D (I.iK _) hw) (λ_ _ q=>q.jP) λ_ _ z=>False.elim z
end
section
variable {X:Cx}{st:Stmt}{rest:List Stmt}{t u:TS}{e:Expr}{te:TE}{pos:Pos}
noncomputable def KL:TS:=λD σ H=>D.nx σ H
noncomputable def KN (t u:TS):TS:=λD σ H=>t { D with nx:=u D } σ H
theorem qB:cx X [] KL:=λ_ _ σ H _ I h=>wpAny_execs_nil ⟨σ,H,I,h⟩
theorem eP (h1:PS X st t)(h2:cx X rest u):cx X (st::rest) (KN t u):=by
 intro pins s σ H D I h;refine wpAny_execs_cons (aD (h1 pins s σ H { D with nx:=u D } I h) λf s1 q=>?_)
 cases f with
 |next=>
  obtain⟨aH,H',I',q⟩:=q;exact h2 pins s1 aH H' D I' q
 |ret v=>exact q
 |brk=>exact q
 |cont=>exact q
theorem jh (h1:PS X st t):cx X [st] t:=by
 intro pins s σ H D I h;refine wpAny_execs_cons (aD (h1 pins s σ H D I h) λf s1 q=>?_)
 cases f with
 |next=>exact wpAny_execs_nil q
 |ret v=>exact q
 |brk=>exact q
 |cont=>exact q
theorem Inv.quiet {pins:aO}{σ:St}{H:Hp}{s:Shared}(I:Inv X pins σ H s):interactive X.env=false:=by simp [interactive,I.ok.kind]
noncomputable def KO (te:TE):TS:=λD σ H=>te σ H λ_ H1=>D.nx σ H1
theorem KP (he:PE X e te)(hs:swapsWith e none pos.line X.env=pure false:=by rfl):PS X (.Expr e pos) (KO te):=by
 intro pins s σ H D I h;exact wpAny_Expr_any (aD (he pins s σ H _ I h) λv s1 ⟨x,H1,I1,r1,q1⟩=>⟨σ,H1,I1,q1⟩) I.quiet hs
noncomputable def KQ (te:TE):TS:=λD σ H=>te σ H D.rt
theorem jQ (he:PE X e te):PS X (.Return (some e) pos) (KQ te):=by
 intro pins s σ H D I h;exact wpAny_Return_some (aD (he pins s σ H _ I h) λv s1 ⟨x,H1,I1,r1,q1⟩=>⟨x,σ,H1,I1,r1,q1⟩)
noncomputable def KR (c:TT)(t u:TS):TS:=λD σ H=>c σ H λb H1=>if b=true then t D σ H1 else u D σ H1
theorem qD {c:Expr}{a b:List Stmt}{tc:TT}(hc:PT X c tc)(ha:cx X a t)(hb:cx X b u):PS X (.If c a b pos) (KR tc t u):=by
 intro pins s σ H D I h;refine wpAny_If (aD (hc pins s σ H _ I h) λd s1 ⟨H1,I1,q1⟩=>?_)
 cases d with
 |true=>exact ha pins s1 σ H1 D I1 q1
 |false=>exact hb pins s1 σ H1 D I1 q1
end
noncomputable abbrev TG:=V->St->Hp->(St->Hp->Prop)->Prop
noncomputable abbrev ji:=Zv->St->Hp->(St->Hp->Prop)->Prop
noncomputable def PG (X:Cx)(target:Expr)(t:TG):Prop:=
 ∀(pins:aO)(s:Shared)(σ:St)(H:Hp)(v:V)(u:Value)(Q:St->Hp->Prop),Inv X pins σ H s->RelV v u->t v σ H Q ->
  wpAny (model X.prog X.w) X.A (assign target X.env u) (λ_ s'=>∃ aH H',Inv X pins aH H' s'/\Q aH H') X.xe s
noncomputable def g8 (X:Cx)(ts:List Expr)(t:ji):Prop:=
 ∀(pins:aO)(s:Shared)(σ:St)(H:Hp)(vs:Zv)(us:aC)(Q:St->Hp->Prop),Inv X pins σ H s->Vals vs us->t vs σ H Q ->
  wpAny (model X.prog X.w) X.A (assignInOrder ((assignEach ts X.env).map (·.2)) us) (λ_ s'=>∃ aH H',Inv X pins aH H' s'/\Q aH H') X.xe s
noncomputable abbrev ve:=V->V->V->Hp->(Hp->Prop)->Prop
noncomputable def Bd (X:Cx)(t:ve):Prop:=
 ∀(pins:aO)(s:Shared)(σ:St)(H:Hp)(o i v:V)(ov iv u:Value)(Q:Hp->Prop),Inv X pins σ H s->RelV o ov->RelV i iv->RelV v u->t o i v H Q ->
  wpAny (model X.prog X.w) X.A (setItem ov iv u) (λ_ s'=>∃ H',Inv X pins σ H' s'/\Q H') X.xe s
section
variable {X:Cx}{pos:Pos}
noncomputable def Bf (i:Nat):TG:=λv σ H Q=>Q (σ.set i (some v)) H
theorem KS {i:Nat}{x:Str}(hN:X.N.Nodup)(hi:X.N[i]?=some x)(hx:Loc X.env.scope x)(hf:X.fn x=true\/X.env.scope.names.lookup x=some .local:=by first|exact .inl rfl|exact .inr rfl|assumption):PG X (.Name x pos) (Bf i):=by
 intro pins s σ H v u Q I r h;exact wpAny_assign_Name (A5 I hN hi hx r (λs' I'=>⟨_,H,I',h⟩) hf)
noncomputable def KU:ji:=λvs σ H Q=>vs=[]/\Q σ H
noncomputable def KW (t:TG)(u:ji):ji:=λvs σ H Q=>∃ v r,vs=v::r/\t v σ H λaH H'=>u r aH H' Q
theorem KY:g8 X [] KU:=by
 intro pins s σ H vs us Q I r h;obtain⟨e,h⟩:=h;subst e;cases r;exact assignInOrder_nil ⟨σ,H,I,h⟩
theorem KZ {e:Expr}{es:List Expr}{t:TG}{u:ji}(h1:PG X e t)(h2:g8 X es u)
  (hs:(assignEach (e::es) X.env).map (·.2)=assign e X.env::(assignEach es X.env).map (·.2):=by rfl):g8 X (e::es) (KW t u):=by
 intro pins s σ H vs us Q I r h;obtain⟨v,vr,e1,h⟩:=h;subst e1
 cases r with
 |cons r rr=>
  rw[hs];refine assignInOrder_cons (aD (h1 pins s σ H _ _ _ I r h) λ_ s1 ⟨bw,H1,I1,q1⟩=>?_);exact h2 pins s1 bw H1 _ _ Q I1 rr q1
noncomputable def K0 (K:Frag)(n:Nat)(t:ji):TG:=λv σ H Q=>∃ a xs,v=.ref a/\bt K H a xs/\xs.length=n/\t xs σ H Q
theorem K1 {es:List Expr}{k:Nat}{t:ji}{n:Nat}(hc:X.calm=true)(h:g8 X es t)
  (hn:(assignEach es X.env).length=n:=by rfl)(fX:(assignEach es X.env).findIdx? (·.1)=none:=by rfl):PG X (.Tuple es k pos) (K0 X.K n t):=by
 intro pins s σ H v u Q I r hw;obtain⟨a,xs,e1,hq,hl,hw⟩:=hw;subst e1;cases r;obtain⟨its,rv,ht,hz⟩:=I.tuple hq;refine assign_Tuple_tuple (I.ok.hd hc) ht (by simp [hn,<- hl,rv.length]) fX λh' hx=>?_;have I1:Inv X pins σ H { s with heap:=h' }:=I.kept (t':=s.toks) λb o e=>hx b o (bJ (a7 e)) e;exact h pins _ σ H xs _ Q I1 (by simpa using rv) hw
noncomputable def K2 (to ti:TE)(t:ve):TG:=λv σ H Q=>to σ H λo H1=>ti σ H1 λi H2=>t o i v H2 λH3=>Q σ H3
theorem K3 {o i:Expr}{to ti:TE}{t:ve}(ho:PE X o to)(hi:PE X i ti)(hs:Bd X t)
  (ha:∀ v,assign (.Subscript o i pos) X.env v=(do
   let ov <- holding [v] (eval o X.env)
   let iv <- holding [v,ov] (eval i X.env)
   standAt pos
   holding [v,ov,iv] (setItem ov iv v)
   release [v,ov,iv] []):=by intro _;rfl):PG X (.Subscript o i pos) (K2 to ti t):=by
 intro pins s σ H v u Q I r h;rw[ha];refine af (wpAny_holding (aD (ho pins s σ H _ I h) λov s1 ⟨x,H1,I1,r1,q1⟩=>?_));refine af (wpAny_holding (aD (hi pins s1 σ H1 _ I1 q1) λiv s2 ⟨y,H2,I2,r2,q2⟩=>?_));refine af (wpAny_standAt (af (wpAny_holding (aD (hs pins s2 σ H2 x y v ov iv u _ I2 r1 r2 r q2) λ_ s3 ⟨H3,I3,q3⟩=>?_))));exact wpAny_release ⟨σ,H3,I3,q3⟩
noncomputable def Bg (te:TE)(g:TG):TS:=λD σ H=>te σ H λx H1=>g x σ H1 D.nx
theorem Bh {tg e:Expr}{te:TE}{g:TG}(he:PE X e te)(hg:PG X tg g)(hs:swapsWithSole [tg] e pos.line X.env=pure false:=by rfl)(hw:swappedStores [tg] e X.env=pure none:=by rfl)
  (h1:(assignEach [tg] X.env).map (·.2)=[assign tg X.env]:=by rfl):PS X (.Assign [tg] e pos) (Bg te g):=by
 intro pins s σ H D I h;refine wpAny_Assign_stores (aD (he pins s σ H _ I h) λv s1 ⟨x,H1,I1,r1,q1⟩=>?_) hs hw;rw[h1];exact aD (hg pins s1 σ H1 x v _ I1 r1 q1) λ_ s2 q=>q
theorem gu {i:Nat}{x:Str}{e:Expr}{te:TE}{pos':Pos}(hN:X.N.Nodup)(hi:X.N[i]?=some x)(hx:Loc X.env.scope x)(he:PE X e te)(hs:swapsWith e (some (.Name x pos')) pos.line X.env=pure false:=by rfl)(hf:X.fn x=true\/X.env.scope.names.lookup x=some .local:=by first|exact .inl rfl|exact .inr rfl|assumption) :
  PS X (.Assign [.Name x pos'] e pos) (Bg te (Bf i)):=by
 intro pins s σ H D I h;refine wpAny_Assign_Name (aD (he pins s σ H _ I h) λv s1 ⟨y,H1,I1,r1,q1⟩=>?_) hs;exact A5 I1 hN hi hx r1 (λs2 I2=>⟨_,H1,I2,q1⟩) hf
end
section
variable {X:Cx}{pos:Pos}
noncomputable def K4 (c:TT)(tb:TS):TS:=λD σ H=>∃ W:Nat->St->Hp->Prop,(∃ m,W m σ H)/\∀ m σ H,W m σ H ->
 c σ H λb H1=>if b=true then ∃ N:St->Hp->Prop,(∀ aH H',N aH H'->∃ m',m'<m/\W m' aH H')/\tb { D with nx:=N,ct:=N,bk:=D.nx } σ H1 else D.nx σ H1
theorem Bi {c:Expr}{body:List Stmt}{tc:TT}{tb:TS}(hp:PassesOwn (model X.prog X.w) X.A X.env X.xe)(hc:PT X c tc)(hb:cx X body tb):PS X (.While c body [] pos) (K4 tc tb):=by
 intro pins s σ H D I h;obtain⟨W,⟨m0,w0⟩,turn⟩:=h;refine wpAny_While (codeAny_whileLoop (λn s'=>∃ aH H',Inv X pins aH H' s'/\W n aH H') ?_ m0 ⟨σ,H,I,w0⟩);rintro n s1 ⟨bw,H1,I1,w1⟩;refine wpAny_passesOwn hp (aD (hc pins s1 bw H1 _ I1 (turn n bw H1 w1)) λb s2 ⟨H2,I2,q2⟩=>?_)
 cases b with
 |true=>
  obtain⟨N,hN,q2⟩:=q2;rw[if_pos rfl];refine wpAny_passesOwn hp (aD (hb pins s2 bw H2 _ I2 q2) λf s3 q3=>?_)
  cases f with
  |next=>
   obtain⟨cL,H3,I3,n3⟩:=q3;obtain⟨m',hm,w3⟩:=hN cL H3 n3;exact⟨m',hm,cL,H3,I3,w3⟩
  |cont=>
   obtain⟨cL,H3,I3,n3⟩:=q3;obtain⟨m',hm,w3⟩:=hN cL H3 n3;exact⟨m',hm,cL,H3,I3,w3⟩
  |brk=>exact q3
  |ret v=>exact q3
 |false=>
  rw[if_neg Bool.false_ne_true];exact wpAny_execs_nil ⟨bw,H2,I2,q2⟩
end
structure It where
 go:Nat->Hp->Prop
 fK:Nat->Hp->V->Hp->Prop
 stop:Nat->Hp->Prop
noncomputable def fY (X:Cx)(pins:aO)(H:Hp)(b:Addr):Prop:=
 H b=none/\b≠X.env.locals/\b∉X.fs/\(b∈X.ex\/X.c8.heap.objs.size<=b)/\(∀ x c,X.env.cells.lookup x=some c->c≠b)/\∀ p∈X.pn++pins,p.1≠b
theorem Inv.jR {X:Cx}{pins:aO}{σ:St}{H H':Hp}{s:Shared}{b:Addr}(I:Inv X pins σ H s)(hb:s.heap.objs.size<=b)(hn:H' b=none):fY X pins H' b:=by
 refine⟨hn,Nat.ne_of_gt (dF I.lt hb),I.Kh hb,.inr (aP I.sz hb),λx c e z=>?_,λp hp z=>?_⟩
 ·obtain⟨v,q⟩:=I.cell x c e;exact absurd (dF q.lt (by rw[z];exact hb)) (Nat.lt_irrefl _)
 ·exact absurd (dF (a7 (I.pin p hp).1) (by rw[z];exact hb)) (Nat.lt_irrefl _)
structure Turn (P:Program)(w:World)(K:Frag)(tg:Expr)(J:It)(fp:List Addr)(it:Addr)(tn:Nat->Heap->Prop):Prop where
 mem:it∈fp
 obj:∀ i h,tn i h->∀ b∈fp,∃ o,h.get? b=some o/\∀ v,o.data≠.cell v
 keep:∀ i h h',tn i h->(∀ b∈fp,∀ o,h.get? b=some o->h'.get? b=some o)->tn i h'
 item:∀(X:Cx),X.prog=P->X.w=w->X.K=K->X.calm=true->∀(i:Nat)(pins:aO)(s:Shared)(σ:St)(H:Hp)(E:aG),Inv X pins σ H s->(∀ b∈fp,fY X pins H b)->tn i s.heap->J.go i H ->
  wpAny (model P w) X.A (pyNext (.ref it)) (λr s1=>∃ u,r=some u /\
   wpAny (model P w) X.A (letOwnedTupleGo tg (.ref it) u) (λ_ s2=>∃ x H',Inv X pins σ H' s2/\RelV x u/\J.fK i H x H'/\tn (i+1) s2.heap/\∀ b∈fp,H' b=none) E s1) E s
 done:∀(X:Cx),X.prog=P->X.w=w->X.K=K->X.calm=true->∀(i:Nat)(pins:aO)(s:Shared)(σ:St)(H:Hp)(E:aG),Inv X pins σ H s->(∀ b∈fp,fY X pins H b)->tn i s.heap->J.stop i H ->
  wpAny (model P w) X.A (pyNext (.ref it)) (λr s1=>r=none/\Inv X pins σ H s1) E s
 self:∀(A:Around)(i:Nat)(s:Shared)(Q:aG)(E:aG),tn i s.heap->Q (.ref it) s->wpAny (model P w) A (pyIter (.ref it)) Q E s
noncomputable abbrev TI:=St->Hp->(It->Hp->Prop)->Prop
noncomputable def Bj (X:Cx)(pins:aO)(σ:St)(tg:Expr)(R:It->Hp->Prop)(qE:Value)(s2:Shared):Prop:=
 ∃(it:Addr)(fp:List Addr)(tn:Nat->Heap->Prop)(J:It)(H':Hp),qE=.ref it/\Inv X pins σ H' s2/\Turn X.prog X.w X.K tg J fp it tn/\tn 0 s2.heap/\(∀ b∈fp,fY X pins H' b)/\R J H'
noncomputable def PI (X:Cx)(tg iter:Expr)(wi:TI):Prop:=
 ∀(pins:aO)(s:Shared)(σ:St)(H:Hp)(R:It->Hp->Prop),Inv X pins σ H s->wi σ H R ->
  wpAny (model X.prog X.w) X.A (eval iter X.env) (λv s1=>wpAny (model X.prog X.w) X.A (pyIter v) (Bj X pins σ tg R) X.xe s1) X.xe s
theorem mz {M:Model}{A:Around}{E:aG}{s:Shared}{tg:Expr}{it:Addr}{u:Value}{o:Obj}{n:String}{vs:Array Value}{Q:Unit->Shared->Prop}(ho:s.heap.get? it=some o)(hc:o.cls=.type n)(hd:o.data=.fields vs)
  (hn:["enumerate","zip","dict_itemiterator","dict_reverseitemiterator","odict_iterator","itertools.zip_longest","itertools.pairwise"].contains n=false)(hQ:Q () s):wpAny M A (letOwnedTupleGo tg (.ref it) u) Q E s:=by
 unfold letOwnedTupleGo
 cases tg<;>first
  |exact ao hQ
  | (cases u<;>first
    |exact ao hQ
    | (refine af (wpAny_load ho ?_)
       rw[hc,hd];show wpAny M A (if (["enumerate","zip","dict_itemiterator","dict_reverseitemiterator","odict_iterator","itertools.zip_longest","itertools.pairwise"].contains n&&vs[0]?==some (rawInt _))=true then _ else _) Q E s;rw[if_neg (by intro h;rw[hn,Bool.false_and] at h;cases h)]
       exact ao hQ))
noncomputable def kW (K:Frag)(a:Addr):It:=
 ⟨λi H=>∃ xs x,aN K H a xs/\xs[i]?=some x,λi H x H'=>H'=H/\∀ xs,aN K H a xs->xs[i]?=some x,λi H=>∃ xs,aN K H a xs/\xs.length<=i⟩
noncomputable def vg (K:Frag)(a:Addr):It:=
 ⟨λi H=>∃ xs x,bt K H a xs/\xs[i]?=some x,λi H x H'=>H'=H/\∀ xs,bt K H a xs->xs[i]?=some x,λi H=>∃ xs,bt K H a xs/\xs.length<=i⟩
noncomputable def qF (lo:Int)(n:Nat):It:=⟨λi _=>i<n,λi H x H'=>H'=H/\x=.int (lo+i),λi _=>n<=i⟩
theorem K5 {P:Program}{w:World}{K:Frag}{tg:Expr}(a it:Addr):Turn P w K tg (kW K a) [it] it (λi h=>h.IsListIter it a i) where
 mem:=by simp
 obj:=λi h st b hb=>by
  have e:b=it:=by simpa using hb
  subst e;obtain⟨o,e,c,d⟩:=st;exact⟨o,e,λv z=>by rw[d] at z;cases z⟩
 keep:=λi h h' st k=>st.at λo e=>k it (by simp) o e
 item:=by
  intro X hP hw hK hc i pins s σ H E I hf st hg;subst hP hw hK;obtain⟨xs,x,hq,hx⟩:=hg;obtain⟨its,rv,p,hz⟩:=I.list hq;obtain⟨u,hu,ru⟩:=rv.get hx;obtain⟨f0,f1,f2,f3,f4,f5⟩:=hf it (by simp);refine wpAny_pyNext_list_item st p.isList (x:=u) (by simpa using hu) λh' st' sb=>?_;have I1:Inv X pins σ H { s with heap:=h' }:=I.turned (t':=s.toks) (λb o hb e=>(sb.2 b hb).trans e) f0 f1 f3 f4 f5;obtain⟨o,e,c,d⟩:=id st';exact⟨u,rfl,mz (s:={ s with heap:=h' }) e c d (by decide) ⟨x,H,I1,ru,⟨rfl,λys hy=>by rw[I.Bc hy hq];exact hx⟩,st',λb hb=>(hf b hb).1⟩⟩
 done:=by
  intro X hP hw hK hc i pins s σ H E I hf st hg;subst hP hw hK;obtain⟨xs,hq,hx⟩:=hg;obtain⟨its,rv,p,hz⟩:=I.list hq;obtain⟨f0,f1,f2,f3,f4,f5⟩:=hf it (by simp);have hl:=rv.length;exact wpAny_pyNext_list_end (I.ok.hd hc) st p.isList (by simp;omega) λh' eb=>⟨rfl,I.turned (t':=s.toks) (λb o hb e=>eb b o hb e) f0 f1 f3 f4 f5⟩
 self:=λ_ _ _ _ _ st h=>wpAny_pyIter_listiter st h
theorem K6 {P:Program}{w:World}{K:Frag}{tg:Expr}(a it:Addr):Turn P w K tg (vg K a) [it] it (λi h=>h.IsTupleIter it a i) where
 mem:=by simp
 obj:=λi h st b hb=>by
  have e:b=it:=by simpa using hb
  subst e;obtain⟨o,e,c,d⟩:=st;exact⟨o,e,λv z=>by rw[d] at z;cases z⟩
 keep:=λi h h' st k=>st.at λo e=>k it (by simp) o e
 item:=by
  intro X hP hw hK hc i pins s σ H E I hf st hg;subst hP hw hK;obtain⟨xs,x,hq,hx⟩:=hg;obtain⟨its,rv,p,hz⟩:=I.tuple hq;obtain⟨u,hu,ru⟩:=rv.get hx;obtain⟨f0,f1,f2,f3,f4,f5⟩:=hf it (by simp);refine wpAny_pyNext_tuple_item st (show s.heap.IsTuple a its.toArray from p) (x:=u) (by simpa using hu) λh' st' sb=>?_;have I1:Inv X pins σ H { s with heap:=h' }:=I.turned (t':=s.toks) (λb o hb e=>(sb.2 b hb).trans e) f0 f1 f3 f4 f5;obtain⟨o,e,c,d⟩:=id st';exact⟨u,rfl,mz (s:={ s with heap:=h' }) e c d (by decide) ⟨x,H,I1,ru,⟨rfl,λys hy=>by rw[I.vd hy hq];exact hx⟩,st',λb hb=>(hf b hb).1⟩⟩
 done:=by
  intro X hP hw hK hc i pins s σ H E I hf st hg;subst hP hw hK;obtain⟨xs,hq,hx⟩:=hg;obtain⟨its,rv,p,hz⟩:=I.tuple hq;obtain⟨f0,f1,f2,f3,f4,f5⟩:=hf it (by simp);have hl:=rv.length;exact wpAny_pyNext_tuple_end (I.ok.hd hc) st (show s.heap.IsTuple a its.toArray from p) (by simp;omega) λh' eb=>⟨rfl,I.turned (t':=s.toks) (λb o hb e=>eb b o hb e) f0 f1 f3 f4 f5⟩
 self:=λ_ _ _ _ _ st h=>wpAny_pyIter_tupleiter st h
theorem K7 {P:Program}{w:World}{K:Frag}{tg:Expr}(it:Addr)(lo:Int)(n:Nat):Turn P w K tg (qF lo n) [it] it (λi h=>IsRangeIter h it (lo+(i:Nat)*1) ((n:Int)-(i:Nat)) 1) where
 mem:=by simp
 obj:=λi h st b hb=>by
  have e:b=it:=by simpa using hb
  subst e
  exact⟨_,st,λv z=>by
   have z':Data.fields _=Data.cell v:=z
   cases z'⟩
 keep:=λi h h' st k=>k it (by simp) _ st
 item:=by
  intro X hP hw hK hc i pins s σ H E I hf st hg;subst hP hw hK;obtain⟨f0,f1,f2,f3,f4,f5⟩:=hf it (by simp);have W:=Walks.range (prog:=X.prog) (w:=X.w) (I.ok.hd hc) it lo 1 n;refine W.item i s _ _ hg st λv h' tk hv st' kk=>?_;obtain⟨t,rfl⟩:=hv;have I1:Inv X pins σ H { s with heap:=h',toks:=tk }:=I.turned (λb o hb e=>kk b o (by simpa using hb) e) f0 f1 f3 f4 f5;refine⟨_,rfl,mz (s:={ s with heap:=h',toks:=tk }) (n:="range_iterator") st' rfl rfl (by decide) ⟨.int (lo+i),H,I1,⟨t,?_⟩,⟨rfl,rfl⟩,st',λb hb=>(hf b hb).1⟩⟩;rw[Int.mul_one]
 done:=by
  intro X hP hw hK hc i pins s σ H E I hf st hg;subst hP hw hK;obtain⟨f0,f1,f2,f3,f4,f5⟩:=hf it (by simp);exact wpAny_pyNext_range_end (I.ok.hd hc) st (by have:n<=i:=hg;omega) λh' eb=>⟨rfl,I.turned (t':=s.toks) (λb o hb e=>eb b o hb e) f0 f1 f3 f4 f5⟩
 self:=λ_ _ _ _ _ st h=>wpAny_pyIter_rangeiter st h
section
variable {X:Cx}{tg:Expr}
theorem K8 {pins:aO}{σ:St}{H:Hp}{s:Shared}{R:It->Hp->Prop}{E:aG}{lo hi:Int}{t u v:Tok}{tk:Nat}(I:Inv X pins σ H s)(h1:-(2 ^ 62)<=lo)(h2:lo<2 ^ 62)(h3:-(2 ^ 62)<=hi)(h4:hi<2 ^ 62)
  (q:R (qF lo (hi-lo).toNat) H):wpAny (model X.prog X.w) X.A (pyIter (.ref s.heap.objs.size)) (Bj X pins σ tg R) E { s with heap:=s.heap.push { cls:=.type "range",data:=.fields #[.int lo t,.int hi u,.int 1 v] },toks:=tk }:=by
 refine wpAny_pyIter_range (IsRange.new ..) (small_one h1 h2 h3 h4) ?_;have I1:Inv X pins σ H { s with heap:=s.heap.push { cls:=.type "range",data:=.fields #[.int lo t,.int hi u,.int 1 v] },toks:=tk }:=I.kept λb o e=>a9 _ e
 refine⟨(s.heap.push { cls:=.type "range",data:=.fields #[.int lo t,.int hi u,.int 1 v] }).objs.size,[(s.heap.push { cls:=.type "range",data:=.fields #[.int lo t,.int hi u,.int 1 v] }).objs.size],_,_,H,rfl,
  I1.kept (t':=tk) λb o e=>a9 _ e,K7 _ lo (hi-lo).toNat,?_,λb hb=>?_,q⟩
 ·have e1:lo+((0:Nat):Int)*1=lo:=by simp
  have e2:(((hi-lo).toNat:Nat):Int)-((0:Nat):Int)=Builtin.Range.rangeSize lo hi 1:=by rw[rangeSize_one];split<;>omega
  show IsRangeIter _ _ (lo+((0:Nat):Int)*1) ((((hi-lo).toNat:Nat):Int)-((0:Nat):Int)) 1;rw[e1,e2];exact b7 _ rfl
 ·have e:b=(s.heap.push { cls:=.type "range",data:=.fields #[.int lo t,.int hi u,.int 1 v] }).objs.size:=by simpa using hb
  subst e;exact I1.jR (ar _) (I1.aA.fresh (ar _))
noncomputable def K9 (ta:TA):TI:=λσ H R=>ta σ H λvs H1=>∃ j:Int,vs=[.int j] /\ -(2 ^ 62)<=j/\j<2 ^ 62/\R (qF 0 j.toNat) H1
theorem K_ {a:Expr}{ta:TA}{p pos:Pos}(hg:Gl X "range")(hm:X.mg "range"=none)(ha:PA X [a] ta)(hs:starEach [a] X.env=[(false,eval a X.env)]:=by rfl):PI X tg (.Call (.Name "range" p) [a] [] pos) (K9 ta):=by
 intro pins s σ H R I h;refine Call_ (my I hg hm boot_range (PyProof.Rows.callWith_type1 (aD (ha pos pins s σ H _ I h) λus s1 ⟨vs,H1,I1,r1,q1⟩=>?_) hs rfl));obtain⟨j,e,q1,q2,q⟩:=q1;subst e
 cases r1 with
 |cons r rr=>
  cases rr;obtain⟨t,rfl⟩:=r;exact call_range_1 (K8 I1 (by omega) (by omega) q1 q2 (by simpa using q))
noncomputable def K' (wi:TI)(g:TG)(tb:TS):TS:=λD σ H=>wi σ H λJ H1=>∃ W:Nat->Nat->St->Hp->Prop,(∃ m,W 0 m σ H1)/\∀ i m σ H,W i m σ H ->
 (J.stop i H/\D.nx σ H)\/(J.go i H/\∃ N:St->Hp->Prop,(∀ aH H',N aH H'->∃ m',m'<m/\W (i+1) m' aH H')/\∀ x H',J.fK i H x H'->g x σ H' λbH H2=>tb { D with nx:=N,ct:=N,bk:=D.nx } bH H2)
noncomputable def oy (fp:List Addr)(h:Heap):aO:=fp.filterMap λb=>(h.get? b).map λo=>(b,o)
theorem qG {fp:List Addr}{h:Heap}{b:Addr}{o:Obj}(hb:b∈fp)(e:h.get? b=some o):(b,o)∈oy fp h:=mem_filterMap.mpr ⟨b,hb,by rw[e];rfl⟩
theorem La {fp:List Addr}{h:Heap}{p:Addr×Obj}(hp:p∈oy fp h):p.1∈fp/\h.get? p.1=some p.2:=by
 obtain⟨b,hb,e⟩:=mem_filterMap.mp hp
 cases q:h.get? b with
 |none=>rw[q] at e;cases e
 |some o=>
  rw[q] at e;have e':(b,o)=p:=Option.some.inj e;subst e';exact⟨hb,q⟩
theorem Inv.pinned {pins:aO}{σ:St}{H:Hp}{s:Shared}{fp:List Addr}(I:Inv X pins σ H s)(hf:∀ b∈fp,fY X pins H b)(ho:∀ b∈fp,∃ o,s.heap.get? b=some o/\∀ v,o.data≠.cell v):Inv X (pins++oy fp s.heap) σ H s:=
 I.AU λp hp=>(mem_append.mp hp).elim (λz=>I.pin p (mem_append_right _ z)) λz=>by
  obtain⟨hb,e⟩:=La z;obtain⟨f0,f1,f2,_⟩:=hf p.1 hb;obtain⟨o,e',d⟩:=ho p.1 hb;rw[e] at e';cases e';exact⟨e,f0,f1,f2,d⟩
theorem Inv.qH {pins pl:aO}{σ:St}{H:Hp}{s:Shared}(I:Inv X (pins++pl) σ H s):Inv X pins σ H s:=I.AU λp hp=>I.pin p (mem_append_right _ (mem_append_left _ hp))
theorem Lc {iter:Expr}{body:List Stmt}{wi:TI}{g:TG}{tb:TS}{pos:Pos}(hp:PassesOwn (model X.prog X.w) X.A X.env X.xe)(hc:X.calm=true)(hi:PI X tg iter wi)(hg:PG X tg g)(hb:cx X body tb)
  (hs:∀ x,foldedSetIterable iter X.env x=pure x:=by intro _;rfl):PS X (.For tg iter body [] pos) (K' wi g tb):=by
 intro pins s σ H D I h;refine wpAny_For (aD (hi pins s σ H _ I h) λv s1 h1=>aD h1 λqE s2 h2=>?_) hs;obtain⟨it,fp,tn,J,H2,e,I2,T,cX,f2,W,⟨m0,w0⟩,turn⟩:=h2;subst e
 -- what stays true of the ZK objects through the loop
 have kX:∀{H':Hp},(∀ b∈fp,H' b=none)->∀ b∈fp,fY X pins H' b:=λhn b hb=>⟨hn b hb,(f2 b hb).2⟩;refine codeAny_forLoop_any (λn s'=>∃ i aH H',Inv X pins aH H' s'/\tn i s'.heap/\(∀ b∈fp,H' b=none)/\W i n aH H') ?_ m0 ⟨0,σ,H2,I2,cX,λb hb=>(f2 b hb).1,w0⟩;rintro n s3 ⟨i,cL,H3,I3,gw,oz,w3⟩;rcases turn i n cL H3 w3 with ⟨stop,qn⟩|⟨go,N,hN,step⟩
 ·refine wpAny_passesOwn hp (aD (T.done X rfl rfl rfl hc i pins s3 cL H3 X.xe I3 (kX oz) gw stop) λr s4 ⟨hr,I4⟩=>?_);subst hr;exact wpAny_execs_nil ⟨cL,H3,I4,qn⟩
 ·refine wpAny_passesOwn hp (aD (T.item X rfl rfl rfl hc i pins s3 cL H3 X.xe I3 (kX oz) gw go) λr s4 ⟨u,hr,h4⟩=>?_);subst hr;refine wpAny_passesOwn hp (aD h4 λ_ s5 ⟨x,H5,I5,r5,y5,jS,vh⟩=>?_);have Le:=I5.pinned (kX vh) (T.obj _ _ jS);refine wpAny_passesOwn hp (aD (hg _ s5 cL H5 x u _ Le r5 (step x H5 y5)) λ_ s6 ⟨iL,H6,I6,q6⟩=>?_);refine wpAny_passesOwn hp (aD (hb _ s6 iL H6 _ I6 q6) λf s7 q7=>?_)
  have again:∀{g9:St}{H7:Hp},Inv X (pins++oy fp s5.heap) g9 H7 s7->N g9 H7->∃ m,m<n/\∃ i aH H',Inv X pins aH H' s7/\tn i s7.heap/\(∀ b∈fp,H' b=none)/\W i m aH H':=λ{g9 H7} I7 n7=>by
   obtain⟨m',hm,w7⟩:=hN g9 H7 n7;refine⟨m',hm,i+1,g9,H7,I7.qH,T.keep _ _ _ jS λb hb o e=>(I7.pin (b,o) (mem_append_right _ (mem_append_right _ (qG hb e)))).1,λb hb=>?_,w7⟩;obtain⟨o,e,d⟩:=T.obj _ _ jS b hb;exact(I7.pin (b,o) (mem_append_right _ (mem_append_right _ (qG hb e)))).2.1
  cases f with
  |next=>obtain⟨g9,H7,I7,n7⟩:=q7;exact again I7 n7
  |cont=>obtain⟨g9,H7,I7,n7⟩:=q7;exact again I7 n7
  |brk=>obtain⟨g9,H7,I7,q7⟩:=q7;exact⟨g9,H7,I7.qH,q7⟩
  |ret v=>obtain⟨x7,g9,H7,I7,r7,q7⟩:=q7;exact⟨x7,g9,H7,I7.qH,r7,q7⟩
end
noncomputable abbrev R2:=V->V->Hp->VK->Prop
noncomputable def bz (X:Cx)(f:Value->Value->Sem Value)(r:R2):Prop:=
 ∀(pins:aO)(s:Shared)(σ:St)(H:Hp)(x y:V)(v u:Value)(Q:VK),Inv X pins σ H s->RelV x v->RelV y u->r x y H Q ->
  wpAny (model X.prog X.w) X.A (f v u) (EP X pins σ Q) X.xe s
noncomputable def vm (X:Cx)(f:Value->Sem Value)(r:V->Hp->VK->Prop):Prop:=
 ∀(pins:aO)(s:Shared)(σ:St)(H:Hp)(x:V)(v:Value)(Q:VK),Inv X pins σ H s->RelV x v->r x H Q ->
  wpAny (model X.prog X.w) X.A (f v) (EP X pins σ Q) X.xe s
noncomputable def cy (X:Cx)(f:Value)(r:Zv->Hp->VK->Prop):Prop:=
 ∀(pins:aO)(s:Shared)(σ:St)(H:Hp)(xs:Zv)(us:aC)(Q:VK),Inv X pins σ H s->Vals xs us->r xs H Q ->
  wpAny (model X.prog X.w) X.A (call f us) (EP X pins σ Q) X.xe s
noncomputable def Lf (X:Cx)(r:V->Hp->(Bool->Hp->Prop)->Prop):Prop:=
 ∀(pins:aO)(s:Shared)(σ:St)(H:Hp)(x:V)(v:Value)(Q:Bool->Hp->Prop),Inv X pins σ H s->RelV x v->r x H Q ->
  wpAny (model X.prog X.w) X.A (truthy v) (TP X pins σ Q) X.xe s
noncomputable def jT (r:R2)(ta tb:TE):TE:=λσ H Q=>ta σ H λx H1=>tb σ H1 λy H2=>r x y H2 Q
noncomputable def Lg (r:V->Hp->VK->Prop)(ta:TE):TE:=λσ H Q=>ta σ H λx H1=>r x H1 Q
noncomputable def rI (C:Int->Int->Prop)(g:Int->Int->V):R2:=λx y H Q=>∃ i j,x=.int i/\y=.int j/\C i j/\Q (g i j) H
noncomputable def gx (g:Int->Int->V):R2:=λx y H Q=>∃ i j,x=.int i/\y=.int j/\Q (g i j) H
noncomputable def rU (g:Int->V):V->Hp->VK->Prop:=λx H Q=>∃ i,x=.int i/\Q (g i) H
section
variable {X:Cx}{a b c:Expr}{ta tb tc:TE}{pos:Pos}
theorem vo (ha:PE X a ta)(hb:PE X b tb){pins:aO}{s:Shared}{σ:St}{H:Hp}{R:V->V->Hp->Prop}(I:Inv X pins σ H s)
  (h:ta σ H λx H1=>tb σ H1 λy H2=>R x y H2){Q:aG}{f:Value->Value->Sem Value}
  (hf:∀ v u s2 x y H2,Inv X pins σ H2 s2->RelV x v->RelV y u->R x y H2->wpAny (model X.prog X.w) X.A (f v u) Q X.xe s2) :
  wpAny (model X.prog X.w) X.A (eval a X.env) (λv aU=>wpAny (model X.prog X.w) X.A (eval b X.env) (λu dS=>wpAny (model X.prog X.w) X.A (f v u) Q X.xe dS) X.xe aU) X.xe s:=by
 refine aD (ha pins s σ H _ I h) λv s1 ⟨x,H1,I1,r1,q1⟩=>?_;refine aD (hb pins s1 σ H1 _ I1 q1) λu s2 ⟨y,H2,I2,r2,q2⟩=>?_;exact hf v u s2 x y H2 I2 r1 r2 q2
theorem cY {op:Operator}{r:R2}(ho:bz X (binaryOp op) r)(ha:PE X a ta)(hb:PE X b tb):PE X (.BinOp a op b pos) (jT r ta tb):=by
 intro pins s σ H Q I h;exact wpAny_BinOp (vo ha hb I h λv u s2 x y H2 I2 rx ry q=>ho pins s2 σ H2 x y v u Q I2 rx ry q)
theorem Bk {op:UnaryOp}{r:V->Hp->VK->Prop}(ho:vm X (unaryOp op) r)(ha:PE X a ta):PE X (.UnaryOp op a pos) (Lg r ta):=by
 intro pins s σ H Q I h;exact UnaryOp_ (aD (ha pins s σ H _ I h) λv s1 ⟨x,H1,I1,r1,q1⟩=>ho pins s1 σ H1 x v Q I1 r1 q1)
theorem oA {f:Value->Value->Sem Value}{C:Int->Int->Prop}{g:Int->Int->Int}
  (rule:∀(i j:Int)(t u:Tok)(s:Shared)(Q:aG)(E:aG),C i j->Q (.int (g i j) s.toks) { s with toks:=s.toks+1 }->wpAny (model X.prog X.w) X.A (f (.int i t) (.int j u)) Q E s) :
  bz X f (rI C λi j=>.int (g i j)):=by
 intro pins s σ H x y v u Q I rx ry h;obtain⟨i,j,rfl,rfl,hc,q⟩:=h;obtain⟨t,rfl⟩:=rx;obtain⟨t',rfl⟩:=ry;exact rule i j t t' s _ _ hc ⟨.int (g i j),H,I.tok _,⟨_,rfl⟩,q⟩
theorem Bl {f:Value->Value->Sem Value}{g:Int->Int->Int}
  (rule:∀(i j:Int)(t u:Tok)(s:Shared)(Q:aG)(E:aG),Q (.int (g i j) s.toks) { s with toks:=s.toks+1 }->wpAny (model X.prog X.w) X.A (f (.int i t) (.int j u)) Q E s) :
  bz X f (gx λi j=>.int (g i j)):=by
 intro pins s σ H x y v u Q I rx ry h;obtain⟨i,j,rfl,rfl,q⟩:=h;obtain⟨t,rfl⟩:=rx;obtain⟨t',rfl⟩:=ry;exact rule i j t t' s _ _ ⟨.int (g i j),H,I.tok _,⟨_,rfl⟩,q⟩
theorem qI {f:Value->Value->Sem Value}{g:Int->Int->Bool}
  (rule:∀(i j:Int)(t u:Tok)(s:Shared)(Q:aG)(E:aG),Q (.bool (g i j)) s->wpAny (model X.prog X.w) X.A (f (.int i t) (.int j u)) Q E s) :
  bz X f (gx λi j=>.bl (g i j)):=by
 intro pins s σ H x y v u Q I rx ry h;obtain⟨i,j,rfl,rfl,q⟩:=h;obtain⟨t,rfl⟩:=rx;obtain⟨t',rfl⟩:=ry;exact rule i j t t' s _ _ ⟨.bl (g i j),H,I,rfl,q⟩
noncomputable def Lh (i j:Int):Prop:=0<j/\j<1073741824
noncomputable def vp (i j:Int):Prop:=0<=j/\j<=1000000/\i.natAbs<2 ^ 64
noncomputable def oB (i j:Int):Prop:=(-(2 ^ 64)<i/\i<2 ^ 64)\/(-(2 ^ 64)<j/\j<2 ^ 64)
theorem oB.ok {i j:Int}(h:oB i j):IntMulOk i j:=by
 rcases h with ⟨h1,h2⟩|⟨h1,h2⟩
 ·exact .of_left (intBits_le_64 h1 h2)
 ·exact .of_right (intBits_le_64 h1 h2)
theorem jU:bz X (binaryOp .Add) (gx λi j=>.int (i+j)):=Bl λ_ _ _ _ _ _ _ q=>add_int q
theorem Li:bz X (binaryOp .Sub) (gx λi j=>.int (i-j)):=Bl λ_ _ _ _ _ _ _ q=>sub_int q
theorem kY:bz X (binaryOp .Mult) (rI oB λi j=>.int (i*j)):=oA λ_ _ _ _ _ _ _ hc q=>mul_int q hc.ok
theorem Lj:bz X (binaryOp .FloorDiv) (rI Lh λi j=>.int (i / j)):=oA λi j _ _ _ _ _ hc q=>by
 have h1:(0:Int)<j:=hc.1;have h2:j<1073741824:=hc.2;exact floordiv_int (by omega) (by rw[Int.fdiv_eq_ediv_of_nonneg i (by omega)];exact q) (.inl (PyProof.noPylong_small (by omega)))
theorem jV:bz X (binaryOp .Mod) (rI (λ_ j=>0<j) λi j=>.int (i % j)):=oA λi j _ _ _ _ _ hc q=>by
 have h1:(0:Int)<j:=hc;exact mod_int' (by omega) (by rw[Int.fmod_eq_emod_of_nonneg i (by omega)];exact q)
theorem Lk:bz X (binaryOp .Pow) (rI vp λi j=>.int (i ^ j.toNat)):=oA λ_ _ _ _ _ _ _ hc q=>pow_int_small hc.1 hc.2.1 hc.2.2 q
theorem Lm {f:Value->Sem Value}{g:Int->Int}
  (rule:∀(i:Int)(t:Tok)(s:Shared)(Q:aG)(E:aG),Q (.int (g i) s.toks) { s with toks:=s.toks+1 }->wpAny (model X.prog X.w) X.A (f (.int i t)) Q E s) :
  vm X f (rU λi=>.int (g i)):=by
 intro pins s σ H x v Q I rx h;obtain⟨i,rfl,q⟩:=h;obtain⟨t,rfl⟩:=rx;exact rule i t s _ _ ⟨.int (g i),H,I.tok _,⟨_,rfl⟩,q⟩
theorem Bm:vm X (unaryOp .USub) (rU λi=>.int (-i)):=Lm λ_ _ _ _ _ q=>neg_int q
end
noncomputable def Ln:V->V->Bool
 |.non,.non=>true|.non,.int _=>true|.int _,.non=>true|.non,.bl _=>true|.bl _,.non=>true|.non,.str _=>true|.str _,.non=>true
 |.int _,.int _=>true|.bl _,.bl _=>true|.str _,.str _=>true|.fW _,.fW _=>true
 |.int _,.str _=>true|.str _,.int _=>true|.bl _,.str _=>true|.str _,.bl _=>true
 |_,_=>false
noncomputable def Lo:R2:=λx y H Q=>Ln x y=true/\Q (.bl (decide (x=y))) H
theorem Lp {i j:Int}:decide (V.int i=V.int j)=(i==j):=by
 rw[Bool.eq_iff_iff];simp
theorem Lq {i j:Bool}:decide (V.bl i=V.bl j)=(i==j):=by
 rw[Bool.eq_iff_iff];simp
theorem Lr {i j:Str}:decide (V.str i=V.str j)=(i==j):=by
 rw[Bool.eq_iff_iff];simp
theorem Lu {i j:Array UInt8}:decide (V.fW i=V.fW j)=(i.toList==j.toList):=by
 rw[Bool.eq_iff_iff];cases i;cases j;simp
section
variable {X:Cx}{a b c:Expr}{ta tb tc:TE}{pos:Pos}
theorem d0 {pins:aO}{σ:St}{H:Hp}{s:Shared}{Q:VK}{k k':Bool}(I:Inv X pins σ H s)(q:Q (.bl k) H)(e:k=k'):EP X pins σ Q (.bool k') s:=by
 subst e;exact⟨.bl k,H,I,rfl,q⟩
theorem Bn:bz X (compareOp .Eq) Lo:=by
 intro pins s σ H x y v u Q I rx ry h;obtain⟨hs,q⟩:=h
 cases x with
 |non=>
  cases rx
  cases y with
  |non=>cases ry;exact PySem.EqNone.eq_none_none (d0 I q (by simp))
  |bl j=>cases ry;exact PySem.EqNone.eq_none_bool (d0 I q (by simp))
  |int j=>obtain⟨t',rfl⟩:=ry;exact PySem.EqNone.eq_none_int (d0 I q (by simp))
  |str j=>obtain⟨t',rfl⟩:=ry;exact PySem.EqNone.eq_none_str (d0 I q (by simp))
  |_=>exact absurd (show false=true from hs) Bool.false_ne_true
 |bl i=>
  cases rx
  cases y with
  |non=>cases ry;exact PySem.EqNone.eq_bool_none (d0 I q (by simp))
  |bl j=>cases ry;exact eq_bool (d0 I q Lq)
  |str j=>obtain⟨t',rfl⟩:=ry;exact PySem.EqMixed.eq_bool_str (d0 I q (by simp))
  |_=>exact absurd (show false=true from hs) Bool.false_ne_true
 |int i=>
  obtain⟨t,rfl⟩:=rx
  cases y with
  |non=>cases ry;exact PySem.EqNone.eq_int_none (d0 I q (by simp))
  |int j=>obtain⟨t',rfl⟩:=ry;exact eq_int (d0 I q Lp)
  |str j=>obtain⟨t',rfl⟩:=ry;exact PySem.EqMixed.eq_int_str (d0 I q (by simp))
  |_=>exact absurd (show false=true from hs) Bool.false_ne_true
 |str i=>
  obtain⟨t,rfl⟩:=rx
  cases y with
  |non=>cases ry;exact PySem.EqNone.eq_str_none (d0 I q (by simp))
  |bl j=>cases ry;exact PySem.EqMixed.eq_str_bool (d0 I q (by simp))
  |int j=>obtain⟨t',rfl⟩:=ry;exact PySem.EqMixed.eq_str_int (d0 I q (by simp))
  |str j=>obtain⟨t',rfl⟩:=ry;exact eq_str (d0 I q Lr)
  |_=>exact absurd (show false=true from hs) Bool.false_ne_true
 |fW i=>
  obtain⟨t,rfl⟩:=rx
  cases y with
  |fW j=>obtain⟨t',rfl⟩:=ry;exact PySem.W.eq_bytes (d0 I q Lu)
  |_=>exact absurd (show false=true from hs) Bool.false_ne_true
 |_=>cases y<;>exact absurd (show false=true from hs) Bool.false_ne_true
theorem qJ:bz X (compareOp .Lt) (gx λi j=>.bl (decide (i<j))):=qI λ_ _ _ _ _ _ _ q=>lt_int q
theorem Lv:bz X (compareOp .LtE) (gx λi j=>.bl (decide (i<=j))):=qI λ_ _ _ _ _ _ _ q=>le_int q
theorem qK:bz X (compareOp .Gt) (gx λi j=>.bl (decide (j<i))):=qI λ_ _ _ _ _ _ _ q=>gt_int q
theorem Lw:bz X (compareOp .GtE) (gx λi j=>.bl (decide (j<=i))):=qI λ_ _ _ _ _ _ _ q=>ge_int q
theorem vq:bz X (compareOp .Lt) (λx y H Q=>∃ i j,x=.str i/\y=.str j/\Q (.bl (decide (i.cps.toList<j.cps.toList))) H):=by
 intro pins s σ H x y v u Q I rx ry h;obtain⟨i,j,rfl,rfl,q⟩:=h;obtain⟨t,rfl⟩:=rx;obtain⟨t',rfl⟩:=ry;exact lt_str (d0 I q rfl)
theorem Lx:bz X (compareOp .In) (λx y H Q=>∃ i j,x=.str i/\y=.str j/\Q (.bl (!(Builtin.Str.occurrences j i 0 j.length 1).isEmpty)) H):=by
 intro pins s σ H x y v u Q I rx ry h;obtain⟨i,j,rfl,rfl,q⟩:=h;obtain⟨t,rfl⟩:=rx;obtain⟨t',rfl⟩:=ry;exact in_str (d0 I q rfl)
theorem Ly:bz X (compareOp .Is) (λx y H Q=>y=.non/\Q (.bl (decide (x=.non))) H):=by
 intro pins s σ H x y v u Q I rx ry h;obtain⟨rfl,q⟩:=h;cases ry;refine is_none_gen (d0 I q ?_)
 cases x<;>first
  |(cases rx;rfl)
  |(obtain⟨t,rfl⟩:=rx;rfl)
theorem Lz:bz X (compareOp .IsNot) (λx y H Q=>y=.non/\Q (.bl (!decide (x=.non))) H):=by
 intro pins s σ H x y v u Q I rx ry h;obtain⟨rfl,q⟩:=h;cases ry;refine isnot_none_gen (d0 I q ?_)
 cases x<;>first
  |(cases rx;rfl)
  |(obtain⟨t,rfl⟩:=rx;rfl)
theorem bz.or {f:Value->Value->Sem Value}{r r':R2}(h:bz X f r)(h':bz X f r'):bz X f (λx y H Q=>r x y H Q\/r' x y H Q):=by
 intro pins s σ H x y v u Q I rx ry q;rcases q with q|q
 ·exact h pins s σ H x y v u Q I rx ry q
 ·exact h' pins s σ H x y v u Q I rx ry q
theorem fb (b:Expr){op:CmpOp}(h:op≠.In:=by decide)(h2:op≠.NotIn:=by decide):behindInMarks op b=false:=by
 have e1:(op==CmpOp.In)=false:=by cases op<;>first|rfl|exact absurd rfl h
 have e2:(op==CmpOp.NotIn)=false:=by cases op<;>first|rfl|exact absurd rfl h2
 cases b<;>simp [behindInMarks,e1,e2]
theorem LA {op:CmpOp}{r:R2}(ho:bz X (compareOp op) r)(ha:PE X a ta)(hb:PE X b tb)(hm:behindInMarks op b=false):PE X (.Compare a [op] [b] pos) (jT r ta tb):=by
 intro pins s σ H Q I h;exact wpAny_Compare1 (vo ha hb I h λv u s2 x y H2 I2 rx ry q=>ho pins s2 σ H2 x y v u Q I2 rx ry q) hm
noncomputable def qL (t:TE):TT:=λσ H Q=>t σ H λx H'=>∃ k,x=.bl k/\Q k H'
theorem kZ {op:CmpOp}{r:R2}(ho:bz X (compareOp op) r)(ha:PE X a ta)(hb:PE X b tb)(hm:behindInMarks op b=false):PT X (.Compare a [op] [b] pos) (qL (jT r ta tb)):=by
 intro pins s σ H Q I h
 refine wpAny_isTrue_Compare1 (aD (ha pins s σ H _ I h) λv s1 ⟨x,H1,I1,r1,q1⟩=>aD (hb pins s1 σ H1 _ I1 q1) λu s2 ⟨y,H2,I2,r2,q2⟩=>
  aD (ho pins s2 σ H2 x y v u _ I2 r1 r2 q2) λc s3 ⟨z,H3,I3,r3,k,e,q3⟩=>?_) hm
 subst e;cases r3;exact wpAny_truthy_bool ⟨H3,I3,q3⟩
noncomputable def LB (r r':R2)(ta tb tc:TE):TE:=λσ H Q=>ta σ H λx H1=>tb σ H1 λy H2=>r x y H2 λz H3=>∃ k,z=.bl k /\
 (if k=true then tc σ H3 λw' H4=>r' y w' H4 Q else Q (.bl false) H3)
theorem LC {op k0:CmpOp}{r r':R2}(ho:bz X (compareOp op) r)(e_:bz X (compareOp k0) r')(ha:PE X a ta)(hb:PE X b tb)(hc:PE X c tc)
  (hm:lastMarks [op,k0] [b,c]=false:=by with_unfolding_all rfl):PT X (.Compare a [op,k0] [b,c] pos) (qL (LB r r' ta tb tc)):=by
 intro pins s σ H Q I h
 refine isTrue_chain (aD (ha pins s σ H _ I h) λv s1 ⟨x,H1,I1,r1,q1⟩=>test_link (aD (hb pins s1 σ H1 _ I1 q1) λu s2 ⟨y,H2,I2,r2,q2⟩=>
  aD (ho pins s2 σ H2 x y v u _ I2 r1 r2 q2) λd s3 ⟨z,H3,I3,r3,k,e,q3⟩=>?_)) hm
 subst e;cases r3;refine wpAny_truthy_bool ?_
 cases k with
 |false=>
  obtain⟨k',e',q'⟩:=q3;cases e';exact ite_ff ⟨H3,I3,q'⟩
 |true=>
  refine ite_tt (test_last (aD (hc pins s3 σ H3 _ I3 q3) λw' s4 ⟨z',H4,I4,r4,q4⟩=>aD (e_ pins s4 σ H4 y z' u w' _ I4 r2 r4 q4) λd' s5 ⟨z2,H5,I5,r5,k2,e2,q5⟩=>?_));subst e2;cases r5;exact wpAny_truthy_bool ⟨H5,I5,q5⟩
noncomputable def Bo (K:Frag)(x:V)(H:Hp)(k:Bool):Prop:=
 match x with
 |.non=>k=false
 |.bl b=>k=b
 |.int i=>k=(i != 0)
 |.str y=>y.length<=sizeLine/\k=((y.length:Int) != 0)
 |.fW y=>y.size<=sizeLine/\k=((y.size:Int) != 0)
 |.ref p=>(∃ xs,aN K H p xs/\k=!xs.isEmpty)\/(∃ xs,bt K H p xs/\k=!xs.isEmpty)\/∃ kvs,H p=some (.dK kvs)/\k=!kvs.isEmpty
 |_=>False
theorem LD {κ:Type}{kvs:List (κ×V)}{vs:List (κ×Value)}(r:KV kvs vs):(!vs.isEmpty)=!kvs.isEmpty:=by
 cases r<;>rfl
theorem Bp {xs:Zv}{its:aC}(r:Vals xs its):(!its.toArray.isEmpty)=!xs.isEmpty:=by
 cases r<;>simp
theorem k5:(sizeLine:Nat)<2 ^ 63:=by rw[sizeLine_eq];decide
theorem LF:Lf X (λx H Q=>∃ k,Bo X.K x H k/\Q k H):=by
 intro pins s σ H x v Q I rx h;obtain⟨k,e,q⟩:=h;have hl:=k5;have hs:sizeLine=16777216:=sizeLine_eq
 cases x with
 |non=>
  cases rx;have e':k=false:=e;subst e';exact truthy_none ⟨H,I,q⟩
 |bl b=>
  cases rx;have e':k=b:=e;subst e';exact wpAny_truthy_bool ⟨H,I,q⟩
 |int i=>
  obtain⟨t,rfl⟩:=rx;have e':k=(i != 0):=e;subst e';exact PySem.P.truthy_int ⟨H,I,q⟩
 |str y=>
  obtain⟨t,rfl⟩:=rx;obtain⟨hy,e'⟩:y.length<=sizeLine/\k=((y.length:Int) != 0):=e;subst e';exact PySem.P.truthy_str (by omega) ⟨H,I.tok _,q⟩
 |fW y=>
  obtain⟨t,rfl⟩:=rx;obtain⟨hy,e'⟩:y.size<=sizeLine/\k=((y.size:Int) != 0):=e;subst e';exact PySem.W.truthy_bytes (by omega) ⟨H,I.tok _,q⟩
 |ref p=>
  cases rx;have e':(∃ xs,aN X.K H p xs/\k=!xs.isEmpty)\/(∃ xs,bt X.K H p xs/\k=!xs.isEmpty)\/∃ kvs,H p=some (.dK kvs)/\k=!kvs.isEmpty:=e;rcases e' with ⟨xs,hx,e'⟩|⟨xs,hx,e'⟩|⟨kvs,hx,e'⟩
  ·subst e';obtain⟨its,r,pl,hz⟩:=I.list hx;have hlen:=r.length;exact wpAny_truthy_list pl.isList (by simp only[size_toArray];omega) ⟨H,I.tok _,by rw[Bp r];exact q⟩
  ·subst e';obtain⟨its,r,pl,hz⟩:=I.tuple hx;have hlen:=r.length;exact truthy_tuple pl (by simp only[size_toArray];omega) ⟨H,I.tok _,by rw[Bp r];exact q⟩
  ·subst e';obtain⟨hz,hS,vs,r,m⟩:kvs.length<=sizeLine/\(p==sysModules)=false/\∃ vs,KV kvs vs/\s.heap.DictOf (bN X.prog X.w) p vs:=I.aA p _ hx;have hlen:kvs.length=vs.length:=Paired.length r;exact wpAny_truthy_dict hS m (by omega) ⟨H,I.tok _,by rw[LD r];exact q⟩
 |_=>exact(show False from e).elim
theorem LG (ha:PE X a ta)(he:∀ whole,isTrue a X.env whole=(do let v <- whole;standAt a.pos;holding [v] (truthy v))) :
  PT X a (λσ H Q=>ta σ H λx H'=>∃ k,Bo X.K x H' k/\Q k H'):=by
 intro pins s σ H Q I h;exact isTrue_plain (aD (ha pins s σ H _ I h) λv s1 ⟨x,H1,I1,r1,q1⟩=>LF pins s1 σ H1 x v Q I1 r1 q1) (he _)
theorem LH:bz X (binaryOp .Add) (λx y H Q=>∃ i j,x=.str i/\y=.str j/\i.length+j.length<=sizeLine/\Q (.str (i++j)) H):=by
 intro pins s σ H x y v u Q I rx ry h;obtain⟨i,j,rfl,rfl,hz,q⟩:=h;obtain⟨t,rfl⟩:=rx;obtain⟨t',rfl⟩:=ry;exact add_str (λt' tk=>⟨.str (i++j),H,I.tok _,⟨_,rfl⟩,q⟩) hz
theorem vals1 {x:V}{us:aC}(r:Vals [x] us):∃ u,us=[u]/\RelV x u:=by
 cases r with
 |cons r1 r2=>cases r2;exact⟨_,rfl,r1⟩
theorem vals2 {x y:V}{us:aC}(r:Vals [x,y] us):∃ u w',us=[u,w']/\RelV x u/\RelV y w':=by
 cases r with
 |cons r1 r2=>
  cases r2 with
  |cons r3 r4=>cases r4;exact⟨_,_,rfl,r1,r3⟩
theorem LI:cy X (.builtin "abs") (λxs H Q=>∃ i,xs=[.int i]/\Q (.int (if i<0 then -i else i)) H):=by
 intro pins s σ H xs us Q I r h;obtain⟨i,rfl,q⟩:=h;obtain⟨u,rfl,t,rfl⟩:=vals1 r;exact call_abs_int λu tk=>⟨.int (if i<0 then -i else i),H,I.tok _,⟨_,rfl⟩,q⟩
theorem LJ (hc:X.calm=true):cy X (.builtin "max") (λxs H Q=>∃ i j,xs=[.int i,.int j]/\Q (.int (if j > i then j else i)) H):=by
 intro pins s σ H xs us Q I r h;obtain⟨i,j,rfl,q⟩:=h;obtain⟨u,w',rfl,⟨t,rfl⟩,⟨t',rfl⟩⟩:=vals2 r;refine max_two_ints (I.ok.hd hc) λh' tk k=>⟨_,H,I.kept k,?_,q⟩;by_cases hj:j > i
 ·rw[if_pos hj,if_pos hj];exact⟨_,rfl⟩
 ·rw[if_neg hj,if_neg hj];exact⟨_,rfl⟩
theorem LK (hc:X.calm=true):cy X (.builtin "min") (λxs H Q=>∃ i j,xs=[.int i,.int j]/\Q (.int (if j<i then j else i)) H):=by
 intro pins s σ H xs us Q I r h;obtain⟨i,j,rfl,q⟩:=h;obtain⟨u,w',rfl,⟨t,rfl⟩,⟨t',rfl⟩⟩:=vals2 r;refine min_two_ints (I.ok.hd hc) λh' tk k=>⟨_,H,I.kept k,?_,q⟩;by_cases hj:j<i
 ·rw[if_pos hj,if_pos hj];exact⟨_,rfl⟩
 ·rw[if_neg hj,if_neg hj];exact⟨_,rfl⟩
theorem LL:cy X (.type "int") (λxs H Q=>(∃ i,xs=[.int i]/\Q (.int i) H)\/∃ k,xs=[.bl k]/\Q (.int (if k then 1 else 0)) H):=by
 intro pins s σ H xs us Q I r h;rcases h with ⟨i,rfl,q⟩|⟨k,rfl,q⟩
 ·obtain⟨u,rfl,t,rfl⟩:=vals1 r;exact call_int_int ⟨.int i,H,I,⟨_,rfl⟩,q⟩
 ·obtain⟨u,rfl,r1⟩:=vals1 r;cases r1;exact call_int_bool ⟨.int (if k then 1 else 0),H,I.tok _,⟨_,rfl⟩,q⟩
noncomputable def Bq (K:Frag)(x:V)(H:Hp)(n:Nat):Prop:=
 match x with
 |.str y=>y.length<=sizeLine/\n=y.length
 |.fW y=>y.size<=sizeLine/\n=y.size
 |.ref p=>(∃ xs,aN K H p xs/\n=xs.length)\/∃ xs,bt K H p xs/\n=xs.length
 |_=>False
theorem LM:cy X (.builtin "len") (λxs H Q=>∃ x n,xs=[x]/\Bq X.K x H n/\Q (.int n) H):=by
 intro pins s σ H xs us Q I r h;obtain⟨x,n,rfl,e,q⟩:=h;obtain⟨u,rfl,rx⟩:=vals1 r;have hl:=k5;have hs:sizeLine=16777216:=sizeLine_eq
 cases x with
 |str y=>
  obtain⟨t,rfl⟩:=rx;obtain⟨hy,e'⟩:y.length<=sizeLine/\n=y.length:=e;subst e';exact len_str (by omega) ⟨.int _,H,I.tok _,⟨_,rfl⟩,q⟩
 |fW y=>
  obtain⟨t,rfl⟩:=rx;obtain⟨hy,e'⟩:y.size<=sizeLine/\n=y.size:=e;subst e';exact PySem.W.len_bytes (by omega) ⟨.int _,H,I.tok _,⟨_,rfl⟩,q⟩
 |ref p=>
  cases rx;have e':(∃ xs,aN X.K H p xs/\n=xs.length)\/∃ xs,bt X.K H p xs/\n=xs.length:=e;rcases e' with ⟨xs,hx,e'⟩|⟨xs,hx,e'⟩
  ·subst e';obtain⟨its,r',pl,hz⟩:=I.list hx;have hlen:=r'.length;exact Calls.call_len_list pl.isList (by simp only[size_toArray];omega) ⟨.int xs.length,H,I.tok _,⟨_,by simp only[size_toArray];rw[hlen]⟩,q⟩
  ·subst e';obtain⟨its,r',pl,hz⟩:=I.tuple hx;have hlen:=r'.length;exact len_tuple pl (by simp only[size_toArray];omega) ⟨.int xs.length,H,I.tok _,⟨_,by simp only[size_toArray];rw[hlen]⟩,q⟩
 |_=>exact(show False from e).elim
end
structure vt (h:Heap)(x dx C:Addr)(mA:a0):Prop where
 obj:h.get? x=some (PySem.W.instObj C dx)
 ns:h.Ns1 dx mA
 ne:dx≠x
theorem LN {h:Heap}{dx:Addr}{mA:a0}(n:h.Ns1 dx mA):∃ od,h.get? dx=some od/\∀ name,PySem.W.lookIn name od=some (mA name):=by
 obtain⟨o,es,ep,ho,hd,hk,_,hm⟩:=n;refine⟨o,ho,λname=>?_⟩;have e:=hm name;unfold nsFind findBy at e;rw[<- Array.find?_toList] at e;unfold PySem.W.lookIn;rw[hd];dsimp only
 split
 ·rename_i y q;rw[q] at e;exact congrArg some e
 ·rename_i q;rw[q] at e
  have a:es.toList.any (·.refKey)=false:=by
   rw[any_eq_false];intro y hy;obtain⟨z,t,jj⟩:=hk y (Array.mem_toList_iff.mp hy);simp [DictEntry.refKey,jj]
  have a':¬ es.toList.any (·.refKey)=true:=by rw[a];exact Bool.false_ne_true
  rw[if_neg a'];exact congrArg some e
theorem vt.look {h:Heap}{x dx C:Addr}{mA:a0}(I:vt h x dx C mA):∃ od,PySem.W.InstAt h x (PySem.W.instObj C dx) C (some od)/\∀ name,PySem.W.lookIn name od=some (mA name):=
 let ⟨od,ho,hl⟩:=LN I.ns
 ⟨od,⟨I.obj,rfl,rfl,ho⟩,hl⟩
section
variable {prog:Program}{w:World}{A:Around}{E:aG}{s:Shared}{K:Frag}{x dx C f:Addr}{mA:a0}{name:Str}{v:Value}
end
theorem g5.some_of {v:V}{o:Option Value}(r:g5 (some v) o):∃ u,o=some u/\RelV v u:=by
 cases o with
 |none=>exact(show False from r).elim
 |some u=>exact⟨u,rfl,r⟩
section
variable {P:Program}{w:World}{H H':Hp}{h h':Heap}{a C dx:Addr}{fs J':List (Str×V)}
theorem LO (aA:cu P w H h)(e:H a=some (.ins C dx fs)):∃ mA,vt h a dx C mA/\(∀ f,g5 (fs.lookup f) (mA f))/\PySem.Within mA (fs.map (·.1))/\fs.length<=1000/\H dx=some (.own a):=by
 obtain⟨d,z,ne,ob,mA,n,r,q⟩:=(show cQ P w H h a (.ins C dx fs) from aA a _ e);exact⟨mA,⟨ob,n,ne⟩,r,q,z,d⟩
end
structure vv (K:Frag)(C:Addr):Prop where
 pg:PySem.W.plainGet K C Str.empty=true
 hd:PySem.W.hasDictIn K C=true
 po:PySem.W.plainOver K C=true
 sa:PySem.W.findIn K (.ref C) "__setattr__"=some (some (.builtin "object.__setattr__"))
theorem vv.get {K:Frag}{C:Addr}(c:vv K C)(f:Str):PySem.W.plainGet K C f=true:=c.pg
section
variable {X:Cx}{pins:aO}{σ:St}{H:Hp}{s:Shared}{a C dx:Addr}{fs:List (Str×V)}{f:Str}{v:V}{A:Around}{E:aG}
end
section
variable {X:Cx}{o e value:Expr}{f:Str}{pos pos' LP:Pos}{ta tv:TE}
end
section
variable {X:Cx}{pins:aO}{σ:St}{H:Hp}{s:Shared}{A:Around}{E:aG}{Q:aG}{c:Value}{b:Bool}
inductive fZ (K:Frag)(H:Hp):V->Value->Prop where
 |non:fZ K H .non (.type "NoneType")
 |bl (x:Bool):fZ K H (.bl x) (.type "bool")
 |int (i:Int):fZ K H (.int i) (.type "int")
 |str (x:Str):fZ K H (.str x) (.type "str")
 |mi (x:UInt64):fZ K H (.mi x) (.type "float")
 |lst {a:Addr}{xs:Zv}(e:H a=some (.lst xs)):fZ K H (.ref a) (.type "list")
 |bD {a:Addr}{o:Obj}{xs:Zv}(e:H a=some (.bD o (.lst xs))):fZ K H (.ref a) (.type "list")
 |tup {a:Addr}{xs:Zv}(e:H a=some (.tup xs)):fZ K H (.ref a) (.type "tuple")
 |dK {a:Addr}{kvs:bj}(e:H a=some (.dK kvs)):fZ K H (.ref a) (.type "dict")
 |dT {a:Addr}{kvs:List (List Key×V)}(e:H a=some (.dT kvs)):fZ K H (.ref a) (.type "dict")
 |ins {a C dx:Addr}{fs:List (Str×V)}(e:H a=some (.ins C dx fs))(cl:vv K C)(ha:PySem.W.findIn K (.ref C) "__class__"=some (some (.builtin "object.__class__")))
   (hn:PySem.W.specialIn K (.builtin "object.__class__") "__get__"=some (some (.builtin "getset_descriptor.__get__")))(Br:PySem.W.takesIn K (.builtin "object.__class__")=some true)
   (hm:PySem.W.mroIn K C (.type "object")=some true):fZ K H (.ref a) (.ref C)
theorem LQ {x:V}{u t:Value}(I:Inv X pins σ H s)(rx:RelV x u)(ty:fZ X.K H x t)(e:PySem.W.kitOne X.K t c=some b)(h:∀ tk,Q (.bool b) { s with toks:=tk }) :
  wpAny (model X.prog X.w) A (call (.builtin "isinstance") [u,c]) Q E s:=by
 cases ty with
 |non=>cases (show u=Value.none from rx);exact PySem.W.kia_one PySem.W.kitx_none I.dH True.intro e (λz=>nomatch z) h
 |bl y=>cases (show u=Value.bool y from rx);exact PySem.W.kia_one PySem.W.kitx_bool I.dH True.intro e (λz=>nomatch z) h
 |int i=>obtain⟨t,q⟩:=(show ∃ t,u=Value.int i t from rx);cases q;exact PySem.W.kia_one PySem.W.kitx_int I.dH True.intro e (λz=>nomatch z) h
 |str y=>obtain⟨t,q⟩:=(show ∃ t,u=Value.str y t from rx);cases q;exact PySem.W.kia_one PySem.W.kitx_str I.dH True.intro e (λz=>nomatch z) h
 |mi y=>obtain⟨t,q⟩:=(show ∃ t,u=Value.float y t from rx);cases q;exact PySem.W.kia_one PySem.W.kitx_float I.dH True.intro e (λz=>nomatch z) h
 |@lst a xs ea=>
  cases (show u=Value.ref a from rx);obtain⟨_,_,n,_,h1⟩:=(show cQ X.prog X.w H s.heap a (.lst xs) from I.aA a _ ea);exact PySem.W.kia_one PySem.W.kitx_list I.dH ⟨_,h1,rfl⟩ e (λz=>nomatch z) h
 |@bD a ob xs ea=>
  cases (show u=Value.ref a from rx);obtain⟨_,_,_,n,_,h1⟩:=(show cQ X.prog X.w H s.heap a (.bD ob (.lst xs)) from I.aA a _ ea);exact PySem.W.kia_one PySem.W.kitx_list I.dH ⟨_,h1,rfl⟩ e (λz=>nomatch z) h
 |@tup a xs ea=>
  cases (show u=Value.ref a from rx);obtain⟨_,_,_,p⟩:=(show cQ X.prog X.w H s.heap a (.tup xs) from I.aA a _ ea);obtain⟨o,h1,h2,_⟩:=p;exact PySem.W.kia_one PySem.W.kitx_tuple I.dH ⟨o,h1,h2⟩ e (λz=>nomatch z) h
 |@dK a kvs ea=>
  cases (show u=Value.ref a from rx);obtain⟨_,_,vs,_,p⟩:=(show cQ X.prog X.w H s.heap a (.dK kvs) from I.aA a _ ea);obtain⟨o,es,ep,h1,h2,_⟩:=p;exact PySem.W.kia_one PySem.W.kitx_dict I.dH ⟨o,h1,h2.1⟩ e (λz=>nomatch z) h
 |@dT a kvs ea=>
  cases (show u=Value.ref a from rx);obtain⟨_,_,xs,_,o,es,ep,h1,h2,_⟩:=(show cQ X.prog X.w H s.heap a (.dT kvs) from I.aA a _ ea);exact PySem.W.kia_one PySem.W.kitx_dict I.dH ⟨o,h1,h2.1⟩ e (λz=>nomatch z) h
 |@ins a C dx fs ea cl ha hn Br hm=>
  cases (show u=Value.ref a from rx);obtain⟨mA,O,_⟩:=LO I.aA ea;obtain⟨od,J,_⟩:=O.look;exact PySem.W.kia_one (PySem.W.kitx_own (cl.get _) cl.hd ha hn Br hm) I.dH J e (λz=>nomatch z) h
end
structure bP (k:Nat)(A:Around):Prop where
 hd:A.handled=none
 dp:A.depth+3*k+5<recursionLimit
 un:A.units+16*k+200<cLine
 gd:A.guards=some []
theorem bP.mono {j k:Nat}{A:Around}(r:bP k A)(h:j<=k):bP j A:=⟨r.hd,by have:=r.dp;omega,by have:=r.un;omega,r.gd⟩
theorem bP.deeper {k:Nat}{A:Around}(r:bP (k+1) A)(env:Env):bP k (A.deeper env):=
 ⟨r.hd,by have:=r.dp;show A.depth+1+3*k+5<_;omega,by have:=r.un;show A.units+3+16*k+200<_;omega,r.gd⟩
theorem bP.depth {k:Nat}{A:Around}(r:bP k A):A.depth<recursionLimit:=by have:=r.dp;omega
theorem bP.units {k:Nat}{A:Around}(r:bP k A):A.units+64<cLine:=by have:=r.un;omega
noncomputable def vw:TA:=λ_ H Q=>Q [] H
noncomputable def vx (ta:TE)(tr:TA):TA:=λσ H Q=>ta σ H λx H1=>tr σ H1 λxs H2=>Q (x::xs) H2
section
variable {X:Cx}{e:Expr}{es:List Expr}{te:TE}{t:TA}{pos:Pos}
theorem cO:PA X [] vw:=λ_ _ _ _ H Q I h=>Calls.spliced_nil ⟨[],H,I,.nil,h⟩
theorem b8 (ha:PE X e te)(hr:PA X es t)(hs:starEach (e::es) X.env=(false,eval e X.env)::starEach es X.env:=by rfl):PA X (e::es) (vx te t):=by
 intro pos pins s σ H Q I h;rw[hs];show wpAny _ _ (spliced ((false,eval e X.env)::backTo pos (starEach es X.env))) _ _ s;refine Calls.spliced_cons (aD (ha pins s σ H _ I h) λu s1 ⟨x,H1,I1,r1,q1⟩=>?_);exact aD (hr pos pins s1 σ H1 _ I1 q1) λus s2 ⟨xs,H2,I2,r2,q2⟩=>⟨x::xs,H2,I2,.cons r1 r2,q2⟩
noncomputable def LR (t:TA):TE:=λσ H Q=>t σ H λxs H1=>xs.length<=sizeLine/\∀ p,H1 p=none->Q (.ref p) (upd H1 p (.tup xs))
noncomputable def LS (t:TA):TE:=λσ H Q=>t σ H λxs H1=>xs.length<=sizeLine/\∀ p,H1 p=none->Q (.ref p) (upd H1 p (.lst xs))
theorem LU {x1}(h:PA X es t):PE X (.Tuple es x1 pos) (LR t):=by
 intro pins s σ H Q I hq;refine wpAny_Tuple_spliced (aD (h pos pins s σ H _ I hq) λus s1 ⟨xs,H1,I1,r,z,q⟩=>⟨by rw[<- r.length];exact z,?_⟩);have hf:H1 s1.heap.objs.size=none:=I1.aA.fresh (ar _);refine⟨.ref s1.heap.objs.size,upd H1 s1.heap.objs.size (.tup xs),I1.laid (t':=s1.toks) (λb u e=>a9 _ e) (ar _) ?_,rfl,q _ hf⟩;exact⟨z,us,r,⟨_,b7 _ rfl,rfl,_,rfl⟩⟩
theorem LV (h:PA X es t):PE X (.List es pos) (LS t):=by
 intro pins s σ H Q I hq;refine wpAny_List_spliced (aD (h pos pins s σ H _ I hq) λus s1 ⟨xs,H1,I1,r,z,q⟩=>⟨by rw[<- r.length];exact z,?_⟩);have hf:H1 s1.heap.objs.size=none:=I1.aA.fresh (ar _);refine⟨.ref s1.heap.objs.size,upd H1 s1.heap.objs.size (.lst xs),I1.laid (t':=s1.toks) (λb u e=>a9 _ e) (ar _) ?_,rfl,q _ hf⟩;exact⟨z,us,0,r,b7 _ rfl⟩
end
noncomputable abbrev Sp:=Zv->Hp->VK->XK->Prop
noncomputable abbrev fL:=List Env->Hp->Shared->XK->Value->Shared->Prop
structure qM (P:Program)(w:World)(K:Frag)(mg:a0)(base:Heap)(A:Around)(outer:List Env)(s:Shared)(H:Hp):Prop where
 frames:A.frames=some outer
 mod:Mod K mg base
 bs:∀ b o,base.get? b=some o->s.heap.get? b=some o/\H b=none
 jg:base.objs.size<=s.heap.objs.size
 gm:s.heap.FunFrames base outer
 kT:∀ b∈g7 outer,H b=none
 aA:cu P w H s.heap
 bare:AllBare s.gens
noncomputable def CE (outer:List Env)(P:Program)(w:World)(H:Hp)(s:Shared)(Q:VK)(u:Value)(s':Shared):Prop:=
 ∃ v H',s'.os=s.os/\AllBare s'.gens/\Un (g7 outer) [] H H' s.heap s'.heap/\cu P w H' s'.heap/\RelV v u/\Q v H'
noncomputable def CR (CX:fL)(outer:List Env)(P:Program)(w:World)(H:Hp)(s:Shared)(Q:VK)(E:XK)(r:Result)(s':Shared):Prop:=
 match r with
 |.ok (.ret u)=>CE outer P w H s Q u s'
 |.ok _=>False
 |.error e=>CX outer H s E e s'
structure cU (P:Program)(w:World)(K:Frag)(mg:a0)(base:Heap)(CX:fL)(k:Nat)(f:Addr)(fd:FuncData)(ps:aq)(sp:Sp):Prop where
 len:∀ vs H Q E,sp vs H Q E->vs.length=ps.length
 run:∀(A:Around)(outer:List Env)(s:Shared)(H:Hp)(args:Args)(us:aC)(vs:Zv)(Q:VK)(E:XK),bP k A->qM P w K mg base A outer s H->BindsTo s fd args (ps.zip us)->Vals vs us->sp vs H Q E ->
  codeAny (model P w) A (.call (.ref f) args) (CR CX outer P w H s Q E) s
theorem cU.mono {P:Program}{w:World}{K:Frag}{mg:a0}{base:Heap}{CX:fL}{j k:Nat}{f:Addr}{fd:FuncData}{ps:aq}{sp:Sp}(F:cU P w K mg base CX j f fd ps sp)(h:j<=k) :
  cU P w K mg base CX k f fd ps sp:=⟨F.len,λA outer s H args us vs Q E hr=>F.run A outer s H args us vs Q E (hr.mono h)⟩
theorem cU.imp {P:Program}{w:World}{K:Frag}{mg:a0}{base:Heap}{CX:fL}{k:Nat}{f:Addr}{fd:FuncData}{ps:aq}{sp Bu:Sp}(F:cU P w K mg base CX k f fd ps sp)
  (h:∀ vs H Q E,Bu vs H Q E->sp vs H Q E):cU P w K mg base CX k f fd ps Bu:=
 ⟨λvs H Q E q=>F.len vs H Q E (h _ _ _ _ q),λA outer s H args us vs Q E hr he hb hv hs=>F.run A outer s H args us vs Q E hr he hb hv (h _ _ _ _ hs)⟩
section
variable {X:Cx}{pins:aO}{σ:St}{H:Hp}{s s':Shared}
theorem Inv.LW (I:Inv X pins σ H s):qM X.prog X.w X.K X.mg X.base X.A X.stack s H:=
 ⟨I.ok.frames,I.ok.mod,I.bs,aP I.ok.jg I.sz,I.stack,I.AO,I.aA,I.bare⟩
theorem Inv.after {Q:VK}{u:Value}(I:Inv X pins σ H s)(h:CE X.stack X.prog X.w H s Q u s'):EP X pins σ Q u s':=by
 obtain⟨v,H',os,bare,un,aA,r,q⟩:=h;obtain⟨hh,g,d,t,oC⟩:=s';obtain rfl:oC=s.os:=os;exact⟨v,H',I.call (h':=hh) (g':=g) (d':=d) (t':=t) (ch:=[]) un aA bare (λb z=>absurd z (by simp)),r,q⟩
end
noncomputable def LX (sp:Sp)(jW:Zv)(E:XK)(t:TA):TE:=λσ H Q=>t σ H λvs H1=>sp (vs++jW) H1 Q E
noncomputable def Binds (K:Frag)(fd:FuncData)(ps:aq)(ds:aC):Prop:=
 ∀(s:Shared)(us:aC),K.In s.heap->(us++ds).length=ps.length->BindsTo s fd ⟨us,[]⟩ (ps.zip (us++ds))
theorem Binds.all {K:Frag}{fd:FuncData}{ps:aq}(h:∀ us:aC,us.length=ps.length->bindArgs fd ⟨us,[]⟩=pure (ps.zip us)):Binds K fd ps []:=λs us _ hl=>by
 rw[append_nil] at hl ⊢;exact .of_eq (h us hl)
noncomputable def Passes (CX:fL)(X:Cx)(E:XK):Prop:=∀(pins:aO)(σ:St)(H:Hp)(s:Shared)(e:Value)(s':Shared),Inv X pins σ H s->CX X.stack H s E e s'->X.xe e s'
section
variable {X:Cx}{CX:fL}{k:Nat}{f C:Addr}{fd:FuncData}{ps:aq}{sp:Sp}{jW:Zv}{ds:aC}{E:XK}{x m:Str}{p pos apos:Pos}{e o:Expr}{es:List Expr}{ta:TE}{t:TA}
theorem LY {pins:aO}{σ:St}{H:Hp}{s:Shared}{Q:VK}{us:aC}{vs:Zv}(F:cU X.prog X.w X.K X.mg X.base CX k f fd ps sp)(hr:bP k X.A)(hb:Binds X.K fd ps ds)(hd:Vals jW ds)(hx:Passes CX X E)
  (I:Inv X pins σ H s)(r:Vals vs us)(h:sp (vs++jW) H Q E):wpAny (model X.prog X.w) X.A (call (.ref f) us) (EP X pins σ Q) X.xe s:=by
 have r2:Vals (vs++jW) (us++ds):=r.append hd;have hl:(us++ds).length=ps.length:=by rw[<- r2.length];exact F.len _ _ _ _ h
 refine wpAny_call (codeAny_mono (F.run X.A X.stack s H ⟨us,[]⟩ (us++ds) (vs++jW) Q E hr I.LW (hb s us I.dH hl) r2 h) λr s' hq=>?_)
 cases r with
 |error e=>exact hx pins σ H s e s' I hq
 |ok fl=>
  cases fl with
  |ret u=>exact I.after hq
  |next=>exact False.elim hq
  |brk=>exact False.elim hq
  |cont=>exact False.elim hq
theorem k7 (F:cU X.prog X.w X.K X.mg X.base CX k f fd ps sp)(hr:bP k X.A)(hg:Gl X x)(hm:X.mg x=some (.ref f))(hk:PySem.W.keepIn X.K (.ref f)=true)(hb:Binds X.K fd ps ds)(hd:Vals jW ds)(hx:Passes CX X E)
  (ha:PA X (e::es) t)(g_:(x==("__debug__":Str))=false:=by decide)(he:starEach (e::es) X.env=(false,eval e X.env)::starEach es X.env:=by rfl)(hpl:(backTo pos (starEach es X.env)).any (·.1)=false:=by rfl) :
  PE X (.Call (.Name x p) (e::es) [] pos) (LX sp jW E t):=by
 intro pins s σ H Q I h;refine wpAny_Call_Name_kw (A9 I hg hm ?_ g_);refine PySem.W.callWith_K (h₀:=X.base) I.ok.mod.u7 hk (aD (ha pos pins s σ H _ I h) λus s1 ⟨vs,H1,I1,r,q⟩=>⟨I1.dH,?_⟩) he hpl;exact LY F hr hb hd hx I1 r q
end
section
variable {X:Cx}{CX:fL}{k:Nat}{f C:Addr}{fd:FuncData}{ps ks:aq}{sp:Sp}{E:XK}{x m:Str}{p pos apos f6:Pos}{e o:Expr}{es:List Expr}{av:List Keyword}{te ta:TE}{t tk:TA}{nm:Option Str}
variable {g:aC->aC->aC}{gV:Zv->Zv->Zv}
end
structure bx (N P:aq)(sc:Scope):Prop where
 kind:sc.kind=.function
 co:sc.isCoroutine=false
 gen:sc.isGenerator=false
 nd:N.Nodup
 pre:N.take P.length=P
 par:∀ x∈P,sc.names.lookup x=some .local\/sc.names.lookup x=some .cell
 LZ:∀ y∈sc.names,y.2≠.free
theorem Bv {kindOf:Str->Option NameKind}{x:Str}:∀{binds:List (Str×Value)}{m:a0},(∀ v,(x,v)∉binds)->bindL kindOf binds m x=m x
 |[],_,_=>rfl
 |(n,v)::r,m,h=>by
  unfold bindL;rw[Bv λw hw=>h w (mem_cons_of_mem _ hw)]
  split
  ·have:x≠n:=by rintro rfl;exact h v mem_cons_self
   simp [this]
  ·rfl
theorem Bw {kindOf:Str->Option NameKind}{x:Str}:∀{binds:List (Str×Value)}{m:a0},(∀ v,(x,v)∉binds)->bindC kindOf binds m x=m x
 |[],_,_=>rfl
 |(n,v)::r,m,h=>by
  unfold bindC;rw[Bw λw hw=>h w (mem_cons_of_mem _ hw)]
  split
  ·rfl
  ·have:x≠n:=by rintro rfl;exact h v mem_cons_self
   simp [this]
theorem Bx {kindOf:Str->Option NameKind}{x:Str}{v:Value}:∀{P:aq}{vs:aC}{i:Nat}{m:a0},P.Nodup->P[i]?=some x->vs[i]?=some v->kindOf x=some .local ->
  bindL kindOf (P.zip vs) m x=some v
 |[],_,_,_,_,h,_,_=>by simp at h
 |_::_,[],_,_,_,_,h,_=>by simp at h
 |p::P,w::vs,0,m,nd,h1,h2,hk=>by
  simp at h1 h2;subst h1;subst h2;show bindL kindOf ((p,w)::P.zip vs) m p=_;unfold bindL;rw[Bv λv hv=>(nodup_cons.mp nd).1 (of_mem_zip hv).1,if_pos hk];simp
 |p::P,w::vs,i+1,m,nd,h1,h2,hk=>by
  show bindL kindOf ((p,w)::P.zip vs) m x=_;unfold bindL;exact Bx (i:=i) (nodup_cons.mp nd).2 (by simpa using h1) (by simpa using h2) hk
theorem By {kindOf:Str->Option NameKind}{x:Str}{v:Value}:∀{P:aq}{vs:aC}{i:Nat}{m:a0},P.Nodup->P[i]?=some x->vs[i]?=some v->kindOf x≠some .local ->
  bindC kindOf (P.zip vs) m x=some v
 |[],_,_,_,_,h,_,_=>by simp at h
 |_::_,[],_,_,_,_,h,_=>by simp at h
 |p::P,w::vs,0,m,nd,h1,h2,hk=>by
  simp at h1 h2;subst h1;subst h2;show bindC kindOf ((p,w)::P.zip vs) m p=_;unfold bindC;rw[Bw λv hv=>(nodup_cons.mp nd).1 (of_mem_zip hv).1,if_neg hk];simp
 |p::P,w::vs,i+1,m,nd,h1,h2,hk=>by
  show bindC kindOf ((p,w)::P.zip vs) m x=_;unfold bindC;exact By (i:=i) (nodup_cons.mp nd).2 (by simpa using h1) (by simpa using h2) hk
noncomputable def start (N:aq)(vs:Zv):St:=vs.map some++replicate (N.length-vs.length) none
noncomputable def iM (CX:fL)(P:Program)(w:World)(K:Frag)(mg:a0)(base:Heap)(N:aq)(qual:Str)(scope:Scope)(f:Addr)(cd:Value)(A:Around)(outer:List Env)(s:Shared)(H:Hp)(E:XK):Cx where
 prog:=P
 w:=w
 K:=K
 mg:=mg
 base:=base
 A:=A.deeper (envOfC qual scope s.heap.objs.size f cd)
 N:=N
 c8:=s
 om:=H
 env:=envOfC qual scope s.heap.objs.size f cd
 outer:=outer
 stack:=envOfC qual scope s.heap.objs.size f cd::outer
 ex:=[]
 calm:=true
 fn:=λ_=>true
 pn:=[]
 xe:=λe s'=>wpAny (model P w) (A.deeper (envOfC qual scope s.heap.objs.size f cd)) (leaving (envOfC qual scope s.heap.objs.size f cd) e) (λ_ oD=>CX outer H s E e oD) (λe' oD=>CX outer H s E e' oD) s'
theorem Bz {sc:Scope}{n:Nat}{x:Str}(h:sc.names.lookup x=some .cell):∃ c,(cellsFrom n sc.names []).lookup x=some c:=by
 have q:=PySem.W.cellsFrom_some sc.names n [] (.inl h);exact Option.isSome_iff_exists.mp q
theorem L0 {CX:fL}{P:Program}{w:World}{K:Frag}{mg:a0}{base:Heap}{N ps:aq}{qual:Str}{scope:Scope}{f:Addr}{cd:Value}{A:Around}{outer:List Env}{s s1:Shared}{H:Hp}{E:XK}{us:aC}{vs:Zv}
  (S:bx N ps scope)(hd:A.handled=none)(e0:qM P w K mg base A outer s H)(hl:vs.length=ps.length)(r:Vals vs us)
  (x:InCallC s s.heap.objs.size (bindL (envOfC qual scope s.heap.objs.size f cd).kindOf (ps.zip us) λ_=>none) (cellsFrom (s.heap.objs.size+1) scope.names []) (bindC (envOfC qual scope s.heap.objs.size f cd).kindOf (ps.zip us) λ_=>none) s1) :
  Inv (iM CX P w K mg base N qual scope f cd A outer s H E) [] (start N vs) H s1:=by
 have hpl:ps.length<=N.length:=by have:=congrArg List.length S.pre;rw[length_take] at this;omega
 obtain⟨h1,tk,rfl,hk⟩:=x.done;have oE:∀ b:Addr,b∉(iM CX P w K mg base N qual scope f cd A outer s H E).ex:=λb z=>absurd (show b∈([]:List Addr) from z) (by simp)
 refine⟨⟨e0.mod,S.kind,rfl,rfl,ar _,λy z c h1 h2=>?_,λy hy=>?_,λy c _ h=>?_,λ_=>hd,Around.frames_deeper e0.frames,.inr ⟨rfl,rfl⟩,λb z=>absurd z (oE b),e0.bs,e0.jg,λb _ _=>oE b,λb z=>absurd z (oE b),e0.gm,e0.kT⟩,
  rfl,e0.bare,Un.kept hk,⟨_,x.toInCall.ns,λi y v h1 h2 h3=>?_⟩,λy c h=>⟨_,x.cell y c h⟩,e0.aA.fresh (ar _),λy c h=>?_,λp hp=>absurd (show p∈([]:aO) from hp) (by simp),e0.aA.kept hk,?_⟩
 ·exact name_of_addr x.apart (PySem.mem_of_lookup h1) (PySem.mem_of_lookup h2)
 ·have hy:scope.names.lookup y=some .cell\/scope.names.lookup y=some .free:=hy;rcases hy with hy|hy
  ·exact Bz hy
  ·exact absurd rfl (S.LZ _ (PySem.mem_of_lookup hy))
 ·exact Nat.le_of_lt (x.above y c (PySem.mem_of_lookup h))
 ·have hi:i<vs.length:=by
   unfold start at h2;by_cases hi:i<vs.length
   ·exact hi
   ·rw[getElem?_append_right (by simpa using hi)] at h2;rw[getElem?_replicate] at h2
    split at h2<;>cases h2
  have ha:vs[i]?=some v:=by
   unfold start at h2;rw[getElem?_append_left (by simpa using hi),getElem?_map] at h2
   cases e:vs[i]? with
   |none=>rw[e] at h2;cases h2
   |some a=>rw[e] at h2;cases h2;rfl
  obtain⟨u,hu,rv⟩:=r.get ha
  have hp:ps[i]?=some y:=by
   rw[<- S.pre,getElem?_take_of_lt (by omega)];exact h1
  have BA:ps.Nodup:=by rw[<- S.pre];exact S.nd.sublist (take_sublist _ _)
  refine⟨u,rv,?_⟩;rcases S.par y (mem_of_getElem? hp) with k|k
  ·exact .inl ⟨k,Bx BA hp hu k⟩
  ·obtain⟨c,e⟩:=Bz (n:=s.heap.objs.size+1) k;refine .inr ⟨.inl k,c,e,?_⟩;have q:=x.cell y c e;rw[By BA hp hu (by show scope.names.lookup y≠_;rw[k];decide)] at q;exact q
 ·exact e0.aA.fresh (Nat.le_of_lt (x.above y c (PySem.mem_of_lookup h)))
 ·unfold start;show N.length<=_;rw[length_append,length_map,length_replicate];omega
theorem L1 {CX:fL}{P:Program}{w:World}{K:Frag}{mg:a0}{base:Heap}{k:Nat}{f:Addr}{name qual:Str}{params:Arguments}{body:List Stmt}{scope:Scope}{dV kV doc pm aE ct oc:Value}{an od:Option Addr}
  {jk:Array (Option Value)}{N ps:aq}{sp:Sp}(lk:K.lookup f=some ⟨oc,od,.func (PySem.W.fnOf name qual params body scope dV kV doc pm an aE ct),jk⟩)(bK:PySem.W.codeIn K aE qual=true)(S:bx N ps scope)
  (len:∀ vs H Q E,sp vs H Q E->vs.length=ps.length)
  (hJ:∀(A:Around)(outer:List Env)(s:Shared)(H:Hp)(vs:Zv)(Q:VK)(E:XK),bP k (A.deeper (envOfC qual scope s.heap.objs.size f aE))->sp vs H Q E ->
   ∃ t,cx (iM CX P w K mg base N qual scope f aE A outer s H E) body t/\t { nx:=λ_ H'=>Q .non H',rt:=Q } (start N vs) H) :
  cU P w K mg base CX (k+1) f (PySem.W.fnOf name qual params body scope dV kV doc pm an aE ct) ps sp:=by
 refine⟨len,λA outer s H args us vs Q E hr e0 hb r jX=>?_⟩;have hl:=len _ _ _ _ jX;have KX:K.In s.heap:=e0.mod.u7.keeps λb o e=>(e0.bs b o e).1;have lim:s.heap.NoLimit:=e0.mod.nolimit.keeps λb o e=>(e0.bs b o e).1
 have L3:∀ y∈ps.zip us,scope.names.lookup y.1=some .local\/(scope.names.lookup y.1=some .cell/\((cellsFrom (s.heap.objs.size+1) scope.names []).lookup y.1).isSome=true):=fun⟨n,v⟩ hy=>by
  rcases S.par n (of_mem_zip hy).1 with q|q
  ·exact .inl q
  ·exact .inr ⟨q,PySem.W.cellsFrom_some _ _ _ (.inl q)⟩
 refine codeAny_call_function hr.depth (KX _ _ lk) rfl S.co S.gen rfl (PySem.W.codeRec_of KX bK) (hb _ _ _ _ ?_);refine wpAny_newFunctionEnv_cells S.kind L3 λenv he s1 x=>?_;subst he;refine⟨lim.keeps x.toInCall.keep,codeAny_func ?_⟩;obtain⟨t,ht,hq⟩:=hJ A outer s H vs Q E (hr.deeper _) jX;have I:Inv (iM CX P w K mg base N qual scope f aE A outer s H E) [] (start N vs) H s1:=L0 S hr.hd e0 hl r x;refine wpAny_mono (ht [] s1 (start N vs) H _ I hq) (λfl s' hs=>?_) λe s' hs=>hs
 have fin:∀{aH:St}{H':Hp}{v:V}{u:Value},Inv (iM CX P w K mg base N qual scope f aE A outer s H E) [] aH H' s'->RelV v u->Q v H'->CE outer P w H s Q u s':=
  λ{aH H' v u} J rv q=>⟨v,H',J.os,J.bare,J.base,J.aA,rv,q⟩
 cases fl with
 |ret u=>
  obtain⟨v,aH,H',J,rv,q⟩:=hs;exact fin J rv q
 |next=>
  obtain⟨aH,H',J,q⟩:=hs;exact fin (v:=V.non) (u:=Value.none) J rfl q
 |brk=>
  obtain⟨_,_,_,q⟩:=hs;exact False.elim q
 |cont=>
  obtain⟨_,_,_,q⟩:=hs;exact False.elim q
section
variable {X:Cx}{x:Str}{p pos:Pos}{e:Expr}{es:List Expr}{t:TA}{id T:String}{r:Zv->Hp->VK->Prop}
noncomputable def qN (r:Zv->Hp->VK->Prop)(t:TA):TE:=λσ H Q=>t σ H λvs H1=>r vs H1 Q
theorem hU (hc:cy X (.builtin id) r)(hg:Gl X x)(hm:X.mg x=none)(hv:bootBuiltins x=some (.builtin id))(ha:PA X (e::es) t)(hn:x≠"__name__":=by decide)(g_:(x==("__debug__":Str))=false:=by decide)
  (he:starEach (e::es) X.env=(false,eval e X.env)::starEach es X.env:=by rfl)(hpl:(backTo pos (starEach es X.env)).any (·.1)=false:=by rfl):PE X (.Call (.Name x p) (e::es) [] pos) (qN r t):=by
 intro pins s σ H Q I h;refine wpAny_Call_Name_kw (my I hg hm hv ?_ hn g_);exact PyProof.Rows.callWith_builtin1 (aD (ha pos pins s σ H _ I h) λus s1 ⟨vs,H1,I1,r1,q1⟩=>hc pins s1 σ H1 vs us Q I1 r1 q1) he hpl
theorem vy (hc:cy X (.type T) r)(hg:Gl X x)(hm:X.mg x=none)(hv:bootBuiltins x=some (.type T))(ha:PA X (e::es) t)(hn:x≠"__name__":=by decide)(g_:(x==("__debug__":Str))=false:=by decide)
  (he:starEach (e::es) X.env=(false,eval e X.env)::starEach es X.env:=by rfl)(hpl:(backTo pos (starEach es X.env)).any (·.1)=false:=by rfl):PE X (.Call (.Name x p) (e::es) [] pos) (qN r t):=by
 intro pins s σ H Q I h;refine wpAny_Call_Name_kw (my I hg hm hv ?_ hn g_);exact PyProof.Rows.callWith_type1 (aD (ha pos pins s σ H _ I h) λus s1 ⟨vs,H1,I1,r1,q1⟩=>hc pins s1 σ H1 vs us Q I1 r1 q1) he hpl
end
section
variable {κ:Type} [DecidableEq κ]
noncomputable def dq (kvs:List (κ×V))(k:κ):Option V:=(kvs.find? λkv=>decide (kv.1=k)).map (·.2)
noncomputable def putK (kvs:List (κ×V))(k:κ)(v:V):List (κ×V):=
 if (kvs.any λkv=>decide (kv.1=k))=true then kvs.map (λkv=>if kv.1=k then (kv.1,v) else kv) else kvs++[(k,v)]
theorem oF {p:κ×V}{r:List (κ×V)}{k:κ}(e:p.1=k):dq (p::r) k=some p.2:=by simp [dq,find?_cons,e]
theorem oG {p:κ×V}{r:List (κ×V)}{k:κ}(e:¬ p.1=k):dq (p::r) k=dq r k:=by simp [dq,find?_cons,e]
theorem mB (k:κ):∀ kvs:List (κ×V),(kvs.any λkv=>decide (kv.1=k))=(dq kvs k).isSome
 |[]=>rfl
 |p::r=>by
  rw[any_cons];by_cases e:p.1=k
  ·simp only[oF e,decide_eq_true e,Bool.true_or,Option.isSome_some]
  ·rw[oG e,decide_eq_false e,Bool.false_or];exact mB k r
theorem qO (kvs:List (κ×V))(k:κ)(v:V):(putK kvs k v).length<=kvs.length+1:=by
 unfold putK
 split
 ·rw[length_map];omega
 ·rw[length_append,length_cons,length_nil];omega
theorem L4 {kvs:List (κ×V)}{k:κ}(v:V)(h:dq kvs k=none):putK kvs k v=kvs++[(k,v)]:=by
 unfold putK;rw[mB,h];exact if_neg (by decide)
theorem g5.vz {o:Option V}{u:Option Value}(r:g5 o u):o.isSome=u.isSome:=by
 cases o with
 |none=>cases u with
  |none=>rfl
  |some _=>exact(show False from r).elim
 |some _=>cases u with
  |none=>exact(show False from r).elim
  |some _=>rfl
theorem KV.val {kvs:List (κ×V)}{vs:List (κ×Value)}(r:KV kvs vs)(k:κ):g5 (dq kvs k) (valueAt vs k):=by
 unfold KV at r
 induction r with
 |nil=>exact True.intro
 |@cons p q ps qs h t ih=>
  obtain⟨h1,h2⟩:=h;by_cases e:p.1=k
  ·have e':q.1=k:=h1.symm.trans e;have b:valueAt (q::qs) k=some q.2:=by simp [valueAt,find?_cons,e']
   rw[oF e,b];exact h2
  ·have e':¬ q.1=k:=λz=>e (h1.trans z);have b:valueAt (q::qs) k=valueAt qs k:=by simp [valueAt,find?_cons,e']
   rw[oG e,b];exact ih
theorem KV.any {kvs:List (κ×V)}{vs:List (κ×Value)}(r:KV kvs vs)(k:κ):(kvs.any λkv=>decide (kv.1=k))=vs.any λkv=>decide (kv.1=k):=by
 unfold KV at r
 induction r with
 |nil=>rfl
 |cons h t ih=>rw[any_cons,any_cons,ih,h.1]
theorem KV.vA {kvs:List (κ×V)}{vs:List (κ×Value)}(r:KV kvs vs)(k:κ){y:V}{u:Value}(ry:RelV y u) :
  KV (kvs.map λkv=>if kv.1=k then (kv.1,y) else kv) (vs.map λkv=>if kv.1=k then (kv.1,u) else kv):=by
 unfold KV at r ⊢
 induction r with
 |nil=>exact .nil
 |@cons p q ps qs h t ih=>
  rw[map_cons,map_cons];refine .cons ?_ ih;obtain⟨h1,h2⟩:=h;by_cases e:p.1=k
  ·rw[if_pos e,if_pos (h1.symm.trans e)];exact⟨h1,ry⟩
  ·rw[if_neg e,if_neg (λz=>e (h1.trans z))];exact⟨h1,h2⟩
theorem KV.put {kvs:List (κ×V)}{vs:List (κ×Value)}(r:KV kvs vs)(k:κ){y:V}{u:Value}(ry:RelV y u):KV (putK kvs k y) (stored vs k u):=by
 unfold putK stored;rw[r.any k];by_cases e:(vs.any λkv=>decide (kv.1=k))=true
 ·rw[if_pos e,if_pos e];exact r.vA k ry
 ·rw[if_neg e,if_neg e];exact Paired.snoc r ⟨rfl,ry⟩
theorem KV.length {kvs:List (κ×V)}{vs:List (κ×Value)}(r:KV kvs vs):kvs.length=vs.length:=Paired.length r
end
theorem jY {P:Program}{w:World}{k:Key}{u:Value}(r:RelV (kV k) u):(bN P w).is k u=true:=by
 cases k with
 |inl i=>obtain⟨t,e⟩:=(show ∃ t,u=Value.int i t from r);subst e;exact J0 P w i t
 |inr x=>obtain⟨t,e⟩:=(show ∃ t,u=Value.str x t from r);subst e;exact J1 P w x t
theorem BB {P:Program}{w:World}:∀{ks:List Key}{us:aC},Vals (ks.map kV) us->ItemsAre (bN P w) ks us
 |[],_,r=>by rw[map_nil] at r;cases r;exact .nil
 |k::ks,_,r=>by
  rw[map_cons] at r
  cases r with
  |cons h t=>exact .cons (jY h) (BB t)
noncomputable abbrev KT (H:Hp):List (List Key×V)->List (List Key×Addr×Value)->Prop:=Paired λp q=>p.1=q.1/\H q.2.1=some (.tup (p.1.map kV))/\RelV p.2 q.2.2
theorem KT.val {H:Hp}{kvs:List (List Key×V)}{xs:List (List Key×Addr×Value)}(r:KT H kvs xs)(k:List Key):g5 (dq kvs k) ((atKey xs k).map (·.2)):=by
 induction r with
 |nil=>exact True.intro
 |@cons p q ps qs h t ih=>
  obtain⟨h1,_,h2⟩:=h;by_cases e:p.1=k
  ·have e':q.1=k:=h1.symm.trans e;have b:atKey (q::qs) k=some q.2:=by simp [atKey,find?_cons,e']
   rw[oF e,b];exact h2
  ·have e':¬ q.1=k:=λz=>e (h1.trans z);have b:atKey (q::qs) k=atKey qs k:=by simp [atKey,find?_cons,e']
   rw[oG e,b];exact ih
theorem KT.vA {H:Hp}{kvs:List (List Key×V)}{xs:List (List Key×Addr×Value)}(r:KT H kvs xs)(k:List Key){y:V}{u:Value}(ry:RelV y u) :
  KT H (kvs.map λkv=>if kv.1=k then (kv.1,y) else kv) (xs.map (putAt k u)):=by
 induction r with
 |nil=>exact .nil
 |@cons p q ps qs h t ih=>
  rw[map_cons,map_cons];refine .cons ?_ ih;obtain⟨h1,h2,h3⟩:=h;unfold putAt;by_cases e:p.1=k
  ·rw[if_pos e,if_pos (h1.symm.trans e)];exact⟨h1,h2,ry⟩
  ·rw[if_neg e,if_neg (λz=>e (h1.trans z))];exact⟨h1,h2,h3⟩
theorem KT.put {H:Hp}{kvs:List (List Key×V)}{xs:List (List Key×Addr×Value)}(r:KT H kvs xs)(k:List Key){b:Addr}{y:V}{u:Value}(hb:H b=some (.tup (k.map kV)))(ry:RelV y u) :
  KT H (putK kvs k y) (storedH xs k b u):=by
 have e:(kvs.any λkv=>decide (kv.1=k))=(atKey xs k).isSome:=by
  rw[mB,(r.val k).vz,Option.isSome_map]
 unfold putK storedH;rw[e];by_cases q:(atKey xs k).isSome=true
 ·rw[if_pos q,if_pos q];exact r.vA k ry
 ·rw[if_neg q,if_neg q];exact Paired.snoc r ⟨rfl,hb,ry⟩
theorem KT.keeps {H H':Hp}{kvs:List (List Key×V)}{xs:List (List Key×Addr×Value)}(r:KT H kvs xs)(ht:∀ b ys,H b=some (.tup ys)->H' b=some (.tup ys)):KT H' kvs xs:=
 Paired.u6 r λ_ _ z=>⟨z.1,ht _ _ z.2.1,z.2.2⟩
section
variable {P:Program}{w:World}{H:Hp}{h:Heap}{a:Addr}
theorem BC {u:HO}(ok:cu P w H h)(e:Rd H a u):cQ P w H h a u:=e.ok ok
theorem mD {kvs:bj}(ok:cu P w H h)(e:Rd H a (.dK kvs)):kvs.length<=sizeLine/\(a==sysModules)=false/\∃ vs,KV kvs vs/\h.DictOf (bN P w) a vs:=
 show cQ P w H h a (.dK kvs) from BC ok e
theorem qQ {kvs:bj}(ok:cu P w H h)(e:H a=some (.dK kvs)):kvs.length<=sizeLine/\(a==sysModules)=false/\∃ vs,KV kvs vs/\h.DictOf (bN P w) a vs:=mD ok (.inl e)
theorem qR {ks:List Key}(ok:cu P w H h)(e:H a=some (.tup (ks.map kV))):(tupleKind (bN P w)).is h ks a:=by
 obtain⟨_,its,r,o,h1,h2,n,h3⟩:=(show cQ P w H h a (.tup (ks.map kV)) from ok a _ e);exact⟨o,its.toArray,n,h1,h2,h3,by simpa using BB r⟩
theorem qS {kvs:List (List Key×V)}(ok:cu P w H h)(e:Rd H a (.dT kvs)):kvs.length<=sizeLine/\(a==sysModules)=false /\
  ∃ xs,KT H kvs xs/\h.DictOfH (tupleKind (bN P w)) a xs:=by
 obtain⟨z,y,xs,r,o,es,ep,h1,h2,h3,h4,h5⟩:=(show cQ P w H h a (.dT kvs) from BC ok e);refine⟨z,y,xs,r,o,es,ep,h1,h2,h3,h4,λx hx=>?_,h5⟩
 have all:∀{l:List (List Key×V)}{m:List (List Key×Addr×Value)},KT H l m->∀ x∈m,(tupleKind (bN P w)).is h x.1 x.2.1:=by
  intro l m q
  induction q with
  |nil=>intro x hx;exact nomatch hx
  |@cons p q ps qs hq t ih=>
   intro x hx;rcases mem_cons.mp hx with e|hx
   ·subst e;exact qR ok (by rw[<- hq.1];exact hq.2.1)
   ·exact ih x hx
 exact all r x hx
theorem L5 {kvs:List (List Key×V)}(ok:cu P w H h)(e:H a=some (.dT kvs)):kvs.length<=sizeLine/\(a==sysModules)=false /\
  ∃ xs,KT H kvs xs/\h.DictOfH (tupleKind (bN P w)) a xs:=qS ok (.inl e)
end
noncomputable def fc (H:Hp)(a:Addr)(y:V)(r:Option V):Prop:=
 (∃ kvs k,Rd H a (.dK kvs)/\y=kV k/\r=dq kvs k)\/∃ kvs k b,Rd H a (.dT kvs)/\y=.ref b/\H b=some (.tup (k.map kV))/\r=dq kvs k
noncomputable def iN (H:Hp)(a:Addr)(y v:V)(H':Hp):Prop:=
 (∃ kvs k,H a=some (.dK kvs)/\y=kV k/\kvs.length<sizeLine/\H'=upd H a (.dK (putK kvs k v))) \/
 ∃ kvs k b,H a=some (.dT kvs)/\y=.ref b/\H b=some (.tup (k.map kV))/\kvs.length<sizeLine/\H'=upd H a (.dT (putK kvs k v))
theorem fc.k {H:Hp}{a:Addr}{kvs:bj}{k:Key}(e:H a=some (.dK kvs)):fc H a (kV k) (dq kvs k):=.inl ⟨kvs,k,.inl e,rfl,rfl⟩
theorem iN.k {H:Hp}{a:Addr}{kvs:bj}{k:Key}{v:V}(e:H a=some (.dK kvs))(hl:kvs.length<sizeLine):iN H a (kV k) v (upd H a (.dK (putK kvs k v))):=.inl ⟨kvs,k,e,rfl,hl,rfl⟩
section
variable {X:Cx}{pins:aO}{σ:St}{H:Hp}{s:Shared}{a:Addr}{y v:V}{u r:Value}{o:Option V}{A:Around}{E:aG}
theorem Inv.big (I:Inv X pins σ H s):sysModules<s.heap.objs.size:=by
 have h:mainGlobals<s.heap.objs.size:=(I.mod.glob.keeps I.bk).lt;exact Nat.lt_trans (by decide) h
theorem BD {Q:aG}(hu:A.units+1<cLine)(I:Inv X pins σ H s)(g:fc H a y (some v))(ry:RelV y u)(h:∀ w' s',Inv X pins σ H s'->RelV v w'->Q w' s') :
  wpAny (model X.prog X.w) A (getItem (.ref a) u) Q E s:=by
 rcases g with ⟨kvs,k,e,ey,l⟩|⟨kvs,k,b,e,ey,eb,l⟩
 ·subst ey;obtain⟨z,hd,vs,rel,dd⟩:=mD I.aA e;obtain⟨w',hw,dJ⟩:=g5.some_of (v:=v) (o:=valueAt vs k) (by rw[l];exact rel.val k);exact wpAny_getItem_of (jY ry) dd.mapOf hw (h w' _ (I.tok _) dJ)
 ·subst ey;cases (show u=Value.ref b from ry);obtain⟨z,hd,xs,rel,dd⟩:=qS I.aA e;obtain⟨w',hw,dJ⟩:=g5.some_of (v:=v) (o:=(atKey xs k).map (·.2)) (by rw[l];exact rel.val k);obtain⟨p,hp,qT⟩:=Option.map_eq_some_iff.mp hw;refine wpAny_getItem_heap (tupleKind_room_in1 hu) (qR I.aA eb) dd hp ?_;rw[qT];exact h w' _ (I.tok _) dJ
theorem L6 {Q:aG}(hu:A.units+1<cLine)(I:Inv X pins σ H s)(g:fc H a y o)(ry:RelV y u)(h:∀ s',Inv X pins σ H s'->Q (.bool o.isSome) s') :
  wpAny (model X.prog X.w) A (compareOp .In u (.ref a)) Q E s:=by
 rcases g with ⟨kvs,k,e,ey,l⟩|⟨kvs,k,b,e,ey,eb,l⟩
 ·subst ey;obtain⟨z,hd,vs,rel,dd⟩:=mD I.aA e;refine wpAny_in_of (jY ry) hd dd.mapOf ?_;rw[<- (rel.val k).vz,<- l];exact h _ (I.tok _)
 ·subst ey;cases (show u=Value.ref b from ry);obtain⟨z,hd,xs,rel,dd⟩:=qS I.aA e;refine wpAny_in_heap (tupleKind_room_in1 hu) (qR I.aA eb) hd dd ?_;have q:=(rel.val k).vz;rw[Option.isSome_map] at q;rw[<- q,<- l];exact h _ (I.tok _)
theorem qU {h':Heap}{t':Nat}{ob:HO}(I:Inv X pins σ H s)(mu:oj (H a))(hs:Heap.SameBut a s.heap h')(he:∃ q,h'.get? a=some q)(new:cQ X.prog X.w (upd H a ob) h' a ob) :
  Inv X pins σ (upd H a ob) { s with heap:=h',toks:=t' }:=
 I.write (x:=a) (e:=a) mu (.inl rfl) (λb q hb z=>(hs.2 b hb).trans z) he new
theorem oH {P:Program}{w:World}{H':Hp}{h':Heap}{kvs:bj}{vs:List (Key×Value)}(z:kvs.length<=sizeLine)(hd:(a==sysModules)=false)(rel:KV kvs vs)(dd:h'.DictOf (bN P w) a vs) :
  cQ P w H' h' a (.dK kvs):=⟨z,hd,vs,rel,dd⟩
theorem L7 {H':Hp}{Q:Unit->Shared->Prop}(hu:A.units+1<cLine)(I:Inv X pins σ H s)(g:iN H a y v H')(ry:RelV y u)(rv:RelV v r)(h:∀ s',Inv X pins σ H' s'->Q () s') :
  wpAny (model X.prog X.w) A (setItem (.ref a) u r) Q E s:=by
 rcases g with ⟨kvs,k,e,ey,l,eH⟩|⟨kvs,k,b,e,ey,eb,l,eH⟩
 ·subst ey eH;obtain⟨z,hd,vs,rel,dd⟩:=qQ I.aA e;have hz:vs.length<=sizeLine:=by rw[<- rel.length];exact z
  have hl:(putK kvs k v).length<=sizeLine:=by have:=qO kvs k v;omega
  refine wpAny_setItem_pairs (hsz:=hz) (jY ry) dd λh' gy hs=>h _ ?_;have he:∃ q,h'.get? a=some q:=let ⟨q,_,_,hq,_⟩:=gy;⟨q,hq⟩
  exact qU I (by rw[e];exact True.intro) hs he (oH hl hd (rel.put k rv) gy)
 ·subst ey eH;cases (show u=Value.ref b from ry);obtain⟨z,hd,xs,rel,dd⟩:=L5 I.aA e;have hz:xs.length<=sizeLine:=by rw[<- Paired.length rel];exact z
  have hl:(putK kvs k v).length<=sizeLine:=by have:=qO kvs k v;omega
  refine wpAny_setItem_heap (hsz:=hz) (tupleKind_room_in1 hu) (qR I.aA eb) dd λh' gy hs=>h _ ?_;obtain⟨q,es,ep,hq,h2,h3,h4,_,h5⟩:=gy;refine qU I (by rw[e];exact True.intro) hs ⟨q,hq⟩ ⟨hl,hd,_,(rel.put k eb rv).keeps λc ys ec=>?_,q,es,ep,hq,h2,h3,h4,h5⟩;rw[a8 (u5 ec e (λz=>nomatch z))];exact ec
end
section
variable {X:Cx}{pins:aO}{σ:St}{H:Hp}{s:Shared}{a:Addr}{kvs:bj}{k:Key}{u:Value}{A:Around}{E:aG}
end
noncomputable def qV (i:Expr):Prop:=∀ ov iv,subscripted i false ov iv=operate [ov,iv] (getItem ov iv)
theorem BE {prog:Program}{w:World}{A:Around}{E:aG}{s:Shared}{env:Env}{value slice:Expr}{pos:Pos}{T id:String}{Q:aG}
  (hl:typeLookup (.type T) "__getitem__"=pure (some (.builtin id)))(hs:qV slice)
  (h:wpAny (model prog w) A (eval value env) (λo aU=>wpAny (model prog w) A (eval slice env) (λi dS=>dS.TypeIs o T/\wpAny (model prog w) A (getItem o i) Q E dS) E aU) E s) :
  wpAny (model prog w) A (eval (.Subscript value slice pos) env) Q E s:=by
 refine Subscript_ (wpAny_mono h (λo aU h₁=>wpAny_mono h₁ (λi dS k8=>?_) λ_ _ x=>x) λ_ _ x=>x);obtain⟨hT,k8⟩:=k8;unfold subscriptTail;refine af ?_;rw[getitemInPython_of_ne hT.not_modules];refine af (wpAny_specialOf hT hl ?_)
 have fin:wpAny (model prog w) A (subscripted slice false o i) (λr mE=>wpAny (model prog w) A (letTemporaryGo value o r >>= λ_=>pure r) Q E mE) E dS:=by
  rw[hs o i];exact wpAny_operating (wpAny_mono k8 (λr mE L8=>af (wpAny_letTemporaryGo (ao L8))) λ_ _ x=>x)
 first
  |exact ao (af fin)
  |exact af (ao (af fin))
  |exact af fin
theorem BF {X:Cx}{pins:aO}{σ:St}{H:Hp}{s:Shared}{a:Addr}{y:V}{o:Option V}(I:Inv X pins σ H s)(g:fc H a y o):s.TypeIs (.ref a) "dict":=by
 rcases g with ⟨kvs,k,e,_,_⟩|⟨kvs,k,b,e,_,_,_⟩
 ·obtain⟨_,_,vs,_,dd⟩:=mD I.aA e;exact dd.typeIs
 ·obtain⟨_,_,xs,_,dd⟩:=qS I.aA e;exact dd.typeIs
noncomputable def L9 (td ty:TE):TE:=λσ H Q=>td σ H λx H1=>ty σ H1 λy H2=>∃ a v,x=.ref a/\fc H2 a y (some v)/\Q v H2
noncomputable def L_ (td ty tv:TE):TS:=λD σ H=>tv σ H λv H1=>td σ H1 λx H2=>ty σ H2 λy H3=>∃ a H4,x=.ref a/\iN H3 a y v H4/\D.nx σ H4
section
variable {X:Cx}{o i e value:Expr}{pos pos' LP:Pos}{td ty tv:TE}
theorem f7 (hu:X.A.units+1<cLine)(ho:PE X o td)(hi:PE X i ty)(hs:qV i):PE X (.Subscript o i pos) (L9 td ty):=by
 intro pins s σ H Q I h;refine BE PySem.F.slot_dict_getitem.lookup hs (aD (ho pins s σ H _ I h) λu s1 ⟨x,H1,I1,rx,q1⟩=>aD (hi pins s1 σ H1 _ I1 q1) λiv s2 ⟨y,H2,I2,ry,a,v,ex,g,q2⟩=>?_);subst ex;obtain rfl:u=Value.ref a:=rx;exact⟨BF I2 g,BD hu I2 g ry λw' s3 I3 dJ=>⟨v,H2,I3,dJ,q2⟩⟩
theorem jZ (hu:X.A.units+1<cLine)(ho:PE X o td)(hi:PE X i ty)(hv:PE X value tv)(hs:swapsWith value (some (.Subscript o i pos')) pos.line X.env=pure false) :
  PS X (.Assign [.Subscript o i pos'] value pos) (L_ td ty tv):=by
 intro pins s σ H D I h;refine wpAny_Assign_Subscript (aD (hv pins s σ H _ I h) λr s1 ⟨v,H1,I1,rv,q1⟩=>aD (ho pins s1 σ H1 _ I1 q1) λu s2 ⟨x,H2,I2,rx,q2⟩=>aD (hi pins s2 σ H2 _ I2 q2) λiv s3 ⟨y,H3,I3,ry,a,H4,ex,g,q3⟩=>?_) hs;subst ex;obtain rfl:u=Value.ref a:=rx;exact L7 hu I3 g ry rv λs4 I4=>⟨σ,H4,I4,q3⟩
end
theorem BG {P:Program}{w:World}{H:Hp}(h:Heap)(hb:sysModules<h.objs.size):cQ P w H (h.push { cls:=.type "dict",data:=.dict #[] }) h.objs.size (.dK []):=
 ⟨Nat.zero_le _,beq_eq_false_iff_ne.mpr (Ne.symm (bJ hb)),[],.nil,Heap.DictOf.new h⟩
noncomputable def Ma:TE:=λ_ H Q=>∀ p,H p=none->Q (.ref p) (upd H p (.dK []))
section
variable {X:Cx}{pos:Pos}
theorem Mb:PE X (.Dict [] [] pos) Ma:=λpins s σ H Q I h=>
 wpAny_Dict_empty ⟨.ref s.heap.objs.size,_,I.laid (a:=s.heap.objs.size) (o:=.dK []) (t':=s.toks) (λ_ _ q=>a9 _ q) (ar _) (BG s.heap I.big),rfl,h _ (I.aA.fresh (ar _))⟩
end
noncomputable def vB:List (TE×TE)->St->Hp->(List (V×V)->Hp->Prop)->Prop
 |[],_,H,Q=>Q [] H
 |(tk,tv)::r,σ,H,Q=>tk σ H λx H1=>tv σ H1 λy H2=>vB r σ H2 λps H3=>Q ((x,y)::ps) H3
noncomputable abbrev VV:List (V×V)->List (Value×Value)->Prop:=Paired λp q=>RelV p.1 q.1/\RelV p.2 q.2
noncomputable def qX (X:Cx)(pos:Pos)(keys:List (Option Expr))(values:List Expr)(jl:List (TE×TE)):Prop:=
 ∀(pins:aO)(s:Shared)(σ:St)(H:Hp)(Q:List (V×V)->Hp->Prop),Inv X pins σ H s->vB jl σ H Q ->
  wpAny (model X.prog X.w) X.A (evalPairs (pairTrees keys values X.env pos)) (λvs s'=>∃ ps H',Inv X pins σ H' s'/\VV ps vs/\Q ps H') X.xe s
theorem BH {X:Cx}{pos:Pos}:qX X pos [] [] []:=λpins s σ H Q I h=>pairTrees_nil_walk ⟨[],H,I,.nil,h⟩
theorem j0 {X:Cx}{pos:Pos}{k v:Expr}{ks:List (Option Expr)}{vs:List Expr}{tk tv:TE}{jl:List (TE×TE)}(hk:PE X k tk)(hv:PE X v tv)(hr:qX X pos ks vs jl) :
  qX X pos (some k::ks) (v::vs) ((tk,tv)::jl):=λpins s σ H Q I h=>
 pairTrees_cons_walk (aD (hk pins s σ H _ I h) λu s1 ⟨x,H1,I1,rx,q1⟩=>aD (hv pins s1 σ H1 _ I1 q1) λw2 s2 ⟨y,H2,I2,ry,q2⟩=>
  aD (hr pins s2 σ H2 _ I2 q2) λws s3 ⟨ps,H3,I3,rel,q3⟩=>⟨(x,y)::ps,H3,I3,.cons ⟨rx,ry⟩ rel,q3⟩)
noncomputable def hV (kvs more:bj):bj:=more.foldl (λacc kv=>putK acc kv.1 kv.2) kvs
theorem KV.merge:∀{more:bj}{rs:List (Key×Value)}{kvs:bj}{vs:List (Key×Value)},KV more rs->KV kvs vs->KV (hV kvs more) (merged vs rs):=by
 intro more rs kvs vs r;unfold KV at r
 induction r generalizing kvs vs with
 |nil=>intro q;exact q
 |@cons p q ps qs h t ih=>
  intro r0
  have e:KV (putK kvs p.1 p.2) (stored vs q.1 q.2):=by
   have:=r0.put p.1 h.2;rw[<- h.1];exact this
  exact ih e
theorem vC:∀(more kvs:bj),(hV kvs more).length<=kvs.length+more.length
 |[],kvs=>by show kvs.length<=kvs.length+0;omega
 |p::r,kvs=>by
  have h1:=vC r (putK kvs p.1 p.2);have h2:=qO kvs p.1 p.2;show(hV (putK kvs p.1 p.2) r).length<=_;rw[length_cons];omega
theorem BI {P:Program}{w:World}:∀{kvs:bj}{ws:List (Value×Value)},VV (kvs.map λkv=>(kV kv.1,kv.2)) ws->∃ rs,Carries (bN P w) ws rs/\KV kvs rs
 |[],_,r=>by rw[map_nil] at r;cases r;exact⟨[],True.intro,.nil⟩
 |p::kvs,_,r=>by
  rw[map_cons] at r
  cases r with
  |@cons a b as bs h t=>
   obtain⟨rs,c,q⟩:=BI (P:=P) (w:=w) t;obtain⟨b1,b2⟩:=b;exact⟨(p.1,b2)::rs,⟨jY h.1,rfl,c⟩,.cons ⟨rfl,h.2⟩ q⟩
noncomputable def Mc (jl:List (TE×TE)):TE:=λσ H Q=>∀ p,H p=none->vB jl σ (upd H p (.dK [])) λps H2=>H2 p=some (.dK [])/\∃ kvs:bj,ps=kvs.map (λkv=>(kV kv.1,kv.2))/\kvs.length<=15/\Q (.ref p) (upd H2 p (.dK (hV [] kvs)))
theorem BJ {X:Cx}{pos:Pos}{keys:List (Option Expr)}{values:List Expr}{jl:List (TE×TE)}(h:qX X pos keys values jl)(vD:keys.all (·.isSome)=true)(hl:keys.length=values.length)(h0:keys≠[])
  (Md:keys.length<=15):PE X (.Dict keys values pos) (Mc jl):=by
 intro pins s σ H Q I q;have hn:=I.aA.fresh (ar s.heap.objs.size);have I1:=I.laid (a:=s.heap.objs.size) (o:=.dK []) (h':=s.heap.push { cls:=.type "dict",data:=.dict #[] }) (t':=s.toks) (λ_ _ q=>a9 _ q) (ar _) (BG s.heap I.big);refine wpAny_Dict_walk (knd:=bN X.prog X.w) vD hl h0 Md (aD (h pins _ σ _ _ I1 (q _ hn)) λws s2 ⟨ps,H2,I2,rel,e,kvs,ep,lk,q2⟩=>?_);subst ep;obtain⟨rs,c,rk⟩:=BI (P:=X.prog) (w:=X.w) rel;obtain⟨z,hd,ZL,r0,dd⟩:=qQ I2.aA e;cases r0;refine⟨rs,c,dd,λh' gy hs=>⟨.ref s.heap.objs.size,_,?_,rfl,q2⟩⟩
 have hz:(hV [] kvs).length<=sizeLine:=by
  have h1:=vC kvs [];rw[length_nil] at h1;rw[sizeLine_eq];omega
 have he:∃ q,h'.get? s.heap.objs.size=some q:=let ⟨q,_,_,hq,_⟩:=gy;⟨q,hq⟩
 exact qU I2 (by rw[e];exact True.intro) hs he (oH hz hd (rk.merge .nil) gy)
structure M1 (X:Cx)(o:Expr)(m:Str)(apos:Pos)(e:Expr)(bh:Pos):Prop where
 base:attributeBase o m X.env (eval o X.env)=eval o X.env
 aF:((backTo bh (starEach [e] X.env)).all (λx=>!x.1)&&(backToKw bh (keywordEach [] X.env)).all (λx=>x.1.isSome)
  && decide (([e]:List Expr).length+([]:List Keyword).length+(if ([]:List Keyword).isEmpty then 0 else 1)<30))=true
 line:(apos.endLine==bh.line)=true
 trees:backTo bh (starEach [e] X.env)=[(false,eval e X.env)]
structure M2 (X:Cx)(o:Expr)(m:Str)(apos:Pos)(e f:Expr)(bh:Pos):Prop where
 base:attributeBase o m X.env (eval o X.env)=eval o X.env
 aF:((backTo bh (starEach [e,f] X.env)).all (λx=>!x.1)&&(backToKw bh (keywordEach [] X.env)).all (λx=>x.1.isSome)
  && decide (([e,f]:List Expr).length+([]:List Keyword).length+(if ([]:List Keyword).isEmpty then 0 else 1)<30))=true
 line:(apos.endLine==bh.line)=true
 trees:backTo bh (starEach [e,f] X.env)=[(false,eval e X.env),(false,eval f X.env)]
section
variable {X:Cx}{pins:aO}{σ:St}{H:Hp}{s:Shared}{a:Addr}{y d:V}{u r:Value}{o:Option V}{A:Around}{E:aG}
end
section
variable {X:Cx}{o e f:Expr}{apos bh:Pos}{td ty tx:TE}
end
section
variable {X:Cx}{pins:aO}{σ:St}{H:Hp}{s:Shared}{a:Addr}{kvs:bj}{A:Around}{E:aG}
theorem Me {Q:aG}(I:Inv X pins σ H s)(e:Rd H a (.dK kvs))(h:∀ p s',H p=none->Inv X pins σ (upd H p (.dK kvs)) s'->Q (.ref p) s'):wpAny (model X.prog X.w) A (call (.type "dict") [.ref a]) Q E s:=by
 obtain⟨z,hd,vs,rel,dd⟩:=mD I.aA e;refine kt_call_dict hd dd (by rw[<- rel.length];exact z) λh' gy hs=>?_;refine h _ _ (I.aA.fresh (ar _)) (I.laid (a:=s.heap.objs.size) (o:=.dK kvs) (t':=s.toks) (λb q hq=>?_) (ar _) (oH z (beq_eq_false_iff_ne.mpr (Ne.symm (bJ I.big))) rel gy));exact(hs.2 b (bJ (a7 hq))).trans (a9 _ hq)
end
section
variable {X:Cx}{pins:aO}{σ:St}{H:Hp}{s:Shared}{a:Addr}{y:V}{u:Value}{A:Around}{E:aG}
end
end L2
namespace HT
open PySem PyProof.Rows
section
open PySem.SeqAt
open PySem.AutoSeq1 (wpAny_loadPart')
open PySem.MeetsSeq PySem.MeetsSeq2 PySem.MeetsSeq3
end
section
variable {prog:Program}{w:World}{A:Around}{E:aG}{s:Shared}
theorem Mf {t b:Addr}{vs ws:aC}{Q:aG}(ht:IsTup s.heap t vs.toArray)(hb:IsTup s.heap b ws.toArray)(hv:vs≠[])
  (h1:ws=[]->Q (.ref t) s)(h2:ws≠[]->Q (.ref s.heap.objs.size) { s with heap:=s.heap.push { cls:=.type "tuple",data:=.seq (vs++ws).toArray } })
  (hsz:vs.length+ws.length<=sizeLine):wpAny (model prog w) A (binaryOp .Add (.ref t) (.ref b)) Q E s:=by
 obtain⟨⟨cls,dd,data,sl⟩,ho,hc,n,hd⟩:=id ht;obtain⟨⟨Mg,mF,data2,k9⟩,k_,j5,n2,hd2⟩:=id hb;simp only at hc hd j5 hd2;subst hc hd j5 hd2;have e:vs.toArray++ws.toArray=(vs++ws).toArray:=by simp
 by_cases hw:ws=[]
 ·exact concat_meets ⟨_,ho,rfl⟩ ⟨_,k_,rfl⟩ noFill_tuple_add seq_tuple_add PySem.F.slot_tuple_add PySem.F.entry_tuple_add (PySem.F.args_tuple_add_2 _ _)
   (tuple_addW1 t b vs.toArray ws.toArray n n2 dd mF sl k9 (by simpa using hv) (by simp [hw])) ⟨ho,k_,h1 hw⟩
 ·refine concat_meets ⟨_,ho,rfl⟩ ⟨_,k_,rfl⟩ noFill_tuple_add seq_tuple_add PySem.F.slot_tuple_add PySem.F.entry_tuple_add (PySem.F.args_tuple_add_2 _ _)
   (tuple_addW2 t b vs.toArray ws.toArray n n2 dd mF sl k9 (by simpa using hv) (by simpa using hw) (by rw[size_toArray,size_toArray];exact hsz)) ⟨ho,k_,?_⟩
  rw[e];exact h2 hw
noncomputable def aV (n d:Nat):Option Int->Nat
 |none=>d
 |some v=>if v<0 then (v+(n:Int)).toNat else min v.toNat n
theorem BK (n d:Nat):aV n d none=d:=rfl
theorem Mh (n d:Nat)(hd:d<=n)(o:Option Int):aV n d o<=n:=by
 cases o with
 |none=>exact hd
 |some v=>
  show(if v<0 then (v+(n:Int)).toNat else min v.toNat n)<=n;by_cases hv:v<0
  ·rw[if_pos hv];omega
  ·rw[if_neg hv];exact Nat.min_le_right _ _
theorem BL (v:Int)(n d:Nat):(if v<0 then max (v+(n:Int)) 0 else min v (n:Int))=((aV n d (some v):Nat):Int):=by
 show(if v<0 then max (v+(n:Int)) 0 else min v (n:Int))=(((if v<0 then (v+(n:Int)).toNat else min v.toNat n):Nat):Int);by_cases hv:v<0
 ·simp only[if_pos hv];omega
 ·simp only[if_neg hv];omega
theorem Mi (lo hi:Option Int)(n:Nat):Builtin.Slice.sliceAdjust lo hi 1 (n:Int)=(((aV n 0 lo:Nat):Int),((aV n n hi:Nat):Int)):=by
 have h1:¬ ((1:Int)<0):=by omega
 unfold Builtin.Slice.sliceAdjust;simp only[h1,if_false];refine Prod.ext ?_ ?_
 ·cases lo with
  |none=>rfl
  |some v=>exact BL v n 0
 ·cases hi with
  |none=>rfl
  |some v=>exact BL v n n
theorem Mj (i j:Nat):Builtin.Slice.slicePlaces (i:Int) (j:Int) 1=j-i:=by
 unfold Builtin.Slice.slicePlaces;have h1:(1:Int) > 0:=by omega
 simp only[h1,if_true,Int.ediv_one]
 split<;>omega
theorem BM {v:Value}{o:Option Int}{Q:Option Int->Shared->Prop}(p:IsPart v o)(h:Q o s):wpAny (model prog w) A (Builtin.Slice.slicePartIndex v) Q E s:=by
 cases p with
 |none=>exact slicePart_none h
 |int i t=>exact slicePart_int h
theorem BN {sl:Addr}{vl vu:Value}{lo hi:Option Int}{n:Nat}{Q:Int×Int×Nat->Shared->Prop}(hs:s.heap.IsSliceOf sl vl vu .none)(pl:IsPart vl lo)(pu:IsPart vu hi)
  (h:Q (((aV n 0 lo:Nat):Int),1,aV n n hi-aV n 0 lo) s):wpAny (model prog w) A (Builtin.Slice.sliceApplied (.ref sl) (pure (n:Int))) Q E s:=by
 obtain⟨os,la,f9,oI⟩:=id hs;unfold Builtin.Slice.sliceApplied Builtin.Slice.sliceFields;refine af (af (wpAny_field la oI (x:=vl) rfl (af (wpAny_field la oI (x:=vu) rfl (af (wpAny_field la oI (x:=.none) rfl (ao ?_)))))));refine af (slicePart_none ?_);show wpAny _ _ (if ((1:Int)==0)=true then _ else _) _ _ s;rw[if_neg (by decide)];refine af (BM pl (af (BM pu (af (ao ?_)))));show wpAny _ _ (match Builtin.Slice.sliceAdjust lo hi 1 (n:Int) with|(lo,hi)=>pure (lo,(1:Int),Builtin.Slice.slicePlaces lo hi 1)) _ _ s;rw[Mi lo hi n];show wpAny _ _ (pure (((aV n 0 lo:Nat):Int),(1:Int),Builtin.Slice.slicePlaces ((aV n 0 lo:Nat):Int) ((aV n n hi:Nat):Int) 1)) _ _ s;rw[Mj];exact ao h
theorem Mk (xs:Array Value)(i k:Nat):((range k).filterMap fun(m:Nat)=>xs[((i:Int)+(m:Int)*1).toNat]?).toArray=((xs.toList.drop i).take k).toArray:=by
 have e:(fun(m:Nat)=>xs[((i:Int)+(m:Int)*1).toNat]?)=λm=>xs[i+m]?:=by
  funext m
  have:((i:Int)+(m:Int)*1).toNat=i+m:=by omega
  rw[this]
 rw[e];have:=pick_run xs i k;rw[filterMap_map] at this;have e2:((λx=>xs[x]?)∘λx=>i+x)=λm=>xs[i+m]?:=rfl;rw[e2] at this;rw[this]
theorem Mm {t sl:Addr}{items:Array Value}{vl vu:Value}{lo hi:Option Int}{Q:aG}(ht:IsTup s.heap t items)(hs:s.heap.IsSliceOf sl vl vu .none)(pl:IsPart vl lo)(pu:IsPart vu hi)
  (hw:¬ (aV items.size 0 lo=0/\aV items.size items.size hi=items.size))
  (h:Q (.ref s.heap.objs.size) { s with heap:=s.heap.push { cls:=.type "tuple",data:=.seq ((items.toList.drop (aV items.size 0 lo)).take (aV items.size items.size hi-aV items.size 0 lo)).toArray } })
  (hsz:items.size<=sizeLine):wpAny (model prog w) A (getItem (.ref t) (.ref sl)) Q E s:=by
 have qY:sizeOk (.seq ((items.toList.drop (aV items.size 0 lo)).take (aV items.size items.size hi-aV items.size 0 lo)).toArray):=by
  show((items.toList.drop (aV items.size 0 lo)).take (aV items.size items.size hi-aV items.size 0 lo)).toArray.size<=sizeLine;rw[size_toArray,length_take,length_drop,Array.length_toList];omega
 have hj:aV items.size items.size hi<=items.size:=Mh _ _ (ar _) hi;obtain⟨os,la,f9,oI⟩:=id hs;have vE:s.TypeIs (.ref sl) "slice":=⟨os,la,f9⟩;unfold getItem
 try with_reducible refine wpAny_holding ?_
 first|refine af (ao ?_)|skip
 refine af (wpAny_sequenceKey ht.typeIs (by decide) ?_)
 refine af (wpAny_callSpecial?_slot (name:=Str.ofString "__getitem__") ht.typeIs PyProof.Rows.slot_tuple_getitem
  (wpAny_call_entry PyProof.Rows.slot_tuple_getitem ht.typeIs entry_tuple_getitem ?_ (args_tuple_getitem _ _)))
 show wpAny _ _ (Builtin.Tuple.tupleItemsOf (.ref t) >>= _) _ _ s;refine af (tupleItemsOf_ ht ?_);refine af (wpAny_typeOf vE ?_);rw[if_pos (by decide)];refine af (BN hs pl pu ?_)
 have qZ:¬ ((((aV items.size 0 lo:Nat):Int)==0&&(1:Int)==1&&(aV items.size items.size hi-aV items.size 0 lo)==items.size)=true):=by
  intro q;rw[Bool.and_eq_true,Bool.and_eq_true] at q;have q1:((aV items.size 0 lo:Nat):Int)=0:=eq_of_beq q.1.1;have q2:aV items.size items.size hi-aV items.size 0 lo=items.size:=eq_of_beq q.2;exact hw ⟨by omega,by omega⟩
 show wpAny _ _ (if (((aV items.size 0 lo:Nat):Int)==0&&(1:Int)==1&&(aV items.size items.size hi-aV items.size 0 lo)==items.size)=true then _ else _) _ _ s;rw[if_neg qZ,Mk]
 first
  |exact af (m:=Builtin.Tuple.tupleExact _) (wpAny_newObj_type (ao ⟨_,rfl,ao h⟩) qY)
  |exact af (m:=Builtin.Tuple.tupleExact _) (wpAny_newObj_type (af (ao (ao ⟨_,rfl,ao h⟩))) qY)
  |exact af (af (m:=Builtin.Tuple.tupleExact _) (wpAny_newObj_type (ao (ao ⟨_,rfl,ao h⟩)) qY))
  |exact af (af (m:=Builtin.Tuple.tupleExact _) (wpAny_newObj_type (ao ⟨_,rfl,ao h⟩) qY))
end
end HT
namespace L2
open PySem PySem.Spec PyProof.Rows
noncomputable abbrev TO:=St->Hp->(Option Int->Hp->Prop)->Prop
noncomputable def PO (X:Cx)(e:Option Expr)(t:TO):Prop:=
 ∀(pins:aO)(s:Shared)(σ:St)(H:Hp)(Q:Option Int->Hp->Prop),Inv X pins σ H s->t σ H Q ->
  wpAny (model X.prog X.w) X.A (evalPart e X.env) (λu s'=>∃ o H',Inv X pins σ H' s'/\IsPart u o/\Q o H') X.xe s
noncomputable def Mn:TO:=λ_ H Q=>Q none H
noncomputable def oJ (t:TE):TO:=λσ H Q=>t σ H λx H1=>∃ i,x=.int i/\Q (some i) H1
section
variable {X:Cx}{e:Expr}{te:TE}{lo hi:Option Expr}{tl th:TO}{pos p2:Pos}
theorem Mo:PO X none Mn:=by
 intro pins s σ H Q I h;rw[evalPart_none];exact ao ⟨none,H,I,.none,h⟩
theorem Mp (h:PE X e te):PO X (some e) (oJ te):=by
 intro pins s σ H Q I hw;rw[evalPart_some];refine aD (h pins s σ H _ I hw) λu s1 ⟨x,H1,I1,r1,q1⟩=>?_;obtain⟨i,rfl,q⟩:=q1;obtain⟨t,rfl⟩:=r1;exact⟨some i,H1,I1,.int i t,q⟩
noncomputable def jm (X:Cx)(r:V->Option Int->Option Int->Hp->VK->Prop):Prop:=
 ∀(pins:aO)(s:Shared)(σ:St)(H:Hp)(x:V)(v vl vu:Value)(lo hi:Option Int)(sl:Addr)(Q:VK),Inv X pins σ H s->RelV x v->s.heap.IsSliceOf sl vl vu .none->IsPart vl lo->IsPart vu hi->r x lo hi H Q ->
  ∃ T id,typeLookup (.type T) "__getitem__"=pure (some (.builtin id))/\s.TypeIs v T/\wpAny (model X.prog X.w) X.A (getItem v (.ref sl)) (EP X pins σ Q) X.xe s
theorem jm.or {r r':V->Option Int->Option Int->Hp->VK->Prop}(h:jm X r)(h':jm X r'):jm X (λx lo hi H Q=>r x lo hi H Q\/r' x lo hi H Q):=by
 intro pins s σ H x v vl vu lo hi sl Q I rx hs pl pu q;rcases q with q|q
 ·exact h pins s σ H x v vl vu lo hi sl Q I rx hs pl pu q
 ·exact h' pins s σ H x v vl vu lo hi sl Q I rx hs pl pu q
noncomputable def Mq (r:V->Option Int->Option Int->Hp->VK->Prop)(te:TE)(tl th:TO):TE:=λσ H Q=>te σ H λx H1=>tl σ H1 λl H2=>th σ H2 λu H3=>r x l u H3 Q
theorem BO {r:V->Option Int->Option Int->Hp->VK->Prop}(hr:jm X r)(he:PE X e te)(hl:PO X lo tl)(hu:PO X hi th):PE X (.Subscript e (.Slice lo hi none p2) pos) (Mq r te tl th):=by
 intro pins s σ H Q I h;refine Subscript_ (aD (he pins s σ H _ I h) λv s1 ⟨x,H1,I1,r1,q1⟩=>?_);refine wpAny_Slice (aD (hl pins s1 σ H1 _ I1 q1) λvl s2 ⟨l,H2,I2,pl,q2⟩=>aD (hu pins s2 σ H2 _ I2 q2) λvu s3 ⟨u,H3,I3,pu,q3⟩=>?_);rw[evalPart_none];refine ao ?_;have I4:Inv X pins σ H3 { s3 with heap:=s3.heap.push { cls:=.type "slice",data:=.fields #[vl,vu,.none] } }:=I3.kept (t':=s3.toks) λb ob q=>a9 _ q;obtain⟨T,id,hT,ht,hg⟩:=hr pins { s3 with heap:=s3.heap.push { cls:=.type "slice",data:=.fields #[vl,vu,.none] } } σ H3 x v vl vu l u s3.heap.objs.size Q I4 r1 (Heap.IsSliceOf.new ..) pl pu q3;show wpAny (model X.prog X.w) X.A (subscriptTail e (.Slice lo hi none p2) v (.ref s3.heap.objs.size)) (EP X pins σ Q) X.xe { s3 with heap:=s3.heap.push { cls:=.type "slice",data:=.fields #[vl,vu,.none] } };exact tail_any (ops:=[.ref s3.heap.objs.size,v]) ht hT hg (by with_unfolding_all rfl)
noncomputable def hW (xs:Zv)(lo hi:Option Int):Zv:=(xs.drop (HT.aV xs.length 0 lo)).take (HT.aV xs.length xs.length hi-HT.aV xs.length 0 lo)
theorem BP (xs:Zv)(lo hi:Option Int):(hW xs lo hi).length<=xs.length:=by
 unfold hW;rw[length_take,length_drop];omega
noncomputable def Mr (K:Frag):V->Option Int->Option Int->Hp->VK->Prop:=λx lo hi H Q=>∃ a xs,x=.ref a/\bt K H a xs /\
 ¬ (HT.aV xs.length 0 lo=0/\HT.aV xs.length xs.length hi=xs.length)/\∀ p,H p=none->Q (.ref p) (upd H p (.tup (hW xs lo hi)))
theorem Ms:jm X (Mr X.K):=by
 intro pins s σ H x v vl vu lo hi sl Q I rx hs pl pu h;obtain⟨a,xs,rfl,hx,hw,q⟩:=h;cases rx;obtain⟨its,r,ht,hz⟩:=I.tuple hx;have hlen:its.toArray.size=xs.length:=by rw[size_toArray];exact r.length.symm
 refine⟨"tuple",_,PyProof.Rows.slot_tuple_getitem.lookup,ht.typeIs,?_⟩;refine HT.Mm ht hs pl pu (by rw[hlen];exact hw) ?_ (by rw[hlen];exact hz);rw[hlen];refine⟨.ref s.heap.objs.size,_,I.laid (t':=s.toks) (o:=.tup (hW xs lo hi)) (λb ob q=>a9 _ q) (ar _) ?_,rfl,q _ (I.aA.fresh (ar _))⟩;exact⟨aP (BP xs lo hi) hz,_,(r.drop (HT.aV xs.length 0 lo)).take (HT.aV xs.length xs.length hi-HT.aV xs.length 0 lo),IsTup.new _ _⟩
noncomputable def Mu (K:Frag):R2:=λx y H Q=>∃ a b xs ys,x=.ref a/\y=.ref b/\bt K H a xs/\bt K H b ys/\xs≠[]/\xs.length+ys.length<=sizeLine /\
 (ys=[]->Q (.ref a) H)/\(ys≠[]->∀ p,H p=none->Q (.ref p) (upd H p (.tup (xs++ys))))
theorem Vals.q_ {xs:Zv}{us:aC}(r:Vals xs us):us=[]↔xs=[]:=by
 cases r with
 |nil=>simp
 |cons _ _=>simp
theorem Mv:bz X (binaryOp .Add) (Mu X.K):=by
 intro pins s σ H x y v u Q I rx ry h;obtain⟨a,b,xs,ys,rfl,rfl,ha,hb,hx,hz,q1,q2⟩:=h;cases rx;cases ry;obtain⟨its,r1,p1,_⟩:=I.tuple ha;obtain⟨fA,r2,p2,_⟩:=I.tuple hb;refine HT.Mf p1 p2 (λz=>hx (r1.q_.mp z)) (λz=>⟨.ref a,H,I,rfl,q1 (r2.q_.mp z)⟩) (λz=>?_) (by rw[<- r1.length,<- r2.length];exact hz);refine⟨.ref s.heap.objs.size,_,I.laid (t':=s.toks) (o:=.tup (xs++ys)) (λb ob q=>a9 _ q) (ar _) ?_,rfl,q2 (λw=>z (r2.q_.mpr w)) _ (I.aA.fresh (ar _))⟩;exact⟨by rw[length_append];exact hz,_,r1.append r2,IsTup.new _ _⟩
end
noncomputable def iO (n:Nat)(i:Int):Option Nat:=if 0<=i then (if i<n then some i.toNat else none) else if -(n:Int)<=i then some (i+n).toNat else none
noncomputable def cz {α:Type}(xs:List α)(i:Int):Option α:=(iO xs.length i).bind λj=>xs[j]?
theorem BQ {n:Nat}{i:Int}{j:Nat}(h:iO n i=some j):seqIndex? i n=some j/\j<n /\ -(n:Int)<=i/\i<n:=by
 unfold iO at h;by_cases h0:0<=i
 ·rw[if_pos h0] at h;by_cases h1:i<n
  ·rw[if_pos h1] at h;have e:i.toNat=j:=Option.some.inj h;exact⟨by rw[seqIndex_of h0 h1,e],by omega,by omega,h1⟩
  ·rw[if_neg h1] at h;cases h
 ·rw[if_neg h0] at h;by_cases h1:-(n:Int)<=i
  ·rw[if_pos h1] at h;have e:(i+n).toNat=j:=Option.some.inj h;exact⟨by rw[seqIndex_neg (by omega) h1,e],by omega,h1,by omega⟩
  ·rw[if_neg h1] at h;cases h
theorem vF {α:Type}{xs:List α}{i:Int}{v:α}(h:cz xs i=some v):∃ j,seqIndex? i xs.length=some j/\xs[j]?=some v/\j<xs.length /\ -(xs.length:Int)<=i/\i<xs.length:=by
 unfold cz at h
 cases e:iO xs.length i with
 |none=>rw[e] at h;cases h
 |some j=>
  rw[e] at h;obtain⟨h1,h2,h3,h4⟩:=BQ e;exact⟨j,h1,h,h2,h3,h4⟩
theorem Mw {α:Type}{xs:List α}{j:Nat}{v:α}(h:xs[j]?=some v):cz xs (j:Int)=some v:=by
 have hj:j<xs.length:=(c7 h).1
 have e:iO xs.length (j:Int)=some j:=by
  unfold iO;rw[if_pos (by omega),if_pos (by omega)];simp
 unfold cz;rw[e];exact h
noncomputable def vG (b:Expr):Prop:=∀ o i,subscripted b false o i=operate [o,i] (getItem o i)
noncomputable def hZ (X:Cx)(r:R2):Prop:=
 ∀(value slice:Expr)(pins:aO)(s:Shared)(σ:St)(H:Hp)(x y:V)(v u:Value)(Q:VK),Inv X pins σ H s->RelV x v->RelV y u->r x y H Q ->
  subscripted slice false v u=operate [v,u] (getItem v u)->wpAny (model X.prog X.w) X.A (subscriptTail value slice v u) (EP X pins σ Q) X.xe s
noncomputable def vH (X:Cx)(id:String)(r:V->Zv->Hp->VK->Prop):Prop:=
 ∀(pins:aO)(s:Shared)(σ:St)(H:Hp)(x:V)(xs:Zv)(v:Value)(us:aC)(Q:VK),Inv X pins σ H s->RelV x v->Vals xs us->r x xs H Q ->
  wpAny (model X.prog X.w) X.A (call (.builtin id) (v::us)) (EP X pins σ Q) X.xe s
section
variable {X:Cx}{a b:Expr}{ta tb:TE}{pos:Pos}
theorem hZ.or {r r':R2}(h:hZ X r)(h':hZ X r'):hZ X (λx y H Q=>r x y H Q\/r' x y H Q):=by
 intro value slice pins s σ H x y v u Q I rx ry q hs;rcases q with q|q
 ·exact h value slice pins s σ H x y v u Q I rx ry q hs
 ·exact h' value slice pins s σ H x y v u Q I rx ry q hs
theorem ra {r:R2}(hr:hZ X r)(ha:PE X a ta)(hb:PE X b tb)(hs:vG b):PE X (.Subscript a b pos) (jT r ta tb):=by
 intro pins s σ H Q I h;exact Subscript_ (vo ha hb I h λv u s2 x y H2 I2 rx ry q=>hr a b pins s2 σ H2 x y v u Q I2 rx ry q (hs _ _))
noncomputable def BR (K:Frag):R2:=λx y H Q=>∃ p xs i v,x=.ref p/\y=.int i/\aN K H p xs/\cz xs i=some v/\Q v H
noncomputable def BS (K:Frag):R2:=λx y H Q=>∃ p xs i v,x=.ref p/\y=.int i/\bt K H p xs/\cz xs i=some v/\Q v H
noncomputable def BU:R2:=λx y H Q=>∃ z i c,x=.str z/\y=.int i/\z.length<=sizeLine/\cz z.cps.toList i=some c/\Q (.str ⟨#[c]⟩) H
theorem rb:hZ X (BR X.K):=by
 intro value slice pins s σ H x y v u Q I rx ry h hs;obtain⟨p,xs,i,z,rfl,rfl,hq,he,q⟩:=h;cases rx;obtain⟨t,rfl⟩:=ry;obtain⟨its,r,pl,hz⟩:=I.list hq;obtain⟨j,h1,h2,h3,h4,h5⟩:=vF he;obtain⟨w,ew,dJ⟩:=r.get h2;have hl:=r.length;have hn:=k5;have fin:EP X pins σ Q w s:=⟨z,H,I,dJ,q⟩;by_cases h0:0<=i
 ·have hj:i.toNat=j:=by
   rw[seqIndex_of h0 h5] at h1;exact Option.some.inj h1
  exact item_listR pl.isList h0 (by omega) (by rw[hj];simpa using ew) fin hs
 ·have hj:(i+(its.toArray.size:Int)).toNat=j:=by
   rw[seqIndex_neg (by omega) h4] at h1;rw[size_toArray,<- hl];exact Option.some.inj h1
  exact subscriptTail_builtinR (x:=w) pl.isList.typeIs slot_list_getitem.lookup
   (wpAny_getItem_list_neg (Q:=λr s'=>r=w/\EP X pins σ Q r s') pl.isList (by omega) (by rw[size_toArray]<;>omega) (by omega) (by rw[hj];simpa using ew) ⟨rfl,fin⟩) hs
theorem Mx:hZ X (BS X.K):=by
 intro value slice pins s σ H x y v u Q I rx ry h hs;obtain⟨p,xs,i,z,rfl,rfl,hq,he,q⟩:=h;cases rx;obtain⟨t,rfl⟩:=ry;obtain⟨its,r,pl,hz⟩:=I.tuple hq;obtain⟨j,h1,h2,h3,h4,h5⟩:=vF he;obtain⟨w,ew,dJ⟩:=r.get h2;have hl:=r.length;have hn:=k5;have fin:EP X pins σ Q w s:=⟨z,H,I,dJ,q⟩
 exact subscriptTail_builtinR (x:=w) pl.typeIs slot_tuple_getitem.lookup
  (getItem_tuple (j:=j) (Q:=λr s'=>r=w/\EP X pins σ Q r s') pl (by omega) (by omega) (by rw[size_toArray,<- hl];exact h1) (by simpa using ew) ⟨rfl,fin⟩) hs
theorem My:hZ X BU:=by
 intro value slice pins s σ H x y v u Q I rx ry h hs;obtain⟨z,i,c,rfl,rfl,hz,he,q⟩:=h;obtain⟨t,rfl⟩:=rx;obtain⟨t',rfl⟩:=ry;obtain⟨j,h1,h2,h3,h4,h5⟩:=vF he;have hl:z.cps.toList.length=z.length:=by simp [Str.length]
 rw[hl] at h1 h4 h5;have hn:=k5
 exact tail_any (typeIs_str s z t) slot_str_getitem.lookup (getItem_str (c:=c) (by
  have e1:decide (i < -(2 ^ 63:Int))=false:=decide_eq_false (by omega);have e2:decide (i≥2 ^ 63)=false:=decide_eq_false (by omega)
  rw[e1,e2,Bool.or_false]) (by rw[h1];simpa using h2) ⟨.str ⟨#[c]⟩,H,I.tok _,⟨_,rfl⟩,q⟩) hs
noncomputable def vI (K:Frag):R2:=λx y H Q=>BR K x y H Q\/BS K x y H Q\/BU x y H Q
theorem Mz:hZ X (vI X.K):=rb.or (Mx.or My)
theorem MA (its:aC)(n j:Nat)(u:Value):Obj.mapSeq (·.setIfInBounds j u) { cls:=.type "list",data:=.seq its.toArray n }={ cls:=.type "list",data:=.seq (its.set j u).toArray n }:=by
 simp [Obj.mapSeq]
theorem Inv.lst {pins:aO}{σ:St}{H:Hp}{s:Shared}{p:Addr}{xs:Zv}(I:Inv X pins σ H s)(h:H p=some (.lst xs)) :
  ∃(its:aC)(n:Nat),Vals xs its/\s.heap.get? p=some { cls:=.type "list",data:=.seq its.toArray n }/\xs.length<=sizeLine:=by
 obtain⟨z,its,n,r,e⟩:=I.aA p _ h;exact⟨its,n,r,e,z⟩
theorem Inv.MB {pins:aO}{σ:St}{H:Hp}{s:Shared}{p:Addr}{xs ys:Zv}{its its':aC}{n n':Nat}{f:Obj->Obj}(I:Inv X pins σ H s)(h:H p=some (.lst xs))
  (ho:s.heap.get? p=some { cls:=.type "list",data:=.seq its.toArray n })(hf:f { cls:=.type "list",data:=.seq its.toArray n }={ cls:=.type "list",data:=.seq its'.toArray n' })(r:Vals ys its')(hz:ys.length<=sizeLine)(t:Nat) :
  Inv X pins σ (upd H p (.lst ys)) { s with heap:=s.heap.update p f,toks:=t }:=by
 have e:(s.heap.update p f).get? p=some { cls:=.type "list",data:=.seq its'.toArray n' }:=by
  rw[Heap.get?_update_self f ho (by rw[hf]<;>rfl),hf]
 refine I.write (x:=p) (e:=p) (by rw[h];trivial) (.inl rfl) (λb u hb q=>(Heap.get?_update_other _ _ (Ne.symm hb)).trans q) ⟨_,e⟩ ?_;exact⟨hz,its',n',r,e⟩
noncomputable def MC:V->V->V->Hp->(Hp->Prop)->Prop:=λo i v H Q=>∃ p xs k j,o=.ref p/\i=.int k/\H p=some (.lst xs)/\iO xs.length k=some j/\Q (upd H p (.lst (xs.set j v)))
theorem set_list:Bd X MC:=by
 intro pins s σ H o i v ov iv u Q I ro ri rv h;obtain⟨p,xs,k,j,rfl,rfl,hp,hj,q⟩:=h;cases ro;obtain⟨t,rfl⟩:=ri;obtain⟨its,n,r,ho,hz⟩:=I.lst hp;obtain⟨h1,h2,h3,h4⟩:=BQ hj;have hl:=r.length;have hn:=k5
 have I':Inv X pins σ (upd H p (.lst (xs.set j v))) { s with heap:=s.heap.update p (Obj.mapSeq (·.setIfInBounds j u)) }:=
  I.MB hp ho (MA its n j u) (r.set rv j) (by rw[length_set];exact hz) s.toks
 by_cases h0:0<=k
 ·have hk:k.toNat=j:=by
   rw[seqIndex_of h0 h4] at h1;exact Option.some.inj h1
  exact PySem.W.ki_setAt ho h0 (by omega) (by rw[size_toArray,<- hl];exact h4) (by rw[hk];exact⟨_,I',q⟩)
 ·have hk:(k+(its.toArray.size:Int)).toNat=j:=by
   rw[seqIndex_neg (by omega) h3] at h1;rw[size_toArray,<- hl];exact Option.some.inj h1
  exact PySem.W.ki_setBack ho (by omega) (by rw[size_toArray,<- hl];exact h3) (by omega) (by rw[hk];exact⟨_,I',q⟩)
theorem MD (lo hi:Option Int)(n:Nat):(sliceBounds lo hi none n).1=((HT.aV n 0 lo:Nat):Int)/\(sliceBounds lo hi none n).2.1=((HT.aV n n hi:Nat):Int)/\(sliceBounds lo hi none n).2.2=1:=by
 refine⟨?_,?_,rfl⟩
 ·cases lo with
  |none=>simp [sliceBounds,HT.aV]
  |some i=>
   simp only[sliceBounds,HT.aV,Option.getD_none,show(1:Int) > 0 by decide,if_true];by_cases h:i<0
   ·simp only[h,if_true]<;>omega
   ·simp only[h,if_false]<;>omega
 ·cases hi with
  |none=>simp [sliceBounds,HT.aV]
  |some i=>
   simp only[sliceBounds,HT.aV,Option.getD_none,show(1:Int) > 0 by decide,if_true];by_cases h:i<0
   ·simp only[h,if_true]<;>omega
   ·simp only[h,if_false]<;>omega
theorem ME (its:aC)(lo hi:Option Int):slicePick its.toArray lo hi none=((its.drop (HT.aV its.length 0 lo)).take (HT.aV its.length its.length hi-HT.aV its.length 0 lo)).toArray:=by
 obtain⟨h1,h2,h3⟩:=MD lo hi its.toArray.size;unfold slicePick;rw[h1,h2,h3];simp only[sliceRange_one,pick_run,size_toArray]<;>rfl
noncomputable def MF (K:Frag):V->Option Int->Option Int->Hp->VK->Prop:=λx lo hi H Q=>∃ a xs,x=.ref a/\aN K H a xs/\∀ p,H p=none->Q (.ref p) (upd H p (.lst (hW xs lo hi)))
theorem BV:jm X (MF X.K):=by
 intro pins s σ H x v vl vu lo hi sl Q I rx hs pl pu h;obtain⟨a,xs,rfl,hx,q⟩:=h;cases rx;obtain⟨its,r,ht,hz⟩:=I.list hx;have hlen:=r.length;refine⟨"list",_,slot_list_getitem.lookup,ht.isList.typeIs,?_⟩;refine wpAny_getItem_list_slice ht.isList hs pl pu .none (by simp) ?_ (by rw[size_toArray]<;>omega);rw[ME,<- hlen];refine⟨.ref s.heap.objs.size,_,I.laid (t':=s.toks) (o:=.lst (hW xs lo hi)) (λb ob q=>a9 _ q) (ar _) ?_,rfl,q _ (I.aA.fresh (ar _))⟩;exact⟨aP (BP xs lo hi) hz,_,0,(r.drop (HT.aV xs.length 0 lo)).take (HT.aV xs.length xs.length hi-HT.aV xs.length 0 lo),b7 _ rfl⟩
noncomputable def lg:V->Bool
 |.non=>true
 |.bl _=>true
 |.int _=>true
 |.str _=>true
 |_=>false
noncomputable def oK:V->V->Bool
 |.non,.non=>true
 |.bl a,.bl b=>a==b
 |.bl a,.int b=>(if a then 1 else 0)==b
 |.int a,.bl b=>a==(if b then 1 else 0)
 |.int a,.int b=>a==b
 |.str a,.str b=>a==b
 |_,_=>false
theorem MG {A:Around}{s:Shared}{y x:V}{u v:Value}(ry:RelV y u)(rx:RelV x v)(fy:lg y=true)(fx:lg x=true):SeqAt.EqAt A s u v (oK y x):=by
 cases y with
 |non=>
  cases ry
  cases x with
  |non=>cases rx;exact SeqAt.EqAt.same _
  |bl b=>cases rx;exact SeqAt.EqAt.none_bool b
  |int b=>obtain⟨t,rfl⟩:=rx;exact SeqAt.EqAt.none_int b t
  |str b=>obtain⟨t,rfl⟩:=rx;exact SeqAt.EqAt.none_str b t
  |_=>exact absurd (show false=true from fx) Bool.false_ne_true
 |bl a=>
  cases ry
  cases x with
  |non=>cases rx;exact SeqAt.EqAt.bool_none a
  |bl b=>cases rx;exact SeqAt.EqAt.bool_bool a b
  |int b=>obtain⟨t,rfl⟩:=rx;exact SeqAt.EqAt.bool_int a b t
  |str b=>obtain⟨t,rfl⟩:=rx;exact SeqAt.EqAt.bool_str a b t
  |_=>exact absurd (show false=true from fx) Bool.false_ne_true
 |int a=>
  obtain⟨t',rfl⟩:=ry
  cases x with
  |non=>cases rx;exact SeqAt.EqAt.int_none a t'
  |bl b=>cases rx;exact SeqAt.EqAt.int_bool a t' b
  |int b=>obtain⟨t,rfl⟩:=rx;exact SeqAt.EqAt.int_int a t' b t
  |str b=>obtain⟨t,rfl⟩:=rx;exact SeqAt.EqAt.int_str a t' b t
  |_=>exact absurd (show false=true from fx) Bool.false_ne_true
 |str a=>
  obtain⟨t',rfl⟩:=ry
  cases x with
  |non=>cases rx;exact SeqAt.EqAt.str_none a t'
  |bl b=>cases rx;exact SeqAt.EqAt.str_bool a t' b
  |int b=>obtain⟨t,rfl⟩:=rx;exact SeqAt.EqAt.str_int a t' b t
  |str b=>obtain⟨t,rfl⟩:=rx;exact SeqAt.EqAt.str_str a t' b t
  |_=>exact absurd (show false=true from fx) Bool.false_ne_true
 |_=>exact absurd (show false=true from fy) Bool.false_ne_true
theorem oM:cy X (.builtin "len") (λxs H Q=>∃ p ys,xs=[.ref p]/\(aN X.K H p ys\/bt X.K H p ys)/\Q (.int ys.length) H):=by
 intro pins s σ H xs us Q I r h;obtain⟨p,ys,rfl,hq,q⟩:=h;obtain⟨u,rfl,rx⟩:=vals1 r;cases rx;have hn:=k5;rcases hq with hq|hq
 ·obtain⟨its,r',pl,hz⟩:=I.list hq;have hlen:=r'.length;exact Calls.call_len_list pl.isList (by simp only[size_toArray]<;>omega) ⟨.int ys.length,H,I.tok _,⟨s.toks+1,by rw[size_toArray,hlen]⟩,q⟩
 ·obtain⟨its,r',pl,hz⟩:=I.tuple hq;have hlen:=r'.length;exact len_tuple pl (by simp only[size_toArray]<;>omega) ⟨.int ys.length,H,I.tok _,⟨s.toks+1,by rw[size_toArray,hlen]⟩,q⟩
theorem cy.or {f:Value}{r r':Zv->Hp->VK->Prop}(h:cy X f r)(h':cy X f r'):cy X f (λxs H Q=>r xs H Q\/r' xs H Q):=by
 intro pins s σ H xs us Q I rs q;rcases q with q|q
 ·exact h pins s σ H xs us Q I rs q
 ·exact h' pins s σ H xs us Q I rs q
theorem MH:cy X (.type "tuple") (λxs H Q=>∃ p ys,xs=[.ref p]/\((aN X.K H p ys/\∀ l,H l=none->Q (.ref l) (upd H l (.tup ys)))\/(bt X.K H p ys/\Q (.ref p) H))):=by
 intro pins s σ H xs us Q I r h;obtain⟨p,ys,rfl,h⟩:=h;obtain⟨u,rfl,rx⟩:=vals1 r;cases rx;rcases h with ⟨hq,q⟩|⟨hq,q⟩
 ·obtain⟨its,r',pl,hz⟩:=I.list hq;have hlen:=r'.length;refine call_tuple_list pl.isList (λh' kp=>?_) (by simp only[size_toArray]<;>omega);have I1:Inv X pins σ H { s with heap:=h' }:=I.kept (t':=s.toks) kp
  have I2:Inv X pins σ (upd H h'.objs.size (.tup ys)) { s with heap:=h'.push { cls:=.type "tuple",data:=.seq its.toArray } }:=
   I1.laid (t':=s.toks) (λb o e=>a9 _ e) (ar _) (show cQ X.prog X.w _ _ _ (.tup ys) from⟨hz,its,r',IsTup.new _ _⟩)
  exact⟨.ref h'.objs.size,_,I2,rfl,q _ (I1.aA.fresh (ar _))⟩
 ·obtain⟨its,r',pl,hz⟩:=I.tuple hq;exact call_tuple_same pl ⟨.ref p,H,I,rfl,q⟩
noncomputable def vJ (K:Frag)(T:String)(x:V)(H:Hp):Prop:=match x with
 |.str _=>T="str"
 |.int _=>T="int"
 |.ref p=>(T="list"/\∃ xs,aN K H p xs)\/(T="tuple"/\∃ o,K.lookup p=some o/\o.cls=.type "tuple"/\o.dict=none) \/
   (T="dict"/\((∃ kvs,H p=some (.dK kvs))\/∃ kvs,H p=some (.dT kvs)))\/(T="set"/\∃ S n,H p=some (.set S n))
 |_=>False
theorem BW {pins:aO}{σ:St}{H:Hp}{s:Shared}{T:String}{x:V}{v:Value}(I:Inv X pins σ H s)(r:RelV x v)(ty:vJ X.K T x H) :
  s.TypeIs v T/\∀ a,v=.ref a->∃ ob,s.heap.get? a=some ob/\ob.dict=none:=by
 cases x with
 |str z=>
  obtain⟨t,rfl⟩:=r;cases (show T="str" from ty);exact⟨typeIs_str s z t,λ_ e=>nomatch e⟩
 |int i=>
  obtain⟨t,rfl⟩:=r;cases (show T="int" from ty);exact⟨typeIs_int s i t,λ_ e=>nomatch e⟩
 |ref p=>
  cases r;rcases ty with ⟨rfl,xs,hq⟩|⟨rfl,o,hk,hc,hd⟩|⟨rfl,hk⟩|⟨rfl,S,n,hk⟩
  ·obtain⟨its,_,pl,_⟩:=I.list hq;refine⟨pl.isList.typeIs,λa e=>?_⟩;cases e;obtain⟨o,n,e,c,hd,_⟩:=pl;exact⟨o,e,hd⟩
  ·refine⟨⟨o,I.dH p o hk,hc⟩,λa e=>?_⟩;cases e;exact⟨o,I.dH _ o hk,hd⟩
  ·have z:∃ o,s.heap.get? p=some o/\o.ExactDict:=by
    rcases hk with ⟨kvs,hk⟩|⟨kvs,hk⟩
    ·obtain⟨_,_,_,_,o,_,_,e,ex,_⟩:=I.aA p _ hk;exact⟨o,e,ex⟩
    ·obtain⟨_,_,_,_,o,_,_,e,ex,_⟩:=I.aA p _ hk;exact⟨o,e,ex⟩
   obtain⟨o,e,ex⟩:=z;refine⟨⟨o,e,ex.1⟩,λa e2=>?_⟩;cases e2;exact⟨o,e,ex.2.1⟩
  ·obtain⟨o,_,_,_,e,ex,_⟩:=I.aA p _ hk;refine⟨⟨o,e,ex.1⟩,λa e2=>?_⟩;cases e2;exact⟨o,e,ex.2.1⟩
 |_=>exact False.elim ty
noncomputable def MI (K:Frag)(T:String)(r:V->Zv->Hp->VK->Prop)(to:TE):TE:=λσ H Q=>to σ H λx H1=>vJ K T x H1/\r x [] H1 Q
noncomputable def MJ (K:Frag)(T:String)(r:V->Zv->Hp->VK->Prop)(to:TE)(t:TA):TE:=λσ H Q=>to σ H λx H1=>vJ K T x H1/\t σ H1 λxs H2=>r x xs H2 Q
variable {o e:Expr}{es:List Expr}{to:TE}{t:TA}{name:Str}{apos bh:Pos}{T id:String}{r:V->Zv->Hp->VK->Prop}
theorem MK (pa:PlainAttrs T)(slot:Slot T name id)(vK:typeOf (.builtin id)=pure (.type "method_descriptor"))(hm:vH X id r)(ho:PE X o to)
  (d5:attributeBase o name X.env (eval o X.env)=eval o X.env:=by rfl)(d6:(apos.endLine==bh.line)=true:=by rfl):PE X (.Call (.Attribute o name apos) [] [] bh) (MI X.K T r to):=by
 intro pins s σ H Q I h;refine wpAny_Call_method0_late d5 d6 (aD (ho pins s σ H _ I h) λv s1 ⟨x,H1,I1,r1,ty,q1⟩=>?_);obtain⟨h1,h2⟩:=BW I1 r1 ty;exact⟨T,id,pa,slot,vK,h1,h2,Calls.callWith_builtin rfl (PySem.evalArgs_none (hm pins s1 σ H1 x [] v [] Q I1 r1 .nil q1))⟩
theorem oN (pa:PlainAttrs T)(slot:Slot T name id)(vK:typeOf (.builtin id)=pure (.type "method_descriptor"))(hm:vH X id r)(ho:PE X o to)(ha:PA X (e::es) t)
  (d5:attributeBase o name X.env (eval o X.env)=eval o X.env:=by rfl)
  (h_:((backTo bh (starEach (e::es) X.env)).all (λx=>!x.1)&&(backToKw bh (keywordEach [] X.env)).all (λx=>x.1.isSome)
   && decide ((e::es).length+([]:List Keyword).length+(if ([]:List Keyword).isEmpty then 0 else 1)<30))=true:=by rfl)
  (d6:(apos.endLine==bh.line)=true:=by rfl)(hs:starEach (e::es) X.env=(false,eval e X.env)::starEach es X.env:=by rfl)(ML:(backTo bh (starEach es X.env)).any (·.1)=false:=by rfl) :
  PE X (.Call (.Attribute o name apos) (e::es) [] bh) (MJ X.K T r to t):=by
 intro pins s σ H Q I h;refine wpAny_Call_method_late d5 h_ d6 rfl (aD (ho pins s σ H _ I h) λv s1 ⟨x,H1,I1,r1,ty,q1⟩=>?_);obtain⟨h1,h2⟩:=BW I1 r1 ty;refine⟨T,id,pa,slot,vK,h1,h2,?_⟩;have hA:=ha bh pins s1 σ H1 _ I1 q1;rw[hs] at hA ⊢;refine Calls.callWith_builtin (by show(false||(backTo bh (starEach es X.env)).any (·.1))=false;rw[ML]<;>rfl) (Calls.evalArgs_plain ?_);exact aD hA λus s2 ⟨vs,H2,I2,r2,q2⟩=>hm pins s2 σ H2 x vs v us Q I2 r1 r2 q2
end
noncomputable def jo (X:Cx)(id:String)(r:V->Zv->Hp->VK->Prop):Prop:=
 ∀(pins:aO)(s:Shared)(σ:St)(H:Hp)(x:V)(xs:Zv)(v:Value)(us:aC)(Q:VK),Inv X pins σ H s->RelV x v->Vals xs us->r x xs H Q ->
  wpAny (model X.prog X.w) X.A (call (.builtin id) (v::us)) (EP X pins σ Q) X.xe s
theorem Vals.one:∀{x:V}{us:aC},Vals [x] us->∃ u,us=[u]/\RelV x u
 |_,_,.cons r .nil=>⟨_,rfl,r⟩
theorem Vals.zero:∀{us:aC},Vals [] us->us=[]
 |_,.nil=>rfl
theorem Vals.dropLast {xs:Zv}{us:aC}(h:Vals xs us):Vals xs.dropLast us.dropLast:=by
 induction h with
 |nil=>exact .nil
 |cons r t ih=>
  cases t with
  |nil=>exact .nil
  |cons q t'=>exact .cons r ih
theorem Vals.eraseIdx:∀{xs:Zv}{us:aC}(i:Nat),Vals xs us->Vals (xs.eraseIdx i) (us.eraseIdx i)
 |_,_,_,.nil=>.nil
 |_,_,0,.cons _ t=>t
 |_,_,i+1,.cons r t=>.cons r (Vals.eraseIdx i t)
theorem Vals.reverse {xs:Zv}{us:aC}(h:Vals xs us):Vals xs.reverse us.reverse:=by
 induction h with
 |nil=>exact .nil
 |cons r t ih=>rw[reverse_cons,reverse_cons];exact Vals.append ih (.cons r .nil)
theorem Vals.rep {xs:Zv}{us:aC}(h:Vals xs us):∀ k:Nat,Vals (replicate k xs).flatten (replicate k us).flatten
 |0=>.nil
 |k+1=>by
  rw[replicate_succ,replicate_succ,flatten_cons,flatten_cons];exact Vals.append h (Vals.rep h k)
theorem MN {α:Type}(l:List α):l.eraseIdx (l.length-1)=l.dropLast:=by
 induction l with
 |nil=>rfl
 |cons a r ih=>
  cases r with
  |nil=>rfl
  |cons b r=>
   have e:(a::b::r).length-1=((b::r).length-1)+1:=by
    have h1:(a::b::r).length=r.length+2:=rfl;have h2:(b::r).length=r.length+1:=rfl;omega
   rw[e,eraseIdx_cons_succ,ih]
   all_goals rfl
theorem BX {α:Type}:∀(l:List α)(i:Nat),(l.eraseIdx i).length<=l.length
 |[],_=>ar _
 |_::_,0=>Nat.le_succ _
 |_::r,i+1=>Nat.succ_le_succ (BX r i)
theorem foldl_rep (its:aC):∀(k:Nat)(acc:aC),
  foldl (λx1 x2=>x1++x2) acc.toArray (replicate k its.toArray)=(acc++(replicate k its).flatten).toArray
 |0,acc=>by simp
 |k+1,acc=>by
  have e:acc.toArray++its.toArray=(acc++its).toArray:=by simp
  have e2:(acc++its)++(replicate k its).flatten=acc++(replicate (k+1) its).flatten:=by
   rw[replicate_succ,flatten_cons,append_assoc]
  rw[<- e2,<- foldl_rep its k (acc++its),<- e,replicate_succ,foldl_cons]
section
variable {X:Cx}{pins:aO}{σ:St}{H:Hp}{s:Shared}{l b:Addr}{xs ys zs:Zv}
theorem Inv.oO {its its':aC}{n:Nat}{f:Array Value->Array Value}{t':Nat}(I:Inv X pins σ H s)(hH:H l=some (.lst xs))
  (e:s.heap.get? l=some { cls:=.type "list",data:=.seq its.toArray n })(hf:f its.toArray=its'.toArray)(hv:Vals ys its')(hz:ys.length<=sizeLine) :
  Inv X pins σ (upd H l (.lst ys)) { s with heap:=s.heap.update l (Obj.mapSeq f),toks:=t' }:=by
 have q:=PySem.IsL.update e f;rw[hf] at q;refine I.write (x:=l) (e:=l) (by rw[hH];exact trivial) (.inl rfl) (λb' u hb hu=>(Heap.get?_update_other s.heap (Obj.mapSeq f) (Ne.symm hb)).trans hu) ⟨_,q⟩ ?_;exact⟨hz,its',_,hv,q⟩
theorem Inv.vL {its:aC}{t':Nat}(I:Inv X pins σ H s)(hv:Vals ys its)(hz:ys.length<=sizeLine) :
  Inv X pins σ (upd H s.heap.objs.size (.lst ys)) { s with heap:=s.heap.push { cls:=.type "list",data:=.seq its.toArray },toks:=t' }:=
 I.laid (λ_ _ q=>a9 _ q) (ar _) ⟨hz,its,0,hv,b7 _ rfl⟩
theorem Inv.fresh (I:Inv X pins σ H s):H s.heap.objs.size=none:=I.aA.fresh (ar _)
theorem Inv.iP (I:Inv X pins σ H s)(hH:H l=some (.lst xs)):xs.length<=sizeLine/\∃(its:aC)(n:Nat),Vals xs its/\xs.length=its.length/\s.heap.get? l=some { cls:=.type "list",data:=.seq its.toArray n }:=by
 obtain⟨z,its,n,r,e⟩:=I.aA l _ hH;exact⟨z,its,n,r,r.length,e⟩
theorem vM {n:Nat}(h:n<=sizeLine):Builtin.List.listTooLong n=false:=by
 unfold Builtin.List.listTooLong;exact decide_eq_false (by omega)
end
section
variable {X:Cx}
noncomputable def MO:V->Zv->Hp->VK->Prop:=λx vs H Q=>∃ l xs y,x=.ref l/\vs=[y]/\H l=some (.lst xs)/\xs.length<sizeLine/\Q .non (upd H l (.lst (xs++[y])))
theorem vN:jo X "list.append" MO:=by
 intro pins s σ H x vs v us Q I rx rv h;obtain⟨l,xs,y,rfl,rfl,hH,hz,q⟩:=h;cases rx;obtain⟨u,rfl,ru⟩:=rv.one;obtain⟨z,its,n,r,hl,e⟩:=I.iP hH;refine call_meets F.slot_list_append ⟨_,e,rfl⟩ F.entry_list_append (F.args_list_append_2 _ _) (PySem.list_append l its.toArray n u (by rw[size_toArray];omega)) ⟨e,?_⟩;refine⟨.non,_,I.oO (its':=its++[u]) hH e (by simp) (r.append (.cons ru .nil)) ?_,rfl,q⟩;rw[length_append,length_singleton];omega
noncomputable def MP:V->Zv->Hp->VK->Prop:=λx vs H Q=>∃ l b xs zs,x=.ref l/\vs=[.ref b]/\H l=some (.lst xs)/\H b=some (.lst zs)/\xs.length+zs.length<=sizeLine/\Q .non (upd H l (.lst (xs++zs)))
theorem MQ:jo X "list.extend" MP:=by
 intro pins s σ H x vs v us Q I rx rv h;obtain⟨l,b,xs,zs,rfl,rfl,hH,hB,hz,q⟩:=h;cases rx;obtain⟨u,rfl,ru⟩:=rv.one;cases ru;obtain⟨z,its,n,r,hl,e⟩:=I.iP hH;obtain⟨z2,fA,n2,r2,oP,e2⟩:=I.iP hB;have hsz:its.toArray.size+fA.toArray.size<=sizeLine:=by rw[size_toArray,size_toArray];omega
 have oQ:¬ (!its.toArray.isEmpty&&Builtin.List.listTooLong (its.toArray.size+fA.toArray.size))=true:=by
  rw[vM hsz,Bool.and_false];exact Bool.false_ne_true
 refine call_meets F.slot_list_extend ⟨_,e,rfl⟩ F.entry_list_extend (F.args_list_extend_2 _ _)
  (AutoSeq1.list_extend_list_list_0 l its.toArray n b fA.toArray n2 oQ (by rw[size_toArray];omega) (by omega)) ⟨e,e2,?_⟩
 refine⟨.non,_,I.oO (its':=its++fA) hH e (by simp) (r.append r2) ?_,rfl,q⟩;rw[length_append];omega
noncomputable def MR:V->Zv->Hp->VK->Prop:=λx vs H Q=>∃ l xs y,x=.ref l/\vs=[]/\H l=some (.lst xs)/\xs[xs.length-1]?=some y/\Q y (upd H l (.lst xs.dropLast))
theorem MS:jo X "list.pop" MR:=by
 intro pins s σ H x vs v us Q I rx rv h;obtain⟨l,xs,y,rfl,rfl,hH,hy,q⟩:=h;cases rx;have MT:=rv.zero;subst MT;obtain⟨z,its,n,r,hl,e⟩:=I.iP hH;obtain⟨u,hu,ru⟩:=r.get hy
 have MU:its.toArray[its.toArray.size-1]?=some u:=by
  show its.toArray[its.length-1]?=some u;rw[<- Array.getElem?_toList,<- hl];exact hu
 refine call_meets F.slot_list_pop ⟨_,e,rfl⟩ F.entry_list_pop (F.args_list_pop_1 _) (MeetsSeq.list_pop_last l its.toArray n u MU (by rw[size_toArray];omega)) ⟨e,?_⟩;refine⟨y,_,I.oO (its':=its.dropLast) hH e ?_ r.dropLast ?_,ru,q⟩
 ·show its.toArray.eraseIdxIfInBounds (its.toArray.size-1)=its.dropLast.toArray;rw[size_toArray,eraseIdxIfInBounds_toArray,MN]
 ·rw[length_dropLast];omega
noncomputable def MV:V->Zv->Hp->VK->Prop:=λx vs H Q=>∃ l xs i k y,x=.ref l/\vs=[.int i]/\H l=some (.lst xs) /\ -(2 ^ 63)<=i/\i<2 ^ 63/\seqIndex? i xs.length=some k/\xs[k]?=some y/\Q y (upd H l (.lst (xs.eraseIdx k)))
theorem MW:jo X "list.pop" MV:=by
 intro pins s σ H x vs v us Q I rx rv h;obtain⟨l,xs,i,k,y,rfl,rfl,hH,h1,h2,hk,hy,q⟩:=h;cases rx;obtain⟨u,rfl,ru⟩:=rv.one;obtain⟨t,rfl⟩:=ru;obtain⟨z,its,n,r,hl,e⟩:=I.iP hH;obtain⟨w,hw,dJ⟩:=r.get hy
 refine call_meets F.slot_list_pop ⟨_,e,rfl⟩ F.entry_list_pop (F.args_list_pop_2 _ _)
  (MeetsSeq.list_pop_at l its.toArray n i t k w (fitsIndex_both h1 h2) (by rw[size_toArray,<- hl];exact hk) (by rw[<- Array.getElem?_toList];exact hw) (by rw[size_toArray];omega)) ⟨e,?_⟩
 refine⟨y,_,I.oO (its':=its.eraseIdx k) hH e ?_ (r.eraseIdx k) ?_,dJ,q⟩
 ·show its.toArray.eraseIdxIfInBounds k=(its.eraseIdx k).toArray;rw[eraseIdxIfInBounds_toArray]
 ·have:=BX xs k;omega
noncomputable def vO:R2:=λx y H Q=>∃ l b xs zs,x=.ref l/\y=.ref b/\H l=some (.lst xs)/\H b=some (.lst zs)/\xs.length+zs.length<=sizeLine/\∀ p,H p=none->Q (.ref p) (upd H p (.lst (xs++zs)))
theorem BY:bz X (binaryOp .Add) vO:=by
 intro pins s σ H x y v u Q I rx ry h;obtain⟨l,b,xs,zs,rfl,rfl,hH,hB,hz,q⟩:=h;cases rx;cases ry;obtain⟨z,its,n,r,hl,e⟩:=I.iP hH;obtain⟨z2,fA,n2,r2,oP,e2⟩:=I.iP hB;refine PySem.P.add_list e e2 ?_ (by rw[size_toArray,size_toArray];omega);have ea:its.toArray++fA.toArray=(its++fA).toArray:=by simp
 rw[ea];exact⟨.ref _,_,I.vL (t':=s.toks) (r.append r2) (by rw[length_append];omega),rfl,q _ I.fresh⟩
noncomputable def rg:R2:=λx y H Q=>∃ l k xs,x=.ref l/\y=.int k/\H l=some (.lst xs) /\ -(2 ^ 63)<=k/\k<2 ^ 63/\xs.length*k.toNat<=sizeLine /\
 ∀ p,H p=none->Q (.ref p) (upd H p (.lst (replicate k.toNat xs).flatten))
theorem len_rep {α:Type}(xs:List α)(k:Nat):(replicate k xs).flatten.length=k*xs.length:=by
 induction k with
 |zero=>simp
 |succ k ih=>rw[replicate_succ,flatten_cons,length_append,ih,Nat.succ_mul,Nat.add_comm]
theorem MX:bz X (binaryOp .Mult) rg:=by
 intro pins s σ H x y v u Q I rx ry h;obtain⟨l,k,xs,rfl,rfl,hH,h1,h2,hz,q⟩:=h;cases rx;obtain⟨t,rfl⟩:=ry;obtain⟨z,its,n,r,hl,e⟩:=I.iP hH;have hlen:its.toArray.size*k.toNat<=sizeLine:=by rw[size_toArray,<- hl];exact hz
 have MY:¬ its.toArray.size*k.toNat > (2 ^ 63-1) / 8:=by
  have:(sizeLine:Nat)<=(2 ^ 63-1) / 8:=by decide
  omega
 have MZ:¬ (!Builtin.List.listFitsIndex k)=true:=by
  rw[fitsIndex_both h1 h2];exact Bool.false_ne_true
 have oQ:¬ Builtin.List.listTooLong (its.toArray.size*k.toNat)=true:=by
  rw[vM hlen];exact Bool.false_ne_true
 have M0:foldl (λx1 x2=>x1++x2) #[] (replicate (if its.toArray.isEmpty=true then 0 else k.toNat) its.toArray)=(replicate k.toNat its).flatten.toArray:=by
  have f0:∀ m:Nat,foldl (λx1 x2=>x1++x2) #[] (replicate m its.toArray)=(replicate m its).flatten.toArray:=λm=>by
   have:=foldl_rep its m [];rw[nil_append] at this;exact this
  rw[f0]
  cases its with
  |nil=>simp
  |cons a r'=>rw[if_neg (by simp)]
 refine wpAny_binaryOp_repeat_ref (T:="list") (U:="int") (by decide) ⟨_,e,rfl⟩ (λs'=>typeIs_int s' k t) noFill_list_mul F.fills_int_mul F.slot_int_rmul repeat_list F.slot_int_index.lookup
  (call_meets F.slot_int_rmul (typeIs_int s k t) F.entry_int_rmul (F.args_int_rmul_2 _ _) (int___rmul___int_list k t l its.toArray n)
   ⟨e,rfl,⟨_,e,rfl⟩,call_meets F.slot_list_mul ⟨_,e,rfl⟩ F.entry_list_mul (F.args_list_mul_2 _ _) (AutoListH.list___mul___list_int_3 l its.toArray n k t MZ MY oQ) ⟨e,?_⟩⟩)
 rw[M0];exact⟨.ref _,_,I.vL (t':=s.toks) (r.rep k.toNat) (by rw[len_rep,Nat.mul_comm];exact hz),rfl,q _ I.fresh⟩
end
section
variable {prog:Program}{w:World}{A:Around}{E:aG}{s:Shared}
set_option maxRecDepth 100000 in
end
section
variable {X:Cx}
end
end L2
namespace BZ
open PySem PySem.W PySem.Calls PyProof.Rows
theorem M4 {P:Params}{h:Heap}:∀(ns:List Int)(vs:aC),WellAll P h vs (ns.map WData.int)->IntsAre vs ns:=by
 intro ns
 induction ns with
 |nil=>
  intro vs w;rw[map_nil] at w;cases w;exact .nil
 |cons n ns ih=>
  intro vs w;rw[map_cons] at w
  cases w with
  |cons a b=>
   cases a;exact .cons _ _ (ih _ b)
theorem M5 {l:OpenLaw}{n:Nat}(hn:l.most=some n){P:Params}{h:Heap}{args:List WData}{vals:aC}
  (rh:l.row.toRowW.claim.pre args=true)(vP:WellAll P h vals args) :
  ∃ a vs ns,vals=[Value.ref a]/\args=[WData.list (ns.map WData.int)]/\h.get? a=some { cls:=.type "list",data:=.seq vs.toArray }/\IntsAre vs ns/\ns.length<=n:=by
 have vQ:WShape.hasAll [] args [.list .int]=true:=(pre_splitW rh).1;have hc:l.pre.holds [] { args:=args }=true:=(pre_splitW rh).2;obtain⟨d,r,rfl,h1,h2⟩:=hasAllW_cons vQ;obtain rfl:=hasAllW_nil h2;obtain⟨xs,rfl,h3⟩:=hasW_list h1;obtain⟨ns,rfl⟩:=items_int h3
 have hlen:ns.length<=n:=by
  unfold OpenLaw.pre at hc
  have h4:(WTm.not (.lt (.lit (.int (n:Int))) (.len (.arg 0)))).holds [] { args:=[.list (ns.map .int)] }=true:=by
   have h4:=(holds_andW hc).1;rw[hn] at h4;exact h4
  have h5:=condW_of h4 (w_not (w_lt w_lit (w_len_list (w_arg rfl))));rw[length_map] at h5;refine Nat.le_of_not_lt λq=>?_;have q':(n:Int)<((ns.length:Nat):Int):=by omega
  first
   |(rw[decide_eq_true q'] at h5;exact absurd h5 (by decide))
   |(simp at h5;omega)
 cases vP with
 |cons w1 w2=>
  cases w2
  cases w1 with
  |list ho vD=>exact⟨_,_,ns,rfl,rfl,ho,M4 ns _ vD,hlen⟩
theorem M6 (l:OpenLaw)(args:List WData):l.row.toRowW.claim.post args (.bool true) args=true:=
 postW_of (r:=l.row.toRowW) (X:=(true==true))
  (show WShape.has [] (.bool true) .bool=true by first|rfl|decide|simp [WShape.has,WShape.arms,WShape.armsAll])
  (show(WTm.eq .res (.lit (.bool true))).value [] { args:=args,res:=some (.bool true),after:=args }=some (.bool (true==true)) from w_eq_bool (w_res rfl) w_lit) rfl
theorem M7 {l:OpenLaw}{n:Nat}{q:Program}{loose:aq}{XP:(a0)->Heap->Prop}{YP:World->Heap->Prop}{d:DefRec}
  (hn:l.most=some n)(oR:d.params.defaults=[])
  (call:∀(w:World)(c8 aU:Shared)(mg mb:a0)(fa:Addr)(o:Obj)(pm cd doc:Value)(a:Addr)(vs:aC)(ns:List Int),
   Ground q loose [] XP w c8 mg mb aU.heap->YP w aU.heap ->
   aU.heap.get? fa=some o->o.data=.func (docDef d.name d.params d.body d.scope pm cd doc)->aU.heap.CodeRec cd d.name->mg d.name=some (.ref fa) ->
   aU.heap.get? a=some { cls:=.type "list",data:=.seq vs.toArray }->IntsAre vs ns->ns.length<=n->aU.gens=#[] ->
   codeAny (model l.prog w) callerA (.call (.ref fa) ⟨[.ref a],[]⟩) (λr s'=>r=.ok (.ret (.bool true))/\OldK aU.heap s'.heap/\s'.os=aU.os/\AllBare s'.gens) aU) :
  WalkO q loose XP YP l.row.toRowW d [] (λf vs=>PySem.call f vs):=by
 intro w c8 aU mg mb G Y fa o pm cd doc dV kV ho hd bK hD oS hg args vals as rh ZM ZN vP ZO;obtain rfl:dV=.none:=Dflts.none hD oR;obtain rfl:kV=.none:=Dflts.noKw hD;obtain⟨a,vs,ns,rfl,rfl,vR,hints,hlen⟩:=M5 hn rh vP;refine enter_call (codeAny_mono (call w c8 aU mg mb fa o pm cd doc a vs ns G Y ho (fd_plain hd) bK oS vR hints hlen hg) λr s' hq=>?_);obtain⟨rfl,h2,h3,h4⟩:=hq;exact⟨.inl ⟨.bool true,.bool true,[],rfl,λ_=>rfl,.bool true,M6 l _,λ_=>⟨Pairwise.nil,λ_ hm=>(nomatch hm)⟩⟩,h2,h3,h4⟩
section
variable {prog:Program}{w:World}{A:Around}{E:aG}{s:Shared}{K:Frag}
end
end BZ
namespace L2
open PySem PySem.Spec PyProof.Rows
theorem B0:∀{vs:aC}{ns:List Int},IntsAre vs ns->Vals (ns.map V.int) vs
 |_,_,.nil=>.nil
 |_,_,.cons n t h=>.cons ⟨t,rfl⟩ (B0 h)
noncomputable def mH (H:Hp):Prop:=∀ b,H b=none\/∃ o xs,H b=some (.bD o (.lst xs))
theorem M8 {P:Program}{w:World}{K:Frag}{mg mb:a0}{CX:fL}{k:Nat}{fa a:Addr}{fd:FuncData}{x:Str}{sp:Sp}{aU:Shared}{vs:aC}{ns:List Int}
  (KX:K.In aU.heap)(B1:aU.heap.Ns mainGlobals mg)(hb:aU.heap.Ns builtinsNs mb)(M9:∀ x:Str,x≠"__name__"->mb x=bootBuiltins x)(M_:aU.heap.NoLimit)(hg:aU.gens=#[])
  (ha:aU.heap.get? a=some { cls:=.type "list",data:=.seq vs.toArray })(hi:IntsAre vs ns)(hl:ns.length<=sizeLine)(hr:bP k callerA)
  (F:∀ base:Heap,K.In base->base.Ns mainGlobals mg->cU P w K mg base CX k fa fd [x] sp)(M':∀(s:Shared)(u:Value),BindsTo s fd ⟨[u],[]⟩ [(x,u)])
  (jX:∀ H:Hp,mH H->aN K H a (ns.map V.int)->sp [.ref a] H (λv _=>v=.bl true) λ_ _ _=>False)
  (vS:∀ H e s',CX [] H aU (λ_ _ _=>False) e s'->False) :
  codeAny (model P w) callerA (.call (.ref fa) ⟨[.ref a],[]⟩) (λr s'=>r=.ok (.ret (.bool true))/\OldK aU.heap s'.heap/\s'.os=aU.os/\AllBare s'.gens) aU:=by
 have rv:=B0 hi;have Na:=hi.length
 -- from an abstract heap in ZP nothing but the AJ may be tracked
 have core:∀ H:Hp,mH H->aN K H a (ns.map V.int)->cu P w H aU.heap->(∀ b,H b≠none->b=a)->(H a≠none->K.lookup a=none) ->
   codeAny (model P w) callerA (.call (.ref fa) ⟨[.ref a],[]⟩) (λr s'=>r=.ok (.ret (.bool true))/\OldK aU.heap s'.heap/\s'.os=aU.os/\AllBare s'.gens) aU:=by
  intro H hO hS aA hA hK;have B3:∀{b:Addr}{o:Obj},aU.heap.get? b=some o->H b=none->(jf aU.heap H).get? b=some o:=λe n=>Kc e n
  have oE:∀{b:Addr}{o:Obj}{es:Array DictEntry}{ep:Nat},aU.heap.get? b=some o->o.data=.dict es ep->H b=none:=λ{b o es ep} e d=>by
   cases q:H b with
   |none=>rfl
   |some u=>
    have e':b=a:=hA b (by rw[q];simp);subst e';rw[ha] at e;cases e;have d':Data.seq vs.toArray _=Data.dict es ep:=d;cases d'
  have rm:∀{b:Addr}{m:a0},aU.heap.Ns b m->(jf aU.heap H).Ns b m:=λ{b m} ⟨o,es,ep,e,d,r⟩=>⟨o,es,ep,B3 e (oE e d),d,r⟩
  have B4:K.In (jf aU.heap H):=λb o e=>B3 (KX b o e) (by
   cases q:H b with
   |none=>rfl
   |some u=>
    have e':b=a:=hA b (by rw[q];simp);subst e'
    rw[hK (by rw[q];simp)] at e;cases e)
  have hM:Mod K mg (jf aU.heap H):=⟨B4,rm B1,⟨mb,rm hb,M9⟩,let ⟨mc,h1,h2⟩:=M_;⟨mc,rm h1,h2⟩⟩;have e0:qM P w K mg (jf aU.heap H) callerA [] aU H:=⟨rfl,hM,λb o e=>Ke e,Nat.le_of_eq (Ka _ _),trivial,λb hb=>absurd (show b∈([]:List Addr) from hb) (by simp),aA,.of_eq hg⟩;refine codeAny_mono ((F _ B4 (rm B1)).run callerA [] aU H ⟨[.ref a],[]⟩ [.ref a] [.ref a] _ _ hr e0 (M' aU (.ref a)) (.cons rfl .nil) (jX H hO hS)) λr s' h=>?_
  cases r with
  |error e=>exact(vS H e s' h).elim
  |ok fl=>
   cases fl with
   |next=>exact False.elim h
   |brk=>exact False.elim h
   |cont=>exact False.elim h
   |ret u=>
    obtain⟨v,H',os,bare,un,Nb,r',q⟩:=h;have q':v=.bl true:=q;subst q';obtain rfl:u=Value.bool true:=r';refine⟨rfl,OldK.of_keep λb o e=>?_,os,bare⟩
    cases q:H b with
    |none=>exact un.keep b o e q (by intro z;exact absurd (show b∈([]:List Addr) from z) (by simp)) (by simp)
    |some u=>
     rcases hO b with z|⟨ob,xs,z⟩
     ·rw[q] at z;cases z
     ·have z2:=un.je b ob _ z;obtain⟨⟨e1,_⟩,_⟩:=aA b _ z;obtain⟨⟨e2,_⟩,_⟩:=Nb b _ z2;rw[e] at e1;cases e1;exact e2
 cases hk:K.lookup a with
 |some o=>
  -- the AJ is one of the ZQ own objects
  have e:=KX a o hk;rw[ha] at e;cases e;refine core (λ_=>none) (λ_=>.inl rfl) (.inr ⟨_,vs.toArray,_,hk,rfl,rfl,rfl,by rw[size_toArray,Na];exact hl,by simpa using rv⟩) (λb u z=>by have z':(none:Option HO)=some u:=z;cases z') (λb z=>absurd rfl z) λz=>absurd rfl z
 |none=>
  refine core (λb=>if b=a then some (.bD { cls:=.type "list",data:=.seq vs.toArray } (.lst (ns.map V.int))) else none) (λb=>?_) (.inl (.inr ⟨{ cls:=.type "list",data:=.seq vs.toArray },if_pos rfl⟩)) (λb u z=>?_) (λb z=>?_) λ_=>hk
  ·by_cases hb:b=a
   ·exact .inr ⟨_,_,if_pos hb⟩
   ·exact .inl (if_neg hb)
  ·by_cases hb:b=a
   ·have z':=(if_pos hb).symm.trans z;cases z';subst hb;exact⟨⟨ha,λ_ z=>nomatch z⟩,by rw[length_map];exact hl,vs,_,rv,ha⟩
   ·have z':=(if_neg hb).symm.trans z;cases z'
  ·by_cases hb:b=a
   ·exact hb
   ·exact absurd (if_neg hb) z
theorem Nc {l:PySem.W.OpenLaw}{n k:Nat}{q:Program}{loose:aq}{XP:(a0)->Heap->Prop}{YP:World->Heap->Prop}{d:DefRec}{K:Params->Frag}{CX:World->fL}{sp:World->Sp}{x:Str}
  (hn:l.most=some n)(B5:n<=sizeLine)(oR:d.params.defaults=[])(hr:bP k callerA)
  (hY:∀(w:World)(h:Heap),YP w h->(K w.params).In h)
  (F:∀(w:World)(mg:a0)(fa:Addr)(h:Heap),(K w.params).In h->h.Ns mainGlobals mg->mg d.name=some (.ref fa) ->
   ∃ fd:FuncData,(∀(s:Shared)(u:Value),BindsTo s fd ⟨[u],[]⟩ [(x,u)]) /\
    ∀ base:Heap,(K w.params).In base->base.Ns mainGlobals mg->cU l.prog w (K w.params) mg base (CX w) k fa fd [x] (sp w))
  (jX:∀(w:World)(H:Hp)(a:Addr)(ns:List Int),ns.length<=n->mH H->aN (K w.params) H a (ns.map V.int)->sp w [.ref a] H (λv _=>v=.bl true) λ_ _ _=>False)
  (vS:∀(w:World)(H:Hp)(s:Shared)(e:Value)(s':Shared),CX w [] H s (λ_ _ _=>False) e s'->False) :
  PySem.W.WalkO q loose XP YP l.row.toRowW d [] (λf vs=>PySem.call f vs):=by
 refine BZ.M7 hn oR λw c8 aU mg mb fa o pm cd doc a vs ns G Y ho hd bK oS vR hints hlen hg=>?_;have KX:=hY w _ Y;obtain⟨fd,hb,hF⟩:=F w mg fa _ KX G.T.g oS;exact M8 KX G.T.g G.T.b G.T.builtins G.T.nolimit hg vR hints (aP hlen B5) hr hF hb (λH hO hS=>jX w H a ns hlen hO hS) λH e s'=>vS w H aU e s'
noncomputable def iQ (s:Stmt):Arguments:=match s with
 |.FunctionDef _ a _ _ _ _ _ _ _ _=>a
 |_=>{ posonlyargs:=[],args:=[],vararg:=none,kwonlyargs:=[],kw_defaults:=[],kwarg:=none,defaults:=[] }
noncomputable def fB (s:Stmt):List Stmt:=match s with
 |.FunctionDef _ _ b _ _ _ _ _ _ _=>b
 |_=>[]
noncomputable def aX (s:Stmt):Scope:=match s with
 |.FunctionDef _ _ _ _ _ _ sc _ _ _=>sc
 |_=>{ kind:=.function,names:=[],isGenerator:=false,isCoroutine:=false }
noncomputable abbrev du:fL:=λ_ _ _ _ _ _=>False
noncomputable abbrev E0:XK:=λ_ _ _=>False
theorem lh {X:Cx}:Passes du X E0:=λ_ _ _ _ _ _ _ h=>h.elim
structure fD (K:Frag)(x qual:Str)(st:Stmt)(f:Addr)(fd:FuncData):Prop where
 ex:∃(oc:Value)(od:Option Addr)(kV doc pm:Value)(an:Option Addr)(aE ct:Value)(jk:Array (Option Value)),
  fd=PySem.W.fnOf x qual (iQ st) (fB st) (aX st) .none kV doc pm an aE ct/\K.lookup f=some ⟨oc,od,.func fd,jk⟩/\PySem.W.codeIn K aE qual=true
 kp:PySem.W.keepIn K (.ref f)=true
section
variable {P:Program}{w:World}{K:Frag}{mg:a0}{base:Heap}
theorem fD.ok {x qual:Str}{st:Stmt}{f:Addr}{fd:FuncData}{N ps:aq}{k:Nat}{sp:Sp}(F:fD K x qual st f fd)(S:bx N ps (aX st))(len:∀ vs H Q E,sp vs H Q E->vs.length=ps.length)
  (hJ:∀(aE:Value)(A:Around)(outer:List Env)(s:Shared)(H:Hp)(vs:Zv)(Q:VK)(E:XK),bP k (A.deeper (envOfC qual (aX st) s.heap.objs.size f aE))->sp vs H Q E ->
   ∃ t,cx (iM du P w K mg base N qual (aX st) f aE A outer s H E).jO (fB st) t/\t { nx:=λ_ H'=>Q .non H',rt:=Q } (start N vs) H):cU P w K mg base du (k+1) f fd ps sp:=by
 obtain⟨oc,od,kV,doc,pm,an,aE,ct,jk,rfl,lk,bK⟩:=F.ex;refine L1 lk bK S len λA outer s H vs Q E hr jX=>?_;obtain⟨t,h,q⟩:=hJ aE A outer s H vs Q E hr jX;exact⟨t,h.jO,q⟩
theorem fD.binds {x qual:Str}{st:Stmt}{f:Addr}{fd:FuncData}{ps:aq}(F:fD K x qual st f fd)
  (h:∀(kV doc pm:Value)(an:Option Addr)(aE ct:Value)(us:aC),us.length=ps.length->bindArgs (PySem.W.fnOf x qual (iQ st) (fB st) (aX st) .none kV doc pm an aE ct) ⟨us,[]⟩=pure (ps.zip us)):Binds K fd ps []:=by
 obtain⟨oc,od,kV,doc,pm,an,aE,ct,jk,rfl,lk,bK⟩:=F.ex;exact .all (h kV doc pm an aE ct)
theorem Nd {x qual:Str}{st:Stmt}{f:Addr}{oc:Value}{od an:Option Addr}{jk:Array (Option Value)}{kV doc pm aE ct:Value}(l:K.lookup f=some ⟨oc,od,.func (PySem.W.fnOf x qual (iQ st) (fB st) (aX st) .none kV doc pm an aE ct),jk⟩)
  (c:PySem.W.codeIn K aE qual=true)(k:PySem.W.keepIn K (.ref f)=true):fD K x qual st f (PySem.W.fnOf x qual (iQ st) (fB st) (aX st) .none kV doc pm an aE ct):=⟨⟨oc,od,kV,doc,pm,an,aE,ct,jk,rfl,l,c⟩,k⟩
end
theorem gB {A:Around}{k:Nat}(hr:bP k A):A.units+1<cLine:=Nat.lt_of_le_of_lt (Nat.add_le_add_left (by decide:1<=64) _) hr.units
theorem jq {n:Nat}(h:n<=1000):n<sizeLine:=Nat.lt_of_le_of_lt h (by decide)
section
variable {X:Cx}
theorem pv (i:Nat){x:Str}{pos:Pos}(hN:X.N[i]?=some x:=by rfl)(hv:dj X.env.scope x:=by walk_at "v")(hd:(x==("__debug__":Str))=false:=by decide)
  (bK:(x==("__classdict__":Str))=false:=by decide):PE X (.Name x pos) (A7 i):=dZ hN hv hd bK
end
theorem lj {A B:Prop}(h:B):if false=true then A else B:=by
 rw[if_neg Bool.false_ne_true];exact h
theorem lq {A B:Prop}(h:A):if true=true then A else B:=by
 rw[if_pos rfl];exact h
theorem oT {c A B:Prop} [Decidable c] (h1:c->A)(h2:¬ c->B):if c then A else B:=by
 by_cases h:c
 ·rw[if_pos h];exact h1 h
 ·rw[if_neg h];exact h2 h
noncomputable def aS (H H':Hp):Prop:=∀ b o,H b=some o->H' b=some o
theorem aS.refl (H:Hp):aS H H:=λ_ _ h=>h
section
variable {κ:Type} [DecidableEq κ]
theorem Nf {kvs:List (κ×V)}{k:κ}{v:V}(h:dq kvs k=some v):k∈kvs.map (·.1):=by
 have q:(kvs.any λkv=>decide (kv.1=k))=true:=by
  rw[mB,h]
  all_goals rfl
 obtain⟨p,hp,e⟩:=any_eq_true.mp q;exact mem_map.mpr ⟨p,hp,of_decide_eq_true e⟩
end
noncomputable def f_ (k:Nat)(ix:List Nat)(σ:St):St:=replicate k none++ix.map λj=>(σ[j]?).join
section
variable {σ:St}{k:Nat}{ix:List Nat}
theorem Ng {i:Nat}{v:V}(h:(f_ k ix σ)[i]?=some (some v)):∃ i' j,i=k+i'/\ix[i']?=some j/\σ[j]?=some (some v):=by
 unfold f_ at h;by_cases hi:i<k
 ·rw[getElem?_append_left (by simpa using hi),getElem?_replicate,if_pos hi] at h;cases h
 ·rw[getElem?_append_right (by simpa using (Nat.le_of_not_lt hi)),length_replicate,getElem?_map] at h
  cases e:ix[i-k]? with
  |none=>rw[e] at h;cases h
  |some j=>
   rw[e] at h;have h2:(σ[j]?).join=some v:=Option.some.inj h;refine⟨i-k,j,by omega,e,?_⟩
   cases e2:σ[j]? with
   |none=>rw[e2] at h2;cases h2
   |some o=>rw[e2] at h2;exact congrArg some h2
end
noncomputable def ia (X:Cx)(ifs:List Expr)(t:TT):Prop:=
 ∀(pins:aO)(s:Shared)(σ:St)(H:Hp)(Q:Bool->Hp->Prop),Inv X pins σ H s->t σ H Q ->
  wpAny (model X.prog X.w) X.A (forIn ifs true λc r=>if r=true then do let ok <- isTrue c X.env (eval c X.env);pure (ForInStep.yield ok) else pure (ForInStep.yield r)) (TP X pins σ Q) X.xe s
noncomputable def Nh:TT:=λ_ H Q=>Q true H
theorem Ni {X:Cx}:ia X [] Nh:=λ_ _ _ H _ I h=>wpAny_tests_nil ⟨H,I,h⟩
theorem Nj {X:Cx}{c:Expr}{t:TT}(h:PT X c t):ia X [c] t:=λpins s σ H Q I q=>wpAny_tests_one (h pins s σ H Q I q)
noncomputable def oU (J:It)(g:TG)(tI:TT)(te:TE)(acc:Addr)(Q:VK)(σ:St)(H:Hp):Prop:=
 ∃ W:Nat->Nat->St->Hp->Prop,(∃ m,W 0 m σ H)/\∀ i m aH H',W i m aH H' ->
  (J.stop i H'/\Q (.ref acc) H')\/(J.go i H'/\∃ N:St->Hp->Prop,(∀ bH H2,N bH H2->∃ m',m'<m/\W (i+1) m' bH H2) /\
   ∀ x H2,J.fK i H' x H2->g x aH H2 λcL H3=>tI cL H3 λb H4=>if b=true then te cL H4 λy H5=>∃ ys,H5 acc=some (.lst ys)/\ys.length<sizeLine/\N cL (upd H5 acc (.lst (ys++[y]))) else N cL H4)
noncomputable def Nk (k:Nat)(ix:List Nat)(wi:TI)(g:TG)(tI:TT)(te:TE):TE:=λσ H Q=>wi σ H λJ H1=>∀ acc,H1 acc=none->oU J g tI te acc Q (f_ k ix σ) (upd H1 acc (.lst []))
noncomputable def Nl (i k:Nat)(ix:List Nat)(wi:TI)(g:TG)(tI:TT)(te:TE):TS:=λD σ H=>wi σ H λJ H1=>∀ acc,H1 acc=none->oU J g tI te acc (λv H2=>D.nx (σ.set i (some v)) H2) (f_ k ix σ) (upd H1 acc (.lst []))
section
variable {X:Cx}
theorem vT:bz X (binaryOp .FloorDiv) (rI (λ_ j=>0<j/\j<2 ^ 200) λi j=>.int (i / j)):=oA λi j _ _ _ _ _ hc q=>by
 have h1:(0:Int)<j:=hc.1;have h2:j<2 ^ 200:=hc.2;have h3:j.natAbs<2 ^ 200:=by omega
 have h4:j.natAbs≠0:=by omega
 have h5:j.natAbs.log2<9000:=(Nat.log2_lt h4).mpr (dF h3 (Nat.pow_le_pow_right (by decide) (by decide)));exact floordiv_int (by omega) (by rw[Int.fdiv_eq_ediv_of_nonneg i (by omega)];exact q) (.inl (PyProof.noPylong_of_log2 h5))
theorem Nm:bz X (compareOp .LtE) (λx y H Q=>∃ i j,x=.str i/\y=.str j/\Q (.bl (!(decide (j.cps.toList<i.cps.toList)))) H):=by
 intro pins s σ H x y v u Q I rx ry h;obtain⟨i,j,rfl,rfl,q⟩:=h;obtain⟨t,rfl⟩:=rx;obtain⟨t',rfl⟩:=ry;exact P.le_str ⟨.bl _,H,I,rfl,q⟩
theorem rn:∀{ys:aq}{us:aC},Vals (ys.map V.str) us->StrsAre us ys
 |[],_,r=>by rw[map_nil] at r;cases r;exact .nil
 |y::ys,_,r=>by
  rw[map_cons] at r
  cases r with
  |cons h t=>
   obtain⟨k,rfl⟩:=h;exact .cons y k (rn t)
end
noncomputable def vU (x:Str):It:=⟨λi _=>i<x.cps.size,λi H y H'=>H'=H/\∃ c,x.cps[i]?=some c/\y=.str ⟨#[c]⟩,λi _=>x.cps.size<=i⟩
theorem Nn {P:Program}{w:World}{K:Frag}{tg:Expr}(it:Addr)(x:Str)(t:Tok):Turn P w K tg (vU x) [it] it (λi h=>h.IsStrIter it "str_ascii_iterator" x t i) where
 mem:=by simp
 obj:=λi h st b hb=>by
  have e:b=it:=by simpa using hb
  subst e;obtain⟨o,e,c,d⟩:=st;exact⟨o,e,λv z=>by rw[d] at z;cases z⟩
 keep:=λi h h' st k=>by
  obtain⟨o,e,c,d⟩:=st;exact⟨o,k it (by simp) o e,c,d⟩
 item:=by
  intro X hP hw hK hc i pins s σ H E I hf st hg;subst hP hw hK;obtain⟨f0,f1,f2,f3,f4,f5⟩:=hf it (by simp);have hx:x.cps[i]?=some x.cps[i]:=Array.getElem?_eq_getElem hg;refine wpAny_pyNext_ascii_item st hx λh' st' sb=>?_;have I1:Inv X pins σ H { s with heap:=h',toks:=s.toks+1 }:=I.turned (t':=s.toks+1) (λb o hb e=>(sb.2 b hb).trans e) f0 f1 f3 f4 f5;obtain⟨o,e,c,d⟩:=id st';exact⟨_,rfl,mz (s:={ s with heap:=h',toks:=s.toks+1 }) e c d (by decide) ⟨.str ⟨#[x.cps[i]]⟩,H,I1,⟨_,rfl⟩,⟨rfl,_,hx,rfl⟩,st',λb hb=>(hf b hb).1⟩⟩
 done:=by
  intro X hP hw hK hc i pins s σ H E I hf st hg;subst hP hw hK;obtain⟨f0,f1,f2,f3,f4,f5⟩:=hf it (by simp);exact wpAny_pyNext_ascii_end (I.ok.hd hc) st (Array.getElem?_eq_none hg) λh' eb=>⟨rfl,I.turned (t':=s.toks) (λb o hb e=>eb b o hb e) f0 f1 f3 f4 f5⟩
 self:=λA i s Q E st h=>by
  refine wpAny_pyIter_slot st.typeIs F.slot_str_ascii_iterator_iter (wpAny_call_entry F.slot_str_ascii_iterator_iter st.typeIs F.entry_str_ascii_iterator_iter ?_ (F.args_str_ascii_iterator_iter_1 _));show wpAny _ _ (ret (.ref it)) _ _ s;exact ao ⟨_,rfl,"str_ascii_iterator",_,st.typeIs,F.slot_str_ascii_iterator_next.lookup,h⟩
section
variable {X:Cx}
end
end L2
namespace HQ
open PySem PyProof.Rows PySem.SeqAt
section
open PySem.AutoSeq1 (wpAny_loadPart')
open PySem.MeetsSeq PySem.MeetsSeq2 PySem.MeetsSeq3
end
end HQ
namespace L2
open PySem PySem.Spec PyProof.Rows
section
variable {X:Cx}{pins:aO}{σ:St}{H:Hp}{s:Shared}
theorem B6 {A:Around}{x y:V}{u v:Value}(fx:lg x=true)(fy:lg y=true)(rx:RelV x u)(ry:RelV y v):SeqAt.EqAt A s u v (oK x y):=MG rx ry fx fy
theorem in1_units (A:Around):A.in1.units=A.units+1:=rfl
theorem Np {A:Around}{R:V->V->Bool->Prop}{xs ys:Zv}{us vs:aC}{e:Nat->Bool}(r1:Vals xs us)(r2:Vals ys vs)(he:∀(j:Nat)(x y:V),xs[j]?=some x->ys[j]?=some y->R x y (e j))
  (hR:∀ x y b u v,R x y b->RelV x u->RelV y v->SeqAt.EqAt A s u v b):∀ j (h1:j<us.toArray.size)(h2:j<vs.toArray.size),SeqAt.EqAt A s us.toArray[j] vs.toArray[j] (e j):=λj h1 h2=>by
 have l1:=r1.length;have l2:=r2.length;have j6:j<us.length:=by simpa using h1
 have vV:j<vs.length:=by simpa using h2
 obtain⟨u,hu,ru⟩:=r1.get (i:=j) (x:=xs[j]'(by omega)) (cg _);obtain⟨v,hv,rv⟩:=r2.get (i:=j) (x:=ys[j]'(by omega)) (cg _)
 have eu:us.toArray[j]=u:=by
  rw[cg j6] at hu;simpa using Option.some.inj hu
 have ev:vs.toArray[j]=v:=by
  rw[cg vV] at hv;simpa using Option.some.inj hv
 rw[eu,ev];exact hR _ _ _ _ _ (he j _ _ (cg _) (cg _)) ru rv
end
end L2
namespace HZ
open PySem PyProof.Rows
section
variable {prog:Program}{w:World}{A:Around}{E:aG}{s:Shared}
theorem Nq {j t:Addr}{i:Nat}{its:Array Value}{x:Value}{Q:aG}(st:s.heap.IsTupleIter j t i)(ht:s.heap.IsTuple t its)(hx:its[i]?=some x)
  (hQ:∀ h',h'.IsTupleIter j t (i+1)->Heap.SameBut j s.heap h'->Q x { s with heap:=h' }):wpAny (model prog w) A (Builtin.SmallTypes.nextOf (.ref j)) Q E s:=by
 obtain⟨o1,e1,c1,d1⟩:=id st;obtain⟨o2,e2,_,n2,d2⟩:=ht;unfold Builtin.SmallTypes.nextOf;refine af (wpAny_callSpecial?_slot (name:=Str.ofString "__next__") st.typeIs PySem.F.slot_tuple_iterator_next (wpAny_call_entry PySem.F.slot_tuple_iterator_next st.typeIs PySem.F.entry_tuple_iterator_next ?_ (PySem.F.args_tuple_iterator_next_1 _)));show wpAny _ _ (field (.ref j) 0 >>= _) _ _ s;refine af (wpAny_field e1 d1 (x:=.ref t) rfl ?_);show wpAny _ _ (if (Value.ref t==Value.none)=true then _ else _) _ _ s;rw[if_neg (show ¬ ((Value.ref t==Value.none)=true) from Bool.false_ne_true)];show wpAny _ _ (field (.ref j) 1 >>= _) _ _ s;refine af (wpAny_field e1 d1 (x:=.int i 0) rfl ?_);show wpAny _ _ (seqItems? (.ref t) >>= _) _ _ s;refine af (wpAny_seqItems e2 d2 ?_);simp only[Int.toNat_natCast,hx];refine af (wpAny_setField e1 d1 (by simp) (ao ⟨x,rfl,ao (hQ _ ?_ (Heap.SameBut.update ..))⟩));exact⟨_,Heap.get?_update_self _ e1 (Obj.isFreed_of_fields (Obj.data_mapFields d1 _)),(Obj.cls_mapFields ..).trans c1,by rw[Obj.data_mapFields d1];simp [rawInt]⟩
theorem Nr {j t:Addr}{i:Nat}{its:Array Value}{Q:aG}(hh:A.handled=none)(st:s.heap.IsTupleIter j t i)(ht:s.heap.IsTuple t its)(hx:its[i]?=none)
  (hE:∀ h' e,Heap.ExtBut j s.heap h'->(∃ o,h'.get? e=some o/\o.cls=.type "StopIteration")->E (.ref e) { s with heap:=h' }):wpAny (model prog w) A (Builtin.SmallTypes.nextOf (.ref j)) Q E s:=by
 obtain⟨o1,e1,c1,d1⟩:=id st;obtain⟨o2,e2,_,n2,d2⟩:=ht;unfold Builtin.SmallTypes.nextOf;refine af (wpAny_callSpecial?_slot (name:=Str.ofString "__next__") st.typeIs PySem.F.slot_tuple_iterator_next (wpAny_call_entry PySem.F.slot_tuple_iterator_next st.typeIs PySem.F.entry_tuple_iterator_next ?_ (PySem.F.args_tuple_iterator_next_1 _)));show wpAny _ _ (field (.ref j) 0 >>= _) _ _ s;refine af (wpAny_field e1 d1 (x:=.ref t) rfl ?_);show wpAny _ _ (if (Value.ref t==Value.none)=true then _ else _) _ _ s;rw[if_neg (show ¬ ((Value.ref t==Value.none)=true) from Bool.false_ne_true)];show wpAny _ _ (field (.ref j) 1 >>= _) _ _ s;refine af (wpAny_field e1 d1 (x:=.int i 0) rfl ?_);show wpAny _ _ (seqItems? (.ref t) >>= _) _ _ s;refine af (wpAny_seqItems e2 d2 ?_);simp only[Int.toNat_natCast,hx];refine af (wpAny_rule (af (wpAny_setField e1 d1 (by simp) ?_)));show wpAny _ _ (newExc (.type "StopIteration") [] >>= _) _ _ _;refine af ?_;simp only[newExc,newTuple];refine af (wpAny_newObj_type ?_ (by size_fits));refine af (m:=firstArgMember _ _) (wpAny_of_eq (a:=Value.none) (by first|rfl|(simp only[firstArgMember];rfl)) ?_);refine wpAny_newObj_type ?_ (by size_fits);simp only[raiseNew];refine af (wpAny_handled ?_);first|rw[show A.in1.handled=none from hh]|rw[hh]
 refine af (ao (wpAny_throw ?_));exact hE _ _ (((Heap.SameBut.update ..).extBut.push _).push _) ⟨_,b7 _ rfl,rfl⟩
noncomputable abbrev oV (h:Heap)(l1:Addr):Heap:=h.push { cls:=.type "tuple_iterator",data:=.fields #[.ref l1,.int 0 0] }
end
end HZ
namespace L2
open PySem PySem.Spec PyProof.Rows
theorem gD {α:Type}{P:List α->Prop}(h:∀ a,P [a]):∀ us,us.length=1->P us:=λus e=>by
 match us,e with
 |[a],_=>exact h a
theorem fg {α:Type}{P:List α->Prop}(h:∀ a b,P [a,b]):∀ us,us.length=2->P us:=λus e=>by
 match us,e with
 |[a,b],_=>exact h a b
theorem fM {α:Type}{P:List α->Prop}(h:∀ a b c,P [a,b,c]):∀ us,us.length=3->P us:=λus e=>by
 match us,e with
 |[a,b,c],_=>exact h a b c
theorem j7 {α:Type}{P:List α->Prop}(h:∀ a b c d,P [a,b,c,d]):∀ us,us.length=4->P us:=λus e=>by
 match us,e with
 |[a,b,c,d],_=>exact h a b c d
theorem Nt {α:Type}{P:List α->Prop}(h:∀ a b c d e,P [a,b,c,d,e]):∀ us,us.length=5->P us:=λus e=>by
 match us,e with
 |[a,b,c,d,e],_=>exact h a b c d e
section
variable {κ:Type} [DecidableEq κ]
theorem Nu {kvs:List (κ×V)}{k:κ}(h:¬ k∈kvs.map (·.1)):dq kvs k=none:=by
 cases e:dq kvs k with
 |none=>rfl
 |some v=>exact absurd (Nf e) h
theorem vW:∀{ks:List κ}{vs:Zv}{i:Nat}{k:κ}{v:V},ks.Nodup->ks[i]?=some k->vs[i]?=some v->dq (ks.zip vs) k=some v
 |[],_,_,_,_,_,hk,_=>by simp at hk
 |_::_,[],_,_,_,_,_,hv=>by simp at hv
 |a::ks,b::vs,0,k,v,nd,hk,hv=>by
  simp at hk hv;subst hk hv;exact oF (p:=(a,b)) rfl
 |a::ks,b::vs,i+1,k,v,nd,hk,hv=>by
  have iR:ks[i]?=some k:=by simpa using hk
  have bL:¬ (a=k):=λe=>by
   subst e;exact(nodup_cons.mp nd).1 (mem_of_getElem? iR)
  show dq ((a,b)::ks.zip vs) k=some v;rw[oG (p:=(a,b)) bL];exact vW (nodup_cons.mp nd).2 iR (by simpa using hv)
theorem B7:∀{ks:List κ}{vs:Zv}{i:Nat}{k:κ}(v:V),ks.Nodup->ks[i]?=some k->vs.length=ks.length->(ks.zip vs).map (λkv=>if kv.1=k then (kv.1,v) else kv)=ks.zip (vs.set i v)
 |[],_,_,_,_,_,hk,_=>by simp at hk
 |_::_,[],_,_,_,_,_,hl=>by simp at hl
 |a::ks,b::vs,0,k,v,nd,hk,hl=>by
  simp at hk;subst hk;show(if a=a then (a,v) else (a,b))::(ks.zip vs).map _=(a,v)::ks.zip vs;rw[if_pos rfl]
  congr 1
  have:∀ kv∈ks.zip vs,(if kv.1=a then (kv.1,v) else kv)=kv:=λkv hm=>by
   rw[if_neg λe=>(nodup_cons.mp nd).1 (by rw[<- e];exact(of_mem_zip (a:=kv.1) (b:=kv.2) hm).1)]
  conv=>rhs;rw[<- map_id (ks.zip vs)]
  exact map_congr_left this
 |a::ks,b::vs,i+1,k,v,nd,hk,hl=>by
  have iR:ks[i]?=some k:=by simpa using hk
  have bL:¬ (a=k):=λe=>by
   subst e;exact(nodup_cons.mp nd).1 (mem_of_getElem? iR)
  show(if a=k then (a,v) else (a,b))::(ks.zip vs).map _=(a,b)::ks.zip (vs.set i v);rw[if_neg bL,B7 v (nodup_cons.mp nd).2 iR (by simpa using hl)]
theorem Nv {ks:List κ}{vs:Zv}{i:Nat}{k:κ}(v:V)(nd:ks.Nodup)(hk:ks[i]?=some k)(hl:vs.length=ks.length):putK (ks.zip vs) k v=ks.zip (vs.set i v):=by
 unfold putK;have hi:i<vs.length:=by rw[hl];exact(c7 hk).1
 have e:=vW (vs:=vs) (v:=vs[i]) nd hk (cg hi);rw[if_pos (by rw[mB,e];rfl),B7 v nd hk hl]
end
theorem B8:∀(more kvs:bj),((kvs++more).map (·.1)).Nodup->hV kvs more=kvs++more
 |[],kvs,_=>by rw[append_nil];rfl
 |p::r,kvs,nd=>by
  have hn:¬ p.1∈kvs.map (·.1):=λm=>by
   rw[map_append,map_cons] at nd;exact(nodup_append.mp nd).2.2 p.1 m p.1 mem_cons_self rfl
  show hV (putK kvs p.1 p.2) r=_;rw[L4 _ (Nu hn),B8 r _ (by rw[append_assoc];exact nd),append_assoc];rfl
noncomputable def cB (d:Addr)(H H':Hp):Prop:=∀ c o,H c=some o->c≠d->H' c=some o
theorem cB.refl (d:Addr)(H:Hp):cB d H H:=λ_ _ h _=>h
theorem cB.trans {d:Addr}{H H1 H2:Hp}(a:cB d H H1)(b:cB d H1 H2):cB d H H2:=λc o h n=>b c o (a c o h n) n
theorem cB.upd {d:Addr}{H H':Hp}(a:cB d H H')(o:HO):cB d H (L2.upd H' d o):=λc u h n=>by rw[a8 n];exact a c u h n
theorem cB.seq {K:Frag}{d:Addr}{H H':Hp}{a:Addr}{xs:Zv}{kvs:bj}(b:cB d H H')(hd:H d=some (.dK kvs))(h:aN K H a xs):aN K H' a xs:=by
 rcases h with (h|⟨o,h⟩)|h
 ·exact .inl (.inl (b _ _ h (u5 h hd (λz=>nomatch z))))
 ·exact .inl (.inr ⟨o,b _ _ h (u5 h hd (λz=>nomatch z))⟩)
 ·exact .inr h
theorem dM {H:Hp}{p:Addr}(h:H p=none)(o:HO):aS H (L2.upd H p o):=λb u q=>by rw[a8 (dG q h)];exact q
noncomputable def SK:List Key:=[.inr "script",.inr "at",.inr "left",.inr "way",.inr "names",.inr "parts",.inr "turn"]
theorem vX:SK.Nodup:=by decide +kernel
structure Bs where
 nm:Int
 pt:Int
 x:Str
 z:Int
 y:Int
 tb:Option (Addr×Array Value)
noncomputable def SV (a:Addr)(t l w:Int)(B:Bs):Zv:=[.ref a,.int t,.int l,.int w,.int B.nm,.int B.pt,.int B.z]
theorem fN {H:Hp}{d:Addr}{vs:Zv}{i:Nat}{x:Str}{v:V}(hd:H d=some (.dK (SK.zip vs)))(hk:SK[i]?=some (.inr x))(hv:vs[i]?=some v):fc H d (.str x) (some v):=by
 have g:=fc.k (k:=Sum.inr x) hd;rw[vW vX hk hv] at g;exact g
theorem dput {H:Hp}{d:Addr}{vs:Zv}{i:Nat}{x:Str}{v:V}(hd:H d=some (.dK (SK.zip vs)))(hl:vs.length=7)(hk:SK[i]?=some (.inr x)):iN H d (.str x) v (L2.upd H d (.dK (SK.zip (vs.set i v)))):=by
 have e:putK (SK.zip vs) (Sum.inr x) v=SK.zip (vs.set i v):=Nv v vX hk hl;have g:=iN.k (k:=Sum.inr x) (v:=v) hd (by rw[length_zip,hl];decide);rw[e] at g;exact g
structure cF (H:Hp)(d a:Addr)(n:Nat)(B:Bs):Prop where
 ex:∃(t l w:Int),H d=some (.dK (SK.zip (SV a t l w B)))/\1<=t/\t<=(n:Int)+64/\0<=l
 tb:∀ T o,B.tb=some (T,o)->H T=some (.g6 o)/\T≠d
theorem cF.dk {H:Hp}{d a:Addr}{n:Nat}{B:Bs}(h:cF H d a n B):∃ kvs,H d=some (.dK kvs):=by
 obtain⟨t,l,w,e,_⟩:=h.ex;exact⟨_,e⟩
theorem cF.same {H H':Hp}{d a:Addr}{n:Nat}{B:Bs}(h:cF H d a n B)(s:aS H H'):cF H' d a n B:=by
 obtain⟨t,l,w,e,r⟩:=h.ex;exact⟨⟨t,l,w,s _ _ e,r⟩,λT o z=>⟨s _ _ (h.tb T o z).1,(h.tb T o z).2⟩⟩
theorem cF.vY {H:Hp}{d a:Addr}{n:Nat}{B B':Bs}{o':HO}(h:cF H d a n B)(e:B'.tb=B.tb):∀ T o,B'.tb=some (T,o)->L2.upd H d o' T=some (.g6 o)/\T≠d:=λT o z=>by
 obtain⟨h1,h2⟩:=h.tb T o (e▸z);exact⟨by rw[a8 h2];exact h1,h2⟩
theorem cF.vZ {H H1:Hp}{d a:Addr}{n:Nat}{B B':Bs}(h:cF H d a n B)(b:cB d H H1)(e:B'.tb=B.tb):∀ T o,B'.tb=some (T,o)->H1 T=some (.g6 o)/\T≠d:=λT o z=>by
 obtain⟨h1,h2⟩:=h.tb T o (e▸z);exact⟨b _ _ h1 h2,h2⟩
noncomputable def rp (K:Frag)(H:Hp)(a:Addr):Prop:=∃ ns:List Int,aN K H a (ns.map V.int)/\ns.length<=63
noncomputable def j8 (K:Frag):Sp:=λvs H Q _=>∃(d a:Addr)(n:Nat)(B:Bs)(m:Int),vs=[.ref d,.int m]/\cF H d a n B/\rp K H a/\n<=100000/\0<m/\m<2 ^ 200 /\
 ∀(r:Int)(H':Hp),0<=r->r<m->cF H' d a (n+1) B->cB d H H'->Q (.int r) H'
theorem v7 {ns:List Int}{k:Int}(h0:0<=k)(h:k<(ns.length:Int)):∃ v:Int,cz (ns.map V.int) k=some (.int v):=by
 have hk:k.toNat<ns.length:=by omega
 have ek:k=((k.toNat:Nat):Int):=by omega
 have q:cz (ns.map V.int) ((k.toNat:Nat):Int)=some (.int ns[k.toNat]):=Mw (by rw[getElem?_map,cg hk]<;>rfl);rw[<- ek] at q;exact⟨_,q⟩
noncomputable def fE (env:Env):List (Str×NameKind)->List (Str×Addr)->List (Str×Addr)
 |[],acc=>acc
 |(n,k)::r,acc=>if (k==NameKind.free)=true then fE env r ((n,(env.cells.lookup n).getD 0)::acc) else fE env r acc
theorem v8 {env:Env}:∀(names:List (Str×NameKind))(acc:List (Str×Addr)),(∀ y∈names,y.2=.free->∃ c,env.cells.lookup y.1=some c) ->
  (forIn (m:=Sem) names acc λx cs=>match x with|(name,kind)=>if (kind==NameKind.free)=true then (do let c <- cellOf env name;pure (ForInStep.yield ((name,c)::cs))) else pure (ForInStep.yield cs))=pure (fE env names acc)
 |[],acc,_=>rfl
 |(n,k)::r,acc,h=>by
  rw[forIn_cons];by_cases hk:(k==NameKind.free)=true
  ·obtain⟨c,hc⟩:=h (n,k) mem_cons_self (by simpa using hk)
   have e:cellOf env n=pure c:=by
    unfold cellOf;rw[hc]
   have z:=v8 r ((n,c)::acc) λy hy=>h y (mem_cons_of_mem _ hy);unfold fE;rw[if_pos hk,hc];simp only[hk,if_true,e];exact z
  ·have z:=v8 r acc λy hy=>h y (mem_cons_of_mem _ hy);unfold fE;rw[if_neg hk];simp only[hk];exact z
theorem Nw {sc:Scope}{env:Env}(h:∀ y∈sc.names,y.2=.free->∃ c,env.cells.lookup y.1=some c):closureFor sc env=pure (fE env sc.names []):=by
 have z:=v8 sc.names [] h;simp only[closureFor]
 first
  |(rw[z];rfl)
  |exact z
theorem v9 {env:Env}:∀(names:List (Str×NameKind))(acc:List (Str×Addr)),(∀ y∈names,y.2=.free->∃ c,env.cells.lookup y.1=some c)->(∀ p∈acc,env.cells.lookup p.1=some p.2)->∀ p∈fE env names acc,env.cells.lookup p.1=some p.2
 |[],acc,_,ha,p,hp=>ha p hp
 |(n,k)::r,acc,h,ha,p,hp=>by
  unfold fE at hp;by_cases hk:(k==NameKind.free)=true
  ·rw[if_pos hk] at hp;refine v9 r _ (λy hy=>h y (mem_cons_of_mem _ hy)) (λq hq=>?_) p hp;rcases mem_cons.mp hq with rfl|hq
   ·obtain⟨c,hc⟩:=h (n,k) mem_cons_self (by simpa using hk);show env.cells.lookup n=some ((env.cells.lookup n).getD 0);rw[show env.cells.lookup n=some c from hc];rfl
   ·exact ha q hq
  ·rw[if_neg hk] at hp;exact v9 r acc (λy hy=>h y (mem_cons_of_mem _ hy)) ha p hp
theorem v_ {env:Env}:∀(names:List (Str×NameKind))(acc:List (Str×Addr)),(∀ p∈acc,p∈fE env names acc)
 |[],acc,p,hp=>hp
 |(n,k)::r,acc,p,hp=>by
  unfold fE
  split
  ·exact v_ r _ p (mem_cons_of_mem _ hp)
  ·exact v_ r acc p hp
theorem wa {env:Env}:∀(names:List (Str×NameKind))(acc:List (Str×Addr))(x:Str),(x,NameKind.free)∈names->∃ c,(x,c)∈fE env names acc
 |[],_,_,h=>nomatch h
 |(n,k)::r,acc,x,h=>by
  unfold fE;rcases mem_cons.mp h with e|h
  ·cases e;rw[if_pos (by rfl)];exact⟨_,v_ r _ _ mem_cons_self⟩
  ·split
   ·exact wa r _ x h
   ·exact wa r acc x h
theorem mem_lookup {β:Type}{x:Str}{c:β}:∀{l:List (Str×β)},l.lookup x=some c->(x,c)∈l
 |[],h=>nomatch h
 |(n,d)::r,h=>by
  rw[lookup_cons] at h
  cases e:(x==n) with
  |true=>
   rw[e] at h;have q:x=n:=by simpa using e
   cases h;subst q;exact mem_cons_self
  |false=>
   rw[e] at h;exact mem_cons_of_mem _ (mem_lookup h)
theorem lookup_mem {β:Type}{x:Str}{c:β}:∀{l:List (Str×β)},(x,c)∈l->∃ d,l.lookup x=some d
 |[],h=>nomatch h
 |(n,d)::r,h=>by
  rw[lookup_cons]
  cases e:(x==n) with
  |true=>exact⟨d,rfl⟩
  |false=>
   rcases mem_cons.mp h with q|q
   ·cases q;rw[beq_self_eq_true] at e;cases e
   ·exact lookup_mem q
noncomputable abbrev fh (sc:Scope)(cl:List (Str×Addr))(C:Addr):List (Str×Addr):=cellsFrom (C+1) sc.names cl
noncomputable def dv (X:Cx)(N:aq)(sc:Scope)(cl:List (Str×Addr))(C:Addr)(fp:List Addr)(s:Shared)(H:Hp):Cx:=
 { X with N:=N,c8:=s,om:=H,env:=compEnvC sc (fh sc cl C) C X.env,outer:=X.stack,ex:=fp,fn:=λx=>decide ((x,NameKind.cell)∈sc.names),xe:=λ_ _=>False }
structure ib (X:Cx)(sc:Scope)(cl:List (Str×Addr))(N:aq)(k:Nat)(ix:List Nat):Prop where
 wb:closureFor sc X.env=pure cl
 kind:sc.kind=.function
 names:∀ y∈sc.names,y.2=.local->sc.names.lookup y.1=some .local
 sub:∀ x c,(x,c)∈cl->X.env.cells.lookup x=some c
 has:∀ x,(x,NameKind.free)∈sc.names->∃ c,(x,c)∈cl
 fr:∀ x c,(x,c)∈cl->(x,NameKind.free)∈sc.names
 rq:∀ x,(x,NameKind.cell)∈sc.names->(x,NameKind.free)∉sc.names
 len:N.length=k+ix.length
 rA:∀ i j x,ix[i]?=some j->N[k+i]?=some x->X.N[j]?=some x/\(X.env.kindOf x=some .cell\/X.env.kindOf x=some .free) /\
  ((relabel sc X.env).names.lookup x=some .cell\/(relabel sc X.env).names.lookup x=some .free)/\(x,NameKind.cell)∉sc.names
theorem rB:∀(names:List (Str×NameKind))(lo:Nat)(acc:List (Str×Addr))(p:Str×Addr),p∈acc->p∈cellsFrom lo names acc
 |[],_,_,_,h=>h
 |(name,kind)::r,lo,acc,p,h=>by
  unfold cellsFrom
  split
  ·exact rB r _ _ p (mem_cons_of_mem _ h)
  ·exact rB r _ _ p h
theorem wc:∀(names:List (Str×NameKind))(lo:Nat)(acc:List (Str×Addr))(x:Str),(x,NameKind.cell)∈names->∃ c,(x,c)∈cellsFrom lo names acc
 |[],_,_,_,h=>nomatch h
 |(name,kind)::r,lo,acc,x,h=>by
  unfold cellsFrom;rcases mem_cons.mp h with e|h
  ·cases e;rw[if_pos (by rfl)];exact⟨lo,rB r _ _ _ mem_cons_self⟩
  ·split
   ·exact wc r _ _ x h
   ·exact wc r _ _ x h
theorem rC:∀(names:List (Str×NameKind))(h:Heap)(acc:List (Str×Addr))(n:Str)(c:Addr),(n,c)∈cellsFrom h.objs.size names acc->(n,c)∈acc\/((pushCells h names).IsCell c none/\h.objs.size<=c/\(n,NameKind.cell)∈names)
 |[],_,_,_,_,m=>.inl m
 |(name,kind)::r,h,acc,n,c,m=>by
  unfold cellsFrom at m;unfold pushCells
  split at m
  ·rename_i hk;rw[if_pos hk];have q:=rC r (h.push { cls:=.type "cell",data:=.cell none }) ((name,h.objs.size)::acc) n c (by rw[Heap.size_push];exact m);rw[Heap.size_push] at q;rcases q with q|⟨q1,q2,q3⟩
   ·rcases mem_cons.mp q with e|q
    ·cases e;have:kind=NameKind.cell:=by simpa using hk
     subst this;refine .inr ⟨?_,ar _,mem_cons_self⟩;have ic:(h.push { cls:=.type "cell",data:=.cell none }).IsCell h.objs.size none:=⟨_,b7 _ rfl,rfl⟩;exact ic.keeps λb o e=>pushCells_keeps r _ b o e
    ·exact .inl q
   ·exact .inr ⟨q1,by omega,mem_cons_of_mem _ q3⟩
  ·rename_i hk;rw[if_neg hk];rcases rC r h acc n c m with q|⟨q1,q2,q3⟩
   ·exact .inl q
   ·exact .inr ⟨q1,q2,mem_cons_of_mem _ q3⟩
theorem wg:∀(names:List (Str×NameKind))(lo hi:Nat)(acc:List (Str×Addr)),lo<=hi->(∀ p∈acc,p.2<hi)->(∀ p∈acc,∀ q∈acc,p.2=q.2->lo<=p.2->p.1=q.1)->∀ p∈cellsFrom hi names acc,∀ q∈cellsFrom hi names acc,p.2=q.2->lo<=p.2->p.1=q.1
 |[],_,_,_,_,_,h=>h
 |(name,kind)::r,lo,hi,acc,hl,h1,h2=>by
  unfold cellsFrom
  split
  ·refine wg r lo (hi+1) _ (by omega) (λp hp=>?_) λp hp q hq e l=>?_
   ·rcases mem_cons.mp hp with rfl|hp
    ·exact Nat.lt_succ_self _
    ·exact Nat.lt_succ_of_lt (h1 p hp)
   ·rcases mem_cons.mp hp with rfl|hp<;>rcases mem_cons.mp hq with rfl|hq
    ·rfl
    ·have:=h1 q hq;have e':hi=q.2:=e;exact absurd this (by rw[<- e'];exact Nat.lt_irrefl _)
    ·have:=h1 p hp;have e':p.2=hi:=e;exact absurd this (by rw[e'];exact Nat.lt_irrefl _)
    ·exact h2 p hp q hq e l
  ·exact wg r lo hi acc hl h1 h2
theorem Ny {prog:Program}{w:World}{A:Around}{E:aG}{s:Shared}{sc:Scope}{cl:List (Str×Addr)}{env:Env}{Q:Env->Shared->Prop}
  (hQ:∀ h',h'.Ns s.heap.objs.size (λ_=>none)->(∀ b o,s.heap.get? b=some o->h'.get? b=some o)->(∀ n c,(n,c)∈fh sc cl s.heap.objs.size->(n,c)∈cl\/(h'.IsCell c none/\s.heap.objs.size+1<=c/\(n,NameKind.cell)∈sc.names)) ->
   Q { scope:=sc,locals:=s.heap.objs.size,globals:=env.globals,cells:=fh sc cl s.heap.objs.size,qual:=env.qual,func:=none,code:=env.code,frame:=env.frame,builtins:=env.builtins } { s with heap:=h' }) :
  wpAny (model prog w) A (newFunctionEnv sc env.globals cl [] env.qual none .none (some env)) Q E s:=by
 simp only[newFunctionEnv,Option.isSome_some,if_true];refine af (wpAny_alloc ?_);refine af (wpAny_layCells _ (λname kind cells=>by cases NA:kind==NameKind.cell<;>simp [NA]) _ _ _ _ ?_);have es:({ s with heap:=s.heap.push { cls:=.type "dict",data:=.dict #[] } }:Shared).heap.objs.size=s.heap.objs.size+1:=Heap.size_push ..;rw[es];have hs:(s.heap.push { cls:=.type "dict",data:=.dict #[] }).objs.size=s.heap.objs.size+1:=Heap.size_push ..
 have q:=hQ (pushCells (s.heap.push { cls:=.type "dict",data:=.dict #[] }) sc.names) ((Heap.Ns.new s.heap (.type "dict")).keeps (pushCells_keeps _ _)) (λb o e=>pushCells_keeps _ _ b o (a9 _ e)) λn c m=>by
  have z:=rC sc.names (s.heap.push { cls:=.type "dict",data:=.dict #[] }) cl n c (by rw[hs];exact m);rw[hs] at z;exact z
 rw[forIn_nil];exact af (ao (ao q))
section
variable {X:Cx}{pins:aO}{σ:St}{H:Hp}{s:Shared}{sc:Scope}{cl:List (Str×Addr)}{N:aq}{k:Nat}{ix:List Nat}{C:Addr}{fp:List Addr}
theorem ib.at (S:ib X sc cl N k ix)(I:Inv X pins σ H s)(hC:C=s.heap.objs.size){x:Str}{c:Addr}(h:(fh sc cl C).lookup x=some c):(X.env.cells.lookup x=some c/\c<C/\(x,c)∈cl)\/(C+1<=c/\(x,NameKind.cell)∈sc.names):=by
 have m:=mem_lookup h;have hs:(s.heap.push { cls:=.type "dict",data:=.dict #[] }).objs.size=C+1:=by rw[hC];exact Heap.size_push ..
 have z:=rC sc.names (s.heap.push { cls:=.type "dict",data:=.dict #[] }) cl x c (by rw[hs];exact m);rw[hs] at z;rcases z with z|⟨_,z1,z2⟩
 ·have q:=S.sub x c z;obtain⟨v,o,ho,_⟩:=I.cell x c q;exact .inl ⟨q,by rw[hC];exact a7 ho,z⟩
 ·exact .inr ⟨z1,z2⟩
theorem NB {env:Env}{x:Str}(h:(relabel sc env).names.lookup x=some .cell\/(relabel sc env).names.lookup x=some .free):(x,NameKind.cell)∈sc.names\/(x,NameKind.free)∈sc.names:=by
 rcases h with h|h
 ·have m:=mem_lookup h;obtain⟨⟨n,kd⟩,hm,e⟩:=mem_map.mp m;dsimp only at e
  split at e
  ·rename_i hc;cases e;rw[Bool.and_eq_true,Bool.and_eq_true] at hc;have:kd=.free:=by simpa using hc.1.1
   subst this;exact .inr hm
  ·cases e;exact .inl hm
 ·have m:=mem_lookup h;obtain⟨⟨n,kd⟩,hm,e⟩:=mem_map.mp m;dsimp only at e
  split at e
  ·cases e
  ·cases e;exact .inr hm
theorem B9 (S:ib X sc cl N k ix)(I:Inv X pins σ H s)(hC:C=s.heap.objs.size)(hf:∀ b∈fp,fY X pins H b/\b<s.heap.objs.size):(dv X N sc cl C fp s H).Ok where
 mod:=I.ok.mod
 kind:=S.kind
 glob:=I.ok.glob
 blt:=I.ok.blt
 above:=by subst hC;exact ar _
 inj:=λx y c h1 h2=>by
  have h1:(fh sc cl C).lookup x=some c:=h1;have h2:(fh sc cl C).lookup y=some c:=h2;rcases S.at I hC h1 with ⟨a1,a2,a3⟩|⟨a1,a2⟩<;>rcases S.at I hC h2 with ⟨b1,b2,b3⟩|⟨b1,b2⟩
  ·exact I.ok.inj x y c a1 b1
  ·exact absurd (dF (Nat.lt_trans a2 (Nat.lt_succ_self C)) b1) (Nat.lt_irrefl _)
  ·exact absurd (dF (Nat.lt_trans b2 (Nat.lt_succ_self C)) a1) (Nat.lt_irrefl _)
  ·have small:∀ p∈cl,p.2<C+1:=λp hp=>by
    obtain⟨v,o,ho,_⟩:=I.cell p.1 p.2 (S.sub p.1 p.2 hp);rw[hC];exact Nat.lt_succ_of_lt (a7 ho)
   exact wg sc.names (C+1) (C+1) cl (ar _) small (λp hp q _ _ l=>absurd (small p hp) (Nat.not_lt.mpr l)) (x,c) (mem_lookup h1) (y,c) (mem_lookup h2) rfl a1
 has:=λx h=>by
  rcases NB h with h|h
  ·obtain⟨c,hc⟩:=wc sc.names (C+1) cl x h;exact lookup_mem hc
  ·obtain⟨c,hc⟩:=S.has x h;exact lookup_mem (rB sc.names (C+1) cl _ hc)
 mq:=λx c h1 h2=>by
  have h1:(x,NameKind.cell)∈sc.names:=of_decide_eq_true h1;rcases S.at I hC (show(fh sc cl C).lookup x=some c from h2) with ⟨a1,a2,a3⟩|⟨a1,a2⟩
  ·exact absurd (S.fr x c a3) (S.rq x h1)
  ·show s.heap.objs.size<=c;rw[<- hC];exact Nat.le_of_succ_le a1
 hd:=I.ok.hd
 frames:=I.ok.frames
 oo:=.inl rfl
 u9:=λb hb=>⟨by subst hC;exact bJ (hf b hb).2,λx c e=>by
  rcases S.at I hC (show(fh sc cl C).lookup x=some c from e) with ⟨a1,a2,a3⟩|⟨a1,a2⟩
  ·exact(hf b hb).1.2.2.2.2.1 x c a1
  ·exact λz=>absurd (hf b hb).2 (by rw[<- hC,<- z];exact Nat.not_lt.mpr (Nat.le_of_succ_le a1))⟩
 bs:=I.bs
 jg:=aP I.ok.jg I.sz
 mx:=λb o e hb=>by
  obtain⟨_,_,_,h1,_⟩:=(hf b hb).1;rcases h1 with z|z
  ·exact I.ok.mx b o e z
  ·exact absurd (dF (a7 e) (aP I.ok.jg z)) (Nat.lt_irrefl _)
 oq:=λb hb hz=>by
  obtain⟨_,h1,h2,_⟩:=(hf b hb).1;exact(mem_cons.mp (I.ou b hz)).elim h1 h2
 gm:=I.stack
 kT:=I.AO
theorem NC {h₁:Heap}{tk:Nat}{m:a0}(S:ib X sc cl N k ix)(I:Inv X pins σ H s)(hC:C=s.heap.objs.size)(hf:∀ b∈fp,fY X pins H b/\b<s.heap.objs.size)
  (hn:h₁.Ns C m)(kp:∀ b o,s.heap.get? b=some o->h₁.get? b=some o)(f9:∀ n c,(n,c)∈fh sc cl C->(n,c)∈cl\/(h₁.IsCell c none/\C+1<=c/\(n,NameKind.cell)∈sc.names)):Inv (dv X N sc cl C fp s H) pins (f_ k ix σ) H { s with heap:=h₁,toks:=tk } where
 ok:=B9 S I hC hf
 os:=rfl
 bare:=I.bare
 base:=Un.kept kp
 loc:=by
  refine⟨m,hn,λi x v e1 e2 _=>?_⟩;obtain⟨i',j,rfl,e3,e4⟩:=Ng e2;obtain⟨n1,k1,k2,k3⟩:=S.rA i' j x e3 e1;obtain⟨mX,_,hl⟩:=I.loc
  have ND:dj X.env.scope x:=by
   rcases k1 with z|z
   ·exact .inr (.inl z)
   ·exact .inr (.inr z)
  obtain⟨u,r,l⟩:=hl j x v n1 e4 ND;refine⟨u,r,.inr ⟨k2,?_⟩⟩;rcases l with ⟨z,_⟩|⟨_,c,z,o,ho,hd⟩
  ·rcases k1 with y|y
   ·rw[y] at z;cases z
   ·rw[y] at z;cases z
  ·obtain⟨c',c9⟩:=(B9 (fp:=fp) S I hC hf).has x k2;rcases S.at I hC (show(fh sc cl C).lookup x=some c' from c9) with ⟨q,_,_⟩|⟨_,q⟩
   ·rw[z] at q;cases q;exact⟨c,c9,o,kp _ _ ho,hd⟩
   ·exact absurd q k3
 cell:=λx c e=>by
  rcases f9 x c (mem_lookup e) with q|⟨q,_,_⟩
  ·obtain⟨v,o,ho,hd⟩:=I.cell x c (S.sub x c q);exact⟨v,o,kp _ _ ho,hd⟩
  ·exact⟨_,q⟩
 free:=by
  show H C=none;rw[hC];exact I.aA.fresh (ar _)
 gn:=λx c e=>by
  rcases S.at I hC (show(fh sc cl C).lookup x=some c from e) with ⟨q,_,_⟩|⟨q,_⟩
  ·exact I.gn x c q
  ·exact I.aA.fresh (by rw[<- hC];exact Nat.le_of_succ_le q)
 pin:=λp hp=>by
  obtain⟨e,n,ne,nf,d⟩:=I.pin p hp;refine⟨kp _ _ e,n,?_,λhz=>(mem_cons.mp (I.ou _ hz)).elim ne nf,d⟩;show p.1≠C;rw[hC];exact bJ (a7 e)
 aA:=I.aA.kept kp
 len:=by
  show N.length<=(f_ k ix σ).length;unfold f_;rw[S.len,length_append,length_replicate,length_map];exact ar _
theorem NF {C':Addr}{aH:St}{H':Hp}{s':Shared}(I:Inv X pins σ H s)(hf:∀ b∈fp,fY X pins H b)(J:Inv (dv X N sc cl C' fp s H) pins aH H' s'):Inv X pins σ H' s':=
 I.A6 J.os J.base J.aA J.bare λb hb=>⟨(hf b hb).2.2.2.1,(hf b hb).2.1,(hf b hb).2.2.2.2.1,(hf b hb).2.2.2.2.2⟩
end
section
variable {X:Cx}{elt tg iter:Expr}{ifs:List Expr}{pos:Pos}{sc:Scope}{cl:List (Str×Addr)}{N:aq}{k:Nat}{ix:List Nat}{g:TG}{tI:TT}{te:TE}{wi:TI}
theorem B_ {pins:aO}{σ:St}{H:Hp}{s2:Shared}{it:Addr}{fp:List Addr}{tn:Nat->Heap->Prop}{J:It}{Q:VK}{E:aG}{RR:Value->Addr->Result->Shared->Prop}
  (S:ib X sc cl N k ix)(hc:X.calm=true)(hg:∀ C fp s H,PG (dv X N sc cl C fp s H) tg g)(hi:∀ C fp s H,ia (dv X N sc cl C fp s H) ifs tI)(he:∀ C fp s H,PE (dv X N sc cl C fp s H) elt te)
  (I:Inv X pins σ H s2)(T:Turn X.prog X.w X.K tg J fp it tn)(st:tn 0 s2.heap)(ff:∀ b∈fp,fY X pins H b)
  (q:∀ acc,H acc=none->oU J g tI te acc Q (f_ k ix σ) (upd H acc (.lst [])))
  (NG:∀(acc C:Addr)(H':Hp)(s':Shared),Inv X pins σ H' s'->fY X pins H' C->(∃ m,s'.heap.Ns C m)->Q (.ref acc) H'->RR (.ref acc) C (.ok .next) s') :
  wpAny (model X.prog X.w) X.A (newList []) (λacc mE=>wpAny (model X.prog X.w) X.A (newFunctionEnv sc X.env.globals cl [] X.env.qual none .none (some X.env)) (λCa NH=>
   codeAny (model X.prog X.w) X.A (.compStart (.ListComp elt [⟨tg,iter,ifs,0⟩] sc pos) 0 (.ref it) acc { Ca with scope:=relabel sc X.env }) (RR acc Ca.locals) NH) E mE) E s2:=by
 refine wpAny_newObj_type (Ny λh₁ Cb Cc f9=>?_);dsimp only at Cb Cc f9 ⊢;have I3:Inv X pins σ (upd H s2.heap.objs.size (.lst [])) { s2 with heap:=s2.heap.push { cls:=.type "list",data:=.seq ([]:aC).toArray },toks:=s2.toks }:=I.vL (ys:=[]) (its:=[]) .nil (by decide);have qy:H s2.heap.objs.size=none:=I.aA.fresh (ar _)
 have eF:∀ b∈fp,b<s2.heap.objs.size:=λb hb=>by
  obtain⟨o,e,_⟩:=T.obj 0 _ st b hb;exact a7 e
 have hsz:(s2.heap.push { cls:=.type "list",data:=.seq ([]:aC).toArray }).objs.size=s2.heap.objs.size+1:=Heap.size_push ..
 have rD:∀ b∈fp,fY X pins (upd H s2.heap.objs.size (.lst [])) b:=λb hb=>by
  obtain⟨f0,f1,f2,f3,f4,f5⟩:=ff b hb;exact⟨by rw[a8 (bJ (eF b hb))];exact f0,f1,f2,f3,f4,f5⟩
 obtain⟨W,⟨m0,w0⟩,turn⟩:=q _ qy;have kp:∀ b o,(s2.heap.push { cls:=.type "list",data:=.seq ([]:aC).toArray }).get? b=some o->h₁.get? b=some o:=Cc
 have I4:=NC (h₁:=h₁) (tk:=s2.toks) (fp:=fp) S I3 rfl (λb hb=>⟨rD b hb,by
  show b<(s2.heap.push _).objs.size;rw[hsz]
  exact Nat.lt_succ_of_lt (eF b hb)⟩) Cb kp f9
 have rE:tn 0 h₁:=T.keep 0 _ _ st λb _ o e=>kp b o (a9 _ e);generalize hC:(s2.heap.push { cls:=.type "list",data:=.seq ([]:aC).toArray }).objs.size=C at *;generalize hX:dv X N sc cl C fp { s2 with heap:=s2.heap.push { cls:=.type "list",data:=.seq ([]:aC).toArray },toks:=s2.toks } (upd H s2.heap.objs.size (.lst []))=Y at I4
 have loop:∀ s':Shared,s'={ s2 with heap:=h₁,toks:=s2.toks } ->
   codeAny (model X.prog X.w) X.A (.compLoop (.ListComp elt [⟨tg,iter,ifs,0⟩] sc pos) 0 (.ref it) (.ref s2.heap.objs.size) (compEnvC sc (fh sc cl C) C X.env)) (RR (.ref s2.heap.objs.size) C) s':=by
  rintro s' rfl;refine codeAny_loop rfl (λn s'=>∃ i aH H',Inv Y pins aH H' s'/\tn i s'.heap/\(∀ b∈fp,H' b=none)/\W i n aH H') (λn s3 hI=>?_) m0 ⟨0,_,_,I4,rE,λb hb=>(rD b hb).1,w0⟩;obtain⟨i,cL,H3,J3,gw,oz,w3⟩:=hI;show wpAny _ _ ((compTurn (.ListComp elt [⟨tg,iter,ifs,0⟩] sc pos) 0 (.ref it) (.ref s2.heap.objs.size) (compEnvC sc (fh sc cl C) C X.env)).onRaise (λx=>do noteFrame x (compEnvC sc (fh sc cl C) C X.env);theTreesLotGoes x)) _ _ s3;refine wpAny_noted ?_;rw[compTurn_list]
  have kX:∀{H':Hp},(∀ b∈fp,H' b=none)->∀ b∈fp,fY Y pins H' b:=λhn b hb=>by
   obtain⟨f0,f1,f2,f3,f4,f5⟩:=rD b hb;subst hX;refine⟨hn b hb,?_,λhz=>(mem_cons.mp (I3.ou b hz)).elim f1 f2,.inl hb,λx c e=>?_,f5⟩
   ·show b≠C;rw[hsz];exact bJ (Nat.lt_succ_of_lt (eF b hb))
   ·rcases S.at I3 hC.symm (show(fh sc cl C).lookup x=some c from e) with ⟨q,_,_⟩|⟨q,_⟩
    ·exact f4 x c q
    ·exact λz=>absurd (eF b hb) (by rw[<- z];exact Nat.not_lt.mpr (aP (by rw[hsz];exact Nat.le_succ_of_le (Nat.le_succ _)) q))
  have eX:Y.prog=X.prog/\Y.w=X.w/\Y.K=X.K/\Y.calm=X.calm/\Y.A=X.A/\Y.env=compEnvC sc (fh sc cl C) C X.env/\Y.xe=λ_ _=>False:=by
   subst hX;exact⟨rfl,rfl,rfl,rfl,rfl,rfl,rfl⟩
  obtain⟨y1,y2,y3,y4,y5,y6,y7⟩:=eX;have NI:PG Y tg g:=hX▸hg _ _ _ _;have NJ:ia Y ifs tI:=hX▸hi _ _ _ _;have NK:PE Y elt te:=hX▸he _ _ _ _
  have no:∀{α:Type}{m:Sem α}{P:α->Shared->Prop}{E':aG}{s':Shared},wpAny (model Y.prog Y.w) Y.A m P Y.xe s'->wpAny (model X.prog X.w) X.A m P E' s':=λ{α m P E' s'} h=>by
   rw[y1,y2,y5,y7] at h;exact wpAny_mono h (λ_ _ z=>z) λ_ _ z=>z.elim
  rcases turn i n cL H3 w3 with ⟨stop,qn⟩|⟨go,Nx,hN,step⟩
  ·refine af (wpAny_standAt (af (wpAny_mono (no (T.done Y y1 y2 y3 (y4.trans hc) i pins s3 cL H3 Y.xe J3 (kX oz) gw stop |> λz=>by rw[y1,y2] at *;exact z)) (λr s4 hr=>?_) λ_ _ z=>z)));obtain⟨hr,J4⟩:=hr;subst hr;refine ao ?_;subst hX;have J5:=NF I3 rD J4;obtain⟨m,hn,_⟩:=J4.loc;exact NG _ _ _ _ J5 (I3.jR (Nat.le_of_eq hC) J4.free) ⟨m,hn⟩ qn
  ·refine af (wpAny_standAt (af (wpAny_mono (no (T.item Y y1 y2 y3 (y4.trans hc) i pins s3 cL H3 Y.xe J3 (kX oz) gw go |> λz=>by rw[y1,y2] at *;exact z)) (λr s4 hr=>?_) λ_ _ z=>z)));obtain⟨u,hr,h4⟩:=hr;subst hr;refine af (wpAny_mono (no (by rw[y1,y2];exact h4)) (λ_ s5 h5=>?_) λ_ _ z=>z);obtain⟨x,H5,J5,r5,NL,jS,vh⟩:=h5;have NM:=J5.pinned (kX vh) (T.obj _ _ jS);refine af (wpAny_mono (no (y6▸NI _ s5 cL H5 x u _ NM r5 (step x H5 NL))) (λ_ s6 h6=>?_) λ_ _ z=>z);obtain⟨iL,H6,J6,q6⟩:=h6;refine af (wpAny_mono (no (y6▸NJ _ s6 iL H6 _ J6 q6)) (λok s7 h7=>?_) λ_ _ z=>z);obtain⟨H7,J7,q7⟩:=h7
   have again:∀{s8:Shared}{H8:Hp},Inv Y (pins++oy fp s5.heap) iL H8 s8->Nx iL H8->∃ m,m<n/\∃ i aH H',Inv Y pins aH H' s8/\tn i s8.heap/\(∀ b∈fp,H' b=none)/\W i m aH H':=λ{s8 H8} J8 n8=>by
    obtain⟨m',hm,w8⟩:=hN iL H8 n8;refine⟨m',hm,i+1,iL,H8,J8.qH,T.keep _ _ _ jS λb hb o e=>(J8.pin (b,o) (mem_append_right _ (mem_append_right _ (qG hb e)))).1,λb hb=>?_,w8⟩;obtain⟨o,e,d⟩:=T.obj _ _ jS b hb;exact(J8.pin (b,o) (mem_append_right _ (mem_append_right _ (qG hb e)))).2.1
   cases ok with
   |false=>exact ao ⟨rfl,again J7 q7⟩
   |true=>
    refine af (af (wpAny_mono (no (y6▸NK _ s7 iL H7 _ J7 q7)) (λv s8 h8=>?_) λ_ _ z=>z));obtain⟨y,H8,J8,r8,ys,ha,hl,n8⟩:=h8;refine af (wpAny_mono (no (vN (X:=Y) _ s8 iL H8 (.ref s2.heap.objs.size) [y] (.ref s2.heap.objs.size) [v] (λ_ H9=>Nx iL H9) J8 rfl (.cons r8 .nil) ⟨_,ys,y,rfl,rfl,ha,hl,n8⟩)) (λ_ s9 h9=>?_) λ_ _ z=>z);obtain⟨_,H9,J9,_,n9⟩:=h9;exact ao (ao ⟨rfl,again J9 n9⟩)
 exact codeAny_compStart_list (loop _ rfl) (T.self _ 0 _ _ _ rE (loop _ rfl))
theorem NN (S:ib X sc cl N k ix)(hc:X.calm=true)(hp:PI X tg iter wi)(hg:∀ C fp s H,PG (dv X N sc cl C fp s H) tg g)(hi:∀ C fp s H,ia (dv X N sc cl C fp s H) ifs tI)
  (he:∀ C fp s H,PE (dv X N sc cl C fp s H) elt te)(hs:∀ x,foldedSetIterable iter X.env x=pure x:=by intro _;rfl):PE X (.ListComp elt [⟨tg,iter,ifs,0⟩] sc pos) (Nk k ix wi g tI te):=by
 intro pins s σ H Q I h;rw[eval_ListComp];refine wpAny_comprehension_free (use:=none) rfl hs S.wb S.kind S.names (aD (hp pins s σ H _ I h) λxv aU h₁=>aD h₁ λqE dS k8=>?_);obtain⟨it,fp,tn,J,H2,e,I2,T,cX,f2,q2⟩:=k8;subst e;refine B_ (RR:=λacc C=>compPost (model X.prog X.w) X.A X.xe none (EP X pins σ Q) acc C) S hc hg hi he I2 T cX f2 q2 λacc C H' s' I' fC hm hq=>?_;obtain⟨m,hn⟩:=hm;obtain⟨f0,f1,f2,f3,f4,f5⟩:=fC;exact⟨m,hn,λh' rF=>⟨.ref acc,H',I'.turned (t':=s'.toks) (λb o hb e=>rF.extBut b o hb e) f0 f1 f3 f4 f5,rfl,hq⟩⟩
end
section
variable {X:Cx}{elt tg iter:Expr}{ifs:List Expr}{pos:Pos}{sc:Scope}{cl:List (Str×Addr)}{N:aq}{k:Nat}{ix:List Nat}{g:TG}{tI:TT}{te:TE}{wi:TI}
theorem Ce {i:Nat}{y:Str}{py cZ:Pos}(hN:X.N.Nodup)(ie:X.N[i]?=some y)(hy:X.env.scope.names.lookup y=some .local)
  (oW:swapsWith (.ListComp elt [⟨tg,iter,ifs,0⟩] sc pos) (some (.Name y py)) cZ.line X.env=pure true)
  (S:ib X sc cl N k ix)(hc:X.calm=true)(hp:PI X tg iter wi)(hg:∀ C fp s H,PG (dv X N sc cl C fp s H) tg g)(hi:∀ C fp s H,ia (dv X N sc cl C fp s H) ifs tI)
  (he:∀ C fp s H,PE (dv X N sc cl C fp s H) elt te)(hs:∀ x,foldedSetIterable iter X.env x=pure x:=by intro _;rfl):PS X (.Assign [.Name y py] (.ListComp elt [⟨tg,iter,ifs,0⟩] sc pos) cZ) (Nl i k ix wi g tI te):=by
 intro pins s σ H D I h;rw[exec_Assign_Name_used _ _ _ _ oW];refine af (wpAny_standAt (af ?_));show wpAny _ X.A (do let _ <- comprehension (.ListComp elt [⟨tg,iter,ifs,0⟩] sc pos) sc X.env _ (newList []) false (eval iter X.env) (some (assign (.Name y py) X.env))) _ _ s
 refine af (wpAny_mono (wpAny_comprehension_free (use:=some (assign (.Name y py) X.env)) (Q:=λ_ s'=>SP X pins D .next s') rfl hs S.wb S.kind S.names
  (aD (hp pins s σ H _ I h) λxv aU h₁=>aD h₁ λqE dS k8=>?_)) (λ_ s' hq=>ao (ao hq)) λ_ _ e=>e)
 obtain⟨it,fp,tn,J,H2,e,I2,T,cX,f2,q2⟩:=k8;subst e;refine B_ (RR:=λacc C=>compPost (model X.prog X.w) X.A X.xe (some (assign (.Name y py) X.env)) (λ_ s'=>SP X pins D .next s') acc C) S hc hg hi he I2 T cX f2 q2 λacc C H' s' I' fC hm hq=>?_;obtain⟨m,hn⟩:=hm;obtain⟨f0,f1,f2,f3,f4,f5⟩:=fC;show wpAny _ X.A (assign (.Name y py) X.env (.ref acc)) _ _ _;refine wpAny_assign_Name (AX I' hN ie (.inl hy) (show RelV (.ref acc) (.ref acc) from rfl) (λoD NO ⟨a,NP,ha⟩=>?_) (.inr hy))
 have bL:C≠a:=by
  rcases ha with z|z
  ·rw[z];exact f1
  ·exact λq=>f4 y a z q.symm
 refine⟨m,hn.sameBut NP bL,λh' rF=>?_⟩;exact⟨_,H',NO.turned (t':=oD.toks) (λb o hb e=>rF.extBut b o hb e) f0 f1 f3 f4 f5,hq⟩
end
section
variable {X:Cx}
theorem part_of {v:Value}{o:Option Int}(p:IsPart v o):∃ l:Option (Int×Tok),v=partValue l/\o=l.map (·.1):=by
 cases p with
 |none=>exact⟨none,rfl,rfl⟩
 |int i t=>exact⟨some (i,t),rfl,rfl⟩
theorem NQ:jm X (λx lo hi H Q=>∃ z,x=.str z/\z.length<=sizeLine/\Q (.str (Txt.slice z lo hi)) H):=by
 intro pins s σ H x v vl vu lo hi sl Q I rx hs pl pu h;obtain⟨z,rfl,hz,q⟩:=h;obtain⟨t,rfl⟩:=rx;obtain⟨l,rfl,rfl⟩:=part_of pl;obtain⟨u,rfl,rfl⟩:=part_of pu;refine⟨"str",_,F.slot_str_getitem.lookup,typeIs_str _ _ _,?_⟩;refine wpAny_getItem_str_slice (l:=l) (u:=u) (st:=none) hs rfl (post_val_or_str ⟨aP (Txt.slice_le z _ _) hz,λt' k=>?_⟩);exact⟨.str _,H,I.kept (t':=k) λb ob q=>q,⟨t',rfl⟩,q⟩
end
end L2
namespace cV
open PySem L2
noncomputable def top (i:Nat):Stmt:=PySem.Challenge.pw_everyplan_k12_parts_at_ways.main.body.getD i (.Pass ⟨0,0,0,0⟩)
noncomputable abbrev wj:Stmt:=top 1
noncomputable abbrev wk:Stmt:=top 3
noncomputable abbrev wm:Stmt:=top 7
noncomputable abbrev wo:Stmt:=top 8
noncomputable abbrev wq:Stmt:=top 9
noncomputable abbrev wt:Stmt:=top 10
noncomputable abbrev wu:Stmt:=top 11
noncomputable abbrev wz:Stmt:=top 12
noncomputable abbrev wB:Stmt:=top 13
noncomputable abbrev wD:Stmt:=top 15
noncomputable abbrev wF:Stmt:=top 16
noncomputable abbrev wG:Stmt:=top 17
noncomputable abbrev wH:Stmt:=top 18
noncomputable abbrev wI:Stmt:=top 19
noncomputable abbrev wJ:Stmt:=top 20
noncomputable abbrev wK:Stmt:=top 21
noncomputable abbrev wL:Stmt:=top 22
noncomputable abbrev wM:Stmt:=top 23
noncomputable abbrev wN:Stmt:=top 24
noncomputable abbrev wO:Stmt:=top 25
noncomputable abbrev wQ:Stmt:=top 26
noncomputable abbrev wR:Stmt:=top 27
noncomputable abbrev wU:Stmt:=top 28
noncomputable abbrev wV:Stmt:=top 29
noncomputable abbrev wW:Stmt:=top 30
noncomputable abbrev wX:Stmt:=top 31
noncomputable abbrev wY:Stmt:=top 32
noncomputable abbrev wZ:Stmt:=top 33
noncomputable abbrev w6:Stmt:=top 34
noncomputable abbrev w9:Stmt:=top 35
noncomputable abbrev w_:Stmt:=top 36
noncomputable abbrev xa:Stmt:=top 37
noncomputable abbrev xb:Stmt:=top 38
noncomputable abbrev xc:Stmt:=top 39
noncomputable abbrev xf:Stmt:=top 40
noncomputable abbrev xg:Stmt:=top 41
noncomputable abbrev xh:Stmt:=top 42
noncomputable abbrev xi:Stmt:=top 43
noncomputable abbrev xj:Stmt:=top 44
noncomputable abbrev lr:Stmt:=top 45
structure Bt (mg:a0):Prop where
 abs:mg "abs"=none
 bool:mg "bool"=none
 dict:mg "dict"=none
 enumerate:mg "enumerate"=none
 int:mg "int"=none
 isinstance:mg "isinstance"=none
 len:mg "len"=none
 list:mg "list"=none
 max:mg "max"=none
 min:mg "min"=none
 range:mg "range"=none
 repr:mg "repr"=none
 reversed:mg "reversed"=none
 set:mg "set"=none
 sorted:mg "sorted"=none
 sum:mg "sum"=none
 tuple:mg "tuple"=none
section
variable {P:Program}{w:World}{K:Frag}{mg:a0}{base:Heap}
theorem Cf:bx ["_law_state","_law_most","_law_found"] ["_law_state","_law_most"] (aX wF):=by walk_at "s"
theorem NR {f:Addr}{fd:FuncData}(F:fD K "_law_digit" "_law_digit" wF f fd)(B:Bt mg):cU P w K mg base du 1 f fd ["_law_state","_law_most"] (j8 K):=by
 refine F.ok Cf (λvs H Q E h=>?_) (λaE A outer s H vs Q E hr h=>?_)
 ·obtain⟨d,a,n,D,m,rfl,_⟩:=h;rfl
 obtain⟨d,a,n,D,m,rfl,S,Sc,hn,hm,bc,q⟩:=h;have hu:=gB hr
 refine⟨_,eP (Bi PassesOwn.never
   ((Bb (kZ Bn (f7 hu (pv 0) cT (λ_ _=>rfl)) cR (fb _))
    (Ba (kZ qJ (f7 hu (pv 0) cT (λ_ _=>rfl)) (hU oM (by rfl) B.len PySem.boot_len (b8 (f7 hu (pv 0) cT (λ_ _=>rfl)) cO)) (fb _)))).pt)
   (eP (jZ hu (pv 0) cT (hU LI (by rfl) B.abs PyProof.Rows.boot_abs (b8 (ra rb (f7 hu (pv 0) cT (λ_ _=>rfl)) (f7 hu (pv 0) cT (λ_ _=>rfl)) (λ_ _=>rfl)) cO)) rfl)
   (jh (jZ hu (pv 0) cT (cY jU (f7 hu (pv 0) cT (λ_ _=>rfl)) cR) rfl))))
  (eP (gu (i:=2) Cf.nd rfl (Or.inl rfl) (cY jV (f7 hu (pv 0) cT (λ_ _=>rfl)) (pv 1)))
  (eP (jZ hu (pv 0) cT (cY vT (f7 hu (pv 0) cT (λ_ _=>rfl)) (pv 1)) rfl)
  (jh (jQ (pv 2))))),?_⟩
 obtain⟨ns,hS,hl⟩:=Sc;obtain⟨Cg,Ci⟩:=S.dk;obtain⟨t,l,wy,hd,h1,h2,h3⟩:=S.ex
 refine⟨λk σ H1=>∃(t l:Int),σ=[some (.ref d),some (.int m),none]/\cB d H H1/\H1 d=some (.dK (SK.zip (SV a t l wy D)))/\1<=t/\t<=(n:Int)+64/\0<=l/\k=((n:Int)+64-t).toNat,
  ⟨_,t,l,rfl,cB.refl _ _,hd,h1,h2,h3,rfl⟩,?_⟩
 rintro k σ H1 ⟨t,l,rfl,b1,hd,h1,h2,h3,rfl⟩;refine⟨_,rfl,d,_,rfl,fN (i:=2) hd rfl rfl,rfl,_,rfl,?_⟩;refine oT (λc1=>?_) (λc1=>?_)
 ·refine⟨_,rfl,d,_,rfl,fN (i:=1) hd rfl rfl,_,rfl,d,_,rfl,fN (i:=0) hd rfl rfl,a,_,rfl,.inl (b1.seq Ci hS),_,_,rfl,rfl,_,rfl,?_⟩;refine oT (λc2=>?_) (λc2=>?_)
  ·have Cj:t<((ns.map V.int).length:Int):=of_decide_eq_true c2;rw[length_map] at Cj;obtain⟨v,hv⟩:=v7 (ns:=ns) (k:=t) (by omega) Cj;refine⟨λaH H'=>∃(t' l':Int),aH=[some (.ref d),some (.int m),none]/\cB d H H'/\H' d=some (.dK (SK.zip (SV a t' l' wy D)))/\t'=t+1/\0<=l',λaH H' ⟨t',l',e1,b2,e2,e3,e4⟩=>⟨_,by omega,t',l',e1,b2,e2,by omega,by omega,e4,rfl⟩,?_⟩;refine⟨_,rfl,d,_,rfl,fN (i:=0) hd rfl rfl,_,rfl,d,_,rfl,fN (i:=1) hd rfl rfl,a,_,_,_,rfl,rfl,b1.seq Ci hS,hv,v,rfl,_,rfl,d,_,rfl,dput (i:=2) hd rfl rfl,?_⟩;have hd2:(upd H1 d (.dK (SK.zip ((SV a t l wy D).set 2 (.int (if v<0 then -v else v)))))) d=some (.dK (SK.zip (SV a t (if v<0 then -v else v) wy D))):=bE;refine⟨_,rfl,d,_,rfl,fN (i:=1) hd2 rfl rfl,_,_,rfl,rfl,_,rfl,d,_,rfl,dput (i:=1) hd2 rfl rfl,?_⟩;exact⟨t+1,_,rfl,(b1.upd _).upd _,bE,rfl,by split<;>omega⟩
  ·refine⟨_,rfl,d,_,rfl,fN (i:=2) hd rfl rfl,_,rfl,_,_,rfl,rfl,hm,?_⟩;refine⟨_,rfl,d,_,rfl,fN (i:=2) hd rfl rfl,_,rfl,_,_,rfl,rfl,⟨hm,bc⟩,_,rfl,d,_,rfl,dput (i:=2) hd rfl rfl,_,rfl,?_⟩;exact q (l % m) _ (Int.emod_nonneg _ (by omega)) (Int.emod_lt_of_pos _ hm) ⟨⟨t,l / m,wy,bE,h1,by omega,Int.ediv_nonneg h3 (by omega)⟩,S.vZ (b1.upd _) rfl⟩ (b1.upd _)
 ·refine⟨_,rfl,d,_,rfl,fN (i:=2) hd rfl rfl,_,rfl,_,_,rfl,rfl,hm,?_⟩;refine⟨_,rfl,d,_,rfl,fN (i:=2) hd rfl rfl,_,rfl,_,_,rfl,rfl,⟨hm,bc⟩,_,rfl,d,_,rfl,dput (i:=2) hd rfl rfl,_,rfl,?_⟩;exact q (l % m) _ (Int.emod_nonneg _ (by omega)) (Int.emod_lt_of_pos _ hm) ⟨⟨t,l / m,wy,bE,h1,by omega,Int.ediv_nonneg h3 (by omega)⟩,S.vZ (b1.upd _) rfl⟩ (b1.upd _)
theorem mI:bx ["_law_state","_law_most","_law_script","_law_at","_law_cell"] ["_law_state","_law_most"] (aX wG):=by walk_at "s"
theorem NS {f:Addr}{fd:FuncData}(F:fD K "_law_mixed" "_law_mixed" wG f fd)(B:Bt mg):cU P w K mg base du 1 f fd ["_law_state","_law_most"] (j8 K):=by
 refine F.ok mI (λvs H Q E h=>?_) (λaE A outer s H vs Q E hr h=>?_)
 ·obtain⟨d,a,n,D,m,rfl,_⟩:=h;rfl
 obtain⟨d,a,n,D,m,rfl,S,Sc,hn,hm,bc,q⟩:=h;have hu:=gB hr
 refine⟨_,eP (gu (i:=2) mI.nd rfl (Or.inl rfl) (f7 hu (pv 0) cT (λ_ _=>rfl)))
  (eP (gu (i:=3) mI.nd rfl (Or.inl rfl) (f7 hu (pv 0) cT (λ_ _=>rfl)))
  (eP (jZ hu (pv 0) cT (cY jU (pv 3) cR) rfl)
  (eP (gu (i:=4) mI.nd rfl (Or.inl rfl) (cY jU (cY kY (cY kY (pv 3) (pv 3)) cR) cR))
  (eP (qD (kZ qK (hU oM (by rfl) B.len PySem.boot_len (b8 (pv 2) cO)) cR (fb _))
   (jh (gu (i:=4) mI.nd rfl (Or.inl rfl) (cY jU (pv 4) (cY kY (cY jV (ra rb (pv 2) (cY jV (pv 3) (hU oM (by rfl) B.len PySem.boot_len (b8 (pv 2) cO))) (λ_ _=>rfl)) cR)
    (cY jU cR (cY vT (pv 3) (hU oM (by rfl) B.len PySem.boot_len (b8 (pv 2) cO)))))))) qB)
  (eP (gu (i:=4) mI.nd rfl (Or.inl rfl) (cY jV (cY kY (pv 4) cR) cR))
  (jh (jQ (cY jV (cY Lj (cY jV (cY jU (cY jU (cY kY (pv 4) (pv 4)) (cY kY cR (pv 4))) (pv 3)) cR) cR) (pv 1))))))))),?_⟩
 obtain⟨ns,hS,hl⟩:=Sc;obtain⟨t,l,wy,hd,h1,h2,h3⟩:=S.ex;have b1:cB d H (upd H d (.dK (SK.zip ((SV a t l wy D).set 1 (.int (t+1)))))):=(cB.refl d H).upd _;have rG:=b1.seq hd hS;refine⟨_,rfl,d,_,rfl,fN (i:=0) hd rfl rfl,_,rfl,d,_,rfl,fN (i:=1) hd rfl rfl,_,rfl,_,_,rfl,rfl,_,rfl,d,_,rfl,dput (i:=1) hd rfl rfl,?_⟩;refine⟨_,rfl,_,rfl,_,_,rfl,rfl,.inl ⟨by omega,by omega⟩,_,_,rfl,rfl,.inr ⟨by decide,by decide⟩,_,_,rfl,rfl,?_⟩;refine⟨_,rfl,a,_,rfl,.inl rG,_,_,rfl,rfl,_,rfl,?_⟩;have fin:∀ c:Int,q=q->(0<=c % 2147483629/\c % 2147483629<2147483629):=λc _=>⟨Int.emod_nonneg _ (by decide),Int.emod_lt_of_pos _ (by decide)⟩;have S1:cF (upd H d (.dK (SK.zip ((SV a t l wy D).set 1 (.int (t+1)))))) d a (n+1) D:=⟨⟨t+1,l,wy,bE,by omega,by omega,h3⟩,S.vZ b1 rfl⟩;refine oT (λc=>?_) (λc=>?_)
 ·have c':(0:Int)<((ns.map V.int).length:Int):=of_decide_eq_true c;have hlen:((ns.map V.int).length:Int)=(ns.length:Int):=by rw[length_map]
  have p1:0<=t % ((ns.map V.int).length:Int):=Int.emod_nonneg _ (by omega);have p2:t % ((ns.map V.int).length:Int)<((ns.map V.int).length:Int):=Int.emod_lt_of_pos _ c';obtain⟨v,hv⟩:=v7 (ns:=ns) (k:=t % ((ns.map V.int).length:Int)) p1 (by omega);have p3:0<=v % 2147483647/\v % 2147483647<2147483647:=⟨Int.emod_nonneg _ (by decide),Int.emod_lt_of_pos _ (by decide)⟩;refine⟨_,rfl,_,rfl,_,rfl,_,rfl,a,_,rfl,.inl rG,_,_,rfl,rfl,c',a,_,_,_,rfl,rfl,rG,hv,_,_,rfl,rfl,(by show(0:Int)<2147483647;decide),_,rfl,_,rfl,a,_,rfl,.inl rG,_,_,rfl,rfl,⟨c',by omega⟩,_,_,rfl,rfl,_,_,rfl,rfl,.inl ⟨by omega,by omega⟩,_,_,rfl,rfl,?_⟩;refine⟨_,rfl,_,_,rfl,rfl,.inr ⟨by decide,by decide⟩,_,_,rfl,rfl,(by show(0:Int)<2147483629;decide),?_⟩;have f1:=fin ((t*t*7919+11+v % 2147483647*(1+t / ((ns.map V.int).length:Int)))*48271) rfl;refine⟨_,rfl,_,rfl,_,_,rfl,rfl,.inl ⟨by omega,by omega⟩,_,rfl,_,_,rfl,rfl,.inl ⟨by decide,by decide⟩,_,_,rfl,rfl,_,rfl,_,_,rfl,rfl,_,_,rfl,rfl,(by show(0:Int)<2147483587;decide),_,_,rfl,rfl,⟨by decide,by decide⟩,_,rfl,_,_,rfl,rfl,hm,?_⟩;exact q _ _ (Int.emod_nonneg _ (by omega)) (Int.emod_lt_of_pos _ hm) S1 b1
 ·refine⟨_,rfl,_,_,rfl,rfl,.inr ⟨by decide,by decide⟩,_,_,rfl,rfl,(by show(0:Int)<2147483629;decide),?_⟩;have f1:=fin ((t*t*7919+11)*48271) rfl;refine⟨_,rfl,_,rfl,_,_,rfl,rfl,.inl ⟨by omega,by omega⟩,_,rfl,_,_,rfl,rfl,.inl ⟨by decide,by decide⟩,_,_,rfl,rfl,_,rfl,_,_,rfl,rfl,_,_,rfl,rfl,(by show(0:Int)<2147483587;decide),_,_,rfl,rfl,⟨by decide,by decide⟩,_,rfl,_,_,rfl,rfl,hm,?_⟩;exact q _ _ (Int.emod_nonneg _ (by omega)) (Int.emod_lt_of_pos _ hm) S1 b1
theorem NT:bx ["_law_state","_law_most"] ["_law_state","_law_most"] (aX wH):=by walk_at "s"
theorem NU {f g h:Addr}{fd gd hd:FuncData}(F:fD K "_law_take" "_law_take" wH f fd)(G:cU P w K mg base du 1 g gd ["_law_state","_law_most"] (j8 K))(bG:Binds K gd ["_law_state","_law_most"] [])(kG:PySem.W.keepIn K (.ref g)=true)(mG:mg "_law_digit"=some (.ref g))
  (G2:cU P w K mg base du 1 h hd ["_law_state","_law_most"] (j8 K))(NV:Binds K hd ["_law_state","_law_most"] [])(NW:PySem.W.keepIn K (.ref h)=true)(NX:mg "_law_mixed"=some (.ref h)) :
  cU P w K mg base du 2 f fd ["_law_state","_law_most"] (j8 K):=by
 refine F.ok NT (λvs H Q E h=>?_) (λaE A outer s H vs Q E hr h=>?_)
 ·obtain⟨d,a,n,D,m,rfl,_⟩:=h;rfl
 obtain⟨d,a,n,D,m,rfl,S,Sc,hn,hm,bc,q⟩:=h;have hu:=gB hr
 refine⟨_,eP (qD (kZ Bn (f7 hu (pv 0) cT (λ_ _=>rfl)) cR (fb _)) (jh (jQ (k7 G hr rfl mG kG bG .nil lh (b8 (pv 0) (b8 (pv 1) cO))))) qB)
  (jh (jQ (k7 G2 hr rfl NX NW NV .nil lh (b8 (pv 0) (b8 (pv 1) cO))))),?_⟩
 obtain⟨t,l,wy,hd,h1,h2,h3⟩:=S.ex;refine⟨_,rfl,d,_,rfl,fN (i:=3) hd rfl rfl,rfl,_,rfl,?_⟩;refine oT (λc=>?_) (λc=>?_)
 ·exact⟨_,rfl,_,rfl,d,a,n,D,m,rfl,S,Sc,hn,hm,bc,q⟩
 ·exact⟨_,rfl,_,rfl,d,a,n,D,m,rfl,S,Sc,hn,hm,bc,q⟩
end
open PySem.W PyProof.Rows
noncomputable abbrev eG:Program:=PySem.Challenge.pw_everyplan_k12_parts_at_ways
set_option maxHeartbeats 0 in
theorem NY:PySem.Challenge.rw_everyplan_k12_parts_at_ways.wellSaid=true:=by kernel_rfl
noncomputable def NZ (l:List Stmt):List Stmt:=l.filter λs=>match s with
 |.Assign [.Name x _] _ _=>!(x==("__name__":Str))
 |_=>true
noncomputable def j9:Program:={ eG with main:={ eG.main with body:=NZ eG.main.body } }
noncomputable abbrev rH:aq:=["ASK_SIZES","COND_PLACES"]
noncomputable abbrev aW (P:Params)(k:Str)(t:Tok)(v:Value):DictEntry:=.mk (PyData.keyHash P k) (.str k t) v
noncomputable abbrev Ck (n q:Str)(s:Stmt):=FuncData.mk n q (L2.iQ s) (FuncBody.stmts (L2.fB s)) (L2.aX s)
noncomputable abbrev oX:Life:=.mk [] [] [] 0 [] [] false #[] [] 0 false false false 0 [2000,10,10] false 0 true [] [] 0 false
noncomputable def o3 (P:Params):Obj:=(Obj.mk (.type "dict") none (Data.dict (toArray ((aW P "__name__" 165 (.str "law_everyplan_k12_parts_at_ways" 334))::(aW P "__doc__" 166 .none)::(aW P "__package__" 167 .none)::(aW P "__loader__" 168 (.builtin "__main__.__loader__#opaque"))::(aW P "__spec__" 169 .none)::(aW P "__annotations__" 170 (.ref 6))::(aW P "__builtins__" 171 (.ref 4))::(aW P "__file__" 173 (.str "/claim/cut.py" 172))::(aW P "__cached__" 174 .none)::(aW P "is_whole" 195 (.ref 21))::(aW P "replaced" 209 (.ref 28))::(aW P "ASK_SIZES" 256 (.ref 29))::(aW P "COND_PLACES" 272 (.ref 41))::(aW P "asks_within" 279 (.ref 48))::(aW P "some_paths" 291 (.ref 55))::(aW P "child_paths" 297 (.ref 60))::(aW P "children" 303 (.ref 65))::(aW P "path_to" 314 (.ref 72))::(aW P "part_at" 323 (.ref 79))::(aW P "with_part" 333 (.ref 86))::(aW P "_law_begin" 344 (.ref 93))::(aW P "_law_digit" 353 (.ref 100))::(aW P "_law_mixed" 364 (.ref 107))::(aW P "_law_take" 372 (.ref 114))::(aW P "_law_word" 380 (.ref 121))::(aW P "_law_new" 388 (.ref 128))::(aW P "_law_merged" 397 (.ref 135))::(aW P "_law_value" 406 (.ref 142))::(aW P "_law_world" 412 (.ref 147))::(aW P "_law_sum" 418 (.ref 152))::(aW P "_law_kind" 424 (.ref 157))::(aW P "_law_cond" 440 (.ref 164))::(aW P "_law_meeting" 446 (.ref 169))::(aW P "_law_part" 452 (.ref 174))::(aW P "_law_shown" 470 (.ref 181))::(aW P "_law_both" 487 (.ref 188))::(aW P "_law_grouped" 493 (.ref 193))::(aW P "_law_keys" 504 (.ref 200))::(aW P "_law_ask" 517 (.ref 207))::(aW P "_law_added" 536 (.ref 214))::(aW P "_law_somes" 545 (.ref 221))::(aW P "_law_children" 552 (.ref 228))::(aW P "_law_cond_with" 565 (.ref 235))::(aW P "_law_with" 578 (.ref 242))::(aW P "_law_way" 589 (.ref 249))::(aW P "_law_along" 599 (.ref 256))::(aW P "_law_many" 605 (.ref 261))::(aW P "_law_twice_right" 619 (.ref 268))::(aW P "_law_joined" 628 (.ref 275))::(aW P "_law_somes_right" 643 (.ref 282))::(aW P "law" 649 (.ref 287))::[])) 51) #[])
noncomputable def q1:Obj:=(Obj.mk (.type "tuple") none (Data.seq #[] 0) #[])
noncomputable def rJ:aC:=([(2,20),(5,27),(16,47),(18,54),(33,59),(39,64),(41,71),(52,78),(55,85),(59,92),(66,99),(73,106),(82,113),(86,120),(88,127),(92,134),(96,141),(103,146),(116,151),(129,156),(132,163),(148,168),(160,173),(165,180),(180,187),(189,192),(202,199),(208,206),(226,213),(236,220),(244,227),(254,234),(266,241),(275,248),(283,255),(293,260),(295,267),(310,274),(315,281),(328,286)]:List (Int×Nat)).flatMap λp=>[.int p.1 0,.int 0 0,.ref p.2]
noncomputable def oY:Obj:=(Obj.mk .none none (Data.fields (toArray rJ)) #[])
noncomputable def q2:Obj:=(Obj.mk .none none (Data.fields #[]) #[])
noncomputable def N0:=q2
noncomputable def q3 (x0:Str)(x1:Nat):Obj:=(Obj.mk (.type "tuple") none (Data.seq (toArray ((.str x0 x1)::[])) 0) #[])
noncomputable def q4 (x0:Str)(x1:Nat):Obj:=(Obj.mk .none none (Data.func (Ck x0 x0 (top x1) 0 [] .none .none .none .none none .none .none 0)) #[])
noncomputable def q5 (x0:Str)(x1:Nat)(x2:Nat)(x3:Nat)(x4:Int)(x5:Int)(x6:Nat)(x7:Nat)(x8:Nat)(x9:Nat)(oZ:Nat)(xk:Int)(xl:Nat):Obj:=(Obj.mk (.type "code") none (Data.fields (toArray ((.str x0 x1)::((.str x0 x2)::((.str "/claim/cut.py" x3)::((.int x4 0)::((.int x5 0)::((.int 0 0)::((.int 0 0)::((.int 3 0)::((.ref x6)::((.bool true)::((.int 181 0)::((.ref x7)::(.none::((.ref x8)::((.ref x9)::((.ref oZ)::((.int xk 0)::((.int x4 0)::((.str "/claim/cut.py" xl)::[]))))))))))))))))))))) #[])
noncomputable def Cm:=q5 "is_whole" 189 190 191 2 1 15 16 17 18 19 193 194
noncomputable def Cn:=q5 "replaced" 198 199 200 5 3 22 23 24 25 26 207 208
noncomputable def Co:=q5 "asks_within" 273 274 275 16 1 42 43 44 45 46 277 278
noncomputable def Cp:=q5 "some_paths" 280 281 282 18 2 49 50 51 52 53 289 290
noncomputable def Cq:=q5 "path_to" 304 305 306 41 2 66 67 68 69 70 312 313
noncomputable def Cr:=q5 "part_at" 315 316 317 52 2 73 74 75 76 77 321 322
noncomputable def Cs:=q5 "with_part" 324 325 326 55 3 80 81 82 83 84 331 332
noncomputable def Ct:=q5 "_law_begin" 336 337 338 59 1 87 88 89 90 91 342 343
noncomputable def Cu:=q5 "_law_digit" 345 346 347 66 2 94 95 96 97 98 351 352
noncomputable def Cv:=q5 "_law_mixed" 354 355 356 73 2 101 102 103 104 105 362 363
noncomputable def Cw:=q5 "_law_take" 365 366 367 82 2 108 109 110 111 112 370 371
noncomputable def Cy:=q5 "_law_word" 373 374 375 86 2 115 116 117 118 119 378 379
noncomputable def Cz:=q5 "_law_new" 381 382 383 88 1 122 123 124 125 126 386 387
noncomputable def CA:=q5 "_law_merged" 389 390 391 92 2 129 130 131 132 133 395 396
noncomputable def CB:=q5 "_law_value" 398 399 400 96 2 136 137 138 139 140 404 405
noncomputable def CC:=q5 "_law_cond" 425 426 427 132 4 158 159 160 161 162 438 439
noncomputable def CD:=q5 "_law_shown" 453 454 455 165 3 175 176 177 178 179 468 469
noncomputable def CF:=q5 "_law_both" 471 472 473 180 4 182 183 184 185 186 485 486
noncomputable def CG:=q5 "_law_keys" 494 495 496 202 2 194 195 196 197 198 502 503
noncomputable def CH:=q5 "_law_ask" 505 506 507 208 3 201 202 203 204 205 515 516
noncomputable def CI:=q5 "_law_added" 518 519 520 226 3 208 209 210 211 212 534 535
noncomputable def CJ:=q5 "_law_somes" 537 538 539 236 1 215 216 217 218 219 543 544
noncomputable def CK:=q5 "_law_children" 546 547 548 244 1 222 223 224 225 226 550 551
noncomputable def CL:=q5 "_law_cond_with" 553 554 555 254 3 229 230 231 232 233 563 564
noncomputable def CM:=q5 "_law_with" 566 567 568 266 3 236 237 238 239 240 576 577
noncomputable def CN:=q5 "_law_way" 579 580 581 275 2 243 244 245 246 247 587 588
noncomputable def CO:=q5 "_law_along" 590 591 592 283 2 250 251 252 253 254 597 598
noncomputable def CP:=q5 "_law_twice_right" 606 607 608 295 2 262 263 264 265 266 617 618
noncomputable def CQ:=q5 "_law_joined" 620 621 622 310 2 269 270 271 272 273 626 627
noncomputable def CS:=q5 "_law_somes_right" 629 630 631 315 5 276 277 278 279 280 641 642
noncomputable def q6 (x0:Str)(x1:Nat)(x2:Str)(x3:Nat)(x4:Nat):Obj:=(Obj.mk (.type "function") none (Data.func (Ck x0 x0 (top x1) 3 [] .none .none .none (.str x2 x3) none (.ref x4) .none 0)) #[])
noncomputable def CT:=q6 "is_whole" 1 "everyplan.values" 187 20
noncomputable def CU:=q6 "replaced" 3 "everyplan.walks" 196 27
noncomputable def CV:=q6 "asks_within" 7 "everyplan.asks" 210 47
noncomputable def CW:=q6 "some_paths" 8 "everyplan.asks" 210 54
noncomputable def CY:=q6 "child_paths" 9 "everyplan.asks" 210 59
noncomputable def CZ:=q6 "children" 10 "everyplan.asks" 210 64
noncomputable def C0:=q6 "path_to" 11 "everyplan.asks" 210 71
noncomputable def C1:=q6 "part_at" 12 "everyplan.asks" 210 78
noncomputable def C2:=q6 "with_part" 13 "everyplan.asks" 210 85
noncomputable def C3:=q6 "_law_begin" 15 "law_everyplan_k12_parts_at_ways" 334 92
noncomputable def C4:=q6 "_law_digit" 16 "law_everyplan_k12_parts_at_ways" 334 99
noncomputable def C5:=q6 "_law_mixed" 17 "law_everyplan_k12_parts_at_ways" 334 106
noncomputable def C6:=q6 "_law_take" 18 "law_everyplan_k12_parts_at_ways" 334 113
noncomputable def C7:=q6 "_law_word" 19 "law_everyplan_k12_parts_at_ways" 334 120
noncomputable def C8:=q6 "_law_new" 20 "law_everyplan_k12_parts_at_ways" 334 127
noncomputable def C9:=q6 "_law_merged" 21 "law_everyplan_k12_parts_at_ways" 334 134
noncomputable def C_:=q6 "_law_value" 22 "law_everyplan_k12_parts_at_ways" 334 141
noncomputable def Dc:=q6 "_law_world" 23 "law_everyplan_k12_parts_at_ways" 334 146
noncomputable def Dd:=q6 "_law_sum" 24 "law_everyplan_k12_parts_at_ways" 334 151
noncomputable def De:=q6 "_law_kind" 25 "law_everyplan_k12_parts_at_ways" 334 156
noncomputable def Dg:=q6 "_law_cond" 26 "law_everyplan_k12_parts_at_ways" 334 163
noncomputable def Dh:=q6 "_law_meeting" 27 "law_everyplan_k12_parts_at_ways" 334 168
noncomputable def Di:=q6 "_law_part" 28 "law_everyplan_k12_parts_at_ways" 334 173
noncomputable def Dj:=q6 "_law_shown" 29 "law_everyplan_k12_parts_at_ways" 334 180
noncomputable def Dk:=q6 "_law_both" 30 "law_everyplan_k12_parts_at_ways" 334 187
noncomputable def Dl:=q6 "_law_grouped" 31 "law_everyplan_k12_parts_at_ways" 334 192
noncomputable def Dm:=q6 "_law_keys" 32 "law_everyplan_k12_parts_at_ways" 334 199
noncomputable def Dn:=q6 "_law_ask" 33 "law_everyplan_k12_parts_at_ways" 334 206
noncomputable def Dq:=q6 "_law_added" 34 "law_everyplan_k12_parts_at_ways" 334 213
noncomputable def Dr:=q6 "_law_somes" 35 "law_everyplan_k12_parts_at_ways" 334 220
noncomputable def Ds:=q6 "_law_children" 36 "law_everyplan_k12_parts_at_ways" 334 227
noncomputable def Dt:=q6 "_law_cond_with" 37 "law_everyplan_k12_parts_at_ways" 334 234
noncomputable def Du:=q6 "_law_with" 38 "law_everyplan_k12_parts_at_ways" 334 241
noncomputable def Dv:=q6 "_law_way" 39 "law_everyplan_k12_parts_at_ways" 334 248
noncomputable def Dw:=q6 "_law_along" 40 "law_everyplan_k12_parts_at_ways" 334 255
noncomputable def Dx:=q6 "_law_many" 41 "law_everyplan_k12_parts_at_ways" 334 260
noncomputable def Dy:=q6 "_law_twice_right" 42 "law_everyplan_k12_parts_at_ways" 334 267
noncomputable def Dz:=q6 "_law_joined" 43 "law_everyplan_k12_parts_at_ways" 334 274
noncomputable def DA:=q6 "_law_somes_right" 44 "law_everyplan_k12_parts_at_ways" 334 281
noncomputable def DB:=q6 "law" 45 "law_everyplan_k12_parts_at_ways" 334 286
noncomputable def DC (P:Params):Obj:=(Obj.mk (.type "dict") none (Data.dict (toArray ((aW P "table" 212 (.ref 30))::((aW P "pick" 215 (.ref 31))::((aW P "show" 218 (.ref 32))::((aW P "join" 221 (.ref 33))::((aW P "left" 224 (.ref 34))::((aW P "half" 227 (.ref 35))::((aW P "lack" 230 (.ref 36))::((aW P "once" 233 (.ref 37))::((aW P "group" 236 (.ref 38))::((aW P "add" 239 (.ref 39))::((aW P "first" 242 (.ref 40))::[])))))))))))) 11) #[])
noncomputable def q7 (x0:Int)(x1:Nat)(x2:Int)(x3:Nat):Obj:=(Obj.mk (.type "tuple") none (Data.seq (toArray ((.int x0 x1)::((.int x2 x3)::[]))) 0) #[])
noncomputable def DF:=q7 3 213 0 214
noncomputable def DG:=q7 3 216 1 217
noncomputable def DH:=q7 3 219 1 220
noncomputable def DI:=q7 4 222 2 223
noncomputable def DJ:=q7 4 225 2 226
noncomputable def DK:=q7 4 228 2 229
noncomputable def DL:=q7 4 231 2 232
noncomputable def DM:=q7 2 234 1 235
noncomputable def DN:=q7 4 237 1 238
noncomputable def DO:=q7 3 240 2 241
noncomputable def DP:=q7 4 243 1 244
noncomputable def DQ (P:Params):Obj:=(Obj.mk (.type "dict") none (Data.dict (toArray ((aW P "pick" 257 (.int 2 258))::((aW P "join" 259 (.int 3 260))::((aW P "left" 261 (.int 3 262))::((aW P "half" 263 (.int 3 264))::((aW P "lack" 265 (.int 3 266))::[])))))) 5) #[])
noncomputable def q8 (x0:Str)(x1:Nat)(x2:Nat)(x3:Nat)(x4:Int)(x5:Int)(x6:Nat)(x7:Nat)(x8:Nat)(x9:Int)(oZ:Nat):Obj:=(Obj.mk (.type "code") none (Data.fields (toArray ((.str x0 x1)::((.str x0 x2)::((.str "/claim/cut.py" x3)::((.int x4 0)::((.int x5 0)::((.int 0 0)::((.int 0 0)::((.int 3 0)::((.ref x6)::((.bool true)::((.int 181 0)::((.ref x7)::(.none::(.none::(.none::((.ref x8)::((.int x9 0)::((.int x4 0)::((.str "/claim/cut.py" oZ)::[]))))))))))))))))))))) #[])
noncomputable def DR:=q8 "child_paths" 292 293 294 33 1 56 57 58 295 296
noncomputable def DS:=q8 "children" 298 299 300 39 1 61 62 63 301 302
noncomputable def DT:=q8 "_law_world" 407 408 409 103 1 143 144 145 410 411
noncomputable def DU:=q8 "_law_sum" 413 414 415 116 4 148 149 150 416 417
noncomputable def DV:=q8 "_law_kind" 419 420 421 129 2 153 154 155 422 423
noncomputable def DW:=q8 "_law_meeting" 441 442 443 148 4 165 166 167 444 445
noncomputable def DX:=q8 "_law_part" 447 448 449 160 2 170 171 172 450 451
noncomputable def DY:=q8 "_law_grouped" 488 489 490 189 3 189 190 191 491 492
noncomputable def DZ:=q8 "_law_many" 600 601 602 293 1 257 258 259 603 604
noncomputable def D0:=q8 "law" 644 645 646 328 1 283 284 285 647 648
noncomputable def q9 (x0:Str)(x1:Nat)(x2:Str)(x3:Nat)(x4:Str)(x5:Nat)(x6:Str)(x7:Nat)(x8:Str)(x9:Nat):Obj:=(Obj.mk (.type "tuple") none (Data.seq (toArray ((.str x0 x1)::((.str x2 x3)::((.str x4 x5)::((.str x6 x7)::((.str x8 x9)::[])))))) 0) #[])
noncomputable def f' (x0:Str)(x1:Nat)(x2:Str)(x3:Nat)(x4:Str)(x5:Nat):Obj:=(Obj.mk (.type "tuple") none (Data.seq (toArray ((.str x0 x1)::((.str x2 x3)::((.str x4 x5)::[])))) 0) #[])
noncomputable def mJ (x0:Nat)(x1:Str)(x2:Nat):Obj:=(Obj.mk (.type "tuple") none (Data.seq (toArray ((.str "_law_state" x0)::((.str x1 x2)::[]))) 0) #[])
noncomputable def lu (x0:Str)(x1:Nat)(x2:Str)(x3:Nat)(x4:Str)(x5:Nat)(x6:Str)(x7:Nat)(x8:Str)(x9:Nat)(oZ:Str)(xk:Nat)(xl:Str)(N1:Nat):Obj:=(Obj.mk (.type "tuple") none (Data.seq (toArray ((.str x0 x1)::((.str x2 x3)::((.str x4 x5)::((.str x6 x7)::((.str x8 x9)::((.str oZ xk)::((.str xl N1)::[])))))))) 0) #[])
noncomputable def N2 (P:Params):Obj:=match o3 P with
 |⟨a,b,.dict l _,s⟩=>⟨a,b,.dict ((aW P "__name__" 165 (.str "everyplan.asks" 210))::(l.toList.drop 1).take 12).toArray 13,s⟩
 |o=>o
noncomputable def N3:Obj:=(Obj.mk .none none (Data.fields (toArray (rJ.take 6))) #[])
noncomputable def N4 (P:Params):Obj:=match o3 P with
 |⟨a,b,.dict l _,s⟩=>⟨a,b,.dict (l.toList.take 25).toArray 25,s⟩
 |o=>o
noncomputable def N5:Obj:=(Obj.mk .none none (Data.fields (toArray (rJ.take 42))) #[])
noncomputable def N6 (P:Params):Obj:=match o3 P with
 |⟨a,b,.dict l _,s⟩=>⟨a,b,.dict (l.toList.take 38).toArray 38,s⟩
 |o=>o
noncomputable def N7:Obj:=(Obj.mk .none none (Data.fields (toArray (rJ.take 81))) #[])
noncomputable def rK (P:Params)(v3:Obj)(N8:Obj)(l:List Obj):List Obj:=(W.boot_o_0 P)::(W.boot_o_1 P)::(W.boot_o_2 P)::v3::(W.boot_o_4 P)::(W.boot_o_5 P)::(W.boot_o_6 P)::(W.boot_o_7 P)::(W.boot_o_8 P)::(W.boot_o_9 P)::(W.boot_o_10 P)::(q1 )::N8::(Obj.mk (.type "code") none (Data.fields (toArray ((.str "<module>" 182)::((.str "<module>" 183)::((.str "/claim/cut.py" 184)::((.int 1 0)::((.int 0 0)::((.int 0 0)::((.int 0 0)::((.int 0 0)::((.ref 11)::((.bool false)::((.int 181 0)::((.ref 12)::(.none::(.none::(.none::(.none::((.int 185 0)::((.int 1 0)::((.str "/claim/cut.py" 186)::[]))))))))))))))))))))) #[])::(Obj.mk (.type "frame") none Data.plain (toArray ((some (.ref 13))::((some (.ref 3))::((some (.ref 3))::(none::((some (.str "__main__" 164))::(none::((some (.ref 0))::[])))))))))::(q1 )::(q2 )::(q3 "thing" 192)::(q1 )::(q4 "is_whole" 1)::Cm::CT::(q1 )::(q2 )::(Obj.mk (.type "tuple") none (Data.seq (toArray ((.str "thing" 201)::((.str "path" 202)::((.str "other" 203)::((.str "passed" 204)::((.str "place" 205)::((.str "around" 206)::[]))))))) 0) #[])::(q1 )::(q4 "replaced" 3)::Cn::CU::DC P::DF::DG::DH::DI::DJ::DK::DL::DM::DN::DO::DP::DQ P::l
noncomputable def xm (P:Params)(l:List Obj):List Obj:=(q1 )::(q2 )::(q3 "ask" 276)::(q1 )::(q4 "asks_within" 7)::Co::CV::(q1 )::(q2 )::(Obj.mk (.type "tuple") none (Data.seq (toArray ((.str "cond" 283)::((.str "path" 284)::((.str "found" 285)::((.str "left" 286)::((.str "at" 287)::((.str "part" 288)::[]))))))) 0) #[])::(q1 )::(q4 "some_paths" 8)::Cp::CW::(q1 )::(q2 )::(q4 "child_paths" 9)::DR::CY::(q1 )::(q2 )::(q4 "children" 10)::DS::CZ::(q1 )::(q2 )::(q9 "ask" 307 "way" 308 "path" 309 "number" 310 "found" 311)::(q1 )::(q4 "path_to" 11)::Cq::C0::(q1 )::(q2 )::(f' "ask" 318 "way" 319 "found" 320)::(q1 )::(q4 "part_at" 12)::Cr::C1::(q1 )::(q2 )::(Obj.mk (.type "tuple") none (Data.seq (toArray ((.str "ask" 327)::((.str "way" 328)::((.str "part" 329)::((.str "found" 330)::[]))))) 0) #[])::(q1 )::(q4 "with_part" 13)::Cs::C2::(q1 )::(q2 )::(f' "_law_script" 339 "_law_way_here" 340 "_law_state" 341)::(q1 )::(q4 "_law_begin" 15)::Ct::C3::(q1 )::(q2 )::(f' "_law_state" 348 "_law_most" 349 "_law_found" 350)::(q1 )::(q4 "_law_digit" 16)::Cu::C4::(q1 )::(q2 )::(q9 "_law_state" 357 "_law_most" 358 "_law_script" 359 "_law_at" 360 "_law_cell" 361)::(q1 )::(q4 "_law_mixed" 17)::Cv::C5::(q1 )::(q2 )::(mJ 368 "_law_most" 369)::(q1 )::(q4 "_law_take" 18)::Cw::C6::(q1 )::(q2 )::(mJ 376 "_law_number" 377)::(q1 )::(q4 "_law_word" 19)::Cy::C7::l
noncomputable def D1 (P:Params)(l:List Obj):List Obj:=(q1 )::(q2 )::(mJ 384 "_law_number" 385)::(q1 )::(q4 "_law_new" 20)::Cz::C8::(q1 )::(q2 )::(f' "_law_here" 392 "_law_row" 393 "_law_both_here" 394)::(q1 )::(q4 "_law_merged" 21)::CA::C9::(q1 )::(q2 )::(f' "_law_state" 401 "_law_kind_here" 402 "_law_way_here" 403)::(q1 )::(q4 "_law_value" 22)::CB::C_::(q1 )::(q2 )::(q4 "_law_world" 23)::DT::Dc::(q1 )::(q2 )::(q4 "_law_sum" 24)::DU::Dd::(q1 )::(q2 )::(q4 "_law_kind" 25)::DV::De::(q1 )::(q2 )::(Obj.mk (.type "tuple") none (Data.seq (toArray ((.str "_law_state" 428)::((.str "_law_frame" 429)::((.str "_law_cols" 430)::((.str "_law_deep" 431)::((.str "_law_way_here" 432)::((.str "_law_ask_here" 433)::((.str "_law_more" 434)::((.str "_law_size" 435)::((.str "_law_one" 436)::((.str "_law_kind_here" 437)::[]))))))))))) 0) #[])::(q1 )::(q4 "_law_cond" 26)::CC::Dg::(q1 )::(q2 )::(q4 "_law_meeting" 27)::DW::Dh::(q1 )::(q2 )::(q4 "_law_part" 28)::DX::Di::(q1 )::(q2 )::(Obj.mk (.type "tuple") none (Data.seq (toArray ((.str "_law_state" 456)::((.str "_law_frame" 457)::((.str "_law_deep" 458)::((.str "_law_ask_here" 459)::((.str "_law_cols" 460)::((.str "_law_size" 461)::((.str "_law_shown_here" 462)::((.str "_law_pairs" 463)::((.str "_law_name" 464)::((.str "_law_way_here" 465)::((.str "_law_word_here" 466)::((.str "_law_turn" 467)::[]))))))))))))) 0) #[])::(q1 )::(q4 "_law_shown" 29)::CD::Dj::(q1 )::(q2 )::(Obj.mk (.type "tuple") none (Data.seq (toArray ((.str "_law_state" 474)::((.str "_law_frame" 475)::((.str "_law_word_here" 476)::((.str "_law_deep" 477)::((.str "_law_a" 478)::((.str "_law_mine" 479)::((.str "_law_one" 480)::((.str "_law_b" 481)::((.str "_law_yours" 482)::((.str "_law_other" 483)::((.str "_law_ask_here" 484)::[])))))))))))) 0) #[])::(q1 )::(q4 "_law_both" 30)::CF::Dk::(q1 )::(q2 )::(q4 "_law_grouped" 31)::DY::Dl::(q1 )::(q2 )::(q9 "_law_state" 497 "_law_cols" 498 "_law_left" 499 "_law_keys_here" 500 "_law_k" 501)::(q1 )::(q4 "_law_keys" 32)::CG::Dm::l
noncomputable def N9 (P:Params)(l:List Obj):List Obj:=(q1 )::(q2 )::(lu "_law_state" 508 "_law_frame" 509 "_law_deep" 510 "_law_way_here" 511 "_law_ask_here" 512 "_law_cols" 513 "_law_size" 514)::(q1 )::(q4 "_law_ask" 33)::CH::Dn::(q1 )::(q2 )::(Obj.mk (.type "tuple") none (Data.seq (toArray ((.str "_law_state" 521)::((.str "_law_frame" 522)::((.str "_law_deep" 523)::((.str "_law_ask_here" 524)::((.str "_law_cols" 525)::((.str "_law_size" 526)::((.str "_law_other" 527)::((.str "_law_others" 528)::((.str "_law_more" 529)::((.str "_law_word_here" 530)::((.str "_law_kind_here" 531)::((.str "_law_one" 532)::((.str "_law_two" 533)::[])))))))))))))) 0) #[])::(q1 )::(q4 "_law_added" 34)::CI::Dq::(q1 )::(q2 )::(f' "_law_cond_here" 540 "_law_found" 541 "_law_part_here" 542)::(q1 )::(q4 "_law_somes" 35)::CJ::Dr::(q1 )::(q2 )::(q3 "_law_ask_here" 549)::(q1 )::(q4 "_law_children" 36)::CK::Ds::(q1 )::(q2 )::(lu "_law_cond_here" 556 "_law_at" 557 "_law_part_here" 558 "_law_inner" 559 "_law_left" 560 "_law_found" 561 "_law_one" 562)::(q1 )::(q4 "_law_cond_with" 37)::CL::Dt::(q1 )::(q2 )::(lu "_law_ask_here" 569 "_law_way_here" 570 "_law_part_here" 571 "_law_made" 572 "_law_sides" 573 "_law_cond_here" 574 "_law_left" 575)::(q1 )::(q4 "_law_with" 38)::CM::Du::(q1 )::(q2 )::(q9 "_law_state" 582 "_law_ask_here" 583 "_law_way_here" 584 "_law_k" 585 "_law_some" 586)::(q1 )::(q4 "_law_way" 39)::CN::Dv::(q1 )::(q2 )::(Obj.mk (.type "tuple") none (Data.seq (toArray ((.str "_law_ask_here" 593)::((.str "_law_way_here" 594)::((.str "_law_step" 595)::((.str "_law_found" 596)::[]))))) 0) #[])::(q1 )::(q4 "_law_along" 40)::CO::Dw::(q1 )::(q2 )::(q4 "_law_many" 41)::DZ::Dx::(q1 )::(q2 )::(Obj.mk (.type "tuple") none (Data.seq (toArray ((.str "_law_ask_here" 609)::((.str "_law_other" 610)::((.str "_law_both_here" 611)::((.str "_law_twice" 612)::((.str "_law_i" 613)::((.str "_law_j" 614)::((.str "_law_sides" 615)::((.str "_law_inner" 616)::[]))))))))) 0) #[])::(q1 )::(q4 "_law_twice_right" 42)::CP::Dy::(q1 )::(q2 )::(f' "_law_words" 623 "_law_somes_here" 624 "_law_found" 625)::(q1 )::(q4 "_law_joined" 43)::CQ::Dz::(q1 )::(q2 )::(Obj.mk (.type "tuple") none (Data.seq (toArray ((.str "_law_words" 632)::((.str "_law_ask_here" 633)::((.str "_law_q" 634)::((.str "_law_other" 635)::((.str "_law_many_here" 636)::((.str "_law_some" 637)::((.str "_law_whole" 638)::((.str "_law_k" 639)::((.str "_law_others" 640)::[])))))))))) 0) #[])::(q1 )::(q4 "_law_somes_right" 44)::CS::DA::(q1 )::(q2 )::(q4 "law" 45)::D0::DB::l
noncomputable def j_:Params->Heap:=λP=>.mk (.mk ((rK P (o3 P) (oY) (xm P  (D1 P  (N9 P  [])))))) oX
noncomputable def rL:Params->Heap:=λP=>.mk (.mk ((W.boot_o_0 P)::(W.boot_o_1 P)::(W.boot_o_2 P)::(W.boot_o_3 P)::(W.boot_o_4 P)::(W.boot_o_5 P)::(W.boot_o_6 P)::(W.boot_o_7 P)::(W.boot_o_8 P)::(W.boot_o_9 P)::(W.boot_o_10 P)::(q1 )::N0::(Obj.mk (.type "code") none (Data.fields (toArray ((.str "<module>" 182)::((.str "<module>" 183)::((.str "/claim/cut.py" 184)::((.int 1 0)::((.int 0 0)::((.int 0 0)::((.int 0 0)::((.int 0 0)::((.ref 11)::((.bool false)::((.int 181 0)::((.ref 12)::(.none::(.none::(.none::(.none::((.int 185 0)::((.int 1 0)::((.str "/claim/cut.py" 186)::[]))))))))))))))))))))) #[])::(Obj.mk (.type "frame") none Data.plain (toArray ((some (.ref 13))::((some (.ref 3))::((some (.ref 3))::(none::((some (.str "__main__" 164))::(none::((some (.ref 0))::[])))))))))::[])) oX
noncomputable def D2:Params->Heap:=λP=>.mk (.mk ((rK P (N2 P) (N3) []))) oX
noncomputable def D3:Params->Heap:=λP=>.mk (.mk ((rK P (N4 P) (N5) (xm P  [])))) oX
noncomputable def D4:Params->Heap:=λP=>.mk (.mk ((rK P (N6 P) (N7) (xm P  (D1 P  []))))) oX
noncomputable def jr:List Stmt:=behindTheImports eG
noncomputable def mK:Env:=⟨eG.main.scope,mainNs,mainNs,[],Str.empty,none,.ref 13,some 14,0⟩
noncomputable abbrev ig:Code:=.body jr mK
noncomputable def o_:Params->Frag:=λP=>
 ((nat_lit 3),o3 P) ::
 ((nat_lit 20),Cm) ::
 ((nat_lit 21),CT) ::
 ((nat_lit 27),Cn) ::
 ((nat_lit 28),CU) ::
 ((nat_lit 29),DC P) ::
 ((nat_lit 30),DF) ::
 ((nat_lit 31),DG) ::
 ((nat_lit 32),DH) ::
 ((nat_lit 33),DI) ::
 ((nat_lit 34),DJ) ::
 ((nat_lit 35),DK) ::
 ((nat_lit 36),DL) ::
 ((nat_lit 37),DM) ::
 ((nat_lit 38),DN) ::
 ((nat_lit 39),DO) ::
 ((nat_lit 40),DP) ::
 ((nat_lit 41),DQ P) ::
 ((nat_lit 47),Co) ::
 ((nat_lit 48),CV) ::
 ((nat_lit 54),Cp) ::
 ((nat_lit 55),CW) ::
 ((nat_lit 59),DR) ::
 ((nat_lit 60),CY) ::
 ((nat_lit 64),DS) ::
 ((nat_lit 65),CZ) ::
 ((nat_lit 71),Cq) ::
 ((nat_lit 72),C0) ::
 ((nat_lit 78),Cr) ::
 ((nat_lit 79),C1) ::
 ((nat_lit 85),Cs) ::
 ((nat_lit 86),C2) ::
 ((nat_lit 92),Ct) ::
 ((nat_lit 93),C3) ::
 ((nat_lit 99),Cu) ::
 ((nat_lit 100),C4) ::
 ((nat_lit 106),Cv) ::
 ((nat_lit 107),C5) ::
 ((nat_lit 113),Cw) ::
 ((nat_lit 114),C6) ::
 ((nat_lit 120),Cy) ::
 ((nat_lit 121),C7) ::
 ((nat_lit 127),Cz) ::
 ((nat_lit 128),C8) ::
 ((nat_lit 134),CA) ::
 ((nat_lit 135),C9) ::
 ((nat_lit 141),CB) ::
 ((nat_lit 142),C_) ::
 ((nat_lit 146),DT) ::
 ((nat_lit 147),Dc) ::
 ((nat_lit 151),DU) ::
 ((nat_lit 152),Dd) ::
 ((nat_lit 156),DV) ::
 ((nat_lit 157),De) ::
 ((nat_lit 163),CC) ::
 ((nat_lit 164),Dg) ::
 ((nat_lit 168),DW) ::
 ((nat_lit 169),Dh) ::
 ((nat_lit 173),DX) ::
 ((nat_lit 174),Di) ::
 ((nat_lit 180),CD) ::
 ((nat_lit 181),Dj) ::
 ((nat_lit 187),CF) ::
 ((nat_lit 188),Dk) ::
 ((nat_lit 192),DY) ::
 ((nat_lit 193),Dl) ::
 ((nat_lit 199),CG) ::
 ((nat_lit 200),Dm) ::
 ((nat_lit 206),CH) ::
 ((nat_lit 207),Dn) ::
 ((nat_lit 213),CI) ::
 ((nat_lit 214),Dq) ::
 ((nat_lit 220),CJ) ::
 ((nat_lit 221),Dr) ::
 ((nat_lit 227),CK) ::
 ((nat_lit 228),Ds) ::
 ((nat_lit 234),CL) ::
 ((nat_lit 235),Dt) ::
 ((nat_lit 241),CM) ::
 ((nat_lit 242),Du) ::
 ((nat_lit 248),CN) ::
 ((nat_lit 249),Dv) ::
 ((nat_lit 255),CO) ::
 ((nat_lit 256),Dw) ::
 ((nat_lit 260),DZ) ::
 ((nat_lit 261),Dx) ::
 ((nat_lit 267),CP) ::
 ((nat_lit 268),Dy) ::
 ((nat_lit 274),CQ) ::
 ((nat_lit 275),Dz) ::
 ((nat_lit 281),CS) ::
 ((nat_lit 282),DA) ::
 ((nat_lit 286),D0) ::
 ((nat_lit 287),DB) ::
 []
noncomputable def pb:List Nat:=(nat_lit 3)::(nat_lit 20)::(nat_lit 21)::(nat_lit 27)::(nat_lit 28)::(nat_lit 29)::(nat_lit 30)::(nat_lit 31)::(nat_lit 32)::(nat_lit 33)::(nat_lit 34)::(nat_lit 35)::(nat_lit 36)::(nat_lit 37)::(nat_lit 38)::(nat_lit 39)::(nat_lit 40)::(nat_lit 41)::(nat_lit 47)::(nat_lit 48)::(nat_lit 54)::(nat_lit 55)::(nat_lit 59)::(nat_lit 60)::(nat_lit 64)::(nat_lit 65)::(nat_lit 71)::(nat_lit 72)::(nat_lit 78)::(nat_lit 79)::(nat_lit 85)::(nat_lit 86)::(nat_lit 92)::(nat_lit 93)::(nat_lit 99)::(nat_lit 100)::(nat_lit 106)::(nat_lit 107)::(nat_lit 113)::(nat_lit 114)::(nat_lit 120)::(nat_lit 121)::(nat_lit 127)::(nat_lit 128)::(nat_lit 134)::(nat_lit 135)::(nat_lit 141)::(nat_lit 142)::(nat_lit 146)::(nat_lit 147)::(nat_lit 151)::(nat_lit 152)::(nat_lit 156)::(nat_lit 157)::(nat_lit 163)::(nat_lit 164)::(nat_lit 168)::(nat_lit 169)::(nat_lit 173)::(nat_lit 174)::(nat_lit 180)::(nat_lit 181)::(nat_lit 187)::(nat_lit 188)::(nat_lit 192)::(nat_lit 193)::(nat_lit 199)::(nat_lit 200)::(nat_lit 206)::(nat_lit 207)::(nat_lit 213)::(nat_lit 214)::(nat_lit 220)::(nat_lit 221)::(nat_lit 227)::(nat_lit 228)::(nat_lit 234)::(nat_lit 235)::(nat_lit 241)::(nat_lit 242)::(nat_lit 248)::(nat_lit 249)::(nat_lit 255)::(nat_lit 256)::(nat_lit 260)::(nat_lit 261)::(nat_lit 267)::(nat_lit 268)::(nat_lit 274)::(nat_lit 275)::(nat_lit 281)::(nat_lit 282)::(nat_lit 286)::(nat_lit 287)::[]
theorem rM (P:Params):pb=(o_ P).map (·.1):=rfl
noncomputable abbrev rN:Hook:=kHook o_ pb rM
set_option maxHeartbeats 0 in
theorem N_ (w:World):((boot_heap w.params).isNs mainGlobals&&(#[]:Array GenState).size==0,(boot_heap w.params).objs.size,(boot_heap w.params).nsMap mainGlobals "__annotations__")=(true,11,some (.ref 6)):=by kernel_rfl
set_option maxHeartbeats 0 in
theorem Oa (w:World)(os:OsState):topGo treeTable eG w 11 (some (.ref 6)) 12 ⟨boot_heap w.params,#[],boot_drawn,boot_toks,os⟩ (topStub eG)=some (⟨rL w.params,#[],⟨0,0,0,0⟩,187,os⟩,⟨denote treeTable ig,ig,⟨0,0,0,0⟩,[topFrame ⟨0,0,0,0⟩]⟩):=by kernel_rfl
set_option maxHeartbeats 0 in
theorem Ob (w:World)(os:OsState):segRun treeTable eG w 11 (some (.ref 6)) 1 1 ⟨rL w.params,#[],⟨0,0,0,0⟩,187,os⟩ (blockOf jr mK ig ⟨0,0,0,0⟩ [topFrame ⟨0,0,0,0⟩])=some (.next,⟨rL w.params,#[],⟨0,0,0,0⟩,187,os⟩,ig,⟨0,0,0,0⟩):=by kernel_rfl
noncomputable def mL (w:World)(os:OsState):Prop:=segRun treeTable eG w 11 (some (.ref 6)) 1 384 ⟨rL w.params,#[],⟨0,0,0,0⟩,187,os⟩ (piecesOf (jr.take 7) mK ig ⟨0,0,0,0⟩ [topFrame ⟨0,0,0,0⟩])=some (.next,⟨D2 w.params,#[],⟨0,0,0,0⟩,273,os⟩,ig,⟨15,0,15,11⟩)
set_option maxHeartbeats 0 in
theorem Oc (w:World)(os:OsState):mL (w.withFollow "special-get-raises" true) os:=by unfold mL;kernel_rfl
set_option maxHeartbeats 0 in
theorem Od (w:World)(os:OsState):mL (w.withFollow "special-get-raises" false) os:=by unfold mL;kernel_rfl
theorem Oe (w:World)(os:OsState):mL w os:=by
 have h:∀ b,mL (w.withFollow "special-get-raises" b) os:=λb=>by
  cases b
  ·exact Od w os
  ·exact Oc w os
 have:=h (w.params.followText "special-get-raises");rwa [World.withFollow_self] at this
set_option maxHeartbeats 0 in
theorem Of (w:World)(os:OsState):segRun treeTable eG w 11 (some (.ref 6)) 1 376 ⟨D2 w.params,#[],⟨0,0,0,0⟩,273,os⟩ (piecesOf ((jr.drop 7).take 13) mK ig ⟨15,0,15,11⟩ [topFrame ⟨0,0,0,0⟩])=some (.next,⟨D3 w.params,#[],⟨0,0,0,0⟩,381,os⟩,ig,⟨86,0,87,80⟩):=by kernel_rfl
set_option maxHeartbeats 0 in
theorem Og (w:World)(os:OsState):segRun treeTable eG w 11 (some (.ref 6)) 1 399 ⟨D3 w.params,#[],⟨0,0,0,0⟩,381,os⟩ (piecesOf (((jr.drop 7).drop 13).take 13) mK ig ⟨86,0,87,80⟩ [topFrame ⟨0,0,0,0⟩])=some (.next,⟨D4 w.params,#[],⟨0,0,0,0⟩,505,os⟩,ig,⟨202,0,207,32⟩):=by kernel_rfl
set_option maxHeartbeats 0 in
theorem Oh (w:World)(os:OsState):topRun treeTable eG w 11 (some (.ref 6)) 528 ⟨D4 w.params,#[],⟨0,0,0,0⟩,505,os⟩ (restOf (((jr.drop 7).drop 13).drop 13) mK ig ⟨202,0,207,32⟩ [topFrame ⟨0,0,0,0⟩])=some ⟨j_ w.params,#[],⟨0,0,0,0⟩,650,os⟩:=by kernel_rfl
theorem Oi (w:World)(os:OsState):topRun treeTable eG w 11 (some (.ref 6)) 1700 ⟨boot_heap w.params,#[],boot_drawn,boot_toks,os⟩ (topStub eG)=some ⟨j_ w.params,#[],⟨0,0,0,0⟩,650,os⟩:=
 go_top (N:=1688) (Oa w os) (piece_block (N:=1687) (Ob w os) ((take_append_drop 7 jr)▸piece_app (N:=1303) (Oe w os) (((take_append_drop 13 (jr.drop 7))▸piece_app (N:=927) (Of w os) (((take_append_drop 13 ((jr.drop 7).drop 13))▸piece_app (N:=528) (Og w os) (Oh w os)))))))
set_option maxHeartbeats 0 in
theorem Oj (w:World):(λos=>((staticsOk (importedModules eG.main.body) (boot_heap w.params) (j_ w.params)&&namesBound eG (j_ w.params)&&gensDone ⟨j_ w.params,#[],⟨0,0,0,0⟩,650,os⟩&&laidKept (boot_heap w.params) (j_ w.params)),
    openSeen j9 rH (importedModules eG.main.body) (λs=>xlAt j9 [] s&&recOk [] s) true ⟨j_ w.params,#[],⟨0,0,0,0⟩,650,os⟩,Hook.obs rN ⟨j_ w.params,#[],⟨0,0,0,0⟩,650,os⟩))=λ_=>(true,openGood j9 rH,Hook.val rN w):=by kernel_rfl
theorem Ol:LeftO eG j9 rH (λs=>xlAt j9 [] s&&recOk [] s) (Hook.obs rN) (Hook.val rN) 1700:=
 LeftO.of_pieces (boot_open (by kernel_rfl) (by decide) λ_=>by kernel_rfl) N_ Oi rfl Oj
section
variable {P:Program}{w:World}{K:Frag}{mg:a0}{base:Heap}{tk:Addr}{td:FuncData}
structure Tk (P:Program)(w:World)(K:Frag)(mg:a0)(base:Heap)(tk:Addr)(td:FuncData):Prop where
 G:cU P w K mg base du 2 tk td ["_law_state","_law_most"] (j8 K)
 b:Binds K td ["_law_state","_law_most"] []
 k:PySem.W.keepIn K (.ref tk)=true
 m:mg "_law_take"=some (.ref tk)
noncomputable def dw (B:Bs):Prop:=0<=B.z/\B.z<26
noncomputable def xn (K:Frag):Sp:=λvs H Q _=>∃ a,vs=[.ref a]/\rp K H a/\∀(d:Addr)(B:Bs)(H':Hp),H d=none->dw B->cF H' d a 10 B->aS H H'->Q (.ref d) H'
theorem rO:bx ["_law_script","_law_way_here","_law_state"] ["_law_script"] (aX wD):=by walk_at "s"
noncomputable def rP (a:Addr)(wy:Int):bj:=[(.inr "script",.ref a),(.inr "at",.int 1),(.inr "left",.int 0),(.inr "way",.int wy),(.inr "names",.int 0),(.inr "parts",.int 0),(.inr "turn",.int 0)]
theorem D5 (a:Addr)(wy:Int):hV [] (rP a wy)=SK.zip (SV a 1 0 wy ⟨0,0,"",0,0,none⟩):=B8 (rP a wy) [] (show SK.Nodup from vX)
theorem Om {f:Addr}{fd:FuncData}(F:fD K "_law_begin" "_law_begin" wD f fd)(B:Bt mg)(T:Tk P w K mg base tk td):cU P w K mg base du 3 f fd ["_law_script"] (xn K):=by
 refine F.ok rO (λvs H Q E h=>?_) (λaE A outer s H vs Q E hr h=>?_)
 ·obtain⟨a,rfl,_⟩:=h;rfl
 obtain⟨a,rfl,Sc,q⟩:=h;have hu:=gB hr
 refine⟨_,eP (gu (i:=1) rO.nd rfl (Or.inl rfl) cR)
  (eP (qD (kZ qK (hU oM (by rfl) B.len PySem.boot_len (b8 (pv 0) cO)) cR (fb _)) (jh (gu (i:=1) rO.nd rfl (Or.inl rfl) (cY jV (ra rb (pv 0) cR (λ_ _=>rfl)) cR))) qB)
  (eP (gu (i:=2) rO.nd rfl (Or.inl rfl) (BJ (j0 cT (pv 0) (j0 cT cR (j0 cT cR (j0 cT (pv 1) (j0 cT cR (j0 cT cR (j0 cT cR BH))))))) rfl rfl (by simp) (by decide)))
  (eP (jZ hu (pv 2) cT (k7 T.G hr rfl T.m T.k T.b .nil lh (b8 (pv 2) (b8 cR cO))) rfl)
  (jh (jQ (pv 2)))))),?_⟩
 obtain⟨ns,hS,hl⟩:=id Sc
 have fin:∀(wy:Int)(p:Addr),H p=none->∀ H1,H1=upd (upd H p (.dK [])) p (.dK (SK.zip (SV a 1 0 wy ⟨0,0,"",0,0,none⟩)))->cF H1 p a 0 ⟨0,0,"",0,0,none⟩/\cB p H H1/\rp K H1 a:=λwy p hp H1 e=>by
  subst e;have b1:cB p H (upd (upd H p (.dK [])) p (.dK (SK.zip (SV a 1 0 wy ⟨0,0,"",0,0,none⟩)))):=((cB.refl p H).upd _).upd _;refine⟨⟨⟨1,0,wy,bE,by decide,by decide,by decide⟩,λT o z=>by cases z⟩,b1,ns,?_,hl⟩;rcases hS with (h|⟨o,h⟩)|h
  ·exact .inl (.inl (b1 _ _ h (dG h hp)))
  ·exact .inl (.inr ⟨o,b1 _ _ h (dG h hp)⟩)
  ·exact .inr h
 have rest:∀(p:Addr)(H1:Hp),H p=none->cF H1 p a 0 ⟨0,0,"",0,0,none⟩->cB p H H1->∀(r2:Int)(H4:Hp),0<=r2->r2<26->cF H4 p a (0+1) ⟨0,0,"",0,0,none⟩->cB p H1 H4->∃ H',iN H4 p (.str "turn") (.int r2) H'/\Q (.ref p) H':=λp H1 hp S1 b1 r2 H4 s0 s1 S4 b4=>by
  obtain⟨t4,l4,w4,Oo,g1,g2,g3⟩:=S4.ex;refine⟨_,dput (i:=6) Oo rfl rfl,?_⟩;refine q p { nm:=0,pt:=0,x:="",z:=r2,y:=0,tb:=none } _ hp ⟨s0,s1⟩ ⟨⟨t4,l4,w4,bE,g1,by omega,g3⟩,S4.vY rfl⟩ λc o e=>?_;exact((b1.trans b4).upd _) c o e (dG e hp)
 refine⟨_,rfl,a,_,rfl,.inl hS,_,_,rfl,rfl,_,rfl,?_⟩;refine oT (λc=>?_) (λc=>?_)
 ·have c':(0:Int)<((ns.map V.int).length:Int):=of_decide_eq_true c;rw[length_map] at c';obtain⟨v,hv⟩:=v7 (ns:=ns) (k:=0) (by decide) c';refine⟨_,rfl,a,_,_,_,rfl,rfl,hS,hv,_,_,rfl,rfl,(by show(0:Int)<2;decide),?_⟩;refine λp hp=>⟨_,rfl,_,rfl,bE,rP a (v % 2),rfl,(by show 7<=15;decide),?_⟩;rw[D5];obtain⟨S1,b1,sc⟩:=fin (v % 2) p hp _ rfl;refine⟨_,rfl,p,a,0,_,26,rfl,S1,sc,by decide,by decide,by decide,λr2 H4 s0 s1 S4 b4=>?_⟩;obtain⟨H',d1,q1⟩:=rest p _ hp S1 b1 r2 H4 s0 s1 S4 b4;exact⟨_,rfl,p,_,rfl,d1,_,rfl,q1⟩
 ·refine λp hp=>⟨_,rfl,_,rfl,bE,rP a 0,rfl,(by show 7<=15;decide),?_⟩;rw[D5];obtain⟨S1,b1,sc⟩:=fin 0 p hp _ rfl;refine⟨_,rfl,p,a,0,_,26,rfl,S1,sc,by decide,by decide,by decide,λr2 H4 s0 s1 S4 b4=>?_⟩;obtain⟨H',d1,q1⟩:=rest p _ hp S1 b1 r2 H4 s0 s1 S4 b4;exact⟨_,rfl,p,_,rfl,d1,_,rfl,q1⟩
end
end cV
namespace L2
open PySem
section
variable {M:Model}{A:Around}{E:aG}{s:Shared}
theorem Oq {src:Source}{n:Nat}{Q:Nat->Shared->Prop}(hn:n≠0)(h:∀ i dr,i<n->Q i { s with drawn:=dr }):wpAny M A (choose src n) Q E s:=fun Γ p ZV=>by
 show Sem.wp M Γ (Sem.choose src n .pure) _ _ _ _;rw[Sem.wp_choose];exact⟨hn,h _ _ (Nat.mod_lt _ (Nat.pos_of_ne_zero hn))⟩
theorem xo {α:Type}:∀(l:List α)(i:Nat)(h:i<l.length),(l[i]::l.eraseIdx i).Perm l
 |a::r,0,_=>.refl _
 |a::r,i+1,h=>by
  have hi:i<r.length:=by simpa using h
  show(r[i]::a::r.eraseIdx i).Perm (a::r);exact(Perm.swap a r[i] (r.eraseIdx i)).trans ((xo r i hi).cons a)
theorem D6 {α:Type}:∀(n:Nat)(xs:List α)(s:Shared)(Q:List α->Shared->Prop),xs.length=n->(∀ ys dr,ys.Perm xs->Q ys { s with drawn:=dr })->wpAny M A (drawOrder n xs) Q E s
 |0,[],s,Q,_,h=>by
  unfold drawOrder;exact ao (h [] s.drawn (.refl _))
 |0,_::_,_,_,hl,_=>by simp at hl
 |n+1,[],_,_,hl,_=>by simp at hl
 |n+1,x::r,s,Q,hl,h=>by
  show wpAny M A (choose .order (x::r).length >>= λi=>_) Q E s;refine af (Oq (by simp) λi dr hi=>?_);rw[cg hi];dsimp only;refine af (D6 n ((x::r).eraseIdx i) _ _ (by rw[length_eraseIdx_of_lt hi];simpa using hl) λys Ot hp=>?_);exact ao (h _ Ot ((hp.cons _).trans (xo _ i hi)))
end
theorem D7 {α:Type}(next:Nat->Nat):∀(fuel k:Nat)(left:List α)(out:Array α),left.length=fuel->(pickOrder.go next fuel k left out).toList.Perm (out.toList++left)
 |0,_,[],out,_=>by
  unfold pickOrder.go;rw[append_nil]
 |0,_,_::_,_,hl=>by simp at hl
 |fuel+1,k,left,out,hl=>by
  unfold pickOrder.go;have Ou:0<left.length:=by omega
  have hi:next k % left.length<left.length:=Nat.mod_lt _ Ou
  rw[cg hi];dsimp only;refine(D7 next fuel (k+1) _ _ (by rw[length_eraseIdx_of_lt hi];omega)).trans ?_;rw[Array.toList_push,append_assoc];exact(xo left _ hi).append_left _
theorem Ov {α:Type}(next:Nat->Nat)(xs:Array α):(pickOrder next xs).toList.Perm xs.toList:=by
 have z:=D7 next xs.size 0 xs.toList #[] (by simp)
 simpa [pickOrder] using z
theorem Ow (t:SetTable)(n:Nat):(t.orStandIn n).led=t.led/\((t.orStandIn n).plain=t.plain\/(t.orStandIn n).plain=false):=by
 unfold SetTable.orStandIn
 split
 ·exact⟨rfl,.inl rfl⟩
 ·exact⟨rfl,.inr rfl⟩
theorem Ox (t:SetTable)(es:Array (Int×Value))(h:Int)(x:Value):(layNew t es h x).2.1.led=t.led/\((layNew t es h x).2.1.plain=t.plain\/(layNew t es h x).2.1.plain=false):=by
 unfold layNew
 split
 ·rename_i slot wd _;exact Ow (t.put slot).1 _
 ·exact⟨rfl,.inr rfl⟩
theorem Oy (t:SetTable)(es:Array (Int×Value))(n:Nat):(relayAll t es n).2.1.led=t.led/\((relayAll t es n).2.1.plain=t.plain\/(relayAll t es n).2.1.plain=false):=by
 unfold relayAll
 split
 ·rename_i t' order e
  have ht:t'.led=t.led/\t'.plain=t.plain:=by
   unfold SetTable.relaid SetTable.laid at e
   cases hc:SetTable.layClean (SetTable.sizeAbove n-1) (es.map (·.1)) with
   |none=>rw[hc] at e;cases e
   |some ow=>
    rw[hc] at e;simp only[Option.pure_def,Option.bind_eq_bind,Option.bind_some,Option.some.injEq,Prod.mk.injEq] at e;rw[<- e.1];exact⟨rfl,rfl⟩
  dsimp only
  split
  ·exact⟨ht.1,.inl ht.2⟩
  ·exact⟨rfl,.inr rfl⟩
 ·exact⟨rfl,.inr rfl⟩
noncomputable def tx:Value->Str
 |.str z _=>z
 |_=>""
theorem rQ {prog:Program}{w:World}{z:Str}{v:Value}(h:(PySem.strKind prog w).is z v=true):tx v=z/\∃ t,v=.str z t:=by
 obtain⟨t,rfl⟩:=Value.isStrOf_shape h;exact⟨rfl,t,rfl⟩
theorem D8 (prog:Program)(w:World)(z:Str)(t:Tok):(PySem.strKind prog w).is z (.str z t)=true:=by
 show Value.isStrOf z (.str z t)=true;simp [Value.isStrOf]
noncomputable def eI (zs:aq)(z:Str):aq:=if z∈zs then zs else zs++[z]
noncomputable def c_ (ys:aq):aq:=ys.foldl eI []
theorem Oz {zs:aq}{z y:Str}:y∈eI zs z↔y∈zs\/y=z:=by
 unfold eI
 split
 ·rename_i hz;exact⟨.inl,λh=>h.elim id λe=>e▸hz⟩
 ·rw[mem_append,mem_singleton]
theorem D9:∀(ys zs:aq)(z:Str),z∈ys.foldl eI zs↔z∈zs\/z∈ys
 |[],zs,z=>by simp
 |y::r,zs,z=>by
  show z∈r.foldl eI (eI zs y)↔_;rw[D9 r,Oz,mem_cons,or_assoc]
theorem OA {ys:aq}{z:Str}:z∈c_ ys↔z∈ys:=by
 unfold c_;rw[D9];simp
structure cj (prog:Program)(w:World)(lb:Bool)(h:Heap)(a:Addr)(zs:aq)(es:Array (Int×Value))(ep:Nat)(t:SetTable):Prop where
 get:∃ o,h.get? a=some o/\o.ExactSet/\o.data=.set es ep t
 el:ElemsOf (PySem.strKind prog w) es.toList
 aF:es.size<scanBound
 fits:t.fits es.size=true
 led:t.led=lb
 pl:es.size=0\/t.plain=false
 ks:(es.toList.map λe=>tx e.2).Perm zs
section
variable {prog:Program}{w:World}{A:Around}{E:aG}{s:Shared}{a:Addr}{lb:Bool}
theorem D_ {h:Heap}{o:Obj}{es dI:Array (Int×Value)}{ep:Nat}{t t':SetTable}{zs:aq}(ho:h.get? a=some o)(hx:o.ExactSet)(hd:o.data=.set es ep t)
  (el:ElemsOf (PySem.strKind prog w) dI.toList)(aF:dI.size<scanBound)(fits:t'.fits dI.size=true)(led:t'.led=lb)(pl:dI.size=0\/t'.plain=false)(ks:(dI.toList.map λe=>tx e.2).Perm zs) :
  (h.update a (Obj.putSet dI t')).get? a=some { o with data:=.set dI (ep+1) t' }/\cj prog w lb (h.update a (Obj.putSet dI t')) a zs dI (ep+1) t':=by
 have g:(h.update a (Obj.putSet dI t')).get? a=some { o with data:=.set dI (ep+1) t' }:=by
  have z:=Heap.get?_update_self (Obj.putSet dI t') ho (by rw[putSet_of dI t' hd];rfl);rwa [putSet_of dI t' hd] at z
 exact⟨g,⟨_,g,hx,rfl⟩,el,aF,fits,led,pl,ks⟩
theorem D' {g:Bool->Sem Unit}(hg:∀(b:Bool)(aU:Shared)(Q':Unit->Shared->Prop),Q' () aU->wpAny (model prog w) A (g b) Q' E aU)
  {o:Obj}{es:Array (Int×Value)}{ep:Nat}{t:SetTable}(ho:s.heap.get? a=some o)(hx:o.ExactSet)(hd:o.data=.set es ep t)
  {e1:Array (Int×Value)}{t1:SetTable}{zs:aq}(el:ElemsOf (PySem.strKind prog w) e1.toList)(aF:e1.size<scanBound)(fits:t1.fits e1.size=true)(led:t1.led=lb)(pl:t1.plain=false)
  (ks:(e1.toList.map λe=>tx e.2).Perm zs){dm:Bool}{R:Option Bool->Shared->Prop}
  (h:∀ h' e2 p2 t2,Heap.SameBut a s.heap h'->cj prog w lb h' a zs e2 p2 t2->R (some true) { s with heap:=h' }) :
  wpAny (model prog w) A (do
    storeSet a e1 t1
    if (!dm&&t1.tooFull)=true then do
      g (relayAll t1 e1 (SetTable.grown e1.size)).2.2
      storeSet a (relayAll t1 e1 (SetTable.grown e1.size)).1 (relayAll t1 e1 (SetTable.grown e1.size)).2.1
      pure (some true)
     else pure (some true)) R E s:=by
 refine af (wpAny_storeSet_of ho hd ?_ (fits_of_scanBound aF));obtain⟨o1,T1⟩:=D_ (prog:=prog) (w:=w) (lb:=lb) ho hx hd el aF fits led (.inr pl) ks;have b1:=Heap.SameBut.update s.heap a (Obj.putSet e1 t1)
 split
 ·have p2:=relayAll_perm t1 e1 (SetTable.grown e1.size);have f2:=relayAll_fits t1 e1 (SetTable.grown e1.size);have l2:=Oy t1 e1 (SetTable.grown e1.size);generalize relayAll t1 e1 (SetTable.grown e1.size)=Rl at p2 f2 l2 ⊢;obtain⟨e2,t2,gv⟩:=Rl;dsimp only at p2 f2 l2 ⊢;have z2:e2.size=e1.size:=by rw[<- Array.length_toList,p2.length_eq,Array.length_toList]
  refine af (hg _ _ _ ?_);refine af (wpAny_storeSet_of o1 rfl ?_ (fits_of_scanBound (by rw[z2];exact aF)));obtain⟨_,T2⟩:=D_ (prog:=prog) (w:=w) (lb:=lb) (zs:=zs) o1 hx rfl (el.perm p2) (by rw[z2];exact aF) f2 (l2.1.trans led) (.inr (l2.2.elim (λe=>e.trans pl) id)) ((p2.map _).trans ks);exact ao (h _ _ _ _ (b1.trans (Heap.SameBut.update _ a _)) T2)
 ·exact ao (h _ _ _ _ b1 T1)
theorem OB {z:Str}{tk:Tok}{zs:aq}{es:Array (Int×Value)}{ep:Nat}{t:SetTable}{Q:Bool->Shared->Prop}(T:cj prog w lb s.heap a zs es ep t)(room:zs.length+1<scanBound)
  (h:∀ b h' e2 p2 t2,Heap.SameBut a s.heap h'->cj prog w lb h' a (eI zs z) e2 p2 t2->Q b { s with heap:=h' }) :
  wpAny (model prog w) A (setAddHashed a (.str z tk) ((PySem.strKind prog w).hash z)) Q E s:=by
 obtain⟨⟨o,ho,hx,hd⟩,el,aF,fits,led,pl,ks⟩:=T
 have hlen:es.size=zs.length:=by
  have q:=ks.length_eq;rwa [length_map,Array.length_toList] at q
 have hk:=D8 prog w z tk;have xp:(Value.str z tk).scannable=true:=rfl;unfold setAddHashed setAddHashedIn;refine wpAny_holding (af (wpAny_setState_of ho hd fits ?_));dsimp only;rw[if_pos (byScan_of xp aF el)];refine af ?_;unfold setAddByScan;refine af (wpAny_rule ?_);refine af (wpAny_setScan_of hk ho hd fits el ?_)
 have xq:∀ e∈es.toList,((PySem.strKind prog w).is z e.2=true↔tx e.2=z):=λe he=>by
  obtain⟨⟨k,iR,_⟩,_⟩:=el e he;obtain⟨e1,u,e2⟩:=rQ iR;refine⟨λq=>(rQ q).1,λq=>?_⟩;rw[e1] at q;subst q;exact iR
 cases hr:findIdx? (λe:Int×Value=>(PySem.strKind prog w).is z e.2) es.toList with
 |some j=>
  dsimp only;obtain⟨hj,OD,_⟩:=findIdx?_eq_some_iff_getElem.mp hr;have hz:z∈zs:=ks.mem_iff.mp (mem_map.mpr ⟨es.toList[j],getElem_mem hj,(rQ OD).1⟩);refine ao (ao ?_);have q:=h false s.heap es ep t (Heap.SameBut.refl a s.heap) ⟨⟨o,ho,hx,hd⟩,el,aF,fits,led,pl,by unfold eI;rw[if_pos hz];exact ks⟩;cases s;exact q
 |none=>
  dsimp only
  have hz:z∉zs:=λm=>by
   obtain⟨e,he,q⟩:=mem_map.mp (ks.mem_iff.mpr m);have no:=findIdx?_eq_none_iff.mp hr e he;rw[(xq e he).mpr q] at no;cases no
  have give:∀(b:Bool){aU:Shared}{Q':Unit->Shared->Prop},Q' () aU->wpAny (model prog w) A (match b with|true=>rule "set.scan.the-table-gave-way"|false=>pure ()) Q' E aU:=λb aU Q' q=>by
   cases b
   ·exact ao q
   ·exact wpAny_rule q
  have p1:=layNew_perm t es ((PySem.strKind prog w).hash z) (.str z tk);have f1:=layNew_fits t es ((PySem.strKind prog w).hash z) (.str z tk);have l1:=Ox t es ((PySem.strKind prog w).hash z) (.str z tk);generalize layNew t es ((PySem.strKind prog w).hash z) (.str z tk)=L at p1 f1 l1 ⊢;obtain⟨e1,t1,dm,gv⟩:=L;dsimp only at p1 f1 l1 ⊢;rw[Array.toList_push] at p1;have Ea:ElemsOf (PySem.strKind prog w) e1.toList:=(el.push hk xp).perm p1;have z1:e1.size=es.size+1:=by rw[<- Array.length_toList,p1.length_eq,length_append,Array.length_toList];rfl
  have Eb:e1.size<scanBound:=by rw[z1,hlen];exact room
  have Ec:(e1.toList.map λe=>tx e.2).Perm (eI zs z):=by
   unfold eI;rw[if_neg hz];refine(p1.map _).trans ?_;rw[map_append];exact ks.append_right _
  refine af (give _ ?_);have fin:∀ h' e2 p2 t2,Heap.SameBut a s.heap h'->cj prog w lb h' a (eI zs z) e2 p2 t2->Q true { s with heap:=h' }:=λh' e2 p2 t2 b T2=>h true h' e2 p2 t2 b T2
  split
  ·refine af ?_;rw[hashByValue_scannable 8 xp];refine ao ?_;refine D' (prog:=prog) (w:=w) (lb:=lb) (zs:=eI zs z) (λb aU Q' q=>?_) ho hx hd Ea Eb ?_ ?_ ?_ Ec (λh' e2 p2 t2 b T2=>?_)
   ·cases b
    ·exact ao q
    ·exact wpAny_rule q
   ·split
    ·exact f1
    ·exact SetTable.fits_plain_off f1
   ·split
    ·exact l1.1.trans led
    ·exact l1.1.trans led
   ·rfl
   ·dsimp only;exact ao (fin h' e2 p2 t2 b T2)
  ·rename_i hpl;refine af (ao ?_);simp only[↓reduceIte];refine D' (prog:=prog) (w:=w) (lb:=lb) (zs:=eI zs z) (λb aU Q' q=>?_) ho hx hd Ea Eb f1 (l1.1.trans led) (by simpa using hpl) Ec (λh' e2 p2 t2 b T2=>?_)
   ·cases b
    ·exact ao q
    ·exact wpAny_rule q
   ·dsimp only;exact ao (fin h' e2 p2 t2 b T2)
end
open PyProof.Rows
theorem xr:∀{vs:aC}{ys:aq},StrsAre vs ys->∀(i:Nat)(v:Value),vs[i]?=some v->∃ z t,ys[i]?=some z/\v=.str z t
 |_,_,.cons z t _,0,v,e=>by
  cases e;exact⟨z,t,rfl,rfl⟩
 |_,_,.cons _ _ r,i+1,v,e=>xr r i v (by simpa using e)
 |_,_,.nil,i,v,e=>by simp at e
section
variable {prog:Program}{w:World}{A:Around}{R:Result->Shared->Prop}{I:Addr}{fp wr:List Addr}{G:Array GenState->Array GenState->Prop}{n:Nat}{P:Nat->Value->Prop}{St:Nat->Shared->Prop}{lb:Bool}
theorem cj.moved {h h':Heap}{a:Addr}{zs:aq}{es:Array (Int×Value)}{ep:Nat}{t:SetTable}(T:cj prog w lb h a zs es ep t)(k:∀ o,h.get? a=some o->h'.get? a=some o):cj prog w lb h' a zs es ep t:=by
 obtain⟨o,ho,x⟩:=T.get;exact⟨⟨o,k _ ho,x⟩,T.el,T.aF,T.fits,T.led,T.pl,T.ks⟩
theorem Ed (ys:aq):(c_ ys).length<=ys.length:=by
 have q:∀(ys zs:aq),(ys.foldl eI zs).length<=zs.length+ys.length:=by
  intro ys
  induction ys with
  |nil=>intro zs;simp
  |cons y r ih=>
   intro zs;refine aP (ih (eI zs y)) ?_
   have:(eI zs y).length<=zs.length+1:=by
    unfold eI
    split
    ·omega
    ·simp
   simp only[length_cons];omega
 have z:=q ys [];rw[length_nil,Nat.zero_add] at z;exact z
theorem OE (ys:aq)(z:Str):c_ (ys++[z])=eI (c_ ys) z:=by
 unfold c_;rw[foldl_append];rfl
theorem Ee (W:WalksS prog w A.in1 I fp wr G n P St)(S:Addr)(Ef:S∉fp)(ys:aq)(hy:ys.length=n)(OG:∀ i v,P i v->∃ z t,ys[i]?=some z/\v=.str z t)(hb:n+1<scanBound) :
  ∀(k i:Nat)(s:Shared),n-i=k->i<=n->St i s->(∃ es ep t,cj prog w lb s.heap S (c_ (ys.take i)) es ep t) ->
   (∀ s',Moved (S::wr) G s s'->(∃ es ep t,cj prog w lb s'.heap S (c_ ys) es ep t)->R (.ok (.ret .none)) s')->codeAny (model prog w) A (.builtin "set.update.loop" ⟨[.ref S,.ref I],[]⟩) R s:=by
 have nw:S∉wr:=λm=>Ef (W.sub _ m);have sub:∀ b∈wr,b∈S::wr:=λb m=>mem_cons_of_mem _ m;intro k
 induction k with
 |zero=>
  intro i s hk hi st T fin;have e:i=n:=by omega
  subst e;refine codeAny_builtin PyProof.Rows.F.entry_set_update_loop ?_;rw[Around.under_plainId PyProof.Rows.F.plain_set_update_loop _];show wpAny _ A.in1 (pyNext (.ref I) >>= _) _ _ s;refine af (W.done s _ _ st λs' mv=>?_);show wpAny _ A.in1 (ret Value.none) _ _ s';obtain⟨es,ep,t,T⟩:=T;rw[<- hy,take_length] at T;exact ao (fin s' (mv.mono sub) ⟨es,ep,t,T.moved λo e=>mv.heap S o nw e⟩)
 |succ k ih=>
  intro i s hk hi st T fin;have lt:i<n:=by omega
  refine codeAny_builtin PyProof.Rows.F.entry_set_update_loop ?_;rw[Around.under_plainId PyProof.Rows.F.plain_set_update_loop _];show wpAny _ A.in1 (pyNext (.ref I) >>= _) _ _ s;refine af (W.item i s _ _ lt st λv s' hP st' mv=>?_);obtain⟨z,tk,hz,rfl⟩:=OG i v hP;obtain⟨es,ep,t,T⟩:=T;have T':=T.moved (h':=s'.heap) λo e=>mv.heap S o nw e;show wpAny _ A.in1 (holding [Value.str z tk] (setAdd S (.str z tk)) >>= _) _ _ s';refine af (wpAny_holding ?_);unfold setAdd;refine wpAny_holding ?_;refine af ((PySem.strKind prog w).pyHash (k:=z) (D8 prog w z tk) ?_);have l1:=Ed (ys.take i);rw[length_take] at l1;refine OB (s:={ s' with toks:=s'.toks+1 }) T' (by omega) λb h' e2 p2 t2 sb T2=>?_;have et:ys.take (i+1)=ys.take i++[z]:=by rw[take_add_one,hz];rfl
  rw[<- OE,<- et] at T2;refine ao ⟨plainId_quiet PyProof.Rows.F.plain_set_update_loop _,ih (i+1) _ (by omega) lt (W.frame _ s' _ _ st' (Nat.le_succ _) λc hc o e=>?_) ⟨e2,p2,t2,T2⟩ λs2 xt T3=>?_⟩
  ·rw[sb.2 c (λq:c=S=>Ef (q▸hc))];exact e
  ·refine fin s2 (Moved.trans W.gtrans ((mv.mono sub).then_heap (Nat.le_succ _) λc o hc e=>?_) xt) T3;rw[sb.2 c (λq:c=S=>hc (q▸mem_cons_self))];exact e
end
section
variable {prog:Program}{w:World}{A:Around}{E:aG}{s:Shared}
noncomputable def bY (w:World):Bool:=w.params.followText "set-order"
noncomputable abbrev d7 (w:World):Obj:={ cls:=.type "set",dict:=none,data:=.set #[] 0 (.fresh 0 0 (!bY w)) }
theorem Eg (x:Value){Q₁:aG}(h:Q₁ (.ref s.heap.objs.size) { s with heap:=s.heap.push (d7 w) }):codeAny (model prog w) A (.call (.builtin "set.__new__") ⟨[.type "set",x],[]⟩) (wants Q₁ E) s:=by
 refine codeAny_of_tree ?_;show wpAny _ A.in1 (do checkBuiltinCall "set.__new__" ⟨[.type "set",x],[]⟩;again (.builtin "set.__new__" ⟨[.type "set",x],[]⟩)) _ _ s;refine af (wpAny_of_eq (PySem.F.newCall_set_1 x) (ao ⟨plainId_quiet PySem.F.plain_set_new _,codeAny_builtin PySem.F.entry_set_new ?_⟩));rw[Around.under_plainId PySem.F.plain_set_new _];unfold Builtin.«set.__new__»;unfold Builtin.Frozenset.newClass;have q1:=PySem.sub_set_self;obtain⟨hp,gs,dr,tk,os⟩:=s;dsimp only;wp_walk;refine wpAny_askSetting (ao ?_);dsimp only;simp only[newObj];exact af (wpAny_alloc (ao (ao h)))
end
section
variable {prog:Program}{w:World}{A:Around}{E:aG}{s:Shared}
theorem OH {l:Addr}{items:Array Value}{ys:aq}{Q:aG}(hh:A.handled=none)(hl:s.heap.IsList l items)(hi:StrsAre items.toList ys)(hb:ys.length+1<scanBound)
  (h:∀ h' tk es ep t,cj prog w (!bY w) h' s.heap.objs.size (c_ ys) es ep t->(∀ b o,b<s.heap.objs.size->s.heap.get? b=some o->h'.get? b=some o)->Q (.ref s.heap.objs.size) { s with heap:=h',toks:=tk }) :
  wpAny (model prog w) A (call (.type "set") [.ref l]) Q E s:=by
 obtain⟨c,tl,q0⟩:=PySem.F.called_set.mro;have q1:=PySem.F.called_set.made;have q2:=PySem.F.called_set.sub;refine wpAny_call (codeAny_of_tree ?_);show wpAny _ _ (callAny (.type "set") _) _ _ _;refine ao ⟨Code.quiet_builtin _ (by decide +kernel),codeAny_builtin PySem.F.entry_type_call ?_⟩;rw[Around.under_plain (weight_type_call_type "set" [.ref l] []) rfl];have q3:=PySem.F.called_set.notType;have q4:=PySem.F.called_set.canCreate;have q5:=PySem.F.typeCall_set_1 (.ref l)
 repeat (any_goals (first|assumption|wp_step))
 refine codeAny_mono (Eg (.ref l) (E:=E) (Q₁:=λobj aU=>obj=.ref s.heap.objs.size/\aU={ s with heap:=s.heap.push (d7 w) }) ⟨rfl,rfl⟩) λr aU hr=>?_
 cases r with
 |error e=>exact hr
 |ok fl=>
  cases fl with
  |ret obj=>
   obtain⟨rfl,rfl⟩:=hr;have g0:(s.heap.push (d7 w)).get? s.heap.objs.size=some (d7 w):=b7 _ rfl;have ty:Shared.TypeIs { s with heap:=s.heap.push (d7 w) } (.ref s.heap.objs.size) "set":=⟨_,g0,rfl⟩;have q6:=PySem.F.called_set.init.lookup;have q7:=PySem.F.called_set.init.bind (.ref s.heap.objs.size)
   repeat (any_goals (first|assumption|wp_step))
   refine codeAny_mono (codeAny_call_builtin (R:=wants (λr dS=>r=.none/\∃ h' tk,dS={ s with heap:=h',toks:=tk }/\(∃ es ep t,cj prog w (!bY w) h' s.heap.objs.size (c_ ys) es ep t) /\
     (∀ b o,b<s.heap.objs.size->s.heap.get? b=some o->h'.get? b=some o)) E) PySem.F.called_set.init.plain PySem.F.entry_set_init (check_set_init_1 ty ?_)) λxu dS lx=>?_
   ·obtain⟨ol,g1,cl,nl,dl⟩:=hl;obtain⟨OI,xw,OJ,xx⟩:=ol;simp only at cl dl;subst cl;subst dl;have g2:(s.heap.push (d7 w)).get? l=some { cls:=.type "list",dict:=xw,data:=.seq items nl,slots:=xx }:=a9 _ g1;have q8:=PySem.F.sub_list_set;have q9:=PySem.F.sub_list_frozenset;have f':(Value.type "list"==Value.type "dict")=false:=by decide
    have l1:(s.heap.push (d7 w)).IsList l items:=⟨_,g2,rfl,nl,rfl⟩;unfold Builtin.«set.__init__» noKeywords;unfold Builtin.Frozenset.updateFrom;generalize xy:pyIter=PI;wp_walk;subst xy;refine wpAny_pyIter_list l1 ?_;refine af (wpAny_runValue ?_);have lt:l<s.heap.objs.size:=a7 g1;have xA:A.in1.in1.in1.handled=none:=by simp [hh]
    have sz:(s.heap.push (d7 w)).objs.size=s.heap.objs.size+1:=Heap.size_push ..;have ne:l≠(s.heap.push (d7 w)).objs.size:=by rw[sz];exact bJ (Nat.lt_succ_of_lt lt)
    have nf:s.heap.objs.size∉[(s.heap.push (d7 w)).objs.size,l]:=by
     rw[sz];simp only[mem_cons,mem_singleton,not_mem_nil,or_false,not_or];exact⟨bJ (Nat.lt_succ_self _),Nat.ne_of_gt lt⟩
    have hn:items.size=ys.length:=by
     have z:=StrsAre.length hi;rw[Array.length_toList] at z
     first|exact z|exact z.symm
    refine Ee (lb:=!bY w) ((Walks.list xA _ l ne items).toS) s.heap.objs.size nf ys hn.symm (λi v e=>xr hi i v (by rw[Array.getElem?_toList];exact e)) (by rw[hn];exact hb) (items.size-0) 0 _ (by omega) (Nat.zero_le _)
     ⟨⟨_,b7 _ rfl,rfl,rfl⟩,(l1.push _)⟩ ?_ ?_
    ·exact⟨#[],0,.fresh 0 0 (!bY w),⟨_,a9 _ g0,⟨rfl,rfl,rfl⟩,rfl⟩,λe he=>by simp at he,by decide,by rfl,rfl,.inl rfl,.refl _⟩
    ·intro s' mv T;obtain⟨h',g',d',ly,oC⟩:=s';have eg:g'=s.gens:=mv.gens;have ed:d'=s.drawn:=mv.drawn;have eo:oC=s.os:=mv.os;subst eg ed eo;show wpAny _ _ _ _ _ _;refine ao ?_;show wpAny _ _ (ret Value.none) _ _ _;refine ao ⟨rfl,h',ly,rfl,T,λb o hb e=>?_⟩;refine mv.heap b o ?_ (a9 _ (a9 _ e));simp only[mem_cons,mem_singleton,not_mem_nil,or_false,not_or];exact⟨bJ hb,by rw[sz];exact bJ (Nat.lt_succ_of_lt hb)⟩
   ·cases xu with
    |error e=>exact lx
    |ok xB=>
     cases xB with
     |ret r=>
      obtain⟨rfl,h',tk,rfl,⟨es,ep,t,T⟩,k⟩:=lx
      repeat (any_goals (first|assumption|wp_step))
      exact h h' tk es ep t T k
     |_=>exact lx.elim
  |_=>exact hr.elim
end
theorem OK:entryFor table "set.__iter__"=some Builtin.«frozenset.__iter__»:=entryFor_alias (id':="frozenset.__iter__") (by kernel_rfl) rfl (by decide +kernel) (by kernel_rfl)
theorem ik:Slot "set_iterator" "__next__" "set_iterator.__next__":=.of (owner:="set_iterator") (n:="__next__") (by rw[typeLookup_type,builtinLookup_eq_fast];kernel_rfl) (by decide +kernel) (by decide +kernel)
 (by decide +kernel) (by first|exact .inl (by decide +kernel)|exact .inr (by decide +kernel)) (by rw[isSubtype_type];kernel_rfl)
theorem Eh:Slot "set_iterator" "__iter__" "set_iterator.__iter__":=.of (owner:="set_iterator") (n:="__iter__") (by rw[typeLookup_type,builtinLookup_eq_fast];kernel_rfl) (by decide +kernel) (by decide +kernel)
 (by decide +kernel) (by first|exact .inl (by decide +kernel)|exact .inr (by decide +kernel)) (by rw[isSubtype_type];kernel_rfl)
theorem rR:entryFor table "set_iterator.__next__"=some Builtin.«set_iterator.__next__»:=entryFor_of_tree (by kernel_rfl)
theorem OL:entryFor table "set_iterator.__iter__"=some Builtin.«dict_keyiterator.__iter__»:=entryFor_alias (id':="dict_keyiterator.__iter__") (by kernel_rfl) rfl (by decide +kernel) (by kernel_rfl)
theorem Ei:Manifest.owners.lookup (String.ofList ['r','o','t','a','r','e','t','i','_','t','e','s'].reverse)=some Manifest.sig_set_iterator:=by kernel_rfl
theorem rS (a:Value):argsOk "set_iterator.__next__" ⟨[a],[]⟩:=by
 unfold argsOk;rw[signature?_of (id:="set_iterator.__next__") (n:=['_','_','t','x','e','n','_','_']) (o:=['r','o','t','a','r','e','t','i','_','t','e','s']) (by kernel_rfl) Ei]
 kernel_rfl
theorem OM (a:Value):argsOk "set_iterator.__iter__" ⟨[a],[]⟩:=by
 unfold argsOk;rw[signature?_of (id:="set_iterator.__iter__") (n:=['_','_','r','e','t','i','_','_']) (o:=['r','o','t','a','r','e','t','i','_','t','e','s']) (by kernel_rfl) Ei]
 kernel_rfl
noncomputable def js (es:Array (Int×Value))(t:SetTable):Bool:=!t.plain&&decide (es.size > 1)
section
variable {prog:Program}{w:World}{A:Around}{E:aG}{s:Shared}{a:Addr}{zs:aq}{es:Array (Int×Value)}{ep:Nat}{t:SetTable}
theorem cj.ty (T:cj prog w (!bY w) s.heap a zs es ep t):s.TypeIs (.ref a) "set":=by
 obtain⟨o,ho,hx,_⟩:=T.get;exact⟨o,ho,hx.1⟩
theorem ON {Q:Bool->Shared->Prop}(T:cj prog w (!bY w) s.heap a zs es ep t)(h:Q (!bY w&&js es t) s):wpAny (model prog w) A (setDrawn a) Q E s:=by
 obtain⟨o,ho,hx,hd⟩:=T.get;unfold setDrawn;refine af (wpAny_setState_of ho hd T.fits ?_);dsimp only;unfold setsByText;refine af (af (wpAny_askSetting (ao ?_)));exact ao h
noncomputable def gE (w:World)(a:Addr)(ep:Nat)(es:Array (Int×Value)):Array (Int×Value):=if bY w then pickOrder (w.params.setOrder a ep) es else es
noncomputable def slt (w:World)(t:SetTable)(i:Nat):Nat:=if bY w then 0 else if i=0 then 0 else t.place.getD (i-1) 0+1
theorem rT (w:World)(a:Addr)(ep:Nat)(es:Array (Int×Value)):(gE w a ep es).toList.Perm es.toList:=by
 unfold gE
 split
 ·exact Ov _ _
 ·exact .refl _
end
noncomputable def rV (es:Array (Int×Value))(pl:Array Nat)(i:Nat):Option (Value×Nat):=match es[i]?,pl[i]? with
 |some (_,x),some j=>some (x,j+1)
 |_,_=>none
noncomputable def rW (pl:Array Nat)(i:Nat):Nat:=if i=0 then 0 else pl.getD (i-1) 0+1
theorem OO (j:Nat):SetTable.below #[j] 0=0:=by simp [SetTable.below,SetTable.below.go]
theorem OP (j:Nat):SetTable.below #[j] (j+1)=1:=by simp [SetTable.below,SetTable.below.go]
theorem OQ:∀(es:Array (Int×Value))(pl:Array Nat)(i:Nat),pl.size=es.size->es.size<=1->i<=es.size->rV es pl (SetTable.below pl (rW pl i))=(es[i]?).map λe=>(e.2,rW pl (i+1))
 |⟨[]⟩,⟨[]⟩,0,_,_,_=>rfl
 |⟨[e]⟩,⟨[j]⟩,0,_,_,_=>by
  show rV #[e] #[j] (SetTable.below #[j] 0)=_;rw[OO];rfl
 |⟨[e]⟩,⟨[j]⟩,1,_,_,_=>by
  show rV #[e] #[j] (SetTable.below #[j] (j+1))=_;rw[OP];rfl
 |⟨[]⟩,⟨_::_⟩,_,hp,_,_=>by simp at hp
 |⟨[_]⟩,⟨[]⟩,_,hp,_,_=>by simp at hp
 |⟨[_]⟩,⟨_::_::_⟩,_,hp,_,_=>by simp at hp
 |⟨_::_::_⟩,_,_,_,hf,_=>by simp at hf
 |⟨[]⟩,⟨[]⟩,_+1,_,_,hi=>by simp at hi
 |⟨[_]⟩,⟨[_]⟩,_+2,_,_,hi=>by simp at hi
section
variable {prog:Program}{w:World}{A:Around}{E:aG}{s:Shared}{a:Addr}{zs:aq}{es:Array (Int×Value)}{ep:Nat}{t:SetTable}
theorem Ej {i:Nat}{Q:Option (Value×Nat)->Shared->Prop}(T:cj prog w (!bY w) s.heap a zs es ep t)(nd:(!bY w&&js es t)=false)(hi:i<=es.size)
  (h:Q (((gE w a ep es)[i]?).map λe=>(e.2,slt w t (i+1))) s):wpAny (model prog w) A (setNext a (slt w t i) i ep) Q E s:=by
 obtain⟨o,ho,hx,hd⟩:=T.get;unfold setNext;refine af (wpAny_setState_of ho hd T.fits ?_);dsimp only;unfold setsByText;refine af (af (wpAny_askSetting (ao ?_)));show wpAny _ _ (if bY w=true then _ else _) _ _ s;by_cases hb:bY w=true
 ·rw[if_pos hb];rw[if_neg (by simp)];unfold setWalk;refine af (af (wpAny_setState_of ho hd T.fits ?_));dsimp only;unfold setsByText;refine af (af (wpAny_askSetting (ao ?_)));show wpAny _ _ (if bY w=true then _ else _) _ _ s;rw[if_pos hb];refine af (wpAny_askSetting (ao (ao ?_)));unfold gE slt at h;rw[if_pos hb] at h;simp only[hb,if_true] at h ⊢;unfold slt;rw[if_pos hb];exact h
 ·have pe:bY w=false:=by simpa using hb
  rw[if_neg hb];have xC:js es t=false:=by simpa [pe] using nd
  show wpAny _ _ (if js es t=true then _ else _) _ _ s;rw[if_neg (by rw[xC];exact Bool.false_ne_true)];have hl:t.led=true:=by rw[T.led,pe];rfl
  have aF:es.size<=1:=by
   rcases T.pl with z|z
   ·omega
   ·simp only[js,z,Bool.not_false,Bool.true_and,decide_eq_false_iff_not,Nat.not_lt] at xC;exact xC
  have hp:t.place.size=es.size:=by
   have f:=T.fits;simp only[SetTable.fits,Bool.and_eq_true,beq_iff_eq] at f;exact f.1
  show wpAny _ _ ((if (!t.led&&!es.isEmpty)=true then _ else _) >>= _) _ _ s;rw[if_neg (by rw[hl];simp)];refine af (ao (ao ?_));show Q (rV es t.place (SetTable.below t.place (slt w t i))) s;unfold gE at h;rw[if_neg hb] at h
  have OR:∀ j,slt w t j=rW t.place j:=λj=>by
   unfold slt rW;rw[if_neg hb]
  rw[OR] at h ⊢;rw[OQ es t.place i hp aF hi];exact h
end
noncomputable def fi (h:Heap)(it a:Addr)(f:Value)(i n ep:Nat):Prop:=∃ o,h.get? it=some o/\o.cls=.type "set_iterator"/\o.data=.fields #[f,.int i 0,.ref a,.int n 0,.int ep 0]
section
variable {prog:Program}{w:World}{A:Around}{E:aG}{s:Shared}{it a:Addr}{zs:aq}{es:Array (Int×Value)}{ep:Nat}{t:SetTable}
theorem fi.ty {f:Value}{i n:Nat}(x:fi s.heap it a f i n ep):s.TypeIs (.ref it) "set_iterator":=by
 obtain⟨o,ho,hc,_⟩:=x;exact⟨o,ho,hc⟩
theorem OS {i:Nat}{x:Int×Value}{Q:Option Value->Shared->Prop}(T:cj prog w (!bY w) s.heap a zs es ep t)(x1:fi s.heap it a (.int (slt w t i) 0) i es.size ep)(nd:(!bY w&&js es t)=false)
  (hi:(gE w a ep es)[i]?=some x)(h:∀ h',fi h' it a (.int (slt w t (i+1)) 0) (i+1) es.size ep->Heap.SameBut it s.heap h'->Q (some x.2) { s with heap:=h' }) :
  wpAny (model prog w) A (pyNext (.ref it)) Q E s:=by
 obtain⟨o,ho,hc,hd⟩:=id x1;obtain⟨oa,ha,pf,gb⟩:=T.get
 have lt:i<es.size:=by
  have z:=(rT w a ep es).length_eq;rw[Array.length_toList,Array.length_toList] at z;rw[<- z];exact(Array.getElem?_eq_some_iff.mp hi).1
 unfold pyNext;refine af (wpAny_attempt (wpAny_callSpecial?_slot (name:=Str.ofString "__next__") x1.ty ik (wpAny_call_entry ik x1.ty rR ?_ (rS _))));unfold Builtin.«set_iterator.__next__»;refine af (ao ?_);refine af (wpAny_fieldsOf ho hd ?_);dsimp only;refine af (wpAny_setEntries_of ha gb T.fits ?_);rw[if_neg (by simp)];refine af ?_;simp only[Int.toNat_natCast];refine Ej T nd (Nat.le_of_lt lt) ?_;rw[hi];dsimp only[Option.map_some];refine af (wpAny_setField ho hd (by simp) ?_);have o1:=Heap.get?_update_self (Obj.mapFields (·.setIfInBounds 0 (rawInt (slt w t (i+1))))) ho (Obj.isFreed_of_fields (Obj.data_mapFields hd _));refine af (wpAny_setField o1 (Obj.data_mapFields hd _) (by simp) ?_);refine ao ⟨x.2,rfl,ao (h _ ?_ ((Heap.SameBut.update ..).trans (Heap.SameBut.update ..)))⟩
 exact⟨_,Heap.get?_update_self _ o1 (Obj.isFreed_of_fields (Obj.data_mapFields (Obj.data_mapFields hd _) _)),((Obj.cls_mapFields ..).trans (Obj.cls_mapFields ..)).trans hc,by
  rw[Obj.data_mapFields (Obj.data_mapFields hd _)]
  simp [rawInt]⟩
theorem OT {Q:Option Value->Shared->Prop}(hh:A.handled=none)(T:cj prog w (!bY w) s.heap a zs es ep t)(x1:fi s.heap it a (.int (slt w t es.size) 0) es.size es.size ep)(nd:(!bY w&&js es t)=false)
  (h:∀ h',Heap.ExtBut it s.heap h'->Q none { s with heap:=h' }):wpAny (model prog w) A (pyNext (.ref it)) Q E s:=by
 obtain⟨o,ho,hc,hd⟩:=id x1;obtain⟨oa,ha,pf,gb⟩:=T.get
 have hi:(gE w a ep es)[es.size]?=none:=by
  have z:=(rT w a ep es).length_eq;rw[Array.length_toList,Array.length_toList] at z;exact Array.getElem?_eq_none (by omega)
 unfold pyNext;refine af (wpAny_attempt (wpAny_callSpecial?_slot (name:=Str.ofString "__next__") x1.ty ik (wpAny_call_entry ik x1.ty rR ?_ (rS _))));unfold Builtin.«set_iterator.__next__»;refine af (ao ?_);refine af (wpAny_fieldsOf ho hd ?_);dsimp only;refine af (wpAny_setEntries_of ha gb T.fits ?_);rw[if_neg (by simp)];refine af ?_;simp only[Int.toNat_natCast];refine Ej T nd (ar _) ?_;rw[hi];dsimp only[Option.map_none];refine af (wpAny_setField ho hd (by simp) ?_);show wpAny _ _ (newExc (.type "StopIteration") [] >>= _) _ _ _;refine af ?_;simp only[newExc,newTuple];refine af (wpAny_newObj_type ?_ (by size_fits));refine af (m:=firstArgMember _ _) (wpAny_of_eq (a:=Value.none) (by simp only[firstArgMember];rfl) ?_);refine wpAny_newObj_type ?_ (by size_fits);simp only[raiseNew];refine af (wpAny_handled ?_);rw[show A.in1.handled=none from hh];refine af (ao (wpAny_throw ?_));refine af (wpAny_isInstance (T:="StopIteration") (b:=true) ⟨_,b7 _ rfl,rfl⟩ isSubtype_stop ?_);exact ao (h _ (((Heap.SameBut.update ..).extBut.push _).push _))
noncomputable def lz (h:Heap)(p:Addr)(ks:List Nat):Prop:=∃ o n,h.get? p=some o/\o.data=.seq (ks.map fun(k:Nat)=>rawInt k).toArray n
theorem OU {p:Addr}{ks:List Nat}{i k:Nat}{x:Int×Value}{Q:Option Value->Shared->Prop}(T:cj prog w (!bY w) s.heap a zs es ep t)(x1:fi s.heap it a (.ref p) i es.size ep)(x2:lz s.heap p ks)
  (hk:ks[i]?=some k)(hx:es[k]?=some x)(h:∀ h',fi h' it a (.ref p) (i+1) es.size ep->Heap.SameBut it s.heap h'->Q (some x.2) { s with heap:=h' }) :
  wpAny (model prog w) A (pyNext (.ref it)) Q E s:=by
 obtain⟨o,ho,hc,hd⟩:=id x1;obtain⟨oa,ha,pf,gb⟩:=T.get;obtain⟨op,np,xD,dU⟩:=x2;unfold pyNext;refine af (wpAny_attempt (wpAny_callSpecial?_slot (name:=Str.ofString "__next__") x1.ty ik (wpAny_call_entry ik x1.ty rR ?_ (rS _))));unfold Builtin.«set_iterator.__next__»;refine af (ao ?_);refine af (wpAny_fieldsOf ho hd ?_);dsimp only;refine af (wpAny_setEntries_of ha gb T.fits ?_);rw[if_neg (by simp)];refine af (wpAny_seqItems xD dU ?_);dsimp only
 have e:(ks.map fun(k:Nat)=>rawInt k).toArray[(i:Int).toNat]?=some (.int k 0):=by
  rw[Int.toNat_natCast,getElem?_toArray,getElem?_map,hk];rfl
 rw[e];dsimp only;refine af ?_;unfold setNextDrawn;refine af (wpAny_setState_of ha gb T.fits ?_);dsimp only;rw[if_neg (by simp)];rw[Int.toNat_natCast,hx];refine ao ?_;refine af (wpAny_setField ho hd (by simp) ?_);refine ao ⟨x.2,rfl,ao (h _ ?_ (Heap.SameBut.update ..))⟩
 exact⟨_,Heap.get?_update_self _ ho (Obj.isFreed_of_fields (Obj.data_mapFields hd _)),(Obj.cls_mapFields ..).trans hc,by
  rw[Obj.data_mapFields hd]
  simp [rawInt]⟩
theorem OV {p:Addr}{ks:List Nat}{Q:Option Value->Shared->Prop}(hh:A.handled=none)(T:cj prog w (!bY w) s.heap a zs es ep t)(x1:fi s.heap it a (.ref p) ks.length es.size ep)(x2:lz s.heap p ks)
  (h:∀ h',Heap.ExtBut it s.heap h'->Q none { s with heap:=h' }):wpAny (model prog w) A (pyNext (.ref it)) Q E s:=by
 obtain⟨o,ho,hc,hd⟩:=id x1;obtain⟨oa,ha,pf,gb⟩:=T.get;obtain⟨op,np,xD,dU⟩:=x2;unfold pyNext;refine af (wpAny_attempt (wpAny_callSpecial?_slot (name:=Str.ofString "__next__") x1.ty ik (wpAny_call_entry ik x1.ty rR ?_ (rS _))));unfold Builtin.«set_iterator.__next__»;refine af (ao ?_);refine af (wpAny_fieldsOf ho hd ?_);dsimp only;refine af (wpAny_setEntries_of ha gb T.fits ?_);rw[if_neg (by simp)];refine af (wpAny_seqItems xD dU ?_);dsimp only
 have e:(ks.map fun(k:Nat)=>rawInt k).toArray[(ks.length:Int).toNat]?=none:=by
  rw[Int.toNat_natCast,getElem?_toArray,getElem?_map,getElem?_eq_none (ar _)];rfl
 rw[e];dsimp only;refine af (wpAny_setField ho hd (by simp) ?_);have o1:=Heap.get?_update_self (Obj.mapFields (·.setIfInBounds 0 (rawInt 0))) ho (Obj.isFreed_of_fields (Obj.data_mapFields hd _));refine af (wpAny_setField o1 (Obj.data_mapFields hd _) (by simp) ?_);show wpAny _ _ (newExc (.type "StopIteration") [] >>= _) _ _ _;refine af ?_;simp only[newExc,newTuple];refine af (wpAny_newObj_type ?_ (by size_fits));refine af (m:=firstArgMember _ _) (wpAny_of_eq (a:=Value.none) (by simp only[firstArgMember];rfl) ?_);refine wpAny_newObj_type ?_ (by size_fits);simp only[raiseNew];refine af (wpAny_handled ?_);rw[show A.in1.handled=none from hh];refine af (ao (wpAny_throw ?_));refine af (wpAny_isInstance (T:="StopIteration") (b:=true) ⟨_,b7 _ rfl,rfl⟩ isSubtype_stop ?_);exact ao (h _ ((((Heap.SameBut.update ..).trans (Heap.SameBut.update ..)).extBut.push _).push _))
end
section
variable {prog:Program}{w:World}{A:Around}{E:aG}{s:Shared}{it a:Addr}{zs:aq}{es:Array (Int×Value)}{ep:Nat}{t:SetTable}
theorem fi.kept {h h':Heap}{f:Value}{i n:Nat}(x:fi h it a f i n ep)(k:∀ o,h.get? it=some o->h'.get? it=some o):fi h' it a f i n ep:=by
 obtain⟨o,ho,r⟩:=x;exact⟨o,k _ ho,r⟩
theorem lz.kept {h h':Heap}{p:Addr}{ks:List Nat}(x:lz h p ks)(k:∀ o,h.get? p=some o->h'.get? p=some o):lz h' p ks:=by
 obtain⟨o,n,ho,r⟩:=x;exact⟨o,n,k _ ho,r⟩
theorem Ek {f:Value}{i n:Nat}{Q:aG}(x:fi s.heap it a f i n ep)(h:Q (.ref it) s):wpAny (model prog w) A (pyIter (.ref it)) Q E s:=by
 refine wpAny_pyIter_slot x.ty Eh (wpAny_call_entry Eh x.ty OL ?_ (OM _));show wpAny _ _ (ret (.ref it)) _ _ s;exact ao ⟨_,rfl,"set_iterator",_,x.ty,ik.lookup,h⟩
theorem OW (hh:A.handled=none)(ne:a≠it)(nd:(!bY w&&js es t)=false) :
  Walks prog w A it [it,a] [it] es.size (λi v=>((gE w a ep es).toList.map (·.2))[i]?=some v) (λi h=>cj prog w (!bY w) h a zs es ep t/\fi h it a (.int (slt w t i) 0) i es.size ep) where
 sub:=λb m=>mem_cons.mpr (.inl (mem_singleton.mp m))
 frame:=λ_ _ _ st k=>⟨st.1.moved λo e=>k a (by simp) o e,st.2.kept λo e=>k it (by simp) o e⟩
 item:=λi s Q E hi st h=>by
  have z:=(rT w a ep es).length_eq;rw[Array.length_toList,Array.length_toList] at z;have e:(gE w a ep es)[i]?=some (gE w a ep es)[i]:=Array.getElem?_eq_getElem (by omega);refine OS st.1 st.2 nd e λh' x2 sb=>h _ h' s.toks ?_ ⟨st.1.moved λo q=>(sb.2 a ne).trans q,x2⟩ λb o m q=>(sb.2 b (λc=>m (mem_singleton.mpr c))).trans q;rw[getElem?_map,Array.getElem?_toList,e];rfl
 done:=λs Q E st h=>OT hh st.1 st.2 nd λh' eb=>h h' s.toks λb o m q=>eb b o (λc=>m (mem_singleton.mpr c)) q
 self:=λ_ _ _ _ st h=>Ek st.2 h
noncomputable def atK (es:Array (Int×Value))(k:Nat):Value:=((es[k]?).map (·.2)).getD .none
theorem OX (es:Array (Int×Value)):(range es.size).map (atK es)=es.toList.map (·.2):=by
 refine ext_getElem (by simp) λi h1 h2=>?_;have hi:i<es.size:=by simpa using h1
 simp [atK,hi]
theorem OY {p:Addr}{ks:List Nat}(hh:A.handled=none)(ne:a≠it)(np:p≠it)(hp:ks.Perm (range es.size)) :
  Walks prog w A it [it,a,p] [it] ks.length (λi v=>(ks.map (atK es))[i]?=some v) (λi h=>cj prog w (!bY w) h a zs es ep t/\fi h it a (.ref p) i es.size ep/\lz h p ks) where
 sub:=λb m=>mem_cons.mpr (.inl (mem_singleton.mp m))
 frame:=λ_ _ _ st k=>⟨st.1.moved λo e=>k a (by simp) o e,st.2.1.kept λo e=>k it (by simp) o e,st.2.2.kept λo e=>k p (by simp) o e⟩
 item:=λi s Q E hi st h=>by
  have hk:ks[i]?=some ks[i]:=cg hi;have hm:ks[i]<es.size:=mem_range.mp (hp.mem_iff.mp (getElem_mem hi));have hx:es[ks[i]]?=some es[ks[i]]:=Array.getElem?_eq_getElem hm;refine OU st.1 st.2.1 st.2.2 hk hx λh' x2 sb=>h _ h' s.toks ?_ ⟨st.1.moved λo q=>(sb.2 a ne).trans q,x2,st.2.2.kept λo q=>(sb.2 p np).trans q⟩ λb o m q=>(sb.2 b (λc=>m (mem_singleton.mpr c))).trans q;rw[getElem?_map,hk];simp [atK,hm]
 done:=λs Q E st h=>OV hh st.1 st.2.1 st.2.2 λh' eb=>h h' s.toks λb o m q=>eb b o (λc=>m (mem_singleton.mpr c)) q
 self:=λ_ _ _ _ st h=>Ek st.2.1 h
theorem cj.strs {h:Heap}{lb:Bool}(T:cj prog w lb h a zs es ep t):∀ v∈es.toList.map (·.2),∃ z k,v=.str z k:=λv m=>by
 obtain⟨e,he,rfl⟩:=mem_map.mp m;obtain⟨⟨k,hk,_⟩,_⟩:=T.el e he;obtain⟨_,u,q⟩:=rQ hk;exact⟨k,u,q⟩
theorem cj.all {h:Heap}{lb:Bool}(T:cj prog w lb h a zs es ep t){vs:aC}(p:vs.Perm (es.toList.map (·.2))):(vs.map tx).Perm zs/\∀ v∈vs,∃ z k,v=.str z k:=by
 refine⟨(p.map tx).trans ?_,λv m=>T.strs v (p.mem_iff.mp m)⟩;rw[map_map];exact T.ks
theorem OZ {Q:aG}(hh:A.handled=none)(T:cj prog w (!bY w) s.heap a zs es ep t)
  (h:∀(it:Addr)(fp:List Addr)(vs:aC)(St:Nat->Heap->Prop)(h':Heap)(dr:Drawn),Walks prog w A it fp [it] vs.length (λi v=>vs[i]?=some v) St->St 0 h'->(∀ b o,s.heap.get? b=some o->h'.get? b=some o)->s.heap.objs.size<=it->(∀ b∈fp,b=a\/s.heap.objs.size<=b) ->
   (vs.map tx).Perm zs->(∀ v∈vs,∃ z k,v=.str z k)->Q (.ref it) { s with heap:=h',drawn:=dr }):wpAny (model prog w) A (pyIter (.ref a)) Q E s:=by
 obtain⟨oa,ha,pf,gb⟩:=T.get;have lt:a<s.heap.objs.size:=a7 ha;refine wpAny_pyIter_slot T.ty PySem.F.slot_set_iter (wpAny_call_entry PySem.F.slot_set_iter T.ty OK ?_ (PySem.F.args_set_iter_1 _));unfold Builtin.«frozenset.__iter__»;unfold Builtin.Frozenset.slot0 Builtin.Frozenset.addrOf;refine af (af (ao ?_));refine ao ?_;unfold Builtin.Frozenset.sizeOf;refine af (af (wpAny_setEntries_of ha gb T.fits (ao ?_)));refine af (ON T ?_)
 cases nd:(!bY w&&js es t) with
 |false=>
  rw[if_neg Bool.false_ne_true];refine af (ao ?_);refine af ?_;unfold setEpoch;refine af (wpAny_setState_of ha gb T.fits (ao ?_));unfold newFields;refine af (wpAny_newObj_type ?_ (by size_fits))
  have x0:fi (s.heap.push { cls:=.type "set_iterator",data:=.fields #[rawInt 0,rawInt 0,.ref a,rawInt es.size,rawInt ep] }) s.heap.objs.size a (.int (slt w t 0) 0) 0 es.size ep:=by
   refine⟨_,b7 _ rfl,rfl,?_⟩;have q:slt w t 0=0:=by unfold slt;split<;>rfl
   rw[q];rfl
  have T0:=T.moved (h':=s.heap.push { cls:=.type "set_iterator",data:=.fields #[rawInt 0,rawInt 0,.ref a,rawInt es.size,rawInt ep] }) λo e=>a9 _ e;refine ao ⟨_,rfl,"set_iterator",_,x0.ty (s:={ s with heap:=_ }),ik.lookup,?_⟩;have pm:((gE w a ep es).toList.map (·.2)).Perm (es.toList.map (·.2)):=(rT w a ep es).map _;have al:=T.all pm;have W:=OW (prog:=prog) (w:=w) (A:=A) (it:=s.heap.objs.size) (a:=a) (zs:=zs) (es:=es) (ep:=ep) (t:=t) hh (bJ lt) nd;have len:es.size=((gE w a ep es).toList.map (·.2)).length:=by rw[pm.length_eq,length_map,Array.length_toList]
  rw[len] at W
  exact h s.heap.objs.size _ _ _ _ s.drawn W ⟨T0,by rw[<- len];exact x0⟩ (λb o e=>a9 _ e) (ar _) (λb m=>by
   rcases mem_cons.mp m with rfl|m
   ·exact .inr (ar _)
   ·exact .inl (mem_singleton.mp m)) al.1 al.2
 |true=>
  rw[if_pos rfl];refine af (D6 es.size (range es.size) _ _ (by simp) λks dr hp=>?_)
  have aF:ks.length<=sizeLine:=by
   rw[hp.length_eq,length_range];exact fits_of_scanBound T.aF
  refine af (wpAny_newTuple ?_ (by rw[length_map];exact aF));generalize hH:s.heap.push { cls:=.type "tuple",data:=.seq (ks.map fun(i:Nat)=>rawInt i).toArray }=H1;have k1:∀ b o,s.heap.get? b=some o->H1.get? b=some o:=λb o e=>by rw[<- hH];exact a9 _ e
  have z1:H1.objs.size=s.heap.objs.size+1:=by rw[<- hH];exact Heap.size_push ..
  have pl:lz H1 s.heap.objs.size ks:=⟨_,0,by rw[<- hH];exact b7 _ rfl,rfl⟩;refine af ?_;unfold setEpoch;refine af (wpAny_setState_of (k1 _ _ ha) gb T.fits (ao ?_));unfold newFields;refine af (wpAny_newObj_type ?_ (by size_fits));have x0:fi (H1.push { cls:=.type "set_iterator",data:=.fields #[.ref s.heap.objs.size,rawInt 0,.ref a,rawInt es.size,rawInt ep] }) H1.objs.size a (.ref s.heap.objs.size) 0 es.size ep:=⟨_,b7 _ rfl,rfl,rfl⟩;have T0:=T.moved (h':=H1.push { cls:=.type "set_iterator",data:=.fields #[.ref s.heap.objs.size,rawInt 0,.ref a,rawInt es.size,rawInt ep] }) λo e=>a9 _ (k1 _ _ e);refine ao ⟨_,rfl,"set_iterator",_,x0.ty (s:={ s with heap:=_,drawn:=dr }),ik.lookup,?_⟩;have pm:(ks.map (atK es)).Perm (es.toList.map (·.2)):=(hp.map _).trans (by rw[OX]);have al:=T.all pm;have W:=OY (prog:=prog) (w:=w) (A:=A) (it:=H1.objs.size) (a:=a) (zs:=zs) (es:=es) (ep:=ep) (t:=t) (p:=s.heap.objs.size) hh (by rw[z1];exact bJ (Nat.lt_succ_of_lt lt)) (by rw[z1];exact bJ (Nat.lt_succ_self _)) hp;have len:ks.length=(ks.map (atK es)).length:=by rw[length_map]
  rw[len] at W
  exact h H1.objs.size _ _ _ _ dr W ⟨T0,x0,pl.kept λo e=>a9 _ e⟩ (λb o e=>a9 _ (k1 _ _ e)) (by rw[z1];exact Nat.le_succ _) (λb m=>by
   rcases mem_cons.mp m with rfl|m
   ·exact .inr (by rw[z1];exact Nat.le_succ _)
   rcases mem_cons.mp m with rfl|m
   ·exact .inl rfl
   ·exact .inr (Nat.le_of_eq (mem_singleton.mp m).symm)) al.1 al.2
end
section
variable {prog:Program}{w:World}{A:Around}{E:aG}{s:Shared}{a:Addr}{zs:aq}{es:Array (Int×Value)}{ep:Nat}{t:SetTable}
theorem O0 {Q:Bool->Shared->Prop}(ty:s.TypeIs (.ref a) "set")(h:Q false s):wpAny (model prog w) A (Builtin.List.listLengthHint (.ref a)) Q E s:=by
 unfold Builtin.List.listLengthHint;refine af (wpAny_specialOf ty PySem.F.slot_set_len.lookup ?_);generalize El:("set.__len__":String)=O1
 wp_delta
 rw[show splitId O1=some ("set","__len__") from by subst El;decide +kernel];subst El;refine af (wpAny_isInstance (T:="set") (b:=true) ty PySem.sub_set_self ?_);refine wpAny_ite_split (λc=>absurd c (by decide)) (λ_=>?_);refine wpAny_ite_split (λ_=>?_) (λc=>absurd (by decide +kernel) c);exact af (wpAny_typeOf ty (ao h))
theorem O2 {R:Result->Shared->Prop}(hh:A.handled=none)(T:cj prog w (!bY w) s.heap a zs es ep t)(S:Addr)(Em:S≠a)(res:Value)(c₀:Nat)(hS:s.heap.get? S=some { cls:=.type "list",data:=.seq #[] c₀ })(aF:zs.length<=1000)
  (fin:∀ h' tk dr vs c',(∀ b o,b≠S->s.heap.get? b=some o->h'.get? b=some o)->h'.get? S=some { cls:=.type "list",dict:=none,data:=.seq (vs:aC).toArray c',slots:=#[] }->(vs.map tx).Perm zs->(∀ v∈vs,∃ z k,v=.str z k) ->
   R (.ok (.ret res)) { s with heap:=h',toks:=tk,drawn:=dr }) :
  wpAny (model prog w) A.in1 (Builtin.List.listExtendWith (.ref S) (.ref a) res)
   (λf s'=>match f with|.done f=>R (.ok f) s'|.again c'=>c'.quiet=true/\codeAny (model prog w) A c' R s') (λe s'=>R (.error e) s') s:=by
 have En:S<s.heap.objs.size:=a7 hS;unfold Builtin.List.listExtendWith;refine af (wpAny_typeOf (T:="set") T.ty ?_);have h1:Builtin.List.listSameRef (.ref S) (.ref a)=false:=by simp [Builtin.List.listSameRef,Em]
 have h2:(Value.type "set"==Value.type "list")=false:=by decide
 have h3:(Value.type "set"==Value.type "tuple")=false:=by decide
 simp only[h1,h2,h3,Bool.or_false,Bool.false_eq_true,if_false];refine af (OZ hh T λit fp vs St h' dr W st k1 li hf pm al=>?_)
 have hn:vs.length<=sizeLine:=by
  have z:=pm.length_eq;rw[length_map] at z;exact Nat.le_of_lt (jq (by omega))
 have nf:S∉fp:=λm=>(hf S m).elim Em λz=>absurd En (Nat.not_lt.mpr z);have nw:S≠it:=λe=>absurd En (Nat.not_lt.mpr (e▸li))
 have loop:∀(h:Heap)(c₁ tk:Nat),St 0 h->(∀ b o,b≠S->s.heap.get? b=some o->h.get? b=some o)->h.get? S=some { cls:=.type "list",data:=.seq #[] c₁ } ->
   codeAny (model prog w) A (.builtin "list.extend.loop" ⟨[.ref S,.ref it,res],[]⟩) R { s with heap:=h,toks:=tk,drawn:=dr }:=by
  intro h c₁ tk st' k ph;refine codeAny_extend_loopS W.toS hn S nf res vs.length 0 _ #[] c₁ rfl (Nat.zero_le _) st' ph (ItemsOf.nil _) λs' acc c' mv eQ fj=>?_;rw[Moved.eq_with mv]
  have ea:acc=vs.toArray:=by
   refine Array.ext (by rw[fj.1];simp) λi h1 h2=>?_;have q:vs[i]?=some acc[i]:=fj.2 i acc[i] (Array.getElem?_eq_getElem h1);have vV:i<vs.length:=by simpa using h2
   rw[cg vV] at q;simpa using (Option.some.inj q).symm
  subst ea;refine fin s'.heap s'.toks dr vs c' (λb o hb e=>mv.heap b o (λm=>?_) (k b o hb e)) eQ pm al;rcases mem_cons.mp m with q|m
  ·exact hb q
  ·have q:=mem_singleton.mp m;subst q;exact absurd (a7 e) (Nat.not_lt.mpr li)
 have ph:=k1 _ _ hS;refine af (wpAny_holding (O0 (T.moved (h':=h') λo e=>k1 _ _ e).ty ?_));refine wpAny_ite_split (λ_=>?_) (λ_=>ao ⟨plainId_quiet PySem.F.plain_extend_loop _,loop _ c₀ _ st (λb o _ e=>k1 b o e) ph⟩);refine af (wpAny_rule ?_);refine af ?_;show wpAny _ _ (updateSeq S (·.push .none) >>= λ_=>updateSeq S (·.pop)) _ _ _;refine af (wpAny_updateSeq ph rfl ?_);have Eo:=Heap.get?_update_self (Obj.mapSeq (·.push Value.none)) ph rfl;refine wpAny_updateSeq (hz:=by seq_fits) Eo rfl ?_;have O3:=Heap.get?_update_self (Obj.mapSeq (·.pop)) Eo rfl
 have Ep:∀ b o,b≠S->h'.get? b=some o->((h'.update S (Obj.mapSeq (·.push Value.none))).update S (Obj.mapSeq (·.pop))).get? b=some o:=λb o hb e=>
  (Heap.get?_update_other _ _ (Ne.symm hb)).trans ((Heap.get?_update_other _ _ (Ne.symm hb)).trans e)
 exact ao ⟨plainId_quiet PySem.F.plain_extend_loop _,loop _ _ _ (W.frame 0 _ _ st λb m o e=>Ep b o (λq=>nf (q▸m)) e) (λb o hb e=>Ep b o hb (k1 _ _ e)) O3⟩
theorem O4 {R:aC->Shared->Prop}(hh:A.handled=none)(T:cj prog w (!bY w) s.heap a zs es ep t)(aF:zs.length<=1000)
  (h:∀ h' tk dr vs,(∀ b o,s.heap.get? b=some o->h'.get? b=some o)->s.heap.objs.size<h'.objs.size->(vs.map tx).Perm zs->(∀ v∈vs,∃ z k,v=.str z k)->R vs { s with heap:=h',toks:=tk,drawn:=dr }):wpAny (model prog w) A (collect (.ref a)) R E s:=by
 obtain⟨oa,ha,pf,gb⟩:=T.get;have lt:a<s.heap.objs.size:=a7 ha;unfold collect;refine af (wpAny_runValue (codeAny_builtin PyProof.Rows.entry_proto_collect' ?_));rw[Around.under_plainId PySem.F.plain_proto_collect _];show wpAny _ A.in1 (newList [] >>= λl=>again (.builtin "list.__iadd__" ⟨[l,.ref a],[]⟩)) _ _ s;refine af (wpAny_newObj_type ?_);refine ao ⟨plainId_quiet PySem.F.plain_list_iadd _,codeAny_builtin PyProof.Rows.entry_list_iadd' ?_⟩;rw[Around.under_plainId PySem.F.plain_list_iadd _];have g0:(s.heap.push { cls:=.type "list",data:=.seq ([]:aC).toArray }).get? s.heap.objs.size=some { cls:=.type "list",data:=.seq #[] }:=b7 _ rfl;show wpAny _ A.in1 (Builtin.List.listExtendWith (.ref s.heap.objs.size) (.ref a) (.ref s.heap.objs.size)) _ _ _;have T0:=T.moved (h':=s.heap.push { cls:=.type "list",data:=.seq ([]:aC).toArray }) λo e=>a9 _ e
 have key:=O2 (A:=A) (s:={ s with heap:=s.heap.push { cls:=.type "list",data:=.seq ([]:aC).toArray } })
  (R:=fun(q:Result)(s':Shared)=>∃(h':Heap)(tk:Nat)(dr:Drawn)(vs:aC)(c':Nat),q=.ok (.ret (.ref s.heap.objs.size))/\s'={ s with heap:=h',toks:=tk,drawn:=dr } /\
   (∀ b o,s.heap.get? b=some o->h'.get? b=some o)/\h'.get? s.heap.objs.size=some { cls:=.type "list",dict:=none,data:=.seq vs.toArray c',slots:=#[] }/\(vs.map tx).Perm zs/\(∀ v∈vs,∃ z k,v=.str z k))
  hh T0 s.heap.objs.size (Nat.ne_of_gt lt) (.ref s.heap.objs.size) 0 g0 aF
  (λh' tk dr vs c' k eQ pm al=>⟨h',tk,dr,vs,c',rfl,rfl,λb o e=>k b o (bJ (a7 e)) (a9 _ e),eQ,pm,al⟩)
 refine wpAny_mono key (λf s' x=>?_) λe s' x=>?_
 ·cases f with
  |done f=>
   obtain⟨h',tk,dr,vs,c',e,rfl,k,eQ,pm,al⟩:=x;cases e;show wpAny _ A (load s.heap.objs.size >>= _) _ _ _;refine af (wpAny_load eQ ?_);have q:=h h' tk dr vs k (a7 eQ) pm al;exact ao (by simpa using q)
  |again c₁=>
   refine⟨x.1,codeAny_mono x.2 λq dS y=>?_⟩;obtain⟨h',tk,dr,vs,c',rfl,rfl,k,eQ,pm,al⟩:=y;show wpAny _ A (load s.heap.objs.size >>= _) _ _ _;refine af (wpAny_load eQ ?_);have q:=h h' tk dr vs k (a7 eQ) pm al;exact ao (by simpa using q)
 ·obtain⟨_,_,_,_,_,e',_⟩:=x;cases e'
end
open PySem.Spec
noncomputable def fO (a b:Str):Prop:=¬ b.cps.toList<a.cps.toList
theorem O5 {a b:Str}(h1:fO a b)(h2:fO b a):a=b:=by
 have e:a.cps.toList=b.cps.toList:=List.le_antisymm (List.not_lt.mp h1) (List.not_lt.mp h2);obtain⟨x⟩:=a;obtain⟨y⟩:=b
 have:x=y:=by
  cases x;cases y;exact congrArg _ e
 rw[this]
theorem Er {a b c:Str}(h1:fO a b)(h2:fO b c):fO a c:=List.not_lt.mpr (List.le_trans (List.not_lt.mp h1) (List.not_lt.mp h2))
theorem Es:∀(p:Str)(l:aq),risingS p l=true->(p::l).Pairwise fO
 |p,[],_=>pairwise_singleton _ _
 |p,x::r,h=>by
  have h':(!ltCps x.cps.toList p.cps.toList&&risingS x r)=true:=h;rw[Bool.and_eq_true] at h';have z:=Es x r h'.2
  have px:fO p x:=by
   have q:=h'.1;rw[ltCps_eq] at q;simpa [fO] using q
  refine pairwise_cons.mpr ⟨λy m=>?_,z⟩;rcases mem_cons.mp m with rfl|m
  ·exact px
  ·exact Er px (rel_of_pairwise_cons z m)
theorem xE:∀{l:aq},sortedS l=true->l.Pairwise fO
 |[],_=>Pairwise.nil
 |x::r,h=>Es x r h
theorem Et:∀{l m:aq},l.Pairwise fO->m.Pairwise fO->l.Perm m->l=m
 |[],m,_,_,p=>p.nil_eq
 |x::r,[],_,_,p=>absurd p.length_eq (by simp)
 |x::r,y::q,h1,h2,p=>by
  have hx:x∈y::q:=p.mem_iff.mp mem_cons_self;have hy:y∈x::r:=p.mem_iff.mpr mem_cons_self
  have e:x=y:=by
   rcases mem_cons.mp hx with e|hx
   ·exact e
   rcases mem_cons.mp hy with e|hy
   ·exact e.symm
   exact O5 (rel_of_pairwise_cons h1 hy) (rel_of_pairwise_cons h2 hx)
  subst e;rw[Et (pairwise_cons.mp h1).2 (pairwise_cons.mp h2).2 p.cons_inv]
noncomputable def jt (zs ss:aq):Prop:=ss.Perm zs/\ss.Pairwise fO
theorem jt.one {zs ys ss rs:aq}(h1:jt zs ss)(h2:jt ys rs)(p:zs.Perm ys):ss=rs:=Et h1.2 h2.2 ((h1.1.trans p).trans h2.1.symm)
noncomputable def mM (prog:Program)(w:World)(p:Addr)(zs:aq):Heap->Prop:=λh=>∃ es ep t,cj prog w (!bY w) h p zs es ep t
theorem rX:∀{us:aC}{ys:aq},StrsAre us ys->Vals (ys.map V.str) us
 |_,_,.nil=>.nil
 |_,_,.cons z t r=>.cons ⟨t,rfl⟩ (rX r)
theorem Eu:∀(vs:aC),(∀ v∈vs,∃ z k,v=.str z k)->StrsAre vs (vs.map tx)
 |[],_=>.nil
 |v::r,h=>by
  obtain⟨z,k,rfl⟩:=h v mem_cons_self;exact .cons z k (Eu r λu m=>h u (mem_cons_of_mem _ m))
section
variable {X:Cx}
theorem Inv.O6 {pins:aO}{σ:St}{H:Hp}{s:Shared}(I:Inv X pins σ H s)(dr:Drawn):Inv X pins σ H { s with drawn:=dr }:=I.A6 (ch:=[]) rfl Un.refl I.aA I.bare (λb hb=>nomatch hb)
theorem O7 (hc:X.calm=true):cy X (.type "set") (λxs H Q=>∃ p ys,xs=[.ref p]/\aN X.K H p (ys.map V.str)/\ys.length<=1000/\∀ l,H l=none->Q (.ref l) (upd H l (.ext (mM X.prog X.w l (c_ ys))))):=by
 intro pins s σ H xs us Q I r h;obtain⟨p,ys,rfl,hl,hz,q⟩:=h;obtain⟨u,rfl,ru⟩:=vals1 r;cases ru;obtain⟨its,rv,pl,_⟩:=I.list hl;refine OH (I.ok.hd hc) pl.isList (ys:=ys) (by simpa using rn rv) (by unfold scanBound;omega) λh' tk es ep t T k=>?_;obtain⟨o,ho,_⟩:=T.get;exact⟨.ref _,_,I.laid (o:=.ext (mM X.prog X.w s.heap.objs.size (c_ ys))) (t':=tk) (λb u e=>k b u (a7 e) e) (ar _) ⟨⟨es,ep,t,T⟩,⟨o,ho⟩,λh1 h2 ⟨es,ep,t,T⟩ kk=>⟨es,ep,t,T.moved kk⟩⟩,rfl,q _ I.fresh⟩
theorem O8 (hc:X.calm=true):cy X (.builtin "sorted") (λxs H Q=>∃ p zs,xs=[.ref p]/\H p=some (.ext (mM X.prog X.w p zs))/\zs.length<64/\∀ l ss,H l=none->jt zs ss->Q (.ref l) (upd H l (.lst (ss.map V.str)))):=by
 intro pins s σ H xs us Q I r h;obtain⟨p,zs,rfl,hp,hz,q⟩:=h;obtain⟨u,rfl,ru⟩:=vals1 r;cases ru;obtain⟨⟨es,ep,t,T⟩,_,_⟩:=I.aA p _ hp;refine Calls.call_function_entry kind_sorted plain_sorted entry_sorted (args_sorted1 _) ?_;unfold Builtin.«sorted»;refine af (m:=checkCount "sorted" 1 1 _) (ao ?_);refine af (O4 (A:=X.A.in1) (I.ok.hd hc) T (by omega) λh' tk dr vs k lt pm al=>?_)
 have len:vs.length<64:=by
  have z:=pm.length_eq;rw[length_map] at z;omega
 refine af (wpAny_newList ?_ (Nat.le_of_lt (jq (by omega))));have hS:=Eu vs al;have oL:(h'.push { cls:=.type "list",data:=.seq vs.toArray }).get? h'.objs.size=some (seqObj "list" vs.toArray 0):=b7 _ rfl;refine af (wpAny_holding (wpAny_call_entry slot_list_sort ⟨_,oL,rfl⟩ entry_list_sort (list_sort_treeK strKind_oneLt oL hS.keysOf (λO9 O_ rest e=>keyKind_strs (by rw[<- e];exact hS)) len λst' a1 a2=>⟨_,rfl,?_⟩) (args_list_sort _)));obtain⟨ss,b1,b2,b3⟩:=sorted_out_str hS a1 a2;obtain⟨ex,he⟩:=sortedHeap_at (out:=(arrOf st').map (·.2)) oL
 have kp:∀ b o,s.heap.get? b=some o->(sortedHeap (h'.push { cls:=.type "list",data:=.seq vs.toArray }) h'.objs.size vs ((arrOf st').map (·.2))).get? b=some o:=λb o e=>by
  have e1:=k b o e;have l1:=a7 e1;rw[sortedHeap_old (bJ l1) (by rw[size_push'];exact Nat.lt_succ_of_lt l1)];exact a9 _ e1
 have le:s.heap.objs.size<=h'.objs.size:=Nat.le_of_lt lt
 have I1:=(I.O6 dr).laid (a:=h'.objs.size) (o:=.lst (ss.map V.str)) (t':=tk) kp le ⟨by rw[length_map,b2.length_eq,length_map];exact Nat.le_of_lt (jq (by omega)),((arrOf st').map (·.2)).toList,ex,rX b1,by
  rw[Array.toArray_toList]
  exact he⟩
 exact ao ⟨_,rfl,.ref h'.objs.size,_,I1,rfl,q _ ss (I.aA.fresh le) ⟨b2.trans pm,xE b3⟩⟩
theorem O':cy X (.builtin "sorted") (λxs H Q=>∃ p ys,xs=[.ref p]/\aN X.K H p (ys.map V.str)/\ys.length<64/\∀ l ss,H l=none->jt ys ss->Q (.ref l) (upd H l (.lst (ss.map V.str)))):=by
 intro pins s σ H xs us Q I r h;obtain⟨p,ys,rfl,hl,hz,q⟩:=h;obtain⟨u,rfl,ru⟩:=vals1 r;cases ru;obtain⟨its,rv,pl,_⟩:=I.list hl;have hS:StrsAre its ys:=rn rv;have l0:=rv.length;rw[length_map] at l0;refine sorted_strs pl.isList hS (by omega) λout ss b1 b2 b3=>?_;obtain⟨ex,he⟩:=sortedAll_at s.heap its out;have I1:=I.laid (a:=s.heap.objs.size+1) (o:=.lst (ss.map V.str)) (t':=s.toks) (h':=sortedAll s.heap its out) (λb o e=>sortedAll_old e) (Nat.le_succ _) ⟨by rw[length_map,b2.length_eq];exact Nat.le_of_lt (jq (by omega)),_,ex,rX b1,by simpa [seqObj] using he⟩;exact⟨.ref _,_,I1,rfl,q _ ss (I.aA.fresh (Nat.le_succ _)) ⟨b2,xE b3⟩⟩
end
theorem Pa {J:It}{g:TG}{tI:TT}{te:TE}{acc:Addr}{Q:VK}{σ:St}{H:Hp}(n:Nat)(Pv:Nat->St->Hp->Prop)(h0:Pv 0 σ H)(stop:∀ σ H,Pv n σ H->J.stop n H/\Q (.ref acc) H)
  (go:∀ i σ H,i<n->Pv i σ H->J.go i H/\∀ x H2,J.fK i H x H2->g x σ H2 λcL H3=>tI cL H3 λb H4=>if b=true then te cL H4 λy H5=>∃ ys,H5 acc=some (.lst ys)/\ys.length<sizeLine/\Pv (i+1) cL (upd H5 acc (.lst (ys++[y]))) else Pv (i+1) cL H4) :
  oU J g tI te acc Q σ H:=by
 refine⟨λi m σ H=>m=n-i/\i<=n/\Pv i σ H,⟨n,by simp,Nat.zero_le _,h0⟩,?_⟩;rintro i m σ H ⟨rfl,hi,p⟩;by_cases eF:i<n
 ·obtain⟨g1,g2⟩:=go i σ H eF p;exact .inr ⟨g1,Pv (i+1),λaH H' p'=>⟨n-(i+1),by omega,rfl,eF,p'⟩,λx H2 y=>g2 x H2 y⟩
 ·have e:i=n:=by omega
  subst e;exact .inl (stop σ H p)
section
variable {X:Cx}{k:Nat}{f:Addr}{fd:FuncData}{ps:aq}{sp:Sp}{CX:fL}{E:XK}{x:Str}{p pos:Pos}{e:Expr}{es:List Expr}{t:TA}{i:Nat}
end
section
variable {X:Cx}
end
theorem Pb (n:Nat):sliceRange ((n:Int)-1) (-1) (-1)=(range n).map λi=>n-1-i:=by
 unfold sliceRange;rw[if_neg (by decide)]
 have e:(if ((n:Int)-1) > -1 then ((n:Int)-1 - -1 - -1-1) / - -1 else 0).toNat=n:=by
  rw[show(- -1:Int)=1 from rfl,Int.ediv_one];by_cases h:((n:Int)-1) > -1
  ·rw[if_pos h];omega
  ·rw[if_neg h];omega
 simp only[e];refine map_congr_left λi hi=>?_;have:=mem_range.mp hi;omega
theorem Pc (its:aC):slicePick its.toArray none none (some (-1))=its.reverse.toArray:=by
 unfold slicePick;have b:sliceBounds none none (some (-1)) its.toArray.size=((its.length:Int)-1,-1,-1):=rfl;rw[b];show((sliceRange ((its.length:Int)-1) (-1) (-1)).filterMap (its.toArray[·]?)).toArray=_;rw[Pb]
 congr 1
 refine ext_getElem? λi=>?_;rw[filterMap_map]
 have all:∀(l:List Nat),(∀ j∈l,j<its.length)->l.filterMap ((λx=>its.toArray[x]?)∘λi=>its.length-1-i)=l.map λi=>its.getD (its.length-1-i) .none:=by
  intro l
  induction l with
  |nil=>intro _;rfl
  |cons j r ih=>
   intro h;have hj:=h j mem_cons_self
   have e:((λx=>its.toArray[x]?)∘λi=>its.length-1-i) j=some (its.getD (its.length-1-j) .none):=by
    show its.toArray[its.length-1-j]?=_;rw[getElem?_toArray,cg (by omega)];simp [getD,cg (show its.length-1-j<its.length by omega)]
   rw[filterMap_cons,e,map_cons,ih λk m=>h k (mem_cons_of_mem _ m)]
 rw[all _ λj m=>mem_range.mp m,getElem?_map];by_cases hi:i<its.length
 ·rw[getElem?_range hi,getElem?_reverse hi,Option.map_some];simp [getD,cg (show its.length-1-i<its.length by omega)]
 ·rw[getElem?_eq_none (by simpa using hi),getElem?_eq_none (by simpa using hi)];rfl
section
variable {X:Cx}{e:Expr}{te:TE}{pos p2 p3 p4:Pos}{j:Nat}
theorem Pd {K:Frag}(hK:X.K=K)(he:PE X e te):PE X (.Subscript e (.Slice none none (some (.UnaryOp .USub (.Constant (.int 1) j p3) p4)) p2) pos) (λσ H Q=>te σ H λx H1=>∃ a xs,x=.ref a/\aN K H1 a xs/\∀ p,H1 p=none->Q (.ref p) (upd H1 p (.lst xs.reverse))):=by
 subst hK;intro pins s σ H Q I h;refine Subscript_ (aD (he pins s σ H _ I h) λv s1 ⟨x,H1,I1,r1,q1⟩=>?_);obtain⟨a,xs,rfl,hx,q⟩:=q1;cases r1;refine wpAny_Slice ?_;rw[evalPart_none];refine ao (ao ?_);rw[evalPart_some];refine aD (Bk (X:=X) Bm (cR (i:=1)) pins s1 σ H1 (λu H2=>u=.int (-1)/\H2=H1) I1 ⟨1,rfl,rfl,rfl⟩) λu s2 ⟨x2,H2,I2,r2,e1,e2⟩=>?_;subst e1 e2;obtain⟨t,rfl⟩:=r2;obtain⟨its,r,ht,hz⟩:=I2.list hx;have hlen:=r.length;have k:∀ b o,s2.heap.get? b=some o->(s2.heap.push { cls:=.type "slice",data:=.fields #[.none,.none,.int (-1) t] }).get? b=some o:=λb o e=>a9 _ e;have I3:Inv X pins σ H2 { s2 with heap:=s2.heap.push { cls:=.type "slice",data:=.fields #[.none,.none,.int (-1) t] } }:=I2.kept (t':=s2.toks) k;have Ew:(s2.heap.push { cls:=.type "slice",data:=.fields #[.none,.none,.int (-1) t] }).IsList a its.toArray:=ht.isList.push _
 have hg:wpAny (model X.prog X.w) X.A (getItem (.ref a) (.ref s2.heap.objs.size)) (EP X pins σ Q) X.xe { s2 with heap:=s2.heap.push { cls:=.type "slice",data:=.fields #[.none,.none,.int (-1) t] } }:=by
  refine wpAny_getItem_list_slice Ew (Heap.IsSliceOf.new ..) .none .none (.int (-1) t) (by simp) ?_ (by rw[size_toArray];omega);rw[Pc];refine⟨.ref _,_,I3.laid (t':=s2.toks) (o:=.lst xs.reverse) (λb ob q=>a9 _ q) (ar _) ?_,rfl,q _ (I3.aA.fresh (ar _))⟩;exact⟨by rw[length_reverse];exact hz,its.reverse,0,r.reverse,b7 _ rfl⟩
 show wpAny (model X.prog X.w) X.A (subscriptTail e (.Slice none none (some (.UnaryOp .USub (.Constant (.int 1) j p3) p4)) p2) (.ref a) (.ref s2.heap.objs.size)) (EP X pins σ Q) X.xe _;exact tail_any (ops:=[.ref a,.ref s2.heap.objs.size]) (Ew.typeIs (s:={ s2 with heap:=_ })) slot_list_getitem.lookup hg (by with_unfolding_all rfl)
end
section
variable {prog:Program}{w:World}{A:Around}{E:aG}{s:Shared}
theorem Pe {l:Addr}{items:Array Value}{ys:aq}{Q:aG}(hh:A.handled=none)(hl:s.heap.IsTuple l items)(hi:StrsAre items.toList ys)(hb:ys.length+1<scanBound)
  (h:∀ h' tk es ep t,cj prog w (!bY w) h' s.heap.objs.size (c_ ys) es ep t->(∀ b o,b<s.heap.objs.size->s.heap.get? b=some o->h'.get? b=some o)->Q (.ref s.heap.objs.size) { s with heap:=h',toks:=tk }) :
  wpAny (model prog w) A (call (.type "set") [.ref l]) Q E s:=by
 obtain⟨c,tl,q0⟩:=PySem.F.called_set.mro;have q1:=PySem.F.called_set.made;have q2:=PySem.F.called_set.sub;refine wpAny_call (codeAny_of_tree ?_);show wpAny _ _ (callAny (.type "set") _) _ _ _;refine ao ⟨Code.quiet_builtin _ (by decide +kernel),codeAny_builtin PySem.F.entry_type_call ?_⟩;rw[Around.under_plain (weight_type_call_type "set" [.ref l] []) rfl];have q3:=PySem.F.called_set.notType;have q4:=PySem.F.called_set.canCreate;have q5:=PySem.F.typeCall_set_1 (.ref l)
 repeat (any_goals (first|assumption|wp_step))
 refine codeAny_mono (Eg (.ref l) (E:=E) (Q₁:=λobj aU=>obj=.ref s.heap.objs.size/\aU={ s with heap:=s.heap.push (d7 w) }) ⟨rfl,rfl⟩) λr aU hr=>?_
 cases r with
 |error e=>exact hr
 |ok fl=>
  cases fl with
  |ret obj=>
   obtain⟨rfl,rfl⟩:=hr;have g0:(s.heap.push (d7 w)).get? s.heap.objs.size=some (d7 w):=b7 _ rfl;have ty:Shared.TypeIs { s with heap:=s.heap.push (d7 w) } (.ref s.heap.objs.size) "set":=⟨_,g0,rfl⟩;have q6:=PySem.F.called_set.init.lookup;have q7:=PySem.F.called_set.init.bind (.ref s.heap.objs.size)
   repeat (any_goals (first|assumption|wp_step))
   refine codeAny_mono (codeAny_call_builtin (R:=wants (λr dS=>r=.none/\∃ h' tk,dS={ s with heap:=h',toks:=tk }/\(∃ es ep t,cj prog w (!bY w) h' s.heap.objs.size (c_ ys) es ep t) /\
     (∀ b o,b<s.heap.objs.size->s.heap.get? b=some o->h'.get? b=some o)) E) PySem.F.called_set.init.plain PySem.F.entry_set_init (check_set_init_1 ty ?_)) λxu dS lx=>?_
   ·obtain⟨ol,g1,cl,nl,dl⟩:=hl;obtain⟨OI,xw,OJ,xx⟩:=ol;simp only at cl dl;subst cl;subst dl;have g2:(s.heap.push (d7 w)).get? l=some { cls:=.type "tuple",dict:=xw,data:=.seq items nl,slots:=xx }:=a9 _ g1;have q8:=PySem.F.sub_tuple_set;have q9:=PySem.F.sub_tuple_frozenset;have f':(Value.type "tuple"==Value.type "dict")=false:=by decide
    have l1:(s.heap.push (d7 w)).IsTuple l items:=⟨_,g2,rfl,nl,rfl⟩;unfold Builtin.«set.__init__» noKeywords;unfold Builtin.Frozenset.updateFrom;generalize xy:pyIter=PI;wp_walk;subst xy;refine wpAny_pyIter_tuple l1 ?_;refine af (wpAny_runValue ?_);have lt:l<s.heap.objs.size:=a7 g1;have xA:A.in1.in1.in1.handled=none:=by simp [hh]
    have sz:(s.heap.push (d7 w)).objs.size=s.heap.objs.size+1:=Heap.size_push ..;have ne:l≠(s.heap.push (d7 w)).objs.size:=by rw[sz];exact bJ (Nat.lt_succ_of_lt lt)
    have nf:s.heap.objs.size∉[(s.heap.push (d7 w)).objs.size,l]:=by
     rw[sz];simp only[mem_cons,mem_singleton,not_mem_nil,or_false,not_or];exact⟨bJ (Nat.lt_succ_self _),Nat.ne_of_gt lt⟩
    have hn:items.size=ys.length:=by
     have z:=StrsAre.length hi;rw[Array.length_toList] at z
     first|exact z|exact z.symm
    refine Ee (lb:=!bY w) ((Walks.tuple xA _ l ne items).toS) s.heap.objs.size nf ys hn.symm (λi v e=>xr hi i v (by rw[Array.getElem?_toList];exact e)) (by rw[hn];exact hb) (items.size-0) 0 _ (by omega) (Nat.zero_le _)
     ⟨⟨_,b7 _ rfl,rfl,rfl⟩,(l1.push _)⟩ ?_ ?_
    ·exact⟨#[],0,.fresh 0 0 (!bY w),⟨_,a9 _ g0,⟨rfl,rfl,rfl⟩,rfl⟩,λe he=>by simp at he,by decide,by rfl,rfl,.inl rfl,.refl _⟩
    ·intro s' mv T;obtain⟨h',g',d',ly,oC⟩:=s';have eg:g'=s.gens:=mv.gens;have ed:d'=s.drawn:=mv.drawn;have eo:oC=s.os:=mv.os;subst eg ed eo;show wpAny _ _ _ _ _ _;refine ao ?_;show wpAny _ _ (ret Value.none) _ _ _;refine ao ⟨rfl,h',ly,rfl,T,λb o hb e=>?_⟩;refine mv.heap b o ?_ (a9 _ (a9 _ e));simp only[mem_cons,mem_singleton,not_mem_nil,or_false,not_or];exact⟨bJ hb,by rw[sz];exact bJ (Nat.lt_succ_of_lt hb)⟩
   ·cases xu with
    |error e=>exact lx
    |ok xB=>
     cases xB with
     |ret r=>
      obtain⟨rfl,h',tk,rfl,⟨es,ep,t,T⟩,k⟩:=lx
      repeat (any_goals (first|assumption|wp_step))
      exact h h' tk es ep t T k
     |_=>exact lx.elim
  |_=>exact hr.elim
end
inductive Rl {α:Type}(R:α->V->Prop):List α->Zv->Prop where
 |nil:Rl R [] []
 |cons {a:α}{v:V}{as:List α}{vs:Zv}:R a v->Rl R as vs->Rl R (a::as) (v::vs)
section
variable {α:Type}{R S:α->V->Prop}
theorem Rl.len {as:List α}{vs:Zv}(h:Rl R as vs):as.length=vs.length:=by
 induction h with
 |nil=>rfl
 |cons _ _ ih=>simp [ih]
end
noncomputable def kd (t:Bool):Str:=if t then "text" else "number"
section
variable {X:Cx}
end
theorem Pf:typeLookup (.type "list") "keys"=pure none:=am_miss_of_fast (by kernel_rfl)
section
variable {prog:Program}{w:World}{A:Around}{E:aG}{s:Shared}
theorem Pg {a:Addr}{xs:Array Value}{k:Nat}{sl:Array (Option Value)}{Q:Option Value->Shared->Prop}(hx:s.heap.get? a=some { cls:=.type "list",dict:=none,data:=.seq xs k,slots:=sl })(hA:A.handled=none)
  (h:∀ h' tk,(∀ b o,s.heap.get? b=some o->h'.get? b=some o)->Q none { s with heap:=h',toks:=tk }):wpAny (model prog w) A (getAttr? (.ref a) "keys") Q E s:=by
 obtain⟨hp,gs,dr,tk,os⟩:=s;have hT:∀ ly,(⟨hp,gs,dr,ly,os⟩:Shared).TypeIs (.ref a) "list":=λ_=>⟨_,hx,rfl⟩;have f1:=sub_AttributeError;have f3:=PySem.F.slot_list_getattribute.lookup;have f4:=PySem.F.slot_list_getattribute.bind (.ref a);have f5:=am_list_getattr_none;unfold getAttr? getAttrBy? getAttrBy
 repeat (any_goals (first|assumption|exact hT _|((with_reducible show wpAny _ _ (call (Value.builtin "list.__getattribute__") _ _) _ _ _);refine call_meets PySem.F.slot_list_getattribute (hT _) am_entry_list_getattribute (PySem.F.args_list_getattribute_2 _ _) (meets_getattribute_miss_list a xs k sl "keys" _ Pf (by decide +kernel)) ⟨hx,hA,λh' ly e Ex=>?_⟩)|wp_step))
 obtain⟨t',u',he⟩:=Ex.there;show wpAny _ _ (getattributeRaised _ _ _ _ _ _ _) _ _ _;unfold getattributeRaised
 repeat (any_goals (first|assumption|wp_step))
 exact h h' ly Ex.of.keeps
end
theorem Ey:entryFor table "dict.update.loop"=some Builtin.«dict.update.loop»:=entryFor_of_tree (by kernel_rfl)
theorem rY:plainId "dict.update.loop"=true:=by decide +kernel
noncomputable def putAll (kvs:List (Key×Value)):List (Key×Value):=kvs.foldl (λacc kv=>stored acc kv.1 kv.2) []
theorem Ph (kvs:List (Key×Value))(k:Key)(v:Value):(stored kvs k v).length<=kvs.length+1:=by
 unfold stored
 split<;>simp
section
variable {prog:Program}{w:World}{A:Around}{R:Result->Shared->Prop}{I:Addr}{fp wr:List Addr}{G:Array GenState->Array GenState->Prop}{n:Nat}{P:Nat->Value->Prop}{St:Nat->Shared->Prop}
theorem Pj (W:WalksS prog w A.in1 I fp wr G n P St)(D:Addr)(Ez:D∉fp)(h0:Heap)(kvs:List (Key×Value))(res:Value)(aF:n<=1000)
  (hv:∀ i v,P i v->∃ p o m key x k,v=.ref p/\p∉D::wr/\h0.get? p=some o/\o.cls=.type "tuple"/\o.data=.seq #[key,x] m/\kvs[i]?=some (k,x)/\(bN prog w).is k key=true)(hn:kvs.length=n) :
  ∀(c i:Nat)(s:Shared),n-i=c->i<=n->St i s->s.heap.DictOf (bN prog w) D (putAll (kvs.take i))->(∀ b o,b∉D::wr->h0.get? b=some o->s.heap.get? b=some o) ->
   (∀ s',Moved (D::wr) G s s'->s'.heap.DictOf (bN prog w) D (putAll kvs)->R (.ok (.ret res)) s')->codeAny (model prog w) A (.builtin "dict.update.loop" ⟨[.ref D,.ref I,rawInt i,res],[]⟩) R s:=by
 have nw:D∉wr:=λm=>Ez (W.sub _ m);have sub:∀ b∈wr,b∈D::wr:=λb m=>mem_cons_of_mem _ m;intro c
 induction c with
 |zero=>
  intro i s hk hi st T kp fin;have e:i=n:=by omega
  subst e;refine codeAny_builtin Ey ?_;rw[Around.under_plainId rY _];show wpAny _ A.in1 (pyNext (.ref I) >>= _) _ _ s;refine af (W.done s _ _ st λs' mv=>?_);show wpAny _ A.in1 (Builtin.Dict.addKeywords D [] >>= _) _ _ s';refine af (ao ?_);rw[<- hn,take_length] at T;refine ao (fin s' (mv.mono sub) ?_);obtain⟨o,es,ep,ho,r⟩:=T;exact⟨o,es,ep,mv.heap D _ nw ho,r⟩
 |succ c ih=>
  intro i s hk hi st T kp fin;have lt:i<n:=by omega
  refine codeAny_builtin Ey ?_;rw[Around.under_plainId rY _];show wpAny _ A.in1 (pyNext (.ref I) >>= _) _ _ s;refine af (W.item i s _ _ lt st λv s' hP st' mv=>?_);obtain⟨p,o,m,key,x,k,rfl,np,ho,hc,hd,mN,Pk⟩:=hv i v hP;have Pl:p∉wr:=λq=>np (sub _ q);have e_:=mv.heap p _ Pl (kp p o np ho)
  have T':s'.heap.DictOf (bN prog w) D (putAll (kvs.take i)):=by
   obtain⟨od,es,ep,Pm,r⟩:=T;exact⟨od,es,ep,mv.heap D _ nw Pm,r⟩
  have len:(putAll (kvs.take i)).length<=1000:=by
   have z:∀(l acc:List (Key×Value)),(l.foldl (λacc kv=>stored acc kv.1 kv.2) acc).length<=acc.length+l.length:=by
    intro l
    induction l with
    |nil=>intro acc;simp
    |cons kv r xF=>
     intro acc;refine aP (xF _) ?_;have:=Ph acc kv.1 kv.2;simp only[length_cons];omega
   have z2:=z (kvs.take i) [];rw[length_take,length_nil] at z2;show(foldl (fun(acc:List (Key×Value))(kv:Key×Value)=>stored acc kv.1 kv.2) [] (kvs.take i)).length<=1000;omega
  have et:putAll (kvs.take (i+1))=stored (putAll (kvs.take i)) k x:=by
   unfold putAll;rw[take_add_one,mN,foldl_append];rfl
  dsimp only;refine af (wpAny_holding ?_);refine af (wpAny_tryCatch ?_);unfold Builtin.Dict.pairItems;refine af (wpAny_typeOf (T:="tuple") ⟨o,e_,hc⟩ ?_);rw[if_pos (by decide)];refine af (wpAny_seqItems e_ hd (ao ?_));dsimp only[Option.getD_some];refine wpAny_holding (wpAny_dictSet_pairs Pk T' (λh' dd sb=>?_) (Nat.le_of_lt (jq len)));rw[<- et] at dd;refine ao ⟨plainId_quiet rY _,ih (i+1) _ (by omega) lt (W.frame _ s' _ _ st' (Nat.le_succ _) λb hb ob e=>?_) dd (λb ob hb e=>?_) λs2 xt T3=>?_⟩
  ·rw[sb.2 b (λq:b=D=>Ez (q▸hb))];exact e
  ·rw[sb.2 b (λq:b=D=>hb (q▸mem_cons_self))];exact mv.heap b ob (λq=>hb (sub _ q)) (kp b ob hb e)
  ·refine fin s2 (Moved.trans W.gtrans ((mv.mono sub).then_heap (Nat.le_succ _) λb ob hb e=>?_) xt) T3;rw[sb.2 b (λq:b=D=>hb (q▸mem_cons_self))];exact e
end
section
variable {prog:Program}{w:World}{A:Around}{E:aG}{s:Shared}
theorem Pn {l:Addr}{its:aC}{m:Nat}{kvs:List (Key×Value)}{Q:aG}(hh:A.handled=none)(hl:s.heap.get? l=some { cls:=.type "list",data:=.seq its.toArray m })(aF:its.length<=1000)(hn:kvs.length=its.length)
  (hv:∀(i:Nat)(v:Value),its[i]?=some v->∃ p o m key x k,v=.ref p/\s.heap.get? p=some o/\o.cls=.type "tuple"/\o.data=.seq #[key,x] m/\kvs[i]?=some (k,x)/\(bN prog w).is k key=true)
  (h:∀ h' tk,h'.DictOf (bN prog w) s.heap.objs.size (putAll kvs)->(∀ b o,s.heap.get? b=some o->h'.get? b=some o)->Q (.ref s.heap.objs.size) { s with heap:=h',toks:=tk }) :
  wpAny (model prog w) A (call (.type "dict") [.ref l]) Q E s:=by
 refine callType_codes (Q₁:=λobj aU=>obj=.ref s.heap.objs.size/\aU={ s with heap:=s.heap.push { cls:=.type "dict",data:=.dict #[] } }) PySem.F.kt_called_dict (PySem.F.kt_typeCall_dict_1 _) PySem.F.entry_dict_init (kt_code_dict_new _ ⟨rfl,rfl⟩) ?_;rintro obj aU ⟨rfl,rfl⟩;have new:(s.heap.push { cls:=.type "dict",data:=.dict #[] }).DictOf (bN prog w) s.heap.objs.size []:=Heap.DictOf.new s.heap;refine⟨new.typeIs,PySem.F.args_dict_init_2 _ _,?_⟩;unfold Builtin.«dict.__init__»;refine af ?_;unfold Builtin.Dict.selfAndRest;refine af (wpAny_notOrdered_dict new.typeIs ?_);show wpAny _ _ (pure (s.heap.objs.size,[Value.ref l])) _ _ _;refine ao ?_;show wpAny _ _ (Builtin.Dict.updateFrom "dict.__init__" s.heap.objs.size (.ref l) [] .none) _ _ _;unfold Builtin.Dict.updateFrom;have l1:(s.heap.push { cls:=.type "dict",data:=.dict #[] }).get? l=some { cls:=.type "list",data:=.seq its.toArray m }:=a9 _ hl;refine af (wpAny_typeOf (T:="list") ⟨_,l1,rfl⟩ ?_);rw[if_pos (by decide)];refine af (Pg l1 (by simp [hh]) λh1 mO k1=>?_);rw[if_pos (show(none:Option Value).isNone=true from rfl)];refine af (wpAny_rule ?_);have l2:=k1 _ _ l1;have EA:h1.IsList l its.toArray:=⟨_,l2,rfl,m,rfl⟩
 have d1:h1.DictOf (bN prog w) s.heap.objs.size []:=by
  obtain⟨o,es,ep,ho,r⟩:=new;exact⟨o,es,ep,k1 _ _ ho,r⟩
 refine af (wpAny_pyIter_list EA ?_)
 have sz:s.heap.objs.size<h1.objs.size:=by
  obtain⟨o,es,ep,ho,r⟩:=d1;exact a7 ho
 have lt:l<s.heap.objs.size:=a7 hl;have ne:l≠h1.objs.size:=bJ (Nat.lt_trans lt sz)
 have nf:s.heap.objs.size∉[h1.objs.size,l]:=by
  simp only[mem_cons,mem_singleton,not_mem_nil,or_false,not_or];exact⟨bJ sz,Nat.ne_of_gt lt⟩
 refine ao ⟨plainId_quiet rY _,?_⟩
 refine Pj ((Walks.list (by simp [hh]) _ l ne its.toArray).toS) s.heap.objs.size nf h1 kvs .none (by rw[size_toArray];exact aF) (λi v e=>?_) (by rw[size_toArray];exact hn) (its.toArray.size-0) 0 _ (by omega) (Nat.zero_le _)
  ⟨⟨_,b7 _ rfl,rfl,rfl⟩,EA.push _⟩ ?_ (λb o _ e=>a9 _ e) (λs' mv T=>?_)
 ·obtain⟨p,o,m',key,x,k,rfl,ho,r⟩:=hv i v (by simpa using e);have lp:p<s.heap.objs.size:=a7 ho;refine⟨p,o,m',key,x,k,rfl,?_,k1 _ _ (a9 _ ho),r⟩;simp only[mem_cons,mem_singleton,not_mem_nil,or_false,not_or];exact⟨bJ lp,bJ (Nat.lt_trans lp sz)⟩
 ·exact d1.push _
 ·rw[Moved.eq_with mv];refine⟨rfl,h s'.heap s'.toks T λb o e=>?_⟩;have lb:b<s.heap.objs.size:=a7 e;refine mv.heap b o ?_ (a9 _ (k1 _ _ (a9 _ e)));simp only[mem_cons,mem_singleton,not_mem_nil,or_false,not_or];exact⟨bJ lb,bJ (Nat.lt_trans lb sz)⟩
end
noncomputable def rZ (kvs:bj):bj:=kvs.foldl (λacc kv=>putK acc kv.1 kv.2) []
theorem Po (kvs:bj):(rZ kvs).length<=kvs.length:=by
 have z:∀(l acc:bj),(l.foldl (λacc kv=>putK acc kv.1 kv.2) acc).length<=acc.length+l.length:=by
  intro l
  induction l with
  |nil=>intro acc;simp
  |cons kv r ih=>
   intro acc;refine aP (ih _) ?_;have:=qO acc kv.1 kv.2;simp only[length_cons];omega
 have q:=z kvs [];rw[length_nil,Nat.zero_add] at q;exact q
section
variable {X:Cx}
theorem Pp {kvs:bj}{vs:List (Key×Value)}(r:KV kvs vs):KV (rZ kvs) (putAll vs):=by
 have z:∀{l:bj}{m:List (Key×Value)}{acc:bj}{acc':List (Key×Value)},KV l m->KV acc acc'->KV (l.foldl (λacc kv=>putK acc kv.1 kv.2) acc) (m.foldl (λacc kv=>stored acc kv.1 kv.2) acc'):=by
  intro l
  induction l with
  |nil=>intro m acc acc' h g;cases h;exact g
  |cons kv r ih=>
   intro m acc acc' h g
   match m,h with
   |b::m',.cons h t=>
    obtain⟨e,rv⟩:=h;refine ih (m:=m') (acc:=putK acc kv.1 kv.2) (acc':=stored acc' b.1 b.2) t ?_;rw[<- e];exact g.put _ rv
 exact z r .nil
end
section
variable {X:Cx}
noncomputable def EB (K:Frag):R2:=λx y H Q=>∃ a b xs ys,x=.ref a/\y=.ref b/\bt K H a xs/\bt K H b ys/\xs.length+ys.length<=sizeLine /\
 (xs=[]->Q (.ref b) H)/\(xs≠[]->ys=[]->Q (.ref a) H)/\(xs≠[]->ys≠[]->∀ p,H p=none->Q (.ref p) (upd H p (.tup (xs++ys))))
theorem Pq:bz X (binaryOp .Add) (EB X.K):=by
 intro pins s σ H x y v u Q I rx ry h;obtain⟨a,b,xs,ys,rfl,rfl,ha,hb,hz,q0,q1,q2⟩:=h;by_cases hx:xs=[]
 ·cases rx;cases ry;obtain⟨its,r1,p1,_⟩:=I.tuple ha;obtain⟨fA,r2,p2,_⟩:=I.tuple hb;have e:its=[]:=r1.q_.mpr hx;obtain⟨⟨cls,dd,data,sl⟩,ho,hc,n,hd⟩:=id p1;obtain⟨⟨Mg,mF,data2,k9⟩,k_,j5,n2,hd2⟩:=id p2;simp only at hc hd j5 hd2;subst hc hd j5 hd2
  exact concat_meets ⟨_,ho,rfl⟩ ⟨_,k_,rfl⟩ noFill_tuple_add seq_tuple_add PySem.F.slot_tuple_add PySem.F.entry_tuple_add (PySem.F.args_tuple_add_2 _ _)
   (tuple_addW0 a b its.toArray fA.toArray n n2 dd mF sl k9 (by simp [e])) ⟨ho,k_,⟨.ref b,H,I,rfl,q0 hx⟩⟩
 ·exact Mv pins s σ H _ _ v u Q I rx ry ⟨a,b,xs,ys,rfl,rfl,ha,hb,hx,hz,q1 hx,q2 hx⟩
end
section
variable {X:Cx}{pins:aO}{σ:St}{H:Hp}{s:Shared}
theorem Inv.EC {p:Addr}{kvs:bj}(I:Inv X pins σ H s)(h:H p=some (.dK kvs)):∃ od,Inv X pins σ (upd H p (.bD od (.dK kvs))) s:=by
 obtain⟨z,n,vs,r,ob,es,ep,e,rest⟩:=qQ I.aA h;refine⟨ob,I.write (x:=p) (e:=p) (h':=s.heap) (t':=s.toks) (by rw[h];trivial) (.inl rfl) (λ_ _ _ q=>q) ⟨ob,e⟩ ⟨⟨e,λ_ z=>nomatch z⟩,z,n,vs,r,ob,es,ep,e,rest⟩⟩
theorem PE.post {e:Expr}{t t':TE}(h:PE X e t)(f:∀ σ H Q,t' σ H Q->t σ H λv H1=>∀ pins s,Inv X pins σ H1 s->∃ H2,Inv X pins σ H2 s/\Q v H2):PE X e t':=λpins s σ H Q I w=>
 aD (h pins s σ H _ I (f _ _ _ w)) λu s1 ⟨v,H1,I1,r,q⟩=>by
  obtain⟨H2,I2,q2⟩:=q pins s1 I1;exact⟨v,H2,I2,r,q2⟩
theorem Pr:cy X (.type "dict") (λxs H Q=>∃ a kvs,xs=[.ref a]/\Rd H a (.dK kvs)/\∀ p,H p=none->Q (.ref p) (upd H p (.dK kvs))):=by
 intro pins s σ H xs us Q I r h;obtain⟨a,kvs,rfl,ha,q⟩:=h;obtain⟨u,rfl,ru⟩:=vals1 r;cases ru;exact Me I ha λp s' hp I'=>⟨.ref p,_,I',rfl,q p hp⟩
theorem Pt:vH X "dict.update" (λx vs H Q=>∃ d o kvs more,x=.ref d/\vs=[.ref o]/\d≠o/\H d=some (.dK kvs)/\Rd H o (.dK more)/\kvs.length+more.length<=sizeLine/\Q .non (upd H d (.dK (hV kvs more)))):=by
 intro pins s σ H x xs v us Q I rx rv h;obtain⟨d,o,kvs,more,rfl,rfl,bL,hd,ho,hz,q⟩:=h;cases rx;obtain⟨u,rfl,ru⟩:=vals1 rv;cases ru;obtain⟨z1,n1,Pu,r1,ED⟩:=qQ I.aA hd;obtain⟨z2,n2,Pw,r2,mF⟩:=ho.ok I.aA
 refine call_meetsIn PySem.F.slot_dict_update ED.typeIs PySem.F.entry_dict_update (PySem.F.args_dict_update_2 _ _) (meets_dict_update (bN X.prog X.w) d o bL n2)
  ⟨Pu,Pw,ED,mF,(by rw[<- r1.length,<- r2.length];exact hz),λh' gy _ hs=>?_⟩
 refine⟨.non,_,qU (t':=s.toks) I (by rw[hd];trivial) hs ?_ (oH (aP (vC _ _) hz) n1 (KV.merge r2 r1) gy),rfl,q⟩;obtain⟨ob,_,_,e,_⟩:=gy;exact⟨ob,e⟩
noncomputable def mP (a:Addr)(od:Obj):It:=
 ⟨λi H=>∃ kvs kv,H a=some (.bD od (.dK kvs))/\kvs[i]?=some kv,λi H x H'=>H'=H/\∀ kvs,H a=some (.bD od (.dK kvs))->∃ kv,kvs[i]?=some kv/\x=kV kv.1,λi H=>∃ kvs,H a=some (.bD od (.dK kvs))/\kvs.length<=i⟩
theorem Px {kvs:bj}{vs:List (Key×Value)}(h:KV kvs vs){i:Nat}{kv:Key×V}(e:kvs[i]?=some kv):∃ u,vs[i]?=some (kv.1,u):=by
 unfold KV at h
 induction h generalizing i with
 |nil=>simp at e
 |@cons p q xs ys h1 h2 ih=>
  cases i with
  |zero=>
   simp only[getElem?_cons_zero,Option.some.injEq] at e;subst e;exact⟨q.2,by rw[h1.1];rfl⟩
  |succ i=>exact ih (by simpa using e)
theorem EE {a:Addr}{od:Obj}{kvs:bj}{es:Array DictEntry}{ep:Nat}(I:Inv X pins σ H s)(h:H a=some (.bD od (.dK kvs)))(hd:od.data=.dict es ep):∃ vs,KV kvs vs/\s.heap.DictAt (bN X.prog X.w) a vs ep/\es.size=vs.length:=by
 obtain⟨⟨e,_⟩,z,n,vs,r,ob,dI,qw,e',c,d,q1,q2,q3⟩:=I.aA a _ h;rw[e] at e';cases e';rw[hd] at d;cases d;exact⟨vs,r,⟨od,es,e,c,hd,q1,q2,q3⟩,by rw[<- q2.length];simp⟩
theorem Py {k:Key}{v:Value}(h:jd k v=true):RelV (kV k) v:=by
 rcases g4 h with ⟨i,t,rfl,rfl⟩|⟨x,t,rfl,rfl⟩
 ·exact⟨t,rfl⟩
 ·exact⟨t,rfl⟩
theorem Pz {P:Program}{w:World}{K:Frag}{tg:Expr}(a it:Addr)(od:Obj)(es:Array DictEntry)(ep:Nat)(hd:od.data=.dict es ep):Turn P w K tg (mP a od) [it] it (λi h=>h.IsKeyIter it a i es.size ep) where
 mem:=by simp
 obj:=λi h st b hb=>by
  have e:b=it:=by simpa using hb
  subst e;obtain⟨o,e,c,d⟩:=st;exact⟨o,e,λv z=>by rw[d] at z;cases z⟩
 keep:=λi h h' st k=>by
  obtain⟨o,e,c,d⟩:=st;exact⟨o,k it (by simp) o e,c,d⟩
 item:=by
  intro X hP hw hK hc i pins s σ H E I hf st hg;subst hP hw hK;obtain⟨kvs,kv,hq,hx⟩:=hg;obtain⟨vs,r,da,hsz⟩:=EE I hq hd;obtain⟨u,hu⟩:=Px r hx;obtain⟨f0,f1,f2,f3,f4,f5⟩:=hf it (by simp);rw[hsz] at st;refine wpAny_pyNext_dict_item st da hu λkey h' hk st' sb=>?_;have I1:Inv X pins σ H { s with heap:=h' }:=I.turned (t':=s.toks) (λb o hb e=>(sb.2 b hb).trans e) f0 f1 f3 f4 f5;obtain⟨o,e,c,d⟩:=id st';refine⟨key,rfl,mz (s:={ s with heap:=h' }) e c d (by decide) ⟨kV kv.1,H,I1,Py hk,⟨rfl,λys hy=>?_⟩,by rw[hsz];exact st',λb hb=>(hf b hb).1⟩⟩;rw[hq] at hy;cases hy;exact⟨kv,hx,rfl⟩
 done:=by
  intro X hP hw hK hc i pins s σ H E I hf st hg;subst hP hw hK;obtain⟨kvs,hq,hx⟩:=hg;obtain⟨vs,r,da,hsz⟩:=EE I hq hd;obtain⟨f0,f1,f2,f3,f4,f5⟩:=hf it (by simp);have hl:=r.length;rw[hsz] at st;exact wpAny_pyNext_dict_end (I.ok.hd hc) st da (getElem?_eq_none (by omega)) λh' eb=>⟨rfl,I.turned (t':=s.toks) (λb o hb e=>eb b o hb e) f0 f1 f3 f4 f5⟩
 self:=λA i s Q E st h=>by
  refine wpAny_pyIter_slot st.typeIs F.slot_dict_keyiterator_iter (wpAny_call_entry F.slot_dict_keyiterator_iter st.typeIs F.entry_dict_keyiterator_iter ?_ (F.args_dict_keyiterator_iter_1 _));show wpAny _ _ (ret (.ref it)) _ _ s;exact ao ⟨_,rfl,"dict_keyiterator",_,st.typeIs,F.slot_dict_keyiterator_next.lookup,h⟩
end
inductive PV where
 |non|bl (b:Bool)|int (i:Int)|str (x:Str)|tup (xs:List PV)|lst (xs:List PV)|ah (kvs:List (PV×PV))|raw (v:V)
noncomputable abbrev ai:=List PV
noncomputable abbrev aT:=List (PV×PV)
noncomputable def PB (H:Hp)(a:Addr)(av:List (V×V)):Prop:=∃(kvs:bj)(od:Obj),H a=some (.bD od (.dK kvs))/\av=kvs.map λkv=>(kV kv.1,kv.2)
mutual
inductive RV (K:Frag)(N:Addr->Prop)(H:Hp):PV->V->Prop where
 |non:RV K N H .non .non
 |bl (b:Bool):RV K N H (.bl b) (.bl b)
 |int (i:Int):RV K N H (.int i) (.int i)
 |str (x:Str):RV K N H (.str x) (.str x)
 |raw (a:Addr):RV K N H (.raw (.ref a)) (.ref a)
 |tup {a:Addr}{xs:ai}{vs:Zv}:bt K H a vs->aI K N H xs vs->RV K N H (.tup xs) (.ref a)
 |lst {a:Addr}{xs:ai}{vs:Zv}:¬ N a->H a=some (.lst vs)->aI K N H xs vs->RV K N H (.lst xs) (.ref a)
 |ah {a:Addr}{kvs:aT}{av:List (V×V)}:¬ N a->PB H a av->bR K N H kvs av->RV K N H (.ah kvs) (.ref a)
inductive aI (K:Frag)(N:Addr->Prop)(H:Hp):ai->Zv->Prop where
 |nil:aI K N H [] []
 |cons {x:PV}{v:V}{xs:ai}{vs:Zv}:RV K N H x v->aI K N H xs vs->aI K N H (x::xs) (v::vs)
inductive bR (K:Frag)(N:Addr->Prop)(H:Hp):aT->List (V×V)->Prop where
 |nil:bR K N H [] []
 |cons {k x:PV}{l v:V}{xs:aT}{vs:List (V×V)}:RV K N H k l->RV K N H x v->bR K N H xs vs->bR K N H ((k,x)::xs) ((l,v)::vs)
end
section
variable {K:Frag}{N N':Addr->Prop}{H H':Hp}
structure d8 (K:Frag)(N N':Addr->Prop)(H H':Hp):Prop where
 t:∀ a vs,bt K H a vs->bt K H' a vs
 l:∀ a o,¬ N a->H a=some o->¬ N' a/\H' a=some o
theorem RV.imp (k:d8 K N N' H H'){x:PV}{v:V}(h:RV K N H x v):RV K N' H' x v:=by
 refine RV.rec (motive_1:=λx v _=>RV K N' H' x v) (motive_2:=λxs vs _=>aI K N' H' xs vs) (motive_3:=λxs vs _=>bR K N' H' xs vs) .non .bl .int .str .raw
  (λh _ r=>.tup (k.t _ _ h) r) (λn h _ r=>.lst (k.l _ _ n h).1 (k.l _ _ n h).2 r) (λn h _ r=>?_) .nil (λ_ _ r s=>.cons r s) .nil (λ_ _ _ a b r=>.cons a b r) h
 obtain⟨kvs,od,h1,rfl⟩:=h;exact .ah (k.l _ _ n h1).1 ⟨kvs,od,(k.l _ _ n h1).2,rfl⟩ r
theorem aI.imp (k:d8 K N N' H H'){xs:ai}{vs:Zv}(h:aI K N H xs vs):aI K N' H' xs vs:=by
 induction vs generalizing xs with
 |nil=>cases h;exact .nil
 |cons v vs ih=>cases h with|cons h1 h2=>exact .cons (h1.imp k) (ih h2)
theorem bR.imp (k:d8 K N N' H H'){xs:aT}{vs:List (V×V)}(h:bR K N H xs vs):bR K N' H' xs vs:=by
 induction vs generalizing xs with
 |nil=>cases h;exact .nil
 |cons v vs ih=>cases h with|cons h1 h2 h3=>exact .cons (h1.imp k) (h2.imp k) (ih h3)
theorem aI.len {xs:ai}{vs:Zv}(h:aI K N H xs vs):xs.length=vs.length:=by
 induction vs generalizing xs with
 |nil=>cases h;rfl
 |cons v vs ih=>cases h with|cons h1 h2=>rw[length_cons,length_cons,ih h2]
theorem aI.app {xs ys:ai}{vs us:Zv}(h:aI K N H xs vs)(g:aI K N H ys us):aI K N H (xs++ys) (vs++us):=by
 induction vs generalizing xs with
 |nil=>cases h;exact g
 |cons v vs ih=>cases h with|cons h1 h2=>exact .cons h1 (ih h2)
theorem aI.at {xs:ai}{vs:Zv}(h:aI K N H xs vs){i:Nat}{x:PV}(e:xs[i]?=some x):∃ v,vs[i]?=some v/\RV K N H x v:=by
 induction vs generalizing xs i with
 |nil=>cases h;simp at e
 |cons v vs ih=>
  cases h with
  |cons h1 h2=>
   cases i with
   |zero=>cases e;exact⟨v,rfl,h1⟩
   |succ i=>exact ih h2 (by simpa using e)
theorem aI.at' {xs:ai}{vs:Zv}(h:aI K N H xs vs){i:Nat}{v:V}(e:vs[i]?=some v):∃ x,xs[i]?=some x/\RV K N H x v:=by
 induction vs generalizing xs i with
 |nil=>simp at e
 |cons u vs ih=>
  cases h with
  |cons h1 h2=>
   cases i with
   |zero=>cases e;exact⟨_,rfl,h1⟩
   |succ i=>exact ih h2 (by simpa using e)
theorem aI.take {xs:ai}{vs:Zv}(h:aI K N H xs vs)(n:Nat):aI K N H (xs.take n) (vs.take n):=by
 induction vs generalizing xs n with
 |nil=>cases h;simpa using aI.nil
 |cons u vs ih=>
  cases h with
  |cons h1 h2=>
   cases n with
   |zero=>exact .nil
   |succ n=>exact .cons h1 (ih h2 n)
theorem aI.drop {xs:ai}{vs:Zv}(h:aI K N H xs vs)(n:Nat):aI K N H (xs.drop n) (vs.drop n):=by
 induction vs generalizing xs n with
 |nil=>cases h;simpa using aI.nil
 |cons u vs ih=>
  cases h with
  |cons h1 h2=>
   cases n with
   |zero=>exact .cons h1 h2
   |succ n=>exact ih h2 n
theorem aI.rev {xs:ai}{vs:Zv}(h:aI K N H xs vs):aI K N H xs.reverse vs.reverse:=by
 induction vs generalizing xs with
 |nil=>cases h;exact .nil
 |cons u vs ih=>
  cases h with
  |cons h1 h2=>rw[reverse_cons,reverse_cons];exact(ih h2).app (.cons h1 .nil)
theorem aI.set {xs:ai}{vs:Zv}(h:aI K N H xs vs)(i:Nat){x:PV}{v:V}(r:RV K N H x v):aI K N H (xs.set i x) (vs.set i v):=by
 induction vs generalizing xs i with
 |nil=>cases h;exact .nil
 |cons u vs ih=>
  cases h with
  |cons h1 h2=>
   cases i with
   |zero=>exact .cons r h2
   |succ i=>exact .cons h1 (ih h2 i)
end
inductive OC where
 |lst (xs:ai)|ah (kvs:aT)|ins (C dx:Addr)(fs:List (Str×PV))|cP (kvs:List (List Key×PV))
noncomputable def OC.pv:OC->PV
 |.lst xs=>.lst xs
 |.ah kvs=>.ah kvs
 |.ins _ _ _=>.raw .non
 |.cP _=>.raw .non
noncomputable def OC.Ld:OC->Prop
 |.ins _ _ _=>False
 |.cP _=>False
 |_=>True
noncomputable def EF (K:Frag)(N:Addr->Prop)(H:Hp)(fs:List (Str×PV))(ws:List (Str×V)):Prop:=fs.map Prod.fst=ws.map Prod.fst/\aI K N H (fs.map Prod.snd) (ws.map Prod.snd)
noncomputable def EG (K:Frag)(N:Addr->Prop)(H:Hp)(kvs:List (List Key×PV))(av:List (List Key×V)):Prop:=kvs.map Prod.fst=av.map Prod.fst/\aI K N H (kvs.map Prod.snd) (av.map Prod.snd)
inductive Sl where
 |val (x:PV)|own (a:Addr)(c:OC)|peek (a:Addr)(c:OC)
noncomputable abbrev cM:=List (Option Sl)
structure ag where
 d:Addr
 a:Addr
 n:Nat
 b:Bs
structure AS where
 B:Addr->Prop
 ae:cM
 S:Option ag
noncomputable abbrev cv:=AS->Prop
noncomputable def Own (ae:cM)(a:Addr):Prop:=∃(i:Nat)(c:OC),ae[i]?=some (some (.own a c))
noncomputable def AN (A:AS)(a:Addr):Prop:=A.B a\/Own A.ae a
noncomputable def Mt (A:AS)(a:Addr):Prop:=Own A.ae a\/∃ st,A.S=some st/\st.d=a
noncomputable def gF (K:Frag)(N:Addr->Prop)(H:Hp)(a:Addr):OC->Prop
 |.lst xs=>∃ vs,H a=some (.lst vs)/\aI K N H xs vs
 |.ah kvs=>∃ av:bj,H a=some (.dK av)/\bR K N H kvs (av.map λkv=>(kV kv.1,kv.2))
 |.ins C dx fs=>∃ ws:List (Str×V),H a=some (.ins C dx ws)/\EF K N H fs ws
 |.cP kvs=>∃ av:List (List Key×V),H a=some (.dT av)/\EG K N H kvs av
noncomputable def PD (K:Frag)(A:AS)(H:Hp):Sl->V->Prop
 |.val x,v=>RV K (AN A) H x v
 |.own a c,v=>v=.ref a/\¬ A.B a/\gF K (AN A) H a c
 |.peek a c,v=>v=.ref a/\A.B a/\gF K (AN A) H a c
noncomputable def eJ (K:Frag)(H:Hp)(a:Addr):Prop:=∃ ns:List Int,ns.length<=63/\((∃ o:Obj,H a=some (.bD o (.lst (ns.map V.int))))\/∃(o:Obj)(its:Array Value)(n:Nat),K.lookup a=some o/\o.cls=.type "list"/\o.dict=none/\o.data=.seq its n/\its.size<=sizeLine/\Vals (ns.map V.int) its.toList)
theorem eJ.PF {K:Frag}{H:Hp}{a:Addr}(h:eJ K H a):rp K H a:=by
 obtain⟨ns,l,⟨o,h⟩|h⟩:=h
 ·exact⟨ns,.inl (.inr ⟨o,h⟩),l⟩
 ·exact⟨ns,.inr h,l⟩
theorem eJ.iS {K:Frag}{H H':Hp}{a:Addr}(h:eJ K H a)(f:∀ o u,H a=some (.bD o u)->H' a=some (.bD o u)):eJ K H' a:=by
 obtain⟨ns,l,⟨o,h⟩|h⟩:=h
 ·exact⟨ns,l,.inl ⟨o,f _ _ h⟩⟩
 ·exact⟨ns,l,.inr h⟩
theorem eJ.keep {K:Frag}{H H':Hp}{a:Addr}(h:eJ K H a)(f:∀ o,H a=some o->H' a=some o):eJ K H' a:=h.iS λ_ _=>f _
theorem cF.upd {H:Hp}{d a p:Addr}{n:Nat}{B:Bs}{o:HO}(h:cF H d a n B)(np:p≠d)(nt:∀ ps,H p≠some (.g6 ps)):cF (L2.upd H p o) d a n B:=by
 obtain⟨t,l,w,e,r⟩:=h.ex;exact⟨⟨t,l,w,by rw[a8 np.symm];exact e,r⟩,λT o z=>⟨by rw[a8 λy=>nt _ (y▸(h.tb T o z).1)];exact(h.tb T o z).1,(h.tb T o z).2⟩⟩
structure Rep (K:Frag)(H:Hp)(σ:St)(A:AS):Prop where
 len:σ.length=A.ae.length
 sl:∀(i:Nat)(s:Sl),A.ae[i]?=some (some s)->∃ v,σ[i]?=some (some v)/\PD K A H s v
 df:∀ a,A.B a->H a≠none
 nd:∀(i j:Nat)(a:Addr)(c c':OC),A.ae[i]?=some (some (.own a c))->A.ae[j]?=some (some (.own a c'))->i=j
 st:∀ st,A.S=some st->A.B st.d/\cF H st.d st.a st.n st.b/\eJ K H st.a
 pk:∀(i:Nat)(a:Addr)(c:OC)(st:ag),A.ae[i]?=some (some (.peek a c))->A.S=some st->a≠st.d
structure ay (A:AS)(H:Hp)(A1:AS)(H1:Hp):Prop where
 fr:∀ a o,H a=some o->¬ Mt A a->H1 a=some o
 ow:∀ a,Own A1.ae a->Own A.ae a\/H a=none
 b:A1.B=A.B
 dm:∀ a,H a≠none->H1 a≠none
 sd:A1.S.map ag.d=A.S.map ag.d
section
variable {K:Frag}{H H1 H2:Hp}{σ:St}{A A1 A2:AS}
theorem ay.refl (A:AS)(H:Hp):ay A H A H:=⟨λ_ _ h _=>h,λ_ h=>.inl h,rfl,λ_ h=>h,rfl⟩
theorem lB {S S1:Option ag}(e:S1.map ag.d=S.map ag.d){a:Addr}(h:∃ st,S1=some st/\st.d=a):∃ st,S=some st/\st.d=a:=by
 obtain⟨st,rfl,rfl⟩:=h
 cases S with
 |none=>cases e
 |some t=>exact⟨t,rfl,by simpa using e.symm⟩
theorem ay.mt (s:ay A H A1 H1){a:Addr}(h:Mt A1 a)(hd:H a≠none):Mt A a:=by
 rcases h with h|h
 ·rcases s.ow a h with z|z
  ·exact .inl z
  ·exact absurd z hd
 ·exact .inr (lB s.sd h)
theorem fF {α:Type}{o:Option α}{x:α}(h:o=some x):o≠none:=by rw[h];intro z;cases z
theorem ay.trans (s:ay A H A1 H1)(t:ay A1 H1 A2 H2):ay A H A2 H2 where
 fr:=λa o h n=>t.fr a o (s.fr a o h n) λm=>n (s.mt m (fF h))
 ow:=λa h=>by
  rcases t.ow a h with z|z
  ·exact s.ow a z
  ·refine .inr ?_
   cases e:H a with
   |none=>rfl
   |some o=>exact absurd z (s.dm a (fF e))
 b:=t.b.trans s.b
 dm:=λa h=>t.dm a (s.dm a h)
 sd:=t.sd.trans s.sd
theorem ay.same (A:AS)(s:aS H H1):ay A H A H1 where
 fr:=λa o h _=>s a o h
 ow:=λ_ h=>.inl h
 b:=rfl
 dm:=λa h=>by
  cases e:H a with
  |none=>exact absurd e h
  |some o=>exact fF (s a o e)
 sd:=rfl
theorem Rep.ju (R:Rep K H σ A){a:Addr}(h:Own A.ae a):(∃ vs,H a=some (.lst vs))\/(∃ kvs,H a=some (.dK kvs))\/(∃ C dx ws,H a=some (.ins C dx ws))\/∃ av,H a=some (.dT av):=by
 obtain⟨i,c,h⟩:=h;obtain⟨v,_,_,_,o⟩:=R.sl i _ h
 cases c with
 |lst xs=>obtain⟨vs,h,_⟩:=o;exact .inl ⟨vs,h⟩
 |ah xs=>obtain⟨vs,h,_⟩:=o;exact .inr (.inl ⟨vs,h⟩)
 |ins C dx xs=>obtain⟨vs,h,_⟩:=o;exact .inr (.inr (.inl ⟨_,_,vs,h⟩))
 |cP xs=>obtain⟨vs,h,_⟩:=o;exact .inr (.inr (.inr ⟨vs,h⟩))
theorem Rep.PH (R:Rep K H σ A){a:Addr}(h:Mt A a):(∃ vs,H a=some (.lst vs))\/(∃ kvs,H a=some (.dK kvs))\/(∃ C dx ws,H a=some (.ins C dx ws))\/∃ av,H a=some (.dT av):=by
 rcases h with h|⟨st,h,rfl⟩
 ·exact R.ju h
 ·exact .inr (.inl (R.st st h).2.1.dk)
theorem Rep.PJ (R:Rep K H σ A){a:Addr}(h:Mt A a):AN A a:=by
 rcases h with h|⟨st,h,rfl⟩
 ·exact .inr h
 ·exact .inl (R.st st h).1
theorem EH {a:Addr}{u:HO}{n:Prop}(f:∀ o,H a=some o->¬ n->H1 a=some o)(hn:¬ n)(h:Rd H a u):Rd H1 a u:=by
 rcases h with h|⟨o,h⟩
 ·exact .inl (f _ h hn)
 ·exact .inr ⟨o,f _ h hn⟩
theorem Rep.keep (R:Rep K H σ A)(s:ay A H A1 H1):d8 K (AN A) (AN A1) H H1:=by
 have nan:∀ a,¬ AN A a->H a≠none->¬ AN A1 a:=by
  rintro a n hd (h|h)
  ·exact n (.inl (by rw[<- s.b];exact h))
  ·rcases s.ow a h with z|z
   ·exact n (.inr z)
   ·exact hd z
 refine⟨λa vs h=>?_,λa o n h=>⟨nan a n (fF h),s.fr a o h λm=>n (R.PJ m)⟩⟩;rcases h with h|h
 ·refine .inl (EH (n:=Mt A a) (λo e m=>s.fr a o e m) (λm=>?_) h);rcases R.PH m with ⟨z,e⟩|⟨z,e⟩|⟨_,_,z,e⟩|⟨z,e⟩
  ·rcases h with h|⟨o,h⟩<;>(rw[e] at h;cases h)
  ·rcases h with h|⟨o,h⟩<;>(rw[e] at h;cases h)
  ·rcases h with h|⟨o,h⟩<;>(rw[e] at h;cases h)
  ·rcases h with h|⟨o,h⟩<;>(rw[e] at h;cases h)
 ·exact .inr h
theorem gF.imp {N N':Addr->Prop}(k:d8 K N N' H H1){a:Addr}{c:OC}(e:∀ o,H a=some o->H1 a=some o)(h:gF K N H a c):gF K N' H1 a c:=by
 cases c with
 |lst xs=>obtain⟨vs,h1,h2⟩:=h;exact⟨vs,e _ h1,h2.imp k⟩
 |ah xs=>obtain⟨vs,h1,h2⟩:=h;exact⟨vs,e _ h1,h2.imp k⟩
 |ins C dx xs=>obtain⟨vs,h1,h2⟩:=h;exact⟨vs,e _ h1,h2.1,h2.2.imp k⟩
 |cP xs=>obtain⟨vs,h1,h2⟩:=h;exact⟨vs,e _ h1,h2.1,h2.2.imp k⟩
theorem Rep.same (R:Rep K H σ A)(s:aS H H1):Rep K H1 σ A where
 len:=R.len
 sl:=λi t h=>by
  obtain⟨v,e,q⟩:=R.sl i t h;have k:=R.keep (ay.same A s);refine⟨v,e,?_⟩
  cases t with
  |val x=>exact q.imp k
  |own a c=>exact⟨q.1,q.2.1,q.2.2.imp k λo=>s a o⟩
  |peek a c=>exact⟨q.1,q.2.1,q.2.2.imp k λo=>s a o⟩
 df:=λa h=>(ay.same A s).dm a (R.df a h)
 nd:=R.nd
 st:=λst h=>by
  obtain⟨h1,h2,h3⟩:=R.st st h;exact⟨h1,h2.same s,h3.keep λo=>s _ o⟩
 pk:=R.pk
end
theorem PE.mono {X:Cx}{e:Expr}{t t':TE}(h:PE X e t)(f:∀ σ H Q,t' σ H Q->t σ H Q):PE X e t':=λpins s σ H Q I w=>h pins s σ H Q I (f _ _ _ w)
theorem PT.mono {X:Cx}{e:Expr}{t t':TT}(h:PT X e t)(f:∀ σ H Q,t' σ H Q->t σ H Q):PT X e t':=λpins s σ H Q I w=>h pins s σ H Q I (f _ _ _ w)
theorem PW.mono {X:Cx}{e:Expr}{t t':TT}(h:PW X e t)(f:∀ σ H Q,t' σ H Q->t σ H Q):PW X e t':=λwh pins s σ H Q I w=>h wh pins s σ H Q I (f _ _ _ w)
theorem PA.mono {X:Cx}{e:List Expr}{t t':TA}(h:PA X e t)(f:∀ σ H Q,t' σ H Q->t σ H Q):PA X e t':=λpos pins s σ H Q I w=>h pos pins s σ H Q I (f _ _ _ w)
theorem PS.mono {X:Cx}{e:Stmt}{t t':TS}(h:PS X e t)(f:∀ D σ H,t' D σ H->t D σ H):PS X e t':=λpins s σ H D I w=>h pins s σ H D I (f _ _ _ w)
theorem cx.mono {X:Cx}{e:List Stmt}{t t':TS}(h:cx X e t)(f:∀ D σ H,t' D σ H->t D σ H):cx X e t':=λpins s σ H D I w=>h pins s σ H D I (f _ _ _ w)
theorem PI.mono {X:Cx}{tg e:Expr}{t t':TI}(h:PI X tg e t)(f:∀ σ H Q,t' σ H Q->t σ H Q):PI X tg e t':=λpins s σ H Q I w=>h pins s σ H Q I (f _ _ _ w)
noncomputable abbrev UE:=AS->(PV->AS->Prop)->Prop
noncomputable abbrev UA:=AS->(ai->AS->Prop)->Prop
noncomputable abbrev UT:=AS->(Bool->AS->Prop)->Prop
noncomputable def bV (K:Frag)(A:AS)(H:Hp)(r:PV)(v:V):Prop:=
 RV K (AN A) H r v\/∃(i:Nat)(a:Addr)(c:OC),((A.ae[i]?=some (some (.own a c))\/A.ae[i]?=some (some (.peek a c)))/\c.Ld)/\r=c.pv/\v=.ref a
section
variable {K:Frag}{H H1 H2:Hp}{σ:St}{A A1 A2:AS}
theorem bV.step {r:PV}{v:V}(R:Rep K H σ A)(h:bV K A H r v)(s:ay A H A1 H1)(e:A1.ae=A.ae):bV K A1 H1 r v:=by
 rcases h with h|h
 ·exact .inl (h.imp (R.keep s))
 ·exact .inr (by rw[e];exact h)
theorem bV.oc {v:V}{c:OC}(R:Rep K H σ A)(h:bV K A H c.pv v):∃ a,v=.ref a/\(match c with
  |.lst xs=>∃ vs,H a=some (.lst vs)/\aI K (AN A) H xs vs
  |.ah kvs=>∃ av:bj,Rd H a (.dK av)/\bR K (AN A) H kvs (av.map λkv=>(kV kv.1,kv.2))
  |.ins _ _ _=>True
  | .cP _=>True):=by
 rcases h with h|⟨i,a,c',h,e,rfl⟩
 ·cases c with
  |lst xs=>cases h with|lst _ h1 h2=>exact⟨_,rfl,_,h1,h2⟩
  |ah kvs=>cases h with|ah _ h1 h2=>obtain⟨kvs,od,h1,rfl⟩:=h1;exact⟨_,rfl,_,.inr ⟨od,h1⟩,h2⟩
  |ins _ _ _=>cases h
  |cP _=>cases h
 ·have o:gF K (AN A) H a c':=by
   rcases h.1 with h|h
   ·obtain⟨_,_,_,_,o⟩:=R.sl i _ h;exact o
   ·obtain⟨_,_,_,_,o⟩:=R.sl i _ h;exact o
  refine⟨a,rfl,?_⟩
  cases c with
  |lst xs=>
   cases c' with
   |lst ys=>cases e;obtain⟨vs,h1,h2⟩:=o;exact⟨vs,h1,h2⟩
   |ah _=>cases e
   |ins _ _ _=>cases e
   |cP _=>cases e
  |ah xs=>
   cases c' with
   |lst ys=>cases e
   |ah _=>cases e;obtain⟨vs,h1,h2⟩:=o;exact⟨vs,.inl h1,h2⟩
   |ins _ _ _=>cases e
   |cP _=>cases e
  |ins _ _ _=>trivial
  |cP _=>trivial
theorem bV.lst {v:V}{xs:ai}(R:Rep K H σ A)(h:bV K A H (.lst xs) v):∃ a vs,v=.ref a/\H a=some (.lst vs)/\aI K (AN A) H xs vs:=by
 obtain⟨a,e,vs,h1,h2⟩:=bV.oc (c:=.lst xs) R h;exact⟨a,vs,e,h1,h2⟩
theorem bV.ah {v:V}{kvs:aT}(R:Rep K H σ A)(h:bV K A H (.ah kvs) v):∃ a av,v=.ref a/\Rd H a (.dK av)/\bR K (AN A) H kvs (av.map λkv=>(kV kv.1,kv.2)):=by
 obtain⟨a,e,vs,h1,h2⟩:=bV.oc (c:=.ah kvs) R h;exact⟨a,vs,e,h1,h2⟩
theorem bV.rv {v:V}{r:PV}(h:bV K A H r v)(hn:∀ c:OC,r≠c.pv):RV K (AN A) H r v:=by
 rcases h with h|⟨_,_,c,_,e,_⟩
 ·exact h
 ·exact absurd e (hn c)
theorem bV.tup {v:V}{xs:ai}(h:bV K A H (.tup xs) v):∃ a vs,v=.ref a/\bt K H a vs/\aI K (AN A) H xs vs:=by
 have:=h.rv (by intro c;cases c<;>(intro z;cases z))
 cases this with|tup h1 h2=>exact⟨_,_,rfl,h1,h2⟩
theorem bV.int {v:V}{i:Int}(h:bV K A H (.int i) v):v=.int i:=by
 have:=h.rv (by intro c;cases c<;>(intro z;cases z));cases this;rfl
theorem bV.bl {v:V}{i:Bool}(h:bV K A H (.bl i) v):v=.bl i:=by
 have:=h.rv (by intro c;cases c<;>(intro z;cases z));cases this;rfl
theorem bV.str {v:V}{i:Str}(h:bV K A H (.str i) v):v=.str i:=by
 have:=h.rv (by intro c;cases c<;>(intro z;cases z));cases this;rfl
theorem bV.non {v:V}(h:bV K A H .non v):v=.non:=by
 have:=h.rv (by intro c;cases c<;>(intro z;cases z));cases this;rfl
end
noncomputable def aB (K:Frag)(u:UE):TE:=λσ H Q=>∃ A P,Rep K H σ A/\u A P/\∀ r A1 v H1,P r A1->Rep K H1 σ A1->ay A H A1 H1->RV K (AN A1) H1 r v->Q v H1
noncomputable def az (K:Frag)(u:UE):TE:=λσ H Q=>∃ A P,Rep K H σ A/\u A P/\∀ r A1 v H1,P r A1->Rep K H1 σ A1->ay A H A1 H1->bV K A1 H1 r v->Q v H1
noncomputable def eK (K:Frag)(N:Addr->Prop)(H0 H1:Hp)(r:PV)(v:V):Prop:=∃ p c,r=OC.pv c/\v=.ref p/\H0 p=none/\aS H0 H1/\(match c with
  |.lst xs=>∃ vs,H1 p=some (.lst vs)/\aI K N H0 xs vs
  |.ah kvs=>∃ av:bj,H1 p=some (.dK av)/\bR K N H0 kvs (av.map λkv=>(kV kv.1,kv.2))
  |.ins _ _ _=>False
  | .cP _=>False)
noncomputable def c4 (K:Frag)(u:UE):TE:=λσ H Q=>∃ A P,Rep K H σ A/\u A P/\∀ r A1 v H0 H1,P r A1->Rep K H0 σ A1->ay A H A1 H0->eK K (AN A1) H0 H1 r v->Q v H1
noncomputable def liftT (K:Frag)(u:UT):TT:=λσ H Q=>∃ A P,Rep K H σ A/\u A P/\∀ b A1 H1,P b A1->Rep K H1 σ A1->ay A H A1 H1->Q b H1
noncomputable def ka (K:Frag)(u:UA):TA:=λσ H Q=>∃ A P,Rep K H σ A/\u A P/\∀ rs A1 vs H1,P rs A1->Rep K H1 σ A1->ay A H A1 H1->aI K (AN A1) H1 rs vs->Q vs H1
section
variable {X:Cx}{K:Frag}{e:Expr}{u:UE}{pos:Pos}
theorem Rep.new {H:Hp}{σ:St}{A:AS}{p:Addr}(R:Rep K H σ A)(hp:H p=none):¬ AN A p:=by
 rintro(h|h)
 ·exact R.df p h hp
 ·rcases R.ju h with ⟨z,e⟩|⟨z,e⟩|⟨_,_,z,e⟩|⟨z,e⟩<;>(rw[e] at hp;cases hp)
theorem eK.same {N:Addr->Prop}{H0 H1:Hp}{r:PV}{v:V}(f:eK K N H0 H1 r v):aS H0 H1:=by
 obtain⟨_,_,_,_,_,s,_⟩:=f;exact s
theorem iT {N:Addr->Prop}{H0 H1:Hp}(s:aS H0 H1):d8 K N N H0 H1:=⟨λa vs h=>by
  rcases h with (h|⟨o,h⟩)|h
  ·exact .inl (.inl (s _ _ h))
  ·exact .inl (.inr ⟨o,s _ _ h⟩)
  ·exact .inr h,λa o n h=>⟨n,s a o h⟩⟩
theorem eK.EI {N:Addr->Prop}{H0 H1:Hp}{xs:ai}{v:V}(dm:∀ p,H0 p=none->¬ N p)(f:eK K N H0 H1 (.lst xs) v):RV K N H1 (.lst xs) v:=by
 obtain⟨p,c,e,rfl,hp,s,h⟩:=f
 cases c with
 |lst ys=>cases e;obtain⟨vs,h1,h2⟩:=h;exact .lst (dm p hp) h1 (h2.imp (iT s))
 |ah ys=>cases e
 |ins _ _ _=>exact h.elim
 |cP _=>exact h.elim
theorem eK.fix {pins:aO}{σ:St}{s:Shared}{N:Addr->Prop}{H0 H1:Hp}{r:PV}{v:V}(dm:∀ p,H0 p=none->¬ N p)(f:eK K N H0 H1 r v)(I:Inv X pins σ H1 s):∃ H2,Inv X pins σ H2 s/\aS H0 H2/\RV K N H2 r v:=by
 obtain⟨p,c,rfl,rfl,hp,sm,h⟩:=f
 cases c with
 |lst xs=>obtain⟨vs,h1,h2⟩:=h;exact⟨H1,I,sm,.lst (dm p hp) h1 (h2.imp (iT sm))⟩
 |ah xs=>
  obtain⟨vs,h1,h2⟩:=h;obtain⟨od,I2⟩:=I.EC h1
  have s2:aS H0 (upd H1 p (.bD od (.dK vs))):=λb o e=>by
   rw[a8 (dG e hp)];exact sm b o e
  exact⟨_,I2,s2,.ah (dm p hp) ⟨vs,od,bE,rfl⟩ (h2.imp (iT s2))⟩
 |ins _ _ _=>exact h.elim
 |cP _=>exact h.elim
theorem vf (h:PE X e (c4 K u)):PE X e (aB K u):=h.post λσ H Q ⟨A,P,R,h,c⟩=>⟨A,P,R,h,λr A1 v H0 H1 p R0 S0 f pins s I=>by
 obtain⟨H2,I2,s2,rv⟩:=f.fix (λ_=>R0.new) I
 exact⟨H2,I2,c r A1 v H2 p (R0.same s2) (S0.trans (ay.same A1 s2)) rv⟩⟩
theorem qv (h:PE X e (aB K u)):PE X e (az K u):=h.mono λσ H Q ⟨A,P,R,h,c⟩=>⟨A,P,R,h,λr A1 v H1 p R1 S1 rv=>c r A1 v H1 p R1 S1 (.inl rv)⟩
theorem qf (h:PE X e (c4 K u)):PE X e (az K u):=qv (vf h)
noncomputable def bD (A:AS)(i:Nat)(c:OC):AS:={ A with ae:=A.ae.set i (some (.val c.pv)) }
noncomputable def xG (i:Nat):UE:=λA Q=>match A.ae[i]? with
 |some (some (.val x))=>Q x A
 |some (some (.own _ (.lst xs)))=>Q (.lst xs) (bD A i (.lst xs))
 |some (some (.own _ (.ah xs)))=>Q (.ah xs) (bD A i (.ah xs))
 |_=>False
noncomputable def xH (i:Nat):UE:=λA Q=>match A.ae[i]? with
 |some (some (.val x))=>Q x A
 |some (some (.own _ (.lst xs)))=>Q (.lst xs) A
 |some (some (.own _ (.ah xs)))=>Q (.ah xs) A
 |some (some (.peek _ (.lst xs)))=>Q (.lst xs) A
 |some (some (.peek _ (.ah xs)))=>Q (.ah xs) A
 |_=>False
theorem cG {α:Type}{l:List α}{i j:Nat}{a b:α}(h:(l.set i a)[j]?=some b):(i=j/\b=a)\/(i≠j/\l[j]?=some b):=by
 rw[getElem?_set] at h;by_cases e:i=j
 ·rw[if_pos e] at h
  split at h
  ·exact .inl ⟨e,(Option.some.inj h).symm⟩
  ·cases h
 ·rw[if_neg e] at h;exact .inr ⟨e,h⟩
theorem Rep.freeze {H:Hp}{σ:St}{A:AS}{i:Nat}{a:Addr}{c:OC}(R:Rep K H σ A)(hi:A.ae[i]?=some (some (.own a c))){H2:Hp}(hb:∀ b,b≠a->H2 b=H b)(hc:match c with|.lst _=>H2=H|.ah _=>∃ av od,H a=some (.dK av)/\H2 a=some (.bD od (.dK av))|.ins _ _ _=>False|.cP _=>False):Rep K H2 σ (bD A i c)/\ay A H (bD A i c) H2/\RV K (AN (bD A i c)) H2 c.pv (.ref a)/\σ[i]?=some (some (.ref a)):=by
 have oa:Own A.ae a:=⟨i,c,hi⟩
 have ow:∀ b,Own (bD A i c).ae b->Own A.ae b/\b≠a:=by
  rintro b ⟨j,c',h⟩;rcases cG h with ⟨_,z⟩|⟨n,z⟩
  ·cases z
  ·exact⟨⟨j,c',z⟩,λe=>n (by subst e;exact R.nd i j _ _ _ hi z)⟩
 have an:∀ b,AN (bD A i c) b->AN A b:=λb h=>h.elim .inl λz=>.inr (ow b z).1
 have kp:d8 K (AN A) (AN (bD A i c)) H H2:=by
  refine⟨λb vs h=>?_,λb o n h=>⟨λz=>n (an _ z),by rw[hb b λe=>n (by rw[e];exact .inr oa)];exact h⟩⟩;rcases h with h|h
  ·by_cases e:b=a
   ·subst e;rcases R.ju oa with ⟨z,q⟩|⟨z,q⟩|⟨_,_,z,q⟩|⟨z,q⟩<;>(rcases h with h|⟨o,h⟩<;>(rw[q] at h;cases h))
   ·refine .inl ?_;unfold Rd at h ⊢;rw[hb b e];exact h
  ·exact .inr h
 obtain⟨v,e,rfl,nb,oc⟩:=R.sl i _ hi
 have na:¬ AN (bD A i c) a:=by
  rintro(z|z)
  ·exact nb z
  ·exact(ow a z).2 rfl
 have rv:RV K (AN (bD A i c)) H2 c.pv (.ref a):=by
  cases c with
  |lst xs=>
   obtain⟨vs,h1,h2⟩:=oc;have e2:H2=H:=hc;exact .lst na (by rw[e2];exact h1) (h2.imp kp)
  |ah xs=>
   obtain⟨vs,h1,h2⟩:=oc;obtain⟨av,od,e1,e2⟩:=hc;rw[h1] at e1;cases e1;exact .ah na ⟨vs,od,e2,rfl⟩ (h2.imp kp)
  |ins _ _ _=>exact hc.elim
  |cP _=>exact hc.elim
 have ha:H2 a≠none:=by
  cases c with
  |lst xs=>
   obtain⟨vs,h1,h2⟩:=oc;have e2:H2=H:=hc;rw[e2,h1];intro z;cases z
  |ah xs=>
   obtain⟨av,od,e1,e2⟩:=hc;rw[e2];intro z;cases z
  |ins _ _ _=>exact hc.elim
  |cP _=>exact hc.elim
 have bn:∀ b,A.B b->b≠a:=λb h z=>nb (by rw[<- z];exact h);refine⟨⟨?_,?_,λb h=>by rw[hb b (bn b h)];exact R.df b h,?_,?_,?_⟩,⟨λb o h m=>by rw[hb b λz=>m (by rw[z];exact .inl oa)];exact h,λb z=>.inl (ow b z).1,rfl,λb h=>?_,rfl⟩,rv,e⟩
 ·rw[R.len];exact(length_set ..).symm
 ·intro j s h;rcases cG h with ⟨rfl,z⟩|⟨n,z⟩
  ·cases z;exact⟨_,e,rv⟩
  ·obtain⟨v,e1,q⟩:=R.sl j s z;refine⟨v,e1,?_⟩
   cases s with
   |val x=>exact q.imp kp
   |own b c'=>exact⟨q.1,q.2.1,q.2.2.imp kp λo h=>by rw[hb b λy=>n (by subst y;exact R.nd i j _ _ _ hi z)];exact h⟩
   |peek b c'=>exact⟨q.1,q.2.1,q.2.2.imp kp λo h=>by rw[hb b (bn b q.2.1)];exact h⟩
 ·intro i1 j1 b c1 c2 h1 h2;rcases cG h1 with ⟨_,z⟩|⟨_,z1⟩
  ·cases z
  ·rcases cG h2 with ⟨_,z⟩|⟨_,z2⟩
   ·cases z
   ·exact R.nd _ _ _ _ _ z1 z2
 ·intro st h;obtain⟨h1,h2,h3⟩:=R.st st h;refine⟨h1,?_,h3.iS λo u q=>?_⟩
  ·obtain⟨t,l,w,e,r⟩:=h2.ex
   exact⟨⟨t,l,w,by rw[hb _ (bn _ h1)];exact e,r⟩,λT o z=>⟨by
    rw[hb _ λy=>by
     have q:=(h2.tb T o z).1;rw[y] at q
     rcases R.ju oa with ⟨y,q2⟩|⟨y,q2⟩|⟨_,_,y,q2⟩|⟨y,q2⟩<;>(rw[q2] at q;cases q)]
    exact(h2.tb T o z).1,(h2.tb T o z).2⟩⟩
  ·rw[hb _ λz=>by
    rw[z] at q
    rcases R.ju oa with ⟨y,q2⟩|⟨y,q2⟩|⟨_,_,y,q2⟩|⟨y,q2⟩<;>(rw[q2] at q;cases q)]
   exact q
 ·intro i1 b c1 st h1 h2;rcases cG h1 with ⟨_,z⟩|⟨_,z1⟩
  ·cases z
  ·exact R.pk _ _ _ _ z1 h2
 ·by_cases z:b=a
  ·rw[z];exact ha
  ·rw[hb b z];exact h
theorem vn (i:Nat){x:Str}(hN:X.N[i]?=some x:=by rfl)(hv:dj X.env.scope x:=by walk_at "v")(hd:(x==("__debug__":Str))=false:=by decide)
  (bK:(x==("__classdict__":Str))=false:=by decide):PE X (.Name x pos) (aB K (xG i)):=(dZ hN hv hd bK).post λσ H Q ⟨A,P,R,h,c⟩=>by
 unfold xG at h
 split at h
 ·rename_i x hx;obtain⟨v,e,q⟩:=R.sl i _ hx;exact⟨v,e,λpins s I=>⟨H,I,c _ A v H h R (ay.refl A H) q⟩⟩
 ·rename_i a xs hx;obtain⟨R1,S1,rv,e⟩:=R.freeze hx (H2:=H) (λ_ _=>rfl) rfl;exact⟨_,e,λpins s I=>⟨H,I,c _ _ _ H h R1 S1 rv⟩⟩
 ·rename_i a xs hx;obtain⟨v,e,rfl,nb,ws,h1,h2⟩:=R.sl i _ hx;refine⟨_,e,λpins s I=>?_⟩;obtain⟨od,I2⟩:=I.EC h1;obtain⟨R1,S1,rv,_⟩:=R.freeze hx (H2:=upd H a (.bD od (.dK ws))) (λb hb=>a8 hb) ⟨ws,od,h1,bE⟩;exact⟨_,I2,c _ _ _ _ h R1 S1 rv⟩
 ·exact h.elim
theorem qn (i:Nat){x:Str}(hN:X.N[i]?=some x:=by rfl)(hv:dj X.env.scope x:=by walk_at "v")(hd:(x==("__debug__":Str))=false:=by decide)
  (bK:(x==("__classdict__":Str))=false:=by decide):PE X (.Name x pos) (az K (xH i)):=(dZ hN hv hd bK).mono λσ H Q ⟨A,P,R,h,c⟩=>by
 unfold xH at h
 split at h
 ·rename_i x hx;obtain⟨v,e,q⟩:=R.sl i _ hx;exact⟨v,e,c _ A v H h R (ay.refl A H) (.inl q)⟩
 ·rename_i a oc hx;obtain⟨v,e,rfl,_,q⟩:=R.sl i _ hx;exact⟨_,e,c _ A _ H h R (ay.refl A H) (.inr ⟨i,a,.lst oc,⟨.inl hx,trivial⟩,rfl,rfl⟩)⟩
 ·rename_i a oc hx;obtain⟨v,e,rfl,_,q⟩:=R.sl i _ hx;exact⟨_,e,c _ A _ H h R (ay.refl A H) (.inr ⟨i,a,.ah oc,⟨.inl hx,trivial⟩,rfl,rfl⟩)⟩
 ·rename_i a oc hx;obtain⟨v,e,rfl,_,q⟩:=R.sl i _ hx;exact⟨_,e,c _ A _ H h R (ay.refl A H) (.inr ⟨i,a,.lst oc,⟨.inr hx,trivial⟩,rfl,rfl⟩)⟩
 ·rename_i a oc hx;obtain⟨v,e,rfl,_,q⟩:=R.sl i _ hx;exact⟨_,e,c _ A _ H h R (ay.refl A H) (.inr ⟨i,a,.ah oc,⟨.inr hx,trivial⟩,rfl,rfl⟩)⟩
 ·exact h.elim
noncomputable def uC (x:PV):UE:=λA Q=>Q x A
theorem r6 {v:V}{x:PV}(h:PE X e (tC v))(r:∀ N H,RV K N H x v):PE X e (aB K (uC x)):=h.mono λσ H Q ⟨A,P,R,h,c⟩=>c x A v H h R (ay.refl A H) (r _ _)
theorem vi {i:Int} {j}:PE X (.Constant (.int i) j pos) (aB K (uC (.int i))):=r6 cR λ_ _=>.int i
theorem vb {i:Bool} {j}:PE X (.Constant (.bool i) j pos) (aB K (uC (.bl i))):=r6 Km λ_ _=>.bl i
theorem vs {i:Str} {j}:PE X (.Constant (.str i) j pos) (aB K (uC (.str i))):=r6 cT λ_ _=>.str i
theorem v0 {j}:PE X (.Constant .none j pos) (aB K (uC .non)):=r6 Ko λ_ _=>.non
end
noncomputable def EJ:UA:=λA Q=>Q [] A
noncomputable def EK (ue:UE)(ua:UA):UA:=λA Q=>ue A λx A1=>ua A1 λxs A2=>Q (x::xs) A2
noncomputable def EL (u:UA):UE:=λA Q=>u A λxs A1=>xs.length<=1000/\Q (.tup xs) A1
noncomputable def EM (u:UA):UE:=λA Q=>u A λxs A1=>xs.length<=1000/\Q (.lst xs) A1
section
variable {X:Cx}{K:Frag}{e:Expr}{es:List Expr}{ue:UE}{ua:UA}{pos:Pos}
theorem an:PA X [] (ka K EJ):=cO.mono λσ H Q ⟨A,P,R,h,c⟩=>c [] A [] H h R (ay.refl A H) .nil
theorem ac (h1:PE X e (aB K ue))(h2:PA X es (ka K ua))(hs:starEach (e::es) X.env=(false,eval e X.env)::starEach es X.env:=by rfl):PA X (e::es) (ka K (EK ue ua)):=
 (b8 h1 h2 hs).mono λσ H Q ⟨A,P,R,h,c⟩=>⟨A,_,R,h,λx A1 v H1 p1 R1 S1 r1=>⟨A1,_,R1,p1,λxs A2 vs H2 p2 R2 S2 r2=>
  c (x::xs) A2 (v::vs) H2 p2 R2 (S1.trans S2) (.cons (r1.imp (R1.keep S2)) r2)⟩⟩
theorem xI {n:Nat}(h:n<=1000):n<=sizeLine:=aP h (by decide)
theorem et {x1}(h:PA X es (ka K ua)):PE X (.Tuple es x1 pos) (aB K (EL ua)):=(LU h).mono λσ H Q ⟨A,P,R,h,c⟩=>⟨A,_,R,h,λxs A1 vs H1 p1 R1 S1 r1=>by
 obtain⟨aF,p1⟩:=p1;refine⟨xI (by rw[<- r1.len];exact aF),λp hp=>?_⟩;have s:=dM hp (.tup vs)
 exact c (.tup xs) A1 (.ref p) _ p1 (R1.same s) (S1.trans (ay.same A1 s)) (.tup (bt.of bE) (r1.imp (R1.keep (ay.same A1 s))))⟩
theorem el (h:PA X es (ka K ua)):PE X (.List es pos) (c4 K (EM ua)):=(LV h).mono λσ H Q ⟨A,P,R,h,c⟩=>⟨A,_,R,h,λxs A1 vs H1 p1 R1 S1 r1=>by
 obtain⟨aF,p1⟩:=p1;refine⟨xI (by rw[<- r1.len];exact aF),λp hp=>?_⟩;have s:=dM hp (.lst vs)
 exact c (.lst xs) A1 (.ref p) H1 _ p1 R1 S1 ⟨p,.lst xs,rfl,rfl,hp,s,vs,bE,r1⟩⟩
end
noncomputable abbrev G2:=PV->PV->PV->Prop
noncomputable def dz (K:Frag)(r:R2)(G:G2):Prop:=∀(H:Hp)(A:AS)(σ:St)(x y:PV)(v w:V)(z:PV)(Q:VK),Rep K H σ A->bV K A H x v->bV K A H y w->G x y z ->
 (∀ v' H',aS H H'->RV K (AN A) H' z v'->Q v' H')->r v w H Q
noncomputable def xJ (K:Frag)(r:R2)(G:G2):Prop:=∀(H:Hp)(A:AS)(σ:St)(x y:PV)(v w:V)(z:PV)(Q:VK),Rep K H σ A->bV K A H x v->bV K A H y w->G x y z ->
 (∀ v' H',eK K (AN A) H H' z v'->Q v' H')->r v w H Q
noncomputable def u2 (G:G2)(ua ub:UE):UE:=λA Q=>ua A λx A1=>ub A1 λy A2=>A2.ae=A1.ae/\∃ z,G x y z/\Q z A2
noncomputable def ip (G:G2)(ua ub:UE):UT:=λA Q=>ua A λx A1=>ub A1 λy A2=>A2.ae=A1.ae/\∃ z,G x y (.bl z)/\Q z A2
section
variable {X:Cx}{K:Frag}{a b:Expr}{ua ub uc:UE}{pos:Pos}{r r':R2}{G G':G2}
theorem r9 (br:dz K r G):∀ σ H Q,aB K (u2 G ua ub) σ H Q->jT r (az K ua) (az K ub) σ H Q:=λσ H Q ⟨A,P,R,h,c⟩=>
 ⟨A,_,R,h,λx A1 v H1 p1 R1 S1 q1=>⟨A1,_,R1,p1,λy A2 w H2 p2 R2 S2 q2=>by
  obtain⟨e,z,g,p⟩:=p2
  exact br H2 A2 σ x y v w z Q R2 (q1.step R1 S2 e) q2 g λv' H' s rv=>c z A2 v' H' p (R2.same s) (S1.trans (S2.trans (ay.same A2 s))) rv⟩⟩
theorem PK (br:xJ K r G):∀ σ H Q,c4 K (u2 G ua ub) σ H Q->jT r (az K ua) (az K ub) σ H Q:=λσ H Q ⟨A,P,R,h,c⟩=>
 ⟨A,_,R,h,λx A1 v H1 p1 R1 S1 q1=>⟨A1,_,R1,p1,λy A2 w H2 p2 R2 S2 q2=>by
  obtain⟨e,z,g,p⟩:=p2
  exact br H2 A2 σ x y v w z Q R2 (q1.step R1 S2 e) q2 g λv' H' f=>c z A2 v' H2 H' p R2 (S1.trans S2) f⟩⟩
theorem PL (br:dz K r G):∀ σ H Q,liftT K (ip G ua ub) σ H Q->qL (jT r (az K ua) (az K ub)) σ H Q:=λσ H Q ⟨A,P,R,h,c⟩=>
 ⟨A,_,R,h,λx A1 v H1 p1 R1 S1 q1=>⟨A1,_,R1,p1,λy A2 w H2 p2 R2 S2 q2=>by
  obtain⟨e,z,g,p⟩:=p2
  exact br H2 A2 σ x y v w (.bl z) _ R2 (q1.step R1 S2 e) q2 g λv' H' s rv=>by
   cases rv
   exact⟨z,rfl,c z A2 H' p (R2.same s) (S1.trans (S2.trans (ay.same A2 s)))⟩⟩⟩
theorem mQ {op:Operator}(ho:bz X (binaryOp op) r)(br:dz K r G)(ha:PE X a (az K ua))(hb:PE X b (az K ub)):PE X (.BinOp a op b pos) (aB K (u2 G ua ub)):=(cY ho ha hb).mono (r9 br)
theorem EN {op:Operator}(ho:bz X (binaryOp op) r)(br:xJ K r G)(ha:PE X a (az K ua))(hb:PE X b (az K ub)):PE X (.BinOp a op b pos) (c4 K (u2 G ua ub)):=(cY ho ha hb).mono (PK br)
theorem r_ {op:CmpOp}(ho:bz X (compareOp op) r)(br:dz K r G)(ha:PE X a (az K ua))(hb:PE X b (az K ub))(hm:behindInMarks op b=false):PE X (.Compare a [op] [b] pos) (aB K (u2 G ua ub)):=(LA ho ha hb hm).mono (r9 br)
theorem kb {op:CmpOp}(ho:bz X (compareOp op) r)(br:dz K r G)(ha:PE X a (az K ua))(hb:PE X b (az K ub))(hm:behindInMarks op b=false):PT X (.Compare a [op] [b] pos) (liftT K (ip G ua ub)):=(kZ ho ha hb hm).mono (PL br)
theorem PM (ho:hZ X r)(br:dz K r G)(ha:PE X a (az K ua))(hb:PE X b (az K ub))(hs:vG b):PE X (.Subscript a b pos) (aB K (u2 G ua ub)):=(ra ho ha hb hs).mono (r9 br)
end
noncomputable def EO (t u:UT):UT:=λA Q=>t A λc A1=>if c=true then u A1 Q else Q false A1
noncomputable def ER (t u:UT):UT:=λA Q=>t A λc A1=>if c=true then Q true A1 else u A1 Q
noncomputable def ES (t:UT):UT:=λA Q=>t A λc A1=>Q (!c) A1
noncomputable def uB (u:UE):UT:=λA Q=>u A λx A1=>∃ c,x=.bl c/\Q c A1
noncomputable def ET (ua ub:UE):UE:=λA Q=>ua A λx A1=>∃ c,x=.bl c/\if c=true then ub A1 Q else Q (.bl false) A1
noncomputable def EU (ua:UE):UE:=λA Q=>ua A λx A1=>∃ c,x=.bl c/\Q (.bl (!c)) A1
noncomputable def EV (t:UT)(ua ub:UE):UE:=λA Q=>t A λc A1=>if c=true then ua A1 Q else ub A1 Q
noncomputable def se:PV->Option Bool
 |.non=>some false
 |.bl b=>some b
 |.int i=>some (i != 0)
 |.str x=>if x.length<=1000 then some ((x.length:Int) != 0) else none
 |.tup xs=>some !xs.isEmpty
 |.lst xs=>some !xs.isEmpty
 |_=>none
noncomputable def EW (u:UE):UT:=λA Q=>u A λx A1=>∃ c,se x=some c/\Q c A1
section
variable {X:Cx}{K:Frag}{a b c:Expr}{rest:List Expr}{ua ub:UE}{t u:UT}{pos:Pos}
theorem jv (h:PT X a (liftT K t)):PW X (.BoolOp .And [a] pos) (liftT K t):=Ba h
theorem iU (h:PT X a (liftT K t)):PW X (.BoolOp .Or [a] pos) (liftT K t):=Kw h
theorem iq (ha:PT X a (liftT K t))(hb:PW X (.BoolOp .And (b::rest) pos) (liftT K u)):PW X (.BoolOp .And (a::b::rest) pos) (liftT K (EO t u)):=(Bb ha hb).mono λσ H Q ⟨A,P,R,h,c⟩=>
 ⟨A,_,R,h,λk A1 H1 p1 R1 S1=>by
  cases k with
  |true=>exact lq ⟨A1,P,R1,p1,λb A2 H2 p2 R2 S2=>c b A2 H2 p2 R2 (S1.trans S2)⟩
  | false=>exact lj (c false A1 H1 p1 R1 S1)⟩
theorem gG (ha:PT X a (liftT K t))(hb:PW X (.BoolOp .Or (b::rest) pos) (liftT K u)):PW X (.BoolOp .Or (a::b::rest) pos) (liftT K (ER t u)):=(Kx ha hb).mono λσ H Q ⟨A,P,R,h,c⟩=>
 ⟨A,_,R,h,λk A1 H1 p1 R1 S1=>by
  cases k with
  |true=>exact lq (c true A1 H1 p1 R1 S1)
  | false=>exact lj ⟨A1,P,R1,p1,λb A2 H2 p2 R2 S2=>c b A2 H2 p2 R2 (S1.trans S2)⟩⟩
theorem kc (ha:PT X a (liftT K t)):PT X (.UnaryOp .Not a pos) (liftT K (ES t)):=(Ky ha).mono λσ H Q ⟨A,P,R,h,c⟩=>⟨A,_,R,h,λk A1 H1 p1 R1 S1=>c (!k) A1 H1 p1 R1 S1⟩
theorem kf (hK:X.K=K)(h:PE X a (az K ua))(he:∀ whole,isTrue a X.env whole=(do let v <- whole;standAt a.pos;holding [v] (truthy v)):=by intro _;rfl):PT X a (liftT K (EW ua)):=(LG h he).mono λσ H Q ⟨A,P,R,h,c⟩=>
 ⟨A,_,R,h,λx A1 v H1 p1 R1 S1 r1=>by
  subst hK;obtain⟨k,e,p1⟩:=p1;refine⟨k,?_,c k A1 H1 p1 R1 S1⟩
  cases x with
  |non=>cases r1.non;exact(Option.some.inj e).symm
  |bl b=>cases r1.bl;exact(Option.some.inj e).symm
  |int b=>cases r1.int;exact(Option.some.inj e).symm
  |str b=>
   cases r1.str;have e':(if b.length<=1000 then some ((b.length:Int) != 0) else none)=some k:=e;by_cases hb:b.length<=1000
   ·rw[if_pos hb] at e';exact⟨xI hb,(Option.some.inj e').symm⟩
   ·rw[if_neg hb] at e';cases e'
  |tup xs=>
   obtain⟨p,vs,rfl,h1,h2⟩:=r1.tup;refine .inr (.inl ⟨vs,h1,?_⟩);rw[<- Option.some.inj e];cases h2<;>rfl
  |lst xs=>
   obtain⟨p,vs,rfl,h1,h2⟩:=r1.lst R1;refine .inl ⟨vs,.inl (.inl h1),?_⟩;rw[<- Option.some.inj e];cases h2<;>rfl
  |ah _=>cases e
  | raw _=>cases e⟩
theorem xK {op}(h:PE X a (aB K ua)):PE X (.BoolOp op [a] pos) (aB K ua):=KC h
theorem xM (ha:PE X a (aB K ua))(hb:PE X (.BoolOp .And (b::rest) pos) (aB K ub)):PE X (.BoolOp .And (a::b::rest) pos) (aB K (ET ua ub)):=(KD ha hb).mono λσ H Q ⟨A,P,R,h,c⟩=>
 ⟨A,_,R,h,λx A1 v H1 p1 R1 S1 r1=>by
  obtain⟨k,rfl,p1⟩:=p1;cases r1;refine⟨k,rfl,?_⟩
  cases k with
  |true=>exact lq ⟨A1,P,R1,p1,λb A2 v H2 p2 R2 S2 r2=>c b A2 v H2 p2 R2 (S1.trans S2) r2⟩
  | false=>exact lj (c _ A1 _ H1 p1 R1 S1 (.bl false))⟩
theorem PN (ha:PE X a (aB K ua)):PE X (.UnaryOp .Not a pos) (aB K (EU ua)):=(KG ha).mono λσ H Q ⟨A,P,R,h,c⟩=>
 ⟨A,_,R,h,λx A1 v H1 p1 R1 S1 r1=>by
  obtain⟨k,rfl,p1⟩:=p1;cases r1
  exact⟨k,rfl,c _ A1 _ H1 p1 R1 S1 (.bl (!k))⟩⟩
theorem EX (hc:PT X c (liftT K t))(ha:PE X a (aB K ua))(hb:PE X b (aB K ub)):PE X (.IfExp c a b pos) (aB K (EV t ua ub)):=(KI hc ha hb).mono λσ H Q ⟨A,P,R,h,c⟩=>
 ⟨A,_,R,h,λk A1 H1 p1 R1 S1=>by
  cases k with
  |true=>exact lq ⟨A1,P,R1,p1,λb A2 v H2 p2 R2 S2 r2=>c b A2 v H2 p2 R2 (S1.trans S2) r2⟩
  | false=>exact lj ⟨A1,P,R1,p1,λb A2 v H2 p2 R2 S2 r2=>c b A2 v H2 p2 R2 (S1.trans S2) r2⟩⟩
end
noncomputable def put (A:AS)(i:Nat)(s:Sl):AS:={ A with ae:=A.ae.set i (some s) }
noncomputable def forget (A:AS)(i:Nat):AS:={ A with ae:=A.ae.set i none }
structure gH where
 nx:cv
 rt:PV->AS->Prop
 rf:PV->AS->Prop
 bk:cv:=λ_=>False
 ct:cv:=λ_=>False
noncomputable abbrev US:=gH->AS->Prop
structure sf (K:Frag)(A:AS)(H:Hp)(E:gH)(D:Ends):Prop where
 nx:∀ A1 bw H1,E.nx A1->Rep K H1 bw A1->ay A H A1 H1->D.nx bw H1
 rt:∀ r A1 bw v H1,E.rt r A1->Rep K H1 bw A1->ay A H A1 H1->RV K (AN A1) H1 r v->D.rt v H1
 rf:∀ r A1 bw v H0 H1,E.rf r A1->Rep K H0 bw A1->ay A H A1 H0->eK K (AN A1) H0 H1 r v->D.rt v H1
 ro:∀(i:Nat)(a:Addr) (c:OC) A1 bw H1,A1.ae[i]?=some (some (.own a c))->c.Ld->E.rf c.pv (forget A1 i)->Rep K H1 bw A1->ay A H A1 H1->D.rt (.ref a) H1
 bk:∀ A1 bw H1,E.bk A1->Rep K H1 bw A1->ay A H A1 H1->D.bk bw H1
 ct:∀ A1 bw H1,E.ct A1->Rep K H1 bw A1->ay A H A1 H1->D.ct bw H1
theorem sf.step {K:Frag}{A A1:AS}{H H1:Hp}{E:gH}{D:Ends}(k:sf K A H E D)(s:ay A H A1 H1):sf K A1 H1 E D:=
 ⟨λA2 bH H2 p R t=>k.nx A2 bH H2 p R (s.trans t),λr A2 bH v H2 p R t=>k.rt r A2 bH v H2 p R (s.trans t),λr A2 bH v H0 H2 p R t=>k.rf r A2 bH v H0 H2 p R (s.trans t),λi a c A2 bH H2 hi hl p R t=>k.ro i a c A2 bH H2 hi hl p R (s.trans t),λA2 bH H2 p R t=>k.bk A2 bH H2 p R (s.trans t),λA2 bH H2 p R t=>k.ct A2 bH H2 p R (s.trans t)⟩
noncomputable def b9 (K:Frag)(u:US):TS:=λD σ H=>∃ A E,Rep K H σ A/\u E A/\sf K A H E D
noncomputable def EY:US:=λE A=>E.nx A
noncomputable def EZ (u w:US):US:=λE A=>u { E with nx:=λA1=>w E A1 } A
noncomputable def E1 (t:UT)(u w:US):US:=λE A=>t A λk A1=>if k=true then u E A1 else w E A1
noncomputable def xN (i:Nat)(u:UE):US:=λE A=>u A λr A1=>E.nx (put A1 i (.val r))
noncomputable def xO (i:Nat)(u:UE):US:=λE A=>u A λr A1=>∃ c:OC,r=c.pv/\∀ p,E.nx (put A1 i (.own p c))
noncomputable def E2 (u:UE):US:=λE A=>u A λ_ A1=>E.nx A1
noncomputable def E3 (u:UE):US:=λE A=>u A λr A1=>E.rt r A1
noncomputable def E4 (u:UE):US:=λE A=>u A λr A1=>E.rf r A1
noncomputable def xP (i:Nat):US:=λE A=>match A.ae[i]? with
 |some (some (.own _ (.lst xs)))=>E.rf (.lst xs) (forget A i)
 |some (some (.own _ (.ah xs)))=>E.rf (.ah xs) (forget A i)
 |_=>False
section
variable {K:Frag}{H H1:Hp}{σ:St}{A:AS}{i:Nat}
theorem PQ {s:Sl}(hs:∀ a c,s≠.own a c){b:Addr}(h:AN (put A i s) b):AN A b:=by
 rcases h with h|⟨j,c,h⟩
 ·exact .inl h
 ·rcases cG h with ⟨_,z⟩|⟨_,z⟩
  ·exact absurd (Option.some.inj z).symm (hs _ _)
  ·exact .inr ⟨j,c,z⟩
theorem PR {s:Sl}(hs:∀ a c,s≠.own a c){b:Addr}(h:Own (put A i s).ae b):Own A.ae b:=by
 obtain⟨j,c,h⟩:=h;rcases cG h with ⟨_,z⟩|⟨_,z⟩
 ·exact absurd (Option.some.inj z).symm (hs _ _)
 ·exact⟨j,c,z⟩
theorem Rep.val (R:Rep K H σ A){r:PV}{v:V}(rv:RV K (AN A) H r v):Rep K H (σ.set i (some v)) (put A i (.val r))/\ay A H (put A i (.val r)) H:=by
 have no:∀ a c,Sl.val r≠.own a c:=λ_ _ z=>by cases z
 have kp:d8 K (AN A) (AN (put A i (.val r))) H H:=⟨λ_ _ h=>h,λ_ _ n h=>⟨λz=>n (PQ no z),h⟩⟩;refine⟨⟨?_,?_,R.df,?_,R.st,?_⟩,⟨λ_ _ h _=>h,λb z=>.inl (PR no z),rfl,λ_ h=>h,rfl⟩⟩
 ·rw[length_set,R.len];exact(length_set ..).symm
 ·intro j s h;rcases cG h with ⟨rfl,z⟩|⟨n,z⟩
  ·cases z;refine⟨v,?_,rv.imp kp⟩
   have:i<A.ae.length:=by
    by_cases hl:i<A.ae.length
    ·exact hl
    ·have h':(A.ae.set i (some (Sl.val r)))[i]?=some (some (.val r)):=h;rw[getElem?_set,if_pos rfl,if_neg hl] at h';cases h'
   rw[getElem?_set,if_pos rfl,if_pos (by rw[R.len];exact this)]
  ·obtain⟨w,e1,q⟩:=R.sl j s z;refine⟨w,by rw[getElem?_set,if_neg n];exact e1,?_⟩
   cases s with
   |val x=>exact q.imp kp
   |own b c=>exact⟨q.1,q.2.1,q.2.2.imp kp λ_ h=>h⟩
   |peek b c=>exact⟨q.1,q.2.1,q.2.2.imp kp λ_ h=>h⟩
 ·intro i1 j1 b c1 c2 h1 h2;rcases cG h1 with ⟨_,z⟩|⟨_,z1⟩
  ·cases z
  ·rcases cG h2 with ⟨_,z⟩|⟨_,z2⟩
   ·cases z
   ·exact R.nd _ _ _ _ _ z1 z2
 ·intro i1 b c1 st h1 h2;rcases cG h1 with ⟨_,z⟩|⟨_,z1⟩
  ·cases z
  ·exact R.pk _ _ _ _ z1 h2
theorem Rep.E5 (R:Rep K H σ A){c':OC}{p:Addr}(hp:H p=none)(s:aS H H1)(hc:match c' with
  |.lst xs=>∃ vs,H1 p=some (.lst vs)/\aI K (AN A) H xs vs
  |.ah kvs=>∃ av:bj,H1 p=some (.dK av)/\bR K (AN A) H kvs (av.map λkv=>(kV kv.1,kv.2))
  |.ins C dx fs=>∃ ws,H1 p=some (.ins C dx ws)/\EF K (AN A) H fs ws
  | .cP kvs=>∃ ws,H1 p=some (.dT ws)/\EG K (AN A) H kvs ws):Rep K H1 (σ.set i (some (.ref p))) (put A i (.own p c'))/\ay A H (put A i (.own p c')) H1:=by
 have np:=R.new hp
 have ow:∀ b,Own (put A i (.own p c')).ae b->Own A.ae b\/b=p:=by
  rintro b ⟨j,c,h⟩;rcases cG h with ⟨_,z⟩|⟨_,z⟩
  ·cases z;exact .inr rfl
  ·exact .inl ⟨j,c,z⟩
 have S:ay A H (put A i (.own p c')) H1:=⟨λa o h _=>s a o h,λb z=>(ow b z).elim .inl λe=>.inr (by rw[e];exact hp),rfl,(ay.same A s).dm,rfl⟩;have kp:=R.keep S
 have oc:gF K (AN (put A i (.own p c'))) H1 p c':=by
  cases c' with
  |lst xs=>obtain⟨vs,h1,h2⟩:=hc;exact⟨vs,h1,h2.imp kp⟩
  |ah xs=>obtain⟨vs,h1,h2⟩:=hc;exact⟨vs,h1,h2.imp kp⟩
  |ins C dx xs=>obtain⟨vs,h1,h2⟩:=hc;exact⟨vs,h1,h2.1,h2.2.imp kp⟩
  |cP xs=>obtain⟨vs,h1,h2⟩:=hc;exact⟨vs,h1,h2.1,h2.2.imp kp⟩
 have R1:=R.same s;refine⟨⟨?_,?_,R1.df,?_,R1.st,?_⟩,S⟩
 ·rw[length_set,R.len];exact(length_set ..).symm
 ·intro j t h;rcases cG h with ⟨rfl,z⟩|⟨n,z⟩
  ·cases z;refine⟨.ref p,?_,rfl,λz=>np (.inl z),oc⟩
   have:i<A.ae.length:=by
    by_cases hl:i<A.ae.length
    ·exact hl
    ·have h':(A.ae.set i (some (Sl.own p c')))[i]?=some (some (.own p c')):=h;rw[getElem?_set,if_pos rfl,if_neg hl] at h';cases h'
   rw[getElem?_set,if_pos rfl,if_pos (by rw[R.len];exact this)]
  ·obtain⟨w,e1,q⟩:=R.sl j t z;refine⟨w,by rw[getElem?_set,if_neg n];exact e1,?_⟩
   cases t with
   |val x=>exact q.imp kp
   |own b c=>exact⟨q.1,q.2.1,q.2.2.imp kp λo h=>s b o h⟩
   |peek b c=>exact⟨q.1,q.2.1,q.2.2.imp kp λo h=>s b o h⟩
 ·intro i1 j1 b c1 c2 h1 h2;have E6:∀{j:Nat}{c:OC},A.ae[j]?=some (some (.own p c))->False:=λh=>np (.inr ⟨_,_,h⟩);rcases cG h1 with ⟨e1,z1⟩|⟨_,z1⟩
  ·cases z1;rcases cG h2 with ⟨e2,z2⟩|⟨_,z2⟩
   ·exact e1.symm.trans e2
   ·exact(E6 z2).elim
  ·rcases cG h2 with ⟨_,z2⟩|⟨_,z2⟩
   ·cases z2;exact(E6 z1).elim
   ·exact R.nd _ _ _ _ _ z1 z2
 ·intro i1 b c1 st h1 h2;rcases cG h1 with ⟨_,z⟩|⟨_,z1⟩
  ·cases z
  ·exact R.pk _ _ _ _ z1 h2
theorem Rep.fresh (R:Rep K H σ A){c:OC}{v:V}(f:eK K (AN A) H H1 c.pv v):∃ p,v=.ref p/\Rep K H1 (σ.set i (some v)) (put A i (.own p c))/\ay A H (put A i (.own p c)) H1:=by
 obtain⟨p,c',e,rfl,hp,s,hc⟩:=f
 cases c' with
 |lst xs=>
  have ec:OC.lst xs=c:=by cases c<;>cases e<;>rfl
  subst ec;exact⟨p,rfl,R.E5 hp s hc⟩
 |ah xs=>
  have ec:OC.ah xs=c:=by cases c<;>cases e<;>rfl
  subst ec;exact⟨p,rfl,R.E5 hp s hc⟩
 |ins _ _ _=>exact hc.elim
 |cP _=>exact hc.elim
theorem Rep.turn (R:Rep K H σ A){a:Addr}{xs ys:ai}{vs:Zv}(hi:A.ae[i]?=some (some (.own a (.lst xs))))(r:aI K (AN A) H ys vs):Rep K (upd H a (.lst vs)) σ (put A i (.own a (.lst ys)))/\ay A H (put A i (.own a (.lst ys))) (upd H a (.lst vs)):=by
 obtain⟨v,ev,rfl,nb,us,ha,_⟩:=R.sl i _ hi
 have ow:∀ b,Own (put A i (.own a (.lst ys))).ae b->Own A.ae b:=by
  rintro b ⟨j,c,h⟩;rcases cG h with ⟨_,z⟩|⟨_,z⟩
  ·cases z;exact⟨i,_,hi⟩
  ·exact⟨j,c,z⟩
 have dm:∀ b,H b≠none->upd H a (.lst vs) b≠none:=λb h=>by
  by_cases e:b=a
  ·subst e;rw[bE];intro z;cases z
  ·rw[a8 e];exact h
 have S:ay A H (put A i (.own a (.lst ys))) (upd H a (.lst vs)):=⟨λb o h m=>by
  rw[a8 λe=>m (.inl ⟨i,_,by rw[e];exact hi⟩)];exact h,λb z=>.inl (ow b z),rfl,dm,rfl⟩
 have kp:=R.keep S;refine⟨⟨?_,?_,λb h=>dm b (R.df b h),?_,?_,?_⟩,S⟩
 ·rw[R.len];exact(length_set ..).symm
 ·intro j t h;rcases cG h with ⟨rfl,z⟩|⟨n,z⟩
  ·cases z;exact⟨_,ev,rfl,nb,vs,bE,r.imp kp⟩
  ·obtain⟨w,e1,q⟩:=R.sl j t z;refine⟨w,e1,?_⟩
   cases t with
   |val x=>exact q.imp kp
   |own b c=>
    have lD:b≠a:=λe=>n (by subst e;exact R.nd _ _ _ _ _ hi z);exact⟨q.1,q.2.1,q.2.2.imp kp λo h=>by rw[a8 lD];exact h⟩
   |peek b c=>
    have lD:b≠a:=λe=>nb (by subst e;exact q.2.1);exact⟨q.1,q.2.1,q.2.2.imp kp λo h=>by rw[a8 lD];exact h⟩
 ·intro i1 j1 b c1 c2 h1 h2;rcases cG h1 with ⟨e1,z1⟩|⟨_,z1⟩
  ·cases z1;rcases cG h2 with ⟨e2,z2⟩|⟨_,z2⟩
   ·exact e1.symm.trans e2
   ·exact e1.symm.trans (R.nd _ _ _ _ _ hi z2)
  ·rcases cG h2 with ⟨e2,z2⟩|⟨_,z2⟩
   ·cases z2;exact(R.nd _ _ _ _ _ z1 hi).trans e2
   ·exact R.nd _ _ _ _ _ z1 z2
 ·intro st h;obtain⟨h1,h2,h3⟩:=R.st st h;have nd:a≠st.d:=λe=>nb (by rw[e];exact h1);refine⟨h1,h2.upd nd (λps z=>by rw[ha] at z;cases z),?_⟩
  exact h3.iS λo u h3=>by
   rw[a8 λe=>by rw[e,ha] at h3;cases h3];exact h3
 ·intro i1 b c1 st h1 h2;rcases cG h1 with ⟨_,z⟩|⟨_,z1⟩
  ·cases z
  ·exact R.pk _ _ _ _ z1 h2
end
section
variable {X:Cx}{K:Frag}{st:Stmt}{rest sa sb:List Stmt}{u w:US}{e c:Expr}{ue:UE}{t:UT}{pos:Pos}
theorem sn:cx X [] (b9 K EY):=qB.mono λD σ H ⟨A,E,R,h,k⟩=>k.nx A σ H h R (ay.refl A H)
theorem sc (h1:PS X st (b9 K u))(h2:cx X rest (b9 K w)):cx X (st::rest) (b9 K (EZ u w)):=(eP h1 h2).mono λD σ H ⟨A,E,R,h,k⟩=>
 ⟨A,{ E with nx:=λA1=>w E A1 },R,h,⟨λA1 bw H1 p R1 S1=>⟨A1,E,R1,p,k.step S1⟩,k.rt,k.rf,k.ro,k.bk,k.ct⟩⟩
theorem s1 (h1:PS X st (b9 K u)):cx X [st] (b9 K u):=jh h1
theorem bg (hc:PT X c (liftT K t))(ha:cx X sa (b9 K u))(hb:cx X sb (b9 K w)):PS X (.If c sa sb pos) (b9 K (E1 t u w)):=(qD hc ha hb).mono λD σ H ⟨A,E,R,h,k⟩=>
 ⟨A,_,R,h,λb A1 H1 p R1 S1=>by
  cases b with
  |true=>exact lq ⟨A1,E,R1,p,k.step S1⟩
  | false=>exact lj ⟨A1,E,R1,p,k.step S1⟩⟩
theorem a_ {i:Nat}{x:Str}{pos':Pos}(hN:X.N.Nodup)(he:PE X e (aB K ue))(hi:X.N[i]?=some x:=by rfl)(hx:Loc X.env.scope x:=by first|exact Or.inl rfl|exact Or.inr rfl)(hs:swapsWith e (some (.Name x pos')) pos.line X.env=pure false:=by rfl)
  (hf:X.fn x=true\/X.env.scope.names.lookup x=some .local:=by first|exact .inl rfl|exact .inr rfl|assumption):PS X (.Assign [.Name x pos'] e pos) (b9 K (xN i ue)):=(gu hN hi hx he hs hf).mono λD σ H ⟨A,E,R,h,k⟩=>
 ⟨A,_,R,h,λr A1 v H1 p R1 S1 rv=>k.nx _ _ H1 p (R1.val rv).1 (S1.trans (R1.val rv).2)⟩
theorem eR {i:Nat}{x:Str}{pos':Pos}(hN:X.N.Nodup)(he:PE X e (c4 K ue))(hi:X.N[i]?=some x:=by rfl)(hx:Loc X.env.scope x:=by first|exact Or.inl rfl|exact Or.inr rfl)(hs:swapsWith e (some (.Name x pos')) pos.line X.env=pure false:=by rfl)
  (hf:X.fn x=true\/X.env.scope.names.lookup x=some .local:=by first|exact .inl rfl|exact .inr rfl|assumption):PS X (.Assign [.Name x pos'] e pos) (b9 K (xO i ue)):=(gu hN hi hx he hs hf).mono λD σ H ⟨A,E,R,h,k⟩=>
 ⟨A,_,R,h,λr A1 v H0 H1 p R1 S1 f=>by
  obtain⟨c,rfl,p⟩:=p;obtain⟨q,rfl,R2,S2⟩:=R1.fresh (i:=i) f
  exact k.nx _ _ H1 (p q) R2 (S1.trans S2)⟩
theorem eS (he:PE X e (aB K ue))(hs:swapsWith e none pos.line X.env=pure false:=by rfl):PS X (.Expr e pos) (b9 K (E2 ue)):=(KP he hs).mono λD σ H ⟨A,E,R,h,k⟩=>
 ⟨A,_,R,h,λr A1 v H1 p R1 S1 rv=>k.nx _ _ H1 p R1 S1⟩
theorem aJ (he:PE X e (aB K ue)):PS X (.Return (some e) pos) (b9 K (E3 ue)):=(jQ he).mono λD σ H ⟨A,E,R,h,k⟩=>
 ⟨A,_,R,h,λr A1 v H1 p R1 S1 rv=>k.rt r A1 σ v H1 p R1 S1 rv⟩
theorem PU (he:PE X e (c4 K ue)):PS X (.Return (some e) pos) (b9 K (E4 ue)):=(jQ he).mono λD σ H ⟨A,E,R,h,k⟩=>
 ⟨A,_,R,h,λr A1 v H0 H1 p R1 S1 f=>k.rf r A1 σ v H0 H1 p R1 S1 f⟩
theorem E7 {i:Nat}{x:Str}{pos':Pos}(hN:X.N[i]?=some x:=by rfl)(hv:dj X.env.scope x:=by walk_at "v")(hd:(x==("__debug__":Str))=false:=by decide)
  (bK:(x==("__classdict__":Str))=false:=by decide):PS X (.Return (some (.Name x pos')) pos) (b9 K (xP i)):=(jQ (dZ hN hv hd bK)).mono λD σ H ⟨A,E,R,h,k⟩=>by
 unfold xP at h
 split at h
 ·rename_i a cc hx;obtain⟨v,e,rfl,_⟩:=R.sl i _ hx;exact⟨_,e,k.ro i a (.lst cc) A σ H hx trivial h R (ay.refl A H)⟩
 ·rename_i a cc hx;obtain⟨v,e,rfl,_⟩:=R.sl i _ hx;exact⟨_,e,k.ro i a (.ah cc) A σ H hx trivial h R (ay.refl A H)⟩
 ·exact h.elim
end
noncomputable abbrev UI:=AS->(ai->(cv)->AS->Prop)->Prop
noncomputable abbrev UG:=PV->AS->(cv)->Prop
noncomputable abbrev lE:=ai->AS->(cv)->Prop
noncomputable def iV (S:Option ag)(H H1:Hp):Prop:=∀ b o,H b=some o->(¬ ∃ st,S=some st/\st.d=b)->H1 b=some o
structure iW (K:Frag)(A:AS)(H:Hp)(J:It)(xs:ai)(C:cv):Prop where
 go:∀ bH A2 H2,Rep K H2 bH A2->ay A H A2 H2->C A2->∀ i x,xs[i]?=some x->J.go i H2/\∀ v H',J.fK i H2 v H'->aS H2 H'/\RV K (AN A2) H' x v
 stop:∀ bH A2 H2,Rep K H2 bH A2->ay A H A2 H2->C A2->J.stop xs.length H2
 cm:∀ H2,iV A.S H H2->(∀ i x,xs[i]?=some x->J.go i H2/\∀ v H',J.fK i H2 v H'->aS H2 H'/\RV K (λa=>AN A a\/H a=none) H' x v)/\J.stop xs.length H2
noncomputable def jw (K:Frag)(u:UI):TI:=λσ H R=>∃ A P,Rep K H σ A/\u A P/\∀ xs C A1 J H1,P xs C A1->Rep K H1 σ A1->ay A H A1 H1->iW K A1 H1 J xs C->R J H1
noncomputable def jx (K:Frag)(g:UG):TG:=λv σ H Q=>∃ x A P,Rep K H σ A/\RV K (AN A) H x v/\g x A P/\∀ A1 bw,P A1->Rep K H bw A1->ay A H A1 H->Q bw H
noncomputable def sg (K:Frag)(g:lE):ji:=λvs σ H Q=>∃ xs A P,Rep K H σ A/\aI K (AN A) H xs vs/\g xs A P/\∀ A1 bw,P A1->Rep K H bw A1->ay A H A1 H->Q bw H
theorem PG.mono {X:Cx}{e:Expr}{t t':TG}(h:PG X e t)(f:∀ v σ H Q,t' v σ H Q->t v σ H Q):PG X e t':=λpins s σ H v u Q I r w=>h pins s σ H v u Q I r (f _ _ _ _ w)
theorem g8.mono {X:Cx}{e:List Expr}{t t':ji}(h:g8 X e t)(f:∀ v σ H Q,t' v σ H Q->t v σ H Q):g8 X e t':=λpins s σ H v u Q I r w=>h pins s σ H v u Q I r (f _ _ _ _ w)
noncomputable def gN (i:Nat):UG:=λx A Q=>Q (put A i (.val x))
noncomputable def gT (n:Nat)(g:lE):UG:=λx A Q=>∃ xs,x=.tup xs/\xs.length=n/\g xs A Q
noncomputable def xQ:lE:=λxs A Q=>xs=[]/\Q A
noncomputable def xR (g:UG)(gs:lE):lE:=λxs A Q=>∃ x r,xs=x::r/\g x A λA1=>gs r A1 Q
section
variable {X:Cx}{K:Frag}{e tg:Expr}{es:List Expr}{g:UG}{gs:lE}{pos:Pos}
theorem aQ {i:Nat}{x:Str}(hN:X.N.Nodup)(hi:X.N[i]?=some x:=by rfl)(hx:Loc X.env.scope x:=by first|exact Or.inl rfl|exact Or.inr rfl)(hf:X.fn x=true\/X.env.scope.names.lookup x=some .local:=by first|exact .inl rfl|exact .inr rfl|assumption):PG X (.Name x pos) (jx K (gN i)):=
 (KS hN hi hx hf).mono λv σ H Q ⟨x,A,P,R,rv,h,c⟩=>c _ _ h (R.val rv).1 (R.val rv).2
theorem dW:g8 X [] (sg K xQ):=KY.mono λv σ H Q ⟨xs,A,P,R,rv,⟨e,h⟩,c⟩=>by
 subst e;cases rv;exact⟨rfl,c A σ h R (ay.refl A H)⟩
theorem bp (h1:PG X e (jx K g))(h2:g8 X es (sg K gs))(hs:(assignEach (e::es) X.env).map (·.2)=assign e X.env::(assignEach es X.env).map (·.2):=by rfl):g8 X (e::es) (sg K (xR g gs)):=
 (KZ h1 h2 hs).mono λv σ H Q ⟨xs,A,P,R,rv,⟨x,r,e,h⟩,c⟩=>by
  subst e
  cases rv with
  |cons r1 r2=>exact⟨_,_,rfl,x,A,_,R,r1,h,λA1 bw p R1 S1=>⟨r,A1,P,R1,r2.imp (R.keep S1),p,λA2 bH p2 R2 S2=>c A2 bH p2 R2 (S1.trans S2)⟩⟩
theorem dX {k n:Nat}(hK:X.K=K)(hc:X.calm=true)(h:g8 X es (sg K gs))(hn:(assignEach es X.env).length=n:=by rfl)(fX:(assignEach es X.env).findIdx? (·.1)=none:=by rfl):PG X (.Tuple es k pos) (jx K (gT n gs)):=by
 subst hK
 exact(K1 hc h hn fX).mono λv σ H Q ⟨x,A,P,R,rv,⟨xs,e,l,h⟩,c⟩=>by
  subst e
  cases rv with
  |tup h1 h2=>exact⟨_,_,rfl,h1,by rw[<- h2.len];exact l,xs,A,P,R,h2,h,c⟩
end
noncomputable def PX (K:Frag)(tl:TE):TI:=λσ H R=>tl σ H λx H1=>(∃ a,x=.ref a/\(∃ xs,aN K H1 a xs)/\R (kW K a) H1)\/(∃ a,x=.ref a/\(∃ xs,bt K H1 a xs)/\R (vg K a) H1)\/(∃ z,x=.str z/\z.cps.all (·<128)=true/\R (vU z) H1)\/∃ a od kvs,x=.ref a/\H1 a=some (.bD od (.dK kvs))/\R (mP a od) H1
theorem E8 {X:Cx}{tg l:Expr}{tl:TE}(hl:PE X l tl):PI X tg l (PX X.K tl):=by
 intro pins s σ H R I h;refine aD (hl pins s σ H _ I h) λv s1 ⟨x,H1,I1,r1,q1⟩=>?_;rcases q1 with ⟨a,e,⟨xs,hq⟩,q⟩|⟨a,e,⟨xs,hq⟩,q⟩|⟨z,e,ha,q⟩|⟨a,od,kvs,e,hq,q⟩
 ·subst e;cases r1;obtain⟨its,rv,p,hz⟩:=I1.list hq;refine wpAny_pyIter_list p.isList ?_;refine⟨s1.heap.objs.size,[s1.heap.objs.size],_,_,H1,rfl,I1.kept (t':=s1.toks) λb o e=>a9 _ e,K5 a _,⟨_,b7 _ rfl,rfl,rfl⟩,λb hb=>?_,q⟩;have e:b=s1.heap.objs.size:=by simpa using hb
  subst e;exact I1.jR (ar _) (I1.aA.fresh (ar _))
 ·subst e;cases r1;obtain⟨its,rv,p,hz⟩:=I1.tuple hq;refine wpAny_pyIter_tuple (show s1.heap.IsTuple a its.toArray from p) ?_;refine⟨s1.heap.objs.size,[s1.heap.objs.size],_,_,H1,rfl,I1.kept (t':=s1.toks) λb o e=>a9 _ e,K6 a _,⟨_,b7 _ rfl,rfl,rfl⟩,λb hb=>?_,q⟩;have e:b=s1.heap.objs.size:=by simpa using hb
  subst e;exact I1.jR (ar _) (I1.aA.fresh (ar _))
 ·subst e;obtain⟨t,rfl⟩:=r1;refine wpAny_pyIter_ascii ha ?_;refine⟨s1.heap.objs.size,[s1.heap.objs.size],_,_,H1,rfl,I1.kept (t':=s1.toks) λb o e=>a9 _ e,Nn _ z t,⟨_,b7 _ rfl,rfl,rfl⟩,λb hb=>?_,q⟩;have e:b=s1.heap.objs.size:=by simpa using hb
  subst e;exact I1.jR (ar _) (I1.aA.fresh (ar _))
 ·subst e;cases r1;obtain⟨⟨e,_⟩,z,n,vs,r,ob,es,ep,e',c,d,q1,q2,q3⟩:=id (I1.aA a _ hq);rw[e] at e';cases e';have hsz:es.size=vs.length:=by rw[<- q2.length];simp
  refine wpAny_pyIter_dict (knd:=bN X.prog X.w) (kvs:=vs) (ep:=ep) n ⟨od,es,e,c,d,q1,q2,q3⟩ ?_;refine⟨s1.heap.objs.size,[s1.heap.objs.size],_,_,H1,rfl,I1.kept (t':=s1.toks) λb o e=>a9 _ e,Pz a _ od es ep d,⟨_,b7 _ rfl,rfl,by rw[hsz];rfl⟩,λb hb=>?_,q⟩;have e:b=s1.heap.objs.size:=by simpa using hb
  subst e;exact I1.jR (ar _) (I1.aA.fresh (ar _))
noncomputable def signs (z:Str):ai:=z.cps.toList.map λc=>PV.str ⟨#[c]⟩
noncomputable def xS:PV->(ai->Prop)->Prop
 |.lst xs,P=>P xs
 |.tup xs,P=>P xs
 |.str z,P=>z.cps.all (·<128)=true/\P (signs z)
 |.ah kvs,P=>P (kvs.map Prod.fst)
 |_,_=>False
noncomputable def E9 (ue:UE):UI:=λA P=>ue A λx A1=>xS x λxs=>P xs (λ_=>True) A1
noncomputable def pj:Option (Option Sl)->Nat->AS->(ai->(cv)->AS->Prop)->Prop
 |some (some (.val x)),_,A,P=>xS x λxs=>P xs (λ_=>True) A
 |some (some (.own a (.lst xs))),i,A,P=>P xs (λA2=>A2.ae[i]?=some (some (.own a (.lst xs)))) A
 |some (some (.peek a (.lst xs))),i,A,P=>P xs (λA2=>A2.ae[i]?=some (some (.peek a (.lst xs)))) A
 |_,_,_,_=>False
noncomputable def E_ (i:Nat):UI:=λA P=>pj A.ae[i]? i A P
noncomputable def Fb (ue:UE):UI:=λA P=>ue A λx A1=>∃ n:Int,x=.int n/\n<=1000000000 /\ -1000000000<=n/\P ((range n.toNat).map fun(k:Nat)=>PV.int k) (λ_=>True) A1
section
variable {X:Cx}{K:Frag}{e e2 tg:Expr}{pos p:Pos}{ue uf:UE}
theorem Rep.Fc {A:AS}{H:Hp}{σ:St}(R:Rep K H σ A){a:Addr}(n:¬ AN A a):¬ ∃ st,A.S=some st/\st.d=a:=by
 rintro⟨st,h,rfl⟩;exact n (.inl (R.st st h).1)
theorem Rep.lF {A:AS}{H H2:Hp}{σ:St}(R:Rep K H σ A)(b:iV A.S H H2):d8 K (AN A) (λa=>AN A a\/H a=none) H H2:=by
 refine⟨λa vs h=>?_,λa o n h=>⟨λz=>z.elim n (fF h),b a o h (R.Fc n)⟩⟩;rcases h with h|h
 ·refine .inl (EH (n:=∃ st,A.S=some st/\st.d=a) (λo e m=>b a o e m) ?_ h);rintro⟨st,h1,rfl⟩;obtain⟨kvs,e⟩:=(R.st st h1).2.1.dk;rcases h with h|⟨o,h⟩<;>(rw[e] at h;cases h)
 ·exact .inr h
theorem Fd {A:AS}{H H2:Hp}{σ:St}{a:Addr}{xs:ai}{vs:Zv}(R:Rep K H σ A)(b:iV A.S H H2)(h1:H2 a=some (.lst vs))(h2:aI K (AN A) H xs vs) :
  (∀ i x,xs[i]?=some x->(kW K a).go i H2/\∀ v H',(kW K a).fK i H2 v H'->aS H2 H'/\RV K (λa=>AN A a\/H a=none) H' x v)/\(kW K a).stop xs.length H2:=by
 refine⟨λi x hx=>?_,⟨_,aN.of h1,by rw[h2.len];exact ar _⟩⟩;obtain⟨v,hv,rv⟩:=h2.at hx;refine⟨⟨_,v,aN.of h1,hv⟩,λv' H' y=>?_⟩;obtain⟨rfl,y⟩:=y;have:=y _ (aN.of h1);rw[hv] at this;cases this;exact⟨aS.refl _,rv.imp (R.lF b)⟩
theorem Fe {A:AS}{H:Hp}{σ:St}{a:Addr}{xs:ai}(R:Rep K H σ A)(h:RV K (AN A) H (.lst xs) (.ref a)):iW K A H (kW K a) xs λ_=>True where
 go:=λbH A2 H2 R2 S2 _ i x hx=>by
  cases h.imp (R.keep S2) with
  |lst n h1 h2=>
   obtain⟨v,hv,rv⟩:=h2.at hx;refine⟨⟨_,v,aN.of h1,hv⟩,λv' H' y=>?_⟩;obtain⟨rfl,y⟩:=y;have:=y _ (aN.of h1);rw[hv] at this;cases this;exact⟨aS.refl _,rv⟩
 stop:=λbH A2 H2 R2 S2 _=>by
  cases h.imp (R.keep S2) with
  |lst n h1 h2=>exact⟨_,aN.of h1,by rw[h2.len];exact ar _⟩
 cm:=λH2 b=>by
  cases h with
  |lst n h1 h2=>exact Fd R b (b a _ h1 (R.Fc n)) h2
theorem Ff {A:AS}{H:Hp}{σ:St}{a:Addr}{xs:ai}(R:Rep K H σ A)(h:RV K (AN A) H (.tup xs) (.ref a)):iW K A H (vg K a) xs λ_=>True where
 go:=λbH A2 H2 R2 S2 _ i x hx=>by
  cases h.imp (R.keep S2) with
  |tup h1 h2=>
   obtain⟨v,hv,rv⟩:=h2.at hx;refine⟨⟨_,v,h1,hv⟩,λv' H' y=>?_⟩;obtain⟨rfl,y⟩:=y;have:=y _ h1;rw[hv] at this;cases this;exact⟨aS.refl _,rv⟩
 stop:=λbH A2 H2 R2 S2 _=>by
  cases h.imp (R.keep S2) with
  |tup h1 h2=>exact⟨_,h1,by rw[h2.len];exact ar _⟩
 cm:=λH2 b=>by
  cases h with
  |tup h1 h2=>
   have j6:=(R.lF b).t _ _ h1;refine⟨λi x hx=>?_,⟨_,j6,by rw[h2.len];exact ar _⟩⟩;obtain⟨v,hv,rv⟩:=h2.at hx;refine⟨⟨_,v,j6,hv⟩,λv' H' y=>?_⟩;obtain⟨rfl,y⟩:=y;have:=y _ j6;rw[hv] at this;cases this;exact⟨aS.refl _,rv.imp (R.lF b)⟩
theorem Fg {A:AS}{H:Hp}{σ:St}{a:Addr}{xs:ai}{i:Nat}{s:Sl}(R:Rep K H σ A)(hA:A.ae[i]?=some (some s))(hs:s=.own a (.lst xs)\/s=.peek a (.lst xs)):iW K A H (kW K a) xs λA2=>A2.ae[i]?=some (some s) where
 go:=λbH A2 H2 R2 S2 hc i x hx=>by
  obtain⟨w,_,o⟩:=R2.sl _ _ hc;have o':gF K (AN A2) H2 a (.lst xs):=by rcases hs with rfl|rfl<;>exact o.2.2
  obtain⟨vs,h1,h2⟩:=o';obtain⟨v,hv,rv⟩:=h2.at hx;refine⟨⟨_,v,aN.of h1,hv⟩,λv' H' y=>?_⟩;obtain⟨rfl,y⟩:=y;have:=y _ (aN.of h1);rw[hv] at this;cases this;exact⟨aS.refl _,rv⟩
 stop:=λbH A2 H2 R2 S2 hc=>by
  obtain⟨w,_,o⟩:=R2.sl _ _ hc;have o':gF K (AN A2) H2 a (.lst xs):=by rcases hs with rfl|rfl<;>exact o.2.2
  obtain⟨vs,h1,h2⟩:=o';exact⟨_,aN.of h1,by rw[h2.len];exact ar _⟩
 cm:=λH2 b=>by
  obtain⟨w,_,o⟩:=R.sl _ _ hA
  have nd:¬ ∃ st,A.S=some st/\st.d=a:=by
   rintro⟨st,h,rfl⟩;rcases hs with rfl|rfl
   ·exact o.2.1 (R.st st h).1
   ·exact R.pk _ _ _ st hA h rfl
  have o':gF K (AN A) H a (.lst xs):=by rcases hs with rfl|rfl<;>exact o.2.2
  obtain⟨vs,h1,h2⟩:=o';exact Fd R b (b a _ h1 nd) h2
theorem bR.at {N:Addr->Prop}{H:Hp}{xs:aT}{vs:List (V×V)}(h:bR K N H xs vs){i:Nat}{x:PV}(e:(xs.map Prod.fst)[i]?=some x):∃ v,vs[i]?=some v/\RV K N H x v.1:=by
 induction vs generalizing xs i with
 |nil=>cases h;simp at e
 |cons v vs ih=>
  cases h with
  |cons h1 h2 h3=>
   cases i with
   |zero=>simp at e;subst e;exact⟨_,rfl,h1⟩
   |succ i=>exact ih h3 (by simpa using e)
theorem bR.len0 {N:Addr->Prop}{H:Hp}{xs:aT}{vs:List (V×V)}(h:bR K N H xs vs):xs.length=vs.length:=by
 induction vs generalizing xs with
 |nil=>cases h;rfl
 |cons v vs ih=>cases h with|cons h1 h2 h3=>rw[length_cons,length_cons,ih h3]
theorem xT {N:Addr->Prop}{H2:Hp}{a:Addr}{od:Obj}{kvs:aT}{av:bj}(h1:H2 a=some (.bD od (.dK av)))(h2:bR K N H2 kvs (av.map λkv=>(kV kv.1,kv.2))) :
  (∀ i x,(kvs.map Prod.fst)[i]?=some x->(mP a od).go i H2/\∀ v H',(mP a od).fK i H2 v H'->aS H2 H'/\RV K N H' x v)/\(mP a od).stop (kvs.map Prod.fst).length H2:=by
 have l:=h2.len0;rw[length_map] at l;refine⟨λi x hx=>?_,⟨av,h1,by rw[length_map,l];exact ar _⟩⟩;obtain⟨v,hv,rv⟩:=h2.at hx;rw[getElem?_map] at hv;obtain⟨kv,mN,rfl⟩:=Option.map_eq_some_iff.mp hv;refine⟨⟨av,kv,h1,mN⟩,λv' H' y=>?_⟩;obtain⟨rfl,y⟩:=y;obtain⟨kg,e1,rfl⟩:=y av h1;rw[mN] at e1;cases e1;exact⟨aS.refl _,rv⟩
theorem Fh {A:AS}{H:Hp}{σ:St}{a:Addr}{od:Obj}{kvs:aT}{av:bj}(R:Rep K H σ A)(n:¬ AN A a)(h1:H a=some (.bD od (.dK av)))(h2:bR K (AN A) H kvs (av.map λkv=>(kV kv.1,kv.2))):iW K A H (mP a od) (kvs.map Prod.fst) λ_=>True where
 go:=λbH A2 H2 R2 S2 _ i x hx=>by
  have k:=R.keep S2;exact(xT (k.l _ _ n h1).2 (h2.imp k)).1 i x hx
 stop:=λbH A2 H2 R2 S2 _=>by
  have k:=R.keep S2;exact(xT (k.l _ _ n h1).2 (h2.imp k)).2
 cm:=λH2 b=>by
  have k:=R.lF b;have z:=xT (N:=λa=>AN A a\/H a=none) (k.l _ _ n h1).2 (h2.imp k);exact z
theorem Fi {A:AS}{H:Hp}{z:Str}:iW K A H (vU z) (signs z) λ_=>True where
 go:=λbH A2 H2 R2 S2 _ i x hx=>by
  unfold signs at hx;rw[getElem?_map] at hx;obtain⟨c,hc,rfl⟩:=Option.map_eq_some_iff.mp hx;have c9:z.cps[i]?=some c:=by simpa using hc
  refine⟨?_,?_⟩
  ·show i<z.cps.size;rcases Nat.lt_or_ge i z.cps.size with q|q
   ·exact q
   ·rw[Array.getElem?_eq_none q] at c9;cases c9
  ·rintro v H' ⟨rfl,c',h1,rfl⟩;rw[c9] at h1;cases h1;exact⟨aS.refl _,.str _⟩
 stop:=λbH A2 H2 R2 S2 _=>by
  show z.cps.size<=_;unfold signs;simp
 cm:=λH2 b=>⟨λi x hx=>by
  unfold signs at hx;rw[getElem?_map] at hx;obtain⟨c,hc,rfl⟩:=Option.map_eq_some_iff.mp hx;have c9:z.cps[i]?=some c:=by simpa using hc
  refine⟨?_,?_⟩
  ·show i<z.cps.size;rcases Nat.lt_or_ge i z.cps.size with q|q
   ·exact q
   ·rw[Array.getElem?_eq_none q] at c9;cases c9
  ·rintro v H' ⟨rfl,c',h1,rfl⟩;rw[c9] at h1;cases h1
   exact⟨aS.refl _,.str _⟩,by
  show z.cps.size<=_;unfold signs
  simp⟩
theorem PY {A:AS}{H:Hp}{lo:Int}{n:Nat}:iW K A H (qF lo n) ((range n).map fun(k:Nat)=>PV.int (lo+k)) λ_=>True where
 go:=λbH A2 H2 R2 S2 _ i x hx=>by
  rw[getElem?_map] at hx;obtain⟨c,hc,rfl⟩:=Option.map_eq_some_iff.mp hx;obtain⟨hi,e⟩:=c7 hc;have e':i=c:=by simpa using e
  subst e';refine⟨(by simpa using hi:i<n),?_⟩;rintro v H' ⟨rfl,rfl⟩;exact⟨aS.refl _,.int _⟩
 stop:=λbH A2 H2 R2 S2 _=>by
  show n<=_;simp
 cm:=λH2 b=>⟨λi x hx=>by
  rw[getElem?_map] at hx;obtain⟨c,hc,rfl⟩:=Option.map_eq_some_iff.mp hx;obtain⟨hi,e⟩:=c7 hc;have e':i=c:=by simpa using e
  subst e';refine⟨(by simpa using hi:i<n),?_⟩;rintro v H' ⟨rfl,rfl⟩
  exact⟨aS.refl _,.int _⟩,by
  show n<=_
  simp⟩
theorem iv (hK:X.K=K)(h:PE X e (aB K ue)):PI X tg e (jw K (E9 ue)):=by
 subst hK;refine(E8 h).mono λσ H Q ⟨A,P,R,h,c⟩=>⟨A,_,R,h,λx A1 v H1 p R1 S1 rv=>?_⟩
 cases x with
 |lst xs=>cases rv with|lst n h1 h2=>exact .inl ⟨_,rfl,⟨_,aN.of h1⟩,c xs _ A1 _ H1 p R1 S1 (Fe R1 (.lst n h1 h2))⟩
 |tup xs=>cases rv with|tup h1 h2=>exact .inr (.inl ⟨_,rfl,⟨_,h1⟩,c xs _ A1 _ H1 p R1 S1 (Ff R1 (.tup h1 h2))⟩)
 |str z=>cases rv;exact .inr (.inr (.inl ⟨z,rfl,p.1,c _ _ A1 _ H1 p.2 R1 S1 Fi⟩))
 |ah kvs=>
  cases rv with
  |ah n hD h2=>
   obtain⟨av,od,h1,rfl⟩:=hD;exact .inr (.inr (.inr ⟨_,od,av,rfl,h1,c _ _ A1 _ H1 p R1 S1 (Fh R1 n h1 h2)⟩))
 |_=>exact p.elim
theorem jy (hK:X.K=K)(i:Nat){x:Str}(hN:X.N[i]?=some x:=by rfl)(hv:dj X.env.scope x:=by walk_at "v")(hd:(x==("__debug__":Str))=false:=by decide)
  (bK:(x==("__classdict__":Str))=false:=by decide):PI X tg (.Name x pos) (jw K (E_ i)):=by
 subst hK;refine(E8 (dZ hN hv hd bK)).mono λσ H Q ⟨A,P,R,h,c⟩=>?_;have h':pj A.ae[i]? i A P:=h
 cases hx:A.ae[i]? with
 |none=>rw[hx] at h';exact h'.elim
 |some o=>
  cases o with
  |none=>rw[hx] at h';exact h'.elim
  |some s=>
   rw[hx] at h'
   cases s with
   |val x=>
    obtain⟨v,e,q⟩:=R.sl i _ hx
    cases x with
    |lst xs=>cases (show RV X.K (AN A) H (.lst xs) v from q) with|lst n h1 h2=>exact⟨_,e,.inl ⟨_,rfl,⟨_,aN.of h1⟩,c xs _ A _ H h' R (ay.refl A H) (Fe R (.lst n h1 h2))⟩⟩
    |tup xs=>cases (show RV X.K (AN A) H (.tup xs) v from q) with|tup h1 h2=>exact⟨_,e,.inr (.inl ⟨_,rfl,⟨_,h1⟩,c xs _ A _ H h' R (ay.refl A H) (Ff R (.tup h1 h2))⟩)⟩
    |str z=>
     cases (show RV X.K (AN A) H (.str z) v from q);exact⟨_,e,.inr (.inr (.inl ⟨z,rfl,h'.1,c _ _ A _ H h'.2 R (ay.refl A H) Fi⟩))⟩
    |ah kvs=>
     cases (show RV X.K (AN A) H (.ah kvs) v from q) with
     |ah n hD h2=>
      obtain⟨av,od,h1,rfl⟩:=hD;exact⟨_,e,.inr (.inr (.inr ⟨_,od,av,rfl,h1,c _ _ A _ H h' R (ay.refl A H) (Fh R n h1 h2)⟩))⟩
    |_=>exact h'.elim
   |own a oc=>
    cases oc with
    |lst xs=>
     obtain⟨v,e,rfl,_,vs,h1,h2⟩:=R.sl i _ hx;exact⟨_,e,.inl ⟨_,rfl,⟨_,aN.of h1⟩,c xs _ A _ H h' R (ay.refl A H) (Fg R hx (.inl rfl))⟩⟩
    |ah _=>exact h'.elim
    |ins _ _ _=>exact h'.elim
    |cP _=>exact h'.elim
   |peek a oc=>
    cases oc with
    |lst xs=>
     obtain⟨v,e,rfl,_,vs,h1,h2⟩:=R.sl i _ hx;exact⟨_,e,.inl ⟨_,rfl,⟨_,aN.of h1⟩,c xs _ A _ H h' R (ay.refl A H) (Fg R hx (.inr rfl))⟩⟩
    |ah _=>exact h'.elim
    |ins _ _ _=>exact h'.elim
    |cP _=>exact h'.elim
theorem iX (hg:Gl X "range")(hm:X.mg "range"=none)(h:PE X e (aB K ue))(hs:starEach [e] X.env=[(false,eval e X.env)]:=by rfl):PI X tg (.Call (.Name "range" p) [e] [] pos) (jw K (Fb ue)):=by
 refine(K_ hg hm (b8 h cO hs) hs).mono λσ H Q ⟨A,P,R,h,c⟩=>⟨A,_,R,h,λx A1 v H1 q R1 S1 rv=>?_⟩;obtain⟨n,rfl,n1,n2,q⟩:=q;cases rv;refine⟨n,rfl,by omega,by omega,c _ _ A1 _ H1 q R1 S1 ?_⟩;have:=PY (K:=K) (A:=A1) (H:=H1) (lo:=0) (n:=n.toNat);simpa using this
end
noncomputable def fG (xs:ai)(C:cv)(A1:AS)(g:UG)(ub:US)(E:gH):Prop:=∃ I:ai->AS->Prop,I [] A1/\(∀ d A2,I d A2->C A2) /\
 (∀ d x r A2,xs=d++x::r->I d A2->g x A2 λA3=>ub { E with nx:=I (d++[x]),ct:=I (d++[x]),bk:=E.nx } A3)/\∀ A2,I xs A2->E.nx A2
noncomputable def Fj (ui:UI)(g:UG)(ub:US):US:=λE A=>ui A λxs C A1=>fG xs C A1 g ub E
noncomputable def PZ (t:UT)(ub:US):US:=λE A=>∃(I:cv)(μ:AS->Nat),I A/\∀ A1,I A1->t A1 λk A2=>if k=true then ub { E with nx:=λA3=>I A3/\μ A3<μ A1,ct:=λA3=>I A3/\μ A3<μ A1,bk:=E.nx } A2 else E.nx A2
section
variable {X:Cx}{K:Frag}{tg iter c:Expr}{body:List Stmt}{ui:UI}{g:UG}{ub:US}{t:UT}{pos:Pos}
theorem eU (hp:PassesOwn (model X.prog X.w) X.A X.env X.xe)(hc:X.calm=true)(hi:PI X tg iter (jw K ui))(hg:PG X tg (jx K g))(hb:cx X body (b9 K ub))(hs:∀ x,foldedSetIterable iter X.env x=pure x:=by intro _;rfl) :
  PS X (.For tg iter body [] pos) (b9 K (Fj ui g ub)):=by
 refine(Lc hp hc hi hg hb hs).mono λD σ H ⟨A,E,R,h,k⟩=>⟨A,_,R,h,λxs C A1 J H1 p R1 S1 ok=>?_⟩;obtain⟨I,i0,iC,step,fin⟩:=p;refine⟨λi m aH H'=>m=xs.length-i/\i<=xs.length/\∃ A2,I (xs.take i) A2/\Rep K H' aH A2/\ay A1 H1 A2 H',⟨_,rfl,Nat.zero_le _,A1,i0,R1,ay.refl A1 H1⟩,?_⟩;rintro i m aH H' ⟨rfl,hi,A2,hI,R2,S2⟩;by_cases eF:i<xs.length
 ·obtain⟨go,fK⟩:=ok.go aH A2 H' R2 S2 (iC _ _ hI) i xs[i] (cg eF);refine .inr ⟨go,λpq jz=>∃ A3,I (xs.take (i+1)) A3/\Rep K jz pq A3/\ay A1 H1 A3 jz,λpq jz q=>⟨xs.length-(i+1),by omega,rfl,eF,q⟩,λv H3 y=>?_⟩;obtain⟨s,rv⟩:=fK v H3 y;have eT:xs.take (i+1)=xs.take i++[xs[i]]:=by rw[take_add_one,cg eF];rfl
  refine⟨xs[i],A2,_,R2.same s,rv,step (xs.take i) xs[i] (xs.drop (i+1)) A2 (by simp) hI,λA3 cL p3 R3 S3=>⟨A3,_,R3,p3,?_⟩⟩;have xU:ay A1 H1 A3 H3:=S2.trans ((ay.same A2 s).trans S3);have k3:=k.step (S1.trans xU);exact⟨λA4 xV H4 q R4 S4=>⟨A4,by rw[eT];exact q,R4,xU.trans S4⟩,k3.rt,k3.rf,k3.ro,k3.nx,λA4 xV H4 q R4 S4=>⟨A4,by rw[eT];exact q,R4,xU.trans S4⟩⟩
 ·have e:i=xs.length:=by omega
  subst e;rw[take_length] at hI;exact .inl ⟨ok.stop aH A2 H' R2 S2 (iC _ _ hI),k.nx A2 aH H' (fin A2 hI) R2 (S1.trans S2)⟩
theorem P0 (hp:PassesOwn (model X.prog X.w) X.A X.env X.xe)(hc:PT X c (liftT K t))(hb:cx X body (b9 K ub)):PS X (.While c body [] pos) (b9 K (PZ t ub)):=by
 refine(Bi hp hc hb).mono λD σ H ⟨A,E,R,h,k⟩=>?_;obtain⟨I,μ,i0,step⟩:=h;refine⟨λm aH H'=>∃ A1,m=μ A1/\I A1/\Rep K H' aH A1/\ay A H A1 H',⟨_,A,rfl,i0,R,ay.refl A H⟩,?_⟩;rintro m aH H' ⟨A1,rfl,hI,R1,S1⟩;refine⟨A1,_,R1,step A1 hI,λb A2 H2 p R2 S2=>?_⟩;have k2:=k.step (S1.trans S2)
 cases b with
 |true=>
  refine⟨λpq jz=>∃ A3,(I A3/\μ A3<μ A1)/\Rep K jz pq A3/\ay A H A3 jz,?_,?_⟩
  ·rintro pq jz ⟨A3,⟨q1,q2⟩,R3,S3⟩;exact⟨μ A3,q2,A3,rfl,q1,R3,S3⟩
  ·exact⟨A2,_,R2,p,⟨λA4 xV H4 q R4 S4=>⟨A4,q,R4,S1.trans (S2.trans S4)⟩,k2.rt,k2.rf,k2.ro,k2.nx,λA4 xV H4 q R4 S4=>⟨A4,q,R4,S1.trans (S2.trans S4)⟩⟩⟩
 |false=>exact k2.nx A2 aH H2 p R2 (ay.refl A2 H2)
end
noncomputable def Sl.si:Sl->Sl
 |.own a c=>.peek a c
 |s=>s
noncomputable def mR (ix:List Nat)(ae:cM):cM:=ix.map λj=>((ae[j]?).join).map Sl.si
noncomputable def dg (k:Nat)(ix:List Nat)(ae:cM):cM:=replicate k none++mR ix ae
noncomputable def Kp (k:Nat)(ix:List Nat)(ae:cM)(A:AS):Prop:=A.ae.length=k+ix.length/\A.ae.drop k=mR ix ae
noncomputable def kh:UT:=λA Q=>Q true A
noncomputable def ki (k:Nat)(ix:List Nat)(xs:ai)(A1:AS)(g:UG)(t:UT)(ue:UE)(Q:PV->AS->Prop):Prop:=xs.length<=1000000/\∃ I:ai->ai->Option ag->Prop,I [] [] A1.S /\
 (∀ B d x r ys S,xs=d++x::r->I d ys S->g x ⟨B,dg k ix A1.ae,S⟩ λA2=>t A2 λb A3=>if b=true then ue A3 λy A4=>Kp k ix A1.ae A4/\I (d++[x]) (ys++[y]) A4.S else Kp k ix A1.ae A3/\I (d++[x]) ys A3.S) /\
 ∀ ys S,I xs ys S->Q (.lst ys) { A1 with S:=S }
noncomputable def sj (k:Nat)(ix:List Nat)(ui:UI)(g:UG)(t:UT)(ue:UE):UE:=λA Q=>ui A λxs _ A1=>ki k ix xs A1 g t ue Q
noncomputable def erase (H:Hp)(p:Addr):Hp:=λb=>if b=p then none else H b
theorem mS (H:Hp)(p:Addr):erase H p p=none:=if_pos rfl
theorem cH {H:Hp}{p b:Addr}(h:b≠p):erase H p b=H b:=if_neg h
section
variable {K:Frag}{H H1 H2:Hp}{σ:St}{A:AS}
theorem iV.Fm (R:Rep K H σ A){S:Option ag}(hs:S.map ag.d=A.S.map ag.d)(fX:∀ st,S=some st->cF H1 st.d st.a st.n st.b/\eJ K H1 st.a)(b:iV A.S H H1):Rep K H1 σ { A with S:=S }/\ay A H { A with S:=S } H1:=by
 have dm:∀ a,H a≠none->H1 a≠none:=λa h=>by
  by_cases e:∃ st,A.S=some st/\st.d=a
  ·obtain⟨st',h1,h2⟩:=lB hs.symm e;obtain⟨kvs,q⟩:=(fX st' h1).1.dk;rw[<- h2];exact fF q
  ·cases q:H a with
   |none=>exact absurd q h
   |some o=>exact fF (b a o q e)
 have S0:ay A H { A with S:=S } H1:=⟨λa o h m=>b a o h λz=>m (.inr z),λ_ h=>.inl h,rfl,dm,hs⟩;have kp:=R.keep S0;refine⟨⟨R.len,λi s h=>?_,λa h=>dm a (R.df a h),R.nd,λst h=>?_,λi a c st h1 h2=>?_⟩,S0⟩
 ·obtain⟨v,e,q⟩:=R.sl i s h;refine⟨v,e,?_⟩
  cases s with
  |val x=>exact q.imp kp
  |own a c=>exact⟨q.1,q.2.1,q.2.2.imp kp λo h=>b a o h fun⟨st,z1,z2⟩=>q.2.1 (by rw[<- z2];exact(R.st st z1).1)⟩
  |peek a c=>exact⟨q.1,q.2.1,q.2.2.imp kp λo h2=>b a o h2 fun⟨st,z1,z2⟩=>R.pk i a c st h z1 z2.symm⟩
 ·obtain⟨st',h1,h2⟩:=lB hs ⟨st,h,rfl⟩;exact⟨by show A.B st.d;rw[<- h2];exact(R.st st' h1).1,(fX st h).1,(fX st h).2⟩
 ·obtain⟨st',h3,h4⟩:=lB hs ⟨st,h2,rfl⟩;rw[<- h4];exact R.pk i a c st' h1 h3
theorem Rep.drop (R:Rep K H σ A){k:Nat}{cs:cM}(e:A.ae.drop k=cs)(hk:k<=A.ae.length):Rep K H σ { A with ae:=replicate k none++cs }/\∀ a,Own (replicate k none++cs) a->Own A.ae a:=by
 have at':∀ i s,(replicate k none++cs)[i]?=some (some s)->A.ae[i]?=some (some s):=λi s h=>by
  by_cases hi:i<k
  ·rw[getElem?_append_left (by simpa using hi),getElem?_replicate,if_pos hi] at h;cases h
  ·rw[getElem?_append_right (by simpa using (Nat.le_of_not_lt hi)),length_replicate,<- e,getElem?_drop] at h;rwa [show k+(i-k)=i by omega] at h
 have ow:∀ a,Own (replicate k none++cs) a->Own A.ae a:=λa ⟨i,c,h⟩=>⟨i,c,at' i _ h⟩;have kp:d8 K (AN A) (AN { A with ae:=replicate k none++cs }) H H:=⟨λ_ _ h=>h,λ_ _ n h=>⟨λz=>n (z.elim .inl λy=>.inr (ow _ y)),h⟩⟩;refine⟨⟨?_,λi s h=>?_,R.df,λi j a c c' h1 h2=>R.nd i j a c c' (at' i _ h1) (at' j _ h2),R.st,λi a c st h1 h2=>R.pk i a c st (at' i _ h1) h2⟩,ow⟩
 ·rw[R.len];show _=(replicate k none++cs).length;rw[<- e,length_append,length_replicate,length_drop];omega
 ·obtain⟨v,e1,q⟩:=R.sl i s (at' i s h);refine⟨v,e1,?_⟩
  cases s with
  |val x=>exact q.imp kp
  |own b c=>exact⟨q.1,q.2.1,q.2.2.imp kp λ_ h=>h⟩
  |peek b c=>exact⟨q.1,q.2.1,q.2.2.imp kp λ_ h=>h⟩
theorem P5 {ix:List Nat}{ae:cM}{i:Nat}{s:Sl}(h:(mR ix ae)[i]?=some (some s)):∃ j t,ix[i]?=some j/\ae[j]?=some (some t)/\s=t.si:=by
 unfold mR at h;rw[getElem?_map] at h;obtain⟨j,hj,e⟩:=Option.map_eq_some_iff.mp h;obtain⟨t,ht,e2⟩:=Option.map_eq_some_iff.mp e;refine⟨j,t,hj,?_,e2.symm⟩
 cases q:ae[j]? with
 |none=>rw[q] at ht;cases ht
 |some o=>rw[q] at ht;exact congrArg some ht
theorem sk {k:Nat}{ix:List Nat}{ae:cM}{i:Nat}{s:Sl}(h:(dg k ix ae)[i]?=some (some s)):∃ i' j t,i=k+i'/\ix[i']?=some j/\ae[j]?=some (some t)/\s=t.si:=by
 unfold dg at h;by_cases hi:i<k
 ·rw[getElem?_append_left (by simpa using hi),getElem?_replicate,if_pos hi] at h;cases h
 ·rw[getElem?_append_right (by simpa using (Nat.le_of_not_lt hi)),length_replicate] at h;obtain⟨j,t,h1,h2,h3⟩:=P5 h;exact⟨i-k,j,t,by omega,h1,h2,h3⟩
theorem lG {k:Nat}{ix:List Nat}{ae:cM}{a:Addr}:¬ Own (dg k ix ae) a:=by
 rintro⟨i,c,h⟩;obtain⟨_,_,t,_,_,_,e⟩:=sk h;cases t<;>cases e
theorem gF.some {N:Addr->Prop}{a:Addr}{c:OC}(h:gF K N H a c):H a≠none:=by
 cases c with
 |lst xs=>obtain⟨vs,h,_⟩:=h;exact fF h
 |ah xs=>obtain⟨vs,h,_⟩:=h;exact fF h
 |ins _ _ xs=>obtain⟨vs,h,_⟩:=h;exact fF h
 |cP xs=>obtain⟨vs,h,_⟩:=h;exact fF h
theorem xW {a acc:Addr}{us vs ws:Zv}(ha:H acc=Option.some (.lst vs))(h:bt K H a us):bt K (upd H acc (.lst ws)) a us:=by
 rcases h with h|h
 ·refine .inl ?_;rcases h with h|⟨o,h⟩
  ·exact .inl (by rw[a8 λe=>by rw[e,ha] at h;cases h];exact h)
  ·exact .inr ⟨o,by rw[a8 λe=>by rw[e,ha] at h;cases h];exact h⟩
 ·exact .inr h
theorem Rep.P6 (R:Rep K H σ A){acc:Addr}{vs ws:Zv}(ha:H acc=Option.some (.lst vs))(hB:A.B acc)(hp:∀(i:Nat)(a:Addr)(c:OC),A.ae[i]?=Option.some (Option.some (Sl.peek a c))->a≠acc):Rep K (upd H acc (.lst ws)) σ A:=by
 have kp:d8 K (AN A) (AN A) H (upd H acc (.lst ws)):=⟨λa us h=>xW ha h,λa o n h=>⟨n,by rw[a8 λe=>n (by rw[e];exact .inl hB)];exact h⟩⟩;refine⟨R.len,λi s h=>?_,λa h=>?_,R.nd,λst h=>?_,R.pk⟩
 ·obtain⟨v,e,q⟩:=R.sl i s h;refine⟨v,e,?_⟩
  cases s with
  |val x=>exact q.imp kp
  |own a c=>exact⟨q.1,q.2.1,q.2.2.imp kp λo h=>by rw[a8 λe=>q.2.1 (by rw[e];exact hB)];exact h⟩
  |peek a c=>exact⟨q.1,q.2.1,q.2.2.imp kp λo h2=>by rw[a8 (hp i a c h)];exact h2⟩
 ·by_cases e:a=acc
  ·rw[e,bE];intro z;cases z
  ·rw[a8 e];exact R.df a h
 ·obtain⟨h1,h2,h3⟩:=R.st st h;refine⟨h1,h2.upd (λe=>?_) (λps z=>by rw[ha] at z;cases z),h3.iS λo u z=>?_⟩
  ·obtain⟨kvs,q⟩:=h2.dk;rw[<- e,ha] at q;cases q
  ·rw[a8 λe=>by rw[e,ha] at z;cases z];exact z
theorem Rep.inner (R:Rep K H σ A){acc:Addr}(fj:H acc=none)(k:Nat)(ix:List Nat):Rep K (upd H acc (.lst [])) (f_ k ix σ) ⟨λb=>AN A b\/b=acc,dg k ix A.ae,A.S⟩:=by
 have s:aS H (upd H acc (.lst [])):=dM fj _;have R1:=R.same s;have na:∀ a o,H a=some o->a≠acc:=λa o h=>dG h fj
 have kp:d8 K (AN A) (AN ⟨λb=>AN A b\/b=acc,dg k ix A.ae,A.S⟩) H (upd H acc (.lst [])):=⟨(iT (K:=K) (N:=AN A) s).t,λa o n h=>⟨λz=>by
  rcases z with (z|z)|z
  ·exact n z
  ·exact na a o h z
  ·exact lG z,s a o h⟩⟩
 refine⟨?_,λi t h=>?_,λa h=>?_,λi j a c c' h _=>absurd ⟨i,c,h⟩ lG,λst h=>?_,λi a c st h1 h2=>?_⟩
 ·show(f_ k ix σ).length=(dg k ix A.ae).length;unfold f_ dg mR;rw[length_append,length_append,length_map,length_map,length_replicate,length_replicate]
 ·obtain⟨i',j,t',rfl,h1,h2,rfl⟩:=sk h;obtain⟨v,e,q⟩:=R.sl j _ h2;refine⟨v,?_,?_⟩
  ·unfold f_;rw[getElem?_append_right (by simp),length_replicate,getElem?_map,show k+i'-k=i' by omega,h1];show some ((σ[j]?).join)=_;rw[e];rfl
  ·cases t' with
   |val x=>exact q.imp kp
   |own a c=>exact⟨q.1,.inl (.inr ⟨j,c,h2⟩),q.2.2.imp kp λo=>s a o⟩
   |peek a c=>exact⟨q.1,.inl (.inl q.2.1),q.2.2.imp kp λo=>s a o⟩
 ·rcases h with h|h
  ·rcases h with h|h
   ·exact R1.df a h
   ·rcases R.ju h with ⟨z,e⟩|⟨z,e⟩|⟨_,_,z,e⟩|⟨z,e⟩
    ·exact fF (s _ _ e)
    ·exact fF (s _ _ e)
    ·exact fF (s _ _ e)
    ·exact fF (s _ _ e)
  ·subst h;rw[bE];intro z;cases z
 ·obtain⟨h1,h2,h3⟩:=R1.st st h;exact⟨.inl (.inl h1),h2,h3⟩
 ·obtain⟨i',j,t,rfl,h3,h4,e⟩:=sk h1
  cases t with
  |val x=>cases e
  |own b c=>cases e;intro z;obtain⟨_,_,_,nb,_⟩:=R.sl j _ h4;exact nb (by rw[z];exact(R.st st h2).1)
  |peek b c=>cases e;exact R.pk j _ _ st h4 h2
theorem xX {J:It}{g:UG}{t:UT}{ue:UE}{k:Nat}{ix:List Nat}{acc:Addr}{xs:ai}{C:cv}{Q:VK}{I:ai->ai->Option ag->Prop}{fin:PV->AS->Prop}(R:Rep K H σ A)(ok:iW K A H J xs C)(fj:H acc=none)
  (aF:xs.length<=1000000)(i0:I [] [] A.S)
  (step:∀ B d x r ys S,xs=d++x::r->I d ys S->g x ⟨B,dg k ix A.ae,S⟩ λA2=>t A2 λb A3=>if b=true then ue A3 λy A4=>Kp k ix A.ae A4/\I (d++[x]) (ys++[y]) A4.S else Kp k ix A.ae A3/\I (d++[x]) ys A3.S)
  (P7:∀ ys S,I xs ys S->fin (.lst ys) { A with S:=S })(q:∀ zs A1 v H0 H1,fin (.lst zs) A1->Rep K H0 σ A1->ay A H A1 H0->eK K (AN A1) H0 H1 (.lst zs) v->Q v H1) :
  oU J (jx K g) (liftT K t) (aB K ue) acc Q (f_ k ix σ) (upd H acc (.lst [])):=by
 let B:Addr->Prop:=λb=>AN A b\/b=acc
 have na:∀ a o,H a=some o->a≠acc:=λa o h=>dG h fj
 refine Pa xs.length (λi aH H'=>∃ ys vs S,I (xs.take i) ys S/\Rep K H' aH ⟨B,dg k ix A.ae,S⟩/\H' acc=some (.lst vs)/\aI K B H' ys vs/\vs.length<=i/\iV A.S H H'/\S.map ag.d=A.S.map ag.d)
  ⟨[],[],A.S,i0,R.inner fj k ix,bE,.nil,ar _,λb o h _=>by rw[a8 (na b o h)];exact h,rfl⟩ ?_ ?_
 ·rintro aH H' ⟨ys,vs,S,hI,R',ha,rs,_,bs,hs⟩;rw[take_length] at hI;refine⟨(ok.cm H' bs).2,?_⟩
  -- the heap without the new list
  have be:iV A.S H (erase H' acc):=λb o h n=>by rw[cH (na b o h)];exact bs b o h n
  have P8:∀ st,S=some st->cF (erase H' acc) st.d st.a st.n st.b/\eJ K (erase H' acc) st.a:=λst h=>by
   obtain⟨_,h1,h2⟩:=R'.st st h;obtain⟨st',e1,e2⟩:=lB hs ⟨st,h,rfl⟩;obtain⟨kvs,hd⟩:=(R.st st' e1).2.1.dk;have nd:st.d≠acc:=by rw[<- e2];exact na _ _ hd
   refine⟨?_,?_⟩
   ·obtain⟨t,l,w,e,r⟩:=h1.ex
    exact⟨⟨t,l,w,by rw[cH nd];exact e,r⟩,λT o z=>⟨by
     rw[cH λy=>by
      have q:=(h1.tb T o z).1;rw[y,ha] at q
      cases q]
     exact(h1.tb T o z).1,(h1.tb T o z).2⟩⟩
   ·exact h2.iS λo u h2=>by
     rw[cH λe=>by rw[e,ha] at h2;cases h2];exact h2
  obtain⟨R3,S3⟩:=iV.Fm R hs P8 be;refine q ys _ _ (erase H' acc) H' (P7 ys S hI) R3 S3 ⟨acc,.lst ys,rfl,rfl,mS _ _,λb o h=>?_,vs,ha,rs.imp ⟨λa vs h=>?_,λa o n h=>?_⟩⟩
  ·by_cases e:b=acc
   ·subst e;rw[mS] at h;cases h
   ·rw[cH e] at h;exact h
  ·rcases h with h|h
   ·refine .inl ?_;rcases h with h|⟨o,h⟩
    ·exact .inl (by rw[cH λe=>by rw[e,ha] at h;cases h];exact h)
    ·exact .inr ⟨o,by rw[cH λe=>by rw[e,ha] at h;cases h];exact h⟩
   ·exact .inr h
  ·refine⟨λz=>n (.inl z),?_⟩;rw[cH λe=>n (.inr e)];exact h
 ·rintro i aH H' hi ⟨ys,vs,S,hI,R',ha,rs,lv,bs,hs⟩;obtain⟨go,fK⟩:=(ok.cm H' bs).1 i xs[i] (cg hi);refine⟨go,λv H3 y=>?_⟩;obtain⟨s,rv⟩:=fK v H3 y;have eT:xs.take (i+1)=xs.take i++[xs[i]]:=by rw[take_add_one,cg hi];rfl
  have R3:=R'.same s;have P9:∀ a,AN ⟨B,dg k ix A.ae,S⟩ a->AN A a\/H a=none:=λa z=>z.elim (λy=>y.imp id λe=>by rw[e];exact fj) λz=>absurd z lG;have ir:RV K (AN ⟨B,dg k ix A.ae,S⟩) H3 xs[i] v:=rv.imp ⟨λ_ _ h=>h,λa o n h=>⟨λz=>n (P9 a z),h⟩⟩
  have Fn:¬ Mt ⟨B,dg k ix A.ae,S⟩ acc:=by
   rintro(z|⟨st,z1,z2⟩)
   ·exact lG z
   ·obtain⟨kvs,e⟩:=(R'.st st z1).2.1.dk;rw[z2,ha] at e;cases e
  have Fo:∀{H6:Hp}{A4:AS},ay ⟨B,dg k ix A.ae,S⟩ H' A4 H6->iV A.S H H6:=λSx b o h n=>Sx.fr b o (bs b o h n) λm=>m.elim lG λz=>n (lB hs z);refine⟨xs[i],⟨B,dg k ix A.ae,S⟩,_,R3,ir,step B (xs.take i) xs[i] (xs.drop (i+1)) ys S (by simp) hI,λA2 cL p2 Ra Sa=>⟨A2,_,Ra,p2,λb A3 H5 p3 Rb Sb=>?_⟩⟩;have Sy:=(ay.same ⟨B,dg k ix A.ae,S⟩ s).trans (Sa.trans Sb)
  cases b with
  |true=>
   refine lq ⟨A3,_,Rb,p3,λy A4 w H6 p4 Rc Sc ry=>?_⟩;obtain⟨⟨kl,kd⟩,xY⟩:=p4;have Sx:=Sy.trans Sc;have sr:H6 acc=some (.lst vs):=Sx.fr acc _ ha Fn;refine⟨vs,sr,Nat.lt_of_le_of_lt lv (dF hi (aP aF (by decide))),ys++[y],vs++[w],A4.S,by rw[eT];exact xY,?_,bE,?_,?_,?_,Sx.sd.trans hs⟩
   ·have Rd:=(Rc.drop kd (by omega)).1;have eB:A4.B=B:=Sx.b;rw[eB] at Rd
    exact Rd.P6 sr (.inr rfl) λj a c h=>by
     obtain⟨i',j',t',_,_,h4,e⟩:=sk h;obtain⟨_,_,q⟩:=R.sl j' _ h4
     have:H a≠none:=by
      cases t' with
      |val x=>cases e
      |own a' c'=>cases e;exact q.2.2.some
      |peek a' c'=>cases e;exact q.2.2.some
     exact λz=>this (by rw[z];exact fj)
   ·have kp:d8 K B B H' (upd H6 acc (.lst (vs++[w]))):=⟨λa us h=>?_,λa o n h=>⟨n,?_⟩⟩;have kq:d8 K (AN A4) B H6 (upd H6 acc (.lst (vs++[w]))):=⟨λa us h=>?_,λa o n h=>⟨λz=>n (.inl (by rw[Sx.b];exact z)),?_⟩⟩
    ·exact(rs.imp kp).app (.cons (ry.imp kq) .nil)
    ·exact xW sr h
    ·rw[a8 λe=>n (by rw[e];exact .inl (by rw[Sx.b];exact .inr rfl))];exact h
    ·exact xW sr (((R'.keep Sx).t) a us h)
    ·have P_:a≠acc:=λe=>n (.inr e);rw[a8 P_];exact Sx.fr a o h λm=>m.elim lG fun⟨st,z1,z2⟩=>n (by rw[<- z2];exact(R'.st st z1).1)
   ·rw[length_append];exact Nat.succ_le_succ lv
   ·intro b o h n;rw[a8 (na b o h)];exact Fo Sx b o h n
  |false=>
   obtain⟨⟨kl,kd⟩,xY⟩:=p3;have P':H5 acc=some (.lst vs):=Sy.fr acc _ ha Fn;have Rd:=(Rb.drop kd (by omega)).1;have eB:A3.B=B:=Sy.b;rw[eB] at Rd;refine lj ⟨ys,vs,A3.S,by rw[eT];exact xY,Rd,P',rs.imp ⟨(R'.keep Sy).t,λa o n h=>⟨n,Sy.fr a o h λm=>m.elim lG fun⟨st,z1,z2⟩=>n (by rw[<- z2];exact(R'.st st z1).1)⟩⟩,Nat.le_succ_of_le lv,Fo Sy,Sy.sd.trans hs⟩
end
section
variable {X:Cx}{K:Frag}{elt tg iter:Expr}{ifs:List Expr}{pos:Pos}{sc:Scope}{cl:List (Str×Addr)}{N:aq}{k:Nat}{ix:List Nat}{g:UG}{t:UT}{ue:UE}{ui:UI}
theorem lH (S:ib X sc cl N k ix)(hc:X.calm=true)(hp:PI X tg iter (jw K ui))(hg:∀ C fp s H,PG (dv X N sc cl C fp s H) tg (jx K g))(hi:∀ C fp s H,ia (dv X N sc cl C fp s H) ifs (liftT K t))(he:∀ C fp s H,PE (dv X N sc cl C fp s H) elt (aB K ue))
  (hs:∀ x,foldedSetIterable iter X.env x=pure x:=by intro _;rfl):PE X (.ListComp elt [⟨tg,iter,ifs,0⟩] sc pos) (c4 K (sj k ix ui g t ue)):=(NN S hc hp hg hi he hs).mono λσ H Q ⟨A,P,R,h,c⟩=>
 ⟨A,_,R,h,λxs C A1 J H1 p R1 S1 ok acc fj=>by
  obtain⟨aF,I,i0,step,fin⟩:=p
  exact xX R1 ok fj aF i0 step fin λr A2 v H0 H2 q R2 S2 f=>c (.lst r) A2 v H0 H2 q R2 (S1.trans S2) f⟩
theorem su {i:Nat}{y:Str}{py cZ:Pos}(hN:X.N.Nodup)(S:ib X sc cl N k ix)(hc:X.calm=true)(hp:PI X tg iter (jw K ui))(hg:∀ C fp s H,PG (dv X N sc cl C fp s H) tg (jx K g))(hi:∀ C fp s H,ia (dv X N sc cl C fp s H) ifs (liftT K t))(he:∀ C fp s H,PE (dv X N sc cl C fp s H) elt (aB K ue))
  (ie:X.N[i]?=some y:=by rfl)(hy:X.env.scope.names.lookup y=some .local:=by rfl)(oW:swapsWith (.ListComp elt [⟨tg,iter,ifs,0⟩] sc pos) (some (.Name y py)) cZ.line X.env=pure true:=by rfl)
  (hs:∀ x,foldedSetIterable iter X.env x=pure x:=by intro _;rfl):PS X (.Assign [.Name y py] (.ListComp elt [⟨tg,iter,ifs,0⟩] sc pos) cZ) (b9 K (xN i (sj k ix ui g t ue))):=(Ce hN ie hy oW S hc hp hg hi he hs).mono λD σ H ⟨A,E,R,h,c⟩=>
 ⟨A,_,R,h,λxs C A1 J H1 p R1 S1 ok acc fj=>by
  obtain⟨aF,I,i0,step,fin⟩:=p
  exact xX (fin:=λr A1=>E.nx (put A1 i (.val r))) R1 ok fj aF i0 step fin λr A2 v H0 H2 q R2 S2 f=>by
   have rv:=(f.EI λ_=>R2.new);have R3:=R2.same f.same
   exact c.nx _ _ H2 q (R3.val rv).1 (S1.trans (S2.trans ((ay.same A2 f.same).trans (R3.val rv).2)))⟩
theorem Qa {i:Nat}{y:Str}{py cZ:Pos}(hN:X.N.Nodup)(S:ib X sc cl N k ix)(hc:X.calm=true)(hp:PI X tg iter (jw K ui))(hg:∀ C fp s H,PG (dv X N sc cl C fp s H) tg (jx K g))(hi:∀ C fp s H,ia (dv X N sc cl C fp s H) ifs (liftT K t))(he:∀ C fp s H,PE (dv X N sc cl C fp s H) elt (aB K ue))
  (ie:X.N[i]?=some y:=by rfl)(hy:X.env.scope.names.lookup y=some .local:=by rfl)(oW:swapsWith (.ListComp elt [⟨tg,iter,ifs,0⟩] sc pos) (some (.Name y py)) cZ.line X.env=pure true:=by rfl)
  (hs:∀ x,foldedSetIterable iter X.env x=pure x:=by intro _;rfl):PS X (.Assign [.Name y py] (.ListComp elt [⟨tg,iter,ifs,0⟩] sc pos) cZ) (b9 K (xO i (sj k ix ui g t ue))):=(Ce hN ie hy oW S hc hp hg hi he hs).mono λD σ H ⟨A,E,R,h,c⟩=>
 ⟨A,_,R,h,λxs C A1 J H1 p R1 S1 ok acc fj=>by
  obtain⟨aF,I,i0,step,fin⟩:=p
  exact xX (fin:=λr A2=>∃ c:OC,r=c.pv/\∀ p,E.nx (put A2 i (.own p c))) R1 ok fj aF i0 step fin λr A2 v H0 H2 q R2 S2 f=>by
   obtain⟨c',e',q⟩:=q;rw[e'] at f;obtain⟨p',rfl,R3,S3⟩:=R2.fresh (i:=i) f
   exact c.nx _ _ H2 (q p') R3 (S1.trans (S2.trans S3))⟩
theorem kn:ia X [] (liftT K kh):=λpins s σ H Q I h=>Ni pins s σ H Q I (by
 obtain⟨A,P,R,h,c⟩:=h
 exact c true A H h R (ay.refl A H))
theorem sv {c:Expr}(h:PT X c (liftT K t)):ia X [c] (liftT K t):=Nj h
end
section
variable {k:Nat}{ix:List Nat}{g:UG}{t:UT}{ue:UE}{xs:ai}{A1:AS}{Q:PV->AS->Prop}
end
noncomputable abbrev Rel:=ai->PV->Prop
noncomputable abbrev Tr:=ai->ag->(PV->ag->Prop)->Prop
noncomputable def Qb (fr:Bool)(K:Frag)(B:Addr->Prop)(H:Hp)(r:PV)(v:V)(H':Hp):Prop:=if fr=true then ∃ H0,aS H H0/\eK K B H0 H' r v else aS H H'/\RV K B H' r v
noncomputable def aY (K:Frag)(fr:Bool)(G:Rel):Sp:=λvs H Q _=>∃ B xs r,(∀ a,B a->H a≠none)/\aI K B H xs vs/\G xs r/\∀ v H',Qb fr K B H r v H'->Q v H'
noncomputable def Qc (fr:Bool)(K:Frag)(B:Addr->Prop)(d:Addr)(H:Hp)(r:PV)(v:V)(H':Hp)(st:ag):Prop:=if fr=true then ∃ H0,cB d H H0/\cF H0 st.d st.a st.n st.b/\eJ K H0 st.a/\eK K B H0 H' r v else cB d H H'/\RV K B H' r v
noncomputable def spS (K:Frag)(fr:Bool)(T:Tr):Sp:=λvs H Q _=>∃ B xs st P,(∀ a,B a->H a≠none)/\B st.d/\cF H st.d st.a st.n st.b/\eJ K H st.a/\aI K B H xs vs/\T xs st P /\
 ∀ r st' v H',P r st'->st'.d=st.d->cF H' st'.d st'.a st'.n st'.b->eJ K H' st'.a->Qc fr K B st.d H r v H' st'->Q v H'
noncomputable def entry (B:Addr->Prop)(N:aq)(xs:ai)(S:Option ag):AS:=⟨B,xs.map (λx=>some (Sl.val x))++replicate (N.length-xs.length) none,S⟩
noncomputable def cW (fr:Bool)(r:PV):gH:=⟨λ_=>fr=false/\r=.non,λr' _=>fr=false/\r'=r,λr' _=>fr=true/\r'=r,λ_=>False,λ_=>False⟩
noncomputable def dN (fr:Bool)(P:PV->ag->Prop):gH:=⟨λA=>fr=false/\∃ st,A.S=some st/\P .non st,λr A=>fr=false/\∃ st,A.S=some st/\P r st,λr A=>fr=true/\∃ st,A.S=some st/\P r st,λ_=>False,λ_=>False⟩
section
variable {K:Frag}{H H1:Hp}{B:Addr->Prop}
theorem eK.weak {N N':Addr->Prop}{H0 H1:Hp}{r:PV}{v:V}(f:eK K N H0 H1 r v)(h:∀ a,N' a->N a):eK K N' H0 H1 r v:=by
 obtain⟨p,c,e1,e2,hp,s,hc⟩:=f;have kp:d8 K N N' H0 H0:=⟨λ_ _ h=>h,λa o n e=>⟨λz=>n (h a z),e⟩⟩;refine⟨p,c,e1,e2,hp,s,?_⟩
 cases c with
 |lst xs=>obtain⟨vs,h1,h2⟩:=hc;exact⟨vs,h1,h2.imp kp⟩
 |ah xs=>obtain⟨vs,h1,h2⟩:=hc;exact⟨vs,h1,h2.imp kp⟩
 |ins _ _ _=>exact hc.elim
 |cP _=>exact hc.elim
theorem RV.weak {N N':Addr->Prop}{r:PV}{v:V}(f:RV K N H r v)(h:∀ a,N' a->N a):RV K N' H r v:=f.imp ⟨λ_ _ h=>h,λa o n e=>⟨λz=>n (h a z),e⟩⟩
theorem Rep.Fp {σ:St}{A:AS}{i:Nat}{a:Addr}{c:OC}(R:Rep K H σ A)(hi:A.ae[i]?=some (some (.own a c)))(lI:c.Ld):eK K A.B (erase H a) H c.pv (.ref a):=by
 obtain⟨v,_,rfl,nb,oc⟩:=R.sl i _ hi
 have hs:aS (erase H a) H:=λb o h=>by
  by_cases e:b=a
  ·rw[e,mS] at h;cases h
  ·rw[cH e] at h;exact h
 have kp:d8 K (AN A) A.B H (erase H a):=by
  refine⟨λb vs h=>?_,λb o n h=>⟨λz=>n (.inl z),by rw[cH λe=>n (by rw[e];exact .inr ⟨i,c,hi⟩)];exact h⟩⟩;rcases h with h|h
  ·have nb:b≠a:=λe=>by
    rw[e] at h;rcases R.ju ⟨i,c,hi⟩ with ⟨z,q⟩|⟨z,q⟩|⟨_,_,z,q⟩|⟨z,q⟩<;>(rcases h with h|⟨o,h⟩<;>(rw[q] at h;cases h))
   exact .inl (h.imp (λz=>by rw[cH nb];exact z) fun⟨o,z⟩=>⟨o,by rw[cH nb];exact z⟩)
  ·exact .inr h
 refine⟨a,c,rfl,rfl,mS _ _,hs,?_⟩
 cases c with
 |lst xs=>obtain⟨vs,h1,h2⟩:=oc;exact⟨vs,h1,h2.imp kp⟩
 |ah xs=>obtain⟨vs,h1,h2⟩:=oc;exact⟨vs,h1,h2.imp kp⟩
 |ins _ _ _=>exact lI.elim
 |cP _=>exact lI.elim
theorem mT {N:aq}{xs:ai}{S:Option ag}{a:Addr}:¬ Own (entry B N xs S).ae a:=by
 rintro⟨i,c,h⟩;have h':(xs.map (λx=>some (Sl.val x))++replicate (N.length-xs.length) none)[i]?=some (some (.own a c)):=h;by_cases hi:i<xs.length
 ·rw[getElem?_append_left (by simpa using hi),getElem?_map] at h';obtain⟨x,_,e⟩:=Option.map_eq_some_iff.mp h';cases e
 ·rw[getElem?_append_right (by simpa using (Nat.le_of_not_lt hi)),getElem?_replicate] at h'
  split at h'<;>cases h'
theorem Fq {N:aq}{xs:ai}{vs:Zv}{S:Option ag}(df:∀ a,B a->H a≠none)(r:aI K B H xs vs)(hl:xs.length<=N.length)(hS:∀ st,S=some st->B st.d/\cF H st.d st.a st.n st.b/\eJ K H st.a):Rep K H (start N vs) (entry B N xs S):=by
 have an:∀ a,AN (entry B N xs S) a->B a:=λa h=>h.elim id λz=>absurd z mT;have ll:=r.len;refine⟨?_,λi s h=>?_,df,λi j a c c' h _=>absurd ⟨i,c,h⟩ mT,hS,λi a c st h _=>?_⟩
 ·show(start N vs).length=(xs.map (λx=>some (Sl.val x))++replicate (N.length-xs.length) none).length;unfold start;rw[length_append,length_append,length_map,length_map,length_replicate,length_replicate,ll]
 ·have h':(xs.map (λx=>some (Sl.val x))++replicate (N.length-xs.length) none)[i]?=some (some s):=h;by_cases hi:i<xs.length
  ·rw[getElem?_append_left (by simpa using hi),getElem?_map] at h';obtain⟨x,hx,e⟩:=Option.map_eq_some_iff.mp h';cases e;obtain⟨v,hv,rv⟩:=r.at hx;refine⟨v,?_,rv.weak an⟩;unfold start;rw[getElem?_append_left (by rw[length_map];omega),getElem?_map,hv];rfl
  ·rw[getElem?_append_right (by simpa using (Nat.le_of_not_lt hi)),getElem?_replicate] at h'
   split at h'<;>cases h'
 ·have h':(xs.map (λx=>some (Sl.val x))++replicate (N.length-xs.length) none)[i]?=some (some (.peek a c)):=h;by_cases hi:i<xs.length
  ·rw[getElem?_append_left (by simpa using hi),getElem?_map] at h';obtain⟨x,_,e⟩:=Option.map_eq_some_iff.mp h';cases e
  ·rw[getElem?_append_right (by simpa using (Nat.le_of_not_lt hi)),getElem?_replicate] at h'
   split at h'<;>cases h'
theorem sy {A A1:AS}(e:A1.B=A.B):∀ a,A.B a->AN A1 a:=λa h=>.inl (by rw[e];exact h)
end
section
variable {P:Program}{w:World}{K:Frag}{mg:a0}{base:Heap}
theorem fD.dO {x qual:Str}{st:Stmt}{f:Addr}{fd:FuncData}{N ps:aq}{k:Nat}{fr:Bool}{G:Rel}(F:fD K x qual st f fd)(S:bx N ps (aX st))(len:∀ xs r,G xs r->xs.length=ps.length)(lN:ps.length<=N.length)
  (hJ:∀(aE:Value)(A:Around)(outer:List Env)(s:Shared)(H:Hp)(E:XK),bP k (A.deeper (envOfC qual (aX st) s.heap.objs.size f aE)) ->
   ∃ u,cx (iM du P w K mg base N qual (aX st) f aE A outer s H E).jO (fB st) (b9 K u)/\∀ B xs r,G xs r->u (cW fr r) (entry B N xs none)):cU P w K mg base du (k+1) f fd ps (aY K fr G):=by
 refine F.ok S (λvs H Q E h=>?_) λaE A outer s H vs Q E hr h=>?_
 ·obtain⟨B,xs,r,_,rv,g,_⟩:=h;rw[<- rv.len];exact len xs r g
 obtain⟨B,xs,r,df,rv,g,fin⟩:=h;obtain⟨u,hu,q⟩:=hJ aE A outer s H E hr;have R0:=Fq (K:=K) (S:=none) (N:=N) df rv (by rw[len xs r g];exact lN) λst h=>by cases h
 have same:∀{A1:AS}{H1:Hp},ay (entry B N xs none) H A1 H1->aS H H1:=λS1 b o h=>S1.fr b o h λm=>m.elim mT fun⟨st,z,_⟩=>by cases z
 refine⟨_,hu,entry B N xs none,cW fr r,R0,q B xs r g,?_,?_,?_,?_,?_,?_⟩
 ·rintro A1 bw H1 ⟨rfl,rfl⟩ R1 S1;exact fin _ _ ⟨same S1,.non⟩
 ·rintro r' A1 bw v H1 ⟨rfl,rfl⟩ R1 S1 ir;exact fin _ _ ⟨same S1,ir.weak (sy S1.b)⟩
 ·rintro r' A1 bw v H0 H1 ⟨rfl,rfl⟩ R1 S1 f;exact fin _ _ ⟨H0,same S1,f.weak (sy S1.b)⟩
 ·rintro i a c A1 bw H1 hi lI e R1 S1;obtain⟨rfl,e'⟩:=e;subst e';have f:=R1.Fp hi lI
  have sm:aS H (erase H1 a):=λb o h=>by
   have nb:b≠a:=λz=>by
    rcases S1.ow a ⟨i,c,hi⟩ with y|y
    ·exact mT y
    ·rw[z,y] at h;cases h
   rw[cH nb];exact same S1 b o h
  have hB:∀ a,B a->A1.B a:=λa h=>by rw[S1.b];exact h
  exact fin _ _ ⟨_,sm,f.weak hB⟩
 ·rintro A1 bw H1 h;exact h.elim
 ·rintro A1 bw H1 h;exact h.elim
theorem fD.eL {x qual:Str}{st:Stmt}{f:Addr}{fd:FuncData}{N ps:aq}{k:Nat}{fr:Bool}{T:Tr}(F:fD K x qual st f fd)(S:bx N ps (aX st))(len:∀ xs st P,T xs st P->xs.length=ps.length)(lN:ps.length<=N.length)
  (hJ:∀(aE:Value)(A:Around)(outer:List Env)(s:Shared)(H:Hp)(E:XK),bP k (A.deeper (envOfC qual (aX st) s.heap.objs.size f aE)) ->
   ∃ u,cx (iM du P w K mg base N qual (aX st) f aE A outer s H E).jO (fB st) (b9 K u)/\∀ B xs st P,T xs st P->u (dN fr P) (entry B N xs (some st))):cU P w K mg base du (k+1) f fd ps (spS K fr T):=by
 refine F.ok S (λvs H Q E h=>?_) λaE A outer s H vs Q E hr h=>?_
 ·obtain⟨B,xs,st,P,_,_,_,_,rv,g,_⟩:=h;rw[<- rv.len];exact len xs st P g
 obtain⟨B,xs,st,P,df,hd,h1,h2,rv,g,fin⟩:=h;obtain⟨u,hu,q⟩:=hJ aE A outer s H E hr;have R0:=Fq (K:=K) (S:=some st) (N:=N) df rv (by rw[len xs st P g];exact lN) λst' h=>by cases h;exact⟨hd,h1,h2⟩
 have same:∀{A1:AS}{H1:Hp},ay (entry B N xs (some st)) H A1 H1->cB st.d H H1:=λS1 b o h n=>S1.fr b o h λm=>m.elim mT fun⟨st',z,e⟩=>n (by cases z;exact e.symm)
 have sD:∀{A1:AS}{H1:Hp}{st':ag},ay (entry B N xs (some st)) H A1 H1->A1.S=some st'->st'.d=st.d:=λS1 e=>by
  have:=S1.sd;rw[e] at this;exact Option.some.inj this
 refine⟨_,hu,entry B N xs (some st),dN fr P,R0,q B xs st P g,?_,?_,?_,?_,?_,?_⟩
 ·rintro A1 bw H1 ⟨rfl,st',e,p⟩ R1 S1;exact fin _ st' _ _ p (sD S1 e) (R1.st st' e).2.1 (R1.st st' e).2.2 ⟨same S1,.non⟩
 ·rintro r' A1 bw v H1 ⟨rfl,st',e,p⟩ R1 S1 ir;exact fin _ st' _ _ p (sD S1 e) (R1.st st' e).2.1 (R1.st st' e).2.2 ⟨same S1,ir.weak (sy S1.b)⟩
 ·rintro r' A1 bw v H0 H1 ⟨rfl,st',e,p⟩ R1 S1 f;have R2:=R1.same f.same;exact fin _ st' _ _ p (sD S1 e) (R2.st st' e).2.1 (R2.st st' e).2.2 ⟨H0,same S1,(R1.st st' e).2.1,(R1.st st' e).2.2,f.weak (sy S1.b)⟩
 ·rintro i a c A1 bw H1 hi lI ⟨rfl,st',e,p⟩ R1 S1;have f:=R1.Fp hi lI;have e':A1.S=some st':=e;have Qd:H a=none:=(S1.ow a ⟨i,c,hi⟩).elim (λy=>absurd y mT) id
  have sm:cB st.d H (erase H1 a):=λb o h n=>by
   rw[cH λz=>by rw[z,Qd] at h;cases h];exact same S1 b o h n
  have hB:∀ a,B a->A1.B a:=λa h=>by rw[S1.b];exact h
  refine fin _ st' _ _ p (sD S1 e') (R1.st st' e').2.1 (R1.st st' e').2.2 ?_;obtain⟨b1,h1,hF⟩:=R1.st st' e';have Qe:st'.d≠a:=λz=>(R1.sl i _ hi).choose_spec.2.2.1 (by rw[<- z];exact b1);obtain⟨t,l',w,e2,r⟩:=h1.ex
  refine⟨_,sm,⟨⟨t,l',w,by rw[cH Qe];exact e2,r⟩,λT o z=>⟨by
   rw[cH λy=>by
    have q:=(h1.tb T o z).1;rw[y] at q
    rcases R1.ju ⟨i,c,hi⟩ with ⟨y,q2⟩|⟨y,q2⟩|⟨_,_,y,q2⟩|⟨y,q2⟩<;>(rw[q2] at q;cases q)]
   exact(h1.tb T o z).1,(h1.tb T o z).2⟩⟩,hF.iS λo u h2=>?_,f.weak hB⟩
  rw[cH λz=>by
   rw[z] at h2
   rcases R1.ju ⟨i,c,hi⟩ with ⟨y,q⟩|⟨y,q⟩|⟨_,_,y,q⟩|⟨y,q⟩<;>(rw[q] at h2;cases h2)]
  exact h2
 ·rintro A1 bw H1 h;exact h.elim
 ·rintro A1 bw H1 h;exact h.elim
structure Kn (P:Program)(w:World)(K:Frag)(mg:a0)(base:Heap)(k:Nat)(x:Str)(sp:Sp):Prop where
 ex:∃ f fd ps,cU P w K mg base du k f fd ps sp/\Binds K fd ps []/\PySem.W.keepIn K (.ref f)=true/\mg x=some (.ref f)
end
noncomputable def xZ (G:Rel)(ua:UA):UE:=λA Q=>ua A λxs A1=>∃ r,G xs r/\Q r A1
noncomputable def Fs (T:Tr)(ua:UA):UE:=λA Q=>ua A λxs A1=>∃ st,A1.S=some st/\T xs st λr st'=>Q r { A1 with S:=some st' }
section
variable {X:Cx}{K:Frag}{k:Nat}{x:Str}{p pos:Pos}{e:Expr}{es:List Expr}{ua:UA}{G:Rel}{T:Tr}{fr:Bool}
theorem Rep.x_ {H:Hp}{σ:St}{A:AS}(R:Rep K H σ A):∀ a,AN A a->H a≠none:=λa h hn=>R.new hn h
theorem bI (hK:X.K=K)(F:Kn X.prog X.w X.K X.mg X.base k x (aY K false G))(hr:bP k X.A)(ha:PA X (e::es) (ka K ua))(hg:Gl X x:=by rfl)(g_:(x==("__debug__":Str))=false:=by decide)(he:starEach (e::es) X.env=(false,eval e X.env)::starEach es X.env:=by rfl)(hpl:(backTo pos (starEach es X.env)).any (·.1)=false:=by rfl) :
  PE X (.Call (.Name x p) (e::es) [] pos) (aB K (xZ G ua)):=by
 obtain⟨f,fd,ps,F1,b,kp,hm⟩:=F.ex;refine(k7 F1 hr hg hm kp b .nil lh ha g_ he hpl).mono λσ H Q ⟨A,P,R,h,c⟩=>⟨A,_,R,h,λxs A1 vs H1 p R1 S1 rs=>?_⟩;obtain⟨r,g,p⟩:=p;rw[append_nil];refine⟨AN A1,xs,r,R1.x_,rs,g,λv H' q=>?_⟩;have q':aS H1 H'/\RV K (AN A1) H' r v:=q;exact c r A1 v H' p (R1.same q'.1) (S1.trans (ay.same A1 q'.1)) q'.2
theorem jA (hK:X.K=K)(F:Kn X.prog X.w X.K X.mg X.base k x (aY K true G))(hr:bP k X.A)(ha:PA X (e::es) (ka K ua))(hg:Gl X x:=by rfl)(g_:(x==("__debug__":Str))=false:=by decide)(he:starEach (e::es) X.env=(false,eval e X.env)::starEach es X.env:=by rfl)(hpl:(backTo pos (starEach es X.env)).any (·.1)=false:=by rfl) :
  PE X (.Call (.Name x p) (e::es) [] pos) (c4 K (xZ G ua)):=by
 obtain⟨f,fd,ps,F1,b,kp,hm⟩:=F.ex;refine(k7 F1 hr hg hm kp b .nil lh ha g_ he hpl).mono λσ H Q ⟨A,P,R,h,c⟩=>⟨A,_,R,h,λxs A1 vs H1 p R1 S1 rs=>?_⟩;obtain⟨r,g,p⟩:=p;rw[append_nil];refine⟨AN A1,xs,r,R1.x_,rs,g,λv H' q=>?_⟩;obtain⟨H0,s,f⟩:=q;exact c r A1 v H0 H' p (R1.same s) (S1.trans (ay.same A1 s)) f
theorem Ft {H H':Hp}{σ:St}{A:AS}(R:Rep K H σ A){st st':ag}(hS:A.S=some st)(b:cB st.d H H')(hd:st'.d=st.d)(h1:cF H' st'.d st'.a st'.n st'.b)(h2:eJ K H' st'.a):Rep K H' σ { A with S:=some st' }/\ay A H { A with S:=some st' } H':=
 iV.Fm R (by rw[hS];simp [hd]) (λcX e=>by cases e;exact⟨h1,h2⟩) λc o h n=>b c o h λe=>n ⟨st,hS,e.symm⟩
theorem aK (hK:X.K=K)(F:Kn X.prog X.w X.K X.mg X.base k x (spS K false T))(hr:bP k X.A)(ha:PA X (e::es) (ka K ua))(hg:Gl X x:=by rfl)(g_:(x==("__debug__":Str))=false:=by decide)(he:starEach (e::es) X.env=(false,eval e X.env)::starEach es X.env:=by rfl)(hpl:(backTo pos (starEach es X.env)).any (·.1)=false:=by rfl) :
  PE X (.Call (.Name x p) (e::es) [] pos) (aB K (Fs T ua)):=by
 obtain⟨f,fd,ps,F1,b,kp,hm⟩:=F.ex;refine(k7 F1 hr hg hm kp b .nil lh ha g_ he hpl).mono λσ H Q ⟨A,P,R,h,c⟩=>⟨A,_,R,h,λxs A1 vs H1 p R1 S1 rs=>?_⟩;obtain⟨st,hS,p⟩:=p;rw[append_nil];obtain⟨s1,s2,s3⟩:=R1.st st hS;refine⟨AN A1,xs,st,_,R1.x_,.inl s1,s2,s3,rs,p,λr st' v H' q hd h1 h2 po=>?_⟩;have q':cB st.d H1 H'/\RV K (AN A1) H' r v:=po;obtain⟨R2,S2⟩:=Ft R1 hS q'.1 hd h1 h2;exact c r _ v H' q R2 (S1.trans S2) q'.2
end
theorem mU {n:Nat}(h:n<=100000):n<=sizeLine:=aP h (by decide)
noncomputable def mV:G2
 |.int i,.int j,z=>z=.int (i+j)
 |.str a,.str b,z=>a.length+b.length<=100000/\z=.str (a++b)
 |.tup xs,.tup ys,z=>xs.length+ys.length<=100000/\z=.tup (xs++ys)
 |.lst xs,.lst ys,z=>xs.length+ys.length<=100000/\z=.lst (xs++ys)
 |_,_,_=>False
noncomputable def yb:G2
 |.lst xs,.lst ys,z=>xs.length+ys.length<=100000/\z=.lst (xs++ys)
 |_,_,_=>False
noncomputable def Qf:R2:=λx y H Q=>∃ i j,x=.str i/\y=.str j/\i.length+j.length<=sizeLine/\Q (.str (i++j)) H
noncomputable def Fu (K:Frag):R2:=λx y H Q=>(gx λi j=>.int (i+j)) x y H Q\/Qf x y H Q\/EB K x y H Q\/vO x y H Q
section
variable {X:Cx}{K:Frag}
theorem Qg (hK:X.K=K):bz X (binaryOp .Add) (Fu K):=by
 subst hK;exact jU.or (LH.or (Pq.or BY))
theorem Fv:xJ K vO yb:=by
 intro H A σ x y v w z Q R q1 q2 g c;cases x<;>cases y<;>try exact g.elim
 rename_i xs ys;obtain⟨aF,rfl⟩:=g;obtain⟨a,vs,rfl,h1,r1⟩:=q1.lst R;obtain⟨b,ws,rfl,h2,r2⟩:=q2.lst R;refine⟨a,b,vs,ws,rfl,rfl,h1,h2,mU (by rw[<- r1.len,<- r2.len];exact aF),λp hp=>c _ _ ⟨p,.lst _,rfl,rfl,hp,dM hp _,_,bE,r1.app r2⟩⟩
theorem Qh:dz K (Fu K) mV:=by
 intro H A σ x y v w z Q R q1 q2 g c;cases x<;>cases y<;>try exact g.elim
 ·cases q1.int;cases q2.int;cases g;exact .inl ⟨_,_,rfl,rfl,c _ H (aS.refl H) (.int _)⟩
 ·cases q1.str;cases q2.str;obtain⟨aF,rfl⟩:=g;exact .inr (.inl ⟨_,_,rfl,rfl,mU aF,c _ H (aS.refl H) (.str _)⟩)
 ·rename_i xs ys;obtain⟨aF,rfl⟩:=g;obtain⟨a,vs,rfl,h1,r1⟩:=q1.tup;obtain⟨b,ws,rfl,h2,r2⟩:=q2.tup;refine .inr (.inr (.inl ⟨a,b,vs,ws,rfl,rfl,h1,h2,mU (by rw[<- r1.len,<- r2.len];exact aF),λe=>?_,λ_ e=>?_,λ_ _ p hp=>?_⟩))
  ·subst e;cases r1;exact c _ H (aS.refl H) (.tup h2 r2)
  ·subst e;cases r2;rw[append_nil] at c;exact c _ H (aS.refl H) (.tup h1 r1)
  ·have s:=dM hp (.tup (vs++ws));exact c _ _ s (.tup (bt.of bE) ((r1.app r2).imp (iT s)))
 ·rename_i xs ys;obtain⟨aF,rfl⟩:=id g;exact .inr (.inr (.inr (Fv H A σ _ _ v w _ Q R q1 q2 g λv' H' f=>c v' H' f.same (f.EI λ_=>R.new))))
noncomputable def gI (C:Int->Int->Prop)(f:Int->Int->PV):G2
 |.int i,.int j,z=>C i j/\z=f i j
 |_,_,_=>False
theorem sE {C:Int->Int->Prop}{f:Int->Int->V}{g:Int->Int->PV}(h:∀ N H i j,RV K N H (g i j) (f i j)):dz K (rI C f) (gI C g):=by
 intro H A σ x y v w z Q R q1 q2 g c;cases x<;>cases y<;>try exact g.elim
 obtain⟨hc,rfl⟩:=g;cases q1.int;cases q2.int;exact⟨_,_,rfl,rfl,hc,c _ H (aS.refl H) (h _ _ _ _)⟩
noncomputable def ko (f:Int->Int->PV):G2
 |.int i,.int j,z=>z=f i j
 |_,_,_=>False
theorem sF {f:Int->Int->V}{g:Int->Int->PV}(h:∀ N H i j,RV K N H (g i j) (f i j)):dz K (gx f) (ko g):=by
 intro H A σ x y v w z Q R q1 q2 g c;cases x<;>cases y<;>try exact g.elim
 cases g;cases q1.int;cases q2.int;exact⟨_,_,rfl,rfl,c _ H (aS.refl H) (h _ _ _ _)⟩
end
section
variable {X:Cx}{K:Frag}{a b:Expr}{ua ub:UE}{pos:Pos}
theorem bT (hK:X.K=K)(ha:PE X a (az K ua))(hb:PE X b (az K ub)):PE X (.BinOp a .Add b pos) (aB K (u2 mV ua ub)):=mQ (Qg hK) Qh ha hb
theorem mW (ha:PE X a (az K ua))(hb:PE X b (az K ub)):PE X (.BinOp a .Add b pos) (c4 K (u2 yb ua ub)):=EN BY Fv ha hb
theorem eV (ha:PE X a (az K ua))(hb:PE X b (az K ub)):PE X (.BinOp a .Sub b pos) (aB K (u2 (ko λi j=>.int (i-j)) ua ub)):=mQ Li (sF λ_ _ _ _=>.int _) ha hb
theorem sG (ha:PE X a (az K ua))(hb:PE X b (az K ub)):PE X (.BinOp a .Mult b pos) (aB K (u2 (gI oB λi j=>.int (i*j)) ua ub)):=mQ kY (sE λ_ _ _ _=>.int _) ha hb
theorem Qi (ha:PE X a (az K ua))(hb:PE X b (az K ub)):PE X (.BinOp a .FloorDiv b pos) (aB K (u2 (gI (λ_ j=>0<j/\j<2 ^ 200) λi j=>.int (i / j)) ua ub)):=mQ vT (sE λ_ _ _ _=>.int _) ha hb
theorem yc (ha:PE X a (az K ua))(hb:PE X b (az K ub)):PE X (.BinOp a .Mod b pos) (aB K (u2 (gI (λ_ j=>0<j) λi j=>.int (i % j)) ua ub)):=mQ jV (sE λ_ _ _ _=>.int _) ha hb
end
mutual
noncomputable def bO:PV->PV->Bool
 |.non,.non=>true
 |.bl a,.bl b=>a==b
 |.bl a,.int b=>(if a then 1 else 0)==b
 |.int a,.bl b=>a==(if b then 1 else 0)
 |.int a,.int b=>a==b
 |.str a,.str b=>a==b
 |.tup xs,.tup ys=>c5 xs ys
 |.lst xs,.lst ys=>c5 xs ys
 |_,_=>false
noncomputable def c5:ai->ai->Bool
 |[],[]=>true
 |x::xs,y::ys=>bO x y&&c5 xs ys
 |_,_=>false
end
mutual
noncomputable def mY:PV->Option Nat
 |.tup xs=>(iu xs).map (·+1)
 |.lst xs=>(iu xs).map (·+1)
 |.raw _=>none
 |.ah _=>none
 |_=>some 0
noncomputable def iu:ai->Option Nat
 |[]=>some 0
 |x::xs=>match mY x,iu xs with
  |some m,some n=>some (max m n)
  |_,_=>none
end
noncomputable def Dp (n:Nat)(x:PV):Prop:=∃ m,mY x=some m/\m<=n
theorem Qj {n:Nat}{x:PV}{xs:ai}:(∃ m,iu (x::xs)=some m/\m<=n)↔Dp n x/\∃ m,iu xs=some m/\m<=n:=by
 constructor
 ·rintro⟨m,e,h⟩;unfold iu at e
  split at e
  ·rename_i a b e1 e2;cases e;exact⟨⟨a,e1,by omega⟩,b,e2,by omega⟩
  ·cases e
 ·rintro⟨⟨a,e1,h1⟩,b,e2,h2⟩;refine⟨max a b,?_,by omega⟩;unfold iu;rw[e1,e2]
theorem iw {n:Nat}{xs:ai}:Dp (n+1) (.tup xs)↔∃ m,iu xs=some m/\m<=n:=by
 unfold Dp mY;constructor
 ·rintro⟨m,e,h⟩;obtain⟨k,hk,rfl⟩:=Option.map_eq_some_iff.mp e;exact⟨k,hk,by omega⟩
 ·rintro⟨m,e,h⟩;exact⟨m+1,by rw[e];rfl,by omega⟩
theorem jB {n:Nat}{xs:ai}:Dp (n+1) (.lst xs)↔∃ m,iu xs=some m/\m<=n:=by
 unfold Dp mY;constructor
 ·rintro⟨m,e,h⟩;obtain⟨k,hk,rfl⟩:=Option.map_eq_some_iff.mp e;exact⟨k,hk,by omega⟩
 ·rintro⟨m,e,h⟩;exact⟨m+1,by rw[e];rfl,by omega⟩
theorem kr {xs:ai}:¬ Dp 0 (.tup xs):=by
 rintro⟨m,e,h⟩;unfold mY at e;obtain⟨k,hk,rfl⟩:=Option.map_eq_some_iff.mp e;omega
theorem mZ {xs:ai}:¬ Dp 0 (.lst xs):=by
 rintro⟨m,e,h⟩;unfold mY at e;obtain⟨k,hk,rfl⟩:=Option.map_eq_some_iff.mp e;omega
theorem dP {n:Nat}:∀{xs:ai},(∃ m,iu xs=some m/\m<=n)↔∀ x∈xs,Dp n x
 |[]=>by simp [iu]
 |x::xs=>by
  rw[Qj,dP];simp
mutual
theorem Fw:∀(n:Nat)(x:PV),Dp n x->bO x x=true
 |_,.non,_=>rfl
 |_,.bl b,_=>by simp [bO]
 |_,.int b,_=>by simp [bO]
 |_,.str b,_=>by simp [bO]
 |0,.tup xs,h=>absurd h kr
 |0,.lst xs,h=>absurd h mZ
 |n+1,.tup xs,h=>by
  show c5 xs xs=true;exact yd n xs (dP.mp (iw.mp h))
 |n+1,.lst xs,h=>by
  show c5 xs xs=true;exact yd n xs (dP.mp (jB.mp h))
 |_,.raw v,⟨m,e,_⟩=>by cases e
 |_,.ah v,⟨m,e,_⟩=>by cases e
theorem yd:∀(n:Nat)(xs:ai),(∀ x∈xs,Dp n x)->c5 xs xs=true
 |_,[],_=>rfl
 |n,x::xs,h=>by
  show(bO x x&&c5 xs xs)=true;rw[Fw n x (h x (by simp)),yd n xs λy hy=>h y (by simp [hy])];rfl
end
noncomputable def ej (xs ys:ai)(j:Nat):Bool:=match xs[j]?,ys[j]? with
 |some x,some y=>bO x y
 |_,_=>false
theorem ye:∀(xs ys:ai),c5 xs ys=((range (min xs.length ys.length)).all (ej xs ys)&&xs.length==ys.length)
 |[],[]=>by simp [c5]
 |[],y::ys=>by simp [c5]
 |x::xs,[]=>by simp [c5]
 |x::xs,y::ys=>by
  have ih:=ye xs ys;have e1:min (x::xs).length (y::ys).length=min xs.length ys.length+1:=by simp only[length_cons];omega
  have e2:((x::xs).length==(y::ys).length)=(xs.length==ys.length):=by simp
  have e3:ej (x::xs) (y::ys) 0=bO x y:=rfl;have e4:(ej (x::xs) (y::ys))∘Nat.succ=ej xs ys:=by funext j;simp [ej]
  rw[e1,e2,range_succ_eq_map,all_cons,all_map,e3,e4];show(bO x y&&c5 xs ys)=_;rw[ih,Bool.and_assoc]
section
variable {X:Cx}{pins:aO}{σ:St}{H:Hp}{s:Shared}{N:Addr->Prop}
theorem Fx (I:Inv X pins σ H s){a:Addr}{vs ws:Zv}(h1:bt X.K H a vs)(h2:H a=some (.lst ws)):False:=by
 obtain⟨its,_,p,_⟩:=I.tuple h1;obtain⟨its',_,q,_⟩:=I.list (aN.of (K:=X.K) h2);obtain⟨o,e1,c1,_⟩:=p;obtain⟨o',n,e2,c2,_⟩:=q;rw[e1] at e2;cases e2;rw[c1] at c2;injection c2 with c2
 exact absurd c2 (by decide)
mutual
theorem sH (I:Inv X pins σ H s):∀(n:Nat)(x y:PV)(v:V),Dp n x->Dp n y->RV X.K N H x v->RV X.K N H y v->bO x y=true
 |n,.non,y,v,_,hy,r1,r2=>by cases r1;cases r2<;>first|(obtain⟨m,e,_⟩:=hy;cases e;done)|rfl|simp [bO]
 |n,.bl b,y,v,_,hy,r1,r2=>by cases r1;cases r2<;>first|(obtain⟨m,e,_⟩:=hy;cases e;done)|rfl|simp [bO]
 |n,.int b,y,v,_,hy,r1,r2=>by cases r1;cases r2<;>first|(obtain⟨m,e,_⟩:=hy;cases e;done)|rfl|simp [bO]
 |n,.str b,y,v,_,hy,r1,r2=>by cases r1;cases r2<;>first|(obtain⟨m,e,_⟩:=hy;cases e;done)|rfl|simp [bO]
 |0,.tup xs,y,v,h,_,_,_=>absurd h kr
 |0,.lst xs,y,v,h,_,_,_=>absurd h mZ
 |n+1,.tup xs,y,v,hx,hy,r1,r2=>by
  cases r1 with
  |tup h1 h2=>
   cases r2 with
   |raw=>obtain⟨m,e,_⟩:=hy;cases e
   |tup g1 g2=>
    have e:=I.vd h1 g1;subst e;exact yf I n _ _ _ (dP.mp (iw.mp hx)) (dP.mp (iw.mp hy)) h2 g2
   |lst _ g1 g2=>exact(Fx I h1 g1).elim
   |ah _ _ _=>obtain⟨m,e,_⟩:=hy;cases e
 |n+1,.lst xs,y,v,hx,hy,r1,r2=>by
  cases r1 with
  |lst _ h1 h2=>
   cases r2 with
   |raw=>obtain⟨m,e,_⟩:=hy;cases e
   |tup g1 g2=>exact(Fx I g1 h1).elim
   |lst _ g1 g2=>
    rw[h1] at g1;cases g1;exact yf I n _ _ _ (dP.mp (jB.mp hx)) (dP.mp (jB.mp hy)) h2 g2
   |ah _ _ _=>obtain⟨m,e,_⟩:=hy;cases e
 |_,.raw v,_,_,⟨m,e,_⟩,_,_,_=>by cases e
 |_,.ah v,_,_,⟨m,e,_⟩,_,_,_=>by cases e
theorem yf (I:Inv X pins σ H s):∀(n:Nat)(xs ys:ai)(vs:Zv),(∀ x∈xs,Dp n x)->(∀ x∈ys,Dp n x)->aI X.K N H xs vs->aI X.K N H ys vs->c5 xs ys=true
 |_,[],ys,_,_,_,.nil,r2=>by cases r2;rfl
 |n,x::xs,ys,_,hx,hy,.cons r1 q1,r2=>by
  cases r2 with
  |cons r2 q2=>
   show(bO x _&&c5 xs _)=true;rw[sH I n x _ _ (hx x (by simp)) (hy _ (by simp)) r1 r2,yf I n xs _ _ (λy h=>hx y (by simp [h])) (λy h=>hy y (by simp [h])) q1 q2];rfl
end
theorem sJ {A:Around}{n:Nat}{xs ys:ai}{vs ws:Zv}{us fP:aC}(r1:aI X.K N H xs vs)(r2:aI X.K N H ys ws)(q1:Vals vs us)(q2:Vals ws fP)(d1:∀ x∈xs,Dp n x)(d2:∀ x∈ys,Dp n x)
  (hR:∀ x y v w u u',Dp n x->Dp n y->RV X.K N H x v->RV X.K N H y w->RelV v u->RelV w u'->SeqAt.EqAt A s u u' (bO x y)):∀ j (h1:j<us.toArray.size)(h2:j<fP.toArray.size),SeqAt.EqAt A s us.toArray[j] fP.toArray[j] (ej xs ys j):=by
 refine Np (R:=λv w b=>∃ x y,Dp n x/\Dp n y/\RV X.K N H x v/\RV X.K N H y w/\b=bO x y) q1 q2 (λj v w hv hw=>?_) λv w b u u' ⟨x,y,e1,e2,e3,e4,e5⟩ ru rw=>by subst e5;exact hR x y v w u u' e1 e2 e3 e4 ru rw
 obtain⟨x,hx,rx⟩:=r1.at' hv;obtain⟨y,hy,ry⟩:=r2.at' hw;refine⟨x,y,d1 x (mem_of_getElem? hx),d2 y (mem_of_getElem? hy),rx,ry,?_⟩;unfold ej;rw[hx,hy]
theorem Fy {A:Around}{n:Nat}{xs ys:ai}{vs ws:Zv}{a b:Addr}(I:Inv X pins σ H s)(hu:A.units<cLine)(h1:bt X.K H a vs)(h2:bt X.K H b ws)(r1:aI X.K N H xs vs)(r2:aI X.K N H ys ws)(d1:∀ x∈xs,Dp n x)(d2:∀ x∈ys,Dp n x)
  (hR:∀ x y v w u u',Dp n x->Dp n y->RV X.K N H x v->RV X.K N H y w->RelV v u->RelV w u'->SeqAt.EqAt A.in1 s u u' (bO x y)):SeqAt.RcAt A s (.ref a) (.ref b) (c5 xs ys)/\SeqAt.RcNeAt A s (.ref a) (.ref b) (!c5 xs ys):=by
 obtain⟨us,q1,p1,_⟩:=I.tuple h1;obtain⟨fP,q2,p2,_⟩:=I.tuple h2;have z:=SeqAt.RcAt.tuples (A:=A) (s:=s) (e:=ej xs ys) (show s.heap.IsTuple a us.toArray from p1) (show s.heap.IsTuple b fP.toArray from p2) hu (sJ r1 r2 q1 q2 d1 d2 hR);have z2:=SeqAt.RcNeAt.tuples (A:=A) (s:=s) (e:=ej xs ys) (show s.heap.IsTuple a us.toArray from p1) (show s.heap.IsTuple b fP.toArray from p2) hu (sJ r1 r2 q1 q2 d1 d2 hR);simp only[size_toArray] at z z2;rw[<- q1.length,<- q2.length,<- r1.len,<- r2.len] at z z2;rw[ye];exact⟨z,z2⟩
theorem Fz {A:Around}{n:Nat}{xs ys:ai}{vs ws:Zv}{a b:Addr}(I:Inv X pins σ H s)(hu:A.units<cLine)(h1:H a=some (.lst vs))(h2:H b=some (.lst ws))(r1:aI X.K N H xs vs)(r2:aI X.K N H ys ws)(d1:∀ x∈xs,Dp n x)(d2:∀ x∈ys,Dp n x)
  (hR:∀ x y v w u u',Dp n x->Dp n y->RV X.K N H x v->RV X.K N H y w->RelV v u->RelV w u'->SeqAt.EqAt A.in1 s u u' (bO x y)):SeqAt.RcAt A s (.ref a) (.ref b) (c5 xs ys)/\SeqAt.RcNeAt A s (.ref a) (.ref b) (!c5 xs ys):=by
 obtain⟨us,q1,p1,_⟩:=I.list (aN.of (K:=X.K) h1);obtain⟨fP,q2,p2,_⟩:=I.list (aN.of (K:=X.K) h2);have l1:=q1.length;have l2:=q2.length;have l3:=r1.len;have l4:=r2.len;rw[ye];by_cases hz:xs.length=ys.length
 ·have z:=SeqAt.RcAt.lists (A:=A) (s:=s) (e:=ej xs ys) p1.isList p2.isList (by simp;omega) hu (sJ r1 r2 q1 q2 d1 d2 hR);have z2:=SeqAt.RcNeAt.lists (A:=A) (s:=s) (e:=ej xs ys) p1.isList p2.isList (by simp;omega) hu (sJ r1 r2 q1 q2 d1 d2 hR);simp only[size_toArray] at z z2;rw[<- l1,<- l3] at z z2;rw[hz,Nat.min_self,beq_self_eq_true,Bool.and_true,<- hz];exact⟨z,z2⟩
 ·rw[show(xs.length==ys.length)=false by simpa using hz,Bool.and_false];exact⟨SeqAt.RcAt.lists_lengths (A:=A) (s:=s) p1.isList p2.isList (by simp;omega) hu,SeqAt.RcNeAt.lists_lengths (A:=A) (s:=s) p1.isList p2.isList (by simp;omega) hu⟩
theorem Dp.mono {n m:Nat}{x:PV}(h:Dp n x)(l:n<=m):Dp m x:=by
 obtain⟨k,e,h⟩:=h;exact⟨k,e,aP h l⟩
noncomputable def ku:PV->Bool
 |.non=>true
 |.bl _=>true
 |.int _=>true
 |.str _=>true
 |_=>false
theorem m7 {x:PV}{v:V}(h:ku x=true)(r:RV X.K N H x v):lg v=true:=by
 cases r<;>first|rfl|cases h
theorem yg {x y:PV}{v w:V}(hx:ku x=true)(hy:ku y=true)(r1:RV X.K N H x v)(r2:RV X.K N H y w):oK v w=bO x y:=by
 cases r1<;>(first|(cases hx;done)|(cases r2<;>first|(cases hy;done)|rfl))
theorem FA (I:Inv X pins σ H s):∀(n:Nat)(A:Around)(x y:PV)(v w:V)(u u':Value),A.units+n<cLine->Dp n x->Dp n y->RV X.K N H x v->RV X.K N H y w->RelV v u->RelV w u'->SeqAt.EqAt A s u u' (bO x y):=by
 intro n
 induction n with
 |zero=>
  intro A x y v w u u' hu hx hy r1 r2 q1 q2
  have fx:ku x=true:=by
   cases x<;>first|rfl|exact absurd hx kr|exact absurd hx mZ|(obtain⟨m,e,_⟩:=hx;cases e)
  have fy:ku y=true:=by
   cases y<;>first|rfl|exact absurd hy kr|exact absurd hy mZ|(obtain⟨m,e,_⟩:=hy;cases e)
  rw[<- yg fx fy r1 r2];exact B6 (m7 fx r1) (m7 fy r2) q1 q2
 |succ n ih=>
  intro A x y v w u u' hu hx hy r1 r2 q1 q2;by_cases fx:ku x=true
  ·by_cases fy:ku y=true
   ·rw[<- yg fx fy r1 r2];exact B6 (m7 fx r1) (m7 fy r2) q1 q2
   ·cases r2<;>first|exact absurd rfl fy|(obtain⟨m,e,_⟩:=hy;cases e;done)|skip
    ·rename_i a xs vs h1 h2;cases q2;obtain⟨us,_,p,_⟩:=I.tuple h1;have p':s.heap.IsTuple a us.toArray:=p;cases r1<;>first|(cases fx;done)|skip
     ·cases q1;exact SeqAt.EqAt.none_tuple p' (by omega)
     ·cases q1;exact SeqAt.EqAt.bool_tuple _ p' (by omega)
     ·obtain⟨t,rfl⟩:=q1;exact SeqAt.EqAt.int_tuple _ _ p' (by omega)
     ·obtain⟨t,rfl⟩:=q1;exact SeqAt.EqAt.str_tuple _ _ p' (by omega)
    ·rename_i a xs vs na h1 h2;cases q2;obtain⟨us,_,p,_⟩:=I.list (aN.of (K:=X.K) h1);have p':=p.isList;cases r1<;>first|(cases fx;done)|skip
     ·cases q1;exact SeqAt.EqAt.none_list p' (by omega)
     ·cases q1;exact SeqAt.EqAt.bool_list _ p' (by omega)
     ·obtain⟨t,rfl⟩:=q1;exact SeqAt.EqAt.int_list _ _ p' (by omega)
     ·obtain⟨t,rfl⟩:=q1;exact SeqAt.EqAt.str_list _ _ p' (by omega)
  ·cases r1<;>first|exact absurd rfl fx|(obtain⟨m,e,_⟩:=hx;cases e;done)|skip
   ·rename_i a xs vs h1 h2;cases q1;obtain⟨us,_,p,_⟩:=I.tuple h1;have p':s.heap.IsTuple a us.toArray:=p;cases r2<;>first|(obtain⟨m,e,_⟩:=hy;cases e;done)|skip
    ·cases q2;exact SeqAt.EqAt.tuple_none p' (by omega)
    ·cases q2;exact SeqAt.EqAt.tuple_bool _ p' (by omega)
    ·obtain⟨t,rfl⟩:=q2;exact SeqAt.EqAt.tuple_int _ _ p' (by omega)
    ·obtain⟨t,rfl⟩:=q2;exact SeqAt.EqAt.tuple_str _ _ p' (by omega)
    ·rename_i b ys ws g1 g2;cases q2;by_cases e:a=b
     ·subst e;rw[sH I (n+1) _ _ _ hx hy (.tup h1 h2) (.tup g1 g2)];exact SeqAt.EqAt.same _
     ·exact .of_refs e (Fy I (by omega) h1 g1 h2 g2 (dP.mp (iw.mp hx)) (dP.mp (iw.mp hy)) λx y v w u u' a1 a2 a3 a4 a5 a6=>ih A.in1 x y v w u u' (by rw[in1_units];omega) a1 a2 a3 a4 a5 a6).1
    ·rename_i b ys ws nb g1 g2;cases q2;obtain⟨fP,_,p2,_⟩:=I.list (aN.of (K:=X.K) g1);exact SeqAt.EqAt.tuple_list p' p2.isList (by omega)
   ·rename_i a xs vs na h1 h2;cases q1;obtain⟨us,_,p,_⟩:=I.list (aN.of (K:=X.K) h1);have p':=p.isList;cases r2<;>first|(obtain⟨m,e,_⟩:=hy;cases e;done)|skip
    ·cases q2;exact SeqAt.EqAt.list_none p' (by omega)
    ·cases q2;exact SeqAt.EqAt.list_bool _ p' (by omega)
    ·obtain⟨t,rfl⟩:=q2;exact SeqAt.EqAt.list_int _ _ p' (by omega)
    ·obtain⟨t,rfl⟩:=q2;exact SeqAt.EqAt.list_str _ _ p' (by omega)
    ·rename_i b ys ws g1 g2;cases q2;obtain⟨fP,_,p2,_⟩:=I.tuple g1;exact SeqAt.EqAt.list_tuple p' (show s.heap.IsTuple b fP.toArray from p2) (by omega)
    ·rename_i b ys ws nb g1 g2;cases q2;by_cases e:a=b
     ·subst e;rw[sH I (n+1) _ _ _ hx hy (.lst na h1 h2) (.lst nb g1 g2)];exact SeqAt.EqAt.same _
     ·exact .of_refs e (Fz I (by omega) h1 g1 h2 g2 (dP.mp (jB.mp hx)) (dP.mp (jB.mp hy)) λx y v w u u' a1 a2 a3 a4 a5 a6=>ih A.in1 x y v w u u' (by rw[in1_units];omega) a1 a2 a3 a4 a5 a6).1
end
mutual
noncomputable def gJ:PV->PV
 |.bl b=>.int (if b then 1 else 0)
 |.tup xs=>.tup (gc xs)
 |.lst xs=>.lst (gc xs)
 |x=>x
noncomputable def gc:ai->ai
 |[]=>[]
 |x::xs=>gJ x::gc xs
end
mutual
theorem sL:∀(n:Nat)(x y:PV),Dp n x->Dp n y->(bO x y=true↔gJ x=gJ y)
 |n,.non,y,_,hy=>by cases y<;>first|(obtain⟨m,e,_⟩:=hy;cases e;done)|simp [bO,gJ]
 |n,.bl b,y,_,hy=>by cases y<;>first|(obtain⟨m,e,_⟩:=hy;cases e;done)|(simp [bO,gJ];done)|(rename_i c;cases b<;>cases c<;>simp [bO,gJ])
 |n,.int b,y,_,hy=>by cases y<;>first|(obtain⟨m,e,_⟩:=hy;cases e;done)|simp [bO,gJ]
 |n,.str b,y,_,hy=>by cases y<;>first|(obtain⟨m,e,_⟩:=hy;cases e;done)|simp [bO,gJ]
 |0,.tup xs,y,h,_=>absurd h kr
 |0,.lst xs,y,h,_=>absurd h mZ
 |n+1,.tup xs,y,hx,hy=>by
  cases y with
  |tup ys=>
   show c5 xs ys=true↔PV.tup (gc xs)=PV.tup (gc ys);rw[yh n xs ys (dP.mp (iw.mp hx)) (dP.mp (iw.mp hy))];simp
  |raw _=>obtain⟨m,e,_⟩:=hy;cases e
  |ah _=>obtain⟨m,e,_⟩:=hy;cases e
  |_=>simp [bO,gJ]
 |n+1,.lst xs,y,hx,hy=>by
  cases y with
  |lst ys=>
   show c5 xs ys=true↔PV.lst (gc xs)=PV.lst (gc ys);rw[yh n xs ys (dP.mp (jB.mp hx)) (dP.mp (jB.mp hy))];simp
  |raw _=>obtain⟨m,e,_⟩:=hy;cases e
  |ah _=>obtain⟨m,e,_⟩:=hy;cases e
  |_=>simp [bO,gJ]
 |_,.raw v,_,⟨m,e,_⟩,_=>by cases e
 |_,.ah v,_,⟨m,e,_⟩,_=>by cases e
theorem yh:∀(n:Nat)(xs ys:ai),(∀ x∈xs,Dp n x)->(∀ x∈ys,Dp n x)->(c5 xs ys=true↔gc xs=gc ys)
 |_,[],ys,_,_=>by cases ys<;>simp [c5,gc]
 |n,x::xs,ys,hx,hy=>by
  cases ys with
  |nil=>simp [c5,gc]
  |cons y ys=>
   show(bO x y&&c5 xs ys)=true↔gJ x::gc xs=gJ y::gc ys;rw[Bool.and_eq_true,sL n x y (hx x (by simp)) (hy y (by simp)),yh n xs ys (λz h=>hx z (by simp [h])) (λz h=>hy z (by simp [h]))];simp
end
noncomputable def lJ (K:Frag)(N:Addr->Prop)(H:Hp)(p:PV)(v:V):Prop:=RV K N H p v\/∃ a xs vs,p=.lst xs/\v=.ref a/\H a=some (.lst vs)/\aI K N H xs vs
theorem bV.r {K:Frag}{A:AS}{H:Hp}{σ:St}{p:PV}{v:V}(R:Rep K H σ A)(h:bV K A H p v)(hd:∀ k,p≠.ah k):lJ K (AN A) H p v:=by
 rcases id h with h'|⟨i,a,c,hl,rfl,rfl⟩
 ·exact .inl h'
 ·cases c with
  |lst xs=>obtain⟨a,vs,h1,h2,h3⟩:=h.lst R;exact .inr ⟨a,xs,vs,rfl,h1,h2,h3⟩
  |ah xs=>exact absurd rfl (hd xs)
  |ins _ _ _=>exact hl.2.elim
  |cP _=>exact hl.2.elim
noncomputable def yi (K:Frag)(neg:Bool):R2:=λx y H Q=>∃ N px py n,n<=80/\Dp n px/\Dp n py/\lJ K N H px x/\lJ K N H py y/\Q (.bl (neg^^bO px py)) H
section
variable {X:Cx}{pins:aO}{σ:St}{H:Hp}{s:Shared}{N:Addr->Prop}
theorem Qk {A:Around}{x y:V}{u v:Value}(fx:lg x=true)(fy:lg y=true)(rx:RelV x u)(ry:RelV y v):SeqAt.RcAt A s u v (oK x y)/\SeqAt.RcNeAt A s u v (!oK x y):=by
 cases x<;>first|(cases fx;done)|skip
 ·cases rx;cases y<;>first|(cases fy;done)|skip
  ·cases ry;exact⟨.none_none,.none_none⟩
  ·cases ry;exact⟨.none_bool _,.none_bool _⟩
  ·obtain⟨t,rfl⟩:=ry;exact⟨.none_int _ _,.none_int _ _⟩
  ·obtain⟨t,rfl⟩:=ry;exact⟨.none_str _ _,.none_str _ _⟩
 ·cases rx;cases y<;>first|(cases fy;done)|skip
  ·cases ry;exact⟨.bool_none _,.bool_none _⟩
  ·cases ry;exact⟨.bool_bool _ _,.bool_bool _ _⟩
  ·obtain⟨t,rfl⟩:=ry;exact⟨.bool_int _ _ _,.bool_int _ _ _⟩
  ·obtain⟨t,rfl⟩:=ry;exact⟨.bool_str _ _ _,.bool_str _ _ _⟩
 ·obtain⟨t,rfl⟩:=rx;cases y<;>first|(cases fy;done)|skip
  ·cases ry;exact⟨.int_none _ _,.int_none _ _⟩
  ·cases ry;exact⟨.int_bool _ _ _,.int_bool _ _ _⟩
  ·obtain⟨t,rfl⟩:=ry;exact⟨.int_int _ _ _ _,.int_int _ _ _ _⟩
  ·obtain⟨t,rfl⟩:=ry;exact⟨.int_str _ _ _ _,.int_str _ _ _ _⟩
 ·obtain⟨t,rfl⟩:=rx;cases y<;>first|(cases fy;done)|skip
  ·cases ry;exact⟨.str_none _ _,.str_none _ _⟩
  ·cases ry;exact⟨.str_bool _ _ _,.str_bool _ _ _⟩
  ·obtain⟨t,rfl⟩:=ry;exact⟨.str_int _ _ _ _,.str_int _ _ _ _⟩
  ·obtain⟨t,rfl⟩:=ry;exact⟨.str_str _ _ _ _,.str_str _ _ _ _⟩
theorem lJ.get {p:PV}{v:V}{n:Nat}(d:Dp n p)(h:lJ X.K N H p v):(ku p=true/\RV X.K N H p v)\/(∃ xs a vs m,n=m+1/\p=.tup xs/\v=.ref a/\bt X.K H a vs/\aI X.K N H xs vs/\∀ x∈xs,Dp m x) \/
  ∃ xs a vs m,n=m+1/\p=.lst xs/\v=.ref a/\H a=some (.lst vs)/\aI X.K N H xs vs/\∀ x∈xs,Dp m x:=by
 have g:∀ xs,p=.lst xs->∃ m,n=m+1/\∀ x∈xs,Dp m x:=λxs e=>by
  subst e
  cases n with
  |zero=>exact absurd d mZ
  |succ m=>exact⟨m,rfl,dP.mp (jB.mp d)⟩
 rcases h with h|⟨a,xs,vs,e,rfl,h1,h2⟩
 ·cases id h<;>first|exact .inl ⟨rfl,h⟩|skip
  ·obtain⟨m,e,_⟩:=d;cases e
  ·rename_i a xs vs h1 h2
   cases n with
   |zero=>exact absurd d kr
   |succ m=>exact .inr (.inl ⟨xs,a,vs,m,rfl,rfl,rfl,h1,h2,dP.mp (iw.mp d)⟩)
  ·rename_i a xs vs _ h1 h2;obtain⟨m,e,q⟩:=g xs rfl;exact .inr (.inr ⟨xs,a,vs,m,e,rfl,rfl,h1,h2,q⟩)
  ·obtain⟨m,e,_⟩:=d;cases e
 ·obtain⟨m,e',q⟩:=g xs e;exact .inr (.inr ⟨xs,a,vs,m,e',e,rfl,h1,h2,q⟩)
theorem FC (I:Inv X pins σ H s){n:Nat}{A:Around}{x y:PV}{v w:V}{u u':Value}(hu:A.units+n<cLine)(hx:Dp n x)(hy:Dp n y)(r1:lJ X.K N H x v)(r2:lJ X.K N H y w)(q1:RelV v u)(q2:RelV w u') :
  SeqAt.RcAt A s u u' (bO x y)/\SeqAt.RcNeAt A s u u' (!bO x y):=by
 have deep:∀ m,n=m+1->∀ x y v w u u',Dp m x->Dp m y->RV X.K N H x v->RV X.K N H y w->RelV v u->RelV w u'->SeqAt.EqAt A.in1 s u u' (bO x y):=λm e x y v w u u' a1 a2 a3 a4 a5 a6=>FA I m A.in1 x y v w u u' (by rw[in1_units];omega) a1 a2 a3 a4 a5 a6;have bU:A.units<cLine:=by omega
 rcases r1.get hx with ⟨fx,r1⟩|⟨xs,a,vs,m,e,rfl,rfl,h1,h2,d1⟩|⟨xs,a,vs,m,e,rfl,rfl,h1,h2,d1⟩
 ·rcases r2.get hy with ⟨fy,r2⟩|⟨ys,b,ws,m',e',rfl,rfl,g1,g2,d2⟩|⟨ys,b,ws,m',e',rfl,rfl,g1,g2,d2⟩
  ·rw[<- yg fx fy r1 r2];exact Qk (m7 fx r1) (m7 fy r2) q1 q2
  ·cases q2;obtain⟨us,_,p,_⟩:=I.tuple g1;have p':s.heap.IsTuple b us.toArray:=p;cases r1<;>first|(cases fx;done)|skip
   ·cases q1;exact⟨.none_tuple p' bU,.none_tuple p' bU⟩
   ·cases q1;exact⟨.bool_tuple _ p' bU,.bool_tuple _ p' bU⟩
   ·obtain⟨t,rfl⟩:=q1;exact⟨.int_tuple _ _ p' bU,.int_tuple _ _ p' bU⟩
   ·obtain⟨t,rfl⟩:=q1;exact⟨.str_tuple _ _ p' bU,.str_tuple _ _ p' bU⟩
  ·cases q2;obtain⟨us,_,p,_⟩:=I.list (aN.of (K:=X.K) g1);have p':=p.isList;cases r1<;>first|(cases fx;done)|skip
   ·cases q1;exact⟨.none_list p' bU,.none_list p' bU⟩
   ·cases q1;exact⟨.bool_list _ p' bU,.bool_list _ p' bU⟩
   ·obtain⟨t,rfl⟩:=q1;exact⟨.int_list _ _ p' bU,.int_list _ _ p' bU⟩
   ·obtain⟨t,rfl⟩:=q1;exact⟨.str_list _ _ p' bU,.str_list _ _ p' bU⟩
 ·cases q1;obtain⟨us,_,p,_⟩:=I.tuple h1;have p':s.heap.IsTuple a us.toArray:=p;rcases r2.get hy with ⟨fy,r2⟩|⟨ys,b,ws,m',e',rfl,rfl,g1,g2,d2⟩|⟨ys,b,ws,m',e',rfl,rfl,g1,g2,d2⟩
  ·cases r2<;>first|(cases fy;done)|skip
   ·cases q2;exact⟨.tuple_none p' bU,.tuple_none p' bU⟩
   ·cases q2;exact⟨.tuple_bool _ p' bU,.tuple_bool _ p' bU⟩
   ·obtain⟨t,rfl⟩:=q2;exact⟨.tuple_int _ _ p' bU,.tuple_int _ _ p' bU⟩
   ·obtain⟨t,rfl⟩:=q2;exact⟨.tuple_str _ _ p' bU,.tuple_str _ _ p' bU⟩
  ·cases q2;have em:m'=m:=by omega
   subst em;exact Fy I bU h1 g1 h2 g2 d1 d2 (deep _ e)
  ·cases q2;obtain⟨fP,_,p2,_⟩:=I.list (aN.of (K:=X.K) g1);exact⟨.tuple_list p' p2.isList bU,.tuple_list p' p2.isList bU⟩
 ·cases q1;obtain⟨us,_,p,_⟩:=I.list (aN.of (K:=X.K) h1);have p':=p.isList;rcases r2.get hy with ⟨fy,r2⟩|⟨ys,b,ws,m',e',rfl,rfl,g1,g2,d2⟩|⟨ys,b,ws,m',e',rfl,rfl,g1,g2,d2⟩
  ·cases r2<;>first|(cases fy;done)|skip
   ·cases q2;exact⟨.list_none p' bU,.list_none p' bU⟩
   ·cases q2;exact⟨.list_bool _ p' bU,.list_bool _ p' bU⟩
   ·obtain⟨t,rfl⟩:=q2;exact⟨.list_int _ _ p' bU,.list_int _ _ p' bU⟩
   ·obtain⟨t,rfl⟩:=q2;exact⟨.list_str _ _ p' bU,.list_str _ _ p' bU⟩
  ·cases q2;obtain⟨fP,_,p2,_⟩:=I.tuple g1;exact⟨.list_tuple p' (show s.heap.IsTuple b fP.toArray from p2) bU,.list_tuple p' (show s.heap.IsTuple b fP.toArray from p2) bU⟩
  ·cases q2;have em:m'=m:=by omega
   subst em;exact Fz I bU h1 g1 h2 g2 d1 d2 (deep _ e)
end
section
variable {X:Cx}
theorem FD (hu:X.A.units+100<cLine):bz X (compareOp .Eq) (yi X.K false):=by
 intro pins s σ H x y v u Q I rx ry h;obtain⟨N,px,py,n,hn,d1,d2,r1,r2,q⟩:=h;exact(FC I (by omega) d1 d2 r1 r2 rx ry).1 X.prog X.w X.xe _ ⟨.bl _,H,I,rfl,by simpa using q⟩
theorem FE (hu:X.A.units+100<cLine):bz X (compareOp .NotEq) (yi X.K true):=by
 intro pins s σ H x y v u Q I rx ry h;obtain⟨N,px,py,n,hn,d1,d2,r1,r2,q⟩:=h;exact(FC I (by omega) d1 d2 r1 r2 rx ry).2 X.prog X.w X.xe _ ⟨.bl _,H,I,rfl,by simpa using q⟩
end
noncomputable def fQ (neg:Bool):G2:=λx y z=>(∃ n,n<=80/\Dp n x/\Dp n y)/\z=.bl (neg^^bO x y)
theorem sM {K:Frag}{neg:Bool}:dz K (yi K neg) (fQ neg):=by
 intro H A σ x y v w z Q R q1 q2 g c;obtain⟨⟨n,hn,d1,d2⟩,rfl⟩:=g;have nd:∀{x:PV},Dp n x->∀ k,x≠.ah k:=λd k e=>by subst e;obtain⟨m,e,_⟩:=d;cases e
 exact⟨AN A,x,y,n,hn,d1,d2,q1.r R (nd d1),q2.r R (nd d2),c _ H (aS.refl H) (.bl _)⟩
section
variable {X:Cx}{K:Frag}{a b:Expr}{ua ub:UE}{pos:Pos}{k:Nat}
theorem lK (hK:X.K=K)(hr:bP k X.A)(ha:PE X a (az K ua))(hb:PE X b (az K ub)):PE X (.Compare a [.Eq] [b] pos) (aB K (u2 (fQ false) ua ub)):=by
 subst hK;exact r_ (FD (by have:=hr.un;omega)) sM ha hb (fb _)
theorem bW (hK:X.K=K)(hr:bP k X.A)(ha:PE X a (az K ua))(hb:PE X b (az K ub)):PT X (.Compare a [.Eq] [b] pos) (liftT K (ip (fQ false) ua ub)):=by
 subst hK;exact kb (FD (by have:=hr.un;omega)) sM ha hb (fb _)
theorem gf (hK:X.K=K)(hr:bP k X.A)(ha:PE X a (az K ua))(hb:PE X b (az K ub)):PT X (.Compare a [.NotEq] [b] pos) (liftT K (ip (fQ true) ua ub)):=by
 subst hK;exact kb (FE (by have:=hr.un;omega)) sM ha hb (fb _)
end
noncomputable def pin (x:PV)(ys:ai):Bool:=ys.any λy=>bO y x
open Classical in
noncomputable def iY (K:Frag)(N:Addr->Prop)(H:Hp)(n:Nat)(px:PV)(u:Value):Bool:=decide (∃ p v,RelV v u/\RV K N H p v/\Dp n p/\bO p px=true)
section
variable {X:Cx}{pins:aO}{σ:St}{H:Hp}{s:Shared}{N:Addr->Prop}
open Classical in
theorem FF (I:Inv X pins σ H s){n:Nat}{px p:PV}{v:V}{u:Value}(dx:Dp n px)(dp:Dp n p)(r:RV X.K N H p v)(q:RelV v u):iY X.K N H n px u=bO p px:=by
 unfold iY;by_cases e:bO p px=true
 ·rw[e];exact decide_eq_true ⟨p,v,q,r,dp,e⟩
 ·have e':bO p px=false:=by simpa using e
  rw[e'];refine decide_eq_false ?_;rintro⟨p',v',q',r',yj,e2⟩;have ev:=q'.inj q;subst ev;have z:=(sL n p' p yj dp).mp (sH I n p' p _ yj dp r' r);have z2:=(sL n p' px yj dx).mp e2;exact e ((sL n p px dp dx).mpr (z.symm.trans z2))
theorem yk (I:Inv X pins σ H s){n:Nat}{px:PV}(dx:Dp n px):∀{ps:ai}{vs:Zv}{us:aC},aI X.K N H ps vs->Vals vs us->(∀ p∈ps,Dp n p)->us.any (iY X.K N H n px)=pin px ps
 |_,_,_,.nil,.nil,_=>rfl
 |_,_,_,.cons r rs,.cons q qs,d=>by
  rw[any_cons,FF I dx (d _ (by simp)) r q,yk I dx rs qs λp h=>d p (by simp [h])];rfl
theorem ym (I:Inv X pins σ H s){A:Around}{n:Nat}{px:PV}{x:V}{ux:Value}(hu:A.units+n<cLine)(dx:Dp n px)(rx:RV X.K N H px x)(qx:RelV x ux):∀{ps:ai}{vs:Zv}{us:aC},aI X.K N H ps vs->Vals vs us->(∀ p∈ps,Dp n p) ->
  ∀ u∈us,SeqAt.EqAt A s u ux (iY X.K N H n px u)
 |_,_,_,.nil,.nil,_=>λu h=>nomatch h
 |_,_,_,.cons r rs,.cons q qs,d=>λu h=>by
  rcases mem_cons.mp h with rfl|h
  ·rw[FF I dx (d _ (by simp)) r q];exact FA I n A _ _ _ _ _ _ hu (d _ (by simp)) dx r rx q qx
  ·exact ym I hu dx rx qx rs qs (λp h=>d p (by simp [h])) u h
end
noncomputable def FG (K:Frag)(neg:Bool):R2:=λx y H Q=>∃ N px pw n,n<=80/\Dp n px/\(∀ p∈pw,Dp n p)/\RV K N H px x/\(∃ a vs,y=.ref a/\(bt K H a vs\/H a=some (.lst vs))/\aI K N H pw vs)/\Q (.bl (neg^^pin px pw)) H
section
variable {X:Cx}
theorem Ql (hu:X.A.units+100<cLine):bz X (compareOp .In) (FG X.K false):=by
 intro pins s σ H x y v u Q I rx ry h;obtain⟨N,px,pw,n,hn,dx,dy,r1,⟨a,vs,rfl,hq,rs⟩,q⟩:=h;cases ry;have q':Q (.bl (pin px pw)) H:=by simpa using q
 rcases hq with hq|hq
 ·obtain⟨its,r,pl,hz⟩:=I.tuple hq;refine SeqAt.in_tupleAt (iY X.K N H n px) pl (λw hw=>ym I (by rw[in1_units];omega) dx r1 rx rs r dy w (by simpa using hw)) ⟨.bl _,H,I,rfl,?_⟩;rw[show its.toArray.any (iY X.K N H n px)=its.any (iY X.K N H n px) by simp,yk I dx rs r dy];exact q'
 ·obtain⟨its,r,pl,hz⟩:=I.list (aN.of (K:=X.K) hq);refine SeqAt.in_listAt (iY X.K N H n px) pl.isList (λw hw=>ym I (by rw[in1_units];omega) dx r1 rx rs r dy w (by simpa using hw)) ⟨.bl _,H,I,rfl,?_⟩;rw[show its.toArray.any (iY X.K N H n px)=its.any (iY X.K N H n px) by simp,yk I dx rs r dy];exact q'
end
noncomputable def yn (i j:Str):Bool:=!(Builtin.Str.occurrences j i 0 j.length 1).isEmpty
noncomputable def Qm (neg:Bool):R2:=λx y H Q=>∃ i j,x=.str i/\y=.str j/\Q (.bl (neg^^yn i j)) H
noncomputable def sN (K:Frag)(neg:Bool):R2:=λx y H Q=>FG K neg x y H Q\/Qm neg x y H Q
noncomputable def yo (neg:Bool):G2
 |x,.tup ys,z=>(∀ c:OC,x≠c.pv)/\(∃ n,n<=80/\Dp n x/\∀ p∈ys,Dp n p)/\z=.bl (neg^^pin x ys)
 |x,.lst ys,z=>(∀ c:OC,x≠c.pv)/\(∃ n,n<=80/\Dp n x/\∀ p∈ys,Dp n p)/\z=.bl (neg^^pin x ys)
 |.str i,.str j,z=>z=.bl (neg^^yn i j)
 |_,_,_=>False
theorem Qn {K:Frag}{neg:Bool}:dz K (sN K neg) (yo neg):=by
 intro H A σ x y v w z Q R q1 q2 g c
 have main:∀ ys,((∀ c:OC,x≠c.pv)/\(∃ n,n<=80/\Dp n x/\∀ p∈ys,Dp n p)/\z=.bl (neg^^pin x ys))->(∃ a vs,w=.ref a/\(bt K H a vs\/H a=some (.lst vs))/\aI K (AN A) H ys vs)->sN K neg v w H Q:=by
  rintro ys ⟨nc,⟨n,hn,d1,d2⟩,rfl⟩ h;exact .inl ⟨AN A,x,ys,n,hn,d1,d2,q1.rv nc,h,c _ H (aS.refl H) (.bl _)⟩
 cases y with
 |tup ys=>obtain⟨a,vs,rfl,h1,h2⟩:=q2.tup;exact main ys (by cases x<;>exact g) ⟨a,vs,rfl,.inl h1,h2⟩
 |lst ys=>obtain⟨a,vs,rfl,h1,h2⟩:=q2.lst R;exact main ys (by cases x<;>exact g) ⟨a,vs,rfl,.inr h1,h2⟩
 |str j=>
  cases x<;>first|exact g.elim|skip
  cases g;cases q1.str;cases q2.str;exact .inr ⟨_,_,rfl,rfl,c _ H (aS.refl H) (.bl _)⟩
 |_=>cases x<;>exact g.elim
section
variable {X:Cx}{K:Frag}{a b:Expr}{ua ub:UE}{pos:Pos}{k:Nat}
theorem FH (hK:X.K=K)(hr:bP k X.A):bz X (compareOp .In) (sN K false):=by
 subst hK;refine(Ql (by have:=hr.un;omega)).or ?_;intro pins s σ H x y v u Q I rx ry h;obtain⟨i,j,e1,e2,q⟩:=h;exact Lx pins s σ H x y v u Q I rx ry ⟨i,j,e1,e2,by simpa [yn] using q⟩
end
noncomputable def sO:G2
 |.int i,.int j,z=>z=.bl (decide (i<j))
 |.str i,.str j,z=>z=.bl (decide (i.cps.toList<j.cps.toList))
 |_,_,_=>False
noncomputable def FI:G2
 |.int i,.int j,z=>z=.bl (decide (i<=j))
 |.str i,.str j,z=>z=.bl (!decide (j.cps.toList<i.cps.toList))
 |_,_,_=>False
noncomputable def Qo:R2:=λx y H Q=>(gx λi j=>.bl (decide (i<j))) x y H Q\/∃ i j,x=.str i/\y=.str j/\Q (.bl (decide (i.cps.toList<j.cps.toList))) H
noncomputable def Qp:R2:=λx y H Q=>(gx λi j=>.bl (decide (i<=j))) x y H Q\/∃ i j,x=.str i/\y=.str j/\Q (.bl (!(decide (j.cps.toList<i.cps.toList)))) H
theorem yq {K:Frag}:dz K Qo sO:=by
 intro H A σ x y v w z Q R q1 q2 g c;cases x<;>cases y<;>first|exact g.elim|skip
 ·cases g;cases q1.int;cases q2.int;exact .inl ⟨_,_,rfl,rfl,c _ H (aS.refl H) (.bl _)⟩
 ·cases g;cases q1.str;cases q2.str;exact .inr ⟨_,_,rfl,rfl,c _ H (aS.refl H) (.bl _)⟩
theorem Qq {K:Frag}:dz K Qp FI:=by
 intro H A σ x y v w z Q R q1 q2 g c;cases x<;>cases y<;>first|exact g.elim|skip
 ·cases g;cases q1.int;cases q2.int;exact .inl ⟨_,_,rfl,rfl,c _ H (aS.refl H) (.bl _)⟩
 ·cases g;cases q1.str;cases q2.str;exact .inr ⟨_,_,rfl,rfl,c _ H (aS.refl H) (.bl _)⟩
noncomputable def pz:PV->Bool
 |.non=>true
 |_=>false
theorem Qr {X:Cx}:bz X (compareOp .Is) (λx y H Q=>∃ a b,x=.bl a/\y=.bl b/\Q (.bl (a==b)) H):=by
 intro pins s σ H x y v u Q I rx ry h;obtain⟨a,b,rfl,rfl,q⟩:=h;cases (show v=Value.bool a from rx);cases (show u=Value.bool b from ry);refine PySem.wpAny_is_plain (by cases a<;>cases b<;>rfl) ⟨.bl _,H,I,?_,q⟩;cases a<;>cases b<;>rfl
noncomputable def Qs:R2:=λx y H Q=>(y=.non/\Q (.bl (decide (x=.non))) H)\/∃ a b,x=.bl a/\y=.bl b/\Q (.bl (a==b)) H
noncomputable def sP:G2
 |.raw _,_,_=>False
 |x,.non,z=>z=.bl (pz x)
 |.bl a,.bl b,z=>z=.bl (a==b)
 |_,_,_=>False
noncomputable def yr:G2
 |.raw _,_,_=>False
 |x,.non,z=>z=.bl (!pz x)
 |_,_,_=>False
theorem FJ {K:Frag}{A:AS}{H:Hp}{σ:St}{x:PV}{v:V}(R:Rep K H σ A)(q:bV K A H x v)(nr:∀ w,x≠.raw w):decide (v=.non)=pz x:=by
 cases x with
 |non=>cases q.non;rfl
 |bl b=>cases q.bl;rfl
 |int b=>cases q.int;rfl
 |str b=>cases q.str;rfl
 |tup xs=>obtain⟨a,vs,rfl,_⟩:=q.tup;rfl
 |lst xs=>obtain⟨a,vs,rfl,_⟩:=q.lst R;rfl
 |ah xs=>obtain⟨a,vs,rfl,_⟩:=q.ah R;rfl
 |raw w=>exact absurd rfl (nr w)
theorem Qt {K:Frag}:dz K Qs sP:=by
 intro H A σ x y v w z Q R q1 q2 g c;by_cases nr:∀ w,x≠.raw w
 ·cases y with
  |non=>
   cases q2.non;have e:z=.bl (pz x):=by cases x<;>first|exact g|exact g.elim
   subst e;refine .inl ⟨rfl,?_⟩;rw[FJ R q1 nr];exact c _ H (aS.refl H) (.bl _)
  |bl b=>
   cases x<;>first|exact g.elim|skip
   cases g;cases q1.bl;cases q2.bl;exact .inr ⟨_,_,rfl,rfl,c _ H (aS.refl H) (.bl _)⟩
  |_=>cases x<;>exact g.elim
 ·cases x<;>first|exact g.elim|exact absurd (λw z=>by cases z) nr
theorem Qu {K:Frag}:dz K (λx y H Q=>y=.non/\Q (.bl (!decide (x=.non))) H) yr:=by
 intro H A σ x y v w z Q R q1 q2 g c;by_cases nr:∀ w,x≠.raw w
 ·cases y with
  |non=>
   cases q2.non;have e:z=.bl (!pz x):=by cases x<;>first|exact g|exact g.elim
   subst e;refine⟨rfl,?_⟩;rw[FJ R q1 nr];exact c _ H (aS.refl H) (.bl _)
  |_=>cases x<;>exact g.elim
 ·cases x<;>first|exact g.elim|exact absurd (λw z=>by cases z) nr
section
variable {X:Cx}{K:Frag}{a b:Expr}{ua ub:UE}{pos:Pos}{k:Nat}
theorem Qv (ha:PE X a (az K ua))(hb:PE X b (az K ub)):PE X (.Compare a [.Lt] [b] pos) (aB K (u2 sO ua ub)):=r_ (qJ.or vq) yq ha hb (fb _)
theorem m8 (ha:PE X a (az K ua))(hb:PE X b (az K ub)):PT X (.Compare a [.Lt] [b] pos) (liftT K (ip sO ua ub)):=kb (qJ.or vq) yq ha hb (fb _)
theorem FK (ha:PE X a (az K ua))(hb:PE X b (az K ub)):PE X (.Compare a [.Gt] [b] pos) (aB K (u2 (ko λi j=>.bl (decide (j<i))) ua ub)):=r_ qK (sF λ_ _ _ _=>.bl _) ha hb (fb _)
theorem lL (ha:PE X a (az K ua))(hb:PE X b (az K ub)):PT X (.Compare a [.Gt] [b] pos) (liftT K (ip (ko λi j=>.bl (decide (j<i))) ua ub)):=kb qK (sF λ_ _ _ _=>.bl _) ha hb (fb _)
theorem Qw (ha:PE X a (az K ua))(hb:PE X b (az K ub)):PT X (.Compare a [.GtE] [b] pos) (liftT K (ip (ko λi j=>.bl (decide (j<=i))) ua ub)):=kb Lw (sF λ_ _ _ _=>.bl _) ha hb (fb _)
theorem FL (ha:PE X a (az K ua))(hb:PE X b (az K ub)):PT X (.Compare a [.Is] [b] pos) (liftT K (ip sP ua ub)):=kb (Ly.or Qr) Qt ha hb (fb _)
theorem FN (ha:PE X a (az K ua))(hb:PE X b (az K ub)):PT X (.Compare a [.IsNot] [b] pos) (liftT K (ip yr ua ub)):=kb Lz Qu ha hb (fb _)
end
noncomputable def m9:G2
 |.tup xs,.int i,z=>cz xs i=some z
 |.lst xs,.int i,z=>cz xs i=some z
 |.str s,.int i,z=>s.length<=100000/\∃ c,cz s.cps.toList i=some c/\z=.str ⟨#[c]⟩
 |_,_,_=>False
theorem FO {K:Frag}{N:Addr->Prop}{H:Hp}{xs:ai}{vs:Zv}{i:Int}{z:PV}(r:aI K N H xs vs)(h:cz xs i=some z):∃ v,cz vs i=some v/\RV K N H z v:=by
 unfold cz at h ⊢;obtain⟨j,hj,hz⟩:=Option.bind_eq_some_iff.mp h;obtain⟨v,hv,rv⟩:=r.at hz;refine⟨v,?_,rv⟩;rw[<- r.len,hj];exact hv
theorem Qx {K:Frag}:dz K (vI K) m9:=by
 intro H A σ x y v w z Q R q1 q2 g c
 cases y with
 |int i=>
  cases q2.int;cases x<;>first|exact g.elim|skip
  ·cases q1.str;obtain⟨aF,ch,hc,rfl⟩:=g;exact .inr (.inr ⟨_,i,ch,rfl,rfl,mU aF,hc,c _ H (aS.refl H) (.str _)⟩)
  ·obtain⟨a,vs,rfl,h1,h2⟩:=q1.tup;obtain⟨v,hv,rv⟩:=FO h2 g;exact .inr (.inl ⟨a,vs,i,v,rfl,rfl,h1,hv,c _ H (aS.refl H) rv⟩)
  ·obtain⟨a,vs,rfl,h1,h2⟩:=q1.lst R;obtain⟨v,hv,rv⟩:=FO h2 g;exact .inl ⟨a,vs,i,v,rfl,rfl,aN.of h1,hv,c _ H (aS.refl H) rv⟩
 |_=>cases x<;>exact g.elim
section
variable {X:Cx}{K:Frag}{a b:Expr}{ua ub:UE}{pos:Pos}
end
namespace FP
section
variable {prog:Program}{w:World}{A:Around}{E:aG}{s:Shared}
theorem Qy {t sl:Addr}{items:Array Value}{vl vu:Value}{lo hi:Option Int}{Q:aG}(ht:IsTup s.heap t items)(hs:s.heap.IsSliceOf sl vl vu .none)(pl:IsPart vl lo)(pu:IsPart vu hi)
  (hw:HT.aV items.size 0 lo=0/\HT.aV items.size items.size hi=items.size)(h:Q (.ref t) s):wpAny (model prog w) A (getItem (.ref t) (.ref sl)) Q E s:=by
 obtain⟨os,la,f9,oI⟩:=id hs;have vE:s.TypeIs (.ref sl) "slice":=⟨os,la,f9⟩;unfold getItem
 try with_reducible refine wpAny_holding ?_
 first|refine af (ao ?_)|skip
 refine af (wpAny_sequenceKey ht.typeIs (by decide) ?_)
 refine af (wpAny_callSpecial?_slot (name:=Str.ofString "__getitem__") ht.typeIs PyProof.Rows.slot_tuple_getitem
  (wpAny_call_entry PyProof.Rows.slot_tuple_getitem ht.typeIs entry_tuple_getitem ?_ (args_tuple_getitem _ _)))
 show wpAny _ _ (Builtin.Tuple.tupleItemsOf (.ref t) >>= _) _ _ s;refine af (tupleItemsOf_ ht ?_);refine af (wpAny_typeOf vE ?_);rw[if_pos (by decide)];refine af (HT.BN hs pl pu ?_)
 have Qz:(((HT.aV items.size 0 lo:Nat):Int)==0&&(1:Int)==1&&(HT.aV items.size items.size hi-HT.aV items.size 0 lo)==items.size)=true:=by
  rw[hw.1,hw.2];simp
 show wpAny _ _ (if (((HT.aV items.size 0 lo:Nat):Int)==0&&(1:Int)==1&&(HT.aV items.size items.size hi-HT.aV items.size 0 lo)==items.size)=true then _ else _) _ _ s;rw[if_pos Qz];unfold Builtin.Tuple.tupleIsExact;refine af (af (wpAny_typeOf ht.typeIs (ao ?_)));rw[if_pos (by decide)];refine af (wpAny_rule ?_);exact ao ⟨_,rfl,ao h⟩
end
end FP
noncomputable def whole (n:Nat)(lo hi:Option Int):Prop:=HT.aV n 0 lo=0/\HT.aV n n hi=n
noncomputable instance {n:Nat}{lo hi:Option Int}:Decidable (whole n lo hi):=by unfold whole;infer_instance
noncomputable def QB (K:Frag):V->Option Int->Option Int->Hp->VK->Prop:=λx lo hi H Q=>∃ a xs,x=.ref a/\bt K H a xs/\(whole xs.length lo hi->Q (.ref a) H)/\(¬ whole xs.length lo hi->∀ p,H p=none->Q (.ref p) (upd H p (.tup (hW xs lo hi))))
noncomputable def cI (xs:ai)(lo hi:Option Int):ai:=(xs.drop (HT.aV xs.length 0 lo)).take (HT.aV xs.length xs.length hi-HT.aV xs.length 0 lo)
theorem yt {K:Frag}{N:Addr->Prop}{H:Hp}{xs:ai}{vs:Zv}(r:aI K N H xs vs)(lo hi:Option Int):aI K N H (cI xs lo hi) (hW vs lo hi):=by
 unfold cI hW;rw[r.len];exact(r.drop _).take _
theorem QC {xs:ai}{lo hi:Option Int}(h:whole xs.length lo hi):cI xs lo hi=xs:=by
 unfold cI;rw[h.1,h.2];simp
section
variable {X:Cx}
theorem QD:jm X (QB X.K):=by
 intro pins s σ H x v vl vu lo hi sl Q I rx hs pl pu h;obtain⟨a,xs,rfl,hx,q1,q2⟩:=h;by_cases hw:whole xs.length lo hi
 ·cases rx;obtain⟨its,r,ht,hz⟩:=I.tuple hx;have hlen:its.toArray.size=xs.length:=by rw[size_toArray];exact r.length.symm
  refine⟨"tuple",_,PyProof.Rows.slot_tuple_getitem.lookup,ht.typeIs,?_⟩;exact FP.Qy ht hs pl pu (by rw[hlen];exact hw) ⟨.ref a,H,I,rfl,q1 hw⟩
 ·exact Ms pins s σ H _ v vl vu lo hi sl Q I rx hs pl pu ⟨a,xs,rfl,hx,hw,q2 hw⟩
end
noncomputable abbrev UO:=AS->(Option Int->AS->Prop)->Prop
noncomputable def FQ:UO:=λA Q=>Q none A
noncomputable def FR (ue:UE):UO:=λA Q=>ue A λx A1=>∃ i,x=.int i/\Q (some i) A1
noncomputable def m_ (K:Frag)(u:UO):TO:=λσ H Q=>∃ A P,Rep K H σ A/\u A P/\∀ o A1 H1,P o A1->Rep K H1 σ A1->ay A H A1 H1->Q o H1
theorem PO.mono {X:Cx}{e:Option Expr}{t t':TO}(h:PO X e t)(f:∀ σ H Q,t' σ H Q->t σ H Q):PO X e t':=λpins s σ H Q I w=>h pins s σ H Q I (f _ _ _ w)
noncomputable def FT:PV->Option Int->Option Int->PV->Prop
 |.tup xs,lo,hi,z=>z=.tup (cI xs lo hi)
 |.lst xs,lo,hi,z=>z=.lst (cI xs lo hi)
 |.str x,lo,hi,z=>x.length<=100000/\z=.str (Txt.slice x lo hi)
 |_,_,_,_=>False
noncomputable def FU:PV->Option Int->Option Int->PV->Prop
 |.lst xs,lo,hi,z=>z=.lst (cI xs lo hi)
 |_,_,_,_=>False
noncomputable def yu (g:PV->Option Int->Option Int->PV->Prop)(ue:UE)(ul uh:UO):UE:=λA Q=>ue A λx A1=>ul A1 λl A2=>uh A2 λh A3=>A3.ae=A1.ae/\∃ z,g x l h z/\Q z A3
section
variable {X:Cx}{K:Frag}{e:Expr}{ue:UE}{ul uh:UO}{lo hi:Option Expr}{pos p2:Pos}
theorem iZ:PO X none (m_ K FQ):=Mo.mono λσ H Q ⟨A,P,R,h,c⟩=>c none A H h R (ay.refl A H)
theorem gK (h:PE X e (aB K ue)):PO X (some e) (m_ K (FR ue)):=(Mp h).mono λσ H Q ⟨A,P,R,h,c⟩=>⟨A,_,R,h,λx A1 v H1 p R1 S1 rv=>by
 obtain⟨i,rfl,p⟩:=p;cases rv
 exact⟨i,rfl,c _ A1 H1 p R1 S1⟩⟩
theorem jC (hK:X.K=K)(he:PE X e (az K ue))(hl:PO X lo (m_ K ul))(hh:PO X hi (m_ K uh)):PE X (.Subscript e (.Slice lo hi none p2) pos) (aB K (yu FT ue ul uh)):=by
 subst hK;refine(BO (QD.or (BV.or NQ)) he hl hh).mono λσ H Q ⟨A,P,R,h,c⟩=>⟨A,_,R,h,λx A1 v H1 p R1 S1 q1=>⟨A1,_,R1,p,λl A2 H2 p R2 S2=>⟨A2,_,R2,p,λu A3 H3 p R3 S3=>?_⟩⟩⟩;obtain⟨e,z,g,p⟩:=p;have q3:=q1.step R1 (S2.trans S3) e;have Sx:=S1.trans (S2.trans S3);cases x<;>first|exact g.elim|skip
 ·cases q3.str;obtain⟨aF,rfl⟩:=g;exact .inr (.inr ⟨_,rfl,mU aF,c _ A3 _ H3 p R3 Sx (.str _)⟩)
 ·cases g;obtain⟨a,vs,rfl,h1,h2⟩:=q3.tup;refine .inl ⟨a,vs,rfl,h1,λhw=>?_,λ_ q hq=>?_⟩
  ·rw[QC (by rw[h2.len];exact hw)] at p;exact c _ A3 _ H3 p R3 Sx (.tup h1 h2)
  ·have s:=dM hq (.tup (hW vs l u));exact c _ A3 _ _ p (R3.same s) (Sx.trans (ay.same A3 s)) (.tup (bt.of bE) ((yt h2 l u).imp (iT s)))
 ·cases g;obtain⟨a,vs,rfl,h1,h2⟩:=q3.lst R3;refine .inr (.inl ⟨a,vs,rfl,aN.of h1,λq hq=>?_⟩);have s:=dM hq (.lst (hW vs l u));exact c _ A3 _ _ p (R3.same s) (Sx.trans (ay.same A3 s)) (.lst (R3.new hq) bE ((yt h2 l u).imp (iT s)))
theorem FV (hK:X.K=K)(he:PE X e (az K ue))(hl:PO X lo (m_ K ul))(hh:PO X hi (m_ K uh)):PE X (.Subscript e (.Slice lo hi none p2) pos) (c4 K (yu FU ue ul uh)):=by
 subst hK;refine(BO BV he hl hh).mono λσ H Q ⟨A,P,R,h,c⟩=>⟨A,_,R,h,λx A1 v H1 p R1 S1 q1=>⟨A1,_,R1,p,λl A2 H2 p R2 S2=>⟨A2,_,R2,p,λu A3 H3 p R3 S3=>?_⟩⟩⟩;obtain⟨e,z,g,p⟩:=p;have q3:=q1.step R1 (S2.trans S3) e;cases x<;>first|exact g.elim|skip
 cases g;obtain⟨a,vs,rfl,h1,h2⟩:=q3.lst R3;exact⟨a,vs,rfl,aN.of h1,λq hq=>c _ A3 _ H3 _ p R3 (S1.trans (S2.trans S3)) ⟨q,.lst _,rfl,rfl,hq,dM hq _,_,bE,yt h2 l u⟩⟩
noncomputable def FW (ue:UE):UE:=λA Q=>ue A λx A1=>∃ xs,x=.lst xs/\Q (.lst xs.reverse) A1
theorem QE {j:Nat}{p3 p4:Pos}(hK:X.K=K)(he:PE X e (az K ue)):PE X (.Subscript e (.Slice none none (some (.UnaryOp .USub (.Constant (.int 1) j p3) p4)) p2) pos) (c4 K (FW ue)):=
 (Pd hK he).mono λσ H Q ⟨A,P,R,h,c⟩=>⟨A,_,R,h,λx A1 v H1 p R1 S1 q1=>by
  obtain⟨xs,rfl,p⟩:=p;obtain⟨a,vs,rfl,h1,h2⟩:=q1.lst R1
  exact⟨a,vs,rfl,aN.of h1,λq hq=>c _ A1 _ H1 _ p R1 S1 ⟨q,.lst _,rfl,rfl,hq,dM hq _,_,bE,h2.rev⟩⟩⟩
end
noncomputable abbrev G1:=PV->PV->Prop
noncomputable def lM (K:Frag)(r:Zv->Hp->VK->Prop)(g:G1):Prop:=∀(H:Hp)(A:AS)(σ:St)(x:PV)(v:V)(z:PV)(Q:VK),Rep K H σ A->bV K A H x v->g x z->(∀ v' H',aS H H'->RV K (AN A) H' z v'->Q v' H')->r [v] H Q
noncomputable def yv (K:Frag)(r:Zv->Hp->VK->Prop)(g:G1):Prop:=∀(H:Hp)(A:AS)(σ:St)(x:PV)(v:V)(z:PV)(Q:VK),Rep K H σ A->bV K A H x v->g x z->(∀ v' H',eK K (AN A) H H' z v'->Q v' H')->r [v] H Q
noncomputable def u1 (g:G1)(ue:UE):UE:=λA Q=>ue A λx A1=>∃ z,g x z/\Q z A1
section
variable {X:Cx}{K:Frag}{e:Expr}{ue:UE}{x:Str}{p pos:Pos}{id T:String}{r:Zv->Hp->VK->Prop}{g:G1}
theorem c1 (br:lM K r g):∀ σ H Q,aB K (u1 g ue) σ H Q->qN r (vx (az K ue) vw) σ H Q:=λσ H Q ⟨A,P,R,h,c⟩=>⟨A,_,R,h,λx A1 v H1 p R1 S1 q1=>by
 obtain⟨z,g,p⟩:=p
 exact br H1 A1 σ x v z Q R1 q1 g λv' H' s rv=>c z A1 v' H' p (R1.same s) (S1.trans (ay.same A1 s)) rv⟩
theorem FX (br:yv K r g):∀ σ H Q,c4 K (u1 g ue) σ H Q->qN r (vx (az K ue) vw) σ H Q:=λσ H Q ⟨A,P,R,h,c⟩=>⟨A,_,R,h,λx A1 v H1 p R1 S1 q1=>by
 obtain⟨z,g,p⟩:=p
 exact br H1 A1 σ x v z Q R1 q1 g λv' H' f=>c z A1 v' H1 H' p R1 S1 f⟩
theorem sQ (hc:cy X (.builtin id) r)(br:lM K r g)(hv:bootBuiltins x=some (.builtin id))(hm:X.mg x=none)(he:PE X e (az K ue))(hg:Gl X x:=by rfl)(hn:x≠"__name__":=by decide)(hd:(x==("__debug__":Str))=false:=by decide)(hs:starEach [e] X.env=[(false,eval e X.env)]:=by rfl) :
  PE X (.Call (.Name x p) [e] [] pos) (aB K (u1 g ue)):=(hU hc hg hm hv (b8 he cO hs) hn hd hs).mono (c1 br)
theorem FY (hc:cy X (.builtin id) r)(br:yv K r g)(hv:bootBuiltins x=some (.builtin id))(hm:X.mg x=none)(he:PE X e (az K ue))(hg:Gl X x:=by rfl)(hn:x≠"__name__":=by decide)(hd:(x==("__debug__":Str))=false:=by decide)(hs:starEach [e] X.env=[(false,eval e X.env)]:=by rfl) :
  PE X (.Call (.Name x p) [e] [] pos) (c4 K (u1 g ue)):=(hU hc hg hm hv (b8 he cO hs) hn hd hs).mono (FX br)
theorem FZ (hc:cy X (.type T) r)(br:lM K r g)(hv:bootBuiltins x=some (.type T))(hm:X.mg x=none)(he:PE X e (az K ue))(hg:Gl X x:=by rfl)(hn:x≠"__name__":=by decide)(hd:(x==("__debug__":Str))=false:=by decide)(hs:starEach [e] X.env=[(false,eval e X.env)]:=by rfl) :
  PE X (.Call (.Name x p) [e] [] pos) (aB K (u1 g ue)):=(vy hc hg hm hv (b8 he cO hs) hn hd hs).mono (c1 br)
theorem F0 (hc:cy X (.type T) r)(br:yv K r g)(hv:bootBuiltins x=some (.type T))(hm:X.mg x=none)(he:PE X e (az K ue))(hg:Gl X x:=by rfl)(hn:x≠"__name__":=by decide)(hd:(x==("__debug__":Str))=false:=by decide)(hs:starEach [e] X.env=[(false,eval e X.env)]:=by rfl) :
  PE X (.Call (.Name x p) [e] [] pos) (c4 K (u1 g ue)):=(vy hc hg hm hv (b8 he cO hs) hn hd hs).mono (FX br)
end
section
variable {X:Cx}{K:Frag}{e:Expr}{ue:UE}{p pos:Pos}{k:Nat}
noncomputable def sR:G1
 |.tup xs,z=>z=.int xs.length
 |.lst xs,z=>z=.int xs.length
 |.str x,z=>x.length<=100000/\z=.int x.length
 |_,_=>False
theorem QF:lM K (λxs H Q=>∃ x n,xs=[x]/\Bq K x H n/\Q (.int n) H) sR:=by
 intro H A σ x v z Q R q1 g c;cases x<;>first|exact g.elim|skip
 ·obtain⟨aF,rfl⟩:=g;cases q1.str;exact⟨_,_,rfl,⟨mU aF,rfl⟩,c _ H (aS.refl H) (.int _)⟩
 ·cases g;obtain⟨a,vs,rfl,h1,h2⟩:=q1.tup;refine⟨_,_,rfl,.inr ⟨vs,h1,rfl⟩,?_⟩;rw[<- h2.len];exact c _ H (aS.refl H) (.int _)
 ·cases g;obtain⟨a,vs,rfl,h1,h2⟩:=q1.lst R;refine⟨_,_,rfl,.inl ⟨vs,aN.of h1,rfl⟩,?_⟩;rw[<- h2.len];exact c _ H (aS.refl H) (.int _)
theorem fH (hK:X.K=K)(hm:X.mg "len"=none)(he:PE X e (az K ue))(hg:Gl X "len":=by rfl)(hs:starEach [e] X.env=[(false,eval e X.env)]:=by rfl):PE X (.Call (.Name "len" p) [e] [] pos) (aB K (u1 sR ue)):=by
 subst hK;exact sQ LM QF PySem.boot_len hm he hg (hs:=hs)
inductive Ty where
 |int|str|bool|tuple|list|dict
noncomputable def Ty.n:Ty->String
 |.int=>"int"
 |.str=>"str"
 |.bool=>"bool"
 |.tuple=>"tuple"
 |.list=>"list"
 |.dict=>"dict"
noncomputable def lO:Ty->PV->Option Bool
 |_,.raw _=>none
 |.int,.int _=>some true
 |.int,.bl _=>some true
 |.str,.str _=>some true
 |.bool,.bl _=>some true
 |.tuple,.tup _=>some true
 |.list,.lst _=>some true
 |.dict,.ah _=>some true
 |_,_=>some false
theorem QH {K:Frag}:∀(t:Ty)(T:String),T∈["NoneType","bool","int","str","list","tuple","dict"]->PySem.W.kitOne K (.type T) (.type t.n)=some (T==t.n||(t.n=="int"&&T=="bool")):=by
 intro t T h;simp only[mem_cons,not_mem_nil,or_false] at h;cases t<;>(rcases h with rfl|rfl|rfl|rfl|rfl|rfl|rfl)<;>with_unfolding_all rfl
theorem QJ {pins:aO}{σ:St}{H:Hp}{s:Shared}{A:Around}{E:aG}{Q:aG}{c:Value}{b:Bool}{a:Addr}{vs:Zv}(I:Inv X pins σ H s)(h1:bt X.K H a vs)(e:PySem.W.kitOne X.K (.type "tuple") c=some b)(h:∀ tk,Q (.bool b) { s with toks:=tk }) :
  wpAny (model X.prog X.w) A (call (.builtin "isinstance") [.ref a,c]) Q E s:=by
 obtain⟨its,_,⟨o,g1,g2,_⟩,_⟩:=I.tuple h1;exact PySem.W.kia_one PySem.W.kitx_tuple I.dH ⟨o,g1,g2⟩ e (λz=>nomatch z) h
theorem QK {pins:aO}{σ:St}{H:Hp}{s:Shared}{A:Around}{E:aG}{Q:aG}{c:Value}{b:Bool}{a:Addr}{kvs:bj}(I:Inv X pins σ H s)(h1:Rd H a (.dK kvs))(e:PySem.W.kitOne X.K (.type "dict") c=some b)(h:∀ tk,Q (.bool b) { s with toks:=tk }) :
  wpAny (model X.prog X.w) A (call (.builtin "isinstance") [.ref a,c]) Q E s:=by
 obtain⟨_,_,vs,_,ob,es,ep,g1,g2,_⟩:=h1.ok I.aA;exact PySem.W.kia_one PySem.W.kitx_dict I.dH ⟨ob,g1,g2.1⟩ e (λz=>nomatch z) h
noncomputable def QL (K:Frag):Zv->Hp->VK->Prop:=λxs H Q=>∃(x:V)(t:Value)(n:Ty)(b:Bool),xs=[x,.ty n.n]/\(fZ K H x t\/(∃ a vs,x=.ref a/\t=.type "tuple"/\bt K H a vs)\/∃ a kvs,x=.ref a/\t=.type "dict"/\Rd H a (.dK kvs))/\PySem.W.kitOne K t (.type n.n)=some b/\Q (.bl b) H
theorem QM:cy X (.builtin "isinstance") (QL X.K):=by
 intro pins s σ H xs us Q I r h;obtain⟨x,t,n,b,rfl,ty,e,q⟩:=h;obtain⟨u,v,rfl,ru,rv⟩:=vals2 r;cases (show v=Value.type n.n from rv);rcases ty with ty|⟨a,vs,rfl,rfl,h1⟩|⟨a,vs,rfl,rfl,h1⟩
 ·exact LQ I ru ty e λtk=>⟨.bl b,H,I.tok tk,rfl,q⟩
 ·cases ru;exact QJ I h1 e λtk=>⟨.bl b,H,I.tok tk,rfl,q⟩
 ·cases ru;exact QK I h1 e λtk=>⟨.bl b,H,I.tok tk,rfl,q⟩
noncomputable def F2 (t:Ty)(ue:UE):UE:=λA Q=>ue A λx A1=>∃ b,lO t x=some b/\Q (.bl b) A1
theorem pA (t:Ty){T:Str}{pt:Pos}(hK:X.K=K)(hm:X.mg "isinstance"=none)(hT:X.mg T=none)(hv:bootBuiltins T=some (.type t.n))(he:PE X e (az K ue))(hg:Gl X "isinstance":=by rfl)(QN:Gl X T:=by rfl)(hn:T≠"__name__":=by decide)(hd:(T==("__debug__":Str))=false:=by decide)
  (hs:starEach [e,.Name T pt] X.env=(false,eval e X.env)::starEach [.Name T pt] X.env:=by rfl)(hs2:starEach [.Name T pt] X.env=[(false,eval (.Name T pt) X.env)]:=by rfl)(hpl:(backTo pos (starEach [.Name T pt] X.env)).any (·.1)=false:=by rfl) :
  PE X (.Call (.Name "isinstance" p) [e,.Name T pt] [] pos) (aB K (F2 t ue)):=by
 subst hK;refine(hU QM hg hm PyProof.Rows.boot_isinstance (b8 he (b8 (Kq (v:=.ty t.n) QN hT hv rfl hn hd) cO hs2) hs) (by decide) (by decide) hs hpl).mono λσ H Q ⟨A,P,R,h,c⟩=>⟨A,_,R,h,λx A1 v H1 p R1 S1 q1=>?_⟩;obtain⟨b,eb,p⟩:=p;have fin:=c _ A1 _ H1 p R1 S1 (.bl b);have one:∀ T,T∈["NoneType","bool","int","str","list","tuple","dict"]->(T==t.n||(t.n=="int"&&T=="bool"))=b->PySem.W.kitOne X.K (.type T) (.type t.n)=some b:=λT h e=>by rw[QH t T h,e]
 cases x with
 |raw w=>cases t<;>cases eb
 |non=>cases q1.non;exact⟨_,_,t,b,rfl,.inl .non,one _ (by simp) (by cases t<;>cases eb<;>rfl),fin⟩
 |bl y=>cases q1.bl;exact⟨_,_,t,b,rfl,.inl (.bl _),one _ (by simp) (by cases t<;>cases eb<;>rfl),fin⟩
 |int y=>cases q1.int;exact⟨_,_,t,b,rfl,.inl (.int _),one _ (by simp) (by cases t<;>cases eb<;>rfl),fin⟩
 |str y=>cases q1.str;exact⟨_,_,t,b,rfl,.inl (.str _),one _ (by simp) (by cases t<;>cases eb<;>rfl),fin⟩
 |tup y=>obtain⟨a,vs,rfl,h1,_⟩:=q1.tup;exact⟨_,_,t,b,rfl,.inr (.inl ⟨a,vs,rfl,rfl,h1⟩),one _ (by simp) (by cases t<;>cases eb<;>rfl),fin⟩
 |lst y=>obtain⟨a,vs,rfl,h1,_⟩:=q1.lst R1;exact⟨_,_,t,b,rfl,.inl (.lst h1),one _ (by simp) (by cases t<;>cases eb<;>rfl),fin⟩
 |ah y=>obtain⟨a,vs,rfl,h1,_⟩:=q1.ah R1;exact⟨_,_,t,b,rfl,.inr (.inr ⟨a,vs,rfl,rfl,h1⟩),one _ (by simp) (by cases t<;>cases eb<;>rfl),fin⟩
noncomputable def yw:G1
 |.tup xs,z=>z=.tup xs
 |.lst xs,z=>z=.tup xs
 |_,_=>False
theorem QP:lM K (λxs H Q=>∃ p ys,xs=[.ref p]/\((aN K H p ys/\∀ l,H l=none->Q (.ref l) (upd H l (.tup ys)))\/(bt K H p ys/\Q (.ref p) H))) yw:=by
 intro H A σ x v z Q R q1 g c;cases x<;>first|exact g.elim|skip
 ·cases g;obtain⟨a,vs,rfl,h1,h2⟩:=q1.tup;exact⟨a,vs,rfl,.inr ⟨h1,c _ H (aS.refl H) (.tup h1 h2)⟩⟩
 ·cases g;obtain⟨a,vs,rfl,h1,h2⟩:=q1.lst R;refine⟨a,vs,rfl,.inl ⟨aN.of h1,λl hl=>?_⟩⟩;have s:=dM hl (.tup vs);exact c _ _ s (.tup (bt.of bE) (h2.imp (iT s)))
theorem kx (hK:X.K=K)(hm:X.mg "tuple"=none)(he:PE X e (az K ue))(hg:Gl X "tuple":=by rfl)(hs:starEach [e] X.env=[(false,eval e X.env)]:=by rfl):PE X (.Call (.Name "tuple" p) [e] [] pos) (aB K (u1 yw ue)):=by
 subst hK;exact FZ MH QP PyProof.Rows.boot_tuple hm he hg (hs:=hs)
noncomputable def yx:G1
 |.int i,z=>z=.int i
 |.bl b,z=>z=.int (if b then 1 else 0)
 |_,_=>False
theorem QQ:lM K (λxs H Q=>(∃ i,xs=[.int i]/\Q (.int i) H)\/∃ k,xs=[.bl k]/\Q (.int (if k then 1 else 0)) H) yx:=by
 intro H A σ x v z Q R q1 g c;cases x<;>first|exact g.elim|skip
 ·cases g;cases q1.bl;exact .inr ⟨_,rfl,c _ H (aS.refl H) (.int _)⟩
 ·cases g;cases q1.int;exact .inl ⟨_,rfl,c _ H (aS.refl H) (.int _)⟩
theorem lP (hm:X.mg "int"=none)(he:PE X e (az K ue))(hg:Gl X "int":=by rfl)(hs:starEach [e] X.env=[(false,eval e X.env)]:=by rfl):PE X (.Call (.Name "int" p) [e] [] pos) (aB K (u1 yx ue)):=FZ LL QQ PyProof.Rows.boot_int hm he hg (hs:=hs)
noncomputable def F3 (ue:UE):UE:=λA Q=>ue A λx A1=>∃ i,x=.int i/\Q (.int (-i)) A1
theorem lQ (he:PE X e (aB K ue)):PE X (.UnaryOp .USub e pos) (aB K (F3 ue)):=(Bk Bm he).mono λσ H Q ⟨A,P,R,h,c⟩=>⟨A,_,R,h,λx A1 v H1 p R1 S1 rv=>by
 obtain⟨i,rfl,p⟩:=p;cases rv
 exact⟨i,rfl,c _ A1 _ H1 p R1 S1 (.int _)⟩⟩
end
end L2
namespace HR
open PySem PyProof.Rows PySem.SeqAt
section
open PySem.AutoSeq1 (wpAny_loadPart')
open PySem.MeetsSeq PySem.MeetsSeq2 PySem.MeetsSeq3
end
end HR
namespace L2
open PySem PySem.Spec PyProof.Rows
section
variable {X:Cx}
end
theorem aI.erase {K:Frag}{N:Addr->Prop}{H:Hp}{xs:ai}{vs:Zv}(h:aI K N H xs vs)(j:Nat):aI K N H (xs.eraseIdx j) (vs.eraseIdx j):=by
 induction vs generalizing xs j with
 |nil=>cases h;exact .nil
 |cons u vs ih=>
  cases h with
  |cons h1 h2=>
   cases j with
   |zero=>exact h2
   |succ j=>exact .cons h1 (ih h2 j)
theorem aI.last {K:Frag}{N:Addr->Prop}{H:Hp}{xs:ai}{x:PV}{vs:Zv}(h:aI K N H (xs++[x]) vs):∃ ws w,vs=ws++[w]/\aI K N H xs ws/\RV K N H x w:=by
 induction xs generalizing vs with
 |nil=>cases h with|cons h1 h2=>cases h2;exact⟨[],_,rfl,.nil,h1⟩
 |cons y ys ih=>
  cases h with
  |cons h1 h2=>
   obtain⟨ws,w,rfl,r1,r2⟩:=ih h2;exact⟨_::ws,w,rfl,.cons h1 r1,r2⟩
noncomputable def pB (i:Nat)(ue:UE):UE:=λA Q=>match A.ae[i]? with
 |some (some (.own a (.lst _)))=>ue A λr A1=>∃ xs,A1.ae[i]?=some (some (.own a (.lst xs)))/\xs.length<=1000000/\Q .non (put A1 i (.own a (.lst (xs++[r]))))
 |_=>False
noncomputable def pD (i:Nat):UE:=λA Q=>match A.ae[i]? with
 |some (some (.own a (.lst xs)))=>∃ ys y,xs=ys++[y]/\Q y (put A i (.own a (.lst ys)))
 |_=>False
noncomputable def sS (i:Nat)(ue:UE):UE:=λA Q=>match A.ae[i]? with
 |some (some (.own a (.lst _)))=>ue A λr A1=>∃ xs ys,A1.ae[i]?=some (some (.own a (.lst xs)))/\(r=.lst ys\/r=.tup ys)/\xs.length+ys.length<=1000000/\Q .non (put A1 i (.own a (.lst (xs++ys))))
 |_=>False
theorem QR {X:Cx}:jo X "list.extend" (λx vs H Q=>∃ l b xs zs,x=.ref l/\vs=[.ref b]/\H l=some (.lst xs)/\bt X.K H b zs/\xs.length+zs.length<=sizeLine/\Q .non (upd H l (.lst (xs++zs)))):=by
 intro pins s σ H x vs v us Q I rx rv h;obtain⟨l,b,xs,zs,rfl,rfl,hH,hB,hz,q⟩:=h;cases rx;obtain⟨u,rfl,ru⟩:=rv.one;cases ru;obtain⟨z,its,n,r,hl,e⟩:=I.iP hH;obtain⟨fA,r2,e2,z2⟩:=I.tuple hB;have oP:=r2.length;obtain⟨ob,e2,c2,n2,d2⟩:=e2;have hsz:its.toArray.size+fA.toArray.size<=sizeLine:=by rw[size_toArray,size_toArray];omega
 have oQ:¬ (!its.toArray.isEmpty&&Builtin.List.listTooLong (its.toArray.size+fA.toArray.size))=true:=by
  rw[vM hsz,Bool.and_false];exact Bool.false_ne_true
 refine wpAny_call_entry PySem.F.slot_list_extend ⟨_,e,rfl⟩ PySem.F.entry_list_extend ?_ (PySem.F.args_list_extend_2 _ _);show wpAny _ _ (Builtin.List.listExtendWith (.ref l) (.ref b) .none) _ _ s;unfold Builtin.List.listExtendWith;refine af (wpAny_typeOf (T:="tuple") ⟨ob,e2,c2⟩ ?_);have h3:(Value.type "tuple"==Value.type "tuple")=true:=by decide
 simp only[h3,Bool.or_true,if_true];unfold Builtin.List.listItems;refine af (af (wpAny_seqItems e2 d2 (ao ?_)));refine af (af (wpAny_seqItems e rfl (ao ?_)));rw[if_neg oQ];show wpAny _ _ (updateSeq l (·++fA.toArray) >>= _) _ _ s;refine af (wpAny_updateSeq e rfl ?_ (by rw[size_toArray];omega) (by rw[Array.size_append];omega));refine ao ⟨_,rfl,.non,_,I.oO (its':=its++fA) (t':=s.toks) hH e (by simp) (r.append r2) ?_,rfl,q⟩;rw[length_append];omega
theorem jo.or {X:Cx}{id:String}{r r':V->Zv->Hp->VK->Prop}(h:jo X id r)(h':jo X id r'):jo X id (λx xs H Q=>r x xs H Q\/r' x xs H Q):=λpins s σ H x xs v us Q I rx rs q=>q.elim (h pins s σ H x xs v us Q I rx rs) (h' pins s σ H x xs v us Q I rx rs)
theorem sT {n:Nat}(h:n<=1000000):n<=sizeLine:=aP h (by decide)
section
variable {X:Cx}{K:Frag}{e:Expr}{ue:UE}{apos bh bB:Pos}{k:Nat}
theorem fR (hK:X.K=K)(i:Nat){x:Str}(he:PE X e (aB K ue))(hN:X.N[i]?=some x:=by rfl)(hv:dj X.env.scope x:=by walk_at "v")(hd:(x==("__debug__":Str))=false:=by decide)(bK:(x==("__classdict__":Str))=false:=by decide)
  (d5:attributeBase (.Name x bB) "append" X.env (eval (.Name x bB) X.env)=eval (.Name x bB) X.env:=by rfl)
  (h_:((backTo bh (starEach [e] X.env)).all (λx=>!x.1)&&(backToKw bh (keywordEach [] X.env)).all (λx=>x.1.isSome)&&decide ([e].length+([]:List Keyword).length+(if ([]:List Keyword).isEmpty then 0 else 1)<30))=true:=by rfl)
  (d6:(apos.endLine==bh.line)=true:=by rfl)(hs:starEach [e] X.env=[(false,eval e X.env)]:=by rfl):PE X (.Call (.Attribute (.Name x bB) "append" apos) [e] [] bh) (aB K (pB i ue)):=by
 subst hK;refine(oN PySem.F.plainAttrs_list PySem.F.slot_list_append PySem.F.type_list_append vN (dZ hN hv hd bK) (b8 he cO hs) d5 h_ d6 hs rfl).mono λσ H Q ⟨A,P,R,h,c⟩=>?_;unfold pB at h
 split at h
 ·rename_i a ys hx;obtain⟨v,ev,rfl,nb,vs,h1,h2⟩:=R.sl i _ hx;refine⟨_,ev,.inl ⟨rfl,_,aN.of h1⟩,A,_,R,h,λr A1 w H1 p R1 S1 dJ=>?_⟩;obtain⟨xs,hA,aF,p⟩:=p;obtain⟨_,_,_,_,us,g1,g2⟩:=R1.sl i _ hA;have:=g2.len;obtain⟨R2,S2⟩:=R1.turn hA (g2.app (.cons dJ .nil));exact⟨a,us,w,rfl,rfl,g1,Nat.lt_of_le_of_lt (by omega:us.length<=1000000) (by decide),c _ _ _ _ p R2 (S1.trans S2) .non⟩
 ·exact h.elim
theorem QS (hK:X.K=K)(i:Nat){x:Str}(hN:X.N[i]?=some x:=by rfl)(hv:dj X.env.scope x:=by walk_at "v")(hd:(x==("__debug__":Str))=false:=by decide)(bK:(x==("__classdict__":Str))=false:=by decide)
  (d5:attributeBase (.Name x bB) "pop" X.env (eval (.Name x bB) X.env)=eval (.Name x bB) X.env:=by rfl)(d6:(apos.endLine==bh.line)=true:=by rfl):PE X (.Call (.Attribute (.Name x bB) "pop" apos) [] [] bh) (aB K (pD i)):=by
 subst hK;refine(MK PySem.F.plainAttrs_list PySem.F.slot_list_pop PySem.F.type_list_pop MS (dZ hN hv hd bK) d5 d6).mono λσ H Q ⟨A,P,R,h,c⟩=>?_;unfold pD at h
 split at h
 ·rename_i a xs hx;obtain⟨v,ev,rfl,nb,vs,h1,h2⟩:=R.sl i _ hx;obtain⟨ys,y,rfl,h⟩:=h;obtain⟨ws,w,rfl,g1,g2⟩:=h2.last;obtain⟨R2,S2⟩:=R.turn hx g1;refine⟨_,ev,.inl ⟨rfl,_,aN.of h1⟩,a,_,w,rfl,rfl,h1,by simp,?_⟩;rw[dropLast_concat];exact c _ _ _ _ h R2 S2 (g2.imp (R.keep S2))
 ·exact h.elim
theorem QU (hK:X.K=K)(i:Nat){x:Str}(he:PE X e (az K ue))(hN:X.N[i]?=some x:=by rfl)(hv:dj X.env.scope x:=by walk_at "v")(hd:(x==("__debug__":Str))=false:=by decide)(bK:(x==("__classdict__":Str))=false:=by decide)
  (d5:attributeBase (.Name x bB) "extend" X.env (eval (.Name x bB) X.env)=eval (.Name x bB) X.env:=by rfl)
  (h_:((backTo bh (starEach [e] X.env)).all (λx=>!x.1)&&(backToKw bh (keywordEach [] X.env)).all (λx=>x.1.isSome)&&decide ([e].length+([]:List Keyword).length+(if ([]:List Keyword).isEmpty then 0 else 1)<30))=true:=by rfl)
  (d6:(apos.endLine==bh.line)=true:=by rfl)(hs:starEach [e] X.env=[(false,eval e X.env)]:=by rfl):PE X (.Call (.Attribute (.Name x bB) "extend" apos) [e] [] bh) (aB K (sS i ue)):=by
 subst hK;refine(oN PySem.F.plainAttrs_list PySem.F.slot_list_extend PySem.F.type_list_extend (MQ.or QR) (dZ hN hv hd bK) (b8 he cO hs) d5 h_ d6 hs rfl).mono λσ H Q ⟨A,P,R,h,c⟩=>?_;unfold sS at h
 split at h
 ·rename_i a ys hx;obtain⟨v,ev,rfl,nb,vs,h1,h2⟩:=R.sl i _ hx;refine⟨_,ev,.inl ⟨rfl,_,aN.of h1⟩,A,_,R,h,λr A1 w H1 p R1 S1 q1=>?_⟩;obtain⟨xs,ys,hA,hr,aF,p⟩:=p;obtain⟨_,_,_,_,us,g1,g2⟩:=R1.sl i _ hA;have l1:=g2.len;rcases hr with rfl|rfl
  ·obtain⟨b,ws,rfl,f1,f2⟩:=q1.lst R1;have l2:=f2.len;obtain⟨R2,S2⟩:=R1.turn hA (g2.app f2);exact .inl ⟨a,b,us,ws,rfl,rfl,g1,f1,sT (by omega),c _ _ _ _ p R2 (S1.trans S2) .non⟩
  ·obtain⟨b,ws,rfl,f1,f2⟩:=q1.tup;have l2:=f2.len;obtain⟨R2,S2⟩:=R1.turn hA (g2.app f2);exact .inr ⟨a,b,us,ws,rfl,rfl,g1,f1,sT (by omega),c _ _ _ _ p R2 (S1.trans S2) .non⟩
 ·exact h.elim
end
noncomputable def sU (cells:List (Str×Addr)):List (Str×NameKind)->Bool
 |[]=>true
 |(x,.free)::r=>(cells.lookup x).isSome&&sU cells r
 |_::r=>sU cells r
theorem yy {cells:List (Str×Addr)}:∀{l:List (Str×NameKind)},sU cells l=true->∀ y∈l,y.2=.free->∃ c,cells.lookup y.1=some c
 |[],_,y,hy,_=>by cases hy
 |(x,k)::r,h,y,hy,hf=>by
  rcases mem_cons.mp hy with e|e
  ·subst e;cases hf;exact Option.isSome_iff_exists.mp (Bool.and_eq_true_iff.mp h).1
  ·refine yy (l:=r) ?_ y e hf;cases k<;>first|exact h|exact(Bool.and_eq_true_iff.mp h).2
theorem yz {env:Env}:∀(names:List (Str×NameKind))(acc:List (Str×Addr))(x:Str)(c:Addr),(x,c)∈fE env names acc->(x,c)∈acc\/(x,NameKind.free)∈names
 |[],_,_,_,h=>.inl h
 |(n,k)::r,acc,x,c,h=>by
  unfold fE at h
  split at h
  ·rename_i hk;have:k=NameKind.free:=by simpa using hk
   subst this;rcases yz r _ x c h with z|z
   ·rcases mem_cons.mp z with e|z
    ·cases e;exact .inr mem_cons_self
    ·exact .inl z
   ·exact .inr (mem_cons_of_mem _ z)
  ·rcases yz r _ x c h with z|z
   ·exact .inl z
   ·exact .inr (mem_cons_of_mem _ z)
noncomputable def sV:Option NameKind->Bool
 |some .cell=>true
 |some .free=>true
 |_=>false
theorem F4 {o:Option NameKind}(h:sV o=true):o=some .cell\/o=some .free:=by
 unfold sV at h
 split at h
 ·exact .inl rfl
 ·exact .inr rfl
 ·cases h
noncomputable def sW (XN:aq)(e:Env)(sc:List (Str×NameKind)):List Nat->aq->Bool
 |j::ix,x::N=>(match XN[j]? with|some y=>y==x|none=>false)&&sV (e.kindOf x)&&sV (sc.lookup x)&&sW XN e sc ix N
 |_,_=>true
theorem F5 {XN:aq}{e:Env}{sc:List (Str×NameKind)}:∀{ix:List Nat}{N:aq},sW XN e sc ix N=true->∀(i j:Nat)(x:Str),ix[i]?=some j->N[i]?=some x->XN[j]?=some x/\(e.kindOf x=some .cell\/e.kindOf x=some .free)/\(sc.lookup x=some .cell\/sc.lookup x=some .free)
 |[],_,_,i,j,x,h1,_=>by simp at h1
 |_::_,[],_,i,j,x,_,h2=>by simp at h2
 |a::ix,b::N,h,i,j,x,h1,h2=>by
  simp only[sW,Bool.and_eq_true] at h;obtain⟨⟨⟨q1,q2⟩,q3⟩,q4⟩:=h
  cases i with
  |zero=>
   cases h1;cases h2;refine⟨?_,F4 q2,F4 q3⟩
   split at q1
   ·rename_i y hy;rw[hy];rw[show y=b by simpa using q1]
   ·cases q1
  |succ i=>exact F5 q4 i j x (by simpa using h1) (by simpa using h2)
theorem cS {X:Cx}{sc:Scope}{N:aq}{k:Nat}{ix:List Nat}(kind:sc.kind=.function:=by rfl)(names:∀ y∈sc.names,y.2=.local->sc.names.lookup y.1=some .local:=by decide +kernel)
  (F6:sU X.env.cells sc.names=true:=by rfl)(rq:∀ y∈sc.names,y.2=.cell->(y.1,NameKind.free)∉sc.names:=by decide +kernel)(len:N.length=k+ix.length:=by rfl)
  (rA:sW X.N X.env (relabel sc X.env).names ix (N.drop k)=true:=by rfl)
  (nc:∀ x∈N.drop k,(x,NameKind.cell)∉sc.names:=by decide +kernel):ib X sc (fE X.env sc.names []) N k ix where
 wb:=Nw (yy F6)
 kind:=kind
 names:=names
 sub:=λx c h=>v9 sc.names [] (yy F6) (λ_ hp=>nomatch hp) (x,c) h
 has:=λx h=>wa (env:=X.env) sc.names [] x h
 fr:=λx c h=>(yz sc.names [] x c h).elim (λz=>nomatch z) id
 rq:=λx h=>rq (x,.cell) h rfl
 len:=len
 rA:=λi j x h1 h2=>by
  obtain⟨a,b,c⟩:=F5 rA i j x h1 (by rw[getElem?_drop];exact h2);exact⟨a,b,c,nc x (mem_of_getElem? (i:=i) (by rw[getElem?_drop];exact h2))⟩
noncomputable def F7 (ue:UE)(g:UG):US:=λE A=>ue A λx A1=>g x A1 E.nx
theorem eW {X:Cx}{K:Frag}{tg e:Expr}{ue:UE}{g:UG}{pos:Pos}(he:PE X e (aB K ue))(hg:PG X tg (jx K g))(hs:swapsWithSole [tg] e pos.line X.env=pure false:=by rfl)(hw:swappedStores [tg] e X.env=pure none:=by rfl)
  (h1:(assignEach [tg] X.env).map (·.2)=[assign tg X.env]:=by rfl):PS X (.Assign [tg] e pos) (b9 K (F7 ue g)):=(Bh he hg hs hw h1).mono λD σ H ⟨A,E,R,h,k⟩=>
 ⟨A,_,R,h,λx A1 v H1 p R1 S1 rv=>⟨x,A1,_,R1,rv,p,λA2 bH p2 R2 S2=>k.nx A2 bH H1 p2 R2 (S1.trans S2)⟩⟩
noncomputable def F8 (G G':G2)(ua ub uc:UE):UT:=λA Q=>ua A λx A1=>ub A1 λy A2=>A2.ae=A1.ae/\∃ z,G x y (.bl z)/\if z=true then uc A2 λw A3=>A3.ae=A2.ae/\∃ z',G' y w (.bl z')/\Q z' A3 else Q false A2
section
variable {X:Cx}{K:Frag}{a b c:Expr}{ua ub uc:UE}{pos:Pos}{r r':R2}{G G':G2}{op k0:CmpOp}
theorem QW (ho:bz X (compareOp op) r)(e_:bz X (compareOp k0) r')(br:dz K r G)(QX:dz K r' G')(ha:PE X a (az K ua))(hb:PE X b (az K ub))(hc:PE X c (az K uc))(hm:lastMarks [op,k0] [b,c]=false:=by with_unfolding_all rfl) :
  PT X (.Compare a [op,k0] [b,c] pos) (liftT K (F8 G G' ua ub uc)):=(LC ho e_ ha hb hc hm).mono λσ H Q ⟨A,P,R,h,c⟩=>
 ⟨A,_,R,h,λx A1 v H1 p1 R1 S1 q1=>⟨A1,_,R1,p1,λy A2 w H2 p2 R2 S2 q2=>by
  obtain⟨e,z,g,p⟩:=p2;refine br H2 A2 σ x y v w (.bl z) _ R2 (q1.step R1 S2 e) q2 g λv' H' s rv=>?_;cases rv;refine⟨z,rfl,?_⟩;have R3:=R2.same s;have S3:=S1.trans (S2.trans (ay.same A2 s))
  cases z with
  |false=>exact lj ⟨false,rfl,c _ A2 H' p R3 S3⟩
  |true=>
   refine lq ⟨A2,_,R3,p,λt A3 u H4 p4 R4 S4 q4=>?_⟩;obtain⟨e4,z',g',p4⟩:=p4
   exact QX H4 A3 σ y t w u (.bl z') _ R4 ((q2.step R2 (ay.same A2 s) rfl).step R3 S4 e4) q4 g' λZW jz s' ir=>by
    cases ir
    exact⟨z',rfl,c z' A3 jz p4 (R4.same s') (S3.trans (S4.trans (ay.same A3 s')))⟩⟩⟩
end
noncomputable def sX:Nat->ag->PV
 |4,st=>.int st.b.nm
 |5,st=>.int st.b.pt
 |6,st=>.int st.b.z
 |_,_=>.non
noncomputable def yA (i j:Nat):UE:=λA Q=>∃ st,A.S=some st/\A.ae[i]?=some (some (.val (.raw (.ref st.d))))/\Q (sX j st) A
noncomputable def i2 (j:Nat)(v:Int)(st:ag):ag:=match j with
 |4=>{ st with b:={ st.b with nm:=v } }
 |5=>{ st with b:={ st.b with pt:=v } }
 |_=>st
noncomputable def yB (i j:Nat)(ue:UE):US:=λE A=>ue A λx A1=>∃ st v,A1.S=some st/\A1.ae[i]?=some (some (.val (.raw (.ref st.d))))/\x=.int v/\E.nx { A1 with S:=some (i2 j v st) }
section
variable {X:Cx}{K:Frag}{e:Expr}{ue:UE}{pos bB f6 cZ:Pos}{k kk:Nat}
theorem ng (hr:bP k X.A)(i j:Nat){x key:Str}(hj:4<=j)(ZX:j<=6)(hk:SK[j]?=some (.inr key))(hN:X.N[i]?=some x:=by rfl)(hv:dj X.env.scope x:=by walk_at "v")(hd:(x==("__debug__":Str))=false:=by decide)(bK:(x==("__classdict__":Str))=false:=by decide)
  (hs:qV (.Constant (.str key) kk f6):=by intro _ _;rfl):PE X (.Subscript (.Name x bB) (.Constant (.str key) kk f6) pos) (aB K (yA i j)):=(f7 (gB hr) (dZ hN hv hd bK) cT hs).mono λσ H Q ⟨A,P,R,h,c⟩=>by
 obtain⟨st,hS,hx,h⟩:=h;obtain⟨v,ev,rv⟩:=R.sl i _ hx;cases (show RV K (AN A) H (.raw (.ref st.d)) v from rv);obtain⟨t,l,w,e,_⟩:=(R.st st hS).2.1.ex
 have main:∀ z w',(SV st.a t l w st.b)[j]?=some w'->sX j st=z->RV K (AN A) H z w'->∃ v,σ[i]?=some (some v)/\tC (.str key) σ H (λy H2=>∃ a v',v=.ref a/\fc H2 a y (some v')/\Q v' H2):=λz w' hw hz rz=>by
  subst hz;exact⟨_,ev,_,w',rfl,fN e hk hw,c _ A _ H h R (ay.refl A H) rz⟩
 have QY:j=4\/j=5\/j=6:=by omega
 rcases QY with rfl|rfl|rfl
 ·exact main _ _ rfl rfl (.int _)
 ·exact main _ _ rfl rfl (.int _)
 ·exact main _ _ rfl rfl (.int _)
theorem F9 (hr:bP k X.A)(i j:Nat){x key:Str}(hj:j=4\/j=5)(hk:SK[j]?=some (.inr key))(he:PE X e (aB K ue))(hN:X.N[i]?=some x:=by rfl)(hv:dj X.env.scope x:=by walk_at "v")(hd:(x==("__debug__":Str))=false:=by decide)(bK:(x==("__classdict__":Str))=false:=by decide)
  (hs:swapsWith e (some (.Subscript (.Name x bB) (.Constant (.str key) kk f6) pos)) cZ.line X.env=pure false:=by rfl):PS X (.Assign [.Subscript (.Name x bB) (.Constant (.str key) kk f6) pos] e cZ) (b9 K (yB i j ue)):=(jZ (gB hr) (dZ hN hv hd bK) cT he hs).mono λD σ H ⟨A,E,R,h,k⟩=>by
 refine⟨A,_,R,h,λx A1 v H1 p R1 S1 rv=>?_⟩;obtain⟨st,n,hS,hx,rfl,p⟩:=p;obtain⟨v',ev,ir⟩:=R1.sl i _ hx;cases (show RV K (AN A1) H1 (.raw (.ref st.d)) v' from ir);cases rv;obtain⟨b1,s0,h3⟩:=R1.st st hS;obtain⟨t,l,w,e,g1,g2,g3⟩:=s0.ex;have d4:iN H1 st.d (.str key) (.int n) (upd H1 st.d (.dK (SK.zip ((SV st.a t l w st.b).set j (.int n))))):=dput e rfl hk;have b4:cB st.d H1 (upd H1 st.d (.dK (SK.zip ((SV st.a t l w st.b).set j (.int n))))):=λc o h nc=>by rw[a8 nc];exact h
 have s4:cF (upd H1 st.d (.dK (SK.zip ((SV st.a t l w st.b).set j (.int n))))) st.d st.a st.n (i2 j n st).b:=by
  rcases hj with rfl|rfl
  ·exact⟨⟨t,l,w,bE,g1,g2,g3⟩,s0.vY rfl⟩
  ·exact⟨⟨t,l,w,bE,g1,g2,g3⟩,s0.vY rfl⟩
 have sp:(i2 j n st).d=st.d/\(i2 j n st).a=st.a/\(i2 j n st).n=st.n:=by rcases hj with rfl|rfl<;>exact⟨rfl,rfl,rfl⟩
 have QZ:eJ K (upd H1 st.d (.dK (SK.zip ((SV st.a t l w st.b).set j (.int n))))) (i2 j n st).a:=by
  rw[sp.2.1]
  exact h3.iS λo u ho=>by
   rw[a8 λz=>by rw[z,e] at ho;cases ho];exact ho
 obtain⟨R2,S2⟩:=Ft (st':=i2 j n st) R1 hS b4 sp.1 (by rw[sp.1,sp.2.1,sp.2.2];exact s4) QZ;exact⟨_,ev,_,_,rfl,d4,k.nx _ σ _ p R2 (S1.trans S2)⟩
end
noncomputable def F_:Tr:=λxs st P=>∃ m,xs=[.raw (.ref st.d),.int m]/\st.n<=100000/\0<m/\m<2 ^ 200/\∀ r:Int,0<=r->r<m->P (.int r) { st with n:=st.n+1 }
theorem Q0 {K:Frag}{vs:Zv}{H:Hp}{Q:VK}{E:XK}(h:spS K false F_ vs H Q E):j8 K vs H Q E:=by
 obtain⟨B,xs,st,P,df,hd,h1,h2,rv,⟨m,rfl,n1,m0,m1,p⟩,fin⟩:=h
 cases rv with
 |cons r1 r2=>
  cases r1
  cases r2 with
  |cons r3 r4=>
   cases r3;cases r4
   exact⟨st.d,st.a,st.n,st.b,m,rfl,h1,h2.PF,n1,m0,m1,λr H' a1 a2 s b=>fin _ { st with n:=st.n+1 } _ H' (p r a1 a2) rfl s (by
    obtain⟨kvs,e⟩:=h1.dk
    exact h2.iS λo u h2=>b _ _ h2 (λz=>by rw[z,e] at h2;cases h2)) ⟨b,.int r⟩⟩
theorem fc.kR {H:Hp}{a:Addr}{kvs:bj}{k:Key}(e:Rd H a (.dK kvs)):fc H a (kV k) (dq kvs k):=.inl ⟨kvs,k,e,rfl,rfl⟩
noncomputable def pk:PV->Option Key
 |.int i=>some (.inl i)
 |.str s=>some (.inr s)
 |_=>none
noncomputable def kP:Key->PV
 |.inl i=>.int i
 |.inr s=>.str s
theorem Q1 (k:Key):pk (kP k)=some k:=by cases k<;>rfl
noncomputable def bZ:aT->Key->Option PV
 |[],_=>none
 |(p,x)::r,k=>if pk p=some k then some x else bZ r k
noncomputable def dQ (kvs:aT)(k:Key)(v:PV):aT:=if (bZ kvs k).isSome then kvs.map (λkv=>if pk kv.1=some k then (kv.1,v) else kv) else kvs++[(kP k,v)]
section
variable {K:Frag}{N:Addr->Prop}{H:Hp}
theorem sY {p:PV}{k:Key}(r:RV K N H p (kV k)):pk p=some k:=by
 cases k with
 |inl i=>cases (show RV K N H p (.int i) from r);rfl
 |inr i=>cases (show RV K N H p (.str i) from r);rfl
theorem sZ {p:PV}{v:V}{k:Key}(h:pk p=some k)(r:RV K N H p v):v=kV k:=by
 cases p<;>first|(cases h;done)|(cases h;cases r;rfl)
theorem Q2 (k:Key):RV K N H (kP k) (kV k):=by
 cases k with
 |inl i=>exact .int i
 |inr i=>exact .str i
noncomputable abbrev gg (kv:Key×V):V×V:=(kV kv.1,kv.2)
theorem pE:∀{kvs:aT}{av:bj},bR K N H kvs (av.map gg)->∀ k,(∀ x,bZ kvs k=some x->∃ v,dq av k=some v/\RV K N H x v)/\(bZ kvs k=none->dq av k=none)
 |[],[],_,k=>⟨λx h=>(by cases h),λ_=>rfl⟩
 |[],_::_,h,_=>nomatch h
 |_::_,[],h,_=>nomatch h
 |(p,x)::kvs,kw::av,h,k=>by
  cases h with
  |cons r1 r2 r3=>
   have e:=sY r1;have ih:=pE r3 k;by_cases hk:kw.1=k
   ·have e':pk p=some k:=by rw[e,hk]
    unfold bZ;rw[if_pos e',oF hk];exact⟨λy hy=>(by cases hy;exact⟨_,rfl,r2⟩),λz=>by cases z⟩
   ·have e':¬ pk p=some k:=by rw[e];exact λz=>hk (Option.some.inj z)
    unfold bZ;rw[if_neg e',oG hk];exact ih
theorem F' {kvs:aT}{av:bj}(h:bR K N H kvs (av.map gg))(k:Key):(bZ kvs k).isSome=(dq av k).isSome:=by
 cases e:bZ kvs k with
 |none=>rw[(pE h k).2 e];rfl
 |some x=>obtain⟨v,hv,_⟩:=(pE h k).1 x e;rw[hv];rfl
theorem bR.app {kvs nh:aT}{vs Ga:List (V×V)}(h:bR K N H kvs vs)(g:bR K N H nh Ga):bR K N H (kvs++nh) (vs++Ga):=by
 induction vs generalizing kvs with
 |nil=>cases h;exact g
 |cons v vs ih=>cases h with|cons h1 h2 h3=>exact .cons h1 h2 (ih h3)
theorem s_ {kvs:aT}{av:bj}(h:bR K N H kvs (av.map gg))(k:Key){x:PV}{v:V}(r:RV K N H x v):bR K N H (dQ kvs k x) ((putK av k v).map gg):=by
 unfold dQ putK;rw[mB,F' h k]
 cases e:(dq av k).isSome with
 |false=>
  rw[if_neg Bool.false_ne_true,if_neg Bool.false_ne_true,map_append];exact h.app (.cons (Q2 k) r .nil)
 |true=>
  rw[if_pos rfl,if_pos rfl];clear e
  have z:∀{kvs:aT}{av:bj},bR K N H kvs (av.map gg)->bR K N H (kvs.map λkv=>if pk kv.1=some k then (kv.1,x) else kv) ((av.map λkv=>if kv.1=k then (kv.1,v) else kv).map gg):=by
   intro kvs
   induction kvs with
   |nil=>intro av h;cases av with|nil=>exact .nil|cons _ _=>cases h
   |cons p kvs ih=>
    intro av h
    cases av with
    |nil=>cases h
    |cons kw av=>
     cases h with
     |cons r1 r2 r3=>
      have e:=sY r1;rw[map_cons,map_cons,map_cons];by_cases hk:kw.1=k
      ·rw[if_pos hk,if_pos (by show pk _=_;rw[e,hk])];exact .cons r1 r (ih r3)
      ·rw[if_neg hk,if_neg (by show ¬ pk _=_;rw[e];exact λz=>hk (Option.some.inj z))];exact .cons r1 r2 (ih r3)
  exact z h
end
section
variable {X:Cx}{K:Frag}{e:Expr}{ue:UE}{pos:Pos}
theorem Ge:PE X (.Dict [] [] pos) (c4 K (uC (.ah []))):=Mb.mono λσ H Q ⟨A,P,R,h,c⟩=>λp hp=>
 c _ A _ H _ h R (ay.refl A H) ⟨p,.ah [],rfl,rfl,hp,dM hp _,[],bE,.nil⟩
end
theorem Rep.yC {K:Frag}{H:Hp}{σ:St}{A:AS}{i:Nat}(R:Rep K H σ A){a:Addr}{xs ys:aT}{vs:bj}(hi:A.ae[i]?=some (some (.own a (.ah xs))))(r:bR K (AN A) H ys (vs.map gg)):Rep K (upd H a (.dK vs)) σ (put A i (.own a (.ah ys)))/\ay A H (put A i (.own a (.ah ys))) (upd H a (.dK vs)):=by
 obtain⟨v,ev,rfl,nb,us,ha,_⟩:=R.sl i _ hi
 have ow:∀ b,Own (put A i (.own a (.ah ys))).ae b->Own A.ae b:=by
  rintro b ⟨j,c,h⟩;rcases cG h with ⟨_,z⟩|⟨_,z⟩
  ·cases z;exact⟨i,_,hi⟩
  ·exact⟨j,c,z⟩
 have dm:∀ b,H b≠none->upd H a (.dK vs) b≠none:=λb h=>by
  by_cases e:b=a
  ·subst e;rw[bE];intro z;cases z
  ·rw[a8 e];exact h
 have S:ay A H (put A i (.own a (.ah ys))) (upd H a (.dK vs)):=⟨λb o h m=>by
  rw[a8 λe=>m (.inl ⟨i,_,by rw[e];exact hi⟩)];exact h,λb z=>.inl (ow b z),rfl,dm,rfl⟩
 have kp:=R.keep S;refine⟨⟨?_,?_,λb h=>dm b (R.df b h),?_,?_,?_⟩,S⟩
 ·rw[R.len];exact(length_set ..).symm
 ·intro j t h;rcases cG h with ⟨rfl,z⟩|⟨n,z⟩
  ·cases z;exact⟨_,ev,rfl,nb,vs,bE,r.imp kp⟩
  ·obtain⟨w,e1,q⟩:=R.sl j t z;refine⟨w,e1,?_⟩
   cases t with
   |val x=>exact q.imp kp
   |own b c=>
    have lD:b≠a:=λe=>n (by subst e;exact R.nd _ _ _ _ _ hi z);exact⟨q.1,q.2.1,q.2.2.imp kp λo h=>by rw[a8 lD];exact h⟩
   |peek b c=>
    have lD:b≠a:=λe=>nb (by subst e;exact q.2.1);exact⟨q.1,q.2.1,q.2.2.imp kp λo h=>by rw[a8 lD];exact h⟩
 ·intro i1 j1 b c1 c2 h1 h2;rcases cG h1 with ⟨e1,z1⟩|⟨_,z1⟩
  ·cases z1;rcases cG h2 with ⟨e2,z2⟩|⟨_,z2⟩
   ·exact e1.symm.trans e2
   ·exact e1.symm.trans (R.nd _ _ _ _ _ hi z2)
  ·rcases cG h2 with ⟨e2,z2⟩|⟨_,z2⟩
   ·cases z2;exact(R.nd _ _ _ _ _ z1 hi).trans e2
   ·exact R.nd _ _ _ _ _ z1 z2
 ·intro st h;obtain⟨h1,h2,h3⟩:=R.st st h;have nd:a≠st.d:=λe=>nb (by rw[e];exact h1);refine⟨h1,h2.upd nd (λps z=>by rw[ha] at z;cases z),?_⟩
  exact h3.iS λo u h3=>by
   rw[a8 λe=>by rw[e,ha] at h3;cases h3];exact h3
 ·intro i1 b c1 st h1 h2;rcases cG h1 with ⟨_,z⟩|⟨_,z1⟩
  ·cases z
  ·exact R.pk _ _ _ _ z1 h2
noncomputable def yD (i:Nat)(ue uk:UE):US:=λE A=>ue A λv A1=>match A1.ae[i]? with
 |some (some (.own a (.ah _)))=>uk A1 λkp A2=>∃ k xs,pk kp=some k/\A2.ae[i]?=some (some (.own a (.ah xs)))/\xs.length<=1000000/\E.nx (put A2 i (.own a (.ah (dQ xs k v))))
 |_=>False
theorem bR.len {K:Frag}{N:Addr->Prop}{H:Hp}{xs:aT}{vs:List (V×V)}(h:bR K N H xs vs):xs.length=vs.length:=by
 induction vs generalizing xs with
 |nil=>cases h;rfl
 |cons v vs ih=>cases h with|cons h1 h2 h3=>rw[length_cons,length_cons,ih h3]
section
variable {X:Cx}{K:Frag}{e ke de fe:Expr}{ue uk ud uf:UE}{pos bB cZ apos bh:Pos}{k:Nat}
theorem yE (hr:bP k X.A)(i:Nat){x:Str}(he:PE X e (aB K ue))(hk:PE X ke (aB K uk))(hN:X.N[i]?=some x:=by rfl)(hv:dj X.env.scope x:=by walk_at "v")(hd:(x==("__debug__":Str))=false:=by decide)(bK:(x==("__classdict__":Str))=false:=by decide)
  (hs:swapsWith e (some (.Subscript (.Name x bB) ke pos)) cZ.line X.env=pure false:=by rfl):PS X (.Assign [.Subscript (.Name x bB) ke pos] e cZ) (b9 K (yD i ue uk)):=(jZ (gB hr) (dZ hN hv hd bK) hk he hs).mono λD σ H ⟨A,E,R,h,k⟩=>by
 refine⟨A,_,R,h,λv A1 w H1 p R1 S1 rv=>?_⟩
 split at p
 ·rename_i a ys hx;obtain⟨_,ev,rfl,nb,vs,h1,h2⟩:=R1.sl i _ hx;refine⟨_,ev,A1,_,R1,p,λkp A2 kw H2 p2 R2 S2 rk=>?_⟩;obtain⟨key,xs,jj,hA,aF,p2⟩:=p2;obtain⟨_,_,_,_,us,g1,g2⟩:=R2.sl i _ hA;cases sZ jj rk;have ll:=g2.len;rw[length_map] at ll;obtain⟨R3,S3⟩:=R2.yC hA (s_ g2 key (rv.imp (R1.keep S2)));exact⟨a,_,rfl,iN.k g1 (Nat.lt_of_le_of_lt (by omega:us.length<=1000000) (by decide)),k.nx _ σ _ p2 R3 (S1.trans (S2.trans S3))⟩
 ·exact p.elim
noncomputable def pF:G2
 |.ah kvs,kp,z=>∃ k,pk kp=some k/\bZ kvs k=some z
 |_,_,_=>False
noncomputable def Gf (neg:Bool):G2
 |kp,.ah kvs,z=>∃ k,pk kp=some k/\z=.bl (neg^^(bZ kvs k).isSome)
 |_,_,_=>False
theorem Gg {u:UE}{t:TE}(h:∀ σ H Q,aB K u σ H Q->t σ H Q):∀ σ H Q,liftT K (uB u) σ H Q->tB t σ H Q:=λσ H Q ⟨A,P,R,hu,c⟩=>h σ H _ ⟨A,_,R,hu,λx A1 v H1 p R1 S1 rv=>by
 obtain⟨b,rfl,p⟩:=p;cases rv
 exact⟨b,rfl,c b A1 H1 p R1 S1⟩⟩
end
noncomputable def yF (K:Frag)(H:Hp)(kv:Key×V)(v:V):Prop:=∃ a,v=.ref a/\bt K H a [kV kv.1,kv.2]
theorem Gh {X:Cx}(hc:X.calm=true):cy X (.type "dict") (λxs H Q=>∃(l:Addr)(vs:Zv)(kvs:bj),xs=[.ref l]/\H l=some (.lst vs)/\Rl (yF X.K H) kvs vs/\kvs.length<=1000/\∀ p,H p=none->Q (.ref p) (upd H p (.dK (rZ kvs)))):=by
 intro pins s σ H xs us Q I r h;obtain⟨l,vs,kvs,rfl,hl,rl,aF,q⟩:=h;obtain⟨u,rfl,ru⟩:=vals1 r;cases ru;obtain⟨z,its,n,rv,hlen,e⟩:=I.iP hl;have len:=rl.len
 have all:∀{kvs:bj}{vs:Zv}{its:aC},Rl (yF X.K H) kvs vs->Vals vs its->∃ ws:List (Key×Value),KV kvs ws/\∀(i:Nat)(v:Value),its[i]?=some v->∃ p o m key x k,v=.ref p/\s.heap.get? p=some o/\o.cls=.type "tuple"/\o.data=.seq #[key,x] m/\ws[i]?=some (k,x)/\(bN X.prog X.w).is k key=true:=by
  intro kvs vs its h
  induction h generalizing its with
  |nil=>
   intro g;cases g;exact⟨[],.nil,λi v e=>by simp at e⟩
  |@cons kv v kvs vs hp _ ih=>
   intro g
   cases g with
   |cons g1 g2=>
    obtain⟨ws,kw,hw⟩:=ih g2;obtain⟨a,rfl,ha⟩:=hp;cases g1;obtain⟨ZY,rj,⟨o,ho,yG,m,hd⟩,_⟩:=I.tuple ha;obtain⟨key,x,rfl,rk,rx⟩:=vals2 rj;refine⟨(kv.1,x)::ws,.cons ⟨rfl,rx⟩ kw,λi v e=>?_⟩
    cases i with
    |zero=>
     cases e;exact⟨a,o,m,key,x,kv.1,rfl,ho,yG,hd,rfl,jY rk⟩
    |succ i=>exact hw i v (by simpa using e)
 obtain⟨ws,kw,hw⟩:=all rl rv;refine Pn (kvs:=ws) (I.ok.hd hc) e (by omega) (by rw[<- kw.length];omega) hw λh' tk dd kp=>?_;have big:=I.big;refine⟨.ref _,_,I.laid (o:=.dK (rZ kvs)) (t':=tk) kp (ar _) (oH (aP (Po kvs) (Nat.le_of_lt (jq aF))) (beq_eq_false_iff_ne.mpr (Ne.symm (bJ big))) (Pp kw) dd),rfl,q _ I.fresh⟩
noncomputable def lR:ai->Option (List (Key×PV))
 |[]=>some []
 |.tup [p,x]::r=>match pk p,lR r with
  |some k,some l=>some ((k,x)::l)
  |_,_=>none
 |_=>none
noncomputable def dictOf (l:List (Key×PV)):aT:=l.foldl (λacc kv=>dQ acc kv.1 kv.2) []
noncomputable def tq:G1
 |.lst xs,z=>∃ l,lR xs=some l/\l.length<=1000/\z=.ah (dictOf l)
 |_,_=>False
theorem yH {K:Frag}{N:Addr->Prop}{H:Hp}:∀{xs:ai}{vs:Zv}{l:List (Key×PV)},aI K N H xs vs->lR xs=some l->∃ kvs:bj,Rl (yF K H) kvs vs/\l.length=kvs.length/\∀(acc:aT)(acc':bj),bR K N H acc (acc'.map gg)->bR K N H (l.foldl (λacc kv=>dQ acc kv.1 kv.2) acc) ((kvs.foldl (λacc kv=>putK acc kv.1 kv.2) acc').map gg)
 |_,_,_,.nil,h=>by cases h;exact⟨[],.nil,rfl,λ_ _ h=>h⟩
 |x::xs,_,l,.cons r rs,h=>by
  unfold lR at h
  split at h
  ·rename_i heq;cases heq
  ·rename_i p y r' heq;cases heq
   split at h
   ·rename_i k l' hk hl;cases h;obtain⟨kvs,h1,h2,h3⟩:=yH rs hl
    cases r with
    |tup g1 g2=>
     cases g2 with
     |cons q1 q2=>
      cases q2 with
      |cons q3 q4=>
       cases q4;rename_i v1 v2;cases sZ hk q1;exact⟨(k,v2)::kvs,.cons ⟨_,rfl,g1⟩ h1,by simp [h2],λacc acc' ha=>h3 _ _ (s_ ha k q3)⟩
   ·cases h
  ·cases h
section
variable {X:Cx}{K:Frag}{e:Expr}{ue:UE}{p pos:Pos}
theorem Gj (hK:X.K=K)(hc:X.calm=true)(hm:X.mg "dict"=none)(he:PE X e (az K ue))(hg:Gl X "dict":=by rfl)(hs:starEach [e] X.env=[(false,eval e X.env)]:=by rfl):PE X (.Call (.Name "dict" p) [e] [] pos) (c4 K (u1 tq ue)):=by
 subst hK;refine F0 (Gh hc) ?_ PyProof.Rows.boot_dict hm he hg (hs:=hs);intro H A σ x v z Q R q1 g c;cases x<;>first|exact g.elim|skip
 obtain⟨l,hl,aF,rfl⟩:=g;obtain⟨a,vs,rfl,h1,h2⟩:=q1.lst R;obtain⟨kvs,g1,g2,g3⟩:=yH h2 hl;exact⟨a,vs,kvs,rfl,h1,g1,by omega,λq hq=>c _ _ ⟨q,.ah _,rfl,rfl,hq,dM hq _,_,bE,g3 [] [] .nil⟩⟩
end
noncomputable def Gm:R2:=λx y H Q=>∃ a v,x=.ref a/\fc H a y (some v)/\Q v H
theorem Q3 {X:Cx}(hu:X.A.units+1<cLine):hZ X Gm:=by
 intro value slice pins s σ H x y v u Q I rx ry h hs;obtain⟨a,z,rfl,g,q⟩:=h;cases rx;have hT:=BF I g;unfold subscriptTail;refine af ?_;rw[getitemInPython_of_ne hT.not_modules];refine af (wpAny_specialOf hT PySem.F.slot_dict_getitem.lookup ?_)
 have fin:wpAny (model X.prog X.w) X.A (subscripted slice false (.ref a) u) (λr mE=>wpAny (model X.prog X.w) X.A (letTemporaryGo value (.ref a) r >>= λ_=>pure r) (EP X pins σ Q) X.xe mE) X.xe s:=by
  rw[hs];exact wpAny_operating (BD hu I g ry λw' s3 I3 dJ=>af (wpAny_letTemporaryGo (ao ⟨z,H,I3,dJ,q⟩)))
 first
  |exact ao (af fin)
  |exact af (ao (af fin))
  |exact af fin
noncomputable def Gn (neg:Bool):R2:=λy x H Q=>∃ a o,x=.ref a/\fc H a y o/\Q (.bl (neg^^o.isSome)) H
theorem Gp {X:Cx}(hu:X.A.units+1<cLine):bz X (compareOp .In) (Gn false):=by
 intro pins s σ H y x u v Q I ry rx h;obtain⟨a,o,rfl,g,q⟩:=h;cases rx;exact L6 hu I g ry λs3 I3=>⟨.bl o.isSome,H,I3,rfl,by simpa using q⟩
noncomputable def i3 (x y z:PV):Prop:=m9 x y z\/pF x y z
noncomputable def i4 (neg:Bool)(x y z:PV):Prop:=yo neg x y z\/Gf neg x y z
section
variable {X:Cx}{K:Frag}{a b:Expr}{ua ub:UE}{pos:Pos}{k:Nat}
theorem Q4:dz K (λx y H Q=>vI K x y H Q\/Gm x y H Q) i3:=by
 intro H A σ x y v w z Q R q1 q2 g c;rcases g with g|g
 ·exact .inl (Qx H A σ x y v w z Q R q1 q2 g c)
 ·cases x<;>first|exact g.elim|skip
  obtain⟨key,jj,hl⟩:=g;obtain⟨a,av,rfl,h1,h2⟩:=q1.ah R;have rk:RV K (AN A) H y w:=q2.rv λc z=>by subst z;cases c<;>cases jj
  cases sZ jj rk;obtain⟨u,hu,ru⟩:=(pE h2 key).1 z hl;refine .inr ⟨a,u,rfl,?_,c _ H (aS.refl H) ru⟩;rw[<- hu];exact fc.kR h1
theorem Gq {neg:Bool}:dz K (λx y H Q=>sN K neg x y H Q\/Gn neg x y H Q) (i4 neg):=by
 intro H A σ y x w v z Q R q1 q2 g c;rcases g with g|g
 ·exact .inl (Qn H A σ y x w v z Q R q1 q2 g c)
 ·cases x<;>first|(cases y<;>exact g.elim)|skip
  rename_i kvs;have g':∃ k,pk y=some k/\z=.bl (neg^^(bZ kvs k).isSome):=by cases y<;>exact g
  obtain⟨key,jj,rfl⟩:=g';obtain⟨a,av,rfl,h1,h2⟩:=q2.ah R;have rk:RV K (AN A) H y w:=q1.rv λc z=>by subst z;cases c<;>cases jj
  cases sZ jj rk;refine .inr ⟨a,_,rfl,fc.kR (k:=key) h1,?_⟩;rw[<- F' h2 key];exact c _ H (aS.refl H) (.bl _)
theorem ax (hK:X.K=K)(hr:bP k X.A)(ha:PE X a (az K ua))(hb:PE X b (az K ub))(hs:vG b:=by intro _ _;rfl):PE X (.Subscript a b pos) (aB K (u2 i3 ua ub)):=by
 subst hK;exact PM (Mz.or (Q3 (gB hr))) Q4 ha hb hs
theorem Q5 (hK:X.K=K)(hr:bP k X.A)(ha:PE X a (az K ua))(hb:PE X b (az K ub))(hm:behindInMarks .In b=false:=by with_unfolding_all rfl):PE X (.Compare a [.In] [b] pos) (aB K (u2 (i4 false) ua ub)):=r_ ((FH hK hr).or (Gp (gB hr))) Gq ha hb hm
theorem ni (hK:X.K=K)(hr:bP k X.A)(ha:PE X a (az K ua))(hb:PE X b (az K ub))(hm:behindInMarks .In b=false:=by with_unfolding_all rfl):PT X (.Compare a [.In] [b] pos) (liftT K (ip (i4 false) ua ub)):=kb ((FH hK hr).or (Gp (gB hr))) Gq ha hb hm
end
section
variable {i:Int}{s u:Str}{xs ys:ai}{z x:PV}{kvs:aT}{n:Bool}
theorem Q6:i3 (.tup xs) (.int i) z=(cz xs i=some z):=by simp [i3,m9,pF]
theorem Q7:i3 (.lst xs) (.int i) z=(cz xs i=some z):=by simp [i3,m9,pF]
theorem Q8:i3 (.str s) (.int i) z=(s.length<=100000/\∃ c,cz s.cps.toList i=some c/\z=.str ⟨#[c]⟩):=by simp [i3,m9,pF]
theorem Q9:i3 (.ah kvs) x z=(∃ k,pk x=some k/\bZ kvs k=some z):=by cases x<;>simp [i3,m9,pF]
theorem Gr:i4 n x (.tup ys) z=((∀ c:OC,x≠c.pv)/\(∃ n,n<=80/\Dp n x/\∀ p∈ys,Dp n p)/\z=.bl (n^^pin x ys)):=by cases x<;>simp [i4,yo,Gf]
end
noncomputable def jD:ai->Option (aq)
 |[]=>some []
 |.str s::r=>(jD r).map (s::·)
 |_=>none
theorem Gs (ys:aq):jD (ys.map PV.str)=some ys:=by
 induction ys with
 |nil=>rfl
 |cons y ys ih=>show(jD (ys.map PV.str)).map (y::·)=_;rw[ih];rfl
theorem tu {K:Frag}{N:Addr->Prop}{H:Hp}:∀{xs:ai}{vs:Zv}{ys:aq},aI K N H xs vs->jD xs=some ys->vs=ys.map V.str
 |_,_,_,.nil,h=>by cases h;rfl
 |x::xs,_,ys,.cons r rs,h=>by
  cases x<;>first|(cases h;done)|skip
  rename_i b;obtain⟨cs,hc,rfl⟩:=Option.map_eq_some_iff.mp (show(jD xs).map (b::·)=some ys from h);cases r;rw[tu rs hc];rfl
theorem yI {K:Frag}{N:Addr->Prop}{H:Hp}(ys:aq):aI K N H (ys.map PV.str) (ys.map V.str):=by
 induction ys with
 |nil=>exact .nil
 |cons y ys ih=>exact .cons (.str y) ih
noncomputable def strsOf:PV->Option (aq)
 |.lst xs=>jD xs
 |.tup xs=>jD xs
 |_=>none
theorem Q_ {X:Cx}(hc:X.calm=true):cy X (.type "set") (λxs H Q=>∃ p ys,xs=[.ref p]/\(aN X.K H p (ys.map V.str)\/bt X.K H p (ys.map V.str))/\ys.length<=1000/\∀ l,H l=none->Q (.ref l) (upd H l (.ext (mM X.prog X.w l (c_ ys))))):=by
 intro pins s σ H xs us Q I r h;obtain⟨p,ys,rfl,hq,aF,q⟩:=h;rcases hq with hq|hq
 ·exact O7 hc pins s σ H _ us Q I r ⟨p,ys,rfl,hq,aF,q⟩
 ·obtain⟨u,rfl,ru⟩:=vals1 r;cases ru;obtain⟨its,rv,pl,_⟩:=I.tuple hq;refine Pe (I.ok.hd hc) pl (ys:=ys) (by simpa using rn rv) (by unfold scanBound;omega) λh' tk es ep t T k=>?_;obtain⟨o,ho,_⟩:=T.get;exact⟨.ref _,_,I.laid (o:=.ext (mM X.prog X.w s.heap.objs.size (c_ ys))) (t':=tk) (λb u e=>k b u (a7 e) e) (ar _) ⟨⟨es,ep,t,T⟩,⟨o,ho⟩,λh1 h2 ⟨es,ep,t,T⟩ kk=>⟨es,ep,t,T.moved kk⟩⟩,rfl,q _ I.fresh⟩
noncomputable def nj (x:Str):aq->aq
 |[]=>[x]
 |y::r=>if y.cps.toList<x.cps.toList then y::nj x r else x::y::r
noncomputable def b_:aq->aq
 |[]=>[]
 |x::r=>nj x (b_ r)
theorem yJ (x:Str):∀ l:aq,(nj x l).Perm (x::l)
 |[]=>.refl _
 |y::r=>by
  unfold nj
  split
  ·exact((yJ x r).cons y).trans (.swap x y r)
  ·exact .refl _
theorem d9:∀ l:aq,(b_ l).Perm l
 |[]=>.refl _
 |x::r=>(yJ x (b_ r)).trans ((d9 r).cons x)
theorem Gu (x:Str):∀ l:aq,l.Pairwise fO->(nj x l).Pairwise fO
 |[],_=>pairwise_singleton _ _
 |y::r,h=>by
  obtain⟨h1,h2⟩:=pairwise_cons.mp h;unfold nj
  split
  ·rename_i eF;refine pairwise_cons.mpr ⟨λz hz=>?_,Gu x r h2⟩;rcases mem_cons.mp ((yJ x r).mem_iff.mp hz) with rfl|hz
   ·exact λz=>List.lt_asymm eF z
   ·exact h1 z hz
  ·rename_i eF;refine pairwise_cons.mpr ⟨λz hz=>?_,h⟩;rcases mem_cons.mp hz with rfl|hz
   ·exact eF
   ·exact Er eF (h1 z hz)
theorem Rf (l:aq):jt l (b_ l):=by
 refine⟨d9 l,?_⟩
 induction l with
 |nil=>exact Pairwise.nil
 |cons x r ih=>exact Gu x _ ih
theorem jt.eq {zs ss:aq}(h:jt zs ss):ss=b_ zs:=h.one (Rf zs) (.refl _)
noncomputable def Rg:G1:=λx z=>∃ ys,strsOf x=some ys/\(c_ ys).length<64/\ys.length<=1000/\z=.lst ((b_ (c_ ys)).map PV.str)
noncomputable def Rh:G1
 |.lst xs,z=>∃ ys,jD xs=some ys/\ys.length<64/\z=.lst ((b_ ys).map PV.str)
 |_,_=>False
section
variable {X:Cx}{K:Frag}{e:Expr}{ue:UE}{p pos p1 Ri:Pos}
theorem Rj {H:Hp}{σ:St}{A:AS}{x:PV}{v:V}{ys:aq}(R:Rep K H σ A)(q:bV K A H x v)(h:strsOf x=some ys):∃ a,v=.ref a/\(aN K H a (ys.map V.str)\/bt K H a (ys.map V.str)):=by
 cases x<;>first|(cases h;done)|skip
 ·obtain⟨a,vs,rfl,h1,h2⟩:=q.tup;exact⟨a,rfl,.inr (by rw[<- tu h2 h];exact h1)⟩
 ·obtain⟨a,vs,rfl,h1,h2⟩:=q.lst R;exact⟨a,rfl,.inl (by rw[<- tu h2 h];exact aN.of h1)⟩
theorem Rk (hK:X.K=K)(hc:X.calm=true)(hm:X.mg "sorted"=none)(bc:X.mg "set"=none)(he:PE X e (az K ue))(hg:Gl X "sorted":=by rfl)(Rm:Gl X "set":=by rfl)(hs:starEach [e] X.env=[(false,eval e X.env)]:=by rfl)(hs2:starEach [.Call (.Name "set" p) [e] [] pos] X.env=[(false,eval (.Call (.Name "set" p) [e] [] pos) X.env)]:=by rfl) :
  PE X (.Call (.Name "sorted" p1) [.Call (.Name "set" p) [e] [] pos] [] Ri) (c4 K (u1 Rg ue)):=by
 subst hK;refine(hU (O8 hc) hg hm PyProof.Rows.boot_sorted (b8 (vy (Q_ hc) Rm bc PyProof.Rows.boot_set (b8 he cO hs) (by decide) (by decide) hs) cO hs2) (by decide) (by decide) hs2).mono λσ H Q ⟨A,P,R,h,c⟩=>⟨A,_,R,h,λx A1 v H1 p R1 S1 q1=>?_⟩;obtain⟨z,⟨ys,hy,aF,Ro,rfl⟩,p⟩:=p;obtain⟨a,rfl,ha⟩:=Rj R1 q1 hy;refine⟨a,ys,rfl,ha,Ro,λl hl=>⟨l,c_ ys,rfl,bE,aF,λl2 ss oP pG=>?_⟩⟩;have s:=dM hl (.ext (mM X.prog X.w l (c_ ys)));cases pG.eq;exact c _ A1 _ _ _ p (R1.same s) (S1.trans (ay.same A1 s)) ⟨l2,.lst _,rfl,rfl,oP,dM oP _,_,bE,yI _⟩
theorem Rp (hK:X.K=K)(hm:X.mg "sorted"=none)(he:PE X e (az K ue))(hg:Gl X "sorted":=by rfl)(hs:starEach [e] X.env=[(false,eval e X.env)]:=by rfl):PE X (.Call (.Name "sorted" p) [e] [] pos) (c4 K (u1 Rh ue)):=by
 subst hK;refine FY O' ?_ PyProof.Rows.boot_sorted hm he hg (hs:=hs);intro H A σ x v z Q R q1 g c;cases x<;>first|exact g.elim|skip
 obtain⟨ys,hy,aF,rfl⟩:=g;obtain⟨a,vs,rfl,h1,h2⟩:=q1.lst R;refine⟨a,ys,rfl,by rw[<- tu h2 hy];exact aN.of h1,aF,λl ss hl pG=>?_⟩;cases pG.eq;exact c _ _ ⟨l,.lst _,rfl,rfl,hl,dM hl _,_,bE,yI _⟩
end
structure Df (K:Frag)(mg:a0)(x:Str)(st:Stmt):Prop where
 ex:∃ f fd,fD K x x st f fd/\mg x=some (.ref f)
section
variable {P:Program}{w:World}{K:Frag}{mg:a0}{base:Heap}
theorem Kn.mono {j k:Nat}{x:Str}{sp:Sp}(h:Kn P w K mg base j x sp)(l:j<=k):Kn P w K mg base k x sp:=by
 obtain⟨f,fd,ps,F,r⟩:=h.ex;exact⟨f,fd,ps,F.mono l,r⟩
theorem Df.dO {x:Str}{st:Stmt}{N ps:aq}{k:Nat}{fr:Bool}{G:Rel}(D:Df K mg x st)(S:bx N ps (aX st))
  (bd:∀(kV doc pm:Value)(an:Option Addr)(aE ct:Value)(us:aC),us.length=ps.length->bindArgs (PySem.W.fnOf x x (iQ st) (fB st) (aX st) .none kV doc pm an aE ct) ⟨us,[]⟩=pure (ps.zip us))
  (len:∀ xs r,G xs r->xs.length=ps.length)(lN:ps.length<=N.length)
  (hJ:∀(f:Addr)(aE:Value)(A:Around)(outer:List Env)(s:Shared)(H:Hp)(E:XK),bP k (A.deeper (envOfC x (aX st) s.heap.objs.size f aE)) ->
   ∃ u,cx (iM du P w K mg base N x (aX st) f aE A outer s H E).jO (fB st) (b9 K u)/\∀ B xs r,G xs r->u (cW fr r) (entry B N xs none)):Kn P w K mg base (k+1) x (aY K fr G):=by
 obtain⟨f,fd,F,hm⟩:=D.ex;exact⟨f,fd,ps,F.dO S len lN (hJ f),F.binds bd,F.kp,hm⟩
theorem Df.eL {x:Str}{st:Stmt}{N ps:aq}{k:Nat}{fr:Bool}{T:Tr}(D:Df K mg x st)(S:bx N ps (aX st))
  (bd:∀(kV doc pm:Value)(an:Option Addr)(aE ct:Value)(us:aC),us.length=ps.length->bindArgs (PySem.W.fnOf x x (iQ st) (fB st) (aX st) .none kV doc pm an aE ct) ⟨us,[]⟩=pure (ps.zip us))
  (len:∀ xs st P,T xs st P->xs.length=ps.length)(lN:ps.length<=N.length)
  (hJ:∀(f:Addr)(aE:Value)(A:Around)(outer:List Env)(s:Shared)(H:Hp)(E:XK),bP k (A.deeper (envOfC x (aX st) s.heap.objs.size f aE)) ->
   ∃ u,cx (iM du P w K mg base N x (aX st) f aE A outer s H E).jO (fB st) (b9 K u)/\∀ B xs st P,T xs st P->u (dN fr P) (entry B N xs (some st))):Kn P w K mg base (k+1) x (spS K fr T):=by
 obtain⟨f,fd,F,hm⟩:=D.ex;exact⟨f,fd,ps,F.eL S len lN (hJ f),F.binds bd,F.kp,hm⟩
end
noncomputable def bX (P:PV->PV->Prop):Rel:=λxs r=>∃ x0,xs=[x0]/\P x0 r
noncomputable def cD (P:PV->PV->PV->Prop):Rel:=λxs r=>∃ x0 x1,xs=[x0,x1]/\P x0 x1 r
noncomputable def dB (P:PV->PV->PV->PV->Prop):Rel:=λxs r=>∃ x0 x1 x2,xs=[x0,x1,x2]/\P x0 x1 x2 r
theorem bX.len {P:PV->PV->Prop}{xs:ai}{r:PV}(h:bX P xs r):xs.length=1:=by obtain⟨_,rfl,_⟩:=h;rfl
theorem cD.len {P:PV->PV->PV->Prop}{xs:ai}{r:PV}(h:cD P xs r):xs.length=2:=by obtain⟨_,_,rfl,_⟩:=h;rfl
theorem dB.len {P:PV->PV->PV->PV->Prop}{xs:ai}{r:PV}(h:dB P xs r):xs.length=3:=by obtain⟨_,_,_,rfl,_⟩:=h;rfl
noncomputable abbrev eM:=ag->(PV->ag->Prop)->Prop
noncomputable def gL (T:eM):Tr:=λxs st P=>xs=[.raw (.ref st.d)]/\T st P
noncomputable def bQ (T:PV->eM):Tr:=λxs st P=>∃ x1,xs=[.raw (.ref st.d),x1]/\T x1 st P
noncomputable def c0 (T:PV->PV->eM):Tr:=λxs st P=>∃ x1 x2,xs=[.raw (.ref st.d),x1,x2]/\T x1 x2 st P
noncomputable def c3 (T:PV->PV->PV->eM):Tr:=λxs st P=>∃ x1 x2 x3,xs=[.raw (.ref st.d),x1,x2,x3]/\T x1 x2 x3 st P
theorem gL.len {T:eM}{xs:ai}{st:ag}{P:PV->ag->Prop}(h:gL T xs st P):xs.length=1:=by obtain⟨rfl,_⟩:=h;rfl
theorem bQ.len {T:PV->eM}{xs:ai}{st:ag}{P:PV->ag->Prop}(h:bQ T xs st P):xs.length=2:=by obtain⟨_,rfl,_⟩:=h;rfl
theorem c0.len {T:PV->PV->eM}{xs:ai}{st:ag}{P:PV->ag->Prop}(h:c0 T xs st P):xs.length=3:=by obtain⟨_,_,rfl,_⟩:=h;rfl
theorem c3.len {T:PV->PV->PV->eM}{xs:ai}{st:ag}{P:PV->ag->Prop}(h:c3 T xs st P):xs.length=4:=by obtain⟨_,_,_,rfl,_⟩:=h;rfl
noncomputable def eN:PV->eM:=λx1 st P=>∃ m,x1=.int m/\st.n<=100000/\0<m/\m<2 ^ 200/\∀ r:Int,0<=r->r<m->P (.int r) { st with n:=st.n+1 }
theorem take2 {xs:ai}{st:ag}{P:PV->ag->Prop}(h:bQ eN xs st P):F_ xs st P:=by
 obtain⟨_,rfl,m,rfl,h⟩:=h;exact⟨m,rfl,h⟩
section
variable {i j:Int}{a b:Bool}{s u:Str}{xs ys:ai}{z x:PV}{P:ai->Prop}{C:Int->Int->Prop}{f:Int->Int->PV}{l h:Option Int}{kvs:aT}{n:Bool}
theorem Rq:mV (.int i) (.int j) z=(z=.int (i+j)):=rfl
theorem Rr:mV (.str s) (.str u) z=(s.length+u.length<=100000/\z=.str (s++u)):=rfl
theorem Rt:mV (.tup xs) (.tup ys) z=(xs.length+ys.length<=100000/\z=.tup (xs++ys)):=rfl
theorem Ru:mV (.lst xs) (.lst ys) z=(xs.length+ys.length<=100000/\z=.lst (xs++ys)):=rfl
theorem Rv:yb (.lst xs) (.lst ys) z=(xs.length+ys.length<=100000/\z=.lst (xs++ys)):=rfl
theorem Rw:gI C f (.int i) (.int j) z=(C i j/\z=f i j):=rfl
theorem Rx:ko f (.int i) (.int j) z=(z=f i j):=rfl
theorem Ry:sR (.tup xs) z=(z=.int xs.length):=rfl
theorem Rz:sR (.lst xs) z=(z=.int xs.length):=rfl
theorem RA:FT (.tup xs) l h z=(z=.tup (cI xs l h)):=rfl
theorem RB:FU (.lst xs) l h z=(z=.lst (cI xs l h)):=rfl
theorem RC:yw (.lst xs) z=(z=.tup xs):=rfl
theorem RD:sO (.int i) (.int j) z=(z=.bl (decide (i<j))):=rfl
theorem RE:FI (.int i) (.int j) z=(z=.bl (decide (i<=j))):=rfl
theorem RF:sP .non .non z=(z=.bl true):=rfl
theorem RG:sP (.tup xs) .non z=(z=.bl false):=rfl
theorem RH:yr .non .non z=(z=.bl false):=rfl
theorem RI:yx (.bl a) z=(z=.int (if a then 1 else 0)):=rfl
theorem RJ:tq (.lst xs) z=(∃ l,lR xs=some l/\l.length<=1000/\z=.ah (dictOf l)):=rfl
theorem RK:se (.bl a)=some a:=rfl
theorem RL:se (.lst xs)=some (!xs.isEmpty):=rfl
theorem RM:lO .tuple (.tup xs)=some true:=rfl
theorem RN:lO .list (.lst xs)=some true:=rfl
theorem RO:lO .int (.int i)=some true:=rfl
theorem RP:lO .bool (.int i)=some false:=rfl
theorem jE (n:Nat)(s:Str):Dp n (.str s):=⟨0,rfl,Nat.zero_le _⟩
theorem lS (n:Nat)(s:Int):Dp n (.int s):=⟨0,rfl,Nat.zero_le _⟩
theorem RQ (n:Nat):Dp n .non:=⟨0,rfl,Nat.zero_le _⟩
theorem RS (s:Str):∀ c:OC,PV.str s≠c.pv:=by intro c;cases c<;>(intro z;cases z)
theorem RT (s:Int):∀ c:OC,PV.int s≠c.pv:=by intro c;cases c<;>(intro z;cases z)
end
section
variable {α:Type}{k:Nat}{ix:List Nat}{A1:AS}{g:UG}{t:UT}{ue:UE}{Q:PV->AS->Prop}
theorem pre_of {e:α->PV}{l:List α}{d r:ai}{x:PV}(h:l.map e=d++x::r):∃ d1 x1 r1,l=d1++x1::r1/\d=d1.map e/\x=e x1/\d1=l.take d.length:=by
 obtain⟨d1,r0,rfl,rfl,h2⟩:=map_eq_append_iff.mp h;obtain⟨x1,r1,rfl,rfl,rfl⟩:=map_eq_cons_iff.mp h2;exact⟨d1,x1,r1,rfl,rfl,rfl,by simp⟩
theorem nk (l:List α)(e F:α->PV)(aF:l.length<=1000000)(each:∀ B x,x∈l->∀ R:PV->AS->Prop,(∀ A4,Kp k ix A1.ae A4->A4.S=A1.S->R (F x) A4)->g (e x) ⟨B,dg k ix A1.ae,A1.S⟩ λA2=>ue A2 R)(fin:Q (.lst (l.map F)) A1):ki k ix (l.map e) A1 g kh ue Q:=by
 refine⟨by rw[length_map];exact aF,λd ys S=>ys=(l.take d.length).map F/\S=A1.S,⟨by simp,rfl⟩,?_,?_⟩
 ·rintro B d x r ys S e' ⟨rfl,rfl⟩;obtain⟨d1,x1,r1,e1,rfl,rfl,e2⟩:=pre_of e'
  have e0:l.take (d1.map e++[e x1]).length=d1++[x1]:=by
   rw[e1,length_append,length_map,length_singleton,<- singleton_append,<- append_assoc,take_left' (by simp)]
  have e3:(l.take (d1.map e).length).map F++[F x1]=(l.take (d1.map e++[e x1]).length).map F:=by
   rw[e0,<- e2];simp
  have q:=each B x1 (by rw[e1];simp) (λy A4=>Kp k ix A1.ae A4/\(l.take (d1.map e).length).map F++[y]=(l.take (d1.map e++[e x1]).length).map F/\A4.S=A1.S) λA4 k1 s1=>⟨k1,e3,s1⟩
  have e4:(λA2=>ue A2 λy A4=>Kp k ix A1.ae A4/\(l.take (d1.map e).length).map F++[y]=(l.take (d1.map e++[e x1]).length).map F/\A4.S=A1.S)=λA2=>kh A2 λb A3=>if b=true then ue A3 λy A4=>Kp k ix A1.ae A4/\(l.take (d1.map e).length).map F++[y]=(l.take (d1.map e++[e x1]).length).map F/\A4.S=A1.S else Kp k ix A1.ae A3/\(l.take (d1.map e).length).map F=(l.take (d1.map e++[e x1]).length).map F/\A3.S=A1.S:=by
   funext A2
   unfold kh;dsimp only;rw[if_pos rfl]
  rw[e4] at q;exact q
 ·rintro ys S ⟨rfl,rfl⟩;rw[length_map,take_length];exact fin
theorem RU (l:List α)(e F:α->PV)(p:α->Bool)(aF:l.length<=1000000)(each:∀ B x,x∈l->∀(Rs:PV->AS->Prop)(Rn:cv),(∀ A4,p x=true->Kp k ix A1.ae A4->A4.S=A1.S->Rs (F x) A4)->(∀ A4,p x=false->Kp k ix A1.ae A4->A4.S=A1.S->Rn A4) ->
  g (e x) ⟨B,dg k ix A1.ae,A1.S⟩ λA2=>t A2 λb A3=>if b=true then ue A3 Rs else Rn A3)(fin:Q (.lst ((l.filter p).map F)) A1):ki k ix (l.map e) A1 g t ue Q:=by
 refine⟨by rw[length_map];exact aF,λd ys S=>ys=((l.take d.length).filter p).map F/\S=A1.S,⟨by simp,rfl⟩,?_,?_⟩
 ·rintro B d x r ys S e' ⟨rfl,rfl⟩;obtain⟨d1,x1,r1,e1,rfl,rfl,e2⟩:=pre_of e'
  have e3:l.take (d1.map e++[e x1]).length=d1++[x1]:=by
   rw[e1,length_append,length_map,length_singleton,<- singleton_append,<- append_assoc,take_left' (by simp)]
  dsimp (config:={failIfUnchanged:=false}) only;rw[e3,<- e2];refine each B x1 (by rw[e1];simp) _ _ (λA4 h1 k1 s1=>⟨k1,?_,s1⟩) λA4 h1 k1 s1=>⟨k1,?_,s1⟩
  ·rw[filter_append,filter_cons,h1];simp
  ·rw[filter_append,filter_cons,h1];simp
 ·rintro ys S ⟨rfl,rfl⟩;rw[length_map,take_length];exact fin
theorem Gv (l:List α)(e:α->PV)(I:List α->ai->Option ag->Prop)(aF:l.length<=1000000)(i0:I [] [] A1.S)
  (each:∀ B d x r ys S,l=d++x::r->I d ys S->∀ R:PV->AS->Prop,(∀ y A4,Kp k ix A1.ae A4->I (d++[x]) (ys++[y]) A4.S->R y A4)->g (e x) ⟨B,dg k ix A1.ae,S⟩ λA2=>ue A2 R)(fin:∀ ys S,I l ys S->Q (.lst ys) { A1 with S:=S }):ki k ix (l.map e) A1 g kh ue Q:=by
 refine⟨by rw[length_map];exact aF,λd ys S=>I (l.take d.length) ys S,by simpa using i0,?_,?_⟩
 ·rintro B d x r ys S e' hI;obtain⟨d1,x1,r1,e1,rfl,rfl,e2⟩:=pre_of e'
  have e3:l.take (d1.map e++[e x1]).length=d1++[x1]:=by
   rw[e1,length_append,length_map,length_singleton,<- singleton_append,<- append_assoc,take_left' (by simp)]
  rw[<- e2] at hI;dsimp (config:={failIfUnchanged:=false}) only;rw[e3];have q:=each B d1 x1 r1 ys S e1 hI (λy A4=>Kp k ix A1.ae A4/\I (d1++[x1]) (ys++[y]) A4.S) λy A4 k1 s1=>⟨k1,s1⟩
  have e4:(λA2=>ue A2 λy A4=>Kp k ix A1.ae A4/\I (d1++[x1]) (ys++[y]) A4.S)=λA2=>kh A2 λb A3=>if b=true then ue A3 λy A4=>Kp k ix A1.ae A4/\I (d1++[x1]) (ys++[y]) A4.S else Kp k ix A1.ae A3/\I (d1++[x1]) ys A3.S:=by
   funext A2
   unfold kh;dsimp only;rw[if_pos rfl]
  rw[e4] at q;exact q
 ·rintro ys S hI;rw[length_map,take_length] at hI;exact fin ys S hI
variable {C:cv}{ub:US}{E:gH}
theorem gh (l:List α)(e:α->PV)(I:List α->AS->Prop)(h0:I [] A1)(hC:∀ d A2,I d A2->C A2)
  (step:∀ d x r A2,l=d++x::r->I d A2->g (e x) A2 λA3=>ub { E with nx:=I (d++[x]),ct:=I (d++[x]),bk:=E.nx } A3)(fin:∀ A2,I l A2->E.nx A2):fG (l.map e) C A1 g ub E:=by
 refine⟨λd A=>I (l.take d.length) A,by simpa using h0,λd A2 h=>hC _ A2 h,?_,?_⟩
 ·rintro d x r A2 e' hI;obtain⟨d1,x1,r1,e1,rfl,rfl,e2⟩:=pre_of e'
  have e3:l.take (d1.map e++[e x1]).length=d1++[x1]:=by
   rw[e1,length_append,length_map,length_singleton,<- singleton_append,<- append_assoc,take_left' (by simp)]
  rw[<- e2] at hI;dsimp (config:={failIfUnchanged:=false}) only;rw[e3];exact step d1 x1 r1 A2 e1 hI
 ·intro A2 hI;rw[length_map,take_length] at hI;exact fin A2 hI
end
theorem lT {n:Nat}{xs:ai}(h:∀ x∈xs,Dp n x):Dp (n+1) (.tup xs):=iw.mpr (dP.mpr h)
theorem iy {n:Nat}{xs:ai}(h:∀ x∈xs,Dp n x):Dp (n+1) (.lst xs):=jB.mpr (dP.mpr h)
theorem RW (s:Str)(l:aq):pin (.str s) (l.map PV.str)=l.contains s:=by
 unfold pin;rw[any_map,contains_eq_any_beq]
 congr 1
 funext y
 show(y==s)=(s==y);rw[Bool.eq_iff_iff,beq_iff_eq,beq_iff_eq];exact eq_comm
noncomputable def b0 {α:Type}(P:α->Prop)(Q:α->AS->Prop)(A:AS):Prop:=∃ z,P z/\Q z A
section
variable {α:Type}{P:α->Prop}{Q:α->AS->Prop}{A:AS}{v:α}{p q p3:Prop}
theorem aj (v:α)(h:P v)(k:Q v A):b0 P Q A:=⟨v,h,k⟩
theorem RX:b0 (λz=>z=v) Q A=Q v A:=by simp [b0]
theorem RY:b0 (λz=>v=z) Q A=Q v A:=by simp [b0]
theorem RZ:b0 (λz=>p/\z=v) Q A=(p/\Q v A):=by
 unfold b0;exact propext ⟨fun⟨_,⟨h,rfl⟩,k⟩=>⟨h,k⟩,fun⟨h,k⟩=>⟨_,⟨h,rfl⟩,k⟩⟩
theorem R5:b0 (λz=>p/\q/\p3/\z=v) Q A=(p/\q/\p3/\Q v A):=by
 unfold b0;exact propext ⟨fun⟨_,⟨h,h2,h3,rfl⟩,k⟩=>⟨h,h2,h3,k⟩,fun⟨h,h2,h3,k⟩=>⟨_,⟨h,h2,h3,rfl⟩,k⟩⟩
end
noncomputable def d_ (c:Bool)(P Q:cv)(A:AS):Prop:=if c=true then P A else Q A
section
variable {c:Bool}{P Q:cv}{A:AS}
theorem yK:d_ true P Q A=P A:=by simp [d_]
theorem yL:d_ false P Q A=Q A:=by simp [d_]
theorem R6:d_ (!c) P Q A=d_ c Q P A:=by cases c<;>simp [d_]
theorem cJ (h:c=true)(k:P A):d_ c P Q A:=by rw[h,yK];exact k
theorem bq (h:c=false)(k:Q A):d_ c P Q A:=by rw[h,yL];exact k
theorem bM (h:c=true->P A)(k:c=false->Q A):d_ c P Q A:=by
 cases c
 ·rw[yL];exact k rfl
 ·rw[yK];exact h rfl
end
noncomputable def tw (s:Option (Option Sl))(i:Nat)(A:AS)(Q:PV->AS->Prop):Prop:=match s with
 |some (some (.val x))=>Q x A
 |some (some (.own _ (.lst xs)))=>Q (.lst xs) (bD A i (.lst xs))
 |some (some (.own _ (.ah xs)))=>Q (.ah xs) (bD A i (.ah xs))
 |_=>False
noncomputable def yM (s:Option (Option Sl))(A:AS)(Q:PV->AS->Prop):Prop:=match s with
 |some (some (.val x))=>Q x A
 |some (some (.own _ (.lst xs)))=>Q (.lst xs) A
 |some (some (.own _ (.ah xs)))=>Q (.ah xs) A
 |some (some (.peek _ (.lst xs)))=>Q (.lst xs) A
 |some (some (.peek _ (.ah xs)))=>Q (.ah xs) A
 |_=>False
noncomputable def pH (nx:cv)(r:PV)(A:AS)(i:Nat):Prop:=∃ c:OC,r=c.pv/\∀ p,nx (put A i (.own p c))
noncomputable def Gw (s:Option (Option Sl))(i:Nat)(A:AS)(Q:PV->AS->Prop):Prop:=match s with
 |some (some (.own _ (.lst xs)))=>Q (.lst xs) (forget A i)
 |some (some (.own _ (.ah xs)))=>Q (.ah xs) (forget A i)
 |_=>False
noncomputable def fS (s:Option (Option Sl))(F:Addr->ai->AS->Prop)(A:AS):Prop:=match s with
 |some (some (.own a (.lst xs)))=>F a xs A
 |_=>False
noncomputable def pI (s:Option (Option Sl))(F:Addr->aT->AS->Prop)(A:AS):Prop:=match s with
 |some (some (.own a (.ah xs)))=>F a xs A
 |_=>False
noncomputable def pJ (x:PV)(Q:ai->(cv)->AS->Prop)(A:AS):Prop:=xS x λxs=>Q xs (λ_=>True) A
noncomputable def yN (x:PV)(Q:Option Int->AS->Prop)(A:AS):Prop:=∃ i,x=.int i/\Q (some i) A
noncomputable def yO (x:PV)(Q:PV->AS->Prop)(A:AS):Prop:=∃ xs,x=.lst xs/\Q (.lst xs.reverse) A
noncomputable def tD (x:PV)(Q:ai->AS->Prop)(A:AS):Prop:=∃ ys,(x=.lst ys\/x=.tup ys)/\Q ys A
noncomputable def nq (x:PV)(Q:Int->AS->Prop)(A:AS):Prop:=∃ i,x=.int i/\Q i A
noncomputable def lU (T:Tr)(xs:ai)(Q:PV->AS->Prop)(A:AS):Prop:=∃ st,A.S=some st/\T xs st λr st'=>Q r { A with S:=some st' }
noncomputable def nu (T:eM)(st:ag)(Q:PV->AS->Prop)(B:Addr->Prop)(ae:cM):Prop:=T st λr st'=>Q r ⟨B,ae,some st'⟩
noncomputable def yP (m:Int)(st:ag)(Q:PV->AS->Prop)(B:Addr->Prop)(ae:cM):Prop:=st.n<=100000/\0<m/\m<2 ^ 200/\∀ r:Int,0<=r->r<m->Q (.int r) ⟨B,ae,some { st with n:=st.n+1 }⟩
noncomputable def pK (P:PV->ag->Prop)(r:PV)(A:AS):Prop:=∃ st,A.S=some st/\P r st
section
variable {B:Addr->Prop}{ae:cM}{S:Option ag}{E:gH}{u w:US}{t t2:UT}{ue fm Gx:UE}{ua:UA}{i j k n:Nat}{QV:PV->AS->Prop}{QT:Bool->AS->Prop}{QA:ai->AS->Prop}{QG:cv}
 {QI:ai->(cv)->AS->Prop}{QO:Option Int->AS->Prop}{G G':G2}{g1:G1}{ug:UG}{tE:lE}{ui:UI}{uo Gy:UO}{A:AS}{x y:PV}{xs:ai}{a:Addr}{oc:OC}{ix:List Nat}{st:ag}{nx:cv}{kvs:aT}{R:Rel}{T:Tr}{m:Int}
theorem R7:EY E ⟨B,ae,S⟩=E.nx ⟨B,ae,S⟩:=rfl
theorem R8:EZ u w E ⟨B,ae,S⟩=u { E with nx:=λA1=>w E A1 } ⟨B,ae,S⟩:=rfl
theorem R9:E1 t u w E ⟨B,ae,S⟩=t ⟨B,ae,S⟩ λk A1=>d_ k (u E) (w E) A1:=rfl
theorem R_:xN i ue E ⟨B,ae,S⟩=ue ⟨B,ae,S⟩ λr A1=>E.nx (put A1 i (.val r)):=rfl
theorem Sd:xO i ue E ⟨B,ae,S⟩=ue ⟨B,ae,S⟩ λr A1=>pH E.nx r A1 i:=rfl
theorem Se:E2 ue E ⟨B,ae,S⟩=ue ⟨B,ae,S⟩ λ_ A1=>E.nx A1:=rfl
theorem Sf:E3 ue E ⟨B,ae,S⟩=ue ⟨B,ae,S⟩ λr A1=>E.rt r A1:=rfl
theorem Sg:E4 ue E ⟨B,ae,S⟩=ue ⟨B,ae,S⟩ λr A1=>E.rf r A1:=rfl
theorem Si:xP i E ⟨B,ae,S⟩=Gw ae[i]? i ⟨B,ae,S⟩ E.rf:=rfl
theorem Sj {s:Sl}:put ⟨B,ae,S⟩ i s=⟨B,ae.set i (some s),S⟩:=rfl
theorem Sm:bD ⟨B,ae,S⟩ i oc=⟨B,ae.set i (some (.val oc.pv)),S⟩:=rfl
theorem Sn:OC.pv (.lst xs)=.lst xs:=rfl
theorem So:OC.pv (.ah kvs)=.ah kvs:=rfl
theorem Sq:xG i ⟨B,ae,S⟩ QV=tw ae[i]? i ⟨B,ae,S⟩ QV:=rfl
theorem Sr:tw (some (some (.val x))) i A QV=QV x A:=rfl
theorem Ss:tw (some (some (.own a (.lst xs)))) i A QV=QV (.lst xs) (bD A i (.lst xs)):=rfl
theorem Su:tw (some (some (.own a (.ah kvs)))) i A QV=QV (.ah kvs) (bD A i (.ah kvs)):=rfl
theorem Sv:xH i ⟨B,ae,S⟩ QV=yM ae[i]? ⟨B,ae,S⟩ QV:=rfl
theorem Sw:yM (some (some (.val x))) A QV=QV x A:=rfl
theorem Sz:yM (some (some (.own a (.lst xs)))) A QV=QV (.lst xs) A:=rfl
theorem SA:uC x ⟨B,ae,S⟩ QV=QV x ⟨B,ae,S⟩:=rfl
theorem SD:EJ ⟨B,ae,S⟩ QA=QA [] ⟨B,ae,S⟩:=rfl
theorem SE:EK ue ua ⟨B,ae,S⟩ QA=ue ⟨B,ae,S⟩ λx A1=>ua A1 λxs A2=>QA (x::xs) A2:=rfl
theorem SF:EL ua ⟨B,ae,S⟩ QV=ua ⟨B,ae,S⟩ λxs A1=>xs.length<=1000/\QV (.tup xs) A1:=rfl
theorem SG:EM ua ⟨B,ae,S⟩ QV=ua ⟨B,ae,S⟩ λxs A1=>xs.length<=1000/\QV (.lst xs) A1:=rfl
theorem SH:u2 G ue fm ⟨B,ae,S⟩ QV=ue ⟨B,ae,S⟩ λx A1=>fm A1 λy A2=>A2.ae=A1.ae/\b0 (λz=>G x y z) QV A2:=rfl
theorem SI:ip G ue fm ⟨B,ae,S⟩ QT=ue ⟨B,ae,S⟩ λx A1=>fm A1 λy A2=>A2.ae=A1.ae/\b0 (λz=>G x y (.bl z)) QT A2:=rfl
theorem SJ:EO t t2 ⟨B,ae,S⟩ QT=t ⟨B,ae,S⟩ λc A1=>d_ c (λA=>t2 A QT) (λA=>QT false A) A1:=rfl
theorem SM:ER t t2 ⟨B,ae,S⟩ QT=t ⟨B,ae,S⟩ λc A1=>d_ c (λA=>QT true A) (λA=>t2 A QT) A1:=rfl
theorem SN:ES t ⟨B,ae,S⟩ QT=t ⟨B,ae,S⟩ λc A1=>QT (!c) A1:=rfl
theorem SO:uB ue ⟨B,ae,S⟩ QT=ue ⟨B,ae,S⟩ λx A1=>b0 (λc=>x=.bl c) QT A1:=rfl
theorem SQ:ET ue fm ⟨B,ae,S⟩ QV=ue ⟨B,ae,S⟩ λx A1=>b0 (λc=>x=.bl c) (λc A=>d_ c (λA=>fm A QV) (λA=>QV (.bl false) A) A) A1:=rfl
theorem SR:EU ue ⟨B,ae,S⟩ QV=ue ⟨B,ae,S⟩ λx A1=>b0 (λc=>x=.bl c) (λc A=>QV (.bl (!c)) A) A1:=rfl
theorem SS:EV t ue fm ⟨B,ae,S⟩ QV=t ⟨B,ae,S⟩ λc A1=>d_ c (λA=>ue A QV) (λA=>fm A QV) A1:=rfl
theorem SU:EW ue ⟨B,ae,S⟩ QT=ue ⟨B,ae,S⟩ λx A1=>b0 (λc=>se x=some c) QT A1:=rfl
theorem SW {ty:Ty}:F2 ty ue ⟨B,ae,S⟩ QV=ue ⟨B,ae,S⟩ λx A1=>b0 (λc=>lO ty x=some c) (λc A=>QV (.bl c) A) A1:=rfl
theorem SX:u1 g1 ue ⟨B,ae,S⟩ QV=ue ⟨B,ae,S⟩ λx A1=>b0 (λz=>g1 x z) QV A1:=rfl
theorem SY:F7 ue ug E ⟨B,ae,S⟩=ue ⟨B,ae,S⟩ λx A1=>ug x A1 E.nx:=rfl
theorem S5:gN i x ⟨B,ae,S⟩ QG=QG (put ⟨B,ae,S⟩ i (.val x)):=rfl
theorem S6:gT n tE (.tup xs) ⟨B,ae,S⟩ QG=(xs.length=n/\tE xs ⟨B,ae,S⟩ QG):=by
 unfold gT;exact propext ⟨fun⟨_,e,h⟩=>by cases e;exact h,λh=>⟨_,rfl,h⟩⟩
theorem S7:xQ [] ⟨B,ae,S⟩ QG=QG ⟨B,ae,S⟩:=by simp [xQ]
theorem S8:xR ug tE (x::xs) ⟨B,ae,S⟩ QG=ug x ⟨B,ae,S⟩ λA1=>tE xs A1 QG:=by
 unfold xR;exact propext ⟨fun⟨_,_,e,h⟩=>by cases e;exact h,λh=>⟨_,_,rfl,h⟩⟩
theorem S9:E9 ue ⟨B,ae,S⟩ QI=ue ⟨B,ae,S⟩ λx A1=>pJ x QI A1:=rfl
theorem S_:E_ i ⟨B,ae,S⟩ QI=pj ae[i]? i ⟨B,ae,S⟩ QI:=rfl
theorem S':pj (some (some (.val x))) i A QI=pJ x QI A:=rfl
theorem Ta:pJ (.lst xs) QI A=QI xs (λ_=>True) A:=rfl
theorem Tb:pJ (.tup xs) QI A=QI xs (λ_=>True) A:=rfl
theorem Tc:pj (some (some (.own a (.lst xs)))) i A QI=QI xs (λA2=>A2.ae[i]?=some (some (.own a (.lst xs)))) A:=rfl
theorem Td {F:Int->AS->Prop}:nq (.int m) F A=F m A:=by
 unfold nq;exact propext ⟨fun⟨_,e,h⟩=>by cases e;exact h,λh=>⟨_,rfl,h⟩⟩
theorem Te:Fb ue ⟨B,ae,S⟩ QI=ue ⟨B,ae,S⟩ λx A1=>nq x (λn A=>n<=1000000000 /\ -1000000000<=n/\QI ((range n.toNat).map fun(k:Nat)=>PV.int k) (λ_=>True) A) A1:=rfl
theorem Tf:Fj ui ug u E ⟨B,ae,S⟩=ui ⟨B,ae,S⟩ λxs C A1=>fG xs C A1 ug u E:=rfl
theorem Tg:sj k ix ui ug t ue ⟨B,ae,S⟩ QV=ui ⟨B,ae,S⟩ λxs _ A1=>ki k ix xs A1 ug t ue QV:=rfl
theorem Th:xZ R ua ⟨B,ae,S⟩ QV=ua ⟨B,ae,S⟩ λxs A1=>b0 (λr=>R xs r) QV A1:=rfl
theorem Ti:Fs T ua ⟨B,ae,S⟩ QV=ua ⟨B,ae,S⟩ λxs A1=>lU T xs QV A1:=rfl
theorem Tj:yA i j ⟨B,ae,some st⟩ QV=(ae[i]?=some (some (.val (.raw (.ref st.d))))/\QV (sX j st) ⟨B,ae,some st⟩):=by
 unfold yA;exact propext ⟨fun⟨_,e,h⟩=>by cases e;exact h,λh=>⟨_,rfl,h⟩⟩
noncomputable def tF (i j:Nat)(nx:cv)(v:Int)(A:AS):Prop:=∃ st,A.S=some st/\A.ae[i]?=some (some (.val (.raw (.ref st.d))))/\nx { A with S:=some (i2 j v st) }
theorem Tn {v:Int}:tF i j nx v ⟨B,ae,some st⟩=(ae[i]?=some (some (.val (.raw (.ref st.d))))/\nx ⟨B,ae,some (i2 j v st)⟩):=by
 unfold tF;exact propext ⟨fun⟨_,e,h⟩=>by cases e;exact h,λh=>⟨_,rfl,h⟩⟩
theorem To:yB i j ue E ⟨B,ae,S⟩=ue ⟨B,ae,S⟩ λx A1=>nq x (λv A=>tF i j E.nx v A) A1:=by
 unfold yB
 congr 1;funext x A1
 unfold nq tF;exact propext ⟨fun⟨m,n,a,b,c,d⟩=>⟨n,c,m,a,b,d⟩,fun⟨n,c,m,a,b,d⟩=>⟨m,n,a,b,c,d⟩⟩
theorem Tp {F:Addr->ai->AS->Prop}:fS (some (some (.own a (.lst xs)))) F A=F a xs A:=rfl
theorem Tq {F:Addr->aT->AS->Prop}:pI (some (some (.own a (.ah kvs)))) F A=F a kvs A:=rfl
theorem Ts:pB i ue ⟨B,ae,S⟩ QV=fS ae[i]? (λa _ A=>ue A λr A1=>b0 (λxs=>A1.ae[i]?=some (some (.own a (.lst xs)))) (λxs A=>xs.length<=1000000/\QV .non (put A i (.own a (.lst (xs++[r]))))) A1) ⟨B,ae,S⟩:=by
 first
 |(unfold pB fS;rfl)
 |(unfold pB fS;dsimp only;generalize ae[i]?=s;rcases s with _|_|s<;>first|rfl|(cases s<;>first|rfl|(rename_i c;cases c<;>rfl)))
theorem Tt:pD i ⟨B,ae,S⟩ QV=fS ae[i]? (λa xs A=>∃ ys y,xs=ys++[y]/\QV y (put A i (.own a (.lst ys)))) ⟨B,ae,S⟩:=by
 first
 |(unfold pD fS;rfl)
 |(unfold pD fS;dsimp only;generalize ae[i]?=s;rcases s with _|_|s<;>first|rfl|(cases s<;>first|rfl|(rename_i c;cases c<;>rfl)))
theorem Tu:sS i ue ⟨B,ae,S⟩ QV=fS ae[i]? (λa _ A=>ue A λr A1=>b0 (λxs=>A1.ae[i]?=some (some (.own a (.lst xs)))) (λxs A=>tD r (λys A=>xs.length+ys.length<=1000000/\QV .non (put A i (.own a (.lst (xs++ys))))) A) A1) ⟨B,ae,S⟩:=by
 unfold sS fS tD b0;dsimp only;generalize ae[i]?=s;rcases s with _|_|s<;>first|rfl|(cases s<;>first|rfl|skip)
 rename_i c;cases c<;>first|rfl|skip
 refine congrArg (ue ⟨B,ae,S⟩) (funext λr=>funext λA1=>?_);exact propext ⟨fun⟨xs,ys,h1,h2,h3⟩=>⟨xs,h1,ys,h2,h3⟩,fun⟨xs,h1,ys,h2,h3⟩=>⟨xs,ys,h1,h2,h3⟩⟩
theorem Tv:yD i ue fm E ⟨B,ae,S⟩=ue ⟨B,ae,S⟩ λv A1=>pI A1.ae[i]? (λa _ A=>fm A λkp A2=>b0 (λxs=>A2.ae[i]?=some (some (.own a (.ah xs)))) (λxs A=>b0 (λk=>pk kp=some k) (λk A=>xs.length<=1000000/\E.nx (put A i (.own a (.ah (dQ xs k v))))) A) A2) A1:=by
 unfold yD pI b0;congr 1;funext v A1;dsimp only;generalize A1.ae[i]?=s;rcases s with _|_|s<;>first|rfl|(cases s<;>first|rfl|skip)
 rename_i c;cases c<;>first|rfl|skip
 refine congrArg (fm A1) (funext λr=>funext λA2=>?_);exact propext ⟨fun⟨k,xs,h1,h2,h3⟩=>⟨xs,h2,k,h1,h3⟩,fun⟨xs,h2,k,h1,h3⟩=>⟨k,xs,h1,h2,h3⟩⟩
theorem Tw:pH nx (.lst xs) A i=∀ p,nx (put A i (.own p (.lst xs))):=by
 unfold pH;refine propext ⟨fun⟨c,e,h⟩=>?_,λh=>⟨.lst xs,rfl,h⟩⟩
 cases c with
 |lst ys=>cases e;exact h
 |ah _=>cases e
 |ins _ _ _=>cases e
 |cP _=>cases e
theorem Tx:pH nx (.ah kvs) A i=∀ p,nx (put A i (.own p (.ah kvs))):=by
 unfold pH;refine propext ⟨fun⟨c,e,h⟩=>?_,λh=>⟨.ah kvs,rfl,h⟩⟩
 cases c with
 |ah ys=>cases e;exact h
 |lst _=>cases e
 |ins _ _ _=>cases e
 |cP _=>cases e
theorem Tz:Gw (some (some (.own a (.lst xs)))) i A QV=QV (.lst xs) (forget A i):=rfl
theorem TB:FQ ⟨B,ae,S⟩ QO=QO none ⟨B,ae,S⟩:=rfl
theorem TC:FR ue ⟨B,ae,S⟩ QO=ue ⟨B,ae,S⟩ λx A1=>yN x QO A1:=rfl
theorem TF:yN (.int m) QO A=QO (some m) A:=by
 unfold yN;exact propext ⟨fun⟨_,e,h⟩=>by cases e;exact h,λh=>⟨_,rfl,h⟩⟩
theorem TH {g:PV->Option Int->Option Int->PV->Prop}:yu g ue uo Gy ⟨B,ae,S⟩ QV=ue ⟨B,ae,S⟩ λx A1=>uo A1 λl A2=>Gy A2 λh A3=>A3.ae=A1.ae/\b0 (λz=>g x l h z) QV A3:=rfl
theorem TJ:FW ue ⟨B,ae,S⟩ QV=ue ⟨B,ae,S⟩ λx A1=>yO x QV A1:=rfl
theorem TK:yO (.lst xs) QV A=QV (.lst xs.reverse) A:=by
 unfold yO;exact propext ⟨fun⟨_,e,h⟩=>by cases e;exact h,λh=>⟨_,rfl,h⟩⟩
theorem TL {F:ai->AS->Prop}:tD (.lst xs) F A=F xs A:=by
 unfold tD;exact propext ⟨fun⟨_,e,h⟩=>by rcases e with e|e<;>cases e;exact h,λh=>⟨_,.inl rfl,h⟩⟩
theorem TM:F3 ue ⟨B,ae,S⟩ QV=ue ⟨B,ae,S⟩ λx A1=>nq x (λi A=>QV (.int (-i)) A) A1:=rfl
theorem TN:F8 G G' ue fm Gx ⟨B,ae,S⟩ QT=ue ⟨B,ae,S⟩ λx A1=>fm A1 λy A2=>A2.ae=A1.ae/\b0 (λz=>G x y (.bl z)) (λz A=>d_ z (λA=>Gx A λw A3=>A3.ae=A.ae/\b0 (λz'=>G' y w (.bl z')) QT A3) (λA=>QT false A) A) A2:=rfl
theorem TQ {r:PV}:cW false r=⟨λ_=>r=.non,λr' _=>r'=r,λ_ _=>False,λ_=>False,λ_=>False⟩:=by simp [cW]
theorem TR {r:PV}:cW true r=⟨λ_=>False,λ_ _=>False,λr' _=>r'=r,λ_=>False,λ_=>False⟩:=by simp [cW]
theorem TU {P:PV->ag->Prop}:dN false P=⟨λA=>pK P .non A,λr A=>pK P r A,λ_ _=>False,λ_=>False,λ_=>False⟩:=by simp [dN,pK]
theorem TV {P:PV->ag->Prop}:pK P x ⟨B,ae,some st⟩=P x st:=by
 unfold pK;exact propext ⟨fun⟨_,e,h⟩=>by cases e;exact h,λh=>⟨_,rfl,h⟩⟩
theorem TX:nu (eN (.int m)) st QV B ae=yP m st QV B ae:=by
 unfold nu eN yP;exact propext ⟨fun⟨_,e,h⟩=>by cases e;exact h,λh=>⟨_,rfl,h⟩⟩
end
section
variable {P1:PV->PV->Prop}{P2:PV->PV->PV->Prop}{P3:PV->PV->PV->PV->Prop}{P4:PV->PV->PV->PV->PV->Prop}{a b c d r:PV}{st:ag}{Q:PV->ag->Prop}{T1:eM}{T2:PV->eM}{T3:PV->PV->eM}{T4:PV->PV->PV->eM}{α:Type}{l:List α}{x y z w v:α}
theorem TY:bX P1 [a] r=P1 a r:=by simp [bX]
theorem TZ:cD P2 [a,b] r=P2 a b r:=by
 unfold cD;exact propext ⟨fun⟨_,_,e,h⟩=>by cases e;exact h,λh=>⟨_,_,rfl,h⟩⟩
theorem T5:dB P3 [a,b,c] r=P3 a b c r:=by
 unfold dB;exact propext ⟨fun⟨_,_,_,e,h⟩=>by cases e;exact h,λh=>⟨_,_,_,rfl,h⟩⟩
end
section
variable {α:Type}{l:List α}{x y u v w:α}
theorem i5 {i:Int}(h0:0<=i)(e:l[i.toNat]?=some x):cz l i=some x:=by
 have hl:i.toNat<l.length:=(c7 e).1;unfold cz iO;rw[if_pos h0,if_pos (by omega)];exact e
theorem Gz:cz (x::l) 0=some x:=i5 (by decide) rfl
theorem GA:cz (x::y::l) 1=some y:=i5 (by decide) rfl
theorem T6:cz (x::y::u::l) 2=some u:=i5 (by decide) rfl
theorem T7:cz (x::y::u::v::l) 3=some v:=i5 (by decide) rfl
end
section
variable {n:Bool}{s t:Str}{i j:Int}{z:PV}{l:aq}
theorem T8:fQ n (.str s) (.str t) z=(z=.bl (n^^(s==t))):=by
 unfold fQ;exact propext ⟨λh=>h.2,λh=>⟨⟨0,by decide,jE _ _,jE _ _⟩,h⟩⟩
theorem T9:fQ n (.int i) (.int j) z=(z=.bl (n^^(i==j))):=by
 unfold fQ;exact propext ⟨λh=>h.2,λh=>⟨⟨0,by decide,lS _ _,lS _ _⟩,h⟩⟩
theorem T_ (k:Nat){l:aq}:∀ p∈l.map PV.str,Dp k p:=λp hp=>by obtain⟨q,_,rfl⟩:=mem_map.mp hp;exact jE _ _
theorem GB:i4 n (.str s) (.tup (l.map PV.str)) z=(z=.bl (n^^l.contains s)):=by
 rw[Gr,RW];exact propext ⟨λh=>h.2.2,λh=>⟨RS s,⟨0,by decide,jE _ _,T_ 0⟩,h⟩⟩
end
theorem nv {p x:PV}{r:aT}{k:Key}:bZ ((p,x)::r) k=if pk p=some k then some x else bZ r k:=rfl
theorem GC {kvs:aT}{k:Key}{v:PV}(k':Key):bZ (dQ kvs k v) k'=if k=k' then some v else bZ kvs k':=by
 have app:∀(l:aT),bZ (l++[(kP k,v)]) k'=match bZ l k' with|some x=>some x|none=>if k=k' then some v else none:=by
  intro l
  induction l with
  |nil=>simp [bZ,Q1]
  |cons a l ih=>
   obtain⟨p,x⟩:=a;rw[cons_append,nv,nv];by_cases h:pk p=some k'
   ·rw[if_pos h,if_pos h]
   ·rw[if_neg h,if_neg h,ih]
 have upd:∀(l:aT),bZ (l.map λkv=>if pk kv.1=some k then (kv.1,v) else kv) k'=if k=k' then (if (bZ l k).isSome then some v else none) else bZ l k':=by
  intro l
  induction l with
  |nil=>simp [bZ]
  |cons a l ih=>
   obtain⟨p,x⟩:=a;rw[map_cons,nv,nv];by_cases h:pk p=some k
   ·rw[if_pos h,nv];by_cases e:k=k'
    ·subst e;simp [h]
    ·have h':¬ pk p=some k':=by rw[h];exact λz=>e (Option.some.inj z)
     rw[if_neg e,if_neg h',if_neg h',ih,if_neg e]
   ·rw[if_neg h,nv];by_cases e:k=k'
    ·subst e;rw[if_pos rfl,if_neg h,if_neg h,ih,if_pos rfl]
    ·rw[if_neg e,ih,if_neg e]
 unfold dQ;by_cases hs:(bZ kvs k).isSome=true
 ·rw[if_pos hs,upd,if_pos hs]
 ·rw[if_neg hs,app];by_cases e:k=k'
  ·subst e
   cases h:bZ kvs k with
   |none=>rfl
   |some z=>rw[h] at hs;exact absurd rfl hs
  ·simp only[if_neg e];cases bZ kvs k'<;>rfl
theorem yQ {α:Type}{k:Nat}{ix:List Nat}{A1:AS}{g:UG}{t:UT}{ue:UE}{Q:PV->AS->Prop}(l:List α)(e F:α->PV)(p:α->Bool)(aF:l.length<=1000000)(each:∀ B x,x∈l->∀(Rs:PV->AS->Prop)(Rn:cv),(∀ A4,p x=true->Kp k ix A1.ae A4->A4.S=A1.S->Rs (F x) A4)->(∀ A4,p x=false->Kp k ix A1.ae A4->A4.S=A1.S->Rn A4) ->
  g (e x) ⟨B,dg k ix A1.ae,A1.S⟩ λA2=>t A2 λb A3=>d_ b (λA=>ue A Rs) Rn A3)(fin:Q (.lst ((l.filter p).map F)) A1):ki k ix (l.map e) A1 g t ue Q:=RU l e F p aF each fin
theorem Ua {s:Str}:pk (.str s)=some (.inr s):=rfl
section
variable {d p:Addr}{n:Nat}{b:Bs}{Q:PV->AS->Prop}{B:Addr->Prop}{ae:cM}{T1:eM}{T2:PV->eM}{T3:PV->PV->eM}{T4:PV->PV->PV->eM}{x y z:PV}{m:Int}
theorem tG {T:Tr}{xs:ai}{st:ag}:lU T xs Q ⟨B,ae,some st⟩=T xs st λr st'=>Q r ⟨B,ae,some st'⟩:=by
 unfold lU;exact propext ⟨fun⟨_,e,h⟩=>by cases e;exact h,λh=>⟨_,rfl,h⟩⟩
theorem Ub:lU (gL T1) [.raw (.ref d)] Q ⟨B,ae,some ⟨d,p,n,b⟩⟩=nu T1 ⟨d,p,n,b⟩ Q B ae:=by
 rw[tG];exact propext ⟨fun⟨_,h⟩=>h,λh=>⟨rfl,h⟩⟩
theorem Uc:lU (bQ T2) [.raw (.ref d),x] Q ⟨B,ae,some ⟨d,p,n,b⟩⟩=nu (T2 x) ⟨d,p,n,b⟩ Q B ae:=by
 rw[tG];exact propext ⟨fun⟨_,e,h⟩=>by cases e;exact h,λh=>⟨_,rfl,h⟩⟩
theorem Ud:lU (c0 T3) [.raw (.ref d),x,y] Q ⟨B,ae,some ⟨d,p,n,b⟩⟩=nu (T3 x y) ⟨d,p,n,b⟩ Q B ae:=by
 rw[tG];exact propext ⟨fun⟨_,_,e,h⟩=>by cases e;exact h,λh=>⟨_,_,rfl,h⟩⟩
theorem Ue:lU (c3 T4) [.raw (.ref d),x,y,z] Q ⟨B,ae,some ⟨d,p,n,b⟩⟩=nu (T4 x y z) ⟨d,p,n,b⟩ Q B ae:=by
 rw[tG];exact propext ⟨fun⟨_,_,_,e,h⟩=>by cases e;exact h,λh=>⟨_,_,_,rfl,h⟩⟩
theorem draw (h1:n<=100000)(h2:0<m)(h3:m<2 ^ 200)(h4:∀ r:Int,0<=r->r<m->Q (.int r) ⟨B,ae,some ⟨d,p,n+1,b⟩⟩):yP m ⟨d,p,n,b⟩ Q B ae:=⟨h1,h2,h3,h4⟩
end
section
variable {A1:AS}{g:UG}{C:cv}{ub:US}{E:gH}{t:UT}{ue:UE}{k:Nat}{ix:List Nat}{Q:PV->AS->Prop}
theorem jF (N:Nat)(I:Nat->AS->Prop)(h0:I 0 A1)(hC:∀ i A2,I i A2->C A2)
  (step:∀ i A2,i<N->I i A2->g (.int i) A2 λA3=>ub { E with nx:=I (i+1),ct:=I (i+1),bk:=E.nx } A3)(fin:∀ A2,I N A2->E.nx A2):fG ((range N).map fun(k:Nat)=>PV.int k) C A1 g ub E:=by
 refine gh (range N) (fun(k:Nat)=>PV.int k) (λd A=>I d.length A) h0 (λd A h=>hC _ A h) ?_ ?_
 ·intro d x r A2 e hI
  have hx:x=d.length/\d.length<N:=by
   have h1:(range N)[d.length]?=some x:=by rw[e];simp
   obtain⟨h2,h3⟩:=c7 h1;rw[length_range] at h2;rw[getElem_range] at h3;exact⟨h3.symm,h2⟩
  rw[hx.1];rw[length_append,length_singleton];exact step _ A2 hx.2 hI
 ·intro A2 h;rw[length_range] at h;exact fin A2 h
theorem Ug (N:Nat)(I:Nat->ai->Option ag->Prop)(aF:N<=1000000)(i0:I 0 [] A1.S)
  (each:∀ B i ys S,i<N->I i ys S->∀ R:PV->AS->Prop,(∀ y A4,Kp k ix A1.ae A4->I (i+1) (ys++[y]) A4.S->R y A4)->g (.int i) ⟨B,dg k ix A1.ae,S⟩ λA2=>ue A2 R)(fin:∀ ys S,I N ys S->Q (.lst ys) { A1 with S:=S }):ki k ix ((range N).map fun(k:Nat)=>PV.int k) A1 g kh ue Q:=by
 refine Gv (range N) (fun(k:Nat)=>PV.int k) (λd ys S=>I d.length ys S) (by rw[length_range];exact aF) i0 ?_ ?_
 ·intro B d x r ys S e hI R hR
  have hx:x=d.length/\d.length<N:=by
   have h1:(range N)[d.length]?=some x:=by rw[e];simp
   obtain⟨h2,h3⟩:=c7 h1;rw[length_range] at h2;rw[getElem_range] at h3;exact⟨h3.symm,h2⟩
  obtain⟨rfl,hx⟩:=hx;refine each B d.length ys S hx hI R λy A4 k1 i1=>hR y A4 k1 ?_;rw[length_append,length_singleton];exact i1
 ·intro ys S h;rw[length_range] at h;exact fin ys S h
end
theorem iz {xs:ai}{i:Int}(h0:0<=i)(h1:i<=xs.length):cI xs (some i) none=xs.drop i.toNat:=by
 unfold cI
 have e:HT.aV xs.length 0 (some i)=i.toNat:=by
  show(if i<0 then _ else min i.toNat xs.length)=_;rw[if_neg (by omega)];omega
 rw[e,HT.BK,take_of_length_le (by rw[length_drop];exact ar _)]
theorem tH {xs:ai}{i:Int}(h0:0<=i)(h1:i<=xs.length):cI xs none (some i)=xs.take i.toNat:=by
 unfold cI
 have e:HT.aV xs.length xs.length (some i)=i.toNat:=by
  show(if i<0 then _ else min i.toNat xs.length)=_;rw[if_neg (by omega)];omega
 rw[e,HT.BK,Nat.sub_zero,drop_zero]
noncomputable def Nx (st:ag)(c:Nat)(st':ag):Prop:=∃ n,n<=st.n+c/\st'=⟨st.d,st.a,n,st.b⟩
noncomputable def tJ:gH:=⟨λ_=>False,λr _=>r=.bl true,λr _=>r=.bl true,λ_=>False,λ_=>False⟩
theorem Uh {K:Frag}{H:Hp}{a:Addr}{ns:List Int}(hO:mH H)(hS:aN K H a (ns.map V.int))(hl:ns.length<=63):eJ K H a:=by
 rcases hS with (h|h)|h
 ·rcases hO a with z|⟨o,xs,z⟩<;>(rw[h] at z;cases z)
 ·exact⟨ns,hl,.inl h⟩
 ·exact⟨ns,hl,.inr h⟩
theorem Ui {K:Frag}{u:US}{H H1:Hp}{a d:Addr}{D:Bs}{n0:Nat}{ns:List Int}(hO:mH H)(hS:aN K H a (ns.map V.int))(hl:ns.length<=63)(S1:cF H1 d a n0 D)(s1:aS H H1)(m:Nat)
  (q:u tJ ⟨λb=>b=d,some (.val (.raw (.ref a)))::some (.val (.raw (.ref d)))::replicate m none,some ⟨d,a,n0,D⟩⟩){Q:VK}(hQ:∀ H',Q (.bl true) H') :
  b9 K u { nx:=λ_ H'=>Q .non H',rt:=Q } (some (.ref a)::some (.ref d)::replicate m none) H1:=by
 obtain⟨kvs,hd⟩:=S1.dk
 have yR:∀(i:Nat)(s:Sl),(some (Sl.val (.raw (.ref a)))::some (.val (.raw (.ref d)))::replicate m none:cM)[i]?=some (some s)->(i=0/\s=.val (.raw (.ref a)))\/(i=1/\s=.val (.raw (.ref d))):=by
  intro i s h;rcases i with _|_|i
  ·cases h;exact .inl ⟨rfl,rfl⟩
  ·cases h;exact .inr ⟨rfl,rfl⟩
  ·rw[getElem?_cons_succ,getElem?_cons_succ,getElem?_replicate] at h
   split at h<;>cases h
 refine⟨_,tJ,⟨?_,?_,?_,?_,?_,?_⟩,q,?_⟩
 ·simp
 ·intro i s h;rcases yR i s h with ⟨rfl,rfl⟩|⟨rfl,rfl⟩
  ·exact⟨_,rfl,.raw a⟩
  ·exact⟨_,rfl,.raw d⟩
 ·rintro b rfl;rw[hd];intro z;cases z
 ·intro i j b c c' h1 h2;rcases yR _ _ h1 with ⟨_,z⟩|⟨_,z⟩<;>cases z
 ·rintro st h;cases h;exact⟨rfl,S1,(Uh hO hS hl).keep λo=>s1 _ o⟩
 ·intro i b c st h1 h2;rcases yR _ _ h1 with ⟨_,z⟩|⟨_,z⟩<;>cases z
 ·refine⟨λA1 bw H2 p=>p.elim,?_,?_,?_,λA1 bw H2 p=>p.elim,λA1 bw H2 p=>p.elim⟩
  ·rintro r A1 bw v H2 rfl R1 S2 rv;cases rv;exact hQ _
  ·rintro r A1 bw v H0 H2 rfl R1 S2 ⟨p,c,e,_⟩;cases c<;>cases e
  ·intro i b c A1 bw H2 hi lI p R1 S2;have p':c.pv=.bl true:=p;cases c<;>cases p'
section
variable {X:Cx}{K:Frag}{a b e:Expr}{ua ub ue:UE}{p pos apos bh bB:Pos}{k:Nat}
noncomputable def GD (r:Zv->Hp->VK->Prop):R2:=λx y H Q=>r [x,y] H Q
theorem GF {id:String}{x:Str}{r:Zv->Hp->VK->Prop}{G:G2}(hc:cy X (.builtin id) r)(br:dz K (GD r) G)(hv:bootBuiltins x=some (.builtin id))(hm:X.mg x=none)(ha:PE X a (az K ua))(hb:PE X b (az K ub))(hg:Gl X x:=by rfl)(hn:x≠"__name__":=by decide)(hd:(x==("__debug__":Str))=false:=by decide)
  (hs:starEach [a,b] X.env=[(false,eval a X.env),(false,eval b X.env)]:=by rfl)(hs2:starEach [b] X.env=[(false,eval b X.env)]:=by rfl):PE X (.Call (.Name x p) [a,b] [] pos) (aB K (u2 G ua ub)):=
 (hU hc hg hm hv (b8 ha (b8 hb cO hs2) (by rw[hs,hs2])) hn hd (by rw[hs,hs2]) (hpl:=by rw[hs2];rfl)).mono (r9 (r:=GD r) br)
noncomputable def GG:G2:=ko λi j=>.int (if j<i then j else i)
noncomputable def GH:G2:=ko λi j=>.int (if j > i then j else i)
theorem tK (hc:X.calm=true)(hm:X.mg "min"=none)(ha:PE X a (az K ua))(hb:PE X b (az K ub))(hg:Gl X "min":=by rfl)
  (hs:starEach [a,b] X.env=[(false,eval a X.env),(false,eval b X.env)]:=by rfl)(hs2:starEach [b] X.env=[(false,eval b X.env)]:=by rfl):PE X (.Call (.Name "min" p) [a,b] [] pos) (aB K (u2 GG ua ub)):=by
 refine GF (LK hc) ?_ (by with_unfolding_all rfl) hm ha hb hg (hs:=hs) (hs2:=hs2);intro H A σ x y v w z Q R q1 q2 g c;cases x<;>cases y<;>try exact(show False from g).elim
 cases (show z=_ from g);cases q1.int;cases q2.int;exact⟨_,_,rfl,c _ H (aS.refl H) (.int _)⟩
theorem GI (hc:X.calm=true)(hm:X.mg "max"=none)(ha:PE X a (az K ua))(hb:PE X b (az K ub))(hg:Gl X "max":=by rfl)
  (hs:starEach [a,b] X.env=[(false,eval a X.env),(false,eval b X.env)]:=by rfl)(hs2:starEach [b] X.env=[(false,eval b X.env)]:=by rfl):PE X (.Call (.Name "max" p) [a,b] [] pos) (aB K (u2 GH ua ub)):=by
 refine GF (LJ hc) ?_ (by with_unfolding_all rfl) hm ha hb hg (hs:=hs) (hs2:=hs2);intro H A σ x y v w z Q R q1 q2 g c;cases x<;>cases y<;>try exact(show False from g).elim
 cases (show z=_ from g);cases q1.int;cases q2.int;exact⟨_,_,rfl,c _ H (aS.refl H) (.int _)⟩
noncomputable def tN (i:Nat)(ue:UE):UE:=λA Q=>match A.ae[i]? with
 |some (some (.own a (.lst _)))=>ue A λr A1=>∃ xs j y,A1.ae[i]?=some (some (.own a (.lst xs)))/\r=.int (j:Nat)/\j<=1000000/\xs[j]?=some y/\Q y (put A1 i (.own a (.lst (xs.eraseIdx j))))
 |_=>False
theorem Uj (hK:X.K=K)(i:Nat){x:Str}(he:PE X e (aB K ue))(hN:X.N[i]?=some x:=by rfl)(hv:dj X.env.scope x:=by walk_at "v")(hd:(x==("__debug__":Str))=false:=by decide)(bK:(x==("__classdict__":Str))=false:=by decide)
  (d5:attributeBase (.Name x bB) "pop" X.env (eval (.Name x bB) X.env)=eval (.Name x bB) X.env:=by rfl)
  (h_:((backTo bh (starEach [e] X.env)).all (λx=>!x.1)&&(backToKw bh (keywordEach [] X.env)).all (λx=>x.1.isSome)&&decide ([e].length+([]:List Keyword).length+(if ([]:List Keyword).isEmpty then 0 else 1)<30))=true:=by rfl)
  (d6:(apos.endLine==bh.line)=true:=by rfl)(hs:starEach [e] X.env=[(false,eval e X.env)]:=by rfl):PE X (.Call (.Attribute (.Name x bB) "pop" apos) [e] [] bh) (aB K (tN i ue)):=by
 subst hK;refine(oN PySem.F.plainAttrs_list PySem.F.slot_list_pop PySem.F.type_list_pop MW (dZ hN hv hd bK) (b8 he cO hs) d5 h_ d6 hs rfl).mono λσ H Q ⟨A,P,R,h,c⟩=>?_;unfold tN at h
 split at h
 ·rename_i a ys hx;obtain⟨v,ev,rfl,nb,vs,h1,h2⟩:=R.sl i _ hx;refine⟨_,ev,.inl ⟨rfl,_,aN.of h1⟩,A,_,R,h,λr A1 w H1 p R1 S1 dJ=>?_⟩;obtain⟨xs,j,y,hA,rfl,aF,hy,p⟩:=p;obtain⟨_,_,_,_,us,g1,g2⟩:=R1.sl i _ hA;cases dJ;obtain⟨u,hu,ru⟩:=g2.at hy;have hl:j<us.length:=(c7 hu).1;obtain⟨R2,S2⟩:=R1.turn hA (g2.erase j);exact⟨a,us,j,j,u,rfl,rfl,g1,by omega,by omega,seqIndex_of (by omega) (by omega),hu,c _ _ _ _ p R2 (S1.trans S2) (ru.imp (R1.keep S2))⟩
 ·exact h.elim
noncomputable def GJ:G1
 |.lst xs,z=>tq (.lst xs) z
 |.ah kvs,z=>z=.ah kvs
 |_,_=>False
noncomputable def GK:G2
 |.lst xs,.int k,z=>-(2 ^ 63)<=k/\k<2 ^ 63/\xs.length*k.toNat<=1000000/\z=.lst (replicate k.toNat xs).flatten
 |_,_,_=>False
theorem aI.rep {N:Addr->Prop}{H:Hp}{xs:ai}{vs:Zv}(h:aI K N H xs vs)(n:Nat):aI K N H (replicate n xs).flatten (replicate n vs).flatten:=by
 induction n with
 |zero=>exact .nil
 |succ n ih=>
  rw[replicate_succ,replicate_succ,flatten_cons,flatten_cons];exact h.app ih
theorem yS (ha:PE X a (az K ua))(hb:PE X b (az K ub)):PE X (.BinOp a .Mult b pos) (c4 K (u2 GK ua ub)):=by
 refine EN MX ?_ ha hb;intro H A σ x y v w z Q R q1 q2 g c;cases x<;>cases y<;>try exact(show False from g).elim
 obtain⟨h1,h2,h3,rfl⟩:=g;obtain⟨l,vs,rfl,g1,g2⟩:=q1.lst R;cases q2.int;exact⟨l,_,vs,rfl,rfl,g1,h1,h2,by rw[<- g2.len];exact sT h3,λq hq=>c _ _ ⟨q,.lst _,rfl,rfl,hq,dM hq _,_,bE,g2.rep _⟩⟩
end
noncomputable def i6 (kvs more:aT):aT:=more.foldl (λacc kv=>match pk kv.1 with|some k=>dQ acc k kv.2|none=>acc) kvs
theorem GL {K:Frag}{N:Addr->Prop}{H:Hp}:∀{more:aT}{yT:bj}{kvs:aT}{av:bj},bR K N H more (yT.map gg)->bR K N H kvs (av.map gg)->bR K N H (i6 kvs more) ((hV av yT).map gg)
 |[],[],_,_,_,h=>h
 |[],_::_,_,_,h,_=>nomatch h
 |_::_,[],_,_,h,_=>nomatch h
 |(p,x)::more,kw::yT,kvs,av,h,g=>by
  cases h with
  |cons r1 r2 r3=>
   have e:=sY r1;unfold i6 hV;rw[foldl_cons,foldl_cons];simp only[e];exact GL r3 (s_ g kw.1 r2)
section
variable {X:Cx}{K:Frag}{e:Expr}{ue:UE}{p pos apos bh bB:Pos}
theorem Uk (hK:X.K=K)(hc:X.calm=true)(hm:X.mg "dict"=none)(he:PE X e (az K ue))(hg:Gl X "dict":=by rfl)(hs:starEach [e] X.env=[(false,eval e X.env)]:=by rfl):PE X (.Call (.Name "dict" p) [e] [] pos) (c4 K (u1 GJ ue)):=by
 subst hK;refine F0 (cy.or (Gh hc) Pr) ?_ PyProof.Rows.boot_dict hm he hg (hs:=hs);intro H A σ x v z Q R q1 g c;cases x<;>first|exact(show False from g).elim|skip
 ·rename_i xs;obtain⟨l,hl,aF,rfl⟩:=(show tq (.lst xs) z from g);obtain⟨a,vs,rfl,h1,h2⟩:=q1.lst R;obtain⟨kvs,g1,g2,g3⟩:=yH h2 hl;exact .inl ⟨a,vs,kvs,rfl,h1,g1,by omega,λq hq=>c _ _ ⟨q,.ah _,rfl,rfl,hq,dM hq _,_,bE,g3 [] [] .nil⟩⟩
 ·rename_i kvs;cases (show z=.ah kvs from g);obtain⟨a,av,rfl,h1,h2⟩:=q1.ah R;exact .inr ⟨a,av,rfl,h1,λq hq=>c _ _ ⟨q,.ah _,rfl,rfl,hq,dM hq _,_,bE,h2⟩⟩
noncomputable def tO (i:Nat)(ue:UE):UE:=λA Q=>match A.ae[i]? with
 |some (some (.own a (.ah _)))=>ue A λr A1=>∃ xs ys,A1.ae[i]?=some (some (.own a (.ah xs)))/\r=.ah ys/\xs.length+ys.length<=1000000/\Q .non (put A1 i (.own a (.ah (i6 xs ys))))
 |_=>False
theorem Ul (hK:X.K=K)(i:Nat){x:Str}(he:PE X e (aB K ue))(hN:X.N[i]?=some x:=by rfl)(hv:dj X.env.scope x:=by walk_at "v")(hd:(x==("__debug__":Str))=false:=by decide)(bK:(x==("__classdict__":Str))=false:=by decide)
  (d5:attributeBase (.Name x bB) "update" X.env (eval (.Name x bB) X.env)=eval (.Name x bB) X.env:=by rfl)
  (h_:((backTo bh (starEach [e] X.env)).all (λx=>!x.1)&&(backToKw bh (keywordEach [] X.env)).all (λx=>x.1.isSome)&&decide ([e].length+([]:List Keyword).length+(if ([]:List Keyword).isEmpty then 0 else 1)<30))=true:=by rfl)
  (d6:(apos.endLine==bh.line)=true:=by rfl)(hs:starEach [e] X.env=[(false,eval e X.env)]:=by rfl):PE X (.Call (.Attribute (.Name x bB) "update" apos) [e] [] bh) (aB K (tO i ue)):=by
 subst hK;refine(oN PySem.F.plainAttrs_dict PySem.F.slot_dict_update PySem.F.type_dict_update Pt (dZ hN hv hd bK) (b8 he cO hs) d5 h_ d6 hs rfl).mono λσ H Q ⟨A,P,R,h,c⟩=>?_;unfold tO at h
 split at h
 ·rename_i a ys hx;obtain⟨v,ev,rfl,nb,vs,h1,h2⟩:=R.sl i _ hx;refine⟨_,ev,.inr (.inr (.inl ⟨rfl,.inl ⟨_,h1⟩⟩)),A,_,R,h,λr A1 w H1 p R1 S1 dJ=>?_⟩;obtain⟨xs,zs,hA,rfl,aF,p⟩:=p;obtain⟨_,_,_,_,us,g1,g2⟩:=R1.sl i _ hA
  cases dJ with
  |ah nN hD f2=>
   obtain⟨ws,od,f1,rfl⟩:=hD;have l1:=g2.len;have l2:=f2.len;rw[length_map] at l1 l2;obtain⟨R2,S2⟩:=R1.yC hA (GL f2 g2);exact⟨a,_,us,ws,rfl,rfl,λz=>nN (.inr ⟨i,_,by rw[<- z];exact hA⟩),g1,.inr ⟨od,f1⟩,sT (by omega),c _ _ _ _ p R2 (S1.trans S2) .non⟩
 ·exact h.elim
end
section
variable {B:Addr->Prop}{ae:cM}{S:Option ag}{A:AS}{i:Nat}{ue:UE}{QV:PV->AS->Prop}{QI:ai->(cv)->AS->Prop}{kvs:aT}{xs:ai}{z:PV}{m n:Int}
theorem Um:pJ (.ah kvs) QI A=QI (kvs.map Prod.fst) (λ_=>True) A:=rfl
theorem Uo:GG (.int m) (.int n) z=(z=.int (if n<m then n else m)):=rfl
theorem Up:GH (.int m) (.int n) z=(z=.int (if n > m then n else m)):=rfl
theorem Uq:GK (.lst xs) (.int m) z=(-(2 ^ 63)<=m/\m<2 ^ 63/\xs.length*m.toNat<=1000000/\z=.lst (replicate m.toNat xs).flatten):=rfl
theorem Ur:GJ (.ah kvs) z=(z=.ah kvs):=rfl
theorem Us:tN i ue ⟨B,ae,S⟩ QV=fS ae[i]? (λa _ A=>ue A λr A1=>b0 (λxs=>A1.ae[i]?=some (some (.own a (.lst xs)))) (λxs A=>∃ j y,r=.int (j:Nat)/\j<=1000000/\xs[j]?=some y/\QV y (put A i (.own a (.lst (xs.eraseIdx j))))) A1) ⟨B,ae,S⟩:=by
 unfold tN fS b0;dsimp only;generalize ae[i]?=s;rcases s with _|_|s<;>first|rfl|(cases s<;>first|rfl|skip)
 rename_i c;cases c<;>first|rfl|skip
 refine congrArg (ue ⟨B,ae,S⟩) (funext λr=>funext λA1=>?_);exact propext ⟨fun⟨xs,j,y,h1,h2⟩=>⟨xs,h1,j,y,h2⟩,fun⟨xs,h1,j,y,h2⟩=>⟨xs,j,y,h1,h2⟩⟩
theorem Ut:tO i ue ⟨B,ae,S⟩ QV=pI ae[i]? (λa _ A=>ue A λr A1=>b0 (λxs=>A1.ae[i]?=some (some (.own a (.ah xs)))) (λxs A=>∃ ys,r=.ah ys/\xs.length+ys.length<=1000000/\QV .non (put A i (.own a (.ah (i6 xs ys))))) A1) ⟨B,ae,S⟩:=by
 unfold tO pI b0;dsimp only;generalize ae[i]?=s;rcases s with _|_|s<;>first|rfl|(cases s<;>first|rfl|skip)
 rename_i c;cases c<;>first|rfl|skip
 refine congrArg (ue ⟨B,ae,S⟩) (funext λr=>funext λA1=>?_);exact propext ⟨fun⟨xs,ys,h1,h2⟩=>⟨xs,h1,ys,h2⟩,fun⟨xs,h1,ys,h2⟩=>⟨xs,ys,h1,h2⟩⟩
end
theorem Uu {X:Cx}{K:Frag}{a b:Expr}{ua ub:UE}{pos:Pos}(ha:PE X a (az K ua))(hb:PE X b (az K ub)):PE X (.BinOp a .Pow b pos) (aB K (u2 (gI vp λi j=>.int (i ^ j.toNat)) ua ub)):=mQ Lk (sE λ_ _ _ _=>.int _) ha hb
section
variable {prog:Program}{w:World}{A:Around}{E:aG}{s:Shared}{a:Addr}{vs:List (Key×Value)}{ep:Nat}
theorem Uv {R:aC->Shared->Prop}(hh:A.handled=none)(lo:(a==sysModules)=false)(T:s.heap.DictAt (bN prog w) a vs ep)(aF:vs.length<=sizeLine)
  (h:∀ h' tk (us:aC),(∀ b o,s.heap.get? b=some o->h'.get? b=some o)->s.heap.objs.size<h'.objs.size->us.length=vs.length->(∀(i:Nat)(v:Value),us[i]?=some v->∃ k x,vs[i]?=some (k,x)/\(bN prog w).is k v=true)->R us { s with heap:=h',toks:=tk }):wpAny (model prog w) A (collect (.ref a)) R E s:=by
 have lt:a<s.heap.objs.size:=T.lt_size;unfold collect;refine af (wpAny_runValue (codeAny_builtin PyProof.Rows.entry_proto_collect' ?_));rw[Around.under_plainId PySem.F.plain_proto_collect _];show wpAny _ A.in1 (newList [] >>= λl=>again (.builtin "list.__iadd__" ⟨[l,.ref a],[]⟩)) _ _ s;refine af (wpAny_newObj_type ?_);refine ao ⟨plainId_quiet PySem.F.plain_list_iadd _,codeAny_builtin PyProof.Rows.entry_list_iadd' ?_⟩;rw[Around.under_plainId PySem.F.plain_list_iadd _];have g0:(s.heap.push { cls:=.type "list",data:=.seq ([]:aC).toArray }).get? s.heap.objs.size=some { cls:=.type "list",data:=.seq #[] }:=b7 _ rfl;show wpAny _ A.in1 (Builtin.List.listExtendWith (.ref s.heap.objs.size) (.ref a) (.ref s.heap.objs.size)) _ _ _
 have key:=PySem.W.kdl_extend (A:=A) (s:={ s with heap:=s.heap.push { cls:=.type "list",data:=.seq ([]:aC).toArray } })
  (R:=fun(q:Result)(s':Shared)=>∃(h':Heap)(tk:Nat)(us:Array Value)(c':Nat),q=.ok (.ret (.ref s.heap.objs.size))/\s'={ s with heap:=h',toks:=tk } /\
   (∀ b o,s.heap.get? b=some o->h'.get? b=some o)/\h'.get? s.heap.objs.size=some { cls:=.type "list",dict:=none,data:=.seq us c',slots:=#[] }/\ItemsOf (λi v=>∃ k x,vs[i]?=some (k,x)/\(bN prog w).is k v=true) us vs.length)
  (PySem.W.kdl_dict (knd:=bN prog w) (kvs:=vs) (ep:=ep) lo) hh (T.at' λo e=>a9 _ e) s.heap.objs.size (Nat.ne_of_gt lt) (Nat.ne_of_gt lt) (.ref s.heap.objs.size) 0 g0
  (λh' tk us c' k eQ it=>⟨h',tk,us,c',rfl,rfl,λb o e=>k b o (bJ (a7 e)) (a9 _ e),eQ,it⟩) aF
 refine wpAny_mono key (λf s' x=>?_) λe s' x=>?_
 ·cases f with
  |done f=>
   obtain⟨h',tk,us,c',e,rfl,k,eQ,it⟩:=x;cases e;show wpAny _ A (load s.heap.objs.size >>= _) _ _ _;refine af (wpAny_load eQ ?_);have q:=h h' tk us.toList k (a7 eQ) (by rw[Array.length_toList];exact it.1) λi v e=>it.2 i v (by rw[<- Array.getElem?_toList];exact e);exact ao q
  |again c₁=>
   refine⟨x.1,codeAny_mono x.2 λq dS y=>?_⟩;obtain⟨h',tk,us,c',rfl,rfl,k,eQ,it⟩:=y;show wpAny _ A (load s.heap.objs.size >>= _) _ _ _;refine af (wpAny_load eQ ?_);have q:=h h' tk us.toList k (a7 eQ) (by rw[Array.length_toList];exact it.1) λi v e=>it.2 i v (by rw[<- Array.getElem?_toList];exact e);exact ao q
 ·obtain⟨_,_,_,_,e',_⟩:=x;cases e'
end
section
variable {X:Cx}
theorem Uw:∀{kvs:bj}{vs:List (Key×Value)}{us:aC}{zs:aq},KV kvs vs->kvs.map Prod.fst=zs.map Sum.inr->us.length=vs.length->(∀(i:Nat)(v:Value),us[i]?=some v->∃ k x,vs[i]?=some (k,x)/\jd k v=true)->StrsAre us zs:=by
 intro kvs vs us zs r;unfold KV at r
 induction r generalizing us zs with
 |nil=>
  intro hz hl _
  cases zs with
  |nil=>cases us with|nil=>exact .nil|cons _ _=>simp at hl
  |cons _ _=>simp at hz
 |@cons p q xs ys h1 h2 ih=>
  intro hz hl hv
  cases zs with
  |nil=>simp at hz
  |cons z zs=>
   cases us with
   |nil=>simp at hl
   |cons u us=>
    simp only[map_cons,cons.injEq] at hz;obtain⟨k,x,e,hk⟩:=hv 0 u rfl;simp only[getElem?_cons_zero,Option.some.injEq] at e;have e1:q.1=k:=by rw[e]
    have iR:jd (.inr z) u=true:=by rw[<- hz.1,h1.1,e1];exact hk
    rcases g4 iR with ⟨i,t,e',_⟩|⟨y,t,e',rfl⟩
    ·cases e'
    ·cases e';exact .cons z t (ih hz.2 (by simpa using hl) λi v e=>by simpa using hv (i+1) v (by simpa using e))
theorem Ux (hc:X.calm=true):cy X (.builtin "sorted") (λxs H Q=>∃ p kvs zs,xs=[.ref p]/\Rd H p (.dK kvs)/\kvs.map Prod.fst=zs.map Sum.inr/\zs.length<64/\∀ l ss,H l=none->jt zs ss->Q (.ref l) (upd H l (.lst (ss.map V.str)))):=by
 intro pins s σ H xs us Q I r h;obtain⟨p,kvs,zs,rfl,hp,hk,hz,q⟩:=h;obtain⟨u,rfl,ru⟩:=vals1 r;cases ru;obtain⟨z,n,av,rk,od,es,ep,T⟩:=hp.ok I.aA;have T:s.heap.DictAt (bN X.prog X.w) p av ep:=⟨od,es,T⟩
 have l0:av.length=zs.length:=by
  have l1:=rk.length;have l2:=congrArg List.length hk;simp only[length_map] at l2;omega
 refine Calls.call_function_entry kind_sorted plain_sorted entry_sorted (args_sorted1 _) ?_;unfold Builtin.«sorted»;refine af (m:=checkCount "sorted" 1 1 _) (ao ?_);refine af (Uv (A:=X.A.in1) (I.ok.hd hc) n T (Nat.le_of_lt (jq (by omega))) λh' tk vs k lt hl hv=>?_);have hS:StrsAre vs zs:=Uw rk hk hl hv;have len:vs.length<64:=by omega
 refine af (wpAny_newList ?_ (Nat.le_of_lt (jq (by omega))));have oL:(h'.push { cls:=.type "list",data:=.seq vs.toArray }).get? h'.objs.size=some (seqObj "list" vs.toArray 0):=b7 _ rfl;refine af (wpAny_holding (wpAny_call_entry slot_list_sort ⟨_,oL,rfl⟩ entry_list_sort (list_sort_treeK strKind_oneLt oL hS.keysOf (λO9 O_ rest e=>keyKind_strs (by rw[<- e];exact hS)) len λst' a1 a2=>⟨_,rfl,?_⟩) (args_list_sort _)));obtain⟨ss,b1,b2,b3⟩:=sorted_out_str hS a1 a2;obtain⟨ex,he⟩:=sortedHeap_at (out:=(arrOf st').map (·.2)) oL
 have kp:∀ b o,s.heap.get? b=some o->(sortedHeap (h'.push { cls:=.type "list",data:=.seq vs.toArray }) h'.objs.size vs ((arrOf st').map (·.2))).get? b=some o:=λb o e=>by
  have e1:=k b o e;have l1:=a7 e1;rw[sortedHeap_old (bJ l1) (by rw[size_push'];exact Nat.lt_succ_of_lt l1)];exact a9 _ e1
 have le:s.heap.objs.size<=h'.objs.size:=Nat.le_of_lt lt
 have I1:=I.laid (a:=h'.objs.size) (o:=.lst (ss.map V.str)) (t':=tk) kp le ⟨by rw[length_map,b2.length_eq];exact Nat.le_of_lt (jq (by omega)),((arrOf st').map (·.2)).toList,ex,rX b1,by
  rw[Array.toArray_toList]
  exact he⟩
 exact ao ⟨_,rfl,.ref h'.objs.size,_,I1,rfl,q _ ss (I.aA.fresh le) ⟨b2,xE b3⟩⟩
end
noncomputable def GN:G1
 |.ah kvs,z=>∃ zs,kvs.map Prod.fst=zs.map PV.str/\zs.length<64/\z=.lst ((b_ zs).map PV.str)
 |_,_=>False
theorem Uy {kvs:aT}{z:PV}:GN (.ah kvs) z=(∃ zs,kvs.map Prod.fst=zs.map PV.str/\zs.length<64/\z=.lst ((b_ zs).map PV.str)):=rfl
section
variable {X:Cx}{K:Frag}{e:Expr}{ue:UE}{p pos:Pos}
theorem GO {N:Addr->Prop}{H:Hp}:∀{kvs:aT}{av:bj}{zs:aq},bR K N H kvs (av.map gg)->kvs.map Prod.fst=zs.map PV.str->av.map Prod.fst=zs.map Sum.inr
 |[],[],[],_,_=>rfl
 |[],[],_::_,_,h=>by simp at h
 |[],_::_,_,h,_=>nomatch h
 |_::_,[],_,h,_=>nomatch h
 |_::_,_::_,[],_,h=>by simp at h
 |(p,x)::kvs,kw::av,z::zs,h,g=>by
  cases h with
  |cons r1 r2 r3=>
   have e:=sY r1;simp only[map_cons,cons.injEq] at g ⊢;have g1:p=.str z:=g.1;subst g1;refine⟨?_,GO r3 g.2⟩;simpa [pk] using e.symm
theorem pL (hK:X.K=K)(hc:X.calm=true)(hm:X.mg "sorted"=none)(he:PE X e (az K ue))(hg:Gl X "sorted":=by rfl)(hs:starEach [e] X.env=[(false,eval e X.env)]:=by rfl):PE X (.Call (.Name "sorted" p) [e] [] pos) (c4 K (u1 GN ue)):=by
 subst hK;refine FY (Ux hc) ?_ PyProof.Rows.boot_sorted hm he hg (hs:=hs);intro H A σ x v z Q R q1 g c;cases x<;>first|exact g.elim|skip
 obtain⟨zs,hz,aF,rfl⟩:=g;obtain⟨a,av,rfl,h1,h2⟩:=q1.ah R;refine⟨a,av,zs,rfl,h1,GO h2 hz,aF,λl ss hl pG=>?_⟩;cases pG.eq;exact c _ _ ⟨l,.lst _,rfl,rfl,hl,dM hl _,_,bE,yI _⟩
end
noncomputable def yU (G:G2)(ua ub:UE):UT:=λA Q=>ua A λx A1=>ub A1 λy A2=>∃ z,G x y (.bl z)/\Q z A2
theorem Uz {G:G2}{ue fm:UE}{B:Addr->Prop}{ae:cM}{S:Option ag}{QT:Bool->AS->Prop}:yU G ue fm ⟨B,ae,S⟩ QT=ue ⟨B,ae,S⟩ λx A1=>fm A1 λy A2=>b0 (λz=>G x y (.bl z)) QT A2:=rfl
section
variable {X:Cx}{K:Frag}{a b:Expr}{ua ub:UE}{pos:Pos}{r:R2}{G:G2}{k:Nat}
theorem UB (br:dz K r G):∀ σ H Q,liftT K (yU G ua ub) σ H Q->qL (jT r (aB K ua) (az K ub)) σ H Q:=λσ H Q ⟨A,P,R,h,c⟩=>
 ⟨A,_,R,h,λx A1 v H1 p1 R1 S1 q1=>⟨A1,_,R1,p1,λy A2 w H2 p2 R2 S2 q2=>by
  obtain⟨z,g,p⟩:=p2
  exact br H2 A2 σ x y v w (.bl z) _ R2 (.inl (q1.imp (R1.keep S2))) q2 g λv' H' s rv=>by
   cases rv
   exact⟨z,rfl,c z A2 H' p (R2.same s) (S1.trans (S2.trans (ay.same A2 s)))⟩⟩⟩
theorem yV (hK:X.K=K)(hr:bP k X.A)(ha:PE X a (aB K ua))(hb:PE X b (az K ub)):PT X (.Compare a [.NotEq] [b] pos) (liftT K (yU (fQ true) ua ub)):=by
 subst hK;exact(kZ (FE (by have:=hr.un;omega)) ha hb (fb _)).mono (UB sM)
end
noncomputable def yW (z:Str)(ue:UE)(Q:PV->AS->Prop):cv:=λA=>∀ B,ue ⟨B,A.ae,A.S⟩ λx A2=>A2.ae=A.ae/\Q (.ah [(.str z,x)]) ⟨A.B,A.ae,A2.S⟩
noncomputable def GP (i:Nat)(ue:UE):UE:=λA Q=>∃ z,A.ae[i]?=some (some (.val (.str z)))/\yW z ue Q A
theorem UC {i:Nat}{ue:UE}{B:Addr->Prop}{ae:cM}{S:Option ag}{QV:PV->AS->Prop}:GP i ue ⟨B,ae,S⟩ QV=b0 (λz=>ae[i]?=some (some (.val (.str z)))) (λz=>yW z ue QV) ⟨B,ae,S⟩:=rfl
section
variable {K:Frag}{H H1 H2:Hp}{σ:St}{A:AS}
theorem Rep.UD (R:Rep K H σ A){p:Addr}(hp:H p=none)(o:HO):Rep K (upd H p o) σ ⟨λb=>A.B b\/b=p,A.ae,A.S⟩:=by
 have s:aS H (upd H p o):=dM hp o;have na:∀ a u,H a=some u->a≠p:=λa u h=>dG h hp
 have kp:d8 K (AN A) (AN ⟨λb=>A.B b\/b=p,A.ae,A.S⟩) H (upd H p o):=⟨(iT (K:=K) (N:=AN A) s).t,λa u n h=>⟨λz=>by
  rcases z with (z|z)|z
  ·exact n (.inl z)
  ·exact na a u h z
  ·exact n (.inr z),s a u h⟩⟩
 have R1:=R.same s;refine⟨R.len,λi t h=>?_,λa h=>?_,R.nd,λst h=>?_,R.pk⟩
 ·obtain⟨v,e,q⟩:=R.sl i t h;refine⟨v,e,?_⟩
  cases t with
  |val x=>exact q.imp kp
  |own a c=>exact⟨q.1,λz=>z.elim q.2.1 λe=>q.2.2.some (by rw[e];exact hp),q.2.2.imp kp λo=>s a o⟩
  |peek a c=>exact⟨q.1,.inl q.2.1,q.2.2.imp kp λo=>s a o⟩
 ·rcases h with h|h
  ·exact R1.df a h
  ·rw[h,bE];intro z;cases z
 ·obtain⟨h1,h2,h3⟩:=R1.st st h;exact⟨.inl h1,h2,h3⟩
theorem Rep.UH {ae:cM}{S:Option ag}{B:Addr->Prop}{p:Addr}(R:Rep K H σ ⟨λb=>B b\/b=p,ae,S⟩)(hB:¬ B p)(hp:H p=some (.dK []))(hd:∀ st,S=some st->st.d≠p)(hk:∀(i:Nat)(c:OC),ae[i]?≠some (some (.peek p c))) :
  Rep K (erase H p) σ ⟨B,ae,S⟩/\d8 K (AN ⟨λb=>B b\/b=p,ae,S⟩) (AN ⟨B,ae,S⟩) H (erase H p):=by
 have kp:d8 K (AN ⟨λb=>B b\/b=p,ae,S⟩) (AN ⟨B,ae,S⟩) H (erase H p):=⟨λa vs h=>by
  rcases h with h|h
  ·refine .inl ?_;rcases h with h|⟨o,h⟩
   ·exact .inl (by rw[cH λe=>by rw[e,hp] at h;cases h];exact h)
   ·exact .inr ⟨o,by rw[cH λe=>by rw[e,hp] at h;cases h];exact h⟩
  ·exact .inr h,λa o n h=>⟨λz=>n (z.imp .inl id),by rw[cH λe=>n (.inl (.inr e))];exact h⟩⟩
 refine⟨⟨R.len,λi t h=>?_,λa h=>?_,R.nd,λst h=>?_,R.pk⟩,kp⟩
 ·obtain⟨v,e,q⟩:=R.sl i t h;refine⟨v,e,?_⟩
  cases t with
  |val x=>exact q.imp kp
  |own a c=>exact⟨q.1,λz=>q.2.1 (.inl z),q.2.2.imp kp λo h2=>by rw[cH λe=>q.2.1 (.inr e)];exact h2⟩
  |peek a c=>
   have na:a≠p:=λe=>hk i c (by rw[<- e];exact h);exact⟨q.1,q.2.1.resolve_right na,q.2.2.imp kp λo h2=>by rw[cH na];exact h2⟩
 ·rw[cH λe=>hB (by rw[<- e];exact h)];exact R.df a (.inl h)
 ·obtain⟨h1,h2,h3⟩:=R.st st h;refine⟨h1.resolve_right (hd st h),?_,h3.iS λo u z=>by rw[cH λe=>by rw[e,hp] at z;cases z];exact z⟩;obtain⟨t,l,w,e,r⟩:=h2.ex
  exact⟨⟨t,l,w,by rw[cH (hd st h)];exact e,r⟩,λT o z=>⟨by
   rw[cH λy=>by
    have q:=(h2.tb T o z).1;rw[y,hp] at q
    cases q]
   exact(h2.tb T o z).1,(h2.tb T o z).2⟩⟩
end
section
variable {X:Cx}{K:Frag}{pos bB:Pos}{e:Expr}{ue:UE}
theorem UJ (i:Nat){x:Str}(he:PE X e (aB K ue))(hN:X.N[i]?=some x:=by rfl)(hv:dj X.env.scope x:=by walk_at "v")(hd:(x==("__debug__":Str))=false:=by decide)(bK:(x==("__classdict__":Str))=false:=by decide) :
  PE X (.Dict [some (.Name x bB)] [e] pos) (c4 K (GP i ue)):=by
 refine(BJ (j0 (dZ hN hv hd bK) he BH) rfl rfl (by simp) (Nat.succ_le_succ (Nat.zero_le _))).mono λσ H Q ⟨A,P,R,h,c⟩=>λp hp=>?_;obtain⟨z,hz,h⟩:=h;obtain⟨v,ev,rv⟩:=R.sl i _ hz;have hv:v=.str z:=by cases rv;rfl
 subst hv;refine⟨_,ev,_,_,R.UD hp _,h _,λr A2 v H2 q R2 S2 UK=>?_⟩;obtain⟨B2,UL,S0⟩:=A2;obtain⟨UM,q⟩:=q;have eB:B2=λb=>A.B b\/b=p:=S2.b;have UN:UL=A.ae:=UM;subst eB UN;have nB:¬ A.B p:=λz=>R.df p z hp
 have GQ:∀ st,A.S=some st->st.d≠p:=λst h e=>by
  obtain⟨kvs,q⟩:=(R.st st h).2.1.dk;rw[e,hp] at q;cases q
 have UP:¬ Own A.ae p:=λz=>R.new hp (.inr z);have qT:H2 p=some (.dK []):=S2.fr p _ bE λm=>m.elim UP fun⟨st,z1,z2⟩=>GQ st z1 z2
 obtain⟨R3,kp⟩:=R2.UH nB qT (λst h e=>by
  obtain⟨st',e1,e2⟩:=lB S2.sd ⟨st,h,rfl⟩
  exact GQ st' e1 (e2.trans e)) λi c h=>by
   obtain⟨_,_,q⟩:=R.sl i _ h;exact q.2.2.some hp
 have S3:ay A H ⟨A.B,A.ae,S0⟩ (erase H2 p):=by
  refine⟨λa o h m=>?_,λa h=>.inl h,rfl,λa h=>?_,S2.sd⟩
  ·have na:a≠p:=dG h hp;rw[cH na];exact S2.fr a o (by rw[a8 na];exact h) m
  ·have na:a≠p:=λe=>h (by rw[e];exact hp);rw[cH na];exact S2.dm a (by rw[a8 na];exact h)
 refine⟨qT,[(.inr z,v)],rfl,Nat.succ_le_succ (Nat.zero_le _),?_⟩;refine c _ _ _ (erase H2 p) _ q R3 S3 ⟨p,.ah _,rfl,rfl,mS _ _,λb o h=>?_,[(.inr z,v)],bE,.cons (.str z) (UK.imp kp) .nil⟩;have nb:b≠p:=λe=>by rw[e,mS] at h;cases h
 rw[a8 nb];rw[cH nb] at h;exact h
end
noncomputable def pM (K:Frag)(a:Addr)(n:Nat):It:=
 ⟨λi H=>∃ xs x,aN K H a xs/\i<n/\xs[n-1-i]?=some x,λi H x H'=>H'=H/\∀ xs,aN K H a xs->xs[n-1-i]?=some x,λi H=>n<=i⟩
theorem UQ {P:Program}{w:World}{K:Frag}{tg:Expr}(a it:Addr)(n:Nat):Turn P w K tg (pM K a n) [it] it (λi h=>i<=n/\h.IsRevIter it a ((n:Int)-1-i)) where
 mem:=by simp
 obj:=λi h st b hb=>by
  have e:b=it:=by simpa using hb
  subst e;obtain⟨_,o,e,c,d⟩:=st;exact⟨o,e,λv z=>by rw[d] at z;cases z⟩
 keep:=λi h h' st k=>⟨st.1,st.2.at λo e=>k it (by simp) o e⟩
 item:=by
  intro X hP hw hK hc i pins s σ H E I hf st hg;subst hP hw hK;obtain⟨xs,x,hq,hi,hx⟩:=hg;obtain⟨its,rv,p,hz⟩:=I.list hq;obtain⟨u,hu,ru⟩:=rv.get hx;obtain⟨f0,f1,f2,f3,f4,f5⟩:=hf it (by simp)
  have cX:s.heap.IsRevIter it a ((n-1-i:Nat):Int):=by
   rw[show((n-1-i:Nat):Int)=(n:Int)-1-i by omega];exact st.2
  refine wpAny_pyNext_rev_item cX p.isList (x:=u) (by simpa using hu) λh' st' sb=>?_;have I1:Inv X pins σ H { s with heap:=h' }:=I.turned (t':=s.toks) (λb o hb e=>(sb.2 b hb).trans e) f0 f1 f3 f4 f5;obtain⟨o,e,c,d⟩:=id st';refine⟨u,rfl,mz (s:={ s with heap:=h' }) e c d (by decide) ⟨x,H,I1,ru,⟨rfl,λys hy=>by rw[I.Bc hy hq];exact hx⟩,⟨hi,?_⟩,λb hb=>(hf b hb).1⟩⟩;rw[show(n:Int)-1-((i+1:Nat):Int)=((n-1-i:Nat):Int)-1 by omega];exact st'
 done:=by
  intro X hP hw hK hc i pins s σ H E I hf st hg;subst hP hw hK;obtain⟨f0,f1,f2,f3,f4,f5⟩:=hf it (by simp);have hi:i=n:=Nat.le_antisymm st.1 hg
  have cX:s.heap.IsRevIter it a (-1):=by
   rw[show(-1:Int)=(n:Int)-1-i by omega];exact st.2
  exact wpAny_pyNext_rev_end (I.ok.hd hc) cX λh' eb=>⟨rfl,I.turned (t':=s.toks) (λb o hb e=>eb b o hb e) f0 f1 f3 f4 f5⟩
 self:=λ_ _ _ _ _ st h=>wpAny_pyIter_revIter st.2 h
noncomputable def UR (K:Frag)(ta:TA):TI:=λσ H R=>ta σ H λvs H1=>∃ l xs,vs=[.ref l]/\aN K H1 l xs/\R (pM K l xs.length) H1
theorem UU {X:Cx}{tg a:Expr}{ta:TA}{p pos:Pos}(hg:Gl X "reversed")(hm:X.mg "reversed"=none)(ha:PA X [a] ta)
  (hs:starEach [a] X.env=[(false,eval a X.env)]:=by rfl):PI X tg (.Call (.Name "reversed" p) [a] [] pos) (UR X.K ta):=by
 intro pins s σ H R I h;refine Call_ (my I hg hm PyProof.Rows.boot_reversed (PyProof.Rows.callWith_type1 (aD (ha pos pins s σ H _ I h) λus s1 ⟨vs,H1,I1,r1,q1⟩=>?_) (by rw[hs];rfl) (by rfl)));obtain⟨l,xs,e,h1,q⟩:=q1;subst e;obtain⟨u,rfl,ru⟩:=vals1 r1;cases ru;obtain⟨its,rv,p1,_⟩:=I1.list h1;have hl:=rv.length;refine PySem.call_reversed_list p1.isList ?_;have g1:(s1.heap.push (revObj l ((its.toArray.size:Int)-1))).IsRevIter s1.heap.objs.size l ((its.toArray.size:Int)-1):=⟨_,b7 _ rfl,rfl,rfl⟩;refine wpAny_pyIter_revIter g1 ?_;refine⟨s1.heap.objs.size,[s1.heap.objs.size],_,_,H1,rfl,I1.kept (t':=s1.toks) λb o e=>a9 _ e,UQ l _ xs.length,⟨Nat.zero_le _,?_⟩,λb hb=>?_,q⟩
 ·rw[show(xs.length:Int)-1-((0:Nat):Int)=(its.toArray.size:Int)-1 by simp;omega];exact g1
 ·have e:b=s1.heap.objs.size:=by simpa using hb
  subst e;exact I1.jR (ar _) (I1.aA.fresh (ar _))
noncomputable def GR (P:ai->(cv)->AS->Prop)(x:PV)(A1:AS):Prop:=∃ xs,x=.lst xs/\P xs.reverse (λ_=>True) A1
noncomputable def GS (ue:UE):UI:=λA P=>ue A λx A1=>GR P x A1
theorem UW {ue:UE}{B:Addr->Prop}{ae:cM}{S:Option ag}{P:ai->(cv)->AS->Prop}:GS ue ⟨B,ae,S⟩ P=ue ⟨B,ae,S⟩ λx A1=>GR P x A1:=rfl
theorem UX {α:Type}{xs:List α}{i:Nat}{x:α}(h:xs.reverse[i]?=some x):i<xs.length/\xs[xs.length-1-i]?=some x:=by
 have hi:i<xs.length:=by
  have:=c7 h;obtain⟨z,_⟩:=this;simpa using z
 exact⟨hi,by rw[<- getElem?_reverse hi];exact h⟩
section
variable {X:Cx}{K:Frag}{e tg:Expr}{pos p:Pos}{ue:UE}
theorem UY {A:AS}{H:Hp}{σ:St}{a:Addr}{xs:ai}(R:Rep K H σ A)(h:RV K (AN A) H (.lst xs) (.ref a)):iW K A H (pM K a xs.length) xs.reverse λ_=>True:=by
 have go:∀{N:Addr->Prop}{H2:Hp}{vs:Zv},H2 a=some (.lst vs)->aI K N H2 xs vs->∀ i x,xs.reverse[i]?=some x->(pM K a xs.length).go i H2/\∀ v H',(pM K a xs.length).fK i H2 v H'->aS H2 H'/\RV K N H' x v:=λ{N H2 vs} h1 h2 i x hx=>by
  obtain⟨hi,hy⟩:=UX hx;obtain⟨v,hv,rv⟩:=h2.at hy;refine⟨⟨_,v,aN.of h1,hi,hv⟩,λv' H' y=>?_⟩;obtain⟨rfl,y⟩:=y;have:=y _ (aN.of h1);rw[hv] at this;cases this;exact⟨aS.refl _,rv⟩
 exact {
  go:=λbH A2 H2 R2 S2 _ i x hx=>by cases h.imp (R.keep S2) with|lst n h1 h2=>exact go h1 h2 i x hx
  stop:=λbH A2 H2 R2 S2 _=>by show _<=_;rw[length_reverse];exact ar _
  cm:=λH2 b=>by
   cases h.imp (R.lF b) with
   | lst n h1 h2=>exact⟨λi x hx=>go h1 h2 i x hx,by show _<=_;rw[length_reverse];exact ar _⟩ }
theorem UZ (hK:X.K=K)(hm:X.mg "reversed"=none)(h:PE X e (aB K ue))(hg:Gl X "reversed":=by rfl)(hs:starEach [e] X.env=[(false,eval e X.env)]:=by rfl):PI X tg (.Call (.Name "reversed" p) [e] [] pos) (jw K (GS ue)):=by
 subst hK;refine(UU hg hm (b8 h cO hs) hs).mono λσ H Q ⟨A,P,R,h,c⟩=>⟨A,_,R,h,λx A1 v H1 q R1 S1 rv=>?_⟩;obtain⟨xs,rfl,q⟩:=q
 cases rv with
 |lst n h1 h2=>exact⟨_,_,rfl,aN.of h1,c _ _ A1 _ H1 q R1 S1 (by have:=UY R1 (.lst n h1 h2);rw[h2.len] at this;exact this)⟩
end
section
variable {X:Cx}{K:Frag}{e ke:Expr}{pos p:Pos}{ue uk:UE}
noncomputable def GU (i:Nat)(nx:cv)(a:Addr)(v k:PV)(A:AS):Prop:=∃ xs j,A.ae[i]?=some (some (.own a (.lst xs)))/\k=.int (j:Nat)/\j<xs.length/\nx (put A i (.own a (.lst (xs.set j v))))
noncomputable def GV (i:Nat)(ue uk:UE):US:=λE A=>ue A λv A1=>fS A1.ae[i]? (λa _ A=>uk A λk A2=>GU i E.nx a v k A2) A1
theorem U0 {i:Nat}{E:gH}{B:Addr->Prop}{ae:cM}{S:Option ag}:GV i ue uk E ⟨B,ae,S⟩=ue ⟨B,ae,S⟩ λv A1=>fS A1.ae[i]? (λa _ A=>uk A λk A2=>GU i E.nx a v k A2) A1:=rfl
theorem GW (i:Nat){x:Str}{bB cZ:Pos}(he:PE X e (aB K ue))(hk:PE X ke (aB K uk))(hN:X.N[i]?=some x:=by rfl)(hv:dj X.env.scope x:=by walk_at "v")(hd:(x==("__debug__":Str))=false:=by decide)(bK:(x==("__classdict__":Str))=false:=by decide)
  (ha:∀ v,assign (.Subscript (.Name x bB) ke pos) X.env v=(do
   let ov <- holding [v] (eval (.Name x bB) X.env)
   let iv <- holding [v,ov] (eval ke X.env)
   standAt pos
   holding [v,ov,iv] (setItem ov iv v)
   release [v,ov,iv] []):=by intro _;rfl)
  (hs:swapsWithSole [.Subscript (.Name x bB) ke pos] e cZ.line X.env=pure false:=by rfl)(hw:swappedStores [.Subscript (.Name x bB) ke pos] e X.env=pure none:=by rfl)
  (h1:(assignEach [.Subscript (.Name x bB) ke pos] X.env).map (·.2)=[assign (.Subscript (.Name x bB) ke pos) X.env]:=by rfl):PS X (.Assign [.Subscript (.Name x bB) ke pos] e cZ) (b9 K (GV i ue uk)):=by
 refine(Bh he (K3 (dZ (i:=i) hN hv hd bK) hk set_list ha) hs hw h1).mono λD σ H ⟨A,E,R,h,c⟩=>⟨A,_,R,h,λv A1 w H1 q R1 S1 rv=>?_⟩;unfold fS at q
 split at q
 ·rename_i a ys hx;obtain⟨_,ev,rfl,nb,vs,g1,g2⟩:=R1.sl i _ hx;refine⟨_,ev,A1,_,R1,q,λk A2 kw H2 q2 R2 S2 rk=>?_⟩;obtain⟨xs,j,hA,rfl,hj,q2⟩:=q2;cases rk;obtain⟨_,_,_,_,us,k1,k2⟩:=R2.sl i _ hA;obtain⟨R3,S3⟩:=R2.turn hA (k2.set j (rv.imp (R1.keep S2)));have ll:=k2.len;refine⟨a,us,j,j,rfl,rfl,k1,?_,c.nx _ σ _ q2 R3 (S1.trans (S2.trans S3))⟩;unfold iO;rw[if_pos (by omega),if_pos (by omega)];simp
 ·exact q.elim
end
theorem GX (is:List Int):∀ n,n<=is.length->preSum (λi=>is.getD i 0) n=(is.take n).sum
 |0,_=>by simp [preSum]
 |n+1,h=>by
  have ih:=GX is n (by omega);have e:is.take (n+1)=is.take n++[is[n]]:=by rw[take_add_one,cg (by omega)];rfl
  rw[e,sum_append,<- ih];simp [preSum,cg (show n<is.length by omega)]
theorem U1 {X:Cx}(hc:X.calm=true):cy X (.builtin "sum") (λxs H Q=>∃(p:Addr)(is:List Int),xs=[.ref p]/\aN X.K H p (is.map V.int)/\Q (.int is.sum) H):=by
 intro pins s σ H xs us Q I r h;obtain⟨p,is,rfl,hl,q⟩:=h;obtain⟨u,rfl,ru⟩:=vals1 r;cases ru;obtain⟨its,rv,pl,hz⟩:=I.list hl
 have bL:p≠s.heap.objs.size:=by
  obtain⟨o,ho,_⟩:=pl.isList;exact bJ (a7 ho)
 have hlen:its.length=is.length:=by
  have:=rv.length;rw[length_map] at this;omega
 refine call_sum_walkG (wpAny_pyIter_list pl.isList ?_);refine⟨s.heap.objs.size,_,_,_,_,_,λi=>is.getD i 0,rfl,Walks.list (A:=X.A.in1) (I.ok.hd hc) s.heap.objs.size p bL its.toArray,⟨⟨_,b7 _ rfl,rfl,rfl⟩,pl.isList.push _⟩,λb hb=>?_,λi v hv=>?_,λh' tk t' hk=>?_⟩
 ·simp only[mem_cons,not_mem_nil,or_false] at hb;obtain⟨o,ho,_⟩:=pl.isList;have:=a7 ho;rw[Heap.size_push];rcases hb with rfl|rfl
  ·exact Nat.lt_succ_self _
  ·exact Nat.lt_succ_of_lt this
 ·have GY:its[i]?=some v:=by simpa using hv
  have hi:i<its.length:=(c7 GY).1;have GZ:i<is.length:=by omega
  obtain⟨u,hu,t,ru⟩:=rv.get (i:=i) (x:=V.int is[i]) (by rw[getElem?_map,cg GZ];rfl);rw[GY] at hu;cases hu;exact⟨t,by rw[ru];simp [cg GZ]⟩
 ·refine⟨.int is.sum,H,I.kept λb o e=>hk b o ?_ (a9 _ e),⟨t',?_⟩,q⟩
  ·intro hb;have:b=s.heap.objs.size:=by simpa using hb
   exact absurd (a7 e) (by rw[this];exact Nat.lt_irrefl _)
  ·have z:its.toArray.size=is.length:=by simp [hlen]
   rw[z,GX is is.length (ar _),take_length]
noncomputable def ins:ai->Option (List Int)
 |[]=>some []
 |.int b::xs=>(ins xs).map (b::·)
 |_=>none
noncomputable def G0:G1
 |.lst xs,z=>∃ is,ins xs=some is/\z=.int is.sum
 |_,_=>False
section
variable {X:Cx}{K:Frag}{e:Expr}{pos p:Pos}{ue:UE}
theorem G3 {N:Addr->Prop}{H:Hp}:∀{xs:ai}{vs:Zv}{bs:List Int},aI K N H xs vs->ins xs=some bs->vs=bs.map V.int
 |_,_,_,.nil,h=>by cases h;rfl
 |x::xs,_,bs,.cons r rs,h=>by
  cases x<;>first|(cases h;done)|skip
  rename_i b;obtain⟨cs,hc,rfl⟩:=Option.map_eq_some_iff.mp (show(ins xs).map (b::·)=some bs from h);cases r;rw[G3 rs hc];rfl
theorem U2:lM K (λxs H Q=>∃(p:Addr)(bs:List Int),xs=[.ref p]/\aN K H p (bs.map V.int)/\Q (.int bs.sum) H) G0:=by
 intro H A σ x v z Q R q1 g c;cases x<;>first|exact g.elim|skip
 obtain⟨bs,hb,rfl⟩:=g;obtain⟨a,vs,rfl,h1,h2⟩:=q1.lst R;exact⟨a,bs,rfl,by rw[<- G3 h2 hb];exact aN.of h1,c _ H (aS.refl H) (.int _)⟩
theorem U3 (hK:X.K=K)(hc:X.calm=true)(hm:X.mg "sum"=none)(he:PE X e (az K ue))(hg:Gl X "sum":=by rfl)(hs:starEach [e] X.env=[(false,eval e X.env)]:=by rfl):PE X (.Call (.Name "sum" p) [e] [] pos) (aB K (u1 G0 ue)):=by
 subst hK;exact sQ (U1 hc) U2 PyProof.Rows.boot_sum hm he hg (hs:=hs)
end
theorem U4 {kvs:bj}{vs:List (Key×Value)}(h:KV kvs vs){i:Nat}{kv:Key×V}(e:kvs[i]?=some kv):∃ u,vs[i]?=some (kv.1,u)/\RelV kv.2 u:=by
 unfold KV at h
 induction h generalizing i with
 |nil=>simp at e
 |@cons p q xs ys h1 h2 ih=>
  cases i with
  |zero=>
   simp only[getElem?_cons_zero,Option.some.injEq] at e;subst e;exact⟨q.2,by rw[getElem?_cons_zero,h1.1],h1.2⟩
  |succ i=>exact ih (by simpa using e)
section
variable {X:Cx}{o tg:Expr}{to:TE}{apos bh:Pos}
end
section
variable {X:Cx}{pins:aO}{σ aH:St}{H:Hp}{s:Shared}
theorem Inv.agree (I:Inv X pins σ H s)(hl:X.N.length<=aH.length)(h:∀ i,i<X.N.length->aH[i]?=σ[i]?):Inv X pins aH H s:=
 ⟨I.ok,I.os,I.bare,I.base,let ⟨m,hn,U5⟩:=I.loc;⟨m,hn,λi x v e1 e2 e3=>U5 i x v e1 (by rw[<- h i (c7 e1).1];exact e2) e3⟩,I.cell,I.free,I.gn,I.pin,I.aA,hl⟩
end
section
variable {K:Frag}{H:Hp}{σ:St}{A:AS}
theorem pN {ae:cM}{n i:Nat}{s:Sl}(h:(ae++replicate n none)[i]?=some (some s)):ae[i]?=some (some s):=by
 by_cases hi:i<ae.length
 ·rwa [getElem?_append_left hi] at h
 ·rw[getElem?_append_right (Nat.le_of_not_lt hi),getElem?_replicate] at h
  split at h<;>cases h
noncomputable def ny (n:Nat)(A:AS):AS:=⟨A.B,A.ae++replicate n none,A.S⟩
theorem Rep.pad (R:Rep K H σ A)(n:Nat):Rep K H (σ++replicate n none) (ny n A)/\ay A H (ny n A) H:=by
 have ow:∀ b,Own (ny n A).ae b->Own A.ae b:=λb ⟨i,c,h⟩=>⟨i,c,pN h⟩;have S:ay A H (ny n A) H:=⟨λ_ _ h _=>h,λb z=>.inl (ow b z),rfl,λ_ h=>h,rfl⟩;have kp:=R.keep S;refine⟨⟨?_,λi t h=>?_,R.df,λi j a c c' h1 h2=>R.nd i j a c c' (pN h1) (pN h2),R.st,λi a c st h1 h2=>R.pk i a c st (pN h1) h2⟩,S⟩
 ·show(σ++_).length=(A.ae++_).length;rw[length_append,length_append,R.len];simp
 ·obtain⟨v,e,q⟩:=R.sl i t (pN h);refine⟨v,by rw[getElem?_append_left (c7 e).1];exact e,?_⟩
  cases t with
  |val x=>exact q.imp kp
  |own a c=>exact⟨q.1,q.2.1,q.2.2.imp kp λ_ h=>h⟩
  |peek a c=>exact⟨q.1,q.2.1,q.2.2.imp kp λ_ h=>h⟩
end
noncomputable def G4 (n:Nat)(u:US):US:=λE A=>u E (ny n A)
theorem U6 {n:Nat}{u:US}{E:gH}{B:Addr->Prop}{ae:cM}{S:Option ag}:G4 n u E ⟨B,ae,S⟩=u E ⟨B,ae++replicate n none,S⟩:=rfl
section
variable {X:Cx}{K:Frag}{u:US}{st:Stmt}{ss:List Stmt}
theorem U7 (n:Nat)(h:cx X ss (b9 K u)):cx X ss (b9 K (G4 n u)):=λpins s σ H D I w=>by
 obtain⟨A,E,R,h',k⟩:=w;obtain⟨R',S⟩:=R.pad n;refine h pins s (σ++replicate n none) H D (I.agree (aP I.len (by simp)) λi hi=>getElem?_append_left (dF hi I.len)) ⟨ny n A,E,R',h',k.step S⟩
theorem PS.postG {t t':TS}(h:PS X st t)(f:∀ D σ H,t' D σ H->t ⟨λbw H1=>∃ bH,(bH.length=bw.length/\∀ i,i<X.N.length->bH[i]?=bw[i]?)/\D.nx bH H1,D.rt,D.bk,D.ct⟩ σ H):PS X st t':=λpins s σ H D I w=>
 aD (h pins s σ H _ I (f _ _ _ w)) λfl s1 q=>by
  cases fl with
  |next=>
   obtain⟨aH,H',I',bH,⟨a,b⟩,q⟩:=q;exact⟨bH,H',I'.agree (by rw[a];exact I'.len) b,q⟩
  |_=>exact q
end
noncomputable def G5 (n i kj:Nat)(ue:UE):US:=λE A=>ue A λr A1=>∃(xs:ai)(a:Addr)(kvs:aT)(z:Str)(j:Nat),r=.lst xs/\A1.ae[i]?=some (some (.own a (.ah kvs)))/\A1.ae[kj]?=some (some (.val (.str z)))/\n<=j/\A1.ae[j]?=some none/\kvs.length<=1000000 /\
 ∀ p,E.nx (put (put A1 j (.own p (.lst xs))) i (.own a (.ah (dQ kvs (.inr z) (.raw (.ref p))))))
section
variable {X:Cx}{K:Frag}{e:Expr}{ue:UE}{bB f6 pos cZ:Pos}{k:Nat}
theorem U8 (hr:bP k X.A)(n i kj:Nat){x y:Str}(he:PE X e (c4 K ue))(hn:X.N.length=n:=by rfl)(hN:X.N[i]?=some x:=by rfl)(hv:dj X.env.scope x:=by walk_at "v")(hd:(x==("__debug__":Str))=false:=by decide)(bK:(x==("__classdict__":Str))=false:=by decide)
  (yX:X.N[kj]?=some y:=by rfl)(yY:dj X.env.scope y:=by walk_at "v")(hd2:(y==("__debug__":Str))=false:=by decide)(yZ:(y==("__classdict__":Str))=false:=by decide)
  (hs:swapsWith e (some (.Subscript (.Name x bB) (.Name y f6) pos)) cZ.line X.env=pure false:=by rfl):PS X (.Assign [.Subscript (.Name x bB) (.Name y f6) pos] e cZ) (b9 K (G5 n i kj ue)):=by
 refine PS.postG (jZ (gB hr) (dZ hN hv hd bK) (dZ yX yY hd2 yZ) he hs) λD σ H ⟨A,E,R,h,c⟩=>?_;refine⟨A,_,R,h,λr A1 v H0 H1 q R1 S1 f=>?_⟩;obtain⟨xs,a,kvs,z,j,rfl,hi,hk,hj,U9,aF,q⟩:=q;have ij:i≠j:=λe=>by rw[e,U9] at hi;cases hi
 obtain⟨p,rfl,R2,S2⟩:=R1.fresh (i:=j) (c:=.lst xs) f;obtain⟨vi,ei,rfl,nb,ZZ,_,_⟩:=R1.sl i _ hi;obtain⟨vk,ek,rk⟩:=R1.sl kj _ hk;have pO:vk=.str z:=by cases rk;rfl
 subst pO
 have hA:(put A1 j (.own p (.lst xs))).ae[i]?=some (some (.own a (.ah kvs))):=by
  show(A1.ae.set j _)[i]?=_;rw[getElem?_set_ne (Ne.symm ij)];exact hi
 obtain⟨_,_,_,_,us,g1,g2⟩:=R2.sl i _ hA;have ll:=g2.len;rw[length_map] at ll;obtain⟨R3,S3⟩:=R2.yC hA (s_ g2 (.inr z) (.raw p));refine⟨_,ei,_,ek,a,_,rfl,iN.k (k:=.inr z) g1 (Nat.lt_of_le_of_lt (by omega:us.length<=1000000) (by decide)),σ.set j (some (.ref p)),⟨length_set ..,λl hl=>getElem?_set_ne (by omega)⟩,c.nx _ _ _ (q p) R3 (S1.trans (S2.trans S3))⟩
end
mutual
noncomputable def toD:PV->PyData
 |.non=>.none
 |.bl b=>.bool b
 |.int i=>.int i
 |.str z=>.str z
 |.tup xs=>.tuple (iA xs)
 |.lst xs=>.list (iA xs)
 |.ah _=>.none
 |.raw _=>.none
noncomputable def iA:ai->List PyData
 |[]=>[]
 |x::xs=>toD x::iA xs
end
mutual
noncomputable def ky:PV->Bool
 |.tup xs=>lV xs
 |.lst xs=>lV xs
 |.ah _=>false
 |.raw _=>false
 |_=>true
noncomputable def lV:ai->Bool
 |[]=>true
 |x::xs=>ky x&&lV xs
end
section
variable {X:Cx}{pins:aO}{σ:St}{H:Hp}{s:Shared}{N:Addr->Prop}
theorem U_ (I:Inv X pins σ H s){x:PV}{v:V}(h:RV X.K N H x v):∀{u:Value},RelV v u->ky x=true->∃ as,Reads s.heap u (toD x) as:=by
 refine RV.rec (motive_1:=λx v _=>∀{u:Value},RelV v u->ky x=true->∃ as,Reads s.heap u (toD x) as)
  (motive_2:=λxs vs _=>∀{us:aC},Vals vs us->lV xs=true->∃ as,ReadsAll s.heap us (iA xs) as) (motive_3:=λ_ _ _=>True)
  ?_ ?_ ?_ ?_ ?_ ?_ ?_ ?_ ?_ ?_ trivial (λ_ _ _ _ _ _=>trivial) h
 ·intro u r _;cases (show u=Value.none from r);exact⟨_,.none⟩
 ·intro b u r _;cases (show u=Value.bool b from r);exact⟨_,.bool b⟩
 ·intro i u r _;obtain⟨t,rfl⟩:=r;exact⟨_,.int i t⟩
 ·intro z u r _;obtain⟨t,rfl⟩:=r;exact⟨_,.str z t⟩
 ·intro a u r p;cases p
 ·intro a xs vs sq rs ih u r p;cases r;obtain⟨its,rv,pl,_⟩:=I.tuple sq;obtain⟨o,e,c,n,d⟩:=(show s.heap.IsTuple a its.toArray from pl);obtain⟨as,q⟩:=ih rv p;exact⟨_,.tuple e c d (by simpa using q)⟩
 ·intro a xs vs n h1 rs ih u r p;cases r;obtain⟨its,rv,pl,_⟩:=I.list (aN.of h1);obtain⟨o,e,c,n,d⟩:=pl.isList;obtain⟨as,q⟩:=ih rv p;exact⟨_,.list e c d (by simpa using q)⟩
 ·intro a kvs av n h1 rs ih u r p;cases p
 ·intro us r _;cases r;exact⟨_,.nil⟩
 ·intro x v xs vs r1 r2 U' xF us r p
  cases r with
  |cons a b=>
   obtain⟨p1,p2⟩:=Bool.and_eq_true_iff.mp (show(ky x&&lV xs)=true from p);obtain⟨as,q1⟩:=U' a p1;obtain⟨bs,q2⟩:=xF b p2;exact⟨_,.cons q1 q2⟩
end
noncomputable def G6 (x z:PV):Prop:=((∃ xs,x=.tup xs)\/∃ xs,x=.lst xs)/\ky x=true/\(toD x).showable=true/\(toD x).hasDict=false/\(toD x).depth<=100/\(toD x).shown.length<=sizeLine/\z=.str (toD x).shown
section
variable {X:Cx}{K:Frag}{e:Expr}{pos p:Pos}{ue:UE}{k:Nat}
theorem Va (hr:bP k X.A):cy X (.builtin "repr") (λxs H Q=>∃(N:Addr->Prop)(q:Addr)(x:PV),xs=[.ref q]/\RV X.K N H x (.ref q)/\ky x=true/\(toD x).showable=true/\(toD x).hasDict=false/\(toD x).depth<=100/\(toD x).shown.length<=sizeLine/\Q (.str (toD x).shown) H):=by
 intro pins s σ H xs us Q I r h;obtain⟨N,a,x,rfl,rv,p1,p2,p3,p4,p5,q⟩:=h;obtain⟨u,rfl,ru⟩:=vals1 r;cases ru;obtain⟨as,rd⟩:=U_ I rv (u:=.ref a) rfl p1;refine repr_of_reads' rd p2 (λz=>by rw[p3] at z;cases z) hr.gd (by have:=hr.un;omega) (λ_ _ e=>e) (λh' u tk kp=>⟨.str _,H,I.kept (t':=tk) kp,⟨u,rfl⟩,q⟩) p5
theorem G7 (hK:X.K=K)(hr:bP k X.A)(hm:X.mg "repr"=none)(he:PE X e (az K ue))(hg:Gl X "repr":=by rfl)(hs:starEach [e] X.env=[(false,eval e X.env)]:=by rfl):PE X (.Call (.Name "repr" p) [e] [] pos) (aB K (u1 G6 ue)):=by
 subst hK;refine sQ (Va hr) ?_ PyProof.Rows.boot_repr hm he hg (hs:=hs);intro H A σ x v z Q R q1 g c;obtain⟨t,p1,p2,p3,p4,p5,rfl⟩:=g;rcases t with ⟨xs,rfl⟩|⟨xs,rfl⟩
 ·obtain⟨a,vs,rfl,h1,h2⟩:=q1.tup;exact⟨AN A,a,_,rfl,.tup h1 h2,p1,p2,p3,p4,p5,c _ H (aS.refl H) (.str _)⟩
 ·obtain⟨a,vs,rfl,h1,h2⟩:=q1.lst R;exact⟨λ_=>False,a,_,rfl,.lst (λz=>z) h1 (h2.imp ⟨λ_ _ h=>h,λb o n e=>⟨λz=>z,e⟩⟩),p1,p2,p3,p4,p5,c _ H (aS.refl H) (.str _)⟩
end
noncomputable def G8 (x z:PV):Prop:=∃ kvs,x=.ah kvs/\z=.int kvs.length
theorem Vb {kvs:aT}{z:PV}:G8 (.ah kvs) z=(z=.int kvs.length):=propext ⟨fun⟨_,e,h⟩=>by cases e;exact h,λh=>⟨_,rfl,h⟩⟩
section
variable {X:Cx}{K:Frag}{e:Expr}{pos p:Pos}{ue:UE}{k:Nat}
theorem Vc:cy X (.builtin "len") (λxs H Q=>∃(q:Addr)(av:bj),xs=[.ref q]/\Rd H q (.dK av)/\Q (.int av.length) H):=by
 intro pins s σ H xs us Q I r h;obtain⟨a,av,rfl,h1,q⟩:=h;obtain⟨u,rfl,ru⟩:=vals1 r;cases ru;obtain⟨hz,ne,vs,rel,d⟩:=mD I.aA h1;have hl:vs.length=av.length:=rel.length.symm;have hs:sizeLine=16777216:=sizeLine_eq;exact call_len_dict ne d (by omega) ⟨.int _,H,I.tok _,⟨_,by rw[hl]⟩,q⟩
theorem Vd (hK:X.K=K)(hm:X.mg "len"=none)(he:PE X e (az K ue))(hg:Gl X "len":=by rfl)(hs:starEach [e] X.env=[(false,eval e X.env)]:=by rfl):PE X (.Call (.Name "len" p) [e] [] pos) (aB K (u1 G8 ue)):=by
 subst hK;refine sQ Vc ?_ PySem.boot_len hm he hg (hs:=hs);intro H A σ x v z Q R q1 g c;obtain⟨kvs,rfl,rfl⟩:=g;obtain⟨a,av,rfl,h1,h2⟩:=q1.ah R;refine⟨a,av,rfl,h1,?_⟩;have e:av.length=kvs.length:=by have:=h2.len;simpa using this.symm
 rw[e];exact c _ H (aS.refl H) (.int _)
end
theorem G9:entryFor table "proto.contains_iter"=some Builtin.«proto.contains_iter»:=entryFor_of_tree (by kernel_rfl)
theorem y8:plainId "proto.contains_iter"=true:=by decide +kernel
theorem G_:typeLookup (.type "dict_values") "__contains__"=pure none:=am_miss_of_fast (by kernel_rfl)
section
variable {prog:Program}{w:World}{A:Around}{R:Result->Shared->Prop}
theorem Ve {vs:List (Key×Value)}{zs:aq}{a it:Addr}{ep:Nat}{z:Str}{t:Tok}(hA:A.handled=none)(hv:∀(i:Nat)(kv:Key×Value),vs[i]?=some kv->∃(u:Tok)(y:Str),kv.2=.str y u/\zs[i]?=some y)(hz:zs.length=vs.length)(bL:a≠it) :
  ∀(c i:Nat)(s:Shared),vs.length-i=c->i<=vs.length->s.heap.IsValIter it a i vs.length ep->s.heap.DictAt (bN prog w) a vs ep ->
   (∀ h',(∀ b o,b≠it->s.heap.get? b=some o->h'.get? b=some o)->R (.ok (.ret (.bool ((zs.drop i).contains z)))) { s with heap:=h' })->codeAny (model prog w) A (.builtin "proto.contains_iter" ⟨[.ref it,.str z t],[]⟩) R s:=by
 intro c
 induction c with
 |zero=>
  intro i s hk hi st da fin;have e:i=vs.length:=by omega
  subst e;refine codeAny_builtin G9 ?_;rw[Around.under_plainId y8 _];show wpAny _ A.in1 (pyNext (.ref it) >>= _) _ _ s;refine af (wpAny_pyNext_values_end hA st da (getElem?_eq_none (ar _)) λh' eb=>?_);refine af (wpAny_rule ?_);refine ao ?_;have:=fin h' eb;rw[<- hz,drop_length] at this;exact this
 |succ c ih=>
  intro i s hk hi st da fin;have lt:i<vs.length:=by omega
  refine codeAny_builtin G9 ?_;rw[Around.under_plainId y8 _];show wpAny _ A.in1 (pyNext (.ref it) >>= _) _ _ s;obtain⟨u,y,hy,Vf⟩:=hv i vs[i] (cg lt);have hu:vs[i]?=some (vs[i].1,Value.str y u):=by rw[<- hy];exact cg lt
  refine af (wpAny_pyNext_values_item st da hu λh' st' sb=>?_)
  have dr:zs.drop i=y::zs.drop (i+1):=by
   obtain⟨h1,h2⟩:=c7 Vf;rw[drop_eq_getElem_cons h1,h2]
  dsimp only;refine af (wpAny_eqBool_str ?_);have kp:∀ b o,b≠it->s.heap.get? b=some o->h'.get? b=some o:=λb o hb e=>(sb.2 b hb).trans e;by_cases e:y=z
  ·rw[if_pos (by simpa using e)];refine af (wpAny_rule ?_);refine ao ?_;have:=fin h' kp;rw[dr,contains_cons,e,beq_self_eq_true,Bool.true_or] at this;exact this
  ·rw[if_neg (by simpa using e)];refine ao ⟨plainId_quiet y8 _,ih (i+1) _ (by omega) lt st' ?_ λh2 k2=>?_⟩
   ·obtain⟨o,es,ho,r⟩:=da;exact⟨o,es,kp a o bL ho,r⟩
   ·have:=fin h2 λb o hb e=>k2 b o hb (kp b o hb e);rw[dr,contains_cons,show(z==y)=false by simpa using λq=>e q.symm,Bool.false_or] at this;exact this
end
theorem Vg {prog:Program}{w:World}{A:Around}{E:aG}{s:Shared}{vs:List (Key×Value)}{zs:aq}{a v:Addr}{ep:Nat}{z:Str}{t:Tok}{Q:Bool->Shared->Prop}(hA:A.handled=none)(hv:∀(i:Nat)(kv:Key×Value),vs[i]?=some kv->∃(u:Tok)(y:Str),kv.2=.str y u/\zs[i]?=some y)(hz:zs.length=vs.length)
  (iv:s.heap.IsValuesView v a)(da:s.heap.DictAt (bN prog w) a vs ep)(fin:∀ h',(∀ b o,s.heap.get? b=some o->h'.get? b=some o)->Q (zs.contains z) { s with heap:=h' }):wpAny (model prog w) A (PySem.contains (.ref v) (.str z t)) Q E s:=by
 unfold PySem.contains;refine wpAny_holding ?_;have hT:=iv.typeIs;rw[stdlibNamesSay?_of_typeIs hT];refine af (wpAny_specialOf hT G_ ?_);show wpAny _ A (if ((none:Option Value)==some Value.none)=true then _ else _) Q E s;rw[if_neg (by simp)];refine af ?_;unfold callSpecialUnlessNone?;refine af (wpAny_specialOf hT G_ ?_);refine ao ?_;dsimp only;refine af (wpAny_rule ?_);refine af (wpAny_tryCatch (wpAny_pyIter_values (knd:=bN prog w) (kvs:=vs) (ep:=ep) iv da ?_));obtain⟨o,es,ho,r⟩:=id da;have bL:a≠s.heap.objs.size:=bJ (a7 ho);refine af (wpAny_runValue (Ve (vs:=vs) (zs:=zs) (a:=a) (it:=s.heap.objs.size) (ep:=ep) hA hv hz bL _ 0 _ rfl (Nat.zero_le _) ⟨_,b7 _ rfl,rfl,rfl⟩ ⟨o,es,a9 _ ho,r⟩ λh' k=>?_));dsimp only[drop_zero];refine ao (fin h' λb o e=>k b o (bJ (a7 e)) (a9 _ e))
noncomputable def Ha (ty to:TE):TE:=λσ H Q=>ty σ H λy H1=>to σ H1 λx H2=>∃(a:Addr)(od:Obj)(av:bj)(zs:aq)(z:Str),x=.ref a/\H2 a=some (.bD od (.dK av))/\y=.str z/\av.map (·.2)=zs.map V.str/\Q (.bl (zs.contains z)) H2
section
variable {X:Cx}{i o:Expr}{ty to:TE}{apos bh:Pos}
theorem Vh (hc:X.calm=true)(hi:PE X i ty)(ho:PE X o to)(d5:attributeBase o "values" X.env (eval o X.env)=eval o X.env:=by rfl)(d6:(apos.endLine==bh.line)=true:=by rfl):PC X .In i (.Call (.Attribute o "values" apos) [] [] bh) (Ha ty to):=by
 intro pins s σ H Q I h;refine aD (hi pins s σ H _ I h) λiv s1 ⟨y,H1,I1,ry,q1⟩=>?_;refine wpAny_Call_method0_late d5 d6 (aD (ho pins s1 σ H1 _ I1 q1) λu s2 ⟨x,H2,I2,rx,a,od,av,zs,z,ex,hq,ey,ez,q2⟩=>?_);subst ex ey;cases rx;obtain⟨t,rfl⟩:=ry;obtain⟨⟨e,_⟩,_,n,vs,r,ob,es,ep,e',c,d,p1,p2,p3⟩:=id (I2.aA a _ hq);rw[e] at e';cases e';have ty:s2.TypeIs (.ref a) "dict":=⟨od,e,c.1⟩;refine⟨"dict","dict.values",PySem.F.plainAttrs_dict,PySem.F.slot_dict_values,PySem.F.type_dict_values,ty,λb eb=>by cases eb;exact⟨od,e,c.2.1⟩,Calls.callWith_builtin rfl (PySem.evalArgs_none ?_)⟩;refine call_meetsIn PySem.F.slot_dict_values ty PySem.F.entry_dict_values (PySem.F.args_dict_values_1 _) (meets_dict_values (bN X.prog X.w) a n) ⟨⟨vs,od,es,ep,e,c,d,p1,p2,p3⟩,?_⟩;have Vi:Heap.IsValuesView (s2.heap.push { cls:=.type "dict_values",data:=.fields #[.ref a] }) s2.heap.objs.size a:=⟨_,b7 _ rfl,rfl,rfl⟩;have I3:Inv X pins σ H2 { s2 with heap:=s2.heap.push { cls:=.type "dict_values",data:=.fields #[.ref a] } }:=I2.kept (t':=s2.toks) λb o e=>a9 _ e;show wpAny _ _ (PySem.contains _ _ >>= _) _ _ _;refine af (Vg (zs:=zs) (vs:=vs) (I2.ok.hd hc) (λj kv hj=>?_) ?_ Vi ⟨od,es,a9 _ e,c,d,p1,p2,p3⟩ λh' kp=>ao ⟨.bl _,H2,I3.kept (t':=s2.toks) kp,rfl,q2⟩)
 ·have hl:=r.length;have gM:j<av.length:=by rw[hl];exact(c7 hj).1
  obtain⟨u,hu,ru⟩:=U4 r (cg gM);rw[hu] at hj;cases hj;have e3:(av.map (·.2))[j]?=(zs.map V.str)[j]?:=by rw[ez]
  rw[getElem?_map,getElem?_map,cg gM] at e3
  cases Hb:zs[j]? with
  |none=>rw[Hb] at e3;cases e3
  |some y=>
   rw[Hb] at e3;have e4:av[j].2=V.str y:=by simpa using e3
   rw[e4] at ru;obtain⟨tt,rfl⟩:=ru;exact⟨tt,y,rfl,rfl⟩
 ·have:=congrArg List.length ez;rw[length_map,length_map] at this;rw[<- this,r.length]
end
noncomputable def y9:G2
 |.str z,.ah kvs,r=>∃ zs:aq,kvs.map Prod.snd=zs.map PV.str/\r=.bl (zs.contains z)
 |_,_,_=>False
theorem Vj {z:Str}{kvs:aT}{r:PV}:y9 (.str z) (.ah kvs) r=∃ zs:aq,kvs.map Prod.snd=zs.map PV.str/\r=.bl (zs.contains z):=rfl
theorem Hc {K:Frag}{N:Addr->Prop}{H:Hp}:∀{xs:aT}{ws:List (V×V)}{zs:aq},bR K N H xs ws->xs.map Prod.snd=zs.map PV.str->ws.map Prod.snd=zs.map V.str
 |[],_,[],.nil,_=>rfl
 |[],_,_::_,.nil,e=>by cases e
 |_::_,_,[],.cons _ _ _,e=>by cases e
 |(k,x)::xs,_,z::zs,.cons a b c,e=>by
  simp only[map_cons,cons.injEq] at e;obtain⟨rfl,e2⟩:=e;have:=Hc c e2;cases b;simp only[map_cons,this]
section
variable {X:Cx}{K:Frag}{ke de:Expr}{uk ud:UE}{pos apos bh:Pos}{k:Nat}
theorem Vk {σ:St}{H:Hp}{Q:VK}(h:aB K (u2 y9 uk ud) σ H Q):Ha (az K uk) (aB K ud) σ H Q:=by
 obtain⟨A,P,R,h,c⟩:=h
 exact⟨A,_,R,h,λy A1 w H1 p1 R1 S1 q1=>⟨A1,_,R1,p1,λx A2 v H2 p2 R2 S2 rv=>by
  obtain⟨e,r,g,p⟩:=p2;cases y<;>first|exact g.elim|skip
  cases x<;>first|exact g.elim|skip
  obtain⟨zs,e1,rfl⟩:=g;have Vl:=q1.step R1 S2 e;cases Vl.str
  cases rv with
  |ah n h1 h2=>
   obtain⟨av,od,h1,rfl⟩:=h1;have:=Hc h2 e1;rw[map_map] at this
   exact⟨_,od,av,zs,_,rfl,h1,rfl,this,c _ A2 _ H2 p R2 (S1.trans S2) (.bl _)⟩⟩⟩
theorem Vm (hc:X.calm=true)(hk:PE X ke (az K uk))(hd:PE X de (aB K ud))(d5:attributeBase de "values" X.env (eval de X.env)=eval de X.env:=by rfl)(d6:(apos.endLine==bh.line)=true:=by rfl)(hm:behindInMarks .In (.Call (.Attribute de "values" apos) [] [] bh)=false:=by rfl) :
  PT X (.Compare ke [.In] [.Call (.Attribute de "values" apos) [] [] bh] pos) (liftT K (uB (u2 y9 uk ud))):=
 (A' (Vh hc hk hd d5 d6) hm).mono (Gg λσ H Q h=>Vk h)
end
end L2
namespace HE
open PySem PyProof.Rows
open PySem.AutoSeq1 (wpAny_loadPart')
section
variable {prog:Program}{w:World}{A:Around}{E:aG}{s:Shared}
theorem Vn (a b:Value):checkTypeCall "enumerate" { pos:=[a,b] }=pure ():=by first|rfl|(with_unfolding_all rfl)
theorem Vo (a b:Value):checkBuiltinCall "enumerate.__new__" { pos:=[.type "enumerate",a,b] }=pure ():=by first|rfl|(with_unfolding_all rfl)
theorem Vp {e it l:Addr}{i:Nat}{c:Int}{its:Array Value}{x old:Value}{Q:aG}(he:IsEnum s.heap e it c old)(hit:s.heap.IsTupleIter it l i)(hl:s.heap.IsTuple l its)(hx:its[i]?=some x)(bL:e≠it)
  (hQ:∀ h',IsEnumOut h' e it (c+1) x s.heap.objs.size->h'.IsTupleIter it l (i+1)->h'.get? s.heap.objs.size=some { cls:=.type "tuple",data:=.seq #[.int c s.toks,x] } ->
   (∀ b o,b≠e->b≠it->s.heap.get? b=some o->h'.get? b=some o)->Q (.ref s.heap.objs.size) { s with heap:=h',toks:=s.toks+1 }) :
  wpAny (model prog w) A (Builtin.«enumerate.__next__» ⟨[.ref e],[]⟩) (λfin s'=>∃ v,fin=.done (.ret v)/\Q v s') E s:=by
 obtain⟨hp,g,d,tk,os⟩:=s;show wpAny _ _ (field (.ref e) 2 >>= _) _ _ _;refine af (wpAny_field he rfl (x:=.ref it) rfl ?_);refine af (HZ.Nq hit hl hx λh1 Vq s1=>?_);have e1:IsEnum h1 e it c old:=(s1.2 e bL).trans he;show wpAny _ _ (field (.ref e) 3 >>= _) _ _ ⟨h1,g,d,tk,os⟩;refine af (wpAny_field e1 rfl (x:=rawInt c) rfl ?_);show wpAny _ _ (field (.ref e) 4 >>= _) _ _ ⟨h1,g,d,tk,os⟩;refine af (wpAny_field e1 rfl (x:=.none) rfl ?_);show wpAny _ _ (mkInt c >>= _) _ _ ⟨h1,g,d,tk,os⟩;refine af (wpAny_mkInt ?_);show wpAny _ _ (setField (.ref e) 3 (rawInt (c+1)) >>= _) _ _ ⟨h1,g,d,tk+1,os⟩;refine af (wpAny_setField_rec e1 (by simp) λh2 e2 s2=>?_);have Vr:IsEnum h2 e it (c+1) old:=e2;show wpAny _ _ (setField (.ref e) 4 .none >>= _) _ _ ⟨h2,g,d,tk+1,os⟩;refine af (wpAny_setField_rec Vr (by simp) λh3 e3 s3=>?_);have Vs:IsEnum h3 e it (c+1) old:=e3;have z3:h3.objs.size=hp.objs.size:=by rw[s3.1];exact s2.1.trans s1.1
 show wpAny _ _ (newTuple [.int c tk,x] >>= _) _ _ ⟨h3,g,d,tk+1,os⟩;refine af (wpAny_newTuple ?_);generalize hh:h3.push { cls:=.type "tuple",data:=.seq [Value.int c tk,x].toArray }=h4;have e4:IsEnum h4 e it (c+1) old:=by rw[<- hh];exact a9 _ Vs
 have t4:h4.get? hp.objs.size=some { cls:=.type "tuple",data:=.seq #[.int c tk,x] }:=by rw[<- hh,<- z3];exact b7 _ rfl
 have k4:∀ b o,b≠e->b≠it->hp.get? b=some o->h4.get? b=some o:=λb o n1 n2 hb=>by rw[<- hh];exact a9 _ (s3.extBut b o n1 (s2.extBut b o n1 (s1.extBut b o n2 hb)))
 have Vt:h4.IsTupleIter it l (i+1):=by
  obtain⟨o,ho,r⟩:=(Vq.extBut s2.extBut (Ne.symm bL)).extBut s3.extBut (Ne.symm bL);rw[<- hh];exact⟨o,a9 _ ho,r⟩
 have Vu:hp.objs.size≠e:=Nat.ne_of_gt (a7 he);rw[z3];show wpAny _ _ (Builtin.SmallTypes.ownedTupleIsFree (.ref e) >>= _) _ _ ⟨h4,g,d,tk+1,os⟩;refine af ?_;unfold Builtin.SmallTypes.ownedTupleIsFree;refine af (wpAny_field e4 rfl (x:=.none) rfl (ao ?_));simp only[if_true];refine af (wpAny_rule ?_);refine af (wpAny_field e4 rfl (x:=old) rfl ?_);refine af (wpAny_setField_rec e4 (by simp) λh5 e5 s5=>?_);have Vv:IsEnum h5 e it (c+1) x:=e5;show wpAny _ _ (Builtin.SmallTypes.ownedTupleHandOut (.ref e) (.ref hp.objs.size) >>= _) _ _ ⟨h5,g,d,tk+1,os⟩;refine af ?_;unfold Builtin.SmallTypes.ownedTupleHandOut;refine af (wpAny_setField_rec Vv (by simp) λh6 e6 s6=>?_);have Vw:IsEnumOut h6 e it (c+1) x hp.objs.size:=e6;refine wpAny_setField_rec Vw (by simp) λh7 e7 s7=>?_;have up:∀ b o,b≠e->h4.get? b=some o->h7.get? b=some o:=λb o n q=>s7.extBut b o n (s6.extBut b o n (s5.extBut b o n q));refine af (wpAny_letGo (ao ⟨_,rfl,hQ h7 e7 ?_ (up _ _ Vu t4) λb o n1 n2 q=>up b o n1 (k4 b o n1 n2 q)⟩));exact Vt.at λo q=>up it o (Ne.symm bL) q
theorem Vx (mO:Tok)(l:Addr)(its:Array Value)(n:Nat)(y_:Option Addr)(sl:Array (Option Value)) :
  Meets (Builtin.«enumerate.__new__» ⟨[.type "enumerate",.ref l,.int 1 mO],[]⟩) (λ_ R s=>s.heap.get? l=some { cls:=.type "tuple",dict:=y_,data:=.seq its n,slots:=sl } /\
   R (.ok (.ret (.ref (HZ.oV s.heap l).objs.size))) { s with heap:=(HZ.oV s.heap l).push { cls:=.type "enumerate",data:=.fields #[.none,.bool false,.ref s.heap.objs.size,rawInt 1,.none,.none] } }):=
 .of_wp λprog w A R s h=>by
  obtain⟨hp,g,d,tk,os⟩:=s;obtain⟨hl,h⟩:=h;have Z0:=sub_enumerate;have hL:Heap.IsTuple (Shared.heap ⟨hp,g,d,tk,os⟩) l its:=⟨_,hl,rfl,n,rfl⟩;wp_walk using wpAny_loadPart' hl
  refine wpAny_stack_any λst=>ao ?_
  split
  ·rename_i c _ _ _ _ _;cases (c==Value.type "enumerate")<;>(wp_walk using wpAny_loadPart' hl,wpAny_pyIter_tuple hL;exact⟨_,rfl,h⟩)
  ·wp_walk using wpAny_loadPart' hl,wpAny_pyIter_tuple hL;exact⟨_,rfl,h⟩
theorem Vy {mO:Tok}{l:Addr}{its:Array Value}{Q:aG}(hL:s.heap.IsTuple l its)
  (h:∀ h',IsEnum h' (s.heap.objs.size+1) s.heap.objs.size 1 .none->h'.IsTupleIter s.heap.objs.size l 0->(∀ b o,s.heap.get? b=some o->h'.get? b=some o)->Q (.ref (s.heap.objs.size+1)) { s with heap:=h' }) :
  wpAny (model prog w) A (call (.type "enumerate") [.ref l,.int 1 mO]) Q E s:=by
 obtain⟨⟨c,y_,dt,sl⟩,hl,hc,n,hd⟩:=hL;simp only at hc hd;subst hc hd;refine callType_new PySem.F.called_enumerate (by decide) (Vn _ _) (Vo _ _) (λobj=>PySem.F.args_object_init_3 obj _ _) PySem.F.entry_enumerate_new (Vx mO l its n y_ sl) ⟨hl,?_⟩;have z1:(HZ.oV s.heap l).objs.size=s.heap.objs.size+1:=Heap.size_push ..;have g2:((HZ.oV s.heap l).push { cls:=.type "enumerate",data:=.fields #[.none,.bool false,.ref s.heap.objs.size,rawInt 1,.none,.none] }).get? (HZ.oV s.heap l).objs.size=some _:=b7 _ rfl;show _/\_;rw[z1] at g2 ⊢;exact⟨⟨_,g2,rfl⟩,h _ g2 ⟨_,a9 _ (b7 _ rfl),rfl,rfl⟩ λb o x=>a9 _ (a9 _ x)⟩
end
end HE
namespace L2
open PySem PySem.Spec PyProof.Rows
noncomputable def pP (K:Frag)(l:Addr):It:=
 ⟨λi H=>∃ xs x,bt K H l xs/\xs[i]?=some x,
 λi H v H'=>∃ p x,H p=none/\v=.ref p/\H'=upd H p (.tup [.int ((i:Int)+1),x])/\∀ xs,bt K H l xs->xs[i]?=some x,
 λi H=>∃ xs,bt K H l xs/\xs.length<=i⟩
noncomputable def Vz (e it l:Addr)(i:Nat)(h:Heap):Prop:=(∃ old,IsEnum h e it ((i:Int)+1) old)/\h.IsTupleIter it l i
theorem VA {P:Program}{w:World}{K:Frag}{es:List Expr}{k:Nat}{pos:Pos}{e it l:Addr}(bL:e≠it):Turn P w K (.Tuple es k pos) (pP K l) [e,it] e (Vz e it l) where
 mem:=by simp
 obj:=λi h st b hb=>by
  obtain⟨⟨old,t1⟩,⟨o4,e4,_,d4⟩⟩:=st;simp only[mem_cons,not_mem_nil,or_false] at hb;rcases hb with rfl|rfl
  ·exact⟨_,t1,λv r=>by cases (show Data.fields _=Data.cell v from r)⟩
  ·exact⟨o4,e4,λv r=>by rw[d4] at r;cases r⟩
 keep:=λi h h' st kp=>by
  obtain⟨⟨old,t1⟩,t4⟩:=st;exact⟨⟨old,kp e (by simp) _ t1⟩,t4.at λo q=>kp it (by simp) o q⟩
 item:=by
  intro X hP hw hK hc i pins s σ H E I hf st hg;subst hP hw hK;obtain⟨xs,x,q1,hx⟩:=hg;obtain⟨us,r1,p1,_⟩:=I.tuple q1;obtain⟨u,hu,ru⟩:=r1.get hx;obtain⟨⟨old,t1⟩,t4⟩:=st;have hT:s.TypeIs (.ref e) "enumerate":=⟨_,t1,rfl⟩;unfold pyNext
  refine af (wpAny_attempt (wpAny_callSpecial?_slot (name:=Str.ofString "__next__") hT PySem.F.slot_enumerate_next (wpAny_call_entry PySem.F.slot_enumerate_next hT PySem.F.entry_enumerate_next
   (HE.Vp t1 t4 (show s.heap.IsTuple l us.toArray from p1) (x:=u) (by simpa using hu) bL λh' a1 a2 a3 kp=>ao ⟨_,rfl,?_⟩) (PySem.F.args_enumerate_next_1 _))))
  refine wpAny_letOwnedTupleGo_enum a1 λh2 b1 sb=>?_;have fr:H s.heap.objs.size=none:=I.aA.fresh (ar _);have nz:s.heap.objs.size≠e:=Nat.ne_of_gt (a7 t1);have nD:∀ b o,b≠e->b≠it->s.heap.get? b=some o->h2.get? b=some o:=λb o n1 n2 q=>sb.extBut b o n1 (kp b o n1 n2 q)
  have tP:∀ f,f∈[e,it]->∀ b u',H b=some u'->b≠f:=λf hm b u' q r=>by
   rw[r,(hf f hm).1] at q;cases q
  have VB:cu X.prog X.w (upd H s.heap.objs.size (.tup [.int ((i:Int)+1),x])) h2:=by
   intro b ob q;by_cases hb:b=s.heap.objs.size
   ·subst hb;rw[bE] at q;cases q;exact⟨by show 2<=sizeLine;decide,[_,u],.cons ⟨s.toks,rfl⟩ (.cons ru .nil),⟨_,sb.extBut _ _ nz a3,rfl,_,rfl⟩⟩
   ·rw[a8 hb] at q;refine(I.aA b ob q).mj (hc:=λd zs q'=>by rw[a8 (dG q' fr)];exact q') (λd w' hd q'=>?_) (λd q'=>by rw[a8 (dG q' fr)];exact q') λd zs q'=>by rw[a8 (dG q' fr)];exact q'
    rcases hd with rfl|hd
    ·exact nD _ _ (tP e (by simp) _ _ q) (tP it (by simp) _ _ q) q'
    ·exact nD _ _ (tP e (by simp) _ _ hd) (tP it (by simp) _ _ hd) q'
  have I2:Inv X pins σ (upd H s.heap.objs.size (.tup [.int ((i:Int)+1),x])) { s with heap:=h2,toks:=s.toks+1 }:=by
   refine I.step (g':=s.gens) (d':=s.drawn) (t':=s.toks+1) (ch:=[e,it]) (λb hb=>?_) (λb o _ _ c9 q _=>?_) (λb o _ _ c9 q _=>⟨o.slots,?_⟩) (λb o c9 q n=>?_) (λb o c9 q=>⟨o,?_⟩) (λb zs q=>?_) (λb o zs q=>?_) (λb ps q=>⟨#[],?_⟩) (λm hm=>?_) VB I.bare
   ·obtain⟨f0,f1,f2,f3,f4,f5⟩:=hf b hb;exact⟨f3,f1,f4,f5⟩
   ·exact nD b o (λr=>c9 (by simp [r])) (λr=>c9 (by simp [r])) q
   ·exact nD b o (λr=>c9 (by simp [r])) (λr=>c9 (by simp [r])) q
   ·rw[a8 (bJ (a7 q))];exact n
   ·exact nD b o (λr=>c9 (by simp [r])) (λr=>c9 (by simp [r])) q
   ·rw[a8 (dG q fr)];exact q
   ·rw[a8 (dG q fr)];exact q
   ·rw[a8 (dG q fr),q];simp
   ·obtain⟨o,dI,ep,q,r⟩:=hm;exact⟨o,dI,ep,nD _ o (Ne.symm (hf e (by simp)).2.1) (Ne.symm (hf it (by simp)).2.1) q,r⟩
  refine⟨.ref s.heap.objs.size,_,I2,rfl,⟨_,x,fr,rfl,rfl,λzs hz=>by rw[I.vd hz q1];exact hx⟩,⟨⟨_,by simpa using b1⟩,a2.at λo q=>sb.extBut _ o bL.symm q⟩,λb hb=>?_⟩
  have eF:b<s.heap.objs.size:=by
   simp only[mem_cons,not_mem_nil,or_false] at hb;obtain⟨o4,e4,_⟩:=t4;rcases hb with rfl|rfl
   ·exact a7 t1
   ·exact a7 e4
  rw[a8 (bJ eF)];exact(hf b hb).1
 done:=by
  intro X hP hw hK hc i pins s σ H E I hf st hg;subst hP hw hK;obtain⟨xs,q1,Z1⟩:=hg;obtain⟨us,r1,p1,_⟩:=I.tuple q1;obtain⟨⟨old,t1⟩,t4⟩:=st;have Hd:=r1.length;have hT:s.TypeIs (.ref e) "enumerate":=⟨_,t1,rfl⟩;unfold pyNext;refine af (wpAny_attempt (wpAny_callSpecial?_slot (name:=Str.ofString "__next__") hT PySem.F.slot_enumerate_next (wpAny_call_entry PySem.F.slot_enumerate_next hT PySem.F.entry_enumerate_next ?_ (PySem.F.args_enumerate_next_1 _))));show wpAny _ _ (field (.ref e) 2 >>= _) _ _ _;refine af (wpAny_field t1 rfl (x:=.ref it) rfl ?_);refine af (HZ.Nr (I.ok.hd hc) t4 (show s.heap.IsTuple l us.toArray from p1) (by simp;omega) λh' y kp hy=>?_);obtain⟨o,ho,yG⟩:=hy;refine af (wpAny_isInstance (T:="StopIteration") (b:=true) ⟨o,ho,yG⟩ isSubtype_stop (ao ⟨rfl,?_⟩));obtain⟨f0,f1,f2,f3,f4,f5⟩:=hf it (by simp);exact Inv.turned (t':=s.toks) I (λb o n q=>kp b o n q) f0 f1 f3 f4 f5
 self:=λA i s Q E st h=>by obtain⟨⟨old,t1⟩,_⟩:=st;exact wpAny_pyIter_enum t1 h
noncomputable def VC (K:Frag)(ta:TA):TI:=λσ H R=>ta σ H λvs H1=>∃ l xs,vs=[.ref l,.int 1]/\bt K H1 l xs/\R (pP K l) H1
theorem VD {X:Cx}{es:List Expr}{k:Nat}{tp:Pos}{a b:Expr}{ta:TA}{p pos:Pos}(hg:Gl X "enumerate")(hm:X.mg "enumerate"=none)(hv:bootBuiltins "enumerate"=some (.type "enumerate"))(ha:PA X [a,b] ta)
  (hs:starEach [a,b] X.env=[(false,eval a X.env),(false,eval b X.env)]:=by rfl)(hs2:starEach [b] X.env=[(false,eval b X.env)]:=by rfl):PI X (.Tuple es k tp) (.Call (.Name "enumerate" p) [a,b] [] pos) (VC X.K ta):=by
 intro pins s σ H R I h;refine Call_ (my I hg hm hv (PyProof.Rows.callWith_type1 (aD (ha pos pins s σ H _ I h) λus s1 ⟨vs,H1,I1,r1,q1⟩=>?_) (by rw[hs,hs2]) (by rw[hs2];rfl)));obtain⟨l,xs,e,h1,q⟩:=q1;subst e;obtain⟨u,u2,rfl,ru,mO,rfl⟩:=(show ∃ u u2,us=[u,u2]/\RelV (.ref l) u/\RelV (.int 1) u2 by cases r1 with|cons r rr=>cases rr with|cons r2 rr=>cases rr;exact⟨_,_,rfl,r,r2⟩);cases ru;obtain⟨us,r1,p1,_⟩:=I1.tuple h1;refine HE.Vy (show s1.heap.IsTuple l us.toArray from p1) λh' a1 a2 kp=>?_;refine wpAny_pyIter_enum a1 ?_;refine⟨s1.heap.objs.size+1,[s1.heap.objs.size+1,s1.heap.objs.size],_,_,H1,rfl,I1.kept (t':=s1.toks) kp,VA (l:=l) (by show(_:Nat)≠(_:Nat);omega),⟨⟨_,a1⟩,a2⟩,λb hb=>?_,q⟩
 have pe:s1.heap.objs.size<=b:=by
  simp only[mem_cons,not_mem_nil,or_false] at hb;rcases hb with rfl|rfl
  ·exact Nat.le_add_right _ _
  ·exact ar _
 exact I1.jR pe (I1.aA.fresh pe)
noncomputable def i7 (xs:ai):ai:=xs.zipIdx.map λp=>.tup [.int ((p.2:Int)+1),p.1]
noncomputable def He (ue uf:UE):UI:=λA P=>ue A λx A1=>uf A1 λy A2=>A2.ae=A1.ae/\y=.int 1/\∃ xs,x=.tup xs/\P (i7 xs) (λ_=>True) A2
theorem VE {ue uf:UE}{B:Addr->Prop}{ae:cM}{S:Option ag}{P:ai->(cv)->AS->Prop}:He ue uf ⟨B,ae,S⟩ P=ue ⟨B,ae,S⟩ λx A1=>uf A1 λy A2=>A2.ae=A1.ae/\y=.int 1/\∃ xs,x=.tup xs/\P (i7 xs) (λ_=>True) A2:=rfl
theorem VF {xs:ai}{i:Nat}{x:PV}(h:(i7 xs)[i]?=some x):∃ y,xs[i]?=some y/\x=.tup [.int ((i:Int)+1),y]:=by
 unfold i7 at h;rw[getElem?_map,getElem?_zipIdx] at h
 cases e:xs[i]? with
 |none=>rw[e] at h;cases h
 |some y=>rw[e] at h;refine⟨y,rfl,?_⟩;simpa using h.symm
theorem Hf {xs:ai}:(i7 xs).length=xs.length:=by unfold i7;simp
section
variable {X:Cx}{K:Frag}{e f:Expr}{pos p:Pos}{ue uf:UE}{x:Str}{kvs:List (Str×PV)}
theorem VG {A:AS}{H:Hp}{σ:St}{a:Addr}{xs:ai}(R:Rep K H σ A)(h:RV K (AN A) H (.tup xs) (.ref a)):iW K A H (pP K a) (i7 xs) λ_=>True:=by
 have go:∀{N:Addr->Prop}{H2:Hp}{vs:Zv},bt K H2 a vs->aI K N H2 xs vs->∀ i x,(i7 xs)[i]?=some x->(pP K a).go i H2/\∀ v H',(pP K a).fK i H2 v H'->aS H2 H'/\RV K N H' x v:=λ{N H2 vs} h1 h2 i x hx=>by
  obtain⟨y,hy,rfl⟩:=VF hx;obtain⟨v,hv,rv⟩:=h2.at hy;refine⟨⟨_,v,h1,hv⟩,λv' H' ⟨p,z,hp,e1,e2,e3⟩=>?_⟩;have:=e3 _ h1;rw[hv] at this;cases this;subst e1 e2;have s2:=dM hp (.tup [.int ((i:Int)+1),v]);exact⟨s2,.tup (.inl (.inl bE)) (.cons (.int _) (.cons (rv.imp (iT s2)) .nil))⟩
 exact {
  go:=λbH A2 H2 R2 S2 _ i x hx=>by cases h.imp (R.keep S2) with|tup h1 h2=>exact go h1 h2 i x hx
  stop:=λbH A2 H2 R2 S2 _=>by cases h.imp (R.keep S2) with|tup h1 h2=>exact⟨_,h1,by rw[Hf,h2.len];exact ar _⟩
  cm:=λH2 b=>by
   cases h with
   |tup h1 h2=>
    have j6:=(R.lF b).t _ _ h1
    exact⟨λi x hx=>go j6 (h2.imp (R.lF b)) i x hx,⟨_,j6,by rw[Hf,h2.len];exact ar _⟩⟩ }
theorem VH {es:List Expr}{k:Nat}{tp:Pos}(hK:X.K=K)(hm:X.mg "enumerate"=none)(h:PE X e (aB K ue))(h2:PE X f (aB K uf))(hg:Gl X "enumerate":=by rfl)(hs:starEach [e,f] X.env=[(false,eval e X.env),(false,eval f X.env)]:=by rfl)(hs2:starEach [f] X.env=[(false,eval f X.env)]:=by rfl):PI X (.Tuple es k tp) (.Call (.Name "enumerate" p) [e,f] [] pos) (jw K (He ue uf)):=by
 subst hK;refine(VD hg hm PyProof.Rows.boot_enumerate (b8 h (b8 h2 cO hs2) (by rw[hs,hs2])) hs hs2).mono λσ H Q ⟨A,P,R,h,c⟩=>⟨A,_,R,h,λx A1 v H1 q R1 S1 rv=>⟨A1,_,R1,q,λy A2 w H2 q2 R2 S2 VI=>?_⟩⟩;obtain⟨e,rfl,xs,rfl,q3⟩:=q2;have ir:=rv.imp (R1.keep S2);cases VI
 cases ir with
 |tup h1 h2=>exact⟨_,_,rfl,h1,c _ _ A2 _ H2 q3 R2 (S1.trans S2) (VG R2 (.tup h1 h2))⟩
end
noncomputable def eY:List (Str×PV)->Str->Option PV
 |[],_=>none
 |(t,x)::r,s=>if t=s then some x else eY r s
structure Gd (P:Program)(w:World)(K:Frag)(mg:a0)(x:Str)(kvs:List (Str×PV)):Prop where
 ex:∃(a:Addr)(vs:List (Key×Value)),mg x=some (.ref a)/\(a==sysModules)=false/\(∀ h:Heap,K.In h->h.DictOf (bN P w) a vs) /\
  (∀ s z,eY kvs s=some z->∃ u v,valueAt vs (.inr s)=some u/\RelV v u/\∀ N H,RV K N H z v)/\∀ s,eY kvs s=none->valueAt vs (.inr s)=none
noncomputable def za (kvs:List (Str×PV)):G1:=λx z=>∃ s,x=.str s/\eY kvs s=some z
noncomputable def tQ (kvs:List (Str×PV)):G1:=λx z=>∃ s,x=.str s/\z=.bl (eY kvs s).isSome
theorem VJ {kvs:List (Str×PV)}{s:Str}{z:PV}:za kvs (.str s) z=(eY kvs s=some z):=propext ⟨fun⟨_,e,h⟩=>by cases e;exact h,λh=>⟨_,rfl,h⟩⟩
theorem VL {kvs:List (Str×PV)}{s:Str}{z:PV}:tQ kvs (.str s) z=(z=.bl (eY kvs s).isSome):=propext ⟨fun⟨_,e,h⟩=>by cases e;exact h,λh=>⟨_,rfl,h⟩⟩
section
variable {X:Cx}{K:Frag}{e:Expr}{pos p:Pos}{ue:UE}{x:Str}{kvs:List (Str×PV)}
theorem Hg (G:Gd X.prog X.w K X.mg x kvs)(hK:X.K=K)(he:PE X e (az K ue))(hs:qV e:=by intro _ _;rfl)(hg:Gl X x:=by rfl)(hd:(x==("__debug__":Str))=false:=by decide):PE X (.Subscript (.Name x p) e pos) (aB K (u1 (za kvs) ue)):=by
 subst hK;obtain⟨a,vs,hm,_,ot,hl,_⟩:=G.ex;intro pins s σ H Q I h;obtain⟨A,P,R,hu,c⟩:=h;refine BE PySem.F.slot_dict_getitem.lookup hs (aD (A_ (v:=.ref a) hg hm rfl hd pins s σ H (λx' H1=>x'=.ref a/\H1=H) I ⟨rfl,rfl⟩) λu s1 ⟨x',H1,I1,rx,ex,eH⟩=>?_);subst ex eH;obtain rfl:u=Value.ref a:=rx;refine aD (he pins s1 σ H1 (λv H2=>∃ r A1,(∃ z,za kvs r z/\P z A1)/\Rep X.K H2 σ A1/\ay A H1 A1 H2/\bV X.K A1 H2 r v) I1 ⟨A,_,R,hu,λr A1 v H2 p R1 S1 q=>⟨r,A1,p,R1,S1,q⟩⟩) λiv s2 ⟨y,H2,I2,ry,r,A1,p,R1,S1,q⟩=>?_;obtain⟨z,⟨t,rfl,hz⟩,p⟩:=p;obtain⟨u',v,hv,rv,hr⟩:=hl t z hz;cases q.str;have dd:=ot _ I2.dH;exact⟨dd.typeIs,wpAny_getItem_of (jY (k:=.inr t) ry) dd.mapOf hv ⟨v,H2,I2.tok _,rv,c z A1 v H2 p R1 S1 (hr _ _)⟩⟩
theorem VM (G:Gd X.prog X.w K X.mg x kvs)(hK:X.K=K)(he:PE X e (az K ue))(hg:Gl X x)(hd:(x==("__debug__":Str))=false):PC X .In e (.Name x p) (aB K (u1 (tQ kvs) ue)):=by
 subst hK;obtain⟨a,vs,hm,hn,ot,hl,VN⟩:=G.ex;intro pins s σ H Q I h;obtain⟨A,P,R,hu,c⟩:=h;refine aD (he pins s σ H (λv H2=>∃ r A1,(∃ z,tQ kvs r z/\P z A1)/\Rep X.K H2 σ A1/\ay A H A1 H2/\bV X.K A1 H2 r v) I ⟨A,_,R,hu,λr A1 v H2 p R1 S1 q=>⟨r,A1,p,R1,S1,q⟩⟩) λiv s1 ⟨y,H1,I1,ry,r,A1,p,R1,S1,q⟩=>?_;refine aD (A_ (v:=.ref a) hg hm rfl hd pins s1 σ H1 (λx' H2=>x'=.ref a/\H2=H1) I1 ⟨rfl,rfl⟩) λu s2 ⟨x',H2,I2,rx,ex,eH⟩=>?_;subst ex eH;obtain rfl:u=Value.ref a:=rx;obtain⟨z,⟨t,rfl,rfl⟩,p⟩:=p;cases q.str;have dd:=ot _ I2.dH;refine wpAny_in_of (jY (k:=.inr t) ry) hn dd.mapOf ?_
 have ev:(valueAt vs (.inr t)).isSome=(eY kvs t).isSome:=by
  cases hz:eY kvs t with
  |none=>rw[VN t hz];rfl
  |some z=>obtain⟨u',v,hv,_⟩:=hl t z hz;rw[hv];rfl
 rw[ev];exact⟨.bl _,H2,I2.tok _,rfl,c _ A1 _ H2 p R1 S1 (.bl _)⟩
theorem VO (G:Gd X.prog X.w K X.mg x kvs)(hK:X.K=K)(he:PE X e (az K ue))(hg:Gl X x:=by rfl)(hd:(x==("__debug__":Str))=false:=by decide)(hm:behindInMarks .In (.Name x p)=false:=by rfl):PT X (.Compare e [.In] [.Name x p] pos) (liftT K (uB (u1 (tQ kvs) ue))):=
 (A' (VM G hK he hg hd) hm).mono (Gg λ_ _ _ h=>h)
end
noncomputable def Hh (i kj:Nat)(ue:UE):UE:=λA Q=>∃(a p:Addr)(kvs:aT)(z:Str)(j:Nat)(xs:ai),A.ae[i]?=some (some (.own a (.ah kvs)))/\A.ae[kj]?=some (some (.val (.str z)))/\bZ kvs (.inr z)=some (.raw (.ref p))/\A.ae[j]?=some (some (.own p (.lst xs))) /\
 ue A λx A1=>∃ ys,A1.ae[j]?=some (some (.own p (.lst ys)))/\ys.length<=1000000/\Q .non (put A1 j (.own p (.lst (ys++[x]))))
section
variable {X:Cx}{K:Frag}{e:Expr}{ue:UE}{apos bh bB f6 cZ:Pos}{k:Nat}
theorem VP (hK:X.K=K)(hr:bP k X.A)(i kj:Nat){x y:Str}(he:PE X e (aB K ue))(hN:X.N[i]?=some x:=by rfl)(hv:dj X.env.scope x:=by walk_at "v")(hd:(x==("__debug__":Str))=false:=by decide)(bK:(x==("__classdict__":Str))=false:=by decide)
  (yX:X.N[kj]?=some y:=by rfl)(yY:dj X.env.scope y:=by walk_at "v")(hd2:(y==("__debug__":Str))=false:=by decide)(yZ:(y==("__classdict__":Str))=false:=by decide)
  (d5:attributeBase (.Subscript (.Name x bB) (.Name y f6) cZ) "append" X.env (eval (.Subscript (.Name x bB) (.Name y f6) cZ) X.env)=eval (.Subscript (.Name x bB) (.Name y f6) cZ) X.env:=by rfl)
  (h_:((backTo bh (starEach [e] X.env)).all (λx=>!x.1)&&(backToKw bh (keywordEach [] X.env)).all (λx=>x.1.isSome)&&decide ([e].length+([]:List Keyword).length+(if ([]:List Keyword).isEmpty then 0 else 1)<30))=true:=by rfl)
  (d6:(apos.endLine==bh.line)=true:=by rfl)(hs:starEach [e] X.env=[(false,eval e X.env)]:=by rfl):PE X (.Call (.Attribute (.Subscript (.Name x bB) (.Name y f6) cZ) "append" apos) [e] [] bh) (aB K (Hh i kj ue)):=by
 subst hK;refine(oN PySem.F.plainAttrs_list PySem.F.slot_list_append PySem.F.type_list_append vN (f7 (gB hr) (dZ hN hv hd bK) (dZ yX yY hd2 yZ) (by intro _ _;rfl)) (b8 he cO hs) d5 h_ d6 hs rfl).mono λσ H Q ⟨A,P,R,h,c⟩=>?_;obtain⟨a,p,kvs,z,j,xs,hi,hk,hl,hj,h⟩:=h;obtain⟨vi,ei,rfl,nb,av,g1,g2⟩:=R.sl i _ hi;obtain⟨vk,ek,rk⟩:=R.sl kj _ hk;have pO:vk=.str z:=by cases rk;rfl
 subst pO;obtain⟨u,hu,ru⟩:=(pE g2 (.inr z)).1 _ hl;have eu:u=.ref p:=by cases ru;rfl
 subst eu;obtain⟨vj,ej,rfl,Z2,vs,j1,j2⟩:=R.sl j _ hj;refine⟨_,ei,_,ek,a,.ref p,rfl,by rw[<- hu];exact fc.k (k:=.inr z) g1,.inl ⟨rfl,_,aN.of j1⟩,A,_,R,h,λr A1 w H1 q R1 S1 dJ=>?_⟩;obtain⟨ys,hA,aF,q⟩:=q;obtain⟨_,_,_,_,us,k1,k2⟩:=R1.sl j _ hA;have:=k2.len;obtain⟨R2,S2⟩:=R1.turn hA (k2.app (.cons dJ .nil));exact⟨p,us,w,rfl,rfl,k1,Nat.lt_of_le_of_lt (by omega:us.length<=1000000) (by decide),c _ _ _ _ q R2 (S1.trans S2) .non⟩
end
noncomputable def lW (P:PV->PV->PV->PV->PV->PV->Prop):Rel:=λxs r=>∃ x0 x1 x2 x3 x4,xs=[x0,x1,x2,x3,x4]/\P x0 x1 x2 x3 x4 r
theorem lW.len {P:PV->PV->PV->PV->PV->PV->Prop}{xs:ai}{r:PV}(h:lW P xs r):xs.length=5:=by obtain⟨_,_,_,_,_,rfl,_⟩:=h;rfl
theorem VQ {P:PV->PV->PV->PV->PV->PV->Prop}{a b c d e r:PV}:lW P [a,b,c,d,e] r=P a b c d e r:=by
 unfold lW;refine propext ⟨fun⟨_,_,_,_,_,e,h⟩=>?_,λh=>⟨_,_,_,_,_,rfl,h⟩⟩;simp only[cons.injEq,and_true] at e;obtain⟨rfl,rfl,rfl,rfl,rfl⟩:=e;exact h
inductive dh (w:World)(K:Frag):List DictEntry->List (Str×PV)->Prop where
 |nil:dh w K [] []
 |cons {s:Str}{t:Tok}{u:Value}{v:V}{z:PV}{es:List DictEntry}{kvs:List (Str×PV)}:RelV v u->(∀ N H,RV K N H z v)->dh w K es kvs->dh w K (⟨PyData.keyHash w.params s,.str s t,u⟩::es) ((s,z)::kvs)
theorem VR {P:Program}{w:World}{K:Frag}{es:List DictEntry}{kvs:List (Str×PV)}(h:dh w K es kvs):∃ vs:List (Key×Value),(∀ e∈es,∃ k,(bN P w).is k e.key=true/\e.hash=(bN P w).hash k)/\Pairs (bN P w) es vs/\vs.map (·.1)=kvs.map (λkv=>(Sum.inr kv.1:Key)) /\
  (∀ s z,eY kvs s=some z->∃ u v,valueAt vs (.inr s)=some u/\RelV v u/\∀ N H,RV K N H z v)/\∀ s,eY kvs s=none->valueAt vs (.inr s)=none:=by
 induction h with
 |nil=>exact⟨[],(λe h=>by cases h),.nil,rfl,(λs z h=>by cases h),λs _=>rfl⟩
 |@cons s t u v z es kvs r1 r2 _ ih=>
  obtain⟨vs,h1,h2,h3,h4,h5⟩:=ih
  have va:∀ y,valueAt ((.inr s,u)::vs:List (Key×Value)) (.inr y)=if s=y then some u else valueAt vs (.inr y):=λy=>by
   unfold valueAt;rw[find?_cons];by_cases e:s=y
   ·rw[if_pos e,e];simp
   ·rw[if_neg e,decide_eq_false (λq=>e (Sum.inr.inj q))]
  refine⟨(.inr s,u)::vs,λe he=>?_,.cons (u3 s t) rfl h2,by rw[map_cons,map_cons,h3],λy z' hz=>?_,λy hy=>?_⟩
  ·rcases mem_cons.mp he with e1|e1
   ·rw[e1];exact⟨.inr s,u3 s t,rfl⟩
   ·exact h1 e e1
  ·rw[va];simp only[eY] at hz;by_cases e:s=y
   ·rw[if_pos e] at hz ⊢;cases hz;exact⟨u,v,rfl,r1,r2⟩
   ·rw[if_neg e] at hz ⊢;exact h4 y z' hz
  ·rw[va];simp only[eY] at hy;by_cases e:s=y
   ·rw[if_pos e] at hy;cases hy
   ·rw[if_neg e] at hy ⊢;exact h5 y hy
theorem Hi {P:Program}{w:World}{K:Frag}{mg:a0}{x:Str}{a:Addr}{es:List DictEntry}{ep:Nat}{kvs:List (Str×PV)}(hm:mg x=some (.ref a))(hs:(a==sysModules)=false)(l:K.lookup a=some ⟨.type "dict",none,.dict es.toArray ep,#[]⟩)(h:dh w K es kvs)(nd:(kvs.map (λkv=>(Sum.inr kv.1:Key))).Nodup):Gd P w K mg x kvs:=by
 obtain⟨vs,h1,h2,h3,h4,h5⟩:=VR (P:=P) h;exact⟨a,vs,hm,hs,λhp I=>⟨_,es.toArray,ep,I a _ l,⟨rfl,rfl,rfl⟩,rfl,λe he=>h1 e (by simpa using he),by simpa using h2,by rw[h3];exact nd⟩,h4,h5⟩
theorem iB {K:Frag}{b:Addr}{i j:Int}{ti tj:Tok}{n:Nat}{ok:Option Addr}{ss:Array (Option Value)}(l:K.lookup b=some ⟨.type "tuple",ok,.seq #[.int i ti,.int j tj] n,ss⟩):∀ N H,RV K N H (.tup [.int i,.int j]) (.ref b):=λN H=>RV.tup (vs:=[V.int i,V.int j]) (.inr ⟨_,_,n,l,rfl,rfl,(by show 2<=sizeLine;decide),.cons ⟨ti,rfl⟩ (.cons ⟨tj,rfl⟩ .nil)⟩) (.cons (.int _) (.cons (.int _) .nil))
end L2
namespace cV
open PySem L2
structure Tm (d b:Nat)(x:PV):Prop where
 p:ky x=true
 s:(toD x).showable=true
 n:(toD x).hasDict=false
 l:(toD x).leavesShort 30=true
 e:(toD x).depth<=d
 c:(toD x).bulk<=b
 q:Dp d x
structure jG (d b:Nat)(xs:ai):Prop where
 p:lV xs=true
 s:PyData.showableAll (iA xs)=true
 n:PyData.hasDictAll (iA xs)=false
 l:PyData.leavesShortAll 30 (iA xs)=true
 e:PyData.depthAll (iA xs)<=d
 c:PyData.bulkAll (iA xs)<=b
 q:∀ x∈xs,Dp d x
theorem Tm.mono {d b e c:Nat}{x:PV}(h:Tm d b x)(l:d<=e)(k:b<=c):Tm e c x:=⟨h.p,h.s,h.n,h.l,aP h.e l,aP h.c k,h.q.mono l⟩
theorem jG.mono {d b e c:Nat}{x:ai}(h:jG d b x)(l:d<=e)(k:b<=c):jG e c x:=⟨h.p,h.s,h.n,h.l,aP h.e l,aP h.c k,λy hy=>(h.q y hy).mono l⟩
theorem i8 {d b:Nat}:jG d b []:=⟨rfl,rfl,rfl,rfl,Nat.zero_le _,Nat.zero_le _,λ_ h=>by cases h⟩
theorem dD {d b c:Nat}{x:PV}{xs:ai}(h:Tm d b x)(g:jG d c xs):jG d (b+1+c) (x::xs):=by
 refine⟨?_,?_,?_,?_,?_,?_,?_⟩
 ·show(ky x&&lV xs)=true;rw[h.p,g.p];rfl
 ·show(PyData.showable _&&PyData.showableAll _)=true;rw[h.s,g.s];rfl
 ·show(PyData.hasDict _||PyData.hasDictAll _)=false;rw[h.n,g.n];rfl
 ·show(PyData.leavesShort 30 _&&PyData.leavesShortAll 30 _)=true;rw[h.l,g.l];rfl
 ·show max _ _<=d;have:=h.e;have:=g.e;omega
 ·show PyData.bulk _+1+PyData.bulkAll _<=_;have:=h.c;have:=g.c;omega
 ·intro y hy;rcases mem_cons.mp hy with e|e
  ·rw[e];exact h.q
  ·exact g.q y e
theorem gO {d b:Nat}{xs:ai}(h:jG d b xs):Tm (d+1) b (.tup xs):=⟨h.p,h.s,h.n,h.l,Nat.succ_le_succ h.e,h.c,lT h.q⟩
theorem VS {d b:Nat}{xs:ai}(h:jG d b xs):Tm (d+1) b (.lst xs):=⟨h.p,h.s,h.n,h.l,Nat.succ_le_succ h.e,h.c,iy h.q⟩
theorem pQ {d b:Nat}:∀{xs:ai},(∀ x∈xs,Tm d b x)->jG d (xs.length*(b+1)) xs
 |[],_=>i8
 |x::xs,h=>(dD (h x (by simp)) (pQ λy hy=>h y (by simp [hy]))).mono (ar _) (by rw[length_cons,Nat.add_mul];omega)
noncomputable def Sh (z:Str):Prop:=z.length<=20/\∀ c∈z.cps.toList,c<200
theorem ef {d:Nat}{z:Str}(h:Sh z):Tm d 20 (.str z):=⟨rfl,rfl,rfl,all_eq_true.mpr λc hc=>decide_eq_true (by have:=h.2 c hc;omega),Nat.zero_le _,h.1,jE _ _⟩
theorem VT {d b:Nat}:Tm d b .non:=⟨rfl,rfl,rfl,rfl,Nat.zero_le _,Nat.zero_le _,RQ _⟩
theorem Hj (z:Str)(h:(decide (z.length<=20)&&z.cps.toList.all λc=>decide (c<200))=true):Sh z:=by
 rw[Bool.and_eq_true] at h;exact⟨of_decide_eq_true h.1,λc hc=>of_decide_eq_true (all_eq_true.mp h.2 c hc)⟩
theorem Hk {d:Nat}{i:Int}(h0:-1<=i)(h1:i<100):Tm d 20 (.int i):=by
 have:∀ k:Fin 101,(PyData.int ((k.val:Int)-1)).showable=true/\(PyData.int ((k.val:Int)-1)).leavesShort 30=true/\(PyData.int ((k.val:Int)-1)).bulk<=20:=by decide +kernel
 have q:=this ⟨(i+1).toNat,by omega⟩;have e:(((i+1).toNat:Nat):Int)-1=i:=by omega
 simp only[e] at q;exact⟨rfl,q.1,rfl,q.2.1,Nat.zero_le _,q.2.2,lS _ _⟩
theorem Hl {d b:Nat}{xs:ai}(h:Tm d b (.lst xs))(l:d<=90)(k:b<=400000):G6 (.lst xs) (.str (toD (.lst xs)).shown):=by
 refine⟨.inr ⟨xs,rfl⟩,h.p,h.s,h.n,by have:=h.e;omega,?_,rfl⟩;have:=PyData.shown_le_bulk 30 (by decide) _ h.l;have hb:=h.c;have hs:sizeLine=2 ^ 24:=rfl;omega
mutual
inductive Ak where
 |tab (n w:Str)
 |one (h:Str)(a:Ak)(r:ai)
 |pick (a:Ak)(c:Cd)
 |two (h:Str)(a b:Ak)(c:Cd)
 |add (a b:Ak)
inductive Cd where
 |cn (a:Ak)(c:Cd)
 |nt (c:Cd)
 |bo (h:Str)(c d:Cd)
 |lf (h:Str)(r:ai)
end
mutual
noncomputable def qA:Ak->PV
 |.tab n w=>.tup [.str "table",.str n,.str w]
 |.one h a r=>.tup (.str h::qA a::r)
 |.pick a c=>.tup [.str "pick",qA a,qC c]
 |.two h a b c=>.tup [.str h,qA a,qA b,qC c]
 |.add a b=>.tup [.str "add",qA a,qA b]
noncomputable def qC:Cd->PV
 |.cn a c=>.tup [.str "some",qA a,qC c]
 |.nt c=>.tup [.str "not",qC c]
 |.bo h c d=>.tup [.str h,qC c,qC d]
 |.lf h r=>.tup (.str h::r)
end
noncomputable def H1:aq:=["show","once","group","first"]
noncomputable def H2:aq:=["join","left","half","lack"]
noncomputable def H3:aq:=["both","either"]
noncomputable def H4:aq:=["yes","isnothing","is","less"]
mutual
noncomputable def wA:Ak->Prop
 |.tab _ _=>True
 |.one h a _=>h∈H1/\wA a
 |.pick a c=>wA a/\wC c
 |.two h a b c=>h∈H2/\wA a/\wA b/\wC c
 |.add a b=>wA a/\wA b
noncomputable def wC:Cd->Prop
 |.cn a c=>wA a/\wC c
 |.nt c=>wC c
 |.bo h c d=>h∈H3/\wC c/\wC d
 |.lf h _=>h∈H4
end
mutual
noncomputable def hA:Ak->Nat
 |.tab _ _=>1
 |.one _ a _=>hA a+1
 |.pick a c=>max (hA a) (hC c)+1
 |.two _ a b c=>max (max (hA a) (hA b)) (hC c)+1
 |.add a b=>max (hA a) (hA b)+1
noncomputable def hC:Cd->Nat
 |.cn a c=>max (hA a) (hC c)+1
 |.nt c=>hC c+1
 |.bo _ c d=>max (hC c) (hC d)+1
 |.lf _ _=>1
end
mutual
noncomputable def nA:Ak->Nat
 |.tab _ _=>1
 |.one _ a r=>nA a+r.length+1
 |.pick a c=>nA a+nC c+1
 |.two _ a b c=>nA a+nA b+nC c+1
 |.add a b=>nA a+nA b+1
noncomputable def nC:Cd->Nat
 |.cn a c=>nA a+nC c+1
 |.nt c=>nC c+1
 |.bo _ c d=>nC c+nC d+1
 |.lf _ r=>r.length+1
end
theorem Hm {x d e:Nat}(h:x<=d):x<=max 0 (max d e):=by omega
theorem tR {x y d e:Nat}(h:x<=d)(g:y<=e):max x y<=max 0 (max d (max e 0)):=by omega
theorem VU {x y z d e f:Nat}(h:x<=d)(g:y<=e)(k:z<=f):max (max x y) z<=max 0 (max d (max e (max f 0))):=by omega
mutual
theorem i9:∀ a:Ak,hA a<=(toD (qA a)).depth
 |.tab _ _=>Nat.le_add_left 1 _
 |.one h a r=>Nat.succ_le_succ (Hm (i9 a))
 |.pick a c=>Nat.succ_le_succ (tR (i9 a) (nE c))
 |.two h a b c=>Nat.succ_le_succ (VU (i9 a) (i9 b) (nE c))
 |.add a b=>Nat.succ_le_succ (tR (i9 a) (i9 b))
theorem nE:∀ c:Cd,hC c<=(toD (qC c)).depth
 |.cn a c=>Nat.succ_le_succ (tR (i9 a) (nE c))
 |.nt c=>Nat.succ_le_succ (Hm (nE c))
 |.bo h c d=>Nat.succ_le_succ (tR (nE c) (nE d))
 |.lf h r=>Nat.le_add_left 1 _
end
theorem zb:∀ xs:ai,xs.length<=PyData.bulkAll (iA xs)
 |[]=>ar _
 |x::xs=>by
  have:=zb xs;show xs.length+1<=PyData.bulk (toD x)+1+PyData.bulkAll (iA xs);omega
theorem VW {x l b c d:Nat}(h:x<=b+1)(g:l<=c):x+l+1<=d+1+(b+1+c)+1:=by omega
theorem tS {x y b c d:Nat}(h:x<=b+1)(g:y<=c+1):x+y+1<=d+1+(b+1+(c+1+0))+1:=by omega
theorem VX {x y z b c e d:Nat}(h:x<=b+1)(g:y<=c+1)(k:z<=e+1):x+y+z+1<=d+1+(b+1+(c+1+(e+1+0)))+1:=by omega
theorem VY {x b d:Nat}(h:x<=b+1):x+1<=d+1+(b+1+0)+1:=by omega
theorem VZ {l c d:Nat}(h:l<=c):l+1<=d+1+c+1:=by omega
mutual
theorem kz:∀ a:Ak,nA a<=(toD (qA a)).bulk+1
 |.tab _ _=>Nat.le_add_left 1 _
 |.one h a r=>VW (kz a) (zb r)
 |.pick a c=>tS (kz a) (nF c)
 |.two h a b c=>VX (kz a) (kz b) (nF c)
 |.add a b=>tS (kz a) (kz b)
theorem nF:∀ c:Cd,nC c<=(toD (qC c)).bulk+1
 |.cn a c=>tS (kz a) (nF c)
 |.nt c=>VY (nF c)
 |.bo h c d=>tS (nF c) (nF d)
 |.lf h r=>VZ (zb r)
end
noncomputable def aR:Cd->List Ak
 |.cn a c=>a::aR c
 |.nt c=>aR c
 |.bo _ c d=>aR c++aR d
 |.lf _ _=>[]
noncomputable def kids:Ak->List Ak
 |.tab _ _=>[]
 |.one _ a _=>[a]
 |.pick a c=>a::aR c
 |.two _ a b c=>a::b::aR c
 |.add a b=>[a,b]
noncomputable def cps:Cd->List Nat->List (List Nat×Ak)
 |.cn a c,p=>(p++[1],a)::cps c (p++[2])
 |.nt c,p=>cps c (p++[1])
 |.bo _ c d,p=>cps c (p++[1])++cps d (p++[2])
 |.lf _ _,_=>[]
noncomputable def cN:Ak->List (List Nat×Ak)
 |.tab _ _=>[]
 |.one _ a _=>[([1],a)]
 |.pick a c=>([1],a)::cps c [2]
 |.two _ a b c=>([1],a)::([2],b)::cps c [3]
 |.add a b=>[([1],a),([2],b)]
theorem jH:∀(c:Cd)(p:List Nat),(cps c p).map Prod.snd=aR c
 |.cn a c,p=>by simp [cps,aR,jH c]
 |.nt c,p=>by simp [cps,aR,jH c]
 |.bo _ c d,p=>by simp [cps,aR,jH c,jH d]
 |.lf _ _,_=>rfl
theorem tT (a:Ak):(cN a).map Prod.snd=kids a:=by
 cases a<;>simp [cN,kids,jH]
theorem eZ:∀ c:Cd,(aR c).length<=nC c
 |.cn a c=>Nat.succ_le_succ (aP (eZ c) (Nat.le_add_left _ _))
 |.nt c=>Nat.le_succ_of_le (eZ c)
 |.bo _ c d=>by rw[aR,length_append];exact Nat.le_succ_of_le (Nat.add_le_add (eZ c) (eZ d))
 |.lf _ _=>Nat.zero_le _
theorem tU (a:Ak):(kids a).length<=nA a+1:=by
 cases a with
 |tab _ _=>exact Nat.zero_le _
 |one _ a _=>exact Nat.le_add_left 1 _
 |pick a c=>exact Nat.succ_le_succ (Nat.le_succ_of_le (aP (eZ c) (Nat.le_add_left _ _)))
 |two _ a b c=>exact Nat.succ_le_succ (Nat.succ_le_succ (aP (eZ c) (Nat.le_add_left _ _)))
 |add a b=>exact Nat.succ_le_succ (Nat.le_add_left 1 _)
noncomputable def cb:Cd->Nat->Ak->Cd
 |.cn _ c,0,q=>.cn q c
 |.cn a c,i+1,q=>.cn a (cb c i q)
 |.nt c,i,q=>.nt (cb c i q)
 |.bo h c d,i,q=>if i<(aR c).length then .bo h (cb c i q) d else .bo h c (cb d (i-(aR c).length) q)
 |.lf h r,_,_=>.lf h r
noncomputable def cq:Ak->Nat->Ak->Ak
 |.one h _ r,0,q=>.one h q r
 |.pick _ c,0,q=>.pick q c
 |.pick a c,i+1,q=>.pick a (cb c i q)
 |.two h _ b c,0,q=>.two h q b c
 |.two h a _ c,1,q=>.two h a q c
 |.two h a b c,i+2,q=>.two h a b (cb c i q)
 |.add _ b,0,q=>.add q b
 |.add a _,1,q=>.add a q
 |a,_,_=>a
noncomputable def c6:Ak->List Nat->Ak->Ak
 |_,[],q=>q
 |a,i::w,q=>match (kids a)[i]? with
  |some k=>cq a i (c6 k w q)
  |none=>a
noncomputable def apart:Ak->List Nat->Option Ak
 |a,[]=>some a
 |a,i::w=>match (kids a)[i]? with
  |some k=>apart k w
  |none=>none
local macro_rules|`(tactic| w_on) => `(tactic| try simp only [Vb, Vj, ↓UC, VQ, ↓U0, ↓U6, ↓VE, VJ, VL, ↓UW, Um, tJ, Su, Uy, ↓Ut, Ur, ↓Us, Uo, Up, Uq, ↓Uz, ↓R7, ↓R8, ↓R9, ↓R_, ↓Sd, ↓Se, ↓Sf, ↓Sg, ↓Si, ↓Sq, ↓Sv, ↓SA, ↓SD, ↓SE, ↓SF, ↓SG, ↓SH, ↓SI, ↓SJ, ↓SM, ↓SN, ↓SO, ↓SQ, ↓SR, ↓SS, ↓SU, ↓SW, ↓SX, ↓SY, ↓S5, ↓S6, ↓S8, ↓S9, ↓S_, ↓Te, ↓Tf, ↓Tg, ↓Th, ↓Ti, ↓Tj, ↓Tn, ↓To, ↓Ts, ↓Tt, ↓Tu, ↓Tv, ↓TB, ↓TC, ↓TH, ↓TJ, ↓TM, ↓TN, ↓TV, ↓TX, ↓Ub, ↓Uc, ↓Ud, ↓Ue, Sj, Sm, Sn, So, Sr, Ss, Sw, Sz, S7, S', Tc, Ta, Tb, Td, Tp, Tq, Tw, Tx, Tz, TF, TK, TL, TQ, TR, TU, TY, TZ, T5, Ua, RJ, RX, RY, RZ, R5, exists_eq_left', yK, yL, R6, dg, mR, Sl.si, sX, i2, replicate, map_cons, map_nil, cons_append, nil_append, Option.join_some, Option.map_some, getElem?_cons_zero, getElem?_cons_succ, set_cons_zero, set_cons_succ, true_and, and_true, and_self, Bool.false_eq_true, Bool.not_true, Bool.not_false, Option.some.injEq, PV.bl.injEq, PV.int.injEq, PV.str.injEq, PV.tup.injEq, PV.lst.injEq, Sl.own.injEq, Sl.val.injEq, OC.lst.injEq, OC.ah.injEq, cons.injEq, length_cons, length_nil, Rq, Rr, Rt, Ru, Rv, Rw, Rx, Ry, Rz, Q6, Q7, Q8, Q9, RA, RB, RC, RD, RE, RF, RG, RH, RI, T8, T9, RK, RL, RM, RN, RO, RP, Gz, GA, T6, T7, Bool.false_xor, Int.reduceLT, Int.reduceLE, Int.reduceAdd, Nat.reduceAdd, Nat.reduceLeDiff, Function.comp_def])
noncomputable def Nz (st:ag)(c:Nat)(st':ag):Prop:=∃(n:Nat)(nm pt:Int),n<=st.n+c/\st'=⟨st.d,st.a,n,{ st.b with nm:=nm,pt:=pt }⟩
noncomputable def W4 (z:Str):Prop:=z.length<=4/\∀ c∈z.cps.toList,c<200
theorem W4.sh {z:Str}(h:W4 z):Sh z:=⟨aP h.1 (by decide),h.2⟩
theorem nG (a b:Str):(a++b).length=a.length+b.length:=by
 show(a.cps++b.cps).size=_;rw[Array.size_append];rfl
theorem tV {a b:Str}(h:∀ c∈a.cps.toList,c<200)(g:∀ c∈b.cps.toList,c<200):∀ c∈(a++b).cps.toList,c<200:=by
 intro c hc;have:c∈(a.cps++b.cps).toList:=hc;rw[Array.toList_append] at this;rcases mem_append.mp this with z|z
 ·exact h c z
 ·exact g c z
theorem V0:∀ i:Fin 26,∃ c,("abcdefghijklmnopqrstuvwxyz":Str).cps[i.val]?=some c/\c<200:=λi=>⟨97+i.val,by revert i;decide +kernel,by omega⟩
theorem V1 {r:Int}(h0:0<=r)(h1:r<26):∃ c,("abcdefghijklmnopqrstuvwxyz":Str).cps[r.toNat]?=some c/\c<200:=V0 ⟨r.toNat,by omega⟩
noncomputable def zc (x:PV)(st:ag)(Q:PV->ag->Prop):Prop:=∃ k:Int,x=.int k/\dw st.b/\∀ z:Str,z.length=1->(∀ c∈z.cps.toList,c<200)->Q (.str z) st
noncomputable def pR (st:ag)(Q:PV->ag->Prop):Prop:=dw st.b/\∀(z:Str)(st':ag),W4 z->Nz st 0 st'->Q (.str z) st'
noncomputable def tW (x y r:PV):Prop:=∃ k1 k2,x=.ah k1/\y=.ah k2/\k1.length+k2.length<=60/\r=.ah (i6 k1 k2)
section
variable {P:Program}{w:World}{K:Frag}{mg:a0}{base:Heap}
theorem V2:bx ["_law_state","_law_number"] ["_law_state","_law_number"] (aX wI):=by walk_at "s"
theorem V3 {k:Nat}(D:Df K mg "_law_word" wI)(B:Bt mg):Kn P w K mg base (k+1) "_law_word" (spS K false (bQ zc)):=by
 refine D.eL V2 (λ_ _ _ _ _ _=>fg λ_ _=>rfl) (λ_ _ _=>bQ.len) (by decide) (λf aE A outer s H E hr=>⟨_,(s1 (aJ (ax rfl hr (qv vs) (qv (yc (qv (bT rfl (qv (ng hr 0 6 (by decide) (by decide) rfl)) (qn 1))) (qv vi)))))),λB' xs st Q h=>?_⟩);obtain⟨x1,rfl,h⟩:=h;change (_:US) (dN false Q) ⟨B',[some (.val (.raw (.ref st.d))),some (.val x1)],some st⟩;obtain⟨k,rfl,W,h⟩:=h;obtain⟨d,a,n,D⟩:=st;have W':dw D:=W;have r0:0<=(D.z+k) % 26:=Int.emod_nonneg _ (by decide);have r1:(D.z+k) % 26<26:=Int.emod_lt_of_pos _ (by decide);obtain⟨c,hc,hl⟩:=V1 r0 r1;w_on;refine aj _ ⟨by decide +kernel,_,i5 r0 (by rw[Array.getElem?_toList];exact hc),rfl⟩ ?_;w_on;exact h _ rfl λc' h'=>by rw[mem_singleton.mp h'];exact hl
theorem Hn:bx ["_law_state","_law_number"] ["_law_state"] (aX wJ):=by walk_at "s"
theorem V4 {k:Nat}(D:Df K mg "_law_new" wJ)(B:Bt mg)(kA:Kn P w K mg base k "_law_word" (spS K false (bQ zc))):Kn P w K mg base (k+1) "_law_new" (spS K false (gL pR)):=by
 refine D.eL Hn (λ_ _ _ _ _ _=>gD λ_=>rfl) (λ_ _ _=>gL.len) (by decide) (λf aE A outer s H E hr=>⟨_,(sc (F9 hr 0 4 (by decide) rfl (bT rfl (qv (ng hr 0 4 (by decide) (by decide) rfl)) (qv vi)))
  (sc (a_ (i:=1) Hn.nd (eV (qv (ng hr 0 4 (by decide) (by decide) rfl)) (qv vi)))
  (s1 (aJ (bT rfl (qv (bT rfl (qv (aK rfl kA hr (ac (vn 0) (ac vi an)))) (qv (aK rfl kA hr (ac (vn 0) (ac (Qi (qn 1) (qv vi)) an)))))) (qv (aK rfl kA hr (ac (vn 0) (ac (vn 1) an))))))))),λB' xs st Q h=>?_⟩)
 obtain⟨rfl,h⟩:=h;change (_:US) (dN false Q) ⟨B',[some (.val (.raw (.ref st.d))),none],some st⟩;obtain⟨W,h⟩:=h;obtain⟨d,a,n,D⟩:=st;have W':dw D:=W;w_on;refine⟨_,rfl,W',λz1 l1 s1=>?_⟩;w_on;refine⟨by decide,_,rfl,W',λz2 l2 s2=>?_⟩;w_on;refine⟨by omega,_,rfl,W',λz3 l3 s3=>?_⟩;w_on;refine⟨by rw[nG];omega,?_⟩;exact h _ _ ⟨by rw[nG,nG];omega,tV (tV s1 s2) s3⟩ ⟨n,D.nm+1,D.pt,ar _,rfl⟩
theorem Ho:bx ["_law_here","_law_row","_law_both_here"] ["_law_here","_law_row"] (aX wK):=by walk_at "s"
theorem V5 {k:Nat}(D:Df K mg "_law_merged" wK)(B:Bt mg):Kn P w K mg base (k+1) "_law_merged" (aY K false (cD tW)):=by
 refine D.dO Ho (λ_ _ _ _ _ _=>fg λ_ _=>rfl) (λ_ _=>cD.len) (by decide) (λf aE A outer s H E hr=>⟨_,(sc (eR (i:=2) Ho.nd (Uk rfl rfl B.dict (qn 0)))
  (sc (eS (Ul rfl 2 (vn 1)))
  (s1 (aJ (vn 2))))),λB' xs r h=>?_⟩)
 obtain⟨x0,x1,rfl,h⟩:=h;change (_:US) (cW false r) ⟨B',[some (.val x0),some (.val x1),none],none⟩;obtain⟨k1,k2,rfl,rfl,hl,rfl⟩:=h;w_on;intro p;exact⟨k2,rfl,by omega,rfl⟩
end
noncomputable def Kd (k:Str):Prop:=k="number"\/k="text"
theorem Kd.sh {k:Str}(h:Kd k):Sh k:=by rcases h with rfl|rfl<;>exact Hj _ (by decide +kernel)
noncomputable def DE (kvs:aT):Prop:=∀ kv∈kvs,∃ z k:Str,kv=(.str z,.str k)/\Sh z/\Kd k
noncomputable def DD (n:Nat)(kvs:aT):Prop:=kvs.length<=n/\∀ kv∈kvs,∃ z k:Str,kv=(.str z,.str k)/\(Sh z/\Kd k)/\bZ kvs (.inr z)=some (.str k)
theorem DD.e {n:Nat}{kvs:aT}(h:DD n kvs):DE kvs:=λkv hk=>by
 obtain⟨z,k,e,h1,_⟩:=h.2 kv hk;exact⟨z,k,e,h1⟩
noncomputable def kd (kvs:aT)(z:Str):Str:=match bZ kvs (.inr z) with
 |some (.str k)=>k
 |_=>""
noncomputable def i_ (kvs:aT)(z:Str):Prop:=bZ kvs (.inr z)=some (.str (kd kvs z))/\Sh z/\Kd (kd kvs z)
theorem V6 {n:Nat}{kvs:aT}(h:DD n kvs)(z:Str)(hz:.str z∈kvs.map Prod.fst):i_ kvs z:=by
 obtain⟨kv,hk,e⟩:=mem_map.mp hz;obtain⟨y,k,rfl,⟨h1,h2⟩,h3⟩:=h.2 kv hk;obtain rfl:y=z:=by injection e
 unfold i_ kd;rw[h3];exact⟨rfl,h1,h2⟩
theorem lX {n:Nat}{kvs:aT}(h:DD n kvs):∃ zs:aq,kvs.map Prod.fst=zs.map PV.str/\zs.length=kvs.length/\∀ z∈zs,i_ kvs z:=by
 have:∃ zs:aq,kvs.map Prod.fst=zs.map PV.str/\zs.length=kvs.length:=by
  have h2:=h.e;clear h
  induction kvs with
  |nil=>exact⟨[],rfl,rfl⟩
  |cons kv r ih=>
   obtain⟨y,k,rfl,_⟩:=h2 kv mem_cons_self;obtain⟨zs,e1,e2⟩:=ih λkg hk=>h2 kg (mem_cons_of_mem _ hk);exact⟨y::zs,by simp [e1],by simp [e2]⟩
 obtain⟨zs,e1,e2⟩:=this;exact⟨zs,e1,e2,λz hz=>V6 h z (by rw[e1];exact mem_map.mpr ⟨z,hz,rfl⟩)⟩
theorem Hq {kvs:aT}{k:Key}{v:PV}:(dQ kvs k v).length<=kvs.length+1:=by
 unfold dQ
 split
 ·rw[length_map];omega
 ·rw[length_append];exact ar _
theorem DD.put {n:Nat}{kvs:aT}(h:DD n kvs){z k:Str}(hz:Sh z)(hk:Kd k):DD (n+1) (dQ kvs (.inr z) (.str k))/\dQ kvs (.inr z) (.str k)≠[]:=by
 have lk:∀ k':Key,bZ (dQ kvs (.inr z) (.str k)) k'=if (.inr z:Key)=k' then some (.str k) else bZ kvs k':=λk'=>GC k'
 refine⟨⟨aP Hq (Nat.succ_le_succ h.1),λkv hm=>?_⟩,λe=>?_⟩
 ·have gP:=hm;unfold dQ at gP
  split at gP
  ·obtain⟨kg,h1,rfl⟩:=mem_map.mp gP;obtain⟨y,k',rfl,q1,q2⟩:=h.2 kg h1;by_cases e:y=z
   ·subst e;rw[if_pos (show pk (PV.str y)=some (Sum.inr y) from rfl)];exact⟨y,k,rfl,⟨hz,hk⟩,by rw[lk,if_pos rfl]⟩
   ·rw[if_neg (by simp [pk,e])];exact⟨y,k',rfl,q1,by rw[lk,if_neg (by simpa using λq=>e q.symm)];exact q2⟩
  ·rename_i qZ;rcases mem_append.mp gP with q|q
   ·obtain⟨y,k',rfl,q1,q2⟩:=h.2 kv q;have ne:y≠z:=λe=>by rw[e] at q2;rw[q2] at qZ;exact qZ rfl
    exact⟨y,k',rfl,q1,by rw[lk,if_neg (by simpa using λq=>ne q.symm)];exact q2⟩
   ·rw[mem_singleton.mp q];exact⟨z,k,rfl,⟨hz,hk⟩,by rw[lk,if_pos rfl]⟩
 ·have:=lk (.inr z);rw[e,if_pos rfl] at this;cases this
theorem DD.mono {n m:Nat}{kvs:aT}(h:DD n kvs)(l:n<=m):DD m kvs:=⟨aP h.1 l,h.2⟩
theorem DD.Hr:∀{more kvs:aT}{n:Nat},DD n kvs->DE more->DD (n+more.length) (i6 kvs more)/\(kvs≠[]->i6 kvs more≠[])
 |[],kvs,n,h,_=>⟨h,id⟩
 |kv::more,kvs,n,h,g=>by
  obtain⟨z,k,rfl,hz,hk⟩:=g _ mem_cons_self;have p:=h.put hz hk;have q:=DD.Hr (more:=more) p.1 λkg hk=>g kg (mem_cons_of_mem _ hk);refine⟨?_,λ_=>q.2 p.2⟩;have e:n+(more.length+1)=n+1+more.length:=by omega
  show DD (n+(more.length+1)) _;rw[e];exact q.1
theorem DD.merge {m n:Nat}{more kvs:aT}(h:DD n kvs)(g:DD m more):DD (n+more.length) (i6 kvs more)/\(kvs≠[]->i6 kvs more≠[]):=h.Hr g.e
theorem Hs:∀{l:List (Str×Str)}{n:Nat}{kvs:aT},DD n kvs->(∀ p∈l,Sh p.1/\Kd p.2)->DD (n+l.length) ((l.map λp=>((.inr p.1:Key),PV.str p.2)).foldl (λacc kv=>dQ acc kv.1 kv.2) kvs)/\(l≠[]\/kvs≠[]->(l.map λp=>((.inr p.1:Key),PV.str p.2)).foldl (λacc kv=>dQ acc kv.1 kv.2) kvs≠[])
 |[],n,kvs,h,_=>⟨h,λq=>q.elim (λe=>absurd rfl e) id⟩
 |p::l,n,kvs,h,g=>by
  have q:=h.put (g p (by simp)).1 (g p (by simp)).2;have r:=Hs (l:=l) q.1 λp' hp=>g p' (by simp [hp]);refine⟨?_,λ_=>r.2 (.inr q.2)⟩;have e:n+(l.length+1)=n+1+l.length:=by omega
  show DD (n+(l.length+1)) _;rw[e];exact r.1
theorem zd:∀ l:List (Str×Str),lR (l.map λp=>PV.tup [.str p.1,.str p.2])=some (l.map λp=>((.inr p.1:Key),PV.str p.2))
 |[]=>rfl
 |p::l=>by
  have:=zd l;simp only[map_cons,lR,this,pk]
theorem Ht {l:List (Str×Str)}(h:∀ p∈l,Sh p.1/\Kd p.2):DD l.length (dictOf (l.map λp=>((.inr p.1:Key),PV.str p.2)))/\(l≠[]->dictOf (l.map λp=>((.inr p.1:Key),PV.str p.2))≠[]):=by
 have:=Hs (l:=l) (n:=0) (kvs:=[]) ⟨ar _,λ_ h=>by cases h⟩ h;rw[Nat.zero_add] at this;exact⟨this.1,λe=>this.2 (.inl e)⟩
structure ze where
 n:Str
 k:Str
structure Tab where
 n:Str
 cs:List ze
noncomputable def pC (c:ze):PV:=.tup [.str c.n,.str c.k,.bl true]
noncomputable def pT (t:Tab):PV:=.tup [.str t.n,.tup (t.cs.map pC),.tup []]
structure Hu (t:Tab):Prop where
 n:W4 t.n
 ne:t.cs≠[]
 aF:t.cs.length<=3
 cs:∀ c∈t.cs,W4 c.n/\Kd c.k
noncomputable def lY (x:PV):Prop:=∃(ts:List Tab)(y:PV),x=.tup [.tup (ts.map pT),y]/\ts≠[]/\ts.length<=3/\∀ t∈ts,Hu t
structure gQ (d b:Nat)(a:Ak):Prop where
 w:wA a
 t:Tm d b (qA a)
structure kB (d b:Nat)(c:Cd):Prop where
 w:wC c
 t:Tm d b (qC c)
theorem gQ.mono {d b e f:Nat}{a:Ak}(h:gQ d b a)(l:d<=e)(k:b<=f):gQ e f a:=⟨h.w,h.t.mono l k⟩
theorem kB.mono {d b e f:Nat}{a:Cd}(h:kB d b a)(l:d<=e)(k:b<=f):kB e f a:=⟨h.w,h.t.mono l k⟩
theorem cE (z:Str)(h:(decide (z.length<=20)&&z.cps.toList.all λc=>decide (c<200))=true:=by decide +kernel):Sh z:=Hj z h
theorem zf {n w:Str}(h:Sh n)(g:Sh w):gQ 1 70 (.tab n w):=⟨trivial,(gO (dD (ef (cE _)) (dD (ef h) (dD (ef g) i8)))).mono (ar _) (by decide:20+1+(20+1+(20+1+0))<=70)⟩
noncomputable def oJ (x:PV)(st:ag)(Q:PV->ag->Prop):Prop:=lY x/\dw st.b/\st.n<=90000/\∀(u v:Str)(kvs:aT)(st':ag),Sh u->Sh v->DD 3 kvs->kvs≠[]->Nz st 1 st'->Q (.tup [qA (.tab u v),.ah kvs,.int 4]) st'
section
variable {P:Program}{w:World}{K:Frag}{mg:a0}{base:Heap}
theorem pU:bx ["_law_state","_law_frame","_law_name","_law_fields","_law_keys_here","_law_word_here"] ["_law_state","_law_frame"] (aX wU):=by walk_at "s"
theorem V7 {k:Nat}(D:Df K mg "_law_part" wU)(B:Bt mg)(iD:Kn P w K mg base k "_law_new" (spS K false (gL pR)))(aZ:Kn P w K mg base k "_law_take" (spS K false (bQ eN))):Kn P w K mg base (k+1) "_law_part" (spS K false (bQ oJ)):=by
 refine D.eL pU (λ_ _ _ _ _ _=>fg λ_ _=>rfl) (λ_ _ _=>bQ.len) (by decide) (λf aE A outer s H E hr=>⟨_,(sc (eW (ax rfl hr (qv (ax rfl hr (qn 1) (qv vi))) (qv (aK rfl aZ hr (ac (vn 0) (ac (fH rfl B.len (qv (ax rfl hr (qn 1) (qv vi)))) an))))) (dX (n:=3) rfl rfl (bp (aQ (i:=2) pU.nd) (bp (aQ (i:=3) pU.nd) (bp (aQ (i:=4) pU.nd) dW)))))
  (sc (F9 hr 0 5 (by decide) rfl (bT rfl (qv (ng hr 0 5 (by decide) (by decide) rfl)) (qv vi)))
  (sc (a_ (i:=5) pU.nd (aK rfl iD hr (ac (vn 0) an)))
  (s1 (aJ (et (ac (et (ac vs (ac (vn 2) (ac (vn 5) an)))) (ac (vf (Gj rfl rfl B.dict (qf (lH (N:=["_law_field","_law_word_here"]) (k:=1) (ix:=[5]) cS rfl (jy rfl 3) (λ_ _ _ _=>(aQ (i:=0) (by show(["_law_field","_law_word_here"]:aq).Nodup;decide +kernel))) (λ_ _ _ _=>kn) (λ_ _ _ _=>(et (ac (bT rfl (qv (bT rfl (qn 1) (qv vs))) (qv (ax rfl hr (qn 0) (qv vi)))) (ac (ax rfl hr (qn 0) (qv vi)) an)))))))) (ac vi an))))))))),λB' xs st Q h=>?_⟩)
 obtain⟨x1,rfl,h⟩:=h;change (_:US) (dN false Q) ⟨B',[some (.val (.raw (.ref st.d))),some (.val x1),none,none,none,none],some st⟩;obtain⟨⟨ts,y,rfl,ne,aF,hT⟩,W,hn,h⟩:=h;obtain⟨d,a,n,D⟩:=st;have W':dw D:=W;have fz:n<=90000:=hn;clear hn;have n0:0<ts.length:=length_pos_iff.mpr ne;have lm:(ts.map pT).length=ts.length:=length_map ..;w_on;refine draw (by omega) (by omega) (Int.lt_of_le_of_lt (b:=900) (by omega) (by decide)) λq q0 q1=>?_;have hq:q.toNat<ts.length:=by omega
 have ho:ts[q.toNat]∈ts:=getElem_mem hq;have eo:cz (ts.map pT) q=some (pT ts[q.toNat]):=i5 q0 (by rw[getElem?_map,cg hq];rfl);generalize ts[q.toNat]=t at ho eo;have T:=hT t ho;w_on;refine aj _ eo ?_;simp only[pT];w_on;refine⟨W',λz st' hz fX=>?_⟩;obtain⟨m,nm,pt,hm,rfl⟩:=fX;have gP:m<=n+1+0:=hm;clear hm;simp only[ag.d,ag.a,ag.b];have zg:(".":Str).length=1:=by decide +kernel
 have z4:=hz.1;have t3:=T.aF;w_on;refine nk t.cs pC (λc=>.tup [.str (z++"."++c.n),.str c.k]) (by omega) ?_ ?_
 ·intro B x hx R hR;have sx:=(T.cs x hx).1.1;simp only[pC];w_on;refine⟨by rw[zg];omega,by rw[nG,zg];omega,hR _ ⟨rfl,rfl⟩ rfl⟩
 have hd:=Ht (l:=t.cs.map λc=>(z++"."++c.n,c.k)) λp hp=>by
  obtain⟨c,hc,rfl⟩:=mem_map.mp hp;obtain⟨c1,c2⟩:=T.cs c hc;have:=c1.1;exact⟨⟨by show(z++"."++c.n).length<=20;rw[nG,nG,zg];omega,tV (tV hz.2 (by decide +kernel)) c1.2⟩,c2⟩
 have kv:=zd (t.cs.map λc=>(z++"."++c.n,c.k));simp only[map_map,Function.comp_def,length_map] at kv hd;w_on;refine aj _ ⟨_,kv,by rw[length_map];omega,rfl⟩ ?_;w_on;exact h _ _ _ _ T.n.sh hz.sh (hd.1.mono t3) (hd.2 λe=>T.ne (map_eq_nil_iff.mp e)) ⟨m,nm,pt,(by show m<=n+1;omega),rfl⟩
end
theorem eh {l:ai}{r:Int}{Q:PV->AS->Prop}{A:AS}(r0:0<=r)(r1:r<(l.length:Int))(h:∀ z∈l,Q z A):b0 (λz=>cz l r=some z) Q A:=by
 have hr:r.toNat<l.length:=by omega
 exact aj l[r.toNat] (i5 r0 (cg hr)) (h _ (getElem_mem hr))
theorem ne_nil (zs:aq):fQ true (.lst (zs.map PV.str)) (.lst []) (.bl (!zs.isEmpty)):=by
 refine⟨⟨1,by decide,iy λx hx=>by obtain⟨n,_,rfl⟩:=mem_map.mp hx;exact jE _ _,iy λx hx=>by cases hx⟩,?_⟩;cases zs<;>rfl
theorem V8 {α:Type}(l:List α)(f:α->Str):jD (l.map λc=>PV.str (f c))=some (l.map f):=by
 have:=Gs (l.map f);rw[map_map] at this;exact this
theorem lZ {c:Bool}{P Q:cv}{A:AS}(q:Q A)(p:c=true->Q A->P A):d_ c P Q A:=bM (λe=>p e q) λ_=>q
theorem gR {d b:Nat}{t:Str}{x:PV}(ht:Sh t)(h:Tm d b x):Tm (d+1) (22+b) (.tup [.str t,x]):=(gO (dD (ef ht) (dD h i8))).mono (ar _) (Nat.le_of_eq (by omega:20+1+(b+1+0)=22+b))
theorem gS {d b c:Nat}{t:Str}{x y:PV}(ht:Sh t)(h:Tm d b x)(g:Tm d c y):Tm (d+1) (23+b+c) (.tup [.str t,x,y]):=(gO (dD (ef ht) (dD h (dD g i8)))).mono (ar _) (Nat.le_of_eq (by omega:20+1+(b+1+(c+1+0))=23+b+c))
noncomputable def zh (x:PV)(st:ag)(Q:PV->ag->Prop):Prop:=∃ kvs,x=.ah kvs/\DD 30 kvs/\st.n<=90000/\∀(k:Str)(st':ag),Kd k->Nx st 1 st'->Q (.str k) st'
noncomputable def nS:Nat->Nat
 |0=>4
 |m+1=>4+2*nS m
noncomputable def bS:Nat->Nat
 |0=>50
 |m+1=>25+2*bS m
noncomputable def V9:Nat->PV->PV->PV->ag->(PV->ag->Prop)->Prop
 |0,_,_,_,_,_=>False
 |m+1,x,y,z,st,Q=>∃(kvs:aT)(k:Str),x=.ah kvs/\y=.str k/\z=.int (m:Nat)/\DD 30 kvs/\Kd k/\st.n+nS m<=90000/\∀(s:PV)(st':ag),Tm (m+1) (bS m) s->Nx st (nS m) st'->Q s st'
noncomputable def nH (m:Nat)(x y z:PV)(st:ag)(Q:PV->ag->Prop):Prop:=∃ j,j<=m/\V9 j x y z st Q
section
variable {P:Program}{w:World}{K:Frag}{mg:a0}{base:Heap}
theorem Hv:bx ["_law_state","_law_cols","_law_kinds"] ["_law_state","_law_cols"] (aX wO):=by walk_at "s"
theorem V_ {k:Nat}(D:Df K mg "_law_kind" wO)(B:Bt mg)(aZ:Kn P w K mg base k "_law_take" (spS K false (bQ eN))):Kn P w K mg base (k+1) "_law_kind" (spS K false (bQ zh)):=by
 refine D.eL Hv (λ_ _ _ _ _ _=>fg λ_ _=>rfl) (λ_ _ _=>bQ.len) (by decide) (λf aE A outer s H E hr=>⟨_,(sc (a_ (i:=2) Hv.nd (vf (mW (qf (Rk rfl rfl B.sorted B.set (qf (lH (N:=["_law_name","_law_cols"]) (k:=1) (ix:=[1]) cS rfl (jy rfl 1) (λ_ _ _ _=>(aQ (i:=0) (by show(["_law_name","_law_cols"]:aq).Nodup;decide +kernel))) (λ_ _ _ _=>kn) (λ_ _ _ _=>(ax rfl hr (qn 1) (qn 0))))))) (qf (el (ac vs an))))))
  (s1 (aJ (ax rfl hr (qn 2) (qv (aK rfl aZ hr (ac (vn 0) (ac (fH rfl B.len (qn 2)) an)))))))),λB' xs st Q h=>?_⟩)
 obtain⟨x1,rfl,h⟩:=h;change (_:US) (dN false Q) ⟨B',[some (.val (.raw (.ref st.d))),some (.val x1),none],some st⟩;obtain⟨kvs,rfl,ok,hn,h⟩:=h;obtain⟨d,a,n,D⟩:=st;have fz:n<=90000:=hn;clear hn;obtain⟨zs,ek,el,hz⟩:=lX ok;have l3:=ok.1;w_on;rw[ek];refine nk zs (λc=>.str c) (λc=>.str (kd kvs c)) (by omega) ?_ ?_
 ·intro B x hx R hR;w_on;refine aj _ (hz x hx).1 ?_;w_on;exact hR _ ⟨rfl,rfl⟩ rfl
 w_on;have dl:=Ed (zs.map (kd kvs));rw[length_map] at dl;refine aj _ ⟨zs.map (kd kvs),V8 zs (kd kvs),by omega,by rw[length_map];omega,rfl⟩ ?_
 have sl:(b_ (c_ (zs.map (kd kvs)))).length<=30:=by
  rw[(d9 _).length_eq];omega
 have sa:∀ y∈b_ (c_ (zs.map (kd kvs))),Kd y:=λy hy=>by
  have h1:=(d9 _).mem_iff.mp hy;have h2:y∈zs.map (kd kvs):=OA.mp h1;obtain⟨z,kD,rfl⟩:=mem_map.mp h2;exact(hz z kD).2.2
 generalize b_ (c_ (zs.map (kd kvs)))=ys at sl sa;w_on;have ll:(ys.map PV.str++[PV.str "number"]).length=ys.length+1:=by rw[length_append,length_map];rfl
 refine⟨by rw[length_map];omega,draw (by omega) (by omega) (Int.lt_of_le_of_lt (b:=900) (by omega) (by decide)) λu u0 u1=>?_⟩;w_on;refine eh u0 u1 λx hx=>?_;w_on;rcases mem_append.mp hx with z|z
 ·obtain⟨y,hy,rfl⟩:=mem_map.mp z;exact h y ⟨d,a,n+1,D⟩ (sa y hy) ⟨n+1,ar _,rfl⟩
 ·rw[mem_singleton.mp z];exact h "number" ⟨d,a,n+1,D⟩ (.inl rfl) ⟨n+1,ar _,rfl⟩
variable {m₀:Nat}
theorem pV:bx ["_law_state","_law_cols","_law_kind_here","_law_deep","_law_names","_law_way_here","_law_word_here"] ["_law_state","_law_cols","_law_kind_here","_law_deep"] (aX wN):=by walk_at "s"
theorem V' {k:Nat}(D:Df K mg "_law_sum" wN)(B:Bt mg)(aZ:Kn P w K mg base k "_law_take" (spS K false (bQ eN)))(fI:Kn P w K mg base k "_law_sum" (spS K false (c3 (nH m₀)))):Kn P w K mg base (k+1) "_law_sum" (spS K false (c3 (nH (m₀+1)))):=by
 refine D.eL pV (λ_ _ _ _ _ _=>j7 λ_ _ _ _=>rfl) (λ_ _ _=>c3.len) (by decide) (λf aE A outer s H E hr=>⟨_,(sc (a_ (i:=4) pV.nd (vf (Rp rfl B.sorted (qf (lH (N:=["_law_name","_law_kind_here","_law_cols"]) (k:=1) (ix:=[2,1]) cS rfl (jy rfl 1) (λ_ _ _ _=>(aQ (i:=0) (by show(["_law_name","_law_kind_here","_law_cols"]:aq).Nodup;decide +kernel))) (λ_ _ _ _=>(sv (bW rfl hr (qv (ax rfl hr (qn 2) (qn 0))) (qn 1)))) (λ_ _ _ _=>(vn 0)))))))
  (sc (a_ (i:=5) pV.nd (aK rfl aZ hr (ac (vn 0) (ac vi an))))
  (sc (bg (PW.pt (iq (bW rfl hr (qn 5) (qv vi)) (iq (bW rfl hr (qn 2) (qv vs)) (jv (lL (qn 3) (qv vi)))))) (sc (a_ (i:=6) pV.nd (ax rfl hr (qf (el (ac vs (ac vs (ac vs an))))) (qv (aK rfl aZ hr (ac (vn 0) (ac vi an))))))
  (s1 (aJ (et (ac (vn 6) (ac (aK rfl fI hr (ac (vn 0) (ac (vn 1) (ac (vn 2) (ac (eV (qn 3) (qv vi)) an))))) (ac (aK rfl fI hr (ac (vn 0) (ac (vn 1) (ac (vn 2) (ac (eV (qn 3) (qv vi)) an))))) an))))))) sn)
  (sc (bg (PW.pt (iq (gf rfl hr (qn 4) (qf (el an))) (jv (m8 (qn 5) (qv vi))))) (s1 (aJ (et (ac vs (ac (ax rfl hr (qn 4) (qv (aK rfl aZ hr (ac (vn 0) (ac (fH rfl B.len (qn 4)) an))))) an))))) sn)
  (sc (bg (bW rfl hr (qn 5) (qv vi)) (s1 (aJ (et (ac vs (ac (vn 2) an))))) sn)
  (sc (bg (bW rfl hr (qn 2) (qv vs)) (s1 (aJ (et (ac vs (ac (ax rfl hr (qf (el (ac vs (ac vs (ac vs an))))) (qv (aK rfl aZ hr (ac (vn 0) (ac vi an))))) an))))) sn)
  (s1 (aJ (et (ac vs (ac (ax rfl hr (qf (el (ac vi (ac vi (ac vi (ac (lQ vi) an)))))) (qv (aK rfl aZ hr (ac (vn 0) (ac vi an))))) an))))))))))),λB' xs st Q h=>?_⟩)
 obtain⟨x1,x2,x3,rfl,h⟩:=h;change (_:US) (dN false Q) ⟨B',[some (.val (.raw (.ref st.d))),some (.val x1),some (.val x2),some (.val x3),none,none,none],some st⟩;obtain⟨j,hj,h⟩:=h
 obtain⟨m,rfl⟩:∃ m,j=m+1:=by
  cases j with
  |zero=>exact h.elim
  |succ m=>exact⟨m,rfl⟩
 obtain⟨kvs,k,rfl,rfl,rfl,ok,hk,hn,h⟩:=h;obtain⟨d,a,n,D⟩:=st;have fz:n+nS m<=90000:=hn;clear hn;have n4:4<=nS m:=by cases m<;>simp only[nS]<;>omega
 have b5:50<=bS m:=by
  clear hj h fz n4
  induction m with
  |zero=>exact ar _
  |succ m ih=>simp only[bS];omega
 have tX:∀(t:Str)(x:PV)(m':Nat),Sh t->Tm 0 20 x->m'<=n+nS m->Q (.tup [.str t,x]) ⟨d,a,m',D⟩:=λt x m' ht hx hm=>h _ ⟨d,a,m',D⟩ ((gR ht hx).mono (by omega) (by omega)) ⟨m',hm,rfl⟩;obtain⟨zs,ek,el,hz⟩:=lX ok;have l3:=ok.1;w_on;rw[ek];refine yQ zs (λc=>.str c) (λc=>.str c) (λc=>kd kvs c==k) (by omega) ?_ ?_
 ·intro B x hx Rs Rn hs hn;w_on;refine aj _ (hz x hx).1 ?_;w_on;refine bM (λe=>?_) λe=>?_
  ·w_on;exact hs _ e ⟨rfl,rfl⟩ rfl
  ·exact hn _ e ⟨rfl,rfl⟩ rfl
 w_on;have fl:(zs.filter λc=>kd kvs c==k).length<=30:=by have:=length_filter_le (λc=>kd kvs c==k) zs;omega
 refine aj _ ⟨_,Gs (zs.filter λc=>kd kvs c==k),by omega,rfl⟩ ?_;have all:∀ z∈b_ (zs.filter λc=>kd kvs c==k),i_ kvs z:=λz eA=>hz z (mem_filter.mp ((d9 _).mem_iff.mp eA)).1;have sl:(b_ (zs.filter λc=>kd kvs c==k)).length<=30:=by rw[(d9 _).length_eq];exact fl
 generalize b_ (zs.filter λc=>kd kvs c==k)=ys at all sl;w_on;refine draw (by omega) (by decide) (by decide) λu u0 u1=>?_;w_on;refine lZ ?_ λe tl=>?_
 ·w_on;refine aj (!ys.isEmpty) (ne_nil ys) ?_;refine lZ ?_ λe3 tl=>?_
  ·w_on;refine bM (λe=>?_) λe=>?_
   ·w_on;exact tX _ _ _ (cE _) (ef hk.sh) (by omega)
   ·w_on;refine bM (λe=>?_) λe=>?_
    ·w_on;refine draw (by omega) (by decide) (by decide) λv v0 v1=>?_;w_on;refine eh v0 (by simpa using v1) λx hx=>?_;w_on;simp only[mem_cons,not_mem_nil,or_false] at hx;rcases hx with rfl|rfl|rfl<;>exact tX _ _ _ (cE _) (ef (cE _)) (by omega)
    ·w_on;refine draw (by omega) (by decide) (by decide) λv v0 v1=>?_;w_on;refine eh v0 (by simpa using v1) λx hx=>?_;w_on;simp only[mem_cons,not_mem_nil,or_false] at hx;rcases hx with rfl|rfl|rfl|rfl<;>exact tX _ _ _ (cE _) (Hk (by decide) (by decide)) (by omega)
  ·w_on;refine bM (λe4=>?_) λ_=>tl
   have z0:0<ys.length:=by
    cases ys with
    |nil=>simp at e3
    |cons b l=>simp
   have zl:(ys.map PV.str).length=ys.length:=length_map ..;w_on;refine draw (by omega) (by omega) (Int.lt_of_le_of_lt (b:=900) (by omega) (by decide)) λv v0 v1=>?_;w_on;refine eh v0 v1 λx hx=>?_;obtain⟨z,hz,rfl⟩:=mem_map.mp hx;w_on;exact tX _ _ _ (cE _) (ef (all z hz).2.1) (by omega)
 ·w_on;refine bM (λe1=>?_) λ_=>tl;w_on;refine bM (λe2=>?_) λ_=>tl;obtain⟨m',rfl⟩:∃ m',m=m'+1:=⟨m-1,by have:=of_decide_eq_true e2;omega⟩;have B5:n+(4+2*nS m')<=90000:=fz;have e5:((m'+1:Nat):Int)-1=(m':Nat):=by omega
  clear tl;w_on;refine draw (by omega) (by decide) (by decide) λv v0 v1=>?_;w_on;refine eh v0 (by simpa using v1) λx hx=>?_
  have wx:∃ t:Str,x=.str t/\Sh t:=by
   simp only[mem_cons,not_mem_nil,or_false] at hx;rcases hx with rfl|rfl|rfl<;>exact⟨_,rfl,cE _⟩
  obtain⟨t,rfl,ht⟩:=wx;w_on;rw[e5];refine⟨m'+1,by omega,kvs,k,rfl,rfl,rfl,ok,hk,(by show n+1+1+nS m'<=90000;omega),λs1 fq iE cf=>?_⟩;obtain⟨m1,bu,rfl⟩:=cf;have ft:m1<=n+1+1+nS m':=bu;clear bu;w_on;rw[e5];refine⟨m'+1,by omega,kvs,k,rfl,rfl,rfl,ok,hk,(by show m1+nS m'<=90000;omega),λs2 cX hs2 cK=>?_⟩;obtain⟨m2,bc,rfl⟩:=cK;have fT:m2<=m1+nS m':=bc;clear bc;w_on;exact h _ ⟨d,a,m2,D⟩ ((gS ht iE hs2).mono (ar _) (by show 23+bS m'+bS m'<=25+2*bS m';omega)) ⟨m2,(by show m2<=n+(4+2*nS m');omega),rfl⟩
end
noncomputable def lC:Nat->Nat|0=>1|1=>2|_=>6
noncomputable def lA:Nat->Nat|0=>1|d+1=>2*d+5
noncomputable def gC:Nat->Nat|0=>40|1=>90|_=>300
noncomputable def gA:Nat->Nat|0=>5|1=>200|2=>600|_=>1200
noncomputable def bC:Nat->Nat|0=>280|1=>600|_=>1750
noncomputable def bA:Nat->Nat|0=>70|1=>1100|2=>4000|_=>9000
noncomputable def dC:Nat->Nat|0=>3|1=>4|_=>7
noncomputable def dA:Nat->Nat|0=>1|1=>6|2=>8|_=>10
noncomputable def cA:Nat->Nat|0=>3|1=>6|2=>12|_=>24
noncomputable def kC:Nat->Nat|0=>24|1=>18|_=>12
noncomputable def zA:Nat->Nat|0=>100|1=>200|2=>400|_=>800
noncomputable def l5 (m:Nat)(x y z:PV)(st:ag)(Q:PV->ag->Prop):Prop:=∃(deep:Nat)(kvs:aT),deep<=2/\lC deep<=m/\lY x/\y=.ah kvs/\z=.int deep/\DD (kC deep) kvs/\dw st.b/\st.n+gC deep<=80000/\∀(c:Cd)(st':ag),kB (dC deep) (bC deep) c->Nz st (gC deep) st'->Q (qC c) st'
noncomputable def Wa (deep:Nat)(st:ag)(Q:PV->ag->Prop):Prop:=∀(a:Ak)(kvs:aT)(s:Int)(st':ag),gQ (dA deep) (bA deep) a->DD (cA deep) kvs->kvs≠[]->0<=s->s<=zA deep->Nz st (gA deep) st'->Q (.tup [qA a,.ah kvs,.int s]) st'
noncomputable def jI (m:Nat)(x y:PV)(st:ag)(Q:PV->ag->Prop):Prop:=∃ deep:Nat,deep<=3/\lA deep<=m/\lY x/\y=.int deep/\dw st.b/\st.n+gA deep<=80000/\Wa deep st Q
section
variable {P:Program}{w:World}{K:Frag}{mg:a0}{base:Heap}
variable {m₀:Nat}
theorem kE:bx ["_law_state","_law_frame","_law_cols","_law_deep","_law_way_here","_law_ask_here","_law_more","_law_size","_law_one","_law_kind_here"] ["_law_state","_law_frame","_law_cols","_law_deep"] (aX wQ):=by walk_at "s"
theorem Wb {k:Nat}(D:Df K mg "_law_cond" wQ)(B:Bt mg)(aZ:Kn P w K mg base k "_law_take" (spS K false (bQ eN)))(pW:Kn P w K mg base k "_law_kind" (spS K false (bQ zh)))(di:Kn P w K mg base k "_law_ask" (spS K false (c0 (jI m₀))))(fJ:Kn P w K mg base k "_law_cond" (spS K false (c3 (l5 m₀))))(fI:Kn P w K mg base k "_law_sum" (spS K false (c3 (nH 3))))(kF:Kn P w K mg base k "_law_merged" (aY K false (cD tW))):Kn P w K mg base (k+1) "_law_cond" (spS K false (c3 (l5 (m₀+1)))):=by
 refine D.eL kE (λ_ _ _ _ _ _=>j7 λ_ _ _ _=>rfl) (λ_ _ _=>c3.len) (by decide) (λf aE A outer s H E hr=>⟨_,(sc (a_ (i:=4) kE.nd (aK rfl aZ hr (ac (vn 0) (ac vi an))))
  (sc (bg (PW.pt (iq (lL (qn 3) (qv vi)) (iq (bW rfl hr (qn 4) (qv vi)) (jv (m8 (qv (ng hr 0 5 (by decide) (by decide) rfl)) (qv vi)))))) (sc (eW (aK rfl di hr (ac (vn 0) (ac (vn 1) (ac (tK rfl B.min (qv vi) (qv (eV (qn 3) (qv vi)))) an)))) (dX (n:=3) rfl rfl (bp (aQ (i:=5) kE.nd) (bp (aQ (i:=6) kE.nd) (bp (aQ (i:=7) kE.nd) dW)))))
  (s1 (aJ (et (ac vs (ac (vn 5) (ac (aK rfl fJ hr (ac (vn 0) (ac (vn 1) (ac (bI rfl kF hr (ac (vn 2) (ac (vn 6) an))) (ac (eV (qn 3) (qv vi)) an))))) an))))))) sn)
  (sc (bg (PW.pt (iq (lL (qn 3) (qv vi)) (jv (bW rfl hr (qn 4) (qv vi))))) (s1 (aJ (et (ac vs (ac (aK rfl fJ hr (ac (vn 0) (ac (vn 1) (ac (vn 2) (ac (eV (qn 3) (qv vi)) an))))) an))))) sn)
  (sc (bg (PW.pt (iq (lL (qn 3) (qv vi)) (jv (lL (qn 4) (qv vi))))) (sc (a_ (i:=8) kE.nd (aK rfl fJ hr (ac (vn 0) (ac (vn 1) (ac (vn 2) (ac (eV (qn 3) (qv vi)) an))))))
  (s1 (aJ (et (ac (ax rfl hr (qf (el (ac vs (ac vs an)))) (qv (yc (qn 4) (qv vi)))) (ac (vn 8) (ac (aK rfl fJ hr (ac (vn 0) (ac (vn 1) (ac (vn 2) (ac (eV (qn 3) (qv vi)) an))))) an))))))) sn)
  (sc (bg (bW rfl hr (qn 4) (qv vi)) (s1 (aJ (et (ac vs an)))) sn)
  (sc (a_ (i:=9) kE.nd (aK rfl pW hr (ac (vn 0) (ac (vn 2) an))))
  (sc (bg (bW rfl hr (qn 4) (qv vi)) (s1 (aJ (et (ac vs (ac (aK rfl fI hr (ac (vn 0) (ac (vn 2) (ac (vn 9) (ac vi an))))) an))))) sn)
  (s1 (aJ (et (ac (ax rfl hr (qf (el (ac vs (ac vs (ac vs an))))) (qv (yc (qn 4) (qv vi)))) (ac (aK rfl fI hr (ac (vn 0) (ac (vn 2) (ac (vn 9) (ac vi an))))) (ac (aK rfl fI hr (ac (vn 0) (ac (vn 2) (ac (vn 9) (ac vi an))))) an))))))))))))),λB' xs st Q h=>?_⟩)
 obtain⟨x1,x2,x3,rfl,h⟩:=h;change (_:US) (dN false Q) ⟨B',[some (.val (.raw (.ref st.d))),some (.val x1),some (.val x2),some (.val x3),none,none,none,none,none,none],some st⟩;obtain⟨deep,kvs,d2,hl,F,rfl,rfl,ok,W,hn,h⟩:=h;obtain⟨d,a,n,D⟩:=st;have W':dw D:=W;have Z3:n+gC deep<=80000:=hn;clear hn;have hd:deep=0\/deep=1\/deep=2:=by omega
 have Z4:40<=gC deep:=by rcases hd with rfl|rfl|rfl<;>decide
 have Wc:280<=bC deep:=by rcases hd with rfl|rfl|rfl<;>decide
 have d3:3<=dC deep:=by rcases hd with rfl|rfl|rfl<;>decide
 have kH:DD 30 kvs:=ok.mono (by rcases hd with rfl|rfl|rfl<;>decide);have Hw:nS 1=12:=rfl;have e9:bS 1=125:=rfl;w_on;refine draw (by omega) (by decide) (by decide) λu u0 u1=>?_;w_on;have zi:∀(t:Str)(r:ai)(m:Nat),t∈H4->Tm 3 280 (.tup (.str t::r))->m<=n+40->Q (.tup (.str t::r)) ⟨d,a,m,D⟩:=λt r m ht hr hm=>h (.lf t r) ⟨d,a,m,D⟩ ⟨ht,hr.mono d3 Wc⟩ ⟨m,D.nm,D.pt,(by show m<=n+gC deep;omega),rfl⟩;refine lZ ?_ λe tl=>?_
 ·w_on;refine lZ ?_ λe tl=>?_
  ·w_on;refine lZ ?_ λe tl=>?_
   ·w_on;refine bM (λe=>?_) λe=>?_
    ·w_on;exact zi "yes" [] _ (by decide) ((gO (dD (d:=2) (ef (cE _)) i8)).mono (by decide) (by decide:20+1+0<=280)) (by omega)
    w_on;refine⟨kvs,rfl,kH,(by show n+1<=90000;omega),λk fq hk cf=>?_⟩;obtain⟨m1,bu,rfl⟩:=cf;have ft:m1<=n+1+1:=bu;clear bu;w_on;refine bM (λe=>?_) λe=>?_
    ·w_on;refine⟨2,by decide,kvs,k,rfl,rfl,rfl,kH,hk,(by show m1+nS 1<=90000;omega),λs1 cX iE cK=>?_⟩;obtain⟨m2,bc,rfl⟩:=cK;have fT:m2<=m1+nS 1:=bc;clear bc;w_on;exact zi "isnothing" [s1] m2 (by decide) ((gR (cE _) iE).mono (by decide) (by rw[e9];decide)) (by omega)
    ·have m0:0<=u % 3:=Int.emod_nonneg _ (by decide);have m3:u % 3<3:=Int.emod_lt_of_pos _ (by decide);w_on;refine eh m0 (by simpa using m3) λx hx=>?_
     have wx:∃ t:Str,x=.str t/\t∈H4/\Sh t:=by
      simp only[mem_cons,not_mem_nil,or_false] at hx;rcases hx with rfl|rfl|rfl<;>exact⟨_,rfl,by decide,cE _⟩
     obtain⟨t,rfl,t1,t2⟩:=wx;w_on;refine⟨2,by decide,kvs,k,rfl,rfl,rfl,kH,hk,(by show m1+nS 1<=90000;omega),λs1 cX iE cK=>?_⟩;obtain⟨m2,bc,rfl⟩:=cK;have fT:m2<=m1+nS 1:=bc;clear bc;w_on;refine⟨2,by decide,kvs,k,rfl,rfl,rfl,kH,hk,(by show m2+nS 1<=90000;omega),λs2 gw hs2 gi=>?_⟩;obtain⟨m3,dE,rfl⟩:=gi;have nI:m3<=m2+nS 1:=dE;clear dE;w_on;exact zi t [s1,s2] m3 t1 ((gS t2 iE hs2).mono (by decide) (by rw[e9];decide)) (by omega)
   ·w_on;refine bM (λe2=>?_) λ_=>tl;clear tl;obtain⟨dp,rfl,dU⟩:∃ dp,deep=dp+1/\(dp=0\/dp=1):=⟨deep-1,by have:=of_decide_eq_true e;omega,by omega⟩;have e5:((dp+1:Nat):Int)-1=(dp:Nat):=by omega
    have q1:lC dp+1<=lC (dp+1)/\gC dp*2+5<=gC (dp+1)/\23+bC dp+bC dp<=bC (dp+1)/\dC dp+1<=dC (dp+1)/\kC (dp+1)<=kC dp:=by rcases dU with rfl|rfl<;>decide
    obtain⟨q1,q2,q3,q4,q5⟩:=q1;w_on;rw[e5];refine⟨dp,kvs,by omega,by omega,F,rfl,rfl,ok.mono q5,W',(by show n+1+gC dp<=80000;omega),λc1 fq kI cf=>?_⟩;obtain⟨m1,tY,tZ,bu,rfl⟩:=cf;have ft:m1<=n+1+gC dp:=bu;clear bu;simp only[ag.d,ag.a,ag.b];have m0:0<=u % 2:=Int.emod_nonneg _ (by decide);have m3:u % 2<2:=Int.emod_lt_of_pos _ (by decide);w_on;refine eh m0 (by simpa using m3) λx hx=>?_
    have wx:∃ t:Str,x=.str t/\t∈H3/\Sh t:=by
     simp only[mem_cons,not_mem_nil,or_false] at hx;rcases hx with rfl|rfl<;>exact⟨_,rfl,by decide,cE _⟩
    obtain⟨t,rfl,t1,t2⟩:=wx;w_on;rw[e5];refine⟨dp,kvs,by omega,by omega,F,rfl,rfl,ok.mono q5,W',(by show m1+gC dp<=80000;omega),λc2 cX j5 cK=>?_⟩;obtain⟨m2,gU,gW,bc,rfl⟩:=cK;have fT:m2<=m1+gC dp:=bc;clear bc;simp only[ag.d,ag.a,ag.b];w_on;exact h (.bo t c1 c2) _ ⟨⟨t1,kI.w,j5.w⟩,(gS t2 kI.t j5.t).mono q4 q3⟩ ⟨m2,gU,gW,(by show m2<=n+gC (dp+1);omega),rfl⟩
  ·w_on;refine bM (λe2=>?_) λ_=>tl;clear tl;obtain⟨dp,rfl,dU⟩:∃ dp,deep=dp+1/\(dp=0\/dp=1):=⟨deep-1,by have:=of_decide_eq_true e;omega,by omega⟩;have e5:((dp+1:Nat):Int)-1=(dp:Nat):=by omega
   have q1:lC dp+1<=lC (dp+1)/\gC dp*2+5<=gC (dp+1)/\22+bC dp<=bC (dp+1)/\dC dp+1<=dC (dp+1)/\kC (dp+1)<=kC dp:=by rcases dU with rfl|rfl<;>decide
   obtain⟨q1,q2,q3,q4,q5⟩:=q1;w_on;rw[e5];refine⟨dp,kvs,by omega,by omega,F,rfl,rfl,ok.mono q5,W',(by show n+1+gC dp<=80000;omega),λc1 fq kI cf=>?_⟩;obtain⟨m1,tY,tZ,bu,rfl⟩:=cf;have ft:m1<=n+1+gC dp:=bu;clear bu;simp only[ag.d,ag.a,ag.b];w_on;exact h (.nt c1) _ ⟨kI.w,(gR (cE _) kI.t).mono q4 q3⟩ ⟨m1,tY,tZ,(by show m1<=n+gC (dp+1);omega),rfl⟩
 ·w_on;refine bM (λe2=>?_) λ_=>tl;w_on;refine bM (λe3=>?_) λ_=>tl;clear tl;obtain⟨dp,rfl,dU⟩:∃ dp,deep=dp+1/\(dp=0\/dp=1):=⟨deep-1,by have:=of_decide_eq_true e;omega,by omega⟩;have e5:((dp+1:Nat):Int)-1=(dp:Nat):=by omega
  have q1:lC dp+1<=lC (dp+1)/\lA dp+1<=lC (dp+1)/\gA dp+gC dp+5<=gC (dp+1)/\23+bA dp+bC dp<=bC (dp+1)/\(max (dA dp) (dC dp)+1<=dC (dp+1))/\kC (dp+1)+cA dp<=kC dp/\kC dp<=24:=by rcases dU with rfl|rfl<;>decide
  obtain⟨q1,q0,q2,q3,q4,q5,q6⟩:=q1;have e6:(if ((dp:Nat):Int)<1 then ((dp:Nat):Int) else 1)=((dp:Nat):Int):=by rcases dU with rfl|rfl<;>rfl
  w_on;rw[e5,e6];refine⟨dp,by omega,by omega,F,rfl,W',(by show n+1+gA dp<=80000;omega),λa1 k1 s1 fq Hx Hy ne1 _ _ cf=>?_⟩;obtain⟨m1,tY,tZ,bu,rfl⟩:=cf;have ft:m1<=n+1+gA dp:=bu;clear bu;simp only[ag.d,ag.a,ag.b];have mr:=DD.merge ok Hy;have l1:=ok.1;have l2:=Hy.1;w_on;refine aj _ ⟨_,_,rfl,rfl,by omega,rfl⟩ ?_;w_on;rw[e5];refine⟨dp,_,by omega,by omega,F,rfl,rfl,mr.1.mono (by omega),W',(by show m1+gC dp<=80000;omega),λc1 cX kI cK=>?_⟩;obtain⟨m2,gU,gW,bc,rfl⟩:=cK;have fT:m2<=m1+gC dp:=bc;clear bc;simp only[ag.d,ag.a,ag.b];w_on;exact h (.cn a1 c1) _ ⟨⟨Hx.w,kI.w⟩,(gS (cE _) (Hx.t.mono (Nat.le_max_left _ (dC dp)) (ar _)) (kI.t.mono (Nat.le_max_right (dA dp) _) (ar _))).mono q4 q3⟩ ⟨m2,gU,gW,(by show m2<=n+gC (dp+1);omega),rfl⟩
end
theorem dR (z:Str)(l:aq){b:Bool}(h:l.contains z=b):i4 false (.str z) (.tup (l.map PV.str)) (.bl b):=by rw[GB,h,Bool.false_xor]
theorem Hz (c:Cd):1<=hC c:=by cases c<;>simp only[hC]<;>omega
theorem Wd (a:Ak):1<=hA a:=by cases a<;>simp only[hA]<;>omega
noncomputable def t5:Nat->PV->PV->Prop
 |m,x,r=>∃ c:Cd,x=qC c/\wC c/\hC c<=m/\nC c<=100000/\r=.lst ((aR c).map qA)
noncomputable def nJ (x r:PV):Prop:=∃ a:Ak,x=qA a/\wA a/\hA a<=50/\nA a<=100000/\r=.lst ((kids a).map qA)
section
variable {P:Program}{w:World}{K:Frag}{mg:a0}{base:Heap}
variable {m₀:Nat}
theorem pX:bx ["_law_cond_here","_law_found","_law_part_here"] ["_law_cond_here"] (aX w9):=by walk_at "s"
theorem We {k:Nat}(D:Df K mg "_law_somes" w9)(B:Bt mg)(l6:Kn P w K mg base k "_law_somes" (aY K false (bX (t5 m₀)))):Kn P w K mg base (k+1) "_law_somes" (aY K false (bX (t5 (m₀+1)))):=by
 refine D.dO pX (λ_ _ _ _ _ _=>gD λ_=>rfl) (λ_ _=>bX.len) (by decide) (λf aE A outer s H E hr=>⟨_,(sc (bg (bW rfl hr (qv (ax rfl hr (qn 0) (qv vi))) (qv vs)) (s1 (aJ (vf (mW (qf (el (ac (ax rfl hr (qn 0) (qv vi)) an))) (qv (bI rfl l6 hr (ac (ax rfl hr (qn 0) (qv vi)) an))))))) sn)
  (sc (a_ (i:=1) pX.nd (vf (el an)))
  (sc (eU PassesOwn.never rfl (iv rfl (jC rfl (qn 0) (gK vi) iZ)) (aQ (i:=2) pX.nd)
  (s1 (bg (ni rfl hr (qv (ax rfl hr (qn 0) (qv vi))) (qv (et (ac vs (ac vs (ac vs an)))))) (s1 (a_ (i:=1) pX.nd (bT rfl (qn 1) (qv (bI rfl l6 hr (ac (vn 2) an)))))) sn)))
  (s1 (aJ (vn 1)))))),λB' xs r h=>?_⟩)
 obtain⟨x0,rfl,h⟩:=h;change (_:US) (cW false r) ⟨B',[some (.val x0),none,none],none⟩;obtain⟨c,rfl,hw,hh,hn,rfl⟩:=h
 cases c with
 |cn a c=>
  simp only[wC,hC,nC] at hw hh hn;simp only[qC,aR];w_on;refine cJ (by decide +kernel) ?_;w_on;refine aj _ ⟨c,rfl,hw.2,by omega,by omega,rfl⟩ ?_;have:=eZ c;w_on;rw[length_map];omega
 |nt c=>
  simp only[wC,hC,nC] at hw hh hn;simp only[qC,aR];w_on;refine bq (by decide +kernel) ?_;w_on;rw[iz (by decide) (by show(1:Int)<=(_+1:Nat);omega)];show fG ([c].map qC) _ _ _ _ _;refine gh [c] qC (λdd A=>∃(xs:List Ak)(o:Option Sl),A=⟨B',[some (.val (PV.tup [PV.str "not",qC c])),some (.val (.lst (xs.map qA))),o],none⟩/\xs=dd.flatMap aR) ⟨[],none,rfl,rfl⟩ (λ_ _ _=>trivial) ?_ ?_
  ·rintro dd x r A2 e ⟨xs,o,rfl,rfl⟩
   have hx:wC x/\hC x<=m₀/\nC x<=100000:=by
    have:x∈[c]:=by rw[e];simp
    simp only[mem_cons,not_mem_nil,or_false] at this;rw[this];exact⟨hw,by omega,by omega⟩
   have hl:(dd.flatMap aR).length+(aR x).length<=100000:=by
    have:=eZ c
    cases dd with
    |nil=>injection e with e1 _;subst e1;show 0+_<=_;omega
    |cons y dd=>injection e with _ e2;exact absurd (congrArg List.length e2) (by simp)
   w_on;refine aj _ (dR "not" ["not","both","either"] rfl) ?_;refine cJ (by decide +kernel) ?_;w_on;refine aj _ ⟨x,rfl,hx.1,hx.2.1,hx.2.2,rfl⟩ ?_;w_on;exact⟨by rw[length_map,length_map];omega,dd.flatMap aR++aR x,some (.val (qC x)),by rw[map_append],by rw[flatMap_append];simp⟩
  ·rintro A2 ⟨xs,o,rfl,rfl⟩;w_on;simp
 |bo h c d=>
  simp only[wC,hC,nC] at hw hh hn;simp only[qC,aR];w_on;refine bq (by simp only[H3,mem_cons,not_mem_nil,or_false] at hw;rcases hw.1 with rfl|rfl<;>decide +kernel) ?_;w_on;rw[iz (by decide) (by show(1:Int)<=(_+1:Nat);omega)];show fG ([c,d].map qC) _ _ _ _ _;refine gh [c,d] qC (λdd A=>∃(xs:List Ak)(o:Option Sl),A=⟨B',[some (.val (PV.tup [PV.str h,qC c,qC d])),some (.val (.lst (xs.map qA))),o],none⟩/\xs=dd.flatMap aR) ⟨[],none,rfl,rfl⟩ (λ_ _ _=>trivial) ?_ ?_
  ·rintro dd x r A2 e ⟨xs,o,rfl,rfl⟩
   have hx:wC x/\hC x<=m₀/\nC x<=100000:=by
    have:x∈[c,d]:=by rw[e];simp
    simp only[mem_cons,not_mem_nil,or_false] at this;rcases this with e5|e5
    ·rw[e5];exact⟨hw.2.1,by omega,by omega⟩
    ·rw[e5];exact⟨hw.2.2,by omega,by omega⟩
   have hl:(dd.flatMap aR).length+(aR x).length<=100000:=by
    have l1:=eZ c;have l2:=eZ d
    cases dd with
    |nil=>injection e with e1 _;subst e1;show 0+_<=_;omega
    |cons y dd=>
     injection e with e1 e2
     subst e1
     cases dd with
     |nil=>injection e2 with e3 _;subst e3;simp;omega
     |cons y dd=>injection e2 with _ e4;exact absurd (congrArg List.length e4) (by simp)
   w_on;refine aj _ (dR h ["not","both","either"] rfl) ?_;refine cJ (by simp only[H3,mem_cons,not_mem_nil,or_false] at hw;rcases hw.1 with rfl|rfl<;>decide +kernel) ?_;w_on;refine aj _ ⟨x,rfl,hx.1,hx.2.1,hx.2.2,rfl⟩ ?_;w_on;exact⟨by rw[length_map,length_map];omega,dd.flatMap aR++aR x,some (.val (qC x)),by rw[map_append],by rw[flatMap_append];simp⟩
  ·rintro A2 ⟨xs,o,rfl,rfl⟩;w_on;simp
 |lf h r=>
  simp only[wC] at hw;have h1:(h=="some")=false:=by simp only[H4,mem_cons,not_mem_nil,or_false] at hw;rcases hw with rfl|rfl|rfl|rfl<;>decide +kernel
  have h2:[("not":Str),"both","either"].contains h=false:=by simp only[H4,mem_cons,not_mem_nil,or_false] at hw;rcases hw with rfl|rfl|rfl|rfl<;>decide +kernel
  simp only[qC,aR];w_on;refine bq h1 ?_;w_on;rw[iz (by decide) (by show(1:Int)<=(_+1:Nat);omega)];show fG r _ _ _ _ _;rw[<- map_id r];refine gh r id (λdd A=>∃(o:Option Sl),A=⟨B',[some (.val (.tup (.str h::map id r))),some (.val (.lst [])),o],none⟩) ⟨none,rfl⟩ (λ_ _ _=>trivial) ?_ ?_
  ·rintro dd x r A2 e ⟨o,rfl⟩;w_on;refine aj _ (dR h ["not","both","either"] h2) ?_;refine bq rfl ?_;w_on;exact⟨_,rfl⟩
  ·rintro A2 ⟨o,rfl⟩;w_on
end
mutual
noncomputable def many:Ak->Nat
 |.tab _ _=>1
 |.one _ a _=>1+many a
 |.pick a c=>1+(many a+ja c)
 |.two _ a b c=>1+(many a+(many b+ja c))
 |.add a b=>1+(many a+many b)
noncomputable def ja:Cd->Nat
 |.cn a c=>many a+ja c
 |.nt c=>ja c
 |.bo _ c d=>ja c+ja d
 |.lf _ _=>0
end
theorem pY:∀ c:Cd,((aR c).map many).sum=ja c
 |.cn a c=>by simp [aR,ja,pY c]
 |.nt c=>by simp [aR,ja,pY c]
 |.bo _ c d=>by simp [aR,ja,pY c,pY d]
 |.lf _ _=>rfl
theorem Wf (a:Ak):many a=1+((kids a).map many).sum:=by
 cases a<;>simp [kids,many,pY]
theorem t6 {x a b:Nat}(h:x<b):x<max a b+1:=by omega
theorem Wg {x a b:Nat}(h:x<a):x<max a b+1:=by omega
theorem zj {x b:Nat}:x<max x b+1:=by omega
theorem Wh {x a:Nat}:x<max a x+1:=by omega
theorem t7 {x a b:Nat}(h:x<b):x<a+b+1:=by omega
theorem Wi {x a b:Nat}(h:x<a):x<a+b+1:=by omega
theorem t8 {x b:Nat}:x<x+b+1:=by omega
theorem Wj {x a:Nat}:x<a+x+1:=by omega
theorem nK:∀{c:Cd},wC c->∀ a∈aR c,wA a/\hA a<hC c/\nA a<nC c
 |.cn a c,h,x,hx=>by
  simp only[wC,hC,nC] at h ⊢;rcases mem_cons.mp hx with e|e
  ·subst e;exact⟨h.1,zj,t8⟩
  ·have:=nK h.2 x e;exact⟨this.1,t6 this.2.1,t7 this.2.2⟩
 |.nt c,h,x,hx=>by
  simp only[wC,hC,nC] at h ⊢;have:=nK h x hx;exact⟨this.1,Nat.lt_succ_of_lt this.2.1,Nat.lt_succ_of_lt this.2.2⟩
 |.bo _ c d,h,x,hx=>by
  simp only[wC,hC,nC] at h ⊢;rcases mem_append.mp hx with e|e
  ·have:=nK h.2.1 x e;exact⟨this.1,Wg this.2.1,Wi this.2.2⟩
  ·have:=nK h.2.2 x e;exact⟨this.1,t6 this.2.1,t7 this.2.2⟩
 |.lf _ _,_,x,hx=>by cases hx
theorem kJ {a:Ak}(h:wA a):∀ x∈kids a,wA x/\hA x<hA a/\nA x<nA a:=by
 intro x hx
 cases a with
 |tab _ _=>cases hx
 |one _ a _=>
  simp only[wA,hA,nA] at h ⊢;rw[mem_singleton.mp hx];exact⟨h.2,Nat.lt_succ_self _,t8⟩
 |pick a c=>
  simp only[wA,hA,nA] at h ⊢;rcases mem_cons.mp hx with e|e
  ·subst e;exact⟨h.1,zj,t8⟩
  ·have:=nK h.2 x e;exact⟨this.1,t6 this.2.1,t7 this.2.2⟩
 |two _ a b c=>
  simp only[wA,hA,nA] at h ⊢;rcases mem_cons.mp hx with e|e
  ·subst e;exact⟨h.2.1,by omega,by omega⟩
  rcases mem_cons.mp e with e|e
  ·subst e;exact⟨h.2.2.1,by omega,by omega⟩
  ·have:=nK h.2.2.2 x e;exact⟨this.1,t6 this.2.1,t7 this.2.2⟩
 |add a b=>
  simp only[wA,hA,nA] at h ⊢;rcases mem_cons.mp hx with e|e
  ·subst e;exact⟨h.1,zj,t8⟩
  ·rw[mem_singleton.mp e];exact⟨h.2,Wh,Wj⟩
theorem HA:∀ l:List Ak,ins (l.map λk=>PV.int (many k:Nat))=some (l.map λk=>((many k:Nat):Int))
 |[]=>rfl
 |k::l=>by
  have:=HA l;simp only[map_cons,ins,this];rfl
theorem HB:∀ l:List Ak,(l.map λk=>((many k:Nat):Int)).sum=(((l.map many).sum:Nat):Int)
 |[]=>rfl
 |k::l=>by simp [HB l]
theorem zk (a:Ak):1<=nA a:=by cases a<;>simp only[nA]<;>omega
noncomputable def t9 (m:Nat)(x r:PV):Prop:=∃ a:Ak,x=qA a/\wA a/\hA a<=m/\hA a<=50/\nA a<=100000/\r=.int (many a:Nat)
section
variable {P:Program}{w:World}{K:Frag}{mg:a0}{base:Heap}
theorem Wk:bx ["_law_ask_here"] ["_law_ask_here"] (aX w_):=by walk_at "s"
theorem Wl {k:Nat}(D:Df K mg "_law_children" w_)(B:Bt mg)(l6:Kn P w K mg base k "_law_somes" (aY K false (bX (t5 50)))):Kn P w K mg base (k+1) "_law_children" (aY K false (bX nJ)):=by
 refine D.dO Wk (λ_ _ _ _ _ _=>gD λ_=>rfl) (λ_ _=>bX.len) (by decide) (λf aE A outer s H E hr=>⟨_,(sc (bg (bW rfl hr (qv (ax rfl hr (qn 0) (qv vi))) (qv vs)) (s1 (aJ (vf (el an)))) sn)
  (sc (bg (ni rfl hr (qv (ax rfl hr (qn 0) (qv vi))) (qv (et (ac vs (ac vs (ac vs (ac vs an))))))) (s1 (aJ (vf (mW (qf (el (ac (ax rfl hr (qn 0) (qv vi)) (ac (ax rfl hr (qn 0) (qv vi)) an)))) (qv (bI rfl l6 hr (ac (ax rfl hr (qn 0) (qv vi)) an))))))) sn)
  (sc (bg (bW rfl hr (qv (ax rfl hr (qn 0) (qv vi))) (qv vs)) (s1 (aJ (vf (el (ac (ax rfl hr (qn 0) (qv vi)) (ac (ax rfl hr (qn 0) (qv vi)) an)))))) sn)
  (sc (bg (bW rfl hr (qv (ax rfl hr (qn 0) (qv vi))) (qv vs)) (s1 (aJ (vf (mW (qf (el (ac (ax rfl hr (qn 0) (qv vi)) an))) (qv (bI rfl l6 hr (ac (ax rfl hr (qn 0) (qv vi)) an))))))) sn)
  (s1 (aJ (vf (el (ac (ax rfl hr (qn 0) (qv vi)) an))))))))),λB' xs r h=>?_⟩)
 obtain⟨x0,rfl,h⟩:=h;change (_:US) (cW false r) ⟨B',[some (.val x0)],none⟩;obtain⟨a,rfl,hw,hh,hn,rfl⟩:=h
 cases a with
 |tab n w=>
  simp only[qA,kids];w_on;exact cJ (by decide +kernel) (by w_on)
 |one h a r=>
  simp only[wA,hA,nA] at hw hh hn
  have h1:(h=="table")=false/\[("join":Str),"left","half","lack"].contains h=false/\(h=="add")=false/\(h=="pick")=false:=by
   simp only[H1,mem_cons,not_mem_nil,or_false] at hw;rcases hw.1 with rfl|rfl|rfl|rfl<;>decide +kernel
  simp only[qA,kids];w_on;refine bq h1.1 ?_;w_on;refine aj _ (dR h ["join","left","half","lack"] h1.2.1) ?_;refine bq rfl ?_;w_on;refine bq h1.2.2.1 ?_;w_on;refine bq h1.2.2.2 ?_;w_on
 |pick a c=>
  simp only[wA,hA,nA] at hw hh hn;simp only[qA,kids];w_on;refine bq (by decide +kernel) ?_;w_on;refine aj _ (dR "pick" ["join","left","half","lack"] rfl) ?_;refine bq (by decide +kernel) ?_;w_on;refine bq (by decide +kernel) ?_;w_on;refine cJ (by decide +kernel) ?_;w_on;refine aj _ ⟨c,rfl,hw.2,by omega,by omega,rfl⟩ ?_;have:=eZ c;w_on;rw[length_map];omega
 |two h a b c=>
  simp only[wA,hA,nA] at hw hh hn
  have h1:(h=="table")=false/\[("join":Str),"left","half","lack"].contains h=true:=by
   simp only[H2,mem_cons,not_mem_nil,or_false] at hw;rcases hw.1 with rfl|rfl|rfl|rfl<;>decide +kernel
  simp only[qA,kids];w_on;refine bq h1.1 ?_;w_on;refine aj _ (dR h ["join","left","half","lack"] h1.2) ?_;refine cJ rfl ?_;w_on;refine aj _ ⟨c,rfl,hw.2.2.2,by omega,by omega,rfl⟩ ?_;have:=eZ c;have:=zk a;w_on;rw[length_map];omega
 |add a b=>
  simp only[qA,kids];w_on;refine bq (by decide +kernel) ?_;w_on;refine aj _ (dR "add" ["join","left","half","lack"] rfl) ?_;refine bq (by decide +kernel) ?_;w_on;refine cJ (by decide +kernel) ?_;w_on
variable {m₀:Nat}
theorem HC:bx ["_law_ask_here"] ["_law_ask_here"] (aX xg):=by walk_at "s"
theorem Wm {k:Nat}(D:Df K mg "_law_many" xg)(B:Bt mg)(nL:Kn P w K mg base k "_law_many" (aY K false (bX (t9 m₀))))(eO:Kn P w K mg base k "_law_children" (aY K false (bX nJ))):Kn P w K mg base (k+1) "_law_many" (aY K false (bX (t9 (m₀+1)))):=by
 refine D.dO HC (λ_ _ _ _ _ _=>gD λ_=>rfl) (λ_ _=>bX.len) (by decide) (λf aE A outer s H E hr=>⟨_,(s1 (aJ (bT rfl (qv vi) (qv (U3 rfl rfl B.sum (qf (lH (N:=["_law_child"]) (k:=1) (ix:=[]) cS rfl (iv rfl (bI rfl eO hr (ac (vn 0) an))) (λ_ _ _ _=>(aQ (i:=0) (by show(["_law_child"]:aq).Nodup;decide +kernel))) (λ_ _ _ _=>kn) (λ_ _ _ _=>(bI rfl nL hr (ac (vn 0) an)))))))))),λB' xs r h=>?_⟩);obtain⟨x0,rfl,h⟩:=h;change (_:US) (cW false r) ⟨B',[some (.val x0)],none⟩;obtain⟨a,rfl,hw,hh,h5,hn,rfl⟩:=h;have kl:=tU a;w_on;refine aj _ ⟨a,rfl,hw,h5,hn,rfl⟩ ?_;w_on;refine nk (kids a) qA (λk=>.int (many k:Nat)) (by omega) ?_ ?_
 ·intro B x hx R hR;obtain⟨k1,k2,k3⟩:=kJ hw x hx;w_on;refine aj _ ⟨x,rfl,k1,by omega,by omega,by omega,rfl⟩ ?_;exact hR _ ⟨rfl,rfl⟩ rfl
 refine aj _ ⟨_,HA _,rfl⟩ ?_;rw[HB];w_on;rw[Wf a];simp
end
theorem t_:∀{c:Cd}{i:Nat}{q:Ak},(aR c).length<=i->cb c i q=c
 |.cn a c,0,q,h=>by simp [aR] at h
 |.cn a c,i+1,q,h=>by
  simp only[aR,length_cons] at h;simp only[cb];rw[t_ (by omega)]
 |.nt c,i,q,h=>by simp only[aR] at h;simp only[cb];rw[t_ h]
 |.bo t c d,i,q,h=>by
  simp only[aR,length_append] at h;simp only[cb];rw[if_neg (by omega),t_ (by omega)]
 |.lf _ _,_,_,_=>by simp only[cb]
noncomputable def eD (c:Cd)(i:Nat):Int:=if i<(aR c).length then -1 else (i:Int)-(aR c).length
theorem Wn {a:Ak}{c:Cd}{i:Nat}:eD c i=eD (.cn a c) (i+1):=by
 unfold eD;by_cases h:i<(aR c).length
 ·rw[if_pos (show i+1<(aR (.cn a c)).length by simp only[aR,length_cons];omega),if_pos h]
 ·rw[if_neg (show ¬ i+1<(aR (.cn a c)).length by simp only[aR,length_cons];omega),if_neg h];simp only[aR,length_cons];omega
noncomputable def uj (m:Nat)(x y z r:PV):Prop:=∃(c:Cd)(i:Nat)(q:Ak),x=qC c/\y=.int (i:Nat)/\z=qA q/\wC c/\hC c<=m/\nC c<=100000/\i<=200000/\r=.tup [qC (cb c i q),.int (eD c i)]
noncomputable def cw (q:Ak):ai×Int->Cd->ai×Int:=λs x=>if 0<=s.2 then (s.1++[qC (cb x s.2.toNat q)],eD x s.2.toNat) else (s.1++[qC x],s.2)
theorem um {q:Ak}{xs:ai}{k:Nat}{x:Cd}:cw q (xs,(k:Int)) x=(xs++[qC (cb x k q)],eD x k):=by
 unfold cw;rw[if_pos (show(0:Int)<=(k:Int) by omega)];rfl
theorem zm {q:Ak}{xs:ai}{j:Int}{x:Cd}(h:j<0):cw q (xs,j) x=(xs++[qC x],j):=by
 unfold cw;rw[if_neg (show ¬ (0:Int)<=j by omega)]
theorem Wq {q:Ak}{h:Str}{c d:Cd}{i:Nat}:PV.tup ([c,d].foldl (cw q) ([.str h],(i:Int))).1=qC (cb (.bo h c d) i q)/\([c,d].foldl (cw q) ([.str h],(i:Int))).2=eD (.bo h c d) i:=by
 rw[foldl_cons,foldl_cons,foldl_nil,um];have lb:(aR (.bo h c d)).length=(aR c).length+(aR d).length:=by simp only[aR,length_append]
 by_cases e:i<(aR c).length
 ·have e1:eD c i=-1:=by unfold eD;rw[if_pos e]
  rw[e1,zm (by decide)];refine⟨?_,?_⟩
  ·simp only[cb];rw[if_pos e];rfl
  ·unfold eD;rw[if_pos (by omega)]
 ·have e1:eD c i=((i-(aR c).length:Nat):Int):=by unfold eD;rw[if_neg e];omega
  rw[e1,um,t_ (c:=c) (by omega)];refine⟨?_,?_⟩
  ·simp only[cb];rw[if_neg e];rfl
  ·unfold eD;rw[lb];by_cases e2:i-(aR c).length<(aR d).length
   ·rw[if_pos e2,if_pos (by omega)]
   ·rw[if_neg e2,if_neg (by omega)];omega
theorem zo (q:Ak):∀(l:List Cd)(s:ai×Int),(l.foldl (cw q) s).1.length=s.1.length+l.length
 |[],s=>rfl
 |x::l,s=>by
  rw[foldl_cons,zo q l];unfold cw
  split<;>simp<;>omega
theorem HD (c:Cd)(i:Nat):eD c i<=i /\ -1<=eD c i:=by unfold eD;split<;>omega
theorem zp (q:Ak):∀(l:List Cd)(s:ai×Int){b:Int},s.2<=b -> -1<=s.2->(l.foldl (cw q) s).2<=b /\ -1<=(l.foldl (cw q) s).2
 |[],s,b,h,g=>⟨h,g⟩
 |x::l,s,b,h,g=>by
  rw[foldl_cons];refine zp q l _ ?_ ?_
  ·unfold cw;split
   ·have:=(HD x s.2.toNat).1;show eD x s.2.toNat<=b;omega
   ·exact h
  ·unfold cw;split
   ·exact(HD x s.2.toNat).2
   ·exact g
section
variable {P:Program}{w:World}{K:Frag}{mg:a0}{base:Heap}
variable {m₀:Nat}
theorem kK:bx ["_law_cond_here","_law_at","_law_part_here","_law_inner","_law_left","_law_found","_law_one"] ["_law_cond_here","_law_at","_law_part_here"] (aX xa):=by walk_at "s"
theorem Wr {k:Nat}(D:Df K mg "_law_cond_with" xa)(B:Bt mg)(nM:Kn P w K mg base k "_law_cond_with" (aY K false (dB (uj m₀)))):Kn P w K mg base (k+1) "_law_cond_with" (aY K false (dB (uj (m₀+1)))):=by
 refine D.dO kK (λ_ _ _ _ _ _=>fM λ_ _ _=>rfl) (λ_ _=>dB.len) (by decide) (λf aE A outer s H E hr=>⟨_,(sc (bg (bW rfl hr (qv (ax rfl hr (qn 0) (qv vi))) (qv vs)) (sc (bg (bW rfl hr (qn 1) (qv vi)) (s1 (aJ (et (ac (et (ac vs (ac (vn 2) (ac (ax rfl hr (qn 0) (qv vi)) an)))) (ac (lQ vi) an))))) sn)
  (sc (eW (bI rfl nM hr (ac (ax rfl hr (qn 0) (qv vi)) (ac (eV (qn 1) (qv vi)) (ac (vn 2) an)))) (dX (n:=2) rfl rfl (bp (aQ (i:=3) kK.nd) (bp (aQ (i:=4) kK.nd) dW))))
  (s1 (aJ (et (ac (et (ac vs (ac (ax rfl hr (qn 0) (qv vi)) (ac (vn 3) an)))) (ac (vn 4) an))))))) sn)
  (sc (eR (i:=5) kK.nd (el (ac (ax rfl hr (qn 0) (qv vi)) an)))
  (sc (eU PassesOwn.never rfl (iv rfl (jC rfl (qn 0) (gK vi) iZ)) (aQ (i:=6) kK.nd)
  (sc (bg (PW.pt (iq (ni rfl hr (qv (ax rfl hr (qn 0) (qv vi))) (qv (et (ac vs (ac vs (ac vs an)))))) (jv (Qw (qn 1) (qv vi))))) (s1 (eW (bI rfl nM hr (ac (vn 6) (ac (vn 1) (ac (vn 2) an)))) (dX (n:=2) rfl rfl (bp (aQ (i:=6) kK.nd) (bp (aQ (i:=1) kK.nd) dW))))) sn)
  (s1 (eS (fR rfl 5 (vn 6))))))
  (s1 (aJ (et (ac (kx rfl B.tuple (qn 5)) (ac (vn 1) an)))))))),λB' xs r h=>?_⟩)
 obtain⟨x0,x1,x2,rfl,h⟩:=h;change (_:US) (cW false r) ⟨B',[some (.val x0),some (.val x1),some (.val x2),none,none,none,none],none⟩;obtain⟨c,i,q,rfl,rfl,rfl,hw,hh,hn,hi,rfl⟩:=h
 cases c with
 |cn a c=>
  simp only[wC,hC,nC] at hw hh hn;simp only[qC];w_on;refine cJ (by decide +kernel) ?_;w_on;refine bM (λe=>?_) λe=>?_
  ·obtain rfl:i=0:=by have:=of_decide_eq_true e;omega
   w_on;exact⟨rfl,by unfold eD;rw[if_pos (by simp [aR])]⟩
  obtain⟨i,rfl⟩:∃ j,i=j+1:=⟨i-1,by have:=of_decide_eq_false e;omega⟩;have e1:(((i+1:Nat):Int)-1)=(i:Nat):=by omega
  w_on;rw[e1];refine aj _ ⟨c,i,q,rfl,rfl,rfl,hw.2,by omega,by omega,by omega,rfl⟩ ?_;w_on;exact⟨rfl,Wn⟩
 |nt c=>
  simp only[wC,hC,nC] at hw hh hn;simp only[qC];w_on;refine bq (by decide +kernel) ?_;w_on;intro p;rw[iz (by decide) (by show(1:Int)<=(_+1:Nat);omega)];show fG ([c].map qC) _ _ _ _ _;refine gh [c] qC (λdd A=>∃(o4:Option Sl),A=⟨B',[some (.val (PV.tup [PV.str "not",qC c])),some (.val (.int (dd.foldl (cw q) ([.str "not"],(i:Int))).2)),some (.val (qA q)),none,none,some (.own p (.lst (dd.foldl (cw q) ([.str "not"],(i:Int))).1)),o4],none⟩) ⟨none,rfl⟩ (λ_ _ _=>trivial) ?_ ?_
  ·rintro dd x r A2 e ⟨o4,rfl⟩
   have hx:wC x/\hC x<=m₀/\nC x<=100000:=by
    have:x∈[c]:=by rw[e];simp
    simp only[mem_cons,not_mem_nil,or_false] at this;rw[this];exact⟨hw,by omega,by omega⟩
   have dl:dd.length<=5:=by have:=congrArg List.length e;simp at this;omega
   have l1:=zo q dd ([.str "not"],(i:Int));have l2:=zp q dd ([.str "not"],(i:Int)) (b:=200000) (by show(i:Int)<=_;omega) (by show -1<=(i:Int);omega);have en:(dd++[x]).foldl (cw q) ([.str "not"],(i:Int))=cw q (dd.foldl (cw q) ([.str "not"],(i:Int))) x:=by rw[foldl_append];rfl
   rw[en];generalize dd.foldl (cw q) ([.str "not"],(i:Int))=s at l1 l2 ⊢;obtain⟨xs,j⟩:=s;have Hd:xs.length=1+dd.length:=l1;have Ws:j<=200000 /\ -1<=j:=l2;w_on;refine aj _ (dR "not" ["not","both","either"] rfl) ?_;refine cJ (by decide +kernel) ?_;w_on;refine bM (λe0=>?_) λe0=>?_
   ·obtain⟨k,rfl⟩:∃ k:Nat,j=(k:Int):=⟨j.toNat,by have:=of_decide_eq_true e0;omega⟩;simp only[um];w_on;refine aj _ ⟨x,k,q,rfl,rfl,rfl,hx.1,hx.2.1,hx.2.2,by omega,rfl⟩ ?_;w_on;exact⟨by omega,_,rfl⟩
   ·simp only[zm (q:=q) (xs:=xs) (x:=x) (show j<0 by have:=of_decide_eq_false e0;omega)];w_on;exact⟨by omega,_,rfl⟩
  ·rintro A2 ⟨o4,rfl⟩;w_on;exact⟨rfl,rfl⟩
 |bo h c d=>
  simp only[wC,hC,nC] at hw hh hn;simp only[qC];w_on;refine bq (by simp only[H3,mem_cons,not_mem_nil,or_false] at hw;rcases hw.1 with rfl|rfl<;>decide +kernel) ?_;w_on;intro p;rw[iz (by decide) (by show(1:Int)<=(_+1:Nat);omega)];show fG ([c,d].map qC) _ _ _ _ _;refine gh [c,d] qC (λdd A=>∃(o4:Option Sl),A=⟨B',[some (.val (PV.tup [PV.str h,qC c,qC d])),some (.val (.int (dd.foldl (cw q) ([.str h],(i:Int))).2)),some (.val (qA q)),none,none,some (.own p (.lst (dd.foldl (cw q) ([.str h],(i:Int))).1)),o4],none⟩) ⟨none,rfl⟩ (λ_ _ _=>trivial) ?_ ?_
  ·rintro dd x r A2 e ⟨o4,rfl⟩
   have hx:wC x/\hC x<=m₀/\nC x<=100000:=by
    have:x∈[c,d]:=by rw[e];simp
    simp only[mem_cons,not_mem_nil,or_false] at this;rcases this with e5|e5
    ·rw[e5];exact⟨hw.2.1,by omega,by omega⟩
    ·rw[e5];exact⟨hw.2.2,by omega,by omega⟩
   have dl:dd.length<=5:=by have:=congrArg List.length e;simp at this;omega
   have l1:=zo q dd ([.str h],(i:Int));have l2:=zp q dd ([.str h],(i:Int)) (b:=200000) (by show(i:Int)<=_;omega) (by show -1<=(i:Int);omega);have en:(dd++[x]).foldl (cw q) ([.str h],(i:Int))=cw q (dd.foldl (cw q) ([.str h],(i:Int))) x:=by rw[foldl_append];rfl
   rw[en];generalize dd.foldl (cw q) ([.str h],(i:Int))=s at l1 l2 ⊢;obtain⟨xs,j⟩:=s;have Hd:xs.length=1+dd.length:=l1;have Ws:j<=200000 /\ -1<=j:=l2;w_on;refine aj _ (dR h ["not","both","either"] rfl) ?_;refine cJ (by simp only[H3,mem_cons,not_mem_nil,or_false] at hw;rcases hw.1 with rfl|rfl<;>decide +kernel) ?_;w_on;refine bM (λe0=>?_) λe0=>?_
   ·obtain⟨k,rfl⟩:∃ k:Nat,j=(k:Int):=⟨j.toNat,by have:=of_decide_eq_true e0;omega⟩;simp only[um];w_on;refine aj _ ⟨x,k,q,rfl,rfl,rfl,hx.1,hx.2.1,hx.2.2,by omega,rfl⟩ ?_;w_on;exact⟨by omega,_,rfl⟩
   ·simp only[zm (q:=q) (xs:=xs) (x:=x) (show j<0 by have:=of_decide_eq_false e0;omega)];w_on;exact⟨by omega,_,rfl⟩
  ·rintro A2 ⟨o4,rfl⟩;w_on;exact Wq
 |lf h r=>
  simp only[wC] at hw;have h1:(h=="some")=false:=by simp only[H4,mem_cons,not_mem_nil,or_false] at hw;rcases hw with rfl|rfl|rfl|rfl<;>decide +kernel
  have h2:[("not":Str),"both","either"].contains h=false:=by simp only[H4,mem_cons,not_mem_nil,or_false] at hw;rcases hw with rfl|rfl|rfl|rfl<;>decide +kernel
  simp only[qC];w_on;refine bq h1 ?_;simp only[nC] at hn;w_on;intro p;rw[iz (by decide) (by show(1:Int)<=(_+1:Nat);omega)];show fG r _ _ _ _ _;rw[<- map_id r];refine gh r id (λdd A=>∃(o:Option Sl),A=⟨B',[some (.val (.tup (.str h::map id r))),some (.val (.int (i:Nat))),some (.val (qA q)),none,none,some (.own p (.lst (.str h::dd))),o],none⟩) ⟨none,rfl⟩ (λ_ _ _=>trivial) ?_ ?_
  ·rintro dd x r A2 e ⟨o,rfl⟩;have dl:dd.length<=99999:=by have:=congrArg List.length e;simp at this;omega
   w_on;refine aj _ (dR h ["not","both","either"] h2) ?_;refine bq rfl ?_;w_on;exact⟨by omega,_,rfl⟩
  ·rintro A2 ⟨o,rfl⟩;w_on;rw[map_id];exact⟨rfl,by unfold eD;rw[if_neg (by simp [aR])];simp [aR]⟩
end
noncomputable def qW (w:List Nat):PV:=.tup (w.map λi=>.int (i:Nat))
noncomputable def qP (s:List Nat×Ak):PV:=.tup [qW s.1,qA s.2]
noncomputable def Ch:PV->List (ai×Nat)->PV->Prop
 |t,[],u=>u=t
 |t,s::L,u=>t=.tup s.1/\s.1.length<=100000/\∃ y,s.1[s.2]?=some y/\Ch y L u
noncomputable def fo (L:List (ai×Nat))(z:PV):PV:=L.foldr (λs o=>.tup (s.1.take s.2++[o]++s.1.drop (s.2+1))) z
theorem zq:∀{L M:List (ai×Nat)}{t u v:PV},Ch t L u->Ch u M v->Ch t (L++M) v
 |[],M,t,u,v,h,g=>by cases h;exact g
 |s::L,M,t,u,v,h,g=>⟨h.1,h.2.1,h.2.2.choose,h.2.2.choose_spec.1,zq h.2.2.choose_spec.2 g⟩
theorem HF (L M:List (ai×Nat))(z:PV):fo (L++M) z=fo L (fo M z):=by unfold fo;rw[foldr_append]
theorem HG:∀{L:List (ai×Nat)}{t u:PV},Ch t L u->fo L u=t
 |[],t,u,h=>h
 |s::L,t,u,h=>by
  obtain⟨rfl,_,y,hy,h⟩:=h;show PV.tup (s.1.take s.2++[fo L u]++s.1.drop (s.2+1))=_;rw[HG h];obtain⟨h1,h2⟩:=c7 hy;rw[append_assoc,<- h2,singleton_append,<- drop_eq_getElem_cons h1,take_append_drop]
theorem HH:∀{L:List (ai×Nat)}{t u z:PV}{d e:Nat},Ch t L u->Dp d t->Dp e z->Dp (d+e) (fo L z)
 |[],t,u,z,d,e,_,_,h=>h.mono (by omega)
 |s::L,t,u,z,d,e,h,g,k=>by
  obtain⟨rfl,_,y,hy,h⟩:=h
  cases d with
  |zero=>exact absurd g kr
  |succ d=>
   have g':=dP.mp (iw.mp g);have r:=HH h (g' y (mem_of_getElem? hy)) k;show Dp (d+1+e) (.tup (s.1.take s.2++[fo L z]++s.1.drop (s.2+1)));rw[show d+1+e=(d+e)+1 by omega];refine lT λx hx=>?_;simp only[append_assoc,mem_append,mem_singleton] at hx;rcases hx with hx|hx|hx
   ·exact(g' x (mem_of_mem_take hx)).mono (by omega)
   ·rw[hx];exact r
   ·exact(g' x (mem_of_mem_drop hx)).mono (by omega)
theorem nO:∀{c:Cd}{p0 p:List Nat}{i:Nat}{k:Ak},(cps c p0)[i]?=some (p,k)->∃ L,p=p0++L.map (·.2)/\Ch (qC c) L (qA k)/\L.length<=hC c/\∀ b,fo L (qA b)=qC (cb c i b)
 |.cn a c,p0,p,i,k,h=>by
  simp only[cps] at h
  cases i with
  |zero=>
   simp only[getElem?_cons_zero,Option.some.injEq,Prod.mk.injEq] at h;obtain⟨rfl,rfl⟩:=h;exact⟨[([.str "some",qA a,qC c],1)],rfl,⟨rfl,by show 3<=100000;decide,_,rfl,rfl⟩,by show 1<=max (hA a) (hC c)+1;omega,λb=>rfl⟩
  |succ i=>
   simp only[getElem?_cons_succ] at h;obtain⟨L,e1,e2,e3,e4⟩:=nO h;refine⟨([.str "some",qA a,qC c],2)::L,by rw[e1];simp,⟨rfl,by show 3<=100000;decide,_,rfl,e2⟩,?_,λb=>?_⟩
   ·exact Nat.succ_le_succ (aP e3 (Nat.le_max_right _ _))
   ·show PV.tup [.str "some",qA a,fo L (qA b)]=_;rw[e4];rfl
 |.nt c,p0,p,i,k,h=>by
  simp only[cps] at h;obtain⟨L,e1,e2,e3,e4⟩:=nO h;refine⟨([.str "not",qC c],1)::L,by rw[e1];simp,⟨rfl,by show 2<=100000;decide,_,rfl,e2⟩,?_,λb=>?_⟩
  ·exact Nat.succ_le_succ e3
  ·show PV.tup [.str "not",fo L (qA b)]=_;rw[e4];rfl
 |.bo t c d,p0,p,i,k,h=>by
  simp only[cps] at h;have lc:(cps c (p0++[1])).length=(aR c).length:=by rw[<- jH c (p0++[1]),length_map]
  by_cases hi:i<(aR c).length
  ·rw[getElem?_append_left (by omega)] at h;obtain⟨L,e1,e2,e3,e4⟩:=nO h;refine⟨([.str t,qC c,qC d],1)::L,by rw[e1];simp,⟨rfl,by show 3<=100000;decide,_,rfl,e2⟩,?_,λb=>?_⟩
   ·exact Nat.succ_le_succ (aP e3 (Nat.le_max_left _ _))
   ·show PV.tup [.str t,fo L (qA b),qC d]=_;rw[e4];simp only[cb];rw[if_pos hi];rfl
  ·rw[getElem?_append_right (by omega),lc] at h;obtain⟨L,e1,e2,e3,e4⟩:=nO h;refine⟨([.str t,qC c,qC d],2)::L,by rw[e1];simp,⟨rfl,by show 3<=100000;decide,_,rfl,e2⟩,?_,λb=>?_⟩
   ·exact Nat.succ_le_succ (aP e3 (Nat.le_max_right _ _))
   ·show PV.tup [.str t,qC c,fo L (qA b)]=_;rw[e4];simp only[cb];rw[if_neg hi];rfl
 |.lf _ _,p0,p,i,k,h=>by simp [cps] at h
theorem uq {a:Ak}{p:List Nat}{i:Nat}{k:Ak}(hn:nA a<=100000)(h:(cN a)[i]?=some (p,k)):∃ L,p=L.map (·.2)/\Ch (qA a) L (qA k)/\L.length<=hA a/\∀ b,fo L (qA b)=qA (cq a i b):=by
 cases a with
 |tab _ _=>simp [cN] at h
 |one t a r=>
  cases i with
  |succ i=>simp [cN] at h
  |zero=>
   simp only[cN,getElem?_cons_zero,Option.some.injEq,Prod.mk.injEq] at h;obtain⟨rfl,rfl⟩:=h;simp only[nA] at hn;exact⟨[(.str t::qA a::r,1)],rfl,⟨rfl,by simp only[length_cons];have:=zk a;omega,_,rfl,rfl⟩,by show 1<=hA a+1;omega,λb=>rfl⟩
 |pick a c=>
  cases i with
  |zero=>
   simp only[cN,getElem?_cons_zero,Option.some.injEq,Prod.mk.injEq] at h;obtain⟨rfl,rfl⟩:=h;exact⟨[([.str "pick",qA a,qC c],1)],rfl,⟨rfl,by show 3<=100000;decide,_,rfl,rfl⟩,by show 1<=max (hA a) (hC c)+1;omega,λb=>rfl⟩
  |succ i=>
   simp only[cN,getElem?_cons_succ] at h;obtain⟨L,e1,e2,e3,e4⟩:=nO h;refine⟨([.str "pick",qA a,qC c],2)::L,by rw[e1];simp,⟨rfl,by show 3<=100000;decide,_,rfl,e2⟩,?_,λb=>?_⟩
   ·exact Nat.succ_le_succ (aP e3 (Nat.le_max_right _ _))
   ·show PV.tup [.str "pick",qA a,fo L (qA b)]=_;rw[e4];rfl
 |two t a c d=>
  match i with
  |0=>
   simp only[cN,getElem?_cons_zero,Option.some.injEq,Prod.mk.injEq] at h;obtain⟨rfl,rfl⟩:=h;exact⟨[([.str t,qA a,qA c,qC d],1)],rfl,⟨rfl,by show 4<=100000;decide,_,rfl,rfl⟩,by show 1<=_+1;omega,λb=>rfl⟩
  |1=>
   simp only[cN,getElem?_cons_succ,getElem?_cons_zero,Option.some.injEq,Prod.mk.injEq] at h;obtain⟨rfl,rfl⟩:=h;exact⟨[([.str t,qA a,qA c,qC d],2)],rfl,⟨rfl,by show 4<=100000;decide,_,rfl,rfl⟩,by show 1<=_+1;omega,λb=>rfl⟩
  |i+2=>
   simp only[cN,getElem?_cons_succ] at h;obtain⟨L,e1,e2,e3,e4⟩:=nO h;refine⟨([.str t,qA a,qA c,qC d],3)::L,by rw[e1];simp,⟨rfl,by show 4<=100000;decide,_,rfl,e2⟩,?_,λb=>?_⟩
   ·exact Nat.succ_le_succ (aP e3 (Nat.le_max_right _ _))
   ·show PV.tup [.str t,qA a,qA c,fo L (qA b)]=_;rw[e4];rfl
 |add a c=>
  match i with
  |0=>
   simp only[cN,getElem?_cons_zero,Option.some.injEq,Prod.mk.injEq] at h;obtain⟨rfl,rfl⟩:=h;exact⟨[([.str "add",qA a,qA c],1)],rfl,⟨rfl,by show 3<=100000;decide,_,rfl,rfl⟩,by show 1<=_+1;omega,λb=>rfl⟩
  |1=>
   simp only[cN,getElem?_cons_succ,getElem?_cons_zero,Option.some.injEq,Prod.mk.injEq] at h;obtain⟨rfl,rfl⟩:=h;exact⟨[([.str "add",qA a,qA c],2)],rfl,⟨rfl,by show 3<=100000;decide,_,rfl,rfl⟩,by show 1<=_+1;omega,λb=>rfl⟩
  |i+2=>simp [cN] at h
theorem ur {a:Ak}{i:Nat}{k:Ak}(h:(kids a)[i]?=some k):∃ p,(cN a)[i]?=some (p,k):=by
 rw[<- tT,getElem?_map] at h
 cases e:(cN a)[i]? with
 |none=>rw[e] at h;cases h
 |some s=>rw[e] at h;simp only[Option.map_some,Option.some.injEq] at h;subst h;exact⟨s.1,rfl⟩
theorem uu:∀{w:List Nat}{a p:Ak},wA a->nA a<=100000->apart a w=some p->∃ L,Ch (qA a) L (qA p)/\L.length<=hA a*w.length/\∀ b,fo L (qA b)=qA (c6 a w b)
 |[],a,p,hw,hn,h=>by
  simp only[apart,Option.some.injEq] at h;subst h;exact⟨[],rfl,Nat.zero_le _,λb=>rfl⟩
 |i::w,a,p,hw,hn,h=>by
  simp only[apart] at h
  cases hk:(kids a)[i]? with
  |none=>rw[hk] at h;cases h
  |some k=>
   rw[hk] at h;obtain⟨q,hq⟩:=ur hk;obtain⟨k1,k2,k3⟩:=kJ hw k (mem_of_getElem? hk);obtain⟨L,e1,e2,e3,e4⟩:=uq hn hq;obtain⟨M,f2,f3,f4⟩:=uu k1 (by omega) h;refine⟨L++M,zq e2 f2,?_,λb=>?_⟩
   ·rw[length_append,length_cons,Nat.mul_succ];have:=Nat.mul_le_mul_right w.length (Nat.le_of_lt k2);omega
   ·rw[HF,f4,e4];simp only[c6,hk]
noncomputable def fu:Ak->ai->Option (List Nat×Ak)
 |a,[]=>some ([],a)
 |a,x::ws=>match x with
  |.int i=>if 0<=i then match (cN a)[i.toNat]? with
   |some (p,k)=>(fu k ws).map λs=>(p++s.1,s.2)
   |none=>none
   else none
  |_=>none
theorem zr:∀{w:List Nat}{a p:Ak},wA a->nA a<=100000->apart a w=some p->∃ q L,fu a (w.map λi=>.int (i:Nat))=some (q,p)/\q=L.map (·.2)/\Ch (qA a) L (qA p)/\L.length<=hA a*w.length/\∀ b,fo L (qA b)=qA (c6 a w b)
 |[],a,p,hw,hn,h=>by
  simp only[apart,Option.some.injEq] at h;subst h;exact⟨[],[],rfl,rfl,rfl,Nat.zero_le _,λb=>rfl⟩
 |i::w,a,p,hw,hn,h=>by
  simp only[apart] at h
  cases hk:(kids a)[i]? with
  |none=>rw[hk] at h;cases h
  |some k=>
   rw[hk] at h;obtain⟨q,hq⟩:=ur hk;obtain⟨k1,k2,k3⟩:=kJ hw k (mem_of_getElem? hk);obtain⟨L,e1,e2,e3,e4⟩:=uq hn hq;obtain⟨q2,M,f0,f1,f2,f3,f4⟩:=zr k1 (by omega) h;refine⟨q++q2,L++M,?_,by rw[e1,f1,map_append],zq e2 f2,?_,λb=>?_⟩
   ·simp only[map_cons,fu];rw[if_pos (by omega),Int.toNat_natCast,hq];simp only[f0,Option.map_some]
   ·rw[length_append,length_cons,Nat.mul_succ];have:=Nat.mul_le_mul_right w.length (Nat.le_of_lt k2);omega
   ·rw[HF,f4,e4];simp only[c6,hk]
theorem HI (a:Ak):(cN a).length=(kids a).length:=by rw[<- tT,length_map]
theorem HJ:∀{w:List Nat}{a p:Ak}{x:PV}{r:ai},apart a w=some p->(∀ i:Int,x=.int i->i<0\/(kids p).length<=i)->fu a ((w.map λi=>PV.int (i:Nat))++x::r)=none
 |[],a,p,x,r,h,hx=>by
  simp only[apart,Option.some.injEq] at h;subst h;simp only[map_nil,nil_append]
  cases x with
  |int i=>
   simp only[fu];rcases hx i rfl with h|h
   ·rw[if_neg (by omega)]
   ·rw[if_pos (by omega),getElem?_eq_none (by rw[HI];omega)]
  |_=>rfl
 |j::w,a,p,x,r,h,hx=>by
  simp only[apart] at h
  cases hk:(kids a)[j]? with
  |none=>rw[hk] at h;cases h
  |some k=>
   rw[hk] at h;obtain⟨q,hq⟩:=ur hk;simp only[map_cons,cons_append,fu];rw[if_pos (by omega),Int.toNat_natCast,hq];simp only[HJ h hx,Option.map_none]
theorem nP:∀{c:Cd}{i:Nat}{q:Ak},aR (cb c i q)=(aR c).set i q
 |.cn a c,0,q=>rfl
 |.cn a c,i+1,q=>by simp only[cb,aR,set_cons_succ,nP]
 |.nt c,i,q=>by simp only[cb,aR,nP]
 |.bo t c d,i,q=>by
  simp only[cb,aR];by_cases h:i<(aR c).length
  ·rw[if_pos h];simp only[aR,nP];rw[set_append_left _ _ h]
  ·rw[if_neg h];simp only[aR,nP];rw[set_append_right _ _ (by omega)]
 |.lf _ _,i,q=>by simp [cb,aR]
theorem Wt (a:Ak)(i:Nat)(q:Ak):kids (cq a i q)=(kids a).set i q:=by
 cases a with
 |tab _ _=>simp [cq,kids]
 |one _ a _=>cases i<;>simp [cq,kids]
 |pick a c=>cases i<;>simp [cq,kids,nP]
 |two _ a b c=>match i with
  |0=>simp [cq,kids]
  |1=>simp [cq,kids]
  |i+2=>simp [cq,kids,nP]
 |add a b=>match i with
  |0=>simp [cq,kids]
  |1=>simp [cq,kids]
  |i+2=>simp [cq,kids]
theorem HK:∀{w:List Nat}{a p q:Ak},apart a w=some p->apart (c6 a w q) w=some q
 |[],a,p,q,h=>rfl
 |i::w,a,p,q,h=>by
  simp only[apart] at h
  cases hk:(kids a)[i]? with
  |none=>rw[hk] at h;cases h
  |some k=>
   rw[hk] at h;have hi:i<(kids a).length:=(c7 hk).1;simp only[c6,hk,apart,Wt];rw[getElem?_set_self hi];exact HK h
theorem l7 {a b c t:Nat}(h:b<=a+t):max b c<=max a c+t:=by omega
theorem nQ {a b c t:Nat}(h:b<=a+t):max c b<=max c a+t:=by omega
theorem b6 {a b c t:Nat}(h:b<=a+t):b+c<=a+c+t:=by omega
theorem nR {a b c t:Nat}(h:b<=a+t):c+b<=c+a+t:=by omega
theorem nT:∀{c:Cd}{i:Nat}{k b:Ak}{t t':Nat},wC c->wA b->(aR c)[i]?=some k->hA b<=hA k+t->nA b<=nA k+t'->wC (cb c i b)/\hC (cb c i b)<=hC c+t/\nC (cb c i b)<=nC c+t'
 |.cn a c,0,k,b,t,t',h,g,e,l,m=>by
  simp only[aR,getElem?_cons_zero,Option.some.injEq] at e;subst e;simp only[cb,wC,hC,nC] at h ⊢;exact⟨⟨g,h.2⟩,b6 (l7 l),b6 (b6 m)⟩
 |.cn a c,i+1,k,b,t,t',h,g,e,l,m=>by
  simp only[aR,getElem?_cons_succ] at e;simp only[wC] at h;have:=nT h.2 g e l m;simp only[cb,wC,hC,nC];exact⟨⟨h.1,this.1⟩,b6 (nQ this.2.1),b6 (nR this.2.2)⟩
 |.nt c,i,k,b,t,t',h,g,e,l,m=>by
  simp only[aR] at e;simp only[wC] at h;have:=nT h g e l m;simp only[cb,wC,hC,nC];exact⟨this.1,b6 this.2.1,b6 this.2.2⟩
 |.bo z c d,i,k,b,t,t',h,g,e,l,m=>by
  simp only[aR] at e;simp only[wC] at h;by_cases hi:i<(aR c).length
  ·rw[getElem?_append_left hi] at e;have:=nT h.2.1 g e l m;simp only[cb];rw[if_pos hi];simp only[wC,hC,nC];exact⟨⟨h.1,this.1,h.2.2⟩,b6 (l7 this.2.1),b6 (b6 this.2.2)⟩
  ·rw[getElem?_append_right (by omega)] at e;have:=nT h.2.2 g e l m;simp only[cb];rw[if_neg hi];simp only[wC,hC,nC];exact⟨⟨h.1,h.2.1,this.1⟩,b6 (nQ this.2.1),b6 (nR this.2.2)⟩
 |.lf _ _,i,k,b,t,t',h,g,e,l,m=>by simp [aR] at e
theorem Wu {a:Ak}{i:Nat}{k b:Ak}{t t':Nat}(h:wA a)(g:wA b)(e:(kids a)[i]?=some k)(l:hA b<=hA k+t)(m:nA b<=nA k+t'):wA (cq a i b)/\hA (cq a i b)<=hA a+t/\nA (cq a i b)<=nA a+t':=by
 cases a with
 |tab _ _=>simp [kids] at e
 |one _ a _=>
  cases i with
  |succ i=>simp [kids] at e
  |zero=>
   simp only[kids,getElem?_cons_zero,Option.some.injEq] at e;subst e;simp only[cq,wA,hA,nA] at h ⊢;exact⟨⟨h.1,g⟩,b6 l,b6 (b6 m)⟩
 |pick a c=>
  cases i with
  |zero=>
   simp only[kids,getElem?_cons_zero,Option.some.injEq] at e;subst e;simp only[cq,wA,hA,nA] at h ⊢;exact⟨⟨g,h.2⟩,b6 (l7 l),b6 (b6 m)⟩
  |succ i=>
   simp only[kids,getElem?_cons_succ] at e;simp only[wA] at h;have:=nT h.2 g e l m;simp only[cq,wA,hA,nA];exact⟨⟨h.1,this.1⟩,b6 (nQ this.2.1),b6 (nR this.2.2)⟩
 |two _ a c d=>match i with
  |0=>
   simp only[kids,getElem?_cons_zero,Option.some.injEq] at e;subst e;simp only[cq,wA,hA,nA] at h ⊢;exact⟨⟨h.1,g,h.2.2⟩,b6 (l7 (l7 l)),b6 (b6 (b6 m))⟩
  |1=>
   simp only[kids,getElem?_cons_succ,getElem?_cons_zero,Option.some.injEq] at e;subst e;simp only[cq,wA,hA,nA] at h ⊢;exact⟨⟨h.1,h.2.1,g,h.2.2.2⟩,b6 (l7 (nQ l)),b6 (b6 (nR m))⟩
  |i+2=>
   simp only[kids,getElem?_cons_succ] at e;simp only[wA] at h;have:=nT h.2.2.2 g e l m;simp only[cq,wA,hA,nA];exact⟨⟨h.1,h.2.1,h.2.2.1,this.1⟩,b6 (nQ this.2.1),b6 (nR this.2.2)⟩
 |add a c=>match i with
  |0=>
   simp only[kids,getElem?_cons_zero,Option.some.injEq] at e;subst e;simp only[cq,wA,hA,nA] at h ⊢;exact⟨⟨g,h.2⟩,b6 (l7 l),b6 (b6 m)⟩
  |1=>
   simp only[kids,getElem?_cons_succ,getElem?_cons_zero,Option.some.injEq] at e;subst e;simp only[cq,wA,hA,nA] at h ⊢;exact⟨⟨h.1,g⟩,b6 (nQ l),b6 (nR m)⟩
  |i+2=>simp [kids] at e
theorem HL:∀{w:List Nat}{a p q:Ak},wA a->wA q->apart a w=some p->wA (c6 a w q)/\hA (c6 a w q)<=hA a+hA q/\nA (c6 a w q)<=nA a+nA q
 |[],a,p,q,h,g,e=>⟨g,by simp only[c6];omega,by simp only[c6];omega⟩
 |i::w,a,p,q,h,g,e=>by
  simp only[apart] at e
  cases hk:(kids a)[i]? with
  |none=>rw[hk] at e;cases e
  |some k=>
   rw[hk] at e;have r:=HL (kJ h k (mem_of_getElem? hk)).1 g e;simp only[c6,hk];exact Wu h r.1 hk r.2.1 r.2.2
theorem zt:∀{w:List Nat}{a p:Ak},wA a->apart a w=some p->wA p/\hA p<=hA a/\nA p<=nA a
 |[],a,p,h,e=>by simp only[apart,Option.some.injEq] at e;subst e;exact⟨h,ar _,ar _⟩
 |i::w,a,p,h,e=>by
  simp only[apart] at e
  cases hk:(kids a)[i]? with
  |none=>rw[hk] at e;cases e
  |some k=>
   rw[hk] at e;obtain⟨k1,k2,k3⟩:=kJ h k (mem_of_getElem? hk);have:=zt k1 e;exact⟨this.1,by omega,by omega⟩
theorem HM:∀{w:List Nat}{a p k:Ak}{i:Nat},apart a w=some p->(kids p)[i]?=some k->apart a (w++[i])=some k
 |[],a,p,k,i,h,g=>by
  simp only[apart,Option.some.injEq] at h;subst h;simp only[nil_append,apart,g]
 |j::w,a,p,k,i,h,g=>by
  simp only[apart] at h
  cases hk:(kids a)[j]? with
  |none=>rw[hk] at h;cases h
  |some k'=>
   rw[hk] at h;simp only[cons_append,apart,hk];exact HM h g
theorem zu:∀{L:List (ai×Nat)}{t u:PV}{d:Nat},Ch t L u->Dp d t->Dp d u
 |[],t,u,d,h,g=>by rw[show u=t from h];exact g
 |s::L,t,u,d,h,g=>by
  obtain⟨rfl,_,y,hy,h⟩:=h
  cases d with
  |zero=>exact absurd g kr
  |succ d=>exact(zu h (dP.mp (iw.mp g) y (mem_of_getElem? hy))).mono (Nat.le_succ d)
noncomputable def uv (m:Nat)(x y z r:PV):Prop:=∃(a:Ak)(w:List Nat)(q p:Ak),x=qA a/\y=qW w/\z=qA q/\wA a/\hA a<=50/\nA a<=100000/\apart a w=some p/\w.length<m/\w.length<=100/\r=qA (c6 a w q)
theorem zv {a:Ak}{i:Nat}{k:Ak}(h:(kids a)[i]?=some k):cz ((kids a).map qA) (i:Int)=some (qA k):=i5 (by omega) (by show((kids a).map qA)[((i:Nat):Int).toNat]?=_;rw[Int.toNat_natCast,getElem?_map,h];rfl)
theorem nU {xs:ai}{i:Nat}(y:PV)(h:i+1<xs.length):cI xs none (some (1+(i:Int)))++[y]++cI xs (some (2+(i:Int))) none=xs.take (i+1)++[y]++xs.drop (i+2)/\(cI xs none (some (1+(i:Int)))).length=i+1/\(cI xs none (some (1+(i:Int)))++[y]).length+(cI xs (some (2+(i:Int))) none).length=xs.length:=by
 have e1:(1+(i:Int)).toNat=i+1:=by omega
 have e2:(2+(i:Int)).toNat=i+2:=by omega
 rw[tH (by omega) (by omega),iz (by omega) (by omega),e1,e2];refine⟨rfl,by rw[length_take];omega,?_⟩;rw[length_append,length_take,length_drop,length_singleton];omega
section
variable {P:Program}{w:World}{K:Frag}{mg:a0}{base:Heap}
variable {m₀:Nat}
theorem nV:bx ["_law_ask_here","_law_way_here","_law_part_here","_law_made","_law_sides","_law_cond_here","_law_left"] ["_law_ask_here","_law_way_here","_law_part_here"] (aX xb):=by walk_at "s"
theorem Wv {k:Nat}(D:Df K mg "_law_with" xb)(B:Bt mg)(pZ:Kn P w K mg base k "_law_with" (aY K false (dB (uv m₀))))(nM:Kn P w K mg base k "_law_cond_with" (aY K false (dB (uj 50))))(eO:Kn P w K mg base k "_law_children" (aY K false (bX nJ))):Kn P w K mg base (k+1) "_law_with" (aY K false (dB (uv (m₀+1)))):=by
 refine D.dO nV (λ_ _ _ _ _ _=>fM λ_ _ _=>rfl) (λ_ _=>dB.len) (by decide) (λf aE A outer s H E hr=>⟨_,(sc (bg (bW rfl hr (qn 1) (qv (et an))) (s1 (aJ (vn 2))) sn)
  (sc (a_ (i:=3) nV.nd (bI rfl pZ hr (ac (ax rfl hr (qv (bI rfl eO hr (ac (vn 0) an))) (qv (ax rfl hr (qn 1) (qv vi)))) (ac (jC rfl (qn 1) (gK vi) iZ) (ac (vn 2) an)))))
  (sc (a_ (i:=4) nV.nd (bT rfl (qv vi) (qv (lP B.int (qv (Q5 rfl hr (qv (ax rfl hr (qn 0) (qv vi))) (qv (et (ac vs (ac vs (ac vs (ac vs (ac vs an)))))))))))))
  (sc (bg (m8 (qv (ax rfl hr (qn 1) (qv vi))) (qn 4)) (s1 (aJ (bT rfl (qv (bT rfl (qv (jC rfl (qn 0) iZ (gK (bT rfl (qv vi) (qv (ax rfl hr (qn 1) (qv vi))))))) (qv (et (ac (vn 3) an))))) (qv (jC rfl (qn 0) (gK (bT rfl (qv vi) (qv (ax rfl hr (qn 1) (qv vi))))) iZ))))) sn)
  (sc (eW (bI rfl nM hr (ac (ax rfl hr (qn 0) (qv (lQ vi))) (ac (eV (qv (ax rfl hr (qn 1) (qv vi))) (qn 4)) (ac (vn 3) an)))) (dX (n:=2) rfl rfl (bp (aQ (i:=5) nV.nd) (bp (aQ (i:=6) nV.nd) dW))))
  (s1 (aJ (bT rfl (qv (jC rfl (qn 0) iZ (gK (lQ vi)))) (qv (et (ac (vn 5) an))))))))))),λB' xs r h=>?_⟩)
 obtain⟨x0,x1,x2,rfl,h⟩:=h;change (_:US) (cW false r) ⟨B',[some (.val x0),some (.val x1),some (.val x2),none,none,none,none],none⟩;obtain⟨a,wy,q,pp,rfl,rfl,rfl,hw,hh,hn,hp,hm,hl,rfl⟩:=h
 cases wy with
 |nil=>
  simp only[qW,map_nil];w_on;refine aj true ⟨⟨1,by decide,lT λ_ h=>(by cases h),lT λ_ h=>(by cases h)⟩,rfl⟩ ?_;refine cJ rfl ?_;w_on;rfl
 |cons i wy=>
  simp only[apart] at hp
  cases hk:(kids a)[i]? with
  |none=>rw[hk] at hp;cases hp
  |some k=>
   rw[hk] at hp;have Ww:apart k wy=some pp:=hp;have km:k∈kids a:=mem_of_getElem? hk;obtain⟨k1,k2,k3⟩:=kJ hw k km;simp only[length_cons] at hm hl;have aw:c6 a (i::wy) q=cq a i (c6 k wy q):=by simp only[c6,hk]
   rw[aw];simp only[qW,map_cons];w_on;refine aj false ⟨⟨1,by decide,lT λx h=>?_,lT λ_ h=>(by cases h)⟩,rfl⟩ ?_
   ·rcases mem_cons.mp h with e|e
    ·rw[e];exact lS _ _
    ·obtain⟨j,_,rfl⟩:=mem_map.mp e;exact lS _ _
   refine bq rfl ?_;w_on;refine aj _ ⟨a,rfl,hw,hh,hn,rfl⟩ ?_;w_on;refine aj _ (zv hk) ?_
   have ct:cI (PV.int (i:Nat)::wy.map λi=>PV.int (i:Nat)) (some 1) none=wy.map λi=>PV.int (i:Nat):=by
    rw[iz (by decide) (by show(1:Int)<=(_+1:Nat);omega)];rfl
   w_on;rw[ct];refine aj _ ⟨k,wy,q,pp,rfl,rfl,rfl,k1,by omega,by omega,Ww,by omega,by omega,rfl⟩ ?_;generalize c6 k wy q=b;w_on
   cases a with
   |tab n w=>cases hk
   |one h a r=>
    obtain rfl:i=0:=by cases i with|zero=>rfl|succ i=>simp [kids] at hk
    simp only[wA,nA] at hw hn
    have h1:[("join":Str),"left","half","lack","add"].contains h=false:=by
     simp only[H1,mem_cons,not_mem_nil,or_false] at hw;rcases hw.1 with rfl|rfl|rfl|rfl<;>decide +kernel
    simp only[qA,cq];w_on;refine aj _ (dR h ["join","left","half","lack","add"] h1) ?_;w_on;refine cJ (by decide +kernel) ?_;w_on;have cp:=nU (xs:=PV.str h::qA a::r) (i:=0) (qA b) (by simp);exact⟨by rw[cp.2.1];decide,by rw[cp.2.2];simp only[length_cons];have:=zk a;omega,cp.1⟩
   |pick a c=>
    simp only[wA,nA,hA] at hw hn hh
    cases i with
    |zero=>
     simp only[qA,cq];w_on;refine aj _ (dR "pick" ["join","left","half","lack","add"] rfl) ?_;w_on;refine cJ (by decide +kernel) ?_;w_on;have cp:=nU (xs:=[PV.str "pick",qA a,qC c]) (i:=0) (qA b) (by simp);exact⟨by rw[cp.2.1];decide,by rw[cp.2.2];simp,cp.1⟩
    |succ i=>
     simp only[qA,cq];w_on;refine aj _ (dR "pick" ["join","left","half","lack","add"] (b:=false) (by decide +kernel)) ?_;have e1:(((i+1:Nat):Int)-(1+0))=(i:Nat):=by omega
     have hs:i<(aR c).length:=by have:=(c7 hk).1;simp only[kids,length_cons] at this;omega
     have:=eZ c;w_on;refine bq (by rw[decide_eq_false_iff_not];simp only[↓reduceIte];omega) ?_;w_on;refine aj (qC c) rfl ?_;w_on;simp only[↓reduceIte];rw[e1];refine aj _ ⟨c,i,b,rfl,rfl,rfl,hw.2,by omega,by omega,by omega,rfl⟩ ?_;w_on;exact⟨by show 2<=99999;decide,rfl⟩
   |two h a b2 c=>
    simp only[wA,nA,hA] at hw hn hh
    have h1:[("join":Str),"left","half","lack","add"].contains h=true:=by
     simp only[H2,mem_cons,not_mem_nil,or_false] at hw;rcases hw.1 with rfl|rfl|rfl|rfl<;>decide +kernel
    match i,hk with
    |0,hk=>
     simp only[qA,cq];w_on;refine aj _ (dR h ["join","left","half","lack","add"] h1) ?_;w_on;refine cJ (by decide +kernel) ?_;w_on;have cp:=nU (xs:=[PV.str h,qA a,qA b2,qC c]) (i:=0) (qA b) (by simp);exact⟨by rw[cp.2.1];decide,by rw[cp.2.2];simp,cp.1⟩
    |1,hk=>
     simp only[qA,cq];w_on;refine aj _ (dR h ["join","left","half","lack","add"] h1) ?_;w_on;refine cJ (by decide +kernel) ?_;w_on;have cp:=nU (xs:=[PV.str h,qA a,qA b2,qC c]) (i:=1) (qA b) (by simp);exact⟨by rw[cp.2.1];decide,by rw[cp.2.2];simp,cp.1⟩
    |i+2,hk=>
     simp only[qA,cq];w_on;refine aj _ (dR h ["join","left","half","lack","add"] h1) ?_;have e1:(((i+2:Nat):Int)-(1+1))=(i:Nat):=by omega
     have hs:i<(aR c).length:=by have:=(c7 hk).1;simp only[kids,length_cons] at this;omega
     have:=eZ c;w_on;refine bq (by rw[decide_eq_false_iff_not];simp only[↓reduceIte];omega) ?_;w_on;refine aj (qC c) rfl ?_;w_on;simp only[↓reduceIte];rw[e1];refine aj _ ⟨c,i,b,rfl,rfl,rfl,hw.2.2.2,by omega,by omega,by omega,rfl⟩ ?_;w_on;exact⟨by show 3<=99999;decide,rfl⟩
   |add a b2=>
    simp only[wA,nA,hA] at hw hn hh
    match i,hk with
    |0,hk=>
     simp only[qA,cq];w_on;refine aj _ (dR "add" ["join","left","half","lack","add"] (b:=true) (by decide +kernel)) ?_;w_on;refine cJ (by decide +kernel) ?_;w_on;have cp:=nU (xs:=[PV.str "add",qA a,qA b2]) (i:=0) (qA b) (by simp);exact⟨by rw[cp.2.1];decide,by rw[cp.2.2];simp,cp.1⟩
    |1,hk=>
     simp only[qA,cq];w_on;refine aj _ (dR "add" ["join","left","half","lack","add"] (b:=true) (by decide +kernel)) ?_;w_on;refine cJ (by decide +kernel) ?_;w_on;have cp:=nU (xs:=[PV.str "add",qA a,qA b2]) (i:=1) (qA b) (by simp);exact⟨by rw[cp.2.1];decide,by rw[cp.2.2];simp,cp.1⟩
    |i+2,hk=>simp [kids] at hk
end
noncomputable def nW:PV->Prop
 |.int _=>True
 |.bl _=>True
 |_=>False
noncomputable def Wx:PV->Bool
 |.int _=>true
 |_=>false
noncomputable def HN (x r:PV):Prop:=nW x/\r=.bl (Wx x)
noncomputable def rg (x y z r:PV):Prop:=∃(L:List (ai×Nat))(u:PV),Ch x L u/\y=qW (L.map (·.2))/\L.length<=10000/\r=fo L z
theorem HP:∀{L:List (ai×Nat)}{t u:PV},Ch t L u->∀ s∈L,s.2<s.1.length/\s.1.length<=100000
 |s::L,t,u,⟨_,h2,y,hy,h⟩,x,hx=>by
  rcases mem_cons.mp hx with rfl|e
  ·exact⟨(c7 hy).1,h2⟩
  ·exact HP h x e
noncomputable def pS (s:ai×Nat):PV:=.tup [.tup s.1,.int (s.2:Nat)]
noncomputable def fU:Ak->List Ak
 |.tab _ _=>[]
 |.one _ a _=>[a]
 |.pick a _=>[a]
 |.two _ a b _=>[a,b]
 |.add a b=>[a,b]
noncomputable def cond:Ak->Option (Nat×Cd)
 |.pick _ c=>some (2,c)
 |.two _ _ _ c=>some (3,c)
 |_=>none
noncomputable def HS (x r:PV):Prop:=∃ a:Ak,x=qA a/\wA a/\nA a<=100000/\r=.tup ((fU a).map qA)
noncomputable def HU (x y r:PV):Prop:=∃(c:Cd)(p:List Nat),x=qC c/\y=qW p/\wC c/\nC c<=100000/\hC c<=50/\p.length<=50/\r=.lst ((cps c p).map qP)
noncomputable def zw (x r:PV):Prop:=∃ a:Ak,x=qA a/\wA a/\hA a<=50/\nA a<=100000/\r=.lst ((cN a).map qP)
noncomputable def uw:List (Str×PV):=[("table",.tup [.int 3,.int 0]),("pick",.tup [.int 3,.int 1]),("show",.tup [.int 3,.int 1]),("join",.tup [.int 4,.int 2]),("left",.tup [.int 4,.int 2]),("half",.tup [.int 4,.int 2]),("lack",.tup [.int 4,.int 2]),("once",.tup [.int 2,.int 1]),("group",.tup [.int 4,.int 1]),("add",.tup [.int 3,.int 2]),("first",.tup [.int 4,.int 1])]
noncomputable def uy:List (Str×PV):=[("pick",.int 2),("join",.int 3),("left",.int 3),("half",.int 3),("lack",.int 3)]
theorem sI {n d:Nat}{i:Int}(h0:0<=i)(h1:i<=n):HT.aV n d (some i)=i.toNat:=by
 show(if i<0 then _ else min i.toNat n)=_;rw[if_neg (by omega)];omega
theorem Wy {xs:ai}{a b:Nat}(h1:a<=b)(h2:b<=xs.length):cI xs (some (a:Int)) (some (b:Int))=(xs.drop a).take (b-a):=by
 unfold cI;rw[sI (by omega) (by omega),sI (by omega) (by omega),Int.toNat_natCast,Int.toNat_natCast]
theorem Wz {h:Str}(hh:h∈H1):∃ k:Int,eY uw h=some (.tup [.int k,.int 1]):=by
 simp only[H1,mem_cons,not_mem_nil,or_false] at hh;rcases hh with rfl|rfl|rfl|rfl<;>exact⟨_,rfl⟩
theorem WA {h:Str}(hh:h∈H2):eY uw h=some (.tup [.int 4,.int 2]):=by
 simp only[H2,mem_cons,not_mem_nil,or_false] at hh;rcases hh with rfl|rfl|rfl|rfl<;>rfl
section
variable {P:Program}{w:World}{K:Frag}{mg:a0}{base:Heap}
theorem WB:bx ["thing"] ["thing"] (aX wj):=by walk_at "s"
theorem WC {k:Nat}(D:Df K mg "is_whole" wj)(B:Bt mg):Kn P w K mg base (k+1) "is_whole" (aY K false (bX HN)):=by
 refine D.dO WB (λ_ _ _ _ _ _=>gD λ_=>rfl) (λ_ _=>bX.len) (by decide) (λf aE A outer s H E hr=>⟨_,(s1 (aJ (xM (pA .int rfl B.isinstance B.int PyProof.Rows.boot_int (qn 0)) (xK (PN (pA .bool rfl B.isinstance B.bool PyProof.Rows.boot_bool (qn 0))))))),λB' xs r h=>?_⟩);obtain⟨x0,rfl,h⟩:=h;change (_:US) (cW false r) ⟨B',[some (.val x0)],none⟩;obtain⟨hx,rfl⟩:=h;cases x0<;>first|exact hx.elim|skip
 all_goals w_on
 case bl b=>
  refine aj true rfl ?_;refine cJ rfl ?_;w_on;refine aj true (by cases b<;>rfl) ?_;w_on;rfl
 case int i=>rfl
theorem l8:bx ["thing","path","other","passed","place","around"] ["thing","path","other"] (aX wk):=by walk_at "s"
theorem WD {k:Nat}(D:Df K mg "replaced" wk)(B:Bt mg):Kn P w K mg base (k+1) "replaced" (aY K false (dB rg)):=by
 refine D.dO l8 (λ_ _ _ _ _ _=>fM λ_ _ _=>rfl) (λ_ _=>dB.len) (by decide) (λf aE A outer s H E hr=>⟨_,(sc (eR (i:=3) l8.nd (el an))
  (sc (eU PassesOwn.never rfl (jy rfl 1) (aQ (i:=4) l8.nd)
  (sc (eS (fR rfl 3 (et (ac (vn 0) (ac (vn 4) an)))))
  (s1 (a_ (i:=0) l8.nd (ax rfl hr (qn 0) (qn 4))))))
  (sc (eU PassesOwn.never rfl (UZ rfl B.reversed (vn 3)) (dX (n:=2) rfl rfl (bp (aQ (i:=5) l8.nd) (bp (aQ (i:=4) l8.nd) dW)))
  (s1 (a_ (i:=2) l8.nd (bT rfl (qv (bT rfl (qv (jC rfl (qn 5) iZ (gK (vn 4)))) (qv (et (ac (vn 2) an))))) (qv (jC rfl (qn 5) (gK (bT rfl (qn 4) (qv vi))) iZ))))))
  (s1 (aJ (vn 2)))))),λB' xs r h=>?_⟩)
 obtain⟨x0,x1,x2,rfl,h⟩:=h;change (_:US) (cW false r) ⟨B',[some (.val x0),some (.val x1),some (.val x2),none,none,none],none⟩;obtain⟨L,u,hc,rfl,hl,rfl⟩:=h;have xq:=HP hc;simp only[qW,map_map];w_on;intro p;show fG (L.map λs=>PV.int (s.2:Nat)) _ _ _ _ _;refine gh L (λs=>PV.int (s.2:Nat)) (λdd A=>∃(t:PV)(o:Option Sl),A=⟨B',[some (.val t),some (.val (PV.tup (L.map λs=>PV.int (s.2:Nat)))),some (.val x2),some (.own p (.lst (dd.map pS))),o,none],none⟩/\∀ r,L=dd++r->Ch t r u) ⟨x0,none,rfl,λr e=>by rw[nil_append] at e;rw[<- e];exact hc⟩ (λ_ _ _=>trivial) ?_ ?_
 ·rintro dd s r A2 e ⟨t,o,rfl,ht⟩;obtain⟨rfl,h2,y,hy,h3⟩:=ht _ e;have dl:dd.length<=10000:=by have:=congrArg List.length e;simp at this;omega
  w_on;refine⟨by rw[length_map];omega,?_⟩;refine aj y (i5 (by omega) (by rw[Int.toNat_natCast];exact hy)) ?_;w_on;exact⟨y,_,by rw[map_append];rfl,λr' e'=>by rw[e,append_assoc] at e';have:=append_cancel_left e';simp only[singleton_append,cons.injEq,true_and] at this;rw[<- this];exact h3⟩
 ·rintro A2 ⟨t,o,rfl,ht⟩;w_on;refine⟨L.map pS,rfl,?_⟩;rw[<- map_reverse];refine gh L.reverse pS (λdd A=>∃(o4 o5:Option Sl),A=⟨B',[some (.val t),some (.val (PV.tup (L.map λs=>PV.int (s.2:Nat)))),some (.val (fo dd.reverse x2)),some (.val (.lst (L.map pS))),o4,o5],none⟩) ⟨_,_,rfl⟩ (λ_ _ _=>trivial) ?_ ?_
  ·rintro dd s r A2 e ⟨o4,o5,rfl⟩;have hs:=xq s (mem_reverse.mp (by rw[e];simp));simp only[pS];w_on;have e1:cI s.1 none (some (s.2:Int))=s.1.take s.2:=by rw[tH (by omega) (by omega),Int.toNat_natCast]
   have e2:cI s.1 (some ((s.2:Int)+1)) none=s.1.drop (s.2+1):=by rw[iz (by omega) (by omega),show((s.2:Int)+1).toNat=s.2+1 by omega]
   rw[e1,e2,reverse_append];exact⟨by rw[length_take];omega,by rw[length_append,length_take,length_drop,length_singleton];omega,_,_,rfl⟩
  ·rintro A2 ⟨o4,o5,rfl⟩;w_on;rw[reverse_reverse]
theorem WE:bx ["ask"] ["ask"] (aX wm):=by walk_at "s"
theorem WG {k:Nat}(D:Df K mg "asks_within" wm)(B:Bt mg)(uz:Gd P w K mg "ASK_SIZES" uw):Kn P w K mg base (k+1) "asks_within" (aY K false (bX HS)):=by
 refine D.dO WE (λ_ _ _ _ _ _=>gD λ_=>rfl) (λ_ _=>bX.len) (by decide) (λf aE A outer s H E hr=>⟨_,(s1 (aJ (jC rfl (qn 0) (gK vi) (gK (bT rfl (qv vi) (qv (ax rfl hr (qv (Hg uz rfl (qv (ax rfl hr (qn 0) (qv vi))))) (qv vi)))))))),λB' xs r h=>?_⟩);obtain⟨x0,rfl,h⟩:=h;change (_:US) (cW false r) ⟨B',[some (.val x0)],none⟩;obtain⟨a,rfl,hw,hn,rfl⟩:=h
 cases a with
 |tab n w=>
  simp only[qA,fU];w_on;refine aj (.tup [.int 3,.int 0]) (by rfl) ?_;w_on;rfl
 |one h a r=>
  simp only[wA] at hw;obtain⟨k,hk⟩:=Wz hw.1;simp only[qA,fU];w_on;refine aj _ hk ?_;w_on;exact(Wy (xs:=PV.str h::qA a::r) (a:=1) (b:=2) (by decide) (by simp)).trans rfl
 |pick a c=>
  simp only[qA,fU];w_on;refine aj (.tup [.int 3,.int 1]) (by rfl) ?_;w_on;rfl
 |two h a b c=>
  simp only[wA] at hw;simp only[qA,fU];w_on;refine aj _ (WA hw.1) ?_;w_on;rfl
 |add a b=>
  simp only[qA,fU];w_on;refine aj (.tup [.int 3,.int 2]) (by rfl) ?_;w_on;rfl
end
noncomputable def m1:PV->Nat
 |.tup [c,_]=>(toD c).bulk+1
 |_=>0
noncomputable def mu (A:AS):Nat:=match A.ae[3]? with
 |some (some (Sl.own _ (OC.lst xs)))=>(xs.map m1).sum
 |_=>0
noncomputable def eE (s:Cd×List Nat):PV:=.tup [qC s.1,qW s.2]
theorem WH {α:Type}(l:List α):l=[]\/∃ ys y,l=ys++[y]:=by
 rcases eq_nil_or_concat l with h|⟨ys,y,h⟩
 ·exact .inl h
 ·exact .inr ⟨ys,y,by rw[h,concat_eq_append]⟩
noncomputable def nX (st:List (Cd×List Nat)):List (List Nat×Ak):=st.reverse.flatMap λs=>cps s.1 s.2
theorem p6 (ys:List (Cd×List Nat))(y:Cd×List Nat):nX (ys++[y])=cps y.1 y.2++nX ys:=by
 unfold nX;rw[reverse_append];simp
noncomputable def l9 (st:List (Cd×List Nat)):Nat:=(st.map λs=>nC s.1).sum
theorem WI (c:Cd):1<=nC c:=by cases c<;>simp only[nC]<;>omega
theorem p7 (ys:List (Cd×List Nat))(y:Cd×List Nat):l9 (ys++[y])=l9 ys+nC y.1:=by
 unfold l9;simp
theorem HV:∀ st:List (Cd×List Nat),st.length<=l9 st
 |[]=>ar _
 |s::st=>by
  have:=HV st;have:=WI s.1;unfold l9 at *;simp only[length_cons,map_cons,sum_cons];omega
section
variable {P:Program}{w:World}{K:Frag}{mg:a0}{base:Heap}
theorem p8:bx ["cond","path","found","left","at","part"] ["cond","path"] (aX wo):=by walk_at "s"
theorem WJ {k:Nat}(D:Df K mg "some_paths" wo)(B:Bt mg):Kn P w K mg base (k+1) "some_paths" (aY K true (cD HU)):=by
 refine D.dO p8 (λ_ _ _ _ _ _=>fg λ_ _=>rfl) (λ_ _=>cD.len) (by decide) (λf aE A outer s H E hr=>⟨_,(sc (eR (i:=2) p8.nd (el an))
  (sc (eR (i:=3) p8.nd (el (ac (et (ac (vn 0) (ac (vn 1) an))) an)))
  (sc (P0 PassesOwn.never (kf rfl (qn 3))
  (sc (a_ (i:=4) p8.nd (QS rfl 3))
  (sc (a_ (i:=5) p8.nd (ax rfl hr (qn 4) (qv vi)))
  (s1 (bg (bW rfl hr (qv (ax rfl hr (qn 5) (qv vi))) (qv vs)) (sc (eS (fR rfl 2 (et (ac (bT rfl (qv (ax rfl hr (qn 4) (qv vi))) (qv (et (ac vi an)))) (ac (ax rfl hr (qn 5) (qv vi)) an)))))
  (s1 (eS (fR rfl 3 (et (ac (ax rfl hr (qn 5) (qv vi)) (ac (bT rfl (qv (ax rfl hr (qn 4) (qv vi))) (qv (et (ac vi an)))) an))))))) (s1 (bg (ni rfl hr (qv (ax rfl hr (qn 5) (qv vi))) (qv (et (ac vs (ac vs an))))) (sc (eS (fR rfl 3 (et (ac (ax rfl hr (qn 5) (qv vi)) (ac (bT rfl (qv (ax rfl hr (qn 4) (qv vi))) (qv (et (ac vi an)))) an)))))
  (s1 (eS (fR rfl 3 (et (ac (ax rfl hr (qn 5) (qv vi)) (ac (bT rfl (qv (ax rfl hr (qn 4) (qv vi))) (qv (et (ac vi an)))) an))))))) (s1 (bg (bW rfl hr (qv (ax rfl hr (qn 5) (qv vi))) (qv vs)) (s1 (eS (fR rfl 3 (et (ac (ax rfl hr (qn 5) (qv vi)) (ac (bT rfl (qv (ax rfl hr (qn 4) (qv vi))) (qv (et (ac vi an)))) an)))))) sn)))))))))
  (s1 (E7 (i:=2)))))),λB' xs r h=>?_⟩)
 obtain⟨x0,x1,rfl,h⟩:=h;change (_:US) (cW true r) ⟨B',[some (.val x0),some (.val x1),none,none,none,none],none⟩;obtain⟨c,pt,rfl,rfl,hw,hn,hh,hp,rfl⟩:=h;w_on;intro p q;refine⟨λA=>∃(acc:List (List Nat×Ak))(st:List (Cd×List Nat))(o1 o2:Option Sl),A=⟨B',[some (.val (qC c)),some (.val (qW pt)),some (.own p (.lst (acc.map qP))),some (.own q (.lst (st.map eE))),o1,o2],none⟩/\(∀ y∈st,wC y.1/\y.2.length+hC y.1<=100)/\acc++nX st=cps c pt/\l9 st<=nC c,mu,⟨[],[(c,pt)],none,none,rfl,λy hy=>by rw[mem_singleton.mp hy];exact⟨hw,by show pt.length+hC c<=100;omega⟩,by simp [nX],by simp [l9]⟩,?_⟩;rintro _ ⟨acc,st,o1,o2,rfl,hs,he,hN⟩
 have hL:acc.length<=100000:=by
  have h1:=congrArg List.length he;have h2:=congrArg List.length (jH c pt);have h3:=eZ c;rw[length_append] at h1;rw[length_map] at h2;omega
 rcases WH st with rfl|⟨ys,y,rfl⟩
 ·w_on;rw[if_neg (by decide)];w_on;rw[show nX []=[] from rfl,append_nil] at he;rw[he]
 ·have hy:=hs y (by simp);have uA:∀ z∈ys,wC z.1/\z.2.length+hC z.1<=100:=λz hz=>hs z (by simp [hz]);rw[p6] at he;rw[p7] at hN;have Z5:=HV ys;obtain⟨y,yp⟩:=y
  have dec:∀(A:AS)(zs:ai),A.ae[3]?=some (some (Sl.own q (OC.lst (ys.map eE++zs))))->(zs.map m1).sum<(toD (qC y)).bulk+1->mu A<mu ⟨B',[some (.val (qC c)),some (.val (qW pt)),some (.own p (.lst (acc.map qP))),some (.own q (.lst ((ys++[(y,yp)]).map eE))),o1,o2],none⟩:=λA zs e hl=>by
   show(match A.ae[3]? with|some (some (Sl.own _ (OC.lst xs)))=>(xs.map m1).sum|_=>0)<(((ys++[(y,yp)]).map eE).map m1).sum;rw[e];show((ys.map eE++zs).map m1).sum<_;simp only[map_append,sum_append,map_cons,map_nil,sum_cons,sum_nil,eE,m1];omega
  w_on;rw[if_pos (by simp)];refine⟨ys.map eE,eE (y,yp),by rw[map_append];rfl,?_⟩;simp only[eE];w_on;have yl:yp.length<=100:=by have:=hy.2;simp only at this;omega
  have ml:(yp.map λi=>PV.int (i:Nat)).length=yp.length:=length_map ..
  cases y with
  |cn a c2=>
   simp only[wC,hC,nC,cps] at hy hN he;simp only[qC,qW];w_on;refine cJ (by decide +kernel) ?_;w_on;refine⟨by omega,by rw[length_map];omega,by omega,by rw[length_map];omega,⟨acc++[(yp++[1],a)],ys++[(c2,yp++[2])],_,_,by simp only[map_append,map_cons,map_nil,qP,eE,qW];rfl,?_,?_,?_⟩,?_⟩
   ·intro z hz;rcases mem_append.mp hz with e|e
    ·exact uA z e
    ·rw[mem_singleton.mp e];exact⟨hy.1.2,by show(yp++[2]).length+hC c2<=100;rw[length_append,length_singleton];omega⟩
   ·rw[p6,<- he];simp
   ·rw[p7];simp only;omega
   ·refine dec _ [eE (c2,yp++[2])] ?_ ?_
    ·simp only[eE,qW,map_append,map_cons,map_nil];rfl
    ·show((toD (qC c2)).bulk+1)+0<PyData.bulk (toD (.str "some"))+1+(PyData.bulk (toD (qA a))+1+(PyData.bulk (toD (qC c2))+1+0))+1;omega
  |nt c2=>
   simp only[wC,hC,nC,cps] at hy hN he;simp only[qC,qW];w_on;refine bq (by decide +kernel) ?_;w_on;refine aj _ (dR "not" ["both","either"] (b:=false) (by decide +kernel)) ?_;refine bq rfl ?_;w_on;refine cJ (by decide +kernel) ?_;w_on;refine⟨by omega,by rw[length_map];omega,⟨acc,ys++[(c2,yp++[1])],_,_,by simp only[map_append,map_cons,map_nil,eE,qW];rfl,?_,?_,?_⟩,?_⟩
   ·intro z hz;rcases mem_append.mp hz with e|e
    ·exact uA z e
    ·rw[mem_singleton.mp e];exact⟨hy.1,by show(yp++[1]).length+hC c2<=100;rw[length_append,length_singleton];omega⟩
   ·rw[p6,<- he]
   ·rw[p7];simp only;omega
   ·refine dec _ [eE (c2,yp++[1])] ?_ ?_
    ·simp only[eE,qW,map_append,map_cons,map_nil];rfl
    ·show((toD (qC c2)).bulk+1)+0<PyData.bulk (toD (.str "not"))+1+(PyData.bulk (toD (qC c2))+1+0)+1;omega
  |bo h c2 d=>
   simp only[wC,hC,nC,cps] at hy hN he
   have h1:(h=="some")=false/\[("both":Str),"either"].contains h=true:=by
    simp only[H3,mem_cons,not_mem_nil,or_false] at hy;rcases hy.1.1 with rfl|rfl<;>decide +kernel
   simp only[qC,qW];w_on;refine bq h1.1 ?_;w_on;refine aj _ (dR h ["both","either"] h1.2) ?_;refine cJ rfl ?_;w_on;refine⟨by omega,by rw[length_map];omega,by omega,by rw[length_append,length_map,length_singleton];omega,⟨acc,ys++[(d,yp++[2])]++[(c2,yp++[1])],_,_,by simp only[map_append,map_cons,map_nil,eE,qW];rfl,?_,?_,?_⟩,?_⟩
   ·intro z hz;rcases mem_append.mp hz with e|e
    ·rcases mem_append.mp e with e|e
     ·exact uA z e
     ·rw[mem_singleton.mp e];exact⟨hy.1.2.2,by show(yp++[2]).length+hC d<=100;rw[length_append,length_singleton];omega⟩
    ·rw[mem_singleton.mp e];exact⟨hy.1.2.1,by show(yp++[1]).length+hC c2<=100;rw[length_append,length_singleton];omega⟩
   ·rw[p6,p6,<- he];simp
   ·rw[p7,p7];simp only;omega
   ·refine dec _ [eE (d,yp++[2]),eE (c2,yp++[1])] ?_ ?_
    ·simp only[eE,qW,map_append,map_cons,map_nil,append_assoc];rfl
    ·show((toD (qC d)).bulk+1)+(((toD (qC c2)).bulk+1)+0)<PyData.bulk (toD (.str h))+1+(PyData.bulk (toD (qC c2))+1+(PyData.bulk (toD (qC d))+1+0))+1;omega
  |lf h r=>
   simp only[wC,hC,nC,cps] at hy hN he
   have h1:(h=="some")=false/\[("both":Str),"either"].contains h=false/\(h=="not")=false:=by
    simp only[H4,mem_cons,not_mem_nil,or_false] at hy;rcases hy.1 with rfl|rfl|rfl|rfl<;>decide +kernel
   simp only[qC,qW];w_on;refine bq h1.1 ?_;w_on;refine aj _ (dR h ["both","either"] h1.2.1) ?_;refine bq rfl ?_;w_on;refine bq h1.2.2 ?_;w_on;exact⟨⟨acc,ys,_,_,rfl,uA,he,by omega⟩,dec _ [] (by rw[append_nil];rfl) (by show 0<_+1;omega)⟩
end
theorem WK (l:List Ak):i7 (l.map qA)=l.zipIdx.map λq=>PV.tup [.int ((q.2:Int)+1),qA q.1]:=by
 unfold i7;rw[zipIdx_map,map_map];rfl
theorem HW {h:Str}(hh:h∈H2):eY uy h=some (.int 3):=by
 simp only[H2,mem_cons,not_mem_nil,or_false] at hh;rcases hh with rfl|rfl|rfl|rfl<;>rfl
theorem WL {h:Str}(hh:h∈H1):eY uy h=none:=by
 simp only[H1,mem_cons,not_mem_nil,or_false] at hh;rcases hh with rfl|rfl|rfl|rfl<;>rfl
noncomputable def uD (x r:PV):Prop:=∃ a:Ak,x=qA a/\wA a/\hA a<=50/\nA a<=100000/\r=.lst ((kids a).map qA)
noncomputable def p9:Option (List Nat×Ak)->PV
 |some s=>qP s
 |none=>.non
noncomputable def zx:Option (List Nat×Ak)->PV
 |some s=>qA s.2
 |none=>.non
noncomputable def zy (x y r:PV):Prop:=∃(a:Ak)(ws:ai),x=qA a/\y=.tup ws/\wA a/\hA a<=50/\nA a<=100000/\ws.length<=100/\(∀ x∈ws,nW x)/\r=p9 (fu a ws)
noncomputable def nY (x y r:PV):Prop:=∃(a:Ak)(ws:ai),x=qA a/\y=.tup ws/\wA a/\hA a<=50/\nA a<=100000/\ws.length<=100/\(∀ x∈ws,nW x)/\r=zx (fu a ws)
noncomputable def uE (x y z r:PV):Prop:=∃(a p q:Ak)(wy:List Nat),x=qA a/\y=qW wy/\z=qA q/\wA a/\hA a<=50/\nA a<=100000/\wy.length<=100/\apart a wy=some p/\r=qA (c6 a wy q)
section
variable {P:Program}{w:World}{K:Frag}{mg:a0}{base:Heap}
theorem zB:bx ["ask","found","place"] ["ask"] (aX wq):=by walk_at "s"
theorem WM {k:Nat}(D:Df K mg "child_paths" wq)(B:Bt mg)(p_:Gd P w K mg "COND_PLACES" uy)(HX:Kn P w K mg base k "some_paths" (aY K true (cD HU)))(HY:Kn P w K mg base k "asks_within" (aY K false (bX HS))):Kn P w K mg base (k+1) "child_paths" (aY K true (bX zw)):=by
 refine D.dO zB (λ_ _ _ _ _ _=>gD λ_=>rfl) (λ_ _=>bX.len) (by decide) (λf aE A outer s H E hr=>⟨_,(sc (Qa (i:=1) zB.nd (N:=["place","child"]) (k:=2) (ix:=[]) cS rfl (VH rfl B.enumerate (bI rfl HY hr (ac (vn 0) an)) vi) (λ_ _ _ _=>(dX (n:=2) rfl rfl (bp (aQ (i:=0) (by show(["place","child"]:aq).Nodup;decide +kernel)) (bp (aQ (i:=1) (by show(["place","child"]:aq).Nodup;decide +kernel)) dW)))) (λ_ _ _ _=>kn) (λ_ _ _ _=>(et (ac (et (ac (vn 0) an)) (ac (vn 1) an)))))
  (sc (bg (VO p_ rfl (qv (ax rfl hr (qn 0) (qv vi)))) (sc (a_ (i:=2) zB.nd (Hg p_ rfl (qv (ax rfl hr (qn 0) (qv vi)))))
  (s1 (eS (QU rfl 1 (qf (jA rfl HX hr (ac (ax rfl hr (qn 0) (qn 2)) (ac (et (ac (vn 2) an)) an)))))))) sn)
  (s1 (E7 (i:=1))))),λB' xs r h=>?_⟩)
 obtain⟨x0,rfl,h⟩:=h;change (_:US) (cW true r) ⟨B',[some (.val x0),none,none],none⟩;obtain⟨a,rfl,hw,hh,hn,rfl⟩:=h;have sl:(fU a).length<=2:=by cases a<;>simp [fU]
 w_on;refine aj _ ⟨a,rfl,hw,hn,rfl⟩ ?_;w_on;rw[WK];refine nk (fU a).zipIdx (λq=>PV.tup [.int ((q.2:Int)+1),qA q.1]) (λq=>qP ([q.2+1],q.1)) (by rw[length_zipIdx];omega) ?_ ?_
 ·intro B x hx R hR;w_on;exact hR _ ⟨rfl,rfl⟩ rfl
 w_on;intro p
 cases a with
 |tab n w=>
  simp only[qA,fU,cN];w_on;refine bq (by rfl) ?_;w_on;rfl
 |one h a r=>
  simp only[wA] at hw;simp only[qA,fU,cN];w_on;refine bq (by rw[WL hw.1];rfl) ?_;w_on;rfl
 |pick a c=>
  simp only[wA,hA,nA] at hw hh hn;have cl:=eZ c;have ck:=congrArg List.length (jH c [2]);rw[length_map] at ck;simp only[qA,fU,cN];w_on;refine cJ (by rfl) ?_;w_on;refine aj (.int 2) (by rfl) ?_;w_on;refine aj _ ⟨c,[2],rfl,rfl,hw.2,by omega,by omega,by decide,rfl⟩ ?_;w_on;exact⟨by rw[length_map,length_map,length_zipIdx,length_singleton];omega,rfl⟩
 |two h a b c=>
  simp only[wA,hA,nA] at hw hh hn;have cl:=eZ c;have ck:=congrArg List.length (jH c [3]);rw[length_map] at ck;simp only[qA,fU,cN];w_on;refine cJ (by rw[HW hw.1];rfl) ?_;w_on;refine aj _ (HW hw.1) ?_;w_on;refine aj _ ⟨c,[3],rfl,rfl,hw.2.2.2,by omega,by omega,by decide,rfl⟩ ?_;w_on;exact⟨by rw[length_map,length_map,length_zipIdx];simp only[length_cons,length_nil];omega,rfl⟩
 |add a b=>
  simp only[qA,fU,cN];w_on;refine bq (by rfl) ?_;w_on;rfl
theorem WN:bx ["ask"] ["ask"] (aX wt):=by walk_at "s"
theorem WO {k:Nat}(D:Df K mg "children" wt)(B:Bt mg)(qa:Kn P w K mg base k "child_paths" (aY K true (bX zw))):Kn P w K mg base (k+1) "children" (aY K true (bX uD)):=by
 refine D.dO WN (λ_ _ _ _ _ _=>gD λ_=>rfl) (λ_ _=>bX.len) (by decide) (λf aE A outer s H E hr=>⟨_,(s1 (PU (lH (N:=["path","child"]) (k:=2) (ix:=[]) cS rfl (iv rfl (vf (jA rfl qa hr (ac (vn 0) an)))) (λ_ _ _ _=>(dX (n:=2) rfl rfl (bp (aQ (i:=0) (by show(["path","child"]:aq).Nodup;decide +kernel)) (bp (aQ (i:=1) (by show(["path","child"]:aq).Nodup;decide +kernel)) dW)))) (λ_ _ _ _=>kn) (λ_ _ _ _=>(vn 1))))),λB' xs r h=>?_⟩);obtain⟨x0,rfl,h⟩:=h;change (_:US) (cW true r) ⟨B',[some (.val x0)],none⟩;obtain⟨a,rfl,hw,hh,hn,rfl⟩:=h;have kl:=tU a;have k2:=HI a;w_on;refine aj _ ⟨a,rfl,hw,hh,hn,rfl⟩ ?_;w_on;refine nk (cN a) qP (λs=>qA s.2) (by omega) ?_ ?_
 ·intro B x hx R hR;simp only[qP];w_on;exact hR _ ⟨rfl,rfl⟩ rfl
 w_on;rw[<- tT,map_map];rfl
theorem nZ:bx ["ask","way","path","number","found"] ["ask","way"] (aX wu):=by walk_at "s"
theorem WQ {k:Nat}(D:Df K mg "path_to" wu)(B:Bt mg)(qa:Kn P w K mg base k "child_paths" (aY K true (bX zw)))(H_:Kn P w K mg base k "is_whole" (aY K false (bX HN))):Kn P w K mg base (k+1) "path_to" (aY K false (cD zy)):=by
 refine D.dO nZ (λ_ _ _ _ _ _=>fg λ_ _=>rfl) (λ_ _=>cD.len) (by decide) (λf aE A outer s H E hr=>⟨_,(sc (bg (kc (kf rfl (qv (pA .tuple rfl B.isinstance B.tuple PyProof.Rows.boot_tuple (qn 1))))) (s1 (aJ v0)) sn)
  (sc (a_ (i:=2) nZ.nd (et an))
  (sc (eU PassesOwn.never rfl (jy rfl 1) (aQ (i:=3) nZ.nd)
  (sc (a_ (i:=4) nZ.nd (vf (jA rfl qa hr (ac (vn 0) an))))
  (sc (bg (PW.pt (gG (kc (kf rfl (qv (bI rfl H_ hr (ac (vn 3) an))))) (iU (kc (QW (Lv.or Nm) (qJ.or vq) Qq yq (qv vi) (qn 3) (qv (fH rfl B.len (qn 4)))))))) (s1 (aJ v0)) sn)
  (sc (a_ (i:=2) nZ.nd (bT rfl (qn 2) (qv (ax rfl hr (qv (ax rfl hr (qn 4) (qn 3))) (qv vi)))))
  (s1 (a_ (i:=0) nZ.nd (ax rfl hr (qv (ax rfl hr (qn 4) (qn 3))) (qv vi))))))))
  (s1 (aJ (et (ac (vn 2) (ac (vn 0) an)))))))),λB' xs r h=>?_⟩)
 obtain⟨x0,x1,rfl,h⟩:=h;change (_:US) (cW false r) ⟨B',[some (.val x0),some (.val x1),none,none,none],none⟩;obtain⟨a,ws,rfl,rfl,hw,hh,hn,hl,hk,rfl⟩:=h;w_on;rw[show fG ws=fG (ws.map id) by rw[map_id]];refine gh ws id (λdd A=>∃(k:Ak)(p:List Nat)(o3 o4:Option Sl),A=⟨B',[some (.val (qA k)),some (.val (.tup ws)),some (.val (qW p)),o3,o4],none⟩/\wA k/\hA k<=50/\nA k<=100000/\p.length<=50*dd.length/\∀ r,ws=dd++r->fu a ws=(fu k r).map λs=>(p++s.1,s.2)) ⟨a,[],none,none,rfl,hw,hh,hn,Nat.zero_le _,λr e=>by rw[nil_append] at e;rw[<- e];cases fu a ws<;>rfl⟩ (λ_ _ _=>trivial) ?_ ?_
 ·rintro dd x r A2 e ⟨k,p,o3,o4,rfl,w1,w2,w3,w4,w5⟩;have hx:=hk x (by rw[e];simp);have e5:=w5 _ e;have dl:dd.length<=100:=by have:=congrArg List.length e;simp at this;omega
  w_on;refine aj _ ⟨k,rfl,w1,w2,w3,rfl⟩ ?_;w_on;refine aj _ ⟨hx,rfl⟩ ?_;cases x<;>first|exact hx.elim|skip
  ·simp only[id];w_on;refine bq rfl ?_;w_on;rw[e5];rfl
  ·rename_i i;simp only[id];w_on;refine cJ rfl ?_;w_on;refine bM (λe0=>?_) λe0=>?_
   ·have i0:=of_decide_eq_true e0;w_on;refine bM (λe1=>?_) λe1=>?_
    ·have i1:=of_decide_eq_true e1;rw[length_map] at i1;have il:i.toNat<(cN k).length:=by omega
     obtain⟨⟨q,k2⟩,hq⟩:∃ s,(cN k)[i.toNat]?=some s:=⟨_,cg il⟩;obtain⟨L,l1,_,l3,_⟩:=uq w3 hq;have kk:k2∈kids k:=by rw[<- tT];exact mem_map.mpr ⟨_,mem_of_getElem? hq,rfl⟩
     obtain⟨k1,k3,k4⟩:=kJ w1 k2 kk;have ql:q.length<=50:=by rw[l1,length_map];omega
     have Ia:cz ((cN k).map qP) i=some (qP (q,k2)):=i5 i0 (by rw[getElem?_map,hq];rfl);w_on;refine aj _ Ia ?_;simp only[qP,qW];w_on;refine⟨by rw[length_map,length_map];omega,?_⟩;refine aj _ Ia ?_;simp only[qP,qW];w_on;refine⟨k2,p++q,_,_,by simp only[qW,map_append];rfl,k1,by omega,by omega,by rw[length_append,length_append,length_singleton];omega,λr' e'=>?_⟩
     have er:r=r':=by
      rw[e,append_assoc] at e';have:=append_cancel_left e';simpa using this
     subst er;rw[e5];simp only[fu];rw[if_pos i0,hq];simp only[Option.map_map]
     congr 1
     funext s
     simp only[Function.comp,append_assoc]
    ·have i1:=of_decide_eq_false e1;rw[length_map] at i1;w_on;rw[e5];simp only[fu];rw[if_pos i0,getElem?_eq_none (by omega)];rfl
   ·have i0:=of_decide_eq_false e0;w_on;rw[e5];simp only[fu];rw[if_neg i0];rfl
 ·rintro A2 ⟨k,p,o3,o4,rfl,w1,w2,w3,w4,w5⟩;have:=w5 [] (by simp);w_on;rw[this];simp only[fu,Option.map_some,p9,qP,append_nil]
theorem Ib:bx ["ask","way","found"] ["ask","way"] (aX wz):=by walk_at "s"
theorem WR {k:Nat}(D:Df K mg "part_at" wz)(B:Bt mg)(qb:Kn P w K mg base k "path_to" (aY K false (cD zy))):Kn P w K mg base (k+1) "part_at" (aY K false (cD nY)):=by
 refine D.dO Ib (λ_ _ _ _ _ _=>fg λ_ _=>rfl) (λ_ _=>cD.len) (by decide) (λf aE A outer s H E hr=>⟨_,(sc (a_ (i:=2) Ib.nd (bI rfl qb hr (ac (vn 0) (ac (vn 1) an))))
  (s1 (aJ (EX (FL (qn 2) (qv v0)) v0 (ax rfl hr (qn 2) (qv vi)))))),λB' xs r h=>?_⟩)
 obtain⟨x0,x1,rfl,h⟩:=h;change (_:US) (cW false r) ⟨B',[some (.val x0),some (.val x1),none],none⟩;obtain⟨a,ws,rfl,rfl,hw,hh,hn,hl,hk,rfl⟩:=h;w_on;refine aj _ ⟨a,ws,rfl,rfl,hw,hh,hn,hl,hk,rfl⟩ ?_
 cases fu a ws with
 |none=>
  simp only[p9,zx];w_on
 |some s=>
  simp only[p9,zx,qP];w_on
theorem Ic:bx ["ask","way","part","found"] ["ask","way","part"] (aX wB):=by walk_at "s"
theorem WS {k:Nat}(D:Df K mg "with_part" wB)(B:Bt mg)(qb:Kn P w K mg base k "path_to" (aY K false (cD zy)))(Ie:Kn P w K mg base k "replaced" (aY K false (dB rg))):Kn P w K mg base (k+1) "with_part" (aY K false (dB uE)):=by
 refine D.dO Ic (λ_ _ _ _ _ _=>fM λ_ _ _=>rfl) (λ_ _=>dB.len) (by decide) (λf aE A outer s H E hr=>⟨_,(sc (a_ (i:=3) Ic.nd (bI rfl qb hr (ac (vn 0) (ac (vn 1) an))))
  (s1 (aJ (EX (FL (qn 3) (qv v0)) v0 (bI rfl Ie hr (ac (vn 0) (ac (ax rfl hr (qn 3) (qv vi)) (ac (vn 2) an)))))))),λB' xs r h=>?_⟩)
 obtain⟨x0,x1,x2,rfl,h⟩:=h;change (_:US) (cW false r) ⟨B',[some (.val x0),some (.val x1),some (.val x2),none],none⟩;obtain⟨a,p,q,wy,rfl,rfl,rfl,hw,hh,hn,hl,ha,rfl⟩:=h;obtain⟨pt,L,h1,h2,h3,h4,h5⟩:=zr hw hn ha
 have lb:L.length<=10000:=by
  have:=Nat.mul_le_mul hh hl;omega
 w_on;refine aj _ ⟨a,wy.map λi=>.int (i:Nat),rfl,rfl,hw,hh,hn,by rw[length_map];exact hl,λx hx=>by obtain⟨i,_,rfl⟩:=mem_map.mp hx;trivial,rfl⟩ ?_;rw[h1];simp only[p9,qP];w_on;exact aj _ ⟨L,_,h3,by rw[h2],lb,rfl⟩ (h5 q)
end
noncomputable def Ig (x:PV)(st:ag)(Q:PV->ag->Prop):Prop:=∃ k:Str,x=.str k/\st.n<=90000/\∀(r:PV)(st':ag),Nx st 1 st'->Q r st'
noncomputable def Ih (st:ag)(Q:PV->ag->Prop):Prop:=dw st.b/\st.n<=1000/\∀(fr y:PV)(st':ag),lY fr->Nx st 40 st'->Q (.tup [fr,y]) st'
theorem WT:∀ j:Nat,0<=j->j<2->([none,none]:cM)[j]?=some none
 |0,_,_=>rfl
 |1,_,_=>rfl
section
variable {P:Program}{w:World}{K:Frag}{mg:a0}{base:Heap}
theorem Ii:bx ["_law_state","_law_kind_here","_law_way_here"] ["_law_state","_law_kind_here"] (aX wL):=by walk_at "s"
theorem WU {k:Nat}(D:Df K mg "_law_value" wL)(B:Bt mg)(aZ:Kn P w K mg base k "_law_take" (spS K false (bQ eN))):Kn P w K mg base (k+1) "_law_value" (spS K false (bQ Ig)):=by
 refine D.eL Ii (λ_ _ _ _ _ _=>fg λ_ _=>rfl) (λ_ _ _=>bQ.len) (by decide) (λf aE A outer s H E hr=>⟨_,(sc (a_ (i:=2) Ii.nd (aK rfl aZ hr (ac (vn 0) (ac vi an))))
  (sc (bg (bW rfl hr (qn 2) (qv vi)) (s1 (aJ v0)) sn)
  (sc (bg (bW rfl hr (qn 1) (qv vs)) (s1 (aJ (ax rfl hr (qf (el (ac vs (ac vs (ac vs (ac vs (ac vs an))))))) (qn 2)))) sn)
  (s1 (aJ (ax rfl hr (qf (el (ac vi (ac vi (ac vi (ac (lQ vi) (ac (Uu (qv vi) (qv vi)) an))))))) (qn 2))))))),λB' xs st Q h=>?_⟩)
 obtain⟨x1,rfl,h⟩:=h;change (_:US) (dN false Q) ⟨B',[some (.val (.raw (.ref st.d))),some (.val x1),none],some st⟩;obtain⟨k,rfl,hn,h⟩:=h;obtain⟨d,a,n,D⟩:=st;have fz:n<=90000:=hn;have fin:∀ r:PV,Q r ⟨d,a,n+1,D⟩:=λr=>h r _ ⟨n+1,ar _,rfl⟩;w_on;refine draw (by omega) (by decide) (by decide) λq q0 q1=>?_;w_on;refine bM (λe=>?_) λe=>?_
 ·w_on;exact fin _
 have q5:q<5:=by have:=of_decide_eq_false e;omega
 w_on;refine bM (λe=>?_) λe=>?_
 ·w_on;refine eh q0 (by simpa using q5) λx hx=>?_;w_on;exact fin _
 ·w_on;refine⟨by unfold vp;decide,eh q0 (by simpa using q5) λx hx=>?_⟩;w_on;exact fin _
theorem kL:bx ["_law_state","_law_tables","_law_book","_law_number","_law_fields","_law_k","_law_name"] ["_law_state"] (aX wM):=by walk_at "s"
theorem WV {k:Nat}(D:Df K mg "_law_world" wM)(B:Bt mg)(kA:Kn P w K mg base k "_law_word" (spS K false (bQ zc)))(aZ:Kn P w K mg base k "_law_take" (spS K false (bQ eN)))(Ij:Kn P w K mg base k "_law_value" (spS K false (bQ Ig))):Kn P w K mg base (k+1) "_law_world" (spS K false (gL Ih)):=by
 refine D.eL kL (λ_ _ _ _ _ _=>gD λ_=>rfl) (λ_ _ _=>gL.len) (by decide) (λf aE A outer s H E hr=>⟨_,(U7 2 (sc (eR (i:=1) kL.nd (el an))
  (sc (eR (i:=2) kL.nd Ge)
  (sc (eU PassesOwn.never rfl (iX (by rfl) B.range vi) (aQ (i:=3) kL.nd)
  (sc (eR (i:=4) kL.nd (el an))
  (sc (eU PassesOwn.never rfl (iX (by rfl) B.range (bT rfl (qv vi) (qv (aK rfl aZ hr (ac (vn 0) (ac vi an)))))) (aQ (i:=5) kL.nd)
  (s1 (eS (fR rfl 4 (et (ac (aK rfl kA hr (ac (vn 0) (ac (bT rfl (qn 5) (qn 3)) an))) (ac (ax rfl hr (qf (el (ac vs (ac vs (ac vs an))))) (qv (aK rfl aZ hr (ac (vn 0) (ac vi an))))) (ac vb an))))))))
  (sc (a_ (i:=6) kL.nd (aK rfl kA hr (ac (vn 0) (ac (bT rfl (qv vi) (qn 3)) an))))
  (sc (eS (fR rfl 1 (et (ac (vn 6) (ac (kx rfl B.tuple (qn 4)) (ac (et an) an))))))
  (sc (U8 hr 7 2 6 (el an))
  (s1 (eU PassesOwn.never rfl (iX (by rfl) B.range (aK rfl aZ hr (ac (vn 0) (ac vi an)))) (aQ (i:=5) kL.nd)
  (s1 (eS (VP rfl hr 2 6 (kx rfl B.tuple (qf (lH (N:=["_law_field","_law_state"]) (k:=1) (ix:=[0]) cS rfl (jy rfl 4) (λ_ _ _ _=>(aQ (i:=0) (by show(["_law_field","_law_state"]:aq).Nodup;decide +kernel))) (λ_ _ _ _=>kn) (λ_ _ _ _=>(aK rfl Ij hr (ac (vn 1) (ac (ax rfl hr (qn 0) (qv vi)) an))))))))))))))))))
  (s1 (aJ (et (ac (et (ac (kx rfl B.tuple (qn 1)) (ac (et an) an))) (ac (vn 2) an))))))))),λB' xs st Q h=>?_⟩)
 obtain⟨rfl,h⟩:=h;change (_:US) (dN false Q) ⟨B',[some (.val (.raw (.ref st.d))),none,none,none,none,none,none],some st⟩;obtain⟨W,hn,h⟩:=h;obtain⟨d,a,n,D⟩:=st;have fz:n<=1000:=hn;have W':dw D:=W;w_on;intro p q;refine jF 2 (λi A=>∃(ts:List Tab)(kvs:aT)(m:Nat)(o3 o4 o5 o6:Option Sl)(G:cM),A=⟨B',some (.val (.raw (.ref d)))::some (.own p (.lst (ts.map pT)))::some (.own q (.ah kvs))::o3::o4::o5::o6::G,some ⟨d,a,m,D⟩⟩/\ts.length=i/\(∀ t∈ts,Hu t)/\kvs.length<=i/\m<=n+20*i/\∀ j,i<=j->j<2->G[j]?=some none) ⟨[],[],n,none,none,none,none,[none,none],rfl,rfl,(λ_ h=>by cases h),ar _,ar _,WT⟩ (λ_ _ _=>trivial) ?_ ?_
 ·rintro i A2 hi ⟨ts,kvs,m,o3,o4,o5,o6,G,rfl,tl,hT,kl,hm,hG⟩;w_on;intro fa;refine draw (by omega) (by decide) (by decide) λu u0 u1=>?_;w_on;refine⟨by omega,by omega,?_⟩;have hN:1<=(1+u).toNat/\(1+u).toNat<=3:=by omega
  generalize (1+u).toNat=N at hN;refine jF N (λk A=>∃(cs:List ze)(m2:Nat)(o5:Option Sl),A=⟨B',some (.val (.raw (.ref d)))::some (.own p (.lst (ts.map pT)))::some (.own q (.ah kvs))::some (.val (.int (i:Nat)))::some (.own fa (.lst (cs.map pC)))::o5::o6::G,some ⟨d,a,m2,D⟩⟩/\cs.length=k/\(∀ c∈cs,W4 c.n/\Kd c.k)/\m2<=m+1+k) ⟨[],m+1,o5,rfl,rfl,(λ_ h=>by cases h),ar _⟩ (λ_ _ _=>trivial) ?_ ?_
  ·rintro k A3 hk ⟨cs,m2,o5,rfl,cl,f9,bc⟩;w_on;refine⟨_,rfl,W',λz zl zs=>?_⟩;w_on;refine draw (by omega) (by decide) (by decide) λv v0 v1=>?_;w_on;refine eh v0 (by simpa using v1) λx hx=>?_
   have wx:∃ t:Str,x=.str t/\Kd t:=by
    simp only[mem_cons,not_mem_nil,or_false] at hx;rcases hx with rfl|rfl|rfl
    ·exact⟨_,rfl,.inl rfl⟩
    ·exact⟨_,rfl,.inl rfl⟩
    ·exact⟨_,rfl,.inr rfl⟩
   obtain⟨t,rfl,ht⟩:=wx;w_on
   exact⟨by rw[length_map];omega,cs++[⟨z,t⟩],m2+1,_,by rw[map_append];rfl,by rw[length_append,length_singleton];omega,λc hc=>by
    rcases mem_append.mp hc with e|e
    ·exact f9 c e
    ·rw[mem_singleton.mp e];exact⟨⟨by show z.length<=4;omega,zs⟩,ht⟩,by omega⟩
  ·rintro A3 ⟨cs,m2,o5,rfl,cl,f9,bc⟩;w_on;refine⟨_,rfl,W',λz zl zs=>?_⟩;w_on;have Gi:i<G.length:=(c7 (hG i (ar _) hi)).1;refine⟨by rw[length_map];omega,?_⟩;unfold G5;w_on;refine⟨[],q,kvs,z,i+7,rfl,⟨rfl,rfl⟩,rfl,by omega,hG i (ar _) hi,by omega,λg=>?_⟩;simp only[set_cons_succ,set_cons_zero];have dl:bZ (dQ kvs (.inr z) (.raw (.ref g))) (.inr z)=some (.raw (.ref g)):=(GC (.inr z)).trans (if_pos rfl);have Ik:(dQ kvs (.inr z) (.raw (.ref g))).length<=i+1:=aP Hq (Nat.succ_le_succ kl);generalize dQ kvs (.inr z) (.raw (.ref g))=nh at dl Ik;w_on;refine draw (by omega) (by decide) (by decide) λy y0 y1=>?_;w_on;refine⟨by omega,by omega,?_⟩;have hM:y.toNat<=4:=by omega
   generalize y.toNat=M at hM;refine jF M (λk A=>∃(rows:ai)(m3:Nat)(o5:Option Sl),A=⟨B',some (.val (.raw (.ref d)))::some (.own p (.lst (ts.map pT++[PV.tup [PV.str z,PV.tup (cs.map pC),PV.tup []]])))::some (.own q (.ah nh))::some (.val (.int (i:Nat)))::some (.own fa (.lst (cs.map pC)))::o5::some (.val (.str z))::G.set i (some (.own g (.lst rows))),some ⟨d,a,m3,D⟩⟩/\rows.length=k/\m3<=m2+1+3*k) ⟨[],m2+1,o5,rfl,rfl,ar _⟩ (λ_ _ _=>trivial) ?_ ?_
   ·rintro k A4 hk ⟨rows,m3,o5,rfl,rl,dE⟩;w_on;unfold Hh;w_on;refine⟨q,g,nh,z,i+7,rows,⟨rfl,rfl⟩,rfl,dl,getElem?_set_self Gi,?_⟩;refine Gv cs pC (λdc ys S=>∃ m4,S=some ⟨d,a,m4,D⟩/\m4<=m3+dc.length) (by omega) ⟨m3,rfl,ar _⟩ ?_ ?_
    ·rintro B dc c r ys S e ⟨m4,rfl,l_⟩ R hR;have Z6:dc.length<3:=by have:=congrArg List.length e;simp at this;omega
     simp only[pC];w_on;refine⟨_,rfl,by show m4<=90000;omega,λrr st' fX=>?_⟩;obtain⟨m5,qc,rfl⟩:=fX;refine hR _ _ ⟨rfl,rfl⟩ ⟨m5,rfl,?_⟩;rw[length_append,length_singleton];have:m5<=m4+1:=qc;omega
    ·rintro ys S ⟨m4,rfl,l_⟩;w_on;exact⟨rows,getElem?_set_self Gi,by omega,rows++[.tup ys],m4,_,by rw[set_set],by rw[length_append,length_singleton];omega,by omega⟩
   ·rintro A4 ⟨rows,m3,o5,rfl,rl,dE⟩;refine⟨ts++[⟨z,cs⟩],nh,m3,_,_,_,_,_,by rw[map_append];rfl,by rw[length_append,length_singleton];omega,λt ht=>?_,Ik,by omega,λj j1 j2=>?_⟩
    ·rcases mem_append.mp ht with e|e
     ·exact hT t e
     ·rw[mem_singleton.mp e];exact⟨⟨by show z.length<=4;omega,zs⟩,(λe=>by rw[show cs=[] from e] at cl;simp at cl;omega),by show cs.length<=3;omega,f9⟩
    ·rw[getElem?_set_ne (by omega)];exact hG j (by omega) j2
 ·rintro A2 ⟨ts,kvs,m,o3,o4,o5,o6,G,rfl,tl,hT,kl,hm,hG⟩;w_on;exact h _ _ ⟨d,a,m,D⟩ ⟨ts,_,rfl,(λe=>by rw[e] at tl;cases tl),by omega,hT⟩ ⟨m,hm,rfl⟩
end
theorem zC {a k:Ak}{i d:Nat}(hn:nA a<=100000)(h:(kids a)[i]?=some k)(g:Dp d (qA a)):Dp d (qA k):=by
 obtain⟨p,hp⟩:=ur h;obtain⟨L,_,h2,_⟩:=uq hn hp;exact zu h2 g
theorem zD {a:Ak}{d:Nat}(hn:nA a<=100000)(g:Dp d (qA a)):∀ x∈(kids a).map qA,Dp d x:=λx hx=>by
 obtain⟨k,hk,rfl⟩:=mem_map.mp hx;obtain⟨i,hi⟩:=getElem?_of_mem hk;exact zC hn hi g
theorem WW {d:Nat}{l:ai}(h:∀ x∈l,Dp d x)(hd:d<80):fQ true (.lst l) (.lst []) (.bl (!l.isEmpty)):=
 ⟨⟨d+1,hd,iy h,iy λ_ h=>by cases h⟩,by cases l<;>rfl⟩
theorem e8 {x:PV}{d:Nat}{n:Bool}(h:Dp d x)(hd:d<=80):fQ n x x (.bl (!n)):=⟨⟨d,hd,h,h⟩,by rw[Fw d x h,Bool.xor_true]⟩
theorem WX (xs:ai)(x:PV):cz (xs++[x]) (-1)=some x:=by
 have hl:(xs++[x]).length=xs.length+1:=by rw[length_append,length_singleton]
 unfold cz iO;rw[hl,if_neg (by decide),if_pos (by omega),show(-1+((xs.length+1:Nat):Int)).toNat=xs.length by omega];simp
noncomputable def Il (x:PV)(st:ag)(Q:PV->ag->Prop):Prop:=∃ a:Ak,x=qA a/\wA a/\hA a<=50/\nA a<=100000/\Dp 40 (qA a)/\st.n<=80000/\∀(wy:List Nat)(p:Ak)(st':ag),apart a wy=some p->wy.length<=6->Nx st 7 st'->Q (.tup [qW wy,qA p]) st'
noncomputable def Im (x y r:PV):Prop:=∃(a p:Ak)(wy:List Nat),x=qA a/\y=qW wy/\wA a/\hA a<=50/\nA a<=100000/\Dp 40 (qA a)/\apart a wy=some p/\wy.length<=100/\r=.bl true
section
variable {P:Program}{w:World}{K:Frag}{mg:a0}{base:Heap}
theorem n5:bx ["_law_state","_law_ask_here","_law_way_here","_law_k","_law_some"] ["_law_state","_law_ask_here"] (aX xc):=by walk_at "s"
theorem WY {k:Nat}(D:Df K mg "_law_way" xc)(B:Bt mg)(aZ:Kn P w K mg base k "_law_take" (spS K false (bQ eN)))(eO:Kn P w K mg base k "_law_children" (aY K false (bX nJ))):Kn P w K mg base (k+1) "_law_way" (spS K false (bQ Il)):=by
 refine D.eL n5 (λ_ _ _ _ _ _=>fg λ_ _=>rfl) (λ_ _ _=>bQ.len) (by decide) (λf aE A outer s H E hr=>⟨_,(sc (a_ (i:=2) n5.nd (et an))
  (sc (eU PassesOwn.never rfl (iX (by rfl) B.range (aK rfl aZ hr (ac (vn 0) (ac vi an)))) (aQ (i:=3) n5.nd)
  (sc (a_ (i:=4) n5.nd (bI rfl eO hr (ac (vn 1) an)))
  (s1 (bg (gf rfl hr (qn 4) (qf (el an))) (sc (a_ (i:=2) n5.nd (bT rfl (qn 2) (qv (et (ac (aK rfl aZ hr (ac (vn 0) (ac (fH rfl B.len (qn 4)) an))) an)))))
  (s1 (a_ (i:=1) n5.nd (ax rfl hr (qn 4) (qv (ax rfl hr (qn 2) (qv (lQ vi)))))))) sn))))
  (s1 (aJ (et (ac (vn 2) (ac (vn 1) an))))))),λB' xs st Q h=>?_⟩)
 obtain⟨x1,rfl,h⟩:=h;change (_:US) (dN false Q) ⟨B',[some (.val (.raw (.ref st.d))),some (.val x1),none,none,none],some st⟩;obtain⟨ak,rfl,hw,hh,hn,hd,hs,h⟩:=h;obtain⟨d,a,n,D⟩:=st;have rF:n<=80000:=hs;w_on;refine draw (by omega) (by decide) (by decide) λu u0 u1=>?_;w_on;refine⟨by omega,by omega,?_⟩;have hN:u.toNat<=6:=by omega
 generalize u.toNat=N at hN;refine jF N (λi A=>∃(k:Ak)(wy:List Nat)(m:Nat)(o3 o4:Option Sl),A=⟨B',[some (.val (.raw (.ref d))),some (.val (qA k)),some (.val (qW wy)),o3,o4],some ⟨d,a,m,D⟩⟩/\apart ak wy=some k/\Dp 40 (qA k)/\wy.length<=i/\m<=n+1+i) ⟨ak,[],n+1,none,none,rfl,rfl,hd,ar _,ar _⟩ (λ_ _ _=>trivial) ?_ ?_
 ·rintro i A2 hi ⟨k,wy,m,o3,o4,rfl,hp,dk,wl,hm⟩;obtain⟨k1,k2,k3⟩:=zt hw hp;w_on;refine aj _ ⟨k,rfl,k1,by omega,by omega,rfl⟩ ?_;w_on;refine aj _ (WW (zD (by omega) dk) (by decide)) ?_;refine bM (λe=>?_) λe=>?_
  ·have kp:0<(kids k).length:=by
    cases hk:kids k with
    |nil=>rw[hk] at e;cases e
    |cons x l=>simp
   have kl:=tU k;have ml:((kids k).map qA).length=(kids k).length:=length_map ..;have mw:(wy.map λi=>PV.int (i:Nat)).length=wy.length:=length_map ..;simp only[qW];w_on;refine draw (by omega) (by omega) (Int.lt_of_le_of_lt (b:=200000) (by omega) (by decide)) λv v0 v1=>?_;obtain⟨j,rfl⟩:=Int.eq_ofNat_of_zero_le v0;have hj:j<(kids k).length:=by omega
   have jb:(kids k)[j]?=some (kids k)[j]:=cg hj;generalize (kids k)[j]=k' at jb;w_on;refine⟨by omega,?_⟩;refine aj _ (WX _ _) ?_;w_on;refine aj _ (zv jb) ?_;w_on;exact⟨k',wy++[j],m+1,_,_,by simp only[qW,map_append];rfl,HM hp jb,zC (by omega) jb dk,by rw[length_append,length_singleton];omega,by omega⟩
  ·w_on;exact⟨k,wy,m,_,_,rfl,hp,dk,by omega,by omega⟩
 ·rintro A2 ⟨k,wy,m,o3,o4,rfl,hp,dk,wl,hm⟩;w_on;exact h wy k ⟨d,a,m,D⟩ hp (by omega) ⟨m,(by show m<=n+7;omega),rfl⟩
theorem uF:bx ["_law_ask_here","_law_way_here","_law_step","_law_found"] ["_law_ask_here","_law_way_here"] (aX xf):=by walk_at "s"
theorem WZ {k:Nat}(D:Df K mg "_law_along" xf)(B:Bt mg)(iF:Kn P w K mg base k "children" (aY K true (bX uD)))(eO:Kn P w K mg base k "_law_children" (aY K false (bX nJ))):Kn P w K mg base (k+1) "_law_along" (aY K false (cD Im)):=by
 refine D.dO uF (λ_ _ _ _ _ _=>fg λ_ _=>rfl) (λ_ _=>cD.len) (by decide) (λf aE A outer s H E hr=>⟨_,(sc (eU PassesOwn.never rfl (jy rfl 1) (aQ (i:=2) uF.nd)
  (sc (eR (i:=3) uF.nd (jA rfl iF hr (ac (vn 0) an)))
  (sc (bg (PW.pt (gG (kc (kf rfl (qv (pA .list rfl B.isinstance B.list PyProof.Rows.boot_list (qn 3))))) (iU (gf rfl hr (qn 3) (qv (bI rfl eO hr (ac (vn 0) an))))))) (s1 (aJ vb)) sn)
  (sc (eS (fR rfl 3 (vn 0)))
  (sc (bg (gf rfl hr (qf (jA rfl iF hr (ac (vn 0) an))) (qv (bI rfl eO hr (ac (vn 0) an)))) (s1 (aJ vb)) sn)
  (s1 (a_ (i:=0) uF.nd (ax rfl hr (qv (bI rfl eO hr (ac (vn 0) an))) (qn 2)))))))))
  (s1 (aJ (lK rfl hr (qf (jA rfl iF hr (ac (vn 0) an))) (qv (bI rfl eO hr (ac (vn 0) an))))))),λB' xs r h=>?_⟩)
 obtain⟨x0,x1,rfl,h⟩:=h;change (_:US) (cW false r) ⟨B',[some (.val x0),some (.val x1),none,none],none⟩;obtain⟨a,p,wy,rfl,rfl,hw,hh,hn,hd,hp,hl,rfl⟩:=h;simp only[qW];w_on;refine gh wy (λi=>PV.int (i:Nat)) (λdd A=>∃(k:Ak)(o2 o3:Option Sl),A=⟨B',[some (.val (qA k)),some (.val (.tup (wy.map λi=>PV.int (i:Nat)))),o2,o3],none⟩/\wA k/\hA k<=50/\nA k<=100000/\Dp 40 (qA k)/\∀ r,wy=dd++r->apart k r=some p) ⟨a,none,none,rfl,hw,hh,hn,hd,λr e=>by rw[nil_append] at e;rw[<- e];exact hp⟩ (λ_ _ _=>trivial) ?_ ?_
 ·rintro dd j r A2 e ⟨k,o2,o3,rfl,k1,k2,k3,dk,hk⟩;have ap:=hk _ e;simp only[apart] at ap
  cases jb:(kids k)[j]? with
  |none=>rw[jb] at ap;cases ap
  |some k'=>
   rw[jb] at ap;have kl:=tU k;have dl:Dp 41 (.lst ((kids k).map qA)):=iy (zD (by omega) dk);obtain⟨q1,q2,q3⟩:=kJ k1 k' (mem_of_getElem? jb);w_on;refine aj _ ⟨k,rfl,k1,k2,k3,rfl⟩ ?_;w_on;intro pa;refine aj _ ⟨k,rfl,k1,k2,k3,rfl⟩ ?_;w_on;refine aj false (e8 dl (by decide)) ?_;refine bq rfl ?_;w_on;refine⟨by rw[length_map];omega,?_⟩;refine aj _ ⟨k,rfl,k1,k2,k3,rfl⟩ ?_;w_on;refine aj _ ⟨k,rfl,k1,k2,k3,rfl⟩ ?_;w_on;refine aj false (e8 dl (by decide)) ?_;refine bq rfl ?_;w_on;refine aj _ ⟨k,rfl,k1,k2,k3,rfl⟩ ?_;w_on;refine aj _ (zv jb) ?_;w_on;refine⟨k',_,_,rfl,q1,by omega,by omega,zC (by omega) jb dk,λr' e'=>?_⟩
   have er:r=r':=by
    rw[e,append_assoc] at e';have:=append_cancel_left e';simpa using this
   rw[<- er];exact ap
 ·rintro A2 ⟨k,o2,o3,rfl,k1,k2,k3,dk,hk⟩;have dl:Dp 41 (.lst ((kids k).map qA)):=iy (zD (by omega) dk);w_on;refine aj _ ⟨k,rfl,k1,k2,k3,rfl⟩ ?_;w_on;refine aj _ ⟨k,rfl,k1,k2,k3,rfl⟩ ?_;w_on;exact aj _ (e8 dl (by decide)) rfl
end
structure Gk (a:Ak):Prop where
 w:wA a
 h:hA a<=40
 n:nA a<=20000
 d:Dp 40 (qA a)
theorem qd {n:Nat}{t:Str}{xs:ai}(h:∀ x∈xs,Dp n x):Dp (n+1) (.tup (.str t::xs)):=lT λx hx=>by
 rcases mem_cons.mp hx with e|e
 ·rw[e];exact jE _ _
 ·exact h x e
theorem n6 {n:Nat}{a b:Ak}(h:Dp n (qA a))(g:Dp n (qA b)):Dp (n+1) (qA (.add a b)):=qd λx hx=>by
 simp only[mem_cons,not_mem_nil,or_false] at hx;rcases hx with rfl|rfl
 ·exact h
 ·exact g
theorem Io {n:Nat}{x y:PV}(h:Dp n x)(g:Dp n y):Dp (n+1) (.lst [x,y]):=iy λz hz=>by
 simp only[mem_cons,not_mem_nil,or_false] at hz;rcases hz with rfl|rfl
 ·exact h
 ·exact g
noncomputable def ma (a q:Ak):Nat->Ak
 |0=>.add q a
 |_=>.add a q
noncomputable def Ip (x y r:PV):Prop:=∃ a q:Ak,x=qA a/\y=qA q/\Gk a/\Gk q/\r=.bl true
theorem qe {a p:Ak}{wy:List Nat}(hw:wA a)(hh:hA a<=50)(hn:nA a<=100000)(hl:wy.length<=100)(h:apart a wy=some p):nY (qA a) (.tup (wy.map λi=>.int (i:Nat))) (qA p):=by
 obtain⟨q,_,e,_⟩:=zr hw hn h;exact⟨a,_,rfl,rfl,hw,hh,hn,by rw[length_map];exact hl,λx hx=>by obtain⟨i,_,rfl⟩:=mem_map.mp hx;trivial,by rw[e];rfl⟩
noncomputable def jn (w0 w1:Str):List Cd->Cd
 |[s0,s1]=>.bo w0 s0 s1
 |[s0,s1,s2]=>.bo w1 (.bo w0 s0 s1) (.nt s2)
 |_=>.lf "yes" []
noncomputable def rJoin (x y r:PV):Prop:=∃(w0 w1:Str)(l:List Cd),x=.lst [.str w0,.str w1]/\y=.lst (l.map qC)/\(l.length=2\/l.length=3)/\r=qC (jn w0 w1 l)
noncomputable def sm (q:Ak):Cd:=.cn q (.lf "yes" [])
theorem Iq (q:Ak):qC (sm q)=.tup [.str "some",qA q,.tup [.str "yes"]]:=rfl
noncomputable def Ir (x y z u v r:PV):Prop:=∃(w0 w1:Str)(a q o:Ak)(m:Nat),x=.lst [.str w0,.str w1]/\w0∈H3/\w1∈H3/\y=qA a/\z=qA q/\u=qA o/\v=.int (m:Nat)/\(m=2\/m=3)/\Gk a/\Gk q/\Gk o/\r=.bl true
theorem uG (x:PV):∀ n:Nat,(replicate n [x]).flatten=replicate n x
 |0=>rfl
 |n+1=>by rw[replicate_succ,replicate_succ,flatten_cons,uG x n];rfl
structure Sk (c:Cd):Prop where
 w:wC c
 h:hC c<=41
 n:nC c<=20002
 d:Dp 41 (qC c)
theorem Iu {q:Ak}(h:Gk q):Sk (sm q):=by
 have h1:=h.h;have h2:=h.n;refine⟨⟨h.w,by simp [wC,H4]⟩,by simp only[sm,hC];omega,by simp only[sm,nC,length_nil];omega,qd λx hx=>?_⟩;simp only[mem_cons,not_mem_nil,or_false] at hx;rcases hx with rfl|rfl
 ·exact h.d
 ·exact(qd (n:=0) λ_ h=>by cases h).mono (by decide)
theorem uH {n:Nat}{t:Str}{x y:PV}(h:Dp n x)(g:Dp n y):Dp (n+1) (.tup [.str t,x,y]):=qd λz hz=>by
 simp only[mem_cons,not_mem_nil,or_false] at hz;rcases hz with rfl|rfl
 ·exact h
 ·exact g
theorem Iv {w0 w1:Str}(h0:w0∈H3)(h1:w1∈H3):∀{l:List Cd},l.length=2\/l.length=3->(∀ c∈l,Sk c)->wC (jn w0 w1 l)/\hC (jn w0 w1 l)<=43/\nC (jn w0 w1 l)<=60010/\Dp 43 (qC (jn w0 w1 l))
 |[s0,s1],_,h=>by
  have a:=h s0 (by simp);have b:=h s1 (by simp);have:=a.h;have:=b.h;have:=a.n;have:=b.n;simp only[jn,wC,hC,nC,qC];exact⟨⟨h0,a.w,b.w⟩,by omega,by omega,(uH a.d b.d).mono (by decide)⟩
 |[s0,s1,s2],_,h=>by
  have a:=h s0 (by simp);have b:=h s1 (by simp);have c:=h s2 (by simp);have:=a.h;have:=b.h;have:=a.n;have:=b.n;have:=c.h;have:=c.n;simp only[jn,wC,hC,nC,qC];exact⟨⟨h1,⟨h0,a.w,b.w⟩,c.w⟩,by omega,by omega,uH (uH a.d b.d) (qd λx hx=>by rw[mem_singleton.mp hx];exact c.d)⟩
theorem Iw {w0 w1:Str}{a q:Ak}{m:Nat}(hm:m=2\/m=3):kids (.pick a (jn w0 w1 (replicate m (sm q))))=a::replicate m q:=by
 rcases hm with rfl|rfl<;>rfl
theorem W0 {w0 w1:Str}{a q o:Ak}{m k:Nat}(hm:m=2\/m=3)(hk:k<m):c6 (.pick a (jn w0 w1 (replicate m (sm q)))) [1+k] o=.pick a (jn w0 w1 ((replicate m (sm q)).set k (sm o))):=by
 rcases hm with rfl|rfl
 ·have:k=0\/k=1:=by omega
  rcases this with rfl|rfl<;>rfl
 ·have:k=0\/k=1\/k=2:=by omega
  rcases this with rfl|rfl|rfl<;>rfl
theorem Iy {w0 w1:Str}{a q:Ak}{m k:Nat}(hm:m=2\/m=3)(hk:k<m):apart (.pick a (jn w0 w1 (replicate m (sm q)))) [1+k]=some q:=by
 simp only[apart,Iw hm];rw[Nat.add_comm,getElem?_cons_succ,getElem?_replicate,if_pos hk]
section
variable {P:Program}{w:World}{K:Frag}{mg:a0}{base:Heap}
theorem md:bx ["_law_ask_here","_law_other","_law_both_here","_law_twice","_law_i","_law_j","_law_sides","_law_inner"] ["_law_ask_here","_law_other"] (aX xh):=by walk_at "s"
theorem W2 {k:Nat}(D:Df K mg "_law_twice_right" xh)(B:Bt mg)(iF:Kn P w K mg base k "children" (aY K true (bX uD)))(jc:Kn P w K mg base k "with_part" (aY K false (dB uE)))(gX:Kn P w K mg base k "part_at" (aY K false (cD nY))):Kn P w K mg base (k+1) "_law_twice_right" (aY K false (cD Ip)):=by
 refine D.dO md (λ_ _ _ _ _ _=>fg λ_ _=>rfl) (λ_ _=>cD.len) (by decide) (λf aE A outer s H E hr=>⟨_,(sc (a_ (i:=2) md.nd (et (ac vs (ac (vn 0) (ac (vn 0) an)))))
  (sc (a_ (i:=3) md.nd (et (ac vs (ac (vn 2) (ac (vn 2) an)))))
  (sc (bg (PW.pt (gG (gf rfl hr (qf (jA rfl iF hr (ac (vn 2) an))) (qf (el (ac (vn 0) (ac (vn 0) an))))) (iU (gf rfl hr (qf (jA rfl iF hr (ac (vn 3) an))) (qf (el (ac (vn 2) (ac (vn 2) an)))))))) (s1 (aJ vb)) sn)
  (sc (eU PassesOwn.never rfl (iX (by rfl) B.range vi) (aQ (i:=4) md.nd)
  (s1 (eU PassesOwn.never rfl (iX (by rfl) B.range vi) (aQ (i:=5) md.nd)
  (sc (eR (i:=6) md.nd (el (ac (vn 0) (ac (vn 0) an))))
  (sc (GW 6 (vn 1) (vn 5))
  (sc (a_ (i:=7) md.nd (et (ac vs (ac (ax rfl hr (qn 6) (qv vi)) (ac (ax rfl hr (qn 6) (qv vi)) an)))))
  (sc (bg (PW.pt (gG (gf rfl hr (qv (bI rfl gX hr (ac (vn 3) (ac (et (ac (vn 4) (ac (vn 5) an))) an)))) (qn 0)) (iU (gf rfl hr (qv (bI rfl jc hr (ac (vn 2) (ac (et (ac (vn 5) an)) (ac (vn 1) an))))) (qn 7))))) (s1 (aJ vb)) sn)
  (s1 (bg (gf rfl hr (qv (bI rfl jc hr (ac (vn 3) (ac (et (ac (vn 4) (ac (vn 5) an))) (ac (vn 1) an))))) (qv (ax rfl hr (qf (el (ac (et (ac vs (ac (vn 7) (ac (vn 2) an)))) (ac (et (ac vs (ac (vn 2) (ac (vn 7) an)))) an)))) (qn 4)))) (s1 (aJ vb)) sn)))))))))
  (s1 (aJ vb)))))),λB' xs r h=>?_⟩)
 obtain⟨x0,x1,rfl,h⟩:=h;change (_:US) (cW false r) ⟨B',[some (.val x0),some (.val x1),none,none,none,none,none,none],none⟩;obtain⟨a,q,rfl,rfl,ha,hq,rfl⟩:=h;have w1:wA (.add a a):=⟨ha.w,ha.w⟩;have w2:wA (.add (.add a a) (.add a a)):=⟨w1,w1⟩;have h1:hA (.add a a)<=50:=by have:=ha.h;simp only[hA];omega
 have h2:hA (.add (.add a a) (.add a a))<=50:=by have:=ha.h;simp only[hA];omega
 have n1:nA (.add a a)<=100000:=by have:=ha.n;simp only[nA];omega
 have n2:nA (.add (.add a a) (.add a a))<=100000:=by have:=ha.n;simp only[nA];omega
 have d1:=n6 ha.d ha.d;have d2:=n6 d1 d1;w_on;refine aj _ ⟨.add a a,rfl,w1,h1,n1,rfl⟩ ?_;w_on;refine aj false (e8 (Io ha.d ha.d) (by decide)) ?_;refine bq rfl ?_;w_on;refine aj _ ⟨.add (.add a a) (.add a a),rfl,w2,h2,n2,rfl⟩ ?_;w_on;refine aj false (e8 (Io d1 d1) (by decide)) ?_;refine bq rfl ?_;w_on;refine jF 2 (λi A=>∃(o4 o5 o6 o7:Option Sl),A=⟨B',[some (.val (qA a)),some (.val (qA q)),some (.val (qA (.add a a))),some (.val (qA (.add (.add a a) (.add a a)))),o4,o5,o6,o7],none⟩) ⟨_,_,_,_,rfl⟩ (λ_ _ _=>trivial) ?_ ?_
 ·rintro i A2 hi ⟨o4,o5,o6,o7,rfl⟩;w_on;refine jF 2 (λj A=>∃(o5 o6 o7:Option Sl),A=⟨B',[some (.val (qA a)),some (.val (qA q)),some (.val (qA (.add a a))),some (.val (qA (.add (.add a a) (.add a a)))),some (.val (.int (i:Nat))),o5,o6,o7],none⟩) ⟨_,_,_,rfl⟩ (λ_ _ _=>trivial) ?_ ?_
  ·rintro j A3 hj ⟨o5,o6,o7,rfl⟩
   have e1:apart (.add (.add a a) (.add a a)) [i,j]=some a:=by
    have ie:i=0\/i=1:=by omega
    have gM:j=0\/j=1:=by omega
    rcases ie with rfl|rfl<;>rcases gM with rfl|rfl<;>rfl
   have e2:apart (.add a a) [j]=some a:=by
    have gM:j=0\/j=1:=by omega
    rcases gM with rfl|rfl<;>rfl
   have e3:c6 (.add a a) [j] q=ma a q j:=by
    have gM:j=0\/j=1:=by omega
    rcases gM with rfl|rfl<;>rfl
   have e4:c6 (.add (.add a a) (.add a a)) [i,j] q=if i=0 then .add (ma a q j) (.add a a) else .add (.add a a) (ma a q j):=by
    have ie:i=0\/i=1:=by omega
    have gM:j=0\/j=1:=by omega
    rcases ie with rfl|rfl<;>rcases gM with rfl|rfl<;>rfl
   obtain⟨s0,s1,es,e5⟩:∃ s0 s1:PV,[qA a,qA a].set j (qA q)=[s0,s1]/\PV.tup [.str "add",s0,s1]=qA (ma a q j):=by
    have gM:j=0\/j=1:=by omega
    rcases gM with rfl|rfl<;>exact⟨_,_,rfl,rfl⟩
   have wi:wA (ma a q j)/\Dp 41 (qA (ma a q j)):=by
    unfold ma
    split
    ·exact⟨⟨hq.w,ha.w⟩,n6 hq.d ha.d⟩
    ·exact⟨⟨ha.w,hq.w⟩,n6 ha.d hq.d⟩
   w_on;intro pa;refine⟨[qA a,qA a],j,rfl,rfl,by simp;omega,?_⟩;rw[es];w_on;rw[e5];refine aj _ (qe (wy:=[i,j]) w2 h2 n2 (by show 2<=100;decide) e1) ?_;w_on;refine aj false (e8 ha.d (by decide)) ?_;refine bq rfl ?_;w_on;refine aj _ ⟨.add a a,a,q,[j],rfl,rfl,rfl,w1,h1,n1,by show 1<=100;decide,e2,rfl⟩ ?_;rw[e3];w_on;refine aj false (e8 wi.2 (by decide)) ?_;refine bq rfl ?_;w_on;refine aj _ ⟨.add (.add a a) (.add a a),a,q,[i,j],rfl,rfl,rfl,w2,h2,n2,by show 2<=100;decide,e1,rfl⟩ ?_;rw[e4];w_on;have ie:i=0\/i=1:=by omega
   rcases ie with rfl|rfl
   ·rw[if_pos rfl];refine aj _ Gz ?_;w_on;refine aj false (e8 (n6 wi.2 d1) (by decide)) ?_;refine bq rfl ?_;w_on;exact⟨_,_,_,rfl⟩
   ·rw[if_neg (by decide)];refine aj _ GA ?_;w_on;refine aj false (e8 (n6 d1 wi.2) (by decide)) ?_;refine bq rfl ?_;w_on;exact⟨_,_,_,rfl⟩
  ·rintro A3 ⟨o5,o6,o7,rfl⟩;exact⟨_,_,_,_,rfl⟩
 ·rintro A2 ⟨o4,o5,o6,o7,rfl⟩;w_on
theorem zE:bx ["_law_words","_law_somes_here","_law_found"] ["_law_words","_law_somes_here"] (aX xi):=by walk_at "s"
theorem W3 {k:Nat}(D:Df K mg "_law_joined" xi)(B:Bt mg):Kn P w K mg base (k+1) "_law_joined" (aY K false (cD rJoin)):=by
 refine D.dO zE (λ_ _ _ _ _ _=>fg λ_ _=>rfl) (λ_ _=>cD.len) (by decide) (λf aE A outer s H E hr=>⟨_,(sc (a_ (i:=2) zE.nd (et (ac (ax rfl hr (qn 0) (qv vi)) (ac (ax rfl hr (qn 1) (qv vi)) (ac (ax rfl hr (qn 1) (qv vi)) an)))))
  (sc (bg (lL (qv (fH rfl B.len (qn 1))) (qv vi)) (s1 (a_ (i:=2) zE.nd (et (ac (ax rfl hr (qn 0) (qv vi)) (ac (vn 2) (ac (et (ac vs (ac (ax rfl hr (qn 1) (qv vi)) an))) an)))))) sn)
  (s1 (aJ (vn 2))))),λB' xs r h=>?_⟩)
 obtain⟨x0,x1,rfl,h⟩:=h;change (_:US) (cW false r) ⟨B',[some (.val x0),some (.val x1),none],none⟩;obtain⟨w0,w1,l,rfl,rfl,hl,rfl⟩:=h
 match l,hl with
 |[s0,s1],_=>
  simp only[map_cons,map_nil,jn,qC];w_on;refine bq (by decide) ?_;w_on
 |[s0,s1,s2],_=>
  simp only[map_cons,map_nil,jn,qC];w_on;refine cJ (by decide) ?_;w_on
theorem qg:bx ["_law_words","_law_ask_here","_law_q","_law_other","_law_many_here","_law_some","_law_whole","_law_k","_law_others"] ["_law_words","_law_ask_here","_law_q","_law_other","_law_many_here"] (aX xj):=by walk_at "s"
theorem W5 {k:Nat}(D:Df K mg "_law_somes_right" xj)(B:Bt mg)(zF:Kn P w K mg base k "_law_joined" (aY K false (cD rJoin)))(iF:Kn P w K mg base k "children" (aY K true (bX uD)))(jc:Kn P w K mg base k "with_part" (aY K false (dB uE)))(gX:Kn P w K mg base k "part_at" (aY K false (cD nY))):Kn P w K mg base (k+1) "_law_somes_right" (aY K false (lW Ir)):=by
 refine D.dO qg (λ_ _ _ _ _ _=>Nt λ_ _ _ _ _=>rfl) (λ_ _=>lW.len) (by decide) (λf aE A outer s H E hr=>⟨_,(sc (a_ (i:=5) qg.nd (et (ac vs (ac (vn 2) (ac (et (ac vs an)) an)))))
  (sc (a_ (i:=6) qg.nd (et (ac vs (ac (vn 1) (ac (bI rfl zF hr (ac (vn 0) (ac (vf (yS (qf (el (ac (vn 5) an))) (qn 4))) an))) an)))))
  (sc (bg (yV rfl hr (vf (jA rfl iF hr (ac (vn 6) an))) (qf (mW (qf (el (ac (vn 1) an))) (qf (yS (qf (el (ac (vn 2) an))) (qn 4)))))) (s1 (aJ vb)) sn)
  (sc (eU PassesOwn.never rfl (iX (by rfl) B.range (vn 4)) (aQ (i:=7) qg.nd)
  (sc (eR (i:=8) qg.nd (yS (qf (el (ac (vn 5) an))) (qn 4)))
  (sc (GW 8 (et (ac vs (ac (vn 3) (ac (et (ac vs an)) an)))) (vn 7))
  (sc (bg (yV rfl hr (bI rfl jc hr (ac (vn 6) (ac (et (ac (bT rfl (qv vi) (qn 7)) an)) (ac (vn 3) an)))) (qv (et (ac vs (ac (vn 1) (ac (bI rfl zF hr (ac (vn 0) (ac (vn 8) an))) an)))))) (s1 (aJ vb)) sn)
  (s1 (bg (yV rfl hr (bI rfl gX hr (ac (vn 6) (ac (et (ac (bT rfl (qv vi) (qn 7)) an)) an))) (qn 2)) (s1 (aJ vb)) sn))))))
  (s1 (aJ vb)))))),λB' xs r h=>?_⟩)
 obtain⟨x0,x1,x2,x3,x4,rfl,h⟩:=h;change (_:US) (cW false r) ⟨B',[some (.val x0),some (.val x1),some (.val x2),some (.val x3),some (.val x4),none,none,none,none],none⟩;obtain⟨w0,w1,a,q,o,m,rfl,h0,h1,rfl,rfl,rfl,rfl,hm,ha,hq,ho,rfl⟩:=h;w_on;refine⟨by omega,by omega,by show 1*_<=_;omega,?_⟩;rw[Int.toNat_natCast,uG,<- Iq,<- map_replicate];have hr:∀ c∈replicate m (sm q),Sk c:=λc hc=>by rw[(mem_replicate.mp hc).2];exact Iu hq
 have hl:(replicate m (sm q)).length=m:=length_replicate ..;obtain⟨j1,j2,j3,j4⟩:=Iv h0 h1 (by rw[hl];exact hm) hr;have ww:wA (.pick a (jn w0 w1 (replicate m (sm q)))):=⟨ha.w,j1⟩;have hh:hA (.pick a (jn w0 w1 (replicate m (sm q))))<=50:=by have:=ha.h;simp only[hA];omega
 have nn:nA (.pick a (jn w0 w1 (replicate m (sm q))))<=100000:=by have:=ha.n;simp only[nA];omega
 have dk:Dp 41 (.lst ((a::replicate m q).map qA)):=iy λx hx=>by
  rw[map_cons] at hx;rcases mem_cons.mp hx with e|e
  ·rw[e];exact ha.d
  ·obtain⟨k,hk,rfl⟩:=mem_map.mp e;rw[(mem_replicate.mp hk).2];exact hq.d
 refine aj _ ⟨w0,w1,replicate m (sm q),rfl,rfl,by rw[hl];exact hm,rfl⟩ ?_;w_on;refine aj _ ⟨.pick a (jn w0 w1 (replicate m (sm q))),rfl,ww,hh,nn,rfl⟩ ?_;rw[Iw hm];w_on;refine⟨by omega,by omega,by show 1*_<=_;omega,?_⟩;rw[Int.toNat_natCast,uG,<- map_replicate];refine⟨by rw[length_map,length_replicate];omega,aj false (e8 dk (by decide)) ?_⟩;refine bq rfl ?_;w_on;refine⟨by omega,by omega,?_⟩;rw[Int.toNat_natCast];refine jF m (λi A=>∃(o7 o8:Option Sl),A=⟨B',[some (.val (.lst [.str w0,.str w1])),some (.val (qA a)),some (.val (qA q)),some (.val (qA o)),some (.val (.int (m:Nat))),some (.val (qC (sm q))),some (.val (qA (.pick a (jn w0 w1 (replicate m (sm q)))))),o7,o8],none⟩) ⟨_,_,rfl⟩ (λ_ _ _=>trivial) ?_ ?_
 ·rintro k A2 hk ⟨o7,o8,rfl⟩
  have hs:∀ c∈(replicate m (sm q)).set k (sm o),Sk c:=λc hc=>by
   rcases mem_or_eq_of_mem_set hc with e|e
   ·exact hr c e
   ·rw[e];exact Iu ho
  have sl:((replicate m (sm q)).set k (sm o)).length=m:=by rw[length_set,hl]
  obtain⟨_,_,_,d4⟩:=Iv h0 h1 (l:=(replicate m (sm q)).set k (sm o)) (by rw[sl];exact hm) hs;have dd:Dp 44 (qA (.pick a (jn w0 w1 ((replicate m (sm q)).set k (sm o))))):=uH (ha.d.mono (by decide)) d4;w_on;refine⟨by omega,by omega,by show 1*_<=_;omega,?_⟩;rw[Int.toNat_natCast,uG];intro pa;refine⟨replicate m (qC (sm q)),k,rfl,rfl,by rw[length_replicate];exact hk,?_⟩;rw[<- Iq o,<- map_replicate (f:=qC),<- map_set];have e1:(1:Int)+(k:Nat)=((1+k:Nat):Int):=by omega
  w_on;rw[e1];refine aj _ ⟨_,q,o,[1+k],rfl,rfl,rfl,ww,hh,nn,by show 1<=100;decide,Iy hm hk,rfl⟩ ?_;rw[W0 hm hk];w_on;refine aj _ ⟨w0,w1,_,rfl,rfl,by rw[sl];exact hm,rfl⟩ ?_;w_on;refine aj false (e8 dd (by decide)) ?_;refine bq rfl ?_;w_on;rw[e1];refine aj _ (qe (wy:=[1+k]) ww hh nn (by show 1<=100;decide) (Iy hm hk)) ?_;w_on;refine aj false (e8 hq.d (by decide)) ?_;refine bq rfl ?_;w_on;exact⟨_,_,rfl⟩
 ·rintro A2 ⟨o7,o8,rfl⟩;w_on
end
theorem gQ.gk {d b:Nat}{a:Ak}(h:gQ d b a)(hd:d<=40)(hb:b<20000):Gk a:=
 ⟨h.w,aP (i9 a) (aP h.t.e hd),by have:=kz a;have:=h.t.c;omega,h.t.q.mono hd⟩
theorem W6 {a p:Ak}{wy:List Nat}(h:Gk a)(g:apart a wy=some p):Gk p:=by
 obtain⟨q1,q2,q3⟩:=zt h.w g;have:=h.h;have:=h.n;obtain⟨L,l1,_⟩:=uu h.w (by omega) g;exact⟨q1,by omega,by omega,zu l1 h.d⟩
theorem W7 {a p:Ak}{wy:List Nat}(h:Gk a)(g:apart a wy=some p):qA (c6 a wy p)=qA a:=by
 have:=h.n;obtain⟨L,l1,_,l3⟩:=uu h.w (by omega) g;rw[<- l3,HG l1]
theorem Iz {a p:Ak}{wy:List Nat}{x:PV}{r:ai}(h:Gk a)(g:apart a wy=some p)(hl:wy.length<=90)(hr:r.length<=5)(ok:nW x)(W8:∀ y∈r,nW y)(hx:∀ i:Int,x=.int i->i<0\/(kids p).length<=i):nY (qA a) (.tup ((wy.map λi=>PV.int (i:Nat))++x::r)) .non:=by
 have:=h.h;have:=h.n;refine⟨a,_,rfl,rfl,h.w,by omega,by omega,by rw[length_append,length_map,length_cons];omega,λy hy=>?_,by rw[HJ g hx];rfl⟩;rcases mem_append.mp hy with e|e
 ·obtain⟨i,_,rfl⟩:=mem_map.mp e;trivial
 ·rcases mem_cons.mp e with e|e
  ·rw[e];exact ok
  ·exact W8 y e
theorem is_tup (a:Ak):lO .tuple (qA a)=some true:=by cases a<;>rfl
section
variable {P:Program}{w:World}{K:Frag}{mg:a0}{base:Heap}
noncomputable def uI (K:Frag):Sp:=λvs H Q _=>∃(a:Addr)(ns:List Int),vs=[.ref a]/\mH H/\aN K H a (ns.map V.int)/\ns.length<=63/\∀ H',Q (.bl true) H'
theorem dY:bx ["_law_script","_law_state","_law_frame","_law_book","_law_ask_here","_law_cols","_law_size","_law_other","_law_way_here","_law_part_here","_law_kept","_law_step","_law_words","_law_q","_law_many_here","_law_made"] ["_law_script"] (aX lr):=by walk_at "s"
theorem W9 {k:Nat}{f:Addr}{fd:FuncData}(F:fD K "law" "law" lr f fd)(B:Bt mg)(Be:Kn P w K mg base k "_law_begin" (xn K))(IA:Kn P w K mg base k "_law_world" (spS K false (gL Ih)))(di:Kn P w K mg base k "_law_ask" (spS K false (c0 (jI 10))))(IB:Kn P w K mg base k "_law_way" (spS K false (bQ Il)))(qh:Kn P w K mg base k "_law_part" (spS K false (bQ oJ)))(jc:Kn P w K mg base k "with_part" (aY K false (dB uE)))(aZ:Kn P w K mg base k "_law_take" (spS K false (bQ eN)))(IC:Kn P w K mg base k "_law_along" (aY K false (cD Im)))(gX:Kn P w K mg base k "part_at" (aY K false (cD nY)))(eO:Kn P w K mg base k "_law_children" (aY K false (bX nJ)))(nL:Kn P w K mg base k "_law_many" (aY K false (bX (t9 50))))(ID:Kn P w K mg base k "_law_twice_right" (aY K false (cD Ip)))(IE:Kn P w K mg base k "_law_somes_right" (aY K false (lW Ir)))(pZ:Kn P w K mg base k "_law_with" (aY K false (dB (uv 8)))):cU P w K mg base du (k+1) f fd ["_law_script"] (uI K):=by
 refine F.ok dY (λvs H Q E h=>by obtain⟨a,ns,rfl,_⟩:=h;rfl) (λaE A outer s H vs Q E hr h=>?_);obtain⟨a,ns,rfl,hO,hS,hl,q⟩:=h;obtain⟨bf,bd,Z7,bF,bb,bk,bm⟩:=Be.ex
 refine⟨_,eP (gu (i:=1) dY.nd rfl (by first|exact Or.inl rfl|exact Or.inr rfl) (k7 bF hr rfl bm bk bb .nil lh (b8 (pv 0) cO))) (sc (eW (aK rfl IA hr (ac (vn 1) an)) (dX (n:=2) rfl rfl (bp (aQ (i:=2) dY.nd) (bp (aQ (i:=3) dY.nd) dW))))
  (sc (eW (aK rfl di hr (ac (vn 1) (ac (vn 2) (ac vi an)))) (dX (n:=3) rfl rfl (bp (aQ (i:=4) dY.nd) (bp (aQ (i:=5) dY.nd) (bp (aQ (i:=6) dY.nd) dW)))))
  (sc (eW (aK rfl di hr (ac (vn 1) (ac (vn 2) (ac vi an)))) (dX (n:=3) rfl rfl (bp (aQ (i:=7) dY.nd) (bp (aQ (i:=5) dY.nd) (bp (aQ (i:=6) dY.nd) dW)))))
  (sc (eW (aK rfl IB hr (ac (vn 1) (ac (vn 4) an))) (dX (n:=2) rfl rfl (bp (aQ (i:=8) dY.nd) (bp (aQ (i:=9) dY.nd) dW))))
  (sc (a_ (i:=10) dY.nd (G7 rfl hr B.repr (qf (el (ac (vn 4) (ac (vn 7) an))))))
  (sc (bg (PW.pt (gG (kc (kf rfl (qv (bI rfl IC hr (ac (vn 4) (ac (vn 8) an)))))) (gG (gf rfl hr (qv (bI rfl gX hr (ac (vn 4) (ac (vn 8) an)))) (qn 9)) (iU (gf rfl hr (qv (bI rfl gX hr (ac (vn 4) (ac (et an) an)))) (qn 4)))))) (s1 (aJ vb)) sn)
  (sc (eU PassesOwn.never rfl (iv rfl (et (ac (fH rfl B.len (qv (bI rfl eO hr (ac (vn 9) an)))) (ac (lQ vi) (ac (bT rfl (qv (fH rfl B.len (qv (bI rfl eO hr (ac (vn 9) an))))) (qv vi)) (ac vb an)))))) (aQ (i:=11) dY.nd)
  (s1 (bg (PW.pt (gG (FN (qv (bI rfl gX hr (ac (vn 4) (ac (bT rfl (qn 8) (qv (et (ac (vn 11) an)))) an)))) (qv v0)) (iU (FN (qv (bI rfl gX hr (ac (vn 4) (ac (bT rfl (qn 8) (qv (et (ac (vn 11) (ac vi an))))) an)))) (qv v0))))) (s1 (aJ vb)) sn)))
  (sc (su (i:=12) dY.nd (N:=["_law_k","_law_state"]) (k:=1) (ix:=[1]) cS rfl (iX (by rfl) B.range vi) (λ_ _ _ _=>(aQ (i:=0) (by show(["_law_k","_law_state"]:aq).Nodup;decide +kernel))) (λ_ _ _ _=>kn) (λ_ _ _ _=>(ax rfl hr (qf (el (ac vs (ac vs an)))) (qv (aK rfl aZ hr (ac (vn 1) (ac vi an)))))))
  (sc (eW (aK rfl qh hr (ac (vn 1) (ac (vn 2) an))) (dX (n:=3) rfl rfl (bp (aQ (i:=13) dY.nd) (bp (aQ (i:=5) dY.nd) (bp (aQ (i:=6) dY.nd) dW)))))
  (sc (bg (PW.pt (iq (m8 (qv (bI rfl nL hr (ac (vn 9) an))) (qv vi)) (jv (kc (kf rfl (qv (bI rfl ID hr (ac (vn 9) (ac (vn 7) an))))))))) (s1 (aJ vb)) sn)
  (sc (a_ (i:=14) dY.nd (bT rfl (qv vi) (qv (aK rfl aZ hr (ac (vn 1) (ac vi an))))))
  (sc (bg (PW.pt (iq (m8 (qv (bT rfl (qv (bI rfl nL hr (ac (vn 4) an))) (qn 14))) (qv vi)) (jv (kc (kf rfl (qv (bI rfl IE hr (ac (vn 12) (ac (vn 4) (ac (vn 13) (ac (vn 7) (ac (vn 14) an)))))))))))) (s1 (aJ vb)) sn)
  (sc (a_ (i:=15) dY.nd (bI rfl jc hr (ac (vn 4) (ac (vn 8) (ac (vn 7) an)))))
  (sc (bg (PW.pt (gG (kc (kf rfl (qv (pA .tuple rfl B.isinstance B.tuple PyProof.Rows.boot_tuple (qn 15))))) (gG (gf rfl hr (qn 15) (qv (bI rfl pZ hr (ac (vn 4) (ac (vn 8) (ac (vn 7) an)))))) (iU (gf rfl hr (qv (bI rfl gX hr (ac (vn 15) (ac (vn 8) an)))) (qn 7)))))) (s1 (aJ vb)) sn)
  (s1 (aJ (xM (lK rfl hr (qv (bI rfl jc hr (ac (vn 4) (ac (vn 8) (ac (vn 9) an))))) (qn 4)) (xK (lK rfl hr (qv (G7 rfl hr B.repr (qf (el (ac (vn 4) (ac (vn 7) an)))))) (qn 10)))))))))))))))))))),?_⟩
 refine⟨_,rfl,a,rfl,⟨ns,hS,hl⟩,λd D H1 Z8 Wo S1 s1=>?_⟩;refine Ui hO hS hl S1 s1 14 ?_ q;change (_:US) tJ ⟨λb=>b=d,[some (.val (.raw (.ref a))),some (.val (.raw (.ref d))),none,none,none,none,none,none,none,none,none,none,none,none,none,none],some ⟨d,a,10,D⟩⟩;have W':dw D:=Wo;w_on;refine⟨W',(by show 10<=1000;decide),λfr y fq F cf=>?_⟩;obtain⟨m1,bu,rfl⟩:=cf;have ft:m1<=50:=bu;clear bu;w_on;refine⟨3,by decide,by decide,F,rfl,W',(by show m1+1200<=80000;omega),λak k2 s2 cX A2 IF ne2 IG IH cK=>?_⟩;obtain⟨m2,gU,gW,bc,rfl⟩:=cK;have fT:m2<=m1+1200:=bc;clear bc;simp only[ag.d,ag.a,ag.b];w_on;refine⟨1,by decide,by decide,F,rfl,W',(by show m2+200<=80000;omega),λo k3 s3 gw A3 Z9 ne3 Z_ Z' gi=>?_⟩;obtain⟨m3,qi,qj,dE,rfl⟩:=gi;have nI:m3<=m2+200:=dE;clear dE;simp only[ag.d,ag.a,ag.b];have ga:=A2.gk (by decide) (by decide);have go:=A3.gk (by decide) (by decide);have ga1:=ga.h;have ga2:=ga.n;have jJ:hA ak<=50:=aP ga.h (by decide);have jK:nA ak<=100000:=aP ga.n (by decide);have go1:=go.h;have ga3:hA ak<=10:=aP (i9 ak) A2.t.e;have go3:hA o<=6:=aP (i9 o) A3.t.e;have go2:=go.n;have tm:Tm 11 12000 (.lst [qA ak,qA o]):=(VS (dD A2.t (dD (A3.t.mono (by decide:dA 1<=dA 3) (ar _)) (i8 (b:=0))))).mono (by decide) (by decide);w_on;refine⟨ak,rfl,ga.w,jJ,jK,ga.d,(by show m3<=80000;omega),λwy p rE hp wl zG=>?_⟩;obtain⟨m4,l_,rfl⟩:=zG;have W_:m4<=m3+7:=l_;clear l_;have gp:=W6 ga hp;have uJ:hA p<=50:=aP gp.h (by decide);have zH:nA p<=100000:=aP gp.n (by decide);have qk:wy.length<=100:=aP wl (by decide);have gp1:=gp.h;have gp2:=gp.n;w_on;refine aj _ (Hl tm (by decide) (by decide)) ?_;w_on;refine aj _ ⟨ak,p,wy,rfl,rfl,ga.w,jJ,jK,ga.d,hp,qk,rfl⟩ ?_;w_on;refine aj _ (qe ga.w jJ jK qk hp) ?_;w_on;refine aj false (e8 gp.d (by decide)) ?_;refine bq rfl ?_;w_on;refine aj _ (qe (wy:=[]) ga.w jJ jK (by decide) rfl) ?_;w_on;refine aj false (e8 ga.d (by decide)) ?_;refine bq rfl ?_;w_on;refine aj _ ⟨p,rfl,gp.w,uJ,zH,rfl⟩ ?_;w_on;refine aj _ ⟨p,rfl,gp.w,uJ,zH,rfl⟩ ?_;w_on
 have II:∀ x∈[PV.int ((kids p).map qA).length,PV.int (-1),PV.int (((kids p).map qA).length+5),PV.bl true],nW x/\∀ i:Int,x=.int i->i<0\/((kids p).length:Int)<=i:=by
  intro x hx;rw[length_map] at hx;simp only[mem_cons,not_mem_nil,or_false] at hx;rcases hx with rfl|rfl|rfl|rfl
  ·exact⟨trivial,λi e=>by injection e with e;omega⟩
  ·exact⟨trivial,λi e=>by injection e with e;omega⟩
  ·exact⟨trivial,λi e=>by injection e with e;omega⟩
  ·exact⟨trivial,λi e=>by cases e⟩
 generalize [PV.int ((kids p).map qA).length,PV.int (-1),PV.int (((kids p).map qA).length+5),PV.bl true]=Ls at II;rw[show fG Ls=fG (Ls.map id) by rw[map_id]];generalize vQ:(toD (PV.lst [qA ak,qA o])).shown=sh;refine gh Ls id (λdd A=>∃ me:Option Sl,A=⟨λb=>b=d,[some (.val (.raw (.ref a))),some (.val (.raw (.ref d))),some (.val fr),some (.val y),some (.val (qA ak)),some (.val (.ah k3)),some (.val (.int s3)),some (.val (qA o)),some (.val (qW wy)),some (.val (qA p)),some (.val (.str sh)),me,none,none,none,none],some ⟨d,a,m4,{ nm:=qi,pt:=qj,x:=D.x,z:=D.z,y:=D.y,tb:=D.tb }⟩⟩) ⟨_,rfl⟩ (λ_ _ _=>trivial) ?_ ?_
 ·rintro dd x r A4 e ⟨me,rfl⟩;obtain⟨IJ,bad⟩:=II x (by rw[e];simp);have mw:(wy.map λi=>PV.int (i:Nat)).length=wy.length:=length_map ..;simp only[id,qW];w_on;refine⟨by omega,aj _ (Iz (r:=[]) ga hp (by omega) (by decide) IJ (λ_ h=>by cases h) bad) ?_⟩;w_on;refine⟨by omega,aj _ (Iz (r:=[.int 0]) ga hp (by omega) (by decide) IJ (λy h=>by rw[mem_singleton.mp h];trivial) bad) ?_⟩;w_on;exact⟨_,rfl⟩
 ·rintro A4 ⟨me,rfl⟩;w_on;refine Ug 2 (λi ys S=>∃(zs:aq)(m:Nat),ys=zs.map PV.str/\zs.length=i/\(∀ z∈zs,z∈H3)/\S=some ⟨d,a,m,{ nm:=qi,pt:=qj,x:=D.x,z:=D.z,y:=D.y,tb:=D.tb }⟩/\m<=m4+i) (by decide) ⟨[],m4,rfl,rfl,(λ_ h=>by cases h),rfl,ar _⟩ ?_ ?_
  ·rintro B i ys S hi ⟨zs,m,rfl,zl,hz,rfl,hm⟩ R hR;w_on;refine draw (by omega) (by decide) (by decide) λv v0 v1=>?_;w_on;refine eh v0 (by simpa using v1) λx hx=>?_
   have wx:∃ t:Str,x=.str t/\t∈H3:=by
    simp only[mem_cons,not_mem_nil,or_false] at hx;rcases hx with rfl|rfl<;>exact⟨_,rfl,by decide⟩
   obtain⟨t,rfl,ht⟩:=wx;refine hR _ _ ⟨rfl,rfl⟩ ⟨zs++[t],m+1,by rw[map_append];rfl,by rw[length_append,length_singleton];omega,λz eA=>?_,rfl,by omega⟩;rcases mem_append.mp eA with e|e
   ·exact hz z e
   ·rw[mem_singleton.mp e];exact ht
  rintro ys S ⟨zs,m5,rfl,zl,hz,rfl,qc⟩
  obtain⟨w0,w1,rfl⟩:∃ w0 w1,zs=[w0,w1]:=by
   match zs,zl with
   |[w0,w1],_=>exact⟨w0,w1,rfl⟩
  have Xa:=hz w0 (by simp);have Xb:=hz w1 (by simp);simp only[map_cons,map_nil];w_on;refine⟨F,W',(by show m5<=90000;omega),λu v5 k6 Xc hu hv ok6 ne6 zI=>?_⟩;obtain⟨m6,nm6,pt6,qm,rfl⟩:=zI;have Xd:m6<=m5+1:=qm;clear qm;simp only[ag.d,ag.a,ag.b];have gq:Gk (.tab u v5):=(zf hu hv).gk (by decide) (by decide);w_on;refine aj _ ⟨p,rfl,gp.w,uJ,uJ,zH,rfl⟩ ?_;w_on;have aw:=HL ga.w go.w hp
  have Xe:Dp 80 (qA (c6 ak wy o)):=by
   obtain⟨L,l1,_,l3⟩:=uu ga.w jK hp;rw[<- l3];exact HH l1 ga.d go.d
  refine lZ ?_ λe tl=>?_
  ·w_on;refine draw (by omega) (by decide) (by decide) λv v0 v1=>?_;obtain⟨mm,em,Xf⟩:∃ mm:Nat,2+v=((mm:Nat):Int)/\(mm=2\/mm=3):=⟨(2+v).toNat,by omega,by omega⟩;w_on;rw[em];refine aj _ ⟨ak,rfl,ga.w,jJ,jJ,jK,rfl⟩ ?_;w_on;refine lZ ?_ λe tl=>?_
   ·w_on;refine aj _ ⟨ak,p,o,wy,rfl,rfl,rfl,ga.w,jJ,jK,qk,hp,rfl⟩ ?_;w_on;refine aj true (is_tup _) ?_;w_on;refine aj _ ⟨ak,wy,o,p,rfl,rfl,rfl,ga.w,jJ,jK,hp,Nat.lt_of_le_of_lt wl (by decide),qk,rfl⟩ ?_;w_on;refine aj false (e8 Xe (by decide)) ?_;refine bq rfl ?_;w_on;refine aj _ (qe aw.1 (by omega) (by omega) (by omega) (HK hp)) ?_;w_on;refine aj false (e8 go.d (by decide)) ?_;refine bq rfl ?_;w_on;refine aj _ ⟨ak,p,p,wy,rfl,rfl,rfl,ga.w,jJ,jK,qk,hp,rfl⟩ ?_;rw[W7 ga hp];w_on;refine aj (.bl true) (e8 ga.d (by decide)) ?_;refine aj true rfl ?_;refine cJ rfl ?_;w_on;refine aj _ (Hl tm (by decide) (by decide)) ?_;rw[vQ];w_on;exact beq_self_eq_true sh
   ·w_on;refine aj _ ⟨w0,w1,ak,.tab u v5,o,mm,rfl,Xa,Xb,rfl,rfl,rfl,rfl,Xf,ga,gq,go,rfl⟩ ?_;revert tl;w_on;exact id
  ·w_on;refine aj _ ⟨p,o,rfl,rfl,gp,go,rfl⟩ ?_;revert tl;w_on;exact id
end
noncomputable def IK (x:PV)(st:ag)(Q:PV->ag->Prop):Prop:=∃ kvs,x=.ah kvs/\DD 30 kvs/\st.n<=80000/\∀(r:PV)(st':ag),Tm 2 150 r->Nx st 10 st'->Q r st'
noncomputable def IL (deep c:Nat)(st:ag)(Q:PV->ag->Prop):Prop:=∀(a:Ak)(kvs:aT)(s:Int)(st':ag),gQ (dA deep) (bA deep) a->DD (cA deep) kvs->kvs≠[]->0<=s->s<=zA deep->Nz st c st'->Q (.tup [qA a,.ah kvs,.int s]) st'
noncomputable def iJ (m:Nat)(x y:PV)(st:ag)(Q:PV->ag->Prop):Prop:=∃ d:Nat,d<=2/\max (lA d) 2+1<=m/\lY x/\y=.int d/\dw st.b/\st.n+gA (d+1)<=80001/\IL (d+1) (gA (d+1)-1) st Q
theorem Xg {M:ai}{u:Int}(h0:0<=u)(h1:u<=M.length):∀ y∈cI M (some u) none++cI M none (some u),y∈M:=by
 rw[iz h0 h1,tH h0 h1];intro y hy;rcases mem_append.mp hy with e|e
 ·exact mem_of_mem_drop e
 ·exact mem_of_mem_take e
theorem Xh {M:ai}{u:Int}(h0:0<=u)(h1:u<=M.length):(cI M (some u) none).length+(cI M none (some u)).length=M.length:=by
 rw[iz h0 h1,tH h0 h1,length_drop,length_take];omega
theorem kM {d b:Nat}{M:ai}{x:PV}(h:∀ y∈M,Tm d b y)(hx:Tm d b x):∀ y∈M++[x],Tm d b y:=λy hy=>by
 rcases mem_append.mp hy with e|e
 ·exact h y e
 ·rw[mem_singleton.mp e];exact hx
section
variable {P:Program}{w:World}{K:Frag}{mg:a0}{base:Heap}
theorem uK:bx ["_law_state","_law_cols","_law_left","_law_keys_here","_law_k"] ["_law_state","_law_cols"] (aX wY):=by walk_at "s"
theorem Xi {k:Nat}(D:Df K mg "_law_keys" wY)(B:Bt mg)(aZ:Kn P w K mg base k "_law_take" (spS K false (bQ eN))):Kn P w K mg base (k+1) "_law_keys" (spS K false (bQ IK)):=by
 refine D.eL uK (λ_ _ _ _ _ _=>fg λ_ _=>rfl) (λ_ _ _=>bQ.len) (by decide) (λf aE A outer s H E hr=>⟨_,(sc (eR (i:=2) uK.nd (pL rfl rfl B.sorted (qn 1)))
  (sc (eR (i:=3) uK.nd (el an))
  (sc (eU PassesOwn.never rfl (iX (by rfl) B.range (tK rfl B.min (qv (fH rfl B.len (qn 2))) (qv (aK rfl aZ hr (ac (vn 0) (ac vi an)))))) (aQ (i:=4) uK.nd)
  (s1 (eS (fR rfl 3 (et (ac (Uj rfl 2 (aK rfl aZ hr (ac (vn 0) (ac (fH rfl B.len (qn 2)) an)))) (ac (ax rfl hr (qf (el (ac vs (ac vs an)))) (qv (aK rfl aZ hr (ac (vn 0) (ac vi an))))) an)))))))
  (s1 (aJ (kx rfl B.tuple (qn 3))))))),λB' xs st Q h=>?_⟩)
 obtain⟨x1,rfl,h⟩:=h;change (_:US) (dN false Q) ⟨B',[some (.val (.raw (.ref st.d))),some (.val x1),none,none,none],some st⟩;obtain⟨kvs,rfl,ok,hn,h⟩:=h;obtain⟨d,a,n,D⟩:=st;have fz:n<=80000:=hn;clear hn;obtain⟨zs,ek,el,hz⟩:=lX ok;have l3:=ok.1;w_on;refine aj _ ⟨zs,ek,by omega,rfl⟩ ?_;have sl:(b_ zs).length<=30:=by rw[(d9 _).length_eq];omega
 have all:∀ z∈b_ zs,Sh z:=λz eA=>(hz z ((d9 _).mem_iff.mp eA)).2.1;generalize b_ zs=ys at sl all;w_on;intro p q;have yl:(ys.map PV.str).length=ys.length:=length_map ..
 have ya:∀ y∈ys.map PV.str,Tm 0 20 y:=λy hy=>by
  obtain⟨z,kD,rfl⟩:=mem_map.mp hy;exact ef (all z kD)
 refine draw (by omega) (by decide) (by decide) λu u0 u1=>?_;w_on;generalize hN:(if u<((ys.map PV.str).length:Int) then u else ((ys.map PV.str).length:Int))=N;have Xj:0<=N:=by rw[<- hN];split<;>omega
 have IM:N<=ys.length:=by rw[<- hN];split<;>omega
 have Xk:N<=3:=by rw[<- hN];split<;>omega
 refine⟨by omega,by omega,jF _ (λi A=>∃(L M:ai)(o:Option Sl)(m:Nat),A=⟨B',[some (.val (.raw (.ref d))),some (.val (.ah kvs)),some (.own p (.lst L)),some (.own q (.lst M)),o],some ⟨d,a,m,D⟩⟩/\L.length+i=ys.length/\M.length=i/\(∀ y∈L,Tm 0 20 y)/\(∀ y∈M,Tm 1 42 y)/\m<=n+1+2*i) ⟨ys.map PV.str,[],none,n+1,rfl,by omega,rfl,ya,(λ_ h=>by cases h),by omega⟩ (λ_ _ _=>trivial) ?_ ?_⟩
 ·rintro i _ hi ⟨L,M,o,m,rfl,hL,hM,aL,aM,hm⟩;w_on;refine draw (by omega) (by omega) (Int.lt_of_le_of_lt (b:=900) (by omega) (by decide)) λv v0 v1=>?_;w_on;have hv:v.toNat<L.length:=by omega
  refine⟨v.toNat,L[v.toNat],by rw[Int.toNat_of_nonneg v0],by omega,cg hv,?_⟩;have zJ:=aL _ (getElem_mem hv);w_on;refine draw (by omega) (by decide) (by decide) λv' n_ oe=>?_;w_on;refine eh n_ (by simpa using oe) λx hx=>?_
  have qo:Tm 0 20 x:=by
   simp only[mem_cons,not_mem_nil,or_false] at hx;rcases hx with rfl|rfl<;>exact ef (cE _)
  w_on;refine⟨by omega,_,_,_,_,rfl,?_,?_,λy hy=>aL y (mem_of_mem_eraseIdx hy),kM aM ((gO (dD zJ (dD qo i8))).mono (ar _) (by decide:20+1+(20+1+0)<=42)),by omega⟩
  ·rw[length_eraseIdx_of_lt hv];omega
  ·rw[length_append,hM];rfl
 ·rintro _ ⟨L,M,o,m,rfl,hL,hM,aL,aM,hm⟩;have M3:M.length<=3:=by omega
  w_on;exact h _ ⟨d,a,m,D⟩ ((gO (pQ aM)).mono (ar _) (by have:M.length*(42+1)<=3*43:=Nat.mul_le_mul_right _ M3;omega)) ⟨m,(by show m<=n+10;omega),rfl⟩
end
section
variable {P:Program}{w:World}{K:Frag}{mg:a0}{base:Heap}
variable {m₀:Nat}
theorem iG:bx ["_law_state","_law_frame","_law_deep","_law_ask_here","_law_cols","_law_size","_law_shown_here","_law_pairs","_law_name","_law_way_here","_law_word_here","_law_turn"] ["_law_state","_law_frame","_law_deep"] (aX wV):=by walk_at "s"
theorem Xl {k:Nat}(D:Df K mg "_law_shown" wV)(B:Bt mg)(di:Kn P w K mg base k "_law_ask" (spS K false (c0 (jI m₀))))(aZ:Kn P w K mg base k "_law_take" (spS K false (bQ eN)))(iD:Kn P w K mg base k "_law_new" (spS K false (gL pR)))(fI:Kn P w K mg base k "_law_sum" (spS K false (c3 (nH 3)))):Kn P w K mg base (k+1) "_law_shown" (spS K false (c0 (iJ (m₀+1)))):=by
 refine D.eL iG (λ_ _ _ _ _ _=>fM λ_ _ _=>rfl) (λ_ _ _=>c0.len) (by decide) (λf aE A outer s H E hr=>⟨_,(sc (eW (aK rfl di hr (ac (vn 0) (ac (vn 1) (ac (vn 2) an)))) (dX (n:=3) rfl rfl (bp (aQ (i:=3) iG.nd) (bp (aQ (i:=4) iG.nd) (bp (aQ (i:=5) iG.nd) dW)))))
  (sc (eR (i:=6) iG.nd Ge)
  (sc (eR (i:=7) iG.nd (el an))
  (sc (eU PassesOwn.never rfl (iv rfl (vf (pL rfl rfl B.sorted (qn 4)))) (aQ (i:=8) iG.nd)
  (sc (a_ (i:=9) iG.nd (aK rfl aZ hr (ac (vn 0) (ac vi an))))
  (sc (bg (PW.pt (gG (m8 (qn 9) (qv vi)) (iU (bW rfl hr (qv (Vd rfl B.len (qn 4))) (qv vi))))) (sc (eS (fR rfl 7 (et (ac (vn 8) (ac (et (ac vs (ac (vn 8) an))) an)))))
  (s1 (yE hr 6 (ax rfl hr (qn 4) (qn 8)) (vn 8)))) sn)
  (s1 (bg (PW.pt (gG (bW rfl hr (qn 9) (qv vi)) (iU (bW rfl hr (qv (fH rfl B.len (qn 7))) (qv vi))))) (sc (a_ (i:=10) iG.nd (aK rfl iD hr (ac (vn 0) an)))
  (sc (eS (fR rfl 7 (et (ac (vn 10) (ac (aK rfl fI hr (ac (vn 0) (ac (vn 4) (ac (ax rfl hr (qn 4) (qn 8)) (ac vi an))))) an)))))
  (s1 (yE hr 6 (ax rfl hr (qn 4) (qn 8)) (vn 10))))) sn)))))
  (sc (a_ (i:=11) iG.nd (aK rfl aZ hr (ac (vn 0) (ac (fH rfl B.len (qn 7)) an))))
  (s1 (aJ (et (ac (et (ac vs (ac (vn 3) (ac (kx rfl B.tuple (qf (mW (qf (FV rfl (qn 7) (gK (vn 11)) iZ)) (qf (FV rfl (qn 7) iZ (gK (vn 11))))))) an)))) (ac (vn 6) (ac (vn 5) an))))))))))),λB' xs st Q h=>?_⟩)
 obtain⟨x1,x2,rfl,h⟩:=h;change (_:US) (dN false Q) ⟨B',[some (.val (.raw (.ref st.d))),some (.val x1),some (.val x2),none,none,none,none,none,none,none,none,none],some st⟩;obtain⟨dp,hd2,hm,F,rfl,W,hn,h⟩:=h;obtain⟨d,a,n,D⟩:=st;have W':dw D:=W;have fz:n+gA (dp+1)<=80001:=hn;clear hn;have dU:dp=0\/dp=1\/dp=2:=by omega
 have qs:gA dp+13*cA dp+5<=gA (dp+1)/\cA dp*2=cA (dp+1)/\cA dp<=12/\bA dp+25+148*cA (dp+1)<=bA (dp+1)/\max (dA dp) 4+1<=dA (dp+1)/\zA dp<=zA (dp+1):=by rcases dU with rfl|rfl|rfl<;>decide
 obtain⟨q1,q2,q3,q4,q5,q6⟩:=qs;w_on;refine⟨dp,by omega,by omega,F,rfl,W',(by show n+gA dp<=80000;omega),λau kvs sz fq hu ok bL uL IP cf=>?_⟩;obtain⟨m1,nm,pt,bu,rfl⟩:=cf;have ft:m1<=n+gA dp:=bu;clear bu;simp only[ag.d,ag.a,ag.b];obtain⟨zs,ek,el,hz⟩:=lX ok;have l3:=ok.1;w_on;intro p q;refine aj _ ⟨zs,ek,by omega,rfl⟩ ?_;have sl:(b_ zs).length<=cA dp:=by rw[(d9 _).length_eq];omega
 have all:∀ z∈b_ zs,i_ kvs z:=λz eA=>hz z ((d9 _).mem_iff.mp eA)
 have qp:b_ zs≠[]:=λe=>by
  have h1:=(d9 zs).length_eq;rw[e,el] at h1;exact bL (eq_nil_of_length_eq_zero h1.symm)
 generalize b_ zs=ys at sl all qp;w_on;have kH:DD 30 kvs:=ok.mono (by omega);have Hw:nS 1=12:=rfl;have e9:bS 1=125:=rfl;refine gh ys PV.str (λdd A=>∃(M:ai)(og:aT)(o8 o9 mf:Option Sl)(m:Nat)(fv fw:Int),A=⟨B',[some (.val (.raw (.ref d))),some (.val x1),some (.val (.int (dp:Nat))),some (.val (qA au)),some (.val (.ah kvs)),some (.val (.int sz)),some (.own p (.ah og)),some (.own q (.lst M)),o8,o9,mf,none],some ⟨d,a,m,{ nm:=fv,pt:=fw,x:=D.x,z:=D.z,y:=D.y,tb:=D.tb }⟩⟩/\DD (2*dd.length) og/\M.length<=2*dd.length/\(M≠[]->og≠[])/\(dd≠[]->M≠[])/\(∀ y∈M,Tm 3 147 y)/\m<=m1+13*dd.length) ⟨[],[],none,none,none,m1,nm,pt,rfl,⟨ar _,λ_ h=>by cases h⟩,ar _,(λh=>absurd rfl h),(λh=>absurd rfl h),(λ_ h=>by cases h),by omega⟩ (λ_ _ _=>trivial) ?_ ?_
 ·rintro dd x r A2 e ⟨M,og,o8,o9,mf,m,fv,fw,rfl,hD,hM,zK,_,aM,hm⟩;have hx:i_ kvs x:=all x (by rw[e];simp);have Xm:dd.length+1<=cA dp:=by rw[e,length_append,length_cons] at sl;omega
  have kl:=hD.1;have ll:(dd++[x]).length=dd.length+1:=by simp
  w_on;refine draw (by omega) (by decide) (by decide) λu u0 u1=>?_;w_on;have tc:Tm 3 147 (.tup [.str x,.tup [.str "column",.str x]]):=(gR hx.2.1 (gR (d:=0) (cE _) (ef hx.2.1))).mono (by decide) (by decide);have pp:=hD.put hx.2.1 hx.2.2;have kl2:=pp.1.1;refine bM (λe1=>?_) λe1=>?_
  ·w_on;refine⟨by omega,aj _ hx.1 ?_⟩;w_on;refine⟨by omega,bq ?_ ?_⟩
   ·have:=of_decide_eq_true e1;simp;omega
   w_on;refine bq (by simp;omega) ?_;w_on;exact⟨_,_,_,_,_,_,_,_,rfl,pp.1.mono (by omega),by rw[length_append];show M.length+1<=_;omega,λ_=>pp.2,λ_ e=>by simp at e,kM aM tc,by omega⟩
  w_on;refine bM (λe3=>?_) λe3=>?_
  ·w_on;refine⟨by omega,aj _ hx.1 ?_⟩;w_on;refine⟨by omega,bM (λe2=>?_) λe2=>?_⟩
   ·w_on;refine⟨W',λz cX iH cK=>?_⟩;obtain⟨m2,gU,gW,bc,rfl⟩:=cK;have fT:m2<=m+1+0:=bc;clear bc;simp only[ag.d,ag.a,ag.b];w_on;refine aj _ hx.1 ?_;w_on;refine⟨2,by decide,kvs,kd kvs x,rfl,rfl,rfl,kH,hx.2.2,(by show m2+nS 1<=90000;omega),λs1 gw iE gi=>?_⟩;obtain⟨m3,dE,rfl⟩:=gi;have nI:m3<=m2+nS 1:=dE;clear dE;have tp:Tm 3 147 (.tup [.str z,s1]):=(gR iH.sh iE).mono (ar _) (by rw[e9];decide);w_on;refine⟨by first|omega|(simp only[length_append,length_cons,length_nil,ll];omega),aj _ hx.1 ?_⟩;w_on;have p2:=pp.1.put iH.sh hx.2.2;exact⟨by first|omega|(simp only[length_append,length_cons,length_nil,ll];omega),_,_,_,_,_,_,_,_,rfl,p2.1.mono (by omega),by first|omega|(simp only[length_append,length_cons,length_nil,ll];omega),λ_=>p2.2,λ_ e=>by simp at e,kM (kM aM tc) tp,by omega⟩
   ·w_on;refine bq (by simp;omega) ?_;w_on;exact⟨_,_,_,_,_,_,_,_,rfl,pp.1.mono (by omega),by rw[length_append];show M.length+1<=_;omega,λ_=>pp.2,λ_ e=>by simp at e,kM aM tc,by omega⟩
  ·w_on;refine bM (λe2=>?_) λe2=>?_
   ·w_on;refine⟨W',λz cX iH cK=>?_⟩;obtain⟨m2,gU,gW,bc,rfl⟩:=cK;have fT:m2<=m+1+0:=bc;clear bc;simp only[ag.d,ag.a,ag.b];w_on;refine aj _ hx.1 ?_;w_on;refine⟨2,by decide,kvs,kd kvs x,rfl,rfl,rfl,kH,hx.2.2,(by show m2+nS 1<=90000;omega),λs1 gw iE gi=>?_⟩;obtain⟨m3,dE,rfl⟩:=gi;have nI:m3<=m2+nS 1:=dE;clear dE;have tp:Tm 3 147 (.tup [.str z,s1]):=(gR iH.sh iE).mono (ar _) (by rw[e9];decide);w_on;refine⟨by first|omega|(simp only[length_append,length_cons,length_nil,ll];omega),aj _ hx.1 ?_⟩;w_on;have p2:=hD.put iH.sh hx.2.2;exact⟨by first|omega|(simp only[length_append,length_cons,length_nil,ll];omega),_,_,_,_,_,_,_,_,rfl,p2.1.mono (by omega),by first|omega|(simp only[length_append,length_cons,length_nil,ll];omega),λ_=>p2.2,λ_ e=>by simp at e,kM aM tp,by omega⟩
   ·w_on;refine bM (λe4=>?_) λe4=>?_
    ·w_on;refine⟨W',λz cX iH cK=>?_⟩;obtain⟨m2,gU,gW,bc,rfl⟩:=cK;have fT:m2<=m+1+0:=bc;clear bc;simp only[ag.d,ag.a,ag.b];w_on;refine aj _ hx.1 ?_;w_on;refine⟨2,by decide,kvs,kd kvs x,rfl,rfl,rfl,kH,hx.2.2,(by show m2+nS 1<=90000;omega),λs1 gw iE gi=>?_⟩;obtain⟨m3,dE,rfl⟩:=gi;have nI:m3<=m2+nS 1:=dE;clear dE;have tp:Tm 3 147 (.tup [.str z,s1]):=(gR iH.sh iE).mono (ar _) (by rw[e9];decide);w_on;refine⟨by first|omega|(simp only[length_append,length_cons,length_nil,ll];omega),aj _ hx.1 ?_⟩;w_on;have p2:=hD.put iH.sh hx.2.2;exact⟨by first|omega|(simp only[length_append,length_cons,length_nil,ll];omega),_,_,_,_,_,_,_,_,rfl,p2.1.mono (by omega),by first|omega|(simp only[length_append,length_cons,length_nil,ll];omega),λ_=>p2.2,λ_ e=>by simp at e,kM aM tp,by omega⟩
    ·w_on;exact⟨_,_,_,_,_,_,_,_,rfl,hD.mono (by omega),by omega,zK,(λ_ e=>by rw[e] at e4;cases e4),aM,by omega⟩
 ·rintro A2 ⟨M,og,o8,o9,mf,m,fv,fw,rfl,hD,hM,zK,IQ,aM,hm⟩;have kl:=hD.1;have hl:0<M.length:=length_pos_iff.mpr (IQ qp);have Ml:M.length<=cA (dp+1):=by omega
  w_on;refine draw (by omega) (by omega) (Int.lt_of_le_of_lt (b:=900) (by omega) (by decide)) λu u0 u1=>?_;w_on;have cm:=Xg (M:=M) u0 (by omega);have ct:=Xh (M:=M) u0 (by omega);refine⟨by omega,?_⟩;generalize hL:cI M (some u) none++cI M none (some u)=L at cm;have Ll:L.length=M.length:=by rw[<- hL,length_append];omega
  have tL:=pQ (d:=3) (b:=147) λy hy=>aM y (cm y hy);have Lb:L.length*(147+1)<=cA (dp+1)*148:=Nat.mul_le_mul_right _ (by omega);exact h (.one "show" au [.tup L]) og sz _ ⟨⟨by decide,hu.w⟩,(gS (cE _) (hu.t.mono (Nat.le_max_left _ 4) (ar _)) ((gO tL).mono (Nat.le_max_right (dA dp) 4) (ar _))).mono q5 (by omega)⟩ (hD.mono (by omega)) (zK (IQ qp)) uL (by omega) ⟨m+1,fv,fw,(by show m+1<=n+(gA (dp+1)-1);omega),rfl⟩
end
noncomputable def zL (m:Nat)(x y z:PV)(st:ag)(Q:PV->ag->Prop):Prop:=∃(k1 k2:aT)(n1 n2:Nat),3<=m/\lY x/\y=.ah k1/\z=.ah k2/\DD n1 k1/\DD n2 k2/\n1+n2<=18/\dw st.b/\st.n+100<=80000/\∀(c:Cd)(st':ag),kB 5 910 c->Nz st 100 st'->Q (qC c) st'
noncomputable def zM (m:Nat)(x y z:PV)(st:ag)(Q:PV->ag->Prop):Prop:=∃(d:Nat)(t:Str),d<=2/\max (lA d) 3+1<=m/\lY x/\y=.str t/\t∈H2/\z=.int d/\dw st.b/\st.n+gA (d+1)<=80001/\IL (d+1) (gA (d+1)-1) st Q
theorem Xn (z:Str){b:Bool}(h:[("half":Str),"lack"].contains z=b):i4 false (.str z) (.tup [.str "half",.str "lack"]) (.bl b):=by
 show i4 false (.str z) (.tup ([("half":Str),"lack"].map PV.str)) (.bl b);rw[GB,h,Bool.false_xor]
theorem zN {d b c e:Nat}{t:Str}{x y z:PV}(ht:Sh t)(h:Tm d b x)(g:Tm d c y)(k:Tm d e z):Tm (d+1) (24+b+c+e) (.tup [.str t,x,y,z]):=(gO (dD (ef ht) (dD h (dD g (dD k i8))))).mono (ar _) (Nat.le_of_eq (by omega:20+1+(b+1+(c+1+(e+1+0)))=24+b+c+e))
theorem Xo {t:Str}(h:t∈H2):Sh t:=by
 simp only[H2,mem_cons,not_mem_nil,or_false] at h;rcases h with rfl|rfl|rfl|rfl<;>exact cE _
noncomputable def pd:Nat->Nat|0=>0|d+1=>d
section
variable {P:Program}{w:World}{K:Frag}{mg:a0}{base:Heap}
variable {m₀:Nat}
theorem jL:bx ["_law_state","_law_frame","_law_word_here","_law_deep","_law_a","_law_mine","_law_one","_law_b","_law_yours","_law_other","_law_ask_here"] ["_law_state","_law_frame","_law_word_here","_law_deep"] (aX wW):=by walk_at "s"
theorem Xp {k:Nat}(D:Df K mg "_law_both" wW)(B:Bt mg)(di:Kn P w K mg base k "_law_ask" (spS K false (c0 (jI m₀))))(IS:Kn P w K mg base k "_law_meeting" (spS K false (c3 (zL m₀))))(kF:Kn P w K mg base k "_law_merged" (aY K false (cD tW))):Kn P w K mg base (k+1) "_law_both" (spS K false (c3 (zM (m₀+1)))):=by
 refine D.eL jL (λ_ _ _ _ _ _=>j7 λ_ _ _ _=>rfl) (λ_ _ _=>c3.len) (by decide) (λf aE A outer s H E hr=>⟨_,(sc (eW (aK rfl di hr (ac (vn 0) (ac (vn 1) (ac (vn 3) an)))) (dX (n:=3) rfl rfl (bp (aQ (i:=4) jL.nd) (bp (aQ (i:=5) jL.nd) (bp (aQ (i:=6) jL.nd) dW)))))
  (sc (eW (aK rfl di hr (ac (vn 0) (ac (vn 1) (ac (eV (qn 3) (qv (lP B.int (qv (FK (qn 3) (qv vi)))))) an)))) (dX (n:=3) rfl rfl (bp (aQ (i:=7) jL.nd) (bp (aQ (i:=8) jL.nd) (bp (aQ (i:=9) jL.nd) dW)))))
  (sc (bg (lL (qv (sG (qn 6) (qv (GI rfl B.max (qv vi) (qn 9))))) (qv vi)) (s1 (aJ (et (ac (vn 4) (ac (vn 5) (ac (vn 6) an)))))) sn)
  (sc (a_ (i:=10) jL.nd (et (ac (vn 2) (ac (vn 4) (ac (vn 7) (ac (aK rfl IS hr (ac (vn 0) (ac (vn 1) (ac (vn 5) (ac (vn 8) an))))) an))))))
  (sc (bg (ni rfl hr (qn 2) (qv (et (ac vs (ac vs an))))) (s1 (aJ (et (ac (vn 10) (ac (vn 5) (ac (vn 6) an)))))) sn)
  (s1 (aJ (et (ac (vn 10) (ac (bI rfl kF hr (ac (vn 5) (ac (vn 8) an))) (ac (sG (qn 6) (qv (GI rfl B.max (qv vi) (qn 9)))) an))))))))))),λB' xs st Q h=>?_⟩)
 obtain⟨x1,x2,x3,rfl,h⟩:=h;change (_:US) (dN false Q) ⟨B',[some (.val (.raw (.ref st.d))),some (.val x1),some (.val x2),some (.val x3),none,none,none,none,none,none,none],some st⟩;obtain⟨dp,t,hd2,hm,F,rfl,ht,rfl,W,hn,h⟩:=h;obtain⟨d,a,n,D⟩:=st;have W':dw D:=W;have fz:n+gA (dp+1)<=80001:=hn;clear hn;have dU:dp=0\/dp=1\/dp=2:=by omega
 have qs:gA dp+gA (pd dp)+105<=gA (dp+1)/\cA dp+cA (pd dp)<=cA (dp+1)/\cA dp+cA (pd dp)<=18/\24+bA dp+bA (pd dp)+910<=bA (dp+1)/\max (max (dA dp) (dA (pd dp))) 5+1<=dA (dp+1)/\zA dp<=zA (dp+1)/\lA (pd dp)<=lA dp/\pd dp<=2/\zA dp<=1000/\zA (pd dp)<=1000/\100<=zA (dp+1)/\((dp:Int)-(if decide ((0:Int)<dp)=true then 1 else 0))=(pd dp:Nat):=by rcases dU with rfl|rfl|rfl<;>decide
 obtain⟨q1,q2,q3,q4,q5,q6,q7,q8,q9,f',mJ,lu⟩:=qs;w_on;refine⟨dp,by omega,by omega,F,rfl,W',(by show n+gA dp<=80000;omega),λu1 k1 s1 fq zO d1 ne1 zP s11 cf=>?_⟩;obtain⟨m1,tY,tZ,bu,rfl⟩:=cf;have ft:m1<=n+gA dp:=bu;clear bu;simp only[ag.d,ag.a,ag.b];w_on;rw[lu];refine⟨pd dp,by omega,by omega,F,rfl,W',(by show m1+gA (pd dp)<=80000;omega),λu2 k2 s2 cX qq d2 ne2 IG IH cK=>?_⟩;obtain⟨m2,gU,gW,bc,rfl⟩:=cK;have fT:m2<=m1+gA (pd dp):=bc;clear bc;simp only[ag.d,ag.a,ag.b];have fin:∀(r:Ak)(kvs:aT)(s:Int)(m:Nat)(nm pt:Int),gQ (dA (dp+1)) (bA (dp+1)) r->DD (cA (dp+1)) kvs->kvs≠[]->0<=s->s<=zA (dp+1)->m<=n+(gA (dp+1)-1)->Q (.tup [qA r,.ah kvs,.int s]) ⟨d,a,m,{ nm:=nm,pt:=pt,x:=D.x,z:=D.z,y:=D.y,tb:=D.tb }⟩:=λr kvs s m nm pt h1 h2 h3 h4 h5 hm=>h r kvs s _ h1 h2 h3 h4 h5 ⟨m,nm,pt,hm,rfl⟩;w_on;have cm:oB s1 (if s2 > 1 then s2 else 1):=.inl ⟨by omega,by omega⟩;have M1:0<=s1*(if s2 > 1 then s2 else 1):=Int.mul_nonneg zP (by split<;>omega);refine⟨cm,bM (λe=>?_) λe=>?_⟩
 ·w_on;exact fin u1 _ _ _ _ _ (zO.mono (by omega) (by omega)) (d1.mono (by omega)) ne1 zP (by omega) (by omega)
 have M2:=of_decide_eq_false e;have dn:=d1.1;have dn2:=d2.1;w_on;refine⟨k1,k2,_,_,by omega,F,rfl,rfl,d1,d2,q3,W',(by show m2+100<=80000;omega),λc gw hc gi=>?_⟩;obtain⟨m3,qi,qj,dE,rfl⟩:=gi;have nI:m3<=m2+100:=dE;clear dE;simp only[ag.d,ag.a,ag.b];have ok:gQ (dA (dp+1)) (bA (dp+1)) (.two t u1 u2 c):=⟨⟨ht,zO.w,qq.w,hc.w⟩,(zN (Xo ht) (zO.t.mono (by omega:dA dp<=max (max (dA dp) (dA (pd dp))) 5) (ar _)) (qq.t.mono (by omega) (ar _)) (hc.t.mono (by omega) (ar _))).mono q5 q4⟩;w_on;refine aj _ (Xn t rfl) ?_;refine bM (λe=>?_) λe=>?_
 ·w_on;exact fin (.two t u1 u2 c) _ _ _ _ _ ok (d1.mono (by omega)) ne1 zP (by omega) (by omega)
 have mr:=DD.merge d1 d2;w_on;refine aj _ ⟨_,_,rfl,rfl,by omega,rfl⟩ ?_;w_on;exact⟨cm,fin (.two t u1 u2 c) _ _ _ _ _ ok (mr.1.mono (by omega)) (mr.2 ne1) M1 (by omega) (by omega)⟩
end
theorem Xq {α:Type}{k:Nat}{ix:List Nat}{A1:AS}{g:UG}{t:UT}{ue:UE}{Q:PV->AS->Prop}(l:List α)(e:α->PV)(I:List α->ai->Option ag->Prop)(aF:l.length<=1000000)(i0:I [] [] A1.S)
  (each:∀ B d x r ys S,l=d++x::r->I d ys S->∀(Rs:PV->AS->Prop)(Rn:cv),(∀ y A4,Kp k ix A1.ae A4->I (d++[x]) (ys++[y]) A4.S->Rs y A4)->(∀ A4,Kp k ix A1.ae A4->I (d++[x]) ys A4.S->Rn A4)->g (e x) ⟨B,dg k ix A1.ae,S⟩ λA2=>t A2 λb A3=>d_ b (λA=>ue A Rs) Rn A3)
  (fin:∀ ys S,I l ys S->Q (.lst ys) { A1 with S:=S }):ki k ix (l.map e) A1 g t ue Q:=by
 refine⟨by rw[length_map];exact aF,λd ys S=>I (l.take d.length) ys S,by simpa using i0,?_,?_⟩
 ·rintro B d x r ys S e' hI;obtain⟨d1,x1,r1,e1,rfl,rfl,e2⟩:=pre_of e'
  have e3:l.take (d1.map e++[e x1]).length=d1++[x1]:=by
   rw[e1,length_append,length_map,length_singleton,<- singleton_append,<- append_assoc,take_left' (by simp)]
  rw[<- e2] at hI;dsimp (config:={failIfUnchanged:=false}) only;rw[e3];exact each B d1 x1 r1 ys S e1 hI (λy A4=>Kp k ix A1.ae A4/\I (d1++[x1]) (ys++[y]) A4.S) (λA3=>Kp k ix A1.ae A3/\I (d1++[x1]) ys A3.S) (λy A4 k1 s1=>⟨k1,s1⟩) λA4 k1 s1=>⟨k1,s1⟩
 ·rintro ys S hI;rw[length_map,take_length] at hI;exact fin ys S hI
theorem IT {n:Nat}{xs:ai}{z:PV}(h:∀ x∈xs,Dp n x)(l:n<80):fQ false (.lst xs) (.lst []) z=(z=.bl xs.isEmpty):=by
 unfold fQ
 have e:bO (.lst xs) (.lst [])=xs.isEmpty:=by
  cases xs<;>rfl
 rw[e,Bool.false_xor];exact propext ⟨λh=>h.2,λq=>⟨⟨n+1,l,iy h,iy λx hx=>by cases hx⟩,q⟩⟩
section
variable {P:Program}{w:World}{K:Frag}{mg:a0}{base:Heap}
variable {m₀:Nat}
theorem gj:bx ["_law_state","_law_frame","_law_deep","_law_ask_here","_law_cols","_law_size","_law_names","_law_fields","_law_found","_law_tells","_law_k","_law_name","_law_word_here","_law_label"] ["_law_state","_law_frame","_law_deep"] (aX wX):=by walk_at "s"
theorem Xr {k:Nat}(D:Df K mg "_law_grouped" wX)(B:Bt mg)(di:Kn P w K mg base k "_law_ask" (spS K false (c0 (jI m₀))))(iD:Kn P w K mg base k "_law_new" (spS K false (gL pR)))(aZ:Kn P w K mg base k "_law_take" (spS K false (bQ eN))):Kn P w K mg base (k+1) "_law_grouped" (spS K false (c0 (iJ (m₀+1)))):=by
 refine D.eL gj (λ_ _ _ _ _ _=>fM λ_ _ _=>rfl) (λ_ _ _=>c0.len) (by decide) (λf aE A outer s H E hr=>⟨_,(sc (eW (aK rfl di hr (ac (vn 0) (ac (vn 1) (ac (vn 2) an)))) (dX (n:=3) rfl rfl (bp (aQ (i:=3) gj.nd) (bp (aQ (i:=4) gj.nd) (bp (aQ (i:=5) gj.nd) dW)))))
  (sc (a_ (i:=6) gj.nd (vf (pL rfl rfl B.sorted (qn 4))))
  (sc (su (i:=7) gj.nd (N:=["_law_name","_law_state"]) (k:=1) (ix:=[0]) cS rfl (jy rfl 6) (λ_ _ _ _=>(aQ (i:=0) (by show(["_law_name","_law_state"]:aq).Nodup;decide +kernel))) (λ_ _ _ _=>(sv (bW rfl hr (qv (aK rfl aZ hr (ac (vn 1) (ac vi an)))) (qv vi)))) (λ_ _ _ _=>(vn 0)))
  (sc (eR (i:=8) gj.nd (Gj rfl rfl B.dict (qf (lH (N:=["_law_name","_law_cols"]) (k:=1) (ix:=[4]) cS rfl (jy rfl 7) (λ_ _ _ _=>(aQ (i:=0) (by show(["_law_name","_law_cols"]:aq).Nodup;decide +kernel))) (λ_ _ _ _=>kn) (λ_ _ _ _=>(et (ac (vn 0) (ac (ax rfl hr (qn 1) (qn 0)) an))))))))
  (sc (eR (i:=9) gj.nd (el an))
  (sc (eU PassesOwn.never rfl (iX (by rfl) B.range (bT rfl (qv (lP B.int (qv (lK rfl hr (qn 7) (qf (el an)))))) (qv (aK rfl aZ hr (ac (vn 0) (ac vi an)))))) (aQ (i:=10) gj.nd)
  (sc (a_ (i:=11) gj.nd (ax rfl hr (qn 6) (qv (aK rfl aZ hr (ac (vn 0) (ac (fH rfl B.len (qn 6)) an))))))
  (sc (a_ (i:=12) gj.nd (ax rfl hr (qf (el (ac vs (ac vs (ac vs (ac vs an)))))) (qv (aK rfl aZ hr (ac (vn 0) (ac (bT rfl (qv vi) (qv (lP B.int (qv (lK rfl hr (qv (ax rfl hr (qn 4) (qn 11))) (qv vs)))))) an))))))
  (sc (a_ (i:=13) gj.nd (aK rfl iD hr (ac (vn 0) an)))
  (sc (yE hr 8 (ax rfl hr (qf (el (ac (ax rfl hr (qn 4) (qn 11)) (ac vs an)))) (qv (lP B.int (qv (lK rfl hr (qn 12) (qv vs)))))) (vn 13))
  (s1 (eS (fR rfl 9 (et (ac (vn 13) (ac (vn 12) (ac (ax rfl hr (qf (el (ac (vn 11) (ac v0 an)))) (qv (lP B.int (qv (lK rfl hr (qn 12) (qv vs)))))) an))))))))))))
  (s1 (aJ (et (ac (et (ac vs (ac (vn 3) (ac (kx rfl B.tuple (qf (QE rfl (qn 7)))) (ac (kx rfl B.tuple (qn 9)) an))))) (ac (vn 8) (ac (vn 5) an)))))))))))),λB' xs st Q h=>?_⟩)
 obtain⟨x1,x2,rfl,h⟩:=h;change (_:US) (dN false Q) ⟨B',[some (.val (.raw (.ref st.d))),some (.val x1),some (.val x2),none,none,none,none,none,none,none,none,none,none,none],some st⟩;obtain⟨dp,hd2,hm,F,rfl,W,hn,h⟩:=h;obtain⟨d,a,n,D⟩:=st;have W':dw D:=W;have fz:n+gA (dp+1)<=80001:=hn;clear hn;have dU:dp=0\/dp=1\/dp=2:=by omega
 have qs:gA dp+cA dp+20<=gA (dp+1)/\cA dp+3<=cA (dp+1)/\cA dp<=12/\bA dp+25+21*cA dp+1+200<=bA (dp+1)/\max (dA dp) 2+1<=dA (dp+1)/\zA dp<=zA (dp+1):=by rcases dU with rfl|rfl|rfl<;>decide
 obtain⟨q1,q2,q3,q4,q5,q6⟩:=qs;w_on;refine⟨dp,by omega,by omega,F,rfl,W',(by show n+gA dp<=80000;omega),λau kvs sz fq hu ok bL uL IP cf=>?_⟩;obtain⟨m1,nm,pt,bu,rfl⟩:=cf;have ft:m1<=n+gA dp:=bu;clear bu;simp only[ag.d,ag.a,ag.b];obtain⟨zs,ek,el,hz⟩:=lX ok;have l3:=ok.1;w_on;refine aj _ ⟨zs,ek,by omega,rfl⟩ ?_;have sl:(b_ zs).length<=cA dp:=by rw[(d9 _).length_eq];omega
 have all:∀ z∈b_ zs,i_ kvs z:=λz eA=>hz z ((d9 _).mem_iff.mp eA)
 have qp:0<(b_ zs).length:=by
  rw[(d9 zs).length_eq,el];exact length_pos_iff.mpr bL
 generalize b_ zs=ys at sl all qp;w_on;refine Xq ys PV.str (λdd rs S=>∃(fs:aq)(m:Nat),rs=fs.map PV.str/\fs.length<=dd.length/\(∀ f∈fs,f∈ys)/\m<=m1+dd.length/\S=some ⟨d,a,m,{ nm:=nm,pt:=pt,x:=D.x,z:=D.z,y:=D.y,tb:=D.tb }⟩) (by omega) ⟨[],m1,rfl,ar _,(λ_ h=>by cases h),by simp,rfl⟩ ?_ ?_
 ·rintro B dd x r rs S e ⟨fs,m,rfl,Xs,mh,bc,rfl⟩ Rs Rn hs hn;have ll:(dd++[x]).length=dd.length+1:=by simp
  have Xm:dd.length<=cA dp:=by rw[e,length_append] at sl;omega
  w_on;refine draw (by omega) (by decide) (by decide) λu u0 u1=>?_;w_on;refine bM (λe1=>?_) λe1=>?_
  ·w_on;refine hs _ _ ⟨rfl,rfl⟩ ⟨fs++[x],m+1,by rw[map_append];rfl,by rw[length_append,ll];show fs.length+1<=_;omega,λf hf=>?_,by omega,rfl⟩;rcases mem_append.mp hf with z|z
   ·exact mh f z
   ·rw[mem_singleton.mp z,e];simp
  ·exact hn _ ⟨rfl,rfl⟩ ⟨fs,m+1,rfl,by omega,mh,by omega,rfl⟩
 rintro _ _ ⟨fs,m,rfl,Xs,mh,bc,rfl⟩;have fl:fs.length<=cA dp:=by omega
 w_on;refine nk fs PV.str (λf=>.tup [.str f,.str (kd kvs f)]) (by omega) ?_ ?_
 ·intro B x hx R hR;w_on;refine aj _ (all x (mh x hx)).1 ?_;w_on;exact hR _ ⟨rfl,rfl⟩ rfl
 w_on;have kv:=zd (fs.map λf=>(f,kd kvs f))
 have hd:=Ht (l:=fs.map λf=>(f,kd kvs f)) λp hp=>by
  obtain⟨f,hf,rfl⟩:=mem_map.mp hp;exact⟨(all f (mh f hf)).2.1,(all f (mh f hf)).2.2⟩
 simp only[map_map,Function.comp_def,length_map] at kv hd;refine aj _ ⟨_,kv,by rw[length_map];omega,rfl⟩ ?_;have IU:=hd.1;have zQ:fs≠[]->_:=λe=>hd.2 (λe2=>e (map_eq_nil_iff.mp e2));generalize dictOf (fs.map λx=>((Sum.inr x:Key),PV.str (kd kvs x)))=Cg at IU zQ ⊢;have yl:(ys.map PV.str).length=ys.length:=length_map ..;w_on;intro p q;refine aj _ (by rw[IT (n:=1) (λy hy=>by obtain⟨z,_,rfl⟩:=mem_map.mp hy;exact jE _ _) (by decide)]) ?_;w_on;refine draw (by omega) (by decide) (by decide) λu u0 u1=>?_;w_on;generalize hN:((if (fs.map PV.str).isEmpty=true then 1 else 0:Int)+u)=N;have Xj:0<=N:=by rw[<- hN];split<;>omega
 have Xk:N<=3:=by rw[<- hN];split<;>omega
 have IM:fs=[]->1<=N:=λe=>by rw[<- hN,e];show 1<=(1:Int)+u;omega
 refine⟨by omega,by omega,jF _ (λi A=>∃(kv:aT)(M:ai)(mf me oY zR:Option Sl)(m':Nat)(fv fw:Int),A=⟨B',[some (.val (.raw (.ref d))),some (.val x1),some (.val (.int (dp:Nat))),some (.val (qA au)),some (.val (.ah kvs)),some (.val (.int sz)),some (.val (.lst (ys.map PV.str))),some (.val (.lst (fs.map PV.str))),some (.own p (.ah kv)),some (.own q (.lst M)),mf,me,oY,zR],some ⟨d,a,m',{ nm:=fv,pt:=fw,x:=D.x,z:=D.z,y:=D.y,tb:=D.tb }⟩⟩/\DD (cA dp+i) kv/\(fs≠[]\/0<i->kv≠[])/\M.length<=i/\(∀ y∈M,Tm 1 63 y)/\m'<=m+1+2*i) ⟨Cg,[],none,none,none,none,m+1,nm,pt,rfl,IU.mono (by omega),(λh=>h.elim zQ λz=>absurd z (by omega)),ar _,(λ_ h=>by cases h),by omega⟩ (λ_ _ _=>trivial) ?_ ?_⟩
 ·rintro i _ hi ⟨kv,M,mf,me,oY,zR,m',fv,fw,rfl,hD,IV,hM,aM,gP⟩;have hi3:i<3:=by omega
  have kl:=hD.1;w_on;refine draw (by omega) (by omega) (Int.lt_of_le_of_lt (b:=900) (by omega) (by decide)) λv v0 v1=>?_;w_on;refine eh v0 v1 λx hx=>?_;obtain⟨z,eA,rfl⟩:=mem_map.mp hx;have kD:=all z eA;w_on;refine aj _ kD.1 ?_;w_on;refine draw (by omega) (by split<;>omega) (by split<;>decide) λv' n_ oe=>?_;w_on;refine eh n_ (by show v'<4;revert oe;split<;>omega) λx hx=>?_
  obtain⟨t,rfl,ht⟩:∃ t:Str,x=.str t/\Sh t:=by
   simp only[mem_cons,not_mem_nil,or_false] at hx;rcases hx with rfl|rfl|rfl|rfl<;>exact⟨_,rfl,cE _⟩
  w_on;refine⟨W',λzz cX iH cK=>?_⟩;obtain⟨m2,gU,gW,bc,rfl⟩:=cK;have fT:m2<=m'+1+1+0:=bc;clear bc;simp only[ag.d,ag.a,ag.b];w_on;refine aj _ kD.1 ?_;w_on;refine eh (by split<;>decide) (by show _<(2:Int);split<;>decide) λx hx=>?_
  obtain⟨k,rfl,hk⟩:∃ k:Str,x=.str k/\Kd k:=by
   simp only[mem_cons,not_mem_nil,or_false] at hx;rcases hx with rfl|rfl
   ·exact⟨_,rfl,kD.2.2⟩
   ·exact⟨_,rfl,.inl rfl⟩
  have pp:=hD.put iH.sh hk;w_on;refine⟨by omega,eh (by split<;>decide) (by show _<(2:Int);split<;>decide) λx hx=>?_⟩
  have qo:Tm 0 20 x:=by
   simp only[mem_cons,not_mem_nil,or_false] at hx;rcases hx with rfl|rfl
   ·exact ef kD.2.1
   ·exact VT
  w_on;exact⟨by omega,_,_,_,_,_,_,_,_,_,rfl,pp.1.mono (by omega),λ_=>pp.2,by rw[length_append];show M.length+1<=_;omega,kM aM ((gO (dD (ef iH.sh) (dD (ef ht) (dD qo i8)))).mono (ar _) (by decide:20+1+(20+1+(20+1+0))<=63)),by omega⟩
 ·rintro _ ⟨kv,M,mf,me,oY,zR,m',fv,fw,rfl,hD,IV,hM,aM,gP⟩;have Xu:(fs.map PV.str).length=fs.length:=length_map ..;have M3:M.length<=3:=by omega
  have tf:Tm 1 (21*cA dp) (.tup (fs.map PV.str).reverse):=(gO (pQ (b:=20) (d:=0) λy hy=>by
   obtain⟨f,hf,rfl⟩:=mem_map.mp (mem_reverse.mp hy)
   exact ef (all f (mh f hf)).2.1)).mono (ar _) (by rw[length_reverse,Xu,Nat.mul_comm];exact Nat.mul_le_mul_left _ fl)
  have tM:Tm 2 192 (.tup M):=(gO (pQ aM)).mono (ar _) (by have:M.length*(63+1)<=3*64:=Nat.mul_le_mul_right _ M3;omega);w_on;refine h (.one "group" au [.tup (fs.map PV.str).reverse,.tup M]) kv sz _ ⟨⟨by decide,hu.w⟩,(zN (cE _) (hu.t.mono (by omega:dA dp<=max (dA dp) 2) (ar _)) (tf.mono (by omega) (ar _)) (tM.mono (by omega) (ar _))).mono q5 (by omega)⟩ (hD.mono (by omega)) (IV ?_) uL (by omega) ⟨m',fv,fw,(by show m'<=n+(gA (dp+1)-1);omega),rfl⟩;rcases Classical.em (fs=[]) with e|e
  ·exact .inr (by have:=IM e;omega)
  ·exact .inl e
end
theorem Xv {z:Str}{ue:UE}{Q:PV->AS->Prop}{B:Addr->Prop}{ae:cM}{S:Option ag}(h:∀ B',ue ⟨B',ae,S⟩ λx A2=>A2.ae=ae/\Q (.ah [(.str z,x)]) ⟨B,ae,A2.S⟩):yW z ue Q ⟨B,ae,S⟩:=h
theorem Xw (i:Int)(l:List Int):i4 false (.int i) (.tup (l.map PV.int)) (.bl (pin (.int i) (l.map PV.int))):=by
 rw[Gr];exact⟨RT _,⟨0,by decide,lS _ _,λp hp=>by obtain⟨z,_,rfl⟩:=mem_map.mp hp;exact lS _ _⟩,by rw[Bool.false_xor]⟩
theorem Xx {i:Int}{l:List Int}(h:pin (.int i) (l.map PV.int)=true):i∈l:=by
 unfold pin at h;rw[any_map,any_eq_true] at h;obtain⟨a,ha,e⟩:=h;have:(a==i)=true:=e;rw[<- (by simpa using this:a=i)];exact ha
section
variable {P:Program}{w:World}{K:Frag}{mg:a0}{base:Heap}
variable {m₀:Nat}
theorem gY:bx ["_law_state","_law_frame","_law_deep","_law_ask_here","_law_cols","_law_size","_law_other","_law_others","_law_more","_law_word_here","_law_kind_here","_law_one","_law_two"] ["_law_state","_law_frame","_law_deep"] (aX w6):=by walk_at "s"
theorem Xy {k:Nat}(D:Df K mg "_law_added" w6)(B:Bt mg)(di:Kn P w K mg base k "_law_ask" (spS K false (c0 (jI m₀))))(iD:Kn P w K mg base k "_law_new" (spS K false (gL pR)))(pW:Kn P w K mg base k "_law_kind" (spS K false (bQ zh)))(aZ:Kn P w K mg base k "_law_take" (spS K false (bQ eN)))(fI:Kn P w K mg base k "_law_sum" (spS K false (c3 (nH 3))))(fJ:Kn P w K mg base k "_law_cond" (spS K false (c3 (l5 m₀)))):Kn P w K mg base (k+1) "_law_added" (spS K false (c0 (iJ (m₀+1)))):=by
 refine D.eL gY (λ_ _ _ _ _ _=>fM λ_ _ _=>rfl) (λ_ _ _=>c0.len) (by decide) (λf aE A outer s H E hr=>⟨_,(sc (eW (aK rfl di hr (ac (vn 0) (ac (vn 1) (ac (vn 2) an)))) (dX (n:=3) rfl rfl (bp (aQ (i:=3) gY.nd) (bp (aQ (i:=4) gY.nd) (bp (aQ (i:=5) gY.nd) dW)))))
  (sc (bg (bW rfl hr (qv (aK rfl aZ hr (ac (vn 0) (ac vi an)))) (qv vi)) (s1 (aJ (et (ac (et (ac vs (ac (et (ac vs (ac (vn 3) (ac (aK rfl fJ hr (ac (vn 0) (ac (vn 1) (ac (vn 4) (ac vi an))))) an)))) (ac (vn 3) an)))) (ac (vn 4) (ac (sG (qv vi) (qn 5)) an)))))) sn)
  (sc (eW (aK rfl di hr (ac (vn 0) (ac (vn 1) (ac (tK rfl B.min (qv vi) (qn 2)) an)))) (dX (n:=3) rfl rfl (bp (aQ (i:=6) gY.nd) (bp (aQ (i:=7) gY.nd) (bp (aQ (i:=8) gY.nd) dW)))))
  (sc (a_ (i:=9) gY.nd (aK rfl iD hr (ac (vn 0) an)))
  (sc (a_ (i:=10) gY.nd (aK rfl pW hr (ac (vn 0) (ac (vn 4) an))))
  (sc (a_ (i:=11) gY.nd (et (ac vs (ac (vn 3) (ac (et (ac (et (ac (vn 9) (ac (aK rfl fI hr (ac (vn 0) (ac (vn 4) (ac (vn 10) (ac vi an))))) an))) an)) an)))))
  (sc (a_ (i:=12) gY.nd (et (ac vs (ac (vn 6) (ac (et (ac (et (ac (vn 9) (ac (aK rfl fI hr (ac (vn 0) (ac (vn 7) (ac (vn 10) (ac vi an))))) an))) an)) an)))))
  (s1 (aJ (et (ac (et (ac vs (ac (vn 11) (ac (vn 12) an)))) (ac (vf (UJ 9 (vn 10))) (ac (bT rfl (qn 5) (qn 8)) an))))))))))))),λB' xs st Q h=>?_⟩)
 obtain⟨x1,x2,rfl,h⟩:=h;change (_:US) (dN false Q) ⟨B',[some (.val (.raw (.ref st.d))),some (.val x1),some (.val x2),none,none,none,none,none,none,none,none,none,none],some st⟩;obtain⟨dp,hd2,hm,F,rfl,W,hn,h⟩:=h;obtain⟨d,a,n,D⟩:=st;have W':dw D:=W;have fz:n+gA (dp+1)<=80001:=hn;clear hn;have dU:dp=0\/dp=1\/dp=2:=by omega
 have qs:gA dp+95<=gA (dp+1)/\gA dp+gA (min 1 dp)+40<=gA (dp+1)/\cA dp<=cA (dp+1)/\cA dp<=12/\cA (min 1 dp)<=12/\1<=cA (dp+1)/\646+2*bA dp<=bA (dp+1)/\400+bA dp+bA (min 1 dp)<=bA (dp+1)/\max (dA dp) 4+2<=dA (dp+1)/\dA (min 1 dp)<=max (dA dp) 4/\2*zA dp<=zA (dp+1)/\zA dp+zA (min 1 dp)<=zA (dp+1)/\lA (min 1 dp)<=lA dp/\min 1 dp<=2/\(if ((dp:Nat):Int)<1 then ((dp:Nat):Int) else 1)=((min 1 dp:Nat):Int):=by rcases dU with rfl|rfl|rfl<;>decide
 obtain⟨q1,q2,q3,q4,q5,q6,q7,q8,q9,f',mJ,lu,IW,IX,zS⟩:=qs;have Hw:nS 1=12:=rfl;have e9:bS 1=125:=rfl;have eC:gC 1=90:=rfl;w_on;refine⟨dp,by omega,by omega,F,rfl,W',(by show n+gA dp<=80000;omega),λau kvs sz fq hu ok bL uL IP cf=>?_⟩;obtain⟨m1,nm,pt,bu,rfl⟩:=cf;have ft:m1<=n+gA dp:=bu;clear bu;simp only[ag.d,ag.a,ag.b];w_on;refine draw (by omega) (by decide) (by decide) λu u0 u1=>?_;w_on;have fin:∀(r:Ak)(kvs:aT)(s:Int)(m:Nat)(nm pt:Int),gQ (dA (dp+1)) (bA (dp+1)) r->DD (cA (dp+1)) kvs->kvs≠[]->0<=s->s<=zA (dp+1)->m<=n+(gA (dp+1)-1)->Q (.tup [qA r,.ah kvs,.int s]) ⟨d,a,m,{ nm:=nm,pt:=pt,x:=D.x,z:=D.z,y:=D.y,tb:=D.tb }⟩:=λr kvs s m nm pt h1 h2 h3 h4 h5 hm=>h r kvs s _ h1 h2 h3 h4 h5 ⟨m,nm,pt,hm,rfl⟩;have up:Tm (max (dA dp) 4) (bA dp) (qA au):=hu.t.mono (by omega) (ar _);refine bM (λe=>?_) λe=>?_
 ·w_on;refine⟨1,kvs,by decide,by show 2<=m₀;omega,F,rfl,rfl,ok.mono (by show _<=18;omega),W',(by show m1+1+gC 1<=80000;omega),λc cX hc cK=>?_⟩;obtain⟨m2,gU,gW,bc,rfl⟩:=cK;have fT:m2<=m1+1+gC 1:=bc;clear bc;simp only[ag.d,ag.a,ag.b];w_on;refine⟨.inl ⟨by decide,by decide⟩,fin (.add (.pick au c) au) _ _ _ _ _ ⟨⟨⟨hu.w,hc.w⟩,hu.w⟩,(gS (cE _) (gS (cE _) up (hc.t.mono (by show 4<=_;omega) (ar _))) (up.mono (Nat.le_succ _) (ar _))).mono q9 (by show 23+(23+bA dp+600)+bA dp<=_;omega)⟩ (ok.mono q3) bL (by omega) (by omega) (by omega)⟩
 w_on;rw[zS];refine⟨min 1 dp,by omega,by omega,F,rfl,W',(by show m1+1+gA (min 1 dp)<=80000;omega),λu2 k2 s2 cX qq IF ne2 IG IH cK=>?_⟩;obtain⟨m2,gU,gW,bc,rfl⟩:=cK;have fT:m2<=m1+1+gA (min 1 dp):=bc;clear bc;simp only[ag.d,ag.a,ag.b];w_on;refine⟨W',λz gw hz gi=>?_⟩;obtain⟨m3,qi,qj,dE,rfl⟩:=gi;have nI:m3<=m2+0:=dE;clear dE;simp only[ag.d,ag.a,ag.b];w_on;refine⟨kvs,rfl,ok.mono (by omega),(by show m3<=90000;omega),λk rE hk zG=>?_⟩;obtain⟨m4,l_,rfl⟩:=zG;have W_:m4<=m3+1:=l_;clear l_;w_on;refine⟨2,by decide,kvs,k,rfl,rfl,rfl,ok.mono (by omega),hk,(by show m4+nS 1<=90000;omega),λx1 jS zJ Xz=>?_⟩;obtain⟨m5,qc,rfl⟩:=Xz;have aac:m5<=m4+nS 1:=qc;clear qc;w_on;refine⟨2,by decide,k2,k,rfl,rfl,rfl,IF.mono (by omega),hk,(by show m5+nS 1<=90000;omega),λx2 Xc qo zI=>?_⟩;obtain⟨m6,qm,rfl⟩:=zI;have Xd:m6<=m5+nS 1:=qm;clear qm;w_on;have sh:∀(v:Ak)(x:PV)(b:Nat),Tm (max (dA dp) 4) b (qA v)->Tm 2 (bS 1) x->Tm (max (dA dp) 4+1) (23+b+148) (qA (.one "show" v [.tup [.tup [.str z,x]]])):=λv x b h1 h2=>gS (cE _) h1 ((gO (dD (gR hz.sh h2) i8)).mono (Nat.le_max_right _ 4) (by rw[e9];decide:22+bS 1+1+0<=148));refine Xv λB2=>?_;w_on;exact fin (.add (.one "show" au [.tup [.tup [.str z,x1]]]) (.one "show" u2 [.tup [.tup [.str z,x2]]])) [(.str z,.str k)] _ m6 qi qj ⟨⟨⟨by decide,hu.w⟩,by decide,qq.w⟩,(gS (cE _) (sh au x1 _ up zJ) (sh u2 x2 _ (qq.t.mono f' (ar _)) qo)).mono q9 (by omega)⟩ ⟨q6,λkv mN=>by rw[mem_singleton.mp mN];exact⟨z,k,rfl,⟨hz.sh,hk⟩,by simp [bZ,pk]⟩⟩ (by simp) (by omega) (by omega) (by omega)
variable {m₀:Nat}
theorem oh:bx ["_law_state","_law_frame","_law_deep","_law_way_here","_law_ask_here","_law_cols","_law_size"] ["_law_state","_law_frame","_law_deep"] (aX wZ):=by walk_at "s"
theorem XA {k:Nat}(D:Df K mg "_law_ask" wZ)(B:Bt mg)(di:Kn P w K mg base k "_law_ask" (spS K false (c0 (jI m₀))))(aZ:Kn P w K mg base k "_law_take" (spS K false (bQ eN)))(qh:Kn P w K mg base k "_law_part" (spS K false (bQ oJ)))(IY:Kn P w K mg base k "_law_shown" (spS K false (c0 (iJ m₀))))(IZ:Kn P w K mg base k "_law_both" (spS K false (c3 (zM m₀))))(I0:Kn P w K mg base k "_law_grouped" (spS K false (c0 (iJ m₀))))(I8:Kn P w K mg base k "_law_added" (spS K false (c0 (iJ m₀))))(fJ:Kn P w K mg base k "_law_cond" (spS K false (c3 (l5 m₀))))(I9:Kn P w K mg base k "_law_keys" (spS K false (bQ IK))):Kn P w K mg base (k+1) "_law_ask" (spS K false (c0 (jI (m₀+1)))):=by
 refine D.eL oh (λ_ _ _ _ _ _=>fM λ_ _ _=>rfl) (λ_ _ _=>c0.len) (by decide) (λf aE A outer s H E hr=>⟨_,(sc (a_ (i:=3) oh.nd (sG (qv (aK rfl aZ hr (ac (vn 0) (ac vi an)))) (qv (lP B.int (qv (xM (FK (qn 2) (qv vi)) (xK (Qv (qv (ng hr 0 5 (by decide) (by decide) rfl)) (qv vi)))))))))
  (sc (bg (bW rfl hr (qn 3) (qv vi)) (s1 (aJ (aK rfl qh hr (ac (vn 0) (ac (vn 1) an))))) sn)
  (sc (bg (bW rfl hr (qn 3) (qv vi)) (s1 (aJ (aK rfl IY hr (ac (vn 0) (ac (vn 1) (ac (eV (qn 2) (qv vi)) an)))))) sn)
  (sc (bg (ni rfl hr (qn 3) (qv (et (ac vi (ac vi (ac vi (ac vi (ac vi an)))))))) (s1 (aJ (aK rfl IZ hr (ac (vn 0) (ac (vn 1) (ac (ax rfl hr (qf (el (ac vs (ac vs (ac vs (ac vs (ac vs an))))))) (qv (eV (qn 3) (qv vi)))) (ac (eV (qn 2) (qv vi)) an))))))) sn)
  (sc (bg (bW rfl hr (qn 3) (qv vi)) (s1 (aJ (aK rfl I0 hr (ac (vn 0) (ac (vn 1) (ac (eV (qn 2) (qv vi)) an)))))) sn)
  (sc (bg (bW rfl hr (qn 3) (qv vi)) (s1 (aJ (aK rfl I8 hr (ac (vn 0) (ac (vn 1) (ac (eV (qn 2) (qv vi)) an)))))) sn)
  (sc (eW (aK rfl di hr (ac (vn 0) (ac (vn 1) (ac (eV (qn 2) (qv vi)) an)))) (dX (n:=3) rfl rfl (bp (aQ (i:=4) oh.nd) (bp (aQ (i:=5) oh.nd) (bp (aQ (i:=6) oh.nd) dW)))))
  (sc (bg (PW.pt (iq (bW rfl hr (qn 3) (qv vi)) (jv (bW rfl hr (qv (aK rfl aZ hr (ac (vn 0) (ac vi an)))) (qv vi))))) (s1 (aJ (et (ac (et (ac vs (ac (vn 4) an))) (ac (vn 5) (ac (vn 6) an)))))) sn)
  (sc (bg (bW rfl hr (qn 3) (qv vi)) (s1 (aJ (et (ac (et (ac vs (ac (vn 4) (ac (aK rfl I9 hr (ac (vn 0) (ac (vn 5) an))) (ac (aK rfl aZ hr (ac (vn 0) (ac vi an))) an))))) (ac (vn 5) (ac (vn 6) an)))))) sn)
  (s1 (aJ (et (ac (et (ac vs (ac (vn 4) (ac (aK rfl fJ hr (ac (vn 0) (ac (vn 1) (ac (vn 5) (ac (tK rfl B.min (qv vi) (qn 2)) an))))) an)))) (ac (vn 5) (ac (vn 6) an))))))))))))))),λB' xs st Q h=>?_⟩)
 obtain⟨x1,x2,rfl,h⟩:=h;change (_:US) (dN false Q) ⟨B',[some (.val (.raw (.ref st.d))),some (.val x1),some (.val x2),none,none,none,none],some st⟩;obtain⟨deep,zQ,hm,F,rfl,W,hn,h⟩:=h;obtain⟨d,a,n,D⟩:=st;have W':dw D:=W;have fz:n+gA deep<=80000:=hn;clear hn;w_on;refine draw (by omega) (by decide) (by decide) λu u0 u1=>?_;w_on
 cases deep with
 |zero=>
  have e5:gA 0=5:=rfl;refine bq (by decide) ?_;w_on;refine⟨.inl ⟨by omega,by omega⟩,cJ (by simp) ?_⟩;w_on;refine⟨F,W',(by show n+1<=90000;omega),λa1 a2 kvs fq h1 h2 hk bL cf=>?_⟩;obtain⟨m1,nm,pt,bu,rfl⟩:=cf;have ft:m1<=n+1+1:=bu;clear bu;simp only[ag.d,ag.a,ag.b];w_on;exact h (.tab a1 a2) kvs 4 _ (zf h1 h2) hk bL (by decide) (by decide) ⟨m1,nm,pt,(by show m1<=n+5;omega),rfl⟩
 |succ dp=>
  have dU:dp=0\/dp=1\/dp=2:=by omega
  have ep:(((dp+1:Nat):Int)-1)=(dp:Nat):=by omega
  have qs:gA dp+gC (min 2 (dp+1))+5<=gA (dp+1)/\gA dp+30<=gA (dp+1)/\cA dp<=cA (dp+1)/\cA dp<=12/\cA dp<=kC (min 2 (dp+1))/\23+bA dp+bC (min 2 (dp+1))<=bA (dp+1)/\300+bA dp<=bA (dp+1)/\max (dA dp) (dC (min 2 (dp+1)))+1<=dA (dp+1)/\max (dA dp) 4+1<=dA (dp+1)/\zA dp<=zA (dp+1)/\max (lA dp) 3+2<=lA (dp+1)/\lC (min 2 (dp+1))+1<=lA (dp+1)/\min 2 (dp+1)<=2/\(if ((dp+1:Nat):Int)<2 then ((dp+1:Nat):Int) else 2)=((min 2 (dp+1):Nat):Int)/\70<=bA (dp+1)/\1<=dA (dp+1)/\3<=cA (dp+1)/\4<=zA (dp+1)/\10<=gA (dp+1):=by rcases dU with rfl|rfl|rfl<;>decide
  obtain⟨q1,q2,q3,q4,q5,q6,q7,q8,q9,f',mJ,lu,IW,IX,zS,XB,XC,q18,q19⟩:=qs;refine cJ (by simp) ?_;have fin:∀(r:Ak)(kvs:aT)(s:Int)(m:Nat)(nm pt:Int),gQ (dA (dp+1)) (bA (dp+1)) r->DD (cA (dp+1)) kvs->kvs≠[]->0<=s->s<=zA (dp+1)->m<=n+gA (dp+1)->Q (.tup [qA r,.ah kvs,.int s]) ⟨d,a,m,{ nm:=nm,pt:=pt,x:=D.x,z:=D.z,y:=D.y,tb:=D.tb }⟩:=λr kvs s m nm pt h1 h2 h3 h4 h5 hm=>h r kvs s _ h1 h2 h3 h4 h5 ⟨m,nm,pt,hm,rfl⟩;w_on;generalize hw:(u*if decide (D.pt<7)=true then 1 else 0)=way;have w0:0<=way:=by rw[<- hw];split<;>omega
  have w1:way<12:=by rw[<- hw];split<;>omega
  refine⟨.inl ⟨by omega,by omega⟩,bM (λe=>?_) λe=>?_⟩
  ·w_on;refine⟨F,W',(by show n+1<=90000;omega),λa1 a2 kvs fq h1 h2 hk bL cf=>?_⟩;obtain⟨m1,nm,pt,bu,rfl⟩:=cf;have ft:m1<=n+1+1:=bu;clear bu;simp only[ag.d,ag.a,ag.b];w_on;exact fin (.tab a1 a2) kvs 4 _ _ _ ((zf h1 h2).mono XB zS) (hk.mono XC) bL (by decide) (by omega) (by omega)
  w_on;refine bM (λe=>?_) λe=>?_
  ·w_on;rw[ep];refine⟨dp,by omega,by omega,F,rfl,W',(by show n+1+gA (dp+1)<=80001;omega),λu1 kvs sz fq hu ok bL s0 s1 cf=>?_⟩;obtain⟨m1,nm,pt,bu,rfl⟩:=cf;have ft:m1<=n+1+(gA (dp+1)-1):=bu;clear bu;simp only[ag.d,ag.a,ag.b];w_on;exact fin u1 kvs sz _ _ _ hu ok bL s0 s1 (by omega)
  w_on;refine aj _ (Xw way [4,5,6,7,8]) ?_;refine bM (λe=>?_) λe=>?_
  ·have XD:=Xx e;simp only[mem_cons,not_mem_nil,or_false] at XD;w_on;refine eh (by omega) (by show way-4<5;omega) λx hx=>?_
   obtain⟨t,rfl,ht⟩:∃ t:Str,x=.str t/\t∈H2:=by
    simp only[mem_cons,not_mem_nil,or_false] at hx;rcases hx with rfl|rfl|rfl|rfl|rfl<;>exact⟨_,rfl,by decide⟩
   w_on;rw[ep];refine⟨dp,t,by omega,by omega,F,rfl,ht,rfl,W',(by show n+1+gA (dp+1)<=80001;omega),λu1 kvs sz fq hu ok bL s0 s1 cf=>?_⟩;obtain⟨m1,nm,pt,bu,rfl⟩:=cf;have ft:m1<=n+1+(gA (dp+1)-1):=bu;clear bu;simp only[ag.d,ag.a,ag.b];w_on;exact fin u1 kvs sz _ _ _ hu ok bL s0 s1 (by omega)
  w_on;refine bM (λe=>?_) λe=>?_
  ·w_on;rw[ep];refine⟨dp,by omega,by omega,F,rfl,W',(by show n+1+gA (dp+1)<=80001;omega),λu1 kvs sz fq hu ok bL s0 s1 cf=>?_⟩;obtain⟨m1,nm,pt,bu,rfl⟩:=cf;have ft:m1<=n+1+(gA (dp+1)-1):=bu;clear bu;simp only[ag.d,ag.a,ag.b];w_on;exact fin u1 kvs sz _ _ _ hu ok bL s0 s1 (by omega)
  w_on;refine bM (λe=>?_) λe=>?_
  ·w_on;rw[ep];refine⟨dp,by omega,by omega,F,rfl,W',(by show n+1+gA (dp+1)<=80001;omega),λu1 kvs sz fq hu ok bL s0 s1 cf=>?_⟩;obtain⟨m1,nm,pt,bu,rfl⟩:=cf;have ft:m1<=n+1+(gA (dp+1)-1):=bu;clear bu;simp only[ag.d,ag.a,ag.b];w_on;exact fin u1 kvs sz _ _ _ hu ok bL s0 s1 (by omega)
  w_on;rw[ep];refine⟨dp,by omega,by omega,F,rfl,W',(by show n+1+gA dp<=80000;omega),λu1 kvs sz fq hu ok bL s0 s1 cf=>?_⟩;obtain⟨m1,nm,pt,bu,rfl⟩:=cf;have ft:m1<=n+1+gA dp:=bu;clear bu;simp only[ag.d,ag.a,ag.b];have up:Tm (max (dA dp) 4) (bA dp) (qA u1):=hu.t.mono (by omega) (ar _);w_on;refine bM (λzT=>?_) λzT=>?_
  ·w_on;refine draw (by omega) (by decide) (by decide) λv v0 v1=>?_;w_on;refine bM (λe=>?_) λe=>?_
   ·w_on;exact fin (.one "once" u1 []) kvs sz _ _ _ ⟨⟨by decide,hu.w⟩,(gR (cE _) up).mono q9 (by omega)⟩ (ok.mono q3) bL s0 (by omega) (by omega)
   w_on;refine cJ zT ?_;w_on;refine⟨kvs,rfl,ok.mono (by omega),(by show m1+1<=80000;omega),λr cX hr cK=>?_⟩;obtain⟨m2,bc,rfl⟩:=cK;have fT:m2<=m1+1+10:=bc;clear bc;w_on;refine draw (by omega) (by decide) (by decide) λv' n_ oe=>?_;w_on;exact fin (.one "first" u1 [r,.int v']) kvs sz _ _ _ ⟨⟨by decide,hu.w⟩,(zN (cE _) up (hr.mono (by omega) (ar _)) (Hk (by omega) (by omega))).mono q9 (by omega)⟩ (ok.mono q3) bL s0 (by omega) (by omega)
  w_on;refine bq zT ?_;w_on;rw[IX];refine⟨min 2 (dp+1),kvs,IW,by omega,F,rfl,rfl,ok.mono q5,W',(by show m1+gC (min 2 (dp+1))<=80000;omega),λc cX hc cK=>?_⟩;obtain⟨m2,gU,gW,bc,rfl⟩:=cK;have fT:m2<=m1+gC (min 2 (dp+1)):=bc;clear bc;simp only[ag.d,ag.a,ag.b];w_on;exact fin (.pick u1 c) kvs sz _ _ _ ⟨⟨hu.w,hc.w⟩,(gS (cE _) (hu.t.mono (Nat.le_max_left _ (dC (min 2 (dp+1)))) (ar _)) (hc.t.mono (Nat.le_max_right (dA dp) _) (ar _))).mono q8 q6⟩ (ok.mono q3) bL s0 (by omega) (by omega)
end
theorem XE {n:Nat}{kvs:aT}(h:DD n kvs):∃ ks:aq,kvs.map Prod.snd=ks.map PV.str/\∀ k∈ks,∃ z,.str z∈kvs.map Prod.fst/\kd kvs z=k:=by
 have:∃ ks:aq,kvs.map Prod.snd=ks.map PV.str:=by
  have h2:=h.e;clear h
  induction kvs with
  |nil=>exact⟨[],rfl⟩
  |cons kv r ih=>
   obtain⟨y,k,rfl,_⟩:=h2 kv mem_cons_self;obtain⟨ks,e⟩:=ih λkg hk=>h2 kg (mem_cons_of_mem _ hk);exact⟨k::ks,by simp [e]⟩
 obtain⟨ks,e⟩:=this;refine⟨ks,e,λk hk=>?_⟩;have:PV.str k∈kvs.map Prod.snd:=by rw[e];exact mem_map.mpr ⟨k,hk,rfl⟩
 obtain⟨kv,hm,e1⟩:=mem_map.mp this;obtain⟨z,k',rfl,_,h3⟩:=h.2 kv hm;obtain rfl:k'=k:=by injection e1
 exact⟨z,mem_map.mpr ⟨_,hm,rfl⟩,by unfold kd;rw[h3]⟩
section
variable {P:Program}{w:World}{K:Frag}{mg:a0}{base:Heap}
variable {m₀:Nat}
theorem kN:bx ["_law_state","_law_frame","_law_mine","_law_yours","_law_pairs","_law_both_here","_law_way_here","_law_one","_law_others","_law_found"] ["_law_state","_law_frame","_law_mine","_law_yours"] (aX wR):=by walk_at "s"
theorem XF {k:Nat}(D:Df K mg "_law_meeting" wR)(B:Bt mg)(kF:Kn P w K mg base k "_law_merged" (aY K false (cD tW)))(aZ:Kn P w K mg base k "_law_take" (spS K false (bQ eN)))(fJ:Kn P w K mg base k "_law_cond" (spS K false (c3 (l5 m₀)))):Kn P w K mg base (k+1) "_law_meeting" (spS K false (c3 (zL (m₀+1)))):=by
 refine D.eL kN (λ_ _ _ _ _ _=>j7 λ_ _ _ _=>rfl) (λ_ _ _=>c3.len) (by decide) (λf aE A outer s H E hr=>⟨_,(sc (su (i:=4) kN.nd (N:=["_law_one","_law_mine","_law_yours"]) (k:=1) (ix:=[2,3]) cS rfl (iv rfl (vf (pL rfl rfl B.sorted (qn 2)))) (λ_ _ _ _=>(aQ (i:=0) (by show(["_law_one","_law_mine","_law_yours"]:aq).Nodup;decide +kernel))) (λ_ _ _ _=>(sv (Vm rfl (qv (ax rfl hr (qn 1) (qn 0))) (vn 2)))) (λ_ _ _ _=>(vn 0)))
  (sc (a_ (i:=5) kN.nd (bI rfl kF hr (ac (vn 2) (ac (vn 3) an))))
  (sc (a_ (i:=6) kN.nd (aK rfl aZ hr (ac (vn 0) (ac vi an))))
  (sc (bg (PW.pt (gG (bW rfl hr (qn 4) (qf (el an))) (iU (bW rfl hr (qn 6) (qv vi))))) (s1 (aJ (aK rfl fJ hr (ac (vn 0) (ac (vn 1) (ac (vn 5) (ac vi an))))))) sn)
  (sc (a_ (i:=7) kN.nd (ax rfl hr (qn 4) (qv (aK rfl aZ hr (ac (vn 0) (ac (fH rfl B.len (qn 4)) an))))))
  (sc (su (i:=8) kN.nd (N:=["_law_other","_law_yours","_law_mine","_law_one"]) (k:=1) (ix:=[3,2,7]) cS rfl (iv rfl (vf (pL rfl rfl B.sorted (qn 3)))) (λ_ _ _ _=>(aQ (i:=0) (by show(["_law_other","_law_yours","_law_mine","_law_one"]:aq).Nodup;decide +kernel))) (λ_ _ _ _=>(sv (bW rfl hr (qv (ax rfl hr (qn 1) (qn 0))) (qv (ax rfl hr (qn 2) (qn 3)))))) (λ_ _ _ _=>(vn 0)))
  (sc (a_ (i:=9) kN.nd (et (ac vs (ac (et (ac vs (ac (vn 7) an))) (ac (et (ac vs (ac (ax rfl hr (qn 8) (qv (aK rfl aZ hr (ac (vn 0) (ac (fH rfl B.len (qn 8)) an))))) an))) an)))))
  (sc (bg (bW rfl hr (qn 6) (qv vi)) (s1 (aJ (et (ac vs (ac (vn 9) (ac (aK rfl fJ hr (ac (vn 0) (ac (vn 1) (ac (vn 5) (ac vi an))))) an)))))) sn)
  (s1 (aJ (vn 9))))))))))),λB' xs st Q h=>?_⟩)
 obtain⟨x1,x2,x3,rfl,h⟩:=h;change (_:US) (dN false Q) ⟨B',[some (.val (.raw (.ref st.d))),some (.val x1),some (.val x2),some (.val x3),none,none,none,none,none,none],some st⟩;obtain⟨k1,k2,n1,n2,hm,F,rfl,rfl,d1,d2,h18,W,hn,h⟩:=h;obtain⟨d,a,n,D⟩:=st;have W':dw D:=W;have fz:n+100<=80000:=hn;clear hn;obtain⟨zs,ek,el,hz⟩:=lX d1;obtain⟨ys,fk,fe,hy⟩:=lX d2;obtain⟨vs,ev,pO⟩:=XE d2;have l1:=d1.1;have l2:=d2.1;w_on;refine aj _ ⟨zs,ek,by omega,rfl⟩ ?_;have sl:(b_ zs).length<=18:=by rw[(d9 _).length_eq];omega
 have all:∀ z∈b_ zs,i_ k1 z:=λz eA=>hz z ((d9 _).mem_iff.mp eA);generalize b_ zs=xs at sl all;w_on;refine yQ xs PV.str PV.str (λc=>vs.contains (kd k1 c)) (by omega) ?_ ?_
 ·intro B x hx Rs Rn hs hn;w_on;refine aj _ (all x hx).1 ?_;w_on;refine aj _ ⟨vs,ev,rfl⟩ ?_;w_on;refine bM (λe=>?_) λe=>?_
  ·w_on;exact hs _ e ⟨rfl,rfl⟩ rfl
  ·exact hn _ e ⟨rfl,rfl⟩ rfl
 have fl:(xs.filter λc=>vs.contains (kd k1 c)).length<=18:=aP (length_filter_le ..) sl
 have fa:∀ z∈xs.filter λc=>vs.contains (kd k1 c),i_ k1 z/\∃ y∈ys,kd k2 y=kd k1 z:=λz eA=>by
  obtain⟨h1,h2⟩:=mem_filter.mp eA;rw[contains_iff_mem] at h2;obtain⟨y,I_,XG⟩:=pO _ h2;rw[fk] at I_;obtain⟨y',XH,e3⟩:=mem_map.mp I_;obtain rfl:y'=y:=by injection e3
  exact⟨all z h1,y',XH,XG⟩
 generalize xs.filter (λc=>vs.contains (kd k1 c))=ms at fl fa;have XI:=(DD.merge d1 d2).1;have eC:gC 1=90:=rfl;w_on;refine aj _ ⟨_,_,rfl,rfl,by omega,rfl⟩ ?_;w_on;refine draw (by omega) (by decide) (by decide) λu u0 u1=>?_;w_on;refine aj _ (by rw[IT (n:=1) (λy hy=>by obtain⟨z,_,rfl⟩:=mem_map.mp hy;exact jE _ _) (by decide)]) ?_
 have zU:∀(m:Nat)(nm pt:Int)(R:PV->ag->Prop),m<=n+3->(∀(c:Cd) m' fv fw,kB 4 600 c->m'<=m+90->R (qC c) ⟨d,a,m',{ nm:=fv,pt:=fw,x:=D.x,z:=D.z,y:=D.y,tb:=D.tb }⟩)->l5 m₀ x1 (.ah (i6 k1 k2)) (.int 1) ⟨d,a,m,{ nm:=nm,pt:=pt,x:=D.x,z:=D.z,y:=D.y,tb:=D.tb }⟩ R:=λm nm pt R bu hR=>
  ⟨1,_,by decide,(by show 2<=m₀;omega),F,rfl,rfl,XI.mono (by show _<=18;omega),W',(by show m+90<=80000;omega),λc st' hc fX=>by
   obtain⟨m',fv,fw,gP,rfl⟩:=fX
   exact hR c m' fv fw hc gP⟩
 have fin:∀(c:Cd)(m:Nat)(nm pt:Int),kB 5 910 c->m<=n+100->Q (qC c) ⟨d,a,m,{ nm:=nm,pt:=pt,x:=D.x,z:=D.z,y:=D.y,tb:=D.tb }⟩:=λc m nm pt hc hm=>h c _ hc ⟨m,nm,pt,hm,rfl⟩;refine bM (λe=>?_) λe=>?_
 ·w_on;refine zU _ D.nm D.pt _ (by omega) λc m' fv fw hc gP=>?_;w_on;exact fin c _ _ _ (hc.mono (by decide) (by decide)) (by omega)
 w_on;refine bM (λe=>?_) λe=>?_
 ·w_on;refine zU _ D.nm D.pt _ (by omega) λc m' fv fw hc gP=>?_;w_on;exact fin c _ _ _ (hc.mono (by decide) (by decide)) (by omega)
 have ml:(ms.map PV.str).length=ms.length:=length_map ..;have m0:0<ms.length:=by cases ms with|nil=>simp at*| cons _ _=>simp
 w_on;refine draw (by omega) (by omega) (Int.lt_of_le_of_lt (b:=900) (by omega) (by decide)) λv v0 v1=>?_;w_on;refine eh v0 v1 λx hx=>?_;obtain⟨o,ho,rfl⟩:=mem_map.mp hx;obtain⟨Ja,y0,XJ,XM⟩:=fa o ho;w_on;refine aj _ ⟨ys,fk,by omega,rfl⟩ ?_;have k9:(b_ ys).length<=18:=by rw[(d9 _).length_eq];omega
 have all2:∀ z∈b_ ys,i_ k2 z:=λz eA=>hy z ((d9 _).mem_iff.mp eA);have Jb:y0∈b_ ys:=(d9 _).mem_iff.mpr XJ;generalize b_ ys=ts at k9 all2 Jb;w_on;refine yQ ts PV.str PV.str (λc=>kd k2 c==kd k1 o) (by omega) ?_ ?_
 ·intro B x hx Rs Rn hs hn;w_on;refine aj _ (all2 x hx).1 ?_;w_on;refine aj _ Ja.1 ?_;w_on;refine bM (λe=>?_) λe=>?_
  ·w_on;exact hs _ e ⟨rfl,rfl⟩ rfl
  ·exact hn _ e ⟨rfl,rfl⟩ rfl
 have gl:(ts.filter λc=>kd k2 c==kd k1 o).length<=18:=aP (length_filter_le ..) k9;have g0:0<(ts.filter λc=>kd k2 c==kd k1 o).length:=length_pos_of_mem (mem_filter.mpr ⟨Jb,by simp [XM]⟩);have ga:∀ z∈ts.filter λc=>kd k2 c==kd k1 o,Sh z:=λz eA=>(all2 z (mem_filter.mp eA).1).2.1;generalize ts.filter (λc=>kd k2 c==kd k1 o)=os at gl g0 ga;have jk:(os.map PV.str).length=os.length:=length_map ..;w_on;refine draw (by omega) (by omega) (Int.lt_of_le_of_lt (b:=900) (by omega) (by decide)) λv' n_ oe=>?_;w_on;refine eh n_ oe λx hx=>?_;obtain⟨o',e_,rfl⟩:=mem_map.mp hx;have lo:kB 2 150 (.lf "is" [.tup [.str "column",.str o],.tup [.str "column",.str o']]):=⟨(by show("is":Str)∈H4;decide),(gS (cE _) (gR (d:=0) (cE _) (ef Ja.2.1)) (gR (cE _) (ef (ga o' e_)))).mono (by decide) (by decide)⟩;w_on;refine bM (λe=>?_) λe=>?_
 ·w_on;refine zU _ D.nm D.pt _ (by omega) λc m' fv fw hc gP=>?_;w_on;exact fin (.bo "both" (.lf "is" [.tup [.str "column",.str o],.tup [.str "column",.str o']]) c) _ _ _ ⟨⟨by decide,lo.w,hc.w⟩,(gS (cE _) (lo.t.mono (by decide:2<=4) (ar _)) hc.t).mono (by decide) (by decide)⟩ (by omega)
 ·w_on;exact fin (.lf "is" [.tup [.str "column",.str o],.tup [.str "column",.str o']]) _ D.nm D.pt (lo.mono (by decide) (by decide)) (by omega)
end
theorem XO {K:Frag}{h:Heap}{mg:a0}{n:Str}{st:Stmt}{f:Addr}{od an:Option Addr}{sl:Array (Option Value)}{oc kV dc pm cd ct:Value}(X:K.In h)(G:h.Ns mainGlobals mg)(a:PySem.W.nsIn K mainGlobals n=some (some (.ref f)))
  (l:K.lookup f=some ⟨oc,od,.func (PySem.W.fnOf n n (iQ st) (fB st) (aX st) .none kV dc pm an cd ct),sl⟩)(c:PySem.W.codeIn K cd n=true)(k:PySem.W.keepIn K (.ref f)=true):Df K mg n st:=⟨_,_,Nd (st:=st) l c k,PySem.W.mg_of X G a⟩
theorem XQ (d:Nat):1<=lC d:=by unfold lC;split<;>decide
theorem XR (d:Nat):1<=lA d:=by cases d<;>simp only[lA]<;>omega
section
variable {P:Program}{w:World}{K:Frag}{mg:a0}{base:Heap}{x:Str}{st:Stmt}{N ps:aq}{k:Nat}{fr:Bool}
theorem gZ {sp:Sp}(D:Df K mg x st)(S:bx N ps (aX st))(bd:∀(kV doc pm:Value)(an:Option Addr)(aE ct:Value)(us:aC),us.length=ps.length->bindArgs (PySem.W.fnOf x x (iQ st) (fB st) (aX st) .none kV doc pm an aE ct) ⟨us,[]⟩=pure (ps.zip us))
  (no:∀ vs H Q E,sp vs H Q E->False):Kn P w K mg base (k+1) x sp:=by
 obtain⟨f,fd,F,m⟩:=D;exact⟨f,fd,ps,F.ok S (λvs H Q E h=>(no _ _ _ _ h).elim) (λ_ _ _ _ _ _ _ _ _ h=>(no _ _ _ _ h).elim),F.binds bd,F.kp,m⟩
theorem uM {G:Rel}(no:∀ xs r,¬ G xs r):∀ vs H Q E,aY K fr G vs H Q E->False:=λvs H Q E h=>by
 obtain⟨B,xs,r,_,_,h,_⟩:=h;exact no xs r h
theorem kO {T:Tr}(no:∀ xs st P,¬ T xs st P):∀ vs H Q E,spS K fr T vs H Q E->False:=λvs H Q E h=>by
 obtain⟨B,xs,st,P,_,_,_,_,_,h,_⟩:=h;exact no xs st P h
end
theorem all_mk {l:PySem.W.OpenLaw}{w:World}{K:Frag}{h:Heap}{mg:a0}{fa:Addr}(X:K.In h)(G:h.Ns mainGlobals mg)(XS:mg "law"=some (.ref fa))
  (Jc:Df K mg "is_whole" wj)
  (Jd:Df K mg "replaced" wk)
  (Je:Df K mg "asks_within" wm)
  (Jf:Df K mg "some_paths" wo)
  (Jg:Df K mg "child_paths" wq)
  (Jh:Df K mg "children" wt)
  (Ji:Df K mg "path_to" wu)
  (Jj:Df K mg "part_at" wz)
  (Jk:Df K mg "with_part" wB)
  (Jl:Df K mg "_law_begin" wD)
  (Jm:Df K mg "_law_digit" wF)
  (Jn:Df K mg "_law_mixed" wG)
  (Jo:Df K mg "_law_take" wH)
  (Jp:Df K mg "_law_word" wI)
  (Jq:Df K mg "_law_new" wJ)
  (Jr:Df K mg "_law_merged" wK)
  (Js:Df K mg "_law_value" wL)
  (Jt:Df K mg "_law_world" wM)
  (zV:Df K mg "_law_sum" wN)
  (Ju:Df K mg "_law_kind" wO)
  (zW:Df K mg "_law_cond" wQ)
  (zX:Df K mg "_law_meeting" wR)
  (Jv:Df K mg "_law_part" wU)
  (zY:Df K mg "_law_shown" wV)
  (zZ:Df K mg "_law_both" wW)
  (z_:Df K mg "_law_grouped" wX)
  (Jw:Df K mg "_law_keys" wY)
  (Aa:Df K mg "_law_ask" wZ)
  (Ab:Df K mg "_law_added" w6)
  (Ac:Df K mg "_law_somes" w9)
  (Jx:Df K mg "_law_children" w_)
  (Ad:Df K mg "_law_cond_with" xa)
  (Ae:Df K mg "_law_with" xb)
  (Jy:Df K mg "_law_way" xc)
  (Jz:Df K mg "_law_along" xf)
  (Af:Df K mg "_law_many" xg)
  (JA:Df K mg "_law_twice_right" xh)
  (JB:Df K mg "_law_joined" xi)
  (JC:Df K mg "_law_somes_right" xj)
  (JD:Df K mg "law" lr)
  {Ag Ah:Addr}{XT XU:Nat}{XW:Tok}{uN:Addr}{XX:Option Addr}{XY:Nat}{XZ:Array (Option Value)}{X0 X1:Tok}{X2:Tok}{uO:Addr}{X3:Option Addr}{X4:Nat}{X5:Array (Option Value)}{X6 X7:Tok}{X8:Tok}{uP:Addr}{X9:Option Addr}{X_:Nat}{X':Array (Option Value)}{Yb Yc:Tok}{Yd:Tok}{uQ:Addr}{Ye:Option Addr}{Yg:Nat}{Yh:Array (Option Value)}{Yi Yj:Tok}{Yk:Tok}{uR:Addr}{Yl:Option Addr}{Ym:Nat}{Yn:Array (Option Value)}{Yo Yp:Tok}{Yq:Tok}{uS:Addr}{Yr:Option Addr}{Ys:Nat}{Yt:Array (Option Value)}{Yu Yv:Tok}{Yw:Tok}{uT:Addr}{Yx:Option Addr}{Yy:Nat}{Yz:Array (Option Value)}{YA YB:Tok}{YC:Tok}{uU:Addr}{YD:Option Addr}{YE:Nat}{YF:Array (Option Value)}{YG YH:Tok}{YI:Tok}{uV:Addr}{YJ:Option Addr}{YK:Nat}{YL:Array (Option Value)}{YM YN:Tok}{YO:Tok}{uW:Addr}{YQ:Option Addr}{YR:Nat}{YS:Array (Option Value)}{YT YU:Tok}{YV:Tok}{uX:Addr}{YW:Option Addr}{YX:Nat}{YY:Array (Option Value)}{YZ Y0:Tok}{Y1 Ai:Tok}{Y2 Aj:Tok}{Y3 Al:Tok}{Y4 Am:Tok}{Y5 An:Tok}(cA:PySem.W.nsIn K mainGlobals "ASK_SIZES"=some (some (.ref Ag)))(cC:PySem.W.nsIn K mainGlobals "COND_PLACES"=some (some (.ref Ah)))(mA:K.lookup Ag=some ⟨.type "dict",none,.dict (toArray [⟨PyData.keyHash w.params "table",.str "table" XW,.ref uN⟩,⟨PyData.keyHash w.params "pick",.str "pick" X2,.ref uO⟩,⟨PyData.keyHash w.params "show",.str "show" X8,.ref uP⟩,⟨PyData.keyHash w.params "join",.str "join" Yd,.ref uQ⟩,⟨PyData.keyHash w.params "left",.str "left" Yk,.ref uR⟩,⟨PyData.keyHash w.params "half",.str "half" Yq,.ref uS⟩,⟨PyData.keyHash w.params "lack",.str "lack" Yw,.ref uT⟩,⟨PyData.keyHash w.params "once",.str "once" YC,.ref uU⟩,⟨PyData.keyHash w.params "group",.str "group" YI,.ref uV⟩,⟨PyData.keyHash w.params "add",.str "add" YO,.ref uW⟩,⟨PyData.keyHash w.params "first",.str "first" YV,.ref uX⟩]) XT,#[]⟩)(mC:K.lookup Ah=some ⟨.type "dict",none,.dict (toArray [⟨PyData.keyHash w.params "pick",.str "pick" Y1,.int 2 Ai⟩,⟨PyData.keyHash w.params "join",.str "join" Y2,.int 3 Aj⟩,⟨PyData.keyHash w.params "left",.str "left" Y3,.int 3 Al⟩,⟨PyData.keyHash w.params "half",.str "half" Y4,.int 3 Am⟩,⟨PyData.keyHash w.params "lack",.str "lack" Y5,.int 3 An⟩]) XU,#[]⟩)(Ao:K.lookup uN=some ⟨.type "tuple",XX,.seq #[.int 3 X0,.int 0 X1] XY,XZ⟩)(Ap:K.lookup uO=some ⟨.type "tuple",X3,.seq #[.int 3 X6,.int 1 X7] X4,X5⟩)(Aq:K.lookup uP=some ⟨.type "tuple",X9,.seq #[.int 3 Yb,.int 1 Yc] X_,X'⟩)(Ar:K.lookup uQ=some ⟨.type "tuple",Ye,.seq #[.int 4 Yi,.int 2 Yj] Yg,Yh⟩)(As:K.lookup uR=some ⟨.type "tuple",Yl,.seq #[.int 4 Yo,.int 2 Yp] Ym,Yn⟩)(Au:K.lookup uS=some ⟨.type "tuple",Yr,.seq #[.int 4 Yu,.int 2 Yv] Ys,Yt⟩)(Av:K.lookup uT=some ⟨.type "tuple",Yx,.seq #[.int 4 YA,.int 2 YB] Yy,Yz⟩)(Aw:K.lookup uU=some ⟨.type "tuple",YD,.seq #[.int 2 YG,.int 1 YH] YE,YF⟩)(Ax:K.lookup uV=some ⟨.type "tuple",YJ,.seq #[.int 4 YM,.int 1 YN] YK,YL⟩)(Ay:K.lookup uW=some ⟨.type "tuple",YQ,.seq #[.int 3 YT,.int 2 YU] YR,YS⟩)(Az:K.lookup uX=some ⟨.type "tuple",YW,.seq #[.int 4 YZ,.int 1 Y0] YX,YY⟩)(sA:(Ag==sysModules)=false)(sC:(Ah==sysModules)=false)
  (z1:PySem.W.nsIn K mainGlobals "abs"=some none)(z2:PySem.W.nsIn K mainGlobals "bool"=some none)(z3:PySem.W.nsIn K mainGlobals "dict"=some none)(z4:PySem.W.nsIn K mainGlobals "enumerate"=some none)(z5:PySem.W.nsIn K mainGlobals "int"=some none)(z6:PySem.W.nsIn K mainGlobals "isinstance"=some none)(z7:PySem.W.nsIn K mainGlobals "len"=some none)(z8:PySem.W.nsIn K mainGlobals "list"=some none)(z9:PySem.W.nsIn K mainGlobals "max"=some none)(JE:PySem.W.nsIn K mainGlobals "min"=some none)(JF:PySem.W.nsIn K mainGlobals "range"=some none)(JG:PySem.W.nsIn K mainGlobals "repr"=some none)(JH:PySem.W.nsIn K mainGlobals "reversed"=some none)(JI:PySem.W.nsIn K mainGlobals "set"=some none)(JJ:PySem.W.nsIn K mainGlobals "sorted"=some none)(JK:PySem.W.nsIn K mainGlobals "sum"=some none)(JL:PySem.W.nsIn K mainGlobals "tuple"=some none) :
  ∃ fd:FuncData,(∀(s:Shared)(v:Value),BindsTo s fd ⟨[v],[]⟩ [("_law_script",v)])/\∀ base:Heap,K.In base->base.Ns mainGlobals mg->cU l.prog w K mg base du 103 fa fd ["_law_script"] (uI K):=by
 have B:Bt mg:=⟨PySem.W.mg_none_of X G z1,PySem.W.mg_none_of X G z2,PySem.W.mg_none_of X G z3,PySem.W.mg_none_of X G z4,PySem.W.mg_none_of X G z5,PySem.W.mg_none_of X G z6,PySem.W.mg_none_of X G z7,PySem.W.mg_none_of X G z8,PySem.W.mg_none_of X G z9,PySem.W.mg_none_of X G JE,PySem.W.mg_none_of X G JF,PySem.W.mg_none_of X G JG,PySem.W.mg_none_of X G JH,PySem.W.mg_none_of X G JI,PySem.W.mg_none_of X G JJ,PySem.W.mg_none_of X G JK,PySem.W.mg_none_of X G JL⟩;have uz:Gd l.prog w K mg "ASK_SIZES" uw:=Hi (PySem.W.mg_of X G cA) sA mA (dh.cons (u:=.ref uN) (v:=.ref uN) rfl (iB Ao) (dh.cons (u:=.ref uO) (v:=.ref uO) rfl (iB Ap) (dh.cons (u:=.ref uP) (v:=.ref uP) rfl (iB Aq) (dh.cons (u:=.ref uQ) (v:=.ref uQ) rfl (iB Ar) (dh.cons (u:=.ref uR) (v:=.ref uR) rfl (iB As) (dh.cons (u:=.ref uS) (v:=.ref uS) rfl (iB Au) (dh.cons (u:=.ref uT) (v:=.ref uT) rfl (iB Av) (dh.cons (u:=.ref uU) (v:=.ref uU) rfl (iB Aw) (dh.cons (u:=.ref uV) (v:=.ref uV) rfl (iB Ax) (dh.cons (u:=.ref uW) (v:=.ref uW) rfl (iB Ay) (dh.cons (u:=.ref uX) (v:=.ref uX) rfl (iB Az) (dh.nil)))))))))))) (by decide +kernel);have p_:Gd l.prog w K mg "COND_PLACES" uy:=Hi (PySem.W.mg_of X G cC) sC mC (dh.cons (u:=.int 2 Ai) (v:=.int 2) ⟨Ai,rfl⟩ (λ_ _=>.int _) (dh.cons (u:=.int 3 Aj) (v:=.int 3) ⟨Aj,rfl⟩ (λ_ _=>.int _) (dh.cons (u:=.int 3 Al) (v:=.int 3) ⟨Al,rfl⟩ (λ_ _=>.int _) (dh.cons (u:=.int 3 Am) (v:=.int 3) ⟨Am,rfl⟩ (λ_ _=>.int _) (dh.cons (u:=.int 3 An) (v:=.int 3) ⟨An,rfl⟩ (λ_ _=>.int _) (dh.nil)))))) (by decide +kernel);obtain⟨fl,fld,Fl,ml⟩:=JD;have e:=XS.symm.trans ml;cases e;refine⟨fld,?_,λbase Kb Gb=>?_⟩
 ·obtain⟨_,_,_,_,_,_,_,_,_,rfl,_⟩:=Fl.ex;exact λs u=>.of_eq rfl
 obtain⟨ydE,ydB,AA,Y6⟩:=Jm;have Y7:=AA.binds (ps:=["_law_state","_law_most"]) (λ_ _ _ _ _ _=>fg λ_ _=>rfl);obtain⟨ydF,ydC,AB,Y8⟩:=Jn;have Y9:=AB.binds (ps:=["_law_state","_law_most"]) (λ_ _ _ _ _ _=>fg λ_ _=>rfl);obtain⟨JM,ydG,aZ,JN⟩:=Jo;have JO:=aZ.binds (ps:=["_law_state","_law_most"]) (λ_ _ _ _ _ _=>fg λ_ _=>rfl);obtain⟨ydH,ydD,AD,Y_⟩:=Jl;have Y':=AD.binds (ps:=["_law_script"]) (λ_ _ _ _ _ _=>gD λ_=>rfl);have GT:cU l.prog w K mg base du 2 JM _ ["_law_state","_law_most"] (j8 K):=NU aZ (NR AA B) Y7 AA.kp Y6 (NS AB B) Y9 AB.kp Y8;have Za:Tk l.prog w K mg base JM _:=⟨GT,JO,aZ.kp,JN⟩;have Zb:Kn l.prog w K mg base 3 "_law_begin" (xn K):=⟨_,_,_,Om AD B Za,Y',AD.kp,Y_⟩;have fV:Kn l.prog w K mg base 2 "_law_take" (spS K false (bQ eN)):=⟨_,_,_,GT.imp (λvs H Q E h=>by obtain⟨B,xs,st,P,q1,q2,q3,q4,q5,q6,q7⟩:=h;exact Q0 ⟨B,xs,st,P,q1,q2,q3,q4,q5,take2 q6,q7⟩),JO,aZ.kp,JN⟩;have JP:=V3 (P:=l.prog) (w:=w) (base:=base) (k:=0) Jp B;have Zc:=WU (P:=l.prog) (w:=w) (base:=base) (k:=2) Js B (aZ:=fV.mono (by decide));have Zd:=WV (P:=l.prog) (w:=w) (base:=base) (k:=3) Jt B (kA:=JP.mono (by decide)) (aZ:=fV.mono (by decide)) (Ij:=Zc.mono (by decide));have JQ:=V_ (P:=l.prog) (w:=w) (base:=base) (k:=2) Ju B (aZ:=fV.mono (by decide))
 have Ze:∀ m,Kn l.prog w K mg base (2+m) "_law_sum" (spS K false (c3 (nH m))):=λm=>by
  induction m with
  | zero=>exact gZ (k:=1) zV pV (λ_ _ _ _ _ _=>j7 λ_ _ _ _=>rfl) (kO λ_ _ _ ⟨_,_,_,_,j,hj,h⟩=>by
    cases Nat.le_zero.mp hj
    exact h)
  |succ m ih=>exact V' (m₀:=m) (k:=2+m) zV B (aZ:=fV.mono (aP (m:=2) (by decide) (Nat.le_add_right _ _))) (fI:=ih)
 have AE:=Ze 3;have AF:=V5 (P:=l.prog) (w:=w) (base:=base) (k:=0) Jr B;have uY:=V4 (P:=l.prog) (w:=w) (base:=base) (k:=1) Jq B (kA:=JP.mono (by decide));have JR:=V7 (P:=l.prog) (w:=w) (base:=base) (k:=2) Jv B (iD:=uY.mono (by decide)) (aZ:=fV.mono (by decide));have Zf:=Xi (P:=l.prog) (w:=w) (base:=base) (k:=2) Jw B (aZ:=fV.mono (by decide))
 have J:∀ m,Kn l.prog w K mg base (5+m) "_law_cond" (spS K false (c3 (l5 m)))/\Kn l.prog w K mg base (5+m) "_law_ask" (spS K false (c0 (jI m)))/\Kn l.prog w K mg base (5+m) "_law_meeting" (spS K false (c3 (zL m)))/\Kn l.prog w K mg base (5+m) "_law_shown" (spS K false (c0 (iJ m)))/\Kn l.prog w K mg base (5+m) "_law_both" (spS K false (c3 (zM m)))/\Kn l.prog w K mg base (5+m) "_law_grouped" (spS K false (c0 (iJ m)))/\Kn l.prog w K mg base (5+m) "_law_added" (spS K false (c0 (iJ m))):=λm=>by
  induction m with
  | zero=>exact⟨gZ (k:=4) zW kE (λ_ _ _ _ _ _=>j7 λ_ _ _ _=>rfl) (kO λ_ _ _ ⟨_,_,_,_,deep,kvs,hd,h,_⟩=>absurd (aP (XQ deep) h) (by decide)),
    gZ (k:=4) Aa oh (λ_ _ _ _ _ _=>fM λ_ _ _=>rfl) (kO λ_ _ _ ⟨_,_,_,deep,hd,h,_⟩=>absurd (aP (XR deep) h) (by decide)),
    gZ (k:=4) zX kN (λ_ _ _ _ _ _=>j7 λ_ _ _ _=>rfl) (kO λ_ _ _ ⟨_,_,_,_,k1,k2,n1,n2,h,_⟩=>absurd h (by decide)),
    gZ (k:=4) zY iG (λ_ _ _ _ _ _=>fM λ_ _ _=>rfl) (kO λ_ _ _ ⟨_,_,_,d,_,h,_⟩=>Nat.not_succ_le_zero _ h),
    gZ (k:=4) zZ jL (λ_ _ _ _ _ _=>j7 λ_ _ _ _=>rfl) (kO λ_ _ _ ⟨_,_,_,_,d,t,_,h,_⟩=>Nat.not_succ_le_zero _ h),
    gZ (k:=4) z_ gj (λ_ _ _ _ _ _=>fM λ_ _ _=>rfl) (kO λ_ _ _ ⟨_,_,_,d,_,h,_⟩=>Nat.not_succ_le_zero _ h),
    gZ (k:=4) Ab gY (λ_ _ _ _ _ _=>fM λ_ _ _=>rfl) (kO λ_ _ _ ⟨_,_,_,d,_,h,_⟩=>Nat.not_succ_le_zero _ h)⟩
  |succ m ih=>
   obtain⟨uZ,oi,Zg,Zh,Zi,Zj,Zk⟩:=ih
   exact⟨Wb (m₀:=m) (k:=5+m) zW B (aZ:=fV.mono (aP (m:=5) (by decide) (Nat.le_add_right _ _))) (pW:=JQ.mono (aP (m:=5) (by decide) (Nat.le_add_right _ _))) (di:=oi) (fJ:=uZ) (fI:=AE.mono (aP (m:=5) (by decide) (Nat.le_add_right _ _))) (kF:=AF.mono (aP (m:=5) (by decide) (Nat.le_add_right _ _))),
    XA (m₀:=m) (k:=5+m) Aa B (di:=oi) (aZ:=fV.mono (aP (m:=5) (by decide) (Nat.le_add_right _ _))) (qh:=JR.mono (aP (m:=5) (by decide) (Nat.le_add_right _ _))) (IY:=Zh) (IZ:=Zi) (I0:=Zj) (I8:=Zk) (fJ:=uZ) (I9:=Zf.mono (aP (m:=5) (by decide) (Nat.le_add_right _ _))),
    XF (m₀:=m) (k:=5+m) zX B (kF:=AF.mono (aP (m:=5) (by decide) (Nat.le_add_right _ _))) (aZ:=fV.mono (aP (m:=5) (by decide) (Nat.le_add_right _ _))) (fJ:=uZ),
    Xl (m₀:=m) (k:=5+m) zY B (di:=oi) (aZ:=fV.mono (aP (m:=5) (by decide) (Nat.le_add_right _ _))) (iD:=uY.mono (aP (m:=5) (by decide) (Nat.le_add_right _ _))) (fI:=AE.mono (aP (m:=5) (by decide) (Nat.le_add_right _ _))),
    Xp (m₀:=m) (k:=5+m) zZ B (di:=oi) (IS:=Zg) (kF:=AF.mono (aP (m:=5) (by decide) (Nat.le_add_right _ _))),
    Xr (m₀:=m) (k:=5+m) z_ B (di:=oi) (iD:=uY.mono (aP (m:=5) (by decide) (Nat.le_add_right _ _))) (aZ:=fV.mono (aP (m:=5) (by decide) (Nat.le_add_right _ _))),
    Xy (m₀:=m) (k:=5+m) Ab B (di:=oi) (iD:=uY.mono (aP (m:=5) (by decide) (Nat.le_add_right _ _))) (pW:=JQ.mono (aP (m:=5) (by decide) (Nat.le_add_right _ _))) (aZ:=fV.mono (aP (m:=5) (by decide) (Nat.le_add_right _ _))) (fI:=AE.mono (aP (m:=5) (by decide) (Nat.le_add_right _ _))) (fJ:=uZ)⟩
 obtain⟨ydK,Zl,ydz,ydI,ydL,ydA,ydJ⟩:=J 10
 have Zm:∀ m,Kn l.prog w K mg base (1+m) "_law_somes" (aY K false (bX (t5 m))):=λm=>by
  induction m with
  |zero=>exact gZ (k:=0) Ac pX (λ_ _ _ _ _ _=>gD λ_=>rfl) (uM λ_ _ ⟨_,_,c,_,_,h,_⟩=>absurd (aP (Hz c) h) (by decide))
  |succ m ih=>exact We (m₀:=m) (k:=1+m) Ac B (l6:=ih)
 have Zn:=Zm 50;have qr:=Wl (P:=l.prog) (w:=w) (base:=base) (k:=51) Jx B (l6:=Zn.mono (by decide));have Zo:=WY (P:=l.prog) (w:=w) (base:=base) (k:=52) Jy B (aZ:=fV.mono (by decide)) (eO:=qr.mono (by decide));have Zp:=WJ (P:=l.prog) (w:=w) (base:=base) (k:=0) Jf B;have Zq:=WG (P:=l.prog) (w:=w) (base:=base) (k:=0) Je B (uz:=uz);have JS:=WM (P:=l.prog) (w:=w) (base:=base) (k:=1) Jg B (p_:=p_) (HX:=Zp.mono (by decide)) (HY:=Zq.mono (by decide));have Zr:=WC (P:=l.prog) (w:=w) (base:=base) (k:=0) Jc B;have JT:=WQ (P:=l.prog) (w:=w) (base:=base) (k:=2) Ji B (qa:=JS.mono (by decide)) (H_:=Zr.mono (by decide));have Zs:=WD (P:=l.prog) (w:=w) (base:=base) (k:=0) Jd B;have AG:=WS (P:=l.prog) (w:=w) (base:=base) (k:=3) Jk B (qb:=JT.mono (by decide)) (Ie:=Zs.mono (by decide));have AH:=WO (P:=l.prog) (w:=w) (base:=base) (k:=2) Jh B (qa:=JS.mono (by decide));have Zt:=WZ (P:=l.prog) (w:=w) (base:=base) (k:=52) Jz B (iF:=AH.mono (by decide)) (eO:=qr.mono (by decide));have AI:=WR (P:=l.prog) (w:=w) (base:=base) (k:=3) Jj B (qb:=JT.mono (by decide))
 have Zu:∀ m,Kn l.prog w K mg base (52+m) "_law_many" (aY K false (bX (t9 m))):=λm=>by
  induction m with
  |zero=>exact gZ (k:=51) Af HC (λ_ _ _ _ _ _=>gD λ_=>rfl) (uM λ_ _ ⟨_,_,a,_,_,h,_⟩=>absurd (aP (Wd a) h) (by decide))
  |succ m ih=>exact Wm (m₀:=m) (k:=52+m) Af B (nL:=ih) (eO:=qr.mono (aP (m:=52) (by decide) (Nat.le_add_right _ _)))
 have Zw:=Zu 50;have Zx:=W2 (P:=l.prog) (w:=w) (base:=base) (k:=4) JA B (iF:=AH.mono (by decide)) (jc:=AG.mono (by decide)) (gX:=AI.mono (by decide));have Zy:=W3 (P:=l.prog) (w:=w) (base:=base) (k:=0) JB B;have Zz:=W5 (P:=l.prog) (w:=w) (base:=base) (k:=4) JC B (zF:=Zy.mono (by decide)) (iF:=AH.mono (by decide)) (jc:=AG.mono (by decide)) (gX:=AI.mono (by decide))
 have ZA:∀ m,Kn l.prog w K mg base (1+m) "_law_cond_with" (aY K false (dB (uj m))):=λm=>by
  induction m with
  |zero=>exact gZ (k:=0) Ad kK (λ_ _ _ _ _ _=>fM λ_ _ _=>rfl) (uM λ_ _ ⟨_,_,_,_,c,_,_,_,_,_,_,h,_⟩=>absurd (aP (Hz c) h) (by decide))
  |succ m ih=>exact Wr (m₀:=m) (k:=1+m) Ad B (nM:=ih)
 have ZC:=ZA 50
 have ZD:∀ m,Kn l.prog w K mg base (52+m) "_law_with" (aY K false (dB (uv m))):=λm=>by
  induction m with
  |zero=>exact gZ (k:=51) Ae nV (λ_ _ _ _ _ _=>fM λ_ _ _=>rfl) (uM λ_ _ ⟨_,_,_,_,_,_,_,_,_,_,_,_,_,_,_,h,_⟩=>Nat.not_lt_zero _ h)
  |succ m ih=>exact Wv (m₀:=m) (k:=52+m) Ae B (pZ:=ih) (nM:=ZC.mono (aP (m:=52) (by decide) (Nat.le_add_right _ _))) (eO:=qr.mono (aP (m:=52) (by decide) (Nat.le_add_right _ _)))
 have ZE:=ZD 8;exact W9 (k:=102) Fl B (Zb.mono (by decide)) (IA:=Zd.mono (by decide)) (di:=Zl.mono (by decide)) (IB:=Zo.mono (by decide)) (qh:=JR.mono (by decide)) (jc:=AG.mono (by decide)) (aZ:=fV.mono (by decide)) (IC:=Zt.mono (by decide)) (gX:=AI.mono (by decide)) (eO:=qr.mono (by decide)) (nL:=Zw.mono (by decide)) (ID:=Zx.mono (by decide)) (IE:=Zz.mono (by decide)) (pZ:=ZE.mono (by decide))
theorem walk {l:PySem.W.OpenLaw}{q:Program}{loose:aq}{XP:(a0)->Heap->Prop}{YP:World->Heap->Prop}{d:DefRec}{K:Params->Frag}(hn:l.most=some 63)(oR:d.params.defaults=[])
  (hY:∀(w:World)(h:Heap),YP w h->(K w.params).In h)
  (F:∀(w:World)(mg:a0)(fa:Addr)(h:Heap),(K w.params).In h->h.Ns mainGlobals mg->mg d.name=some (.ref fa) ->
   ∃ fd:FuncData,(∀(s:Shared)(u:Value),BindsTo s fd ⟨[u],[]⟩ [("_law_script",u)])/\∀ base:Heap,(K w.params).In base->base.Ns mainGlobals mg->cU l.prog w (K w.params) mg base du 103 fa fd ["_law_script"] (uI (K w.params))) :
  PySem.W.WalkO q loose XP YP l.row.toRowW d [] (λf vs=>PySem.call f vs):=
 L2.Nc (n:=63) (k:=103) (x:="_law_script") (CX:=λ_=>du) (sp:=λw=>uI (K w.params)) hn (by decide) oR ⟨rfl,by decide,by decide,rfl⟩ hY F (λ_ _ a ns hl hO hS=>⟨a,ns,rfl,hO,hS,hl,λ_=>rfl⟩) λ_ _ _ _ _ z=>z
end cV
open PySem PySem.W PyProof.Rows
set_option maxRecDepth 100000 in
set_option maxHeartbeats 0 in
theorem PySem.Challenge.cw_everyplan_k12_parts_at_ways_holds : PySem.Challenge.rw_everyplan_k12_parts_at_ways.Holds := by
 refine holds_law cV.NY λZF=>?_
 refine holds_open (r:=PySem.Challenge.rw_everyplan_k12_parts_at_ways.row) (q:=cV.j9) (loose:=cV.rH) (Xt:=λs=>xlAt cV.j9 [] s&&recOk [] s) (XP:=XL cV.j9 []) (Yf:=Hook.obs (kHook cV.o_ cV.pb cV.rM)) (Ya:=Hook.val (kHook cV.o_ cV.pb cV.rM)) (YP:=Hook.says (kHook cV.o_ cV.pb cV.rM)) (N:=1700)
  (d:={ name:="law",params:=L2.iQ cV.lr,body:=L2.fB cV.lr,scope:=L2.aX cV.lr,pos:=cV.lr.pos }) (kwd:=[])
  cV.Ol (Hook.of _) (Hook.keeps _) (λs e=>xl_of s (Bool.and_eq_true_iff.mp e).1) XL.keeps (by kernel_rfl) (by kernel_rfl) (by kernel_rfl)
  (λs e=>recFacts_of (Bool.and_eq_true_iff.mp e).2) (by rfl) ZF (by kernel_rfl) ⟨rfl,rfl,rfl,rfl,rfl,by decide +kernel⟩ ?hw ?hc
 case hw=>w_witness2
 k_fill
 refine cV.walk (l:=PySem.Challenge.rw_everyplan_k12_parts_at_ways) rfl rfl (λw h Y=>PySem.W.kIn_of Y) ?F
 case F=>
  intro w mg fa h KX G oS;refine' cV.all_mk KX G oS ?Jc ?Jd ?Je ?Jf ?Jg ?Jh ?Ji ?Jj ?Jk ?Jl ?Jm ?Jn ?Jo ?Jp ?Jq ?Jr ?Js ?Jt ?zV ?Ju ?zW ?zX ?Jv ?zY ?zZ ?z_ ?Jw ?Aa ?Ab ?Ac ?Jx ?Ad ?Ae ?Jy ?Jz ?Af ?JA ?JB ?JC ?JD ?cA ?cC ?mA ?mC ?Ao ?Ap ?Aq ?Ar ?As ?Au ?Av ?Aw ?Ax ?Ay ?Az ?sA ?sC ?z1 ?z2 ?z3 ?z4 ?z5 ?z6 ?z7 ?z8 ?z9 ?JE ?JF ?JG ?JH ?JI ?JJ ?JK ?JL
  (case cA=>k_is)
  (case cC=>k_is)
  (case mA=>k_is)
  (case mC=>k_is)
  (case Ao=>k_is)
  (case Ap=>k_is)
  (case Aq=>k_is)
  (case Ar=>k_is)
  (case As=>k_is)
  (case Au=>k_is)
  (case Av=>k_is)
  (case Aw=>k_is)
  (case Ax=>k_is)
  (case Ay=>k_is)
  (case Az=>k_is)
  (case sA=>rfl)
  (case sC=>rfl)
  all_goals first|(apply cV.XO KX G;iterate 4 k_is)|k_is
