import PyProof.Rows.All
import Wide.All
import OpenK.AllK
import Wide.FinOn
import Lean
import PyProof.EqAt
import PyProof.EqKinds
import PyProof.TupleCall
import PyProof.ZipIter
import PyProof.Draws
import PySem.Challenge.RW_everyplan_k04_first_breaks
import KE.KEqDict
import PyProof.Rows.TupAdd
import PyProof.NeKinds
import PyProof.MeetsSeq
import PyProof.WalksEnum
import PyProof.EnumMake
import PyProof.DictItems
import PyProof.DictValues
import PyProof.DictWalks
import PyProof.Rows.EnumRows
import PyProof.SumWalkG
open PySem.W(Frag)
set_option Elab.async false
set_option linter.all false
set_option genSizeOf false
set_option compiler.extract_closed false
set_option maxRecDepth 100000
set_option maxHeartbeats 8000000
local macro_rules|`(tactic| walk_at "s") => `(tactic| exact ⟨rfl, rfl, rfl, by decide +kernel, rfl, by decide +kernel, by decide +kernel⟩)
local macro_rules|`(tactic| walk_at "v") => `(tactic| first|exact Or.inl rfl|exact Or.inr (Or.inl rfl)|exact Or.inr (Or.inr rfl))
open List
abbrev aU:=PySem.Value->PySem.Shared->Prop
abbrev aL:=List (PySem.Addr×PySem.Obj)
abbrev bU:=PySem.Str->Option PySem.Value
abbrev ay:=List PySem.Str
abbrev aR:=List PySem.Value
abbrev aj:=@PySem.wpAny_bind
abbrev aP:=@PySem.wpAny_pure
abbrev aX:=@PySem.Heap.get?_push_of_some
abbrev aV:=@PySem.Heap.lt_size
abbrev aG:=@Nat.le_refl
abbrev cC:=@Nat.le_trans
abbrev bN:=@Nat.ne_of_lt
abbrev c8:=@Nat.lt_of_lt_of_le
abbrev cI:=@PySem.Heap.get?_push_size
theorem b8 {α:Type _}{l:List α}{i:Nat}{a:α}(h:l[i]?=some a):∃ h:i<l.length,l[i]=a:=List.getElem?_eq_some_iff.mp h
theorem bL {α:Type _}{l:List α}{i:Nat}(h:i<l.length):l[i]?=some l[i]:=List.getElem?_eq_getElem h
namespace L2
open PySem PySem.Spec PyProof.Rows
abbrev Key:=Sum Int Str
noncomputable def lZ:Key->Value->Bool
 |.inl k,v=>Value.isInt k v
 |.inr x,v=>Value.isStrOf x v
noncomputable def Ko (w:World):Key->Int
 |.inl k=>hashInt k
 |.inr x=>hashStr w x
theorem je:∀{k:Key}{v:Value},lZ k v=true->(∃ i t,k=Sum.inl i/\v=Value.int i t)\/(∃ x t,k=Sum.inr x/\v=Value.str x t)
 |.inl i,v,h=>by
  obtain⟨t,e⟩:=Value.isInt_shape (k:=i) (v:=v) h;exact .inl ⟨i,t,rfl,e⟩
 |.inr x,v,h=>by
  obtain⟨t,e⟩:=Value.isStrOf_shape (x:=x) (v:=v) h;exact .inr ⟨x,t,rfl,e⟩
theorem Kq (i:Int)(t:Tok):lZ (.inl i) (.int i t)=true:=by simp [lZ,Value.isInt]
theorem Kr (x:Str)(t:Tok):lZ (.inr x) (.str x t)=true:=by simp [lZ,Value.isStrOf]
theorem Ks (a b:Int):decide ((Sum.inl a:Key)=Sum.inl b)=(a==b):=by
 by_cases e:a=b
 ·subst e;simp
 ·have h:¬ (Sum.inl a:Key)=Sum.inl b:=λq=>e (Sum.inl.inj q);rw[decide_eq_false h];exact(beq_eq_false_iff_ne.mpr e).symm
theorem Kt (a b:Str):decide ((Sum.inr a:Key)=Sum.inr b)=decide (a=b):=by
 by_cases e:a=b
 ·subst e;simp
 ·have h:¬ (Sum.inr a:Key)=Sum.inr b:=λq=>e (Sum.inr.inj q);rw[decide_eq_false h,decide_eq_false e]
theorem Ku (a:Int)(b:Str):decide ((Sum.inl a:Key)=Sum.inr b)=false:=decide_eq_false (λq=>nomatch q)
theorem Kw (a:Str)(b:Int):decide ((Sum.inr a:Key)=Sum.inl b)=false:=decide_eq_false (λq=>nomatch q)
noncomputable def ck (prog:Program)(w:World):PySem.KeyKind prog w Key where
 is:=lZ
 hash:=Ko w
 inj:=λv a b ha hb=>by
  rcases je ha with ⟨i,t,rfl,rfl⟩|⟨x,t,rfl,rfl⟩
  ·rcases je hb with ⟨j,u,rfl,e⟩|⟨y,u,rfl,e⟩
   ·injection e with e1 _;rw[e1]
   ·exact nomatch e
  ·rcases je hb with ⟨j,u,rfl,e⟩|⟨y,u,rfl,e⟩
   ·exact nomatch e
   ·injection e with e1 _;rw[e1]
 byValue:=λk v h=>by
  rcases je h with ⟨i,t,rfl,rfl⟩|⟨x,t,rfl,rfl⟩<;>rfl
 pyHash:=λhv h=>by
  rcases je hv with ⟨i,t,rfl,rfl⟩|⟨x,t,rfl,rfl⟩
  ·exact wpAny_pyHash_int h
  ·exact wpAny_pyHash_str h
 eqBool:=λhu hv h=>by
  rcases je hu with ⟨i,t,rfl,rfl⟩|⟨x,t,rfl,rfl⟩
  ·rcases je hv with ⟨j,u,rfl,rfl⟩|⟨y,u,rfl,rfl⟩
   ·rw[Ks] at h;exact wpAny_eqBool_int h
   ·rw[Ku] at h;exact SeqAt.EqAt.int_str i t y u _ _ _ _ h
  ·rcases je hv with ⟨j,u,rfl,rfl⟩|⟨y,u,rfl,rfl⟩
   ·rw[Kw] at h;exact SeqAt.EqAt.str_int x t j u _ _ _ _ h
   ·rw[Kt] at h;exact wpAny_eqBool_str h
 «strs»:=λk x t v h=>by
  rcases je h with ⟨i,u,rfl,e⟩|⟨y,u,rfl,e⟩
  ·exact nomatch e
  ·injection e with e1 _
   subst e1;cases v<;>rfl
theorem Kx (prog:Program)(w:World)(i:Int)(t:Tok):(ck prog w).is (.inl i) (.int i t)=true:=Kq i t
theorem Ky (prog:Program)(w:World)(x:Str)(t:Tok):(ck prog w).is (.inr x) (.str x t)=true:=Kr x t
inductive V where
 |ai|bl (b:Bool)|int (i:Int)|str (x:Str)|gD (b:Array UInt8)|nA (b:UInt64)|ref (a:Addr)|ty (n:String)
 deriving DecidableEq
abbrev Zv:=List V
abbrev bh:=List (Key×V)
def RelV:V->Value->Prop
 |.ai,u=>u=Value.none
 |.bl b,u=>u=Value.bool b
 |.int i,u=>∃ t,u=Value.int i t
 |.str x,u=>∃ t,u=Value.str x t
 |.gD b,u=>∃ t,u=Value.bytes b t
 |.nA b,u=>∃ t,u=Value.float b t
 |.ref a,u=>u=Value.ref a
 |.ty n,u=>u=Value.type n
abbrev Vals:Zv->aR->Prop:=Paired RelV
theorem Vals.length {xs:Zv}{us:aR}(r:Vals xs us):xs.length=us.length:=Paired.length r
theorem Vals.get:∀{xs:Zv}{us:aR}{i:Nat}{x:V},Vals xs us->xs[i]?=some x->∃ u,us[i]?=some u/\RelV x u
 |_,_,_,_,.nil,e=>by simp at e
 |_,_,0,_,.cons r _,e=>by simp at e;subst e;exact⟨_,rfl,r⟩
 |_,_,i+1,x,.cons _ t,e=>by
  obtain⟨u,h1,h2⟩:=Vals.get (i:=i) (x:=x) t (by simpa using e);exact⟨u,by simpa using h1,h2⟩
theorem Vals.set {x:V}{u:Value}(r:RelV x u):∀{xs:Zv}{us:aR}(i:Nat),Vals xs us->Vals (xs.set i x) (us.set i u)
 |_,_,_,.nil=>.nil
 |_,_,0,.cons _ t=>.cons r t
 |_,_,i+1,.cons q t=>.cons q (Vals.set r i t)
theorem Vals.append:∀{xs ys:Zv}{us ws:aR},Vals xs us->Vals ys ws->Vals (xs++ys) (us++ws)
 |_,_,_,_,.nil,s=>s
 |_,_,_,_,.cons r t,s=>.cons r (Vals.append t s)
theorem Vals.take:∀{xs:Zv}{us:aR}(n:Nat),Vals xs us->Vals (xs.take n) (us.take n)
 |_,_,0,_=>.nil
 |_,_,_+1,.nil=>.nil
 |_,_,n+1,.cons r t=>.cons r (Vals.take n t)
theorem Vals.drop:∀{xs:Zv}{us:aR}(n:Nat),Vals xs us->Vals (xs.drop n) (us.drop n)
 |_,_,0,r=>r
 |_,_,_+1,.nil=>.nil
 |_,_,n+1,.cons _ t=>Vals.drop n t
def ig:Option V->Option Value->Prop
 |some v,some u=>RelV v u
 |none,none=>True
 |_,_=>False
def KV {κ:Type}:List (κ×V)->List (κ×Value)->Prop:=Paired fun(p:κ×V)(q:κ×Value)=>p.1=q.1/\RelV p.2 q.2
noncomputable def kV:Key->V
 |.inl i=>.int i
 |.inr x=>.str x
inductive HO where
 /-- a list -/
 |lst (xs:Zv)
 /-- a tuple (never changes) -/
 |tup (xs:Zv)
 /-- a dict Kz keys are ints and texts;one Kz keys are tuples of ints and texts (eg empty one is both) -/
 |dK (kvs:bh)|dT (kvs:List (List Key×V))
 /-- a set of ints: its members,its size -/
 |set (S:Int->Bool)(n:Nat)
 /-- an instance of eg class at C,its dict at dx,its attributes -/
 |ins (C dx:Addr)(fs:List (Str×V))
 /-- eg dict of eg instance at x -/
 |own (x:Addr)
 /-- eg dict of an exception -/
 |xd (fs:List (Str×V))
 /-- a bound method,f of x -/
 |met (f x:Addr)
 /-- a range object lo,lo+1,.. below hi -/
 |vq (lo hi:Int)
 /-- a AM AO is known to eg object (eg AQ;a dict while a loop walks it): read,never written while it is so -/
 |aY (o:Obj)(u:HO)
 /-- a code aar table -/
 |iJ (ps:Array Value)
 /-- eg code object of a def of AO name -/
 |l0 (q:Str)
 /-- any other AM,by AU is true of its one object (a def of aas own: aat a S n:=HO.ext λh=>..) -/
 |ext (φ:Heap->Prop)
abbrev Hp:=Addr->Option HO
noncomputable def upd (H:Hp)(a:Addr)(o:HO):Hp:=λb=>if b=a then some o else H b
theorem aZ {H:Hp}{a:Addr}{o:HO}:upd H a o a=some o:=by unfold upd;rw[if_pos rfl]
theorem aB {H:Hp}{a b:Addr}{o:HO}(h:b≠a):upd H a o b=H b:=by unfold upd;rw[if_neg h]
theorem vv {H:Hp}{a b:Addr}{o u:HO}(h:H a=some o)(h':H b=some u)(d:o≠u):a≠b:=by
 intro e;subst e;rw[h] at h';exact d (Option.some.inj h')
theorem bV {H:Hp}{a b:Addr}{o:HO}(h:H a=some o)(h':H b=none):a≠b:=by
 intro e;subst e;rw[h] at h';cases h'
section
variable (P:Program)(w:World)
def cR (H:Hp)(h:Heap)(a:Addr):HO->Prop
 |.lst xs=>xs.length<=sizeLine/\∃(its:aR)(n:Nat),Vals xs its/\h.get? a=some { cls:=.type "list",data:=.seq its.toArray n }
 |.tup xs=>xs.length<=sizeLine/\∃ its:aR,Vals xs its/\IsTup h a its.toArray
 |.dK kvs=>kvs.length<=sizeLine/\(a==sysModules)=false/\∃ vs,KV kvs vs/\h.DictOf (ck P w) a vs
 |.dT kvs=>kvs.length<=sizeLine/\(a==sysModules)=false/\∃ xs:List (List Key×Addr×Value),
   Paired (fun(p:List Key×V)(q:List Key×Addr×Value)=>p.1=q.1/\H q.2.1=some (.tup (p.1.map kV))/\RelV p.2 q.2.2) kvs xs /\
   ∃ o es ep,h.get? a=some o/\o.ExactDict/\o.data=.dict es ep/\es.toList=xs.map (entryOfKey (tupleKind (ck P w)))/\(xs.map (·.1)).Nodup
 |.set S n=>h.SetOf (intKind P w) a S n
 |.ins C dx fs=>H dx=some (.own a)/\fs.length<=1000/\dx≠a/\h.get? a=some (PySem.W.instObj C dx) /\
   ∃ mA,h.Ns1 dx mA/\(∀ f,ig (fs.lookup f) (mA f))/\PySem.Within mA (fs.map (·.1))
 |.own _=>∃ o,h.get? a=some o
 |.xd fs=>∃ mA,h.Ns1 a mA/\∀ f,ig (fs.lookup f) (mA f)
 |.vq lo hi=>∃ t u v,h.get? a=some { cls:=.type "range",data:=.fields #[.int lo t,.int hi u,.int 1 v] }
 |.aY o u=>(h.get? a=some o/\∀ xs,u≠.tup xs)/\cR H h a u
 |.iJ ps=>∃ more:Array Value,h.get? a=some { cls:=.none,data:=.fields more }/\(more=#[]\/∃(c:Addr)(q:Str)(k:Tok)(l m:Nat),more=#[rawInt l,rawInt m,.ref c]/\ps=#[.str q k,rawInt l,rawInt m]/\H c=some (.l0 q))
 |.l0 q=>h.CodeRec (.ref a) q
 |.met f x=>h.get? a=some (PySem.W.methodObj (.ref f) (.ref x))
 |.ext φ=>φ h/\(∃ o,h.get? a=some o)/\∀ h1 h2:Heap,φ h1->(∀ o,h1.get? a=some o->h2.get? a=some o)->φ h2
def cD (H:Hp)(h:Heap):Prop:=∀ a o,H a=some o->cR P w H h a o
end
section
variable {P:Program}{w:World}{H H':Hp}{h h':Heap}{a:Addr}{o:HO}
theorem cR.lt (x:cR P w H h a o):a<h.objs.size:=by
 cases o with
 |lst xs=>obtain⟨_,_,_,_,e⟩:=x;exact aV e
 |tup xs=>obtain⟨_,_,_,p⟩:=x;exact p.lt
 |dK kvs=>obtain⟨_,_,_,_,o,_,_,e,_⟩:=x;exact aV e
 |dT kvs=>obtain⟨_,_,_,_,o,_,_,e,_⟩:=x;exact aV e
 |set S n=>obtain⟨o,_,_,_,e,_⟩:=x;exact aV e
 |ins C dx fs=>obtain⟨_,_,_,e,_⟩:=x;exact aV e
 |own y=>obtain⟨_,e⟩:=x;exact aV e
 |xd fs=>obtain⟨_,⟨_,_,_,e,_⟩,_⟩:=x;exact aV e
 |vq lo hi=>obtain⟨_,_,_,e⟩:=x;exact aV e
 |aY ob u=>obtain⟨⟨e,_⟩,_⟩:=x;exact aV e
 |iJ ps=>obtain⟨_,e,_⟩:=x;exact aV e
 |l0 q=>obtain⟨c,o,vs,t,e,e1,_⟩:=x;cases e;exact aV e1
 |met f y=>exact aV (show h.get? a=some _ from x)
 |ext φ=>obtain⟨_,⟨_,e⟩,_⟩:=x;exact aV e
theorem Paired.vw {α β:Type}{F G:α->β->Prop}:∀{l₁:List α}{l₂:List β},Paired F l₁ l₂->(∀ a b,F a b->G a b)->Paired G l₁ l₂
 |_,_,.nil,_=>.nil
 |_,_,.cons r t,f=>.cons (f _ _ r) (Paired.vw t f)
theorem cR.iK (x:cR P w H h a o)(k:∀ b u,(b=a\/H b=some (.own a))->h.get? b=some u->h'.get? b=some u)
  (ho:∀ b,H b=some (.own a)->H' b=some (.own a))(ht:∀ b xs,H b=some (.tup xs)->H' b=some (.tup xs))(hc:∀ b q,H b=some (.l0 q)->H' b=some (.l0 q):=by exact λ_ _ q=>q):cR P w H' h' a o:=by
 induction o with
 |lst xs=>obtain⟨z,its,n,r,e⟩:=x;exact⟨z,its,n,r,k _ _ (.inl rfl) e⟩
 |tup xs=>obtain⟨z,its,r,ob,e,c⟩:=x;exact⟨z,its,r,ob,k _ _ (.inl rfl) e,c⟩
 |dK kvs=>obtain⟨z,y,vs,r,ob,es,ep,e,c⟩:=x;exact⟨z,y,vs,r,ob,es,ep,k _ _ (.inl rfl) e,c⟩
 |dT kvs=>
  obtain⟨z,y,xs,r,ob,es,ep,e,c⟩:=x;exact⟨z,y,xs,Paired.vw r λp q z=>⟨z.1,ht _ _ z.2.1,z.2.2⟩,ob,es,ep,k _ _ (.inl rfl) e,c⟩
 |set S n=>obtain⟨ob,es,ep,t,e,c⟩:=x;exact⟨ob,es,ep,t,k _ _ (.inl rfl) e,c⟩
 |ins C dx fs=>
  obtain⟨d,z,ne,e,mA,⟨od,es,ep,e2,c⟩,r⟩:=x;exact⟨ho _ d,z,ne,k _ _ (.inl rfl) e,mA,⟨od,es,ep,k _ _ (.inr d) e2,c⟩,r⟩
 |own y=>obtain⟨ob,e⟩:=x;exact⟨ob,k _ _ (.inl rfl) e⟩
 |xd fs=>obtain⟨mA,⟨od,es,ep,e,c⟩,r⟩:=x;exact⟨mA,⟨od,es,ep,k _ _ (.inl rfl) e,c⟩,r⟩
 |vq lo hi=>obtain⟨t,u,v,e⟩:=x;exact⟨t,u,v,k _ _ (.inl rfl) e⟩
 |aY ob u ih=>obtain⟨⟨e,nt⟩,q⟩:=x;exact⟨⟨k _ _ (.inl rfl) e,nt⟩,ih q⟩
 |iJ ps=>
  obtain⟨more,e,r⟩:=x;refine⟨more,k a _ (.inl rfl) e,?_⟩;rcases r with r|⟨c,q,tk,l,m,e1,e2,e3⟩
  ·exact .inl r
  ·exact .inr ⟨c,q,tk,l,m,e1,e2,hc _ _ e3⟩
 |l0 q=>obtain⟨c,o,vs,t,e,e1,e2⟩:=x;cases e;exact⟨a,o,vs,t,rfl,k _ _ (.inl rfl) e1,e2⟩
 |met f y=>
  have e:h.get? a=some (PySem.W.methodObj (.ref f) (.ref y)):=x;show h'.get? a=some (PySem.W.methodObj (.ref f) (.ref y));exact k a _ (.inl rfl) e
 |ext φ=>obtain⟨p,⟨o,e⟩,st⟩:=x;exact⟨st _ _ p λo q=>k _ _ (.inl rfl) q,⟨o,k _ _ (.inl rfl) e⟩,st⟩
theorem cD.lt (x:cD P w H h)(e:H a=some o):a<h.objs.size:=(x a o e).lt
theorem cD.fresh (x:cD P w H h)(e:h.objs.size<=a):H a=none:=by
 cases q:H a with
 |none=>rfl
 |some u=>exact absurd (c8 (x.lt q) e) (Nat.lt_irrefl _)
theorem cD.kept (x:cD P w H h)(k:∀ b u,h.get? b=some u->h'.get? b=some u):cD P w H h':=λa o e=>
 (x a o e).iK (λb u _ q=>k b u q) (λ_ q=>q) λ_ _ q=>q
theorem cD.laid (x:cD P w H h)(k:∀ b u,h.get? b=some u->h'.get? b=some u)(hp:h.objs.size<=a)(new:cR P w (upd H a o) h' a o):cD P w (upd H a o) h':=λb u e=>by
 have hn:=x.fresh hp;by_cases hb:b=a
 ·subst hb;rw[aZ] at e;cases e;exact new
 ·rw[aB hb] at e;exact(x b u e).iK (hc:=λc xs q=>by rw[aB (bV q hn)];exact q) (λc v _ q=>k c v q) (λc q=>by rw[aB (bV q hn)];exact q) λc xs q=>by rw[aB (bV q hn)];exact q
end
def Rd (H:Hp)(a:Addr)(u:HO):Prop:=H a=some u\/∃ o,H a=some (.aY o u)
theorem Rd.ok {P:Program}{w:World}{H:Hp}{h:Heap}{a:Addr}{u:HO}(r:Rd H a u)(x:cD P w H h):cR P w H h a u:=by
 rcases r with r|⟨o,r⟩
 ·exact x a u r
 ·obtain⟨_,q⟩:=x a _ r;exact q
def pf:Option HO->Prop
 |some (.lst _)=>True
 |some (.dK _)=>True
 |some (.dT _)=>True
 |some (.set _ _)=>True
 |some (.ins _ _ _)=>True
 |some (.ext _)=>True
 |_=>False
section
variable {P:Program}{w:World}{H:Hp}{h h':Heap}{x e:Addr}{o':HO}
theorem cD.write (ok:cD P w H h)(mu:pf (H x))(he:e=x\/H e=some (.own x))(k:∀ b u,b≠e->h.get? b=some u->h'.get? b=some u)(nB:∃ u,h'.get? e=some u)
  (new:cR P w (upd H x o') h' x o'):cD P w (upd H x o') h':=λb u q=>by
 have ph:∀ c y,H c=some (.own y)->c≠x:=λc y r z=>by subst z;rw[r] at mu;exact mu
 have KA:∀ c xs,H c=some (.tup xs)->c≠x:=λc xs r z=>by subst z;rw[r] at mu;exact mu
 have KD:∀ c xs,H c=some (.l0 xs)->c≠x:=λc xs r z=>by subst z;rw[r] at mu;exact mu
 by_cases hb:b=x
 ·subst hb;rw[aZ] at q;cases q;exact new
 ·rw[aB hb] at q;by_cases l7:b=e
  ·have q':H b=some (.own x):=by
    rcases he with z|z
    ·exact absurd (l7.trans z) hb
    ·rw[l7];exact z
   rw[q] at q';cases q';obtain⟨v,hv⟩:=nB;exact⟨v,by rw[l7];exact hv⟩
  ·refine(ok b u q).iK (hc:=λc xs r=>by rw[aB (KD c xs r)];exact r) (λc v hc r=>k c v ?_ r) (λc r=>by rw[aB (ph c b r)];exact r) λc xs r=>by rw[aB (KA c xs r)];exact r
   rcases hc with rfl|hc
   ·exact l7
   ·rintro rfl;rcases he with z|z
    ·exact ph c b hc z
    ·rw[hc] at z;cases z;exact hb rfl
end
structure Un (fs ex:List Addr)(H H':Hp)(h h':Heap):Prop where
 keep:∀ b o,h.get? b=some o->H b=none->b∉fs->b∉ex->h'.get? b=some o
 slot:∀ b o,h.get? b=some o->H b=none->b∈fs->b∉ex->∃ sl,h'.get? b=some { o with slots:=sl }
 free:∀ b o,h.get? b=some o->H b=none->b∉ex->H' b=none
 there:∀ b o,h.get? b=some o->b∉ex->∃ o',h'.get? b=some o'
 jJ:∀ b xs,H b=some (.tup xs)->H' b=some (.tup xs)
 iL:∀ b o u,H b=some (.aY o u)->H' b=some (.aY o u)
 jK:∀ b ps,H b=some (.iJ ps)->∃ more,H' b=some (.iJ (ps++more))
section
variable {fs vz ex ex':List Addr}{H H1 H2:Hp}{h h1 h2 h':Heap}{a x e:Addr}{o:HO}
theorem Un.any (u:Un fs ex H H1 h h1){b:Addr}{ob:Obj}(q:h.get? b=some ob)(n:H b=none)(hx:b∉ex):∃ sl,h1.get? b=some { ob with slots:=sl }:=by
 by_cases hb:b∈fs
 ·exact u.slot b ob q n hb hx
 ·exact⟨ob.slots,u.keep b ob q n hb hx⟩
theorem Un.kept (k:∀ b u,h.get? b=some u->h'.get? b=some u):Un fs ex H H h h':=
 ⟨λb ob q _ _ _=>k b ob q,λb ob q _ _ _=>⟨ob.slots,k b ob q⟩,λ_ _ _ n _=>n,λb ob q _=>⟨ob,k b ob q⟩,λ_ _ q=>q,λ_ _ _ q=>q,λ_ ps q=>⟨#[],by rw[q];simp⟩⟩
theorem Un.refl:Un fs ex H H h h:=Un.kept λ_ _ q=>q
theorem Un.laid (k:∀ b u,h.get? b=some u->h'.get? b=some u)(hp:h.objs.size<=a)(hn:H a=none):Un fs ex H (upd H a o) h h' where
 keep:=λb u q _ _ _=>k b u q
 slot:=λb u q _ _ _=>⟨u.slots,k b u q⟩
 free:=λb u q n _=>by rw[aB (bN (c8 (aV q) hp))];exact n
 there:=λb u q _=>⟨u,k b u q⟩
 jJ:=λb xs q=>by rw[aB (bV q hn)];exact q
 iL:=λb u xs q=>by rw[aB (bV q hn)];exact q
 jK:=λb ps q=>⟨#[],by rw[aB (bV q hn),q];simp⟩
theorem Un.write (mu:pf (H x))(he:e=x\/H e=some (.own x))(k:∀ b u,b≠e->h.get? b=some u->h'.get? b=some u)(nB:∃ u,h'.get? e=some u):Un fs ex H (upd H x o) h h':=by
 have hx:∀ b,H b=none->b≠x:=λb n z=>by subst z;rw[n] at mu;exact mu
 have hb:∀ b,H b=none->b≠e:=λb n z=>by
  subst z;rcases he with r|r
  ·exact hx b n r
  ·rw[n] at r;cases r
 have hm:∀ b u,H b=some u->¬ pf (some u)->b≠x:=λb u q nm z=>by subst z;rw[q] at mu;exact nm mu
 refine⟨λb u q n _ _=>k b u (hb b n) q,λb u q n _ _=>⟨u.slots,k b u (hb b n) q⟩,λb u q n _=>by rw[aB (hx b n)];exact n,λb u q _=>?_,
  λb xs q=>by rw[aB (hm b _ q λz=>z)];exact q,λb u xs q=>by rw[aB (hm b _ q λz=>z)];exact q,λb ps q=>⟨#[],by rw[aB (hm b _ q λz=>z),q];simp⟩⟩
 by_cases l7:b=e
 ·subst l7;exact nB
 ·exact⟨u,k b u l7 q⟩
end
noncomputable def rD (h:Heap)(H:Hp):List Addr:=(range h.objs.size).filter λa=>(H a).isSome
noncomputable def jL (h:Heap)(H:Hp):Heap:=PySem.W.hideAll h (rD h H)
theorem KG (h:Heap)(H:Hp):(jL h H).objs.size=h.objs.size:=PySem.W.hideAll_size _ _
theorem KH {h:Heap}{H:Hp}{b:Addr}{o:Obj}(e:h.get? b=some o)(n:H b=none):(jL h H).get? b=some o:=
 PySem.W.hideAll_get _ e λhm=>by
  have q:(H b).isSome=true:=(mem_filter.mp hm).2;rw[n] at q;simp at q
theorem KI {h:Heap}{H:Hp}{b:Addr}{o:Obj}(e:(jL h H).get? b=some o):h.get? b=some o/\H b=none:=by
 have e':h.get? b=some o:=PySem.W.of_hideAll (rD h H) e;refine⟨e',?_⟩
 cases q:H b with
 |none=>rfl
 |some x=>
  have hm:b∈rD h H:=mem_filter.mpr ⟨mem_range.mpr (aV e'),by simp [q]⟩;have z:(jL h H).get? b=none:=PySem.W.hideAll_none (rD h H) hm;rw[z] at e;cases e
noncomputable def KJ (g h:Heap)(L:Addr):aL:=(range h.objs.size).filterMap λa=>if a=L\/(g.get? a).isSome=true then none else (h.get? a).map λo=>(a,o)
noncomputable def rest (g h:Heap)(L d:Addr):aL:=(KJ g h L).filter λp=>decide (p.1≠d)
structure Mod (K:Frag)(mg:bU)(base:Heap):Prop where
 rE:K.In base
 glob:base.Ns mainGlobals mg
 blt:∃ mb,base.Ns builtinsNs mb/\∀ x:Str,x≠"__name__"->mb x=bootBuiltins x
 nolimit:base.NoLimit
structure Cx where
 prog:Program
 w:World
 K:Frag
 mg:bU
 base:Heap
 A:Around
 N:ay
 dA:Shared
 l8:Hp
 env:Env
 outer:List Env
 stack:List Env
 ex:List Addr
 fn:Str->Bool
 calm:Bool
 pn:aL
 xe:aU
noncomputable def iM (l:List Env):List Addr:=l.filterMap (·.frame)
noncomputable abbrev Cx.fs (X:Cx):List Addr:=iM X.outer
def di (sc:Scope)(x:Str):Prop:=sc.names.lookup x=some .local\/sc.names.lookup x=some .cell\/sc.names.lookup x=some .free
def Loc (sc:Scope)(x:Str):Prop:=sc.names.lookup x=some .local\/sc.names.lookup x=some .cell
def Look (env:Env)(h:Heap)(m:bU)(x:Str)(u:Value):Prop:=
 (env.kindOf x=some .local/\m x=some u)\/((env.kindOf x=some .cell\/env.kindOf x=some .free)/\∃ c,env.cells.lookup x=some c/\h.IsCell c (some u))
structure Cx.Ok (X:Cx):Prop where
 mod:Mod X.K X.mg X.base
 kind:X.env.scope.kind=.function
 glob:X.env.globals=mainGlobals
 blt:X.env.builtins=builtinsNs
 above:X.dA.heap.objs.size<=X.env.locals
 inj:∀ x y c,X.env.cells.lookup x=some c->X.env.cells.lookup y=some c->x=y
 has:∀ x,(X.env.kindOf x=some .cell\/X.env.kindOf x=some .free)->∃ c,X.env.cells.lookup x=some c
 nC:∀ x c,X.fn x=true->X.env.cells.lookup x=some c->X.dA.heap.objs.size<=c
 hd:X.calm=true->X.A.handled=none
 frames:X.A.frames=some X.stack
 pj:X.stack=X.outer\/(X.stack=X.env::X.outer/\X.env.frame=some X.env.locals)
 vA:∀ b∈X.ex,b≠X.env.locals/\∀ x c,X.env.cells.lookup x=some c->c≠b
 bs:∀ b o,X.base.get? b=some o->X.dA.heap.get? b=some o/\X.l8 b=none
 jM:X.base.objs.size<=X.dA.heap.objs.size
 nD:∀ b o,X.base.get? b=some o->b∉X.ex
 pq:∀ b∈X.ex,b∉X.fs
 ik:X.dA.heap.FunFrames X.base X.outer
 l9:∀ b∈X.fs,X.l8 b=none
structure Inv (X:Cx)(pins:aL)(σ:List (Option V))(H:Hp)(s:Shared):Prop where
 ok:X.Ok
 os:s.os=X.dA.os
 bare:AllBare s.gens
 base:Un X.fs X.ex X.l8 H X.dA.heap s.heap
 loc:∃ m,s.heap.Ns X.env.locals m/\∀(i:Nat)(x:Str)(v:V),X.N[i]?=some x->σ[i]?=some (some v)->di X.env.scope x->∃ u,RelV v u/\Look X.env s.heap m x u
 cell:∀ x c,X.env.cells.lookup x=some c->∃ v,s.heap.IsCell c v
 free:H X.env.locals=none
 f7:∀ x c,X.env.cells.lookup x=some c->H c=none
 pin:∀ p∈X.pn++pins,s.heap.get? p.1=some p.2/\H p.1=none/\p.1≠X.env.locals/\p.1∉X.fs/\∀ v,p.2.data≠.cell v
 aw:cD X.prog X.w H s.heap
 len:X.N.length<=σ.length
section
variable {X:Cx}{pins:aL}{σ:List (Option V)}{H H':Hp}{s:Shared}{h':Heap}
theorem Cx.Ok.KL (ok:X.Ok){b:Addr}{o:Obj}(e:X.base.get? b=some o):b∉X.fs:=λhb=>by
 have:=(ok.ik.mem hb).1;rw[e] at this;cases this
theorem Inv.bs (I:Inv X pins σ H s):∀ b o,X.base.get? b=some o->s.heap.get? b=some o/\H b=none:=λb o e=>
 ⟨I.base.keep b o (I.ok.bs b o e).1 (I.ok.bs b o e).2 (I.ok.KL e) (I.ok.nD b o e),I.base.free b o (I.ok.bs b o e).1 (I.ok.bs b o e).2 (I.ok.nD b o e)⟩
theorem Inv.bk (I:Inv X pins σ H s):∀ b o,X.base.get? b=some o->s.heap.get? b=some o:=λb o e=>(I.bs b o e).1
theorem Inv.mod (I:Inv X pins σ H s):Mod X.K X.mg X.base:=I.ok.mod
theorem Inv.eh (I:Inv X pins σ H s):X.K.In s.heap:=I.ok.mod.rE.keeps I.bk
theorem Inv.lt (I:Inv X pins σ H s):X.env.locals<s.heap.objs.size:=let ⟨_,hn,_⟩:=I.loc;hn.lt
theorem Inv.sz (I:Inv X pins σ H s):X.dA.heap.objs.size<=s.heap.objs.size:=cC I.ok.above (Nat.le_of_lt I.lt)
theorem Inv.KN (I:Inv X pins σ H s){a:Addr}(h:s.heap.objs.size<=a):a∉X.fs:=λhb=>by
 obtain⟨_,o,ho,_⟩:=I.ok.ik.mem hb;exact absurd (c8 (aV ho) (cC I.sz h)) (Nat.lt_irrefl _)
theorem Inv.l_ (I:Inv X pins σ H s):∀ x c,X.env.cells.lookup x=some c->c≠X.env.locals:=λx c e z=>by
 obtain⟨v,o,ho,hd⟩:=I.cell x c e;obtain⟨m,⟨o',es,ep,fc,KO,_⟩,_⟩:=I.loc;rw[z,fc] at ho;cases ho;rw[KO] at hd;cases hd
theorem Inv.ik (I:Inv X pins σ H s):s.heap.FunFrames X.base X.outer:=by
 have all:∀(l:List Env),(∀ b∈iM l,b∈X.fs)->X.dA.heap.FunFrames X.base l->s.heap.FunFrames X.base l:=by
  intro l
  induction l with
  |nil=>intro _ _;trivial
  |cons env r ih=>
   intro hs hl;obtain⟨hk,⟨L,o,hf,hn,ho,hd⟩,hr⟩:=hl;have hL:L∈X.fs:=hs L (by unfold iM;rw[filterMap_cons,hf];exact mem_cons_self);obtain⟨sl,e⟩:=I.base.slot L o ho (I.ok.l9 L hL) hL λz=>I.ok.pq L z hL;exact⟨hk,⟨L,_,hf,hn,e,hd⟩,ih (λb hb=>hs b (by unfold iM;rw[filterMap_cons,hf];exact mem_cons_of_mem _ hb)) hr⟩
 exact all X.outer (λ_ hb=>hb) I.ok.ik
theorem Inv.stack (I:Inv X pins σ H s):s.heap.FunFrames X.base X.stack:=by
 rcases I.ok.pj with e|⟨e,hf⟩
 ·rw[e];exact I.ik
 ·rw[e];obtain⟨m,hn,_⟩:=I.loc;refine .cons (by rw[I.ok.kind];decide) hf hn ?_ I.ik;exact Heap.get?_none_of_le (cC I.ok.jM I.ok.above)
theorem Inv.pw (I:Inv X pins σ H s):∀ b∈iM X.stack,b∈X.env.locals::X.fs:=λb hb=>by
 rcases I.ok.pj with e|⟨e,hf⟩
 ·rw[e] at hb;exact mem_cons_of_mem _ hb
 ·rw[e] at hb;unfold iM at hb;rw[filterMap_cons,hf] at hb;exact hb
theorem Inv.AV (I:Inv X pins σ H s):∀ b∈iM X.stack,H b=none:=λb hb=>by
 rcases mem_cons.mp (I.pw b hb) with e|hb
 ·rw[e];exact I.free
 ·obtain⟨_,o,ho,_⟩:=I.ok.ik.mem hb;exact I.base.free b o ho (I.ok.l9 b hb) λz=>I.ok.pq b z hb
theorem Inv.step {g':Array GenState}{t':Nat}{d':Drawn}{ch:List Addr}(I:Inv X pins σ H s)
  (jf:∀ b∈ch,(b∈X.ex\/X.dA.heap.objs.size<=b)/\b≠X.env.locals/\(∀ x c,X.env.cells.lookup x=some c->c≠b)/\∀ p∈X.pn++pins,p.1≠b)
  (keep:∀ b o,b≠X.env.locals->b∉X.fs->b∉ch->s.heap.get? b=some o->H b=none->h'.get? b=some o)
  (slot:∀ b o,b≠X.env.locals->b∈X.fs->b∉ch->s.heap.get? b=some o->H b=none->∃ sl,h'.get? b=some { o with slots:=sl })(free:∀ b o,b∉ch->s.heap.get? b=some o->H b=none->H' b=none)
  (there:∀ b o,b∉ch->s.heap.get? b=some o->∃ o',h'.get? b=some o')
  (jJ:∀ b xs,H b=some (.tup xs)->H' b=some (.tup xs))(iL:∀ b o u,H b=some (.aY o u)->H' b=some (.aY o u))(jK:∀ b ps,H b=some (.iJ ps)->∃ more,H' b=some (.iJ (ps++more)))
  (ns:∀ m,s.heap.Ns X.env.locals m->h'.Ns X.env.locals m)(aw:cD X.prog X.w H' h')(hg:AllBare g') :
  Inv X pins σ H' { s with heap:=h',gens:=g',drawn:=d',toks:=t' }:=by
 have AW:∀ b o,X.dA.heap.get? b=some o->b≠X.env.locals:=λb o e=>bN (c8 (aV e) I.ok.above)
 have rF:∀ b o,X.dA.heap.get? b=some o->b∉X.ex->b∉ch:=λb o e hx hb=>by
  rcases (jf b hb).1 with z|z
  ·exact hx z
  ·exact absurd (c8 (aV e) z) (Nat.lt_irrefl _)
 have cellK:∀ x c,X.env.cells.lookup x=some c->∀ v,s.heap.IsCell c v->h'.IsCell c v:=λx c e v ⟨o,ho,hd⟩=>by
  have pz:c∉ch:=λz=>(jf c z).2.2.1 x c e rfl;by_cases hc:c∈X.fs
  ·obtain⟨sl,q⟩:=slot c o (I.l_ x c e) hc pz ho (I.f7 x c e);exact⟨_,q,hd⟩
  ·exact⟨o,keep c o (I.l_ x c e) hc pz ho (I.f7 x c e),hd⟩
 refine⟨I.ok,I.os,hg,⟨λb o e n hb hx=>?_,λb o e n hb hx=>?_,λb o e n hx=>?_,λb o e hx=>?_,λb xs e=>jJ b xs (I.base.jJ b xs e),λb o xs e=>iL b o xs (I.base.iL b o xs e),λb ps e=>?_⟩,?_,λx c e=>?_,?_,λx c e=>?_,λp hp=>?_,aw,I.len⟩
 ·exact keep b o (AW b o e) hb (rF b o e hx) (I.base.keep b o e n hb hx) (I.base.free b o e n hx)
 ·obtain⟨sl,e1⟩:=I.base.slot b o e n hb hx;obtain⟨KP,e2⟩:=slot b _ (AW b o e) hb (rF b o e hx) e1 (I.base.free b o e n hx);exact⟨KP,e2⟩
 ·obtain⟨o',e1⟩:=I.base.there b o e hx;exact free b o' (rF b o e hx) e1 (I.base.free b o e n hx)
 ·obtain⟨o',e1⟩:=I.base.there b o e hx;exact there b o' (rF b o e hx) e1
 ·obtain⟨m1,e1⟩:=I.base.jK b ps e;obtain⟨m2,e2⟩:=jK b _ e1;exact⟨m1++m2,by rw[e2,Array.append_assoc]⟩
 ·obtain⟨m,hn,hl⟩:=I.loc;refine⟨m,ns m hn,λi x v e1 e2 e3=>?_⟩;obtain⟨u,r,l⟩:=hl i x v e1 e2 e3;refine⟨u,r,?_⟩;rcases l with l|⟨k,c,e,z⟩
  ·exact .inl l
  ·exact .inr ⟨k,c,e,cellK x c e _ z⟩
 ·obtain⟨v,z⟩:=I.cell x c e;exact⟨v,cellK x c e v z⟩
 ·obtain⟨m,⟨o,_,_,ho,_⟩,_⟩:=I.loc;exact free _ o (λz=>(jf _ z).2.1 rfl) ho I.free
 ·obtain⟨v,o,ho,hd⟩:=I.cell x c e;exact free c o (λz=>(jf c z).2.2.1 x c e rfl) ho (I.f7 x c e)
 ·obtain⟨e,n,ne,nf,d⟩:=I.pin p hp;have pz:p.1∉ch:=λz=>(jf p.1 z).2.2.2 p hp rfl;exact⟨keep p.1 p.2 ne nf pz e n,free p.1 p.2 pz e n,ne,nf,d⟩
theorem Inv.un {t':Nat}(I:Inv X pins σ H s)(u:Un X.fs [] H H' s.heap h')(aw:cD X.prog X.w H' h'):Inv X pins σ H' { s with heap:=h',toks:=t' }:=by
 obtain⟨m,⟨o,es,ep,ho,r⟩,_⟩:=id I.loc;obtain⟨sl,hL⟩:=u.any ho I.free (by simp)
 exact I.step (g':=s.gens) (d':=s.drawn) (ch:=[]) (λ_ z=>nomatch z) (λb o _ hb _ e n=>u.keep b o e n hb (by simp)) (λb o _ hb _ e n=>u.slot b o e n hb (by simp)) (λb o _ e n=>u.free b o e n (by simp)) (λb o _ e=>u.there b o e (by simp)) u.jJ u.iL u.jK (λm' hm=>by
  obtain⟨o',eP,rG,fc,r'⟩:=hm;rw[ho] at fc;cases fc
  exact⟨_,eP,rG,hL,r'⟩) aw I.bare
theorem Inv.call {g':Array GenState}{t':Nat}{d':Drawn}{ch:List Addr}(I:Inv X pins σ H s)(u:Un (iM X.stack) ch H H' s.heap h')(aw:cD X.prog X.w H' h')(hg:AllBare g')
  (jf:∀ b∈ch,(b∈X.ex\/X.dA.heap.objs.size<=b)/\b≠X.env.locals/\(∀ x c,X.env.cells.lookup x=some c->c≠b)/\∀ p∈X.pn++pins,p.1≠b) :
  Inv X pins σ H' { s with heap:=h',gens:=g',drawn:=d',toks:=t' }:=by
 obtain⟨m,⟨o,es,ep,ho,r⟩,_⟩:=id I.loc;obtain⟨sl,hL⟩:=u.any ho I.free λz=>(jf _ z).2.1 rfl
 exact I.step (ch:=ch) jf (λb o hL hb hc e n=>u.keep b o e n (λz=>(mem_cons.mp (I.pw b z)).elim hL hb) hc) (λb o _ _ hc e n=>u.any e n hc) (λb o hc e n=>u.free b o e n hc) (λb o hc e=>u.there b o e hc) u.jJ u.iL u.jK (λm' hm=>by
  obtain⟨o',eP,rG,fc,r'⟩:=hm;rw[ho] at fc;cases fc
  exact⟨_,eP,rG,hL,r'⟩) aw hg
theorem Inv.turned {t':Nat}{it:Addr}(I:Inv X pins σ H s)(k:∀ b o,b≠it->s.heap.get? b=some o->h'.get? b=some o)(hn:H it=none)(hL:it≠X.env.locals)
  (h1:it∈X.ex\/X.dA.heap.objs.size<=it)(h2:∀ x c,X.env.cells.lookup x=some c->c≠it)(h3:∀ p∈X.pn++pins,p.1≠it):Inv X pins σ H { s with heap:=h',toks:=t' }:=by
 have AX:∀ b u,H b=some u->b≠it:=λb u e z=>by rw[z,hn] at e;cases e
 refine I.step (g':=s.gens) (d':=s.drawn) (ch:=[it]) (λb hb=>?_) (λb o _ _ hc e _=>k b o (λz=>hc (by simp [z])) e) (λb o _ _ hc e _=>⟨o.slots,k b o (λz=>hc (by simp [z])) e⟩) (λ_ _ _ _ n=>n)
  (λb o hc e=>⟨o,k b o (λz=>hc (by simp [z])) e⟩) (λ_ _ e=>e) (λ_ _ _ e=>e) (λb ps e=>⟨#[],by rw[e];simp⟩) (λm hm=>?_) (λb u e=>?_) I.bare
 ·have e:b=it:=by simpa using hb
  subst e;exact⟨h1,hL,h2,h3⟩
 ·obtain⟨o,es,ep,ho,r⟩:=hm;exact⟨o,es,ep,k _ o (Ne.symm hL) ho,r⟩
 ·refine(I.aw b u e).iK (λc v hc q=>k c v ?_ q) (λ_ q=>q) λ_ _ q=>q;rcases hc with z|z
  ·rw[z];exact AX b u e
  ·exact AX c _ z
theorem Inv.tok (I:Inv X pins σ H s)(t:Nat):Inv X pins σ H { s with toks:=t }:=I.un (h':=s.heap) (t':=t) Un.refl I.aw
theorem Inv.kept {t':Nat}(I:Inv X pins σ H s)(k:∀ b u,s.heap.get? b=some u->h'.get? b=some u):Inv X pins σ H { s with heap:=h',toks:=t' }:=I.un (Un.kept k) (I.aw.kept k)
theorem Inv.laid {a:Addr}{o:HO}{t':Nat}(I:Inv X pins σ H s)(k:∀ b u,s.heap.get? b=some u->h'.get? b=some u)(hp:s.heap.objs.size<=a)(new:cR X.prog X.w (upd H a o) h' a o) :
  Inv X pins σ (upd H a o) { s with heap:=h',toks:=t' }:=I.un (Un.laid k hp (I.aw.fresh hp)) (I.aw.laid k hp new)
theorem Inv.write {x e:Addr}{o:HO}{t':Nat}(I:Inv X pins σ H s)(mu:pf (H x))(he:e=x\/H e=some (.own x))(k:∀ b u,b≠e->s.heap.get? b=some u->h'.get? b=some u)(nB:∃ u,h'.get? e=some u)
  (new:cR X.prog X.w (upd H x o) h' x o):Inv X pins σ (upd H x o) { s with heap:=h',toks:=t' }:=I.un (Un.write mu he k nB) (I.aw.write mu he k nB new)
theorem Inv.AY {AZ:aL}(I:Inv X pins σ H s)(h:∀ p∈AZ,s.heap.get? p.1=some p.2/\H p.1=none/\p.1≠X.env.locals/\p.1∉X.fs/\∀ v,p.2.data≠.cell v):Inv X AZ σ H s:=
 ⟨I.ok,I.os,I.bare,I.base,I.loc,I.cell,I.free,I.f7,λp hp=>(mem_append.mp hp).elim (λz=>I.pin p (mem_append_left _ z)) (h p),I.aw,I.len⟩
theorem A0 {N:ay}(hN:N.Nodup){i j:Nat}{x:Str}(a:N[i]?=some x)(b:N[j]?=some x):i=j:=by
 obtain⟨h1,e1⟩:=b8 a;obtain⟨h2,e2⟩:=b8 b;exact(getElem_inj hN).mp (e1.trans e2.symm)
theorem A5 {M:Model}{A:Around}{E:aU}{i:Nat}{x:Str}{v:V}{u:Value}{Q:Unit->Shared->Prop}(I:Inv X pins σ H s)(hN:X.N.Nodup)(hi:X.N[i]?=some x)(hx:Loc X.env.scope x)(r:RelV v u)
  (h:∀ s',Inv X pins (σ.set i (some v)) H s'->(∃ a,Heap.SameBut a s.heap s'.heap/\(a=X.env.locals\/X.env.cells.lookup x=some a))->Q () s')(hf:X.fn x=true\/X.env.scope.names.lookup x=some .local:=by first|exact .inl rfl|exact .inr rfl|assumption):wpAny M A (storeName X.env x u) Q E s:=by
 obtain⟨m,hn,hl⟩:=id I.loc;have KQ:(X.env.scope.kind==.class||(X.env.scope.kind==.module&&X.env.locals != X.env.globals))=false:=by rw[I.ok.kind];rfl
 have A6:i<σ.length:=c8 (b8 hi).1 I.len;have l_:=I.l_
 have tracked:∀{a:Addr}{h':Heap},(∃ o,s.heap.get? a=some o/\H a=none)->Heap.SameBut a s.heap h'->cD X.prog X.w H h':=λ{a h'} ha hs b ob e=>by
  obtain⟨_,_,rH⟩:=ha;refine(I.aw b ob e).iK (λc w' hc q=>(hs.2 c ?_).trans q) (λ_ q=>q) λ_ _ q=>q;rintro rfl;rcases hc with rfl|hc
  ·rw[rH] at e;cases e
  ·rw[rH] at hc;cases hc
 rcases hx with hk|hk
 ·refine wpAny_storeName_local hk hn (λh' f9 hs=>?_) KQ;obtain⟨oL,_,_,KR,_⟩:=id hn;refine h _ ⟨I.ok,I.os,I.bare,⟨λb o e n hb hx=>?_,λb o e n hb hx=>?_,I.base.free,λb o e hx=>?_,I.base.jJ,I.base.iL,I.base.jK⟩,⟨_,f9,λj y v' e1 e2 e3=>?_⟩,λy c e=>?_,I.free,I.f7,λp hp=>?_,tracked ⟨oL,KR,I.free⟩ hs,by simpa using I.len⟩ ⟨_,hs,.inl rfl⟩
  ·exact(hs.2 b (bN (c8 (aV e) I.ok.above))).trans (I.base.keep b o e n hb hx)
  ·obtain⟨sl,e1⟩:=I.base.slot b o e n hb hx;exact⟨sl,(hs.2 b (bN (c8 (aV e) I.ok.above))).trans e1⟩
  ·obtain⟨o',e1⟩:=I.base.there b o e hx;exact⟨o',(hs.2 b (bN (c8 (aV e) I.ok.above))).trans e1⟩
  ·by_cases hj:j=i
   ·subst hj;rw[hi] at e1;cases e1;rw[getElem?_set_self A6] at e2;cases e2;exact⟨u,r,.inl ⟨hk,by simp⟩⟩
   ·rw[getElem?_set_ne (Ne.symm hj)] at e2;obtain⟨u',r',q⟩:=hl j y v' e1 e2 e3;refine⟨u',r',?_⟩;rcases q with ⟨k,e⟩|⟨k,c,e,z⟩
    ·refine .inl ⟨k,?_⟩;have:y≠x:=λe=>hj (A0 hN e1 (e▸hi));simp [this,e]
    ·exact .inr ⟨k,c,e,z.sameBut hs (l_ y c e)⟩
  ·obtain⟨w',z⟩:=I.cell y c e;exact⟨w',z.sameBut hs (l_ y c e)⟩
  ·obtain⟨e,n,ne,nf,d⟩:=I.pin p hp;exact⟨(hs.2 p.1 ne).trans e,n,ne,nf,d⟩
 ·have vB:X.fn x=true:=by
   rcases hf with z|z
   ·exact z
   ·rw[z] at hk;cases hk
  obtain⟨c,hc⟩:=I.ok.has x (.inl hk);obtain⟨w',z⟩:=I.cell x c hc;refine wpAny_storeName_cell I.ok.kind hk hc z (λh' aM hs=>?_);obtain⟨oc,A7,KS⟩:=id z;refine h { s with heap:=h' } ⟨I.ok,I.os,I.bare,⟨λb o e n hb hx=>?_,λb o e n hb hx=>?_,I.base.free,λb o e hx=>?_,I.base.jJ,I.base.iL,I.base.jK⟩,⟨m,hn.sameBut hs (Ne.symm (l_ x c hc)),λj y v' e1 e2 e3=>?_⟩,λy c' e=>?_,I.free,I.f7,λp hp=>?_,tracked ⟨oc,A7,I.f7 x c hc⟩ hs,by simpa using I.len⟩ ⟨c,hs,.inr hc⟩
  ·exact(hs.2 b (bN (c8 (aV e) (I.ok.nC x c vB hc)))).trans (I.base.keep b o e n hb hx)
  ·obtain⟨sl,e1⟩:=I.base.slot b o e n hb hx;exact⟨sl,(hs.2 b (bN (c8 (aV e) (I.ok.nC x c vB hc)))).trans e1⟩
  ·obtain⟨o',e1⟩:=I.base.there b o e hx;exact⟨o',(hs.2 b (bN (c8 (aV e) (I.ok.nC x c vB hc)))).trans e1⟩
  ·by_cases hj:j=i
   ·subst hj;rw[hi] at e1;cases e1;rw[getElem?_set_self A6] at e2;cases e2;exact⟨u,r,.inr ⟨.inl hk,c,hc,aM⟩⟩
   ·rw[getElem?_set_ne (Ne.symm hj)] at e2;obtain⟨u',r',q⟩:=hl j y v' e1 e2 e3;refine⟨u',r',?_⟩;rcases q with q|⟨k,c',e,z'⟩
    ·exact .inl q
    ·refine .inr ⟨k,c',e,z'.sameBut hs ?_⟩;rintro rfl;exact hj (A0 hN e1 (I.ok.inj _ _ _ e hc▸hi))
  ·by_cases A8:c'=c
   ·subst A8;exact⟨_,aM⟩
   ·obtain⟨w2,z2⟩:=I.cell y c' e;exact⟨w2,z2.sameBut hs A8⟩
  ·obtain⟨e,n,ne,nf,d⟩:=I.pin p hp;refine⟨(hs.2 p.1 ?_).trans e,n,ne,nf,d⟩;intro q;rw[q,A7] at e;have q':oc=p.2:=Option.some.inj e;exact d w' (by rw[<- q'];exact KS)
theorem A9 {M:Model}{A:Around}{E:aU}{i:Nat}{x:Str}{v:V}{u:Value}{Q:Unit->Shared->Prop}(I:Inv X pins σ H s)(hN:X.N.Nodup)(hi:X.N[i]?=some x)(hx:Loc X.env.scope x)(r:RelV v u)
  (h:∀ s',Inv X pins (σ.set i (some v)) H s'->Q () s')(hf:X.fn x=true\/X.env.scope.names.lookup x=some .local:=by first|exact .inl rfl|exact .inr rfl|assumption):wpAny M A (storeName X.env x u) Q E s:=
 A5 I hN hi hx r (λs' I' _=>h s' I') hf
theorem Inv.KU {s':Shared}{ch:List Addr}(I:Inv X pins σ H s)(ho:s'.os=s.os)(u:Un (iM X.stack) ch H H' s.heap s'.heap)(aw:cD X.prog X.w H' s'.heap)(hg:AllBare s'.gens)
  (jf:∀ b∈ch,(b∈X.ex\/X.dA.heap.objs.size<=b)/\b≠X.env.locals/\(∀ x c,X.env.cells.lookup x=some c->c≠b)/\∀ p∈X.pn++pins,p.1≠b):Inv X pins σ H' s':=by
 obtain⟨h',g',d',t',o'⟩:=s';have e:o'=s.os:=ho;subst e;exact I.call (g':=g') (t':=t') (d':=d') u aw hg jf
end
abbrev XK:=Value->Option Addr->Hp->Prop
abbrev St:=List (Option V)
abbrev VK:=V->Hp->Prop
abbrev TE:=St->Hp->VK->Prop
abbrev TT:=St->Hp->(Bool->Hp->Prop)->Prop
abbrev TA:=St->Hp->(Zv->Hp->Prop)->Prop
structure Ends where
 nx:St->Hp->Prop
 rt:VK
 bk:St->Hp->Prop:=λ_ _=>False
 ct:St->Hp->Prop:=λ_ _=>False
abbrev TS:=Ends->St->Hp->Prop
def EP (X:Cx)(pins:aL)(σ:St)(Q:VK)(u:Value)(s':Shared):Prop:=∃ v H',Inv X pins σ H' s'/\RelV v u/\Q v H'
def TP (X:Cx)(pins:aL)(σ:St)(Q:Bool->Hp->Prop)(b:Bool)(s':Shared):Prop:=∃ H',Inv X pins σ H' s'/\Q b H'
def AP (X:Cx)(pins:aL)(σ:St)(Q:Zv->Hp->Prop)(us:aR)(s':Shared):Prop:=∃ vs H',Inv X pins σ H' s'/\Vals vs us/\Q vs H'
def SP (X:Cx)(pins:aL)(D:Ends)(f:Flow)(s':Shared):Prop:=
 match f with
 |.next=>∃ aJ H',Inv X pins aJ H' s'/\D.nx aJ H'
 |.brk=>∃ aJ H',Inv X pins aJ H' s'/\D.bk aJ H'
 |.cont=>∃ aJ H',Inv X pins aJ H' s'/\D.ct aJ H'
 |.ret u=>∃ v aJ H',Inv X pins aJ H' s'/\RelV v u/\D.rt v H'
def PE (X:Cx)(e:Expr)(t:TE):Prop:=
 ∀(pins:aL)(s:Shared)(σ:St)(H:Hp)(Q:VK),Inv X pins σ H s->t σ H Q->wpAny (model X.prog X.w) X.A (eval e X.env) (EP X pins σ Q) X.xe s
def PT (X:Cx)(e:Expr)(t:TT):Prop:=
 ∀(pins:aL)(s:Shared)(σ:St)(H:Hp)(Q:Bool->Hp->Prop),Inv X pins σ H s->t σ H Q->wpAny (model X.prog X.w) X.A (isTrue e X.env (eval e X.env)) (TP X pins σ Q) X.xe s
def PW (X:Cx)(e:Expr)(t:TT):Prop:=
 ∀(whole:Sem Value)(pins:aL)(s:Shared)(σ:St)(H:Hp)(Q:Bool->Hp->Prop),Inv X pins σ H s->t σ H Q->wpAny (model X.prog X.w) X.A (isTrue e X.env whole) (TP X pins σ Q) X.xe s
theorem PW.pt {X:Cx}{e:Expr}{t:TT}(h:PW X e t):PT X e t:=h _
def PA (X:Cx)(es:List Expr)(t:TA):Prop:=
 ∀(pos:Pos)(pins:aL)(s:Shared)(σ:St)(H:Hp)(Q:Zv->Hp->Prop),Inv X pins σ H s->t σ H Q->wpAny (model X.prog X.w) X.A (spliced (backTo pos (starEach es X.env))) (AP X pins σ Q) X.xe s
def PS (X:Cx)(st:Stmt)(t:TS):Prop:=
 ∀(pins:aL)(s:Shared)(σ:St)(H:Hp)(D:Ends),Inv X pins σ H s->t D σ H->wpAny (model X.prog X.w) X.A (exec st X.env) (SP X pins D) X.xe s
def cn (X:Cx)(st:List Stmt)(t:TS):Prop:=
 ∀(pins:aL)(s:Shared)(σ:St)(H:Hp)(D:Ends),Inv X pins σ H s->t D σ H->wpAny (model X.prog X.w) X.A (execs st X.env) (SP X pins D) X.xe s
theorem aH {α:Type}{t:Sem α}{Q Q':α->Shared->Prop}{M:Model}{A:Around}{E:aU}{s:Shared}(h:wpAny M A t Q E s)(hQ:∀ a s,Q a s->Q' a s):wpAny M A t Q' E s:=wpAny_mono h hQ λ_ _ x=>x
section
variable {X:Cx}
theorem bin {a b:Expr}{ta tb:TE}(ha:PE X a ta)(hb:PE X b tb){pins:aL}{s:Shared}{σ:St}{H:Hp}{R:V->V->Hp->Prop}(I:Inv X pins σ H s)(h:ta σ H λx H1=>tb σ H1 λy H2=>R x y H2)
  {α:Type}{Q:α->Shared->Prop}{f:Value->Value->Sem α}
  (hf:∀ v u s2 x y H2,Inv X pins σ H2 s2->RelV x v->RelV y u->R x y H2->wpAny (model X.prog X.w) X.A (f v u) Q X.xe s2) :
  wpAny (model X.prog X.w) X.A (eval a X.env) (λv bq=>wpAny (model X.prog X.w) X.A (eval b X.env) (λu fA=>wpAny (model X.prog X.w) X.A (f v u) Q X.xe fA) X.xe bq) X.xe s:=by
 refine aH (ha pins s σ H _ I h) λv s1 ⟨x,H1,I1,r1,q1⟩=>?_;refine aH (hb pins s1 σ H1 _ I1 q1) λu s2 ⟨y,H2,I2,r2,q2⟩=>?_;exact hf v u s2 x y H2 I2 r1 r2 q2
def vC (i:Nat):TE:=λσ H Q=>∃ v,σ[i]?=some (some v)/\Q v H
def tC (v:V):TE:=λ_ H Q=>Q v H
theorem dO {i:Nat}{x:Str}{pos:Pos}(hN:X.N[i]?=some x)(hv:di X.env.scope x)(hd:(x==("__debug__":Str))=false:=by decide)(bA:(x==("__classdict__":Str))=false:=by decide):PE X (.Name x pos) (vC i):=by
 intro pins s σ H Q I h;obtain⟨v,e,h⟩:=h;obtain⟨m,hn,hl⟩:=I.loc;obtain⟨u,r,l⟩:=hl i x v hN e hv;have fin:EP X pins σ Q u s:=⟨v,H,I,r,h⟩;rcases l with ⟨hk,hm⟩|⟨hk,c,hc,A_⟩
 ·exact wpAny_Name (wpAny_loadName_local I.ok.kind hk hn hm fin) hd
 ·rcases hk with hk|hk
  ·exact wpAny_Name (wpAny_loadName_cell I.ok.kind hk hc A_ fin) hd
  ·exact wpAny_Name (wpAny_loadName_free I.ok.kind hk hc A_ fin bA) hd
theorem cJ {i j pos}:PE X (.Constant (.int i) j pos) (tC (.int i)):=λ_ _ _ H _ I h=>wpAny_Constant_int ⟨.int i,H,I.tok _,⟨_,rfl⟩,h⟩
theorem KW {b j pos}:PE X (.Constant (.bool b) j pos) (tC (.bl b)):=λ_ _ _ H _ I h=>Constant_bool ⟨.bl b,H,I,rfl,h⟩
theorem KY {j pos}:PE X (.Constant .none j pos) (tC .ai):=λ_ _ _ H _ I h=>Constant_none ⟨.ai,H,I,rfl,h⟩
theorem cy {x j pos}:PE X (.Constant (.str x) j pos) (tC (.str x)):=λ_ _ _ H _ I h=>Calls.Constant_str ⟨.str x,H,I.tok _,⟨_,rfl⟩,h⟩
def Gl (X:Cx)(x:Str):Prop:=X.env.kindOf x=some .globalImplicit
theorem Ba {E:aU}{pins:aL}{s:Shared}{σ:St}{H:Hp}{x:Str}{u:Value}{pos:Pos}{Q:aU}(I:Inv X pins σ H s)(hg:Gl X x)(hm:X.mg x=some u)(h:Q u s)
  (hd:(x==("__debug__":Str))=false:=by decide):wpAny (model X.prog X.w) X.A (eval (.Name x pos) X.env) Q E s:=
 Calls.Name_function_global I.ok.kind hg (Calls.loadGlobal_global (by rw[I.ok.glob];exact I.mod.glob.keeps I.bk) hm h) hd
theorem kK {E:aU}{pins:aL}{s:Shared}{σ:St}{H:Hp}{x:Str}{u:Value}{pos:Pos}{Q:aU}(I:Inv X pins σ H s)(hg:Gl X x)(hm:X.mg x=none)(hv:bootBuiltins x=some u)(h:Q u s)
  (hn:x≠"__name__":=by decide)(hd:(x==("__debug__":Str))=false:=by decide):wpAny (model X.prog X.w) X.A (eval (.Name x pos) X.env) Q E s:=by
 obtain⟨mb,h1,h2⟩:=I.mod.blt;exact Calls.Name_function_global I.ok.kind hg (Calls.loadGlobal_builtin (by rw[I.ok.glob];exact I.mod.glob.keeps I.bk) hm (by rw[I.ok.blt];exact h1.keeps I.bk) ((h2 x hn).trans hv) h) hd
theorem KZ {x:Str}{v:V}{u:Value}{pos:Pos}(hg:Gl X x)(hm:X.mg x=some u)(r:RelV v u)(hd:(x==("__debug__":Str))=false:=by decide):PE X (.Name x pos) (tC v):=
 λ_ _ _ H _ I h=>Ba I hg hm ⟨v,H,I,r,h⟩ hd
theorem K0 {x:Str}{v:V}{u:Value}{pos:Pos}(hg:Gl X x)(hm:X.mg x=none)(hv:bootBuiltins x=some u)(r:RelV v u)(hn:x≠"__name__":=by decide)(hd:(x==("__debug__":Str))=false:=by decide):PE X (.Name x pos) (tC v):=
 λ_ _ _ H _ I h=>kK I hg hm hv ⟨v,H,I,r,h⟩ hn hd
variable {a b:Expr}{ta tb:TE}{pos:Pos}
def PC (X:Cx)(op:CmpOp)(a b:Expr)(t:TE):Prop:=
 ∀(pins:aL)(s:Shared)(σ:St)(H:Hp)(Q:VK),Inv X pins σ H s->t σ H Q ->
  wpAny (model X.prog X.w) X.A (eval a X.env) (λv bq=>wpAny (model X.prog X.w) X.A (eval b X.env) (λu fA=>wpAny (model X.prog X.w) X.A (compareOp op v u) (EP X pins σ Q) X.xe fA) X.xe bq) X.xe s
theorem K1 (b:Expr){op:CmpOp}(h:op≠.In)(h2:op≠.NotIn):behindInMarks op b=false:=by
 have e1:(op==CmpOp.In)=false:=by cases op<;>first|rfl|exact absurd rfl h
 have e2:(op==CmpOp.NotIn)=false:=by cases op<;>first|rfl|exact absurd rfl h2
 cases b<;>simp [behindInMarks,e1,e2]
def tB (t:TE):TT:=λσ H Q=>t σ H λx H1=>∃ c,x=.bl c/\Q c H1
theorem Bb {op:CmpOp}{t:TE}(h:PC X op a b t)(h1:behindInMarks op b=false:=by first|exact K1 _ (by decide) (by decide)|rfl):PT X (.Compare a [op] [b] pos) (tB t):=by
 intro pins s σ H Q I hw;refine wpAny_isTrue_Compare1 (aH (h pins s σ H _ I hw) λv s1 h1=>aH h1 λu s2 h2=>aH h2 λc s3 ⟨x,H1,I1,r1,q1⟩=>?_) h1;obtain⟨d,rfl,q⟩:=q1;cases r1;exact wpAny_truthy_bool ⟨H1,I1,q⟩
variable {tA rJ:TT}{rest:List Expr}
def K2 (t u:TT):TT:=λσ H Q=>t σ H λc H1=>if c=true then u σ H1 Q else Q false H1
def K3 (t u:TT):TT:=λσ H Q=>t σ H λc H1=>if c=true then Q true H1 else u σ H1 Q
def K4 (t:TT):TT:=λσ H Q=>t σ H λc H1=>Q (!c) H1
theorem Bc (ha:PT X a tA):PW X (.BoolOp .And [a] pos) tA:=by
 intro wh pins s σ H Q I h;refine isTrue_and (aH (ha pins s σ H Q I h) λc s1 e=>?_)
 cases c with
 |true=>exact isTrue_and_nil e
 |false=>exact e
theorem K5 (ha:PT X a tA):PW X (.BoolOp .Or [a] pos) tA:=by
 intro wh pins s σ H Q I h;refine isTrue_or (aH (ha pins s σ H Q I h) λc s1 e=>?_)
 cases c with
 |false=>exact isTrue_or_nil e
 |true=>exact e
theorem Bd (ha:PT X a tA)(hb:PW X (.BoolOp .And (b::rest) pos) rJ):PW X (.BoolOp .And (a::b::rest) pos) (K2 tA rJ):=by
 intro wh pins s σ H Q I h;refine isTrue_and (aH (ha pins s σ H _ I h) λc s1 ⟨H1,I1,q1⟩=>?_)
 cases c with
 |true=>exact hb wh pins s1 σ H1 Q I1 q1
 |false=>exact⟨H1,I1,q1⟩
theorem K6 (ha:PT X a tA)(hb:PW X (.BoolOp .Or (b::rest) pos) rJ):PW X (.BoolOp .Or (a::b::rest) pos) (K3 tA rJ):=by
 intro wh pins s σ H Q I h;refine isTrue_or (aH (ha pins s σ H _ I h) λc s1 ⟨H1,I1,q1⟩=>?_)
 cases c with
 |true=>exact⟨H1,I1,q1⟩
 |false=>exact hb wh pins s1 σ H1 Q I1 q1
theorem K7 (ha:PT X a tA):PT X (.UnaryOp .Not a pos) (K4 tA):=by
 intro pins s σ H Q I h;exact isTrue_not (ha pins s σ H (λc H1=>Q (!c) H1) I h)
def K8 (ta tb:TE):TE:=λσ H Q=>ta σ H λx H1=>∃ c,x=.bl c/\if c=true then tb σ H1 Q else Q (.bl false) H1
def K9 (ta:TE):TE:=λσ H Q=>ta σ H λx H1=>∃ c,x=.bl c/\Q (.bl (!c)) H1
theorem K_ {op}{t:TE}(h:PE X a t):PE X (.BoolOp op [a] pos) t:=λpins s σ H Q I hw=>BoolOp_one (h pins s σ H Q I hw)
theorem K' (ha:PE X a ta)(hb:PE X (.BoolOp .And (b::rest) pos) tb):PE X (.BoolOp .And (a::b::rest) pos) (K8 ta tb):=by
 intro pins s σ H Q I h;refine BoolOp_and (aH (ha pins s σ H _ I h) λv s1 ⟨x,H1,I1,r1,q1⟩=>?_);obtain⟨c,rfl,q1⟩:=q1;cases r1;refine wpAny_truthy_bool ?_
 cases c with
 |true=>exact hb pins s1 σ H1 Q I1 q1
 |false=>exact⟨.bl false,H1,I1,rfl,q1⟩
theorem La (ha:PE X a ta):PE X (.UnaryOp .Not a pos) (K9 ta):=by
 intro pins s σ H Q I h;refine UnaryOp_ (aH (ha pins s σ H _ I h) λv s1 ⟨x,H1,I1,r1,q1⟩=>?_);obtain⟨c,rfl,q1⟩:=q1;cases r1;exact not_of (wpAny_truthy_bool ⟨.bl (!c),H1,I1,rfl,q1⟩)
end
def aC (K:Frag)(H:Hp)(a:Addr)(xs:Zv):Prop:=
 Rd H a (.lst xs) \/
  ∃(o:Obj)(its:Array Value)(n:Nat),K.lookup a=some o/\o.cls=.type "list"/\o.dict=none/\o.data=.seq its n/\its.size<=sizeLine/\Vals xs its.toList
def aS (K:Frag)(H:Hp)(a:Addr)(xs:Zv):Prop:=
 Rd H a (.tup xs) \/
  ∃(o:Obj)(its:Array Value)(n:Nat),K.lookup a=some o/\o.cls=.type "tuple"/\o.data=.seq its n/\its.size<=sizeLine/\Vals xs its.toList
noncomputable def Lb:Value->Option V
 |.none=>some .ai
 |.bool b=>some (.bl b)
 |.int i _=>some (.int i)
 |.str x _=>some (.str x)
 |.bytes b _=>some (.gD b)
 |.float b _=>some (.nA b)
 |.ref a=>some (.ref a)
 |.type n=>some (.ty n)
 |_=>none
theorem RelV.abs {x:V}{u:Value}(r:RelV x u):Lb u=some x:=by
 cases x with
 |ai=>cases r;rfl
 |bl _=>cases r;rfl
 |int _=>obtain⟨t,rfl⟩:=r;rfl
 |str _=>obtain⟨t,rfl⟩:=r;rfl
 |gD _=>obtain⟨t,rfl⟩:=r;rfl
 |nA _=>obtain⟨t,rfl⟩:=r;rfl
 |ref _=>cases r;rfl
 |ty _=>cases r;rfl
theorem RelV.inj {x y:V}{u:Value}(r:RelV x u)(q:RelV y u):x=y:=Option.some.inj (r.abs.symm.trans q.abs)
theorem Vals.inj:∀{xs ys:Zv}{us:aR},Vals xs us->Vals ys us->xs=ys
 |_,_,_,.nil,.nil=>rfl
 |_,_,_,.cons r t,.cons r' t'=>by rw[r.inj r',Vals.inj t t']
section
variable {X:Cx}{pins:aL}{σ:St}{H:Hp}{s:Shared}{a:Addr}{xs ys:Zv}
theorem aC.of {K:Frag}(h:H a=some (.lst xs)):aC K H a xs:=.inl (.inl h)
theorem aS.of {K:Frag}(h:H a=some (.tup xs)):aS K H a xs:=.inl (.inl h)
theorem Inv.list (I:Inv X pins σ H s)(h:aC X.K H a xs):∃ its:aR,Vals xs its/\PlainL s.heap a its.toArray/\xs.length<=sizeLine:=by
 rcases h with h|⟨o,its,n,hk,hc,hd,hs,hz,r⟩
 ·obtain⟨z,its,n,r,e⟩:=h.ok I.aw;exact⟨its,r,⟨_,n,e,rfl,rfl,rfl⟩,z⟩
 ·refine⟨its.toList,r,⟨o,n,I.eh a o hk,hc,hd,by simpa using hs⟩,?_⟩;have e:=r.length;simp only[Array.length_toList] at e;omega
theorem Inv.tuple (I:Inv X pins σ H s)(h:aS X.K H a xs):∃ its:aR,Vals xs its/\IsTup s.heap a its.toArray/\xs.length<=sizeLine:=by
 rcases h with h|⟨o,its,n,hk,hc,hs,hz,r⟩
 ·obtain⟨z,its,r,p⟩:=h.ok I.aw;exact⟨its,r,p,z⟩
 ·refine⟨its.toList,r,⟨o,I.eh a o hk,hc,n,by simpa using hs⟩,?_⟩;have e:=r.length;simp only[Array.length_toList] at e;omega
theorem Inv.rK (I:Inv X pins σ H s)(h:aC X.K H a xs)(h':aC X.K H a ys):xs=ys:=by
 obtain⟨its,r,⟨o,n,e,_,_,d⟩,_⟩:=I.list h;obtain⟨its',r',⟨o',n',e',_,_,d'⟩,_⟩:=I.list h';rw[e] at e';cases e';rw[d] at d';injection d' with d1 _
 have:its=its':=by simpa using congrArg Array.toList d1
 subst this;exact r.inj r'
theorem Inv.pA (I:Inv X pins σ H s)(h:aS X.K H a xs)(h':aS X.K H a ys):xs=ys:=by
 obtain⟨its,r,⟨o,e,_,n,d⟩,_⟩:=I.tuple h;obtain⟨its',r',⟨o',e',_,n',d'⟩,_⟩:=I.tuple h';rw[e] at e';cases e';rw[d] at d';injection d' with d1 _
 have:its=its':=by simpa using congrArg Array.toList d1
 subst this;exact r.inj r'
end
noncomputable abbrev Cx.jg (X:Cx)(E:aU):Cx:={ X with xe:=E }
noncomputable abbrev Cx.jh (X:Cx):Cx:=X.jg λ_ _=>False
theorem Cx.Ok.jg {X:Cx}(ok:X.Ok)(E:aU):(X.jg E).Ok:=
 ⟨ok.mod,ok.kind,ok.glob,ok.blt,ok.above,ok.inj,ok.has,ok.nC,ok.hd,ok.frames,ok.pj,ok.vA,ok.bs,ok.jM,ok.nD,ok.pq,ok.ik,ok.l9⟩
theorem Cx.Ok.kL {X:Cx}{E:aU}(ok:(X.jg E).Ok):X.Ok:=
 ⟨ok.mod,ok.kind,ok.glob,ok.blt,ok.above,ok.inj,ok.has,ok.nC,ok.hd,ok.frames,ok.pj,ok.vA,ok.bs,ok.jM,ok.nD,ok.pq,ok.ik,ok.l9⟩
section
variable {X:Cx}{pins:aL}{σ:St}{H:Hp}{s:Shared}{E:aU}
theorem Inv.jg (I:Inv X pins σ H s)(E:aU):Inv (X.jg E) pins σ H s:=⟨I.ok.jg E,I.os,I.bare,I.base,I.loc,I.cell,I.free,I.f7,I.pin,I.aw,I.len⟩
theorem Inv.kL (I:Inv (X.jg E) pins σ H s):Inv X pins σ H s:=⟨I.ok.kL,I.os,I.bare,I.base,I.loc,I.cell,I.free,I.f7,I.pin,I.aw,I.len⟩
theorem SP.kL {D:Ends}{f:Flow}{s':Shared}(h:SP (X.jg E) pins D f s'):SP X pins D f s':=by
 cases f with
 |next=>obtain⟨aJ,H',I,q⟩:=h;exact⟨aJ,H',I.kL,q⟩
 |brk=>obtain⟨aJ,H',I,q⟩:=h;exact⟨aJ,H',I.kL,q⟩
 |cont=>obtain⟨aJ,H',I,q⟩:=h;exact⟨aJ,H',I.kL,q⟩
 |ret u=>obtain⟨v,aJ,H',I,r,q⟩:=h;exact⟨v,aJ,H',I.kL,r,q⟩
theorem cn.jh {st:List Stmt}{t:TS}(h:cn X.jh st t):cn X st t:=λpins s σ H D I hw=>
 wpAny_mono (h pins s σ H D (I.jg _) hw) (λ_ _ q=>q.kL) λ_ _ z=>False.elim z
end
section
variable {X:Cx}{st:Stmt}{rest:List Stmt}{t u:TS}{e:Expr}{te:TE}{pos:Pos}
def Lc:TS:=λD σ H=>D.nx σ H
def Le (t u:TS):TS:=λD σ H=>t { D with nx:=u D } σ H
theorem rL:cn X [] Lc:=λ_ _ σ H _ I h=>wpAny_execs_nil ⟨σ,H,I,h⟩
theorem dP (h1:PS X st t)(h2:cn X rest u):cn X (st::rest) (Le t u):=by
 intro pins s σ H D I h;refine wpAny_execs_cons (aH (h1 pins s σ H { D with nx:=u D } I h) λf s1 q=>?_)
 cases f with
 |next=>
  obtain⟨aJ,H',I',q⟩:=q;exact h2 pins s1 aJ H' D I' q
 |ret v=>exact q
 |brk=>exact q
 |cont=>exact q
theorem ji (h1:PS X st t):cn X [st] t:=by
 intro pins s σ H D I h;refine wpAny_execs_cons (aH (h1 pins s σ H D I h) λf s1 q=>?_)
 cases f with
 |next=>exact wpAny_execs_nil q
 |ret v=>exact q
 |brk=>exact q
 |cont=>exact q
theorem Inv.quiet {pins:aL}{σ:St}{H:Hp}{s:Shared}(I:Inv X pins σ H s):interactive X.env=false:=by simp [interactive,I.ok.kind]
def Lf (te:TE):TS:=λD σ H=>te σ H λ_ H1=>D.nx σ H1
theorem Bf (he:PE X e te)(hs:swapsWith e none pos.line X.env=pure false:=by rfl):PS X (.Expr e pos) (Lf te):=by
 intro pins s σ H D I h;exact wpAny_Expr_any (aH (he pins s σ H _ I h) λv s1 ⟨x,H1,I1,r1,q1⟩=>⟨σ,H1,I1,q1⟩) I.quiet hs
def Lg (te:TE):TS:=λD σ H=>te σ H D.rt
theorem kM (he:PE X e te):PS X (.Return (some e) pos) (Lg te):=by
 intro pins s σ H D I h;exact wpAny_Return_some (aH (he pins s σ H _ I h) λv s1 ⟨x,H1,I1,r1,q1⟩=>⟨x,σ,H1,I1,r1,q1⟩)
def Lh (c:TT)(t u:TS):TS:=λD σ H=>c σ H λb H1=>if b=true then t D σ H1 else u D σ H1
theorem rM {c:Expr}{a b:List Stmt}{tc:TT}(hc:PT X c tc)(ha:cn X a t)(hb:cn X b u):PS X (.If c a b pos) (Lh tc t u):=by
 intro pins s σ H D I h;refine wpAny_If (aH (hc pins s σ H _ I h) λd s1 ⟨H1,I1,q1⟩=>?_)
 cases d with
 |true=>exact ha pins s1 σ H1 D I1 q1
 |false=>exact hb pins s1 σ H1 D I1 q1
end
abbrev TG:=V->St->Hp->(St->Hp->Prop)->Prop
abbrev jN:=Zv->St->Hp->(St->Hp->Prop)->Prop
def PG (X:Cx)(target:Expr)(t:TG):Prop:=
 ∀(pins:aL)(s:Shared)(σ:St)(H:Hp)(v:V)(u:Value)(Q:St->Hp->Prop),Inv X pins σ H s->RelV v u->t v σ H Q ->
  wpAny (model X.prog X.w) X.A (assign target X.env u) (λ_ s'=>∃ aJ H',Inv X pins aJ H' s'/\Q aJ H') X.xe s
def iN (X:Cx)(ts:List Expr)(t:jN):Prop:=
 ∀(pins:aL)(s:Shared)(σ:St)(H:Hp)(vs:Zv)(us:aR)(Q:St->Hp->Prop),Inv X pins σ H s->Vals vs us->t vs σ H Q ->
  wpAny (model X.prog X.w) X.A (assignInOrder ((assignEach ts X.env).map (·.2)) us) (λ_ s'=>∃ aJ H',Inv X pins aJ H' s'/\Q aJ H') X.xe s
abbrev vD:=V->V->V->Hp->(Hp->Prop)->Prop
def Bg (X:Cx)(t:vD):Prop:=
 ∀(pins:aL)(s:Shared)(σ:St)(H:Hp)(o i v:V)(ov iv u:Value)(Q:Hp->Prop),Inv X pins σ H s->RelV o ov->RelV i iv->RelV v u->t o i v H Q ->
  wpAny (model X.prog X.w) X.A (setItem ov iv u) (λ_ s'=>∃ H',Inv X pins σ H' s'/\Q H') X.xe s
section
variable {X:Cx}{pos:Pos}
def Bh (i:Nat):TG:=λv σ H Q=>Q (σ.set i (some v)) H
theorem Bi {i:Nat}{x:Str}(hN:X.N.Nodup)(hi:X.N[i]?=some x)(hx:Loc X.env.scope x)(hf:X.fn x=true\/X.env.scope.names.lookup x=some .local:=by first|exact .inl rfl|exact .inr rfl|assumption):PG X (.Name x pos) (Bh i):=by
 intro pins s σ H v u Q I r h;exact wpAny_assign_Name (A9 I hN hi hx r (λs' I'=>⟨_,H,I',h⟩) hf)
def Li:jN:=λvs σ H Q=>vs=[]/\Q σ H
def Lj (t:TG)(u:jN):jN:=λvs σ H Q=>∃ v r,vs=v::r/\t v σ H λaJ H'=>u r aJ H' Q
theorem Lk:iN X [] Li:=by
 intro pins s σ H vs us Q I r h;obtain⟨e,h⟩:=h;subst e;cases r;exact assignInOrder_nil ⟨σ,H,I,h⟩
theorem Ll {e:Expr}{es:List Expr}{t:TG}{u:jN}(h1:PG X e t)(h2:iN X es u)
  (hs:(assignEach (e::es) X.env).map (·.2)=assign e X.env::(assignEach es X.env).map (·.2):=by rfl):iN X (e::es) (Lj t u):=by
 intro pins s σ H vs us Q I r h;obtain⟨v,vr,e1,h⟩:=h;subst e1
 cases r with
 |cons r rr=>
  rw[hs];refine assignInOrder_cons (aH (h1 pins s σ H _ _ _ I r h) λ_ s1 ⟨a7,H1,I1,q1⟩=>?_);exact h2 pins s1 a7 H1 _ _ Q I1 rr q1
def Lm (K:Frag)(n:Nat)(t:jN):TG:=λv σ H Q=>∃ a xs,v=.ref a/\aS K H a xs/\xs.length=n/\t xs σ H Q
theorem Ln {es:List Expr}{k:Nat}{t:jN}{n:Nat}(hc:X.calm=true)(h:iN X es t)
  (hn:(assignEach es X.env).length=n:=by rfl)(c9:(assignEach es X.env).findIdx? (·.1)=none:=by rfl):PG X (.Tuple es k pos) (Lm X.K n t):=by
 intro pins s σ H v u Q I r hw;obtain⟨a,xs,e1,hq,hl,hw⟩:=hw;subst e1;cases r;obtain⟨its,rv,ht,hz⟩:=I.tuple hq;refine assign_Tuple_tuple (I.ok.hd hc) ht (by simp [hn,<- hl,rv.length]) c9 λh' hx=>?_;have I1:Inv X pins σ H { s with heap:=h' }:=I.kept (t':=s.toks) λb o e=>hx b o (bN (aV e)) e;exact h pins _ σ H xs _ Q I1 (by simpa using rv) hw
def Lo (to ti:TE)(t:vD):TG:=λv σ H Q=>to σ H λo H1=>ti σ H1 λi H2=>t o i v H2 λH3=>Q σ H3
theorem Lp {o i:Expr}{to ti:TE}{t:vD}(ho:PE X o to)(hi:PE X i ti)(hs:Bg X t)
  (ha:∀ v,assign (.Subscript o i pos) X.env v=(do
   let ov <- holding [v] (eval o X.env)
   let iv <- holding [v,ov] (eval i X.env)
   standAt pos
   holding [v,ov,iv] (setItem ov iv v)
   release [v,ov,iv] []):=by intro _;rfl):PG X (.Subscript o i pos) (Lo to ti t):=by
 intro pins s σ H v u Q I r h;rw[ha];refine aj (wpAny_holding (aH (ho pins s σ H _ I h) λov s1 ⟨x,H1,I1,r1,q1⟩=>?_));refine aj (wpAny_holding (aH (hi pins s1 σ H1 _ I1 q1) λiv s2 ⟨y,H2,I2,r2,q2⟩=>?_));refine aj (wpAny_standAt (aj (wpAny_holding (aH (hs pins s2 σ H2 x y v ov iv u _ I2 r1 r2 r q2) λ_ s3 ⟨H3,I3,q3⟩=>?_))));exact wpAny_release ⟨σ,H3,I3,q3⟩
def Bj (te:TE)(g:TG):TS:=λD σ H=>te σ H λx H1=>g x σ H1 D.nx
theorem Lq {tg e:Expr}{te:TE}{g:TG}(he:PE X e te)(hg:PG X tg g)(hs:swapsWithSole [tg] e pos.line X.env=pure false:=by rfl)(hw:swappedStores [tg] e X.env=pure none:=by rfl)
  (h1:(assignEach [tg] X.env).map (·.2)=[assign tg X.env]:=by rfl):PS X (.Assign [tg] e pos) (Bj te g):=by
 intro pins s σ H D I h;refine wpAny_Assign_stores (aH (he pins s σ H _ I h) λv s1 ⟨x,H1,I1,r1,q1⟩=>?_) hs hw;rw[h1];exact aH (hg pins s1 σ H1 x v _ I1 r1 q1) λ_ s2 q=>q
theorem fL {i:Nat}{x:Str}{e:Expr}{te:TE}{pos':Pos}(hN:X.N.Nodup)(hi:X.N[i]?=some x)(hx:Loc X.env.scope x)(he:PE X e te)(hs:swapsWith e (some (.Name x pos')) pos.line X.env=pure false:=by rfl)(hf:X.fn x=true\/X.env.scope.names.lookup x=some .local:=by first|exact .inl rfl|exact .inr rfl|assumption) :
  PS X (.Assign [.Name x pos'] e pos) (Bj te (Bh i)):=by
 intro pins s σ H D I h;refine wpAny_Assign_Name (aH (he pins s σ H _ I h) λv s1 ⟨y,H1,I1,r1,q1⟩=>?_) hs;exact A9 I1 hN hi hx r1 (λs2 I2=>⟨_,H1,I2,q1⟩) hf
end
section
variable {X:Cx}{pos:Pos}
def Lr (c:TT)(tb:TS):TS:=λD σ H=>∃ W:Nat->St->Hp->Prop,(∃ m,W m σ H)/\∀ m σ H,W m σ H ->
 c σ H λb H1=>if b=true then ∃ N:St->Hp->Prop,(∀ aJ H',N aJ H'->∃ m',m'<m/\W m' aJ H')/\tb { D with nx:=N,ct:=N,bk:=D.nx } σ H1 else D.nx σ H1
theorem Bk {c:Expr}{body:List Stmt}{tc:TT}{tb:TS}(hp:PassesOwn (model X.prog X.w) X.A X.env X.xe)(hc:PT X c tc)(hb:cn X body tb):PS X (.While c body [] pos) (Lr tc tb):=by
 intro pins s σ H D I h;obtain⟨W,⟨m0,w0⟩,turn⟩:=h;refine wpAny_While (codeAny_whileLoop (λn s'=>∃ aJ H',Inv X pins aJ H' s'/\W n aJ H') ?_ m0 ⟨σ,H,I,w0⟩);rintro n s1 ⟨a7,H1,I1,w1⟩;refine wpAny_passesOwn hp (aH (hc pins s1 a7 H1 _ I1 (turn n a7 H1 w1)) λb s2 ⟨H2,I2,q2⟩=>?_)
 cases b with
 |true=>
  obtain⟨N,hN,q2⟩:=q2;rw[if_pos rfl];refine wpAny_passesOwn hp (aH (hb pins s2 a7 H2 _ I2 q2) λf s3 q3=>?_)
  cases f with
  |next=>
   obtain⟨cT,H3,I3,n3⟩:=q3;obtain⟨m',hm,w3⟩:=hN cT H3 n3;exact⟨m',hm,cT,H3,I3,w3⟩
  |cont=>
   obtain⟨cT,H3,I3,n3⟩:=q3;obtain⟨m',hm,w3⟩:=hN cT H3 n3;exact⟨m',hm,cT,H3,I3,w3⟩
  |brk=>exact q3
  |ret v=>exact q3
 |false=>
  rw[if_neg Bool.false_ne_true];exact wpAny_execs_nil ⟨a7,H2,I2,q2⟩
end
structure It where
 go:Nat->Hp->Prop
 eo:Nat->Hp->V->Hp->Prop
 stop:Nat->Hp->Prop
def fM (X:Cx)(pins:aL)(H:Hp)(b:Addr):Prop:=
 H b=none/\b≠X.env.locals/\b∉X.fs/\(b∈X.ex\/X.dA.heap.objs.size<=b)/\(∀ x c,X.env.cells.lookup x=some c->c≠b)/\∀ p∈X.pn++pins,p.1≠b
theorem Inv.il {X:Cx}{pins:aL}{σ:St}{H H':Hp}{s:Shared}{b:Addr}(I:Inv X pins σ H s)(hb:s.heap.objs.size<=b)(hn:H' b=none):fM X pins H' b:=by
 refine⟨hn,Nat.ne_of_gt (c8 I.lt hb),I.KN hb,.inr (cC I.sz hb),λx c e z=>?_,λp hp z=>?_⟩
 ·obtain⟨v,q⟩:=I.cell x c e;exact absurd (c8 q.lt (by rw[z];exact hb)) (Nat.lt_irrefl _)
 ·exact absurd (c8 (aV (I.pin p hp).1) (by rw[z];exact hb)) (Nat.lt_irrefl _)
structure Turn (P:Program)(w:World)(K:Frag)(tg:Expr)(J:It)(fp:List Addr)(it:Addr)(tn:Nat->Heap->Prop):Prop where
 mem:it∈fp
 obj:∀ i h,tn i h->∀ b∈fp,∃ o,h.get? b=some o/\∀ v,o.data≠.cell v
 keep:∀ i h h',tn i h->(∀ b∈fp,∀ o,h.get? b=some o->h'.get? b=some o)->tn i h'
 item:∀(X:Cx),X.prog=P->X.w=w->X.K=K->X.calm=true->∀(i:Nat)(pins:aL)(s:Shared)(σ:St)(H:Hp)(E:aU),Inv X pins σ H s->(∀ b∈fp,fM X pins H b)->tn i s.heap->J.go i H ->
  wpAny (model P w) X.A (pyNext (.ref it)) (λr s1=>∃ u,r=some u /\
   wpAny (model P w) X.A (letOwnedTupleGo tg (.ref it) u) (λ_ s2=>∃ x H',Inv X pins σ H' s2/\RelV x u/\J.eo i H x H'/\tn (i+1) s2.heap/\∀ b∈fp,H' b=none) E s1) E s
 done:∀(X:Cx),X.prog=P->X.w=w->X.K=K->X.calm=true->∀(i:Nat)(pins:aL)(s:Shared)(σ:St)(H:Hp)(E:aU),Inv X pins σ H s->(∀ b∈fp,fM X pins H b)->tn i s.heap->J.stop i H ->
  wpAny (model P w) X.A (pyNext (.ref it)) (λr s1=>r=none/\Inv X pins σ H s1) E s
 self:∀(A:Around)(i:Nat)(s:Shared)(Q:aU)(E:aU),tn i s.heap->Q (.ref it) s->wpAny (model P w) A (pyIter (.ref it)) Q E s
abbrev TI:=St->Hp->(It->Hp->Prop)->Prop
def Bl (X:Cx)(pins:aL)(σ:St)(tg:Expr)(R:It->Hp->Prop)(rN:Value)(s2:Shared):Prop:=
 ∃(it:Addr)(fp:List Addr)(tn:Nat->Heap->Prop)(J:It)(H':Hp),rN=.ref it/\Inv X pins σ H' s2/\Turn X.prog X.w X.K tg J fp it tn/\tn 0 s2.heap/\(∀ b∈fp,fM X pins H' b)/\R J H'
def PI (X:Cx)(tg iter:Expr)(wi:TI):Prop:=
 ∀(pins:aL)(s:Shared)(σ:St)(H:Hp)(R:It->Hp->Prop),Inv X pins σ H s->wi σ H R ->
  wpAny (model X.prog X.w) X.A (eval iter X.env) (λv s1=>wpAny (model X.prog X.w) X.A (pyIter v) (Bl X pins σ tg R) X.xe s1) X.xe s
theorem nE {M:Model}{A:Around}{E:aU}{s:Shared}{tg:Expr}{it:Addr}{u:Value}{o:Obj}{n:String}{vs:Array Value}{Q:Unit->Shared->Prop}(ho:s.heap.get? it=some o)(hc:o.cls=.type n)(hd:o.data=.fields vs)
  (hn:["enumerate","zip","dict_itemiterator","dict_reverseitemiterator","odict_iterator","itertools.zip_longest","itertools.pairwise"].contains n=false)(hQ:Q () s):wpAny M A (letOwnedTupleGo tg (.ref it) u) Q E s:=by
 unfold letOwnedTupleGo
 cases tg<;>first
  |exact aP hQ
  | (cases u<;>first
    |exact aP hQ
    | (refine aj (wpAny_load ho ?_)
       rw[hc,hd];show wpAny M A (if (["enumerate","zip","dict_itemiterator","dict_reverseitemiterator","odict_iterator","itertools.zip_longest","itertools.pairwise"].contains n&&vs[0]?==some (rawInt _))=true then _ else _) Q E s;rw[if_neg (by intro h;rw[hn,Bool.false_and] at h;cases h)]
       exact aP hQ))
noncomputable def ma (K:Frag)(a:Addr):It:=
 ⟨λi H=>∃ xs x,aC K H a xs/\xs[i]?=some x,λi H x H'=>H'=H/\∀ xs,aC K H a xs->xs[i]?=some x,λi H=>∃ xs,aC K H a xs/\xs.length<=i⟩
noncomputable def vE (K:Frag)(a:Addr):It:=
 ⟨λi H=>∃ xs x,aS K H a xs/\xs[i]?=some x,λi H x H'=>H'=H/\∀ xs,aS K H a xs->xs[i]?=some x,λi H=>∃ xs,aS K H a xs/\xs.length<=i⟩
noncomputable def md (lo:Int)(n:Nat):It:=⟨λi _=>i<n,λi H x H'=>H'=H/\x=.int (lo+i),λi _=>n<=i⟩
theorem Ls {P:Program}{w:World}{K:Frag}{tg:Expr}(a it:Addr):Turn P w K tg (ma K a) [it] it (λi h=>h.IsListIter it a i) where
 mem:=by simp
 obj:=λi h st b hb=>by
  have e:b=it:=by simpa using hb
  subst e;obtain⟨o,e,c,d⟩:=st;exact⟨o,e,λv z=>by rw[d] at z;cases z⟩
 keep:=λi h h' st k=>st.at λo e=>k it (by simp) o e
 item:=by
  intro X hP hw hK hc i pins s σ H E I hf st hg;subst hP hw hK;obtain⟨xs,x,hq,hx⟩:=hg;obtain⟨its,rv,p,hz⟩:=I.list hq;obtain⟨u,hu,ru⟩:=rv.get hx;obtain⟨f0,f1,f2,f3,f4,f5⟩:=hf it (by simp);refine wpAny_pyNext_list_item st p.isList (x:=u) (by simpa using hu) λh' au sb=>?_;have I1:Inv X pins σ H { s with heap:=h' }:=I.turned (t':=s.toks) (λb o hb e=>(sb.2 b hb).trans e) f0 f1 f3 f4 f5;obtain⟨o,e,c,d⟩:=id au;exact⟨u,rfl,nE (s:={ s with heap:=h' }) e c d (by decide) ⟨x,H,I1,ru,⟨rfl,λys hy=>by rw[I.rK hy hq];exact hx⟩,au,λb hb=>(hf b hb).1⟩⟩
 done:=by
  intro X hP hw hK hc i pins s σ H E I hf st hg;subst hP hw hK;obtain⟨xs,hq,hx⟩:=hg;obtain⟨its,rv,p,hz⟩:=I.list hq;obtain⟨f0,f1,f2,f3,f4,f5⟩:=hf it (by simp);have hl:=rv.length;exact wpAny_pyNext_list_end (I.ok.hd hc) st p.isList (by simp;omega) λh' eb=>⟨rfl,I.turned (t':=s.toks) (λb o hb e=>eb b o hb e) f0 f1 f3 f4 f5⟩
 self:=λ_ _ _ _ _ st h=>wpAny_pyIter_listiter st h
theorem Lu {P:Program}{w:World}{K:Frag}{tg:Expr}(a it:Addr):Turn P w K tg (vE K a) [it] it (λi h=>h.IsTupleIter it a i) where
 mem:=by simp
 obj:=λi h st b hb=>by
  have e:b=it:=by simpa using hb
  subst e;obtain⟨o,e,c,d⟩:=st;exact⟨o,e,λv z=>by rw[d] at z;cases z⟩
 keep:=λi h h' st k=>st.at λo e=>k it (by simp) o e
 item:=by
  intro X hP hw hK hc i pins s σ H E I hf st hg;subst hP hw hK;obtain⟨xs,x,hq,hx⟩:=hg;obtain⟨its,rv,p,hz⟩:=I.tuple hq;obtain⟨u,hu,ru⟩:=rv.get hx;obtain⟨f0,f1,f2,f3,f4,f5⟩:=hf it (by simp);refine wpAny_pyNext_tuple_item st (show s.heap.IsTuple a its.toArray from p) (x:=u) (by simpa using hu) λh' au sb=>?_;have I1:Inv X pins σ H { s with heap:=h' }:=I.turned (t':=s.toks) (λb o hb e=>(sb.2 b hb).trans e) f0 f1 f3 f4 f5;obtain⟨o,e,c,d⟩:=id au;exact⟨u,rfl,nE (s:={ s with heap:=h' }) e c d (by decide) ⟨x,H,I1,ru,⟨rfl,λys hy=>by rw[I.pA hy hq];exact hx⟩,au,λb hb=>(hf b hb).1⟩⟩
 done:=by
  intro X hP hw hK hc i pins s σ H E I hf st hg;subst hP hw hK;obtain⟨xs,hq,hx⟩:=hg;obtain⟨its,rv,p,hz⟩:=I.tuple hq;obtain⟨f0,f1,f2,f3,f4,f5⟩:=hf it (by simp);have hl:=rv.length;exact wpAny_pyNext_tuple_end (I.ok.hd hc) st (show s.heap.IsTuple a its.toArray from p) (by simp;omega) λh' eb=>⟨rfl,I.turned (t':=s.toks) (λb o hb e=>eb b o hb e) f0 f1 f3 f4 f5⟩
 self:=λ_ _ _ _ _ st h=>wpAny_pyIter_tupleiter st h
theorem Lv {P:Program}{w:World}{K:Frag}{tg:Expr}(it:Addr)(lo:Int)(n:Nat):Turn P w K tg (md lo n) [it] it (λi h=>IsRangeIter h it (lo+(i:Nat)*1) ((n:Int)-(i:Nat)) 1) where
 mem:=by simp
 obj:=λi h st b hb=>by
  have e:b=it:=by simpa using hb
  subst e
  exact⟨_,st,λv z=>by
   have z':Data.fields _=Data.cell v:=z
   cases z'⟩
 keep:=λi h h' st k=>k it (by simp) _ st
 item:=by
  intro X hP hw hK hc i pins s σ H E I hf st hg;subst hP hw hK;obtain⟨f0,f1,f2,f3,f4,f5⟩:=hf it (by simp);have W:=Walks.range (prog:=X.prog) (w:=X.w) (I.ok.hd hc) it lo 1 n;refine W.item i s _ _ hg st λv h' tk hv au kk=>?_;obtain⟨t,rfl⟩:=hv;have I1:Inv X pins σ H { s with heap:=h',toks:=tk }:=I.turned (λb o hb e=>kk b o (by simpa using hb) e) f0 f1 f3 f4 f5;refine⟨_,rfl,nE (s:={ s with heap:=h',toks:=tk }) (n:="range_iterator") au rfl rfl (by decide) ⟨.int (lo+i),H,I1,⟨t,?_⟩,⟨rfl,rfl⟩,au,λb hb=>(hf b hb).1⟩⟩;rw[Int.mul_one]
 done:=by
  intro X hP hw hK hc i pins s σ H E I hf st hg;subst hP hw hK;obtain⟨f0,f1,f2,f3,f4,f5⟩:=hf it (by simp);exact wpAny_pyNext_range_end (I.ok.hd hc) st (by have:n<=i:=hg;omega) λh' eb=>⟨rfl,I.turned (t':=s.toks) (λb o hb e=>eb b o hb e) f0 f1 f3 f4 f5⟩
 self:=λ_ _ _ _ _ st h=>wpAny_pyIter_rangeiter st h
section
variable {X:Cx}{tg:Expr}
theorem Lw {pins:aL}{σ:St}{H:Hp}{s:Shared}{R:It->Hp->Prop}{E:aU}{lo hi:Int}{t u v:Tok}{tk:Nat}(I:Inv X pins σ H s)(h1:-(2 ^ 62)<=lo)(h2:lo<2 ^ 62)(h3:-(2 ^ 62)<=hi)(h4:hi<2 ^ 62)
  (q:R (md lo (hi-lo).toNat) H):wpAny (model X.prog X.w) X.A (pyIter (.ref s.heap.objs.size)) (Bl X pins σ tg R) E { s with heap:=s.heap.push { cls:=.type "range",data:=.fields #[.int lo t,.int hi u,.int 1 v] },toks:=tk }:=by
 refine wpAny_pyIter_range (IsRange.new ..) (small_one h1 h2 h3 h4) ?_;have I1:Inv X pins σ H { s with heap:=s.heap.push { cls:=.type "range",data:=.fields #[.int lo t,.int hi u,.int 1 v] },toks:=tk }:=I.kept λb o e=>aX _ e
 refine⟨(s.heap.push { cls:=.type "range",data:=.fields #[.int lo t,.int hi u,.int 1 v] }).objs.size,[(s.heap.push { cls:=.type "range",data:=.fields #[.int lo t,.int hi u,.int 1 v] }).objs.size],_,_,H,rfl,
  I1.kept (t':=tk) λb o e=>aX _ e,Lv _ lo (hi-lo).toNat,?_,λb hb=>?_,q⟩
 ·have e1:lo+((0:Nat):Int)*1=lo:=by simp
  have e2:(((hi-lo).toNat:Nat):Int)-((0:Nat):Int)=Builtin.Range.rangeSize lo hi 1:=by rw[rangeSize_one];split<;>omega
  show IsRangeIter _ _ (lo+((0:Nat):Int)*1) ((((hi-lo).toNat:Nat):Int)-((0:Nat):Int)) 1;rw[e1,e2];exact cI _ rfl
 ·have e:b=(s.heap.push { cls:=.type "range",data:=.fields #[.int lo t,.int hi u,.int 1 v] }).objs.size:=by simpa using hb
  subst e;exact I1.il (aG _) (I1.aw.fresh (aG _))
def Lx (ta:TA):TI:=λσ H R=>ta σ H λvs H1=>∃ j:Int,vs=[.int j] /\ -(2 ^ 62)<=j/\j<2 ^ 62/\R (md 0 j.toNat) H1
theorem Bm {a:Expr}{ta:TA}{p pos:Pos}(hg:Gl X "range")(hm:X.mg "range"=none)(ha:PA X [a] ta)(hs:starEach [a] X.env=[(false,eval a X.env)]:=by rfl):PI X tg (.Call (.Name "range" p) [a] [] pos) (Lx ta):=by
 intro pins s σ H R I h;refine Call_ (kK I hg hm boot_range (PyProof.Rows.callWith_type1 (aH (ha pos pins s σ H _ I h) λus s1 ⟨vs,H1,I1,r1,q1⟩=>?_) hs rfl));obtain⟨j,e,q1,q2,q⟩:=q1;subst e
 cases r1 with
 |cons r rr=>
  cases rr;obtain⟨t,rfl⟩:=r;exact call_range_1 (Lw I1 (by omega) (by omega) q1 q2 (by simpa using q))
def Ly (wi:TI)(g:TG)(tb:TS):TS:=λD σ H=>wi σ H λJ H1=>∃ W:Nat->Nat->St->Hp->Prop,(∃ m,W 0 m σ H1)/\∀ i m σ H,W i m σ H ->
 (J.stop i H/\D.nx σ H)\/(J.go i H/\∃ N:St->Hp->Prop,(∀ aJ H',N aJ H'->∃ m',m'<m/\W (i+1) m' aJ H')/\∀ x H',J.eo i H x H'->g x σ H' λbu H2=>tb { D with nx:=N,ct:=N,bk:=D.nx } bu H2)
noncomputable def pB (fp:List Addr)(h:Heap):aL:=fp.filterMap λb=>(h.get? b).map λo=>(b,o)
theorem rO {fp:List Addr}{h:Heap}{b:Addr}{o:Obj}(hb:b∈fp)(e:h.get? b=some o):(b,o)∈pB fp h:=mem_filterMap.mpr ⟨b,hb,by rw[e];rfl⟩
theorem Lz {fp:List Addr}{h:Heap}{p:Addr×Obj}(hp:p∈pB fp h):p.1∈fp/\h.get? p.1=some p.2:=by
 obtain⟨b,hb,e⟩:=mem_filterMap.mp hp
 cases q:h.get? b with
 |none=>rw[q] at e;cases e
 |some o=>
  rw[q] at e;have e':(b,o)=p:=Option.some.inj e;subst e';exact⟨hb,q⟩
theorem Inv.pinned {pins:aL}{σ:St}{H:Hp}{s:Shared}{fp:List Addr}(I:Inv X pins σ H s)(hf:∀ b∈fp,fM X pins H b)(ho:∀ b∈fp,∃ o,s.heap.get? b=some o/\∀ v,o.data≠.cell v):Inv X (pins++pB fp s.heap) σ H s:=
 I.AY λp hp=>(mem_append.mp hp).elim (λz=>I.pin p (mem_append_right _ z)) λz=>by
  obtain⟨hb,e⟩:=Lz z;obtain⟨f0,f1,f2,_⟩:=hf p.1 hb;obtain⟨o,e',d⟩:=ho p.1 hb;rw[e] at e';cases e';exact⟨e,f0,f1,f2,d⟩
theorem Inv.rP {pins pl:aL}{σ:St}{H:Hp}{s:Shared}(I:Inv X (pins++pl) σ H s):Inv X pins σ H s:=I.AY λp hp=>I.pin p (mem_append_right _ (mem_append_left _ hp))
theorem Bn {iter:Expr}{body:List Stmt}{wi:TI}{g:TG}{tb:TS}{pos:Pos}(hp:PassesOwn (model X.prog X.w) X.A X.env X.xe)(hc:X.calm=true)(hi:PI X tg iter wi)(hg:PG X tg g)(hb:cn X body tb)
  (hs:∀ x,foldedSetIterable iter X.env x=pure x:=by intro _;rfl):PS X (.For tg iter body [] pos) (Ly wi g tb):=by
 intro pins s σ H D I h;refine wpAny_For (aH (hi pins s σ H _ I h) λv s1 h1=>aH h1 λrN s2 h2=>?_) hs;obtain⟨it,fp,tn,J,H2,e,I2,T,nF,f2,W,⟨m0,w0⟩,turn⟩:=h2;subst e
 -- AU stays true of eg aau objects through eg loop
 have me:∀{H':Hp},(∀ b∈fp,H' b=none)->∀ b∈fp,fM X pins H' b:=λhn b hb=>⟨hn b hb,(f2 b hb).2⟩;refine codeAny_forLoop_any (λn s'=>∃ i aJ H',Inv X pins aJ H' s'/\tn i s'.heap/\(∀ b∈fp,H' b=none)/\W i n aJ H') ?_ m0 ⟨0,σ,H2,I2,nF,λb hb=>(f2 b hb).1,w0⟩;rintro n s3 ⟨i,cT,H3,I3,pD,pE,w3⟩;rcases turn i n cT H3 w3 with ⟨stop,qn⟩|⟨go,N,hN,step⟩
 ·refine wpAny_passesOwn hp (aH (T.done X rfl rfl rfl hc i pins s3 cT H3 X.xe I3 (me pE) pD stop) λr s4 ⟨hr,I4⟩=>?_);subst hr;exact wpAny_execs_nil ⟨cT,H3,I4,qn⟩
 ·refine wpAny_passesOwn hp (aH (T.item X rfl rfl rfl hc i pins s3 cT H3 X.xe I3 (me pE) pD go) λr s4 ⟨u,hr,h4⟩=>?_);subst hr;refine wpAny_passesOwn hp (aH h4 λ_ s5 ⟨x,H5,I5,r5,y5,mf,vF⟩=>?_);have LA:=I5.pinned (me vF) (T.obj _ _ mf);refine wpAny_passesOwn hp (aH (hg _ s5 cT H5 x u _ LA r5 (step x H5 y5)) λ_ s6 ⟨jj,H6,I6,q6⟩=>?_);refine wpAny_passesOwn hp (aH (hb _ s6 jj H6 _ I6 q6) λf s7 q7=>?_)
  have again:∀{iO:St}{H7:Hp},Inv X (pins++pB fp s5.heap) iO H7 s7->N iO H7->∃ m,m<n/\∃ i aJ H',Inv X pins aJ H' s7/\tn i s7.heap/\(∀ b∈fp,H' b=none)/\W i m aJ H':=λ{iO H7} I7 n7=>by
   obtain⟨m',hm,w7⟩:=hN iO H7 n7;refine⟨m',hm,i+1,iO,H7,I7.rP,T.keep _ _ _ mf λb hb o e=>(I7.pin (b,o) (mem_append_right _ (mem_append_right _ (rO hb e)))).1,λb hb=>?_,w7⟩;obtain⟨o,e,d⟩:=T.obj _ _ mf b hb;exact(I7.pin (b,o) (mem_append_right _ (mem_append_right _ (rO hb e)))).2.1
  cases f with
  |next=>obtain⟨iO,H7,I7,n7⟩:=q7;exact again I7 n7
  |cont=>obtain⟨iO,H7,I7,n7⟩:=q7;exact again I7 n7
  |brk=>obtain⟨iO,H7,I7,q7⟩:=q7;exact⟨iO,H7,I7.rP,q7⟩
  |ret v=>obtain⟨x7,iO,H7,I7,r7,q7⟩:=q7;exact⟨x7,iO,H7,I7.rP,r7,q7⟩
end
theorem Bo {lo:Int}{n:Nat}{g:TG}{tb:TS}{D:Ends}{σ:St}{H:Hp}(Pv:Nat->St->Hp->Prop)(h0:Pv 0 σ H)
  (hs:∀ i σ H,i<n->Pv i σ H->g (.int (lo+i)) σ H λbu H2=>tb { D with nx:=Pv (i+1),ct:=Pv (i+1),bk:=D.nx } bu H2)(hd:∀ σ H,Pv n σ H->D.nx σ H) :
  ∃ W:Nat->Nat->St->Hp->Prop,(∃ m,W 0 m σ H)/\∀ i m σ H,W i m σ H ->
   ((md lo n).stop i H/\D.nx σ H)\/((md lo n).go i H/\∃ N:St->Hp->Prop,(∀ aJ H',N aJ H'->∃ m',m'<m/\W (i+1) m' aJ H')/\∀ x H',(md lo n).eo i H x H'->g x σ H' λbu H2=>tb { D with nx:=N,ct:=N,bk:=D.nx } bu H2):=by
 refine⟨λi m σ H=>m=n-i/\i<=n/\Pv i σ H,⟨n,by simp,Nat.zero_le _,h0⟩,?_⟩;rintro i m σ H ⟨rfl,hi,p⟩;by_cases cz:i<n
 ·refine .inr ⟨cz,Pv (i+1),λaJ H' p'=>⟨n-(i+1),by omega,rfl,cz,p'⟩,λx H' y=>?_⟩;obtain⟨e,y⟩:=y;subst e y;exact hs i σ _ cz p
 ·have e:i=n:=by omega
  subst e;exact .inl ⟨aG _,hd σ H p⟩
abbrev R2:=V->V->Hp->VK->Prop
def bE (X:Cx)(f:Value->Value->Sem Value)(r:R2):Prop:=
 ∀(pins:aL)(s:Shared)(σ:St)(H:Hp)(x y:V)(v u:Value)(Q:VK),Inv X pins σ H s->RelV x v->RelV y u->r x y H Q ->
  wpAny (model X.prog X.w) X.A (f v u) (EP X pins σ Q) X.xe s
def vG (X:Cx)(f:Value->Sem Value)(r:V->Hp->VK->Prop):Prop:=
 ∀(pins:aL)(s:Shared)(σ:St)(H:Hp)(x:V)(v:Value)(Q:VK),Inv X pins σ H s->RelV x v->r x H Q ->
  wpAny (model X.prog X.w) X.A (f v) (EP X pins σ Q) X.xe s
def eA (X:Cx)(f:Value)(r:Zv->Hp->VK->Prop):Prop:=
 ∀(pins:aL)(s:Shared)(σ:St)(H:Hp)(xs:Zv)(us:aR)(Q:VK),Inv X pins σ H s->Vals xs us->r xs H Q ->
  wpAny (model X.prog X.w) X.A (call f us) (EP X pins σ Q) X.xe s
def LB (X:Cx)(r:V->Hp->(Bool->Hp->Prop)->Prop):Prop:=
 ∀(pins:aL)(s:Shared)(σ:St)(H:Hp)(x:V)(v:Value)(Q:Bool->Hp->Prop),Inv X pins σ H s->RelV x v->r x H Q ->
  wpAny (model X.prog X.w) X.A (truthy v) (TP X pins σ Q) X.xe s
def kN (r:R2)(ta tb:TE):TE:=λσ H Q=>ta σ H λx H1=>tb σ H1 λy H2=>r x y H2 Q
def LC (r:V->Hp->VK->Prop)(ta:TE):TE:=λσ H Q=>ta σ H λx H1=>r x H1 Q
def rI (C:Int->Int->Prop)(g:Int->Int->V):R2:=λx y H Q=>∃ i j,x=.int i/\y=.int j/\C i j/\Q (g i j) H
def iP (g:Int->Int->V):R2:=λx y H Q=>∃ i j,x=.int i/\y=.int j/\Q (g i j) H
def rU (g:Int->V):V->Hp->VK->Prop:=λx H Q=>∃ i,x=.int i/\Q (g i) H
section
variable {X:Cx}{a b c:Expr}{ta tb tc:TE}{pos:Pos}
theorem rQ (ha:PE X a ta)(hb:PE X b tb){pins:aL}{s:Shared}{σ:St}{H:Hp}{R:V->V->Hp->Prop}(I:Inv X pins σ H s)
  (h:ta σ H λx H1=>tb σ H1 λy H2=>R x y H2){Q:aU}{f:Value->Value->Sem Value}
  (hf:∀ v u s2 x y H2,Inv X pins σ H2 s2->RelV x v->RelV y u->R x y H2->wpAny (model X.prog X.w) X.A (f v u) Q X.xe s2) :
  wpAny (model X.prog X.w) X.A (eval a X.env) (λv bq=>wpAny (model X.prog X.w) X.A (eval b X.env) (λu fA=>wpAny (model X.prog X.w) X.A (f v u) Q X.xe fA) X.xe bq) X.xe s:=by
 refine aH (ha pins s σ H _ I h) λv s1 ⟨x,H1,I1,r1,q1⟩=>?_;refine aH (hb pins s1 σ H1 _ I1 q1) λu s2 ⟨y,H2,I2,r2,q2⟩=>?_;exact hf v u s2 x y H2 I2 r1 r2 q2
theorem c5 {op:Operator}{r:R2}(ho:bE X (binaryOp op) r)(ha:PE X a ta)(hb:PE X b tb):PE X (.BinOp a op b pos) (kN r ta tb):=by
 intro pins s σ H Q I h;exact wpAny_BinOp (rQ ha hb I h λv u s2 x y H2 I2 rx ry q=>ho pins s2 σ H2 x y v u Q I2 rx ry q)
theorem Bp {op:UnaryOp}{r:V->Hp->VK->Prop}(ho:vG X (unaryOp op) r)(ha:PE X a ta):PE X (.UnaryOp op a pos) (LC r ta):=by
 intro pins s σ H Q I h;exact UnaryOp_ (aH (ha pins s σ H _ I h) λv s1 ⟨x,H1,I1,r1,q1⟩=>ho pins s1 σ H1 x v Q I1 r1 q1)
theorem pG {f:Value->Value->Sem Value}{C:Int->Int->Prop}{g:Int->Int->Int}
  (rule:∀(i j:Int)(t u:Tok)(s:Shared)(Q:aU)(E:aU),C i j->Q (.int (g i j) s.toks) { s with toks:=s.toks+1 }->wpAny (model X.prog X.w) X.A (f (.int i t) (.int j u)) Q E s) :
  bE X f (rI C λi j=>.int (g i j)):=by
 intro pins s σ H x y v u Q I rx ry h;obtain⟨i,j,rfl,rfl,hc,q⟩:=h;obtain⟨t,rfl⟩:=rx;obtain⟨t',rfl⟩:=ry;exact rule i j t t' s _ _ hc ⟨.int (g i j),H,I.tok _,⟨_,rfl⟩,q⟩
theorem Bq {f:Value->Value->Sem Value}{g:Int->Int->Int}
  (rule:∀(i j:Int)(t u:Tok)(s:Shared)(Q:aU)(E:aU),Q (.int (g i j) s.toks) { s with toks:=s.toks+1 }->wpAny (model X.prog X.w) X.A (f (.int i t) (.int j u)) Q E s) :
  bE X f (iP λi j=>.int (g i j)):=by
 intro pins s σ H x y v u Q I rx ry h;obtain⟨i,j,rfl,rfl,q⟩:=h;obtain⟨t,rfl⟩:=rx;obtain⟨t',rfl⟩:=ry;exact rule i j t t' s _ _ ⟨.int (g i j),H,I.tok _,⟨_,rfl⟩,q⟩
theorem vH {f:Value->Value->Sem Value}{g:Int->Int->Bool}
  (rule:∀(i j:Int)(t u:Tok)(s:Shared)(Q:aU)(E:aU),Q (.bool (g i j)) s->wpAny (model X.prog X.w) X.A (f (.int i t) (.int j u)) Q E s) :
  bE X f (iP λi j=>.bl (g i j)):=by
 intro pins s σ H x y v u Q I rx ry h;obtain⟨i,j,rfl,rfl,q⟩:=h;obtain⟨t,rfl⟩:=rx;obtain⟨t',rfl⟩:=ry;exact rule i j t t' s _ _ ⟨.bl (g i j),H,I,rfl,q⟩
def LD (i j:Int):Prop:=0<j/\j<1073741824
def Br (i j:Int):Prop:=0<=j/\j<=1000000/\i.natAbs<2 ^ 64
def pH (i j:Int):Prop:=(-(2 ^ 64)<i/\i<2 ^ 64)\/(-(2 ^ 64)<j/\j<2 ^ 64)
theorem pH.ok {i j:Int}(h:pH i j):IntMulOk i j:=by
 rcases h with ⟨h1,h2⟩|⟨h1,h2⟩
 ·exact .of_left (intBits_le_64 h1 h2)
 ·exact .of_right (intBits_le_64 h1 h2)
theorem jO:bE X (binaryOp .Add) (iP λi j=>.int (i+j)):=Bq λ_ _ _ _ _ _ _ q=>add_int q
theorem LF:bE X (binaryOp .Sub) (iP λi j=>.int (i-j)):=Bq λ_ _ _ _ _ _ _ q=>sub_int q
theorem mh:bE X (binaryOp .Mult) (rI pH λi j=>.int (i*j)):=pG λ_ _ _ _ _ _ _ hc q=>mul_int q hc.ok
theorem LG:bE X (binaryOp .FloorDiv) (rI LD λi j=>.int (i / j)):=pG λi j _ _ _ _ _ hc q=>by
 have h1:(0:Int)<j:=hc.1;have h2:j<1073741824:=hc.2;exact floordiv_int (by omega) (by rw[Int.fdiv_eq_ediv_of_nonneg i (by omega)];exact q) (.inl (PyProof.noPylong_small (by omega)))
theorem kO:bE X (binaryOp .Mod) (rI (λ_ j=>0<j) λi j=>.int (i % j)):=pG λi j _ _ _ _ _ hc q=>by
 have h1:(0:Int)<j:=hc;exact mod_int' (by omega) (by rw[Int.fmod_eq_emod_of_nonneg i (by omega)];exact q)
theorem LH:bE X (binaryOp .Pow) (rI Br λi j=>.int (i ^ j.toNat)):=pG λ_ _ _ _ _ _ _ hc q=>pow_int_small hc.1 hc.2.1 hc.2.2 q
theorem LI {f:Value->Sem Value}{g:Int->Int}
  (rule:∀(i:Int)(t:Tok)(s:Shared)(Q:aU)(E:aU),Q (.int (g i) s.toks) { s with toks:=s.toks+1 }->wpAny (model X.prog X.w) X.A (f (.int i t)) Q E s) :
  vG X f (rU λi=>.int (g i)):=by
 intro pins s σ H x v Q I rx h;obtain⟨i,rfl,q⟩:=h;obtain⟨t,rfl⟩:=rx;exact rule i t s _ _ ⟨.int (g i),H,I.tok _,⟨_,rfl⟩,q⟩
theorem Bu:vG X (unaryOp .USub) (rU λi=>.int (-i)):=LI λ_ _ _ _ _ q=>neg_int q
end
noncomputable def LJ:V->V->Bool
 |.ai,.ai=>true|.ai,.int _=>true|.int _,.ai=>true|.ai,.bl _=>true|.bl _,.ai=>true|.ai,.str _=>true|.str _,.ai=>true
 |.int _,.int _=>true|.bl _,.bl _=>true|.str _,.str _=>true|.gD _,.gD _=>true
 |.int _,.str _=>true|.str _,.int _=>true|.bl _,.str _=>true|.str _,.bl _=>true
 |_,_=>false
def LK:R2:=λx y H Q=>LJ x y=true/\Q (.bl (decide (x=y))) H
theorem LL {i j:Int}:decide (V.int i=V.int j)=(i==j):=by
 rw[Bool.eq_iff_iff];simp
theorem LM {i j:Bool}:decide (V.bl i=V.bl j)=(i==j):=by
 rw[Bool.eq_iff_iff];simp
theorem LN {i j:Str}:decide (V.str i=V.str j)=(i==j):=by
 rw[Bool.eq_iff_iff];simp
theorem LO {i j:Array UInt8}:decide (V.gD i=V.gD j)=(i.toList==j.toList):=by
 rw[Bool.eq_iff_iff];cases i;cases j;simp
section
variable {X:Cx}{a b c:Expr}{ta tb tc:TE}{pos:Pos}
theorem eC {pins:aL}{σ:St}{H:Hp}{s:Shared}{Q:VK}{k k':Bool}(I:Inv X pins σ H s)(q:Q (.bl k) H)(e:k=k'):EP X pins σ Q (.bool k') s:=by
 subst e;exact⟨.bl k,H,I,rfl,q⟩
theorem Bv:bE X (compareOp .Eq) LK:=by
 intro pins s σ H x y v u Q I rx ry h;obtain⟨hs,q⟩:=h
 cases x with
 |ai=>
  cases rx
  cases y with
  |ai=>cases ry;exact PySem.EqNone.eq_none_none (eC I q (by simp))
  |bl j=>cases ry;exact PySem.EqNone.eq_none_bool (eC I q (by simp))
  |int j=>obtain⟨t',rfl⟩:=ry;exact PySem.EqNone.eq_none_int (eC I q (by simp))
  |str j=>obtain⟨t',rfl⟩:=ry;exact PySem.EqNone.eq_none_str (eC I q (by simp))
  |_=>exact absurd (show false=true from hs) Bool.false_ne_true
 |bl i=>
  cases rx
  cases y with
  |ai=>cases ry;exact PySem.EqNone.eq_bool_none (eC I q (by simp))
  |bl j=>cases ry;exact eq_bool (eC I q LM)
  |str j=>obtain⟨t',rfl⟩:=ry;exact PySem.EqMixed.eq_bool_str (eC I q (by simp))
  |_=>exact absurd (show false=true from hs) Bool.false_ne_true
 |int i=>
  obtain⟨t,rfl⟩:=rx
  cases y with
  |ai=>cases ry;exact PySem.EqNone.eq_int_none (eC I q (by simp))
  |int j=>obtain⟨t',rfl⟩:=ry;exact eq_int (eC I q LL)
  |str j=>obtain⟨t',rfl⟩:=ry;exact PySem.EqMixed.eq_int_str (eC I q (by simp))
  |_=>exact absurd (show false=true from hs) Bool.false_ne_true
 |str i=>
  obtain⟨t,rfl⟩:=rx
  cases y with
  |ai=>cases ry;exact PySem.EqNone.eq_str_none (eC I q (by simp))
  |bl j=>cases ry;exact PySem.EqMixed.eq_str_bool (eC I q (by simp))
  |int j=>obtain⟨t',rfl⟩:=ry;exact PySem.EqMixed.eq_str_int (eC I q (by simp))
  |str j=>obtain⟨t',rfl⟩:=ry;exact eq_str (eC I q LN)
  |_=>exact absurd (show false=true from hs) Bool.false_ne_true
 |gD i=>
  obtain⟨t,rfl⟩:=rx
  cases y with
  |gD j=>obtain⟨t',rfl⟩:=ry;exact PySem.W.eq_bytes (eC I q LO)
  |_=>exact absurd (show false=true from hs) Bool.false_ne_true
 |_=>cases y<;>exact absurd (show false=true from hs) Bool.false_ne_true
theorem Bw:bE X (compareOp .Lt) (iP λi j=>.bl (decide (i<j))):=vH λ_ _ _ _ _ _ _ q=>lt_int q
theorem Bx:bE X (compareOp .LtE) (iP λi j=>.bl (decide (i<=j))):=vH λ_ _ _ _ _ _ _ q=>le_int q
theorem rR:bE X (compareOp .Gt) (iP λi j=>.bl (decide (j<i))):=vH λ_ _ _ _ _ _ _ q=>gt_int q
theorem LP:bE X (compareOp .Lt) (λx y H Q=>∃ i j,x=.str i/\y=.str j/\Q (.bl (decide (i.cps.toList<j.cps.toList))) H):=by
 intro pins s σ H x y v u Q I rx ry h;obtain⟨i,j,rfl,rfl,q⟩:=h;obtain⟨t,rfl⟩:=rx;obtain⟨t',rfl⟩:=ry;exact lt_str (eC I q rfl)
theorem LQ:bE X (compareOp .In) (λx y H Q=>∃ i j,x=.str i/\y=.str j/\Q (.bl (!(Builtin.Str.occurrences j i 0 j.length 1).isEmpty)) H):=by
 intro pins s σ H x y v u Q I rx ry h;obtain⟨i,j,rfl,rfl,q⟩:=h;obtain⟨t,rfl⟩:=rx;obtain⟨t',rfl⟩:=ry;exact in_str (eC I q rfl)
theorem By:bE X (compareOp .Is) (λx y H Q=>y=.ai/\Q (.bl (decide (x=.ai))) H):=by
 intro pins s σ H x y v u Q I rx ry h;obtain⟨rfl,q⟩:=h;cases ry;refine is_none_gen (eC I q ?_)
 cases x<;>first
  |(cases rx;rfl)
  |(obtain⟨t,rfl⟩:=rx;rfl)
theorem LR:bE X (compareOp .IsNot) (λx y H Q=>y=.ai/\Q (.bl (!decide (x=.ai))) H):=by
 intro pins s σ H x y v u Q I rx ry h;obtain⟨rfl,q⟩:=h;cases ry;refine isnot_none_gen (eC I q ?_)
 cases x<;>first
  |(cases rx;rfl)
  |(obtain⟨t,rfl⟩:=rx;rfl)
theorem bE.or {f:Value->Value->Sem Value}{r r':R2}(h:bE X f r)(h':bE X f r'):bE X f (λx y H Q=>r x y H Q\/r' x y H Q):=by
 intro pins s σ H x y v u Q I rx ry q;rcases q with q|q
 ·exact h pins s σ H x y v u Q I rx ry q
 ·exact h' pins s σ H x y v u Q I rx ry q
theorem fB (b:Expr){op:CmpOp}(h:op≠.In:=by decide)(h2:op≠.NotIn:=by decide):behindInMarks op b=false:=by
 have e1:(op==CmpOp.In)=false:=by cases op<;>first|rfl|exact absurd rfl h
 have e2:(op==CmpOp.NotIn)=false:=by cases op<;>first|rfl|exact absurd rfl h2
 cases b<;>simp [behindInMarks,e1,e2]
theorem LS {op:CmpOp}{r:R2}(ho:bE X (compareOp op) r)(ha:PE X a ta)(hb:PE X b tb)(hm:behindInMarks op b=false):PE X (.Compare a [op] [b] pos) (kN r ta tb):=by
 intro pins s σ H Q I h;exact wpAny_Compare1 (rQ ha hb I h λv u s2 x y H2 I2 rx ry q=>ho pins s2 σ H2 x y v u Q I2 rx ry q) hm
def vI (t:TE):TT:=λσ H Q=>t σ H λx H'=>∃ k,x=.bl k/\Q k H'
theorem kQ {op:CmpOp}{r:R2}(ho:bE X (compareOp op) r)(ha:PE X a ta)(hb:PE X b tb)(hm:behindInMarks op b=false):PT X (.Compare a [op] [b] pos) (vI (kN r ta tb)):=by
 intro pins s σ H Q I h
 refine wpAny_isTrue_Compare1 (aH (ha pins s σ H _ I h) λv s1 ⟨x,H1,I1,r1,q1⟩=>aH (hb pins s1 σ H1 _ I1 q1) λu s2 ⟨y,H2,I2,r2,q2⟩=>
  aH (ho pins s2 σ H2 x y v u _ I2 r1 r2 q2) λc s3 ⟨z,H3,I3,r3,k,e,q3⟩=>?_) hm
 subst e;cases r3;exact wpAny_truthy_bool ⟨H3,I3,q3⟩
def LU (r r':R2)(ta tb tc:TE):TE:=λσ H Q=>ta σ H λx H1=>tb σ H1 λy H2=>r x y H2 λz H3=>∃ k,z=.bl k /\
 (if k=true then tc σ H3 λw' H4=>r' y w' H4 Q else Q (.bl false) H3)
theorem LV {op mi:CmpOp}{r r':R2}(ho:bE X (compareOp op) r)(fc:bE X (compareOp mi) r')(ha:PE X a ta)(hb:PE X b tb)(hc:PE X c tc)
  (hm:lastMarks [op,mi] [b,c]=false:=by with_unfolding_all rfl):PE X (.Compare a [op,mi] [b,c] pos) (LU r r' ta tb tc):=by
 intro pins s σ H Q I h
 refine Compare_chain (aH (ha pins s σ H _ I h) λv s1 ⟨x,H1,I1,r1,q1⟩=>chain_link (aH (hb pins s1 σ H1 _ I1 q1) λu s2 ⟨y,H2,I2,r2,q2⟩=>
  aH (ho pins s2 σ H2 x y v u _ I2 r1 r2 q2) λd s3 ⟨z,H3,I3,r3,k,e,q3⟩=>?_)) hm
 subst e;cases r3;refine wpAny_truthy_bool ?_
 cases k with
 |false=>exact ite_ff ⟨.bl false,H3,I3,rfl,q3⟩
 |true=>exact ite_tt (chain_last (aH (hc pins s3 σ H3 _ I3 q3) λw' s4 ⟨z',H4,I4,r4,q4⟩=>fc pins s4 σ H4 y z' u w' Q I4 r2 r4 q4))
def Bz (K:Frag)(x:V)(H:Hp)(k:Bool):Prop:=
 match x with
 |.ai=>k=false
 |.bl b=>k=b
 |.int i=>k=(i != 0)
 |.str y=>y.length<=sizeLine/\k=((y.length:Int) != 0)
 |.gD y=>y.size<=sizeLine/\k=((y.size:Int) != 0)
 |.ref p=>(∃ xs,aC K H p xs/\k=!xs.isEmpty)\/(∃ xs,aS K H p xs/\k=!xs.isEmpty)\/∃ kvs,H p=some (.dK kvs)/\k=!kvs.isEmpty
 |_=>False
theorem LW {κ:Type}{kvs:List (κ×V)}{vs:List (κ×Value)}(r:KV kvs vs):(!vs.isEmpty)=!kvs.isEmpty:=by
 cases r<;>rfl
theorem BA {xs:Zv}{its:aR}(r:Vals xs its):(!its.toArray.isEmpty)=!xs.isEmpty:=by
 cases r<;>simp
theorem kS:(sizeLine:Nat)<2 ^ 63:=by rw[sizeLine_eq];decide
theorem LX:LB X (λx H Q=>∃ k,Bz X.K x H k/\Q k H):=by
 intro pins s σ H x v Q I rx h;obtain⟨k,e,q⟩:=h;have hl:=kS;have hs:sizeLine=16777216:=sizeLine_eq
 cases x with
 |ai=>
  cases rx;have e':k=false:=e;subst e';exact truthy_none ⟨H,I,q⟩
 |bl b=>
  cases rx;have e':k=b:=e;subst e';exact wpAny_truthy_bool ⟨H,I,q⟩
 |int i=>
  obtain⟨t,rfl⟩:=rx;have e':k=(i != 0):=e;subst e';exact PySem.P.truthy_int ⟨H,I,q⟩
 |str y=>
  obtain⟨t,rfl⟩:=rx;obtain⟨hy,e'⟩:y.length<=sizeLine/\k=((y.length:Int) != 0):=e;subst e';exact PySem.P.truthy_str (by omega) ⟨H,I.tok _,q⟩
 |gD y=>
  obtain⟨t,rfl⟩:=rx;obtain⟨hy,e'⟩:y.size<=sizeLine/\k=((y.size:Int) != 0):=e;subst e';exact PySem.W.truthy_bytes (by omega) ⟨H,I.tok _,q⟩
 |ref p=>
  cases rx;have e':(∃ xs,aC X.K H p xs/\k=!xs.isEmpty)\/(∃ xs,aS X.K H p xs/\k=!xs.isEmpty)\/∃ kvs,H p=some (.dK kvs)/\k=!kvs.isEmpty:=e;rcases e' with ⟨xs,hx,e'⟩|⟨xs,hx,e'⟩|⟨kvs,hx,e'⟩
  ·subst e';obtain⟨its,r,pl,hz⟩:=I.list hx;have hlen:=r.length;exact wpAny_truthy_list pl.isList (by simp only[size_toArray];omega) ⟨H,I.tok _,by rw[BA r];exact q⟩
  ·subst e';obtain⟨its,r,pl,hz⟩:=I.tuple hx;have hlen:=r.length;exact truthy_tuple pl (by simp only[size_toArray];omega) ⟨H,I.tok _,by rw[BA r];exact q⟩
  ·subst e';obtain⟨hz,hS,vs,r,m⟩:kvs.length<=sizeLine/\(p==sysModules)=false/\∃ vs,KV kvs vs/\s.heap.DictOf (ck X.prog X.w) p vs:=I.aw p _ hx;have hlen:kvs.length=vs.length:=Paired.length r;exact wpAny_truthy_dict hS m (by omega) ⟨H,I.tok _,by rw[LW r];exact q⟩
 |_=>exact(show False from e).elim
theorem LY (ha:PE X a ta)(he:∀ whole,isTrue a X.env whole=(do let v <- whole;standAt a.pos;holding [v] (truthy v))) :
  PT X a (λσ H Q=>ta σ H λx H'=>∃ k,Bz X.K x H' k/\Q k H'):=by
 intro pins s σ H Q I h;exact isTrue_plain (aH (ha pins s σ H _ I h) λv s1 ⟨x,H1,I1,r1,q1⟩=>LX pins s1 σ H1 x v Q I1 r1 q1) (he _)
theorem BB:bE X (binaryOp .Add) (λx y H Q=>∃ i j,x=.str i/\y=.str j/\i.length+j.length<=sizeLine/\Q (.str (i++j)) H):=by
 intro pins s σ H x y v u Q I rx ry h;obtain⟨i,j,rfl,rfl,hz,q⟩:=h;obtain⟨t,rfl⟩:=rx;obtain⟨t',rfl⟩:=ry;exact add_str (λt' tk=>⟨.str (i++j),H,I.tok _,⟨_,rfl⟩,q⟩) hz
def LZ (b:Expr):Prop:=∀ o i,subscripted b false o i=operate [o,i] (getItem o i)
theorem L0 (ha:PE X a ta)(hb:PE X b tb)(hs:LZ b) :
  PE X (.Subscript a b pos) (kN (λx y H Q=>∃ z i c,x=.str z/\y=.int i/\0<=i/\i<2 ^ 63/\i<z.length/\z.cps[i.toNat]?=some c/\Q (.str ⟨#[c]⟩) H) ta tb):=by
 intro pins s σ H Q I h;refine Subscript_ (rQ ha hb I h λv u s2 x y H2 I2 rx ry q=>?_);obtain⟨z,i,c,rfl,rfl,h0,h63,h1,hc,q⟩:=q;obtain⟨t,rfl⟩:=rx;obtain⟨t',rfl⟩:=ry;have e:seqIndex? i z.length=some i.toNat:=PySem.StrLaws.seqIndex_nonneg h0 h1
 exact tail_any (typeIs_str s2 z t) slot_str_getitem.lookup (getItem_str (c:=c) (by
  have e1:decide (i < -(2 ^ 63:Int))=false:=decide_eq_false (by omega);have e2:decide (i≥2 ^ 63)=false:=decide_eq_false (by omega)
  rw[e1,e2]<;>rfl) (by rw[e];exact hc) ⟨.str ⟨#[c]⟩,H2,I2.tok _,⟨_,rfl⟩,q⟩) (hs _ _)
theorem vals1 {x:V}{us:aR}(r:Vals [x] us):∃ u,us=[u]/\RelV x u:=by
 cases r with
 |cons r1 r2=>cases r2;exact⟨_,rfl,r1⟩
theorem vals2 {x y:V}{us:aR}(r:Vals [x,y] us):∃ u w',us=[u,w']/\RelV x u/\RelV y w':=by
 cases r with
 |cons r1 r2=>
  cases r2 with
  |cons r3 r4=>cases r4;exact⟨_,_,rfl,r1,r3⟩
theorem L1:eA X (.builtin "abs") (λxs H Q=>∃ i,xs=[.int i]/\Q (.int (if i<0 then -i else i)) H):=by
 intro pins s σ H xs us Q I r h;obtain⟨i,rfl,q⟩:=h;obtain⟨u,rfl,t,rfl⟩:=vals1 r;exact call_abs_int λu tk=>⟨.int (if i<0 then -i else i),H,I.tok _,⟨_,rfl⟩,q⟩
theorem L3:eA X (.type "int") (λxs H Q=>(∃ i,xs=[.int i]/\Q (.int i) H)\/∃ k,xs=[.bl k]/\Q (.int (if k then 1 else 0)) H):=by
 intro pins s σ H xs us Q I r h;rcases h with ⟨i,rfl,q⟩|⟨k,rfl,q⟩
 ·obtain⟨u,rfl,t,rfl⟩:=vals1 r;exact call_int_int ⟨.int i,H,I,⟨_,rfl⟩,q⟩
 ·obtain⟨u,rfl,r1⟩:=vals1 r;cases r1;exact call_int_bool ⟨.int (if k then 1 else 0),H,I.tok _,⟨_,rfl⟩,q⟩
def BC (K:Frag)(x:V)(H:Hp)(n:Nat):Prop:=
 match x with
 |.str y=>y.length<=sizeLine/\n=y.length
 |.gD y=>y.size<=sizeLine/\n=y.size
 |.ref p=>(∃ xs,aC K H p xs/\n=xs.length)\/∃ xs,aS K H p xs/\n=xs.length
 |_=>False
theorem L4:eA X (.builtin "len") (λxs H Q=>∃ x n,xs=[x]/\BC X.K x H n/\Q (.int n) H):=by
 intro pins s σ H xs us Q I r h;obtain⟨x,n,rfl,e,q⟩:=h;obtain⟨u,rfl,rx⟩:=vals1 r;have hl:=kS;have hs:sizeLine=16777216:=sizeLine_eq
 cases x with
 |str y=>
  obtain⟨t,rfl⟩:=rx;obtain⟨hy,e'⟩:y.length<=sizeLine/\n=y.length:=e;subst e';exact len_str (by omega) ⟨.int _,H,I.tok _,⟨_,rfl⟩,q⟩
 |gD y=>
  obtain⟨t,rfl⟩:=rx;obtain⟨hy,e'⟩:y.size<=sizeLine/\n=y.size:=e;subst e';exact PySem.W.len_bytes (by omega) ⟨.int _,H,I.tok _,⟨_,rfl⟩,q⟩
 |ref p=>
  cases rx;have e':(∃ xs,aC X.K H p xs/\n=xs.length)\/∃ xs,aS X.K H p xs/\n=xs.length:=e;rcases e' with ⟨xs,hx,e'⟩|⟨xs,hx,e'⟩
  ·subst e';obtain⟨its,r',pl,hz⟩:=I.list hx;have hlen:=r'.length;exact Calls.call_len_list pl.isList (by simp only[size_toArray];omega) ⟨.int xs.length,H,I.tok _,⟨_,by simp only[size_toArray];rw[hlen]⟩,q⟩
  ·subst e';obtain⟨its,r',pl,hz⟩:=I.tuple hx;have hlen:=r'.length;exact len_tuple pl (by simp only[size_toArray];omega) ⟨.int xs.length,H,I.tok _,⟨_,by simp only[size_toArray];rw[hlen]⟩,q⟩
 |_=>exact(show False from e).elim
end
structure vJ (h:Heap)(x dx C:Addr)(mA:bU):Prop where
 obj:h.get? x=some (PySem.W.instObj C dx)
 ns:h.Ns1 dx mA
 ne:dx≠x
theorem L5 {h:Heap}{dx:Addr}{mA:bU}(n:h.Ns1 dx mA):∃ od,h.get? dx=some od/\∀ name,PySem.W.lookIn name od=some (mA name):=by
 obtain⟨o,es,ep,ho,hd,hk,_,hm⟩:=n;refine⟨o,ho,λname=>?_⟩;have e:=hm name;unfold nsFind findBy at e;rw[<- Array.find?_toList] at e;unfold PySem.W.lookIn;rw[hd];dsimp only
 split
 ·rename_i y q;rw[q] at e;exact congrArg some e
 ·rename_i q;rw[q] at e
  have a:es.toList.any (·.refKey)=false:=by
   rw[any_eq_false];intro y hy;obtain⟨z,t,jP⟩:=hk y (Array.mem_toList_iff.mp hy);simp [DictEntry.refKey,jP]
  have a':¬ es.toList.any (·.refKey)=true:=by rw[a];exact Bool.false_ne_true
  rw[if_neg a'];exact congrArg some e
theorem vJ.look {h:Heap}{x dx C:Addr}{mA:bU}(I:vJ h x dx C mA):∃ od,PySem.W.InstAt h x (PySem.W.instObj C dx) C (some od)/\∀ name,PySem.W.lookIn name od=some (mA name):=
 let ⟨od,ho,hl⟩:=L5 I.ns
 ⟨od,⟨I.obj,rfl,rfl,ho⟩,hl⟩
section
variable {prog:Program}{w:World}{A:Around}{E:aU}{s:Shared}{K:Frag}{x dx C f:Addr}{mA:bU}{name:Str}{v:Value}
end
theorem ig.some_of {v:V}{o:Option Value}(r:ig (some v) o):∃ u,o=some u/\RelV v u:=by
 cases o with
 |none=>exact(show False from r).elim
 |some u=>exact⟨u,rfl,r⟩
section
variable {P:Program}{w:World}{H H':Hp}{h h':Heap}{a C dx:Addr}{fs vz:List (Str×V)}
theorem L6 (aw:cD P w H h)(e:H a=some (.ins C dx fs)):∃ mA,vJ h a dx C mA/\(∀ f,ig (fs.lookup f) (mA f))/\PySem.Within mA (fs.map (·.1))/\fs.length<=1000/\H dx=some (.own a):=by
 obtain⟨d,z,ne,ob,mA,n,r,q⟩:=(show cR P w H h a (.ins C dx fs) from aw a _ e);exact⟨mA,⟨ob,n,ne⟩,r,q,z,d⟩
end
structure vK (K:Frag)(C:Addr):Prop where
 pg:PySem.W.plainGet K C Str.empty=true
 hd:PySem.W.hasDictIn K C=true
 po:PySem.W.plainOver K C=true
 sa:PySem.W.findIn K (.ref C) "__setattr__"=some (some (.builtin "object.__setattr__"))
theorem vK.get {K:Frag}{C:Addr}(c:vK K C)(f:Str):PySem.W.plainGet K C f=true:=c.pg
section
variable {X:Cx}{pins:aL}{σ:St}{H:Hp}{s:Shared}{a C dx:Addr}{fs:List (Str×V)}{f:Str}{v:V}{A:Around}{E:aU}
end
section
variable {X:Cx}{o e value:Expr}{f:Str}{pos pos' BD:Pos}{ta tv:TE}
end
section
variable {X:Cx}{pins:aL}{σ:St}{H:Hp}{s:Shared}{A:Around}{E:aU}{Q:aU}{c:Value}{b:Bool}
inductive gE (K:Frag)(H:Hp):V->Value->Prop where
 |ai:gE K H .ai (.type "NoneType")
 |bl (x:Bool):gE K H (.bl x) (.type "bool")
 |int (i:Int):gE K H (.int i) (.type "int")
 |str (x:Str):gE K H (.str x) (.type "str")
 |nA (x:UInt64):gE K H (.nA x) (.type "float")
 |lst {a:Addr}{xs:Zv}(e:H a=some (.lst xs)):gE K H (.ref a) (.type "list")
 |aY {a:Addr}{o:Obj}{xs:Zv}(e:H a=some (.aY o (.lst xs))):gE K H (.ref a) (.type "list")
 |tup {a:Addr}{xs:Zv}(e:H a=some (.tup xs)):gE K H (.ref a) (.type "tuple")
 |dK {a:Addr}{kvs:bh}(e:H a=some (.dK kvs)):gE K H (.ref a) (.type "dict")
 |dT {a:Addr}{kvs:List (List Key×V)}(e:H a=some (.dT kvs)):gE K H (.ref a) (.type "dict")
 |ins {a C dx:Addr}{fs:List (Str×V)}(e:H a=some (.ins C dx fs))(cl:vK K C)(ha:PySem.W.findIn K (.ref C) "__class__"=some (some (.builtin "object.__class__")))
   (hn:PySem.W.specialIn K (.builtin "object.__class__") "__get__"=some (some (.builtin "getset_descriptor.__get__")))(BE:PySem.W.takesIn K (.builtin "object.__class__")=some true)
   (hm:PySem.W.mroIn K C (.type "object")=some true):gE K H (.ref a) (.ref C)
theorem L7 {x:V}{u t:Value}(I:Inv X pins σ H s)(rx:RelV x u)(ty:gE X.K H x t)(e:PySem.W.kitOne X.K t c=some b)(h:∀ tk,Q (.bool b) { s with toks:=tk }) :
  wpAny (model X.prog X.w) A (call (.builtin "isinstance") [u,c]) Q E s:=by
 cases ty with
 |ai=>cases (show u=Value.none from rx);exact PySem.W.kia_one PySem.W.kitx_none I.eh True.intro e (λz=>nomatch z) h
 |bl y=>cases (show u=Value.bool y from rx);exact PySem.W.kia_one PySem.W.kitx_bool I.eh True.intro e (λz=>nomatch z) h
 |int i=>obtain⟨t,q⟩:=(show ∃ t,u=Value.int i t from rx);cases q;exact PySem.W.kia_one PySem.W.kitx_int I.eh True.intro e (λz=>nomatch z) h
 |str y=>obtain⟨t,q⟩:=(show ∃ t,u=Value.str y t from rx);cases q;exact PySem.W.kia_one PySem.W.kitx_str I.eh True.intro e (λz=>nomatch z) h
 |nA y=>obtain⟨t,q⟩:=(show ∃ t,u=Value.float y t from rx);cases q;exact PySem.W.kia_one PySem.W.kitx_float I.eh True.intro e (λz=>nomatch z) h
 |@lst a xs ea=>
  cases (show u=Value.ref a from rx);obtain⟨_,_,n,_,h1⟩:=(show cR X.prog X.w H s.heap a (.lst xs) from I.aw a _ ea);exact PySem.W.kia_one PySem.W.kitx_list I.eh ⟨_,h1,rfl⟩ e (λz=>nomatch z) h
 |@aY a ob xs ea=>
  cases (show u=Value.ref a from rx);obtain⟨_,_,_,n,_,h1⟩:=(show cR X.prog X.w H s.heap a (.aY ob (.lst xs)) from I.aw a _ ea);exact PySem.W.kia_one PySem.W.kitx_list I.eh ⟨_,h1,rfl⟩ e (λz=>nomatch z) h
 |@tup a xs ea=>
  cases (show u=Value.ref a from rx);obtain⟨_,_,_,p⟩:=(show cR X.prog X.w H s.heap a (.tup xs) from I.aw a _ ea);obtain⟨o,h1,h2,_⟩:=p;exact PySem.W.kia_one PySem.W.kitx_tuple I.eh ⟨o,h1,h2⟩ e (λz=>nomatch z) h
 |@dK a kvs ea=>
  cases (show u=Value.ref a from rx);obtain⟨_,_,vs,_,p⟩:=(show cR X.prog X.w H s.heap a (.dK kvs) from I.aw a _ ea);obtain⟨o,es,ep,h1,h2,_⟩:=p;exact PySem.W.kia_one PySem.W.kitx_dict I.eh ⟨o,h1,h2.1⟩ e (λz=>nomatch z) h
 |@dT a kvs ea=>
  cases (show u=Value.ref a from rx);obtain⟨_,_,xs,_,o,es,ep,h1,h2,_⟩:=(show cR X.prog X.w H s.heap a (.dT kvs) from I.aw a _ ea);exact PySem.W.kia_one PySem.W.kitx_dict I.eh ⟨o,h1,h2.1⟩ e (λz=>nomatch z) h
 |@ins a C dx fs ea cl ha hn BE hm=>
  cases (show u=Value.ref a from rx);obtain⟨mA,O,_⟩:=L6 I.aw ea;obtain⟨od,J,_⟩:=O.look;exact PySem.W.kia_one (PySem.W.kitx_own (cl.get _) cl.hd ha hn BE hm) I.eh J e (λz=>nomatch z) h
end
structure bz (k:Nat)(A:Around):Prop where
 hd:A.handled=none
 dp:A.depth+3*k+5<recursionLimit
 un:A.units+16*k+200<cLine
 gd:A.guards=some []
theorem bz.mono {j k:Nat}{A:Around}(r:bz k A)(h:j<=k):bz j A:=⟨r.hd,by have:=r.dp;omega,by have:=r.un;omega,r.gd⟩
theorem bz.deeper {k:Nat}{A:Around}(r:bz (k+1) A)(env:Env):bz k (A.deeper env):=
 ⟨r.hd,by have:=r.dp;show A.depth+1+3*k+5<_;omega,by have:=r.un;show A.units+3+16*k+200<_;omega,r.gd⟩
theorem bz.depth {k:Nat}{A:Around}(r:bz k A):A.depth<recursionLimit:=by have:=r.dp;omega
theorem bz.units {k:Nat}{A:Around}(r:bz k A):A.units+64<cLine:=by have:=r.un;omega
def vL:TA:=λ_ H Q=>Q [] H
def vM (ta:TE)(tr:TA):TA:=λσ H Q=>ta σ H λx H1=>tr σ H1 λxs H2=>Q (x::xs) H2
section
variable {X:Cx}{e:Expr}{es:List Expr}{te:TE}{t:TA}{pos:Pos}
theorem cq:PA X [] vL:=λ_ _ _ _ H Q I h=>Calls.spliced_nil ⟨[],H,I,.nil,h⟩
theorem bO (ha:PE X e te)(hr:PA X es t)(hs:starEach (e::es) X.env=(false,eval e X.env)::starEach es X.env:=by rfl):PA X (e::es) (vM te t):=by
 intro pos pins s σ H Q I h;rw[hs];show wpAny _ _ (spliced ((false,eval e X.env)::backTo pos (starEach es X.env))) _ _ s;refine Calls.spliced_cons (aH (ha pins s σ H _ I h) λu s1 ⟨x,H1,I1,r1,q1⟩=>?_);exact aH (hr pos pins s1 σ H1 _ I1 q1) λus s2 ⟨xs,H2,I2,r2,q2⟩=>⟨x::xs,H2,I2,.cons r1 r2,q2⟩
def L8 (t:TA):TE:=λσ H Q=>t σ H λxs H1=>xs.length<=sizeLine/\∀ p,H1 p=none->Q (.ref p) (upd H1 p (.tup xs))
def L9 (t:TA):TE:=λσ H Q=>t σ H λxs H1=>xs.length<=sizeLine/\∀ p,H1 p=none->Q (.ref p) (upd H1 p (.lst xs))
theorem L_ {x1}(h:PA X es t):PE X (.Tuple es x1 pos) (L8 t):=by
 intro pins s σ H Q I hq;refine wpAny_Tuple_spliced (aH (h pos pins s σ H _ I hq) λus s1 ⟨xs,H1,I1,r,z,q⟩=>⟨by rw[<- r.length];exact z,?_⟩);have hf:H1 s1.heap.objs.size=none:=I1.aw.fresh (aG _);refine⟨.ref s1.heap.objs.size,upd H1 s1.heap.objs.size (.tup xs),I1.laid (t':=s1.toks) (λb u e=>aX _ e) (aG _) ?_,rfl,q _ hf⟩;exact⟨z,us,r,⟨_,cI _ rfl,rfl,_,rfl⟩⟩
theorem L' (h:PA X es t):PE X (.List es pos) (L9 t):=by
 intro pins s σ H Q I hq;refine wpAny_List_spliced (aH (h pos pins s σ H _ I hq) λus s1 ⟨xs,H1,I1,r,z,q⟩=>⟨by rw[<- r.length];exact z,?_⟩);have hf:H1 s1.heap.objs.size=none:=I1.aw.fresh (aG _);refine⟨.ref s1.heap.objs.size,upd H1 s1.heap.objs.size (.lst xs),I1.laid (t':=s1.toks) (λb u e=>aX _ e) (aG _) ?_,rfl,q _ hf⟩;exact⟨z,us,0,r,cI _ rfl⟩
end
abbrev Sp:=Zv->Hp->VK->XK->Prop
abbrev f_:=List Env->Hp->Shared->XK->Value->Shared->Prop
structure rS (P:Program)(w:World)(K:Frag)(mg:bU)(base:Heap)(A:Around)(outer:List Env)(s:Shared)(H:Hp):Prop where
 frames:A.frames=some outer
 mod:Mod K mg base
 bs:∀ b o,base.get? b=some o->s.heap.get? b=some o/\H b=none
 jM:base.objs.size<=s.heap.objs.size
 ik:s.heap.FunFrames base outer
 l9:∀ b∈iM outer,H b=none
 aw:cD P w H s.heap
 bare:AllBare s.gens
def CE (outer:List Env)(P:Program)(w:World)(H:Hp)(s:Shared)(Q:VK)(u:Value)(s':Shared):Prop:=
 ∃ v H',s'.os=s.os/\AllBare s'.gens/\Un (iM outer) [] H H' s.heap s'.heap/\cD P w H' s'.heap/\RelV v u/\Q v H'
def CR (CX:f_)(outer:List Env)(P:Program)(w:World)(H:Hp)(s:Shared)(Q:VK)(E:XK)(r:Result)(s':Shared):Prop:=
 match r with
 |.ok (.ret u)=>CE outer P w H s Q u s'
 |.ok _=>False
 |.error e=>CX outer H s E e s'
structure cU (P:Program)(w:World)(K:Frag)(mg:bU)(base:Heap)(CX:f_)(k:Nat)(f:Addr)(fd:FuncData)(ps:ay)(sp:Sp):Prop where
 len:∀ vs H Q E,sp vs H Q E->vs.length=ps.length
 run:∀(A:Around)(outer:List Env)(s:Shared)(H:Hp)(args:Args)(us:aR)(vs:Zv)(Q:VK)(E:XK),bz k A->rS P w K mg base A outer s H->BindsTo s fd args (ps.zip us)->Vals vs us->sp vs H Q E ->
  codeAny (model P w) A (.call (.ref f) args) (CR CX outer P w H s Q E) s
theorem cU.mono {P:Program}{w:World}{K:Frag}{mg:bU}{base:Heap}{CX:f_}{j k:Nat}{f:Addr}{fd:FuncData}{ps:ay}{sp:Sp}(F:cU P w K mg base CX j f fd ps sp)(h:j<=k) :
  cU P w K mg base CX k f fd ps sp:=⟨F.len,λA outer s H args us vs Q E hr=>F.run A outer s H args us vs Q E (hr.mono h)⟩
theorem cU.imp {P:Program}{w:World}{K:Frag}{mg:bU}{base:Heap}{CX:f_}{k:Nat}{f:Addr}{fd:FuncData}{ps:ay}{sp BF:Sp}(F:cU P w K mg base CX k f fd ps sp)
  (h:∀ vs H Q E,BF vs H Q E->sp vs H Q E):cU P w K mg base CX k f fd ps BF:=
 ⟨λvs H Q E q=>F.len vs H Q E (h _ _ _ _ q),λA outer s H args us vs Q E hr he hb hv hs=>F.run A outer s H args us vs Q E hr he hb hv (h _ _ _ _ hs)⟩
section
variable {X:Cx}{pins:aL}{σ:St}{H:Hp}{s s':Shared}
theorem Inv.Ma (I:Inv X pins σ H s):rS X.prog X.w X.K X.mg X.base X.A X.stack s H:=
 ⟨I.ok.frames,I.ok.mod,I.bs,cC I.ok.jM I.sz,I.stack,I.AV,I.aw,I.bare⟩
theorem Inv.after {Q:VK}{u:Value}(I:Inv X pins σ H s)(h:CE X.stack X.prog X.w H s Q u s'):EP X pins σ Q u s':=by
 obtain⟨v,H',os,bare,un,aw,r,q⟩:=h;obtain⟨hh,g,d,t,Mb⟩:=s';obtain rfl:Mb=s.os:=os;exact⟨v,H',I.call (h':=hh) (g':=g) (d':=d) (t':=t) (ch:=[]) un aw bare (λb z=>absurd z (by simp)),r,q⟩
end
def Mc (sp:Sp)(kT:Zv)(E:XK)(t:TA):TE:=λσ H Q=>t σ H λvs H1=>sp (vs++kT) H1 Q E
def Binds (K:Frag)(fd:FuncData)(ps:ay)(ds:aR):Prop:=
 ∀(s:Shared)(us:aR),K.In s.heap->(us++ds).length=ps.length->BindsTo s fd ⟨us,[]⟩ (ps.zip (us++ds))
theorem Binds.all {K:Frag}{fd:FuncData}{ps:ay}(h:∀ us:aR,us.length=ps.length->bindArgs fd ⟨us,[]⟩=pure (ps.zip us)):Binds K fd ps []:=λs us _ hl=>by
 rw[append_nil] at hl ⊢;exact .of_eq (h us hl)
def Passes (CX:f_)(X:Cx)(E:XK):Prop:=∀(pins:aL)(σ:St)(H:Hp)(s:Shared)(e:Value)(s':Shared),Inv X pins σ H s->CX X.stack H s E e s'->X.xe e s'
section
variable {X:Cx}{CX:f_}{k:Nat}{f C:Addr}{fd:FuncData}{ps:ay}{sp:Sp}{kT:Zv}{ds:aR}{E:XK}{x m:Str}{p pos apos:Pos}{e o:Expr}{es:List Expr}{ta:TE}{t:TA}
theorem Md {pins:aL}{σ:St}{H:Hp}{s:Shared}{Q:VK}{us:aR}{vs:Zv}(F:cU X.prog X.w X.K X.mg X.base CX k f fd ps sp)(hr:bz k X.A)(hb:Binds X.K fd ps ds)(hd:Vals kT ds)(hx:Passes CX X E)
  (I:Inv X pins σ H s)(r:Vals vs us)(h:sp (vs++kT) H Q E):wpAny (model X.prog X.w) X.A (call (.ref f) us) (EP X pins σ Q) X.xe s:=by
 have r2:Vals (vs++kT) (us++ds):=r.append hd;have hl:(us++ds).length=ps.length:=by rw[<- r2.length];exact F.len _ _ _ _ h
 refine wpAny_call (codeAny_mono (F.run X.A X.stack s H ⟨us,[]⟩ (us++ds) (vs++kT) Q E hr I.Ma (hb s us I.eh hl) r2 h) λr s' hq=>?_)
 cases r with
 |error e=>exact hx pins σ H s e s' I hq
 |ok fl=>
  cases fl with
  |ret u=>exact I.after hq
  |next=>exact False.elim hq
  |brk=>exact False.elim hq
  |cont=>exact False.elim hq
theorem ip (F:cU X.prog X.w X.K X.mg X.base CX k f fd ps sp)(hr:bz k X.A)(hg:Gl X x)(hm:X.mg x=some (.ref f))(hk:PySem.W.keepIn X.K (.ref f)=true)(hb:Binds X.K fd ps ds)(hd:Vals kT ds)(hx:Passes CX X E)
  (ha:PA X (e::es) t)(fN:(x==("__debug__":Str))=false:=by decide)(he:starEach (e::es) X.env=(false,eval e X.env)::starEach es X.env:=by rfl)(dC:(backTo pos (starEach es X.env)).any (·.1)=false:=by rfl) :
  PE X (.Call (.Name x p) (e::es) [] pos) (Mc sp kT E t):=by
 intro pins s σ H Q I h;refine wpAny_Call_Name_kw (Ba I hg hm ?_ fN);refine PySem.W.callWith_K (h₀:=X.base) I.ok.mod.rE hk (aH (ha pos pins s σ H _ I h) λus s1 ⟨vs,H1,I1,r,q⟩=>⟨I1.eh,?_⟩) he dC;exact Md F hr hb hd hx I1 r q
end
section
variable {X:Cx}{CX:f_}{k:Nat}{f C:Addr}{fd:FuncData}{ps ks:ay}{sp:Sp}{E:XK}{x m:Str}{p pos apos nG:Pos}{e o:Expr}{es:List Expr}{ak:List Keyword}{te ta:TE}{t tk:TA}{nm:Option Str}
variable {g:aR->aR->aR}{gV:Zv->Zv->Zv}
end
structure bH (N P:ay)(sc:Scope):Prop where
 kind:sc.kind=.function
 co:sc.isCoroutine=false
 gen:sc.isGenerator=false
 nd:N.Nodup
 pre:N.take P.length=P
 par:∀ x∈P,sc.names.lookup x=some .local\/sc.names.lookup x=some .cell
 Me:∀ y∈sc.names,y.2≠.free
theorem BG {kindOf:Str->Option NameKind}{x:Str}:∀{binds:List (Str×Value)}{m:bU},(∀ v,(x,v)∉binds)->bindL kindOf binds m x=m x
 |[],_,_=>rfl
 |(n,v)::r,m,h=>by
  unfold bindL;rw[BG λw hw=>h w (mem_cons_of_mem _ hw)]
  split
  ·have:x≠n:=by rintro rfl;exact h v mem_cons_self
   simp [this]
  ·rfl
theorem BH {kindOf:Str->Option NameKind}{x:Str}:∀{binds:List (Str×Value)}{m:bU},(∀ v,(x,v)∉binds)->bindC kindOf binds m x=m x
 |[],_,_=>rfl
 |(n,v)::r,m,h=>by
  unfold bindC;rw[BH λw hw=>h w (mem_cons_of_mem _ hw)]
  split
  ·rfl
  ·have:x≠n:=by rintro rfl;exact h v mem_cons_self
   simp [this]
theorem BI {kindOf:Str->Option NameKind}{x:Str}{v:Value}:∀{P:ay}{vs:aR}{i:Nat}{m:bU},P.Nodup->P[i]?=some x->vs[i]?=some v->kindOf x=some .local ->
  bindL kindOf (P.zip vs) m x=some v
 |[],_,_,_,_,h,_,_=>by simp at h
 |_::_,[],_,_,_,_,h,_=>by simp at h
 |p::P,w::vs,0,m,nd,h1,h2,hk=>by
  simp at h1 h2;subst h1;subst h2;show bindL kindOf ((p,w)::P.zip vs) m p=_;unfold bindL;rw[BG λv hv=>(nodup_cons.mp nd).1 (of_mem_zip hv).1,if_pos hk];simp
 |p::P,w::vs,i+1,m,nd,h1,h2,hk=>by
  show bindL kindOf ((p,w)::P.zip vs) m x=_;unfold bindL;exact BI (i:=i) (nodup_cons.mp nd).2 (by simpa using h1) (by simpa using h2) hk
theorem BJ {kindOf:Str->Option NameKind}{x:Str}{v:Value}:∀{P:ay}{vs:aR}{i:Nat}{m:bU},P.Nodup->P[i]?=some x->vs[i]?=some v->kindOf x≠some .local ->
  bindC kindOf (P.zip vs) m x=some v
 |[],_,_,_,_,h,_,_=>by simp at h
 |_::_,[],_,_,_,_,h,_=>by simp at h
 |p::P,w::vs,0,m,nd,h1,h2,hk=>by
  simp at h1 h2;subst h1;subst h2;show bindC kindOf ((p,w)::P.zip vs) m p=_;unfold bindC;rw[BH λv hv=>(nodup_cons.mp nd).1 (of_mem_zip hv).1,if_neg hk];simp
 |p::P,w::vs,i+1,m,nd,h1,h2,hk=>by
  show bindC kindOf ((p,w)::P.zip vs) m x=_;unfold bindC;exact BJ (i:=i) (nodup_cons.mp nd).2 (by simpa using h1) (by simpa using h2) hk
noncomputable def start (N:ay)(vs:Zv):St:=vs.map some++replicate (N.length-vs.length) none
noncomputable def iq (CX:f_)(P:Program)(w:World)(K:Frag)(mg:bU)(base:Heap)(N:ay)(qual:Str)(scope:Scope)(f:Addr)(cd:Value)(A:Around)(outer:List Env)(s:Shared)(H:Hp)(E:XK):Cx where
 prog:=P
 w:=w
 K:=K
 mg:=mg
 base:=base
 A:=A.deeper (envOfC qual scope s.heap.objs.size f cd)
 N:=N
 dA:=s
 l8:=H
 env:=envOfC qual scope s.heap.objs.size f cd
 outer:=outer
 stack:=envOfC qual scope s.heap.objs.size f cd::outer
 ex:=[]
 calm:=true
 fn:=λ_=>true
 pn:=[]
 xe:=λe s'=>wpAny (model P w) (A.deeper (envOfC qual scope s.heap.objs.size f cd)) (leaving (envOfC qual scope s.heap.objs.size f cd) e) (λ_ pJ=>CX outer H s E e pJ) (λe' pJ=>CX outer H s E e' pJ) s'
theorem BK {sc:Scope}{n:Nat}{x:Str}(h:sc.names.lookup x=some .cell):∃ c,(cellsFrom n sc.names []).lookup x=some c:=by
 have q:=PySem.W.cellsFrom_some sc.names n [] (.inl h);exact Option.isSome_iff_exists.mp q
theorem Mf {CX:f_}{P:Program}{w:World}{K:Frag}{mg:bU}{base:Heap}{N ps:ay}{qual:Str}{scope:Scope}{f:Addr}{cd:Value}{A:Around}{outer:List Env}{s s1:Shared}{H:Hp}{E:XK}{us:aR}{vs:Zv}
  (S:bH N ps scope)(hd:A.handled=none)(e0:rS P w K mg base A outer s H)(hl:vs.length=ps.length)(r:Vals vs us)
  (x:InCallC s s.heap.objs.size (bindL (envOfC qual scope s.heap.objs.size f cd).kindOf (ps.zip us) λ_=>none) (cellsFrom (s.heap.objs.size+1) scope.names []) (bindC (envOfC qual scope s.heap.objs.size f cd).kindOf (ps.zip us) λ_=>none) s1) :
  Inv (iq CX P w K mg base N qual scope f cd A outer s H E) [] (start N vs) H s1:=by
 have dC:ps.length<=N.length:=by have:=congrArg List.length S.pre;rw[length_take] at this;omega
 obtain⟨h1,tk,rfl,hk⟩:=x.done;have pK:∀ b:Addr,b∉(iq CX P w K mg base N qual scope f cd A outer s H E).ex:=λb z=>absurd (show b∈([]:List Addr) from z) (by simp)
 refine⟨⟨e0.mod,S.kind,rfl,rfl,aG _,λy z c h1 h2=>?_,λy hy=>?_,λy c _ h=>?_,λ_=>hd,Around.frames_deeper e0.frames,.inr ⟨rfl,rfl⟩,λb z=>absurd z (pK b),e0.bs,e0.jM,λb _ _=>pK b,λb z=>absurd z (pK b),e0.ik,e0.l9⟩,
  rfl,e0.bare,Un.kept hk,⟨_,x.toInCall.ns,λi y v h1 h2 h3=>?_⟩,λy c h=>⟨_,x.cell y c h⟩,e0.aw.fresh (aG _),λy c h=>?_,λp hp=>absurd (show p∈([]:aL) from hp) (by simp),e0.aw.kept hk,?_⟩
 ·exact name_of_addr x.apart (PySem.mem_of_lookup h1) (PySem.mem_of_lookup h2)
 ·have hy:scope.names.lookup y=some .cell\/scope.names.lookup y=some .free:=hy;rcases hy with hy|hy
  ·exact BK hy
  ·exact absurd rfl (S.Me _ (PySem.mem_of_lookup hy))
 ·exact Nat.le_of_lt (x.above y c (PySem.mem_of_lookup h))
 ·have hi:i<vs.length:=by
   unfold start at h2;by_cases hi:i<vs.length
   ·exact hi
   ·rw[getElem?_append_right (by simpa using hi)] at h2;rw[getElem?_replicate] at h2
    split at h2<;>cases h2
  have ha:vs[i]?=some v:=by
   unfold start at h2;rw[getElem?_append_left (by simpa using hi),getElem?_map] at h2
   cases e:vs[i]? with
   |none=>rw[e] at h2;cases h2
   |some a=>rw[e] at h2;cases h2;rfl
  obtain⟨u,hu,rv⟩:=r.get ha
  have hp:ps[i]?=some y:=by
   rw[<- S.pre,getElem?_take_of_lt (by omega)];exact h1
  have BL:ps.Nodup:=by rw[<- S.pre];exact S.nd.sublist (take_sublist _ _)
  refine⟨u,rv,?_⟩;rcases S.par y (mem_of_getElem? hp) with k|k
  ·exact .inl ⟨k,BI BL hp hu k⟩
  ·obtain⟨c,e⟩:=BK (n:=s.heap.objs.size+1) k;refine .inr ⟨.inl k,c,e,?_⟩;have q:=x.cell y c e;rw[BJ BL hp hu (by show scope.names.lookup y≠_;rw[k];decide)] at q;exact q
 ·exact e0.aw.fresh (Nat.le_of_lt (x.above y c (PySem.mem_of_lookup h)))
 ·unfold start;show N.length<=_;rw[length_append,length_map,length_replicate];omega
theorem Mg {CX:f_}{P:Program}{w:World}{K:Frag}{mg:bU}{base:Heap}{k:Nat}{f:Addr}{name qual:Str}{params:Arguments}{body:List Stmt}{scope:Scope}{dV kV doc pm aF ct oc:Value}{an od:Option Addr}
  {kU:Array (Option Value)}{N ps:ay}{sp:Sp}(lk:K.lookup f=some ⟨oc,od,.func (PySem.W.fnOf name qual params body scope dV kV doc pm an aF ct),kU⟩)(bA:PySem.W.codeIn K aF qual=true)(S:bH N ps scope)
  (len:∀ vs H Q E,sp vs H Q E->vs.length=ps.length)
  (fO:∀(A:Around)(outer:List Env)(s:Shared)(H:Hp)(vs:Zv)(Q:VK)(E:XK),bz k (A.deeper (envOfC qual scope s.heap.objs.size f aF))->sp vs H Q E ->
   ∃ t,cn (iq CX P w K mg base N qual scope f aF A outer s H E) body t/\t { nx:=λ_ H'=>Q .ai H',rt:=Q } (start N vs) H) :
  cU P w K mg base CX (k+1) f (PySem.W.fnOf name qual params body scope dV kV doc pm an aF ct) ps sp:=by
 refine⟨len,λA outer s H args us vs Q E hr e0 hb r kW=>?_⟩;have hl:=len _ _ _ _ kW;have KX:K.In s.heap:=e0.mod.rE.keeps λb o e=>(e0.bs b o e).1;have lim:s.heap.NoLimit:=e0.mod.nolimit.keeps λb o e=>(e0.bs b o e).1
 have Mh:∀ y∈ps.zip us,scope.names.lookup y.1=some .local\/(scope.names.lookup y.1=some .cell/\((cellsFrom (s.heap.objs.size+1) scope.names []).lookup y.1).isSome=true):=fun⟨n,v⟩ hy=>by
  rcases S.par n (of_mem_zip hy).1 with q|q
  ·exact .inl q
  ·exact .inr ⟨q,PySem.W.cellsFrom_some _ _ _ (.inl q)⟩
 refine codeAny_call_function hr.depth (KX _ _ lk) rfl S.co S.gen rfl (PySem.W.codeRec_of KX bA) (hb _ _ _ _ ?_);refine wpAny_newFunctionEnv_cells S.kind Mh λenv he s1 x=>?_;subst he;refine⟨lim.keeps x.toInCall.keep,codeAny_func ?_⟩;obtain⟨t,ht,hq⟩:=fO A outer s H vs Q E (hr.deeper _) kW;have I:Inv (iq CX P w K mg base N qual scope f aF A outer s H E) [] (start N vs) H s1:=Mf S hr.hd e0 hl r x;refine wpAny_mono (ht [] s1 (start N vs) H _ I hq) (λfl s' hs=>?_) λe s' hs=>hs
 have fin:∀{aJ:St}{H':Hp}{v:V}{u:Value},Inv (iq CX P w K mg base N qual scope f aF A outer s H E) [] aJ H' s'->RelV v u->Q v H'->CE outer P w H s Q u s':=
  λ{aJ H' v u} J rv q=>⟨v,H',J.os,J.bare,J.base,J.aw,rv,q⟩
 cases fl with
 |ret u=>
  obtain⟨v,aJ,H',J,rv,q⟩:=hs;exact fin J rv q
 |next=>
  obtain⟨aJ,H',J,q⟩:=hs;exact fin (v:=V.ai) (u:=Value.none) J rfl q
 |brk=>
  obtain⟨_,_,_,q⟩:=hs;exact False.elim q
 |cont=>
  obtain⟨_,_,_,q⟩:=hs;exact False.elim q
section
variable {X:Cx}{x:Str}{p pos:Pos}{e:Expr}{es:List Expr}{t:TA}{id T:String}{r:Zv->Hp->VK->Prop}
def rT (r:Zv->Hp->VK->Prop)(t:TA):TE:=λσ H Q=>t σ H λvs H1=>r vs H1 Q
theorem jQ (hc:eA X (.builtin id) r)(hg:Gl X x)(hm:X.mg x=none)(hv:bootBuiltins x=some (.builtin id))(ha:PA X (e::es) t)(hn:x≠"__name__":=by decide)(fN:(x==("__debug__":Str))=false:=by decide)
  (he:starEach (e::es) X.env=(false,eval e X.env)::starEach es X.env:=by rfl)(dC:(backTo pos (starEach es X.env)).any (·.1)=false:=by rfl):PE X (.Call (.Name x p) (e::es) [] pos) (rT r t):=by
 intro pins s σ H Q I h;refine wpAny_Call_Name_kw (kK I hg hm hv ?_ hn fN);exact PyProof.Rows.callWith_builtin1 (aH (ha pos pins s σ H _ I h) λus s1 ⟨vs,H1,I1,r1,q1⟩=>hc pins s1 σ H1 vs us Q I1 r1 q1) he dC
theorem vN (hc:eA X (.type T) r)(hg:Gl X x)(hm:X.mg x=none)(hv:bootBuiltins x=some (.type T))(ha:PA X (e::es) t)(hn:x≠"__name__":=by decide)(fN:(x==("__debug__":Str))=false:=by decide)
  (he:starEach (e::es) X.env=(false,eval e X.env)::starEach es X.env:=by rfl)(dC:(backTo pos (starEach es X.env)).any (·.1)=false:=by rfl):PE X (.Call (.Name x p) (e::es) [] pos) (rT r t):=by
 intro pins s σ H Q I h;refine wpAny_Call_Name_kw (kK I hg hm hv ?_ hn fN);exact PyProof.Rows.callWith_type1 (aH (ha pos pins s σ H _ I h) λus s1 ⟨vs,H1,I1,r1,q1⟩=>hc pins s1 σ H1 vs us Q I1 r1 q1) he dC
end
section
variable {κ:Type} [DecidableEq κ]
noncomputable def cK (kvs:List (κ×V))(k:κ):Option V:=(kvs.find? λkv=>decide (kv.1=k)).map (·.2)
noncomputable def putK (kvs:List (κ×V))(k:κ)(v:V):List (κ×V):=
 if (kvs.any λkv=>decide (kv.1=k))=true then kvs.map (λkv=>if kv.1=k then (kv.1,v) else kv) else kvs++[(k,v)]
theorem nH {p:κ×V}{r:List (κ×V)}{k:κ}(e:p.1=k):cK (p::r) k=some p.2:=by simp [cK,find?_cons,e]
theorem nI {p:κ×V}{r:List (κ×V)}{k:κ}(e:¬ p.1=k):cK (p::r) k=cK r k:=by simp [cK,find?_cons,e]
theorem nJ (k:κ):∀ kvs:List (κ×V),(kvs.any λkv=>decide (kv.1=k))=(cK kvs k).isSome
 |[]=>rfl
 |p::r=>by
  rw[any_cons];by_cases e:p.1=k
  ·simp only[nH e,decide_eq_true e,Bool.true_or,Option.isSome_some]
  ·rw[nI e,decide_eq_false e,Bool.false_or];exact nJ k r
theorem pL (kvs:List (κ×V))(k:κ)(v:V):(putK kvs k v).length<=kvs.length+1:=by
 unfold putK
 split
 ·rw[length_map];omega
 ·rw[length_append,length_cons,length_nil];omega
theorem Mi {kvs:List (κ×V)}{k:κ}(v:V)(h:cK kvs k=none):putK kvs k v=kvs++[(k,v)]:=by
 unfold putK;rw[nJ,h];exact if_neg (by decide)
theorem ig.pM {o:Option V}{u:Option Value}(r:ig o u):o.isSome=u.isSome:=by
 cases o with
 |none=>cases u with
  |none=>rfl
  |some _=>exact(show False from r).elim
 |some _=>cases u with
  |none=>exact(show False from r).elim
  |some _=>rfl
theorem KV.val {kvs:List (κ×V)}{vs:List (κ×Value)}(r:KV kvs vs)(k:κ):ig (cK kvs k) (valueAt vs k):=by
 unfold KV at r
 induction r with
 |nil=>exact True.intro
 |@cons p q ps qs h t ih=>
  obtain⟨h1,h2⟩:=h;by_cases e:p.1=k
  ·have e':q.1=k:=h1.symm.trans e;have b:valueAt (q::qs) k=some q.2:=by simp [valueAt,find?_cons,e']
   rw[nH e,b];exact h2
  ·have e':¬ q.1=k:=λz=>e (h1.trans z);have b:valueAt (q::qs) k=valueAt qs k:=by simp [valueAt,find?_cons,e']
   rw[nI e,b];exact ih
theorem KV.any {kvs:List (κ×V)}{vs:List (κ×Value)}(r:KV kvs vs)(k:κ):(kvs.any λkv=>decide (kv.1=k))=vs.any λkv=>decide (kv.1=k):=by
 unfold KV at r
 induction r with
 |nil=>rfl
 |cons h t ih=>rw[any_cons,any_cons,ih,h.1]
theorem KV.nK {kvs:List (κ×V)}{vs:List (κ×Value)}(r:KV kvs vs)(k:κ){y:V}{u:Value}(ry:RelV y u) :
  KV (kvs.map λkv=>if kv.1=k then (kv.1,y) else kv) (vs.map λkv=>if kv.1=k then (kv.1,u) else kv):=by
 unfold KV at r ⊢
 induction r with
 |nil=>exact .nil
 |@cons p q ps qs h t ih=>
  rw[map_cons,map_cons];refine .cons ?_ ih;obtain⟨h1,h2⟩:=h;by_cases e:p.1=k
  ·rw[if_pos e,if_pos (h1.symm.trans e)];exact⟨h1,ry⟩
  ·rw[if_neg e,if_neg (λz=>e (h1.trans z))];exact⟨h1,h2⟩
theorem KV.put {kvs:List (κ×V)}{vs:List (κ×Value)}(r:KV kvs vs)(k:κ){y:V}{u:Value}(ry:RelV y u):KV (putK kvs k y) (stored vs k u):=by
 unfold putK stored;rw[r.any k];by_cases e:(vs.any λkv=>decide (kv.1=k))=true
 ·rw[if_pos e,if_pos e];exact r.nK k ry
 ·rw[if_neg e,if_neg e];exact Paired.snoc r ⟨rfl,ry⟩
theorem KV.length {kvs:List (κ×V)}{vs:List (κ×Value)}(r:KV kvs vs):kvs.length=vs.length:=Paired.length r
end
theorem mj {P:Program}{w:World}{k:Key}{u:Value}(r:RelV (kV k) u):(ck P w).is k u=true:=by
 cases k with
 |inl i=>obtain⟨t,e⟩:=(show ∃ t,u=Value.int i t from r);subst e;exact Kx P w i t
 |inr x=>obtain⟨t,e⟩:=(show ∃ t,u=Value.str x t from r);subst e;exact Ky P w x t
theorem BM {P:Program}{w:World}:∀{ks:List Key}{us:aR},Vals (ks.map kV) us->ItemsAre (ck P w) ks us
 |[],_,r=>by rw[map_nil] at r;cases r;exact .nil
 |k::ks,_,r=>by
  rw[map_cons] at r
  cases r with
  |cons h t=>exact .cons (mj h) (BM t)
abbrev KT (H:Hp):List (List Key×V)->List (List Key×Addr×Value)->Prop:=Paired λp q=>p.1=q.1/\H q.2.1=some (.tup (p.1.map kV))/\RelV p.2 q.2.2
theorem KT.val {H:Hp}{kvs:List (List Key×V)}{xs:List (List Key×Addr×Value)}(r:KT H kvs xs)(k:List Key):ig (cK kvs k) ((atKey xs k).map (·.2)):=by
 induction r with
 |nil=>exact True.intro
 |@cons p q ps qs h t ih=>
  obtain⟨h1,_,h2⟩:=h;by_cases e:p.1=k
  ·have e':q.1=k:=h1.symm.trans e;have b:atKey (q::qs) k=some q.2:=by simp [atKey,find?_cons,e']
   rw[nH e,b];exact h2
  ·have e':¬ q.1=k:=λz=>e (h1.trans z);have b:atKey (q::qs) k=atKey qs k:=by simp [atKey,find?_cons,e']
   rw[nI e,b];exact ih
theorem KT.nK {H:Hp}{kvs:List (List Key×V)}{xs:List (List Key×Addr×Value)}(r:KT H kvs xs)(k:List Key){y:V}{u:Value}(ry:RelV y u) :
  KT H (kvs.map λkv=>if kv.1=k then (kv.1,y) else kv) (xs.map (putAt k u)):=by
 induction r with
 |nil=>exact .nil
 |@cons p q ps qs h t ih=>
  rw[map_cons,map_cons];refine .cons ?_ ih;obtain⟨h1,h2,h3⟩:=h;unfold putAt;by_cases e:p.1=k
  ·rw[if_pos e,if_pos (h1.symm.trans e)];exact⟨h1,h2,ry⟩
  ·rw[if_neg e,if_neg (λz=>e (h1.trans z))];exact⟨h1,h2,h3⟩
theorem KT.put {H:Hp}{kvs:List (List Key×V)}{xs:List (List Key×Addr×Value)}(r:KT H kvs xs)(k:List Key){b:Addr}{y:V}{u:Value}(hb:H b=some (.tup (k.map kV)))(ry:RelV y u) :
  KT H (putK kvs k y) (storedH xs k b u):=by
 have e:(kvs.any λkv=>decide (kv.1=k))=(atKey xs k).isSome:=by
  rw[nJ,(r.val k).pM,Option.isSome_map]
 unfold putK storedH;rw[e];by_cases q:(atKey xs k).isSome=true
 ·rw[if_pos q,if_pos q];exact r.nK k ry
 ·rw[if_neg q,if_neg q];exact Paired.snoc r ⟨rfl,hb,ry⟩
theorem KT.keeps {H H':Hp}{kvs:List (List Key×V)}{xs:List (List Key×Addr×Value)}(r:KT H kvs xs)(ht:∀ b ys,H b=some (.tup ys)->H' b=some (.tup ys)):KT H' kvs xs:=
 Paired.vw r λ_ _ z=>⟨z.1,ht _ _ z.2.1,z.2.2⟩
section
variable {P:Program}{w:World}{H:Hp}{h:Heap}{a:Addr}
theorem BN {u:HO}(ok:cD P w H h)(e:Rd H a u):cR P w H h a u:=e.ok ok
theorem nL {kvs:bh}(ok:cD P w H h)(e:Rd H a (.dK kvs)):kvs.length<=sizeLine/\(a==sysModules)=false/\∃ vs,KV kvs vs/\h.DictOf (ck P w) a vs:=
 show cR P w H h a (.dK kvs) from BN ok e
theorem pN {kvs:bh}(ok:cD P w H h)(e:H a=some (.dK kvs)):kvs.length<=sizeLine/\(a==sysModules)=false/\∃ vs,KV kvs vs/\h.DictOf (ck P w) a vs:=nL ok (.inl e)
theorem nM {ks:List Key}(ok:cD P w H h)(e:H a=some (.tup (ks.map kV))):(tupleKind (ck P w)).is h ks a:=by
 obtain⟨_,its,r,o,h1,h2,n,h3⟩:=(show cR P w H h a (.tup (ks.map kV)) from ok a _ e);exact⟨o,its.toArray,n,h1,h2,h3,by simpa using BM r⟩
theorem pO {kvs:List (List Key×V)}(ok:cD P w H h)(e:Rd H a (.dT kvs)):kvs.length<=sizeLine/\(a==sysModules)=false /\
  ∃ xs,KT H kvs xs/\h.DictOfH (tupleKind (ck P w)) a xs:=by
 obtain⟨z,y,xs,r,o,es,ep,h1,h2,h3,h4,h5⟩:=(show cR P w H h a (.dT kvs) from BN ok e);refine⟨z,y,xs,r,o,es,ep,h1,h2,h3,h4,λx hx=>?_,h5⟩
 have all:∀{l:List (List Key×V)}{m:List (List Key×Addr×Value)},KT H l m->∀ x∈m,(tupleKind (ck P w)).is h x.1 x.2.1:=by
  intro l m q
  induction q with
  |nil=>intro x hx;exact nomatch hx
  |@cons p q ps qs hq t ih=>
   intro x hx;rcases mem_cons.mp hx with e|hx
   ·subst e;exact nM ok (by rw[<- hq.1];exact hq.2.1)
   ·exact ih x hx
 exact all r x hx
theorem Mj {kvs:List (List Key×V)}(ok:cD P w H h)(e:H a=some (.dT kvs)):kvs.length<=sizeLine/\(a==sysModules)=false /\
  ∃ xs,KT H kvs xs/\h.DictOfH (tupleKind (ck P w)) a xs:=pO ok (.inl e)
end
def dD (H:Hp)(a:Addr)(y:V)(r:Option V):Prop:=
 (∃ kvs k,Rd H a (.dK kvs)/\y=kV k/\r=cK kvs k)\/∃ kvs k b,Rd H a (.dT kvs)/\y=.ref b/\H b=some (.tup (k.map kV))/\r=cK kvs k
def iQ (H:Hp)(a:Addr)(y v:V)(H':Hp):Prop:=
 (∃ kvs k,H a=some (.dK kvs)/\y=kV k/\kvs.length<sizeLine/\H'=upd H a (.dK (putK kvs k v))) \/
 ∃ kvs k b,H a=some (.dT kvs)/\y=.ref b/\H b=some (.tup (k.map kV))/\kvs.length<sizeLine/\H'=upd H a (.dT (putK kvs k v))
theorem dD.k {H:Hp}{a:Addr}{kvs:bh}{k:Key}(e:H a=some (.dK kvs)):dD H a (kV k) (cK kvs k):=.inl ⟨kvs,k,.inl e,rfl,rfl⟩
theorem dD.t {H:Hp}{a b:Addr}{kvs:List (List Key×V)}{k:List Key}(e:H a=some (.dT kvs))(eb:H b=some (.tup (k.map kV))):dD H a (.ref b) (cK kvs k):=.inr ⟨kvs,k,b,.inl e,rfl,eb,rfl⟩
theorem iQ.k {H:Hp}{a:Addr}{kvs:bh}{k:Key}{v:V}(e:H a=some (.dK kvs))(hl:kvs.length<sizeLine):iQ H a (kV k) v (upd H a (.dK (putK kvs k v))):=.inl ⟨kvs,k,e,rfl,hl,rfl⟩
theorem iQ.t {H:Hp}{a b:Addr}{kvs:List (List Key×V)}{k:List Key}{v:V}(e:H a=some (.dT kvs))(eb:H b=some (.tup (k.map kV)))(hl:kvs.length<sizeLine) :
  iQ H a (.ref b) v (upd H a (.dT (putK kvs k v))):=.inr ⟨kvs,k,b,e,rfl,eb,hl,rfl⟩
section
variable {X:Cx}{pins:aL}{σ:St}{H:Hp}{s:Shared}{a:Addr}{y v:V}{u r:Value}{o:Option V}{A:Around}{E:aU}
theorem Inv.big (I:Inv X pins σ H s):sysModules<s.heap.objs.size:=by
 have h:mainGlobals<s.heap.objs.size:=(I.mod.glob.keeps I.bk).lt;exact Nat.lt_trans (by decide) h
theorem vO {Q:aU}(hu:A.units+1<cLine)(I:Inv X pins σ H s)(g:dD H a y (some v))(ry:RelV y u)(h:∀ w' s',Inv X pins σ H s'->RelV v w'->Q w' s') :
  wpAny (model X.prog X.w) A (getItem (.ref a) u) Q E s:=by
 rcases g with ⟨kvs,k,e,ey,l⟩|⟨kvs,k,b,e,ey,eb,l⟩
 ·subst ey;obtain⟨z,hd,vs,rel,dd⟩:=nL I.aw e;obtain⟨w',hw,cO⟩:=ig.some_of (v:=v) (o:=valueAt vs k) (by rw[l];exact rel.val k);exact wpAny_getItem_of (mj ry) dd.mapOf hw (h w' _ (I.tok _) cO)
 ·subst ey;cases (show u=Value.ref b from ry);obtain⟨z,hd,xs,rel,dd⟩:=pO I.aw e;obtain⟨w',hw,cO⟩:=ig.some_of (v:=v) (o:=(atKey xs k).map (·.2)) (by rw[l];exact rel.val k);obtain⟨p,hp,dE⟩:=Option.map_eq_some_iff.mp hw;refine wpAny_getItem_heap (tupleKind_room_in1 hu) (nM I.aw eb) dd hp ?_;rw[dE];exact h w' _ (I.tok _) cO
theorem BO {Q:aU}(hu:A.units+1<cLine)(I:Inv X pins σ H s)(g:dD H a y o)(ry:RelV y u)(h:∀ s',Inv X pins σ H s'->Q (.bool o.isSome) s') :
  wpAny (model X.prog X.w) A (compareOp .In u (.ref a)) Q E s:=by
 rcases g with ⟨kvs,k,e,ey,l⟩|⟨kvs,k,b,e,ey,eb,l⟩
 ·subst ey;obtain⟨z,hd,vs,rel,dd⟩:=nL I.aw e;refine wpAny_in_of (mj ry) hd dd.mapOf ?_;rw[<- (rel.val k).pM,<- l];exact h _ (I.tok _)
 ·subst ey;cases (show u=Value.ref b from ry);obtain⟨z,hd,xs,rel,dd⟩:=pO I.aw e;refine wpAny_in_heap (tupleKind_room_in1 hu) (nM I.aw eb) hd dd ?_;have q:=(rel.val k).pM;rw[Option.isSome_map] at q;rw[<- q,<- l];exact h _ (I.tok _)
theorem BP {Q:aU}(hu:A.units+1<cLine)(I:Inv X pins σ H s)(g:dD H a y o)(ry:RelV y u)(h:∀ s',Inv X pins σ H s'->Q (.bool (!o.isSome)) s') :
  wpAny (model X.prog X.w) A (compareOp .NotIn u (.ref a)) Q E s:=by
 rcases g with ⟨kvs,k,e,ey,l⟩|⟨kvs,k,b,e,ey,eb,l⟩
 ·subst ey;obtain⟨z,hd,vs,rel,dd⟩:=nL I.aw e;refine wpAny_notIn_of (mj ry) hd dd.mapOf ?_;rw[<- (rel.val k).pM,<- l];exact h _ (I.tok _)
 ·subst ey;cases (show u=Value.ref b from ry);obtain⟨z,hd,xs,rel,dd⟩:=pO I.aw e;refine wpAny_notIn_heap (tupleKind_room_in1 hu) (nM I.aw eb) hd dd ?_;have q:=(rel.val k).pM;rw[Option.isSome_map] at q;rw[<- q,<- l];exact h _ (I.tok _)
theorem rV {h':Heap}{t':Nat}{ob:HO}(I:Inv X pins σ H s)(mu:pf (H a))(hs:Heap.SameBut a s.heap h')(he:∃ q,h'.get? a=some q)(new:cR X.prog X.w (upd H a ob) h' a ob) :
  Inv X pins σ (upd H a ob) { s with heap:=h',toks:=t' }:=
 I.write (x:=a) (e:=a) mu (.inl rfl) (λb q hb z=>(hs.2 b hb).trans z) he new
theorem rW {P:Program}{w:World}{H':Hp}{h':Heap}{kvs:bh}{vs:List (Key×Value)}(z:kvs.length<=sizeLine)(hd:(a==sysModules)=false)(rel:KV kvs vs)(dd:h'.DictOf (ck P w) a vs) :
  cR P w H' h' a (.dK kvs):=⟨z,hd,vs,rel,dd⟩
theorem BQ {H':Hp}{Q:Unit->Shared->Prop}(hu:A.units+1<cLine)(I:Inv X pins σ H s)(g:iQ H a y v H')(ry:RelV y u)(rv:RelV v r)(h:∀ s',Inv X pins σ H' s'->Q () s') :
  wpAny (model X.prog X.w) A (setItem (.ref a) u r) Q E s:=by
 rcases g with ⟨kvs,k,e,ey,l,eH⟩|⟨kvs,k,b,e,ey,eb,l,eH⟩
 ·subst ey eH;obtain⟨z,hd,vs,rel,dd⟩:=pN I.aw e;have hz:vs.length<=sizeLine:=by rw[<- rel.length];exact z
  have hl:(putK kvs k v).length<=sizeLine:=by have:=pL kvs k v;omega
  refine wpAny_setItem_pairs (hsz:=hz) (mj ry) dd λh' jk hs=>h _ ?_;have he:∃ q,h'.get? a=some q:=let ⟨q,_,_,hq,_⟩:=jk;⟨q,hq⟩
  exact rV I (by rw[e];exact True.intro) hs he (rW hl hd (rel.put k rv) jk)
 ·subst ey eH;cases (show u=Value.ref b from ry);obtain⟨z,hd,xs,rel,dd⟩:=Mj I.aw e;have hz:xs.length<=sizeLine:=by rw[<- Paired.length rel];exact z
  have hl:(putK kvs k v).length<=sizeLine:=by have:=pL kvs k v;omega
  refine wpAny_setItem_heap (hsz:=hz) (tupleKind_room_in1 hu) (nM I.aw eb) dd λh' jk hs=>h _ ?_;obtain⟨q,es,ep,hq,h2,h3,h4,_,h5⟩:=jk;refine rV I (by rw[e];exact True.intro) hs ⟨q,hq⟩ ⟨hl,hd,_,(rel.put k eb rv).keeps λc ys ec=>?_,q,es,ep,hq,h2,h3,h4,h5⟩;rw[aB (vv ec e (λz=>nomatch z))];exact ec
end
section
variable {X:Cx}{pins:aL}{σ:St}{H:Hp}{s:Shared}{a:Addr}{kvs:bh}{k:Key}{u:Value}{A:Around}{E:aU}
end
def pQ (i:Expr):Prop:=∀ ov iv,subscripted i false ov iv=operate [ov,iv] (getItem ov iv)
theorem BR {prog:Program}{w:World}{A:Around}{E:aU}{s:Shared}{env:Env}{value slice:Expr}{pos:Pos}{T id:String}{Q:aU}
  (hl:typeLookup (.type T) "__getitem__"=pure (some (.builtin id)))(hs:pQ slice)
  (h:wpAny (model prog w) A (eval value env) (λo bq=>wpAny (model prog w) A (eval slice env) (λi fA=>fA.TypeIs o T/\wpAny (model prog w) A (getItem o i) Q E fA) E bq) E s) :
  wpAny (model prog w) A (eval (.Subscript value slice pos) env) Q E s:=by
 refine Subscript_ (wpAny_mono h (λo bq h₁=>wpAny_mono h₁ (λi fA mm=>?_) λ_ _ x=>x) λ_ _ x=>x);obtain⟨hT,mm⟩:=mm;unfold subscriptTail;refine aj ?_;rw[getitemInPython_of_ne hT.not_modules];refine aj (wpAny_specialOf hT hl ?_)
 have fin:wpAny (model prog w) A (subscripted slice false o i) (λr nN=>wpAny (model prog w) A (letTemporaryGo value o r >>= λ_=>pure r) Q E nN) E fA:=by
  rw[hs o i];exact wpAny_operating (wpAny_mono mm (λr nN Mk=>aj (wpAny_letTemporaryGo (aP Mk))) λ_ _ x=>x)
 first
  |exact aP (aj fin)
  |exact aj (aP (aj fin))
  |exact aj fin
theorem vP {X:Cx}{pins:aL}{σ:St}{H:Hp}{s:Shared}{a:Addr}{y:V}{o:Option V}(I:Inv X pins σ H s)(g:dD H a y o):s.TypeIs (.ref a) "dict":=by
 rcases g with ⟨kvs,k,e,_,_⟩|⟨kvs,k,b,e,_,_,_⟩
 ·obtain⟨_,_,vs,_,dd⟩:=nL I.aw e;exact dd.typeIs
 ·obtain⟨_,_,xs,_,dd⟩:=pO I.aw e;exact dd.typeIs
def Ml (td ty:TE):TE:=λσ H Q=>td σ H λx H1=>ty σ H1 λy H2=>∃ a v,x=.ref a/\dD H2 a y (some v)/\Q v H2
def Mm (td ty tv:TE):TS:=λD σ H=>tv σ H λv H1=>td σ H1 λx H2=>ty σ H2 λy H3=>∃ a H4,x=.ref a/\iQ H3 a y v H4/\D.nx σ H4
section
variable {X:Cx}{o i e value:Expr}{pos pos' BD:Pos}{td ty tv:TE}
theorem f' (hu:X.A.units+1<cLine)(ho:PE X o td)(hi:PE X i ty)(hs:pQ i):PE X (.Subscript o i pos) (Ml td ty):=by
 intro pins s σ H Q I h;refine BR PySem.F.slot_dict_getitem.lookup hs (aH (ho pins s σ H _ I h) λu s1 ⟨x,H1,I1,rx,q1⟩=>aH (hi pins s1 σ H1 _ I1 q1) λiv s2 ⟨y,H2,I2,ry,a,v,ex,g,q2⟩=>?_);subst ex;obtain rfl:u=Value.ref a:=rx;exact⟨vP I2 g,vO hu I2 g ry λw' s3 I3 cO=>⟨v,H2,I3,cO,q2⟩⟩
theorem jR (hu:X.A.units+1<cLine)(ho:PE X o td)(hi:PE X i ty)(hv:PE X value tv)(hs:swapsWith value (some (.Subscript o i pos')) pos.line X.env=pure false) :
  PS X (.Assign [.Subscript o i pos'] value pos) (Mm td ty tv):=by
 intro pins s σ H D I h;refine wpAny_Assign_Subscript (aH (hv pins s σ H _ I h) λr s1 ⟨v,H1,I1,rv,q1⟩=>aH (ho pins s1 σ H1 _ I1 q1) λu s2 ⟨x,H2,I2,rx,q2⟩=>aH (hi pins s2 σ H2 _ I2 q2) λiv s3 ⟨y,H3,I3,ry,a,H4,ex,g,q3⟩=>?_) hs;subst ex;obtain rfl:u=Value.ref a:=rx;exact BQ hu I3 g ry rv λs4 I4=>⟨σ,H4,I4,q3⟩
end
theorem BS {P:Program}{w:World}{H:Hp}(h:Heap)(hb:sysModules<h.objs.size):cR P w H (h.push { cls:=.type "dict",data:=.dict #[] }) h.objs.size (.dK []):=
 ⟨Nat.zero_le _,beq_eq_false_iff_ne.mpr (Ne.symm (bN hb)),[],.nil,Heap.DictOf.new h⟩
theorem Mn {P:Program}{w:World}{H:Hp}(h:Heap)(hb:sysModules<h.objs.size):cR P w H (h.push { cls:=.type "dict",data:=.dict #[] }) h.objs.size (.dT []):=
 ⟨Nat.zero_le _,beq_eq_false_iff_ne.mpr (Ne.symm (bN hb)),[],.nil,_,#[],0,cI _ rfl,⟨rfl,rfl,rfl⟩,rfl,rfl,nodup_nil⟩
def Mo:TE:=λ_ H Q=>∀ p,H p=none->Q (.ref p) (upd H p (.dK []))
def Mp:TE:=λ_ H Q=>∀ p,H p=none->Q (.ref p) (upd H p (.dT []))
section
variable {X:Cx}{pos:Pos}
theorem Mq:PE X (.Dict [] [] pos) Mo:=λpins s σ H Q I h=>
 wpAny_Dict_empty ⟨.ref s.heap.objs.size,_,I.laid (a:=s.heap.objs.size) (o:=.dK []) (t':=s.toks) (λ_ _ q=>aX _ q) (aG _) (BS s.heap I.big),rfl,h _ (I.aw.fresh (aG _))⟩
theorem Mr:PE X (.Dict [] [] pos) Mp:=λpins s σ H Q I h=>
 wpAny_Dict_empty ⟨.ref s.heap.objs.size,_,I.laid (a:=s.heap.objs.size) (o:=.dT []) (t':=s.toks) (λ_ _ q=>aX _ q) (aG _) (Mn s.heap I.big),rfl,h _ (I.aw.fresh (aG _))⟩
end
def vQ:List (TE×TE)->St->Hp->(List (V×V)->Hp->Prop)->Prop
 |[],_,H,Q=>Q [] H
 |(tk,tv)::r,σ,H,Q=>tk σ H λx H1=>tv σ H1 λy H2=>vQ r σ H2 λps H3=>Q ((x,y)::ps) H3
abbrev VV:List (V×V)->List (Value×Value)->Prop:=Paired λp q=>RelV p.1 q.1/\RelV p.2 q.2
def rX (X:Cx)(pos:Pos)(keys:List (Option Expr))(values:List Expr)(jS:List (TE×TE)):Prop:=
 ∀(pins:aL)(s:Shared)(σ:St)(H:Hp)(Q:List (V×V)->Hp->Prop),Inv X pins σ H s->vQ jS σ H Q ->
  wpAny (model X.prog X.w) X.A (evalPairs (pairTrees keys values X.env pos)) (λvs s'=>∃ ps H',Inv X pins σ H' s'/\VV ps vs/\Q ps H') X.xe s
theorem BU {X:Cx}{pos:Pos}:rX X pos [] [] []:=λpins s σ H Q I h=>pairTrees_nil_walk ⟨[],H,I,.nil,h⟩
theorem jT {X:Cx}{pos:Pos}{k v:Expr}{ks:List (Option Expr)}{vs:List Expr}{tk tv:TE}{jS:List (TE×TE)}(hk:PE X k tk)(hv:PE X v tv)(hr:rX X pos ks vs jS) :
  rX X pos (some k::ks) (v::vs) ((tk,tv)::jS):=λpins s σ H Q I h=>
 pairTrees_cons_walk (aH (hk pins s σ H _ I h) λu s1 ⟨x,H1,I1,rx,q1⟩=>aH (hv pins s1 σ H1 _ I1 q1) λw2 s2 ⟨y,H2,I2,ry,q2⟩=>
  aH (hr pins s2 σ H2 _ I2 q2) λws s3 ⟨ps,H3,I3,rel,q3⟩=>⟨(x,y)::ps,H3,I3,.cons ⟨rx,ry⟩ rel,q3⟩)
noncomputable def iR (kvs more:bh):bh:=more.foldl (λacc kv=>putK acc kv.1 kv.2) kvs
theorem KV.merge:∀{more:bh}{rs:List (Key×Value)}{kvs:bh}{vs:List (Key×Value)},KV more rs->KV kvs vs->KV (iR kvs more) (merged vs rs):=by
 intro more rs kvs vs r;unfold KV at r
 induction r generalizing kvs vs with
 |nil=>intro q;exact q
 |@cons p q ps qs h t ih=>
  intro r0
  have e:KV (putK kvs p.1 p.2) (stored vs q.1 q.2):=by
   have:=r0.put p.1 h.2;rw[<- h.1];exact this
  exact ih e
theorem vR:∀(more kvs:bh),(iR kvs more).length<=kvs.length+more.length
 |[],kvs=>by show kvs.length<=kvs.length+0;omega
 |p::r,kvs=>by
  have h1:=vR r (putK kvs p.1 p.2);have h2:=pL kvs p.1 p.2;show(iR (putK kvs p.1 p.2) r).length<=_;rw[length_cons];omega
theorem BV {P:Program}{w:World}:∀{kvs:bh}{ws:List (Value×Value)},VV (kvs.map λkv=>(kV kv.1,kv.2)) ws->∃ rs,Carries (ck P w) ws rs/\KV kvs rs
 |[],_,r=>by rw[map_nil] at r;cases r;exact⟨[],True.intro,.nil⟩
 |p::kvs,_,r=>by
  rw[map_cons] at r
  cases r with
  |@cons a b as bs h t=>
   obtain⟨rs,c,q⟩:=BV (P:=P) (w:=w) t;obtain⟨b1,b2⟩:=b;exact⟨(p.1,b2)::rs,⟨mj h.1,rfl,c⟩,.cons ⟨rfl,h.2⟩ q⟩
def Ms (jS:List (TE×TE)):TE:=λσ H Q=>∀ p,H p=none->vQ jS σ (upd H p (.dK [])) λps H2=>H2 p=some (.dK [])/\∃ kvs:bh,ps=kvs.map (λkv=>(kV kv.1,kv.2))/\kvs.length<=15/\Q (.ref p) (upd H2 p (.dK (iR [] kvs)))
theorem BW {X:Cx}{pos:Pos}{keys:List (Option Expr)}{values:List Expr}{jS:List (TE×TE)}(h:rX X pos keys values jS)(vS:keys.all (·.isSome)=true)(hl:keys.length=values.length)(h0:keys≠[])
  (vT:keys.length<=15):PE X (.Dict keys values pos) (Ms jS):=by
 intro pins s σ H Q I q;have hn:=I.aw.fresh (aG s.heap.objs.size);have I1:=I.laid (a:=s.heap.objs.size) (o:=.dK []) (h':=s.heap.push { cls:=.type "dict",data:=.dict #[] }) (t':=s.toks) (λ_ _ q=>aX _ q) (aG _) (BS s.heap I.big);refine wpAny_Dict_walk (knd:=ck X.prog X.w) vS hl h0 vT (aH (h pins _ σ _ _ I1 (q _ hn)) λws s2 ⟨ps,H2,I2,rel,e,kvs,ep,lk,q2⟩=>?_);subst ep;obtain⟨rs,c,rk⟩:=BV (P:=X.prog) (w:=X.w) rel;obtain⟨z,hd,vs0,r0,dd⟩:=pN I2.aw e;cases r0;refine⟨rs,c,dd,λh' jk hs=>⟨.ref s.heap.objs.size,_,?_,rfl,q2⟩⟩
 have hz:(iR [] kvs).length<=sizeLine:=by
  have h1:=vR kvs [];rw[length_nil] at h1;rw[sizeLine_eq];omega
 have he:∃ q,h'.get? s.heap.objs.size=some q:=let ⟨q,_,_,hq,_⟩:=jk;⟨q,hq⟩
 exact rV I2 (by rw[e];exact True.intro) hs he (rW hz hd (rk.merge .nil) jk)
section
variable {X:Cx}{pins:aL}{σ:St}{H:Hp}{s:Shared}{a:Addr}{y d:V}{u r:Value}{o:Option V}{A:Around}{E:aU}
end
section
variable {X:Cx}{o e f:Expr}{apos bK:Pos}{td ty tx:TE}
end
section
variable {X:Cx}{pins:aL}{σ:St}{H:Hp}{s:Shared}{a:Addr}{kvs:bh}{A:Around}{E:aU}
end
section
variable {X:Cx}{pins:aL}{σ:St}{H:Hp}{s:Shared}{a:Addr}{y:V}{u:Value}{A:Around}{E:aU}
end
end L2
namespace HT
open PySem PyProof.Rows
section
open PySem.SeqAt
open PySem.AutoSeq1 (wpAny_loadPart')
open PySem.MeetsSeq PySem.MeetsSeq2 PySem.MeetsSeq3
end
section
variable {prog:Program}{w:World}{A:Around}{E:aU}{s:Shared}
theorem Mu {t b:Addr}{vs ws:aR}{Q:aU}(ht:IsTup s.heap t vs.toArray)(hb:IsTup s.heap b ws.toArray)(hv:vs≠[])
  (h1:ws=[]->Q (.ref t) s)(h2:ws≠[]->Q (.ref s.heap.objs.size) { s with heap:=s.heap.push { cls:=.type "tuple",data:=.seq (vs++ws).toArray } })
  (hsz:vs.length+ws.length<=sizeLine):wpAny (model prog w) A (binaryOp .Add (.ref t) (.ref b)) Q E s:=by
 obtain⟨⟨cls,dd,data,sl⟩,ho,hc,n,hd⟩:=id ht;obtain⟨⟨Mw,nO,data2,rY⟩,mn,iS,n2,hd2⟩:=id hb;simp only at hc hd iS hd2;subst hc hd iS hd2;have e:vs.toArray++ws.toArray=(vs++ws).toArray:=by simp
 by_cases hw:ws=[]
 ·exact concat_meets ⟨_,ho,rfl⟩ ⟨_,mn,rfl⟩ noFill_tuple_add seq_tuple_add PySem.F.slot_tuple_add PySem.F.entry_tuple_add (PySem.F.args_tuple_add_2 _ _)
   (tuple_addW1 t b vs.toArray ws.toArray n n2 dd nO sl rY (by simpa using hv) (by simp [hw])) ⟨ho,mn,h1 hw⟩
 ·refine concat_meets ⟨_,ho,rfl⟩ ⟨_,mn,rfl⟩ noFill_tuple_add seq_tuple_add PySem.F.slot_tuple_add PySem.F.entry_tuple_add (PySem.F.args_tuple_add_2 _ _)
   (tuple_addW2 t b vs.toArray ws.toArray n n2 dd nO sl rY (by simpa using hv) (by simpa using hw) (by rw[size_toArray,size_toArray];exact hsz)) ⟨ho,mn,?_⟩
  rw[e];exact h2 hw
noncomputable def aW (n d:Nat):Option Int->Nat
 |none=>d
 |some v=>if v<0 then (v+(n:Int)).toNat else min v.toNat n
theorem BX (n d:Nat):aW n d none=d:=rfl
theorem Mx (n d:Nat)(hd:d<=n)(o:Option Int):aW n d o<=n:=by
 cases o with
 |none=>exact hd
 |some v=>
  show(if v<0 then (v+(n:Int)).toNat else min v.toNat n)<=n;by_cases hv:v<0
  ·rw[if_pos hv];omega
  ·rw[if_neg hv];exact Nat.min_le_right _ _
theorem BZ (v:Int)(n d:Nat):(if v<0 then max (v+(n:Int)) 0 else min v (n:Int))=((aW n d (some v):Nat):Int):=by
 show(if v<0 then max (v+(n:Int)) 0 else min v (n:Int))=(((if v<0 then (v+(n:Int)).toNat else min v.toNat n):Nat):Int);by_cases hv:v<0
 ·simp only[if_pos hv];omega
 ·simp only[if_neg hv];omega
theorem My (lo hi:Option Int)(n:Nat):Builtin.Slice.sliceAdjust lo hi 1 (n:Int)=(((aW n 0 lo:Nat):Int),((aW n n hi:Nat):Int)):=by
 have h1:¬ ((1:Int)<0):=by omega
 unfold Builtin.Slice.sliceAdjust;simp only[h1,if_false];refine Prod.ext ?_ ?_
 ·cases lo with
  |none=>rfl
  |some v=>exact BZ v n 0
 ·cases hi with
  |none=>rfl
  |some v=>exact BZ v n n
theorem Mz (i j:Nat):Builtin.Slice.slicePlaces (i:Int) (j:Int) 1=j-i:=by
 unfold Builtin.Slice.slicePlaces;have h1:(1:Int) > 0:=by omega
 simp only[h1,if_true,Int.ediv_one]
 split<;>omega
theorem B2 {v:Value}{o:Option Int}{Q:Option Int->Shared->Prop}(p:IsPart v o)(h:Q o s):wpAny (model prog w) A (Builtin.Slice.slicePartIndex v) Q E s:=by
 cases p with
 |none=>exact slicePart_none h
 |int i t=>exact slicePart_int h
theorem B3 {sl:Addr}{vl vu:Value}{lo hi:Option Int}{n:Nat}{Q:Int×Int×Nat->Shared->Prop}(hs:s.heap.IsSliceOf sl vl vu .none)(pl:IsPart vl lo)(pu:IsPart vu hi)
  (h:Q (((aW n 0 lo:Nat):Int),1,aW n n hi-aW n 0 lo) s):wpAny (model prog w) A (Builtin.Slice.sliceApplied (.ref sl) (pure (n:Int))) Q E s:=by
 obtain⟨os,mq,cu,pR⟩:=id hs;unfold Builtin.Slice.sliceApplied Builtin.Slice.sliceFields;refine aj (aj (wpAny_field mq pR (x:=vl) rfl (aj (wpAny_field mq pR (x:=vu) rfl (aj (wpAny_field mq pR (x:=.none) rfl (aP ?_)))))));refine aj (slicePart_none ?_);show wpAny _ _ (if ((1:Int)==0)=true then _ else _) _ _ s;rw[if_neg (by decide)];refine aj (B2 pl (aj (B2 pu (aj (aP ?_)))));show wpAny _ _ (match Builtin.Slice.sliceAdjust lo hi 1 (n:Int) with|(lo,hi)=>pure (lo,(1:Int),Builtin.Slice.slicePlaces lo hi 1)) _ _ s;rw[My lo hi n];show wpAny _ _ (pure (((aW n 0 lo:Nat):Int),(1:Int),Builtin.Slice.slicePlaces ((aW n 0 lo:Nat):Int) ((aW n n hi:Nat):Int) 1)) _ _ s;rw[Mz];exact aP h
theorem MA (xs:Array Value)(i k:Nat):((range k).filterMap fun(m:Nat)=>xs[((i:Int)+(m:Int)*1).toNat]?).toArray=((xs.toList.drop i).take k).toArray:=by
 have e:(fun(m:Nat)=>xs[((i:Int)+(m:Int)*1).toNat]?)=λm=>xs[i+m]?:=by
  funext m
  have:((i:Int)+(m:Int)*1).toNat=i+m:=by omega
  rw[this]
 rw[e];have:=pick_run xs i k;rw[filterMap_map] at this;have e2:((λx=>xs[x]?)∘λx=>i+x)=λm=>xs[i+m]?:=rfl;rw[e2] at this;rw[this]
theorem MB {t sl:Addr}{items:Array Value}{vl vu:Value}{lo hi:Option Int}{Q:aU}(ht:IsTup s.heap t items)(hs:s.heap.IsSliceOf sl vl vu .none)(pl:IsPart vl lo)(pu:IsPart vu hi)
  (hw:¬ (aW items.size 0 lo=0/\aW items.size items.size hi=items.size))
  (h:Q (.ref s.heap.objs.size) { s with heap:=s.heap.push { cls:=.type "tuple",data:=.seq ((items.toList.drop (aW items.size 0 lo)).take (aW items.size items.size hi-aW items.size 0 lo)).toArray } })
  (hsz:items.size<=sizeLine):wpAny (model prog w) A (getItem (.ref t) (.ref sl)) Q E s:=by
 have rZ:sizeOk (.seq ((items.toList.drop (aW items.size 0 lo)).take (aW items.size items.size hi-aW items.size 0 lo)).toArray):=by
  show((items.toList.drop (aW items.size 0 lo)).take (aW items.size items.size hi-aW items.size 0 lo)).toArray.size<=sizeLine;rw[size_toArray,length_take,length_drop,Array.length_toList];omega
 have hj:aW items.size items.size hi<=items.size:=Mx _ _ (aG _) hi;obtain⟨os,mq,cu,pR⟩:=id hs;have vU:s.TypeIs (.ref sl) "slice":=⟨os,mq,cu⟩;unfold getItem
 try with_reducible refine wpAny_holding ?_
 first|refine aj (aP ?_)|skip
 refine aj (wpAny_sequenceKey ht.typeIs (by decide) ?_)
 refine aj (wpAny_callSpecial?_slot (name:=Str.ofString "__getitem__") ht.typeIs PyProof.Rows.slot_tuple_getitem
  (wpAny_call_entry PyProof.Rows.slot_tuple_getitem ht.typeIs entry_tuple_getitem ?_ (args_tuple_getitem _ _)))
 show wpAny _ _ (Builtin.Tuple.tupleItemsOf (.ref t) >>= _) _ _ s;refine aj (tupleItemsOf_ ht ?_);refine aj (wpAny_typeOf vU ?_);rw[if_pos (by decide)];refine aj (B3 hs pl pu ?_)
 have fP:¬ ((((aW items.size 0 lo:Nat):Int)==0&&(1:Int)==1&&(aW items.size items.size hi-aW items.size 0 lo)==items.size)=true):=by
  intro q;rw[Bool.and_eq_true,Bool.and_eq_true] at q;have q1:((aW items.size 0 lo:Nat):Int)=0:=eq_of_beq q.1.1;have q2:aW items.size items.size hi-aW items.size 0 lo=items.size:=eq_of_beq q.2;exact hw ⟨by omega,by omega⟩
 show wpAny _ _ (if (((aW items.size 0 lo:Nat):Int)==0&&(1:Int)==1&&(aW items.size items.size hi-aW items.size 0 lo)==items.size)=true then _ else _) _ _ s;rw[if_neg fP,MA]
 first
  |exact aj (m:=Builtin.Tuple.tupleExact _) (wpAny_newObj_type (aP ⟨_,rfl,aP h⟩) rZ)
  |exact aj (m:=Builtin.Tuple.tupleExact _) (wpAny_newObj_type (aj (aP (aP ⟨_,rfl,aP h⟩))) rZ)
  |exact aj (aj (m:=Builtin.Tuple.tupleExact _) (wpAny_newObj_type (aP (aP ⟨_,rfl,aP h⟩)) rZ))
  |exact aj (aj (m:=Builtin.Tuple.tupleExact _) (wpAny_newObj_type (aP ⟨_,rfl,aP h⟩) rZ))
end
end HT
namespace L2
open PySem PySem.Spec PyProof.Rows
abbrev TO:=St->Hp->(Option Int->Hp->Prop)->Prop
def PO (X:Cx)(e:Option Expr)(t:TO):Prop:=
 ∀(pins:aL)(s:Shared)(σ:St)(H:Hp)(Q:Option Int->Hp->Prop),Inv X pins σ H s->t σ H Q ->
  wpAny (model X.prog X.w) X.A (evalPart e X.env) (λu s'=>∃ o H',Inv X pins σ H' s'/\IsPart u o/\Q o H') X.xe s
def MC:TO:=λ_ H Q=>Q none H
def MD (t:TE):TO:=λσ H Q=>t σ H λx H1=>∃ i,x=.int i/\Q (some i) H1
section
variable {X:Cx}{e:Expr}{te:TE}{lo hi:Option Expr}{tl th:TO}{pos p2:Pos}
theorem ME:PO X none MC:=by
 intro pins s σ H Q I h;rw[evalPart_none];exact aP ⟨none,H,I,.none,h⟩
theorem MF (h:PE X e te):PO X (some e) (MD te):=by
 intro pins s σ H Q I hw;rw[evalPart_some];refine aH (h pins s σ H _ I hw) λu s1 ⟨x,H1,I1,r1,q1⟩=>?_;obtain⟨i,rfl,q⟩:=q1;obtain⟨t,rfl⟩:=r1;exact⟨some i,H1,I1,.int i t,q⟩
def jU (X:Cx)(r:V->Option Int->Option Int->Hp->VK->Prop):Prop:=
 ∀(pins:aL)(s:Shared)(σ:St)(H:Hp)(x:V)(v vl vu:Value)(lo hi:Option Int)(sl:Addr)(Q:VK),Inv X pins σ H s->RelV x v->s.heap.IsSliceOf sl vl vu .none->IsPart vl lo->IsPart vu hi->r x lo hi H Q ->
  ∃ T id,typeLookup (.type T) "__getitem__"=pure (some (.builtin id))/\s.TypeIs v T/\wpAny (model X.prog X.w) X.A (getItem v (.ref sl)) (EP X pins σ Q) X.xe s
theorem jU.or {r r':V->Option Int->Option Int->Hp->VK->Prop}(h:jU X r)(h':jU X r'):jU X (λx lo hi H Q=>r x lo hi H Q\/r' x lo hi H Q):=by
 intro pins s σ H x v vl vu lo hi sl Q I rx hs pl pu q;rcases q with q|q
 ·exact h pins s σ H x v vl vu lo hi sl Q I rx hs pl pu q
 ·exact h' pins s σ H x v vl vu lo hi sl Q I rx hs pl pu q
def MG (r:V->Option Int->Option Int->Hp->VK->Prop)(te:TE)(tl th:TO):TE:=λσ H Q=>te σ H λx H1=>tl σ H1 λl H2=>th σ H2 λu H3=>r x l u H3 Q
theorem MH {r:V->Option Int->Option Int->Hp->VK->Prop}(hr:jU X r)(he:PE X e te)(hl:PO X lo tl)(hu:PO X hi th):PE X (.Subscript e (.Slice lo hi none p2) pos) (MG r te tl th):=by
 intro pins s σ H Q I h;refine Subscript_ (aH (he pins s σ H _ I h) λv s1 ⟨x,H1,I1,r1,q1⟩=>?_);refine wpAny_Slice (aH (hl pins s1 σ H1 _ I1 q1) λvl s2 ⟨l,H2,I2,pl,q2⟩=>aH (hu pins s2 σ H2 _ I2 q2) λvu s3 ⟨u,H3,I3,pu,q3⟩=>?_);rw[evalPart_none];refine aP ?_;have I4:Inv X pins σ H3 { s3 with heap:=s3.heap.push { cls:=.type "slice",data:=.fields #[vl,vu,.none] } }:=I3.kept (t':=s3.toks) λb ob q=>aX _ q;obtain⟨T,id,hT,ht,hg⟩:=hr pins { s3 with heap:=s3.heap.push { cls:=.type "slice",data:=.fields #[vl,vu,.none] } } σ H3 x v vl vu l u s3.heap.objs.size Q I4 r1 (Heap.IsSliceOf.new ..) pl pu q3;show wpAny (model X.prog X.w) X.A (subscriptTail e (.Slice lo hi none p2) v (.ref s3.heap.objs.size)) (EP X pins σ Q) X.xe { s3 with heap:=s3.heap.push { cls:=.type "slice",data:=.fields #[vl,vu,.none] } };exact tail_any (ops:=[.ref s3.heap.objs.size,v]) ht hT hg (by with_unfolding_all rfl)
noncomputable def iT (xs:Zv)(lo hi:Option Int):Zv:=(xs.drop (HT.aW xs.length 0 lo)).take (HT.aW xs.length xs.length hi-HT.aW xs.length 0 lo)
theorem B4 (xs:Zv)(lo hi:Option Int):(iT xs lo hi).length<=xs.length:=by
 unfold iT;rw[length_take,length_drop];omega
def MI (K:Frag):V->Option Int->Option Int->Hp->VK->Prop:=λx lo hi H Q=>∃ a xs,x=.ref a/\aS K H a xs /\
 ¬ (HT.aW xs.length 0 lo=0/\HT.aW xs.length xs.length hi=xs.length)/\∀ p,H p=none->Q (.ref p) (upd H p (.tup (iT xs lo hi)))
theorem MJ:jU X (MI X.K):=by
 intro pins s σ H x v vl vu lo hi sl Q I rx hs pl pu h;obtain⟨a,xs,rfl,hx,hw,q⟩:=h;cases rx;obtain⟨its,r,ht,hz⟩:=I.tuple hx;have hlen:its.toArray.size=xs.length:=by rw[size_toArray];exact r.length.symm
 refine⟨"tuple",_,PyProof.Rows.slot_tuple_getitem.lookup,ht.typeIs,?_⟩;refine HT.MB ht hs pl pu (by rw[hlen];exact hw) ?_ (by rw[hlen];exact hz);rw[hlen];refine⟨.ref s.heap.objs.size,_,I.laid (t':=s.toks) (o:=.tup (iT xs lo hi)) (λb ob q=>aX _ q) (aG _) ?_,rfl,q _ (I.aw.fresh (aG _))⟩;exact⟨cC (B4 xs lo hi) hz,_,(r.drop (HT.aW xs.length 0 lo)).take (HT.aW xs.length xs.length hi-HT.aW xs.length 0 lo),IsTup.new _ _⟩
def MK (K:Frag):R2:=λx y H Q=>∃ a b xs ys,x=.ref a/\y=.ref b/\aS K H a xs/\aS K H b ys/\xs≠[]/\xs.length+ys.length<=sizeLine /\
 (ys=[]->Q (.ref a) H)/\(ys≠[]->∀ p,H p=none->Q (.ref p) (upd H p (.tup (xs++ys))))
theorem Vals.kX {xs:Zv}{us:aR}(r:Vals xs us):us=[]↔xs=[]:=by
 cases r with
 |nil=>simp
 |cons _ _=>simp
theorem ML:bE X (binaryOp .Add) (MK X.K):=by
 intro pins s σ H x y v u Q I rx ry h;obtain⟨a,b,xs,ys,rfl,rfl,ha,hb,hx,hz,q1,q2⟩:=h;cases rx;cases ry;obtain⟨its,r1,p1,_⟩:=I.tuple ha;obtain⟨fQ,r2,p2,_⟩:=I.tuple hb;refine HT.Mu p1 p2 (λz=>hx (r1.kX.mp z)) (λz=>⟨.ref a,H,I,rfl,q1 (r2.kX.mp z)⟩) (λz=>?_) (by rw[<- r1.length,<- r2.length];exact hz);refine⟨.ref s.heap.objs.size,_,I.laid (t':=s.toks) (o:=.tup (xs++ys)) (λb ob q=>aX _ q) (aG _) ?_,rfl,q2 (λw=>z (r2.kX.mpr w)) _ (I.aw.fresh (aG _))⟩;exact⟨by rw[length_append];exact hz,_,r1.append r2,IsTup.new _ _⟩
end
noncomputable def iU (n:Nat)(i:Int):Option Nat:=if 0<=i then (if i<n then some i.toNat else none) else if -(n:Int)<=i then some (i+n).toNat else none
noncomputable def b9 {α:Type}(xs:List α)(i:Int):Option α:=(iU xs.length i).bind λj=>xs[j]?
theorem B5 {n:Nat}{i:Int}{j:Nat}(h:iU n i=some j):seqIndex? i n=some j/\j<n /\ -(n:Int)<=i/\i<n:=by
 unfold iU at h;by_cases h0:0<=i
 ·rw[if_pos h0] at h;by_cases h1:i<n
  ·rw[if_pos h1] at h;have e:i.toNat=j:=Option.some.inj h;exact⟨by rw[seqIndex_of h0 h1,e],by omega,by omega,h1⟩
  ·rw[if_neg h1] at h;cases h
 ·rw[if_neg h0] at h;by_cases h1:-(n:Int)<=i
  ·rw[if_pos h1] at h;have e:(i+n).toNat=j:=Option.some.inj h;exact⟨by rw[seqIndex_neg (by omega) h1,e],by omega,h1,by omega⟩
  ·rw[if_neg h1] at h;cases h
theorem vV {α:Type}{xs:List α}{i:Int}{v:α}(h:b9 xs i=some v):∃ j,seqIndex? i xs.length=some j/\xs[j]?=some v/\j<xs.length /\ -(xs.length:Int)<=i/\i<xs.length:=by
 unfold b9 at h
 cases e:iU xs.length i with
 |none=>rw[e] at h;cases h
 |some j=>
  rw[e] at h;obtain⟨h1,h2,h3,h4⟩:=B5 e;exact⟨j,h1,h,h2,h3,h4⟩
theorem MM {α:Type}{xs:List α}{j:Nat}{v:α}(h:xs[j]?=some v):b9 xs (j:Int)=some v:=by
 have hj:j<xs.length:=(b8 h).1
 have e:iU xs.length (j:Int)=some j:=by
  unfold iU;rw[if_pos (by omega),if_pos (by omega)];simp
 unfold b9;rw[e];exact h
def vW (b:Expr):Prop:=∀ o i,subscripted b false o i=operate [o,i] (getItem o i)
def iV (X:Cx)(r:R2):Prop:=
 ∀(value slice:Expr)(pins:aL)(s:Shared)(σ:St)(H:Hp)(x y:V)(v u:Value)(Q:VK),Inv X pins σ H s->RelV x v->RelV y u->r x y H Q ->
  subscripted slice false v u=operate [v,u] (getItem v u)->wpAny (model X.prog X.w) X.A (subscriptTail value slice v u) (EP X pins σ Q) X.xe s
def B6 (X:Cx)(id:String)(r:V->Zv->Hp->VK->Prop):Prop:=
 ∀(pins:aL)(s:Shared)(σ:St)(H:Hp)(x:V)(xs:Zv)(v:Value)(us:aR)(Q:VK),Inv X pins σ H s->RelV x v->Vals xs us->r x xs H Q ->
  wpAny (model X.prog X.w) X.A (call (.builtin id) (v::us)) (EP X pins σ Q) X.xe s
section
variable {X:Cx}{a b:Expr}{ta tb:TE}{pos:Pos}
theorem iV.or {r r':R2}(h:iV X r)(h':iV X r'):iV X (λx y H Q=>r x y H Q\/r' x y H Q):=by
 intro value slice pins s σ H x y v u Q I rx ry q hs;rcases q with q|q
 ·exact h value slice pins s σ H x y v u Q I rx ry q hs
 ·exact h' value slice pins s σ H x y v u Q I rx ry q hs
theorem r6 {r:R2}(hr:iV X r)(ha:PE X a ta)(hb:PE X b tb)(hs:vW b):PE X (.Subscript a b pos) (kN r ta tb):=by
 intro pins s σ H Q I h;exact Subscript_ (rQ ha hb I h λv u s2 x y H2 I2 rx ry q=>hr a b pins s2 σ H2 x y v u Q I2 rx ry q (hs _ _))
def B7 (K:Frag):R2:=λx y H Q=>∃ p xs i v,x=.ref p/\y=.int i/\aC K H p xs/\b9 xs i=some v/\Q v H
def B8 (K:Frag):R2:=λx y H Q=>∃ p xs i v,x=.ref p/\y=.int i/\aS K H p xs/\b9 xs i=some v/\Q v H
def B9:R2:=λx y H Q=>∃ z i c,x=.str z/\y=.int i/\z.length<=sizeLine/\b9 z.cps.toList i=some c/\Q (.str ⟨#[c]⟩) H
theorem r9:iV X (B7 X.K):=by
 intro value slice pins s σ H x y v u Q I rx ry h hs;obtain⟨p,xs,i,z,rfl,rfl,hq,he,q⟩:=h;cases rx;obtain⟨t,rfl⟩:=ry;obtain⟨its,r,pl,hz⟩:=I.list hq;obtain⟨j,h1,h2,h3,h4,h5⟩:=vV he;obtain⟨w,ew,cO⟩:=r.get h2;have hl:=r.length;have hn:=kS;have fin:EP X pins σ Q w s:=⟨z,H,I,cO,q⟩;by_cases h0:0<=i
 ·have hj:i.toNat=j:=by
   rw[seqIndex_of h0 h5] at h1;exact Option.some.inj h1
  exact item_listR pl.isList h0 (by omega) (by rw[hj];simpa using ew) fin hs
 ·have hj:(i+(its.toArray.size:Int)).toNat=j:=by
   rw[seqIndex_neg (by omega) h4] at h1;rw[size_toArray,<- hl];exact Option.some.inj h1
  exact subscriptTail_builtinR (x:=w) pl.isList.typeIs slot_list_getitem.lookup
   (wpAny_getItem_list_neg (Q:=λr s'=>r=w/\EP X pins σ Q r s') pl.isList (by omega) (by rw[size_toArray]<;>omega) (by omega) (by rw[hj];simpa using ew) ⟨rfl,fin⟩) hs
theorem MN:iV X (B8 X.K):=by
 intro value slice pins s σ H x y v u Q I rx ry h hs;obtain⟨p,xs,i,z,rfl,rfl,hq,he,q⟩:=h;cases rx;obtain⟨t,rfl⟩:=ry;obtain⟨its,r,pl,hz⟩:=I.tuple hq;obtain⟨j,h1,h2,h3,h4,h5⟩:=vV he;obtain⟨w,ew,cO⟩:=r.get h2;have hl:=r.length;have hn:=kS;have fin:EP X pins σ Q w s:=⟨z,H,I,cO,q⟩
 exact subscriptTail_builtinR (x:=w) pl.typeIs slot_tuple_getitem.lookup
  (getItem_tuple (j:=j) (Q:=λr s'=>r=w/\EP X pins σ Q r s') pl (by omega) (by omega) (by rw[size_toArray,<- hl];exact h1) (by simpa using ew) ⟨rfl,fin⟩) hs
theorem MO:iV X B9:=by
 intro value slice pins s σ H x y v u Q I rx ry h hs;obtain⟨z,i,c,rfl,rfl,hz,he,q⟩:=h;obtain⟨t,rfl⟩:=rx;obtain⟨t',rfl⟩:=ry;obtain⟨j,h1,h2,h3,h4,h5⟩:=vV he;have hl:z.cps.toList.length=z.length:=by simp [Str.length]
 rw[hl] at h1 h4 h5;have hn:=kS
 exact tail_any (typeIs_str s z t) slot_str_getitem.lookup (getItem_str (c:=c) (by
  have e1:decide (i < -(2 ^ 63:Int))=false:=decide_eq_false (by omega);have e2:decide (i≥2 ^ 63)=false:=decide_eq_false (by omega)
  rw[e1,e2,Bool.or_false]) (by rw[h1];simpa using h2) ⟨.str ⟨#[c]⟩,H,I.tok _,⟨_,rfl⟩,q⟩) hs
def vX (K:Frag):R2:=λx y H Q=>B7 K x y H Q\/B8 K x y H Q\/B9 x y H Q
theorem MP:iV X (vX X.K):=r9.or (MN.or MO)
theorem MQ (its:aR)(n j:Nat)(u:Value):Obj.mapSeq (·.setIfInBounds j u) { cls:=.type "list",data:=.seq its.toArray n }={ cls:=.type "list",data:=.seq (its.set j u).toArray n }:=by
 simp [Obj.mapSeq]
theorem Inv.lst {pins:aL}{σ:St}{H:Hp}{s:Shared}{p:Addr}{xs:Zv}(I:Inv X pins σ H s)(h:H p=some (.lst xs)) :
  ∃(its:aR)(n:Nat),Vals xs its/\s.heap.get? p=some { cls:=.type "list",data:=.seq its.toArray n }/\xs.length<=sizeLine:=by
 obtain⟨z,its,n,r,e⟩:=I.aw p _ h;exact⟨its,n,r,e,z⟩
theorem Inv.MR {pins:aL}{σ:St}{H:Hp}{s:Shared}{p:Addr}{xs ys:Zv}{its its':aR}{n n':Nat}{f:Obj->Obj}(I:Inv X pins σ H s)(h:H p=some (.lst xs))
  (ho:s.heap.get? p=some { cls:=.type "list",data:=.seq its.toArray n })(hf:f { cls:=.type "list",data:=.seq its.toArray n }={ cls:=.type "list",data:=.seq its'.toArray n' })(r:Vals ys its')(hz:ys.length<=sizeLine)(t:Nat) :
  Inv X pins σ (upd H p (.lst ys)) { s with heap:=s.heap.update p f,toks:=t }:=by
 have e:(s.heap.update p f).get? p=some { cls:=.type "list",data:=.seq its'.toArray n' }:=by
  rw[Heap.get?_update_self f ho (by rw[hf]<;>rfl),hf]
 refine I.write (x:=p) (e:=p) (by rw[h];trivial) (.inl rfl) (λb u hb q=>(Heap.get?_update_other _ _ (Ne.symm hb)).trans q) ⟨_,e⟩ ?_;exact⟨hz,its',n',r,e⟩
def MS:V->V->V->Hp->(Hp->Prop)->Prop:=λo i v H Q=>∃ p xs k j,o=.ref p/\i=.int k/\H p=some (.lst xs)/\iU xs.length k=some j/\Q (upd H p (.lst (xs.set j v)))
theorem set_list:Bg X MS:=by
 intro pins s σ H o i v ov iv u Q I ro ri rv h;obtain⟨p,xs,k,j,rfl,rfl,hp,hj,q⟩:=h;cases ro;obtain⟨t,rfl⟩:=ri;obtain⟨its,n,r,ho,hz⟩:=I.lst hp;obtain⟨h1,h2,h3,h4⟩:=B5 hj;have hl:=r.length;have hn:=kS
 have I':Inv X pins σ (upd H p (.lst (xs.set j v))) { s with heap:=s.heap.update p (Obj.mapSeq (·.setIfInBounds j u)) }:=
  I.MR hp ho (MQ its n j u) (r.set rv j) (by rw[length_set];exact hz) s.toks
 by_cases h0:0<=k
 ·have hk:k.toNat=j:=by
   rw[seqIndex_of h0 h4] at h1;exact Option.some.inj h1
  exact PySem.W.ki_setAt ho h0 (by omega) (by rw[size_toArray,<- hl];exact h4) (by rw[hk];exact⟨_,I',q⟩)
 ·have hk:(k+(its.toArray.size:Int)).toNat=j:=by
   rw[seqIndex_neg (by omega) h3] at h1;rw[size_toArray,<- hl];exact Option.some.inj h1
  exact PySem.W.ki_setBack ho (by omega) (by rw[size_toArray,<- hl];exact h3) (by omega) (by rw[hk];exact⟨_,I',q⟩)
theorem MU (lo hi:Option Int)(n:Nat):(sliceBounds lo hi none n).1=((HT.aW n 0 lo:Nat):Int)/\(sliceBounds lo hi none n).2.1=((HT.aW n n hi:Nat):Int)/\(sliceBounds lo hi none n).2.2=1:=by
 refine⟨?_,?_,rfl⟩
 ·cases lo with
  |none=>simp [sliceBounds,HT.aW]
  |some i=>
   simp only[sliceBounds,HT.aW,Option.getD_none,show(1:Int) > 0 by decide,if_true];by_cases h:i<0
   ·simp only[h,if_true]<;>omega
   ·simp only[h,if_false]<;>omega
 ·cases hi with
  |none=>simp [sliceBounds,HT.aW]
  |some i=>
   simp only[sliceBounds,HT.aW,Option.getD_none,show(1:Int) > 0 by decide,if_true];by_cases h:i<0
   ·simp only[h,if_true]<;>omega
   ·simp only[h,if_false]<;>omega
theorem MV (its:aR)(lo hi:Option Int):slicePick its.toArray lo hi none=((its.drop (HT.aW its.length 0 lo)).take (HT.aW its.length its.length hi-HT.aW its.length 0 lo)).toArray:=by
 obtain⟨h1,h2,h3⟩:=MU lo hi its.toArray.size;unfold slicePick;rw[h1,h2,h3];simp only[sliceRange_one,pick_run,size_toArray]<;>rfl
def MW (K:Frag):V->Option Int->Option Int->Hp->VK->Prop:=λx lo hi H Q=>∃ a xs,x=.ref a/\aC K H a xs/\∀ p,H p=none->Q (.ref p) (upd H p (.lst (iT xs lo hi)))
theorem MX:jU X (MW X.K):=by
 intro pins s σ H x v vl vu lo hi sl Q I rx hs pl pu h;obtain⟨a,xs,rfl,hx,q⟩:=h;cases rx;obtain⟨its,r,ht,hz⟩:=I.list hx;have hlen:=r.length;refine⟨"list",_,slot_list_getitem.lookup,ht.isList.typeIs,?_⟩;refine wpAny_getItem_list_slice ht.isList hs pl pu .none (by simp) ?_ (by rw[size_toArray]<;>omega);rw[MV,<- hlen];refine⟨.ref s.heap.objs.size,_,I.laid (t':=s.toks) (o:=.lst (iT xs lo hi)) (λb ob q=>aX _ q) (aG _) ?_,rfl,q _ (I.aw.fresh (aG _))⟩;exact⟨cC (B4 xs lo hi) hz,_,0,(r.drop (HT.aW xs.length 0 lo)).take (HT.aW xs.length xs.length hi-HT.aW xs.length 0 lo),cI _ rfl⟩
noncomputable def mr:V->Bool
 |.ai=>true
 |.bl _=>true
 |.int _=>true
 |.str _=>true
 |_=>false
noncomputable def pU:V->V->Bool
 |.ai,.ai=>true
 |.bl a,.bl b=>a==b
 |.bl a,.int b=>(if a then 1 else 0)==b
 |.int a,.bl b=>a==(if b then 1 else 0)
 |.int a,.int b=>a==b
 |.str a,.str b=>a==b
 |_,_=>false
theorem MY {A:Around}{s:Shared}{y x:V}{u v:Value}(ry:RelV y u)(rx:RelV x v)(fy:mr y=true)(fx:mr x=true):SeqAt.EqAt A s u v (pU y x):=by
 cases y with
 |ai=>
  cases ry
  cases x with
  |ai=>cases rx;exact SeqAt.EqAt.same _
  |bl b=>cases rx;exact SeqAt.EqAt.none_bool b
  |int b=>obtain⟨t,rfl⟩:=rx;exact SeqAt.EqAt.none_int b t
  |str b=>obtain⟨t,rfl⟩:=rx;exact SeqAt.EqAt.none_str b t
  |_=>exact absurd (show false=true from fx) Bool.false_ne_true
 |bl a=>
  cases ry
  cases x with
  |ai=>cases rx;exact SeqAt.EqAt.bool_none a
  |bl b=>cases rx;exact SeqAt.EqAt.bool_bool a b
  |int b=>obtain⟨t,rfl⟩:=rx;exact SeqAt.EqAt.bool_int a b t
  |str b=>obtain⟨t,rfl⟩:=rx;exact SeqAt.EqAt.bool_str a b t
  |_=>exact absurd (show false=true from fx) Bool.false_ne_true
 |int a=>
  obtain⟨t',rfl⟩:=ry
  cases x with
  |ai=>cases rx;exact SeqAt.EqAt.int_none a t'
  |bl b=>cases rx;exact SeqAt.EqAt.int_bool a t' b
  |int b=>obtain⟨t,rfl⟩:=rx;exact SeqAt.EqAt.int_int a t' b t
  |str b=>obtain⟨t,rfl⟩:=rx;exact SeqAt.EqAt.int_str a t' b t
  |_=>exact absurd (show false=true from fx) Bool.false_ne_true
 |str a=>
  obtain⟨t',rfl⟩:=ry
  cases x with
  |ai=>cases rx;exact SeqAt.EqAt.str_none a t'
  |bl b=>cases rx;exact SeqAt.EqAt.str_bool a t' b
  |int b=>obtain⟨t,rfl⟩:=rx;exact SeqAt.EqAt.str_int a t' b t
  |str b=>obtain⟨t,rfl⟩:=rx;exact SeqAt.EqAt.str_str a t' b t
  |_=>exact absurd (show false=true from fx) Bool.false_ne_true
 |_=>exact absurd (show false=true from fy) Bool.false_ne_true
theorem MZ:bE X (compareOp .NotIn) (λx y H Q=>∃ i j,x=.str i/\y=.str j/\Q (.bl (!(!(Builtin.Str.occurrences j i 0 j.length 1).isEmpty))) H):=by
 intro pins s σ H x y v u Q I rx ry h;obtain⟨i,j,rfl,rfl,q⟩:=h;obtain⟨t,rfl⟩:=rx;obtain⟨t',rfl⟩:=ry;exact notIn_str ⟨.bl _,H,I,rfl,q⟩
theorem pV:eA X (.builtin "len") (λxs H Q=>∃ p ys,xs=[.ref p]/\(aC X.K H p ys\/aS X.K H p ys)/\Q (.int ys.length) H):=by
 intro pins s σ H xs us Q I r h;obtain⟨p,ys,rfl,hq,q⟩:=h;obtain⟨u,rfl,rx⟩:=vals1 r;cases rx;have hn:=kS;rcases hq with hq|hq
 ·obtain⟨its,r',pl,hz⟩:=I.list hq;have hlen:=r'.length;exact Calls.call_len_list pl.isList (by simp only[size_toArray]<;>omega) ⟨.int ys.length,H,I.tok _,⟨s.toks+1,by rw[size_toArray,hlen]⟩,q⟩
 ·obtain⟨its,r',pl,hz⟩:=I.tuple hq;have hlen:=r'.length;exact len_tuple pl (by simp only[size_toArray]<;>omega) ⟨.int ys.length,H,I.tok _,⟨s.toks+1,by rw[size_toArray,hlen]⟩,q⟩
theorem M0:eA X (.builtin "len") (λxs H Q=>∃ z,xs=[.str z]/\z.length<=sizeLine/\Q (.int z.length) H):=by
 intro pins s σ H xs us Q I r h;obtain⟨z,rfl,hz,q⟩:=h;obtain⟨u,rfl,t,rfl⟩:=vals1 r;have hn:=kS;exact len_str (by omega) ⟨.int z.length,H,I.tok _,⟨_,rfl⟩,q⟩
theorem M1:eA X (.type "list") (λxs H Q=>∃ p ys,xs=[.ref p]/\(aC X.K H p ys\/aS X.K H p ys)/\∀ l,H l=none->Q (.ref l) (upd H l (.lst ys))):=by
 intro pins s σ H xs us Q I r h;obtain⟨p,ys,rfl,hq,q⟩:=h;obtain⟨u,rfl,rx⟩:=vals1 r;cases rx
 have fin:∀(its:aR),Vals ys its->ys.length<=sizeLine->∀(h':Heap)(c':Nat),(∀ b o',s.heap.get? b=some o'->h'.get? b=some o') ->
   h'.get? s.heap.objs.size=some { cls:=.type "list",dict:=none,data:=.seq its.toArray c',slots:=#[] }->EP X pins σ Q (.ref s.heap.objs.size) { s with heap:=h' }:=λits r' hz h' c' kp e=>
  ⟨.ref s.heap.objs.size,_,I.laid (t':=s.toks) kp (aG _) (show cR X.prog X.w _ h' _ (.lst ys) from⟨hz,its,c',r',e⟩),rfl,q _ (I.aw.fresh (aG _))⟩
 rcases hq with hq|hq
 ·obtain⟨its,r',pl,hz⟩:=I.list hq;have hlen:=r'.length;obtain⟨o,ho,hc,n,hd⟩:=pl.isList;exact call_list_seq p (.inl rfl) ho hc hd (λh' c' kp e=>fin its r' hz h' c' kp e) (by simp only[size_toArray]<;>omega)
 ·obtain⟨its,r',pl,hz⟩:=I.tuple hq;have hlen:=r'.length;obtain⟨o,ho,hc,n,hd⟩:=pl;exact call_list_seq p (.inr rfl) ho hc hd (λh' c' kp e=>fin its r' hz h' c' kp e) (by simp only[size_toArray]<;>omega)
theorem M3:eA X (.type "tuple") (λxs H Q=>∃ p ys,xs=[.ref p]/\((aC X.K H p ys/\∀ l,H l=none->Q (.ref l) (upd H l (.tup ys)))\/(aS X.K H p ys/\Q (.ref p) H))):=by
 intro pins s σ H xs us Q I r h;obtain⟨p,ys,rfl,h⟩:=h;obtain⟨u,rfl,rx⟩:=vals1 r;cases rx;rcases h with ⟨hq,q⟩|⟨hq,q⟩
 ·obtain⟨its,r',pl,hz⟩:=I.list hq;have hlen:=r'.length;refine call_tuple_list pl.isList (λh' kp=>?_) (by simp only[size_toArray]<;>omega);have I1:Inv X pins σ H { s with heap:=h' }:=I.kept (t':=s.toks) kp
  have I2:Inv X pins σ (upd H h'.objs.size (.tup ys)) { s with heap:=h'.push { cls:=.type "tuple",data:=.seq its.toArray } }:=
   I1.laid (t':=s.toks) (λb o e=>aX _ e) (aG _) (show cR X.prog X.w _ _ _ (.tup ys) from⟨hz,its,r',IsTup.new _ _⟩)
  exact⟨.ref h'.objs.size,_,I2,rfl,q _ (I1.aw.fresh (aG _))⟩
 ·obtain⟨its,r',pl,hz⟩:=I.tuple hq;exact call_tuple_same pl ⟨.ref p,H,I,rfl,q⟩
def B_ (K:Frag)(T:String)(x:V)(H:Hp):Prop:=match x with
 |.str _=>T="str"
 |.int _=>T="int"
 |.ref p=>(T="list"/\∃ xs,aC K H p xs)\/(T="tuple"/\∃ o,K.lookup p=some o/\o.cls=.type "tuple"/\o.dict=none) \/
   (T="dict"/\((∃ kvs,H p=some (.dK kvs))\/∃ kvs,H p=some (.dT kvs)))\/(T="set"/\∃ S n,H p=some (.set S n))
 |_=>False
theorem M4 {pins:aL}{σ:St}{H:Hp}{s:Shared}{T:String}{x:V}{v:Value}(I:Inv X pins σ H s)(r:RelV x v)(ty:B_ X.K T x H) :
  s.TypeIs v T/\∀ a,v=.ref a->∃ ob,s.heap.get? a=some ob/\ob.dict=none:=by
 cases x with
 |str z=>
  obtain⟨t,rfl⟩:=r;cases (show T="str" from ty);exact⟨typeIs_str s z t,λ_ e=>nomatch e⟩
 |int i=>
  obtain⟨t,rfl⟩:=r;cases (show T="int" from ty);exact⟨typeIs_int s i t,λ_ e=>nomatch e⟩
 |ref p=>
  cases r;rcases ty with ⟨rfl,xs,hq⟩|⟨rfl,o,hk,hc,hd⟩|⟨rfl,hk⟩|⟨rfl,S,n,hk⟩
  ·obtain⟨its,_,pl,_⟩:=I.list hq;refine⟨pl.isList.typeIs,λa e=>?_⟩;cases e;obtain⟨o,n,e,c,hd,_⟩:=pl;exact⟨o,e,hd⟩
  ·refine⟨⟨o,I.eh p o hk,hc⟩,λa e=>?_⟩;cases e;exact⟨o,I.eh _ o hk,hd⟩
  ·have z:∃ o,s.heap.get? p=some o/\o.ExactDict:=by
    rcases hk with ⟨kvs,hk⟩|⟨kvs,hk⟩
    ·obtain⟨_,_,_,_,o,_,_,e,ex,_⟩:=I.aw p _ hk;exact⟨o,e,ex⟩
    ·obtain⟨_,_,_,_,o,_,_,e,ex,_⟩:=I.aw p _ hk;exact⟨o,e,ex⟩
   obtain⟨o,e,ex⟩:=z;refine⟨⟨o,e,ex.1⟩,λa e2=>?_⟩;cases e2;exact⟨o,e,ex.2.1⟩
  ·obtain⟨o,_,_,_,e,ex,_⟩:=I.aw p _ hk;refine⟨⟨o,e,ex.1⟩,λa e2=>?_⟩;cases e2;exact⟨o,e,ex.2.1⟩
 |_=>exact False.elim ty
def M5 (K:Frag)(T:String)(r:V->Zv->Hp->VK->Prop)(to:TE)(t:TA):TE:=λσ H Q=>to σ H λx H1=>B_ K T x H1/\t σ H1 λxs H2=>r x xs H2 Q
variable {o e:Expr}{es:List Expr}{to:TE}{t:TA}{name:Str}{apos bK:Pos}{T id:String}{r:V->Zv->Hp->VK->Prop}
theorem mw (pa:PlainAttrs T)(slot:Slot T name id)(M6:typeOf (.builtin id)=pure (.type "method_descriptor"))(hm:B6 X id r)(ho:PE X o to)(ha:PA X (e::es) t)
  (dQ:attributeBase o name X.env (eval o X.env)=eval o X.env:=by rfl)
  (gF:((backTo bK (starEach (e::es) X.env)).all (λx=>!x.1)&&(backToKw bK (keywordEach [] X.env)).all (λx=>x.1.isSome)
   && decide ((e::es).length+([]:List Keyword).length+(if ([]:List Keyword).isEmpty then 0 else 1)<30))=true:=by rfl)
  (dR:(apos.endLine==bK.line)=true:=by rfl)(hs:starEach (e::es) X.env=(false,eval e X.env)::starEach es X.env:=by rfl)(M7:(backTo bK (starEach es X.env)).any (·.1)=false:=by rfl) :
  PE X (.Call (.Attribute o name apos) (e::es) [] bK) (M5 X.K T r to t):=by
 intro pins s σ H Q I h;refine wpAny_Call_method_late dQ gF dR rfl (aH (ho pins s σ H _ I h) λv s1 ⟨x,H1,I1,r1,ty,q1⟩=>?_);obtain⟨h1,h2⟩:=M4 I1 r1 ty;refine⟨T,id,pa,slot,M6,h1,h2,?_⟩;have hA:=ha bK pins s1 σ H1 _ I1 q1;rw[hs] at hA ⊢;refine Calls.callWith_builtin (by show(false||(backTo bK (starEach es X.env)).any (·.1))=false;rw[M7]<;>rfl) (Calls.evalArgs_plain ?_);exact aH hA λus s2 ⟨vs,H2,I2,r2,q2⟩=>hm pins s2 σ H2 x vs v us Q I2 r1 r2 q2
end
def iW (X:Cx)(id:String)(r:V->Zv->Hp->VK->Prop):Prop:=
 ∀(pins:aL)(s:Shared)(σ:St)(H:Hp)(x:V)(xs:Zv)(v:Value)(us:aR)(Q:VK),Inv X pins σ H s->RelV x v->Vals xs us->r x xs H Q ->
  wpAny (model X.prog X.w) X.A (call (.builtin id) (v::us)) (EP X pins σ Q) X.xe s
theorem Vals.one:∀{x:V}{us:aR},Vals [x] us->∃ u,us=[u]/\RelV x u
 |_,_,.cons r .nil=>⟨_,rfl,r⟩
theorem Vals.eraseIdx:∀{xs:Zv}{us:aR}(i:Nat),Vals xs us->Vals (xs.eraseIdx i) (us.eraseIdx i)
 |_,_,_,.nil=>.nil
 |_,_,0,.cons _ t=>t
 |_,_,i+1,.cons r t=>.cons r (Vals.eraseIdx i t)
theorem Vals.reverse {xs:Zv}{us:aR}(h:Vals xs us):Vals xs.reverse us.reverse:=by
 induction h with
 |nil=>exact .nil
 |cons r t ih=>rw[reverse_cons,reverse_cons];exact Vals.append ih (.cons r .nil)
theorem Ca {α:Type}:∀(l:List α)(i:Nat),(l.eraseIdx i).length<=l.length
 |[],_=>aG _
 |_::_,0=>Nat.le_succ _
 |_::r,i+1=>Nat.succ_le_succ (Ca r i)
section
variable {X:Cx}{pins:aL}{σ:St}{H:Hp}{s:Shared}{l b:Addr}{xs ys zs:Zv}
theorem Inv.nP {its its':aR}{n:Nat}{f:Array Value->Array Value}{t':Nat}(I:Inv X pins σ H s)(hH:H l=some (.lst xs))
  (e:s.heap.get? l=some { cls:=.type "list",data:=.seq its.toArray n })(hf:f its.toArray=its'.toArray)(hv:Vals ys its')(hz:ys.length<=sizeLine) :
  Inv X pins σ (upd H l (.lst ys)) { s with heap:=s.heap.update l (Obj.mapSeq f),toks:=t' }:=by
 have q:=PySem.IsL.update e f;rw[hf] at q;refine I.write (x:=l) (e:=l) (by rw[hH];exact trivial) (.inl rfl) (λb' u hb hu=>(Heap.get?_update_other s.heap (Obj.mapSeq f) (Ne.symm hb)).trans hu) ⟨_,q⟩ ?_;exact⟨hz,its',_,hv,q⟩
theorem Inv.Cb {its:aR}{t':Nat}(I:Inv X pins σ H s)(hv:Vals ys its)(hz:ys.length<=sizeLine) :
  Inv X pins σ (upd H s.heap.objs.size (.lst ys)) { s with heap:=s.heap.push { cls:=.type "list",data:=.seq its.toArray },toks:=t' }:=
 I.laid (λ_ _ q=>aX _ q) (aG _) ⟨hz,its,0,hv,cI _ rfl⟩
theorem Inv.fresh (I:Inv X pins σ H s):H s.heap.objs.size=none:=I.aw.fresh (aG _)
theorem Inv.ir (I:Inv X pins σ H s)(hH:H l=some (.lst xs)):xs.length<=sizeLine/\∃(its:aR)(n:Nat),Vals xs its/\xs.length=its.length/\s.heap.get? l=some { cls:=.type "list",data:=.seq its.toArray n }:=by
 obtain⟨z,its,n,r,e⟩:=I.aw l _ hH;exact⟨z,its,n,r,r.length,e⟩
theorem Cc {n:Nat}(h:n<=sizeLine):Builtin.List.listTooLong n=false:=by
 unfold Builtin.List.listTooLong;exact decide_eq_false (by omega)
end
section
variable {X:Cx}
def M8:V->Zv->Hp->VK->Prop:=λx vs H Q=>∃ l xs y,x=.ref l/\vs=[y]/\H l=some (.lst xs)/\xs.length<sizeLine/\Q .ai (upd H l (.lst (xs++[y])))
theorem Cd:iW X "list.append" M8:=by
 intro pins s σ H x vs v us Q I rx rv h;obtain⟨l,xs,y,rfl,rfl,hH,hz,q⟩:=h;cases rx;obtain⟨u,rfl,ru⟩:=rv.one;obtain⟨z,its,n,r,hl,e⟩:=I.ir hH;refine call_meets F.slot_list_append ⟨_,e,rfl⟩ F.entry_list_append (F.args_list_append_2 _ _) (PySem.list_append l its.toArray n u (by rw[size_toArray];omega)) ⟨e,?_⟩;refine⟨.ai,_,I.nP (its':=its++[u]) hH e (by simp) (r.append (.cons ru .nil)) ?_,rfl,q⟩;rw[length_append,length_singleton];omega
def M9:V->Zv->Hp->VK->Prop:=λx vs H Q=>∃ l b xs zs,x=.ref l/\vs=[.ref b]/\H l=some (.lst xs)/\H b=some (.lst zs)/\xs.length+zs.length<=sizeLine/\Q .ai (upd H l (.lst (xs++zs)))
theorem M_:iW X "list.extend" M9:=by
 intro pins s σ H x vs v us Q I rx rv h;obtain⟨l,b,xs,zs,rfl,rfl,hH,hB,hz,q⟩:=h;cases rx;obtain⟨u,rfl,ru⟩:=rv.one;cases ru;obtain⟨z,its,n,r,hl,e⟩:=I.ir hH;obtain⟨z2,fQ,n2,r2,jl,e2⟩:=I.ir hB;have hsz:its.toArray.size+fQ.toArray.size<=sizeLine:=by rw[size_toArray,size_toArray];omega
 have vY:¬ (!its.toArray.isEmpty&&Builtin.List.listTooLong (its.toArray.size+fQ.toArray.size))=true:=by
  rw[Cc hsz,Bool.and_false];exact Bool.false_ne_true
 refine call_meets F.slot_list_extend ⟨_,e,rfl⟩ F.entry_list_extend (F.args_list_extend_2 _ _)
  (AutoSeq1.list_extend_list_list_0 l its.toArray n b fQ.toArray n2 vY (by rw[size_toArray];omega) (by omega)) ⟨e,e2,?_⟩
 refine⟨.ai,_,I.nP (its':=its++fQ) hH e (by simp) (r.append r2) ?_,rfl,q⟩;rw[length_append];omega
def M':V->Zv->Hp->VK->Prop:=λx vs H Q=>∃ l xs i k y,x=.ref l/\vs=[.int i]/\H l=some (.lst xs) /\ -(2 ^ 63)<=i/\i<2 ^ 63/\seqIndex? i xs.length=some k/\xs[k]?=some y/\Q y (upd H l (.lst (xs.eraseIdx k)))
theorem Na:iW X "list.pop" M':=by
 intro pins s σ H x vs v us Q I rx rv h;obtain⟨l,xs,i,k,y,rfl,rfl,hH,h1,h2,hk,hy,q⟩:=h;cases rx;obtain⟨u,rfl,ru⟩:=rv.one;obtain⟨t,rfl⟩:=ru;obtain⟨z,its,n,r,hl,e⟩:=I.ir hH;obtain⟨w,hw,cO⟩:=r.get hy
 refine call_meets F.slot_list_pop ⟨_,e,rfl⟩ F.entry_list_pop (F.args_list_pop_2 _ _)
  (MeetsSeq.list_pop_at l its.toArray n i t k w (fitsIndex_both h1 h2) (by rw[size_toArray,<- hl];exact hk) (by rw[<- Array.getElem?_toList];exact hw) (by rw[size_toArray];omega)) ⟨e,?_⟩
 refine⟨y,_,I.nP (its':=its.eraseIdx k) hH e ?_ (r.eraseIdx k) ?_,cO,q⟩
 ·show its.toArray.eraseIdxIfInBounds k=(its.eraseIdx k).toArray;rw[eraseIdxIfInBounds_toArray]
 ·have:=Ca xs k;omega
def vZ:R2:=λx y H Q=>∃ l b xs zs,x=.ref l/\y=.ref b/\H l=some (.lst xs)/\H b=some (.lst zs)/\xs.length+zs.length<=sizeLine/\∀ p,H p=none->Q (.ref p) (upd H p (.lst (xs++zs)))
theorem Nb:bE X (binaryOp .Add) vZ:=by
 intro pins s σ H x y v u Q I rx ry h;obtain⟨l,b,xs,zs,rfl,rfl,hH,hB,hz,q⟩:=h;cases rx;cases ry;obtain⟨z,its,n,r,hl,e⟩:=I.ir hH;obtain⟨z2,fQ,n2,r2,jl,e2⟩:=I.ir hB;refine PySem.P.add_list e e2 ?_ (by rw[size_toArray,size_toArray];omega);have ea:its.toArray++fQ.toArray=(its++fQ).toArray:=by simp
 rw[ea];exact⟨.ref _,_,I.Cb (t':=s.toks) (r.append r2) (by rw[length_append];omega),rfl,q _ I.fresh⟩
end
section
variable {prog:Program}{w:World}{A:Around}{E:aU}{s:Shared}
set_option maxRecDepth 100000 in
end
section
variable {X:Cx}
end
end L2
namespace Ce
open PySem PySem.W PySem.Calls PyProof.Rows
theorem Nc {P:Params}{h:Heap}:∀(ns:List Int)(vs:aR),WellAll P h vs (ns.map WData.int)->IntsAre vs ns:=by
 intro ns
 induction ns with
 |nil=>
  intro vs w;rw[map_nil] at w;cases w;exact .nil
 |cons n ns ih=>
  intro vs w;rw[map_cons] at w
  cases w with
  |cons a b=>
   cases a;exact .cons _ _ (ih _ b)
theorem Nd {l:OpenLaw}{n:Nat}(hn:l.most=some n){P:Params}{h:Heap}{args:List WData}{vals:aR}
  (r_:l.row.toRowW.claim.pre args=true)(v5:WellAll P h vals args) :
  ∃ a vs ns,vals=[Value.ref a]/\args=[WData.list (ns.map WData.int)]/\h.get? a=some { cls:=.type "list",data:=.seq vs.toArray }/\IntsAre vs ns/\ns.length<=n:=by
 have Nf:WShape.hasAll [] args [.list .int]=true:=(pre_splitW r_).1;have hc:l.pre.holds [] { args:=args }=true:=(pre_splitW r_).2;obtain⟨d,r,rfl,h1,h2⟩:=hasAllW_cons Nf;obtain rfl:=hasAllW_nil h2;obtain⟨xs,rfl,h3⟩:=hasW_list h1;obtain⟨ns,rfl⟩:=items_int h3
 have hlen:ns.length<=n:=by
  unfold OpenLaw.pre at hc
  have h4:(WTm.not (.lt (.lit (.int (n:Int))) (.len (.arg 0)))).holds [] { args:=[.list (ns.map .int)] }=true:=by
   have h4:=(holds_andW hc).1;rw[hn] at h4;exact h4
  have h5:=condW_of h4 (w_not (w_lt w_lit (w_len_list (w_arg rfl))));rw[length_map] at h5;refine Nat.le_of_not_lt λq=>?_;have q':(n:Int)<((ns.length:Nat):Int):=by omega
  first
   |(rw[decide_eq_true q'] at h5;exact absurd h5 (by decide))
   |(simp at h5;omega)
 cases v5 with
 |cons w1 w2=>
  cases w2
  cases w1 with
  |list ho vS=>exact⟨_,_,ns,rfl,rfl,ho,Nc ns _ vS,hlen⟩
theorem Ng (l:OpenLaw)(args:List WData):l.row.toRowW.claim.post args (.bool true) args=true:=
 postW_of (r:=l.row.toRowW) (X:=(true==true))
  (show WShape.has [] (.bool true) .bool=true by first|rfl|decide|simp [WShape.has,WShape.arms,WShape.armsAll])
  (show(WTm.eq .res (.lit (.bool true))).value [] { args:=args,res:=some (.bool true),after:=args }=some (.bool (true==true)) from w_eq_bool (w_res rfl) w_lit) rfl
theorem Nh {l:OpenLaw}{n:Nat}{q:Program}{loose:ay}{XP:(bU)->Heap->Prop}{YP:World->Heap->Prop}{d:DefRec}
  (hn:l.most=some n)(pW:d.params.defaults=[])
  (call:∀(w:World)(dA bq:Shared)(mg mb:bU)(fa:Addr)(o:Obj)(pm cd doc:Value)(a:Addr)(vs:aR)(ns:List Int),
   Ground q loose [] XP w dA mg mb bq.heap->YP w bq.heap ->
   bq.heap.get? fa=some o->o.data=.func (docDef d.name d.params d.body d.scope pm cd doc)->bq.heap.CodeRec cd d.name->mg d.name=some (.ref fa) ->
   bq.heap.get? a=some { cls:=.type "list",data:=.seq vs.toArray }->IntsAre vs ns->ns.length<=n->bq.gens=#[] ->
   codeAny (model l.prog w) callerA (.call (.ref fa) ⟨[.ref a],[]⟩) (λr s'=>r=.ok (.ret (.bool true))/\OldK bq.heap s'.heap/\s'.os=bq.os/\AllBare s'.gens) bq) :
  WalkO q loose XP YP l.row.toRowW d [] (λf vs=>PySem.call f vs):=by
 intro w dA bq mg mb G Y fa o pm cd doc dV kV ho hd bA hD pX hg args vals as r_ aav hrd v5 hlo;obtain rfl:dV=.none:=Dflts.none hD pW;obtain rfl:kV=.none:=Dflts.noKw hD;obtain⟨a,vs,ns,rfl,rfl,v7,hints,hlen⟩:=Nd hn r_ v5;refine enter_call (codeAny_mono (call w dA bq mg mb fa o pm cd doc a vs ns G Y ho (fd_plain hd) bA pX v7 hints hlen hg) λr s' hq=>?_);obtain⟨rfl,h2,h3,h4⟩:=hq;exact⟨.inl ⟨.bool true,.bool true,[],rfl,λ_=>rfl,.bool true,Ng l _,λ_=>⟨Pairwise.nil,λ_ hm=>(nomatch hm)⟩⟩,h2,h3,h4⟩
section
variable {prog:Program}{w:World}{A:Around}{E:aU}{s:Shared}{K:Frag}
end
end Ce
namespace L2
open PySem PySem.Spec PyProof.Rows
theorem Cf:∀{vs:aR}{ns:List Int},IntsAre vs ns->Vals (ns.map V.int) vs
 |_,_,.nil=>.nil
 |_,_,.cons n t h=>.cons ⟨t,rfl⟩ (Cf h)
def nQ (H:Hp):Prop:=∀ b,H b=none\/∃ o xs,H b=some (.aY o (.lst xs))
theorem Ni {P:Program}{w:World}{K:Frag}{mg mb:bU}{CX:f_}{k:Nat}{fa a:Addr}{fd:FuncData}{x:Str}{sp:Sp}{bq:Shared}{vs:aR}{ns:List Int}
  (KX:K.In bq.heap)(Cg:bq.heap.Ns mainGlobals mg)(hb:bq.heap.Ns builtinsNs mb)(Nj:∀ x:Str,x≠"__name__"->mb x=bootBuiltins x)(Nk:bq.heap.NoLimit)(hg:bq.gens=#[])
  (ha:bq.heap.get? a=some { cls:=.type "list",data:=.seq vs.toArray })(hi:IntsAre vs ns)(hl:ns.length<=sizeLine)(hr:bz k callerA)
  (F:∀ base:Heap,K.In base->base.Ns mainGlobals mg->cU P w K mg base CX k fa fd [x] sp)(Nl:∀(s:Shared)(u:Value),BindsTo s fd ⟨[u],[]⟩ [(x,u)])
  (kW:∀ H:Hp,nQ H->aC K H a (ns.map V.int)->sp [.ref a] H (λv _=>v=.bl true) λ_ _ _=>False)
  (v8:∀ H e s',CX [] H bq (λ_ _ _=>False) e s'->False) :
  codeAny (model P w) callerA (.call (.ref fa) ⟨[.ref a],[]⟩) (λr s'=>r=.ok (.ret (.bool true))/\OldK bq.heap s'.heap/\s'.os=bq.os/\AllBare s'.gens) bq:=by
 have rv:=Cf hi;have Nm:=hi.length
 -- from an abstract heap in aaw nothing but eg AQ may be tracked
 have core:∀ H:Hp,nQ H->aC K H a (ns.map V.int)->cD P w H bq.heap->(∀ b,H b≠none->b=a)->(H a≠none->K.lookup a=none) ->
   codeAny (model P w) callerA (.call (.ref fa) ⟨[.ref a],[]⟩) (λr s'=>r=.ok (.ret (.bool true))/\OldK bq.heap s'.heap/\s'.os=bq.os/\AllBare s'.gens) bq:=by
  intro H hO hS aw hA hK;have Ci:∀{b:Addr}{o:Obj},bq.heap.get? b=some o->H b=none->(jL bq.heap H).get? b=some o:=λe n=>KH e n
  have pK:∀{b:Addr}{o:Obj}{es:Array DictEntry}{ep:Nat},bq.heap.get? b=some o->o.data=.dict es ep->H b=none:=λ{b o es ep} e d=>by
   cases q:H b with
   |none=>rfl
   |some u=>
    have e':b=a:=hA b (by rw[q];simp);subst e';rw[ha] at e;cases e;have d':Data.seq vs.toArray _=Data.dict es ep:=d;cases d'
  have se:∀{b:Addr}{m:bU},bq.heap.Ns b m->(jL bq.heap H).Ns b m:=λ{b m} ⟨o,es,ep,e,d,r⟩=>⟨o,es,ep,Ci e (pK e d),d,r⟩
  have Cj:K.In (jL bq.heap H):=λb o e=>Ci (KX b o e) (by
   cases q:H b with
   |none=>rfl
   |some u=>
    have e':b=a:=hA b (by rw[q];simp);subst e'
    rw[hK (by rw[q];simp)] at e;cases e)
  have hM:Mod K mg (jL bq.heap H):=⟨Cj,se Cg,⟨mb,se hb,Nj⟩,let ⟨mc,h1,h2⟩:=Nk;⟨mc,se h1,h2⟩⟩;have e0:rS P w K mg (jL bq.heap H) callerA [] bq H:=⟨rfl,hM,λb o e=>KI e,Nat.le_of_eq (KG _ _),trivial,λb hb=>absurd (show b∈([]:List Addr) from hb) (by simp),aw,.of_eq hg⟩;refine codeAny_mono ((F _ Cj (se Cg)).run callerA [] bq H ⟨[.ref a],[]⟩ [.ref a] [.ref a] _ _ hr e0 (Nl bq (.ref a)) (.cons rfl .nil) (kW H hO hS)) λr s' h=>?_
  cases r with
  |error e=>exact(v8 H e s' h).elim
  |ok fl=>
   cases fl with
   |next=>exact False.elim h
   |brk=>exact False.elim h
   |cont=>exact False.elim h
   |ret u=>
    obtain⟨v,H',os,bare,un,Nn,r',q⟩:=h;have q':v=.bl true:=q;subst q';obtain rfl:u=Value.bool true:=r';refine⟨rfl,OldK.of_keep λb o e=>?_,os,bare⟩
    cases q:H b with
    |none=>exact un.keep b o e q (by intro z;exact absurd (show b∈([]:List Addr) from z) (by simp)) (by simp)
    |some u=>
     rcases hO b with z|⟨ob,xs,z⟩
     ·rw[q] at z;cases z
     ·have z2:=un.iL b ob _ z;obtain⟨⟨e1,_⟩,_⟩:=aw b _ z;obtain⟨⟨e2,_⟩,_⟩:=Nn b _ z2;rw[e] at e1;cases e1;exact e2
 cases hk:K.lookup a with
 |some o=>
  -- eg AQ is one of eg aax own objects
  have e:=KX a o hk;rw[ha] at e;cases e;refine core (λ_=>none) (λ_=>.inl rfl) (.inr ⟨_,vs.toArray,_,hk,rfl,rfl,rfl,by rw[size_toArray,Nm];exact hl,by simpa using rv⟩) (λb u z=>by have z':(none:Option HO)=some u:=z;cases z') (λb z=>absurd rfl z) λz=>absurd rfl z
 |none=>
  refine core (λb=>if b=a then some (.aY { cls:=.type "list",data:=.seq vs.toArray } (.lst (ns.map V.int))) else none) (λb=>?_) (.inl (.inr ⟨{ cls:=.type "list",data:=.seq vs.toArray },if_pos rfl⟩)) (λb u z=>?_) (λb z=>?_) λ_=>hk
  ·by_cases hb:b=a
   ·exact .inr ⟨_,_,if_pos hb⟩
   ·exact .inl (if_neg hb)
  ·by_cases hb:b=a
   ·have z':=(if_pos hb).symm.trans z;cases z';subst hb;exact⟨⟨ha,λ_ z=>nomatch z⟩,by rw[length_map];exact hl,vs,_,rv,ha⟩
   ·have z':=(if_neg hb).symm.trans z;cases z'
  ·by_cases hb:b=a
   ·exact hb
   ·exact absurd (if_neg hb) z
theorem Np {l:PySem.W.OpenLaw}{n k:Nat}{q:Program}{loose:ay}{XP:(bU)->Heap->Prop}{YP:World->Heap->Prop}{d:DefRec}{K:Params->Frag}{CX:World->f_}{sp:World->Sp}{x:Str}
  (hn:l.most=some n)(sf:n<=sizeLine)(pW:d.params.defaults=[])(hr:bz k callerA)
  (hY:∀(w:World)(h:Heap),YP w h->(K w.params).In h)
  (F:∀(w:World)(mg:bU)(fa:Addr)(h:Heap),(K w.params).In h->h.Ns mainGlobals mg->mg d.name=some (.ref fa) ->
   ∃ fd:FuncData,(∀(s:Shared)(u:Value),BindsTo s fd ⟨[u],[]⟩ [(x,u)]) /\
    ∀ base:Heap,(K w.params).In base->base.Ns mainGlobals mg->cU l.prog w (K w.params) mg base (CX w) k fa fd [x] (sp w))
  (kW:∀(w:World)(H:Hp)(a:Addr)(ns:List Int),ns.length<=n->nQ H->aC (K w.params) H a (ns.map V.int)->sp w [.ref a] H (λv _=>v=.bl true) λ_ _ _=>False)
  (v8:∀(w:World)(H:Hp)(s:Shared)(e:Value)(s':Shared),CX w [] H s (λ_ _ _=>False) e s'->False) :
  PySem.W.WalkO q loose XP YP l.row.toRowW d [] (λf vs=>PySem.call f vs):=by
 refine Ce.Nh hn pW λw dA bq mg mb fa o pm cd doc a vs ns G Y ho hd bA pX v7 hints hlen hg=>?_;have KX:=hY w _ Y;obtain⟨fd,hb,hF⟩:=F w mg fa _ KX G.T.g pX;exact Ni KX G.T.g G.T.b G.T.builtins G.T.nolimit hg v7 hints (cC hlen sf) hr hF hb (λH hO hS=>kW w H a ns hlen hO hS) λH e s'=>v8 w H bq e s'
noncomputable def jm (s:Stmt):Arguments:=match s with
 |.FunctionDef _ a _ _ _ _ _ _ _ _=>a
 |_=>{ posonlyargs:=[],args:=[],vararg:=none,kwonlyargs:=[],kw_defaults:=[],kwarg:=none,defaults:=[] }
noncomputable def fg (s:Stmt):List Stmt:=match s with
 |.FunctionDef _ _ b _ _ _ _ _ _ _=>b
 |_=>[]
noncomputable def aT (s:Stmt):Scope:=match s with
 |.FunctionDef _ _ _ _ _ _ sc _ _ _=>sc
 |_=>{ kind:=.function,names:=[],isGenerator:=false,isCoroutine:=false }
abbrev c_:f_:=λ_ _ _ _ _ _=>False
abbrev E0:XK:=λ_ _ _=>False
theorem iu {X:Cx}:Passes c_ X E0:=λ_ _ _ _ _ _ _ h=>h.elim
structure fh (K:Frag)(x qual:Str)(st:Stmt)(f:Addr)(fd:FuncData):Prop where
 ex:∃(oc:Value)(od:Option Addr)(kV doc pm:Value)(an:Option Addr)(aF ct:Value)(kU:Array (Option Value)),
  fd=PySem.W.fnOf x qual (jm st) (fg st) (aT st) .none kV doc pm an aF ct/\K.lookup f=some ⟨oc,od,.func fd,kU⟩/\PySem.W.codeIn K aF qual=true
 kp:PySem.W.keepIn K (.ref f)=true
section
variable {P:Program}{w:World}{K:Frag}{mg:bU}{base:Heap}
theorem fh.ok {x qual:Str}{st:Stmt}{f:Addr}{fd:FuncData}{N ps:ay}{k:Nat}{sp:Sp}(F:fh K x qual st f fd)(S:bH N ps (aT st))(len:∀ vs H Q E,sp vs H Q E->vs.length=ps.length)
  (fO:∀(aF:Value)(A:Around)(outer:List Env)(s:Shared)(H:Hp)(vs:Zv)(Q:VK)(E:XK),bz k (A.deeper (envOfC qual (aT st) s.heap.objs.size f aF))->sp vs H Q E ->
   ∃ t,cn (iq c_ P w K mg base N qual (aT st) f aF A outer s H E).jh (fg st) t/\t { nx:=λ_ H'=>Q .ai H',rt:=Q } (start N vs) H):cU P w K mg base c_ (k+1) f fd ps sp:=by
 obtain⟨oc,od,kV,doc,pm,an,aF,ct,kU,rfl,lk,bA⟩:=F.ex;refine Mg lk bA S len λA outer s H vs Q E hr kW=>?_;obtain⟨t,h,q⟩:=fO aF A outer s H vs Q E hr kW;exact⟨t,h.jh,q⟩
theorem fh.binds {x qual:Str}{st:Stmt}{f:Addr}{fd:FuncData}{ps:ay}(F:fh K x qual st f fd)
  (h:∀(kV doc pm:Value)(an:Option Addr)(aF ct:Value)(us:aR),us.length=ps.length->bindArgs (PySem.W.fnOf x qual (jm st) (fg st) (aT st) .none kV doc pm an aF ct) ⟨us,[]⟩=pure (ps.zip us)):Binds K fd ps []:=by
 obtain⟨oc,od,kV,doc,pm,an,aF,ct,kU,rfl,lk,bA⟩:=F.ex;exact .all (h kV doc pm an aF ct)
theorem Nq {x qual:Str}{st:Stmt}{f:Addr}{oc:Value}{od an:Option Addr}{kU:Array (Option Value)}{kV doc pm aF ct:Value}(l:K.lookup f=some ⟨oc,od,.func (PySem.W.fnOf x qual (jm st) (fg st) (aT st) .none kV doc pm an aF ct),kU⟩)
  (c:PySem.W.codeIn K aF qual=true)(k:PySem.W.keepIn K (.ref f)=true):fh K x qual st f (PySem.W.fnOf x qual (jm st) (fg st) (aT st) .none kV doc pm an aF ct):=⟨⟨oc,od,kV,doc,pm,an,aF,ct,kU,rfl,l,c⟩,k⟩
end
theorem fR {A:Around}{k:Nat}(hr:bz k A):A.units+1<cLine:=Nat.lt_of_le_of_lt (Nat.add_le_add_left (by decide:1<=64) _) hr.units
theorem kY {n:Nat}(h:n<=1000):n<sizeLine:=Nat.lt_of_le_of_lt h (by decide)
section
variable {X:Cx}
theorem pv (i:Nat){x:Str}{pos:Pos}(hN:X.N[i]?=some x:=by rfl)(hv:di X.env.scope x:=by walk_at "v")(hd:(x==("__debug__":Str))=false:=by decide)
  (bA:(x==("__classdict__":Str))=false:=by decide):PE X (.Name x pos) (vC i):=dO hN hv hd bA
end
theorem nR {A B:Prop}(h:B):if false=true then A else B:=by
 rw[if_neg Bool.false_ne_true];exact h
theorem nS {A B:Prop}(h:A):if true=true then A else B:=by
 rw[if_pos rfl];exact h
theorem pY {c A B:Prop} [Decidable c] (h1:c->A)(h2:¬ c->B):if c then A else B:=by
 by_cases h:c
 ·rw[if_pos h];exact h1 h
 ·rw[if_neg h];exact h2 h
def aQ (H H':Hp):Prop:=∀ b o,H b=some o->H' b=some o
theorem aQ.refl (H:Hp):aQ H H:=λ_ _ h=>h
section
variable {κ:Type} [DecidableEq κ]
theorem Nr {kvs:List (κ×V)}{k:κ}{v:V}(h:cK kvs k=some v):k∈kvs.map (·.1):=by
 have q:(kvs.any λkv=>decide (kv.1=k))=true:=by
  rw[nJ,h]
  all_goals rfl
 obtain⟨p,hp,e⟩:=any_eq_true.mp q;exact mem_map.mpr ⟨p,hp,of_decide_eq_true e⟩
end
noncomputable def gG (k:Nat)(ix:List Nat)(σ:St):St:=replicate k none++ix.map λj=>(σ[j]?).join
section
variable {σ:St}{k:Nat}{ix:List Nat}
theorem Nt {i:Nat}{v:V}(h:(gG k ix σ)[i]?=some (some v)):∃ i' j,i=k+i'/\ix[i']?=some j/\σ[j]?=some (some v):=by
 unfold gG at h;by_cases hi:i<k
 ·rw[getElem?_append_left (by simpa using hi),getElem?_replicate,if_pos hi] at h;cases h
 ·rw[getElem?_append_right (by simpa using (Nat.le_of_not_lt hi)),length_replicate,getElem?_map] at h
  cases e:ix[i-k]? with
  |none=>rw[e] at h;cases h
  |some j=>
   rw[e] at h;have h2:(σ[j]?).join=some v:=Option.some.inj h;refine⟨i-k,j,by omega,e,?_⟩
   cases e2:σ[j]? with
   |none=>rw[e2] at h2;cases h2
   |some o=>rw[e2] at h2;exact congrArg some h2
end
def iX (X:Cx)(ifs:List Expr)(t:TT):Prop:=
 ∀(pins:aL)(s:Shared)(σ:St)(H:Hp)(Q:Bool->Hp->Prop),Inv X pins σ H s->t σ H Q ->
  wpAny (model X.prog X.w) X.A (forIn ifs true λc r=>if r=true then do let ok <- isTrue c X.env (eval c X.env);pure (ForInStep.yield ok) else pure (ForInStep.yield r)) (TP X pins σ Q) X.xe s
def Nu:TT:=λ_ H Q=>Q true H
theorem Nv {X:Cx}:iX X [] Nu:=λ_ _ _ H _ I h=>wpAny_tests_nil ⟨H,I,h⟩
theorem Nw {X:Cx}{c:Expr}{t:TT}(h:PT X c t):iX X [c] t:=λpins s σ H Q I q=>wpAny_tests_one (h pins s σ H Q I q)
def pZ (J:It)(g:TG)(tI:TT)(te:TE)(acc:Addr)(Q:VK)(σ:St)(H:Hp):Prop:=
 ∃ W:Nat->Nat->St->Hp->Prop,(∃ m,W 0 m σ H)/\∀ i m aJ H',W i m aJ H' ->
  (J.stop i H'/\Q (.ref acc) H')\/(J.go i H'/\∃ N:St->Hp->Prop,(∀ bu H2,N bu H2->∃ m',m'<m/\W (i+1) m' bu H2) /\
   ∀ x H2,J.eo i H' x H2->g x aJ H2 λcT H3=>tI cT H3 λb H4=>if b=true then te cT H4 λy H5=>∃ ys,H5 acc=some (.lst ys)/\ys.length<sizeLine/\N cT (upd H5 acc (.lst (ys++[y]))) else N cT H4)
def Ny (k:Nat)(ix:List Nat)(wi:TI)(g:TG)(tI:TT)(te:TE):TE:=λσ H Q=>wi σ H λJ H1=>∀ acc,H1 acc=none->pZ J g tI te acc Q (gG k ix σ) (upd H1 acc (.lst []))
def Nz (i k:Nat)(ix:List Nat)(wi:TI)(g:TG)(tI:TT)(te:TE):TS:=λD σ H=>wi σ H λJ H1=>∀ acc,H1 acc=none->pZ J g tI te acc (λv H2=>D.nx (σ.set i (some v)) H2) (gG k ix σ) (upd H1 acc (.lst []))
section
variable {X:Cx}
theorem Ck:bE X (binaryOp .FloorDiv) (rI (λ_ j=>0<j/\j<2 ^ 200) λi j=>.int (i / j)):=pG λi j _ _ _ _ _ hc q=>by
 have h1:(0:Int)<j:=hc.1;have h2:j<2 ^ 200:=hc.2;have h3:j.natAbs<2 ^ 200:=by omega
 have h4:j.natAbs≠0:=by omega
 have h5:j.natAbs.log2<9000:=(Nat.log2_lt h4).mpr (c8 h3 (Nat.pow_le_pow_right (by decide) (by decide)));exact floordiv_int (by omega) (by rw[Int.fdiv_eq_ediv_of_nonneg i (by omega)];exact q) (.inl (PyProof.noPylong_of_log2 h5))
theorem Cm:bE X (compareOp .LtE) (λx y H Q=>∃ i j,x=.str i/\y=.str j/\Q (.bl (!(decide (j.cps.toList<i.cps.toList)))) H):=by
 intro pins s σ H x y v u Q I rx ry h;obtain⟨i,j,rfl,rfl,q⟩:=h;obtain⟨t,rfl⟩:=rx;obtain⟨t',rfl⟩:=ry;exact P.le_str ⟨.bl _,H,I,rfl,q⟩
end
noncomputable def v9 (x:Str):It:=⟨λi _=>i<x.cps.size,λi H y H'=>H'=H/\∃ c,x.cps[i]?=some c/\y=.str ⟨#[c]⟩,λi _=>x.cps.size<=i⟩
theorem NA {P:Program}{w:World}{K:Frag}{tg:Expr}(it:Addr)(x:Str)(t:Tok):Turn P w K tg (v9 x) [it] it (λi h=>h.IsStrIter it "str_ascii_iterator" x t i) where
 mem:=by simp
 obj:=λi h st b hb=>by
  have e:b=it:=by simpa using hb
  subst e;obtain⟨o,e,c,d⟩:=st;exact⟨o,e,λv z=>by rw[d] at z;cases z⟩
 keep:=λi h h' st k=>by
  obtain⟨o,e,c,d⟩:=st;exact⟨o,k it (by simp) o e,c,d⟩
 item:=by
  intro X hP hw hK hc i pins s σ H E I hf st hg;subst hP hw hK;obtain⟨f0,f1,f2,f3,f4,f5⟩:=hf it (by simp);have hx:x.cps[i]?=some x.cps[i]:=Array.getElem?_eq_getElem hg;refine wpAny_pyNext_ascii_item st hx λh' au sb=>?_;have I1:Inv X pins σ H { s with heap:=h',toks:=s.toks+1 }:=I.turned (t':=s.toks+1) (λb o hb e=>(sb.2 b hb).trans e) f0 f1 f3 f4 f5;obtain⟨o,e,c,d⟩:=id au;exact⟨_,rfl,nE (s:={ s with heap:=h',toks:=s.toks+1 }) e c d (by decide) ⟨.str ⟨#[x.cps[i]]⟩,H,I1,⟨_,rfl⟩,⟨rfl,_,hx,rfl⟩,au,λb hb=>(hf b hb).1⟩⟩
 done:=by
  intro X hP hw hK hc i pins s σ H E I hf st hg;subst hP hw hK;obtain⟨f0,f1,f2,f3,f4,f5⟩:=hf it (by simp);exact wpAny_pyNext_ascii_end (I.ok.hd hc) st (Array.getElem?_eq_none hg) λh' eb=>⟨rfl,I.turned (t':=s.toks) (λb o hb e=>eb b o hb e) f0 f1 f3 f4 f5⟩
 self:=λA i s Q E st h=>by
  refine wpAny_pyIter_slot st.typeIs F.slot_str_ascii_iterator_iter (wpAny_call_entry F.slot_str_ascii_iterator_iter st.typeIs F.entry_str_ascii_iterator_iter ?_ (F.args_str_ascii_iterator_iter_1 _));show wpAny _ _ (ret (.ref it)) _ _ s;exact aP ⟨_,rfl,"str_ascii_iterator",_,st.typeIs,F.slot_str_ascii_iterator_next.lookup,h⟩
theorem getD_at {bs:List Bool}{i:Nat}(h:i<bs.length):bs.getD i false=bs[i]:=by simp [getD,h]
theorem range_all {bs:List Bool}:(range bs.length).all (λi=>bs.getD i false)=bs.all id:=by
 rw[Bool.eq_iff_iff,all_eq_true,all_eq_true];constructor
 ·intro h x hx;obtain⟨i,hi,rfl⟩:=getElem_of_mem hx;have:=h i (mem_range.mpr hi);rw[getD_at hi] at this;exact this
 ·intro h i hi;have fD:=mem_range.mp hi;rw[getD_at fD];exact h _ (getElem_mem fD)
theorem range_any {bs:List Bool}:(range bs.length).any (λi=>bs.getD i false)=bs.any id:=by
 rw[Bool.eq_iff_iff,any_eq_true,any_eq_true];constructor
 ·rintro⟨i,hi,h⟩;have fD:=mem_range.mp hi;rw[getD_at fD] at h;exact⟨_,getElem_mem fD,h⟩
 ·rintro⟨x,hx,h⟩;obtain⟨i,hi,rfl⟩:=getElem_of_mem hx;exact⟨i,mem_range.mpr hi,by rw[getD_at hi];exact h⟩
section
variable {X:Cx}
theorem Cn {pins:aL}{σ:St}{H:Hp}{s:Shared}{p:Addr}{bs:List Bool}{F:(Nat->Bool)->Nat->Bool}{Q:aU}(hc:X.calm=true)(I:Inv X pins σ H s)(hl:aC X.K H p (bs.map V.bl))
  (q:∀ s',Inv X pins σ H s'->Q (.bool (F (λi=>bs.getD i false) bs.length)) s') :
  wpAny (model X.prog X.w) X.A.in1 (pyIter (.ref p)) (λit fA=>∃ I fp wr n P St tr,it=.ref I/\Walks X.prog X.w X.A.in1 I fp wr n P St/\St 0 fA.heap/\TruthOf X.prog X.w X.A.in1 P tr /\
   ∀ h' tk,(∀ b o,b∉wr->fA.heap.get? b=some o->h'.get? b=some o)->Q (.bool (F tr n)) { fA with heap:=h',toks:=tk }) X.xe s:=by
 obtain⟨its,rv,pl,hz⟩:=I.list hl
 have cV:p≠s.heap.objs.size:=by
  obtain⟨o,ho,_⟩:=pl.isList;exact bN (aV ho)
 refine wpAny_pyIter_list pl.isList ?_
 have hlen:its.toArray.size=bs.length:=by
  have:=rv.length;rw[length_map] at this;simp [this]
 refine⟨s.heap.objs.size,_,_,_,_,_,λi=>bs.getD i false,rfl,Walks.list (A:=X.A.in1) (I.ok.hd hc) s.heap.objs.size p cV its.toArray,⟨⟨_,cI _ rfl,rfl,rfl⟩,pl.isList.push _⟩,?_,λh' tk hk=>?_⟩
 ·intro i v s' Q' E' hv hq;have dS:its[i]?=some v:=by simpa using hv
  have hi:i<its.length:=(b8 dS).1
  have p0:i<bs.length:=by
   have:=rv.length;rw[length_map] at this;omega
  obtain⟨u,hu,ru⟩:=rv.get (i:=i) (x:=V.bl bs[i]) (by rw[getElem?_map,bL p0];rfl);rw[dS] at hu;cases hu;cases (show v=Value.bool bs[i] from ru);refine wpAny_truthy_bool ?_;have Cp:Q' (bs.getD i false) s':=hq;rw[getD_at p0] at Cp;exact Cp
 ·rw[hlen];refine q _ (I.kept λb o e=>hk b o ?_ (aX _ e));intro hb;have:b=s.heap.objs.size:=by simpa using hb
  exact absurd (aV e) (by rw[this];exact Nat.lt_irrefl _)
theorem NB (hc:X.calm=true):eA X (.builtin "all") (λxs H Q=>∃(p:Addr)(bs:List Bool),xs=[.ref p]/\aC X.K H p (bs.map V.bl)/\Q (.bl (bs.all id)) H):=by
 intro pins s σ H xs us Q I r h;obtain⟨p,bs,rfl,hl,q⟩:=h;obtain⟨u,rfl,ru⟩:=vals1 r;cases ru;exact call_all_walk (Cn (F:=λtr n=>(range n).all tr) hc I hl λs' I'=>⟨.bl _,H,I',by rw[range_all];rfl,q⟩)
theorem NC (hc:X.calm=true):eA X (.builtin "any") (λxs H Q=>∃(p:Addr)(bs:List Bool),xs=[.ref p]/\aC X.K H p (bs.map V.bl)/\Q (.bl (bs.any id)) H):=by
 intro pins s σ H xs us Q I r h;obtain⟨p,bs,rfl,hl,q⟩:=h;obtain⟨u,rfl,ru⟩:=vals1 r;cases ru;exact call_any_walk (Cn (F:=λtr n=>(range n).any tr) hc I hl λs' I'=>⟨.bl _,H,I',by rw[range_any];rfl,q⟩)
theorem ND:B6 X "dict.update" (λx vs H Q=>∃ d o kvs more,x=.ref d/\vs=[.ref o]/\d≠o/\H d=some (.dK kvs)/\H o=some (.dK more)/\kvs.length+more.length<=sizeLine/\Q .ai (upd H d (.dK (iR kvs more)))):=by
 intro pins s σ H x xs v us Q I rx rv h;obtain⟨d,o,kvs,more,rfl,rfl,cV,hd,ho,hz,q⟩:=h;cases rx;obtain⟨u,rfl,ru⟩:=vals1 rv;cases ru;obtain⟨z1,n1,NF,r1,Cq⟩:=pN I.aw hd;obtain⟨z2,n2,NG,r2,nO⟩:=pN I.aw ho
 refine call_meetsIn PySem.F.slot_dict_update Cq.typeIs PySem.F.entry_dict_update (PySem.F.args_dict_update_2 _ _) (meets_dict_update (ck X.prog X.w) d o cV n2)
  ⟨NF,NG,Cq,nO,(by rw[<- r1.length,<- r2.length];exact hz),λh' jk _ hs=>?_⟩
 refine⟨.ai,_,rV (t':=s.toks) I (by rw[hd];trivial) hs ?_ (rW (cC (vR _ _) hz) n1 (KV.merge r2 r1) jk),rfl,q⟩;obtain⟨ob,_,_,e,_⟩:=jk;exact⟨ob,e⟩
end
end L2
namespace HQ
open PySem PyProof.Rows PySem.SeqAt
section
open PySem.AutoSeq1 (wpAny_loadPart')
open PySem.MeetsSeq PySem.MeetsSeq2 PySem.MeetsSeq3
end
end HQ
namespace L2
open PySem PySem.Spec PyProof.Rows
section
variable {X:Cx}{pins:aL}{σ:St}{H:Hp}{s:Shared}
theorem Cr {A:Around}{x y:V}{u v:Value}(fx:mr x=true)(fy:mr y=true)(rx:RelV x u)(ry:RelV y v):SeqAt.EqAt A s u v (pU x y):=MY rx ry fx fy
theorem in1_units (A:Around):A.in1.units=A.units+1:=rfl
theorem NH {A:Around}{R:V->V->Bool->Prop}{xs ys:Zv}{us vs:aR}{e:Nat->Bool}(r1:Vals xs us)(r2:Vals ys vs)(he:∀(j:Nat)(x y:V),xs[j]?=some x->ys[j]?=some y->R x y (e j))
  (hR:∀ x y b u v,R x y b->RelV x u->RelV y v->SeqAt.EqAt A s u v b):∀ j (h1:j<us.toArray.size)(h2:j<vs.toArray.size),SeqAt.EqAt A s us.toArray[j] vs.toArray[j] (e j):=λj h1 h2=>by
 have l1:=r1.length;have l2:=r2.length;have kZ:j<us.length:=by simpa using h1
 have NI:j<vs.length:=by simpa using h2
 obtain⟨u,hu,ru⟩:=r1.get (i:=j) (x:=xs[j]'(by omega)) (bL _);obtain⟨v,hv,rv⟩:=r2.get (i:=j) (x:=ys[j]'(by omega)) (bL _)
 have eu:us.toArray[j]=u:=by
  rw[bL kZ] at hu;simpa using Option.some.inj hu
 have ev:vs.toArray[j]=v:=by
  rw[bL NI] at hv;simpa using Option.some.inj hv
 rw[eu,ev];exact hR _ _ _ _ _ (he j _ _ (bL _) (bL _)) ru rv
end
end L2
namespace HZ
open PySem PyProof.Rows
section
variable {prog:Program}{w:World}{A:Around}{E:aU}{s:Shared}
theorem sg {j t:Addr}{i:Nat}{its:Array Value}{x:Value}{Q:aU}(st:s.heap.IsTupleIter j t i)(ht:s.heap.IsTuple t its)(hx:its[i]?=some x)
  (hQ:∀ h',h'.IsTupleIter j t (i+1)->Heap.SameBut j s.heap h'->Q x { s with heap:=h' }):wpAny (model prog w) A (Builtin.SmallTypes.nextOf (.ref j)) Q E s:=by
 obtain⟨o1,e1,c1,d1⟩:=id st;obtain⟨o2,e2,_,n2,d2⟩:=ht;unfold Builtin.SmallTypes.nextOf;refine aj (wpAny_callSpecial?_slot (name:=Str.ofString "__next__") st.typeIs PySem.F.slot_tuple_iterator_next (wpAny_call_entry PySem.F.slot_tuple_iterator_next st.typeIs PySem.F.entry_tuple_iterator_next ?_ (PySem.F.args_tuple_iterator_next_1 _)));show wpAny _ _ (field (.ref j) 0 >>= _) _ _ s;refine aj (wpAny_field e1 d1 (x:=.ref t) rfl ?_);show wpAny _ _ (if (Value.ref t==Value.none)=true then _ else _) _ _ s;rw[if_neg (show ¬ ((Value.ref t==Value.none)=true) from Bool.false_ne_true)];show wpAny _ _ (field (.ref j) 1 >>= _) _ _ s;refine aj (wpAny_field e1 d1 (x:=.int i 0) rfl ?_);show wpAny _ _ (seqItems? (.ref t) >>= _) _ _ s;refine aj (wpAny_seqItems e2 d2 ?_);simp only[Int.toNat_natCast,hx];refine aj (wpAny_setField e1 d1 (by simp) (aP ⟨x,rfl,aP (hQ _ ?_ (Heap.SameBut.update ..))⟩));exact⟨_,Heap.get?_update_self _ e1 (Obj.isFreed_of_fields (Obj.data_mapFields d1 _)),(Obj.cls_mapFields ..).trans c1,by rw[Obj.data_mapFields d1];simp [rawInt]⟩
theorem v_ {j t:Addr}{i:Nat}{its:Array Value}{Q:aU}(hh:A.handled=none)(st:s.heap.IsTupleIter j t i)(ht:s.heap.IsTuple t its)(hx:its[i]?=none)
  (hE:∀ h' e,Heap.ExtBut j s.heap h'->(∃ o,h'.get? e=some o/\o.cls=.type "StopIteration")->E (.ref e) { s with heap:=h' }):wpAny (model prog w) A (Builtin.SmallTypes.nextOf (.ref j)) Q E s:=by
 obtain⟨o1,e1,c1,d1⟩:=id st;obtain⟨o2,e2,_,n2,d2⟩:=ht;unfold Builtin.SmallTypes.nextOf;refine aj (wpAny_callSpecial?_slot (name:=Str.ofString "__next__") st.typeIs PySem.F.slot_tuple_iterator_next (wpAny_call_entry PySem.F.slot_tuple_iterator_next st.typeIs PySem.F.entry_tuple_iterator_next ?_ (PySem.F.args_tuple_iterator_next_1 _)));show wpAny _ _ (field (.ref j) 0 >>= _) _ _ s;refine aj (wpAny_field e1 d1 (x:=.ref t) rfl ?_);show wpAny _ _ (if (Value.ref t==Value.none)=true then _ else _) _ _ s;rw[if_neg (show ¬ ((Value.ref t==Value.none)=true) from Bool.false_ne_true)];show wpAny _ _ (field (.ref j) 1 >>= _) _ _ s;refine aj (wpAny_field e1 d1 (x:=.int i 0) rfl ?_);show wpAny _ _ (seqItems? (.ref t) >>= _) _ _ s;refine aj (wpAny_seqItems e2 d2 ?_);simp only[Int.toNat_natCast,hx];refine aj (wpAny_rule (aj (wpAny_setField e1 d1 (by simp) ?_)));show wpAny _ _ (newExc (.type "StopIteration") [] >>= _) _ _ _;refine aj ?_;simp only[newExc,newTuple];refine aj (wpAny_newObj_type ?_ (by size_fits));refine aj (m:=firstArgMember _ _) (wpAny_of_eq (a:=Value.none) (by first|rfl|(simp only[firstArgMember];rfl)) ?_);refine wpAny_newObj_type ?_ (by size_fits);simp only[raiseNew];refine aj (wpAny_handled ?_);first|rw[show A.in1.handled=none from hh]|rw[hh]
 refine aj (aP (wpAny_throw ?_));exact hE _ _ (((Heap.SameBut.update ..).extBut.push _).push _) ⟨_,cI _ rfl,rfl⟩
theorem NJ {z a c i1 i2 l1 l2:Addr}{k1 k2:Nat}{xs ys:Array Value}{x y p q:Value}{Q:aU}(D:ZipApart z a c i1 i2 l1 l2)
  (hz:IsZip s.heap z a c .none)(ha:IsPair s.heap a (.ref i1) (.ref i2))(hc:IsPair s.heap c p q)
  (h1:s.heap.IsTupleIter i1 l1 k1)(h2:s.heap.IsTupleIter i2 l2 k2)(k5:s.heap.IsTuple l1 xs)(jl:s.heap.IsTuple l2 ys)(hx:xs[k1]?=some x)(hy:ys[k2]?=some y)
  (hQ:∀ h',IsZip h' z a c (rawInt s.heap.objs.size)->IsPair h' c x y->h'.IsTupleIter i1 l1 (k1+1)->h'.IsTupleIter i2 l2 (k2+1)->IsPair h' s.heap.objs.size x y->h'.objs.size=s.heap.objs.size+1 ->
   (∀ e o,e≠z->e≠c->e≠i1->e≠i2->s.heap.get? e=some o->h'.get? e=some o)->Q (.ref s.heap.objs.size) { s with heap:=h' }) :
  wpAny (model prog w) A (Builtin.«zip.__next__» ⟨[.ref z],[]⟩) (λfin s'=>∃ v,fin=.done (.ret v)/\Q v s') E s:=by
 show wpAny _ _ (field (.ref z) 2 >>= _) _ _ _;refine aj (wpAny_field hz rfl (x:=.bool false) rfl ?_);show wpAny _ _ (field (.ref z) 3 >>= _) _ _ _;refine aj (wpAny_field hz rfl (x:=.ref a) rfl ?_);refine aj (wpAny_seqItems ha rfl ?_);show wpAny _ _ (Builtin.SmallTypes.ownedTupleIsFree (.ref z) >>= _) _ _ _;refine aj ?_;unfold Builtin.SmallTypes.ownedTupleIsFree;refine aj (wpAny_field hz rfl (x:=.none) rfl (aP ?_));simp only[if_true];refine aj (wpAny_rule ?_);refine aj (wpAny_field hz rfl (x:=.ref c) rfl ?_);refine aj (wpAny_setField_rec hz (by simp) λg1 k6 s1=>?_)
 replace k6:IsZip g1 z a c .ellipsis:=k6
 refine aj ?_;simp only[zipIdx_cons,zipIdx_nil,forIn_cons,forIn_nil];refine aj (aj (wpAny_onRaise ?_));show wpAny _ _ (Builtin.SmallTypes.nextOf (.ref i1) >>= _) _ _ _;refine aj (sg (h1.extBut s1.extBut D.i1z) (k5.extBut s1.extBut D.l1z) hx λg2 Cs s2=>aP ?_);have iS:IsPair g2 c p q:=s2.extBut _ _ D.TOi1 (s1.extBut _ _ D.TOz hc);refine aj (wpAny_seqItems iS rfl ?_);refine aj (wpAny_updateSeq_pair iS λg3 sh s3=>?_)
 replace sh:IsPair g3 c x q:=sh
 refine aj (wpAny_letGo (aP ?_));refine aj (aj (wpAny_onRaise ?_));show wpAny _ _ (Builtin.SmallTypes.nextOf (.ref i2) >>= _) _ _ _;refine aj (sg (((h2.extBut s1.extBut D.i2z).extBut s2.extBut D.i12.symm).extBut s3.extBut D.TOi2.symm) (((jl.extBut s1.extBut D.l2z).extBut s2.extBut D.l2i1).extBut s3.extBut D.l2TO) hy λg4 NL s4=>aP ?_);have Ct:IsPair g4 c x q:=s4.extBut _ _ D.TOi2 sh;refine aj (wpAny_seqItems Ct rfl ?_);refine aj (wpAny_updateSeq_pair Ct λg5 si s5=>?_)
 replace si:IsPair g5 c x y:=si
 refine aj (wpAny_letGo (aP (aP ?_)));refine aj (wpAny_seqItems si rfl ?_);refine aj (wpAny_newTuple ?_);have hsz:g5.objs.size=s.heap.objs.size:=by rw[s5.1,s4.1,s3.1,s2.1,s1.1]
 have Cu:IsZip g5 z a c .ellipsis:=s5.extBut _ _ D.TOz.symm (s4.extBut _ _ D.i2z.symm (s3.extBut _ _ D.TOz.symm (s2.extBut _ _ D.i1z.symm k6)));have NM:∀ e o,e≠z->e≠c->e≠i1->e≠i2->s.heap.get? e=some o->g5.get? e=some o:=λe o q1 q2 q3 q4 r=>s5.extBut _ _ q2 (s4.extBut _ _ q4 (s3.extBut _ _ q2 (s2.extBut _ _ q3 (s1.extBut _ _ q1 r))));have vT:g5.IsTupleIter i1 l1 (k1+1):=((Cs.extBut s3.extBut D.TOi1.symm).extBut s4.extBut D.i12).extBut s5.extBut D.TOi1.symm;have NN:g5.IsTupleIter i2 l2 (k2+1):=NL.extBut s5.extBut D.TOi2.symm;have Cv:z<g5.objs.size:=aV Cu;show wpAny _ _ (Builtin.SmallTypes.ownedTupleHandOut (.ref z) (.ref g5.objs.size) >>= _) _ _ _;refine aj ?_;unfold Builtin.SmallTypes.ownedTupleHandOut;have NP:IsZip (g5.push { cls:=.type "tuple",data:=.seq #[x,y] }) z a c .ellipsis:=aX _ Cu;refine aj (wpAny_setField_rec NP (by simp) λg7 wa s7=>?_);replace wa:IsZip g7 z a c (rawInt g5.objs.size):=wa;refine wpAny_setField_rec wa (by simp) λg8 sj s8=>?_;replace sj:IsZip g8 z a c (rawInt g5.objs.size):=sj;have up:∀ e o,e≠z->g5.get? e=some o->g8.get? e=some o:=λe o q1 r=>s8.extBut _ _ q1 (s7.extBut _ _ q1 (aX _ r));have Cw:IsPair g8 g5.objs.size x y:=s8.extBut _ _ (Nat.ne_of_gt Cv) (s7.extBut _ _ (Nat.ne_of_gt Cv) (cI _ rfl));have z8:g8.objs.size=g5.objs.size+1:=by rw[s8.1,s7.1,Heap.size_push]
 rw[hsz] at sj Cw z8;refine aP ⟨_,rfl,?_⟩;show Q (.ref g5.objs.size) _;rw[hsz];exact hQ g8 sj (up _ _ D.TOz si) (vT.at λo r=>up _ o D.i1z r) (NN.at λo r=>up _ o D.i2z r) Cw z8 λe o q1 q2 q3 q4 r=>up e o q1 (NM e o q1 q2 q3 q4 r)
theorem NQ {z a c i1 i2 l1 l2:Addr}{k1 k2:Nat}{xs ys:Array Value}{p q:Value}{Q:Fin->Shared->Prop}(hh:A.handled=none)(D:ZipApart z a c i1 i2 l1 l2)
  (hz:IsZip s.heap z a c .none)(ha:IsPair s.heap a (.ref i1) (.ref i2))(hc:IsPair s.heap c p q)
  (h1:s.heap.IsTupleIter i1 l1 k1)(h2:s.heap.IsTupleIter i2 l2 k2)(k5:s.heap.IsTuple l1 xs)(jl:s.heap.IsTuple l2 ys)(mx:xs[k1]?=none\/ys[k2]?=none)
  (hE:∀ h' e,(∀ e o,e≠z->e≠c->e≠i1->e≠i2->s.heap.get? e=some o->h'.get? e=some o)->(∃ o,h'.get? e=some o/\o.cls=.type "StopIteration")->E (.ref e) { s with heap:=h' }) :
  wpAny (model prog w) A (Builtin.«zip.__next__» ⟨[.ref z],[]⟩) Q E s:=by
 show wpAny _ _ (field (.ref z) 2 >>= _) _ _ _;refine aj (wpAny_field hz rfl (x:=.bool false) rfl ?_);show wpAny _ _ (field (.ref z) 3 >>= _) _ _ _;refine aj (wpAny_field hz rfl (x:=.ref a) rfl ?_);refine aj (wpAny_seqItems ha rfl ?_);show wpAny _ _ (Builtin.SmallTypes.ownedTupleIsFree (.ref z) >>= _) _ _ _;refine aj ?_;unfold Builtin.SmallTypes.ownedTupleIsFree;refine aj (wpAny_field hz rfl (x:=.none) rfl (aP ?_));simp only[if_true];refine aj (wpAny_rule ?_);refine aj (wpAny_field hz rfl (x:=.ref c) rfl ?_);refine aj (wpAny_setField_rec hz (by simp) λg1 k6 s1=>?_)
 replace k6:IsZip g1 z a c .ellipsis:=k6
 refine aj ?_;simp only[zipIdx_cons,zipIdx_nil,forIn_cons,forIn_nil];refine aj (aj (wpAny_onRaise ?_));show wpAny _ _ (Builtin.SmallTypes.nextOf (.ref i1) >>= _) _ _ _
 cases hx:xs[k1]? with
 |none=>
  refine aj (v_ hh (h1.extBut s1.extBut D.i1z) (k5.extBut s1.extBut D.l1z) hx λg2 e s2 he=>?_);obtain⟨oe,my,mz⟩:=he;have nT:IsZip g2 z a c .ellipsis:=s2 _ _ D.i1z.symm k6;have wb:e≠z:=λr=>by subst r;rw[nT] at my;cases my;simp at mz
  refine wpAny_setField_rec nT (by simp) λg3 _ s3=>hE g3 e (λd o q1 _ q3 _ r=>s3.extBut _ _ q1 (s2 _ _ q3 (s1.extBut _ _ q1 r))) ⟨oe,s3.extBut _ _ wb my,mz⟩
 |some x=>
  have hy:ys[k2]?=none:=by
   rcases mx with h|h
   ·rw[hx] at h;cases h
   ·exact h
  refine aj (sg (h1.extBut s1.extBut D.i1z) (k5.extBut s1.extBut D.l1z) hx λg2 Cs s2=>aP ?_);have iS:IsPair g2 c p q:=s2.extBut _ _ D.TOi1 (s1.extBut _ _ D.TOz hc);refine aj (wpAny_seqItems iS rfl ?_);refine aj (wpAny_updateSeq_pair iS λg3 sh s3=>?_);refine aj (wpAny_letGo (aP ?_));refine aj (aj (wpAny_onRaise ?_));show wpAny _ _ (Builtin.SmallTypes.nextOf (.ref i2) >>= _) _ _ _;refine aj (v_ hh (((h2.extBut s1.extBut D.i2z).extBut s2.extBut D.i12.symm).extBut s3.extBut D.TOi2.symm) (((jl.extBut s1.extBut D.l2z).extBut s2.extBut D.l2i1).extBut s3.extBut D.l2TO) hy λg4 e s4 he=>?_);obtain⟨oe,my,mz⟩:=he;have Cy:IsZip g4 z a c .ellipsis:=s4 _ _ D.i2z.symm (s3.extBut _ _ D.TOz.symm (s2.extBut _ _ D.i1z.symm k6));have wb:e≠z:=λr=>by subst r;rw[Cy] at my;cases my;simp at mz
  refine wpAny_setField_rec Cy (by simp) λg5 _ s5=>hE g5 e (λd o q1 q2 q3 q4 r=>s5.extBut _ _ q1 (s4 _ _ q4 (s3.extBut _ _ q2 (s2.extBut _ _ q3 (s1.extBut _ _ q1 r))))) ⟨oe,s5.extBut _ _ wb my,mz⟩
noncomputable abbrev jV (h:Heap)(l1:Addr):Heap:=h.push { cls:=.type "tuple_iterator",data:=.fields #[.ref l1,.int 0 0] }
noncomputable abbrev sk (h:Heap)(l1 l2:Addr):Heap:=(jV h l1).push { cls:=.type "tuple_iterator",data:=.fields #[.ref l2,.int 0 0] }
noncomputable abbrev sr (h:Heap)(l1 l2:Addr):Heap:=(sk h l1 l2).push { cls:=.type "tuple",data:=.seq #[.ref h.objs.size,.ref (jV h l1).objs.size] }
noncomputable abbrev su (h:Heap)(l1 l2:Addr):Heap:=(sr h l1 l2).push { cls:=.type "tuple",data:=.seq #[.none,.none] }
noncomputable abbrev mB (h:Heap)(l1 l2:Addr):Heap:=(su h l1 l2).push { cls:=.type "zip",data:=.fields #[.none,.bool false,.bool false,.ref (sk h l1 l2).objs.size,.ref (sr h l1 l2).objs.size] }
theorem NR (l1 l2:Addr)(xs ys:Array Value) :
  Meets (Builtin.«zip.__new__» ⟨[.type "zip",.ref l1,.ref l2],[]⟩) (λ_ R s=>s.heap.IsTuple l1 xs/\s.heap.IsTuple l2 ys/\R (.ok (.ret (.ref (su s.heap l1 l2).objs.size))) { s with heap:=mB s.heap l1 l2 }):=
 .of_wp λprog w A R s h=>by
  obtain⟨hp,g,d,tk,os⟩:=s;obtain⟨k5,jl,h⟩:=h;have NS:=sub_zip;have k1:Heap.IsTuple (Shared.heap ⟨hp,g,d,tk,os⟩) l1 xs:=k5;have k2:Heap.IsTuple (Shared.heap ⟨hp.push { cls:=.type "tuple_iterator",data:=.fields #[.ref l1,.int 0 0] },g,d,tk,os⟩) l2 ys:=Heap.IsTuple.push jl _;wp_walk using wpAny_pyIter_tuple k1,wpAny_pyIter_tuple k2
  exact⟨_,rfl,h⟩
theorem NT {l1 l2:Addr}{xs ys:Array Value}{Q:aU}(k5:s.heap.IsTuple l1 xs)(jl:s.heap.IsTuple l2 ys)
  (h:∀ h',IsZip h' (s.heap.objs.size+4) (s.heap.objs.size+2) (s.heap.objs.size+3) .none->IsPair h' (s.heap.objs.size+2) (.ref s.heap.objs.size) (.ref (s.heap.objs.size+1)) ->
   IsPair h' (s.heap.objs.size+3) .none .none->h'.IsTupleIter s.heap.objs.size l1 0->h'.IsTupleIter (s.heap.objs.size+1) l2 0->h'.objs.size=s.heap.objs.size+5 ->
   (∀ c o,s.heap.get? c=some o->h'.get? c=some o)->Q (.ref (s.heap.objs.size+4)) { s with heap:=h' }) :
  wpAny (model prog w) A (call (.type "zip") [.ref l1,.ref l2]) Q E s:=by
 refine callType_new PySem.F.called_zip (by decide) (PySem.F.typeCall_zip_2 _ _) (PySem.F.newCall_zip_2 _ _) (λobj=>PySem.F.args_object_init_3 obj _ _) PySem.F.entry_zip_new (NR l1 l2 xs ys) ⟨k5,jl,?_⟩;have z1:(jV s.heap l1).objs.size=s.heap.objs.size+1:=Heap.size_push ..;have z2:(sk s.heap l1 l2).objs.size=s.heap.objs.size+2:=by rw[Heap.size_push,z1]
 have z3:(sr s.heap l1 l2).objs.size=s.heap.objs.size+3:=by rw[Heap.size_push,z2]
 have z4:(su s.heap l1 l2).objs.size=s.heap.objs.size+4:=by rw[Heap.size_push,z3]
 have z5:(mB s.heap l1 l2).objs.size=s.heap.objs.size+5:=by rw[Heap.size_push,z4]
 have g5:(mB s.heap l1 l2).get? (su s.heap l1 l2).objs.size=some _:=cI _ rfl;have g4:(mB s.heap l1 l2).get? (sr s.heap l1 l2).objs.size=some _:=aX _ (cI _ rfl);have g3:(mB s.heap l1 l2).get? (sk s.heap l1 l2).objs.size=some _:=aX _ (aX _ (cI _ rfl));have g2:(mB s.heap l1 l2).get? (jV s.heap l1).objs.size=some _:=aX _ (aX _ (aX _ (cI _ rfl)));have g1:(mB s.heap l1 l2).get? s.heap.objs.size=some _:=aX _ (aX _ (aX _ (aX _ (cI _ rfl))));show _/\_;rw[z2,z3,z4] at g5;rw[z1,z2] at g3;rw[z3] at g4;rw[z1] at g2;rw[z4];exact⟨⟨_,g5,rfl⟩,h _ g5 g3 g4 ⟨_,g1,rfl,rfl⟩ ⟨_,g2,rfl,rfl⟩ z5 λc o x=>aX _ (aX _ (aX _ (aX _ (aX _ x))))⟩
end
end HZ
namespace L2
open PySem PySem.Spec PyProof.Rows
noncomputable def nU (K:Frag)(l1 l2:Addr):It:=
 ⟨λi H=>∃ xs ys x y,aS K H l1 xs/\aS K H l2 ys/\xs[i]?=some x/\ys[i]?=some y,
 λi H v H'=>∃ p x y,H p=none/\v=.ref p/\H'=upd H p (.tup [x,y])/\(∀ xs,aS K H l1 xs->xs[i]?=some x)/\∀ ys,aS K H l2 ys->ys[i]?=some y,
 λi H=>∃ xs ys,aS K H l1 xs/\aS K H l2 ys/\(xs.length<=i\/ys.length<=i)⟩
def NU (z a c i1 i2 l1 l2:Addr)(i:Nat)(h:Heap):Prop:=IsZip h z a c .none/\IsPair h a (.ref i1) (.ref i2)/\(∃ p q,IsPair h c p q)/\h.IsTupleIter i1 l1 i/\h.IsTupleIter i2 l2 i
theorem NV {P:Program}{w:World}{K:Frag}{es:List Expr}{k:Nat}{pos:Pos}{z a c i1 i2 l1 l2:Addr}(D:ZipApart z a c i1 i2 l1 l2) :
  Turn P w K (.Tuple es k pos) (nU K l1 l2) [z,a,c,i1,i2] z (NU z a c i1 i2 l1 l2) where
 mem:=by simp
 obj:=λi h st b hb=>by
  obtain⟨t1,t2,⟨p,q,t3⟩,⟨o4,e4,_,d4⟩,⟨o5,e5,_,d5⟩⟩:=st;simp only[mem_cons,not_mem_nil,or_false] at hb;rcases hb with rfl|rfl|rfl|rfl|rfl
  ·exact⟨_,t1,λv r=>by cases (show Data.fields _=Data.cell v from r)⟩
  ·exact⟨_,t2,λv r=>by cases (show Data.seq _ _=Data.cell v from r)⟩
  ·exact⟨_,t3,λv r=>by cases (show Data.seq _ _=Data.cell v from r)⟩
  ·exact⟨o4,e4,λv r=>by rw[d4] at r;cases r⟩
  ·exact⟨o5,e5,λv r=>by rw[d5] at r;cases r⟩
 keep:=λi h h' st kp=>by
  obtain⟨t1,t2,⟨p,q,t3⟩,t4,t5⟩:=st;exact⟨kp z (by simp) _ t1,kp a (by simp) _ t2,⟨p,q,kp c (by simp) _ t3⟩,t4.at λo e=>kp i1 (by simp) o e,t5.at λo e=>kp i2 (by simp) o e⟩
 item:=by
  intro X hP hw hK hc i pins s σ H E I hf st hg;subst hP hw hK;obtain⟨xs,ys,x,y,q1,q2,hx,hy⟩:=hg;obtain⟨us,r1,p1,_⟩:=I.tuple q1;obtain⟨vs,r2,p2,_⟩:=I.tuple q2;obtain⟨u,hu,ru⟩:=r1.get hx;obtain⟨v,hv,rv⟩:=r2.get hy;obtain⟨t1,t2,⟨p,q,t3⟩,t4,t5⟩:=st;have hT:s.TypeIs (.ref z) "zip":=⟨_,t1,rfl⟩;unfold pyNext
  refine aj (wpAny_attempt (wpAny_callSpecial?_slot (name:=Str.ofString "__next__") hT PySem.F.slot_zip_next (wpAny_call_entry PySem.F.slot_zip_next hT PySem.F.entry_zip_next
   (HZ.NJ D t1 t2 t3 t4 t5 (show s.heap.IsTuple l1 us.toArray from p1) (show s.heap.IsTuple l2 vs.toArray from p2) (x:=u) (y:=v) (by simpa using hu) (by simpa using hv) λh' a1 a2 a3 a4 a5 a6 kp=>aP ⟨_,rfl,?_⟩) (PySem.F.args_zip_next_1 _))))
  refine wpAny_letOwnedTupleGo_zip a1 λh2 b1 sb=>?_;have fr:H s.heap.objs.size=none:=I.aw.fresh (aG _);have nz:s.heap.objs.size≠z:=Nat.ne_of_gt (aV t1)
  -- eg records turn,then eg pair is laid
  have gH:∀ b o,b≠z->b≠c->b≠i1->b≠i2->s.heap.get? b=some o->h2.get? b=some o:=λb o n1 n2 n3 n4 e=>sb.extBut b o n1 (kp b o n1 n2 n3 n4 e)
  have wc:cD X.prog X.w (upd H s.heap.objs.size (.tup [x,y])) h2:=by
   have gb:∀ f,f∈[z,a,c,i1,i2]->∀ b u',H b=some u'->b≠f:=λf hm b u' e r=>by
    rw[r,(hf f hm).1] at e;cases e
   have nf:∀ b u',H b=some u'->b≠z/\b≠c/\b≠i1/\b≠i2:=λb u' e=>⟨gb z (by simp) b u' e,gb c (by simp) b u' e,gb i1 (by simp) b u' e,gb i2 (by simp) b u' e⟩;intro b ob e;by_cases hb:b=s.heap.objs.size
   ·subst hb;rw[aZ] at e;cases e;refine⟨by show 2<=sizeLine;decide,[u,v],.cons ru (.cons rv .nil),⟨_,sb.extBut _ _ nz a5,rfl,_,rfl⟩⟩
   ·rw[aB hb] at e;refine(I.aw b ob e).iK (hc:=λd zs q'=>by rw[aB (bV q' fr)];exact q') (λd w' hd q'=>?_) (λd q'=>by rw[aB (bV q' fr)];exact q') λd zs q'=>by rw[aB (bV q' fr)];exact q'
    rcases hd with rfl|hd
    ·obtain⟨n1,n2,n3,n4⟩:=nf _ _ e;exact gH _ _ n1 n2 n3 n4 q'
    ·obtain⟨n1,n2,n3,n4⟩:=nf _ _ hd;exact gH _ _ n1 n2 n3 n4 q'
  have I2:Inv X pins σ (upd H s.heap.objs.size (.tup [x,y])) { s with heap:=h2 }:=by
   refine I.step (g':=s.gens) (d':=s.drawn) (t':=s.toks) (ch:=[z,c,i1,i2]) (λb hb=>?_) (λb o _ _ aM e _=>?_) (λb o _ _ aM e _=>⟨o.slots,?_⟩) (λb o aM e n=>?_) (λb o aM e=>⟨o,?_⟩) (λb zs e=>?_) (λb o zs e=>?_) (λb ps e=>⟨#[],?_⟩) (λm hm=>?_) wc I.bare
   ·have eQ:b∈[z,a,c,i1,i2]:=by
     simp only[mem_cons,not_mem_nil,or_false] at hb ⊢;rcases hb with rfl|rfl|rfl|rfl<;>simp
    obtain⟨f0,f1,f2,f3,f4,f5⟩:=hf b eQ;exact⟨f3,f1,f4,f5⟩
   ·exact gH b o (λr=>aM (by simp [r])) (λr=>aM (by simp [r])) (λr=>aM (by simp [r])) (λr=>aM (by simp [r])) e
   ·exact gH b o (λr=>aM (by simp [r])) (λr=>aM (by simp [r])) (λr=>aM (by simp [r])) (λr=>aM (by simp [r])) e
   ·rw[aB (bN (aV e))];exact n
   ·exact gH b o (λr=>aM (by simp [r])) (λr=>aM (by simp [r])) (λr=>aM (by simp [r])) (λr=>aM (by simp [r])) e
   ·rw[aB (bV e fr)];exact e
   ·rw[aB (bV e fr)];exact e
   ·rw[aB (bV e fr),e];simp
   ·obtain⟨o,eP,ep,e,r⟩:=hm;exact⟨o,eP,ep,gH _ o (Ne.symm (hf z (by simp)).2.1) (Ne.symm (hf c (by simp)).2.1) (Ne.symm (hf i1 (by simp)).2.1) (Ne.symm (hf i2 (by simp)).2.1) e,r⟩
  refine⟨.ref s.heap.objs.size,_,I2,rfl,⟨_,x,y,fr,rfl,rfl,λzs hz=>by rw[I.pA hz q1];exact hx,λzs hz=>by rw[I.pA hz q2];exact hy⟩,⟨b1,?_,⟨u,v,?_⟩,?_,?_⟩,λb hb=>?_⟩
  ·exact sb.extBut _ _ D.TIz (kp _ _ D.TIz D.TITO D.TIi1 D.TIi2 t2)
  ·exact sb.extBut _ _ D.TOz a2
  ·exact a3.at λo e=>sb.extBut _ o D.i1z e
  ·exact a4.at λo e=>sb.extBut _ o D.i2z e
  ·have cz:b<s.heap.objs.size:=by
    simp only[mem_cons,not_mem_nil,or_false] at hb;obtain⟨o4,e4,_⟩:=t4;obtain⟨o5,e5,_⟩:=t5;rcases hb with rfl|rfl|rfl|rfl|rfl
    ·exact aV t1
    ·exact aV t2
    ·exact aV t3
    ·exact aV e4
    ·exact aV e5
   rw[aB (bN cz)];exact(hf b hb).1
 done:=by
  intro X hP hw hK hc i pins s σ H E I hf st hg;subst hP hw hK;obtain⟨xs,ys,q1,q2,mx⟩:=hg;obtain⟨us,r1,p1,_⟩:=I.tuple q1;obtain⟨vs,r2,p2,_⟩:=I.tuple q2;obtain⟨t1,t2,⟨p,q,t3⟩,t4,t5⟩:=st;have wd:=r1.length;have NW:=r2.length;have hT:s.TypeIs (.ref z) "zip":=⟨_,t1,rfl⟩;unfold pyNext
  refine aj (wpAny_attempt (wpAny_callSpecial?_slot (name:=Str.ofString "__next__") hT PySem.F.slot_zip_next (wpAny_call_entry PySem.F.slot_zip_next hT PySem.F.entry_zip_next
   (HZ.NQ (I.ok.hd hc) D t1 t2 t3 t4 t5 (show s.heap.IsTuple l1 us.toArray from p1) (show s.heap.IsTuple l2 vs.toArray from p2) ?_ λh' e kp he=>?_) (PySem.F.args_zip_next_1 _))))
  ·rcases mx with r|r
   ·exact .inl (by simp;omega)
   ·exact .inr (by simp;omega)
  ·obtain⟨o,ho,gJ⟩:=he;refine aj (wpAny_isInstance (T:="StopIteration") (b:=true) ⟨o,ho,gJ⟩ isSubtype_stop ?_);refine aP ⟨rfl,?_⟩;refine I.step (g':=s.gens) (d':=s.drawn) (t':=s.toks) (ch:=[z,c,i1,i2]) (λb hb=>?_) (λb o _ _ aM e _=>?_) (λb o _ _ aM e _=>⟨o.slots,?_⟩) (λb o _ _ n=>n) (λb o aM e=>⟨o,?_⟩) (λb zs e=>e) (λb o zs e=>e) (λb ps e=>⟨#[],by rw[e];simp⟩) (λm hm=>?_) (λb ob e=>?_) I.bare
   ·have eQ:b∈[z,a,c,i1,i2]:=by
     simp only[mem_cons,not_mem_nil,or_false] at hb ⊢;rcases hb with rfl|rfl|rfl|rfl<;>simp
    obtain⟨f0,f1,f2,f3,f4,f5⟩:=hf b eQ;exact⟨f3,f1,f4,f5⟩
   ·exact kp b o (λr=>aM (by simp [r])) (λr=>aM (by simp [r])) (λr=>aM (by simp [r])) (λr=>aM (by simp [r])) e
   ·exact kp b o (λr=>aM (by simp [r])) (λr=>aM (by simp [r])) (λr=>aM (by simp [r])) (λr=>aM (by simp [r])) e
   ·exact kp b o (λr=>aM (by simp [r])) (λr=>aM (by simp [r])) (λr=>aM (by simp [r])) (λr=>aM (by simp [r])) e
   ·obtain⟨o,eP,ep,e,r⟩:=hm;exact⟨o,eP,ep,kp _ o (Ne.symm (hf z (by simp)).2.1) (Ne.symm (hf c (by simp)).2.1) (Ne.symm (hf i1 (by simp)).2.1) (Ne.symm (hf i2 (by simp)).2.1) e,r⟩
   ·have gb:∀ f,f∈[z,a,c,i1,i2]->∀ b u',H b=some u'->b≠f:=λf hm b u' e r=>by
     rw[r,(hf f hm).1] at e;cases e
    have nf:∀ b u',H b=some u'->b≠z/\b≠c/\b≠i1/\b≠i2:=λb u' e=>⟨gb z (by simp) b u' e,gb c (by simp) b u' e,gb i1 (by simp) b u' e,gb i2 (by simp) b u' e⟩;refine(I.aw b ob e).iK (λd w' hd q'=>?_) (λd q'=>q') λd zs q'=>q';rcases hd with rfl|hd
    ·obtain⟨n1,n2,n3,n4⟩:=nf _ _ e;exact kp _ _ n1 n2 n3 n4 q'
    ·obtain⟨n1,n2,n3,n4⟩:=nf _ _ hd;exact kp _ _ n1 n2 n3 n4 q'
 self:=λA i s Q E st h=>wpAny_pyIter_zip st.1 h
def NX (K:Frag)(ta:TA):TI:=λσ H R=>ta σ H λvs H1=>∃ l1 l2 xs ys,vs=[.ref l1,.ref l2]/\aS K H1 l1 xs/\aS K H1 l2 ys/\R (nU K l1 l2) H1
theorem NY {X:Cx}{es:List Expr}{k:Nat}{tp:Pos}{a b:Expr}{ta:TA}{p pos:Pos}(hg:Gl X "zip")(hm:X.mg "zip"=none)(hv:bootBuiltins "zip"=some (.type "zip"))(ha:PA X [a,b] ta)
  (hs:starEach [a,b] X.env=[(false,eval a X.env),(false,eval b X.env)]:=by rfl)(fi:starEach [b] X.env=[(false,eval b X.env)]:=by rfl) :
  PI X (.Tuple es k tp) (.Call (.Name "zip" p) [a,b] [] pos) (NX X.K ta):=by
 intro pins s σ H R I h;refine Call_ (kK I hg hm hv (PyProof.Rows.callWith_type1 (aH (ha pos pins s σ H _ I h) λus s1 ⟨vs,H1,I1,r1,q1⟩=>?_) (by rw[hs,fi]) (by rw[fi];rfl)));obtain⟨l1,l2,xs,ys,e,h1,h2,q⟩:=q1;subst e;obtain⟨u,v,rfl,ru,rv⟩:=vals2 r1;cases ru;cases rv;obtain⟨us,r1,p1,_⟩:=I1.tuple h1;obtain⟨ws,r2,p2,_⟩:=I1.tuple h2;have b1:l1<s1.heap.objs.size:=p1.lt;have b2:l2<s1.heap.objs.size:=p2.lt;refine HZ.NT (show s1.heap.IsTuple l1 us.toArray from p1) (show s1.heap.IsTuple l2 ws.toArray from p2) λh' a1 a2 a3 a4 a5 a6 kp=>?_;refine wpAny_pyIter_zip a1 ?_;refine⟨s1.heap.objs.size+4,[s1.heap.objs.size+4,s1.heap.objs.size+2,s1.heap.objs.size+3,s1.heap.objs.size,s1.heap.objs.size+1],_,_,H1,rfl,I1.kept (t':=s1.toks) kp,NV (l1:=l1) (l2:=l2) ?_,⟨a1,a2,⟨_,_,a3⟩,a4,a5⟩,λb hb=>?_,q⟩
 ·constructor<;>first
   |exact bN (c8 b1 (Nat.le_add_right _ _))
   |exact bN b1
   |exact bN (c8 b2 (Nat.le_add_right _ _))
   |exact bN b2
   |(show(_:Nat)≠(_:Nat);omega)
 ·have eQ:s1.heap.objs.size<=b:=by
   simp only[mem_cons,not_mem_nil,or_false] at hb;rcases hb with rfl|rfl|rfl|rfl|rfl
   ·exact Nat.le_add_right _ _
   ·exact Nat.le_add_right _ _
   ·exact Nat.le_add_right _ _
   ·exact aG _
   ·exact Nat.le_add_right _ _
  exact I1.il eQ (I1.aw.fresh eQ)
theorem mC {α:Type}{P:List α->Prop}(h:∀ a,P [a]):∀ us,us.length=1->P us:=λus e=>by
 match us,e with
 |[a],_=>exact h a
theorem dj {α:Type}{P:List α->Prop}(h:∀ a b,P [a,b]):∀ us,us.length=2->P us:=λus e=>by
 match us,e with
 |[a,b],_=>exact h a b
theorem mD {α:Type}{P:List α->Prop}(h:∀ a b c,P [a,b,c]):∀ us,us.length=3->P us:=λus e=>by
 match us,e with
 |[a,b,c],_=>exact h a b c
theorem NZ {α:Type}{P:List α->Prop}(h:∀ a b c d,P [a,b,c,d]):∀ us,us.length=4->P us:=λus e=>by
 match us,e with
 |[a,b,c,d],_=>exact h a b c d
section
variable {κ:Type} [DecidableEq κ]
theorem N0 {kvs:List (κ×V)}{k:κ}(h:¬ k∈kvs.map (·.1)):cK kvs k=none:=by
 cases e:cK kvs k with
 |none=>rfl
 |some v=>exact absurd (Nr e) h
theorem we:∀{ks:List κ}{vs:Zv}{i:Nat}{k:κ}{v:V},ks.Nodup->ks[i]?=some k->vs[i]?=some v->cK (ks.zip vs) k=some v
 |[],_,_,_,_,_,hk,_=>by simp at hk
 |_::_,[],_,_,_,_,_,hv=>by simp at hv
 |a::ks,b::vs,0,k,v,nd,hk,hv=>by
  simp at hk hv;subst hk hv;exact nH (p:=(a,b)) rfl
 |a::ks,b::vs,i+1,k,v,nd,hk,hv=>by
  have jW:ks[i]?=some k:=by simpa using hk
  have cV:¬ (a=k):=λe=>by
   subst e;exact(nodup_cons.mp nd).1 (mem_of_getElem? jW)
  show cK ((a,b)::ks.zip vs) k=some v;rw[nI (p:=(a,b)) cV];exact we (nodup_cons.mp nd).2 jW (by simpa using hv)
theorem Cz:∀{ks:List κ}{vs:Zv}{i:Nat}{k:κ}(v:V),ks.Nodup->ks[i]?=some k->vs.length=ks.length->(ks.zip vs).map (λkv=>if kv.1=k then (kv.1,v) else kv)=ks.zip (vs.set i v)
 |[],_,_,_,_,_,hk,_=>by simp at hk
 |_::_,[],_,_,_,_,_,hl=>by simp at hl
 |a::ks,b::vs,0,k,v,nd,hk,hl=>by
  simp at hk;subst hk;show(if a=a then (a,v) else (a,b))::(ks.zip vs).map _=(a,v)::ks.zip vs;rw[if_pos rfl]
  congr 1
  have:∀ kv∈ks.zip vs,(if kv.1=a then (kv.1,v) else kv)=kv:=λkv hm=>by
   rw[if_neg λe=>(nodup_cons.mp nd).1 (by rw[<- e];exact(of_mem_zip (a:=kv.1) (b:=kv.2) hm).1)]
  conv=>rhs;rw[<- map_id (ks.zip vs)]
  exact map_congr_left this
 |a::ks,b::vs,i+1,k,v,nd,hk,hl=>by
  have jW:ks[i]?=some k:=by simpa using hk
  have cV:¬ (a=k):=λe=>by
   subst e;exact(nodup_cons.mp nd).1 (mem_of_getElem? jW)
  show(if a=k then (a,v) else (a,b))::(ks.zip vs).map _=(a,b)::ks.zip (vs.set i v);rw[if_neg cV,Cz v (nodup_cons.mp nd).2 jW (by simpa using hl)]
theorem N1 {ks:List κ}{vs:Zv}{i:Nat}{k:κ}(v:V)(nd:ks.Nodup)(hk:ks[i]?=some k)(hl:vs.length=ks.length):putK (ks.zip vs) k v=ks.zip (vs.set i v):=by
 unfold putK;have hi:i<vs.length:=by rw[hl];exact(b8 hk).1
 have e:=we (vs:=vs) (v:=vs[i]) nd hk (bL hi);rw[if_pos (by rw[nJ,e];rfl),Cz v nd hk hl]
end
theorem sv:∀(more kvs:bh),((kvs++more).map (·.1)).Nodup->iR kvs more=kvs++more
 |[],kvs,_=>by rw[append_nil];rfl
 |p::r,kvs,nd=>by
  have hn:¬ p.1∈kvs.map (·.1):=λm=>by
   rw[map_append,map_cons] at nd;exact(nodup_append.mp nd).2.2 p.1 m p.1 mem_cons_self rfl
  show iR (putK kvs p.1 p.2) r=_;rw[Mi _ (N0 hn),sv r _ (by rw[append_assoc];exact nd),append_assoc];rfl
def cf (d:Addr)(H H':Hp):Prop:=∀ c o,H c=some o->c≠d->H' c=some o
theorem cf.refl (d:Addr)(H:Hp):cf d H H:=λ_ _ h _=>h
theorem cf.trans {d:Addr}{H H1 H2:Hp}(a:cf d H H1)(b:cf d H1 H2):cf d H H2:=λc o h n=>b c o (a c o h n) n
theorem cf.upd {d:Addr}{H H':Hp}(a:cf d H H')(o:HO):cf d H (L2.upd H' d o):=λc u h n=>by rw[aB n];exact a c u h n
theorem cf.seq {K:Frag}{d:Addr}{H H':Hp}{a:Addr}{xs:Zv}{kvs:bh}(b:cf d H H')(hd:H d=some (.dK kvs))(h:aC K H a xs):aC K H' a xs:=by
 rcases h with (h|⟨o,h⟩)|h
 ·exact .inl (.inl (b _ _ h (vv h hd (λz=>nomatch z))))
 ·exact .inl (.inr ⟨o,b _ _ h (vv h hd (λz=>nomatch z))⟩)
 ·exact .inr h
theorem d0 {H:Hp}{p:Addr}(h:H p=none)(o:HO):aQ H (L2.upd H p o):=λb u q=>by rw[aB (bV q h)];exact q
noncomputable def SK:List Key:=[.inr "script",.inr "at",.inr "left",.inr "way",.inr "names",.inr "parts",.inr "base",.inr "turn",.inr "spot"]
theorem wg:SK.Nodup:=by decide +kernel
structure Bs where
 nm:Int
 pt:Int
 x:Str
 z:Int
 y:Int
 /-- a AM AO aay as it is through eg whole law: where,AU (a code table: see aaz) -/
 tb:Option (Addr×Array Value)
noncomputable def SV (a:Addr)(t l w:Int)(B:Bs):Zv:=[.ref a,.int t,.int l,.int w,.int B.nm,.int B.pt,.str B.x,.int B.z,.int B.y]
theorem eS {H:Hp}{d:Addr}{vs:Zv}{i:Nat}{x:Str}{v:V}(hd:H d=some (.dK (SK.zip vs)))(hk:SK[i]?=some (.inr x))(hv:vs[i]?=some v):dD H d (.str x) (some v):=by
 have g:=dD.k (k:=Sum.inr x) hd;rw[we wg hk hv] at g;exact g
theorem dput {H:Hp}{d:Addr}{vs:Zv}{i:Nat}{x:Str}{v:V}(hd:H d=some (.dK (SK.zip vs)))(hl:vs.length=9)(hk:SK[i]?=some (.inr x)):iQ H d (.str x) v (L2.upd H d (.dK (SK.zip (vs.set i v)))):=by
 have e:putK (SK.zip vs) (Sum.inr x) v=SK.zip (vs.set i v):=N1 v wg hk hl;have g:=iQ.k (k:=Sum.inr x) (v:=v) hd (by rw[length_zip,hl];decide);rw[e] at g;exact g
structure cG (H:Hp)(d a:Addr)(n:Nat)(B:Bs):Prop where
 ex:∃(t l w:Int),H d=some (.dK (SK.zip (SV a t l w B)))/\1<=t/\t<=(n:Int)+64/\0<=l
 tb:∀ T o,B.tb=some (T,o)->H T=some (.iJ o)/\T≠d
theorem cG.dk {H:Hp}{d a:Addr}{n:Nat}{B:Bs}(h:cG H d a n B):∃ kvs,H d=some (.dK kvs):=by
 obtain⟨t,l,w,e,_⟩:=h.ex;exact⟨_,e⟩
theorem cG.same {H H':Hp}{d a:Addr}{n:Nat}{B:Bs}(h:cG H d a n B)(s:aQ H H'):cG H' d a n B:=by
 obtain⟨t,l,w,e,r⟩:=h.ex;exact⟨⟨t,l,w,s _ _ e,r⟩,λT o z=>⟨s _ _ (h.tb T o z).1,(h.tb T o z).2⟩⟩
theorem cG.nV {H:Hp}{d a:Addr}{n:Nat}{B B':Bs}{o':HO}(h:cG H d a n B)(e:B'.tb=B.tb):∀ T o,B'.tb=some (T,o)->L2.upd H d o' T=some (.iJ o)/\T≠d:=λT o z=>by
 obtain⟨h1,h2⟩:=h.tb T o (e▸z);exact⟨by rw[aB h2];exact h1,h2⟩
theorem cG.wj {H H1:Hp}{d a:Addr}{n:Nat}{B B':Bs}(h:cG H d a n B)(b:cf d H H1)(e:B'.tb=B.tb):∀ T o,B'.tb=some (T,o)->H1 T=some (.iJ o)/\T≠d:=λT o z=>by
 obtain⟨h1,h2⟩:=h.tb T o (e▸z);exact⟨b _ _ h1 h2,h2⟩
def p6 (K:Frag)(H:Hp)(a:Addr):Prop:=∃ ns:List Int,aC K H a (ns.map V.int)/\ns.length<=63
def k7 (K:Frag):Sp:=λvs H Q _=>∃(d a:Addr)(n:Nat)(B:Bs)(m:Int),vs=[.ref d,.int m]/\cG H d a n B/\p6 K H a/\n<=100000/\0<m/\m<2 ^ 200 /\
 ∀(r:Int)(H':Hp),0<=r->r<m->cG H' d a (n+1) B->cf d H H'->Q (.int r) H'
theorem wk {ns:List Int}{k:Int}(h0:0<=k)(h:k<(ns.length:Int)):∃ v:Int,b9 (ns.map V.int) k=some (.int v):=by
 have hk:k.toNat<ns.length:=by omega
 have ek:k=((k.toNat:Nat):Int):=by omega
 have q:b9 (ns.map V.int) ((k.toNat:Nat):Int)=some (.int ns[k.toNat]):=MM (by rw[getElem?_map,bL hk]<;>rfl);rw[<- ek] at q;exact⟨_,q⟩
noncomputable def fS (env:Env):List (Str×NameKind)->List (Str×Addr)->List (Str×Addr)
 |[],acc=>acc
 |(n,k)::r,acc=>if (k==NameKind.free)=true then fS env r ((n,(env.cells.lookup n).getD 0)::acc) else fS env r acc
theorem wm {env:Env}:∀(names:List (Str×NameKind))(acc:List (Str×Addr)),(∀ y∈names,y.2=.free->∃ c,env.cells.lookup y.1=some c) ->
  (forIn (m:=Sem) names acc λx cs=>match x with|(name,kind)=>if (kind==NameKind.free)=true then (do let c <- cellOf env name;pure (ForInStep.yield ((name,c)::cs))) else pure (ForInStep.yield cs))=pure (fS env names acc)
 |[],acc,_=>rfl
 |(n,k)::r,acc,h=>by
  rw[forIn_cons];by_cases hk:(k==NameKind.free)=true
  ·obtain⟨c,hc⟩:=h (n,k) mem_cons_self (by simpa using hk)
   have e:cellOf env n=pure c:=by
    unfold cellOf;rw[hc]
   have z:=wm r ((n,c)::acc) λy hy=>h y (mem_cons_of_mem _ hy);unfold fS;rw[if_pos hk,hc];simp only[hk,if_true,e];exact z
  ·have z:=wm r acc λy hy=>h y (mem_cons_of_mem _ hy);unfold fS;rw[if_neg hk];simp only[hk];exact z
theorem N2 {sc:Scope}{env:Env}(h:∀ y∈sc.names,y.2=.free->∃ c,env.cells.lookup y.1=some c):closureFor sc env=pure (fS env sc.names []):=by
 have z:=wm sc.names [] h;simp only[closureFor]
 first
  |(rw[z];rfl)
  |exact z
theorem wo {env:Env}:∀(names:List (Str×NameKind))(acc:List (Str×Addr)),(∀ y∈names,y.2=.free->∃ c,env.cells.lookup y.1=some c)->(∀ p∈acc,env.cells.lookup p.1=some p.2)->∀ p∈fS env names acc,env.cells.lookup p.1=some p.2
 |[],acc,_,ha,p,hp=>ha p hp
 |(n,k)::r,acc,h,ha,p,hp=>by
  unfold fS at hp;by_cases hk:(k==NameKind.free)=true
  ·rw[if_pos hk] at hp;refine wo r _ (λy hy=>h y (mem_cons_of_mem _ hy)) (λq hq=>?_) p hp;rcases mem_cons.mp hq with rfl|hq
   ·obtain⟨c,hc⟩:=h (n,k) mem_cons_self (by simpa using hk);show env.cells.lookup n=some ((env.cells.lookup n).getD 0);rw[show env.cells.lookup n=some c from hc];rfl
   ·exact ha q hq
  ·rw[if_neg hk] at hp;exact wo r acc (λy hy=>h y (mem_cons_of_mem _ hy)) ha p hp
theorem wq {env:Env}:∀(names:List (Str×NameKind))(acc:List (Str×Addr)),(∀ p∈acc,p∈fS env names acc)
 |[],acc,p,hp=>hp
 |(n,k)::r,acc,p,hp=>by
  unfold fS
  split
  ·exact wq r _ p (mem_cons_of_mem _ hp)
  ·exact wq r acc p hp
theorem wt {env:Env}:∀(names:List (Str×NameKind))(acc:List (Str×Addr))(x:Str),(x,NameKind.free)∈names->∃ c,(x,c)∈fS env names acc
 |[],_,_,h=>nomatch h
 |(n,k)::r,acc,x,h=>by
  unfold fS;rcases mem_cons.mp h with e|h
  ·cases e;rw[if_pos (by rfl)];exact⟨_,wq r _ _ mem_cons_self⟩
  ·split
   ·exact wt r _ x h
   ·exact wt r acc x h
theorem mem_lookup {β:Type}{x:Str}{c:β}:∀{l:List (Str×β)},l.lookup x=some c->(x,c)∈l
 |[],h=>nomatch h
 |(n,d)::r,h=>by
  rw[lookup_cons] at h
  cases e:(x==n) with
  |true=>
   rw[e] at h;have q:x=n:=by simpa using e
   cases h;subst q;exact mem_cons_self
  |false=>
   rw[e] at h;exact mem_cons_of_mem _ (mem_lookup h)
theorem lookup_mem {β:Type}{x:Str}{c:β}:∀{l:List (Str×β)},(x,c)∈l->∃ d,l.lookup x=some d
 |[],h=>nomatch h
 |(n,d)::r,h=>by
  rw[lookup_cons]
  cases e:(x==n) with
  |true=>exact⟨d,rfl⟩
  |false=>
   rcases mem_cons.mp h with q|q
   ·cases q;rw[beq_self_eq_true] at e;cases e
   ·exact lookup_mem q
noncomputable abbrev fE (sc:Scope)(cl:List (Str×Addr))(C:Addr):List (Str×Addr):=cellsFrom (C+1) sc.names cl
noncomputable def dF (X:Cx)(N:ay)(sc:Scope)(cl:List (Str×Addr))(C:Addr)(fp:List Addr)(s:Shared)(H:Hp):Cx:=
 { X with N:=N,dA:=s,l8:=H,env:=compEnvC sc (fE sc cl C) C X.env,outer:=X.stack,ex:=fp,fn:=λx=>decide ((x,NameKind.cell)∈sc.names),xe:=λ_ _=>False }
structure iY (X:Cx)(sc:Scope)(cl:List (Str×Addr))(N:ay)(k:Nat)(ix:List Nat):Prop where
 wu:closureFor sc X.env=pure cl
 kind:sc.kind=.function
 names:∀ y∈sc.names,y.2=.local->sc.names.lookup y.1=some .local
 sub:∀ x c,(x,c)∈cl->X.env.cells.lookup x=some c
 has:∀ x,(x,NameKind.free)∈sc.names->∃ c,(x,c)∈cl
 fr:∀ x c,(x,c)∈cl->(x,NameKind.free)∈sc.names
 sx:∀ x,(x,NameKind.cell)∈sc.names->(x,NameKind.free)∉sc.names
 len:N.length=k+ix.length
 sy:∀ i j x,ix[i]?=some j->N[k+i]?=some x->X.N[j]?=some x/\(X.env.kindOf x=some .cell\/X.env.kindOf x=some .free) /\
  ((relabel sc X.env).names.lookup x=some .cell\/(relabel sc X.env).names.lookup x=some .free)/\(x,NameKind.cell)∉sc.names
theorem sA:∀(names:List (Str×NameKind))(lo:Nat)(acc:List (Str×Addr))(p:Str×Addr),p∈acc->p∈cellsFrom lo names acc
 |[],_,_,_,h=>h
 |(name,kind)::r,lo,acc,p,h=>by
  unfold cellsFrom
  split
  ·exact sA r _ _ p (mem_cons_of_mem _ h)
  ·exact sA r _ _ p h
theorem wx:∀(names:List (Str×NameKind))(lo:Nat)(acc:List (Str×Addr))(x:Str),(x,NameKind.cell)∈names->∃ c,(x,c)∈cellsFrom lo names acc
 |[],_,_,_,h=>nomatch h
 |(name,kind)::r,lo,acc,x,h=>by
  unfold cellsFrom;rcases mem_cons.mp h with e|h
  ·cases e;rw[if_pos (by rfl)];exact⟨lo,sA r _ _ _ mem_cons_self⟩
  ·split
   ·exact wx r _ _ x h
   ·exact wx r _ _ x h
theorem sC:∀(names:List (Str×NameKind))(h:Heap)(acc:List (Str×Addr))(n:Str)(c:Addr),(n,c)∈cellsFrom h.objs.size names acc->(n,c)∈acc\/((pushCells h names).IsCell c none/\h.objs.size<=c/\(n,NameKind.cell)∈names)
 |[],_,_,_,_,m=>.inl m
 |(name,kind)::r,h,acc,n,c,m=>by
  unfold cellsFrom at m;unfold pushCells
  split at m
  ·rename_i hk;rw[if_pos hk];have q:=sC r (h.push { cls:=.type "cell",data:=.cell none }) ((name,h.objs.size)::acc) n c (by rw[Heap.size_push];exact m);rw[Heap.size_push] at q;rcases q with q|⟨q1,q2,q3⟩
   ·rcases mem_cons.mp q with e|q
    ·cases e;have:kind=NameKind.cell:=by simpa using hk
     subst this;refine .inr ⟨?_,aG _,mem_cons_self⟩;have ic:(h.push { cls:=.type "cell",data:=.cell none }).IsCell h.objs.size none:=⟨_,cI _ rfl,rfl⟩;exact ic.keeps λb o e=>pushCells_keeps r _ b o e
    ·exact .inl q
   ·exact .inr ⟨q1,by omega,mem_cons_of_mem _ q3⟩
  ·rename_i hk;rw[if_neg hk];rcases sC r h acc n c m with q|⟨q1,q2,q3⟩
   ·exact .inl q
   ·exact .inr ⟨q1,q2,mem_cons_of_mem _ q3⟩
theorem wz:∀(names:List (Str×NameKind))(lo hi:Nat)(acc:List (Str×Addr)),lo<=hi->(∀ p∈acc,p.2<hi)->(∀ p∈acc,∀ q∈acc,p.2=q.2->lo<=p.2->p.1=q.1)->∀ p∈cellsFrom hi names acc,∀ q∈cellsFrom hi names acc,p.2=q.2->lo<=p.2->p.1=q.1
 |[],_,_,_,_,_,h=>h
 |(name,kind)::r,lo,hi,acc,hl,h1,h2=>by
  unfold cellsFrom
  split
  ·refine wz r lo (hi+1) _ (by omega) (λp hp=>?_) λp hp q hq e l=>?_
   ·rcases mem_cons.mp hp with rfl|hp
    ·exact Nat.lt_succ_self _
    ·exact Nat.lt_succ_of_lt (h1 p hp)
   ·rcases mem_cons.mp hp with rfl|hp<;>rcases mem_cons.mp hq with rfl|hq
    ·rfl
    ·have:=h1 q hq;have e':hi=q.2:=e;exact absurd this (by rw[<- e'];exact Nat.lt_irrefl _)
    ·have:=h1 p hp;have e':p.2=hi:=e;exact absurd this (by rw[e'];exact Nat.lt_irrefl _)
    ·exact h2 p hp q hq e l
  ·exact wz r lo hi acc hl h1 h2
theorem N3 {prog:Program}{w:World}{A:Around}{E:aU}{s:Shared}{sc:Scope}{cl:List (Str×Addr)}{env:Env}{Q:Env->Shared->Prop}
  (hQ:∀ h',h'.Ns s.heap.objs.size (λ_=>none)->(∀ b o,s.heap.get? b=some o->h'.get? b=some o)->(∀ n c,(n,c)∈fE sc cl s.heap.objs.size->(n,c)∈cl\/(h'.IsCell c none/\s.heap.objs.size+1<=c/\(n,NameKind.cell)∈sc.names)) ->
   Q { scope:=sc,locals:=s.heap.objs.size,globals:=env.globals,cells:=fE sc cl s.heap.objs.size,qual:=env.qual,func:=none,code:=env.code,frame:=env.frame,builtins:=env.builtins } { s with heap:=h' }) :
  wpAny (model prog w) A (newFunctionEnv sc env.globals cl [] env.qual none .none (some env)) Q E s:=by
 simp only[newFunctionEnv,Option.isSome_some,if_true];refine aj (wpAny_alloc ?_);refine aj (wpAny_layCells _ (λname kind cells=>by cases wA:kind==NameKind.cell<;>simp [wA]) _ _ _ _ ?_);have es:({ s with heap:=s.heap.push { cls:=.type "dict",data:=.dict #[] } }:Shared).heap.objs.size=s.heap.objs.size+1:=Heap.size_push ..;rw[es];have hs:(s.heap.push { cls:=.type "dict",data:=.dict #[] }).objs.size=s.heap.objs.size+1:=Heap.size_push ..
 have q:=hQ (pushCells (s.heap.push { cls:=.type "dict",data:=.dict #[] }) sc.names) ((Heap.Ns.new s.heap (.type "dict")).keeps (pushCells_keeps _ _)) (λb o e=>pushCells_keeps _ _ b o (aX _ e)) λn c m=>by
  have z:=sC sc.names (s.heap.push { cls:=.type "dict",data:=.dict #[] }) cl n c (by rw[hs];exact m);rw[hs] at z;exact z
 rw[forIn_nil];exact aj (aP (aP q))
section
variable {X:Cx}{pins:aL}{σ:St}{H:Hp}{s:Shared}{sc:Scope}{cl:List (Str×Addr)}{N:ay}{k:Nat}{ix:List Nat}{C:Addr}{fp:List Addr}
theorem iY.at (S:iY X sc cl N k ix)(I:Inv X pins σ H s)(hC:C=s.heap.objs.size){x:Str}{c:Addr}(h:(fE sc cl C).lookup x=some c):(X.env.cells.lookup x=some c/\c<C/\(x,c)∈cl)\/(C+1<=c/\(x,NameKind.cell)∈sc.names):=by
 have m:=mem_lookup h;have hs:(s.heap.push { cls:=.type "dict",data:=.dict #[] }).objs.size=C+1:=by rw[hC];exact Heap.size_push ..
 have z:=sC sc.names (s.heap.push { cls:=.type "dict",data:=.dict #[] }) cl x c (by rw[hs];exact m);rw[hs] at z;rcases z with z|⟨_,z1,z2⟩
 ·have q:=S.sub x c z;obtain⟨v,o,ho,_⟩:=I.cell x c q;exact .inl ⟨q,by rw[hC];exact aV ho,z⟩
 ·exact .inr ⟨z1,z2⟩
theorem N4 {env:Env}{x:Str}(h:(relabel sc env).names.lookup x=some .cell\/(relabel sc env).names.lookup x=some .free):(x,NameKind.cell)∈sc.names\/(x,NameKind.free)∈sc.names:=by
 rcases h with h|h
 ·have m:=mem_lookup h;obtain⟨⟨n,kd⟩,hm,e⟩:=mem_map.mp m;dsimp only at e
  split at e
  ·rename_i hc;cases e;rw[Bool.and_eq_true,Bool.and_eq_true] at hc;have:kd=.free:=by simpa using hc.1.1
   subst this;exact .inr hm
  ·cases e;exact .inl hm
 ·have m:=mem_lookup h;obtain⟨⟨n,kd⟩,hm,e⟩:=mem_map.mp m;dsimp only at e
  split at e
  ·cases e
  ·cases e;exact .inr hm
theorem CA (S:iY X sc cl N k ix)(I:Inv X pins σ H s)(hC:C=s.heap.objs.size)(hf:∀ b∈fp,fM X pins H b/\b<s.heap.objs.size):(dF X N sc cl C fp s H).Ok where
 mod:=I.ok.mod
 kind:=S.kind
 glob:=I.ok.glob
 blt:=I.ok.blt
 above:=by subst hC;exact aG _
 inj:=λx y c h1 h2=>by
  have h1:(fE sc cl C).lookup x=some c:=h1;have h2:(fE sc cl C).lookup y=some c:=h2;rcases S.at I hC h1 with ⟨a1,a2,a3⟩|⟨a1,a2⟩<;>rcases S.at I hC h2 with ⟨b1,b2,b3⟩|⟨b1,b2⟩
  ·exact I.ok.inj x y c a1 b1
  ·exact absurd (c8 (Nat.lt_trans a2 (Nat.lt_succ_self C)) b1) (Nat.lt_irrefl _)
  ·exact absurd (c8 (Nat.lt_trans b2 (Nat.lt_succ_self C)) a1) (Nat.lt_irrefl _)
  ·have small:∀ p∈cl,p.2<C+1:=λp hp=>by
    obtain⟨v,o,ho,_⟩:=I.cell p.1 p.2 (S.sub p.1 p.2 hp);rw[hC];exact Nat.lt_succ_of_lt (aV ho)
   exact wz sc.names (C+1) (C+1) cl (aG _) small (λp hp q _ _ l=>absurd (small p hp) (Nat.not_lt.mpr l)) (x,c) (mem_lookup h1) (y,c) (mem_lookup h2) rfl a1
 has:=λx h=>by
  rcases N4 h with h|h
  ·obtain⟨c,hc⟩:=wx sc.names (C+1) cl x h;exact lookup_mem hc
  ·obtain⟨c,hc⟩:=S.has x h;exact lookup_mem (sA sc.names (C+1) cl _ hc)
 nC:=λx c h1 h2=>by
  have h1:(x,NameKind.cell)∈sc.names:=of_decide_eq_true h1;rcases S.at I hC (show(fE sc cl C).lookup x=some c from h2) with ⟨a1,a2,a3⟩|⟨a1,a2⟩
  ·exact absurd (S.fr x c a3) (S.sx x h1)
  ·show s.heap.objs.size<=c;rw[<- hC];exact Nat.le_of_succ_le a1
 hd:=I.ok.hd
 frames:=I.ok.frames
 pj:=.inl rfl
 vA:=λb hb=>⟨by subst hC;exact bN (hf b hb).2,λx c e=>by
  rcases S.at I hC (show(fE sc cl C).lookup x=some c from e) with ⟨a1,a2,a3⟩|⟨a1,a2⟩
  ·exact(hf b hb).1.2.2.2.2.1 x c a1
  ·exact λz=>absurd (hf b hb).2 (by rw[<- hC,<- z];exact Nat.not_lt.mpr (Nat.le_of_succ_le a1))⟩
 bs:=I.bs
 jM:=cC I.ok.jM I.sz
 nD:=λb o e hb=>by
  obtain⟨_,_,_,h1,_⟩:=(hf b hb).1;rcases h1 with z|z
  ·exact I.ok.nD b o e z
  ·exact absurd (c8 (aV e) (cC I.ok.jM z)) (Nat.lt_irrefl _)
 pq:=λb hb hz=>by
  obtain⟨_,h1,h2,_⟩:=(hf b hb).1;exact(mem_cons.mp (I.pw b hz)).elim h1 h2
 ik:=I.stack
 l9:=I.AV
theorem N5 {h₁:Heap}{tk:Nat}{m:bU}(S:iY X sc cl N k ix)(I:Inv X pins σ H s)(hC:C=s.heap.objs.size)(hf:∀ b∈fp,fM X pins H b/\b<s.heap.objs.size)
  (hn:h₁.Ns C m)(kp:∀ b o,s.heap.get? b=some o->h₁.get? b=some o)(cu:∀ n c,(n,c)∈fE sc cl C->(n,c)∈cl\/(h₁.IsCell c none/\C+1<=c/\(n,NameKind.cell)∈sc.names)):Inv (dF X N sc cl C fp s H) pins (gG k ix σ) H { s with heap:=h₁,toks:=tk } where
 ok:=CA S I hC hf
 os:=rfl
 bare:=I.bare
 base:=Un.kept kp
 loc:=by
  refine⟨m,hn,λi x v e1 e2 _=>?_⟩;obtain⟨i',j,rfl,e3,e4⟩:=Nt e2;obtain⟨n1,k1,k2,k3⟩:=S.sy i' j x e3 e1;obtain⟨mX,_,hl⟩:=I.loc
  have N6:di X.env.scope x:=by
   rcases k1 with z|z
   ·exact .inr (.inl z)
   ·exact .inr (.inr z)
  obtain⟨u,r,l⟩:=hl j x v n1 e4 N6;refine⟨u,r,.inr ⟨k2,?_⟩⟩;rcases l with ⟨z,_⟩|⟨_,c,z,o,ho,hd⟩
  ·rcases k1 with y|y
   ·rw[y] at z;cases z
   ·rw[y] at z;cases z
  ·obtain⟨c',aM⟩:=(CA (fp:=fp) S I hC hf).has x k2;rcases S.at I hC (show(fE sc cl C).lookup x=some c' from aM) with ⟨q,_,_⟩|⟨_,q⟩
   ·rw[z] at q;cases q;exact⟨c,aM,o,kp _ _ ho,hd⟩
   ·exact absurd q k3
 cell:=λx c e=>by
  rcases cu x c (mem_lookup e) with q|⟨q,_,_⟩
  ·obtain⟨v,o,ho,hd⟩:=I.cell x c (S.sub x c q);exact⟨v,o,kp _ _ ho,hd⟩
  ·exact⟨_,q⟩
 free:=by
  show H C=none;rw[hC];exact I.aw.fresh (aG _)
 f7:=λx c e=>by
  rcases S.at I hC (show(fE sc cl C).lookup x=some c from e) with ⟨q,_,_⟩|⟨q,_⟩
  ·exact I.f7 x c q
  ·exact I.aw.fresh (by rw[<- hC];exact Nat.le_of_succ_le q)
 pin:=λp hp=>by
  obtain⟨e,n,ne,nf,d⟩:=I.pin p hp;refine⟨kp _ _ e,n,?_,λhz=>(mem_cons.mp (I.pw _ hz)).elim ne nf,d⟩;show p.1≠C;rw[hC];exact bN (aV e)
 aw:=I.aw.kept kp
 len:=by
  show N.length<=(gG k ix σ).length;unfold gG;rw[S.len,length_append,length_replicate,length_map];exact aG _
theorem N7 {C':Addr}{aJ:St}{H':Hp}{s':Shared}(I:Inv X pins σ H s)(hf:∀ b∈fp,fM X pins H b)(J:Inv (dF X N sc cl C' fp s H) pins aJ H' s'):Inv X pins σ H' s':=
 I.KU J.os J.base J.aw J.bare λb hb=>⟨(hf b hb).2.2.2.1,(hf b hb).2.1,(hf b hb).2.2.2.2.1,(hf b hb).2.2.2.2.2⟩
end
section
variable {X:Cx}{elt tg iter:Expr}{ifs:List Expr}{pos:Pos}{sc:Scope}{cl:List (Str×Addr)}{N:ay}{k:Nat}{ix:List Nat}{g:TG}{tI:TT}{te:TE}{wi:TI}
theorem CB {pins:aL}{σ:St}{H:Hp}{s2:Shared}{it:Addr}{fp:List Addr}{tn:Nat->Heap->Prop}{J:It}{Q:VK}{E:aU}{RR:Value->Addr->Result->Shared->Prop}
  (S:iY X sc cl N k ix)(hc:X.calm=true)(hg:∀ C fp s H,PG (dF X N sc cl C fp s H) tg g)(hi:∀ C fp s H,iX (dF X N sc cl C fp s H) ifs tI)(he:∀ C fp s H,PE (dF X N sc cl C fp s H) elt te)
  (I:Inv X pins σ H s2)(T:Turn X.prog X.w X.K tg J fp it tn)(st:tn 0 s2.heap)(ff:∀ b∈fp,fM X pins H b)
  (q:∀ acc,H acc=none->pZ J g tI te acc Q (gG k ix σ) (upd H acc (.lst [])))
  (N8:∀(acc C:Addr)(H':Hp)(s':Shared),Inv X pins σ H' s'->fM X pins H' C->(∃ m,s'.heap.Ns C m)->Q (.ref acc) H'->RR (.ref acc) C (.ok .next) s') :
  wpAny (model X.prog X.w) X.A (newList []) (λacc nN=>wpAny (model X.prog X.w) X.A (newFunctionEnv sc X.env.globals cl [] X.env.qual none .none (some X.env)) (λCC N9=>
   codeAny (model X.prog X.w) X.A (.compStart (.ListComp elt [⟨tg,iter,ifs,0⟩] sc pos) 0 (.ref it) acc { CC with scope:=relabel sc X.env }) (RR acc CC.locals) N9) E nN) E s2:=by
 refine wpAny_newObj_type (N3 λh₁ CD CF cu=>?_);dsimp only at CD CF cu ⊢;have I3:Inv X pins σ (upd H s2.heap.objs.size (.lst [])) { s2 with heap:=s2.heap.push { cls:=.type "list",data:=.seq ([]:aR).toArray },toks:=s2.toks }:=I.Cb (ys:=[]) (its:=[]) .nil (by decide);have rH:H s2.heap.objs.size=none:=I.aw.fresh (aG _)
 have cz:∀ b∈fp,b<s2.heap.objs.size:=λb hb=>by
  obtain⟨o,e,_⟩:=T.obj 0 _ st b hb;exact aV e
 have hsz:(s2.heap.push { cls:=.type "list",data:=.seq ([]:aR).toArray }).objs.size=s2.heap.objs.size+1:=Heap.size_push ..
 have sD:∀ b∈fp,fM X pins (upd H s2.heap.objs.size (.lst [])) b:=λb hb=>by
  obtain⟨f0,f1,f2,f3,f4,f5⟩:=ff b hb;exact⟨by rw[aB (bN (cz b hb))];exact f0,f1,f2,f3,f4,f5⟩
 obtain⟨W,⟨m0,w0⟩,turn⟩:=q _ rH;have kp:∀ b o,(s2.heap.push { cls:=.type "list",data:=.seq ([]:aR).toArray }).get? b=some o->h₁.get? b=some o:=CF
 have I4:=N5 (h₁:=h₁) (tk:=s2.toks) (fp:=fp) S I3 rfl (λb hb=>⟨sD b hb,by
  show b<(s2.heap.push _).objs.size;rw[hsz]
  exact Nat.lt_succ_of_lt (cz b hb)⟩) CD kp cu
 have CG:tn 0 h₁:=T.keep 0 _ _ st λb _ o e=>kp b o (aX _ e);generalize hC:(s2.heap.push { cls:=.type "list",data:=.seq ([]:aR).toArray }).objs.size=C at *;generalize hX:dF X N sc cl C fp { s2 with heap:=s2.heap.push { cls:=.type "list",data:=.seq ([]:aR).toArray },toks:=s2.toks } (upd H s2.heap.objs.size (.lst []))=Y at I4
 have loop:∀ s':Shared,s'={ s2 with heap:=h₁,toks:=s2.toks } ->
   codeAny (model X.prog X.w) X.A (.compLoop (.ListComp elt [⟨tg,iter,ifs,0⟩] sc pos) 0 (.ref it) (.ref s2.heap.objs.size) (compEnvC sc (fE sc cl C) C X.env)) (RR (.ref s2.heap.objs.size) C) s':=by
  rintro s' rfl;refine codeAny_loop rfl (λn s'=>∃ i aJ H',Inv Y pins aJ H' s'/\tn i s'.heap/\(∀ b∈fp,H' b=none)/\W i n aJ H') (λn s3 hI=>?_) m0 ⟨0,_,_,I4,CG,λb hb=>(sD b hb).1,w0⟩;obtain⟨i,cT,H3,J3,pD,pE,w3⟩:=hI;show wpAny _ _ ((compTurn (.ListComp elt [⟨tg,iter,ifs,0⟩] sc pos) 0 (.ref it) (.ref s2.heap.objs.size) (compEnvC sc (fE sc cl C) C X.env)).onRaise (λx=>do noteFrame x (compEnvC sc (fE sc cl C) C X.env);theTreesLotGoes x)) _ _ s3;refine wpAny_noted ?_;rw[compTurn_list]
  have me:∀{H':Hp},(∀ b∈fp,H' b=none)->∀ b∈fp,fM Y pins H' b:=λhn b hb=>by
   obtain⟨f0,f1,f2,f3,f4,f5⟩:=sD b hb;subst hX;refine⟨hn b hb,?_,λhz=>(mem_cons.mp (I3.pw b hz)).elim f1 f2,.inl hb,λx c e=>?_,f5⟩
   ·show b≠C;rw[hsz];exact bN (Nat.lt_succ_of_lt (cz b hb))
   ·rcases S.at I3 hC.symm (show(fE sc cl C).lookup x=some c from e) with ⟨q,_,_⟩|⟨q,_⟩
    ·exact f4 x c q
    ·exact λz=>absurd (cz b hb) (by rw[<- z];exact Nat.not_lt.mpr (cC (by rw[hsz];exact Nat.le_succ_of_le (Nat.le_succ _)) q))
  have eX:Y.prog=X.prog/\Y.w=X.w/\Y.K=X.K/\Y.calm=X.calm/\Y.A=X.A/\Y.env=compEnvC sc (fE sc cl C) C X.env/\Y.xe=λ_ _=>False:=by
   subst hX;exact⟨rfl,rfl,rfl,rfl,rfl,rfl,rfl⟩
  obtain⟨y1,y2,y3,y4,y5,y6,y7⟩:=eX;have N_:PG Y tg g:=hX▸hg _ _ _ _;have Oa:iX Y ifs tI:=hX▸hi _ _ _ _;have Ob:PE Y elt te:=hX▸he _ _ _ _
  have no:∀{α:Type}{m:Sem α}{P:α->Shared->Prop}{E':aU}{s':Shared},wpAny (model Y.prog Y.w) Y.A m P Y.xe s'->wpAny (model X.prog X.w) X.A m P E' s':=λ{α m P E' s'} h=>by
   rw[y1,y2,y5,y7] at h;exact wpAny_mono h (λ_ _ z=>z) λ_ _ z=>z.elim
  rcases turn i n cT H3 w3 with ⟨stop,qn⟩|⟨go,Nx,hN,step⟩
  ·refine aj (wpAny_standAt (aj (wpAny_mono (no (T.done Y y1 y2 y3 (y4.trans hc) i pins s3 cT H3 Y.xe J3 (me pE) pD stop |> λz=>by rw[y1,y2] at *;exact z)) (λr s4 hr=>?_) λ_ _ z=>z)));obtain⟨hr,J4⟩:=hr;subst hr;refine aP ?_;subst hX;have J5:=N7 I3 sD J4;obtain⟨m,hn,_⟩:=J4.loc;exact N8 _ _ _ _ J5 (I3.il (Nat.le_of_eq hC) J4.free) ⟨m,hn⟩ qn
  ·refine aj (wpAny_standAt (aj (wpAny_mono (no (T.item Y y1 y2 y3 (y4.trans hc) i pins s3 cT H3 Y.xe J3 (me pE) pD go |> λz=>by rw[y1,y2] at *;exact z)) (λr s4 hr=>?_) λ_ _ z=>z)));obtain⟨u,hr,h4⟩:=hr;subst hr;refine aj (wpAny_mono (no (by rw[y1,y2];exact h4)) (λ_ s5 h5=>?_) λ_ _ z=>z);obtain⟨x,H5,J5,r5,Oc,mf,vF⟩:=h5;have Od:=J5.pinned (me vF) (T.obj _ _ mf);refine aj (wpAny_mono (no (y6▸N_ _ s5 cT H5 x u _ Od r5 (step x H5 Oc))) (λ_ s6 h6=>?_) λ_ _ z=>z);obtain⟨jj,H6,J6,q6⟩:=h6;refine aj (wpAny_mono (no (y6▸Oa _ s6 jj H6 _ J6 q6)) (λok s7 h7=>?_) λ_ _ z=>z);obtain⟨H7,J7,q7⟩:=h7
   have again:∀{s8:Shared}{H8:Hp},Inv Y (pins++pB fp s5.heap) jj H8 s8->Nx jj H8->∃ m,m<n/\∃ i aJ H',Inv Y pins aJ H' s8/\tn i s8.heap/\(∀ b∈fp,H' b=none)/\W i m aJ H':=λ{s8 H8} J8 n8=>by
    obtain⟨m',hm,w8⟩:=hN jj H8 n8;refine⟨m',hm,i+1,jj,H8,J8.rP,T.keep _ _ _ mf λb hb o e=>(J8.pin (b,o) (mem_append_right _ (mem_append_right _ (rO hb e)))).1,λb hb=>?_,w8⟩;obtain⟨o,e,d⟩:=T.obj _ _ mf b hb;exact(J8.pin (b,o) (mem_append_right _ (mem_append_right _ (rO hb e)))).2.1
   cases ok with
   |false=>exact aP ⟨rfl,again J7 q7⟩
   |true=>
    refine aj (aj (wpAny_mono (no (y6▸Ob _ s7 jj H7 _ J7 q7)) (λv s8 h8=>?_) λ_ _ z=>z));obtain⟨y,H8,J8,r8,ys,ha,hl,n8⟩:=h8;refine aj (wpAny_mono (no (Cd (X:=Y) _ s8 jj H8 (.ref s2.heap.objs.size) [y] (.ref s2.heap.objs.size) [v] (λ_ H9=>Nx jj H9) J8 rfl (.cons r8 .nil) ⟨_,ys,y,rfl,rfl,ha,hl,n8⟩)) (λ_ s9 h9=>?_) λ_ _ z=>z);obtain⟨_,H9,J9,_,n9⟩:=h9;exact aP (aP ⟨rfl,again J9 n9⟩)
 exact codeAny_compStart_list (loop _ rfl) (T.self _ 0 _ _ _ CG (loop _ rfl))
theorem Oe (S:iY X sc cl N k ix)(hc:X.calm=true)(hp:PI X tg iter wi)(hg:∀ C fp s H,PG (dF X N sc cl C fp s H) tg g)(hi:∀ C fp s H,iX (dF X N sc cl C fp s H) ifs tI)
  (he:∀ C fp s H,PE (dF X N sc cl C fp s H) elt te)(hs:∀ x,foldedSetIterable iter X.env x=pure x:=by intro _;rfl):PE X (.ListComp elt [⟨tg,iter,ifs,0⟩] sc pos) (Ny k ix wi g tI te):=by
 intro pins s σ H Q I h;rw[eval_ListComp];refine wpAny_comprehension_free (use:=none) rfl hs S.wu S.kind S.names (aH (hp pins s σ H _ I h) λxv bq h₁=>aH h₁ λrN fA mm=>?_);obtain⟨it,fp,tn,J,H2,e,I2,T,nF,f2,q2⟩:=mm;subst e;refine CB (RR:=λacc C=>compPost (model X.prog X.w) X.A X.xe none (EP X pins σ Q) acc C) S hc hg hi he I2 T nF f2 q2 λacc C H' s' I' fC hm hq=>?_;obtain⟨m,hn⟩:=hm;obtain⟨f0,f1,f2,f3,f4,f5⟩:=fC;exact⟨m,hn,λh' wB=>⟨.ref acc,H',I'.turned (t':=s'.toks) (λb o hb e=>wB.extBut b o hb e) f0 f1 f3 f4 f5,rfl,hq⟩⟩
end
section
variable {X:Cx}{elt tg iter:Expr}{ifs:List Expr}{pos:Pos}{sc:Scope}{cl:List (Str×Addr)}{N:ay}{k:Nat}{ix:List Nat}{g:TG}{tI:TT}{te:TE}{wi:TI}
theorem CH {i:Nat}{y:Str}{py dB:Pos}(hN:X.N.Nodup)(fD:X.N[i]?=some y)(hy:X.env.scope.names.lookup y=some .local)
  (p7:swapsWith (.ListComp elt [⟨tg,iter,ifs,0⟩] sc pos) (some (.Name y py)) dB.line X.env=pure true)
  (S:iY X sc cl N k ix)(hc:X.calm=true)(hp:PI X tg iter wi)(hg:∀ C fp s H,PG (dF X N sc cl C fp s H) tg g)(hi:∀ C fp s H,iX (dF X N sc cl C fp s H) ifs tI)
  (he:∀ C fp s H,PE (dF X N sc cl C fp s H) elt te)(hs:∀ x,foldedSetIterable iter X.env x=pure x:=by intro _;rfl):PS X (.Assign [.Name y py] (.ListComp elt [⟨tg,iter,ifs,0⟩] sc pos) dB) (Nz i k ix wi g tI te):=by
 intro pins s σ H D I h;rw[exec_Assign_Name_used _ _ _ _ p7];refine aj (wpAny_standAt (aj ?_));show wpAny _ X.A (do let _ <- comprehension (.ListComp elt [⟨tg,iter,ifs,0⟩] sc pos) sc X.env _ (newList []) false (eval iter X.env) (some (assign (.Name y py) X.env))) _ _ s
 refine aj (wpAny_mono (wpAny_comprehension_free (use:=some (assign (.Name y py) X.env)) (Q:=λ_ s'=>SP X pins D .next s') rfl hs S.wu S.kind S.names
  (aH (hp pins s σ H _ I h) λxv bq h₁=>aH h₁ λrN fA mm=>?_)) (λ_ s' hq=>aP (aP hq)) λ_ _ e=>e)
 obtain⟨it,fp,tn,J,H2,e,I2,T,nF,f2,q2⟩:=mm;subst e;refine CB (RR:=λacc C=>compPost (model X.prog X.w) X.A X.xe (some (assign (.Name y py) X.env)) (λ_ s'=>SP X pins D .next s') acc C) S hc hg hi he I2 T nF f2 q2 λacc C H' s' I' fC hm hq=>?_;obtain⟨m,hn⟩:=hm;obtain⟨f0,f1,f2,f3,f4,f5⟩:=fC;show wpAny _ X.A (assign (.Name y py) X.env (.ref acc)) _ _ _;refine wpAny_assign_Name (A5 I' hN fD (.inl hy) (show RelV (.ref acc) (.ref acc) from rfl) (λpJ Of ⟨a,Og,ha⟩=>?_) (.inr hy))
 have cV:C≠a:=by
  rcases ha with z|z
  ·rw[z];exact f1
  ·exact λq=>f4 y a z q.symm
 refine⟨m,hn.sameBut Og cV,λh' wB=>?_⟩;exact⟨_,H',Of.turned (t':=pJ.toks) (λb o hb e=>wB.extBut b o hb e) f0 f1 f3 f4 f5,hq⟩
end
section
variable {X:Cx}
theorem part_of {v:Value}{o:Option Int}(p:IsPart v o):∃ l:Option (Int×Tok),v=partValue l/\o=l.map (·.1):=by
 cases p with
 |none=>exact⟨none,rfl,rfl⟩
 |int i t=>exact⟨some (i,t),rfl,rfl⟩
theorem Oh:jU X (λx lo hi H Q=>∃ z,x=.str z/\z.length<=sizeLine/\Q (.str (Txt.slice z lo hi)) H):=by
 intro pins s σ H x v vl vu lo hi sl Q I rx hs pl pu h;obtain⟨z,rfl,hz,q⟩:=h;obtain⟨t,rfl⟩:=rx;obtain⟨l,rfl,rfl⟩:=part_of pl;obtain⟨u,rfl,rfl⟩:=part_of pu;refine⟨"str",_,F.slot_str_getitem.lookup,typeIs_str _ _ _,?_⟩;refine wpAny_getItem_str_slice (l:=l) (u:=u) (st:=none) hs rfl (post_val_or_str ⟨cC (Txt.slice_le z _ _) hz,λt' k=>?_⟩);exact⟨.str _,H,I.kept (t':=k) λb ob q=>q,⟨t',rfl⟩,q⟩
end
end L2
namespace b0
open PySem L2
noncomputable def top (i:Nat):Stmt:=PySem.Challenge.pw_everyplan_k04_first_breaks.main.body.getD i (.Pass ⟨0,0,0,0⟩)
noncomputable abbrev wC:Stmt:=top 2
noncomputable abbrev wD:Stmt:=top 3
noncomputable abbrev wF:Stmt:=top 4
noncomputable abbrev wG:Stmt:=top 5
noncomputable abbrev wH:Stmt:=top 7
noncomputable abbrev wI:Stmt:=top 8
noncomputable abbrev wJ:Stmt:=top 9
noncomputable abbrev wK:Stmt:=top 11
noncomputable abbrev wL:Stmt:=top 12
noncomputable abbrev wM:Stmt:=top 13
noncomputable abbrev wN:Stmt:=top 14
noncomputable abbrev wO:Stmt:=top 15
noncomputable abbrev wQ:Stmt:=top 16
noncomputable abbrev wR:Stmt:=top 17
noncomputable abbrev wU:Stmt:=top 18
noncomputable abbrev wV:Stmt:=top 19
noncomputable abbrev wW:Stmt:=top 21
noncomputable abbrev wX:Stmt:=top 22
noncomputable abbrev wY:Stmt:=top 23
noncomputable abbrev wZ:Stmt:=top 24
noncomputable abbrev w9:Stmt:=top 25
noncomputable abbrev w_:Stmt:=top 26
noncomputable abbrev xa:Stmt:=top 27
noncomputable abbrev xb:Stmt:=top 28
noncomputable abbrev xc:Stmt:=top 29
noncomputable abbrev xf:Stmt:=top 30
noncomputable abbrev xg:Stmt:=top 31
noncomputable abbrev xh:Stmt:=top 32
noncomputable abbrev xi:Stmt:=top 33
noncomputable abbrev xj:Stmt:=top 34
noncomputable abbrev xk:Stmt:=top 35
noncomputable abbrev xl:Stmt:=top 36
noncomputable abbrev xm:Stmt:=top 37
noncomputable abbrev xn:Stmt:=top 38
noncomputable abbrev xo:Stmt:=top 39
noncomputable abbrev xp:Stmt:=top 40
noncomputable abbrev xq:Stmt:=top 41
noncomputable abbrev xr:Stmt:=top 42
noncomputable abbrev xt:Stmt:=top 43
noncomputable abbrev mE:Stmt:=top 44
structure Bt (mg:bU):Prop where
 abs:mg "abs"=none
 all:mg "all"=none
 any:mg "any"=none
 bool:mg "bool"=none
 dict:mg "dict"=none
 enumerate:mg "enumerate"=none
 int:mg "int"=none
 isinstance:mg "isinstance"=none
 len:mg "len"=none
 list:mg "list"=none
 range:mg "range"=none
 repr:mg "repr"=none
 str:mg "str"=none
 sum:mg "sum"=none
 tuple:mg "tuple"=none
 zip:mg "zip"=none
section
variable {P:Program}{w:World}{K:Frag}{mg:bU}{base:Heap}
theorem CI:bH ["_law_state","_law_most","_law_found"] ["_law_state","_law_most"] (aT wX):=by walk_at "s"
theorem Oi {f:Addr}{fd:FuncData}(F:fh K "_law_digit" "_law_digit" wX f fd)(B:Bt mg):cU P w K mg base c_ 1 f fd ["_law_state","_law_most"] (k7 K):=by
 refine F.ok CI (λvs H Q E h=>?_) (λaF A outer s H vs Q E hr h=>?_)
 ·obtain⟨d,a,n,D,m,rfl,_⟩:=h;rfl
 obtain⟨d,a,n,D,m,rfl,S,Sc,hn,hm,dU,q⟩:=h;have hu:=fR hr
 refine⟨_,dP (Bk PassesOwn.never
   ((Bd (kQ Bv (f' hu (pv 0) cy (λ_ _=>rfl)) cJ (fB _))
    (Bc (kQ Bw (f' hu (pv 0) cy (λ_ _=>rfl)) (jQ pV (by rfl) B.len PySem.boot_len (bO (f' hu (pv 0) cy (λ_ _=>rfl)) cq)) (fB _)))).pt)
   (dP (jR hu (pv 0) cy (jQ L1 (by rfl) B.abs PyProof.Rows.boot_abs (bO (r6 r9 (f' hu (pv 0) cy (λ_ _=>rfl)) (f' hu (pv 0) cy (λ_ _=>rfl)) (λ_ _=>rfl)) cq)) rfl)
   (ji (jR hu (pv 0) cy (c5 jO (f' hu (pv 0) cy (λ_ _=>rfl)) cJ) rfl))))
  (dP (fL (i:=2) CI.nd rfl (Or.inl rfl) (c5 kO (f' hu (pv 0) cy (λ_ _=>rfl)) (pv 1)))
  (dP (jR hu (pv 0) cy (c5 Ck (f' hu (pv 0) cy (λ_ _=>rfl)) (pv 1)) rfl)
  (ji (kM (pv 2))))),?_⟩
 obtain⟨ns,hS,hl⟩:=Sc;obtain⟨kv0,CJ⟩:=S.dk;obtain⟨t,l,wy,hd,h1,h2,h3⟩:=S.ex
 refine⟨λk σ H1=>∃(t l:Int),σ=[some (.ref d),some (.int m),none]/\cf d H H1/\H1 d=some (.dK (SK.zip (SV a t l wy D)))/\1<=t/\t<=(n:Int)+64/\0<=l/\k=((n:Int)+64-t).toNat,
  ⟨_,t,l,rfl,cf.refl _ _,hd,h1,h2,h3,rfl⟩,?_⟩
 rintro k σ H1 ⟨t,l,rfl,b1,hd,h1,h2,h3,rfl⟩;refine⟨_,rfl,d,_,rfl,eS (i:=2) hd rfl rfl,rfl,_,rfl,?_⟩;refine pY (λc1=>?_) (λc1=>?_)
 ·refine⟨_,rfl,d,_,rfl,eS (i:=1) hd rfl rfl,_,rfl,d,_,rfl,eS (i:=0) hd rfl rfl,a,_,rfl,.inl (b1.seq CJ hS),_,_,rfl,rfl,_,rfl,?_⟩;refine pY (λc2=>?_) (λc2=>?_)
  ·have CK:t<((ns.map V.int).length:Int):=of_decide_eq_true c2;rw[length_map] at CK;obtain⟨v,hv⟩:=wk (ns:=ns) (k:=t) (by omega) CK;refine⟨λaJ H'=>∃(t' l':Int),aJ=[some (.ref d),some (.int m),none]/\cf d H H'/\H' d=some (.dK (SK.zip (SV a t' l' wy D)))/\t'=t+1/\0<=l',λaJ H' ⟨t',l',e1,b2,e2,e3,e4⟩=>⟨_,by omega,t',l',e1,b2,e2,by omega,by omega,e4,rfl⟩,?_⟩;refine⟨_,rfl,d,_,rfl,eS (i:=0) hd rfl rfl,_,rfl,d,_,rfl,eS (i:=1) hd rfl rfl,a,_,_,_,rfl,rfl,b1.seq CJ hS,hv,v,rfl,_,rfl,d,_,rfl,dput (i:=2) hd rfl rfl,?_⟩;have hd2:(upd H1 d (.dK (SK.zip ((SV a t l wy D).set 2 (.int (if v<0 then -v else v)))))) d=some (.dK (SK.zip (SV a t (if v<0 then -v else v) wy D))):=aZ;refine⟨_,rfl,d,_,rfl,eS (i:=1) hd2 rfl rfl,_,_,rfl,rfl,_,rfl,d,_,rfl,dput (i:=1) hd2 rfl rfl,?_⟩;exact⟨t+1,_,rfl,(b1.upd _).upd _,aZ,rfl,by split<;>omega⟩
  ·refine⟨_,rfl,d,_,rfl,eS (i:=2) hd rfl rfl,_,rfl,_,_,rfl,rfl,hm,?_⟩;refine⟨_,rfl,d,_,rfl,eS (i:=2) hd rfl rfl,_,rfl,_,_,rfl,rfl,⟨hm,dU⟩,_,rfl,d,_,rfl,dput (i:=2) hd rfl rfl,_,rfl,?_⟩;exact q (l % m) _ (Int.emod_nonneg _ (by omega)) (Int.emod_lt_of_pos _ hm) ⟨⟨t,l / m,wy,aZ,h1,by omega,Int.ediv_nonneg h3 (by omega)⟩,S.wj (b1.upd _) rfl⟩ (b1.upd _)
 ·refine⟨_,rfl,d,_,rfl,eS (i:=2) hd rfl rfl,_,rfl,_,_,rfl,rfl,hm,?_⟩;refine⟨_,rfl,d,_,rfl,eS (i:=2) hd rfl rfl,_,rfl,_,_,rfl,rfl,⟨hm,dU⟩,_,rfl,d,_,rfl,dput (i:=2) hd rfl rfl,_,rfl,?_⟩;exact q (l % m) _ (Int.emod_nonneg _ (by omega)) (Int.emod_lt_of_pos _ hm) ⟨⟨t,l / m,wy,aZ,h1,by omega,Int.ediv_nonneg h3 (by omega)⟩,S.wj (b1.upd _) rfl⟩ (b1.upd _)
theorem nW:bH ["_law_state","_law_most","_law_script","_law_at","_law_cell"] ["_law_state","_law_most"] (aT wY):=by walk_at "s"
theorem Oj {f:Addr}{fd:FuncData}(F:fh K "_law_mixed" "_law_mixed" wY f fd)(B:Bt mg):cU P w K mg base c_ 1 f fd ["_law_state","_law_most"] (k7 K):=by
 refine F.ok nW (λvs H Q E h=>?_) (λaF A outer s H vs Q E hr h=>?_)
 ·obtain⟨d,a,n,D,m,rfl,_⟩:=h;rfl
 obtain⟨d,a,n,D,m,rfl,S,Sc,hn,hm,dU,q⟩:=h;have hu:=fR hr
 refine⟨_,dP (fL (i:=2) nW.nd rfl (Or.inl rfl) (f' hu (pv 0) cy (λ_ _=>rfl)))
  (dP (fL (i:=3) nW.nd rfl (Or.inl rfl) (f' hu (pv 0) cy (λ_ _=>rfl)))
  (dP (jR hu (pv 0) cy (c5 jO (pv 3) cJ) rfl)
  (dP (fL (i:=4) nW.nd rfl (Or.inl rfl) (c5 jO (c5 mh (c5 mh (pv 3) (pv 3)) cJ) cJ))
  (dP (rM (kQ rR (jQ pV (by rfl) B.len PySem.boot_len (bO (pv 2) cq)) cJ (fB _))
   (ji (fL (i:=4) nW.nd rfl (Or.inl rfl) (c5 jO (pv 4) (c5 mh (c5 kO (r6 r9 (pv 2) (c5 kO (pv 3) (jQ pV (by rfl) B.len PySem.boot_len (bO (pv 2) cq))) (λ_ _=>rfl)) cJ)
    (c5 jO cJ (c5 Ck (pv 3) (jQ pV (by rfl) B.len PySem.boot_len (bO (pv 2) cq)))))))) rL)
  (dP (fL (i:=4) nW.nd rfl (Or.inl rfl) (c5 kO (c5 mh (pv 4) cJ) cJ))
  (ji (kM (c5 kO (c5 LG (c5 kO (c5 jO (c5 jO (c5 mh (pv 4) (pv 4)) (c5 mh cJ (pv 4))) (pv 3)) cJ) cJ) (pv 1))))))))),?_⟩
 obtain⟨ns,hS,hl⟩:=Sc;obtain⟨t,l,wy,hd,h1,h2,h3⟩:=S.ex;have b1:cf d H (upd H d (.dK (SK.zip ((SV a t l wy D).set 1 (.int (t+1)))))):=(cf.refl d H).upd _;have sE:=b1.seq hd hS;refine⟨_,rfl,d,_,rfl,eS (i:=0) hd rfl rfl,_,rfl,d,_,rfl,eS (i:=1) hd rfl rfl,_,rfl,_,_,rfl,rfl,_,rfl,d,_,rfl,dput (i:=1) hd rfl rfl,?_⟩;refine⟨_,rfl,_,rfl,_,_,rfl,rfl,.inl ⟨by omega,by omega⟩,_,_,rfl,rfl,.inr ⟨by decide,by decide⟩,_,_,rfl,rfl,?_⟩;refine⟨_,rfl,a,_,rfl,.inl sE,_,_,rfl,rfl,_,rfl,?_⟩;have fin:∀ c:Int,q=q->(0<=c % 2147483629/\c % 2147483629<2147483629):=λc _=>⟨Int.emod_nonneg _ (by decide),Int.emod_lt_of_pos _ (by decide)⟩;have S1:cG (upd H d (.dK (SK.zip ((SV a t l wy D).set 1 (.int (t+1)))))) d a (n+1) D:=⟨⟨t+1,l,wy,aZ,by omega,by omega,h3⟩,S.wj b1 rfl⟩;refine pY (λc=>?_) (λc=>?_)
 ·have c':(0:Int)<((ns.map V.int).length:Int):=of_decide_eq_true c;have hlen:((ns.map V.int).length:Int)=(ns.length:Int):=by rw[length_map]
  have p1:0<=t % ((ns.map V.int).length:Int):=Int.emod_nonneg _ (by omega);have p2:t % ((ns.map V.int).length:Int)<((ns.map V.int).length:Int):=Int.emod_lt_of_pos _ c';obtain⟨v,hv⟩:=wk (ns:=ns) (k:=t % ((ns.map V.int).length:Int)) p1 (by omega);have p3:0<=v % 2147483647/\v % 2147483647<2147483647:=⟨Int.emod_nonneg _ (by decide),Int.emod_lt_of_pos _ (by decide)⟩;refine⟨_,rfl,_,rfl,_,rfl,_,rfl,a,_,rfl,.inl sE,_,_,rfl,rfl,c',a,_,_,_,rfl,rfl,sE,hv,_,_,rfl,rfl,(by show(0:Int)<2147483647;decide),_,rfl,_,rfl,a,_,rfl,.inl sE,_,_,rfl,rfl,⟨c',by omega⟩,_,_,rfl,rfl,_,_,rfl,rfl,.inl ⟨by omega,by omega⟩,_,_,rfl,rfl,?_⟩;refine⟨_,rfl,_,_,rfl,rfl,.inr ⟨by decide,by decide⟩,_,_,rfl,rfl,(by show(0:Int)<2147483629;decide),?_⟩;have f1:=fin ((t*t*7919+11+v % 2147483647*(1+t / ((ns.map V.int).length:Int)))*48271) rfl;refine⟨_,rfl,_,rfl,_,_,rfl,rfl,.inl ⟨by omega,by omega⟩,_,rfl,_,_,rfl,rfl,.inl ⟨by decide,by decide⟩,_,_,rfl,rfl,_,rfl,_,_,rfl,rfl,_,_,rfl,rfl,(by show(0:Int)<2147483587;decide),_,_,rfl,rfl,⟨by decide,by decide⟩,_,rfl,_,_,rfl,rfl,hm,?_⟩;exact q _ _ (Int.emod_nonneg _ (by omega)) (Int.emod_lt_of_pos _ hm) S1 b1
 ·refine⟨_,rfl,_,_,rfl,rfl,.inr ⟨by decide,by decide⟩,_,_,rfl,rfl,(by show(0:Int)<2147483629;decide),?_⟩;have f1:=fin ((t*t*7919+11)*48271) rfl;refine⟨_,rfl,_,rfl,_,_,rfl,rfl,.inl ⟨by omega,by omega⟩,_,rfl,_,_,rfl,rfl,.inl ⟨by decide,by decide⟩,_,_,rfl,rfl,_,rfl,_,_,rfl,rfl,_,_,rfl,rfl,(by show(0:Int)<2147483587;decide),_,_,rfl,rfl,⟨by decide,by decide⟩,_,rfl,_,_,rfl,rfl,hm,?_⟩;exact q _ _ (Int.emod_nonneg _ (by omega)) (Int.emod_lt_of_pos _ hm) S1 b1
theorem Ol:bH ["_law_state","_law_most"] ["_law_state","_law_most"] (aT wZ):=by walk_at "s"
theorem Om {f g h:Addr}{fd gd hd:FuncData}(F:fh K "_law_take" "_law_take" wZ f fd)(G:cU P w K mg base c_ 1 g gd ["_law_state","_law_most"] (k7 K))(bG:Binds K gd ["_law_state","_law_most"] [])(kG:PySem.W.keepIn K (.ref g)=true)(mG:mg "_law_digit"=some (.ref g))
  (G2:cU P w K mg base c_ 1 h hd ["_law_state","_law_most"] (k7 K))(Oo:Binds K hd ["_law_state","_law_most"] [])(Oq:PySem.W.keepIn K (.ref h)=true)(Ou:mg "_law_mixed"=some (.ref h)) :
  cU P w K mg base c_ 2 f fd ["_law_state","_law_most"] (k7 K):=by
 refine F.ok Ol (λvs H Q E h=>?_) (λaF A outer s H vs Q E hr h=>?_)
 ·obtain⟨d,a,n,D,m,rfl,_⟩:=h;rfl
 obtain⟨d,a,n,D,m,rfl,S,Sc,hn,hm,dU,q⟩:=h;have hu:=fR hr
 refine⟨_,dP (rM (kQ Bv (f' hu (pv 0) cy (λ_ _=>rfl)) cJ (fB _)) (ji (kM (ip G hr rfl mG kG bG .nil iu (bO (pv 0) (bO (pv 1) cq))))) rL)
  (ji (kM (ip G2 hr rfl Ou Oq Oo .nil iu (bO (pv 0) (bO (pv 1) cq))))),?_⟩
 obtain⟨t,l,wy,hd,h1,h2,h3⟩:=S.ex;refine⟨_,rfl,d,_,rfl,eS (i:=3) hd rfl rfl,rfl,_,rfl,?_⟩;refine pY (λc=>?_) (λc=>?_)
 ·exact⟨_,rfl,_,rfl,d,a,n,D,m,rfl,S,Sc,hn,hm,dU,q⟩
 ·exact⟨_,rfl,_,rfl,d,a,n,D,m,rfl,S,Sc,hn,hm,dU,q⟩
end
open PySem.W PyProof.Rows
noncomputable abbrev fj:Program:=PySem.Challenge.pw_everyplan_k04_first_breaks
set_option maxHeartbeats 0 in
theorem Ov:PySem.Challenge.rw_everyplan_k04_first_breaks.wellSaid=true:=by kernel_rfl
noncomputable def Ow (l:List Stmt):List Stmt:=l.filter λs=>match s with
 |.Assign [.Name x _] _ _=>!(x==("__name__":Str))
 |_=>true
noncomputable def k8:Program:={ fj with main:={ fj.main with body:=Ow fj.main.body } }
noncomputable abbrev bC (P:Params)(k:Str)(t:Tok)(v:Value):DictEntry:=.mk (PyData.keyHash P k) (.str k t) v
noncomputable abbrev CL (n q:Str)(s:Stmt):=FuncData.mk n q (L2.jm s) (FuncBody.stmts (L2.fg s)) (L2.aT s)
noncomputable abbrev sF:Life:=.mk [] [] [] 0 [] [] false #[] [] 0 false false false 0 [2000,10,10] false 0 true [] [] 0 false
noncomputable def o3 (P:Params):Obj:=(Obj.mk (.type "dict") none (Data.dict (toArray ((bC P "__name__" 165 (.str "law_everyplan_k04_first_breaks" 321))::(bC P "__doc__" 166 .none)::(bC P "__package__" 167 .none)::(bC P "__loader__" 168 (.builtin "__main__.__loader__#opaque"))::(bC P "__spec__" 169 .none)::(bC P "__annotations__" 170 (.ref 6))::(bC P "__builtins__" 171 (.ref 4))::(bC P "__file__" 173 (.str "/claim/cut.py" 172))::(bC P "__cached__" 174 .none)::(bC P "KINDS" 191 (.ref 15))::(bC P "is_whole" 198 (.ref 22))::(bC P "is_text" 204 (.ref 27))::(bC P "is_kind" 211 (.ref 34))::(bC P "is_of" 219 (.ref 41))::(bC P "named_among" 230 (.ref 48))::(bC P "column_names" 236 (.ref 53))::(bC P "table_named" 244 (.ref 60))::(bC P "fits" 256 (.ref 67))::(bC P "values_at" 262 (.ref 72))::(bC P "places_of" 268 (.ref 77))::(bC P "kind_break" 278 (.ref 84))::(bC P "key_break" 292 (.ref 91))::(bC P "keys_break" 302 (.ref 98))::(bC P "point_break" 308 (.ref 103))::(bC P "first_break" 314 (.ref 108))::(bC P "counts_of" 320 (.ref 113))::(bC P "_law_begin" 333 (.ref 120))::(bC P "_law_digit" 342 (.ref 127))::(bC P "_law_mixed" 353 (.ref 134))::(bC P "_law_take" 361 (.ref 141))::(bC P "_law_word" 372 (.ref 148))::(bC P "_law_table" 378 (.ref 153))::(bC P "_law_matched" 384 (.ref 158))::(bC P "_law_points" 397 (.ref 165))::(bC P "_law_frame" 403 (.ref 170))::(bC P "_law_value" 412 (.ref 177))::(bC P "_law_spots" 418 (.ref 182))::(bC P "_law_named" 424 (.ref 187))::(bC P "_law_pointed" 445 (.ref 194))::(bC P "_law_without" 451 (.ref 199))::(bC P "_law_book" 457 (.ref 204))::(bC P "_law_fits" 466 (.ref 211))::(bC P "_law_kind_break" 472 (.ref 216))::(bC P "_law_key_break" 478 (.ref 221))::(bC P "_law_point_break" 484 (.ref 226))::(bC P "_law_due" 493 (.ref 233))::(bC P "_law_other_row" 505 (.ref 240))::(bC P "_law_changed" 511 (.ref 245))::(bC P "_law_told" 517 (.ref 250))::(bC P "law" 523 (.ref 255))::[])) 50) #[])
noncomputable def q1:Obj:=(Obj.mk (.type "tuple") none (Data.seq #[] 0) #[])
noncomputable def xu:aR:=([(3,21),(5,26),(7,33),(9,40),(18,47),(23,52),(25,59),(28,66),(35,71),(37,76),(40,83),(45,90),(54,97),(60,102),(70,107),(81,112),(84,119),(96,126),(103,133),(112,140),(116,147),(121,152),(132,157),(146,164),(156,169),(159,176),(165,181),(168,186),(170,193),(184,198),(206,203),(219,210),(225,215),(235,220),(245,225),(255,232),(262,239),(271,244),(290,249),(296,254)]:List (Int×Nat)).flatMap λp=>[.int p.1 0,.int 0 0,.ref p.2]
noncomputable def cL:Obj:=(Obj.mk .none none (Data.fields (toArray xu)) #[])
noncomputable def q2 (x0:Str)(x1:Nat)(x2:Str)(x3:Nat):Obj:=(Obj.mk (.type "tuple") none (Data.seq (toArray ((.str x0 x1)::((.str x2 x3)::[]))) 0) #[])
noncomputable def CM:=q2 "number" 189 "text" 190
noncomputable def q3:Obj:=(Obj.mk .none none (Data.fields #[]) #[])
noncomputable def Ox:=q3
noncomputable def q4 (x0:Str)(x1:Nat):Obj:=(Obj.mk .none none (Data.func (CL x0 x0 (top x1) 0 [] .none .none .none .none none .none .none 0)) #[])
noncomputable def q5 (x0:Str)(x1:Nat)(x2:Nat)(x3:Nat)(x4:Int)(x5:Int)(x6:Nat)(x7:Nat)(x8:Nat)(x9:Nat)(xx:Nat)(Oy:Int)(Oz:Nat):Obj:=(Obj.mk (.type "code") none (Data.fields (toArray ((.str x0 x1)::((.str x0 x2)::((.str "/claim/cut.py" x3)::((.int x4 0)::((.int x5 0)::((.int 0 0)::((.int 0 0)::((.int 3 0)::((.ref x6)::((.bool true)::((.int 181 0)::((.ref x7)::(.none::((.ref x8)::((.ref x9)::((.ref xx)::((.int Oy 0)::((.int x4 0)::((.str "/claim/cut.py" Oz)::[]))))))))))))))))))))) #[])
noncomputable def CN:=q5 "is_whole" 192 193 194 3 1 16 17 18 19 20 196 197
noncomputable def CO:=q5 "is_kind" 205 206 207 7 1 28 29 30 31 32 209 210
noncomputable def CP:=q5 "is_of" 212 213 214 9 2 35 36 37 38 39 217 218
noncomputable def CQ:=q5 "named_among" 222 223 224 18 2 42 43 44 45 46 228 229
noncomputable def CS:=q5 "table_named" 237 238 239 25 2 54 55 56 57 58 242 243
noncomputable def CT:=q5 "fits" 247 248 249 28 2 61 62 63 64 65 254 255
noncomputable def CU:=q5 "kind_break" 269 270 271 40 2 78 79 80 81 82 276 277
noncomputable def CV:=q5 "key_break" 279 280 281 45 3 85 86 87 88 89 290 291
noncomputable def CW:=q5 "keys_break" 293 294 295 54 2 92 93 94 95 96 300 301
noncomputable def CY:=q5 "_law_begin" 323 324 325 84 1 114 115 116 117 118 331 332
noncomputable def CZ:=q5 "_law_digit" 334 335 336 96 2 121 122 123 124 125 340 341
noncomputable def C0:=q5 "_law_mixed" 343 344 345 103 2 128 129 130 131 132 351 352
noncomputable def C1:=q5 "_law_take" 354 355 356 112 2 135 136 137 138 139 359 360
noncomputable def C2:=q5 "_law_word" 362 363 364 116 2 142 143 144 145 146 370 371
noncomputable def C3:=q5 "_law_points" 385 386 387 146 2 159 160 161 162 163 395 396
noncomputable def C4:=q5 "_law_value" 404 405 406 159 3 171 172 173 174 175 410 411
noncomputable def C5:=q5 "_law_pointed" 425 426 427 170 3 188 189 190 191 192 443 444
noncomputable def C6:=q5 "_law_fits" 458 459 460 219 3 205 206 207 208 209 464 465
noncomputable def C7:=q5 "_law_due" 485 486 487 255 2 227 228 229 230 231 491 492
noncomputable def C8:=q5 "_law_other_row" 494 495 496 262 3 234 235 236 237 238 503 504
noncomputable def q6 (x0:Str)(x1:Nat)(x2:Str)(x3:Nat)(x4:Nat):Obj:=(Obj.mk (.type "function") none (Data.func (CL x0 x0 (top x1) 3 [] .none .none .none (.str x2 x3) none (.ref x4) .none 0)) #[])
noncomputable def C9:=q6 "is_whole" 2 "everyplan.values" 187 21
noncomputable def C_:=q6 "is_text" 3 "everyplan.values" 187 26
noncomputable def Dc:=q6 "is_kind" 4 "everyplan.values" 187 33
noncomputable def Dd:=q6 "is_of" 5 "everyplan.values" 187 40
noncomputable def De:=q6 "named_among" 7 "everyplan.frames" 220 47
noncomputable def Dg:=q6 "column_names" 8 "everyplan.frames" 220 52
noncomputable def Dh:=q6 "table_named" 9 "everyplan.frames" 220 59
noncomputable def Di:=q6 "fits" 11 "everyplan.books" 245 66
noncomputable def Dj:=q6 "values_at" 12 "everyplan.books" 245 71
noncomputable def Dk:=q6 "places_of" 13 "everyplan.books" 245 76
noncomputable def Dl:=q6 "kind_break" 14 "everyplan.books" 245 83
noncomputable def Dm:=q6 "key_break" 15 "everyplan.books" 245 90
noncomputable def Dn:=q6 "keys_break" 16 "everyplan.books" 245 97
noncomputable def Dq:=q6 "point_break" 17 "everyplan.books" 245 102
noncomputable def Dr:=q6 "first_break" 18 "everyplan.books" 245 107
noncomputable def Ds:=q6 "counts_of" 19 "everyplan.books" 245 112
noncomputable def Dt:=q6 "_law_begin" 21 "law_everyplan_k04_first_breaks" 321 119
noncomputable def Du:=q6 "_law_digit" 22 "law_everyplan_k04_first_breaks" 321 126
noncomputable def Dv:=q6 "_law_mixed" 23 "law_everyplan_k04_first_breaks" 321 133
noncomputable def Dw:=q6 "_law_take" 24 "law_everyplan_k04_first_breaks" 321 140
noncomputable def Dx:=q6 "_law_word" 25 "law_everyplan_k04_first_breaks" 321 147
noncomputable def Dy:=q6 "_law_table" 26 "law_everyplan_k04_first_breaks" 321 152
noncomputable def Dz:=q6 "_law_matched" 27 "law_everyplan_k04_first_breaks" 321 157
noncomputable def DA:=q6 "_law_points" 28 "law_everyplan_k04_first_breaks" 321 164
noncomputable def DB:=q6 "_law_frame" 29 "law_everyplan_k04_first_breaks" 321 169
noncomputable def DC:=q6 "_law_value" 30 "law_everyplan_k04_first_breaks" 321 176
noncomputable def DD:=q6 "_law_spots" 31 "law_everyplan_k04_first_breaks" 321 181
noncomputable def DE:=q6 "_law_named" 32 "law_everyplan_k04_first_breaks" 321 186
noncomputable def DF:=q6 "_law_pointed" 33 "law_everyplan_k04_first_breaks" 321 193
noncomputable def DG:=q6 "_law_without" 34 "law_everyplan_k04_first_breaks" 321 198
noncomputable def DH:=q6 "_law_book" 35 "law_everyplan_k04_first_breaks" 321 203
noncomputable def DI:=q6 "_law_fits" 36 "law_everyplan_k04_first_breaks" 321 210
noncomputable def DJ:=q6 "_law_kind_break" 37 "law_everyplan_k04_first_breaks" 321 215
noncomputable def DK:=q6 "_law_key_break" 38 "law_everyplan_k04_first_breaks" 321 220
noncomputable def DL:=q6 "_law_point_break" 39 "law_everyplan_k04_first_breaks" 321 225
noncomputable def DM:=q6 "_law_due" 40 "law_everyplan_k04_first_breaks" 321 232
noncomputable def DN:=q6 "_law_other_row" 41 "law_everyplan_k04_first_breaks" 321 239
noncomputable def DP:=q6 "_law_changed" 42 "law_everyplan_k04_first_breaks" 321 244
noncomputable def DQ:=q6 "_law_told" 43 "law_everyplan_k04_first_breaks" 321 249
noncomputable def DR:=q6 "law" 44 "law_everyplan_k04_first_breaks" 321 254
noncomputable def q7 (x0:Str)(x1:Nat)(x2:Nat)(x3:Nat)(x4:Int)(x5:Int)(x6:Nat)(x7:Nat)(x8:Nat)(x9:Int)(xx:Nat):Obj:=(Obj.mk (.type "code") none (Data.fields (toArray ((.str x0 x1)::((.str x0 x2)::((.str "/claim/cut.py" x3)::((.int x4 0)::((.int x5 0)::((.int 0 0)::((.int 0 0)::((.int 3 0)::((.ref x6)::((.bool true)::((.int 181 0)::((.ref x7)::(.none::(.none::(.none::((.ref x8)::((.int x9 0)::((.int x4 0)::((.str "/claim/cut.py" xx)::[]))))))))))))))))))))) #[])
noncomputable def DS:=q7 "is_text" 199 200 201 5 1 23 24 25 202 203
noncomputable def DT:=q7 "column_names" 231 232 233 23 1 49 50 51 234 235
noncomputable def DU:=q7 "values_at" 257 258 259 35 2 68 69 70 260 261
noncomputable def DV:=q7 "places_of" 263 264 265 37 2 73 74 75 266 267
noncomputable def DW:=q7 "point_break" 303 304 305 60 3 99 100 101 306 307
noncomputable def DX:=q7 "first_break" 309 310 311 70 2 104 105 106 312 313
noncomputable def DY:=q7 "counts_of" 315 316 317 81 1 109 110 111 318 319
noncomputable def DZ:=q7 "_law_table" 373 374 375 121 2 149 150 151 376 377
noncomputable def D0:=q7 "_law_matched" 379 380 381 132 4 154 155 156 382 383
noncomputable def D2:=q7 "_law_frame" 398 399 400 156 1 166 167 168 401 402
noncomputable def D3:=q7 "_law_spots" 413 414 415 165 2 178 179 180 416 417
noncomputable def D4:=q7 "_law_named" 419 420 421 168 2 183 184 185 422 423
noncomputable def D5:=q7 "_law_without" 446 447 448 184 2 195 196 197 449 450
noncomputable def D6:=q7 "_law_book" 452 453 454 206 2 200 201 202 455 456
noncomputable def D7:=q7 "_law_kind_break" 467 468 469 225 2 212 213 214 470 471
noncomputable def D8:=q7 "_law_key_break" 473 474 475 235 2 217 218 219 476 477
noncomputable def D9:=q7 "_law_point_break" 479 480 481 245 2 222 223 224 482 483
noncomputable def D_:=q7 "_law_changed" 506 507 508 271 3 241 242 243 509 510
noncomputable def D':=q7 "_law_told" 512 513 514 290 2 246 247 248 515 516
noncomputable def Ea:=q7 "law" 518 519 520 296 1 251 252 253 521 522
noncomputable def q8 (x0:Str)(x1:Nat)(x2:Str)(x3:Nat)(x4:Str)(x5:Nat):Obj:=(Obj.mk (.type "tuple") none (Data.seq (toArray ((.str x0 x1)::((.str x2 x3)::((.str x4 x5)::[])))) 0) #[])
noncomputable def q9 (x0:Str)(x1:Nat)(x2:Str)(x3:Nat)(x4:Str)(x5:Nat)(x6:Str)(x7:Nat):Obj:=(Obj.mk (.type "tuple") none (Data.seq (toArray ((.str x0 x1)::((.str x2 x3)::((.str x4 x5)::((.str x6 x7)::[]))))) 0) #[])
noncomputable def xy (x0:Str)(x1:Nat)(x2:Str)(x3:Nat)(x4:Str)(x5:Nat)(x6:Str)(x7:Nat)(x8:Str)(x9:Nat):Obj:=(Obj.mk (.type "tuple") none (Data.seq (toArray ((.str x0 x1)::((.str x2 x3)::((.str x4 x5)::((.str x6 x7)::((.str x8 x9)::[])))))) 0) #[])
noncomputable def OA (P:Params):Obj:=match o3 P with
 |⟨a,b,.dict l _,s⟩=>⟨a,b,.dict ((bC P "__name__" 165 (.str "everyplan.books" 245))::(l.toList.drop 1).take 21).toArray 22,s⟩
 |o=>o
noncomputable def OB:Obj:=(Obj.mk .none none (Data.fields (toArray (xu.take 36))) #[])
noncomputable def OD (P:Params):Obj:=match o3 P with
 |⟨a,b,.dict l _,s⟩=>⟨a,b,.dict (l.toList.take 35).toArray 35,s⟩
 |o=>o
noncomputable def OE:Obj:=(Obj.mk .none none (Data.fields (toArray (xu.take 75))) #[])
noncomputable def xA (P:Params)(v3:Obj)(OG:Obj)(l:List Obj):List Obj:=(W.boot_o_0 P)::(W.boot_o_1 P)::(W.boot_o_2 P)::v3::(W.boot_o_4 P)::(W.boot_o_5 P)::(W.boot_o_6 P)::(W.boot_o_7 P)::(W.boot_o_8 P)::(W.boot_o_9 P)::(W.boot_o_10 P)::(q1 )::OG::(Obj.mk (.type "code") none (Data.fields (toArray ((.str "<module>" 182)::((.str "<module>" 183)::((.str "/claim/cut.py" 184)::((.int 1 0)::((.int 0 0)::((.int 0 0)::((.int 0 0)::((.int 0 0)::((.ref 11)::((.bool false)::((.int 181 0)::((.ref 12)::(.none::(.none::(.none::(.none::((.int 185 0)::((.int 1 0)::((.str "/claim/cut.py" 186)::[]))))))))))))))))))))) #[])::(Obj.mk (.type "frame") none Data.plain (toArray ((some (.ref 13))::((some (.ref 3))::((some (.ref 3))::(none::((some (.str "__main__" 164))::(none::((some (.ref 0))::[])))))))))::CM::(q1 )::(q3 )::(Obj.mk (.type "tuple") none (Data.seq (toArray ((.str "thing" 195)::[])) 0) #[])::(q1 )::(q4 "is_whole" 2)::CN::C9::(q1 )::(q3 )::(q4 "is_text" 3)::DS::C_::(q1 )::(q3 )::(Obj.mk (.type "tuple") none (Data.seq (toArray ((.str "thing" 208)::[])) 0) #[])::(q1 )::(q4 "is_kind" 4)::CO::Dc::(q1 )::(q3 )::(q2 "thing" 215 "kind" 216)::(q1 )::(q4 "is_of" 5)::CP::Dd::(q1 )::(q3 )::(q8 "tables" 225 "name" 226 "table" 227)::(q1 )::(q4 "named_among" 7)::CQ::De::(q1 )::(q3 )::(q4 "column_names" 8)::DT::Dg::(q1 )::(q3 )::(q2 "frame" 240 "name" 241)::(q1 )::(q4 "table_named" 9)::CS::Dh::(q1 )::(q3 )::(q9 "row" 250 "columns" 251 "value" 252 "column" 253)::(q1 )::(q4 "fits" 11)::CT::Di::(q1 )::(q3 )::(q4 "values_at" 12)::DU::Dj::(q1 )::(q3 )::(q4 "places_of" 13)::DV::Dk::(q1 )::(q3 )::(q9 "table" 272 "rows" 273 "number" 274 "row" 275)::(q1 )::(q4 "kind_break" 14)::CU::Dl::(q1 )::(q3 )::(Obj.mk (.type "tuple") none (Data.seq (toArray ((.str "table" 282)::((.str "rows" 283)::((.str "number" 284)::((.str "places" 285)::((.str "firsts" 286)::((.str "second" 287)::((.str "row" 288)::((.str "values" 289)::[]))))))))) 0) #[])::(q1 )::(q4 "key_break" 15)::CV::Dm::l
noncomputable def Eb (P:Params)(l:List Obj):List Obj:=(q1 )::(q3 )::(q9 "table" 296 "rows" 297 "number" 298 "found" 299)::(q1 )::(q4 "keys_break" 16)::CW::Dn::(q1 )::(q3 )::(q4 "point_break" 17)::DW::Dq::(q1 )::(q3 )::(q4 "first_break" 18)::DX::Dr::(q1 )::(q3 )::(q4 "counts_of" 19)::DY::Ds::(q1 )::(q3 )::(xy "_law_script" 326 "_law_way" 327 "_law_state" 328 "_law_letters" 329 "_law_k" 330)::(q1 )::(q4 "_law_begin" 21)::CY::Dt::(q1 )::(q3 )::(q8 "_law_state" 337 "_law_most" 338 "_law_found" 339)::(q1 )::(q4 "_law_digit" 22)::CZ::Du::(q1 )::(q3 )::(xy "_law_state" 346 "_law_most" 347 "_law_script" 348 "_law_at" 349 "_law_cell" 350)::(q1 )::(q4 "_law_mixed" 23)::C0::Dv::(q1 )::(q3 )::(q2 "_law_state" 357 "_law_most" 358)::(q1 )::(q4 "_law_take" 24)::C1::Dw::(q1 )::(q3 )::(xy "_law_state" 365 "_law_number" 366 "_law_letters" 367 "_law_base" 368 "_law_spot" 369)::(q1 )::(q4 "_law_word" 25)::C2::Dx::(q1 )::(q3 )::(q4 "_law_table" 26)::DZ::Dy::(q1 )::(q3 )::(q4 "_law_matched" 27)::D0::Dz::(q1 )::(q3 )::(Obj.mk (.type "tuple") none (Data.seq (toArray ((.str "_law_state" 388)::((.str "_law_tables" 389)::((.str "_law_points_here" 390)::((.str "_law_table_here" 391)::((.str "_law_goal" 392)::((.str "_law_key" 393)::((.str "_law_found" 394)::[])))))))) 0) #[])::(q1 )::(q4 "_law_points" 28)::C3::DA::(q1 )::(q3 )::(q4 "_law_frame" 29)::D2::DB::l
noncomputable def OH (P:Params)(l:List Obj):List Obj:=(q1 )::(q3 )::(q8 "_law_state" 407 "_law_kind" 408 "_law_maybe" 409)::(q1 )::(q4 "_law_value" 30)::C4::DC::(q1 )::(q3 )::(q4 "_law_spots" 31)::D3::DD::(q1 )::(q3 )::(q4 "_law_named" 32)::D4::DE::(q1 )::(q3 )::(Obj.mk (.type "tuple") none (Data.seq (toArray ((.str "_law_state" 428)::((.str "_law_frame_here" 429)::((.str "_law_book_here" 430)::((.str "_law_name" 431)::((.str "_law_fields" 432)::((.str "_law_goal" 433)::((.str "_law_key" 434)::((.str "_law_spots_here" 435)::((.str "_law_goals" 436)::((.str "_law_rows" 437)::((.str "_law_row" 438)::((.str "_law_other" 439)::((.str "_law_moved_row" 440)::((.str "_law_spot" 441)::((.str "_law_there" 442)::[])))))))))))))))) 0) #[])::(q1 )::(q4 "_law_pointed" 33)::C5::DF::(q1 )::(q3 )::(q4 "_law_without" 34)::D5::DG::(q1 )::(q3 )::(q4 "_law_book" 35)::D6::DH::(q1 )::(q3 )::(q8 "_law_value_here" 461 "_law_kind" 462 "_law_maybe" 463)::(q1 )::(q4 "_law_fits" 36)::C6::DI::(q1 )::(q3 )::(q4 "_law_kind_break" 37)::D7::DJ::(q1 )::(q3 )::(q4 "_law_key_break" 38)::D8::DK::(q1 )::(q3 )::(q4 "_law_point_break" 39)::D9::DL::(q1 )::(q3 )::(q8 "_law_frame_here" 488 "_law_book_here" 489 "_law_found" 490)::(q1 )::(q4 "_law_due" 40)::C7::DM::(q1 )::(q3 )::(Obj.mk (.type "tuple") none (Data.seq (toArray ((.str "_law_state" 497)::((.str "_law_row" 498)::((.str "_law_others" 499)::((.str "_law_way" 500)::((.str "_law_at" 501)::((.str "_law_some" 502)::[]))))))) 0) #[])::(q1 )::(q4 "_law_other_row" 41)::C8::DN::(q1 )::(q3 )::(q4 "_law_changed" 42)::D_::DP::(q1 )::(q3 )::(q4 "_law_told" 43)::D'::DQ::(q1 )::(q3 )::(q4 "law" 44)::Ea::DR::l
noncomputable def k9:Params->Heap:=λP=>.mk (.mk ((xA P (o3 P) (cL) (Eb P  (OH P  []))))) sF
noncomputable def sG:Params->Heap:=λP=>.mk (.mk ((W.boot_o_0 P)::(W.boot_o_1 P)::(W.boot_o_2 P)::(W.boot_o_3 P)::(W.boot_o_4 P)::(W.boot_o_5 P)::(W.boot_o_6 P)::(W.boot_o_7 P)::(W.boot_o_8 P)::(W.boot_o_9 P)::(W.boot_o_10 P)::(q1 )::Ox::(Obj.mk (.type "code") none (Data.fields (toArray ((.str "<module>" 182)::((.str "<module>" 183)::((.str "/claim/cut.py" 184)::((.int 1 0)::((.int 0 0)::((.int 0 0)::((.int 0 0)::((.int 0 0)::((.ref 11)::((.bool false)::((.int 181 0)::((.ref 12)::(.none::(.none::(.none::(.none::((.int 185 0)::((.int 1 0)::((.str "/claim/cut.py" 186)::[]))))))))))))))))))))) #[])::(Obj.mk (.type "frame") none Data.plain (toArray ((some (.ref 13))::((some (.ref 3))::((some (.ref 3))::(none::((some (.str "__main__" 164))::(none::((some (.ref 0))::[])))))))))::[])) sF
noncomputable def Ec:Params->Heap:=λP=>.mk (.mk ((xA P (OA P) (OB) []))) sF
noncomputable def Ed:Params->Heap:=λP=>.mk (.mk ((xA P (OD P) (OE) (Eb P  [])))) sF
noncomputable def mF:List Stmt:=behindTheImports fj
noncomputable def p8:Env:=⟨fj.main.scope,mainNs,mainNs,[],Str.empty,none,.ref 13,some 14,0⟩
noncomputable abbrev jX:Code:=.body mF p8
noncomputable def p9:Params->Frag:=λP=>
 ((nat_lit 1),(W.boot_o_1 P)) ::
 ((nat_lit 3),o3 P) ::
 ((nat_lit 15),CM) ::
 ((nat_lit 21),CN) ::
 ((nat_lit 22),C9) ::
 ((nat_lit 26),DS) ::
 ((nat_lit 27),C_) ::
 ((nat_lit 33),CO) ::
 ((nat_lit 34),Dc) ::
 ((nat_lit 40),CP) ::
 ((nat_lit 41),Dd) ::
 ((nat_lit 47),CQ) ::
 ((nat_lit 48),De) ::
 ((nat_lit 52),DT) ::
 ((nat_lit 53),Dg) ::
 ((nat_lit 59),CS) ::
 ((nat_lit 60),Dh) ::
 ((nat_lit 66),CT) ::
 ((nat_lit 67),Di) ::
 ((nat_lit 71),DU) ::
 ((nat_lit 72),Dj) ::
 ((nat_lit 76),DV) ::
 ((nat_lit 77),Dk) ::
 ((nat_lit 83),CU) ::
 ((nat_lit 84),Dl) ::
 ((nat_lit 90),CV) ::
 ((nat_lit 91),Dm) ::
 ((nat_lit 97),CW) ::
 ((nat_lit 98),Dn) ::
 ((nat_lit 102),DW) ::
 ((nat_lit 103),Dq) ::
 ((nat_lit 107),DX) ::
 ((nat_lit 108),Dr) ::
 ((nat_lit 112),DY) ::
 ((nat_lit 113),Ds) ::
 ((nat_lit 119),CY) ::
 ((nat_lit 120),Dt) ::
 ((nat_lit 126),CZ) ::
 ((nat_lit 127),Du) ::
 ((nat_lit 133),C0) ::
 ((nat_lit 134),Dv) ::
 ((nat_lit 140),C1) ::
 ((nat_lit 141),Dw) ::
 ((nat_lit 147),C2) ::
 ((nat_lit 148),Dx) ::
 ((nat_lit 152),DZ) ::
 ((nat_lit 153),Dy) ::
 ((nat_lit 157),D0) ::
 ((nat_lit 158),Dz) ::
 ((nat_lit 164),C3) ::
 ((nat_lit 165),DA) ::
 ((nat_lit 169),D2) ::
 ((nat_lit 170),DB) ::
 ((nat_lit 176),C4) ::
 ((nat_lit 177),DC) ::
 ((nat_lit 181),D3) ::
 ((nat_lit 182),DD) ::
 ((nat_lit 186),D4) ::
 ((nat_lit 187),DE) ::
 ((nat_lit 193),C5) ::
 ((nat_lit 194),DF) ::
 ((nat_lit 198),D5) ::
 ((nat_lit 199),DG) ::
 ((nat_lit 203),D6) ::
 ((nat_lit 204),DH) ::
 ((nat_lit 210),C6) ::
 ((nat_lit 211),DI) ::
 ((nat_lit 215),D7) ::
 ((nat_lit 216),DJ) ::
 ((nat_lit 220),D8) ::
 ((nat_lit 221),DK) ::
 ((nat_lit 225),D9) ::
 ((nat_lit 226),DL) ::
 ((nat_lit 232),C7) ::
 ((nat_lit 233),DM) ::
 ((nat_lit 239),C8) ::
 ((nat_lit 240),DN) ::
 ((nat_lit 244),D_) ::
 ((nat_lit 245),DP) ::
 ((nat_lit 249),D') ::
 ((nat_lit 250),DQ) ::
 ((nat_lit 254),Ea) ::
 ((nat_lit 255),DR) ::
 []
noncomputable def p_:List Nat:=(nat_lit 1)::(nat_lit 3)::(nat_lit 15)::(nat_lit 21)::(nat_lit 22)::(nat_lit 26)::(nat_lit 27)::(nat_lit 33)::(nat_lit 34)::(nat_lit 40)::(nat_lit 41)::(nat_lit 47)::(nat_lit 48)::(nat_lit 52)::(nat_lit 53)::(nat_lit 59)::(nat_lit 60)::(nat_lit 66)::(nat_lit 67)::(nat_lit 71)::(nat_lit 72)::(nat_lit 76)::(nat_lit 77)::(nat_lit 83)::(nat_lit 84)::(nat_lit 90)::(nat_lit 91)::(nat_lit 97)::(nat_lit 98)::(nat_lit 102)::(nat_lit 103)::(nat_lit 107)::(nat_lit 108)::(nat_lit 112)::(nat_lit 113)::(nat_lit 119)::(nat_lit 120)::(nat_lit 126)::(nat_lit 127)::(nat_lit 133)::(nat_lit 134)::(nat_lit 140)::(nat_lit 141)::(nat_lit 147)::(nat_lit 148)::(nat_lit 152)::(nat_lit 153)::(nat_lit 157)::(nat_lit 158)::(nat_lit 164)::(nat_lit 165)::(nat_lit 169)::(nat_lit 170)::(nat_lit 176)::(nat_lit 177)::(nat_lit 181)::(nat_lit 182)::(nat_lit 186)::(nat_lit 187)::(nat_lit 193)::(nat_lit 194)::(nat_lit 198)::(nat_lit 199)::(nat_lit 203)::(nat_lit 204)::(nat_lit 210)::(nat_lit 211)::(nat_lit 215)::(nat_lit 216)::(nat_lit 220)::(nat_lit 221)::(nat_lit 225)::(nat_lit 226)::(nat_lit 232)::(nat_lit 233)::(nat_lit 239)::(nat_lit 240)::(nat_lit 244)::(nat_lit 245)::(nat_lit 249)::(nat_lit 250)::(nat_lit 254)::(nat_lit 255)::[]
theorem sH (P:Params):p_=(p9 P).map (·.1):=rfl
noncomputable abbrev sI:Hook:=kHook p9 p_ sH
set_option maxHeartbeats 0 in
theorem OI (w:World):((boot_heap w.params).isNs mainGlobals&&(#[]:Array GenState).size==0,(boot_heap w.params).objs.size,(boot_heap w.params).nsMap mainGlobals "__annotations__")=(true,11,some (.ref 6)):=by kernel_rfl
set_option maxHeartbeats 0 in
theorem OJ (w:World)(os:OsState):topGo treeTable fj w 11 (some (.ref 6)) 12 ⟨boot_heap w.params,#[],boot_drawn,boot_toks,os⟩ (topStub fj)=some (⟨sG w.params,#[],⟨0,0,0,0⟩,187,os⟩,⟨denote treeTable jX,jX,⟨0,0,0,0⟩,[topFrame ⟨0,0,0,0⟩]⟩):=by kernel_rfl
set_option maxHeartbeats 0 in
theorem OL (w:World)(os:OsState):segRun treeTable fj w 11 (some (.ref 6)) 1 1 ⟨sG w.params,#[],⟨0,0,0,0⟩,187,os⟩ (blockOf mF p8 jX ⟨0,0,0,0⟩ [topFrame ⟨0,0,0,0⟩])=some (.next,⟨sG w.params,#[],⟨0,0,0,0⟩,187,os⟩,jX,⟨0,0,0,0⟩):=by kernel_rfl
set_option maxHeartbeats 0 in
theorem OM (w:World)(os:OsState):segRun treeTable fj w 11 (some (.ref 6)) 1 393 ⟨sG w.params,#[],⟨0,0,0,0⟩,187,os⟩ (piecesOf (mF.take 16) p8 jX ⟨0,0,0,0⟩ [topFrame ⟨0,0,0,0⟩])=some (.next,⟨Ec w.params,#[],⟨0,0,0,0⟩,293,os⟩,jX,⟨45,0,53,15⟩):=by kernel_rfl
set_option maxHeartbeats 0 in
theorem OO (w:World)(os:OsState):segRun treeTable fj w 11 (some (.ref 6)) 1 393 ⟨Ec w.params,#[],⟨0,0,0,0⟩,293,os⟩ (piecesOf ((mF.drop 16).take 14) p8 jX ⟨45,0,53,15⟩ [topFrame ⟨0,0,0,0⟩])=some (.next,⟨Ed w.params,#[],⟨0,0,0,0⟩,404,os⟩,jX,⟨156,0,158,76⟩):=by kernel_rfl
set_option maxHeartbeats 0 in
theorem OP (w:World)(os:OsState):topRun treeTable fj w 11 (some (.ref 6)) 531 ⟨Ed w.params,#[],⟨0,0,0,0⟩,404,os⟩ (restOf ((mF.drop 16).drop 14) p8 jX ⟨156,0,158,76⟩ [topFrame ⟨0,0,0,0⟩])=some ⟨k9 w.params,#[],⟨0,0,0,0⟩,524,os⟩:=by kernel_rfl
theorem OQ (w:World)(os:OsState):topRun treeTable fj w 11 (some (.ref 6)) 1330 ⟨boot_heap w.params,#[],boot_drawn,boot_toks,os⟩ (topStub fj)=some ⟨k9 w.params,#[],⟨0,0,0,0⟩,524,os⟩:=
 go_top (N:=1318) (OJ w os) (piece_block (N:=1317) (OL w os) ((take_append_drop 16 mF)▸piece_app (N:=924) (OM w os) (((take_append_drop 14 (mF.drop 16))▸piece_app (N:=531) (OO w os) (OP w os)))))
set_option maxHeartbeats 0 in
theorem OS (w:World):(λos=>((staticsOk (importedModules fj.main.body) (boot_heap w.params) (k9 w.params)&&namesBound fj (k9 w.params)&&gensDone ⟨k9 w.params,#[],⟨0,0,0,0⟩,524,os⟩&&laidKept (boot_heap w.params) (k9 w.params)),
    openSeen k8 [] (importedModules fj.main.body) (λs=>xlAt k8 [] s&&recOk [] s) true ⟨k9 w.params,#[],⟨0,0,0,0⟩,524,os⟩,Hook.obs sI ⟨k9 w.params,#[],⟨0,0,0,0⟩,524,os⟩))=λ_=>(true,openGood k8 [],Hook.val sI w):=by kernel_rfl
theorem OT:LeftO fj k8 [] (λs=>xlAt k8 [] s&&recOk [] s) (Hook.obs sI) (Hook.val sI) 1330:=
 LeftO.of_pieces (boot_open (by kernel_rfl) (by decide) λ_=>by kernel_rfl) OI OQ rfl OS
noncomputable def sign (c:Nat):Bool:=decide (32<=c)&&decide (c<=126)
noncomputable def good (z:Str):Bool:=z.cps.toList.all sign
theorem Ee {x:Str}{r:Int}(h0:0<=r)(h1:r<(x.length:Int)):∃ c,x.cps[r.toNat]?=some c/\c∈x.cps.toList:=by
 have hl:r.toNat<x.cps.size:=by
  have:x.length=x.cps.size:=rfl;omega
 exact⟨x.cps[r.toNat],Array.getElem?_eq_getElem hl,by simp⟩
section
variable {P:Program}{w:World}{K:Frag}{mg:bU}{base:Heap}{tk:Addr}{td:FuncData}
structure Tk (P:Program)(w:World)(K:Frag)(mg:bU)(base:Heap)(tk:Addr)(td:FuncData):Prop where
 G:cU P w K mg base c_ 2 tk td ["_law_state","_law_most"] (k7 K)
 b:Binds K td ["_law_state","_law_most"] []
 k:PySem.W.keepIn K (.ref tk)=true
 m:mg "_law_take"=some (.ref tk)
def Lets (z:Str):Prop:=∀ c∈z.cps.toList,97<=c/\c<=122
theorem Ef:Lets "":=λc h=>by cases h
theorem OU:Lets "abcdefghijklmnopqrstuvwxyz":=by unfold Lets;decide +kernel
theorem Eg {z:Str}{c:Nat}(h:Lets z)(hc:c∈("abcdefghijklmnopqrstuvwxyz":Str).cps.toList):Lets (z++⟨#[c]⟩):=λu hu=>by
 have e:(z++(⟨#[c]⟩:Str)).cps.toList=z.cps.toList++[c]:=by
  show(z.cps++#[c]).toList=_;simp
 rw[e,mem_append] at hu;rcases hu with q|q
 ·exact h u q
 ·rw[mem_singleton.mp q];exact OU c hc
def gK (B:Bs):Prop:=B.x.length<=3/\Lets B.x/\0<=B.z/\B.z<26/\0<=B.y/\B.y<=(B.x.length:Int)
def xB (K:Frag):Sp:=λvs H Q _=>∃ a,vs=[.ref a]/\p6 K H a/\∀(d:Addr)(B:Bs)(H':Hp),H d=none->gK B->cG H' d a 10 B->aQ H H'->Q (.ref d) H'
theorem nX:bH ["_law_script","_law_way","_law_state","_law_letters","_law_k"] ["_law_script"] (aT wW):=by walk_at "s"
noncomputable def eU (a:Addr)(wy:Int):bh:=[(.inr "script",.ref a),(.inr "at",.int 1),(.inr "left",.int 0),(.inr "way",.int wy),(.inr "names",.int 0),(.inr "parts",.int 0)]
noncomputable def gL:bh:=[(.inr "base",.str ""),(.inr "turn",.int 0),(.inr "spot",.int 0)]
theorem Eh (a:Addr)(wy:Int):iR [] (eU a wy)=eU a wy:=sv (eU a wy) [] (show([.inr "script",.inr "at",.inr "left",.inr "way",.inr "names",.inr "parts"]:List Key).Nodup by decide +kernel)
theorem Ei:iR [] gL=gL:=sv gL [] (show([.inr "base",.inr "turn",.inr "spot"]:List Key).Nodup by decide +kernel)
theorem Ej (a:Addr)(wy:Int):iR (eU a wy) gL=SK.zip (SV a 1 0 wy ⟨0,0,"",0,0,none⟩):=by
 rw[sv gL (eU a wy) (show SK.Nodup from wg)];rfl
theorem qa:("abcdefghijklmnopqrstuvwxyz":Str).length=26:=by decide +kernel
theorem OV {f:Addr}{fd:FuncData}(F:fh K "_law_begin" "_law_begin" wW f fd)(B:Bt mg)(T:Tk P w K mg base tk td):cU P w K mg base c_ 3 f fd ["_law_script"] (xB K):=by
 refine F.ok nX (λvs H Q E h=>?_) (λaF A outer s H vs Q E hr h=>?_)
 ·obtain⟨a,rfl,_⟩:=h;rfl
 obtain⟨a,rfl,Sc,q⟩:=h;have hu:=fR hr
 refine⟨_,dP (fL (i:=1) nX.nd rfl (Or.inl rfl) cJ)
  (dP (rM (kQ rR (jQ pV (by rfl) B.len PySem.boot_len (bO (pv 0) cq)) cJ (fB _)) (ji (fL (i:=1) nX.nd rfl (Or.inl rfl) (c5 kO (r6 r9 (pv 0) cJ (λ_ _=>rfl)) cJ))) rL)
  (dP (fL (i:=2) nX.nd rfl (Or.inl rfl) (BW (jT cy (pv 0) (jT cy cJ (jT cy cJ (jT cy (pv 1) (jT cy cJ (jT cy cJ BU)))))) rfl rfl (by simp) (by decide)))
  (dP (Bf (mw PySem.F.plainAttrs_dict PySem.F.slot_dict_update PySem.F.type_dict_update ND (pv 2) (bO (BW (jT cy cy (jT cy cJ (jT cy cJ BU))) rfl rfl (by simp) (by decide)) cq)))
  (dP (fL (i:=3) nX.nd rfl (Or.inl rfl) cy)
  (dP (Bn PassesOwn.never rfl (Bm (by rfl) B.range (bO (ip T.G hr rfl T.m T.k T.b .nil iu (bO (pv 2) (bO cJ cq))) cq)) (Bi (i:=4) nX.nd rfl (Or.inl rfl))
   (ji (jR hu (pv 2) cy (c5 BB (f' hu (pv 2) cy (λ_ _=>rfl)) (L0 (pv 3) (ip T.G hr rfl T.m T.k T.b .nil iu (bO (pv 2) (bO cJ cq))) (λ_ _=>rfl))) rfl)))
  (dP (jR hu (pv 2) cy (ip T.G hr rfl T.m T.k T.b .nil iu (bO (pv 2) (bO cJ cq))) rfl)
  (dP (jR hu (pv 2) cy (ip T.G hr rfl T.m T.k T.b .nil iu (bO (pv 2) (bO (c5 jO (jQ M0 (by rfl) B.len PySem.boot_len (bO (f' hu (pv 2) cy (λ_ _=>rfl)) cq)) cJ) cq))) rfl)
  (ji (kM (pv 2)))))))))),?_⟩
 obtain⟨ns,hS,hl⟩:=id Sc
 -- from eg aaA making on,aaB eg way is
 have go:∀ wy:Int,∀ p,H p=none->∀ p2,(upd (upd H p (.dK [])) p (.dK (eU a wy))) p2=none ->
   cG (upd (upd (upd (upd (upd H p (.dK [])) p (.dK (eU a wy))) p2 (.dK [])) p2 (.dK gL)) p (.dK (SK.zip (SV a 1 0 wy ⟨0,0,"",0,0,none⟩)))) p a 0 ⟨0,0,"",0,0,none⟩ /\
   cf p H (upd (upd (upd (upd (upd H p (.dK [])) p (.dK (eU a wy))) p2 (.dK [])) p2 (.dK gL)) p (.dK (SK.zip (SV a 1 0 wy ⟨0,0,"",0,0,none⟩)))):=λwy p hp p2 dE=>by
  have n2:p≠p2:=bV (o:=.dK (eU a wy)) aZ dE;refine⟨⟨⟨1,0,wy,aZ,by decide,by decide,by decide⟩,λT o z=>by cases z⟩,?_⟩;have b1:cf p H (upd (upd H p (.dK [])) p (.dK (eU a wy))):=((cf.refl p H).upd _).upd _;refine cf.upd ?_ _;intro c o e n;have n3:c≠p2:=bV (b1 c o e n) dE;rw[aB n3,aB n3];exact b1 c o e n
 have fin:∀(wy:Int)(p:Addr)(H1:Hp)(B0:Bs)(hp:H p=none)(S1:cG H1 p a 0 B0)(b1:cf p H H1)(e0:B0.x.length=0),∀ r:Int,0<=r->r<4->True:=λ_ _ _ _ _ _ _ _ _ _ _=>trivial;refine⟨_,rfl,a,_,rfl,.inl hS,_,_,rfl,rfl,_,rfl,?_⟩;refine pY (λc=>?_) (λc=>?_)
 ·have c':(0:Int)<((ns.map V.int).length:Int):=of_decide_eq_true c;rw[length_map] at c';obtain⟨v,hv⟩:=wk (ns:=ns) (k:=0) (by decide) c';refine⟨_,rfl,a,_,_,_,rfl,rfl,hS,hv,_,_,rfl,rfl,(by show(0:Int)<2;decide),?_⟩;refine λp hp=>⟨_,rfl,_,rfl,aZ,eU a (v % 2),rfl,(by show 6<=15;decide),?_⟩;rw[Eh];refine⟨_,rfl,.inr (.inr (.inl ⟨rfl,.inl ⟨_,aZ⟩⟩)),λp2 dE=>⟨aZ,gL,rfl,by decide,?_⟩⟩;rw[Ei];have n2:p≠p2:=bV (o:=.dK (eU a (v % 2))) aZ dE;refine⟨p,p2,eU a (v % 2),gL,rfl,rfl,n2,(by rw[aB n2,aB n2,aZ]),aZ,(by show 6+3<=sizeLine;decide),?_⟩;rw[Ej];obtain⟨S1,b1⟩:=go (v % 2) p hp p2 dE;generalize upd (upd (upd (upd (upd H p (.dK [])) p (.dK (eU a (v % 2)))) p2 (.dK [])) p2 (.dK gL)) p (.dK (SK.zip (SV a 1 0 (v % 2) ⟨0,0,"",0,0,none⟩)))=H1 at S1 b1 ⊢
  have sc:∀{H2:Hp},cf p H H2->p6 K H2 a:=λ{H2} b=>⟨ns,by
   rcases hS with (h|⟨o,h⟩)|h
   ·exact .inl (.inl (b _ _ h (bV h hp)))
   ·exact .inl (.inr ⟨o,b _ _ h (bV h hp)⟩)
   ·exact .inr h,hl⟩
  refine⟨_,rfl,p,a,0,_,4,rfl,S1,sc b1,by decide,by decide,by decide,λr H2 r0 r1 S2 b2=>⟨r,rfl,by omega,by omega,Bo (lo:=0) (n:=r.toNat)
   (λi σ H3=>∃(u:Option V)(B1:Bs),σ=[some (.ref a),some (.int (v % 2)),some (.ref p),some (.str "abcdefghijklmnopqrstuvwxyz"),u]/\cf p H H3/\cG H3 p a (1+i) B1/\B1.x.length<=i/\Lets B1.x) ⟨none,_,rfl,b1.trans b2,S2,aG _,Ef⟩ ?_ ?_⟩⟩
  ·rintro i σ H3 hi ⟨u,B1,rfl,b3,S3,h3,mH⟩;obtain⟨t,l,wy,nY,_⟩:=S3.ex;refine⟨_,rfl,p,_,rfl,eS (i:=6) nY rfl rfl,_,rfl,_,rfl,p,a,1+i,B1,26,rfl,S3,sc b3,by omega,by decide,by decide,λr2 H4 s0 s1 S4 b4=>?_⟩;obtain⟨c,hc,qb⟩:=Ee (x:="abcdefghijklmnopqrstuvwxyz") (r:=r2) s0 (by rw[qa];exact s1);refine⟨_,r2,c,rfl,rfl,s0,by omega,by rw[qa];exact s1,hc,?_⟩;have hz:B1.x.length+(⟨#[c]⟩:Str).length<=i+1:=Nat.add_le_add h3 (aG 1);have nT:i+1<=sizeLine:=Nat.le_of_lt (kY (by omega));obtain⟨t4,l4,w4,mI,g1,g2,g3⟩:=S4.ex;refine⟨_,_,rfl,rfl,cC hz nT,_,rfl,p,_,rfl,dput (i:=6) mI rfl rfl,?_⟩;refine⟨_,{ B1 with x:=B1.x++⟨#[c]⟩ },rfl,(b3.trans b4).upd _,⟨⟨t4,l4,w4,aZ,g1,by omega,g3⟩,S4.nV rfl⟩,?_,Eg mH qb⟩
   have e:(B1.x++(⟨#[c]⟩:Str)).length=B1.x.length+(⟨#[c]⟩:Str).length:=by
    show(B1.x.cps++#[c]).size=_;rw[Array.size_append];rfl
   show(B1.x++(⟨#[c]⟩:Str)).length<=i+1;omega
  ·rintro σ H3 ⟨u,B1,rfl,b3,S3,h3,mH⟩;refine⟨_,rfl,p,a,1+r.toNat,B1,26,rfl,S3,sc b3,by omega,by decide,by decide,λr2 H4 s0 s1 S4 b4=>?_⟩;obtain⟨t4,l4,w4,mI,g1,g2,g3⟩:=S4.ex;refine⟨_,rfl,p,_,rfl,dput (i:=7) mI rfl rfl,?_⟩;have S5:cG (upd H4 p (.dK (SK.zip ((SV a t4 l4 w4 B1).set 7 (.int r2))))) p a (1+r.toNat+1) { B1 with z:=r2 }:=⟨⟨t4,l4,w4,aZ,g1,g2,g3⟩,S4.nV rfl⟩;have b5:=(b3.trans b4).upd (.dK (SK.zip ((SV a t4 l4 w4 B1).set 7 (.int r2))));obtain⟨t5,l5,w5,xC,_⟩:=S5.ex;refine⟨_,rfl,_,rfl,p,_,rfl,eS (i:=6) xC rfl rfl,_,rfl,cC h3 (Nat.le_of_lt (kY (by omega))),_,_,rfl,rfl,p,a,_,_,_,rfl,S5,sc b5,by omega,by omega,?_,λr3 H6 u0 u1 S6 b6=>?_⟩
   ·have:(B1.x.length:Int)<=4:=by omega
    show(B1.x.length:Int)+1<2 ^ 200;omega
   obtain⟨t6,l6,w6,xD,k1,k2,k3⟩:=S6.ex;refine⟨_,rfl,p,_,rfl,dput (i:=8) xD rfl rfl,_,rfl,?_⟩;refine q p { nm:=B1.nm,pt:=B1.pt,x:=B1.x,z:=r2,y:=r3,tb:=B1.tb } _ hp ⟨(by show B1.x.length<=3;omega),mH,s0,s1,u0,(Int.lt_add_one_iff.mp u1)⟩ ⟨⟨t6,l6,w6,aZ,k1,by omega,k3⟩,S6.nV rfl⟩ λc o e=>?_;exact((b5.trans b6).upd _) c o e (bV e hp)
 ·refine λp hp=>⟨_,rfl,_,rfl,aZ,eU a 0,rfl,(by show 6<=15;decide),?_⟩;rw[Eh];refine⟨_,rfl,.inr (.inr (.inl ⟨rfl,.inl ⟨_,aZ⟩⟩)),λp2 dE=>⟨aZ,gL,rfl,by decide,?_⟩⟩;rw[Ei];have n2:p≠p2:=bV (o:=.dK (eU a 0)) aZ dE;refine⟨p,p2,eU a 0,gL,rfl,rfl,n2,(by rw[aB n2,aB n2,aZ]),aZ,(by show 6+3<=sizeLine;decide),?_⟩;rw[Ej];obtain⟨S1,b1⟩:=go 0 p hp p2 dE;generalize upd (upd (upd (upd (upd H p (.dK [])) p (.dK (eU a 0))) p2 (.dK [])) p2 (.dK gL)) p (.dK (SK.zip (SV a 1 0 0 ⟨0,0,"",0,0,none⟩)))=H1 at S1 b1 ⊢
  have sc:∀{H2:Hp},cf p H H2->p6 K H2 a:=λ{H2} b=>⟨ns,by
   rcases hS with (h|⟨o,h⟩)|h
   ·exact .inl (.inl (b _ _ h (bV h hp)))
   ·exact .inl (.inr ⟨o,b _ _ h (bV h hp)⟩)
   ·exact .inr h,hl⟩
  refine⟨_,rfl,p,a,0,_,4,rfl,S1,sc b1,by decide,by decide,by decide,λr H2 r0 r1 S2 b2=>⟨r,rfl,by omega,by omega,Bo (lo:=0) (n:=r.toNat)
   (λi σ H3=>∃(u:Option V)(B1:Bs),σ=[some (.ref a),some (.int 0),some (.ref p),some (.str "abcdefghijklmnopqrstuvwxyz"),u]/\cf p H H3/\cG H3 p a (1+i) B1/\B1.x.length<=i/\Lets B1.x) ⟨none,_,rfl,b1.trans b2,S2,aG _,Ef⟩ ?_ ?_⟩⟩
  ·rintro i σ H3 hi ⟨u,B1,rfl,b3,S3,h3,mH⟩;obtain⟨t,l,wy,nY,_⟩:=S3.ex;refine⟨_,rfl,p,_,rfl,eS (i:=6) nY rfl rfl,_,rfl,_,rfl,p,a,1+i,B1,26,rfl,S3,sc b3,by omega,by decide,by decide,λr2 H4 s0 s1 S4 b4=>?_⟩;obtain⟨c,hc,qb⟩:=Ee (x:="abcdefghijklmnopqrstuvwxyz") (r:=r2) s0 (by rw[qa];exact s1);refine⟨_,r2,c,rfl,rfl,s0,by omega,by rw[qa];exact s1,hc,?_⟩;have hz:B1.x.length+(⟨#[c]⟩:Str).length<=i+1:=Nat.add_le_add h3 (aG 1);have nT:i+1<=sizeLine:=Nat.le_of_lt (kY (by omega));obtain⟨t4,l4,w4,mI,g1,g2,g3⟩:=S4.ex;refine⟨_,_,rfl,rfl,cC hz nT,_,rfl,p,_,rfl,dput (i:=6) mI rfl rfl,?_⟩;refine⟨_,{ B1 with x:=B1.x++⟨#[c]⟩ },rfl,(b3.trans b4).upd _,⟨⟨t4,l4,w4,aZ,g1,by omega,g3⟩,S4.nV rfl⟩,?_,Eg mH qb⟩
   have e:(B1.x++(⟨#[c]⟩:Str)).length=B1.x.length+(⟨#[c]⟩:Str).length:=by
    show(B1.x.cps++#[c]).size=_;rw[Array.size_append];rfl
   show(B1.x++(⟨#[c]⟩:Str)).length<=i+1;omega
  ·rintro σ H3 ⟨u,B1,rfl,b3,S3,h3,mH⟩;refine⟨_,rfl,p,a,1+r.toNat,B1,26,rfl,S3,sc b3,by omega,by decide,by decide,λr2 H4 s0 s1 S4 b4=>?_⟩;obtain⟨t4,l4,w4,mI,g1,g2,g3⟩:=S4.ex;refine⟨_,rfl,p,_,rfl,dput (i:=7) mI rfl rfl,?_⟩;have S5:cG (upd H4 p (.dK (SK.zip ((SV a t4 l4 w4 B1).set 7 (.int r2))))) p a (1+r.toNat+1) { B1 with z:=r2 }:=⟨⟨t4,l4,w4,aZ,g1,g2,g3⟩,S4.nV rfl⟩;have b5:=(b3.trans b4).upd (.dK (SK.zip ((SV a t4 l4 w4 B1).set 7 (.int r2))));obtain⟨t5,l5,w5,xC,_⟩:=S5.ex;refine⟨_,rfl,_,rfl,p,_,rfl,eS (i:=6) xC rfl rfl,_,rfl,cC h3 (Nat.le_of_lt (kY (by omega))),_,_,rfl,rfl,p,a,_,_,_,rfl,S5,sc b5,by omega,by omega,?_,λr3 H6 u0 u1 S6 b6=>?_⟩
   ·have:(B1.x.length:Int)<=4:=by omega
    show(B1.x.length:Int)+1<2 ^ 200;omega
   obtain⟨t6,l6,w6,xD,k1,k2,k3⟩:=S6.ex;refine⟨_,rfl,p,_,rfl,dput (i:=8) xD rfl rfl,_,rfl,?_⟩;refine q p { nm:=B1.nm,pt:=B1.pt,x:=B1.x,z:=r2,y:=r3,tb:=B1.tb } _ hp ⟨(by show B1.x.length<=3;omega),mH,s0,s1,u0,(Int.lt_add_one_iff.mp u1)⟩ ⟨⟨t6,l6,w6,aZ,k1,by omega,k3⟩,S6.nV rfl⟩ λc o e=>?_;exact((b5.trans b6).upd _) c o e (bV e hp)
end
end b0
namespace L2
open PySem PySem.Spec PyProof.Rows
theorem OW {J:It}{g:TG}{tI:TT}{te:TE}{acc:Addr}{Q:VK}{σ:St}{H:Hp}(n:Nat)(Pv:Nat->St->Hp->Prop)(h0:Pv 0 σ H)(stop:∀ σ H,Pv n σ H->J.stop n H/\Q (.ref acc) H)
  (go:∀ i σ H,i<n->Pv i σ H->J.go i H/\∀ x H2,J.eo i H x H2->g x σ H2 λcT H3=>tI cT H3 λb H4=>if b=true then te cT H4 λy H5=>∃ ys,H5 acc=some (.lst ys)/\ys.length<sizeLine/\Pv (i+1) cT (upd H5 acc (.lst (ys++[y]))) else Pv (i+1) cT H4) :
  pZ J g tI te acc Q σ H:=by
 refine⟨λi m σ H=>m=n-i/\i<=n/\Pv i σ H,⟨n,by simp,Nat.zero_le _,h0⟩,?_⟩;rintro i m σ H ⟨rfl,hi,p⟩;by_cases cz:i<n
 ·obtain⟨g1,g2⟩:=go i σ H cz p;exact .inr ⟨g1,Pv (i+1),λaJ H' p'=>⟨n-(i+1),by omega,rfl,cz,p'⟩,λx H2 y=>g2 x H2 y⟩
 ·have e:i=n:=by omega
  subst e;exact .inl (stop σ H p)
section
variable {X:Cx}{k:Nat}{f:Addr}{fd:FuncData}{ps:ay}{sp:Sp}{CX:f_}{E:XK}{x:Str}{p pos:Pos}{e:Expr}{es:List Expr}{t:TA}{i:Nat}
end
section
variable {X:Cx}
end
theorem OX (n:Nat):sliceRange ((n:Int)-1) (-1) (-1)=(range n).map λi=>n-1-i:=by
 unfold sliceRange;rw[if_neg (by decide)]
 have e:(if ((n:Int)-1) > -1 then ((n:Int)-1 - -1 - -1-1) / - -1 else 0).toNat=n:=by
  rw[show(- -1:Int)=1 from rfl,Int.ediv_one];by_cases h:((n:Int)-1) > -1
  ·rw[if_pos h];omega
  ·rw[if_neg h];omega
 simp only[e];refine map_congr_left λi hi=>?_;have:=mem_range.mp hi;omega
theorem OY (its:aR):slicePick its.toArray none none (some (-1))=its.reverse.toArray:=by
 unfold slicePick;have b:sliceBounds none none (some (-1)) its.toArray.size=((its.length:Int)-1,-1,-1):=rfl;rw[b];show((sliceRange ((its.length:Int)-1) (-1) (-1)).filterMap (its.toArray[·]?)).toArray=_;rw[OX]
 congr 1
 refine ext_getElem? λi=>?_;rw[filterMap_map]
 have all:∀(l:List Nat),(∀ j∈l,j<its.length)->l.filterMap ((λx=>its.toArray[x]?)∘λi=>its.length-1-i)=l.map λi=>its.getD (its.length-1-i) .none:=by
  intro l
  induction l with
  |nil=>intro _;rfl
  |cons j r ih=>
   intro h;have hj:=h j mem_cons_self
   have e:((λx=>its.toArray[x]?)∘λi=>its.length-1-i) j=some (its.getD (its.length-1-j) .none):=by
    show its.toArray[its.length-1-j]?=_;rw[getElem?_toArray,bL (by omega)];simp [getD,bL (show its.length-1-j<its.length by omega)]
   rw[filterMap_cons,e,map_cons,ih λk m=>h k (mem_cons_of_mem _ m)]
 rw[all _ λj m=>mem_range.mp m,getElem?_map];by_cases hi:i<its.length
 ·rw[getElem?_range hi,getElem?_reverse hi,Option.map_some];simp [getD,bL (show its.length-1-i<its.length by omega)]
 ·rw[getElem?_eq_none (by simpa using hi),getElem?_eq_none (by simpa using hi)];rfl
section
variable {X:Cx}{e:Expr}{te:TE}{pos p2 p3 p4:Pos}{j:Nat}
theorem OZ {K:Frag}(hK:X.K=K)(he:PE X e te):PE X (.Subscript e (.Slice none none (some (.UnaryOp .USub (.Constant (.int 1) j p3) p4)) p2) pos) (λσ H Q=>te σ H λx H1=>∃ a xs,x=.ref a/\aC K H1 a xs/\∀ p,H1 p=none->Q (.ref p) (upd H1 p (.lst xs.reverse))):=by
 subst hK;intro pins s σ H Q I h;refine Subscript_ (aH (he pins s σ H _ I h) λv s1 ⟨x,H1,I1,r1,q1⟩=>?_);obtain⟨a,xs,rfl,hx,q⟩:=q1;cases r1;refine wpAny_Slice ?_;rw[evalPart_none];refine aP (aP ?_);rw[evalPart_some];refine aH (Bp (X:=X) Bu (cJ (i:=1)) pins s1 σ H1 (λu H2=>u=.int (-1)/\H2=H1) I1 ⟨1,rfl,rfl,rfl⟩) λu s2 ⟨x2,H2,I2,r2,e1,e2⟩=>?_;subst e1 e2;obtain⟨t,rfl⟩:=r2;obtain⟨its,r,ht,hz⟩:=I2.list hx;have hlen:=r.length;have k:∀ b o,s2.heap.get? b=some o->(s2.heap.push { cls:=.type "slice",data:=.fields #[.none,.none,.int (-1) t] }).get? b=some o:=λb o e=>aX _ e;have I3:Inv X pins σ H2 { s2 with heap:=s2.heap.push { cls:=.type "slice",data:=.fields #[.none,.none,.int (-1) t] } }:=I2.kept (t':=s2.toks) k;have gf:(s2.heap.push { cls:=.type "slice",data:=.fields #[.none,.none,.int (-1) t] }).IsList a its.toArray:=ht.isList.push _
 have hg:wpAny (model X.prog X.w) X.A (getItem (.ref a) (.ref s2.heap.objs.size)) (EP X pins σ Q) X.xe { s2 with heap:=s2.heap.push { cls:=.type "slice",data:=.fields #[.none,.none,.int (-1) t] } }:=by
  refine wpAny_getItem_list_slice gf (Heap.IsSliceOf.new ..) .none .none (.int (-1) t) (by simp) ?_ (by rw[size_toArray];omega);rw[OY];refine⟨.ref _,_,I3.laid (t':=s2.toks) (o:=.lst xs.reverse) (λb ob q=>aX _ q) (aG _) ?_,rfl,q _ (I3.aw.fresh (aG _))⟩;exact⟨by rw[length_reverse];exact hz,its.reverse,0,r.reverse,cI _ rfl⟩
 show wpAny (model X.prog X.w) X.A (subscriptTail e (.Slice none none (some (.UnaryOp .USub (.Constant (.int 1) j p3) p4)) p2) (.ref a) (.ref s2.heap.objs.size)) (EP X pins σ Q) X.xe _;exact tail_any (ops:=[.ref a,.ref s2.heap.objs.size]) (gf.typeIs (s:={ s2 with heap:=_ })) slot_list_getitem.lookup hg (by with_unfolding_all rfl)
end
inductive Rl {α:Type}(R:α->V->Prop):List α->Zv->Prop where
 |nil:Rl R [] []
 |cons {a:α}{v:V}{as:List α}{vs:Zv}:R a v->Rl R as vs->Rl R (a::as) (v::vs)
section
variable {α:Type}{R S:α->V->Prop}
theorem Rl.len {as:List α}{vs:Zv}(h:Rl R as vs):as.length=vs.length:=by
 induction h with
 |nil=>rfl
 |cons _ _ ih=>simp [ih]
end
structure Co where
 n:Str
 k:Bool
 m:Bool
noncomputable def kd (t:Bool):Str:=if t then "text" else "number"
def jY (cs:List Co)(key:ay):Prop:=key≠[]/\key.length<=60/\key.Nodup/\∀ z∈key,∃ c∈cs,c.n=z/\c.m=false
section
variable {X:Cx}
end
theorem O0:typeLookup (.type "list") "keys"=pure none:=am_miss_of_fast (by kernel_rfl)
section
variable {prog:Program}{w:World}{A:Around}{E:aU}{s:Shared}
theorem Ek {a:Addr}{xs:Array Value}{k:Nat}{sl:Array (Option Value)}{Q:Option Value->Shared->Prop}(hx:s.heap.get? a=some { cls:=.type "list",dict:=none,data:=.seq xs k,slots:=sl })(hA:A.handled=none)
  (h:∀ h' tk,(∀ b o,s.heap.get? b=some o->h'.get? b=some o)->Q none { s with heap:=h',toks:=tk }):wpAny (model prog w) A (getAttr? (.ref a) "keys") Q E s:=by
 obtain⟨hp,gs,dr,tk,os⟩:=s;have hT:∀ xE,(⟨hp,gs,dr,xE,os⟩:Shared).TypeIs (.ref a) "list":=λ_=>⟨_,hx,rfl⟩;have f1:=sub_AttributeError;have f3:=PySem.F.slot_list_getattribute.lookup;have f4:=PySem.F.slot_list_getattribute.bind (.ref a);have f5:=am_list_getattr_none;unfold getAttr? getAttrBy? getAttrBy
 repeat (any_goals (first|assumption|exact hT _|((with_reducible show wpAny _ _ (call (Value.builtin "list.__getattribute__") _ _) _ _ _);refine call_meets PySem.F.slot_list_getattribute (hT _) am_entry_list_getattribute (PySem.F.args_list_getattribute_2 _ _) (meets_getattribute_miss_list a xs k sl "keys" _ O0 (by decide +kernel)) ⟨hx,hA,λh' xE e El=>?_⟩)|wp_step))
 obtain⟨t',u',he⟩:=El.there;show wpAny _ _ (getattributeRaised _ _ _ _ _ _ _) _ _ _;unfold getattributeRaised
 repeat (any_goals (first|assumption|wp_step))
 exact h h' xE El.of.keeps
end
theorem sJ:entryFor table "dict.update.loop"=some Builtin.«dict.update.loop»:=entryFor_of_tree (by kernel_rfl)
theorem k_:plainId "dict.update.loop"=true:=by decide +kernel
noncomputable def putAll (kvs:List (Key×Value)):List (Key×Value):=kvs.foldl (λacc kv=>stored acc kv.1 kv.2) []
theorem O1 (kvs:List (Key×Value))(k:Key)(v:Value):(stored kvs k v).length<=kvs.length+1:=by
 unfold stored
 split<;>simp
section
variable {prog:Program}{w:World}{A:Around}{R:Result->Shared->Prop}{I:Addr}{fp wr:List Addr}{G:Array GenState->Array GenState->Prop}{n:Nat}{P:Nat->Value->Prop}{St:Nat->Shared->Prop}
theorem O2 (W:WalksS prog w A.in1 I fp wr G n P St)(D:Addr)(qc:D∉fp)(h0:Heap)(kvs:List (Key×Value))(res:Value)(aK:n<=1000)
  (hv:∀ i v,P i v->∃ p o m key x k,v=.ref p/\p∉D::wr/\h0.get? p=some o/\o.cls=.type "tuple"/\o.data=.seq #[key,x] m/\kvs[i]?=some (k,x)/\(ck prog w).is k key=true)(hn:kvs.length=n) :
  ∀(c i:Nat)(s:Shared),n-i=c->i<=n->St i s->s.heap.DictOf (ck prog w) D (putAll (kvs.take i))->(∀ b o,b∉D::wr->h0.get? b=some o->s.heap.get? b=some o) ->
   (∀ s',Moved (D::wr) G s s'->s'.heap.DictOf (ck prog w) D (putAll kvs)->R (.ok (.ret res)) s')->codeAny (model prog w) A (.builtin "dict.update.loop" ⟨[.ref D,.ref I,rawInt i,res],[]⟩) R s:=by
 have nw:D∉wr:=λm=>qc (W.sub _ m);have sub:∀ b∈wr,b∈D::wr:=λb m=>mem_cons_of_mem _ m;intro c
 induction c with
 |zero=>
  intro i s hk hi st T kp fin;have e:i=n:=by omega
  subst e;refine codeAny_builtin sJ ?_;rw[Around.under_plainId k_ _];show wpAny _ A.in1 (pyNext (.ref I) >>= _) _ _ s;refine aj (W.done s _ _ st λs' mv=>?_);show wpAny _ A.in1 (Builtin.Dict.addKeywords D [] >>= _) _ _ s';refine aj (aP ?_);rw[<- hn,take_length] at T;refine aP (fin s' (mv.mono sub) ?_);obtain⟨o,es,ep,ho,r⟩:=T;exact⟨o,es,ep,mv.heap D _ nw ho,r⟩
 |succ c ih=>
  intro i s hk hi st T kp fin;have lt:i<n:=by omega
  refine codeAny_builtin sJ ?_;rw[Around.under_plainId k_ _];show wpAny _ A.in1 (pyNext (.ref I) >>= _) _ _ s;refine aj (W.item i s _ _ lt st λv s' hP au mv=>?_);obtain⟨p,o,m,key,x,k,rfl,np,ho,hc,hd,dW,xF⟩:=hv i v hP;have xG:p∉wr:=λq=>np (sub _ q);have fc:=mv.heap p _ xG (kp p o np ho)
  have T':s'.heap.DictOf (ck prog w) D (putAll (kvs.take i)):=by
   obtain⟨od,es,ep,xH,r⟩:=T;exact⟨od,es,ep,mv.heap D _ nw xH,r⟩
  have len:(putAll (kvs.take i)).length<=1000:=by
   have z:∀(l acc:List (Key×Value)),(l.foldl (λacc kv=>stored acc kv.1 kv.2) acc).length<=acc.length+l.length:=by
    intro l
    induction l with
    |nil=>intro acc;simp
    |cons kv r qd=>
     intro acc;refine cC (qd _) ?_;have:=O1 acc kv.1 kv.2;simp only[length_cons];omega
   have z2:=z (kvs.take i) [];rw[length_take,length_nil] at z2;show(foldl (fun(acc:List (Key×Value))(kv:Key×Value)=>stored acc kv.1 kv.2) [] (kvs.take i)).length<=1000;omega
  have et:putAll (kvs.take (i+1))=stored (putAll (kvs.take i)) k x:=by
   unfold putAll;rw[take_add_one,dW,foldl_append];rfl
  dsimp only;refine aj (wpAny_holding ?_);refine aj (wpAny_tryCatch ?_);unfold Builtin.Dict.pairItems;refine aj (wpAny_typeOf (T:="tuple") ⟨o,fc,hc⟩ ?_);rw[if_pos (by decide)];refine aj (wpAny_seqItems fc hd (aP ?_));dsimp only[Option.getD_some];refine wpAny_holding (wpAny_dictSet_pairs xF T' (λh' dd sb=>?_) (Nat.le_of_lt (kY len)));rw[<- et] at dd;refine aP ⟨plainId_quiet k_ _,ih (i+1) _ (by omega) lt (W.frame _ s' _ _ au (Nat.le_succ _) λb hb ob e=>?_) dd (λb ob hb e=>?_) λs2 xI T3=>?_⟩
  ·rw[sb.2 b (λq:b=D=>qc (q▸hb))];exact e
  ·rw[sb.2 b (λq:b=D=>hb (q▸mem_cons_self))];exact mv.heap b ob (λq=>hb (sub _ q)) (kp b ob hb e)
  ·refine fin s2 (Moved.trans W.gtrans ((mv.mono sub).then_heap (Nat.le_succ _) λb ob hb e=>?_) xI) T3;rw[sb.2 b (λq:b=D=>hb (q▸mem_cons_self))];exact e
end
section
variable {prog:Program}{w:World}{A:Around}{E:aU}{s:Shared}
theorem O3 {l:Addr}{its:aR}{m:Nat}{kvs:List (Key×Value)}{Q:aU}(hh:A.handled=none)(hl:s.heap.get? l=some { cls:=.type "list",data:=.seq its.toArray m })(aK:its.length<=1000)(hn:kvs.length=its.length)
  (hv:∀(i:Nat)(v:Value),its[i]?=some v->∃ p o m key x k,v=.ref p/\s.heap.get? p=some o/\o.cls=.type "tuple"/\o.data=.seq #[key,x] m/\kvs[i]?=some (k,x)/\(ck prog w).is k key=true)
  (h:∀ h' tk,h'.DictOf (ck prog w) s.heap.objs.size (putAll kvs)->(∀ b o,s.heap.get? b=some o->h'.get? b=some o)->Q (.ref s.heap.objs.size) { s with heap:=h',toks:=tk }) :
  wpAny (model prog w) A (call (.type "dict") [.ref l]) Q E s:=by
 refine callType_codes (Q₁:=λobj bq=>obj=.ref s.heap.objs.size/\bq={ s with heap:=s.heap.push { cls:=.type "dict",data:=.dict #[] } }) PySem.F.kt_called_dict (PySem.F.kt_typeCall_dict_1 _) PySem.F.entry_dict_init (kt_code_dict_new _ ⟨rfl,rfl⟩) ?_;rintro obj bq ⟨rfl,rfl⟩;have new:(s.heap.push { cls:=.type "dict",data:=.dict #[] }).DictOf (ck prog w) s.heap.objs.size []:=Heap.DictOf.new s.heap;refine⟨new.typeIs,PySem.F.args_dict_init_2 _ _,?_⟩;unfold Builtin.«dict.__init__»;refine aj ?_;unfold Builtin.Dict.selfAndRest;refine aj (wpAny_notOrdered_dict new.typeIs ?_);show wpAny _ _ (pure (s.heap.objs.size,[Value.ref l])) _ _ _;refine aP ?_;show wpAny _ _ (Builtin.Dict.updateFrom "dict.__init__" s.heap.objs.size (.ref l) [] .none) _ _ _;unfold Builtin.Dict.updateFrom;have l1:(s.heap.push { cls:=.type "dict",data:=.dict #[] }).get? l=some { cls:=.type "list",data:=.seq its.toArray m }:=aX _ hl;refine aj (wpAny_typeOf (T:="list") ⟨_,l1,rfl⟩ ?_);rw[if_pos (by decide)];refine aj (Ek l1 (by simp [hh]) λh1 O4 k1=>?_);rw[if_pos (show(none:Option Value).isNone=true from rfl)];refine aj (wpAny_rule ?_);have l2:=k1 _ _ l1;have qe:h1.IsList l its.toArray:=⟨_,l2,rfl,m,rfl⟩
 have d1:h1.DictOf (ck prog w) s.heap.objs.size []:=by
  obtain⟨o,es,ep,ho,r⟩:=new;exact⟨o,es,ep,k1 _ _ ho,r⟩
 refine aj (wpAny_pyIter_list qe ?_)
 have sz:s.heap.objs.size<h1.objs.size:=by
  obtain⟨o,es,ep,ho,r⟩:=d1;exact aV ho
 have lt:l<s.heap.objs.size:=aV hl;have ne:l≠h1.objs.size:=bN (Nat.lt_trans lt sz)
 have nf:s.heap.objs.size∉[h1.objs.size,l]:=by
  simp only[mem_cons,mem_singleton,not_mem_nil,or_false,not_or];exact⟨bN sz,Nat.ne_of_gt lt⟩
 refine aP ⟨plainId_quiet k_ _,?_⟩
 refine O2 ((Walks.list (by simp [hh]) _ l ne its.toArray).toS) s.heap.objs.size nf h1 kvs .none (by rw[size_toArray];exact aK) (λi v e=>?_) (by rw[size_toArray];exact hn) (its.toArray.size-0) 0 _ (by omega) (Nat.zero_le _)
  ⟨⟨_,cI _ rfl,rfl,rfl⟩,qe.push _⟩ ?_ (λb o _ e=>aX _ e) (λs' mv T=>?_)
 ·obtain⟨p,o,m',key,x,k,rfl,ho,r⟩:=hv i v (by simpa using e);have lp:p<s.heap.objs.size:=aV ho;refine⟨p,o,m',key,x,k,rfl,?_,k1 _ _ (aX _ ho),r⟩;simp only[mem_cons,mem_singleton,not_mem_nil,or_false,not_or];exact⟨bN lp,bN (Nat.lt_trans lp sz)⟩
 ·exact d1.push _
 ·rw[Moved.eq_with mv];refine⟨rfl,h s'.heap s'.toks T λb o e=>?_⟩;have lb:b<s.heap.objs.size:=aV e;refine mv.heap b o ?_ (aX _ (k1 _ _ (aX _ e)));simp only[mem_cons,mem_singleton,not_mem_nil,or_false,not_or];exact⟨bN lb,bN (Nat.lt_trans lb sz)⟩
end
noncomputable def sL (kvs:bh):bh:=kvs.foldl (λacc kv=>putK acc kv.1 kv.2) []
theorem O5 (kvs:bh):(sL kvs).length<=kvs.length:=by
 have z:∀(l acc:bh),(l.foldl (λacc kv=>putK acc kv.1 kv.2) acc).length<=acc.length+l.length:=by
  intro l
  induction l with
  |nil=>intro acc;simp
  |cons kv r ih=>
   intro acc;refine cC (ih _) ?_;have:=pL acc kv.1 kv.2;simp only[length_cons];omega
 have q:=z kvs [];rw[length_nil,Nat.zero_add] at q;exact q
section
variable {X:Cx}
theorem O6 {kvs:bh}{vs:List (Key×Value)}(r:KV kvs vs):KV (sL kvs) (putAll vs):=by
 have z:∀{l:bh}{m:List (Key×Value)}{acc:bh}{acc':List (Key×Value)},KV l m->KV acc acc'->KV (l.foldl (λacc kv=>putK acc kv.1 kv.2) acc) (m.foldl (λacc kv=>stored acc kv.1 kv.2) acc'):=by
  intro l
  induction l with
  |nil=>intro m acc acc' h g;cases h;exact g
  |cons kv r ih=>
   intro m acc acc' h g
   match m,h with
   |b::m',.cons h t=>
    obtain⟨e,rv⟩:=h;refine ih (m:=m') (acc:=putK acc kv.1 kv.2) (acc':=stored acc' b.1 b.2) t ?_;rw[<- e];exact g.put _ rv
 exact z r .nil
end
section
variable {X:Cx}
def Em (K:Frag):R2:=λx y H Q=>∃ a b xs ys,x=.ref a/\y=.ref b/\aS K H a xs/\aS K H b ys/\xs.length+ys.length<=sizeLine /\
 (xs=[]->Q (.ref b) H)/\(xs≠[]->ys=[]->Q (.ref a) H)/\(xs≠[]->ys≠[]->∀ p,H p=none->Q (.ref p) (upd H p (.tup (xs++ys))))
theorem O7:bE X (binaryOp .Add) (Em X.K):=by
 intro pins s σ H x y v u Q I rx ry h;obtain⟨a,b,xs,ys,rfl,rfl,ha,hb,hz,q0,q1,q2⟩:=h;by_cases hx:xs=[]
 ·cases rx;cases ry;obtain⟨its,r1,p1,_⟩:=I.tuple ha;obtain⟨fQ,r2,p2,_⟩:=I.tuple hb;have e:its=[]:=r1.kX.mpr hx;obtain⟨⟨cls,dd,data,sl⟩,ho,hc,n,hd⟩:=id p1;obtain⟨⟨Mw,nO,data2,rY⟩,mn,iS,n2,hd2⟩:=id p2;simp only at hc hd iS hd2;subst hc hd iS hd2
  exact concat_meets ⟨_,ho,rfl⟩ ⟨_,mn,rfl⟩ noFill_tuple_add seq_tuple_add PySem.F.slot_tuple_add PySem.F.entry_tuple_add (PySem.F.args_tuple_add_2 _ _)
   (tuple_addW0 a b its.toArray fQ.toArray n n2 dd nO sl rY (by simp [e])) ⟨ho,mn,⟨.ref b,H,I,rfl,q0 hx⟩⟩
 ·exact ML pins s σ H _ _ v u Q I rx ry ⟨a,b,xs,ys,rfl,rfl,ha,hb,hx,hz,q1 hx,q2 hx⟩
end
section
variable {X:Cx}{pins:aL}{σ:St}{H:Hp}{s:Shared}
theorem Inv.En {p:Addr}{kvs:bh}(I:Inv X pins σ H s)(h:H p=some (.dK kvs)):∃ od,Inv X pins σ (upd H p (.aY od (.dK kvs))) s:=by
 obtain⟨z,n,vs,r,ob,es,ep,e,rest⟩:=pN I.aw h;refine⟨ob,I.write (x:=p) (e:=p) (h':=s.heap) (t':=s.toks) (by rw[h];trivial) (.inl rfl) (λ_ _ _ q=>q) ⟨ob,e⟩ ⟨⟨e,λ_ z=>nomatch z⟩,z,n,vs,r,ob,es,ep,e,rest⟩⟩
theorem PE.post {e:Expr}{t t':TE}(h:PE X e t)(f:∀ σ H Q,t' σ H Q->t σ H λv H1=>∀ pins s,Inv X pins σ H1 s->∃ H2,Inv X pins σ H2 s/\Q v H2):PE X e t':=λpins s σ H Q I w=>
 aH (h pins s σ H _ I (f _ _ _ w)) λu s1 ⟨v,H1,I1,r,q⟩=>by
  obtain⟨H2,I2,q2⟩:=q pins s1 I1;exact⟨v,H2,I2,r,q2⟩
noncomputable def nZ (a:Addr)(od:Obj):It:=
 ⟨λi H=>∃ kvs kv,H a=some (.aY od (.dK kvs))/\kvs[i]?=some kv,λi H x H'=>H'=H/\∀ kvs,H a=some (.aY od (.dK kvs))->∃ kv,kvs[i]?=some kv/\x=kV kv.1,λi H=>∃ kvs,H a=some (.aY od (.dK kvs))/\kvs.length<=i⟩
theorem O8 {kvs:bh}{vs:List (Key×Value)}(h:KV kvs vs){i:Nat}{kv:Key×V}(e:kvs[i]?=some kv):∃ u,vs[i]?=some (kv.1,u):=by
 unfold KV at h
 induction h generalizing i with
 |nil=>simp at e
 |@cons p q xs ys h1 h2 ih=>
  cases i with
  |zero=>
   simp only[getElem?_cons_zero,Option.some.injEq] at e;subst e;exact⟨q.2,by rw[h1.1];rfl⟩
  |succ i=>exact ih (by simpa using e)
theorem n5 {a:Addr}{od:Obj}{kvs:bh}{es:Array DictEntry}{ep:Nat}(I:Inv X pins σ H s)(h:H a=some (.aY od (.dK kvs)))(hd:od.data=.dict es ep):∃ vs,KV kvs vs/\s.heap.DictAt (ck X.prog X.w) a vs ep/\es.size=vs.length:=by
 obtain⟨⟨e,_⟩,z,n,vs,r,ob,eP,rG,e',c,d,q1,q2,q3⟩:=I.aw a _ h;rw[e] at e';cases e';rw[hd] at d;cases d;exact⟨vs,r,⟨od,es,e,c,hd,q1,q2,q3⟩,by rw[<- q2.length];simp⟩
theorem xJ {k:Key}{v:Value}(h:lZ k v=true):RelV (kV k) v:=by
 rcases je h with ⟨i,t,rfl,rfl⟩|⟨x,t,rfl,rfl⟩
 ·exact⟨t,rfl⟩
 ·exact⟨t,rfl⟩
theorem O9 {P:Program}{w:World}{K:Frag}{tg:Expr}(a it:Addr)(od:Obj)(es:Array DictEntry)(ep:Nat)(hd:od.data=.dict es ep):Turn P w K tg (nZ a od) [it] it (λi h=>h.IsKeyIter it a i es.size ep) where
 mem:=by simp
 obj:=λi h st b hb=>by
  have e:b=it:=by simpa using hb
  subst e;obtain⟨o,e,c,d⟩:=st;exact⟨o,e,λv z=>by rw[d] at z;cases z⟩
 keep:=λi h h' st k=>by
  obtain⟨o,e,c,d⟩:=st;exact⟨o,k it (by simp) o e,c,d⟩
 item:=by
  intro X hP hw hK hc i pins s σ H E I hf st hg;subst hP hw hK;obtain⟨kvs,kv,hq,hx⟩:=hg;obtain⟨vs,r,da,hsz⟩:=n5 I hq hd;obtain⟨u,hu⟩:=O8 r hx;obtain⟨f0,f1,f2,f3,f4,f5⟩:=hf it (by simp);rw[hsz] at st;refine wpAny_pyNext_dict_item st da hu λkey h' hk au sb=>?_;have I1:Inv X pins σ H { s with heap:=h' }:=I.turned (t':=s.toks) (λb o hb e=>(sb.2 b hb).trans e) f0 f1 f3 f4 f5;obtain⟨o,e,c,d⟩:=id au;refine⟨key,rfl,nE (s:={ s with heap:=h' }) e c d (by decide) ⟨kV kv.1,H,I1,xJ hk,⟨rfl,λys hy=>?_⟩,by rw[hsz];exact au,λb hb=>(hf b hb).1⟩⟩;rw[hq] at hy;cases hy;exact⟨kv,hx,rfl⟩
 done:=by
  intro X hP hw hK hc i pins s σ H E I hf st hg;subst hP hw hK;obtain⟨kvs,hq,hx⟩:=hg;obtain⟨vs,r,da,hsz⟩:=n5 I hq hd;obtain⟨f0,f1,f2,f3,f4,f5⟩:=hf it (by simp);have hl:=r.length;rw[hsz] at st;exact wpAny_pyNext_dict_end (I.ok.hd hc) st da (getElem?_eq_none (by omega)) λh' eb=>⟨rfl,I.turned (t':=s.toks) (λb o hb e=>eb b o hb e) f0 f1 f3 f4 f5⟩
 self:=λA i s Q E st h=>by
  refine wpAny_pyIter_slot st.typeIs F.slot_dict_keyiterator_iter (wpAny_call_entry F.slot_dict_keyiterator_iter st.typeIs F.entry_dict_keyiterator_iter ?_ (F.args_dict_keyiterator_iter_1 _));show wpAny _ _ (ret (.ref it)) _ _ s;exact aP ⟨_,rfl,"dict_keyiterator",_,st.typeIs,F.slot_dict_keyiterator_next.lookup,h⟩
end
inductive PV where
 |ai|bl (b:Bool)|int (i:Int)|str (x:Str)|tup (xs:List PV)|lst (xs:List PV)|ah (kvs:List (PV×PV))|raw (v:V)
abbrev af:=List PV
abbrev aN:=List (PV×PV)
def O_ (H:Hp)(a:Addr)(ak:List (V×V)):Prop:=∃(kvs:bh)(od:Obj),H a=some (.aY od (.dK kvs))/\ak=kvs.map λkv=>(kV kv.1,kv.2)
mutual
inductive RV (K:Frag)(N:Addr->Prop)(H:Hp):PV->V->Prop where
 |ai:RV K N H .ai .ai
 |bl (b:Bool):RV K N H (.bl b) (.bl b)
 |int (i:Int):RV K N H (.int i) (.int i)
 |str (x:Str):RV K N H (.str x) (.str x)
 |raw (a:Addr):RV K N H (.raw (.ref a)) (.ref a)
 |tup {a:Addr}{xs:af}{vs:Zv}:aS K H a vs->aI K N H xs vs->RV K N H (.tup xs) (.ref a)
 |lst {a:Addr}{xs:af}{vs:Zv}:¬ N a->H a=some (.lst vs)->aI K N H xs vs->RV K N H (.lst xs) (.ref a)
 |ah {a:Addr}{kvs:aN}{ak:List (V×V)}:¬ N a->O_ H a ak->bB K N H kvs ak->RV K N H (.ah kvs) (.ref a)
inductive aI (K:Frag)(N:Addr->Prop)(H:Hp):af->Zv->Prop where
 |nil:aI K N H [] []
 |cons {x:PV}{v:V}{xs:af}{vs:Zv}:RV K N H x v->aI K N H xs vs->aI K N H (x::xs) (v::vs)
inductive bB (K:Frag)(N:Addr->Prop)(H:Hp):aN->List (V×V)->Prop where
 |nil:bB K N H [] []
 |cons {k x:PV}{l v:V}{xs:aN}{vs:List (V×V)}:RV K N H k l->RV K N H x v->bB K N H xs vs->bB K N H ((k,x)::xs) ((l,v)::vs)
end
section
variable {K:Frag}{N N':Addr->Prop}{H H':Hp}
structure eD (K:Frag)(N N':Addr->Prop)(H H':Hp):Prop where
 t:∀ a vs,aS K H a vs->aS K H' a vs
 l:∀ a o,¬ N a->H a=some o->¬ N' a/\H' a=some o
theorem RV.imp (k:eD K N N' H H'){x:PV}{v:V}(h:RV K N H x v):RV K N' H' x v:=by
 refine RV.rec (motive_1:=λx v _=>RV K N' H' x v) (motive_2:=λxs vs _=>aI K N' H' xs vs) (motive_3:=λxs vs _=>bB K N' H' xs vs) .ai .bl .int .str .raw
  (λh _ r=>.tup (k.t _ _ h) r) (λn h _ r=>.lst (k.l _ _ n h).1 (k.l _ _ n h).2 r) (λn h _ r=>?_) .nil (λ_ _ r s=>.cons r s) .nil (λ_ _ _ a b r=>.cons a b r) h
 obtain⟨kvs,od,h1,rfl⟩:=h;exact .ah (k.l _ _ n h1).1 ⟨kvs,od,(k.l _ _ n h1).2,rfl⟩ r
theorem aI.imp (k:eD K N N' H H'){xs:af}{vs:Zv}(h:aI K N H xs vs):aI K N' H' xs vs:=by
 induction vs generalizing xs with
 |nil=>cases h;exact .nil
 |cons v vs ih=>cases h with|cons h1 h2=>exact .cons (h1.imp k) (ih h2)
theorem bB.imp (k:eD K N N' H H'){xs:aN}{vs:List (V×V)}(h:bB K N H xs vs):bB K N' H' xs vs:=by
 induction vs generalizing xs with
 |nil=>cases h;exact .nil
 |cons v vs ih=>cases h with|cons h1 h2 h3=>exact .cons (h1.imp k) (h2.imp k) (ih h3)
theorem aI.len {xs:af}{vs:Zv}(h:aI K N H xs vs):xs.length=vs.length:=by
 induction vs generalizing xs with
 |nil=>cases h;rfl
 |cons v vs ih=>cases h with|cons h1 h2=>rw[length_cons,length_cons,ih h2]
theorem aI.app {xs ys:af}{vs us:Zv}(h:aI K N H xs vs)(g:aI K N H ys us):aI K N H (xs++ys) (vs++us):=by
 induction vs generalizing xs with
 |nil=>cases h;exact g
 |cons v vs ih=>cases h with|cons h1 h2=>exact .cons h1 (ih h2)
theorem aI.at {xs:af}{vs:Zv}(h:aI K N H xs vs){i:Nat}{x:PV}(e:xs[i]?=some x):∃ v,vs[i]?=some v/\RV K N H x v:=by
 induction vs generalizing xs i with
 |nil=>cases h;simp at e
 |cons v vs ih=>
  cases h with
  |cons h1 h2=>
   cases i with
   |zero=>cases e;exact⟨v,rfl,h1⟩
   |succ i=>exact ih h2 (by simpa using e)
theorem aI.at' {xs:af}{vs:Zv}(h:aI K N H xs vs){i:Nat}{v:V}(e:vs[i]?=some v):∃ x,xs[i]?=some x/\RV K N H x v:=by
 induction vs generalizing xs i with
 |nil=>simp at e
 |cons u vs ih=>
  cases h with
  |cons h1 h2=>
   cases i with
   |zero=>cases e;exact⟨_,rfl,h1⟩
   |succ i=>exact ih h2 (by simpa using e)
theorem aI.take {xs:af}{vs:Zv}(h:aI K N H xs vs)(n:Nat):aI K N H (xs.take n) (vs.take n):=by
 induction vs generalizing xs n with
 |nil=>cases h;simpa using aI.nil
 |cons u vs ih=>
  cases h with
  |cons h1 h2=>
   cases n with
   |zero=>exact .nil
   |succ n=>exact .cons h1 (ih h2 n)
theorem aI.drop {xs:af}{vs:Zv}(h:aI K N H xs vs)(n:Nat):aI K N H (xs.drop n) (vs.drop n):=by
 induction vs generalizing xs n with
 |nil=>cases h;simpa using aI.nil
 |cons u vs ih=>
  cases h with
  |cons h1 h2=>
   cases n with
   |zero=>exact .cons h1 h2
   |succ n=>exact ih h2 n
theorem aI.rev {xs:af}{vs:Zv}(h:aI K N H xs vs):aI K N H xs.reverse vs.reverse:=by
 induction vs generalizing xs with
 |nil=>cases h;exact .nil
 |cons u vs ih=>
  cases h with
  |cons h1 h2=>rw[reverse_cons,reverse_cons];exact(ih h2).app (.cons h1 .nil)
theorem aI.set {xs:af}{vs:Zv}(h:aI K N H xs vs)(i:Nat){x:PV}{v:V}(r:RV K N H x v):aI K N H (xs.set i x) (vs.set i v):=by
 induction vs generalizing xs i with
 |nil=>cases h;exact .nil
 |cons u vs ih=>
  cases h with
  |cons h1 h2=>
   cases i with
   |zero=>exact .cons r h2
   |succ i=>exact .cons h1 (ih h2 i)
end
inductive OC where
 |lst (xs:af)|ah (kvs:aN)|ins (C dx:Addr)(fs:List (Str×PV))|bQ (kvs:List (List Key×PV))
noncomputable def OC.pv:OC->PV
 |.lst xs=>.lst xs
 |.ah kvs=>.ah kvs
 |.ins _ _ _=>.raw .ai
 |.bQ _=>.raw .ai
def OC.Ld:OC->Prop
 |.ins _ _ _=>False
 |.bQ _=>False
 |_=>True
def Eo (K:Frag)(N:Addr->Prop)(H:Hp)(fs:List (Str×PV))(ws:List (Str×V)):Prop:=fs.map Prod.fst=ws.map Prod.fst/\aI K N H (fs.map Prod.snd) (ws.map Prod.snd)
def cA (K:Frag)(N:Addr->Prop)(H:Hp)(kvs:List (List Key×PV))(ak:List (List Key×V)):Prop:=kvs.map Prod.fst=ak.map Prod.fst/\aI K N H (kvs.map Prod.snd) (ak.map Prod.snd)
inductive Sl where
 |val (x:PV)|own (a:Addr)(c:OC)|peek (a:Addr)(c:OC)
abbrev bp:=List (Option Sl)
structure az where
 d:Addr
 a:Addr
 n:Nat
 b:Bs
structure AS where
 B:Addr->Prop
 ae:bp
 S:Option az
abbrev bX:=AS->Prop
def Own (ae:bp)(a:Addr):Prop:=∃(i:Nat)(c:OC),ae[i]?=some (some (.own a c))
def AN (A:AS)(a:Addr):Prop:=A.B a\/Own A.ae a
def Mt (A:AS)(a:Addr):Prop:=Own A.ae a\/∃ st,A.S=some st/\st.d=a
def fT (K:Frag)(N:Addr->Prop)(H:Hp)(a:Addr):OC->Prop
 |.lst xs=>∃ vs,H a=some (.lst vs)/\aI K N H xs vs
 |.ah kvs=>∃ ak:bh,H a=some (.dK ak)/\bB K N H kvs (ak.map λkv=>(kV kv.1,kv.2))
 |.ins C dx fs=>∃ ws:List (Str×V),H a=some (.ins C dx ws)/\Eo K N H fs ws
 |.bQ kvs=>∃ ak:List (List Key×V),H a=some (.dT ak)/\cA K N H kvs ak
def O' (K:Frag)(A:AS)(H:Hp):Sl->V->Prop
 |.val x,v=>RV K (AN A) H x v
 |.own a c,v=>v=.ref a/\¬ A.B a/\fT K (AN A) H a c
 |.peek a c,v=>v=.ref a/\A.B a/\fT K (AN A) H a c
def fm (K:Frag)(H:Hp)(a:Addr):Prop:=∃ ns:List Int,ns.length<=63/\((∃ o:Obj,H a=some (.aY o (.lst (ns.map V.int))))\/∃(o:Obj)(its:Array Value)(n:Nat),K.lookup a=some o/\o.cls=.type "list"/\o.dict=none/\o.data=.seq its n/\its.size<=sizeLine/\Vals (ns.map V.int) its.toList)
theorem fm.Pa {K:Frag}{H:Hp}{a:Addr}(h:fm K H a):p6 K H a:=by
 obtain⟨ns,l,⟨o,h⟩|h⟩:=h
 ·exact⟨ns,.inl (.inr ⟨o,h⟩),l⟩
 ·exact⟨ns,.inr h,l⟩
theorem fm.jn {K:Frag}{H H':Hp}{a:Addr}(h:fm K H a)(f:∀ o u,H a=some (.aY o u)->H' a=some (.aY o u)):fm K H' a:=by
 obtain⟨ns,l,⟨o,h⟩|h⟩:=h
 ·exact⟨ns,l,.inl ⟨o,f _ _ h⟩⟩
 ·exact⟨ns,l,.inr h⟩
theorem fm.keep {K:Frag}{H H':Hp}{a:Addr}(h:fm K H a)(f:∀ o,H a=some o->H' a=some o):fm K H' a:=h.jn λ_ _=>f _
theorem cG.upd {H:Hp}{d a p:Addr}{n:Nat}{B:Bs}{o:HO}(h:cG H d a n B)(np:p≠d)(nt:∀ ps,H p≠some (.iJ ps)):cG (L2.upd H p o) d a n B:=by
 obtain⟨t,l,w,e,r⟩:=h.ex;exact⟨⟨t,l,w,by rw[aB np.symm];exact e,r⟩,λT o z=>⟨by rw[aB λy=>nt _ (y▸(h.tb T o z).1)];exact(h.tb T o z).1,(h.tb T o z).2⟩⟩
structure Rep (K:Frag)(H:Hp)(σ:St)(A:AS):Prop where
 len:σ.length=A.ae.length
 sl:∀(i:Nat)(s:Sl),A.ae[i]?=some (some s)->∃ v,σ[i]?=some (some v)/\O' K A H s v
 cW:∀ a,A.B a->H a≠none
 nd:∀(i j:Nat)(a:Addr)(c c':OC),A.ae[i]?=some (some (.own a c))->A.ae[j]?=some (some (.own a c'))->i=j
 st:∀ st,A.S=some st->A.B st.d/\cG H st.d st.a st.n st.b/\fm K H st.a
 pk:∀(i:Nat)(a:Addr)(c:OC)(st:az),A.ae[i]?=some (some (.peek a c))->A.S=some st->a≠st.d
structure ax (A:AS)(H:Hp)(A1:AS)(H1:Hp):Prop where
 fr:∀ a o,H a=some o->¬ Mt A a->H1 a=some o
 ow:∀ a,Own A1.ae a->Own A.ae a\/H a=none
 b:A1.B=A.B
 dm:∀ a,H a≠none->H1 a≠none
 sd:A1.S.map az.d=A.S.map az.d
section
variable {K:Frag}{H H1 H2:Hp}{σ:St}{A A1 A2:AS}
theorem ax.refl (A:AS)(H:Hp):ax A H A H:=⟨λ_ _ h _=>h,λ_ h=>.inl h,rfl,λ_ h=>h,rfl⟩
theorem la {S S1:Option az}(e:S1.map az.d=S.map az.d){a:Addr}(h:∃ st,S1=some st/\st.d=a):∃ st,S=some st/\st.d=a:=by
 obtain⟨st,rfl,rfl⟩:=h
 cases S with
 |none=>cases e
 |some t=>exact⟨t,rfl,by simpa using e.symm⟩
theorem ax.mt (s:ax A H A1 H1){a:Addr}(h:Mt A1 a)(hd:H a≠none):Mt A a:=by
 rcases h with h|h
 ·rcases s.ow a h with z|z
  ·exact .inl z
  ·exact absurd z hd
 ·exact .inr (la s.sd h)
theorem fF {α:Type}{o:Option α}{x:α}(h:o=some x):o≠none:=by rw[h];intro z;cases z
theorem ax.trans (s:ax A H A1 H1)(t:ax A1 H1 A2 H2):ax A H A2 H2 where
 fr:=λa o h n=>t.fr a o (s.fr a o h n) λm=>n (s.mt m (fF h))
 ow:=λa h=>by
  rcases t.ow a h with z|z
  ·exact s.ow a z
  ·refine .inr ?_
   cases e:H a with
   |none=>rfl
   |some o=>exact absurd z (s.dm a (fF e))
 b:=t.b.trans s.b
 dm:=λa h=>t.dm a (s.dm a h)
 sd:=t.sd.trans s.sd
theorem ax.same (A:AS)(s:aQ H H1):ax A H A H1 where
 fr:=λa o h _=>s a o h
 ow:=λ_ h=>.inl h
 b:=rfl
 dm:=λa h=>by
  cases e:H a with
  |none=>exact absurd e h
  |some o=>exact fF (s a o e)
 sd:=rfl
theorem Rep.iZ (R:Rep K H σ A){a:Addr}(h:Own A.ae a):(∃ vs,H a=some (.lst vs))\/(∃ kvs,H a=some (.dK kvs))\/(∃ C dx ws,H a=some (.ins C dx ws))\/∃ ak,H a=some (.dT ak):=by
 obtain⟨i,c,h⟩:=h;obtain⟨v,_,_,_,o⟩:=R.sl i _ h
 cases c with
 |lst xs=>obtain⟨vs,h,_⟩:=o;exact .inl ⟨vs,h⟩
 |ah xs=>obtain⟨vs,h,_⟩:=o;exact .inr (.inl ⟨vs,h⟩)
 |ins C dx xs=>obtain⟨vs,h,_⟩:=o;exact .inr (.inr (.inl ⟨_,_,vs,h⟩))
 |bQ xs=>obtain⟨vs,h,_⟩:=o;exact .inr (.inr (.inr ⟨vs,h⟩))
theorem Rep.Pb (R:Rep K H σ A){a:Addr}(h:Mt A a):(∃ vs,H a=some (.lst vs))\/(∃ kvs,H a=some (.dK kvs))\/(∃ C dx ws,H a=some (.ins C dx ws))\/∃ ak,H a=some (.dT ak):=by
 rcases h with h|⟨st,h,rfl⟩
 ·exact R.iZ h
 ·exact .inr (.inl (R.st st h).2.1.dk)
theorem Rep.Pc (R:Rep K H σ A){a:Addr}(h:Mt A a):AN A a:=by
 rcases h with h|⟨st,h,rfl⟩
 ·exact .inr h
 ·exact .inl (R.st st h).1
theorem Ep {a:Addr}{u:HO}{n:Prop}(f:∀ o,H a=some o->¬ n->H1 a=some o)(hn:¬ n)(h:Rd H a u):Rd H1 a u:=by
 rcases h with h|⟨o,h⟩
 ·exact .inl (f _ h hn)
 ·exact .inr ⟨o,f _ h hn⟩
theorem Rep.keep (R:Rep K H σ A)(s:ax A H A1 H1):eD K (AN A) (AN A1) H H1:=by
 have nan:∀ a,¬ AN A a->H a≠none->¬ AN A1 a:=by
  rintro a n hd (h|h)
  ·exact n (.inl (by rw[<- s.b];exact h))
  ·rcases s.ow a h with z|z
   ·exact n (.inr z)
   ·exact hd z
 refine⟨λa vs h=>?_,λa o n h=>⟨nan a n (fF h),s.fr a o h λm=>n (R.Pc m)⟩⟩;rcases h with h|h
 ·refine .inl (Ep (n:=Mt A a) (λo e m=>s.fr a o e m) (λm=>?_) h);rcases R.Pb m with ⟨z,e⟩|⟨z,e⟩|⟨_,_,z,e⟩|⟨z,e⟩
  ·rcases h with h|⟨o,h⟩<;>(rw[e] at h;cases h)
  ·rcases h with h|⟨o,h⟩<;>(rw[e] at h;cases h)
  ·rcases h with h|⟨o,h⟩<;>(rw[e] at h;cases h)
  ·rcases h with h|⟨o,h⟩<;>(rw[e] at h;cases h)
 ·exact .inr h
theorem fT.imp {N N':Addr->Prop}(k:eD K N N' H H1){a:Addr}{c:OC}(e:∀ o,H a=some o->H1 a=some o)(h:fT K N H a c):fT K N' H1 a c:=by
 cases c with
 |lst xs=>obtain⟨vs,h1,h2⟩:=h;exact⟨vs,e _ h1,h2.imp k⟩
 |ah xs=>obtain⟨vs,h1,h2⟩:=h;exact⟨vs,e _ h1,h2.imp k⟩
 |ins C dx xs=>obtain⟨vs,h1,h2⟩:=h;exact⟨vs,e _ h1,h2.1,h2.2.imp k⟩
 |bQ xs=>obtain⟨vs,h1,h2⟩:=h;exact⟨vs,e _ h1,h2.1,h2.2.imp k⟩
theorem Rep.same (R:Rep K H σ A)(s:aQ H H1):Rep K H1 σ A where
 len:=R.len
 sl:=λi t h=>by
  obtain⟨v,e,q⟩:=R.sl i t h;have k:=R.keep (ax.same A s);refine⟨v,e,?_⟩
  cases t with
  |val x=>exact q.imp k
  |own a c=>exact⟨q.1,q.2.1,q.2.2.imp k λo=>s a o⟩
  |peek a c=>exact⟨q.1,q.2.1,q.2.2.imp k λo=>s a o⟩
 cW:=λa h=>(ax.same A s).dm a (R.cW a h)
 nd:=R.nd
 st:=λst h=>by
  obtain⟨h1,h2,h3⟩:=R.st st h;exact⟨h1,h2.same s,h3.keep λo=>s _ o⟩
 pk:=R.pk
end
theorem PE.mono {X:Cx}{e:Expr}{t t':TE}(h:PE X e t)(f:∀ σ H Q,t' σ H Q->t σ H Q):PE X e t':=λpins s σ H Q I w=>h pins s σ H Q I (f _ _ _ w)
theorem PT.mono {X:Cx}{e:Expr}{t t':TT}(h:PT X e t)(f:∀ σ H Q,t' σ H Q->t σ H Q):PT X e t':=λpins s σ H Q I w=>h pins s σ H Q I (f _ _ _ w)
theorem PW.mono {X:Cx}{e:Expr}{t t':TT}(h:PW X e t)(f:∀ σ H Q,t' σ H Q->t σ H Q):PW X e t':=λwh pins s σ H Q I w=>h wh pins s σ H Q I (f _ _ _ w)
theorem PA.mono {X:Cx}{e:List Expr}{t t':TA}(h:PA X e t)(f:∀ σ H Q,t' σ H Q->t σ H Q):PA X e t':=λpos pins s σ H Q I w=>h pos pins s σ H Q I (f _ _ _ w)
theorem PS.mono {X:Cx}{e:Stmt}{t t':TS}(h:PS X e t)(f:∀ D σ H,t' D σ H->t D σ H):PS X e t':=λpins s σ H D I w=>h pins s σ H D I (f _ _ _ w)
theorem cn.mono {X:Cx}{e:List Stmt}{t t':TS}(h:cn X e t)(f:∀ D σ H,t' D σ H->t D σ H):cn X e t':=λpins s σ H D I w=>h pins s σ H D I (f _ _ _ w)
theorem PI.mono {X:Cx}{tg e:Expr}{t t':TI}(h:PI X tg e t)(f:∀ σ H Q,t' σ H Q->t σ H Q):PI X tg e t':=λpins s σ H Q I w=>h pins s σ H Q I (f _ _ _ w)
abbrev UE:=AS->(PV->AS->Prop)->Prop
abbrev UA:=AS->(af->AS->Prop)->Prop
abbrev UT:=AS->(Bool->AS->Prop)->Prop
def cv (K:Frag)(A:AS)(H:Hp)(r:PV)(v:V):Prop:=
 RV K (AN A) H r v\/∃(i:Nat)(a:Addr)(c:OC),((A.ae[i]?=some (some (.own a c))\/A.ae[i]?=some (some (.peek a c)))/\c.Ld)/\r=c.pv/\v=.ref a
section
variable {K:Frag}{H H1 H2:Hp}{σ:St}{A A1 A2:AS}
theorem cv.step {r:PV}{v:V}(R:Rep K H σ A)(h:cv K A H r v)(s:ax A H A1 H1)(e:A1.ae=A.ae):cv K A1 H1 r v:=by
 rcases h with h|h
 ·exact .inl (h.imp (R.keep s))
 ·exact .inr (by rw[e];exact h)
theorem cv.oc {v:V}{c:OC}(R:Rep K H σ A)(h:cv K A H c.pv v):∃ a,v=.ref a/\(match c with
  |.lst xs=>∃ vs,H a=some (.lst vs)/\aI K (AN A) H xs vs
  |.ah kvs=>∃ ak:bh,Rd H a (.dK ak)/\bB K (AN A) H kvs (ak.map λkv=>(kV kv.1,kv.2))
  |.ins _ _ _=>True
  | .bQ _=>True):=by
 rcases h with h|⟨i,a,c',h,e,rfl⟩
 ·cases c with
  |lst xs=>cases h with|lst _ h1 h2=>exact⟨_,rfl,_,h1,h2⟩
  |ah kvs=>cases h with|ah _ h1 h2=>obtain⟨kvs,od,h1,rfl⟩:=h1;exact⟨_,rfl,_,.inr ⟨od,h1⟩,h2⟩
  |ins _ _ _=>cases h
  |bQ _=>cases h
 ·have o:fT K (AN A) H a c':=by
   rcases h.1 with h|h
   ·obtain⟨_,_,_,_,o⟩:=R.sl i _ h;exact o
   ·obtain⟨_,_,_,_,o⟩:=R.sl i _ h;exact o
  refine⟨a,rfl,?_⟩
  cases c with
  |lst xs=>
   cases c' with
   |lst ys=>cases e;obtain⟨vs,h1,h2⟩:=o;exact⟨vs,h1,h2⟩
   |ah _=>cases e
   |ins _ _ _=>cases e
   |bQ _=>cases e
  |ah xs=>
   cases c' with
   |lst ys=>cases e
   |ah _=>cases e;obtain⟨vs,h1,h2⟩:=o;exact⟨vs,.inl h1,h2⟩
   |ins _ _ _=>cases e
   |bQ _=>cases e
  |ins _ _ _=>trivial
  |bQ _=>trivial
theorem cv.lst {v:V}{xs:af}(R:Rep K H σ A)(h:cv K A H (.lst xs) v):∃ a vs,v=.ref a/\H a=some (.lst vs)/\aI K (AN A) H xs vs:=by
 obtain⟨a,e,vs,h1,h2⟩:=cv.oc (c:=.lst xs) R h;exact⟨a,vs,e,h1,h2⟩
theorem cv.ah {v:V}{kvs:aN}(R:Rep K H σ A)(h:cv K A H (.ah kvs) v):∃ a ak,v=.ref a/\Rd H a (.dK ak)/\bB K (AN A) H kvs (ak.map λkv=>(kV kv.1,kv.2)):=by
 obtain⟨a,e,vs,h1,h2⟩:=cv.oc (c:=.ah kvs) R h;exact⟨a,vs,e,h1,h2⟩
theorem cv.rv {v:V}{r:PV}(h:cv K A H r v)(hn:∀ c:OC,r≠c.pv):RV K (AN A) H r v:=by
 rcases h with h|⟨_,_,c,_,e,_⟩
 ·exact h
 ·exact absurd e (hn c)
theorem cv.tup {v:V}{xs:af}(h:cv K A H (.tup xs) v):∃ a vs,v=.ref a/\aS K H a vs/\aI K (AN A) H xs vs:=by
 have:=h.rv (by intro c;cases c<;>(intro z;cases z))
 cases this with|tup h1 h2=>exact⟨_,_,rfl,h1,h2⟩
theorem cv.int {v:V}{i:Int}(h:cv K A H (.int i) v):v=.int i:=by
 have:=h.rv (by intro c;cases c<;>(intro z;cases z));cases this;rfl
theorem cv.bl {v:V}{i:Bool}(h:cv K A H (.bl i) v):v=.bl i:=by
 have:=h.rv (by intro c;cases c<;>(intro z;cases z));cases this;rfl
theorem cv.str {v:V}{i:Str}(h:cv K A H (.str i) v):v=.str i:=by
 have:=h.rv (by intro c;cases c<;>(intro z;cases z));cases this;rfl
theorem cv.ai {v:V}(h:cv K A H .ai v):v=.ai:=by
 have:=h.rv (by intro c;cases c<;>(intro z;cases z));cases this;rfl
end
def aD (K:Frag)(u:UE):TE:=λσ H Q=>∃ A P,Rep K H σ A/\u A P/\∀ r A1 v H1,P r A1->Rep K H1 σ A1->ax A H A1 H1->RV K (AN A1) H1 r v->Q v H1
def aO (K:Frag)(u:UE):TE:=λσ H Q=>∃ A P,Rep K H σ A/\u A P/\∀ r A1 v H1,P r A1->Rep K H1 σ A1->ax A H A1 H1->cv K A1 H1 r v->Q v H1
def eV (K:Frag)(N:Addr->Prop)(H0 H1:Hp)(r:PV)(v:V):Prop:=∃ p c,r=OC.pv c/\v=.ref p/\H0 p=none/\aQ H0 H1/\(match c with
  |.lst xs=>∃ vs,H1 p=some (.lst vs)/\aI K N H0 xs vs
  |.ah kvs=>∃ ak:bh,H1 p=some (.dK ak)/\bB K N H0 kvs (ak.map λkv=>(kV kv.1,kv.2))
  |.ins _ _ _=>False
  | .bQ _=>False)
def fU (K:Frag)(u:UE):TE:=λσ H Q=>∃ A P,Rep K H σ A/\u A P/\∀ r A1 v H0 H1,P r A1->Rep K H0 σ A1->ax A H A1 H0->eV K (AN A1) H0 H1 r v->Q v H1
def liftT (K:Frag)(u:UT):TT:=λσ H Q=>∃ A P,Rep K H σ A/\u A P/\∀ b A1 H1,P b A1->Rep K H1 σ A1->ax A H A1 H1->Q b H1
def jZ (K:Frag)(u:UA):TA:=λσ H Q=>∃ A P,Rep K H σ A/\u A P/\∀ rs A1 vs H1,P rs A1->Rep K H1 σ A1->ax A H A1 H1->aI K (AN A1) H1 rs vs->Q vs H1
section
variable {X:Cx}{K:Frag}{e:Expr}{u:UE}{pos:Pos}
theorem Rep.new {H:Hp}{σ:St}{A:AS}{p:Addr}(R:Rep K H σ A)(hp:H p=none):¬ AN A p:=by
 rintro(h|h)
 ·exact R.cW p h hp
 ·rcases R.iZ h with ⟨z,e⟩|⟨z,e⟩|⟨_,_,z,e⟩|⟨z,e⟩<;>(rw[e] at hp;cases hp)
theorem eV.same {N:Addr->Prop}{H0 H1:Hp}{r:PV}{v:V}(f:eV K N H0 H1 r v):aQ H0 H1:=by
 obtain⟨_,_,_,_,_,s,_⟩:=f;exact s
theorem fG {N:Addr->Prop}{H0 H1:Hp}(s:aQ H0 H1):eD K N N H0 H1:=⟨λa vs h=>by
  rcases h with (h|⟨o,h⟩)|h
  ·exact .inl (.inl (s _ _ h))
  ·exact .inl (.inr ⟨o,s _ _ h⟩)
  ·exact .inr h,λa o n h=>⟨n,s a o h⟩⟩
theorem eV.Er {N:Addr->Prop}{H0 H1:Hp}{xs:af}{v:V}(dm:∀ p,H0 p=none->¬ N p)(f:eV K N H0 H1 (.lst xs) v):RV K N H1 (.lst xs) v:=by
 obtain⟨p,c,e,rfl,hp,s,h⟩:=f
 cases c with
 |lst ys=>cases e;obtain⟨vs,h1,h2⟩:=h;exact .lst (dm p hp) h1 (h2.imp (fG s))
 |ah ys=>cases e
 |ins _ _ _=>exact h.elim
 |bQ _=>exact h.elim
theorem eV.fix {pins:aL}{σ:St}{s:Shared}{N:Addr->Prop}{H0 H1:Hp}{r:PV}{v:V}(dm:∀ p,H0 p=none->¬ N p)(f:eV K N H0 H1 r v)(I:Inv X pins σ H1 s):∃ H2,Inv X pins σ H2 s/\aQ H0 H2/\RV K N H2 r v:=by
 obtain⟨p,c,rfl,rfl,hp,sm,h⟩:=f
 cases c with
 |lst xs=>obtain⟨vs,h1,h2⟩:=h;exact⟨H1,I,sm,.lst (dm p hp) h1 (h2.imp (fG sm))⟩
 |ah xs=>
  obtain⟨vs,h1,h2⟩:=h;obtain⟨od,I2⟩:=I.En h1
  have s2:aQ H0 (upd H1 p (.aY od (.dK vs))):=λb o e=>by
   rw[aB (bV e hp)];exact sm b o e
  exact⟨_,I2,s2,.ah (dm p hp) ⟨vs,od,aZ,rfl⟩ (h2.imp (fG s2))⟩
 |ins _ _ _=>exact h.elim
 |bQ _=>exact h.elim
theorem vf (h:PE X e (fU K u)):PE X e (aD K u):=h.post λσ H Q ⟨A,P,R,h,c⟩=>⟨A,P,R,h,λr A1 v H0 H1 p R0 S0 f pins s I=>by
 obtain⟨H2,I2,s2,rv⟩:=f.fix (λ_=>R0.new) I
 exact⟨H2,I2,c r A1 v H2 p (R0.same s2) (S0.trans (ax.same A1 s2)) rv⟩⟩
theorem qv (h:PE X e (aD K u)):PE X e (aO K u):=h.mono λσ H Q ⟨A,P,R,h,c⟩=>⟨A,P,R,h,λr A1 v H1 p R1 S1 rv=>c r A1 v H1 p R1 S1 (.inl rv)⟩
theorem qf (h:PE X e (fU K u)):PE X e (aO K u):=qv (vf h)
noncomputable def aY (A:AS)(i:Nat)(c:OC):AS:={ A with ae:=A.ae.set i (some (.val c.pv)) }
def sM (i:Nat):UE:=λA Q=>match A.ae[i]? with
 |some (some (.val x))=>Q x A
 |some (some (.own _ (.lst xs)))=>Q (.lst xs) (aY A i (.lst xs))
 |some (some (.own _ (.ah xs)))=>Q (.ah xs) (aY A i (.ah xs))
 |_=>False
def sN (i:Nat):UE:=λA Q=>match A.ae[i]? with
 |some (some (.val x))=>Q x A
 |some (some (.own _ (.lst xs)))=>Q (.lst xs) A
 |some (some (.own _ (.ah xs)))=>Q (.ah xs) A
 |some (some (.peek _ (.lst xs)))=>Q (.lst xs) A
 |some (some (.peek _ (.ah xs)))=>Q (.ah xs) A
 |_=>False
theorem cg {α:Type}{l:List α}{i j:Nat}{a b:α}(h:(l.set i a)[j]?=some b):(i=j/\b=a)\/(i≠j/\l[j]?=some b):=by
 rw[getElem?_set] at h;by_cases e:i=j
 ·rw[if_pos e] at h
  split at h
  ·exact .inl ⟨e,(Option.some.inj h).symm⟩
  ·cases h
 ·rw[if_neg e] at h;exact .inr ⟨e,h⟩
theorem Rep.freeze {H:Hp}{σ:St}{A:AS}{i:Nat}{a:Addr}{c:OC}(R:Rep K H σ A)(hi:A.ae[i]?=some (some (.own a c))){H2:Hp}(hb:∀ b,b≠a->H2 b=H b)(hc:match c with|.lst _=>H2=H|.ah _=>∃ ak od,H a=some (.dK ak)/\H2 a=some (.aY od (.dK ak))|.ins _ _ _=>False|.bQ _=>False):Rep K H2 σ (aY A i c)/\ax A H (aY A i c) H2/\RV K (AN (aY A i c)) H2 c.pv (.ref a)/\σ[i]?=some (some (.ref a)):=by
 have oa:Own A.ae a:=⟨i,c,hi⟩
 have ow:∀ b,Own (aY A i c).ae b->Own A.ae b/\b≠a:=by
  rintro b ⟨j,c',h⟩;rcases cg h with ⟨_,z⟩|⟨n,z⟩
  ·cases z
  ·exact⟨⟨j,c',z⟩,λe=>n (by subst e;exact R.nd i j _ _ _ hi z)⟩
 have an:∀ b,AN (aY A i c) b->AN A b:=λb h=>h.elim .inl λz=>.inr (ow b z).1
 have kp:eD K (AN A) (AN (aY A i c)) H H2:=by
  refine⟨λb vs h=>?_,λb o n h=>⟨λz=>n (an _ z),by rw[hb b λe=>n (by rw[e];exact .inr oa)];exact h⟩⟩;rcases h with h|h
  ·by_cases e:b=a
   ·subst e;rcases R.iZ oa with ⟨z,q⟩|⟨z,q⟩|⟨_,_,z,q⟩|⟨z,q⟩<;>(rcases h with h|⟨o,h⟩<;>(rw[q] at h;cases h))
   ·refine .inl ?_;unfold Rd at h ⊢;rw[hb b e];exact h
  ·exact .inr h
 obtain⟨v,e,rfl,nb,oc⟩:=R.sl i _ hi
 have na:¬ AN (aY A i c) a:=by
  rintro(z|z)
  ·exact nb z
  ·exact(ow a z).2 rfl
 have rv:RV K (AN (aY A i c)) H2 c.pv (.ref a):=by
  cases c with
  |lst xs=>
   obtain⟨vs,h1,h2⟩:=oc;have e2:H2=H:=hc;exact .lst na (by rw[e2];exact h1) (h2.imp kp)
  |ah xs=>
   obtain⟨vs,h1,h2⟩:=oc;obtain⟨ak,od,e1,e2⟩:=hc;rw[h1] at e1;cases e1;exact .ah na ⟨vs,od,e2,rfl⟩ (h2.imp kp)
  |ins _ _ _=>exact hc.elim
  |bQ _=>exact hc.elim
 have ha:H2 a≠none:=by
  cases c with
  |lst xs=>
   obtain⟨vs,h1,h2⟩:=oc;have e2:H2=H:=hc;rw[e2,h1];intro z;cases z
  |ah xs=>
   obtain⟨ak,od,e1,e2⟩:=hc;rw[e2];intro z;cases z
  |ins _ _ _=>exact hc.elim
  |bQ _=>exact hc.elim
 have bn:∀ b,A.B b->b≠a:=λb h z=>nb (by rw[<- z];exact h);refine⟨⟨?_,?_,λb h=>by rw[hb b (bn b h)];exact R.cW b h,?_,?_,?_⟩,⟨λb o h m=>by rw[hb b λz=>m (by rw[z];exact .inl oa)];exact h,λb z=>.inl (ow b z).1,rfl,λb h=>?_,rfl⟩,rv,e⟩
 ·rw[R.len];exact(length_set ..).symm
 ·intro j s h;rcases cg h with ⟨rfl,z⟩|⟨n,z⟩
  ·cases z;exact⟨_,e,rv⟩
  ·obtain⟨v,e1,q⟩:=R.sl j s z;refine⟨v,e1,?_⟩
   cases s with
   |val x=>exact q.imp kp
   |own b c'=>exact⟨q.1,q.2.1,q.2.2.imp kp λo h=>by rw[hb b λy=>n (by subst y;exact R.nd i j _ _ _ hi z)];exact h⟩
   |peek b c'=>exact⟨q.1,q.2.1,q.2.2.imp kp λo h=>by rw[hb b (bn b q.2.1)];exact h⟩
 ·intro i1 j1 b c1 c2 h1 h2;rcases cg h1 with ⟨_,z⟩|⟨_,z1⟩
  ·cases z
  ·rcases cg h2 with ⟨_,z⟩|⟨_,z2⟩
   ·cases z
   ·exact R.nd _ _ _ _ _ z1 z2
 ·intro st h;obtain⟨h1,h2,h3⟩:=R.st st h;refine⟨h1,?_,h3.jn λo u q=>?_⟩
  ·obtain⟨t,l,w,e,r⟩:=h2.ex
   exact⟨⟨t,l,w,by rw[hb _ (bn _ h1)];exact e,r⟩,λT o z=>⟨by
    rw[hb _ λy=>by
     have q:=(h2.tb T o z).1;rw[y] at q
     rcases R.iZ oa with ⟨y,q2⟩|⟨y,q2⟩|⟨_,_,y,q2⟩|⟨y,q2⟩<;>(rw[q2] at q;cases q)]
    exact(h2.tb T o z).1,(h2.tb T o z).2⟩⟩
  ·rw[hb _ λz=>by
    rw[z] at q
    rcases R.iZ oa with ⟨y,q2⟩|⟨y,q2⟩|⟨_,_,y,q2⟩|⟨y,q2⟩<;>(rw[q2] at q;cases q)]
   exact q
 ·intro i1 b c1 st h1 h2;rcases cg h1 with ⟨_,z⟩|⟨_,z1⟩
  ·cases z
  ·exact R.pk _ _ _ _ z1 h2
 ·by_cases z:b=a
  ·rw[z];exact ha
  ·rw[hb b z];exact h
theorem vn (i:Nat){x:Str}(hN:X.N[i]?=some x:=by rfl)(hv:di X.env.scope x:=by walk_at "v")(hd:(x==("__debug__":Str))=false:=by decide)
  (bA:(x==("__classdict__":Str))=false:=by decide):PE X (.Name x pos) (aD K (sM i)):=(dO hN hv hd bA).post λσ H Q ⟨A,P,R,h,c⟩=>by
 unfold sM at h
 split at h
 ·rename_i x hx;obtain⟨v,e,q⟩:=R.sl i _ hx;exact⟨v,e,λpins s I=>⟨H,I,c _ A v H h R (ax.refl A H) q⟩⟩
 ·rename_i a xs hx;obtain⟨R1,S1,rv,e⟩:=R.freeze hx (H2:=H) (λ_ _=>rfl) rfl;exact⟨_,e,λpins s I=>⟨H,I,c _ _ _ H h R1 S1 rv⟩⟩
 ·rename_i a xs hx;obtain⟨v,e,rfl,nb,ws,h1,h2⟩:=R.sl i _ hx;refine⟨_,e,λpins s I=>?_⟩;obtain⟨od,I2⟩:=I.En h1;obtain⟨R1,S1,rv,_⟩:=R.freeze hx (H2:=upd H a (.aY od (.dK ws))) (λb hb=>aB hb) ⟨ws,od,h1,aZ⟩;exact⟨_,I2,c _ _ _ _ h R1 S1 rv⟩
 ·exact h.elim
theorem qn (i:Nat){x:Str}(hN:X.N[i]?=some x:=by rfl)(hv:di X.env.scope x:=by walk_at "v")(hd:(x==("__debug__":Str))=false:=by decide)
  (bA:(x==("__classdict__":Str))=false:=by decide):PE X (.Name x pos) (aO K (sN i)):=(dO hN hv hd bA).mono λσ H Q ⟨A,P,R,h,c⟩=>by
 unfold sN at h
 split at h
 ·rename_i x hx;obtain⟨v,e,q⟩:=R.sl i _ hx;exact⟨v,e,c _ A v H h R (ax.refl A H) (.inl q)⟩
 ·rename_i a oc hx;obtain⟨v,e,rfl,_,q⟩:=R.sl i _ hx;exact⟨_,e,c _ A _ H h R (ax.refl A H) (.inr ⟨i,a,.lst oc,⟨.inl hx,trivial⟩,rfl,rfl⟩)⟩
 ·rename_i a oc hx;obtain⟨v,e,rfl,_,q⟩:=R.sl i _ hx;exact⟨_,e,c _ A _ H h R (ax.refl A H) (.inr ⟨i,a,.ah oc,⟨.inl hx,trivial⟩,rfl,rfl⟩)⟩
 ·rename_i a oc hx;obtain⟨v,e,rfl,_,q⟩:=R.sl i _ hx;exact⟨_,e,c _ A _ H h R (ax.refl A H) (.inr ⟨i,a,.lst oc,⟨.inr hx,trivial⟩,rfl,rfl⟩)⟩
 ·rename_i a oc hx;obtain⟨v,e,rfl,_,q⟩:=R.sl i _ hx;exact⟨_,e,c _ A _ H h R (ax.refl A H) (.inr ⟨i,a,.ah oc,⟨.inr hx,trivial⟩,rfl,rfl⟩)⟩
 ·exact h.elim
def uC (x:PV):UE:=λA Q=>Q x A
theorem qg {v:V}{x:PV}(h:PE X e (tC v))(r:∀ N H,RV K N H x v):PE X e (aD K (uC x)):=h.mono λσ H Q ⟨A,P,R,h,c⟩=>c x A v H h R (ax.refl A H) (r _ _)
theorem vi {i:Int} {j}:PE X (.Constant (.int i) j pos) (aD K (uC (.int i))):=qg cJ λ_ _=>.int i
theorem vb {i:Bool} {j}:PE X (.Constant (.bool i) j pos) (aD K (uC (.bl i))):=qg KW λ_ _=>.bl i
theorem vs {i:Str} {j}:PE X (.Constant (.str i) j pos) (aD K (uC (.str i))):=qg cy λ_ _=>.str i
theorem v0 {j}:PE X (.Constant .none j pos) (aD K (uC .ai)):=qg KY λ_ _=>.ai
end
def Es:UA:=λA Q=>Q [] A
def Et (ue:UE)(ua:UA):UA:=λA Q=>ue A λx A1=>ua A1 λxs A2=>Q (x::xs) A2
def Eu (u:UA):UE:=λA Q=>u A λxs A1=>xs.length<=1000/\Q (.tup xs) A1
def Ew (u:UA):UE:=λA Q=>u A λxs A1=>xs.length<=1000/\Q (.lst xs) A1
section
variable {X:Cx}{K:Frag}{e:Expr}{es:List Expr}{ue:UE}{ua:UA}{pos:Pos}
theorem an:PA X [] (jZ K Es):=cq.mono λσ H Q ⟨A,P,R,h,c⟩=>c [] A [] H h R (ax.refl A H) .nil
theorem ac (h1:PE X e (aD K ue))(h2:PA X es (jZ K ua))(hs:starEach (e::es) X.env=(false,eval e X.env)::starEach es X.env:=by rfl):PA X (e::es) (jZ K (Et ue ua)):=
 (bO h1 h2 hs).mono λσ H Q ⟨A,P,R,h,c⟩=>⟨A,_,R,h,λx A1 v H1 p1 R1 S1 r1=>⟨A1,_,R1,p1,λxs A2 vs H2 p2 R2 S2 r2=>
  c (x::xs) A2 (v::vs) H2 p2 R2 (S1.trans S2) (.cons (r1.imp (R1.keep S2)) r2)⟩⟩
theorem xK {n:Nat}(h:n<=1000):n<=sizeLine:=cC h (by decide)
theorem et {x1}(h:PA X es (jZ K ua)):PE X (.Tuple es x1 pos) (aD K (Eu ua)):=(L_ h).mono λσ H Q ⟨A,P,R,h,c⟩=>⟨A,_,R,h,λxs A1 vs H1 p1 R1 S1 r1=>by
 obtain⟨aK,p1⟩:=p1;refine⟨xK (by rw[<- r1.len];exact aK),λp hp=>?_⟩;have s:=d0 hp (.tup vs)
 exact c (.tup xs) A1 (.ref p) _ p1 (R1.same s) (S1.trans (ax.same A1 s)) (.tup (aS.of aZ) (r1.imp (R1.keep (ax.same A1 s))))⟩
theorem el (h:PA X es (jZ K ua)):PE X (.List es pos) (fU K (Ew ua)):=(L' h).mono λσ H Q ⟨A,P,R,h,c⟩=>⟨A,_,R,h,λxs A1 vs H1 p1 R1 S1 r1=>by
 obtain⟨aK,p1⟩:=p1;refine⟨xK (by rw[<- r1.len];exact aK),λp hp=>?_⟩;have s:=d0 hp (.lst vs)
 exact c (.lst xs) A1 (.ref p) H1 _ p1 R1 S1 ⟨p,.lst xs,rfl,rfl,hp,s,vs,aZ,r1⟩⟩
end
abbrev G2:=PV->PV->PV->Prop
def dX (K:Frag)(r:R2)(G:G2):Prop:=∀(H:Hp)(A:AS)(σ:St)(x y:PV)(v w:V)(z:PV)(Q:VK),Rep K H σ A->cv K A H x v->cv K A H y w->G x y z ->
 (∀ v' H',aQ H H'->RV K (AN A) H' z v'->Q v' H')->r v w H Q
def Pd (K:Frag)(r:R2)(G:G2):Prop:=∀(H:Hp)(A:AS)(σ:St)(x y:PV)(v w:V)(z:PV)(Q:VK),Rep K H σ A->cv K A H x v->cv K A H y w->G x y z ->
 (∀ v' H',eV K (AN A) H H' z v'->Q v' H')->r v w H Q
def u2 (G:G2)(ua ub:UE):UE:=λA Q=>ua A λx A1=>ub A1 λy A2=>A2.ae=A1.ae/\∃ z,G x y z/\Q z A2
def gh (G:G2)(ua ub:UE):UT:=λA Q=>ua A λx A1=>ub A1 λy A2=>A2.ae=A1.ae/\∃ z,G x y (.bl z)/\Q z A2
section
variable {X:Cx}{K:Frag}{a b:Expr}{ua ub uc:UE}{pos:Pos}{r r':R2}{G G':G2}
theorem xM (br:dX K r G):∀ σ H Q,aD K (u2 G ua ub) σ H Q->kN r (aO K ua) (aO K ub) σ H Q:=λσ H Q ⟨A,P,R,h,c⟩=>
 ⟨A,_,R,h,λx A1 v H1 p1 R1 S1 q1=>⟨A1,_,R1,p1,λy A2 w H2 p2 R2 S2 q2=>by
  obtain⟨e,z,g,p⟩:=p2
  exact br H2 A2 σ x y v w z Q R2 (q1.step R1 S2 e) q2 g λv' H' s rv=>c z A2 v' H' p (R2.same s) (S1.trans (S2.trans (ax.same A2 s))) rv⟩⟩
theorem Pe (br:dX K r G):∀ σ H Q,liftT K (gh G ua ub) σ H Q->vI (kN r (aO K ua) (aO K ub)) σ H Q:=λσ H Q ⟨A,P,R,h,c⟩=>
 ⟨A,_,R,h,λx A1 v H1 p1 R1 S1 q1=>⟨A1,_,R1,p1,λy A2 w H2 p2 R2 S2 q2=>by
  obtain⟨e,z,g,p⟩:=p2
  exact br H2 A2 σ x y v w (.bl z) _ R2 (q1.step R1 S2 e) q2 g λv' H' s rv=>by
   cases rv
   exact⟨z,rfl,c z A2 H' p (R2.same s) (S1.trans (S2.trans (ax.same A2 s)))⟩⟩⟩
theorem qh {op:Operator}(ho:bE X (binaryOp op) r)(br:dX K r G)(ha:PE X a (aO K ua))(hb:PE X b (aO K ub)):PE X (.BinOp a op b pos) (aD K (u2 G ua ub)):=(c5 ho ha hb).mono (xM br)
theorem n6 {op:CmpOp}(ho:bE X (compareOp op) r)(br:dX K r G)(ha:PE X a (aO K ua))(hb:PE X b (aO K ub))(hm:behindInMarks op b=false):PE X (.Compare a [op] [b] pos) (aD K (u2 G ua ub)):=(LS ho ha hb hm).mono (xM br)
theorem lg {op:CmpOp}(ho:bE X (compareOp op) r)(br:dX K r G)(ha:PE X a (aO K ua))(hb:PE X b (aO K ub))(hm:behindInMarks op b=false):PT X (.Compare a [op] [b] pos) (liftT K (gh G ua ub)):=(kQ ho ha hb hm).mono (Pe br)
theorem Pf (ho:iV X r)(br:dX K r G)(ha:PE X a (aO K ua))(hb:PE X b (aO K ub))(hs:vW b):PE X (.Subscript a b pos) (aD K (u2 G ua ub)):=(r6 ho ha hb hs).mono (xM br)
end
def Ex (t u:UT):UT:=λA Q=>t A λc A1=>if c=true then u A1 Q else Q false A1
def Ey (t u:UT):UT:=λA Q=>t A λc A1=>if c=true then Q true A1 else u A1 Q
def Ez (t:UT):UT:=λA Q=>t A λc A1=>Q (!c) A1
def uB (u:UE):UT:=λA Q=>u A λx A1=>∃ c,x=.bl c/\Q c A1
def EA (ua ub:UE):UE:=λA Q=>ua A λx A1=>∃ c,x=.bl c/\if c=true then ub A1 Q else Q (.bl false) A1
def EB (ua:UE):UE:=λA Q=>ua A λx A1=>∃ c,x=.bl c/\Q (.bl (!c)) A1
noncomputable def xN:PV->Option Bool
 |.ai=>some false
 |.bl b=>some b
 |.int i=>some (i != 0)
 |.str x=>if x.length<=1000 then some ((x.length:Int) != 0) else none
 |.tup xs=>some !xs.isEmpty
 |.lst xs=>some !xs.isEmpty
 |_=>none
def EC (u:UE):UT:=λA Q=>u A λx A1=>∃ c,xN x=some c/\Q c A1
section
variable {X:Cx}{K:Frag}{a b c:Expr}{rest:List Expr}{ua ub:UE}{t u:UT}{pos:Pos}
theorem lh (h:PT X a (liftT K t)):PW X (.BoolOp .And [a] pos) (liftT K t):=Bc h
theorem mJ (h:PT X a (liftT K t)):PW X (.BoolOp .Or [a] pos) (liftT K t):=K5 h
theorem lq (ha:PT X a (liftT K t))(hb:PW X (.BoolOp .And (b::rest) pos) (liftT K u)):PW X (.BoolOp .And (a::b::rest) pos) (liftT K (Ex t u)):=(Bd ha hb).mono λσ H Q ⟨A,P,R,h,c⟩=>
 ⟨A,_,R,h,λk A1 H1 p1 R1 S1=>by
  cases k with
  |true=>exact nS ⟨A1,P,R1,p1,λb A2 H2 p2 R2 S2=>c b A2 H2 p2 R2 (S1.trans S2)⟩
  | false=>exact nR (c false A1 H1 p1 R1 S1)⟩
theorem lr (ha:PT X a (liftT K t))(hb:PW X (.BoolOp .Or (b::rest) pos) (liftT K u)):PW X (.BoolOp .Or (a::b::rest) pos) (liftT K (Ey t u)):=(K6 ha hb).mono λσ H Q ⟨A,P,R,h,c⟩=>
 ⟨A,_,R,h,λk A1 H1 p1 R1 S1=>by
  cases k with
  |true=>exact nS (c true A1 H1 p1 R1 S1)
  | false=>exact nR ⟨A1,P,R1,p1,λb A2 H2 p2 R2 S2=>c b A2 H2 p2 R2 (S1.trans S2)⟩⟩
theorem jo (ha:PT X a (liftT K t)):PT X (.UnaryOp .Not a pos) (liftT K (Ez t)):=(K7 ha).mono λσ H Q ⟨A,P,R,h,c⟩=>⟨A,_,R,h,λk A1 H1 p1 R1 S1=>c (!k) A1 H1 p1 R1 S1⟩
theorem gM (hK:X.K=K)(h:PE X a (aO K ua))(he:∀ whole,isTrue a X.env whole=(do let v <- whole;standAt a.pos;holding [v] (truthy v)):=by intro _;rfl):PT X a (liftT K (EC ua)):=(LY h he).mono λσ H Q ⟨A,P,R,h,c⟩=>
 ⟨A,_,R,h,λx A1 v H1 p1 R1 S1 r1=>by
  subst hK;obtain⟨k,e,p1⟩:=p1;refine⟨k,?_,c k A1 H1 p1 R1 S1⟩
  cases x with
  |ai=>cases r1.ai;exact(Option.some.inj e).symm
  |bl b=>cases r1.bl;exact(Option.some.inj e).symm
  |int b=>cases r1.int;exact(Option.some.inj e).symm
  |str b=>
   cases r1.str;have e':(if b.length<=1000 then some ((b.length:Int) != 0) else none)=some k:=e;by_cases hb:b.length<=1000
   ·rw[if_pos hb] at e';exact⟨xK hb,(Option.some.inj e').symm⟩
   ·rw[if_neg hb] at e';cases e'
  |tup xs=>
   obtain⟨p,vs,rfl,h1,h2⟩:=r1.tup;refine .inr (.inl ⟨vs,h1,?_⟩);rw[<- Option.some.inj e];cases h2<;>rfl
  |lst xs=>
   obtain⟨p,vs,rfl,h1,h2⟩:=r1.lst R1;refine .inl ⟨vs,.inl (.inl h1),?_⟩;rw[<- Option.some.inj e];cases h2<;>rfl
  |ah _=>cases e
  | raw _=>cases e⟩
theorem lu {op}(h:PE X a (aD K ua)):PE X (.BoolOp op [a] pos) (aD K ua):=K_ h
theorem lx (ha:PE X a (aD K ua))(hb:PE X (.BoolOp .And (b::rest) pos) (aD K ub)):PE X (.BoolOp .And (a::b::rest) pos) (aD K (EA ua ub)):=(K' ha hb).mono λσ H Q ⟨A,P,R,h,c⟩=>
 ⟨A,_,R,h,λx A1 v H1 p1 R1 S1 r1=>by
  obtain⟨k,rfl,p1⟩:=p1;cases r1;refine⟨k,rfl,?_⟩
  cases k with
  |true=>exact nS ⟨A1,P,R1,p1,λb A2 v H2 p2 R2 S2 r2=>c b A2 v H2 p2 R2 (S1.trans S2) r2⟩
  | false=>exact nR (c _ A1 _ H1 p1 R1 S1 (.bl false))⟩
theorem xO (ha:PE X a (aD K ua)):PE X (.UnaryOp .Not a pos) (aD K (EB ua)):=(La ha).mono λσ H Q ⟨A,P,R,h,c⟩=>
 ⟨A,_,R,h,λx A1 v H1 p1 R1 S1 r1=>by
  obtain⟨k,rfl,p1⟩:=p1;cases r1
  exact⟨k,rfl,c _ A1 _ H1 p1 R1 S1 (.bl (!k))⟩⟩
end
noncomputable def put (A:AS)(i:Nat)(s:Sl):AS:={ A with ae:=A.ae.set i (some s) }
noncomputable def forget (A:AS)(i:Nat):AS:={ A with ae:=A.ae.set i none }
structure fo where
 nx:bX
 rt:PV->AS->Prop
 rf:PV->AS->Prop
 bk:bX:=λ_=>False
 ct:bX:=λ_=>False
abbrev US:=fo->AS->Prop
structure sO (K:Frag)(A:AS)(H:Hp)(E:fo)(D:Ends):Prop where
 nx:∀ A1 a7 H1,E.nx A1->Rep K H1 a7 A1->ax A H A1 H1->D.nx a7 H1
 rt:∀ r A1 a7 v H1,E.rt r A1->Rep K H1 a7 A1->ax A H A1 H1->RV K (AN A1) H1 r v->D.rt v H1
 rf:∀ r A1 a7 v H0 H1,E.rf r A1->Rep K H0 a7 A1->ax A H A1 H0->eV K (AN A1) H0 H1 r v->D.rt v H1
 ro:∀(i:Nat)(a:Addr) (c:OC) A1 a7 H1,A1.ae[i]?=some (some (.own a c))->c.Ld->E.rf c.pv (forget A1 i)->Rep K H1 a7 A1->ax A H A1 H1->D.rt (.ref a) H1
 bk:∀ A1 a7 H1,E.bk A1->Rep K H1 a7 A1->ax A H A1 H1->D.bk a7 H1
 ct:∀ A1 a7 H1,E.ct A1->Rep K H1 a7 A1->ax A H A1 H1->D.ct a7 H1
theorem sO.step {K:Frag}{A A1:AS}{H H1:Hp}{E:fo}{D:Ends}(k:sO K A H E D)(s:ax A H A1 H1):sO K A1 H1 E D:=
 ⟨λA2 bu H2 p R t=>k.nx A2 bu H2 p R (s.trans t),λr A2 bu v H2 p R t=>k.rt r A2 bu v H2 p R (s.trans t),λr A2 bu v H0 H2 p R t=>k.rf r A2 bu v H0 H2 p R (s.trans t),λi a c A2 bu H2 hi hl p R t=>k.ro i a c A2 bu H2 hi hl p R (s.trans t),λA2 bu H2 p R t=>k.bk A2 bu H2 p R (s.trans t),λA2 bu H2 p R t=>k.ct A2 bu H2 p R (s.trans t)⟩
def bS (K:Frag)(u:US):TS:=λD σ H=>∃ A E,Rep K H σ A/\u E A/\sO K A H E D
def ED:US:=λE A=>E.nx A
def sP (u w:US):US:=λE A=>u { E with nx:=λA1=>w E A1 } A
def EE (t:UT)(u w:US):US:=λE A=>t A λk A1=>if k=true then u E A1 else w E A1
def xP (i:Nat)(u:UE):US:=λE A=>u A λr A1=>E.nx (put A1 i (.val r))
def xQ (i:Nat)(u:UE):US:=λE A=>u A λr A1=>∃ c:OC,r=c.pv/\∀ p,E.nx (put A1 i (.own p c))
def EF (u:UE):US:=λE A=>u A λ_ A1=>E.nx A1
def EG (u:UE):US:=λE A=>u A λr A1=>E.rt r A1
def EH (u:UE):US:=λE A=>u A λr A1=>E.rf r A1
def xR (i:Nat):US:=λE A=>match A.ae[i]? with
 |some (some (.own _ (.lst xs)))=>E.rf (.lst xs) (forget A i)
 |some (some (.own _ (.ah xs)))=>E.rf (.ah xs) (forget A i)
 |_=>False
section
variable {K:Frag}{H H1:Hp}{σ:St}{A:AS}{i:Nat}
theorem Pg {s:Sl}(hs:∀ a c,s≠.own a c){b:Addr}(h:AN (put A i s) b):AN A b:=by
 rcases h with h|⟨j,c,h⟩
 ·exact .inl h
 ·rcases cg h with ⟨_,z⟩|⟨_,z⟩
  ·exact absurd (Option.some.inj z).symm (hs _ _)
  ·exact .inr ⟨j,c,z⟩
theorem Ph {s:Sl}(hs:∀ a c,s≠.own a c){b:Addr}(h:Own (put A i s).ae b):Own A.ae b:=by
 obtain⟨j,c,h⟩:=h;rcases cg h with ⟨_,z⟩|⟨_,z⟩
 ·exact absurd (Option.some.inj z).symm (hs _ _)
 ·exact⟨j,c,z⟩
theorem Rep.val (R:Rep K H σ A){r:PV}{v:V}(rv:RV K (AN A) H r v):Rep K H (σ.set i (some v)) (put A i (.val r))/\ax A H (put A i (.val r)) H:=by
 have no:∀ a c,Sl.val r≠.own a c:=λ_ _ z=>by cases z
 have kp:eD K (AN A) (AN (put A i (.val r))) H H:=⟨λ_ _ h=>h,λ_ _ n h=>⟨λz=>n (Pg no z),h⟩⟩;refine⟨⟨?_,?_,R.cW,?_,R.st,?_⟩,⟨λ_ _ h _=>h,λb z=>.inl (Ph no z),rfl,λ_ h=>h,rfl⟩⟩
 ·rw[length_set,R.len];exact(length_set ..).symm
 ·intro j s h;rcases cg h with ⟨rfl,z⟩|⟨n,z⟩
  ·cases z;refine⟨v,?_,rv.imp kp⟩
   have:i<A.ae.length:=by
    by_cases hl:i<A.ae.length
    ·exact hl
    ·have h':(A.ae.set i (some (Sl.val r)))[i]?=some (some (.val r)):=h;rw[getElem?_set,if_pos rfl,if_neg hl] at h';cases h'
   rw[getElem?_set,if_pos rfl,if_pos (by rw[R.len];exact this)]
  ·obtain⟨w,e1,q⟩:=R.sl j s z;refine⟨w,by rw[getElem?_set,if_neg n];exact e1,?_⟩
   cases s with
   |val x=>exact q.imp kp
   |own b c=>exact⟨q.1,q.2.1,q.2.2.imp kp λ_ h=>h⟩
   |peek b c=>exact⟨q.1,q.2.1,q.2.2.imp kp λ_ h=>h⟩
 ·intro i1 j1 b c1 c2 h1 h2;rcases cg h1 with ⟨_,z⟩|⟨_,z1⟩
  ·cases z
  ·rcases cg h2 with ⟨_,z⟩|⟨_,z2⟩
   ·cases z
   ·exact R.nd _ _ _ _ _ z1 z2
 ·intro i1 b c1 st h1 h2;rcases cg h1 with ⟨_,z⟩|⟨_,z1⟩
  ·cases z
  ·exact R.pk _ _ _ _ z1 h2
theorem Rep.sQ (R:Rep K H σ A){c':OC}{p:Addr}(hp:H p=none)(s:aQ H H1)(hc:match c' with
  |.lst xs=>∃ vs,H1 p=some (.lst vs)/\aI K (AN A) H xs vs
  |.ah kvs=>∃ ak:bh,H1 p=some (.dK ak)/\bB K (AN A) H kvs (ak.map λkv=>(kV kv.1,kv.2))
  |.ins C dx fs=>∃ ws,H1 p=some (.ins C dx ws)/\Eo K (AN A) H fs ws
  | .bQ kvs=>∃ ws,H1 p=some (.dT ws)/\cA K (AN A) H kvs ws):Rep K H1 (σ.set i (some (.ref p))) (put A i (.own p c'))/\ax A H (put A i (.own p c')) H1:=by
 have np:=R.new hp
 have ow:∀ b,Own (put A i (.own p c')).ae b->Own A.ae b\/b=p:=by
  rintro b ⟨j,c,h⟩;rcases cg h with ⟨_,z⟩|⟨_,z⟩
  ·cases z;exact .inr rfl
  ·exact .inl ⟨j,c,z⟩
 have S:ax A H (put A i (.own p c')) H1:=⟨λa o h _=>s a o h,λb z=>(ow b z).elim .inl λe=>.inr (by rw[e];exact hp),rfl,(ax.same A s).dm,rfl⟩;have kp:=R.keep S
 have oc:fT K (AN (put A i (.own p c'))) H1 p c':=by
  cases c' with
  |lst xs=>obtain⟨vs,h1,h2⟩:=hc;exact⟨vs,h1,h2.imp kp⟩
  |ah xs=>obtain⟨vs,h1,h2⟩:=hc;exact⟨vs,h1,h2.imp kp⟩
  |ins C dx xs=>obtain⟨vs,h1,h2⟩:=hc;exact⟨vs,h1,h2.1,h2.2.imp kp⟩
  |bQ xs=>obtain⟨vs,h1,h2⟩:=hc;exact⟨vs,h1,h2.1,h2.2.imp kp⟩
 have R1:=R.same s;refine⟨⟨?_,?_,R1.cW,?_,R1.st,?_⟩,S⟩
 ·rw[length_set,R.len];exact(length_set ..).symm
 ·intro j t h;rcases cg h with ⟨rfl,z⟩|⟨n,z⟩
  ·cases z;refine⟨.ref p,?_,rfl,λz=>np (.inl z),oc⟩
   have:i<A.ae.length:=by
    by_cases hl:i<A.ae.length
    ·exact hl
    ·have h':(A.ae.set i (some (Sl.own p c')))[i]?=some (some (.own p c')):=h;rw[getElem?_set,if_pos rfl,if_neg hl] at h';cases h'
   rw[getElem?_set,if_pos rfl,if_pos (by rw[R.len];exact this)]
  ·obtain⟨w,e1,q⟩:=R.sl j t z;refine⟨w,by rw[getElem?_set,if_neg n];exact e1,?_⟩
   cases t with
   |val x=>exact q.imp kp
   |own b c=>exact⟨q.1,q.2.1,q.2.2.imp kp λo h=>s b o h⟩
   |peek b c=>exact⟨q.1,q.2.1,q.2.2.imp kp λo h=>s b o h⟩
 ·intro i1 j1 b c1 c2 h1 h2;have EI:∀{j:Nat}{c:OC},A.ae[j]?=some (some (.own p c))->False:=λh=>np (.inr ⟨_,_,h⟩);rcases cg h1 with ⟨e1,z1⟩|⟨_,z1⟩
  ·cases z1;rcases cg h2 with ⟨e2,z2⟩|⟨_,z2⟩
   ·exact e1.symm.trans e2
   ·exact(EI z2).elim
  ·rcases cg h2 with ⟨_,z2⟩|⟨_,z2⟩
   ·cases z2;exact(EI z1).elim
   ·exact R.nd _ _ _ _ _ z1 z2
 ·intro i1 b c1 st h1 h2;rcases cg h1 with ⟨_,z⟩|⟨_,z1⟩
  ·cases z
  ·exact R.pk _ _ _ _ z1 h2
theorem Rep.fresh (R:Rep K H σ A){c:OC}{v:V}(f:eV K (AN A) H H1 c.pv v):∃ p,v=.ref p/\Rep K H1 (σ.set i (some v)) (put A i (.own p c))/\ax A H (put A i (.own p c)) H1:=by
 obtain⟨p,c',e,rfl,hp,s,hc⟩:=f
 cases c' with
 |lst xs=>
  have ec:OC.lst xs=c:=by cases c<;>cases e<;>rfl
  subst ec;exact⟨p,rfl,R.sQ hp s hc⟩
 |ah xs=>
  have ec:OC.ah xs=c:=by cases c<;>cases e<;>rfl
  subst ec;exact⟨p,rfl,R.sQ hp s hc⟩
 |ins _ _ _=>exact hc.elim
 |bQ _=>exact hc.elim
theorem Rep.turn (R:Rep K H σ A){a:Addr}{xs ys:af}{vs:Zv}(hi:A.ae[i]?=some (some (.own a (.lst xs))))(r:aI K (AN A) H ys vs):Rep K (upd H a (.lst vs)) σ (put A i (.own a (.lst ys)))/\ax A H (put A i (.own a (.lst ys))) (upd H a (.lst vs)):=by
 obtain⟨v,ev,rfl,nb,us,ha,_⟩:=R.sl i _ hi
 have ow:∀ b,Own (put A i (.own a (.lst ys))).ae b->Own A.ae b:=by
  rintro b ⟨j,c,h⟩;rcases cg h with ⟨_,z⟩|⟨_,z⟩
  ·cases z;exact⟨i,_,hi⟩
  ·exact⟨j,c,z⟩
 have dm:∀ b,H b≠none->upd H a (.lst vs) b≠none:=λb h=>by
  by_cases e:b=a
  ·subst e;rw[aZ];intro z;cases z
  ·rw[aB e];exact h
 have S:ax A H (put A i (.own a (.lst ys))) (upd H a (.lst vs)):=⟨λb o h m=>by
  rw[aB λe=>m (.inl ⟨i,_,by rw[e];exact hi⟩)];exact h,λb z=>.inl (ow b z),rfl,dm,rfl⟩
 have kp:=R.keep S;refine⟨⟨?_,?_,λb h=>dm b (R.cW b h),?_,?_,?_⟩,S⟩
 ·rw[R.len];exact(length_set ..).symm
 ·intro j t h;rcases cg h with ⟨rfl,z⟩|⟨n,z⟩
  ·cases z;exact⟨_,ev,rfl,nb,vs,aZ,r.imp kp⟩
  ·obtain⟨w,e1,q⟩:=R.sl j t z;refine⟨w,e1,?_⟩
   cases t with
   |val x=>exact q.imp kp
   |own b c=>
    have i3:b≠a:=λe=>n (by subst e;exact R.nd _ _ _ _ _ hi z);exact⟨q.1,q.2.1,q.2.2.imp kp λo h=>by rw[aB i3];exact h⟩
   |peek b c=>
    have i3:b≠a:=λe=>nb (by subst e;exact q.2.1);exact⟨q.1,q.2.1,q.2.2.imp kp λo h=>by rw[aB i3];exact h⟩
 ·intro i1 j1 b c1 c2 h1 h2;rcases cg h1 with ⟨e1,z1⟩|⟨_,z1⟩
  ·cases z1;rcases cg h2 with ⟨e2,z2⟩|⟨_,z2⟩
   ·exact e1.symm.trans e2
   ·exact e1.symm.trans (R.nd _ _ _ _ _ hi z2)
  ·rcases cg h2 with ⟨e2,z2⟩|⟨_,z2⟩
   ·cases z2;exact(R.nd _ _ _ _ _ z1 hi).trans e2
   ·exact R.nd _ _ _ _ _ z1 z2
 ·intro st h;obtain⟨h1,h2,h3⟩:=R.st st h;have nd:a≠st.d:=λe=>nb (by rw[e];exact h1);refine⟨h1,h2.upd nd (λps z=>by rw[ha] at z;cases z),?_⟩
  exact h3.jn λo u h3=>by
   rw[aB λe=>by rw[e,ha] at h3;cases h3];exact h3
 ·intro i1 b c1 st h1 h2;rcases cg h1 with ⟨_,z⟩|⟨_,z1⟩
  ·cases z
  ·exact R.pk _ _ _ _ z1 h2
end
section
variable {X:Cx}{K:Frag}{st:Stmt}{rest sa sb:List Stmt}{u w:US}{e c:Expr}{ue:UE}{t:UT}{pos:Pos}
theorem sn:cn X [] (bS K ED):=rL.mono λD σ H ⟨A,E,R,h,k⟩=>k.nx A σ H h R (ax.refl A H)
theorem sc (h1:PS X st (bS K u))(h2:cn X rest (bS K w)):cn X (st::rest) (bS K (sP u w)):=(dP h1 h2).mono λD σ H ⟨A,E,R,h,k⟩=>
 ⟨A,{ E with nx:=λA1=>w E A1 },R,h,⟨λA1 a7 H1 p R1 S1=>⟨A1,E,R1,p,k.step S1⟩,k.rt,k.rf,k.ro,k.bk,k.ct⟩⟩
theorem s1 (h1:PS X st (bS K u)):cn X [st] (bS K u):=ji h1
theorem bW (hc:PT X c (liftT K t))(ha:cn X sa (bS K u))(hb:cn X sb (bS K w)):PS X (.If c sa sb pos) (bS K (EE t u w)):=(rM hc ha hb).mono λD σ H ⟨A,E,R,h,k⟩=>
 ⟨A,_,R,h,λb A1 H1 p R1 S1=>by
  cases b with
  |true=>exact nS ⟨A1,E,R1,p,k.step S1⟩
  | false=>exact nR ⟨A1,E,R1,p,k.step S1⟩⟩
theorem bI {i:Nat}{x:Str}{pos':Pos}(hN:X.N.Nodup)(he:PE X e (aD K ue))(hi:X.N[i]?=some x:=by rfl)(hx:Loc X.env.scope x:=by first|exact Or.inl rfl|exact Or.inr rfl)(hs:swapsWith e (some (.Name x pos')) pos.line X.env=pure false:=by rfl)
  (hf:X.fn x=true\/X.env.scope.names.lookup x=some .local:=by first|exact .inl rfl|exact .inr rfl|assumption):PS X (.Assign [.Name x pos'] e pos) (bS K (xP i ue)):=(fL hN hi hx he hs hf).mono λD σ H ⟨A,E,R,h,k⟩=>
 ⟨A,_,R,h,λr A1 v H1 p R1 S1 rv=>k.nx _ _ H1 p (R1.val rv).1 (S1.trans (R1.val rv).2)⟩
theorem gP {i:Nat}{x:Str}{pos':Pos}(hN:X.N.Nodup)(he:PE X e (fU K ue))(hi:X.N[i]?=some x:=by rfl)(hx:Loc X.env.scope x:=by first|exact Or.inl rfl|exact Or.inr rfl)(hs:swapsWith e (some (.Name x pos')) pos.line X.env=pure false:=by rfl)
  (hf:X.fn x=true\/X.env.scope.names.lookup x=some .local:=by first|exact .inl rfl|exact .inr rfl|assumption):PS X (.Assign [.Name x pos'] e pos) (bS K (xQ i ue)):=(fL hN hi hx he hs hf).mono λD σ H ⟨A,E,R,h,k⟩=>
 ⟨A,_,R,h,λr A1 v H0 H1 p R1 S1 f=>by
  obtain⟨c,rfl,p⟩:=p;obtain⟨q,rfl,R2,S2⟩:=R1.fresh (i:=i) f
  exact k.nx _ _ H1 (p q) R2 (S1.trans S2)⟩
theorem gk (he:PE X e (aD K ue))(hs:swapsWith e none pos.line X.env=pure false:=by rfl):PS X (.Expr e pos) (bS K (EF ue)):=(Bf he hs).mono λD σ H ⟨A,E,R,h,k⟩=>
 ⟨A,_,R,h,λr A1 v H1 p R1 S1 rv=>k.nx _ _ H1 p R1 S1⟩
theorem bx (he:PE X e (aD K ue)):PS X (.Return (some e) pos) (bS K (EG ue)):=(kM he).mono λD σ H ⟨A,E,R,h,k⟩=>
 ⟨A,_,R,h,λr A1 v H1 p R1 S1 rv=>k.rt r A1 σ v H1 p R1 S1 rv⟩
theorem sR (he:PE X e (fU K ue)):PS X (.Return (some e) pos) (bS K (EH ue)):=(kM he).mono λD σ H ⟨A,E,R,h,k⟩=>
 ⟨A,_,R,h,λr A1 v H0 H1 p R1 S1 f=>k.rf r A1 σ v H0 H1 p R1 S1 f⟩
theorem EJ {i:Nat}{x:Str}{pos':Pos}(hN:X.N[i]?=some x:=by rfl)(hv:di X.env.scope x:=by walk_at "v")(hd:(x==("__debug__":Str))=false:=by decide)
  (bA:(x==("__classdict__":Str))=false:=by decide):PS X (.Return (some (.Name x pos')) pos) (bS K (xR i)):=(kM (dO hN hv hd bA)).mono λD σ H ⟨A,E,R,h,k⟩=>by
 unfold xR at h
 split at h
 ·rename_i a cc hx;obtain⟨v,e,rfl,_⟩:=R.sl i _ hx;exact⟨_,e,k.ro i a (.lst cc) A σ H hx trivial h R (ax.refl A H)⟩
 ·rename_i a cc hx;obtain⟨v,e,rfl,_⟩:=R.sl i _ hx;exact⟨_,e,k.ro i a (.ah cc) A σ H hx trivial h R (ax.refl A H)⟩
 ·exact h.elim
end
abbrev UI:=AS->(af->(bX)->AS->Prop)->Prop
abbrev UG:=PV->AS->(bX)->Prop
abbrev mK:=af->AS->(bX)->Prop
def jq (S:Option az)(H H1:Hp):Prop:=∀ b o,H b=some o->(¬ ∃ st,S=some st/\st.d=b)->H1 b=some o
structure gn (K:Frag)(A:AS)(H:Hp)(J:It)(xs:af)(C:bX):Prop where
 go:∀ bu A2 H2,Rep K H2 bu A2->ax A H A2 H2->C A2->∀ i x,xs[i]?=some x->J.go i H2/\∀ v H',J.eo i H2 v H'->aQ H2 H'/\RV K (AN A2) H' x v
 stop:∀ bu A2 H2,Rep K H2 bu A2->ax A H A2 H2->C A2->J.stop xs.length H2
 cm:∀ H2,jq A.S H H2->(∀ i x,xs[i]?=some x->J.go i H2/\∀ v H',J.eo i H2 v H'->aQ H2 H'/\RV K (λa=>AN A a\/H a=none) H' x v)/\J.stop xs.length H2
def gQ (K:Frag)(u:UI):TI:=λσ H R=>∃ A P,Rep K H σ A/\u A P/\∀ xs C A1 J H1,P xs C A1->Rep K H1 σ A1->ax A H A1 H1->gn K A1 H1 J xs C->R J H1
def ly (K:Frag)(g:UG):TG:=λv σ H Q=>∃ x A P,Rep K H σ A/\RV K (AN A) H x v/\g x A P/\∀ A1 a7,P A1->Rep K H a7 A1->ax A H A1 H->Q a7 H
def sS (K:Frag)(g:mK):jN:=λvs σ H Q=>∃ xs A P,Rep K H σ A/\aI K (AN A) H xs vs/\g xs A P/\∀ A1 a7,P A1->Rep K H a7 A1->ax A H A1 H->Q a7 H
theorem PG.mono {X:Cx}{e:Expr}{t t':TG}(h:PG X e t)(f:∀ v σ H Q,t' v σ H Q->t v σ H Q):PG X e t':=λpins s σ H v u Q I r w=>h pins s σ H v u Q I r (f _ _ _ _ w)
theorem iN.mono {X:Cx}{e:List Expr}{t t':jN}(h:iN X e t)(f:∀ v σ H Q,t' v σ H Q->t v σ H Q):iN X e t':=λpins s σ H v u Q I r w=>h pins s σ H v u Q I r (f _ _ _ _ w)
def gN (i:Nat):UG:=λx A Q=>Q (put A i (.val x))
def gT (n:Nat)(g:mK):UG:=λx A Q=>∃ xs,x=.tup xs/\xs.length=n/\g xs A Q
def xS:mK:=λxs A Q=>xs=[]/\Q A
def xT (g:UG)(gs:mK):mK:=λxs A Q=>∃ x r,xs=x::r/\g x A λA1=>gs r A1 Q
section
variable {X:Cx}{K:Frag}{e tg:Expr}{es:List Expr}{g:UG}{gs:mK}{pos:Pos}
theorem aE {i:Nat}{x:Str}(hN:X.N.Nodup)(hi:X.N[i]?=some x:=by rfl)(hx:Loc X.env.scope x:=by first|exact Or.inl rfl|exact Or.inr rfl)(hf:X.fn x=true\/X.env.scope.names.lookup x=some .local:=by first|exact .inl rfl|exact .inr rfl|assumption):PG X (.Name x pos) (ly K (gN i)):=
 (Bi hN hi hx hf).mono λv σ H Q ⟨x,A,P,R,rv,h,c⟩=>c _ _ h (R.val rv).1 (R.val rv).2
theorem eG:iN X [] (sS K xS):=Lk.mono λv σ H Q ⟨xs,A,P,R,rv,⟨e,h⟩,c⟩=>by
 subst e;cases rv;exact⟨rfl,c A σ h R (ax.refl A H)⟩
theorem bJ (h1:PG X e (ly K g))(h2:iN X es (sS K gs))(hs:(assignEach (e::es) X.env).map (·.2)=assign e X.env::(assignEach es X.env).map (·.2):=by rfl):iN X (e::es) (sS K (xT g gs)):=
 (Ll h1 h2 hs).mono λv σ H Q ⟨xs,A,P,R,rv,⟨x,r,e,h⟩,c⟩=>by
  subst e
  cases rv with
  |cons r1 r2=>exact⟨_,_,rfl,x,A,_,R,r1,h,λA1 a7 p R1 S1=>⟨r,A1,P,R1,r2.imp (R.keep S1),p,λA2 bu p2 R2 S2=>c A2 bu p2 R2 (S1.trans S2)⟩⟩
theorem eI {k n:Nat}(hK:X.K=K)(hc:X.calm=true)(h:iN X es (sS K gs))(hn:(assignEach es X.env).length=n:=by rfl)(c9:(assignEach es X.env).findIdx? (·.1)=none:=by rfl):PG X (.Tuple es k pos) (ly K (gT n gs)):=by
 subst hK
 exact(Ln hc h hn c9).mono λv σ H Q ⟨x,A,P,R,rv,⟨xs,e,l,h⟩,c⟩=>by
  subst e
  cases rv with
  |tup h1 h2=>exact⟨_,_,rfl,h1,by rw[<- h2.len];exact l,xs,A,P,R,h2,h,c⟩
end
def Pj (K:Frag)(tl:TE):TI:=λσ H R=>tl σ H λx H1=>(∃ a,x=.ref a/\(∃ xs,aC K H1 a xs)/\R (ma K a) H1)\/(∃ a,x=.ref a/\(∃ xs,aS K H1 a xs)/\R (vE K a) H1)\/(∃ z,x=.str z/\z.cps.all (·<128)=true/\R (v9 z) H1)\/∃ a od kvs,x=.ref a/\H1 a=some (.aY od (.dK kvs))/\R (nZ a od) H1
theorem EK {X:Cx}{tg l:Expr}{tl:TE}(hl:PE X l tl):PI X tg l (Pj X.K tl):=by
 intro pins s σ H R I h;refine aH (hl pins s σ H _ I h) λv s1 ⟨x,H1,I1,r1,q1⟩=>?_;rcases q1 with ⟨a,e,⟨xs,hq⟩,q⟩|⟨a,e,⟨xs,hq⟩,q⟩|⟨z,e,ha,q⟩|⟨a,od,kvs,e,hq,q⟩
 ·subst e;cases r1;obtain⟨its,rv,p,hz⟩:=I1.list hq;refine wpAny_pyIter_list p.isList ?_;refine⟨s1.heap.objs.size,[s1.heap.objs.size],_,_,H1,rfl,I1.kept (t':=s1.toks) λb o e=>aX _ e,Ls a _,⟨_,cI _ rfl,rfl,rfl⟩,λb hb=>?_,q⟩;have e:b=s1.heap.objs.size:=by simpa using hb
  subst e;exact I1.il (aG _) (I1.aw.fresh (aG _))
 ·subst e;cases r1;obtain⟨its,rv,p,hz⟩:=I1.tuple hq;refine wpAny_pyIter_tuple (show s1.heap.IsTuple a its.toArray from p) ?_;refine⟨s1.heap.objs.size,[s1.heap.objs.size],_,_,H1,rfl,I1.kept (t':=s1.toks) λb o e=>aX _ e,Lu a _,⟨_,cI _ rfl,rfl,rfl⟩,λb hb=>?_,q⟩;have e:b=s1.heap.objs.size:=by simpa using hb
  subst e;exact I1.il (aG _) (I1.aw.fresh (aG _))
 ·subst e;obtain⟨t,rfl⟩:=r1;refine wpAny_pyIter_ascii ha ?_;refine⟨s1.heap.objs.size,[s1.heap.objs.size],_,_,H1,rfl,I1.kept (t':=s1.toks) λb o e=>aX _ e,NA _ z t,⟨_,cI _ rfl,rfl,rfl⟩,λb hb=>?_,q⟩;have e:b=s1.heap.objs.size:=by simpa using hb
  subst e;exact I1.il (aG _) (I1.aw.fresh (aG _))
 ·subst e;cases r1;obtain⟨⟨e,_⟩,z,n,vs,r,ob,es,ep,e',c,d,q1,q2,q3⟩:=id (I1.aw a _ hq);rw[e] at e';cases e';have hsz:es.size=vs.length:=by rw[<- q2.length];simp
  refine wpAny_pyIter_dict (knd:=ck X.prog X.w) (kvs:=vs) (ep:=ep) n ⟨od,es,e,c,d,q1,q2,q3⟩ ?_;refine⟨s1.heap.objs.size,[s1.heap.objs.size],_,_,H1,rfl,I1.kept (t':=s1.toks) λb o e=>aX _ e,O9 a _ od es ep d,⟨_,cI _ rfl,rfl,by rw[hsz];rfl⟩,λb hb=>?_,q⟩;have e:b=s1.heap.objs.size:=by simpa using hb
  subst e;exact I1.il (aG _) (I1.aw.fresh (aG _))
noncomputable def signs (z:Str):af:=z.cps.toList.map λc=>PV.str ⟨#[c]⟩
def xU:PV->(af->Prop)->Prop
 |.lst xs,P=>P xs
 |.tup xs,P=>P xs
 |.str z,P=>z.cps.all (·<128)=true/\P (signs z)
 |.ah kvs,P=>P (kvs.map Prod.fst)
 |_,_=>False
def EL (ue:UE):UI:=λA P=>ue A λx A1=>xU x λxs=>P xs (λ_=>True) A1
def qi:Option (Option Sl)->Nat->AS->(af->(bX)->AS->Prop)->Prop
 |some (some (.val x)),_,A,P=>xU x λxs=>P xs (λ_=>True) A
 |some (some (.own a (.lst xs))),i,A,P=>P xs (λA2=>A2.ae[i]?=some (some (.own a (.lst xs)))) A
 |some (some (.peek a (.lst xs))),i,A,P=>P xs (λA2=>A2.ae[i]?=some (some (.peek a (.lst xs)))) A
 |_,_,_,_=>False
def EM (i:Nat):UI:=λA P=>qi A.ae[i]? i A P
def EN (ue:UE):UI:=λA P=>ue A λx A1=>∃ n:Int,x=.int n/\n<=1000000000 /\ -1000000000<=n/\P ((range n.toNat).map fun(k:Nat)=>PV.int k) (λ_=>True) A1
section
variable {X:Cx}{K:Frag}{e e2 tg:Expr}{pos p:Pos}{ue uf:UE}
theorem Rep.EO {A:AS}{H:Hp}{σ:St}(R:Rep K H σ A){a:Addr}(n:¬ AN A a):¬ ∃ st,A.S=some st/\st.d=a:=by
 rintro⟨st,h,rfl⟩;exact n (.inl (R.st st h).1)
theorem Rep.fV {A:AS}{H H2:Hp}{σ:St}(R:Rep K H σ A)(b:jq A.S H H2):eD K (AN A) (λa=>AN A a\/H a=none) H H2:=by
 refine⟨λa vs h=>?_,λa o n h=>⟨λz=>z.elim n (fF h),b a o h (R.EO n)⟩⟩;rcases h with h|h
 ·refine .inl (Ep (n:=∃ st,A.S=some st/\st.d=a) (λo e m=>b a o e m) ?_ h);rintro⟨st,h1,rfl⟩;obtain⟨kvs,e⟩:=(R.st st h1).2.1.dk;rcases h with h|⟨o,h⟩<;>(rw[e] at h;cases h)
 ·exact .inr h
theorem ER {A:AS}{H H2:Hp}{σ:St}{a:Addr}{xs:af}{vs:Zv}(R:Rep K H σ A)(b:jq A.S H H2)(h1:H2 a=some (.lst vs))(h2:aI K (AN A) H xs vs) :
  (∀ i x,xs[i]?=some x->(ma K a).go i H2/\∀ v H',(ma K a).eo i H2 v H'->aQ H2 H'/\RV K (λa=>AN A a\/H a=none) H' x v)/\(ma K a).stop xs.length H2:=by
 refine⟨λi x hx=>?_,⟨_,aC.of h1,by rw[h2.len];exact aG _⟩⟩;obtain⟨v,hv,rv⟩:=h2.at hx;refine⟨⟨_,v,aC.of h1,hv⟩,λv' H' y=>?_⟩;obtain⟨rfl,y⟩:=y;have:=y _ (aC.of h1);rw[hv] at this;cases this;exact⟨aQ.refl _,rv.imp (R.fV b)⟩
theorem ES {A:AS}{H:Hp}{σ:St}{a:Addr}{xs:af}(R:Rep K H σ A)(h:RV K (AN A) H (.lst xs) (.ref a)):gn K A H (ma K a) xs λ_=>True where
 go:=λbu A2 H2 R2 S2 _ i x hx=>by
  cases h.imp (R.keep S2) with
  |lst n h1 h2=>
   obtain⟨v,hv,rv⟩:=h2.at hx;refine⟨⟨_,v,aC.of h1,hv⟩,λv' H' y=>?_⟩;obtain⟨rfl,y⟩:=y;have:=y _ (aC.of h1);rw[hv] at this;cases this;exact⟨aQ.refl _,rv⟩
 stop:=λbu A2 H2 R2 S2 _=>by
  cases h.imp (R.keep S2) with
  |lst n h1 h2=>exact⟨_,aC.of h1,by rw[h2.len];exact aG _⟩
 cm:=λH2 b=>by
  cases h with
  |lst n h1 h2=>exact ER R b (b a _ h1 (R.EO n)) h2
theorem ET {A:AS}{H:Hp}{σ:St}{a:Addr}{xs:af}(R:Rep K H σ A)(h:RV K (AN A) H (.tup xs) (.ref a)):gn K A H (vE K a) xs λ_=>True where
 go:=λbu A2 H2 R2 S2 _ i x hx=>by
  cases h.imp (R.keep S2) with
  |tup h1 h2=>
   obtain⟨v,hv,rv⟩:=h2.at hx;refine⟨⟨_,v,h1,hv⟩,λv' H' y=>?_⟩;obtain⟨rfl,y⟩:=y;have:=y _ h1;rw[hv] at this;cases this;exact⟨aQ.refl _,rv⟩
 stop:=λbu A2 H2 R2 S2 _=>by
  cases h.imp (R.keep S2) with
  |tup h1 h2=>exact⟨_,h1,by rw[h2.len];exact aG _⟩
 cm:=λH2 b=>by
  cases h with
  |tup h1 h2=>
   have kZ:=(R.fV b).t _ _ h1;refine⟨λi x hx=>?_,⟨_,kZ,by rw[h2.len];exact aG _⟩⟩;obtain⟨v,hv,rv⟩:=h2.at hx;refine⟨⟨_,v,kZ,hv⟩,λv' H' y=>?_⟩;obtain⟨rfl,y⟩:=y;have:=y _ kZ;rw[hv] at this;cases this;exact⟨aQ.refl _,rv.imp (R.fV b)⟩
theorem EU {A:AS}{H:Hp}{σ:St}{a:Addr}{xs:af}{i:Nat}{s:Sl}(R:Rep K H σ A)(hA:A.ae[i]?=some (some s))(hs:s=.own a (.lst xs)\/s=.peek a (.lst xs)):gn K A H (ma K a) xs λA2=>A2.ae[i]?=some (some s) where
 go:=λbu A2 H2 R2 S2 hc i x hx=>by
  obtain⟨w,_,o⟩:=R2.sl _ _ hc;have o':fT K (AN A2) H2 a (.lst xs):=by rcases hs with rfl|rfl<;>exact o.2.2
  obtain⟨vs,h1,h2⟩:=o';obtain⟨v,hv,rv⟩:=h2.at hx;refine⟨⟨_,v,aC.of h1,hv⟩,λv' H' y=>?_⟩;obtain⟨rfl,y⟩:=y;have:=y _ (aC.of h1);rw[hv] at this;cases this;exact⟨aQ.refl _,rv⟩
 stop:=λbu A2 H2 R2 S2 hc=>by
  obtain⟨w,_,o⟩:=R2.sl _ _ hc;have o':fT K (AN A2) H2 a (.lst xs):=by rcases hs with rfl|rfl<;>exact o.2.2
  obtain⟨vs,h1,h2⟩:=o';exact⟨_,aC.of h1,by rw[h2.len];exact aG _⟩
 cm:=λH2 b=>by
  obtain⟨w,_,o⟩:=R.sl _ _ hA
  have nd:¬ ∃ st,A.S=some st/\st.d=a:=by
   rintro⟨st,h,rfl⟩;rcases hs with rfl|rfl
   ·exact o.2.1 (R.st st h).1
   ·exact R.pk _ _ _ st hA h rfl
  have o':fT K (AN A) H a (.lst xs):=by rcases hs with rfl|rfl<;>exact o.2.2
  obtain⟨vs,h1,h2⟩:=o';exact ER R b (b a _ h1 nd) h2
theorem bB.at {N:Addr->Prop}{H:Hp}{xs:aN}{vs:List (V×V)}(h:bB K N H xs vs){i:Nat}{x:PV}(e:(xs.map Prod.fst)[i]?=some x):∃ v,vs[i]?=some v/\RV K N H x v.1:=by
 induction vs generalizing xs i with
 |nil=>cases h;simp at e
 |cons v vs ih=>
  cases h with
  |cons h1 h2 h3=>
   cases i with
   |zero=>simp at e;subst e;exact⟨_,rfl,h1⟩
   |succ i=>exact ih h3 (by simpa using e)
theorem bB.len0 {N:Addr->Prop}{H:Hp}{xs:aN}{vs:List (V×V)}(h:bB K N H xs vs):xs.length=vs.length:=by
 induction vs generalizing xs with
 |nil=>cases h;rfl
 |cons v vs ih=>cases h with|cons h1 h2 h3=>rw[length_cons,length_cons,ih h3]
theorem xV {N:Addr->Prop}{H2:Hp}{a:Addr}{od:Obj}{kvs:aN}{ak:bh}(h1:H2 a=some (.aY od (.dK ak)))(h2:bB K N H2 kvs (ak.map λkv=>(kV kv.1,kv.2))) :
  (∀ i x,(kvs.map Prod.fst)[i]?=some x->(nZ a od).go i H2/\∀ v H',(nZ a od).eo i H2 v H'->aQ H2 H'/\RV K N H' x v)/\(nZ a od).stop (kvs.map Prod.fst).length H2:=by
 have l:=h2.len0;rw[length_map] at l;refine⟨λi x hx=>?_,⟨ak,h1,by rw[length_map,l];exact aG _⟩⟩;obtain⟨v,hv,rv⟩:=h2.at hx;rw[getElem?_map] at hv;obtain⟨kv,dW,rfl⟩:=Option.map_eq_some_iff.mp hv;refine⟨⟨ak,kv,h1,dW⟩,λv' H' y=>?_⟩;obtain⟨rfl,y⟩:=y;obtain⟨Pk,e1,rfl⟩:=y ak h1;rw[dW] at e1;cases e1;exact⟨aQ.refl _,rv⟩
theorem EV {A:AS}{H:Hp}{σ:St}{a:Addr}{od:Obj}{kvs:aN}{ak:bh}(R:Rep K H σ A)(n:¬ AN A a)(h1:H a=some (.aY od (.dK ak)))(h2:bB K (AN A) H kvs (ak.map λkv=>(kV kv.1,kv.2))):gn K A H (nZ a od) (kvs.map Prod.fst) λ_=>True where
 go:=λbu A2 H2 R2 S2 _ i x hx=>by
  have k:=R.keep S2;exact(xV (k.l _ _ n h1).2 (h2.imp k)).1 i x hx
 stop:=λbu A2 H2 R2 S2 _=>by
  have k:=R.keep S2;exact(xV (k.l _ _ n h1).2 (h2.imp k)).2
 cm:=λH2 b=>by
  have k:=R.fV b;have z:=xV (N:=λa=>AN A a\/H a=none) (k.l _ _ n h1).2 (h2.imp k);exact z
theorem EW {A:AS}{H:Hp}{z:Str}:gn K A H (v9 z) (signs z) λ_=>True where
 go:=λbu A2 H2 R2 S2 _ i x hx=>by
  unfold signs at hx;rw[getElem?_map] at hx;obtain⟨c,hc,rfl⟩:=Option.map_eq_some_iff.mp hx;have aM:z.cps[i]?=some c:=by simpa using hc
  refine⟨?_,?_⟩
  ·show i<z.cps.size;rcases Nat.lt_or_ge i z.cps.size with q|q
   ·exact q
   ·rw[Array.getElem?_eq_none q] at aM;cases aM
  ·rintro v H' ⟨rfl,c',h1,rfl⟩;rw[aM] at h1;cases h1;exact⟨aQ.refl _,.str _⟩
 stop:=λbu A2 H2 R2 S2 _=>by
  show z.cps.size<=_;unfold signs;simp
 cm:=λH2 b=>⟨λi x hx=>by
  unfold signs at hx;rw[getElem?_map] at hx;obtain⟨c,hc,rfl⟩:=Option.map_eq_some_iff.mp hx;have aM:z.cps[i]?=some c:=by simpa using hc
  refine⟨?_,?_⟩
  ·show i<z.cps.size;rcases Nat.lt_or_ge i z.cps.size with q|q
   ·exact q
   ·rw[Array.getElem?_eq_none q] at aM;cases aM
  ·rintro v H' ⟨rfl,c',h1,rfl⟩;rw[aM] at h1;cases h1
   exact⟨aQ.refl _,.str _⟩,by
  show z.cps.size<=_;unfold signs
  simp⟩
theorem Pl {A:AS}{H:Hp}{lo:Int}{n:Nat}:gn K A H (md lo n) ((range n).map fun(k:Nat)=>PV.int (lo+k)) λ_=>True where
 go:=λbu A2 H2 R2 S2 _ i x hx=>by
  rw[getElem?_map] at hx;obtain⟨c,hc,rfl⟩:=Option.map_eq_some_iff.mp hx;obtain⟨hi,e⟩:=b8 hc;have e':i=c:=by simpa using e
  subst e';refine⟨(by simpa using hi:i<n),?_⟩;rintro v H' ⟨rfl,rfl⟩;exact⟨aQ.refl _,.int _⟩
 stop:=λbu A2 H2 R2 S2 _=>by
  show n<=_;simp
 cm:=λH2 b=>⟨λi x hx=>by
  rw[getElem?_map] at hx;obtain⟨c,hc,rfl⟩:=Option.map_eq_some_iff.mp hx;obtain⟨hi,e⟩:=b8 hc;have e':i=c:=by simpa using e
  subst e';refine⟨(by simpa using hi:i<n),?_⟩;rintro v H' ⟨rfl,rfl⟩
  exact⟨aQ.refl _,.int _⟩,by
  show n<=_
  simp⟩
theorem iv (hK:X.K=K)(h:PE X e (aD K ue)):PI X tg e (gQ K (EL ue)):=by
 subst hK;refine(EK h).mono λσ H Q ⟨A,P,R,h,c⟩=>⟨A,_,R,h,λx A1 v H1 p R1 S1 rv=>?_⟩
 cases x with
 |lst xs=>cases rv with|lst n h1 h2=>exact .inl ⟨_,rfl,⟨_,aC.of h1⟩,c xs _ A1 _ H1 p R1 S1 (ES R1 (.lst n h1 h2))⟩
 |tup xs=>cases rv with|tup h1 h2=>exact .inr (.inl ⟨_,rfl,⟨_,h1⟩,c xs _ A1 _ H1 p R1 S1 (ET R1 (.tup h1 h2))⟩)
 |str z=>cases rv;exact .inr (.inr (.inl ⟨z,rfl,p.1,c _ _ A1 _ H1 p.2 R1 S1 EW⟩))
 |ah kvs=>
  cases rv with
  |ah n hD h2=>
   obtain⟨ak,od,h1,rfl⟩:=hD;exact .inr (.inr (.inr ⟨_,od,ak,rfl,h1,c _ _ A1 _ H1 p R1 S1 (EV R1 n h1 h2)⟩))
 |_=>exact p.elim
theorem dn (hK:X.K=K)(i:Nat){x:Str}(hN:X.N[i]?=some x:=by rfl)(hv:di X.env.scope x:=by walk_at "v")(hd:(x==("__debug__":Str))=false:=by decide)
  (bA:(x==("__classdict__":Str))=false:=by decide):PI X tg (.Name x pos) (gQ K (EM i)):=by
 subst hK;refine(EK (dO hN hv hd bA)).mono λσ H Q ⟨A,P,R,h,c⟩=>?_;have h':qi A.ae[i]? i A P:=h
 cases hx:A.ae[i]? with
 |none=>rw[hx] at h';exact h'.elim
 |some o=>
  cases o with
  |none=>rw[hx] at h';exact h'.elim
  |some s=>
   rw[hx] at h'
   cases s with
   |val x=>
    obtain⟨v,e,q⟩:=R.sl i _ hx
    cases x with
    |lst xs=>cases (show RV X.K (AN A) H (.lst xs) v from q) with|lst n h1 h2=>exact⟨_,e,.inl ⟨_,rfl,⟨_,aC.of h1⟩,c xs _ A _ H h' R (ax.refl A H) (ES R (.lst n h1 h2))⟩⟩
    |tup xs=>cases (show RV X.K (AN A) H (.tup xs) v from q) with|tup h1 h2=>exact⟨_,e,.inr (.inl ⟨_,rfl,⟨_,h1⟩,c xs _ A _ H h' R (ax.refl A H) (ET R (.tup h1 h2))⟩)⟩
    |str z=>
     cases (show RV X.K (AN A) H (.str z) v from q);exact⟨_,e,.inr (.inr (.inl ⟨z,rfl,h'.1,c _ _ A _ H h'.2 R (ax.refl A H) EW⟩))⟩
    |ah kvs=>
     cases (show RV X.K (AN A) H (.ah kvs) v from q) with
     |ah n hD h2=>
      obtain⟨ak,od,h1,rfl⟩:=hD;exact⟨_,e,.inr (.inr (.inr ⟨_,od,ak,rfl,h1,c _ _ A _ H h' R (ax.refl A H) (EV R n h1 h2)⟩))⟩
    |_=>exact h'.elim
   |own a oc=>
    cases oc with
    |lst xs=>
     obtain⟨v,e,rfl,_,vs,h1,h2⟩:=R.sl i _ hx;exact⟨_,e,.inl ⟨_,rfl,⟨_,aC.of h1⟩,c xs _ A _ H h' R (ax.refl A H) (EU R hx (.inl rfl))⟩⟩
    |ah _=>exact h'.elim
    |ins _ _ _=>exact h'.elim
    |bQ _=>exact h'.elim
   |peek a oc=>
    cases oc with
    |lst xs=>
     obtain⟨v,e,rfl,_,vs,h1,h2⟩:=R.sl i _ hx;exact⟨_,e,.inl ⟨_,rfl,⟨_,aC.of h1⟩,c xs _ A _ H h' R (ax.refl A H) (EU R hx (.inr rfl))⟩⟩
    |ah _=>exact h'.elim
    |ins _ _ _=>exact h'.elim
    |bQ _=>exact h'.elim
theorem j0 (hg:Gl X "range")(hm:X.mg "range"=none)(h:PE X e (aD K ue))(hs:starEach [e] X.env=[(false,eval e X.env)]:=by rfl):PI X tg (.Call (.Name "range" p) [e] [] pos) (gQ K (EN ue)):=by
 refine(Bm hg hm (bO h cq hs) hs).mono λσ H Q ⟨A,P,R,h,c⟩=>⟨A,_,R,h,λx A1 v H1 q R1 S1 rv=>?_⟩;obtain⟨n,rfl,n1,n2,q⟩:=q;cases rv;refine⟨n,rfl,by omega,by omega,c _ _ A1 _ H1 q R1 S1 ?_⟩;have:=Pl (K:=K) (A:=A1) (H:=H1) (lo:=0) (n:=n.toNat);simpa using this
end
def mL (xs:af)(C:bX)(A1:AS)(g:UG)(ub:US)(E:fo):Prop:=∃ I:af->AS->Prop,I [] A1/\(∀ d A2,I d A2->C A2) /\
 (∀ d x r A2,xs=d++x::r->I d A2->g x A2 λA3=>ub { E with nx:=I (d++[x]),ct:=I (d++[x]),bk:=E.nx } A3)/\∀ A2,I xs A2->E.nx A2
def EX (ui:UI)(g:UG)(ub:US):US:=λE A=>ui A λxs C A1=>mL xs C A1 g ub E
def Pm (t:UT)(ub:US):US:=λE A=>∃(I:bX)(μ:AS->Nat),I A/\∀ A1,I A1->t A1 λk A2=>if k=true then ub { E with nx:=λA3=>I A3/\μ A3<μ A1,ct:=λA3=>I A3/\μ A3<μ A1,bk:=E.nx } A2 else E.nx A2
section
variable {X:Cx}{K:Frag}{tg iter c:Expr}{body:List Stmt}{ui:UI}{g:UG}{ub:US}{t:UT}{pos:Pos}
theorem cj (hp:PassesOwn (model X.prog X.w) X.A X.env X.xe)(hc:X.calm=true)(hi:PI X tg iter (gQ K ui))(hg:PG X tg (ly K g))(hb:cn X body (bS K ub))(hs:∀ x,foldedSetIterable iter X.env x=pure x:=by intro _;rfl) :
  PS X (.For tg iter body [] pos) (bS K (EX ui g ub)):=by
 refine(Bn hp hc hi hg hb hs).mono λD σ H ⟨A,E,R,h,k⟩=>⟨A,_,R,h,λxs C A1 J H1 p R1 S1 ok=>?_⟩;obtain⟨I,i0,iC,step,fin⟩:=p;refine⟨λi m aJ H'=>m=xs.length-i/\i<=xs.length/\∃ A2,I (xs.take i) A2/\Rep K H' aJ A2/\ax A1 H1 A2 H',⟨_,rfl,Nat.zero_le _,A1,i0,R1,ax.refl A1 H1⟩,?_⟩;rintro i m aJ H' ⟨rfl,hi,A2,hI,R2,S2⟩;by_cases cz:i<xs.length
 ·obtain⟨go,eo⟩:=ok.go aJ A2 H' R2 S2 (iC _ _ hI) i xs[i] (bL cz);refine .inr ⟨go,λqj j3=>∃ A3,I (xs.take (i+1)) A3/\Rep K j3 qj A3/\ax A1 H1 A3 j3,λqj j3 q=>⟨xs.length-(i+1),by omega,rfl,cz,q⟩,λv H3 y=>?_⟩;obtain⟨s,rv⟩:=eo v H3 y;have eT:xs.take (i+1)=xs.take i++[xs[i]]:=by rw[take_add_one,bL cz];rfl
  refine⟨xs[i],A2,_,R2.same s,rv,step (xs.take i) xs[i] (xs.drop (i+1)) A2 (by simp) hI,λA3 cT p3 R3 S3=>⟨A3,_,R3,p3,?_⟩⟩;have xW:ax A1 H1 A3 H3:=S2.trans ((ax.same A2 s).trans S3);have k3:=k.step (S1.trans xW);exact⟨λA4 xX H4 q R4 S4=>⟨A4,by rw[eT];exact q,R4,xW.trans S4⟩,k3.rt,k3.rf,k3.ro,k3.nx,λA4 xX H4 q R4 S4=>⟨A4,by rw[eT];exact q,R4,xW.trans S4⟩⟩
 ·have e:i=xs.length:=by omega
  subst e;rw[take_length] at hI;exact .inl ⟨ok.stop aJ A2 H' R2 S2 (iC _ _ hI),k.nx A2 aJ H' (fin A2 hI) R2 (S1.trans S2)⟩
theorem Pn (hp:PassesOwn (model X.prog X.w) X.A X.env X.xe)(hc:PT X c (liftT K t))(hb:cn X body (bS K ub)):PS X (.While c body [] pos) (bS K (Pm t ub)):=by
 refine(Bk hp hc hb).mono λD σ H ⟨A,E,R,h,k⟩=>?_;obtain⟨I,μ,i0,step⟩:=h;refine⟨λm aJ H'=>∃ A1,m=μ A1/\I A1/\Rep K H' aJ A1/\ax A H A1 H',⟨_,A,rfl,i0,R,ax.refl A H⟩,?_⟩;rintro m aJ H' ⟨A1,rfl,hI,R1,S1⟩;refine⟨A1,_,R1,step A1 hI,λb A2 H2 p R2 S2=>?_⟩;have k2:=k.step (S1.trans S2)
 cases b with
 |true=>
  refine⟨λqj j3=>∃ A3,(I A3/\μ A3<μ A1)/\Rep K j3 qj A3/\ax A H A3 j3,?_,?_⟩
  ·rintro qj j3 ⟨A3,⟨q1,q2⟩,R3,S3⟩;exact⟨μ A3,q2,A3,rfl,q1,R3,S3⟩
  ·exact⟨A2,_,R2,p,⟨λA4 xX H4 q R4 S4=>⟨A4,q,R4,S1.trans (S2.trans S4)⟩,k2.rt,k2.rf,k2.ro,k2.nx,λA4 xX H4 q R4 S4=>⟨A4,q,R4,S1.trans (S2.trans S4)⟩⟩⟩
 |false=>exact k2.nx A2 aJ H2 p R2 (ax.refl A2 H2)
end
noncomputable def Sl.sT:Sl->Sl
 |.own a c=>.peek a c
 |s=>s
noncomputable def n_ (ix:List Nat)(ae:bp):bp:=ix.map λj=>((ae[j]?).join).map Sl.sT
noncomputable def dq (k:Nat)(ix:List Nat)(ae:bp):bp:=replicate k none++n_ ix ae
def Kp (k:Nat)(ix:List Nat)(ae:bp)(A:AS):Prop:=A.ae.length=k+ix.length/\A.ae.drop k=n_ ix ae
def iw:UT:=λA Q=>Q true A
def j4 (k:Nat)(ix:List Nat)(xs:af)(A1:AS)(g:UG)(t:UT)(ue:UE)(Q:PV->AS->Prop):Prop:=xs.length<=1000000/\∃ I:af->af->Option az->Prop,I [] [] A1.S /\
 (∀ B d x r ys S,xs=d++x::r->I d ys S->g x ⟨B,dq k ix A1.ae,S⟩ λA2=>t A2 λb A3=>if b=true then ue A3 λy A4=>Kp k ix A1.ae A4/\I (d++[x]) (ys++[y]) A4.S else Kp k ix A1.ae A3/\I (d++[x]) ys A3.S) /\
 ∀ ys S,I xs ys S->Q (.lst ys) { A1 with S:=S }
def qk (k:Nat)(ix:List Nat)(ui:UI)(g:UG)(t:UT)(ue:UE):UE:=λA Q=>ui A λxs _ A1=>j4 k ix xs A1 g t ue Q
noncomputable def erase (H:Hp)(p:Addr):Hp:=λb=>if b=p then none else H b
theorem sU (H:Hp)(p:Addr):erase H p p=none:=if_pos rfl
theorem fq {H:Hp}{p b:Addr}(h:b≠p):erase H p b=H b:=if_neg h
section
variable {K:Frag}{H H1 H2:Hp}{σ:St}{A:AS}
theorem jq.EY (R:Rep K H σ A){S:Option az}(hs:S.map az.d=A.S.map az.d)(c9:∀ st,S=some st->cG H1 st.d st.a st.n st.b/\fm K H1 st.a)(b:jq A.S H H1):Rep K H1 σ { A with S:=S }/\ax A H { A with S:=S } H1:=by
 have dm:∀ a,H a≠none->H1 a≠none:=λa h=>by
  by_cases e:∃ st,A.S=some st/\st.d=a
  ·obtain⟨au,h1,h2⟩:=la hs.symm e;obtain⟨kvs,q⟩:=(c9 au h1).1.dk;rw[<- h2];exact fF q
  ·cases q:H a with
   |none=>exact absurd q h
   |some o=>exact fF (b a o q e)
 have S0:ax A H { A with S:=S } H1:=⟨λa o h m=>b a o h λz=>m (.inr z),λ_ h=>.inl h,rfl,dm,hs⟩;have kp:=R.keep S0;refine⟨⟨R.len,λi s h=>?_,λa h=>dm a (R.cW a h),R.nd,λst h=>?_,λi a c st h1 h2=>?_⟩,S0⟩
 ·obtain⟨v,e,q⟩:=R.sl i s h;refine⟨v,e,?_⟩
  cases s with
  |val x=>exact q.imp kp
  |own a c=>exact⟨q.1,q.2.1,q.2.2.imp kp λo h=>b a o h fun⟨st,z1,z2⟩=>q.2.1 (by rw[<- z2];exact(R.st st z1).1)⟩
  |peek a c=>exact⟨q.1,q.2.1,q.2.2.imp kp λo h2=>b a o h2 fun⟨st,z1,z2⟩=>R.pk i a c st h z1 z2.symm⟩
 ·obtain⟨au,h1,h2⟩:=la hs ⟨st,h,rfl⟩;exact⟨by show A.B st.d;rw[<- h2];exact(R.st au h1).1,(c9 st h).1,(c9 st h).2⟩
 ·obtain⟨au,h3,h4⟩:=la hs ⟨st,h2,rfl⟩;rw[<- h4];exact R.pk i a c au h1 h3
theorem Rep.drop (R:Rep K H σ A){k:Nat}{cs:bp}(e:A.ae.drop k=cs)(hk:k<=A.ae.length):Rep K H σ { A with ae:=replicate k none++cs }/\∀ a,Own (replicate k none++cs) a->Own A.ae a:=by
 have at':∀ i s,(replicate k none++cs)[i]?=some (some s)->A.ae[i]?=some (some s):=λi s h=>by
  by_cases hi:i<k
  ·rw[getElem?_append_left (by simpa using hi),getElem?_replicate,if_pos hi] at h;cases h
  ·rw[getElem?_append_right (by simpa using (Nat.le_of_not_lt hi)),length_replicate,<- e,getElem?_drop] at h;rwa [show k+(i-k)=i by omega] at h
 have ow:∀ a,Own (replicate k none++cs) a->Own A.ae a:=λa ⟨i,c,h⟩=>⟨i,c,at' i _ h⟩;have kp:eD K (AN A) (AN { A with ae:=replicate k none++cs }) H H:=⟨λ_ _ h=>h,λ_ _ n h=>⟨λz=>n (z.elim .inl λy=>.inr (ow _ y)),h⟩⟩;refine⟨⟨?_,λi s h=>?_,R.cW,λi j a c c' h1 h2=>R.nd i j a c c' (at' i _ h1) (at' j _ h2),R.st,λi a c st h1 h2=>R.pk i a c st (at' i _ h1) h2⟩,ow⟩
 ·rw[R.len];show _=(replicate k none++cs).length;rw[<- e,length_append,length_replicate,length_drop];omega
 ·obtain⟨v,e1,q⟩:=R.sl i s (at' i s h);refine⟨v,e1,?_⟩
  cases s with
  |val x=>exact q.imp kp
  |own b c=>exact⟨q.1,q.2.1,q.2.2.imp kp λ_ h=>h⟩
  |peek b c=>exact⟨q.1,q.2.1,q.2.2.imp kp λ_ h=>h⟩
theorem Po {ix:List Nat}{ae:bp}{i:Nat}{s:Sl}(h:(n_ ix ae)[i]?=some (some s)):∃ j t,ix[i]?=some j/\ae[j]?=some (some t)/\s=t.sT:=by
 unfold n_ at h;rw[getElem?_map] at h;obtain⟨j,hj,e⟩:=Option.map_eq_some_iff.mp h;obtain⟨t,ht,e2⟩:=Option.map_eq_some_iff.mp e;refine⟨j,t,hj,?_,e2.symm⟩
 cases q:ae[j]? with
 |none=>rw[q] at ht;cases ht
 |some o=>rw[q] at ht;exact congrArg some ht
theorem sV {k:Nat}{ix:List Nat}{ae:bp}{i:Nat}{s:Sl}(h:(dq k ix ae)[i]?=some (some s)):∃ i' j t,i=k+i'/\ix[i']?=some j/\ae[j]?=some (some t)/\s=t.sT:=by
 unfold dq at h;by_cases hi:i<k
 ·rw[getElem?_append_left (by simpa using hi),getElem?_replicate,if_pos hi] at h;cases h
 ·rw[getElem?_append_right (by simpa using (Nat.le_of_not_lt hi)),length_replicate] at h;obtain⟨j,t,h1,h2,h3⟩:=Po h;exact⟨i-k,j,t,by omega,h1,h2,h3⟩
theorem mM {k:Nat}{ix:List Nat}{ae:bp}{a:Addr}:¬ Own (dq k ix ae) a:=by
 rintro⟨i,c,h⟩;obtain⟨_,_,t,_,_,_,e⟩:=sV h;cases t<;>cases e
theorem fT.some {N:Addr->Prop}{a:Addr}{c:OC}(h:fT K N H a c):H a≠none:=by
 cases c with
 |lst xs=>obtain⟨vs,h,_⟩:=h;exact fF h
 |ah xs=>obtain⟨vs,h,_⟩:=h;exact fF h
 |ins _ _ xs=>obtain⟨vs,h,_⟩:=h;exact fF h
 |bQ xs=>obtain⟨vs,h,_⟩:=h;exact fF h
theorem xY {a acc:Addr}{us vs ws:Zv}(ha:H acc=Option.some (.lst vs))(h:aS K H a us):aS K (upd H acc (.lst ws)) a us:=by
 rcases h with h|h
 ·refine .inl ?_;rcases h with h|⟨o,h⟩
  ·exact .inl (by rw[aB λe=>by rw[e,ha] at h;cases h];exact h)
  ·exact .inr ⟨o,by rw[aB λe=>by rw[e,ha] at h;cases h];exact h⟩
 ·exact .inr h
theorem Rep.Pq (R:Rep K H σ A){acc:Addr}{vs ws:Zv}(ha:H acc=Option.some (.lst vs))(hB:A.B acc)(hp:∀(i:Nat)(a:Addr)(c:OC),A.ae[i]?=Option.some (Option.some (Sl.peek a c))->a≠acc):Rep K (upd H acc (.lst ws)) σ A:=by
 have kp:eD K (AN A) (AN A) H (upd H acc (.lst ws)):=⟨λa us h=>xY ha h,λa o n h=>⟨n,by rw[aB λe=>n (by rw[e];exact .inl hB)];exact h⟩⟩;refine⟨R.len,λi s h=>?_,λa h=>?_,R.nd,λst h=>?_,R.pk⟩
 ·obtain⟨v,e,q⟩:=R.sl i s h;refine⟨v,e,?_⟩
  cases s with
  |val x=>exact q.imp kp
  |own a c=>exact⟨q.1,q.2.1,q.2.2.imp kp λo h=>by rw[aB λe=>q.2.1 (by rw[e];exact hB)];exact h⟩
  |peek a c=>exact⟨q.1,q.2.1,q.2.2.imp kp λo h2=>by rw[aB (hp i a c h)];exact h2⟩
 ·by_cases e:a=acc
  ·rw[e,aZ];intro z;cases z
  ·rw[aB e];exact R.cW a h
 ·obtain⟨h1,h2,h3⟩:=R.st st h;refine⟨h1,h2.upd (λe=>?_) (λps z=>by rw[ha] at z;cases z),h3.jn λo u z=>?_⟩
  ·obtain⟨kvs,q⟩:=h2.dk;rw[<- e,ha] at q;cases q
  ·rw[aB λe=>by rw[e,ha] at z;cases z];exact z
theorem Rep.inner (R:Rep K H σ A){acc:Addr}(gR:H acc=none)(k:Nat)(ix:List Nat):Rep K (upd H acc (.lst [])) (gG k ix σ) ⟨λb=>AN A b\/b=acc,dq k ix A.ae,A.S⟩:=by
 have s:aQ H (upd H acc (.lst [])):=d0 gR _;have R1:=R.same s;have na:∀ a o,H a=some o->a≠acc:=λa o h=>bV h gR
 have kp:eD K (AN A) (AN ⟨λb=>AN A b\/b=acc,dq k ix A.ae,A.S⟩) H (upd H acc (.lst [])):=⟨(fG (K:=K) (N:=AN A) s).t,λa o n h=>⟨λz=>by
  rcases z with (z|z)|z
  ·exact n z
  ·exact na a o h z
  ·exact mM z,s a o h⟩⟩
 refine⟨?_,λi t h=>?_,λa h=>?_,λi j a c c' h _=>absurd ⟨i,c,h⟩ mM,λst h=>?_,λi a c st h1 h2=>?_⟩
 ·show(gG k ix σ).length=(dq k ix A.ae).length;unfold gG dq n_;rw[length_append,length_append,length_map,length_map,length_replicate,length_replicate]
 ·obtain⟨i',j,t',rfl,h1,h2,rfl⟩:=sV h;obtain⟨v,e,q⟩:=R.sl j _ h2;refine⟨v,?_,?_⟩
  ·unfold gG;rw[getElem?_append_right (by simp),length_replicate,getElem?_map,show k+i'-k=i' by omega,h1];show some ((σ[j]?).join)=_;rw[e];rfl
  ·cases t' with
   |val x=>exact q.imp kp
   |own a c=>exact⟨q.1,.inl (.inr ⟨j,c,h2⟩),q.2.2.imp kp λo=>s a o⟩
   |peek a c=>exact⟨q.1,.inl (.inl q.2.1),q.2.2.imp kp λo=>s a o⟩
 ·rcases h with h|h
  ·rcases h with h|h
   ·exact R1.cW a h
   ·rcases R.iZ h with ⟨z,e⟩|⟨z,e⟩|⟨_,_,z,e⟩|⟨z,e⟩
    ·exact fF (s _ _ e)
    ·exact fF (s _ _ e)
    ·exact fF (s _ _ e)
    ·exact fF (s _ _ e)
  ·subst h;rw[aZ];intro z;cases z
 ·obtain⟨h1,h2,h3⟩:=R1.st st h;exact⟨.inl (.inl h1),h2,h3⟩
 ·obtain⟨i',j,t,rfl,h3,h4,e⟩:=sV h1
  cases t with
  |val x=>cases e
  |own b c=>cases e;intro z;obtain⟨_,_,_,nb,_⟩:=R.sl j _ h4;exact nb (by rw[z];exact(R.st st h2).1)
  |peek b c=>cases e;exact R.pk j _ _ st h4 h2
theorem xZ {J:It}{g:UG}{t:UT}{ue:UE}{k:Nat}{ix:List Nat}{acc:Addr}{xs:af}{C:bX}{Q:VK}{I:af->af->Option az->Prop}{fin:PV->AS->Prop}(R:Rep K H σ A)(ok:gn K A H J xs C)(gR:H acc=none)
  (aK:xs.length<=1000000)(i0:I [] [] A.S)
  (step:∀ B d x r ys S,xs=d++x::r->I d ys S->g x ⟨B,dq k ix A.ae,S⟩ λA2=>t A2 λb A3=>if b=true then ue A3 λy A4=>Kp k ix A.ae A4/\I (d++[x]) (ys++[y]) A4.S else Kp k ix A.ae A3/\I (d++[x]) ys A3.S)
  (Pr:∀ ys S,I xs ys S->fin (.lst ys) { A with S:=S })(q:∀ zs A1 v H0 H1,fin (.lst zs) A1->Rep K H0 σ A1->ax A H A1 H0->eV K (AN A1) H0 H1 (.lst zs) v->Q v H1) :
  pZ J (ly K g) (liftT K t) (aD K ue) acc Q (gG k ix σ) (upd H acc (.lst [])):=by
 let B:Addr->Prop:=λb=>AN A b\/b=acc
 have na:∀ a o,H a=some o->a≠acc:=λa o h=>bV h gR
 refine OW xs.length (λi aJ H'=>∃ ys vs S,I (xs.take i) ys S/\Rep K H' aJ ⟨B,dq k ix A.ae,S⟩/\H' acc=some (.lst vs)/\aI K B H' ys vs/\vs.length<=i/\jq A.S H H'/\S.map az.d=A.S.map az.d)
  ⟨[],[],A.S,i0,R.inner gR k ix,aZ,.nil,aG _,λb o h _=>by rw[aB (na b o h)];exact h,rfl⟩ ?_ ?_
 ·rintro aJ H' ⟨ys,vs,S,hI,R',ha,rs,_,bs,hs⟩;rw[take_length] at hI;refine⟨(ok.cm H' bs).2,?_⟩
  -- eg heap without eg new list
  have be:jq A.S H (erase H' acc):=λb o h n=>by rw[fq (na b o h)];exact bs b o h n
  have Pt:∀ st,S=some st->cG (erase H' acc) st.d st.a st.n st.b/\fm K (erase H' acc) st.a:=λst h=>by
   obtain⟨_,h1,h2⟩:=R'.st st h;obtain⟨au,e1,e2⟩:=la hs ⟨st,h,rfl⟩;obtain⟨kvs,hd⟩:=(R.st au e1).2.1.dk;have nd:st.d≠acc:=by rw[<- e2];exact na _ _ hd
   refine⟨?_,?_⟩
   ·obtain⟨t,l,w,e,r⟩:=h1.ex
    exact⟨⟨t,l,w,by rw[fq nd];exact e,r⟩,λT o z=>⟨by
     rw[fq λy=>by
      have q:=(h1.tb T o z).1;rw[y,ha] at q
      cases q]
     exact(h1.tb T o z).1,(h1.tb T o z).2⟩⟩
   ·exact h2.jn λo u h2=>by
     rw[fq λe=>by rw[e,ha] at h2;cases h2];exact h2
  obtain⟨R3,S3⟩:=jq.EY R hs Pt be;refine q ys _ _ (erase H' acc) H' (Pr ys S hI) R3 S3 ⟨acc,.lst ys,rfl,rfl,sU _ _,λb o h=>?_,vs,ha,rs.imp ⟨λa vs h=>?_,λa o n h=>?_⟩⟩
  ·by_cases e:b=acc
   ·subst e;rw[sU] at h;cases h
   ·rw[fq e] at h;exact h
  ·rcases h with h|h
   ·refine .inl ?_;rcases h with h|⟨o,h⟩
    ·exact .inl (by rw[fq λe=>by rw[e,ha] at h;cases h];exact h)
    ·exact .inr ⟨o,by rw[fq λe=>by rw[e,ha] at h;cases h];exact h⟩
   ·exact .inr h
  ·refine⟨λz=>n (.inl z),?_⟩;rw[fq λe=>n (.inr e)];exact h
 ·rintro i aJ H' hi ⟨ys,vs,S,hI,R',ha,rs,lv,bs,hs⟩;obtain⟨go,eo⟩:=(ok.cm H' bs).1 i xs[i] (bL hi);refine⟨go,λv H3 y=>?_⟩;obtain⟨s,rv⟩:=eo v H3 y;have eT:xs.take (i+1)=xs.take i++[xs[i]]:=by rw[take_add_one,bL hi];rfl
  have R3:=R'.same s;have Pu:∀ a,AN ⟨B,dq k ix A.ae,S⟩ a->AN A a\/H a=none:=λa z=>z.elim (λy=>y.imp id λe=>by rw[e];exact gR) λz=>absurd z mM;have j5:RV K (AN ⟨B,dq k ix A.ae,S⟩) H3 xs[i] v:=rv.imp ⟨λ_ _ h=>h,λa o n h=>⟨λz=>n (Pu a z),h⟩⟩
  have EZ:¬ Mt ⟨B,dq k ix A.ae,S⟩ acc:=by
   rintro(z|⟨st,z1,z2⟩)
   ·exact mM z
   ·obtain⟨kvs,e⟩:=(R'.st st z1).2.1.dk;rw[z2,ha] at e;cases e
  have E1:∀{H6:Hp}{A4:AS},ax ⟨B,dq k ix A.ae,S⟩ H' A4 H6->jq A.S H H6:=λSx b o h n=>Sx.fr b o (bs b o h n) λm=>m.elim mM λz=>n (la hs z);refine⟨xs[i],⟨B,dq k ix A.ae,S⟩,_,R3,j5,step B (xs.take i) xs[i] (xs.drop (i+1)) ys S (by simp) hI,λA2 cT p2 Ra Sa=>⟨A2,_,Ra,p2,λb A3 H5 p3 Rb Sb=>?_⟩⟩;have Sy:=(ax.same ⟨B,dq k ix A.ae,S⟩ s).trans (Sa.trans Sb)
  cases b with
  |true=>
   refine nS ⟨A3,_,Rb,p3,λy A4 w H6 p4 Rc Sc ry=>?_⟩;obtain⟨⟨kl,kd⟩,x_⟩:=p4;have Sx:=Sy.trans Sc;have sW:H6 acc=some (.lst vs):=Sx.fr acc _ ha EZ;refine⟨vs,sW,Nat.lt_of_le_of_lt lv (c8 hi (cC aK (by decide))),ys++[y],vs++[w],A4.S,by rw[eT];exact x_,?_,aZ,?_,?_,?_,Sx.sd.trans hs⟩
   ·have Rd:=(Rc.drop kd (by omega)).1;have eB:A4.B=B:=Sx.b;rw[eB] at Rd
    exact Rd.Pq sW (.inr rfl) λj a c h=>by
     obtain⟨i',j',t',_,_,h4,e⟩:=sV h;obtain⟨_,_,q⟩:=R.sl j' _ h4
     have:H a≠none:=by
      cases t' with
      |val x=>cases e
      |own a' c'=>cases e;exact q.2.2.some
      |peek a' c'=>cases e;exact q.2.2.some
     exact λz=>this (by rw[z];exact gR)
   ·have kp:eD K B B H' (upd H6 acc (.lst (vs++[w]))):=⟨λa us h=>?_,λa o n h=>⟨n,?_⟩⟩;have kq:eD K (AN A4) B H6 (upd H6 acc (.lst (vs++[w]))):=⟨λa us h=>?_,λa o n h=>⟨λz=>n (.inl (by rw[Sx.b];exact z)),?_⟩⟩
    ·exact(rs.imp kp).app (.cons (ry.imp kq) .nil)
    ·exact xY sW h
    ·rw[aB λe=>n (by rw[e];exact .inl (by rw[Sx.b];exact .inr rfl))];exact h
    ·exact xY sW (((R'.keep Sx).t) a us h)
    ·have Pw:a≠acc:=λe=>n (.inr e);rw[aB Pw];exact Sx.fr a o h λm=>m.elim mM fun⟨st,z1,z2⟩=>n (by rw[<- z2];exact(R'.st st z1).1)
   ·rw[length_append];exact Nat.succ_le_succ lv
   ·intro b o h n;rw[aB (na b o h)];exact E1 Sx b o h n
  |false=>
   obtain⟨⟨kl,kd⟩,x_⟩:=p3;have Px:H5 acc=some (.lst vs):=Sy.fr acc _ ha EZ;have Rd:=(Rb.drop kd (by omega)).1;have eB:A3.B=B:=Sy.b;rw[eB] at Rd;refine nR ⟨ys,vs,A3.S,by rw[eT];exact x_,Rd,Px,rs.imp ⟨(R'.keep Sy).t,λa o n h=>⟨n,Sy.fr a o h λm=>m.elim mM fun⟨st,z1,z2⟩=>n (by rw[<- z2];exact(R'.st st z1).1)⟩⟩,Nat.le_succ_of_le lv,E1 Sy,Sy.sd.trans hs⟩
end
section
variable {X:Cx}{K:Frag}{elt tg iter:Expr}{ifs:List Expr}{pos:Pos}{sc:Scope}{cl:List (Str×Addr)}{N:ay}{k:Nat}{ix:List Nat}{g:UG}{t:UT}{ue:UE}{ui:UI}
theorem eJ (S:iY X sc cl N k ix)(hc:X.calm=true)(hp:PI X tg iter (gQ K ui))(hg:∀ C fp s H,PG (dF X N sc cl C fp s H) tg (ly K g))(hi:∀ C fp s H,iX (dF X N sc cl C fp s H) ifs (liftT K t))(he:∀ C fp s H,PE (dF X N sc cl C fp s H) elt (aD K ue))
  (hs:∀ x,foldedSetIterable iter X.env x=pure x:=by intro _;rfl):PE X (.ListComp elt [⟨tg,iter,ifs,0⟩] sc pos) (fU K (qk k ix ui g t ue)):=(Oe S hc hp hg hi he hs).mono λσ H Q ⟨A,P,R,h,c⟩=>
 ⟨A,_,R,h,λxs C A1 J H1 p R1 S1 ok acc gR=>by
  obtain⟨aK,I,i0,step,fin⟩:=p
  exact xZ R1 ok gR aK i0 step fin λr A2 v H0 H2 q R2 S2 f=>c (.lst r) A2 v H0 H2 q R2 (S1.trans S2) f⟩
theorem jr {i:Nat}{y:Str}{py dB:Pos}(hN:X.N.Nodup)(S:iY X sc cl N k ix)(hc:X.calm=true)(hp:PI X tg iter (gQ K ui))(hg:∀ C fp s H,PG (dF X N sc cl C fp s H) tg (ly K g))(hi:∀ C fp s H,iX (dF X N sc cl C fp s H) ifs (liftT K t))(he:∀ C fp s H,PE (dF X N sc cl C fp s H) elt (aD K ue))
  (fD:X.N[i]?=some y:=by rfl)(hy:X.env.scope.names.lookup y=some .local:=by rfl)(p7:swapsWith (.ListComp elt [⟨tg,iter,ifs,0⟩] sc pos) (some (.Name y py)) dB.line X.env=pure true:=by rfl)
  (hs:∀ x,foldedSetIterable iter X.env x=pure x:=by intro _;rfl):PS X (.Assign [.Name y py] (.ListComp elt [⟨tg,iter,ifs,0⟩] sc pos) dB) (bS K (xP i (qk k ix ui g t ue))):=(CH hN fD hy p7 S hc hp hg hi he hs).mono λD σ H ⟨A,E,R,h,c⟩=>
 ⟨A,_,R,h,λxs C A1 J H1 p R1 S1 ok acc gR=>by
  obtain⟨aK,I,i0,step,fin⟩:=p
  exact xZ (fin:=λr A1=>E.nx (put A1 i (.val r))) R1 ok gR aK i0 step fin λr A2 v H0 H2 q R2 S2 f=>by
   have rv:=(f.Er λ_=>R2.new);have R3:=R2.same f.same
   exact c.nx _ _ H2 q (R3.val rv).1 (S1.trans (S2.trans ((ax.same A2 f.same).trans (R3.val rv).2)))⟩
theorem E2 {i:Nat}{y:Str}{py dB:Pos}(hN:X.N.Nodup)(S:iY X sc cl N k ix)(hc:X.calm=true)(hp:PI X tg iter (gQ K ui))(hg:∀ C fp s H,PG (dF X N sc cl C fp s H) tg (ly K g))(hi:∀ C fp s H,iX (dF X N sc cl C fp s H) ifs (liftT K t))(he:∀ C fp s H,PE (dF X N sc cl C fp s H) elt (aD K ue))
  (fD:X.N[i]?=some y:=by rfl)(hy:X.env.scope.names.lookup y=some .local:=by rfl)(p7:swapsWith (.ListComp elt [⟨tg,iter,ifs,0⟩] sc pos) (some (.Name y py)) dB.line X.env=pure true:=by rfl)
  (hs:∀ x,foldedSetIterable iter X.env x=pure x:=by intro _;rfl):PS X (.Assign [.Name y py] (.ListComp elt [⟨tg,iter,ifs,0⟩] sc pos) dB) (bS K (xQ i (qk k ix ui g t ue))):=(CH hN fD hy p7 S hc hp hg hi he hs).mono λD σ H ⟨A,E,R,h,c⟩=>
 ⟨A,_,R,h,λxs C A1 J H1 p R1 S1 ok acc gR=>by
  obtain⟨aK,I,i0,step,fin⟩:=p
  exact xZ (fin:=λr A2=>∃ c:OC,r=c.pv/\∀ p,E.nx (put A2 i (.own p c))) R1 ok gR aK i0 step fin λr A2 v H0 H2 q R2 S2 f=>by
   obtain⟨c',e',q⟩:=q;rw[e'] at f;obtain⟨p',rfl,R3,S3⟩:=R2.fresh (i:=i) f
   exact c.nx _ _ H2 (q p') R3 (S1.trans (S2.trans S3))⟩
theorem cX:iX X [] (liftT K iw):=λpins s σ H Q I h=>Nv pins s σ H Q I (by
 obtain⟨A,P,R,h,c⟩:=h
 exact c true A H h R (ax.refl A H))
theorem sX {c:Expr}(h:PT X c (liftT K t)):iX X [c] (liftT K t):=Nw h
end
section
variable {k:Nat}{ix:List Nat}{g:UG}{t:UT}{ue:UE}{xs:af}{A1:AS}{Q:PV->AS->Prop}
theorem comp_map (F:PV->PV)(aK:xs.length<=1000000)(each:∀ B x,x∈xs->∀ R:PV->AS->Prop,(∀ A4,Kp k ix A1.ae A4->A4.S=A1.S->R (F x) A4)->g x ⟨B,dq k ix A1.ae,A1.S⟩ λA2=>ue A2 R)(fin:Q (.lst (xs.map F)) A1):j4 k ix xs A1 g iw ue Q:=by
 refine⟨aK,λd ys S=>ys=d.map F/\S=A1.S,⟨rfl,rfl⟩,?_,?_⟩
 ·rintro B d x r ys S e ⟨rfl,rfl⟩;have q:=each B x (by rw[e];simp) (λy A4=>Kp k ix A1.ae A4/\d.map F++[y]=(d++[x]).map F/\A4.S=A1.S) λA4 k1 s1=>⟨k1,by simp,s1⟩
  have e2:(λA2=>ue A2 λy A4=>Kp k ix A1.ae A4/\d.map F++[y]=(d++[x]).map F/\A4.S=A1.S)=λA2=>iw A2 λb A3=>if b=true then ue A3 λy A4=>Kp k ix A1.ae A4/\d.map F++[y]=(d++[x]).map F/\A4.S=A1.S else Kp k ix A1.ae A3/\d.map F=(d++[x]).map F/\A3.S=A1.S:=by
   funext A2
   unfold iw;dsimp only;rw[if_pos rfl]
  rw[e2] at q;exact q
 ·rintro ys S ⟨rfl,rfl⟩;exact fin
end
abbrev Rel:=af->PV->Prop
abbrev Tr:=af->az->(PV->az->Prop)->Prop
def Py (fr:Bool)(K:Frag)(B:Addr->Prop)(H:Hp)(r:PV)(v:V)(H':Hp):Prop:=if fr=true then ∃ H0,aQ H H0/\eV K B H0 H' r v else aQ H H'/\RV K B H' r v
def a_ (K:Frag)(fr:Bool)(G:Rel):Sp:=λvs H Q _=>∃ B xs r,(∀ a,B a->H a≠none)/\aI K B H xs vs/\G xs r/\∀ v H',Py fr K B H r v H'->Q v H'
def Pz (fr:Bool)(K:Frag)(B:Addr->Prop)(d:Addr)(H:Hp)(r:PV)(v:V)(H':Hp)(st:az):Prop:=if fr=true then ∃ H0,cf d H H0/\cG H0 st.d st.a st.n st.b/\fm K H0 st.a/\eV K B H0 H' r v else cf d H H'/\RV K B H' r v
def spS (K:Frag)(fr:Bool)(T:Tr):Sp:=λvs H Q _=>∃ B xs st P,(∀ a,B a->H a≠none)/\B st.d/\cG H st.d st.a st.n st.b/\fm K H st.a/\aI K B H xs vs/\T xs st P /\
 ∀ r au v H',P r au->au.d=st.d->cG H' au.d au.a au.n au.b->fm K H' au.a->Pz fr K B st.d H r v H' au->Q v H'
noncomputable def entry (B:Addr->Prop)(N:ay)(xs:af)(S:Option az):AS:=⟨B,xs.map (λx=>some (Sl.val x))++replicate (N.length-xs.length) none,S⟩
noncomputable def cH (fr:Bool)(r:PV):fo:=⟨λ_=>fr=false/\r=.ai,λr' _=>fr=false/\r'=r,λr' _=>fr=true/\r'=r,λ_=>False,λ_=>False⟩
noncomputable def fH (fr:Bool)(P:PV->az->Prop):fo:=⟨λA=>fr=false/\∃ st,A.S=some st/\P .ai st,λr A=>fr=false/\∃ st,A.S=some st/\P r st,λr A=>fr=true/\∃ st,A.S=some st/\P r st,λ_=>False,λ_=>False⟩
section
variable {K:Frag}{H H1:Hp}{B:Addr->Prop}
theorem eV.weak {N N':Addr->Prop}{H0 H1:Hp}{r:PV}{v:V}(f:eV K N H0 H1 r v)(h:∀ a,N' a->N a):eV K N' H0 H1 r v:=by
 obtain⟨p,c,e1,e2,hp,s,hc⟩:=f;have kp:eD K N N' H0 H0:=⟨λ_ _ h=>h,λa o n e=>⟨λz=>n (h a z),e⟩⟩;refine⟨p,c,e1,e2,hp,s,?_⟩
 cases c with
 |lst xs=>obtain⟨vs,h1,h2⟩:=hc;exact⟨vs,h1,h2.imp kp⟩
 |ah xs=>obtain⟨vs,h1,h2⟩:=hc;exact⟨vs,h1,h2.imp kp⟩
 |ins _ _ _=>exact hc.elim
 |bQ _=>exact hc.elim
theorem RV.weak {N N':Addr->Prop}{r:PV}{v:V}(f:RV K N H r v)(h:∀ a,N' a->N a):RV K N' H r v:=f.imp ⟨λ_ _ h=>h,λa o n e=>⟨λz=>n (h a z),e⟩⟩
theorem Rep.E3 {σ:St}{A:AS}{i:Nat}{a:Addr}{c:OC}(R:Rep K H σ A)(hi:A.ae[i]?=some (some (.own a c)))(lz:c.Ld):eV K A.B (erase H a) H c.pv (.ref a):=by
 obtain⟨v,_,rfl,nb,oc⟩:=R.sl i _ hi
 have hs:aQ (erase H a) H:=λb o h=>by
  by_cases e:b=a
  ·rw[e,sU] at h;cases h
  ·rw[fq e] at h;exact h
 have kp:eD K (AN A) A.B H (erase H a):=by
  refine⟨λb vs h=>?_,λb o n h=>⟨λz=>n (.inl z),by rw[fq λe=>n (by rw[e];exact .inr ⟨i,c,hi⟩)];exact h⟩⟩;rcases h with h|h
  ·have nb:b≠a:=λe=>by
    rw[e] at h;rcases R.iZ ⟨i,c,hi⟩ with ⟨z,q⟩|⟨z,q⟩|⟨_,_,z,q⟩|⟨z,q⟩<;>(rcases h with h|⟨o,h⟩<;>(rw[q] at h;cases h))
   exact .inl (h.imp (λz=>by rw[fq nb];exact z) fun⟨o,z⟩=>⟨o,by rw[fq nb];exact z⟩)
  ·exact .inr h
 refine⟨a,c,rfl,rfl,sU _ _,hs,?_⟩
 cases c with
 |lst xs=>obtain⟨vs,h1,h2⟩:=oc;exact⟨vs,h1,h2.imp kp⟩
 |ah xs=>obtain⟨vs,h1,h2⟩:=oc;exact⟨vs,h1,h2.imp kp⟩
 |ins _ _ _=>exact lz.elim
 |bQ _=>exact lz.elim
theorem og {N:ay}{xs:af}{S:Option az}{a:Addr}:¬ Own (entry B N xs S).ae a:=by
 rintro⟨i,c,h⟩;have h':(xs.map (λx=>some (Sl.val x))++replicate (N.length-xs.length) none)[i]?=some (some (.own a c)):=h;by_cases hi:i<xs.length
 ·rw[getElem?_append_left (by simpa using hi),getElem?_map] at h';obtain⟨x,_,e⟩:=Option.map_eq_some_iff.mp h';cases e
 ·rw[getElem?_append_right (by simpa using (Nat.le_of_not_lt hi)),getElem?_replicate] at h'
  split at h'<;>cases h'
theorem E4 {N:ay}{xs:af}{vs:Zv}{S:Option az}(cW:∀ a,B a->H a≠none)(r:aI K B H xs vs)(hl:xs.length<=N.length)(hS:∀ st,S=some st->B st.d/\cG H st.d st.a st.n st.b/\fm K H st.a):Rep K H (start N vs) (entry B N xs S):=by
 have an:∀ a,AN (entry B N xs S) a->B a:=λa h=>h.elim id λz=>absurd z og;have ll:=r.len;refine⟨?_,λi s h=>?_,cW,λi j a c c' h _=>absurd ⟨i,c,h⟩ og,hS,λi a c st h _=>?_⟩
 ·show(start N vs).length=(xs.map (λx=>some (Sl.val x))++replicate (N.length-xs.length) none).length;unfold start;rw[length_append,length_append,length_map,length_map,length_replicate,length_replicate,ll]
 ·have h':(xs.map (λx=>some (Sl.val x))++replicate (N.length-xs.length) none)[i]?=some (some s):=h;by_cases hi:i<xs.length
  ·rw[getElem?_append_left (by simpa using hi),getElem?_map] at h';obtain⟨x,hx,e⟩:=Option.map_eq_some_iff.mp h';cases e;obtain⟨v,hv,rv⟩:=r.at hx;refine⟨v,?_,rv.weak an⟩;unfold start;rw[getElem?_append_left (by rw[length_map];omega),getElem?_map,hv];rfl
  ·rw[getElem?_append_right (by simpa using (Nat.le_of_not_lt hi)),getElem?_replicate] at h'
   split at h'<;>cases h'
 ·have h':(xs.map (λx=>some (Sl.val x))++replicate (N.length-xs.length) none)[i]?=some (some (.peek a c)):=h;by_cases hi:i<xs.length
  ·rw[getElem?_append_left (by simpa using hi),getElem?_map] at h';obtain⟨x,_,e⟩:=Option.map_eq_some_iff.mp h';cases e
  ·rw[getElem?_append_right (by simpa using (Nat.le_of_not_lt hi)),getElem?_replicate] at h'
   split at h'<;>cases h'
theorem sY {A A1:AS}(e:A1.B=A.B):∀ a,A.B a->AN A1 a:=λa h=>.inl (by rw[e];exact h)
end
section
variable {P:Program}{w:World}{K:Frag}{mg:bU}{base:Heap}
theorem fh.c6 {x qual:Str}{st:Stmt}{f:Addr}{fd:FuncData}{N ps:ay}{k:Nat}{fr:Bool}{G:Rel}(F:fh K x qual st f fd)(S:bH N ps (aT st))(len:∀ xs r,G xs r->xs.length=ps.length)(lN:ps.length<=N.length)
  (fO:∀(aF:Value)(A:Around)(outer:List Env)(s:Shared)(H:Hp)(E:XK),bz k (A.deeper (envOfC qual (aT st) s.heap.objs.size f aF)) ->
   ∃ u,cn (iq c_ P w K mg base N qual (aT st) f aF A outer s H E).jh (fg st) (bS K u)/\∀ B xs r,G xs r->u (cH fr r) (entry B N xs none)):cU P w K mg base c_ (k+1) f fd ps (a_ K fr G):=by
 refine F.ok S (λvs H Q E h=>?_) λaF A outer s H vs Q E hr h=>?_
 ·obtain⟨B,xs,r,_,rv,g,_⟩:=h;rw[<- rv.len];exact len xs r g
 obtain⟨B,xs,r,cW,rv,g,fin⟩:=h;obtain⟨u,hu,q⟩:=fO aF A outer s H E hr;have R0:=E4 (K:=K) (S:=none) (N:=N) cW rv (by rw[len xs r g];exact lN) λst h=>by cases h
 have same:∀{A1:AS}{H1:Hp},ax (entry B N xs none) H A1 H1->aQ H H1:=λS1 b o h=>S1.fr b o h λm=>m.elim og fun⟨st,z,_⟩=>by cases z
 refine⟨_,hu,entry B N xs none,cH fr r,R0,q B xs r g,?_,?_,?_,?_,?_,?_⟩
 ·rintro A1 a7 H1 ⟨rfl,rfl⟩ R1 S1;exact fin _ _ ⟨same S1,.ai⟩
 ·rintro r' A1 a7 v H1 ⟨rfl,rfl⟩ R1 S1 j5;exact fin _ _ ⟨same S1,j5.weak (sY S1.b)⟩
 ·rintro r' A1 a7 v H0 H1 ⟨rfl,rfl⟩ R1 S1 f;exact fin _ _ ⟨H0,same S1,f.weak (sY S1.b)⟩
 ·rintro i a c A1 a7 H1 hi lz e R1 S1;obtain⟨rfl,e'⟩:=e;subst e';have f:=R1.E3 hi lz
  have sm:aQ H (erase H1 a):=λb o h=>by
   have nb:b≠a:=λz=>by
    rcases S1.ow a ⟨i,c,hi⟩ with y|y
    ·exact og y
    ·rw[z,y] at h;cases h
   rw[fq nb];exact same S1 b o h
  have hB:∀ a,B a->A1.B a:=λa h=>by rw[S1.b];exact h
  exact fin _ _ ⟨_,sm,f.weak hB⟩
 ·rintro A1 a7 H1 h;exact h.elim
 ·rintro A1 a7 H1 h;exact h.elim
theorem fh.i4 {x qual:Str}{st:Stmt}{f:Addr}{fd:FuncData}{N ps:ay}{k:Nat}{fr:Bool}{T:Tr}(F:fh K x qual st f fd)(S:bH N ps (aT st))(len:∀ xs st P,T xs st P->xs.length=ps.length)(lN:ps.length<=N.length)
  (fO:∀(aF:Value)(A:Around)(outer:List Env)(s:Shared)(H:Hp)(E:XK),bz k (A.deeper (envOfC qual (aT st) s.heap.objs.size f aF)) ->
   ∃ u,cn (iq c_ P w K mg base N qual (aT st) f aF A outer s H E).jh (fg st) (bS K u)/\∀ B xs st P,T xs st P->u (fH fr P) (entry B N xs (some st))):cU P w K mg base c_ (k+1) f fd ps (spS K fr T):=by
 refine F.ok S (λvs H Q E h=>?_) λaF A outer s H vs Q E hr h=>?_
 ·obtain⟨B,xs,st,P,_,_,_,_,rv,g,_⟩:=h;rw[<- rv.len];exact len xs st P g
 obtain⟨B,xs,st,P,cW,hd,h1,h2,rv,g,fin⟩:=h;obtain⟨u,hu,q⟩:=fO aF A outer s H E hr;have R0:=E4 (K:=K) (S:=some st) (N:=N) cW rv (by rw[len xs st P g];exact lN) λau h=>by cases h;exact⟨hd,h1,h2⟩
 have same:∀{A1:AS}{H1:Hp},ax (entry B N xs (some st)) H A1 H1->cf st.d H H1:=λS1 b o h n=>S1.fr b o h λm=>m.elim og fun⟨au,z,e⟩=>n (by cases z;exact e.symm)
 have sZ:∀{A1:AS}{H1:Hp}{au:az},ax (entry B N xs (some st)) H A1 H1->A1.S=some au->au.d=st.d:=λS1 e=>by
  have:=S1.sd;rw[e] at this;exact Option.some.inj this
 refine⟨_,hu,entry B N xs (some st),fH fr P,R0,q B xs st P g,?_,?_,?_,?_,?_,?_⟩
 ·rintro A1 a7 H1 ⟨rfl,au,e,p⟩ R1 S1;exact fin _ au _ _ p (sZ S1 e) (R1.st au e).2.1 (R1.st au e).2.2 ⟨same S1,.ai⟩
 ·rintro r' A1 a7 v H1 ⟨rfl,au,e,p⟩ R1 S1 j5;exact fin _ au _ _ p (sZ S1 e) (R1.st au e).2.1 (R1.st au e).2.2 ⟨same S1,j5.weak (sY S1.b)⟩
 ·rintro r' A1 a7 v H0 H1 ⟨rfl,au,e,p⟩ R1 S1 f;have R2:=R1.same f.same;exact fin _ au _ _ p (sZ S1 e) (R2.st au e).2.1 (R2.st au e).2.2 ⟨H0,same S1,(R1.st au e).2.1,(R1.st au e).2.2,f.weak (sY S1.b)⟩
 ·rintro i a c A1 a7 H1 hi lz ⟨rfl,au,e,p⟩ R1 S1;have f:=R1.E3 hi lz;have e':A1.S=some au:=e;have PB:H a=none:=(S1.ow a ⟨i,c,hi⟩).elim (λy=>absurd y og) id
  have sm:cf st.d H (erase H1 a):=λb o h n=>by
   rw[fq λz=>by rw[z,PB] at h;cases h];exact same S1 b o h n
  have hB:∀ a,B a->A1.B a:=λa h=>by rw[S1.b];exact h
  refine fin _ au _ _ p (sZ S1 e') (R1.st au e').2.1 (R1.st au e').2.2 ?_;obtain⟨b1,h1,hF⟩:=R1.st au e';have PD:au.d≠a:=λz=>(R1.sl i _ hi).choose_spec.2.2.1 (by rw[<- z];exact b1);obtain⟨t,l',w,e2,r⟩:=h1.ex
  refine⟨_,sm,⟨⟨t,l',w,by rw[fq PD];exact e2,r⟩,λT o z=>⟨by
   rw[fq λy=>by
    have q:=(h1.tb T o z).1;rw[y] at q
    rcases R1.iZ ⟨i,c,hi⟩ with ⟨y,q2⟩|⟨y,q2⟩|⟨_,_,y,q2⟩|⟨y,q2⟩<;>(rw[q2] at q;cases q)]
   exact(h1.tb T o z).1,(h1.tb T o z).2⟩⟩,hF.jn λo u h2=>?_,f.weak hB⟩
  rw[fq λz=>by
   rw[z] at h2
   rcases R1.iZ ⟨i,c,hi⟩ with ⟨y,q⟩|⟨y,q⟩|⟨_,_,y,q⟩|⟨y,q⟩<;>(rw[q] at h2;cases h2)]
  exact h2
 ·rintro A1 a7 H1 h;exact h.elim
 ·rintro A1 a7 H1 h;exact h.elim
structure Kn (P:Program)(w:World)(K:Frag)(mg:bU)(base:Heap)(k:Nat)(x:Str)(sp:Sp):Prop where
 ex:∃ f fd ps,cU P w K mg base c_ k f fd ps sp/\Binds K fd ps []/\PySem.W.keepIn K (.ref f)=true/\mg x=some (.ref f)
end
def x' (G:Rel)(ua:UA):UE:=λA Q=>ua A λxs A1=>∃ r,G xs r/\Q r A1
def ya (T:Tr)(ua:UA):UE:=λA Q=>ua A λxs A1=>∃ st,A1.S=some st/\T xs st λr au=>Q r { A1 with S:=some au }
section
variable {X:Cx}{K:Frag}{k:Nat}{x:Str}{p pos:Pos}{e:Expr}{es:List Expr}{ua:UA}{G:Rel}{T:Tr}{fr:Bool}
theorem Rep.ql {H:Hp}{σ:St}{A:AS}(R:Rep K H σ A):∀ a,AN A a->H a≠none:=λa h hn=>R.new hn h
theorem cM (hK:X.K=K)(F:Kn X.prog X.w X.K X.mg X.base k x (a_ K false G))(hr:bz k X.A)(ha:PA X (e::es) (jZ K ua))(hg:Gl X x:=by rfl)(fN:(x==("__debug__":Str))=false:=by decide)(he:starEach (e::es) X.env=(false,eval e X.env)::starEach es X.env:=by rfl)(dC:(backTo pos (starEach es X.env)).any (·.1)=false:=by rfl) :
  PE X (.Call (.Name x p) (e::es) [] pos) (aD K (x' G ua)):=by
 obtain⟨f,fd,ps,F1,b,kp,hm⟩:=F.ex;refine(ip F1 hr hg hm kp b .nil iu ha fN he dC).mono λσ H Q ⟨A,P,R,h,c⟩=>⟨A,_,R,h,λxs A1 vs H1 p R1 S1 rs=>?_⟩;obtain⟨r,g,p⟩:=p;rw[append_nil];refine⟨AN A1,xs,r,R1.ql,rs,g,λv H' q=>?_⟩;have q':aQ H1 H'/\RV K (AN A1) H' r v:=q;exact c r A1 v H' p (R1.same q'.1) (S1.trans (ax.same A1 q'.1)) q'.2
theorem gS (hK:X.K=K)(F:Kn X.prog X.w X.K X.mg X.base k x (a_ K true G))(hr:bz k X.A)(ha:PA X (e::es) (jZ K ua))(hg:Gl X x:=by rfl)(fN:(x==("__debug__":Str))=false:=by decide)(he:starEach (e::es) X.env=(false,eval e X.env)::starEach es X.env:=by rfl)(dC:(backTo pos (starEach es X.env)).any (·.1)=false:=by rfl) :
  PE X (.Call (.Name x p) (e::es) [] pos) (fU K (x' G ua)):=by
 obtain⟨f,fd,ps,F1,b,kp,hm⟩:=F.ex;refine(ip F1 hr hg hm kp b .nil iu ha fN he dC).mono λσ H Q ⟨A,P,R,h,c⟩=>⟨A,_,R,h,λxs A1 vs H1 p R1 S1 rs=>?_⟩;obtain⟨r,g,p⟩:=p;rw[append_nil];refine⟨AN A1,xs,r,R1.ql,rs,g,λv H' q=>?_⟩;obtain⟨H0,s,f⟩:=q;exact c r A1 v H0 H' p (R1.same s) (S1.trans (ax.same A1 s)) f
theorem E5 {H H':Hp}{σ:St}{A:AS}(R:Rep K H σ A){st au:az}(hS:A.S=some st)(b:cf st.d H H')(hd:au.d=st.d)(h1:cG H' au.d au.a au.n au.b)(h2:fm K H' au.a):Rep K H' σ { A with S:=some au }/\ax A H { A with S:=some au } H':=
 jq.EY R (by rw[hS];simp [hd]) (λnF e=>by cases e;exact⟨h1,h2⟩) λc o h n=>b c o h λe=>n ⟨st,hS,e.symm⟩
theorem cE (hK:X.K=K)(F:Kn X.prog X.w X.K X.mg X.base k x (spS K false T))(hr:bz k X.A)(ha:PA X (e::es) (jZ K ua))(hg:Gl X x:=by rfl)(fN:(x==("__debug__":Str))=false:=by decide)(he:starEach (e::es) X.env=(false,eval e X.env)::starEach es X.env:=by rfl)(dC:(backTo pos (starEach es X.env)).any (·.1)=false:=by rfl) :
  PE X (.Call (.Name x p) (e::es) [] pos) (aD K (ya T ua)):=by
 obtain⟨f,fd,ps,F1,b,kp,hm⟩:=F.ex;refine(ip F1 hr hg hm kp b .nil iu ha fN he dC).mono λσ H Q ⟨A,P,R,h,c⟩=>⟨A,_,R,h,λxs A1 vs H1 p R1 S1 rs=>?_⟩;obtain⟨st,hS,p⟩:=p;rw[append_nil];obtain⟨s1,s2,s3⟩:=R1.st st hS;refine⟨AN A1,xs,st,_,R1.ql,.inl s1,s2,s3,rs,p,λr au v H' q hd h1 h2 po=>?_⟩;have q':cf st.d H1 H'/\RV K (AN A1) H' r v:=po;obtain⟨R2,S2⟩:=E5 R1 hS q'.1 hd h1 h2;exact c r _ v H' q R2 (S1.trans S2) q'.2
theorem E6 (hK:X.K=K)(F:Kn X.prog X.w X.K X.mg X.base k x (spS K true T))(hr:bz k X.A)(ha:PA X (e::es) (jZ K ua))(hg:Gl X x:=by rfl)(fN:(x==("__debug__":Str))=false:=by decide)(he:starEach (e::es) X.env=(false,eval e X.env)::starEach es X.env:=by rfl)(dC:(backTo pos (starEach es X.env)).any (·.1)=false:=by rfl) :
  PE X (.Call (.Name x p) (e::es) [] pos) (fU K (ya T ua)):=by
 obtain⟨f,fd,ps,F1,b,kp,hm⟩:=F.ex;refine(ip F1 hr hg hm kp b .nil iu ha fN he dC).mono λσ H Q ⟨A,P,R,h,c⟩=>⟨A,_,R,h,λxs A1 vs H1 p R1 S1 rs=>?_⟩;obtain⟨st,hS,p⟩:=p;rw[append_nil];obtain⟨s1,s2,s3⟩:=R1.st st hS;refine⟨AN A1,xs,st,_,R1.ql,.inl s1,s2,s3,rs,p,λr au v H' q hd h1 h2 po=>?_⟩;obtain⟨H0,s,h3,h4,f⟩:=po;obtain⟨R2,S2⟩:=E5 R1 hS s hd h3 h4;exact c r _ v H0 H' q R2 (S1.trans S2) f
end
theorem oh {n:Nat}(h:n<=100000):n<=sizeLine:=cC h (by decide)
def qm:G2
 |.int i,.int j,z=>z=.int (i+j)
 |.str a,.str b,z=>a.length+b.length<=100000/\z=.str (a++b)
 |.tup xs,.tup ys,z=>xs.length+ys.length<=100000/\z=.tup (xs++ys)
 |.lst xs,.lst ys,z=>xs.length+ys.length<=100000/\z=.lst (xs++ys)
 |_,_,_=>False
def PF:G2
 |.lst xs,.lst ys,z=>xs.length+ys.length<=100000/\z=.lst (xs++ys)
 |_,_,_=>False
def PH:R2:=λx y H Q=>∃ i j,x=.str i/\y=.str j/\i.length+j.length<=sizeLine/\Q (.str (i++j)) H
def E7 (K:Frag):R2:=λx y H Q=>(iP λi j=>.int (i+j)) x y H Q\/PH x y H Q\/Em K x y H Q\/vZ x y H Q
section
variable {X:Cx}{K:Frag}
theorem PJ (hK:X.K=K):bE X (binaryOp .Add) (E7 K):=by
 subst hK;exact jO.or (BB.or (O7.or Nb))
theorem PK:Pd K vZ PF:=by
 intro H A σ x y v w z Q R q1 q2 g c;cases x<;>cases y<;>try exact g.elim
 rename_i xs ys;obtain⟨aK,rfl⟩:=g;obtain⟨a,vs,rfl,h1,r1⟩:=q1.lst R;obtain⟨b,ws,rfl,h2,r2⟩:=q2.lst R;refine⟨a,b,vs,ws,rfl,rfl,h1,h2,oh (by rw[<- r1.len,<- r2.len];exact aK),λp hp=>c _ _ ⟨p,.lst _,rfl,rfl,hp,d0 hp _,_,aZ,r1.app r2⟩⟩
theorem PL:dX K (E7 K) qm:=by
 intro H A σ x y v w z Q R q1 q2 g c;cases x<;>cases y<;>try exact g.elim
 ·cases q1.int;cases q2.int;cases g;exact .inl ⟨_,_,rfl,rfl,c _ H (aQ.refl H) (.int _)⟩
 ·cases q1.str;cases q2.str;obtain⟨aK,rfl⟩:=g;exact .inr (.inl ⟨_,_,rfl,rfl,oh aK,c _ H (aQ.refl H) (.str _)⟩)
 ·rename_i xs ys;obtain⟨aK,rfl⟩:=g;obtain⟨a,vs,rfl,h1,r1⟩:=q1.tup;obtain⟨b,ws,rfl,h2,r2⟩:=q2.tup;refine .inr (.inr (.inl ⟨a,b,vs,ws,rfl,rfl,h1,h2,oh (by rw[<- r1.len,<- r2.len];exact aK),λe=>?_,λ_ e=>?_,λ_ _ p hp=>?_⟩))
  ·subst e;cases r1;exact c _ H (aQ.refl H) (.tup h2 r2)
  ·subst e;cases r2;rw[append_nil] at c;exact c _ H (aQ.refl H) (.tup h1 r1)
  ·have s:=d0 hp (.tup (vs++ws));exact c _ _ s (.tup (aS.of aZ) ((r1.app r2).imp (fG s)))
 ·rename_i xs ys;obtain⟨aK,rfl⟩:=id g;exact .inr (.inr (.inr (PK H A σ _ _ v w _ Q R q1 q2 g λv' H' f=>c v' H' f.same (f.Er λ_=>R.new))))
def gI (C:Int->Int->Prop)(f:Int->Int->PV):G2
 |.int i,.int j,z=>C i j/\z=f i j
 |_,_,_=>False
theorem yb {C:Int->Int->Prop}{f:Int->Int->V}{g:Int->Int->PV}(h:∀ N H i j,RV K N H (g i j) (f i j)):dX K (rI C f) (gI C g):=by
 intro H A σ x y v w z Q R q1 q2 g c;cases x<;>cases y<;>try exact g.elim
 obtain⟨hc,rfl⟩:=g;cases q1.int;cases q2.int;exact⟨_,_,rfl,rfl,hc,c _ H (aQ.refl H) (h _ _ _ _)⟩
def qo (f:Int->Int->PV):G2
 |.int i,.int j,z=>z=f i j
 |_,_,_=>False
theorem yc {f:Int->Int->V}{g:Int->Int->PV}(h:∀ N H i j,RV K N H (g i j) (f i j)):dX K (iP f) (qo g):=by
 intro H A σ x y v w z Q R q1 q2 g c;cases x<;>cases y<;>try exact g.elim
 cases g;cases q1.int;cases q2.int;exact⟨_,_,rfl,rfl,c _ H (aQ.refl H) (h _ _ _ _)⟩
end
section
variable {X:Cx}{K:Frag}{a b:Expr}{ua ub:UE}{pos:Pos}
theorem gU (hK:X.K=K)(ha:PE X a (aO K ua))(hb:PE X b (aO K ub)):PE X (.BinOp a .Add b pos) (aD K (u2 qm ua ub)):=qh (PJ hK) PL ha hb
theorem PM (ha:PE X a (aO K ua))(hb:PE X b (aO K ub)):PE X (.BinOp a .Sub b pos) (aD K (u2 (qo λi j=>.int (i-j)) ua ub)):=qh LF (yc λ_ _ _ _=>.int _) ha hb
theorem PN (ha:PE X a (aO K ua))(hb:PE X b (aO K ub)):PE X (.BinOp a .Mult b pos) (aD K (u2 (gI pH λi j=>.int (i*j)) ua ub)):=qh mh (yb λ_ _ _ _=>.int _) ha hb
theorem E8 (ha:PE X a (aO K ua))(hb:PE X b (aO K ub)):PE X (.BinOp a .Mod b pos) (aD K (u2 (gI (λ_ j=>0<j) λi j=>.int (i % j)) ua ub)):=qh kO (yb λ_ _ _ _=>.int _) ha hb
end
mutual
noncomputable def a8:PV->PV->Bool
 |.ai,.ai=>true
 |.bl a,.bl b=>a==b
 |.bl a,.int b=>(if a then 1 else 0)==b
 |.int a,.bl b=>a==(if b then 1 else 0)
 |.int a,.int b=>a==b
 |.str a,.str b=>a==b
 |.tup xs,.tup ys=>bj xs ys
 |.lst xs,.lst ys=>bj xs ys
 |_,_=>false
noncomputable def bj:af->af->Bool
 |[],[]=>true
 |x::xs,y::ys=>a8 x y&&bj xs ys
 |_,_=>false
end
mutual
noncomputable def oi:PV->Option Nat
 |.tup xs=>(i5 xs).map (·+1)
 |.lst xs=>(i5 xs).map (·+1)
 |.raw _=>none
 |.ah _=>none
 |_=>some 0
noncomputable def i5:af->Option Nat
 |[]=>some 0
 |x::xs=>match oi x,i5 xs with
  |some m,some n=>some (max m n)
  |_,_=>none
end
def Dp (n:Nat)(x:PV):Prop:=∃ m,oi x=some m/\m<=n
theorem PQ {n:Nat}{x:PV}{xs:af}:(∃ m,i5 (x::xs)=some m/\m<=n)↔Dp n x/\∃ m,i5 xs=some m/\m<=n:=by
 constructor
 ·rintro⟨m,e,h⟩;unfold i5 at e
  split at e
  ·rename_i a b e1 e2;cases e;exact⟨⟨a,e1,by omega⟩,b,e2,by omega⟩
  ·cases e
 ·rintro⟨⟨a,e1,h1⟩,b,e2,h2⟩;refine⟨max a b,?_,by omega⟩;unfold i5;rw[e1,e2]
theorem j6 {n:Nat}{xs:af}:Dp (n+1) (.tup xs)↔∃ m,i5 xs=some m/\m<=n:=by
 unfold Dp oi;constructor
 ·rintro⟨m,e,h⟩;obtain⟨k,hk,rfl⟩:=Option.map_eq_some_iff.mp e;exact⟨k,hk,by omega⟩
 ·rintro⟨m,e,h⟩;exact⟨m+1,by rw[e];rfl,by omega⟩
theorem j7 {n:Nat}{xs:af}:Dp (n+1) (.lst xs)↔∃ m,i5 xs=some m/\m<=n:=by
 unfold Dp oi;constructor
 ·rintro⟨m,e,h⟩;obtain⟨k,hk,rfl⟩:=Option.map_eq_some_iff.mp e;exact⟨k,hk,by omega⟩
 ·rintro⟨m,e,h⟩;exact⟨m+1,by rw[e];rfl,by omega⟩
theorem oj {xs:af}:¬ Dp 0 (.tup xs):=by
 rintro⟨m,e,h⟩;unfold oi at e;obtain⟨k,hk,rfl⟩:=Option.map_eq_some_iff.mp e;omega
theorem om {xs:af}:¬ Dp 0 (.lst xs):=by
 rintro⟨m,e,h⟩;unfold oi at e;obtain⟨k,hk,rfl⟩:=Option.map_eq_some_iff.mp e;omega
theorem eK {n:Nat}:∀{xs:af},(∃ m,i5 xs=some m/\m<=n)↔∀ x∈xs,Dp n x
 |[]=>by simp [i5]
 |x::xs=>by
  rw[PQ,eK];simp
mutual
theorem yd:∀(n:Nat)(x:PV),Dp n x->a8 x x=true
 |_,.ai,_=>rfl
 |_,.bl b,_=>by simp [a8]
 |_,.int b,_=>by simp [a8]
 |_,.str b,_=>by simp [a8]
 |0,.tup xs,h=>absurd h oj
 |0,.lst xs,h=>absurd h om
 |n+1,.tup xs,h=>by
  show bj xs xs=true;exact ye n xs (eK.mp (j6.mp h))
 |n+1,.lst xs,h=>by
  show bj xs xs=true;exact ye n xs (eK.mp (j7.mp h))
 |_,.raw v,⟨m,e,_⟩=>by cases e
 |_,.ah v,⟨m,e,_⟩=>by cases e
theorem ye:∀(n:Nat)(xs:af),(∀ x∈xs,Dp n x)->bj xs xs=true
 |_,[],_=>rfl
 |n,x::xs,h=>by
  show(a8 x x&&bj xs xs)=true;rw[yd n x (h x (by simp)),ye n xs λy hy=>h y (by simp [hy])];rfl
end
noncomputable def ej (xs ys:af)(j:Nat):Bool:=match xs[j]?,ys[j]? with
 |some x,some y=>a8 x y
 |_,_=>false
theorem yf:∀(xs ys:af),bj xs ys=((range (min xs.length ys.length)).all (ej xs ys)&&xs.length==ys.length)
 |[],[]=>by simp [bj]
 |[],y::ys=>by simp [bj]
 |x::xs,[]=>by simp [bj]
 |x::xs,y::ys=>by
  have ih:=yf xs ys;have e1:min (x::xs).length (y::ys).length=min xs.length ys.length+1:=by simp only[length_cons];omega
  have e2:((x::xs).length==(y::ys).length)=(xs.length==ys.length):=by simp
  have e3:ej (x::xs) (y::ys) 0=a8 x y:=rfl;have e4:(ej (x::xs) (y::ys))∘Nat.succ=ej xs ys:=by funext j;simp [ej]
  rw[e1,e2,range_succ_eq_map,all_cons,all_map,e3,e4];show(a8 x y&&bj xs ys)=_;rw[ih,Bool.and_assoc]
section
variable {X:Cx}{pins:aL}{σ:St}{H:Hp}{s:Shared}{N:Addr->Prop}
theorem E9 (I:Inv X pins σ H s){a:Addr}{vs ws:Zv}(h1:aS X.K H a vs)(h2:H a=some (.lst ws)):False:=by
 obtain⟨its,_,p,_⟩:=I.tuple h1;obtain⟨its',_,q,_⟩:=I.list (aC.of (K:=X.K) h2);obtain⟨o,e1,c1,_⟩:=p;obtain⟨o',n,e2,c2,_⟩:=q;rw[e1] at e2;cases e2;rw[c1] at c2;injection c2 with c2
 exact absurd c2 (by decide)
mutual
theorem tf (I:Inv X pins σ H s):∀(n:Nat)(x y:PV)(v:V),Dp n x->Dp n y->RV X.K N H x v->RV X.K N H y v->a8 x y=true
 |n,.ai,y,v,_,hy,r1,r2=>by cases r1;cases r2<;>first|(obtain⟨m,e,_⟩:=hy;cases e;done)|rfl|simp [a8]
 |n,.bl b,y,v,_,hy,r1,r2=>by cases r1;cases r2<;>first|(obtain⟨m,e,_⟩:=hy;cases e;done)|rfl|simp [a8]
 |n,.int b,y,v,_,hy,r1,r2=>by cases r1;cases r2<;>first|(obtain⟨m,e,_⟩:=hy;cases e;done)|rfl|simp [a8]
 |n,.str b,y,v,_,hy,r1,r2=>by cases r1;cases r2<;>first|(obtain⟨m,e,_⟩:=hy;cases e;done)|rfl|simp [a8]
 |0,.tup xs,y,v,h,_,_,_=>absurd h oj
 |0,.lst xs,y,v,h,_,_,_=>absurd h om
 |n+1,.tup xs,y,v,hx,hy,r1,r2=>by
  cases r1 with
  |tup h1 h2=>
   cases r2 with
   |raw=>obtain⟨m,e,_⟩:=hy;cases e
   |tup g1 g2=>
    have e:=I.pA h1 g1;subst e;exact yg I n _ _ _ (eK.mp (j6.mp hx)) (eK.mp (j6.mp hy)) h2 g2
   |lst _ g1 g2=>exact(E9 I h1 g1).elim
   |ah _ _ _=>obtain⟨m,e,_⟩:=hy;cases e
 |n+1,.lst xs,y,v,hx,hy,r1,r2=>by
  cases r1 with
  |lst _ h1 h2=>
   cases r2 with
   |raw=>obtain⟨m,e,_⟩:=hy;cases e
   |tup g1 g2=>exact(E9 I g1 h1).elim
   |lst _ g1 g2=>
    rw[h1] at g1;cases g1;exact yg I n _ _ _ (eK.mp (j7.mp hx)) (eK.mp (j7.mp hy)) h2 g2
   |ah _ _ _=>obtain⟨m,e,_⟩:=hy;cases e
 |_,.raw v,_,_,⟨m,e,_⟩,_,_,_=>by cases e
 |_,.ah v,_,_,⟨m,e,_⟩,_,_,_=>by cases e
theorem yg (I:Inv X pins σ H s):∀(n:Nat)(xs ys:af)(vs:Zv),(∀ x∈xs,Dp n x)->(∀ x∈ys,Dp n x)->aI X.K N H xs vs->aI X.K N H ys vs->bj xs ys=true
 |_,[],ys,_,_,_,.nil,r2=>by cases r2;rfl
 |n,x::xs,ys,_,hx,hy,.cons r1 q1,r2=>by
  cases r2 with
  |cons r2 q2=>
   show(a8 x _&&bj xs _)=true;rw[tf I n x _ _ (hx x (by simp)) (hy _ (by simp)) r1 r2,yg I n xs _ _ (λy h=>hx y (by simp [h])) (λy h=>hy y (by simp [h])) q1 q2];rfl
end
theorem tj {A:Around}{n:Nat}{xs ys:af}{vs ws:Zv}{us gp:aR}(r1:aI X.K N H xs vs)(r2:aI X.K N H ys ws)(q1:Vals vs us)(q2:Vals ws gp)(d1:∀ x∈xs,Dp n x)(d2:∀ x∈ys,Dp n x)
  (hR:∀ x y v w u u',Dp n x->Dp n y->RV X.K N H x v->RV X.K N H y w->RelV v u->RelV w u'->SeqAt.EqAt A s u u' (a8 x y)):∀ j (h1:j<us.toArray.size)(h2:j<gp.toArray.size),SeqAt.EqAt A s us.toArray[j] gp.toArray[j] (ej xs ys j):=by
 refine NH (R:=λv w b=>∃ x y,Dp n x/\Dp n y/\RV X.K N H x v/\RV X.K N H y w/\b=a8 x y) q1 q2 (λj v w hv hw=>?_) λv w b u u' ⟨x,y,e1,e2,e3,e4,e5⟩ ru rw=>by subst e5;exact hR x y v w u u' e1 e2 e3 e4 ru rw
 obtain⟨x,hx,rx⟩:=r1.at' hv;obtain⟨y,hy,ry⟩:=r2.at' hw;refine⟨x,y,d1 x (mem_of_getElem? hx),d2 y (mem_of_getElem? hy),rx,ry,?_⟩;unfold ej;rw[hx,hy]
theorem E_ {A:Around}{n:Nat}{xs ys:af}{vs ws:Zv}{a b:Addr}(I:Inv X pins σ H s)(hu:A.units<cLine)(h1:aS X.K H a vs)(h2:aS X.K H b ws)(r1:aI X.K N H xs vs)(r2:aI X.K N H ys ws)(d1:∀ x∈xs,Dp n x)(d2:∀ x∈ys,Dp n x)
  (hR:∀ x y v w u u',Dp n x->Dp n y->RV X.K N H x v->RV X.K N H y w->RelV v u->RelV w u'->SeqAt.EqAt A.in1 s u u' (a8 x y)):SeqAt.RcAt A s (.ref a) (.ref b) (bj xs ys)/\SeqAt.RcNeAt A s (.ref a) (.ref b) (!bj xs ys):=by
 obtain⟨us,q1,p1,_⟩:=I.tuple h1;obtain⟨gp,q2,p2,_⟩:=I.tuple h2;have z:=SeqAt.RcAt.tuples (A:=A) (s:=s) (e:=ej xs ys) (show s.heap.IsTuple a us.toArray from p1) (show s.heap.IsTuple b gp.toArray from p2) hu (tj r1 r2 q1 q2 d1 d2 hR);have z2:=SeqAt.RcNeAt.tuples (A:=A) (s:=s) (e:=ej xs ys) (show s.heap.IsTuple a us.toArray from p1) (show s.heap.IsTuple b gp.toArray from p2) hu (tj r1 r2 q1 q2 d1 d2 hR);simp only[size_toArray] at z z2;rw[<- q1.length,<- q2.length,<- r1.len,<- r2.len] at z z2;rw[yf];exact⟨z,z2⟩
theorem Fb {A:Around}{n:Nat}{xs ys:af}{vs ws:Zv}{a b:Addr}(I:Inv X pins σ H s)(hu:A.units<cLine)(h1:H a=some (.lst vs))(h2:H b=some (.lst ws))(r1:aI X.K N H xs vs)(r2:aI X.K N H ys ws)(d1:∀ x∈xs,Dp n x)(d2:∀ x∈ys,Dp n x)
  (hR:∀ x y v w u u',Dp n x->Dp n y->RV X.K N H x v->RV X.K N H y w->RelV v u->RelV w u'->SeqAt.EqAt A.in1 s u u' (a8 x y)):SeqAt.RcAt A s (.ref a) (.ref b) (bj xs ys)/\SeqAt.RcNeAt A s (.ref a) (.ref b) (!bj xs ys):=by
 obtain⟨us,q1,p1,_⟩:=I.list (aC.of (K:=X.K) h1);obtain⟨gp,q2,p2,_⟩:=I.list (aC.of (K:=X.K) h2);have l1:=q1.length;have l2:=q2.length;have l3:=r1.len;have l4:=r2.len;rw[yf];by_cases hz:xs.length=ys.length
 ·have z:=SeqAt.RcAt.lists (A:=A) (s:=s) (e:=ej xs ys) p1.isList p2.isList (by simp;omega) hu (tj r1 r2 q1 q2 d1 d2 hR);have z2:=SeqAt.RcNeAt.lists (A:=A) (s:=s) (e:=ej xs ys) p1.isList p2.isList (by simp;omega) hu (tj r1 r2 q1 q2 d1 d2 hR);simp only[size_toArray] at z z2;rw[<- l1,<- l3] at z z2;rw[hz,Nat.min_self,beq_self_eq_true,Bool.and_true,<- hz];exact⟨z,z2⟩
 ·rw[show(xs.length==ys.length)=false by simpa using hz,Bool.and_false];exact⟨SeqAt.RcAt.lists_lengths (A:=A) (s:=s) p1.isList p2.isList (by simp;omega) hu,SeqAt.RcNeAt.lists_lengths (A:=A) (s:=s) p1.isList p2.isList (by simp;omega) hu⟩
noncomputable def lA:PV->Bool
 |.ai=>true
 |.bl _=>true
 |.int _=>true
 |.str _=>true
 |_=>false
theorem oo {x:PV}{v:V}(h:lA x=true)(r:RV X.K N H x v):mr v=true:=by
 cases r<;>first|rfl|cases h
theorem yh {x y:PV}{v w:V}(hx:lA x=true)(hy:lA y=true)(r1:RV X.K N H x v)(r2:RV X.K N H y w):pU v w=a8 x y:=by
 cases r1<;>(first|(cases hx;done)|(cases r2<;>first|(cases hy;done)|rfl))
theorem yi (I:Inv X pins σ H s):∀(n:Nat)(A:Around)(x y:PV)(v w:V)(u u':Value),A.units+n<cLine->Dp n x->Dp n y->RV X.K N H x v->RV X.K N H y w->RelV v u->RelV w u'->SeqAt.EqAt A s u u' (a8 x y):=by
 intro n
 induction n with
 |zero=>
  intro A x y v w u u' hu hx hy r1 r2 q1 q2
  have fx:lA x=true:=by
   cases x<;>first|rfl|exact absurd hx oj|exact absurd hx om|(obtain⟨m,e,_⟩:=hx;cases e)
  have fy:lA y=true:=by
   cases y<;>first|rfl|exact absurd hy oj|exact absurd hy om|(obtain⟨m,e,_⟩:=hy;cases e)
  rw[<- yh fx fy r1 r2];exact Cr (oo fx r1) (oo fy r2) q1 q2
 |succ n ih=>
  intro A x y v w u u' hu hx hy r1 r2 q1 q2;by_cases fx:lA x=true
  ·by_cases fy:lA y=true
   ·rw[<- yh fx fy r1 r2];exact Cr (oo fx r1) (oo fy r2) q1 q2
   ·cases r2<;>first|exact absurd rfl fy|(obtain⟨m,e,_⟩:=hy;cases e;done)|skip
    ·rename_i a xs vs h1 h2;cases q2;obtain⟨us,_,p,_⟩:=I.tuple h1;have p':s.heap.IsTuple a us.toArray:=p;cases r1<;>first|(cases fx;done)|skip
     ·cases q1;exact SeqAt.EqAt.none_tuple p' (by omega)
     ·cases q1;exact SeqAt.EqAt.bool_tuple _ p' (by omega)
     ·obtain⟨t,rfl⟩:=q1;exact SeqAt.EqAt.int_tuple _ _ p' (by omega)
     ·obtain⟨t,rfl⟩:=q1;exact SeqAt.EqAt.str_tuple _ _ p' (by omega)
    ·rename_i a xs vs na h1 h2;cases q2;obtain⟨us,_,p,_⟩:=I.list (aC.of (K:=X.K) h1);have p':=p.isList;cases r1<;>first|(cases fx;done)|skip
     ·cases q1;exact SeqAt.EqAt.none_list p' (by omega)
     ·cases q1;exact SeqAt.EqAt.bool_list _ p' (by omega)
     ·obtain⟨t,rfl⟩:=q1;exact SeqAt.EqAt.int_list _ _ p' (by omega)
     ·obtain⟨t,rfl⟩:=q1;exact SeqAt.EqAt.str_list _ _ p' (by omega)
  ·cases r1<;>first|exact absurd rfl fx|(obtain⟨m,e,_⟩:=hx;cases e;done)|skip
   ·rename_i a xs vs h1 h2;cases q1;obtain⟨us,_,p,_⟩:=I.tuple h1;have p':s.heap.IsTuple a us.toArray:=p;cases r2<;>first|(obtain⟨m,e,_⟩:=hy;cases e;done)|skip
    ·cases q2;exact SeqAt.EqAt.tuple_none p' (by omega)
    ·cases q2;exact SeqAt.EqAt.tuple_bool _ p' (by omega)
    ·obtain⟨t,rfl⟩:=q2;exact SeqAt.EqAt.tuple_int _ _ p' (by omega)
    ·obtain⟨t,rfl⟩:=q2;exact SeqAt.EqAt.tuple_str _ _ p' (by omega)
    ·rename_i b ys ws g1 g2;cases q2;by_cases e:a=b
     ·subst e;rw[tf I (n+1) _ _ _ hx hy (.tup h1 h2) (.tup g1 g2)];exact SeqAt.EqAt.same _
     ·exact .of_refs e (E_ I (by omega) h1 g1 h2 g2 (eK.mp (j6.mp hx)) (eK.mp (j6.mp hy)) λx y v w u u' a1 a2 a3 a4 a5 a6=>ih A.in1 x y v w u u' (by rw[in1_units];omega) a1 a2 a3 a4 a5 a6).1
    ·rename_i b ys ws nb g1 g2;cases q2;obtain⟨gp,_,p2,_⟩:=I.list (aC.of (K:=X.K) g1);exact SeqAt.EqAt.tuple_list p' p2.isList (by omega)
   ·rename_i a xs vs na h1 h2;cases q1;obtain⟨us,_,p,_⟩:=I.list (aC.of (K:=X.K) h1);have p':=p.isList;cases r2<;>first|(obtain⟨m,e,_⟩:=hy;cases e;done)|skip
    ·cases q2;exact SeqAt.EqAt.list_none p' (by omega)
    ·cases q2;exact SeqAt.EqAt.list_bool _ p' (by omega)
    ·obtain⟨t,rfl⟩:=q2;exact SeqAt.EqAt.list_int _ _ p' (by omega)
    ·obtain⟨t,rfl⟩:=q2;exact SeqAt.EqAt.list_str _ _ p' (by omega)
    ·rename_i b ys ws g1 g2;cases q2;obtain⟨gp,_,p2,_⟩:=I.tuple g1;exact SeqAt.EqAt.list_tuple p' (show s.heap.IsTuple b gp.toArray from p2) (by omega)
    ·rename_i b ys ws nb g1 g2;cases q2;by_cases e:a=b
     ·subst e;rw[tf I (n+1) _ _ _ hx hy (.lst na h1 h2) (.lst nb g1 g2)];exact SeqAt.EqAt.same _
     ·exact .of_refs e (Fb I (by omega) h1 g1 h2 g2 (eK.mp (j7.mp hx)) (eK.mp (j7.mp hy)) λx y v w u u' a1 a2 a3 a4 a5 a6=>ih A.in1 x y v w u u' (by rw[in1_units];omega) a1 a2 a3 a4 a5 a6).1
end
mutual
noncomputable def iy:PV->PV
 |.bl b=>.int (if b then 1 else 0)
 |.tup xs=>.tup (gW xs)
 |.lst xs=>.lst (gW xs)
 |x=>x
noncomputable def gW:af->af
 |[]=>[]
 |x::xs=>iy x::gW xs
end
mutual
theorem tm:∀(n:Nat)(x y:PV),Dp n x->Dp n y->(a8 x y=true↔iy x=iy y)
 |n,.ai,y,_,hy=>by cases y<;>first|(obtain⟨m,e,_⟩:=hy;cases e;done)|simp [a8,iy]
 |n,.bl b,y,_,hy=>by cases y<;>first|(obtain⟨m,e,_⟩:=hy;cases e;done)|(simp [a8,iy];done)|(rename_i c;cases b<;>cases c<;>simp [a8,iy])
 |n,.int b,y,_,hy=>by cases y<;>first|(obtain⟨m,e,_⟩:=hy;cases e;done)|simp [a8,iy]
 |n,.str b,y,_,hy=>by cases y<;>first|(obtain⟨m,e,_⟩:=hy;cases e;done)|simp [a8,iy]
 |0,.tup xs,y,h,_=>absurd h oj
 |0,.lst xs,y,h,_=>absurd h om
 |n+1,.tup xs,y,hx,hy=>by
  cases y with
  |tup ys=>
   show bj xs ys=true↔PV.tup (gW xs)=PV.tup (gW ys);rw[yj n xs ys (eK.mp (j6.mp hx)) (eK.mp (j6.mp hy))];simp
  |raw _=>obtain⟨m,e,_⟩:=hy;cases e
  |ah _=>obtain⟨m,e,_⟩:=hy;cases e
  |_=>simp [a8,iy]
 |n+1,.lst xs,y,hx,hy=>by
  cases y with
  |lst ys=>
   show bj xs ys=true↔PV.lst (gW xs)=PV.lst (gW ys);rw[yj n xs ys (eK.mp (j7.mp hx)) (eK.mp (j7.mp hy))];simp
  |raw _=>obtain⟨m,e,_⟩:=hy;cases e
  |ah _=>obtain⟨m,e,_⟩:=hy;cases e
  |_=>simp [a8,iy]
 |_,.raw v,_,⟨m,e,_⟩,_=>by cases e
 |_,.ah v,_,⟨m,e,_⟩,_=>by cases e
theorem yj:∀(n:Nat)(xs ys:af),(∀ x∈xs,Dp n x)->(∀ x∈ys,Dp n x)->(bj xs ys=true↔gW xs=gW ys)
 |_,[],ys,_,_=>by cases ys<;>simp [bj,gW]
 |n,x::xs,ys,hx,hy=>by
  cases ys with
  |nil=>simp [bj,gW]
  |cons y ys=>
   show(a8 x y&&bj xs ys)=true↔iy x::gW xs=iy y::gW ys;rw[Bool.and_eq_true,tm n x y (hx x (by simp)) (hy y (by simp)),yj n xs ys (λz h=>hx z (by simp [h])) (λz h=>hy z (by simp [h]))];simp
end
def mN (K:Frag)(N:Addr->Prop)(H:Hp)(p:PV)(v:V):Prop:=RV K N H p v\/∃ a xs vs,p=.lst xs/\v=.ref a/\H a=some (.lst vs)/\aI K N H xs vs
theorem cv.r {K:Frag}{A:AS}{H:Hp}{σ:St}{p:PV}{v:V}(R:Rep K H σ A)(h:cv K A H p v)(hd:∀ k,p≠.ah k):mN K (AN A) H p v:=by
 rcases id h with h'|⟨i,a,c,hl,rfl,rfl⟩
 ·exact .inl h'
 ·cases c with
  |lst xs=>obtain⟨a,vs,h1,h2,h3⟩:=h.lst R;exact .inr ⟨a,xs,vs,rfl,h1,h2,h3⟩
  |ah xs=>exact absurd rfl (hd xs)
  |ins _ _ _=>exact hl.2.elim
  |bQ _=>exact hl.2.elim
def yk (K:Frag)(neg:Bool):R2:=λx y H Q=>∃ N px py n,n<=80/\Dp n px/\Dp n py/\mN K N H px x/\mN K N H py y/\Q (.bl (neg^^a8 px py)) H
section
variable {X:Cx}{pins:aL}{σ:St}{H:Hp}{s:Shared}{N:Addr->Prop}
theorem PR {A:Around}{x y:V}{u v:Value}(fx:mr x=true)(fy:mr y=true)(rx:RelV x u)(ry:RelV y v):SeqAt.RcAt A s u v (pU x y)/\SeqAt.RcNeAt A s u v (!pU x y):=by
 cases x<;>first|(cases fx;done)|skip
 ·cases rx;cases y<;>first|(cases fy;done)|skip
  ·cases ry;exact⟨.none_none,.none_none⟩
  ·cases ry;exact⟨.none_bool _,.none_bool _⟩
  ·obtain⟨t,rfl⟩:=ry;exact⟨.none_int _ _,.none_int _ _⟩
  ·obtain⟨t,rfl⟩:=ry;exact⟨.none_str _ _,.none_str _ _⟩
 ·cases rx;cases y<;>first|(cases fy;done)|skip
  ·cases ry;exact⟨.bool_none _,.bool_none _⟩
  ·cases ry;exact⟨.bool_bool _ _,.bool_bool _ _⟩
  ·obtain⟨t,rfl⟩:=ry;exact⟨.bool_int _ _ _,.bool_int _ _ _⟩
  ·obtain⟨t,rfl⟩:=ry;exact⟨.bool_str _ _ _,.bool_str _ _ _⟩
 ·obtain⟨t,rfl⟩:=rx;cases y<;>first|(cases fy;done)|skip
  ·cases ry;exact⟨.int_none _ _,.int_none _ _⟩
  ·cases ry;exact⟨.int_bool _ _ _,.int_bool _ _ _⟩
  ·obtain⟨t,rfl⟩:=ry;exact⟨.int_int _ _ _ _,.int_int _ _ _ _⟩
  ·obtain⟨t,rfl⟩:=ry;exact⟨.int_str _ _ _ _,.int_str _ _ _ _⟩
 ·obtain⟨t,rfl⟩:=rx;cases y<;>first|(cases fy;done)|skip
  ·cases ry;exact⟨.str_none _ _,.str_none _ _⟩
  ·cases ry;exact⟨.str_bool _ _ _,.str_bool _ _ _⟩
  ·obtain⟨t,rfl⟩:=ry;exact⟨.str_int _ _ _ _,.str_int _ _ _ _⟩
  ·obtain⟨t,rfl⟩:=ry;exact⟨.str_str _ _ _ _,.str_str _ _ _ _⟩
theorem mN.get {p:PV}{v:V}{n:Nat}(d:Dp n p)(h:mN X.K N H p v):(lA p=true/\RV X.K N H p v)\/(∃ xs a vs m,n=m+1/\p=.tup xs/\v=.ref a/\aS X.K H a vs/\aI X.K N H xs vs/\∀ x∈xs,Dp m x) \/
  ∃ xs a vs m,n=m+1/\p=.lst xs/\v=.ref a/\H a=some (.lst vs)/\aI X.K N H xs vs/\∀ x∈xs,Dp m x:=by
 have g:∀ xs,p=.lst xs->∃ m,n=m+1/\∀ x∈xs,Dp m x:=λxs e=>by
  subst e
  cases n with
  |zero=>exact absurd d om
  |succ m=>exact⟨m,rfl,eK.mp (j7.mp d)⟩
 rcases h with h|⟨a,xs,vs,e,rfl,h1,h2⟩
 ·cases id h<;>first|exact .inl ⟨rfl,h⟩|skip
  ·obtain⟨m,e,_⟩:=d;cases e
  ·rename_i a xs vs h1 h2
   cases n with
   |zero=>exact absurd d oj
   |succ m=>exact .inr (.inl ⟨xs,a,vs,m,rfl,rfl,rfl,h1,h2,eK.mp (j6.mp d)⟩)
  ·rename_i a xs vs _ h1 h2;obtain⟨m,e,q⟩:=g xs rfl;exact .inr (.inr ⟨xs,a,vs,m,e,rfl,rfl,h1,h2,q⟩)
  ·obtain⟨m,e,_⟩:=d;cases e
 ·obtain⟨m,e',q⟩:=g xs e;exact .inr (.inr ⟨xs,a,vs,m,e',e,rfl,h1,h2,q⟩)
theorem Fc (I:Inv X pins σ H s){n:Nat}{A:Around}{x y:PV}{v w:V}{u u':Value}(hu:A.units+n<cLine)(hx:Dp n x)(hy:Dp n y)(r1:mN X.K N H x v)(r2:mN X.K N H y w)(q1:RelV v u)(q2:RelV w u') :
  SeqAt.RcAt A s u u' (a8 x y)/\SeqAt.RcNeAt A s u u' (!a8 x y):=by
 have deep:∀ m,n=m+1->∀ x y v w u u',Dp m x->Dp m y->RV X.K N H x v->RV X.K N H y w->RelV v u->RelV w u'->SeqAt.EqAt A.in1 s u u' (a8 x y):=λm e x y v w u u' a1 a2 a3 a4 a5 a6=>yi I m A.in1 x y v w u u' (by rw[in1_units];omega) a1 a2 a3 a4 a5 a6;have bY:A.units<cLine:=by omega
 rcases r1.get hx with ⟨fx,r1⟩|⟨xs,a,vs,m,e,rfl,rfl,h1,h2,d1⟩|⟨xs,a,vs,m,e,rfl,rfl,h1,h2,d1⟩
 ·rcases r2.get hy with ⟨fy,r2⟩|⟨ys,b,ws,m',e',rfl,rfl,g1,g2,d2⟩|⟨ys,b,ws,m',e',rfl,rfl,g1,g2,d2⟩
  ·rw[<- yh fx fy r1 r2];exact PR (oo fx r1) (oo fy r2) q1 q2
  ·cases q2;obtain⟨us,_,p,_⟩:=I.tuple g1;have p':s.heap.IsTuple b us.toArray:=p;cases r1<;>first|(cases fx;done)|skip
   ·cases q1;exact⟨.none_tuple p' bY,.none_tuple p' bY⟩
   ·cases q1;exact⟨.bool_tuple _ p' bY,.bool_tuple _ p' bY⟩
   ·obtain⟨t,rfl⟩:=q1;exact⟨.int_tuple _ _ p' bY,.int_tuple _ _ p' bY⟩
   ·obtain⟨t,rfl⟩:=q1;exact⟨.str_tuple _ _ p' bY,.str_tuple _ _ p' bY⟩
  ·cases q2;obtain⟨us,_,p,_⟩:=I.list (aC.of (K:=X.K) g1);have p':=p.isList;cases r1<;>first|(cases fx;done)|skip
   ·cases q1;exact⟨.none_list p' bY,.none_list p' bY⟩
   ·cases q1;exact⟨.bool_list _ p' bY,.bool_list _ p' bY⟩
   ·obtain⟨t,rfl⟩:=q1;exact⟨.int_list _ _ p' bY,.int_list _ _ p' bY⟩
   ·obtain⟨t,rfl⟩:=q1;exact⟨.str_list _ _ p' bY,.str_list _ _ p' bY⟩
 ·cases q1;obtain⟨us,_,p,_⟩:=I.tuple h1;have p':s.heap.IsTuple a us.toArray:=p;rcases r2.get hy with ⟨fy,r2⟩|⟨ys,b,ws,m',e',rfl,rfl,g1,g2,d2⟩|⟨ys,b,ws,m',e',rfl,rfl,g1,g2,d2⟩
  ·cases r2<;>first|(cases fy;done)|skip
   ·cases q2;exact⟨.tuple_none p' bY,.tuple_none p' bY⟩
   ·cases q2;exact⟨.tuple_bool _ p' bY,.tuple_bool _ p' bY⟩
   ·obtain⟨t,rfl⟩:=q2;exact⟨.tuple_int _ _ p' bY,.tuple_int _ _ p' bY⟩
   ·obtain⟨t,rfl⟩:=q2;exact⟨.tuple_str _ _ p' bY,.tuple_str _ _ p' bY⟩
  ·cases q2;have em:m'=m:=by omega
   subst em;exact E_ I bY h1 g1 h2 g2 d1 d2 (deep _ e)
  ·cases q2;obtain⟨gp,_,p2,_⟩:=I.list (aC.of (K:=X.K) g1);exact⟨.tuple_list p' p2.isList bY,.tuple_list p' p2.isList bY⟩
 ·cases q1;obtain⟨us,_,p,_⟩:=I.list (aC.of (K:=X.K) h1);have p':=p.isList;rcases r2.get hy with ⟨fy,r2⟩|⟨ys,b,ws,m',e',rfl,rfl,g1,g2,d2⟩|⟨ys,b,ws,m',e',rfl,rfl,g1,g2,d2⟩
  ·cases r2<;>first|(cases fy;done)|skip
   ·cases q2;exact⟨.list_none p' bY,.list_none p' bY⟩
   ·cases q2;exact⟨.list_bool _ p' bY,.list_bool _ p' bY⟩
   ·obtain⟨t,rfl⟩:=q2;exact⟨.list_int _ _ p' bY,.list_int _ _ p' bY⟩
   ·obtain⟨t,rfl⟩:=q2;exact⟨.list_str _ _ p' bY,.list_str _ _ p' bY⟩
  ·cases q2;obtain⟨gp,_,p2,_⟩:=I.tuple g1;exact⟨.list_tuple p' (show s.heap.IsTuple b gp.toArray from p2) bY,.list_tuple p' (show s.heap.IsTuple b gp.toArray from p2) bY⟩
  ·cases q2;have em:m'=m:=by omega
   subst em;exact Fb I bY h1 g1 h2 g2 d1 d2 (deep _ e)
end
section
variable {X:Cx}
theorem Fd (hu:X.A.units+100<cLine):bE X (compareOp .Eq) (yk X.K false):=by
 intro pins s σ H x y v u Q I rx ry h;obtain⟨N,px,py,n,hn,d1,d2,r1,r2,q⟩:=h;exact(Fc I (by omega) d1 d2 r1 r2 rx ry).1 X.prog X.w X.xe _ ⟨.bl _,H,I,rfl,by simpa using q⟩
theorem PU (hu:X.A.units+100<cLine):bE X (compareOp .NotEq) (yk X.K true):=by
 intro pins s σ H x y v u Q I rx ry h;obtain⟨N,px,py,n,hn,d1,d2,r1,r2,q⟩:=h;exact(Fc I (by omega) d1 d2 r1 r2 rx ry).2 X.prog X.w X.xe _ ⟨.bl _,H,I,rfl,by simpa using q⟩
end
def fI (neg:Bool):G2:=λx y z=>(∃ n,n<=80/\Dp n x/\Dp n y)/\z=.bl (neg^^a8 x y)
theorem yl {K:Frag}{neg:Bool}:dX K (yk K neg) (fI neg):=by
 intro H A σ x y v w z Q R q1 q2 g c;obtain⟨⟨n,hn,d1,d2⟩,rfl⟩:=g;have nd:∀{x:PV},Dp n x->∀ k,x≠.ah k:=λd k e=>by subst e;obtain⟨m,e,_⟩:=d;cases e
 exact⟨AN A,x,y,n,hn,d1,d2,q1.r R (nd d1),q2.r R (nd d2),c _ H (aQ.refl H) (.bl _)⟩
section
variable {X:Cx}{K:Frag}{a b:Expr}{ua ub:UE}{pos:Pos}{k:Nat}
theorem Fe (hK:X.K=K)(hr:bz k X.A)(ha:PE X a (aO K ua))(hb:PE X b (aO K ub)):PE X (.Compare a [.Eq] [b] pos) (aD K (u2 (fI false) ua ub)):=by
 subst hK;exact n6 (Fd (by have:=hr.un;omega)) yl ha hb (fB _)
theorem gq (hK:X.K=K)(hr:bz k X.A)(ha:PE X a (aO K ua))(hb:PE X b (aO K ub)):PT X (.Compare a [.Eq] [b] pos) (liftT K (gh (fI false) ua ub)):=by
 subst hK;exact lg (Fd (by have:=hr.un;omega)) yl ha hb (fB _)
theorem oq (hK:X.K=K)(hr:bz k X.A)(ha:PE X a (aO K ua))(hb:PE X b (aO K ub)):PT X (.Compare a [.NotEq] [b] pos) (liftT K (gh (fI true) ua ub)):=by
 subst hK;exact lg (PU (by have:=hr.un;omega)) yl ha hb (fB _)
end
noncomputable def pin (x:PV)(ys:af):Bool:=ys.any λy=>a8 y x
open Classical in
noncomputable def d6 (K:Frag)(N:Addr->Prop)(H:Hp)(n:Nat)(px:PV)(u:Value):Bool:=decide (∃ p v,RelV v u/\RV K N H p v/\Dp n p/\a8 p px=true)
section
variable {X:Cx}{pins:aL}{σ:St}{H:Hp}{s:Shared}{N:Addr->Prop}
open Classical in
theorem tq (I:Inv X pins σ H s){n:Nat}{px p:PV}{v:V}{u:Value}(dx:Dp n px)(dp:Dp n p)(r:RV X.K N H p v)(q:RelV v u):d6 X.K N H n px u=a8 p px:=by
 unfold d6;by_cases e:a8 p px=true
 ·rw[e];exact decide_eq_true ⟨p,v,q,r,dp,e⟩
 ·have e':a8 p px=false:=by simpa using e
  rw[e'];refine decide_eq_false ?_;rintro⟨p',v',q',r',ym,e2⟩;have ev:=q'.inj q;subst ev;have z:=(tm n p' p ym dp).mp (tf I n p' p _ ym dp r' r);have z2:=(tm n p' px ym dx).mp e2;exact e ((tm n p px dp dx).mpr (z.symm.trans z2))
theorem qp (I:Inv X pins σ H s){n:Nat}{px:PV}(dx:Dp n px):∀{ps:af}{vs:Zv}{us:aR},aI X.K N H ps vs->Vals vs us->(∀ p∈ps,Dp n p)->us.any (d6 X.K N H n px)=pin px ps
 |_,_,_,.nil,.nil,_=>rfl
 |_,_,_,.cons r rs,.cons q qs,d=>by
  rw[any_cons,tq I dx (d _ (by simp)) r q,qp I dx rs qs λp h=>d p (by simp [h])];rfl
theorem mO (I:Inv X pins σ H s){A:Around}{n:Nat}{px:PV}{x:V}{ux:Value}(hu:A.units+n<cLine)(dx:Dp n px)(rx:RV X.K N H px x)(qx:RelV x ux):∀{ps:af}{vs:Zv}{us:aR},aI X.K N H ps vs->Vals vs us->(∀ p∈ps,Dp n p) ->
  ∀ u∈us,SeqAt.EqAt A s u ux (d6 X.K N H n px u)
 |_,_,_,.nil,.nil,_=>λu h=>nomatch h
 |_,_,_,.cons r rs,.cons q qs,d=>λu h=>by
  rcases mem_cons.mp h with rfl|h
  ·rw[tq I dx (d _ (by simp)) r q];exact yi I n A _ _ _ _ _ _ hu (d _ (by simp)) dx r rx q qx
  ·exact mO I hu dx rx qx rs qs (λp h=>d p (by simp [h])) u h
end
def yn (K:Frag)(neg:Bool):R2:=λx y H Q=>∃ N px mP n,n<=80/\Dp n px/\(∀ p∈mP,Dp n p)/\RV K N H px x/\(∃ a vs,y=.ref a/\(aS K H a vs\/H a=some (.lst vs))/\aI K N H mP vs)/\Q (.bl (neg^^pin px mP)) H
section
variable {X:Cx}
theorem PX (hu:X.A.units+100<cLine):bE X (compareOp .In) (yn X.K false):=by
 intro pins s σ H x y v u Q I rx ry h;obtain⟨N,px,mP,n,hn,dx,dy,r1,⟨a,vs,rfl,hq,rs⟩,q⟩:=h;cases ry;have q':Q (.bl (pin px mP)) H:=by simpa using q
 rcases hq with hq|hq
 ·obtain⟨its,r,pl,hz⟩:=I.tuple hq;refine SeqAt.in_tupleAt (d6 X.K N H n px) pl (λw hw=>mO I (by rw[in1_units];omega) dx r1 rx rs r dy w (by simpa using hw)) ⟨.bl _,H,I,rfl,?_⟩;rw[show its.toArray.any (d6 X.K N H n px)=its.any (d6 X.K N H n px) by simp,qp I dx rs r dy];exact q'
 ·obtain⟨its,r,pl,hz⟩:=I.list (aC.of (K:=X.K) hq);refine SeqAt.in_listAt (d6 X.K N H n px) pl.isList (λw hw=>mO I (by rw[in1_units];omega) dx r1 rx rs r dy w (by simpa using hw)) ⟨.bl _,H,I,rfl,?_⟩;rw[show its.toArray.any (d6 X.K N H n px)=its.any (d6 X.K N H n px) by simp,qp I dx rs r dy];exact q'
theorem PY (hu:X.A.units+100<cLine):bE X (compareOp .NotIn) (yn X.K true):=by
 intro pins s σ H x y v u Q I rx ry h;obtain⟨N,px,mP,n,hn,dx,dy,r1,⟨a,vs,rfl,hq,rs⟩,q⟩:=h;cases ry;have q':Q (.bl (!pin px mP)) H:=by simpa using q
 rcases hq with hq|hq
 ·obtain⟨its,r,pl,hz⟩:=I.tuple hq;refine SeqAt.notIn_tupleAt (d6 X.K N H n px) pl (λw hw=>mO I (by rw[in1_units];omega) dx r1 rx rs r dy w (by simpa using hw)) ⟨.bl _,H,I,rfl,?_⟩;rw[show its.toArray.any (d6 X.K N H n px)=its.any (d6 X.K N H n px) by simp,qp I dx rs r dy];exact q'
 ·obtain⟨its,r,pl,hz⟩:=I.list (aC.of (K:=X.K) hq);refine SeqAt.notIn_listAt (d6 X.K N H n px) pl.isList (λw hw=>mO I (by rw[in1_units];omega) dx r1 rx rs r dy w (by simpa using hw)) ⟨.bl _,H,I,rfl,?_⟩;rw[show its.toArray.any (d6 X.K N H n px)=its.any (d6 X.K N H n px) by simp,qp I dx rs r dy];exact q'
end
noncomputable def ou (i j:Str):Bool:=!(Builtin.Str.occurrences j i 0 j.length 1).isEmpty
def PZ (neg:Bool):R2:=λx y H Q=>∃ i j,x=.str i/\y=.str j/\Q (.bl (neg^^ou i j)) H
def lB (K:Frag)(neg:Bool):R2:=λx y H Q=>yn K neg x y H Q\/PZ neg x y H Q
def tu (neg:Bool):G2
 |x,.tup ys,z=>(∀ c:OC,x≠c.pv)/\(∃ n,n<=80/\Dp n x/\∀ p∈ys,Dp n p)/\z=.bl (neg^^pin x ys)
 |x,.lst ys,z=>(∀ c:OC,x≠c.pv)/\(∃ n,n<=80/\Dp n x/\∀ p∈ys,Dp n p)/\z=.bl (neg^^pin x ys)
 |.str i,.str j,z=>z=.bl (neg^^ou i j)
 |_,_,_=>False
theorem P0 {K:Frag}{neg:Bool}:dX K (lB K neg) (tu neg):=by
 intro H A σ x y v w z Q R q1 q2 g c
 have main:∀ ys,((∀ c:OC,x≠c.pv)/\(∃ n,n<=80/\Dp n x/\∀ p∈ys,Dp n p)/\z=.bl (neg^^pin x ys))->(∃ a vs,w=.ref a/\(aS K H a vs\/H a=some (.lst vs))/\aI K (AN A) H ys vs)->lB K neg v w H Q:=by
  rintro ys ⟨nc,⟨n,hn,d1,d2⟩,rfl⟩ h;exact .inl ⟨AN A,x,ys,n,hn,d1,d2,q1.rv nc,h,c _ H (aQ.refl H) (.bl _)⟩
 cases y with
 |tup ys=>obtain⟨a,vs,rfl,h1,h2⟩:=q2.tup;exact main ys (by cases x<;>exact g) ⟨a,vs,rfl,.inl h1,h2⟩
 |lst ys=>obtain⟨a,vs,rfl,h1,h2⟩:=q2.lst R;exact main ys (by cases x<;>exact g) ⟨a,vs,rfl,.inr h1,h2⟩
 |str j=>
  cases x<;>first|exact g.elim|skip
  cases g;cases q1.str;cases q2.str;exact .inr ⟨_,_,rfl,rfl,c _ H (aQ.refl H) (.bl _)⟩
 |_=>cases x<;>exact g.elim
section
variable {X:Cx}{K:Frag}{a b:Expr}{ua ub:UE}{pos:Pos}{k:Nat}
theorem Ff (hK:X.K=K)(hr:bz k X.A):bE X (compareOp .In) (lB K false):=by
 subst hK;refine(PX (by have:=hr.un;omega)).or ?_;intro pins s σ H x y v u Q I rx ry h;obtain⟨i,j,e1,e2,q⟩:=h;exact LQ pins s σ H x y v u Q I rx ry ⟨i,j,e1,e2,by simpa [ou] using q⟩
theorem yo (hK:X.K=K)(hr:bz k X.A):bE X (compareOp .NotIn) (lB K true):=by
 subst hK;refine(PY (by have:=hr.un;omega)).or ?_;intro pins s σ H x y v u Q I rx ry h;obtain⟨i,j,e1,e2,q⟩:=h;exact MZ pins s σ H x y v u Q I rx ry ⟨i,j,e1,e2,by simpa [ou] using q⟩
end
def yp:G2
 |.int i,.int j,z=>z=.bl (decide (i<j))
 |.str i,.str j,z=>z=.bl (decide (i.cps.toList<j.cps.toList))
 |_,_,_=>False
def Fg:G2
 |.int i,.int j,z=>z=.bl (decide (i<=j))
 |.str i,.str j,z=>z=.bl (!decide (j.cps.toList<i.cps.toList))
 |_,_,_=>False
def P5:R2:=λx y H Q=>(iP λi j=>.bl (decide (i<j))) x y H Q\/∃ i j,x=.str i/\y=.str j/\Q (.bl (decide (i.cps.toList<j.cps.toList))) H
def P6:R2:=λx y H Q=>(iP λi j=>.bl (decide (i<=j))) x y H Q\/∃ i j,x=.str i/\y=.str j/\Q (.bl (!(decide (j.cps.toList<i.cps.toList)))) H
theorem P7 {K:Frag}:dX K P5 yp:=by
 intro H A σ x y v w z Q R q1 q2 g c;cases x<;>cases y<;>first|exact g.elim|skip
 ·cases g;cases q1.int;cases q2.int;exact .inl ⟨_,_,rfl,rfl,c _ H (aQ.refl H) (.bl _)⟩
 ·cases g;cases q1.str;cases q2.str;exact .inr ⟨_,_,rfl,rfl,c _ H (aQ.refl H) (.bl _)⟩
theorem Fh {K:Frag}:dX K P6 Fg:=by
 intro H A σ x y v w z Q R q1 q2 g c;cases x<;>cases y<;>first|exact g.elim|skip
 ·cases g;cases q1.int;cases q2.int;exact .inl ⟨_,_,rfl,rfl,c _ H (aQ.refl H) (.bl _)⟩
 ·cases g;cases q1.str;cases q2.str;exact .inr ⟨_,_,rfl,rfl,c _ H (aQ.refl H) (.bl _)⟩
noncomputable def qr:PV->Bool
 |.ai=>true
 |_=>false
theorem Fi {X:Cx}:bE X (compareOp .Is) (λx y H Q=>∃ a b,x=.bl a/\y=.bl b/\Q (.bl (a==b)) H):=by
 intro pins s σ H x y v u Q I rx ry h;obtain⟨a,b,rfl,rfl,q⟩:=h;cases (show v=Value.bool a from rx);cases (show u=Value.bool b from ry);refine PySem.wpAny_is_plain (by cases a<;>cases b<;>rfl) ⟨.bl _,H,I,?_,q⟩;cases a<;>cases b<;>rfl
def P8:R2:=λx y H Q=>(y=.ai/\Q (.bl (decide (x=.ai))) H)\/∃ a b,x=.bl a/\y=.bl b/\Q (.bl (a==b)) H
def jt:G2
 |.raw _,_,_=>False
 |x,.ai,z=>z=.bl (qr x)
 |.bl a,.bl b,z=>z=.bl (a==b)
 |_,_,_=>False
def ox:G2
 |.raw _,_,_=>False
 |x,.ai,z=>z=.bl (!qr x)
 |_,_,_=>False
theorem Fj {K:Frag}{A:AS}{H:Hp}{σ:St}{x:PV}{v:V}(R:Rep K H σ A)(q:cv K A H x v)(nr:∀ w,x≠.raw w):decide (v=.ai)=qr x:=by
 cases x with
 |ai=>cases q.ai;rfl
 |bl b=>cases q.bl;rfl
 |int b=>cases q.int;rfl
 |str b=>cases q.str;rfl
 |tup xs=>obtain⟨a,vs,rfl,_⟩:=q.tup;rfl
 |lst xs=>obtain⟨a,vs,rfl,_⟩:=q.lst R;rfl
 |ah xs=>obtain⟨a,vs,rfl,_⟩:=q.ah R;rfl
 |raw w=>exact absurd rfl (nr w)
theorem Fm {K:Frag}:dX K P8 jt:=by
 intro H A σ x y v w z Q R q1 q2 g c;by_cases nr:∀ w,x≠.raw w
 ·cases y with
  |ai=>
   cases q2.ai;have e:z=.bl (qr x):=by cases x<;>first|exact g|exact g.elim
   subst e;refine .inl ⟨rfl,?_⟩;rw[Fj R q1 nr];exact c _ H (aQ.refl H) (.bl _)
  |bl b=>
   cases x<;>first|exact g.elim|skip
   cases g;cases q1.bl;cases q2.bl;exact .inr ⟨_,_,rfl,rfl,c _ H (aQ.refl H) (.bl _)⟩
  |_=>cases x<;>exact g.elim
 ·cases x<;>first|exact g.elim|exact absurd (λw z=>by cases z) nr
theorem P9 {K:Frag}:dX K (λx y H Q=>y=.ai/\Q (.bl (!decide (x=.ai))) H) ox:=by
 intro H A σ x y v w z Q R q1 q2 g c;by_cases nr:∀ w,x≠.raw w
 ·cases y with
  |ai=>
   cases q2.ai;have e:z=.bl (!qr x):=by cases x<;>first|exact g|exact g.elim
   subst e;refine⟨rfl,?_⟩;rw[Fj R q1 nr];exact c _ H (aQ.refl H) (.bl _)
  |_=>cases x<;>exact g.elim
 ·cases x<;>first|exact g.elim|exact absurd (λw z=>by cases z) nr
section
variable {X:Cx}{K:Frag}{a b:Expr}{ua ub:UE}{pos:Pos}{k:Nat}
theorem yq (ha:PE X a (aO K ua))(hb:PE X b (aO K ub)):PT X (.Compare a [.Lt] [b] pos) (liftT K (gh yp ua ub)):=lg (Bw.or LP) P7 ha hb (fB _)
theorem Fn (ha:PE X a (aO K ua))(hb:PE X b (aO K ub)):PE X (.Compare a [.Gt] [b] pos) (aD K (u2 (qo λi j=>.bl (decide (j<i))) ua ub)):=n6 rR (yc λ_ _ _ _=>.bl _) ha hb (fB _)
theorem yr (ha:PE X a (aO K ua))(hb:PE X b (aO K ub)):PT X (.Compare a [.Gt] [b] pos) (liftT K (gh (qo λi j=>.bl (decide (j<i))) ua ub)):=lg rR (yc λ_ _ _ _=>.bl _) ha hb (fB _)
theorem yt (ha:PE X a (aO K ua))(hb:PE X b (aO K ub)):PE X (.Compare a [.Is] [b] pos) (aD K (u2 jt ua ub)):=n6 (By.or Fi) Fm ha hb (fB _)
theorem mQ (ha:PE X a (aO K ua))(hb:PE X b (aO K ub)):PT X (.Compare a [.Is] [b] pos) (liftT K (gh jt ua ub)):=lg (By.or Fi) Fm ha hb (fB _)
theorem qt (ha:PE X a (aO K ua))(hb:PE X b (aO K ub)):PT X (.Compare a [.IsNot] [b] pos) (liftT K (gh ox ua ub)):=lg LR P9 ha hb (fB _)
end
def oy:G2
 |.tup xs,.int i,z=>b9 xs i=some z
 |.lst xs,.int i,z=>b9 xs i=some z
 |.str s,.int i,z=>s.length<=100000/\∃ c,b9 s.cps.toList i=some c/\z=.str ⟨#[c]⟩
 |_,_,_=>False
theorem Fo {K:Frag}{N:Addr->Prop}{H:Hp}{xs:af}{vs:Zv}{i:Int}{z:PV}(r:aI K N H xs vs)(h:b9 xs i=some z):∃ v,b9 vs i=some v/\RV K N H z v:=by
 unfold b9 at h ⊢;obtain⟨j,hj,hz⟩:=Option.bind_eq_some_iff.mp h;obtain⟨v,hv,rv⟩:=r.at hz;refine⟨v,?_,rv⟩;rw[<- r.len,hj];exact hv
theorem P_ {K:Frag}:dX K (vX K) oy:=by
 intro H A σ x y v w z Q R q1 q2 g c
 cases y with
 |int i=>
  cases q2.int;cases x<;>first|exact g.elim|skip
  ·cases q1.str;obtain⟨aK,ch,hc,rfl⟩:=g;exact .inr (.inr ⟨_,i,ch,rfl,rfl,oh aK,hc,c _ H (aQ.refl H) (.str _)⟩)
  ·obtain⟨a,vs,rfl,h1,h2⟩:=q1.tup;obtain⟨v,hv,rv⟩:=Fo h2 g;exact .inr (.inl ⟨a,vs,i,v,rfl,rfl,h1,hv,c _ H (aQ.refl H) rv⟩)
  ·obtain⟨a,vs,rfl,h1,h2⟩:=q1.lst R;obtain⟨v,hv,rv⟩:=Fo h2 g;exact .inl ⟨a,vs,i,v,rfl,rfl,aC.of h1,hv,c _ H (aQ.refl H) rv⟩
 |_=>cases x<;>exact g.elim
section
variable {X:Cx}{K:Frag}{a b:Expr}{ua ub:UE}{pos:Pos}
end
namespace Fp
section
variable {prog:Program}{w:World}{A:Around}{E:aU}{s:Shared}
theorem P' {t sl:Addr}{items:Array Value}{vl vu:Value}{lo hi:Option Int}{Q:aU}(ht:IsTup s.heap t items)(hs:s.heap.IsSliceOf sl vl vu .none)(pl:IsPart vl lo)(pu:IsPart vu hi)
  (hw:HT.aW items.size 0 lo=0/\HT.aW items.size items.size hi=items.size)(h:Q (.ref t) s):wpAny (model prog w) A (getItem (.ref t) (.ref sl)) Q E s:=by
 obtain⟨os,mq,cu,pR⟩:=id hs;have vU:s.TypeIs (.ref sl) "slice":=⟨os,mq,cu⟩;unfold getItem
 try with_reducible refine wpAny_holding ?_
 first|refine aj (aP ?_)|skip
 refine aj (wpAny_sequenceKey ht.typeIs (by decide) ?_)
 refine aj (wpAny_callSpecial?_slot (name:=Str.ofString "__getitem__") ht.typeIs PyProof.Rows.slot_tuple_getitem
  (wpAny_call_entry PyProof.Rows.slot_tuple_getitem ht.typeIs entry_tuple_getitem ?_ (args_tuple_getitem _ _)))
 show wpAny _ _ (Builtin.Tuple.tupleItemsOf (.ref t) >>= _) _ _ s;refine aj (tupleItemsOf_ ht ?_);refine aj (wpAny_typeOf vU ?_);rw[if_pos (by decide)];refine aj (HT.B3 hs pl pu ?_)
 have Qa:(((HT.aW items.size 0 lo:Nat):Int)==0&&(1:Int)==1&&(HT.aW items.size items.size hi-HT.aW items.size 0 lo)==items.size)=true:=by
  rw[hw.1,hw.2];simp
 show wpAny _ _ (if (((HT.aW items.size 0 lo:Nat):Int)==0&&(1:Int)==1&&(HT.aW items.size items.size hi-HT.aW items.size 0 lo)==items.size)=true then _ else _) _ _ s;rw[if_pos Qa];unfold Builtin.Tuple.tupleIsExact;refine aj (aj (wpAny_typeOf ht.typeIs (aP ?_)));rw[if_pos (by decide)];refine aj (wpAny_rule ?_);exact aP ⟨_,rfl,aP h⟩
end
end Fp
def whole (n:Nat)(lo hi:Option Int):Prop:=HT.aW n 0 lo=0/\HT.aW n n hi=n
noncomputable instance {n:Nat}{lo hi:Option Int}:Decidable (whole n lo hi):=by unfold whole;infer_instance
def Qb (K:Frag):V->Option Int->Option Int->Hp->VK->Prop:=λx lo hi H Q=>∃ a xs,x=.ref a/\aS K H a xs/\(whole xs.length lo hi->Q (.ref a) H)/\(¬ whole xs.length lo hi->∀ p,H p=none->Q (.ref p) (upd H p (.tup (iT xs lo hi))))
noncomputable def fW (xs:af)(lo hi:Option Int):af:=(xs.drop (HT.aW xs.length 0 lo)).take (HT.aW xs.length xs.length hi-HT.aW xs.length 0 lo)
theorem Fq {K:Frag}{N:Addr->Prop}{H:Hp}{xs:af}{vs:Zv}(r:aI K N H xs vs)(lo hi:Option Int):aI K N H (fW xs lo hi) (iT vs lo hi):=by
 unfold fW iT;rw[r.len];exact(r.drop _).take _
theorem Qc {xs:af}{lo hi:Option Int}(h:whole xs.length lo hi):fW xs lo hi=xs:=by
 unfold fW;rw[h.1,h.2];simp
section
variable {X:Cx}
theorem Qd:jU X (Qb X.K):=by
 intro pins s σ H x v vl vu lo hi sl Q I rx hs pl pu h;obtain⟨a,xs,rfl,hx,q1,q2⟩:=h;by_cases hw:whole xs.length lo hi
 ·cases rx;obtain⟨its,r,ht,hz⟩:=I.tuple hx;have hlen:its.toArray.size=xs.length:=by rw[size_toArray];exact r.length.symm
  refine⟨"tuple",_,PyProof.Rows.slot_tuple_getitem.lookup,ht.typeIs,?_⟩;exact Fp.P' ht hs pl pu (by rw[hlen];exact hw) ⟨.ref a,H,I,rfl,q1 hw⟩
 ·exact MJ pins s σ H _ v vl vu lo hi sl Q I rx hs pl pu ⟨a,xs,rfl,hx,hw,q2 hw⟩
end
abbrev UO:=AS->(Option Int->AS->Prop)->Prop
def Fs:UO:=λA Q=>Q none A
def Ft (ue:UE):UO:=λA Q=>ue A λx A1=>∃ i,x=.int i/\Q (some i) A1
def tD (K:Frag)(u:UO):TO:=λσ H Q=>∃ A P,Rep K H σ A/\u A P/\∀ o A1 H1,P o A1->Rep K H1 σ A1->ax A H A1 H1->Q o H1
theorem PO.mono {X:Cx}{e:Option Expr}{t t':TO}(h:PO X e t)(f:∀ σ H Q,t' σ H Q->t σ H Q):PO X e t':=λpins s σ H Q I w=>h pins s σ H Q I (f _ _ _ w)
def yu:PV->Option Int->Option Int->PV->Prop
 |.tup xs,lo,hi,z=>z=.tup (fW xs lo hi)
 |.lst xs,lo,hi,z=>z=.lst (fW xs lo hi)
 |.str x,lo,hi,z=>x.length<=100000/\z=.str (Txt.slice x lo hi)
 |_,_,_,_=>False
def Fu (g:PV->Option Int->Option Int->PV->Prop)(ue:UE)(ul uh:UO):UE:=λA Q=>ue A λx A1=>ul A1 λl A2=>uh A2 λh A3=>A3.ae=A1.ae/\∃ z,g x l h z/\Q z A3
section
variable {X:Cx}{K:Frag}{e:Expr}{ue:UE}{ul uh:UO}{lo hi:Option Expr}{pos p2:Pos}
theorem mR:PO X none (tD K Fs):=ME.mono λσ H Q ⟨A,P,R,h,c⟩=>c none A H h R (ax.refl A H)
theorem mS (h:PE X e (aD K ue)):PO X (some e) (tD K (Ft ue)):=(MF h).mono λσ H Q ⟨A,P,R,h,c⟩=>⟨A,_,R,h,λx A1 v H1 p R1 S1 rv=>by
 obtain⟨i,rfl,p⟩:=p;cases rv
 exact⟨i,rfl,c _ A1 H1 p R1 S1⟩⟩
theorem mT (hK:X.K=K)(he:PE X e (aO K ue))(hl:PO X lo (tD K ul))(hh:PO X hi (tD K uh)):PE X (.Subscript e (.Slice lo hi none p2) pos) (aD K (Fu yu ue ul uh)):=by
 subst hK;refine(MH (Qd.or (MX.or Oh)) he hl hh).mono λσ H Q ⟨A,P,R,h,c⟩=>⟨A,_,R,h,λx A1 v H1 p R1 S1 q1=>⟨A1,_,R1,p,λl A2 H2 p R2 S2=>⟨A2,_,R2,p,λu A3 H3 p R3 S3=>?_⟩⟩⟩;obtain⟨e,z,g,p⟩:=p;have q3:=q1.step R1 (S2.trans S3) e;have Sx:=S1.trans (S2.trans S3);cases x<;>first|exact g.elim|skip
 ·cases q3.str;obtain⟨aK,rfl⟩:=g;exact .inr (.inr ⟨_,rfl,oh aK,c _ A3 _ H3 p R3 Sx (.str _)⟩)
 ·cases g;obtain⟨a,vs,rfl,h1,h2⟩:=q3.tup;refine .inl ⟨a,vs,rfl,h1,λhw=>?_,λ_ q hq=>?_⟩
  ·rw[Qc (by rw[h2.len];exact hw)] at p;exact c _ A3 _ H3 p R3 Sx (.tup h1 h2)
  ·have s:=d0 hq (.tup (iT vs l u));exact c _ A3 _ _ p (R3.same s) (Sx.trans (ax.same A3 s)) (.tup (aS.of aZ) ((Fq h2 l u).imp (fG s)))
 ·cases g;obtain⟨a,vs,rfl,h1,h2⟩:=q3.lst R3;refine .inr (.inl ⟨a,vs,rfl,aC.of h1,λq hq=>?_⟩);have s:=d0 hq (.lst (iT vs l u));exact c _ A3 _ _ p (R3.same s) (Sx.trans (ax.same A3 s)) (.lst (R3.new hq) aZ ((Fq h2 l u).imp (fG s)))
def Fv (ue:UE):UE:=λA Q=>ue A λx A1=>∃ xs,x=.lst xs/\Q (.lst xs.reverse) A1
theorem Qe {j:Nat}{p3 p4:Pos}(hK:X.K=K)(he:PE X e (aO K ue)):PE X (.Subscript e (.Slice none none (some (.UnaryOp .USub (.Constant (.int 1) j p3) p4)) p2) pos) (fU K (Fv ue)):=
 (OZ hK he).mono λσ H Q ⟨A,P,R,h,c⟩=>⟨A,_,R,h,λx A1 v H1 p R1 S1 q1=>by
  obtain⟨xs,rfl,p⟩:=p;obtain⟨a,vs,rfl,h1,h2⟩:=q1.lst R1
  exact⟨a,vs,rfl,aC.of h1,λq hq=>c _ A1 _ H1 _ p R1 S1 ⟨q,.lst _,rfl,rfl,hq,d0 hq _,_,aZ,h2.rev⟩⟩⟩
end
abbrev G1:=PV->PV->Prop
def j8 (K:Frag)(r:Zv->Hp->VK->Prop)(g:G1):Prop:=∀(H:Hp)(A:AS)(σ:St)(x:PV)(v:V)(z:PV)(Q:VK),Rep K H σ A->cv K A H x v->g x z->(∀ v' H',aQ H H'->RV K (AN A) H' z v'->Q v' H')->r [v] H Q
def yv (K:Frag)(r:Zv->Hp->VK->Prop)(g:G1):Prop:=∀(H:Hp)(A:AS)(σ:St)(x:PV)(v:V)(z:PV)(Q:VK),Rep K H σ A->cv K A H x v->g x z->(∀ v' H',eV K (AN A) H H' z v'->Q v' H')->r [v] H Q
def u1 (g:G1)(ue:UE):UE:=λA Q=>ue A λx A1=>∃ z,g x z/\Q z A1
section
variable {X:Cx}{K:Frag}{e:Expr}{ue:UE}{x:Str}{p pos:Pos}{id T:String}{r:Zv->Hp->VK->Prop}{g:G1}
theorem c1 (br:j8 K r g):∀ σ H Q,aD K (u1 g ue) σ H Q->rT r (vM (aO K ue) vL) σ H Q:=λσ H Q ⟨A,P,R,h,c⟩=>⟨A,_,R,h,λx A1 v H1 p R1 S1 q1=>by
 obtain⟨z,g,p⟩:=p
 exact br H1 A1 σ x v z Q R1 q1 g λv' H' s rv=>c z A1 v' H' p (R1.same s) (S1.trans (ax.same A1 s)) rv⟩
theorem Qf (br:yv K r g):∀ σ H Q,fU K (u1 g ue) σ H Q->rT r (vM (aO K ue) vL) σ H Q:=λσ H Q ⟨A,P,R,h,c⟩=>⟨A,_,R,h,λx A1 v H1 p R1 S1 q1=>by
 obtain⟨z,g,p⟩:=p
 exact br H1 A1 σ x v z Q R1 q1 g λv' H' f=>c z A1 v' H1 H' p R1 S1 f⟩
theorem qu (hc:eA X (.builtin id) r)(br:j8 K r g)(hv:bootBuiltins x=some (.builtin id))(hm:X.mg x=none)(he:PE X e (aO K ue))(hg:Gl X x:=by rfl)(hn:x≠"__name__":=by decide)(hd:(x==("__debug__":Str))=false:=by decide)(hs:starEach [e] X.env=[(false,eval e X.env)]:=by rfl) :
  PE X (.Call (.Name x p) [e] [] pos) (aD K (u1 g ue)):=(jQ hc hg hm hv (bO he cq hs) hn hd hs).mono (c1 br)
theorem Fw (hc:eA X (.type T) r)(br:j8 K r g)(hv:bootBuiltins x=some (.type T))(hm:X.mg x=none)(he:PE X e (aO K ue))(hg:Gl X x:=by rfl)(hn:x≠"__name__":=by decide)(hd:(x==("__debug__":Str))=false:=by decide)(hs:starEach [e] X.env=[(false,eval e X.env)]:=by rfl) :
  PE X (.Call (.Name x p) [e] [] pos) (aD K (u1 g ue)):=(vN hc hg hm hv (bO he cq hs) hn hd hs).mono (c1 br)
theorem Fx (hc:eA X (.type T) r)(br:yv K r g)(hv:bootBuiltins x=some (.type T))(hm:X.mg x=none)(he:PE X e (aO K ue))(hg:Gl X x:=by rfl)(hn:x≠"__name__":=by decide)(hd:(x==("__debug__":Str))=false:=by decide)(hs:starEach [e] X.env=[(false,eval e X.env)]:=by rfl) :
  PE X (.Call (.Name x p) [e] [] pos) (fU K (u1 g ue)):=(vN hc hg hm hv (bO he cq hs) hn hd hs).mono (Qf br)
end
section
variable {X:Cx}{K:Frag}{e:Expr}{ue:UE}{p pos:Pos}{k:Nat}
def qw:G1
 |.tup xs,z=>z=.int xs.length
 |.lst xs,z=>z=.int xs.length
 |.str x,z=>x.length<=100000/\z=.int x.length
 |_,_=>False
theorem Qg:j8 K (λxs H Q=>∃ x n,xs=[x]/\BC K x H n/\Q (.int n) H) qw:=by
 intro H A σ x v z Q R q1 g c;cases x<;>first|exact g.elim|skip
 ·obtain⟨aK,rfl⟩:=g;cases q1.str;exact⟨_,_,rfl,⟨oh aK,rfl⟩,c _ H (aQ.refl H) (.int _)⟩
 ·cases g;obtain⟨a,vs,rfl,h1,h2⟩:=q1.tup;refine⟨_,_,rfl,.inr ⟨vs,h1,rfl⟩,?_⟩;rw[<- h2.len];exact c _ H (aQ.refl H) (.int _)
 ·cases g;obtain⟨a,vs,rfl,h1,h2⟩:=q1.lst R;refine⟨_,_,rfl,.inl ⟨vs,aC.of h1,rfl⟩,?_⟩;rw[<- h2.len];exact c _ H (aQ.refl H) (.int _)
theorem du (hK:X.K=K)(hm:X.mg "len"=none)(he:PE X e (aO K ue))(hg:Gl X "len":=by rfl)(hs:starEach [e] X.env=[(false,eval e X.env)]:=by rfl):PE X (.Call (.Name "len" p) [e] [] pos) (aD K (u1 qw ue)):=by
 subst hK;exact qu L4 Qg PySem.boot_len hm he hg (hs:=hs)
inductive Ty where
 |int|str|bool|tuple|list|dict
noncomputable def Ty.n:Ty->String
 |.int=>"int"
 |.str=>"str"
 |.bool=>"bool"
 |.tuple=>"tuple"
 |.list=>"list"
 |.dict=>"dict"
noncomputable def mU:Ty->PV->Option Bool
 |_,.raw _=>none
 |.int,.int _=>some true
 |.int,.bl _=>some true
 |.str,.str _=>some true
 |.bool,.bl _=>some true
 |.tuple,.tup _=>some true
 |.list,.lst _=>some true
 |.dict,.ah _=>some true
 |_,_=>some false
theorem Qh {K:Frag}:∀(t:Ty)(T:String),T∈["NoneType","bool","int","str","list","tuple","dict"]->PySem.W.kitOne K (.type T) (.type t.n)=some (T==t.n||(t.n=="int"&&T=="bool")):=by
 intro t T h;simp only[mem_cons,not_mem_nil,or_false] at h;cases t<;>(rcases h with rfl|rfl|rfl|rfl|rfl|rfl|rfl)<;>with_unfolding_all rfl
theorem Qi {pins:aL}{σ:St}{H:Hp}{s:Shared}{A:Around}{E:aU}{Q:aU}{c:Value}{b:Bool}{a:Addr}{vs:Zv}(I:Inv X pins σ H s)(h1:aS X.K H a vs)(e:PySem.W.kitOne X.K (.type "tuple") c=some b)(h:∀ tk,Q (.bool b) { s with toks:=tk }) :
  wpAny (model X.prog X.w) A (call (.builtin "isinstance") [.ref a,c]) Q E s:=by
 obtain⟨its,_,⟨o,g1,g2,_⟩,_⟩:=I.tuple h1;exact PySem.W.kia_one PySem.W.kitx_tuple I.eh ⟨o,g1,g2⟩ e (λz=>nomatch z) h
theorem Qj {pins:aL}{σ:St}{H:Hp}{s:Shared}{A:Around}{E:aU}{Q:aU}{c:Value}{b:Bool}{a:Addr}{kvs:bh}(I:Inv X pins σ H s)(h1:Rd H a (.dK kvs))(e:PySem.W.kitOne X.K (.type "dict") c=some b)(h:∀ tk,Q (.bool b) { s with toks:=tk }) :
  wpAny (model X.prog X.w) A (call (.builtin "isinstance") [.ref a,c]) Q E s:=by
 obtain⟨_,_,vs,_,ob,es,ep,g1,g2,_⟩:=h1.ok I.aw;exact PySem.W.kia_one PySem.W.kitx_dict I.eh ⟨ob,g1,g2.1⟩ e (λz=>nomatch z) h
def Ql (K:Frag):Zv->Hp->VK->Prop:=λxs H Q=>∃(x:V)(t:Value)(n:Ty)(b:Bool),xs=[x,.ty n.n]/\(gE K H x t\/(∃ a vs,x=.ref a/\t=.type "tuple"/\aS K H a vs)\/∃ a kvs,x=.ref a/\t=.type "dict"/\Rd H a (.dK kvs))/\PySem.W.kitOne K t (.type n.n)=some b/\Q (.bl b) H
theorem Qm:eA X (.builtin "isinstance") (Ql X.K):=by
 intro pins s σ H xs us Q I r h;obtain⟨x,t,n,b,rfl,ty,e,q⟩:=h;obtain⟨u,v,rfl,ru,rv⟩:=vals2 r;cases (show v=Value.type n.n from rv);rcases ty with ty|⟨a,vs,rfl,rfl,h1⟩|⟨a,vs,rfl,rfl,h1⟩
 ·exact L7 I ru ty e λtk=>⟨.bl b,H,I.tok tk,rfl,q⟩
 ·cases ru;exact Qi I h1 e λtk=>⟨.bl b,H,I.tok tk,rfl,q⟩
 ·cases ru;exact Qj I h1 e λtk=>⟨.bl b,H,I.tok tk,rfl,q⟩
def Fy (t:Ty)(ue:UE):UE:=λA Q=>ue A λx A1=>∃ b,mU t x=some b/\Q (.bl b) A1
theorem gX (t:Ty){T:Str}{pt:Pos}(hK:X.K=K)(hm:X.mg "isinstance"=none)(hT:X.mg T=none)(hv:bootBuiltins T=some (.type t.n))(he:PE X e (aO K ue))(hg:Gl X "isinstance":=by rfl)(Qn:Gl X T:=by rfl)(hn:T≠"__name__":=by decide)(hd:(T==("__debug__":Str))=false:=by decide)
  (hs:starEach [e,.Name T pt] X.env=(false,eval e X.env)::starEach [.Name T pt] X.env:=by rfl)(fi:starEach [.Name T pt] X.env=[(false,eval (.Name T pt) X.env)]:=by rfl)(dC:(backTo pos (starEach [.Name T pt] X.env)).any (·.1)=false:=by rfl) :
  PE X (.Call (.Name "isinstance" p) [e,.Name T pt] [] pos) (aD K (Fy t ue)):=by
 subst hK;refine(jQ Qm hg hm PyProof.Rows.boot_isinstance (bO he (bO (K0 (v:=.ty t.n) Qn hT hv rfl hn hd) cq fi) hs) (by decide) (by decide) hs dC).mono λσ H Q ⟨A,P,R,h,c⟩=>⟨A,_,R,h,λx A1 v H1 p R1 S1 q1=>?_⟩;obtain⟨b,eb,p⟩:=p;have fin:=c _ A1 _ H1 p R1 S1 (.bl b);have one:∀ T,T∈["NoneType","bool","int","str","list","tuple","dict"]->(T==t.n||(t.n=="int"&&T=="bool"))=b->PySem.W.kitOne X.K (.type T) (.type t.n)=some b:=λT h e=>by rw[Qh t T h,e]
 cases x with
 |raw w=>cases t<;>cases eb
 |ai=>cases q1.ai;exact⟨_,_,t,b,rfl,.inl .ai,one _ (by simp) (by cases t<;>cases eb<;>rfl),fin⟩
 |bl y=>cases q1.bl;exact⟨_,_,t,b,rfl,.inl (.bl _),one _ (by simp) (by cases t<;>cases eb<;>rfl),fin⟩
 |int y=>cases q1.int;exact⟨_,_,t,b,rfl,.inl (.int _),one _ (by simp) (by cases t<;>cases eb<;>rfl),fin⟩
 |str y=>cases q1.str;exact⟨_,_,t,b,rfl,.inl (.str _),one _ (by simp) (by cases t<;>cases eb<;>rfl),fin⟩
 |tup y=>obtain⟨a,vs,rfl,h1,_⟩:=q1.tup;exact⟨_,_,t,b,rfl,.inr (.inl ⟨a,vs,rfl,rfl,h1⟩),one _ (by simp) (by cases t<;>cases eb<;>rfl),fin⟩
 |lst y=>obtain⟨a,vs,rfl,h1,_⟩:=q1.lst R1;exact⟨_,_,t,b,rfl,.inl (.lst h1),one _ (by simp) (by cases t<;>cases eb<;>rfl),fin⟩
 |ah y=>obtain⟨a,vs,rfl,h1,_⟩:=q1.ah R1;exact⟨_,_,t,b,rfl,.inr (.inr ⟨a,vs,rfl,rfl,h1⟩),one _ (by simp) (by cases t<;>cases eb<;>rfl),fin⟩
def yw:G1
 |.tup xs,z=>z=.tup xs
 |.lst xs,z=>z=.tup xs
 |_,_=>False
def tE:G1
 |.tup xs,z=>z=.lst xs
 |.lst xs,z=>z=.lst xs
 |_,_=>False
theorem Qo:j8 K (λxs H Q=>∃ p ys,xs=[.ref p]/\((aC K H p ys/\∀ l,H l=none->Q (.ref l) (upd H l (.tup ys)))\/(aS K H p ys/\Q (.ref p) H))) yw:=by
 intro H A σ x v z Q R q1 g c;cases x<;>first|exact g.elim|skip
 ·cases g;obtain⟨a,vs,rfl,h1,h2⟩:=q1.tup;exact⟨a,vs,rfl,.inr ⟨h1,c _ H (aQ.refl H) (.tup h1 h2)⟩⟩
 ·cases g;obtain⟨a,vs,rfl,h1,h2⟩:=q1.lst R;refine⟨a,vs,rfl,.inl ⟨aC.of h1,λl hl=>?_⟩⟩;have s:=d0 hl (.tup vs);exact c _ _ s (.tup (aS.of aZ) (h2.imp (fG s)))
theorem Qp:yv K (λxs H Q=>∃ p ys,xs=[.ref p]/\(aC K H p ys\/aS K H p ys)/\∀ l,H l=none->Q (.ref l) (upd H l (.lst ys))) tE:=by
 intro H A σ x v z Q R q1 g c;cases x<;>first|exact g.elim|skip
 ·cases g;obtain⟨a,vs,rfl,h1,h2⟩:=q1.tup;exact⟨a,vs,rfl,.inr h1,λl hl=>c _ _ ⟨l,.lst _,rfl,rfl,hl,d0 hl _,_,aZ,h2⟩⟩
 ·cases g;obtain⟨a,vs,rfl,h1,h2⟩:=q1.lst R;exact⟨a,vs,rfl,.inl (aC.of h1),λl hl=>c _ _ ⟨l,.lst _,rfl,rfl,hl,d0 hl _,_,aZ,h2⟩⟩
theorem j9 (hK:X.K=K)(hm:X.mg "tuple"=none)(he:PE X e (aO K ue))(hg:Gl X "tuple":=by rfl)(hs:starEach [e] X.env=[(false,eval e X.env)]:=by rfl):PE X (.Call (.Name "tuple" p) [e] [] pos) (aD K (u1 yw ue)):=by
 subst hK;exact Fw M3 Qo PyProof.Rows.boot_tuple hm he hg (hs:=hs)
theorem tF (hK:X.K=K)(hm:X.mg "list"=none)(he:PE X e (aO K ue))(hg:Gl X "list":=by rfl)(hs:starEach [e] X.env=[(false,eval e X.env)]:=by rfl):PE X (.Call (.Name "list" p) [e] [] pos) (fU K (u1 tE ue)):=by
 subst hK;exact Fx M1 Qp PyProof.Rows.boot_list hm he hg (hs:=hs)
noncomputable def j_:af->Option (List Bool)
 |[]=>some []
 |.bl b::xs=>(j_ xs).map (b::·)
 |_=>none
theorem yx {N:Addr->Prop}{H:Hp}:∀{xs:af}{vs:Zv}{bs:List Bool},aI K N H xs vs->j_ xs=some bs->vs=bs.map V.bl
 |_,_,_,.nil,h=>by cases h;rfl
 |x::xs,_,bs,.cons r rs,h=>by
  cases x<;>first|(cases h;done)|skip
  rename_i b;obtain⟨cs,hc,rfl⟩:=Option.map_eq_some_iff.mp (show(j_ xs).map (b::·)=some bs from h);cases r;rw[yx rs hc];rfl
def tG:G1
 |.lst xs,z=>∃ bs,j_ xs=some bs/\z=.bl (bs.all id)
 |_,_=>False
def tH:G1
 |.lst xs,z=>∃ bs,j_ xs=some bs/\z=.bl (bs.any id)
 |_,_=>False
theorem Qq:j8 K (λxs H Q=>∃(p:Addr)(bs:List Bool),xs=[.ref p]/\aC K H p (bs.map V.bl)/\Q (.bl (bs.all id)) H) tG:=by
 intro H A σ x v z Q R q1 g c;cases x<;>first|exact g.elim|skip
 obtain⟨bs,hb,rfl⟩:=g;obtain⟨a,vs,rfl,h1,h2⟩:=q1.lst R;exact⟨a,bs,rfl,by rw[<- yx h2 hb];exact aC.of h1,c _ H (aQ.refl H) (.bl _)⟩
theorem Qr:j8 K (λxs H Q=>∃(p:Addr)(bs:List Bool),xs=[.ref p]/\aC K H p (bs.map V.bl)/\Q (.bl (bs.any id)) H) tH:=by
 intro H A σ x v z Q R q1 g c;cases x<;>first|exact g.elim|skip
 obtain⟨bs,hb,rfl⟩:=g;obtain⟨a,vs,rfl,h1,h2⟩:=q1.lst R;exact⟨a,bs,rfl,by rw[<- yx h2 hb];exact aC.of h1,c _ H (aQ.refl H) (.bl _)⟩
theorem Qs (hK:X.K=K)(hc:X.calm=true)(hm:X.mg "all"=none)(he:PE X e (aO K ue))(hg:Gl X "all":=by rfl)(hs:starEach [e] X.env=[(false,eval e X.env)]:=by rfl):PE X (.Call (.Name "all" p) [e] [] pos) (aD K (u1 tG ue)):=by
 subst hK;exact qu (NB hc) Qq PyProof.Rows.boot_all hm he hg (hs:=hs)
theorem Qt (hK:X.K=K)(hc:X.calm=true)(hm:X.mg "any"=none)(he:PE X e (aO K ue))(hg:Gl X "any":=by rfl)(hs:starEach [e] X.env=[(false,eval e X.env)]:=by rfl):PE X (.Call (.Name "any" p) [e] [] pos) (aD K (u1 tH ue)):=by
 subst hK;exact qu (NC hc) Qr PyProof.Rows.boot_any hm he hg (hs:=hs)
def yy:G1
 |.int i,z=>z=.int i
 |.bl b,z=>z=.int (if b then 1 else 0)
 |_,_=>False
theorem Qu:j8 K (λxs H Q=>(∃ i,xs=[.int i]/\Q (.int i) H)\/∃ k,xs=[.bl k]/\Q (.int (if k then 1 else 0)) H) yy:=by
 intro H A σ x v z Q R q1 g c;cases x<;>first|exact g.elim|skip
 ·cases g;cases q1.bl;exact .inr ⟨_,rfl,c _ H (aQ.refl H) (.int _)⟩
 ·cases g;cases q1.int;exact .inl ⟨_,rfl,c _ H (aQ.refl H) (.int _)⟩
theorem Qv (hm:X.mg "int"=none)(he:PE X e (aO K ue))(hg:Gl X "int":=by rfl)(hs:starEach [e] X.env=[(false,eval e X.env)]:=by rfl):PE X (.Call (.Name "int" p) [e] [] pos) (aD K (u1 yy ue)):=Fw L3 Qu PyProof.Rows.boot_int hm he hg (hs:=hs)
def Fz (ue:UE):UE:=λA Q=>ue A λx A1=>∃ i,x=.int i/\Q (.int (-i)) A1
theorem yz (he:PE X e (aD K ue)):PE X (.UnaryOp .USub e pos) (aD K (Fz ue)):=(Bp Bu he).mono λσ H Q ⟨A,P,R,h,c⟩=>⟨A,_,R,h,λx A1 v H1 p R1 S1 rv=>by
 obtain⟨i,rfl,p⟩:=p;cases rv
 exact⟨i,rfl,c _ A1 _ H1 p R1 S1 (.int _)⟩⟩
end
end L2
namespace HR
open PySem PyProof.Rows PySem.SeqAt
section
open PySem.AutoSeq1 (wpAny_loadPart')
open PySem.MeetsSeq PySem.MeetsSeq2 PySem.MeetsSeq3
theorem Qw (l:Addr)(items:Array Value)(n:Nat)(x:Value)(e:Value->Bool)(j:Nat)(hj:j<items.size)(hit:e items[j]=true)(k:Nat)(tJ:items.size<=sizeLine) :
  ∀ i:Nat,j-i=k->i<=j->(∀ m (hm:m<items.size),i<=m->m<j->e items[m]=false)->Meets (Builtin.«list.remove.loop» ⟨[.ref l,x,rawInt i],[]⟩)
   (λA R s=>(∀ y,y∈items->EqAt A.in1 s y x (e y))/\s.heap.get? l=some { cls:=.type "list",dict:=none,data:=.seq items n,slots:=#[] }/\R (.ok (.ret .none)) { s with heap:=s.heap.update l (Obj.mapSeq λxs=>xs.eraseIdxIfInBounds j) }):=by
 induction k with
 |zero=>
  intro i hk qy fP prog w A R s h;obtain⟨hp,g,d,tk,os⟩:=s;obtain⟨he,hl,h⟩:=h;have Qx:i=j:=by omega
  subst Qx;wp_walk using wpAny_loadPart' hl
  have hi:items[((i:Nat):Int).toNat]?=some items[i]:=by simp [hj]
  rw[hi];refine aj (he _ (Array.getElem_mem hj) prog w _ _ ?_);rw[hit];have Qy:(items.eraseIdxIfInBounds i).size<=sizeLine+1:=cC (size_erased items _) (Nat.le_succ_of_le tJ);wp_walk using (wpAny_updateSeq hl rfl (hz:=tJ) (_hz':=Qy)),wpAny_loadPart' hl
  simpa using h
 |succ k ih=>
  intro i hk qy fP prog w A R s h;obtain⟨hp,g,d,tk,os⟩:=s;obtain⟨he,hl,h⟩:=h;have cz:i<items.size:=by omega
  wp_walk using wpAny_loadPart' hl
  have hi:items[((i:Nat):Int).toNat]?=some items[i]:=by simp [cz]
  have hc:((i:Int)+1)=((i+1:Nat):Int):=by push_cast;rfl
  rw[hi];refine aj (he _ (Array.getElem_mem cz) prog w _ _ ?_);rw[fP i cz (aG _) (by omega)];wp_walk;rw[hc]
  exact⟨plainId_quiet plain_remove_loop _,codeAny_builtin entry_remove_loop (by
   rw[Around.under_plainId plain_remove_loop _]
   exact ih (i+1) (by omega) (by omega) (λm hm h1 h2=>fP m hm (by omega) h2) prog w A R _ ⟨he,hl,h⟩)⟩
theorem Qz (l:Addr)(items:Array Value)(n:Nat)(x:Value)(e:Value->Bool)(j:Nat)(hj:j<items.size)
  (hit:e items[j]=true)(fP:∀ m (hm:m<items.size),m<j->e items[m]=false)(tJ:items.size<=sizeLine) :
  Meets (Builtin.«list.remove» ⟨[.ref l,x],[]⟩)
   (λA R s=>(∀ y,y∈items->EqAt A.in1 s y x (e y))/\s.heap.get? l=some { cls:=.type "list",dict:=none,data:=.seq items n,slots:=#[] }/\R (.ok (.ret .none)) { s with heap:=s.heap.update l (Obj.mapSeq λxs=>xs.eraseIdxIfInBounds j) }):=by
 intro prog w A R s h;obtain⟨hp,g,d,tk,os⟩:=s;obtain⟨he,hl,h⟩:=h;wp_walk using wpAny_loadPart' hl
 exact⟨plainId_quiet plain_remove_loop _,codeAny_builtin entry_remove_loop (by
  rw[Around.under_plainId plain_remove_loop _]
  exact Qw l items n x e j hj hit _ tJ 0 rfl (Nat.zero_le _) (λm hm _ h2=>fP m hm h2) prog w A R _ ⟨he,hl,h⟩)⟩
end
end HR
namespace L2
open PySem PySem.Spec PyProof.Rows
section
variable {X:Cx}
def QB (K:Frag):V->Zv->Hp->VK->Prop:=λx vs H Q=>∃ l xs y N ps py n j,x=.ref l/\vs=[y]/\H l=some (.lst xs)/\n<=80/\Dp n py/\(∀ p∈ps,Dp n p)/\RV K N H py y/\aI K N H ps xs /\
 (∃ p,ps[j]?=some p/\a8 p py=true)/\(∀ m p,m<j->ps[m]?=some p->a8 p py=false)/\Q .ai (upd H l (.lst (xs.eraseIdx j)))
theorem QC (hu:X.A.units+100<cLine):iW X "list.remove" (QB X.K):=by
 intro pins s σ H x vs v us Q I rx rv h;obtain⟨l,xs,y,N,ps,py,n,j,rfl,rfl,hH,hn,dy,dp,ry,rs,⟨p,hp,hit⟩,fP,q⟩:=h;cases rx;obtain⟨u,rfl,ru⟩:=rv.one;obtain⟨z,its,k,r,hl,e⟩:=I.ir hH;have ll:=r.length;have lp:=rs.len;have QD:j<ps.length:=(b8 hp).1;have hj:j<its.toArray.size:=by rw[size_toArray];omega
 have each:∀ m (hm:m<its.toArray.size) p,ps[m]?=some p->d6 X.K N H n py its.toArray[m]=a8 p py:=by
  intro m hm p hp;obtain⟨w,hw,cO⟩:=rs.at hp;obtain⟨u',qz,yA⟩:=r.get hw
  have e1:its.toArray[m]=u':=by
   have eW:m<its.length:=by simpa using hm
   rw[bL eW] at qz;simpa using Option.some.inj qz
  rw[e1];exact tq I dy (dp p (mem_of_getElem? hp)) cO yA
 refine call_meets F.slot_list_remove ⟨_,e,rfl⟩ F.entry_list_remove (F.args_list_remove_2 _ _) (HR.Qz l its.toArray k u (d6 X.K N H n py) j hj (by rw[each j hj p hp];exact hit) (λm hm cz=>?_) (by rw[size_toArray];omega)) ⟨λw hw=>?_,e,?_⟩
 ·have qA:m<ps.length:=by rw[size_toArray] at hm;omega
  rw[each m hm ps[m] (bL qA)];exact fP m _ cz (bL qA)
 ·exact mO I (by rw[in1_units];omega) dy ry ru rs r dp w (by simpa using hw)
 ·refine⟨.ai,_,I.nP (its':=its.eraseIdx j) hH e ?_ ?_ ?_,rfl,q⟩
  ·have yB:j<its.length:=by simpa using hj
   simp [Array.eraseIdxIfInBounds,yB]
  ·exact r.eraseIdx j
  ·have:=length_eraseIdx_le xs j;omega
end
theorem aI.erase {K:Frag}{N:Addr->Prop}{H:Hp}{xs:af}{vs:Zv}(h:aI K N H xs vs)(j:Nat):aI K N H (xs.eraseIdx j) (vs.eraseIdx j):=by
 induction vs generalizing xs j with
 |nil=>cases h;exact .nil
 |cons u vs ih=>
  cases h with
  |cons h1 h2=>
   cases j with
   |zero=>exact h2
   |succ j=>exact .cons h1 (ih h2 j)
def qB (i:Nat)(ue:UE):UE:=λA Q=>match A.ae[i]? with
 |some (some (.own a (.lst _)))=>ue A λr A1=>∃ xs,A1.ae[i]?=some (some (.own a (.lst xs)))/\xs.length<=1000000/\Q .ai (put A1 i (.own a (.lst (xs++[r]))))
 |_=>False
def tK (i:Nat)(ue:UE):UE:=λA Q=>match A.ae[i]? with
 |some (some (.own a (.lst _)))=>ue A λr A1=>∃ xs ys,A1.ae[i]?=some (some (.own a (.lst xs)))/\(r=.lst ys\/r=.tup ys)/\xs.length+ys.length<=1000000/\Q .ai (put A1 i (.own a (.lst (xs++ys))))
 |_=>False
def tL (i:Nat)(ue:UE):UE:=λA Q=>match A.ae[i]? with
 |some (some (.own a (.lst _)))=>ue A λr A1=>∃ xs j,A1.ae[i]?=some (some (.own a (.lst xs)))/\(∃ n,n<=80/\Dp n r/\∀ x∈xs,Dp n x)/\(∃ p,xs[j]?=some p/\a8 p r=true)/\(∀(m:Nat) p,m<j->xs[m]?=some p->a8 p r=false)/\Q .ai (put A1 i (.own a (.lst (xs.eraseIdx j))))
 |_=>False
theorem QE {X:Cx}:iW X "list.extend" (λx vs H Q=>∃ l b xs zs,x=.ref l/\vs=[.ref b]/\H l=some (.lst xs)/\aS X.K H b zs/\xs.length+zs.length<=sizeLine/\Q .ai (upd H l (.lst (xs++zs)))):=by
 intro pins s σ H x vs v us Q I rx rv h;obtain⟨l,b,xs,zs,rfl,rfl,hH,hB,hz,q⟩:=h;cases rx;obtain⟨u,rfl,ru⟩:=rv.one;cases ru;obtain⟨z,its,n,r,hl,e⟩:=I.ir hH;obtain⟨fQ,r2,e2,z2⟩:=I.tuple hB;have jl:=r2.length;obtain⟨ob,e2,c2,n2,d2⟩:=e2;have hsz:its.toArray.size+fQ.toArray.size<=sizeLine:=by rw[size_toArray,size_toArray];omega
 have vY:¬ (!its.toArray.isEmpty&&Builtin.List.listTooLong (its.toArray.size+fQ.toArray.size))=true:=by
  rw[Cc hsz,Bool.and_false];exact Bool.false_ne_true
 refine wpAny_call_entry PySem.F.slot_list_extend ⟨_,e,rfl⟩ PySem.F.entry_list_extend ?_ (PySem.F.args_list_extend_2 _ _);show wpAny _ _ (Builtin.List.listExtendWith (.ref l) (.ref b) .none) _ _ s;unfold Builtin.List.listExtendWith;refine aj (wpAny_typeOf (T:="tuple") ⟨ob,e2,c2⟩ ?_);have h3:(Value.type "tuple"==Value.type "tuple")=true:=by decide
 simp only[h3,Bool.or_true,if_true];unfold Builtin.List.listItems;refine aj (aj (wpAny_seqItems e2 d2 (aP ?_)));refine aj (aj (wpAny_seqItems e rfl (aP ?_)));rw[if_neg vY];show wpAny _ _ (updateSeq l (·++fQ.toArray) >>= _) _ _ s;refine aj (wpAny_updateSeq e rfl ?_ (by rw[size_toArray];omega) (by rw[Array.size_append];omega));refine aP ⟨_,rfl,.ai,_,I.nP (its':=its++fQ) (t':=s.toks) hH e (by simp) (r.append r2) ?_,rfl,q⟩;rw[length_append];omega
theorem iW.or {X:Cx}{id:String}{r r':V->Zv->Hp->VK->Prop}(h:iW X id r)(h':iW X id r'):iW X id (λx xs H Q=>r x xs H Q\/r' x xs H Q):=λpins s σ H x xs v us Q I rx rs q=>q.elim (h pins s σ H x xs v us Q I rx rs) (h' pins s σ H x xs v us Q I rx rs)
theorem FA {n:Nat}(h:n<=1000000):n<=sizeLine:=cC h (by decide)
section
variable {X:Cx}{K:Frag}{e:Expr}{ue:UE}{apos bK bD:Pos}{k:Nat}
theorem lC (hK:X.K=K)(i:Nat){x:Str}(he:PE X e (aD K ue))(hN:X.N[i]?=some x:=by rfl)(hv:di X.env.scope x:=by walk_at "v")(hd:(x==("__debug__":Str))=false:=by decide)(bA:(x==("__classdict__":Str))=false:=by decide)
  (dQ:attributeBase (.Name x bD) "append" X.env (eval (.Name x bD) X.env)=eval (.Name x bD) X.env:=by rfl)
  (gF:((backTo bK (starEach [e] X.env)).all (λx=>!x.1)&&(backToKw bK (keywordEach [] X.env)).all (λx=>x.1.isSome)&&decide ([e].length+([]:List Keyword).length+(if ([]:List Keyword).isEmpty then 0 else 1)<30))=true:=by rfl)
  (dR:(apos.endLine==bK.line)=true:=by rfl)(hs:starEach [e] X.env=[(false,eval e X.env)]:=by rfl):PE X (.Call (.Attribute (.Name x bD) "append" apos) [e] [] bK) (aD K (qB i ue)):=by
 subst hK;refine(mw PySem.F.plainAttrs_list PySem.F.slot_list_append PySem.F.type_list_append Cd (dO hN hv hd bA) (bO he cq hs) dQ gF dR hs rfl).mono λσ H Q ⟨A,P,R,h,c⟩=>?_;unfold qB at h
 split at h
 ·rename_i a ys hx;obtain⟨v,ev,rfl,nb,vs,h1,h2⟩:=R.sl i _ hx;refine⟨_,ev,.inl ⟨rfl,_,aC.of h1⟩,A,_,R,h,λr A1 w H1 p R1 S1 cO=>?_⟩;obtain⟨xs,hA,aK,p⟩:=p;obtain⟨_,_,_,_,us,g1,g2⟩:=R1.sl i _ hA;have:=g2.len;obtain⟨R2,S2⟩:=R1.turn hA (g2.app (.cons cO .nil));exact⟨a,us,w,rfl,rfl,g1,Nat.lt_of_le_of_lt (by omega:us.length<=1000000) (by decide),c _ _ _ _ p R2 (S1.trans S2) .ai⟩
 ·exact h.elim
theorem QF (hK:X.K=K)(i:Nat){x:Str}(he:PE X e (aO K ue))(hN:X.N[i]?=some x:=by rfl)(hv:di X.env.scope x:=by walk_at "v")(hd:(x==("__debug__":Str))=false:=by decide)(bA:(x==("__classdict__":Str))=false:=by decide)
  (dQ:attributeBase (.Name x bD) "extend" X.env (eval (.Name x bD) X.env)=eval (.Name x bD) X.env:=by rfl)
  (gF:((backTo bK (starEach [e] X.env)).all (λx=>!x.1)&&(backToKw bK (keywordEach [] X.env)).all (λx=>x.1.isSome)&&decide ([e].length+([]:List Keyword).length+(if ([]:List Keyword).isEmpty then 0 else 1)<30))=true:=by rfl)
  (dR:(apos.endLine==bK.line)=true:=by rfl)(hs:starEach [e] X.env=[(false,eval e X.env)]:=by rfl):PE X (.Call (.Attribute (.Name x bD) "extend" apos) [e] [] bK) (aD K (tK i ue)):=by
 subst hK;refine(mw PySem.F.plainAttrs_list PySem.F.slot_list_extend PySem.F.type_list_extend (M_.or QE) (dO hN hv hd bA) (bO he cq hs) dQ gF dR hs rfl).mono λσ H Q ⟨A,P,R,h,c⟩=>?_;unfold tK at h
 split at h
 ·rename_i a ys hx;obtain⟨v,ev,rfl,nb,vs,h1,h2⟩:=R.sl i _ hx;refine⟨_,ev,.inl ⟨rfl,_,aC.of h1⟩,A,_,R,h,λr A1 w H1 p R1 S1 q1=>?_⟩;obtain⟨xs,ys,hA,hr,aK,p⟩:=p;obtain⟨_,_,_,_,us,g1,g2⟩:=R1.sl i _ hA;have l1:=g2.len;rcases hr with rfl|rfl
  ·obtain⟨b,ws,rfl,f1,f2⟩:=q1.lst R1;have l2:=f2.len;obtain⟨R2,S2⟩:=R1.turn hA (g2.app f2);exact .inl ⟨a,b,us,ws,rfl,rfl,g1,f1,FA (by omega),c _ _ _ _ p R2 (S1.trans S2) .ai⟩
  ·obtain⟨b,ws,rfl,f1,f2⟩:=q1.tup;have l2:=f2.len;obtain⟨R2,S2⟩:=R1.turn hA (g2.app f2);exact .inr ⟨a,b,us,ws,rfl,rfl,g1,f1,FA (by omega),c _ _ _ _ p R2 (S1.trans S2) .ai⟩
 ·exact h.elim
theorem QH (hK:X.K=K)(hr:bz k X.A)(i:Nat){x:Str}(he:PE X e (aD K ue))(hN:X.N[i]?=some x:=by rfl)(hv:di X.env.scope x:=by walk_at "v")(hd:(x==("__debug__":Str))=false:=by decide)(bA:(x==("__classdict__":Str))=false:=by decide)
  (dQ:attributeBase (.Name x bD) "remove" X.env (eval (.Name x bD) X.env)=eval (.Name x bD) X.env:=by rfl)
  (gF:((backTo bK (starEach [e] X.env)).all (λx=>!x.1)&&(backToKw bK (keywordEach [] X.env)).all (λx=>x.1.isSome)&&decide ([e].length+([]:List Keyword).length+(if ([]:List Keyword).isEmpty then 0 else 1)<30))=true:=by rfl)
  (dR:(apos.endLine==bK.line)=true:=by rfl)(hs:starEach [e] X.env=[(false,eval e X.env)]:=by rfl):PE X (.Call (.Attribute (.Name x bD) "remove" apos) [e] [] bK) (aD K (tL i ue)):=by
 subst hK;refine(mw PySem.F.plainAttrs_list PySem.F.slot_list_remove PySem.F.type_list_remove (QC (by have:=hr.un;omega)) (dO hN hv hd bA) (bO he cq hs) dQ gF dR hs rfl).mono λσ H Q ⟨A,P,R,h,c⟩=>?_;unfold tL at h
 split at h
 ·rename_i a ys hx;obtain⟨v,ev,rfl,nb,vs,h1,h2⟩:=R.sl i _ hx;refine⟨_,ev,.inl ⟨rfl,_,aC.of h1⟩,A,_,R,h,λr A1 w H1 p R1 S1 cO=>?_⟩;obtain⟨xs,j,hA,⟨n,hn,d1,d2⟩,hit,fP,p⟩:=p;obtain⟨_,_,_,_,us,g1,g2⟩:=R1.sl i _ hA;obtain⟨R2,S2⟩:=R1.turn hA (g2.erase j);exact⟨a,us,w,AN A1,xs,r,n,j,rfl,rfl,g1,hn,d1,d2,cO,g2,hit,fP,c _ _ _ _ p R2 (S1.trans S2) .ai⟩
 ·exact h.elim
end
noncomputable def tM (cells:List (Str×Addr)):List (Str×NameKind)->Bool
 |[]=>true
 |(x,.free)::r=>(cells.lookup x).isSome&&tM cells r
 |_::r=>tM cells r
theorem yC {cells:List (Str×Addr)}:∀{l:List (Str×NameKind)},tM cells l=true->∀ y∈l,y.2=.free->∃ c,cells.lookup y.1=some c
 |[],_,y,hy,_=>by cases hy
 |(x,k)::r,h,y,hy,hf=>by
  rcases mem_cons.mp hy with e|e
  ·subst e;cases hf;exact Option.isSome_iff_exists.mp (Bool.and_eq_true_iff.mp h).1
  ·refine yC (l:=r) ?_ y e hf;cases k<;>first|exact h|exact(Bool.and_eq_true_iff.mp h).2
theorem yD {env:Env}:∀(names:List (Str×NameKind))(acc:List (Str×Addr))(x:Str)(c:Addr),(x,c)∈fS env names acc->(x,c)∈acc\/(x,NameKind.free)∈names
 |[],_,_,_,h=>.inl h
 |(n,k)::r,acc,x,c,h=>by
  unfold fS at h
  split at h
  ·rename_i hk;have:k=NameKind.free:=by simpa using hk
   subst this;rcases yD r _ x c h with z|z
   ·rcases mem_cons.mp z with e|z
    ·cases e;exact .inr mem_cons_self
    ·exact .inl z
   ·exact .inr (mem_cons_of_mem _ z)
  ·rcases yD r _ x c h with z|z
   ·exact .inl z
   ·exact .inr (mem_cons_of_mem _ z)
noncomputable def tN:Option NameKind->Bool
 |some .cell=>true
 |some .free=>true
 |_=>false
theorem FC {o:Option NameKind}(h:tN o=true):o=some .cell\/o=some .free:=by
 unfold tN at h
 split at h
 ·exact .inl rfl
 ·exact .inr rfl
 ·cases h
noncomputable def tO (XN:ay)(e:Env)(sc:List (Str×NameKind)):List Nat->ay->Bool
 |j::ix,x::N=>(match XN[j]? with|some y=>y==x|none=>false)&&tN (e.kindOf x)&&tN (sc.lookup x)&&tO XN e sc ix N
 |_,_=>true
theorem FD {XN:ay}{e:Env}{sc:List (Str×NameKind)}:∀{ix:List Nat}{N:ay},tO XN e sc ix N=true->∀(i j:Nat)(x:Str),ix[i]?=some j->N[i]?=some x->XN[j]?=some x/\(e.kindOf x=some .cell\/e.kindOf x=some .free)/\(sc.lookup x=some .cell\/sc.lookup x=some .free)
 |[],_,_,i,j,x,h1,_=>by simp at h1
 |_::_,[],_,i,j,x,_,h2=>by simp at h2
 |a::ix,b::N,h,i,j,x,h1,h2=>by
  simp only[tO,Bool.and_eq_true] at h;obtain⟨⟨⟨q1,q2⟩,q3⟩,q4⟩:=h
  cases i with
  |zero=>
   cases h1;cases h2;refine⟨?_,FC q2,FC q3⟩
   split at q1
   ·rename_i y hy;rw[hy];rw[show y=b by simpa using q1]
   ·cases q1
  |succ i=>exact FD q4 i j x (by simpa using h1) (by simpa using h2)
theorem cS {X:Cx}{sc:Scope}{N:ay}{k:Nat}{ix:List Nat}(kind:sc.kind=.function:=by rfl)(names:∀ y∈sc.names,y.2=.local->sc.names.lookup y.1=some .local:=by decide +kernel)
  (tP:tM X.env.cells sc.names=true:=by rfl)(sx:∀ y∈sc.names,y.2=.cell->(y.1,NameKind.free)∉sc.names:=by decide +kernel)(len:N.length=k+ix.length:=by rfl)
  (sy:tO X.N X.env (relabel sc X.env).names ix (N.drop k)=true:=by rfl)
  (nc:∀ x∈N.drop k,(x,NameKind.cell)∉sc.names:=by decide +kernel):iY X sc (fS X.env sc.names []) N k ix where
 wu:=N2 (yC tP)
 kind:=kind
 names:=names
 sub:=λx c h=>wo sc.names [] (yC tP) (λ_ hp=>nomatch hp) (x,c) h
 has:=λx h=>wt (env:=X.env) sc.names [] x h
 fr:=λx c h=>(yD sc.names [] x c h).elim (λz=>nomatch z) id
 sx:=λx h=>sx (x,.cell) h rfl
 len:=len
 sy:=λi j x h1 h2=>by
  obtain⟨a,b,c⟩:=FD sy i j x h1 (by rw[getElem?_drop];exact h2);exact⟨a,b,c,nc x (mem_of_getElem? (i:=i) (by rw[getElem?_drop];exact h2))⟩
def FE (G G':G2)(ua ub uc:UE):UE:=λA Q=>ua A λx A1=>ub A1 λy A2=>A2.ae=A1.ae/\∃ z,G x y (.bl z)/\if z=true then uc A2 λw A3=>A3.ae=A2.ae/\∃ z',G' y w z'/\Q z' A3 else Q (.bl false) A2
section
variable {X:Cx}{K:Frag}{a b c:Expr}{ua ub uc:UE}{pos:Pos}{r r':R2}{G G':G2}{op mi:CmpOp}
theorem QJ (ho:bE X (compareOp op) r)(fc:bE X (compareOp mi) r')(br:dX K r G)(QK:dX K r' G')(ha:PE X a (aO K ua))(hb:PE X b (aO K ub))(hc:PE X c (aO K uc))(hm:lastMarks [op,mi] [b,c]=false:=by with_unfolding_all rfl) :
  PE X (.Compare a [op,mi] [b,c] pos) (aD K (FE G G' ua ub uc)):=(LV ho fc ha hb hc hm).mono λσ H Q ⟨A,P,R,h,c⟩=>
 ⟨A,_,R,h,λx A1 v H1 p1 R1 S1 q1=>⟨A1,_,R1,p1,λy A2 w H2 p2 R2 S2 q2=>by
  obtain⟨e,z,g,p⟩:=p2;refine br H2 A2 σ x y v w (.bl z) _ R2 (q1.step R1 S2 e) q2 g λv' H' s rv=>?_;cases rv;refine⟨z,rfl,?_⟩;have R3:=R2.same s;have S3:=S1.trans (S2.trans (ax.same A2 s))
  cases z with
  |false=>exact nR (c _ A2 _ H' p R3 S3 (.bl false))
  |true=>
   refine nS ⟨A2,_,R3,p,λt A3 u H4 p4 R4 S4 q4=>?_⟩;obtain⟨e4,z',g',p4⟩:=p4
   exact QK H4 A3 σ y t w u z' Q R4 ((q2.step R2 (ax.same A2 s) rfl).step R3 S4 e4) q4 g' λQL j3 s' j5=>c z' A3 QL j3 p4 (R4.same s') (S3.trans (S4.trans (ax.same A3 s'))) j5⟩⟩
end
structure Gc (K:Frag)(mg:bU)(x:Str)(z:PV):Prop where
 ex:∃ v u,mg x=some u/\RelV v u/\∀ N H,RV K N H z v
theorem vg {X:Cx}{K:Frag}{x:Str}{z:PV}{pos:Pos}(G:Gc K X.mg x z)(hg:Gl X x:=by rfl)(hd:(x==("__debug__":Str))=false:=by decide):PE X (.Name x pos) (aD K (uC z)):=by
 obtain⟨v,u,h1,h2,h3⟩:=G.ex;exact qg (KZ hg h1 h2 hd) h3
noncomputable def tQ:Nat->az->PV
 |4,st=>.int st.b.nm
 |5,st=>.int st.b.pt
 |6,st=>.str st.b.x
 |7,st=>.int st.b.z
 |8,st=>.int st.b.y
 |_,_=>.ai
def yE (i j:Nat):UE:=λA Q=>∃ st,A.S=some st/\A.ae[i]?=some (some (.val (.raw (.ref st.d))))/\Q (tQ j st) A
section
variable {X:Cx}{K:Frag}{e:Expr}{ue:UE}{pos bD nG dB:Pos}{k kk:Nat}
theorem yF (hr:bz k X.A)(i j:Nat){x key:Str}(hj:4<=j)(hj2:j<=8)(hk:SK[j]?=some (.inr key))(hN:X.N[i]?=some x:=by rfl)(hv:di X.env.scope x:=by walk_at "v")(hd:(x==("__debug__":Str))=false:=by decide)(bA:(x==("__classdict__":Str))=false:=by decide)
  (hs:pQ (.Constant (.str key) kk nG):=by intro _ _;rfl):PE X (.Subscript (.Name x bD) (.Constant (.str key) kk nG) pos) (aD K (yE i j)):=(f' (fR hr) (dO hN hv hd bA) cy hs).mono λσ H Q ⟨A,P,R,h,c⟩=>by
 obtain⟨st,hS,hx,h⟩:=h;obtain⟨v,ev,rv⟩:=R.sl i _ hx;cases (show RV K (AN A) H (.raw (.ref st.d)) v from rv);obtain⟨t,l,w,e,_⟩:=(R.st st hS).2.1.ex
 have main:∀ z w',(SV st.a t l w st.b)[j]?=some w'->tQ j st=z->RV K (AN A) H z w'->∃ v,σ[i]?=some (some v)/\tC (.str key) σ H (λy H2=>∃ a v',v=.ref a/\dD H2 a y (some v')/\Q v' H2):=λz w' hw hz rz=>by
  subst hz;exact⟨_,ev,_,w',rfl,eS e hk hw,c _ A _ H h R (ax.refl A H) rz⟩
 have QM:j=4\/j=5\/j=6\/j=7\/j=8:=by omega
 rcases QM with rfl|rfl|rfl|rfl|rfl
 ·exact main _ _ rfl rfl (.int _)
 ·exact main _ _ rfl rfl (.int _)
 ·exact main _ _ rfl rfl (.str _)
 ·exact main _ _ rfl rfl (.int _)
 ·exact main _ _ rfl rfl (.int _)
end
def FF:Tr:=λxs st P=>∃ m,xs=[.raw (.ref st.d),.int m]/\st.n<=100000/\0<m/\m<2 ^ 200/\∀ r:Int,0<=r->r<m->P (.int r) { st with n:=st.n+1 }
theorem QN {K:Frag}{vs:Zv}{H:Hp}{Q:VK}{E:XK}(h:spS K false FF vs H Q E):k7 K vs H Q E:=by
 obtain⟨B,xs,st,P,cW,hd,h1,h2,rv,⟨m,rfl,n1,m0,m1,p⟩,fin⟩:=h
 cases rv with
 |cons r1 r2=>
  cases r1
  cases r2 with
  |cons r3 r4=>
   cases r3;cases r4
   exact⟨st.d,st.a,st.n,st.b,m,rfl,h1,h2.Pa,n1,m0,m1,λr H' a1 a2 s b=>fin _ { st with n:=st.n+1 } _ H' (p r a1 a2) rfl s (by
    obtain⟨kvs,e⟩:=h1.dk
    exact h2.jn λo u h2=>b _ _ h2 (λz=>by rw[z,e] at h2;cases h2)) ⟨b,.int r⟩⟩
theorem dD.kR {H:Hp}{a:Addr}{kvs:bh}{k:Key}(e:Rd H a (.dK kvs)):dD H a (kV k) (cK kvs k):=.inl ⟨kvs,k,e,rfl,rfl⟩
noncomputable def pk:PV->Option Key
 |.int i=>some (.inl i)
 |.str s=>some (.inr s)
 |_=>none
noncomputable def kP:Key->PV
 |.inl i=>.int i
 |.inr s=>.str s
theorem QP (k:Key):pk (kP k)=some k:=by cases k<;>rfl
noncomputable def bP:aN->Key->Option PV
 |[],_=>none
 |(p,x)::r,k=>if pk p=some k then some x else bP r k
noncomputable def dG (kvs:aN)(k:Key)(v:PV):aN:=if (bP kvs k).isSome then kvs.map (λkv=>if pk kv.1=some k then (kv.1,v) else kv) else kvs++[(kP k,v)]
section
variable {K:Frag}{N:Addr->Prop}{H:Hp}
theorem yG {p:PV}{k:Key}(r:RV K N H p (kV k)):pk p=some k:=by
 cases k with
 |inl i=>cases (show RV K N H p (.int i) from r);rfl
 |inr i=>cases (show RV K N H p (.str i) from r);rfl
theorem qC {p:PV}{v:V}{k:Key}(h:pk p=some k)(r:RV K N H p v):v=kV k:=by
 cases p<;>first|(cases h;done)|(cases h;cases r;rfl)
theorem QQ (k:Key):RV K N H (kP k) (kV k):=by
 cases k with
 |inl i=>exact .int i
 |inr i=>exact .str i
noncomputable abbrev gY (kv:Key×V):V×V:=(kV kv.1,kv.2)
theorem qD:∀{kvs:aN}{ak:bh},bB K N H kvs (ak.map gY)->∀ k,(∀ x,bP kvs k=some x->∃ v,cK ak k=some v/\RV K N H x v)/\(bP kvs k=none->cK ak k=none)
 |[],[],_,k=>⟨λx h=>(by cases h),λ_=>rfl⟩
 |[],_::_,h,_=>nomatch h
 |_::_,[],h,_=>nomatch h
 |(p,x)::kvs,kw::ak,h,k=>by
  cases h with
  |cons r1 r2 r3=>
   have e:=yG r1;have ih:=qD r3 k;by_cases hk:kw.1=k
   ·have e':pk p=some k:=by rw[e,hk]
    unfold bP;rw[if_pos e',nH hk];exact⟨λy hy=>(by cases hy;exact⟨_,rfl,r2⟩),λz=>by cases z⟩
   ·have e':¬ pk p=some k:=by rw[e];exact λz=>hk (Option.some.inj z)
    unfold bP;rw[if_neg e',nI hk];exact ih
theorem FG {kvs:aN}{ak:bh}(h:bB K N H kvs (ak.map gY))(k:Key):(bP kvs k).isSome=(cK ak k).isSome:=by
 cases e:bP kvs k with
 |none=>rw[(qD h k).2 e];rfl
 |some x=>obtain⟨v,hv,_⟩:=(qD h k).1 x e;rw[hv];rfl
theorem bB.app {kvs FH:aN}{vs FI:List (V×V)}(h:bB K N H kvs vs)(g:bB K N H FH FI):bB K N H (kvs++FH) (vs++FI):=by
 induction vs generalizing kvs with
 |nil=>cases h;exact g
 |cons v vs ih=>cases h with|cons h1 h2 h3=>exact .cons h1 h2 (ih h3)
theorem yH {kvs:aN}{ak:bh}(h:bB K N H kvs (ak.map gY))(k:Key){x:PV}{v:V}(r:RV K N H x v):bB K N H (dG kvs k x) ((putK ak k v).map gY):=by
 unfold dG putK;rw[nJ,FG h k]
 cases e:(cK ak k).isSome with
 |false=>
  rw[if_neg Bool.false_ne_true,if_neg Bool.false_ne_true,map_append];exact h.app (.cons (QQ k) r .nil)
 |true=>
  rw[if_pos rfl,if_pos rfl];clear e
  have z:∀{kvs:aN}{ak:bh},bB K N H kvs (ak.map gY)->bB K N H (kvs.map λkv=>if pk kv.1=some k then (kv.1,x) else kv) ((ak.map λkv=>if kv.1=k then (kv.1,v) else kv).map gY):=by
   intro kvs
   induction kvs with
   |nil=>intro ak h;cases ak with|nil=>exact .nil|cons _ _=>cases h
   |cons p kvs ih=>
    intro ak h
    cases ak with
    |nil=>cases h
    |cons kw ak=>
     cases h with
     |cons r1 r2 r3=>
      have e:=yG r1;rw[map_cons,map_cons,map_cons];by_cases hk:kw.1=k
      ·rw[if_pos hk,if_pos (by show pk _=_;rw[e,hk])];exact .cons r1 r (ih r3)
      ·rw[if_neg hk,if_neg (by show ¬ pk _=_;rw[e];exact λz=>hk (Option.some.inj z))];exact .cons r1 r2 (ih r3)
  exact z h
end
section
variable {X:Cx}{K:Frag}{e:Expr}{ue:UE}{pos:Pos}
theorem yI:PE X (.Dict [] [] pos) (fU K (uC (.ah []))):=Mq.mono λσ H Q ⟨A,P,R,h,c⟩=>λp hp=>
 c _ A _ H _ h R (ax.refl A H) ⟨p,.ah [],rfl,rfl,hp,d0 hp _,[],aZ,.nil⟩
end
theorem Rep.FJ {K:Frag}{H:Hp}{σ:St}{A:AS}{i:Nat}(R:Rep K H σ A){a:Addr}{xs ys:aN}{vs:bh}(hi:A.ae[i]?=some (some (.own a (.ah xs))))(r:bB K (AN A) H ys (vs.map gY)):Rep K (upd H a (.dK vs)) σ (put A i (.own a (.ah ys)))/\ax A H (put A i (.own a (.ah ys))) (upd H a (.dK vs)):=by
 obtain⟨v,ev,rfl,nb,us,ha,_⟩:=R.sl i _ hi
 have ow:∀ b,Own (put A i (.own a (.ah ys))).ae b->Own A.ae b:=by
  rintro b ⟨j,c,h⟩;rcases cg h with ⟨_,z⟩|⟨_,z⟩
  ·cases z;exact⟨i,_,hi⟩
  ·exact⟨j,c,z⟩
 have dm:∀ b,H b≠none->upd H a (.dK vs) b≠none:=λb h=>by
  by_cases e:b=a
  ·subst e;rw[aZ];intro z;cases z
  ·rw[aB e];exact h
 have S:ax A H (put A i (.own a (.ah ys))) (upd H a (.dK vs)):=⟨λb o h m=>by
  rw[aB λe=>m (.inl ⟨i,_,by rw[e];exact hi⟩)];exact h,λb z=>.inl (ow b z),rfl,dm,rfl⟩
 have kp:=R.keep S;refine⟨⟨?_,?_,λb h=>dm b (R.cW b h),?_,?_,?_⟩,S⟩
 ·rw[R.len];exact(length_set ..).symm
 ·intro j t h;rcases cg h with ⟨rfl,z⟩|⟨n,z⟩
  ·cases z;exact⟨_,ev,rfl,nb,vs,aZ,r.imp kp⟩
  ·obtain⟨w,e1,q⟩:=R.sl j t z;refine⟨w,e1,?_⟩
   cases t with
   |val x=>exact q.imp kp
   |own b c=>
    have i3:b≠a:=λe=>n (by subst e;exact R.nd _ _ _ _ _ hi z);exact⟨q.1,q.2.1,q.2.2.imp kp λo h=>by rw[aB i3];exact h⟩
   |peek b c=>
    have i3:b≠a:=λe=>nb (by subst e;exact q.2.1);exact⟨q.1,q.2.1,q.2.2.imp kp λo h=>by rw[aB i3];exact h⟩
 ·intro i1 j1 b c1 c2 h1 h2;rcases cg h1 with ⟨e1,z1⟩|⟨_,z1⟩
  ·cases z1;rcases cg h2 with ⟨e2,z2⟩|⟨_,z2⟩
   ·exact e1.symm.trans e2
   ·exact e1.symm.trans (R.nd _ _ _ _ _ hi z2)
  ·rcases cg h2 with ⟨e2,z2⟩|⟨_,z2⟩
   ·cases z2;exact(R.nd _ _ _ _ _ z1 hi).trans e2
   ·exact R.nd _ _ _ _ _ z1 z2
 ·intro st h;obtain⟨h1,h2,h3⟩:=R.st st h;have nd:a≠st.d:=λe=>nb (by rw[e];exact h1);refine⟨h1,h2.upd nd (λps z=>by rw[ha] at z;cases z),?_⟩
  exact h3.jn λo u h3=>by
   rw[aB λe=>by rw[e,ha] at h3;cases h3];exact h3
 ·intro i1 b c1 st h1 h2;rcases cg h1 with ⟨_,z⟩|⟨_,z1⟩
  ·cases z
  ·exact R.pk _ _ _ _ z1 h2
def yJ (i:Nat)(ue uk:UE):US:=λE A=>ue A λv A1=>match A1.ae[i]? with
 |some (some (.own a (.ah _)))=>uk A1 λkp A2=>∃ k xs,pk kp=some k/\A2.ae[i]?=some (some (.own a (.ah xs)))/\xs.length<=1000000/\E.nx (put A2 i (.own a (.ah (dG xs k v))))
 |_=>False
theorem bB.len {K:Frag}{N:Addr->Prop}{H:Hp}{xs:aN}{vs:List (V×V)}(h:bB K N H xs vs):xs.length=vs.length:=by
 induction vs generalizing xs with
 |nil=>cases h;rfl
 |cons v vs ih=>cases h with|cons h1 h2 h3=>rw[length_cons,length_cons,ih h3]
section
variable {X:Cx}{K:Frag}{e ke de fe:Expr}{ue uk ud uf:UE}{pos bD dB apos bK:Pos}{k:Nat}
theorem qE (hr:bz k X.A)(i:Nat){x:Str}(he:PE X e (aD K ue))(hk:PE X ke (aD K uk))(hN:X.N[i]?=some x:=by rfl)(hv:di X.env.scope x:=by walk_at "v")(hd:(x==("__debug__":Str))=false:=by decide)(bA:(x==("__classdict__":Str))=false:=by decide)
  (hs:swapsWith e (some (.Subscript (.Name x bD) ke pos)) dB.line X.env=pure false:=by rfl):PS X (.Assign [.Subscript (.Name x bD) ke pos] e dB) (bS K (yJ i ue uk)):=(jR (fR hr) (dO hN hv hd bA) hk he hs).mono λD σ H ⟨A,E,R,h,k⟩=>by
 refine⟨A,_,R,h,λv A1 w H1 p R1 S1 rv=>?_⟩
 split at p
 ·rename_i a ys hx;obtain⟨_,ev,rfl,nb,vs,h1,h2⟩:=R1.sl i _ hx;refine⟨_,ev,A1,_,R1,p,λkp A2 kw H2 p2 R2 S2 rk=>?_⟩;obtain⟨key,xs,jP,hA,aK,p2⟩:=p2;obtain⟨_,_,_,_,us,g1,g2⟩:=R2.sl i _ hA;cases qC jP rk;have ll:=g2.len;rw[length_map] at ll;obtain⟨R3,S3⟩:=R2.FJ hA (yH g2 key (rv.imp (R1.keep S2)));exact⟨a,_,rfl,iQ.k g1 (Nat.lt_of_le_of_lt (by omega:us.length<=1000000) (by decide)),k.nx _ σ _ p2 R3 (S1.trans (S2.trans S3))⟩
 ·exact p.elim
def qF:G2
 |.ah kvs,kp,z=>∃ k,pk kp=some k/\bP kvs k=some z
 |_,_,_=>False
def yK (neg:Bool):G2
 |kp,.ah kvs,z=>∃ k,pk kp=some k/\z=.bl (neg^^(bP kvs k).isSome)
 |_,_,_=>False
theorem FL {u:UE}{t:TE}(h:∀ σ H Q,aD K u σ H Q->t σ H Q):∀ σ H Q,liftT K (uB u) σ H Q->tB t σ H Q:=λσ H Q ⟨A,P,R,hu,c⟩=>h σ H _ ⟨A,_,R,hu,λx A1 v H1 p R1 S1 rv=>by
 obtain⟨b,rfl,p⟩:=p;cases rv
 exact⟨b,rfl,c b A1 H1 p R1 S1⟩⟩
end
def yL (K:Frag)(H:Hp)(kv:Key×V)(v:V):Prop:=∃ a,v=.ref a/\aS K H a [kV kv.1,kv.2]
theorem QR {X:Cx}(hc:X.calm=true):eA X (.type "dict") (λxs H Q=>∃(l:Addr)(vs:Zv)(kvs:bh),xs=[.ref l]/\H l=some (.lst vs)/\Rl (yL X.K H) kvs vs/\kvs.length<=1000/\∀ p,H p=none->Q (.ref p) (upd H p (.dK (sL kvs)))):=by
 intro pins s σ H xs us Q I r h;obtain⟨l,vs,kvs,rfl,hl,rl,aK,q⟩:=h;obtain⟨u,rfl,ru⟩:=vals1 r;cases ru;obtain⟨z,its,n,rv,hlen,e⟩:=I.ir hl;have len:=rl.len
 have all:∀{kvs:bh}{vs:Zv}{its:aR},Rl (yL X.K H) kvs vs->Vals vs its->∃ ws:List (Key×Value),KV kvs ws/\∀(i:Nat)(v:Value),its[i]?=some v->∃ p o m key x k,v=.ref p/\s.heap.get? p=some o/\o.cls=.type "tuple"/\o.data=.seq #[key,x] m/\ws[i]?=some (k,x)/\(ck X.prog X.w).is k key=true:=by
  intro kvs vs its h
  induction h generalizing its with
  |nil=>
   intro g;cases g;exact⟨[],.nil,λi v e=>by simp at e⟩
  |@cons kv v kvs vs hp _ ih=>
   intro g
   cases g with
   |cons g1 g2=>
    obtain⟨ws,kw,hw⟩:=ih g2;obtain⟨a,rfl,ha⟩:=hp;cases g1;obtain⟨QS,rj,⟨o,ho,gJ,m,hd⟩,_⟩:=I.tuple ha;obtain⟨key,x,rfl,rk,rx⟩:=vals2 rj;refine⟨(kv.1,x)::ws,.cons ⟨rfl,rx⟩ kw,λi v e=>?_⟩
    cases i with
    |zero=>
     cases e;exact⟨a,o,m,key,x,kv.1,rfl,ho,gJ,hd,rfl,mj rk⟩
    |succ i=>exact hw i v (by simpa using e)
 obtain⟨ws,kw,hw⟩:=all rl rv;refine O3 (kvs:=ws) (I.ok.hd hc) e (by omega) (by rw[<- kw.length];omega) hw λh' tk dd kp=>?_;have big:=I.big;refine⟨.ref _,_,I.laid (o:=.dK (sL kvs)) (t':=tk) kp (aG _) (rW (cC (O5 kvs) (Nat.le_of_lt (kY aK))) (beq_eq_false_iff_ne.mpr (Ne.symm (bN big))) (O6 kw) dd),rfl,q _ I.fresh⟩
noncomputable def mV:af->Option (List (Key×PV))
 |[]=>some []
 |.tup [p,x]::r=>match pk p,mV r with
  |some k,some l=>some ((k,x)::l)
  |_,_=>none
 |_=>none
noncomputable def dictOf (l:List (Key×PV)):aN:=l.foldl (λacc kv=>dG acc kv.1 kv.2) []
def FN:G1
 |.lst xs,z=>∃ l,mV xs=some l/\l.length<=1000/\z=.ah (dictOf l)
 |_,_=>False
theorem FO {K:Frag}{N:Addr->Prop}{H:Hp}:∀{xs:af}{vs:Zv}{l:List (Key×PV)},aI K N H xs vs->mV xs=some l->∃ kvs:bh,Rl (yL K H) kvs vs/\l.length=kvs.length/\∀(acc:aN)(acc':bh),bB K N H acc (acc'.map gY)->bB K N H (l.foldl (λacc kv=>dG acc kv.1 kv.2) acc) ((kvs.foldl (λacc kv=>putK acc kv.1 kv.2) acc').map gY)
 |_,_,_,.nil,h=>by cases h;exact⟨[],.nil,rfl,λ_ _ h=>h⟩
 |x::xs,_,l,.cons r rs,h=>by
  unfold mV at h
  split at h
  ·rename_i heq;cases heq
  ·rename_i p y r' heq;cases heq
   split at h
   ·rename_i k l' hk hl;cases h;obtain⟨kvs,h1,h2,h3⟩:=FO rs hl
    cases r with
    |tup g1 g2=>
     cases g2 with
     |cons q1 q2=>
      cases q2 with
      |cons q3 q4=>
       cases q4;rename_i v1 v2;cases qC hk q1;exact⟨(k,v2)::kvs,.cons ⟨_,rfl,g1⟩ h1,by simp [h2],λacc acc' ha=>h3 _ _ (yH ha k q3)⟩
   ·cases h
  ·cases h
section
variable {X:Cx}{K:Frag}{e:Expr}{ue:UE}{p pos:Pos}
theorem FP (hK:X.K=K)(hc:X.calm=true)(hm:X.mg "dict"=none)(he:PE X e (aO K ue))(hg:Gl X "dict":=by rfl)(hs:starEach [e] X.env=[(false,eval e X.env)]:=by rfl):PE X (.Call (.Name "dict" p) [e] [] pos) (fU K (u1 FN ue)):=by
 subst hK;refine Fx (QR hc) ?_ PyProof.Rows.boot_dict hm he hg (hs:=hs);intro H A σ x v z Q R q1 g c;cases x<;>first|exact g.elim|skip
 obtain⟨l,hl,aK,rfl⟩:=g;obtain⟨a,vs,rfl,h1,h2⟩:=q1.lst R;obtain⟨kvs,g1,g2,g3⟩:=FO h2 hl;exact⟨a,vs,kvs,rfl,h1,g1,by omega,λq hq=>c _ _ ⟨q,.ah _,rfl,rfl,hq,d0 hq _,_,aZ,g3 [] [] .nil⟩⟩
end
def FQ:R2:=λx y H Q=>∃ a v,x=.ref a/\dD H a y (some v)/\Q v H
theorem QU {X:Cx}(hu:X.A.units+1<cLine):iV X FQ:=by
 intro value slice pins s σ H x y v u Q I rx ry h hs;obtain⟨a,z,rfl,g,q⟩:=h;cases rx;have hT:=vP I g;unfold subscriptTail;refine aj ?_;rw[getitemInPython_of_ne hT.not_modules];refine aj (wpAny_specialOf hT PySem.F.slot_dict_getitem.lookup ?_)
 have fin:wpAny (model X.prog X.w) X.A (subscripted slice false (.ref a) u) (λr nN=>wpAny (model X.prog X.w) X.A (letTemporaryGo value (.ref a) r >>= λ_=>pure r) (EP X pins σ Q) X.xe nN) X.xe s:=by
  rw[hs];exact wpAny_operating (vO hu I g ry λw' s3 I3 cO=>aj (wpAny_letTemporaryGo (aP ⟨z,H,I3,cO,q⟩)))
 first
  |exact aP (aj fin)
  |exact aj (aP (aj fin))
  |exact aj fin
def yM (neg:Bool):R2:=λy x H Q=>∃ a o,x=.ref a/\dD H a y o/\Q (.bl (neg^^o.isSome)) H
theorem QW {X:Cx}(hu:X.A.units+1<cLine):bE X (compareOp .In) (yM false):=by
 intro pins s σ H y x u v Q I ry rx h;obtain⟨a,o,rfl,g,q⟩:=h;cases rx;exact BO hu I g ry λs3 I3=>⟨.bl o.isSome,H,I3,rfl,by simpa using q⟩
theorem FR {X:Cx}(hu:X.A.units+1<cLine):bE X (compareOp .NotIn) (yM true):=by
 intro pins s σ H y x u v Q I ry rx h;obtain⟨a,o,rfl,g,q⟩:=h;cases rx;exact BP hu I g ry λs3 I3=>⟨.bl (!o.isSome),H,I3,rfl,by simpa using q⟩
def ju (x y z:PV):Prop:=oy x y z\/qF x y z
def jv (neg:Bool)(x y z:PV):Prop:=tu neg x y z\/yK neg x y z
section
variable {X:Cx}{K:Frag}{a b:Expr}{ua ub:UE}{pos:Pos}{k:Nat}
theorem QX:dX K (λx y H Q=>vX K x y H Q\/FQ x y H Q) ju:=by
 intro H A σ x y v w z Q R q1 q2 g c;rcases g with g|g
 ·exact .inl (P_ H A σ x y v w z Q R q1 q2 g c)
 ·cases x<;>first|exact g.elim|skip
  obtain⟨key,jP,hl⟩:=g;obtain⟨a,ak,rfl,h1,h2⟩:=q1.ah R;have rk:RV K (AN A) H y w:=q2.rv λc z=>by subst z;cases c<;>cases jP
  cases qC jP rk;obtain⟨u,hu,ru⟩:=(qD h2 key).1 z hl;refine .inr ⟨a,u,rfl,?_,c _ H (aQ.refl H) ru⟩;rw[<- hu];exact dD.kR h1
theorem yN {neg:Bool}:dX K (λx y H Q=>lB K neg x y H Q\/yM neg x y H Q) (jv neg):=by
 intro H A σ y x w v z Q R q1 q2 g c;rcases g with g|g
 ·exact .inl (P0 H A σ y x w v z Q R q1 q2 g c)
 ·cases x<;>first|(cases y<;>exact g.elim)|skip
  rename_i kvs;have g':∃ k,pk y=some k/\z=.bl (neg^^(bP kvs k).isSome):=by cases y<;>exact g
  obtain⟨key,jP,rfl⟩:=g';obtain⟨a,ak,rfl,h1,h2⟩:=q2.ah R;have rk:RV K (AN A) H y w:=q1.rv λc z=>by subst z;cases c<;>cases jP
  cases qC jP rk;refine .inr ⟨a,_,rfl,dD.kR (k:=key) h1,?_⟩;rw[<- FG h2 key];exact c _ H (aQ.refl H) (.bl _)
theorem aA (hK:X.K=K)(hr:bz k X.A)(ha:PE X a (aO K ua))(hb:PE X b (aO K ub))(hs:vW b:=by intro _ _;rfl):PE X (.Subscript a b pos) (aD K (u2 ju ua ub)):=by
 subst hK;exact Pf (MP.or (QU (fR hr))) QX ha hb hs
theorem QY (hK:X.K=K)(hr:bz k X.A)(ha:PE X a (aO K ua))(hb:PE X b (aO K ub))(hm:behindInMarks .In b=false:=by with_unfolding_all rfl):PE X (.Compare a [.In] [b] pos) (aD K (u2 (jv false) ua ub)):=n6 ((Ff hK hr).or (QW (fR hr))) yN ha hb hm
theorem FT (hK:X.K=K)(hr:bz k X.A)(ha:PE X a (aO K ua))(hb:PE X b (aO K ub))(hm:behindInMarks .NotIn b=false:=by with_unfolding_all rfl):PE X (.Compare a [.NotIn] [b] pos) (aD K (u2 (jv true) ua ub)):=n6 ((yo hK hr).or (FR (fR hr))) yN ha hb hm
theorem QZ (hK:X.K=K)(hr:bz k X.A)(ha:PE X a (aO K ua))(hb:PE X b (aO K ub))(hm:behindInMarks .NotIn b=false:=by with_unfolding_all rfl):PT X (.Compare a [.NotIn] [b] pos) (liftT K (gh (jv true) ua ub)):=lg ((yo hK hr).or (FR (fR hr))) yN ha hb hm
end
section
variable {i:Int}{s u:Str}{xs ys:af}{z x:PV}{kvs:aN}{n:Bool}
theorem Q0:ju (.tup xs) (.int i) z=(b9 xs i=some z):=by simp [ju,oy,qF]
theorem Q1:ju (.lst xs) (.int i) z=(b9 xs i=some z):=by simp [ju,oy,qF]
theorem Q2:ju (.str s) (.int i) z=(s.length<=100000/\∃ c,b9 s.cps.toList i=some c/\z=.str ⟨#[c]⟩):=by simp [ju,oy,qF]
theorem Q3:ju (.ah kvs) x z=(∃ k,pk x=some k/\bP kvs k=some z):=by cases x<;>simp [ju,oy,qF]
theorem Q4:jv n x (.tup ys) z=((∀ c:OC,x≠c.pv)/\(∃ n,n<=80/\Dp n x/\∀ p∈ys,Dp n p)/\z=.bl (n^^pin x ys)):=by cases x<;>simp [jv,tu,yK]
theorem Q5:jv n (.str s) (.str u) z=(z=.bl (n^^ou s u)):=by simp [jv,tu,yK]
end
section
variable {X:Cx}{K:Frag}{e:Expr}{ue:UE}{p pos p1 aaC:Pos}
end
structure Df (K:Frag)(mg:bU)(x:Str)(st:Stmt):Prop where
 ex:∃ f fd,fh K x x st f fd/\mg x=some (.ref f)
section
variable {P:Program}{w:World}{K:Frag}{mg:bU}{base:Heap}
theorem Kn.mono {j k:Nat}{x:Str}{sp:Sp}(h:Kn P w K mg base j x sp)(l:j<=k):Kn P w K mg base k x sp:=by
 obtain⟨f,fd,ps,F,r⟩:=h.ex;exact⟨f,fd,ps,F.mono l,r⟩
theorem Df.c6 {x:Str}{st:Stmt}{N ps:ay}{k:Nat}{fr:Bool}{G:Rel}(D:Df K mg x st)(S:bH N ps (aT st))
  (bd:∀(kV doc pm:Value)(an:Option Addr)(aF ct:Value)(us:aR),us.length=ps.length->bindArgs (PySem.W.fnOf x x (jm st) (fg st) (aT st) .none kV doc pm an aF ct) ⟨us,[]⟩=pure (ps.zip us))
  (len:∀ xs r,G xs r->xs.length=ps.length)(lN:ps.length<=N.length)
  (fO:∀(f:Addr)(aF:Value)(A:Around)(outer:List Env)(s:Shared)(H:Hp)(E:XK),bz k (A.deeper (envOfC x (aT st) s.heap.objs.size f aF)) ->
   ∃ u,cn (iq c_ P w K mg base N x (aT st) f aF A outer s H E).jh (fg st) (bS K u)/\∀ B xs r,G xs r->u (cH fr r) (entry B N xs none)):Kn P w K mg base (k+1) x (a_ K fr G):=by
 obtain⟨f,fd,F,hm⟩:=D.ex;exact⟨f,fd,ps,F.c6 S len lN (fO f),F.binds bd,F.kp,hm⟩
theorem Df.i4 {x:Str}{st:Stmt}{N ps:ay}{k:Nat}{fr:Bool}{T:Tr}(D:Df K mg x st)(S:bH N ps (aT st))
  (bd:∀(kV doc pm:Value)(an:Option Addr)(aF ct:Value)(us:aR),us.length=ps.length->bindArgs (PySem.W.fnOf x x (jm st) (fg st) (aT st) .none kV doc pm an aF ct) ⟨us,[]⟩=pure (ps.zip us))
  (len:∀ xs st P,T xs st P->xs.length=ps.length)(lN:ps.length<=N.length)
  (fO:∀(f:Addr)(aF:Value)(A:Around)(outer:List Env)(s:Shared)(H:Hp)(E:XK),bz k (A.deeper (envOfC x (aT st) s.heap.objs.size f aF)) ->
   ∃ u,cn (iq c_ P w K mg base N x (aT st) f aF A outer s H E).jh (fg st) (bS K u)/\∀ B xs st P,T xs st P->u (fH fr P) (entry B N xs (some st))):Kn P w K mg base (k+1) x (spS K fr T):=by
 obtain⟨f,fd,F,hm⟩:=D.ex;exact⟨f,fd,ps,F.i4 S len lN (fO f),F.binds bd,F.kp,hm⟩
end
def eL (P:PV->PV->Prop):Rel:=λxs r=>∃ x0,xs=[x0]/\P x0 r
def bc (P:PV->PV->PV->Prop):Rel:=λxs r=>∃ x0 x1,xs=[x0,x1]/\P x0 x1 r
def gZ (P:PV->PV->PV->PV->Prop):Rel:=λxs r=>∃ x0 x1 x2,xs=[x0,x1,x2]/\P x0 x1 x2 r
theorem eL.len {P:PV->PV->Prop}{xs:af}{r:PV}(h:eL P xs r):xs.length=1:=by obtain⟨_,rfl,_⟩:=h;rfl
theorem bc.len {P:PV->PV->PV->Prop}{xs:af}{r:PV}(h:bc P xs r):xs.length=2:=by obtain⟨_,_,rfl,_⟩:=h;rfl
theorem gZ.len {P:PV->PV->PV->PV->Prop}{xs:af}{r:PV}(h:gZ P xs r):xs.length=3:=by obtain⟨_,_,_,rfl,_⟩:=h;rfl
abbrev eY:=az->(PV->az->Prop)->Prop
def oz (T:eY):Tr:=λxs st P=>xs=[.raw (.ref st.d)]/\T st P
def c7 (T:PV->eY):Tr:=λxs st P=>∃ x1,xs=[.raw (.ref st.d),x1]/\T x1 st P
def iz (T:PV->PV->eY):Tr:=λxs st P=>∃ x1 x2,xs=[.raw (.ref st.d),x1,x2]/\T x1 x2 st P
def oA (T:PV->PV->PV->eY):Tr:=λxs st P=>∃ x1 x2 x3,xs=[.raw (.ref st.d),x1,x2,x3]/\T x1 x2 x3 st P
theorem oz.len {T:eY}{xs:af}{st:az}{P:PV->az->Prop}(h:oz T xs st P):xs.length=1:=by obtain⟨rfl,_⟩:=h;rfl
theorem c7.len {T:PV->eY}{xs:af}{st:az}{P:PV->az->Prop}(h:c7 T xs st P):xs.length=2:=by obtain⟨_,rfl,_⟩:=h;rfl
theorem iz.len {T:PV->PV->eY}{xs:af}{st:az}{P:PV->az->Prop}(h:iz T xs st P):xs.length=3:=by obtain⟨_,_,rfl,_⟩:=h;rfl
theorem oA.len {T:PV->PV->PV->eY}{xs:af}{st:az}{P:PV->az->Prop}(h:oA T xs st P):xs.length=4:=by obtain⟨_,_,_,rfl,_⟩:=h;rfl
def g6:PV->eY:=λx1 st P=>∃ m,x1=.int m/\st.n<=100000/\0<m/\m<2 ^ 200/\∀ r:Int,0<=r->r<m->P (.int r) { st with n:=st.n+1 }
theorem take2 {xs:af}{st:az}{P:PV->az->Prop}(h:c7 g6 xs st P):FF xs st P:=by
 obtain⟨_,rfl,m,rfl,h⟩:=h;exact⟨m,rfl,h⟩
section
variable {i j:Int}{a b:Bool}{s u:Str}{xs ys:af}{z x:PV}{P:af->Prop}{C:Int->Int->Prop}{f:Int->Int->PV}{l h:Option Int}{kvs:aN}{n:Bool}
theorem Q6:qm (.int i) (.int j) z=(z=.int (i+j)):=rfl
theorem Q7:qm (.str s) (.str u) z=(s.length+u.length<=100000/\z=.str (s++u)):=rfl
theorem Q8:qm (.tup xs) (.tup ys) z=(xs.length+ys.length<=100000/\z=.tup (xs++ys)):=rfl
theorem Q9:gI C f (.int i) (.int j) z=(C i j/\z=f i j):=rfl
theorem Q_:qo f (.int i) (.int j) z=(z=f i j):=rfl
theorem Rf:qw (.tup xs) z=(z=.int xs.length):=rfl
theorem Rg:qw (.lst xs) z=(z=.int xs.length):=rfl
theorem Rh:yu (.tup xs) l h z=(z=.tup (fW xs l h)):=rfl
theorem Ri:yu (.str s) l h z=(s.length<=100000/\z=.str (Txt.slice s l h)):=rfl
theorem Rj:yw (.lst xs) z=(z=.tup xs):=rfl
theorem Rk:tE (.tup xs) z=(z=.lst xs):=rfl
theorem Rm:tE (.lst xs) z=(z=.lst xs):=rfl
theorem Ro:yp (.int i) (.int j) z=(z=.bl (decide (i<j))):=rfl
theorem Rp:Fg (.str s) (.str u) z=(z=.bl (!decide (u.cps.toList<s.cps.toList))):=rfl
theorem Rq:jt .ai .ai z=(z=.bl true):=rfl
theorem Rr:jt (.tup xs) .ai z=(z=.bl false):=rfl
theorem Rt:jt (.lst xs) .ai z=(z=.bl false):=rfl
theorem Ru:jt (.int i) .ai z=(z=.bl false):=rfl
theorem Rv:jt (.str s) .ai z=(z=.bl false):=rfl
theorem Rw:ox .ai .ai z=(z=.bl false):=rfl
theorem Ry:ox (.tup xs) .ai z=(z=.bl true):=rfl
theorem Rz:tG (.lst xs) z=(∃ bs,j_ xs=some bs/\z=.bl (bs.all id)):=rfl
theorem RA:tH (.lst xs) z=(∃ bs,j_ xs=some bs/\z=.bl (bs.any id)):=rfl
theorem RB:yy (.bl a) z=(z=.int (if a then 1 else 0)):=rfl
theorem RC:FN (.lst xs) z=(∃ l,mV xs=some l/\l.length<=1000/\z=.ah (dictOf l)):=rfl
theorem RD:xN (.bl a)=some a:=rfl
theorem RE:mU .str (.str s)=some true:=rfl
theorem RF:mU .tuple (.tup xs)=some true:=rfl
theorem RG:mU .int (.int i)=some true:=rfl
theorem RH:mU .bool (.int i)=some false:=rfl
theorem RI:mU .str (.tup xs)=some false:=rfl
theorem gu (n:Nat)(s:Str):Dp n (.str s):=⟨0,rfl,Nat.zero_le _⟩
theorem oB (n:Nat)(s:Int):Dp n (.int s):=⟨0,rfl,Nat.zero_le _⟩
theorem tR (n:Nat)(s:Bool):Dp n (.bl s):=⟨0,rfl,Nat.zero_le _⟩
theorem qG (n:Nat):Dp n .ai:=⟨0,rfl,Nat.zero_le _⟩
theorem RJ (s:Str):∀ c:OC,PV.str s≠c.pv:=by intro c;cases c<;>(intro z;cases z)
theorem FU {α:Type}(f:α->Bool)(l:List α):j_ (l.map λx=>PV.bl (f x))=some (l.map f):=by
 induction l with
 |nil=>rfl
 |cons x l ih=>show(j_ (l.map _)).map (f x::·)=_;rw[ih];rfl
end
section
variable {α:Type}{k:Nat}{ix:List Nat}{A1:AS}{g:UG}{t:UT}{ue:UE}{Q:PV->AS->Prop}
theorem pre_of {e:α->PV}{l:List α}{d r:af}{x:PV}(h:l.map e=d++x::r):∃ d1 x1 r1,l=d1++x1::r1/\d=d1.map e/\x=e x1/\d1=l.take d.length:=by
 obtain⟨d1,r0,rfl,rfl,h2⟩:=map_eq_append_iff.mp h;obtain⟨x1,r1,rfl,rfl,rfl⟩:=map_eq_cons_iff.mp h2;exact⟨d1,x1,r1,rfl,rfl,rfl,by simp⟩
theorem d7 (l:List α)(e F:α->PV)(aK:l.length<=1000000)(each:∀ B x,x∈l->∀ R:PV->AS->Prop,(∀ A4,Kp k ix A1.ae A4->A4.S=A1.S->R (F x) A4)->g (e x) ⟨B,dq k ix A1.ae,A1.S⟩ λA2=>ue A2 R)(fin:Q (.lst (l.map F)) A1):j4 k ix (l.map e) A1 g iw ue Q:=by
 refine⟨by rw[length_map];exact aK,λd ys S=>ys=(l.take d.length).map F/\S=A1.S,⟨by simp,rfl⟩,?_,?_⟩
 ·rintro B d x r ys S e' ⟨rfl,rfl⟩;obtain⟨d1,x1,r1,e1,rfl,rfl,e2⟩:=pre_of e'
  have e0:l.take (d1.map e++[e x1]).length=d1++[x1]:=by
   rw[e1,length_append,length_map,length_singleton,<- singleton_append,<- append_assoc,take_left' (by simp)]
  have e3:(l.take (d1.map e).length).map F++[F x1]=(l.take (d1.map e++[e x1]).length).map F:=by
   rw[e0,<- e2];simp
  have q:=each B x1 (by rw[e1];simp) (λy A4=>Kp k ix A1.ae A4/\(l.take (d1.map e).length).map F++[y]=(l.take (d1.map e++[e x1]).length).map F/\A4.S=A1.S) λA4 k1 s1=>⟨k1,e3,s1⟩
  have e4:(λA2=>ue A2 λy A4=>Kp k ix A1.ae A4/\(l.take (d1.map e).length).map F++[y]=(l.take (d1.map e++[e x1]).length).map F/\A4.S=A1.S)=λA2=>iw A2 λb A3=>if b=true then ue A3 λy A4=>Kp k ix A1.ae A4/\(l.take (d1.map e).length).map F++[y]=(l.take (d1.map e++[e x1]).length).map F/\A4.S=A1.S else Kp k ix A1.ae A3/\(l.take (d1.map e).length).map F=(l.take (d1.map e++[e x1]).length).map F/\A3.S=A1.S:=by
   funext A2
   unfold iw;dsimp only;rw[if_pos rfl]
  rw[e4] at q;exact q
 ·rintro ys S ⟨rfl,rfl⟩;rw[length_map,take_length];exact fin
theorem RK (l:List α)(e F:α->PV)(p:α->Bool)(aK:l.length<=1000000)(each:∀ B x,x∈l->∀(Rs:PV->AS->Prop)(Rn:bX),(∀ A4,p x=true->Kp k ix A1.ae A4->A4.S=A1.S->Rs (F x) A4)->(∀ A4,p x=false->Kp k ix A1.ae A4->A4.S=A1.S->Rn A4) ->
  g (e x) ⟨B,dq k ix A1.ae,A1.S⟩ λA2=>t A2 λb A3=>if b=true then ue A3 Rs else Rn A3)(fin:Q (.lst ((l.filter p).map F)) A1):j4 k ix (l.map e) A1 g t ue Q:=by
 refine⟨by rw[length_map];exact aK,λd ys S=>ys=((l.take d.length).filter p).map F/\S=A1.S,⟨by simp,rfl⟩,?_,?_⟩
 ·rintro B d x r ys S e' ⟨rfl,rfl⟩;obtain⟨d1,x1,r1,e1,rfl,rfl,e2⟩:=pre_of e'
  have e3:l.take (d1.map e++[e x1]).length=d1++[x1]:=by
   rw[e1,length_append,length_map,length_singleton,<- singleton_append,<- append_assoc,take_left' (by simp)]
  dsimp (config:={failIfUnchanged:=false}) only;rw[e3,<- e2];refine each B x1 (by rw[e1];simp) _ _ (λA4 h1 k1 s1=>⟨k1,?_,s1⟩) λA4 h1 k1 s1=>⟨k1,?_,s1⟩
  ·rw[filter_append,filter_cons,h1];simp
  ·rw[filter_append,filter_cons,h1];simp
 ·rintro ys S ⟨rfl,rfl⟩;rw[length_map,take_length];exact fin
theorem FV (l:List α)(e:α->PV)(I:List α->af->Option az->Prop)(aK:l.length<=1000000)(i0:I [] [] A1.S)
  (each:∀ B d x r ys S,l=d++x::r->I d ys S->∀ R:PV->AS->Prop,(∀ y A4,Kp k ix A1.ae A4->I (d++[x]) (ys++[y]) A4.S->R y A4)->g (e x) ⟨B,dq k ix A1.ae,S⟩ λA2=>ue A2 R)(fin:∀ ys S,I l ys S->Q (.lst ys) { A1 with S:=S }):j4 k ix (l.map e) A1 g iw ue Q:=by
 refine⟨by rw[length_map];exact aK,λd ys S=>I (l.take d.length) ys S,by simpa using i0,?_,?_⟩
 ·rintro B d x r ys S e' hI;obtain⟨d1,x1,r1,e1,rfl,rfl,e2⟩:=pre_of e'
  have e3:l.take (d1.map e++[e x1]).length=d1++[x1]:=by
   rw[e1,length_append,length_map,length_singleton,<- singleton_append,<- append_assoc,take_left' (by simp)]
  rw[<- e2] at hI;dsimp (config:={failIfUnchanged:=false}) only;rw[e3];have q:=each B d1 x1 r1 ys S e1 hI (λy A4=>Kp k ix A1.ae A4/\I (d1++[x1]) (ys++[y]) A4.S) λy A4 k1 s1=>⟨k1,s1⟩
  have e4:(λA2=>ue A2 λy A4=>Kp k ix A1.ae A4/\I (d1++[x1]) (ys++[y]) A4.S)=λA2=>iw A2 λb A3=>if b=true then ue A3 λy A4=>Kp k ix A1.ae A4/\I (d1++[x1]) (ys++[y]) A4.S else Kp k ix A1.ae A3/\I (d1++[x1]) ys A3.S:=by
   funext A2
   unfold iw;dsimp only;rw[if_pos rfl]
  rw[e4] at q;exact q
 ·rintro ys S hI;rw[length_map,take_length] at hI;exact fin ys S hI
theorem RL {l:List α}{f:α->Bool}{z:PV}:tG (.lst (l.map λx=>PV.bl (f x))) z=(z=.bl (l.all f)):=by
 rw[Rz,FU];simp [all_map,Function.comp_def]
theorem RM {l:List α}{f:α->Bool}{z:PV}:tH (.lst (l.map λx=>PV.bl (f x))) z=(z=.bl (l.any f)):=by
 rw[RA,FU];simp [any_map,Function.comp_def]
variable {C:bX}{ub:US}{E:fo}
theorem df (l:List α)(e:α->PV)(I:List α->AS->Prop)(h0:I [] A1)(hC:∀ d A2,I d A2->C A2)
  (step:∀ d x r A2,l=d++x::r->I d A2->g (e x) A2 λA3=>ub { E with nx:=I (d++[x]),ct:=I (d++[x]),bk:=E.nx } A3)(fin:∀ A2,I l A2->E.nx A2):mL (l.map e) C A1 g ub E:=by
 refine⟨λd A=>I (l.take d.length) A,by simpa using h0,λd A2 h=>hC _ A2 h,?_,?_⟩
 ·rintro d x r A2 e' hI;obtain⟨d1,x1,r1,e1,rfl,rfl,e2⟩:=pre_of e'
  have e3:l.take (d1.map e++[e x1]).length=d1++[x1]:=by
   rw[e1,length_append,length_map,length_singleton,<- singleton_append,<- append_assoc,take_left' (by simp)]
  rw[<- e2] at hI;dsimp (config:={failIfUnchanged:=false}) only;rw[e3];exact step d1 x1 r1 A2 e1 hI
 ·intro A2 hI;rw[length_map,take_length] at hI;exact fin A2 hI
end
theorem tS {n:Nat}{xs:af}(h:∀ x∈xs,Dp n x):Dp (n+1) (.tup xs):=j6.mpr (eK.mpr h)
theorem gv {n:Nat}{xs:af}(h:∀ x∈xs,Dp n x):Dp (n+1) (.lst xs):=j7.mpr (eK.mpr h)
theorem RN (s:Str)(l:ay):pin (.str s) (l.map PV.str)=l.contains s:=by
 unfold pin;rw[any_map,contains_eq_any_beq]
 congr 1
 funext y
 show(y==s)=(s==y);rw[Bool.eq_iff_iff,beq_iff_eq,beq_iff_eq];exact eq_comm
def cP {α:Type}(P:α->Prop)(Q:α->AS->Prop)(A:AS):Prop:=∃ z,P z/\Q z A
section
variable {α:Type}{P:α->Prop}{Q:α->AS->Prop}{A:AS}{v:α}{p q p3:Prop}
theorem ao (v:α)(h:P v)(k:Q v A):cP P Q A:=⟨v,h,k⟩
theorem RO:cP (λz=>z=v) Q A=Q v A:=by simp [cP]
theorem RP:cP (λz=>v=z) Q A=Q v A:=by simp [cP]
theorem RQ:cP (λz=>p/\z=v) Q A=(p/\Q v A):=by
 unfold cP;exact propext ⟨fun⟨_,⟨h,rfl⟩,k⟩=>⟨h,k⟩,fun⟨h,k⟩=>⟨_,⟨h,rfl⟩,k⟩⟩
end
def ft (c:Bool)(P Q:bX)(A:AS):Prop:=if c=true then P A else Q A
section
variable {c:Bool}{P Q:bX}{A:AS}
theorem yO:ft true P Q A=P A:=by simp [ft]
theorem yP:ft false P Q A=Q A:=by simp [ft]
theorem RS:ft (!c) P Q A=ft c Q P A:=by cases c<;>simp [ft]
theorem gw (h:c=true)(k:P A):ft c P Q A:=by rw[h,yO];exact k
theorem d8 (h:c=false)(k:Q A):ft c P Q A:=by rw[h,yP];exact k
theorem b_ (h:c=true->P A)(k:c=false->Q A):ft c P Q A:=by
 cases c
 ·rw[yP];exact k rfl
 ·rw[yO];exact h rfl
end
def tT (s:Option (Option Sl))(i:Nat)(A:AS)(Q:PV->AS->Prop):Prop:=match s with
 |some (some (.val x))=>Q x A
 |some (some (.own _ (.lst xs)))=>Q (.lst xs) (aY A i (.lst xs))
 |some (some (.own _ (.ah xs)))=>Q (.ah xs) (aY A i (.ah xs))
 |_=>False
def qH (s:Option (Option Sl))(A:AS)(Q:PV->AS->Prop):Prop:=match s with
 |some (some (.val x))=>Q x A
 |some (some (.own _ (.lst xs)))=>Q (.lst xs) A
 |some (some (.own _ (.ah xs)))=>Q (.ah xs) A
 |some (some (.peek _ (.lst xs)))=>Q (.lst xs) A
 |some (some (.peek _ (.ah xs)))=>Q (.ah xs) A
 |_=>False
def qI (nx:bX)(r:PV)(A:AS)(i:Nat):Prop:=∃ c:OC,r=c.pv/\∀ p,nx (put A i (.own p c))
def FW (s:Option (Option Sl))(i:Nat)(A:AS)(Q:PV->AS->Prop):Prop:=match s with
 |some (some (.own _ (.lst xs)))=>Q (.lst xs) (forget A i)
 |some (some (.own _ (.ah xs)))=>Q (.ah xs) (forget A i)
 |_=>False
def fJ (s:Option (Option Sl))(F:Addr->af->AS->Prop)(A:AS):Prop:=match s with
 |some (some (.own a (.lst xs)))=>F a xs A
 |_=>False
def yQ (s:Option (Option Sl))(F:Addr->aN->AS->Prop)(A:AS):Prop:=match s with
 |some (some (.own a (.ah xs)))=>F a xs A
 |_=>False
def oC (x:PV)(Q:af->(bX)->AS->Prop)(A:AS):Prop:=xU x λxs=>Q xs (λ_=>True) A
def yR (x:PV)(Q:Option Int->AS->Prop)(A:AS):Prop:=∃ i,x=.int i/\Q (some i) A
def yS (x:PV)(Q:PV->AS->Prop)(A:AS):Prop:=∃ xs,x=.lst xs/\Q (.lst xs.reverse) A
def tU (x:PV)(Q:af->AS->Prop)(A:AS):Prop:=∃ ys,(x=.lst ys\/x=.tup ys)/\Q ys A
def tV (x:PV)(Q:Int->AS->Prop)(A:AS):Prop:=∃ i,x=.int i/\Q i A
def mW (T:Tr)(xs:af)(Q:PV->AS->Prop)(A:AS):Prop:=∃ st,A.S=some st/\T xs st λr au=>Q r { A with S:=some au }
def lD (T:eY)(st:az)(Q:PV->AS->Prop)(B:Addr->Prop)(ae:bp):Prop:=T st λr au=>Q r ⟨B,ae,some au⟩
def yT (m:Int)(st:az)(Q:PV->AS->Prop)(B:Addr->Prop)(ae:bp):Prop:=st.n<=100000/\0<m/\m<2 ^ 200/\∀ r:Int,0<=r->r<m->Q (.int r) ⟨B,ae,some { st with n:=st.n+1 }⟩
def mY (P:PV->az->Prop)(r:PV)(A:AS):Prop:=∃ st,A.S=some st/\P r st
section
variable {B:Addr->Prop}{ae:bp}{S:Option az}{E:fo}{u w:US}{t t2:UT}{ue i6 FX:UE}{ua:UA}{i j k n:Nat}{QV:PV->AS->Prop}{QT:Bool->AS->Prop}{QA:af->AS->Prop}{QG:bX}
 {QI:af->(bX)->AS->Prop}{QO:Option Int->AS->Prop}{G G':G2}{g1:G1}{ug:UG}{tW:mK}{ui:UI}{uo FY:UO}{A:AS}{x y:PV}{xs:af}{a:Addr}{oc:OC}{ix:List Nat}{st:az}{nx:bX}{kvs:aN}{R:Rel}{T:Tr}{m:Int}
theorem RT:ED E ⟨B,ae,S⟩=E.nx ⟨B,ae,S⟩:=rfl
theorem RU:sP u w E ⟨B,ae,S⟩=u { E with nx:=λA1=>w E A1 } ⟨B,ae,S⟩:=rfl
theorem RW:EE t u w E ⟨B,ae,S⟩=t ⟨B,ae,S⟩ λk A1=>ft k (u E) (w E) A1:=rfl
theorem RX:xP i ue E ⟨B,ae,S⟩=ue ⟨B,ae,S⟩ λr A1=>E.nx (put A1 i (.val r)):=rfl
theorem RZ:xQ i ue E ⟨B,ae,S⟩=ue ⟨B,ae,S⟩ λr A1=>qI E.nx r A1 i:=rfl
theorem R5:EF ue E ⟨B,ae,S⟩=ue ⟨B,ae,S⟩ λ_ A1=>E.nx A1:=rfl
theorem R6:EG ue E ⟨B,ae,S⟩=ue ⟨B,ae,S⟩ λr A1=>E.rt r A1:=rfl
theorem R7:EH ue E ⟨B,ae,S⟩=ue ⟨B,ae,S⟩ λr A1=>E.rf r A1:=rfl
theorem R8:xR i E ⟨B,ae,S⟩=FW ae[i]? i ⟨B,ae,S⟩ E.rf:=rfl
theorem R9 {s:Sl}:put ⟨B,ae,S⟩ i s=⟨B,ae.set i (some s),S⟩:=rfl
theorem R_:aY ⟨B,ae,S⟩ i oc=⟨B,ae.set i (some (.val oc.pv)),S⟩:=rfl
theorem Sd:forget ⟨B,ae,S⟩ i=⟨B,ae.set i none,S⟩:=rfl
theorem Se:OC.pv (.lst xs)=.lst xs:=rfl
theorem Sf:OC.pv (.ah kvs)=.ah kvs:=rfl
theorem Sg:sM i ⟨B,ae,S⟩ QV=tT ae[i]? i ⟨B,ae,S⟩ QV:=rfl
theorem Sh:tT (some (some (.val x))) i A QV=QV x A:=rfl
theorem Si:tT (some (some (.own a (.lst xs)))) i A QV=QV (.lst xs) (aY A i (.lst xs)):=rfl
theorem Sj:tT (some (some (.own a (.ah kvs)))) i A QV=QV (.ah kvs) (aY A i (.ah kvs)):=rfl
theorem Sk:sN i ⟨B,ae,S⟩ QV=qH ae[i]? ⟨B,ae,S⟩ QV:=rfl
theorem Sm:qH (some (some (.val x))) A QV=QV x A:=rfl
theorem Sn:qH (some (some (.own a (.lst xs)))) A QV=QV (.lst xs) A:=rfl
theorem So:qH (some (some (.own a (.ah kvs)))) A QV=QV (.ah kvs) A:=rfl
theorem Sq:qH (some (some (.peek a (.ah kvs)))) A QV=QV (.ah kvs) A:=rfl
theorem Sr:uC x ⟨B,ae,S⟩ QV=QV x ⟨B,ae,S⟩:=rfl
theorem Ss:Es ⟨B,ae,S⟩ QA=QA [] ⟨B,ae,S⟩:=rfl
theorem Su:Et ue ua ⟨B,ae,S⟩ QA=ue ⟨B,ae,S⟩ λx A1=>ua A1 λxs A2=>QA (x::xs) A2:=rfl
theorem Sv:Eu ua ⟨B,ae,S⟩ QV=ua ⟨B,ae,S⟩ λxs A1=>xs.length<=1000/\QV (.tup xs) A1:=rfl
theorem Sw:Ew ua ⟨B,ae,S⟩ QV=ua ⟨B,ae,S⟩ λxs A1=>xs.length<=1000/\QV (.lst xs) A1:=rfl
theorem Sz:u2 G ue i6 ⟨B,ae,S⟩ QV=ue ⟨B,ae,S⟩ λx A1=>i6 A1 λy A2=>A2.ae=A1.ae/\cP (λz=>G x y z) QV A2:=rfl
theorem SA:gh G ue i6 ⟨B,ae,S⟩ QT=ue ⟨B,ae,S⟩ λx A1=>i6 A1 λy A2=>A2.ae=A1.ae/\cP (λz=>G x y (.bl z)) QT A2:=rfl
theorem SD:Ex t t2 ⟨B,ae,S⟩ QT=t ⟨B,ae,S⟩ λc A1=>ft c (λA=>t2 A QT) (λA=>QT false A) A1:=rfl
theorem SE:Ey t t2 ⟨B,ae,S⟩ QT=t ⟨B,ae,S⟩ λc A1=>ft c (λA=>QT true A) (λA=>t2 A QT) A1:=rfl
theorem SF:Ez t ⟨B,ae,S⟩ QT=t ⟨B,ae,S⟩ λc A1=>QT (!c) A1:=rfl
theorem SG:uB ue ⟨B,ae,S⟩ QT=ue ⟨B,ae,S⟩ λx A1=>cP (λc=>x=.bl c) QT A1:=rfl
theorem SH:EA ue i6 ⟨B,ae,S⟩ QV=ue ⟨B,ae,S⟩ λx A1=>cP (λc=>x=.bl c) (λc A=>ft c (λA=>i6 A QV) (λA=>QV (.bl false) A) A) A1:=rfl
theorem SI:EB ue ⟨B,ae,S⟩ QV=ue ⟨B,ae,S⟩ λx A1=>cP (λc=>x=.bl c) (λc A=>QV (.bl (!c)) A) A1:=rfl
theorem SJ:EC ue ⟨B,ae,S⟩ QT=ue ⟨B,ae,S⟩ λx A1=>cP (λc=>xN x=some c) QT A1:=rfl
theorem SM {ty:Ty}:Fy ty ue ⟨B,ae,S⟩ QV=ue ⟨B,ae,S⟩ λx A1=>cP (λc=>mU ty x=some c) (λc A=>QV (.bl c) A) A1:=rfl
theorem SN:u1 g1 ue ⟨B,ae,S⟩ QV=ue ⟨B,ae,S⟩ λx A1=>cP (λz=>g1 x z) QV A1:=rfl
theorem SO:gN i x ⟨B,ae,S⟩ QG=QG (put ⟨B,ae,S⟩ i (.val x)):=rfl
theorem SQ:gT n tW (.tup xs) ⟨B,ae,S⟩ QG=(xs.length=n/\tW xs ⟨B,ae,S⟩ QG):=by
 unfold gT;exact propext ⟨fun⟨_,e,h⟩=>by cases e;exact h,λh=>⟨_,rfl,h⟩⟩
theorem SR:xS [] ⟨B,ae,S⟩ QG=QG ⟨B,ae,S⟩:=by simp [xS]
theorem SS:xT ug tW (x::xs) ⟨B,ae,S⟩ QG=ug x ⟨B,ae,S⟩ λA1=>tW xs A1 QG:=by
 unfold xT;exact propext ⟨fun⟨_,_,e,h⟩=>by cases e;exact h,λh=>⟨_,_,rfl,h⟩⟩
theorem SU:EL ue ⟨B,ae,S⟩ QI=ue ⟨B,ae,S⟩ λx A1=>oC x QI A1:=rfl
theorem SW:EM i ⟨B,ae,S⟩ QI=qi ae[i]? i ⟨B,ae,S⟩ QI:=rfl
theorem SX:qi (some (some (.val x))) i A QI=oC x QI A:=rfl
theorem SY:oC (.lst xs) QI A=QI xs (λ_=>True) A:=rfl
theorem S7:oC (.tup xs) QI A=QI xs (λ_=>True) A:=rfl
theorem S8 {z:Str}:oC (.str z) QI A=(z.cps.all (·<128)=true/\QI (signs z) (λ_=>True) A):=rfl
theorem S9:qi (some (some (.own a (.lst xs)))) i A QI=QI xs (λA2=>A2.ae[i]?=some (some (.own a (.lst xs)))) A:=rfl
theorem S_ {F:Int->AS->Prop}:tV (.int m) F A=F m A:=by
 unfold tV;exact propext ⟨fun⟨_,e,h⟩=>by cases e;exact h,λh=>⟨_,rfl,h⟩⟩
theorem Ta:EN ue ⟨B,ae,S⟩ QI=ue ⟨B,ae,S⟩ λx A1=>tV x (λn A=>n<=1000000000 /\ -1000000000<=n/\QI ((range n.toNat).map fun(k:Nat)=>PV.int k) (λ_=>True) A) A1:=rfl
theorem Tb:EX ui ug u E ⟨B,ae,S⟩=ui ⟨B,ae,S⟩ λxs C A1=>mL xs C A1 ug u E:=rfl
theorem Tc:qk k ix ui ug t ue ⟨B,ae,S⟩ QV=ui ⟨B,ae,S⟩ λxs _ A1=>j4 k ix xs A1 ug t ue QV:=rfl
theorem Td:x' R ua ⟨B,ae,S⟩ QV=ua ⟨B,ae,S⟩ λxs A1=>cP (λr=>R xs r) QV A1:=rfl
theorem Te:ya T ua ⟨B,ae,S⟩ QV=ua ⟨B,ae,S⟩ λxs A1=>mW T xs QV A1:=rfl
theorem Tf:yE i j ⟨B,ae,some st⟩ QV=(ae[i]?=some (some (.val (.raw (.ref st.d))))/\QV (tQ j st) ⟨B,ae,some st⟩):=by
 unfold yE;exact propext ⟨fun⟨_,e,h⟩=>by cases e;exact h,λh=>⟨_,rfl,h⟩⟩
theorem Tg {F:Addr->af->AS->Prop}:fJ (some (some (.own a (.lst xs)))) F A=F a xs A:=rfl
theorem Th {F:Addr->aN->AS->Prop}:yQ (some (some (.own a (.ah kvs)))) F A=F a kvs A:=rfl
theorem Ti:qB i ue ⟨B,ae,S⟩ QV=fJ ae[i]? (λa _ A=>ue A λr A1=>cP (λxs=>A1.ae[i]?=some (some (.own a (.lst xs)))) (λxs A=>xs.length<=1000000/\QV .ai (put A i (.own a (.lst (xs++[r]))))) A1) ⟨B,ae,S⟩:=by
 first
 |(unfold qB fJ;rfl)
 |(unfold qB fJ;dsimp only;generalize ae[i]?=s;rcases s with _|_|s<;>first|rfl|(cases s<;>first|rfl|(rename_i c;cases c<;>rfl)))
theorem Tj:tK i ue ⟨B,ae,S⟩ QV=fJ ae[i]? (λa _ A=>ue A λr A1=>cP (λxs=>A1.ae[i]?=some (some (.own a (.lst xs)))) (λxs A=>tU r (λys A=>xs.length+ys.length<=1000000/\QV .ai (put A i (.own a (.lst (xs++ys))))) A) A1) ⟨B,ae,S⟩:=by
 unfold tK fJ tU cP;dsimp only;generalize ae[i]?=s;rcases s with _|_|s<;>first|rfl|(cases s<;>first|rfl|skip)
 rename_i c;cases c<;>first|rfl|skip
 refine congrArg (ue ⟨B,ae,S⟩) (funext λr=>funext λA1=>?_);exact propext ⟨fun⟨xs,ys,h1,h2,h3⟩=>⟨xs,h1,ys,h2,h3⟩,fun⟨xs,h1,ys,h2,h3⟩=>⟨xs,ys,h1,h2,h3⟩⟩
theorem Tn:tL i ue ⟨B,ae,S⟩ QV=fJ ae[i]? (λa _ A=>ue A λr A1=>cP (λxs=>A1.ae[i]?=some (some (.own a (.lst xs)))) (λxs A=>∃ j,(∃ n,n<=80/\Dp n r/\∀ x∈xs,Dp n x)/\(∃ p,xs[j]?=some p/\a8 p r=true)/\(∀(m:Nat) p,m<j->xs[m]?=some p->a8 p r=false)/\QV .ai (put A i (.own a (.lst (xs.eraseIdx j))))) A1) ⟨B,ae,S⟩:=by
 unfold tL fJ cP;dsimp only;generalize ae[i]?=s;rcases s with _|_|s<;>first|rfl|(cases s<;>first|rfl|skip)
 rename_i c;cases c<;>first|rfl|skip
 refine congrArg (ue ⟨B,ae,S⟩) (funext λr=>funext λA1=>?_);exact propext ⟨fun⟨xs,j,h1,h2⟩=>⟨xs,h1,j,h2⟩,fun⟨xs,h1,j,h2⟩=>⟨xs,j,h1,h2⟩⟩
theorem To:yJ i ue i6 E ⟨B,ae,S⟩=ue ⟨B,ae,S⟩ λv A1=>yQ A1.ae[i]? (λa _ A=>i6 A λkp A2=>cP (λxs=>A2.ae[i]?=some (some (.own a (.ah xs)))) (λxs A=>cP (λk=>pk kp=some k) (λk A=>xs.length<=1000000/\E.nx (put A i (.own a (.ah (dG xs k v))))) A) A2) A1:=by
 unfold yJ yQ cP;congr 1;funext v A1;dsimp only;generalize A1.ae[i]?=s;rcases s with _|_|s<;>first|rfl|(cases s<;>first|rfl|skip)
 rename_i c;cases c<;>first|rfl|skip
 refine congrArg (i6 A1) (funext λr=>funext λA2=>?_);exact propext ⟨fun⟨k,xs,h1,h2,h3⟩=>⟨xs,h2,k,h1,h3⟩,fun⟨xs,h2,k,h1,h3⟩=>⟨k,xs,h1,h2,h3⟩⟩
theorem Tp:qI nx (.lst xs) A i=∀ p,nx (put A i (.own p (.lst xs))):=by
 unfold qI;refine propext ⟨fun⟨c,e,h⟩=>?_,λh=>⟨.lst xs,rfl,h⟩⟩
 cases c with
 |lst ys=>cases e;exact h
 |ah _=>cases e
 |ins _ _ _=>cases e
 |bQ _=>cases e
theorem Tq:qI nx (.ah kvs) A i=∀ p,nx (put A i (.own p (.ah kvs))):=by
 unfold qI;refine propext ⟨fun⟨c,e,h⟩=>?_,λh=>⟨.ah kvs,rfl,h⟩⟩
 cases c with
 |ah ys=>cases e;exact h
 |lst _=>cases e
 |ins _ _ _=>cases e
 |bQ _=>cases e
theorem Ts:FW (some (some (.own a (.ah kvs)))) i A QV=QV (.ah kvs) (forget A i):=rfl
theorem Tt:Fs ⟨B,ae,S⟩ QO=QO none ⟨B,ae,S⟩:=rfl
theorem Tu:Ft ue ⟨B,ae,S⟩ QO=ue ⟨B,ae,S⟩ λx A1=>yR x QO A1:=rfl
theorem Tv:yR (.int m) QO A=QO (some m) A:=by
 unfold yR;exact propext ⟨fun⟨_,e,h⟩=>by cases e;exact h,λh=>⟨_,rfl,h⟩⟩
theorem Tw {g:PV->Option Int->Option Int->PV->Prop}:Fu g ue uo FY ⟨B,ae,S⟩ QV=ue ⟨B,ae,S⟩ λx A1=>uo A1 λl A2=>FY A2 λh A3=>A3.ae=A1.ae/\cP (λz=>g x l h z) QV A3:=rfl
theorem Tx:Fv ue ⟨B,ae,S⟩ QV=ue ⟨B,ae,S⟩ λx A1=>yS x QV A1:=rfl
theorem Tz:yS (.lst xs) QV A=QV (.lst xs.reverse) A:=by
 unfold yS;exact propext ⟨fun⟨_,e,h⟩=>by cases e;exact h,λh=>⟨_,rfl,h⟩⟩
theorem TB {F:af->AS->Prop}:tU (.lst xs) F A=F xs A:=by
 unfold tU;exact propext ⟨fun⟨_,e,h⟩=>by rcases e with e|e<;>cases e;exact h,λh=>⟨_,.inl rfl,h⟩⟩
theorem TC:Fz ue ⟨B,ae,S⟩ QV=ue ⟨B,ae,S⟩ λx A1=>tV x (λi A=>QV (.int (-i)) A) A1:=rfl
theorem TF:FE G G' ue i6 FX ⟨B,ae,S⟩ QV=ue ⟨B,ae,S⟩ λx A1=>i6 A1 λy A2=>A2.ae=A1.ae/\cP (λz=>G x y (.bl z)) (λz A=>ft z (λA=>FX A λw A3=>A3.ae=A.ae/\cP (λz'=>G' y w z') QV A3) (λA=>QV (.bl false) A) A) A2:=rfl
theorem TH {r:PV}:cH false r=⟨λ_=>r=.ai,λr' _=>r'=r,λ_ _=>False,λ_=>False,λ_=>False⟩:=by simp [cH]
theorem TJ {r:PV}:cH true r=⟨λ_=>False,λ_ _=>False,λr' _=>r'=r,λ_=>False,λ_=>False⟩:=by simp [cH]
theorem FZ {P:PV->az->Prop}:fH false P=⟨λA=>mY P .ai A,λr A=>mY P r A,λ_ _=>False,λ_=>False,λ_=>False⟩:=by simp [fH,mY]
theorem TK {P:PV->az->Prop}:fH true P=⟨λ_=>False,λ_ _=>False,λr A=>mY P r A,λ_=>False,λ_=>False⟩:=by simp [fH,mY]
theorem TL {P:PV->az->Prop}:mY P x ⟨B,ae,some st⟩=P x st:=by
 unfold mY;exact propext ⟨fun⟨_,e,h⟩=>by cases e;exact h,λh=>⟨_,rfl,h⟩⟩
theorem TQ:lD (g6 (.int m)) st QV B ae=yT m st QV B ae:=by
 unfold lD g6 yT;exact propext ⟨fun⟨_,e,h⟩=>by cases e;exact h,λh=>⟨_,rfl,h⟩⟩
end
section
variable {P1:PV->PV->Prop}{P2:PV->PV->PV->Prop}{P3:PV->PV->PV->PV->Prop}{P4:PV->PV->PV->PV->PV->Prop}{a b c d r:PV}{st:az}{Q:PV->az->Prop}{T1:eY}{T2:PV->eY}{T3:PV->PV->eY}{T4:PV->PV->PV->eY}{α:Type}{l:List α}{x y z w v:α}
theorem TR:eL P1 [a] r=P1 a r:=by simp [eL]
theorem TU:bc P2 [a,b] r=P2 a b r:=by
 unfold bc;exact propext ⟨fun⟨_,_,e,h⟩=>by cases e;exact h,λh=>⟨_,_,rfl,h⟩⟩
theorem TV:gZ P3 [a,b,c] r=P3 a b c r:=by
 unfold gZ;exact propext ⟨fun⟨_,_,_,e,h⟩=>by cases e;exact h,λh=>⟨_,_,_,rfl,h⟩⟩
end
section
variable {α:Type}{l:List α}{x y u v w:α}
theorem oD {i:Int}(h0:0<=i)(e:l[i.toNat]?=some x):b9 l i=some x:=by
 have hl:i.toNat<l.length:=(b8 e).1;unfold b9 iU;rw[if_pos h0,if_pos (by omega)];exact e
theorem qJ:b9 (x::l) 0=some x:=oD (by decide) rfl
theorem qK:b9 (x::y::l) 1=some y:=oD (by decide) rfl
theorem qL:b9 (x::y::u::l) 2=some u:=oD (by decide) rfl
theorem yU:b9 (x::y::u::v::l) 3=some v:=oD (by decide) rfl
theorem TX:b9 (x::y::u::v::w::l) 4=some w:=oD (by decide) rfl
end
section
variable {n:Bool}{s t:Str}{i j:Int}{z:PV}{l:ay}
theorem TY:fI n (.str s) (.str t) z=(z=.bl (n^^(s==t))):=by
 unfold fI;exact propext ⟨λh=>h.2,λh=>⟨⟨0,by decide,gu _ _,gu _ _⟩,h⟩⟩
theorem TZ:fI n (.int i) (.int j) z=(z=.bl (n^^(i==j))):=by
 unfold fI;exact propext ⟨λh=>h.2,λh=>⟨⟨0,by decide,oB _ _,oB _ _⟩,h⟩⟩
theorem T5 (k:Nat){l:ay}:∀ p∈l.map PV.str,Dp k p:=λp hp=>by obtain⟨q,_,rfl⟩:=mem_map.mp hp;exact gu _ _
theorem T6:jv n (.str s) (.tup (l.map PV.str)) z=(z=.bl (n^^l.contains s)):=by
 rw[Q4,RN];exact propext ⟨λh=>h.2.2,λh=>⟨RJ s,⟨0,by decide,gu _ _,T5 0⟩,h⟩⟩
end
theorem oE {p x:PV}{r:aN}{k:Key}:bP ((p,x)::r) k=if pk p=some k then some x else bP r k:=rfl
theorem T7 {kvs:aN}{k:Key}{v:PV}(k':Key):bP (dG kvs k v) k'=if k=k' then some v else bP kvs k':=by
 have app:∀(l:aN),bP (l++[(kP k,v)]) k'=match bP l k' with|some x=>some x|none=>if k=k' then some v else none:=by
  intro l
  induction l with
  |nil=>simp [bP,QP]
  |cons a l ih=>
   obtain⟨p,x⟩:=a;rw[cons_append,oE,oE];by_cases h:pk p=some k'
   ·rw[if_pos h,if_pos h]
   ·rw[if_neg h,if_neg h,ih]
 have upd:∀(l:aN),bP (l.map λkv=>if pk kv.1=some k then (kv.1,v) else kv) k'=if k=k' then (if (bP l k).isSome then some v else none) else bP l k':=by
  intro l
  induction l with
  |nil=>simp [bP]
  |cons a l ih=>
   obtain⟨p,x⟩:=a;rw[map_cons,oE,oE];by_cases h:pk p=some k
   ·rw[if_pos h,oE];by_cases e:k=k'
    ·subst e;simp [h]
    ·have h':¬ pk p=some k':=by rw[h];exact λz=>e (Option.some.inj z)
     rw[if_neg e,if_neg h',if_neg h',ih,if_neg e]
   ·rw[if_neg h,oE];by_cases e:k=k'
    ·subst e;rw[if_pos rfl,if_neg h,if_neg h,ih,if_pos rfl]
    ·rw[if_neg e,ih,if_neg e]
 unfold dG;by_cases hs:(bP kvs k).isSome=true
 ·rw[if_pos hs,upd,if_pos hs]
 ·rw[if_neg hs,app];by_cases e:k=k'
  ·subst e
   cases h:bP kvs k with
   |none=>rfl
   |some z=>rw[h] at hs;exact absurd rfl hs
  ·simp only[if_neg e];cases bP kvs k'<;>rfl
theorem tX {α:Type}{k:Nat}{ix:List Nat}{A1:AS}{g:UG}{t:UT}{ue:UE}{Q:PV->AS->Prop}(l:List α)(e F:α->PV)(p:α->Bool)(aK:l.length<=1000000)(each:∀ B x,x∈l->∀(Rs:PV->AS->Prop)(Rn:bX),(∀ A4,p x=true->Kp k ix A1.ae A4->A4.S=A1.S->Rs (F x) A4)->(∀ A4,p x=false->Kp k ix A1.ae A4->A4.S=A1.S->Rn A4) ->
  g (e x) ⟨B,dq k ix A1.ae,A1.S⟩ λA2=>t A2 λb A3=>ft b (λA=>ue A Rs) Rn A3)(fin:Q (.lst ((l.filter p).map F)) A1):j4 k ix (l.map e) A1 g t ue Q:=RK l e F p aK each fin
theorem T8 {s:Str}:pk (.str s)=some (.inr s):=rfl
section
variable {d p:Addr}{n:Nat}{b:Bs}{Q:PV->AS->Prop}{B:Addr->Prop}{ae:bp}{T1:eY}{T2:PV->eY}{T3:PV->PV->eY}{T4:PV->PV->PV->eY}{x y z:PV}{m:Int}
theorem tY {T:Tr}{xs:af}{st:az}:mW T xs Q ⟨B,ae,some st⟩=T xs st λr au=>Q r ⟨B,ae,some au⟩:=by
 unfold mW;exact propext ⟨fun⟨_,e,h⟩=>by cases e;exact h,λh=>⟨_,rfl,h⟩⟩
theorem T9:mW (oz T1) [.raw (.ref d)] Q ⟨B,ae,some ⟨d,p,n,b⟩⟩=lD T1 ⟨d,p,n,b⟩ Q B ae:=by
 rw[tY];exact propext ⟨fun⟨_,h⟩=>h,λh=>⟨rfl,h⟩⟩
theorem T_:mW (c7 T2) [.raw (.ref d),x] Q ⟨B,ae,some ⟨d,p,n,b⟩⟩=lD (T2 x) ⟨d,p,n,b⟩ Q B ae:=by
 rw[tY];exact propext ⟨fun⟨_,e,h⟩=>by cases e;exact h,λh=>⟨_,rfl,h⟩⟩
theorem Ua:mW (iz T3) [.raw (.ref d),x,y] Q ⟨B,ae,some ⟨d,p,n,b⟩⟩=lD (T3 x y) ⟨d,p,n,b⟩ Q B ae:=by
 rw[tY];exact propext ⟨fun⟨_,_,e,h⟩=>by cases e;exact h,λh=>⟨_,_,rfl,h⟩⟩
theorem Ub:mW (oA T4) [.raw (.ref d),x,y,z] Q ⟨B,ae,some ⟨d,p,n,b⟩⟩=lD (T4 x y z) ⟨d,p,n,b⟩ Q B ae:=by
 rw[tY];exact propext ⟨fun⟨_,_,_,e,h⟩=>by cases e;exact h,λh=>⟨_,_,_,rfl,h⟩⟩
theorem draw (h1:n<=100000)(h2:0<m)(h3:m<2 ^ 200)(h4:∀ r:Int,0<=r->r<m->Q (.int r) ⟨B,ae,some ⟨d,p,n+1,b⟩⟩):yT m ⟨d,p,n,b⟩ Q B ae:=⟨h1,h2,h3,h4⟩
end
section
variable {A1:AS}{g:UG}{C:bX}{ub:US}{E:fo}{t:UT}{ue:UE}{k:Nat}{ix:List Nat}{Q:PV->AS->Prop}
theorem mZ (N:Nat)(I:Nat->AS->Prop)(h0:I 0 A1)(hC:∀ i A2,I i A2->C A2)
  (step:∀ i A2,i<N->I i A2->g (.int i) A2 λA3=>ub { E with nx:=I (i+1),ct:=I (i+1),bk:=E.nx } A3)(fin:∀ A2,I N A2->E.nx A2):mL ((range N).map fun(k:Nat)=>PV.int k) C A1 g ub E:=by
 refine df (range N) (fun(k:Nat)=>PV.int k) (λd A=>I d.length A) h0 (λd A h=>hC _ A h) ?_ ?_
 ·intro d x r A2 e hI
  have hx:x=d.length/\d.length<N:=by
   have h1:(range N)[d.length]?=some x:=by rw[e];simp
   obtain⟨h2,h3⟩:=b8 h1;rw[length_range] at h2;rw[getElem_range] at h3;exact⟨h3.symm,h2⟩
  rw[hx.1];rw[length_append,length_singleton];exact step _ A2 hx.2 hI
 ·intro A2 h;rw[length_range] at h;exact fin A2 h
theorem Uc (N:Nat)(I:Nat->af->Option az->Prop)(aK:N<=1000000)(i0:I 0 [] A1.S)
  (each:∀ B i ys S,i<N->I i ys S->∀ R:PV->AS->Prop,(∀ y A4,Kp k ix A1.ae A4->I (i+1) (ys++[y]) A4.S->R y A4)->g (.int i) ⟨B,dq k ix A1.ae,S⟩ λA2=>ue A2 R)(fin:∀ ys S,I N ys S->Q (.lst ys) { A1 with S:=S }):j4 k ix ((range N).map fun(k:Nat)=>PV.int k) A1 g iw ue Q:=by
 refine FV (range N) (fun(k:Nat)=>PV.int k) (λd ys S=>I d.length ys S) (by rw[length_range];exact aK) i0 ?_ ?_
 ·intro B d x r ys S e hI R hR
  have hx:x=d.length/\d.length<N:=by
   have h1:(range N)[d.length]?=some x:=by rw[e];simp
   obtain⟨h2,h3⟩:=b8 h1;rw[length_range] at h2;rw[getElem_range] at h3;exact⟨h3.symm,h2⟩
  obtain⟨rfl,hx⟩:=hx;refine each B d.length ys S hx hI R λy A4 k1 i1=>hR y A4 k1 ?_;rw[length_append,length_singleton];exact i1
 ·intro ys S h;rw[length_range] at h;exact fin ys S h
end
theorem F0 {xs:af}{i:Int}(h0:0<=i)(h1:i<=xs.length):fW xs (some i) none=xs.drop i.toNat:=by
 unfold fW
 have e:HT.aW xs.length 0 (some i)=i.toNat:=by
  show(if i<0 then _ else min i.toNat xs.length)=_;rw[if_neg (by omega)];omega
 rw[e,HT.BX,take_of_length_le (by rw[length_drop];exact aG _)]
theorem F2 {xs:af}{i:Int}(h0:0<=i)(h1:i<=xs.length):fW xs none (some i)=xs.take i.toNat:=by
 unfold fW
 have e:HT.aW xs.length xs.length (some i)=i.toNat:=by
  show(if i<0 then _ else min i.toNat xs.length)=_;rw[if_neg (by omega)];omega
 rw[e,HT.BX,Nat.sub_zero,drop_zero]
def Nx (st:az)(c:Nat)(au:az):Prop:=∃ n,n<=st.n+c/\au=⟨st.d,st.a,n,st.b⟩
noncomputable def tZ:fo:=⟨λ_=>False,λr _=>r=.bl true,λr _=>r=.bl true,λ_=>False,λ_=>False⟩
theorem Ud {K:Frag}{H:Hp}{a:Addr}{ns:List Int}(hO:nQ H)(hS:aC K H a (ns.map V.int))(hl:ns.length<=63):fm K H a:=by
 rcases hS with (h|h)|h
 ·rcases hO a with z|⟨o,xs,z⟩<;>(rw[h] at z;cases z)
 ·exact⟨ns,hl,.inl h⟩
 ·exact⟨ns,hl,.inr h⟩
theorem Ue {K:Frag}{u:US}{H H1:Hp}{a d:Addr}{D:Bs}{n0:Nat}{ns:List Int}(hO:nQ H)(hS:aC K H a (ns.map V.int))(hl:ns.length<=63)(S1:cG H1 d a n0 D)(s1:aQ H H1)(m:Nat)
  (q:u tZ ⟨λb=>b=d,some (.val (.raw (.ref a)))::some (.val (.raw (.ref d)))::replicate m none,some ⟨d,a,n0,D⟩⟩){Q:VK}(hQ:∀ H',Q (.bl true) H') :
  bS K u { nx:=λ_ H'=>Q .ai H',rt:=Q } (some (.ref a)::some (.ref d)::replicate m none) H1:=by
 obtain⟨kvs,hd⟩:=S1.dk
 have yV:∀(i:Nat)(s:Sl),(some (Sl.val (.raw (.ref a)))::some (.val (.raw (.ref d)))::replicate m none:bp)[i]?=some (some s)->(i=0/\s=.val (.raw (.ref a)))\/(i=1/\s=.val (.raw (.ref d))):=by
  intro i s h;rcases i with _|_|i
  ·cases h;exact .inl ⟨rfl,rfl⟩
  ·cases h;exact .inr ⟨rfl,rfl⟩
  ·rw[getElem?_cons_succ,getElem?_cons_succ,getElem?_replicate] at h
   split at h<;>cases h
 refine⟨_,tZ,⟨?_,?_,?_,?_,?_,?_⟩,q,?_⟩
 ·simp
 ·intro i s h;rcases yV i s h with ⟨rfl,rfl⟩|⟨rfl,rfl⟩
  ·exact⟨_,rfl,.raw a⟩
  ·exact⟨_,rfl,.raw d⟩
 ·rintro b rfl;rw[hd];intro z;cases z
 ·intro i j b c c' h1 h2;rcases yV _ _ h1 with ⟨_,z⟩|⟨_,z⟩<;>cases z
 ·rintro st h;cases h;exact⟨rfl,S1,(Ud hO hS hl).keep λo=>s1 _ o⟩
 ·intro i b c st h1 h2;rcases yV _ _ h1 with ⟨_,z⟩|⟨_,z⟩<;>cases z
 ·refine⟨λA1 a7 H2 p=>p.elim,?_,?_,?_,λA1 a7 H2 p=>p.elim,λA1 a7 H2 p=>p.elim⟩
  ·rintro r A1 a7 v H2 rfl R1 S2 rv;cases rv;exact hQ _
  ·rintro r A1 a7 v H0 H2 rfl R1 S2 ⟨p,c,e,_⟩;cases c<;>cases e
  ·intro i b c A1 a7 H2 hi lz p R1 S2;have p':c.pv=.bl true:=p;cases c<;>cases p'
section
variable {X:Cx}{K:Frag}{a b e:Expr}{ua ub ue:UE}{p pos apos bK bD:Pos}{k:Nat}
def t7 (i:Nat)(ue:UE):UE:=λA Q=>match A.ae[i]? with
 |some (some (.own a (.lst _)))=>ue A λr A1=>∃ xs j y,A1.ae[i]?=some (some (.own a (.lst xs)))/\r=.int (j:Nat)/\j<=1000000/\xs[j]?=some y/\Q y (put A1 i (.own a (.lst (xs.eraseIdx j))))
 |_=>False
theorem Ug (hK:X.K=K)(i:Nat){x:Str}(he:PE X e (aD K ue))(hN:X.N[i]?=some x:=by rfl)(hv:di X.env.scope x:=by walk_at "v")(hd:(x==("__debug__":Str))=false:=by decide)(bA:(x==("__classdict__":Str))=false:=by decide)
  (dQ:attributeBase (.Name x bD) "pop" X.env (eval (.Name x bD) X.env)=eval (.Name x bD) X.env:=by rfl)
  (gF:((backTo bK (starEach [e] X.env)).all (λx=>!x.1)&&(backToKw bK (keywordEach [] X.env)).all (λx=>x.1.isSome)&&decide ([e].length+([]:List Keyword).length+(if ([]:List Keyword).isEmpty then 0 else 1)<30))=true:=by rfl)
  (dR:(apos.endLine==bK.line)=true:=by rfl)(hs:starEach [e] X.env=[(false,eval e X.env)]:=by rfl):PE X (.Call (.Attribute (.Name x bD) "pop" apos) [e] [] bK) (aD K (t7 i ue)):=by
 subst hK;refine(mw PySem.F.plainAttrs_list PySem.F.slot_list_pop PySem.F.type_list_pop Na (dO hN hv hd bA) (bO he cq hs) dQ gF dR hs rfl).mono λσ H Q ⟨A,P,R,h,c⟩=>?_;unfold t7 at h
 split at h
 ·rename_i a ys hx;obtain⟨v,ev,rfl,nb,vs,h1,h2⟩:=R.sl i _ hx;refine⟨_,ev,.inl ⟨rfl,_,aC.of h1⟩,A,_,R,h,λr A1 w H1 p R1 S1 cO=>?_⟩;obtain⟨xs,j,y,hA,rfl,aK,hy,p⟩:=p;obtain⟨_,_,_,_,us,g1,g2⟩:=R1.sl i _ hA;cases cO;obtain⟨u,hu,ru⟩:=g2.at hy;have hl:j<us.length:=(b8 hu).1;obtain⟨R2,S2⟩:=R1.turn hA (g2.erase j);exact⟨a,us,j,j,u,rfl,rfl,g1,by omega,by omega,seqIndex_of (by omega) (by omega),hu,c _ _ _ _ p R2 (S1.trans S2) (ru.imp (R1.keep S2))⟩
 ·exact h.elim
end
section
variable {B:Addr->Prop}{ae:bp}{S:Option az}{A:AS}{i:Nat}{ue:UE}{QV:PV->AS->Prop}{QI:af->(bX)->AS->Prop}{kvs:aN}{xs:af}{z:PV}{m n:Int}
theorem Uh:oC (.ah kvs) QI A=QI (kvs.map Prod.fst) (λ_=>True) A:=rfl
theorem Ui:t7 i ue ⟨B,ae,S⟩ QV=fJ ae[i]? (λa _ A=>ue A λr A1=>cP (λxs=>A1.ae[i]?=some (some (.own a (.lst xs)))) (λxs A=>∃ j y,r=.int (j:Nat)/\j<=1000000/\xs[j]?=some y/\QV y (put A i (.own a (.lst (xs.eraseIdx j))))) A1) ⟨B,ae,S⟩:=by
 unfold t7 fJ cP;dsimp only;generalize ae[i]?=s;rcases s with _|_|s<;>first|rfl|(cases s<;>first|rfl|skip)
 rename_i c;cases c<;>first|rfl|skip
 refine congrArg (ue ⟨B,ae,S⟩) (funext λr=>funext λA1=>?_);exact propext ⟨fun⟨xs,j,y,h1,h2⟩=>⟨xs,h1,j,y,h2⟩,fun⟨xs,h1,j,y,h2⟩=>⟨xs,j,y,h1,h2⟩⟩
end
section
variable {X:Cx}{K:Frag}{a b:Expr}{ua ub:UE}{pos:Pos}{k:Nat}
end
def t8 (neg:Bool):G2
 |x,.tup ys,z=>(∃ n,n<=80/\Dp n x/\∀ p∈ys,Dp n p)/\z=.bl (neg^^pin x ys)
 |x,.lst ys,z=>(∃ n,n<=80/\Dp n x/\∀ p∈ys,Dp n p)/\z=.bl (neg^^pin x ys)
 |_,_,_=>False
section
variable {X:Cx}{K:Frag}{a b:Expr}{ua ub:UE}{pos:Pos}{k:Nat}
theorem Uj {neg:Bool}{H:Hp}{A:AS}{σ:St}{x y:PV}{v w:V}{z:PV}{Q:VK}(R:Rep K H σ A)(q1:RV K (AN A) H x v)(q2:cv K A H y w)(g:t8 neg x y z)
  (c:∀ v' H',aQ H H'->RV K (AN A) H' z v'->Q v' H'):lB K neg v w H Q:=by
 have main:∀ ys,((∃ n,n<=80/\Dp n x/\∀ p∈ys,Dp n p)/\z=.bl (neg^^pin x ys))->(∃ a vs,w=.ref a/\(aS K H a vs\/H a=some (.lst vs))/\aI K (AN A) H ys vs)->lB K neg v w H Q:=by
  rintro ys ⟨⟨n,hn,d1,d2⟩,rfl⟩ h;exact .inl ⟨AN A,x,ys,n,hn,d1,d2,q1,h,c _ H (aQ.refl H) (.bl _)⟩
 cases y with
 |tup ys=>obtain⟨a,vs,rfl,h1,h2⟩:=q2.tup;exact main ys (by cases x<;>exact g) ⟨a,vs,rfl,.inl h1,h2⟩
 |lst ys=>obtain⟨a,vs,rfl,h1,h2⟩:=q2.lst R;exact main ys (by cases x<;>exact g) ⟨a,vs,rfl,.inr h1,h2⟩
 |_=>cases x<;>exact g.elim
theorem F3 {neg:Bool}:∀ σ H Q,liftT K (gh (t8 neg) ua ub) σ H Q->vI (kN (lB K neg) (aD K ua) (aO K ub)) σ H Q:=λσ H Q ⟨A,P,R,h,c⟩=>
 ⟨A,_,R,h,λx A1 v H1 p1 R1 S1 q1=>⟨A1,_,R1,p1,λy A2 w H2 p2 R2 S2 q2=>by
  obtain⟨e,z,g,p⟩:=p2
  exact Uj R2 (q1.imp (R1.keep S2)) q2 g λv' H' s rv=>by
   cases rv
   exact⟨z,rfl,c z A2 H' p (R2.same s) (S1.trans (S2.trans (ax.same A2 s)))⟩⟩⟩
theorem yW (hK:X.K=K)(hr:bz k X.A)(ha:PE X a (aD K ua))(hb:PE X b (aO K ub))(hm:behindInMarks .NotIn b=false:=by rfl):PT X (.Compare a [.NotIn] [b] pos) (liftT K (gh (t8 true) ua ub)):=(kQ (yo hK hr) ha hb hm).mono F3
theorem F4 (hK:X.K=K)(hr:bz k X.A)(ha:PE X a (aD K ua))(hb:PE X b (aO K ub))(hm:behindInMarks .In b=false:=by rfl):PT X (.Compare a [.In] [b] pos) (liftT K (gh (t8 false) ua ub)):=(kQ (Ff hK hr) ha hb hm).mono F3
end
theorem F5 {X:Cx}{K:Frag}{a b:Expr}{ua ub:UE}{pos:Pos}(ha:PE X a (aO K ua))(hb:PE X b (aO K ub)):PE X (.BinOp a .Pow b pos) (aD K (u2 (gI Br λi j=>.int (i ^ j.toNat)) ua ub)):=qh LH (yb λ_ _ _ _=>.int _) ha hb
section
variable {X:Cx}{pins:aL}{σ:St}{H:Hp}{s:Shared}{N:Addr->Prop}
def t9 (kvs:aN)(p:PV×PV):Prop:=(∀ k,pk p.1=some k->bP kvs k=some p.2)/\Dp 50 p.2/\a8 p.2 p.2=true
theorem F6 (I:Inv X pins σ H s){A:Around}(hu:A.units+50<cLine){kvs:aN}{ak:bh}{kb:List (Key×Value)}(rk:bB X.K N H kvs (ak.map gY))(rb:KV ak kb) :
  ∀{sub:aN}{yX:bh}{ka:List (Key×Value)},bB X.K N H sub (yX.map gY)->KV yX ka->(∀ p∈sub,t9 kvs p)->PySem.W.KeqHits A s kb ka true
 |[],[],[],_,_,_=>.nil
 |[],[],_::_,_,h,_=>nomatch h
 |[],_::_,_,h,_,_=>nomatch h
 |_::_,[],_,h,_,_=>nomatch h
 |_::_,_::_,[],_,h,_=>nomatch h
 |(p,x)::sub,(k,v)::yX,(k',u)::ka,h,.cons hh t,g=>by
  obtain⟨e,ru⟩:=hh;cases (show k=k' from e)
  cases h with
  |cons r1 r2 r3=>
   obtain⟨g1,g2,g3⟩:=g (p,x) mem_cons_self;obtain⟨v2,h2,Uk⟩:=(qD rk k).1 x (g1 k (yG r1));have z:=rb.val k;rw[h2] at z;obtain⟨y,hy,ry⟩:=ig.some_of z;have q:=yi I 50 A x x v v2 u y (by omega) g2 g2 r2 Uk ru ry;rw[g3] at q;exact .hit (e:=true) (b:=true) hy q (F6 I hu rk rb r3 t λp hp=>g p (mem_cons_of_mem _ hp))
def F7 (K:Frag):V->V->Hp->VK->Prop:=λx y H Q=>∃(N:Addr->Prop)(a b:Addr)(kvs:aN)(ak qM:bh),x=.ref a/\y=.ref b/\Rd H a (.dK ak)/\Rd H b (.dK qM)/\bB K N H kvs (ak.map gY)/\bB K N H kvs (qM.map gY)/\(∀ p∈kvs,t9 kvs p)/\Q (.bl false) H
theorem F8 (hu:X.A.units+100<cLine):bE X (compareOp .NotEq) (F7 X.K):=by
 intro pins s σ H x y v u Q I rx ry h;obtain⟨N,a,b,kvs,ak,qM,rfl,rfl,ha,hb,r1,r2,g,q⟩:=h;cases rx;cases ry;obtain⟨_,n1,va,ra,d1⟩:=ha.ok I.aw;obtain⟨_,n2,vb,rb,d2⟩:=hb.ok I.aw;have l1:=r1.len;have l2:=r2.len;rw[length_map] at l1 l2;refine PySem.W.keq_ne n1 n2 d1 d2 (by omega) (r:=true) (λ_=>F6 I (by rw[in1_units];omega) r2 rb r1 ra g) ⟨.bl false,H,I,?_,q⟩;show _=Value.bool _;rw[<- ra.length,<- rb.length,<- l1,<- l2];simp
end
def yY:G2:=λx y z=>∃ kvs,x=.ah kvs/\y=.ah kvs/\(∀ p∈kvs,t9 kvs p)/\z=.bl false
theorem F9 {K:Frag}:dX K (F7 K) yY:=by
 intro H A σ x y v w z Q R q1 q2 g c;obtain⟨kvs,rfl,rfl,g,rfl⟩:=g;obtain⟨a,ak,rfl,h1,h2⟩:=q1.ah R;obtain⟨b,qM,rfl,f1,f2⟩:=q2.ah R;exact⟨AN A,a,b,kvs,ak,qM,rfl,rfl,h1,f1,h2,f2,g,c _ H (aQ.refl H) (.bl _)⟩
section
variable {X:Cx}{K:Frag}{a b:Expr}{ua ub:UE}{pos:Pos}{k:Nat}
theorem aaD (hK:X.K=K)(hr:bz k X.A)(ha:PE X a (aO K ua))(hb:PE X b (aO K ub)):PE X (.Compare a [.NotEq] [b] pos) (aD K (u2 yY ua ub)):=by
 subst hK;exact n6 (F8 (by have:=hr.un;omega)) F9 ha hb (fB _)
theorem Ul (hK:X.K=K)(hr:bz k X.A)(ha:PE X a (aO K ua))(hb:PE X b (aO K ub)):PT X (.Compare a [.NotEq] [b] pos) (liftT K (gh yY ua ub)):=by
 subst hK;exact lg (F8 (by have:=hr.un;omega)) F9 ha hb (fB _)
end
end L2
namespace HE
open PySem PyProof.Rows
open PySem.AutoSeq1 (wpAny_loadPart')
section
variable {prog:Program}{w:World}{A:Around}{E:aU}{s:Shared}
theorem next_item {e it l:Addr}{i:Nat}{its:Array Value}{x old:Value}{Q:aU}(he:IsEnum s.heap e it i old)(hit:s.heap.IsTupleIter it l i)(hl:s.heap.IsTuple l its)(hx:its[i]?=some x)(cV:e≠it)
  (hQ:∀ h',IsEnumOut h' e it ((i:Int)+1) x s.heap.objs.size->h'.IsTupleIter it l (i+1)->h'.get? s.heap.objs.size=some { cls:=.type "tuple",data:=.seq #[.int i s.toks,x] } ->
   (∀ b o,b≠e->b≠it->s.heap.get? b=some o->h'.get? b=some o)->Q (.ref s.heap.objs.size) { s with heap:=h',toks:=s.toks+1 }) :
  wpAny (model prog w) A (Builtin.«enumerate.__next__» ⟨[.ref e],[]⟩) (λfin s'=>∃ v,fin=.done (.ret v)/\Q v s') E s:=by
 obtain⟨hp,g,d,tk,os⟩:=s;show wpAny _ _ (field (.ref e) 2 >>= _) _ _ _;refine aj (wpAny_field he rfl (x:=.ref it) rfl ?_);refine aj (HZ.sg hit hl hx λh1 Um s1=>?_);have e1:IsEnum h1 e it i old:=(s1.2 e cV).trans he;show wpAny _ _ (field (.ref e) 3 >>= _) _ _ ⟨h1,g,d,tk,os⟩;refine aj (wpAny_field e1 rfl (x:=rawInt i) rfl ?_);show wpAny _ _ (field (.ref e) 4 >>= _) _ _ ⟨h1,g,d,tk,os⟩;refine aj (wpAny_field e1 rfl (x:=.none) rfl ?_);show wpAny _ _ (mkInt i >>= _) _ _ ⟨h1,g,d,tk,os⟩;refine aj (wpAny_mkInt ?_);show wpAny _ _ (setField (.ref e) 3 (rawInt ((i:Int)+1)) >>= _) _ _ ⟨h1,g,d,tk+1,os⟩;refine aj (wpAny_setField_rec e1 (by simp) λh2 e2 s2=>?_);have Uo:IsEnum h2 e it ((i:Int)+1) old:=e2;show wpAny _ _ (setField (.ref e) 4 .none >>= _) _ _ ⟨h2,g,d,tk+1,os⟩;refine aj (wpAny_setField_rec Uo (by simp) λh3 e3 s3=>?_);have Up:IsEnum h3 e it ((i:Int)+1) old:=e3;have z3:h3.objs.size=hp.objs.size:=by rw[s3.1];exact s2.1.trans s1.1
 show wpAny _ _ (newTuple [.int i tk,x] >>= _) _ _ ⟨h3,g,d,tk+1,os⟩;refine aj (wpAny_newTuple ?_);generalize hh:h3.push { cls:=.type "tuple",data:=.seq [Value.int i tk,x].toArray }=h4;have e4:IsEnum h4 e it ((i:Int)+1) old:=by rw[<- hh];exact aX _ Up
 have t4:h4.get? hp.objs.size=some { cls:=.type "tuple",data:=.seq #[.int i tk,x] }:=by rw[<- hh,<- z3];exact cI _ rfl
 have k4:∀ b o,b≠e->b≠it->hp.get? b=some o->h4.get? b=some o:=λb o n1 n2 hb=>by rw[<- hh];exact aX _ (s3.extBut b o n1 (s2.extBut b o n1 (s1.extBut b o n2 hb)))
 have Ur:h4.IsTupleIter it l (i+1):=by
  obtain⟨o,ho,r⟩:=(Um.extBut s2.extBut (Ne.symm cV)).extBut s3.extBut (Ne.symm cV);rw[<- hh];exact⟨o,aX _ ho,r⟩
 have Us:hp.objs.size≠e:=Nat.ne_of_gt (aV he);rw[z3];show wpAny _ _ (Builtin.SmallTypes.ownedTupleIsFree (.ref e) >>= _) _ _ ⟨h4,g,d,tk+1,os⟩;refine aj ?_;unfold Builtin.SmallTypes.ownedTupleIsFree;refine aj (wpAny_field e4 rfl (x:=.none) rfl (aP ?_));simp only[if_true];refine aj (wpAny_rule ?_);refine aj (wpAny_field e4 rfl (x:=old) rfl ?_);refine aj (wpAny_setField_rec e4 (by simp) λh5 e5 s5=>?_);have Ut:IsEnum h5 e it ((i:Int)+1) x:=e5;show wpAny _ _ (Builtin.SmallTypes.ownedTupleHandOut (.ref e) (.ref hp.objs.size) >>= _) _ _ ⟨h5,g,d,tk+1,os⟩;refine aj ?_;unfold Builtin.SmallTypes.ownedTupleHandOut;refine aj (wpAny_setField_rec Ut (by simp) λh6 e6 s6=>?_);have Uu:IsEnumOut h6 e it ((i:Int)+1) x hp.objs.size:=e6;refine wpAny_setField_rec Uu (by simp) λh7 e7 s7=>?_;have up:∀ b o,b≠e->h4.get? b=some o->h7.get? b=some o:=λb o n q=>s7.extBut b o n (s6.extBut b o n (s5.extBut b o n q));refine aj (wpAny_letGo (aP ⟨_,rfl,hQ h7 e7 ?_ (up _ _ Us t4) λb o n1 n2 q=>up b o n1 (k4 b o n1 n2 q)⟩));exact Ur.at λo q=>up it o (Ne.symm cV) q
theorem Uv (l:Addr)(its:Array Value)(n:Nat)(yZ:Option Addr)(sl:Array (Option Value)) :
  Meets (Builtin.«enumerate.__new__» ⟨[.type "enumerate",.ref l],[]⟩) (λ_ R s=>s.heap.get? l=some { cls:=.type "tuple",dict:=yZ,data:=.seq its n,slots:=sl } /\
   R (.ok (.ret (.ref (HZ.jV s.heap l).objs.size))) { s with heap:=(HZ.jV s.heap l).push { cls:=.type "enumerate",data:=.fields #[.none,.bool false,.ref s.heap.objs.size,rawInt 0,.none,.none] } }):=
 .of_wp λprog w A R s h=>by
  obtain⟨hp,g,d,tk,os⟩:=s;obtain⟨hl,h⟩:=h;have NS:=sub_enumerate;have hL:Heap.IsTuple (Shared.heap ⟨hp,g,d,tk,os⟩) l its:=⟨_,hl,rfl,n,rfl⟩;wp_walk using wpAny_loadPart' hl
  refine wpAny_stack_any λst=>aP ?_
  split
  ·rename_i c _ _ _ _ _;cases (c==Value.type "enumerate")<;>(wp_walk using wpAny_loadPart' hl,wpAny_pyIter_tuple hL;exact⟨_,rfl,h⟩)
  ·wp_walk using wpAny_loadPart' hl,wpAny_pyIter_tuple hL;exact⟨_,rfl,h⟩
theorem Uw {l:Addr}{its:Array Value}{Q:aU}(hL:s.heap.IsTuple l its)
  (h:∀ h',IsEnum h' (s.heap.objs.size+1) s.heap.objs.size 0 .none->h'.IsTupleIter s.heap.objs.size l 0->(∀ b o,s.heap.get? b=some o->h'.get? b=some o)->Q (.ref (s.heap.objs.size+1)) { s with heap:=h' }) :
  wpAny (model prog w) A (call (.type "enumerate") [.ref l]) Q E s:=by
 obtain⟨⟨c,yZ,dt,sl⟩,hl,hc,n,hd⟩:=hL;simp only at hc hd;subst hc hd;refine callType_new PySem.F.called_enumerate (by decide) (PySem.F.typeCall_enumerate_1 _) (PySem.F.newCall_enumerate_1 _) (λobj=>PySem.F.args_object_init_2 obj _) PySem.F.entry_enumerate_new (Uv l its n yZ sl) ⟨hl,?_⟩;have z1:(HZ.jV s.heap l).objs.size=s.heap.objs.size+1:=Heap.size_push ..;have g2:((HZ.jV s.heap l).push { cls:=.type "enumerate",data:=.fields #[.none,.bool false,.ref s.heap.objs.size,rawInt 0,.none,.none] }).get? (HZ.jV s.heap l).objs.size=some _:=cI _ rfl;show _/\_;rw[z1] at g2 ⊢;exact⟨⟨_,g2,rfl⟩,h _ g2 ⟨_,aX _ (cI _ rfl),rfl,rfl⟩ λb o x=>aX _ (aX _ x)⟩
end
end HE
namespace L2
open PySem PySem.Spec PyProof.Rows
noncomputable def qN (K:Frag)(l:Addr):It:=
 ⟨λi H=>∃ xs x,aS K H l xs/\xs[i]?=some x,
 λi H v H'=>∃ p x,H p=none/\v=.ref p/\H'=upd H p (.tup [.int i,x])/\∀ xs,aS K H l xs->xs[i]?=some x,
 λi H=>∃ xs,aS K H l xs/\xs.length<=i⟩
def Ux (e it l:Addr)(i:Nat)(h:Heap):Prop:=(∃ old,IsEnum h e it i old)/\h.IsTupleIter it l i
theorem Uy {P:Program}{w:World}{K:Frag}{es:List Expr}{k:Nat}{pos:Pos}{e it l:Addr}(cV:e≠it):Turn P w K (.Tuple es k pos) (qN K l) [e,it] e (Ux e it l) where
 mem:=by simp
 obj:=λi h st b hb=>by
  obtain⟨⟨old,t1⟩,⟨o4,e4,_,d4⟩⟩:=st;simp only[mem_cons,not_mem_nil,or_false] at hb;rcases hb with rfl|rfl
  ·exact⟨_,t1,λv r=>by cases (show Data.fields _=Data.cell v from r)⟩
  ·exact⟨o4,e4,λv r=>by rw[d4] at r;cases r⟩
 keep:=λi h h' st kp=>by
  obtain⟨⟨old,t1⟩,t4⟩:=st;exact⟨⟨old,kp e (by simp) _ t1⟩,t4.at λo q=>kp it (by simp) o q⟩
 item:=by
  intro X hP hw hK hc i pins s σ H E I hf st hg;subst hP hw hK;obtain⟨xs,x,q1,hx⟩:=hg;obtain⟨us,r1,p1,_⟩:=I.tuple q1;obtain⟨u,hu,ru⟩:=r1.get hx;obtain⟨⟨old,t1⟩,t4⟩:=st;have hT:s.TypeIs (.ref e) "enumerate":=⟨_,t1,rfl⟩;unfold pyNext
  refine aj (wpAny_attempt (wpAny_callSpecial?_slot (name:=Str.ofString "__next__") hT PySem.F.slot_enumerate_next (wpAny_call_entry PySem.F.slot_enumerate_next hT PySem.F.entry_enumerate_next
   (HE.next_item t1 t4 (show s.heap.IsTuple l us.toArray from p1) (x:=u) (by simpa using hu) cV λh' a1 a2 a3 kp=>aP ⟨_,rfl,?_⟩) (PySem.F.args_enumerate_next_1 _))))
  refine wpAny_letOwnedTupleGo_enum a1 λh2 b1 sb=>?_;have fr:H s.heap.objs.size=none:=I.aw.fresh (aG _);have nz:s.heap.objs.size≠e:=Nat.ne_of_gt (aV t1);have gH:∀ b o,b≠e->b≠it->s.heap.get? b=some o->h2.get? b=some o:=λb o n1 n2 q=>sb.extBut b o n1 (kp b o n1 n2 q)
  have gb:∀ f,f∈[e,it]->∀ b u',H b=some u'->b≠f:=λf hm b u' q r=>by
   rw[r,(hf f hm).1] at q;cases q
  have wc:cD X.prog X.w (upd H s.heap.objs.size (.tup [.int i,x])) h2:=by
   intro b ob q;by_cases hb:b=s.heap.objs.size
   ·subst hb;rw[aZ] at q;cases q;exact⟨by show 2<=sizeLine;decide,[_,u],.cons ⟨s.toks,rfl⟩ (.cons ru .nil),⟨_,sb.extBut _ _ nz a3,rfl,_,rfl⟩⟩
   ·rw[aB hb] at q;refine(I.aw b ob q).iK (hc:=λd zs q'=>by rw[aB (bV q' fr)];exact q') (λd w' hd q'=>?_) (λd q'=>by rw[aB (bV q' fr)];exact q') λd zs q'=>by rw[aB (bV q' fr)];exact q'
    rcases hd with rfl|hd
    ·exact gH _ _ (gb e (by simp) _ _ q) (gb it (by simp) _ _ q) q'
    ·exact gH _ _ (gb e (by simp) _ _ hd) (gb it (by simp) _ _ hd) q'
  have I2:Inv X pins σ (upd H s.heap.objs.size (.tup [.int i,x])) { s with heap:=h2,toks:=s.toks+1 }:=by
   refine I.step (g':=s.gens) (d':=s.drawn) (t':=s.toks+1) (ch:=[e,it]) (λb hb=>?_) (λb o _ _ aM q _=>?_) (λb o _ _ aM q _=>⟨o.slots,?_⟩) (λb o aM q n=>?_) (λb o aM q=>⟨o,?_⟩) (λb zs q=>?_) (λb o zs q=>?_) (λb ps q=>⟨#[],?_⟩) (λm hm=>?_) wc I.bare
   ·obtain⟨f0,f1,f2,f3,f4,f5⟩:=hf b hb;exact⟨f3,f1,f4,f5⟩
   ·exact gH b o (λr=>aM (by simp [r])) (λr=>aM (by simp [r])) q
   ·exact gH b o (λr=>aM (by simp [r])) (λr=>aM (by simp [r])) q
   ·rw[aB (bN (aV q))];exact n
   ·exact gH b o (λr=>aM (by simp [r])) (λr=>aM (by simp [r])) q
   ·rw[aB (bV q fr)];exact q
   ·rw[aB (bV q fr)];exact q
   ·rw[aB (bV q fr),q];simp
   ·obtain⟨o,eP,ep,q,r⟩:=hm;exact⟨o,eP,ep,gH _ o (Ne.symm (hf e (by simp)).2.1) (Ne.symm (hf it (by simp)).2.1) q,r⟩
  refine⟨.ref s.heap.objs.size,_,I2,rfl,⟨_,x,fr,rfl,rfl,λzs hz=>by rw[I.pA hz q1];exact hx⟩,⟨⟨_,by simpa using b1⟩,a2.at λo q=>sb.extBut _ o cV.symm q⟩,λb hb=>?_⟩
  have cz:b<s.heap.objs.size:=by
   simp only[mem_cons,not_mem_nil,or_false] at hb;obtain⟨o4,e4,_⟩:=t4;rcases hb with rfl|rfl
   ·exact aV t1
   ·exact aV e4
  rw[aB (bN cz)];exact(hf b hb).1
 done:=by
  intro X hP hw hK hc i pins s σ H E I hf st hg;subst hP hw hK;obtain⟨xs,q1,mx⟩:=hg;obtain⟨us,r1,p1,_⟩:=I.tuple q1;obtain⟨⟨old,t1⟩,t4⟩:=st;have wd:=r1.length;have hT:s.TypeIs (.ref e) "enumerate":=⟨_,t1,rfl⟩;unfold pyNext;refine aj (wpAny_attempt (wpAny_callSpecial?_slot (name:=Str.ofString "__next__") hT PySem.F.slot_enumerate_next (wpAny_call_entry PySem.F.slot_enumerate_next hT PySem.F.entry_enumerate_next ?_ (PySem.F.args_enumerate_next_1 _))));show wpAny _ _ (field (.ref e) 2 >>= _) _ _ _;refine aj (wpAny_field t1 rfl (x:=.ref it) rfl ?_);refine aj (HZ.v_ (I.ok.hd hc) t4 (show s.heap.IsTuple l us.toArray from p1) (by simp;omega) λh' y kp hy=>?_);obtain⟨o,ho,gJ⟩:=hy;refine aj (wpAny_isInstance (T:="StopIteration") (b:=true) ⟨o,ho,gJ⟩ isSubtype_stop (aP ⟨rfl,?_⟩));obtain⟨f0,f1,f2,f3,f4,f5⟩:=hf it (by simp);exact Inv.turned (t':=s.toks) I (λb o n q=>kp b o n q) f0 f1 f3 f4 f5
 self:=λA i s Q E st h=>by obtain⟨⟨old,t1⟩,_⟩:=st;exact wpAny_pyIter_enum t1 h
def Uz (K:Frag)(ta:TA):TI:=λσ H R=>ta σ H λvs H1=>∃ l xs,vs=[.ref l]/\aS K H1 l xs/\R (qN K l) H1
theorem UB {X:Cx}{es:List Expr}{k:Nat}{tp:Pos}{a:Expr}{ta:TA}{p pos:Pos}(hg:Gl X "enumerate")(hm:X.mg "enumerate"=none)(hv:bootBuiltins "enumerate"=some (.type "enumerate"))(ha:PA X [a] ta)
  (hs:starEach [a] X.env=[(false,eval a X.env)]:=by rfl):PI X (.Tuple es k tp) (.Call (.Name "enumerate" p) [a] [] pos) (Uz X.K ta):=by
 intro pins s σ H R I h;refine Call_ (kK I hg hm hv (PyProof.Rows.callWith_type1 (aH (ha pos pins s σ H _ I h) λus s1 ⟨vs,H1,I1,r1,q1⟩=>?_) (by rw[hs];rfl) (by rfl)));obtain⟨l,xs,e,h1,q⟩:=q1;subst e;obtain⟨u,rfl,ru⟩:=vals1 r1;cases ru;obtain⟨us,r1,p1,_⟩:=I1.tuple h1;refine HE.Uw (show s1.heap.IsTuple l us.toArray from p1) λh' a1 a2 kp=>?_;refine wpAny_pyIter_enum a1 ?_;refine⟨s1.heap.objs.size+1,[s1.heap.objs.size+1,s1.heap.objs.size],_,_,H1,rfl,I1.kept (t':=s1.toks) kp,Uy (l:=l) (by show(_:Nat)≠(_:Nat);omega),⟨⟨_,a1⟩,a2⟩,λb hb=>?_,q⟩
 have eQ:s1.heap.objs.size<=b:=by
  simp only[mem_cons,not_mem_nil,or_false] at hb;rcases hb with rfl|rfl
  ·exact Nat.le_add_right _ _
  ·exact aG _
 exact I1.il eQ (I1.aw.fresh eQ)
section
variable {X:Cx}{pins:aL}{σ:St}{H:Hp}{s:Shared}
theorem Inv.y0 {h2:Heap}{xs:Zv}{us:aR}{n:Nat}{tk:Nat}(I:Inv X pins σ H s)(ch:List Addr)(hf:∀ b∈ch,fM X pins H b)(kp:∀ b o,b∉ch->s.heap.get? b=some o->h2.get? b=some o)
  (ht:h2.get? s.heap.objs.size=some { cls:=.type "tuple",data:=.seq us.toArray n })(rv:Vals xs us)(aK:xs.length<=sizeLine):Inv X pins σ (upd H s.heap.objs.size (.tup xs)) { s with heap:=h2,toks:=tk }:=by
 have fr:H s.heap.objs.size=none:=I.aw.fresh (aG _);have nf:∀ b u,H b=some u->b∉ch:=λb u e m=>by rw[(hf b m).1] at e;cases e
 refine I.step (g':=s.gens) (d':=s.drawn) (t':=tk) (ch:=ch) (λb hb=>?_) (λb o _ _ aM q _=>kp b o aM q) (λb o _ _ aM q _=>⟨o.slots,kp b o aM q⟩) (λb o aM q n=>?_) (λb o aM q=>⟨o,kp b o aM q⟩) (λb zs q=>?_) (λb o zs q=>?_) (λb ps q=>⟨#[],?_⟩) (λm hm=>?_) (λb ob q=>?_) I.bare
 ·obtain⟨f0,f1,f2,f3,f4,f5⟩:=hf b hb;exact⟨f3,f1,f4,f5⟩
 ·rw[aB (bN (aV q))];exact n
 ·rw[aB (bV q fr)];exact q
 ·rw[aB (bV q fr)];exact q
 ·rw[aB (bV q fr),q];simp
 ·obtain⟨o,eP,ep,q,r⟩:=hm;exact⟨o,eP,ep,kp _ o (λm=>(hf _ m).2.1 rfl) q,r⟩
 ·by_cases hb:b=s.heap.objs.size
  ·subst hb;rw[aZ] at q;cases q;exact⟨aK,us,rv,⟨_,ht,rfl,_,rfl⟩⟩
  ·rw[aB hb] at q;refine(I.aw b ob q).iK (hc:=λd zs q'=>by rw[aB (bV q' fr)];exact q') (λd w' hd q'=>?_) (λd q'=>by rw[aB (bV q' fr)];exact q') λd zs q'=>by rw[aB (bV q' fr)];exact q'
   rcases hd with rfl|hd
   ·exact kp _ _ (nf _ _ q) q'
   ·exact kp _ _ (nf _ _ hd) q'
theorem Inv.UC {h2:Heap}{tk:Nat}(I:Inv X pins σ H s)(ch:List Addr)(hf:∀ b∈ch,fM X pins H b)(kp:∀ b o,b∉ch->s.heap.get? b=some o->h2.get? b=some o):Inv X pins σ H { s with heap:=h2,toks:=tk }:=by
 have nf:∀ b u,H b=some u->b∉ch:=λb u e m=>by rw[(hf b m).1] at e;cases e
 refine I.step (g':=s.gens) (d':=s.drawn) (t':=tk) (ch:=ch) (λb hb=>?_) (λb o _ _ aM q _=>kp b o aM q) (λb o _ _ aM q _=>⟨o.slots,kp b o aM q⟩) (λb o aM q n=>n) (λb o aM q=>⟨o,kp b o aM q⟩) (λb zs q=>q) (λb o zs q=>q) (λb ps q=>⟨#[],by rw[q];simp⟩) (λm hm=>?_) (λb ob q=>?_) I.bare
 ·obtain⟨f0,f1,f2,f3,f4,f5⟩:=hf b hb;exact⟨f3,f1,f4,f5⟩
 ·obtain⟨o,eP,ep,q,r⟩:=hm;exact⟨o,eP,ep,kp _ o (λm=>(hf _ m).2.1 rfl) q,r⟩
 ·refine(I.aw b ob q).iK (λd w' hd q'=>?_) (λd q'=>q') λd zs q'=>q';rcases hd with rfl|hd
  ·exact kp _ _ (nf _ _ q) q'
  ·exact kp _ _ (nf _ _ hd) q'
end
noncomputable def oF (K:Frag)(l1 l2:Addr):It:=
 ⟨λi H=>∃ xs ys x y,aC K H l1 xs/\aC K H l2 ys/\xs[i]?=some x/\ys[i]?=some y,
 λi H v H'=>∃ p x y,H p=none/\v=.ref p/\H'=upd H p (.tup [x,y])/\(∀ xs,aC K H l1 xs->xs[i]?=some x)/\∀ ys,aC K H l2 ys->ys[i]?=some y,
 λi H=>∃ xs ys,aC K H l1 xs/\aC K H l2 ys/\(xs.length<=i\/ys.length<=i)⟩
def UD (z a c i1 i2 l1 l2:Addr)(i:Nat)(h:Heap):Prop:=IsZip h z a c .none/\IsPair h a (.ref i1) (.ref i2)/\(∃ p q,IsPair h c p q)/\h.IsListIter i1 l1 i/\h.IsListIter i2 l2 i
theorem UH {P:Program}{w:World}{K:Frag}{es:List Expr}{k:Nat}{pos:Pos}{z a c i1 i2 l1 l2:Addr}(D:ZipApart z a c i1 i2 l1 l2) :
  Turn P w K (.Tuple es k pos) (oF K l1 l2) [z,a,c,i1,i2] z (UD z a c i1 i2 l1 l2) where
 mem:=by simp
 obj:=λi h st b hb=>by
  obtain⟨t1,t2,⟨p,q,t3⟩,⟨o4,e4,_,d4⟩,⟨o5,e5,_,d5⟩⟩:=st;simp only[mem_cons,not_mem_nil,or_false] at hb;rcases hb with rfl|rfl|rfl|rfl|rfl
  ·exact⟨_,t1,λv r=>by cases (show Data.fields _=Data.cell v from r)⟩
  ·exact⟨_,t2,λv r=>by cases (show Data.seq _ _=Data.cell v from r)⟩
  ·exact⟨_,t3,λv r=>by cases (show Data.seq _ _=Data.cell v from r)⟩
  ·exact⟨o4,e4,λv r=>by rw[d4] at r;cases r⟩
  ·exact⟨o5,e5,λv r=>by rw[d5] at r;cases r⟩
 keep:=λi h h' st kp=>by
  obtain⟨t1,t2,⟨p,q,t3⟩,t4,t5⟩:=st;exact⟨kp z (by simp) _ t1,kp a (by simp) _ t2,⟨p,q,kp c (by simp) _ t3⟩,t4.at λo e=>kp i1 (by simp) o e,t5.at λo e=>kp i2 (by simp) o e⟩
 item:=by
  intro X hP hw hK hc i pins s σ H E I hf st hg;subst hP hw hK;obtain⟨xs,ys,x,y,q1,q2,hx,hy⟩:=hg;obtain⟨us,r1,p1,_⟩:=I.list q1;obtain⟨vs,r2,p2,_⟩:=I.list q2;obtain⟨u,hu,ru⟩:=r1.get hx;obtain⟨v,hv,rv⟩:=r2.get hy;obtain⟨t1,t2,⟨p,q,t3⟩,t4,t5⟩:=st;have nz:s.heap.objs.size≠z:=Nat.ne_of_gt (aV t1);refine wpAny_pyNext_zip_item D t1 t2 t3 t4 t5 p1.isList p2.isList (x:=u) (y:=v) (by simpa using hu) (by simpa using hv) λh' a1 a2 a3 a4 a5 a6 kp=>⟨_,rfl,?_⟩;refine wpAny_letOwnedTupleGo_zip a1 λh2 b1 sb=>?_
  have I2:=I.y0 (h2:=h2) (xs:=[x,y]) (us:=[u,v]) (n:=0) (tk:=s.toks) [z,c,i1,i2] (λb hb=>hf b (by
   simp only[mem_cons,not_mem_nil,or_false] at hb ⊢
   rcases hb with rfl|rfl|rfl|rfl<;>simp)) (λb o n q=>by
    simp only[mem_cons,not_mem_nil,or_false,not_or] at n
    exact sb.extBut b o n.1 (kp b o n.1 n.2.1 n.2.2.1 n.2.2.2 q)) (sb.extBut _ _ nz a5) (.cons ru (.cons rv .nil)) (by show 2<=sizeLine;decide)
  refine⟨.ref s.heap.objs.size,_,I2,rfl,⟨_,x,y,I.aw.fresh (aG _),rfl,rfl,λzs hz=>by rw[I.rK hz q1];exact hx,λzs hz=>by rw[I.rK hz q2];exact hy⟩,⟨b1,?_,⟨u,v,?_⟩,?_,?_⟩,λb hb=>?_⟩
  ·exact sb.extBut _ _ D.TIz (kp _ _ D.TIz D.TITO D.TIi1 D.TIi2 t2)
  ·exact sb.extBut _ _ D.TOz a2
  ·exact a3.at λo e=>sb.extBut _ o D.i1z e
  ·exact a4.at λo e=>sb.extBut _ o D.i2z e
  ·have cz:b<s.heap.objs.size:=by
    simp only[mem_cons,not_mem_nil,or_false] at hb;obtain⟨o4,e4,_⟩:=t4;obtain⟨o5,e5,_⟩:=t5;rcases hb with rfl|rfl|rfl|rfl|rfl
    ·exact aV t1
    ·exact aV t2
    ·exact aV t3
    ·exact aV e4
    ·exact aV e5
   rw[aB (bN cz)];exact(hf b hb).1
 done:=by
  intro X hP hw hK hc i pins s σ H E I hf st hg;subst hP hw hK;obtain⟨xs,ys,q1,q2,mx⟩:=hg;obtain⟨us,r1,p1,_⟩:=I.list q1;obtain⟨vs,r2,p2,_⟩:=I.list q2;obtain⟨t1,t2,⟨p,q,t3⟩,t4,t5⟩:=st;have wd:=r1.length;have NW:=r2.length
  refine wpAny_pyNext_zip_end (I.ok.hd hc) D t1 t2 t3 t4 t5 p1.isList p2.isList (by rcases mx with r|r<;>simp<;>omega) λh' kp=>⟨rfl,I.UC (tk:=s.toks) [z,c,i1,i2] (λb hb=>hf b (by
   simp only[mem_cons,not_mem_nil,or_false] at hb ⊢
   rcases hb with rfl|rfl|rfl|rfl<;>simp)) λb o n q=>?_⟩
  simp only[mem_cons,not_mem_nil,or_false,not_or] at n;exact kp b o n.1 n.2.1 n.2.2.1 n.2.2.2 q
 self:=λA i s Q E st h=>wpAny_pyIter_zip st.1 h
def UJ (K:Frag)(ta:TA):TI:=λσ H R=>ta σ H λvs H1=>∃ l1 l2 xs ys,vs=[.ref l1,.ref l2]/\aC K H1 l1 xs/\aC K H1 l2 ys/\R (oF K l1 l2) H1
theorem UK {X:Cx}{es:List Expr}{k:Nat}{tp:Pos}{a b:Expr}{ta:TA}{p pos:Pos}(hg:Gl X "zip")(hm:X.mg "zip"=none)(hv:bootBuiltins "zip"=some (.type "zip"))(ha:PA X [a,b] ta)
  (hs:starEach [a,b] X.env=[(false,eval a X.env),(false,eval b X.env)]:=by rfl)(fi:starEach [b] X.env=[(false,eval b X.env)]:=by rfl) :
  PI X (.Tuple es k tp) (.Call (.Name "zip" p) [a,b] [] pos) (UJ X.K ta):=by
 intro pins s σ H R I h;refine Call_ (kK I hg hm hv (PyProof.Rows.callWith_type1 (aH (ha pos pins s σ H _ I h) λus s1 ⟨vs,H1,I1,r1,q1⟩=>?_) (by rw[hs,fi]) (by rw[fi];rfl)));obtain⟨l1,l2,xs,ys,e,h1,h2,q⟩:=q1;subst e;obtain⟨u,v,rfl,ru,rv⟩:=vals2 r1;cases ru;cases rv;obtain⟨us,r1,p1,_⟩:=I1.list h1;obtain⟨ws,r2,p2,_⟩:=I1.list h2;obtain⟨o1,g1,_⟩:=p1.isList;obtain⟨o2,g2,_⟩:=p2.isList;have b1:l1<s1.heap.objs.size:=aV g1;have b2:l2<s1.heap.objs.size:=aV g2;refine call_zip_2 p1.isList p2.isList λh' a1 a2 a3 a4 a5 a6 kp=>?_;refine wpAny_pyIter_zip a1 ?_;refine⟨s1.heap.objs.size+4,[s1.heap.objs.size+4,s1.heap.objs.size+2,s1.heap.objs.size+3,s1.heap.objs.size,s1.heap.objs.size+1],_,_,H1,rfl,I1.kept (t':=s1.toks) kp,UH (l1:=l1) (l2:=l2) ?_,⟨a1,a2,⟨_,_,a3⟩,a4,a5⟩,λb hb=>?_,q⟩
 ·constructor<;>first
   |exact bN (c8 b1 (Nat.le_add_right _ _))
   |exact bN b1
   |exact bN (c8 b2 (Nat.le_add_right _ _))
   |exact bN b2
   |(show(_:Nat)≠(_:Nat);omega)
 ·have eQ:s1.heap.objs.size<=b:=by
   simp only[mem_cons,not_mem_nil,or_false] at hb;rcases hb with rfl|rfl|rfl|rfl|rfl<;>first|exact Nat.le_add_right _ _|exact aG _
  exact I1.il eQ (I1.aw.fresh eQ)
noncomputable def oG (K:Frag)(l:Addr):It:=
 ⟨λi H=>∃ xs x,aC K H l xs/\xs[i]?=some x,
 λi H v H'=>∃ p x,H p=none/\v=.ref p/\H'=upd H p (.tup [.int i,x])/\∀ xs,aC K H l xs->xs[i]?=some x,
 λi H=>∃ xs,aC K H l xs/\xs.length<=i⟩
def UL (e it l:Addr)(i:Nat)(h:Heap):Prop:=(∃ old,IsEnum h e it i old)/\h.IsListIter it l i
theorem UM {P:Program}{w:World}{K:Frag}{es:List Expr}{k:Nat}{pos:Pos}{e it l:Addr}(cV:e≠it):Turn P w K (.Tuple es k pos) (oG K l) [e,it] e (UL e it l) where
 mem:=by simp
 obj:=λi h st b hb=>by
  obtain⟨⟨old,t1⟩,⟨o4,e4,_,d4⟩⟩:=st;simp only[mem_cons,not_mem_nil,or_false] at hb;rcases hb with rfl|rfl
  ·exact⟨_,t1,λv r=>by cases (show Data.fields _=Data.cell v from r)⟩
  ·exact⟨o4,e4,λv r=>by rw[d4] at r;cases r⟩
 keep:=λi h h' st kp=>by
  obtain⟨⟨old,t1⟩,t4⟩:=st;exact⟨⟨old,kp e (by simp) _ t1⟩,t4.at λo q=>kp it (by simp) o q⟩
 item:=by
  intro X hP hw hK hc i pins s σ H E I hf st hg;subst hP hw hK;obtain⟨xs,x,q1,hx⟩:=hg;obtain⟨us,r1,p1,_⟩:=I.list q1;obtain⟨u,hu,ru⟩:=r1.get hx;obtain⟨⟨old,t1⟩,t4⟩:=st;have nz:s.heap.objs.size≠e:=Nat.ne_of_gt (aV t1);refine wpAny_pyNext_enum_item t1 t4 p1.isList (x:=u) (by simpa using hu) cV λh' a1 a2 a3 a4 kp=>⟨_,rfl,?_⟩;refine wpAny_letOwnedTupleGo_enum a1 λh2 b1 sb=>?_
  have I2:=I.y0 (h2:=h2) (xs:=[.int i,x]) (us:=[.int i s.toks,u]) (n:=0) (tk:=s.toks+1) [e,it] hf (λb o n q=>by
    simp only[mem_cons,not_mem_nil,or_false,not_or] at n
    exact sb.extBut b o n.1 (kp b o n.1 n.2 q)) (sb.extBut _ _ nz a3) (.cons ⟨s.toks,rfl⟩ (.cons ru .nil)) (by show 2<=sizeLine;decide)
  refine⟨.ref s.heap.objs.size,_,I2,rfl,⟨_,x,I.aw.fresh (aG _),rfl,rfl,λzs hz=>by rw[I.rK hz q1];exact hx⟩,⟨⟨_,by simpa using b1⟩,a2.at λo q=>sb.extBut _ o cV.symm q⟩,λb hb=>?_⟩
  have cz:b<s.heap.objs.size:=by
   simp only[mem_cons,not_mem_nil,or_false] at hb;obtain⟨o4,e4,_⟩:=t4;rcases hb with rfl|rfl
   ·exact aV t1
   ·exact aV e4
  rw[aB (bN cz)];exact(hf b hb).1
 done:=by
  intro X hP hw hK hc i pins s σ H E I hf st hg;subst hP hw hK;obtain⟨xs,q1,mx⟩:=hg;obtain⟨us,r1,p1,_⟩:=I.list q1;obtain⟨⟨old,t1⟩,t4⟩:=st;have wd:=r1.length;refine wpAny_pyNext_enum_end (I.ok.hd hc) t1 t4 p1.isList (by simp;omega) λh' kp=>⟨rfl,?_⟩;obtain⟨f0,f1,f2,f3,f4,f5⟩:=hf it (by simp);exact Inv.turned (t':=s.toks) I (λb o n q=>kp b o n q) f0 f1 f3 f4 f5
 self:=λA i s Q E st h=>by obtain⟨⟨old,t1⟩,_⟩:=st;exact wpAny_pyIter_enum t1 h
def UN (K:Frag)(ta:TA):TI:=λσ H R=>ta σ H λvs H1=>∃ l xs,vs=[.ref l]/\aC K H1 l xs/\R (oG K l) H1
theorem UP {X:Cx}{es:List Expr}{k:Nat}{tp:Pos}{a:Expr}{ta:TA}{p pos:Pos}(hg:Gl X "enumerate")(hm:X.mg "enumerate"=none)(hv:bootBuiltins "enumerate"=some (.type "enumerate"))(ha:PA X [a] ta)
  (hs:starEach [a] X.env=[(false,eval a X.env)]:=by rfl):PI X (.Tuple es k tp) (.Call (.Name "enumerate" p) [a] [] pos) (UN X.K ta):=by
 intro pins s σ H R I h;refine Call_ (kK I hg hm hv (PyProof.Rows.callWith_type1 (aH (ha pos pins s σ H _ I h) λus s1 ⟨vs,H1,I1,r1,q1⟩=>?_) (by rw[hs];rfl) (by rfl)));obtain⟨l,xs,e,h1,q⟩:=q1;subst e;obtain⟨u,rfl,ru⟩:=vals1 r1;cases ru;obtain⟨us,r1,p1,_⟩:=I1.list h1;refine call_enumerate_list p1.isList λh' a1 a2 a3 kp=>?_;refine wpAny_pyIter_enum a1 ?_;refine⟨s1.heap.objs.size+1,[s1.heap.objs.size+1,s1.heap.objs.size],_,_,H1,rfl,I1.kept (t':=s1.toks) kp,UM (l:=l) (by show(_:Nat)≠(_:Nat);omega),⟨⟨_,a1⟩,a2⟩,λb hb=>?_,q⟩
 have eQ:s1.heap.objs.size<=b:=by
  simp only[mem_cons,not_mem_nil,or_false] at hb;rcases hb with rfl|rfl
  ·exact Nat.le_add_right _ _
  ·exact aG _
 exact I1.il eQ (I1.aw.fresh eQ)
theorem UQ:entryFor table "dict_itemiterator.__iter__"=some Builtin.«dict_keyiterator.__iter__»:=entryFor_alias (id (Eq.refl (fastTable "dict_itemiterator.__iter__"))) rfl (by decide +kernel) (id (Eq.refl (fastTable "dict_keyiterator.__iter__")))
noncomputable def oH (a:Addr)(od:Obj):It:=
 ⟨λi H=>∃ kvs kv,H a=some (.aY od (.dK kvs))/\kvs[i]?=some kv,λi H x H'=>H'=H/\∀ kvs,H a=some (.aY od (.dK kvs))->∃ kv,kvs[i]?=some kv/\x=kv.2,λi H=>∃ kvs,H a=some (.aY od (.dK kvs))/\kvs.length<=i⟩
noncomputable def Itm (a:Addr)(od:Obj):It:=
 ⟨λi H=>∃ kvs kv,H a=some (.aY od (.dK kvs))/\kvs[i]?=some kv,λi H x H'=>∃ p k v,H p=none/\x=.ref p/\H'=upd H p (.tup [kV k,v])/\∀ kvs,H a=some (.aY od (.dK kvs))->kvs[i]?=some (k,v),λi H=>∃ kvs,H a=some (.aY od (.dK kvs))/\kvs.length<=i⟩
theorem F_ {kvs:bh}{vs:List (Key×Value)}(h:KV kvs vs){i:Nat}{kv:Key×V}(e:kvs[i]?=some kv):∃ u,vs[i]?=some (kv.1,u)/\RelV kv.2 u:=by
 unfold KV at h
 induction h generalizing i with
 |nil=>simp at e
 |@cons p q xs ys h1 h2 ih=>
  cases i with
  |zero=>
   simp only[getElem?_cons_zero,Option.some.injEq] at e;subst e;exact⟨q.2,by rw[getElem?_cons_zero,h1.1],h1.2⟩
  |succ i=>exact ih (by simpa using e)
theorem UR {P:Program}{w:World}{K:Frag}{tg:Expr}(a it:Addr)(od:Obj)(es:Array DictEntry)(ep:Nat)(hd:od.data=.dict es ep):Turn P w K tg (oH a od) [it] it (λi h=>h.IsValIter it a i es.size ep) where
 mem:=by simp
 obj:=λi h st b hb=>by
  have e:b=it:=by simpa using hb
  subst e;obtain⟨o,e,c,d⟩:=st;exact⟨o,e,λv z=>by rw[d] at z;cases z⟩
 keep:=λi h h' st k=>by
  obtain⟨o,e,c,d⟩:=st;exact⟨o,k it (by simp) o e,c,d⟩
 item:=by
  intro X hP hw hK hc i pins s σ H E I hf st hg;subst hP hw hK;obtain⟨kvs,kv,hq,hx⟩:=hg;obtain⟨vs,r,da,hsz⟩:=n5 I hq hd;obtain⟨u,hu,ru⟩:=F_ r hx;obtain⟨f0,f1,f2,f3,f4,f5⟩:=hf it (by simp);rw[hsz] at st;refine wpAny_pyNext_values_item st da hu λh' au sb=>?_;have I1:Inv X pins σ H { s with heap:=h' }:=I.turned (t':=s.toks) (λb o hb e=>(sb.2 b hb).trans e) f0 f1 f3 f4 f5;obtain⟨o,e,c,d⟩:=id au;refine⟨u,rfl,nE (s:={ s with heap:=h' }) e c d (by decide) ⟨kv.2,H,I1,ru,⟨rfl,λys hy=>?_⟩,by rw[hsz];exact au,λb hb=>(hf b hb).1⟩⟩;rw[hq] at hy;cases hy;exact⟨kv,hx,rfl⟩
 done:=by
  intro X hP hw hK hc i pins s σ H E I hf st hg;subst hP hw hK;obtain⟨kvs,hq,hx⟩:=hg;obtain⟨vs,r,da,hsz⟩:=n5 I hq hd;obtain⟨f0,f1,f2,f3,f4,f5⟩:=hf it (by simp);have hl:=r.length;rw[hsz] at st;exact wpAny_pyNext_values_end (I.ok.hd hc) st da (getElem?_eq_none (by omega)) λh' eb=>⟨rfl,I.turned (t':=s.toks) (λb o hb e=>eb b o hb e) f0 f1 f3 f4 f5⟩
 self:=λA i s Q E st h=>by
  refine wpAny_pyIter_slot st.typeIs F.slot_dict_valueiterator_iter (wpAny_call_entry F.slot_dict_valueiterator_iter st.typeIs PySem.entry_dict_valueiterator_iter ?_ (F.args_dict_valueiterator_iter_1 _));show wpAny _ _ (ret (.ref it)) _ _ s;exact aP ⟨_,rfl,"dict_valueiterator",_,st.typeIs,F.slot_dict_valueiterator_next.lookup,h⟩
theorem UU {P:Program}{w:World}{K:Frag}{eP:List Expr}{k:Nat}{pos:Pos}(a it:Addr)(od:Obj)(es:Array DictEntry)(ep:Nat)(hd:od.data=.dict es ep):Turn P w K (.Tuple eP k pos) (Itm a od) [it] it (λi h=>∃ ok ov,IsItemIter h it a i es.size ep ok ov) where
 mem:=by simp
 obj:=λi h st b hb=>by
  have e:b=it:=by simpa using hb
  subst e;obtain⟨ok,ov,e⟩:=st;exact⟨_,e,λv z=>by cases (show Data.fields _=Data.cell v from z)⟩
 keep:=λi h h' st kp=>by
  obtain⟨ok,ov,e⟩:=st;exact⟨ok,ov,kp it (by simp) _ e⟩
 item:=by
  intro X hP hw hK hc i pins s σ H E I hf st hg;subst hP hw hK;obtain⟨kvs,kv,hq,hx⟩:=hg;obtain⟨vs,r,da,hsz⟩:=n5 I hq hd;obtain⟨u,hu,ru⟩:=F_ r hx;obtain⟨ok,ov,st⟩:=st;rw[hsz] at st;have nz:s.heap.objs.size≠it:=Nat.ne_of_gt (aV st);refine wpAny_pyNext_items_item st da hu λkey h' hk a1 a2 a3 kp=>⟨_,rfl,?_⟩;refine wpAny_letOwnedTupleGo_items a1 λh2 b1 sb=>?_
  have I2:=I.y0 (h2:=h2) (xs:=[kV kv.1,kv.2]) (us:=[key,u]) (n:=0) (tk:=s.toks) [it] hf (λb o n q=>by
    have n':b≠it:=λe=>n (by simp [e])
    exact sb.extBut b o n' (kp b o n' q)) (sb.extBut _ _ nz a2) (.cons (xJ hk) (.cons ru .nil)) (by show 2<=sizeLine;decide)
  refine⟨.ref s.heap.objs.size,_,I2,rfl,⟨_,kv.1,kv.2,I.aw.fresh (aG _),rfl,rfl,λys hy=>?_⟩,⟨key,u,by rw[hsz];exact b1⟩,λb hb=>?_⟩
  ·rw[hq] at hy;cases hy;exact hx
  ·have e:b=it:=by simpa using hb
   subst e;rw[aB (Ne.symm nz)];exact(hf b hb).1
 done:=by
  intro X hP hw hK hc i pins s σ H E I hf st hg;subst hP hw hK;obtain⟨kvs,hq,hx⟩:=hg;obtain⟨vs,r,da,hsz⟩:=n5 I hq hd;obtain⟨f0,f1,f2,f3,f4,f5⟩:=hf it (by simp);have hl:=r.length;obtain⟨ok,ov,st⟩:=st;rw[hsz] at st;exact wpAny_pyNext_items_end (I.ok.hd hc) st da (getElem?_eq_none (by omega)) λh' eb=>⟨rfl,I.turned (t':=s.toks) (λb o hb e=>eb b o hb e) f0 f1 f3 f4 f5⟩
 self:=λA i s Q E st h=>by
  obtain⟨ok,ov,st⟩:=st;have ty:s.TypeIs (.ref it) "dict_itemiterator":=⟨_,st,rfl⟩;refine wpAny_pyIter_slot ty F.slot_dict_itemiterator_iter (wpAny_call_entry F.slot_dict_itemiterator_iter ty UQ ?_ (F.args_dict_itemiterator_iter_1 _));show wpAny _ _ (ret (.ref it)) _ _ s;exact aP ⟨_,rfl,"dict_itemiterator",_,ty,F.slot_dict_itemiterator_next.lookup,h⟩
def UW (to:TE):TI:=λσ H R=>to σ H λx H1=>∃ a od kvs,x=.ref a/\H1 a=some (.aY od (.dK kvs))/\R (oH a od) H1
def UX (to:TE):TI:=λσ H R=>to σ H λx H1=>∃ a od kvs,x=.ref a/\H1 a=some (.aY od (.dK kvs))/\R (Itm a od) H1
section
variable {X:Cx}{o tg:Expr}{to:TE}{apos bK:Pos}
theorem UY (ho:PE X o to)(dQ:attributeBase o "values" X.env (eval o X.env)=eval o X.env:=by rfl)(dR:(apos.endLine==bK.line)=true:=by rfl):PI X tg (.Call (.Attribute o "values" apos) [] [] bK) (UW to):=by
 intro pins s σ H R I h;refine wpAny_Call_method0_late dQ dR (aH (ho pins s σ H _ I h) λv s1 ⟨x,H1,I1,r1,q1⟩=>?_);obtain⟨a,od,kvs,e,hq,q⟩:=q1;subst e;cases r1;obtain⟨⟨e,_⟩,z,n,vs,r,ob,es,ep,e',c,d,q1,q2,q3⟩:=id (I1.aw a _ hq);rw[e] at e';cases e';have ty:s1.TypeIs (.ref a) "dict":=⟨od,e,c.1⟩;have hsz:es.size=vs.length:=by rw[<- q2.length];simp
 refine⟨"dict","dict.values",PySem.F.plainAttrs_dict,PySem.F.slot_dict_values,PySem.F.type_dict_values,ty,λb eb=>by cases eb;exact⟨od,e,c.2.1⟩,Calls.callWith_builtin rfl (PySem.evalArgs_none ?_)⟩;refine call_meetsIn PySem.F.slot_dict_values ty PySem.F.entry_dict_values (PySem.F.args_dict_values_1 _) (meets_dict_values (ck X.prog X.w) a n) ⟨⟨vs,od,es,ep,e,c,d,q1,q2,q3⟩,?_⟩;have iv:Heap.IsValuesView (s1.heap.push { cls:=.type "dict_values",data:=.fields #[.ref a] }) s1.heap.objs.size a:=⟨_,cI _ rfl,rfl,rfl⟩;refine wpAny_pyIter_values (knd:=ck X.prog X.w) (kvs:=vs) (ep:=ep) iv ⟨od,es,aX _ e,c,d,q1,q2,q3⟩ ?_;have I2:Inv X pins σ H1 { s1 with heap:=s1.heap.push { cls:=.type "dict_values",data:=.fields #[.ref a] } }:=I1.kept (t':=s1.toks) λb o e=>aX _ e;refine⟨_,[_],_,_,H1,rfl,I2.kept (t':=s1.toks) λb o e=>aX _ e,UR a _ od es ep d,⟨_,cI _ rfl,rfl,by rw[hsz];rfl⟩,λb hb=>?_,q⟩;rw[mem_singleton] at hb;subst hb;exact I2.il (aG _) (I2.aw.fresh (aG _))
theorem UZ {eP:List Expr}{k:Nat}{tp:Pos}(ho:PE X o to)(dQ:attributeBase o "items" X.env (eval o X.env)=eval o X.env:=by rfl)(dR:(apos.endLine==bK.line)=true:=by rfl):PI X (.Tuple eP k tp) (.Call (.Attribute o "items" apos) [] [] bK) (UX to):=by
 intro pins s σ H R I h;refine wpAny_Call_method0_late dQ dR (aH (ho pins s σ H _ I h) λv s1 ⟨x,H1,I1,r1,q1⟩=>?_);obtain⟨a,od,kvs,e,hq,q⟩:=q1;subst e;cases r1;obtain⟨⟨e,_⟩,z,n,vs,r,ob,es,ep,e',c,d,q1,q2,q3⟩:=id (I1.aw a _ hq);rw[e] at e';cases e';have ty:s1.TypeIs (.ref a) "dict":=⟨od,e,c.1⟩;have hsz:es.size=vs.length:=by rw[<- q2.length];simp
 refine⟨"dict","dict.items",PySem.F.plainAttrs_dict,PySem.F.slot_dict_items,PySem.F.type_dict_items,ty,λb eb=>by cases eb;exact⟨od,e,c.2.1⟩,Calls.callWith_builtin rfl (PySem.evalArgs_none ?_)⟩;refine call_meetsIn PySem.F.slot_dict_items ty PySem.F.entry_dict_items (PySem.F.args_dict_items_1 _) (meets_dict_items (ck X.prog X.w) a n) ⟨⟨vs,od,es,ep,e,c,d,q1,q2,q3⟩,?_⟩;have iv:Heap.IsItemsView (s1.heap.push { cls:=.type "dict_items",data:=.fields #[.ref a] }) s1.heap.objs.size a:=⟨_,cI _ rfl,rfl,rfl⟩;refine wpAny_pyIter_items (knd:=ck X.prog X.w) (kvs:=vs) (ep:=ep) iv ⟨od,es,aX _ e,c,d,q1,q2,q3⟩ ?_;have I2:Inv X pins σ H1 { s1 with heap:=s1.heap.push { cls:=.type "dict_items",data:=.fields #[.ref a] } }:=I1.kept (t':=s1.toks) λb o e=>aX _ e;refine⟨_,[_],_,_,H1,rfl,I2.kept (t':=s1.toks) λb o e=>aX _ e,UU a _ od es ep d,⟨_,_,by rw[hsz];exact cI _ rfl⟩,λb hb=>?_,q⟩;rw[mem_singleton] at hb;subst hb;exact I2.il (aG _) (I2.aw.fresh (aG _))
end
noncomputable abbrev fu (prog:Program)(w:World):=tupleKind (ck prog w)
noncomputable def jw (kvs:List (List Key×Addr×Value)):List (List Key×Addr×Value):=kvs.foldl (λacc kv=>storedH acc kv.1 kv.2.1 kv.2.2) []
theorem U0 (kvs:List (List Key×Addr×Value))(k:List Key)(a:Addr)(v:Value):(storedH kvs k a v).length<=kvs.length+1:=by
 unfold storedH
 split<;>simp
section
variable {prog:Program}{w:World}{A:Around}{R:Result->Shared->Prop}{I:Addr}{fp wr:List Addr}{G:Array GenState->Array GenState->Prop}{n:Nat}{P:Nat->Value->Prop}{St:Nat->Shared->Prop}
theorem t_ {h h':Heap}{k:List Key}{b:Addr}(e:∀ o,h.get? b=some o->h'.get? b=some o)(q:(fu prog w).is h k b):(fu prog w).is h' k b:=by
 obtain⟨o,its,n,h1,r⟩:=q;exact⟨o,its,n,e _ h1,r⟩
theorem F' {h:Heap}{k:List Key}{b:Addr}(q:(fu prog w).is h k b):∃ o,h.get? b=some o:=by
 obtain⟨o,its,n,h1,r⟩:=q;exact⟨o,h1⟩
theorem U1 (hu:A.units+5<cLine)(W:WalksS prog w A.in1 I fp wr G n P St)(D:Addr)(qc:D∉fp)(h0:Heap)(kvs:List (List Key×Addr×Value))(res:Value)(aK:n<=1000)
  (hv:∀ i v,P i v->∃ p o m b x k,v=.ref p/\p∉D::wr/\h0.get? p=some o/\o.cls=.type "tuple"/\o.data=.seq #[.ref b,x] m/\kvs[i]?=some (k,b,x)/\b∉D::wr/\(fu prog w).is h0 k b)(hn:kvs.length=n)
  (hb:∀ x∈kvs,x.2.1∉D::wr) :
  ∀(c i:Nat)(s:Shared),n-i=c->i<=n->St i s->s.heap.DictOfH (fu prog w) D (jw (kvs.take i))->(∀ b o,b∉D::wr->h0.get? b=some o->s.heap.get? b=some o) ->
   (∀ s',Moved (D::wr) G s s'->s'.heap.DictOfH (fu prog w) D (jw kvs)->R (.ok (.ret res)) s')->codeAny (model prog w) A (.builtin "dict.update.loop" ⟨[.ref D,.ref I,rawInt i,res],[]⟩) R s:=by
 have nw:D∉wr:=λm=>qc (W.sub _ m);have sub:∀ b∈wr,b∈D::wr:=λb m=>mem_cons_of_mem _ m
 have Ga:∀(l:List (List Key×Addr×Value)),(∀ x∈l,x.2.1∉D::wr)->∀ x∈jw l,x.2.1∉D::wr:=by
  have z:∀(l acc:List (List Key×Addr×Value)),(∀ x∈l,x.2.1∉D::wr)->(∀ x∈acc,x.2.1∉D::wr)->∀ x∈l.foldl (λacc kv=>storedH acc kv.1 kv.2.1 kv.2.2) acc,x.2.1∉D::wr:=by
   intro l
   induction l with
   |nil=>intro acc _ h x hx;exact h x hx
   |cons kv r ih=>
    intro acc h1 h2 x hx;refine ih _ (λy hy=>h1 y (by simp [hy])) (λy hy=>?_) x hx;have hy:y∈storedH acc kv.1 kv.2.1 kv.2.2:=hy;unfold storedH at hy
    split at hy
    ·obtain⟨y',uj,rfl⟩:=mem_map.mp hy;unfold putAt
     split
     ·exact h2 y' uj
     ·exact h2 y' uj
    ·rcases mem_append.mp hy with hy|hy
     ·exact h2 y hy
     ·rw[mem_singleton.mp hy];exact h1 kv (by simp)
  exact λl h=>z l [] h λx hx=>nomatch hx
 intro c
 induction c with
 |zero=>
  intro i s hk hi st T kp fin;have e:i=n:=by omega
  subst e;refine codeAny_builtin sJ ?_;rw[Around.under_plainId k_ _];show wpAny _ A.in1 (pyNext (.ref I) >>= _) _ _ s;refine aj (W.done s _ _ st λs' mv=>?_);show wpAny _ A.in1 (Builtin.Dict.addKeywords D [] >>= _) _ _ s';refine aj (aP ?_);rw[<- hn,take_length] at T;refine aP (fin s' (mv.mono sub) ?_);obtain⟨o,es,ep,ho,r1,r2,r3,r4,r5⟩:=T;exact⟨o,es,ep,mv.heap D _ nw ho,r1,r2,r3,λx hx=>t_ (λo e=>mv.heap _ _ (λq=>Ga kvs hb x hx (sub _ q)) e) (r4 x hx),r5⟩
 |succ c ih=>
  intro i s hk hi st T kp fin;have lt:i<n:=by omega
  refine codeAny_builtin sJ ?_;rw[Around.under_plainId k_ _];show wpAny _ A.in1 (pyNext (.ref I) >>= _) _ _ s;refine aj (W.item i s _ _ lt st λv s' hP au mv=>?_);obtain⟨p,o,m,b,x,k,rfl,np,ho,hc,hd,dW,nb,xF⟩:=hv i v hP;have xG:p∉wr:=λq=>np (sub _ q);have U2:b∉wr:=λq=>nb (sub _ q);have fc:=mv.heap p _ xG (kp p o np ho);have U3:(fu prog w).is s'.heap k b:=t_ (λo e=>mv.heap b _ U2 (kp b o nb e)) xF
  have T':s'.heap.DictOfH (fu prog w) D (jw (kvs.take i)):=by
   obtain⟨od,es,ep,xH,r1,r2,r3,r4,r5⟩:=T;exact⟨od,es,ep,mv.heap D _ nw xH,r1,r2,r3,λx hx=>t_ (λo e=>mv.heap _ _ (λq=>Ga _ (λy hy=>hb y (mem_of_mem_take hy)) x hx (sub _ q)) e) (r4 x hx),r5⟩
  have len:(jw (kvs.take i)).length<=1000:=by
   have z:∀(l acc:List (List Key×Addr×Value)),(l.foldl (λacc kv=>storedH acc kv.1 kv.2.1 kv.2.2) acc).length<=acc.length+l.length:=by
    intro l
    induction l with
    |nil=>intro acc;simp
    |cons kv r qd=>
     intro acc;refine cC (qd _) ?_;have:=U0 acc kv.1 kv.2.1 kv.2.2;simp only[length_cons];omega
   have z2:=z (kvs.take i) [];rw[length_take,length_nil] at z2;show(foldl (fun(acc:List (List Key×Addr×Value))(kv:List Key×Addr×Value)=>storedH acc kv.1 kv.2.1 kv.2.2) [] (kvs.take i)).length<=1000;omega
  have et:jw (kvs.take (i+1))=storedH (jw (kvs.take i)) k b x:=by
   unfold jw;rw[take_add_one,dW,foldl_append];rfl
  dsimp only;refine aj (wpAny_holding ?_);refine aj (wpAny_tryCatch ?_);unfold Builtin.Dict.pairItems;refine aj (wpAny_typeOf (T:="tuple") ⟨o,fc,hc⟩ ?_);rw[if_pos (by decide)];refine aj (wpAny_seqItems fc hd (aP ?_));dsimp only[Option.getD_some];refine wpAny_holding (wpAny_dictSet_heap (knd:=fu prog w) (tupleKind_room_in1 (by omega)) U3 T' (λh' dd sb=>?_) (Nat.le_of_lt (kY len)));rw[<- et] at dd;refine aP ⟨plainId_quiet k_ _,ih (i+1) _ (by omega) lt (W.frame _ s' _ _ au (by first|exact Nat.le_add_right _ _|exact Nat.le_succ _) λb hb ob e=>?_) dd (λb ob hb e=>?_) λs2 xI T3=>?_⟩
  ·rw[sb.2 b (λq:b=D=>qc (q▸hb))];exact e
  ·rw[sb.2 b (λq:b=D=>hb (q▸mem_cons_self))];exact mv.heap b ob (λq=>hb (sub _ q)) (kp b ob hb e)
  ·refine fin s2 (Moved.trans W.gtrans ((mv.mono sub).then_heap (by first|exact Nat.le_add_right _ _|exact Nat.le_succ _) λb ob hb e=>?_) xI) T3;rw[sb.2 b (λq:b=D=>hb (q▸mem_cons_self))];exact e
end
section
variable {prog:Program}{w:World}{A:Around}{E:aU}{s:Shared}
theorem U4 (hu:A.units+9<cLine){l:Addr}{its:aR}{m:Nat}{kvs:List (List Key×Addr×Value)}{Q:aU}(hh:A.handled=none)(hl:s.heap.get? l=some { cls:=.type "list",data:=.seq its.toArray m })(aK:its.length<=1000)(hn:kvs.length=its.length)
  (hv:∀(i:Nat)(v:Value),its[i]?=some v->∃ p o m b x k,v=.ref p/\s.heap.get? p=some o/\o.cls=.type "tuple"/\o.data=.seq #[.ref b,x] m/\kvs[i]?=some (k,b,x)/\(fu prog w).is s.heap k b)
  (hk:∀ x∈kvs,∃ k,(fu prog w).is s.heap k x.2.1)
  (h:∀ h' tk,h'.DictOfH (fu prog w) s.heap.objs.size (jw kvs)->(∀ b o,s.heap.get? b=some o->h'.get? b=some o)->Q (.ref s.heap.objs.size) { s with heap:=h',toks:=tk }) :
  wpAny (model prog w) A (call (.type "dict") [.ref l]) Q E s:=by
 refine callType_codes (Q₁:=λobj bq=>obj=.ref s.heap.objs.size/\bq={ s with heap:=s.heap.push { cls:=.type "dict",data:=.dict #[] } }) PySem.F.kt_called_dict (PySem.F.kt_typeCall_dict_1 _) PySem.F.entry_dict_init (kt_code_dict_new _ ⟨rfl,rfl⟩) ?_;rintro obj bq ⟨rfl,rfl⟩;have new:(s.heap.push { cls:=.type "dict",data:=.dict #[] }).DictOfH (fu prog w) s.heap.objs.size []:=Heap.DictOfH.new s.heap;have Gd:({ s with heap:=s.heap.push { cls:=.type "dict",data:=.dict #[] } }:Shared).TypeIs (.ref s.heap.objs.size) "dict":=Heap.DictOfH.typeIs (knd:=fu prog w) new;refine⟨Gd,PySem.F.args_dict_init_2 _ _,?_⟩;unfold Builtin.«dict.__init__»;refine aj ?_;unfold Builtin.Dict.selfAndRest;refine aj (wpAny_notOrdered_dict Gd ?_);show wpAny _ _ (pure (s.heap.objs.size,[Value.ref l])) _ _ _;refine aP ?_;show wpAny _ _ (Builtin.Dict.updateFrom "dict.__init__" s.heap.objs.size (.ref l) [] .none) _ _ _;unfold Builtin.Dict.updateFrom;have l1:(s.heap.push { cls:=.type "dict",data:=.dict #[] }).get? l=some { cls:=.type "list",data:=.seq its.toArray m }:=aX _ hl;refine aj (wpAny_typeOf (T:="list") ⟨_,l1,rfl⟩ ?_);rw[if_pos (by decide)];refine aj (Ek l1 (by simp [hh]) λh1 O4 k1=>?_);rw[if_pos (show(none:Option Value).isNone=true from rfl)];refine aj (wpAny_rule ?_);have l2:=k1 _ _ l1;have qe:h1.IsList l its.toArray:=⟨_,l2,rfl,m,rfl⟩
 have d1:h1.DictOfH (fu prog w) s.heap.objs.size []:=by
  obtain⟨o,es,ep,ho,r1,r2,r3,r4,r5⟩:=new;exact⟨o,es,ep,k1 _ _ ho,r1,r2,r3,(λx hx=>nomatch hx),r5⟩
 refine aj (wpAny_pyIter_list qe ?_)
 have sz:s.heap.objs.size<h1.objs.size:=by
  obtain⟨o,es,ep,ho,r⟩:=d1;exact aV ho
 have lt:l<s.heap.objs.size:=aV hl;have ne:l≠h1.objs.size:=bN (Nat.lt_trans lt sz)
 have nf:s.heap.objs.size∉[h1.objs.size,l]:=by
  simp only[mem_cons,mem_singleton,not_mem_nil,or_false,not_or];exact⟨bN sz,Nat.ne_of_gt lt⟩
 have old:∀{b:Addr}{o:Obj},s.heap.get? b=some o->b∉[s.heap.objs.size,h1.objs.size]:=λ{b o} e=>by
  have lp:b<s.heap.objs.size:=aV e;simp only[mem_cons,mem_singleton,not_mem_nil,or_false,not_or];exact⟨bN lp,bN (Nat.lt_trans lp sz)⟩
 refine aP ⟨plainId_quiet k_ _,?_⟩
 refine U1 (by first|omega|(simp only[Around.in1];omega)|skip) ((Walks.list (by simp [hh]) _ l ne its.toArray).toS) s.heap.objs.size nf h1 kvs .none (by rw[size_toArray];exact aK) (λi v e=>?_) (by rw[size_toArray];exact hn) (λx hx=>?_) (its.toArray.size-0) 0 _ (by omega) (Nat.zero_le _)
  ⟨⟨_,cI _ rfl,rfl,rfl⟩,qe.push _⟩ ?_ (λb o _ e=>aX _ e) (λs' mv T=>?_)
 ·obtain⟨p,o,m',b,x,k,rfl,ho,c1,c2,c3,c4⟩:=hv i v (by simpa using e);obtain⟨ob,y8⟩:=F' c4;exact⟨p,o,m',b,x,k,rfl,old ho,k1 _ _ (aX _ ho),c1,c2,c3,old y8,t_ (λo e=>k1 _ _ (aX _ e)) c4⟩
 ·obtain⟨k,q⟩:=hk x hx;obtain⟨ob,y8⟩:=F' q;exact old y8
 ·obtain⟨o,es,ep,ho,r1,r2,r3,r4,r5⟩:=d1;exact⟨o,es,ep,aX _ ho,r1,r2,r3,(λx hx=>nomatch hx),r5⟩
 ·rw[Moved.eq_with mv];refine⟨rfl,h s'.heap s'.toks T λb o e=>?_⟩;exact mv.heap b o (old e) (aX _ (k1 _ _ (aX _ e)))
end
def oI (K:Frag)(vs:Zv):Prop:=∀ a o its n,K.lookup a=some o->o.cls=.type "tuple"->o.data=.seq its n->¬ Vals vs its.toList
noncomputable def um (kvs:List (List Key×V)):List (List Key×V):=kvs.foldl (λacc kv=>putK acc kv.1 kv.2) []
theorem U5 (kvs:List (List Key×V)):(um kvs).length<=kvs.length:=by
 have z:∀(l acc:List (List Key×V)),(l.foldl (λacc kv=>putK acc kv.1 kv.2) acc).length<=acc.length+l.length:=by
  intro l
  induction l with
  |nil=>intro acc;simp
  |cons kv r ih=>
   intro acc;refine cC (ih _) ?_;have:=pL acc kv.1 kv.2;simp only[length_cons];omega
 have q:=z kvs [];rw[length_nil,Nat.zero_add] at q;exact q
theorem U6 {H:Hp}{kvs:List (List Key×V)}{ws:List (List Key×Addr×Value)}(r:KT H kvs ws):KT H (um kvs) (jw ws):=by
 have z:∀{l:List (List Key×V)}{m:List (List Key×Addr×Value)}{acc:List (List Key×V)}{acc':List (List Key×Addr×Value)},KT H l m->KT H acc acc'->KT H (l.foldl (λacc kv=>putK acc kv.1 kv.2) acc) (m.foldl (λacc kv=>storedH acc kv.1 kv.2.1 kv.2.2) acc'):=by
  intro l
  induction l with
  |nil=>intro m acc acc' h g;cases h;exact g
  |cons kv r ih=>
   intro m acc acc' h g
   match m,h with
   |b::m',.cons h t=>
    obtain⟨e,hb,rv⟩:=h;refine ih (m:=m') (acc:=putK acc kv.1 kv.2) (acc':=storedH acc' b.1 b.2.1 b.2.2) t ?_;rw[<- e];exact g.put _ hb rv
 exact z r .nil
def y9 (K:Frag)(H:Hp)(kv:List Key×V)(v:V):Prop:=∃ a b,v=.ref a/\aS K H a [.ref b,kv.2]/\aS K H b (kv.1.map kV)/\oI K (kv.1.map kV)
section
variable {X:Cx}{pins:aL}{σ:St}{H:Hp}{s:Shared}
theorem qO (I:Inv X pins σ H s){b:Addr}{vs:Zv}(h:aS X.K H b vs)(nk:oI X.K vs):H b=some (.tup vs):=by
 rcases h with (h|⟨o,h⟩)|⟨o,its,n,h1,h2,h3,_,h5⟩
 ·exact h
 ·exact absurd rfl ((I.aw b _ h).1.2 vs)
 ·exact absurd h5 (nk b o its n h1 h2 h3)
theorem U7 (hc:X.calm=true)(hu:X.A.units+9<cLine):eA X (.type "dict") (λxs H Q=>∃(l:Addr)(vs:Zv)(kvs:List (List Key×V)),xs=[.ref l]/\H l=some (.lst vs)/\Rl (y9 X.K H) kvs vs/\kvs.length<=1000/\∀ p,H p=none->Q (.ref p) (upd H p (.dT (um kvs)))):=by
 intro pins s σ H xs us Q I r h;obtain⟨l,vs,kvs,rfl,hl,rl,aK,q⟩:=h;obtain⟨u,rfl,ru⟩:=vals1 r;cases ru;obtain⟨z,its,n,rv,hlen,e⟩:=I.ir hl;have len:=rl.len
 have all:∀{kvs:List (List Key×V)}{vs:Zv}{its:aR},Rl (y9 X.K H) kvs vs->Vals vs its->∃ ws:List (List Key×Addr×Value),KT H kvs ws/\(∀(i:Nat)(v:Value),its[i]?=some v->∃ p o m b x k,v=.ref p/\s.heap.get? p=some o/\o.cls=.type "tuple"/\o.data=.seq #[.ref b,x] m/\ws[i]?=some (k,b,x)/\(fu X.prog X.w).is s.heap k b)/\∀ x∈ws,∃ k,(fu X.prog X.w).is s.heap k x.2.1:=by
  intro kvs vs its h
  induction h generalizing its with
  |nil=>
   intro g;cases g;exact⟨[],.nil,λi v e=>by simp at e,λx hx=>nomatch hx⟩
  |@cons kv v kvs vs hp _ ih=>
   intro g
   cases g with
   |cons g1 g2=>
    obtain⟨ws,kw,hw,hk⟩:=ih g2;obtain⟨a,b,rfl,ha,hb,nk⟩:=hp;cases g1;obtain⟨QS,rj,⟨o,ho,gJ,m,hd⟩,_⟩:=I.tuple ha;obtain⟨key,x,rfl,rk,rx⟩:=vals2 rj;cases (show key=Value.ref b from rk);have tb:=qO I hb nk;have is:=nM I.aw tb;refine⟨(kv.1,b,x)::ws,.cons ⟨rfl,tb,rx⟩ kw,λi v e=>?_,λx hx=>?_⟩
    ·cases i with
     |zero=>
      cases e;exact⟨a,o,m,b,x,kv.1,rfl,ho,gJ,hd,rfl,is⟩
     |succ i=>exact hw i v (by simpa using e)
    ·rcases mem_cons.mp hx with rfl|hx
     ·exact⟨_,is⟩
     ·exact hk x hx
 obtain⟨ws,kw,hw,hk⟩:=all rl rv;refine U4 hu (kvs:=ws) (I.ok.hd hc) e (by omega) (by rw[<- Paired.length kw];omega) hw hk λh' tk dd kp=>?_;have big:=I.big;have fr:=I.fresh;obtain⟨o,es,ep,h1,h2,h3,h4,_,h5⟩:=dd;refine⟨.ref _,_,I.laid (o:=.dT (um kvs)) (t':=tk) kp (aG _) ⟨cC (U5 kvs) (Nat.le_of_lt (kY aK)),beq_eq_false_iff_ne.mpr (Ne.symm (bN big)),_,(U6 kw).keeps λc ys ec=>?_,o,es,ep,h1,h2,h3,h4,h5⟩,rfl,q _ I.fresh⟩;rw[aB (bV ec fr)];exact ec
end
noncomputable def eZ (xs ys:af):af:=(xs.zip ys).map λp=>.tup [p.1,p.2]
theorem Ge {xs ys:af}{i:Nat}{x:PV}(h:(eZ xs ys)[i]?=some x):∃ y z,xs[i]?=some y/\ys[i]?=some z/\x=.tup [y,z]:=by
 unfold eZ at h;rw[getElem?_map] at h;obtain⟨⟨y,z⟩,h1,rfl⟩:=Option.map_eq_some_iff.mp h;obtain⟨h2,h3⟩:=getElem?_zip_eq_some.mp h1;exact⟨y,z,h2,h3,rfl⟩
theorem Gf {xs ys:af}:(eZ xs ys).length=min xs.length ys.length:=by unfold eZ;simp
def y_ (P:af->(bX)->AS->Prop)(x y:PV)(A:AS):Prop:=∃ xs ys,x=.tup xs/\y=.tup ys/\P (eZ xs ys) (λ_=>True) A
def za (P:af->(bX)->AS->Prop)(x y:PV)(A:AS):Prop:=∃ xs ys,x=.lst xs/\y=.lst ys/\P (eZ xs ys) (λ_=>True) A
def Gg (ue uf:UE):UI:=λA P=>ue A λx A1=>uf A1 λy A2=>y_ P x y A2
def Gi (ue uf:UE):UI:=λA P=>ue A λx A1=>uf A1 λy A2=>za P x y A2
section
variable {ue uf:UE}{B:Addr->Prop}{ae:bp}{S:Option az}{P:af->(bX)->AS->Prop}{A:AS}{xs ys:af}
theorem U8:Gg ue uf ⟨B,ae,S⟩ P=ue ⟨B,ae,S⟩ λx A1=>uf A1 λy A2=>y_ P x y A2:=rfl
theorem U9:Gi ue uf ⟨B,ae,S⟩ P=ue ⟨B,ae,S⟩ λx A1=>uf A1 λy A2=>za P x y A2:=rfl
theorem U_:y_ P (.tup xs) (.tup ys) A=P (eZ xs ys) (λ_=>True) A:=propext ⟨fun⟨_,_,e1,e2,h⟩=>by cases e1;cases e2;exact h,λh=>⟨_,_,rfl,rfl,h⟩⟩
theorem U':za P (.lst xs) (.lst ys) A=P (eZ xs ys) (λ_=>True) A:=propext ⟨fun⟨_,_,e1,e2,h⟩=>by cases e1;cases e2;exact h,λh=>⟨_,_,rfl,rfl,h⟩⟩
end
section
variable {X:Cx}{K:Frag}{e f:Expr}{pos p:Pos}{ue uf:UE}
theorem Va {A:AS}{H:Hp}{σ:St}{a b:Addr}{xs ys:af}(R:Rep K H σ A)(h:RV K (AN A) H (.tup xs) (.ref a))(g:RV K (AN A) H (.tup ys) (.ref b)):gn K A H (nU K a b) (eZ xs ys) λ_=>True:=by
 have go:∀{N:Addr->Prop}{H2:Hp}{vs us:Zv},aS K H2 a vs->aI K N H2 xs vs->aS K H2 b us->aI K N H2 ys us->(∀ i x,(eZ xs ys)[i]?=some x->(nU K a b).go i H2/\∀ v H',(nU K a b).eo i H2 v H'->aQ H2 H'/\RV K N H' x v)/\(nU K a b).stop (eZ xs ys).length H2:=λ{N H2 vs us} h1 h2 g1 g2=>by
  refine⟨λi x hx=>?_,⟨_,_,h1,g1,by rw[Gf,<- h2.len,<- g2.len];omega⟩⟩;obtain⟨y,z,hy,hz,rfl⟩:=Ge hx;obtain⟨v,hv,rv⟩:=h2.at hy;obtain⟨u,hu,ru⟩:=g2.at hz;refine⟨⟨_,_,v,u,h1,g1,hv,hu⟩,λv' H' ⟨p,a1,a2,hp,e1,e2,e3,e4⟩=>?_⟩;have q1:=e3 _ h1;have q2:=e4 _ g1;rw[hv] at q1;rw[hu] at q2;cases q1;cases q2;subst e1 e2;have s2:=d0 hp (.tup [v,u]);exact⟨s2,.tup (.inl (.inl aZ)) (.cons (rv.imp (fG s2)) (.cons (ru.imp (fG s2)) .nil))⟩
 exact {
  go:=λbu A2 H2 R2 S2 _=>by cases h.imp (R.keep S2) with|tup h1 h2=>cases g.imp (R.keep S2) with|tup g1 g2=>exact(go h1 h2 g1 g2).1
  stop:=λbu A2 H2 R2 S2 _=>by cases h.imp (R.keep S2) with|tup h1 h2=>cases g.imp (R.keep S2) with|tup g1 g2=>exact(go h1 h2 g1 g2).2
  cm:=λH2 b=>by cases h.imp (R.fV b) with|tup h1 h2=>cases g.imp (R.fV b) with|tup g1 g2=>exact go h1 h2 g1 g2 }
theorem Vb {A:AS}{H:Hp}{σ:St}{a b:Addr}{xs ys:af}(R:Rep K H σ A)(h:RV K (AN A) H (.lst xs) (.ref a))(g:RV K (AN A) H (.lst ys) (.ref b)):gn K A H (oF K a b) (eZ xs ys) λ_=>True:=by
 have go:∀{N:Addr->Prop}{H2:Hp}{vs us:Zv},H2 a=some (.lst vs)->aI K N H2 xs vs->H2 b=some (.lst us)->aI K N H2 ys us->(∀ i x,(eZ xs ys)[i]?=some x->(oF K a b).go i H2/\∀ v H',(oF K a b).eo i H2 v H'->aQ H2 H'/\RV K N H' x v)/\(oF K a b).stop (eZ xs ys).length H2:=λ{N H2 vs us} h1 h2 g1 g2=>by
  refine⟨λi x hx=>?_,⟨_,_,aC.of h1,aC.of g1,by rw[Gf,<- h2.len,<- g2.len];omega⟩⟩;obtain⟨y,z,hy,hz,rfl⟩:=Ge hx;obtain⟨v,hv,rv⟩:=h2.at hy;obtain⟨u,hu,ru⟩:=g2.at hz;refine⟨⟨_,_,v,u,aC.of h1,aC.of g1,hv,hu⟩,λv' H' ⟨p,a1,a2,hp,e1,e2,e3,e4⟩=>?_⟩;have q1:=e3 _ (aC.of h1);have q2:=e4 _ (aC.of g1);rw[hv] at q1;rw[hu] at q2;cases q1;cases q2;subst e1 e2;have s2:=d0 hp (.tup [v,u]);exact⟨s2,.tup (.inl (.inl aZ)) (.cons (rv.imp (fG s2)) (.cons (ru.imp (fG s2)) .nil))⟩
 exact {
  go:=λbu A2 H2 R2 S2 _=>by cases h.imp (R.keep S2) with|lst n h1 h2=>cases g.imp (R.keep S2) with|lst m g1 g2=>exact(go h1 h2 g1 g2).1
  stop:=λbu A2 H2 R2 S2 _=>by cases h.imp (R.keep S2) with|lst n h1 h2=>cases g.imp (R.keep S2) with|lst m g1 g2=>exact(go h1 h2 g1 g2).2
  cm:=λH2 b=>by cases h.imp (R.fV b) with|lst n h1 h2=>cases g.imp (R.fV b) with|lst m g1 g2=>exact go h1 h2 g1 g2 }
theorem Gj {es:List Expr}{k:Nat}{tp:Pos}(hK:X.K=K)(hm:X.mg "zip"=none)(h:PE X e (aD K ue))(h':PE X f (aD K uf))(hg:Gl X "zip":=by rfl)(hs:starEach [e,f] X.env=[(false,eval e X.env),(false,eval f X.env)]:=by rfl)(fi:starEach [f] X.env=[(false,eval f X.env)]:=by rfl):PI X (.Tuple es k tp) (.Call (.Name "zip" p) [e,f] [] pos) (gQ K (Gg ue uf)):=by
 subst hK;refine(NY hg hm PyProof.Rows.boot_zip (bO h (bO h' cq fi) (by rw[hs,fi])) hs fi).mono λσ H Q ⟨A,P,R,h,c⟩=>⟨A,_,R,h,λx A1 v H1 q R1 S1 rv=>⟨A1,_,R1,q,λy A2 u H2 q2 R2 S2 ru=>?_⟩⟩;obtain⟨xs,ys,rfl,rfl,q⟩:=q2
 cases rv.imp (R1.keep S2) with
 |tup h1 h2=>cases ru with
  |tup g1 g2=>exact⟨_,_,_,_,rfl,h1,g1,c _ _ A2 _ H2 q R2 (S1.trans S2) (Va R2 (.tup h1 h2) (.tup g1 g2))⟩
theorem Vc {es:List Expr}{k:Nat}{tp:Pos}(hK:X.K=K)(hm:X.mg "zip"=none)(h:PE X e (aD K ue))(h':PE X f (aD K uf))(hg:Gl X "zip":=by rfl)(hs:starEach [e,f] X.env=[(false,eval e X.env),(false,eval f X.env)]:=by rfl)(fi:starEach [f] X.env=[(false,eval f X.env)]:=by rfl):PI X (.Tuple es k tp) (.Call (.Name "zip" p) [e,f] [] pos) (gQ K (Gi ue uf)):=by
 subst hK;refine(UK hg hm PyProof.Rows.boot_zip (bO h (bO h' cq fi) (by rw[hs,fi])) hs fi).mono λσ H Q ⟨A,P,R,h,c⟩=>⟨A,_,R,h,λx A1 v H1 q R1 S1 rv=>⟨A1,_,R1,q,λy A2 u H2 q2 R2 S2 ru=>?_⟩⟩;obtain⟨xs,ys,rfl,rfl,q⟩:=q2
 cases rv.imp (R1.keep S2) with
 |lst n h1 h2=>cases ru with
  |lst m g1 g2=>exact⟨_,_,_,_,rfl,aC.of h1,aC.of g1,c _ _ A2 _ H2 q R2 (S1.trans S2) (Vb R2 (.lst n h1 h2) (.lst m g1 g2))⟩
end
section
variable {X:Cx}
def Vd (K:Frag):V->Zv->Hp->VK->Prop:=λx vs H Q=>∃ l xs y N ps py n j,x=.ref l/\vs=[y]/\H l=some (.lst xs)/\n<=80/\Dp n py/\(∀ p∈ps,Dp n p)/\RV K N H py y/\aI K N H ps xs /\
 (∃ p,ps[j]?=some p/\a8 p py=true)/\(∀ m p,m<j->ps[m]?=some p->a8 p py=false)/\Q (.int (j:Nat)) H
theorem Ve (hu:X.A.units+100<cLine):iW X "list.index" (Vd X.K):=by
 intro pins s σ H x vs v us Q I rx rv h;obtain⟨l,xs,y,N,ps,py,n,j,rfl,rfl,hH,hn,dy,dp,ry,rs,⟨p,hp,hit⟩,fP,q⟩:=h;cases rx;obtain⟨u,rfl,ru⟩:=rv.one;obtain⟨z,its,k,r,hl,e⟩:=I.ir hH;have ll:=r.length;have lp:=rs.len;have QD:j<ps.length:=(b8 hp).1;have hj:j<its.toArray.size:=by rw[size_toArray];omega
 have each:∀ m (hm:m<its.toArray.size) p,ps[m]?=some p->d6 X.K N H n py its.toArray[m]=a8 p py:=by
  intro m hm p hp;obtain⟨w,hw,cO⟩:=rs.at hp;obtain⟨u',qz,yA⟩:=r.get hw
  have e1:its.toArray[m]=u':=by
   have eW:m<its.length:=by simpa using hm
   rw[bL eW] at qz;simpa using Option.some.inj qz
  rw[e1];exact tq I dy (dp p (mem_of_getElem? hp)) cO yA
 have hs:(j:Int)<2 ^ 63-1:=by
  have:xs.length<=sizeLine:=by omega
  rw[sizeLine_eq] at this;omega
 refine call_meets F.slot_list_index ⟨_,e,rfl⟩ F.entry_list_index (F.args_list_index_2 _ _) (SeqAt.list_indexAt l its.toArray k none #[] u (d6 X.K N H n py) j hj hs (by rw[each j hj p hp];exact hit) λm hm cz=>?_) ⟨e,λw hw=>?_,?_⟩
 ·have qA:m<ps.length:=by rw[size_toArray] at hm;omega
  rw[each m hm ps[m] (bL qA)];exact fP m _ cz (bL qA)
 ·exact mO I (by rw[in1_units];omega) dy ry ru rs r dp w (by simpa using hw)
 ·exact⟨.int (j:Nat),H,I.kept (t':=s.toks+1) λ_ _ e=>e,⟨s.toks,rfl⟩,q⟩
end
def Gk (i:Nat)(Q:PV->AS->Prop)(y:PV)(A:AS):Prop:=∃ xs j,A.ae[i]?=some (some (.val (.lst xs)))/\(∃ n,n<=80/\Dp n y/\∀ p∈xs,Dp n p)/\(∃ p,xs[j]?=some p/\a8 p y=true)/\(∀ m p,m<j->xs[m]?=some p->a8 p y=false)/\Q (.int (j:Nat)) A
def uq (i:Nat)(ue:UE)(Q:PV->AS->Prop)(o:Option (Option Sl))(A:AS):Prop:=match o with
 |some (some (.val (.lst _)))=>ue A λy A1=>Gk i Q y A1
 |_=>False
def zb (i:Nat)(ue:UE):UE:=λA Q=>uq i ue Q A.ae[i]? A
section
variable {i:Nat}{ue:UE}{B:Addr->Prop}{ae:bp}{S:Option az}{Q:PV->AS->Prop}{xs:af}{A:AS}
theorem Vf:zb i ue ⟨B,ae,S⟩ Q=uq i ue Q ae[i]? ⟨B,ae,S⟩:=rfl
theorem Vg:uq i ue Q (some (some (.val (.lst xs)))) A=ue A λy A1=>Gk i Q y A1:=rfl
end
section
variable {X:Cx}{K:Frag}{e:Expr}{bD apos bK:Pos}{ue:UE}{k:Nat}
theorem Gm (hK:X.K=K)(hr:bz k X.A)(i:Nat){x:Str}(he:PE X e (aD K ue))(hN:X.N[i]?=some x:=by rfl)(hv:di X.env.scope x:=by walk_at "v")(hd:(x==("__debug__":Str))=false:=by decide)(bA:(x==("__classdict__":Str))=false:=by decide)
  (dQ:attributeBase (.Name x bD) "index" X.env (eval (.Name x bD) X.env)=eval (.Name x bD) X.env:=by rfl)
  (gF:((backTo bK (starEach [e] X.env)).all (λx=>!x.1)&&(backToKw bK (keywordEach [] X.env)).all (λx=>x.1.isSome)&&decide ([e].length+([]:List Keyword).length+(if ([]:List Keyword).isEmpty then 0 else 1)<30))=true:=by rfl)
  (dR:(apos.endLine==bK.line)=true:=by rfl)(hs:starEach [e] X.env=[(false,eval e X.env)]:=by rfl):PE X (.Call (.Attribute (.Name x bD) "index" apos) [e] [] bK) (aD K (zb i ue)):=by
 subst hK;refine(mw PySem.F.plainAttrs_list PySem.F.slot_list_index PySem.F.type_list_index (Ve (by have:=hr.un;omega)) (dO hN hv hd bA) (bO he cq hs) dQ gF dR hs rfl).mono λσ H Q ⟨A,P,R,h,c⟩=>?_;unfold zb uq at h
 split at h
 ·rename_i ys hx;obtain⟨v,ev,rv⟩:=R.sl i _ hx
  cases rv with
  |@lst a _ vs n h1 h2=>
   refine⟨_,ev,.inl ⟨rfl,_,aC.of h1⟩,A,_,R,h,λr A1 w H1 p R1 S1 cO=>?_⟩;obtain⟨xs,j,hA,⟨n,hn,d1,d2⟩,hit,fP,p⟩:=p;obtain⟨v',qP,j5⟩:=R1.sl i _ hA;rw[ev] at qP;cases qP
   cases j5 with
   |lst m g1 g2=>exact⟨a,_,w,AN A1,xs,r,n,j,rfl,rfl,g1,hn,d1,d2,cO,g2,hit,fP,c _ _ _ _ p R1 S1 (.int _)⟩
 ·exact h.elim
end
section
variable {K:Frag}{H H1 H':Hp}{σ:St}{A:AS}{i:Nat}{N N':Addr->Prop}
theorem Rep.Vh (R:Rep K H σ A){a:Addr}{c c':OC}(hi:A.ae[i]?=some (some (.own a c)))(bt:cf a H H')(oc:fT K (AN A) H' a c'):Rep K H' σ (put A i (.own a c'))/\ax A H (put A i (.own a c')) H':=by
 obtain⟨v,ev,rfl,nb,ha⟩:=R.sl i _ hi;have oa:Own A.ae a:=⟨i,c,hi⟩
 have ow:∀ b,Own (put A i (.own a c')).ae b->Own A.ae b:=by
  rintro b ⟨j,c,h⟩;rcases cg h with ⟨_,z⟩|⟨_,z⟩
  ·cases z;exact⟨i,_,hi⟩
  ·exact⟨j,c,z⟩
 have cV:∀ b o,H b=some o->(∀ vs,o≠.lst vs)->(∀ vs,o≠.dK vs)->(∀ C dx vs,o≠.ins C dx vs)->(∀ vs,o≠.dT vs)->b≠a:=λb o h h1 h2 h3 h4 e=>by
  subst e;rcases R.iZ oa with ⟨z,q⟩|⟨z,q⟩|⟨_,_,z,q⟩|⟨z,q⟩<;>(rw[q] at h;cases h)
  ·exact h1 _ rfl
  ·exact h2 _ rfl
  ·exact h3 _ _ _ rfl
  ·exact h4 _ rfl
 have dm:∀ b,H b≠none->H' b≠none:=λb h=>by
  by_cases e:b=a
  ·subst e;exact oc.some
  ·cases e2:H b with
   |none=>exact absurd e2 h
   |some o=>exact fF (bt b o e2 e)
 have S:ax A H (put A i (.own a c')) H':=⟨λb o h m=>bt b o h λe=>m (.inl (by rw[e];exact oa)),λb z=>.inl (ow b z),rfl,dm,rfl⟩;have kp:=R.keep S;refine⟨⟨?_,?_,λb h=>dm b (R.cW b h),?_,?_,?_⟩,S⟩
 ·rw[R.len];exact(length_set ..).symm
 ·intro j t h;rcases cg h with ⟨rfl,z⟩|⟨n,z⟩
  ·cases z;exact⟨_,ev,rfl,nb,oc.imp ⟨λ_ _ h=>h,λb o n e=>⟨λz=>n (z.elim .inl λy=>.inr (ow b y)),e⟩⟩ λ_ h=>h⟩
  ·obtain⟨w,e1,q⟩:=R.sl j t z;refine⟨w,e1,?_⟩
   cases t with
   |val x=>exact q.imp kp
   |own b c=>
    have i3:b≠a:=λe=>n (by subst e;exact R.nd _ _ _ _ _ hi z);exact⟨q.1,q.2.1,q.2.2.imp kp λo h=>bt b o h i3⟩
   |peek b c=>
    have i3:b≠a:=λe=>nb (by subst e;exact q.2.1);exact⟨q.1,q.2.1,q.2.2.imp kp λo h=>bt b o h i3⟩
 ·intro i1 j1 b c1 c2 h1 h2;rcases cg h1 with ⟨e1,z1⟩|⟨_,z1⟩
  ·cases z1;rcases cg h2 with ⟨e2,z2⟩|⟨_,z2⟩
   ·exact e1.symm.trans e2
   ·exact e1.symm.trans (R.nd _ _ _ _ _ hi z2)
  ·rcases cg h2 with ⟨e2,z2⟩|⟨_,z2⟩
   ·cases z2;exact(R.nd _ _ _ _ _ z1 hi).trans e2
   ·exact R.nd _ _ _ _ _ z1 z2
 ·intro st h;obtain⟨h1,h2,h3⟩:=R.st st h;have nd:st.d≠a:=λe=>nb (by rw[<- e];exact h1);obtain⟨t,l,w,e,r⟩:=h2.ex;refine⟨h1,⟨⟨t,l,w,bt _ _ e nd,r⟩,λT o z=>⟨bt _ _ (h2.tb T o z).1 (cV _ _ (h2.tb T o z).1 (λ_ z=>nomatch z) (λ_ z=>nomatch z) (λ_ _ _ z=>nomatch z) (λ_ z=>nomatch z)),(h2.tb T o z).2⟩⟩,?_⟩;exact h3.jn λo u h3=>bt _ _ h3 (cV _ _ h3 (λ_ z=>nomatch z) (λ_ z=>nomatch z) (λ_ _ _ z=>nomatch z) (λ_ z=>nomatch z))
 ·intro i1 b c1 st h1 h2;rcases cg h1 with ⟨_,z⟩|⟨_,z1⟩
  ·cases z
  ·exact R.pk _ _ _ _ z1 h2
end
abbrev MT:=af->List (Str×PV)->(PV->List (Str×PV)->Prop)->Prop
section
variable {K:Frag}{H:Hp}{B:Addr->Prop}{p C dx:Addr}{fs:List (Str×PV)}{ws:List (Str×V)}{xs:af}{us:Zv}
end
noncomputable def d9 (xs:af):af:=xs.zipIdx.map λp=>.tup [.int p.2,p.1]
def Gn (ue:UE):UI:=λA P=>ue A λx A1=>∃ xs,x=.tup xs/\P (d9 xs) (λ_=>True) A1
theorem Vi {ue:UE}{B:Addr->Prop}{ae:bp}{S:Option az}{P:af->(bX)->AS->Prop}:Gn ue ⟨B,ae,S⟩ P=ue ⟨B,ae,S⟩ λx A1=>∃ xs,x=.tup xs/\P (d9 xs) (λ_=>True) A1:=rfl
theorem Gq {xs:af}{i:Nat}{x:PV}(h:(d9 xs)[i]?=some x):∃ y,xs[i]?=some y/\x=.tup [.int i,y]:=by
 unfold d9 at h;rw[getElem?_map,getElem?_zipIdx] at h
 cases e:xs[i]? with
 |none=>rw[e] at h;cases h
 |some y=>rw[e] at h;refine⟨y,rfl,?_⟩;simpa using h.symm
theorem zc {xs:af}:(d9 xs).length=xs.length:=by unfold d9;simp
section
variable {X:Cx}{K:Frag}{e ke:Expr}{pos p:Pos}{ue uk:UE}
theorem Vj {A:AS}{H:Hp}{σ:St}{a:Addr}{xs:af}(R:Rep K H σ A)(h:RV K (AN A) H (.tup xs) (.ref a)):gn K A H (qN K a) (d9 xs) λ_=>True:=by
 have go:∀{N:Addr->Prop}{H2:Hp}{vs:Zv},aS K H2 a vs->aI K N H2 xs vs->∀ i x,(d9 xs)[i]?=some x->(qN K a).go i H2/\∀ v H',(qN K a).eo i H2 v H'->aQ H2 H'/\RV K N H' x v:=λ{N H2 vs} h1 h2 i x hx=>by
  obtain⟨y,hy,rfl⟩:=Gq hx;obtain⟨v,hv,rv⟩:=h2.at hy;refine⟨⟨_,v,h1,hv⟩,λv' H' ⟨p,z,hp,e1,e2,e3⟩=>?_⟩;have:=e3 _ h1;rw[hv] at this;cases this;subst e1 e2;have s2:=d0 hp (.tup [.int i,v]);exact⟨s2,.tup (.inl (.inl aZ)) (.cons (.int _) (.cons (rv.imp (fG s2)) .nil))⟩
 exact {
  go:=λbu A2 H2 R2 S2 _ i x hx=>by cases h.imp (R.keep S2) with|tup h1 h2=>exact go h1 h2 i x hx
  stop:=λbu A2 H2 R2 S2 _=>by cases h.imp (R.keep S2) with|tup h1 h2=>exact⟨_,h1,by rw[zc,h2.len];exact aG _⟩
  cm:=λH2 b=>by
   cases h with
   |tup h1 h2=>
    have kZ:=(R.fV b).t _ _ h1
    exact⟨λi x hx=>go kZ (h2.imp (R.fV b)) i x hx,⟨_,kZ,by rw[zc,h2.len];exact aG _⟩⟩ }
theorem Gr {es:List Expr}{k:Nat}{tp:Pos}(hK:X.K=K)(hm:X.mg "enumerate"=none)(h:PE X e (aD K ue))(hg:Gl X "enumerate":=by rfl)(hs:starEach [e] X.env=[(false,eval e X.env)]:=by rfl):PI X (.Tuple es k tp) (.Call (.Name "enumerate" p) [e] [] pos) (gQ K (Gn ue)):=by
 subst hK;refine(UB hg hm PyProof.Rows.boot_enumerate (bO h cq hs) hs).mono λσ H Q ⟨A,P,R,h,c⟩=>⟨A,_,R,h,λx A1 v H1 q R1 S1 rv=>?_⟩;obtain⟨xs,rfl,q⟩:=q
 cases rv with
 |tup h1 h2=>exact⟨_,_,rfl,h1,c _ _ A1 _ H1 q R1 S1 (Vj R1 (.tup h1 h2))⟩
def Gs (i:Nat)(nx:bX)(a:Addr)(v k:PV)(A:AS):Prop:=∃ xs j,A.ae[i]?=some (some (.own a (.lst xs)))/\k=.int (j:Nat)/\j<xs.length/\nx (put A i (.own a (.lst (xs.set j v))))
def Gu (i:Nat)(ue uk:UE):US:=λE A=>ue A λv A1=>fJ A1.ae[i]? (λa _ A=>uk A λk A2=>Gs i E.nx a v k A2) A1
theorem Vk {i:Nat}{E:fo}{B:Addr->Prop}{ae:bp}{S:Option az}:Gu i ue uk E ⟨B,ae,S⟩=ue ⟨B,ae,S⟩ λv A1=>fJ A1.ae[i]? (λa _ A=>uk A λk A2=>Gs i E.nx a v k A2) A1:=rfl
theorem Gv (i:Nat){x:Str}{bD dB:Pos}(he:PE X e (aD K ue))(hk:PE X ke (aD K uk))(hN:X.N[i]?=some x:=by rfl)(hv:di X.env.scope x:=by walk_at "v")(hd:(x==("__debug__":Str))=false:=by decide)(bA:(x==("__classdict__":Str))=false:=by decide)
  (ha:∀ v,assign (.Subscript (.Name x bD) ke pos) X.env v=(do
   let ov <- holding [v] (eval (.Name x bD) X.env)
   let iv <- holding [v,ov] (eval ke X.env)
   standAt pos
   holding [v,ov,iv] (setItem ov iv v)
   release [v,ov,iv] []):=by intro _;rfl)
  (hs:swapsWithSole [.Subscript (.Name x bD) ke pos] e dB.line X.env=pure false:=by rfl)(hw:swappedStores [.Subscript (.Name x bD) ke pos] e X.env=pure none:=by rfl)
  (h1:(assignEach [.Subscript (.Name x bD) ke pos] X.env).map (·.2)=[assign (.Subscript (.Name x bD) ke pos) X.env]:=by rfl):PS X (.Assign [.Subscript (.Name x bD) ke pos] e dB) (bS K (Gu i ue uk)):=by
 refine(Lq he (Lp (dO (i:=i) hN hv hd bA) hk set_list ha) hs hw h1).mono λD σ H ⟨A,E,R,h,c⟩=>⟨A,_,R,h,λv A1 w H1 q R1 S1 rv=>?_⟩;unfold fJ at q
 split at q
 ·rename_i a ys hx;obtain⟨_,ev,rfl,nb,vs,g1,g2⟩:=R1.sl i _ hx;refine⟨_,ev,A1,_,R1,q,λk A2 kw H2 q2 R2 S2 rk=>?_⟩;obtain⟨xs,j,hA,rfl,hj,q2⟩:=q2;cases rk;obtain⟨_,_,_,_,us,k1,k2⟩:=R2.sl i _ hA;obtain⟨R3,S3⟩:=R2.turn hA (k2.set j (rv.imp (R1.keep S2)));have ll:=k2.len;refine⟨a,us,j,j,rfl,rfl,k1,?_,c.nx _ σ _ q2 R3 (S1.trans (S2.trans S3))⟩;unfold iU;rw[if_pos (by omega),if_pos (by omega)];simp
 ·exact q.elim
end
theorem Gw (is:List Int):∀ n,n<=is.length->preSum (λi=>is.getD i 0) n=(is.take n).sum
 |0,_=>by simp [preSum]
 |n+1,h=>by
  have ih:=Gw is n (by omega);have e:is.take (n+1)=is.take n++[is[n]]:=by rw[take_add_one,bL (by omega)];rfl
  rw[e,sum_append,<- ih];simp [preSum,bL (show n<is.length by omega)]
theorem Vl {X:Cx}(hc:X.calm=true):eA X (.builtin "sum") (λxs H Q=>∃(p:Addr)(is:List Int),xs=[.ref p]/\aC X.K H p (is.map V.int)/\Q (.int is.sum) H):=by
 intro pins s σ H xs us Q I r h;obtain⟨p,is,rfl,hl,q⟩:=h;obtain⟨u,rfl,ru⟩:=vals1 r;cases ru;obtain⟨its,rv,pl,hz⟩:=I.list hl
 have cV:p≠s.heap.objs.size:=by
  obtain⟨o,ho,_⟩:=pl.isList;exact bN (aV ho)
 have hlen:its.length=is.length:=by
  have:=rv.length;rw[length_map] at this;omega
 refine call_sum_walkG (wpAny_pyIter_list pl.isList ?_);refine⟨s.heap.objs.size,_,_,_,_,_,λi=>is.getD i 0,rfl,Walks.list (A:=X.A.in1) (I.ok.hd hc) s.heap.objs.size p cV its.toArray,⟨⟨_,cI _ rfl,rfl,rfl⟩,pl.isList.push _⟩,λb hb=>?_,λi v hv=>?_,λh' tk t' hk=>?_⟩
 ·simp only[mem_cons,not_mem_nil,or_false] at hb;obtain⟨o,ho,_⟩:=pl.isList;have:=aV ho;rw[Heap.size_push];rcases hb with rfl|rfl
  ·exact Nat.lt_succ_self _
  ·exact Nat.lt_succ_of_lt this
 ·have dS:its[i]?=some v:=by simpa using hv
  have hi:i<its.length:=(b8 dS).1;have p0:i<is.length:=by omega
  obtain⟨u,hu,t,ru⟩:=rv.get (i:=i) (x:=V.int is[i]) (by rw[getElem?_map,bL p0];rfl);rw[dS] at hu;cases hu;exact⟨t,by rw[ru];simp [bL p0]⟩
 ·refine⟨.int is.sum,H,I.kept λb o e=>hk b o ?_ (aX _ e),⟨t',?_⟩,q⟩
  ·intro hb;have:b=s.heap.objs.size:=by simpa using hb
   exact absurd (aV e) (by rw[this];exact Nat.lt_irrefl _)
  ·have z:its.toArray.size=is.length:=by simp [hlen]
   rw[z,Gw is is.length (aG _),take_length]
noncomputable def ins:af->Option (List Int)
 |[]=>some []
 |.int b::xs=>(ins xs).map (b::·)
 |_=>none
def ur:G1
 |.lst xs,z=>∃ is,ins xs=some is/\z=.int is.sum
 |_,_=>False
theorem Vm {xs:af}{z:PV}:ur (.lst xs) z=∃ is,ins xs=some is/\z=.int is.sum:=rfl
section
variable {X:Cx}{K:Frag}{e:Expr}{pos p:Pos}{ue:UE}
theorem Gx {N:Addr->Prop}{H:Hp}:∀{xs:af}{vs:Zv}{bs:List Int},aI K N H xs vs->ins xs=some bs->vs=bs.map V.int
 |_,_,_,.nil,h=>by cases h;rfl
 |x::xs,_,bs,.cons r rs,h=>by
  cases x<;>first|(cases h;done)|skip
  rename_i b;obtain⟨cs,hc,rfl⟩:=Option.map_eq_some_iff.mp (show(ins xs).map (b::·)=some bs from h);cases r;rw[Gx rs hc];rfl
theorem Vn:j8 K (λxs H Q=>∃(p:Addr)(bs:List Int),xs=[.ref p]/\aC K H p (bs.map V.int)/\Q (.int bs.sum) H) ur:=by
 intro H A σ x v z Q R q1 g c;cases x<;>first|exact g.elim|skip
 obtain⟨bs,hb,rfl⟩:=g;obtain⟨a,vs,rfl,h1,h2⟩:=q1.lst R;exact⟨a,bs,rfl,by rw[<- Gx h2 hb];exact aC.of h1,c _ H (aQ.refl H) (.int _)⟩
theorem Gy (hK:X.K=K)(hc:X.calm=true)(hm:X.mg "sum"=none)(he:PE X e (aO K ue))(hg:Gl X "sum":=by rfl)(hs:starEach [e] X.env=[(false,eval e X.env)]:=by rfl):PE X (.Call (.Name "sum" p) [e] [] pos) (aD K (u1 ur ue)):=by
 subst hK;exact qu (Vl hc) Vn PyProof.Rows.boot_sum hm he hg (hs:=hs)
def zf (P:af->(bX)->AS->Prop)(x:PV)(A:AS):Prop:=∃ xs,x=.lst xs/\P (d9 xs) (λ_=>True) A
def Gz (ue:UE):UI:=λA P=>ue A λx A1=>zf P x A1
theorem Vo {B:Addr->Prop}{ae:bp}{S:Option az}{P:af->(bX)->AS->Prop}:Gz ue ⟨B,ae,S⟩ P=ue ⟨B,ae,S⟩ λx A1=>zf P x A1:=rfl
theorem Vp {P:af->(bX)->AS->Prop}{xs:af}{A:AS}:zf P (.lst xs) A=P (d9 xs) (λ_=>True) A:=propext ⟨fun⟨_,e,h⟩=>by cases e;exact h,λh=>⟨_,rfl,h⟩⟩
theorem Vq {A:AS}{H:Hp}{σ:St}{a:Addr}{xs:af}(R:Rep K H σ A)(h:RV K (AN A) H (.lst xs) (.ref a)):gn K A H (oG K a) (d9 xs) λ_=>True:=by
 have go:∀{N:Addr->Prop}{H2:Hp}{vs:Zv},H2 a=some (.lst vs)->aI K N H2 xs vs->(∀ i x,(d9 xs)[i]?=some x->(oG K a).go i H2/\∀ v H',(oG K a).eo i H2 v H'->aQ H2 H'/\RV K N H' x v)/\(oG K a).stop (d9 xs).length H2:=λ{N H2 vs} h1 h2=>by
  refine⟨λi x hx=>?_,⟨_,aC.of h1,by rw[zc,h2.len];exact aG _⟩⟩;obtain⟨y,hy,rfl⟩:=Gq hx;obtain⟨v,hv,rv⟩:=h2.at hy;refine⟨⟨_,v,aC.of h1,hv⟩,λv' H' ⟨p,z,hp,e1,e2,e3⟩=>?_⟩;have:=e3 _ (aC.of h1);rw[hv] at this;cases this;subst e1 e2;have s2:=d0 hp (.tup [.int i,v]);exact⟨s2,.tup (.inl (.inl aZ)) (.cons (.int _) (.cons (rv.imp (fG s2)) .nil))⟩
 exact {
  go:=λbu A2 H2 R2 S2 _=>by cases h.imp (R.keep S2) with|lst n h1 h2=>exact(go h1 h2).1
  stop:=λbu A2 H2 R2 S2 _=>by cases h.imp (R.keep S2) with|lst n h1 h2=>exact(go h1 h2).2
  cm:=λH2 b=>by cases h.imp (R.fV b) with|lst n h1 h2=>exact go h1 h2 }
theorem qQ {es:List Expr}{k:Nat}{tp:Pos}(hK:X.K=K)(hm:X.mg "enumerate"=none)(h:PE X e (aD K ue))(hg:Gl X "enumerate":=by rfl)(hs:starEach [e] X.env=[(false,eval e X.env)]:=by rfl):PI X (.Tuple es k tp) (.Call (.Name "enumerate" p) [e] [] pos) (gQ K (Gz ue)):=by
 subst hK;refine(UP hg hm PyProof.Rows.boot_enumerate (bO h cq hs) hs).mono λσ H Q ⟨A,P,R,h,c⟩=>⟨A,_,R,h,λx A1 v H1 q R1 S1 rv=>?_⟩;obtain⟨xs,rfl,q⟩:=q
 cases rv with
 |lst n h1 h2=>exact⟨_,_,rfl,aC.of h1,c _ _ A1 _ H1 q R1 S1 (Vq R1 (.lst n h1 h2))⟩
end
theorem zg {K:Frag}{N:Addr->Prop}{H:Hp}:∀{xs:aN}{ws:List (V×V)},bB K N H xs ws->∀(i:Nat){kx:PV×PV},xs[i]?=some kx->∃ l v,ws[i]?=some (l,v)/\RV K N H kx.1 l/\RV K N H kx.2 v
 |_,_,.nil,i,kx,h=>by simp at h
 |_,_,.cons r1 r2 rs,0,kx,h=>by cases h;exact⟨_,_,rfl,r1,r2⟩
 |_,_,.cons r1 r2 rs,i+1,kx,h=>zg rs i (by simpa using h)
theorem zh {K:Frag}{N:Addr->Prop}{H:Hp}:∀{xs:aN}{ws:List (V×V)},bB K N H xs ws->xs.length=ws.length
 |_,_,.nil=>rfl
 |_,_,.cons _ _ rs=>congrArg (·+1) (zh rs)
def zi (P:af->(bX)->AS->Prop)(x:PV)(A:AS):Prop:=∃ kvs:aN,x=.ah kvs/\P (kvs.map Prod.snd) (λ_=>True) A
def zj (P:af->(bX)->AS->Prop)(x:PV)(A:AS):Prop:=∃ kvs:aN,x=.ah kvs/\P (kvs.map λkv=>.tup [kv.1,kv.2]) (λ_=>True) A
def zk (ue:UE):UI:=λA P=>ue A λx A1=>zi P x A1
def GA (ue:UE):UI:=λA P=>ue A λx A1=>zj P x A1
section
variable {ue:UE}{B:Addr->Prop}{ae:bp}{S:Option az}{P:af->(bX)->AS->Prop}{A:AS}{kvs:aN}
theorem Vr:zk ue ⟨B,ae,S⟩ P=ue ⟨B,ae,S⟩ λx A1=>zi P x A1:=rfl
theorem Vs:GA ue ⟨B,ae,S⟩ P=ue ⟨B,ae,S⟩ λx A1=>zj P x A1:=rfl
theorem Vt:zi P (.ah kvs) A=P (kvs.map Prod.snd) (λ_=>True) A:=propext ⟨fun⟨_,e,h⟩=>by cases e;exact h,λh=>⟨_,rfl,h⟩⟩
theorem Vu:zj P (.ah kvs) A=P (kvs.map λkv=>.tup [kv.1,kv.2]) (λ_=>True) A:=propext ⟨fun⟨_,e,h⟩=>by cases e;exact h,λh=>⟨_,rfl,h⟩⟩
end
section
variable {X:Cx}{K:Frag}{e tg:Expr}{apos bK:Pos}{ue:UE}
theorem Vv {A:AS}{H:Hp}{σ:St}{a:Addr}{od:Obj}{ak:bh}{xs:aN}(R:Rep K H σ A)(n:¬ AN A a)(h1:H a=some (.aY od (.dK ak)))(h2:bB K (AN A) H xs (ak.map λkv=>(kV kv.1,kv.2))):gn K A H (oH a od) (xs.map Prod.snd) λ_=>True:=by
 have go:∀{N:Addr->Prop}{H2:Hp},H2 a=some (.aY od (.dK ak))->bB K N H2 xs (ak.map λkv=>(kV kv.1,kv.2))->(∀ i x,(xs.map Prod.snd)[i]?=some x->(oH a od).go i H2/\∀ v H',(oH a od).eo i H2 v H'->aQ H2 H'/\RV K N H' x v)/\(oH a od).stop (xs.map Prod.snd).length H2:=λ{N H2} h1 h2=>by
  refine⟨λi x hx=>?_,⟨_,h1,by rw[length_map,zh h2,length_map];exact aG _⟩⟩;rw[getElem?_map] at hx;obtain⟨kx,hk,rfl⟩:=Option.map_eq_some_iff.mp hx;obtain⟨l,v,hw,_,rv⟩:=zg h2 i hk;rw[getElem?_map] at hw;obtain⟨kv,dW,zl⟩:=Option.map_eq_some_iff.mp hw;cases zl;refine⟨⟨_,kv,h1,dW⟩,λv' H' y=>?_⟩;obtain⟨rfl,y⟩:=y;obtain⟨Pk,e1,rfl⟩:=y _ h1;rw[dW] at e1;cases e1;exact⟨aQ.refl _,rv⟩
 exact {
  go:=λbu A2 H2 R2 S2 _=>(go ((R.keep S2).l a _ n h1).2 (h2.imp (R.keep S2))).1
  stop:=λbu A2 H2 R2 S2 _=>(go ((R.keep S2).l a _ n h1).2 (h2.imp (R.keep S2))).2
  cm:=λH2 b=>go ((R.fV b).l a _ n h1).2 (h2.imp (R.fV b)) }
theorem Vw {A:AS}{H:Hp}{σ:St}{a:Addr}{od:Obj}{ak:bh}{xs:aN}(R:Rep K H σ A)(n:¬ AN A a)(h1:H a=some (.aY od (.dK ak)))(h2:bB K (AN A) H xs (ak.map λkv=>(kV kv.1,kv.2))):gn K A H (Itm a od) (xs.map λkv=>.tup [kv.1,kv.2]) λ_=>True:=by
 have go:∀{N:Addr->Prop}{H2:Hp},H2 a=some (.aY od (.dK ak))->bB K N H2 xs (ak.map λkv=>(kV kv.1,kv.2))->(∀ i x,(xs.map λkv=>PV.tup [kv.1,kv.2])[i]?=some x->(Itm a od).go i H2/\∀ v H',(Itm a od).eo i H2 v H'->aQ H2 H'/\RV K N H' x v)/\(Itm a od).stop (xs.map λkv=>PV.tup [kv.1,kv.2]).length H2:=λ{N H2} h1 h2=>by
  refine⟨λi x hx=>?_,⟨_,h1,by rw[length_map,zh h2,length_map];exact aG _⟩⟩;rw[getElem?_map] at hx;obtain⟨kx,hk,rfl⟩:=Option.map_eq_some_iff.mp hx;obtain⟨l,v,hw,rk,rv⟩:=zg h2 i hk;rw[getElem?_map] at hw;obtain⟨kv,dW,zl⟩:=Option.map_eq_some_iff.mp hw;cases zl;refine⟨⟨_,kv,h1,dW⟩,λv' H' ⟨p,k',w',hp,e1,e2,e3⟩=>?_⟩;have q:=e3 _ h1;rw[dW] at q;cases q;subst e1 e2;have s2:=d0 hp (.tup [kV k',w']);exact⟨s2,.tup (.inl (.inl aZ)) (.cons (rk.imp (fG s2)) (.cons (rv.imp (fG s2)) .nil))⟩
 exact {
  go:=λbu A2 H2 R2 S2 _=>(go ((R.keep S2).l a _ n h1).2 (h2.imp (R.keep S2))).1
  stop:=λbu A2 H2 R2 S2 _=>(go ((R.keep S2).l a _ n h1).2 (h2.imp (R.keep S2))).2
  cm:=λH2 b=>go ((R.fV b).l a _ n h1).2 (h2.imp (R.fV b)) }
theorem GB (h:PE X e (aD K ue))(dQ:attributeBase e "values" X.env (eval e X.env)=eval e X.env:=by rfl)(dR:(apos.endLine==bK.line)=true:=by rfl):PI X tg (.Call (.Attribute e "values" apos) [] [] bK) (gQ K (zk ue)):=by
 refine(UY h dQ dR).mono λσ H Q ⟨A,P,R,h,c⟩=>⟨A,_,R,h,λx A1 v H1 q R1 S1 rv=>?_⟩;obtain⟨xs,rfl,q⟩:=q
 cases rv with
 |ah n h1 h2=>
  obtain⟨ak,od,h1,rfl⟩:=h1;exact⟨_,od,ak,rfl,h1,c _ _ A1 _ H1 q R1 S1 (Vv R1 n h1 h2)⟩
theorem Vz {es:List Expr}{k:Nat}{tp:Pos}(h:PE X e (aD K ue))(dQ:attributeBase e "items" X.env (eval e X.env)=eval e X.env:=by rfl)(dR:(apos.endLine==bK.line)=true:=by rfl):PI X (.Tuple es k tp) (.Call (.Attribute e "items" apos) [] [] bK) (gQ K (GA ue)):=by
 refine(UZ h dQ dR).mono λσ H Q ⟨A,P,R,h,c⟩=>⟨A,_,R,h,λx A1 v H1 q R1 S1 rv=>?_⟩;obtain⟨xs,rfl,q⟩:=q
 cases rv with
 |ah n h1 h2=>
  obtain⟨ak,od,h1,rfl⟩:=h1;exact⟨_,od,ak,rfl,h1,c _ _ A1 _ H1 q R1 S1 (Vw R1 n h1 h2)⟩
end
section
variable {X:Cx}{pins:aL}{σ aJ:St}{H:Hp}{s:Shared}
theorem Inv.agree (I:Inv X pins σ H s)(hl:X.N.length<=aJ.length)(h:∀ i,i<X.N.length->aJ[i]?=σ[i]?):Inv X pins aJ H s:=
 ⟨I.ok,I.os,I.bare,I.base,let ⟨m,hn,VA⟩:=I.loc;⟨m,hn,λi x v e1 e2 e3=>VA i x v e1 (by rw[<- h i (b8 e1).1];exact e2) e3⟩,I.cell,I.free,I.f7,I.pin,I.aw,hl⟩
end
section
variable {K:Frag}{H:Hp}{σ:St}{A:AS}
theorem qR {ae:bp}{n i:Nat}{s:Sl}(h:(ae++replicate n none)[i]?=some (some s)):ae[i]?=some (some s):=by
 by_cases hi:i<ae.length
 ·rwa [getElem?_append_left hi] at h
 ·rw[getElem?_append_right (Nat.le_of_not_lt hi),getElem?_replicate] at h
  split at h<;>cases h
noncomputable def oJ (n:Nat)(A:AS):AS:=⟨A.B,A.ae++replicate n none,A.S⟩
theorem Rep.pad (R:Rep K H σ A)(n:Nat):Rep K H (σ++replicate n none) (oJ n A)/\ax A H (oJ n A) H:=by
 have ow:∀ b,Own (oJ n A).ae b->Own A.ae b:=λb ⟨i,c,h⟩=>⟨i,c,qR h⟩;have S:ax A H (oJ n A) H:=⟨λ_ _ h _=>h,λb z=>.inl (ow b z),rfl,λ_ h=>h,rfl⟩;have kp:=R.keep S;refine⟨⟨?_,λi t h=>?_,R.cW,λi j a c c' h1 h2=>R.nd i j a c c' (qR h1) (qR h2),R.st,λi a c st h1 h2=>R.pk i a c st (qR h1) h2⟩,S⟩
 ·show(σ++_).length=(A.ae++_).length;rw[length_append,length_append,R.len];simp
 ·obtain⟨v,e,q⟩:=R.sl i t (qR h);refine⟨v,by rw[getElem?_append_left (b8 e).1];exact e,?_⟩
  cases t with
  |val x=>exact q.imp kp
  |own a c=>exact⟨q.1,q.2.1,q.2.2.imp kp λ_ h=>h⟩
  |peek a c=>exact⟨q.1,q.2.1,q.2.2.imp kp λ_ h=>h⟩
def Mv (A A':AS):Prop:=∀(K:Frag)(H:Hp)(σ:St),Rep K H σ A->Rep K H σ A'/\ax A H A' H
theorem Mv.refl (A:AS):Mv A A:=λK H σ R=>⟨R,ax.refl A H⟩
theorem Mv.trans {A1 A2:AS}(h:Mv A A1)(g:Mv A1 A2):Mv A A2:=λK H σ R=>⟨(g K H σ (h K H σ R).1).1,(h K H σ R).2.trans (g K H σ (h K H σ R).1).2⟩
theorem GC {i j:Nat}{p:Addr}{c:OC}(hi:A.ae[i]?=some (some (.val (.raw (.ref p)))))(hj:A.ae[j]?=some (some (.own p c))):Mv A ⟨A.B,(A.ae.set i (some (.own p c))).set j (some (.val (.raw (.ref p)))),A.S⟩:=λK H σ R=>by
 have ij:i≠j:=λe=>by rw[e,hj] at hi;cases hi
 have li:i<A.ae.length:=(b8 hi).1;have lj:j<A.ae.length:=(b8 hj).1
 have at':∀(k:Nat)(s:Sl),((A.ae.set i (some (.own p c))).set j (some (.val (.raw (.ref p)))))[k]?=some (some s)->(k=i/\s=.own p c)\/(k=j/\s=.val (.raw (.ref p)))\/(k≠i/\k≠j/\A.ae[k]?=some (some s)):=λk s h=>by
  rw[getElem?_set] at h;by_cases e:j=k
  ·subst e;rw[if_pos rfl] at h
   split at h
   ·cases h;exact .inr (.inl ⟨rfl,rfl⟩)
   ·cases h
  ·rw[if_neg e,getElem?_set] at h;by_cases e2:i=k
   ·subst e2;rw[if_pos rfl] at h
    split at h<;>cases h<;>exact .inl ⟨rfl,rfl⟩
   ·rw[if_neg e2] at h;exact .inr (.inr ⟨Ne.symm e2,Ne.symm e,h⟩)
 obtain⟨vj,ej,rfl,nb,oc⟩:=R.sl j _ hj;obtain⟨vi,ei,VB⟩:=R.sl i _ hi;have VC:vi=.ref p:=by cases VB;rfl
 subst VC
 have ow:∀ b,Own ((A.ae.set i (some (.own p c))).set j (some (.val (.raw (.ref p))))) b->Own A.ae b:=by
  rintro b ⟨k,c',h⟩;rcases at' k _ h with ⟨_,e⟩|⟨_,e⟩|⟨_,_,e⟩
  ·cases e;exact⟨j,c,hj⟩
  ·cases e
  ·exact⟨k,c',e⟩
 have S:ax A H ⟨A.B,(A.ae.set i (some (.own p c))).set j (some (.val (.raw (.ref p)))),A.S⟩ H:=⟨λ_ _ h _=>h,λb z=>.inl (ow b z),rfl,λ_ h=>h,rfl⟩;have kp:=R.keep S;refine⟨⟨?_,λk t h=>?_,R.cW,λk l a c1 c2 h1 h2=>?_,R.st,λk a c' st h1 h2=>?_⟩,S⟩
 ·show σ.length=_;rw[R.len,length_set,length_set]
 ·rcases at' k t h with ⟨rfl,rfl⟩|⟨rfl,rfl⟩|⟨n1,n2,e⟩
  ·exact⟨_,ei,rfl,nb,oc.imp kp λ_ h=>h⟩
  ·exact⟨_,ej,.raw p⟩
  ·obtain⟨v,e1,q⟩:=R.sl k t e;refine⟨v,e1,?_⟩
   cases t with
   |val x=>exact q.imp kp
   |own a c=>exact⟨q.1,q.2.1,q.2.2.imp kp λ_ h=>h⟩
   |peek a c=>exact⟨q.1,q.2.1,q.2.2.imp kp λ_ h=>h⟩
 ·rcases at' k _ h1 with ⟨r1,e1⟩|⟨_,e1⟩|⟨n1,n2,e1⟩
  ·rcases at' l _ h2 with ⟨r2,e2⟩|⟨_,e2⟩|⟨m1,m2,e2⟩
   ·rw[r1,r2]
   ·cases e2
   ·cases e1;exact absurd (R.nd j l _ _ _ hj e2) (Ne.symm m2)
  ·cases e1
  ·rcases at' l _ h2 with ⟨r2,e2⟩|⟨_,e2⟩|⟨m1,m2,e2⟩
   ·cases e2;exact absurd (R.nd k j _ _ _ e1 hj) n2
   ·cases e2
   ·exact R.nd k l _ _ _ e1 e2
 ·rcases at' k _ h1 with ⟨_,e⟩|⟨_,e⟩|⟨_,_,e⟩
  ·cases e
  ·cases e
  ·exact R.pk k a c' st e h2
end
def qS (u:US):US:=λE A=>∃ A',Mv A A'/\u E A'
def GD (n:Nat)(u:US):US:=λE A=>u E (oJ n A)
theorem VD {n:Nat}{u:US}{E:fo}{B:Addr->Prop}{ae:bp}{S:Option az}:GD n u E ⟨B,ae,S⟩=u E ⟨B,ae++replicate n none,S⟩:=rfl
section
variable {X:Cx}{K:Frag}{u:US}{st:Stmt}{ss:List Stmt}
theorem GF {D:Ends}{σ:St}{H:Hp}(h:bS K (qS u) D σ H):bS K u D σ H:=by
 obtain⟨A,E,R,⟨A',m,h⟩,k⟩:=h;obtain⟨R',S⟩:=m K H σ R;exact⟨A',E,R',h,k.step S⟩
theorem VE (h:PS X st (bS K u)):PS X st (bS K (qS u)):=λpins s σ H D I w=>h pins s σ H D I (GF w)
theorem GG (h:cn X ss (bS K u)):cn X ss (bS K (qS u)):=λpins s σ H D I w=>h pins s σ H D I (GF w)
theorem VF (n:Nat)(h:cn X ss (bS K u)):cn X ss (bS K (GD n u)):=λpins s σ H D I w=>by
 obtain⟨A,E,R,h',k⟩:=w;obtain⟨R',S⟩:=R.pad n;refine h pins s (σ++replicate n none) H D (I.agree (cC I.len (by simp)) λi hi=>getElem?_append_left (c8 hi I.len)) ⟨oJ n A,E,R',h',k.step S⟩
theorem PS.postG {t t':TS}(h:PS X st t)(f:∀ D σ H,t' D σ H->t ⟨λa7 H1=>∃ bu,(bu.length=a7.length/\∀ i,i<X.N.length->bu[i]?=a7[i]?)/\D.nx bu H1,D.rt,D.bk,D.ct⟩ σ H):PS X st t':=λpins s σ H D I w=>
 aH (h pins s σ H _ I (f _ _ _ w)) λfl s1 q=>by
  cases fl with
  |next=>
   obtain⟨aJ,H',I',bu,⟨a,b⟩,q⟩:=q;exact⟨bu,H',I'.agree (by rw[a];exact I'.len) b,q⟩
  |_=>exact q
end
def GH (n i kj:Nat)(ue:UE):US:=λE A=>ue A λr A1=>∃(xs:af)(a:Addr)(kvs:aN)(z:Str)(j:Nat),r=.lst xs/\A1.ae[i]?=some (some (.own a (.ah kvs)))/\A1.ae[kj]?=some (some (.val (.str z)))/\n<=j/\A1.ae[j]?=some none/\kvs.length<=1000000 /\
 ∀ p,E.nx (put (put A1 j (.own p (.lst xs))) i (.own a (.ah (dG kvs (.inr z) (.raw (.ref p))))))
section
variable {X:Cx}{K:Frag}{e:Expr}{ue:UE}{bD nG pos dB:Pos}{k:Nat}
theorem VG (hr:bz k X.A)(n i kj:Nat){x y:Str}(he:PE X e (fU K ue))(hn:X.N.length=n:=by rfl)(hN:X.N[i]?=some x:=by rfl)(hv:di X.env.scope x:=by walk_at "v")(hd:(x==("__debug__":Str))=false:=by decide)(bA:(x==("__classdict__":Str))=false:=by decide)
  (VH:X.N[kj]?=some y:=by rfl)(zm:di X.env.scope y:=by walk_at "v")(hd2:(y==("__debug__":Str))=false:=by decide)(VI:(y==("__classdict__":Str))=false:=by decide)
  (hs:swapsWith e (some (.Subscript (.Name x bD) (.Name y nG) pos)) dB.line X.env=pure false:=by rfl):PS X (.Assign [.Subscript (.Name x bD) (.Name y nG) pos] e dB) (bS K (GH n i kj ue)):=by
 refine PS.postG (jR (fR hr) (dO hN hv hd bA) (dO VH zm hd2 VI) he hs) λD σ H ⟨A,E,R,h,c⟩=>?_;refine⟨A,_,R,h,λr A1 v H0 H1 q R1 S1 f=>?_⟩;obtain⟨xs,a,kvs,z,j,rfl,hi,hk,hj,VJ,aK,q⟩:=q;have ij:i≠j:=λe=>by rw[e,VJ] at hi;cases hi
 obtain⟨p,rfl,R2,S2⟩:=R1.fresh (i:=j) (c:=.lst xs) f;obtain⟨vi,ei,rfl,nb,us0,_,_⟩:=R1.sl i _ hi;obtain⟨vk,ek,rk⟩:=R1.sl kj _ hk;have VL:vk=.str z:=by cases rk;rfl
 subst VL
 have hA:(put A1 j (.own p (.lst xs))).ae[i]?=some (some (.own a (.ah kvs))):=by
  show(A1.ae.set j _)[i]?=_;rw[getElem?_set_ne (Ne.symm ij)];exact hi
 obtain⟨_,_,_,_,us,g1,g2⟩:=R2.sl i _ hA;have ll:=g2.len;rw[length_map] at ll;obtain⟨R3,S3⟩:=R2.FJ hA (yH g2 (.inr z) (.raw p));refine⟨_,ei,_,ek,a,_,rfl,iQ.k (k:=.inr z) g1 (Nat.lt_of_le_of_lt (by omega:us.length<=1000000) (by decide)),σ.set j (some (.ref p)),⟨length_set ..,λl hl=>getElem?_set_ne (by omega)⟩,c.nx _ _ _ (q p) R3 (S1.trans (S2.trans S3))⟩
end
noncomputable def uu (p:Addr)(x:PV):PV->PV
 |.raw (.ref q)=>if q=p then x else .raw (.ref q)
 |y=>y
noncomputable def fX (p:Addr)(x:PV)(kvs:aN):aN:=kvs.map λkv=>(kv.1,uu p x kv.2)
theorem GI {K:Frag}{N:Addr->Prop}{H:Hp}{p:Addr}{x:PV}(r:RV K N H x (.ref p)):∀{kvs:aN}{ws:List (V×V)},bB K N H kvs ws->bB K N H (fX p x kvs) ws
 |_,_,.nil=>.nil
 |_,_,.cons (x:=y) r1 r2 rs=>by
  refine .cons r1 ?_ (GI r rs);show RV K N H (uu p x y) _;unfold uu
  split
  ·rename_i q _
   split
   ·rename_i e;subst e;cases r2;exact r
   ·exact r2
  ·exact r2
theorem VM {A:AS}{i j:Nat}{a p:Addr}{kvs:aN}{xs:af}(hi:A.ae[i]?=some (some (.own a (.ah kvs))))(hj:A.ae[j]?=some (some (.own p (.lst xs)))):Mv A ⟨A.B,(A.ae.set j none).set i (some (.own a (.ah (fX p (.lst xs) kvs)))),A.S⟩:=λK H σ R=>by
 have ij:i≠j:=λe=>by rw[e,hj] at hi;cases hi
 have at':∀(k:Nat)(s:Sl),((A.ae.set j none).set i (some (.own a (.ah (fX p (.lst xs) kvs)))))[k]?=some (some s)->(k=i/\s=.own a (.ah (fX p (.lst xs) kvs)))\/(k≠i/\k≠j/\A.ae[k]?=some (some s)):=λk s h=>by
  rw[getElem?_set] at h;by_cases e:i=k
  ·subst e;rw[if_pos rfl] at h
   split at h
   ·cases h;exact .inl ⟨rfl,rfl⟩
   ·cases h
  ·rw[if_neg e,getElem?_set] at h;by_cases e2:j=k
   ·subst e2;rw[if_pos rfl] at h
    split at h<;>cases h
   ·rw[if_neg e2] at h;exact .inr ⟨Ne.symm e,Ne.symm e2,h⟩
 obtain⟨vj,ej,rfl,VN,vs,j1,j2⟩:=R.sl j _ hj;obtain⟨vi,ei,rfl,VO,ws,i1,i2⟩:=R.sl i _ hi
 have ow:∀ b,Own ((A.ae.set j none).set i (some (.own a (.ah (fX p (.lst xs) kvs))))) b->Own A.ae b/\b≠p:=by
  rintro b ⟨k,c',h⟩;rcases at' k _ h with ⟨_,e⟩|⟨n1,n2,e⟩
  ·cases e;exact⟨⟨i,_,hi⟩,λe=>ij (R.nd i j _ _ _ hi (by rw[e];exact hj))⟩
  ·exact⟨⟨k,c',e⟩,λz=>n2 (by rw[z] at e;exact R.nd k j _ _ _ e hj)⟩
 have S:ax A H ⟨A.B,(A.ae.set j none).set i (some (.own a (.ah (fX p (.lst xs) kvs)))),A.S⟩ H:=⟨λ_ _ h _=>h,λb z=>.inl (ow b z).1,rfl,λ_ h=>h,rfl⟩;have kp:=R.keep S;have np:¬ AN ⟨A.B,(A.ae.set j none).set i (some (.own a (.ah (fX p (.lst xs) kvs)))),A.S⟩ p:=λz=>z.elim VN λz=>(ow p z).2 rfl;have rp:RV K (AN ⟨A.B,(A.ae.set j none).set i (some (.own a (.ah (fX p (.lst xs) kvs)))),A.S⟩) H (.lst xs) (.ref p):=.lst np j1 (j2.imp kp);refine⟨⟨?_,λk t h=>?_,R.cW,λk l b c1 c2 h1 h2=>?_,R.st,λk b c' st h1 h2=>?_⟩,S⟩
 ·show σ.length=_;rw[R.len,length_set,length_set]
 ·rcases at' k t h with ⟨rfl,rfl⟩|⟨n1,n2,e⟩
  ·exact⟨_,ei,rfl,VO,ws,i1,GI rp (i2.imp kp)⟩
  ·obtain⟨v,e1,q⟩:=R.sl k t e;refine⟨v,e1,?_⟩
   cases t with
   |val x=>exact q.imp kp
   |own a c=>exact⟨q.1,q.2.1,q.2.2.imp kp λ_ h=>h⟩
   |peek a c=>exact⟨q.1,q.2.1,q.2.2.imp kp λ_ h=>h⟩
 ·rcases at' k _ h1 with ⟨r1,e1⟩|⟨n1,n2,e1⟩
  ·rcases at' l _ h2 with ⟨r2,e2⟩|⟨m1,m2,e2⟩
   ·rw[r1,r2]
   ·cases e1;exact absurd (R.nd i l _ _ _ hi e2) (Ne.symm m1)
  ·rcases at' l _ h2 with ⟨r2,e2⟩|⟨m1,m2,e2⟩
   ·cases e2;exact absurd (R.nd k i _ _ _ e1 hi) n1
   ·exact R.nd k l _ _ _ e1 e2
 ·rcases at' k _ h1 with ⟨_,e⟩|⟨_,_,e⟩
  ·cases e
  ·exact R.pk k b c' st e h2
section
variable {X:Cx}
def VP:V->Zv->Hp->VK->Prop:=λx vs H Q=>∃(l:Addr)(xs:Zv)(j:Nat)(y:V),x=.ref l/\vs=[.int (j:Nat),y]/\H l=some (.lst xs)/\j<=xs.length/\xs.length<=1000000/\Q .ai (upd H l (.lst (xs.take j++y::xs.drop j)))
theorem VQ:iW X "list.insert" VP:=by
 intro pins s σ H x vs v us Q I rx rv h;obtain⟨l,xs,j,y,rfl,rfl,hH,hj,aK,q⟩:=h;cases rx;obtain⟨u1,u2,rfl,⟨t,rfl⟩,ru⟩:=vals2 rv;obtain⟨z,its,k,r,hl,e⟩:=I.ir hH;have ll:=r.length
 have hf:¬ (!Builtin.List.listFitsIndex (j:Int))=true:=by
  have h1:(j:Int)<2 ^ 63:=by omega
  have h2:-(2:Int) ^ 63<=j:=by omega
  have:Builtin.List.listFitsIndex (j:Int)=true:=by
   unfold Builtin.List.listFitsIndex;rw[decide_eq_true h1,decide_eq_true h2];rfl
  rw[this];exact Bool.false_ne_true
 have hsz:its.toArray.size<=sizeLine:=by rw[size_toArray];omega
 generalize hx:(j:Int)=x at hf;have M:=AutoListH.list_insert_list_int_val_1 l its.toArray k x t u2 hf hsz;refine call_meets (rest:=[.int x t,u2]) F.slot_list_insert ⟨_,e,rfl⟩ F.entry_list_insert (F.args_list_insert_3 (.ref l) (.int x t) u2) M ⟨e,?_⟩;subst hx;refine⟨.ai,_,I.nP (its':=its.take j++u2::its.drop j) hH e ?_ ?_ ?_,rfl,q⟩
 ·have hm:min (j:Int).toNat its.toArray.size=j:=by rw[Int.toNat_natCast,size_toArray];omega
  show(its.toArray.extract 0 (if (j:Int)<0 then ((j:Int)+its.toArray.size).toNat else min (j:Int).toNat its.toArray.size)).push u2++its.toArray.extract (if (j:Int)<0 then ((j:Int)+its.toArray.size).toNat else min (j:Int).toNat its.toArray.size)=_;rw[if_neg (by omega),hm];apply Array.ext';simp;exact take_of_length_le (by simp)
 ·exact Vals.append (Vals.take j r) (.cons ru (Vals.drop j r))
 ·rw[length_append,length_cons,length_take,length_drop];exact cC (by omega:_<=1000001) (by decide)
end
def GJ (i:Nat)(Q:PV->AS->Prop)(a:Addr)(k x:PV)(A:AS):Prop:=∃ xs j,A.ae[i]?=some (some (.own a (.lst xs)))/\k=.int (j:Nat)/\j<=xs.length/\xs.length<=1000000/\Q .ai (put A i (.own a (.lst (xs.take j++x::xs.drop j))))
def zo (i:Nat)(uk ue:UE):UE:=λA Q=>fJ A.ae[i]? (λa _ A=>uk A λk A1=>ue A1 λx A2=>GJ i Q a k x A2) A
theorem VR {i:Nat}{uk ue:UE}{B:Addr->Prop}{ae:bp}{S:Option az}{Q:PV->AS->Prop}:zo i uk ue ⟨B,ae,S⟩ Q=fJ ae[i]? (λa _ A=>uk A λk A1=>ue A1 λx A2=>GJ i Q a k x A2) ⟨B,ae,S⟩:=rfl
section
variable {X:Cx}{K:Frag}{e f:Expr}{bD apos bK:Pos}{ue uf:UE}
theorem VS (hK:X.K=K)(i:Nat){x:Str}(he:PE X e (aD K ue))(hf:PE X f (aD K uf))(hN:X.N[i]?=some x:=by rfl)(hv:di X.env.scope x:=by walk_at "v")(hd:(x==("__debug__":Str))=false:=by decide)(bA:(x==("__classdict__":Str))=false:=by decide)
  (dQ:attributeBase (.Name x bD) "insert" X.env (eval (.Name x bD) X.env)=eval (.Name x bD) X.env:=by rfl)
  (gF:((backTo bK (starEach [e,f] X.env)).all (λx=>!x.1)&&(backToKw bK (keywordEach [] X.env)).all (λx=>x.1.isSome)&&decide ([e,f].length+([]:List Keyword).length+(if ([]:List Keyword).isEmpty then 0 else 1)<30))=true:=by rfl)
  (dR:(apos.endLine==bK.line)=true:=by rfl)(hs:starEach [e,f] X.env=(false,eval e X.env)::starEach [f] X.env:=by rfl)(fi:starEach [f] X.env=[(false,eval f X.env)]:=by rfl)(dC:(backTo bK (starEach [f] X.env)).any (·.1)=false:=by rfl):PE X (.Call (.Attribute (.Name x bD) "insert" apos) [e,f] [] bK) (aD K (zo i ue uf)):=by
 subst hK;refine(mw PySem.F.plainAttrs_list PySem.F.slot_list_insert PySem.F.type_list_insert VQ (dO hN hv hd bA) (bO he (bO hf cq fi) hs) dQ gF dR hs dC).mono λσ H Q ⟨A,P,R,h,c⟩=>?_;unfold zo fJ at h
 split at h
 ·rename_i a ys hx;obtain⟨v,ev,rfl,nb,vs,h1,h2⟩:=R.sl i _ hx;refine⟨_,ev,.inl ⟨rfl,_,aC.of h1⟩,A,_,R,h,λk A1 kw H1 p R1 S1 rk=>⟨A1,_,R1,p,λr A2 w H2 p2 R2 S2 cO=>?_⟩⟩;obtain⟨xs,j,hA,rfl,hj,aK,p2⟩:=p2;obtain⟨_,_,_,_,us,g1,g2⟩:=R2.sl i _ hA;cases rk;have ll:=g2.len;obtain⟨R3,S3⟩:=R2.turn hA ((g2.take j).app (.cons cO (g2.drop j)));exact⟨a,us,j,w,rfl,rfl,g1,by omega,by omega,c _ _ _ _ p2 R3 (S1.trans (S2.trans S3)) .ai⟩
 ·exact h.elim
end
noncomputable def oK:af->Option (List Key)
 |[]=>some []
 |x::r=>match pk x,oK r with
  |some k,some l=>some (k::l)
  |_,_=>none
noncomputable def m5:PV->Option (List Key)
 |.tup xs=>oK xs
 |_=>none
noncomputable def zp:Key->Bool
 |.inl _=>true
 |.inr z=>decide (z∈(["a","","b","aa"]:ay))
noncomputable def jx (ks:List Key):Bool:=!ks.isEmpty&&ks.all zp
def NK (K:Frag):Prop:=∀ a o its n,K.lookup a=some o->o.cls=.type "tuple"->o.data=.seq its n->its.toList=[]\/∃ x t r,its.toList=.str x t::r/\x∉(["a","","b","aa"]:ay)
theorem NK.no {K:Frag}(h:NK K){ks:List Key}(g:jx ks=true):oI K (ks.map kV):=by
 intro a o its n h1 h2 h3 r;unfold jx at g
 cases ks with
 |nil=>cases g
 |cons k ks=>
  rcases h a o its n h1 h2 h3 with e|⟨x,t,q,e,nx⟩
  ·rw[e] at r;cases r
  ·rw[e] at r
   cases r with
   |cons r1 r2=>
    simp only[isEmpty_cons,Bool.not_false,all_cons,Bool.true_and,Bool.and_eq_true] at g
    cases k with
    |inl i=>obtain⟨t',z⟩:=(show ∃ t',Value.str x t=Value.int i t' from r1);cases z
    |inr z=>
     obtain⟨t',e⟩:=(show ∃ t',Value.str x t=Value.str z t' from r1);cases e;exact nx (of_decide_eq_true g.1)
section
variable {K:Frag}{N:Addr->Prop}{H:Hp}
theorem GK:∀{xs:af}{vs:Zv}{ks:List Key},oK xs=some ks->aI K N H xs vs->vs=ks.map kV
 |[],_,_,h,.nil=>by cases h;rfl
 |x::xs,_,ks,h,.cons r rs=>by
  unfold oK at h
  split at h
  ·rename_i k l h1 h2;cases h;rw[map_cons,<- GK h2 rs,qC h1 r]
  ·cases h
theorem uv {x:PV}{v:V}{ks:List Key}(h:m5 x=some ks)(r:RV K N H x v):∃ b,v=.ref b/\aS K H b (ks.map kV):=by
 cases x<;>first|(cases h;done)|skip
 cases r with
 |tup h1 h2=>exact⟨_,rfl,by rw[<- GK h h2];exact h1⟩
theorem cA.kX {ak:List (List Key×V)}(h:cA K N H [] ak):ak=[]:=by
 cases ak with
 |nil=>rfl
 |cons q r=>exact nomatch h.2
theorem cA.cons_of {p:List Key×PV}{kvs:List (List Key×PV)}{ak:List (List Key×V)}(h:cA K N H (p::kvs) ak):∃ q r,ak=q::r/\p.1=q.1/\RV K N H p.2 q.2/\cA K N H kvs r:=by
 cases ak with
 |nil=>exact nomatch h.2
 |cons q r=>
  obtain⟨h1,h2⟩:=h;rw[map_cons,map_cons] at h1 h2
  cases h2 with
  |cons r1 r2=>
   injection h1 with e1 e2
   exact⟨q,r,rfl,e1,r1,e2,r2⟩
theorem cA.zq {p:List Key×PV}{q:List Key×V}{kvs:List (List Key×PV)}{ak:List (List Key×V)}(e:p.1=q.1)(r:RV K N H p.2 q.2)(h:cA K N H kvs ak):cA K N H (p::kvs) (q::ak):=
 ⟨by rw[map_cons,map_cons,e,h.1],by rw[map_cons,map_cons];exact .cons r h.2⟩
theorem cA.len {kvs:List (List Key×PV)}{ak:List (List Key×V)}(h:cA K N H kvs ak):kvs.length=ak.length:=by
 have:=congrArg List.length h.1;simpa using this
end
noncomputable def eM (kvs:List (List Key×PV))(k:List Key):Option PV:=(kvs.find? λkv=>decide (kv.1=k)).map (·.2)
noncomputable def iA (kvs:List (List Key×PV))(k:List Key)(v:PV):List (List Key×PV):=
 if (kvs.any λkv=>decide (kv.1=k))=true then kvs.map (λkv=>if kv.1=k then (kv.1,v) else kv) else kvs++[(k,v)]
section
variable {K:Frag}{N:Addr->Prop}{H:Hp}
theorem cA.look (k:List Key):∀{kvs:List (List Key×PV)}{ak:List (List Key×V)},cA K N H kvs ak->(eM kvs k=none/\cK ak k=none)\/∃ z u,eM kvs k=some z/\cK ak k=some u/\RV K N H z u
 |[],_,h=>by rw[h.kX];exact .inl ⟨rfl,rfl⟩
 |p::kvs,_,h=>by
  obtain⟨q,r,rfl,e,rv,t⟩:=h.cons_of;by_cases c:p.1=k
  ·exact .inr ⟨p.2,q.2,by simp [eM,find?_cons,c],nH (e▸c),rv⟩
  ·have e1:eM (p::kvs) k=eM kvs k:=by simp [eM,find?_cons,c]
   rw[e1,nI (show ¬ q.1=k from e▸c)];exact cA.look k t
theorem cA.isSome (k:List Key){kvs:List (List Key×PV)}{ak:List (List Key×V)}(h:cA K N H kvs ak):(eM kvs k).isSome=(cK ak k).isSome:=by
 rcases h.look k with ⟨a,b⟩|⟨z,u,a,b,_⟩<;>rw[a,b]<;>rfl
theorem cA.nK (k:List Key){v:PV}{w:V}(rv:RV K N H v w):∀{kvs:List (List Key×PV)}{ak:List (List Key×V)},cA K N H kvs ak->cA K N H (kvs.map λkv=>if kv.1=k then (kv.1,v) else kv) (ak.map λkv=>if kv.1=k then (kv.1,w) else kv)
 |[],_,h=>by rw[h.kX];exact⟨rfl,.nil⟩
 |p::kvs,_,h=>by
  obtain⟨q,r,rfl,e,zr,t⟩:=h.cons_of;rw[map_cons,map_cons];refine cA.zq ?_ ?_ (cA.nK k rv t)
  ·by_cases c:p.1=k
   ·rw[if_pos c,if_pos (e▸c)];exact e
   ·rw[if_neg c,if_neg (e▸c)];exact e
  ·by_cases c:p.1=k
   ·rw[if_pos c,if_pos (e▸c)];exact rv
   ·rw[if_neg c,if_neg (e▸c)];exact zr
theorem cA.app {k:List Key}{v:PV}{w:V}(rv:RV K N H v w):∀{kvs:List (List Key×PV)}{ak:List (List Key×V)},cA K N H kvs ak->cA K N H (kvs++[(k,v)]) (ak++[(k,w)])
 |[],_,h=>by rw[h.kX];exact cA.zq rfl rv ⟨rfl,.nil⟩
 |p::kvs,_,h=>by
  obtain⟨q,r,rfl,e,zr,t⟩:=h.cons_of;exact cA.zq e zr (cA.app rv t)
theorem cA.put (k:List Key){v:PV}{w:V}{kvs:List (List Key×PV)}{ak:List (List Key×V)}(h:cA K N H kvs ak)(rv:RV K N H v w):cA K N H (iA kvs k v) (putK ak k w):=by
 have e:(kvs.any λkv=>decide (kv.1=k))=ak.any λkv=>decide (kv.1=k):=by
  have e1:(kvs.any λkv=>decide (kv.1=k))=(kvs.map Prod.fst).any λx=>decide (x=k):=by rw[any_map];rfl
  have e2:(ak.any λkv=>decide (kv.1=k))=(ak.map Prod.fst).any λx=>decide (x=k):=by rw[any_map];rfl
  rw[e1,e2,h.1]
 unfold iA putK;rw[e]
 split
 ·exact h.nK k rv
 ·exact h.app rv
end
def zt (K:Frag)(neg:Bool)(ty td:TE):TE:=λσ H Q=>ty σ H λy H1=>td σ H1 λx H2=>∃ a b ks kvs,x=.ref a/\y=.ref b/\H2 a=some (.dT kvs)/\aS K H2 b (map kV ks)/\oI K (map kV ks)/\Q (.bl (neg^^(cK kvs ks).isSome)) H2
def VT (K:Frag)(td ty:TE):TE:=λσ H Q=>td σ H λx H1=>ty σ H1 λy H2=>∃ a b ks kvs v,x=.ref a/\y=.ref b/\H2 a=some (.dT kvs)/\aS K H2 b (map kV ks)/\oI K (map kV ks)/\cK kvs ks=some v/\Q v H2
def VU (K:Frag)(td ty tv:TE):TS:=λD σ H=>tv σ H λv H1=>td σ H1 λx H2=>ty σ H2 λy H3=>∃ a b ks kvs,x=.ref a/\y=.ref b/\H3 a=some (.dT kvs)/\aS K H3 b (map kV ks)/\oI K (map kV ks)/\kvs.length<sizeLine/\D.nx σ (upd H3 a (.dT (putK kvs ks v)))
section
variable {X:Cx}{o i e value:Expr}{pos pos' BD:Pos}{td ty tv:TE}
theorem VW (hu:X.A.units+1<cLine)(hi:PE X i ty)(ho:PE X o td):PC X .In i o (zt X.K false ty td):=by
 intro pins s σ H Q I h;refine aH (hi pins s σ H _ I h) λiv s1 ⟨y,H1,I1,ry,q1⟩=>aH (ho pins s1 σ H1 _ I1 q1) λu s2 ⟨x,H2,I2,rx,a,b,ks,kvs,ex,ey,e,hb,nk,q2⟩=>?_;subst ex ey;obtain rfl:u=Value.ref a:=rx;exact BO hu I2 (dD.t e (qO I2 hb nk)) ry λs3 I3=>⟨.bl (cK kvs ks).isSome,H2,I3,rfl,by simpa using q2⟩
theorem VX (hu:X.A.units+1<cLine)(hi:PE X i ty)(ho:PE X o td):PC X .NotIn i o (zt X.K true ty td):=by
 intro pins s σ H Q I h;refine aH (hi pins s σ H _ I h) λiv s1 ⟨y,H1,I1,ry,q1⟩=>aH (ho pins s1 σ H1 _ I1 q1) λu s2 ⟨x,H2,I2,rx,a,b,ks,kvs,ex,ey,e,hb,nk,q2⟩=>?_;subst ex ey;obtain rfl:u=Value.ref a:=rx;exact BP hu I2 (dD.t e (qO I2 hb nk)) ry λs3 I3=>⟨.bl (!(cK kvs ks).isSome),H2,I3,rfl,by simpa using q2⟩
theorem VY (hu:X.A.units+1<cLine)(ho:PE X o td)(hi:PE X i ty)(hs:pQ i):PE X (.Subscript o i pos) (VT X.K td ty):=by
 intro pins s σ H Q I h;refine BR PySem.F.slot_dict_getitem.lookup hs (aH (ho pins s σ H _ I h) λu s1 ⟨x,H1,I1,rx,q1⟩=>aH (hi pins s1 σ H1 _ I1 q1) λiv s2 ⟨y,H2,I2,ry,a,b,ks,kvs,v,ex,ey,e,hb,nk,hv,q2⟩=>?_);subst ex ey;obtain rfl:u=Value.ref a:=rx;have g:dD H2 a (.ref b) (some v):=by rw[<- hv];exact dD.t e (qO I2 hb nk)
 exact⟨vP I2 g,vO hu I2 g ry λw' s3 I3 cO=>⟨v,H2,I3,cO,q2⟩⟩
theorem VZ (hu:X.A.units+1<cLine)(ho:PE X o td)(hi:PE X i ty)(hv:PE X value tv)(hs:swapsWith value (some (.Subscript o i pos')) pos.line X.env=pure false) :
  PS X (.Assign [.Subscript o i pos'] value pos) (VU X.K td ty tv):=by
 intro pins s σ H D I h;refine wpAny_Assign_Subscript (aH (hv pins s σ H _ I h) λr s1 ⟨v,H1,I1,rv,q1⟩=>aH (ho pins s1 σ H1 _ I1 q1) λu s2 ⟨x,H2,I2,rx,q2⟩=>aH (hi pins s2 σ H2 _ I2 q2) λiv s3 ⟨y,H3,I3,ry,a,b,ks,kvs,ex,ey,e,hb,nk,hl,q3⟩=>?_) hs;subst ex ey;obtain rfl:u=Value.ref a:=rx;exact BQ hu I3 (iQ.t e (qO I3 hb nk) hl) ry rv λs4 I4=>⟨σ,_,I4,q3⟩
end
def GL (i:Nat):US:=λE A=>∀ p,E.nx (put A i (.own p (.bQ [])))
def qT (neg:Bool)(j:Nat)(uk:UE):UE:=λA Q=>uk A λx A1=>∃ ks a kvs,m5 x=some ks/\jx ks=true/\A1.ae[j]?=some (some (.own a (.bQ kvs)))/\Q (.bl (neg^^(eM kvs ks).isSome)) A1
def GN (j:Nat)(uk:UE):UE:=λA Q=>∃ a kvs,A.ae[j]?=some (some (.own a (.bQ kvs)))/\uk A λx A1=>∃ ks z,A1.ae[j]?=some (some (.own a (.bQ kvs)))/\m5 x=some ks/\jx ks=true/\eM kvs ks=some z/\Q z A1
def GO (j:Nat)(ue uk:UE):US:=λE A=>ue A λv A1=>∃ a kvs,A1.ae[j]?=some (some (.own a (.bQ kvs)))/\uk A1 λx A2=>∃ ks,A2.ae[j]?=some (some (.own a (.bQ kvs)))/\m5 x=some ks/\jx ks=true/\kvs.length<=1000000/\E.nx (put A2 j (.own a (.bQ (iA kvs ks v))))
theorem V0 {i:Nat}{E:fo}{B:Addr->Prop}{ae:bp}{S:Option az}:GL i E ⟨B,ae,S⟩=∀ p,E.nx (put ⟨B,ae,S⟩ i (.own p (.bQ []))):=rfl
noncomputable def oM:af->Option (List (List Key×PV))
 |[]=>some []
 |.tup [p,x]::r=>match m5 p,oM r with
  |some k,some l=>some ((k,x)::l)
  |_,_=>none
 |_=>none
noncomputable def qU (l:List (List Key×PV)):List (List Key×PV):=l.foldl (λacc kv=>iA acc kv.1 kv.2) []
def GP (i:Nat)(ue:UE):US:=λE A=>ue A λr A1=>∃ xs l,r=.lst xs/\oM xs=some l/\l.length<=1000/\(∀ kv∈l,jx kv.1=true)/\∀ p,E.nx (put A1 i (.own p (.bQ (qU l))))
theorem GQ {K:Frag}{N:Addr->Prop}{H:Hp}(nk:NK K):∀{xs:af}{vs:Zv}{l:List (List Key×PV)},aI K N H xs vs->oM xs=some l->(∀ kv∈l,jx kv.1=true)->∃ kvs:List (List Key×V),Rl (y9 K H) kvs vs/\l.length=kvs.length/\∀(acc:List (List Key×PV))(acc':List (List Key×V)),cA K N H acc acc'->cA K N H (l.foldl (λacc kv=>iA acc kv.1 kv.2) acc) (kvs.foldl (λacc kv=>putK acc kv.1 kv.2) acc')
 |_,_,_,.nil,h,_=>by cases h;exact⟨[],.nil,rfl,λ_ _ h=>h⟩
 |x::xs,_,l,.cons r rs,h,g=>by
  unfold oM at h
  split at h
  ·rename_i heq;cases heq
  ·rename_i p y r' heq;cases heq
   split at h
   ·rename_i k l' hk hl;cases h;obtain⟨kvs,h1,h2,h3⟩:=GQ nk rs hl λkv dW=>g kv (by simp [dW])
    cases r with
    |tup g1 g2=>
     cases g2 with
     |cons q1 q2=>
      cases q2 with
      |cons q3 q4=>
       cases q4;rename_i v1 v2;obtain⟨b,rfl,hb⟩:=uv hk q1;exact⟨(k,v2)::kvs,.cons ⟨_,b,rfl,g1,hb,nk.no (g (k,y) (by simp))⟩ h1,by simp [h2],λacc acc' ha=>h3 _ _ (ha.put k q3)⟩
   ·cases h
  ·cases h
section
variable {X:Cx}{K:Frag}{e ke:Expr}{ue uk:UE}{p pos bD dB pos':Pos}{k i j:Nat}{x:Str}
theorem GR (nk:NK K){neg:Bool}{σ:St}{H:Hp}{Q:VK}(h:aD K (qT neg j uk) σ H Q):zt K neg (aD K uk) (vC j) σ H Q:=by
 obtain⟨A,P,R,h,c⟩:=h;refine⟨A,_,R,h,λy A1 w H1 p R1 S1 rv=>?_⟩;obtain⟨ks,a,kvs,hk,ok,hA,p⟩:=p;obtain⟨_,ev,rfl,nb,ak,h1,h2⟩:=R1.sl j _ hA;obtain⟨b,rfl,hb⟩:=uv hk rv;refine⟨_,ev,a,b,ks,ak,rfl,rfl,h1,hb,nk.no ok,?_⟩;rw[<- h2.isSome ks];exact c _ A1 _ H1 p R1 S1 (.bl _)
theorem V1 (hK:X.K=K)(nk:NK K)(hr:bz k X.A)(j:Nat)(hk:PE X ke (aD K uk))(hN:X.N[j]?=some x:=by rfl)(hv:di X.env.scope x:=by walk_at "v")(hd:(x==("__debug__":Str))=false:=by decide)(bA:(x==("__classdict__":Str))=false:=by decide)
  (hm:behindInMarks .In (.Name x bD)=false:=by rfl):PT X (.Compare ke [.In] [.Name x bD] pos) (liftT K (uB (qT false j uk))):=by
 subst hK;exact(Bb (VW (fR hr) hk (dO hN hv hd bA)) hm).mono (FL λσ H Q h=>GR nk h)
theorem V2 (hK:X.K=K)(nk:NK K)(hr:bz k X.A)(j:Nat)(hk:PE X ke (aD K uk))(hN:X.N[j]?=some x:=by rfl)(hv:di X.env.scope x:=by walk_at "v")(hd:(x==("__debug__":Str))=false:=by decide)(bA:(x==("__classdict__":Str))=false:=by decide)
  (hm:behindInMarks .NotIn (.Name x bD)=false:=by rfl):PT X (.Compare ke [.NotIn] [.Name x bD] pos) (liftT K (uB (qT true j uk))):=by
 subst hK;exact(Bb (VX (fR hr) hk (dO hN hv hd bA)) hm).mono (FL λσ H Q h=>GR nk h)
theorem V3 (hK:X.K=K)(nk:NK K)(hr:bz k X.A)(j:Nat)(hk:PE X ke (aD K uk))(hN:X.N[j]?=some x:=by rfl)(hv:di X.env.scope x:=by walk_at "v")(hd:(x==("__debug__":Str))=false:=by decide)(bA:(x==("__classdict__":Str))=false:=by decide)(hs:pQ ke:=by intro _ _;rfl) :
  PE X (.Subscript (.Name x bD) ke pos) (aD K (GN j uk)):=by
 subst hK;refine(VY (fR hr) (dO hN hv hd bA) hk hs).mono λσ H Q ⟨A,P,R,⟨a0,aaE,V4,h⟩,c⟩=>?_;obtain⟨_,ev,rfl,_,_⟩:=R.sl j _ V4;refine⟨_,ev,A,_,R,h,λy A1 w H1 p R1 S1 rv=>?_⟩;obtain⟨ks,z,hA,hk,ok,hz,p⟩:=p;obtain⟨_,_,e2,nb,ak,h1,h2⟩:=R1.sl j _ hA;obtain⟨b,rfl,hb⟩:=uv hk rv;rcases h2.look ks with ⟨q,_⟩|⟨z',u,q,hu,ru⟩
 ·rw[hz] at q;cases q
 ·rw[hz] at q;cases q;exact⟨_,b,ks,ak,u,rfl,rfl,h1,hb,nk.no ok,hu,c z A1 u H1 p R1 S1 ru⟩
theorem V5 (hK:X.K=K)(nk:NK K)(hr:bz k X.A)(j:Nat)(he:PE X e (aD K ue))(hk:PE X ke (aD K uk))(hN:X.N[j]?=some x:=by rfl)(hv:di X.env.scope x:=by walk_at "v")(hd:(x==("__debug__":Str))=false:=by decide)(bA:(x==("__classdict__":Str))=false:=by decide)
  (hs:swapsWith e (some (.Subscript (.Name x bD) ke pos)) dB.line X.env=pure false:=by rfl):PS X (.Assign [.Subscript (.Name x bD) ke pos] e dB) (bS K (GO j ue uk)):=by
 subst hK;refine(VZ (fR hr) (dO hN hv hd bA) hk he hs).mono λD σ H ⟨A,E,R,h,c⟩=>?_;refine⟨A,_,R,h,λv A1 w H1 p R1 S1 rv=>?_⟩;obtain⟨a,kvs,hA,p⟩:=p;obtain⟨_,ev,rfl,_,_⟩:=R1.sl j _ hA;refine⟨_,ev,A1,_,R1,p,λy A2 w2 H2 p2 R2 S2 rk=>?_⟩;obtain⟨ks,zu,hk,ok,aK,p2⟩:=p2;obtain⟨_,_,_,nb,ak,h1,h2⟩:=R2.sl j _ zu;obtain⟨b,rfl,hb⟩:=uv hk rk;have ll:=h2.len;have GS:=h2.put ks (rv.imp (R1.keep S2));have bt:cf a H2 (upd H2 a (.dT (putK ak ks w))):=λc o q n=>by rw[aB n];exact q
 have kp:eD X.K (AN A2) (AN A2) H2 (upd H2 a (.dT (putK ak ks w))):=⟨λc us q=>?_,λc o n q=>⟨n,by
  rw[aB λz=>n (by rw[z];exact .inr ⟨j,_,zu⟩)];exact q⟩⟩
 ·obtain⟨R3,S3⟩:=R2.Vh zu (c':=.bQ (iA kvs ks v)) bt ⟨_,aZ,GS.1,GS.2.imp kp⟩;exact⟨a,b,ks,ak,rfl,rfl,h1,hb,nk.no ok,Nat.lt_of_le_of_lt (by omega:ak.length<=1000000) (by decide),c.nx _ σ _ p2 R3 (S1.trans (S2.trans S3))⟩
 ·rcases q with (q|⟨o,q⟩)|q
  ·exact .inl (.inl (by rw[aB λz=>by rw[z,h1] at q;cases q];exact q))
  ·exact .inl (.inr ⟨o,by rw[aB λz=>by rw[z,h1] at q;cases q];exact q⟩)
  ·exact .inr q
theorem V6 (hN:X.N.Nodup)(hi:X.N[i]?=some x:=by rfl)(hx:Loc X.env.scope x:=by first|exact Or.inl rfl|exact Or.inr rfl)(hs:swapsWith (.Dict [] [] p) (some (.Name x pos')) pos.line X.env=pure false:=by rfl)
  (hf:X.fn x=true\/X.env.scope.names.lookup x=some .local:=by first|exact .inl rfl|exact .inr rfl|assumption):PS X (.Assign [.Name x pos'] (.Dict [] [] p) pos) (bS K (GL i)):=(fL hN hi hx Mr hs hf).mono λD σ H ⟨A,E,R,h,c⟩ q hq=>by
 obtain⟨R1,S1⟩:=R.sQ (i:=i) (c':=.bQ []) hq (d0 hq _) ⟨[],aZ,rfl,.nil⟩;exact c.nx _ _ _ (h q) R1 S1
theorem V7 (hK:X.K=K)(nk:NK K)(hr:bz k X.A)(hc:X.calm=true)(hN:X.N.Nodup)(hm:X.mg "dict"=none)(he:PE X e (aO K ue))(hi:X.N[i]?=some x:=by rfl)(hx:Loc X.env.scope x:=by first|exact Or.inl rfl|exact Or.inr rfl)(hg:Gl X "dict":=by rfl)(GU:starEach [e] X.env=[(false,eval e X.env)]:=by rfl)
  (hs:swapsWith (.Call (.Name "dict" p) [e] [] pos) (some (.Name x pos')) dB.line X.env=pure false:=by rfl)
  (hf:X.fn x=true\/X.env.scope.names.lookup x=some .local:=by first|exact .inl rfl|exact .inr rfl|assumption):PS X (.Assign [.Name x pos'] (.Call (.Name "dict" p) [e] [] pos) dB) (bS K (GP i ue)):=by
 subst hK;refine(fL hN hi hx (vN (U7 hc (by have:=hr.un;omega)) hg hm PyProof.Rows.boot_dict (bO he cq GU) (by decide) (by decide) GU) hs hf).mono λD σ H ⟨A,E,R,h,c⟩=>?_;refine⟨A,_,R,h,λr A1 v H1 p R1 S1 q1=>?_⟩;obtain⟨xs,l,rfl,hl,aK,ok,p⟩:=p;obtain⟨a,vs,rfl,h1,h2⟩:=q1.lst R1;obtain⟨kvs,g1,g2,g3⟩:=GQ nk h2 hl ok;refine⟨a,vs,kvs,rfl,h1,g1,by omega,λq hq=>?_⟩;obtain⟨R2,S2⟩:=R1.sQ (i:=i) (c':=.bQ (qU l)) hq (d0 hq _) ⟨_,aZ,g3 [] [] ⟨rfl,.nil⟩⟩;exact c.nx _ _ _ (p q) R2 (S1.trans S2)
end
mutual
noncomputable def fK:PV->Bool
 |.tup xs=>dH xs
 |.lst xs=>dH xs
 |.ah _=>false
 |_=>true
noncomputable def dH:af->Bool
 |[]=>true
 |x::xs=>fK x&&dH xs
end
theorem qV:∀{xs:af},(∀ x∈xs,fK x=true)->dH xs=true
 |[],_=>rfl
 |x::xs,h=>by
  unfold dH;rw[h x (by simp),qV λy hy=>h y (by simp [hy])];rfl
noncomputable def OC.nd:OC->Bool
 |.lst xs=>dH xs
 |.ah kvs=>dH (kvs.map Prod.fst)&&dH (kvs.map Prod.snd)
 |.ins _ _ fs=>dH (fs.map Prod.snd)
 |.bQ kvs=>dH (kvs.map Prod.snd)
noncomputable def Sl.nd:Option Sl->Bool
 |none=>true
 |some (.val x)=>fK x
 |some (.own _ c)=>c.nd
 |some (.peek _ c)=>c.nd
section
variable {K:Frag}{N N':Addr->Prop}{H H':Hp}
structure qW (K:Frag)(N N':Addr->Prop)(H H':Hp):Prop where
 t:∀ b vs,aS K H b vs->aS K H' b vs
 l:∀ b vs,¬ N b->H b=some (.lst vs)->¬ N' b/\H' b=some (.lst vs)
theorem RV.g9 (k:qW K N N' H H'){x:PV}{v:V}(h:RV K N H x v):fK x=true->RV K N' H' x v:=by
 refine RV.rec (motive_1:=λx v _=>fK x=true->RV K N' H' x v) (motive_2:=λxs vs _=>dH xs=true->aI K N' H' xs vs) (motive_3:=λ_ _ _=>True) (λ_=>.ai) (λb _=>.bl b) (λi _=>.int i) (λx _=>.str x) (λa _=>.raw a)
  (λh _ r n=>.tup (k.t _ _ h) (r n)) (λn h _ r m=>.lst (k.l _ _ n h).1 (k.l _ _ n h).2 (r m)) (λ_ _ _ _ n=>nomatch n) (λ_=>.nil) (λ_ _ r s n=>?_) trivial (λ_ _ _ _ _ _=>trivial) h
 have n':=Bool.and_eq_true_iff.mp n;exact .cons (r n'.1) (s n'.2)
theorem aI.g9 (k:qW K N N' H H'):∀{xs:af}{vs:Zv},aI K N H xs vs->dH xs=true->aI K N' H' xs vs
 |_,_,.nil,_=>.nil
 |_,_,.cons r s,n=>.cons (r.g9 k (Bool.and_eq_true_iff.mp n).1) (s.g9 k (Bool.and_eq_true_iff.mp n).2)
theorem bB.g9 (k:qW K N N' H H'):∀{xs:aN}{vs:List (V×V)},bB K N H xs vs->dH (xs.map Prod.fst)=true->dH (xs.map Prod.snd)=true->bB K N' H' xs vs
 |_,_,.nil,_,_=>.nil
 |_,_,.cons r r2 s,n,n2=>.cons (r.g9 k (Bool.and_eq_true_iff.mp n).1) (r2.g9 k (Bool.and_eq_true_iff.mp n2).1) (s.g9 k (Bool.and_eq_true_iff.mp n).2 (Bool.and_eq_true_iff.mp n2).2)
theorem GV (k:qW K N N' H H'){a:Addr}{c:OC}(e:∀ o,H a=some o->(∀ ob u,o≠.aY ob u)->H' a=some o)(h:fT K N H a c)(n:c.nd=true):fT K N' H' a c:=by
 cases c with
 |lst xs=>obtain⟨vs,h1,h2⟩:=h;exact⟨vs,e _ h1 (λ_ _ z=>nomatch z),h2.g9 k n⟩
 |ah xs=>obtain⟨vs,h1,h2⟩:=h;have n':=Bool.and_eq_true_iff.mp n;exact⟨vs,e _ h1 (λ_ _ z=>nomatch z),h2.g9 k n'.1 n'.2⟩
 |ins C dx xs=>obtain⟨vs,h1,h2⟩:=h;exact⟨vs,e _ h1 (λ_ _ z=>nomatch z),h2.1,h2.2.g9 k n⟩
 |bQ xs=>obtain⟨vs,h1,h2⟩:=h;exact⟨vs,e _ h1 (λ_ _ z=>nomatch z),h2.1,h2.2.g9 k n⟩
end
section
variable {X:Cx}{pins:aL}{σ:St}{H:Hp}{s:Shared}
theorem Inv.zv {a:Addr}{od:Obj}{ak:bh}(I:Inv X pins σ H s)(h:H a=some (.aY od (.dK ak)))(n:∀ o u,X.l8 a≠some (.aY o u)):Inv X pins σ (upd H a (.dK ak)) s where
 ok:=I.ok
 os:=I.os
 bare:=I.bare
 base:=⟨I.base.keep,I.base.slot,λb o q z y=>by
   have:=I.base.free b o q z y;rw[aB λe=>by rw[e,h] at this;cases this]
   exact this,I.base.there,λb xs q=>by
   have:=I.base.jJ b xs q;rw[aB λe=>by rw[e,h] at this;cases this]
   exact this,λb o u q=>by
   rw[aB λe=>n o u (by rw[<- e];exact q)]
   exact I.base.iL b o u q,λb ps q=>by
   obtain⟨more,this⟩:=I.base.jK b ps q
   exact⟨more,by
    rw[aB λe=>by rw[e,h] at this;cases this]
    exact this⟩⟩
 loc:=I.loc
 cell:=I.cell
 free:=by
  have:=I.free;rw[aB λe=>by rw[e,h] at this;cases this];exact this
 f7:=λx c q=>by
  have:=I.f7 x c q;rw[aB λe=>by rw[e,h] at this;cases this];exact this
 pin:=λp hp=>by
  obtain⟨h1,h2,h3⟩:=I.pin p hp
  exact⟨h1,by
   rw[aB λe=>by rw[e,h] at h2;cases h2]
   exact h2,h3⟩
 aw:=λb o q=>by
  by_cases e:b=a
  ·subst e;rw[aZ] at q;cases q;exact(I.aw b _ h).2
  ·rw[aB e] at q;refine(I.aw b o q).iK (λ_ _ _ z=>z) (λc z=>?_) (λc xs z=>?_) (λc xs z=>?_)
   ·rw[aB λe=>by rw[e,h] at z;cases z];exact z
   ·rw[aB λe=>by rw[e,h] at z;cases z];exact z
   ·rw[aB λe=>by rw[e,h] at z;cases z];exact z
 len:=I.len
end
section
variable {K:Frag}{H H2:Hp}{σ:St}{A:AS}
theorem Rep.zv {i:Nat}{a:Addr}{kvs:aN}(R:Rep K H σ A)(hi:A.ae[i]?=some (some (.own a (.ah kvs))))(R2:Rep K H2 σ (put A i (.val (.ah kvs))))(S2:ax A H (put A i (.val (.ah kvs))) H2)(hn:∀ s∈A.ae,Sl.nd s=true) :
  ∃ od ak,H2 a=some (.aY od (.dK ak))/\Rep K (upd H2 a (.dK ak)) σ A/\ax A H A (upd H2 a (.dK ak)):=by
 have li:i<A.ae.length:=(b8 hi).1;obtain⟨v,ev,rfl,nb,ws,hw,rk0⟩:=R.sl i _ hi
 have V8:(put A i (.val (.ah kvs))).ae[i]?=some (some (.val (.ah kvs))):=by
  show(A.ae.set i _)[i]?=_;rw[getElem?_set_self li]
 obtain⟨v2,GW,rv⟩:=R2.sl i _ V8;rw[ev] at GW;cases GW;have rv:RV K (AN (put A i (.val (.ah kvs)))) H2 (.ah kvs) (.ref a):=rv
 cases rv with
 |ah n2 dc V9=>
 obtain⟨ak,od,hf,rfl⟩:=dc
 have at':∀ j s,j≠i->A.ae[j]?=some (some s)->(put A i (.val (.ah kvs))).ae[j]?=some (some s):=λj s ne h=>by
  show(A.ae.set i _)[j]?=_;rw[getElem?_set_ne (Ne.symm ne)];exact h
 have an:∀ b,AN A b->AN (put A i (.val (.ah kvs))) b\/b=a:=λb h=>by
  rcases h with h|⟨j,c,h⟩
  ·exact .inl (.inl h)
  ·by_cases e:j=i
   ·subst e;rw[hi] at h;cases h;exact .inr rfl
   ·exact .inl (.inr ⟨j,c,at' j _ e h⟩)
 have kn:qW K (AN (put A i (.val (.ah kvs)))) (AN A) H2 (upd H2 a (.dK ak)):=⟨λb vs h=>by
   rcases h with h|h
   ·refine .inl ?_;rcases h with h|⟨o,h⟩
    ·exact .inl (by rw[aB λe=>by rw[e,hf] at h;cases h];exact h)
    ·exact .inr ⟨o,by rw[aB λe=>by rw[e,hf] at h;cases h];exact h⟩
   ·exact .inr h,λb vs n h=>by
   have nb:b≠a:=λe=>by rw[e,hf] at h;cases h
   exact⟨λz=>(an b z).elim n nb,by rw[aB nb];exact h⟩⟩
 have fr:∀ b o,H2 b=some o->(∀ ob u,o≠.aY ob u)->upd H2 a (.dK ak) b=some o:=λb o h n=>by
  rw[aB λe=>by rw[e,hf] at h;cases h;exact n _ _ rfl];exact h
 have mem:∀{j:Nat}{s:Sl},A.ae[j]?=some (some s)->Sl.nd (some s)=true:=λh=>hn _ (mem_of_getElem? h);refine⟨od,ak,hf,⟨R.len,λj s h=>?_,λb h=>?_,R.nd,λst h=>?_,R.pk⟩,⟨λb o h m=>?_,λ_ h=>.inl h,rfl,λb h=>?_,rfl⟩⟩
 ·by_cases e:j=i
  ·subst e;rw[hi] at h;cases h;have n':=Bool.and_eq_true_iff.mp (mem hi);exact⟨_,ev,rfl,nb,ak,aZ,V9.g9 kn n'.1 n'.2⟩
  ·obtain⟨v,e1,q⟩:=R2.sl j s (at' j s e h);refine⟨v,e1,?_⟩;have nd:=mem h
   cases s with
   |val x=>exact RV.g9 kn q nd
   |own b c=>exact⟨q.1,q.2.1,GV kn (fr b) q.2.2 nd⟩
   |peek b c=>exact⟨q.1,q.2.1,GV kn (fr b) q.2.2 nd⟩
 ·have:=R2.cW b h;by_cases e:b=a
  ·rw[e,aZ];intro z;cases z
  ·rw[aB e];exact this
 ·obtain⟨h1,h2,h3⟩:=R2.st st h;refine⟨h1,h2.upd (λe=>?_) (λps z=>by rw[hf] at z;cases z),?_⟩
  ·obtain⟨k',q⟩:=h2.dk;rw[<- e,hf] at q;cases q
  ·obtain⟨ns,l,⟨o,h⟩|h⟩:=h3
   ·exact⟨ns,l,.inl ⟨o,by rw[aB λe=>by rw[e,hf] at h;cases h];exact h⟩⟩
   ·exact⟨ns,l,.inr h⟩
 ·rw[aB λe=>m (by rw[e];exact .inl ⟨i,_,hi⟩)];exact S2.fr b o h m
 ·by_cases e:b=a
  ·rw[e,aZ];intro z;cases z
  ·rw[aB e];exact S2.dm b h
end
def GX (i:Nat)(ue:UE):UE:=λA Q=>∃ a kvs,A.ae[i]?=some (some (.own a (.ah kvs)))/\(∀ s∈A.ae,Sl.nd s=true)/\ue A λr A2=>(∃ n,r=.int n)/\A2=put A i (.val (.ah kvs))/\Q r A
section
variable {X:Cx}{K:Frag}{e:Expr}{ue:UE}
theorem GZ (i:Nat)(he:PE X e (aD K ue)):PE X e (aD K (GX i ue)):=λpins s σ H Q I ⟨A,P,R,⟨a,kvs,hi,hn,h⟩,c⟩=>by
 have nf:∀ o u,X.l8 a≠some (.aY o u):=λo u z=>by
  obtain⟨_,_,_,_,ws,hw,_⟩:=R.sl i _ hi;have:=I.base.iL a o u z;rw[hw] at this;cases this
 refine aH (he pins s σ H (λv H2=>∃ r od ak,H2 a=some (.aY od (.dK ak))/\(∃ n,r=PV.int n)/\RV K (AN A) H2 r v/\Q v (upd H2 a (.dK ak))) I ⟨A,_,R,h,λr A2 v H2 q R2 S2 rv=>?_⟩) λu s1 ⟨v,H1,I1,r,q⟩=>?_
 ·obtain⟨⟨n,rfl⟩,rfl,q⟩:=q;obtain⟨od,ak,hf,R3,S3⟩:=R.zv hi R2 S2 hn;cases rv;exact⟨_,od,ak,hf,⟨n,rfl⟩,.int n,c _ _ _ _ q R3 S3 (.int n)⟩
 ·obtain⟨_,od,ak,hf,_,_,q⟩:=q;exact⟨v,_,I1.zv hf nf,r,q⟩
end
mutual
noncomputable def toQ:PV->PyData
 |.ai=>.none
 |.bl b=>.bool b
 |.int i=>.int i
 |.str z=>.str z
 |.tup xs=>.tuple (gA xs)
 |.lst xs=>.list (gA xs)
 |.ah kvs=>.dict (g_ kvs)
 |.raw _=>.none
noncomputable def gA:af->List PyData
 |[]=>[]
 |x::xs=>toQ x::gA xs
noncomputable def g_:aN->List (PyData×PyData)
 |[]=>[]
 |(k,x)::xs=>(toQ k,toQ x)::g_ xs
end
mutual
noncomputable def iB:PV->Bool
 |.tup xs=>lE xs
 |.lst xs=>lE xs
 |.ah _=>false
 |.raw _=>false
 |_=>true
noncomputable def lE:af->Bool
 |[]=>true
 |x::xs=>iB x&&lE xs
end
noncomputable def lF:aN->Bool
 |[]=>true
 |(k,x)::xs=>iB k&&iB x&&lF xs
def lG (K:Frag):Prop:=∃ o,K.lookup sysModules=some o
theorem G0 {P:Program}{w:World}:∀{es:List DictEntry}{kvs:bh}{vs:List (Key×Value)},KV kvs vs->Pairs (ck P w) es vs->Vals (kvs.map λkv=>kV kv.1) (es.map (·.key))/\Vals (kvs.map λkv=>kv.2) (es.map (·.val))
 |[],kvs,vs,r,p=>by
  cases p;cases r;exact⟨.nil,.nil⟩
 |e::es,kvs,vs,r,p=>by
  cases p with
  |cons a a2 b=>
   cases r with
   |cons c d=>
    obtain⟨q1,q2⟩:=G0 d b;exact⟨.cons (xJ (by rw[c.1];exact a)) q1,.cons (by show RelV _ e.val;rw[a2];exact c.2) q2⟩
section
variable {X:Cx}{pins:aL}{σ:St}{H:Hp}{s:Shared}{N:Addr->Prop}
theorem Inv.G3 (I:Inv X pins σ H s)(h:lG X.K):H sysModules=none:=by
 obtain⟨o,h⟩:=h;exact(I.bs _ _ (I.ok.mod.rE _ _ h)).2
theorem G4:∀ kvs:aN,(g_ kvs).map (·.1)=gA (kvs.map Prod.fst)
 |[]=>rfl
 |(k,x)::r=>congrArg (toQ k::·) (G4 r)
theorem G5:∀ kvs:aN,(g_ kvs).map (·.2)=gA (kvs.map Prod.snd)
 |[]=>rfl
 |(k,x)::r=>congrArg (toQ x::·) (G5 r)
theorem G6 (I:Inv X pins σ H s)(sm:lG X.K){x:PV}{v:V}(h:RV X.K N H x v):∀{u:Value},RelV v u->iB x=true->∃ as,Reads s.heap u (toQ x) as/\sysModules∉as:=by
 have hs:=I.G3 sm;intro u hu hn
 refine RV.rec (motive_1:=λx v _=>∀{u:Value},RelV v u->iB x=true->∃ as,Reads s.heap u (toQ x) as/\sysModules∉as)
  (motive_2:=λxs vs _=>∀{us:aR},Vals vs us->lE xs=true->∃ as,ReadsAll s.heap us (gA xs) as/\sysModules∉as)
  (motive_3:=λ_ _ _=>True)
  ?_ ?_ ?_ ?_ ?_ ?_ ?_ ?_ ?_ ?_ trivial (λ_ _ _ _ _ _=>trivial) h hu hn
 ·intro u r _;cases (show u=Value.none from r);exact⟨_,.none,λz=>nomatch z⟩
 ·intro b u r _;cases (show u=Value.bool b from r);exact⟨_,.bool b,λz=>nomatch z⟩
 ·intro i u r _;obtain⟨t,rfl⟩:=r;exact⟨_,.int i t,λz=>nomatch z⟩
 ·intro z u r _;obtain⟨t,rfl⟩:=r;exact⟨_,.str z t,λz=>nomatch z⟩
 ·intro a u r p;cases p
 ·intro a xs vs sq rs ih u r p;cases r;obtain⟨its,rv,pl,_⟩:=I.tuple sq;obtain⟨o,e,c,n,d⟩:=(show s.heap.IsTuple a its.toArray from pl);obtain⟨as,q,nm⟩:=ih rv p;exact⟨_,.tuple e c d (by simpa using q),nm⟩
 ·intro a xs vs n h1 rs ih u r p;cases r;obtain⟨its,rv,pl,_⟩:=I.list (aC.of h1);obtain⟨o,e,c,n,d⟩:=pl.isList;obtain⟨as,q,nm⟩:=ih rv p;exact⟨_,.list e c d (by simpa using q),λz=>(mem_cons.mp z).elim (λz=>by rw[<- z,hs] at h1;cases h1) nm⟩
 ·intro a kvs ak n h1 rs ih u r p;cases p
 ·intro us r _;cases r;exact⟨_,.nil,λz=>nomatch z⟩
 ·intro x v xs vs r1 r2 V_ qd us r p
  cases r with
  |cons a b=>
   obtain⟨p1,p2⟩:=Bool.and_eq_true_iff.mp (show(iB x&&lE xs)=true from p);obtain⟨as,q1,n1⟩:=V_ a p1;obtain⟨bs,q2,n2⟩:=qd b p2;exact⟨_,.cons q1 q2,λz=>(mem_append.mp z).elim n1 n2⟩
end
section
variable {X:Cx}{pins:aL}{σ:St}{H:Hp}{s:Shared}{N:Addr->Prop}
theorem G7 (I:Inv X pins σ H s)(sm:lG X.K):∀{xs:aN}{vs:List (V×V)},bB X.K N H xs vs->∀{us ws:aR},Vals (vs.map Prod.fst) us->Vals (vs.map Prod.snd) ws->lF xs=true->(∃ as,ReadsAll s.heap us (gA (xs.map Prod.fst)) as/\sysModules∉as)/\∃ as,ReadsAll s.heap ws (gA (xs.map Prod.snd)) as/\sysModules∉as
 |_,_,.nil,_,_,r1,r2,_=>by
  cases r1;cases r2;exact⟨⟨_,.nil,λz=>nomatch z⟩,_,.nil,λz=>nomatch z⟩
 |(k,x)::xs,_,.cons c1 c2 c3,_,_,h1,h2,p=>by
  cases h1 with
  |cons a1 b1=>
   cases h2 with
   |cons a2 b2=>
    obtain⟨p1,p3⟩:=Bool.and_eq_true_iff.mp (show(iB k&&iB x&&lF xs)=true from p);obtain⟨p1,p2⟩:=Bool.and_eq_true_iff.mp p1;obtain⟨as,q1,n1⟩:=G6 I sm c1 a1 p1;obtain⟨bs,q2,n2⟩:=G6 I sm c2 a2 p2;obtain⟨⟨cs,q3,n3⟩,ds,q4,n4⟩:=G7 I sm c3 b1 b2 p3;exact⟨⟨_,.cons q1 q3,λz=>(mem_append.mp z).elim n1 n3⟩,_,.cons q2 q4,λz=>(mem_append.mp z).elim n2 n4⟩
theorem V' (I:Inv X pins σ H s)(sm:lG X.K){a:Addr}{kvs:aN}{ak:bh}(h1:Rd H a (.dK ak))(r:bB X.K N H kvs (ak.map λkv=>(kV kv.1,kv.2)))(p:lF kvs=true):∃ as,Reads s.heap (.ref a) (toQ (.ah kvs)) as/\sysModules∉as:=by
 have hs:=I.G3 sm;obtain⟨_,_,vs,rel,o,es,ep,e,c,d,_,pr,_⟩:=nL I.aw h1;obtain⟨q1,q2⟩:=G0 rel pr;obtain⟨⟨as,r1,n1⟩,bs,r2,n2⟩:=G7 I sm r (us:=es.toList.map (·.key)) (ws:=es.toList.map (·.val)) (by rw[map_map];exact q1) (by rw[map_map];exact q2) p;refine⟨_,.dict e c.1 d (by rw[G4];exact r1) (by rw[G5];exact r2),λz=>?_⟩;rcases mem_append.mp z with z|z
 ·rcases mem_cons.mp z with z|z
  ·rcases h1 with h1|⟨_,h1⟩<;>(rw[<- z,hs] at h1;cases h1)
  ·exact n1 z
 ·exact n2 z
end
def G8 (x z:PV):Prop:=∃ kvs,x=.ah kvs/\lF kvs=true/\(toQ (.ah kvs)).showable=true/\(toQ (.ah kvs)).depth<=100/\(toQ (.ah kvs)).shown.length<=sizeLine/\z=.str (toQ (.ah kvs)).shown
section
variable {X:Cx}{K:Frag}{e:Expr}{pos p:Pos}{ue:UE}{k:Nat}
theorem Wa (sm:lG X.K)(hr:bz k X.A):eA X (.builtin "repr") (λxs H Q=>∃(N:Addr->Prop)(q:Addr)(kvs:aN)(ak:bh),xs=[.ref q]/\Rd H q (.dK ak)/\bB X.K N H kvs (ak.map λkv=>(kV kv.1,kv.2))/\lF kvs=true/\(toQ (.ah kvs)).showable=true/\(toQ (.ah kvs)).depth<=100/\(toQ (.ah kvs)).shown.length<=sizeLine/\Q (.str (toQ (.ah kvs)).shown) H):=by
 intro pins s σ H xs us Q I r h;obtain⟨N,a,kvs,ak,rfl,h1,rv,p1,p2,p4,p5,q⟩:=h;obtain⟨u,rfl,ru⟩:=vals1 r;cases ru;obtain⟨as,rd,nm⟩:=V' I sm h1 rv p1;refine repr_of_reads' rd p2 (λ_=>nm) hr.gd (by have:=hr.un;omega) (λ_ _ e=>e) (λh' u tk kp=>⟨.str _,H,I.kept (t':=tk) kp,⟨u,rfl⟩,q⟩) p5
theorem G9 (sm:lG K)(hK:X.K=K)(hr:bz k X.A)(hm:X.mg "repr"=none)(he:PE X e (aO K ue))(hg:Gl X "repr":=by rfl)(hs:starEach [e] X.env=[(false,eval e X.env)]:=by rfl):PE X (.Call (.Name "repr" p) [e] [] pos) (aD K (u1 G8 ue)):=by
 subst hK;refine qu (Wa sm hr) ?_ PyProof.Rows.boot_repr hm he hg (hs:=hs);intro H A σ x v z Q R q1 g c;obtain⟨kvs,rfl,p1,p2,p4,p5,rfl⟩:=g;obtain⟨a,ak,rfl,h1,h2⟩:=q1.ah R;exact⟨AN A,a,_,_,rfl,h1,h2,p1,p2,p4,p5,c _ H (aQ.refl H) (.str _)⟩
end
inductive Ag where
 |v (x:PV)|o (c:OC)
abbrev GT:=List Ag->Option az->(PV->List OC->Option az->Prop)->Prop
noncomputable def Sl.ag:Sl->Ag
 |.val x=>.v x
 |.own _ c=>.o c
 |.peek _ c=>.o c
inductive Ot:List Sl->List OC->List Sl->Prop where
 |nil:Ot [] [] []
 |v {x:PV}{ss bw:List Sl}{cs:List OC}:Ot ss cs bw->Ot (.val x::ss) cs (.val x::bw)
 |o {a:Addr}{c c':OC}{ss bw:List Sl}{cs:List OC}:Ot ss cs bw->Ot (.own a c::ss) (c'::cs) (.own a c'::bw)
noncomputable abbrev AG (B:Addr->Prop)(ss:List Sl)(S:Option az):AS:=⟨B,ss.map some,S⟩
def m6 (K:Frag)(T:GT):Sp:=λvs H Q _=>∃ B ss S P,(∀ a c,Sl.peek a c∉ss)/\Rep K H (vs.map some) (AG B ss S)/\T (ss.map Sl.ag) S P /\
 ∀ r cs bw S' v H',P r cs S'->Ot ss cs bw->Rep K H' (vs.map some) (AG B bw S')->ax (AG B ss S) H (AG B bw S') H'->RV K (AN (AG B bw S')) H' r v->Q v H'
noncomputable def m7 (B:Addr->Prop)(N:ay)(ss:List Sl)(S:Option az):AS:=⟨B,ss.map some++replicate (N.length-ss.length) none,S⟩
def dI:List Sl->bp->(List OC->Prop)->Prop
 |[],_,k=>k []
 |.val _::ss,_::ae,k=>dI ss ae k
 |.own a _::ss,some (.own b c)::ae,k=>b=a/\dI ss ae λcs=>k (c::cs)
 |_,_,_=>False
def qX (ss:List Sl)(P:PV->List OC->Option az->Prop)(r:PV)(A:AS):Prop:=dI ss A.ae λcs=>P r cs A.S
noncomputable def oN (ss:List Sl)(P:PV->List OC->Option az->Prop):fo:=⟨λA=>qX ss P .ai A,λr A=>qX ss P r A,λ_ _=>False,λ_=>False,λ_=>False⟩
theorem Wb {ss:List Sl}{P:PV->List OC->Option az->Prop}{r:PV}{B:Addr->Prop}{ae:bp}{S:Option az}:qX ss P r ⟨B,ae,S⟩=dI ss ae λcs=>P r cs S:=rfl
theorem Wc {ae:bp}{k:List OC->Prop}:dI [] ae k=k []:=by rw[dI]
theorem Wd {x:PV}{ss:List Sl}{s:Option Sl}{ae:bp}{k:List OC->Prop}:dI (.val x::ss) (s::ae) k=dI ss ae k:=by rw[dI]
theorem We {a:Addr}{c c':OC}{ss:List Sl}{ae:bp}{k:List OC->Prop}:dI (.own a c::ss) (some (.own a c')::ae) k=dI ss ae λcs=>k (c'::cs):=by rw[dI];exact propext ⟨λh=>h.2,λh=>⟨rfl,h⟩⟩
theorem zx:∀{ss:List Sl}{ae:bp}{k:List OC->Prop},dI ss ae k->∃ cs bw,Ot ss cs bw/\k cs/\∀(i:Nat)(a:Addr)(c:OC),bw[i]?=some (.own a c)->ae[i]?=some (some (.own a c))
 |[],ae,k,h=>by
  rw[dI] at h;exact⟨[],[],.nil,h,λi a c e=>by simp at e⟩
 |.val x::ss,[],k,h=>by simp [dI] at h
 |.val x::ss,s::ae,k,h=>by
  rw[dI] at h;obtain⟨cs,bw,h1,h2,h3⟩:=zx h;refine⟨cs,.val x::bw,.v h1,h2,λi a c e=>?_⟩
  cases i with
  |zero=>simp at e
  |succ i=>exact h3 i a c (by simpa using e)
 |.own a c::ss,[],k,h=>by simp [dI] at h
 |.own a c::ss,none::ae,k,h=>by simp [dI] at h
 |.own a c::ss,some (.val _)::ae,k,h=>by simp [dI] at h
 |.own a c::ss,some (.peek _ _)::ae,k,h=>by simp [dI] at h
 |.own a c::ss,some (.own b c')::ae,k,h=>by
  rw[dI] at h;obtain⟨rfl,h⟩:=h;obtain⟨cs,bw,h1,h2,h3⟩:=zx h;refine⟨c'::cs,.own b c'::bw,.o h1,h2,λi a c e=>?_⟩
  cases i with
  |zero=>simp at e;simp [e.1,e.2]
  |succ i=>exact h3 i a c (by simpa using e)
 |.peek a c::ss,ae,k,h=>by cases ae<;>simp [dI] at h
section
variable {K:Frag}{H H1:Hp}{σ:St}{B:Addr->Prop}{ss bw:List Sl}{cs:List OC}{S S':Option az}
theorem dY {i:Nat}{s:Sl}:(ss.map some)[i]?=some (some s)↔ss[i]?=some s:=by
 rw[getElem?_map];cases ss[i]?<;>simp
theorem Ot.len (h:Ot ss cs bw):bw.length=ss.length:=by
 induction h with
 |nil=>rfl
 |v _ ih=>simp [ih]
 |o _ ih=>simp [ih]
theorem Ot.at (h:Ot ss cs bw){i:Nat}{s:Sl}(e:bw[i]?=some s):(∃ x,s=.val x/\ss[i]?=some (.val x))\/∃ a c c',s=.own a c'/\ss[i]?=some (.own a c):=by
 induction h generalizing i with
 |nil=>simp at e
 |v h ih=>
  cases i with
  |zero=>simp at e;exact .inl ⟨_,e.symm,rfl⟩
  |succ i=>simpa using ih (by simpa using e)
 |o h ih=>
  cases i with
  |zero=>simp at e;exact .inr ⟨_,_,_,e.symm,rfl⟩
  |succ i=>simpa using ih (by simpa using e)
theorem Ot.back (h:Ot ss cs bw){i:Nat}{a:Addr}{c:OC}(e:ss[i]?=some (.own a c)):∃ c',bw[i]?=some (.own a c'):=by
 induction h generalizing i with
 |nil=>simp at e
 |v h ih=>
  cases i with
  |zero=>simp at e
  |succ i=>simpa using ih (by simpa using e)
 |o h ih=>
  cases i with
  |zero=>simp at e;exact⟨_,by simp [e.1];rfl⟩
  |succ i=>simpa using ih (by simpa using e)
theorem Ot.own (h:Ot ss cs bw){a:Addr}:Own (bw.map some) a↔Own (ss.map some) a:=by
 constructor
 ·rintro⟨i,c,e⟩;rcases h.at (dY.mp e) with ⟨x,z,_⟩|⟨b,c1,c2,z,q⟩
  ·cases z
  ·cases z;exact⟨i,c1,dY.mpr q⟩
 ·rintro⟨i,c,e⟩;obtain⟨c',q⟩:=h.back (dY.mp e);exact⟨i,c',dY.mpr q⟩
theorem oO {ae:bp}{n i:Nat}{s:Sl}:(ae++replicate n none)[i]?=some (some s)↔ae[i]?=some (some s):=by
 by_cases hi:i<ae.length
 ·rw[getElem?_append_left hi]
 ·rw[getElem?_append_right (Nat.le_of_not_lt hi),getElem?_replicate,getElem?_eq_none (Nat.le_of_not_lt hi)]
  split<;>simp
theorem zy {ae:bp}{n:Nat}{a:Addr}:Own (ae++replicate n none) a↔Own ae a:=⟨fun⟨i,c,e⟩=>⟨i,c,oO.mp e⟩,fun⟨i,c,e⟩=>⟨i,c,oO.mpr e⟩⟩
theorem Rep.more {A:AS}{n:Nat}(R:Rep K H σ A):Rep K H (σ++replicate n none) ⟨A.B,A.ae++replicate n none,A.S⟩:=by
 have an:AN ⟨A.B,A.ae++replicate n none,A.S⟩=AN A:=funext λa=>propext ⟨λh=>h.imp id zy.mp,λh=>h.imp id zy.mpr⟩;refine⟨by simp [R.len],λi s e=>?_,R.cW,λi j a c c' e1 e2=>R.nd i j a c c' (oO.mp e1) (oO.mp e2),R.st,λi a c st e1 e2=>R.pk i a c st (oO.mp e1) e2⟩;obtain⟨v,e1,q⟩:=R.sl i s (oO.mp e);refine⟨v,by rw[getElem?_append_left (b8 e1).1];exact e1,?_⟩
 cases s with
 |val x=>show RV K (AN _) H x v;rw[an];exact q
 |own a c=>exact⟨q.1,q.2.1,by rw[an];exact q.2.2⟩
 |peek a c=>exact⟨q.1,q.2.1,by rw[an];exact q.2.2⟩
theorem Wf {vs:Zv}{A A1:AS}{a7:St}(np:∀ a c,Sl.peek a c∉ss)(R:Rep K H (vs.map some) (AG B ss S))(hB:A.B=B)(hS:A.S=S)(ho:∀ a,Own A.ae a↔Own (ss.map some) a)(ot:Ot ss cs bw)(uw:∀(i:Nat)(a:Addr)(c:OC),bw[i]?=some (.own a c)->A1.ae[i]?=some (some (.own a c)))
  (R1:Rep K H1 a7 A1)(S1:ax A H A1 H1):Rep K H1 (vs.map some) (AG B bw A1.S)/\ax (AG B ss S) H (AG B bw A1.S) H1/\eD K (AN A1) (AN (AG B bw A1.S)) H1 H1:=by
 have b1:A1.B=B:=S1.b.trans hB;have kf:∀ a,Own (bw.map some) a->Own A1.ae a:=λa ⟨i,c,e⟩=>⟨i,c,uw i a c (dY.mp e)⟩;have Wg:∀ a,AN (AG B bw A1.S) a->AN A1 a:=λa h=>h.elim (λz=>.inl (by rw[b1];exact z)) λz=>.inr (kf a z);have kw:eD K (AN A1) (AN (AG B bw A1.S)) H1 H1:=⟨λ_ _ h=>h,λa o n e=>⟨λz=>n (Wg a z),e⟩⟩;have St:ax (AG B ss S) H (AG B bw A1.S) H1:=⟨λa o h m=>S1.fr a o h λz=>m (z.elim (λy=>.inl ((ho a).mp y)) fun⟨st,y1,y2⟩=>.inr ⟨st,by rw[<- hS];exact y1,y2⟩),λa h=>.inl (ot.own.mp h),rfl,S1.dm,by rw[<- hS];exact S1.sd⟩;have kp:=R.keep St;refine⟨⟨?_,λi s e=>?_,λa h=>R1.cW a (by rw[b1];exact h),λi j a c c' e1 e2=>?_,λst h=>?_,λi a c st e1 _=>?_⟩,St,kw⟩
 ·have:=R.len;simp only[length_map] at this ⊢;rw[ot.len];exact this
 ·have e:=dY.mp e;rcases ot.at e with ⟨x,rfl,q⟩|⟨a,c,c',rfl,q⟩
  ·obtain⟨v,e1,rv⟩:=R.sl i _ (dY.mpr q);exact⟨v,e1,rv.imp kp⟩
  ·obtain⟨v,e1,rfl,nb,_⟩:=R.sl i _ (dY.mpr q);obtain⟨_,_,_,_,oc⟩:=R1.sl i _ (uw i a c' e);exact⟨_,e1,rfl,nb,oc.imp kw λ_ h=>h⟩
 ·rcases ot.at (dY.mp e1) with ⟨x,z,_⟩|⟨_,d,_,z,q⟩
  ·cases z
  ·cases z;rcases ot.at (dY.mp e2) with ⟨x,z,_⟩|⟨_,d2,_,z,q2⟩
   ·cases z
   ·cases z;exact R.nd i j _ _ _ (dY.mpr q) (dY.mpr q2)
 ·obtain⟨h1,h2⟩:=R1.st st h;exact⟨by rw[b1] at h1;exact h1,h2⟩
 ·rcases ot.at (dY.mp e1) with ⟨x,z,_⟩|⟨_,d,_,z,q⟩<;>cases z
end
section
variable {P:Program}{w:World}{K:Frag}{mg:bU}{base:Heap}
theorem fh.uy {x qual:Str}{st:Stmt}{f:Addr}{fd:FuncData}{N ps:ay}{k:Nat}{T:GT}(F:fh K x qual st f fd)(Sc:bH N ps (aT st))(len:∀ xs S P,T xs S P->xs.length=ps.length)
  (fO:∀(aF:Value)(A:Around)(outer:List Env)(s:Shared)(H:Hp)(E:XK),bz k (A.deeper (envOfC qual (aT st) s.heap.objs.size f aF)) ->
   ∃ u,cn (iq c_ P w K mg base N qual (aT st) f aF A outer s H E).jh (fg st) (bS K u)/\∀ B ss S P,T (ss.map Sl.ag) S P->(∀ a c,Sl.peek a c∉ss)->u (oN ss P) (m7 B N ss S)):cU P w K mg base c_ (k+1) f fd ps (m6 K T):=by
 have ll:∀{vs:Zv}{H:Hp}{B:Addr->Prop}{ss:List Sl}{S:Option az},Rep K H (vs.map some) (AG B ss S)->vs.length=ss.length:=λR=>by simpa using R.len
 refine F.ok Sc (λvs H Q E h=>?_) λaF A outer s H vs Q E hr h=>?_
 ·obtain⟨B,ss,S,P,_,R,g,_⟩:=h;rw[ll R,<- len _ _ _ g,length_map]
 obtain⟨B,ss,S,P,np,R,g,fin⟩:=h;obtain⟨u,hu,q⟩:=fO aF A outer s H E hr
 have R0:Rep K H (start N vs) (m7 B N ss S):=by
  unfold start m7;rw[ll R];exact R.more
 have G_:∀ r A1 a7 v H1,qX ss P r A1->Rep K H1 a7 A1->ax (m7 B N ss S) H A1 H1->RV K (AN A1) H1 r v->Q v H1:=λr A1 a7 v H1 h R1 S1 rv=>by
  obtain⟨cs,bw,ot,p,uw⟩:=zx h;obtain⟨R2,S2,kw⟩:=Wf np R (A:=m7 B N ss S) rfl rfl (λa=>zy) ot uw R1 S1;exact fin r cs bw A1.S v H1 p ot R2 S2 (rv.imp kw)
 refine⟨_,hu,m7 B N ss S,oN ss P,R0,q B ss S P g np,?_,?_,?_,?_,?_,?_⟩
 ·exact λA1 a7 H1 h R1 S1=>G_ _ A1 a7 _ H1 h R1 S1 .ai
 ·exact λr A1 a7 v H1 h R1 S1 rv=>G_ r A1 a7 v H1 h R1 S1 rv
 ·exact λr A1 a7 v H0 H1 h=>h.elim
 ·exact λi a c A1 a7 H1 hi lz h=>h.elim
 ·exact λA1 a7 H1 h=>h.elim
 ·exact λA1 a7 H1 h=>h.elim
theorem Df.uy {x:Str}{st:Stmt}{N ps:ay}{k:Nat}{T:GT}(D:Df K mg x st)(S:bH N ps (aT st))
  (bd:∀(kV doc pm:Value)(an:Option Addr)(aF ct:Value)(us:aR),us.length=ps.length->bindArgs (PySem.W.fnOf x x (jm st) (fg st) (aT st) .none kV doc pm an aF ct) ⟨us,[]⟩=pure (ps.zip us))
  (len:∀ xs S P,T xs S P->xs.length=ps.length)
  (fO:∀(f:Addr)(aF:Value)(A:Around)(outer:List Env)(s:Shared)(H:Hp)(E:XK),bz k (A.deeper (envOfC x (aT st) s.heap.objs.size f aF)) ->
   ∃ u,cn (iq c_ P w K mg base N x (aT st) f aF A outer s H E).jh (fg st) (bS K u)/\∀ B ss S P,T (ss.map Sl.ag) S P->(∀ a c,Sl.peek a c∉ss)->u (oN ss P) (m7 B N ss S)):Kn P w K mg base (k+1) x (m6 K T):=by
 obtain⟨f,fd,F,hm⟩:=D.ex;exact⟨f,fd,ps,F.uy S len (fO f),F.binds bd,F.kp,hm⟩
end
inductive AR where
 |v (x:PV)|n (i:Nat)
abbrev kg:=AS->(List AR->AS->Prop)->Prop
def Ha:kg:=λA Q=>Q [] A
def Hb (ue:UE)(ua:kg):kg:=λA Q=>ue A λx A1=>ua A1 λxs A2=>Q (.v x::xs) A2
def oP (s:Option (Option Sl))(k:OC->Prop):Prop:=match s with
 |some (some (.own _ c))=>k c
 |_=>False
def Hc (i:Nat)(ua:kg):kg:=λA Q=>oP A.ae[i]? λ_=>ua A λxs A1=>Q (.n i::xs) A1
inductive kh (K:Frag)(A:AS)(H:Hp)(σ:St):List AR->Zv->Prop where
 |nil:kh K A H σ [] []
 |v {x:PV}{v:V}{rs:List AR}{vs:Zv}:RV K (AN A) H x v->kh K A H σ rs vs->kh K A H σ (.v x::rs) (v::vs)
 |n {i:Nat}{v:V}{rs:List AR}{vs:Zv}:σ[i]?=some (some v)->kh K A H σ rs vs->kh K A H σ (.n i::rs) (v::vs)
def oQ (K:Frag)(u:kg):TA:=λσ H Q=>∃ A P,Rep K H σ A/\u A P/\∀ rs A1 vs H1,P rs A1->Rep K H1 σ A1->ax A H A1 H1->kh K A1 H1 σ rs vs->Q vs H1
noncomputable def AR.nm:AR->Option Nat
 |.v _=>none
 |.n i=>some i
def iD (ae:bp):List AR->(List Ag->Prop)->Prop
 |[],k=>k []
 |.v x::rs,k=>iD ae rs λas=>k (.v x::as)
 |.n i::rs,k=>match ae[i]? with
  |some (some (.own _ c))=>iD ae rs λas=>k (.o c::as)
  |_=>False
noncomputable def Wh (ae:bp)(i:Nat)(c:OC):bp:=match ae[i]? with
 |some (some (.own a _))=>ae.set i (some (.own a c))
 |_=>ae
noncomputable def d_:List AR->List OC->bp->bp
 |.n i::rs,c::cs,ae=>d_ rs cs (Wh ae i c)
 |.v _::rs,cs,ae=>d_ rs cs ae
 |_,_,ae=>ae
def uz (T:GT)(ws:Bool)(rs:List AR)(Q:PV->AS->Prop)(A:AS):Prop:=(rs.filterMap AR.nm).Nodup/\iD A.ae rs λas=>T as (if ws=true then A.S else none) λr cs S'=>Q r ⟨A.B,d_ rs cs A.ae,if ws=true then S' else A.S⟩
def Hd (T:GT)(ws:Bool)(ua:kg):UE:=λA Q=>ua A λrs A1=>uz T ws rs Q A1
section
variable {B:Addr->Prop}{ae:bp}{S:Option az}{ue:UE}{ua:kg}{QG:List AR->AS->Prop}{T:GT}{ws:Bool}{rs:List AR}{Q:PV->AS->Prop}{i:Nat}{k:List Ag->Prop}{x:PV}{a:Addr}{c c':OC}{cs:List OC}
theorem Wi:Ha ⟨B,ae,S⟩ QG=QG [] ⟨B,ae,S⟩:=rfl
theorem Wj:Hb ue ua ⟨B,ae,S⟩ QG=ue ⟨B,ae,S⟩ λx A1=>ua A1 λxs A2=>QG (.v x::xs) A2:=rfl
theorem Wk:Hc i ua ⟨B,ae,S⟩ QG=oP ae[i]? λ_=>ua ⟨B,ae,S⟩ λxs A1=>QG (.n i::xs) A1:=rfl
theorem Wl:Hd T ws ua ⟨B,ae,S⟩ Q=ua ⟨B,ae,S⟩ λrs A1=>uz T ws rs Q A1:=rfl
theorem Wm:uz T true rs Q ⟨B,ae,S⟩=((rs.filterMap AR.nm).Nodup/\iD ae rs λas=>T as S λr cs S'=>Q r ⟨B,d_ rs cs ae,S'⟩):=rfl
theorem Wn:uz T false rs Q ⟨B,ae,S⟩=((rs.filterMap AR.nm).Nodup/\iD ae rs λas=>T as none λr cs S'=>Q r ⟨B,d_ rs cs ae,S⟩):=rfl
theorem Wq:(AR.v x::rs).filterMap AR.nm=rs.filterMap AR.nm:=rfl
theorem Wr:(AR.n i::rs).filterMap AR.nm=i::rs.filterMap AR.nm:=rfl
theorem Ws:([]:List AR).filterMap AR.nm=[]:=rfl
theorem Wt:iD ae [] k=k []:=rfl
theorem Wu:iD ae (.v x::rs) k=iD ae rs λas=>k (.v x::as):=rfl
theorem Wv {k:OC->Prop}:oP (some (some (.own a c))) k=k c:=rfl
theorem Ww:iD ae (.n i::rs) k=oP ae[i]? λc=>iD ae rs λas=>k (.o c::as):=rfl
noncomputable def He (ae:bp)(i:Nat)(c:OC)(s:Option (Option Sl)):bp:=match s with
 |some (some (.own a _))=>ae.set i (some (.own a c))
 |_=>ae
theorem Hf:d_ (.n i::rs) (c::cs) ae=d_ rs cs (He ae i c ae[i]?):=rfl
theorem Hg:He ae i c (some (some (.own a c')))=ae.set i (some (.own a c)):=rfl
theorem Hh:d_ (.v x::rs) cs ae=d_ rs cs ae:=by cases cs<;>rfl
theorem zz:d_ [] cs ae=ae:=by cases cs<;>rfl
end
section
variable {X:Cx}{K:Frag}{k:Nat}{x:Str}{p pos:Pos}{e:Expr}{es:List Expr}{ue:UE}{ua:kg}{T:GT}{ws:Bool}
theorem Wx {s:Option (Option Sl)}{k:OC->Prop}(h:oP s k):∃ a c,s=some (some (.own a c))/\k c:=by
 unfold oP at h
 split at h
 ·exact⟨_,_,rfl,h⟩
 ·exact h.elim
theorem Hi:PA X [] (oQ K Ha):=cq.mono λσ H Q ⟨A,P,R,h,c⟩=>c [] A [] H h R (ax.refl A H) .nil
theorem zA (h1:PE X e (aD K ue))(h2:PA X es (oQ K ua))(hs:starEach (e::es) X.env=(false,eval e X.env)::starEach es X.env:=by rfl):PA X (e::es) (oQ K (Hb ue ua)):=
 (bO h1 h2 hs).mono λσ H Q ⟨A,P,R,h,c⟩=>⟨A,_,R,h,λx A1 v H1 p1 R1 S1 r1=>⟨A1,_,R1,p1,λxs A2 vs H2 p2 R2 S2 r2=>
  c (.v x::xs) A2 (v::vs) H2 p2 R2 (S1.trans S2) (.v (r1.imp (R1.keep S2)) r2)⟩⟩
theorem Hj (i:Nat)(h2:PA X es (oQ K ua))(hN:X.N[i]?=some x:=by rfl)(hv:di X.env.scope x:=by walk_at "v")(hd:(x==("__debug__":Str))=false:=by decide)(bA:(x==("__classdict__":Str))=false:=by decide)(hs:starEach (.Name x p::es) X.env=(false,eval (.Name x p) X.env)::starEach es X.env:=by rfl):PA X (.Name x p::es) (oQ K (Hc i ua)):=
 (bO (dO (i:=i) hN hv hd bA) h2 hs).mono λσ H Q ⟨A,P,R,h,c⟩=>by
  obtain⟨a,oc,e,h⟩:=Wx h;obtain⟨v,ev,_⟩:=R.sl i _ e;exact⟨v,ev,A,_,R,h,λxs A1 vs H1 p1 R1 S1 r1=>c (.n i::xs) A1 (v::vs) H1 p1 R1 S1 (.n ev r1)⟩
inductive e8 (ae:bp):List AR->List Sl->Prop where
 |nil:e8 ae [] []
 |v {x:PV}{rs:List AR}{ss:List Sl}:e8 ae rs ss->e8 ae (.v x::rs) (.val x::ss)
 |n {i:Nat}{a:Addr}{c:OC}{rs:List AR}{ss:List Sl}:ae[i]?=some (some (.own a c))->e8 ae rs ss->e8 ae (.n i::rs) (.own a c::ss)
theorem zB:∀{rs:List AR}{ae:bp}{k:List Ag->Prop},iD ae rs k->∃ ss,e8 ae rs ss/\k (ss.map Sl.ag)
 |[],ae,k,h=>⟨[],.nil,h⟩
 |.v x::rs,ae,k,h=>by
  obtain⟨ss,h1,h2⟩:=zB (rs:=rs) h;exact⟨.val x::ss,.v h1,h2⟩
 |.n i::rs,ae,k,h=>by
  unfold iD at h
  split at h
  ·rename_i a c e;obtain⟨ss,h1,h2⟩:=zB h;exact⟨.own a c::ss,.n e h1,h2⟩
  ·exact h.elim
theorem e8.at {ae:bp}{rs:List AR}{ss:List Sl}(h:e8 ae rs ss){j:Nat}{s:Sl}(e:ss[j]?=some s):(∃ x,s=.val x/\rs[j]?=some (.v x))\/∃ i a c,s=.own a c/\rs[j]?=some (.n i)/\ae[i]?=some (some (.own a c)):=by
 induction h generalizing j with
 |nil=>simp at e
 |v h ih=>
  cases j with
  |zero=>simp at e;exact .inl ⟨_,e.symm,rfl⟩
  |succ j=>simpa using ih (by simpa using e)
 |n q h ih=>
  cases j with
  |zero=>simp at e;exact .inr ⟨_,_,_,e.symm,rfl,q⟩
  |succ j=>simpa using ih (by simpa using e)
theorem e8.to {ae:bp}{rs:List AR}{ss:List Sl}(h:e8 ae rs ss){j i:Nat}(e:rs[j]?=some (.n i)):∃ a c,ss[j]?=some (.own a c)/\ae[i]?=some (some (.own a c)):=by
 induction h generalizing j with
 |nil=>simp at e
 |v h ih=>
  cases j with
  |zero=>simp at e
  |succ j=>simpa using ih (by simpa using e)
 |n q h ih=>
  cases j with
  |zero=>simp at e;subst e;exact⟨_,_,rfl,q⟩
  |succ j=>simpa using ih (by simpa using e)
theorem kh.at {A:AS}{H:Hp}{σ:St}{rs:List AR}{vs:Zv}(h:kh K A H σ rs vs):rs.length=vs.length/\(∀(j:Nat)(x:PV),rs[j]?=some (.v x)->∃ v,vs[j]?=some v/\RV K (AN A) H x v)/\∀(j i:Nat),rs[j]?=some (.n i)->∃ v,vs[j]?=some v/\σ[i]?=some (some v):=by
 induction h with
 |nil=>exact⟨rfl,λj x e=>by simp at e,λj x e=>by simp at e⟩
 |v r _ ih=>
  refine⟨by simp [ih.1],λj y e=>?_,λj i e=>?_⟩
  ·cases j with
   |zero=>simp at e;subst e;exact⟨_,rfl,r⟩
   |succ j=>simpa using ih.2.1 j y (by simpa using e)
  ·cases j with
   |zero=>simp at e
   |succ j=>simpa using ih.2.2 j i (by simpa using e)
 |n r _ ih=>
  refine⟨by simp [ih.1],λj y e=>?_,λj i e=>?_⟩
  ·cases j with
   |zero=>simp at e
   |succ j=>simpa using ih.2.1 j y (by simpa using e)
  ·cases j with
   |zero=>simp at e;subst e;exact⟨_,rfl,r⟩
   |succ j=>simpa using ih.2.2 j i (by simpa using e)
theorem e8.len {ae:bp}{rs:List AR}{ss:List Sl}(h:e8 ae rs ss):rs.length=ss.length:=by
 induction h with
 |nil=>rfl
 |v _ ih=>simp [ih]
 |n _ _ ih=>simp [ih]
theorem zC {rs:List AR}{j i:Nat}(e:rs[j]?=some (.n i)):i∈rs.filterMap AR.nm:=mem_filterMap.mpr ⟨_,mem_of_getElem? e,rfl⟩
theorem zD:∀{rs:List AR},(rs.filterMap AR.nm).Nodup->∀{j k i:Nat},rs[j]?=some (.n i)->rs[k]?=some (.n i)->j=k
 |[],_,j,k,i,e,_=>by simp at e
 |.v x::rs,nd,j,k,i,e1,e2=>by
  cases j with
  |zero=>simp at e1
  |succ j=>
   cases k with
   |zero=>simp at e2
   |succ k=>exact congrArg (·+1) (zD (rs:=rs) nd (i:=i) (by simpa using e1) (by simpa using e2))
 |.n x::rs,nd,j,k,i,e1,e2=>by
  have m8:=nodup_cons.mp (show(x::rs.filterMap AR.nm).Nodup from nd)
  cases j with
  |zero=>
   simp at e1;subst e1
   cases k with
   |zero=>rfl
   |succ k=>exact absurd (zC (by simpa using e2)) m8.1
  |succ j=>
   cases k with
   |zero=>
    simp at e2;subst e2;exact absurd (zC (by simpa using e1)) m8.1
   |succ k=>exact congrArg (·+1) (zD (rs:=rs) m8.2 (i:=i) (by simpa using e1) (by simpa using e2))
theorem zE:∀{rs:List AR}{ss bw:List Sl}{cs:List OC}{ae:bp},(rs.filterMap AR.nm).Nodup->e8 ae rs ss->Ot ss cs bw->(d_ rs cs ae).length=ae.length/\(∀(j i:Nat)(a:Addr)(c:OC),rs[j]?=some (.n i)->bw[j]?=some (.own a c)->(d_ rs cs ae)[i]?=some (some (.own a c)))/\∀ i:Nat,i∉rs.filterMap AR.nm->(d_ rs cs ae)[i]?=ae[i]?
 |[],_,_,[],ae,_,.nil,.nil=>⟨by rw[zz],λj i a c e=>by simp at e,λi _=>by rw[zz]⟩
 |[],_,_,_::_,ae,_,.nil,h=>by cases h
 |.n _::_,_,_,[],ae,_,.n _ _,h=>by cases h
 |.v x::rs,_,_,cs,ae,nd,.v h,.v o=>by
  rw[Hh];obtain⟨h1,h2,h3⟩:=zE (rs:=rs) nd h o;refine⟨h1,λj i a c e1 e2=>?_,h3⟩
  cases j with
  |zero=>simp at e1
  |succ j=>exact h2 j i a c (by simpa using e1) (by simpa using e2)
 |.n x::rs,_,_,c'::cs,ae,nd,.n (a:=b) (c:=c) (ss:=ss) q h,.o o=>by
  have m8:=nodup_cons.mp (show(x::rs.filterMap AR.nm).Nodup from nd);rw[Hf,q,Hg]
  have h':e8 (ae.set x (some (.own b c'))) rs ss:=by
   have:∀{rs:List AR}{ss:List Sl},x∉rs.filterMap AR.nm->e8 ae rs ss->e8 (ae.set x (some (.own b c'))) rs ss:=λn h=>by
    induction h with
    |nil=>exact .nil
    |v _ ih=>exact .v (ih n)
    |@n i _ _ rs _ q _ ih=>
     have n':x∉i::rs.filterMap AR.nm:=n;exact .n (by rw[getElem?_set_ne (λz=>n' (by rw[z];simp))];exact q) (ih λz=>n' (by simp [z]))
   exact this m8.1 h
  obtain⟨h1,h2,h3⟩:=zE (rs:=rs) m8.2 h' o;have hx:x<ae.length:=(b8 q).1;refine⟨by rw[h1,length_set],λj i a d e1 e2=>?_,λi hi=>?_⟩
  ·cases j with
   |zero=>
    simp at e1 e2;subst e1;rw[h3 x m8.1,getElem?_set_self hx,e2.1,e2.2]
   |succ j=>exact h2 j i a d (by simpa using e1) (by simpa using e2)
  ·have fD:i∉x::rs.filterMap AR.nm:=hi;rw[h3 i λz=>fD (by simp [z]),getElem?_set_ne λz=>fD (by simp [z])]
theorem Wy {A1:AS}{H1 H':Hp}{σ:St}{B':Addr->Prop}{vs:Zv}{rs:List AR}{ss bw:List Sl}{cs:List OC}{S0 S' S2:Option az}(R1:Rep K H1 σ A1)(nd:(rs.filterMap AR.nm).Nodup)(ar:e8 A1.ae rs ss)(ot:Ot ss cs bw)
  (eB:B'=λa=>AN A1 a/\¬ Own (ss.map some) a)(R':Rep K H' (vs.map some) (AG B' bw S'))(S1:ax (AG B' ss S0) H1 (AG B' bw S') H')(hS:(S0=A1.S/\S2=S')\/(S0=none/\S2=A1.S)) :
  Rep K H' σ ⟨A1.B,d_ rs cs A1.ae,S2⟩/\ax A1 H1 ⟨A1.B,d_ rs cs A1.ae,S2⟩ H'/\AN (AG B' bw S')=AN ⟨A1.B,d_ rs cs A1.ae,S2⟩:=by
 obtain⟨p1,p2,p3⟩:=zE nd ar ot
 have kf:∀ a,Own (ss.map some) a->Own A1.ae a:=λa ⟨j,c,e⟩=>by
  rcases ar.at (dY.mp e) with ⟨x,z,_⟩|⟨i,b,c',z,_,q⟩
  ·cases z
  ·cases z;exact⟨i,_,q⟩
 /- a slot behind: handed on,or as it was -/
 have slt:∀(j:Nat)(s:Sl),(d_ rs cs A1.ae)[j]?=some (some s)->(∃(k:Nat)(a:Addr)(c c':OC),rs[k]?=some (.n j)/\s=.own a c'/\bw[k]?=some (.own a c')/\A1.ae[j]?=some (some (.own a c)))\/(A1.ae[j]?=some (some s)/\∀ a c,s=.own a c->¬ Own (ss.map some) a):=λj s e=>by
  by_cases hj:j∈rs.filterMap AR.nm
  ·obtain⟨r,hr,er⟩:=mem_filterMap.mp hj
   cases r with
   |v x=>cases er
   |n i=>
    cases er;obtain⟨k,hk⟩:=getElem?_of_mem hr;obtain⟨a,c,q1,q2⟩:=ar.to hk;obtain⟨c',q3⟩:=ot.back q1;have q4:=p2 k j a c' hk q3;rw[q4] at e;cases e;exact .inl ⟨k,a,c,c',hk,rfl,q3,q2⟩
  ·rw[p3 j hj] at e;refine .inr ⟨e,λa c z=>?_⟩;subst z;rintro⟨k,c2,q⟩;rcases ar.at (dY.mp q) with ⟨x,z,_⟩|⟨i,b,c',z,hk,q2⟩
   ·cases z
   ·cases z;have:=R1.nd _ _ _ _ _ e q2;subst this;exact hj (zC hk)
 have zF:∀ a,Own (d_ rs cs A1.ae) a↔Own A1.ae a:=λa=>by
  constructor
  ·rintro⟨j,c,e⟩;rcases slt j _ e with ⟨_,_,c0,_,_,z,_,q⟩|⟨q,_⟩
   ·cases z;exact⟨j,_,q⟩
   ·exact⟨j,c,q⟩
  ·rintro⟨j,c,e⟩;by_cases hj:j∈rs.filterMap AR.nm
   ·obtain⟨r,hr,er⟩:=mem_filterMap.mp hj
    cases r with
    |v x=>cases er
    |n i=>
     cases er;obtain⟨k,hk⟩:=getElem?_of_mem hr;obtain⟨b,c2,q1,q2⟩:=ar.to hk;rw[e] at q2;cases q2;obtain⟨c',q3⟩:=ot.back q1;exact⟨j,c',p2 k j _ c' hk q3⟩
   ·exact⟨j,c,by rw[p3 j hj];exact e⟩
 have an:AN (AG B' bw S')=AN A1:=funext λa=>propext ⟨λh=>h.elim (λz=>by subst eB;exact z.1) λz=>.inr (kf a (ot.own.mp z)),λh=>by
  by_cases z:Own (ss.map some) a
  ·exact .inr (ot.own.mpr z)
  ·exact .inl (by subst eB;exact⟨h,z⟩)⟩
 have Hk:AN ⟨A1.B,d_ rs cs A1.ae,S2⟩=AN A1:=funext λa=>propext ⟨λh=>h.imp id (zF a).mp,λh=>h.imp id (zF a).mpr⟩
 have zG:S2.map az.d=A1.S.map az.d:=by
  rcases hS with ⟨e1,e2⟩|⟨_,e2⟩
  ·rw[e2,<- e1];exact S1.sd
  ·rw[e2]
 have mt:∀ a,Mt (AG B' ss S0) a->Mt A1 a:=λa h=>h.elim (λz=>.inl (kf a z)) fun⟨st,z,e⟩=>by
  rcases hS with ⟨e1,_⟩|⟨e1,_⟩
  ·exact .inr ⟨st,by rw[<- e1];exact z,e⟩
  ·have z':S0=some st:=z;rw[e1] at z';cases z'
 have St:ax A1 H1 ⟨A1.B,d_ rs cs A1.ae,S2⟩ H':=⟨λa o h m=>S1.fr a o h λz=>m (mt a z),λa h=>.inl ((zF a).mp h),rfl,S1.dm,zG⟩;have kp:=R1.keep St
 have ph:∀ a,A1.B a->¬ Own (ss.map some) a:=λa h z=>by
  obtain⟨j,c,e⟩:=kf a z;obtain⟨_,_,_,nb,_⟩:=R1.sl j _ e;exact nb h
 have Wz:∀ a,¬ A1.B a->¬ ∃ st,S0=some st/\st.d=a:=λa h ⟨st,z,e⟩=>by
  rcases hS with ⟨e1,_⟩|⟨e1,_⟩
  ·exact h (by rw[<- e];exact(R1.st st (by rw[<- e1];exact z)).1)
  ·rw[e1] at z;cases z
 refine⟨⟨by rw[R1.len];exact p1.symm,λj s e=>?_,λa h=>S1.dm a (R1.cW a h),λi j a c c' e1 e2=>?_,λst h=>?_,λi a c st e1 e2=>?_⟩,St,an.trans Hk.symm⟩
 ·rcases slt j s e with ⟨k,a,c,c',hk,rfl,q1,q2⟩|⟨q,n⟩
  ·obtain⟨v,ev,rfl,nb,_⟩:=R1.sl j _ q2;obtain⟨_,_,_,_,oc⟩:=R'.sl k _ (dY.mpr q1);refine⟨_,ev,rfl,nb,?_⟩;rw[Hk,<- an];exact oc
  ·obtain⟨v,ev,qq⟩:=R1.sl j s q;refine⟨v,ev,?_⟩
   cases s with
   |val x=>exact qq.imp kp
   |own a c=>exact⟨qq.1,qq.2.1,qq.2.2.imp kp λo h=>S1.fr a o h λm=>m.elim (n a c rfl) (Wz a qq.2.1)⟩
   | peek a c=>exact⟨qq.1,qq.2.1,qq.2.2.imp kp λo h=>S1.fr a o h λm=>m.elim (ph a qq.2.1) fun⟨st,z,e⟩=>by
     rcases hS with ⟨e1,_⟩|⟨e1,_⟩
     ·exact R1.pk j a c st q (by rw[<- e1];exact z) e.symm
     ·have z':S0=some st:=z
      rw[e1] at z';cases z'⟩
 ·have w1:∃ d,A1.ae[i]?=some (some (.own a d)):=by
   rcases slt i _ e1 with ⟨_,_,c0,_,_,z,_,q⟩|⟨q,_⟩
   ·cases z;exact⟨_,q⟩
   ·exact⟨_,q⟩
  have w2:∃ d,A1.ae[j]?=some (some (.own a d)):=by
   rcases slt j _ e2 with ⟨_,_,c0,_,_,z,_,q⟩|⟨q,_⟩
   ·cases z;exact⟨_,q⟩
   ·exact⟨_,q⟩
  obtain⟨_,w1⟩:=w1;obtain⟨_,w2⟩:=w2;exact R1.nd _ _ _ _ _ w1 w2
 ·rcases hS with ⟨e1,e2⟩|⟨e1,e2⟩
  ·obtain⟨zH,z1,z2⟩:=la zG ⟨st,h,rfl⟩;have h':S2=some st:=h;obtain⟨h1,h2⟩:=R'.st st (by show S'=_;rw[<- e2];exact h');exact⟨by show A1.B st.d;rw[<- z2];exact(R1.st zH z1).1,h2⟩
  ·have h':A1.S=some st:=by rw[<- e2];exact h
   obtain⟨h1,h2,h3⟩:=R1.st st h'
   have zI:∀ b o,H1 b=some o->¬ Own (ss.map some) b->H' b=some o:=λb o q n=>S1.fr b o q λm=>m.elim n fun⟨st,z,_⟩=>by
    have z':S0=some st:=z;rw[e1] at z';cases z'
   have nk:∀ b o,H1 b=some o->(∀ vs,o≠.lst vs)->(∀ vs,o≠.dK vs)->(∀ C dx vs,o≠.ins C dx vs)->(∀ vs,o≠.dT vs)->¬ Own (ss.map some) b:=λb o q n1 n2 n3 n4 z=>by
    rcases R1.iZ (kf b z) with ⟨y,q2⟩|⟨y,q2⟩|⟨_,_,y,q2⟩|⟨y,q2⟩<;>(rw[q2] at q;cases q)
    ·exact n1 _ rfl
    ·exact n2 _ rfl
    ·exact n3 _ _ _ rfl
    ·exact n4 _ rfl
   obtain⟨t,l,w,e,r⟩:=h2.ex;refine⟨h1,⟨⟨t,l,w,zI _ _ e (ph _ h1),r⟩,λT o z=>⟨zI _ _ (h2.tb T o z).1 (nk _ _ (h2.tb T o z).1 (λ_ z=>nomatch z) (λ_ z=>nomatch z) (λ_ _ _ z=>nomatch z) (λ_ z=>nomatch z)),(h2.tb T o z).2⟩⟩,?_⟩;exact h3.jn λo u h3=>zI _ _ h3 (nk _ _ h3 (λ_ z=>nomatch z) (λ_ z=>nomatch z) (λ_ _ _ z=>nomatch z) (λ_ z=>nomatch z))
 ·have WA:A1.ae[i]?=some (some (.peek a c)):=by
   rcases slt i _ e1 with ⟨_,_,c0,_,_,z,_,q⟩|⟨q,_⟩
   ·cases z
   ·exact q
  obtain⟨zH,z1,z2⟩:=la zG ⟨st,e2,rfl⟩;rw[<- z2];exact R1.pk i a c zH WA z1
theorem WB {A1:AS}{H1:Hp}{σ:St}{vs:Zv}{rs:List AR}{ss:List Sl}(R1:Rep K H1 σ A1)(nd:(rs.filterMap AR.nm).Nodup)(ar:e8 A1.ae rs ss)(av:kh K A1 H1 σ rs vs)(ws:Bool) :
  Rep K H1 (vs.map some) (AG (λa=>AN A1 a/\¬ Own (ss.map some) a) ss (if ws=true then A1.S else none)):=by
 have kf:∀ a,Own (ss.map some) a->Own A1.ae a:=λa ⟨j,c,e⟩=>by
  rcases ar.at (dY.mp e) with ⟨x,z,_⟩|⟨i,b,c',z,_,q⟩
  ·cases z
  ·cases z;exact⟨i,_,q⟩
 have an:AN (AG (λa=>AN A1 a/\¬ Own (ss.map some) a) ss (if ws=true then A1.S else none))=AN A1:=funext λa=>propext ⟨λh=>h.elim (λz=>z.1) λz=>.inr (kf a z),λh=>by
  by_cases z:Own (ss.map some) a
  ·exact .inr z
  ·exact .inl ⟨h,z⟩⟩
 obtain⟨a1,a2,a3⟩:=av.at;refine⟨by rw[length_map,length_map,<- a1,ar.len],λj s e=>?_,λa h=>R1.ql a h.1,λi j a c c' e1 e2=>?_,λst h=>?_,λi a c st e1 e2=>?_⟩
 ·rcases ar.at (dY.mp e) with ⟨x,rfl,q⟩|⟨i,a,c,rfl,q,q2⟩
  ·obtain⟨v,ev,rv⟩:=a2 j x q;refine⟨v,by rw[getElem?_map,ev];rfl,?_⟩;show RV K (AN _) H1 x v;rw[an];exact rv
  ·obtain⟨v,ev,es⟩:=a3 j i q;obtain⟨v',qP,rfl,nb,oc⟩:=R1.sl i _ q2;rw[es] at qP;cases qP;refine⟨_,by rw[getElem?_map,ev];rfl,rfl,λz=>z.2 ⟨j,c,e⟩,?_⟩;rw[an];exact oc
 ·rcases ar.at (dY.mp e1) with ⟨x,z,_⟩|⟨i1,b1,c1,z,k1,q1⟩
  ·cases z
  ·cases z;rcases ar.at (dY.mp e2) with ⟨x,z,_⟩|⟨i2,b2,c2,z,k2,q2⟩
   ·cases z
   ·cases z;have:=R1.nd _ _ _ _ _ q1 q2;subst this;exact zD nd k1 k2
 ·cases ws with
  |false=>cases h
  |true=>
   have h':A1.S=some st:=h;obtain⟨h1,h2,h3⟩:=R1.st st h';refine⟨⟨.inl h1,λz=>?_⟩,h2,h3⟩;obtain⟨j,c,e⟩:=kf _ z;obtain⟨_,_,_,nb,_⟩:=R1.sl j _ e;exact nb h1
 ·rcases ar.at (dY.mp e1) with ⟨x,z,_⟩|⟨_,_,_,z,_,_⟩<;>cases z
theorem Hl (ws:Bool)(hK:X.K=K)(F:Kn X.prog X.w X.K X.mg X.base k x (m6 K T))(hr:bz k X.A)(ha:PA X (e::es) (oQ K ua))(hg:Gl X x:=by rfl)(fN:(x==("__debug__":Str))=false:=by decide)(he:starEach (e::es) X.env=(false,eval e X.env)::starEach es X.env:=by rfl)(dC:(backTo pos (starEach es X.env)).any (·.1)=false:=by rfl) :
  PE X (.Call (.Name x p) (e::es) [] pos) (aD K (Hd T ws ua)):=by
 obtain⟨f,fd,ps,F1,b,kp,hm⟩:=F.ex;refine(ip F1 hr hg hm kp b .nil iu ha fN he dC).mono λσ H Q ⟨A,P,R,h,c⟩=>⟨A,_,R,h,λrs A1 vs H1 p R1 S1 av=>?_⟩;obtain⟨nd,ag⟩:=p;obtain⟨ss,ar,t⟩:=zB ag;rw[append_nil];refine⟨_,ss,_,_,λa c z=>?_,WB R1 nd ar av ws,t,λr cs bw S' v H' q ot R' S2 rv=>?_⟩
 ·obtain⟨j,hj⟩:=getElem?_of_mem z;rcases ar.at hj with ⟨x,z,_⟩|⟨_,_,_,z,_,_⟩<;>cases z
 ·obtain⟨R3,S3,an⟩:=Wy (S2:=if ws=true then S' else A1.S) R1 nd ar ot rfl R' S2 (by cases ws with|true=>exact .inl ⟨rfl,rfl⟩|false=>exact .inr ⟨rfl,rfl⟩);exact c r _ v H' q R3 (S1.trans S3) (by rw[<- an];exact rv)
end
section
variable {X:Cx}{K:Frag}{k:Nat}{x m f:Str}{pn pos apos:Pos}{T:MT}{C:Addr}
end
theorem zJ {ss:List Sl}{x:PV}{as:List Ag}(e:ss.map Sl.ag=.v x::as)(np:∀ a c,Sl.peek a c∉ss):∃ bw,ss=.val x::bw/\bw.map Sl.ag=as/\∀ a c,Sl.peek a c∉bw:=by
 cases ss with
 |nil=>cases e
 |cons s ss=>
  cases s with
  |val y=>simp [Sl.ag] at e;exact⟨ss,by rw[e.1],e.2,λa c z=>np a c (by simp [z])⟩
  |own a c=>simp [Sl.ag] at e
  |peek a c=>simp [Sl.ag] at e
theorem Hm {ss:List Sl}{c:OC}{as:List Ag}(e:ss.map Sl.ag=.o c::as)(np:∀ a c,Sl.peek a c∉ss):∃ a bw,ss=.own a c::bw/\bw.map Sl.ag=as/\∀ a c,Sl.peek a c∉bw:=by
 cases ss with
 |nil=>cases e
 |cons s ss=>
  cases s with
  |val y=>simp [Sl.ag] at e
  |own a c=>simp [Sl.ag] at e;exact⟨a,ss,by rw[e.1],e.2,λa c z=>np a c (by simp [z])⟩
  |peek a c=>exact absurd (by simp) (np a c)
theorem Hn {ss:List Sl}(e:ss.map Sl.ag=[]):ss=[]:=map_eq_nil_iff.mp e
theorem WC {ss:List Sl}{P:PV->List OC->Option az->Prop}{A:AS}:(oN ss P).nx A=qX ss P .ai A:=rfl
end L2
namespace b0
open PySem L2
noncomputable def hJ (B:Bs)(k:Int):List Nat:=B.x.cps.toList.take B.y.toNat++((97+(B.z+k) % 26).toNat::B.x.cps.toList.drop B.y.toNat)
noncomputable def wordOf (B:Bs)(k:Int):Str:=⟨(hJ B k).toArray⟩
theorem WD:∀ i:Fin 26,("abcdefghijklmnopqrstuvwxyz":Str).cps[i.val]?=some (97+i.val):=by decide +kernel
theorem WE {r:Int}(h0:0<=r)(h1:r<26):("abcdefghijklmnopqrstuvwxyz":Str).cps[r.toNat]?=some ((97+r).toNat):=by
 have q:=WD ⟨r.toNat,by omega⟩;rw[q]
 congr 1
 show 97+r.toNat=_;omega
theorem WG {B:Bs}(h:gK B){k:Int}:(Txt.slice B.x none (some B.y)++(⟨#[(97+(B.z+k) % 26).toNat]⟩:Str))++Txt.slice B.x (some B.y) none=wordOf B k:=by
 obtain⟨_,_,_,_,h1,h2⟩:=h;have hl:(B.x.length:Int)=(B.x.cps.toList.length:Int):=by rw[Array.length_toList];rfl
 have e1:Txt.slice B.x none (some B.y)=⟨((B.x.cps.toList.drop 0).take (B.y-0).toNat).toArray⟩:=StrLaws.sliceText_to ⟨h1,by omega⟩;have e2:Txt.slice B.x (some B.y) none=⟨((B.x.cps.toList.drop B.y.toNat).take ((B.x.cps.toList.length:Int)-B.y).toNat).toArray⟩:=StrLaws.sliceText_from ⟨h1,by omega⟩;rw[e1,e2];refine congrArg Str.mk ?_;show(((B.x.cps.toList.drop 0).take (B.y-0).toNat).toArray++#[(97+(B.z+k) % 26).toNat])++((B.x.cps.toList.drop B.y.toNat).take ((B.x.cps.toList.length:Int)-B.y).toNat).toArray=(hJ B k).toArray;have e3:(B.x.cps.toList.drop B.y.toNat).take ((B.x.cps.toList.length:Int)-B.y).toNat=B.x.cps.toList.drop B.y.toNat:=take_of_length_le (by rw[length_drop];omega);rw[e3,Int.sub_zero,drop_zero];apply Array.toList_inj.mp;simp [hJ]
def uA (x:PV)(st:az)(Q:PV->az->Prop):Prop:=∃ k:Int,x=.int k/\gK st.b/\Q (.str (wordOf st.b k)) st
theorem WH {k:Int}{d a:Addr}{n:Nat}{b:Bs}{Q:PV->AS->Prop}{B:Addr->Prop}{ae:bp}:lD (uA (.int k)) ⟨d,a,n,b⟩ Q B ae=(gK b/\Q (.str (wordOf b k)) ⟨B,ae,some ⟨d,a,n,b⟩⟩):=by
 unfold lD uA;exact propext ⟨fun⟨_,e,h⟩=>by cases e;exact h,λh=>⟨_,rfl,h⟩⟩
local macro_rules|`(tactic| w_on) => `(tactic| try simp only [↓WH, Uh, tZ, Sj, So, Sq, Ts, ↓Ui, ↓U8, ↓U9, U_, U', ↓Vf, Vg, ↓Vo, Vp, ↓Vr, ↓Vs, Vt, Vu, Vm, ↓V0, ↓Vi, ↓Vk, ↓Wi, ↓Wj, ↓Wk, ↓Wl, ↓Wm, ↓Wn, Wq, Wr, Ws, Wt, Wu, Ww, Wv, Hf, Hg, Hh, zz, ↓WC, ↓Wb, Wc, Wd, We, ↓VR, ↓VD, ↓RT, ↓RU, ↓RW, ↓RX, ↓RZ, ↓R5, ↓R6, ↓R7, ↓R8, ↓Sg, ↓Sk, ↓Sr, ↓Ss, ↓Su, ↓Sv, ↓Sw, ↓Sz, ↓SA, ↓SD, ↓SE, ↓SF, ↓SG, ↓SH, ↓SI, ↓SJ, ↓SM, ↓SN, ↓SO, ↓SQ, ↓SS, ↓SU, ↓SW, ↓Ta, ↓Tb, ↓Tc, ↓Td, ↓Te, ↓Tf, ↓Ti, ↓Tj, ↓Tn, ↓To, ↓Tt, ↓Tu, ↓Tw, ↓Tx, ↓TC, ↓TF, ↓TL, ↓TQ, ↓T9, ↓T_, ↓Ua, ↓Ub, R9, R_, Sd, Se, Sf, Sh, Si, Sm, Sn, SR, SX, S9, SY, S7, S8, S_, Tg, Th, Tp, Tq, Tv, Tz, TB, TH, TJ, FZ, TK, TR, TU, TV, T8, RC, RO, RP, RQ, exists_eq_left', yO, yP, RS, dq, n_, Sl.sT, tQ, replicate, map_cons, map_nil, cons_append, nil_append, Option.join_some, Option.map_some, getElem?_cons_zero, getElem?_cons_succ, set_cons_zero, set_cons_succ, true_and, and_self, Bool.false_eq_true, Bool.not_true, Bool.not_false, Option.some.injEq, PV.bl.injEq, PV.int.injEq, PV.str.injEq, PV.tup.injEq, PV.lst.injEq, Sl.own.injEq, Sl.val.injEq, OC.lst.injEq, OC.ah.injEq, length_cons, length_nil, Q6, Q7, Q8, Q9, Q_, Rf, Rg, Q0, Q1, Q2, Q3, Rh, Ri, Rj, Rk, Rm, Q5, Ro, Rp, Rq, Rr, Rt, Ru, Rv, Rw, Ry, RL, RM, RB, TY, TZ, RD, RE, RF, RG, RH, RI, qJ, qK, qL, yU, Bool.false_xor, Bool.true_xor, Int.reduceBEq, Int.reduceLT, Int.reduceLE, Nat.reduceAdd, Nat.reduceLeDiff, map_map, Function.comp_def])
structure fv where
 n:Str
 k:Str
 m:Bool
structure Tab where
 n:Str
 cs:List fv
 ks:List (ay)
structure cY where
 t:Str
 cs:ay
 g:Str
 k:ay
noncomputable def pC (c:fv):PV:=.tup [.str c.n,.str c.k,.bl c.m]
noncomputable def pS (l:ay):PV:=.tup (l.map PV.str)
noncomputable def pT (t:Tab):PV:=.tup [.str t.n,.tup (t.cs.map pC),.tup (t.ks.map pS)]
noncomputable def pP (p:cY):PV:=.tup [.str p.t,pS p.cs,.str p.g,pS p.k]
theorem oR {n:Nat}(h:n<=900):n<=1000000:=cC h (by decide)
theorem WI {m:Nat}{x:PV}{n:Bool}(d:Dp m x)(l:m<=80):fI n x x (.bl (!n)):=by
 unfold fI;refine⟨⟨m,l,d,d⟩,?_⟩;rw[yd m x d];cases n<;>rfl
noncomputable def wf (B:Bs)(i:Nat):Str:=wordOf B (i:Int)
variable {P:Program}{w:World}{K:Frag}{mg:bU}{base:Heap}
theorem uD:bH ["_law_state","_law_number","_law_letters","_law_base","_law_spot"] ["_law_state","_law_number"] (aT w9):=by walk_at "s"
theorem WJ {k:Nat}(D:Df K mg "_law_word" w9)(B:Bt mg):Kn P w K mg base (k+1) "_law_word" (spS K false (c7 uA)):=by
 refine D.i4 uD (λ_ _ _ _ _ _=>dj λ_ _=>rfl) (λ_ _ _=>c7.len) (by decide) (λf aF A outer s H E hr=>⟨_,(sc (bI (i:=2) uD.nd vs)
  (sc (bI (i:=3) uD.nd (yF hr 0 6 (by decide) (by decide) rfl))
  (sc (bI (i:=4) uD.nd (yF hr 0 8 (by decide) (by decide) rfl))
  (s1 (bx (gU rfl (qv (gU rfl (qv (mT rfl (qn 3) mR (mS (vn 4)))) (qv (aA rfl hr (qn 2) (qv (E8 (qv (gU rfl (qv (yF hr 0 7 (by decide) (by decide) rfl)) (qn 1))) (qv vi))))))) (qv (mT rfl (qn 3) (mS (vn 4)) mR)))))))),λB' xs st Q h=>?_⟩)
 obtain⟨x1,rfl,h⟩:=h;change (_:US) (fH false Q) ⟨B',[some (.val (.raw (.ref st.d))),some (.val x1),none,none,none],some st⟩;obtain⟨k,rfl,W,h⟩:=h;obtain⟨d,a,n,D⟩:=st;have W':gK D:=W;obtain⟨w1,w2,w3,w4,w5,w6⟩:=id W';have hz:D.x.length<=100000:=by omega
 have r0:0<=(D.z+k) % 26:=Int.emod_nonneg _ (by decide);have r1:(D.z+k) % 26<26:=Int.emod_lt_of_pos _ (by decide);have s1:=Txt.slice_le D.x none (some D.y);have s2:=Txt.slice_le D.x (some D.y) none;w_on;refine⟨hz,ao _ ⟨by rw[qa];decide,_,oD r0 (by rw[Array.getElem?_toList];exact WE r0 r1),rfl⟩ ?_⟩;w_on;have n1:(⟨#[(97+(D.z+k) % 26).toNat]⟩:Str).length=1:=rfl
 have n2:(Txt.slice D.x none (some D.y)++(⟨#[(97+(D.z+k) % 26).toNat]⟩:Str)).length=(Txt.slice D.x none (some D.y)).length+1:=by
  show((Txt.slice D.x none (some D.y)).cps++#[(97+(D.z+k) % 26).toNat]).size=_;rw[Array.size_append];rfl
 refine⟨by rw[n1];omega,hz,by rw[n2];omega,?_⟩;rw[WG W'];exact h
structure bZ where
 i:Nat
 k:Str
 m:Bool
structure cB where
 n:Nat
 cs:List bZ
 ks:List (List Nat)
structure lH where
 t:Nat
 cs:List Nat
 g:Nat
 k:List Nat
noncomputable def co (f:Nat->Str)(c:bZ):fv:=⟨f c.i,c.k,c.m⟩
noncomputable def tb (f:Nat->Str)(t:cB):Tab:=⟨f t.n,t.cs.map (co f),t.ks.map λk=>k.map f⟩
noncomputable def pt (f:Nat->Str)(p:lH):cY:=⟨f p.t,p.cs.map f,f p.g,p.k.map f⟩
def i7 (k:Str):Prop:=k="number"\/k="text"
def jY (cs:List bZ)(key:List Nat):Prop:=(key≠[]/\key.length<=90)/\key.Nodup/\∀ i∈key,∃ c∈cs,c.i=i/\c.m=false
def zK (k:Nat)(t:cB):Prop:=t.n=9+k/\(∃ a,1<=a/\a<=3/\t.cs.map bZ.i=range' k a)/\(∀ c∈t.cs,i7 c.k)/\t.ks.length<=2/\∀ key∈t.ks,jY t.cs key
noncomputable def pc (f:Nat->Str)(c:bZ):PV:=.tup [.str (f c.i),.str c.k,.bl c.m]
theorem gB (f:Nat->Str)(t:cB):pT (tb f t)=.tup [.str (f t.n),.tup (t.cs.map (pc f)),.tup (t.ks.map λk=>.tup (k.map λi=>.str (f i)))]:=by
 simp only[pT,tb,pS,map_map,Function.comp_def];rfl
theorem WK {r:Int}(h0:0<=r)(h1:r<3):∃ kd,i7 kd/\b9 [PV.str "number",.str "number",.str "text"] r=some (.str kd):=by
 have:r=0\/r=1\/r=2:=by omega
 rcases this with rfl|rfl|rfl
 ·exact⟨_,.inl rfl,qJ⟩
 ·exact⟨_,.inl rfl,qK⟩
 ·exact⟨_,.inr rfl,qL⟩
def Ho (x:PV)(st:az)(Q:PV->az->Prop):Prop:=∃ k:Nat,x=.int k/\k<=100/\gK st.b/\st.n<=90000/\∀ t au,zK k t->Nx st 20 au->Q (pT (tb (wf st.b) t)) au
theorem WL {k a:Nat}{cs:List bZ}(hx:cs.map bZ.i=range' k a):((cs.filter λc=>!c.m).map bZ.i).Nodup/\∀ i∈(cs.filter λc=>!c.m).map bZ.i,∃ c∈cs,c.i=i/\c.m=false:=by
 refine⟨?_,λi hi=>?_⟩
 ·have:((cs.filter λc=>!c.m).map bZ.i).Sublist (cs.map bZ.i):=Sublist.map _ filter_sublist;exact(hx▸nodup_range':(cs.map bZ.i).Nodup).sublist this
 ·obtain⟨c,hc,e⟩:=mem_map.mp hi;have:=mem_filter.mp hc;exact⟨c,this.1,e,by simpa using this.2⟩
def Hq (B':Addr->Prop)(d a p:Addr)(k n:Nat)(D:Bs)(i:Nat)(A:AS):Prop:=∃(cs:List bZ)(m:Nat)(o3 o4:Option Sl),A=⟨B',[some (.val (.raw (.ref d))),some (.val (.int k)),some (.own p (.lst (cs.map (pc (wf D))))),o3,o4,none,none,none],some ⟨d,a,m,D⟩⟩/\m<=n+1+3*i/\cs.map bZ.i=range' k i/\(∀ c∈cs,i7 c.k)/\∀ c∈cs.head?,c.m=false
theorem lI:bH ["_law_state","_law_number","_law_fields","_law_k","_law_kind","_law_sure","_law_way","_law_keys"] ["_law_state","_law_number"] (aT w_):=by walk_at "s"
theorem WM {k:Nat}(D:Df K mg "_law_table" w_)(B:Bt mg)(bM:Kn P w K mg base k "_law_take" (spS K false (c7 g6)))(zL:Kn P w K mg base k "_law_word" (spS K false (c7 uA))):Kn P w K mg base (k+1) "_law_table" (spS K false (c7 Ho)):=by
 refine D.i4 lI (λ_ _ _ _ _ _=>dj λ_ _=>rfl) (λ_ _ _=>c7.len) (by decide) (λf aF A outer s H E hr=>⟨_,(sc (gP (i:=2) lI.nd (el an))
  (sc (cj PassesOwn.never rfl (j0 (by rfl) B.range (gU rfl (qv vi) (qv (cE rfl bM hr (ac (vn 0) (ac vi an)))))) (aE (i:=3) lI.nd)
  (sc (bI (i:=4) lI.nd (aA rfl hr (qf (el (ac vs (ac vs (ac vs an))))) (qv (cE rfl bM hr (ac (vn 0) (ac vi an))))))
  (s1 (gk (lC rfl 2 (et (ac (cE rfl zL hr (ac (vn 0) (ac (gU rfl (qn 3) (qn 1)) an))) (ac (vn 4) (ac (lx (Fn (qn 3) (qv vi)) (lu (Fe rfl hr (qv (cE rfl bM hr (ac (vn 0) (ac vi an)))) (qv vi)))) an)))))))))
  (sc (jr (i:=5) lI.nd (N:=["_law_name","_law_kind","_law_maybe"]) (k:=3) (ix:=[]) cS rfl (dn rfl 2) (λ_ _ _ _=>(eI (n:=3) rfl rfl (bJ (aE (i:=0) (by show(["_law_name","_law_kind","_law_maybe"]:ay).Nodup;decide +kernel)) (bJ (aE (i:=1) (by show(["_law_name","_law_kind","_law_maybe"]:ay).Nodup;decide +kernel)) (bJ (aE (i:=2) (by show(["_law_name","_law_kind","_law_maybe"]:ay).Nodup;decide +kernel)) eG))))) (λ_ _ _ _=>(sX (jo (gM rfl (qn 2))))) (λ_ _ _ _=>(vn 0)))
  (sc (bI (i:=6) lI.nd (cE rfl bM hr (ac (vn 0) (ac vi an))))
  (sc (bI (i:=7) lI.nd (aA rfl hr (qf (el (ac (et (ac (et (ac (aA rfl hr (qn 5) (qv vi)) an)) an)) (ac (et an) (ac (et (ac (j9 rfl B.tuple (qn 5)) an)) (ac (et (ac (et (ac (aA rfl hr (qn 5) (qv vi)) an)) (ac (j9 rfl B.tuple (qf (Qe rfl (qn 5)))) an))) an)))))) (qn 6)))
  (sc (bW (PW.pt (lq (gq rfl hr (qn 6) (qv vi)) (lh (gq rfl hr (qv (du rfl B.len (qn 5))) (qv vi))))) (s1 (bI (i:=7) lI.nd (et (ac (et (ac (aA rfl hr (qn 5) (qv vi)) an)) an)))) sn)
  (s1 (bx (et (ac (cE rfl zL hr (ac (vn 0) (ac (gU rfl (qv vi) (qn 1)) an))) (ac (j9 rfl B.tuple (qn 2)) (ac (vn 7) an)))))))))))),λB' xs st Q h=>?_⟩)
 obtain⟨x1,rfl,h⟩:=h;change (_:US) (fH false Q) ⟨B',[some (.val (.raw (.ref st.d))),some (.val x1),none,none,none,none,none,none],some st⟩;obtain⟨k,rfl,hk,W,hn,h⟩:=h;obtain⟨d,a,n,D⟩:=st;have f9:n<=90000:=hn;clear hn;w_on;intro p;refine draw (by omega) (by decide) (by decide) λr r0 r1=>?_;w_on;refine⟨by omega,by omega,mZ _ (Hq B' d a p k n D) ⟨[],_,_,_,rfl,by omega,rfl,(λ_ h=>by cases h),λ_ h=>by cases h⟩ (λ_ _ _=>trivial) ?_ ?_⟩
 ·rintro i _ hi ⟨cs,m,o3,o4,rfl,hm,cu,zM,zN⟩;have hi3:i<3:=by omega
  have hlen:cs.length=i:=by simpa using congrArg List.length cu
  w_on;refine draw (by omega) (by decide) (by decide) λq q0 q1=>?_;obtain⟨kd,WN,WO⟩:=WK q0 q1;w_on;refine ao _ WO ?_;w_on;refine⟨W,?_⟩;have ew:wordOf D ((i:Int)+(k:Int))=wf D (k+i):=by unfold wf;congr 1;omega
  have Hr:∀(mb:Bool)(m':Nat),m'<=n+1+3*(i+1)->(i=0->mb=false)->∀ o3 o4,Hq B' d a p k n D (i+1) ⟨B',[some (.val (.raw (.ref d))),some (.val (.int k)),some (.own p (.lst (cs.map (pc (wf D))++[.tup [.str (wordOf D ((i:Int)+(k:Int))),.str kd,.bl mb]]))),o3,o4,none,none,none],some ⟨d,a,m',D⟩⟩:=by
   intro mb m' eW WQ o3 o4;refine⟨cs++[⟨k+i,kd,mb⟩],m',o3,o4,?_,eW,?_,?_,?_⟩
   ·rw[ew,map_append];rfl
   ·rw[map_append,cu,range'_concat,Nat.one_mul];rfl
   ·intro c hc;rcases mem_append.mp hc with z|z
    ·exact zM c z
    ·rw[mem_singleton.mp z];exact WN
   ·intro c hc
    cases cs with
    |nil=>
     have aM:c=⟨k+i,kd,mb⟩:=by simpa using hc.symm
     rw[aM];exact WQ (by simpa using hlen.symm)
    |cons c1 cs=>
     refine zN c ?_;simpa using hc
  refine b_ (λe=>?_) λe=>?_
  ·w_on;refine draw (by omega) (by decide) (by decide) λq q0 q1=>?_;w_on;refine⟨by rw[length_map];omega,Hr _ _ (by omega) (λz=>?_) _ _⟩;exfalso;have:=of_decide_eq_true e;omega
  ·w_on;exact⟨by rw[length_map];omega,Hr false _ (by omega) (λz=>rfl) _ _⟩
 ·rintro _ ⟨cs,m,o3,o4,rfl,hm,cu,zM,zN⟩;have ha:(1+r).toNat=1\/(1+r).toNat=2\/(1+r).toNat=3:=by omega
  generalize (1+r).toNat=na at *;have hlen:cs.length=na:=by simpa using congrArg List.length cu
  w_on;refine tX cs (pc (wf D)) (λc=>.str (wf D c.i)) (λc=>!c.m) (by omega) ?_ ?_
  ·intro B x hx Rs Rn hs hn;simp only[pc];w_on;refine b_ (λe=>hn _ (by rw[e];rfl) ⟨rfl,rfl⟩ rfl) λe=>?_;w_on;exact hs _ (by rw[e];rfl) ⟨rfl,rfl⟩ rfl
  obtain⟨kn,kc⟩:=WL cu
  obtain⟨c0,s',hs⟩:∃ c0 s',cs.filter (λc=>!c.m)=c0::s':=by
   cases cs with
   |nil=>simp at hlen;omega
   |cons c1 cs=>
    have:c1.m=false:=zN c1 (by simp);exact⟨c1,_,by rw[filter_cons,this];rfl⟩
  rw[hs] at kn kc ⊢
  have hsl:s'.length<=cs.length:=by
   have:=length_filter_le (λc:bZ=>!c.m) cs;rw[hs,length_cons] at this;omega
  w_on;refine draw (by omega) (by decide) (by decide) λq q0 q1=>?_;w_on;have e9:wordOf D (9+(k:Int))=wf D (9+k):=by unfold wf;congr 1
  have fin:∀ ks:List (List Nat),ks.length<=2->(∀ key∈ks,jY cs key)->Q (.tup [.str (wordOf D (9+(k:Int))),.tup (cs.map (pc (wf D))),.tup (ks.map λk=>.tup (k.map λi=>.str (wf D i)))]) ⟨d,a,m+1,D⟩:=by
   intro ks h1 h2;have:=h ⟨9+k,cs,ks⟩ ⟨d,a,m+1,D⟩ ⟨rfl,⟨na,by omega,by omega,cu⟩,zM,h1,h2⟩ ⟨m+1,(by show m+1<=n+20;omega),rfl⟩;rw[gB] at this;rw[e9];exact this
  have Hs:jY cs [c0.i]:=⟨⟨by simp,by simp⟩,by simp,λi hi=>kc i (by rw[mem_singleton.mp hi];simp)⟩;have Ht:jY cs (c0.i::s'.map bZ.i):=⟨⟨by simp,by rw[length_cons,length_map];omega⟩,by simpa using kn,λi hi=>kc i (by simpa using hi)⟩;have WR:jY cs (c0.i::s'.map bZ.i).reverse:=⟨⟨by simp,by rw[length_reverse,length_cons,length_map];omega⟩,(reverse_perm _).nodup_iff.mpr Ht.2.1,λi hi=>kc i (by simpa using mem_reverse.mp hi)⟩;have f1:=fin [[c0.i]] (by simp) λkey hk=>by rw[mem_singleton.mp hk];exact Hs
  have hq:q=0\/q=1\/q=2\/q=3:=by omega
  rcases hq with rfl|rfl|rfl|rfl
  ·w_on;exact⟨W,f1⟩
  ·w_on;exact⟨W,fin [] (by decide) λ_ h=>by cases h⟩
  ·w_on;have f2:=fin [c0.i::s'.map bZ.i] (by simp) λkey hk=>by rw[mem_singleton.mp hk];exact Ht
   simp only[map_cons,map_nil,map_map,Function.comp_def] at f2;exact⟨W,f2⟩
  ·w_on;refine b_ (λe=>?_) λe=>?_
   ·w_on;exact⟨W,f1⟩
   ·w_on
    have f3:=fin [[c0.i],(c0.i::s'.map bZ.i).reverse] (by simp) λkey hk=>by
     rcases mem_cons.mp hk with rfl|hk
     ·exact Hs
     ·rw[mem_singleton.mp hk];exact WR
    simp only[map_cons,map_nil,map_reverse,map_map,Function.comp_def] at f3;exact⟨W,f3⟩
noncomputable def kI (cs:List bZ)(i:Nat):Str:=((cs.find? λc=>c.i==i).map bZ.k).getD ""
theorem uE {cs:List bZ}{c:bZ}(nd:(cs.map bZ.i).Nodup)(h:c∈cs):kI cs c.i=c.k:=by
 unfold kI
 have:cs.find? (λd=>d.i==c.i)=some c:=by
  induction cs with
  |nil=>cases h
  |cons a l ih=>
   rw[map_cons,nodup_cons] at nd;rw[find?_cons];rcases mem_cons.mp h with rfl|z
   ·simp
   ·have:(a.i==c.i)=false:=by
     rw[beq_eq_false_iff_ne];intro e;exact nd.1 (mem_map.mpr ⟨c,z,e.symm⟩)
    rw[this];exact ih nd.2 z
 rw[this];rfl
def WS (t g:cB)(key:List Nat)(o:Option (List Nat)):Prop:=∀ fs,o=some fs->fs.Nodup/\(∀ i∈fs,i∈t.cs.map bZ.i)/\fs.map (kI t.cs)=key.map (kI g.cs)
noncomputable def pI (f:Nat->Str)(l:List Nat):PV:=.tup (l.map λi=>.str (f i))
noncomputable def oS (f:Nat->Str):Option (List Nat)->PV
 |none=>.ai
 |some l=>pI f l
def zO (f:Nat->Str)(t:cB):Prop:=t.cs≠[]/\t.cs.length<=90/\(t.cs.map bZ.i).Nodup/\(t.cs.map λc=>f c.i).Nodup
def Hu (x y z:PV)(st:az)(Q:PV->az->Prop):Prop:=∃(t g:cB)(key:List Nat),x=pT (tb (wf st.b) t)/\y=pT (tb (wf st.b) g)/\z=pI (wf st.b) key/\zO (wf st.b) t/\zO (wf st.b) g/\jY g.cs key/\st.n<=90000/\∀ o au,WS t g key o->Nx st 1 au->Q (oS (wf st.b) o) au
theorem WT {n:Nat}{xs:af}{z:PV}(h:∀ x∈xs,Dp n x)(l:n<80):fI false (.lst xs) (.lst []) z=(z=.bl xs.isEmpty):=by
 unfold fI
 have e:a8 (.lst xs) (.lst [])=xs.isEmpty:=by
  cases xs<;>rfl
 rw[e,Bool.false_xor];exact propext ⟨λh=>h.2,λq=>⟨⟨n+1,l,gv h,gv λx hx=>by cases hx⟩,q⟩⟩
theorem WU {kvs:aN}{k:Key}{v:PV}:(dG kvs k v).length<=kvs.length+1:=by
 unfold dG
 split
 ·rw[length_map];omega
 ·rw[length_append];exact aG _
theorem uF (f:Nat->Str)(c:bZ):Dp 1 (pc f c):=tS λx hx=>by
 simp only[mem_cons,not_mem_nil,or_false] at hx;rcases hx with rfl|rfl|rfl
 ·exact gu _ _
 ·exact gu _ _
 ·exact tR _ _
theorem WV {f:Nat->Str}{c e:bZ}(h:a8 (pc f c) (pc f e)=true):c.k=e.k:=by
 have:(f c.i==f e.i&&(c.k==e.k&&((c.m==e.m)&&true)))=true:=h;simp only[Bool.and_eq_true,beq_iff_eq] at this;exact this.2.1
theorem Hv {α:Type}{p:α->Bool}{c:α}:∀{l r:List α},l.filter p=c::r->∃ d e,l=d++c::e/\p c=true/\∀ x∈d,p x=false
 |[],r,h=>by cases h
 |a::l,r,h=>by
  rw[filter_cons] at h
  cases e:p a with
  |true=>
   rw[e,if_pos rfl] at h;cases h;exact⟨[],l,rfl,e,λ_ h=>by cases h⟩
  |false=>
   rw[e,if_neg (by decide)] at h;obtain⟨d,r',e1,e2,e3⟩:=Hv h;refine⟨a::d,r',by rw[e1];rfl,e2,λx hx=>?_⟩;rcases mem_cons.mp hx with rfl|z
   ·exact e
   ·exact e3 x z
theorem Hw {α β:Type}{h:α->β}:∀{l:List α},(l.map h).Nodup->∀{a b:α},a∈l->b∈l->h a=h b->a=b
 |[],_,_,_,ha,_,_=>by cases ha
 |x::l,nd,a,b,ha,hb,e=>by
  rw[map_cons,nodup_cons] at nd;rcases mem_cons.mp ha with rfl|Hx<;>rcases mem_cons.mp hb with rfl|eQ
  ·rfl
  ·exact absurd (mem_map.mpr ⟨b,eQ,e.symm⟩) nd.1
  ·exact absurd (mem_map.mpr ⟨a,Hx,e⟩) nd.1
  ·exact Hw nd.2 Hx eQ e
noncomputable def ki (f:Nat->Str)(d:Addr)(t g:cB)(key:List Nat)(o4 o5 o6 o7 o8 o9 bT cw:Option Sl):bp:=[some (.val (.raw (.ref d))),some (.val (pT (tb f t))),some (.val (pT (tb f g))),some (.val (pI f key)),o4,o5,o6,o7,o8,o9,bT,cw]
theorem jy:bH ["_law_state","_law_table_here","_law_goal","_law_key","_law_kinds","_law_name","_law_kind","_law_maybe","_law_turn","_law_left","_law_found","_law_fitting"] ["_law_state","_law_table_here","_law_goal","_law_key"] (aT xa):=by walk_at "s"
theorem WW {k:Nat}(D:Df K mg "_law_matched" xa)(B:Bt mg)(bM:Kn P w K mg base k "_law_take" (spS K false (c7 g6))):Kn P w K mg base (k+1) "_law_matched" (spS K false (oA Hu)):=by
 refine D.i4 jy (λ_ _ _ _ _ _=>NZ λ_ _ _ _=>rfl) (λ_ _ _=>oA.len) (by decide) (λf aF A outer s H E hr=>⟨_,(sc (gP (i:=4) jy.nd yI)
  (sc (cj PassesOwn.never rfl (iv rfl (aA rfl hr (qn 2) (qv vi))) (eI (n:=3) rfl rfl (bJ (aE (i:=5) jy.nd) (bJ (aE (i:=6) jy.nd) (bJ (aE (i:=7) jy.nd) eG))))
  (s1 (qE hr 4 (vn 6) (vn 5))))
  (sc (bI (i:=8) jy.nd (cE rfl bM hr (ac (vn 0) (ac (du rfl B.len (qv (aA rfl hr (qn 1) (qv vi)))) an))))
  (sc (gP (i:=9) jy.nd (tF rfl B.list (qv (gU rfl (qv (mT rfl (qv (aA rfl hr (qn 1) (qv vi))) (mS (vn 8)) mR)) (qv (mT rfl (qv (aA rfl hr (qn 1) (qv vi))) mR (mS (vn 8))))))))
  (sc (gP (i:=10) jy.nd (el an))
  (sc (cj PassesOwn.never rfl (dn rfl 3) (aE (i:=5) jy.nd)
  (sc (jr (i:=11) jy.nd (N:=["_law_column","_law_kinds","_law_name"]) (k:=1) (ix:=[4,5]) cS rfl (dn rfl 9) (λ_ _ _ _=>(aE (i:=0) (by show(["_law_column","_law_kinds","_law_name"]:ay).Nodup;decide +kernel))) (λ_ _ _ _=>(sX (gq rfl hr (qv (aA rfl hr (qn 0) (qv vi))) (qv (aA rfl hr (qn 1) (qn 2)))))) (λ_ _ _ _=>(vn 0)))
  (sc (bW (gq rfl hr (qn 11) (qf (el an))) (s1 (bx v0)) sn)
  (sc (gk (QH rfl hr 9 (aA rfl hr (qn 11) (qv vi))))
  (s1 (gk (lC rfl 10 (aA rfl hr (qv (aA rfl hr (qn 11) (qv vi))) (qv vi)))))))))
  (s1 (bx (j9 rfl B.tuple (qn 10)))))))))),λB' xs st Q h=>?_⟩)
 obtain⟨x1,x2,x3,rfl,h⟩:=h;change (_:US) (fH false Q) ⟨B',[some (.val (.raw (.ref st.d))),some (.val x1),some (.val x2),some (.val x3),none,none,none,none,none,none,none,none],some st⟩;obtain⟨t,g,key,rfl,rfl,rfl,⟨t1,t2,t3,t4⟩,⟨g1,g2,g3,g4⟩,⟨⟨k1,k0⟩,k2,k3⟩,hn,h⟩:=h;obtain⟨d,a,n,D⟩:=st;have f9:n<=90000:=hn;clear hn;simp only[gB,pI];generalize wf D=f at *;w_on;intro p;refine df g.cs (pc f) (λdd A=>∃(kvs:aN)(o5 o6 o7:Option Sl),A=⟨B',ki f d t g key (some (.own p (.ah kvs))) o5 o6 o7 none none none none,some ⟨d,a,n,D⟩⟩/\kvs.length<=dd.length/\∀ c∈dd,bP kvs (.inr (f c.i))=some (.str c.k)) ⟨[],none,none,none,by simp only[ki,gB,pI],aG _,λ_ h=>by cases h⟩ (λ_ _ _=>trivial) ?_ ?_
 ·rintro dd x r A2 e ⟨kvs,o5,o6,o7,rfl,hl,hk⟩;have hd:dd.length<=90:=by rw[e,length_append] at g2;omega
  simp only[ki,gB,pI,pc];w_on;refine⟨by omega,dG kvs (.inr (f x.i)) (.str x.k),some (.val (.str (f x.i))),some (.val (.str x.k)),some (.val (.bl x.m)),rfl,?_,?_⟩
  ·have:=WU (kvs:=kvs) (k:=.inr (f x.i)) (v:=.str x.k);rw[length_append,length_singleton];omega
  ·intro c hc;rw[T7];have WX:c∈g.cs:=by rw[e];rcases mem_append.mp hc with z|z<;>simp_all
   have WY:x∈g.cs:=by rw[e];simp
   by_cases q:f x.i=f c.i
   ·rw[if_pos (by rw[q]),Hw g4 WY WX q]
   ·rw[if_neg λz=>q (Sum.inr.inj z)];rcases mem_append.mp hc with z|z
    ·exact hk c z
    ·rw[mem_singleton.mp z] at q;exact absurd rfl q
 ·rintro A2 ⟨kvs,o5,o6,o7,rfl,hl,hk⟩;simp only[ki,gB,pI];w_on;have tp:0<t.cs.length:=length_pos_iff.mpr t1;refine draw (by omega) (by rw[length_map];omega) (by rw[length_map];exact Int.lt_of_le_of_lt (b:=90) (by omega) (by decide)) λr r0 r1=>?_;rw[length_map] at r1;have e1:fW (t.cs.map (pc f)) (some r) none=(t.cs.drop r.toNat).map (pc f):=by rw[F0 r0 (by rw[length_map];omega),map_drop]
  have e2:fW (t.cs.map (pc f)) none (some r)=(t.cs.take r.toNat).map (pc f):=by rw[F2 r0 (by rw[length_map];omega),map_take]
  w_on;simp only[e1,e2,<- map_append];refine⟨by simp only[length_map,length_drop,length_take];omega,λq=>?_⟩;w_on;intro q2;refine df key (λi=>PV.str (f i)) (λdd A=>∃(L:List bZ)(fs:List Nat)(o5 cw:Option Sl),A=⟨B',ki f d t g key (some (.own p (.ah kvs))) o5 o6 o7 (some (.val (.int r))) (some (.own q (.lst (L.map (pc f))))) (some (.own q2 (.lst (fs.map λi=>.str (f i))))) cw,some ⟨d,a,n+1,D⟩⟩/\L.length<=90/\(∀ c∈L,c∈t.cs)/\(fs++L.map bZ.i).Nodup/\(∀ i∈fs,i∈t.cs.map bZ.i)/\fs.map (kI t.cs)=dd.map (kI g.cs)) ⟨t.cs.drop r.toNat++t.cs.take r.toNat,[],o5,none,by simp only[ki,gB,pI];rfl,by simp only[length_append,length_drop,length_take];omega,?_,?_,(λ_ h=>by cases h),rfl⟩ (λ_ _ _=>trivial) ?_ ?_
  ·intro c hc;rcases mem_append.mp hc with z|z
   ·exact mem_of_mem_drop z
   ·exact mem_of_mem_take z
  ·rw[nil_append]
   have pm:(t.cs.drop r.toNat++t.cs.take r.toNat).Perm t.cs:=by
    have:=perm_append_comm (l₁:=t.cs.drop r.toNat) (l₂:=t.cs.take r.toNat);rw[take_append_drop] at this;exact this
   exact(pm.map bZ.i).nodup_iff.mpr t3
  ·rintro dd x rr A2 e ⟨L,fs,o5,cw,rfl,uG,hL,lJ,zP,lK⟩;have hx:x∈key:=by rw[e];simp
   obtain⟨gc,Hy,rfl,gm⟩:=k3 x hx;have hfl:fs.length=dd.length:=by simpa using congrArg List.length lK
   have hd:dd.length<=90:=by rw[e,length_append] at k0;omega
   simp only[ki,gB,pI];w_on;refine tX L (pc f) (pc f) (λc=>c.k==gc.k) (by omega) ?_ ?_
   ·intro B c hc Rs Rn hs hn;simp only[pc];w_on;refine ao _ (hk gc Hy) ?_;w_on;refine b_ (λe=>?_) λe=>?_
    ·w_on;exact hs _ e ⟨rfl,rfl⟩ rfl
    ·exact hn _ e ⟨rfl,rfl⟩ rfl
   w_on;refine ao _ (by rw[WT (n:=1) (λy hy=>by obtain⟨c,_,rfl⟩:=mem_map.mp hy;exact uF f c) (by decide)]) ?_;refine b_ (λe=>?_) λe=>?_
   ·w_on;exact h none ⟨d,a,n+1,D⟩ (λvz z=>by cases z) ⟨n+1,aG _,rfl⟩
   ·cases hF:L.filter (λc=>c.k==gc.k) with
    |nil=>rw[hF] at e;cases e
    |cons c0 rest=>
     obtain⟨dl,er,m9,WZ,oU⟩:=Hv hF;have Hz:c0.k=gc.k:=by simpa using WZ
     w_on;refine⟨dl.length,⟨1,by decide,uF f c0,λy hy=>by obtain⟨c,_,rfl⟩:=mem_map.mp hy;exact uF f c⟩,⟨pc f c0,?_,yd 1 _ (uF f c0)⟩,?_,?_⟩
     ·rw[m9,getElem?_map];simp
     ·intro m y hm hy;rw[m9,getElem?_map,getElem?_append_left hm] at hy;obtain⟨c,hc,rfl⟩:=Option.map_eq_some_iff.mp hy;have bA:=oU c (mem_of_getElem? hc)
      cases hp:a8 (pc f c) (pc f c0) with
      |false=>rfl
      |true=>
       have:=WV hp;rw[this,Hz] at bA;simp at bA
     ·have eE:(L.map (pc f)).eraseIdx dl.length=(dl++er).map (pc f):=by
       rw[m9,map_append,map_append,map_cons,eraseIdx_append_of_length_le (by simp)];simp
      rw[eE];simp only[pc];w_on;have HA:c0∈t.cs:=hL c0 (by rw[m9];simp);refine⟨by rw[length_map];omega,dl++er,fs++[c0.i],some (.val (.str (f gc.i))),some (.val (.lst (pc f c0::rest.map (pc f)))),?_,?_,?_,?_,?_,?_⟩
      ·simp only[ki,gB,pI,map_append,map_cons,map_nil,pc]
      ·rw[m9,length_append,length_cons] at uG;rw[length_append];omega
      ·intro c hc;refine hL c ?_;rw[m9];rcases mem_append.mp hc with z|z<;>simp [z]
      ·rw[m9] at lJ
       have pm:(fs++[c0.i]++(dl++er).map bZ.i).Perm (fs++(dl++c0::er).map bZ.i):=by
        rw[append_assoc];refine Perm.append_left fs ?_;rw[map_append,map_append,map_cons,singleton_append];exact perm_middle.symm
       exact pm.nodup_iff.mpr lJ
      ·intro i hi;rcases mem_append.mp hi with z|z
       ·exact zP i z
       ·rw[mem_singleton.mp z];exact mem_map.mpr ⟨c0,HA,rfl⟩
      ·rw[map_append,map_append,lK];show _++[kI t.cs c0.i]=_++[kI g.cs gc.i];rw[uE t3 HA,uE g3 Hy,Hz]
  ·rintro A2 ⟨L,fs,o5,cw,rfl,uG,hL,lJ,zP,lK⟩;simp only[ki,gB,pI];w_on;refine h (some fs) ⟨d,a,n+1,D⟩ (λvz e=>?_) ⟨n+1,aG _,rfl⟩;cases e;exact⟨(nodup_append.mp lJ).1,zP,lK⟩
def uH (ts:List cB)(p:lH):Prop:=∃ t∈ts,∃ g∈ts,p.t=t.n/\p.g=g.n/\p.k∈g.ks/\p.cs.Nodup/\(∀ i∈p.cs,i∈t.cs.map bZ.i)/\p.cs.map (kI t.cs)=p.k.map (kI g.cs)
theorem W0 (f:Nat->Str)(p:lH):pP (pt f p)=.tup [.str (f p.t),.tup (p.cs.map λi=>.str (f i)),.str (f p.g),.tup (p.k.map λi=>.str (f i))]:=by
 simp only[pP,pt,pS,map_map,Function.comp_def]
def HB (f:Nat->Str)(t:cB):Prop:=zO f t/\(∀ key∈t.ks,jY t.cs key)/\t.ks.length<=3
def HC (x:PV)(st:az)(Q:PV->az->Prop):Prop:=∃ ts:List cB,x=.lst (ts.map λt=>pT (tb (wf st.b) t))/\(∀ t∈ts,HB (wf st.b) t)/\ts.length<=6/\st.n<=80000/\∀(ps:List lH)(au:az),(∀ p∈ps,uH ts p)->ps.length<=4->Nx st 300 au->Q (.lst (ps.map λp=>pP (pt (wf st.b) p))) au
noncomputable def jz (f:Nat->Str)(d p:Addr)(ts:List cB)(ps:List lH)(o3 o4 o5 o6:Option Sl):bp:=[some (.val (.raw (.ref d))),some (.val (.lst (ts.map λt=>pT (tb f t)))),some (.own p (.lst (ps.map λp=>pP (pt f p)))),o3,o4,o5,o6]
def zQ (ts:List cB)(ps:List lH)(m c:Nat):Prop:=m<=c/\ps.length<=4/\∀ p∈ps,uH ts p
theorem oV:bH ["_law_state","_law_tables","_law_points_here","_law_table_here","_law_goal","_law_key","_law_found"] ["_law_state","_law_tables"] (aT xb):=by walk_at "s"
theorem W2 {k:Nat}(D:Df K mg "_law_points" xb)(B:Bt mg)(HD:Kn P w K mg base k "_law_matched" (spS K false (oA Hu)))(bM:Kn P w K mg base k "_law_take" (spS K false (c7 g6))):Kn P w K mg base (k+1) "_law_points" (spS K false (c7 HC)):=by
 refine D.i4 oV (λ_ _ _ _ _ _=>dj λ_ _=>rfl) (λ_ _ _=>c7.len) (by decide) (λf aF A outer s H E hr=>⟨_,(sc (gP (i:=2) oV.nd (el an))
  (sc (cj PassesOwn.never rfl (dn rfl 1) (aE (i:=3) oV.nd)
  (s1 (cj PassesOwn.never rfl (dn rfl 1) (aE (i:=4) oV.nd)
  (s1 (cj PassesOwn.never rfl (iv rfl (aA rfl hr (qn 4) (qv vi))) (aE (i:=5) oV.nd)
  (s1 (bW (PW.pt (lq (yr (qv (cE rfl bM hr (ac (vn 0) (ac vi an)))) (qv vi)) (lh (yq (qv (du rfl B.len (qn 2))) (qv vi))))) (sc (bI (i:=6) oV.nd (cE rfl HD hr (ac (vn 0) (ac (vn 3) (ac (vn 4) (ac (vn 5) an))))))
  (s1 (bW (qt (qn 6) (qv v0)) (s1 (gk (lC rfl 2 (et (ac (aA rfl hr (qn 3) (qv vi)) (ac (vn 6) (ac (aA rfl hr (qn 4) (qv vi)) (ac (vn 5) an)))))))) sn))) sn)))))))
  (s1 (bx (vn 2))))),λB' xs st Q h=>?_⟩)
 obtain⟨x1,rfl,h⟩:=h;change (_:US) (fH false Q) ⟨B',[some (.val (.raw (.ref st.d))),some (.val x1),none,none,none,none,none],some st⟩;obtain⟨ts,rfl,uI,aK,hn,h⟩:=h;obtain⟨d,a,n,D⟩:=st;have f9:n<=80000:=hn;clear hn;simp only[az.b] at *;generalize hf:wf D=f at *;w_on;intro p;refine df ts (λt=>pT (tb f t)) (λdd A=>∃ ps m o3 o4 o5 o6,A=⟨B',jz f d p ts ps o3 o4 o5 o6,some ⟨d,a,m,D⟩⟩/\zQ ts ps m (n+36*dd.length)) ⟨[],n,none,none,none,none,rfl,aG _,by decide,λ_ h=>by cases h⟩ (λ_ _ _=>trivial) ?_ ?_
 ·rintro d1 t r1 A2 e1 ⟨ps,m,o3,o4,o5,o6,rfl,hp⟩;have ht:t∈ts:=by rw[e1];simp
  have hd1:d1.length<6:=by rw[e1,length_append,length_cons] at aK;omega
  simp only[jz];w_on;refine df ts (λt=>pT (tb f t)) (λdd A=>∃ ps m o4 o5 o6,A=⟨B',jz f d p ts ps (some (.val (pT (tb f t)))) o4 o5 o6,some ⟨d,a,m,D⟩⟩/\zQ ts ps m (n+36*d1.length+6*dd.length)) ⟨ps,m,o4,o5,o6,rfl,hp⟩ (λ_ _ _=>trivial) ?_ ?_
  ·rintro d2 g r2 A2 e2 ⟨ps,m,o4,o5,o6,rfl,hp⟩;have hg:g∈ts:=by rw[e2];simp
   have hd2:d2.length<6:=by rw[e2,length_append,length_cons] at aK;omega
   have W3:=(uI g hg).2.2;simp only[jz,gB];w_on;refine df g.ks (λk=>PV.tup (k.map λi=>.str (f i))) (λdd A=>∃ ps m o5 o6,A=⟨B',jz f d p ts ps (some (.val (pT (tb f t)))) (some (.val (pT (tb f g)))) o5 o6,some ⟨d,a,m,D⟩⟩/\zQ ts ps m (n+36*d1.length+6*d2.length+2*dd.length)) ⟨ps,m,o5,o6,by simp only[jz,gB],hp⟩ (λ_ _ _=>trivial) ?_ ?_
   ·rintro d3 key r3 A2 e3 ⟨ps,m,o5,o6,rfl,qY,dE,jA⟩;have hk:key∈g.ks:=by rw[e3];simp
    have nY:d3.length<3:=by rw[e3,length_append,length_cons] at W3;omega
    simp only[jz];w_on;refine draw (by omega) (by decide) (by decide) λq q0 q1=>?_;w_on;refine b_ (λe=>?_) λe=>?_
    ·w_on;refine b_ (λe=>?_) λe=>?_
     ·w_on;subst hf;refine⟨t,g,key,rfl,rfl,rfl,(uI t ht).1,(uI g hg).1,(uI g hg).2.1 key hk,(by show m+1<=90000;omega),λo au ho c9=>?_⟩;obtain⟨m',eW,rfl⟩:=c9;have dU:m'<=m+1+1:=eW
      cases o with
      |none=>
       simp only[oS];w_on;refine⟨ps,m',some (.val (.tup (key.map λi=>.str (wf D i)))),some (.val .ai),rfl,?_,dE,jA⟩;rw[length_append,length_singleton];omega
      |some fs=>
       obtain⟨o1,o2,W4⟩:=ho fs rfl;simp only[oS,pI,gB];w_on
       have HF:ps.length<4:=by
        have:=of_decide_eq_true e;rw[length_map] at this;omega
       refine⟨by rw[length_map];omega,ps++[⟨t.n,fs,g.n,key⟩],m',some (.val (.tup (key.map λi=>.str (wf D i)))),some (.val (.tup (fs.map λi=>.str (wf D i)))),?_,?_,?_,?_⟩
       ·simp only[jz,gB,W0,map_append,map_cons,map_nil]
       ·rw[length_append,length_singleton];omega
       ·rw[length_append,length_singleton];omega
       ·intro x hx;rcases mem_append.mp hx with z|z
        ·exact jA x z
        ·rw[mem_singleton.mp z];exact⟨t,ht,g,hg,rfl,rfl,hk,o1,o2,W4⟩
     ·w_on;refine⟨ps,m+1,some (.val (.tup (key.map λi=>.str (f i)))),o6,rfl,?_,dE,jA⟩;rw[length_append,length_singleton];omega
    ·w_on;refine⟨ps,m+1,some (.val (.tup (key.map λi=>.str (f i)))),o6,rfl,?_,dE,jA⟩;rw[length_append,length_singleton];omega
   ·rintro A2 ⟨ps,m,o5,o6,rfl,qY,dE,jA⟩;w_on;refine⟨ps,m,some (.val (pT (tb f g))),o5,o6,by simp only[jz,gB],?_,dE,jA⟩;rw[length_append,length_singleton];omega
  ·rintro A2 ⟨ps,m,o4,o5,o6,rfl,qY,dE,jA⟩;w_on;refine⟨ps,m,_,_,_,_,rfl,?_,dE,jA⟩;rw[length_append,length_singleton];omega
 ·rintro A2 ⟨ps,m,o3,o4,o5,o6,rfl,qY,dE,jA⟩;simp only[jz];w_on;exact h ps ⟨d,a,m,D⟩ jA dE ⟨m,(by show m<=n+300;omega),rfl⟩
def HG (c:Nat):Prop:=97<=c/\c<=122
theorem W5 {D:Bs}(W:gK D){i j:Nat}(hi:i<26)(hj:j<26)(e:wf D i=wf D j):i=j:=by
 have e1:hJ D i=hJ D j:=by
  have:(hJ D i).toArray=(hJ D j).toArray:=congrArg Str.cps e;simpa using congrArg Array.toList this
 unfold hJ at e1;have e2:=append_cancel_left e1;have e3:=(cons.inj e2).1;obtain⟨_,_,z0,z1,_,_⟩:=W;omega
theorem W6 {D:Bs}(W:gK D)(i:Nat):∀ c∈(wf D i).cps.toList,HG c:=by
 intro c hc
 have aM:c∈hJ D i:=by
  have:c∈((hJ D i).toArray).toList:=hc;simpa using this
 unfold hJ at aM;obtain⟨_,ls,z0,z1,_,_⟩:=W;rcases mem_append.mp aM with q|q
 ·exact ls c (mem_of_mem_take q)
 ·rcases mem_cons.mp q with rfl|q
  ·have r0:0<=(D.z+(i:Int)) % 26:=Int.emod_nonneg _ (by decide);have r1:(D.z+(i:Int)) % 26<26:=Int.emod_lt_of_pos _ (by decide);constructor<;>omega
  ·exact ls c (mem_of_mem_drop q)
structure oW (f:Nat->Str):Prop where
 inj:∀ i j,i<26->j<26->f i=f j->i=j
theorem HH {D:Bs}(W:gK D):oW (wf D):=⟨λi j hi hj e=>W5 W hi hj e⟩
theorem uJ {f:Nat->Str}(F:oW f):∀{l:List Nat},(∀ i∈l,i<26)->l.Nodup->(l.map f).Nodup
 |[],_,_=>nodup_nil
 |a::l,h,nd=>by
  rw[nodup_cons] at nd;rw[map_cons,nodup_cons];refine⟨λm=>?_,uJ F (λi hi=>h i (by simp [hi])) nd.2⟩;obtain⟨b,hb,e⟩:=mem_map.mp m;rw[F.inj b a (h b (by simp [hb])) (h a (by simp)) e] at hb;exact nd.1 hb
structure TN (t:cB):Prop where
 n:t.n<26
 ne:t.cs≠[]
 aK:t.cs.length<=90
 lt:∀ i∈t.cs.map bZ.i,i<26
 nd:(t.cs.map bZ.i).Nodup
 k:∀ c∈t.cs,i7 c.k
 kl:t.ks.length<=3
 key:∀ key∈t.ks,jY t.cs key
 l3:t.cs.length<=3
theorem W7 {k:Nat}(hk:k<3){t:cB}(h:zK k t):TN t:=by
 obtain⟨h1,⟨a,a1,a3,hi⟩,h3,h4,h5⟩:=h;have hl:t.cs.length=a:=by simpa using congrArg List.length hi
 refine⟨by omega,?_,by omega,?_,?_,h3,by omega,h5,by omega⟩
 ·intro z;rw[z] at hl;simp at hl;omega
 ·intro i hm;rw[hi,mem_range'_1] at hm;omega
 ·rw[hi];exact nodup_range'
theorem TN.tok {t:cB}(T:TN t){f:Nat->Str}(F:oW f):HB f t:=by
 refine⟨⟨T.ne,T.aK,T.nd,?_⟩,T.key,T.kl⟩;have:=uJ F T.lt T.nd;rw[map_map] at this;exact this
def Each (R:Nat->cB->Prop)(ts:List cB):Prop:=∀ j t,ts[j]?=some t->R j t
theorem W8 {R:Nat->cB->Prop}{ts:List cB}{t:cB}(h:Each R ts)(q:R ts.length t):Each R (ts++[t]):=by
 intro j x hx;rcases Nat.lt_trichotomy j ts.length with l|l|l
 ·rw[getElem?_append_left l] at hx;exact h j x hx
 ·subst l;simp at hx;rw[<- hx];exact q
 ·rw[getElem?_eq_none (by simp;omega)] at hx;cases hx
theorem HI:∀{ts:List cB}{b:Nat},(∀ j t,ts[j]?=some t->t.n=9+(b+j))->(ts.map cB.n).Nodup
 |[],_,_=>nodup_nil
 |a::l,b,h=>by
  rw[map_cons,nodup_cons];refine⟨λm=>?_,HI (b:=b+1) λj t ht=>by rw[h (j+1) t (by simpa using ht)];omega⟩;obtain⟨t,ht,e⟩:=mem_map.mp m;obtain⟨j,hj,e2⟩:=getElem_of_mem ht;have h1:=h (j+1) t (by rw[getElem?_cons_succ,bL hj,e2]);have h2:=h 0 a rfl;omega
def HJ (ts:List cB):Prop:=ts≠[]/\ts.length<=3/\(ts.map cB.n).Nodup/\∀ t∈ts,TN t
def HK (st:az)(Q:PV->az->Prop):Prop:=gK st.b/\st.n<=1000/\∀(ts:List cB)(ps:List lH)(au:az),HJ ts->(∀ p∈ps,uH ts p)->ps.length<=4->Nx st 500 au->Q (.tup [.tup (ts.map λt=>pT (tb (wf st.b) t)),.tup (ps.map λp=>pP (pt (wf st.b) p))]) au
theorem HL:bH ["_law_state","_law_tables"] ["_law_state"] (aT xc):=by walk_at "s"
theorem W9 {k:Nat}(D:Df K mg "_law_frame" xc)(B:Bt mg)(HM:Kn P w K mg base k "_law_table" (spS K false (c7 Ho)))(HN:Kn P w K mg base k "_law_points" (spS K false (c7 HC)))(bM:Kn P w K mg base k "_law_take" (spS K false (c7 g6))):Kn P w K mg base (k+1) "_law_frame" (spS K false (oz HK)):=by
 refine D.i4 HL (λ_ _ _ _ _ _=>mC λ_=>rfl) (λ_ _ _=>oz.len) (by decide) (λf aF A outer s H E hr=>⟨_,(sc (jr (i:=1) HL.nd (N:=["_law_number","_law_state"]) (k:=1) (ix:=[0]) cS rfl (j0 (by rfl) B.range (gU rfl (qv vi) (qv (cE rfl bM hr (ac (vn 0) (ac vi an)))))) (λ_ _ _ _=>(aE (i:=0) (by show(["_law_number","_law_state"]:ay).Nodup;decide +kernel))) (λ_ _ _ _=>cX) (λ_ _ _ _=>(cE rfl HM hr (ac (vn 1) (ac (vn 0) an)))))
  (s1 (bx (et (ac (j9 rfl B.tuple (qn 1)) (ac (j9 rfl B.tuple (qv (cE rfl HN hr (ac (vn 0) (ac (vn 1) an))))) an)))))),λB' xs st Q h=>?_⟩)
 obtain⟨rfl,h⟩:=h;change (_:US) (fH false Q) ⟨B',[some (.val (.raw (.ref st.d))),none],some st⟩;obtain⟨W,hn,h⟩:=h;obtain⟨d,a,n,D⟩:=st;have W':gK D:=W;have f9:n<=1000:=hn;clear hn;simp only[az.b] at *;w_on;refine draw (by omega) (by decide) (by decide) λr r0 r1=>?_;w_on;have hr6:(2+r).toNat<=3:=by omega
 have hr1:2<=(2+r).toNat:=by omega
 refine⟨by omega,by omega,?_⟩;generalize (2+r).toNat=N at *;refine Uc N (λi ys S=>∃(hV:List cB)(m:Nat),ys=hV.map (λt=>pT (tb (wf D) t))/\S=some ⟨d,a,m,D⟩/\m<=n+1+20*i/\hV.length=i/\Each zK hV) (by omega) ⟨[],n+1,rfl,rfl,by omega,rfl,λj t ht=>by simp at ht⟩ ?_ ?_
 ·rintro B i _ _ hi ⟨hV,m,rfl,rfl,hm,hl,he⟩ R hR;w_on;refine⟨i,rfl,by omega,W',(by show m<=90000;omega),λt au ht c9=>?_⟩;obtain⟨m',eW,rfl⟩:=c9;have dU:m'<=m+20:=eW;refine hR _ _ ⟨rfl,rfl⟩ ⟨hV++[t],m',by rw[map_append];rfl,rfl,by omega,by rw[length_append,hl];rfl,W8 he (by rw[hl];exact ht)⟩
 rintro _ _ ⟨ts,m,rfl,rfl,hm,hl,he⟩
 have hT:∀ t∈ts,TN t:=λt ht=>by
  obtain⟨j,hj,e⟩:=getElem_of_mem ht;exact W7 (k:=j) (by omega) (he j t (by rw[bL hj,e]))
 have ne:ts≠[]:=by intro z;rw[z] at hl;simp at hl;omega
 have F:=HH W';w_on;refine⟨ts,rfl,λt ht=>(hT t ht).tok F,by omega,(by show m<=80000;omega),λps au HF dC c9=>?_⟩;obtain⟨m2,dU,rfl⟩:=c9;have zR:m2<=m+300:=dU;w_on;have nn:(ts.map cB.n).Nodup:=HI (b:=0) λj t ht=>by have:=(he j t ht).1;omega
 exact h ts ps ⟨d,a,m2,D⟩ ⟨ne,by omega,nn,hT⟩ HF dC ⟨m2,(by show m2<=n+500;omega),rfl⟩
def Vx:PV->Prop
 |.ai=>True
 |.bl _=>True
 |.int _=>True
 |.str z=>z∈(["a","","b","aa","a\n"]:ay)
 |.tup xs=>xs=[.str "a"]
 |.lst xs=>xs=[]
 |_=>False
noncomputable def isInt:PV->Bool
 |.int _=>true
 |_=>false
noncomputable def iE:PV->Bool
 |.str z=>z∈(["a","","b","aa"]:ay)
 |_=>false
noncomputable def ed (k:Str)(x:PV):Bool:=match x with
 |.ai=>true
 |_=>if k="number" then isInt x else iE x
theorem HP (a b:Nat):([a]<[b])↔(a<b):=by
 rw[cons_lt_cons_iff];simp
noncomputable def sgn (c:Nat):Bool:=decide (32<=c)&&decide (c<=126)
theorem W_:∀ z∈(["a","","b","aa","a\n"]:ay),(z.cps.all λx=>decide (x<128))=true:=by decide +kernel
theorem Xa:∀ z∈(["a","","b","aa","a\n"]:ay),z.cps.toList.length<=5:=by decide +kernel
theorem Xb:∀ z∈(["a","","b","aa","a\n"]:ay),z.cps.toList.all sgn=iE (.str z):=by decide +kernel
def HS (x r:PV):Prop:=Vx x/\r=.bl (isInt x)
def HU (x r:PV):Prop:=Vx x/\r=.bl (iE x)
def HV (x r:PV):Prop:=∃ z,x=.str z/\i7 z/\r=.bl true
def HW (x y r:PV):Prop:=∃ k,Vx x/\y=.str k/\i7 k/\r=.bl (ed k x)
theorem HX {k:Str}{x:PV}(e:(k==Str.ofString "number")=true)(h:ed k x=if k="number" then isInt x else iE x)(_:x=x):isInt x=ed k x:=by
 rw[h,if_pos (by simpa using e)]
theorem HY {k:Str}{x:PV}(e:(k==Str.ofString "number")=false)(h:ed k x=if k="number" then isInt x else iE x)(_:x=x):iE x=ed k x:=by
 rw[h,if_neg (by simpa using e)]
theorem Xc:bH ["thing"] ["thing"] (aT wC):=by walk_at "s"
theorem Xd {k:Nat}(D:Df K mg "is_whole" wC)(B:Bt mg):Kn P w K mg base (k+1) "is_whole" (a_ K false (eL HS)):=by
 refine D.c6 Xc (λ_ _ _ _ _ _=>mC λ_=>rfl) (λ_ _=>eL.len) (by decide) (λf aF A outer s H E hr=>⟨_,(s1 (bx (lx (gX .int rfl B.isinstance B.int PyProof.Rows.boot_int (qn 0)) (lu (xO (gX .bool rfl B.isinstance B.bool PyProof.Rows.boot_bool (qn 0))))))),λB' xs r h=>?_⟩);obtain⟨x0,rfl,h⟩:=h;change (_:US) (cH false r) ⟨B',[some (.val x0)],none⟩;obtain⟨hx,rfl⟩:=h;cases x0<;>first|exact hx.elim|skip
 all_goals w_on
 case bl b=>
  refine ao true rfl ?_;refine gw rfl ?_;w_on;refine ao true (by cases b<;>rfl) ?_;w_on;rfl
 case int i=>rfl
 all_goals exact ao false rfl (d8 rfl rfl)
theorem Xe:bH ["thing"] ["thing"] (aT wD):=by walk_at "s"
theorem Xf {k:Nat}(D:Df K mg "is_text" wD)(B:Bt mg):Kn P w K mg base (k+1) "is_text" (a_ K false (eL HU)):=by
 refine D.c6 Xe (λ_ _ _ _ _ _=>mC λ_=>rfl) (λ_ _=>eL.len) (by decide) (λf aF A outer s H E hr=>⟨_,(s1 (bx (lx (gX .str rfl B.isinstance B.str PyProof.Rows.boot_str (qn 0)) (lu (Qs rfl rfl B.all (qf (eJ (N:=["sign"]) (k:=1) (ix:=[]) cS rfl (dn rfl 0) (λ_ _ _ _=>(aE (i:=0) (by show(["sign"]:ay).Nodup;decide +kernel))) (λ_ _ _ _=>cX) (λ_ _ _ _=>(QJ (Bx.or Cm) (Bx.or Cm) Fh Fh (qv vs) (qn 0) (qv vs)))))))))),λB' xs r h=>?_⟩);obtain⟨x0,rfl,h⟩:=h;change (_:US) (cH false r) ⟨B',[some (.val x0)],none⟩;obtain⟨hx,rfl⟩:=h;cases x0<;>first|exact hx.elim|skip
 all_goals w_on
 case str z=>
  have hz:z∈(["a","","b","aa","a\n"]:ay):=hx;refine⟨W_ z hz,d7 z.cps.toList (λc=>PV.str ⟨#[c]⟩) (λc=>.bl (sgn c)) (by have:=Xa z hz;omega) (λB c hc R hR=>?_) ?_⟩
  ·w_on
   have e1:decide ([c]<(Str.ofString " ").cps.toList)=decide (c<32):=by
    rw[show(Str.ofString " ").cps.toList=[32] by decide +kernel];exact decide_eq_decide.mpr (HP _ _)
   have e2:decide ((Str.ofString "~").cps.toList<[c])=decide (126<c):=by
    rw[show(Str.ofString "~").cps.toList=[126] by decide +kernel];exact decide_eq_decide.mpr (HP _ _)
   rw[e1];refine b_ (λe=>?_) λe=>?_
   ·have:sgn c=false:=by unfold sgn;simp at e ⊢;omega
    rw[<- this];exact hR _ ⟨rfl,rfl⟩ rfl
   ·w_on;rw[e2]
    have:(!decide (126<c))=sgn c:=by
     unfold sgn;have:32<=c:=by simpa using e
     rw[decide_eq_true this,Bool.true_and];by_cases q:126<c
     ·rw[decide_eq_true q,decide_eq_false (by omega)];rfl
     ·rw[decide_eq_false q,decide_eq_true (by omega)];rfl
    rw[this];exact hR _ ⟨rfl,rfl⟩ rfl
  ·w_on;rw[Xb z hz]
 all_goals first|rfl|(refine ao false rfl ?_;exact d8 rfl rfl)
theorem Xg:bH ["thing"] ["thing"] (aT wF):=by walk_at "s"
theorem Xh {k:Nat}(D:Df K mg "is_kind" wF)(B:Bt mg)(uK:Gc K mg "KINDS" (.tup [.str "number",.str "text"])):Kn P w K mg base (k+1) "is_kind" (a_ K false (eL HV)):=by
 refine D.c6 Xg (λ_ _ _ _ _ _=>mC λ_=>rfl) (λ_ _=>eL.len) (by decide) (λf aF A outer s H E hr=>⟨_,(s1 (bx (lx (gX .str rfl B.isinstance B.str PyProof.Rows.boot_str (qn 0)) (lu (QY rfl hr (qn 0) (qv (vg uK))))))),λB' xs r h=>?_⟩);obtain⟨x0,rfl,h⟩:=h;change (_:US) (cH false r) ⟨B',[some (.val x0)],none⟩;obtain⟨z,rfl,hz,rfl⟩:=h;w_on;refine ao (.bl true) ?_ rfl;show jv false (.str z) (.tup ([("number":Str),"text"].map PV.str)) (.bl true);rw[T6];rcases hz with rfl|rfl<;>rfl
theorem Xi:bH ["thing","kind"] ["thing","kind"] (aT wG):=by walk_at "s"
theorem Xj {k:Nat}(D:Df K mg "is_of" wG)(B:Bt mg)(H_:Kn P w K mg base k "is_text" (a_ K false (eL HU)))(Ia:Kn P w K mg base k "is_kind" (a_ K false (eL HV)))(Ib:Kn P w K mg base k "is_whole" (a_ K false (eL HS))):Kn P w K mg base (k+1) "is_of" (a_ K false (bc HW)):=by
 refine D.c6 Xi (λ_ _ _ _ _ _=>dj λ_ _=>rfl) (λ_ _=>bc.len) (by decide) (λf aF A outer s H E hr=>⟨_,(sc (bW (jo (gM rfl (qv (cM rfl Ia hr (ac (vn 1) an))))) (s1 (bx vb)) sn)
  (sc (bW (mQ (qn 0) (qv v0)) (s1 (bx vb)) sn)
  (sc (bW (gq rfl hr (qn 1) (qv vs)) (s1 (bx (cM rfl Ib hr (ac (vn 0) an)))) sn)
  (s1 (bx (cM rfl H_ hr (ac (vn 0) an))))))),λB' xs r h=>?_⟩)
 obtain⟨x0,x1,rfl,h⟩:=h;change (_:US) (cH false r) ⟨B',[some (.val x0),some (.val x1)],none⟩;obtain⟨k,hx,rfl,hk,rfl⟩:=h;w_on;refine ao (.bl true) ⟨k,rfl,hk,rfl⟩ ?_;w_on;cases x0<;>first|exact hx.elim|skip
 all_goals w_on
 case ai=>rfl
 case bl b=>refine ao false rfl (d8 rfl ?_);w_on;refine b_ (λe=>?_) λe=>?_;(w_on;refine ao _ ⟨hx,rfl⟩ ?_;w_on;exact HX e rfl rfl);(w_on;refine ao _ ⟨hx,rfl⟩ ?_;w_on;exact HY e rfl rfl)
 all_goals (refine b_ (λe=>?_) λe=>?_;(w_on;refine ao _ ⟨hx,rfl⟩ ?_;w_on;exact HX e rfl rfl);(w_on;refine ao _ ⟨hx,rfl⟩ ?_;w_on;exact HY e rfl rfl))
noncomputable def tabAt (ts:List Tab)(n:Str):Option Tab:=ts.find? λt=>t.n==n
noncomputable def oT:Option Tab->PV
 |none=>.ai
 |some t=>pT t
def Ic (x y r:PV):Prop:=∃ ts n,x=.tup (ts.map pT)/\y=.str n/\r=oT (tabAt ts n)
theorem uL {α:Type}{p:α->Bool}:∀{d r:List α}{x:α},(∀ y∈d,p y=false)->p x=true->(d++x::r).find? p=some x
 |[],r,x,_,h=>by rw[nil_append,find?_cons,h]
 |a::d,r,x,hd,h=>by rw[cons_append,find?_cons,hd a (by simp)];exact uL (λy hy=>hd y (by simp [hy])) h
theorem uM {α:Type}{p:α->Bool}{d:List α}(h:∀ y∈d,p y=false):d.find? p=none:=find?_eq_none.mpr λy hy z=>by rw[h y hy] at z;cases z
theorem Ie:bH ["tables","name","table"] ["tables","name"] (aT wH):=by walk_at "s"
theorem Xk {k:Nat}(D:Df K mg "named_among" wH)(B:Bt mg):Kn P w K mg base (k+1) "named_among" (a_ K false (bc Ic)):=by
 refine D.c6 Ie (λ_ _ _ _ _ _=>dj λ_ _=>rfl) (λ_ _=>bc.len) (by decide) (λf aF A outer s H E hr=>⟨_,(sc (cj PassesOwn.never rfl (dn rfl 0) (aE (i:=2) Ie.nd)
  (s1 (bW (gq rfl hr (qv (aA rfl hr (qn 2) (qv vi))) (qn 1)) (s1 (bx (vn 2))) sn)))
  (s1 (bx v0))),λB' xs r h=>?_⟩)
 obtain⟨x0,x1,rfl,h⟩:=h;change (_:US) (cH false r) ⟨B',[some (.val x0),some (.val x1),none],none⟩;obtain⟨ts,n,rfl,rfl,rfl⟩:=h;w_on;refine df ts pT (λd A=>∃ o,A=⟨B',[some (.val (.tup (ts.map pT))),some (.val (.str n)),o],none⟩/\∀ t∈d,(t.n==n)=false) ⟨_,rfl,λ_ h=>by cases h⟩ (λ_ _ _=>trivial) ?_ ?_
 ·rintro d x r A2 e ⟨o,rfl,hn⟩;simp only[pT];w_on;refine b_ (λh=>?_) λh=>?_
  ·w_on;unfold tabAt;rw[e,uL hn h];rfl
  ·w_on;refine⟨_,rfl,λt ht=>?_⟩;rcases mem_append.mp ht with z|z
   ·exact hn t z
   ·rw[mem_singleton.mp z];exact h
 ·rintro A2 ⟨o,rfl,hn⟩;w_on;unfold tabAt;rw[uM hn];rfl
noncomputable def cx (t:Tab):ay:=t.cs.map fv.n
def Ig (x r:PV):Prop:=∃ t,x=pT t/\t.cs.length<=900/\r=.lst ((cx t).map PV.str)
theorem Xl:bH ["table"] ["table"] (aT wI):=by walk_at "s"
theorem Xm {k:Nat}(D:Df K mg "column_names" wI)(B:Bt mg):Kn P w K mg base (k+1) "column_names" (a_ K true (eL Ig)):=by
 refine D.c6 Xl (λ_ _ _ _ _ _=>mC λ_=>rfl) (λ_ _=>eL.len) (by decide) (λf aF A outer s H E hr=>⟨_,(s1 (sR (eJ (N:=["column"]) (k:=1) (ix:=[]) cS rfl (iv rfl (aA rfl hr (qn 0) (qv vi))) (λ_ _ _ _=>(aE (i:=0) (by show(["column"]:ay).Nodup;decide +kernel))) (λ_ _ _ _=>cX) (λ_ _ _ _=>(aA rfl hr (qn 0) (qv vi)))))),λB' xs r h=>?_⟩);obtain⟨x0,rfl,h⟩:=h;change (_:US) (cH true r) ⟨B',[some (.val x0)],none⟩;obtain⟨t,rfl,aK,rfl⟩:=h;simp only[pT];w_on;refine d7 t.cs pC (λc=>.str c.n) (oR aK) ?_ ?_
 ·intro B x hx R hR;simp only[pC];w_on;exact hR _ ⟨rfl,rfl⟩ rfl
 w_on;unfold cx;rw[map_map];rfl
def Ih (x y r:PV):Prop:=∃(ts:List Tab)(q:PV)(n:Str),x=.tup [.tup (ts.map pT),q]/\y=.str n/\r=oT (tabAt ts n)
theorem Xn:bH ["frame","name"] ["frame","name"] (aT wJ):=by walk_at "s"
theorem Xo {k:Nat}(D:Df K mg "table_named" wJ)(B:Bt mg)(Ii:Kn P w K mg base k "named_among" (a_ K false (bc Ic))):Kn P w K mg base (k+1) "table_named" (a_ K false (bc Ih)):=by
 refine D.c6 Xn (λ_ _ _ _ _ _=>dj λ_ _=>rfl) (λ_ _=>bc.len) (by decide) (λf aF A outer s H E hr=>⟨_,(s1 (bx (cM rfl Ii hr (ac (aA rfl hr (qn 0) (qv vi)) (ac (vn 1) an))))),λB' xs r h=>?_⟩);obtain⟨x0,x1,rfl,h⟩:=h;change (_:US) (cH false r) ⟨B',[some (.val x0),some (.val x1)],none⟩;obtain⟨ts,q,n,rfl,rfl,rfl⟩:=h;w_on;refine ao (oT (tabAt ts n)) ⟨ts,n,rfl,rfl,rfl⟩ ?_;rfl
noncomputable def nn:PV->Bool
 |.ai=>false
 |_=>true
noncomputable def dg (p:PV×fv):Bool:=ed p.2.k p.1&&(p.2.m||nn p.1)
noncomputable def cb (x:PV)(cs:List fv):Bool:=match x with
 |.tup xs=>decide (xs.length=cs.length)&&(xs.zip cs).all dg
 |_=>false
theorem Ij (xs:af)(cs:List fv):eZ xs (cs.map pC)=(xs.zip cs).map λp=>.tup [p.1,pC p.2]:=by
 unfold eZ;rw[zip_map_right,map_map];rfl
theorem Xp {x:PV}(h:Vx x):jt x .ai (.bl (!nn x)):=by
 cases x<;>first|exact h.elim|rfl
def Rx (x:PV):Prop:=match x with
 |.tup xs=>(∀ y∈xs,Vx y)/\xs.length<=9
 |.lst xs=>(∀ y∈xs,Vx y)/\xs.length<=9
 |_=>False
def Ik (x y r:PV):Prop:=∃ cs:List fv,Rx x/\y=.tup (cs.map pC)/\cs.length<=9/\(∀ c∈cs,i7 c.k)/\r=.bl (cb x cs)
theorem zS:bH ["row","columns","value","column"] ["row","columns"] (aT wK):=by walk_at "s"
theorem Xq {k:Nat}(D:Df K mg "fits" wK)(B:Bt mg)(Il:Kn P w K mg base k "is_of" (a_ K false (bc HW))):Kn P w K mg base (k+1) "fits" (a_ K false (bc Ik)):=by
 refine D.c6 zS (λ_ _ _ _ _ _=>dj λ_ _=>rfl) (λ_ _=>bc.len) (by decide) (λf aF A outer s H E hr=>⟨_,(sc (bW (PW.pt (lr (jo (gM rfl (qv (gX .tuple rfl B.isinstance B.tuple PyProof.Rows.boot_tuple (qn 0))))) (mJ (oq rfl hr (qv (du rfl B.len (qn 0))) (qv (du rfl B.len (qn 1))))))) (s1 (bx vb)) sn)
  (sc (cj PassesOwn.never rfl (Gj rfl B.zip (vn 0) (vn 1)) (eI (n:=2) rfl rfl (bJ (aE (i:=2) zS.nd) (bJ (aE (i:=3) zS.nd) eG)))
  (s1 (bW (PW.pt (lr (jo (gM rfl (qv (cM rfl Il hr (ac (vn 2) (ac (aA rfl hr (qn 3) (qv vi)) an)))))) (mJ (PW.pt (lq (mQ (qn 2) (qv v0)) (lh (jo (gM rfl (qv (aA rfl hr (qn 3) (qv vi))))))))))) (s1 (bx vb)) sn)))
  (s1 (bx vb)))),λB' xs r h=>?_⟩)
 obtain⟨x0,x1,rfl,h⟩:=h;change (_:US) (cH false r) ⟨B',[some (.val x0),some (.val x1),none,none],none⟩;obtain⟨cs,hx,rfl,hl,hk,rfl⟩:=h;cases x0<;>first|exact hx.elim|skip
 case lst xs=>
  w_on;refine ao false rfl ?_;refine d8 rfl ?_;w_on;rfl
 case tup xs=>
  have hv:∀ y∈xs,Vx y:=hx.1;w_on;refine b_ (λe=>?_) λe=>?_
  ·have el:xs.length=cs.length:=by simp at e;omega
   w_on;rw[Ij];refine df (xs.zip cs) (λp=>.tup [p.1,pC p.2]) (λd A=>∃ o1 o2,A=⟨B',[some (.val (.tup xs)),some (.val (.tup (cs.map pC))),o1,o2],none⟩/\∀ q∈d,dg q=true) ⟨none,none,rfl,λ_ h=>by cases h⟩ (λ_ _ _=>trivial) ?_ ?_
   ·rintro d ⟨x,c⟩ r A2 e ⟨o1,o2,rfl,hd⟩;have hm:(x,c)∈xs.zip cs:=by rw[e];simp
    have m_:=hv x (of_mem_zip hm).1;have wA:=hk c (of_mem_zip hm).2
    have bad:dg (x,c)=false->false=cb (.tup xs) cs:=λh=>by
     show false=(decide (xs.length=cs.length)&&(xs.zip cs).all dg);have:(xs.zip cs).all dg=false:=all_eq_false.mpr ⟨(x,c),hm,by simp [h]⟩;rw[this,Bool.and_false]
    simp only[pC];w_on;refine ao (.bl (ed c.k x)) ⟨c.k,m_,rfl,wA,rfl⟩ ?_;w_on
    have good:dg (x,c)=true->∀ q∈d++[(x,c)],dg q=true:=λh q hq=>by
     rcases mem_append.mp hq with z|z
     ·exact hd q z
     ·rw[mem_singleton.mp z];exact h
    refine b_ (λe1=>?_) λe1=>?_
    ·w_on;refine ao _ (Xp m_) ?_;refine b_ (λe2=>?_) λe2=>?_
     ·w_on;refine b_ (λe3=>?_) λe3=>?_
      ·w_on;exact⟨_,_,rfl,good (by show(ed c.k x&&(c.m||nn x))=true;rw[e1,e3];rfl)⟩
      ·w_on;exact bad (by show(ed c.k x&&(c.m||nn x))=false;rw[e1,e3,show nn x=false by simpa using e2];rfl)
     ·w_on;exact⟨_,_,rfl,good (by show(ed c.k x&&(c.m||nn x))=true;rw[e1,show nn x=true by simpa using e2,Bool.or_true];rfl)⟩
    ·w_on;exact bad (by show(ed c.k x&&(c.m||nn x))=false;rw[e1];rfl)
   ·rintro A2 ⟨o1,o2,rfl,hd⟩;w_on;show true=(decide (xs.length=cs.length)&&(xs.zip cs).all dg);rw[decide_eq_true el,all_eq_true.mpr hd];rfl
  ·w_on;show false=(decide (xs.length=cs.length)&&(xs.zip cs).all dg);rw[decide_eq_false (by simp at e;omega),Bool.false_and]
noncomputable def cN (xs:af)(js:List Nat):af:=js.map λj=>xs.getD j .ai
noncomputable def dv (js:List Nat):PV:=.lst (js.map λj=>.int (j:Nat))
def zT (x y r:PV):Prop:=∃(xs:af)(js:List Nat),x=.tup xs/\y=dv js/\(∀ j∈js,j<xs.length)/\js.length<=900/\r=.tup (cN xs js)
noncomputable def aq (t:Tab)(n:Str):Nat:=(cx t).idxOf n
def lL (x y r:PV):Prop:=∃(t:Tab)(ns:ay),x=pT t/\y=pS ns/\(∀ n∈ns,n∈cx t)/\t.cs.length<=900/\ns.length<=900/\r=dv (ns.map (aq t))
theorem hZ {xs:af}{j:Nat}(h:j<xs.length):b9 xs (j:Int)=some (xs.getD j .ai):=by
 have e:iU xs.length (j:Int)=some j:=by
  unfold iU;rw[if_pos (by omega),if_pos (by omega)];simp
 unfold b9;rw[e];simp [h]
theorem zU:∀{ns:ay}{n:Str},n∈ns->(∃ p,(ns.map PV.str)[ns.idxOf n]?=some p/\a8 p (.str n)=true)/\∀ m p,m<ns.idxOf n->(ns.map PV.str)[m]?=some p->a8 p (.str n)=false
 |[],n,h=>by cases h
 |a::l,n,h=>by
  rw[idxOf_cons];by_cases e:(a==n)=true
  ·rw[e];exact⟨⟨.str a,rfl,e⟩,λm p hm=>absurd hm (Nat.not_lt_zero _)⟩
  ·have e':(a==n)=false:=by simpa using e
   rw[e']
   have hn:n∈l:=by
    rcases mem_cons.mp h with z|z
    ·exact absurd (by simp [z]) e
    ·exact z
   obtain⟨⟨p,h1,h2⟩,h3⟩:=zU hn;refine⟨⟨p,by simpa using h1,h2⟩,λm q hm hq=>?_⟩
   cases m with
   |zero=>
    cases hq;exact e'
   |succ m=>exact h3 m q (by simpa using hm) (by simpa using hq)
theorem lM {α:Type}{rs:List α}{d r:List (α×Nat)}{x:α}{i:Nat}(e:rs.zipIdx=d++(x,i)::r):i=d.length/\rs=d.map Prod.fst++x::r.map Prod.fst:=by
 have h1:rs.zipIdx[d.length]?=some (x,i):=by rw[e];simp
 rw[getElem?_zipIdx] at h1;obtain⟨y,_,h3⟩:=Option.map_eq_some_iff.mp h1;have h4:rs=(rs.zipIdx).map Prod.fst:=by simp
 refine⟨by cases h3;simp,?_⟩;rw[h4,e];simp
theorem uN {α:Type}{p:α->Bool}{rs:List α}{d r:List (α×Nat)}{x:α}{i:Nat}(e:rs.zipIdx=d++(x,i)::r)(hd:∀ q∈d,p q.1=false)(hx:p x=true):rs.findIdx? p=some i:=by
 obtain⟨h1,h2⟩:=lM e;rw[h2,findIdx?_append]
 have:(d.map Prod.fst).findIdx? p=none:=findIdx?_eq_none_iff.mpr λy hy=>by
  obtain⟨q,hq,rfl⟩:=mem_map.mp hy;exact hd q hq
 rw[this];simp [findIdx?_cons,hx,h1]
theorem uO {α:Type}{p:α->Bool}{rs:List α}(hd:∀ q∈rs.zipIdx,p q.1=false):rs.findIdx? p=none:=findIdx?_eq_none_iff.mpr λy hy=>by
 have h4:rs=(rs.zipIdx).map Prod.fst:=by simp
 rw[h4] at hy;obtain⟨q,hq,rfl⟩:=mem_map.mp hy;exact hd q hq
theorem Xr:bH ["row","places"] ["row","places"] (aT wL):=by walk_at "s"
theorem Xs {k:Nat}(D:Df K mg "values_at" wL)(B:Bt mg):Kn P w K mg base (k+1) "values_at" (a_ K false (bc zT)):=by
 refine D.c6 Xr (λ_ _ _ _ _ _=>dj λ_ _=>rfl) (λ_ _=>bc.len) (by decide) (λf aF A outer s H E hr=>⟨_,(s1 (bx (j9 rfl B.tuple (qf (eJ (N:=["place","row"]) (k:=1) (ix:=[0]) cS rfl (dn rfl 1) (λ_ _ _ _=>(aE (i:=0) (by show(["place","row"]:ay).Nodup;decide +kernel))) (λ_ _ _ _=>cX) (λ_ _ _ _=>(aA rfl hr (qn 1) (qn 0)))))))),λB' xs r h=>?_⟩);obtain⟨x0,x1,rfl,h⟩:=h;change (_:US) (cH false r) ⟨B',[some (.val x0),some (.val x1)],none⟩;obtain⟨xs,js,rfl,rfl,hj,hl,rfl⟩:=h;unfold dv;w_on;refine d7 js (λj=>.int (j:Nat)) (λj=>xs.getD j .ai) (oR hl) ?_ ?_
 ·intro B j yB R hR;w_on;refine ao _ (hZ (hj j yB)) ?_;w_on;exact hR _ ⟨rfl,rfl⟩ rfl
 w_on;rfl
theorem Im:bH ["table","names","known"] ["table","names"] (aT wM):=by walk_at "s"
theorem Xu {k:Nat}(D:Df K mg "places_of" wM)(B:Bt mg)(Io:Kn P w K mg base k "column_names" (a_ K true (eL Ig))):Kn P w K mg base (k+1) "places_of" (a_ K true (bc lL)):=by
 refine D.c6 Im (λ_ _ _ _ _ _=>dj λ_ _=>rfl) (λ_ _=>bc.len) (by decide) (λf aF A outer s H E hr=>⟨_,(sc (bI (i:=2) Im.nd (vf (gS rfl Io hr (ac (vn 0) an))))
  (s1 (sR (eJ (N:=["name","known"]) (k:=1) (ix:=[2]) cS rfl (dn rfl 1) (λ_ _ _ _=>(aE (i:=0) (by show(["name","known"]:ay).Nodup;decide +kernel))) (λ_ _ _ _=>cX) (λ_ _ _ _=>(Gm rfl hr 1 (vn 0))))))),λB' xs r h=>?_⟩)
 obtain⟨x0,x1,rfl,h⟩:=h;change (_:US) (cH true r) ⟨B',[some (.val x0),some (.val x1),none],none⟩;obtain⟨t,ns,rfl,rfl,hn,h1,h2,rfl⟩:=h;w_on;refine ao (.lst ((cx t).map PV.str)) ⟨t,rfl,h1,rfl⟩ ?_;unfold pS;w_on;refine d7 ns PV.str (λn=>.int (aq t n:Nat)) (oR h2) ?_ ?_
 ·intro B n f9 R hR;w_on;obtain⟨q1,q2⟩:=zU (hn n f9);exact⟨_,aq t n,rfl,⟨0,by decide,gu _ _,λp hp=>by obtain⟨s,_,rfl⟩:=mem_map.mp hp;exact gu _ _⟩,q1,q2,hR _ ⟨rfl,rfl⟩ rfl⟩
 w_on;unfold dv;rw[map_map];rfl
noncomputable def nh (t:Tab):Option Nat->PV
 |none=>.ai
 |some i=>.tup [.str "kind",.str t.n,.int (i:Nat)]
def Ip (x y r:PV):Prop:=∃(t:Tab)(rs:af),x=pT t/\y=.lst rs/\(∀ r∈rs,Rx r)/\t.cs.length<=9/\(∀ c∈t.cs,i7 c.k)/\r=nh t (rs.findIdx? λr=>!cb r t.cs)
theorem zV:bH ["table","rows","number","row"] ["table","rows"] (aT wN):=by walk_at "s"
theorem Xv {k:Nat}(D:Df K mg "kind_break" wN)(B:Bt mg)(Iq:Kn P w K mg base k "fits" (a_ K false (bc Ik))):Kn P w K mg base (k+1) "kind_break" (a_ K false (bc Ip)):=by
 refine D.c6 zV (λ_ _ _ _ _ _=>dj λ_ _=>rfl) (λ_ _=>bc.len) (by decide) (λf aF A outer s H E hr=>⟨_,(sc (cj PassesOwn.never rfl (qQ rfl B.enumerate (vn 1)) (eI (n:=2) rfl rfl (bJ (aE (i:=2) zV.nd) (bJ (aE (i:=3) zV.nd) eG)))
  (s1 (bW (jo (gM rfl (qv (cM rfl Iq hr (ac (vn 3) (ac (aA rfl hr (qn 0) (qv vi)) an)))))) (s1 (bx (et (ac vs (ac (aA rfl hr (qn 0) (qv vi)) (ac (vn 2) an)))))) sn)))
  (s1 (bx v0))),λB' xs r h=>?_⟩)
 obtain⟨x0,x1,rfl,h⟩:=h;change (_:US) (cH false r) ⟨B',[some (.val x0),some (.val x1),none,none],none⟩;obtain⟨t,rs,rfl,rfl,Xw,hl,hk,rfl⟩:=h;simp only[pT];w_on;unfold d9;refine df rs.zipIdx (λp=>.tup [.int p.2,p.1]) (λd A=>∃ o1 o2,A=⟨B',[some (.val (pT t)),some (.val (.lst rs)),o1,o2],none⟩/\∀ q∈d,(!cb q.1 t.cs)=false) ⟨none,none,rfl,λ_ h=>by cases h⟩ (λ_ _ _=>trivial) ?_ ?_
 ·rintro d ⟨x,i⟩ r A2 e ⟨o1,o2,rfl,hd⟩;have hm:x∈rs:=by rw[(lM e).2];simp
  simp only[pT];w_on;refine ao (.bl (cb x t.cs)) ⟨t.cs,Xw x hm,rfl,hl,hk,rfl⟩ ?_;w_on;refine b_ (λe1=>?_) λe1=>?_
  ·w_on
   exact⟨_,_,rfl,λq hq=>by
    rcases mem_append.mp hq with z|z
    ·exact hd q z
    ·rw[mem_singleton.mp z];simp [e1]⟩
  ·w_on;rw[uN e hd (by simp [e1])];rfl
 ·rintro A2 ⟨o1,o2,rfl,hd⟩;w_on;rw[uO hd];rfl
noncomputable def cZ:PV->af
 |.tup xs=>xs
 |_=>[]
noncomputable def bo (t:Tab)(key:ay)(rs:af):List (af):=rs.map λr=>cN (cZ r) (key.map (aq t))
noncomputable def dup (vs:List (af)):Option (Nat×Nat):=(range vs.length).findSome? λj=>((range j).find? λi=>bj (vs.getD i []) (vs.getD j [])).map λi=>(i,j)
noncomputable def km (t:Tab)(n:Nat):Option (Nat×Nat)->PV
 |none=>.ai
 |some (i,j)=>.tup [.str "key",.str t.n,.int (n:Nat),.int (i:Nat),.int (j:Nat)]
structure lO (t:Tab):Prop where
 aK:t.cs.length<=9
 kinds:∀ c∈t.cs,i7 c.k
 keys:∀ key∈t.ks,key.length<=9/\∀ n∈key,∃ c∈t.cs,c.n=n/\c.m=false
 kl:t.ks.length<=9
 ne:∀ key∈t.ks,key≠[]
 nd:(cx t).Nodup
def Good (t:Tab)(rs:af):Prop:=(∀ r∈rs,Rx r/\cb r t.cs=true)/\rs.length<=100
def Ir (x y z r:PV):Prop:=∃(t:Tab)(rs:af)(n:Nat)(key:ay),x=pT t/\y=.lst rs/\z=.int (n:Nat)/\t.ks[n]?=some key/\lO t/\Good t rs/\r=km t n (dup (bo t key rs))
noncomputable def bR (l:af):PV:=(l.find? nn).getD .ai
noncomputable def iF (t:Tab)(rs:af):af:=(range t.ks.length).map λn=>km t n (dup (bo t (t.ks.getD n []) rs))
def Iu (x y r:PV):Prop:=∃(t:Tab)(rs:af),x=pT t/\y=.lst rs/\lO t/\Good t rs/\r=bR (iF t rs)
theorem Xx (t:Tab)(n:Nat)(o:Option (Nat×Nat)):ox (km t n o) .ai (.bl (nn (km t n o))):=by
 rcases o with _|⟨i,j⟩<;>rfl
theorem qZ {d r:af}{x:PV}(hd:∀ y∈d,nn y=false)(hx:nn x=true):bR (d++x::r)=x:=by
 unfold bR;rw[uL hd hx];rfl
theorem ni {l:af}(h:∀ y∈l,nn y=false):bR l=.ai:=by
 unfold bR;rw[uM h];rfl
theorem zW {n i:Nat}{f:Nat->PV}(hi:i<n)(h:∀ m,m<i->nn (f m)=false)(hx:nn (f i)=true):bR ((range n).map f)=f i:=by
 have e:range n=range i++i::(range n).drop (i+1):=by
  have h1:(range n).take i=range i:=by rw[take_range];congr 1;omega
  have h2:(range n).drop i=i::(range n).drop (i+1):=by
   rw[drop_eq_getElem_cons (by simpa using hi)];simp
  rw[<- h1,<- h2,take_append_drop]
 rw[e,map_append,map_cons]
 exact qZ (λy hy=>by
  obtain⟨m,hm,rfl⟩:=mem_map.mp hy
  exact h m (mem_range.mp hm)) hx
theorem uP {n:Nat}{f:Nat->PV}(h:∀ m,m<n->nn (f m)=false):bR ((range n).map f)=.ai:=ni λy hy=>by
 obtain⟨m,hm,rfl⟩:=mem_map.mp hy;exact h m (mem_range.mp hm)
theorem zX:bH ["table","rows","number","found"] ["table","rows"] (aT wQ):=by walk_at "s"
theorem Xy {k:Nat}(D:Df K mg "keys_break" wQ)(B:Bt mg)(Iv:Kn P w K mg base k "key_break" (a_ K false (gZ Ir))):Kn P w K mg base (k+1) "keys_break" (a_ K false (bc Iu)):=by
 refine D.c6 zX (λ_ _ _ _ _ _=>dj λ_ _=>rfl) (λ_ _=>bc.len) (by decide) (λf aF A outer s H E hr=>⟨_,(sc (cj PassesOwn.never rfl (j0 (by rfl) B.range (du rfl B.len (qv (aA rfl hr (qn 0) (qv vi))))) (aE (i:=2) zX.nd)
  (sc (bI (i:=3) zX.nd (cM rfl Iv hr (ac (vn 0) (ac (vn 1) (ac (vn 2) an)))))
  (s1 (bW (qt (qn 3) (qv v0)) (s1 (bx (vn 3))) sn))))
  (s1 (bx v0))),λB' xs r h=>?_⟩)
 obtain⟨x0,x1,rfl,h⟩:=h;change (_:US) (cH false r) ⟨B',[some (.val x0),some (.val x1),none,none],none⟩;obtain⟨t,rs,rfl,rfl,ok,good,rfl⟩:=h;have kl:=ok.kl
 let kb:Nat->PV:=λn=>km t n (dup (bo t (t.ks.getD n []) rs))
 simp only[pT];w_on;have el:(((t.ks.map pS).length:Nat):Int).toNat=t.ks.length:=by simp
 rw[el];refine⟨by simp;omega,by omega,mZ t.ks.length (λi A=>∃ o1 o2,A=⟨B',[some (.val (pT t)),some (.val (.lst rs)),o1,o2],none⟩/\∀ m,m<i->nn (kb m)=false) ⟨none,none,rfl,λm h=>by omega⟩ (λ_ _ _=>trivial) ?_ ?_⟩
 ·rintro i _ hi ⟨o1,o2,rfl,hm⟩;w_on;have ek:t.ks[i]?=some (t.ks.getD i []):=by simp [hi]
  refine ao (kb i) ⟨t,rs,i,t.ks.getD i [],rfl,rfl,rfl,ek,ok,good,rfl⟩ ?_;w_on;refine ao _ (Xx t i _) ?_;refine b_ (λe=>?_) λe=>?_
  ·w_on;exact(zW hi hm e).symm
  ·w_on;refine⟨_,_,rfl,λm h=>?_⟩;by_cases z:m=i
   ·rw[z];exact e
   ·exact hm m (by omega)
 ·rintro _ ⟨o1,o2,rfl,hm⟩;w_on;exact(uP hm).symm
noncomputable def rowsOf (kvs:aN)(n:Str):af:=match bP kvs (.inr n) with
 |some (.lst rs)=>rs
 |_=>[]
def jB (ts:List Tab)(kvs:aN):Prop:=∀ t∈ts,bP kvs (.inr t.n)=some (.lst (rowsOf kvs t.n))/\(∀ r∈rowsOf kvs t.n,Rx r)/\(rowsOf kvs t.n).length<=100
noncomputable def pF (ts:List Tab)(ps:List cY):PV:=.tup [.tup (ts.map pT),.tup (ps.map pP)]
noncomputable def fY (ts:List Tab)(kvs:aN)(p:cY):Option Nat:=match tabAt ts p.t,tabAt ts p.g with
 |some t,some g=>(bo t p.cs (rowsOf kvs p.t)).findIdx? λv=>v.all nn&&!((bo g p.k (rowsOf kvs p.g)).any λu=>bj u v)
 |_,_=>none
noncomputable def ko (n:Nat):Option Nat->PV
 |none=>.ai
 |some i=>.tup [.str "point",.int (n:Nat),.int (i:Nat)]
structure i8 (ts:List Tab)(ps:List cY):Prop where
 tl:ts.length<=9
 pl:ps.length<=9
 tab:∀ t∈ts,lO t
 nd:(ts.map Tab.n).Nodup
 uQ:∀ p∈ps,∃ t g,tabAt ts p.t=some t/\tabAt ts p.g=some g/\p.k∈g.ks/\p.cs.length=p.k.length/\∀ n∈p.cs,n∈cx t
def uR (ts:List Tab)(kvs:aN):Prop:=∀ t∈ts,Good t (rowsOf kvs t.n)
def Iw (x y z r:PV):Prop:=∃(ts:List Tab)(ps:List cY)(kvs:aN)(n:Nat)(p:cY),x=pF ts ps/\y=.ah kvs/\z=.int (n:Nat)/\ps[n]?=some p/\i8 ts ps/\jB ts kvs/\uR ts kvs/\r=ko n (fY ts kvs p)
noncomputable def h_ (ts:List Tab)(kvs:aN):af:=ts.map λt=>nh t ((rowsOf kvs t.n).findIdx? λr=>!cb r t.cs)
noncomputable def nj (ts:List Tab)(ps:List cY)(kvs:aN):af:=(ts.map λt=>bR (iF t (rowsOf kvs t.n)))++(range ps.length).map λn=>ko n ((ps[n]?).bind (fY ts kvs))
noncomputable def i9 (ts:List Tab)(ps:List cY)(kvs:aN):PV:=if nn (bR (h_ ts kvs)) then bR (h_ ts kvs) else bR (nj ts ps kvs)
def Iy (x y r:PV):Prop:=∃(ts:List Tab)(ps:List cY)(kvs:aN),x=pF ts ps/\y=.ah kvs/\i8 ts ps/\jB ts kvs/\r=i9 ts ps kvs
theorem q_ {A1:AS}{g:UG}{C:bX}{ub:US}{E:fo}(l:af)(I:af->AS->Prop)(h0:I [] A1)(hC:∀ d A2,I d A2->C A2)
  (step:∀ d x r A2,l=d++x::r->I d A2->g x A2 λA3=>ub { E with nx:=I (d++[x]),ct:=I (d++[x]),bk:=E.nx } A3)(fin:∀ A2,I l A2->E.nx A2):mL l C A1 g ub E:=by
 have q:=df (C:=C) (ub:=ub) (E:=E) (A1:=A1) (g:=g) l id I h0 hC step fin;rwa [map_id] at q
theorem Iz {x:PV}(h:∀ v,x≠.raw v):ox x .ai (.bl (nn x)):=by
 cases x<;>first|rfl|exact absurd rfl (h _)
theorem Xz {t:Tab}{o:Option Nat}:∀ v,nh t o≠.raw v:=by
 intro v h;cases o<;>cases h
theorem XA {t:Tab}{n:Nat}{o:Option (Nat×Nat)}:∀ v,km t n o≠.raw v:=by
 intro v h;rcases o with _|⟨i,j⟩<;>cases h
theorem XB {n:Nat}{o:Option Nat}:∀ v,ko n o≠.raw v:=by
 intro v h;cases o<;>cases h
theorem uS {l:af}(h:∀ y∈l,∀ v,y≠.raw v):∀ v,bR l≠.raw v:=λv e=>by
 unfold bR at e
 cases q:l.find? nn with
 |none=>rw[q] at e;cases e
 |some x=>rw[q] at e;exact h x (mem_of_find?_eq_some q) v e
theorem zY {ts:List Tab}{kvs:aN}:∀ y∈h_ ts kvs,∀ v,y≠.raw v:=λy hy=>by
 obtain⟨t,_,rfl⟩:=mem_map.mp hy;exact Xz
theorem IA {ts:List Tab}{ps:List cY}{kvs:aN}:∀ y∈nj ts ps kvs,∀ v,y≠.raw v:=λy hy=>by
 rcases mem_append.mp hy with z|z
 ·obtain⟨t,_,rfl⟩:=mem_map.mp z
  exact uS λy hy=>by
   obtain⟨n,_,rfl⟩:=mem_map.mp hy;exact XA
 ·obtain⟨n,_,rfl⟩:=mem_map.mp z;exact XB
theorem IB {ts:List Tab}{kvs:aN}(dh:jB ts kvs)(h:∀ y∈h_ ts kvs,nn y=false):uR ts kvs:=λt ht=>by
 refine⟨λr hr=>⟨(dh t ht).2.1 r hr,?_⟩,(dh t ht).2.2⟩;have q:=h _ (mem_map.mpr ⟨t,ht,rfl⟩)
 cases e:(rowsOf kvs t.n).findIdx? λr=>!cb r t.cs with
 |some i=>rw[e] at q;cases q
 |none=>
  have:=findIdx?_eq_none_iff.mp e r hr;simpa using this
theorem rg:bH ["frame","book","found","one"] ["frame","book"] (aT wU):=by walk_at "s"
theorem XC {k:Nat}(D:Df K mg "first_break" wU)(B:Bt mg)(IC:Kn P w K mg base k "kind_break" (a_ K false (bc Ip)))(ID:Kn P w K mg base k "keys_break" (a_ K false (bc Iu)))(IE:Kn P w K mg base k "point_break" (a_ K false (gZ Iw))):Kn P w K mg base (k+1) "first_break" (a_ K false (bc Iy)):=by
 refine D.c6 rg (λ_ _ _ _ _ _=>dj λ_ _=>rfl) (λ_ _=>bc.len) (by decide) (λf aF A outer s H E hr=>⟨_,(sc (E2 (i:=2) rg.nd (N:=["table","book"]) (k:=1) (ix:=[1]) cS rfl (iv rfl (aA rfl hr (qn 0) (qv vi))) (λ_ _ _ _=>(aE (i:=0) (by show(["table","book"]:ay).Nodup;decide +kernel))) (λ_ _ _ _=>cX) (λ_ _ _ _=>(cM rfl IC hr (ac (vn 0) (ac (aA rfl hr (qn 1) (qv (aA rfl hr (qn 0) (qv vi)))) an)))))
  (sc (cj PassesOwn.never rfl (dn rfl 2) (aE (i:=3) rg.nd)
  (s1 (bW (qt (qn 3) (qv v0)) (s1 (bx (vn 3))) sn)))
  (sc (E2 (i:=2) rg.nd (N:=["table","book"]) (k:=1) (ix:=[1]) cS rfl (iv rfl (aA rfl hr (qn 0) (qv vi))) (λ_ _ _ _=>(aE (i:=0) (by show(["table","book"]:ay).Nodup;decide +kernel))) (λ_ _ _ _=>cX) (λ_ _ _ _=>(cM rfl ID hr (ac (vn 0) (ac (aA rfl hr (qn 1) (qv (aA rfl hr (qn 0) (qv vi)))) an)))))
  (sc (gk (QF rfl 2 (qf (eJ (N:=["number","frame","book"]) (k:=1) (ix:=[0,1]) cS rfl (j0 (by rfl) B.range (du rfl B.len (qv (aA rfl hr (qn 0) (qv vi))))) (λ_ _ _ _=>(aE (i:=0) (by show(["number","frame","book"]:ay).Nodup;decide +kernel))) (λ_ _ _ _=>cX) (λ_ _ _ _=>(cM rfl IE hr (ac (vn 1) (ac (vn 2) (ac (vn 0) an)))))))))
  (sc (cj PassesOwn.never rfl (dn rfl 2) (aE (i:=3) rg.nd)
  (s1 (bW (qt (qn 3) (qv v0)) (s1 (bx (vn 3))) sn)))
  (s1 (bx v0))))))),λB' xs r h=>?_⟩)
 obtain⟨x0,x1,rfl,h⟩:=h;change (_:US) (cH false r) ⟨B',[some (.val x0),some (.val x1),none,none],none⟩;obtain⟨ts,ps,kvs,rfl,rfl,a9,dh,rfl⟩:=h;have tl:=a9.tl;have pl:=a9.pl;unfold pF;w_on;refine d7 ts pT (λt=>nh t ((rowsOf kvs t.n).findIdx? λr=>!cb r t.cs)) (by omega) ?_ ?_
 ·intro B t ht R hR;simp only[pT];w_on;refine ao _ (dh t ht).1 ?_;w_on;refine ao _ ⟨t,_,rfl,rfl,(dh t ht).2.1,(a9.tab t ht).aK,(a9.tab t ht).kinds,rfl⟩ ?_;w_on;exact hR _ ⟨rfl,rfl⟩ rfl
 w_on;intro p;show mL (h_ ts kvs) _ _ _ _ _;refine q_ (h_ ts kvs) (λd A=>∃ o,A=⟨B',[some (.val (pF ts ps)),some (.val (.ah kvs)),some (.own p (.lst (h_ ts kvs))),o],none⟩/\∀ y∈d,nn y=false) ⟨none,rfl,λ_ h=>by cases h⟩ (λd A2 ⟨o,e,_⟩=>by rw[e];rfl) ?_ ?_
 ·rintro d x r A2 e ⟨o,rfl,hd⟩;w_on;refine ao _ (Iz (zY x (by rw[e];simp))) ?_;refine b_ (λhx=>?_) λhx=>?_
  ·w_on;have q:bR (h_ ts kvs)=x:=by rw[e];exact qZ hd hx
   simp only[i9,q,hx,if_true]
  ·w_on;refine⟨_,rfl,λy hy=>?_⟩;rcases mem_append.mp hy with z|z
   ·exact hd y z
   ·rw[mem_singleton.mp z];exact hx
 ·rintro A2 ⟨o,rfl,hd⟩;have ag:=IB dh hd
  have k0:i9 ts ps kvs=bR (nj ts ps kvs):=by
   unfold i9;rw[ni hd];rfl
  rw[k0];unfold pF;w_on;refine d7 ts pT (λt=>bR (iF t (rowsOf kvs t.n))) (by omega) ?_ ?_
  ·intro B t ht R hR;simp only[pT];w_on;refine ao _ (dh t ht).1 ?_;w_on;refine ao _ ⟨t,_,rfl,rfl,a9.tab t ht,ag t ht,rfl⟩ ?_;w_on;exact hR _ ⟨rfl,rfl⟩ rfl
  w_on;intro p2;w_on;have el:(((ps.map pP).length:Nat):Int).toNat=ps.length:=by simp
  rw[el];refine⟨by simp;omega,by omega,d7 (range ps.length) (λk=>PV.int (k:Nat)) (λn=>ko n ((ps[n]?).bind (fY ts kvs))) (by simp;omega) ?_ ?_⟩
  ·intro B n hn R hR;have hn:n<ps.length:=mem_range.mp hn;have ek:ps[n]?=some ps[n]:=by simp [hn]
   w_on;refine ao _ ⟨ts,ps,kvs,n,ps[n],rfl,rfl,rfl,ek,a9,dh,ag,rfl⟩ ?_;w_on;rw[ek] at hR;exact hR _ ⟨rfl,rfl⟩ rfl
  w_on;refine⟨by simp;omega,?_⟩;w_on;show mL (nj ts ps kvs) _ _ _ _ _;refine q_ (nj ts ps kvs) (λd A=>∃ o,A=⟨B',[some (.val (pF ts ps)),some (.val (.ah kvs)),some (.own p2 (.lst (nj ts ps kvs))),o],none⟩/\∀ y∈d,nn y=false) ⟨_,rfl,λ_ h=>by cases h⟩ (λd A2 ⟨o,e,_⟩=>by rw[e];rfl) ?_ ?_
  ·rintro d x r A2 e ⟨o,rfl,hd⟩;w_on;refine ao _ (Iz (IA x (by rw[e];simp))) ?_;refine b_ (λhx=>?_) λhx=>?_
   ·w_on;rw[e];exact(qZ hd hx).symm
   ·w_on;refine⟨_,rfl,λy hy=>?_⟩;rcases mem_append.mp hy with z|z
    ·exact hd y z
    ·rw[mem_singleton.mp z];exact hx
  ·rintro A2 ⟨o,rfl,hd⟩;w_on;exact(ni hd).symm
def Kv:PV->Prop
 |.int _=>True
 |.str z=>z∈(["a","","b","aa"]:ay)
 |_=>False
noncomputable def toK:PV->Key
 |.int i=>.inl i
 |.str z=>.inr z
 |_=>.inl 0
theorem XD {x:PV}(h:Kv x):pk x=some (toK x):=by
 cases x<;>first|exact h.elim|rfl
theorem XE {x:PV}(h:Kv x):zp (toK x)=true:=by
 cases x<;>first|exact h.elim|skip
 ·rfl
 ·exact decide_eq_true h
theorem uT:∀{v:af},(∀ x∈v,Kv x)->oK v=some (v.map toK)
 |[],_=>rfl
 |x::v,h=>by
  unfold oK;rw[XD (h x (by simp)),uT λy hy=>h y (by simp [hy])];rfl
theorem zZ {v:af}(h:∀ x∈v,Kv x)(hn:v≠[]):jx (v.map toK)=true:=by
 unfold jx
 cases v with
 |nil=>exact absurd rfl hn
 |cons x v=>
  have:((x::v).map toK).all zp=true:=all_eq_true.mpr λk hk=>by
   obtain⟨y,hy,rfl⟩:=mem_map.mp hk;exact XE (h y hy)
  rw[this];rfl
theorem XF {x y:PV}(hx:Kv x)(hy:Kv y):a8 x y=decide (toK x=toK y):=by
 cases x<;>first|exact hx.elim|skip
 all_goals cases y<;>first|exact hy.elim|skip
 all_goals simp [a8,toK]
 all_goals exact Bool.eq_iff_iff.mpr (by simp)
theorem uU:∀{u v:af},(∀ x∈u,Kv x)->(∀ x∈v,Kv x)->bj u v=decide (u.map toK=v.map toK)
 |[],[],_,_=>rfl
 |[],_::_,_,_=>by simp [bj]
 |_::_,[],_,_=>by simp [bj]
 |x::u,y::v,hu,hv=>by
  simp only[bj,map_cons,cons.injEq];rw[XF (hu x (by simp)) (hv y (by simp)),uU (λz hz=>hu z (by simp [hz])) λz hz=>hv z (by simp [hz])];simp
theorem IG {α β:Type}{f:α->Option β}:∀{d r:List α}{x:α}{z:β},(∀ y∈d,f y=none)->f x=some z->(d++x::r).findSome? f=some z
 |[],r,x,z,_,h=>by simp [h]
 |a::d,r,x,z,hd,h=>by
  rw[cons_append,findSome?_cons,hd a (by simp)];exact IG (λy hy=>hd y (by simp [hy])) h
theorem IH {vs:List (af)}{i j:Nat}(hj:j<vs.length)(h0:∀ m,m<j->((range m).find? λi=>bj (vs.getD i []) (vs.getD m []))=none)(h1:((range j).find? λi=>bj (vs.getD i []) (vs.getD j []))=some i):dup vs=some (i,j):=by
 unfold dup
 have e:range vs.length=range j++j::(range vs.length).drop (j+1):=by
  have h1:(range vs.length).take j=range j:=by rw[take_range];congr 1;omega
  have h2:(range vs.length).drop j=j::(range vs.length).drop (j+1):=by
   rw[drop_eq_getElem_cons (by simpa using hj)];simp
  rw[<- h1,<- h2,take_append_drop]
 rw[e];exact IG (λm hm=>by rw[h0 m (mem_range.mp hm)];rfl) (by rw[h1];rfl)
theorem z_ {vs:List (af)}(h0:∀ m,m<vs.length->((range m).find? λi=>bj (vs.getD i []) (vs.getD m []))=none):dup vs=none:=by
 unfold dup;rw[findSome?_eq_none_iff];intro m hm;rw[h0 m (mem_range.mp hm)];rfl
noncomputable def kr (ks:Nat->List Key)(j:Nat):List (List Key×PV):=(range j).map λi=>(ks i,PV.int (i:Nat))
theorem II (ks:Nat->List Key)(j:Nat)(q:List Key):eM (kr ks j) q=((range j).find? λi=>decide (ks i=q)).map λi=>PV.int (i:Nat):=by
 unfold eM kr;rw[find?_map];show((((range j).find? λi=>decide (ks i=q)).map λi=>(ks i,PV.int (i:Nat)))).map Prod.snd=_;rw[Option.map_map];rfl
theorem XG (ks:Nat->List Key)(j:Nat)(h:((range j).find? λi=>decide (ks i=ks j))=none):iA (kr ks j) (ks j) (.int (j:Nat))=kr ks (j+1):=by
 have:((kr ks j).any λkv=>decide (kv.1=ks j))=false:=by
  unfold kr;rw[any_map,any_eq_false];intro i hi;exact find?_eq_none.mp h i hi
 unfold iA;rw[this];unfold kr;rw[range_succ,map_append];rfl
theorem lP {t:Tab}{r:PV}{n:Str}(ok:lO t)(hf:cb r t.cs=true)(hn:∃ c∈t.cs,c.n=n/\c.m=false):aq t n<(cZ r).length/\Kv ((cZ r).getD (aq t n) .ai):=by
 cases r<;>first|(cases hf;done)|skip
 rename_i xs;simp only[cb,Bool.and_eq_true,decide_eq_true_eq] at hf;obtain⟨hl,ha⟩:=hf;obtain⟨c,hc,rfl,hm⟩:=hn;have Aa:c.n∈cx t:=mem_map.mpr ⟨c,hc,rfl⟩
 have cz:aq t c.n<t.cs.length:=by
  have:=idxOf_lt_length_of_mem Aa;simpa [aq,cx] using this
 have rh:aq t c.n<xs.length:=by omega
 refine⟨rh,?_⟩
 have mz:t.cs[aq t c.n]=c:=by
  obtain⟨i,hi,e⟩:=mem_iff_getElem.mp hc
  have e2:(cx t).idxOf c.n=i:=by
   have fD:i<(cx t).length:=by simpa [cx] using hi
   have e3:(cx t)[i]=c.n:=by simp [cx,e]
   rw[<- e3];exact ok.nd.idxOf_getElem i fD
  have:aq t c.n=i:=e2;simp only[this];exact e
 have hz:(xs[aq t c.n],t.cs[aq t c.n])∈xs.zip t.cs:=by
  rw[mem_iff_getElem];exact⟨aq t c.n,by simp;omega,by simp⟩
 have q:=all_eq_true.mp ha _ hz;rw[mz] at q
 have hx:(cZ (.tup xs)).getD (aq t c.n) .ai=xs[aq t c.n]:=by
  show xs.getD _ _=_;simp [rh]
 rw[hx];have hk:=ok.kinds c hc;generalize xs[aq t c.n]=x at q;simp only[dg,hm] at q;cases x<;>simp [ed,isInt,iE,nn,Kv] at q ⊢<;>first|exact q|exact q.2|(split at q<;>simp_all)
theorem uV {α:Type}{l:List α}{f:α->PV}{n:Nat}{x:α}(h:l[n]?=some x):b9 (l.map f) (n:Int)=some (f x):=by
 obtain⟨hl,e⟩:=b8 h;rw[hZ (by simpa using hl)];simp [hl,e]
theorem IJ {α:Type}{p q:α->Bool}:∀{l:List α},(∀ y∈l,p y=q y)->l.find? p=l.find? q
 |[],_=>rfl
 |a::l,h=>by
  rw[find?_cons,find?_cons,h a (by simp),IJ λy hy=>h y (by simp [hy])]
theorem uW {t:Tab}{key:ay}{rs:af}{j:Nat}{x:PV}(h:rs[j]?=some x):(bo t key rs).getD j []=cN (cZ x) (key.map (aq t)):=by
 unfold bo;rw[getD_eq_getElem?_getD,getElem?_map,h];rfl
theorem Ab {t:Tab}{key:ay}{rs:af}(ok:lO t)(good:Good t rs)(dJ:key∈t.ks){j:Nat}(hj:j<rs.length):m5 (.tup ((bo t key rs).getD j []))=some (((bo t key rs).getD j []).map toK)/\jx (((bo t key rs).getD j []).map toK)=true /\
  ((range j).find? λi=>bj ((bo t key rs).getD i []) ((bo t key rs).getD j []))=((range j).find? λi=>decide (((bo t key rs).getD i []).map toK=((bo t key rs).getD j []).map toK)):=by
 have kv:∀ i,i<rs.length->∀ y∈(bo t key rs).getD i [],Kv y:=λi hi y hy=>by
  rw[uW (bL hi)] at hy;unfold cN at hy;rw[map_map] at hy;obtain⟨n,hn,rfl⟩:=mem_map.mp hy;exact(lP ok (good.1 _ (getElem_mem hi)).2 ((ok.keys key dJ).2 n hn)).2
 have ne:(bo t key rs).getD j []≠[]:=by
  rw[uW (bL hj)];unfold cN;have:=ok.ne key dJ;intro z;simp at z;exact this z
 refine⟨uT (kv j hj),zZ (kv j hj) ne,IJ λi hi=>?_⟩;have hi:=mem_range.mp hi;exact uU (kv i (by omega)) (kv j hj)
theorem oX:bH ["table","rows","number","places","firsts","second","row","values"] ["table","rows","number"] (aT wO):=by walk_at "s"
theorem XH {k:Nat}(D:Df K mg "key_break" wO)(B:Bt mg)(nk:NK K)(oY:Kn P w K mg base k "places_of" (a_ K true (bc lL)))(oZ:Kn P w K mg base k "values_at" (a_ K false (bc zT))):Kn P w K mg base (k+1) "key_break" (a_ K false (gZ Ir)):=by
 refine D.c6 oX (λ_ _ _ _ _ _=>mD λ_ _ _=>rfl) (λ_ _=>gZ.len) (by decide) (λf aF A outer s H E hr=>⟨_,(sc (bI (i:=3) oX.nd (vf (gS rfl oY hr (ac (vn 0) (ac (aA rfl hr (qv (aA rfl hr (qn 0) (qv vi))) (qn 2)) an)))))
  (sc (V6 (i:=4) oX.nd)
  (sc (cj PassesOwn.never rfl (qQ rfl B.enumerate (vn 1)) (eI (n:=2) rfl rfl (bJ (aE (i:=5) oX.nd) (bJ (aE (i:=6) oX.nd) eG)))
  (sc (bI (i:=7) oX.nd (cM rfl oZ hr (ac (vn 6) (ac (vn 3) an))))
  (sc (bW (V1 rfl nk hr 4 (vn 7)) (s1 (bx (et (ac vs (ac (aA rfl hr (qn 0) (qv vi)) (ac (vn 2) (ac (V3 rfl nk hr 4 (vn 7)) (ac (vn 5) an)))))))) sn)
  (s1 (V5 rfl nk hr 4 (vn 5) (vn 7))))))
  (s1 (bx v0))))),λB' xs r h=>?_⟩)
 obtain⟨x0,x1,x2,rfl,h⟩:=h;change (_:US) (cH false r) ⟨B',[some (.val x0),some (.val x1),some (.val x2),none,none,none,none,none],none⟩;obtain⟨t,rs,n,key,rfl,rfl,rfl,hk,ok,good,rfl⟩:=h;have dJ:key∈t.ks:=mem_of_getElem? hk;have tl:=ok.aK;have kl:=(ok.keys key dJ).1
 have ia:∀ m∈key,m∈cx t:=λm hm=>by
  obtain⟨c,hc,rfl,_⟩:=(ok.keys key dJ).2 m hm;exact mem_map.mpr ⟨c,hc,rfl⟩
 let ks:Nat->List Key:=λi=>((bo t key rs).getD i []).map toK
 simp only[pT];w_on;refine ao (pS key) (uV hk) ?_;w_on;refine ao (dv (key.map (aq t))) ⟨t,key,rfl,rfl,ia,by omega,by omega,rfl⟩ ?_;w_on;intro p;unfold d9;refine df rs.zipIdx (λp=>.tup [.int p.2,p.1]) (λd A=>∃ o1 o2 o3,A=⟨B',[some (.val (pT t)),some (.val (.lst rs)),some (.val (.int (n:Nat))),some (.val (dv (key.map (aq t)))),some (.own p (.bQ (kr ks d.length))),o1,o2,o3],none⟩/\∀ m,m<d.length->((range m).find? λi=>decide (ks i=ks m))=none) ⟨none,none,none,rfl,λ_ h=>by cases h⟩ (λ_ _ _=>trivial) ?_ ?_
 ·rintro d ⟨x,i⟩ r A2 e ⟨o1,o2,o3,rfl,hd⟩;obtain⟨ei,er⟩:=lM e;have hx:rs[i]?=some x:=by rw[er,ei];simp
  obtain⟨hi,hxe⟩:=b8 hx;obtain⟨f1,f2,f3⟩:=Ab ok good dJ hi;have gx:=(good.1 x (mem_of_getElem? hx)).2
  obtain⟨xs,rfl⟩:∃ xs,x=.tup xs:=by
   cases x<;>first|(cases gx;done)|exact⟨_,rfl⟩
  have hp:∀ j∈key.map (aq t),j<xs.length:=λj hj=>by
   obtain⟨m,hm,rfl⟩:=mem_map.mp hj;exact(lP ok gx ((ok.keys key dJ).2 m hm)).1
  have hv:(bo t key rs).getD i []=cN xs (key.map (aq t)):=uW hx;simp only[pT];w_on;refine ao (.tup ((bo t key rs).getD i [])) ⟨xs,_,rfl,rfl,hp,by simp;omega,by rw[hv]⟩ ?_;w_on;subst ei
  have h0:∀ m,m<d.length->((range m).find? λi=>bj ((bo t key rs).getD i []) ((bo t key rs).getD m []))=none:=λm hm=>by
   rw[(Ab ok good dJ (Nat.lt_trans hm hi)).2.2];exact hd m hm
  unfold qT;w_on;refine⟨ks d.length,_,_,f1,f2,⟨rfl,rfl⟩,?_⟩;rw[II]
  cases q:(range d.length).find? λi=>decide (ks i=ks d.length) with
  |some m=>
   refine gw rfl ?_;w_on;unfold GN;refine⟨_,_,rfl,?_⟩;w_on;refine⟨ks d.length,.int (m:Nat),f1,f2,by rw[II,q];rfl,?_⟩;w_on;rw[IH (by simpa [bo] using hi) h0 (f3.trans q)];rfl
  |none=>
   refine d8 rfl ?_;w_on;unfold GO;w_on;refine⟨_,_,⟨rfl,rfl⟩,?_⟩;w_on;have gl:=good.2;refine⟨ks d.length,f1,f2,by simp only[kr,length_map,length_range];omega,?_⟩;rw[XG ks d.length q];refine⟨_,_,_,by rw[length_append];rfl,λm hm=>?_⟩;rw[length_append] at hm;by_cases z:m=d.length
   ·rw[z];exact q
   ·exact hd m (by simp at hm;omega)
 ·rintro A2 ⟨o1,o2,o3,rfl,hd⟩;w_on;rw[z_ λm hm=>?_]
  ·rfl
  ·have eW:m<rs.length:=by simpa [bo] using hm
   rw[(Ab ok good dJ eW).2.2];exact hd m (by simpa using eW)
theorem XI (acc:List (List Key×PV))(k q:List Key)(v:PV):(eM (iA acc k v) q).isSome=((eM acc q).isSome||decide (k=q)):=by
 have e:∀ l:List (List Key×PV),(eM l q).isSome=l.any λkv=>decide (kv.1=q):=λl=>by
  unfold eM;rw[Option.isSome_map]
  induction l with
  |nil=>rfl
  |cons a l ih=>
   rw[find?_cons,any_cons,<- ih];cases decide (a.1=q)<;>rfl
 rw[e,e];unfold iA
 split
 ·rename_i h
  have e2:((acc.map λkv=>if kv.1=k then (kv.1,v) else kv).any λkv=>decide (kv.1=q))=acc.any λkv=>decide (kv.1=q):=by
   rw[any_map]
   congr 1
   funext kv
   by_cases c:kv.1=k<;>simp [c]
  rw[e2];by_cases c:k=q
  ·rw[c] at h;rw[h];rfl
  ·simp [c]
 ·rw[any_append];simp
theorem XJ (l:List (List Key×PV))(q:List Key):(eM (qU l) q).isSome=l.any λkv=>decide (kv.1=q):=by
 have z:∀(l acc:List (List Key×PV)),(eM (l.foldl (λacc kv=>iA acc kv.1 kv.2) acc) q).isSome=((eM acc q).isSome||l.any λkv=>decide (kv.1=q)):=by
  intro l
  induction l with
  |nil=>intro acc;simp
  |cons a l ih=>
   intro acc;rw[foldl_cons,ih,XI,any_cons,Bool.or_assoc]
 have:=z l [];rw[show qU l=l.foldl (λacc kv=>iA acc kv.1 kv.2) [] from rfl,this];rfl
theorem o_ {t:Tab}{r:PV}{n:Str}(ok:lO t)(hf:cb r t.cs=true)(Aa:n∈cx t):aq t n<(cZ r).length/\((cZ r).getD (aq t n) .ai=.ai\/Kv ((cZ r).getD (aq t n) .ai)):=by
 cases r<;>first|(cases hf;done)|skip
 rename_i xs;simp only[cb,Bool.and_eq_true,decide_eq_true_eq] at hf;obtain⟨hl,ha⟩:=hf
 have cz:aq t n<t.cs.length:=by
  have:=idxOf_lt_length_of_mem Aa;simpa [aq,cx] using this
 have rh:aq t n<xs.length:=by omega
 refine⟨rh,?_⟩
 have hz:(xs[aq t n],t.cs[aq t n])∈xs.zip t.cs:=by
  rw[mem_iff_getElem];exact⟨aq t n,by simp;omega,by simp⟩
 have q:=all_eq_true.mp ha _ hz
 have hx:(cZ (.tup xs)).getD (aq t n) .ai=xs[aq t n]:=by
  show xs.getD _ _=_;simp [rh]
 rw[hx];generalize xs[aq t n]=x at q;generalize t.cs[aq t n]=c at q;simp only[dg] at q;cases x<;>simp [ed,isInt,iE,nn,Kv] at q ⊢<;>first|exact q|exact q.2|(split at q<;>simp_all)
theorem lQ {ts:List Tab}{kvs:aN}{n:Str}{t:Tab}(dh:jB ts kvs)(h:tabAt ts n=some t):bP kvs (.inr n)=some (.lst (rowsOf kvs n))/\t∈ts/\t.n=n:=by
 have hm:=mem_of_find?_eq_some h;have he:t.n=n:=by simpa using find?_some h
 have:=(dh t hm).1;rw[he] at this;exact⟨this,hm,he⟩
theorem lR {t:Tab}{key:ay}{r:PV}(ok:lO t)(hf:cb r t.cs=true)(dJ:key∈t.ks):(∀ y∈cN (cZ r) (key.map (aq t)),Kv y)/\cN (cZ r) (key.map (aq t))≠[]:=by
 refine⟨λy hy=>?_,λz=>?_⟩
 ·unfold cN at hy;rw[map_map] at hy;obtain⟨n,hn,rfl⟩:=mem_map.mp hy;exact(lP ok hf ((ok.keys key dJ).2 n hn)).2
 ·unfold cN at z;have:=ok.ne key dJ;simp at z;exact this z
theorem IK {α:Type}{F:α->af}:∀{l:List α},(∀ x∈l,∀ y∈F x,Kv y)->oM (l.map λx=>.tup [.tup (F x),.bl true])=some (l.map λx=>((F x).map toK,.bl true))
 |[],_=>rfl
 |x::l,h=>by
  rw[map_cons,map_cons];unfold oM;rw[show m5 (.tup (F x))=some ((F x).map toK) from uT (h x (by simp)),IK λy hy=>h y (by simp [hy])]
theorem uX:∀{v:af},(∀ y∈v,y=.ai\/Kv y)->pin .ai v=!(v.all nn)
 |[],_=>rfl
 |x::v,h=>by
  have e:=uX λy hy=>h y (mem_cons_of_mem _ hy);unfold pin at e ⊢;rw[any_cons,e,all_cons];rcases h x (by simp) with rfl|q
  ·rfl
  ·cases x<;>first|exact q.elim|(simp [a8,nn];done)
theorem ku {y:PV}(h:y=.ai\/Kv y):Dp 0 y:=by
 rcases h with rfl|h
 ·exact qG _
 ·cases y<;>first|exact h.elim|exact oB _ _|exact gu _ _
theorem lS:bH ["frame","book","number","point","places","goals","there","at","row","values"] ["frame","book","number"] (aT wR):=by walk_at "s"
theorem XM {k:Nat}(D:Df K mg "point_break" wR)(B:Bt mg)(nk:NK K)(oY:Kn P w K mg base k "places_of" (a_ K true (bc lL)))(Ac:Kn P w K mg base k "table_named" (a_ K false (bc Ih)))(oZ:Kn P w K mg base k "values_at" (a_ K false (bc zT))):Kn P w K mg base (k+1) "point_break" (a_ K false (gZ Iw)):=by
 refine D.c6 lS (λ_ _ _ _ _ _=>mD λ_ _ _=>rfl) (λ_ _=>gZ.len) (by decide) (λf aF A outer s H E hr=>⟨_,(sc (bI (i:=3) lS.nd (aA rfl hr (qv (aA rfl hr (qn 0) (qv vi))) (qn 2)))
  (sc (bI (i:=4) lS.nd (vf (gS rfl oY hr (ac (cM rfl Ac hr (ac (vn 0) (ac (aA rfl hr (qn 3) (qv vi)) an))) (ac (aA rfl hr (qn 3) (qv vi)) an)))))
  (sc (bI (i:=5) lS.nd (vf (gS rfl oY hr (ac (cM rfl Ac hr (ac (vn 0) (ac (aA rfl hr (qn 3) (qv vi)) an))) (ac (aA rfl hr (qn 3) (qv vi)) an)))))
  (sc (V7 (i:=6) rfl nk hr rfl lS.nd B.dict (qf (eJ (N:=["row","goals"]) (k:=1) (ix:=[5]) cS rfl (iv rfl (aA rfl hr (qn 1) (qv (aA rfl hr (qn 3) (qv vi))))) (λ_ _ _ _=>(aE (i:=0) (by show(["row","goals"]:ay).Nodup;decide +kernel))) (λ_ _ _ _=>cX) (λ_ _ _ _=>(et (ac (cM rfl oZ hr (ac (vn 0) (ac (vn 1) an))) (ac vb an)))))))
  (sc (cj PassesOwn.never rfl (qQ rfl B.enumerate (aA rfl hr (qn 1) (qv (aA rfl hr (qn 3) (qv vi))))) (eI (n:=2) rfl rfl (bJ (aE (i:=7) lS.nd) (bJ (aE (i:=8) lS.nd) eG)))
  (sc (bI (i:=9) lS.nd (cM rfl oZ hr (ac (vn 8) (ac (vn 4) an))))
  (s1 (bW (PW.pt (lq (QZ rfl hr (qv v0) (qn 9)) (lh (V2 rfl nk hr 6 (vn 9))))) (s1 (bx (et (ac vs (ac (vn 2) (ac (vn 7) an)))))) sn))))
  (s1 (bx v0))))))),λB' xs r h=>?_⟩)
 obtain⟨x0,x1,x2,rfl,h⟩:=h;change (_:US) (cH false r) ⟨B',[some (.val x0),some (.val x1),some (.val x2),none,none,none,none,none,none,none],none⟩;obtain⟨ts,ps,kvs,n,p,rfl,rfl,rfl,hp,a9,dh,ag,rfl⟩:=h;have tl:=a9.tl;have pl:=a9.pl;obtain⟨t,g,ht,hg,dZ,gJ,cu⟩:=a9.uQ p (mem_of_getElem? hp);obtain⟨ky,eN,gf⟩:=lQ dh ht;obtain⟨i_,fw,kz⟩:=lQ dh hg;have b7:=a9.tab t eN;have cQ:=a9.tab g fw;have gt:Good t (rowsOf kvs p.t):=by rw[<- gf];exact ag t eN
 have gg:Good g (rowsOf kvs p.g):=by rw[<- kz];exact ag g fw
 have l1:=b7.aK;have l2:=cQ.aK;have l3:=(cQ.keys _ dZ).1
 have ia:∀ m∈p.k,m∈cx g:=λm hm=>by
  obtain⟨c,hc,rfl,_⟩:=(cQ.keys _ dZ).2 m hm;exact mem_map.mpr ⟨c,hc,rfl⟩
 unfold pF;w_on;refine ao (pP p) (uV hp) ?_;simp only[pP];w_on;refine ao (pT t) ⟨ts,_,p.t,rfl,rfl,by rw[ht];rfl⟩ ?_;w_on;refine ao (dv (p.cs.map (aq t))) ⟨t,p.cs,rfl,rfl,cu,by omega,by omega,rfl⟩ ?_;w_on;refine ao (pT g) ⟨ts,_,p.g,rfl,rfl,by rw[hg];rfl⟩ ?_;w_on;refine ao (dv (p.k.map (aq g))) ⟨g,p.k,rfl,rfl,ia,by omega,by omega,rfl⟩ ?_;w_on;unfold GP;w_on;refine ao _ i_ ?_;w_on;refine comp_map (λr=>.tup [.tup (cN (cZ r) (p.k.map (aq g))),.bl true]) (by have:=gg.2;omega) ?_ ?_
 ·intro B x hx R hR;have gx:=(gg.1 x hx).2
  obtain⟨xs,rfl⟩:∃ xs,x=.tup xs:=by
   cases x<;>first|(cases gx;done)|exact⟨_,rfl⟩
  w_on;refine ao _ ⟨xs,_,rfl,rfl,λj hj=>?_,by simp;omega,rfl⟩ ?_
  ·obtain⟨m,hm,rfl⟩:=mem_map.mp hj;exact(lP cQ gx ((cQ.keys _ dZ).2 m hm)).1
  w_on;exact hR _ ⟨rfl,rfl⟩ rfl
 refine⟨_,_,rfl,IK (F:=λr=>cN (cZ r) (p.k.map (aq g))) λr hr=>(lR cQ (gg.1 r hr).2 dZ).1,by have:=gg.2;simp;omega,λkv dW=>?_,λp1=>?_⟩
 ·obtain⟨r,hr,rfl⟩:=mem_map.mp dW;obtain⟨q1,q2⟩:=lR cQ (gg.1 r hr).2 dZ;exact zZ q1 q2
 generalize hD:qU ((rowsOf kvs p.g).map λr=>((cN (cZ r) (p.k.map (aq g))).map toK,PV.bl true))=D1;w_on;refine ao _ ky ?_;w_on;unfold d9
 let bad:af->Bool:=λv=>v.all nn&&!((bo g p.k (rowsOf kvs p.g)).any λu=>bj u v)
 have eR:fY ts kvs p=(rowsOf kvs p.t).findIdx? λr=>bad (cN (cZ r) (p.cs.map (aq t))):=by
  unfold fY;rw[ht,hg];show(bo t p.cs (rowsOf kvs p.t)).findIdx? bad=_;unfold bo;rw[findIdx?_map];rfl
 rw[eR];refine df (rowsOf kvs p.t).zipIdx (λp=>.tup [.int p.2,p.1]) (λd A=>∃ o1 o2 o3,A=⟨B',[some (.val (pF ts ps)),some (.val (.ah kvs)),some (.val (.int (n:Nat))),some (.val (pP p)),some (.val (dv (p.cs.map (aq t)))),some (.val (dv (p.k.map (aq g)))),some (.own p1 (.bQ D1)),o1,o2,o3],none⟩/\∀ q∈d,bad (cN (cZ q.1) (p.cs.map (aq t)))=false) ⟨none,none,none,rfl,λ_ h=>by cases h⟩ (λ_ _ _=>trivial) ?_ ?_
 ·rintro d ⟨x,i⟩ r A2 e ⟨o1,o2,o3,rfl,hd⟩;have hm:x∈rowsOf kvs p.t:=by rw[(lM e).2];simp
  have gx:=(gt.1 x hm).2
  obtain⟨xs,rfl⟩:∃ xs,x=.tup xs:=by
   cases x<;>first|(cases gx;done)|exact⟨_,rfl⟩
  unfold pF;simp only[pP];w_on
  let v:=cN xs (p.cs.map (aq t))
  have hv:∀ y∈v,y=.ai\/Kv y:=λy hy=>by
   have hy:y∈(p.cs.map (aq t)).map λj=>xs.getD j .ai:=hy;rw[map_map] at hy;obtain⟨m,hm,rfl⟩:=mem_map.mp hy;exact(o_ b7 gx (cu m hm)).2
  refine ao (.tup v) ⟨xs,_,rfl,rfl,λj hj=>?_,by simp;omega,rfl⟩ ?_
  ·obtain⟨m,hm,rfl⟩:=mem_map.mp hj;exact(o_ b7 gx (cu m hm)).1
  w_on
  have snoc:bad v=false->∀ q∈d++[(PV.tup xs,i)],bad (cN (cZ q.1) (p.cs.map (aq t)))=false:=λhb q hq=>by
   rcases mem_append.mp hq with z|z
   ·exact hd q z
   ·rw[mem_singleton.mp z];exact hb
  refine ao (v.all nn) (.inl ⟨(λc z=>by cases c<;>cases z),⟨0,by decide,qG _,λy hy=>ku (hv y hy)⟩,by rw[uX hv];cases v.all nn<;>rfl⟩) ?_
  cases ha:v.all nn with
  |false=>
   refine d8 rfl ?_;w_on;exact⟨_,_,_,rfl,snoc (by show(v.all nn&&_)=false;rw[ha];rfl)⟩
  |true=>
   have dW:∀ y∈v,Kv y:=λy hy=>by
    rcases hv y hy with rfl|q
    ·have:=all_eq_true.mp ha _ hy;cases this
    ·exact q
   have cV:v≠[]:=λz=>by
    have z':(p.cs.map (aq t)).map (λj=>xs.getD j .ai)=[]:=z;simp at z';rw[z'] at gJ;exact cQ.ne _ dZ (length_eq_zero_iff.mp gJ.symm)
   have hl:(eM D1 (v.map toK)).isSome=(bo g p.k (rowsOf kvs p.g)).any λu=>bj u v:=by
    rw[<- hD,XJ];unfold bo;rw[any_map,any_map];rw[Bool.eq_iff_iff,any_eq_true,any_eq_true];refine⟨fun⟨r,hr,q⟩=>⟨r,hr,?_⟩,fun⟨r,hr,q⟩=>⟨r,hr,?_⟩⟩
    ·show bj (cN (cZ r) (p.k.map (aq g))) v=true;rw[uU (lR cQ (gg.1 r hr).2 dZ).1 dW];exact q
    ·have q:bj (cN (cZ r) (p.k.map (aq g))) v=true:=q;rw[uU (lR cQ (gg.1 r hr).2 dZ).1 dW] at q;exact q
   refine gw rfl ?_;w_on;unfold qT;w_on;refine⟨v.map toK,_,_,uT dW,zZ dW cV,⟨rfl,rfl⟩,?_⟩;rw[hl]
   cases hb:(bo g p.k (rowsOf kvs p.g)).any λu=>bj u v with
   |true=>
    refine gw rfl ?_;w_on;exact⟨_,_,_,rfl,snoc (by show(v.all nn&&!((bo g p.k (rowsOf kvs p.g)).any λu=>bj u v))=false;rw[hb];simp)⟩
   |false=>
    refine d8 rfl ?_;w_on;rw[uN e hd (by show(v.all nn&&!((bo g p.k (rowsOf kvs p.g)).any λu=>bj u v))=true;rw[hb,ha];rfl)];rfl
 ·rintro A2 ⟨o1,o2,o3,rfl,hd⟩;w_on;rw[uO hd];rfl
def uY (x y r:PV):Prop:=∃(ts:List Tab)(q:PV)(n:Str)(t:Tab),x=.tup [.tup (ts.map pT),q]/\y=.str n/\ts.length<=9/\tabAt ts n=some t/\r=pT t
theorem IL {α:Type}{p:α->Bool}:∀{l:List α}{x:α},l.find? p=some x->∃ r,l.filter p=x::r
 |[],x,h=>by cases h
 |a::l,x,h=>by
  rw[find?_cons] at h;rw[filter_cons]
  cases e:p a with
  |true=>rw[e] at h;cases h;exact⟨_,if_pos rfl⟩
  |false=>rw[e] at h;rw[if_neg (by decide)];exact IL h
theorem Ad:∀ l:List (Str×af),mV (l.map λx=>PV.tup [PV.str x.1,.int (x.2.length:Nat)])=some (l.map λp=>(.inr p.1,.int (p.2.length:Nat)))
 |[]=>rfl
 |x::l=>by
  rw[map_cons,map_cons];unfold mV;rw[Ad l];rfl
def IM (x y z r:PV):Prop:=∃(k:Str)(m:Bool),Vx x/\y=.str k/\z=.bl m/\i7 k/\r=.bl (ed k x&&(m||nn x))
theorem tn:¬ (Str.ofString "text"=Str.ofString "number"):=by decide
theorem XO:∀ z∈(["a","","b","aa","a\n"]:ay),(!ou "\n" z)=iE (.str z):=by decide +kernel
theorem IP:bH ["_law_table_here","_law_names","_law_words"] ["_law_table_here","_law_names"] (aT xg):=by walk_at "s"
theorem XQ {k:Nat}(D:Df K mg "_law_spots" xg)(B:Bt mg):Kn P w K mg base (k+1) "_law_spots" (a_ K true (bc lL)):=by
 refine D.c6 IP (λ_ _ _ _ _ _=>dj λ_ _=>rfl) (λ_ _=>bc.len) (by decide) (λf aF A outer s H E hr=>⟨_,(sc (bI (i:=2) IP.nd (vf (eJ (N:=["_law_column"]) (k:=1) (ix:=[]) cS rfl (iv rfl (aA rfl hr (qn 0) (qv vi))) (λ_ _ _ _=>(aE (i:=0) (by show(["_law_column"]:ay).Nodup;decide +kernel))) (λ_ _ _ _=>cX) (λ_ _ _ _=>(aA rfl hr (qn 0) (qv vi))))))
  (s1 (sR (eJ (N:=["_law_name","_law_words"]) (k:=1) (ix:=[2]) cS rfl (dn rfl 1) (λ_ _ _ _=>(aE (i:=0) (by show(["_law_name","_law_words"]:ay).Nodup;decide +kernel))) (λ_ _ _ _=>cX) (λ_ _ _ _=>(Gm rfl hr 1 (vn 0))))))),λB' xs r h=>?_⟩)
 obtain⟨x0,x1,rfl,h⟩:=h;change (_:US) (cH true r) ⟨B',[some (.val x0),some (.val x1),none],none⟩;obtain⟨t,ns,rfl,rfl,hn,h1,h2,rfl⟩:=h;simp only[pT];w_on;refine d7 t.cs pC (λc=>.str c.n) (oR h1) ?_ ?_
 ·intro B c hc R hR;simp only[pC];w_on;exact hR _ ⟨rfl,rfl⟩ rfl
 unfold pS;w_on;have ew:t.cs.map (λc=>PV.str c.n)=(cx t).map PV.str:=by simp [cx]
 rw[ew];refine d7 ns PV.str (λn=>.int (aq t n:Nat)) (oR h2) ?_ ?_
 ·intro B n f9 R hR;w_on;obtain⟨q1,q2⟩:=zU (hn n f9);exact⟨_,aq t n,rfl,⟨0,by decide,gu _ _,λp hp=>by obtain⟨s,_,rfl⟩:=mem_map.mp hp;exact gu _ _⟩,q1,q2,hR _ ⟨rfl,rfl⟩ rfl⟩
 w_on;unfold dv;rw[map_map];rfl
theorem XR:bH ["_law_frame_here","_law_name"] ["_law_frame_here","_law_name"] (aT xh):=by walk_at "s"
theorem XS {k:Nat}(D:Df K mg "_law_named" xh)(B:Bt mg):Kn P w K mg base (k+1) "_law_named" (a_ K false (bc uY)):=by
 refine D.c6 XR (λ_ _ _ _ _ _=>dj λ_ _=>rfl) (λ_ _=>bc.len) (by decide) (λf aF A outer s H E hr=>⟨_,(s1 (bx (aA rfl hr (qf (eJ (N:=["_law_table_here","_law_name"]) (k:=1) (ix:=[1]) cS rfl (iv rfl (aA rfl hr (qn 0) (qv vi))) (λ_ _ _ _=>(aE (i:=0) (by show(["_law_table_here","_law_name"]:ay).Nodup;decide +kernel))) (λ_ _ _ _=>(sX (gq rfl hr (qv (aA rfl hr (qn 0) (qv vi))) (qn 1)))) (λ_ _ _ _=>(vn 0)))) (qv vi)))),λB' xs r h=>?_⟩);obtain⟨x0,x1,rfl,h⟩:=h;change (_:US) (cH false r) ⟨B',[some (.val x0),some (.val x1)],none⟩;obtain⟨ts,q,n,t,rfl,rfl,tl,ht,rfl⟩:=h;w_on;refine tX ts pT pT (λt=>t.n==n) (by omega) ?_ ?_
 ·intro B c hc Rs Rn hs hn;simp only[pT];w_on;refine b_ (λe=>?_) λe=>?_
  ·w_on;exact hs _ e ⟨rfl,rfl⟩ rfl
  ·exact hn _ e ⟨rfl,rfl⟩ rfl
 w_on;obtain⟨r,e⟩:=IL ht;rw[e];w_on
theorem XT:bH ["_law_value_here","_law_kind","_law_maybe"] ["_law_value_here","_law_kind","_law_maybe"] (aT xl):=by walk_at "s"
theorem XU {k:Nat}(D:Df K mg "_law_fits" xl)(B:Bt mg):Kn P w K mg base (k+1) "_law_fits" (a_ K false (gZ IM)):=by
 refine D.c6 XT (λ_ _ _ _ _ _=>mD λ_ _ _=>rfl) (λ_ _=>gZ.len) (by decide) (λf aF A outer s H E hr=>⟨_,(sc (bW (mQ (qn 0) (qv v0)) (s1 (bx (vn 2))) sn)
  (sc (bW (gq rfl hr (qn 1) (qv vs)) (s1 (bx (lx (gX .str rfl B.isinstance B.str PyProof.Rows.boot_str (qn 0)) (lu (FT rfl hr (qv vs) (qn 0)))))) sn)
  (s1 (bx (lx (gX .int rfl B.isinstance B.int PyProof.Rows.boot_int (qn 0)) (lu (xO (gX .bool rfl B.isinstance B.bool PyProof.Rows.boot_bool (qn 0))))))))),λB' xs r h=>?_⟩)
 obtain⟨x0,x1,x2,rfl,h⟩:=h;change (_:US) (cH false r) ⟨B',[some (.val x0),some (.val x1),some (.val x2)],none⟩;obtain⟨k,m,hx,rfl,rfl,hk,rfl⟩:=h;w_on;cases x0<;>first|exact hx.elim|skip
 case ai=>
  refine ao true rfl (gw rfl ?_);w_on;simp [ed,nn]
 all_goals
  refine ao false rfl (d8 rfl ?_);w_on;refine b_ (λe=>?_) λe=>?_
 all_goals w_on
 all_goals rcases hk with rfl|rfl
 all_goals first|exact absurd e (by decide)|skip
 case bl.refine_2.inl b=>
  refine ao true rfl (gw rfl ?_);w_on;refine ao true (by cases b<;>rfl) ?_;w_on;rfl
 case str.refine_1.inr z=>
  rw[XO z hx];simp [ed,nn,tn]
 all_goals first|(simp [ed,isInt,iE,nn,tn];done)|(refine ao false rfl (d8 rfl ?_);simp [ed,isInt,iE,nn,tn];done)
def IQ (x r:PV):Prop:=∃(l:List (Str×af)),x=.ah (l.map λp=>(.str p.1,.lst p.2))/\l.length<=900/\r=.ah (dictOf (l.map λp=>(.inr p.1,.int (p.2.length:Nat))))
theorem XW:bH ["book"] ["book"] (aT wV):=by walk_at "s"
theorem XX {k:Nat}(D:Df K mg "counts_of" wV)(B:Bt mg):Kn P w K mg base (k+1) "counts_of" (a_ K true (eL IQ)):=by
 refine D.c6 XW (λ_ _ _ _ _ _=>mC λ_=>rfl) (λ_ _=>eL.len) (by decide) (λf aF A outer s H E hr=>⟨_,(s1 (sR (FP rfl rfl B.dict (qf (eJ (N:=["table","rows"]) (k:=2) (ix:=[]) cS rfl (Vz (vn 0)) (λ_ _ _ _=>(eI (n:=2) rfl rfl (bJ (aE (i:=0) (by show(["table","rows"]:ay).Nodup;decide +kernel)) (bJ (aE (i:=1) (by show(["table","rows"]:ay).Nodup;decide +kernel)) eG)))) (λ_ _ _ _=>cX) (λ_ _ _ _=>(et (ac (vn 0) (ac (du rfl B.len (qn 1)) an))))))))),λB' xs r h=>?_⟩);obtain⟨x0,rfl,h⟩:=h;change (_:US) (cH true r) ⟨B',[some (.val x0)],none⟩;obtain⟨l,rfl,aK,rfl⟩:=h;w_on;refine d7 l (λx=>PV.tup [PV.str x.fst,PV.lst x.snd]) (λx=>.tup [.str x.1,.int (x.2.length:Nat)]) (oR aK) ?_ ?_
 ·intro B p hp R hR;w_on;exact hR _ ⟨rfl,rfl⟩ rfl
 refine ao _ ⟨_,Ad l,by simp;omega,rfl⟩ ?_;rfl
def IT (x y r:PV):Prop:=∃(ts:List Tab)(ps:List cY)(kvs:aN),x=pF ts ps/\y=.ah kvs/\i8 ts ps/\jB ts kvs/\r=bR (h_ ts kvs)
theorem IU {α:Type}{f:α->Bool}:∀ l:List α,pin (.bl false) (l.map λx=>.bl (f x))=!(l.all f)
 |[]=>rfl
 |x::l=>by
  have e:=IU l (f:=f);unfold pin at e ⊢;rw[map_cons,any_cons,e,all_cons];cases f x<;>simp [a8]
theorem XY {xs:af}{cs:List fv}{p:PV×fv}(h:p∈xs.zip cs):p.1∈xs/\p.2∈cs:=⟨of_mem_zip h |>.1,of_mem_zip h |>.2⟩
theorem kA:bH ["_law_frame_here","_law_book_here","_law_name","_law_fields","_law_keys","_law_number","_law_row","_law_good","_law_fitting"] ["_law_frame_here","_law_book_here"] (aT xm):=by walk_at "s"
theorem XZ {k:Nat}(D:Df K mg "_law_kind_break" xm)(B:Bt mg)(IV:Kn P w K mg base k "_law_fits" (a_ K false (gZ IM))):Kn P w K mg base (k+1) "_law_kind_break" (a_ K false (bc IT)):=by
 refine D.c6 kA (λ_ _ _ _ _ _=>dj λ_ _=>rfl) (λ_ _=>bc.len) (by decide) (λf aF A outer s H E hr=>⟨_,(sc (cj PassesOwn.never rfl (iv rfl (aA rfl hr (qn 0) (qv vi))) (eI (n:=3) rfl rfl (bJ (aE (i:=2) kA.nd) (bJ (aE (i:=3) kA.nd) (bJ (aE (i:=4) kA.nd) eG))))
  (s1 (cj PassesOwn.never rfl (qQ rfl B.enumerate (aA rfl hr (qn 1) (qn 2))) (eI (n:=2) rfl rfl (bJ (aE (i:=5) kA.nd) (bJ (aE (i:=6) kA.nd) eG)))
  (sc (bI (i:=7) kA.nd (lx (gX .tuple rfl B.isinstance B.tuple PyProof.Rows.boot_tuple (qn 6)) (lu (Fe rfl hr (qv (du rfl B.len (qn 6))) (qv (du rfl B.len (qn 3)))))))
  (sc (bW (gM rfl (qn 7)) (sc (jr (i:=8) kA.nd (N:=["_law_value_here","_law_one"]) (k:=2) (ix:=[]) cS rfl (Gj rfl B.zip (vn 6) (vn 3)) (λ_ _ _ _=>(eI (n:=2) rfl rfl (bJ (aE (i:=0) (by show(["_law_value_here","_law_one"]:ay).Nodup;decide +kernel)) (bJ (aE (i:=1) (by show(["_law_value_here","_law_one"]:ay).Nodup;decide +kernel)) eG)))) (λ_ _ _ _=>cX) (λ_ _ _ _=>(cM rfl IV hr (ac (vn 0) (ac (aA rfl hr (qn 1) (qv vi)) (ac (aA rfl hr (qn 1) (qv vi)) an))))))
  (s1 (bI (i:=7) kA.nd (FT rfl hr (qv vb) (qn 8))))) sn)
  (s1 (bW (jo (gM rfl (qn 7))) (s1 (bx (et (ac vs (ac (vn 2) (ac (vn 5) an)))))) sn)))))))
  (s1 (bx v0))),λB' xs r h=>?_⟩)
 obtain⟨x0,x1,rfl,h⟩:=h;change (_:US) (cH false r) ⟨B',[some (.val x0),some (.val x1),none,none,none,none,none,none,none],none⟩;obtain⟨ts,ps,kvs,rfl,rfl,a9,dh,rfl⟩:=h;have tl:=a9.tl;unfold pF;w_on
 let kb:Tab->PV:=λt=>nh t ((rowsOf kvs t.n).findIdx? λr=>!cb r t.cs)
 refine df ts pT (λd A=>∃ o2 o3 o4 o5 o6 o7 o8,A=⟨B',[some (.val (pF ts ps)),some (.val (.ah kvs)),o2,o3,o4,o5,o6,o7,o8],none⟩/\∀ t∈d,nn (kb t)=false) ⟨none,none,none,none,none,none,none,rfl,λ_ h=>by cases h⟩ (λ_ _ _=>trivial) ?_ ?_
 ·rintro d t r A2 e ⟨o2,o3,o4,o5,o6,o7,o8,rfl,hd⟩;have ht:t∈ts:=by rw[e];simp
  obtain⟨Ae,IW,X0⟩:=dh t ht;have b7:=a9.tab t ht;unfold pF;simp only[pT];w_on;refine ao _ Ae ?_;w_on;unfold d9;refine df (rowsOf kvs t.n).zipIdx (λp=>.tup [.int p.2,p.1]) (λd A=>∃ o5 o6 o7 o8,A=⟨B',[some (.val (pF ts ps)),some (.val (.ah kvs)),some (.val (.str t.n)),some (.val (.tup (t.cs.map pC))),some (.val (.tup (t.ks.map pS))),o5,o6,o7,o8],none⟩/\∀ q∈d,(!cb q.1 t.cs)=false) ⟨_,_,_,_,rfl,λ_ h=>by cases h⟩ (λ_ _ _=>trivial) ?_ ?_
  ·rintro d2 ⟨x,i⟩ r2 A2 e2 ⟨o5,o6,o7,o8,rfl,hd2⟩;have hm:x∈rowsOf kvs t.n:=by rw[(lM e2).2];simp
   have hx:=IW x hm
   have snoc:cb x t.cs=true->∀ q∈d2++[(x,i)],(!cb q.1 t.cs)=false:=λhb q hq=>by
    rcases mem_append.mp hq with z|z
    ·exact hd2 q z
    ·rw[mem_singleton.mp z];simp [hb]
   have bad:cb x t.cs=false->PV.tup [.str "kind",.str t.n,.int (i:Nat)]=bR (h_ ts kvs):=λhb=>by
    have q:kb t=.tup [.str "kind",.str t.n,.int (i:Nat)]:=by
     show nh t _=_;rw[uN e2 hd2 (by simp [hb])];rfl
    have:h_ ts kvs=d.map kb++kb t::r.map kb:=by
     show ts.map kb=_;rw[e,map_append,map_cons]
    rw[this,qZ (λy hy=>by obtain⟨t',ib,rfl⟩:=mem_map.mp hy;exact hd t' ib) (by rw[q];rfl),q]
   unfold pF;w_on;cases x<;>first|exact hx.elim|skip
   case lst xs=>
    refine ao false rfl (d8 rfl ?_);w_on;exact bad rfl
   case tup xs=>
    w_on;refine b_ (λe1=>?_) λe1=>?_
    ·have hl:xs.length=t.cs.length:=by simp at e1;omega
     have ef:cb (.tup xs) t.cs=(xs.zip t.cs).all dg:=by simp [cb,hl]
     w_on;rw[Ij];refine d7 (xs.zip t.cs) (λp=>.tup [p.1,pC p.2]) (λp=>.bl (dg p)) (by have:=b7.aK;simp [length_zip];omega) ?_ ?_
     ·intro B p hp R hR;obtain⟨qY,dE⟩:=XY hp;simp only[pC];w_on;refine ao (.bl (dg p)) ⟨p.2.k,p.2.m,hx.1 _ qY,rfl,rfl,b7.kinds _ dE,rfl⟩ ?_;w_on;exact hR _ ⟨rfl,rfl⟩ rfl
     w_on;refine ao (.bl ((xs.zip t.cs).all dg)) (.inl ⟨(λc z=>by cases c<;>cases z),⟨0,by decide,tR _ _,λy hy=>by obtain⟨q,_,rfl⟩:=mem_map.mp hy;exact tR _ _⟩,by rw[IU];cases (xs.zip t.cs).all dg<;>rfl⟩) ?_;w_on;refine b_ (λe3=>?_) λe3=>?_
     ·w_on;exact⟨_,_,_,_,rfl,snoc (ef.trans e3)⟩
     ·w_on;exact bad (ef.trans e3)
    ·have hl:¬ xs.length=t.cs.length:=by have e1:=e1;simp at e1;omega
     w_on;refine d8 e1 ?_;w_on;exact bad (by simp [cb,hl])
  ·rintro A2 ⟨o5,o6,o7,o8,rfl,hd2⟩;w_on;refine⟨_,_,_,_,_,_,_,rfl,λt' ib=>?_⟩;rcases mem_append.mp ib with z|z
   ·exact hd t' z
   ·rw[mem_singleton.mp z];show nn (nh t _)=false;rw[uO hd2];rfl
 ·rintro A2 ⟨o2,o3,o4,o5,o6,o7,o8,rfl,hd⟩;w_on;exact(ni λy hy=>by obtain⟨t',ib,rfl⟩:=mem_map.mp hy;exact hd t' ib).symm
def IX (x y r:PV):Prop:=∃(ts:List Tab)(ps:List cY)(kvs:aN),x=pF ts ps/\y=.ah kvs/\i8 ts ps/\jB ts kvs/\uR ts kvs/\r=bR (ts.map λt=>bR (iF t (rowsOf kvs t.n)))
theorem IY {rs:af}{n:Nat}{x:PV}(h:rs[n]?=some x):b9 rs (n:Int)=some x:=by
 have:=uV (f:=id) h;rwa [map_id] at this
theorem X1 {p:Nat->Bool}{n i:Nat}(hi:i<n)(h:∀ m,m<i->p m=false)(hx:p i=true):(range n).find? p=some i:=by
 have e:range n=range i++i::(range n).drop (i+1):=by
  have h1:(range n).take i=range i:=by rw[take_range];congr 1;omega
  have h2:(range n).drop i=i::(range n).drop (i+1):=by
   rw[drop_eq_getElem_cons (by simpa using hi)];simp
  rw[<- h1,<- h2,take_append_drop]
 rw[e];exact uL (λm hm=>h m (mem_range.mp hm)) hx
theorem X2 {u v:af}(hu:∀ y∈u,Dp 0 y)(hv:∀ y∈v,Dp 0 y):fI false (.lst u) (.lst v) (.bl (bj u v)):=by
 unfold fI;refine⟨⟨1,by decide,gv hu,gv hv⟩,?_⟩;rw[Bool.false_xor]
 congr 1
theorem IZ {α:Type}(f:α->PV)(l:List α):d9 (l.map f)=l.zipIdx.map λp=>.tup [.int p.2,f p.1]:=by
 unfold d9;rw[zipIdx_map,map_map];rfl
theorem lT:bH ["_law_frame_here","_law_book_here","_law_table_here","_law_rows","_law_number","_law_key","_law_spots_here","_law_second","_law_first"] ["_law_frame_here","_law_book_here"] (aT xn):=by walk_at "s"
theorem X3 {k:Nat}(D:Df K mg "_law_key_break" xn)(B:Bt mg)(fZ:Kn P w K mg base k "_law_spots" (a_ K true (bc lL))):Kn P w K mg base (k+1) "_law_key_break" (a_ K false (bc IX)):=by
 refine D.c6 lT (λ_ _ _ _ _ _=>dj λ_ _=>rfl) (λ_ _=>bc.len) (by decide) (λf aF A outer s H E hr=>⟨_,(sc (cj PassesOwn.never rfl (iv rfl (aA rfl hr (qn 0) (qv vi))) (aE (i:=2) lT.nd)
  (sc (bI (i:=3) lT.nd (aA rfl hr (qn 1) (qv (aA rfl hr (qn 2) (qv vi)))))
  (s1 (cj PassesOwn.never rfl (Gr rfl B.enumerate (aA rfl hr (qn 2) (qv vi))) (eI (n:=2) rfl rfl (bJ (aE (i:=4) lT.nd) (bJ (aE (i:=5) lT.nd) eG)))
  (sc (bI (i:=6) lT.nd (vf (gS rfl fZ hr (ac (vn 2) (ac (vn 5) an)))))
  (s1 (cj PassesOwn.never rfl (j0 (by rfl) B.range (du rfl B.len (qn 3))) (aE (i:=7) lT.nd)
  (s1 (cj PassesOwn.never rfl (j0 (by rfl) B.range (vn 7)) (aE (i:=8) lT.nd)
  (s1 (bW (gq rfl hr (qf (eJ (N:=["_law_spot","_law_rows","_law_first"]) (k:=1) (ix:=[3,8]) cS rfl (dn rfl 6) (λ_ _ _ _=>(aE (i:=0) (by show(["_law_spot","_law_rows","_law_first"]:ay).Nodup;decide +kernel))) (λ_ _ _ _=>cX) (λ_ _ _ _=>(aA rfl hr (qv (aA rfl hr (qn 1) (qn 2))) (qn 0))))) (qf (eJ (N:=["_law_spot","_law_rows","_law_second"]) (k:=1) (ix:=[3,7]) cS rfl (dn rfl 6) (λ_ _ _ _=>(aE (i:=0) (by show(["_law_spot","_law_rows","_law_second"]:ay).Nodup;decide +kernel))) (λ_ _ _ _=>cX) (λ_ _ _ _=>(aA rfl hr (qv (aA rfl hr (qn 1) (qn 2))) (qn 0)))))) (s1 (bx (et (ac vs (ac (aA rfl hr (qn 2) (qv vi)) (ac (vn 4) (ac (vn 8) (ac (vn 7) an)))))))) sn)))))))))))
  (s1 (bx v0))),λB' xs r h=>?_⟩)
 obtain⟨x0,x1,rfl,h⟩:=h;change (_:US) (cH false r) ⟨B',[some (.val x0),some (.val x1),none,none,none,none,none,none,none],none⟩;obtain⟨ts,ps,kvs,rfl,rfl,a9,dh,ag,rfl⟩:=h;have tl:=a9.tl;unfold pF;w_on
 let kt:Tab->PV:=λt=>bR (iF t (rowsOf kvs t.n))
 refine df ts pT (λd A=>∃ o2 o3 o4 o5 o6 o7 o8,A=⟨B',[some (.val (pF ts ps)),some (.val (.ah kvs)),o2,o3,o4,o5,o6,o7,o8],none⟩/\∀ t∈d,nn (kt t)=false) ⟨none,none,none,none,none,none,none,rfl,λ_ h=>by cases h⟩ (λ_ _ _=>trivial) ?_ ?_
 ·rintro d t r A2 e ⟨o2,o3,o4,o5,o6,o7,o8,rfl,hd⟩;have ht:t∈ts:=by rw[e];simp
  obtain⟨Ae,IW,X0⟩:=dh t ht;have b7:=a9.tab t ht;have good:=ag t ht;have kl:=b7.kl;unfold pF;simp only[pT];w_on;refine ao _ Ae ?_;w_on;generalize I0:rowsOf kvs t.n=rs at *
  let kn:Nat->PV:=λn=>km t n (dup (bo t (t.ks.getD n []) rs))
  have bad:∀ n z,n<t.ks.length->(∀ m,m<n->nn (kn m)=false)->kn n=z->nn z=true->z=bR (ts.map λt=>bR (iF t (rowsOf kvs t.n))):=λn z hn h0 hz h1=>by
   have q:kt t=z:=by
    show bR (iF t (rowsOf kvs t.n))=z;rw[I0,<- hz];exact zW hn h0 (by show nn (kn n)=true;rw[hz];exact h1)
   have:(ts.map λt=>bR (iF t (rowsOf kvs t.n)))=d.map kt++kt t::r.map kt:=by
    show ts.map kt=_;rw[e,map_append,map_cons]
   rw[this,qZ (λy hy=>by obtain⟨t',ib,rfl⟩:=mem_map.mp hy;exact hd t' ib) (by rw[q];exact h1),q]
  rw[IZ];refine df t.ks.zipIdx (λp=>.tup [.int p.2,pS p.1]) (λd A=>∃ o4 o5 o6 o7 o8,A=⟨B',[some (.val (pF ts ps)),some (.val (.ah kvs)),some (.val (pT t)),some (.val (.lst rs)),o4,o5,o6,o7,o8],none⟩/\∀ m,m<d.length->nn (kn m)=false) ⟨_,_,_,_,_,rfl,λ_ h=>by cases h⟩ (λ_ _ _=>trivial) ?_ ?_
  ·rintro d2 ⟨key,n⟩ r2 A2 e2 ⟨o4,o5,o6,o7,o8,rfl,hd2⟩;obtain⟨en,er⟩:=lM e2;have hk:t.ks[n]?=some key:=by rw[er,en];simp
   have Af:n<t.ks.length:=(b8 hk).1;have dJ:key∈t.ks:=mem_of_getElem? hk;have I8:t.ks.getD n []=key:=by rw[getD_eq_getElem?_getD,hk];rfl
   have ia:∀ m∈key,m∈cx t:=λm hm=>by
    obtain⟨c,hc,rfl,_⟩:=(b7.keys key dJ).2 m hm;exact mem_map.mpr ⟨c,hc,rfl⟩
   have X4:=(b7.keys key dJ).1;have X5:=b7.aK;subst en;unfold pF;simp only[pT];w_on;refine ao (dv (key.map (aq t))) ⟨t,key,rfl,rfl,ia,by omega,by omega,rfl⟩ ?_;w_on;have gl:=good.2;have el:((rs.length:Nat):Int).toNat=rs.length:=by simp
   rw[el]
   let vs:=bo t key rs
   have vl:vs.length=rs.length:=by simp [vs,bo]
   have row:∀ i,i<rs.length->∃ xs,rs[i]?=some (.tup xs)/\vs.getD i []=cN xs (key.map (aq t))/\(∀ j∈key.map (aq t),j<xs.length)/\∀ y∈cN xs (key.map (aq t)),Dp 0 y:=λi hi=>by
    have hx:rs[i]?=some rs[i]:=bL hi;have gx:=(good.1 _ (getElem_mem hi)).2;have rk:=(lR b7 gx dJ).1;have hp:∀ m∈key,aq t m<(cZ rs[i]).length:=λm hm=>(lP b7 gx ((b7.keys key dJ).2 m hm)).1;have kv:=uW (t:=t) (key:=key) hx;revert hx gx rk hp kv;generalize rs[i]=x;intro hx gx rk hp kv
    obtain⟨xs,rfl⟩:∃ xs,x=.tup xs:=by
     cases x<;>first|(cases gx;done)|exact⟨_,rfl⟩
    refine⟨xs,hx,kv,λj hj=>?_,λy hy=>ku (.inr (rk y hy))⟩;obtain⟨m,hm,rfl⟩:=mem_map.mp hj;exact hp m hm
   refine⟨by omega,by omega,mZ rs.length (λi A=>∃ o7 o8,A=⟨B',[some (.val (pF ts ps)),some (.val (.ah kvs)),some (.val (pT t)),some (.val (.lst rs)),some (.val (.int (d2.length:Nat))),some (.val (pS key)),some (.val (dv (key.map (aq t)))),o7,o8],none⟩/\∀ m,m<i->((range m).find? λi=>bj (vs.getD i []) (vs.getD m []))=none) ⟨_,_,rfl,λ_ h=>by omega⟩ (λ_ _ _=>trivial) ?_ ?_⟩
   ·rintro j _ hj ⟨o7,o8,rfl,hm⟩;unfold pF;simp only[pT];w_on;have ej:((j:Nat):Int).toNat=j:=by simp
    rw[ej];refine⟨by omega,by omega,mZ j (λi A=>∃ o8,A=⟨B',[some (.val (pF ts ps)),some (.val (.ah kvs)),some (.val (pT t)),some (.val (.lst rs)),some (.val (.int (d2.length:Nat))),some (.val (pS key)),some (.val (dv (key.map (aq t)))),some (.val (.int (j:Nat))),o8],none⟩/\∀ m,m<i->bj (vs.getD m []) (vs.getD j [])=false) ⟨_,rfl,λ_ h=>by omega⟩ (λ_ _ _=>trivial) ?_ ?_⟩
    ·rintro i _ hi ⟨o8,rfl,hf⟩;obtain⟨I9,a1,a2,a3,a4⟩:=row i (by omega);obtain⟨I_,b1,b2,b3,b4⟩:=row j hj;unfold pF dv;simp only[pT];w_on;refine d7 key (λm=>.int (aq t m:Nat)) (λm=>I9.getD (aq t m) .ai) (by omega) ?_ ?_
     ·intro B m eW R hR;w_on;refine ao _ (IY a1) ?_;w_on;refine ao _ (hZ (a3 _ (mem_map.mpr ⟨m,eW,rfl⟩))) ?_;w_on;exact hR _ ⟨rfl,rfl⟩ rfl
     w_on;refine d7 key (λm=>.int (aq t m:Nat)) (λm=>I_.getD (aq t m) .ai) (by omega) ?_ ?_
     ·intro B m eW R hR;w_on;refine ao _ (IY b1) ?_;w_on;refine ao _ (hZ (b3 _ (mem_map.mpr ⟨m,eW,rfl⟩))) ?_;w_on;exact hR _ ⟨rfl,rfl⟩ rfl
     w_on;have w1:key.map (λm=>I9.getD (aq t m) .ai)=vs.getD i []:=by rw[a2];unfold cN;rw[map_map];rfl
     have w2:key.map (λm=>I_.getD (aq t m) .ai)=vs.getD j []:=by rw[b2];unfold cN;rw[map_map];rfl
     rw[w1,w2];refine ao _ (X2 (by rw[a2];exact a4) (by rw[b2];exact b4)) ?_;refine b_ (λe1=>?_) λe1=>?_
     ·w_on;refine bad d2.length _ Af hd2 ?_ rfl;show km t _ (dup (bo t (t.ks.getD d2.length []) rs))=_;rw[I8,IH (vs:=bo t key rs) (by rw[show(bo t key rs).length=rs.length from vl];exact hj) hm (X1 hi hf e1)];rfl
     ·w_on;refine⟨_,rfl,λm rm=>?_⟩;by_cases z:m=i
      ·rw[z];exact e1
      ·exact hf m (by omega)
    ·rintro _ ⟨o8,rfl,hf⟩;w_on;refine⟨_,_,rfl,λm rm=>?_⟩;by_cases z:m=j
     ·rw[z];exact uM λi hi=>hf i (mem_range.mp hi)
     ·exact hm m (by omega)
   ·rintro _ ⟨o7,o8,rfl,hm⟩;w_on;refine⟨_,_,_,_,_,rfl,λm rm=>?_⟩;by_cases z:m=d2.length
    ·rw[z];show nn (km t _ (dup (bo t (t.ks.getD d2.length []) rs)))=false;rw[I8,z_ λm dU=>hm m (by rw[<- vl];exact dU)];rfl
    ·exact hd2 m (by rw[length_append,length_singleton] at rm;omega)
  ·rintro A2 ⟨o4,o5,o6,o7,o8,rfl,hd2⟩;w_on;refine⟨_,_,_,_,_,_,_,rfl,λt' ib=>?_⟩;rcases mem_append.mp ib with z|z
   ·exact hd t' z
   ·rw[mem_singleton.mp z];show nn (bR (iF t (rowsOf kvs t.n)))=false;rw[I0];show nn (bR ((range t.ks.length).map kn))=false;rw[uP λm hm=>hd2 m (by simpa using hm)];rfl
 ·rintro A2 ⟨o2,o3,o4,o5,o6,o7,o8,rfl,hd⟩;w_on;exact(ni λy hy=>by obtain⟨t',ib,rfl⟩:=mem_map.mp hy;exact hd t' ib).symm
def Ja (x y r:PV):Prop:=∃(ts:List Tab)(ps:List cY)(kvs:aN),x=pF ts ps/\y=.ah kvs/\i8 ts ps/\jB ts kvs/\uR ts kvs/\r=bR ((range ps.length).map λn=>ko n ((ps[n]?).bind (fY ts kvs)))
theorem nq (t:Tab)(l:ay):dv (l.map (aq t))=.lst (l.map λm=>.int (aq t m:Nat)):=by
 unfold dv;rw[map_map];rfl
theorem iG:bH ["_law_frame_here","_law_book_here","_law_number","_law_name","_law_fields","_law_goal","_law_key","_law_spots_here","_law_goals","_law_there","_law_at","_law_row","_law_values"] ["_law_frame_here","_law_book_here"] (aT xo):=by walk_at "s"
theorem X6 {k:Nat}(D:Df K mg "_law_point_break" xo)(B:Bt mg)(fZ:Kn P w K mg base k "_law_spots" (a_ K true (bc lL)))(ja:Kn P w K mg base k "_law_named" (a_ K false (bc uY))):Kn P w K mg base (k+1) "_law_point_break" (a_ K false (bc Ja)):=by
 refine D.c6 iG (λ_ _ _ _ _ _=>dj λ_ _=>rfl) (λ_ _=>bc.len) (by decide) (λf aF A outer s H E hr=>⟨_,(sc (cj PassesOwn.never rfl (Gr rfl B.enumerate (aA rfl hr (qn 0) (qv vi))) (eI (n:=2) rfl rfl (bJ (aE (i:=2) iG.nd) (bJ (eI (n:=4) rfl rfl (bJ (aE (i:=3) iG.nd) (bJ (aE (i:=4) iG.nd) (bJ (aE (i:=5) iG.nd) (bJ (aE (i:=6) iG.nd) eG))))) eG)))
  (sc (bI (i:=7) iG.nd (vf (gS rfl fZ hr (ac (cM rfl ja hr (ac (vn 0) (ac (vn 3) an))) (ac (vn 4) an)))))
  (sc (bI (i:=8) iG.nd (vf (gS rfl fZ hr (ac (cM rfl ja hr (ac (vn 0) (ac (vn 5) an))) (ac (vn 6) an)))))
  (sc (jr (i:=9) iG.nd (N:=["_law_row","_law_goals"]) (k:=1) (ix:=[8]) cS rfl (iv rfl (aA rfl hr (qn 1) (qn 5))) (λ_ _ _ _=>(aE (i:=0) (by show(["_law_row","_law_goals"]:ay).Nodup;decide +kernel))) (λ_ _ _ _=>cX) (λ_ _ _ _=>(vf (eJ (N:=["_law_spot","_law_row"]) (k:=1) (ix:=[0]) cS rfl (dn rfl 1) (λ_ _ _ _=>(aE (i:=0) (by show(["_law_spot","_law_row"]:ay).Nodup;decide +kernel))) (λ_ _ _ _=>cX) (λ_ _ _ _=>(aA rfl hr (qn 1) (qn 0)))))))
  (s1 (cj PassesOwn.never rfl (qQ rfl B.enumerate (aA rfl hr (qn 1) (qn 3))) (eI (n:=2) rfl rfl (bJ (aE (i:=10) iG.nd) (bJ (aE (i:=11) iG.nd) eG)))
  (sc (jr (i:=12) iG.nd (N:=["_law_spot","_law_row"]) (k:=1) (ix:=[11]) cS rfl (dn rfl 7) (λ_ _ _ _=>(aE (i:=0) (by show(["_law_spot","_law_row"]:ay).Nodup;decide +kernel))) (λ_ _ _ _=>cX) (λ_ _ _ _=>(aA rfl hr (qn 1) (qn 0))))
  (s1 (bW (PW.pt (lq (yW rfl hr v0 (qn 12)) (lh (yW rfl hr (vn 12) (qn 9))))) (s1 (bx (et (ac vs (ac (vn 2) (ac (vn 10) an)))))) sn)))))))))
  (s1 (bx v0))),λB' xs r h=>?_⟩)
 obtain⟨x0,x1,rfl,h⟩:=h;change (_:US) (cH false r) ⟨B',[some (.val x0),some (.val x1),none,none,none,none,none,none,none,none,none,none,none],none⟩;obtain⟨ts,ps,kvs,rfl,rfl,a9,dh,ag,rfl⟩:=h;have tl:=a9.tl;have pl:=a9.pl;unfold pF;w_on;rw[IZ]
 let pn:Nat->PV:=λn=>ko n ((ps[n]?).bind (fY ts kvs))
 refine df ps.zipIdx (λp=>.tup [.int p.2,pP p.1]) (λd A=>∃ o2 o3 o4 o5 o6 o7 o8 o9 bT cw cL,A=⟨B',[some (.val (pF ts ps)),some (.val (.ah kvs)),o2,o3,o4,o5,o6,o7,o8,o9,bT,cw,cL],none⟩/\∀ m,m<d.length->nn (pn m)=false) ⟨none,none,none,none,none,none,none,none,none,none,none,rfl,λ_ h=>by cases h⟩ (λ_ _ _=>trivial) ?_ ?_
 ·rintro d ⟨p,n⟩ r A2 e ⟨o2,o3,o4,o5,o6,o7,o8,o9,bT,cw,cL,rfl,hd⟩;obtain⟨en,er⟩:=lM e;have hp:ps[n]?=some p:=by rw[er,en];simp
  have Af:n<ps.length:=(b8 hp).1;obtain⟨t,g,ht,hg,dZ,gJ,cu⟩:=a9.uQ p (mem_of_getElem? hp);obtain⟨ky,eN,gf⟩:=lQ dh ht;obtain⟨i_,fw,kz⟩:=lQ dh hg;have b7:=a9.tab t eN;have cQ:=a9.tab g fw;have gt:Good t (rowsOf kvs p.t):=by rw[<- gf];exact ag t eN
  have gg:Good g (rowsOf kvs p.g):=by rw[<- kz];exact ag g fw
  have l1:=b7.aK;have l2:=cQ.aK;have l3:=(cQ.keys _ dZ).1
  have ia:∀ m∈p.k,m∈cx g:=λm hm=>by
   obtain⟨c,hc,rfl,_⟩:=(cQ.keys _ dZ).2 m hm;exact mem_map.mpr ⟨c,hc,rfl⟩
  subst en;unfold pF;simp only[pP];w_on;refine ao (pT t) ⟨ts,_,p.t,t,rfl,rfl,tl,ht,rfl⟩ ?_;w_on;refine ao (dv (p.cs.map (aq t))) ⟨t,p.cs,rfl,rfl,cu,by omega,by omega,rfl⟩ ?_;rw[nq];w_on;refine ao (pT g) ⟨ts,_,p.g,g,rfl,rfl,tl,hg,rfl⟩ ?_;w_on;refine ao (dv (p.k.map (aq g))) ⟨g,p.k,rfl,rfl,ia,by omega,by omega,rfl⟩ ?_;rw[nq];w_on;refine ao _ i_ ?_;w_on
  let vg:PV->af:=λr=>cN (cZ r) (p.k.map (aq g))
  let vt:PV->af:=λr=>cN (cZ r) (p.cs.map (aq t))
  refine comp_map (λr=>.lst (vg r)) (by have:=gg.2;omega) ?_ ?_
  ·intro B x hx R hR;have gx:=(gg.1 x hx).2
   obtain⟨xs,rfl⟩:∃ xs,x=.tup xs:=by
    cases x<;>first|(cases gx;done)|exact⟨_,rfl⟩
   w_on;refine d7 p.k (λm=>.int (aq g m:Nat)) (λm=>xs.getD (aq g m) .ai) (by omega) ?_ ?_
   ·intro B m hm R hR;w_on;refine ao _ (hZ (lP cQ gx ((cQ.keys _ dZ).2 m hm)).1) ?_;w_on;exact hR _ ⟨rfl,rfl⟩ rfl
   w_on;have ev:p.k.map (λm=>xs.getD (aq g m) .ai)=vg (.tup xs):=by show _=(p.k.map (aq g)).map _;rw[map_map];rfl
   rw[ev];exact hR _ ⟨rfl,rfl⟩ rfl
  w_on;refine ao _ ky ?_;w_on;unfold d9
  let bad:af->Bool:=λv=>v.all nn&&!((bo g p.k (rowsOf kvs p.g)).any λu=>bj u v)
  have eR:fY ts kvs p=(rowsOf kvs p.t).findIdx? λr=>bad (vt r):=by
   unfold fY;rw[ht,hg];show(bo t p.cs (rowsOf kvs p.t)).findIdx? bad=_;unfold bo;rw[findIdx?_map];rfl
  have Jb:pn d.length=ko d.length ((rowsOf kvs p.t).findIdx? λr=>bad (vt r)):=by
   show ko _ ((ps[d.length]?).bind _)=_;rw[hp,<- eR];rfl
  refine df (rowsOf kvs p.t).zipIdx (λp=>.tup [.int p.2,p.1]) (λd2 A=>∃ bT cw cL,A=⟨B',[some (.val (pF ts ps)),some (.val (.ah kvs)),some (.val (.int (d.length:Nat))),some (.val (.str p.t)),some (.val (pS p.cs)),some (.val (.str p.g)),some (.val (pS p.k)),some (.val (.lst (p.cs.map λm=>.int (aq t m:Nat)))),some (.val (.lst (p.k.map λm=>.int (aq g m:Nat)))),some (.val (.lst ((rowsOf kvs p.g).map λr=>.lst (vg r)))),bT,cw,cL],none⟩/\∀ q∈d2,bad (vt q.1)=false) ⟨_,_,_,rfl,λ_ h=>by cases h⟩ (λ_ _ _=>trivial) ?_ ?_
  ·rintro d2 ⟨x,i⟩ r2 A2 e2 ⟨bT,cw,cL,rfl,hd2⟩;have hm:x∈rowsOf kvs p.t:=by rw[(lM e2).2];simp
   have gx:=(gt.1 x hm).2
   obtain⟨xs,rfl⟩:∃ xs,x=.tup xs:=by
    cases x<;>first|(cases gx;done)|exact⟨_,rfl⟩
   unfold pF;w_on;refine d7 p.cs (λm=>.int (aq t m:Nat)) (λm=>xs.getD (aq t m) .ai) (by omega) ?_ ?_
   ·intro B m hm R hR;w_on;refine ao _ (hZ (o_ b7 gx (cu m hm)).1) ?_;w_on;exact hR _ ⟨rfl,rfl⟩ rfl
   w_on;have ev:p.cs.map (λm=>xs.getD (aq t m) .ai)=vt (.tup xs):=by show _=(p.cs.map (aq t)).map _;rw[map_map];rfl
   rw[ev];generalize dS:vt (.tup xs)=v
   have hv:∀ y∈v,y=.ai\/Kv y:=λy hy=>by
    rw[<- dS,<- ev] at hy;obtain⟨m,hm,rfl⟩:=mem_map.mp hy;exact(o_ b7 gx (cu m hm)).2
   have snoc:bad v=false->∀ q∈d2++[(PV.tup xs,i)],bad (vt q.1)=false:=λhb q hq=>by
    rcases mem_append.mp hq with z|z
    ·exact hd2 q z
    ·rw[mem_singleton.mp z];show bad (vt (.tup xs))=false;rw[dS];exact hb
   refine ao (v.all nn) ⟨⟨0,by decide,qG _,λy hy=>ku (hv y hy)⟩,by rw[uX hv];cases v.all nn<;>rfl⟩ ?_
   cases ha:v.all nn with
   |false=>
    refine d8 rfl ?_;w_on;exact⟨_,_,_,rfl,snoc (by show(v.all nn&&_)=false;rw[ha];rfl)⟩
   |true=>
    refine gw rfl ?_;w_on
    have ep:pin (.lst v) ((rowsOf kvs p.g).map λr=>.lst (vg r))=(bo g p.k (rowsOf kvs p.g)).any λu=>bj u v:=by
     unfold pin bo;rw[any_map,any_map];rfl
    refine ao (!((bo g p.k (rowsOf kvs p.g)).any λu=>bj u v)) ⟨⟨1,by decide,gv λy hy=>ku (hv y hy),λy hy=>?_⟩,by rw[ep,Bool.true_xor]⟩ ?_
    ·obtain⟨r,hr,rfl⟩:=mem_map.mp hy;exact gv λy hy=>ku (.inr ((lR cQ (gg.1 r hr).2 dZ).1 y hy))
    cases hb:(bo g p.k (rowsOf kvs p.g)).any λu=>bj u v with
    |true=>
     refine d8 rfl ?_;w_on;exact⟨_,_,_,rfl,snoc (by show(v.all nn&&!((bo g p.k (rowsOf kvs p.g)).any λu=>bj u v))=false;rw[hb];simp)⟩
    |false=>
     refine gw rfl ?_;w_on
     have q:pn d.length=.tup [.str "point",.int (d.length:Nat),.int (i:Nat)]:=by
      rw[Jb,uN e2 hd2 (by show bad (vt (.tup xs))=true;rw[dS];show(v.all nn&&!((bo g p.k (rowsOf kvs p.g)).any λu=>bj u v))=true;rw[hb,ha];rfl)];rfl
     rw[zW Af hd (by show nn (pn d.length)=true;rw[q];rfl)];exact q.symm
  ·rintro A2 ⟨bT,cw,cL,rfl,hd2⟩;w_on;refine⟨_,_,_,_,_,_,_,_,_,_,_,rfl,λm rm=>?_⟩;by_cases z:m=d.length
   ·rw[z,Jb,uO hd2];rfl
   ·exact hd m (by rw[length_append,length_singleton] at rm;omega)
 ·rintro A2 ⟨o2,o3,o4,o5,o6,o7,o8,o9,bT,cw,cL,rfl,hd⟩;w_on;rw[uP λm hm=>hd m (by simpa using hm)]
def Jc (x y r:PV):Prop:=∃(ts:List Tab)(ps:List cY)(kvs:aN),x=pF ts ps/\y=.ah kvs/\i8 ts ps/\jB ts kvs/\r=i9 ts ps kvs
theorem X7 (a b:af):bR (a++b)=if nn (bR a) then bR a else bR b:=by
 unfold bR;rw[find?_append]
 cases e:a.find? nn with
 |none=>rfl
 |some x=>simp [find?_some e]
theorem Ah {x:PV}(h:∀ v,x≠.raw v):jt x .ai (.bl (!nn x)):=by
 cases x<;>first|rfl|exact absurd rfl (h _)
theorem X8 {l:af}(h:nn (bR l)=false):∀ y∈l,nn y=false:=λy hy=>by
 unfold bR at h
 cases e:l.find? nn with
 |none=>simpa using find?_eq_none.mp e y hy
 |some x=>rw[e] at h;rw[show(some x).getD PV.ai=x from rfl,find?_some e] at h;cases h
theorem uZ:bH ["_law_frame_here","_law_book_here","_law_found"] ["_law_frame_here","_law_book_here"] (aT xp):=by walk_at "s"
theorem X9 {k:Nat}(D:Df K mg "_law_due" xp)(B:Bt mg)(Jd:Kn P w K mg base k "_law_kind_break" (a_ K false (bc IT)))(Je:Kn P w K mg base k "_law_key_break" (a_ K false (bc IX)))(Jf:Kn P w K mg base k "_law_point_break" (a_ K false (bc Ja))):Kn P w K mg base (k+1) "_law_due" (a_ K false (bc Jc)):=by
 refine D.c6 uZ (λ_ _ _ _ _ _=>dj λ_ _=>rfl) (λ_ _=>bc.len) (by decide) (λf aF A outer s H E hr=>⟨_,(sc (bI (i:=2) uZ.nd (cM rfl Jd hr (ac (vn 0) (ac (vn 1) an))))
  (sc (bW (mQ (qn 2) (qv v0)) (s1 (bI (i:=2) uZ.nd (cM rfl Je hr (ac (vn 0) (ac (vn 1) an))))) sn)
  (sc (bW (mQ (qn 2) (qv v0)) (s1 (bI (i:=2) uZ.nd (cM rfl Jf hr (ac (vn 0) (ac (vn 1) an))))) sn)
  (s1 (bx (vn 2)))))),λB' xs r h=>?_⟩)
 obtain⟨x0,x1,rfl,h⟩:=h;change (_:US) (cH false r) ⟨B',[some (.val x0),some (.val x1),none],none⟩;obtain⟨ts,ps,kvs,rfl,rfl,a9,dh,rfl⟩:=h;w_on;refine ao _ ⟨ts,ps,kvs,rfl,rfl,a9,dh,rfl⟩ ?_;w_on;refine ao _ (Ah (uS zY)) ?_;unfold i9
 cases h1:nn (bR (h_ ts kvs)) with
 |true=>
  refine d8 rfl ?_;w_on;refine ao _ (Ah (uS zY)) ?_;rw[h1];refine d8 rfl ?_;w_on;rfl
 |false=>
  have ag:=IB dh (X8 h1);refine gw rfl ?_;w_on;refine ao _ ⟨ts,ps,kvs,rfl,rfl,a9,dh,ag,rfl⟩ ?_;w_on;have X_:∀ y∈(ts.map λt=>bR (iF t (rowsOf kvs t.n))),∀ v,y≠.raw v:=λy hy=>IA (ps:=ps) y (mem_append_left _ hy);refine ao _ (Ah (uS X_)) ?_;have er:nj ts ps kvs=_++_:=rfl;rw[er,X7]
  cases h2:nn (bR (ts.map λt=>bR (iF t (rowsOf kvs t.n)))) with
  |true=>
   refine d8 rfl ?_;w_on;rfl
  |false=>
   refine gw rfl ?_;w_on;refine ao _ ⟨ts,ps,kvs,rfl,rfl,a9,dh,ag,rfl⟩ ?_;w_on;rfl
noncomputable def bk (ts:List Tab)(R:Str->af):aN:=ts.map λt=>(.str t.n,.lst (R t.n))
noncomputable def f6 (R:Str->af)(n:Str)(rs:af):Str->af:=λm=>if m=n then rs else R m
theorem kB {R:Str->af}{n:Str}{rs:af}:f6 R n rs n=rs:=if_pos rfl
theorem lU {R:Str->af}{n m:Str}{rs:af}(h:m≠n):f6 R n rs m=R m:=if_neg h
theorem jC {R:Str->af}:∀{ts:List Tab}{n:Str},n∈ts.map Tab.n->bP (bk ts R) (.inr n)=some (.lst (R n))
 |[],n,h=>by cases h
 |t::ts,n,h=>by
  show(if pk (.str t.n)=some (.inr n) then some (PV.lst (R t.n)) else bP (bk ts R) (.inr n))=_;by_cases e:t.n=n
  ·subst e;exact if_pos rfl
  ·rw[if_neg (by intro z;exact e (by simpa [pk] using z))];rcases mem_cons.mp h with z|z
   ·exact absurd z.symm e
   ·exact jC z
theorem Jg {R:Str->af}:∀{ts:List Tab}{n:Str},n∉ts.map Tab.n->bP (bk ts R) (.inr n)=none
 |[],n,h=>rfl
 |t::ts,n,h=>by
  show(if pk (.str t.n)=some (.inr n) then some (PV.lst (R t.n)) else bP (bk ts R) (.inr n))=_;rw[if_neg (by intro z;exact h (by simp [show t.n=n by simpa [pk] using z]))];exact Jg λz=>h (mem_cons_of_mem _ z)
theorem Ai {R:Str->af}{ts:List Tab}{n:Str}{rs:af}(h:n∈ts.map Tab.n):dG (bk ts R) (.inr n) (.lst rs)=bk ts (f6 R n rs):=by
 unfold dG;rw[jC h,if_pos (by rfl)];unfold bk;rw[map_map];refine map_congr_left λt _=>?_;show(if pk (.str t.n)=some (.inr n) then _ else _)=_;by_cases e:t.n=n
 ·subst e;rw[if_pos (by rfl),kB]
 ·rw[if_neg (by intro z;exact e (by simpa [pk] using z)),lU e]
theorem X' {R:Str->af}{ts:List Tab}{t:Tab}{rs:af}(h:t.n∉ts.map Tab.n):dG (bk ts R) (.inr t.n) (.lst rs)=bk (ts++[t]) (f6 R t.n rs):=by
 unfold dG;rw[Jg h,if_neg (by decide)];unfold bk;rw[map_append];show _=_++[(PV.str t.n,PV.lst (f6 R t.n rs t.n))];rw[kB]
 congr 1
 refine map_congr_left λu hu=>?_;rw[lU λe=>h (by rw[<- e];exact mem_map.mpr ⟨u,hu,rfl⟩)]
theorem jD {R:Str->af}{ts:List Tab}{n:Str}(h:n∈ts.map Tab.n):rowsOf (bk ts R) n=R n:=by
 unfold rowsOf;rw[jC h]
def Vy (x:PV):Prop:=x=.ai\/x=.int 0\/x=.int 1\/x=.int 2\/x=.int (-1)\/x=.int (10 ^ 12)\/x=.bl true\/x=.bl false\/x=.tup [.str "a"]\/x=.lst []\/∃ z∈(["a","","b","aa","a\n"]:ay),x=.str z
theorem Vy.vx {x:PV}(h:Vy x):Vx x:=by
 rcases h with rfl|rfl|rfl|rfl|rfl|rfl|rfl|rfl|rfl|rfl|⟨z,hz,rfl⟩
 all_goals first|exact hz|exact rfl|trivial
def RY (r:PV):Prop:=match r with
 |.tup xs=>(∀ y∈xs,Vy y)/\xs.length<=9
 |.lst xs=>(∀ y∈xs,Vy y)/\xs.length<=9
 |_=>False
theorem RY.rx {r:PV}(h:RY r):Rx r:=by
 cases r<;>first|exact h.elim|exact⟨λy hy=>(h.1 y hy).vx,h.2⟩
def BY (ts:List Tab)(R:Str->af):Prop:=∀ t∈ts,(∀ r∈R t.n,RY r)/\(R t.n).length<=50
def GY (ts:List Tab)(R:Str->af):Prop:=∀ t∈ts,∀ r∈R t.n,cb r t.cs=true
theorem dM {ts:List Tab}{t:Tab}(h:t∈ts):t.n∈ts.map Tab.n:=mem_map.mpr ⟨t,h,rfl⟩
theorem BY.bk {ts:List Tab}{R:Str->af}(h:BY ts R):jB ts (bk ts R):=λt ht=>by
 rw[jD (dM ht)];have q:=h t ht;exact⟨jC (dM ht),λr hr=>(q.1 r hr).rx,by have:=q.2;omega⟩
noncomputable def dw (ts:List Tab)(R:Str->af):Nat:=(ts.map λt=>(R t.n).length).sum
def fz (ts:List Tab)(R' R:Str->af):Prop:=∀ t∈ts,(R' t.n).Sublist (R t.n)
def kC (ts:List Tab)(R' R:Str->af):Prop:=∀ t∈ts,R' t.n=R t.n
theorem fz.refl (ts:List Tab)(R:Str->af):fz ts R R:=λ_ _=>Sublist.refl _
theorem fz.by {ts:List Tab}{R' R:Str->af}(s:fz ts R' R)(h:BY ts R):BY ts R':=λt ht=>⟨λr hr=>(h t ht).1 r ((s t ht).subset hr),cC (s t ht).length_le (h t ht).2⟩
theorem fz.gy {ts:List Tab}{R' R:Str->af}(s:fz ts R' R)(h:GY ts R):GY ts R':=λt ht r hr=>h t ht r ((s t ht).subset hr)
theorem fz.dw {R' R:Str->af}:∀{ts:List Tab},fz ts R' R->dw ts R'<=dw ts R/\(dw ts R'=dw ts R->kC ts R' R)
 |[],_=>⟨aG _,λ_ _ h=>by cases h⟩
 |t::ts,s=>by
  obtain⟨h1,h2⟩:=fz.dw (ts:=ts) λu hu=>s u (mem_cons_of_mem _ hu);have h3:=(s t mem_cons_self).length_le;have e1:b0.dw (t::ts) R'=(R' t.n).length+b0.dw ts R':=by simp [b0.dw]
  have e2:b0.dw (t::ts) R=(R t.n).length+b0.dw ts R:=by simp [b0.dw]
  refine⟨by omega,λe u hu=>?_⟩;rcases mem_cons.mp hu with rfl|hu
  ·exact(s u mem_cons_self).eq_of_length (by omega)
  ·exact h2 (by omega) u hu
theorem Jh {ts:List Tab}{R R1:Str->af}{n:Str}{rs:af}(hn:n∈ts.map Tab.n)(s:fz ts R1 R)(h:rs.Sublist (R1 n)):fz ts (f6 R1 n rs) R/\(kC ts (f6 R1 n rs) R->kC ts R1 R/\rs=R1 n):=by
 have s2:fz ts (f6 R1 n rs) R1:=λt ht=>by
  by_cases e:t.n=n
  ·rw[e,kB];exact h
  ·rw[lU e];exact Sublist.refl _
 refine⟨λt ht=>(s2 t ht).trans (s t ht),λe=>?_⟩
 have e1:kC ts R1 R:=λt ht=>by
  have a:=(s2 t ht).length_le;have b:=(s t ht);rw[e t ht] at a;exact b.eq_of_length (Nat.le_antisymm b.length_le a)
 obtain⟨t,ht,rfl⟩:=mem_map.mp hn;refine⟨e1,?_⟩;have:=e t ht;rw[kB] at this;rw[this,e1 t ht]
def Uq (vs:List (af)):Prop:=∀ j,j<vs.length->∀ i,i<j->bj (vs.getD i []) (vs.getD j [])=false
theorem Uq.dup {vs:List (af)}(h:Uq vs):dup vs=none:=z_ λm hm=>uM λi hi=>h m hm i (mem_range.mp hi)
theorem Uq.snoc {vs:List (af)}{v:af}(h:Uq vs)(n:∀ u∈vs,bj u v=false):Uq (vs++[v]):=λj hj i hi=>by
 have hl:(vs++[v]).length=vs.length+1:=by simp
 have gi:(vs++[v]).getD i []=vs.getD i []:=by
  rw[getD_eq_getElem?_getD,getD_eq_getElem?_getD,getElem?_append_left (by omega)]
 rw[gi];by_cases e:j=vs.length
 ·subst e;have:(vs++[v]).getD vs.length []=v:=by simp
  rw[this];refine n _ ?_;rw[getD_eq_getElem?_getD,bL hi];exact getElem_mem hi
 ·have gj:(vs++[v]).getD j []=vs.getD j []:=by
   rw[getD_eq_getElem?_getD,getD_eq_getElem?_getD,getElem?_append_left (by omega)]
  rw[gj];exact h j (by omega) i hi
structure Clean (ts:List Tab)(ps:List cY)(R:Str->af):Prop where
 k:∀ t∈ts,∀ key∈t.ks,Uq (bo t key (R t.n))
 p:∀ p∈ps,fY ts (bk ts R) p=none
theorem Clean.first {ts:List Tab}{ps:List cY}{R:Str->af}(c:Clean ts ps R)(g:GY ts R):i9 ts ps (bk ts R)=.ai:=by
 unfold i9
 have h1:bR (h_ ts (bk ts R))=.ai:=ni λy hy=>by
  obtain⟨t,ht,rfl⟩:=mem_map.mp hy;rw[jD (dM ht),findIdx?_eq_none_iff.mpr λr hr=>by rw[g t ht r hr];rfl];rfl
 rw[h1];refine ni λy hy=>?_;rcases mem_append.mp hy with z|z
 ·obtain⟨t,ht,rfl⟩:=mem_map.mp z
  have:bR (iF t (rowsOf (bk ts R) t.n))=.ai:=uP λm hm=>by
   rw[jD (dM ht),(c.k t ht _ (by rw[getD_eq_getElem?_getD,bL hm];exact getElem_mem hm)).dup];rfl
  rw[this];rfl
 ·obtain⟨n,hn,rfl⟩:=mem_map.mp z;have hn:=mem_range.mp hn;rw[bL hn];show nn (ko n (fY ts (bk ts R) ps[n]))=false;rw[c.p _ (getElem_mem hn)];rfl
theorem Clean.of {ts:List Tab}{ps:List cY}{R R':Str->af}(e:kC ts R' R)(c:Clean ts ps R):Clean ts ps R':=by
 have eb:bk ts R'=bk ts R:=map_congr_left λt ht=>by rw[e t ht]
 exact⟨λt ht=>by rw[e t ht];exact c.k t ht,by rw[eb];exact c.p⟩
theorem rq {xs:af}{cs:List fv}:cb (.tup xs) cs=true↔xs.length=cs.length/\∀(i:Nat)(x:PV)(c:fv),xs[i]?=some x->cs[i]?=some c->dg (x,c)=true:=by
 simp only[cb,Bool.and_eq_true,decide_eq_true_eq];refine and_congr_right λhl=>⟨λh i x c h1 h2=>?_,λh=>?_⟩
 ·refine all_eq_true.mp h (x,c) (mem_of_getElem? (i:=i) ?_);rw[getElem?_zip_eq_some];exact⟨h1,h2⟩
 ·refine all_eq_true.mpr λp hp=>?_;obtain⟨i,hi⟩:=getElem?_of_mem hp;rw[getElem?_zip_eq_some] at hi;exact h i p.1 p.2 hi.1 hi.2
theorem Ji {t:Tab}{c:fv}(nd:(cx t).Nodup)(h:c∈t.cs):t.cs[aq t c.n]?=some c:=by
 have hm:c.n∈cx t:=mem_map.mpr ⟨c,h,rfl⟩;obtain⟨i,hi⟩:=getElem?_of_mem h;have Aj:(cx t)[i]?=some c.n:=by unfold cx;rw[getElem?_map,hi];rfl
 have:aq t c.n=i:=by
  have hl:=idxOf_lt_length_of_mem hm;have e1:(cx t)[(cx t).idxOf c.n]?=some c.n:=by rw[bL hl];exact congrArg some (getElem_idxOf hl)
  exact(getElem?_inj hl nd).mp (e1.trans Aj.symm)
 rw[this];exact hi
theorem Yb {t:Tab}{c:fv}{xs:af}{v:PV}(nd:(cx t).Nodup)(h:c∈t.cs)(hf:cb (.tup xs) t.cs=true)(hv:dg (v,c)=true):cb (.tup (xs.set (aq t c.n) v)) t.cs=true:=by
 obtain⟨h1,h2⟩:=rq.mp hf;refine rq.mpr ⟨by rw[length_set];exact h1,λi x d hx hd=>?_⟩;rw[getElem?_set] at hx;by_cases e:aq t c.n=i
 ·rw[if_pos e] at hx
  have:c=d:=by
   have:=Ji nd h;rw[e,hd] at this;cases this;rfl
  subst this
  split at hx
  ·cases hx;exact hv
  ·cases hx
 ·rw[if_neg e] at hx;exact h2 i x d hx hd
theorem Jj {t:Tab}{c:fv}{xs:af}(nd:(cx t).Nodup)(h:c∈t.cs)(hf:cb (.tup xs) t.cs=true):aq t c.n<xs.length/\dg (xs.getD (aq t c.n) .ai,c)=true:=by
 obtain⟨h1,h2⟩:=rq.mp hf;have hp:=Ji nd h;have hl:aq t c.n<xs.length:=by rw[h1];exact(b8 hp).1
 refine⟨hl,h2 _ _ _ ?_ hp⟩;rw[getD_eq_getElem?_getD,bL hl];rfl
def FK (ts:List Tab)(ps:List cY):Prop:=∀ p∈ps,∀ t g,tabAt ts p.t=some t->tabAt ts p.g=some g->∀ q∈p.cs.zip p.k,∃ c∈t.cs,∃ e∈g.cs,c.n=q.1/\e.n=q.2/\c.k=e.k/\e.m=false
theorem u3 {ts:List cB}{f:Nat->Str}{t:cB}(F:oW f)(kD:∀ t∈ts,t.n<26)(nd:(ts.map cB.n).Nodup)(h:t∈ts):tabAt (ts.map (tb f)) (f t.n)=some (tb f t):=by
 unfold tabAt
 induction ts with
 |nil=>cases h
 |cons a l ih=>
  rw[map_cons,nodup_cons] at nd;rw[map_cons,find?_cons];rcases mem_cons.mp h with rfl|z
  ·have:((tb f t).n==f t.n)=true:=by simp [tb]
   rw[this]
  ·have:((tb f a).n==f t.n)=false:=by
    rw[beq_eq_false_iff_ne];intro e;have:=F.inj _ _ (kD a (by simp)) (kD t (by simp [z])) e;exact nd.1 (mem_map.mpr ⟨t,z,this.symm⟩)
   rw[this];exact ih (λu hu=>kD u (by simp [hu])) nd.2 z
theorem Jk:∀{k l:List Nat},k.Nodup->k ⊆ l->k.length<=l.length
 |[],_,_,_=>Nat.zero_le _
 |a::k,l,nd,s=>by
  rw[nodup_cons] at nd;have ha:a∈l:=s mem_cons_self;have:=Jk (k:=k) (l:=l.erase a) nd.2 λx hx=>(mem_erase_of_ne λe=>nd.1 (by rw[<- e];exact hx)).mpr (s (mem_cons_of_mem _ hx));rw[length_erase_of_mem ha] at this;have:=length_pos_of_mem ha;rw[length_cons];omega
theorem Yc {t:cB}{f:Nat->Str}(F:oW f)(T:TN t):lO (tb f t) where
 aK:=by have:=T.l3;simp [tb];omega
 kinds:=λc hc=>by
  obtain⟨d,hd,rfl⟩:=mem_map.mp hc;exact T.k d hd
 keys:=λkey hk=>by
  obtain⟨k,jW,rfl⟩:=mem_map.mp hk;obtain⟨_,nd,h⟩:=T.key k jW;have l3:=T.l3
  have sub:k ⊆ t.cs.map bZ.i:=λi hi=>by
   obtain⟨c,hc,rfl,_⟩:=h i hi;exact mem_map.mpr ⟨c,hc,rfl⟩
  have:=Jk nd sub;refine⟨by simp at this ⊢;omega,λn hn=>?_⟩;obtain⟨i,hi,rfl⟩:=mem_map.mp hn;obtain⟨c,hc,rfl,hm⟩:=h i hi;exact⟨co f c,mem_map.mpr ⟨c,hc,rfl⟩,rfl,hm⟩
 kl:=by have:=T.kl;simp [tb];omega
 ne:=λkey hk=>by
  obtain⟨k,jW,rfl⟩:=mem_map.mp hk;have:=(T.key k jW).1.1;simpa using this
 nd:=by
  have:=uJ F T.lt T.nd;unfold cx tb;rw[map_map] at this ⊢;exact this
theorem Yd {ts:List cB}{ps:List lH}{f:Nat->Str}(F:oW f)(h:HJ ts)(hp:∀ p∈ps,uH ts p)(hl:ps.length<=4):i8 (ts.map (tb f)) (ps.map (pt f))/\FK (ts.map (tb f)) (ps.map (pt f)):=by
 obtain⟨_,tl,nd,T⟩:=h;have kD:∀ t∈ts,t.n<26:=λt ht=>(T t ht).n;refine⟨⟨by simp;omega,by simp;omega,λt ht=>?_,?_,λp Ak=>?_⟩,λp Ak t g ht hg q hq=>?_⟩
 ·obtain⟨u,hu,rfl⟩:=mem_map.mp ht;exact Yc F (T u hu)
 ·rw[map_map];have:=uJ F (l:=ts.map cB.n) (λi hi=>by obtain⟨t,ht,rfl⟩:=mem_map.mp hi;exact kD t ht) nd;rw[map_map] at this;exact this
 ·obtain⟨u,hu,rfl⟩:=mem_map.mp Ak;obtain⟨t,ht,g,hg,e1,e2,hk,_,hc,lK⟩:=hp u hu;refine⟨tb f t,tb f g,by show tabAt _ (f u.t)=_;rw[e1];exact u3 F kD nd ht,by show tabAt _ (f u.g)=_;rw[e2];exact u3 F kD nd hg,mem_map.mpr ⟨u.k,hk,rfl⟩,?_,λn hn=>?_⟩
  ·have:=congrArg List.length lK;simpa [pt] using this
  ·obtain⟨i,hi,rfl⟩:=mem_map.mp hn;obtain⟨c,aM,rfl⟩:=mem_map.mp (hc i hi);exact mem_map.mpr ⟨co f c,mem_map.mpr ⟨c,aM,rfl⟩,rfl⟩
 ·obtain⟨u,hu,rfl⟩:=mem_map.mp Ak;obtain⟨t0,Jl,g0,Al,e1,e2,hk,_,hc,lK⟩:=hp u hu;have ht:tabAt (ts.map (tb f)) (f u.t)=some t:=ht;have hg:tabAt (ts.map (tb f)) (f u.g)=some g:=hg;rw[e1,u3 F kD nd Jl] at ht;rw[e2,u3 F kD nd Al] at hg;cases ht;cases hg;have hq:q∈(u.cs.map f).zip (u.k.map f):=hq;rw[zip_map] at hq;obtain⟨⟨i,j⟩,qy,rfl⟩:=mem_map.mp hq;obtain⟨m,hm⟩:=getElem?_of_mem qy;rw[getElem?_zip_eq_some] at hm;obtain⟨c,aM,rfl⟩:=mem_map.mp (hc i (mem_of_getElem? hm.1));obtain⟨e,he,rfl,eW⟩:=((T g0 Al).key u.k hk).2.2 j (mem_of_getElem? hm.2);have ek:(u.cs.map (kI t0.cs))[m]?=(u.k.map (kI g0.cs))[m]?:=by rw[lK]
  rw[getElem?_map,getElem?_map,hm.1,hm.2] at ek;simp only[Option.map_some,Option.some.injEq] at ek;rw[uE (T t0 Jl).nd aM,uE (T g0 Al).nd he] at ek;exact⟨co f c,mem_map.mpr ⟨c,aM,rfl⟩,co f e,mem_map.mpr ⟨e,he,rfl⟩,rfl,rfl,ek,eW⟩
theorem Ye {u v:US}{E:fo}{A:AS}(C:bX)(h1:∀ A,C A->v E A)(h2:∀ W:US,(∀ A,C A->W E A)->sP u W E A):sP u v E A:=h2 v h1
theorem u4 {z:Str}(h:z∈(["a","","b","aa"]:ay)):Vy (.str z):=.inr (.inr (.inr (.inr (.inr (.inr (.inr (.inr (.inr (.inr ⟨z,by simp only[mem_cons,not_mem_nil,or_false] at h ⊢;rcases h with h|h|h|h<;>simp [h],rfl⟩)))))))))
theorem Yg {r:Int}(h0:0<=r)(h1:r<5):∃ i,b9 [PV.int 0,PV.int 1,PV.int 2,PV.int (-1),PV.int (10 ^ Int.toNat 12)] r=some (.int i)/\Vy (.int i):=by
 have:r=0\/r=1\/r=2\/r=3\/r=4:=by omega
 rcases this with rfl|rfl|rfl|rfl|rfl
 ·exact⟨_,qJ,.inr (.inl rfl)⟩
 ·exact⟨_,qK,.inr (.inr (.inl rfl))⟩
 ·exact⟨_,qL,.inr (.inr (.inr (.inl rfl)))⟩
 ·exact⟨_,yU,.inr (.inr (.inr (.inr (.inl rfl))))⟩
 ·exact⟨_,TX,.inr (.inr (.inr (.inr (.inr (.inl rfl)))))⟩
def u5 (z:PV):Prop:=z=.ai\/∃ xs,z=.tup xs/\xs.length<=9/\∀ y∈xs,(∃ s,y=.str s)\/∃ i,y=.int i
def Jm (x y r:PV):Prop:=u5 x/\y=x/\r=.bl true
theorem Am {l:af}(h:∀ y∈l,u5 y):u5 (bR l):=by
 unfold bR
 cases e:l.find? nn with
 |none=>exact .inl rfl
 |some x=>exact h x (mem_of_find?_eq_some e)
theorem Yh (ts:List Tab)(ps:List cY)(kvs:aN):u5 (i9 ts ps kvs):=by
 unfold i9
 split
 ·refine Am λy hy=>?_;obtain⟨t,_,rfl⟩:=mem_map.mp hy
  cases (rowsOf kvs t.n).findIdx? λr=>!cb r t.cs with
  |none=>exact .inl rfl
  |some i=>exact .inr ⟨_,rfl,by simp,λy hy=>by simp at hy;rcases hy with rfl|rfl|rfl<;>first|exact .inl ⟨_,rfl⟩|exact .inr ⟨_,rfl⟩⟩
 ·refine Am λy hy=>?_;rcases mem_append.mp hy with z|z
  ·obtain⟨t,_,rfl⟩:=mem_map.mp z;refine Am λy hy=>?_;obtain⟨n,_,rfl⟩:=mem_map.mp hy;rcases dup (bo t (t.ks.getD n []) (rowsOf kvs t.n)) with _|⟨i,j⟩
   ·exact .inl rfl
   ·exact .inr ⟨_,rfl,by simp,λy hy=>by simp at hy;rcases hy with rfl|rfl|rfl|rfl|rfl<;>first|exact .inl ⟨_,rfl⟩|exact .inr ⟨_,rfl⟩⟩
  ·obtain⟨n,_,rfl⟩:=mem_map.mp z
   cases (ps[n]?).bind (fY ts kvs) with
   |none=>exact .inl rfl
   |some i=>exact .inr ⟨_,rfl,by simp,λy hy=>by simp at hy;rcases hy with rfl|rfl|rfl<;>first|exact .inl ⟨_,rfl⟩|exact .inr ⟨_,rfl⟩⟩
theorem Yi:bH ["_law_found","_law_due_here"] ["_law_found","_law_due_here"] (aT xt):=by walk_at "s"
theorem Yj {k:Nat}(D:Df K mg "_law_told" xt)(B:Bt mg):Kn P w K mg base (k+1) "_law_told" (a_ K false (bc Jm)):=by
 refine D.c6 Yi (λ_ _ _ _ _ _=>dj λ_ _=>rfl) (λ_ _=>bc.len) (by decide) (λf aF A outer s H E hr=>⟨_,(sc (bW (PW.pt (lr (mQ (qn 0) (qv v0)) (mJ (mQ (qn 1) (qv v0))))) (s1 (bx (lx (yt (qn 0) (qv v0)) (lu (yt (qn 1) (qv v0)))))) sn)
  (sc (bW (PW.pt (lr (jo (gM rfl (qv (gX .tuple rfl B.isinstance B.tuple PyProof.Rows.boot_tuple (qn 0))))) (lr (oq rfl hr (qv (du rfl B.len (qn 0))) (qv (du rfl B.len (qn 1)))) (mJ (oq rfl hr (qn 0) (qn 1)))))) (s1 (bx vb)) sn)
  (s1 (bx (xO (Qt rfl rfl B.any (qf (eJ (N:=["_law_part"]) (k:=1) (ix:=[]) cS rfl (dn rfl 0) (λ_ _ _ _=>(aE (i:=0) (by show(["_law_part"]:ay).Nodup;decide +kernel))) (λ_ _ _ _=>cX) (λ_ _ _ _=>(gX .bool rfl B.isinstance B.bool PyProof.Rows.boot_bool (qn 0))))))))))),λB' xs r h=>?_⟩)
 obtain⟨x0,x1,rfl,h⟩:=h;change (_:US) (cH false r) ⟨B',[some (.val x0),some (.val x1)],none⟩;obtain⟨hx,rfl,rfl⟩:=h;rcases hx with rfl|⟨xs,rfl,hl,hy⟩
 ·w_on
 ·have dp:Dp 1 (.tup xs):=tS λy uj=>by
   rcases hy y uj with ⟨z,rfl⟩|⟨z,rfl⟩
   ·exact gu _ _
   ·exact oB _ _
  w_on;refine gw (by simp) ?_;w_on;refine ao _ (WI (n:=true) dp (by decide)) ?_;refine d8 rfl ?_;w_on;refine comp_map (λ_=>.bl false) (by omega) ?_ ?_
  ·intro B x hx R hR;rcases hy x hx with ⟨z,rfl⟩|⟨z,rfl⟩
   ·w_on;exact ao false rfl (hR _ ⟨rfl,rfl⟩ rfl)
   ·w_on;exact hR _ ⟨rfl,rfl⟩ rfl
  w_on;simp
def Jn (x y:PV)(st:az)(Q:PV->az->Prop):Prop:=∃(k:Str)(m:Bool),x=.str k/\y=.bl m/\i7 k/\st.n<=90000/\∀(v:PV)(au:az),Vy v->(∀ n,dg (v,⟨n,k,m⟩)=true)->Nx st 3 au->Q v au
theorem Yk:bH ["_law_state","_law_kind","_law_maybe"] ["_law_state","_law_kind","_law_maybe"] (aT xf):=by walk_at "s"
theorem Yl {k:Nat}(D:Df K mg "_law_value" xf)(B:Bt mg)(bM:Kn P w K mg base k "_law_take" (spS K false (c7 g6))):Kn P w K mg base (k+1) "_law_value" (spS K false (iz Jn)):=by
 refine D.i4 Yk (λ_ _ _ _ _ _=>mD λ_ _ _=>rfl) (λ_ _ _=>iz.len) (by decide) (λf aF A outer s H E hr=>⟨_,(sc (bW (PW.pt (lq (gM rfl (qn 2)) (lh (gq rfl hr (qv (cE rfl bM hr (ac (vn 0) (ac vi an)))) (qv vi))))) (s1 (bx v0)) sn)
  (sc (bW (gq rfl hr (qn 1) (qv vs)) (s1 (bx (aA rfl hr (qf (el (ac vs (ac vs (ac vs (ac vs an)))))) (qv (cE rfl bM hr (ac (vn 0) (ac vi an))))))) sn)
  (s1 (bx (aA rfl hr (qf (el (ac vi (ac vi (ac vi (ac (yz vi) (ac (F5 (qv vi) (qv vi)) an))))))) (qv (PN (qv (E8 (qv (cE rfl bM hr (ac (vn 0) (ac vi an)))) (qv vi))) (qv (Qv B.int (qv (Fn (qv (cE rfl bM hr (ac (vn 0) (ac vi an)))) (qv vi)))))))))))),λB' xs st Q h=>?_⟩)
 obtain⟨x1,x2,rfl,h⟩:=h;change (_:US) (fH false Q) ⟨B',[some (.val (.raw (.ref st.d))),some (.val x1),some (.val x2)],some st⟩;obtain⟨k,m,rfl,rfl,hk,hn,h⟩:=h;obtain⟨d,a,n,D⟩:=st;have f9:n<=90000:=hn;refine Ye (λA=>∃ n2,n2<=n+1/\A=⟨B',[some (.val (.raw (.ref d))),some (.val (.str k)),some (.val (.bl m))],some ⟨d,a,n2,D⟩⟩) ?_ λW hW=>?_
 ·rintro _ ⟨n2,h2,rfl⟩;w_on;refine b_ (λe=>?_) λe=>?_
  ·have ek:k="text":=by simpa using e
   subst ek;w_on;refine draw (by omega) (by decide) (by decide) λr r0 r1=>?_;w_on
   obtain⟨z,hz,ez⟩:∃ z∈(["a","","b","aa"]:ay),b9 [PV.str "a",PV.str "",PV.str "b",PV.str "aa"] r=some (.str z):=by
    have:r=0\/r=1\/r=2\/r=3:=by omega
    rcases this with rfl|rfl|rfl|rfl
    ·exact⟨_,by simp,qJ⟩
    ·exact⟨_,by simp,qK⟩
    ·exact⟨_,by simp,qL⟩
    ·exact⟨_,by simp,yU⟩
   refine ao _ ez ?_;w_on;refine h _ ⟨d,a,n2+1,D⟩ (u4 hz) (λq=>?_) ⟨n2+1,by show n2+1<=n+3;omega,rfl⟩;have:decide (z∈(["a","","b","aa"]:ay))=true:=decide_eq_true hz;simp only[dg,ed,tn,if_false,iE,nn,Bool.or_true,Bool.and_true];exact this
  ·have ek:k="number":=by
    rcases hk with z|z
    ·exact z
    ·rw[z] at e;exact absurd e (by decide)
   subst ek;w_on;refine⟨⟨by decide,by decide,by decide⟩,?_⟩;refine draw (by omega) (by decide) (by decide) λr r0 r1=>?_;w_on;refine draw (by omega) (by decide) (by decide) λq q0 q1=>?_;w_on
   obtain⟨x,x0,x1,hx⟩:∃ x:Int,0<=x/\x<5/\(r % 5*if decide (0<q)=true then 1 else 0)=x:=by
    refine⟨_,?_,?_,rfl⟩<;>split<;>omega
   rw[hx];obtain⟨i,ei,vi⟩:=Yg x0 x1;refine⟨?_,ao _ ei ?_⟩
   ·unfold pH
    split<;>omega
   w_on;exact h _ ⟨d,a,n2+1+1,D⟩ vi (λq=>by simp [dg,ed,isInt,nn]) ⟨n2+1+1,by show n2+1+1<=n+3;omega,rfl⟩
 ·simp only[FZ] at hW
  cases m with
  |false=>
   w_on;exact hW _ ⟨n,by omega,rfl⟩
  |true=>
   w_on;refine draw (by omega) (by decide) (by decide) λr r0 r1=>?_;w_on;refine b_ (λe=>?_) λe=>?_
   ·w_on;exact h _ ⟨d,a,n+1,D⟩ (.inl rfl) (λq=>rfl) ⟨n+1,by show n+1<=n+3;omega,rfl⟩
   ·w_on;exact hW _ ⟨n+1,by omega,rfl⟩
theorem Ym {xs:af}{q:Int}{y:PV}(hy:b9 xs q=some y)(vy:Vy y){s:Int}(s0:0<=s)(s1:s<15):∃ z,b9 [PV.ai,PV.int 0,PV.int 1,PV.int 2,PV.str "a",PV.str "",PV.str "b",PV.int (-1),PV.int (10 ^ Int.toNat 12),PV.bl true,PV.bl false,PV.tup [PV.str "a"],PV.lst [],y,PV.str "a\n"] s=some z/\Vy z:=by
 obtain⟨j,rfl⟩:=Int.eq_ofNat_of_zero_le s0;have hj:j<15:=by omega
 refine⟨_,hZ (by simpa using hj),?_⟩
 match j,hj with
 |0,_=>exact .inl rfl
 |1,_=>exact .inr (.inl rfl)
 |2,_=>exact .inr (.inr (.inl rfl))
 |3,_=>exact .inr (.inr (.inr (.inl rfl)))
 |4,_=>exact u4 (by simp)
 |5,_=>exact u4 (by simp)
 |6,_=>exact u4 (by simp)
 |7,_=>exact .inr (.inr (.inr (.inr (.inl rfl))))
 |8,_=>exact .inr (.inr (.inr (.inr (.inr (.inl rfl)))))
 |9,_=>exact .inr (.inr (.inr (.inr (.inr (.inr (.inl rfl))))))
 |10,_=>exact .inr (.inr (.inr (.inr (.inr (.inr (.inr (.inl rfl)))))))
 |11,_=>exact .inr (.inr (.inr (.inr (.inr (.inr (.inr (.inr (.inl rfl))))))))
 |12,_=>exact .inr (.inr (.inr (.inr (.inr (.inr (.inr (.inr (.inr (.inl rfl)))))))))
 |13,_=>exact vy
 |14,_=>exact .inr (.inr (.inr (.inr (.inr (.inr (.inr (.inr (.inr (.inr ⟨"a\n",by simp,rfl⟩)))))))))
def Jo (x y:PV)(st:az)(Q:PV->az->Prop):Prop:=∃(xs:af),x=.tup xs/\y=.tup xs/\(∀ v∈xs,Vy v)/\0<xs.length/\xs.length<=8/\st.n<=90000/\∀(v:PV)(au:az),RY v->Nx st 3 au->Q v au
theorem u6:bH ["_law_state","_law_row","_law_others","_law_way","_law_at","_law_some"] ["_law_state","_law_row","_law_others"] (aT xq):=by walk_at "s"
theorem Yn {k:Nat}(D:Df K mg "_law_other_row" xq)(B:Bt mg)(bM:Kn P w K mg base k "_law_take" (spS K false (c7 g6))):Kn P w K mg base (k+1) "_law_other_row" (spS K false (iz Jo)):=by
 refine D.i4 u6 (λ_ _ _ _ _ _=>mD λ_ _ _=>rfl) (λ_ _ _=>iz.len) (by decide) (λf aF A outer s H E hr=>⟨_,(sc (bI (i:=3) u6.nd (cE rfl bM hr (ac (vn 0) (ac vi an))))
  (sc (bI (i:=4) u6.nd (cE rfl bM hr (ac (vn 0) (ac (du rfl B.len (qn 1)) an))))
  (sc (bW (yq (qn 3) (qv vi)) (sc (bI (i:=5) u6.nd (vf (el (ac v0 (ac vi (ac vi (ac vi (ac vs (ac vs (ac vs (ac (yz vi) (ac (F5 (qv vi) (qv vi)) (ac vb (ac vb (ac (et (ac vs an)) (ac (vf (el an)) (ac (aA rfl hr (qn 2) (qn 4)) (ac vs an))))))))))))))))))
  (s1 (bx (gU rfl (qv (gU rfl (qv (mT rfl (qn 1) mR (mS (vn 4)))) (qv (et (ac (aA rfl hr (qn 5) (qv (cE rfl bM hr (ac (vn 0) (ac vi an))))) an))))) (qv (mT rfl (qn 1) (mS (gU rfl (qn 4) (qv vi))) mR)))))) sn)
  (sc (bW (gq rfl hr (qn 3) (qv vi)) (s1 (bx (vn 2))) sn)
  (s1 (bx (aA rfl hr (qf (el (ac (mT rfl (qn 1) mR (mS (vn 4))) (ac (gU rfl (qn 1) (qv (et (ac vi an)))) (ac (vf (tF rfl B.list (qn 1))) an))))) (qv (PM (qn 3) (qv vi)))))))))),λB' xs st Q h=>?_⟩)
 obtain⟨x1,x2,rfl,h⟩:=h;change (_:US) (fH false Q) ⟨B',[some (.val (.raw (.ref st.d))),some (.val x1),some (.val x2),none,none,none],some st⟩;obtain⟨xs,rfl,rfl,hv,hp,hl,hn,h⟩:=h;obtain⟨d,a,n,D⟩:=st;have f9:n<=90000:=hn;w_on;refine draw (by omega) (by decide) (by decide) λwy w0 w1=>?_;w_on;refine draw (by omega) (by omega) (Int.lt_of_lt_of_le (by omega:(xs.length:Int)<9) (by decide)) λq q0 q1=>?_;w_on
 obtain⟨y,hy,rA⟩:∃ y,b9 xs q=some y/\y∈xs:=by
  obtain⟨j,rfl⟩:=Int.eq_ofNat_of_zero_le q0;have hj:j<xs.length:=by omega
  refine⟨_,hZ hj,?_⟩;rw[getD_eq_getElem?_getD,bL hj];exact getElem_mem hj
 have Jp:fW xs none (some q)=xs.take q.toNat:=F2 q0 (by omega);have tP:fW xs (some (q+1)) none=xs.drop (q+1).toNat:=F0 (by omega) (by omega);refine b_ (λe=>?_) λe=>?_
 ·w_on;refine⟨⟨by decide,by decide,by decide⟩,ao _ hy ?_⟩;w_on;refine draw (by omega) (by decide) (by decide) λs s0 s1=>?_;w_on;obtain⟨z,hz,zm⟩:=Ym hy (hv y rA) s0 s1;refine ao _ hz ?_;w_on;rw[Jp,tP];refine⟨by simp;omega,by simp;omega,h (.tup (xs.take q.toNat++[z]++xs.drop (q+1).toNat)) ⟨d,a,n+1+1+1,D⟩ ⟨λv dS=>?_,by simp;omega⟩ ⟨n+1+1+1,by show n+1+1+1<=n+3;omega,rfl⟩⟩;rcases mem_append.mp dS with z1|z1
  ·rcases mem_append.mp z1 with z2|z2
   ·exact hv v (mem_of_mem_take z2)
   ·rw[mem_singleton.mp z2];exact zm
  ·exact hv v (mem_of_mem_drop z1)
 ·w_on;refine b_ (λe2=>?_) λe2=>?_
  ·w_on;exact h _ ⟨d,a,n+1+1,D⟩ ⟨hv,by omega⟩ ⟨n+1+1,by show n+1+1<=n+3;omega,rfl⟩
  ·w_on
   have:wy-5=0\/wy-5=1\/wy-5=2:=by
    have e:=e;have e2:=e2;simp at e e2;omega
   rw[Jp];rcases this with e3|e3|e3<;>rw[e3]
   ·refine⟨by omega,ao _ qJ ?_⟩;w_on;exact h _ ⟨d,a,n+1+1,D⟩ ⟨λv dS=>hv v (mem_of_mem_take dS),by simp;omega⟩ ⟨n+1+1,by show n+1+1<=n+3;omega,rfl⟩
   ·refine⟨by omega,ao _ qK ?_⟩;w_on;exact h _ ⟨d,a,n+1+1,D⟩ ⟨λv dS=>(mem_append.mp dS).elim (hv v) λz=>by rw[mem_singleton.mp z];exact .inr (.inl rfl),by simp;omega⟩ ⟨n+1+1,by show n+1+1<=n+3;omega,rfl⟩
   ·refine⟨by omega,ao _ qL ?_⟩;w_on;exact h _ ⟨d,a,n+1+1,D⟩ ⟨hv,by omega⟩ ⟨n+1+1,by show n+1+1<=n+3;omega,rfl⟩
def An:GT:=λxs S P=>∃(ts:List Tab)(ps:List cY)(R:Str->af)(st:az),xs=[.v (.raw (.ref st.d)),.v (pF ts ps),.o (.ah (bk ts R))]/\S=some st/\i8 ts ps/\FK ts ps/\BY ts R/\GY ts R/\st.n<=5000 /\
 ∀(R':Str->af)(au:az),BY ts R'->GY ts R'->Nx st 900 au->P .ai [.ah (bk ts R')] (some au)
theorem Yo {xs:List Ag}{S:Option az}{P:PV->List OC->Option az->Prop}(h:An xs S P):xs.length=3:=by
 obtain⟨_,_,_,_,rfl,_⟩:=h;rfl
theorem Jq {y:PV}(h:Vy y):Dp 1 y:=by
 rcases h with rfl|rfl|rfl|rfl|rfl|rfl|rfl|rfl|rfl|rfl|⟨z,hz,rfl⟩
 all_goals first|exact qG _|exact oB _ _|exact tR _ _|exact gu _ _|(refine tS (n:=0) λx hx=>?_;rw[mem_singleton.mp hx];exact gu _ _)|exact gv (n:=0) λx hx=>by cases hx
theorem Yp {y:PV}(h:RY y):Dp 2 y:=by
 cases y<;>first|exact h.elim|exact tS λx hx=>Jq (h.1 x hx)|exact gv λx hx=>Jq (h.1 x hx)
theorem Yq {ng:Bool}{rs:af}(h:∀ r∈rs,RY r):fI ng (.lst rs) (.lst []) (.bl (ng^^rs.isEmpty)):=by
 unfold fI;refine⟨⟨3,by decide,gv λr hr=>Yp (h r hr),gv λx hx=>by cases hx⟩,?_⟩;cases rs<;>rfl
theorem pb {r:PV}{cs:List fv}(h:cb r cs=true)(q:RY r):∃ xs,r=.tup xs/\(∀ y∈xs,Vy y)/\xs.length<=9:=by
 cases r<;>first|(cases h;done)|exact⟨_,rfl,q.1,q.2⟩
theorem Yr (t g:Tab)(a b:ay):eZ (a.map λm=>PV.int (aq t m:Nat)) (b.map λm=>PV.int (aq g m:Nat))=(a.zip b).map λq=>.tup [.int (aq t q.1:Nat),.int (aq g q.2:Nat)]:=by
 unfold eZ;rw[zip_map,map_map];rfl
theorem Ys {ts:List Tab}{R:Str->af}{n:Str}{rs:af}(h:BY ts R)(h1:∀ r∈rs,RY r)(h2:rs.length<=50):BY ts (f6 R n rs):=λt ht=>by
 by_cases e:t.n=n
 ·rw[e,kB];exact⟨h1,h2⟩
 ·rw[lU e];exact h t ht
theorem Yt {ts:List Tab}{R:Str->af}{t:Tab}{rs:af}(nd:(ts.map Tab.n).Nodup)(ht:t∈ts)(h:GY ts R)(h1:∀ r∈rs,cb r t.cs=true):GY ts (f6 R t.n rs):=λu hu=>by
 by_cases e:u.n=t.n
 ·have:u=t:=by
   obtain⟨i,hi⟩:=getElem?_of_mem hu;obtain⟨j,hj⟩:=getElem?_of_mem ht;have e1:(ts.map Tab.n)[i]?=(ts.map Tab.n)[j]?:=by rw[getElem?_map,getElem?_map,hi,hj];simp [e]
   have:=(getElem?_inj (by rw[length_map];exact(b8 hi).1) nd).mp e1;rw[this,hj] at hi;cases hi;rfl
  subst this;rw[kB];exact h1
 ·rw[lU e];exact h u hu
theorem Ao {xs:af}{q:Int}(q0:0<=q)(q1:q<xs.length):∃ y,b9 xs q=some y/\y∈xs:=by
 obtain⟨j,rfl⟩:=Int.eq_ofNat_of_zero_le q0;have hj:j<xs.length:=by omega
 refine⟨_,hZ hj,?_⟩;rw[getD_eq_getElem?_getD,bL hj];exact getElem_mem hj
theorem gC:bH ["_law_state","_law_frame_here","_law_book_here","_law_name","_law_fields","_law_goal","_law_key","_law_spots_here","_law_goals","_law_rows","_law_row","_law_other","_law_moved_row","_law_spot","_law_there"] ["_law_state","_law_frame_here","_law_book_here"] (aT xi):=by walk_at "s"
theorem Yu {k:Nat}(D:Df K mg "_law_pointed" xi)(B:Bt mg)(fZ:Kn P w K mg base k "_law_spots" (a_ K true (bc lL)))(ja:Kn P w K mg base k "_law_named" (a_ K false (bc uY)))(bM:Kn P w K mg base k "_law_take" (spS K false (c7 g6))):Kn P w K mg base (k+1) "_law_pointed" (m6 K An):=by
 refine D.uy gC (λ_ _ _ _ _ _=>mD λ_ _ _=>rfl) (λ_ _ _=>Yo) (λf aF A outer s H E hr=>⟨_,(s1 (cj PassesOwn.never rfl (iv rfl (aA rfl hr (qn 1) (qv vi))) (eI (n:=4) rfl rfl (bJ (aE (i:=3) gC.nd) (bJ (aE (i:=4) gC.nd) (bJ (aE (i:=5) gC.nd) (bJ (aE (i:=6) gC.nd) eG)))))
  (sc (bI (i:=7) gC.nd (vf (gS rfl fZ hr (ac (cM rfl ja hr (ac (vn 1) (ac (vn 3) an))) (ac (vn 4) an)))))
  (sc (bI (i:=8) gC.nd (vf (gS rfl fZ hr (ac (cM rfl ja hr (ac (vn 1) (ac (vn 5) an))) (ac (vn 6) an)))))
  (sc (gP (i:=9) gC.nd (el an))
  (sc (cj PassesOwn.never rfl (iv rfl (aA rfl hr (qn 2) (qn 3))) (aE (i:=10) gC.nd)
  (sc (bW (PW.pt (lq (oq rfl hr (qv (aA rfl hr (qn 2) (qn 5))) (qf (el an))) (lh (yq (qv (cE rfl bM hr (ac (vn 0) (ac vi an)))) (qv vi))))) (sc (bI (i:=11) gC.nd (aA rfl hr (qv (aA rfl hr (qn 2) (qn 5))) (qv (cE rfl bM hr (ac (vn 0) (ac (du rfl B.len (qv (aA rfl hr (qn 2) (qn 5)))) an))))))
  (sc (gP (i:=12) gC.nd (tF rfl B.list (qn 10)))
  (sc (cj PassesOwn.never rfl (Vc rfl B.zip (vn 7) (vn 8)) (eI (n:=2) rfl rfl (bJ (aE (i:=13) gC.nd) (bJ (aE (i:=14) gC.nd) eG)))
  (s1 (Gv 12 (aA rfl hr (qn 11) (qn 14)) (vn 13))))
  (s1 (bI (i:=10) gC.nd (j9 rfl B.tuple (qn 12))))))) sn)
  (s1 (gk (lC rfl 9 (vn 10))))))
  (s1 (qE hr 2 (vn 9) (vn 3))))))))),λB' ss S Q h np=>?_⟩)
 obtain⟨ts,ps,R,st,e,rfl,a9,fk,iH,jE,hn,hP⟩:=h;obtain⟨ss,rfl,e,np⟩:=zJ e np;obtain⟨ss,rfl,e,np⟩:=zJ e np;obtain⟨ab,ss,rfl,e,np⟩:=Hm e np;cases Hn e;obtain⟨d,a,n,D⟩:=st;have f9:n<=5000:=hn;have tl:=a9.tl;have pl:=a9.pl;change (_:US) (oN _ Q) ⟨B',[some (.val (.raw (.ref d))),some (.val (pF ts ps)),some (.own ab (.ah (bk ts R))),none,none,none,none,none,none,none,none,none,none,none,none],some ⟨d,a,n,D⟩⟩;unfold pF;w_on;refine df ps pP (λdd A=>∃ R1 m o3 o4 o5 o6 o7 o8 o9 bT cw cL dz jb,A=⟨B',[some (.val (.raw (.ref d))),some (.val (pF ts ps)),some (.own ab (.ah (bk ts R1))),o3,o4,o5,o6,o7,o8,o9,bT,cw,cL,dz,jb],some ⟨d,a,m,D⟩⟩/\BY ts R1/\GY ts R1/\m<=n+100*dd.length) ⟨R,n,_,_,_,_,_,_,_,_,_,_,_,_,rfl,iH,jE,by simp⟩ (λ_ _ _=>trivial) ?_ ?_
 ·rintro dd p rr A2 ee ⟨R1,m,o3,o4,o5,o6,o7,o8,o9,bT,cw,cL,dz,jb,rfl,jc,kE,hm⟩;have u7:p∈ps:=by rw[ee];simp
  have oU:dd.length<9:=by have:=congrArg List.length ee;simp at this;omega
  obtain⟨t,g,ht,hg,dZ,gJ,cu⟩:=a9.uQ p u7;obtain⟨ky,eN,gf⟩:=lQ jc.bk ht;obtain⟨i_,fw,kz⟩:=lQ jc.bk hg;have Yv:=fk p u7 t g ht hg;have b7:=a9.tab t eN;have cQ:=a9.tab g fw;rw[jD (by rw[<- gf];exact dM eN)] at ky;rw[jD (by rw[<- kz];exact dM fw)] at i_;have bt:=jc t eN;have gt:=kE t eN;have bg:=jc g fw;have gg:=kE g fw;rw[gf] at bt gt;rw[kz] at bg gg;have l1:=b7.aK;have l2:=cQ.aK;have l3:=(cQ.keys _ dZ).1
  have ia:∀ m∈p.k,m∈cx g:=λm hm=>by
   obtain⟨c,hc,rfl,_⟩:=(cQ.keys _ dZ).2 m hm;exact mem_map.mpr ⟨c,hc,rfl⟩
  unfold pF;simp only[pP];w_on;refine ao (pT t) ⟨ts,_,p.t,t,rfl,rfl,tl,ht,rfl⟩ ?_;w_on;refine ao (dv (p.cs.map (aq t))) ⟨t,p.cs,rfl,rfl,cu,by omega,by omega,rfl⟩ ?_;rw[nq];w_on;refine ao (pT g) ⟨ts,_,p.g,g,rfl,rfl,tl,hg,rfl⟩ ?_;w_on;refine ao (dv (p.k.map (aq g))) ⟨g,p.k,rfl,rfl,ia,by omega,by omega,rfl⟩ ?_;rw[nq];w_on;intro ar;w_on;refine ao _ ky ?_;w_on;refine q_ (R1 p.t) (λd2 A=>∃ L m2 bT cw cL dz jb,A=⟨B',[some (.val (.raw (.ref d))),some (.val (pF ts ps)),some (.own ab (.ah (bk ts R1))),some (.val (.str p.t)),some (.val (pS p.cs)),some (.val (.str p.g)),some (.val (pS p.k)),some (.val (.lst (p.cs.map λm=>.int (aq t m:Nat)))),some (.val (.lst (p.k.map λm=>.int (aq g m:Nat)))),some (.own ar (.lst L)),bT,cw,cL,dz,jb],some ⟨d,a,m2,D⟩⟩/\L.length=d2.length/\(∀ r∈L,RY r/\cb r t.cs=true)/\m2<=m+2*d2.length) ⟨[],m,_,_,_,_,_,rfl,rfl,(λ_ h=>by cases h),by simp⟩ (λ_ _ _=>trivial) ?_ ?_
  ·rintro d2 x r2 A2 e2 ⟨L,m2,bT,cw,cL,dz,jb,rfl,hL,jF,dU⟩;have ie:x∈R1 p.t:=by rw[e2];simp
   have hd2:d2.length<50:=by have:=congrArg List.length e2;have:=bt.2;simp at *;omega
   obtain⟨xs,rfl,m_,Ap⟩:=pb (gt x ie) (bt.1 x ie);have Jr:=gt _ ie
   have snoc:∀ y,RY y->cb y t.cs=true->(L++[y]).length=(d2++[PV.tup xs]).length/\∀ r∈L++[y],RY r/\cb r t.cs=true:=λy h1 h2=>⟨by simp [hL],λr hr=>by
    rcases mem_append.mp hr with z|z
    ·exact jF r z
    ·rw[mem_singleton.mp z];exact⟨h1,h2⟩⟩
   have self:=snoc _ (bt.1 _ ie) Jr;unfold pF;w_on;refine ao _ i_ ?_;w_on;refine ao _ (Yq (ng:=true) bg.1) ?_;refine b_ (λe3=>?_) λe3=>?_
   ·have Yw:R1 p.g≠[]:=by intro z;rw[z] at e3;cases e3
    have aaF:0<(R1 p.g).length:=length_pos_iff.mpr Yw;have gl:=bg.2;w_on;refine draw (by omega) (by decide) (by decide) λq q0 q1=>?_;w_on;refine b_ (λe4=>?_) λe4=>?_
    ·w_on;refine ao _ i_ ?_;w_on;refine ao _ i_ ?_;w_on;refine draw (by omega) (by omega) (Int.lt_of_lt_of_le (by omega:((R1 p.g).length:Int)<51) (by decide)) λs s0 s1=>?_;obtain⟨o,ho,Aq⟩:=Ao s0 s1;obtain⟨os,rfl,Yx,hol⟩:=pb (gg o Aq) (bg.1 o Aq);w_on;refine ao _ ho ?_;w_on;intro am;w_on;rw[Yr];refine df (p.cs.zip p.k) (λq=>.tup [.int (aq t q.1:Nat),.int (aq g q.2:Nat)]) (λd3 A=>∃ ys dz jb,A=⟨B',[some (.val (.raw (.ref d))),some (.val (pF ts ps)),some (.own ab (.ah (bk ts R1))),some (.val (.str p.t)),some (.val (pS p.cs)),some (.val (.str p.g)),some (.val (pS p.k)),some (.val (.lst (p.cs.map λm=>.int (aq t m:Nat)))),some (.val (.lst (p.k.map λm=>.int (aq g m:Nat)))),some (.own ar (.lst L)),some (.val (.tup xs)),some (.val (.tup os)),some (.own am (.lst ys)),dz,jb],some ⟨d,a,m2+1+1,D⟩⟩/\cb (.tup ys) t.cs=true/\(∀ y∈ys,Vy y)/\ys.length=xs.length) ⟨xs,_,_,rfl,Jr,m_,rfl⟩ (λ_ _ _=>trivial) ?_ ?_
     ·rintro d3 q r3 A3 e5 ⟨ys,dz,jb,rfl,u9,kF,lV⟩;obtain⟨c,hc,ec,he,h1,h2,h3,h4⟩:=Yv q (by rw[e5];simp);obtain⟨f1,f2⟩:=Jj cQ.nd he (gg _ Aq);have g1:=(Jj b7.nd hc u9).1;rw[h2] at f1 f2
      have hv:dg (os.getD (aq g q.2) .ai,c)=true:=by
       simp only[dg,Bool.and_eq_true,h4,Bool.false_or,h3] at f2 ⊢;exact⟨f2.1,by rw[f2.2,Bool.or_true]⟩
      have Js:=Yb b7.nd hc u9 hv;rw[h1] at g1 Js;w_on;refine ao _ (hZ f1) ?_;w_on;refine⟨ys,aq t q.1,rfl,rfl,g1,ys.set (aq t q.1) (os.getD (aq g q.2) .ai),_,_,rfl,Js,λy hy=>?_,by rw[length_set];exact lV⟩;rcases mem_or_eq_of_mem_set hy with z|z
      ·exact kF y z
      ·rw[z,getD_eq_getElem?_getD,bL f1];exact Yx _ (getElem_mem f1)
     ·rintro A3 ⟨ys,dz,jb,rfl,u9,kF,lV⟩;obtain⟨Yy,Yz⟩:=snoc (.tup ys) ⟨kF,by omega⟩ u9;w_on;exact⟨by omega,L++[.tup ys],m2+1+1,_,_,_,_,_,rfl,Yy,Yz,by simp;omega⟩
    ·w_on;exact⟨by omega,L++[.tup xs],m2+1,_,_,_,_,_,rfl,self.1,self.2,by simp;omega⟩
   ·w_on;exact⟨by omega,L++[.tup xs],m2,_,_,_,_,_,rfl,self.1,self.2,by simp;omega⟩
  ·rintro A2 ⟨L,m2,bT,cw,cL,dz,jb,rfl,hL,jF,dU⟩;have bl:=bt.2;w_on;rw[Ai (by rw[<- gf];exact dM eN)];refine⟨by simp [bk];omega,f6 R1 p.t L,m2,_,_,_,_,_,_,_,_,_,_,_,_,rfl,Ys jc (λr hr=>(jF r hr).1) (by omega),?_,by simp;omega⟩;rw[<- gf];exact Yt a9.nd eN kE λr hr=>(jF r hr).2
 ·rintro A2 ⟨R1,m,o3,o4,o5,o6,o7,o8,o9,bT,cw,cL,dz,jb,rfl,jc,kE,hm⟩;w_on;exact hP R1 ⟨d,a,m,D⟩ jc kE ⟨m,by show m<=n+900;omega,rfl⟩
def Ar:GT:=λxs S P=>∃(ts:List Tab)(ps:List cY)(R:Str->af),xs=[.v (pF ts ps),.o (.ah (bk ts R))]/\S=none/\i8 ts ps/\BY ts R/\GY ts R /\
 ∀(R':Str->af),fz ts R' R->(dw ts R'=dw ts R->Clean ts ps R')->P .ai [.ah (bk ts R')] none
theorem YA {xs:List Ag}{S:Option az}{P:PV->List OC->Option az->Prop}(h:Ar xs S P):xs.length=2:=by
 obtain⟨_,_,_,rfl,_⟩:=h;rfl
theorem Jt {vt:PV->af}(v:af)(d:af):pin (.lst v) (d.map λr=>.lst (vt r))=d.any λr=>bj (vt r) v:=by
 unfold pin;rw[any_map];rfl
theorem YB {ts:List Tab}{R R':Str->af}(e:kC ts R' R):bk ts R'=bk ts R:=map_congr_left λt ht=>by rw[e t ht]
noncomputable def nu (ts:List Tab)(R:Str->af)(g:Tab)(p:cY)(v:af):Bool:=v.all nn&&!((R p.g).any λr=>bj (cN (cZ r) (p.k.map (aq g))) v)
theorem YC {ts:List Tab}{R:Str->af}{p:cY}{t g:Tab}(ht:tabAt ts p.t=some t)(hg:tabAt ts p.g=some g)(eN:p.t∈ts.map Tab.n)(fw:p.g∈ts.map Tab.n)(h:∀ r∈R p.t,nu ts R g p (cN (cZ r) (p.cs.map (aq t)))=false):fY ts (bk ts R) p=none:=by
 unfold fY;rw[ht,hg];show(bo t p.cs (rowsOf (bk ts R) p.t)).findIdx? _=none;rw[jD eN,jD fw];refine findIdx?_eq_none_iff.mpr λv hv=>?_;obtain⟨r,hr,rfl⟩:=mem_map.mp hv;have:=h r hr;unfold nu at this;unfold bo;rw[any_map];exact this
theorem Ju {L d:af}{x:PV}(h:L.Sublist d):L≠d++[x]:=λe=>by
 have:=h.length_le;rw[e,length_append,length_singleton] at this;omega
theorem e_:bH ["_law_frame_here","_law_book_here","_law_table_here","_law_key","_law_spots_here","_law_seen","_law_rows","_law_row","_law_values","_law_name","_law_fields","_law_goal","_law_goals","_law_there"] ["_law_frame_here","_law_book_here"] (aT xj):=by walk_at "s"
theorem YD {k:Nat}(D:Df K mg "_law_without" xj)(B:Bt mg)(fZ:Kn P w K mg base k "_law_spots" (a_ K true (bc lL)))(ja:Kn P w K mg base k "_law_named" (a_ K false (bc uY))):Kn P w K mg base (k+1) "_law_without" (m6 K Ar):=by
 refine D.uy e_ (λ_ _ _ _ _ _=>dj λ_ _=>rfl) (λ_ _ _=>YA) (λf aF A outer s H E hr=>⟨_,(sc (cj PassesOwn.never rfl (iv rfl (aA rfl hr (qn 0) (qv vi))) (aE (i:=2) e_.nd)
  (s1 (cj PassesOwn.never rfl (iv rfl (aA rfl hr (qn 2) (qv vi))) (aE (i:=3) e_.nd)
  (sc (bI (i:=4) e_.nd (vf (gS rfl fZ hr (ac (vn 2) (ac (vn 3) an)))))
  (sc (gP (i:=5) e_.nd (el an))
  (sc (gP (i:=6) e_.nd (el an))
  (sc (cj PassesOwn.never rfl (iv rfl (aA rfl hr (qn 1) (qv (aA rfl hr (qn 2) (qv vi))))) (aE (i:=7) e_.nd)
  (sc (jr (i:=8) e_.nd (N:=["_law_spot","_law_row"]) (k:=1) (ix:=[7]) cS rfl (dn rfl 4) (λ_ _ _ _=>(aE (i:=0) (by show(["_law_spot","_law_row"]:ay).Nodup;decide +kernel))) (λ_ _ _ _=>cX) (λ_ _ _ _=>(aA rfl hr (qn 1) (qn 0))))
  (sc (bW (yW rfl hr (vn 8) (qn 5)) (s1 (gk (lC rfl 6 (vn 7)))) sn)
  (s1 (gk (lC rfl 5 (vn 8)))))))
  (s1 (qE hr 1 (vn 6) (aA rfl hr (qn 2) (qv vi)))))))))))
  (s1 (cj PassesOwn.never rfl (iv rfl (aA rfl hr (qn 0) (qv vi))) (eI (n:=4) rfl rfl (bJ (aE (i:=9) e_.nd) (bJ (aE (i:=10) e_.nd) (bJ (aE (i:=11) e_.nd) (bJ (aE (i:=3) e_.nd) eG)))))
  (sc (bI (i:=4) e_.nd (vf (gS rfl fZ hr (ac (cM rfl ja hr (ac (vn 0) (ac (vn 9) an))) (ac (vn 10) an)))))
  (sc (bI (i:=12) e_.nd (vf (gS rfl fZ hr (ac (cM rfl ja hr (ac (vn 0) (ac (vn 11) an))) (ac (vn 3) an)))))
  (sc (jr (i:=13) e_.nd (N:=["_law_row","_law_goals"]) (k:=1) (ix:=[12]) cS rfl (iv rfl (aA rfl hr (qn 1) (qn 11))) (λ_ _ _ _=>(aE (i:=0) (by show(["_law_row","_law_goals"]:ay).Nodup;decide +kernel))) (λ_ _ _ _=>cX) (λ_ _ _ _=>(vf (eJ (N:=["_law_spot","_law_row"]) (k:=1) (ix:=[0]) cS rfl (dn rfl 1) (λ_ _ _ _=>(aE (i:=0) (by show(["_law_spot","_law_row"]:ay).Nodup;decide +kernel))) (λ_ _ _ _=>cX) (λ_ _ _ _=>(aA rfl hr (qn 1) (qn 0)))))))
  (sc (gP (i:=6) e_.nd (el an))
  (sc (cj PassesOwn.never rfl (iv rfl (aA rfl hr (qn 1) (qn 9))) (aE (i:=7) e_.nd)
  (sc (jr (i:=8) e_.nd (N:=["_law_spot","_law_row"]) (k:=1) (ix:=[7]) cS rfl (dn rfl 4) (λ_ _ _ _=>(aE (i:=0) (by show(["_law_spot","_law_row"]:ay).Nodup;decide +kernel))) (λ_ _ _ _=>cX) (λ_ _ _ _=>(aA rfl hr (qn 1) (qn 0))))
  (s1 (bW (PW.pt (lr (F4 rfl hr v0 (qn 8)) (mJ (F4 rfl hr (vn 8) (qn 13))))) (s1 (gk (lC rfl 6 (vn 7)))) sn))))
  (s1 (qE hr 1 (vn 6) (vn 9))))))))))),λB' ss S Q h np=>?_⟩)
 obtain⟨ts,ps,R,e,rfl,a9,iH,jE,hP⟩:=h;obtain⟨ss,rfl,e,np⟩:=zJ e np;obtain⟨ab,ss,rfl,e,np⟩:=Hm e np;cases Hn e;have tl:=a9.tl;have pl:=a9.pl;change (_:US) (oN _ Q) ⟨B',[some (.val (pF ts ps)),some (.own ab (.ah (bk ts R))),none,none,none,none,none,none,none,none,none,none,none,none],none⟩
 let KC:List Tab->Prop:=λdd=>∀ t∈dd,∀ key∈t.ks,Uq (bo t key (R t.n))
 unfold pF;w_on;refine df ts pT (λdd A=>∃ R1 o2 o3 o4 o5 o6 o7 o8 o9 bT cw cL dz,A=⟨B',[some (.val (pF ts ps)),some (.own ab (.ah (bk ts R1))),o2,o3,o4,o5,o6,o7,o8,o9,bT,cw,cL,dz],none⟩/\fz ts R1 R/\(kC ts R1 R->KC dd)) ⟨R,_,_,_,_,_,_,_,_,_,_,_,_,rfl,fz.refl _ _,λ_ t ht=>by cases ht⟩ (λ_ _ _=>trivial) ?_ ?_
 ·rintro dd t rr A2 ee ⟨R1,o2,o3,o4,o5,o6,o7,o8,o9,bT,cw,cL,dz,rfl,As,eq1⟩;have eO:t∈ts:=by rw[ee];simp
  have b7:=a9.tab t eO;have kl:=b7.kl;unfold pF;simp only[pT];w_on;refine df t.ks pS (λd2 A=>∃ R2 o3 o4 o5 o6 o7 o8 o9 bT cw cL dz,A=⟨B',[some (.val (pF ts ps)),some (.own ab (.ah (bk ts R2))),some (.val (pT t)),o3,o4,o5,o6,o7,o8,o9,bT,cw,cL,dz],none⟩/\fz ts R2 R/\(kC ts R2 R->KC dd/\∀ key∈d2,Uq (bo t key (R t.n)))) ⟨R1,_,_,_,_,_,_,_,_,_,_,_,rfl,As,λz=>⟨eq1 z,λ_ h=>by cases h⟩⟩ (λ_ _ _=>trivial) ?_ ?_
  ·rintro d2 key r2 A2 e2 ⟨R2,o3,o4,o5,o6,o7,o8,o9,bT,cw,cL,dz,rfl,iI,eq2⟩;have dJ:key∈t.ks:=by rw[e2];simp
   have ia:∀ m∈key,m∈cx t:=λm hm=>by
    obtain⟨c,hc,rfl,_⟩:=(b7.keys key dJ).2 m hm;exact mem_map.mpr ⟨c,hc,rfl⟩
   have X4:=(b7.keys key dJ).1;have X5:=b7.aK;have b2:=iI.by iH t eO;have g2:=iI.gy jE t eO
   let vt:PV->af:=λr=>cN (cZ r) (key.map (aq t))
   have oU:bP (bk ts R2) (.inr t.n)=some (.lst (R2 t.n)):=jC (dM eO);have Jv:∀ r∈R2 t.n,∀ y∈vt r,Dp 0 y:=λr hr y hy=>ku (.inr ((lR b7 (g2 r hr) dJ).1 y hy));unfold pF;simp only[pT];w_on;refine ao (dv (key.map (aq t))) ⟨t,key,rfl,rfl,ia,by omega,by omega,rfl⟩ ?_;rw[nq];w_on;intro YE;w_on;intro Au;w_on;refine ao _ oU ?_;w_on;refine q_ (R2 t.n) (λd3 A=>∃ L o7 o8,A=⟨B',[some (.val (pF ts ps)),some (.own ab (.ah (bk ts R2))),some (.val (pT t)),some (.val (pS key)),some (.val (.lst (key.map λm=>.int (aq t m:Nat)))),some (.own YE (.lst (d3.map λr=>.lst (vt r)))),some (.own Au (.lst L)),o7,o8,o9,bT,cw,cL,dz],none⟩/\L.Sublist d3/\(L=d3->Uq (bo t key d3))) ⟨[],_,_,rfl,Sublist.refl _,λ_ j hj=>by simp [bo] at hj⟩ (λ_ _ _=>trivial) ?_ ?_
   ·rintro d3 x r3 A3 e3 ⟨L,o7,o8,rfl,hL,hU⟩;have ie:x∈R2 t.n:=by rw[e3];simp
    have YF:∀ r∈d3,r∈R2 t.n:=λr hr=>by rw[e3];simp [hr]
    have nY:d3.length<50:=by have:=congrArg List.length e3;have:=b2.2;simp at *;omega
    have uG:=hL.length_le;have gx:=g2 x ie;have vx:=Jv x ie;obtain⟨xs,rfl,m_,Ap⟩:=pb gx (b2.1 x ie);unfold pF;w_on;refine d7 key (λm=>.int (aq t m:Nat)) (λm=>xs.getD (aq t m) .ai) (by omega) ?_ ?_
    ·intro B m hm R hR;w_on;refine ao _ (hZ (lP b7 gx ((b7.keys _ dJ).2 m hm)).1) ?_;w_on;exact hR _ ⟨rfl,rfl⟩ rfl
    w_on;have ev:key.map (λm=>xs.getD (aq t m) .ai)=vt (.tup xs):=by show _=(key.map (aq t)).map _;rw[map_map];rfl
    rw[ev];generalize dS:vt (.tup xs)=v at vx ⊢;have es:(d3++[PV.tup xs]).map (λr=>PV.lst (vt r))=d3.map (λr=>.lst (vt r))++[.lst v]:=by rw[map_append,<- dS];rfl
    refine ao (!(d3.any λr=>bj (vt r) v)) ⟨⟨1,by decide,gv vx,λy hy=>?_⟩,by rw[Jt,Bool.true_xor]⟩ ?_
    ·obtain⟨r,hr,rfl⟩:=mem_map.mp hy;exact gv (Jv r (YF r hr))
    refine b_ (λe4=>?_) λe4=>?_
    ·w_on;refine⟨by omega,by simp;omega,L++[.tup xs],_,_,by rw[es],hL.append (Sublist.refl _),λz=>?_⟩;have z1:L=d3:=append_cancel_right z;have:bo t key (d3++[PV.tup xs])=bo t key d3++[v]:=by unfold bo;rw[map_append,<- dS];rfl
     rw[this];refine(hU z1).snoc λu hu=>?_;obtain⟨r,hr,rfl⟩:=mem_map.mp hu;have e5:(d3.any λr=>bj (vt r) v)=false:=by simpa using e4
     have:=any_eq_false.mp e5 r hr;simpa using this
    ·w_on;exact⟨by simp;omega,L,_,_,by rw[es],hL.trans (sublist_append_left _ _),λz=>absurd z (Ju hL)⟩
   ·rintro A3 ⟨L,o7,o8,rfl,hL,hU⟩;unfold pF;simp only[pT];w_on;rw[Ai (dM eO)];obtain⟨s1,s2⟩:=Jh (dM eO) iI hL;refine⟨by simp [bk];omega,f6 R2 t.n L,_,_,_,_,_,_,_,_,_,_,_,rfl,s1,λz=>?_⟩;obtain⟨z1,z2⟩:=s2 z;refine⟨(eq2 z1).1,λk hk=>?_⟩;rcases mem_append.mp hk with y|y
    ·exact(eq2 z1).2 k y
    ·rw[mem_singleton.mp y,<- z1 t eO];exact hU z2
  ·rintro A2 ⟨R2,o3,o4,o5,o6,o7,o8,o9,bT,cw,cL,dz,rfl,iI,eq2⟩;w_on;refine⟨R2,_,_,_,_,_,_,_,_,_,_,_,_,rfl,iI,λz t' ib=>?_⟩;rcases mem_append.mp ib with y|y
   ·exact(eq2 z).1 t' y
   ·rw[mem_singleton.mp y];exact(eq2 z).2
 ·rintro A2 ⟨R1,o2,o3,o4,o5,o6,o7,o8,o9,bT,cw,cL,dz,rfl,As,eq1⟩;unfold pF;w_on;refine df ps pP (λdd A=>∃ R1 o2 o3 o4 o5 o6 o7 o8 o9 bT cw cL dz,A=⟨B',[some (.val (pF ts ps)),some (.own ab (.ah (bk ts R1))),o2,o3,o4,o5,o6,o7,o8,o9,bT,cw,cL,dz],none⟩/\fz ts R1 R/\(kC ts R1 R->KC ts/\∀ p∈dd,fY ts (bk ts R) p=none)) ⟨R1,_,_,_,_,_,_,_,_,_,_,_,_,rfl,As,λz=>⟨eq1 z,λ_ h=>by cases h⟩⟩ (λ_ _ _=>trivial) ?_ ?_
  ·rintro dd p rr A2 ee ⟨R2,o2,o3,o4,o5,o6,o7,o8,o9,bT,cw,cL,dz,rfl,iI,eq2⟩;have u7:p∈ps:=by rw[ee];simp
   have pd:=iI.by iH;have u_:=iI.gy jE;obtain⟨t,g,ht,hg,dZ,gJ,cu⟩:=a9.uQ p u7;obtain⟨ky,eN,gf⟩:=lQ pd.bk ht;obtain⟨i_,fw,kz⟩:=lQ pd.bk hg;have b7:=a9.tab t eN;have cQ:=a9.tab g fw;have jG:p.t∈ts.map Tab.n:=by rw[<- gf];exact dM eN
   have Jw:p.g∈ts.map Tab.n:=by rw[<- kz];exact dM fw
   rw[jD jG] at ky;rw[jD Jw] at i_;have bt:=pd t eN;have gt:=u_ t eN;have bg:=pd g fw;have gg:=u_ g fw;rw[gf] at bt gt;rw[kz] at bg gg;have l1:=b7.aK;have l2:=cQ.aK;have l3:=(cQ.keys _ dZ).1
   have ia:∀ m∈p.k,m∈cx g:=λm hm=>by
    obtain⟨c,hc,rfl,_⟩:=(cQ.keys _ dZ).2 m hm;exact mem_map.mpr ⟨c,hc,rfl⟩
   let vg:PV->af:=λr=>cN (cZ r) (p.k.map (aq g))
   let vt:PV->af:=λr=>cN (cZ r) (p.cs.map (aq t))
   unfold pF;simp only[pP];w_on;refine ao (pT t) ⟨ts,_,p.t,t,rfl,rfl,tl,ht,rfl⟩ ?_;w_on;refine ao (dv (p.cs.map (aq t))) ⟨t,p.cs,rfl,rfl,cu,by omega,by omega,rfl⟩ ?_;rw[nq];w_on;refine ao (pT g) ⟨ts,_,p.g,g,rfl,rfl,tl,hg,rfl⟩ ?_;w_on;refine ao (dv (p.k.map (aq g))) ⟨g,p.k,rfl,rfl,ia,by omega,by omega,rfl⟩ ?_;rw[nq];w_on;refine ao _ i_ ?_;w_on;refine comp_map (λr=>.lst (vg r)) (by have:=bg.2;omega) ?_ ?_
   ·intro B x hx R hR;have gx:=gg x hx;obtain⟨xs,rfl,m_,Ap⟩:=pb gx (bg.1 x hx);w_on;refine d7 p.k (λm=>.int (aq g m:Nat)) (λm=>xs.getD (aq g m) .ai) (by omega) ?_ ?_
    ·intro B m hm R hR;w_on;refine ao _ (hZ (lP cQ gx ((cQ.keys _ dZ).2 m hm)).1) ?_;w_on;exact hR _ ⟨rfl,rfl⟩ rfl
    w_on;have ev:p.k.map (λm=>xs.getD (aq g m) .ai)=vg (.tup xs):=by show _=(p.k.map (aq g)).map _;rw[map_map];rfl
    rw[ev];exact hR _ ⟨rfl,rfl⟩ rfl
   w_on;intro Au;w_on;refine ao _ ky ?_;w_on;refine q_ (R2 p.t) (λd3 A=>∃ L o7 o8,A=⟨B',[some (.val (pF ts ps)),some (.own ab (.ah (bk ts R2))),o2,some (.val (pS p.k)),some (.val (.lst (p.cs.map λm=>.int (aq t m:Nat)))),o5,some (.own Au (.lst L)),o7,o8,some (.val (.str p.t)),some (.val (pS p.cs)),some (.val (.str p.g)),some (.val (.lst (p.k.map λm=>.int (aq g m:Nat)))),some (.val (.lst ((R2 p.g).map λr=>.lst (vg r))))],none⟩/\L.Sublist d3/\(L=d3->∀ r∈d3,nu ts R2 g p (vt r)=false)) ⟨[],_,_,rfl,Sublist.refl _,λ_ _ h=>by cases h⟩ (λ_ _ _=>trivial) ?_ ?_
   ·rintro d3 x r3 A3 e3 ⟨L,o7,o8,rfl,hL,hU⟩;have ie:x∈R2 p.t:=by rw[e3];simp
    have nY:d3.length<50:=by have:=congrArg List.length e3;have:=bt.2;simp at *;omega
    have uG:=hL.length_le;have gx:=gt x ie;obtain⟨xs,rfl,m_,Ap⟩:=pb gx (bt.1 x ie);unfold pF;w_on;refine d7 p.cs (λm=>.int (aq t m:Nat)) (λm=>xs.getD (aq t m) .ai) (by omega) ?_ ?_
    ·intro B m hm R hR;w_on;refine ao _ (hZ (o_ b7 gx (cu m hm)).1) ?_;w_on;exact hR _ ⟨rfl,rfl⟩ rfl
    w_on;have ev:p.cs.map (λm=>xs.getD (aq t m) .ai)=vt (.tup xs):=by show _=(p.cs.map (aq t)).map _;rw[map_map];rfl
    rw[ev];generalize dS:vt (.tup xs)=v
    have hv:∀ y∈v,y=.ai\/Kv y:=λy hy=>by
     rw[<- dS,<- ev] at hy;obtain⟨m,hm,rfl⟩:=mem_map.mp hy;exact(o_ b7 gx (cu m hm)).2
    have snoc:nu ts R2 g p v=false->L++[.tup xs]=d3++[.tup xs]->∀ r∈d3++[PV.tup xs],nu ts R2 g p (vt r)=false:=λhb z r hr=>by
     rcases mem_append.mp hr with y|y
     ·exact hU (append_cancel_right z) r y
     ·rw[mem_singleton.mp y,dS];exact hb
    refine ao (!(v.all nn)) ⟨⟨0,by decide,qG _,λy hy=>ku (hv y hy)⟩,by rw[uX hv,Bool.false_xor]⟩ ?_
    cases ha:v.all nn with
    |false=>
     refine gw rfl ?_;w_on;exact⟨by omega,L++[.tup xs],_,_,rfl,hL.append (Sublist.refl _),snoc (by unfold nu;rw[ha];rfl)⟩
    |true=>
     refine d8 rfl ?_;w_on;refine ao ((R2 p.g).any λr=>bj (vg r) v) ⟨⟨1,by decide,gv λy hy=>ku (hv y hy),λy hy=>?_⟩,by rw[Jt,Bool.false_xor]⟩ ?_
     ·obtain⟨r,hr,rfl⟩:=mem_map.mp hy;exact gv λy hy=>ku (.inr ((lR cQ (gg r hr) dZ).1 y hy))
     refine b_ (λe4=>?_) λe4=>?_
     ·w_on;exact⟨by omega,L++[.tup xs],_,_,rfl,hL.append (Sublist.refl _),snoc (by unfold nu;rw[e4];simp)⟩
     ·w_on;exact⟨L,_,_,rfl,hL.trans (sublist_append_left _ _),λz=>absurd z (Ju hL)⟩
   ·rintro A3 ⟨L,o7,o8,rfl,hL,hU⟩;w_on;rw[Ai jG];obtain⟨s1,s2⟩:=Jh jG iI hL;refine⟨by simp [bk];omega,f6 R2 p.t L,_,_,_,_,_,_,_,_,_,_,_,_,rfl,s1,λz=>?_⟩;obtain⟨z1,z2⟩:=s2 z;refine⟨(eq2 z1).1,λq hq=>?_⟩;rcases mem_append.mp hq with y|y
    ·exact(eq2 z1).2 q y
    ·rw[mem_singleton.mp y,<- YB z1];exact YC ht hg jG Jw (hU z2)
  ·rintro A2 ⟨R2,o2,o3,o4,o5,o6,o7,o8,o9,bT,cw,cL,dz,rfl,iI,eq2⟩;w_on;refine hP R2 iI λz=>?_;have e:=iI.dw.2 z;exact Clean.of e ⟨(eq2 e).1,(eq2 e).2⟩
def Jx (x:PV)(st:az)(Q:PV->az->Prop):Prop:=∃(ts:List Tab)(ps:List cY),x=pF ts ps/\i8 ts ps/\FK ts ps/\st.n<=2000/\∀(R:Str->af)(au:az),BY ts R->GY ts R->Clean ts ps R->Nx st 3000 au->Q (.ah (bk ts R)) au
noncomputable def YG:PV->Nat
 |.lst xs=>xs.length
 |_=>0
noncomputable def vd (kvs:aN):Nat:=(kvs.map λkv=>YG kv.2).sum
theorem YH (ts:List Tab)(R:Str->af):vd (bk ts R)=dw ts R:=by
 unfold vd bk dw;rw[map_map];rfl
noncomputable def Jy (A:AS):Nat:=match A.ae with
 |_::_::some (.own _ (.ah kvs))::_::_::_::_::_::some (.val (.int b))::_=>if b=(vd kvs:Int) then 0 else vd kvs+1
 |_=>0
theorem Jz:∀ l:List Nat,ins (l.map fun(n:Nat)=>PV.int n)=some (l.map fun(n:Nat)=>(n:Int))
 |[]=>rfl
 |a::l=>by
  rw[map_cons];unfold ins;rw[Jz l];rfl
theorem sum_nat:∀ l:List Nat,(l.map fun(n:Nat)=>(n:Int)).sum=(l.sum:Nat)
 |[]=>rfl
 |a::l=>by rw[map_cons,sum_cons,sum_cons,sum_nat l];omega
theorem nv {α:Type}{f:α->PV}{l:List α}(h:∀ x∈l,fK (f x)=true):dH (l.map f)=true:=qV λy hy=>by
 obtain⟨x,hx,rfl⟩:=mem_map.mp hy;exact h x hx
theorem Av (l:ay):fK (pS l)=true:=nv λ_ _=>rfl
theorem JA (l:List fv):fK (.tup (l.map pC))=true:=nv λ_ _=>rfl
theorem JB (l:List (ay)):fK (.tup (l.map pS))=true:=nv λk _=>Av k
theorem YI (ts:List Tab)(ps:List cY):fK (pF ts ps)=true:=by
 have h1:dH (ts.map pT)=true:=nv λt _=>by
  show(true&&(fK (.tup (t.cs.map pC))&&(fK (.tup (t.ks.map pS))&&true)))=true;rw[JA,JB];rfl
 have h2:dH (ps.map pP)=true:=nv λp _=>by
  show(true&&(fK (pS p.cs)&&(true&&(fK (pS p.k)&&true))))=true;rw[Av,Av];rfl
 show(dH (ts.map pT)&&(dH (ps.map pP)&&true))=true;rw[h1,h2];rfl
theorem YJ {y:PV}(h:Vy y):fK y=true:=by
 rcases h with rfl|rfl|rfl|rfl|rfl|rfl|rfl|rfl|rfl|rfl|⟨z,hz,rfl⟩<;>rfl
theorem JC {y:PV}(h:RY y):fK y=true:=by
 cases y<;>first|exact h.elim|exact qV λx hx=>YJ (h.1 x hx)
theorem YK {ts:List Tab}{R:Str->af}{a:Addr}(h:BY ts R):Sl.nd (some (.own a (.ah (bk ts R))))=true:=by
 show(dH ((bk ts R).map Prod.fst)&&dH ((bk ts R).map Prod.snd))=true;unfold bk;have h2:dH (ts.map λt=>PV.lst (R t.n))=true:=nv λt ht=>qV λr hr=>JC ((h t ht).1 r hr);rw[map_map,map_map,nv λ_ _=>rfl];exact h2
theorem kH:bH ["_law_state","_law_frame_here","_law_book_here","_law_name","_law_fields","_law_keys","_law_rows","_law_k","_law_before"] ["_law_state","_law_frame_here"] (aT xk):=by walk_at "s"
theorem YL {k:Nat}(D:Df K mg "_law_book" xk)(B:Bt mg)(JD:Kn P w K mg base k "_law_pointed" (m6 K An))(JE:Kn P w K mg base k "_law_without" (m6 K Ar))(bM:Kn P w K mg base k "_law_take" (spS K false (c7 g6)))(JF:Kn P w K mg base k "_law_value" (spS K false (iz Jn))):Kn P w K mg base (k+1) "_law_book" (spS K true (c7 Jx)):=by
 refine D.i4 kH (λ_ _ _ _ _ _=>dj λ_ _=>rfl) (λ_ _ _=>c7.len) (by decide) (λf aF A outer s H E hr=>⟨_,(sc (gP (i:=2) kH.nd yI)
  (sc (cj PassesOwn.never rfl (iv rfl (aA rfl hr (qn 1) (qv vi))) (eI (n:=3) rfl rfl (bJ (aE (i:=3) kH.nd) (bJ (aE (i:=4) kH.nd) (bJ (aE (i:=5) kH.nd) eG))))
  (sc (gP (i:=6) kH.nd (el an))
  (sc (cj PassesOwn.never rfl (j0 (by rfl) B.range (cE rfl bM hr (ac (vn 0) (ac vi an)))) (aE (i:=7) kH.nd)
  (s1 (gk (lC rfl 6 (j9 rfl B.tuple (qf (eJ (N:=["_law_word_here","_law_kind","_law_maybe","_law_state"]) (k:=3) (ix:=[0]) cS rfl (dn rfl 4) (λ_ _ _ _=>(eI (n:=3) rfl rfl (bJ (aE (i:=0) (by show(["_law_word_here","_law_kind","_law_maybe","_law_state"]:ay).Nodup;decide +kernel)) (bJ (aE (i:=1) (by show(["_law_word_here","_law_kind","_law_maybe","_law_state"]:ay).Nodup;decide +kernel)) (bJ (aE (i:=2) (by show(["_law_word_here","_law_kind","_law_maybe","_law_state"]:ay).Nodup;decide +kernel)) eG))))) (λ_ _ _ _=>cX) (λ_ _ _ _=>(cE rfl JF hr (ac (vn 3) (ac (vn 1) (ac (vn 2) an))))))))))))
  (s1 (qE hr 2 (vn 6) (vn 3))))))
  (sc (gk (Hl true rfl JD hr (zA (vn 0) (zA (vn 1) (Hj 2 Hi)))))
  (sc (bI (i:=8) kH.nd (yz vi))
  (sc (Pn PassesOwn.never (oq rfl hr (qn 8) (qv (GZ 2 (Gy rfl rfl B.sum (qf (eJ (N:=["_law_rows"]) (k:=1) (ix:=[]) cS rfl (GB (vn 2)) (λ_ _ _ _=>(aE (i:=0) (by show(["_law_rows"]:ay).Nodup;decide +kernel))) (λ_ _ _ _=>cX) (λ_ _ _ _=>(du rfl B.len (qn 0)))))))))
  (sc (bI (i:=8) kH.nd (GZ 2 (Gy rfl rfl B.sum (qf (eJ (N:=["_law_rows"]) (k:=1) (ix:=[]) cS rfl (GB (vn 2)) (λ_ _ _ _=>(aE (i:=0) (by show(["_law_rows"]:ay).Nodup;decide +kernel))) (λ_ _ _ _=>cX) (λ_ _ _ _=>(du rfl B.len (qn 0))))))))
  (s1 (gk (Hl false rfl JE hr (zA (vn 1) (Hj 2 Hi)))))))
  (s1 (EJ (i:=2)))))))),λB' xs st Q h=>?_⟩)
 obtain⟨x1,rfl,h⟩:=h;change (_:US) (fH true Q) ⟨B',[some (.val (.raw (.ref st.d))),some (.val x1),none,none,none,none,none,none,none],some st⟩;obtain⟨ts,ps,rfl,a9,fk,hn,h⟩:=h;obtain⟨d,a,n,D⟩:=st;have f9:n<=2000:=hn;have tl:=a9.tl;w_on;intro ab;unfold pF;w_on;refine df ts pT (λdd A=>∃ R1 m o3 o4 o5 o6 o7,A=⟨B',[some (.val (.raw (.ref d))),some (.val (pF ts ps)),some (.own ab (.ah (bk dd R1))),o3,o4,o5,o6,o7,none],some ⟨d,a,m,D⟩⟩/\(∀ s∈[o3,o4,o5,o6,o7],Sl.nd s=true)/\BY dd R1/\GY dd R1/\m<=n+200*dd.length) ⟨λ_=>[],n,_,_,_,_,_,rfl,(λs hs=>by simp at hs;subst hs;rfl),(λt ht=>by cases ht),(λt ht=>by cases ht),by simp⟩ (λ_ _ _=>trivial) ?_ ?_
 ·rintro dd t rr A2 ee ⟨R1,m,o3,o4,o5,o6,o7,rfl,lJ,jc,kE,hm⟩;have eO:t∈ts:=by rw[ee];simp
  have b7:=a9.tab t eO;have l1:=b7.aK;have oU:dd.length<9:=by have:=congrArg List.length ee;simp at this;omega
  have jG:t.n∉dd.map Tab.n:=by
   have:=a9.nd;rw[ee,map_append,map_cons] at this;intro z;exact(nodup_append.mp this).2.2 _ z _ (by simp) rfl
  simp only[pT];w_on;intro ar;w_on;refine draw (by omega) (by decide) (by decide) λr r0 r1=>?_;w_on;have hr4:r.toNat<=4:=by omega
  refine⟨by omega,by omega,?_⟩;generalize r.toNat=N at *;refine mZ N (λi A=>∃ L m2 o7,A=⟨B',[some (.val (.raw (.ref d))),some (.val (pF ts ps)),some (.own ab (.ah (bk dd R1))),some (.val (.str t.n)),some (.val (.tup (t.cs.map pC))),some (.val (.tup (t.ks.map pS))),some (.own ar (.lst L)),o7,none],some ⟨d,a,m2,D⟩⟩/\Sl.nd o7=true/\L.length=i/\(∀ r∈L,RY r/\cb r t.cs=true)/\m2<=m+1+27*i) ⟨[],m+1,_,rfl,lJ _ (by simp),rfl,(λ_ h=>by cases h),by simp⟩ (λ_ _ _=>trivial) ?_ ?_
  ·rintro i A3 hi ⟨L,m2,o7,rfl,JG,hL,jF,dU⟩;unfold pF;w_on;refine FV t.cs pC (λdc ys S=>∃ m3,S=some ⟨d,a,m3,D⟩/\m3<=m2+3*dc.length/\(∀ y∈ys,Vy y)/\ys.length=dc.length/\∀(j:Nat) x c,ys[j]?=some x->dc[j]?=some c->dg (x,c)=true) (by omega) ⟨m2,rfl,by simp,(λ_ h=>by cases h),rfl,(λj x c h=>by simp at h)⟩ ?_ ?_
   ·rintro B dc c rc ys _ ec ⟨m3,rfl,zR,kF,lV,Aw⟩ R hR;have qb:c∈t.cs:=by rw[ec];simp
    have hdc:dc.length<9:=by have:=congrArg List.length ec;simp at this;omega
    simp only[pC];w_on;refine⟨c.k,c.m,rfl,rfl,b7.kinds c qb,(by show m3<=90000;omega),λv au hv ho c9=>?_⟩;obtain⟨m4,Ax,rfl⟩:=c9;have YM:m4<=m3+3:=Ax;w_on;refine hR _ _ ⟨rfl,rfl⟩ ⟨m4,rfl,by simp;omega,λy hy=>?_,by simp [lV],λj x e h1 h2=>?_⟩
    ·rcases mem_append.mp hy with z|z
     ·exact kF y z
     ·rw[mem_singleton.mp z];exact hv
    ·by_cases ej:j<ys.length
     ·rw[getElem?_append_left ej] at h1;rw[getElem?_append_left (by omega)] at h2;exact Aw j x e h1 h2
     ·have hj:j=ys.length:=by
       have:=(b8 h1).1;simp at this;omega
      subst hj;rw[getElem?_append_right (aG _),Nat.sub_self] at h1;rw[lV,getElem?_append_right (aG _),Nat.sub_self] at h2;cases h1;cases h2;exact ho c.n
   ·rintro ys _ ⟨m3,rfl,zR,kF,lV,Aw⟩;w_on;refine⟨by omega,L++[.tup ys],m3,_,rfl,rfl,by simp [hL],λr hr=>?_,by omega⟩;rcases mem_append.mp hr with z|z
    ·exact jF r z
    ·rw[mem_singleton.mp z];exact⟨⟨kF,by omega⟩,rq.mpr ⟨lV,Aw⟩⟩
  ·rintro A3 ⟨L,m2,o7,rfl,JG,hL,jF,dU⟩;w_on;rw[X' jG];refine⟨by simp [bk];omega,f6 R1 t.n L,m2,_,_,_,_,_,rfl,λs hs=>?_,λu hu=>?_,λu hu=>?_,by simp;omega⟩
   ·simp only[mem_cons,not_mem_nil,or_false] at hs;rcases hs with rfl|rfl|rfl|rfl|rfl
    ·rfl
    ·exact JA _
    ·exact JB _
    ·exact qV λr hr=>JC (jF r hr).1
    ·exact JG
   ·rcases mem_append.mp hu with z|z
    ·rw[lU λe=>jG (by rw[<- e];exact dM z)];exact jc u z
    ·rw[mem_singleton.mp z,kB];exact⟨λr hr=>(jF r hr).1,by omega⟩
   ·rcases mem_append.mp hu with z|z
    ·rw[lU λe=>jG (by rw[<- e];exact dM z)];exact kE u z
    ·rw[mem_singleton.mp z,kB];exact λr hr=>(jF r hr).2
 ·rintro A2 ⟨R1,m,o3,o4,o5,o6,o7,rfl,lJ,jc,kE,hm⟩;w_on;refine⟨by decide,ts,ps,R1,⟨d,a,m,D⟩,rfl,rfl,a9,fk,jc,kE,(by show m<=5000;omega),λR2 au pd u_ c9=>?_⟩;obtain⟨m2,dU,rfl⟩:=c9;have zR:m2<=m+900:=dU;w_on
  have key:∀(R3:Str->af)(b:Option Sl)(Qk:PV->AS->Prop),BY ts R3->Sl.nd b=true->Qk (.int (dw ts R3:Nat)) ⟨B',[some (.val (.raw (.ref d))),some (.val (pF ts ps)),some (.own ab (.ah (bk ts R3))),o3,o4,o5,o6,o7,b],some ⟨d,a,m2,D⟩⟩ ->
    GX 2 (u1 ur (qk 1 [] (zk (sM 2)) (gN 0) iw (u1 qw (sN 0)))) ⟨B',[some (.val (.raw (.ref d))),some (.val (pF ts ps)),some (.own ab (.ah (bk ts R3))),o3,o4,o5,o6,o7,b],some ⟨d,a,m2,D⟩⟩ Qk:=λR3 b Qk ny hb q=>by
   refine⟨ab,_,rfl,λs hs=>?_,?_⟩
   ·have hs:s∈some (.val (.raw (.ref d)))::some (.val (pF ts ps))::some (.own ab (.ah (bk ts R3)))::([o3,o4,o5,o6,o7]++[b]):=hs;rcases mem_cons.mp hs with rfl|hs
    ·rfl
    rcases mem_cons.mp hs with rfl|hs
    ·exact YI ts ps
    rcases mem_cons.mp hs with rfl|hs
    ·exact YK ny
    rcases mem_append.mp hs with z|z
    ·exact lJ s z
    ·rw[mem_singleton.mp z];exact hb
   w_on;have YN:(bk ts R3).map Prod.snd=ts.map λt=>.lst (R3 t.n):=by unfold bk;rw[map_map];rfl
   rw[YN];refine d7 ts (λt=>.lst (R3 t.n)) (λt=>.int ((R3 t.n).length:Nat)) (by omega) ?_ ?_
   ·intro B t ht R hR;w_on;exact hR _ ⟨rfl,rfl⟩ rfl
   have ei:=Jz (ts.map λt=>(R3 t.n).length);rw[map_map] at ei;w_on;refine ao (.int (dw ts R3:Nat)) ⟨_,ei,?_⟩ ⟨⟨_,rfl⟩,rfl,q⟩;rw[sum_nat];rfl
  refine⟨λA=>∃ R3 b,A=⟨B',[some (.val (.raw (.ref d))),some (.val (pF ts ps)),some (.own ab (.ah (bk ts R3))),o3,o4,o5,o6,o7,some (.val (.int b))],some ⟨d,a,m2,D⟩⟩/\BY ts R3/\GY ts R3/\(b=(dw ts R3:Nat)->Clean ts ps R3),Jy,⟨R2,-1,rfl,pd,u_,λe=>by omega⟩,?_⟩;rintro A1 ⟨R3,b,rfl,ny,Ay,YO⟩;w_on;refine key R3 _ _ ny rfl ?_;w_on;have JH:∀(Ra:Str->af)(c:Int),Jy ⟨B',[some (.val (.raw (.ref d))),some (.val (pF ts ps)),some (.own ab (.ah (bk ts Ra))),o3,o4,o5,o6,o7,some (.val (.int c))],some ⟨d,a,m2,D⟩⟩=if c=(dw ts Ra:Nat) then 0 else dw ts Ra+1:=λRa c=>by rw[<- YH];rfl
  by_cases eb:b=(dw ts R3:Nat)
  ·rw[if_neg (by simp [eb])];exact h R3 ⟨d,a,m2,D⟩ ny Ay (YO eb) ⟨m2,by show m2<=n+3000;omega,rfl⟩
  ·rw[if_pos (by simp [eb])];refine key R3 _ _ ny rfl ?_;w_on;refine⟨by decide,ts,ps,R3,rfl,rfl,a9,ny,Ay,λR4 sb cl=>?_⟩;w_on;have le:=sb.dw.1;refine⟨⟨R4,_,rfl,sb.by ny,sb.gy Ay,λe=>cl (by omega)⟩,?_⟩;rw[JH,JH,if_neg eb]
   split<;>omega
abbrev Gh:=Addr×af
noncomputable def gO (c:Gh):Option Sl:=some (.own c.1 (.lst c.2))
noncomputable def dN (ts:List Tab)(cs:List Gh):aN:=(ts.zip cs).map λq=>(PV.str q.1.n,PV.raw (.ref q.2.1))
noncomputable def cF (cs:List Gh):bp:=cs.map gO++replicate (3-cs.length) none
theorem JI:∀{ts:List Tab}{cs:List Gh}{n:Str},n∉ts.map Tab.n->bP (dN ts cs) (.inr n)=none
 |[],_,_,_=>rfl
 |_::_,[],_,_=>rfl
 |t::ts,c::cs,n,h=>by
  show(if pk (.str t.n)=some (.inr n) then some (PV.raw (.ref c.1)) else bP (dN ts cs) (.inr n))=_;rw[if_neg (by intro z;exact h (by simp [show t.n=n by simpa [pk] using z]))];exact JI λz=>h (mem_cons_of_mem _ z)
theorem JJ:∀{ts:List Tab}{cs:List Gh}{i:Nat}{t:Tab}{c:Gh},(ts.map Tab.n).Nodup->ts[i]?=some t->cs[i]?=some c->bP (dN ts cs) (.inr t.n)=some (.raw (.ref c.1))
 |[],_,i,t,c,_,h,_=>by simp at h
 |u::ts,[],i,t,c,_,_,h=>by simp at h
 |u::ts,e::cs,i,t,c,nd,h1,h2=>by
  rw[map_cons,nodup_cons] at nd;show(if pk (.str u.n)=some (.inr t.n) then some (PV.raw (.ref e.1)) else bP (dN ts cs) (.inr t.n))=_
  cases i with
  |zero=>
   cases h1;cases h2;exact if_pos rfl
  |succ i=>
   have h1:ts[i]?=some t:=by simpa using h1
   rw[if_neg (by intro z;exact nd.1 (by rw[show u.n=t.n by simpa [pk] using z];exact dM (mem_of_getElem? h1)))];exact JJ nd.2 h1 (by simpa using h2)
theorem YQ {ts:List Tab}{cs:List Gh}{t:Tab}{p:Addr}{l:af}(hl:ts.length=cs.length)(h:t.n∉ts.map Tab.n):dG (dN ts cs) (.inr t.n) (.raw (.ref p))=dN (ts++[t]) (cs++[(p,l)]):=by
 unfold dG;rw[JI h,if_neg (by decide)];unfold dN;rw[zip_append hl,map_append];rfl
theorem YR {cs:List Gh}{c:Gh}(h:cs.length<3):(cF cs).set cs.length (gO c)=cF (cs++[c]):=by
 unfold cF;rw[set_append_right _ _ (by simp),length_map,Nat.sub_self];obtain⟨k,hk⟩:∃ k,3-cs.length=k+1:=⟨2-cs.length,by omega⟩;rw[hk,replicate_succ,set_cons_zero,map_append,length_append,length_singleton,show 3-(cs.length+1)=k by omega,append_assoc];rfl
theorem YS {cs:List Gh}(h:cs.length<3):(cF cs)[cs.length]?=some none:=by
 unfold cF;rw[getElem?_append_right (by simp),length_map,Nat.sub_self,getElem?_replicate,if_pos (by omega)]
theorem Az {cs:List Gh}{i:Nat}{c:Gh}(h:cs[i]?=some c):(cF cs)[i]?=some (gO c):=by
 unfold cF;have hi:=(b8 h).1;rw[getElem?_append_left (by simpa using hi),getElem?_map,h];rfl
theorem YT {cs:List Gh}{i:Nat}{c:Gh}(h:i<cs.length):(cF cs).set i (gO c)=cF (cs.set i c):=by
 unfold cF;rw[set_append_left _ _ (by simpa using h),length_set,map_set]
theorem YU {ts:List Tab}{cs:List Gh}{i:Nat}{p:Addr}{l l':af}(h:cs[i]?=some (p,l)):dN ts (cs.set i (p,l'))=dN ts cs:=by
 have e:∀ cs:List Gh,dN ts cs=(ts.zip (cs.map Prod.fst)).map λq=>(PV.str q.1.n,PV.raw (.ref q.2)):=λcs=>by
  unfold dN;rw[zip_map_right,map_map];rfl
 rw[e,e,map_set]
 congr 2
 refine ext_getElem? λj=>?_;rw[getElem?_set]
 split
 ·rename_i z;subst z;have hi:=(b8 h).1;rw[if_pos (by simpa using hi),getElem?_map,h];rfl
 ·rfl
noncomputable def pe (cs:List Gh)(v:PV):PV:=cs.foldl (λv c=>uu c.1 (.lst c.2) v) v
theorem JK:∀(cs:List Gh)(kvs:aN),cs.foldl (λk c=>fX c.1 (.lst c.2) k) kvs=kvs.map λkv=>(kv.1,pe cs kv.2)
 |[],kvs=>by simp [pe]
 |c::cs,kvs=>by
  rw[foldl_cons,JK cs];unfold fX;rw[map_map];rfl
theorem JL:∀(cs:List Gh)(l:af),pe cs (.lst l)=.lst l
 |[],_=>rfl
 |c::cs,l=>JL cs l
theorem JM:∀{cs:List Gh}{i:Nat}{c:Gh},(cs.map Prod.fst).Nodup->cs[i]?=some c->pe cs (.raw (.ref c.1))=.lst c.2
 |[],i,c,_,h=>by simp at h
 |e::cs,i,c,nd,h=>by
  rw[map_cons,nodup_cons] at nd;show pe cs (if c.1=e.1 then .lst e.2 else .raw (.ref c.1))=_
  cases i with
  |zero=>
   cases h;rw[if_pos rfl,JL]
  |succ i=>
   have h:cs[i]?=some c:=by simpa using h
   rw[if_neg λz=>nd.1 (by rw[<- z];exact mem_map.mpr ⟨c,mem_of_getElem? h,rfl⟩)];exact JM nd.2 h
theorem JN:∀{ts:List Tab}{cs:List Gh},(ts.map Tab.n).Nodup->ts.length=cs.length->∃ R:Str->af,∀(i:Nat)(t:Tab)(c:Gh),ts[i]?=some t->cs[i]?=some c->R t.n=c.2
 |[],_,_,_=>⟨λ_=>[],λi t c h=>by simp at h⟩
 |t::ts,[],_,h=>by simp at h
 |t::ts,c::cs,nd,h=>by
  rw[map_cons,nodup_cons] at nd;obtain⟨R,hR⟩:=JN (ts:=ts) (cs:=cs) nd.2 (by simpa using h);refine⟨f6 R t.n c.2,λi u e h1 h2=>?_⟩
  cases i with
  |zero=>
   cases h1;cases h2;exact kB
  |succ i=>
   have h1:ts[i]?=some u:=by simpa using h1
   rw[lU λz=>nd.1 (by rw[<- z];exact dM (mem_of_getElem? h1))];exact hR i u e h1 (by simpa using h2)
theorem YV {ts:List Tab}{cs:List Gh}{R:Str->af}(hl:ts.length=cs.length)(nd:(cs.map Prod.fst).Nodup)(hR:∀(i:Nat)(t:Tab)(c:Gh),ts[i]?=some t->cs[i]?=some c->R t.n=c.2):cs.foldl (λk c=>fX c.1 (.lst c.2) k) (dN ts cs)=bk ts R:=by
 rw[JK];unfold dN bk;rw[map_map];refine ext_getElem? λi=>?_;rw[getElem?_map,getElem?_map]
 cases h1:ts[i]? with
 |none=>
  have:ts.length<=i:=by simpa using h1
  rw[getElem?_eq_none (by simp;omega)];rfl
 |some t=>
  have hi:=(b8 h1).1;have h2:cs[i]?=some cs[i]:=bL (by omega);have h3:(ts.zip cs)[i]?=some (t,cs[i]):=getElem?_zip_eq_some.mpr ⟨h1,h2⟩;rw[h3];show some (PV.str t.n,pe cs (.raw (.ref cs[i].1)))=some (PV.str t.n,.lst (R t.n));rw[JM nd h2,hR i t _ h1 h2]
theorem YW {A A':AS}{i j:Nat}{a:Addr}{c c':OC}(h1:A.ae[i]?=some (some (.own a c)))(h2:A.ae[j]?=some (some (.own a c')))(n:i≠j):Mv A A':=λK H σ R=>absurd (R.nd i j a c c' h1 h2) n
theorem JO {B:Addr->Prop}{S:Option az}{fa:Addr}:∀(cs:List Gh)(a b c:Option Sl)(kvs:aN)(m r:bp),Mv ⟨B,a::b::c::some (.own fa (.ah kvs))::(m++(cs.map gO++r)),S⟩ ⟨B,a::b::c::some (.own fa (.ah (cs.foldl (λk c=>fX c.1 (.lst c.2) k) kvs)))::(m++(replicate cs.length none++r)),S⟩
 |[],_,_,_,_,_,_=>Mv.refl _
 |e::cs,a,b,c,kvs,m,r=>by
  have h:=VM (A:=⟨B,a::b::c::some (.own fa (.ah kvs))::(m++((e::cs).map gO++r)),S⟩) (i:=3) (j:=m.length+4) (a:=fa) (p:=e.1) (kvs:=kvs) (xs:=e.2) rfl (by
   show(m++_)[m.length]?=_;rw[getElem?_append_right (aG _),Nat.sub_self]
   rfl)
  have e1:((a::b::c::some (Sl.own fa (.ah kvs))::(m++((e::cs).map gO++r))).set (m.length+4) none).set 3 (some (.own fa (.ah (fX e.1 (.lst e.2) kvs))))=a::b::c::some (.own fa (.ah (fX e.1 (.lst e.2) kvs)))::((m++[none])++(cs.map gO++r)):=by
   show a::b::c::_::(m++_).set m.length none=_;rw[set_append_right _ _ (aG _),Nat.sub_self,append_assoc];rfl
  refine h.trans ?_;show Mv ⟨B,_,S⟩ _;rw[e1];have h2:=JO (B:=B) (S:=S) (fa:=fa) cs a b c (fX e.1 (.lst e.2) kvs) (m++[none]) r
  have e2:(m++[none])++(replicate cs.length none++r)=m++(replicate (e::cs).length none++r):=by
   rw[length_cons,replicate_succ,append_assoc];rfl
  rw[e2] at h2;exact h2
theorem JP {B:Addr->Prop}{S:Option az}{fa:Addr}{ts:List Tab}{cs:List Gh}{R:Str->af}{a b c:Option Sl}{m:bp}(hl:ts.length=cs.length)(hR:∀(i:Nat)(t:Tab)(c:Gh),ts[i]?=some t->cs[i]?=some c->R t.n=c.2) :
  Mv ⟨B,a::b::c::some (.own fa (.ah (dN ts cs)))::(m++cF cs),S⟩ ⟨B,a::b::c::some (.own fa (.ah (bk ts R)))::(m++(replicate cs.length none++replicate (3-cs.length) none)),S⟩:=by
 by_cases nd:(cs.map Prod.fst).Nodup
 ·have:=JO (B:=B) (S:=S) (fa:=fa) cs a b c (dN ts cs) m (replicate (3-cs.length) none);rw[YV hl nd hR] at this;exact this
 ·have:∃ i j:Nat,i≠j/\∃ x y:Gh,cs[i]?=some x/\cs[j]?=some y/\x.1=y.1:=by
   apply Classical.byContradiction;intro z;refine nd (pairwise_iff_getElem.mpr λi j hi hj qy h=>z ⟨i,j,bN qy,?_⟩);have hi:i<cs.length:=by simpa using hi
   have hj:j<cs.length:=by simpa using hj
   exact⟨_,_,bL hi,bL hj,by simpa using h⟩
  obtain⟨i,j,n,x,y,h1,h2,e⟩:=this
  have at':∀{i:Nat}{x:Gh},cs[i]?=some x->(a::b::c::some (Sl.own fa (.ah (dN ts cs)))::(m++cF cs))[m.length+i+4]?=some (some (.own x.1 (.lst x.2))):=λ{i x} h=>by
   show(m++cF cs)[m.length+i]?=_;rw[getElem?_append_right (by omega),show m.length+i-m.length=i by omega];exact Az h
  exact YW (at' h1) (by rw[e];exact at' h2) (by omega)
section
variable {B:Addr->Prop}{S:Option az}{s0 s1 s2 s3 s4 s5 s7 s8 s9 jH:Option Sl}{cs:List Gh}{r:Nat}{p:Addr}{l:af}
noncomputable abbrev ro (s0 s1 s2 s3 s4 s5 s6 s7 s8 s9 jH:Option Sl)(g:bp):bp:=s0::s1::s2::s3::s4::s5::s6::s7::s8::s9::jH::g
theorem JQ (h:cs[r]?=some (p,l)):Mv ⟨B,ro s0 s1 s2 s3 s4 s5 (some (.own p (.lst l))) s7 s8 s9 jH ((cF cs).set r (some (.val (.raw (.ref p))))),S⟩ ⟨B,ro s0 s1 s2 s3 s4 s5 (some (.val (.raw (.ref p)))) s7 s8 s9 jH (cF cs),S⟩:=by
 have g:=Az h;have hr:r<(cF cs).length:=(b8 g).1
 have h1:=GC (A:=⟨B,ro s0 s1 s2 s3 s4 s5 (some (.own p (.lst l))) s7 s8 s9 jH ((cF cs).set r (some (.val (.raw (.ref p))))),S⟩) (i:=r+11) (j:=6) (p:=p) (c:=.lst l) (by
  show((cF cs).set r _)[r]?=_
  rw[getElem?_set_self hr]) rfl
 have e:((cF cs).set r (some (Sl.val (.raw (.ref p))))).set r (some (.own p (.lst l)))=cF cs:=by
  rw[set_set];refine ext_getElem? λj=>?_;rw[getElem?_set];by_cases z:r=j
  ·subst z;rw[if_pos rfl,if_pos hr,g];rfl
  ·rw[if_neg z]
 have h2:(⟨B,ro s0 s1 s2 s3 s4 s5 (some (.val (.raw (.ref p)))) s7 s8 s9 jH (((cF cs).set r (some (Sl.val (.raw (.ref p))))).set r (some (.own p (.lst l)))),S⟩:AS)=⟨B,ro s0 s1 s2 s3 s4 s5 (some (.val (.raw (.ref p)))) s7 s8 s9 jH (cF cs),S⟩:=by rw[e]
 rw[<- h2];exact h1
theorem YX (h:cs[r]?=some (p,l)):Mv ⟨B,ro s0 s1 s2 s3 s4 s5 (some (.val (.raw (.ref p)))) s7 s8 s9 jH (cF cs),S⟩ ⟨B,ro s0 s1 s2 s3 s4 s5 (some (.own p (.lst l))) s7 s8 s9 jH ((cF cs).set r (some (.val (.raw (.ref p))))),S⟩:=
 GC (A:=⟨B,ro s0 s1 s2 s3 s4 s5 (some (.val (.raw (.ref p)))) s7 s8 s9 jH (cF cs),S⟩) (i:=6) (j:=r+11) (p:=p) (c:=.lst l) rfl (Az h)
theorem YY {l':af}{v:Option Sl}(h:r<cs.length):(cF (cs.set r (p,l'))).set r v=(cF cs).set r v:=by
 rw[<- YT h,set_set]
theorem JR {u:US}{E:fo}{A:AS}(C:bX)(h1:∀ A',C A'->u E A')(h2:∃ A',Mv A A'/\C A'):qS u E A:=by
 obtain⟨A',m,c⟩:=h2;exact⟨A',m,h1 A' c⟩
theorem YZ {k:Nat}{ix:List Nat}{A1:AS}{g:UG}{t:UT}{ue:UE}{Q:PV->AS->Prop}(l:af)(p:PV->Bool)(aK:l.length<=1000000)(each:∀ B x,x∈l->∀(Rs:PV->AS->Prop)(Rn:bX),(∀ A4,p x=true->Kp k ix A1.ae A4->A4.S=A1.S->Rs x A4)->(∀ A4,p x=false->Kp k ix A1.ae A4->A4.S=A1.S->Rn A4) ->
  g x ⟨B,dq k ix A1.ae,A1.S⟩ λA2=>t A2 λb A3=>ft b (λA=>ue A Rs) Rn A3)(fin:Q (.lst (l.filter p)) A1):j4 k ix l A1 g t ue Q:=by
 have:=tX (k:=k) (ix:=ix) (A1:=A1) (g:=g) (t:=t) (ue:=ue) (Q:=Q) l id id p aK each (by rw[map_id];exact fin);rwa [map_id] at this
end
def lW (ts:List Tab)(R:Str->af)(i:Nat)(cs:List Gh):Prop:=∀(j:Nat)(t:Tab)(c:Gh),ts[j]?=some t->cs[j]?=some c->(∀ r∈c.2,RY r)/\c.2.length<=50+i/\(R t.n=[]->c.2=[])
theorem lW.set {ts:List Tab}{R:Str->af}{i r:Nat}{cs:List Gh}{t:Tab}{c c':Gh}(h:lW ts R i cs)(ht:ts[r]?=some t)(hc:cs[r]?=some c)(h1:∀ x∈c'.2,RY x)(h2:c'.2.length<=c.2.length+1)(h3:R t.n≠[]):lW ts R (i+1) (cs.set r c'):=λj u e hu he=>by
 rw[getElem?_set] at he;by_cases z:r=j
 ·subst z;rw[if_pos rfl] at he
  split at he
  ·cases he;rw[ht] at hu;cases hu;have:=(h r t c ht hc).2.1;exact⟨h1,by omega,λy=>absurd y h3⟩
  ·cases he
 ·rw[if_neg z] at he;obtain⟨a,b,d⟩:=h j u e hu he;exact⟨a,by omega,d⟩
theorem lW.mono {ts:List Tab}{R:Str->af}{i:Nat}{cs:List Gh}(h:lW ts R i cs):lW ts R (i+1) cs:=λj t c h1 h2=>by
 obtain⟨a,b,d⟩:=h j t c h1 h2;exact⟨a,by omega,d⟩
def Ch (B:Addr->Prop)(d a:Addr)(D:Bs)(fr:PV)(ts:List Tab)(R:Str->af)(fa:Addr)(n i:Nat)(A:AS):Prop:=∃(cs:List Gh)(m:Nat)(o4 o5 o7 o8 o9 bT:Option Sl),
 ((∃ o6,A=⟨B,ro (some (.val (.raw (.ref d)))) (some (.val fr)) (some (.val (.ah (bk ts R)))) (some (.own fa (.ah (dN ts cs)))) o4 o5 o6 o7 o8 o9 bT (cF cs),some ⟨d,a,m,D⟩⟩)\/∃ r p l,cs[r]?=some (p,l)/\A=⟨B,ro (some (.val (.raw (.ref d)))) (some (.val fr)) (some (.val (.ah (bk ts R)))) (some (.own fa (.ah (dN ts cs)))) o4 o5 (some (.own p (.lst l))) o7 o8 o9 bT ((cF cs).set r (some (.val (.raw (.ref p))))),some ⟨d,a,m,D⟩⟩)/\ts.length=cs.length/\lW ts R i cs/\m<=n+1+20*i
theorem Ch.fin {B:Addr->Prop}{d a:Addr}{D:Bs}{fr:PV}{ts:List Tab}{R:Str->af}{fa:Addr}{n i m m' r:Nat}{cs:List Gh}{t:Tab}{p:Addr}{l l':af}{o4 o5 o7 o8 o9 bT:Option Sl}(hl:ts.length=cs.length)(hg:lW ts R i cs)(ht:ts[r]?=some t)(hc:cs[r]?=some (p,l))(hm:m<=n+1+20*i)
  (h1:∀ x∈l',RY x)(h2:l'.length<=l.length+1)(h3:R t.n≠[])(h4:m'<=m+20):Ch B d a D fr ts R fa n (i+1) ⟨B,ro (some (.val (.raw (.ref d)))) (some (.val fr)) (some (.val (.ah (bk ts R)))) (some (.own fa (.ah (dN ts cs)))) o4 o5 (some (.own p (.lst l'))) o7 o8 o9 bT ((cF cs).set r (some (.val (.raw (.ref p))))),some ⟨d,a,m',D⟩⟩:=by
 have JS:r<cs.length:=(b8 hc).1;refine⟨cs.set r (p,l'),m',o4,o5,o7,o8,o9,bT,.inr ⟨r,p,l',by rw[getElem?_set_self JS],?_⟩,by rw[length_set];exact hl,hg.set ht hc h1 h2 h3,by omega⟩;rw[YU hc,YY JS]
noncomputable def rB:PV->Bool
 |.tup xs=>decide (0<xs.length)
 |_=>false
def rC (ts:List Tab)(R:Str->af):Prop:=∀ t∈ts,(∀ r∈R t.n,RY r)/\(R t.n).length<=60
def JT (x y:PV)(st:az)(Q:PV->az->Prop):Prop:=∃(ts:List Tab)(ps:List cY)(R:Str->af),x=pF ts ps/\y=.ah (bk ts R)/\i8 ts ps/\(∀ t∈ts,t.cs≠[]/\t.cs.length<=3)/\0<ts.length/\ts.length<=3/\BY ts R/\GY ts R/\st.n<=20000/\∀(R':Str->af)(au:az),rC ts R'->Nx st 100 au->Q (.ah (bk ts R')) au
theorem jI:bH ["_law_state","_law_frame_here","_law_book_here","_law_found","_law_name","_law_turn","_law_rows","_law_good","_law_row","_law_other","_law_at"] ["_law_state","_law_frame_here","_law_book_here"] (aT xr):=by walk_at "s"
theorem Y0 {k:Nat}(D:Df K mg "_law_changed" xr)(B:Bt mg)(bM:Kn P w K mg base k "_law_take" (spS K false (c7 g6)))(JU:Kn P w K mg base k "_law_other_row" (spS K false (iz Jo))):Kn P w K mg base (k+1) "_law_changed" (spS K true (iz JT)):=by
 refine D.i4 jI (λ_ _ _ _ _ _=>mD λ_ _ _=>rfl) (λ_ _ _=>iz.len) (by decide) (λf aF A outer s H E hr=>⟨_,(VF 3 (sc (gP (i:=3) jI.nd yI)
  (sc (cj PassesOwn.never rfl (dn rfl 2) (aE (i:=4) jI.nd)
  (s1 (VG hr 11 3 4 (tF rfl B.list (qv (aA rfl hr (qn 2) (qn 4)))))))
  (sc (cj PassesOwn.never rfl (j0 (by rfl) B.range (gU rfl (qv vi) (qv (cE rfl bM hr (ac (vn 0) (ac vi an)))))) (aE (i:=5) jI.nd)
  (GG (sc (bI (i:=4) jI.nd (aA rfl hr (qv (aA rfl hr (qv (aA rfl hr (qn 1) (qv vi))) (qv (cE rfl bM hr (ac (vn 0) (ac (du rfl B.len (qv (aA rfl hr (qn 1) (qv vi)))) an)))))) (qv vi)))
  (sc (bI (i:=6) jI.nd (aA rfl hr (qn 3) (qn 4)))
  (GG (sc (jr (i:=7) jI.nd (N:=["_law_row"]) (k:=1) (ix:=[]) cS rfl (dn rfl 6) (λ_ _ _ _=>(aE (i:=0) (by show(["_law_row"]:ay).Nodup;decide +kernel))) (λ_ _ _ _=>(sX (PW.pt (lq (gM rfl (qv (gX .tuple rfl B.isinstance B.tuple PyProof.Rows.boot_tuple (qn 0)))) (lh (yr (qv (du rfl B.len (qn 0))) (qv vi))))))) (λ_ _ _ _=>(vn 0)))
  (s1 (bW (yr (qv (du rfl B.len (qn 7))) (qv vi)) (sc (bI (i:=8) jI.nd (aA rfl hr (qn 7) (qv (cE rfl bM hr (ac (vn 0) (ac (du rfl B.len (qn 7)) an))))))
  (sc (bI (i:=9) jI.nd (aA rfl hr (qv (aA rfl hr (qn 2) (qn 4))) (qv (cE rfl bM hr (ac (vn 0) (ac (du rfl B.len (qv (aA rfl hr (qn 2) (qn 4)))) an))))))
  (sc (bI (i:=10) jI.nd (cE rfl bM hr (ac (vn 0) (ac (du rfl B.len (qn 6)) an))))
  (s1 (bW (gq rfl hr (qv (cE rfl bM hr (ac (vn 0) (ac vi an)))) (qv vi)) (s1 (gk (Ug rfl 6 (vn 10)))) (s1 (bW (gq rfl hr (qv (cE rfl bM hr (ac (vn 0) (ac vi an)))) (qv vi)) (s1 (gk (VS rfl 6 (vn 10) (vn 8)))) (s1 (Gv 6 (cE rfl JU hr (ac (vn 0) (ac (vn 9) (ac (vn 9) an)))) (vn 10)))))))))) sn))))))))
  (s1 (VE (EJ (i:=3)))))))),λB' xs st Q h=>?_⟩)
 obtain⟨x1,x2,rfl,h⟩:=h;change (_:US) (fH true Q) ⟨B',[some (.val (.raw (.ref st.d))),some (.val x1),some (.val x2),none,none,none,none,none,none,none,none],some st⟩;obtain⟨ts,ps,R,rfl,rfl,a9,cu,t0,t3,iH,jE,hn,h⟩:=h;obtain⟨d,a,n,D⟩:=st;have f9:n<=20000:=hn;w_on;intro fa;have Y1:(bk ts R).map Prod.fst=ts.map λt=>.str t.n:=by unfold bk;rw[map_map];rfl
 rw[Y1];refine df ts (λt=>.str t.n) (λdd A=>∃(cs:List Gh)(o4:Option Sl),A=⟨B',ro (some (.val (.raw (.ref d)))) (some (.val (pF ts ps))) (some (.val (.ah (bk ts R)))) (some (.own fa (.ah (dN dd cs)))) o4 none none none none none none (cF cs),some ⟨d,a,n,D⟩⟩/\dd.length=cs.length/\∀(i:Nat)(t:Tab)(c:Gh),dd[i]?=some t->cs[i]?=some c->c.2=R t.n) ⟨[],_,rfl,rfl,(λi t c h=>by simp at h)⟩ (λ_ _ _=>trivial) ?_ ?_
 ·rintro dd t rr A2 ee ⟨cs,o4,rfl,hl,hc⟩;have eO:t∈ts:=by rw[ee];simp
  have oU:dd.length<3:=by have:=congrArg List.length ee;simp at this;omega
  have jG:t.n∉dd.map Tab.n:=by
   have:=a9.nd;rw[ee,map_append,map_cons] at this;intro z;exact(nodup_append.mp this).2.2 _ z _ (by simp) rfl
  w_on;unfold GH;w_on;refine ao _ (jC (dM eO)) ?_;w_on;refine⟨R t.n,fa,_,t.n,cs.length+11,rfl,⟨rfl,rfl⟩,rfl,by omega,YS (by omega),by simp [dN];omega,λp=>⟨cs++[(p,R t.n)],some (.val (.str t.n)),?_,by simp [hl],λi u c hu aM=>?_⟩⟩
  ·rw[YQ (l:=R t.n) hl jG,<- YR (by omega)];rfl
  ·by_cases hi:i<dd.length
   ·rw[getElem?_append_left hi] at hu;rw[getElem?_append_left (by omega)] at aM;exact hc i u c hu aM
   ·have h1:=(b8 hu).1;have Aj:i=dd.length:=by simp at h1;omega
    subst Aj;rw[getElem?_append_right (aG _),Nat.sub_self] at hu;rw[hl,getElem?_append_right (aG _),Nat.sub_self] at aM;cases hu;cases aM;rfl
 ·rintro A2 ⟨cs,o4,rfl,hl,hc⟩;w_on;refine draw (by omega) (by decide) (by decide) λr r0 r1=>?_;w_on;have hr3:(1+r).toNat<=3:=by omega
  refine⟨by omega,by omega,?_⟩;generalize (1+r).toNat=N at *
  refine mZ N (Ch B' d a D (pF ts ps) ts R fa n)
   ⟨cs,n+1,_,_,_,_,_,_,.inl ⟨_,rfl⟩,hl,(λj t c h1 h2=>by rw[hc j t c h1 h2];have:=iH t (mem_of_getElem? h1);exact⟨this.1,by omega,id⟩),by omega⟩ (λ_ _ _=>trivial) ?_ ?_
  ·rintro i A3 hi ⟨cs,m,o4,o5,o7,o8,o9,bT,AA,hl,hg,hm⟩;show qS _ _ (put A3 5 (.val (.int (i:Nat))));refine JR (λA'=>∃ o6,A'=⟨B',ro (some (.val (.raw (.ref d)))) (some (.val (pF ts ps))) (some (.val (.ah (bk ts R)))) (some (.own fa (.ah (dN ts cs)))) o4 (some (.val (.int (i:Nat)))) o6 o7 o8 o9 bT (cF cs),some ⟨d,a,m,D⟩⟩) ?_ ?_
   ·rintro _ ⟨o6,rfl⟩;unfold pF;w_on;refine draw (by omega) (by simp;omega) (Int.lt_of_lt_of_le (by simp;omega:((ts.map pT).length:Int)<4) (by decide)) λq q0 q1=>?_;obtain⟨j,rfl⟩:=Int.eq_ofNat_of_zero_le q0;have hj:j<ts.length:=by simp at q1;omega
    have lX:ts[j]?=some ts[j]:=bL hj;have jd:cs[j]?=some cs[j]:=bL (by omega);generalize ts[j]=t at lX;generalize cs[j]=c at jd;obtain⟨p,l⟩:=c;have eO:=mem_of_getElem? lX;obtain⟨g1,g2,g3⟩:=hg j t (p,l) lX jd;w_on;refine ao (pT t) (uV lX) ?_;simp only[pT];w_on;refine ao _ (JJ a9.nd lX jd) ?_;w_on;refine⟨_,YX jd,?_⟩;w_on;refine YZ l rB (by have:l.length<=50+i:=g2;omega) ?_ ?_
    ·intro B x hx Rs Rn hs hn;have rx:=g1 x hx;cases x<;>first|exact rx.elim|skip
     case tup xs=>
      w_on;refine b_ (λe=>?_) λe=>?_
      ·w_on;exact hs _ (by simpa [rB] using e) ⟨rfl,rfl⟩ rfl
      ·exact hn _ (by simpa [rB] using e) ⟨rfl,rfl⟩ rfl
     case lst xs=>
      w_on;refine ao false rfl (d8 rfl ?_);exact hn _ rfl ⟨rfl,rfl⟩ rfl
    have gl:l.length<=50+i:=g2;have g3:R t.n=[]->l=[]:=g3;have gm:∀ x∈l.filter rB,x∈l:=λx hx=>(mem_filter.mp hx).1;generalize hG:l.filter rB=G at gm;have Gl:G.length<=l.length:=by rw[<- hG];exact length_filter_le _ _
    w_on;refine b_ (λe=>?_) λe=>?_
    ·have Gp:0<G.length:=by simpa using e
     have lp:0<l.length:=by omega
     have rn:R t.n≠[]:=λz=>by rw[g3 z] at lp;exact absurd lp (by decide)
     have rp:0<(R t.n).length:=length_pos_iff.mpr rn;have rl:=(iH t eO).2;w_on;refine draw (by omega) (by omega) (Int.lt_of_lt_of_le (by omega:(G.length:Int)<100) (by decide)) λq q0 q1=>?_;obtain⟨x,hx,ie⟩:=Ao q0 q1;have rx:=g1 x (gm x ie);w_on;refine ao _ hx ?_;w_on;refine ao _ (jC (dM eO)) ?_;w_on;refine ao _ (jC (dM eO)) ?_;w_on;refine draw (by omega) (by omega) (Int.lt_of_lt_of_le (by omega:((R t.n).length:Int)<100) (by decide)) λs s0 s1=>?_;obtain⟨y,hy,rA⟩:=Ao s0 s1;obtain⟨ys,rfl,kF,lV⟩:=pb (jE t eO y rA) ((iH t eO).1 y rA);w_on;refine ao _ hy ?_;w_on;refine draw (by omega) (by omega) (Int.lt_of_lt_of_le (by omega:(l.length:Int)<100) (by decide)) λu u0 u1=>?_;obtain⟨v,rfl⟩:=Int.eq_ofNat_of_zero_le u0;have hv:v<l.length:=by omega
     w_on;refine draw (by omega) (by decide) (by decide) λz z0 z1=>?_;w_on;refine b_ (λe2=>?_) λe2=>?_
     ·w_on;exact⟨v,_,rfl,by omega,bL hv,Ch.fin hl hg lX jd hm (λx hx=>g1 x (mem_of_mem_eraseIdx hx)) (by rw[length_eraseIdx];split<;>omega) rn (by omega)⟩
     ·w_on;refine draw (by omega) (by decide) (by decide) λz' z0' z1'=>?_;w_on;refine b_ (λe3=>?_) λe3=>?_
      ·w_on;refine⟨l,v,rfl,rfl,by omega,by omega,Ch.fin hl hg lX jd hm (λy hy=>?_) (by simp;omega) rn (by omega)⟩;rcases mem_append.mp hy with z2|z2
       ·exact g1 y (mem_of_mem_take z2)
       ·rcases mem_cons.mp z2 with rfl|z2
        ·exact rx
        ·exact g1 y (mem_of_mem_drop z2)
      ·w_on;have Y2:=cu t eO;have fl:=(rq.mp (jE t eO _ rA)).1;have cp:0<t.cs.length:=length_pos_iff.mpr Y2.1;refine⟨ys,rfl,rfl,kF,by omega,by omega,(by show m+1+1+1+1+1+1<=90000;omega),λw' au hw c9=>?_⟩;obtain⟨m4,Ax,rfl⟩:=c9;have YM:m4<=m+1+1+1+1+1+1+3:=Ax;w_on;refine⟨l,v,rfl,rfl,hv,Ch.fin hl hg lX jd hm (λy hy=>?_) (by simp) rn (by omega)⟩;rcases mem_or_eq_of_mem_set hy with z2|z2
       ·exact g1 y z2
       ·rw[z2];exact hw
    ·w_on;exact⟨cs,m+1,_,_,_,_,_,_,.inr ⟨j,p,l,jd,rfl⟩,hl,hg.mono,by omega⟩
   ·rcases AA with ⟨o6,rfl⟩|⟨r,p,l,hr,rfl⟩
    ·exact⟨_,Mv.refl _,_,rfl⟩
    ·exact⟨_,JQ hr,_,rfl⟩
  ·rintro A3 ⟨cs,m,o4,o5,o7,o8,o9,bT,AA,hl,hg,hm⟩;obtain⟨R',hR⟩:=JN a9.nd hl;refine JR (λA'=>∃ o6,A'=⟨B',ro (some (.val (.raw (.ref d)))) (some (.val (pF ts ps))) (some (.val (.ah (bk ts R)))) (some (.own fa (.ah (bk ts R')))) o4 o5 o6 o7 o8 o9 bT (replicate cs.length none++replicate (3-cs.length) none),some ⟨d,a,m,D⟩⟩) ?_ ?_
   ·rintro _ ⟨o6,rfl⟩;w_on;refine h R' ⟨d,a,m,D⟩ (λt ht=>?_) ⟨m,by show m<=n+100;omega,rfl⟩;obtain⟨j,hj⟩:=getElem?_of_mem ht;have hjl:=(b8 hj).1;have jd:cs[j]?=some cs[j]:=bL (by omega);rw[hR j t _ hj jd];obtain⟨a1,a2,_⟩:=hg j t _ hj jd;exact⟨a1,by omega⟩
   ·rcases AA with ⟨o6,rfl⟩|⟨r,p,l,hr,rfl⟩
    ·exact⟨_,JP (m:=[o4,o5,o6,o7,o8,o9,bT]) hl hR,_,rfl⟩
    ·exact⟨_,(JQ hr).trans (JP (m:=[o4,o5,some (.val (.raw (.ref p))),o7,o8,o9,bT]) hl hR),_,rfl⟩
noncomputable def ms (l:List (Str×PV)):aN:=l.map λp=>(.str p.1,p.2)
theorem JV:∀{l:List (Str×PV)}{n:Str},n∉l.map Prod.fst->bP (ms l) (.inr n)=none
 |[],_,_=>rfl
 |p::l,n,h=>by
  show(if pk (.str p.1)=some (.inr n) then some p.2 else bP (ms l) (.inr n))=_;rw[if_neg (by intro z;exact h (by simp [show p.1=n by simpa [pk] using z]))];exact JV λz=>h (mem_cons_of_mem _ z)
theorem JW:∀{l:List (Str×PV)}{p:Str×PV},(l.map Prod.fst).Nodup->p∈l->bP (ms l) (.inr p.1)=some p.2
 |[],_,_,h=>by cases h
 |q::l,p,nd,h=>by
  rw[map_cons,nodup_cons] at nd;show(if pk (.str q.1)=some (.inr p.1) then some q.2 else bP (ms l) (.inr p.1))=_;rcases mem_cons.mp h with rfl|z
  ·exact if_pos rfl
  ·rw[if_neg (by intro y;exact nd.1 (by rw[show q.1=p.1 by simpa [pk] using y];exact mem_map.mpr ⟨p,z,rfl⟩))];exact JW nd.2 z
theorem JX:∀(l acc:List (Str×PV)),((acc++l).map Prod.fst).Nodup->(l.map λp=>((.inr p.1:Key),p.2)).foldl (λacc kv=>dG acc kv.1 kv.2) (ms acc)=ms (acc++l)
 |[],acc,_=>by rw[append_nil];rfl
 |p::l,acc,nd=>by
  have h:p.1∉acc.map Prod.fst:=λz=>by
   rw[map_append,map_cons] at nd;exact(nodup_append.mp nd).2.2 _ z _ (by simp) rfl
  have e:dG (ms acc) (.inr p.1) p.2=ms (acc++[p]):=by
   unfold dG;rw[JV h,if_neg (by decide)];unfold ms;rw[map_append];rfl
  rw[map_cons,foldl_cons];show foldl _ (dG (ms acc) (.inr p.1) p.2) _=_;rw[e,JX l (acc++[p]) (by rw[append_assoc];exact nd),append_assoc];rfl
theorem Y3 {ts:List Tab}{R:Str->af}(nd:(ts.map Tab.n).Nodup):∀ p∈dictOf (ts.map λt=>((.inr t.n:Key),PV.int ((R t.n).length:Nat))),t9 (dictOf (ts.map λt=>((.inr t.n:Key),PV.int ((R t.n).length:Nat)))) p:=by
 have e:dictOf (ts.map λt=>((.inr t.n:Key),PV.int ((R t.n).length:Nat)))=ms (ts.map λt=>(t.n,PV.int ((R t.n).length:Nat))):=by
  have:=JX (ts.map λt=>(t.n,PV.int ((R t.n).length:Nat))) [] (by rw[nil_append,map_map];exact nd);rw[map_map] at this;exact this
 rw[e];intro p hp;obtain⟨q,hq,rfl⟩:=mem_map.mp hp;obtain⟨t,ht,rfl⟩:=mem_map.mp hq;refine⟨λk hk=>?_,oB _ _,?_⟩
 ·cases hk;exact JW (p:=(t.n,PV.int ((R t.n).length:Nat))) (by rw[map_map];exact nd) hq
 ·show((_:Int)==_)=true;simp
theorem Y4 {y:PV}(h:Vy y):iB y=true/\(toQ y).showable=true/\(toQ y).leavesShort 30=true/\(toQ y).depth<=1/\(toQ y).bulk<=2:=by
 have s5:∀ z∈(["a","","b","aa","a\n"]:ay),(PyData.str z).leavesShort 30=true/\(PyData.str z).bulk<=2:=by decide +kernel
 rcases h with rfl|rfl|rfl|rfl|rfl|rfl|rfl|rfl|rfl|rfl|⟨z,hz,rfl⟩
 case inr.inr.inr.inr.inr.inr.inr.inr.inr.inr=>exact⟨rfl,rfl,(s5 z hz).1,Nat.zero_le _,(s5 z hz).2⟩
 all_goals exact⟨by decide +kernel,by decide +kernel,by decide +kernel,by decide +kernel,by decide +kernel⟩
theorem AB {b d:Nat}:∀{xs:af},(∀ y∈xs,iB y=true/\(toQ y).showable=true/\(toQ y).leavesShort 30=true/\(toQ y).depth<=d/\(toQ y).bulk<=b)->lE xs=true/\PyData.showableAll (gA xs)=true/\PyData.leavesShortAll 30 (gA xs)=true/\PyData.depthAll (gA xs)<=d/\PyData.bulkAll (gA xs)<=xs.length*(b+1)
 |[],_=>⟨rfl,rfl,rfl,Nat.zero_le _,Nat.zero_le _⟩
 |x::xs,h=>by
  obtain⟨a1,a2,a3,a4,a5⟩:=h x (by simp);obtain⟨b1,b2,b3,b4,b5⟩:=AB (xs:=xs) λy hy=>h y (mem_cons_of_mem _ hy);refine⟨?_,?_,?_,?_,?_⟩
  ·show(iB x&&lE xs)=true;rw[a1,b1];rfl
  ·show(PyData.showable _&&PyData.showableAll _)=true;rw[a2,b2];rfl
  ·show(PyData.leavesShort 30 _&&PyData.leavesShortAll 30 _)=true;rw[a3,b3];rfl
  ·show max _ _<=d;omega
  ·show PyData.bulk _+1+PyData.bulkAll _<=_;rw[length_cons,Nat.add_mul];omega
theorem Y5 {r:PV}(h:RY r):iB r=true/\(toQ r).showable=true/\(toQ r).leavesShort 30=true/\(toQ r).depth<=2/\(toQ r).bulk<=27:=by
 cases r<;>first|exact h.elim|skip
 all_goals
  obtain⟨h1,h2⟩:=h;obtain⟨a1,a2,a3,a4,a5⟩:=AB λy hy=>Y4 (h1 y hy);refine⟨a1,a2,a3,?_,?_⟩
  ·show PyData.depthAll _+1<=2;omega
  ·show PyData.bulkAll _<=27;omega
def ve (n:Str):Prop:=n.length<=10/\∀ c∈n.cps.toList,HG c
theorem Y6 {D:Bs}(W:gK D)(i:Nat):ve (wf D i):=by
 refine⟨?_,W6 W i⟩;obtain⟨h,_⟩:=W;show(hJ D i).toArray.size<=10;have:D.x.cps.size<=3:=h;unfold hJ;simp;omega
theorem JY:∀{ts:List Tab}{R:Str->af},rC ts R->(∀ t∈ts,ve t.n)->lF (bk ts R)=true/\PyData.showableKv (g_ (bk ts R))=true/\PyData.leavesShortKv 30 (g_ (bk ts R))=true/\PyData.depthKv (g_ (bk ts R))<=3/\PyData.bulkKv (g_ (bk ts R))<=ts.length*2000
 |[],_,_,_=>⟨rfl,rfl,rfl,Nat.zero_le _,Nat.zero_le _⟩
 |t::ts,R,h,hn=>by
  obtain⟨b1,b2,b3,b4,b5⟩:=JY (ts:=ts) (R:=R) (λu hu=>h u (by simp [hu])) λu hu=>hn u (by simp [hu]);obtain⟨h1,h2⟩:=h t (by simp);obtain⟨a1,a2,a3,a4,a5⟩:=AB λr hr=>Y5 (h1 r hr);obtain⟨n1,n2⟩:=hn t (by simp);have s1:(PyData.str t.n).leavesShort 30=true:=all_eq_true.mpr λc hc=>decide_eq_true (by have:=(n2 c hc).2;omega);have s2:(PyData.str t.n).bulk<=10:=n1;refine⟨?_,?_,?_,?_,?_⟩
  ·show(true&&lE (R t.n)&&lF (bk ts R))=true;rw[a1,b1];rfl
  ·show(true&&PyData.showableAll _&&PyData.showableKv (g_ (bk ts R)))=true;rw[a2,b2];rfl
  ·show(PyData.leavesShort 30 (.str t.n)&&PyData.leavesShortAll 30 _&&PyData.leavesShortKv 30 (g_ (bk ts R)))=true;rw[s1,a3,b3];rfl
  ·show max (max 0 (PyData.depthAll (gA (R t.n))+1)) (PyData.depthKv (g_ (bk ts R)))<=3;omega
  ·show PyData.bulk (.str t.n)+PyData.bulkAll (gA (R t.n))+2+PyData.bulkKv (g_ (bk ts R))<=_;have:(R t.n).length*(27+1)<=60*28:=Nat.mul_le_mul_right _ h2;rw[length_cons,Nat.add_mul];omega
theorem JZ {ts:List Tab}{R:Str->af}(h:rC ts R)(hn:∀ t∈ts,ve t.n)(hl:ts.length<=3):G8 (.ah (bk ts R)) (.str (toQ (.ah (bk ts R))).shown):=by
 obtain⟨b1,b2,b3,b4,b5⟩:=JY h hn;refine⟨_,rfl,b1,b2,by show PyData.depthKv _+1<=100;omega,?_,rfl⟩;have:=PyData.shown_le_bulk 30 (by decide) (toQ (.ah (bk ts R))) b3;have e:(toQ (.ah (bk ts R))).bulk=PyData.bulkKv (g_ (bk ts R)):=rfl;rw[e] at this;have hs:sizeLine=2 ^ 24:=rfl;have:ts.length*2000<=3*2000:=Nat.mul_le_mul_right _ hl;omega
theorem rC.bk {ts:List Tab}{R:Str->af}(h:rC ts R):jB ts (bk ts R):=λt ht=>by
 rw[jD (dM ht)];have q:=h t ht;exact⟨jC (dM ht),λr hr=>(q.1 r hr).rx,by have:=q.2;omega⟩
def vh (K:Frag):Sp:=λvs H Q _=>∃(a:Addr)(ns:List Int),vs=[.ref a]/\nQ H/\aC K H a (ns.map V.int)/\ns.length<=63/\∀ H',Q (.bl true) H'
theorem lY:bH ["_law_script","_law_state","_law_frame_here","_law_book_here","_law_k","_law_other","_law_kept","_law_counts"] ["_law_script"] (aT mE):=by walk_at "s"
theorem Y7 {k:Nat}{f:Addr}{fd:FuncData}(F:fh K "law" "law" mE f fd)(B:Bt mg)(Be:Kn P w K mg base k "_law_begin" (xB K))(sm:lG K)(J0:Kn P w K mg base k "_law_frame" (spS K false (oz HK)))(J1:Kn P w K mg base k "_law_book" (spS K true (c7 Jx)))(vm:Kn P w K mg base k "first_break" (a_ K false (bc Iy)))(J2:Kn P w K mg base k "_law_changed" (spS K true (iz JT)))(J_:Kn P w K mg base k "counts_of" (a_ K true (eL IQ)))(J':Kn P w K mg base k "_law_told" (a_ K false (bc Jm)))(Ka:Kn P w K mg base k "_law_due" (a_ K false (bc Jc))):cU P w K mg base c_ (k+1) f fd ["_law_script"] (vh K):=by
 refine F.ok lY (λvs H Q E h=>by obtain⟨a,ns,rfl,_⟩:=h;rfl) (λaF A outer s H vs Q E hr h=>?_);obtain⟨a,ns,rfl,hO,hS,hl,q⟩:=h;obtain⟨bf,bd,bps,bF,bb,bk,bm⟩:=Be.ex
 refine⟨_,dP (fL (i:=1) lY.nd rfl (by first|exact Or.inl rfl|exact Or.inr rfl) (ip bF hr rfl bm bk bb .nil iu (bO (pv 0) cq))) (sc (bI (i:=2) lY.nd (cE rfl J0 hr (ac (vn 1) an)))
  (sc (bI (i:=3) lY.nd (vf (E6 rfl J1 hr (ac (vn 1) (ac (vn 2) an)))))
  (sc (bW (qt (qv (cM rfl vm hr (ac (vn 2) (ac (vn 3) an)))) (qv v0)) (s1 (bx vb)) sn)
  (sc (cj PassesOwn.never rfl (j0 (by rfl) B.range vi) (aE (i:=4) lY.nd)
  (sc (bI (i:=5) lY.nd (vf (E6 rfl J2 hr (ac (vn 1) (ac (vn 2) (ac (vn 3) an))))))
  (sc (bI (i:=6) lY.nd (G9 sm rfl hr B.repr (qn 5)))
  (sc (bW (PW.pt (lr (jo (gM rfl (qv (cM rfl J' hr (ac (cM rfl vm hr (ac (vn 2) (ac (vn 5) an))) (ac (cM rfl Ka hr (ac (vn 2) (ac (vn 5) an))) an)))))) (mJ (oq rfl hr (qv (G9 sm rfl hr B.repr (qn 5))) (qn 6))))) (s1 (bx vb)) sn)
  (sc (bI (i:=7) lY.nd (vf (gS rfl J_ hr (ac (vn 5) an))))
  (s1 (bW (PW.pt (lr (jo (gM rfl (qv (gX .dict rfl B.isinstance B.dict PyProof.Rows.boot_dict (qn 7))))) (mJ (Ul rfl hr (qn 7) (qf (FP rfl rfl B.dict (qf (eJ (N:=["_law_name","_law_other"]) (k:=1) (ix:=[5]) cS rfl (dn rfl 5) (λ_ _ _ _=>(aE (i:=0) (by show(["_law_name","_law_other"]:ay).Nodup;decide +kernel))) (λ_ _ _ _=>cX) (λ_ _ _ _=>(et (ac (vn 0) (ac (du rfl B.len (qv (aA rfl hr (qn 1) (qn 0)))) an)))))))))))) (s1 (bx vb)) sn)))))))
  (s1 (bx (yt (qv (cM rfl vm hr (ac (vn 2) (ac (vn 3) an)))) (qv v0)))))))),?_⟩
 refine⟨_,rfl,a,rfl,⟨ns,hS,hl⟩,λd D H1 hd0 Wo S1 s1=>?_⟩;refine Ue hO hS hl S1 s1 6 ?_ q;change (_:US) tZ ⟨λb=>b=d,[some (.val (.raw (.ref a))),some (.val (.raw (.ref d))),none,none,none,none,none,none],some ⟨d,a,10,D⟩⟩;have W':gK D:=Wo;have F:=HH W';w_on;refine⟨W',(by show 10<=1000;decide),λhV AD au fr hp Y8 c9=>?_⟩;obtain⟨n1,Kc,rfl⟩:=c9;have Kc:n1<=510:=Kc;obtain⟨a9,fk⟩:=Yd F fr hp Y8
 have eF:PV.tup [.tup (hV.map λt=>pT (tb (wf D) t)),.tup (AD.map λp=>pP (pt (wf D) p))]=pF (hV.map (tb (wf D))) (AD.map (pt (wf D))):=by
  unfold pF;rw[map_map,map_map];rfl
 have nm:∀ t∈hV.map (tb (wf D)),ve t.n:=λt ht=>by
  obtain⟨u,hu,rfl⟩:=mem_map.mp ht;exact Y6 W' u.n
 have cu:∀ t∈hV.map (tb (wf D)),t.cs≠[]/\t.cs.length<=3:=λt ht=>by
  obtain⟨u,hu,rfl⟩:=mem_map.mp ht;have T:=fr.2.2.2 u hu;exact⟨by have:=T.ne;simpa [tb] using this,by have:=T.l3;simpa [tb] using this⟩
 have t0:0<(hV.map (tb (wf D))).length:=by rw[length_map];exact length_pos_iff.mpr fr.1
 have t3:(hV.map (tb (wf D))).length<=3:=by rw[length_map];exact fr.2.1
 rw[eF];generalize hV.map (tb (wf D))=T at *;generalize AD.map (pt (wf D))=Pp at *;w_on;refine⟨T,Pp,rfl,a9,fk,(by show n1<=2000;omega),λR au iH jE cl c9=>?_⟩;obtain⟨n2,sf,rfl⟩:=c9;have sf:n2<=n1+3000:=sf;have fb:i9 T Pp (b0.bk T R)=.ai:=cl.first jE;w_on;refine ao .ai ⟨T,Pp,_,rfl,rfl,a9,iH.bk,fb.symm⟩ ?_;w_on;refine mZ 6 (λi A=>∃ m o4 o5 o6 o7,A=⟨λb=>b=d,[some (.val (.raw (.ref a))),some (.val (.raw (.ref d))),some (.val (pF T Pp)),some (.val (.ah (b0.bk T R))),o4,o5,o6,o7],some ⟨d,a,m,D⟩⟩/\m<=n2+100*i) ⟨n2,_,_,_,_,rfl,by omega⟩ (λ_ _ _=>trivial) ?_ ?_
 ·rintro i A3 hi ⟨m,o4,o5,o6,o7,rfl,hm⟩;w_on;refine⟨T,Pp,R,rfl,rfl,a9,cu,t0,t3,iH,jE,(by show m<=20000;omega),λR' au vo c9=>?_⟩;obtain⟨m2,dU,rfl⟩:=c9;have dU:m2<=m+100:=dU;w_on;refine ao _ (JZ vo nm t3) ?_;w_on;refine ao _ ⟨T,Pp,_,rfl,rfl,a9,vo.bk,rfl⟩ ?_;w_on;refine ao _ ⟨T,Pp,_,rfl,rfl,a9,vo.bk,rfl⟩ ?_;w_on;refine ao _ ⟨Yh _ _ _,rfl,rfl⟩ ?_;w_on;refine ao _ (JZ vo nm t3) ?_;w_on;refine gw (by simp) ?_;w_on;have eb:b0.bk T R'=(T.map λt=>(t.n,R' t.n)).map λp=>(PV.str p.1,PV.lst p.2):=by unfold b0.bk;rw[map_map];rfl
  have ec:(T.map λt=>(t.n,R' t.n)).map (λp=>((.inr p.1:Key),PV.int (p.2.length:Nat)))=T.map λt=>((.inr t.n:Key),PV.int ((R' t.n).length:Nat)):=by rw[map_map];rfl
  refine ao (.ah (dictOf (T.map λt=>((.inr t.n:Key),PV.int ((R' t.n).length:Nat))))) ⟨T.map λt=>(t.n,R' t.n),by rw[<- eb],by rw[length_map];omega,by rw[ec]⟩ ?_;w_on;refine ao true rfl ?_;refine gw rfl ?_;w_on;have ef:(b0.bk T R').map Prod.fst=T.map λt=>.str t.n:=by unfold b0.bk;rw[map_map];rfl
  rw[ef];refine d7 T (λt=>.str t.n) (λt=>.tup [.str t.n,.int ((R' t.n).length:Nat)]) (by omega) ?_ ?_
  ·intro B t ht R hR;w_on;refine ao _ (jC (dM ht)) ?_;w_on;exact hR _ ⟨rfl,rfl⟩ rfl
  w_on;have ek:=Ad (T.map λt=>(t.n,R' t.n));rw[map_map,ec] at ek;refine ao _ ⟨_,ek,by rw[length_map];omega,rfl⟩ ⟨rfl,?_⟩;refine ao false ⟨_,rfl,rfl,Y3 a9.nd,rfl⟩ ?_;refine d8 rfl ?_;w_on;exact⟨m2,_,_,_,_,rfl,by omega⟩
 ·rintro A3 ⟨m,o4,o5,o6,o7,rfl,hm⟩;w_on;refine ao .ai ⟨T,Pp,_,rfl,rfl,a9,iH.bk,fb.symm⟩ ?_;w_on
theorem Y9 {K:Frag}{h:Heap}{mg:bU}{n:Str}{st:Stmt}{f:Addr}{od an:Option Addr}{sl:Array (Option Value)}{oc kV dc pm cd ct:Value}(X:K.In h)(G:h.Ns mainGlobals mg)(a:PySem.W.nsIn K mainGlobals n=some (some (.ref f)))
  (l:K.lookup f=some ⟨oc,od,.func (PySem.W.fnOf n n (jm st) (fg st) (aT st) .none kV dc pm an cd ct),sl⟩)(c:PySem.W.codeIn K cd n=true)(k:PySem.W.keepIn K (.ref f)=true):Df K mg n st:=⟨_,_,Nq (st:=st) l c k,PySem.W.mg_of X G a⟩
noncomputable def Kd (o:Obj):Bool:=match o.cls with
 | .type c=>if c="tuple" then (match o.data with
  | .seq its _=>(match its.toList with
   |[]=>true
   |.str x _::_=>!(["a","","b","aa"]:ay).contains x
   | _=>false)
  | _=>true) else true
 |_=>true
theorem Ke:∀{K:Frag}{a:Addr}{o:Obj},K.lookup a=some o->(a,o)∈K
 |[],_,_,h=>nomatch h
 |(b,u)::K,a,o,h=>by
  rw[lookup_cons] at h
  cases e:(a==b) with
  |true=>
   rw[e] at h;cases h;rw[show a=b by simpa using e];exact mem_cons_self
  |false=>
   rw[e] at h;exact mem_cons_of_mem _ (Ke h)
theorem Y_ {K:Frag}(h:(K.all λkv=>Kd kv.2)=true):NK K:=λa o its n h1 h2 h3=>by
 have q:=all_eq_true.mp h (a,o) (Ke h1);unfold Kd at q;rw[h2,h3] at q;simp only[if_true] at q
 split at q
 ·rename_i e;exact .inl e
 ·rename_i x t r e;exact .inr ⟨x,t,r,e,by simpa using q⟩
 ·cases q
theorem all_mk {l:PySem.W.OpenLaw}{w:World}{K:Frag}{h:Heap}{mg:bU}{fa:Addr}(X:K.In h)(G:h.Ns mainGlobals mg)(Y':mg "law"=some (.ref fa))
  (Za:Df K mg "is_whole" wC)
  (Zb:Df K mg "is_text" wD)
  (Zc:Df K mg "is_kind" wF)
  (Zd:Df K mg "is_of" wG)
  (Ze:Df K mg "named_among" wH)
  (Zf:Df K mg "column_names" wI)
  (Zg:Df K mg "table_named" wJ)
  (Zh:Df K mg "fits" wK)
  (Zi:Df K mg "values_at" wL)
  (Zj:Df K mg "places_of" wM)
  (Zk:Df K mg "kind_break" wN)
  (Zl:Df K mg "key_break" wO)
  (Zm:Df K mg "keys_break" wQ)
  (Zn:Df K mg "point_break" wR)
  (Zo:Df K mg "first_break" wU)
  (Zp:Df K mg "counts_of" wV)
  (Zq:Df K mg "_law_begin" wW)
  (Zr:Df K mg "_law_digit" wX)
  (Zs:Df K mg "_law_mixed" wY)
  (Zt:Df K mg "_law_take" wZ)
  (Zu:Df K mg "_law_word" w9)
  (Zw:Df K mg "_law_table" w_)
  (Zx:Df K mg "_law_matched" xa)
  (Zy:Df K mg "_law_points" xb)
  (Zz:Df K mg "_law_frame" xc)
  (ZA:Df K mg "_law_value" xf)
  (ZC:Df K mg "_law_spots" xg)
  (ZD:Df K mg "_law_named" xh)
  (ZE:Df K mg "_law_pointed" xi)
  (ZF:Df K mg "_law_without" xj)
  (ZG:Df K mg "_law_book" xk)
  (ZH:Df K mg "_law_fits" xl)
  (ZI:Df K mg "_law_kind_break" xm)
  (ZJ:Df K mg "_law_key_break" xn)
  (ZK:Df K mg "_law_point_break" xo)
  (ZL:Df K mg "_law_due" xp)
  (ZM:Df K mg "_law_other_row" xq)
  (ZN:Df K mg "_law_changed" xr)
  (ZO:Df K mg "_law_told" xt)
  (ZP:Df K mg "law" mE)
  {AE:Addr}{ZQ:Option Addr}{Kf:Nat}{ZR:Array (Option Value)}{Kg Kh:Tok}(AF:PySem.W.nsIn K mainGlobals "KINDS"=some (some (.ref AE)))(AH:K.lookup AE=some ⟨.type "tuple",ZQ,.seq #[.str "number" Kg,.str "text" Kh] Kf,ZR⟩)(nk:NK K)(sm:lG K)
  (z1:PySem.W.nsIn K mainGlobals "abs"=some none)(z2:PySem.W.nsIn K mainGlobals "all"=some none)(z3:PySem.W.nsIn K mainGlobals "any"=some none)(z4:PySem.W.nsIn K mainGlobals "bool"=some none)(z5:PySem.W.nsIn K mainGlobals "dict"=some none)(z6:PySem.W.nsIn K mainGlobals "enumerate"=some none)(z7:PySem.W.nsIn K mainGlobals "int"=some none)(z8:PySem.W.nsIn K mainGlobals "isinstance"=some none)(z9:PySem.W.nsIn K mainGlobals "len"=some none)(ZS:PySem.W.nsIn K mainGlobals "list"=some none)(ZT:PySem.W.nsIn K mainGlobals "range"=some none)(ZU:PySem.W.nsIn K mainGlobals "repr"=some none)(ZV:PySem.W.nsIn K mainGlobals "str"=some none)(ZW:PySem.W.nsIn K mainGlobals "sum"=some none)(ZX:PySem.W.nsIn K mainGlobals "tuple"=some none)(ZY:PySem.W.nsIn K mainGlobals "zip"=some none) :
  ∃ fd:FuncData,(∀(s:Shared)(v:Value),BindsTo s fd ⟨[v],[]⟩ [("_law_script",v)])/\∀ base:Heap,K.In base->base.Ns mainGlobals mg->cU l.prog w K mg base c_ 6 fa fd ["_law_script"] (vh K):=by
 have B:Bt mg:=⟨PySem.W.mg_none_of X G z1,PySem.W.mg_none_of X G z2,PySem.W.mg_none_of X G z3,PySem.W.mg_none_of X G z4,PySem.W.mg_none_of X G z5,PySem.W.mg_none_of X G z6,PySem.W.mg_none_of X G z7,PySem.W.mg_none_of X G z8,PySem.W.mg_none_of X G z9,PySem.W.mg_none_of X G ZS,PySem.W.mg_none_of X G ZT,PySem.W.mg_none_of X G ZU,PySem.W.mg_none_of X G ZV,PySem.W.mg_none_of X G ZW,PySem.W.mg_none_of X G ZX,PySem.W.mg_none_of X G ZY⟩;have uK:Gc K mg "KINDS" (.tup [.str "number",.str "text"]):=⟨.ref AE,_,PySem.W.mg_of X G AF,rfl,λN H=>RV.tup (vs:=[V.str "number",V.str "text"]) (.inr ⟨_,_,Kf,AH,rfl,rfl,(by show 2<=sizeLine;decide),(.cons ⟨Kg,rfl⟩ (.cons ⟨Kh,rfl⟩ .nil))⟩) (.cons (.str _) (.cons (.str _) .nil))⟩;obtain⟨fl,fld,Fl,ml⟩:=ZP;have e:=Y'.symm.trans ml;cases e;refine⟨fld,?_,λbase Kb Gb=>?_⟩
 ·obtain⟨_,_,_,_,_,_,_,_,_,rfl,_⟩:=Fl.ex;exact λs u=>.of_eq rfl
 obtain⟨ycI,ycF,AI,ZZ⟩:=Zr;have Z0:=AI.binds (ps:=["_law_state","_law_most"]) (λ_ _ _ _ _ _=>dj λ_ _=>rfl);obtain⟨ycJ,ycG,AJ,Z1⟩:=Zs;have Z2:=AJ.binds (ps:=["_law_state","_law_most"]) (λ_ _ _ _ _ _=>dj λ_ _=>rfl);obtain⟨Ki,ycK,bM,Kj⟩:=Zt;have Kk:=bM.binds (ps:=["_law_state","_law_most"]) (λ_ _ _ _ _ _=>dj λ_ _=>rfl);obtain⟨ycL,ycH,AK,Z3⟩:=Zq;have Z4:=AK.binds (ps:=["_law_script"]) (λ_ _ _ _ _ _=>mC λ_=>rfl);have GT:cU l.prog w K mg base c_ 2 Ki _ ["_law_state","_law_most"] (k7 K):=Om bM (Oi AI B) Z0 AI.kp ZZ (Oj AJ B) Z2 AJ.kp Z1;have Z5:Tk l.prog w K mg base Ki _:=⟨GT,Kk,bM.kp,Kj⟩;have Z6:Kn l.prog w K mg base 3 "_law_begin" (xB K):=⟨_,_,_,OV AK B Z5,Z4,AK.kp,Z3⟩;have kJ:Kn l.prog w K mg base 2 "_law_take" (spS K false (c7 g6)):=⟨_,_,_,GT.imp (λvs H Q E h=>by obtain⟨B,xs,st,P,q1,q2,q3,q4,q5,q6,q7⟩:=h;exact QN ⟨B,xs,st,P,q1,q2,q3,q4,q5,take2 q6,q7⟩),Kk,bM.kp,Kj⟩;have Z7:=WJ (P:=l.prog) (w:=w) (base:=base) (k:=0) Zu B;have Z8:=WM (P:=l.prog) (w:=w) (base:=base) (k:=2) Zw B (bM:=kJ.mono (by decide)) (zL:=Z7.mono (by decide));have Z9:=WW (P:=l.prog) (w:=w) (base:=base) (k:=2) Zx B (bM:=kJ.mono (by decide));have Z_:=W2 (P:=l.prog) (w:=w) (base:=base) (k:=3) Zy B (HD:=Z9.mono (by decide)) (bM:=kJ.mono (by decide));have Z':=W9 (P:=l.prog) (w:=w) (base:=base) (k:=4) Zz B (HM:=Z8.mono (by decide)) (HN:=Z_.mono (by decide)) (bM:=kJ.mono (by decide));have vp:=XQ (P:=l.prog) (w:=w) (base:=base) (k:=0) ZC B;have AL:=XS (P:=l.prog) (w:=w) (base:=base) (k:=0) ZD B;have ybI:=Yu (P:=l.prog) (w:=w) (base:=base) (k:=2) ZE B (fZ:=vp.mono (by decide)) (ja:=AL.mono (by decide)) (bM:=kJ.mono (by decide));have ybJ:=YD (P:=l.prog) (w:=w) (base:=base) (k:=1) ZF B (fZ:=vp.mono (by decide)) (ja:=AL.mono (by decide));have yco:=Yl (P:=l.prog) (w:=w) (base:=base) (k:=2) ZA B (bM:=kJ.mono (by decide));have ycz:=YL (P:=l.prog) (w:=w) (base:=base) (k:=3) ZG B (JD:=ybI.mono (by decide)) (JE:=ybJ.mono (by decide)) (bM:=kJ.mono (by decide)) (JF:=yco.mono (by decide));have aac:=Xf (P:=l.prog) (w:=w) (base:=base) (k:=0) Zb B;have aad:=Xh (P:=l.prog) (w:=w) (base:=base) (k:=0) Zc B (uK:=uK);have aae:=Xd (P:=l.prog) (w:=w) (base:=base) (k:=0) Za B;have aaf:=Xj (P:=l.prog) (w:=w) (base:=base) (k:=1) Zd B (H_:=aac.mono (by decide)) (Ia:=aad.mono (by decide)) (Ib:=aae.mono (by decide));have aag:=Xq (P:=l.prog) (w:=w) (base:=base) (k:=2) Zh B (Il:=aaf.mono (by decide));have aah:=Xv (P:=l.prog) (w:=w) (base:=base) (k:=3) Zk B (Iq:=aag.mono (by decide));have aai:=Xm (P:=l.prog) (w:=w) (base:=base) (k:=0) Zf B;have Kl:=Xu (P:=l.prog) (w:=w) (base:=base) (k:=1) Zj B (Io:=aai.mono (by decide));have Km:=Xs (P:=l.prog) (w:=w) (base:=base) (k:=0) Zi B;have aaj:=XH (P:=l.prog) (w:=w) (base:=base) (k:=2) Zl B (nk:=nk) (oY:=Kl.mono (by decide)) (oZ:=Km.mono (by decide));have aak:=Xy (P:=l.prog) (w:=w) (base:=base) (k:=3) Zm B (Iv:=aaj.mono (by decide));have aal:=Xk (P:=l.prog) (w:=w) (base:=base) (k:=0) Ze B;have aam:=Xo (P:=l.prog) (w:=w) (base:=base) (k:=1) Zg B (Ii:=aal.mono (by decide));have aan:=XM (P:=l.prog) (w:=w) (base:=base) (k:=2) Zn B (nk:=nk) (oY:=Kl.mono (by decide)) (Ac:=aam.mono (by decide)) (oZ:=Km.mono (by decide));have aao:=XC (P:=l.prog) (w:=w) (base:=base) (k:=4) Zo B (IC:=aah.mono (by decide)) (ID:=aak.mono (by decide)) (IE:=aan.mono (by decide));have ybw:=Yn (P:=l.prog) (w:=w) (base:=base) (k:=2) ZM B (bM:=kJ.mono (by decide));have ybK:=Y0 (P:=l.prog) (w:=w) (base:=base) (k:=3) ZN B (bM:=kJ.mono (by decide)) (JU:=ybw.mono (by decide));have aap:=XX (P:=l.prog) (w:=w) (base:=base) (k:=0) Zp B;have ycA:=Yj (P:=l.prog) (w:=w) (base:=base) (k:=0) ZO B;have ycB:=XU (P:=l.prog) (w:=w) (base:=base) (k:=0) ZH B;have ybj:=XZ (P:=l.prog) (w:=w) (base:=base) (k:=1) ZI B (IV:=ycB.mono (by decide));have ybx:=X3 (P:=l.prog) (w:=w) (base:=base) (k:=1) ZJ B (fZ:=vp.mono (by decide));have ybg:=X6 (P:=l.prog) (w:=w) (base:=base) (k:=1) ZK B (fZ:=vp.mono (by decide)) (ja:=AL.mono (by decide));have ycE:=X9 (P:=l.prog) (w:=w) (base:=base) (k:=2) ZL B (Jd:=ybj.mono (by decide)) (Je:=ybx.mono (by decide)) (Jf:=ybg.mono (by decide));exact Y7 (k:=5) Fl B (Z6.mono (by decide)) (sm:=sm) (J0:=Z'.mono (by decide)) (J1:=ycz.mono (by decide)) (vm:=aao.mono (by decide)) (J2:=ybK.mono (by decide)) (J_:=aap.mono (by decide)) (J':=ycA.mono (by decide)) (Ka:=ycE.mono (by decide))
theorem walk {l:PySem.W.OpenLaw}{q:Program}{loose:ay}{XP:(bU)->Heap->Prop}{YP:World->Heap->Prop}{d:DefRec}{K:Params->Frag}(hn:l.most=some 63)(pW:d.params.defaults=[])
  (hY:∀(w:World)(h:Heap),YP w h->(K w.params).In h)
  (F:∀(w:World)(mg:bU)(fa:Addr)(h:Heap),(K w.params).In h->h.Ns mainGlobals mg->mg d.name=some (.ref fa) ->
   ∃ fd:FuncData,(∀(s:Shared)(u:Value),BindsTo s fd ⟨[u],[]⟩ [("_law_script",u)])/\∀ base:Heap,(K w.params).In base->base.Ns mainGlobals mg->cU l.prog w (K w.params) mg base c_ 6 fa fd ["_law_script"] (vh (K w.params))) :
  PySem.W.WalkO q loose XP YP l.row.toRowW d [] (λf vs=>PySem.call f vs):=
 L2.Np (n:=63) (k:=6) (x:="_law_script") (CX:=λ_=>c_) (sp:=λw=>vh (K w.params)) hn (by decide) pW ⟨rfl,by decide,by decide,rfl⟩ hY F (λ_ _ a ns hl hO hS=>⟨a,ns,rfl,hO,hS,hl,λ_=>rfl⟩) λ_ _ _ _ _ z=>z
end b0
open PySem PySem.W PyProof.Rows
set_option maxRecDepth 100000 in
set_option maxHeartbeats 0 in
theorem PySem.Challenge.cw_everyplan_k04_first_breaks_holds : PySem.Challenge.rw_everyplan_k04_first_breaks.Holds := by
 refine holds_law b0.Ov λaaq=>?_
 refine holds_open (r:=PySem.Challenge.rw_everyplan_k04_first_breaks.row) (q:=b0.k8) (loose:=[]) (Xt:=λs=>xlAt b0.k8 [] s&&recOk [] s) (XP:=XL b0.k8 []) (Yf:=Hook.obs (kHook b0.p9 b0.p_ b0.sH)) (Ya:=Hook.val (kHook b0.p9 b0.p_ b0.sH)) (YP:=Hook.says (kHook b0.p9 b0.p_ b0.sH)) (N:=1330)
  (d:={ name:="law",params:=L2.jm b0.mE,body:=L2.fg b0.mE,scope:=L2.aT b0.mE,pos:=b0.mE.pos }) (kwd:=[])
  b0.OT (Hook.of _) (Hook.keeps _) (λs e=>xl_of s (Bool.and_eq_true_iff.mp e).1) XL.keeps (by kernel_rfl) (by kernel_rfl) (by kernel_rfl)
  (λs e=>recFacts_of (Bool.and_eq_true_iff.mp e).2) (by rfl) aaq (by kernel_rfl) ⟨rfl,rfl,rfl,rfl,rfl,by decide +kernel⟩ ?hw ?hc
 case hw=>w_witness2
 k_fill
 refine b0.walk (l:=PySem.Challenge.rw_everyplan_k04_first_breaks) rfl rfl (λw h Y=>PySem.W.kIn_of Y) ?F
 case F=>
  intro w mg fa h KX G pX;refine' b0.all_mk KX G pX ?_ ?_ ?_ ?_ ?_ ?_ ?_ ?_ ?_ ?_ ?_ ?_ ?_ ?_ ?_ ?_ ?_ ?_ ?_ ?_ ?_ ?_ ?_ ?_ ?_ ?_ ?_ ?_ ?_ ?_ ?_ ?_ ?_ ?_ ?_ ?_ ?_ ?_ ?_ ?_ ?AF ?AH (b0.Y_ (by kernel_rfl)) ⟨_,rfl⟩ ?_ ?_ ?_ ?_ ?_ ?_ ?_ ?_ ?_ ?_ ?_ ?_ ?_ ?_ ?_ ?_
  (case AF=>k_is)
  (case AH=>k_is)
  all_goals first|(apply b0.Y9 KX G;iterate 4 k_is)|k_is
