import PyProof.Rows.All
import Wide.All
import OpenK.AllK
import Wide.FinOn
import Lean
import PyProof.EqAt
import PyProof.EqKinds
import PyProof.TupleCall
import PyProof.NeKinds
import PyProof.NsDelKeeps
import KE.KTryMore
import PyProof.WalksMore
import PyProof.Rows.SetFrom
import KE.KEqDict
import PyProof.ToksMono
import PyProof.StrCalls6
import PyProof.StrBlock2
import PyProof.SliceStr2
import PyProof.StrLawsTight
import PyProof.InstStoreFacts
import PyProof.Rows.FStr
import PyProof.FactsAll.set
import KE.KDictLaws
import KE.KIntText
import PyProof.Rows.StrWeight2
import PyProof.StrWalks
import PyProof.StrBlockH
import PyProof.WalksEnum
import PyProof.ZipIter
import PyProof.EnumMake
import PyProof.FitsReplace
import PyProof.StrLawsIn
import PyProof.Rows.SortWalk
import PyProof.DictUpdate
import KE.KDictList
import KE.KDictSum
import KE.KPairComp
import PyProof.FactsAll.dict
import PySem.Challenge.RW_sidebook_k33_when_a_paper_stands
set_option Elab.async false
set_option linter.all false
set_option maxRecDepth 100000
def PySem.W.Fast.tw15568597346184163000:Nat:=0
def PySem.W.Fast.tw14469353726964862199:Nat:=0
def PySem.W.Fast.tw6421836712650205671:Nat:=0
def PySem.W.Fast.tw3346193993901675165:Nat:=0
def PySem.W.Fast.tw3722051077647373273:Nat:=0
def PySem.W.Fast.tw14841383337630649619:Nat:=0
def PySem.W.Fast.tw8642963797882919296:Nat:=0
def PySem.W.Fast.tw8265330177609423828:Nat:=0
def PySem.W.Fast.tw1499208652620343353:Nat:=0
def PySem.W.Fast.tw16825952551242946518:Nat:=0
def PySem.W.Fast.tw4257426816695053775:Nat:=0
def PySem.W.Fast.tw17531901831411435629:Nat:=0
def PySem.W.Fast.tw13493336974368884092:Nat:=0
def PySem.W.Fast.tw1312064739687726497:Nat:=0
def PySem.W.Fast.tw11298929793296232947:Nat:=0
namespace L2
open PySem PySem.Spec PyProof.Rows
abbrev Key:=Sum Int Str
def ygc:Key->Value->Bool
 | .inl k,v=>Value.isInt k v
 | .inr x,v=>Value.isStrOf x v
def yli(w:World):Key->Int
 | .inl k=>hashInt k
 | .inr x=>hashStr w x
theorem zel:∀ {k:Key} {v:Value},ygc k v=true->(∃ i t,k=Sum.inl i/\v=Value.int i t)\/(∃ x t,k=Sum.inr x/\v=Value.str x t)
 | .inl i,v,h=>by
  obtain⟨t,e⟩:=Value.isInt_shape (k:=i) (v:=v) h;exact .inl ⟨i,t,rfl,e⟩
 | .inr x,v,h=>by
  obtain⟨t,e⟩:=Value.isStrOf_shape (x:=x) (v:=v) h;exact .inr ⟨x,t,rfl,e⟩
theorem zie(i:Int)(t:Tok):ygc (.inl i) (.int i t)=true:=by simp[ygc,Value.isInt]
theorem zif(x:Str)(t:Tok):ygc (.inr x) (.str x t)=true:=by simp[ygc,Value.isStrOf]
theorem yak(a b:Int):decide ((Sum.inl a:Key)=Sum.inl b)=(a == b):=by
 by_cases e:a=b
 ·subst e;simp
 ·have h:¬ (Sum.inl a:Key)=Sum.inl b:=fun q=>e (Sum.inl.inj q);rw[decide_eq_false h];exact(beq_eq_false_iff_ne.mpr e).symm
theorem yao(a b:Str):decide ((Sum.inr a:Key)=Sum.inr b)=decide (a=b):=by
 by_cases e:a=b
 ·subst e;simp
 ·have h:¬ (Sum.inr a:Key)=Sum.inr b:=fun q=>e (Sum.inr.inj q);rw[decide_eq_false h,decide_eq_false e]
theorem yal(a:Int)(b:Str):decide ((Sum.inl a:Key)=Sum.inr b)=false:=decide_eq_false (fun q=>nomatch q)
theorem yan(a:Str)(b:Int):decide ((Sum.inr a:Key)=Sum.inl b)=false:=decide_eq_false (fun q=>nomatch q)
def ztq(prog:Program)(w:World):PySem.KeyKind prog w Key where
 is:=ygc
 hash:=yli w
 inj:=fun v a b ha hb=>by
  rcases zel ha with⟨i,t,rfl,rfl⟩|⟨x,t,rfl,rfl⟩
  ·rcases zel hb with⟨j,u,rfl,e⟩|⟨y,u,rfl,e⟩
   ·injection e with e1 _;rw[e1]
   ·exact nomatch e
  ·rcases zel hb with⟨j,u,rfl,e⟩|⟨y,u,rfl,e⟩
   ·exact nomatch e
   ·injection e with e1 _;rw[e1]
 byValue:=fun k v h=>by
  rcases zel h with⟨i,t,rfl,rfl⟩|⟨x,t,rfl,rfl⟩<;>rfl
 pyHash:=fun hv h=>by
  rcases zel hv with⟨i,t,rfl,rfl⟩|⟨x,t,rfl,rfl⟩
  ·exact wpAny_pyHash_int h
  ·exact wpAny_pyHash_str h
 eqBool:=fun hu hv h=>by
  rcases zel hu with⟨i,t,rfl,rfl⟩|⟨x,t,rfl,rfl⟩
  ·rcases zel hv with⟨j,u,rfl,rfl⟩|⟨y,u,rfl,rfl⟩
   ·rw[yak]at h;exact wpAny_eqBool_int h
   ·rw[yal]at h;exact SeqAt.EqAt.int_str i t y u _ _ _ _ h
  ·rcases zel hv with⟨j,u,rfl,rfl⟩|⟨y,u,rfl,rfl⟩
   ·rw[yan]at h;exact SeqAt.EqAt.str_int x t j u _ _ _ _ h
   ·rw[yao]at h;exact wpAny_eqBool_str h
 «strs»:=fun k x t v h=>by
  rcases zel h with⟨i,u,rfl,e⟩|⟨y,u,rfl,e⟩
  ·exact nomatch e
  ·injection e with e1 _;subst e1;cases v<;>rfl
theorem zf4(prog:Program)(w:World)(k:Key)(v:Value):(ztq prog w).is k v=ygc k v:=rfl
theorem zep(prog:Program)(w:World)(i:Int)(t:Tok):(ztq prog w).is (.inl i) (.int i t)=true:=zie i t
theorem zeq(prog:Program)(w:World)(x:Str)(t:Tok):(ztq prog w).is (.inr x) (.str x t)=true:=zif x t
end L2
namespace L2
open PySem PySem.Spec PyProof.Rows
inductive V where
 |non|bl (b:Bool)|int (i:Int)|str (x:Str)|byt (b:Array UInt8)|flt (b:UInt64)|ref (a:Addr)|ty (n:String)
 deriving DecidableEq
def yjs:V->Value->Prop
 | .non,u=>u=Value.none
 | .bl b,u=>u=Value.bool b
 | .int i,u=>∃ t,u=Value.int i t
 | .str x,u=>∃ t,u=Value.str x t
 | .byt b,u=>∃ t,u=Value.bytes b t
 | .flt b,u=>∃ t,u=Value.float b t
 | .ref a,u=>u=Value.ref a
 | .ty n,u=>u=Value.type n
abbrev yj1:List V->List Value->Prop:=Paired yjs
theorem yj1.length{xs:List V}{us:List Value}(r:yj1 xs us):xs.length=us.length:=Paired.length r
theorem yj1.get:∀ {xs:List V} {us:List Value} {i:Nat} {x:V},yj1 xs us->xs[i]?=some x->∃ u,us[i]?=some u/\yjs x u
 |_,_,_,_,.nil,e=>by simp at e
 |_,_,0,_,.cons r _,e=>by simp at e;subst e;exact⟨_,rfl,r⟩
 |_,_,i+1,x,.cons _ t,e=>by
  obtain⟨u,h1,h2⟩:=yj1.get (i:=i) (x:=x) t (by simpa using e);exact⟨u,by simpa using h1,h2⟩
theorem yj1.set{x:V}{u:Value}(r:yjs x u):∀ {xs:List V} {us:List Value} (i:Nat),yj1 xs us->yj1 (xs.set i x) (us.set i u)
 |_,_,_,.nil=>.nil
 |_,_,0,.cons _ t=>.cons r t
 |_,_,i+1,.cons q t=>.cons q (yj1.set r i t)
theorem yj1.append:∀ {xs ys:List V} {us ws:List Value},yj1 xs us->yj1 ys ws->yj1 (xs++ys) (us++ws)
 |_,_,_,_,.nil,s=>s
 |_,_,_,_,.cons r t,s=>.cons r (yj1.append t s)
theorem yj1.take:∀ {xs:List V} {us:List Value} (n:Nat),yj1 xs us->yj1 (xs.take n) (us.take n)
 |_,_,0,_=>.nil
 |_,_,_+1,.nil=>.nil
 |_,_,n+1,.cons r t=>.cons r (yj1.take n t)
theorem yj1.drop:∀ {xs:List V} {us:List Value} (n:Nat),yj1 xs us->yj1 (xs.drop n) (us.drop n)
 |_,_,0,r=>r
 |_,_,_+1,.nil=>.nil
 |_,_,n+1,.cons _ t=>yj1.drop n t
def yjr:Option V->Option Value->Prop
 |some v,some u=>yjs v u
 |none,none=>True
 |_,_=>False
def KV{κ:Type}:List (κ × V)->List (κ × Value)->Prop:=Paired fun(p:κ × V) (q:κ × Value)=>p.1=q.1/\yjs p.2 q.2
def kV:Key->V
 | .inl i=>.int i
 | .inr x=>.str x
inductive HO where
 |lst (xs:List V)
 |tup (xs:List V)
 |dK (kvs:List (Key × V))|dT (kvs:List (List Key × V))
 |set (S:Int->Bool) (n:Nat)
 |ins (C dx:Addr) (fs:List (Str × V))
 |own (x:Addr)
 |xd (fs:List (Str × V))
 |met (f x:Addr)
 |rng (lo hi:Int)
 |frz (o:Obj) (u:HO)
 |tbl (ps:Array Value)
 |ext (φ:Heap->Prop)
abbrev Hp:=Addr->Option HO
def upd(H:Hp)(a:Addr)(o:HO):Hp:=fun b=>if b=a then some o else H b
theorem zpn{H:Hp}{a:Addr}{o:HO}:upd H a o a=some o:=by unfold upd;rw[if_pos rfl]
theorem ydx{H:Hp}{a b:Addr}{o:HO}(h:b≠a):upd H a o b=H b:=by unfold upd;rw[if_neg h]
theorem ygu{H:Hp}{a b:Addr}{o u:HO}(h:H a=some o)(h':H b=some u)(d:o≠u):a≠b:=by
 intro e;subst e;rw[h]at h';exact d (Option.some.inj h')
theorem zf5{H:Hp}{a b:Addr}{o:HO}(h:H a=some o)(h':H b=none):a≠b:=by
 intro e;subst e;rw[h]at h';cases h'
section
variable(P:Program)(w:World)
def yd7(H:Hp)(h:Heap)(a:Addr):HO->Prop
 | .lst xs=>xs.length<=sizeLine/\∃ (its:List Value) (n:Nat),yj1 xs its/\h.get? a=some { cls:=.type "list",data:=.seq its.toArray n }
 | .tup xs=>xs.length<=sizeLine/\∃ its:List Value,yj1 xs its/\IsTup h a its.toArray
 | .dK kvs=>kvs.length<=sizeLine/\(a == sysModules)=false/\∃ vs,KV kvs vs/\h.DictOf (ztq P w) a vs
 | .dT kvs=>kvs.length<=sizeLine/\(a == sysModules)=false/\∃ xs:List (List Key × Addr × Value),
   Paired (fun(p:List Key × V) (q:List Key × Addr × Value)=>p.1=q.1/\H q.2.1=some (.tup (p.1.map kV))/\yjs p.2 q.2.2) kvs xs/\
   ∃ o es ep,h.get? a=some o/\o.ExactDict/\o.data=.dict es ep/\es.toList=xs.map (entryOfKey (tupleKind (ztq P w)))/\(xs.map (·.1)).Nodup
 | .set S n=>h.SetOf (intKind P w) a S n
 | .ins C dx fs=>H dx=some (.own a)/\fs.length<=1000/\dx≠a/\h.get? a=some (PySem.W.instObj C dx)/\
   ∃ mA,h.Ns1 dx mA/\(∀ f,yjr (fs.lookup f) (mA f))/\PySem.Within mA (fs.map (·.1))
 | .own _=>∃ o,h.get? a=some o
 | .xd fs=>∃ mA,h.Ns1 a mA/\∀ f,yjr (fs.lookup f) (mA f)
 | .rng lo hi=>∃ t u v,h.get? a=some { cls:=.type "range",data:=.fields #[.int lo t,.int hi u,.int 1 v] }
 | .frz o u=>h.get? a=some o/\yd7 H h a u
 | .tbl ps=>h.get? a=some { cls:=.none,data:=.fields ps }
 | .met f x=>h.get? a=some (PySem.W.methodObj (.ref f) (.ref x))
 | .ext φ=>φ h/\(∃ o,h.get? a=some o)/\∀ h1 h2:Heap,φ h1->(∀ o,h1.get? a=some o->h2.get? a=some o)->φ h2
def HOk(H:Hp)(h:Heap):Prop:=∀ a o,H a=some o->yd7 P w H h a o
end
section
variable{P:Program}{w:World}{H H':Hp}{h h':Heap}{a:Addr}{o:HO}
theorem yd7.lt(x:yd7 P w H h a o):a<h.objs.size:=by
 cases o with
 |lst xs=>obtain⟨_,_,_,_,e⟩:=x;exact Heap.lt_size e
 |tup xs=>obtain⟨_,_,_,p⟩:=x;exact p.lt
 |dK kvs=>obtain⟨_,_,_,_,o,_,_,e,_⟩:=x;exact Heap.lt_size e
 |dT kvs=>obtain⟨_,_,_,_,o,_,_,e,_⟩:=x;exact Heap.lt_size e
 |set S n=>obtain⟨o,_,_,_,e,_⟩:=x;exact Heap.lt_size e
 |ins C dx fs=>obtain⟨_,_,_,e,_⟩:=x;exact Heap.lt_size e
 |own y=>obtain⟨_,e⟩:=x;exact Heap.lt_size e
 |xd fs=>obtain⟨_,⟨_,_,_,e,_⟩,_⟩:=x;exact Heap.lt_size e
 |rng lo hi=>obtain⟨_,_,_,e⟩:=x;exact Heap.lt_size e
 |frz ob u=>obtain⟨e,_⟩:=x;exact Heap.lt_size e
 |tbl ps=>exact Heap.lt_size (show h.get? a=some _ from x)
 |met f y=>exact Heap.lt_size (show h.get? a=some _ from x)
 |ext φ=>obtain⟨_,⟨_,e⟩,_⟩:=x;exact Heap.lt_size e
theorem Paired.mapP{α β:Type}{F G:α->β->Prop}:∀ {l₁:List α} {l₂:List β},Paired F l₁ l₂->(∀ a b,F a b->G a b)->Paired G l₁ l₂
 |_,_,.nil,_=>.nil
 |_,_,.cons r t,f=>.cons (f _ _ r) (Paired.mapP t f)
theorem yd7.stay(x:yd7 P w H h a o)(k:∀ b u,(b=a\/H b=some (.own a))->h.get? b=some u->h'.get? b=some u)
  (ho:∀ b,H b=some (.own a)->H' b=some (.own a)) (ht:∀ b xs,H b=some (.tup xs)->H' b=some (.tup xs)):yd7 P w H' h' a o:=by
 induction o with
 |lst xs=>obtain⟨z,its,n,r,e⟩:=x;exact⟨z,its,n,r,k _ _ (.inl rfl) e⟩
 |tup xs=>obtain⟨z,its,r,ob,e,c⟩:=x;exact⟨z,its,r,ob,k _ _ (.inl rfl) e,c⟩
 |dK kvs=>obtain⟨z,y,vs,r,ob,es,ep,e,c⟩:=x;exact⟨z,y,vs,r,ob,es,ep,k _ _ (.inl rfl) e,c⟩
 |dT kvs=>
  obtain⟨z,y,xs,r,ob,es,ep,e,c⟩:=x;exact⟨z,y,xs,Paired.mapP r fun p q z=>⟨z.1,ht _ _ z.2.1,z.2.2⟩,ob,es,ep,k _ _ (.inl rfl) e,c⟩
 |set S n=>obtain⟨ob,es,ep,t,e,c⟩:=x;exact⟨ob,es,ep,t,k _ _ (.inl rfl) e,c⟩
 |ins C dx fs=>
  obtain⟨d,z,ne,e,mA,⟨od,es,ep,e2,c⟩,r⟩:=x;exact⟨ho _ d,z,ne,k _ _ (.inl rfl) e,mA,⟨od,es,ep,k _ _ (.inr d) e2,c⟩,r⟩
 |own y=>obtain⟨ob,e⟩:=x;exact⟨ob,k _ _ (.inl rfl) e⟩
 |xd fs=>obtain⟨mA,⟨od,es,ep,e,c⟩,r⟩:=x;exact⟨mA,⟨od,es,ep,k _ _ (.inl rfl) e,c⟩,r⟩
 |rng lo hi=>obtain⟨t,u,v,e⟩:=x;exact⟨t,u,v,k _ _ (.inl rfl) e⟩
 |frz ob u ih=>obtain⟨e,q⟩:=x;exact⟨k _ _ (.inl rfl) e,ih q⟩
 |tbl ps=>
  have e:h.get? a=some { cls:=.none,data:=.fields ps }:=x;show h'.get? a=some { cls:=.none,data:=.fields ps };exact k a _ (.inl rfl) e
 |met f y=>
  have e:h.get? a=some (PySem.W.methodObj (.ref f) (.ref y)):=x;show h'.get? a=some (PySem.W.methodObj (.ref f) (.ref y));exact k a _ (.inl rfl) e
 |ext φ=>obtain⟨p,⟨o,e⟩,st⟩:=x;exact⟨st _ _ p fun o q=>k _ _ (.inl rfl) q,⟨o,k _ _ (.inl rfl) e⟩,st⟩
theorem HOk.lt(x:HOk P w H h)(e:H a=some o):a<h.objs.size:=(x a o e).lt
theorem HOk.fresh(x:HOk P w H h)(e:h.objs.size<=a):H a=none:=by
 cases q:H a with
 |none=>rfl
 |some u=>exact absurd (Nat.lt_of_lt_of_le (x.lt q) e) (Nat.lt_irrefl _)
theorem HOk.kept(x:HOk P w H h)(k:∀ b u,h.get? b=some u->h'.get? b=some u):HOk P w H h':=fun a o e=>
 (x a o e).stay (fun b u _ q=>k b u q) (fun _ q=>q) fun _ _ q=>q
theorem HOk.laid(x:HOk P w H h)(k:∀ b u,h.get? b=some u->h'.get? b=some u)(hp:h.objs.size<=a)(new:yd7 P w (upd H a o) h' a o):HOk P w (upd H a o) h':=fun b u e=>by
 have hn:=x.fresh hp;by_cases hb:b=a
 ·subst hb;rw[zpn]at e;cases e;exact new
 ·rw[ydx hb]at e;exact(x b u e).stay (fun c v _ q=>k c v q) (fun c q=>by rw[ydx (zf5 q hn)];exact q) fun c xs q=>by rw[ydx (zf5 q hn)];exact q
end
def Rd(H:Hp)(a:Addr)(u:HO):Prop:=H a=some u\/∃ o,H a=some (.frz o u)
theorem Rd.of{H:Hp}{a:Addr}{u:HO}(h:H a=some u):Rd H a u:=.inl h
theorem Rd.ok{P:Program}{w:World}{H:Hp}{h:Heap}{a:Addr}{u:HO}(r:Rd H a u)(x:HOk P w H h):yd7 P w H h a u:=by
 rcases r with r|⟨o,r⟩
 ·exact x a u r
 ·obtain⟨_,q⟩:=x a _ r;exact q
def Mut:Option HO->Prop
 |some (.lst _)=>True
 |some (.dK _)=>True
 |some (.dT _)=>True
 |some (.set _ _)=>True
 |some (.ins _ _ _)=>True
 |some (.ext _)=>True
 |_=>False
section
variable{P:Program}{w:World}{H:Hp}{h h':Heap}{x e:Addr}{o':HO}
theorem HOk.write(ok:HOk P w H h)(mu:Mut (H x))(he:e=x\/H e=some (.own x))(k:∀ b u,b≠e->h.get? b=some u->h'.get? b=some u)(heo:∃ u,h'.get? e=some u)
  (new:yd7 P w (upd H x o') h' x o'):HOk P w (upd H x o') h':=fun b u q=>by
 have nown:∀ c y,H c=some (.own y)->c≠x:=fun c y r z=>by subst z;rw[r]at mu;exact mu
 have ntup:∀ c xs,H c=some (.tup xs)->c≠x:=fun c xs r z=>by subst z;rw[r]at mu;exact mu
 by_cases hb:b=x
 ·subst hb;rw[zpn]at q;cases q;exact new
 ·rw[ydx hb]at q;by_cases hbe:b=e
  ·have q':H b=some (.own x):=by
    rcases he with z|z
    ·exact absurd (hbe.trans z) hb
    ·rw[hbe];exact z
   rw[q]at q';cases q';obtain⟨v,hv⟩:=heo;exact⟨v,by rw[hbe];exact hv⟩
  ·refine(ok b u q).stay (fun c v hc r=>k c v ?_ r) (fun c r=>by rw[ydx (nown c b r)];exact r) fun c xs r=>by rw[ydx (ntup c xs r)];exact r
   rcases hc with rfl|hc
   ·exact hbe
   ·rintro rfl;rcases he with z|z
    ·exact nown c b hc z
    ·rw[hc]at z;cases z;exact hb rfl
end
structure Un(fs ex:List Addr)(H H':Hp)(h h':Heap):Prop where
 keep:∀ b o,h.get? b=some o->H b=none->b ∉ fs->b ∉ ex->h'.get? b=some o
 slot:∀ b o,h.get? b=some o->H b=none->b∈fs->b ∉ ex->∃ sl,h'.get? b=some { o with slots:=sl }
 free:∀ b o,h.get? b=some o->H b=none->b ∉ ex->H' b=none
 there:∀ b o,h.get? b=some o->b ∉ ex->∃ o',h'.get? b=some o'
 tups:∀ b xs,H b=some (.tup xs)->H' b=some (.tup xs)
 frzs:∀ b o u,H b=some (.frz o u)->H' b=some (.frz o u)
 tbls:∀ b ps,H b=some (.tbl ps)->∃ more,H' b=some (.tbl (ps++more))
section
variable{fs fs' ex ex':List Addr}{H H1 H2:Hp}{h h1 h2 h':Heap}{a x e:Addr}{o:HO}
theorem Un.any(u:Un fs ex H H1 h h1){b:Addr}{ob:Obj}(q:h.get? b=some ob)(n:H b=none)(hx:b ∉ ex):∃ sl,h1.get? b=some { ob with slots:=sl }:=by
 by_cases hb:b∈fs
 ·exact u.slot b ob q n hb hx
 ·exact⟨ob.slots,u.keep b ob q n hb hx⟩
theorem Un.trans(a:Un fs ex H H1 h h1)(b:Un fs ex H1 H2 h1 h2):Un fs ex H H2 h h2 where
 keep:=fun c ob q n hc hx=>b.keep c ob (a.keep c ob q n hc hx) (a.free c ob q n hx) hc hx
 slot:=fun c ob q n hc hx=>by
  obtain⟨sl,e1⟩:=a.slot c ob q n hc hx;obtain⟨sl',e2⟩:=b.slot c _ e1 (a.free c ob q n hx) hc hx;exact⟨sl',e2⟩
 free:=fun c ob q n hx=>by
  obtain⟨o',e1⟩:=a.there c ob q hx;exact b.free c o' e1 (a.free c ob q n hx) hx
 there:=fun c ob q hx=>by
  obtain⟨o',e1⟩:=a.there c ob q hx;exact b.there c o' e1 hx
 tups:=fun c xs q=>b.tups c xs (a.tups c xs q)
 frzs:=fun c ob xs q=>b.frzs c ob xs (a.frzs c ob xs q)
 tbls:=fun c ps q=>by
  obtain⟨m1,e1⟩:=a.tbls c ps q;obtain⟨m2,e2⟩:=b.tbls c _ e1;exact⟨m1++m2,by rw[e2,Array.append_assoc]⟩
theorem Un.kept(k:∀ b u,h.get? b=some u->h'.get? b=some u):Un fs ex H H h h':=
 ⟨fun b ob q _ _ _=>k b ob q,fun b ob q _ _ _=>⟨ob.slots,k b ob q⟩,fun _ _ _ n _=>n,fun b ob q _=>⟨ob,k b ob q⟩,fun _ _ q=>q,fun _ _ _ q=>q,fun _ ps q=>⟨#[],by rw[q];simp⟩⟩
theorem Un.refl:Un fs ex H H h h:=Un.kept fun _ _ q=>q
theorem Un.laid(k:∀ b u,h.get? b=some u->h'.get? b=some u)(hp:h.objs.size<=a)(hn:H a=none):Un fs ex H (upd H a o) h h' where
 keep:=fun b u q _ _ _=>k b u q
 slot:=fun b u q _ _ _=>⟨u.slots,k b u q⟩
 free:=fun b u q n _=>by rw[ydx (Nat.ne_of_lt (Nat.lt_of_lt_of_le (Heap.lt_size q) hp))];exact n
 there:=fun b u q _=>⟨u,k b u q⟩
 tups:=fun b xs q=>by rw[ydx (zf5 q hn)];exact q
 frzs:=fun b u xs q=>by rw[ydx (zf5 q hn)];exact q
 tbls:=fun b ps q=>⟨#[],by rw[ydx (zf5 q hn),q];simp⟩
theorem Un.write(mu:Mut (H x))(he:e=x\/H e=some (.own x))(k:∀ b u,b≠e->h.get? b=some u->h'.get? b=some u)(heo:∃ u,h'.get? e=some u):Un fs ex H (upd H x o) h h':=by
 have hx:∀ b,H b=none->b≠x:=fun b n z=>by subst z;rw[n]at mu;exact mu
 have hb:∀ b,H b=none->b≠e:=fun b n z=>by
  subst z;rcases he with r|r
  ·exact hx b n r
  ·rw[n]at r;cases r
 have hm:∀ b u,H b=some u->¬ Mut (some u)->b≠x:=fun b u q nm z=>by subst z;rw[q]at mu;exact nm mu
 refine⟨fun b u q n _ _=>k b u (hb b n) q,fun b u q n _ _=>⟨u.slots,k b u (hb b n) q⟩,fun b u q n _=>by rw[ydx (hx b n)];exact n,fun b u q _=>?_,
  fun b xs q=>by rw[ydx (hm b _ q fun z=>z)];exact q,fun b u xs q=>by rw[ydx (hm b _ q fun z=>z)];exact q,fun b ps q=>⟨#[],by rw[ydx (hm b _ q fun z=>z),q];simp⟩⟩
 by_cases hbe:b=e
 ·subst hbe;exact heo
 ·exact⟨u,k b u hbe q⟩
theorem Un.mono(u:Un fs ex H H1 h h1)(hs:∀ b∈fs,b∈fs')(hx:∀ b∈ex,b∈ex'):Un fs' ex' H H1 h h1:=
 ⟨fun b ob q n hb he=>u.keep b ob q n (fun z=>hb (hs b z)) fun z=>he (hx b z),fun _ _ q n _ he=>u.any q n fun z=>he (hx _ z),fun b ob q n he=>u.free b ob q n fun z=>he (hx b z),fun b ob q he=>u.there b ob q fun z=>he (hx b z),u.tups,u.frzs,u.tbls⟩
end
def trk(h:Heap)(H:Hp):List Addr:=(List.range h.objs.size).filter fun a=>(H a).isSome
def yk9(h:Heap)(H:Hp):Heap:=PySem.W.hideAll h (trk h H)
theorem zh5(h:Heap)(H:Hp):(yk9 h H).objs.size=h.objs.size:=PySem.W.hideAll_size _ _
theorem zma{h:Heap}{H:Hp}{b:Addr}{o:Obj}(e:h.get? b=some o)(n:H b=none):(yk9 h H).get? b=some o:=
 PySem.W.hideAll_get _ e fun hm=>by
  have q:(H b).isSome=true:=(List.mem_filter.mp hm).2;rw[n]at q;simp at q
theorem zuj{h:Heap}{H:Hp}{b:Addr}{o:Obj}(e:(yk9 h H).get? b=some o):h.get? b=some o/\H b=none:=by
 have e':h.get? b=some o:=PySem.W.of_hideAll (trk h H) e;refine⟨e',?_⟩;cases q:H b with
 |none=>rfl
 |some x=>
  have hm:b∈trk h H:=List.mem_filter.mpr ⟨List.mem_range.mpr (Heap.lt_size e'),by simp[q]⟩;have z:(yk9 h H).get? b=none:=PySem.W.hideAll_none (trk h H) hm;rw[z]at e;cases e
def zp1(g h:Heap)(L:Addr):List (Addr × Obj):=(List.range h.objs.size).filterMap fun a=>if a=L\/(g.get? a).isSome=true then none else (h.get? a).map fun o=>(a,o)
def yms(g h:Heap)(L d:Addr):List (Addr × Obj):=(zp1 g h L).filter fun p=>decide (p.1≠d)
end L2
namespace L2
open PySem PySem.Spec PyProof.Rows
structure Mod(K:PySem.W.Frag)(mg:Str->Option Value)(base:Heap):Prop where
 kin:K.In base
 glob:base.Ns mainGlobals mg
 blt:∃ mb,base.Ns builtinsNs mb/\∀ x:Str,x ≠ "__name__"->mb x=bootBuiltins x
 nolimit:base.NoLimit
structure Cx where
 prog:Program
 w:World
 K:PySem.W.Frag
 mg:Str->Option Value
 base:Heap
 A:Around
 N:List Str
 s₀:Shared
 H₀:Hp
 env:Env
 outer:List Env
 stack:List Env
 ex:List Addr
 fn:Str->Bool
 calm:Bool
 pn:List (Addr × Obj)
 xe:Value->Shared->Prop
def frs(l:List Env):List Addr:=l.filterMap (·.frame)
abbrev Cx.fs(X:Cx):List Addr:=frs X.outer
def Vis(sc:Scope)(x:Str):Prop:=sc.names.lookup x=some .local\/sc.names.lookup x=some .cell\/sc.names.lookup x=some .free
def Loc(sc:Scope)(x:Str):Prop:=sc.names.lookup x=some .local\/sc.names.lookup x=some .cell
def yjk(env:Env)(h:Heap)(m:Str->Option Value)(x:Str)(u:Value):Prop:=
 (env.kindOf x=some .local/\m x=some u)\/((env.kindOf x=some .cell\/env.kindOf x=some .free)/\∃ c,env.cells.lookup x=some c/\h.IsCell c (some u))
structure Cx.Ok(X:Cx):Prop where
 mod:Mod X.K X.mg X.base
 kind:X.env.scope.kind=.function
 glob:X.env.globals=mainGlobals
 blt:X.env.builtins=builtinsNs
 above:X.s₀.heap.objs.size<=X.env.locals
 inj:∀ x y c,X.env.cells.lookup x=some c->X.env.cells.lookup y=some c->x=y
 has:∀ x,(X.env.kindOf x=some .cell\/X.env.kindOf x=some .free)->∃ c,X.env.cells.lookup x=some c
 cab:∀ x c,X.fn x=true->X.env.cells.lookup x=some c->X.s₀.heap.objs.size<=c
 hd:X.calm=true->X.A.handled=none
 frames:X.A.frames=some X.stack
 stk:X.stack=X.outer\/(X.stack=X.env::X.outer/\X.env.frame=some X.env.locals)
 exf:∀ b∈X.ex,b≠X.env.locals/\∀ x c,X.env.cells.lookup x=some c->c≠b
 bs:∀ b o,X.base.get? b=some o->X.s₀.heap.get? b=some o/\X.H₀ b=none
 bsz:X.base.objs.size<=X.s₀.heap.objs.size
 noex:∀ b o,X.base.get? b=some o->b ∉ X.ex
 exfs:∀ b∈X.ex,b ∉ X.fs
 funs:X.s₀.heap.FunFrames X.base X.outer
 frf:∀ b∈X.fs,X.H₀ b=none
structure Inv(X:Cx)(pins:List (Addr × Obj))(σ:List (Option V))(H:Hp)(s:Shared):Prop where
 ok:X.Ok
 os:s.os=X.s₀.os
 bare:AllBare s.gens
 base:Un X.fs X.ex X.H₀ H X.s₀.heap s.heap
 loc:∃ m,s.heap.Ns X.env.locals m/\∀ (i:Nat) (x:Str) (v:V),X.N[i]?=some x->σ[i]?=some (some v)->Vis X.env.scope x->∃ u,yjs v u/\yjk X.env s.heap m x u
 cell:∀ x c,X.env.cells.lookup x=some c->∃ v,s.heap.IsCell c v
 free:H X.env.locals=none
 freeC:∀ x c,X.env.cells.lookup x=some c->H c=none
 pin:∀ p∈X.pn++pins,s.heap.get? p.1=some p.2/\H p.1=none/\p.1≠X.env.locals/\p.1 ∉ X.fs/\∀ v,p.2.data≠.cell v
 hok:HOk X.prog X.w H s.heap
 len:σ.length=X.N.length
section
variable{X:Cx}{pins:List (Addr × Obj)}{σ:List (Option V)}{H H':Hp}{s:Shared}{h':Heap}
theorem Cx.Ok.nofr(ok:X.Ok){b:Addr}{o:Obj}(e:X.base.get? b=some o):b ∉ X.fs:=fun hb=>by
 have:=(ok.funs.mem hb).1;rw[e]at this;cases this
theorem Inv.bs(I:Inv X pins σ H s):∀ b o,X.base.get? b=some o->s.heap.get? b=some o/\H b=none:=fun b o e=>
 ⟨I.base.keep b o (I.ok.bs b o e).1 (I.ok.bs b o e).2 (I.ok.nofr e) (I.ok.noex b o e),I.base.free b o (I.ok.bs b o e).1 (I.ok.bs b o e).2 (I.ok.noex b o e)⟩
theorem Inv.bk(I:Inv X pins σ H s):∀ b o,X.base.get? b=some o->s.heap.get? b=some o:=fun b o e=>(I.bs b o e).1
theorem Inv.mod(I:Inv X pins σ H s):Mod X.K X.mg X.base:=I.ok.mod
theorem Inv.kIn(I:Inv X pins σ H s):X.K.In s.heap:=I.ok.mod.kin.keeps I.bk
theorem Inv.nolimit(I:Inv X pins σ H s):s.heap.NoLimit:=I.ok.mod.nolimit.keeps I.bk
theorem Inv.lt(I:Inv X pins σ H s):X.env.locals<s.heap.objs.size:=let ⟨_,hn,_⟩:=I.loc;hn.lt
theorem Inv.sz(I:Inv X pins σ H s):X.s₀.heap.objs.size<=s.heap.objs.size:=Nat.le_trans I.ok.above (Nat.le_of_lt I.lt)
theorem Inv.nofs(I:Inv X pins σ H s){a:Addr}(h:s.heap.objs.size<=a):a ∉ X.fs:=fun hb=>by
 obtain⟨_,o,ho,_⟩:=I.ok.funs.mem hb;exact absurd (Nat.lt_of_lt_of_le (Heap.lt_size ho) (Nat.le_trans I.sz h)) (Nat.lt_irrefl _)
theorem Inv.cne(I:Inv X pins σ H s):∀ x c,X.env.cells.lookup x=some c->c≠X.env.locals:=fun x c e z=>by
 obtain⟨v,o,ho,hd⟩:=I.cell x c e;obtain⟨m,⟨o',es,ep,ho',hd',_⟩,_⟩:=I.loc;rw[z,ho']at ho;cases ho;rw[hd']at hd;cases hd
theorem Inv.funs(I:Inv X pins σ H s):s.heap.FunFrames X.base X.outer:=by
 have all:∀ (l:List Env),(∀ b∈frs l,b∈X.fs)->X.s₀.heap.FunFrames X.base l->s.heap.FunFrames X.base l:=by
  intro l;induction l with
  |nil=>intro _ _;trivial
  |cons env r ih=>
   intro hs hl;obtain⟨hk,⟨L,o,hf,hn,ho,hd⟩,hr⟩:=hl;have hL:L∈X.fs:=hs L (by unfold frs;rw[List.filterMap_cons,hf];exact List.mem_cons_self);obtain⟨sl,e⟩:=I.base.slot L o ho (I.ok.frf L hL) hL fun z=>I.ok.exfs L z hL;exact⟨hk,⟨L,_,hf,hn,e,hd⟩,ih (fun b hb=>hs b (by unfold frs;rw[List.filterMap_cons,hf];exact List.mem_cons_of_mem _ hb)) hr⟩
 exact all X.outer (fun _ hb=>hb) I.ok.funs
theorem Inv.stack(I:Inv X pins σ H s):s.heap.FunFrames X.base X.stack:=by
 rcases I.ok.stk with e|⟨e,hf⟩
 ·rw[e];exact I.funs
 ·rw[e];obtain⟨m,hn,_⟩:=I.loc;refine .cons (by rw[I.ok.kind];decide) hf hn ?_ I.funs;exact Heap.get?_none_of_le (Nat.le_trans I.ok.bsz I.ok.above)
theorem Inv.stkSub(I:Inv X pins σ H s):∀ b∈frs X.stack,b∈X.env.locals::X.fs:=fun b hb=>by
 rcases I.ok.stk with e|⟨e,hf⟩
 ·rw[e]at hb;exact List.mem_cons_of_mem _ hb
 ·rw[e]at hb;unfold frs at hb;rw[List.filterMap_cons,hf]at hb;exact hb
theorem Inv.stkFree(I:Inv X pins σ H s):∀ b∈frs X.stack,H b=none:=fun b hb=>by
 rcases List.mem_cons.mp (I.stkSub b hb)with e|hb
 ·rw[e];exact I.free
 ·obtain⟨_,o,ho,_⟩:=I.ok.funs.mem hb;exact I.base.free b o ho (I.ok.frf b hb) fun z=>I.ok.exfs b z hb
theorem Inv.step{g':Array GenState}{t':Nat}{d':Drawn}{ch:List Addr}(I:Inv X pins σ H s)
  (hch:∀ b∈ch,(b∈X.ex\/X.s₀.heap.objs.size<=b)/\b≠X.env.locals/\(∀ x c,X.env.cells.lookup x=some c->c≠b)/\∀ p∈X.pn++pins,p.1≠b)
  (keep:∀ b o,b≠X.env.locals->b ∉ X.fs->b ∉ ch->s.heap.get? b=some o->H b=none->h'.get? b=some o)
  (slot:∀ b o,b≠X.env.locals->b∈X.fs->b ∉ ch->s.heap.get? b=some o->H b=none->∃ sl,h'.get? b=some { o with slots:=sl }) (free:∀ b o,b ∉ ch->s.heap.get? b=some o->H b=none->H' b=none)
  (there:∀ b o,b ∉ ch->s.heap.get? b=some o->∃ o',h'.get? b=some o')
  (tups:∀ b xs,H b=some (.tup xs)->H' b=some (.tup xs)) (frzs:∀ b o u,H b=some (.frz o u)->H' b=some (.frz o u)) (tbls:∀ b ps,H b=some (.tbl ps)->∃ more,H' b=some (.tbl (ps++more)))
  (ns:∀ m,s.heap.Ns X.env.locals m->h'.Ns X.env.locals m) (hok:HOk X.prog X.w H' h') (hg:AllBare g') :
  Inv X pins σ H' { s with heap:=h',gens:=g',drawn:=d',toks:=t' }:=by
 have neL:∀ b o,X.s₀.heap.get? b=some o->b≠X.env.locals:=fun b o e=>Nat.ne_of_lt (Nat.lt_of_lt_of_le (Heap.lt_size e) I.ok.above);have neC:∀ b o,X.s₀.heap.get? b=some o->b ∉ X.ex->b ∉ ch:=fun b o e hx hb=>by
  rcases(hch b hb).1 with z|z
  ·exact hx z
  ·exact absurd (Nat.lt_of_lt_of_le (Heap.lt_size e) z) (Nat.lt_irrefl _)
 have cellK:∀ x c,X.env.cells.lookup x=some c->∀ v,s.heap.IsCell c v->h'.IsCell c v:=fun x c e v ⟨o,ho,hd⟩=>by
  have nch:c ∉ ch:=fun z=>(hch c z).2.2.1 x c e rfl;by_cases hc:c∈X.fs
  ·obtain⟨sl,q⟩:=slot c o (I.cne x c e) hc nch ho (I.freeC x c e);exact⟨_,q,hd⟩
  ·exact⟨o,keep c o (I.cne x c e) hc nch ho (I.freeC x c e),hd⟩
 refine⟨I.ok,I.os,hg,⟨fun b o e n hb hx=>?_,fun b o e n hb hx=>?_,fun b o e n hx=>?_,fun b o e hx=>?_,fun b xs e=>tups b xs (I.base.tups b xs e),fun b o xs e=>frzs b o xs (I.base.frzs b o xs e),fun b ps e=>?_⟩,?_,fun x c e=>?_,?_,fun x c e=>?_,fun p hp=>?_,hok,I.len⟩
 ·exact keep b o (neL b o e) hb (neC b o e hx) (I.base.keep b o e n hb hx) (I.base.free b o e n hx)
 ·obtain⟨sl,e1⟩:=I.base.slot b o e n hb hx;obtain⟨sl',e2⟩:=slot b _ (neL b o e) hb (neC b o e hx) e1 (I.base.free b o e n hx);exact⟨sl',e2⟩
 ·obtain⟨o',e1⟩:=I.base.there b o e hx;exact free b o' (neC b o e hx) e1 (I.base.free b o e n hx)
 ·obtain⟨o',e1⟩:=I.base.there b o e hx;exact there b o' (neC b o e hx) e1
 ·obtain⟨m1,e1⟩:=I.base.tbls b ps e;obtain⟨m2,e2⟩:=tbls b _ e1;exact⟨m1++m2,by rw[e2,Array.append_assoc]⟩
 ·obtain⟨m,hn,hl⟩:=I.loc;refine⟨m,ns m hn,fun i x v e1 e2 e3=>?_⟩;obtain⟨u,r,l⟩:=hl i x v e1 e2 e3;refine⟨u,r,?_⟩;rcases l with l|⟨k,c,e,z⟩
  ·exact .inl l
  ·exact .inr ⟨k,c,e,cellK x c e _ z⟩
 ·obtain⟨v,z⟩:=I.cell x c e;exact⟨v,cellK x c e v z⟩
 ·obtain⟨m,⟨o,_,_,ho,_⟩,_⟩:=I.loc;exact free _ o (fun z=>(hch _ z).2.1 rfl) ho I.free
 ·obtain⟨v,o,ho,hd⟩:=I.cell x c e;exact free c o (fun z=>(hch c z).2.2.1 x c e rfl) ho (I.freeC x c e)
 ·obtain⟨e,n,ne,nf,d⟩:=I.pin p hp;have nch:p.1 ∉ ch:=fun z=>(hch p.1 z).2.2.2 p hp rfl;exact⟨keep p.1 p.2 ne nf nch e n,free p.1 p.2 nch e n,ne,nf,d⟩
theorem Inv.un{t':Nat}(I:Inv X pins σ H s)(u:Un X.fs [] H H' s.heap h')(hok:HOk X.prog X.w H' h'):Inv X pins σ H' { s with heap:=h',toks:=t' }:=by
 obtain⟨m,⟨o,es,ep,ho,r⟩,_⟩:=id I.loc;obtain⟨sl,hL⟩:=u.any ho I.free (by simp);exact I.step (g':=s.gens) (d':=s.drawn) (ch:=[]) (fun _ z=>nomatch z) (fun b o _ hb _ e n=>u.keep b o e n hb (by simp)) (fun b o _ hb _ e n=>u.slot b o e n hb (by simp)) (fun b o _ e n=>u.free b o e n (by simp)) (fun b o _ e=>u.there b o e (by simp)) u.tups u.frzs u.tbls (fun m' hm=>by
  obtain⟨o',es',ep',ho',r'⟩:=hm;rw[ho]at ho';cases ho';exact⟨_,es',ep',hL,r'⟩) hok I.bare
theorem Inv.call{g':Array GenState}{t':Nat}{d':Drawn}{ch:List Addr}(I:Inv X pins σ H s)(u:Un (frs X.stack) ch H H' s.heap h')(hok:HOk X.prog X.w H' h')(hg:AllBare g')
  (hch:∀ b∈ch,(b∈X.ex\/X.s₀.heap.objs.size<=b)/\b≠X.env.locals/\(∀ x c,X.env.cells.lookup x=some c->c≠b)/\∀ p∈X.pn++pins,p.1≠b) :
  Inv X pins σ H' { s with heap:=h',gens:=g',drawn:=d',toks:=t' }:=by
 obtain⟨m,⟨o,es,ep,ho,r⟩,_⟩:=id I.loc;obtain⟨sl,hL⟩:=u.any ho I.free fun z=>(hch _ z).2.1 rfl;exact I.step (ch:=ch) hch (fun b o hL hb hc e n=>u.keep b o e n (fun z=>(List.mem_cons.mp (I.stkSub b z)).elim hL hb) hc) (fun b o _ _ hc e n=>u.any e n hc) (fun b o hc e n=>u.free b o e n hc) (fun b o hc e=>u.there b o e hc) u.tups u.frzs u.tbls (fun m' hm=>by
  obtain⟨o',es',ep',ho',r'⟩:=hm;rw[ho]at ho';cases ho';exact⟨_,es',ep',hL,r'⟩) hok hg
theorem Inv.turned{t':Nat}{it:Addr}(I:Inv X pins σ H s)(k:∀ b o,b≠it->s.heap.get? b=some o->h'.get? b=some o)(hn:H it=none)(hL:it≠X.env.locals)
  (h1:it∈X.ex\/X.s₀.heap.objs.size<=it) (h2:∀ x c,X.env.cells.lookup x=some c->c≠it) (h3:∀ p∈X.pn++pins,p.1≠it):Inv X pins σ H { s with heap:=h',toks:=t' }:=by
 have nit:∀ b u,H b=some u->b≠it:=fun b u e z=>by rw[z,hn]at e;cases e
 refine I.step (g':=s.gens) (d':=s.drawn) (ch:=[it]) (fun b hb=>?_) (fun b o _ _ hc e _=>k b o (fun z=>hc (by simp[z])) e) (fun b o _ _ hc e _=>⟨o.slots,k b o (fun z=>hc (by simp[z])) e⟩) (fun _ _ _ _ n=>n)
  (fun b o hc e=>⟨o,k b o (fun z=>hc (by simp[z])) e⟩) (fun _ _ e=>e) (fun _ _ _ e=>e) (fun b ps e=>⟨#[],by rw[e];simp⟩) (fun m hm=>?_) (fun b u e=>?_) I.bare
 ·have e:b=it:=by simpa using hb
  subst e;exact⟨h1,hL,h2,h3⟩
 ·obtain⟨o,es,ep,ho,r⟩:=hm;exact⟨o,es,ep,k _ o (Ne.symm hL) ho,r⟩
 ·refine(I.hok b u e).stay (fun c v hc q=>k c v ?_ q) (fun _ q=>q) fun _ _ q=>q;rcases hc with z|z
  ·rw[z];exact nit b u e
  ·exact nit c _ z
theorem Inv.tok(I:Inv X pins σ H s)(t:Nat):Inv X pins σ H { s with toks:=t }:=I.un (h':=s.heap) (t':=t) Un.refl I.hok
theorem Inv.kept{t':Nat}(I:Inv X pins σ H s)(k:∀ b u,s.heap.get? b=some u->h'.get? b=some u):Inv X pins σ H { s with heap:=h',toks:=t' }:=I.un (Un.kept k) (I.hok.kept k)
theorem Inv.laid{a:Addr}{o:HO}{t':Nat}(I:Inv X pins σ H s)(k:∀ b u,s.heap.get? b=some u->h'.get? b=some u)(hp:s.heap.objs.size<=a)(new:yd7 X.prog X.w (upd H a o) h' a o) :
  Inv X pins σ (upd H a o) { s with heap:=h',toks:=t' }:=I.un (Un.laid k hp (I.hok.fresh hp)) (I.hok.laid k hp new)
theorem Inv.write{x e:Addr}{o:HO}{t':Nat}(I:Inv X pins σ H s)(mu:Mut (H x))(he:e=x\/H e=some (.own x))(k:∀ b u,b≠e->s.heap.get? b=some u->h'.get? b=some u)(heo:∃ u,h'.get? e=some u)
  (new:yd7 X.prog X.w (upd H x o) h' x o):Inv X pins σ (upd H x o) { s with heap:=h',toks:=t' }:=I.un (Un.write mu he k heo) (I.hok.write mu he k heo new)
theorem Inv.pins_of{pins':List (Addr × Obj)}(I:Inv X pins σ H s)(h:∀ p∈pins',s.heap.get? p.1=some p.2/\H p.1=none/\p.1≠X.env.locals/\p.1 ∉ X.fs/\∀ v,p.2.data≠.cell v):Inv X pins' σ H s:=
 ⟨I.ok,I.os,I.bare,I.base,I.loc,I.cell,I.free,I.freeC,fun p hp=>(List.mem_append.mp hp).elim (fun z=>I.pin p (List.mem_append_left _ z)) (h p),I.hok,I.len⟩
theorem zna{N:List Str}(hN:N.Nodup){i j:Nat}{x:Str}(a:N[i]?=some x)(b:N[j]?=some x):i=j:=by
 obtain⟨h1,e1⟩:=List.getElem?_eq_some_iff.mp a;obtain⟨h2,e2⟩:=List.getElem?_eq_some_iff.mp b;exact(List.getElem_inj hN).mp (e1.trans e2.symm)
theorem zjs{M:Model}{A:Around}{E:Value->Shared->Prop}{i:Nat}{x:Str}{v:V}{u:Value}{Q:Unit->Shared->Prop}(I:Inv X pins σ H s)(hN:X.N.Nodup)(hi:X.N[i]?=some x)(hx:Loc X.env.scope x)(r:yjs v u)
  (h:∀ s',Inv X pins (σ.set i (some v)) H s'->(∃ a,Heap.SameBut a s.heap s'.heap/\(a=X.env.locals\/X.env.cells.lookup x=some a))->Q () s') (hf:X.fn x=true\/X.env.scope.names.lookup x=some .local:=by first|exact .inl rfl|exact .inr rfl|assumption):wpAny M A (storeName X.env x u) Q E s:=by
 obtain⟨m,hn,hl⟩:=id I.loc;have hcls:(X.env.scope.kind == .class || (X.env.scope.kind == .module && X.env.locals != X.env.globals))=false:=by rw[I.ok.kind];rfl
 have hiσ:i<σ.length:=by rw[I.len];exact(List.getElem?_eq_some_iff.mp hi).1
 have cne:=I.cne;have tracked:∀ {a:Addr} {h':Heap},(∃ o,s.heap.get? a=some o/\H a=none)->Heap.SameBut a s.heap h'->HOk X.prog X.w H h':=fun {a h'} ha hs b ob e=>by
  obtain⟨_,_,hfree⟩:=ha;refine(I.hok b ob e).stay (fun c w' hc q=>(hs.2 c ?_).trans q) (fun _ q=>q) fun _ _ q=>q;rintro rfl;rcases hc with rfl|hc
  ·rw[hfree]at e;cases e
  ·rw[hfree]at hc;cases hc
 rcases hx with hk|hk
 ·refine wpAny_storeName_local hk hn (fun h' hn' hs=>?_) hcls;obtain⟨oL,_,_,hoL,_⟩:=id hn;refine h _ ⟨I.ok,I.os,I.bare,⟨fun b o e n hb hx=>?_,fun b o e n hb hx=>?_,I.base.free,fun b o e hx=>?_,I.base.tups,I.base.frzs,I.base.tbls⟩,⟨_,hn',fun j y v' e1 e2 e3=>?_⟩,fun y c e=>?_,I.free,I.freeC,fun p hp=>?_,tracked ⟨oL,hoL,I.free⟩ hs,by simpa using I.len⟩ ⟨_,hs,.inl rfl⟩
  ·exact(hs.2 b (Nat.ne_of_lt (Nat.lt_of_lt_of_le (Heap.lt_size e) I.ok.above))).trans (I.base.keep b o e n hb hx)
  ·obtain⟨sl,e1⟩:=I.base.slot b o e n hb hx;exact⟨sl,(hs.2 b (Nat.ne_of_lt (Nat.lt_of_lt_of_le (Heap.lt_size e) I.ok.above))).trans e1⟩
  ·obtain⟨o',e1⟩:=I.base.there b o e hx;exact⟨o',(hs.2 b (Nat.ne_of_lt (Nat.lt_of_lt_of_le (Heap.lt_size e) I.ok.above))).trans e1⟩
  ·by_cases hj:j=i
   ·subst hj;rw[hi]at e1;cases e1;rw[List.getElem?_set_self hiσ]at e2;cases e2;exact⟨u,r,.inl ⟨hk,by simp⟩⟩
   ·rw[List.getElem?_set_ne (Ne.symm hj)]at e2;obtain⟨u',r',q⟩:=hl j y v' e1 e2 e3;refine⟨u',r',?_⟩;rcases q with⟨k,e⟩|⟨k,c,e,z⟩
    ·refine .inl ⟨k,?_⟩;have:y≠x:=fun e=>hj (zna hN e1 (e ▸ hi));simp[this,e]
    ·exact .inr ⟨k,c,e,z.sameBut hs (cne y c e)⟩
  ·obtain⟨w',z⟩:=I.cell y c e;exact⟨w',z.sameBut hs (cne y c e)⟩
  ·obtain⟨e,n,ne,nf,d⟩:=I.pin p hp;exact⟨(hs.2 p.1 ne).trans e,n,ne,nf,d⟩
 ·have hfn:X.fn x=true:=by
   rcases hf with z|z
   ·exact z
   ·rw[z]at hk;cases hk
  obtain⟨c,hc⟩:=I.ok.has x (.inl hk);obtain⟨w',z⟩:=I.cell x c hc;refine wpAny_storeName_cell I.ok.kind hk hc z (fun h' hc' hs=>?_);obtain⟨oc,hoc,hocd⟩:=id z;refine h { s with heap:=h' } ⟨I.ok,I.os,I.bare,⟨fun b o e n hb hx=>?_,fun b o e n hb hx=>?_,I.base.free,fun b o e hx=>?_,I.base.tups,I.base.frzs,I.base.tbls⟩,⟨m,hn.sameBut hs (Ne.symm (cne x c hc)),fun j y v' e1 e2 e3=>?_⟩,fun y c' e=>?_,I.free,I.freeC,fun p hp=>?_,tracked ⟨oc,hoc,I.freeC x c hc⟩ hs,by simpa using I.len⟩ ⟨c,hs,.inr hc⟩
  ·exact(hs.2 b (Nat.ne_of_lt (Nat.lt_of_lt_of_le (Heap.lt_size e) (I.ok.cab x c hfn hc)))).trans (I.base.keep b o e n hb hx)
  ·obtain⟨sl,e1⟩:=I.base.slot b o e n hb hx;exact⟨sl,(hs.2 b (Nat.ne_of_lt (Nat.lt_of_lt_of_le (Heap.lt_size e) (I.ok.cab x c hfn hc)))).trans e1⟩
  ·obtain⟨o',e1⟩:=I.base.there b o e hx;exact⟨o',(hs.2 b (Nat.ne_of_lt (Nat.lt_of_lt_of_le (Heap.lt_size e) (I.ok.cab x c hfn hc)))).trans e1⟩
  ·by_cases hj:j=i
   ·subst hj;rw[hi]at e1;cases e1;rw[List.getElem?_set_self hiσ]at e2;cases e2;exact⟨u,r,.inr ⟨.inl hk,c,hc,hc'⟩⟩
   ·rw[List.getElem?_set_ne (Ne.symm hj)]at e2;obtain⟨u',r',q⟩:=hl j y v' e1 e2 e3;refine⟨u',r',?_⟩;rcases q with q|⟨k,c',e,z'⟩
    ·exact .inl q
    ·refine .inr ⟨k,c',e,z'.sameBut hs ?_⟩;rintro rfl;exact hj (zna hN e1 (I.ok.inj _ _ _ e hc ▸ hi))
  ·by_cases hcc:c'=c
   ·subst hcc;exact⟨_,hc'⟩
   ·obtain⟨w2,z2⟩:=I.cell y c' e;exact⟨w2,z2.sameBut hs hcc⟩
  ·obtain⟨e,n,ne,nf,d⟩:=I.pin p hp;refine⟨(hs.2 p.1 ?_).trans e,n,ne,nf,d⟩;intro q;rw[q,hoc]at e;have q':oc=p.2:=Option.some.inj e;exact d w' (by rw[<-q'];exact hocd)
theorem zpb{M:Model}{A:Around}{E:Value->Shared->Prop}{i:Nat}{x:Str}{v:V}{u:Value}{Q:Unit->Shared->Prop}(I:Inv X pins σ H s)(hN:X.N.Nodup)(hi:X.N[i]?=some x)(hx:Loc X.env.scope x)(r:yjs v u)
  (h:∀ s',Inv X pins (σ.set i (some v)) H s'->Q () s') (hf:X.fn x=true\/X.env.scope.names.lookup x=some .local:=by first|exact .inl rfl|exact .inr rfl|assumption):wpAny M A (storeName X.env x u) Q E s:=
 zjs I hN hi hx r (fun s' I' _=>h s' I') hf
theorem Inv.call'{s':Shared}{ch:List Addr}(I:Inv X pins σ H s)(ho:s'.os=s.os)(u:Un (frs X.stack) ch H H' s.heap s'.heap)(hok:HOk X.prog X.w H' s'.heap)(hg:AllBare s'.gens)
  (hch:∀ b∈ch,(b∈X.ex\/X.s₀.heap.objs.size<=b)/\b≠X.env.locals/\(∀ x c,X.env.cells.lookup x=some c->c≠b)/\∀ p∈X.pn++pins,p.1≠b):Inv X pins σ H' s':=by
 obtain⟨h',g',d',t',o'⟩:=s';have e:o'=s.os:=ho;subst e;exact I.call (g':=g') (t':=t') (d':=d') u hok hg hch
end
abbrev XK:=Value->Option Addr->Hp->Prop
abbrev St:=List (Option V)
abbrev VK:=V->Hp->Prop
abbrev TE:=St->Hp->VK->Prop
abbrev TT:=St->Hp->(Bool->Hp->Prop)->Prop
abbrev TA:=St->Hp->(List V->Hp->Prop)->Prop
structure Ends where
 nx:St->Hp->Prop
 rt:VK
 bk:St->Hp->Prop:=fun _ _=>False
 ct:St->Hp->Prop:=fun _ _=>False
abbrev TS:=Ends->St->Hp->Prop
def EP(X:Cx)(pins:List (Addr × Obj))(σ:St)(Q:VK)(u:Value)(s':Shared):Prop:=∃ v H',Inv X pins σ H' s'/\yjs v u/\Q v H'
def TP(X:Cx)(pins:List (Addr × Obj))(σ:St)(Q:Bool->Hp->Prop)(b:Bool)(s':Shared):Prop:=∃ H',Inv X pins σ H' s'/\Q b H'
def AP(X:Cx)(pins:List (Addr × Obj))(σ:St)(Q:List V->Hp->Prop)(us:List Value)(s':Shared):Prop:=∃ vs H',Inv X pins σ H' s'/\yj1 vs us/\Q vs H'
def SP(X:Cx)(pins:List (Addr × Obj))(D:Ends)(f:Flow)(s':Shared):Prop:=
 match f with
 | .next=>∃ σ' H',Inv X pins σ' H' s'/\D.nx σ' H'
 | .brk=>∃ σ' H',Inv X pins σ' H' s'/\D.bk σ' H'
 | .cont=>∃ σ' H',Inv X pins σ' H' s'/\D.ct σ' H'
 | .ret u=>∃ v σ' H',Inv X pins σ' H' s'/\yjs v u/\D.rt v H'
def PE(X:Cx)(e:Expr)(t:TE):Prop:=
 ∀ (pins:List (Addr × Obj)) (s:Shared) (σ:St) (H:Hp) (Q:VK),Inv X pins σ H s->t σ H Q->wpAny (model X.prog X.w) X.A (eval e X.env) (EP X pins σ Q) X.xe s
def PT(X:Cx)(e:Expr)(t:TT):Prop:=
 ∀ (pins:List (Addr × Obj)) (s:Shared) (σ:St) (H:Hp) (Q:Bool->Hp->Prop),Inv X pins σ H s->t σ H Q->wpAny (model X.prog X.w) X.A (isTrue e X.env (eval e X.env)) (TP X pins σ Q) X.xe s
def PW(X:Cx)(e:Expr)(t:TT):Prop:=
 ∀ (whole:Sem Value) (pins:List (Addr × Obj)) (s:Shared) (σ:St) (H:Hp) (Q:Bool->Hp->Prop),Inv X pins σ H s->t σ H Q->wpAny (model X.prog X.w) X.A (isTrue e X.env whole) (TP X pins σ Q) X.xe s
theorem PW.pt{X:Cx}{e:Expr}{t:TT}(h:PW X e t):PT X e t:=h _
def PA(X:Cx)(es:List Expr)(t:TA):Prop:=
 ∀ (pos:Pos) (pins:List (Addr × Obj)) (s:Shared) (σ:St) (H:Hp) (Q:List V->Hp->Prop),Inv X pins σ H s->t σ H Q->wpAny (model X.prog X.w) X.A (spliced (backTo pos (starEach es X.env))) (AP X pins σ Q) X.xe s
def PS(X:Cx)(st:Stmt)(t:TS):Prop:=
 ∀ (pins:List (Addr × Obj)) (s:Shared) (σ:St) (H:Hp) (D:Ends),Inv X pins σ H s->t D σ H->wpAny (model X.prog X.w) X.A (exec st X.env) (SP X pins D) X.xe s
def PSs(X:Cx)(st:List Stmt)(t:TS):Prop:=
 ∀ (pins:List (Addr × Obj)) (s:Shared) (σ:St) (H:Hp) (D:Ends),Inv X pins σ H s->t D σ H->wpAny (model X.prog X.w) X.A (execs st X.env) (SP X pins D) X.xe s
theorem thn{α:Type}{t:Sem α}{Q Q':α->Shared->Prop}{M:Model}{A:Around}{E:Value->Shared->Prop}{s:Shared}(h:wpAny M A t Q E s)(hQ:∀ a s,Q a s->Q' a s):wpAny M A t Q' E s:=wpAny_mono h hQ fun _ _ x=>x
end L2
namespace L2
open PySem PySem.Spec PyProof.Rows
section
variable{X:Cx}
theorem bin{a b:Expr}{ta tb:TE}(ha:PE X a ta)(hb:PE X b tb){pins:List (Addr × Obj)}{s:Shared}{σ:St}{H:Hp}{R:V->V->Hp->Prop}(I:Inv X pins σ H s)(h:ta σ H fun x H1=>tb σ H1 fun y H2=>R x y H2)
  {α:Type} {Q:α->Shared->Prop} {f:Value->Value->Sem α}
  (hf:∀ v u s2 x y H2,Inv X pins σ H2 s2->yjs x v->yjs y u->R x y H2->wpAny (model X.prog X.w) X.A (f v u) Q X.xe s2) :
  wpAny (model X.prog X.w) X.A (eval a X.env) (fun v s₁=>wpAny (model X.prog X.w) X.A (eval b X.env) (fun u s₂=>wpAny (model X.prog X.w) X.A (f v u) Q X.xe s₂) X.xe s₁) X.xe s:=by
 refine thn (ha pins s σ H _ I h) fun v s1 ⟨x,H1,I1,r1,q1⟩=>?_;refine thn (hb pins s1 σ H1 _ I1 q1) fun u s2 ⟨y,H2,I2,r2,q2⟩=>?_;exact hf v u s2 x y H2 I2 r1 r2 q2
def ynw(i:Nat):TE:=fun σ H Q=>∃ v,σ[i]?=some (some v)/\Q v H
def tC(v:V):TE:=fun _ H Q=>Q v H
theorem yb9{i:Nat}{x:Str}{pos:Pos}(hN:X.N[i]?=some x)(hv:Vis X.env.scope x)(hd:(x == ("__debug__" : Str))=false:=by decide)(hcd:(x == ("__classdict__" : Str))=false:=by decide):PE X (.Name x pos) (ynw i):=by
 intro pins s σ H Q I h;obtain⟨v,e,h⟩:=h;obtain⟨m,hn,hl⟩:=I.loc;obtain⟨u,r,l⟩:=hl i x v hN e hv;have fin:EP X pins σ Q u s:=⟨v,H,I,r,h⟩
 rcases l with⟨hk,hm⟩|⟨hk,c,hc,hcell⟩
 ·exact wpAny_Name (wpAny_loadName_local I.ok.kind hk hn hm fin) hd
 ·rcases hk with hk|hk
  ·exact wpAny_Name (wpAny_loadName_cell I.ok.kind hk hc hcell fin) hd
  ·exact wpAny_Name (wpAny_loadName_free I.ok.kind hk hc hcell fin hcd) hd
theorem yb2{i j pos}:PE X (.Constant (.int i) j pos) (tC (.int i)):=fun _ _ _ H _ I h=>wpAny_Constant_int ⟨.int i,H,I.tok _,⟨_,rfl⟩,h⟩
theorem yhi{b j pos}:PE X (.Constant (.bool b) j pos) (tC (.bl b)):=fun _ _ _ H _ I h=>Constant_bool ⟨.bl b,H,I,rfl,h⟩
theorem yb4{j pos}:PE X (.Constant .none j pos) (tC .non):=fun _ _ _ H _ I h=>Constant_none ⟨.non,H,I,rfl,h⟩
theorem yb7{x j pos}:PE X (.Constant (.str x) j pos) (tC (.str x)):=fun _ _ _ H _ I h=>Calls.Constant_str ⟨.str x,H,I.tok _,⟨_,rfl⟩,h⟩
def Gl(X:Cx)(x:Str):Prop:=X.env.kindOf x=some .globalImplicit
theorem ztj{E:Value->Shared->Prop}{pins:List (Addr × Obj)}{s:Shared}{σ:St}{H:Hp}{x:Str}{u:Value}{pos:Pos}{Q:Value->Shared->Prop}(I:Inv X pins σ H s)(hg:Gl X x)(hm:X.mg x=some u)(h:Q u s)
  (hd:(x == ("__debug__" : Str))=false:=by decide):wpAny (model X.prog X.w) X.A (eval (.Name x pos) X.env) Q E s:=
 Calls.Name_function_global I.ok.kind hg (Calls.loadGlobal_global (by rw[I.ok.glob];exact I.mod.glob.keeps I.bk) hm h) hd
theorem yaw{E:Value->Shared->Prop}{pins:List (Addr × Obj)}{s:Shared}{σ:St}{H:Hp}{x:Str}{u:Value}{pos:Pos}{Q:Value->Shared->Prop}(I:Inv X pins σ H s)(hg:Gl X x)(hm:X.mg x=none)(hv:bootBuiltins x=some u)(h:Q u s)
  (hn:x ≠ "__name__":=by decide) (hd:(x == ("__debug__" : Str))=false:=by decide):wpAny (model X.prog X.w) X.A (eval (.Name x pos) X.env) Q E s:=by
 obtain⟨mb,h1,h2⟩:=I.mod.blt;exact Calls.Name_function_global I.ok.kind hg (Calls.loadGlobal_builtin (by rw[I.ok.glob];exact I.mod.glob.keeps I.bk) hm (by rw[I.ok.blt];exact h1.keeps I.bk) ((h2 x hn).trans hv) h) hd
theorem zuw{x:Str}{v:V}{u:Value}{pos:Pos}(hg:Gl X x)(hm:X.mg x=some u)(r:yjs v u)(hd:(x == ("__debug__" : Str))=false:=by decide):PE X (.Name x pos) (tC v):=
 fun _ _ _ H _ I h=>ztj I hg hm ⟨v,H,I,r,h⟩ hd
theorem zus{x:Str}{v:V}{u:Value}{pos:Pos}(hg:Gl X x)(hm:X.mg x=none)(hv:bootBuiltins x=some u)(r:yjs v u)(hn:x ≠ "__name__":=by decide)(hd:(x == ("__debug__" : Str))=false:=by decide):PE X (.Name x pos) (tC v):=
 fun _ _ _ H _ I h=>yaw I hg hm hv ⟨v,H,I,r,h⟩ hn hd
variable{a b:Expr}{ta tb:TE}{pos:Pos}
def PC(X:Cx)(op:CmpOp)(a b:Expr)(t:TE):Prop:=
 ∀ (pins:List (Addr × Obj)) (s:Shared) (σ:St) (H:Hp) (Q:VK),Inv X pins σ H s->t σ H Q->
  wpAny (model X.prog X.w) X.A (eval a X.env) (fun v s₁=>wpAny (model X.prog X.w) X.A (eval b X.env) (fun u s₂=>wpAny (model X.prog X.w) X.A (compareOp op v u) (EP X pins σ Q) X.xe s₂) X.xe s₁) X.xe s
theorem zm8(b:Expr){op:CmpOp}(h:op≠.In)(h2:op≠.NotIn):behindInMarks op b=false:=by
 have e1:(op == CmpOp.In)=false:=by cases op<;>first|rfl|exact absurd rfl h
 have e2:(op == CmpOp.NotIn)=false:=by cases op<;>first|rfl|exact absurd rfl h2
 cases b<;>simp[behindInMarks,e1,e2]
def tB(t:TE):TT:=fun σ H Q=>t σ H fun x H1=>∃ c,x=.bl c/\Q c H1
theorem ycm{op:CmpOp}{t:TE}(h:PC X op a b t)(h1:behindInMarks op b=false:=by first|exact zm8 _ (by decide) (by decide)|rfl):PT X (.Compare a [op] [b] pos) (tB t):=by
 intro pins s σ H Q I hw;refine wpAny_isTrue_Compare1 (thn (h pins s σ H _ I hw) fun v s1 h1=>thn h1 fun u s2 h2=>thn h2 fun c s3 ⟨x,H1,I1,r1,q1⟩=>?_) h1;obtain⟨d,rfl,q⟩:=q1;cases r1;exact wpAny_truthy_bool ⟨H1,I1,q⟩
theorem yco{e:Expr}{t:TE}(h:PE X e t)(he:∀ whole,isTrue e X.env whole=(do let v <-whole;standAt e.pos;holding [v] (truthy v)):=by intro _;rfl):PT X e (tB t):=by
 intro pins s σ H Q I hw;refine isTrue_plain (thn (h pins s σ H _ I hw) fun v s1 ⟨x,H1,I1,r1,q1⟩=>?_) (he _);obtain⟨d,rfl,q⟩:=q1;cases r1;exact wpAny_truthy_bool ⟨H1,I1,q⟩
variable{tA tB':TT}{yms:List Expr}
def yni(t u:TT):TT:=fun σ H Q=>t σ H fun c H1=>if c=true then u σ H1 Q else Q false H1
def tOr(t u:TT):TT:=fun σ H Q=>t σ H fun c H1=>if c=true then Q true H1 else u σ H1 Q
def ynr(t:TT):TT:=fun σ H Q=>t σ H fun c H1=>Q (!c) H1
theorem zvc(ha:PT X a tA):PW X (.BoolOp .And [a] pos) tA:=by
 intro wh pins s σ H Q I h;refine isTrue_and (thn (ha pins s σ H Q I h) fun c s1 e=>?_);cases c with
 |true=>exact isTrue_and_nil e
 |false=>exact e
theorem ycq(ha:PT X a tA):PW X (.BoolOp .Or [a] pos) tA:=by
 intro wh pins s σ H Q I h;refine isTrue_or (thn (ha pins s σ H Q I h) fun c s1 e=>?_);cases c with
 |false=>exact isTrue_or_nil e
 |true=>exact e
theorem ycp(ha:PT X a tA)(hb:PW X (.BoolOp .And (b::yms) pos) tB'):PW X (.BoolOp .And (a::b::yms) pos) (yni tA tB'):=by
 intro wh pins s σ H Q I h;refine isTrue_and (thn (ha pins s σ H _ I h) fun c s1 ⟨H1,I1,q1⟩=>?_);cases c with
 |true=>exact hb wh pins s1 σ H1 Q I1 q1
 |false=>exact⟨H1,I1,q1⟩
theorem yhu(ha:PT X a tA)(hb:PW X (.BoolOp .Or (b::yms) pos) tB'):PW X (.BoolOp .Or (a::b::yms) pos) (tOr tA tB'):=by
 intro wh pins s σ H Q I h;refine isTrue_or (thn (ha pins s σ H _ I h) fun c s1 ⟨H1,I1,q1⟩=>?_);cases c with
 |true=>exact⟨H1,I1,q1⟩
 |false=>exact hb wh pins s1 σ H1 Q I1 q1
theorem ycn(ha:PT X a tA):PT X (.UnaryOp .Not a pos) (ynr tA):=by
 intro pins s σ H Q I h;exact isTrue_not (ha pins s σ H (fun c H1=>Q (!c) H1) I h)
def yiq(ta tb:TE):TE:=fun σ H Q=>ta σ H fun x H1=>∃ c,x=.bl c/\if c=true then tb σ H1 Q else Q (.bl false) H1
def yns(ta tb:TE):TE:=fun σ H Q=>ta σ H fun x H1=>∃ c,x=.bl c/\if c=true then Q (.bl true) H1 else tb σ H1 Q
def yiv(ta:TE):TE:=fun σ H Q=>ta σ H fun x H1=>∃ c,x=.bl c/\Q (.bl (!c)) H1
theorem yb6{op}{t:TE}(h:PE X a t):PE X (.BoolOp op [a] pos) t:=fun pins s σ H Q I hw=>BoolOp_one (h pins s σ H Q I hw)
theorem ybz(ha:PE X a ta)(hb:PE X (.BoolOp .And (b::yms) pos) tb):PE X (.BoolOp .And (a::b::yms) pos) (yiq ta tb):=by
 intro pins s σ H Q I h;refine BoolOp_and (thn (ha pins s σ H _ I h) fun v s1 ⟨x,H1,I1,r1,q1⟩=>?_);obtain⟨c,rfl,q1⟩:=q1;cases r1;refine wpAny_truthy_bool ?_;cases c with
 |true=>exact hb pins s1 σ H1 Q I1 q1
 |false=>exact⟨.bl false,H1,I1,rfl,q1⟩
theorem yhm(ha:PE X a ta)(hb:PE X (.BoolOp .Or (b::yms) pos) tb):PE X (.BoolOp .Or (a::b::yms) pos) (yns ta tb):=by
 intro pins s σ H Q I h;refine BoolOp_or (thn (ha pins s σ H _ I h) fun v s1 ⟨x,H1,I1,r1,q1⟩=>?_);obtain⟨c,rfl,q1⟩:=q1;cases r1;refine wpAny_truthy_bool ?_;cases c with
 |false=>exact hb pins s1 σ H1 Q I1 q1
 |true=>exact⟨.bl true,H1,I1,rfl,q1⟩
theorem yb5(ha:PE X a ta):PE X (.UnaryOp .Not a pos) (yiv ta):=by
 intro pins s σ H Q I h;refine UnaryOp_ (thn (ha pins s σ H _ I h) fun v s1 ⟨x,H1,I1,r1,q1⟩=>?_);obtain⟨c,rfl,q1⟩:=q1;cases r1;exact not_of (wpAny_truthy_bool ⟨.bl (!c),H1,I1,rfl,q1⟩)
end
end L2
namespace L2
open PySem PySem.Spec PyProof.Rows
def SqL(K:PySem.W.Frag)(H:Hp)(a:Addr)(xs:List V):Prop:=
 Rd H a (.lst xs)\/
  ∃ (o:Obj) (its:Array Value) (n:Nat),K.lookup a=some o/\o.cls=.type "list"/\o.dict=none/\o.data=.seq its n/\its.size<=sizeLine/\yj1 xs its.toList
def SqT(K:PySem.W.Frag)(H:Hp)(a:Addr)(xs:List V):Prop:=
 Rd H a (.tup xs)\/
  ∃ (o:Obj) (its:Array Value) (n:Nat),K.lookup a=some o/\o.cls=.type "tuple"/\o.data=.seq its n/\its.size<=sizeLine/\yj1 xs its.toList
def yj4:Value->Option V
 | .none=>some .non
 | .bool b=>some (.bl b)
 | .int i _=>some (.int i)
 | .str x _=>some (.str x)
 | .bytes b _=>some (.byt b)
 | .float b _=>some (.flt b)
 | .ref a=>some (.ref a)
 | .type n=>some (.ty n)
 |_=>none
theorem yjs.abs{x:V}{u:Value}(r:yjs x u):yj4 u=some x:=by
 cases x with
 |non=>cases r;rfl
 |bl _=>cases r;rfl
 |int _=>obtain⟨t,rfl⟩:=r;rfl
 |str _=>obtain⟨t,rfl⟩:=r;rfl
 |byt _=>obtain⟨t,rfl⟩:=r;rfl
 |flt _=>obtain⟨t,rfl⟩:=r;rfl
 |ref _=>cases r;rfl
 |ty _=>cases r;rfl
theorem yjs.inj{x y:V}{u:Value}(r:yjs x u)(q:yjs y u):x=y:=Option.some.inj (r.abs.symm.trans q.abs)
theorem yj1.inj:∀ {xs ys:List V} {us:List Value},yj1 xs us->yj1 ys us->xs=ys
 |_,_,_,.nil,.nil=>rfl
 |_,_,_,.cons r t,.cons r' t'=>by rw[r.inj r',yj1.inj t t']
section
variable{X:Cx}{pins:List (Addr × Obj)}{σ:St}{H:Hp}{s:Shared}{a:Addr}{xs ys:List V}
theorem SqL.of{K:PySem.W.Frag}(h:H a=some (.lst xs)):SqL K H a xs:=.inl (.inl h)
theorem SqT.of{K:PySem.W.Frag}(h:H a=some (.tup xs)):SqT K H a xs:=.inl (.inl h)
theorem Inv.list(I:Inv X pins σ H s)(h:SqL X.K H a xs):∃ its:List Value,yj1 xs its/\PlainL s.heap a its.toArray/\xs.length<=sizeLine:=by
 rcases h with h|⟨o,its,n,hk,hc,hd,hs,hz,r⟩
 ·obtain⟨z,its,n,r,e⟩:=h.ok I.hok;exact⟨its,r,⟨_,n,e,rfl,rfl,rfl⟩,z⟩
 ·refine⟨its.toList,r,⟨o,n,I.kIn a o hk,hc,hd,by simpa using hs⟩,?_⟩;have e:=r.length;simp only[Array.length_toList]at e;omega
theorem Inv.tuple(I:Inv X pins σ H s)(h:SqT X.K H a xs):∃ its:List Value,yj1 xs its/\IsTup s.heap a its.toArray/\xs.length<=sizeLine:=by
 rcases h with h|⟨o,its,n,hk,hc,hs,hz,r⟩
 ·obtain⟨z,its,r,p⟩:=h.ok I.hok;exact⟨its,r,p,z⟩
 ·refine⟨its.toList,r,⟨o,I.kIn a o hk,hc,n,by simpa using hs⟩,?_⟩;have e:=r.length;simp only[Array.length_toList]at e;omega
theorem Inv.list_inj(I:Inv X pins σ H s)(h:SqL X.K H a xs)(h':SqL X.K H a ys):xs=ys:=by
 obtain⟨its,r,⟨o,n,e,_,_,d⟩,_⟩:=I.list h;obtain⟨its',r',⟨o',n',e',_,_,d'⟩,_⟩:=I.list h';rw[e]at e';cases e';rw[d]at d';injection d' with d1 _;have:its=its':=by simpa using congrArg Array.toList d1
 subst this;exact r.inj r'
theorem Inv.tuple_inj(I:Inv X pins σ H s)(h:SqT X.K H a xs)(h':SqT X.K H a ys):xs=ys:=by
 obtain⟨its,r,⟨o,e,_,n,d⟩,_⟩:=I.tuple h;obtain⟨its',r',⟨o',e',_,n',d'⟩,_⟩:=I.tuple h';rw[e]at e';cases e';rw[d]at d';injection d' with d1 _;have:its=its':=by simpa using congrArg Array.toList d1
 subst this;exact r.inj r'
end
abbrev Cx.wish(X:Cx)(E:Value->Shared->Prop):Cx:={ X with xe:=E }
abbrev Cx.nox(X:Cx):Cx:=X.wish fun _ _=>False
theorem Cx.Ok.wish{X:Cx}(ok:X.Ok)(E:Value->Shared->Prop):(X.wish E).Ok:=
 ⟨ok.mod,ok.kind,ok.glob,ok.blt,ok.above,ok.inj,ok.has,ok.cab,ok.hd,ok.frames,ok.stk,ok.exf,ok.bs,ok.bsz,ok.noex,ok.exfs,ok.funs,ok.frf⟩
theorem Cx.Ok.unwish{X:Cx}{E:Value->Shared->Prop}(ok:(X.wish E).Ok):X.Ok:=
 ⟨ok.mod,ok.kind,ok.glob,ok.blt,ok.above,ok.inj,ok.has,ok.cab,ok.hd,ok.frames,ok.stk,ok.exf,ok.bs,ok.bsz,ok.noex,ok.exfs,ok.funs,ok.frf⟩
section
variable{X:Cx}{pins:List (Addr × Obj)}{σ:St}{H:Hp}{s:Shared}{E:Value->Shared->Prop}
theorem Inv.wish(I:Inv X pins σ H s)(E:Value->Shared->Prop):Inv (X.wish E) pins σ H s:=⟨I.ok.wish E,I.os,I.bare,I.base,I.loc,I.cell,I.free,I.freeC,I.pin,I.hok,I.len⟩
theorem Inv.unwish(I:Inv (X.wish E) pins σ H s):Inv X pins σ H s:=⟨I.ok.unwish,I.os,I.bare,I.base,I.loc,I.cell,I.free,I.freeC,I.pin,I.hok,I.len⟩
theorem SP.unwish{D:Ends}{f:Flow}{s':Shared}(h:SP (X.wish E) pins D f s'):SP X pins D f s':=by
 cases f with
 |next=>obtain⟨σ',H',I,q⟩:=h;exact⟨σ',H',I.unwish,q⟩
 |brk=>obtain⟨σ',H',I,q⟩:=h;exact⟨σ',H',I.unwish,q⟩
 |cont=>obtain⟨σ',H',I,q⟩:=h;exact⟨σ',H',I.unwish,q⟩
 |ret u=>obtain⟨v,σ',H',I,r,q⟩:=h;exact⟨v,σ',H',I.unwish,r,q⟩
theorem PE.nox{e:Expr}{t:TE}(h:PE X.nox e t):PE X e t:=fun pins s σ H Q I hw=>
 wpAny_mono (h pins s σ H Q (I.wish _) hw) (fun _ _ ⟨v,H',I',r,q⟩=>⟨v,H',I'.unwish,r,q⟩) fun _ _ z=>False.elim z
theorem PT.nox{e:Expr}{t:TT}(h:PT X.nox e t):PT X e t:=fun pins s σ H Q I hw=>
 wpAny_mono (h pins s σ H Q (I.wish _) hw) (fun _ _ ⟨H',I',q⟩=>⟨H',I'.unwish,q⟩) fun _ _ z=>False.elim z
theorem PSs.nox{st:List Stmt}{t:TS}(h:PSs X.nox st t):PSs X st t:=fun pins s σ H D I hw=>
 wpAny_mono (h pins s σ H D (I.wish _) hw) (fun _ _ q=>q.unwish) fun _ _ z=>False.elim z
end
section
variable{X:Cx}{st:Stmt}{yms:List Stmt}{t u:TS}{e:Expr}{te:TE}{pos:Pos}
def yiu:TS:=fun D σ H=>D.nx σ H
def ynu(t u:TS):TS:=fun D σ H=>t { D with nx:=u D } σ H
theorem zu6:PSs X [] yiu:=fun _ _ σ H _ I h=>wpAny_execs_nil ⟨σ,H,I,h⟩
theorem znz(h1:PS X st t)(h2:PSs X yms u):PSs X (st::yms) (ynu t u):=by
 intro pins s σ H D I h;refine wpAny_execs_cons (thn (h1 pins s σ H { D with nx:=u D } I h) fun f s1 q=>?_);cases f with
 |next=>
  obtain⟨σ',H',I',q⟩:=q;exact h2 pins s1 σ' H' D I' q
 |ret v=>exact q
 |brk=>exact q
 |cont=>exact q
theorem zu7(h1:PS X st t):PSs X [st] t:=by
 intro pins s σ H D I h;refine wpAny_execs_cons (thn (h1 pins s σ H D I h) fun f s1 q=>?_);cases f with
 |next=>exact wpAny_execs_nil q
 |ret v=>exact q
 |brk=>exact q
 |cont=>exact q
theorem Inv.quiet{pins:List (Addr × Obj)}{σ:St}{H:Hp}{s:Shared}(I:Inv X pins σ H s):interactive X.env=false:=by simp[interactive,I.ok.kind]
def yit(te:TE):TS:=fun D σ H=>te σ H fun _ H1=>D.nx σ H1
theorem zu5(he:PE X e te)(hs:swapsWith e none pos.line X.env=pure false:=by rfl):PS X (.Expr e pos) (yit te):=by
 intro pins s σ H D I h;exact wpAny_Expr_any (thn (he pins s σ H _ I h) fun v s1 ⟨x,H1,I1,r1,q1⟩=>⟨σ,H1,I1,q1⟩) I.quiet hs
def ynt(te:TE):TS:=fun D σ H=>te σ H D.rt
theorem yck(he:PE X e te):PS X (.Return (some e) pos) (ynt te):=by
 intro pins s σ H D I h;exact wpAny_Return_some (thn (he pins s σ H _ I h) fun v s1 ⟨x,H1,I1,r1,q1⟩=>⟨x,σ,H1,I1,r1,q1⟩)
def yno(c:TT)(t u:TS):TS:=fun D σ H=>c σ H fun b H1=>if b=true then t D σ H1 else u D σ H1
theorem yhq{c:Expr}{a b:List Stmt}{tc:TT}(hc:PT X c tc)(ha:PSs X a t)(hb:PSs X b u):PS X (.If c a b pos) (yno tc t u):=by
 intro pins s σ H D I h;refine wpAny_If (thn (hc pins s σ H _ I h) fun d s1 ⟨H1,I1,q1⟩=>?_);cases d with
 |true=>exact ha pins s1 σ H1 D I1 q1
 |false=>exact hb pins s1 σ H1 D I1 q1
end
abbrev TG:=V->St->Hp->(St->Hp->Prop)->Prop
abbrev TGs:=List V->St->Hp->(St->Hp->Prop)->Prop
def PG(X:Cx)(target:Expr)(t:TG):Prop:=
 ∀ (pins:List (Addr × Obj)) (s:Shared) (σ:St) (H:Hp) (v:V) (u:Value) (Q:St->Hp->Prop),Inv X pins σ H s->yjs v u->t v σ H Q->
  wpAny (model X.prog X.w) X.A (assign target X.env u) (fun _ s'=>∃ σ' H',Inv X pins σ' H' s'/\Q σ' H') X.xe s
def PGs(X:Cx)(ts:List Expr)(t:TGs):Prop:=
 ∀ (pins:List (Addr × Obj)) (s:Shared) (σ:St) (H:Hp) (vs:List V) (us:List Value) (Q:St->Hp->Prop),Inv X pins σ H s->yj1 vs us->t vs σ H Q->
  wpAny (model X.prog X.w) X.A (assignInOrder ((assignEach ts X.env).map (·.2)) us) (fun _ s'=>∃ σ' H',Inv X pins σ' H' s'/\Q σ' H') X.xe s
abbrev yjz:=V->V->V->Hp->(Hp->Prop)->Prop
def yjo(X:Cx)(t:yjz):Prop:=
 ∀ (pins:List (Addr × Obj)) (s:Shared) (σ:St) (H:Hp) (o i v:V) (ov iv u:Value) (Q:Hp->Prop),Inv X pins σ H s->yjs o ov->yjs i iv->yjs v u->t o i v H Q->
  wpAny (model X.prog X.w) X.A (setItem ov iv u) (fun _ s'=>∃ H',Inv X pins σ H' s'/\Q H') X.xe s
abbrev TIp:=V->V->Hp->VK->Prop
def PIp(X:Cx)(op:Operator)(t:TIp):Prop:=
 ∀ (pins:List (Addr × Obj)) (s:Shared) (σ:St) (H:Hp) (x y:V) (v u:Value) (Q:VK),Inv X pins σ H s->yjs x v->yjs y u->t x y H Q->
  wpAny (model X.prog X.w) X.A (inplaceOp op v u) (EP X pins σ Q) X.xe s
section
variable{X:Cx}{pos:Pos}
def yfz(i:Nat):TG:=fun v σ H Q=>Q (σ.set i (some v)) H
theorem zuy{i:Nat}{x:Str}(hN:X.N.Nodup)(hi:X.N[i]?=some x)(hx:Loc X.env.scope x)(hf:X.fn x=true\/X.env.scope.names.lookup x=some .local:=by first|exact .inl rfl|exact .inr rfl|assumption):PG X (.Name x pos) (yfz i):=by
 intro pins s σ H v u Q I r h;exact wpAny_assign_Name (zpb I hN hi hx r (fun s' I'=>⟨_,H,I',h⟩) hf)
def yk4:TGs:=fun vs σ H Q=>vs=[]/\Q σ H
def yfy(t:TG)(u:TGs):TGs:=fun vs σ H Q=>∃ v r,vs=v::r/\t v σ H fun σ' H'=>u r σ' H' Q
theorem zuz:PGs X [] yk4:=by
 intro pins s σ H vs us Q I r h;obtain⟨e,h⟩:=h;subst e;cases r;exact assignInOrder_nil ⟨σ,H,I,h⟩
theorem znu{e:Expr}{es:List Expr}{t:TG}{u:TGs}(h1:PG X e t)(h2:PGs X es u)
  (hs:(assignEach (e::es) X.env).map (·.2)=assign e X.env::(assignEach es X.env).map (·.2):=by rfl):PGs X (e::es) (yfy t u):=by
 intro pins s σ H vs us Q I r h;obtain⟨v,vr,e1,h⟩:=h;subst e1;cases r with
 |cons r rr=>
  rw[hs];refine assignInOrder_cons (thn (h1 pins s σ H _ _ _ I r h) fun _ s1 ⟨σ1,H1,I1,q1⟩=>?_);exact h2 pins s1 σ1 H1 _ _ Q I1 rr q1
def yk6(K:PySem.W.Frag)(n:Nat)(t:TGs):TG:=fun v σ H Q=>∃ a xs,v=.ref a/\SqT K H a xs/\xs.length=n/\t xs σ H Q
theorem ycb{es:List Expr}{k:Nat}{t:TGs}{n:Nat}(hc:X.calm=true)(h:PGs X es t)
  (hn:(assignEach es X.env).length=n:=by rfl) (hst:(assignEach es X.env).findIdx? (·.1)=none:=by rfl):PG X (.Tuple es k pos) (yk6 X.K n t):=by
 intro pins s σ H v u Q I r hw;obtain⟨a,xs,e1,hq,hl,hw⟩:=hw;subst e1;cases r;obtain⟨its,rv,ht,hz⟩:=I.tuple hq;refine assign_Tuple_tuple (I.ok.hd hc) ht (by simp[hn,<-hl,rv.length]) hst fun h' hx=>?_;have I1:Inv X pins σ H { s with heap:=h' }:=I.kept (t':=s.toks) fun b o e=>hx b o (Nat.ne_of_lt (Heap.lt_size e)) e;exact h pins _ σ H xs _ Q I1 (by simpa using rv) hw
def yk5(to ti:TE)(t:yjz):TG:=fun v σ H Q=>to σ H fun o H1=>ti σ H1 fun i H2=>t o i v H2 fun H3=>Q σ H3
theorem yca{o i:Expr}{to ti:TE}{t:yjz}(ho:PE X o to)(hi:PE X i ti)(hs:yjo X t)
  (ha:∀ v,assign (.Subscript o i pos) X.env v=(do
   let ov <-holding [v] (eval o X.env);let iv <-holding [v,ov] (eval i X.env)
   standAt pos
   holding [v,ov,iv] (setItem ov iv v)
   release [v,ov,iv] []):=by intro _;rfl):PG X (.Subscript o i pos) (yk5 to ti t):=by
 intro pins s σ H v u Q I r h;rw[ha];refine wpAny_bind (wpAny_holding (thn (ho pins s σ H _ I h) fun ov s1 ⟨x,H1,I1,r1,q1⟩=>?_));refine wpAny_bind (wpAny_holding (thn (hi pins s1 σ H1 _ I1 q1) fun iv s2 ⟨y,H2,I2,r2,q2⟩=>?_));refine wpAny_bind (wpAny_standAt (wpAny_bind (wpAny_holding (thn (hs pins s2 σ H2 x y v ov iv u _ I2 r1 r2 r q2) fun _ s3 ⟨H3,I3,q3⟩=>?_))));exact wpAny_release ⟨σ,H3,I3,q3⟩
def ynj(te:TE)(g:TG):TS:=fun D σ H=>te σ H fun x H1=>g x σ H1 D.nx
theorem ycg{tg e:Expr}{te:TE}{g:TG}(he:PE X e te)(hg:PG X tg g)(hs:swapsWithSole [tg] e pos.line X.env=pure false:=by rfl)(hw:swappedStores [tg] e X.env=pure none:=by rfl)
  (h1:(assignEach [tg] X.env).map (·.2)=[assign tg X.env]:=by rfl):PS X (.Assign [tg] e pos) (ynj te g):=by
 intro pins s σ H D I h;refine wpAny_Assign_stores (thn (he pins s σ H _ I h) fun v s1 ⟨x,H1,I1,r1,q1⟩=>?_) hs hw;rw[h1];exact thn (hg pins s1 σ H1 x v _ I1 r1 q1) fun _ s2 q=>q
theorem ycl{i:Nat}{x:Str}{e:Expr}{te:TE}{pos':Pos}(hN:X.N.Nodup)(hi:X.N[i]?=some x)(hx:Loc X.env.scope x)(he:PE X e te)(hs:swapsWith e (some (.Name x pos')) pos.line X.env=pure false:=by rfl)(hf:X.fn x=true\/X.env.scope.names.lookup x=some .local:=by first|exact .inl rfl|exact .inr rfl|assumption) :
  PS X (.Assign [.Name x pos'] e pos) (ynj te (yfz i)):=by
 intro pins s σ H D I h;refine wpAny_Assign_Name (thn (he pins s σ H _ I h) fun v s1 ⟨y,H1,I1,r1,q1⟩=>?_) hs;exact zpb I1 hN hi hx r1 (fun s2 I2=>⟨_,H1,I2,q1⟩) hf
def ynk(i:Nat)(te:TE)(ti:TIp):TS:=fun D σ H=>∃ x,σ[i]?=some (some x)/\te σ H fun y H1=>ti x y H1 fun z H2=>D.nx (σ.set i (some z)) H2
theorem ych{i:Nat}{x:Str}{e:Expr}{te:TE}{op:Operator}{ti:TIp}{pos':Pos}(hN:X.N.Nodup)(hi:X.N[i]?=some x)(hx:Loc X.env.scope x)(he:PE X e te)(ho:PIp X op ti)(hf:X.fn x=true\/X.env.scope.names.lookup x=some .local:=by first|exact .inl rfl|exact .inr rfl|assumption) :
  PS X (.AugAssign (.Name x pos') op e pos) (ynk i te ti):=by
 intro pins s σ H D I h;obtain⟨v,e1,h⟩:=h;obtain⟨m,hn,hl⟩:=I.loc;have vis:Vis X.env.scope x:=by rcases hx with k|k;exact .inl k;exact .inr (.inl k)
 obtain⟨u,r,l⟩:=hl i x v hi e1 vis;refine wpAny_AugAssign_Name ?_;have go:wpAny (model X.prog X.w) X.A (eval e X.env) (fun w s₂=>wpAny (model X.prog X.w) X.A (inplaceOp op u w) (fun r s₃=>wpAny (model X.prog X.w) X.A (storeName X.env x r) (fun _=>SP X pins D .next) X.xe s₃) X.xe s₂) X.xe s:=by
  refine thn (he pins s σ H _ I h) fun w s1 ⟨y,H1,I1,r1,q1⟩=>?_;refine thn (ho pins s1 σ H1 v y u w _ I1 r r1 q1) fun z s2 ⟨zv,H2,I2,r2,q2⟩=>?_;exact zpb I2 hN hi hx r2 (fun s3 I3=>⟨_,H2,I3,q2⟩) hf
 rcases l with⟨hk,hm⟩|⟨hk,c,hc,hcell⟩
 ·exact wpAny_loadName_local I.ok.kind hk hn hm go
 ·rcases hk with hk|hk
  ·exact wpAny_loadName_cell I.ok.kind hk hc hcell go
  ·rcases hx with k|k
   ·have:X.env.scope.names.lookup x=some .free:=hk;rw[k]at this;cases this
   ·have:X.env.scope.names.lookup x=some .free:=hk;rw[k]at this;cases this
def ipI(f:Int->Int->Int):TIp:=fun x y H Q=>∃ i j,x=.int i/\y=.int j/\Q (.int (f i j)) H
theorem yaf:PIp X .Add (ipI fun i j=>i+j):=by
 intro pins s σ H x y v u Q I r1 r2 h;obtain⟨i,j,e1,e2,q⟩:=h;subst e1;subst e2;obtain⟨t,rfl⟩:=r1;obtain⟨t',rfl⟩:=r2;exact iadd_int ⟨.int _,H,I.tok _,⟨_,rfl⟩,q⟩
end
section
variable{X:Cx}{pos:Pos}
end
structure It where
 go:Nat->Hp->Prop
 yld:Nat->Hp->V->Hp->Prop
 stop:Nat->Hp->Prop
def yjh(X:Cx)(pins:List (Addr × Obj))(H:Hp)(b:Addr):Prop:=
 H b=none/\b≠X.env.locals/\b ∉ X.fs/\(b∈X.ex\/X.s₀.heap.objs.size<=b)/\(∀ x c,X.env.cells.lookup x=some c->c≠b)/\∀ p∈X.pn++pins,p.1≠b
theorem Inv.fpOk{X:Cx}{pins:List (Addr × Obj)}{σ:St}{H H':Hp}{s:Shared}{b:Addr}(I:Inv X pins σ H s)(hb:s.heap.objs.size<=b)(hn:H' b=none):yjh X pins H' b:=by
 refine⟨hn,Nat.ne_of_gt (Nat.lt_of_lt_of_le I.lt hb),I.nofs hb,.inr (Nat.le_trans I.sz hb),fun x c e z=>?_,fun p hp z=>?_⟩
 ·obtain⟨v,q⟩:=I.cell x c e;exact absurd (Nat.lt_of_lt_of_le q.lt (by rw[z];exact hb)) (Nat.lt_irrefl _)
 ·exact absurd (Nat.lt_of_lt_of_le (Heap.lt_size (I.pin p hp).1) (by rw[z];exact hb)) (Nat.lt_irrefl _)
structure Turn(P:Program)(w:World)(K:PySem.W.Frag)(tg:Expr)(J:It)(fp:List Addr)(it:Addr)(tn:Nat->Heap->Prop):Prop where
 mem:it∈fp
 obj:∀ i h,tn i h->∀ b∈fp,∃ o,h.get? b=some o/\∀ v,o.data≠.cell v
 keep:∀ i h h',tn i h->(∀ b∈fp,∀ o,h.get? b=some o->h'.get? b=some o)->tn i h'
 item:∀ (X:Cx),X.prog=P->X.w=w->X.K=K->X.calm=true->∀ (i:Nat) (pins:List (Addr × Obj)) (s:Shared) (σ:St) (H:Hp) (E:Value->Shared->Prop),Inv X pins σ H s->(∀ b∈fp,yjh X pins H b)->tn i s.heap->J.go i H->
  wpAny (model P w) X.A (pyNext (.ref it)) (fun r s1=>∃ u,r=some u/\
   wpAny (model P w) X.A (letOwnedTupleGo tg (.ref it) u) (fun _ s2=>∃ x H',Inv X pins σ H' s2/\yjs x u/\J.yld i H x H'/\tn (i+1) s2.heap/\∀ b∈fp,H' b=none) E s1) E s
 done:∀ (X:Cx),X.prog=P->X.w=w->X.K=K->X.calm=true->∀ (i:Nat) (pins:List (Addr × Obj)) (s:Shared) (σ:St) (H:Hp) (E:Value->Shared->Prop),Inv X pins σ H s->(∀ b∈fp,yjh X pins H b)->tn i s.heap->J.stop i H->
  wpAny (model P w) X.A (pyNext (.ref it)) (fun r s1=>r=none/\Inv X pins σ H s1) E s
 self:∀ (A:Around) (i:Nat) (s:Shared) (Q:Value->Shared->Prop) (E:Value->Shared->Prop),tn i s.heap->Q (.ref it) s->wpAny (model P w) A (pyIter (.ref it)) Q E s
abbrev TI:=St->Hp->(It->Hp->Prop)->Prop
def PIE(X:Cx)(pins:List (Addr × Obj))(σ:St)(tg:Expr)(R:It->Hp->Prop)(itv:Value)(s2:Shared):Prop:=
 ∃ (it:Addr) (fp:List Addr) (tn:Nat->Heap->Prop) (J:It) (H':Hp),itv=.ref it/\Inv X pins σ H' s2/\Turn X.prog X.w X.K tg J fp it tn/\tn 0 s2.heap/\(∀ b∈fp,yjh X pins H' b)/\R J H'
def PI(X:Cx)(tg iter:Expr)(wi:TI):Prop:=
 ∀ (pins:List (Addr × Obj)) (s:Shared) (σ:St) (H:Hp) (R:It->Hp->Prop),Inv X pins σ H s->wi σ H R->
  wpAny (model X.prog X.w) X.A (eval iter X.env) (fun v s1=>wpAny (model X.prog X.w) X.A (pyIter v) (PIE X pins σ tg R) X.xe s1) X.xe s
theorem yf1 {M : Model} {A : Around} {E : Value -> Shared -> Prop} {s : Shared} {tg : Expr} {it : Addr} {u : Value} {o : Obj} {n : String} {vs : Array Value} {Q : Unit -> Shared -> Prop} (ho : s.heap.get? it = some o) (hc : o.cls = .type n) (hd : o.data = .fields vs)
    (hn : ["enumerate", "zip", "dict_itemiterator", "dict_reverseitemiterator", "odict_iterator", "itertools.zip_longest", "itertools.pairwise"].contains n = false) (hQ : Q () s) : wpAny M A (letOwnedTupleGo tg (.ref it) u) Q E s := by
  unfold letOwnedTupleGo;cases tg <;> first
    | exact wpAny_pure hQ
    | (cases u <;> first
        | exact wpAny_pure hQ
        | (refine wpAny_bind (wpAny_load ho ?_)
           rw [hc, hd];show wpAny M A (if (["enumerate", "zip", "dict_itemiterator", "dict_reverseitemiterator", "odict_iterator", "itertools.zip_longest", "itertools.pairwise"].contains n && vs[0]? == some (rawInt _)) = true then _ else _) Q E s;rw [if_neg (by intro h; rw [hn, Bool.false_and] at h; cases h)];exact wpAny_pure hQ))
def Itl(K:PySem.W.Frag)(a:Addr):It:=
 ⟨fun i H=>∃ xs x,SqL K H a xs/\xs[i]?=some x,fun i H x H'=>H'=H/\∀ xs,SqL K H a xs->xs[i]?=some x,fun i H=>∃ xs,SqL K H a xs/\xs.length<=i⟩
def Itt(K:PySem.W.Frag)(a:Addr):It:=
 ⟨fun i H=>∃ xs x,SqT K H a xs/\xs[i]?=some x,fun i H x H'=>H'=H/\∀ xs,SqT K H a xs->xs[i]?=some x,fun i H=>∃ xs,SqT K H a xs/\xs.length<=i⟩
def Itr(lo:Int)(n:Nat):It:=⟨fun i _=>i<n,fun i H x H'=>H'=H/\x=.int (lo+i),fun i _=>n<=i⟩
theorem zjw{P:Program}{w:World}{K:PySem.W.Frag}{tg:Expr}(a it:Addr):Turn P w K tg (Itl K a) [it] it (fun i h=>h.IsListIter it a i) where
 mem:=by simp
 obj:=fun i h st b hb=>by
  have e:b=it:=by simpa using hb
  subst e;obtain⟨o,e,c,d⟩:=st;exact⟨o,e,fun v z=>by rw[d]at z;cases z⟩
 keep:=fun i h h' st k=>st.at fun o e=>k it (by simp) o e
 item:=by
  intro X hP hw hK hc i pins s σ H E I hf st hg;subst hP hw hK;obtain⟨xs,x,hq,hx⟩:=hg;obtain⟨its,rv,p,hz⟩:=I.list hq;obtain⟨u,hu,ru⟩:=rv.get hx;obtain⟨f0,f1,f2,f3,f4,f5⟩:=hf it (by simp);refine wpAny_pyNext_list_item st p.isList (x:=u) (by simpa using hu) fun h' st' sb=>?_;have I1:Inv X pins σ H { s with heap:=h' }:=I.turned (t':=s.toks) (fun b o hb e=>(sb.2 b hb).trans e) f0 f1 f3 f4 f5;obtain⟨o,e,c,d⟩:=id st';exact⟨u,rfl,yf1 (s:={ s with heap:=h' }) e c d (by decide) ⟨x,H,I1,ru,⟨rfl,fun ys hy=>by rw[I.list_inj hy hq];exact hx⟩,st',fun b hb=>(hf b hb).1⟩⟩
 done:=by
  intro X hP hw hK hc i pins s σ H E I hf st hg;subst hP hw hK;obtain⟨xs,hq,hx⟩:=hg;obtain⟨its,rv,p,hz⟩:=I.list hq;obtain⟨f0,f1,f2,f3,f4,f5⟩:=hf it (by simp);have hl:=rv.length;exact wpAny_pyNext_list_end (I.ok.hd hc) st p.isList (by simp;omega) fun h' eb=>⟨rfl,I.turned (t':=s.toks) (fun b o hb e=>eb b o hb e) f0 f1 f3 f4 f5⟩
 self:=fun _ _ _ _ _ st h=>wpAny_pyIter_listiter st h
theorem zgu{P:Program}{w:World}{K:PySem.W.Frag}{tg:Expr}(a it:Addr):Turn P w K tg (Itt K a) [it] it (fun i h=>h.IsTupleIter it a i) where
 mem:=by simp
 obj:=fun i h st b hb=>by
  have e:b=it:=by simpa using hb
  subst e;obtain⟨o,e,c,d⟩:=st;exact⟨o,e,fun v z=>by rw[d]at z;cases z⟩
 keep:=fun i h h' st k=>st.at fun o e=>k it (by simp) o e
 item:=by
  intro X hP hw hK hc i pins s σ H E I hf st hg;subst hP hw hK;obtain⟨xs,x,hq,hx⟩:=hg;obtain⟨its,rv,p,hz⟩:=I.tuple hq;obtain⟨u,hu,ru⟩:=rv.get hx;obtain⟨f0,f1,f2,f3,f4,f5⟩:=hf it (by simp);refine wpAny_pyNext_tuple_item st (show s.heap.IsTuple a its.toArray from p) (x:=u) (by simpa using hu) fun h' st' sb=>?_;have I1:Inv X pins σ H { s with heap:=h' }:=I.turned (t':=s.toks) (fun b o hb e=>(sb.2 b hb).trans e) f0 f1 f3 f4 f5;obtain⟨o,e,c,d⟩:=id st';exact⟨u,rfl,yf1 (s:={ s with heap:=h' }) e c d (by decide) ⟨x,H,I1,ru,⟨rfl,fun ys hy=>by rw[I.tuple_inj hy hq];exact hx⟩,st',fun b hb=>(hf b hb).1⟩⟩
 done:=by
  intro X hP hw hK hc i pins s σ H E I hf st hg;subst hP hw hK;obtain⟨xs,hq,hx⟩:=hg;obtain⟨its,rv,p,hz⟩:=I.tuple hq;obtain⟨f0,f1,f2,f3,f4,f5⟩:=hf it (by simp);have hl:=rv.length;exact wpAny_pyNext_tuple_end (I.ok.hd hc) st (show s.heap.IsTuple a its.toArray from p) (by simp;omega) fun h' eb=>⟨rfl,I.turned (t':=s.toks) (fun b o hb e=>eb b o hb e) f0 f1 f3 f4 f5⟩
 self:=fun _ _ _ _ _ st h=>wpAny_pyIter_tupleiter st h
theorem zgt{P:Program}{w:World}{K:PySem.W.Frag}{tg:Expr}(it:Addr)(lo:Int)(n:Nat):Turn P w K tg (Itr lo n) [it] it (fun i h=>IsRangeIter h it (lo+(i:Nat) * 1) ((n:Int) - (i:Nat)) 1) where
 mem:=by simp
 obj:=fun i h st b hb=>by
  have e:b=it:=by simpa using hb
  subst e;exact⟨_,st,fun v z=>by
   have z':Data.fields _=Data.cell v:=z;cases z'⟩
 keep:=fun i h h' st k=>k it (by simp) _ st
 item:=by
  intro X hP hw hK hc i pins s σ H E I hf st hg;subst hP hw hK;obtain⟨f0,f1,f2,f3,f4,f5⟩:=hf it (by simp);have W:=Walks.range (prog:=X.prog) (w:=X.w) (I.ok.hd hc) it lo 1 n;refine W.item i s _ _ hg st fun v h' tk hv st' kk=>?_;obtain⟨t,rfl⟩:=hv;have I1:Inv X pins σ H { s with heap:=h',toks:=tk }:=I.turned (fun b o hb e=>kk b o (by simpa using hb) e) f0 f1 f3 f4 f5;refine⟨_,rfl,yf1 (s:={ s with heap:=h',toks:=tk }) (n:="range_iterator") st' rfl rfl (by decide) ⟨.int (lo+i),H,I1,⟨t,?_⟩,⟨rfl,rfl⟩,st',fun b hb=>(hf b hb).1⟩⟩;rw[Int.mul_one]
 done:=by
  intro X hP hw hK hc i pins s σ H E I hf st hg;subst hP hw hK;obtain⟨f0,f1,f2,f3,f4,f5⟩:=hf it (by simp);exact wpAny_pyNext_range_end (I.ok.hd hc) st (by have:n<=i:=hg;omega) fun h' eb=>⟨rfl,I.turned (t':=s.toks) (fun b o hb e=>eb b o hb e) f0 f1 f3 f4 f5⟩
 self:=fun _ _ _ _ _ st h=>wpAny_pyIter_rangeiter st h
end L2
namespace L2
open PySem PySem.Spec PyProof.Rows
section
variable{X:Cx}{tg:Expr}
theorem zn5{pins:List (Addr × Obj)}{σ:St}{H:Hp}{s:Shared}{R:It->Hp->Prop}{E:Value->Shared->Prop}{lo hi:Int}{t u v:Tok}{tk:Nat}(I:Inv X pins σ H s)(h1:-(2 ^ 62)<=lo)(h2:lo<2 ^ 62)(h3:-(2 ^ 62)<=hi)(h4:hi<2 ^ 62)
  (q:R (Itr lo (hi - lo).toNat) H):wpAny (model X.prog X.w) X.A (pyIter (.ref s.heap.objs.size)) (PIE X pins σ tg R) E { s with heap:=s.heap.push { cls:=.type "range",data:=.fields #[.int lo t,.int hi u,.int 1 v] },toks:=tk }:=by
 refine wpAny_pyIter_range (IsRange.new ..) (small_one h1 h2 h3 h4) ?_;have I1:Inv X pins σ H { s with heap:=s.heap.push { cls:=.type "range",data:=.fields #[.int lo t,.int hi u,.int 1 v] },toks:=tk }:=I.kept fun b o e=>Heap.get?_push_of_some _ e;refine⟨(s.heap.push { cls:=.type "range",data:=.fields #[.int lo t,.int hi u,.int 1 v] }).objs.size,[(s.heap.push { cls:=.type "range",data:=.fields #[.int lo t,.int hi u,.int 1 v] }).objs.size],_,_,H,rfl,
  I1.kept (t':=tk) fun b o e=>Heap.get?_push_of_some _ e,zgt _ lo (hi - lo).toNat,?_,fun b hb=>?_,q⟩
 ·have e1:lo+((0:Nat):Int) * 1=lo:=by simp
  have e2:(((hi - lo).toNat:Nat):Int) - ((0:Nat):Int)=Builtin.Range.rangeSize lo hi 1:=by rw[rangeSize_one];split<;>omega
  show IsRangeIter _ _ (lo+((0:Nat):Int) * 1) ((((hi - lo).toNat:Nat):Int) - ((0:Nat):Int)) 1;rw[e1,e2];exact Heap.get?_push_size _ rfl
 ·have e:b=(s.heap.push { cls:=.type "range",data:=.fields #[.int lo t,.int hi u,.int 1 v] }).objs.size:=by simpa using hb
  subst e;exact I1.fpOk (Nat.le_refl _) (I1.hok.fresh (Nat.le_refl _))
def yf2(ta:TA):TI:=fun σ H R=>ta σ H fun vs H1=>∃ j:Int,vs=[.int j]/\-(2 ^ 62)<=j/\j<2 ^ 62/\R (Itr 0 j.toNat) H1
theorem zi4{a:Expr}{ta:TA}{p pos:Pos}(hg:Gl X "range")(hm:X.mg "range" = none)(ha:PA X [a] ta)(hs:starEach [a] X.env=[(false,eval a X.env)]:=by rfl):PI X tg (.Call (.Name "range" p) [a] [] pos) (yf2 ta):=by
 intro pins s σ H R I h;refine Call_ (yaw I hg hm boot_range (PyProof.Rows.callWith_type1 (thn (ha pos pins s σ H _ I h) fun us s1 ⟨vs,H1,I1,r1,q1⟩=>?_) hs rfl));obtain⟨j,e,q1,q2,q⟩:=q1;subst e;cases r1 with
 |cons r rr=>
  cases rr;obtain⟨t,rfl⟩:=r;exact call_range_1 (zn5 I1 (by omega) (by omega) q1 q2 (by simpa using q))
def ynn(wi:TI)(g:TG)(tb:TS):TS:=fun D σ H=>wi σ H fun J H1=>∃ W:Nat->Nat->St->Hp->Prop,(∃ m,W 0 m σ H1)/\∀ i m σ H,W i m σ H->
 (J.stop i H/\D.nx σ H)\/(J.go i H/\∃ N:St->Hp->Prop,(∀ σ' H',N σ' H'->∃ m',m'<m/\W (i+1) m' σ' H')/\∀ x H',J.yld i H x H'->g x σ H' fun σ2 H2=>tb { D with nx:=N,ct:=N,bk:=D.nx } σ2 H2)
def yce(fp:List Addr)(h:Heap):List (Addr × Obj):=fp.filterMap fun b=>(h.get? b).map fun o=>(b,o)
theorem zf3{fp:List Addr}{h:Heap}{b:Addr}{o:Obj}(hb:b∈fp)(e:h.get? b=some o):(b,o)∈yce fp h:=List.mem_filterMap.mpr ⟨b,hb,by rw[e];rfl⟩
theorem ziy{fp:List Addr}{h:Heap}{p:Addr × Obj}(hp:p∈yce fp h):p.1∈fp/\h.get? p.1=some p.2:=by
 obtain⟨b,hb,e⟩:=List.mem_filterMap.mp hp;cases q:h.get? b with
 |none=>rw[q]at e;cases e
 |some o=>
  rw[q]at e;have e':(b,o)=p:=Option.some.inj e;subst e';exact⟨hb,q⟩
theorem Inv.pinned{pins:List (Addr × Obj)}{σ:St}{H:Hp}{s:Shared}{fp:List Addr}(I:Inv X pins σ H s)(hf:∀ b∈fp,yjh X pins H b)(ho:∀ b∈fp,∃ o,s.heap.get? b=some o/\∀ v,o.data≠.cell v):Inv X (pins++yce fp s.heap) σ H s:=
 I.pins_of fun p hp=>(List.mem_append.mp hp).elim (fun z=>I.pin p (List.mem_append_right _ z)) fun z=>by
  obtain⟨hb,e⟩:=ziy z;obtain⟨f0,f1,f2,_⟩:=hf p.1 hb;obtain⟨o,e',d⟩:=ho p.1 hb;rw[e]at e';cases e';exact⟨e,f0,f1,f2,d⟩
theorem Inv.unpinned{pins pl:List (Addr × Obj)}{σ:St}{H:Hp}{s:Shared}(I:Inv X (pins++pl) σ H s):Inv X pins σ H s:=I.pins_of fun p hp=>I.pin p (List.mem_append_right _ (List.mem_append_left _ hp))
theorem ycj{iter:Expr}{body:List Stmt}{wi:TI}{g:TG}{tb:TS}{pos:Pos}(hp:PassesOwn (model X.prog X.w) X.A X.env X.xe)(hc:X.calm=true)(hi:PI X tg iter wi)(hg:PG X tg g)(hb:PSs X body tb)
  (hs:∀ x,foldedSetIterable iter X.env x=pure x:=by intro _;rfl):PS X (.For tg iter body [] pos) (ynn wi g tb):=by
 intro pins s σ H D I h;refine wpAny_For (thn (hi pins s σ H _ I h) fun v s1 h1=>thn h1 fun itv s2 h2=>?_) hs;obtain⟨it,fp,tn,J,H2,e,I2,T,st2,f2,W,⟨m0,w0⟩,turn⟩:=h2;subst e;have stat:∀ {H':Hp},(∀ b∈fp,H' b=none)->∀ b∈fp,yjh X pins H' b:=fun hn b hb=>⟨hn b hb,(f2 b hb).2⟩
 refine codeAny_forLoop_any (fun n s'=>∃ i σ' H',Inv X pins σ' H' s'/\tn i s'.heap/\(∀ b∈fp,H' b=none)/\W i n σ' H') ?_ m0 ⟨0,σ,H2,I2,st2,fun b hb=>(f2 b hb).1,w0⟩;rintro n s3 ⟨i,σ3,H3,I3,st3,fr3,w3⟩;rcases turn i n σ3 H3 w3 with⟨stop,qn⟩|⟨go,N,hN,step⟩
 ·refine wpAny_passesOwn hp (thn (T.done X rfl rfl rfl hc i pins s3 σ3 H3 X.xe I3 (stat fr3) st3 stop) fun r s4 ⟨hr,I4⟩=>?_);subst hr;exact wpAny_execs_nil ⟨σ3,H3,I4,qn⟩
 ·refine wpAny_passesOwn hp (thn (T.item X rfl rfl rfl hc i pins s3 σ3 H3 X.xe I3 (stat fr3) st3 go) fun r s4 ⟨u,hr,h4⟩=>?_);subst hr;refine wpAny_passesOwn hp (thn h4 fun _ s5 ⟨x,H5,I5,r5,y5,st5,fr5⟩=>?_);have I5':=I5.pinned (stat fr5) (T.obj _ _ st5);refine wpAny_passesOwn hp (thn (hg _ s5 σ3 H5 x u _ I5' r5 (step x H5 y5)) fun _ s6 ⟨σ6,H6,I6,q6⟩=>?_);refine wpAny_passesOwn hp (thn (hb _ s6 σ6 H6 _ I6 q6) fun f s7 q7=>?_);have again:∀ {σ7:St} {H7:Hp},Inv X (pins++yce fp s5.heap) σ7 H7 s7->N σ7 H7->∃ m,m<n/\∃ i σ' H',Inv X pins σ' H' s7/\tn i s7.heap/\(∀ b∈fp,H' b=none)/\W i m σ' H':=fun {σ7 H7} I7 n7=>by
   obtain⟨m',hm,w7⟩:=hN σ7 H7 n7;refine⟨m',hm,i+1,σ7,H7,I7.unpinned,T.keep _ _ _ st5 fun b hb o e=>(I7.pin (b,o) (List.mem_append_right _ (List.mem_append_right _ (zf3 hb e)))).1,fun b hb=>?_,w7⟩;obtain⟨o,e,d⟩:=T.obj _ _ st5 b hb;exact(I7.pin (b,o) (List.mem_append_right _ (List.mem_append_right _ (zf3 hb e)))).2.1
  cases f with
  |next=>obtain⟨σ7,H7,I7,n7⟩:=q7;exact again I7 n7
  |cont=>obtain⟨σ7,H7,I7,n7⟩:=q7;exact again I7 n7
  |brk=>obtain⟨σ7,H7,I7,q7⟩:=q7;exact⟨σ7,H7,I7.unpinned,q7⟩
  |ret v=>obtain⟨x7,σ7,H7,I7,r7,q7⟩:=q7;exact⟨x7,σ7,H7,I7.unpinned,r7,q7⟩
end
end L2
namespace L2
open PySem PySem.Spec PyProof.Rows
abbrev R2:=V->V->Hp->VK->Prop
def OpR(X:Cx)(f:Value->Value->Sem Value)(r:R2):Prop:=
 ∀ (pins:List (Addr × Obj)) (s:Shared) (σ:St) (H:Hp) (x y:V) (v u:Value) (Q:VK),Inv X pins σ H s->yjs x v->yjs y u->r x y H Q->
  wpAny (model X.prog X.w) X.A (f v u) (EP X pins σ Q) X.xe s
def UnR(X:Cx)(f:Value->Sem Value)(r:V->Hp->VK->Prop):Prop:=
 ∀ (pins:List (Addr × Obj)) (s:Shared) (σ:St) (H:Hp) (x:V) (v:Value) (Q:VK),Inv X pins σ H s->yjs x v->r x H Q->
  wpAny (model X.prog X.w) X.A (f v) (EP X pins σ Q) X.xe s
def yd2(X:Cx)(f:Value)(r:List V->Hp->VK->Prop):Prop:=
 ∀ (pins:List (Addr × Obj)) (s:Shared) (σ:St) (H:Hp) (xs:List V) (us:List Value) (Q:VK),Inv X pins σ H s->yj1 xs us->r xs H Q->
  wpAny (model X.prog X.w) X.A (call f us) (EP X pins σ Q) X.xe s
def tOp(r:R2)(ta tb:TE):TE:=fun σ H Q=>ta σ H fun x H1=>tb σ H1 fun y H2=>r x y H2 Q
def tUn(r:V->Hp->VK->Prop)(ta:TE):TE:=fun σ H Q=>ta σ H fun x H1=>r x H1 Q
def rI(C:Int->Int->Prop)(g:Int->Int->V):R2:=fun x y H Q=>∃ i j,x=.int i/\y=.int j/\C i j/\Q (g i j) H
def rI0(g:Int->Int->V):R2:=fun x y H Q=>∃ i j,x=.int i/\y=.int j/\Q (g i j) H
def rU(g:Int->V):V->Hp->VK->Prop:=fun x H Q=>∃ i,x=.int i/\Q (g i) H
section
variable{X:Cx}{a b c:Expr}{ta tb tc:TE}{pos:Pos}
theorem ykb(ha:PE X a ta)(hb:PE X b tb){pins:List (Addr × Obj)}{s:Shared}{σ:St}{H:Hp}{R:V->V->Hp->Prop}(I:Inv X pins σ H s)
  (h:ta σ H fun x H1=>tb σ H1 fun y H2=>R x y H2) {Q:Value->Shared->Prop} {f:Value->Value->Sem Value}
  (hf:∀ v u s2 x y H2,Inv X pins σ H2 s2->yjs x v->yjs y u->R x y H2->wpAny (model X.prog X.w) X.A (f v u) Q X.xe s2) :
  wpAny (model X.prog X.w) X.A (eval a X.env) (fun v s₁=>wpAny (model X.prog X.w) X.A (eval b X.env) (fun u s₂=>wpAny (model X.prog X.w) X.A (f v u) Q X.xe s₂) X.xe s₁) X.xe s:=by
 refine thn (ha pins s σ H _ I h) fun v s1 ⟨x,H1,I1,r1,q1⟩=>?_;refine thn (hb pins s1 σ H1 _ I1 q1) fun u s2 ⟨y,H2,I2,r2,q2⟩=>?_;exact hf v u s2 x y H2 I2 r1 r2 q2
theorem yhl{op:Operator}{r:R2}(ho:OpR X (binaryOp op) r)(ha:PE X a ta)(hb:PE X b tb):PE X (.BinOp a op b pos) (tOp r ta tb):=by
 intro pins s σ H Q I h;exact wpAny_BinOp (ykb ha hb I h fun v u s2 x y H2 I2 rx ry q=>ho pins s2 σ H2 x y v u Q I2 rx ry q)
theorem yhn{op:UnaryOp}{r:V->Hp->VK->Prop}(ho:UnR X (unaryOp op) r)(ha:PE X a ta):PE X (.UnaryOp op a pos) (tUn r ta):=by
 intro pins s σ H Q I h;exact UnaryOp_ (thn (ha pins s σ H _ I h) fun v s1 ⟨x,H1,I1,r1,q1⟩=>ho pins s1 σ H1 x v Q I1 r1 q1)
theorem opI{f:Value->Value->Sem Value}{C:Int->Int->Prop}{g:Int->Int->Int}
  (rule:∀ (i j:Int) (t u:Tok) (s:Shared) (Q:Value->Shared->Prop) (E:Value->Shared->Prop),C i j->Q (.int (g i j) s.toks) { s with toks:=s.toks+1 }->wpAny (model X.prog X.w) X.A (f (.int i t) (.int j u)) Q E s) :
  OpR X f (rI C fun i j=>.int (g i j)):=by
 intro pins s σ H x y v u Q I rx ry h;obtain⟨i,j,rfl,rfl,hc,q⟩:=h;obtain⟨t,rfl⟩:=rx;obtain⟨t',rfl⟩:=ry;exact rule i j t t' s _ _ hc ⟨.int (g i j),H,I.tok _,⟨_,rfl⟩,q⟩
theorem ymd{f:Value->Value->Sem Value}{g:Int->Int->Int}
  (rule:∀ (i j:Int) (t u:Tok) (s:Shared) (Q:Value->Shared->Prop) (E:Value->Shared->Prop),Q (.int (g i j) s.toks) { s with toks:=s.toks+1 }->wpAny (model X.prog X.w) X.A (f (.int i t) (.int j u)) Q E s) :
  OpR X f (rI0 fun i j=>.int (g i j)):=by
 intro pins s σ H x y v u Q I rx ry h;obtain⟨i,j,rfl,rfl,q⟩:=h;obtain⟨t,rfl⟩:=rx;obtain⟨t',rfl⟩:=ry;exact rule i j t t' s _ _ ⟨.int (g i j),H,I.tok _,⟨_,rfl⟩,q⟩
theorem ymc{f:Value->Value->Sem Value}{g:Int->Int->Bool}
  (rule:∀ (i j:Int) (t u:Tok) (s:Shared) (Q:Value->Shared->Prop) (E:Value->Shared->Prop),Q (.bool (g i j)) s->wpAny (model X.prog X.w) X.A (f (.int i t) (.int j u)) Q E s) :
  OpR X f (rI0 fun i j=>.bl (g i j)):=by
 intro pins s σ H x y v u Q I rx ry h;obtain⟨i,j,rfl,rfl,q⟩:=h;obtain⟨t,rfl⟩:=rx;obtain⟨t',rfl⟩:=ry;exact rule i j t t' s _ _ ⟨.bl (g i j),H,I,rfl,q⟩
def yja(i j:Int):Prop:=0<j/\j<1073741824
def yjc(i j:Int):Prop:=0<=j/\j<=1000000/\i.natAbs<2 ^ 64
def yjb(i j:Int):Prop:=(-(2 ^ 64)<i/\i<2 ^ 64)\/(-(2 ^ 64)<j/\j<2 ^ 64)
theorem yjb.ok{i j:Int}(h:yjb i j):IntMulOk i j:=by
 rcases h with⟨h1,h2⟩|⟨h1,h2⟩
 ·exact .of_left (intBits_le_64 h1 h2)
 ·exact .of_right (intBits_le_64 h1 h2)
theorem ybl:OpR X (binaryOp .Add) (rI0 fun i j=>.int (i+j)):=ymd fun _ _ _ _ _ _ _ q=>add_int q
theorem ybw:OpR X (binaryOp .Sub) (rI0 fun i j=>.int (i - j)):=ymd fun _ _ _ _ _ _ _ q=>sub_int q
theorem ybs:OpR X (binaryOp .Mult) (rI yjb fun i j=>.int (i * j)):=opI fun _ _ _ _ _ _ _ hc q=>mul_int q hc.ok
theorem zum:OpR X (binaryOp .FloorDiv) (rI yja fun i j=>.int (i / j)):=opI fun i j _ _ _ _ _ hc q=>by
 have h1:(0:Int)<j:=hc.1;have h2:j<1073741824:=hc.2;exact floordiv_int (by omega) (by rw[Int.fdiv_eq_ediv_of_nonneg i (by omega)];exact q) (.inl (PyProof.noPylong_small (by omega)))
theorem ybr:OpR X (binaryOp .Mod) (rI (fun _ j=>0<j) fun i j=>.int (i % j)):=opI fun i j _ _ _ _ _ hc q=>by
 have h1:(0:Int)<j:=hc;exact mod_int' (by omega) (by rw[Int.fmod_eq_emod_of_nonneg i (by omega)];exact q)
theorem ybv:OpR X (binaryOp .Pow) (rI yjc fun i j=>.int (i ^ j.toNat)):=opI fun _ _ _ _ _ _ _ hc q=>pow_int_small hc.1 hc.2.1 hc.2.2 q
theorem unI{f:Value->Sem Value}{g:Int->Int}
  (rule:∀ (i:Int) (t:Tok) (s:Shared) (Q:Value->Shared->Prop) (E:Value->Shared->Prop),Q (.int (g i) s.toks) { s with toks:=s.toks+1 }->wpAny (model X.prog X.w) X.A (f (.int i t)) Q E s) :
  UnR X f (rU fun i=>.int (g i)):=by
 intro pins s σ H x v Q I rx h;obtain⟨i,rfl,q⟩:=h;obtain⟨t,rfl⟩:=rx;exact rule i t s _ _ ⟨.int (g i),H,I.tok _,⟨_,rfl⟩,q⟩
theorem ydw:UnR X (unaryOp .USub) (rU fun i=>.int (-i)):=unI fun _ _ _ _ _ q=>neg_int q
end
section
variable{X:Cx}{a b c:Expr}{ta tb tc:TE}{pos:Pos}
theorem zzk{pins:List (Addr × Obj)}{σ:St}{H:Hp}{s:Shared}{Q:VK}{k k':Bool}(I:Inv X pins σ H s)(q:Q (.bl k) H)(e:k=k'):EP X pins σ Q (.bool k') s:=by
 subst e;exact⟨.bl k,H,I,rfl,q⟩
theorem yhg:OpR X (compareOp .Lt) (rI0 fun i j=>.bl (decide (i<j))):=ymc fun _ _ _ _ _ _ _ q=>lt_int q
theorem yhf:OpR X (compareOp .LtE) (rI0 fun i j=>.bl (decide (i<=j))):=ymc fun _ _ _ _ _ _ _ q=>le_int q
theorem yhe:OpR X (compareOp .Gt) (rI0 fun i j=>.bl (decide (j<i))):=ymc fun _ _ _ _ _ _ _ q=>gt_int q
theorem yhd:OpR X (compareOp .GtE) (rI0 fun i j=>.bl (decide (j<=i))):=ymc fun _ _ _ _ _ _ _ q=>ge_int q
theorem ybq:OpR X (compareOp .Is) (fun x y H Q=>y=.non/\Q (.bl (decide (x=.non))) H):=by
 intro pins s σ H x y v u Q I rx ry h;obtain⟨rfl,q⟩:=h;cases ry;refine is_none_gen (zzk I q ?_);cases x<;>first
  |(cases rx;rfl)
  |(obtain⟨t,rfl⟩:=rx;rfl)
theorem zun:OpR X (compareOp .IsNot) (fun x y H Q=>y=.non/\Q (.bl (!decide (x=.non))) H):=by
 intro pins s σ H x y v u Q I rx ry h;obtain⟨rfl,q⟩:=h;cases ry;refine isnot_none_gen (zzk I q ?_);cases x<;>first
  |(cases rx;rfl)
  |(obtain⟨t,rfl⟩:=rx;rfl)
theorem OpR.or{f:Value->Value->Sem Value}{r r':R2}(h:OpR X f r)(h':OpR X f r'):OpR X f (fun x y H Q=>r x y H Q\/r' x y H Q):=by
 intro pins s σ H x y v u Q I rx ry q;rcases q with q|q
 ·exact h pins s σ H x y v u Q I rx ry q
 ·exact h' pins s σ H x y v u Q I rx ry q
theorem ya7(b:Expr){op:CmpOp}(h:op≠.In:=by decide)(h2:op≠.NotIn:=by decide):behindInMarks op b=false:=by
 have e1:(op == CmpOp.In)=false:=by cases op<;>first|rfl|exact absurd rfl h
 have e2:(op == CmpOp.NotIn)=false:=by cases op<;>first|rfl|exact absurd rfl h2
 cases b<;>simp[behindInMarks,e1,e2]
theorem zuu{op:CmpOp}{r:R2}(ho:OpR X (compareOp op) r)(ha:PE X a ta)(hb:PE X b tb)(hm:behindInMarks op b=false):PE X (.Compare a [op] [b] pos) (tOp r ta tb):=by
 intro pins s σ H Q I h;exact wpAny_Compare1 (ykb ha hb I h fun v u s2 x y H2 I2 rx ry q=>ho pins s2 σ H2 x y v u Q I2 rx ry q) hm
def yix(t:TE):TT:=fun σ H Q=>t σ H fun x H'=>∃ k,x=.bl k/\Q k H'
theorem zu8{op:CmpOp}{r:R2}(ho:OpR X (compareOp op) r)(ha:PE X a ta)(hb:PE X b tb)(hm:behindInMarks op b=false):PT X (.Compare a [op] [b] pos) (yix (tOp r ta tb)):=by
 intro pins s σ H Q I h;refine wpAny_isTrue_Compare1 (thn (ha pins s σ H _ I h) fun v s1 ⟨x,H1,I1,r1,q1⟩=>thn (hb pins s1 σ H1 _ I1 q1) fun u s2 ⟨y,H2,I2,r2,q2⟩=>
  thn (ho pins s2 σ H2 x y v u _ I2 r1 r2 q2) fun c s3 ⟨z,H3,I3,r3,k,e,q3⟩=>?_) hm
 subst e;cases r3;exact wpAny_truthy_bool ⟨H3,I3,q3⟩
def ydl(r r':R2)(ta tb tc:TE):TE:=fun σ H Q=>ta σ H fun x H1=>tb σ H1 fun y H2=>r x y H2 fun z H3=>∃ k,z=.bl k/\
 (if k=true then tc σ H3 fun w' H4=>r' y w' H4 Q else Q (.bl false) H3)
theorem znr{op op':CmpOp}{r r':R2}(ho:OpR X (compareOp op) r)(ho':OpR X (compareOp op') r')(ha:PE X a ta)(hb:PE X b tb)(hc:PE X c tc)
  (hm:lastMarks [op,op'] [b,c]=false:=by with_unfolding_all rfl):PE X (.Compare a [op,op'] [b,c] pos) (ydl r r' ta tb tc):=by
 intro pins s σ H Q I h;refine Compare_chain (thn (ha pins s σ H _ I h) fun v s1 ⟨x,H1,I1,r1,q1⟩=>chain_link (thn (hb pins s1 σ H1 _ I1 q1) fun u s2 ⟨y,H2,I2,r2,q2⟩=>
  thn (ho pins s2 σ H2 x y v u _ I2 r1 r2 q2) fun d s3 ⟨z,H3,I3,r3,k,e,q3⟩=>?_)) hm
 subst e;cases r3;refine wpAny_truthy_bool ?_;cases k with
 |false=>exact ite_ff ⟨.bl false,H3,I3,rfl,q3⟩
 |true=>exact ite_tt (chain_last (thn (hc pins s3 σ H3 _ I3 q3) fun w' s4 ⟨z',H4,I4,r4,q4⟩=>ho' pins s4 σ H4 y z' u w' Q I4 r2 r4 q4))
theorem zn0{op op':CmpOp}{r r':R2}(ho:OpR X (compareOp op) r)(ho':OpR X (compareOp op') r')(ha:PE X a ta)(hb:PE X b tb)(hc:PE X c tc)
  (hm:lastMarks [op,op'] [b,c]=false:=by with_unfolding_all rfl):PT X (.Compare a [op,op'] [b,c] pos) (yix (ydl r r' ta tb tc)):=by
 intro pins s σ H Q I h;refine isTrue_chain (thn (ha pins s σ H _ I h) fun v s1 ⟨x,H1,I1,r1,q1⟩=>test_link (thn (hb pins s1 σ H1 _ I1 q1) fun u s2 ⟨y,H2,I2,r2,q2⟩=>
  thn (ho pins s2 σ H2 x y v u _ I2 r1 r2 q2) fun d s3 ⟨z,H3,I3,r3,k,e,q3⟩=>?_)) hm
 subst e;cases r3;refine wpAny_truthy_bool ?_;cases k with
 |false=>
  obtain⟨k',e',q'⟩:=q3;cases e';exact ite_ff ⟨H3,I3,q'⟩
 |true=>
  refine ite_tt (test_last (thn (hc pins s3 σ H3 _ I3 q3) fun w' s4 ⟨z',H4,I4,r4,q4⟩=>thn (ho' pins s4 σ H4 y z' u w' _ I4 r2 r4 q4) fun d' s5 ⟨z2,H5,I5,r5,k2,e2,q5⟩=>?_));subst e2;cases r5;exact wpAny_truthy_bool ⟨H5,I5,q5⟩
theorem yay:(sizeLine:Nat)<2 ^ 63:=by rw[sizeLine_eq];decide
theorem zf7:OpR X (binaryOp .Add) (fun x y H Q=>∃ i j,x=.str i/\y=.str j/\i.length+j.length<=sizeLine/\Q (.str (i++j)) H):=by
 intro pins s σ H x y v u Q I rx ry h;obtain⟨i,j,rfl,rfl,hz,q⟩:=h;obtain⟨t,rfl⟩:=rx;obtain⟨t',rfl⟩:=ry;exact add_str (fun t' tk=>⟨.str (i++j),H,I.tok _,⟨_,rfl⟩,q⟩) hz
theorem yi2{x:V}{us:List Value}(r:yj1 [x] us):∃ u,us=[u]/\yjs x u:=by
 cases r with
 |cons r1 r2=>cases r2;exact⟨_,rfl,r1⟩
theorem yi3{x y:V}{us:List Value}(r:yj1 [x,y] us):∃ u w',us=[u,w']/\yjs x u/\yjs y w':=by
 cases r with
 |cons r1 r2=>
  cases r2 with
  |cons r3 r4=>cases r4;exact⟨_,_,rfl,r1,r3⟩
theorem zhb(hc:X.calm=true):yd2 X (.builtin "max") (fun xs H Q=>∃ i j,xs=[.int i,.int j]/\Q (.int (if j > i then j else i)) H):=by
 intro pins s σ H xs us Q I r h;obtain⟨i,j,rfl,q⟩:=h;obtain⟨u,w',rfl,⟨t,rfl⟩,⟨t',rfl⟩⟩:=yi3 r;refine max_two_ints (I.ok.hd hc) fun h' tk k=>⟨_,H,I.kept k,?_,q⟩
 by_cases hj:j > i
 ·rw[if_pos hj,if_pos hj];exact⟨_,rfl⟩
 ·rw[if_neg hj,if_neg hj];exact⟨_,rfl⟩
theorem zg9:yd2 X (.type "int") (fun xs H Q=>(∃ i,xs=[.int i]/\Q (.int i) H)\/∃ k,xs=[.bl k]/\Q (.int (if k then 1 else 0)) H):=by
 intro pins s σ H xs us Q I r h;rcases h with⟨i,rfl,q⟩|⟨k,rfl,q⟩
 ·obtain⟨u,rfl,t,rfl⟩:=yi2 r;exact call_int_int ⟨.int i,H,I,⟨_,rfl⟩,q⟩
 ·obtain⟨u,rfl,r1⟩:=yi2 r;cases r1;exact call_int_bool ⟨.int (if k then 1 else 0),H,I.tok _,⟨_,rfl⟩,q⟩
end
end L2
namespace L2
open PySem PySem.Spec PyProof.Rows
structure ObjM(h:Heap)(x dx C:Addr)(mA:Str->Option Value):Prop where
 obj:h.get? x=some (PySem.W.instObj C dx)
 ns:h.Ns1 dx mA
 ne:dx≠x
theorem zii{h:Heap}{dx:Addr}{mA:Str->Option Value}(n:h.Ns1 dx mA):∃ od,h.get? dx=some od/\∀ name,PySem.W.lookIn name od=some (mA name):=by
 obtain⟨o,es,ep,ho,hd,hk,_,hm⟩:=n;refine⟨o,ho,fun name=>?_⟩;have e:=hm name;unfold nsFind findBy at e;rw[<-Array.find?_toList]at e;unfold PySem.W.lookIn;rw[hd];dsimp only;split
 ·rename_i y q
  rw[q]at e;exact congrArg some e
 ·rename_i q
  rw[q]at e;have a:es.toList.any (·.refKey)=false:=by
   rw[List.any_eq_false];intro y hy;obtain⟨z,t,hkey⟩:=hk y (Array.mem_toList_iff.mp hy);simp[DictEntry.refKey,hkey]
  have a':¬ es.toList.any (·.refKey)=true:=by rw[a];exact Bool.false_ne_true
  rw[if_neg a'];exact congrArg some e
theorem ObjM.look{h:Heap}{x dx C:Addr}{mA:Str->Option Value}(I:ObjM h x dx C mA):∃ od,PySem.W.InstAt h x (PySem.W.instObj C dx) C (some od)/\∀ name,PySem.W.lookIn name od=some (mA name):=
 let ⟨od,ho,hl⟩:=zii I.ns
 ⟨od,⟨I.obj,rfl,rfl,ho⟩,hl⟩
section
variable{prog:Program}{w:World}{A:Around}{E:Value->Shared->Prop}{s:Shared}{K:PySem.W.Frag}{x dx C f:Addr}{mA:Str->Option Value}{name:Str}{v:Value}
theorem zsr{expr:Bool}{Q:Value->Shared->Prop}(X:K.In s.heap)(I:ObjM s.heap x dx C mA)(hg:PySem.W.plainGet K C name=true)(hh:PySem.W.hasDictIn K C=true)
  (ha:PySem.W.findIn K (.ref C) name=some none) (hv:mA name=some v) (hv':PySem.W.handedIn v=true) (h:Q v { s with toks:=s.toks+1 }) :
  wpAny (model prog w) A (getAttr (.ref x) name expr) Q E s:=by
 obtain⟨od,J,hl⟩:=I.look;exact PySem.W.get_value X J (PySem.W.plainGet_of hg).1 (PySem.W.findObj_own hh ha rfl (by rw[hl,hv])) hv' h
theorem zwb{ns:List Str}{Q:Unit->Shared->Prop}(X:K.In s.heap)(I:ObjM s.heap x dx C mA)
  (hs:PySem.W.findIn K (.ref C) "__setattr__" = some (some (.builtin "object.__setattr__"))) (hp:PySem.W.plainOver K C=true) (ht:PySem.W.takerIn K C name=some none) (hh:PySem.W.hasDictIn K C=true)
  (hw:PySem.Within mA ns) (hsz:ns.length<=sizeLine)
  (h:∀ h',ObjM h' x dx C (fun y=>if y=name then some v else mA y)->Heap.SameBut dx s.heap h'->Q () { s with heap:=h',toks:=s.toks+2 }) :
  wpAny (model prog w) A (setAttr (.ref x) name v) Q E s:=by
 obtain⟨od,J,hl⟩:=I.look;refine PySem.W.set_plain X J hs (PySem.W.osa_open (s:={ s with toks:=s.toks+1 }) (r:=none) X J hp ht fun b=>?_);obtain⟨cd,hc,hd'⟩:=PySem.W.any_some hh;have hx:s.heap.get? x=some ⟨.ref C,some dx,.plain,#[]⟩:=I.obj;refine wpAny_bind (wpAny_pure (wpAny_bind (wpAny_bind (wpAny_loadPart hx (wpAny_bind (PySem.W.Looks.here (s:={ s with toks:=s.toks+1 }) (PySem.W.looks_clsIn X hc) ?_))))));rw[hd'];refine wpAny_pure (a:=some dx) (wpAny_bind (wpAny_pure (wpAny_bind ?_)));refine wpAny_nsSet1 (s:={ s with toks:=s.toks+1 }) I.ns fun h' hn2 hs2=>?_;obtain⟨oD,esD,epD,hoD,hdD,hcD⟩:=hn2.count (PySem.Within.cons name v hw);refine wpAny_bind (wpAny_lookBehind hoD (by rw[hdD];exact pastItsLine_dict (Nat.le_trans hcD (by rw[List.length_cons];omega))) ?_);exact wpAny_pure (h _ ⟨(hs2.2 _ (Ne.symm I.ne)).trans I.obj,hn2,I.ne⟩ hs2)
theorem zm2{R:Result->Shared->Prop}{vs:List Value}{kw:List (Str × Value)}(X:K.In s.heap)(hm:PySem.W.makesIn K C=true)
  (hi:PySem.W.findIn K (.ref C) "__init__" = some (some (.ref f))) (hf:PySem.W.typeIn K (.ref f)=some (.type "function"))
  (h:codeAny (model prog w) (A.under (.builtin "type.__call__" ⟨.ref C::vs,kw⟩)) (.call (.ref f) ⟨.ref (s.heap.objs.size+1)::vs,kw⟩) (PySem.W.InitBack (s.heap.objs.size+1) R)
   { s with heap:=(s.heap.push PySem.W.emptyDict).push (PySem.W.instObj C s.heap.objs.size) }) :
  codeAny (model prog w) A (.call (.ref C) ⟨vs,kw⟩) R s:=by
 obtain⟨hh,g,d,t,os⟩:=s;exact PySem.W.make_core (PySem.W.makes_of X hm) (PySem.W.looks_findIn X hi) (fun self=>PySem.W.bind_fn X self hf) (.inl rfl) h
end
def putF(f:Str)(v:V):List (Str × V)->List (Str × V)
 |[]=>[(f,v)]
 |(g,x)::r=>if g=f then (g,v)::r else (g,x)::putF f v r
theorem zeo(f g:Str)(v:V):∀ fs:List (Str × V),(putF f v fs).lookup g=if g=f then some v else fs.lookup g
 |[]=>by
  show List.lookup g [(f,v)]=_;by_cases h:g=f
  ·have hb:(g == f)=true:=beq_iff_eq.mpr h;simp only[List.lookup,hb,if_pos h]
  ·have hb:(g == f)=false:=beq_eq_false_iff_ne.mpr h;simp only[List.lookup,hb,if_neg h]
 |(k,x)::r=>by
  have ih:=zeo f g v r;rw[show putF f v ((k,x)::r)=(if k=f then (k,v)::r else (k,x)::putF f v r)from rfl];by_cases hk:k=f
  ·rw[if_pos hk];by_cases h:g=k
   ·have hb:(g == k)=true:=beq_iff_eq.mpr h;simp only[List.lookup,hb,if_pos (h.trans hk)]
   ·have hb:(g == k)=false:=beq_eq_false_iff_ne.mpr h;simp only[List.lookup,hb,if_neg (fun e:g=f=>h (e.trans hk.symm))]
  ·rw[if_neg hk];by_cases h:g=k
   ·have hb:(g == k)=true:=beq_iff_eq.mpr h;simp only[List.lookup,hb,if_neg (fun e:g=f=>hk (h.symm.trans e))]
   ·have hb:(g == k)=false:=beq_eq_false_iff_ne.mpr h;simp only[List.lookup,hb];exact ih
theorem zih(f:Str)(v:V):∀ fs:List (Str × V),f∈(putF f v fs).map (·.1)/\∀ g,g∈fs.map (·.1)->g∈(putF f v fs).map (·.1)
 |[]=>⟨by simp[putF],fun g h=>by simp at h⟩
 |(k,x)::r=>by
  obtain⟨i1,i2⟩:=zih f v r;rw[show putF f v ((k,x)::r)=(if k=f then (k,v)::r else (k,x)::putF f v r)from rfl];by_cases hk:k=f
  ·rw[if_pos hk];subst hk;exact⟨by simp,fun g h=>by simpa using h⟩
  ·rw[if_neg hk];refine⟨?_,fun g h=>?_⟩
   ·rw[List.map_cons];exact List.mem_cons_of_mem _ i1
   ·rw[List.map_cons]at h ⊢;rcases List.mem_cons.mp h with e|e
    ·exact List.mem_cons.mpr (.inl e)
    ·exact List.mem_cons_of_mem _ (i2 g e)
theorem zem(f:Str)(v:V):∀ fs:List (Str × V),(putF f v fs).length<=fs.length+1
 |[]=>by simp[putF]
 |(k,x)::r=>by
  have ih:=zem f v r;rw[show putF f v ((k,x)::r)=(if k=f then (k,v)::r else (k,x)::putF f v r)from rfl];by_cases hk:k=f
  ·rw[if_pos hk,List.length_cons,List.length_cons];omega
  ·rw[if_neg hk,List.length_cons,List.length_cons];omega
theorem yjr.some_of{v:V}{o:Option Value}(r:yjr (some v) o):∃ u,o=some u/\yjs v u:=by
 cases o with
 |none=>exact(show False from r).elim
 |some u=>exact⟨u,rfl,r⟩
theorem zh4{v:V}{u:Value}(r:yjs v u):PySem.W.handedIn u=true:=by
 cases v with
 |non=>cases (show u=Value.none from r);rfl
 |bl b=>cases (show u=Value.bool b from r);rfl
 |int i=>obtain⟨t,e⟩:=(show ∃ t,u=Value.int i t from r);cases e;rfl
 |str x=>obtain⟨t,e⟩:=(show ∃ t,u=Value.str x t from r);cases e;rfl
 |byt b=>obtain⟨t,e⟩:=(show ∃ t,u=Value.bytes b t from r);cases e;rfl
 |flt b=>obtain⟨t,e⟩:=(show ∃ t,u=Value.float b t from r);cases e;rfl
 |ref a=>cases (show u=Value.ref a from r);rfl
 |ty n=>cases (show u=Value.type n from r);rfl
section
variable{P:Program}{w:World}{H H':Hp}{h h':Heap}{a C dx:Addr}{fs fs':List (Str × V)}
theorem zs0(hok:HOk P w H h)(e:H a=some (.ins C dx fs)):∃ mA,ObjM h a dx C mA/\(∀ f,yjr (fs.lookup f) (mA f))/\PySem.Within mA (fs.map (·.1))/\fs.length<=1000/\H dx=some (.own a):=by
 obtain⟨d,z,ne,ob,mA,n,r,q⟩:=(show yd7 P w H h a (.ins C dx fs)from hok a _ e)
 exact⟨mA,⟨ob,n,ne⟩,r,q,z,d⟩
end
structure Cls(K:PySem.W.Frag)(C:Addr):Prop where
 pg:PySem.W.plainGet K C Str.empty=true
 hd:PySem.W.hasDictIn K C=true
 po:PySem.W.plainOver K C=true
 sa:PySem.W.findIn K (.ref C) "__setattr__" = some (some (.builtin "object.__setattr__"))
theorem Cls.get{K:PySem.W.Frag}{C:Addr}(c:Cls K C)(f:Str):PySem.W.plainGet K C f=true:=c.pg
def zxh(K:PySem.W.Frag)(C:Addr)(f:Str):Prop:=PySem.W.findIn K (.ref C) f=some none
theorem zxh.taker{K:PySem.W.Frag}{C:Addr}{f:Str}(n:zxh K C f):PySem.W.takerIn K C f=some none:=by
 unfold PySem.W.takerIn;rw[show PySem.W.findIn K (.ref C) f=some none from n];rfl
structure Con(K:PySem.W.Frag)(C:Addr)(f:Str)(v:V)(u:Value):Prop where
 at_:PySem.W.findIn K (.ref C) f=some (some u)
 rel:yjs v u
 get:PySem.W.specialIn K u "__get__" = some none
 cp:PySem.W.copiedNames.contains f=false
structure Meth(K:PySem.W.Frag)(C:Addr)(m:Str)(f:Addr):Prop where
 at_:PySem.W.findIn K (.ref C) m=some (some (.ref f))
 fn:PySem.W.isFn K (.ref f)=true
 kp:PySem.W.keepIn K (.ref f)=true
section
variable{X:Cx}{pins:List (Addr × Obj)}{σ:St}{H:Hp}{s:Shared}{a C dx:Addr}{fs:List (Str × V)}{f:Str}{v:V}{A:Around}{E:Value->Shared->Prop}
theorem zft{b:Bool}{Q:Value->Shared->Prop}(I:Inv X pins σ H s)(e:H a=some (.ins C dx fs))(c:Cls X.K C)(n:zxh X.K C f)(l:fs.lookup f=some v)
  (h:∀ u s',Inv X pins σ H s'->yjs v u->Q u s'):wpAny (model X.prog X.w) A (getAttr (.ref a) f b) Q E s:=by
 obtain⟨mA,O,r,_,_,_⟩:=zs0 I.hok e;obtain⟨u,hu,ru⟩:=yjr.some_of (v:=v) (o:=mA f) (by rw[<-l];exact r f);exact zsr I.kIn O (c.get f) c.hd n hu (zh4 ru) (h u _ (I.tok _) ru)
theorem zgn{y:V}{u:Value}{Q:Unit->Shared->Prop}(I:Inv X pins σ H s)(e:H a=some (.ins C dx fs))(c:Cls X.K C)(n:zxh X.K C f)(hl:fs.length<1000)(ry:yjs y u)
  (h:∀ s',Inv X pins σ (upd H a (.ins C dx (putF f y fs))) s'->Q () s'):wpAny (model X.prog X.w) A (setAttr (.ref a) f u) Q E s:=by
 obtain⟨mA,O,r,wi,_,ho⟩:=zs0 I.hok e;have hz:(fs.map (·.1)).length<=sizeLine:=by rw[List.length_map,sizeLine_eq];omega
 refine zwb I.kIn O c.sa c.po n.taker c.hd wi hz fun h' O' sb=>h _ ?_;have hd:∃ o,h'.get? dx=some o:=let ⟨o,_,_,e',_⟩:=O'.ns;⟨o,e'⟩;refine I.write (x:=a) (e:=dx) (by rw[e];exact True.intro) (.inr ho) (fun b q hb z=>(sb.2 b hb).trans z) hd ?_;refine⟨by rw[ydx O.ne];exact ho,?_,O.ne,O'.obj,_,O'.ns,fun g=>?_,fun g hg=>?_⟩
 ·have:=zem f y fs;omega
 ·show yjr ((putF f y fs).lookup g) (if g=f then some u else mA g);rw[zeo];by_cases q:g=f
  ·rw[if_pos q,if_pos q];exact ry
  ·rw[if_neg q,if_neg q];exact r g
 ·by_cases q:g=f
  ·rw[q];exact(zih f y fs).1
  ·refine(zih f y fs).2 g (wi g fun z=>hg ?_);show (if g=f then some u else mA g)=none;rw[if_neg q];exact z
theorem Inv.made(I:Inv X pins σ H s):Inv X pins σ (upd (upd H s.heap.objs.size (.own (s.heap.objs.size+1))) (s.heap.objs.size+1) (.ins C s.heap.objs.size []))
  { s with heap:=(s.heap.push PySem.W.emptyDict).push (PySem.W.instObj C s.heap.objs.size) }:=by
 have e1:(s.heap.push PySem.W.emptyDict).get? s.heap.objs.size=some PySem.W.emptyDict:=Heap.get?_push_size s.heap rfl;have e2:((s.heap.push PySem.W.emptyDict).push (PySem.W.instObj C s.heap.objs.size)).get? (s.heap.objs.size+1)=some (PySem.W.instObj C s.heap.objs.size):=by
  have:=Heap.get?_push_size (s.heap.push PySem.W.emptyDict) (o:=PySem.W.instObj C s.heap.objs.size) rfl
  rwa [Heap.size_push]at this
 have e3:(s.heap.push PySem.W.emptyDict).Ns s.heap.objs.size (fun _=>none):=⟨PySem.W.emptyDict,#[],_,e1,rfl,(fun e he=>absurd he (by simp)),fun _=>rfl⟩
 have I1:=I.laid (a:=s.heap.objs.size) (o:=.own (s.heap.objs.size+1)) (h':=s.heap.push PySem.W.emptyDict) (t':=s.toks) (fun b u q=>Heap.get?_push_of_some _ q) (Nat.le_refl _) ⟨_,e1⟩;refine I1.laid (a:=s.heap.objs.size+1) (o:=.ins C s.heap.objs.size []) (t':=s.toks) (fun b u q=>Heap.get?_push_of_some _ q) (Nat.le_of_eq (Heap.size_push _ _)) ?_;have ne:s.heap.objs.size≠s.heap.objs.size+1:=Nat.ne_of_lt (Nat.lt_succ_self _);refine⟨by rw[ydx ne,zpn],Nat.zero_le _,ne,e2,fun _=>none,(Heap.Ns1.of_empty e3).at fun o q=>Heap.get?_push_of_some _ q,fun _=>True.intro,fun y hy=>absurd rfl hy⟩
theorem zqb{prog:Program}{w:World}{env:Env}{e:Expr}{f:Str}{pos:Pos}{s:Shared}{Q:Value->Shared->Prop}(hb:attributeBase e f env (eval e env)=eval e env)
  (h:wpAny (model prog w) A (eval e env) (fun o s₁=>wpAny (model prog w) A (getAttr o f true) Q E s₁) E s):wpAny (model prog w) A (eval (.Attribute e f pos) env) Q E s:=
 Attribute_any_ h (by rw[arm_eval_Attribute,hb])
end
def ynm(K:PySem.W.Frag)(ta:TE)(f:Str):TE:=fun σ H Q=>ta σ H fun x H1=>∃ a C dx fs v,x=.ref a/\H1 a=some (.ins C dx fs)/\Cls K C/\zxh K C f/\fs.lookup f=some v/\Q v H1
def ym0(K:PySem.W.Frag)(ta tv:TE)(f:Str):TS:=fun D σ H=>tv σ H fun y H1=>ta σ H1 fun x H2=>∃ a C dx fs,x=.ref a/\H2 a=some (.ins C dx fs)/\Cls K C/\zxh K C f/\fs.length<1000/\
 D.nx σ (upd H2 a (.ins C dx (putF f y fs)))
section
variable{X:Cx}{o e value:Expr}{f:Str}{pos pos' tpos:Pos}{ta tv:TE}
theorem yb1(he:PE X e ta)(hb:attributeBase e f X.env (eval e X.env)=eval e X.env):PE X (.Attribute e f pos) (ynm X.K ta f):=by
 intro pins s σ H Q I h;refine zqb hb (thn (he pins s σ H _ I h) fun u s1 ⟨x,H1,I1,rx,a,C,dx,fs,v,ex,ea,c,n,l,q⟩=>?_);subst ex;obtain rfl:u=Value.ref a:=rx;exact zft I1 ea c n l fun u' s2 I2 ru=>⟨v,H1,I2,ru,q⟩
theorem yci(ha:PE X o ta)(hv:PE X value tv)(hs:swapsWith value (some (.Attribute o f pos')) pos.line X.env=pure false):PS X (.Assign [.Attribute o f pos'] value pos) (ym0 X.K ta tv f):=by
 intro pins s σ H D I h;refine plainObj_wpAny_Assign_Attribute (thn (hv pins s σ H _ I h) fun u s1 ⟨y,H1,I1,ry,q⟩=>thn (ha pins s1 σ H1 _ I1 q) fun ov s2 ⟨x,H2,I2,rx,a,C,dx,fs,ex,ea,c,n,l,q2⟩=>?_) hs;subst ex;obtain rfl:ov=Value.ref a:=rx;exact zgn I2 ea c n l ry fun s3 I3=>⟨σ,_,I3,q2⟩
end
section
variable{X:Cx}{pins:List (Addr × Obj)}{σ:St}{H:Hp}{s:Shared}{A:Around}{E:Value->Shared->Prop}{Q:Value->Shared->Prop}{c:Value}{b:Bool}
inductive TyOf(K:PySem.W.Frag)(H:Hp):V->Value->Prop where
 |non:TyOf K H .non (.type "NoneType")
 |bl (x:Bool):TyOf K H (.bl x) (.type "bool")
 |int (i:Int):TyOf K H (.int i) (.type "int")
 |str (x:Str):TyOf K H (.str x) (.type "str")
 |flt (x:UInt64):TyOf K H (.flt x) (.type "float")
 |lst {a:Addr} {xs:List V} (e:H a=some (.lst xs)):TyOf K H (.ref a) (.type "list")
 |frz {a:Addr} {o:Obj} {xs:List V} (e:H a=some (.frz o (.lst xs))):TyOf K H (.ref a) (.type "list")
 |tup {a:Addr} {xs:List V} (e:H a=some (.tup xs)):TyOf K H (.ref a) (.type "tuple")
 |dK {a:Addr} {kvs:List (Key × V)} (e:H a=some (.dK kvs)):TyOf K H (.ref a) (.type "dict")
 |dT {a:Addr} {kvs:List (List Key × V)} (e:H a=some (.dT kvs)):TyOf K H (.ref a) (.type "dict")
 |ins {a C dx:Addr} {fs:List (Str × V)} (e:H a=some (.ins C dx fs)) (cl:Cls K C) (ha:PySem.W.findIn K (.ref C) "__class__" = some (some (.builtin "object.__class__")))
   (hn:PySem.W.specialIn K (.builtin "object.__class__") "__get__" = some (some (.builtin "getset_descriptor.__get__"))) (htk:PySem.W.takesIn K (.builtin "object.__class__")=some true)
   (hm:PySem.W.mroIn K C (.type "object")=some true):TyOf K H (.ref a) (.ref C)
theorem zia{x:V}{u t:Value}(I:Inv X pins σ H s)(rx:yjs x u)(ty:TyOf X.K H x t)(e:PySem.W.kitOne X.K t c=some b)(h:∀ tk,Q (.bool b) { s with toks:=tk }) :
  wpAny (model X.prog X.w) A (call (.builtin "isinstance") [u,c]) Q E s:=by
 cases ty with
 |non=>cases (show u=Value.none from rx);exact PySem.W.kia_one PySem.W.kitx_none I.kIn True.intro e (fun z=>nomatch z) h
 |bl y=>cases (show u=Value.bool y from rx);exact PySem.W.kia_one PySem.W.kitx_bool I.kIn True.intro e (fun z=>nomatch z) h
 |int i=>obtain⟨t,q⟩:=(show ∃ t,u=Value.int i t from rx);cases q;exact PySem.W.kia_one PySem.W.kitx_int I.kIn True.intro e (fun z=>nomatch z) h
 |str y=>obtain⟨t,q⟩:=(show ∃ t,u=Value.str y t from rx);cases q;exact PySem.W.kia_one PySem.W.kitx_str I.kIn True.intro e (fun z=>nomatch z) h
 |flt y=>obtain⟨t,q⟩:=(show ∃ t,u=Value.float y t from rx);cases q;exact PySem.W.kia_one PySem.W.kitx_float I.kIn True.intro e (fun z=>nomatch z) h
 |@lst a xs ea=>
  cases (show u=Value.ref a from rx);obtain⟨_,_,n,_,h1⟩:=(show yd7 X.prog X.w H s.heap a (.lst xs)from I.hok a _ ea)
  exact PySem.W.kia_one PySem.W.kitx_list I.kIn ⟨_,h1,rfl⟩ e (fun z=>nomatch z) h
 |@frz a ob xs ea=>
  cases (show u=Value.ref a from rx);obtain⟨_,_,_,n,_,h1⟩:=(show yd7 X.prog X.w H s.heap a (.frz ob (.lst xs))from I.hok a _ ea)
  exact PySem.W.kia_one PySem.W.kitx_list I.kIn ⟨_,h1,rfl⟩ e (fun z=>nomatch z) h
 |@tup a xs ea=>
  cases (show u=Value.ref a from rx);obtain⟨_,_,_,p⟩:=(show yd7 X.prog X.w H s.heap a (.tup xs)from I.hok a _ ea)
  obtain⟨o,h1,h2,_⟩:=p;exact PySem.W.kia_one PySem.W.kitx_tuple I.kIn ⟨o,h1,h2⟩ e (fun z=>nomatch z) h
 |@dK a kvs ea=>
  cases (show u=Value.ref a from rx);obtain⟨_,_,vs,_,p⟩:=(show yd7 X.prog X.w H s.heap a (.dK kvs)from I.hok a _ ea)
  obtain⟨o,es,ep,h1,h2,_⟩:=p;exact PySem.W.kia_one PySem.W.kitx_dict I.kIn ⟨o,h1,h2.1⟩ e (fun z=>nomatch z) h
 |@dT a kvs ea=>
  cases (show u=Value.ref a from rx);obtain⟨_,_,xs,_,o,es,ep,h1,h2,_⟩:=(show yd7 X.prog X.w H s.heap a (.dT kvs)from I.hok a _ ea)
  exact PySem.W.kia_one PySem.W.kitx_dict I.kIn ⟨o,h1,h2.1⟩ e (fun z=>nomatch z) h
 |@ins a C dx fs ea cl ha hn htk hm=>
  cases (show u=Value.ref a from rx);obtain⟨mA,O,_⟩:=zs0 I.hok ea;obtain⟨od,J,_⟩:=O.look;exact PySem.W.kia_one (PySem.W.kitx_own (cl.get _) cl.hd ha hn htk hm) I.kIn J e (fun z=>nomatch z) h
end
end L2
namespace L2
open PySem PySem.Spec PyProof.Rows
structure Room(k:Nat)(A:Around):Prop where
 hd:A.handled=none
 dp:A.depth+3 * k+5<recursionLimit
 un:A.units+16 * k+200<cLine
theorem Room.mono{j k:Nat}{A:Around}(r:Room k A)(h:j<=k):Room j A:=⟨r.hd,by have:=r.dp;omega,by have:=r.un;omega⟩
theorem Room.deeper{k:Nat}{A:Around}(r:Room (k+1) A)(env:Env):Room k (A.deeper env):=
 ⟨r.hd,by have:=r.dp;show A.depth+1+3 * k+5<_;omega,by have:=r.un;show A.units+3+16 * k+200<_;omega⟩
theorem Room.in1{k:Nat}{A:Around}(r:Room (k+1) A):Room k A.in1:=
 ⟨r.hd,by have:=r.dp;show A.depth+3 * k+5<_;omega,by have:=r.un;show A.units+1+16 * k+200<_;omega⟩
theorem zf0{A:Around}{C:Addr}{us:List Value}{kw:List (Str × Value)}:(A.under (.builtin "type.__call__" ⟨.ref C::us,kw⟩)).depth=A.depth+1:=by
 first|rfl|simp[Around.under,Code.weight,Code.isCreation,Code.isGuard,Code.isCaller,Code.frames,Code.isFrame,guardIds]
theorem zf1{A:Around}{C:Addr}{us:List Value}{kw:List (Str × Value)}:(A.under (.builtin "type.__call__" ⟨.ref C::us,kw⟩)).units=A.units+1:=by
 first|rfl|simp[Around.under,Code.cUnits,Code.frames,Code.isFrame]
theorem Room.make{k:Nat}{A:Around}(r:Room (k+1) A)(C:Addr)(us:List Value)(kw:List (Str × Value)):Room k (A.under (.builtin "type.__call__" ⟨.ref C::us,kw⟩)):=
 ⟨r.hd,by have:=r.dp;rw[zf0];omega,by have:=r.un;rw[zf1];omega⟩
theorem Room.depth{k:Nat}{A:Around}(r:Room k A):A.depth<recursionLimit:=by have:=r.dp;omega
theorem Room.units{k:Nat}{A:Around}(r:Room k A):A.units+64<cLine:=by have:=r.un;omega
def ynq:TA:=fun _ H Q=>Q [] H
def yir(ta:TE)(tr:TA):TA:=fun σ H Q=>ta σ H fun x H1=>tr σ H1 fun xs H2=>Q (x::xs) H2
section
variable{X:Cx}{e:Expr}{es:List Expr}{te:TE}{t:TA}{pos:Pos}
theorem yby:PA X [] ynq:=fun _ _ _ _ H Q I h=>Calls.spliced_nil ⟨[],H,I,.nil,h⟩
theorem zuq(ha:PE X e te)(hr:PA X es t)(hs:starEach (e::es) X.env=(false,eval e X.env)::starEach es X.env:=by rfl):PA X (e::es) (yir te t):=by
 intro pos pins s σ H Q I h;rw[hs];show wpAny _ _ (spliced ((false,eval e X.env)::backTo pos (starEach es X.env))) _ _ s;refine Calls.spliced_cons (thn (ha pins s σ H _ I h) fun u s1 ⟨x,H1,I1,r1,q1⟩=>?_);exact thn (hr pos pins s1 σ H1 _ I1 q1) fun us s2 ⟨xs,H2,I2,r2,q2⟩=>⟨x::xs,H2,I2,.cons r1 r2,q2⟩
def ynv(t:TA):TE:=fun σ H Q=>t σ H fun xs H1=>xs.length<=sizeLine/\∀ p,H1 p=none->Q (.ref p) (upd H1 p (.tup xs))
def ynp(t:TA):TE:=fun σ H Q=>t σ H fun xs H1=>xs.length<=sizeLine/\∀ p,H1 p=none->Q (.ref p) (upd H1 p (.lst xs))
theorem yb8{x1}(h:PA X es t):PE X (.Tuple es x1 pos) (ynv t):=by
 intro pins s σ H Q I hq;refine wpAny_Tuple_spliced (thn (h pos pins s σ H _ I hq) fun us s1 ⟨xs,H1,I1,r,z,q⟩=>⟨by rw[<-r.length];exact z,?_⟩);have hf:H1 s1.heap.objs.size=none:=I1.hok.fresh (Nat.le_refl _);refine⟨.ref s1.heap.objs.size,upd H1 s1.heap.objs.size (.tup xs),I1.laid (t':=s1.toks) (fun b u e=>Heap.get?_push_of_some _ e) (Nat.le_refl _) ?_,rfl,q _ hf⟩;exact⟨z,us,r,⟨_,Heap.get?_push_size _ rfl,rfl,_,rfl⟩⟩
theorem yb3(h:PA X es t):PE X (.List es pos) (ynp t):=by
 intro pins s σ H Q I hq;refine wpAny_List_spliced (thn (h pos pins s σ H _ I hq) fun us s1 ⟨xs,H1,I1,r,z,q⟩=>⟨by rw[<-r.length];exact z,?_⟩);have hf:H1 s1.heap.objs.size=none:=I1.hok.fresh (Nat.le_refl _);refine⟨.ref s1.heap.objs.size,upd H1 s1.heap.objs.size (.lst xs),I1.laid (t':=s1.toks) (fun b u e=>Heap.get?_push_of_some _ e) (Nat.le_refl _) ?_,rfl,q _ hf⟩;exact⟨z,us,0,r,Heap.get?_push_size _ rfl⟩
end
abbrev Sp:=List V->Hp->VK->XK->Prop
abbrev CXT:=List Env->Hp->Shared->XK->Value->Shared->Prop
structure Env0(P:Program)(w:World)(K:PySem.W.Frag)(mg:Str->Option Value)(base:Heap)(A:Around)(outer:List Env)(s:Shared)(H:Hp):Prop where
 frames:A.frames=some outer
 mod:Mod K mg base
 bs:∀ b o,base.get? b=some o->s.heap.get? b=some o/\H b=none
 bsz:base.objs.size<=s.heap.objs.size
 funs:s.heap.FunFrames base outer
 frf:∀ b∈frs outer,H b=none
 hok:HOk P w H s.heap
 bare:AllBare s.gens
def CE(outer:List Env)(P:Program)(w:World)(H:Hp)(s:Shared)(Q:VK)(u:Value)(s':Shared):Prop:=
 ∃ v H',s'.os=s.os/\AllBare s'.gens/\Un (frs outer) [] H H' s.heap s'.heap/\HOk P w H' s'.heap/\yjs v u/\Q v H'
def CR(CX:CXT)(outer:List Env)(P:Program)(w:World)(H:Hp)(s:Shared)(Q:VK)(E:XK)(r:Result)(s':Shared):Prop:=
 match r with
 | .ok (.ret u)=>CE outer P w H s Q u s'
 | .ok _=>False
 | .error e=>CX outer H s E e s'
structure FnOk(P:Program)(w:World)(K:PySem.W.Frag)(mg:Str->Option Value)(base:Heap)(CX:CXT)(k:Nat)(f:Addr)(fd:FuncData)(ps:List Str)(sp:Sp):Prop where
 len:∀ vs H Q E,sp vs H Q E->vs.length=ps.length
 run:∀ (A:Around) (outer:List Env) (s:Shared) (H:Hp) (args:Args) (us:List Value) (vs:List V) (Q:VK) (E:XK),Room k A->Env0 P w K mg base A outer s H->BindsTo s fd args (ps.zip us)->yj1 vs us->sp vs H Q E->
  codeAny (model P w) A (.call (.ref f) args) (CR CX outer P w H s Q E) s
theorem FnOk.mono{P:Program}{w:World}{K:PySem.W.Frag}{mg:Str->Option Value}{base:Heap}{CX:CXT}{j k:Nat}{f:Addr}{fd:FuncData}{ps:List Str}{sp:Sp}(F:FnOk P w K mg base CX j f fd ps sp)(h:j<=k) :
  FnOk P w K mg base CX k f fd ps sp:=⟨F.len,fun A outer s H args us vs Q E hr=>F.run A outer s H args us vs Q E (hr.mono h)⟩
theorem FnOk.imp{P:Program}{w:World}{K:PySem.W.Frag}{mg:Str->Option Value}{base:Heap}{CX:CXT}{k:Nat}{f:Addr}{fd:FuncData}{ps:List Str}{sp sp':Sp}(F:FnOk P w K mg base CX k f fd ps sp)
  (h:∀ vs H Q E,sp' vs H Q E->sp vs H Q E):FnOk P w K mg base CX k f fd ps sp':=
 ⟨fun vs H Q E q=>F.len vs H Q E (h _ _ _ _ q),fun A outer s H args us vs Q E hr he hb hv hs=>F.run A outer s H args us vs Q E hr he hb hv (h _ _ _ _ hs)⟩
theorem Env0.make{P:Program}{w:World}{K:PySem.W.Frag}{mg:Str->Option Value}{base:Heap}{A:Around}{outer:List Env}{s:Shared}{H:Hp}(e:Env0 P w K mg base A outer s H)(C:Addr)(us:List Value)(kw:List (Str × Value)) :
  Env0 P w K mg base (A.under (.builtin "type.__call__" ⟨.ref C::us,kw⟩)) outer s H:=⟨by first|exact e.frames|(simpa [Around.under,Code.envs,Code.isFrame,pushEnvs]using e.frames),e.mod,e.bs,e.bsz,e.funs,e.frf,e.hok,e.bare⟩
theorem Env0.in1{P:Program}{w:World}{K:PySem.W.Frag}{mg:Str->Option Value}{base:Heap}{A:Around}{outer:List Env}{s:Shared}{H:Hp}(e:Env0 P w K mg base A outer s H) :
  Env0 P w K mg base A.in1 outer s H:=⟨e.frames,e.mod,e.bs,e.bsz,e.funs,e.frf,e.hok,e.bare⟩
section
variable{X:Cx}{pins:List (Addr × Obj)}{σ:St}{H:Hp}{s s':Shared}
theorem Inv.env0(I:Inv X pins σ H s):Env0 X.prog X.w X.K X.mg X.base X.A X.stack s H:=
 ⟨I.ok.frames,I.ok.mod,I.bs,Nat.le_trans I.ok.bsz I.sz,I.stack,I.stkFree,I.hok,I.bare⟩
theorem Inv.after{Q:VK}{u:Value}(I:Inv X pins σ H s)(h:CE X.stack X.prog X.w H s Q u s'):EP X pins σ Q u s':=by
 obtain⟨v,H',os,bare,un,hok,r,q⟩:=h;obtain⟨hh,g,d,t,os'⟩:=s';obtain rfl:os'=s.os:=os;exact⟨v,H',I.call (h':=hh) (g':=g) (d':=d) (t':=t) (ch:=[]) un hok bare (fun b z=>absurd z (by simp)),r,q⟩
end
def yd0(K:PySem.W.Frag)(fd:FuncData)(ps:List Str)(ds:List Value):Prop:=
 ∀ (s:Shared) (us:List Value),K.In s.heap->(us++ds).length=ps.length->BindsTo s fd ⟨us,[]⟩ (ps.zip (us++ds))
theorem yd0.all{K:PySem.W.Frag}{fd:FuncData}{ps:List Str}(h:∀ us:List Value,us.length=ps.length->bindArgs fd ⟨us,[]⟩=pure (ps.zip us)):yd0 K fd ps []:=fun s us _ hl=>by
 rw[List.append_nil]at hl ⊢;exact .of_eq (h us hl)
section
variable{X:Cx}{CX:CXT}{k:Nat}{f C:Addr}{fd:FuncData}{ps:List Str}{sp:Sp}{dvs:List V}{ds:List Value}{E:XK}{x m:Str}{p pos apos:Pos}{e o:Expr}{es:List Expr}{ta:TE}{t:TA}
structure Mk(K:PySem.W.Frag)(C f:Addr):Prop where
 makes:PySem.W.makesIn K C=true
 init:PySem.W.findIn K (.ref C) "__init__" = some (some (.ref f))
 fn:PySem.W.isFn K (.ref f)=true
 kp:PySem.W.keepIn K (.ref C)=true
end
section
variable{X:Cx}{CX:CXT}{k:Nat}{f C:Addr}{fd:FuncData}{ps ks:List Str}{sp:Sp}{E:XK}{x m:Str}{p pos apos kpos:Pos}{e o:Expr}{es:List Expr}{kws:List Keyword}{te ta:TE}{t tk:TA}{nm:Option Str}
structure KBinds(K:PySem.W.Frag)(fd:FuncData)(ps ks:List Str)(g:List Value->List Value->List Value)(gV:List V->List V->List V):Prop where
 to:∀ (s:Shared) (us ws:List Value),K.In s.heap->(g us ws).length=ps.length->BindsTo s fd ⟨us,ks.zip ws⟩ (ps.zip (g us ws))
 rel:∀ {vs:List V} {us:List Value} {zs:List V} {ws:List Value},yj1 vs us->yj1 zs ws->yj1 (gV vs zs) (g us ws)
variable{g:List Value->List Value->List Value}{gV:List V->List V->List V}
end
structure FnScope(N P:List Str)(sc:Scope):Prop where
 kind:sc.kind=.function
 co:sc.isCoroutine=false
 gen:sc.isGenerator=false
 nd:N.Nodup
 pre:N.take P.length=P
 par:∀ x∈P,sc.names.lookup x=some .local\/sc.names.lookup x=some .cell
 nofree:∀ y∈sc.names,y.2≠.free
theorem zg4{kindOf:Str->Option NameKind}{x:Str}:∀ {binds:List (Str × Value)} {m:Str->Option Value},(∀ v,(x,v) ∉ binds)->bindL kindOf binds m x=m x
 |[],_,_=>rfl
 |(n,v)::r,m,h=>by
  unfold bindL;rw[zg4 fun w hw=>h w (List.mem_cons_of_mem _ hw)];split
  ·have:x≠n:=by rintro rfl;exact h v List.mem_cons_self
   simp[this]
  ·rfl
theorem zg2{kindOf:Str->Option NameKind}{x:Str}:∀ {binds:List (Str × Value)} {m:Str->Option Value},(∀ v,(x,v) ∉ binds)->bindC kindOf binds m x=m x
 |[],_,_=>rfl
 |(n,v)::r,m,h=>by
  unfold bindC;rw[zg2 fun w hw=>h w (List.mem_cons_of_mem _ hw)];split
  ·rfl
  ·have:x≠n:=by rintro rfl;exact h v List.mem_cons_self
   simp[this]
theorem zg3{kindOf:Str->Option NameKind}{x:Str}{v:Value}:∀ {P:List Str} {vs:List Value} {i:Nat} {m:Str->Option Value},P.Nodup->P[i]?=some x->vs[i]?=some v->kindOf x=some .local->
  bindL kindOf (P.zip vs) m x=some v
 |[],_,_,_,_,h,_,_=>by simp at h
 |_::_,[],_,_,_,_,h,_=>by simp at h
 |p::P,w::vs,0,m,nd,h1,h2,hk=>by
  simp at h1 h2;subst h1;subst h2;show bindL kindOf ((p,w)::P.zip vs) m p=_;unfold bindL;rw[zg4 fun v hv=>(List.nodup_cons.mp nd).1 (List.of_mem_zip hv).1,if_pos hk];simp
 |p::P,w::vs,i+1,m,nd,h1,h2,hk=>by
  show bindL kindOf ((p,w)::P.zip vs) m x=_;unfold bindL;exact zg3 (i:=i) (List.nodup_cons.mp nd).2 (by simpa using h1) (by simpa using h2) hk
theorem zg1{kindOf:Str->Option NameKind}{x:Str}{v:Value}:∀ {P:List Str} {vs:List Value} {i:Nat} {m:Str->Option Value},P.Nodup->P[i]?=some x->vs[i]?=some v->kindOf x≠some .local->
  bindC kindOf (P.zip vs) m x=some v
 |[],_,_,_,_,h,_,_=>by simp at h
 |_::_,[],_,_,_,_,h,_=>by simp at h
 |p::P,w::vs,0,m,nd,h1,h2,hk=>by
  simp at h1 h2;subst h1;subst h2;show bindC kindOf ((p,w)::P.zip vs) m p=_;unfold bindC;rw[zg2 fun v hv=>(List.nodup_cons.mp nd).1 (List.of_mem_zip hv).1,if_neg hk];simp
 |p::P,w::vs,i+1,m,nd,h1,h2,hk=>by
  show bindC kindOf ((p,w)::P.zip vs) m x=_;unfold bindC;exact zg1 (i:=i) (List.nodup_cons.mp nd).2 (by simpa using h1) (by simpa using h2) hk
def yio(N:List Str)(vs:List V):St:=vs.map some++List.replicate (N.length - vs.length) none
def ykk(CX:CXT)(P:Program)(w:World)(K:PySem.W.Frag)(mg:Str->Option Value)(base:Heap)(N:List Str)(qual:Str)(scope:Scope)(f:Addr)(cd:Value)(A:Around)(outer:List Env)(s:Shared)(H:Hp)(E:XK):Cx where
 prog:=P
 w:=w
 K:=K
 mg:=mg
 base:=base
 A:=A.deeper (envOfC qual scope s.heap.objs.size f cd)
 N:=N
 s₀:=s
 H₀:=H
 env:=envOfC qual scope s.heap.objs.size f cd
 outer:=outer
 stack:=envOfC qual scope s.heap.objs.size f cd::outer
 ex:=[]
 calm:=true
 fn:=fun _=>true
 pn:=[]
 xe:=fun e s'=>wpAny (model P w) (A.deeper (envOfC qual scope s.heap.objs.size f cd)) (leaving (envOfC qual scope s.heap.objs.size f cd) e) (fun _ s''=>CX outer H s E e s'') (fun e' s''=>CX outer H s E e' s'') s'
theorem zkg{sc:Scope}{n:Nat}{x:Str}(h:sc.names.lookup x=some .cell):∃ c,(cellsFrom n sc.names []).lookup x=some c:=by
 have q:=PySem.W.cellsFrom_some sc.names n [] (.inl h);exact Option.isSome_iff_exists.mp q
theorem zh9{CX:CXT}{P:Program}{w:World}{K:PySem.W.Frag}{mg:Str->Option Value}{base:Heap}{N ps:List Str}{qual:Str}{scope:Scope}{f:Addr}{cd:Value}{A:Around}{outer:List Env}{s s1:Shared}{H:Hp}{E:XK}{us:List Value}{vs:List V}
  (S:FnScope N ps scope) (hd:A.handled=none) (e0:Env0 P w K mg base A outer s H) (hl:vs.length=ps.length) (r:yj1 vs us)
  (x:InCallC s s.heap.objs.size (bindL (envOfC qual scope s.heap.objs.size f cd).kindOf (ps.zip us) fun _=>none) (cellsFrom (s.heap.objs.size+1) scope.names []) (bindC (envOfC qual scope s.heap.objs.size f cd).kindOf (ps.zip us) fun _=>none) s1) :
  Inv (ykk CX P w K mg base N qual scope f cd A outer s H E) [] (yio N vs) H s1:=by
 have hpl:ps.length<=N.length:=by have:=congrArg List.length S.pre;rw[List.length_take]at this;omega
 obtain⟨h1,tk,rfl,hk⟩:=x.done;have noA:∀ b:Addr,b ∉ (ykk CX P w K mg base N qual scope f cd A outer s H E).ex:=fun b z=>absurd (show b∈([]:List Addr)from z) (by simp);refine⟨⟨e0.mod,S.kind,rfl,rfl,Nat.le_refl _,fun y z c h1 h2=>?_,fun y hy=>?_,fun y c _ h=>?_,fun _=>hd,Around.frames_deeper e0.frames,.inr ⟨rfl,rfl⟩,fun b z=>absurd z (noA b),e0.bs,e0.bsz,fun b _ _=>noA b,fun b z=>absurd z (noA b),e0.funs,e0.frf⟩,
  rfl,e0.bare,Un.kept hk,⟨_,x.toInCall.ns,fun i y v h1 h2 h3=>?_⟩,fun y c h=>⟨_,x.cell y c h⟩,e0.hok.fresh (Nat.le_refl _),fun y c h=>?_,fun p hp=>absurd (show p∈([]:List (Addr × Obj))from hp) (by simp),e0.hok.kept hk,?_⟩
 ·exact name_of_addr x.apart (PySem.mem_of_lookup h1) (PySem.mem_of_lookup h2)
 ·have hy:scope.names.lookup y=some .cell\/scope.names.lookup y=some .free:=hy;rcases hy with hy|hy
  ·exact zkg hy
  ·exact absurd rfl (S.nofree _ (PySem.mem_of_lookup hy))
 ·exact Nat.le_of_lt (x.above y c (PySem.mem_of_lookup h))
 ·have hi:i<vs.length:=by
   unfold yio at h2;by_cases hi:i<vs.length
   ·exact hi
   ·rw[List.getElem?_append_right (by simpa using hi)]at h2;rw[List.getElem?_replicate]at h2;split at h2<;>cases h2
  have ha:vs[i]?=some v:=by
   unfold yio at h2;rw[List.getElem?_append_left (by simpa using hi),List.getElem?_map]at h2;cases e:vs[i]? with
   |none=>rw[e]at h2;cases h2
   |some a=>rw[e]at h2;cases h2;rfl
  obtain⟨u,hu,rv⟩:=r.get ha;have hp:ps[i]?=some y:=by
   rw[<-S.pre,List.getElem?_take_of_lt (by omega)];exact h1
  have ndP:ps.Nodup:=by rw[<-S.pre];exact S.nd.sublist (List.take_sublist _ _)
  refine⟨u,rv,?_⟩;rcases S.par y (List.mem_of_getElem? hp)with k|k
  ·exact .inl ⟨k,zg3 ndP hp hu k⟩
  ·obtain⟨c,e⟩:=zkg (n:=s.heap.objs.size+1) k;refine .inr ⟨.inl k,c,e,?_⟩;have q:=x.cell y c e;rw[zg1 ndP hp hu (by show scope.names.lookup y≠_;rw[k];decide)]at q;exact q
 ·exact e0.hok.fresh (Nat.le_of_lt (x.above y c (PySem.mem_of_lookup h)))
 ·unfold yio;show _=N.length;rw[List.length_append,List.length_map,List.length_replicate];omega
theorem yfs{CX:CXT}{P:Program}{w:World}{K:PySem.W.Frag}{mg:Str->Option Value}{base:Heap}{k:Nat}{f:Addr}{name qual:Str}{params:Arguments}{body:List Stmt}{scope:Scope}{dV kV doc pm cdv ct oc:Value}{an od:Option Addr}
  {osl:Array (Option Value)} {N ps:List Str} {sp:Sp} (lk:K.lookup f=some ⟨oc,od,.func (PySem.W.fnOf name qual params body scope dV kV doc pm an cdv ct),osl⟩) (hcd:PySem.W.codeIn K cdv qual=true) (S:FnScope N ps scope)
  (len:∀ vs H Q E,sp vs H Q E->vs.length=ps.length)
  (hbody:∀ (A:Around) (outer:List Env) (s:Shared) (H:Hp) (vs:List V) (Q:VK) (E:XK),Room k (A.deeper (envOfC qual scope s.heap.objs.size f cdv))->sp vs H Q E->
   ∃ t,PSs (ykk CX P w K mg base N qual scope f cdv A outer s H E) body t/\t { nx:=fun _ H'=>Q .non H',rt:=Q } (yio N vs) H) :
  FnOk P w K mg base CX (k+1) f (PySem.W.fnOf name qual params body scope dV kV doc pm an cdv ct) ps sp:=by
 refine⟨len,fun A outer s H args us vs Q E hr e0 hb r hsp=>?_⟩;have hl:=len _ _ _ _ hsp;have KX:K.In s.heap:=e0.mod.kin.keeps fun b o e=>(e0.bs b o e).1;have lim:s.heap.NoLimit:=e0.mod.nolimit.keeps fun b o e=>(e0.bs b o e).1;have hkind:∀ y∈ps.zip us,scope.names.lookup y.1=some .local\/(scope.names.lookup y.1=some .cell/\((cellsFrom (s.heap.objs.size+1) scope.names []).lookup y.1).isSome=true):=fun⟨n,v⟩ hy=>by
  rcases S.par n (List.of_mem_zip hy).1 with q|q
  ·exact .inl q
  ·exact .inr ⟨q,PySem.W.cellsFrom_some _ _ _ (.inl q)⟩
 refine codeAny_call_function hr.depth (KX _ _ lk) rfl S.co S.gen rfl (PySem.W.codeRec_of KX hcd) (hb _ _ _ _ ?_);refine wpAny_newFunctionEnv_cells S.kind hkind fun env he s1 x=>?_;subst he;refine⟨lim.keeps x.toInCall.keep,codeAny_func ?_⟩;obtain⟨t,ht,hq⟩:=hbody A outer s H vs Q E (hr.deeper _) hsp;have I:Inv (ykk CX P w K mg base N qual scope f cdv A outer s H E) [] (yio N vs) H s1:=zh9 S hr.hd e0 hl r x;refine wpAny_mono (ht [] s1 (yio N vs) H _ I hq) (fun fl s' hs=>?_) fun e s' hs=>hs;have fin:∀ {σ':St} {H':Hp} {v:V} {u:Value},Inv (ykk CX P w K mg base N qual scope f cdv A outer s H E) [] σ' H' s'->yjs v u->Q v H'->CE outer P w H s Q u s':=
  fun {σ' H' v u} J rv q=>⟨v,H',J.os,J.bare,J.base,J.hok,rv,q⟩
 cases fl with
 |ret u=>
  obtain⟨v,σ',H',J,rv,q⟩:=hs;exact fin J rv q
 |next=>
  obtain⟨σ',H',J,q⟩:=hs;exact fin (v:=V.non) (u:=Value.none) J rfl q
 |brk=>
  obtain⟨_,_,_,q⟩:=hs;exact False.elim q
 |cont=>
  obtain⟨_,_,_,q⟩:=hs;exact False.elim q
end L2
namespace L2
open PySem PySem.Spec PyProof.Rows
section
variable{X:Cx}{x:Str}{p pos:Pos}{e:Expr}{es:List Expr}{t:TA}{id T:String}{r:List V->Hp->VK->Prop}
def tCB(r:List V->Hp->VK->Prop)(t:TA):TE:=fun σ H Q=>t σ H fun vs H1=>r vs H1 Q
theorem znq(hc:yd2 X (.builtin id) r)(hg:Gl X x)(hm:X.mg x=none)(hv:bootBuiltins x=some (.builtin id))(ha:PA X (e::es) t)(hn:x ≠ "__name__":=by decide)(hdb:(x == ("__debug__" : Str))=false:=by decide)
  (he:starEach (e::es) X.env=(false,eval e X.env)::starEach es X.env:=by rfl) (hpl:(backTo pos (starEach es X.env)).any (·.1)=false:=by rfl):PE X (.Call (.Name x p) (e::es) [] pos) (tCB r t):=by
 intro pins s σ H Q I h;refine wpAny_Call_Name_kw (yaw I hg hm hv ?_ hn hdb);exact PyProof.Rows.callWith_builtin1 (thn (ha pos pins s σ H _ I h) fun us s1 ⟨vs,H1,I1,r1,q1⟩=>hc pins s1 σ H1 vs us Q I1 r1 q1) he hpl
theorem zi3(hc:yd2 X (.type T) r)(hg:Gl X x)(hm:X.mg x=none)(hv:bootBuiltins x=some (.type T))(ha:PA X (e::es) t)(hn:x ≠ "__name__":=by decide)(hdb:(x == ("__debug__" : Str))=false:=by decide)
  (he:starEach (e::es) X.env=(false,eval e X.env)::starEach es X.env:=by rfl) (hpl:(backTo pos (starEach es X.env)).any (·.1)=false:=by rfl):PE X (.Call (.Name x p) (e::es) [] pos) (tCB r t):=by
 intro pins s σ H Q I h;refine wpAny_Call_Name_kw (yaw I hg hm hv ?_ hn hdb);exact PyProof.Rows.callWith_type1 (thn (ha pos pins s σ H _ I h) fun us s1 ⟨vs,H1,I1,r1,q1⟩=>hc pins s1 σ H1 vs us Q I1 r1 q1) he hpl
end
end L2
namespace HT
open PySem PyProof.Rows
section
open PySem.SeqAt
open PySem.AutoSeq1 (wpAny_loadPart')
open PySem.MeetsSeq PySem.MeetsSeq2 PySem.MeetsSeq3
end
section
variable{prog:Program}{w:World}{A:Around}{E:Value->Shared->Prop}{s:Shared}
theorem cat_tup{t b:Addr}{vs ws:List Value}{Q:Value->Shared->Prop}(ht:IsTup s.heap t vs.toArray)(hb:IsTup s.heap b ws.toArray)(hv:vs≠[])
  (h1:ws=[]->Q (.ref t) s) (h2:ws≠[]->Q (.ref s.heap.objs.size) { s with heap:=s.heap.push { cls:=.type "tuple",data:=.seq (vs++ws).toArray } })
  (hsz:vs.length+ws.length<=sizeLine):wpAny (model prog w) A (binaryOp .Add (.ref t) (.ref b)) Q E s:=by
 obtain⟨⟨cls,dd,data,sl⟩,ho,hc,n,hd⟩:=id ht;obtain⟨⟨cls2,dd2,data2,sl2⟩,ho2,hc2,n2,hd2⟩:=id hb;simp only at hc hd hc2 hd2;subst hc hd hc2 hd2;have e:vs.toArray++ws.toArray=(vs++ws).toArray:=by simp
 by_cases hw:ws=[]
 ·exact concat_meets ⟨_,ho,rfl⟩ ⟨_,ho2,rfl⟩ noFill_tuple_add seq_tuple_add PySem.F.slot_tuple_add PySem.F.entry_tuple_add (PySem.F.args_tuple_add_2 _ _)
   (tuple_addW1 t b vs.toArray ws.toArray n n2 dd dd2 sl sl2 (by simpa using hv) (by simp[hw])) ⟨ho,ho2,h1 hw⟩
 ·refine concat_meets ⟨_,ho,rfl⟩ ⟨_,ho2,rfl⟩ noFill_tuple_add seq_tuple_add PySem.F.slot_tuple_add PySem.F.entry_tuple_add (PySem.F.args_tuple_add_2 _ _)
   (tuple_addW2 t b vs.toArray ws.toArray n n2 dd dd2 sl sl2 (by simpa using hv) (by simpa using hw) (by rw[List.size_toArray,List.size_toArray];exact hsz)) ⟨ho,ho2,?_⟩
  rw[e];exact h2 hw
def sIx(n d:Nat):Option Int->Nat
 |none=>d
 |some v=>if v<0 then (v+(n:Int)).toNat else min v.toNat n
theorem ycz(n d:Nat)(hd:d<=n)(o:Option Int):sIx n d o<=n:=by
 cases o with
 |none=>exact hd
 |some v=>
  show (if v<0 then (v+(n:Int)).toNat else min v.toNat n)<=n;by_cases hv:v<0
  ·rw[if_pos hv];omega
  ·rw[if_neg hv];exact Nat.min_le_right _ _
theorem zqx(v:Int)(n d:Nat):(if v<0 then max (v+(n:Int)) 0 else min v (n:Int))=((sIx n d (some v):Nat):Int):=by
 show (if v<0 then max (v+(n:Int)) 0 else min v (n:Int))=(((if v<0 then (v+(n:Int)).toNat else min v.toNat n):Nat):Int);by_cases hv:v<0
 ·simp only[if_pos hv];omega
 ·simp only[if_neg hv];omega
theorem zfd(lo hi:Option Int)(n:Nat):Builtin.Slice.sliceAdjust lo hi 1 (n:Int)=(((sIx n 0 lo:Nat):Int),((sIx n n hi:Nat):Int)):=by
 have h1:¬ ((1:Int)<0):=by omega
 unfold Builtin.Slice.sliceAdjust;simp only[h1,if_false];refine Prod.ext ?_ ?_
 ·cases lo with
  |none=>rfl
  |some v=>exact zqx v n 0
 ·cases hi with
  |none=>rfl
  |some v=>exact zqx v n n
theorem zga(i j:Nat):Builtin.Slice.slicePlaces (i:Int) (j:Int) 1=j - i:=by
 unfold Builtin.Slice.slicePlaces;have h1:(1:Int) > 0:=by omega
 simp only[h1,if_true,Int.ediv_one];split<;>omega
theorem zgo{v:Value}{o:Option Int}{Q:Option Int->Shared->Prop}(p:IsPart v o)(h:Q o s):wpAny (model prog w) A (Builtin.Slice.slicePartIndex v) Q E s:=by
 cases p with
 |none=>exact slicePart_none h
 |int i t=>exact slicePart_int h
theorem zar{sl:Addr}{vl vu:Value}{lo hi:Option Int}{n:Nat}{Q:Int × Int × Nat->Shared->Prop}(hs:s.heap.IsSliceOf sl vl vu .none)(pl:IsPart vl lo)(pu:IsPart vu hi)
  (h:Q (((sIx n 0 lo:Nat):Int),1,sIx n n hi - sIx n 0 lo) s):wpAny (model prog w) A (Builtin.Slice.sliceApplied (.ref sl) (pure (n:Int))) Q E s:=by
 obtain⟨os,hos,hcs,hds⟩:=id hs;unfold Builtin.Slice.sliceApplied Builtin.Slice.sliceFields;refine wpAny_bind (wpAny_bind (wpAny_field hos hds (x:=vl) rfl (wpAny_bind (wpAny_field hos hds (x:=vu) rfl (wpAny_bind (wpAny_field hos hds (x:=.none) rfl (wpAny_pure ?_)))))));refine wpAny_bind (slicePart_none ?_);show wpAny _ _ (if ((1:Int) == 0)=true then _ else _) _ _ s;rw[if_neg (by decide)];refine wpAny_bind (zgo pl (wpAny_bind (zgo pu (wpAny_bind (wpAny_pure ?_)))));show wpAny _ _ (match Builtin.Slice.sliceAdjust lo hi 1 (n:Int)with|(lo,hi)=>pure (lo,(1:Int),Builtin.Slice.slicePlaces lo hi 1)) _ _ s;rw[zfd lo hi n];show wpAny _ _ (pure (((sIx n 0 lo:Nat):Int),(1:Int),Builtin.Slice.slicePlaces ((sIx n 0 lo:Nat):Int) ((sIx n n hi:Nat):Int) 1)) _ _ s;rw[zga];exact wpAny_pure h
theorem znw(xs:Array Value)(i k:Nat):((List.range k).filterMap fun(m:Nat)=>xs[((i:Int)+(m:Int) * 1).toNat]?).toArray=((xs.toList.drop i).take k).toArray:=by
 have e:(fun(m:Nat)=>xs[((i:Int)+(m:Int) * 1).toNat]?)=fun m=>xs[i+m]?:=by
  funext m;have:((i:Int)+(m:Int) * 1).toNat=i+m:=by omega
  rw[this]
 rw[e];have:=pick_run xs i k;rw[List.filterMap_map]at this;have e2:((fun x=>xs[x]?) ∘ fun x=>i+x)=fun m=>xs[i+m]?:=rfl;rw[e2]at this;rw[this]
theorem getItem_tuple_cut{t sl:Addr}{items:Array Value}{vl vu:Value}{lo hi:Option Int}{Q:Value->Shared->Prop}(ht:IsTup s.heap t items)(hs:s.heap.IsSliceOf sl vl vu .none)(pl:IsPart vl lo)(pu:IsPart vu hi)
  (hw:¬ (sIx items.size 0 lo=0/\sIx items.size items.size hi=items.size))
  (h:Q (.ref s.heap.objs.size) { s with heap:=s.heap.push { cls:=.type "tuple",data:=.seq ((items.toList.drop (sIx items.size 0 lo)).take (sIx items.size items.size hi - sIx items.size 0 lo)).toArray } })
  (hsz:items.size<=sizeLine):wpAny (model prog w) A (getItem (.ref t) (.ref sl)) Q E s:=by
 have htake:sizeOk (.seq ((items.toList.drop (sIx items.size 0 lo)).take (sIx items.size items.size hi - sIx items.size 0 lo)).toArray):=by
  show ((items.toList.drop (sIx items.size 0 lo)).take (sIx items.size items.size hi - sIx items.size 0 lo)).toArray.size<=sizeLine;rw[List.size_toArray,List.length_take,List.length_drop,Array.length_toList];omega
 have hj:sIx items.size items.size hi<=items.size:=ycz _ _ (Nat.le_refl _) hi;obtain⟨os,hos,hcs,hds⟩:=id hs;have hTs:s.TypeIs (.ref sl) "slice":=⟨os,hos,hcs⟩
 unfold getItem;try with_reducible refine wpAny_holding ?_
 first|refine wpAny_bind (wpAny_pure ?_)|skip
 refine wpAny_bind (wpAny_sequenceKey ht.typeIs (by decide) ?_);refine wpAny_bind (wpAny_callSpecial?_slot (name:=Str.ofString "__getitem__") ht.typeIs PyProof.Rows.slot_tuple_getitem
  (wpAny_call_entry PyProof.Rows.slot_tuple_getitem ht.typeIs entry_tuple_getitem ?_ (args_tuple_getitem _ _)))
 show wpAny _ _ (Builtin.Tuple.tupleItemsOf (.ref t) >>= _) _ _ s;refine wpAny_bind (tupleItemsOf_ ht ?_);refine wpAny_bind (wpAny_typeOf hTs ?_);rw[if_pos (by decide)];refine wpAny_bind (zar hs pl pu ?_);have hno:¬ ((((sIx items.size 0 lo:Nat):Int) == 0 && (1:Int) == 1 && (sIx items.size items.size hi - sIx items.size 0 lo) == items.size)=true):=by
  intro q;rw[Bool.and_eq_true,Bool.and_eq_true]at q;have q1:((sIx items.size 0 lo:Nat):Int)=0:=eq_of_beq q.1.1;have q2:sIx items.size items.size hi - sIx items.size 0 lo=items.size:=eq_of_beq q.2;exact hw ⟨by omega,by omega⟩
 show wpAny _ _ (if (((sIx items.size 0 lo:Nat):Int) == 0 && (1:Int) == 1 && (sIx items.size items.size hi - sIx items.size 0 lo) == items.size)=true then _ else _) _ _ s;rw[if_neg hno,znw];first
  |exact wpAny_bind (m:=Builtin.Tuple.tupleExact _) (wpAny_newObj_type (wpAny_pure ⟨_,rfl,wpAny_pure h⟩) htake)
  |exact wpAny_bind (m:=Builtin.Tuple.tupleExact _) (wpAny_newObj_type (wpAny_bind (wpAny_pure (wpAny_pure ⟨_,rfl,wpAny_pure h⟩))) htake)
  |exact wpAny_bind (wpAny_bind (m:=Builtin.Tuple.tupleExact _) (wpAny_newObj_type (wpAny_pure (wpAny_pure ⟨_,rfl,wpAny_pure h⟩)) htake))
  |exact wpAny_bind (wpAny_bind (m:=Builtin.Tuple.tupleExact _) (wpAny_newObj_type (wpAny_pure ⟨_,rfl,wpAny_pure h⟩) htake))
end
end HT
namespace L2
open PySem PySem.Spec PyProof.Rows
abbrev TO:=St->Hp->(Option Int->Hp->Prop)->Prop
def PO(X:Cx)(e:Option Expr)(t:TO):Prop:=
 ∀ (pins:List (Addr × Obj)) (s:Shared) (σ:St) (H:Hp) (Q:Option Int->Hp->Prop),Inv X pins σ H s->t σ H Q->
  wpAny (model X.prog X.w) X.A (evalPart e X.env) (fun u s'=>∃ o H',Inv X pins σ H' s'/\IsPart u o/\Q o H') X.xe s
def zw6:TO:=fun _ H Q=>Q none H
def yiw(t:TE):TO:=fun σ H Q=>t σ H fun x H1=>∃ i,x=.int i/\Q (some i) H1
theorem zfu{ns:List Int}:∀ {us:List Value},yj1 (ns.map V.int) us->IntsAre us ns:=by
 induction ns with
 |nil=>intro us r;rw[List.map_nil]at r;cases r;exact .nil
 |cons n ns ih=>
  intro us r;rw[List.map_cons]at r;cases r with
  |cons r1 r2=>
   obtain⟨t,e⟩:=r1;subst e;exact .cons n t (ih r2)
section
variable{X:Cx}{e:Expr}{te:TE}{lo hi:Option Expr}{tl th:TO}{pos p2:Pos}
theorem zu2:PO X none zw6:=by
 intro pins s σ H Q I h;rw[evalPart_none];exact wpAny_pure ⟨none,H,I,.none,h⟩
theorem zu3(h:PE X e te):PO X (some e) (yiw te):=by
 intro pins s σ H Q I hw;rw[evalPart_some];refine thn (h pins s σ H _ I hw) fun u s1 ⟨x,H1,I1,r1,q1⟩=>?_;obtain⟨i,rfl,q⟩:=q1;obtain⟨t,rfl⟩:=r1;exact⟨some i,H1,I1,.int i t,q⟩
def SlR(X:Cx)(r:V->Option Int->Option Int->Hp->VK->Prop):Prop:=
 ∀ (pins:List (Addr × Obj)) (s:Shared) (σ:St) (H:Hp) (x:V) (v vl vu:Value) (lo hi:Option Int) (sl:Addr) (Q:VK),Inv X pins σ H s->yjs x v->s.heap.IsSliceOf sl vl vu .none->IsPart vl lo->IsPart vu hi->r x lo hi H Q->
  ∃ T id,typeLookup (.type T) "__getitem__" = pure (some (.builtin id))/\s.TypeIs v T/\wpAny (model X.prog X.w) X.A (getItem v (.ref sl)) (EP X pins σ Q) X.xe s
theorem SlR.or{r r':V->Option Int->Option Int->Hp->VK->Prop}(h:SlR X r)(h':SlR X r'):SlR X (fun x lo hi H Q=>r x lo hi H Q\/r' x lo hi H Q):=by
 intro pins s σ H x v vl vu lo hi sl Q I rx hs pl pu q;rcases q with q|q
 ·exact h pins s σ H x v vl vu lo hi sl Q I rx hs pl pu q
 ·exact h' pins s σ H x v vl vu lo hi sl Q I rx hs pl pu q
def tSl(r:V->Option Int->Option Int->Hp->VK->Prop)(te:TE)(tl th:TO):TE:=fun σ H Q=>te σ H fun x H1=>tl σ H1 fun l H2=>th σ H2 fun u H3=>r x l u H3 Q
theorem znt{r:V->Option Int->Option Int->Hp->VK->Prop}(hr:SlR X r)(he:PE X e te)(hl:PO X lo tl)(hu:PO X hi th):PE X (.Subscript e (.Slice lo hi none p2) pos) (tSl r te tl th):=by
 intro pins s σ H Q I h;refine Subscript_ (thn (he pins s σ H _ I h) fun v s1 ⟨x,H1,I1,r1,q1⟩=>?_);refine wpAny_Slice (thn (hl pins s1 σ H1 _ I1 q1) fun vl s2 ⟨l,H2,I2,pl,q2⟩=>thn (hu pins s2 σ H2 _ I2 q2) fun vu s3 ⟨u,H3,I3,pu,q3⟩=>?_);rw[evalPart_none];refine wpAny_pure ?_;have I4:Inv X pins σ H3 { s3 with heap:=s3.heap.push { cls:=.type "slice",data:=.fields #[vl,vu,.none] } }:=I3.kept (t':=s3.toks) fun b ob q=>Heap.get?_push_of_some _ q;obtain⟨T,id,hT,ht,hg⟩:=hr pins { s3 with heap:=s3.heap.push { cls:=.type "slice",data:=.fields #[vl,vu,.none] } } σ H3 x v vl vu l u s3.heap.objs.size Q I4 r1 (Heap.IsSliceOf.new ..) pl pu q3;show wpAny (model X.prog X.w) X.A (subscriptTail e (.Slice lo hi none p2) v (.ref s3.heap.objs.size)) (EP X pins σ Q) X.xe { s3 with heap:=s3.heap.push { cls:=.type "slice",data:=.fields #[vl,vu,.none] } };exact tail_any (ops:=[.ref s3.heap.objs.size,v]) ht hT hg (by with_unfolding_all rfl)
def ykj(xs:List V)(lo hi:Option Int):List V:=(xs.drop (HT.sIx xs.length 0 lo)).take (HT.sIx xs.length xs.length hi - HT.sIx xs.length 0 lo)
theorem zee(xs:List V)(lo hi:Option Int):(ykj xs lo hi).length<=xs.length:=by
 unfold ykj;rw[List.length_take,List.length_drop];omega
def ymr(K:PySem.W.Frag):V->Option Int->Option Int->Hp->VK->Prop:=fun x lo hi H Q=>∃ a xs,x=.ref a/\SqT K H a xs/\
 ¬ (HT.sIx xs.length 0 lo=0/\HT.sIx xs.length xs.length hi=xs.length)/\∀ p,H p=none->Q (.ref p) (upd H p (.tup (ykj xs lo hi)))
theorem yc7:SlR X (ymr X.K):=by
 intro pins s σ H x v vl vu lo hi sl Q I rx hs pl pu h;obtain⟨a,xs,rfl,hx,hw,q⟩:=h;cases rx;obtain⟨its,r,ht,hz⟩:=I.tuple hx;have hlen:its.toArray.size=xs.length:=by rw[List.size_toArray];exact r.length.symm
 refine⟨"tuple",_,PyProof.Rows.slot_tuple_getitem.lookup,ht.typeIs,?_⟩;refine HT.getItem_tuple_cut ht hs pl pu (by rw[hlen];exact hw) ?_ (by rw[hlen];exact hz);rw[hlen];refine⟨.ref s.heap.objs.size,_,I.laid (t':=s.toks) (o:=.tup (ykj xs lo hi)) (fun b ob q=>Heap.get?_push_of_some _ q) (Nat.le_refl _) ?_,rfl,q _ (I.hok.fresh (Nat.le_refl _))⟩;exact⟨Nat.le_trans (zee xs lo hi) hz,_,(r.drop (HT.sIx xs.length 0 lo)).take (HT.sIx xs.length xs.length hi - HT.sIx xs.length 0 lo),IsTup.new _ _⟩
def yhw(K:PySem.W.Frag):R2:=fun x y H Q=>∃ a b xs ys,x=.ref a/\y=.ref b/\SqT K H a xs/\SqT K H b ys/\xs≠[]/\xs.length+ys.length<=sizeLine/\
 (ys=[]->Q (.ref a) H)/\(ys≠[]->∀ p,H p=none->Q (.ref p) (upd H p (.tup (xs++ys))))
theorem yj1.nil_iff{xs:List V}{us:List Value}(r:yj1 xs us):us=[] ↔ xs=[]:=by
 cases r with
 |nil=>simp
 |cons _ _=>simp
theorem zul:OpR X (binaryOp .Add) (yhw X.K):=by
 intro pins s σ H x y v u Q I rx ry h;obtain⟨a,b,xs,ys,rfl,rfl,ha,hb,hx,hz,q1,q2⟩:=h;cases rx;cases ry;obtain⟨its,r1,p1,_⟩:=I.tuple ha;obtain⟨its2,r2,p2,_⟩:=I.tuple hb;refine HT.cat_tup p1 p2 (fun z=>hx (r1.nil_iff.mp z)) (fun z=>⟨.ref a,H,I,rfl,q1 (r2.nil_iff.mp z)⟩) (fun z=>?_) (by rw[<-r1.length,<-r2.length];exact hz);refine⟨.ref s.heap.objs.size,_,I.laid (t':=s.toks) (o:=.tup (xs++ys)) (fun b ob q=>Heap.get?_push_of_some _ q) (Nat.le_refl _) ?_,rfl,q2 (fun w=>z (r2.nil_iff.mpr w)) _ (I.hok.fresh (Nat.le_refl _))⟩;exact⟨by rw[List.length_append];exact hz,_,r1.append r2,IsTup.new _ _⟩
end
end L2
namespace L2
open PySem PySem.Spec PyProof.Rows
def ixN(n:Nat)(i:Int):Option Nat:=if 0<=i then (if i<n then some i.toNat else none)else if -(n:Int)<=i then some (i+n).toNat else none
def atI{α:Type}(xs:List α)(i:Int):Option α:=(ixN xs.length i).bind fun j=>xs[j]?
theorem zs4{n:Nat}{i:Int}{j:Nat}(h:ixN n i=some j):seqIndex? i n=some j/\j<n/\-(n:Int)<=i/\i<n:=by
 unfold ixN at h;by_cases h0:0<=i
 ·rw[if_pos h0]at h;by_cases h1:i<n
  ·rw[if_pos h1]at h;have e:i.toNat=j:=Option.some.inj h;exact⟨by rw[seqIndex_of h0 h1,e],by omega,by omega,h1⟩
  ·rw[if_neg h1]at h;cases h
 ·rw[if_neg h0]at h;by_cases h1:-(n:Int)<=i
  ·rw[if_pos h1]at h;have e:(i+n).toNat=j:=Option.some.inj h;exact⟨by rw[seqIndex_neg (by omega) h1,e],by omega,h1,by omega⟩
  ·rw[if_neg h1]at h;cases h
theorem zp8{α:Type}{xs:List α}{i:Int}{v:α}(h:atI xs i=some v):∃ j,seqIndex? i xs.length=some j/\xs[j]?=some v/\j<xs.length/\-(xs.length:Int)<=i/\i<xs.length:=by
 unfold atI at h;cases e:ixN xs.length i with
 |none=>rw[e]at h;cases h
 |some j=>
  rw[e]at h;obtain⟨h1,h2,h3,h4⟩:=zs4 e;exact⟨j,h1,h,h2,h3,h4⟩
theorem zp9{α:Type}{xs:List α}{j:Nat}{v:α}(h:xs[j]?=some v):atI xs (j:Int)=some v:=by
 have hj:j<xs.length:=(List.getElem?_eq_some_iff.mp h).1;have e:ixN xs.length (j:Int)=some j:=by
  unfold ixN;rw[if_pos (by omega),if_pos (by omega)];simp
 unfold atI;rw[e];exact h
def zpx(b:Expr):Prop:=∀ o i,subscripted b false o i=operate [o,i] (getItem o i)
def IxR(X:Cx)(r:R2):Prop:=
 ∀ (value slice:Expr) (pins:List (Addr × Obj)) (s:Shared) (σ:St) (H:Hp) (x y:V) (v u:Value) (Q:VK),Inv X pins σ H s->yjs x v->yjs y u->r x y H Q->
  subscripted slice false v u=operate [v,u] (getItem v u)->wpAny (model X.prog X.w) X.A (subscriptTail value slice v u) (EP X pins σ Q) X.xe s
def MtR(X:Cx)(id:String)(r:V->List V->Hp->VK->Prop):Prop:=
 ∀ (pins:List (Addr × Obj)) (s:Shared) (σ:St) (H:Hp) (x:V) (xs:List V) (v:Value) (us:List Value) (Q:VK),Inv X pins σ H s->yjs x v->yj1 xs us->r x xs H Q->
  wpAny (model X.prog X.w) X.A (call (.builtin id) (v::us)) (EP X pins σ Q) X.xe s
section
variable{X:Cx}{a b:Expr}{ta tb:TE}{pos:Pos}
theorem IxR.or{r r':R2}(h:IxR X r)(h':IxR X r'):IxR X (fun x y H Q=>r x y H Q\/r' x y H Q):=by
 intro value slice pins s σ H x y v u Q I rx ry q hs;rcases q with q|q
 ·exact h value slice pins s σ H x y v u Q I rx ry q hs
 ·exact h' value slice pins s σ H x y v u Q I rx ry q hs
theorem MtR.or{id:String}{r r':V->List V->Hp->VK->Prop}(h:MtR X id r)(h':MtR X id r'):MtR X id (fun x xs H Q=>r x xs H Q\/r' x xs H Q):=by
 intro pins s σ H x xs v us Q I rx rs q;rcases q with q|q
 ·exact h pins s σ H x xs v us Q I rx rs q
 ·exact h' pins s σ H x xs v us Q I rx rs q
theorem yhk{r:R2}(hr:IxR X r)(ha:PE X a ta)(hb:PE X b tb)(hs:zpx b):PE X (.Subscript a b pos) (tOp r ta tb):=by
 intro pins s σ H Q I h;exact Subscript_ (ykb ha hb I h fun v u s2 x y H2 I2 rx ry q=>hr a b pins s2 σ H2 x y v u Q I2 rx ry q (hs _ _))
def ymm(K:PySem.W.Frag):R2:=fun x y H Q=>∃ p xs i v,x=.ref p/\y=.int i/\SqL K H p xs/\atI xs i=some v/\Q v H
def ymn(K:PySem.W.Frag):R2:=fun x y H Q=>∃ p xs i v,x=.ref p/\y=.int i/\SqT K H p xs/\atI xs i=some v/\Q v H
theorem zs5:IxR X (ymm X.K):=by
 intro value slice pins s σ H x y v u Q I rx ry h hs;obtain⟨p,xs,i,z,rfl,rfl,hq,he,q⟩:=h;cases rx;obtain⟨t,rfl⟩:=ry;obtain⟨its,r,pl,hz⟩:=I.list hq;obtain⟨j,h1,h2,h3,h4,h5⟩:=zp8 he;obtain⟨w,ew,rw'⟩:=r.get h2;have hl:=r.length;have hn:=yay;have fin:EP X pins σ Q w s:=⟨z,H,I,rw',q⟩
 by_cases h0:0<=i
 ·have hj:i.toNat=j:=by
   rw[seqIndex_of h0 h5]at h1;exact Option.some.inj h1
  exact item_listR pl.isList h0 (by omega) (by rw[hj];simpa using ew) fin hs
 ·have hj:(i+(its.toArray.size:Int)).toNat=j:=by
   rw[seqIndex_neg (by omega) h4]at h1;rw[List.size_toArray,<-hl];exact Option.some.inj h1
  exact subscriptTail_builtinR (x:=w) pl.isList.typeIs slot_list_getitem.lookup
   (wpAny_getItem_list_neg (Q:=fun r s'=>r=w/\EP X pins σ Q r s') pl.isList (by omega) (by rw[List.size_toArray]<;>omega) (by omega) (by rw[hj];simpa using ew) ⟨rfl,fin⟩) hs
theorem yag:IxR X (ymn X.K):=by
 intro value slice pins s σ H x y v u Q I rx ry h hs;obtain⟨p,xs,i,z,rfl,rfl,hq,he,q⟩:=h;cases rx;obtain⟨t,rfl⟩:=ry;obtain⟨its,r,pl,hz⟩:=I.tuple hq;obtain⟨j,h1,h2,h3,h4,h5⟩:=zp8 he;obtain⟨w,ew,rw'⟩:=r.get h2;have hl:=r.length;have hn:=yay;have fin:EP X pins σ Q w s:=⟨z,H,I,rw',q⟩
 exact subscriptTail_builtinR (x:=w) pl.typeIs slot_tuple_getitem.lookup
  (getItem_tuple (j:=j) (Q:=fun r s'=>r=w/\EP X pins σ Q r s') pl (by omega) (by omega) (by rw[List.size_toArray,<-hl];exact h1) (by simpa using ew) ⟨rfl,fin⟩) hs
theorem zf2(its:List Value)(n j:Nat)(u:Value):Obj.mapSeq (·.setIfInBounds j u) { cls:=.type "list",data:=.seq its.toArray n }={ cls:=.type "list",data:=.seq (its.set j u).toArray n }:=by
 simp[Obj.mapSeq]
theorem Inv.lst{pins:List (Addr × Obj)}{σ:St}{H:Hp}{s:Shared}{p:Addr}{xs:List V}(I:Inv X pins σ H s)(h:H p=some (.lst xs)) :
  ∃ (its:List Value) (n:Nat),yj1 xs its/\s.heap.get? p=some { cls:=.type "list",data:=.seq its.toArray n }/\xs.length<=sizeLine:=by
 obtain⟨z,its,n,r,e⟩:=I.hok p _ h;exact⟨its,n,r,e,z⟩
theorem Inv.lstUpd{pins:List (Addr × Obj)}{σ:St}{H:Hp}{s:Shared}{p:Addr}{xs ys:List V}{its its':List Value}{n n':Nat}{f:Obj->Obj}(I:Inv X pins σ H s)(h:H p=some (.lst xs))
  (ho:s.heap.get? p=some { cls:=.type "list",data:=.seq its.toArray n }) (hf:f { cls:=.type "list",data:=.seq its.toArray n }={ cls:=.type "list",data:=.seq its'.toArray n' }) (r:yj1 ys its') (hz:ys.length<=sizeLine) (t:Nat) :
  Inv X pins σ (upd H p (.lst ys)) { s with heap:=s.heap.update p f,toks:=t }:=by
 have e:(s.heap.update p f).get? p=some { cls:=.type "list",data:=.seq its'.toArray n' }:=by
  rw[Heap.get?_update_self f ho (by rw[hf]<;>rfl),hf]
 refine I.write (x:=p) (e:=p) (by rw[h];trivial) (.inl rfl) (fun b u hb q=>(Heap.get?_update_other _ _ (Ne.symm hb)).trans q) ⟨_,e⟩ ?_;exact⟨hz,its',n',r,e⟩
def yh2:V->V->V->Hp->(Hp->Prop)->Prop:=fun o i v H Q=>∃ p xs k j,o=.ref p/\i=.int k/\H p=some (.lst xs)/\ixN xs.length k=some j/\Q (upd H p (.lst (xs.set j v)))
theorem zou:yjo X yh2:=by
 intro pins s σ H o i v ov iv u Q I ro ri rv h;obtain⟨p,xs,k,j,rfl,rfl,hp,hj,q⟩:=h;cases ro;obtain⟨t,rfl⟩:=ri;obtain⟨its,n,r,ho,hz⟩:=I.lst hp;obtain⟨h1,h2,h3,h4⟩:=zs4 hj;have hl:=r.length;have hn:=yay;have I':Inv X pins σ (upd H p (.lst (xs.set j v))) { s with heap:=s.heap.update p (Obj.mapSeq (·.setIfInBounds j u)) }:=
  I.lstUpd hp ho (zf2 its n j u) (r.set rv j) (by rw[List.length_set];exact hz) s.toks
 by_cases h0:0<=k
 ·have hk:k.toNat=j:=by
   rw[seqIndex_of h0 h4]at h1;exact Option.some.inj h1
  exact PySem.W.ki_setAt ho h0 (by omega) (by rw[List.size_toArray,<-hl];exact h4) (by rw[hk];exact⟨_,I',q⟩)
 ·have hk:(k+(its.toArray.size:Int)).toNat=j:=by
   rw[seqIndex_neg (by omega) h3]at h1;rw[List.size_toArray,<-hl];exact Option.some.inj h1
  exact PySem.W.ki_setBack ho (by omega) (by rw[List.size_toArray,<-hl];exact h3) (by omega) (by rw[hk];exact⟨_,I',q⟩)
theorem zd6(lo hi:Option Int)(n:Nat):(sliceBounds lo hi none n).1=((HT.sIx n 0 lo:Nat):Int)/\(sliceBounds lo hi none n).2.1=((HT.sIx n n hi:Nat):Int)/\(sliceBounds lo hi none n).2.2=1:=by
 refine⟨?_,?_,rfl⟩
 ·cases lo with
  |none=>simp[sliceBounds,HT.sIx]
  |some i=>
   simp only[sliceBounds,HT.sIx,Option.getD_none,show (1:Int) > 0 by decide,if_true];by_cases h:i<0
   ·simp only[h,if_true]<;>omega
   ·simp only[h,if_false]<;>omega
 ·cases hi with
  |none=>simp[sliceBounds,HT.sIx]
  |some i=>
   simp only[sliceBounds,HT.sIx,Option.getD_none,show (1:Int) > 0 by decide,if_true];by_cases h:i<0
   ·simp only[h,if_true]<;>omega
   ·simp only[h,if_false]<;>omega
theorem zc8(its:List Value)(lo hi:Option Int):slicePick its.toArray lo hi none=((its.drop (HT.sIx its.length 0 lo)).take (HT.sIx its.length its.length hi - HT.sIx its.length 0 lo)).toArray:=by
 obtain⟨h1,h2,h3⟩:=zd6 lo hi its.toArray.size;unfold slicePick;rw[h1,h2,h3];simp only[sliceRange_one,pick_run,List.size_toArray]<;>rfl
def ymq(K:PySem.W.Frag):V->Option Int->Option Int->Hp->VK->Prop:=fun x lo hi H Q=>∃ a xs,x=.ref a/\SqL K H a xs/\∀ p,H p=none->Q (.ref p) (upd H p (.lst (ykj xs lo hi)))
theorem zwd:SlR X (ymq X.K):=by
 intro pins s σ H x v vl vu lo hi sl Q I rx hs pl pu h;obtain⟨a,xs,rfl,hx,q⟩:=h;cases rx;obtain⟨its,r,ht,hz⟩:=I.list hx;have hlen:=r.length;refine⟨"list",_,slot_list_getitem.lookup,ht.isList.typeIs,?_⟩;refine wpAny_getItem_list_slice ht.isList hs pl pu .none (by simp) ?_ (by rw[List.size_toArray]<;>omega);rw[zc8,<-hlen];refine⟨.ref s.heap.objs.size,_,I.laid (t':=s.toks) (o:=.lst (ykj xs lo hi)) (fun b ob q=>Heap.get?_push_of_some _ q) (Nat.le_refl _) ?_,rfl,q _ (I.hok.fresh (Nat.le_refl _))⟩;exact⟨Nat.le_trans (zee xs lo hi) hz,_,0,(r.drop (HT.sIx xs.length 0 lo)).take (HT.sIx xs.length xs.length hi - HT.sIx xs.length 0 lo),Heap.get?_push_size _ rfl⟩
def yfn:V->Bool
 | .non=>true
 | .bl _=>true
 | .int _=>true
 | .str _=>true
 |_=>false
def eqV:V->V->Bool
 | .non,.non=>true
 | .bl a,.bl b=>a == b
 | .bl a,.int b=>(if a then 1 else 0) == b
 | .int a,.bl b=>a == (if b then 1 else 0)
 | .int a,.int b=>a == b
 | .str a,.str b=>a == b
 |_,_=>false
theorem zys{A:Around}{s:Shared}{y x:V}{u v:Value}(ry:yjs y u)(rx:yjs x v)(fy:yfn y=true)(fx:yfn x=true):SeqAt.EqAt A s u v (eqV y x):=by
 cases y with
 |non=>
  cases ry;cases x with
  |non=>cases rx;exact SeqAt.EqAt.same _
  |bl b=>cases rx;exact SeqAt.EqAt.none_bool b
  |int b=>obtain⟨t,rfl⟩:=rx;exact SeqAt.EqAt.none_int b t
  |str b=>obtain⟨t,rfl⟩:=rx;exact SeqAt.EqAt.none_str b t
  |_=>exact absurd (show false=true from fx) Bool.false_ne_true
 |bl a=>
  cases ry;cases x with
  |non=>cases rx;exact SeqAt.EqAt.bool_none a
  |bl b=>cases rx;exact SeqAt.EqAt.bool_bool a b
  |int b=>obtain⟨t,rfl⟩:=rx;exact SeqAt.EqAt.bool_int a b t
  |str b=>obtain⟨t,rfl⟩:=rx;exact SeqAt.EqAt.bool_str a b t
  |_=>exact absurd (show false=true from fx) Bool.false_ne_true
 |int a=>
  obtain⟨t',rfl⟩:=ry;cases x with
  |non=>cases rx;exact SeqAt.EqAt.int_none a t'
  |bl b=>cases rx;exact SeqAt.EqAt.int_bool a t' b
  |int b=>obtain⟨t,rfl⟩:=rx;exact SeqAt.EqAt.int_int a t' b t
  |str b=>obtain⟨t,rfl⟩:=rx;exact SeqAt.EqAt.int_str a t' b t
  |_=>exact absurd (show false=true from fx) Bool.false_ne_true
 |str a=>
  obtain⟨t',rfl⟩:=ry;cases x with
  |non=>cases rx;exact SeqAt.EqAt.str_none a t'
  |bl b=>cases rx;exact SeqAt.EqAt.str_bool a t' b
  |int b=>obtain⟨t,rfl⟩:=rx;exact SeqAt.EqAt.str_int a t' b t
  |str b=>obtain⟨t,rfl⟩:=rx;exact SeqAt.EqAt.str_str a t' b t
  |_=>exact absurd (show false=true from fx) Bool.false_ne_true
 |_=>exact absurd (show false=true from fy) Bool.false_ne_true
def eqU(x:V)(u:Value):Bool:=match u with
 | .none=>eqV .non x
 | .bool b=>eqV (.bl b) x
 | .int i _=>eqV (.int i) x
 | .str z _=>eqV (.str z) x
 |_=>false
theorem zyv{x y:V}{u:Value}(r:yjs y u)(f:yfn y=true):eqU x u=eqV y x:=by
 cases y with
 |non=>cases r;rfl
 |bl b=>cases r;rfl
 |int i=>obtain⟨t,rfl⟩:=r;rfl
 |str z=>obtain⟨t,rfl⟩:=r;rfl
 |_=>exact absurd (show false=true from f) Bool.false_ne_true
theorem zp4{x:V}:∀ {xs:List V} {us:List Value},yj1 xs us->xs.all yfn=true->us.any (eqU x)=xs.any fun y=>eqV y x
 |_,_,.nil,_=>rfl
 |y::xs,u::us,.cons r t,f=>by
  rw[List.all_cons,Bool.and_eq_true]at f;rw[List.any_cons,List.any_cons,zyv r f.1,zp4 t f.2]
theorem zm3{A:Around}{s:Shared}{x:V}{v:Value}(rx:yjs x v)(fx:yfn x=true):∀ {xs:List V} {us:List Value},yj1 xs us->xs.all yfn=true->∀ u∈us,SeqAt.EqAt A s u v (eqU x u)
 |_,_,.nil,_=>fun u hu=>by cases hu
 |y::xs,u::us,.cons r t,f=>fun u' hu=>by
  rw[List.all_cons,Bool.and_eq_true]at f;rcases List.mem_cons.mp hu with rfl|hu
  ·rw[zyv r f.1];exact zys r rx f.1 fx
  ·exact zm3 rx fx t f.2 u' hu
def inV(x:V)(xs:List V):Bool:=xs.any fun y=>eqV y x
def rIn(K:PySem.W.Frag)(neg:Bool):R2:=fun x y H Q=>∃ p xs,y=.ref p/\(SqL K H p xs\/SqT K H p xs)/\yfn x=true/\xs.all yfn=true/\Q (.bl (if neg then !inV x xs else inV x xs)) H
theorem zi1:OpR X (compareOp .In) (rIn X.K false):=by
 intro pins s σ H x y v u Q I rx ry h;obtain⟨p,xs,rfl,hq,fx,fs,q⟩:=h;cases ry;rcases hq with hq|hq
 ·obtain⟨its,r,pl,hz⟩:=I.list hq;refine SeqAt.in_listAt (eqU x) pl.isList (fun w hw=>zm3 rx fx r fs w (by simpa using hw)) ⟨.bl _,H,I,rfl,?_⟩;rw[show its.toArray.any (eqU x)=its.any (eqU x) by simp,zp4 r fs];exact q
 ·obtain⟨its,r,pl,hz⟩:=I.tuple hq;refine SeqAt.in_tupleAt (eqU x) pl (fun w hw=>zm3 rx fx r fs w (by simpa using hw)) ⟨.bl _,H,I,rfl,?_⟩;rw[show its.toArray.any (eqU x)=its.any (eqU x) by simp,zp4 r fs];exact q
theorem zds:OpR X (compareOp .NotIn) (rIn X.K true):=by
 intro pins s σ H x y v u Q I rx ry h;obtain⟨p,xs,rfl,hq,fx,fs,q⟩:=h;cases ry;rcases hq with hq|hq
 ·obtain⟨its,r,pl,hz⟩:=I.list hq;refine SeqAt.notIn_listAt (eqU x) pl.isList (fun w hw=>zm3 rx fx r fs w (by simpa using hw)) ⟨.bl _,H,I,rfl,?_⟩;rw[show its.toArray.any (eqU x)=its.any (eqU x) by simp,zp4 r fs];exact q
 ·obtain⟨its,r,pl,hz⟩:=I.tuple hq;refine SeqAt.notIn_tupleAt (eqU x) pl (fun w hw=>zm3 rx fx r fs w (by simpa using hw)) ⟨.bl _,H,I,rfl,?_⟩;rw[show its.toArray.any (eqU x)=its.any (eqU x) by simp,zp4 r fs];exact q
theorem zdd:yd2 X (.builtin "len") (fun xs H Q=>∃ p ys,xs=[.ref p]/\(SqL X.K H p ys\/SqT X.K H p ys)/\Q (.int ys.length) H):=by
 intro pins s σ H xs us Q I r h;obtain⟨p,ys,rfl,hq,q⟩:=h;obtain⟨u,rfl,rx⟩:=yi2 r;cases rx;have hn:=yay;rcases hq with hq|hq
 ·obtain⟨its,r',pl,hz⟩:=I.list hq;have hlen:=r'.length;exact Calls.call_len_list pl.isList (by simp only[List.size_toArray]<;>omega) ⟨.int ys.length,H,I.tok _,⟨s.toks+1,by rw[List.size_toArray,hlen]⟩,q⟩
 ·obtain⟨its,r',pl,hz⟩:=I.tuple hq;have hlen:=r'.length;exact len_tuple pl (by simp only[List.size_toArray]<;>omega) ⟨.int ys.length,H,I.tok _,⟨s.toks+1,by rw[List.size_toArray,hlen]⟩,q⟩
theorem yd2.or{f:Value}{r r':List V->Hp->VK->Prop}(h:yd2 X f r)(h':yd2 X f r'):yd2 X f (fun xs H Q=>r xs H Q\/r' xs H Q):=by
 intro pins s σ H xs us Q I rs q;rcases q with q|q
 ·exact h pins s σ H xs us Q I rs q
 ·exact h' pins s σ H xs us Q I rs q
theorem zde:yd2 X (.type "list") (fun xs H Q=>∃ p ys,xs=[.ref p]/\(SqL X.K H p ys\/SqT X.K H p ys)/\∀ l,H l=none->Q (.ref l) (upd H l (.lst ys))):=by
 intro pins s σ H xs us Q I r h;obtain⟨p,ys,rfl,hq,q⟩:=h;obtain⟨u,rfl,rx⟩:=yi2 r;cases rx;have fin:∀ (its:List Value),yj1 ys its->ys.length<=sizeLine->∀ (h':Heap) (c':Nat),(∀ b o',s.heap.get? b=some o'->h'.get? b=some o')->
   h'.get? s.heap.objs.size=some { cls:=.type "list",dict:=none,data:=.seq its.toArray c',slots:=#[] }->EP X pins σ Q (.ref s.heap.objs.size) { s with heap:=h' }:=fun its r' hz h' c' kp e=>
  ⟨.ref s.heap.objs.size,_,I.laid (t':=s.toks) kp (Nat.le_refl _) (show yd7 X.prog X.w _ h' _ (.lst ys)from⟨hz,its,c',r',e⟩),rfl,q _ (I.hok.fresh (Nat.le_refl _))⟩
 rcases hq with hq|hq
 ·obtain⟨its,r',pl,hz⟩:=I.list hq;have hlen:=r'.length;obtain⟨o,ho,hc,n,hd⟩:=pl.isList;exact call_list_seq p (.inl rfl) ho hc hd (fun h' c' kp e=>fin its r' hz h' c' kp e) (by simp only[List.size_toArray]<;>omega)
 ·obtain⟨its,r',pl,hz⟩:=I.tuple hq;have hlen:=r'.length;obtain⟨o,ho,hc,n,hd⟩:=pl;exact call_list_seq p (.inr rfl) ho hc hd (fun h' c' kp e=>fin its r' hz h' c' kp e) (by simp only[List.size_toArray]<;>omega)
theorem zce:yd2 X (.type "tuple") (fun xs H Q=>∃ p ys,xs=[.ref p]/\((SqL X.K H p ys/\∀ l,H l=none->Q (.ref l) (upd H l (.tup ys)))\/(SqT X.K H p ys/\Q (.ref p) H))):=by
 intro pins s σ H xs us Q I r h;obtain⟨p,ys,rfl,h⟩:=h;obtain⟨u,rfl,rx⟩:=yi2 r;cases rx;rcases h with⟨hq,q⟩|⟨hq,q⟩
 ·obtain⟨its,r',pl,hz⟩:=I.list hq;have hlen:=r'.length;refine call_tuple_list pl.isList (fun h' kp=>?_) (by simp only[List.size_toArray]<;>omega);have I1:Inv X pins σ H { s with heap:=h' }:=I.kept (t':=s.toks) kp;have I2:Inv X pins σ (upd H h'.objs.size (.tup ys)) { s with heap:=h'.push { cls:=.type "tuple",data:=.seq its.toArray } }:=
   I1.laid (t':=s.toks) (fun b o e=>Heap.get?_push_of_some _ e) (Nat.le_refl _) (show yd7 X.prog X.w _ _ _ (.tup ys)from⟨hz,its,r',IsTup.new _ _⟩)
  exact⟨.ref h'.objs.size,_,I2,rfl,q _ (I1.hok.fresh (Nat.le_refl _))⟩
 ·obtain⟨its,r',pl,hz⟩:=I.tuple hq;exact call_tuple_same pl ⟨.ref p,H,I,rfl,q⟩
def tyV(K:PySem.W.Frag)(T:String)(x:V)(H:Hp):Prop:=match x with
 | .str _=>T = "str"
 | .int _=>T = "int"
 | .ref p=>(T = "list"/\∃ xs,SqL K H p xs)\/(T = "tuple"/\∃ o,K.lookup p=some o/\o.cls=.type "tuple"/\o.dict=none)\/
   (T = "dict"/\((∃ kvs,H p=some (.dK kvs))\/∃ kvs,H p=some (.dT kvs)))\/(T = "set"/\∃ S n,H p=some (.set S n))
 |_=>False
theorem ydv{pins:List (Addr × Obj)}{σ:St}{H:Hp}{s:Shared}{T:String}{x:V}{v:Value}(I:Inv X pins σ H s)(r:yjs x v)(ty:tyV X.K T x H) :
  s.TypeIs v T/\∀ a,v=.ref a->∃ ob,s.heap.get? a=some ob/\ob.dict=none:=by
 cases x with
 |str z=>
  obtain⟨t,rfl⟩:=r;cases (show T = "str" from ty);exact⟨typeIs_str s z t,fun _ e=>nomatch e⟩
 |int i=>
  obtain⟨t,rfl⟩:=r;cases (show T = "int" from ty);exact⟨typeIs_int s i t,fun _ e=>nomatch e⟩
 |ref p=>
  cases r;rcases ty with⟨rfl,xs,hq⟩|⟨rfl,o,hk,hc,hd⟩|⟨rfl,hk⟩|⟨rfl,S,n,hk⟩
  ·obtain⟨its,_,pl,_⟩:=I.list hq;refine⟨pl.isList.typeIs,fun a e=>?_⟩;cases e;obtain⟨o,n,e,c,hd,_⟩:=pl;exact⟨o,e,hd⟩
  ·refine⟨⟨o,I.kIn p o hk,hc⟩,fun a e=>?_⟩;cases e;exact⟨o,I.kIn _ o hk,hd⟩
  ·have z:∃ o,s.heap.get? p=some o/\o.ExactDict:=by
    rcases hk with⟨kvs,hk⟩|⟨kvs,hk⟩
    ·obtain⟨_,_,_,_,o,_,_,e,ex,_⟩:=I.hok p _ hk;exact⟨o,e,ex⟩
    ·obtain⟨_,_,_,_,o,_,_,e,ex,_⟩:=I.hok p _ hk;exact⟨o,e,ex⟩
   obtain⟨o,e,ex⟩:=z;refine⟨⟨o,e,ex.1⟩,fun a e2=>?_⟩;cases e2;exact⟨o,e,ex.2.1⟩
  ·obtain⟨o,_,_,_,e,ex,_⟩:=I.hok p _ hk;refine⟨⟨o,e,ex.1⟩,fun a e2=>?_⟩;cases e2;exact⟨o,e,ex.2.1⟩
 |_=>exact False.elim ty
def tBM(K:PySem.W.Frag)(T:String)(r:V->List V->Hp->VK->Prop)(to:TE)(t:TA):TE:=fun σ H Q=>to σ H fun x H1=>tyV K T x H1/\t σ H1 fun xs H2=>r x xs H2 Q
variable{o e:Expr}{es:List Expr}{to:TE}{t:TA}{name:Str}{apos cpos:Pos}{T id:String}{r:V->List V->Hp->VK->Prop}
theorem yhj(pa:PlainAttrs T)(slot:Slot T name id)(hty:typeOf (.builtin id)=pure (.type "method_descriptor"))(hm:MtR X id r)(ho:PE X o to)(ha:PA X (e::es) t)
  (hbase:attributeBase o name X.env (eval o X.env)=eval o X.env:=by rfl)
  (hfew:((backTo cpos (starEach (e::es) X.env)).all (fun x=>!x.1) && (backToKw cpos (keywordEach [] X.env)).all (fun x=>x.1.isSome)
   && decide ((e::es).length+([]:List Keyword).length+(if ([]:List Keyword).isEmpty then 0 else 1)<30))=true:=by rfl)
  (hline:(apos.endLine == cpos.line)=true:=by rfl) (hs:starEach (e::es) X.env=(false,eval e X.env)::starEach es X.env:=by rfl) (hplain:(backTo cpos (starEach es X.env)).any (·.1)=false:=by rfl) :
  PE X (.Call (.Attribute o name apos) (e::es) [] cpos) (tBM X.K T r to t):=by
 intro pins s σ H Q I h;refine wpAny_Call_method_late hbase hfew hline rfl (thn (ho pins s σ H _ I h) fun v s1 ⟨x,H1,I1,r1,ty,q1⟩=>?_);obtain⟨h1,h2⟩:=ydv I1 r1 ty;refine⟨T,id,pa,slot,hty,h1,h2,?_⟩;have hA:=ha cpos pins s1 σ H1 _ I1 q1;rw[hs]at hA ⊢;refine Calls.callWith_builtin (by show (false || (backTo cpos (starEach es X.env)).any (·.1))=false;rw[hplain]<;>rfl) (Calls.evalArgs_plain ?_);exact thn hA fun us s2 ⟨vs,H2,I2,r2,q2⟩=>hm pins s2 σ H2 x vs v us Q I2 r1 r2 q2
end
end L2
namespace L2
open PySem PySem.Spec PyProof.Rows
def MtM(X:Cx)(id:String)(r:V->List V->Hp->VK->Prop):Prop:=
 ∀ (pins:List (Addr × Obj)) (s:Shared) (σ:St) (H:Hp) (x:V) (xs:List V) (v:Value) (us:List Value) (Q:VK),Inv X pins σ H s->yjs x v->yj1 xs us->r x xs H Q->
  wpAny (model X.prog X.w) X.A (call (.builtin id) (v::us)) (EP X pins σ Q) X.xe s
theorem yj1.one:∀ {x:V} {us:List Value},yj1 [x] us->∃ u,us=[u]/\yjs x u
 |_,_,.cons r .nil=>⟨_,rfl,r⟩
theorem yj1.two:∀ {x y:V} {us:List Value},yj1 [x,y] us->∃ u v,us=[u,v]/\yjs x u/\yjs y v
 |_,_,_,.cons r (.cons q .nil)=>⟨_,_,rfl,r,q⟩
theorem yj1.zero:∀ {us:List Value},yj1 [] us->us=[]
 |_,.nil=>rfl
theorem yj1.eraseIdx:∀ {xs:List V} {us:List Value} (i:Nat),yj1 xs us->yj1 (xs.eraseIdx i) (us.eraseIdx i)
 |_,_,_,.nil=>.nil
 |_,_,0,.cons _ t=>t
 |_,_,i+1,.cons r t=>.cons r (yj1.eraseIdx i t)
section
variable{X:Cx}{pins:List (Addr × Obj)}{σ:St}{H:Hp}{s:Shared}{l b:Addr}{xs ys zs:List V}
theorem Inv.lset{its its':List Value}{n:Nat}{f:Array Value->Array Value}{t':Nat}(I:Inv X pins σ H s)(hH:H l=some (.lst xs))
  (e:s.heap.get? l=some { cls:=.type "list",data:=.seq its.toArray n }) (hf:f its.toArray=its'.toArray) (hv:yj1 ys its') (hz:ys.length<=sizeLine) :
  Inv X pins σ (upd H l (.lst ys)) { s with heap:=s.heap.update l (Obj.mapSeq f),toks:=t' }:=by
 have q:=PySem.IsL.update e f;rw[hf]at q;refine I.write (x:=l) (e:=l) (by rw[hH];exact trivial) (.inl rfl) (fun b' u hb hu=>(Heap.get?_update_other s.heap (Obj.mapSeq f) (Ne.symm hb)).trans hu) ⟨_,q⟩ ?_;exact⟨hz,its',_,hv,q⟩
theorem Inv.lnew{its:List Value}{t':Nat}(I:Inv X pins σ H s)(hv:yj1 ys its)(hz:ys.length<=sizeLine) :
  Inv X pins σ (upd H s.heap.objs.size (.lst ys)) { s with heap:=s.heap.push { cls:=.type "list",data:=.seq its.toArray },toks:=t' }:=
 I.laid (fun _ _ q=>Heap.get?_push_of_some _ q) (Nat.le_refl _) ⟨hz,its,0,hv,Heap.get?_push_size _ rfl⟩
theorem Inv.fresh(I:Inv X pins σ H s):H s.heap.objs.size=none:=I.hok.fresh (Nat.le_refl _)
theorem Inv.lstM(I:Inv X pins σ H s)(hH:H l=some (.lst xs)):xs.length<=sizeLine/\∃ (its:List Value) (n:Nat),yj1 xs its/\xs.length=its.length/\s.heap.get? l=some { cls:=.type "list",data:=.seq its.toArray n }:=by
 obtain⟨z,its,n,r,e⟩:=I.hok l _ hH;exact⟨z,its,n,r,r.length,e⟩
theorem znc{n:Nat}(h:n<=sizeLine):Builtin.List.listTooLong n=false:=by
 unfold Builtin.List.listTooLong;exact decide_eq_false (by omega)
end
section
variable{X:Cx}
def zve:V->List V->Hp->VK->Prop:=fun x vs H Q=>∃ l xs y,x=.ref l/\vs=[y]/\H l=some (.lst xs)/\xs.length<sizeLine/\Q .non (upd H l (.lst (xs++[y])))
theorem ziq:MtM X "list.append" zve:=by
 intro pins s σ H x vs v us Q I rx rv h;obtain⟨l,xs,y,rfl,rfl,hH,hz,q⟩:=h;cases rx;obtain⟨u,rfl,ru⟩:=rv.one;obtain⟨z,its,n,r,hl,e⟩:=I.lstM hH;refine call_meets F.slot_list_append ⟨_,e,rfl⟩ F.entry_list_append (F.args_list_append_2 _ _) (PySem.list_append l its.toArray n u (by rw[List.size_toArray];omega)) ⟨e,?_⟩;refine⟨.non,_,I.lset (its':=its++[u]) hH e (by simp) (r.append (.cons ru .nil)) ?_,rfl,q⟩;rw[List.length_append,List.length_singleton];omega
def zvf:V->List V->Hp->VK->Prop:=fun x vs H Q=>∃ l b xs zs,x=.ref l/\vs=[.ref b]/\H l=some (.lst xs)/\H b=some (.lst zs)/\xs.length+zs.length<=sizeLine/\Q .non (upd H l (.lst (xs++zs)))
theorem zir:MtM X "list.extend" zvf:=by
 intro pins s σ H x vs v us Q I rx rv h;obtain⟨l,b,xs,zs,rfl,rfl,hH,hB,hz,q⟩:=h;cases rx;obtain⟨u,rfl,ru⟩:=rv.one;cases ru;obtain⟨z,its,n,r,hl,e⟩:=I.lstM hH;obtain⟨z2,its2,n2,r2,hl2,e2⟩:=I.lstM hB;have hsz:its.toArray.size+its2.toArray.size<=sizeLine:=by rw[List.size_toArray,List.size_toArray];omega
 have hlong:¬ (!its.toArray.isEmpty && Builtin.List.listTooLong (its.toArray.size+its2.toArray.size))=true:=by
  rw[znc hsz,Bool.and_false];exact Bool.false_ne_true
 refine call_meets F.slot_list_extend ⟨_,e,rfl⟩ F.entry_list_extend (F.args_list_extend_2 _ _)
  (AutoSeq1.list_extend_list_list_0 l its.toArray n b its2.toArray n2 hlong (by rw[List.size_toArray];omega) (by omega)) ⟨e,e2,?_⟩
 refine⟨.non,_,I.lset (its':=its++its2) hH e (by simp) (r.append r2) ?_,rfl,q⟩;rw[List.length_append];omega
def ymi:R2:=fun x y H Q=>∃ l b xs zs,x=.ref l/\y=.ref b/\H l=some (.lst xs)/\H b=some (.lst zs)/\xs.length+zs.length<=sizeLine/\∀ p,H p=none->Q (.ref p) (upd H p (.lst (xs++zs)))
theorem ybm:OpR X (binaryOp .Add) ymi:=by
 intro pins s σ H x y v u Q I rx ry h;obtain⟨l,b,xs,zs,rfl,rfl,hH,hB,hz,q⟩:=h;cases rx;cases ry;obtain⟨z,its,n,r,hl,e⟩:=I.lstM hH;obtain⟨z2,its2,n2,r2,hl2,e2⟩:=I.lstM hB;refine PySem.P.add_list e e2 ?_ (by rw[List.size_toArray,List.size_toArray];omega);have ea:its.toArray++its2.toArray=(its++its2).toArray:=by simp
 rw[ea];exact⟨.ref _,_,I.lnew (t':=s.toks) (r.append r2) (by rw[List.length_append];omega),rfl,q _ I.fresh⟩
end
section
variable{prog:Program}{w:World}{A:Around}{E:Value->Shared->Prop}{s:Shared}
set_option maxRecDepth 100000 in
end
section
variable{X:Cx}
end
end L2
namespace Att
open PySem PySem.W PySem.Calls PyProof.Rows
theorem za0{P:Params}{h:Heap}:∀ (ns:List Int) (vs:List Value),WellAll P h vs (ns.map WData.int)->IntsAre vs ns:=by
 intro ns;induction ns with
 |nil=>
  intro vs w;rw[List.map_nil]at w;cases w;exact .nil
 |cons n ns ih=>
  intro vs w;rw[List.map_cons]at w;cases w with
  |cons a b=>
   cases a;exact .cons _ _ (ih _ b)
theorem zjh{l:OpenLaw}{n:Nat}(hn:l.most=some n){P:Params}{h:Heap}{args:List WData}{vals:List Value}
  (hpre:l.row.toRowW.claim.pre args=true) (hwl:WellAll P h vals args) :
  ∃ a vs ns,vals=[Value.ref a]/\args=[WData.list (ns.map WData.int)]/\h.get? a=some { cls:=.type "list",data:=.seq vs.toArray }/\IntsAre vs ns/\ns.length<=n:=by
 have hsh:WShape.hasAll [] args [.list .int]=true:=(pre_splitW hpre).1;have hc:l.pre.holds [] { args:=args }=true:=(pre_splitW hpre).2;obtain⟨d,r,rfl,h1,h2⟩:=hasAllW_cons hsh;obtain rfl:=hasAllW_nil h2;obtain⟨xs,rfl,h3⟩:=hasW_list h1;obtain⟨ns,rfl⟩:=items_int h3;have hlen:ns.length<=n:=by
  unfold OpenLaw.pre at hc;have h4:(WTm.not (.lt (.lit (.int (n:Int))) (.len (.arg 0)))).holds [] { args:=[.list (ns.map .int)] }=true:=by
   have h4:=(holds_andW hc).1;rw[hn]at h4;exact h4
  have h5:=condW_of h4 (w_not (w_lt w_lit (w_len_list (w_arg rfl))));rw[List.length_map]at h5;refine Nat.le_of_not_lt fun q=>?_;have q':(n:Int)<((ns.length:Nat):Int):=by omega
  first
   |(rw[decide_eq_true q']at h5;exact absurd h5 (by decide))
   |(simp at h5;omega)
 cases hwl with
 |cons w1 w2=>
  cases w2;cases w1 with
  |list ho hall=>exact⟨_,_,ns,rfl,rfl,ho,za0 ns _ hall,hlen⟩
theorem zi7(l:OpenLaw)(args:List WData):l.row.toRowW.claim.post args (.bool true) args=true:=
 postW_of (r:=l.row.toRowW) (X:=(true == true))
  (show WShape.has [] (.bool true) .bool=true by first|rfl|decide|simp[WShape.has,WShape.arms,WShape.armsAll])
  (show (WTm.eq .res (.lit (.bool true))).value [] { args:=args,res:=some (.bool true),after:=args }=some (.bool (true == true))from w_eq_bool (w_res rfl) w_lit) rfl
theorem attach_call{l:OpenLaw}{n:Nat}{q:Program}{loose:List Str}{XP:(Str->Option Value)->Heap->Prop}{YP:World->Heap->Prop}{d:DefRec}
  (hn:l.most=some n) (hdf:d.params.defaults=[])
  (call:∀ (w:World) (s₀ s₁:Shared) (mg mb:Str->Option Value) (fa:Addr) (o:Obj) (pm cd doc:Value) (a:Addr) (vs:List Value) (ns:List Int),
   Ground q loose [] XP w s₀ mg mb s₁.heap->YP w s₁.heap->
   s₁.heap.get? fa=some o->o.data=.func (docDef d.name d.params d.body d.scope pm cd doc)->s₁.heap.CodeRec cd d.name->mg d.name=some (.ref fa)->
   s₁.heap.get? a=some { cls:=.type "list",data:=.seq vs.toArray }->IntsAre vs ns->ns.length<=n->s₁.gens=#[]->
   codeAny (model l.prog w) callerA (.call (.ref fa) ⟨[.ref a],[]⟩) (fun r s'=>r=.ok (.ret (.bool true))/\OldK s₁.heap s'.heap/\s'.os=s₁.os/\AllBare s'.gens) s₁) :
  WalkO q loose XP YP l.row.toRowW d [] (fun f vs=>PySem.call f vs):=by
 intro w s₀ s₁ mg mb G Y fa o pm cd doc dV kV ho hd hcd hD hmg hg args vals as hpre hlay hrd hwl hlo;obtain rfl:dV=.none:=Dflts.none hD hdf;obtain rfl:kV=.none:=Dflts.noKw hD;obtain⟨a,vs,ns,rfl,rfl,hobj,hints,hlen⟩:=zjh hn hpre hwl;refine enter_call (codeAny_mono (call w s₀ s₁ mg mb fa o pm cd doc a vs ns G Y ho (fd_plain hd) hcd hmg hobj hints hlen hg) fun r s' hq=>?_);obtain⟨rfl,h2,h3,h4⟩:=hq;exact⟨.inl ⟨.bool true,.bool true,[],rfl,fun _=>rfl,.bool true,zi7 l _,fun _=>⟨List.Pairwise.nil,fun _ hm=>(nomatch hm)⟩⟩,h2,h3,h4⟩
section
variable{prog:Program}{w:World}{A:Around}{E:Value->Shared->Prop}{s:Shared}{K:Frag}
def yax(h:Heap)(L d:Addr):List (Addr × Obj):=(List.range h.objs.size).filterMap fun a=>if a=L\/a=d then none else (h.get? a).map fun o=>(a,o)
end
end Att
namespace L2
open PySem PySem.Spec PyProof.Rows
theorem zjy:∀ {vs:List Value} {ns:List Int},IntsAre vs ns->yj1 (ns.map V.int) vs
 |_,_,.nil=>.nil
 |_,_,.cons n t h=>.cons ⟨t,rfl⟩ (zjy h)
def yjn(H:Hp):Prop:=∀ b,H b=none\/∃ o xs,H b=some (.frz o (.lst xs))
theorem zmq{P:Program}{w:World}{K:PySem.W.Frag}{mg mb:Str->Option Value}{CX:CXT}{k:Nat}{fa a:Addr}{fd:FuncData}{x:Str}{sp:Sp}{s₁:Shared}{vs:List Value}{ns:List Int}
  (KX:K.In s₁.heap) (hns:s₁.heap.Ns mainGlobals mg) (hb:s₁.heap.Ns builtinsNs mb) (hbb:∀ x:Str,x ≠ "__name__"->mb x=bootBuiltins x) (hlim:s₁.heap.NoLimit) (hg:s₁.gens=#[])
  (ha:s₁.heap.get? a=some { cls:=.type "list",data:=.seq vs.toArray }) (hi:IntsAre vs ns) (hl:ns.length<=sizeLine) (hr:Room k callerA)
  (F:∀ base:Heap,K.In base->base.Ns mainGlobals mg->FnOk P w K mg base CX k fa fd [x] sp) (hbind:∀ (s:Shared) (u:Value),BindsTo s fd ⟨[u],[]⟩ [(x,u)])
  (hsp:∀ H:Hp,yjn H->SqL K H a (ns.map V.int)->sp [.ref a] H (fun v _=>v=.bl true) fun _ _ _=>False)
  (hCX:∀ H e s',CX [] H s₁ (fun _ _ _=>False) e s'->False) :
  codeAny (model P w) callerA (.call (.ref fa) ⟨[.ref a],[]⟩) (fun r s'=>r=.ok (.ret (.bool true))/\OldK s₁.heap s'.heap/\s'.os=s₁.os/\AllBare s'.gens) s₁:=by
 have rv:=zjy hi;have lenV:=hi.length;have core:∀ H:Hp,yjn H->SqL K H a (ns.map V.int)->HOk P w H s₁.heap->(∀ b,H b≠none->b=a)->(H a≠none->K.lookup a=none)->
   codeAny (model P w) callerA (.call (.ref fa) ⟨[.ref a],[]⟩) (fun r s'=>r=.ok (.ret (.bool true))/\OldK s₁.heap s'.heap/\s'.os=s₁.os/\AllBare s'.gens) s₁:=by
  intro H hO hS hok hA hK;have base_of:∀ {b:Addr} {o:Obj},s₁.heap.get? b=some o->H b=none->(yk9 s₁.heap H).get? b=some o:=fun e n=>zma e n;have noA:∀ {b:Addr} {o:Obj} {es:Array DictEntry} {ep:Nat},s₁.heap.get? b=some o->o.data=.dict es ep->H b=none:=fun {b o es ep} e d=>by
   cases q:H b with
   |none=>rfl
   |some u=>
    have e':b=a:=hA b (by rw[q];simp);subst e';rw[ha]at e;cases e;have d':Data.seq vs.toArray _=Data.dict es ep:=d;cases d'
  have nsK:∀ {b:Addr} {m:Str->Option Value},s₁.heap.Ns b m->(yk9 s₁.heap H).Ns b m:=fun {b m} ⟨o,es,ep,e,d,r⟩=>⟨o,es,ep,base_of e (noA e d),d,r⟩
  have hKb:K.In (yk9 s₁.heap H):=fun b o e=>base_of (KX b o e) (by
   cases q:H b with
   |none=>rfl
   |some u=>
    have e':b=a:=hA b (by rw[q];simp);subst e';rw[hK (by rw[q];simp)]at e;cases e)
  have hM:Mod K mg (yk9 s₁.heap H):=⟨hKb,nsK hns,⟨mb,nsK hb,hbb⟩,let ⟨mc,h1,h2⟩:=hlim;⟨mc,nsK h1,h2⟩⟩
  have e0:Env0 P w K mg (yk9 s₁.heap H) callerA [] s₁ H:=⟨rfl,hM,fun b o e=>zuj e,Nat.le_of_eq (zh5 _ _),trivial,fun b hb=>absurd (show b∈([]:List Addr)from hb) (by simp),hok,.of_eq hg⟩
  refine codeAny_mono ((F _ hKb (nsK hns)).run callerA [] s₁ H ⟨[.ref a],[]⟩ [.ref a] [.ref a] _ _ hr e0 (hbind s₁ (.ref a)) (.cons rfl .nil) (hsp H hO hS)) fun r s' h=>?_;cases r with
  |error e=>exact(hCX H e s' h).elim
  |ok fl=>
   cases fl with
   |next=>exact False.elim h
   |brk=>exact False.elim h
   |cont=>exact False.elim h
   |ret u=>
    obtain⟨v,H',os,bare,un,hok',r',q⟩:=h;have q':v=.bl true:=q;subst q';obtain rfl:u=Value.bool true:=r';refine⟨rfl,OldK.of_keep fun b o e=>?_,os,bare⟩;cases q:H b with
    |none=>exact un.keep b o e q (by intro z;exact absurd (show b∈([]:List Addr)from z) (by simp)) (by simp)
    |some u=>
     rcases hO b with z|⟨ob,xs,z⟩
     ·rw[q]at z;cases z
     ·have z2:=un.frzs b ob _ z;obtain⟨e1,_⟩:=hok b _ z;obtain⟨e2,_⟩:=hok' b _ z2;rw[e]at e1;cases e1;exact e2
 cases hk:K.lookup a with
 |some o=>
  have e:=KX a o hk;rw[ha]at e;cases e;refine core (fun _=>none) (fun _=>.inl rfl) (.inr ⟨_,vs.toArray,_,hk,rfl,rfl,rfl,by rw[List.size_toArray,lenV];exact hl,by simpa using rv⟩) (fun b u z=>by have z':(none:Option HO)=some u:=z;cases z') (fun b z=>absurd rfl z) fun z=>absurd rfl z
 |none=>
  refine core (fun b=>if b=a then some (.frz { cls:=.type "list",data:=.seq vs.toArray } (.lst (ns.map V.int)))else none) (fun b=>?_) (.inl (.inr ⟨{ cls:=.type "list",data:=.seq vs.toArray },if_pos rfl⟩)) (fun b u z=>?_) (fun b z=>?_) fun _=>hk
  ·by_cases hb:b=a
   ·exact .inr ⟨_,_,if_pos hb⟩
   ·exact .inl (if_neg hb)
  ·by_cases hb:b=a
   ·have z':=(if_pos hb).symm.trans z;cases z';subst hb;exact⟨ha,by rw[List.length_map];exact hl,vs,_,rv,ha⟩
   ·have z':=(if_neg hb).symm.trans z;cases z'
  ·by_cases hb:b=a
   ·exact hb
   ·exact absurd (if_neg hb) z
end L2
namespace L2
open PySem PySem.Spec PyProof.Rows
abbrev KOf{K:PySem.W.Frag}{h:Heap}(_:K.In h):PySem.W.Frag:=K
theorem zxd{l:PySem.W.OpenLaw}{n k:Nat}{q:Program}{loose:List Str}{XP:(Str->Option Value)->Heap->Prop}{YP:World->Heap->Prop}{d:DefRec}{K:Params->PySem.W.Frag}{CX:World->CXT}{sp:World->Sp}{x:Str}
  (hn:l.most=some n) (hn2:n<=sizeLine) (hdf:d.params.defaults=[]) (hr:Room k callerA)
  (hY:∀ (w:World) (h:Heap),YP w h->(K w.params).In h)
  (F:∀ (w:World) (mg:Str->Option Value) (fa:Addr) (h:Heap),(K w.params).In h->h.Ns mainGlobals mg->mg d.name=some (.ref fa)->
   ∃ fd:FuncData,(∀ (s:Shared) (u:Value),BindsTo s fd ⟨[u],[]⟩ [(x,u)])/\
    ∀ base:Heap,(K w.params).In base->base.Ns mainGlobals mg->FnOk l.prog w (K w.params) mg base (CX w) k fa fd [x] (sp w))
  (hsp:∀ (w:World) (H:Hp) (a:Addr) (ns:List Int),ns.length<=n->yjn H->SqL (K w.params) H a (ns.map V.int)->sp w [.ref a] H (fun v _=>v=.bl true) fun _ _ _=>False)
  (hCX:∀ (w:World) (H:Hp) (s:Shared) (e:Value) (s':Shared),CX w [] H s (fun _ _ _=>False) e s'->False) :
  PySem.W.WalkO q loose XP YP l.row.toRowW d [] (fun f vs=>PySem.call f vs):=by
 refine Att.attach_call hn hdf fun w s₀ s₁ mg mb fa o pm cd doc a vs ns G Y ho hd hcd hmg hobj hints hlen hg=>?_;have KX:=hY w _ Y;obtain⟨fd,hb,hF⟩:=F w mg fa _ KX G.T.g hmg;exact zmq KX G.T.g G.T.b G.T.builtins G.T.nolimit hg hobj hints (Nat.le_trans hlen hn2) hr hF hb (fun H hO hS=>hsp w H a ns hlen hO hS) fun H e s'=>hCX w H s₁ e s'
end L2
namespace L2
open PySem PySem.Spec PyProof.Rows
def zq7(s:Stmt):Arguments:=match s with
 | .FunctionDef _ a _ _ _ _ _ _ _ _=>a
 |_=>{ posonlyargs:=[],args:=[],vararg:=none,kwonlyargs:=[],kw_defaults:=[],kwarg:=none,defaults:=[] }
def zq8(s:Stmt):List Stmt:=match s with
 | .FunctionDef _ _ b _ _ _ _ _ _ _=>b
 |_=>[]
def zko(s:Stmt):Scope:=match s with
 | .FunctionDef _ _ _ _ _ _ sc _ _ _=>sc
 |_=>{ kind:=.function,names:=[],isGenerator:=false,isCoroutine:=false }
abbrev CX0:CXT:=fun _ _ _ _ _ _=>False
abbrev E0:XK:=fun _ _ _=>False
structure Fun(K:PySem.W.Frag)(x qual:Str)(st:Stmt)(f:Addr)(fd:FuncData):Prop where
 ex:∃ (oc:Value) (od:Option Addr) (kV doc pm:Value) (an:Option Addr) (cdv ct:Value) (osl:Array (Option Value)),
  fd=PySem.W.fnOf x qual (zq7 st) (zq8 st) (zko st) .none kV doc pm an cdv ct/\K.lookup f=some ⟨oc,od,.func fd,osl⟩/\PySem.W.codeIn K cdv qual=true
 kp:PySem.W.keepIn K (.ref f)=true
section
variable{P:Program}{w:World}{K:PySem.W.Frag}{mg:Str->Option Value}{base:Heap}
theorem Fun.ok{x qual:Str}{st:Stmt}{f:Addr}{fd:FuncData}{N ps:List Str}{k:Nat}{sp:Sp}(F:Fun K x qual st f fd)(S:FnScope N ps (zko st))(len:∀ vs H Q E,sp vs H Q E->vs.length=ps.length)
  (hbody:∀ (cdv:Value) (A:Around) (outer:List Env) (s:Shared) (H:Hp) (vs:List V) (Q:VK) (E:XK),Room k (A.deeper (envOfC qual (zko st) s.heap.objs.size f cdv))->sp vs H Q E->
   ∃ t,PSs (ykk CX0 P w K mg base N qual (zko st) f cdv A outer s H E).nox (zq8 st) t/\t { nx:=fun _ H'=>Q .non H',rt:=Q } (yio N vs) H):FnOk P w K mg base CX0 (k+1) f fd ps sp:=by
 obtain⟨oc,od,kV,doc,pm,an,cdv,ct,osl,rfl,lk,hcd⟩:=F.ex;refine yfs lk hcd S len fun A outer s H vs Q E hr hsp=>?_;obtain⟨t,h,q⟩:=hbody cdv A outer s H vs Q E hr hsp;exact⟨t,h.nox,q⟩
theorem Fun.binds{x qual:Str}{st:Stmt}{f:Addr}{fd:FuncData}{ps:List Str}(F:Fun K x qual st f fd)
  (h:∀ (kV doc pm:Value) (an:Option Addr) (cdv ct:Value) (us:List Value),us.length=ps.length->bindArgs (PySem.W.fnOf x qual (zq7 st) (zq8 st) (zko st) .none kV doc pm an cdv ct) ⟨us,[]⟩=pure (ps.zip us)):yd0 K fd ps []:=by
 obtain⟨oc,od,kV,doc,pm,an,cdv,ct,osl,rfl,lk,hcd⟩:=F.ex;exact .all (h kV doc pm an cdv ct)
theorem zz1{x qual:Str}{st:Stmt}{f:Addr}{oc:Value}{od an:Option Addr}{osl:Array (Option Value)}{kV doc pm cdv ct:Value}(l:K.lookup f=some ⟨oc,od,.func (PySem.W.fnOf x qual (zq7 st) (zq8 st) (zko st) .none kV doc pm an cdv ct),osl⟩)
  (c:PySem.W.codeIn K cdv qual=true) (k:PySem.W.keepIn K (.ref f)=true):Fun K x qual st f (PySem.W.fnOf x qual (zq7 st) (zq8 st) (zko st) .none kV doc pm an cdv ct):=⟨⟨oc,od,kV,doc,pm,an,cdv,ct,osl,rfl,l,c⟩,k⟩
end
theorem zjm{n:Nat}(h:n<=1000):n<sizeLine:=Nat.lt_of_le_of_lt h (by decide)
section
variable{X:Cx}
end
def yjw(H H':Hp):Prop:=∀ b o,H b=some o->H' b=some o
theorem yjw.refl(H:Hp):yjw H H:=fun _ _ h=>h
theorem yjw.trans{H H1 H2:Hp}(a:yjw H H1)(b:yjw H1 H2):yjw H H2:=fun c o h=>b c o (a c o h)
theorem yjw.free{H H':Hp}(e:yjw H H'){l:Addr}(h:H' l=Option.none):H l=Option.none:=by
 cases q:H l with
 |none=>rfl
 |some o=>
  rw[e l o q]at h;cases h
theorem yjw.seq{K:PySem.W.Frag}{H H':Hp}{a:Addr}{xs:List V}(e:yjw H H')(h:SqL K H a xs):SqL K H' a xs:=by
 rcases h with(h|⟨o,h⟩)|h
 ·exact .inl (.inl (e _ _ h))
 ·exact .inl (.inr ⟨o,e _ _ h⟩)
 ·exact .inr h
end L2
namespace L4
open PySem PySem.Spec PyProof.Rows L2
theorem zsw{α:Type}(a:α):∃ b,b=a:=⟨a,rfl⟩
noncomputable def hide{α:Type}(a:α):α:=Classical.choose (zsw a)
@[simp] theorem zsv{α:Type}(a:α):hide a=a:=Classical.choose_spec (zsw a)
inductive D where
 |non|bl (b:Bool)|int (i:Int)|str (x:Str)|tup (xs:List D)|scr (ns:List Int)|ref (n:Nat)
 |lst (xs:List D)|dic (ks:List Key) (xs:List D)|obj (c:Nat) (ns:List Str) (xs:List D)|exn (c:Nat)
inductive Ob where
 |lst (xs:List D)
 |dic (kvs:List (Key × D))
 |ins (c:Nat) (fs:List (Str × D))
abbrev Sto:=List Ob
abbrev St:=L2.St
abbrev Ev:=List (Option D)
structure Xn where
 cls:Nat
inductive Out(α:Type) where
 |ok (a:α) (σ:Sto)
 |ex (x:Xn) (σ:Sto)
 |bad
abbrev M(α:Type):=Sto->Out α
def ret{α:Type}(a:α):M α:=fun σ=>.ok a σ
def bad{α:Type}:M α:=fun _=>.bad
def Out.bind{α β:Type}(o:Out α)(k:α->M β):Out β:=match o with
 | .ok a σ'=>k a σ'
 | .ex x σ'=>.ex x σ'
 | .bad=>.bad
def bnd{α β:Type}(m:M α)(k:α->M β):M β:=fun σ=>(m σ).bind k
inductive Fl where
 |nx (ρ:Ev)|rt (d:D)|bk (ρ:Ev)|ct (ρ:Ev)|xc (ρ:Ev) (x:Xn)
structure Tb where
 K:PySem.W.Frag
 ca:Nat->Addr
def Tb.cv(T:Tb)(x:Xn):Value:=.ref (T.ca x.cls)
def fdN(c:Nat):Option Nat:=if c<100 then none else some (c / 100 - 1)
def yd3(C a:Addr):Heap->Prop:=fun h=>∃ o,h.get? a=some o/\o.cls=.ref C
def zxg(C:Addr)(dd:Option Addr)(a:Addr):Heap->Prop:=fun h=>∃ o,h.get? a=some o/\o.cls=.ref C/\∀ dN,dd=some dN->o.dict=some dN/\∃ vs,o.data=.fields vs
def yd8(dN:Addr)(n:Nat):Heap->Prop:=fun h=>∃ o,h.get? dN=some o/\∃ es ep t,o.data=.dict es ep/\StrKeys es/\nsFind es "pot" = some (.int n t)
def Scr(K:PySem.W.Frag)(H:Hp)(a:Addr)(ns:List Int):Prop:=
 (∃ o,H a=some (.frz o (.lst (ns.map V.int))))\/
  ∃ (o:Obj) (its:Array Value) (n:Nat),K.lookup a=some o/\o.cls=.type "list"/\o.dict=none/\o.data=.seq its n/\its.size<=sizeLine/\yj1 (ns.map V.int) its.toList
theorem Scr.seq{K:PySem.W.Frag}{H:Hp}{a:Addr}{ns:List Int}(h:Scr K H a ns):SqL K H a (ns.map V.int):=by
 rcases h with⟨o,h⟩|h
 ·exact .inl (.inr ⟨o,h⟩)
 ·exact .inr h
mutual
def Rep(T:Tb)(μ:List Addr)(H:Hp):D->V->Prop
 | .non,v=>v=.non
 | .bl b,v=>v=.bl b
 | .int i,v=>v=.int i
 | .str x,v=>v=.str x
 | .tup ds,v=>∃ p vs,v=.ref p/\H p=some (.tup vs)/\yjv T μ H ds vs
 | .scr ns,v=>∃ a,v=.ref a/\Scr T.K H a ns
 | .ref n,v=>∃ a,v=.ref a/\μ[n]?=some a
 | .lst ds,v=>∃ a vs,v=.ref a/\a ∉ μ/\H a=some (.lst vs)/\yjv T μ H ds vs
 | .dic ks ds,v=>∃ a kvs,v=.ref a/\a ∉ μ/\Rd H a (.dK kvs)/\kvs.map (·.1)=ks/\yjv T μ H ds (kvs.map (·.2))
 | .obj c ns ds,v=>∃ a dx fs,v=.ref a/\a ∉ μ/\H a=some (.ins (T.ca c) dx fs)/\fs.map (·.1)=ns/\yjv T μ H ds (fs.map (·.2))
 | .exn c,v=>∃ a dd,v=.ref a/\a ∉ μ/\H a=some (.ext (zxg (T.ca c) dd a))/\∀ n,fdN c=some n->∃ dN,dd=some dN/\dN ∉ μ/\H dN=some (.ext (yd8 dN n))
def yjv(T:Tb)(μ:List Addr)(H:Hp):List D->List V->Prop
 |[],vs=>vs=[]
 |d::ds,vs=>∃ v r,vs=v::r/\Rep T μ H d v/\yjv T μ H ds r
end
def Kp(o o':HO):Prop:=o'=o\/∃ ob kvs,o=.dK kvs/\o'=.frz ob (.dK kvs)
theorem Kp.trans{a b c:HO}(x:Kp a b)(y:Kp b c):Kp a c:=by
 rcases x with rfl|⟨ob,kvs,rfl,rfl⟩
 ·exact y
 ·rcases y with rfl|⟨_,_,z,_⟩
  ·exact .inr ⟨ob,kvs,rfl,rfl⟩
  ·cases z
structure Ext(μ:List Addr)(H:Hp)(μ':List Addr)(H':Hp):Prop where
 pre:∃ r,μ'=μ++r
 tup:∀ p xs,H p=some (.tup xs)->H' p=some (.tup xs)
 frz:∀ p o u,H p=some (.frz o u)->H' p=some (.frz o u)
 keep:∀ p o,H p=some o->p ∉ μ->(∃ o',H' p=some o'/\Kp o o')/\p ∉ μ'
theorem Ext.refl(μ:List Addr)(H:Hp):Ext μ H μ H:=⟨⟨[],by simp⟩,fun _ _ h=>h,fun _ _ _ h=>h,fun _ _ h n=>⟨⟨_,h,.inl rfl⟩,n⟩⟩
theorem Ext.trans{μ μ1 μ2:List Addr}{H H1 H2:Hp}(a:Ext μ H μ1 H1)(b:Ext μ1 H1 μ2 H2):Ext μ H μ2 H2:=by
 obtain⟨⟨r,rfl⟩,t1,f1,k1⟩:=a;obtain⟨⟨r',rfl⟩,t2,f2,k2⟩:=b;exact⟨⟨r++r',by simp⟩,fun p xs h=>t2 p xs (t1 p xs h),fun p o u h=>f2 p o u (f1 p o u h),fun p o h n=>let ⟨⟨o1,h1,c1⟩,n1⟩:=k1 p o h n;let ⟨⟨o2,h2,c2⟩,n2⟩:=k2 p o1 h1 n1;⟨⟨o2,h2,c1.trans c2⟩,n2⟩⟩
theorem Ext.keepN{μ μ':List Addr}{H H':Hp}(e:Ext μ H μ' H')(p:Addr)(o:HO)(h:H p=some o)(n:p ∉ μ)(hd:∀ kvs,o≠.dK kvs:=by intro _ z;cases z):H' p=some o/\p ∉ μ':=by
 obtain⟨⟨o',h1,c⟩,n'⟩:=e.keep p o h n;rcases c with rfl|⟨_,kvs,z,_⟩
 ·exact⟨h1,n'⟩
 ·exact absurd z (hd kvs)
theorem Ext.rd{μ μ':List Addr}{H H':Hp}(e:Ext μ H μ' H')(p:Addr)(kvs:List (Key × V))(h:Rd H p (.dK kvs))(n:p ∉ μ):Rd H' p (.dK kvs)/\p ∉ μ':=by
 rcases h with h|⟨ob,h⟩
 ·obtain⟨⟨o',h1,c⟩,n'⟩:=e.keep p _ h n;rcases c with rfl|⟨ob,kvs',z,rfl⟩
  ·exact⟨.inl h1,n'⟩
  ·cases z;exact⟨.inr ⟨ob,h1⟩,n'⟩
 ·exact⟨.inr ⟨ob,e.frz _ _ _ h⟩,(e.keep p _ h n).2⟩
theorem Ext.get{μ μ':List Addr}{H H':Hp}(e:Ext μ H μ' H'){n:Nat}{a:Addr}(h:μ[n]?=some a):μ'[n]?=some a:=by
 obtain⟨⟨r,rfl⟩,_,_⟩:=e;rw[List.getElem?_append_left (List.getElem?_eq_some_iff.mp h).1];exact h
mutual
theorem Rep.mono{T:Tb}{μ μ':List Addr}{H H':Hp}(e:Ext μ H μ' H'):∀ (d:D) (v:V),Rep T μ H d v->Rep T μ' H' d v
 | .non,v,h=>by simpa [Rep]using h
 | .bl b,v,h=>by simpa [Rep]using h
 | .int i,v,h=>by simpa [Rep]using h
 | .str x,v,h=>by simpa [Rep]using h
 | .tup ds,v,h=>by
  rw[Rep]at h ⊢;obtain⟨p,vs,h1,h2,h3⟩:=h;exact⟨p,vs,h1,e.tup _ _ h2,yjv.mono e ds vs h3⟩
 | .scr ns,v,h=>by
  rw[Rep]at h ⊢;obtain⟨a,h1,h2⟩:=h;refine⟨a,h1,?_⟩;rcases h2 with⟨o,h2⟩|h2
  ·exact .inl ⟨o,e.frz _ _ _ h2⟩
  ·exact .inr h2
 | .ref n,v,h=>by
  rw[Rep]at h ⊢;obtain⟨a,h1,h2⟩:=h;exact⟨a,h1,e.get h2⟩
 | .lst ds,v,h=>by
  rw[Rep]at h ⊢;obtain⟨a,vs,h1,h2,h3,h4⟩:=h;exact⟨a,vs,h1,(e.keepN _ _ h3 h2).2,(e.keepN _ _ h3 h2).1,yjv.mono e ds vs h4⟩
 | .dic ks ds,v,h=>by
  rw[Rep]at h ⊢;obtain⟨a,vs,h1,h2,h3,h5,h4⟩:=h;exact⟨a,vs,h1,(e.rd _ _ h3 h2).2,(e.rd _ _ h3 h2).1,h5,yjv.mono e ds _ h4⟩
 | .obj c ns ds,v,h=>by
  rw[Rep]at h ⊢;obtain⟨a,dx,vs,h1,h2,h3,h5,h4⟩:=h;exact⟨a,dx,vs,h1,(e.keepN _ _ h3 h2).2,(e.keepN _ _ h3 h2).1,h5,yjv.mono e ds _ h4⟩
 | .exn c,v,h=>by
  rw[Rep]at h ⊢;obtain⟨a,dd,h1,h2,h3,h4⟩:=h;exact⟨a,dd,h1,(e.keepN _ _ h3 h2).2,(e.keepN _ _ h3 h2).1,fun n q=>let ⟨dN,q1,q2,q3⟩:=h4 n q;⟨dN,q1,(e.keepN _ _ q3 q2).2,(e.keepN _ _ q3 q2).1⟩⟩
theorem yjv.mono{T:Tb}{μ μ':List Addr}{H H':Hp}(e:Ext μ H μ' H'):∀ (ds:List D) (vs:List V),yjv T μ H ds vs->yjv T μ' H' ds vs
 |[],vs,h=>by simpa [yjv]using h
 |d::ds,vs,h=>by
  rw[yjv]at h ⊢;obtain⟨v,r,h1,h2,h3⟩:=h;exact⟨v,r,h1,Rep.mono e d v h2,yjv.mono e ds r h3⟩
end
theorem yjv.nil{T:Tb}{μ:List Addr}{H:Hp}:yjv T μ H [] []:=by rw[yjv]
theorem yjv.cons{T:Tb}{μ:List Addr}{H:Hp}{d:D}{v:V}{ds:List D}{vs:List V}(h1:Rep T μ H d v)(h2:yjv T μ H ds vs):yjv T μ H (d::ds) (v::vs):=by
 rw[yjv];exact⟨v,vs,rfl,h1,h2⟩
theorem yjv.length{T:Tb}{μ:List Addr}{H:Hp}:∀ {ds:List D} {vs:List V},yjv T μ H ds vs->ds.length=vs.length
 |[],vs,h=>by rw[yjv]at h;subst h;rfl
 |d::ds,vs,h=>by
  rw[yjv]at h;obtain⟨v,r,rfl,_,h3⟩:=h;simp[yjv.length h3]
theorem yjv.get{T:Tb}{μ:List Addr}{H:Hp}:∀ {ds:List D} {vs:List V} {i:Nat} {d:D},yjv T μ H ds vs->ds[i]?=some d->∃ v,vs[i]?=some v/\Rep T μ H d v
 |[],vs,i,d,h,e=>by simp at e
 |d::ds,vs,0,x,h,e=>by
  rw[yjv]at h;obtain⟨v,r,rfl,h2,h3⟩:=h;simp at e;subst e;exact⟨v,rfl,h2⟩
 |d::ds,vs,i+1,x,h,e=>by
  rw[yjv]at h;obtain⟨v,r,rfl,h2,h3⟩:=h;simpa using yjv.get (i:=i) h3 (by simpa using e)
theorem yjv.append{T:Tb}{μ:List Addr}{H:Hp}:∀ {ds es:List D} {vs us:List V},yjv T μ H ds vs->yjv T μ H es us->yjv T μ H (ds++es) (vs++us)
 |[],es,vs,us,h,h'=>by rw[yjv]at h;subst h;simpa using h'
 |d::ds,es,vs,us,h,h'=>by
  rw[yjv]at h;obtain⟨v,r,rfl,h2,h3⟩:=h;exact yjv.cons h2 (yjv.append h3 h')
theorem yjv.set{T:Tb}{μ:List Addr}{H:Hp}{d:D}{v:V}(hd:Rep T μ H d v):∀ {ds:List D} {vs:List V} (i:Nat),yjv T μ H ds vs->yjv T μ H (ds.set i d) (vs.set i v)
 |[],vs,i,h=>by rw[yjv]at h;subst h;simpa using yjv.nil
 |x::ds,vs,0,h=>by
  rw[yjv]at h;obtain⟨w,r,rfl,h2,h3⟩:=h;exact yjv.cons hd h3
 |x::ds,vs,i+1,h=>by
  rw[yjv]at h;obtain⟨w,r,rfl,h2,h3⟩:=h;exact yjv.cons h2 (yjv.set hd i h3)
theorem yjv.drop{T:Tb}{μ:List Addr}{H:Hp}:∀ {ds:List D} {vs:List V} (n:Nat),yjv T μ H ds vs->yjv T μ H (ds.drop n) (vs.drop n)
 |ds,vs,0,h=>by simpa using h
 |[],vs,n+1,h=>by rw[yjv]at h;subst h;simpa using yjv.nil
 |x::ds,vs,n+1,h=>by
  rw[yjv]at h;obtain⟨w,r,rfl,h2,h3⟩:=h;simpa using yjv.drop n h3
theorem yjv.take{T:Tb}{μ:List Addr}{H:Hp}:∀ {ds:List D} {vs:List V} (n:Nat),yjv T μ H ds vs->yjv T μ H (ds.take n) (vs.take n)
 |ds,vs,0,h=>by simpa using yjv.nil
 |[],vs,n+1,h=>by rw[yjv]at h;subst h;simpa using yjv.nil
 |x::ds,vs,n+1,h=>by
  rw[yjv]at h;obtain⟨w,r,rfl,h2,h3⟩:=h;exact yjv.cons h2 (yjv.take n h3)
def yjt(T:Tb)(μ:List Addr)(H:Hp):List (Str × D)->List (Str × V)->Prop:=Paired fun p q=>p.1=q.1/\Rep T μ H p.2 q.2
def yju(T:Tb)(μ:List Addr)(H:Hp):List (Key × D)->List (Key × V)->Prop:=Paired fun p q=>p.1=q.1/\Rep T μ H p.2 q.2
def ObR(T:Tb)(μ:List Addr)(H:Hp)(a:Addr):Ob->Prop
 | .lst ds=>∃ vs,H a=some (.lst vs)/\yjv T μ H ds vs
 | .dic kvs=>∃ vs,H a=some (.dK vs)/\yju T μ H kvs vs
 | .ins c fs=>∃ dx vs,H a=some (.ins (T.ca c) dx vs)/\yjt T μ H fs vs
structure Rel(T:Tb)(μ:List Addr)(H:Hp)(σ:Sto):Prop where
 len:μ.length=σ.length
 nd:μ.Nodup
 obs:∀ (n:Nat) (o:Ob),σ[n]?=some o->∃ a,μ[n]?=some a/\ObR T μ H a o
def yje(T:Tb)(μ:List Addr)(H:Hp)(ρ:Ev)(st:St):Prop:=ρ.length=st.length/\∀ (i:Nat) (d:D),ρ[i]?=some (some d)->∃ v,st[i]?=some (some v)/\Rep T μ H d v
theorem yje.mono{T:Tb}{μ μ':List Addr}{H H':Hp}{ρ:Ev}{st:St}(e:Ext μ H μ' H')(h:yje T μ H ρ st):yje T μ' H' ρ st:=
 ⟨h.1,fun i d q=>let ⟨v,h1,h2⟩:=h.2 i d q;⟨v,h1,Rep.mono e d v h2⟩⟩
theorem yje.set{T:Tb}{μ:List Addr}{H:Hp}{ρ:Ev}{st:St}{d:D}{v:V}(h:yje T μ H ρ st)(i:Nat)(r:Rep T μ H d v):yje T μ H (ρ.set i (some d)) (st.set i (some v)):=by
 refine⟨by simpa using h.1,fun j x q=>?_⟩;rw[List.getElem?_set]at q;by_cases hj:i=j
 ·subst hj;rw[if_pos rfl]at q;split at q
  ·rename_i hl
   cases q;exact⟨v,by rw[List.getElem?_set,if_pos rfl,if_pos (by rw[<-h.1];exact hl)],r⟩
  ·cases q
 ·rw[if_neg hj]at q;obtain⟨w,h1,h2⟩:=h.2 j x q;exact⟨w,by rw[List.getElem?_set,if_neg hj];exact h1,h2⟩
def Unt(e:Addr)(cls a0:Value)(h:Heap):Prop:=∃ oe vs,h.get? e=some oe/\oe.cls=cls/\oe.data=.fields vs/\1<vs.size/\vs[0]?=some a0/\vs[1]?=some .none
def yjg(B:Heap)(l:List Env)(e:Addr)(cls a0:Value)(h:Heap):Prop:=B.StaysIn h/\B.get? e=none/\h.FunFrames B l/\((∃ fl,h.TracedAtW B e cls a0 fl)\/Unt e cls a0 h)
def yjq(o:Obj)(n:Nat):Prop:=∃ es ep t,o.data=.dict es ep/\StrKeys es/\nsFind es "pot" = some (.int n t)
def FdH(fd:Option Nat)(e:Addr)(B h h0:Heap)(H':Hp):Prop:=∀ n,fd=some n->∃ dN oD oe,h.get? e=some oe/\oe.dict=some dN/\B.get? dN=some oD/\yjq oD n/\H' dN=none/\h0.get? dN=none
structure Fly(P:Program)(w:World)(outer:List Env)(H:Hp)(s:Shared)(cls:Value)(fd:Option Nat)(H':Hp)(e:Value)(s':Shared):Prop where
 ex:∃ (ea:Addr) (a0:Value) (B:Heap),e=.ref ea/\yjg B outer ea cls a0 s'.heap/\H' ea=none/\s.heap.get? ea=none/\
  (∀ b o,H' b=some o->∃ ob,B.get? b=some ob)/\(∀ b o,s.heap.get? b=some o->H b=none->b ∉ frs outer->B.get? b=some o)/\(∀ b o,s.heap.get? b=some o->b ∉ frs outer->∃ o',B.get? b=some o')/\FdH fd ea B s'.heap s.heap H'
 os:s'.os=s.os
 bare:AllBare s'.gens
 un:Un (frs outer) [] H H' s.heap s'.heap
 hok:HOk P w H' s'.heap
def CXE(P:Program)(w:World):CXT:=fun outer H s E e s'=>∃ cls fd H',Fly P w outer H s cls fd H' e s'/\E cls fd H'
structure Thr(X:Cx)(st:St)(cls:Value)(fd:Option Nat)(H':Hp):Prop where
 fly:∀ (pins:List (Addr × Obj)) (H:Hp) (s:Shared) (e:Value) (s':Shared),Inv X pins st H s->Fly X.prog X.w X.stack H s cls fd H' e s'->X.xe e s'
abbrev XE(X:Cx)(st:St):XK:=fun cls fd H'=>Thr X st cls fd H'
def yjp{α γ:Type}(T:Tb)(E:XK)(R:List Addr->Hp->α->γ->Prop)(μ:List Addr)(H:Hp)(o:Out α)(Q:γ->Hp->Prop):Prop:=match o with
 | .ok a σ=>∀ μ' g H',Ext μ H μ' H'->Rel T μ' H' σ->R μ' H' a g->Q g H'
 | .ex x σ=>∀ μ' H',Ext μ H μ' H'->Rel T μ' H' σ->E (T.cv x) (fdN x.cls) H'
 | .bad=>False
theorem yjp.mono{α γ:Type}{T:Tb}{E:XK}{R:List Addr->Hp->α->γ->Prop}{μ μ1:List Addr}{H H1:Hp}{o:Out α}{Q:γ->Hp->Prop}(e:Ext μ H μ1 H1)(h:yjp T E R μ H o Q):yjp T E R μ1 H1 o Q:=by
 cases o with
 |ok a σ=>exact fun μ' g H' e' r q=>h μ' g H' (e.trans e') r q
 |ex x σ=>exact fun μ' H' e' r=>h μ' H' (e.trans e') r
 |bad=>exact h
theorem yjp.imp{α γ:Type}{T:Tb}{E:XK}{R:List Addr->Hp->α->γ->Prop}{μ:List Addr}{H:Hp}{o:Out α}{Q Q':γ->Hp->Prop}(h:yjp T E R μ H o Q)(k:∀ g H',Q g H'->Q' g H'):yjp T E R μ H o Q':=by
 cases o with
 |ok a σ=>exact fun μ' g H' e' r q=>k _ _ (h μ' g H' e' r q)
 |ex x σ=>exact h
 |bad=>exact h
theorem yjp.bind{α β γ δ:Type}{T:Tb}{E:XK}{R:List Addr->Hp->α->γ->Prop}{R':List Addr->Hp->β->δ->Prop}{μ:List Addr}{H:Hp}{m:M α}{k:α->M β}{σ:Sto}{Q:δ->Hp->Prop}{Q1:γ->Hp->Prop}
  (h:yjp T E R' μ H (bnd m k σ) Q) (f:∀ a σ1 μ1 g H1,m σ=.ok a σ1->Ext μ H μ1 H1->Rel T μ1 H1 σ1->R μ1 H1 a g->yjp T E R' μ1 H1 (k a σ1) Q->Q1 g H1):yjp T E R μ H (m σ) Q1:=by
 unfold bnd at h;cases e:m σ with
 |ok a σ1=>
  rw[e]at h;exact fun μ' g H' e' r q=>f a σ1 μ' g H' e e' r q (h.mono e')
 |ex x σ1=>rw[e]at h;exact h
 |bad=>rw[e]at h;exact h
theorem yjp.here{T:Tb}{E:XK}{α γ:Type}{R:List Addr->Hp->α->γ->Prop}{μ:List Addr}{H:Hp}{d:α}{σ:Sto}{g:γ}{Q:γ->Hp->Prop}(h:yjp T E R μ H (.ok d σ) Q)(r:Rel T μ H σ)(p:R μ H d g):Q g H:=h μ g H (Ext.refl _ _) r p
section
variable(T:Tb)(X:Cx)
def tF(f:Ev->M D):TE:=fun st H Q=>∃ μ ρ σ,yje T μ H ρ st/\Rel T μ H σ/\yjp T (XE X st) (Rep T) μ H (f ρ σ) Q
def yd9:List Addr->Hp->Bool->Bool->Prop:=fun _ _ a b=>b=a
def tT(f:Ev->M Bool):TT:=fun st H Q=>∃ μ ρ σ,yje T μ H ρ st/\Rel T μ H σ/\yjp T (XE X st) yd9 μ H (f ρ σ) Q
def tL(f:Ev->M (List D)):TA:=fun st H Q=>∃ μ ρ σ,yje T μ H ρ st/\Rel T μ H σ/\yjp T (XE X st) (yjv T) μ H (f ρ σ) Q
inductive Gl2 where
 |nx (st:St)|rt (v:V)|bk (st:St)|ct (st:St)|xc (st:St) (cls:Value) (fd:Option Nat)
def RFl(T:Tb)(μ:List Addr)(H:Hp):Fl->Gl2->Prop
 | .nx ρ,.nx st=>yje T μ H ρ st
 | .rt d,.rt v=>Rep T μ H d v
 | .bk ρ,.bk st=>yje T μ H ρ st
 | .ct ρ,.ct st=>yje T μ H ρ st
 | .xc ρ x,.xc st cls fd=>yje T μ H ρ st/\cls=T.cv x/\fd=fdN x.cls
 |_,_=>False
def yjf(X:Cx)(D:Ends):Gl2->Hp->Prop
 | .nx st,H=>D.nx st H
 | .rt v,H=>D.rt v H
 | .bk st,H=>D.bk st H
 | .ct st,H=>D.ct st H
 | .xc st cls fd,H=>Thr X st cls fd H
abbrev EN:XK:=fun _ _ _=>False
def tS(g:Ev->M Fl):TS:=fun D st H=>∃ μ ρ σ,yje T μ H ρ st/\Rel T μ H σ/\yjp T EN (RFl T) μ H (g ρ σ) (yjf X D)
end
def xs{α:Type}(ρ:Ev)(m:M α)(k:α->M Fl):M Fl:=fun σ=>match m σ with
 | .ok a σ'=>k a σ'
 | .ex x σ'=>.ok (.xc ρ x) σ'
 | .bad=>.bad
theorem yjp.xs{α γ:Type}{T:Tb}{X:Cx}{D:Ends}{R:List Addr->Hp->α->γ->Prop}{μ:List Addr}{H:Hp}{ρ:Ev}{st:St}{m:M α}{k:α->M Fl}{σ:Sto}{Q1:γ->Hp->Prop}(hE:yje T μ H ρ st)
  (h:yjp T EN (RFl T) μ H (L4.xs ρ m k σ) (yjf X D)) (f:∀ a σ1 μ1 g H1,m σ=.ok a σ1->Ext μ H μ1 H1->Rel T μ1 H1 σ1->R μ1 H1 a g->yjp T EN (RFl T) μ1 H1 (k a σ1) (yjf X D)->Q1 g H1):yjp T (XE X st) R μ H (m σ) Q1:=by
 unfold L4.xs at h;cases e:m σ with
 |ok a σ1=>
  rw[e]at h;exact fun μ' g H' e' r q=>f a σ1 μ' g H' e e' r q (h.mono e')
 |ex x σ1=>
  rw[e]at h;intro μ' H' e' r;exact h μ' (.xc st (T.cv x) (fdN x.cls)) H' e' r ⟨hE.mono e',rfl,rfl⟩
 |bad=>rw[e]at h;exact h
abbrev FE(T:Tb)(X:Cx)(e:Expr)(f:Ev->M D):Prop:=PE X e (tF T X f)
abbrev FT(T:Tb)(X:Cx)(e:Expr)(f:Ev->M Bool):Prop:=PT X e (tT T X f)
abbrev FW(T:Tb)(X:Cx)(e:Expr)(f:Ev->M Bool):Prop:=PW X e (tT T X f)
abbrev FA(T:Tb)(X:Cx)(es:List Expr)(f:Ev->M (List D)):Prop:=PA X es (tL T X f)
abbrev FS(T:Tb)(X:Cx)(st:Stmt)(g:Ev->M Fl):Prop:=PS X st (tS T X g)
abbrev FSs(T:Tb)(X:Cx)(st:List Stmt)(g:Ev->M Fl):Prop:=PSs X st (tS T X g)
end L4
namespace L4
open PySem PySem.Spec PyProof.Rows L2
def cap:Nat:=1000
theorem zxw{n:Nat}(h:n<=cap):n<=sizeLine:=Nat.le_of_lt (zjm h)
theorem zxx{n:Nat}(h:n<cap):n<sizeLine:=zjm (Nat.le_of_lt h)
theorem zm9{α:Type}{l:List α}(h:l.Nodup){i j:Nat}{a:α}(hi:l[i]?=some a)(hj:l[j]?=some a):i=j:=by
 obtain⟨q1,q2⟩:=List.getElem?_eq_some_iff.mp hi;obtain⟨q3,q4⟩:=List.getElem?_eq_some_iff.mp hj;have hp:=List.pairwise_iff_getElem.mp h;rcases Nat.lt_trichotomy i j with z|z|z
 ·exact absurd (q2.trans q4.symm) (hp i j q1 q3 z)
 ·exact z
 ·exact absurd (q4.trans q2.symm) (hp j i q3 q1 z)
section
variable{T:Tb}{μ μ':List Addr}{H H':Hp}{σ:Sto}
theorem zey{α:Type}(e:Ext μ H μ' H'){xs:List (α × D)}{ys:List (α × V)}(h:Paired (fun(p:α × D) (q:α × V)=>p.1=q.1/\Rep T μ H p.2 q.2) xs ys) :
  Paired (fun(p:α × D) (q:α × V)=>p.1=q.1/\Rep T μ' H' p.2 q.2) xs ys:=L2.Paired.mapP h fun p q z=>⟨z.1,Rep.mono e _ _ z.2⟩
theorem ObR.mono(e:Ext μ H μ' H'){a:Addr}(ha:H' a=H a):∀ {o:Ob},ObR T μ H a o->ObR T μ' H' a o
 | .lst ds,⟨vs,h,r⟩=>⟨vs,ha.trans h,yjv.mono e _ _ r⟩
 | .dic kvs,⟨vs,h,r⟩=>⟨vs,ha.trans h,zey e r⟩
 | .ins c fs,⟨dx,vs,h,r⟩=>⟨dx,vs,ha.trans h,zey e r⟩
theorem ObR.some{a:Addr}:∀ {o:Ob},ObR T μ H a o->∃ u,H a=Option.some u/\(∀ xs,u≠.tup xs)/\(∀ ob w,u≠.frz ob w)
 | .lst ds,⟨vs,h,r⟩=>⟨_,h,(fun _ z=>by cases z),(fun _ _ z=>by cases z)⟩
 | .dic kvs,⟨vs,h,r⟩=>⟨_,h,(fun _ z=>by cases z),(fun _ _ z=>by cases z)⟩
 | .ins c fs,⟨dx,vs,h,r⟩=>⟨_,h,(fun _ z=>by cases z),(fun _ _ z=>by cases z)⟩
theorem Rel.keep(r:Rel T μ H σ)(e:Ext μ H μ H')(k:∀ a∈μ,H' a=H a):Rel T μ H' σ:=
 ⟨r.len,r.nd,fun n o h=>let ⟨a,h1,h2⟩:=r.obs n o h;⟨a,h1,h2.mono e (k a (List.mem_of_getElem? h1))⟩⟩
theorem Rel.mem(r:Rel T μ H σ){a:Addr}(h:a∈μ):∃ u,H a=some u/\(∀ xs,u≠.tup xs)/\(∀ ob w,u≠.frz ob w):=by
 obtain⟨n,hn⟩:=List.getElem?_of_mem h;have hl:n<σ.length:=by rw[<-r.len];exact(List.getElem?_eq_some_iff.mp hn).1
 obtain⟨a',h1,h2⟩:=r.obs n σ[n] (by simp[hl]);rw[hn]at h1;cases h1;exact h2.some
theorem zro{p:Addr}{o:HO}(hp:H p=none):Ext μ H μ (upd H p o):=
 ⟨⟨[],by simp⟩,fun q xs h=>by rw[ydx (zf5 h hp)];exact h,fun q ob u h=>by rw[ydx (zf5 h hp)];exact h,fun q ob h n=>⟨⟨ob,by rw[ydx (zf5 h hp)];exact h,.inl rfl⟩,n⟩⟩
theorem Rel.fresh(r:Rel T μ H σ){p:Addr}{o:HO}(hp:H p=none):Rel T μ (upd H p o) σ:=
 r.keep (zro hp) fun a ha=>by obtain⟨u,h,_⟩:=r.mem ha;rw[ydx (zf5 h hp)]
theorem zk8{p:Addr}{o:HO}(hp:H p=none):Ext μ H (μ++[p]) (upd H p o):=
 ⟨⟨[p],rfl⟩,(zro (μ:=μ) hp).tup,(zro (μ:=μ) hp).frz,fun q ob h n=>⟨((zro (μ:=μ) hp).keep q ob h n).1,fun z=>(List.mem_append.mp z).elim n fun z=>zf5 h hp (by simpa using z)⟩⟩
theorem Rel.push(r:Rel T μ H σ){p:Addr}{o:HO}{ob:Ob}(hp:H p=none)(ho:ObR T (μ++[p]) (upd H p o) p ob):Rel T (μ++[p]) (upd H p o) (σ++[ob]):=by
 refine⟨by simp[r.len],?_,fun n x h=>?_⟩
 ·rw[List.nodup_append];refine⟨r.nd,by simp,fun a ha b hb e=>?_⟩;have eb:b=p:=by simpa using hb
  subst eb;subst e;obtain⟨u,h,_⟩:=r.mem ha;rw[hp]at h;cases h
 ·by_cases hn:n<σ.length
  ·rw[List.getElem?_append_left hn]at h;obtain⟨a,h1,h2⟩:=r.obs n x h;obtain⟨u,hu,_⟩:=h2.some;exact⟨a,by rw[List.getElem?_append_left (by rw[r.len];exact hn)];exact h1,h2.mono (zk8 hp) (ydx (zf5 hu hp))⟩
  ·rw[List.getElem?_append_right (by omega)]at h;have e0:n - σ.length=0:=by
    have:=(List.getElem?_eq_some_iff.mp h).1;simp at this;omega
   rw[e0]at h;simp at h;subst h;have en:n=μ.length:=by rw[r.len];omega
   subst en;exact⟨p,by simp,ho⟩
theorem zn9{p:Addr}{o:HO}(r:Rel T μ H σ):Rep T (μ++[p]) (upd H p o) (.ref σ.length) (.ref p):=by
 rw[Rep];exact⟨p,rfl,by rw[<-r.len];simp⟩
theorem zhw{a:Addr}{u o:HO}(hm:a∈μ)(ha:H a=some u)(h1:∀ xs,u≠.tup xs)(h2:∀ ob w,u≠.frz ob w):Ext μ H μ (upd H a o):=
 ⟨⟨[],by simp⟩,fun q xs h=>by rw[ydx (ygu h ha (fun z=>h1 xs z.symm))];exact h,fun q ob w h=>by rw[ydx (ygu h ha (fun z=>h2 ob w z.symm))];exact h,fun q ob h n=>⟨⟨ob,by rw[ydx (fun z=>n (by rw[z];exact hm))];exact h,.inl rfl⟩,n⟩⟩
theorem Rel.write(r:Rel T μ H σ){n:Nat}{a:Addr}{o:HO}{ob:Ob}(hn:μ[n]?=some a)(ho:ObR T μ (upd H a o) a ob):Ext μ H μ (upd H a o)/\Rel T μ (upd H a o) (σ.set n ob):=by
 obtain⟨u,hu,h1,h2⟩:=r.mem (List.mem_of_getElem? hn);have e:Ext μ H μ (upd H a o):=zhw (List.mem_of_getElem? hn) hu h1 h2;refine⟨e,by simp[r.len],r.nd,fun m x h=>?_⟩;rw[List.getElem?_set]at h;by_cases hm:n=m
 ·subst hm;rw[if_pos rfl]at h;split at h
  ·cases h;exact⟨a,hn,ho⟩
  ·cases h
 ·rw[if_neg hm]at h;obtain⟨b,h3,h4⟩:=r.obs m x h;refine⟨b,h3,h4.mono e (ydx fun z=>hm ?_)⟩;subst z;exact zm9 r.nd hn h3
theorem Rel.at(r:Rel T μ H σ){n:Nat}{v:V}{o:Ob}(h:Rep T μ H (.ref n) v)(e:σ[n]?=some o):∃ a,v=.ref a/\μ[n]?=some a/\ObR T μ H a o:=by
 rw[Rep]at h;obtain⟨a,rfl,ha⟩:=h;obtain⟨a',h1,h2⟩:=r.obs n o e;rw[ha]at h1;cases h1;exact⟨a,rfl,ha,h2⟩
end
def ykv(i:Nat):Ev->M D:=fun ρ σ=>match ρ[i]? with
 |some (some d)=>.ok d σ
 |_=>.bad
def eC(d:D):Ev->M D:=fun _=>ret d
def yka(o:D->D->M D)(m:M D)(x:D):M D:=bnd m (o x)
def yko(o:D->D->M D)(a b:Ev->M D):Ev->M D:=fun ρ=>bnd (a ρ) (yka o (b ρ))
def eUn(o:D->M D)(a:Ev->M D):Ev->M D:=fun ρ=>bnd (a ρ) o
def tst(d:D):M Bool:=match d with
 | .bl b=>ret b
 |_=>bad
def ifK{α:Type}(p q:M α)(c:Bool):M α:=if c=true then p else q
def ylr(c:Bool):M Bool:=ret (!c)
def yiy{α:Type}(k:Bool->M α)(d:D):M α:=bnd (tst d) k
def eT(f:Ev->M D):Ev->M Bool:=fun ρ=>bnd (f ρ) tst
def yj8(a b:Ev->M Bool):Ev->M Bool:=fun ρ=>bnd (a ρ) (ifK (b ρ) (ret false))
def bOr(a b:Ev->M Bool):Ev->M Bool:=fun ρ=>bnd (a ρ) (ifK (ret true) (b ρ))
def yj9(a:Ev->M Bool):Ev->M Bool:=fun ρ=>bnd (a ρ) ylr
def ykn(a b:Ev->M D):Ev->M D:=fun ρ=>bnd (a ρ) (yiy (ifK (b ρ) (ret (.bl false))))
def eOr(a b:Ev->M D):Ev->M D:=fun ρ=>bnd (a ρ) (yiy (ifK (ret (.bl true)) (b ρ)))
def ygt(c:Bool):M D:=ret (.bl (!c))
def ykt(a:Ev->M D):Ev->M D:=fun ρ=>bnd (a ρ) (yiy ygt)
def yj3:Ev->M (List D):=fun _=>ret []
def yex(x:D)(xs:List D):M (List D):=ret (x::xs)
def zxj(m:M (List D))(x:D):M (List D):=bnd m (yex x)
def yeg(e:Ev->M D)(r:Ev->M (List D)):Ev->M (List D):=fun ρ=>bnd (e ρ) (zxj (r ρ))
def yny(ds:List D):M D:=if ds.length<=cap then ret (.tup ds)else bad
def yku(a:Ev->M (List D)):Ev->M D:=fun ρ=>bnd (a ρ) yny
def ygr(ds:List D):M D:=fun σ=>.ok (.ref σ.length) (σ++[.lst ds])
def ylo(ds:List D):M D:=if ds.length<=cap then ygr ds else bad
def yks(a:Ev->M (List D)):Ev->M D:=fun ρ=>bnd (a ρ) ylo
def lvK(ds:List D):M D:=if ds.length<=cap then ret (.lst ds)else bad
def eLv(a:Ev->M (List D)):Ev->M D:=fun ρ=>bnd (a ρ) lvK
def yec(T:Tb)(r:R2)(o:D->D->M D):Prop:=∀ (E:XK) μ H σ x y v u Q,Rel T μ H σ->Rep T μ H x v->Rep T μ H y u->yjp T E (Rep T) μ H (o x y σ) Q->r v u H Q
def yed(T:Tb)(r:V->Hp->VK->Prop)(o:D->M D):Prop:=∀ (E:XK) μ H σ x v Q,Rel T μ H σ->Rep T μ H x v->yjp T E (Rep T) μ H (o x σ) Q->r v H Q
def zpy(T:Tb)(r:List V->Hp->VK->Prop)(o:List D->M D):Prop:=∀ (E:XK) μ H σ xs vs Q,Rel T μ H σ->yjv T μ H xs vs->yjp T E (Rep T) μ H (o xs σ) Q->r vs H Q
section
variable{T:Tb}{X:Cx}{a b c:Expr}{fa fb:Ev->M D}{ta tb:Ev->M Bool}{pos:Pos}
theorem zzf(i:Nat){x:Str}(hN:X.N[i]?=some x:=by rfl)(hv:Vis X.env.scope x:=by first|exact Or.inl rfl|exact Or.inr (Or.inl rfl)|exact Or.inr (Or.inr rfl))(hd:(x == ("__debug__" : Str))=false:=by decide)
  (hcd:(x == ("__classdict__" : Str))=false:=by decide):FE T X (.Name x pos) (ykv i):=by
 intro pins s st H Q I h;obtain⟨μ,ρ,σ,he,hr,hp⟩:=h;refine yb9 hN hv hd hcd pins s st H Q I ?_;unfold ykv at hp;cases e:ρ[i]? with
 |none=>rw[e]at hp;exact hp.elim
 |some o=>
  cases o with
  |none=>rw[e]at hp;exact hp.elim
  |some d=>
   rw[e]at hp;obtain⟨v,h1,h2⟩:=he.2 i d e;exact⟨v,h1,hp.here hr h2⟩
theorem zld{e:Expr}{v:V}{d:D}(h:PE X e (tC v))(r:∀ μ H,Rep T μ H d v):FE T X e (eC d):=by
 intro pins s st H Q I hq;obtain⟨μ,ρ,σ,he,hr,hp⟩:=hq;exact h pins s st H Q I (yjp.here hp hr (r _ _))
theorem zy5{i:Int}{j}:FE T X (.Constant (.int i) j pos) (eC (.int i)):=zld yb2 fun _ _=>by rw[Rep]
theorem yfe{i:Bool}{j}:FE T X (.Constant (.bool i) j pos) (eC (.bl i)):=zld yhi fun _ _=>by rw[Rep]
theorem zza{j}:FE T X (.Constant .none j pos) (eC .non):=zld yb4 fun _ _=>by rw[Rep]
theorem zzd{i:Str}{j}:FE T X (.Constant (.str i) j pos) (eC (.str i)):=zld yb7 fun _ _=>by rw[Rep]
theorem two{r:R2}{o:D->D->M D}(hs:yec T r o){st:St}{H:Hp}{Q:VK}(h:tF T X (yko o fa fb) st H Q):tOp r (tF T X fa) (tF T X fb) st H Q:=by
 obtain⟨μ,ρ,σ,he,hr,hp⟩:=h;exact⟨μ,ρ,σ,he,hr,hp.bind fun x σ1 μ1 v H1 _ e1 r1 p1 q1=>⟨μ1,ρ,σ1,he.mono e1,r1,q1.bind fun y σ2 μ2 u H2 _ e2 r2 p2 q2=>hs _ μ2 H2 σ2 x y v u Q r2 (Rep.mono e2 _ _ p1) p2 q2⟩⟩
theorem yfi{op:Operator}{r:R2}{o:D->D->M D}(ho:OpR X (binaryOp op) r)(hs:yec T r o)(ha:FE T X a fa)(hb:FE T X b fb):FE T X (.BinOp a op b pos) (yko o fa fb):=
 fun pins s st H Q I h=>yhl ho ha hb pins s st H Q I (two hs h)
theorem zy2{op:CmpOp}{r:R2}{o:D->D->M D}(ho:OpR X (compareOp op) r)(hs:yec T r o)(ha:FE T X a fa)(hb:FE T X b fb)(hm:behindInMarks op b=false):FE T X (.Compare a [op] [b] pos) (yko o fa fb):=
 fun pins s st H Q I h=>zuu ho ha hb hm pins s st H Q I (two hs h)
theorem yff{r:R2}{o:D->D->M D}(ho:IxR X r)(hs:yec T r o)(ha:FE T X a fa)(hb:FE T X b fb)(hp:zpx b):FE T X (.Subscript a b pos) (yko o fa fb):=
 fun pins s st H Q I h=>yhk ho ha hb hp pins s st H Q I (two hs h)
theorem yfk{op:UnaryOp}{r:V->Hp->VK->Prop}{o:D->M D}(ho:UnR X (unaryOp op) r)(hs:yed T r o)(ha:FE T X a fa):FE T X (.UnaryOp op a pos) (eUn o fa):=by
 intro pins s st H Q I h;refine yhn ho ha pins s st H Q I ?_;obtain⟨μ,ρ,σ,he,hr,hp⟩:=h;exact⟨μ,ρ,σ,he,hr,hp.bind fun x σ1 μ1 v H1 _ e1 r1 p1 q1=>hs _ μ1 H1 σ1 x v Q r1 p1 q1⟩
theorem ydr{E:XK}{d:D}{σ:Sto}{μ:List Addr}{H:Hp}{v:V}{β δ:Type}{R':List Addr->Hp->β->δ->Prop}{k:Bool->M β}{Q:δ->Hp->Prop}(r:Rep T μ H d v)(h:yjp T E R' μ H (bnd (tst d) k σ) Q):∃ c,d=.bl c/\v=.bl c/\yjp T E R' μ H (k c σ) Q:=by
 cases d with
 |bl c=>rw[Rep]at r;exact⟨c,rfl,r,h⟩
 |_=>exact h.elim
theorem zw8{E:XK}{d:D}{σ:Sto}{μ:List Addr}{H:Hp}{v:V}{Q:Bool->Hp->Prop}(r:Rep T μ H d v)(h:yjp T E yd9 μ H (tst d σ) Q):∃ c,v=.bl c/\yjp T E yd9 μ H (.ok c σ) Q:=by
 cases d with
 |bl c=>rw[Rep]at r;exact⟨c,r,h⟩
 |_=>exact h.elim
theorem zzx{op:CmpOp}{r:R2}{o:D->D->M D}(ho:OpR X (compareOp op) r)(hs:yec T r o)(ha:FE T X a fa)(hb:FE T X b fb)(hm:behindInMarks op b=false):FT T X (.Compare a [op] [b] pos) (eT (yko o fa fb)):=by
 intro pins s st H Q I h;refine zu8 ho ha hb hm pins s st H Q I ?_;refine two (o:=o) hs ?_;obtain⟨μ,ρ,σ,he,hr,hp⟩:=h;refine⟨μ,ρ,σ,he,hr,hp.bind fun d σ1 μ1 v H1 _ e1 r1 p1 q1=>?_⟩;obtain⟨k,ev,q⟩:=zw8 p1 q1;exact⟨k,ev,q.here r1 rfl⟩
theorem zz0{e:Expr}{f:Ev->M D}(h:FE T X e f)(he:∀ whole,isTrue e X.env whole=(do let v <-whole;standAt e.pos;holding [v] (truthy v)):=by intro _;rfl):FT T X e (eT f):=by
 intro pins s st H Q I hw;refine yco h he pins s st H Q I ?_;obtain⟨μ,ρ,σ,hE,hr,hp⟩:=hw;refine⟨μ,ρ,σ,hE,hr,hp.bind fun d σ1 μ1 v H1 _ e1 r1 p1 q1=>?_⟩;obtain⟨k,ev,q⟩:=zw8 p1 q1;exact⟨k,ev,q.here r1 rfl⟩
theorem zzz(h:FT T X a ta):FT T X (.UnaryOp .Not a pos) (yj9 ta):=by
 intro pins s st H Q I hw;refine ycn h pins s st H Q I ?_;obtain⟨μ,ρ,σ,hE,hr,hp⟩:=hw;exact⟨μ,ρ,σ,hE,hr,hp.bind fun c σ1 μ1 v H1 _ e1 r1 p1 q1=>by cases p1;exact q1.here r1 rfl⟩
variable{yms:List Expr}
theorem zsn(h:FT T X a ta):FW T X (.BoolOp .And [a] pos) ta:=zvc h
theorem zz3(h:FT T X a ta):FW T X (.BoolOp .Or [a] pos) ta:=ycq h
theorem zz2(h:FT T X a ta)(hb:FW T X (.BoolOp .And (b::yms) pos) tb):FW T X (.BoolOp .And (a::b::yms) pos) (yj8 ta tb):=by
 intro wh pins s st H Q I hw;refine ycp h hb wh pins s st H Q I ?_;obtain⟨μ,ρ,σ,hE,hr,hp⟩:=hw;refine⟨μ,ρ,σ,hE,hr,hp.bind fun c σ1 μ1 v H1 _ e1 r1 p1 q1=>?_⟩;cases p1;cases c with
 |true=>unfold ifK at q1;rw[if_pos rfl]at q1 ⊢;exact⟨μ1,ρ,σ1,hE.mono e1,r1,q1⟩
 |false=>unfold ifK at q1;rw[if_neg Bool.false_ne_true]at q1 ⊢;exact q1.here r1 rfl
theorem yfw(h:FT T X a ta)(hb:FW T X (.BoolOp .Or (b::yms) pos) tb):FW T X (.BoolOp .Or (a::b::yms) pos) (bOr ta tb):=by
 intro wh pins s st H Q I hw;refine yhu h hb wh pins s st H Q I ?_;obtain⟨μ,ρ,σ,hE,hr,hp⟩:=hw;refine⟨μ,ρ,σ,hE,hr,hp.bind fun c σ1 μ1 v H1 _ e1 r1 p1 q1=>?_⟩;cases p1;cases c with
 |true=>unfold ifK at q1;rw[if_pos rfl]at q1 ⊢;exact q1.here r1 rfl
 |false=>unfold ifK at q1;rw[if_neg Bool.false_ne_true]at q1 ⊢;exact⟨μ1,ρ,σ1,hE.mono e1,r1,q1⟩
theorem zzc{op}(h:FE T X a fa):FE T X (.BoolOp op [a] pos) fa:=yb6 h
theorem zy1(h:FE T X a fa)(hb:FE T X (.BoolOp .And (b::yms) pos) fb):FE T X (.BoolOp .And (a::b::yms) pos) (ykn fa fb):=by
 intro pins s st H Q I hw;refine ybz h hb pins s st H Q I ?_;obtain⟨μ,ρ,σ,hE,hr,hp⟩:=hw;refine⟨μ,ρ,σ,hE,hr,hp.bind fun d σ1 μ1 v H1 _ e1 r1 p1 q1=>?_⟩;obtain⟨c,rfl,ev,q⟩:=ydr p1 q1;refine⟨c,ev,?_⟩;cases c with
 |true=>unfold ifK at q;rw[if_pos rfl]at q ⊢;exact⟨μ1,ρ,σ1,hE.mono e1,r1,q⟩
 |false=>unfold ifK at q;rw[if_neg Bool.false_ne_true]at q ⊢;exact yjp.here q r1 (by rw[Rep])
theorem yfj(h:FE T X a fa)(hb:FE T X (.BoolOp .Or (b::yms) pos) fb):FE T X (.BoolOp .Or (a::b::yms) pos) (eOr fa fb):=by
 intro pins s st H Q I hw;refine yhm h hb pins s st H Q I ?_;obtain⟨μ,ρ,σ,hE,hr,hp⟩:=hw;refine⟨μ,ρ,σ,hE,hr,hp.bind fun d σ1 μ1 v H1 _ e1 r1 p1 q1=>?_⟩;obtain⟨c,rfl,ev,q⟩:=ydr p1 q1;refine⟨c,ev,?_⟩;cases c with
 |true=>unfold ifK at q;rw[if_pos rfl]at q ⊢;exact yjp.here q r1 (by rw[Rep])
 |false=>unfold ifK at q;rw[if_neg Bool.false_ne_true]at q ⊢;exact⟨μ1,ρ,σ1,hE.mono e1,r1,q⟩
theorem zzb(h:FE T X a fa):FE T X (.UnaryOp .Not a pos) (ykt fa):=by
 intro pins s st H Q I hw;refine yb5 h pins s st H Q I ?_;obtain⟨μ,ρ,σ,hE,hr,hp⟩:=hw;refine⟨μ,ρ,σ,hE,hr,hp.bind fun d σ1 μ1 v H1 _ e1 r1 p1 q1=>?_⟩;obtain⟨c,rfl,ev,q⟩:=ydr p1 q1;exact⟨c,ev,yjp.here q r1 (by rw[Rep])⟩
variable{e:Expr}{es:List Expr}{fe:Ev->M D}{fs:Ev->M (List D)}
theorem zy0:FA T X [] yj3:=by
 intro pos pins s st H Q I hw;refine yby pos pins s st H Q I ?_;obtain⟨μ,ρ,σ,hE,hr,hp⟩:=hw;exact yjp.here hp hr yjv.nil
theorem zrp(ha:FE T X e fe)(hr:FA T X es fs)(hs:starEach (e::es) X.env=(false,eval e X.env)::starEach es X.env:=by rfl):FA T X (e::es) (yeg fe fs):=by
 intro pos pins s st H Q I hw;refine zuq ha hr hs pos pins s st H Q I ?_;obtain⟨μ,ρ,σ,hE,hr,hp⟩:=hw;exact⟨μ,ρ,σ,hE,hr,hp.bind fun d σ1 μ1 v H1 _ e1 r1 p1 q1=>⟨μ1,ρ,σ1,hE.mono e1,r1,q1.bind fun ds σ2 μ2 vs H2 _ e2 r2 p2 q2=>yjp.here q2 r2 (yjv.cons (Rep.mono e2 _ _ p1) p2)⟩⟩
theorem zt0{E:XK}{μ:List Addr}{H:Hp}{σ:Sto}{ds:List D}{vs:List V}{Q:VK}{p:Addr}(h:yjp T E (Rep T) μ H (.ok (.tup ds) σ) Q)(r:Rel T μ H σ)(q:yjv T μ H ds vs)(hp:H p=none):Q (.ref p) (upd H p (.tup vs)):=
 h μ (.ref p) _ (zro hp) (r.fresh hp) (by rw[Rep];exact⟨p,vs,rfl,zpn,yjv.mono (zro hp) _ _ q⟩)
theorem ztz{E:XK}{μ:List Addr}{H:Hp}{σ:Sto}{ds:List D}{vs:List V}{Q:VK}{p:Addr}(h:yjp T E (Rep T) μ H (ygr ds σ) Q)(r:Rel T μ H σ)(q:yjv T μ H ds vs)(hp:H p=none):Q (.ref p) (upd H p (.lst vs)):=
 h (μ++[p]) (.ref p) _ (zk8 hp) (r.push hp ⟨vs,zpn,yjv.mono (zk8 hp) _ _ q⟩) (zn9 r)
theorem zze{x1}(h:FA T X es fs):FE T X (.Tuple es x1 pos) (yku fs):=by
 intro pins s st H Q I hw;refine yb8 h pins s st H Q I ?_;obtain⟨μ,ρ,σ,hE,hr,hp⟩:=hw;refine⟨μ,ρ,σ,hE,hr,hp.bind fun ds σ1 μ1 vs H1 _ e1 r1 p1 q1=>?_⟩;unfold yny at q1;by_cases hl:ds.length<=cap
 ·rw[if_pos hl]at q1;exact⟨by rw[<-p1.length];exact zxw hl,fun p hp=>zt0 q1 r1 p1 hp⟩
 ·rw[if_neg hl]at q1;exact q1.elim
theorem zy9(h:FA T X es fs):FE T X (.List es pos) (yks fs):=by
 intro pins s st H Q I hw;refine yb3 h pins s st H Q I ?_;obtain⟨μ,ρ,σ,hE,hr,hp⟩:=hw;refine⟨μ,ρ,σ,hE,hr,hp.bind fun ds σ1 μ1 vs H1 _ e1 r1 p1 q1=>?_⟩;unfold ylo at q1;by_cases hl:ds.length<=cap
 ·rw[if_pos hl]at q1;exact⟨by rw[<-p1.length];exact zxw hl,fun p hp=>ztz q1 r1 p1 hp⟩
 ·rw[if_neg hl]at q1;exact q1.elim
theorem ya5{E:XK}{μ:List Addr}{H:Hp}{σ:Sto}{ds:List D}{vs:List V}{Q:VK}{p:Addr}(h:yjp T E (Rep T) μ H (.ok (.lst ds) σ) Q)(r:Rel T μ H σ)(q:yjv T μ H ds vs)(hp:H p=none):Q (.ref p) (upd H p (.lst vs)):=
 h μ (.ref p) _ (zro hp) (r.fresh hp) (by rw[Rep];exact⟨p,vs,rfl,fun hm=>(by obtain⟨u,hu,_⟩:=r.mem hm;rw[hp]at hu;cases hu),zpn,yjv.mono (zro hp) _ _ q⟩)
theorem yfh(h:FA T X es fs):FE T X (.List es pos) (eLv fs):=by
 intro pins s st H Q I hw;refine yb3 h pins s st H Q I ?_;obtain⟨μ,ρ,σ,hE,hr,hp⟩:=hw;refine⟨μ,ρ,σ,hE,hr,hp.bind fun ds σ1 μ1 vs H1 _ e1 r1 p1 q1=>?_⟩;unfold lvK at q1;by_cases hl:ds.length<=cap
 ·rw[if_pos hl]at q1;exact⟨by rw[<-p1.length];exact zxw hl,fun p hp=>ya5 q1 r1 p1 hp⟩
 ·rw[if_neg hl]at q1;exact q1.elim
end
def oI(g:Int->Int->Int):D->D->M D
 | .int i,.int j=>ret (.int (g i j))
 |_,_=>bad
def oB(g:Int->Int->Bool):D->D->M D
 | .int i,.int j=>ret (.bl (g i j))
 |_,_=>bad
def oIC(C:Int->Int->Bool)(g:Int->Int->Int):D->D->M D
 | .int i,.int j=>if C i j=true then ret (.int (g i j))else bad
 |_,_=>bad
noncomputable def yke(i j:Int):Bool:=hide ((decide (-(2 ^ 64)<i) && decide (i<2 ^ 64)) || (decide (-(2 ^ 64)<j) && decide (j<2 ^ 64)))
noncomputable def ykc(_ j:Int):Bool:=hide (decide (0<j) && decide (j<1073741824))
noncomputable def ykd(_ j:Int):Bool:=hide (decide (0<j))
noncomputable def ykf(i j:Int):Bool:=hide (decide (0<=j) && decide (j<=1000000) && decide (i.natAbs<2 ^ 64))
abbrev yma:=oI (fun i j=>i - j)
noncomputable abbrev yl5:=oIC yke (fun i j=>i * j)
noncomputable abbrev ylw:=oIC ykc (fun i j=>i / j)
noncomputable abbrev yl4:=oIC ykd (fun i j=>i % j)
noncomputable abbrev yl8:=oIC ykf (fun i j=>i ^ j.toNat)
abbrev oLt:=oB (fun i j=>decide (i<j))
abbrev oLe:=oB (fun i j=>decide (i<=j))
abbrev oGt:=oB (fun i j=>decide (j<i))
abbrev oGe:=oB (fun i j=>decide (j<=i))
def yl7:D->M D
 | .int i=>ret (.int (-i))
 |_=>bad
def rD(T:Tb)(o:D->D->M D):R2:=fun v u H Q=>∃ (E:XK) (μ:List Addr) (σ:Sto) (x y:D),Rel T μ H σ/\Rep T μ H x v/\Rep T μ H y u/\yjp T E (Rep T) μ H (o x y σ) Q
theorem ync{T:Tb}{o:D->D->M D}:yec T (rD T o) o:=fun E μ H σ x y v u Q r p q h=>⟨E,μ,σ,x,y,r,p,q,h⟩
section
variable{T:Tb}{X:Cx}
theorem yad{μ:List Addr}{H:Hp}{i:Int}{v:V}(h:Rep T μ H (.int i) v):v=.int i:=by simpa [Rep]using h
theorem yin{g:Int->Int->Int}:yec T (rI0 fun i j=>.int (g i j)) (oI g):=by
 intro E μ H σ x y v u Q r p q h;cases x with
 |int i=>
  cases y with
  |int j=>exact⟨i,j,yad p,yad q,yjp.here h r (by rw[Rep])⟩
  |_=>exact h.elim
 |_=>exact h.elim
theorem yim{g:Int->Int->Bool}:yec T (rI0 fun i j=>.bl (g i j)) (oB g):=by
 intro E μ H σ x y v u Q r p q h;cases x with
 |int i=>
  cases y with
  |int j=>exact⟨i,j,yad p,yad q,yjp.here h r (by rw[Rep])⟩
  |_=>exact h.elim
 |_=>exact h.elim
theorem yc8{C:Int->Int->Bool}{C':Int->Int->Prop}{g:Int->Int->Int}(hC:∀ i j,C i j=true->C' i j):yec T (rI C' fun i j=>.int (g i j)) (oIC C g):=by
 intro E μ H σ x y v u Q r p q h;cases x with
 |int i=>
  cases y with
  |int j=>
   by_cases hc:C i j=true
   ·have h':yjp T E (Rep T) μ H (ret (.int (g i j)) σ) Q:=by
     have e:oIC C g (.int i) (.int j)=ret (.int (g i j)):=by show (if C i j=true then _ else _)=_;rw[if_pos hc]
     rw[e]at h;exact h
    exact⟨i,j,yad p,yad q,hC i j hc,yjp.here h' r (by rw[Rep])⟩
   ·have e:oIC C g (.int i) (.int j)=bad:=by show (if C i j=true then _ else _)=_;rw[if_neg hc]
    rw[e]at h;exact h.elim
  |_=>exact h.elim
 |_=>exact h.elim
theorem zwt:yec T (rI0 fun i j=>.int (i - j)) yma:=yin
theorem zwp:yec T (rI yjb fun i j=>.int (i * j)) yl5:=yc8 fun i j h=>by
 simp only[yke,zsv,Bool.or_eq_true,Bool.and_eq_true,decide_eq_true_eq]at h;exact h
theorem zwl:yec T (rI yja fun i j=>.int (i / j)) ylw:=yc8 fun i j h=>by
 simp only[ykc,zsv,Bool.and_eq_true,decide_eq_true_eq]at h;exact h
theorem zwo:yec T (rI (fun _ j=>0<j) fun i j=>.int (i % j)) yl4:=yc8 fun i j h=>by
 simp only[ykd,zsv,decide_eq_true_eq]at h;exact h
theorem zws:yec T (rI yjc fun i j=>.int (i ^ j.toNat)) yl8:=yc8 fun i j h=>by
 simp only[ykf,zsv,Bool.and_eq_true,decide_eq_true_eq]at h;exact⟨h.1.1,h.1.2,h.2⟩
theorem yde:yec T (rI0 fun i j=>.bl (decide (i<j))) oLt:=yim
theorem ydd:yec T (rI0 fun i j=>.bl (decide (i<=j))) oLe:=yim
theorem yda:yec T (rI0 fun i j=>.bl (decide (j<i))) oGt:=yim
theorem yc9:yec T (rI0 fun i j=>.bl (decide (j<=i))) oGe:=yim
theorem zwr:yed T (rU fun i=>.int (-i)) yl7:=by
 intro E μ H σ x v Q r p h;cases x with
 |int i=>exact⟨i,yad p,yjp.here h r (by rw[Rep])⟩
 |_=>exact h.elim
end
def sc:D->Option V
 | .non=>some .non
 | .bl b=>some (.bl b)
 | .int i=>some (.int i)
 | .str x=>some (.str x)
 |_=>none
def ygj(σ:Sto)(n:Nat):Option (List D):=match σ[n]? with
 |some (.lst xs)=>some xs
 |_=>none
theorem zfz{σ:Sto}{n:Nat}{xs:List D}(h:ygj σ n=some xs):σ[n]?=some (.lst xs):=by
 unfold ygj at h;cases e:σ[n]? with
 |none=>rw[e]at h;cases h
 |some o=>rw[e]at h;cases o<;>simp at h;subst h;rfl
inductive Kd where
 |s (v:V)|t (xs:List D)|l (xs:List D)|o
def kd(σ:Sto):D->Kd
 | .non=>.s .non
 | .bl b=>.s (.bl b)
 | .int i=>.s (.int i)
 | .str x=>.s (.str x)
 | .tup xs=>.t xs
 | .lst xs=>.l xs
 | .ref n=>match ygj σ n with
  |some xs=>.l xs
  |none=>.o
 |_=>.o
def eqL(f:D->D->Option Bool):List D->List D->Option Bool
 |[],[]=>some true
 |[],_::_=>some false
 |_::_,[]=>some false
 |x::xs,y::ys=>match f x y,eqL f xs ys with
  |some b,some c=>some (b && c)
  |_,_=>none
def eqK(f:D->D->Option Bool):Kd->Kd->Option Bool
 | .s a,.s b=>some (eqV a b)
 | .t xs,.t ys=>eqL f xs ys
 | .l xs,.l ys=>eqL f xs ys
 | .s _,.t _=>some false
 | .t _,.s _=>some false
 | .s _,.l _=>some false
 | .l _,.s _=>some false
 | .t _,.l _=>some false
 | .l _,.t _=>some false
 |_,_=>none
def eqD(σ:Sto):Nat->D->D->Option Bool
 |0,x,y=>eqK (fun _ _=>none) (kd σ x) (kd σ y)
 |n+1,x,y=>eqK (eqD σ n) (kd σ x) (kd σ y)
def eAt(f:D->D->Option Bool)(xs ys:List D)(j:Nat):Bool:=match xs[j]?,ys[j]? with
 |some a,some b=>(f a b).getD false
 |_,_=>false
theorem zk4(f:D->D->Option Bool):∀ (xs ys:List D) (b:Bool),eqL f xs ys=some b->
  (∀ (j:Nat) (a c:D),xs[j]?=some a->ys[j]?=some c->∃ k,f a c=some k)/\b=((List.range (min xs.length ys.length)).all (eAt f xs ys) && xs.length == ys.length)
 |[],[],b,h=>by simp[eqL]at h;subst h;simp
 |[],y::ys,b,h=>by simp[eqL]at h;subst h;simp
 |x::xs,[],b,h=>by simp[eqL]at h;subst h;simp
 |x::xs,y::ys,b,h=>by
  unfold eqL at h;cases e1:f x y with
  |none=>rw[e1]at h;cases h
  |some b1=>
   cases e2:eqL f xs ys with
   |none=>rw[e1,e2]at h;cases h
   |some b2=>
    rw[e1,e2]at h;cases h;obtain⟨h1,h2⟩:=zk4 f xs ys b2 e2;refine⟨fun j a c ha hc=>?_,?_⟩
    ·cases j with
     |zero=>simp at ha hc;subst ha;subst hc;exact⟨b1,e1⟩
     |succ j=>exact h1 j a c (by simpa using ha) (by simpa using hc)
    ·have e3:min (x::xs).length (y::ys).length=min xs.length ys.length+1:=by simp[Nat.succ_min_succ]
     have e4:∀ j,eAt f (x::xs) (y::ys) (j+1)=eAt f xs ys j:=fun j=>by simp[eAt]
     have e5:eAt f (x::xs) (y::ys) 0=b1:=by simp[eAt,e1]
     rw[e3,List.range_succ_eq_map,List.all_cons,List.all_map,e5,h2];have e6:(eAt f (x::xs) (y::ys) ∘ Nat.succ)=eAt f xs ys:=funext fun j=>e4 j;have e7:((x::xs).length == (y::ys).length)=(xs.length == ys.length):=by simp
     rw[e6,e7,Bool.and_assoc]
section
variable{T:Tb}{μ:List Addr}{H:Hp}{σ:Sto}
theorem Rel.lst(r:Rel T μ H σ){n:Nat}{v:V}{xs:List D}(h:Rep T μ H (.ref n) v)(e:ygj σ n=some xs):∃ a vs,v=.ref a/\μ[n]?=some a/\H a=some (.lst vs)/\yjv T μ H xs vs:=by
 obtain⟨a,rfl,h1,vs,h2,h3⟩:=r.at h (zfz e);exact⟨a,vs,rfl,h1,h2,h3⟩
theorem yc1{d:D}{v a:V}(h:Rep T μ H d v)(e:sc d=some a):v=a:=by
 cases d<;>simp[sc]at e<;>subst e<;>simpa [Rep]using h
theorem zv2{d:D}{a:V}(e:sc d=some a):yfn a=true:=by
 cases d<;>simp[sc]at e<;>subst e<;>rfl
theorem zk5{a:V}(h:yfn a=true):eqV a a=true:=by cases a<;>simp[yfn,eqV]at h ⊢
theorem yai(r:Rel T μ H σ){d:D}{v:V}(h:Rep T μ H d v):match kd σ d with
  | .s a=>v=a/\yfn a=true
  | .t xs=>∃ p vs,v=.ref p/\H p=some (.tup vs)/\yjv T μ H xs vs
  | .l xs=>∃ p vs,v=.ref p/\H p=some (.lst vs)/\yjv T μ H xs vs
  | .o=>True:=by
 cases d with
 |non=>exact⟨by simpa [Rep]using h,rfl⟩
 |bl b=>exact⟨by simpa [Rep]using h,rfl⟩
 |int b=>exact⟨by simpa [Rep]using h,rfl⟩
 |str b=>exact⟨by simpa [Rep]using h,rfl⟩
 |tup xs=>rw[Rep]at h;exact h
 |lst xs=>rw[Rep]at h;obtain⟨a,vs,h1,_,h2,h3⟩:=h;exact⟨a,vs,h1,h2,h3⟩
 |ref n=>
  unfold kd;dsimp only;cases e:ygj σ n with
  |none=>trivial
  |some xs=>obtain⟨a,vs,h1,_,h2,h3⟩:=r.lst h e;exact⟨a,vs,h1,h2,h3⟩
 |_=>trivial
theorem zk3{f:D->D->Option Bool}(hf:∀ (x y:D) (v:V) (b:Bool),Rep T μ H x v->Rep T μ H y v->f x y=some b->b=true):∀ (xs ys:List D) (vs:List V) (b:Bool),yjv T μ H xs vs->yjv T μ H ys vs->eqL f xs ys=some b->b=true
 |[],ys,vs,b,r1,r2,h=>by
  rw[yjv]at r1;subst r1;cases ys with
  |nil=>simp[eqL]at h;exact h
  |cons y ys=>rw[yjv]at r2;obtain⟨_,_,z,_⟩:=r2;cases z
 |x::xs,ys,vs,b,r1,r2,h=>by
  rw[yjv]at r1;obtain⟨v,r,rfl,p1,q1⟩:=r1;cases ys with
  |nil=>rw[yjv]at r2;cases r2
  |cons y ys=>
   rw[yjv]at r2;obtain⟨v',r',z,p2,q2⟩:=r2;cases z;unfold eqL at h;cases e1:f x y with
   |none=>rw[e1]at h;cases h
   |some b1=>
    cases e2:eqL f xs ys with
    |none=>rw[e1,e2]at h;cases h
    |some b2=>
     rw[e1,e2]at h;cases h;rw[hf x y v b1 p1 p2 e1,zk3 hf xs ys r b2 q1 q2 e2];rfl
theorem zk1(r:Rel T μ H σ){f:D->D->Option Bool}(hf:∀ (x y:D) (v:V) (b:Bool),Rep T μ H x v->Rep T μ H y v->f x y=some b->b=true){x y:D}{v:V}{b:Bool}(hx:Rep T μ H x v)(hy:Rep T μ H y v)(h:eqK f (kd σ x) (kd σ y)=some b):b=true:=by
 have kx:=yai r hx;have ky:=yai r hy;generalize kd σ x=k1 at h kx;generalize kd σ y=k2 at h ky;cases k1 with
 |s a=>
  obtain⟨rfl,fa⟩:=kx;cases k2 with
  |s c=>obtain⟨rfl,_⟩:=ky;cases h;exact zk5 fa
  |t xs=>obtain⟨p,vs,rfl,_⟩:=ky;simp[yfn]at fa
  |l xs=>obtain⟨p,vs,rfl,_⟩:=ky;simp[yfn]at fa
  |o=>cases h
 |t xs=>
  obtain⟨p,vs,rfl,h1,r1⟩:=kx;cases k2 with
  |s c=>obtain⟨e,fa⟩:=ky;rw[<-e]at fa;simp[yfn]at fa
  |t ys=>
   obtain⟨q,ws,e,h2,r2⟩:=ky;cases e;rw[h1]at h2;cases h2;exact zk3 hf xs ys vs b r1 r2 h
  |l ys=>obtain⟨q,ws,e,h2,r2⟩:=ky;cases e;rw[h1]at h2;cases h2
  |o=>cases h
 |l xs=>
  obtain⟨p,vs,rfl,h1,r1⟩:=kx;cases k2 with
  |s c=>obtain⟨e,fa⟩:=ky;rw[<-e]at fa;simp[yfn]at fa
  |t ys=>obtain⟨q,ws,e,h2,r2⟩:=ky;cases e;rw[h1]at h2;cases h2
  |l ys=>
   obtain⟨q,ws,e,h2,r2⟩:=ky;cases e;rw[h1]at h2;cases h2;exact zk3 hf xs ys vs b r1 r2 h
  |o=>cases h
 |o=>cases h
theorem zk0(r:Rel T μ H σ):∀ (n:Nat) (x y:D) (v:V) (b:Bool),Rep T μ H x v->Rep T μ H y v->eqD σ n x y=some b->b=true
 |0,x,y,v,b,hx,hy,h=>zk1 r (fun _ _ _ _ _ _ z=>by cases z) hx hy h
 |n+1,x,y,v,b,hx,hy,h=>zk1 r (fun x y v b a1 a2 a3=>zk0 r n x y v b a1 a2 a3) hx hy h
end
section
variable{T:Tb}{X:Cx}{pins:List (Addr × Obj)}{st:St}{μ:List Addr}{H:Hp}{s:Shared}{σ:Sto}
theorem zfa{A:Around}{a:V}{u:Value}{p:Addr}{its:Array Value}(fa:yfn a=true)(r:yjs a u)(hp:s.heap.IsTuple p its)(hu:A.units<cLine):SeqAt.EqAt A s u (.ref p) false/\SeqAt.EqAt A s (.ref p) u false/\SeqAt.RcAt A s u (.ref p) false/\SeqAt.RcAt A s (.ref p) u false/\SeqAt.RcNeAt A s u (.ref p) true/\SeqAt.RcNeAt A s (.ref p) u true:=by
 cases a with
 |non=>cases r;exact⟨.none_tuple hp hu,.tuple_none hp hu,.none_tuple hp hu,.tuple_none hp hu,.none_tuple hp hu,.tuple_none hp hu⟩
 |bl b=>cases r;exact⟨.bool_tuple b hp hu,.tuple_bool b hp hu,.bool_tuple b hp hu,.tuple_bool b hp hu,.bool_tuple b hp hu,.tuple_bool b hp hu⟩
 |int b=>obtain⟨t,rfl⟩:=r;exact⟨.int_tuple b t hp hu,.tuple_int b t hp hu,.int_tuple b t hp hu,.tuple_int b t hp hu,.int_tuple b t hp hu,.tuple_int b t hp hu⟩
 |str b=>obtain⟨t,rfl⟩:=r;exact⟨.str_tuple b t hp hu,.tuple_str b t hp hu,.str_tuple b t hp hu,.tuple_str b t hp hu,.str_tuple b t hp hu,.tuple_str b t hp hu⟩
 |_=>simp[yfn]at fa
theorem zgm{A:Around}{a:V}{u:Value}{p:Addr}{its:Array Value}(fa:yfn a=true)(r:yjs a u)(hp:s.heap.IsList p its)(hu:A.units<cLine):SeqAt.RcAt A s u (.ref p) false/\SeqAt.RcAt A s (.ref p) u false/\SeqAt.RcNeAt A s u (.ref p) true/\SeqAt.RcNeAt A s (.ref p) u true:=by
 cases a with
 |non=>cases r;exact⟨.none_list hp hu,.list_none hp hu,.none_list hp hu,.list_none hp hu⟩
 |bl b=>cases r;exact⟨.bool_list b hp hu,.list_bool b hp hu,.bool_list b hp hu,.list_bool b hp hu⟩
 |int b=>obtain⟨t,rfl⟩:=r;exact⟨.int_list b t hp hu,.list_int b t hp hu,.int_list b t hp hu,.list_int b t hp hu⟩
 |str b=>obtain⟨t,rfl⟩:=r;exact⟨.str_list b t hp hu,.list_str b t hp hu,.str_list b t hp hu,.list_str b t hp hu⟩
 |_=>simp[yfn]at fa
theorem zd3{A:Around}{a:V}{u:Value}{p:Addr}{its:Array Value}(fa:yfn a=true)(r:yjs a u)(hp:s.heap.IsList p its)(hu:A.units<cLine):SeqAt.EqAt A s u (.ref p) false:=by
 cases a with
 |non=>cases r;exact .none_list hp hu
 |bl b=>cases r;exact .bool_list b hp hu
 |int b=>obtain⟨t,rfl⟩:=r;exact .int_list b t hp hu
 |str b=>obtain⟨t,rfl⟩:=r;exact .str_list b t hp hu
 |_=>simp[yfn]at fa
theorem zc5{A:Around}{a:V}{u:Value}{p:Addr}{its:Array Value}(fa:yfn a=true)(r:yjs a u)(hp:s.heap.IsList p its)(hu:A.units<cLine):SeqAt.EqAt A s (.ref p) u false:=by
 cases a with
 |non=>cases r;exact .list_none hp hu
 |bl b=>cases r;exact .list_bool b hp hu
 |int b=>obtain⟨t,rfl⟩:=r;exact .list_int b t hp hu
 |str b=>obtain⟨t,rfl⟩:=r;exact .list_str b t hp hu
 |_=>simp[yfn]at fa
theorem yh7{A:Around}{a b:V}{u w:Value}(ra:yjs a u)(rb:yjs b w)(fa:yfn a=true)(fb:yfn b=true):SeqAt.RcAt A s u w (eqV a b)/\SeqAt.RcNeAt A s u w (!eqV a b):=by
 cases a with
 |non=>
  cases ra;cases b with
  |non=>cases rb;exact⟨.none_none,.none_none⟩
  |bl y=>cases rb;exact⟨.none_bool y,.none_bool y⟩
  |int y=>obtain⟨t,rfl⟩:=rb;exact⟨.none_int y t,.none_int y t⟩
  |str y=>obtain⟨t,rfl⟩:=rb;exact⟨.none_str y t,.none_str y t⟩
  |_=>simp[yfn]at fb
 |bl x=>
  cases ra;cases b with
  |non=>cases rb;exact⟨.bool_none x,.bool_none x⟩
  |bl y=>cases rb;exact⟨.bool_bool x y,.bool_bool x y⟩
  |int y=>obtain⟨t,rfl⟩:=rb;exact⟨.bool_int x y t,.bool_int x y t⟩
  |str y=>obtain⟨t,rfl⟩:=rb;exact⟨.bool_str x y t,.bool_str x y t⟩
  |_=>simp[yfn]at fb
 |int x=>
  obtain⟨t',rfl⟩:=ra;cases b with
  |non=>cases rb;exact⟨.int_none x t',.int_none x t'⟩
  |bl y=>cases rb;exact⟨.int_bool x t' y,.int_bool x t' y⟩
  |int y=>obtain⟨t,rfl⟩:=rb;exact⟨.int_int x t' y t,.int_int x t' y t⟩
  |str y=>obtain⟨t,rfl⟩:=rb;exact⟨.int_str x t' y t,.int_str x t' y t⟩
  |_=>simp[yfn]at fb
 |str x=>
  obtain⟨t',rfl⟩:=ra;cases b with
  |non=>cases rb;exact⟨.str_none x t',.str_none x t'⟩
  |bl y=>cases rb;exact⟨.str_bool x t' y,.str_bool x t' y⟩
  |int y=>obtain⟨t,rfl⟩:=rb;exact⟨.str_int x t' y t,.str_int x t' y t⟩
  |str y=>obtain⟨t,rfl⟩:=rb;exact⟨.str_str x t' y t,.str_str x t' y t⟩
  |_=>simp[yfn]at fb
 |_=>simp[yfn]at fa
theorem zpr{xs:List V}{us:List Value}{i:Nat}{u:Value}(r:yj1 xs us)(h:us[i]?=some u):∃ x,xs[i]?=some x/\yjs x u:=by
 have hl:=r.length;have hi:=(List.getElem?_eq_some_iff.mp h).1;obtain⟨u',h1,h2⟩:=r.get (i:=i) (x:=xs[i]'(by omega)) (by simp);rw[h]at h1;cases h1;exact⟨_,by simp,h2⟩
theorem zob{ds:List D}{vs:List V}{i:Nat}{v:V}(r:yjv T μ H ds vs)(h:vs[i]?=some v):∃ d,ds[i]?=some d/\Rep T μ H d v:=by
 have hl:=r.length;have hi:=(List.getElem?_eq_some_iff.mp h).1;obtain⟨v',h1,h2⟩:=r.get (i:=i) (d:=ds[i]'(by omega)) (by simp);rw[h]at h1;cases h1;exact⟨_,by simp,h2⟩
theorem zmi{A:Around}{f:D->D->Option Bool}(hf:∀ (x y:D) (v w:V) (v' w':Value) (b:Bool),Rep T μ H x v->Rep T μ H y w->yjs v v'->yjs w w'->f x y=some b->SeqAt.EqAt A s v' w' b)
  {xs ys:List D} {vs ws:List V} {us zs:List Value} {b:Bool} (r1:yjv T μ H xs vs) (r2:yjv T μ H ys ws) (q1:yj1 vs us) (q2:yj1 ws zs) (h:eqL f xs ys=some b) :
  (∀ j (h1:j<us.toArray.size) (h2:j<zs.toArray.size),SeqAt.EqAt A s us.toArray[j] zs.toArray[j] (eAt f xs ys j))/\b=((List.range (min us.toArray.size zs.toArray.size)).all (eAt f xs ys) && us.toArray.size == zs.toArray.size):=by
 obtain⟨h1,h2⟩:=zk4 f xs ys b h;have l1:=r1.length;have l2:=r2.length;have l3:=q1.length;have l4:=q2.length;refine⟨fun j g1 g2=>?_,?_⟩
 ·obtain⟨v,e1,rv⟩:=zpr (i:=j) (u:=us.toArray[j]) q1 (by simp);obtain⟨w,e2,rw'⟩:=zpr (i:=j) (u:=zs.toArray[j]) q2 (by simp);obtain⟨x,e3,p3⟩:=zob r1 e1;obtain⟨y,e4,p4⟩:=zob r2 e2;obtain⟨k,ek⟩:=h1 j x y e3 e4;have e5:eAt f xs ys j=k:=by simp[eAt,e3,e4,ek]
  rw[e5];exact hf x y v w _ _ k p3 p4 rv rw' ek
 ·simp only[List.size_toArray];rw[h2,l1,l2,l3,l4]
abbrev zxi(A:Around)(s:Shared)(v w:Value)(b:Bool):Prop:=SeqAt.RcAt A s v w b/\SeqAt.RcNeAt A s v w (!b)
theorem rcK{A:Around}(I:Inv X pins st H s)(r:Rel T μ H σ)(hu:A.units+1<cLine){f:D->D->Option Bool}
  (hf:∀ (x y:D) (v w:V) (v' w':Value) (b:Bool),Rep T μ H x v->Rep T μ H y w->yjs v v'->yjs w w'->f x y=some b->SeqAt.EqAt A.in1 s v' w' b)
  {x y:D} {v w:V} {v' w':Value} {b:Bool} (hx:Rep T μ H x v) (hy:Rep T μ H y w) (rv:yjs v v') (rw':yjs w w') (h:eqK f (kd σ x) (kd σ y)=some b):zxi A s v' w' b:=by
 have hu0:A.units<cLine:=by omega
 have kx:=yai r hx;have ky:=yai r hy;generalize kd σ x=k1 at h kx;generalize kd σ y=k2 at h ky;cases k1 with
 |o=>cases h
 |s a=>
  obtain⟨rfl,fa⟩:=kx;cases k2 with
  |o=>cases h
  |s c=>obtain⟨rfl,fc⟩:=ky;cases h;exact yh7 rv rw' fa fc
  |t ys=>
   obtain⟨q,ws,rfl,h2,r2⟩:=ky;cases h;cases rw';obtain⟨its,_,hq,_⟩:=L2.Inv.tuple I (SqT.of (K:=X.K) h2);obtain⟨_,_,a1,a2,a3,a4⟩:=zfa fa rv hq hu0;exact⟨a1,a3⟩
  |l ys=>
   obtain⟨q,ws,rfl,h2,r2⟩:=ky;cases h;cases rw';obtain⟨its,_,pl,_⟩:=L2.Inv.list I (SqL.of (K:=X.K) h2);obtain⟨a1,a2,a3,a4⟩:=zgm fa rv pl.isList hu0;exact⟨a1,a3⟩
 |t xs=>
  obtain⟨p,vs,rfl,h1,r1⟩:=kx;cases rv;obtain⟨its,q1,hp,_⟩:=L2.Inv.tuple I (SqT.of (K:=X.K) h1);cases k2 with
  |o=>cases h
  |s c=>
   obtain⟨rfl,fc⟩:=ky;cases h;obtain⟨_,_,a1,a2,a3,a4⟩:=zfa fc rw' hp hu0;exact⟨a2,a4⟩
  |t ys=>
   obtain⟨q,ws,rfl,h2,r2⟩:=ky;cases rw';obtain⟨its2,q2,hq,_⟩:=L2.Inv.tuple I (SqT.of (K:=X.K) h2);obtain⟨g1,g2⟩:=zmi (A:=A.in1) hf r1 r2 q1 q2 h;rw[g2];exact⟨.tuples hp hq (by omega) g1,.tuples hp hq (by omega) g1⟩
  |l ys=>
   obtain⟨q,ws,rfl,h2,r2⟩:=ky;cases h;cases rw';obtain⟨its2,_,pl,_⟩:=L2.Inv.list I (SqL.of (K:=X.K) h2);exact⟨.tuple_list hp pl.isList hu0,.tuple_list hp pl.isList hu0⟩
 |l xs=>
  obtain⟨p,vs,rfl,h1,r1⟩:=kx;cases rv;obtain⟨its,q1,pl,_⟩:=L2.Inv.list I (SqL.of (K:=X.K) h1);cases k2 with
  |o=>cases h
  |s c=>
   obtain⟨rfl,fc⟩:=ky;cases h;obtain⟨a1,a2,a3,a4⟩:=zgm fc rw' pl.isList hu0;exact⟨a2,a4⟩
  |t ys=>
   obtain⟨q,ws,rfl,h2,r2⟩:=ky;cases h;cases rw';obtain⟨its2,_,hq,_⟩:=L2.Inv.tuple I (SqT.of (K:=X.K) h2);exact⟨.list_tuple pl.isList hq hu0,.list_tuple pl.isList hq hu0⟩
  |l ys=>
   obtain⟨q,ws,rfl,h2,r2⟩:=ky;cases rw';obtain⟨its2,q2,pl2,_⟩:=L2.Inv.list I (SqL.of (K:=X.K) h2);obtain⟨g1,g2⟩:=zmi (A:=A.in1) hf r1 r2 q1 q2 h;by_cases hz:its.toArray.size=its2.toArray.size
   ·have e:b=(List.range its.toArray.size).all (eAt f xs ys):=by rw[g2,<-hz];simp
    rw[e];exact⟨.lists pl.isList pl2.isList hz (by omega) g1,.lists pl.isList pl2.isList hz (by omega) g1⟩
   ·have e:b=false:=by rw[g2,beq_eq_false_iff_ne.mpr hz,Bool.and_false]
    rw[e];exact⟨.lists_lengths pl.isList pl2.isList (by simpa using hz) (by omega),.lists_lengths pl.isList pl2.isList (by simpa using hz) (by omega)⟩
theorem zyu{A:Around}(I:Inv X pins st H s)(r:Rel T μ H σ)(hu:A.units+1<cLine){f:D->D->Option Bool}
  (hf:∀ (x y:D) (v w:V) (v' w':Value) (b:Bool),Rep T μ H x v->Rep T μ H y w->yjs v v'->yjs w w'->f x y=some b->SeqAt.EqAt A.in1 s v' w' b)
  (hs:∀ (x y:D) (v:V) (b:Bool),Rep T μ H x v->Rep T μ H y v->f x y=some b->b=true)
  {x y:D} {v w:V} {v' w':Value} {b:Bool} (hx:Rep T μ H x v) (hy:Rep T μ H y w) (rv:yjs v v') (rw':yjs w w') (h:eqK f (kd σ x) (kd σ y)=some b):SeqAt.EqAt A s v' w' b:=by
 have hu0:A.units<cLine:=by omega
 have rc:=(rcK I r hu hf hx hy rv rw' h).1;by_cases hvw:v=w
 ·subst hvw;have hb:=zk1 r hs hx hy h;have kx:=yai r hx;have ky:=yai r hy;generalize kd σ x=k1 at h kx;generalize kd σ y=k2 at h ky;cases k1 with
  |o=>cases h
  |s a=>
   obtain⟨rfl,fa⟩:=kx;cases k2 with
   |o=>cases h
   |s c=>obtain⟨rfl,fc⟩:=ky;cases h;exact zys rv rw' fa fc
   |t ys=>obtain⟨q,ws,e,_⟩:=ky;rw[e]at fa;simp[yfn]at fa
   |l ys=>obtain⟨q,ws,e,_⟩:=ky;rw[e]at fa;simp[yfn]at fa
  |t xs=>
   obtain⟨p,vs,rfl,_⟩:=kx;cases rv;cases rw';rw[hb];exact SeqAt.EqAt.same _
  |l xs=>
   obtain⟨p,vs,rfl,_⟩:=kx;cases rv;cases rw';rw[hb];exact SeqAt.EqAt.same _
 ·have kx:=yai r hx;have ky:=yai r hy;generalize kd σ x=k1 at h kx;generalize kd σ y=k2 at h ky;cases k1 with
  |o=>cases h
  |s a=>
   obtain⟨rfl,fa⟩:=kx;cases k2 with
   |o=>cases h
   |s c=>obtain⟨rfl,fc⟩:=ky;cases h;exact zys rv rw' fa fc
   |t ys=>
    obtain⟨q,ws,rfl,h2,r2⟩:=ky;cases h;cases rw';obtain⟨its,_,hq,_⟩:=L2.Inv.tuple I (SqT.of (K:=X.K) h2);exact(zfa fa rv hq hu0).1
   |l ys=>
    obtain⟨q,ws,rfl,h2,r2⟩:=ky;cases h;cases rw';obtain⟨its,_,pl,_⟩:=L2.Inv.list I (SqL.of (K:=X.K) h2);exact zd3 fa rv pl.isList hu0
  |t xs=>
   obtain⟨p,vs,rfl,h1,r1⟩:=kx;cases rv;cases k2 with
   |o=>cases h
   |s c=>
    obtain⟨rfl,fc⟩:=ky;cases h;obtain⟨its,_,hp,_⟩:=L2.Inv.tuple I (SqT.of (K:=X.K) h1);exact(zfa fc rw' hp hu0).2.1
   |t ys=>obtain⟨q,ws,rfl,_⟩:=ky;cases rw';exact .of_refs (fun e=>hvw (by rw[e])) rc
   |l ys=>obtain⟨q,ws,rfl,_⟩:=ky;cases rw';exact .of_refs (fun e=>hvw (by rw[e])) rc
  |l xs=>
   obtain⟨p,vs,rfl,h1,r1⟩:=kx;cases rv;cases k2 with
   |o=>cases h
   |s c=>
    obtain⟨rfl,fc⟩:=ky;cases h;obtain⟨its,_,pl,_⟩:=L2.Inv.list I (SqL.of (K:=X.K) h1);exact zc5 fc rw' pl.isList hu0
   |t ys=>obtain⟨q,ws,rfl,_⟩:=ky;cases rw';exact .of_refs (fun e=>hvw (by rw[e])) rc
   |l ys=>obtain⟨q,ws,rfl,_⟩:=ky;cases rw';exact .of_refs (fun e=>hvw (by rw[e])) rc
theorem zyt(I:Inv X pins st H s)(r:Rel T μ H σ):∀ (n:Nat) (A:Around) (x y:D) (v w:V) (v' w':Value) (b:Bool),A.units+n+1<cLine->Rep T μ H x v->Rep T μ H y w->yjs v v'->yjs w w'->eqD σ n x y=some b->SeqAt.EqAt A s v' w' b
 |0,A,x,y,v,w,v',w',b,hu,hx,hy,rv,rw',h=>zyu I r (by omega) (fun _ _ _ _ _ _ _ _ _ _ _ z=>by cases z) (fun _ _ _ _ _ _ z=>by cases z) hx hy rv rw' h
 |n+1,A,x,y,v,w,v',w',b,hu,hx,hy,rv,rw',h=>zyu I r (by omega) (fun x y v w v' w' b a1 a2 a3 a4 a5=>zyt I r n A.in1 x y v w v' w' b (by show A.units+1+n+1<cLine;omega) a1 a2 a3 a4 a5) (fun x y v b a1 a2 a3=>zk0 r n x y v b a1 a2 a3) hx hy rv rw' h
theorem rcD{A:Around}(I:Inv X pins st H s)(r:Rel T μ H σ)(n:Nat)(hu:A.units+n+1<cLine){x y:D}{v w:V}{v' w':Value}{b:Bool}(hx:Rep T μ H x v)(hy:Rep T μ H y w)(rv:yjs v v')(rw':yjs w w')(h:eqD σ n x y=some b):zxi A s v' w' b:=by
 cases n with
 |zero=>exact rcK I r (by omega) (fun _ _ _ _ _ _ _ _ _ _ _ z=>by cases z) hx hy rv rw' h
 |succ n=>exact rcK I r (by omega) (fun x y v w v' w' b a1 a2 a3 a4 a5=>zyt I r n A.in1 x y v w v' w' b (by show A.units+1+n+1<cLine;omega) a1 a2 a3 a4 a5) hx hy rv rw' h
end
section
variable{T:Tb}{X:Cx}{pins:List (Addr × Obj)}{st:St}{μ:List Addr}{H:Hp}{s:Shared}{σ:Sto}
def oEq(x y:D):M D:=fun σ=>match eqD σ 8 x y with
 |some b=>.ok (.bl b) σ
 |none=>.bad
def oNe(x y:D):M D:=fun σ=>match eqD σ 8 x y with
 |some b=>.ok (.bl (!b)) σ
 |none=>.bad
theorem ybo(hu:X.A.units+9<cLine):OpR X (compareOp .Eq) (rD T oEq):=by
 intro pins s st H v u v' u' Q I rv ru h;obtain⟨E,μ,σ,x,y,r,hx,hy,hp⟩:=h;unfold oEq at hp;cases e:eqD σ 8 x y with
 |none=>rw[e]at hp;exact hp.elim
 |some b=>
  rw[e]at hp;have:=(rcD I r 8 (by omega) hx hy rv ru e).1 X.prog X.w X.xe (EP X pins st Q) ⟨.bl b,H,I,rfl,yjp.here hp r (by rw[Rep])⟩;exact this
theorem ybt(hu:X.A.units+9<cLine):OpR X (compareOp .NotEq) (rD T oNe):=by
 intro pins s st H v u v' u' Q I rv ru h;obtain⟨E,μ,σ,x,y,r,hx,hy,hp⟩:=h;unfold oNe at hp;cases e:eqD σ 8 x y with
 |none=>rw[e]at hp;exact hp.elim
 |some b=>
  rw[e]at hp;have:=(rcD I r 8 (by omega) hx hy rv ru e).2 X.prog X.w X.xe (EP X pins st Q) ⟨.bl (!b),H,I,rfl,yjp.here hp r (by rw[Rep])⟩;exact this
def yl2(x y:D):M D:=fun σ=>match y with
 | .non=>(match x with
  | .non=>.ok (.bl true) σ
  |_=>.ok (.bl false) σ)
 |_=>.bad
def yg9(x y:D):M D:=fun σ=>match y with
 | .non=>(match x with
  | .non=>.ok (.bl false) σ
  |_=>.ok (.bl true) σ)
 |_=>.bad
theorem zt1{x:D}{v:V}(h:Rep T μ H x v):decide (v=.non)=(match x with | .non=>true|_=>false):=by
 cases x with
 |non=>rw[Rep]at h;subst h;rfl
 |tup ds=>rw[Rep]at h;obtain⟨p,_,rfl,_⟩:=h;simp
 |scr ds=>rw[Rep]at h;obtain⟨p,rfl,_⟩:=h;simp
 |ref ds=>rw[Rep]at h;obtain⟨p,rfl,_⟩:=h;simp
 |lst ds=>rw[Rep]at h;obtain⟨p,_,rfl,_⟩:=h;simp
 |dic ks ds=>rw[Rep]at h;obtain⟨p,_,rfl,_⟩:=h;simp
 |obj c ks ds=>rw[Rep]at h;obtain⟨p,_,_,rfl,_⟩:=h;simp
 |exn c=>rw[Rep]at h;obtain⟨p,_,rfl,_⟩:=h;simp
 |_=>rw[Rep]at h;subst h;simp
theorem zwm:yec T (fun x y H Q=>y=.non/\Q (.bl (decide (x=.non))) H) yl2:=by
 intro E μ H σ x y v u Q r p q h;cases y with
 |non=>
  refine⟨by rw[Rep]at q;exact q,?_⟩;rw[zt1 p];cases x<;>exact yjp.here h r (by rw[Rep])
 |_=>exact h.elim
theorem zo3:yec T (fun x y H Q=>y=.non/\Q (.bl (!decide (x=.non))) H) yg9:=by
 intro E μ H σ x y v u Q r p q h;cases y with
 |non=>
  refine⟨by rw[Rep]at q;exact q,?_⟩;rw[zt1 p];cases x<;>exact yjp.here h r (by rw[Rep]<;>rfl)
 |_=>exact h.elim
theorem zqa{ds:List D}{vs:List V}{k:Int}{d:D}(r:yjv T μ H ds vs)(h:atI ds k=some d):∃ v,atI vs k=some v/\Rep T μ H d v:=by
 unfold atI at h ⊢;rw[<-r.length];cases e:ixN ds.length k with
 |none=>rw[e]at h;cases h
 |some j=>rw[e]at h;exact r.get h
theorem zjb:∀ (ns:List Int),yjv T μ H (ns.map D.int) (ns.map V.int)
 |[]=>yjv.nil
 |n::ns=>yjv.cons (by rw[Rep]) (zjb ns)
def yif(σ:Sto):D->Option (List D)
 | .tup xs=>some xs
 | .scr ns=>some (ns.map D.int)
 | .ref n=>ygj σ n
 | .lst xs=>some xs
 |_=>none
def oIx(x i:D):M D:=fun σ=>match i with
 | .int k=>(match yif σ x with
  |some xs=>(match atI xs k with
   |some d=>.ok d σ
   |none=>.bad)
  |none=>.bad)
 |_=>.bad
theorem zv8(r:Rel T μ H σ){x:D}{v:V}{xs:List D}(h:Rep T μ H x v)(e:yif σ x=some xs):∃ p vs,v=.ref p/\yjv T μ H xs vs/\(SqL T.K H p vs\/SqT T.K H p vs):=by
 cases x with
 |tup ds=>cases e;rw[Rep]at h;obtain⟨p,vs,rfl,h1,h2⟩:=h;exact⟨p,vs,rfl,h2,.inr (SqT.of h1)⟩
 |scr ns=>cases e;rw[Rep]at h;obtain⟨p,rfl,h1⟩:=h;exact⟨p,_,rfl,zjb ns,.inl h1.seq⟩
 |ref n=>obtain⟨a,vs,rfl,_,h1,h2⟩:=r.lst h e;exact⟨a,vs,rfl,h2,.inl (SqL.of h1)⟩
 |lst ds=>cases e;rw[Rep]at h;obtain⟨p,vs,rfl,_,h1,h2⟩:=h;exact⟨p,vs,rfl,h2,.inl (SqL.of h1)⟩
 |_=>cases e
theorem ydc(hK:T.K=X.K):yec T (fun x y H Q=>ymm X.K x y H Q\/ymn X.K x y H Q) oIx:=by
 intro E μ H σ x y v u Q r p q h;cases y with
 |int k=>
  unfold oIx at h;cases e:yif σ x with
  |none=>simp only[e]at h;exact h.elim
  |some xs=>
   simp only[e]at h;cases e2:atI xs k with
   |none=>rw[e2]at h;exact h.elim
   |some d=>
    rw[e2]at h;obtain⟨a,vs,rfl,h1,h2⟩:=zv8 r p e;obtain⟨w,h3,h4⟩:=zqa h1 e2;rw[hK]at h2;rcases h2 with h2|h2
    ·exact .inl ⟨a,vs,k,w,rfl,yad q,h2,h3,yjp.here h r h4⟩
    ·exact .inr ⟨a,vs,k,w,rfl,yad q,h2,h3,yjp.here h r h4⟩
 |_=>exact h.elim
theorem ylg:IxR X (fun x y H Q=>ymm X.K x y H Q\/ymn X.K x y H Q):=zs5.or yag
def isF(d:D):Bool:=(sc d).isSome
def eqF(x y:D):Bool:=match sc x,sc y with
 |some a,some b=>eqV a b
 |_,_=>false
def oIn(neg:Bool)(x y:D):M D:=fun σ=>match yif σ y with
 |some xs=>if (isF x && xs.all isF)=true then .ok (.bl (if neg then !(xs.any fun z=>eqF z x)else xs.any fun z=>eqF z x)) σ else .bad
 |none=>.bad
theorem zln:∀ {ds:List D} {vs:List V},yjv T μ H ds vs->ds.all isF=true->vs.all yfn=true
 |[],vs,h,_=>by rw[yjv]at h;subst h;rfl
 |d::ds,vs,h,e=>by
  rw[yjv]at h;obtain⟨v,r,rfl,h1,h2⟩:=h;rw[List.all_cons,Bool.and_eq_true]at e ⊢;obtain⟨a,ea⟩:=Option.isSome_iff_exists.mp e.1;exact⟨by rw[yc1 h1 ea];exact zv2 ea,zln h2 e.2⟩
theorem zp3{x:D}{a:V}(ex:sc x=some a):∀ {ds:List D} {vs:List V},yjv T μ H ds vs->ds.all isF=true->(ds.any fun z=>eqF z x)=vs.any fun y=>eqV y a
 |[],vs,h,_=>by rw[yjv]at h;subst h;rfl
 |d::ds,vs,h,e=>by
  rw[yjv]at h;obtain⟨v,r,rfl,h1,h2⟩:=h;rw[List.all_cons,Bool.and_eq_true]at e;obtain⟨c,ec⟩:=Option.isSome_iff_exists.mp e.1;rw[List.any_cons,List.any_cons,zp3 ex h2 e.2];have:eqF d x=eqV v a:=by unfold eqF;rw[ec,ex,yc1 h1 ec]
  rw[this]
theorem ydb(hK:T.K=X.K)(neg:Bool):yec T (rIn X.K neg) (oIn neg):=by
 intro E μ H σ x y v u Q r p q h;unfold oIn at h;cases e:yif σ y with
 |none=>rw[e]at h;exact h.elim
 |some xs=>
  rw[e]at h;by_cases hc:(isF x && xs.all isF)=true
  ·simp only[hc,if_true]at h;rw[Bool.and_eq_true]at hc;obtain⟨a,ea⟩:=Option.isSome_iff_exists.mp hc.1;obtain⟨b,vs,rfl,h1,h2⟩:=zv8 r q e;rw[hK]at h2;refine⟨b,vs,rfl,h2,by rw[yc1 p ea];exact zv2 ea,zln h1 hc.2,?_⟩;have e3:inV v vs=xs.any fun z=>eqF z x:=by unfold inV;rw[zp3 ea h1 hc.2,yc1 p ea]
   rw[e3];exact yjp.here h r (by rw[Rep])
  ·simp only[hc]at h;exact h.elim
def yl3(xs:List D):M D:=fun σ=>match xs with
 |[x]=>(match yif σ x with
  |some ys=>.ok (.int ys.length) σ
  |none=>.bad)
 |_=>.bad
theorem zwn(hK:T.K=X.K):zpy T (fun xs H Q=>∃ p ys,xs=[.ref p]/\(SqL X.K H p ys\/SqT X.K H p ys)/\Q (.int ys.length) H) yl3:=by
 intro E μ H σ xs vs Q r p h
 match xs with
 |[]=>exact h.elim
 |[x]=>
  rw[yjv]at p;obtain⟨v,w,rfl,p1,p2⟩:=p;rw[yjv]at p2;subst p2;unfold yl3 at h;cases e:yif σ x with
  |none=>simp only[e]at h;exact h.elim
  |some ys=>
   simp only[e]at h;obtain⟨b,vs,rfl,h1,h2⟩:=zv8 r p1 e;rw[hK]at h2;exact⟨b,vs,rfl,h2,by rw[<-h1.length];exact yjp.here h r (by rw[Rep])⟩
 |_::_::_=>exact h.elim
def yg7(xs:List D):M D:=fun σ=>match xs with
 |[x]=>(match yif σ x with
  |some ys=>ygr ys σ
  |none=>.bad)
 |_=>.bad
theorem zo1(hK:T.K=X.K):zpy T (fun xs H Q=>∃ p ys,xs=[.ref p]/\(SqL X.K H p ys\/SqT X.K H p ys)/\∀ l,H l=none->Q (.ref l) (upd H l (.lst ys))) yg7:=by
 intro E μ H σ xs vs Q r p h
 match xs with
 |[]=>exact h.elim
 |[x]=>
  rw[yjv]at p;obtain⟨v,w,rfl,p1,p2⟩:=p;rw[yjv]at p2;subst p2;unfold yg7 at h;cases e:yif σ x with
  |none=>simp only[e]at h;exact h.elim
  |some ys=>
   simp only[e]at h;obtain⟨b,vs,rfl,h1,h2⟩:=zv8 r p1 e;rw[hK]at h2;exact⟨b,vs,rfl,h2,fun l hl=>ztz h r h1 hl⟩
 |_::_::_=>exact h.elim
def ybg(xs:List D):M D:=fun σ=>match xs with
 |[x]=>(match yif σ x with
  |some ys=>.ok (.tup ys) σ
  |none=>.bad)
 |_=>.bad
theorem zjn(hK:T.K=X.K):zpy T (fun xs H Q=>∃ p ys,xs=[.ref p]/\((SqL X.K H p ys/\∀ l,H l=none->Q (.ref l) (upd H l (.tup ys)))\/(SqT X.K H p ys/\Q (.ref p) H))) ybg:=by
 intro E μ H σ xs vs Q r p h
 match xs with
 |[]=>exact h.elim
 |[x]=>
  rw[yjv]at p;obtain⟨v,w,rfl,p1,p2⟩:=p;rw[yjv]at p2;subst p2;unfold ybg at h;cases e:yif σ x with
  |none=>simp only[e]at h;exact h.elim
  |some ys=>
   simp only[e]at h;cases x with
   |tup ds=>
    cases e;have p0:=p1;rw[Rep]at p1;obtain⟨b,vs,rfl,h1,h2⟩:=p1;exact⟨b,vs,rfl,.inr ⟨SqT.of h1,yjp.here h r p0⟩⟩
   |scr ns=>
    cases e;rw[Rep]at p1;obtain⟨b,rfl,h1⟩:=p1;exact⟨b,_,rfl,.inl ⟨by rw[<-hK];exact h1.seq,fun l hl=>zt0 h r (zjb ns) hl⟩⟩
   |ref n=>
    obtain⟨a,vs,rfl,_,h1,h2⟩:=r.lst p1 e;exact⟨a,vs,rfl,.inl ⟨SqL.of h1,fun l hl=>zt0 h r h2 hl⟩⟩
   |lst ds=>
    cases e;rw[Rep]at p1;obtain⟨b,vs,rfl,_,h1,h2⟩:=p1;exact⟨b,vs,rfl,.inl ⟨SqL.of h1,fun l hl=>zt0 h r h2 hl⟩⟩
   |_=>cases e
 |_::_::_=>exact h.elim
end
def ye6(o:List D->M D)(fs:Ev->M (List D)):Ev->M D:=fun ρ=>bnd (fs ρ) o
section
variable{T:Tb}{X:Cx}{x:Str}{p pos:Pos}{e:Expr}{es:List Expr}{fs:Ev->M (List D)}{id ty:String}{r:List V->Hp->VK->Prop}{o:List D->M D}
theorem yer(hs:zpy T r o){st:St}{H:Hp}{Q:VK}(h:tF T X (ye6 o fs) st H Q):tCB r (tL T X fs) st H Q:=by
 obtain⟨μ,ρ,σ,he,hr,hp⟩:=h;exact⟨μ,ρ,σ,he,hr,hp.bind fun ds σ1 μ1 vs H1 _ e1 r1 p1 q1=>hs _ μ1 H1 σ1 ds vs Q r1 p1 q1⟩
theorem zla(hc:yd2 X (.builtin id) r)(hs:zpy T r o)(hg:Gl X x)(hm:X.mg x=none)(hv:bootBuiltins x=some (.builtin id))(ha:FA T X (e::es) fs)(hn:x ≠ "__name__":=by decide)(hdb:(x == ("__debug__" : Str))=false:=by decide)
  (he:starEach (e::es) X.env=(false,eval e X.env)::starEach es X.env:=by rfl) (hpl:(backTo pos (starEach es X.env)).any (·.1)=false:=by rfl):FE T X (.Call (.Name x p) (e::es) [] pos) (ye6 o fs):=
 fun pins s st H Q I h=>znq hc hg hm hv ha hn hdb he hpl pins s st H Q I (yer hs h)
theorem zhx(hc:yd2 X (.type ty) r)(hs:zpy T r o)(hg:Gl X x)(hm:X.mg x=none)(hv:bootBuiltins x=some (.type ty))(ha:FA T X (e::es) fs)(hn:x ≠ "__name__":=by decide)(hdb:(x == ("__debug__" : Str))=false:=by decide)
  (he:starEach (e::es) X.env=(false,eval e X.env)::starEach es X.env:=by rfl) (hpl:(backTo pos (starEach es X.env)).any (·.1)=false:=by rfl):FE T X (.Call (.Name x p) (e::es) [] pos) (ye6 o fs):=
 fun pins s st H Q I h=>zi3 hc hg hm hv ha hn hdb he hpl pins s st H Q I (yer hs h)
end
def yln(σ:Sto):D->Option (List D)
 | .ref n=>ygj σ n
 | .lst xs=>some xs
 |_=>none
theorem Rel.ls{T:Tb}{μ:List Addr}{H:Hp}{σ:Sto}(r:Rel T μ H σ){x:D}{v:V}{xs:List D}(h:Rep T μ H x v)(e:yln σ x=some xs):∃ a vs,v=.ref a/\H a=some (.lst vs)/\yjv T μ H xs vs:=by
 cases x with
 |ref n=>obtain⟨a,vs,h1,_,h2,h3⟩:=r.lst h e;exact⟨a,vs,h1,h2,h3⟩
 |lst ys=>cases e;rw[Rep]at h;obtain⟨a,vs,h1,_,h2,h3⟩:=h;exact⟨a,vs,h1,h2,h3⟩
 |_=>cases e
def ygq(o:D->List D->M D)(m:M (List D))(x:D):M D:=fun σ=>match yln σ x with
 |some _=>bnd m (o x) σ
 |none=>.bad
def ye9(o:D->List D->M D)(f:Ev->M D)(fs:Ev->M (List D)):Ev->M D:=fun ρ=>bnd (f ρ) (ygq o (fs ρ))
def yeb(T:Tb)(r:V->List V->Hp->VK->Prop)(o:D->List D->M D):Prop:=∀ (E:XK) μ H σ x xs v vs Q,Rel T μ H σ->Rep T μ H x v->yjv T μ H xs vs->yjp T E (Rep T) μ H (o x xs σ) Q->r v vs H Q
def zt3(x:D)(xs:List D):M D:=fun σ=>match x,xs with
 | .ref n,[y]=>(match ygj σ n with
  |some ys=>if ys.length<cap then .ok .non (σ.set n (.lst (ys++[y])))else .bad
  |none=>.bad)
 |_,_=>.bad
section
variable{T:Tb}{X:Cx}{o e:Expr}{es:List Expr}{f:Ev->M D}{fs:Ev->M (List D)}{name:Str}{apos cpos:Pos}{id:String}{r:V->List V->Hp->VK->Prop}{g:D->List D->M D}
theorem zrx(pa:PlainAttrs "list")(slot:Slot "list" name id)(hty:typeOf (.builtin id)=pure (.type "method_descriptor"))(hm:MtR X id r)(hs:yeb T r g)(ho:FE T X o f)(ha:FA T X (e::es) fs)
  (hbase:attributeBase o name X.env (eval o X.env)=eval o X.env:=by rfl)
  (hfew:((backTo cpos (starEach (e::es) X.env)).all (fun x=>!x.1) && (backToKw cpos (keywordEach [] X.env)).all (fun x=>x.1.isSome)
   && decide ((e::es).length+([]:List Keyword).length+(if ([]:List Keyword).isEmpty then 0 else 1)<30))=true:=by rfl)
  (hline:(apos.endLine == cpos.line)=true:=by rfl) (hst:starEach (e::es) X.env=(false,eval e X.env)::starEach es X.env:=by rfl) (hplain:(backTo cpos (starEach es X.env)).any (·.1)=false:=by rfl) :
  FE T X (.Call (.Attribute o name apos) (e::es) [] cpos) (ye9 g f fs):=by
 intro pins s st H Q I h;refine yhj pa slot hty hm ho ha hbase hfew hline hst hplain pins s st H Q I ?_;obtain⟨μ,ρ,σ,he,hr,hp⟩:=h;refine⟨μ,ρ,σ,he,hr,hp.bind fun x σ1 μ1 v H1 _ e1 r1 p1 q1=>?_⟩;unfold ygq at q1;cases el:yln σ1 x with
 |none=>rw[el]at q1;exact q1.elim
 |some xs=>
  rw[el]at q1;obtain⟨a,vs,rfl,h1,h2⟩:=r1.ls p1 el;refine⟨.inl ⟨rfl,vs,SqL.of h1⟩,μ1,ρ,σ1,he.mono e1,r1,q1.bind fun ds σ2 μ2 ws H2 _ e2 r2 p2 q2=>?_⟩;exact hs _ μ2 H2 σ2 x ds (.ref a) ws Q r2 (Rep.mono e2 _ _ p1) p2 q2
theorem zgp:yeb T zve zt3:=by
 intro E μ H σ x xs v vs Q r p q h;cases x with
 |ref n=>
  match xs with
  |[]=>exact h.elim
  |[y]=>
   rw[yjv]at q;obtain⟨w,z,rfl,q1,q2⟩:=q;rw[yjv]at q2;subst q2;unfold zt3 at h;cases el:ygj σ n with
   |none=>simp only[el]at h;exact h.elim
   |some ys=>
    simp only[el]at h;by_cases hc:ys.length<cap
    ·rw[if_pos hc]at h;obtain⟨a,vs,rfl,hn,h1,h2⟩:=r.lst p el;have wr:=r.write (o:=.lst (vs++[w])) (ob:=.lst (ys++[y])) hn ⟨_,zpn,by
      have ex:Ext μ H μ (upd H a (.lst (vs++[w]))):=zhw (List.mem_of_getElem? hn) h1 (fun _ z=>by cases z) (fun _ _ z=>by cases z);exact yjv.append (yjv.mono ex _ _ h2) (yjv.cons (Rep.mono ex _ _ q1) yjv.nil)⟩
     exact⟨a,vs,w,rfl,rfl,h1,by rw[<-h2.length];exact zxx hc,h _ _ _ wr.1 wr.2 (by rw[Rep])⟩
    ·rw[if_neg hc]at h;exact h.elim
  |_::_::_=>exact h.elim
 |_=>exact h.elim
end
inductive BT where
 |int|bool|str|tuple|list|dict
def BT.nm:BT->String
 | .int=>"int" | .bool=>"bool" | .str=>"str" | .tuple=>"tuple" | .list=>"list" | .dict=>"dict"
def yle(σ:Sto)(c:BT):D->Option Bool
 | .non=>some false
 | .bl _=>some (match c with | .int=>true | .bool=>true|_=>false)
 | .int _=>some (match c with | .int=>true|_=>false)
 | .str _=>some (match c with | .str=>true|_=>false)
 | .tup _=>some (match c with | .tuple=>true|_=>false)
 | .scr _=>none
 | .lst _=>some (match c with | .list=>true|_=>false)
 | .dic _ _=>some (match c with | .dict=>true|_=>false)
 | .obj _ _ _=>none
 | .exn _=>none
 | .ref n=>match σ[n]? with
  |some (.lst _)=>some (match c with | .list=>true|_=>false)
  |some (.dic _)=>some (match c with | .dict=>true|_=>false)
  |_=>none
def yl1(c:BT)(x:D):M D:=fun σ=>match yle σ c x with
 |some b=>.ok (.bl b) σ
 |none=>.bad
section
variable{T:Tb}{X:Cx}
def TyR(K:PySem.W.Frag)(H:Hp)(x:V)(t:Value):Prop:=TyOf K H x t\/∃ a kvs,x=.ref a/\Rd H a (.dK kvs)/\t=.type "dict"
def yml(K:PySem.W.Frag)(c:String):List V->Hp->VK->Prop:=fun xs H Q=>∃ x t b,xs=[x,.ty c]/\TyR K H x t/\PySem.W.kitOne K t (.type c)=some b/\Q (.bl b) H
theorem zkd(c:String):yd2 X (.builtin "isinstance") (yml X.K c):=by
 intro pins s st H xs us Q I r h;obtain⟨x,t,b,rfl,ty,e,q⟩:=h;obtain⟨u,u2,rfl,ru,ru2⟩:=yi3 r;cases ru2;rcases ty with ty|⟨a,kvs,rfl,rd,rfl⟩
 ·exact zia I ru ty e fun tk=>⟨.bl b,H,I.tok _,rfl,q⟩
 ·cases (show u=Value.ref a from ru);obtain⟨_,_,vs,_,p⟩:=(show yd7 X.prog X.w H s.heap a (.dK kvs)from rd.ok I.hok)
  obtain⟨o,es,ep,h1,h2,_⟩:=p;exact PySem.W.kia_one PySem.W.kitx_dict I.kIn ⟨o,h1,h2.1⟩ e (fun z=>nomatch z) fun tk=>⟨.bl b,H,I.tok _,rfl,q⟩
theorem yi1{μ:List Addr}{H:Hp}{σ:Sto}{x:D}{v:V}{c:BT}{b:Bool}(r:Rel T μ H σ)(p:Rep T μ H x v)(h:yle σ c x=some b):∃ t,TyR X.K H v t/\PySem.W.kitOne X.K t (.type c.nm)=some b:=by
 cases x with
 |non=>rw[Rep]at p;subst p;refine⟨_,.inl (.non),?_⟩;cases c<;>cases h<;>rfl
 |bl i=>rw[Rep]at p;subst p;refine⟨_,.inl (.bl i),?_⟩;cases c<;>cases h<;>rfl
 |int i=>rw[Rep]at p;subst p;refine⟨_,.inl (.int i),?_⟩;cases c<;>cases h<;>rfl
 |str i=>rw[Rep]at p;subst p;refine⟨_,.inl (.str i),?_⟩;cases c<;>cases h<;>rfl
 |tup ds=>rw[Rep]at p;obtain⟨q,vs,rfl,h1,_⟩:=p;refine⟨_,.inl (.tup h1),?_⟩;cases c<;>cases h<;>rfl
 |scr ns=>cases h
 |lst ds=>rw[Rep]at p;obtain⟨q,vs,rfl,_,h1,_⟩:=p;refine⟨_,.inl (.lst h1),?_⟩;cases c<;>cases h<;>rfl
 |dic ks ds=>rw[Rep]at p;obtain⟨q,vs,rfl,_,h1,_⟩:=p;refine⟨_,.inr ⟨q,_,rfl,h1,rfl⟩,?_⟩;cases c<;>cases h<;>rfl
 |obj c' ks ds=>cases h
 |exn c'=>cases h
 |ref n=>
  unfold yle at h;dsimp only at h;cases e:σ[n]? with
  |none=>rw[e]at h;cases h
  |some o=>
   rw[e]at h;obtain⟨a,rfl,_,h2⟩:=r.at p e;cases o with
   |lst xs=>obtain⟨vs,h3,_⟩:=h2;refine⟨_,.inl (.lst h3),?_⟩;cases c<;>cases h<;>rfl
   |dic xs=>obtain⟨vs,h3,_⟩:=h2;refine⟨_,.inl (.dK h3),?_⟩;cases c<;>cases h<;>rfl
   |ins c' fs=>cases h
theorem zy6(c:BT){tn:Str}{e:Expr}{f:Ev->M D}{p p2 pos:Pos}(he:FE T X e f)(hg:Gl X "isinstance")(hm:X.mg "isinstance" = none)(hg2:Gl X tn)(hm2:X.mg tn=none)(hv2:bootBuiltins tn=some (.type c.nm))(hn2:tn ≠ "__name__":=by decide)(hd2:(tn == ("__debug__" : Str))=false:=by decide)
  (hs:starEach [e,.Name tn p2] X.env=(false,eval e X.env)::starEach [.Name tn p2] X.env:=by rfl) (hpl:(backTo pos (starEach [.Name tn p2] X.env)).any (·.1)=false:=by rfl) :
  FE T X (.Call (.Name "isinstance" p) [e,.Name tn p2] [] pos) (eUn (yl1 c) f):=by
 intro pins s st H Q I h;refine znq (zkd c.nm) hg hm boot_isinstance (zuq he (zuq (zus hg2 hm2 hv2 (v:=.ty c.nm) rfl hn2 hd2) yby) hs) (by decide) (by decide) hs hpl pins s st H Q I ?_;obtain⟨μ,ρ,σ,hE,hr,hp⟩:=h;refine⟨μ,ρ,σ,hE,hr,hp.bind fun x σ1 μ1 v H1 _ e1 r1 p1 q1=>?_⟩;unfold yl1 at q1;cases eb:yle σ1 c x with
 |none=>rw[eb]at q1;exact q1.elim
 |some b=>
  rw[eb]at q1;obtain⟨t,h1,h2⟩:=yi1 (X:=X) r1 p1 eb;exact⟨v,t,b,rfl,h1,h2,yjp.here q1 r1 (by rw[Rep])⟩
end
def ym2:Ev->M Fl:=fun ρ=>ret (.nx ρ)
def ym7(h:Ev->M Fl):Fl->M Fl
 | .nx ρ'=>h ρ'
 | .rt d=>ret (.rt d)
 | .bk ρ'=>ret (.bk ρ')
 | .ct ρ'=>ret (.ct ρ')
 | .xc ρ' x=>ret (.xc ρ' x)
def ym5(g h:Ev->M Fl):Ev->M Fl:=fun ρ=>bnd (g ρ) (ym7 h)
def ymt:D->M Fl:=fun d=>ret (.rt d)
def ym4(f:Ev->M D):Ev->M Fl:=fun ρ=>xs ρ (f ρ) ymt
def yky(ρ:Ev):D->M Fl:=fun _=>ret (.nx ρ)
def ymz(f:Ev->M D):Ev->M Fl:=fun ρ=>xs ρ (f ρ) (yky ρ)
def ym8(i:Nat)(ρ:Ev):D->M Fl:=fun d=>ret (.nx (ρ.set i (some d)))
def ym6(i:Nat)(f:Ev->M D):Ev->M Fl:=fun ρ=>xs ρ (f ρ) (ym8 i ρ)
def sIf(t:Ev->M Bool)(a b:Ev->M Fl):Ev->M Fl:=fun ρ=>xs ρ (t ρ) (ifK (a ρ) (b ρ))
section
variable{T:Tb}{X:Cx}{st':Stmt}{yms:List Stmt}{g h:Ev->M Fl}{e:Expr}{f:Ev->M D}{pos:Pos}
theorem zsl:FSs T X [] ym2:=by
 intro pins s st H D I hw;obtain⟨μ,ρ,σ,hE,hr,hp⟩:=hw;exact zu6 pins s st H D I (yjp.here (g:=Gl2.nx st) hp hr hE)
theorem zv7{μ:List Addr}{H:Hp}{σ:Sto}{fl:Fl}{gl:Gl2}{D:Ends}{N:St->Hp->Prop}(r:Rel T μ H σ)(q:RFl T μ H fl gl)(k:Fl->M Fl)
  (hn:∀ ρ,fl=.nx ρ->∀ st,gl=.nx st->yje T μ H ρ st->N st H) (ho:(∀ ρ,fl≠.nx ρ)->yjp T EN (RFl T) μ H (.ok fl σ) (yjf X D)):yjf X { D with nx:=N } gl H:=by
 cases fl with
 |nx ρ=>cases gl with
  |nx st=>exact hn ρ rfl st rfl q
  |_=>exact q.elim
 |rt d=>cases gl with
  |rt v=>have z:=yjp.here (g:=Gl2.rt v) (ho fun _ z=>by cases z) r q;exact z
  |_=>exact q.elim
 |bk ρ=>cases gl with
  |bk v=>have z:=yjp.here (g:=Gl2.bk v) (ho fun _ z=>by cases z) r q;exact z
  |_=>exact q.elim
 |ct ρ=>cases gl with
  |ct v=>have z:=yjp.here (g:=Gl2.ct v) (ho fun _ z=>by cases z) r q;exact z
  |_=>exact q.elim
 |xc ρ x=>cases gl with
  |xc v c fd=>have z:=yjp.here (g:=Gl2.xc v c fd) (ho fun _ z=>by cases z) r q;exact z
  |_=>exact q.elim
theorem zlz(h1:FS T X st' g)(h2:FSs T X yms h):FSs T X (st'::yms) (ym5 g h):=by
 intro pins s st H D I hw;refine znz h1 h2 pins s st H D I ?_;obtain⟨μ,ρ,σ,hE,hr,hp⟩:=hw;refine⟨μ,ρ,σ,hE,hr,hp.bind fun fl σ1 μ1 gl H1 _ e1 r1 q1 p1=>?_⟩;refine zv7 (X:=X) r1 q1 (fun _=>bad) (fun ρ' ef st1 eg he=>?_) (fun hn=>?_)
 ·subst ef;exact⟨μ1,ρ',σ1,he,r1,p1⟩
 ·cases fl with
  |nx ρ'=>exact(hn ρ' rfl).elim
  |_=>exact p1
theorem zsm(h1:FS T X st' g):FSs T X [st'] g:=zu7 h1
theorem zzv(he:FE T X e f):FS T X (.Return (some e) pos) (ym4 f):=by
 intro pins s st H D I hw;refine yck he pins s st H D I ?_;obtain⟨μ,ρ,σ,hE,hr,hp⟩:=hw;exact⟨μ,ρ,σ,hE,hr,hp.xs hE fun d σ1 μ1 v H1 _ e1 r1 q1 p1=>yjp.here (g:=Gl2.rt v) p1 r1 q1⟩
theorem zsg(he:FE T X e f)(hs:swapsWith e none pos.line X.env=pure false:=by rfl):FS T X (.Expr e pos) (ymz f):=by
 intro pins s st H D I hw;refine zu5 he hs pins s st H D I ?_;obtain⟨μ,ρ,σ,hE,hr,hp⟩:=hw;exact⟨μ,ρ,σ,hE,hr,hp.xs hE fun d σ1 μ1 v H1 _ e1 r1 q1 p1=>yjp.here (g:=Gl2.nx st) p1 r1 (hE.mono e1)⟩
theorem zzw{i:Nat}{x:Str}{pos':Pos}(hN:X.N.Nodup)(hi:X.N[i]?=some x)(hx:Loc X.env.scope x)(he:FE T X e f)(hs:swapsWith e (some (.Name x pos')) pos.line X.env=pure false:=by rfl)(hf:X.fn x=true\/X.env.scope.names.lookup x=some .local:=by first|exact .inl rfl|exact .inr rfl|assumption) :
  FS T X (.Assign [.Name x pos'] e pos) (ym6 i f):=by
 intro pins s st H D I hw;refine ycl hN hi hx he hs hf pins s st H D I ?_;obtain⟨μ,ρ,σ,hE,hr,hp⟩:=hw;exact⟨μ,ρ,σ,hE,hr,hp.xs hE fun d σ1 μ1 v H1 _ e1 r1 q1 p1=>yjp.here (g:=Gl2.nx (st.set i (some v))) p1 r1 ((hE.mono e1).set i q1)⟩
theorem yfv{c:Expr}{a b:List Stmt}{tc:Ev->M Bool}{ga gb:Ev->M Fl}(hc:FT T X c tc)(ha:FSs T X a ga)(hb:FSs T X b gb):FS T X (.If c a b pos) (sIf tc ga gb):=by
 intro pins s st H D I hw;refine yhq hc ha hb pins s st H D I ?_;obtain⟨μ,ρ,σ,hE,hr,hp⟩:=hw;refine⟨μ,ρ,σ,hE,hr,hp.xs hE fun c σ1 μ1 v H1 _ e1 r1 q1 p1=>?_⟩;cases q1;cases c with
 |true=>unfold ifK at p1;rw[if_pos rfl]at p1 ⊢;exact⟨μ1,ρ,σ1,hE.mono e1,r1,p1⟩
 |false=>unfold ifK at p1;rw[if_neg Bool.false_ne_true]at p1 ⊢;exact⟨μ1,ρ,σ1,hE.mono e1,r1,p1⟩
def gD(T:Tb)(tg:D->Ev->Option Ev):TG:=fun v st H Q=>∃ μ σ ρ d ρ',yje T μ H ρ st/\Rel T μ H σ/\Rep T μ H d v/\tg d ρ=some ρ'/\∀ st',yje T μ H ρ' st'->Q st' H
def gsD(T:Tb)(tg:List D->Ev->Option Ev):TGs:=fun vs st H Q=>∃ μ σ ρ ds ρ',yje T μ H ρ st/\Rel T μ H σ/\yjv T μ H ds vs/\tg ds ρ=some ρ'/\∀ st',yje T μ H ρ' st'->Q st' H
abbrev FG(T:Tb)(X:Cx)(t:Expr)(tg:D->Ev->Option Ev):Prop:=PG X t (gD T tg)
abbrev FGs(T:Tb)(X:Cx)(ts:List Expr)(tg:List D->Ev->Option Ev):Prop:=PGs X ts (gsD T tg)
def tgN(i:Nat):D->Ev->Option Ev:=fun d ρ=>some (ρ.set i (some d))
def yiz:List D->Ev->Option Ev
 |[],ρ=>some ρ
 |_::_,_=>none
def ydn(t:D->Ev->Option Ev)(u:List D->Ev->Option Ev):List D->Ev->Option Ev
 |[],_=>none
 |d::ds,ρ=>(t d ρ).bind fun ρ'=>u ds ρ'
def tgT(n:Nat)(t:List D->Ev->Option Ev):D->Ev->Option Ev
 | .tup ds,ρ=>if ds.length=n then t ds ρ else none
 |_,_=>none
theorem zry{i:Nat}{x:Str}(hN:X.N.Nodup)(hi:X.N[i]?=some x)(hx:Loc X.env.scope x)(hf:X.fn x=true\/X.env.scope.names.lookup x=some .local:=by first|exact .inl rfl|exact .inr rfl|assumption):FG T X (.Name x pos) (tgN i):=by
 intro pins s st H v u Q I r h;obtain⟨μ,σ,ρ,d,ρ',hE,hr,hd,ht,hq⟩:=h;cases ht;exact zuy hN hi hx hf pins s st H v u Q I r (hq _ (hE.set i hd))
theorem zr0:FGs T X [] yiz:=by
 intro pins s st H vs us Q I r h;obtain⟨μ,σ,ρ,ds,ρ',hE,hr,hd,ht,hq⟩:=h;cases ds with
 |nil=>cases ht;rw[yjv]at hd;subst hd;exact zuz pins s st H [] us Q I r ⟨rfl,hq _ hE⟩
 |cons d ds=>cases ht
theorem zlh{es:List Expr}{t:D->Ev->Option Ev}{u:List D->Ev->Option Ev}(h1:FG T X e t)(h2:FGs T X es u)
  (hs:(assignEach (e::es) X.env).map (·.2)=assign e X.env::(assignEach es X.env).map (·.2):=by rfl):FGs T X (e::es) (ydn t u):=by
 intro pins s st H vs us Q I r h;obtain⟨μ,σ,ρ,ds,ρ',hE,hr,hd,ht,hq⟩:=h;cases ds with
 |nil=>cases ht
 |cons d ds=>
  rw[yjv]at hd;obtain⟨v,w,rfl,hd1,hd2⟩:=hd;obtain⟨ρ1,e1,e2⟩:=Option.bind_eq_some_iff.mp ht;refine znu h1 h2 hs pins s st H (v::w) us Q I r ⟨v,w,rfl,μ,σ,ρ,d,ρ1,hE,hr,hd1,e1,fun st1 hE1=>?_⟩;exact⟨μ,σ,ρ1,ds,ρ',hE1,hr,hd2,e2,hq⟩
theorem zzg{es:List Expr}{k:Nat}{t:List D->Ev->Option Ev}{n:Nat}(hc:X.calm=true)(h:FGs T X es t)
  (hn:(assignEach es X.env).length=n:=by rfl) (hst:(assignEach es X.env).findIdx? (·.1)=none:=by rfl):FG T X (.Tuple es k pos) (tgT n t):=by
 intro pins s st H v u Q I r hw;obtain⟨μ,σ,ρ,d,ρ',hE,hr,hd,ht,hq⟩:=hw;cases d with
 |tup ds=>
  have hd0:=hd;rw[Rep]at hd;obtain⟨p,vs,rfl,h1,h2⟩:=hd;unfold tgT at ht;dsimp only at ht;by_cases hl:ds.length=n
  ·rw[if_pos hl]at ht;exact ycb hc h hn hst pins s st H (.ref p) u Q I r ⟨p,vs,rfl,SqT.of h1,by rw[<-h2.length];exact hl,μ,σ,ρ,ds,ρ',hE,hr,h2,ht,hq⟩
  ·rw[if_neg hl]at ht;cases ht
 |_=>cases ht
def yj6(tg:D->Ev->Option Ev)(ρ:Ev)(d:D):M Fl:=match tg d ρ with
 |some ρ'=>ret (.nx ρ')
 |none=>bad
def ymx(f:Ev->M D)(tg:D->Ev->Option Ev):Ev->M Fl:=fun ρ=>xs ρ (f ρ) (yj6 tg ρ)
theorem zzr{tg:Expr}{t:D->Ev->Option Ev}(he:FE T X e f)(hg:FG T X tg t)(hs:swapsWithSole [tg] e pos.line X.env=pure false:=by rfl)(hw:swappedStores [tg] e X.env=pure none:=by rfl)
  (h1:(assignEach [tg] X.env).map (·.2)=[assign tg X.env]:=by rfl):FS T X (.Assign [tg] e pos) (ymx f t):=by
 intro pins s st H D I hq;refine ycg he hg hs hw h1 pins s st H D I ?_;obtain⟨μ,ρ,σ,hE,hr,hp⟩:=hq;refine⟨μ,ρ,σ,hE,hr,hp.xs hE fun d σ1 μ1 v H1 _ e1 r1 q1 p1=>?_⟩;unfold yj6 at p1;cases ht:t d ρ with
 |none=>simp only[ht]at p1;exact p1.elim
 |some ρ'=>simp only[ht]at p1;exact⟨μ1,σ1,ρ,d,ρ',hE.mono e1,r1,q1,ht,fun st1 hE1=>yjp.here (g:=Gl2.nx st1) p1 r1 hE1⟩
def yhb(x i d:D):M Unit:=fun σ=>match x,i with
 | .ref n,.int k=>(match ygj σ n with
  |some xs=>(match ixN xs.length k with
   |some j=>.ok () (σ.set n (.lst (xs.set j d)))
   |none=>.bad)
  |none=>.bad)
 |_,_=>.bad
def yil(ρ:Ev)(d x i:D):M Fl:=fun σ=>match yhb x i d σ with
 | .ok _ σ'=>.ok (.nx ρ) σ'
 |_=>.bad
def yik(ρ:Ev)(fi:Ev->M D)(d x:D):M Fl:=xs ρ (fi ρ) (yil ρ d x)
def yij(ρ:Ev)(fo fi:Ev->M D)(d:D):M Fl:=xs ρ (fo ρ) (yik ρ fi d)
def yib(f fo fi:Ev->M D):Ev->M Fl:=fun ρ=>xs ρ (f ρ) (yij ρ fo fi)
theorem zsk{o i:Expr}{fo fi:Ev->M D}{pos':Pos}(he:FE T X e f)(ho:FE T X o fo)(hi:FE T X i fi)
  (ha:∀ v,assign (.Subscript o i pos') X.env v=(do
   let ov <-holding [v] (eval o X.env);let iv <-holding [v,ov] (eval i X.env)
   standAt pos'
   holding [v,ov,iv] (setItem ov iv v)
   release [v,ov,iv] []):=by intro _;rfl)
  (hs:swapsWithSole [.Subscript o i pos'] e pos.line X.env=pure false:=by rfl) (hw:swappedStores [.Subscript o i pos'] e X.env=pure none:=by rfl)
  (h1:(assignEach [.Subscript o i pos'] X.env).map (·.2)=[assign (.Subscript o i pos') X.env]:=by rfl):FS T X (.Assign [.Subscript o i pos'] e pos) (yib f fo fi):=by
 intro pins s st H D I hq;refine ycg he (yca ho hi zou ha) hs hw h1 pins s st H D I ?_;obtain⟨μ,ρ,σ,hE,hr,hp⟩:=hq;refine⟨μ,ρ,σ,hE,hr,hp.xs hE fun d σ1 μ1 v H1 _ e1 r1 q1 p1=>?_⟩;refine⟨μ1,ρ,σ1,hE.mono e1,r1,p1.xs (hE.mono e1) fun x σ2 μ2 vo H2 _ e2 r2 q2 p2=>?_⟩;refine⟨μ2,ρ,σ2,(hE.mono e1).mono e2,r2,p2.xs ((hE.mono e1).mono e2) fun k σ3 μ3 vi H3 _ e3 r3 q3 p3=>?_⟩;have hd:=Rep.mono e3 _ _ (Rep.mono e2 _ _ q1);have hx:=Rep.mono e3 _ _ q2;unfold yil yhb at p3;cases x with
 |ref n=>
  cases k with
  |int k=>
   dsimp only at p3;cases el:ygj σ3 n with
   |none=>rw[el]at p3;exact p3.elim
   |some xs=>
    rw[el]at p3;dsimp only at p3;cases ej:ixN xs.length k with
    |none=>rw[ej]at p3;exact p3.elim
    |some j=>
     rw[ej]at p3;obtain⟨a,vs,rfl,hn,h1,h2⟩:=r3.lst hx el;have wr:=r3.write (o:=.lst (vs.set j v)) (ob:=.lst (xs.set j d)) hn ⟨_,zpn,by
      have ex:Ext μ3 H3 μ3 (upd H3 a (.lst (vs.set j v))):=zhw (List.mem_of_getElem? hn) h1 (fun _ z=>by cases z) (fun _ _ z=>by cases z);exact yjv.set (Rep.mono ex _ _ hd) j (yjv.mono ex _ _ h2)⟩
     exact⟨a,vs,k,j,rfl,yad q3,h1,by rw[<-h2.length];exact ej,p3 _ (.nx st) _ wr.1 wr.2 (((hE.mono e1).mono e2).mono e3 |>.mono wr.1)⟩
  |_=>exact p3.elim
 |_=>exact p3.elim
end
inductive Src where
 |seq (ds:List D)
 |lref (n:Nat)
def Src.nx:Src->Nat->Sto->Option (Option D)
 | .seq ds,i,_=>some ds[i]?
 | .lref n,i,σ=>(ygj σ n).map fun xs=>xs[i]?
def yee(T:Tb)(μ0:List Addr)(H0:Hp)(src:Src)(J:It):Prop:=∀ μ H σ i,Ext μ0 H0 μ H->Rel T μ H σ->match src.nx i σ with
 |none=>True
 |some none=>J.stop i H
 |some (some d)=>J.go i H/\∀ x H',J.yld i H x H'->H'=H/\Rep T μ H d x
def tI(T:Tb)(X:Cx)(f:Ev->M Src):TI:=fun st H R=>∃ μ ρ σ,yje T μ H ρ st/\Rel T μ H σ/\yjp T (XE X st) (yee T) μ H (f ρ σ) R
abbrev FI(T:Tb)(X:Cx)(tg iter:Expr)(f:Ev->M Src):Prop:=PI X tg iter (tI T X f)
def ycs(n:Nat):List D:=(List.range n).map fun(i:Nat)=>D.int (i:Int)
def yie(d:D):M Src:=fun σ=>match d with
 | .tup ds=>.ok (.seq ds) σ
 | .lst ds=>.ok (.seq ds) σ
 | .scr ns=>.ok (.seq (ns.map D.int)) σ
 | .ref n=>(match ygj σ n with
  |some _=>.ok (.lref n) σ
  |none=>.bad)
 |_=>.bad
def ynf(f:Ev->M D):Ev->M Src:=fun ρ=>bnd (f ρ) yie
noncomputable def zwg(j:Int):Bool:=hide (decide (-(2 ^ 62)<=j) && decide (j<2 ^ 62))
noncomputable def ymu(d:D):M Src:=fun σ=>match d with
 | .int j=>if zwg j=true then .ok (.seq (ycs j.toNat)) σ else .bad
 |_=>.bad
noncomputable def yne(f:Ev->M D):Ev->M Src:=fun ρ=>bnd (f ρ) ymu
section
variable{T:Tb}{X:Cx}{tg iter:Expr}{f:Ev->M D}
def ylb(K:PySem.W.Frag)(tl:TE):TI:=fun σ H R=>tl σ H fun x H1=>∃ a,x=.ref a/\(((∃ xs,SqL K H1 a xs)/\R (Itl K a) H1)\/((∃ xs,SqT K H1 a xs)/\R (Itt K a) H1))
theorem ycc{l:Expr}{tl:TE}(hl:PE X l tl):PI X tg l (ylb X.K tl):=by
 intro pins s σ H R I h;refine thn (hl pins s σ H _ I h) fun v s1 ⟨x,H1,I1,r1,q1⟩=>?_;obtain⟨a,e,q1⟩:=q1;subst e;cases r1;rcases q1 with⟨⟨xs,hq⟩,q⟩|⟨⟨xs,hq⟩,q⟩
 ·obtain⟨its,rv,p,hz⟩:=I1.list hq;refine wpAny_pyIter_list p.isList ?_;refine⟨s1.heap.objs.size,[s1.heap.objs.size],_,_,H1,rfl,I1.kept (t':=s1.toks) fun b o e=>Heap.get?_push_of_some _ e,zjw a _,⟨_,Heap.get?_push_size _ rfl,rfl,rfl⟩,fun b hb=>?_,q⟩;have e:b=s1.heap.objs.size:=by simpa using hb
  subst e;exact I1.fpOk (Nat.le_refl _) (I1.hok.fresh (Nat.le_refl _))
 ·obtain⟨its,rv,p,hz⟩:=I1.tuple hq;refine wpAny_pyIter_tuple (show s1.heap.IsTuple a its.toArray from p) ?_;refine⟨s1.heap.objs.size,[s1.heap.objs.size],_,_,H1,rfl,I1.kept (t':=s1.toks) fun b o e=>Heap.get?_push_of_some _ e,zgu a _,⟨_,Heap.get?_push_size _ rfl,rfl,rfl⟩,fun b hb=>?_,q⟩;have e:b=s1.heap.objs.size:=by simpa using hb
  subst e;exact I1.fpOk (Nat.le_refl _) (I1.hok.fresh (Nat.le_refl _))
theorem zo6{μ1:List Addr}{H1:Hp}{a:Addr}{ds:List D}{K:PySem.W.Frag}(h:∀ μ2 H2,Ext μ1 H1 μ2 H2->∃ vs,SqL K H2 a vs/\yjv T μ2 H2 ds vs):yee T μ1 H1 (.seq ds) (Itl K a):=by
 intro μ2 H2 σ2 i ex r2;obtain⟨vs,h3,h4⟩:=h μ2 H2 ex;show match some ds[i]? with|none=>True|some none=>_|some (some d)=>_
 cases e:ds[i]? with
 |none=>exact⟨vs,h3,by rw[<-h4.length];exact List.getElem?_eq_none_iff.mp e⟩
 |some d=>
  obtain⟨v,hv1,hv2⟩:=h4.get e;refine⟨⟨vs,v,h3,hv1⟩,fun x H' y=>?_⟩;obtain⟨rfl,y⟩:=y;have:=y vs h3;rw[hv1]at this;cases this;exact⟨rfl,hv2⟩
theorem zw0{μ1:List Addr}{H1:Hp}{a:Addr}{ds:List D}{K:PySem.W.Frag}(h:∀ μ2 H2,Ext μ1 H1 μ2 H2->∃ vs,SqT K H2 a vs/\yjv T μ2 H2 ds vs):yee T μ1 H1 (.seq ds) (Itt K a):=by
 intro μ2 H2 σ2 i ex r2;obtain⟨vs,h3,h4⟩:=h μ2 H2 ex;show match some ds[i]? with|none=>True|some none=>_|some (some d)=>_
 cases e:ds[i]? with
 |none=>exact⟨vs,h3,by rw[<-h4.length];exact List.getElem?_eq_none_iff.mp e⟩
 |some d=>
  obtain⟨v,hv1,hv2⟩:=h4.get e;refine⟨⟨vs,v,h3,hv1⟩,fun x H' y=>?_⟩;obtain⟨rfl,y⟩:=y;have:=y vs h3;rw[hv1]at this;cases this;exact⟨rfl,hv2⟩
theorem zzh(hK:T.K=X.K)(h:FE T X iter f):FI T X tg iter (ynf f):=by
 intro pins s st H R I hw;refine ycc h pins s st H R I ?_;obtain⟨μ,ρ,σ,hE,hr,hp⟩:=hw;refine⟨μ,ρ,σ,hE,hr,hp.bind fun d σ1 μ1 v H1 _ e1 r1 q1 p1=>?_⟩;cases d with
 |tup ds=>
  rw[Rep]at q1;obtain⟨p,vs,rfl,h1,h2⟩:=q1;exact⟨p,rfl,.inr ⟨⟨vs,SqT.of h1⟩,yjp.here (R:=yee T) p1 r1 (zw0 fun μ2 H2 ex=>⟨vs,SqT.of (ex.tup _ _ h1),yjv.mono ex _ _ h2⟩)⟩⟩
 |lst ds=>
  rw[Rep]at q1;obtain⟨p,vs,rfl,hn,h1,h2⟩:=q1;exact⟨p,rfl,.inl ⟨⟨vs,SqL.of h1⟩,yjp.here (R:=yee T) p1 r1 (zo6 fun μ2 H2 ex=>⟨vs,SqL.of (ex.keepN _ _ h1 hn).1,yjv.mono ex _ _ h2⟩)⟩⟩
 |scr ns=>
  rw[Rep]at q1;obtain⟨p,rfl,h1⟩:=q1;have hsc:∀ μ2 H2,Ext μ1 H1 μ2 H2->SqL X.K H2 p (ns.map V.int):=fun μ2 H2 ex=>by
   have h2:Rep T μ2 H2 (.scr ns) (.ref p):=Rep.mono ex _ _ (by rw[Rep];exact⟨p,rfl,h1⟩);rw[Rep]at h2;obtain⟨p',e',h3⟩:=h2;cases e';rw[<-hK];exact h3.seq
  exact⟨p,rfl,.inl ⟨⟨_,hsc _ _ (Ext.refl _ _)⟩,yjp.here (R:=yee T) p1 r1 (zo6 fun μ2 H2 ex=>⟨_,hsc μ2 H2 ex,zjb ns⟩)⟩⟩
 |ref n=>
  unfold yie at p1;dsimp only at p1;cases el0:ygj σ1 n with
  |none=>rw[el0]at p1;exact p1.elim
  |some xs=>
   rw[el0]at p1;obtain⟨a,vs,rfl,_,h1,h2⟩:=r1.lst q1 el0;refine⟨a,rfl,.inl ⟨⟨vs,SqL.of h1⟩,yjp.here (R:=yee T) p1 r1 fun μ2 H2 σ2 i ex r2=>?_⟩⟩;show match (ygj σ2 n).map (fun xs=>xs[i]?)with|none=>True|some none=>_|some (some d)=>_
   cases el:ygj σ2 n with
   |none=>trivial
   |some ys=>
    obtain⟨a',ws,ea,_,h3,h4⟩:=r2.lst (Rep.mono ex _ _ q1) el;cases ea;show match some (ys[i]?)with|none=>True|some none=>_|some (some d)=>_
    cases e:ys[i]? with
    |none=>exact⟨ws,SqL.of h3,by rw[<-h4.length];exact List.getElem?_eq_none_iff.mp e⟩
    |some d=>
     obtain⟨v,hv1,hv2⟩:=h4.get e;refine⟨⟨ws,v,SqL.of h3,hv1⟩,fun x H' y=>?_⟩;obtain⟨rfl,y⟩:=y;have:=y ws (SqL.of h3);rw[hv1]at this;cases this;exact⟨rfl,hv2⟩
 |_=>exact p1.elim
theorem zgb{n i:Nat}(h:i<n):(ycs n)[i]?=some (.int i):=by simp[ycs,h]
theorem zgc(n:Nat):(ycs n).length=n:=by simp[ycs]
theorem zlj{a:Expr}{p pos:Pos}(hgl:Gl X "range")(hm:X.mg "range" = none)(ha:FE T X a f)(hst:starEach [a] X.env=[(false,eval a X.env)]:=by rfl):FI T X tg (.Call (.Name "range" p) [a] [] pos) (yne f):=by
 intro pins s st H R I hw;refine zi4 hgl hm (zuq ha yby hst) hst pins s st H R I ?_;obtain⟨μ,ρ,σ,hE,hr,hp⟩:=hw;refine⟨μ,ρ,σ,hE,hr,hp.bind fun d σ1 μ1 v H1 _ e1 r1 q1 p1=>?_⟩;cases d with
 |int j=>
  rw[Rep]at q1;subst q1;unfold ymu at p1;dsimp only at p1;by_cases hj:zwg j=true
  ·rw[if_pos hj]at p1;simp only[zwg,zsv,Bool.and_eq_true,decide_eq_true_eq]at hj;refine⟨j,rfl,hj.1,hj.2,yjp.here (R:=yee T) p1 r1 fun μ2 H2 σ2 i ex r2=>?_⟩;show match some (ycs j.toNat)[i]? with|none=>True|some none=>_|some (some d)=>_
   by_cases hi:i<j.toNat
   ·rw[zgb hi];refine⟨hi,fun x H' y=>?_⟩;obtain⟨rfl,rfl⟩:=y;exact⟨rfl,by rw[Rep,Int.zero_add]⟩
   ·rw[List.getElem?_eq_none_iff.mpr (by rw[zgc];omega)];exact Nat.not_lt.mp hi
  ·rw[if_neg hj]at p1;exact p1.elim
 |_=>exact p1.elim
end
def ygg(k:Ev->M Fl):Fl->M Fl
 | .nx ρ2=>k ρ2
 | .ct ρ2=>k ρ2
 | .bk ρ2=>ret (.nx ρ2)
 | .rt d=>ret (.rt d)
 | .xc ρ x=>ret (.xc ρ x)
def ylm(tg:D->Ev->Option Ev)(body:Ev->M Fl):List D->Ev->M Fl
 |[],ρ=>ret (.nx ρ)
 |d::ds,ρ=>match tg d ρ with
  |none=>bad
  |some ρ1=>bnd (body ρ1) (ygg (ylm tg body ds))
def ygh(tg:D->Ev->Option Ev)(body:Ev->M Fl)(n:Nat):Nat->Nat->Ev->M Fl
 |0,_,_=>bad
 |k+1,i,ρ=>fun σ=>match ygj σ n with
  |none=>.bad
  |some xs=>match xs[i]? with
   |none=>.ok (.nx ρ) σ
   |some d=>match tg d ρ with
    |none=>.bad
    |some ρ1=>bnd (body ρ1) (ygg (ygh tg body n k (i+1))) σ
def yk1(tg:D->Ev->Option Ev)(body:Ev->M Fl)(ρ:Ev):Src->M Fl
 | .seq ds=>ylm tg body ds ρ
 | .lref n=>ygh tg body n 1001 0 ρ
def ym1(src:Ev->M Src)(tg:D->Ev->Option Ev)(body:Ev->M Fl):Ev->M Fl:=fun ρ=>xs ρ (src ρ) (yk1 tg body ρ)
section
variable{T:Tb}{X:Cx}
theorem zpk{μ1:List Addr}{H1:Hp}{σ1:Sto}{fl:Fl}{gl:Gl2}{D:Ends}{k:Ev->M Fl}{N:St->Hp->Prop}(r1:Rel T μ1 H1 σ1)(q1:RFl T μ1 H1 fl gl)(p1:yjp T EN (RFl T) μ1 H1 (ygg k fl σ1) (yjf X D))
  (hN:∀ ρ2 st2,yje T μ1 H1 ρ2 st2->yjp T EN (RFl T) μ1 H1 (k ρ2 σ1) (yjf X D)->N st2 H1):yjf X { D with nx:=N,ct:=N,bk:=D.nx } gl H1:=by
 cases fl with
 |nx ρ2=>cases gl with
  |nx st2=>exact hN ρ2 st2 q1 p1
  |_=>exact q1.elim
 |ct ρ2=>cases gl with
  |ct st2=>exact hN ρ2 st2 q1 p1
  |_=>exact q1.elim
 |bk ρ2=>cases gl with
  |bk st2=>have z:yjf X D (Gl2.nx st2) H1:=yjp.here (g:=Gl2.nx st2) (d:=Fl.nx ρ2) p1 r1 q1;exact z
  |_=>exact q1.elim
 |rt d2=>cases gl with
  |rt v2=>have z:yjf X D (Gl2.rt v2) H1:=yjp.here (g:=Gl2.rt v2) (d:=Fl.rt d2) p1 r1 q1;exact z
  |_=>exact q1.elim
 |xc ρ2 x=>cases gl with
  |xc st2 c fd2=>have z:yjf X D (Gl2.xc st2 c fd2) H1:=yjp.here (g:=Gl2.xc st2 c fd2) (d:=Fl.xc ρ2 x) p1 r1 q1;exact z
  |_=>exact q1.elim
variable{tgt iter:Expr}{body:List Stmt}{src:Ev->M Src}{t:D->Ev->Option Ev}{g:Ev->M Fl}{pos:Pos}
theorem zzu(hp:PassesOwn (model X.prog X.w) X.A X.env X.xe)(hc:X.calm=true)(hi:FI T X tgt iter src)(hg:FG T X tgt t)(hb:FSs T X body g)
  (hs:∀ x,foldedSetIterable iter X.env x=pure x:=by intro _;rfl):FS T X (.For tgt iter body [] pos) (ym1 src t g):=by
 intro pins s st H D I hq;refine ycj hp hc hi hg hb hs pins s st H D I ?_;obtain⟨μ,ρ,σ,hE,hr,hp⟩:=hq;refine⟨μ,ρ,σ,hE,hr,hp.xs hE fun src σ1 μ1 J H1 _ e1 r1 q1 p1=>?_⟩;cases src with
 |seq ds=>
  have p1':yjp T EN (RFl T) μ1 H1 (ylm t g ds ρ σ1) (yjf X D):=p1;refine⟨fun i m st2 H2=>m=ds.length - i/\∃ μ ρ σ,Ext μ1 H1 μ H2/\yje T μ H2 ρ st2/\Rel T μ H2 σ/\yjp T EN (RFl T) μ H2 (ylm t g (ds.drop i) ρ σ) (yjf X D),⟨ds.length,by simp,μ1,ρ,σ1,Ext.refl _ _,hE.mono e1,r1,by simpa using p1'⟩,?_⟩;rintro i m st2 H2 ⟨rfl,μ2,ρ2,σ2,ex,hE2,r2,p2⟩;have so:=q1 μ2 H2 σ2 i ex r2;have so':match (some ds[i]?:Option (Option L4.D))with|none=>True|some none=>J.stop i H2|some (some d)=>J.go i H2/\∀ x H',J.yld i H2 x H'->H'=H2/\Rep T μ2 H2 d x:=so
  cases ei:ds[i]? with
  |none=>
   rw[ei]at so';rw[List.drop_eq_nil_of_le (List.getElem?_eq_none_iff.mp ei)]at p2;exact .inl ⟨so',yjp.here (g:=Gl2.nx st2) p2 r2 hE2⟩
  |some d=>
   rw[ei]at so';obtain⟨hl,ed⟩:=List.getElem?_eq_some_iff.mp ei;have hd:ds.drop i=d::ds.drop (i+1):=by rw[<-ed];exact(List.drop_eq_getElem_cons hl)
   rw[hd]at p2;unfold ylm at p2;refine .inr ⟨so'.1,fun st3 H3=>∃ μ ρ σ,Ext μ1 H1 μ H3/\yje T μ H3 ρ st3/\Rel T μ H3 σ/\yjp T EN (RFl T) μ H3 (ylm t g (ds.drop (i+1)) ρ σ) (yjf X D),fun st3 H3 h=>⟨ds.length - (i+1),by omega,rfl,h⟩,fun x H3 y=>?_⟩;obtain⟨rfl,hx⟩:=so'.2 x H3 y;cases ht:t d ρ2 with
   |none=>rw[ht]at p2;exact p2.elim
   |some ρ3=>
    rw[ht]at p2;exact⟨μ2,σ2,ρ2,d,ρ3,hE2,r2,hx,ht,fun st3 hE3=>⟨μ2,ρ3,σ2,hE3,r2,p2.bind fun fl σ4 μ4 gl H4 _ e4 r4 q4 p4=>zpk r4 q4 p4 fun ρ5 st5 hE5 p5=>⟨μ4,ρ5,σ4,ex.trans e4,hE5,r4,p5⟩⟩⟩
 |lref n=>
  have p1':yjp T EN (RFl T) μ1 H1 (ygh t g n 1001 0 ρ σ1) (yjf X D):=p1;refine⟨fun i m st2 H2=>∃ μ ρ σ,Ext μ1 H1 μ H2/\yje T μ H2 ρ st2/\Rel T μ H2 σ/\yjp T EN (RFl T) μ H2 (ygh t g n m i ρ σ) (yjf X D),⟨1001,μ1,ρ,σ1,Ext.refl _ _,hE.mono e1,r1,p1'⟩,?_⟩;rintro i m st2 H2 ⟨μ2,ρ2,σ2,ex,hE2,r2,p2⟩;cases m with
  |zero=>exact p2.elim
  |succ m=>
   unfold ygh at p2;have so:=q1 μ2 H2 σ2 i ex r2;have so':match ((ygj σ2 n).map fun xs=>xs[i]?:Option (Option L4.D))with|none=>True|some none=>J.stop i H2|some (some d)=>J.go i H2/\∀ x H',J.yld i H2 x H'->H'=H2/\Rep T μ2 H2 d x:=so
   cases el:ygj σ2 n with
   |none=>simp only[el]at p2;exact p2.elim
   |some xs=>
    simp only[el]at p2 so';cases ei:xs[i]? with
    |none=>
     simp only[ei,Option.map_some]at p2 so';exact .inl ⟨so',yjp.here (g:=Gl2.nx st2) p2 r2 hE2⟩
    |some d=>
     simp only[ei,Option.map_some]at p2 so';refine .inr ⟨so'.1,fun st3 H3=>∃ μ ρ σ,Ext μ1 H1 μ H3/\yje T μ H3 ρ st3/\Rel T μ H3 σ/\yjp T EN (RFl T) μ H3 (ygh t g n m (i+1) ρ σ) (yjf X D),fun st3 H3 h=>⟨m,Nat.lt_succ_self _,h⟩,fun x H3 y=>?_⟩;obtain⟨rfl,hx⟩:=so'.2 x H3 y;cases ht:t d ρ2 with
     |none=>simp only[ht]at p2;exact p2.elim
     |some ρ3=>
      simp only[ht]at p2;exact⟨μ2,σ2,ρ2,d,ρ3,hE2,r2,hx,ht,fun st3 hE3=>⟨μ2,ρ3,σ2,hE3,r2,p2.bind fun fl σ4 μ4 gl H4 _ e4 r4 q4 p4=>zpk r4 q4 p4 fun ρ5 st5 hE5 p5=>⟨μ4,ρ5,σ4,ex.trans e4,hE5,r4,p5⟩⟩⟩
end
mutual
def cl:D->Bool
 | .tup xs=>clL xs
 | .lst xs=>clL xs
 | .dic _ xs=>clL xs
 | .obj _ _ xs=>clL xs
 | .ref _=>false
 | .non=>true
 | .bl _=>true
 | .int _=>true
 | .str _=>true
 | .scr _=>true
 | .exn _=>true
def clL:List D->Bool
 |[]=>true
 |d::ds=>cl d && clL ds
end
def fzL(f:D->Option D):List D->Option (List D)
 |[]=>some []
 |d::ds=>match f d,fzL f ds with
  |some x,some xs=>some (x::xs)
  |_,_=>none
def fz(k:Nat)(σ:Sto):Nat->D->Option D
 |0,d=>if cl d=true then some d else match d with
  | .ref n=>if n<k then some (.ref n)else none
  |_=>none
 |m+1,d=>if cl d=true then some d else match d with
  | .ref n=>if n<k then some (.ref n)else match σ[n]? with
   |some (.lst xs)=>(fzL (fz k σ m) xs).map .lst
   |some (.dic kvs)=>(fzL (fz k σ m) (kvs.map (·.2))).map (.dic (kvs.map (·.1)))
   |some (.ins c fs)=>(fzL (fz k σ m) (fs.map (·.2))).map (.obj c (fs.map (·.1)))
   |none=>none
  | .tup xs=>(fzL (fz k σ m) xs).map .tup
  | .lst xs=>(fzL (fz k σ m) xs).map .lst
  | .dic ks xs=>(fzL (fz k σ m) xs).map (.dic ks)
  | .obj c ns xs=>(fzL (fz k σ m) xs).map (.obj c ns)
  |_=>none
open Classical in
noncomputable def yk2(σ:Sto):Out D->Out D
 | .ok d σ'=>if σ'.take σ.length=σ then (match fz σ.length σ' 6 d with
  |some d'=>.ok d' σ
  |none=>.bad)else .bad
 | .ex x σ'=>if σ'.take σ.length=σ then .ex x σ else .bad
 | .bad=>.bad
noncomputable def frz(f:M D):M D:=fun σ=>yk2 σ (f σ)
section
variable{T:Tb}{μ μ':List Addr}{H H':Hp}{σ σ':Sto}
mutual
theorem zqv(e:∃ r,μ'=μ++r):∀ (d:D) (v:V),cl d=true->Rep T μ' H d v->Rep T μ H d v
 | .non,v,_,h=>by simpa [Rep]using h
 | .bl b,v,_,h=>by simpa [Rep]using h
 | .int i,v,_,h=>by simpa [Rep]using h
 | .str x,v,_,h=>by simpa [Rep]using h
 | .tup ds,v,c,h=>by
  rw[Rep]at h ⊢;obtain⟨p,vs,h1,h2,h3⟩:=h;exact⟨p,vs,h1,h2,zki e ds vs (by simpa [cl]using c) h3⟩
 | .scr ns,v,_,h=>by rw[Rep]at h ⊢;exact h
 | .ref n,v,c,h=>by simp[cl]at c
 | .lst ds,v,c,h=>by
  rw[Rep]at h ⊢;obtain⟨a,vs,h1,h2,h3,h4⟩:=h;exact⟨a,vs,h1,fun z=>h2 (by obtain⟨r,rfl⟩:=e;exact List.mem_append_left _ z),h3,zki e ds vs (by simpa [cl]using c) h4⟩
 | .dic ks ds,v,c,h=>by
  rw[Rep]at h ⊢;obtain⟨a,vs,h1,h2,h3,h5,h4⟩:=h;exact⟨a,vs,h1,fun z=>h2 (by obtain⟨r,rfl⟩:=e;exact List.mem_append_left _ z),h3,h5,zki e ds _ (by simpa [cl]using c) h4⟩
 | .obj k ns ds,v,c,h=>by
  rw[Rep]at h ⊢;obtain⟨a,dx,vs,h1,h2,h3,h5,h4⟩:=h;exact⟨a,dx,vs,h1,fun z=>h2 (by obtain⟨r,rfl⟩:=e;exact List.mem_append_left _ z),h3,h5,zki e ds _ (by simpa [cl]using c) h4⟩
 | .exn k,v,_,h=>by
  rw[Rep]at h ⊢;obtain⟨a,dd,h1,h2,h3,h4⟩:=h;exact⟨a,dd,h1,fun z=>h2 (by obtain⟨r,rfl⟩:=e;exact List.mem_append_left _ z),h3,fun n q=>let ⟨dN,q1,q2,q3⟩:=h4 n q;⟨dN,q1,fun z=>q2 (by obtain⟨r,rfl⟩:=e;exact List.mem_append_left _ z),q3⟩⟩
theorem zki(e:∃ r,μ'=μ++r):∀ (ds:List D) (vs:List V),clL ds=true->yjv T μ' H ds vs->yjv T μ H ds vs
 |[],vs,_,h=>by simpa [yjv]using h
 |d::ds,vs,c,h=>by
  rw[yjv]at h ⊢;obtain⟨v,r,h1,h2,h3⟩:=h;have c':cl d=true/\clL ds=true:=by simpa [clL,Bool.and_eq_true]using c
  exact⟨v,r,h1,zqv e d v c'.1 h2,zki e ds r c'.2 h3⟩
end
mutual
theorem Rep.down(e:∃ r,μ'=μ++r):∀ (d:D) (v0 v:V),Rep T μ H d v0->Rep T μ' H' d v->Rep T μ H' d v
 | .non,v0,v,_,h=>by simpa [Rep]using h
 | .bl b,v0,v,_,h=>by simpa [Rep]using h
 | .int i,v0,v,_,h=>by simpa [Rep]using h
 | .str x,v0,v,_,h=>by simpa [Rep]using h
 | .tup ds,v0,v,c,h=>by
  rw[Rep]at h c ⊢;obtain⟨p,vs,h1,h2,h3⟩:=h;obtain⟨p0,vs0,_,_,c3⟩:=c;exact⟨p,vs,h1,h2,yjv.down e ds vs0 vs c3 h3⟩
 | .scr ns,v0,v,_,h=>by rw[Rep]at h ⊢;exact h
 | .ref n,v0,v,c,h=>by
  rw[Rep]at h c ⊢;obtain⟨a,h1,h2⟩:=h;obtain⟨b,_,c2⟩:=c;refine⟨a,h1,?_⟩;obtain⟨r,rfl⟩:=e;rw[List.getElem?_append_left (List.getElem?_eq_some_iff.mp c2).1]at h2;exact h2
 | .lst ds,v0,v,c,h=>by
  rw[Rep]at h c ⊢;obtain⟨a,vs,h1,h2,h3,h4⟩:=h;obtain⟨_,vs0,_,_,_,c4⟩:=c;exact⟨a,vs,h1,fun z=>h2 (by obtain⟨r,rfl⟩:=e;exact List.mem_append_left _ z),h3,yjv.down e ds vs0 vs c4 h4⟩
 | .dic ks ds,v0,v,c,h=>by
  rw[Rep]at h c ⊢;obtain⟨a,vs,h1,h2,h3,h5,h4⟩:=h;obtain⟨_,vs0,_,_,_,_,c4⟩:=c;exact⟨a,vs,h1,fun z=>h2 (by obtain⟨r,rfl⟩:=e;exact List.mem_append_left _ z),h3,h5,yjv.down e ds _ _ c4 h4⟩
 | .obj k ns ds,v0,v,c,h=>by
  rw[Rep]at h c ⊢;obtain⟨a,dx,vs,h1,h2,h3,h5,h4⟩:=h;obtain⟨_,_,vs0,_,_,_,_,c4⟩:=c;exact⟨a,dx,vs,h1,fun z=>h2 (by obtain⟨r,rfl⟩:=e;exact List.mem_append_left _ z),h3,h5,yjv.down e ds _ _ c4 h4⟩
 | .exn k,v0,v,_,h=>by
  rw[Rep]at h ⊢;obtain⟨a,dd,h1,h2,h3,h4⟩:=h;exact⟨a,dd,h1,fun z=>h2 (by obtain⟨r,rfl⟩:=e;exact List.mem_append_left _ z),h3,fun n q=>let ⟨dN,q1,q2,q3⟩:=h4 n q;⟨dN,q1,fun z=>q2 (by obtain⟨r,rfl⟩:=e;exact List.mem_append_left _ z),q3⟩⟩
theorem yjv.down(e:∃ r,μ'=μ++r):∀ (ds:List D) (vs0 vs:List V),yjv T μ H ds vs0->yjv T μ' H' ds vs->yjv T μ H' ds vs
 |[],vs0,vs,_,h=>by simpa [yjv]using h
 |d::ds,vs0,vs,c,h=>by
  rw[yjv]at h c ⊢;obtain⟨v,r,h1,h2,h3⟩:=h;obtain⟨v0,r0,_,c2,c3⟩:=c;exact⟨v,r,h1,Rep.down e d v0 v c2 h2,yjv.down e ds r0 r c3 h3⟩
end
theorem zex{α:Type}(e:∃ r,μ'=μ++r):∀ {xs:List (α × D)} {ys zs:List (α × V)},Paired (fun(p:α × D) (q:α × V)=>p.1=q.1/\Rep T μ H p.2 q.2) xs zs->Paired (fun(p:α × D) (q:α × V)=>p.1=q.1/\Rep T μ' H' p.2 q.2) xs ys->Paired (fun(p:α × D) (q:α × V)=>p.1=q.1/\Rep T μ H' p.2 q.2) xs ys
 |_,_,_,.nil,.nil=>.nil
 |_,_,_,.cons a b,.cons c d=>.cons ⟨c.1,Rep.down e _ _ _ a.2 c.2⟩ (zex e b d)
theorem ObR.down(e:∃ r,μ'=μ++r){a:Addr}:∀ {o:Ob},ObR T μ H a o->ObR T μ' H' a o->ObR T μ H' a o
 | .lst ds,⟨_,_,c⟩,⟨vs,h,r⟩=>⟨vs,h,yjv.down e _ _ _ c r⟩
 | .dic kvs,⟨_,_,c⟩,⟨vs,h,r⟩=>⟨vs,h,zex e c r⟩
 | .ins c fs,⟨_,_,_,c'⟩,⟨dx,vs,h,r⟩=>⟨dx,vs,h,zex e c' r⟩
theorem Rel.down(r0:Rel T μ H σ)(r:Rel T μ' H' σ')(e:Ext μ H μ' H')(ht:σ'.take σ.length=σ):Rel T μ H' σ/\Ext μ H μ H':=by
 refine⟨⟨r0.len,r0.nd,fun n o h=>?_⟩,⟨⟨[],by simp⟩,e.tup,e.frz,fun p o h n=>⟨(e.keep p o h n).1,n⟩⟩⟩;obtain⟨a,h1,h2⟩:=r0.obs n o h;have h':σ'[n]?=some o:=by
  have hl:=(List.getElem?_eq_some_iff.mp h).1;rw[<-ht,List.getElem?_take_of_lt hl]at h;exact h
 obtain⟨b,h3,h4⟩:=r.obs n o h';have eb:=e.get h1;rw[h3]at eb;cases eb;exact⟨a,h1,h2.down e.pre h4⟩
theorem zge{α:Type}:∀ {xs:List (α × D)} {ys:List (α × V)},Paired (fun(p:α × D) (q:α × V)=>p.1=q.1/\Rep T μ H p.2 q.2) xs ys->ys.map (·.1)=xs.map (·.1)/\yjv T μ H (xs.map (·.2)) (ys.map (·.2))
 |_,_,.nil=>⟨rfl,yjv.nil⟩
 |_,_,.cons a b=>by
  obtain⟨h1,h2⟩:=zge b;exact⟨by simp[h1,a.1],yjv.cons a.2 h2⟩
theorem zsp{f:D->Option D}(hf:∀ d d' v,f d=some d'->Rep T μ' H d v->Rep T μ H d' v):∀ (ds ds':List D) (vs:List V),fzL f ds=some ds'->yjv T μ' H ds vs->yjv T μ H ds' vs
 |[],ds',vs,h,r=>by cases h;simpa [yjv]using r
 |d::ds,ds',vs,h,r=>by
  unfold fzL at h;cases e1:f d with
  |none=>rw[e1]at h;cases h
  |some x=>
   cases e2:fzL f ds with
   |none=>rw[e1,e2]at h;cases h
   |some xs=>
    rw[e1,e2]at h;cases h;rw[yjv]at r;obtain⟨v,w,rfl,h2,h3⟩:=r;exact yjv.cons (hf d x v e1 h2) (zsp hf ds xs w e2 h3)
theorem zz4(e:∃ r,μ'=μ++r)(r:Rel T μ' H σ'):∀ (m:Nat) (d d':D) (v:V),fz μ.length σ' m d=some d'->Rep T μ' H d v->Rep T μ H d' v:=by
 have old:∀ n v,n<μ.length->Rep T μ' H (.ref n) v->Rep T μ H (.ref n) v:=fun n v hn h=>by
  rw[Rep]at h ⊢;obtain⟨a,h1,h2⟩:=h;obtain⟨q,rfl⟩:=e;rw[List.getElem?_append_left hn]at h2;exact⟨a,h1,h2⟩
 intro m;induction m with
 |zero=>
  intro d d' v h hr;unfold fz at h;by_cases hc:cl d=true
  ·rw[if_pos hc]at h;cases h;exact zqv e _ _ hc hr
  ·rw[if_neg hc]at h;cases d with
   |ref n=>
    dsimp only at h;by_cases hn:n<μ.length
    ·rw[if_pos hn]at h;cases h;exact old n v hn hr
    ·rw[if_neg hn]at h;cases h
   |_=>cases h
 |succ m ih=>
  intro d d' v h hr;unfold fz at h;by_cases hc:cl d=true
  ·rw[if_pos hc]at h;cases h;exact zqv e _ _ hc hr
  ·rw[if_neg hc]at h;have go:=zsp (T:=T) (μ:=μ) (μ':=μ') (H:=H) (f:=fz μ.length σ' m) (fun d d' v a b=>ih d d' v a b);cases d with
   |ref n=>
    dsimp only at h;by_cases hn:n<μ.length
    ·rw[if_pos hn]at h;cases h;exact old n v hn hr
    ·rw[if_neg hn]at h;cases es:σ'[n]? with
     |none=>rw[es]at h;cases h
     |some o=>
      rw[es]at h;obtain⟨a,rfl,ha,hob⟩:=r.at hr es;have out:a ∉ μ:=fun z=>by
       obtain⟨i,hi⟩:=List.getElem?_of_mem z;obtain⟨q,rfl⟩:=e;have hl:=(List.getElem?_eq_some_iff.mp hi).1;have:=zm9 r.nd (i:=i) (j:=n) (by rw[List.getElem?_append_left hl];exact hi) ha;omega
      cases o with
      |lst xs=>
       obtain⟨ys,h1,h2⟩:=Option.map_eq_some_iff.mp h;subst h2;obtain⟨vs,h3,h4⟩:=hob;rw[Rep];exact⟨a,vs,rfl,out,h3,go xs ys vs h1 h4⟩
      |dic kvs=>
       obtain⟨ys,h1,h2⟩:=Option.map_eq_some_iff.mp h;subst h2;obtain⟨vs,h3,h4⟩:=hob;obtain⟨h5,h6⟩:=zge h4;rw[Rep];exact⟨a,vs,rfl,out,(.inl h3),h5,go _ ys _ h1 h6⟩
      |ins c fs=>
       obtain⟨ys,h1,h2⟩:=Option.map_eq_some_iff.mp h;subst h2;obtain⟨dx,vs,h3,h4⟩:=hob;obtain⟨h5,h6⟩:=zge h4;rw[Rep];exact⟨a,dx,vs,rfl,out,h3,h5,go _ ys _ h1 h6⟩
   |tup xs=>
    obtain⟨ys,h1,h2⟩:=Option.map_eq_some_iff.mp h;subst h2;rw[Rep]at hr ⊢;obtain⟨p,vs,e1,e2,e3⟩:=hr;exact⟨p,vs,e1,e2,go xs ys vs h1 e3⟩
   |lst xs=>
    obtain⟨ys,h1,h2⟩:=Option.map_eq_some_iff.mp h;subst h2;rw[Rep]at hr ⊢;obtain⟨p,vs,e1,e0,e2,e3⟩:=hr;exact⟨p,vs,e1,fun z=>e0 (by obtain⟨r,rfl⟩:=e;exact List.mem_append_left _ z),e2,go xs ys vs h1 e3⟩
   |dic ks xs=>
    obtain⟨ys,h1,h2⟩:=Option.map_eq_some_iff.mp h;subst h2;rw[Rep]at hr ⊢;obtain⟨p,vs,e1,e0,e2,e4,e3⟩:=hr;exact⟨p,vs,e1,fun z=>e0 (by obtain⟨r,rfl⟩:=e;exact List.mem_append_left _ z),e2,e4,go xs ys _ h1 e3⟩
   |obj c ks xs=>
    obtain⟨ys,h1,h2⟩:=Option.map_eq_some_iff.mp h;subst h2;rw[Rep]at hr ⊢;obtain⟨p,dx,vs,e1,e0,e2,e4,e3⟩:=hr;exact⟨p,dx,vs,e1,fun z=>e0 (by obtain⟨r,rfl⟩:=e;exact List.mem_append_left _ z),e2,e4,go xs ys _ h1 e3⟩
   |_=>cases h
theorem yjp.frz{E:XK}{f:M D}{Q:V->Hp->Prop}(r:Rel T μ H σ)(h:yjp T E (Rep T) μ H (frz f σ) Q):yjp T E (Rep T) μ H (f σ) Q:=by
 unfold L4.frz at h;cases e:f σ with
 |bad=>rw[e]at h;exact h
 |ex x σ1=>
  rw[e]at h;unfold yk2 at h;dsimp only at h;by_cases ht:σ1.take σ.length=σ
  ·rw[if_pos ht]at h;intro μ1 H1 e1 r1;obtain⟨r2,e2⟩:=Rel.down r r1 e1 ht;exact h μ H1 e2 r2
  ·rw[if_neg ht]at h;exact h.elim
 |ok d σ1=>
  rw[e]at h;unfold yk2 at h;dsimp only at h;by_cases ht:σ1.take σ.length=σ
  ·rw[if_pos ht]at h;cases ef:fz σ.length σ1 6 d with
   |none=>rw[ef]at h;exact h.elim
   |some d'=>
    rw[ef]at h;intro μ1 v H1 e1 r1 p1;obtain⟨r2,e2⟩:=Rel.down r r1 e1 ht;exact h μ v H1 e2 r2 (zz4 e1.pre r1 6 d d' v (by rw[r.len];exact ef) p1)
  ·rw[if_neg ht]at h;exact h.elim
end
noncomputable def ykp(f:Ev->M D):Ev->M D:=fun ρ=>frz (f ρ)
theorem zy4{T:Tb}{X:Cx}{e:Expr}{f:Ev->M D}(h:FE T X e f):FE T X e (ykp f):=by
 intro pins s st H Q I hw;obtain⟨μ,ρ,σ,hE,hr,hp⟩:=hw;exact h pins s st H Q I ⟨μ,ρ,σ,hE,hr,yjp.frz hr hp⟩
end L4
namespace L4
open PySem PySem.Spec PyProof.Rows L2
def DK(h h':Heap):Prop:=∀ (a:Nat) o,h.objs[a]?=some o->∃ o':Obj,h'.objs[a]?=some o'/\o'.dict=o.dict
theorem DK.refl(h:Heap):DK h h:=fun _ o e=>⟨o,e,rfl⟩
theorem DK.trans{h1 h2 h3:Heap}(x:DK h1 h2)(y:DK h2 h3):DK h1 h3:=fun a o e=>by
 obtain⟨o',e',q⟩:=x a o e;obtain⟨o'',e'',q'⟩:=y a o' e';exact⟨o'',e'',q'.trans q⟩
theorem DK.push(h:Heap)(o:Obj):DK h (h.push o):=fun a u e=>by
 obtain⟨objs,l⟩:=h;have e:objs[a]?=some u:=e;have hl:=(Array.getElem?_eq_some_iff.mp e).1;refine⟨u,?_,rfl⟩;show (objs.push o)[a]?=some u;rw[Array.getElem?_push_lt hl];exact(Array.getElem?_eq_getElem hl).symm.trans e
theorem DK.update(h:Heap)(b:Addr){f:Obj->Obj}(hf:∀ o,(f o).dict=o.dict):DK h (h.update b f):=fun a u e=>by
 obtain⟨objs,l⟩:=h;have e:objs[a]?=some u:=e;show ∃ o':Obj,(objs.modify b f)[a]?=some o'/\_;rw[Array.getElem?_modify];by_cases hb:b=a
 ·rw[if_pos hb,e];exact⟨f u,rfl,hf u⟩
 ·rw[if_neg hb];exact⟨u,e,rfl⟩
theorem DK.get{h h':Heap}(x:DK h h'){a:Addr}{o o':Obj}(e:h.get? a=some o)(e':h'.get? a=some o'):o'.dict=o.dict:=by
 obtain⟨u,q1,q2⟩:=x a o ((Heap.get?_eq_some _ _ _).1 e).1;have:=((Heap.get?_eq_some _ _ _).1 e').1;have z:some u=some o':=q1.symm.trans this;cases z;exact q2
structure KD{α:Type}(t:Sem α):Prop where
 out:∀ (M:Model) (Γ:PySem.Ctx) (Q:α->Pos->Shared->Prop) (E:Value->Pos->Shared->Prop) (p:Pos) (s:Shared),Sem.wp M Γ t Q E p s->Sem.wp M Γ t (fun a p' s'=>Q a p' s'/\DK s.heap s'.heap) (fun e p' s'=>E e p' s'/\DK s.heap s'.heap) p s
namespace KD
variable{α β:Type}
theorem pur(a:α):KD (Pure.pure a:Sem α):=⟨fun _ _ _ _ _ s h=>⟨h,.refl _⟩⟩
theorem uns(w:String):KD (PySem.unsupported w:Sem α):=⟨fun _ _ _ _ _ _ h=>h⟩
theorem bnd{m:Sem α}{f:α->Sem β}(hm:KD m)(hf:∀ a,KD (f a)):KD (m >>= f):=⟨fun M Γ Q E p s h=>by
 rw[Sem.wp_bind']at h ⊢;refine Sem.wp_mono M Γ m (fun a p' s' z=>?_) (fun _ _ _ z=>z) p s (hm.out M Γ _ _ p s h);exact Sem.wp_mono M Γ (f a) (fun _ _ _ q=>⟨q.1,z.2.trans q.2⟩) (fun _ _ _ q=>⟨q.1,z.2.trans q.2⟩) p' s' ((hf a).out M Γ _ _ p' s' z.1)⟩
theorem ite'{c:Prop}[Decidable c]{t u:Sem α}(ht:KD t)(hu:KD u):KD (if c then t else u):=by split<;>assumption
theorem ld(a:Addr):KD (PySem.load a):=⟨fun _ _ _ _ _ _ h=>by obtain⟨o,ho,h⟩:=h;exact⟨o,ho,h,.refl _⟩⟩
theorem upd(a:Addr){f:Obj->Obj}(hf:∀ o,(f o).dict=o.dict):KD (PySem.update a f):=⟨fun _ _ _ _ _ _ h=>⟨h.1,h.2,.update _ _ hf⟩⟩
theorem stk:KD PySem.stack:=⟨fun M Γ Q E p s h=>by
 unfold PySem.stack at h ⊢;rw[Sem.wp_stack]at h ⊢;exact⟨h,.refl _⟩⟩
theorem alc(o:Obj):KD (PySem.alloc o):=⟨fun _ _ _ _ _ _ h=>⟨h,.push _ _⟩⟩
theorem fld(v:Value)(i:Nat):KD (PySem.field v i):=⟨fun _ Γ Q E p s h=>by
 rw[wp_field_iff]at h ⊢;obtain⟨a,o,vs,x,e1,e2,e3,e4,h⟩:=h;exact⟨a,o,vs,x,e1,e2,e3,e4,h,.refl _⟩⟩
theorem set(v:Value)(i:Nat)(x:Value):KD (PySem.setField v i x):=⟨fun _ Γ Q E p s h=>by
 rw[wp_setField_iff]at h ⊢;obtain⟨a,o,vs,e1,e2,e3,e4,h⟩:=h;exact⟨a,o,vs,e1,e2,e3,e4,h,.update _ _ fun o=>by obtain⟨c,d,dt,sl⟩:=o;cases dt<;>rfl⟩⟩
end KD
theorem yah(env:Env)(l:List Env):KD (behindIsImport env l):=by unfold behindIsImport;(repeat' with_reducible first|assumption|exact KD.pur _|exact KD.uns _|exact KD.fld _ _|exact KD.set _ _ _|exact KD.ld _|exact KD.upd _ (fun _=>rfl)|exact KD.stk|exact KD.alc _|apply KD.ite'|apply KD.bnd|intro _|split)
theorem yaj:KD underTheClaimsCaller:=by unfold underTheClaimsCaller;(repeat' with_reducible first|assumption|exact KD.pur _|exact KD.uns _|exact KD.fld _ _|exact KD.set _ _ _|exact KD.ld _|exact KD.upd _ (fun _=>rfl)|exact KD.stk|exact KD.alc _|apply KD.ite'|apply KD.bnd|intro _|split)
theorem zs6(env:Env)(i:Bool)(l:List Env):KD (keptBack env i l):=by
 have:=yaj;cases l<;>unfold keptBack<;>(repeat' with_reducible first|assumption|exact KD.pur _|exact KD.uns _|exact KD.fld _ _|exact KD.set _ _ _|exact KD.ld _|exact KD.upd _ (fun _=>rfl)|exact KD.stk|exact KD.alc _|apply KD.ite'|apply KD.bnd|intro _|split)
theorem zmn:∀ l:List Env,KD (readyFrames l)
 |[]=>KD.pur _
 |env::l=>by
  have ih:=zmn l;have h1:=yah env l;have h2:=fun i=>zs6 env i l;unfold readyFrames
  (repeat' with_reducible first|assumption|exact KD.pur _|exact KD.uns _|exact KD.fld _ _|exact KD.set _ _ _|exact KD.ld _|exact KD.upd _ (fun _=>rfl)|exact KD.stk|exact KD.alc _|apply KD.ite'|apply KD.bnd|intro _|split)
  all_goals first|exact h2 _|skip
theorem zs8(l:List Env):KD (frameObject l):=by
 cases l with
 |nil=>exact KD.pur _
 |cons env l=>
  have:=zmn (env::l);unfold frameObject
  (repeat' with_reducible first|assumption|exact KD.pur _|exact KD.uns _|exact KD.fld _ _|exact KD.set _ _ _|exact KD.ld _|exact KD.upd _ (fun _=>rfl)|exact KD.stk|exact KD.alc _|apply KD.ite'|apply KD.bnd|intro _|split)
theorem zs7:KD frameEnvs:=by unfold frameEnvs;(repeat' with_reducible first|assumption|exact KD.pur _|exact KD.uns _|exact KD.fld _ _|exact KD.set _ _ _|exact KD.ld _|exact KD.upd _ (fun _=>rfl)|exact KD.stk|exact KD.alc _|apply KD.ite'|apply KD.bnd|intro _|split)
theorem zml(env:Env):KD (PySem.frameOf env):=by
 have h1:=zs7;have h2:=zs8;unfold PySem.frameOf
 (repeat' with_reducible first|assumption|exact KD.pur _|exact KD.uns _|exact KD.fld _ _|exact KD.set _ _ _|exact KD.ld _|exact KD.upd _ (fun _=>rfl)|exact KD.stk|exact KD.alc _|apply KD.ite'|apply KD.bnd|intro _|split)
 all_goals first|exact h2 _|skip
theorem zmm(f:Addr)(b:Bool):KD (entryPlaceOf f b):=by unfold entryPlaceOf;(repeat' with_reducible first|assumption|exact KD.pur _|exact KD.uns _|exact KD.fld _ _|exact KD.set _ _ _|exact KD.ld _|exact KD.upd _ (fun _=>rfl)|exact KD.stk|exact KD.alc _|apply KD.ite'|apply KD.bnd|intro _|split)
theorem zmk(a b c d e:Value)(l:List Value):KD (EntryCells.newEntry a b c d e l):=by
 unfold EntryCells.newEntry newFields newObj newObjAsIs;dsimp only
 (repeat' with_reducible first|assumption|exact KD.pur _|exact KD.uns _|exact KD.fld _ _|exact KD.set _ _ _|exact KD.ld _|exact KD.upd _ (fun _=>rfl)|exact KD.stk|exact KD.alc _|apply KD.ite'|apply KD.bnd|intro _|split)
theorem zs9(e:Value)(env:Env):KD (noteFrame e env):=by
 have h1:=zml env;have h2:=zmm;have h3:=zmk;unfold noteFrame
 (repeat' with_reducible first|assumption|exact KD.pur _|exact KD.uns _|exact KD.fld _ _|exact KD.set _ _ _|exact KD.ld _|exact KD.upd _ (fun _=>rfl)|exact KD.stk|exact KD.alc _|apply KD.ite'|apply KD.bnd|intro _|split)
 all_goals first|exact h2 _ _|exact h3 _ _ _ _ _ _|skip
theorem zid(e:Value)(f:Option Addr):KD (setFlight e f):=by unfold setFlight;(repeat' with_reducible first|assumption|exact KD.pur _|exact KD.uns _|exact KD.fld _ _|exact KD.set _ _ _|exact KD.ld _|exact KD.upd _ (fun _=>rfl)|exact KD.stk|exact KD.alc _|apply KD.ite'|apply KD.bnd|intro _|split)
theorem yi5{α:Type}{M:Model}{A:Around}{t:Sem α}{Q:α->Shared->Prop}{E:Value->Shared->Prop}{s:Shared}(k:KD t)(h:wpAny M A t Q E s):wpAny M A t (fun a s'=>Q a s'/\DK s.heap s'.heap) E s:=
 fun Γ p hΓ=>Sem.wp_mono M Γ t (fun _ _ _ z=>z) (fun _ _ _ z=>z.1) p s (k.out M Γ _ _ p s (h Γ p hΓ))
section
variable{P:Program}{w:World}{H H':Hp}{h h':Heap}{a:Addr}{o:HO}
theorem zer(x:yd7 P w H h a o):∃ u,h.get? a=some u:=by
 cases o with
 |lst xs=>obtain⟨_,_,_,_,e⟩:=x;exact⟨_,e⟩
 |tup xs=>obtain⟨_,_,_,ob,e,_⟩:=x;exact⟨_,e⟩
 |dK kvs=>obtain⟨_,_,_,_,o,_,_,e,_⟩:=x;exact⟨_,e⟩
 |dT kvs=>obtain⟨_,_,_,_,o,_,_,e,_⟩:=x;exact⟨_,e⟩
 |set S n=>obtain⟨o,_,_,_,e,_⟩:=x;exact⟨_,e⟩
 |ins C dx fs=>obtain⟨_,_,_,e,_⟩:=x;exact⟨_,e⟩
 |own y=>obtain⟨_,e⟩:=x;exact⟨_,e⟩
 |xd fs=>obtain⟨_,⟨_,_,_,e,_⟩,_⟩:=x;exact⟨_,e⟩
 |rng lo hi=>obtain⟨_,_,_,e⟩:=x;exact⟨_,e⟩
 |frz ob u=>obtain⟨e,_⟩:=x;exact⟨_,e⟩
 |tbl ps=>exact⟨_,x⟩
 |met f y=>exact⟨_,x⟩
 |ext φ=>obtain⟨_,⟨_,e⟩,_⟩:=x;exact⟨_,e⟩
theorem zz7(x:HOk P w H h)(k:∀ b o u,H b=some o->h.get? b=some u->h'.get? b=some u):HOk P w H h':=fun b o e=>
 (x b o e).stay (fun c v hc q=>by
  rcases hc with rfl|hc
  ·exact k _ _ _ e q
  ·exact k _ _ _ hc q) (fun _ q=>q) fun _ _ q=>q
end
section
variable{X:Cx}{pins:List (Addr × Obj)}{st:St}{H H':Hp}{s s':Shared}{cls:Value}{h':Heap}{ea:Addr}{args:List Value}{M:Model}{E:Value->Shared->Prop}{Q:Unit->Shared->Prop}
theorem zr5{B:Heap}{l:List Env}{a0:Value}{h:Heap}(x:Heap.FlyingW B l ea cls a0 h):yjg B l ea cls a0 h:=⟨x.1,x.2.1,x.2.2.1,.inl ⟨.none,x.2.2.2.at⟩⟩
theorem yjg.there{B:Heap}{l:List Env}{a0:Value}{h:Heap}(x:yjg B l ea cls a0 h):∃ ob,h.get? ea=some ob/\ob.cls=cls:=by
 obtain⟨_,_,_,⟨fl,q⟩|⟨oe,vs,q1,q2,_⟩⟩:=x
 ·exact q.there
 ·exact⟨oe,q1,q2⟩
theorem FdH.next{fd:Option Nat}{B h h' h0:Heap}{H':Hp}(x:FdH fd ea B h h0 H')(k:DK h h')(e:∃ o,h'.get? ea=some o):FdH fd ea B h' h0 H':=fun n q=>by
 obtain⟨dN,oD,oe,q1,q2,q3⟩:=x n q;obtain⟨o,e⟩:=e;exact⟨dN,oD,o,e,(k.get q1 e).trans q2,q3⟩
theorem ztf{A:Around}{B:Heap}{l:List Env}{a0:Value}(x:yjg B l ea cls a0 s.heap)(hQ:∀ h1,yjg B l ea cls a0 h1->s.heap.UpToSlots h1->DK s.heap h1->Q () { s with heap:=h1 }):wpAny M A (setFlight (.ref ea) none) Q E s:=by
 obtain⟨f1,f2,f3,⟨fl,f4⟩|f4⟩:=x
 ·have k:wpAny M A (setFlight (.ref ea) none) (fun _ s'=>∃ h1,s'={ s with heap:=h1 }/\yjg B l ea cls a0 h1/\s.heap.UpToSlots h1) E s:=
   wpAny_setFlight_noneW f1 f3 f4 fun h1 k1 k2 k3 k4=>⟨h1,rfl,zr5 ⟨k1,f2,k2,k3⟩,fun b o e n=>⟨o.slots,k4 b o e n⟩⟩
  exact wpAny_mono (yi5 (zid _ _) k) (fun _ _ ⟨⟨h1,e,q1,q2⟩,q3⟩=>by subst e;exact hQ h1 q1 q2 q3) fun _ _ z=>z
 ·obtain⟨oe,vs,he,hc,hd,hz,h0,h1⟩:=id f4;unfold setFlight;refine wpAny_bind (wpAny_field he hd h1 ?_);rw[if_neg (show ¬ ((Value.none != Value.none)=true)from by decide)];exact wpAny_pure (hQ s.heap ⟨f1,f2,f3,.inr f4⟩ (.refl _) (.refl _))
theorem zto{A:Around}{B:Heap}{env:Env}{outer:List Env}{L:Addr}{a0:Value}(hfr:A.frames=some (env::outer))(hf:env.frame=some L)(x:yjg B (env::outer) ea cls a0 s.heap)
  (hQ:∀ h1,Heap.HeldW B (env::outer) ea cls a0 L h1->s.heap.UpToSlots h1->Q () { s with heap:=h1 }):wpAny M A (noteFrame (.ref ea) env) Q E s:=by
 obtain⟨f1,f2,f3,⟨fl,f4⟩|f4⟩:=x
 ·by_cases hm:fl=rawInt L
  ·subst hm;exact wpAny_noteFrame_againW hf f4 (hQ s.heap ⟨f1,f2,f3,f4⟩ (.refl _))
  ·obtain⟨oe,vs,T,oT,ts,he,hc,hd,h1,hnT,hTe,hT,hdT,h3⟩:=f4;have sz:3<ts.size:=(Array.getElem?_eq_some_iff.mp h3).1;have oth:∀ b,b≠T->(s.heap.update T (Obj.mapFields (·.setIfInBounds 3 Value.none))).get? b=s.heap.get? b:=fun b hb=>Heap.get?_update_other _ _ (Ne.symm hb);have nr:∀ b o,s.heap.get? b=some o->(∀ v,o.data≠.fields v)->b≠T:=fun b o hb hn q=>by
    rw[q,hT]at hb;cases hb;exact hn ts hdT
   have selfT:=Heap.get?_update_self (Obj.mapFields (·.setIfInBounds 3 Value.none)) hT (Obj.isFreed_of_fields (Obj.data_mapFields hdT _));have up:s.heap.UpToSlots (s.heap.update T (Obj.mapFields (·.setIfInBounds 3 Value.none))):=fun b o e n=>⟨o.slots,(oth b (nr b o e n)).trans e⟩
   have F0:Heap.FlyingW B (env::outer) ea cls a0 (s.heap.update T (Obj.mapFields (·.setIfInBounds 3 Value.none))):=
    ⟨fun b o e=>(oth b fun q=>by rw[q,hnT]at e;cases e).trans (f1 b o e),f2,f3.of_keeps fun b o e n=>⟨o,(oth b (nr b o e n)).trans e,rfl⟩,
     oe,vs,T,_,_,(oth ea (Ne.symm hTe)).trans he,hc,hd,h1,hnT,hTe,selfT,Obj.data_mapFields hdT _,by simp[sz]⟩
   have key:=wpAny_looks_onW (M:=M) (E:=E) (Q:=Q) (s:={ s with heap:=s.heap.update T (Obj.mapFields (·.setIfInBounds 3 Value.none)) }) hfr hf F0 fun h2 q1 q2=>hQ h2 q1 (up.trans q2);intro Γ p hΓ;have k:=key Γ p hΓ;unfold noteFrame at k ⊢;simp only[hf]at k ⊢;rw[Sem.wp_bind',wp_field_iff]at k ⊢;obtain⟨a1,o1,v1,x1,e1,g1,d1,i1,k⟩:=k;cases e1;have g1':s.heap.get? ea=some o1:=(oth ea (Ne.symm hTe)).symm.trans g1;have o1e:o1=oe:=by rw[he]at g1';cases g1';rfl
   subst o1e;rw[hd]at d1;cases d1;rw[h1]at i1;cases i1;refine⟨ea,o1,vs,.ref T,rfl,he,hd,h1,?_⟩;have nn:(Value.ref T != Value.none)=true:=by simp
   simp only[nn,if_true]at k ⊢;rw[Sem.wp_bind',wp_field_iff]at k ⊢;obtain⟨a2,o2,v2,x2,e2,g2,d2,i2,k⟩:=k;cases e2;have g2':=selfT.symm.trans g2;cases g2';have d2':=(Obj.data_mapFields hdT (·.setIfInBounds 3 Value.none)).symm.trans d2;cases d2';have x2e:x2=Value.none:=by
    have:(ts.setIfInBounds 3 Value.none)[3]?=some Value.none:=by simp[sz]
    rw[this]at i2;cases i2;rfl
   subst x2e;refine⟨T,oT,ts,fl,rfl,hT,hdT,h3,?_⟩;have n1:(Value.none == rawInt L)=false:=by simp[rawInt]
   have n2:(fl == rawInt L)=false:=by
    cases q:fl == rawInt L with
    |false=>rfl
    |true=>exact absurd (beq_iff_eq.mp q) hm
   simp only[n1,n2,Bool.false_eq_true,if_false]at k ⊢;rw[Sem.wp_bind',wp_setField_iff]at k ⊢;obtain⟨a3,o3,v3,e3,g3,d3,i3,k⟩:=k;cases e3;refine⟨T,oT,ts,rfl,hT,hdT,sz,?_⟩;simp only[Heap.update_setField_twice]at k;exact k
 ·obtain⟨oe,vs,he,hc,hd,hz,h0,h1⟩:=f4;unfold noteFrame;simp only[hf];refine wpAny_bind (wpAny_field he hd h1 ?_);rw[if_neg (by decide)];refine wpAny_entryW (base:=B) (outer:=outer) (a0:=a0) hfr f3 hf he f1 f2 hd hz h0 fun h4 hN=>?_;obtain⟨k1,k2,k3,k4⟩:=hN;rw[hc]at k3;exact hQ h4 ⟨k1,f2,k2,k3⟩ k4
theorem ztp{A:Around}{B:Heap}{env:Env}{outer:List Env}{L:Addr}{a0:Value}(hfr:A.frames=some (env::outer))(hf:env.frame=some L)(x:yjg B (env::outer) ea cls a0 s.heap)
  (hQ:∀ h1,Heap.HeldW B (env::outer) ea cls a0 L h1->s.heap.UpToSlots h1->DK s.heap h1->Q () { s with heap:=h1 }):wpAny M A (noteFrame (.ref ea) env) Q E s:=by
 have k:wpAny M A (noteFrame (.ref ea) env) (fun _ s'=>∃ h1,s'={ s with heap:=h1 }/\Heap.HeldW B (env::outer) ea cls a0 L h1/\s.heap.UpToSlots h1) E s:=zto hfr hf x fun h1 q1 q2=>⟨h1,rfl,q1,q2⟩
 exact wpAny_mono (yi5 (zs9 _ _) k) (fun _ _ ⟨⟨h1,e,q1,q2⟩,q3⟩=>by subst e;exact hQ h1 q1 q2 q3) fun _ _ z=>z
theorem zz6{B:Heap}{l:List Env}{a0:Value}{L:Addr}{h:Heap}(x:Heap.HeldW B l ea cls a0 L h):yjg B l ea cls a0 h:=⟨x.1,x.2.1,x.2.2.1,.inl ⟨_,x.2.2.2⟩⟩
theorem zmv{A:Around}{B:Heap}{env:Env}{outer:List Env}{L:Addr}{a0:Value}(hfr:A.frames=some (env::outer))(hf:env.frame=some L)(x:yjg B (env::outer) ea cls a0 s.heap)
  (hQ:∀ h1,yjg B outer ea cls a0 h1->s.heap.UpToSlots h1->DK s.heap h1->Q () { s with heap:=h1 }):wpAny M A (leaving env (.ref ea)) Q E s:=by
 unfold leaving;refine wpAny_bind (ztp hfr hf x fun h1 q1 q2 q3=>?_);refine ztf (zz6 q1) fun h2 q4 q5 q6=>?_;obtain⟨k1,k2,⟨_,_,k3⟩,k4⟩:=q4;exact hQ h2 ⟨k1,k2,k3,k4⟩ (q2.trans q5) (q3.trans q6)
theorem zsc(hs:X.stack=X.env::X.outer)(hf:X.env.frame=some X.env.locals){b:Addr}:b∈frs X.stack ↔ b=X.env.locals\/b∈frs X.outer:=by
 rw[hs];unfold frs;rw[List.filterMap_cons,hf];exact List.mem_cons
theorem zzl(I:Inv X pins st H s)(hs:X.stack=X.env::X.outer)(hf:X.env.frame=some X.env.locals)(hx:X.ex=[]){h'':Heap}(un:Un (frs X.stack) [] H H' s.heap h''):Un (frs X.outer) [] X.H₀ H' X.s₀.heap h'':=by
 have nex:∀ b,b ∉ X.ex:=fun b z=>by rw[hx]at z;cases z
 have neL:∀ b o,X.s₀.heap.get? b=some o->b≠X.env.locals:=fun b o e=>Nat.ne_of_lt (Nat.lt_of_lt_of_le (Heap.lt_size e) I.ok.above);refine⟨fun b o e n hb _=>?_,fun b o e n hb _=>?_,fun b o e n _=>?_,fun b o e _=>?_,fun b xs e=>un.tups b xs (I.base.tups b xs e),fun b o u e=>un.frzs b o u (I.base.frzs b o u e),fun b ps e=>?_⟩
 ·exact un.keep b o (I.base.keep b o e n hb (nex b)) (I.base.free b o e n (nex b)) (fun z=>((zsc hs hf).mp z).elim (neL b o e) hb) (by simp)
 ·obtain⟨sl,e1⟩:=I.base.slot b o e n hb (nex b);obtain⟨sl',e2⟩:=un.slot b _ e1 (I.base.free b o e n (nex b)) ((zsc hs hf).mpr (.inr hb)) (by simp);exact⟨sl',e2⟩
 ·obtain⟨o',e1⟩:=I.base.there b o e (nex b);exact un.free b o' e1 (I.base.free b o e n (nex b)) (by simp)
 ·obtain⟨o',e1⟩:=I.base.there b o e (nex b);exact un.there b o' e1 (by simp)
 ·obtain⟨m1,e1⟩:=I.base.tbls b ps e;obtain⟨m2,e2⟩:=un.tbls b _ e1;exact⟨m1++m2,by rw[e2,Array.append_assoc]⟩
theorem zzm{P:Program}{w:World}{outer:List Env}{e:Value}{fd:Option Nat}(F:Fly P w outer H s cls fd H' e s'){h6:Heap}{B:Heap}(hB:∀ b o,s.heap.get? b=some o->H b=none->b ∉ frs outer->B.get? b=some o)(hT:∀ b o,H' b=some o->∃ ob,B.get? b=some ob)
  (hA:∀ b o,s.heap.get? b=some o->b ∉ frs outer->∃ o',B.get? b=some o') (hb0:∀ b o,B.get? b=some o->s'.heap.get? b=some o) (hb6:∀ b o,B.get? b=some o->h6.get? b=some o) (hsl:s'.heap.UpToSlots h6) (hfr:∀ b∈frs outer,∃ o,s.heap.get? b=some o/\(∀ vs,o.data≠.fields vs)/\H b=none) :
  Un (frs outer) [] H H' s.heap h6/\HOk P w H' h6:=by
 refine⟨⟨fun b o e n hb _=>hb6 b o (hB b o e n hb),fun b o e n hb hx=>?_,F.un.free,fun b o e hx=>?_,F.un.tups,F.un.frzs,F.un.tbls⟩,zz7 F.hok fun b o u e q=>?_⟩
 ·obtain⟨sl,e1⟩:=F.un.slot b o e n hb hx;obtain⟨o',e',hd,_⟩:=hfr b hb;rw[e]at e';cases e';obtain⟨sl',e2⟩:=hsl b _ e1 hd;exact⟨sl',e2⟩
 ·by_cases hb:b∈frs outer
  ·obtain⟨o',e',hd,hn⟩:=hfr b hb;rw[e]at e';cases e';obtain⟨sl,e1⟩:=F.un.slot b o e hn hb hx;obtain⟨sl',e2⟩:=hsl b _ e1 hd;exact⟨_,e2⟩
  ·obtain⟨o',e1⟩:=hA b o e hb;exact⟨o',hb6 b o' e1⟩
 ·obtain⟨ob,e1⟩:=hT b o e;have:=hb0 b ob e1;rw[q]at this;cases this;exact hb6 b _ e1
theorem zfn(I:Inv X pins st H s):∀ b∈frs X.stack,∃ o,s.heap.get? b=some o/\(∀ vs,o.data≠.fields vs)/\H b=none:=fun b hb=>by
 obtain⟨_,o,e,hd⟩:=I.stack.mem hb;exact⟨o,e,hd,I.stkFree b hb⟩
theorem zmu(I:Inv X pins st H s)(hs:X.stack=X.env::X.outer)(hf:X.env.frame=some X.env.locals)(hex:X.ex=[]){e:Value}{fd:Option Nat}(F:Fly X.prog X.w X.stack H s cls fd H' e s')
  (hQ:∀ s'',Fly X.prog X.w X.outer X.H₀ X.s₀ cls fd H' e s''->Q () s''):wpAny M X.A (leaving X.env e) Q E s':=by
 obtain⟨ea,a0,B,rfl,fl,hn,hnew,hT,hB,hA,hF⟩:=F.ex;have fl':yjg B (X.env::X.outer) ea cls a0 s'.heap:=by rw[<-hs];exact fl
 refine zmv (by rw[<-hs];exact I.ok.frames) hf fl' fun h'' x1 x2 x3=>hQ _ ?_;obtain⟨un,hok⟩:=zzm F hB hT hA fl.1 x1.1 x2 (zfn I);have nex:∀ b,b ∉ X.ex:=fun b z=>by rw[hex]at z;cases z
 have neL:∀ b o,X.s₀.heap.get? b=some o->b≠X.env.locals:=fun b o e=>Nat.ne_of_lt (Nat.lt_of_lt_of_le (Heap.lt_size e) I.ok.above);have new0:∀ b,s.heap.get? b=none->X.s₀.heap.get? b=none:=fun b e=>by
  cases q:X.s₀.heap.get? b with
  |none=>rfl
  |some u=>obtain⟨v,e'⟩:=I.base.there _ _ q (nex _);rw[e]at e';cases e'
 have hF':FdH fd ea B h'' X.s₀.heap H':=fun n q=>by
  obtain⟨dN,oD,oe,z1,z2,z3,z4,z5,z6⟩:=hF.next x3 (let ⟨o,e,_⟩:=x1.there;⟨o,e⟩) n q;exact⟨dN,oD,oe,z1,z2,z3,z4,z5,new0 _ z6⟩
 refine⟨⟨ea,a0,B,rfl,x1,hn,?_,hT,fun b o e n hb=>?_,fun b o e hb=>?_,hF'⟩,F.os.trans I.os,F.bare,zzl I hs hf hex un,hok⟩
 ·cases q:X.s₀.heap.get? ea with
  |none=>rfl
  |some u=>obtain⟨v,e⟩:=I.base.there _ _ q (nex _);rw[hnew]at e;cases e
 ·exact hB b o (I.base.keep b o e n hb (nex b)) (I.base.free b o e n (nex b)) fun z=>((zsc hs hf).mp z).elim (neL b o e) hb
 ·obtain⟨o',q⟩:=I.base.there b o e (nex b);exact hA b o' q fun z=>((zsc hs hf).mp z).elim (neL b o e) hb
end
theorem ydo{P:Program}{w:World}{K:PySem.W.Frag}{mg:Str->Option Value}{base:Heap}{N:List Str}{qual:Str}{scope:Scope}{f:Addr}{cd:Value}{A:Around}{outer:List Env}{s:Shared}{H:Hp}{E:XK}{st:St}{cls:Value}{fd:Option Nat}{H':Hp}
  (h:E cls fd H'):Thr (ykk (CXE P w) P w K mg base N qual scope f cd A outer s H E) st cls fd H' where
 fly:=fun pins H1 s1 e s' I F=>zmu I rfl rfl rfl F fun s'' G=>⟨cls,fd,H',G,h⟩
theorem Thr.made{X:Cx}{pins:List (Addr × Obj)}{st:St}{H':Hp}{s:Shared}{cls:Value}{ea:Addr}{h':Heap}{args:List Value}(t:Thr X st cls none H')(I:Inv X pins st H' s)(hx:Heap.MadeExcOf s.heap h' ea cls args):X.xe (.ref ea) { s with heap:=h' }:=by
 have ff:s.heap.FunFrames (PySem.W.hideAll s.heap (frs X.stack)) X.stack:=PySem.W.funFrames_hide (as:=frs X.stack) I.stack (fun env he a ha=>List.mem_filterMap.mpr ⟨env,he,ha⟩);have hid:∀ b o,s.heap.get? b=some o->b ∉ frs X.stack->(PySem.W.hideAll s.heap (frs X.stack)).get? b=some o:=fun b o e n=>PySem.W.hideAll_get _ e n;obtain⟨t0,he,htn,ht⟩:=hx.there;have nst:∀ b o,H' b=some o->b ∉ frs X.stack:=fun b o e z=>by rw[I.stkFree b z]at e;cases e
 have hn:H' ea=none:=by
  cases q:H' ea with
  |none=>rfl
  |some u=>obtain⟨v,e⟩:=zer (I.hok _ _ q);rw[hx.new]at e;cases e
 refine t.fly pins H' s (.ref ea) _ I ⟨⟨ea,.ref t0,PySem.W.hideAll s.heap (frs X.stack),rfl,⟨fun b o q=>hx.keeps b o (PySem.W.of_hideAll _ q),?_,ff.of_keeps fun b o e _=>⟨o,hx.keeps b o e,rfl⟩,.inr ⟨_,_,he,rfl,rfl,by simp,rfl,rfl⟩⟩,hn,hx.new,fun b o e=>?_,fun b o e n hb=>hid b o e hb,fun b o e hb=>⟨o,hid b o e hb⟩,fun n q=>by cases q⟩,rfl,I.bare,⟨fun b o e n hb _=>hx.keeps b o e,fun b o e n hb _=>⟨o.slots,hx.keeps b o e⟩,fun b o e n _=>n,fun b o e _=>⟨o,hx.keeps b o e⟩,fun _ _ e=>e,fun _ _ _ e=>e,fun b ps e=>⟨#[],by rw[e];simp⟩⟩,zz7 I.hok fun b o u e q=>hx.keeps b u q⟩
 ·cases q:(PySem.W.hideAll s.heap (frs X.stack)).get? ea with
  |none=>rfl
  |some u=>have:=PySem.W.of_hideAll _ q;rw[hx.new]at this;cases this
 ·obtain⟨u,q⟩:=zer (I.hok _ _ e);exact⟨u,hid b u q (nst b o e)⟩
theorem zi2{P:Program}{w:World}{K:PySem.W.Frag}{mg:Str->Option Value}{base:Heap}{N:List Str}{qual:Str}{scope:Scope}{f:Addr}{cd:Value}{A:Around}{outer:List Env}{s:Shared}{H:Hp}{E:XK} :
  PassesOwn (model P w) (ykk (CXE P w) P w K mg base N qual scope f cd A outer s H E).A (ykk (CXE P w) P w K mg base N qual scope f cd A outer s H E).env (ykk (CXE P w) P w K mg base N qual scope f cd A outer s H E).xe:=PassesOwn.leaving
def ykw:Fl->M D
 | .nx _=>ret .non
 | .rt d=>ret d
 | .xc _ x=>fun σ=>.ex x σ
 |_=>bad
def ymw:Out Fl->Out D
 | .ok fl σ=>ykw fl σ
 |_=>.bad
def run(n:Nat)(g:Ev->M Fl)(ds:List D):M D:=fun σ=>ymw (g (ds.map some++List.replicate (n - ds.length) none) σ)
def spF(T:Tb)(n:Nat)(f:List D->M D):Sp:=fun vs H Q E=>∃ μ σ ds,yjv T μ H ds vs/\ds.length=n/\Rel T μ H σ/\yjp T E (Rep T) μ H (f ds σ) Q
def fnK(n:Nat)(f:List D->M D)(dds:List D)(ds:List D):M D:=if (ds++dds).length=n then f (ds++dds)else bad
def eFn(n:Nat)(f:List D->M D)(dds:List D)(fs:Ev->M (List D)):Ev->M D:=fun ρ=>bnd (fs ρ) (fnK n f dds)
section
variable{T:Tb}{X:Cx}
theorem zjr{μ:List Addr}{H:Hp}{ds:List D}{vs:List V}{N:List Str}(h:yjv T μ H ds vs):yje T μ H (ds.map some++List.replicate (N.length - ds.length) none) (L2.yio N vs):=by
 have hl:=h.length;refine⟨by simp[L2.yio,hl],fun i d e=>?_⟩;by_cases hi:i<ds.length
 ·rw[List.getElem?_append_left (by simpa using hi),List.getElem?_map]at e;cases e2:ds[i]? with
  |none=>rw[e2]at e;cases e
  |some x=>
   rw[e2]at e;cases e;obtain⟨v,h1,h2⟩:=h.get e2;refine⟨v,?_,h2⟩;unfold L2.yio;rw[List.getElem?_append_left (by simpa [<-hl]using hi),List.getElem?_map,h1];rfl
 ·rw[List.getElem?_append_right (by simpa using hi),List.getElem?_replicate]at e;split at e<;>cases e
variable{k:Nat}{f C:Addr}{fd:FuncData}{ps:List Str}{dvs:List V}{dval:List Value}{dds:List D}{x:Str}{p pos:Pos}{e:Expr}{es:List Expr}{fn:List D->M D}{fs:Ev->M (List D)}{sp:Sp}{t:TA}
theorem zvs{pins:List (Addr × Obj)}{st:St}{H:Hp}{s:Shared}{Q:VK}{us:List Value}{vs:List V}(F:FnOk X.prog X.w X.K X.mg X.base (CXE X.prog X.w) k f fd ps sp)(hr:Room k X.A)(hb:yd0 X.K fd ps dval)(hd:yj1 dvs dval)
  (I:Inv X pins st H s) (r:yj1 vs us) (h:sp (vs++dvs) H Q (XE X st)):wpAny (model X.prog X.w) X.A (call (.ref f) us) (EP X pins st Q) X.xe s:=by
 have r2:yj1 (vs++dvs) (us++dval):=r.append hd;have hl:(us++dval).length=ps.length:=by rw[<-r2.length];exact F.len _ _ _ _ h
 refine wpAny_call (codeAny_mono (F.run X.A X.stack s H ⟨us,[]⟩ (us++dval) (vs++dvs) Q (XE X st) hr I.env0 (hb s us I.kIn hl) r2 h) fun r s' hq=>?_);cases r with
 |error e=>obtain⟨cls,fd,H',hfly,ht⟩:=hq;exact ht.fly pins H s e s' I hfly
 |ok fl=>
  cases fl with
  |ret u=>exact I.after hq
  |next=>exact False.elim hq
  |brk=>exact False.elim hq
  |cont=>exact False.elim hq
theorem zrs(F:FnOk X.prog X.w X.K X.mg X.base (CXE X.prog X.w) k f fd ps (spF T ps.length fn))(hr:Room k X.A)(hg:Gl X x)(hm:X.mg x=some (.ref f))(hk:PySem.W.keepIn X.K (.ref f)=true)(hb:yd0 X.K fd ps dval)(hd:yj1 dvs dval)(hdd:∀ μ H,yjv T μ H dds dvs)
  (ha:FA T X (e::es) fs) (hdb:(x == ("__debug__" : Str))=false:=by decide) (he:starEach (e::es) X.env=(false,eval e X.env)::starEach es X.env:=by rfl) (hpl:(backTo pos (starEach es X.env)).any (·.1)=false:=by rfl) :
  FE T X (.Call (.Name x p) (e::es) [] pos) (eFn ps.length fn dds fs):=by
 intro pins s st H Q I h;refine wpAny_Call_Name_kw (ztj I hg hm ?_ hdb);obtain⟨μ,ρ,σ,hE,hr',hp⟩:=h;refine PySem.W.callWith_K (h₀:=X.base) I.ok.mod.kin hk (thn (ha pos pins s st H (fun vs H1=>spF T ps.length fn (vs++dvs) H1 Q (XE X st)) I ⟨μ,ρ,σ,hE,hr',hp.bind fun ds σ1 μ1 vs H1 _ e1 r1 p1 q1=>?_⟩) fun us s1 ⟨vs,H1,I1,r,q⟩=>⟨I1.kIn,?_⟩) he hpl
 ·unfold fnK at q1;by_cases hl:(ds++dds).length=ps.length
  ·rw[if_pos hl]at q1;exact⟨μ1,σ1,ds++dds,p1.append (hdd _ _),hl,r1,q1⟩
  ·rw[if_neg hl]at q1;exact q1.elim
 ·exact zvs F hr hb hd I1 r q
variable{P:Program}{w:World}{K:PySem.W.Frag}{mg:Str->Option Value}{base:Heap}
theorem fok{x qual:Str}{st:Stmt}{N:List Str}{g:Ev->M Fl}{params:Arguments}{dV kV doc pm cdv ct oc:Value}{an od:Option Addr}{osl:Array (Option Value)}
  (lk:K.lookup f=some ⟨oc,od,.func (PySem.W.fnOf x qual params (zq8 st) (zko st) dV kV doc pm an cdv ct),osl⟩) (hcd:PySem.W.codeIn K cdv qual=true) (S:FnScope N ps (zko st))
  (hb:∀ (A:Around) (outer:List Env) (s:Shared) (H:Hp) (E:XK),Room k (A.deeper (envOfC qual (zko st) s.heap.objs.size f cdv))->FSs T (ykk (CXE P w) P w K mg base N qual (zko st) f cdv A outer s H E) (zq8 st) g) :
  FnOk P w K mg base (CXE P w) (k+1) f (PySem.W.fnOf x qual params (zq8 st) (zko st) dV kV doc pm an cdv ct) ps (spF T ps.length (run N.length g)):=by
 refine yfs lk hcd S (fun vs H Q E h=>?_) (fun A outer s H vs Q E hr h=>?_)
 ·obtain⟨μ,σ,ds,h1,h2,_⟩:=h;rw[<-h1.length];exact h2
 ·obtain⟨μ,σ,ds,h1,h2,h3,h4⟩:=h;refine⟨_,hb A outer s H E hr,μ,_,σ,zjr h1,h3,?_⟩;unfold run at h4;cases eg:g (ds.map some++List.replicate (N.length - ds.length) none) σ with
  |bad=>rw[eg]at h4;exact h4
  |ex x σ1=>rw[eg]at h4;exact h4.elim
  |ok fl σ1=>
   rw[eg]at h4;intro μ1 gl H1 e1 r1 q1;have p1:=h4.mono e1;cases fl with
   |nx ρ2=>cases gl with
    |nx st2=>have z:Q V.non H1:=yjp.here (d:=D.non) p1 r1 (by rw[Rep]);exact z
    |_=>exact q1.elim
   |rt d2=>cases gl with
    |rt v2=>have z:Q v2 H1:=yjp.here (d:=d2) p1 r1 q1;exact z
    |_=>exact q1.elim
   |xc ρ2 x2=>cases gl with
    |xc st2 c2 fd2=>
     obtain⟨_,rfl,rfl⟩:=q1;exact ydo (p1 μ1 H1 (Ext.refl _ _) r1)
    |_=>exact q1.elim
   |_=>exact p1.elim
theorem zr9(F:FnOk P w K mg base (CXE P w) k f fd ps (spF T ps.length fn)):FnOk P w K mg base (CXE P w) k f fd ps (spF T ps.length (fun ds=>frz (fn ds))):=
 F.imp fun vs H Q E h=>by
  obtain⟨μ,σ,ds,h1,h2,h3,h4⟩:=h;exact⟨μ,σ,ds,h1,h2,h3,yjp.frz h3 h4⟩
end
def ykg(env:Env)(names:List (Str × NameKind))(acc:List (Str × Addr)):List (Str × Addr):=
 names.foldl (fun cs y=>if (y.2 == .free)=true then (match env.cells.lookup y.1 with|some c=>(y.1,c)::cs|none=>cs)else cs) acc
theorem zfh(env:Env):∀ (names:List (Str × NameKind)) (acc:List (Str × Addr)),(∀ y∈names,y.2=.free->∃ c,env.cells.lookup y.1=some c)->
  (forIn names acc (fun x (cs:List (Str × Addr))=>match x with|(name,kind)=>if (kind == .free)=true then (do let a <-cellOf env name;pure (ForInStep.yield ((name,a)::cs)))else pure (ForInStep.yield cs)):Sem (List (Str × Addr)))=pure (ykg env names acc)
 |[],acc,_=>rfl
 |(n,k)::r,acc,h=>by
  rw[List.forIn_cons];by_cases hk:(k == NameKind.free)=true
  ·obtain⟨c,hc⟩:=h (n,k) List.mem_cons_self (by simpa using hk);have e1:cellOf env n=pure c:=by unfold cellOf;rw[hc]
   simp only[hk,if_true,e1];show (forIn r ((n,c)::acc) _:Sem (List (Str × Addr)))=_;rw[zfh env r ((n,c)::acc) fun y hy=>h y (List.mem_cons_of_mem _ hy)];have e2:ykg env ((n,k)::r) acc=ykg env r ((n,c)::acc):=by
    unfold ykg;rw[List.foldl_cons];simp only[hk,if_true,hc]
   rw[e2]
  ·simp only[hk];show (forIn r acc _:Sem (List (Str × Addr)))=_;rw[zfh env r acc fun y hy=>h y (List.mem_cons_of_mem _ hy)];have e2:ykg env ((n,k)::r) acc=ykg env r acc:=by
    unfold ykg;rw[List.foldl_cons];simp only[hk];rfl
   rw[e2]
theorem zfi(env:Env)(scope:Scope)(h:∀ y∈scope.names,y.2=.free->∃ c,env.cells.lookup y.1=some c):closureFor scope env=pure (ykg env scope.names []):=by
 have e:=zfh env scope.names [] h;unfold closureFor;simp only[bind_pure];exact e
theorem zx8(env:Env):∀ (names:List (Str × NameKind)) (acc:List (Str × Addr)) (n:Str) (c:Addr),(∀ n c,acc.lookup n=some c->env.cells.lookup n=some c)->(ykg env names acc).lookup n=some c->env.cells.lookup n=some c
 |[],acc,n,c,h,e=>h n c e
 |(y,k)::r,acc,n,c,h,e=>by
  unfold ykg at e;rw[List.foldl_cons]at e;refine zx8 env r _ n c (fun n c q=>?_) e;by_cases hk:(k == NameKind.free)=true
  ·simp only[hk,if_true]at q;cases hc:env.cells.lookup y with
   |none=>rw[hc]at q;exact h n c q
   |some c'=>
    rw[hc]at q;rw[List.lookup_cons]at q;cases hn:(n == y)with
    |true=>rw[hn]at q;cases q;rw[eq_of_beq hn];exact hc
    |false=>rw[hn]at q;exact h n c q
  ·simp only[hk]at q;exact h n c q
theorem zqw(env:Env):∀ (names:List (Str × NameKind)) (acc:List (Str × Addr)) (n:Str),(∃ c,acc.lookup n=some c)->∃ c,(ykg env names acc).lookup n=some c
 |[],acc,n,h=>h
 |(y,k)::r,acc,n,h=>by
  unfold ykg;rw[List.foldl_cons];refine zqw env r _ n ?_;by_cases hk:(k == NameKind.free)=true
  ·simp only[hk,if_true];cases hc:env.cells.lookup y with
   |none=>exact h
   |some c'=>
    show ∃ c,List.lookup n ((y,c')::acc)=some c;rw[List.lookup_cons];cases hn:(n == y)with
    |true=>exact⟨c',rfl⟩
    |false=>exact h
  ·simp only[hk];exact h
theorem zx2(env:Env):∀ (names:List (Str × NameKind)) (acc:List (Str × Addr)) (n:Str),(n,NameKind.free)∈names->(∃ c,env.cells.lookup n=some c)->∃ c,(ykg env names acc).lookup n=some c
 |[],acc,n,h,_=>nomatch h
 |(y,k)::r,acc,n,h,hc=>by
  unfold ykg;rw[List.foldl_cons];rcases List.mem_cons.mp h with e|e
  ·cases e;refine zqw env r _ _ ?_;obtain⟨c,hc⟩:=hc;refine⟨c,?_⟩;simp[hc]
  ·exact zx2 env r _ n e hc
theorem zbv{env:Env}:∀ {names:List (Str × NameKind)} {x:Str} {k:NameKind},
  (names.map fun(n,k)=>if (k == NameKind.free && env.scope.kind == .function && env.kindOf n == some .cell)then (n,NameKind.cell)else (n,k)).lookup x=some k->∃ k0,names.lookup x=some k0/\(k=k0\/(k0=.free/\k=.cell))
 |[],_,_,h=>by simp at h
 |(n,k0)::r,x,k,h=>by
  have ih:=@zbv env r x k;have h':List.lookup x ((if (k0 == NameKind.free && env.scope.kind == .function && env.kindOf n == some .cell)=true then (n,NameKind.cell)else (n,k0))::(r.map fun(n,k)=>if (k == NameKind.free && env.scope.kind == .function && env.kindOf n == some .cell)then (n,NameKind.cell)else (n,k)))=some k:=h;cases hx:x == n with
  |true=>
   by_cases hc:(k0 == NameKind.free && env.scope.kind == .function && env.kindOf n == some .cell)=true
   ·rw[if_pos hc]at h';simp only[List.lookup_cons,hx]at h' ⊢;cases h';simp only[Bool.and_eq_true]at hc;exact⟨k0,rfl,.inr ⟨by simpa using hc.1.1,rfl⟩⟩
   ·rw[if_neg hc]at h';simp only[List.lookup_cons,hx]at h' ⊢;cases h';exact⟨k0,rfl,.inl rfl⟩
  |false=>
   by_cases hc:(k0 == NameKind.free && env.scope.kind == .function && env.kindOf n == some .cell)=true
   ·rw[if_pos hc]at h';simp only[List.lookup_cons,hx]at h' ⊢;exact ih h'
   ·rw[if_neg hc]at h';simp only[List.lookup_cons,hx]at h' ⊢;exact ih h'
theorem zdt{env:Env}:∀ {names:List (Str × NameKind)} {x:Str},names.lookup x=some .free->
  (names.map fun(n,k)=>if (k == NameKind.free && env.scope.kind == .function && env.kindOf n == some .cell)then (n,NameKind.cell)else (n,k)).lookup x=some .cell\/
  (names.map fun(n,k)=>if (k == NameKind.free && env.scope.kind == .function && env.kindOf n == some .cell)then (n,NameKind.cell)else (n,k)).lookup x=some .free
 |[],_,h=>by simp at h
 |(n,k)::r,x,h=>by
  have ih:=@zdt env r x;have goal:∀ z,List.lookup x ((if (k == NameKind.free && env.scope.kind == .function && env.kindOf n == some .cell)=true then (n,NameKind.cell)else (n,k))::(r.map fun(n,k)=>if (k == NameKind.free && env.scope.kind == .function && env.kindOf n == some .cell)then (n,NameKind.cell)else (n,k)))=z->
   (List.map (fun(n,k)=>if (k == NameKind.free && env.scope.kind == .function && env.kindOf n == some .cell)then (n,NameKind.cell)else (n,k)) ((n,k)::r)).lookup x=z:=fun z e=>e
  cases hx:x == n with
  |true=>
   simp only[List.lookup_cons,hx]at h;cases h;by_cases hc:(NameKind.free == NameKind.free && env.scope.kind == .function && env.kindOf n == some .cell)=true
   ·exact .inl (goal _ (by rw[if_pos hc];simp only[List.lookup_cons,hx]))
   ·exact .inr (goal _ (by rw[if_neg hc];simp only[List.lookup_cons,hx]))
  |false=>
   simp only[List.lookup_cons,hx]at h;have e:List.lookup x ((if (k == NameKind.free && env.scope.kind == .function && env.kindOf n == some .cell)=true then (n,NameKind.cell)else (n,k))::(r.map fun(n,k)=>if (k == NameKind.free && env.scope.kind == .function && env.kindOf n == some .cell)then (n,NameKind.cell)else (n,k))) =
     (r.map fun(n,k)=>if (k == NameKind.free && env.scope.kind == .function && env.kindOf n == some .cell)then (n,NameKind.cell)else (n,k)).lookup x:=by
    by_cases hc:(k == NameKind.free && env.scope.kind == .function && env.kindOf n == some .cell)=true
    ·rw[if_pos hc];simp only[List.lookup_cons,hx]
    ·rw[if_neg hc];simp only[List.lookup_cons,hx]
   rcases ih h with q|q
   ·exact .inl (goal _ (e.trans q))
   ·exact .inr (goal _ (e.trans q))
theorem zin{names:List (Str × NameKind)}{x:Str}{k:NameKind}(h:names.lookup x=some k):(x,k)∈names:=PySem.mem_of_lookup h
def blk(X:Cx)(N':List Str)(scope:Scope)(cl:List (Str × Addr))(C:Addr)(s₀:Shared)(H₀:Hp)(ex:List Addr):Cx:=
 { X with N:=N',s₀:=s₀,H₀:=H₀,env:=compEnvC scope cl C X.env,outer:=X.stack,stack:=X.stack,ex:=ex,fn:=fun _=>false,pn:=[],xe:=fun _ _=>False }
structure LcOk(X:Cx)(x:Str)(M':List Str)(ix:List Nat)(scope:Scope):Prop where
 kind:scope.kind=.function
 cell:(scope.names.all fun y=>!(y.2 == .cell))=true
 names:(scope.names.all fun y=>!(y.2 == .local) || scope.names.lookup y.1 == some .local)=true
 free:(scope.names.all fun y=>!(y.2 == .free) || (X.env.scope.names.lookup y.1 == some .cell || X.env.scope.names.lookup y.1 == some .free))=true
 at_:ix.map (fun i=>X.N[i]?)=M'.map some
 vis:(M'.all fun y=>(X.env.scope.names.lookup y == some .cell || X.env.scope.names.lookup y == some .free) && scope.names.lookup y == some .free)=true
def yem(ix:List Nat)(ρ:Ev):Ev:=none::ix.map fun i=>(ρ[i]?).getD none
def yen(ix:List Nat)(st:St):St:=none::ix.map fun i=>(st[i]?).getD none
theorem zqi{T:Tb}{μ:List Addr}{H:Hp}{ρ:Ev}{st:St}(ix:List Nat)(h:yje T μ H ρ st):yje T μ H (yem ix ρ) (yen ix st):=by
 refine⟨by simp[yem,yen],fun i d e=>?_⟩;cases i with
 |zero=>simp[yem]at e
 |succ j=>
  have e':(ix.map fun i=>(ρ[i]?).getD none)[j]?=some (some d):=e;rw[List.getElem?_map]at e';cases ej:ix[j]? with
  |none=>rw[ej]at e';cases e'
  |some i0=>
   rw[ej]at e';have e2:(ρ[i0]?).getD none=some d:=Option.some.inj e';have e3:ρ[i0]?=some (some d):=by
    cases q:ρ[i0]? with
    |none=>rw[q]at e2;cases e2
    |some o=>rw[q]at e2;exact congrArg some e2
   obtain⟨v,h1,h2⟩:=h.2 i0 d e3;refine⟨v,?_,h2⟩;show (ix.map fun i=>(st[i]?).getD none)[j]?=_;rw[List.getElem?_map,ej];show some ((st[i0]?).getD none)=_;rw[h1];rfl
section
variable{X:Cx}{pins:List (Addr × Obj)}{st:St}{H:Hp}{s:Shared}{x:Str}{M':List Str}{ix:List Nat}{scope:Scope}{fp:List Addr}
theorem zsa(L:LcOk X x M' ix scope)(y:Str × NameKind)(hy:y∈scope.names)(e:y.2=.free):X.env.kindOf y.1=some .cell\/X.env.kindOf y.1=some .free:=by
 have q:=List.all_eq_true.mp L.free y hy;rw[e]at q;simp only[beq_self_eq_true,Bool.not_true,Bool.false_or,Bool.or_eq_true]at q;rcases q with q|q
 ·exact .inl (eq_of_beq q)
 ·exact .inr (eq_of_beq q)
theorem zqy(I:Inv X pins st H s)(L:LcOk X x M' ix scope):∀ y∈scope.names,y.2=.free->∃ c,X.env.cells.lookup y.1=some c:=fun y hy e=>I.ok.has y.1 (zsa L y hy e)
theorem ya6(L:LcOk X x M' ix scope):∀ y∈scope.names,y.2≠.cell:=fun y hy e=>by
 have q:=List.all_eq_true.mp L.cell y hy;rw[e]at q;simp at q
theorem zg5(I:Inv X pins st H s)(L:LcOk X x M' ix scope)(hfp:∀ b∈fp,yjh X pins H b/\b<s.heap.objs.size){h':Heap}{t':Nat}{m:Str->Option Value}(hns:h'.Ns s.heap.objs.size m)
  (hk:∀ b o,s.heap.get? b=some o->h'.get? b=some o) :
  Inv (blk X (x::M') scope (ykg X.env scope.names []) s.heap.objs.size s H fp) [] (yen ix st) H { s with heap:=h',toks:=t' }:=by
 have sub:∀ n c,(ykg X.env scope.names []).lookup n=some c->X.env.cells.lookup n=some c:=fun n c e=>zx8 X.env scope.names [] n c (fun _ _ q=>by simp at q) e;have cellLt:∀ n c,X.env.cells.lookup n=some c->c<s.heap.objs.size:=fun n c e=>by obtain⟨v,z⟩:=I.cell n c e;exact z.lt
 have fresh:H s.heap.objs.size=none:=I.hok.fresh (Nat.le_refl _);refine⟨⟨I.ok.mod,L.kind,I.ok.glob,I.ok.blt,Nat.le_refl _,fun a b c h1 h2=>I.ok.inj a b c (sub a c h1) (sub b c h2),fun a ha=>?_,fun a c h=>(by cases h),I.ok.hd,I.ok.frames,.inl rfl,fun b hb=>⟨Nat.ne_of_lt (hfp b hb).2,fun a c e=>?_⟩,fun b o e=>I.bs b o e,Nat.le_trans I.ok.bsz I.sz,fun b o e hb=>?_,fun b hb z=>?_,I.stack,I.stkFree⟩,
  rfl,I.bare,Un.kept hk,⟨m,hns,fun i y v e1 e2 e3=>?_⟩,fun a c e=>?_,fresh,fun a c e=>I.freeC a c (sub a c e),fun p hp=>absurd (show p∈([]:List (Addr × Obj))from hp) (by simp),I.hok.kept hk,?_⟩
 ·
  have ha':(scope.names.map fun(n,k)=>if (k == NameKind.free && X.env.scope.kind == .function && X.env.kindOf n == some .cell)then (n,NameKind.cell)else (n,k)).lookup a=some .cell\/(scope.names.map fun(n,k)=>if (k == NameKind.free && X.env.scope.kind == .function && X.env.kindOf n == some .cell)then (n,NameKind.cell)else (n,k)).lookup a=some .free:=ha;have hf:scope.names.lookup a=some .free:=by
   rcases ha' with z|z
   ·obtain⟨k0,h1,h2⟩:=zbv z;rcases h2 with h2|⟨h2,_⟩
    ·subst h2;exact absurd rfl (ya6 L _ (zin h1))
    ·rw[h2]at h1;exact h1
   ·obtain⟨k0,h1,h2⟩:=zbv z;rcases h2 with h2|⟨_,h2⟩
    ·rw[<-h2]at h1;exact h1
    ·cases h2
  exact zx2 X.env scope.names [] a (zin hf) (zqy I L _ (zin hf) rfl)
 ·exact(hfp b hb).1.2.2.2.2.1 a c (sub a c e)
 ·rcases(hfp b hb).1.2.2.2.1 with z|z
  ·exact I.ok.noex b o e z
  ·exact absurd (Nat.lt_of_lt_of_le (Heap.lt_size e) (Nat.le_trans I.ok.bsz z)) (Nat.lt_irrefl _)
 ·rcases List.mem_cons.mp (I.stkSub b z)with q|q
  ·exact(hfp b hb).1.2.1 q
  ·exact(hfp b hb).1.2.2.1 q
 ·
  cases i with
  |zero=>simp[yen]at e2
  |succ j=>
   have e1':M'[j]?=some y:=e1;have e2':(ix.map fun i=>(st[i]?).getD none)[j]?=some (some v):=e2;rw[List.getElem?_map]at e2';cases ej:ix[j]? with
   |none=>rw[ej]at e2';cases e2'
   |some i0=>
    rw[ej]at e2';have e4:(st[i0]?).getD none=some v:=Option.some.inj e2';have e5:st[i0]?=some (some v):=by
     cases q:st[i0]? with
     |none=>rw[q]at e4;cases e4
     |some o=>rw[q]at e4;exact congrArg some e4
    have e6:X.N[i0]?=some y:=by
     have z:=congrArg (fun l=>l[j]?) L.at_;simp only[List.getElem?_map,ej,e1',Option.map_some]at z;exact Option.some.inj z
    have q:=List.all_eq_true.mp L.vis y (List.mem_of_getElem? e1');simp only[Bool.and_eq_true,Bool.or_eq_true]at q;have kx:X.env.scope.names.lookup y=some .cell\/X.env.scope.names.lookup y=some .free:=by
     rcases q.1 with z|z
     ·exact .inl (eq_of_beq z)
     ·exact .inr (eq_of_beq z)
    have ky:scope.names.lookup y=some .free:=eq_of_beq q.2;obtain⟨m0,hn0,hl0⟩:=I.loc;obtain⟨u,ru,lu⟩:=hl0 i0 y v e6 e5 (by rcases kx with z|z;exact .inr (.inl z);exact .inr (.inr z));refine⟨u,ru,.inr ⟨zdt (env:=X.env) ky,?_⟩⟩;rcases lu with⟨z,_⟩|⟨_,c,ec,zc⟩
    ·rcases kx with k|k
     ·rw[show X.env.kindOf y=X.env.scope.names.lookup y from rfl,k]at z;cases z
     ·rw[show X.env.kindOf y=X.env.scope.names.lookup y from rfl,k]at z;cases z
    ·obtain⟨c',hc'⟩:=zx2 X.env scope.names [] y (zin ky) (zqy I L _ (zin ky) rfl);have e7:=sub y c' hc';rw[ec]at e7;cases e7;obtain⟨o,ho,hd⟩:=zc;exact⟨c,hc',o,hk _ _ ho,hd⟩
 ·obtain⟨v,o,ho,hd⟩:=I.cell a c (sub a c e);exact⟨v,o,hk _ _ ho,hd⟩
 ·simp[yen,blk];have z:=congrArg List.length L.at_;simpa using z
end
def nox{α:Type}(m:M α):M α:=fun σ=>match m σ with
 | .ex _ _=>.bad
 |o=>o
theorem yjp.bind0{α β γ δ:Type}{T:Tb}{E E0:XK}{R:List Addr->Hp->α->γ->Prop}{R':List Addr->Hp->β->δ->Prop}{μ:List Addr}{H:Hp}{m:M α}{k:α->M β}{σ:Sto}{Q:δ->Hp->Prop}{Q1:γ->Hp->Prop}
  (h:yjp T E R' μ H (bnd (nox m) k σ) Q) (f:∀ a σ1 μ1 g H1,m σ=.ok a σ1->Ext μ H μ1 H1->Rel T μ1 H1 σ1->R μ1 H1 a g->yjp T E R' μ1 H1 (k a σ1) Q->Q1 g H1):yjp T E0 R μ H (m σ) Q1:=by
 unfold bnd nox at h;cases e:m σ with
 |ok a σ1=>
  simp only[e]at h;exact fun μ' g H' e' r q=>f a σ1 μ' g H' e e' r q (h.mono e')
 |ex x σ1=>simp only[e]at h;exact h.elim
 |bad=>simp only[e]at h;exact h
def yau(nx:Src)(n:Nat)(tg:D->Ev->Option Ev)(fi:Ev->M Bool)(fe:Ev->M D):Nat->Nat->Ev->M Unit
 |0,_,_=>bad
 |k+1,i,ρ=>fun σ=>match nx.nx i σ with
  |none=>.bad
  |some none=>.ok () σ
  |some (some d)=>match tg d ρ with
   |none=>.bad
   |some ρ1=>bnd (nox (fi ρ1)) (fun c=>if c=true then bnd (nox (fe ρ1)) fun y=>bnd (zt3 (.ref n) [y]) fun _=>yau nx n tg fi fe k (i+1) ρ1 else yau nx n tg fi fe k (i+1) ρ1) σ
def lcK(tg:D->Ev->Option Ev)(fi:Ev->M Bool)(fe:Ev->M D)(ρ:Ev)(nx:Src):M D:=fun σ=>
 bnd (yau nx σ.length tg fi fe 1001 0 ρ) (fun _=>ret (.ref σ.length)) (σ++[.lst []])
def eLC(src:Ev->M Src)(ix:List Nat)(tg:D->Ev->Option Ev)(fi:Ev->M Bool)(fe:Ev->M D):Ev->M D:=fun ρ=>bnd (src ρ) (lcK tg fi fe (yem ix ρ))
def FIf(T:Tb)(X:Cx)(ifs:List Expr)(f:Ev->M Bool):Prop:=
 ∀ (pins:List (Addr × Obj)) (s:Shared) (st:St) (H:Hp) (Q:Bool->Hp->Prop),Inv X pins st H s->tT T X f st H Q->
  wpAny (model X.prog X.w) X.A (forIn ifs true fun c r=>if r=true then do let ok <-isTrue c X.env (eval c X.env);pure (ForInStep.yield ok)else pure (ForInStep.yield r)) (TP X pins st Q) X.xe s
def yel:Ev->M Bool:=fun _=>ret true
section
variable{T:Tb}{X:Cx}
theorem zr1:FIf T X [] yel:=by
 intro pins s st H Q I h;obtain⟨μ,ρ,σ,hE,hr,hp⟩:=h;exact wpAny_tests_nil ⟨H,I,yjp.here hp hr rfl⟩
theorem zr2{c:Expr}{f:Ev->M Bool}(h:FT T X c f):FIf T X [c] f:=fun pins s st H Q I hw=>wpAny_tests_one (h pins s st H Q I hw)
theorem zxa{fs ex:List Addr}{H H':Hp}{h h1 h2:Heap}{C:Addr}(u:Un fs ex H H' h h1)(hs:Heap.SameBut C h1 h2)(hC:h.objs.size<=C):Un fs ex H H' h h2:=by
 have ne:∀ b o,h.get? b=some o->b≠C:=fun b o e=>Nat.ne_of_lt (Nat.lt_of_lt_of_le (Heap.lt_size e) hC);refine⟨fun b o e n hb hx=>(hs.2 b (ne b o e)).trans (u.keep b o e n hb hx),fun b o e n hb hx=>?_,u.free,fun b o e hx=>?_,u.tups,u.frzs,u.tbls⟩
 ·obtain⟨sl,q⟩:=u.slot b o e n hb hx;exact⟨sl,(hs.2 b (ne b o e)).trans q⟩
 ·obtain⟨o',q⟩:=u.there b o e hx;exact⟨o',(hs.2 b (ne b o e)).trans q⟩
theorem zmc{P:Program}{w:World}{H:Hp}{h1 h2:Heap}{C:Addr}(ok:HOk P w H h1)(hs:Heap.SameBut C h1 h2)(hC:H C=none):HOk P w H h2:=fun b ob e=>by
 refine(ok b ob e).stay (fun c w' hc q=>(hs.2 c ?_).trans q) (fun _ q=>q) fun _ _ q=>q;rintro rfl;rcases hc with rfl|hc
 ·rw[hC]at e;cases e
 ·rw[hC]at hc;cases hc
theorem zp6{E:XK}{μ:List Addr}{H:Hp}{σ:Sto}{n:Nat}{a:Addr}{y:D}{v:V}{Q:VK}(r:Rel T μ H σ)(hn:μ[n]?=some a)(hy:Rep T μ H y v)(h:yjp T E (Rep T) μ H (zt3 (.ref n) [y] σ) Q):zve (.ref a) [v] H Q:=
 zgp E μ H σ (.ref n) [y] (.ref a) [v] Q r (by rw[Rep];exact⟨a,rfl,hn⟩) (yjv.cons hy yjv.nil) h
theorem zg7{α β:Type}{m m':M α}{k:α->M β}{σ:Sto}(h:m σ=m' σ):bnd m k σ=bnd m' k σ:=by unfold bnd;rw[h]
theorem zg6{α β γ:Type}{m:M α}{k:α->M β}{l:β->M γ}:bnd (bnd m k) l=bnd m fun a=>bnd (k a) l:=by
 funext σ;unfold bnd;cases m σ<;>rfl
theorem zti{E:XK}{elt iter tgt:Expr}{ifs:List Expr}{scope:Scope}{pos:Pos}{x:Str}{M':List Str}{ix:List Nat}{tg:D->Ev->Option Ev}{fi:Ev->M Bool}{fe:Ev->M D}
  {pins:List (Addr × Obj)} {st:St} {H3:Hp} {s3:Shared} {h₁:Heap} {t':Nat} {m:Str->Option Value} {fp:List Addr} {it D0:Addr} {tn:Nat->Heap->Prop} {J:It} {nx:Src} {μ3:List Addr} {σ3:Sto} {ρ:Ev} {n:Nat} {Q:VK}
  (hc:X.calm=true) (L:LcOk X x M' ix scope)
  (htg:∀ cl C s₀ H₀ ex,FG T (blk X (x::M') scope cl C s₀ H₀ ex) tgt tg)
  (hif:∀ cl C s₀ H₀ ex,FIf T (blk X (x::M') scope cl C s₀ H₀ ex) ifs fi)
  (helt:∀ cl C s₀ H₀ ex,FE T (blk X (x::M') scope cl C s₀ H₀ ex) elt fe)
  (I3:Inv X pins st H3 s3) (hfp:∀ b∈fp,yjh X pins H3 b/\b<s3.heap.objs.size) (hns:h₁.Ns s3.heap.objs.size m) (kp:∀ b o,s3.heap.get? b=some o->h₁.get? b=some o)
  (TT:Turn X.prog X.w X.K tgt J fp it tn) (hst4:tn 0 h₁) (so:yee T μ3 H3 nx J) (hE:yje T μ3 H3 ρ st) (r3:Rel T μ3 H3 σ3) (hn:μ3[n]?=some D0)
  (p3:yjp T E (Rep T) μ3 H3 (bnd (yau nx n tg fi fe 1001 0 (yem ix ρ)) (fun _=>ret (.ref n)) σ3) Q) {RR:Result->Shared->Prop}
  (fin:∀ (s6:Shared) (H':Hp) (m6:Str->Option Value),s6.heap.Ns s3.heap.objs.size m6->H' s3.heap.objs.size=none->Un (frs X.stack) fp H3 H' s3.heap s6.heap->s6.os=s3.os->HOk X.prog X.w H' s6.heap->AllBare s6.gens->Q (.ref D0) H'->RR (.ok .next) s6) :
  codeAny (model X.prog X.w) X.A (.compStart (.ListComp elt [⟨tgt,iter,ifs,0⟩] scope pos) 0 (.ref it) (.ref D0) (compEnvC scope (ykg X.env scope.names []) s3.heap.objs.size X.env))
   RR { s3 with heap:=h₁,toks:=t' }:=by
 have I4:=zg5 (h':=h₁) (t':=t') I3 L hfp hns kp;let Y:Cx:=blk X (x::M') scope (ykg X.env scope.names []) s3.heap.objs.size s3 H3 fp;have stat:∀ {H':Hp},(∀ b∈fp,H' b=none)->∀ b∈fp,yjh Y [] H' b:=fun {H'} hn b hb=>⟨hn b hb,(I4.ok.exf b hb).1,I4.ok.exfs b hb,.inl hb,(I4.ok.exf b hb).2,fun p hp=>absurd (show p∈([]:List (Addr × Obj))from hp) (by simp)⟩
 have ylm:codeAny (model X.prog X.w) X.A (.compLoop (.ListComp elt [⟨tgt,iter,ifs,0⟩] scope pos) 0 (.ref it) (.ref D0) Y.env) RR { s3 with heap:=h₁,toks:=t' }:=by
  refine codeAny_loop rfl (fun k s'=>∃ i μ' H' σ' ρ' st',Inv Y [] st' H' s'/\tn i s'.heap/\(∀ b∈fp,H' b=none)/\Ext μ3 H3 μ' H'/\yje T μ' H' ρ' st'/\Rel T μ' H' σ'/\
   yjp T E (Rep T) μ' H' (bnd (yau nx n tg fi fe k i ρ') (fun _=>ret (.ref n)) σ') Q) ?_ 1001 ⟨0,μ3,H3,σ3,yem ix ρ,yen ix st,I4,hst4,fun b hb=>(hfp b hb).1.1,Ext.refl _ _,zqi ix hE,r3,p3⟩
  rintro k s' ⟨i,μ',H',σ',ρ',st',I',tn',fr',ex',hE',r',p'⟩;show wpAny _ X.A ((compTurn (.ListComp elt [⟨tgt,iter,ifs,0⟩] scope pos) 0 (.ref it) (.ref D0) Y.env).onRaise (fun x=>do noteFrame x Y.env;theTreesLotGoes x)) _ _ s';refine wpAny_noted ?_;rw[compTurn_list];refine wpAny_mono (E:=fun _ _=>False) ?_ (fun _ _ z=>z) (fun _ _ z=>z.elim);refine wpAny_bind (wpAny_standAt ?_);cases k with
  |zero=>exact p'.elim
  |succ k=>
   have so':=so μ' H' σ' i ex' r';cases en:nx.nx i σ' with
   |none=>
    have e1:yau nx n tg fi fe (k+1) i ρ' σ'=.bad:=by unfold yau;simp only[en]
    rw[zg7 (m':=bad) e1]at p';exact p'.elim
   |some od=>
    rw[en]at so';cases od with
    |none=>
     have e1:yau nx n tg fi fe (k+1) i ρ' σ'=.ok () σ':=by unfold yau;simp only[en]
     rw[zg7 (m':=ret ()) e1]at p';refine wpAny_bind (thn (TT.done Y rfl rfl rfl hc i [] s' st' H' (fun _ _=>False) I' (stat fr') tn' so') fun r s6 ⟨er,I6⟩=>?_);subst er;refine wpAny_pure ?_;obtain⟨m6,hm6,_⟩:=I6.loc;exact fin s6 H' m6 hm6 I6.free I6.base I6.os I6.hok I6.bare (yjp.here p' r' (by rw[Rep];exact⟨_,rfl,ex'.get hn⟩))
    |some d=>
     refine wpAny_bind (thn (TT.item Y rfl rfl rfl hc i [] s' st' H' (fun _ _=>False) I' (stat fr') tn' so'.1) fun r s6 ⟨u,er,h6⟩=>?_);subst er;refine wpAny_bind (thn h6 fun _ s7 ⟨xv,H7,I7,r7,y7,tn7,fr7⟩=>?_);obtain⟨eH,hd⟩:=so'.2 xv H7 y7;subst eH;cases et:tg d ρ' with
     |none=>
      have e1:yau nx n tg fi fe (k+1) i ρ' σ'=.bad:=by unfold yau;simp only[en,et]
      rw[zg7 (m':=bad) e1]at p';exact p'.elim
     |some ρ1=>
      have e1:yau nx n tg fi fe (k+1) i ρ' σ'=bnd (nox (fi ρ1)) (fun c=>if c=true then bnd (nox (fe ρ1)) fun y=>bnd (zt3 (.ref n) [y]) fun _=>yau nx n tg fi fe k (i+1) ρ1 else yau nx n tg fi fe k (i+1) ρ1) σ':=by
       conv=>lhs;unfold yau
       simp only[en,et]
      rw[zg7 e1,zg6]at p';have I7':=I7.pinned (stat fr7) (TT.obj _ _ tn7);refine wpAny_bind (thn (htg _ _ _ _ _ _ s7 st' H7 xv u (fun st8 H8=>H8=H7/\yje T μ' H7 ρ1 st8) I7' r7 ⟨μ',σ',ρ',d,ρ1,hE',r',hd,et,fun st8 hE8=>⟨rfl,hE8⟩⟩) fun _ s8 ⟨st8,H8,I8,eH8,hE8⟩=>?_);subst eH8;refine wpAny_bind (thn (hif _ _ _ _ _ _ s8 st8 H8 (fun c H9=>∃ μ9 σ9,Ext μ' H8 μ9 H9/\Rel T μ9 H9 σ9/\yjp T E (Rep T) μ9 H9 (bnd (if c=true then bnd (nox (fe ρ1)) fun y=>bnd (zt3 (.ref n) [y]) fun _=>yau nx n tg fi fe k (i+1) ρ1 else yau nx n tg fi fe k (i+1) ρ1) (fun _=>ret (.ref n)) σ9) Q) I8
       ⟨μ',ρ1,σ',hE8,r',p'.bind0 fun c σ9 μ9 c' H9 _ e9 r9 q9 p9=>by cases q9;exact⟨μ9,σ9,e9,r9,p9⟩⟩) fun c s9 ⟨H9,I9,μ9,σ9,e9,r9,p9⟩=>?_)
      have again:∀ {s11:Shared} {H11:Hp} {μ11:List Addr} {σ11:Sto},Inv Y ([]++yce fp s7.heap) st8 H11 s11->Ext μ' H8 μ11 H11->Rel T μ11 H11 σ11->yjp T E (Rep T) μ11 H11 (bnd (yau nx n tg fi fe k (i+1) ρ1) (fun _=>ret (.ref n)) σ11) Q->
        ∃ m,m<k+1/\∃ i μ' H' σ' ρ' st',Inv Y [] st' H' s11/\tn i s11.heap/\(∀ b∈fp,H' b=none)/\Ext μ3 H3 μ' H'/\yje T μ' H' ρ' st'/\Rel T μ' H' σ'/\yjp T E (Rep T) μ' H' (bnd (yau nx n tg fi fe m i ρ') (fun _=>ret (.ref n)) σ') Q:=by
       intro s11 H11 μ11 σ11 I11 e11 r11 p11;refine⟨k,Nat.lt_succ_self _,i+1,μ11,H11,σ11,ρ1,st8,I11.unpinned,TT.keep _ _ _ tn7 (fun b hb o e=>(I11.pin (b,o) (List.mem_append_right _ (List.mem_append_right _ (zf3 hb e)))).1),fun b hb=>?_,ex'.trans e11,hE8.mono e11,r11,p11⟩;obtain⟨o,e,_⟩:=TT.obj _ _ tn7 b hb;exact(I11.pin (b,o) (List.mem_append_right _ (List.mem_append_right _ (zf3 hb e)))).2.1
      cases c with
      |false=>
       rw[if_neg Bool.false_ne_true]at p9;exact wpAny_pure ⟨rfl,again I9 e9 r9 p9⟩
      |true=>
       rw[if_pos rfl,zg6]at p9;refine wpAny_bind (wpAny_bind (thn (helt _ _ _ _ _ _ s9 st8 H9 (fun v H10=>∃ y μ10 σ10,Ext μ' H8 μ10 H10/\Rel T μ10 H10 σ10/\Rep T μ10 H10 y v/\yjp T E (Rep T) μ10 H10 (bnd (zt3 (.ref n) [y]) (fun _=>bnd (yau nx n tg fi fe k (i+1) ρ1) (fun _=>ret (.ref n))) σ10) Q) I9
        ⟨μ9,ρ1,σ9,hE8.mono e9,r9,p9.bind0 fun y σ10 μ10 v H10 _ e10 r10 q10 p10=>⟨y,μ10,σ10,e9.trans e10,r10,q10,by rw[zg6]at p10;exact p10⟩⟩) fun w s10 ⟨v,H10,I10,rw10,y,μ10,σ10,e10,r10,q10,p10⟩=>?_))
       have happ:=zp6 (Q:=fun _ H11=>∃ μ11 σ11,Ext μ' H8 μ11 H11/\Rel T μ11 H11 σ11/\yjp T E (Rep T) μ11 H11 (bnd (yau nx n tg fi fe k (i+1) ρ1) (fun _=>ret (.ref n)) σ11) Q) r10 ((ex'.trans e10).get hn) q10
        (p10.bind fun _ σ11 μ11 v11 H11 _ e11 r11 q11 p11=>⟨μ11,σ11,e10.trans e11,r11,p11⟩)
       refine wpAny_bind (thn (ziq (X:=Y) _ s10 st8 H10 (.ref D0) [v] (.ref D0) [w] _ I10 rfl (.cons rw10 .nil) happ) fun _ s11 ⟨v11,H11,I11,_,μ11,σ11,e11,r11,p11⟩=>?_);exact wpAny_pure (wpAny_pure ⟨rfl,again I11 e11 r11 p11⟩)
 exact codeAny_compStart_list ylm (TT.self X.A 0 _ _ _ hst4 ylm)
theorem yfg{elt iter tgt:Expr}{ifs:List Expr}{scope:Scope}{pos:Pos}{x:Str}{M':List Str}{ix:List Nat}{src:Ev->M Src}{tg:D->Ev->Option Ev}{fi:Ev->M Bool}{fe:Ev->M D}
  (hc:X.calm=true) (L:LcOk X x M' ix scope) (hsrc:FI T X tgt iter src)
  (htg:∀ cl C s₀ H₀ ex,FG T (blk X (x::M') scope cl C s₀ H₀ ex) tgt tg)
  (hif:∀ cl C s₀ H₀ ex,FIf T (blk X (x::M') scope cl C s₀ H₀ ex) ifs fi)
  (helt:∀ cl C s₀ H₀ ex,FE T (blk X (x::M') scope cl C s₀ H₀ ex) elt fe)
  (hs:∀ y,foldedSetIterable iter X.env y=pure y:=by intro _;rfl) :
  FE T X (.ListComp elt [⟨tgt,iter,ifs,0⟩] scope pos) (eLC src ix tg fi fe):=by
 intro pins s st H Q I h;obtain⟨μ,ρ,σ,hE,hr,hp⟩:=h;rw[eval_ListComp];refine wpAny_comprehension_free (use:=none) rfl hs (zfi X.env scope (zqy I L)) L.kind (fun y hy e=>?_) ?_
 ·have q:=List.all_eq_true.mp L.names y hy;rw[e]at q;simp only[beq_self_eq_true,Bool.not_true,Bool.false_or]at q;exact eq_of_beq q
 have h1:=hsrc pins s st H (fun J H2=>∃ nx μ2 σ2,Ext μ H μ2 H2/\Rel T μ2 H2 σ2/\yee T μ2 H2 nx J/\yjp T (XE X st) (Rep T) μ2 H2 (bnd (yau nx σ2.length tg fi fe 1001 0 (yem ix ρ)) (fun _=>ret (.ref σ2.length)) (σ2++[Ob.lst []])) Q) I
  ⟨μ,ρ,σ,hE,hr,hp.bind fun nx σ1 μ1 J H1 _ e1 r1 q1 p1=>⟨nx,μ1,σ1,e1,r1,q1,p1⟩⟩
 refine thn h1 fun v s1 h2=>thn h2 fun itv s2 h3=>?_;obtain⟨it,fp,tn,J,H2,rfl,I2,TT,st2,f2,nx,μ2,σ2,ex2,r2,so,p2⟩:=h3;refine wpAny_newObj_type (wpAny_newFunctionEnv (ya6 L) (by intro y hy;simp at hy) (fun h₁ hns₁ hsb₁=>?_) L.kind);have I3:=I2.lnew (ys:=[]) (its:=[]) (t':=s2.toks) .nil (by simp);have fr2:H2 s2.heap.objs.size=none:=I2.hok.fresh (Nat.le_refl _);have r3:=r2.push (p:=s2.heap.objs.size) (o:=.lst []) (ob:=.lst []) fr2 ⟨[],zpn,yjv.nil⟩;have ex3:Ext μ2 H2 (μ2++[s2.heap.objs.size]) (upd H2 s2.heap.objs.size (.lst [])):=zk8 fr2;have hsz:s2.heap.objs.size<(s2.heap.push { cls:=.type "list",data:=.seq ([]:List Value).toArray }).objs.size:=by rw[Heap.size_push];exact Nat.lt_succ_self _
 have kp:∀ b o,(s2.heap.push { cls:=.type "list",data:=.seq ([]:List Value).toArray }).get? b=some o->h₁.get? b=some o:=fun b o e=>hsb₁.extBut b o (Nat.ne_of_lt (Heap.lt_size e)) (Heap.get?_push_of_some _ e);have hfp:∀ b∈fp,yjh X pins (upd H2 s2.heap.objs.size (.lst [])) b/\b<(s2.heap.push { cls:=.type "list",data:=.seq ([]:List Value).toArray }).objs.size:=fun b hb=>by
  obtain⟨o,e,_⟩:=TT.obj 0 _ st2 b hb;have lt:=Heap.lt_size e;exact⟨⟨by rw[ydx (Nat.ne_of_lt lt)];exact(f2 b hb).1,(f2 b hb).2⟩,Nat.lt_trans lt hsz⟩
 refine zti (s3:={ s2 with heap:=s2.heap.push { cls:=.type "list",data:=.seq ([]:List Value).toArray },toks:=s2.toks }) (n:=σ2.length) (D0:=s2.heap.objs.size) hc L htg hif helt I3 hfp hns₁ kp TT (TT.keep 0 _ _ st2 fun b hb o e=>kp b o (Heap.get?_push_of_some _ e))
  (fun μ H σ i ex r=>so μ H σ i (ex3.trans ex) r) ((hE.mono ex2).mono ex3) r3 (by rw[<-r2.len];simp) (p2.mono ex3) (fun s6 H' m6 hm6 hC' hu0 hos hok6 hb6 hq=>⟨m6,hm6,fun h7 hs7=>?_⟩)
 have hu:=zxa hu0 hs7 (Nat.le_refl _);have I7:=L2.Inv.call' (s':={ s6 with heap:=h7 }) (ch:=fp) I3 hos hu (zmc hok6 hs7 hC') hb6 (fun b hb=>⟨(hfp b hb).1.2.2.2.1,(hfp b hb).1.2.1,(hfp b hb).1.2.2.2.2.1,(hfp b hb).1.2.2.2.2.2⟩);exact⟨.ref s2.heap.objs.size,H',I7,rfl,hq⟩
theorem zly{elt iter tgt:Expr}{ifs:List Expr}{scope:Scope}{pos spos py:Pos}{x y:Str}{i:Nat}{M':List Str}{ix:List Nat}{src:Ev->M Src}{tg:D->Ev->Option Ev}{fi:Ev->M Bool}{fe:Ev->M D}
  (hN:X.N.Nodup) (hi:X.N[i]?=some y) (hx:Loc X.env.scope y)
  (hc:X.calm=true) (L:LcOk X x M' ix scope) (hsrc:FI T X tgt iter src)
  (htg:∀ cl C s₀ H₀ ex,FG T (blk X (x::M') scope cl C s₀ H₀ ex) tgt tg)
  (hif:∀ cl C s₀ H₀ ex,FIf T (blk X (x::M') scope cl C s₀ H₀ ex) ifs fi)
  (helt:∀ cl C s₀ H₀ ex,FE T (blk X (x::M') scope cl C s₀ H₀ ex) elt fe)
  (hs:∀ y,foldedSetIterable iter X.env y=pure y:=by intro _;rfl)
  (hsw:swapsWith (.ListComp elt [⟨tgt,iter,ifs,0⟩] scope pos) (some (.Name y py)) spos.line X.env=pure true:=by rfl)
  (hf:X.fn y=true\/X.env.scope.names.lookup y=some .local:=by first|exact .inl rfl|exact .inr rfl|assumption) :
  FS T X (.Assign [.Name y py] (.ListComp elt [⟨tgt,iter,ifs,0⟩] scope pos) spos) (ym6 i (eLC src ix tg fi fe)):=by
 intro pins s st H D I h;obtain⟨μ,ρ,σ,hE,hr,hp0⟩:=h;have hp:yjp T (XE X st) (Rep T) μ H (eLC src ix tg fi fe ρ σ) (fun v H1=>D.nx (st.set i (some v)) H1):=hp0.xs hE fun d σ1 μ1 v H1 _ e1 r1 q1 p1=>yjp.here (g:=Gl2.nx (st.set i (some v))) p1 r1 ((hE.mono e1).set i q1);rw[exec_Assign_Name_used _ _ _ _ hsw];refine wpAny_bind (wpAny_standAt (wpAny_bind ?_));show wpAny _ X.A (do let _ <-comprehension (.ListComp elt [⟨tgt,iter,ifs,0⟩] scope pos) scope X.env _ (newList []) false (eval iter X.env) (some (assign (.Name y py) X.env))) _ _ s;refine wpAny_bind (wpAny_mono (wpAny_comprehension_free (use:=some (assign (.Name y py) X.env)) (Q:=fun _ s'=>SP X pins D .next s') rfl hs (zfi X.env scope (zqy I L)) L.kind (fun y hy e=>?_)
  ?_) (fun _ s' hq=>wpAny_pure (wpAny_pure hq)) fun _ _ e=>e)
 ·have q:=List.all_eq_true.mp L.names y hy;rw[e]at q;simp only[beq_self_eq_true,Bool.not_true,Bool.false_or]at q;exact eq_of_beq q
 have h1:=hsrc pins s st H (fun J H2=>∃ nx μ2 σ2,Ext μ H μ2 H2/\Rel T μ2 H2 σ2/\yee T μ2 H2 nx J/\yjp T (XE X st) (Rep T) μ2 H2 (bnd (yau nx σ2.length tg fi fe 1001 0 (yem ix ρ)) (fun _=>ret (.ref σ2.length)) (σ2++[Ob.lst []])) (fun v H1=>D.nx (st.set i (some v)) H1)) I
  ⟨μ,ρ,σ,hE,hr,hp.bind fun nx σ1 μ1 J H1 _ e1 r1 q1 p1=>⟨nx,μ1,σ1,e1,r1,q1,p1⟩⟩
 refine thn h1 fun v s1 h2=>thn h2 fun itv s2 h3=>?_;obtain⟨it,fp,tn,J,H2,rfl,I2,TT,st2,f2,nx,μ2,σ2,ex2,r2,so,p2⟩:=h3;refine wpAny_newObj_type (wpAny_newFunctionEnv (ya6 L) (by intro y hy;simp at hy) (fun h₁ hns₁ hsb₁=>?_) L.kind);have I3:=I2.lnew (ys:=[]) (its:=[]) (t':=s2.toks) .nil (by simp);have fr2:H2 s2.heap.objs.size=none:=I2.hok.fresh (Nat.le_refl _);have r3:=r2.push (p:=s2.heap.objs.size) (o:=.lst []) (ob:=.lst []) fr2 ⟨[],zpn,yjv.nil⟩;have ex3:Ext μ2 H2 (μ2++[s2.heap.objs.size]) (upd H2 s2.heap.objs.size (.lst [])):=zk8 fr2;have hsz:s2.heap.objs.size<(s2.heap.push { cls:=.type "list",data:=.seq ([]:List Value).toArray }).objs.size:=by rw[Heap.size_push];exact Nat.lt_succ_self _
 have kp:∀ b o,(s2.heap.push { cls:=.type "list",data:=.seq ([]:List Value).toArray }).get? b=some o->h₁.get? b=some o:=fun b o e=>hsb₁.extBut b o (Nat.ne_of_lt (Heap.lt_size e)) (Heap.get?_push_of_some _ e);have hfp:∀ b∈fp,yjh X pins (upd H2 s2.heap.objs.size (.lst [])) b/\b<(s2.heap.push { cls:=.type "list",data:=.seq ([]:List Value).toArray }).objs.size:=fun b hb=>by
  obtain⟨o,e,_⟩:=TT.obj 0 _ st2 b hb;have lt:=Heap.lt_size e;exact⟨⟨by rw[ydx (Nat.ne_of_lt lt)];exact(f2 b hb).1,(f2 b hb).2⟩,Nat.lt_trans lt hsz⟩
 refine zti (s3:={ s2 with heap:=s2.heap.push { cls:=.type "list",data:=.seq ([]:List Value).toArray },toks:=s2.toks }) (n:=σ2.length) (D0:=s2.heap.objs.size) hc L htg hif helt I3 hfp hns₁ kp TT (TT.keep 0 _ _ st2 fun b hb o e=>kp b o (Heap.get?_push_of_some _ e))
  (fun μ H σ i ex r=>so μ H σ i (ex3.trans ex) r) ((hE.mono ex2).mono ex3) r3 (by rw[<-r2.len];simp) (p2.mono ex3) (fun s6 H' m6 hm6 hC' hu0 hos hok6 hb6 hq=>?_)
 have I6:=L2.Inv.call' (s':=s6) (ch:=fp) I3 hos hu0 hok6 hb6 (fun b hb=>⟨(hfp b hb).1.2.2.2.1,(hfp b hb).1.2.1,(hfp b hb).1.2.2.2.2.1,(hfp b hb).1.2.2.2.2.2⟩);have ltL:X.env.locals<(s2.heap.push { cls:=.type "list",data:=.seq ([]:List Value).toArray }).objs.size:=I3.lt;have ltC:∀ z c,X.env.cells.lookup z=some c->c<(s2.heap.push { cls:=.type "list",data:=.seq ([]:List Value).toArray }).objs.size:=fun z c e=>by
  obtain⟨v,q⟩:=I3.cell z c e;exact q.lt
 show wpAny _ X.A (assign (.Name y py) X.env (.ref s2.heap.objs.size)) _ _ s6;refine wpAny_assign_Name (zjs (v:=.ref s2.heap.objs.size) I6 hN hi hx rfl (fun s7 I7 ⟨a,sb,ha⟩=>?_) hf);have neC:a≠(s2.heap.push { cls:=.type "list",data:=.seq ([]:List Value).toArray }).objs.size:=by
  rcases ha with rfl|ha
  ·exact Nat.ne_of_lt ltL
  ·exact Nat.ne_of_lt (ltC _ _ ha)
 refine⟨m6,hm6.sameBut sb (Ne.symm neC),fun h8 hs8=>?_⟩;refine⟨st.set i (some (.ref s2.heap.objs.size)),H',?_,hq⟩;exact I7.turned (t':=s7.toks) (it:=(s2.heap.push { cls:=.type "list",data:=.seq ([]:List Value).toArray }).objs.size) (fun b o hb e=>(hs8.2 b hb).trans e) hC' (Nat.ne_of_gt ltL) (.inr (Nat.le_trans I3.sz (Nat.le_refl _))) (fun z c e=>Nat.ne_of_lt (ltC z c e)) (fun p hp=>Nat.ne_of_lt (Heap.lt_size (I3.pin p hp).1))
end
def ygy(x y:D):M D:=fun σ=>match yln σ x,yln σ y with
 |some xs,some ys=>if xs.length+ys.length<=cap then .ok (.lst (xs++ys)) σ else .bad
 |_,_=>.bad
def yls(x y:D):M D:=match x,y with
 | .int i,.int j=>ret (.int (i+j))
 | .tup xs,.tup ys=>if xs.length+ys.length<=cap then ret (.tup (xs++ys))else bad
 | .str a,.str b=>if a.length+b.length<=100000 then ret (.str (a++b))else bad
 |x,y=>ygy x y
theorem zjt{n:Nat}(h:n<=100000):n<=sizeLine:=Nat.le_trans h (by decide)
section
variable{T:Tb}{X:Cx}{a b c:Expr}{fa fb fc:Ev->M D}{pos:Pos}
theorem zkf{prog:Program}{w:World}{A:Around}{F:Value->Shared->Prop}{s:Shared}{t b:Addr}{ws:List Value}{Q:Value->Shared->Prop}(ht:IsTup s.heap t (#[]:Array Value))(hb:IsTup s.heap b ws.toArray)(h1:Q (.ref b) s):wpAny (model prog w) A (binaryOp .Add (.ref t) (.ref b)) Q F s:=by
 obtain⟨⟨cls,dd,data,sl⟩,ho,hc,n,hd⟩:=id ht;obtain⟨⟨cls2,dd2,data2,sl2⟩,ho2,hc2,n2,hd2⟩:=id hb;simp only at hc hd hc2 hd2;subst hc hd hc2 hd2;exact concat_meets ⟨_,ho,rfl⟩ ⟨_,ho2,rfl⟩ noFill_tuple_add seq_tuple_add PySem.F.slot_tuple_add PySem.F.entry_tuple_add (PySem.F.args_tuple_add_2 _ _)
  (tuple_addW0 t b #[] ws.toArray n n2 dd dd2 sl sl2 rfl) ⟨ho,ho2,h1⟩
theorem zj5{E:XK}{μ:List Addr}{H:Hp}{σ:Sto}{x y:D}{v u:V}{v' u':Value}{Q:VK}{pins:List (Addr × Obj)}{s:Shared}{st:St}(I:Inv X pins st H s)(rv:yjs v v')(ru:yjs u u')(r:Rel T μ H σ)(hx:Rep T μ H x v)(hy:Rep T μ H y u)(hp:yjp T E (Rep T) μ H (ygy x y σ) Q) :
  wpAny (model X.prog X.w) X.A (binaryOp .Add v' u') (EP X pins st Q) X.xe s:=by
 unfold ygy at hp;cases e1:yln σ x with
 |none=>rw[e1]at hp;exact hp.elim
 |some xs=>
  cases e2:yln σ y with
  |none=>rw[e1,e2]at hp;exact hp.elim
  |some ys=>
   rw[e1,e2]at hp;dsimp only at hp;by_cases hc:xs.length+ys.length<=cap
   ·rw[if_pos hc]at hp;obtain⟨p,vs,rfl,h1,h2⟩:=r.ls hx e1;obtain⟨q,ws,rfl,h3,h4⟩:=r.ls hy e2;exact ybm pins s st H _ _ v' u' Q I rv ru ⟨p,q,vs,ws,rfl,rfl,h1,h3,by rw[<-h2.length,<-h4.length];exact zxw hc,fun l hl=>ya5 hp r (yjv.append h2 h4) hl⟩
   ·rw[if_neg hc]at hp;exact hp.elim
theorem zuk(hK:T.K=X.K):OpR X (binaryOp .Add) (rD T yls):=by
 intro pins s st H v u v' u' Q I rv ru h;obtain⟨E,μ,σ,x,y,r,hx,hy,hp⟩:=h;cases x with
 |int i=>
  cases y with
  |int j=>exact ybl pins s st H v u v' u' Q I rv ru ⟨i,j,yad hx,yad hy,yjp.here hp r (by rw[Rep])⟩
  |_=>exact zj5 I rv ru r hx hy hp
 |str a=>
  cases y with
  |str b=>
   unfold yls at hp;dsimp only at hp;by_cases hc:a.length+b.length<=100000
   ·rw[if_pos hc]at hp;exact zf7 pins s st H v u v' u' Q I rv ru ⟨a,b,by simpa [Rep]using hx,by simpa [Rep]using hy,zjt hc,yjp.here hp r (by rw[Rep])⟩
   ·rw[if_neg hc]at hp;exact hp.elim
  |_=>exact zj5 I rv ru r hx hy hp
 |tup xs=>
  cases y with
  |tup ys=>
   unfold yls at hp;dsimp only at hp;by_cases hc:xs.length+ys.length<=cap
   ·rw[if_pos hc]at hp;have hx0:=hx;have hy0:=hy;rw[Rep]at hx hy;obtain⟨p,vs,rfl,h1,h2⟩:=hx;obtain⟨q,ws,rfl,h3,h4⟩:=hy;cases vs with
    |nil=>
     have e0:xs=[]:=by have:=h2.length;simpa using this
     subst e0;cases rv;cases ru;obtain⟨its,q1,t1,_⟩:=L2.Inv.tuple I (SqT.of (K:=X.K) h1);obtain⟨its2,q2,t2,_⟩:=L2.Inv.tuple I (SqT.of (K:=X.K) h3);cases q1;exact zkf t1 t2 ⟨.ref q,H,I,rfl,yjp.here hp r (by simpa using hy0)⟩
    |cons v0 vr=>
     refine zul pins s st H _ _ v' u' Q I rv ru ⟨p,q,_,ws,rfl,rfl,SqT.of h1,SqT.of h3,by simp,?_,fun e=>?_,fun e l hl=>?_⟩
     ·rw[<-h2.length,<-h4.length];exact zxw hc
     ·subst e;have e0:ys=[]:=by have:=h4.length;simpa using this
      subst e0;exact yjp.here hp r (by simpa using hx0)
     ·exact zt0 hp r (yjv.append h2 h4) hl
   ·rw[if_neg hc]at hp;exact hp.elim
  |_=>exact zj5 I rv ru r hx hy hp
 |_=>exact zj5 I rv ru r hx hy hp
def zx0(o':D->D->M D)(c:M D)(y:D):D->M D:=yiy (ifK (bnd c (o' y)) (ret (.bl false)))
def zx1(o o':D->D->M D)(c:M D)(x y:D):M D:=bnd (o x y) (zx0 o' c y)
def zxz(o o':D->D->M D)(b c:M D)(x:D):M D:=bnd b (zx1 o o' c x)
def zyj(o o':D->D->M D)(a b c:Ev->M D):Ev->M D:=fun ρ=>bnd (a ρ) (zxz o o' (b ρ) (c ρ))
theorem zlc{op op':CmpOp}{r r':R2}{o o':D->D->M D}(ho:OpR X (compareOp op) r)(hs:yec T r o)(ho':OpR X (compareOp op') r')(hs':yec T r' o')(ha:FE T X a fa)(hb:FE T X b fb)(hc:FE T X c fc)
  (hm:lastMarks [op,op'] [b,c]=false:=by with_unfolding_all rfl):FE T X (.Compare a [op,op'] [b,c] pos) (zyj o o' fa fb fc):=by
 intro pins s st H Q I h;refine znr ho ho' ha hb hc hm pins s st H Q I ?_;obtain⟨μ,ρ,σ,hE,hr,hp⟩:=h;refine⟨μ,ρ,σ,hE,hr,hp.bind fun x σ1 μ1 v H1 _ e1 r1 q1 p1=>⟨μ1,ρ,σ1,hE.mono e1,r1,p1.bind fun y σ2 μ2 w H2 _ e2 r2 q2 p2=>?_⟩⟩;refine hs _ μ2 H2 σ2 x y v w _ r2 (Rep.mono e2 _ _ q1) q2 (p2.bind fun z σ3 μ3 u H3 _ e3 r3 q3 p3=>?_);obtain⟨k,rfl,ev,p4⟩:=ydr q3 p3;refine⟨k,ev,?_⟩;cases k with
 |true=>
  unfold ifK at p4;rw[if_pos rfl]at p4 ⊢;exact⟨μ3,ρ,σ3,((hE.mono e1).mono e2).mono e3,r3,p4.bind fun z σ5 μ5 u5 H5 _ e5 r5 q5 p5=>hs' _ μ5 H5 σ5 y z w u5 Q r5 (Rep.mono e5 _ _ (Rep.mono e3 _ _ q2)) q5 p5⟩
 |false=>unfold ifK at p4;rw[if_neg Bool.false_ne_true]at p4 ⊢;exact yjp.here p4 r3 (by rw[Rep])
theorem hu9{k:Nat}{A:Around}(hr:Room k A):A.units+9<cLine:=by have:=hr.un;omega
end
def yd5(K:PySem.W.Frag)(mg:Str->Option Value)(x:Str)(st:Stmt)(ps:List Str):Prop:=
 ∃ f fd,mg x=some (.ref f)/\Fun K x x st f fd/\∀ us:List Value,us.length=ps.length->bindArgs fd ⟨us,[]⟩=pure (ps.zip us)
def OkF(T:Tb)(P:Program)(w:World)(mg:Str->Option Value)(base:Heap)(k:Nat)(x:Str)(ps:List Str)(fn:List D->M D):Prop:=
 ∃ f fd,mg x=some (.ref f)/\PySem.W.keepIn T.K (.ref f)=true/\(∀ us:List Value,us.length=ps.length->bindArgs fd ⟨us,[]⟩=pure (ps.zip us))/\FnOk P w T.K mg base (CXE P w) k f fd ps (spF T ps.length fn)
section
variable{T:Tb}{X:Cx}
theorem zlb{k:Nat}{ps:List Str}{fn:List D->M D}{x:Str}{p pos:Pos}{e:Expr}{es:List Expr}{fs:Ev->M (List D)}(h:OkF T X.prog X.w X.mg X.base k x ps fn)(hK:T.K=X.K)(hr:Room k X.A)(hg:Gl X x)
  (ha:FA T X (e::es) fs) (hdb:(x == ("__debug__" : Str))=false:=by decide) (he:starEach (e::es) X.env=(false,eval e X.env)::starEach es X.env:=by rfl) (hpl:(backTo pos (starEach es X.env)).any (·.1)=false:=by rfl) :
  FE T X (.Call (.Name x p) (e::es) [] pos) (eFn ps.length fn [] fs):=by
 obtain⟨f,fd,hm,hk,hb,hF⟩:=h;rw[hK]at hk hF;exact zrs (dds:=[]) (dvs:=[]) hF hr hg hm hk (.all hb) .nil (fun _ _=>yjv.nil) ha hdb he hpl
variable{P:Program}{w:World}{K:PySem.W.Frag}{mg:Str->Option Value}{base:Heap}{ca:Nat->Addr}
theorem yhc{k:Nat}{x:Str}{st:Stmt}{ps N:List Str}{g:Ev->M Fl}(h:yd5 K mg x st ps)(S:FnScope N ps (zko st))
  (hb:∀ (f:Addr) (cdv:Value) (A:Around) (outer:List Env) (s:Shared) (H:Hp) (E:XK),Room k (A.deeper (envOfC x (zko st) s.heap.objs.size f cdv))->FSs ⟨K,ca⟩ (ykk (CXE P w) P w K mg base N x (zko st) f cdv A outer s H E) (zq8 st) g) :
  OkF ⟨K,ca⟩ P w mg base (k+1) x ps (run N.length g):=by
 obtain⟨f,fd,hm,F,hbd⟩:=h;obtain⟨oc,od,kV,doc,pm,an,cdv,ct,osl,rfl,lk,hcd⟩:=F.ex;exact⟨f,_,hm,F.kp,hbd,fok lk hcd S (hb f cdv)⟩
theorem OkF.frz{k:Nat}{x:Str}{ps:List Str}{fn:List D->M D}(h:OkF T P w mg base k x ps fn):OkF T P w mg base k x ps (fun ds=>L4.frz (fn ds)):=by
 obtain⟨f,fd,h1,h2,h3,h4⟩:=h;exact⟨f,fd,h1,h2,h3,zr9 h4⟩
theorem mkF{h:Heap}{x:Str}{st:Stmt}{ps:List Str}{f:Addr}{oc:Value}{od an:Option Addr}{osl:Array (Option Value)}{kV doc pm cdv ct:Value}(X:K.In h)(G:h.Ns mainGlobals mg)
  (hb:∀ (kV doc pm:Value) (an:Option Addr) (cdv ct:Value) (us:List Value),us.length=ps.length->bindArgs (PySem.W.fnOf x x (zq7 st) (zq8 st) (zko st) .none kV doc pm an cdv ct) ⟨us,[]⟩=pure (ps.zip us))
  (a:PySem.W.nsIn K mainGlobals x=some (some (.ref f))) (l:K.lookup f=some ⟨oc,od,.func (PySem.W.fnOf x x (zq7 st) (zq8 st) (zko st) .none kV doc pm an cdv ct),osl⟩)
  (c:PySem.W.codeIn K cdv x=true) (k:PySem.W.keepIn K (.ref f)=true):yd5 K mg x st ps:=
 ⟨f,_,PySem.W.mg_of X G a,zz1 l c k,hb kV doc pm an cdv ct⟩
end
theorem yc2{K:PySem.W.Frag}{H:Hp}{a:Addr}{ns:List Int}(hO:yjn H)(h:SqL K H a (ns.map V.int)):Scr K H a ns:=by
 rcases h with(h|⟨o,h⟩)|h
 ·rcases hO a with z|⟨o,xs,z⟩
  ·rw[z]at h;cases h
  ·rw[z]at h;cases h
 ·exact .inl ⟨o,h⟩
 ·exact .inr h
def sp0(K:PySem.W.Frag):Sp:=fun vs H Q E=>∃ (a:Addr) (ns:List Int),vs=[.ref a]/\ns.length<=63/\yjn H/\SqL K H a (ns.map V.int)/\∀ v H',v=.bl true->Q v H'
theorem ydf{K:PySem.W.Frag}{ca:Nat->Addr}{fn:List D->M D}(tr:∀ ns:List Int,ns.length<=63->∃ σ,fn [.scr ns] []=.ok (.bl true) σ){vs:List V}{H:Hp}{Q:VK}{E:XK}(h:sp0 K vs H Q E):spF ⟨K,ca⟩ 1 fn vs H Q E:=by
 obtain⟨a,ns,rfl,hl,hO,hS,hq⟩:=h;obtain⟨σ,e⟩:=tr ns hl;refine⟨[],[],[.scr ns],yjv.cons (by rw[Rep];exact⟨a,rfl,yc2 hO hS⟩) yjv.nil,rfl,⟨rfl,List.nodup_nil,fun n o q=>by simp at q⟩,?_⟩;rw[e];intro μ' v H' _ _ r;rw[Rep]at r;exact hq v H' r
def OkL(T:Tb)(P:Program)(w:World)(mg:Str->Option Value)(k:Nat)(x:Str)(ps:List Str)(fn:List D->M D):Prop:=
 ∃ f fd,mg x=some (.ref f)/\(∀ us:List Value,us.length=ps.length->bindArgs fd ⟨us,[]⟩=pure (ps.zip us))/\∀ base:Heap,FnOk P w T.K mg base (CXE P w) k f fd ps (spF T ps.length fn)
theorem ybk{P:Program}{w:World}{K:PySem.W.Frag}{mg:Str->Option Value}{ca:Nat->Addr}{k:Nat}{x:Str}{st:Stmt}{ps N:List Str}{g:Ev->M Fl}(h:yd5 K mg x st ps)(S:FnScope N ps (zko st))
  (hb:∀ (base:Heap) (f:Addr) (cdv:Value) (A:Around) (outer:List Env) (s:Shared) (H:Hp) (E:XK),Room k (A.deeper (envOfC x (zko st) s.heap.objs.size f cdv))->FSs ⟨K,ca⟩ (ykk (CXE P w) P w K mg base N x (zko st) f cdv A outer s H E) (zq8 st) g) :
  OkL ⟨K,ca⟩ P w mg (k+1) x ps (run N.length g):=by
 obtain⟨f,fd,hm,F,hbd⟩:=h;obtain⟨oc,od,kV,doc,pm,an,cdv,ct,osl,rfl,lk,hcd⟩:=F.ex;exact⟨f,_,hm,hbd,fun base=>fok lk hcd S (hb base f cdv)⟩
theorem yi4{l:PySem.W.OpenLaw}{q:Program}{loose:List Str}{XP:(Str->Option Value)->Heap->Prop}{YP:World->Heap->Prop}{d:DefRec}{K:Params->PySem.W.Frag}{k:Nat}{x:Str}{fn:List D->M D}
  (hn:l.most=some 63) (hdf:d.params.defaults=[]) (hr:Room k callerA) (hY:∀ (w:World) (h:Heap),YP w h->(K w.params).In h)
  (F:∀ (w:World) (mg:Str->Option Value) (h:Heap),(K w.params).In h->h.Ns mainGlobals mg->∃ ca,OkL ⟨K w.params,ca⟩ l.prog w mg k d.name [x] fn)
  (tr:∀ ns:List Int,ns.length<=63->∃ σ,fn [.scr ns] []=.ok (.bl true) σ) :
  PySem.W.WalkO q loose XP YP l.row.toRowW d [] (fun f vs=>PySem.call f vs):=by
 refine L2.zxd (n:=63) (k:=k) (x:=x) (CX:=fun w=>CXE l.prog w) (sp:=fun w=>sp0 (K w.params)) hn (by decide) hdf hr hY (fun w mg fa h KX G hmg=>?_) (fun w H a ns hl hO hS=>⟨a,ns,rfl,hl,hO,hS,fun _ _ e=>e⟩) (fun w H s e s' z=>?_)
 ·obtain⟨ca,f0,fd0,g1,g3,g4⟩:=F w mg h KX G;rw[hmg]at g1;cases g1;exact⟨fd0,fun s u=>.of_eq (g3 [u] rfl),fun base hb hg=>(g4 base).imp fun vs H Q E z=>ydf tr z⟩
 ·obtain⟨cls,fd,H',_,z⟩:=z;exact z
section
variable{T:Tb}{X:Cx}
end
structure Hd where
 t:Nat->Option Bool
 nm:Option Nat
 g:Ev->M Fl
abbrev Cx.inH(X:Cx)(e:Value):Cx:={ X with A:=X.A.mark (some e),calm:=false,xe:=fun _ _=>False }
abbrev Cx.inT(X:Cx)(pins:List (Addr × Obj))(xe:Value->Shared->Prop):Cx:={ X with xe:=xe,pn:=X.pn++pins }
section
variable{T:Tb}{X:Cx}{pins:List (Addr × Obj)}{st:St}{H:Hp}{s:Shared}{e:Value}{xe:Value->Shared->Prop}
end
def Lnd(X:Cx)(pins:List (Addr × Obj))(st:St)(H:Hp)(s:Shared)(ea:Addr)(cls:Value)(fd:Option Nat):Prop:=∃ H0 s0,Inv X pins st H0 s0/\Fly X.prog X.w X.stack H0 s0 cls fd H (.ref ea) s
section
variable{T:Tb}{X:Cx}{pins:List (Addr × Obj)}{st:St}{H:Hp}{s:Shared}{ea:Addr}{cls:Value}{fd:Option Nat}
theorem Lnd.next(L:Lnd X pins st H s ea cls fd){M:Model}{A:Around}{E:Value->Shared->Prop}{Q:Unit->Shared->Prop}(h:∀ s',Lnd X pins st H s' ea cls fd->Q () s'):wpAny M A (setFlight (.ref ea) none) Q E s:=by
 obtain⟨H0,s0,I,F⟩:=L;obtain⟨ea',a0,B,e,fl,hn,hnew,hT,hB,hA,hF⟩:=F.ex;cases e;refine ztf fl fun h6 fl6 sl6 dk6=>h _ ?_;obtain⟨un,hok⟩:=zzm F hB hT hA fl.1 fl6.1 sl6 (zfn I);exact⟨H0,s0,I,⟨ea,a0,B,rfl,fl6,hn,hnew,hT,hB,hA,hF.next dk6 (let ⟨o,e,_⟩:=fl6.there;⟨o,e⟩)⟩,F.os,F.bare,un,hok⟩
theorem Lnd.obj(L:Lnd X pins st H s ea cls fd):H ea=none/\(∃ o,s.heap.get? ea=some o/\o.cls=cls)/\∃ s0:Shared,s0.heap.get? ea=none/\∃ H0,Inv X pins st H0 s0:=by
 obtain⟨H0,s0,I,F⟩:=L;obtain⟨ea',a0,B,e,fl,hn,hnew,hT,hB,hA,hF⟩:=F.ex;cases e;exact⟨hn,fl.there,s0,hnew,H0,I⟩
end
def yd6(X:Cx)(x:Str)(cv:Value):Prop:=X.mg x=some cv\/(X.mg x=none/\bootBuiltins x=some cv/\x ≠ "__name__")
inductive FHs(T:Tb)(X:Cx):List ExceptHandler->List Hd->Prop where
 |nil:FHs T X [] []
 |cons {x:Str} {np pos:Pos} {cv:Value} {b₀:Stmt} {suite:List Stmt} {t:Nat->Option Bool} {g:Ev->M Fl} {r:List ExceptHandler} {hs:List Hd} (hg:Gl X x) (hd:(x == ("__debug__" : Str))=false) (hm:yd6 X x cv) (ht:∀ c b,t c=some b->PySem.W.exmOne X.K (.ref (T.ca c)) cv=some b)
   (hb:∀ e,FSs T (Cx.inH X e) (b₀::suite) g) (hr:FHs T X r hs):FHs T X (.ExceptHandler (some (.Name x np)) none (b₀::suite) pos::r) (⟨t,none,g⟩::hs)
 |consAs {x n:Str} {i:Nat} {np pos:Pos} {cv:Value} {b₀:Stmt} {suite:List Stmt} {t:Nat->Option Bool} {g:Ev->M Fl} {r:List ExceptHandler} {hs:List Hd} (hg:Gl X x) (hd:(x == ("__debug__" : Str))=false) (hm:yd6 X x cv) (ht:∀ c b,t c=some b->PySem.W.exmOne X.K (.ref (T.ca c)) cv=some b)
   (hN:X.N.Nodup) (hi:X.N[i]?=some n) (hl:X.env.scope.names.lookup n=some .local)
   (hb:∀ e,FSs T (Cx.inH X e) (b₀::suite) g) (hr:FHs T X r hs):FHs T X (.ExceptHandler (some (.Name x np)) (some n) (b₀::suite) pos::r) (⟨t,some i,g⟩::hs)
section
variable{T:Tb}{X:Cx}
end
theorem zsj{T:Tb}{X:Cx}{stm:Stmt}{i:Nat}{f:Ev->M D}(h:FS T X stm (ym6 i f)):FS T X stm (ym6 i (ykp f)):=by
 intro pins s st H D I hw;obtain⟨μ,ρ,σ,hE,hr,hp⟩:=hw;refine h pins s st H D I ⟨μ,ρ,σ,hE,hr,?_⟩;have hp':yjp T EN (RFl T) μ H (xs ρ (frz (f ρ)) (ym8 i ρ) σ) (yjf X D):=hp;show yjp T EN (RFl T) μ H (xs ρ (f ρ) (ym8 i ρ) σ) (yjf X D);unfold xs frz at hp';unfold xs;cases e:f ρ σ with
 |bad=>rw[e]at hp';exact hp'
 |ex x σ1=>
  rw[e]at hp';unfold yk2 at hp';dsimp only at hp' ⊢;by_cases ht:σ1.take σ.length=σ
  ·rw[if_pos ht]at hp';intro μ1 gl H1 e1 r1 q1;cases gl with
   |xc st1 c1 fd1=>
    obtain⟨r2,e2⟩:=Rel.down hr r1 e1 ht;obtain⟨qE,qc⟩:=q1;refine hp' μ (.xc st1 c1 fd1) H1 e2 r2 ⟨⟨qE.1,fun j d ej=>?_⟩,qc⟩;obtain⟨v,h1,h2⟩:=qE.2 j d ej;obtain⟨v0,_,h4⟩:=hE.2 j d ej;exact⟨v,h1,Rep.down e1.pre d v0 v h4 h2⟩
   |_=>exact q1.elim
  ·rw[if_neg ht]at hp';exact hp'.elim
 |ok d σ1=>
  rw[e]at hp';unfold yk2 at hp';dsimp only at hp' ⊢;by_cases ht:σ1.take σ.length=σ
  ·rw[if_pos ht]at hp';cases ef:fz σ.length σ1 6 d with
   |none=>rw[ef]at hp';exact hp'.elim
   |some d'=>
    rw[ef]at hp';intro μ1 gl H1 e1 r1 q1;cases gl with
    |nx st1=>
     obtain⟨r2,e2⟩:=Rel.down hr r1 e1 ht;have q1':yje T μ1 H1 (ρ.set i (some d)) st1:=q1;refine hp' μ (.nx st1) H1 e2 r2 ⟨by simpa using q1'.1,fun j x ej=>?_⟩;rw[List.getElem?_set]at ej;by_cases hj:i=j
     ·subst hj;rw[if_pos rfl]at ej;split at ej
      ·rename_i hl
       cases ej;obtain⟨v,h1,h2⟩:=q1'.2 i d (by rw[List.getElem?_set,if_pos rfl,if_pos hl]);exact⟨v,h1,zz4 e1.pre r1 6 d d' v (by rw[hr.len];exact ef) h2⟩
      ·cases ej
     ·rw[if_neg hj]at ej;obtain⟨v,h1,h2⟩:=q1'.2 j x (by rw[List.getElem?_set,if_neg hj];exact ej);obtain⟨v0,_,h4⟩:=hE.2 j x ej;exact⟨v,h1,Rep.down e1.pre x v0 v h4 h2⟩
    |_=>exact q1.elim
  ·rw[if_neg ht]at hp';exact hp'.elim
def yeo:List D->Option (List Bool)
 |[]=>some []
 | .bl b::r=>(yeo r).map (b::·)
 |_::_=>none
def yae:List D->Option (List Int)
 |[]=>some []
 | .int b::r=>(yae r).map (b::·)
 |_::_=>none
theorem zqk{T:Tb}{μ:List Addr}{H:Hp}:∀ {ds:List D} {vs:List V} {bs:List Bool},yjv T μ H ds vs->yeo ds=some bs->vs=bs.map V.bl
 |[],vs,bs,r,h=>by cases h;rw[yjv]at r;exact r
 |d::ds,vs,bs,r,h=>by
  rw[yjv]at r;obtain⟨v,w,rfl,h1,h2⟩:=r;cases d with
  |bl b=>
   obtain⟨cs,e1,e2⟩:=Option.map_eq_some_iff.mp h;subst e2;rw[Rep]at h1;subst h1;rw[zqk h2 e1];rfl
  |_=>cases h
theorem zmg{T:Tb}{μ:List Addr}{H:Hp}:∀ {ds:List D} {vs:List V} {bs:List Int},yjv T μ H ds vs->yae ds=some bs->vs=bs.map V.int
 |[],vs,bs,r,h=>by cases h;rw[yjv]at r;exact r
 |d::ds,vs,bs,r,h=>by
  rw[yjv]at r;obtain⟨v,w,rfl,h1,h2⟩:=r;cases d with
  |int b=>
   obtain⟨cs,e1,e2⟩:=Option.map_eq_some_iff.mp h;subst e2;rw[Rep]at h1;subst h1;rw[zmg h2 e1];rfl
  |_=>cases h
def ylt(xs:List D):M D:=fun σ=>match xs with
 |[x]=>(match (yif σ x).bind yeo with
  |some bs=>.ok (.bl (bs.all id)) σ
  |none=>.bad)
 |_=>.bad
def ymb(xs:List D):M D:=fun σ=>match xs with
 |[x]=>(match (yif σ x).bind yae with
  |some bs=>.ok (.int bs.sum) σ
  |none=>.bad)
 |_=>.bad
section
variable{T:Tb}{X:Cx}
def yhv(K:PySem.W.Frag)(g:List Bool->Bool):List V->Hp->VK->Prop:=fun xs H Q=>∃ p bs,xs=[.ref p]/\(SqL K H p (bs.map V.bl)\/SqT K H p (bs.map V.bl))/\Q (.bl (g bs)) H
def yh6(K:PySem.W.Frag):List V->Hp->VK->Prop:=fun xs H Q=>∃ (p:Addr) (bs:List Int),xs=[.ref p]/\(SqL K H p (bs.map V.int)\/SqT K H p (bs.map V.int))/\Q (.int bs.sum) H
theorem zxb:∀ {bs:List Bool} {us:List Value},yj1 (bs.map V.bl) us->us=bs.map Value.bool
 |[],us,h=>by cases h;rfl
 |b::bs,us,h=>by
  cases h with
  |cons r t=>cases r;rw[zxb t];rfl
theorem zn4{α:Type}(g:α->Bool)(d:α):∀ (bs:List α),(List.range bs.length).all (fun i=>g (bs.getD i d))=bs.all g
 |[]=>rfl
 |b::bs=>by
  rw[List.length_cons,List.range_succ_eq_map,List.all_cons,List.all_map,List.all_cons];congr 1;rw[<-zn4 g d bs];congr 1
theorem zpj{prog:Program}{w:World}{A:Around}(bs:List Bool):TruthOf prog w A (fun i v=>(bs.map Value.bool).toArray[i]?=some v) (fun i=>bs.getD i false):=by
 intro i v s Q E hP hQ;simp only[List.getElem?_toArray,List.getElem?_map]at hP;cases e:bs[i]? with
 |none=>rw[e]at hP;cases hP
 |some b=>
  rw[e]at hP;cases hP;have hQ':Q (bs.getD i false) s:=hQ;rw[List.getD_eq_getElem?_getD,e]at hQ';exact wpAny_truthy_bool hQ'
theorem zmo{s:Shared}{o:Obj}{h':Heap}(k:∀ b u,b ∉ [s.heap.objs.size]->(s.heap.push o).get? b=some u->h'.get? b=some u):∀ b u,s.heap.get? b=some u->h'.get? b=some u:=fun b u e=>
 k b u (fun z=>absurd (Heap.lt_size e) (by rw[List.mem_singleton.mp z];exact Nat.lt_irrefl _)) (Heap.get?_push_of_some _ e)
theorem zpu{pins:List (Addr × Obj)}{s:Shared}{st:St}{H:Hp}{p:Addr}{vs:List V}{E:Value->Shared->Prop}{Q:Value->Shared->Prop}(hh:X.A.handled=none)(I:Inv X pins st H s)(hq:SqL X.K H p vs\/SqT X.K H p vs)
  (h:∀ (its:List Value) (It:Addr) (fp:List Addr) (St:Nat->Heap->Prop) (s2:Shared),yj1 vs its->Walks X.prog X.w X.A.in1 It fp [It] its.toArray.size (fun i v=>its.toArray[i]?=some v) St->St 0 s2.heap->(∀ b∈fp,b<s2.heap.objs.size)->
   (∀ h' tk,(∀ b o,b ∉ [It]->s2.heap.get? b=some o->h'.get? b=some o)->Inv X pins st H { s2 with heap:=h',toks:=tk })->Q (.ref It) s2):wpAny (model X.prog X.w) X.A.in1 (pyIter (.ref p)) Q E s:=by
 rcases hq with hq|hq
 ·obtain⟨its,rv,pl,hz⟩:=I.list hq;have hlt:p<s.heap.objs.size:=by obtain⟨_,e,_⟩:=pl.isList;exact Heap.lt_size e
  refine wpAny_pyIter_list pl.isList (h its s.heap.objs.size [s.heap.objs.size,p] _ _ rv (Walks.list (A:=X.A.in1) hh _ p (Nat.ne_of_lt hlt) its.toArray) ⟨⟨_,Heap.get?_push_size _ rfl,rfl,rfl⟩,pl.isList.push _⟩ (fun b hb=>?_) (fun h' tk hk=>I.kept (zmo hk)));show b<(s.heap.push _).objs.size;rw[Heap.size_push];simp only[List.mem_cons,List.not_mem_nil,or_false]at hb;rcases hb with rfl|rfl
  ·exact Nat.lt_succ_self _
  ·exact Nat.lt_succ_of_lt hlt
 ·obtain⟨its,rv,pl,hz⟩:=I.tuple hq;have hlt:p<s.heap.objs.size:=pl.lt;refine wpAny_pyIter_tuple (show s.heap.IsTuple p _ from pl) (h its s.heap.objs.size [s.heap.objs.size,p] _ _ rv (Walks.tuple (A:=X.A.in1) hh _ p (Nat.ne_of_lt hlt) its.toArray) ⟨⟨_,Heap.get?_push_size _ rfl,rfl,rfl⟩,Heap.IsTuple.push (show s.heap.IsTuple p _ from pl) _⟩ (fun b hb=>?_) (fun h' tk hk=>I.kept (zmo hk)));show b<(s.heap.push _).objs.size;rw[Heap.size_push];simp only[List.mem_cons,List.not_mem_nil,or_false]at hb;rcases hb with rfl|rfl
  ·exact Nat.lt_succ_self _
  ·exact Nat.lt_succ_of_lt hlt
theorem zkb(hc:X.calm=true):yd2 X (.builtin "all") (yhv X.K fun bs=>bs.all id):=by
 intro pins s st H xs us Q I r h;obtain⟨p,bs,rfl,hq,q⟩:=h;obtain⟨u,rfl,ru⟩:=yi2 r;cases ru;refine call_all_walk (zpu (I.ok.hd hc) I hq fun its It fp St s2 rv W h0 hf hI=>?_);have ei:=zxb rv;subst ei;refine⟨_,_,_,_,_,_,fun i=>bs.getD i false,rfl,W,h0,zpj bs,fun h' tk hk=>⟨.bl (bs.all id),H,hI h' tk hk,?_,q⟩⟩;show Value.bool _=Value.bool _;rw[List.size_toArray,List.length_map];exact congrArg Value.bool (zn4 id false bs)
theorem ze0:∀ (bs:List Int) (n:Nat),n<=bs.length->preSum (fun i=>bs.getD i 0) n=(bs.take n).sum
 |bs,0,_=>by simp[preSum]
 |bs,n+1,h=>by
  rw[preSum,ze0 bs n (by omega),List.take_succ_eq_append_getElem (by omega),List.sum_append];simp[List.getD_eq_getElem?_getD,show n<bs.length by omega]
theorem zhg(hc:X.calm=true):yd2 X (.builtin "sum") (yh6 X.K):=by
 intro pins s st H xs us Q I r h;obtain⟨p,bs,rfl,hq,q⟩:=h;obtain⟨u,rfl,ru⟩:=yi2 r;cases ru;refine call_sum_walkG (zpu (I.ok.hd hc) I hq fun its It fp St s2 rv W h0 hf hI=>?_);refine⟨_,_,_,_,_,_,fun i=>bs.getD i 0,rfl,W,h0,hf,fun i v hv=>?_,fun h' tk t' hk=>⟨.int bs.sum,H,hI h' tk hk,⟨t',?_⟩,q⟩⟩
 ·simp only[List.getElem?_toArray]at hv;obtain⟨x,h1,h2⟩:=zpr rv hv;rw[List.getElem?_map]at h1;cases e:bs[i]? with
  |none=>rw[e]at h1;cases h1
  |some b=>
   rw[e]at h1;cases h1;obtain⟨t,rfl⟩:=h2;exact⟨t,by show Value.int b t=Value.int (bs.getD i 0) t;rw[List.getD_eq_getElem?_getD,e];rfl⟩
 ·have el:its.toArray.size=bs.length:=by rw[List.size_toArray,<-rv.length,List.length_map]
  rw[el,ze0 bs _ (Nat.le_refl _),List.take_length]
theorem zol{α:Type}{σ:Sto}{x:D}{g:List D->Option α}{bs:α}(h:(yif σ x).bind g=some bs):∃ ys,yif σ x=some ys/\g ys=some bs:=Option.bind_eq_some_iff.mp h
theorem zwi(hK:T.K=X.K):zpy T (yhv X.K fun bs=>bs.all id) ylt:=by
 intro E μ H σ xs vs Q r p h
 match xs with
 |[]=>exact h.elim
 |[x]=>
  rw[yjv]at p;obtain⟨v,w,rfl,p1,p2⟩:=p;rw[yjv]at p2;subst p2;unfold ylt at h;cases e:(yif σ x).bind yeo with
  |none=>simp only[e]at h;exact h.elim
  |some bs=>
   simp only[e]at h;obtain⟨ys,e1,e2⟩:=zol e;obtain⟨b,vs,rfl,h1,h2⟩:=zv8 r p1 e1;rw[hK,zqk h1 e2]at h2;exact⟨b,bs,rfl,h2,yjp.here h r (by rw[Rep])⟩
 |_::_::_=>exact h.elim
theorem zwu(hK:T.K=X.K):zpy T (yh6 X.K) ymb:=by
 intro E μ H σ xs vs Q r p h
 match xs with
 |[]=>exact h.elim
 |[x]=>
  rw[yjv]at p;obtain⟨v,w,rfl,p1,p2⟩:=p;rw[yjv]at p2;subst p2;unfold ymb at h;cases e:(yif σ x).bind yae with
  |none=>simp only[e]at h;exact h.elim
  |some bs=>
   simp only[e]at h;obtain⟨ys,e1,e2⟩:=zol e;obtain⟨b,vs,rfl,h1,h2⟩:=zv8 r p1 e1;rw[hK,zmg h1 e2]at h2;exact⟨b,bs,rfl,h2,yjp.here h r (by rw[Rep])⟩
 |_::_::_=>exact h.elim
def yg8(xs:List D):M D:=match xs with
 |[.int i,.int j]=>ret (.int (max i j))
 |_=>bad
theorem zpm{μ:List Addr}{H:Hp}{x y:D}{vs:List V}(p:yjv T μ H [x,y] vs):∃ v u,vs=[v,u]/\Rep T μ H x v/\Rep T μ H y u:=by
 rw[yjv]at p;obtain⟨v,w,rfl,p1,p2⟩:=p;rw[yjv]at p2;obtain⟨u,w',rfl,p3,p4⟩:=p2;rw[yjv]at p4;subst p4;exact⟨v,u,rfl,p1,p3⟩
theorem zo2:zpy T (fun xs H Q=>∃ i j,xs=[.int i,.int j]/\Q (.int (if j > i then j else i)) H) yg8:=by
 intro E μ H σ xs vs Q r p h;unfold yg8 at h;split at h
 ·rename_i i j
  obtain⟨v,u,rfl,p1,p2⟩:=zpm p;refine⟨i,j,by rw[yad p1,yad p2],?_⟩;have e:(if j > i then j else i)=max i j:=by rw[Int.max_def];split<;>split<;>omega
  rw[e];exact yjp.here h r (by rw[Rep])
 ·exact h.elim
def ddp(ns:List Int):List Int:=ns.foldl step_dedup []
theorem zhq(ns:List Int):firstMet (fun i=>ns.getD i 0) ns.length=ddp ns:=by
 unfold firstMet ddp;congr 1;apply List.ext_getElem?;intro i;by_cases h:i<ns.length
 ·simp[h]
 ·simp[h]
theorem zke{n:Nat}(h:n<=cap):n+1<scanBound:=Nat.lt_of_le_of_lt (Nat.succ_le_succ h) (by decide)
def ykh(xs:List D)(lo hi:Option Int):List D:=(xs.drop (HT.sIx xs.length 0 lo)).take (HT.sIx xs.length xs.length hi - HT.sIx xs.length 0 lo)
theorem zfj{xs:List D}{lo hi:Option Int}(h:HT.sIx xs.length 0 lo=0/\HT.sIx xs.length xs.length hi=xs.length):ykh xs lo hi=xs:=by
 unfold ykh;rw[h.1,h.2];simp
theorem zkl{μ:List Addr}{H:Hp}{xs:List D}{vs:List V}(r:yjv T μ H xs vs)(lo hi:Option Int):yjv T μ H (ykh xs lo hi) (ykj vs lo hi):=by
 unfold ykh ykj;rw[r.length];exact yjv.take _ (yjv.drop _ r)
end
end L4
namespace HT
open PySem PySem.Spec PyProof.Rows
variable{prog:Program}{w:World}{A:Around}{E:Value->Shared->Prop}{s:Shared}
theorem getItem_tuple_all{t sl:Addr}{items:Array Value}{vl vu:Value}{lo hi:Option Int}{Q:Value->Shared->Prop}(ht:IsTup s.heap t items)(hs:s.heap.IsSliceOf sl vl vu .none)(pl:IsPart vl lo)(pu:IsPart vu hi)
  (hw:sIx items.size 0 lo=0/\sIx items.size items.size hi=items.size) (h:Q (.ref t) s):wpAny (model prog w) A (getItem (.ref t) (.ref sl)) Q E s:=by
 obtain⟨os,hos,hcs,hds⟩:=id hs;have hTs:s.TypeIs (.ref sl) "slice":=⟨os,hos,hcs⟩
 unfold getItem;try with_reducible refine wpAny_holding ?_
 first|refine wpAny_bind (wpAny_pure ?_)|skip
 refine wpAny_bind (wpAny_sequenceKey ht.typeIs (by decide) ?_);refine wpAny_bind (wpAny_callSpecial?_slot (name:=Str.ofString "__getitem__") ht.typeIs PyProof.Rows.slot_tuple_getitem
  (wpAny_call_entry PyProof.Rows.slot_tuple_getitem ht.typeIs entry_tuple_getitem ?_ (args_tuple_getitem _ _)))
 show wpAny _ _ (Builtin.Tuple.tupleItemsOf (.ref t) >>= _) _ _ s;refine wpAny_bind (tupleItemsOf_ ht ?_);refine wpAny_bind (wpAny_typeOf hTs ?_);rw[if_pos (by decide)];refine wpAny_bind (zar hs pl pu ?_);have hyes:(((sIx items.size 0 lo:Nat):Int) == 0 && (1:Int) == 1 && (sIx items.size items.size hi - sIx items.size 0 lo) == items.size)=true:=by
  rw[hw.1,hw.2];simp
 show wpAny _ _ (if (((sIx items.size 0 lo:Nat):Int) == 0 && (1:Int) == 1 && (sIx items.size items.size hi - sIx items.size 0 lo) == items.size)=true then _ else _) _ _ s;rw[if_pos hyes];obtain⟨o,ho,hc,hr⟩:=id ht;unfold Builtin.Tuple.tupleIsExact;refine wpAny_bind (wpAny_bind (wpAny_typeOf ht.typeIs ?_));refine wpAny_pure ?_;rw[if_pos (by decide)];refine wpAny_bind (wpAny_rule ?_);first
  |exact wpAny_pure ⟨_,rfl,wpAny_pure h⟩
  |exact wpAny_pure (wpAny_pure ⟨_,rfl,wpAny_pure h⟩)
  |exact wpAny_bind (wpAny_pure (wpAny_pure ⟨_,rfl,wpAny_pure h⟩))
end HT
namespace L4
open PySem PySem.Spec PyProof.Rows L2
section
variable{T:Tb}{X:Cx}
def ymp(K:PySem.W.Frag):V->Option Int->Option Int->Hp->VK->Prop:=fun x lo hi H Q=>∃ a xs,x=.ref a/\SqT K H a xs/\(HT.sIx xs.length 0 lo=0/\HT.sIx xs.length xs.length hi=xs.length)/\Q (.ref a) H
theorem yc6:SlR X (ymp X.K):=by
 intro pins s st H x v vl vu lo hi sl Q I rx hs pl pu h;obtain⟨a,xs,rfl,hx,hw,q⟩:=h;cases rx;obtain⟨its,r,ht,hz⟩:=I.tuple hx;have hlen:its.toArray.size=xs.length:=by rw[List.size_toArray];exact r.length.symm
 exact⟨"tuple",_,PyProof.Rows.slot_tuple_getitem.lookup,ht.typeIs,HT.getItem_tuple_all ht hs pl pu (by rw[hlen];exact hw) ⟨.ref a,H,I,rfl,q⟩⟩
abbrev PF:=Option (Ev->M D)
def yhh(d:D):M (Option Int):=match d with
 | .int i=>ret (some i)
 |_=>bad
def yfa(p:PF):Ev->M (Option Int):=match p with
 |none=>fun _=>ret none
 |some f=>fun ρ=>bnd (f ρ) yhh
def tP(T:Tb)(X:Cx)(f:Ev->M (Option Int)):TO:=fun st H Q=>∃ μ ρ σ,yje T μ H ρ st/\Rel T μ H σ/\yjp T (XE X st) (fun _ _ a b=>b=a) μ H (f ρ σ) Q
abbrev FO(T:Tb)(X:Cx)(e:Option Expr)(p:PF):Prop:=PO X e (tP T X (yfa p))
theorem zr6:FO T X none none:=by
 intro pins s st H Q I h;obtain⟨μ,ρ,σ,hE,hr,hp⟩:=h;exact zu2 pins s st H Q I (yjp.here hp hr rfl)
theorem zr7{e:Expr}{f:Ev->M D}(he:FE T X e f):FO T X (some e) (some f):=by
 intro pins s st H Q I h;refine zu3 he pins s st H Q I ?_;obtain⟨μ,ρ,σ,hE,hr,hp⟩:=h;refine⟨μ,ρ,σ,hE,hr,yjp.bind hp fun d σ1 μ1 v H1 _ e1 r1 q1 p1=>?_⟩;cases d with
 |int i=>exact⟨i,yad q1,yjp.here p1 r1 rfl⟩
 |_=>exact p1.elim
def yki(x:D)(lo hi:Option Int):M D:=fun σ=>match x with
 | .tup xs=>.ok (.tup (ykh xs lo hi)) σ
 | .scr ns=>.ok (.lst (ykh (ns.map D.int) lo hi)) σ
 |x=>(match yln σ x with
  |some xs=>.ok (.lst (ykh xs lo hi)) σ
  |none=>.bad)
def ynb(x:D)(lo:Option Int)(hi:Option Int):M D:=yki x lo hi
def yna(x:D)(hi:M (Option Int))(lo:Option Int):M D:=bnd hi (ynb x lo)
def ym9(lo hi:M (Option Int))(x:D):M D:=bnd lo (yna x hi)
def eSl(f:Ev->M D)(lo hi:PF):Ev->M D:=fun ρ=>bnd (f ρ) (ym9 (yfa lo ρ) (yfa hi ρ))
theorem zlf{e:Expr}{lo hi:Option Expr}{f:Ev->M D}{pl ph:PF}{pos p2:Pos}(hK:T.K=X.K)(he:FE T X e f)(hl:FO T X lo pl)(hh:FO T X hi ph):FE T X (.Subscript e (.Slice lo hi none p2) pos) (eSl f pl ph):=by
 intro pins s st H Q I h;refine znt (SlR.or yc7 (SlR.or yc6 zwd)) he hl hh pins s st H Q I ?_;obtain⟨μ,ρ,σ,hE,hr,hp⟩:=h;refine⟨μ,ρ,σ,hE,hr,hp.bind fun d σ1 μ1 v H1 _ e1 r1 q1 p1=>⟨μ1,ρ,σ1,hE.mono e1,r1,p1.bind fun l σ2 μ2 l' H2 _ e2 r2 q2 p2=>⟨μ2,ρ,σ2,(hE.mono e1).mono e2,r2,p2.bind fun u σ3 μ3 u' H3 _ e3 r3 q3 p3=>?_⟩⟩⟩;have q2':l'=l:=q2;have q3':u'=u:=q3;subst q2';subst q3';have rd:Rep T μ3 H3 d v:=Rep.mono e3 _ _ (Rep.mono e2 _ _ q1);have lists:∀ ys,yln σ3 d=some ys->yjp T (XE X st) (Rep T) μ3 H3 (.ok (.lst (ykh ys l' u')) σ3) Q->ymr X.K v l' u' H3 Q\/ymp X.K v l' u' H3 Q\/ymq X.K v l' u' H3 Q:=fun ys ey p4=>by
  obtain⟨a,vs,rfl,h1,h2⟩:=r3.ls rd ey;exact .inr (.inr ⟨a,vs,rfl,SqL.of h1,fun p hn=>ya5 p4 r3 (zkl h2 l' u') hn⟩)
 cases d with
 |tup xs=>
  have rd0:=rd;rw[Rep]at rd;obtain⟨p,vs,rfl,h1,h2⟩:=rd;by_cases hw:HT.sIx vs.length 0 l'=0/\HT.sIx vs.length vs.length u'=vs.length
  ·refine .inr (.inl ⟨p,vs,rfl,SqT.of h1,hw,yjp.here (d:=D.tup (ykh xs l' u')) p3 r3 ?_⟩);rw[zfj (by rw[h2.length];exact hw)];exact rd0
  ·exact .inl ⟨p,vs,rfl,SqT.of h1,hw,fun q hn=>zt0 p3 r3 (zkl h2 l' u') hn⟩
 |ref n=>
  unfold ynb yki at p3;dsimp only at p3;cases ey:yln σ3 (.ref n)with
  |none=>rw[ey]at p3;exact p3.elim
  |some ys=>rw[ey]at p3;exact lists ys ey p3
 |lst ys=>exact lists ys rfl p3
 |scr ns=>
  rw[Rep]at rd;obtain⟨p,rfl,h1⟩:=rd;have h2:=h1.seq;rw[hK]at h2;exact .inr (.inr ⟨p,_,rfl,h2,fun p hn=>ya5 p3 r3 (zkl (zjb ns) l' u') hn⟩)
 |_=>exact p3.elim
end
def OkD(T:Tb)(P:Program)(w:World)(mg:Str->Option Value)(base:Heap)(k:Nat)(x:Str)(ps:List Str)(dv:List Value)(fn:List D->M D):Prop:=
 ∃ f fd,mg x=some (.ref f)/\PySem.W.keepIn T.K (.ref f)=true/\yd0 T.K fd ps []/\yd0 T.K fd ps dv/\FnOk P w T.K mg base (CXE P w) k f fd ps (spF T ps.length fn)
section
variable{T:Tb}{X:Cx}
variable{P:Program}{w:World}{K:PySem.W.Frag}{mg:Str->Option Value}{base:Heap}{ca:Nat->Addr}
theorem OkD.frz{k:Nat}{x:Str}{ps:List Str}{dv:List Value}{fn:List D->M D}(h:OkD T P w mg base k x ps dv fn):OkD T P w mg base k x ps dv (fun ds=>L4.frz (fn ds)):=by
 obtain⟨f,fd,h1,h2,h3,h4,h5⟩:=h;exact⟨f,fd,h1,h2,h3,h4,zr9 h5⟩
end
theorem OkF.hide{T:Tb}{P:Program}{w:World}{mg:Str->Option Value}{base:Heap}{k:Nat}{x:Str}{ps:List Str}{fn:List D->M D}(h:OkF T P w mg base k x ps fn):OkF T P w mg base k x ps (L4.hide fn):=by rw[zsv];exact h
theorem OkD.hide{T:Tb}{P:Program}{w:World}{mg:Str->Option Value}{base:Heap}{k:Nat}{x:Str}{ps:List Str}{dv:List Value}{fn:List D->M D}(h:OkD T P w mg base k x ps dv fn):OkD T P w mg base k x ps dv (L4.hide fn):=by rw[zsv];exact h
section
variable{T:Tb}{X:Cx}{μ:List Addr}{H:Hp}{σ:Sto}
def yf5(σ:Sto):D->Option (Nat × List (Str × D))
 | .obj c ns ds=>if ns.length=ds.length then some (c,ns.zip ds)else none
 | .ref n=>match σ[n]? with
  |some (.ins c fs)=>some (c,fs)
  |_=>none
 |_=>none
theorem zn6:∀ {ns:List Str} {ds:List D} {fs:List (Str × V)},fs.map (·.1)=ns->yjv T μ H ds (fs.map (·.2))->yjt T μ H (ns.zip ds) fs
 |[],ds,[],_,h=>by
  rw[List.map_nil]at h;cases ds with
  |nil=>exact Paired.nil
  |cons d ds=>have:=h.length;simp at this
 |[],ds,f::fs,e,_=>by simp at e
 |n::ns,ds,[],e,_=>by simp at e
 |n::ns,[],f::fs,e,h=>by have:=h.length;simp at this
 |n::ns,d::ds,f::fs,e,h=>by
  simp only[List.map_cons,List.cons.injEq]at e;rw[List.map_cons,yjv]at h;obtain⟨v,r,e2,h1,h2⟩:=h;simp only[List.cons.injEq]at e2;obtain⟨e3,e4⟩:=e2;subst e4;exact Paired.cons ⟨e.1.symm,by rw[e3];exact h1⟩ (zn6 e.2 h2)
theorem zs1(r:Rel T μ H σ){d:D}{v:V}{c:Nat}{fs:List (Str × D)}(h:Rep T μ H d v)(e:yf5 σ d=some (c,fs)):∃ a dx vs,v=.ref a/\H a=some (.ins (T.ca c) dx vs)/\yjt T μ H fs vs:=by
 cases d with
 |obj c' ns ds=>
  unfold yf5 at e;by_cases hl:ns.length=ds.length
  ·simp only[hl,if_true,Option.some.injEq,Prod.mk.injEq]at e;obtain⟨rfl,rfl⟩:=e;rw[Rep]at h;obtain⟨a,dx,vs,rfl,_,h3,h4,h5⟩:=h;exact⟨a,dx,vs,rfl,h3,zn6 h4 h5⟩
  ·simp[hl]at e
 |ref n=>
  unfold yf5 at e;dsimp only at e;cases es:σ[n]? with
  |none=>rw[es]at e;cases e
  |some o=>
   rw[es]at e;obtain⟨a,rfl,_,h2⟩:=r.at h es;cases o with
   |ins c' fs'=>cases e;obtain⟨dx,vs,h3,h4⟩:=h2;exact⟨a,dx,vs,rfl,h3,h4⟩
   |lst _=>cases e
   |dic _=>cases e
 |_=>cases e
theorem zmx{f:Str}:∀ {fs:List (Str × D)} {vs:List (Str × V)},yjt T μ H fs vs->(∀ d,fs.lookup f=some d->∃ v,vs.lookup f=some v/\Rep T μ H d v)/\(fs.lookup f=none->vs.lookup f=none)
 |_,_,.nil=>⟨fun d e=>by simp at e,fun _=>rfl⟩
 |(g,x)::fs,(g',v)::vs,.cons ⟨e,h⟩ t=>by
  have e':g=g':=e;subst e';obtain⟨h1,h2⟩:=zmx t;by_cases hg:(f == g)=true
  ·refine⟨fun d q=>?_,fun q=>?_⟩
   ·rw[List.lookup_cons,hg]at q;cases q;exact⟨v,by rw[List.lookup_cons,hg],h⟩
   ·rw[List.lookup_cons,hg]at q;cases q
  ·have hg':(f == g)=false:=by simpa using hg
   refine⟨fun d q=>?_,fun q=>?_⟩
   ·rw[List.lookup_cons,hg']at q;obtain⟨w,q1,q2⟩:=h1 d q;exact⟨w,by rw[List.lookup_cons,hg'];exact q1,q2⟩
   ·rw[List.lookup_cons,hg']at q;rw[List.lookup_cons,hg'];exact h2 q
def yd4(T:Tb)(cs:List Nat)(f:Str):Prop:=∀ c,cs.contains c=true->Cls T.K (T.ca c)/\zxh T.K (T.ca c) f
theorem zr3{f:Str}:yd4 T [] f:=fun c h=>by simp at h
theorem zlo{f:Str}{c:Nat}{cs:List Nat}(h1:Cls T.K (T.ca c))(h2:zxh T.K (T.ca c) f)(h:yd4 T cs f):yd4 T (c::cs) f:=fun d hd=>by
 rw[List.contains_cons,Bool.or_eq_true,beq_iff_eq]at hd;rcases hd with rfl|hd
 ·exact⟨h1,h2⟩
 ·exact h d hd
def yly(cs:List Nat)(f:Str)(x:D):M D:=fun σ=>match yf5 σ x with
 |some (c,fs)=>if cs.contains c=true then (match fs.lookup f with
  |some d=>.ok d σ
  |none=>.bad)else .bad
 |none=>.bad
theorem zy3{e:Expr}{f:Str}{g:Ev->M D}{pos:Pos}{cs:List Nat}(hK:T.K=X.K)(hc:yd4 T cs f)(he:FE T X e g)
  (hb:attributeBase e f X.env (eval e X.env)=eval e X.env:=by rfl):FE T X (.Attribute e f pos) (eUn (yly cs f) g):=by
 intro pins s st H Q I h;refine yb1 he hb pins s st H Q I ?_;obtain⟨μ,ρ,σ,hE,hr,hp⟩:=h;refine⟨μ,ρ,σ,hE,hr,yjp.bind hp fun d σ1 μ1 v H1 _ e1 r1 q1 p1=>?_⟩;unfold yly at p1;cases ei:yf5 σ1 d with
 |none=>rw[ei]at p1;exact p1.elim
 |some p=>
  obtain⟨c,fs⟩:=p;rw[ei]at p1;dsimp only at p1;by_cases hcc:cs.contains c=true
  ·rw[if_pos hcc]at p1;obtain⟨a,dx,vs,rfl,h1,h2⟩:=zs1 r1 q1 ei;cases el:fs.lookup f with
   |none=>rw[el]at p1;exact p1.elim
   |some y=>
    rw[el]at p1;obtain⟨w,h3,h4⟩:=(zmx h2).1 y el;obtain⟨k1,k2⟩:=hc c hcc;rw[hK]at k1 k2;exact⟨a,_,dx,vs,w,rfl,h1,k1,k2,h3,yjp.here p1 r1 h4⟩
  ·rw[if_neg hcc]at p1;exact p1.elim
def ymf(f:Str)(v:D):List (Str × D)->List (Str × D)
 |[]=>[(f,v)]
 |(g,x)::r=>if g=f then (g,v)::r else (g,x)::ymf f v r
theorem zvb{f:Str}{d:D}{v:V}(hd:Rep T μ H d v):∀ {fs:List (Str × D)} {vs:List (Str × V)},yjt T μ H fs vs->yjt T μ H (ymf f d fs) (putF f v vs)
 |_,_,.nil=>Paired.cons ⟨rfl,hd⟩ Paired.nil
 |(g,x)::fs,(g',w)::vs,.cons ⟨e,h⟩ t=>by
  have e':g=g':=e;subst e';unfold ymf putF;by_cases hg:g=f
  ·rw[if_pos hg,if_pos hg];exact Paired.cons ⟨rfl,hd⟩ t
  ·rw[if_neg hg,if_neg hg];exact Paired.cons ⟨rfl,h⟩ (zvb hd t)
theorem yjt.mono{μ':List Addr}{H':Hp}(e:Ext μ H μ' H'){fs:List (Str × D)}{vs:List (Str × V)}(h:yjt T μ H fs vs):yjt T μ' H' fs vs:=Paired.mapP h fun _ _ q=>⟨q.1,Rep.mono e _ _ q.2⟩
theorem yjt.length{fs:List (Str × D)}{vs:List (Str × V)}(h:yjt T μ H fs vs):fs.length=vs.length:=Paired.length h
def yl9(cs:List Nat)(f:Str)(d x:D):M Unit:=fun σ=>match x with
 | .ref n=>(match σ[n]? with
  |some (.ins c fs)=>if (cs.contains c && decide (fs.length<1000))=true then .ok () (σ.set n (.ins c (ymf f d fs)))else .bad
  |_=>.bad)
 |_=>.bad
def yht(ρ:Ev)(cs:List Nat)(f:Str)(d x:D):M Fl:=fun σ=>match yl9 cs f d x σ with
 | .ok _ σ'=>.ok (.nx ρ) σ'
 |_=>.bad
def yhs(ρ:Ev)(cs:List Nat)(f:Str)(fo:Ev->M D)(d:D):M Fl:=xs ρ (fo ρ) (yht ρ cs f d)
def ym3(cs:List Nat)(f:Str)(fv fo:Ev->M D):Ev->M Fl:=fun ρ=>xs ρ (fv ρ) (yhs ρ cs f fo)
theorem zzt{o value:Expr}{f:Str}{fv fo:Ev->M D}{pos pos':Pos}{cs:List Nat}(hK:T.K=X.K)(hc:yd4 T cs f)(ho:FE T X o fo)(hv:FE T X value fv)
  (hs:swapsWith value (some (.Attribute o f pos')) pos.line X.env=pure false:=by rfl):FS T X (.Assign [.Attribute o f pos'] value pos) (ym3 cs f fv fo):=by
 intro pins s st H D I hq;refine yci ho hv hs pins s st H D I ?_;obtain⟨μ,ρ,σ,hE,hr,hp⟩:=hq;refine⟨μ,ρ,σ,hE,hr,hp.xs hE fun d σ1 μ1 v H1 _ e1 r1 q1 p1=>?_⟩;refine⟨μ1,ρ,σ1,hE.mono e1,r1,p1.xs (hE.mono e1) fun x σ2 μ2 vo H2 _ e2 r2 q2 p2=>?_⟩;have hd:=Rep.mono e2 _ _ q1;unfold yht yl9 at p2;cases x with
 |ref n=>
  dsimp only at p2;cases el:σ2[n]? with
  |none=>rw[el]at p2;exact p2.elim
  |some ob=>
   rw[el]at p2;cases ob with
   |lst _=>exact p2.elim
   |dic _=>exact p2.elim
   |ins c fs=>
    dsimp only at p2;by_cases hcc:(cs.contains c && decide (fs.length<1000))=true
    ·rw[if_pos hcc]at p2;rw[Bool.and_eq_true,decide_eq_true_eq]at hcc;obtain⟨a,rfl,hn,dx,vs,h1,h2⟩:=r2.at q2 el;have ex:Ext μ2 H2 μ2 (upd H2 a (.ins (T.ca c) dx (putF f v vs))):=zhw (List.mem_of_getElem? hn) h1 (fun _ z=>by cases z) (fun _ _ z=>by cases z);have wr:=r2.write (o:=.ins (T.ca c) dx (putF f v vs)) (ob:=.ins c (ymf f d fs)) hn ⟨dx,_,zpn,zvb (Rep.mono ex _ _ hd) (yjt.mono ex h2)⟩;obtain⟨k1,k2⟩:=hc c hcc.1;rw[hK]at k1 k2;exact⟨a,_,dx,vs,rfl,h1,k1,k2,by rw[<-h2.length];exact hcc.2,p2 _ (.nx st) _ wr.1 wr.2 ((hE.mono e1).mono e2 |>.mono wr.1)⟩
    ·rw[if_neg hcc]at p2;exact p2.elim
 |_=>exact p2.elim
def ygx(n:Nat):Out D->Out D
 | .ok .non σ'=>.ok (.ref n) σ'
 | .ok _ _=>.bad
 | .ex x σ'=>.ex x σ'
 | .bad=>.bad
def ygp(c n:Nat)(fn:List D->M D)(ds:List D):M D:=fun σ=>if ds.length+1=n then ygx σ.length (fn (.ref σ.length::ds) (σ++[.ins c []]))else .bad
def ye8(c n:Nat)(fn:List D->M D)(fs:Ev->M (List D)):Ev->M D:=fun ρ=>bnd (fs ρ) (ygp c n fn)
def OkA(T:Tb)(P:Program)(w:World)(mg:Str->Option Value)(base:Heap)(k:Nat)(f:Addr)(ps:List Str)(fn:List D->M D):Prop:=
 ∃ fd,(∀ us:List Value,us.length=ps.length->bindArgs fd ⟨us,[]⟩=pure (ps.zip us))/\FnOk P w T.K mg base (CXE P w) k f fd ps (spF T ps.length fn)
def OkC(T:Tb)(P:Program)(w:World)(mg:Str->Option Value)(base:Heap)(k:Nat)(x:Str)(c:Nat)(ps:List Str)(fn:List D->M D):Prop:=
 ∃ f,mg x=some (.ref (T.ca c))/\Mk T.K (T.ca c) f/\OkA T P w mg base k f ps fn
theorem zim{E:XK}{c:Nat}{ps:List Str}{fn:List D->M D}{ds:List D}{vs:List V}{Q:VK}(r:Rel T μ H σ)(q:yjv T μ H ds vs)(p:yjp T E (Rep T) μ H (ygp c ps.length fn ds σ) Q) :
  ∀ x dx,H x=none->H dx=none->dx≠x->spF T ps.length fn (.ref x::(vs++[])) (upd (upd H dx (.own x)) x (.ins (T.ca c) dx [])) (fun v H2=>v=.non/\Q (.ref x) H2) E:=by
 intro x dx hx hdx hne;unfold ygp at p;by_cases hl:ds.length+1=ps.length
 ·rw[if_pos hl]at p;have ex1:Ext μ H μ (upd H dx (.own x)):=zro hdx;have r1:Rel T μ (upd H dx (.own x)) σ:=r.fresh hdx;have hx1:upd H dx (.own x) x=none:=by unfold upd;rw[if_neg (Ne.symm hne)];exact hx
  have ex2:Ext μ (upd H dx (.own x)) (μ++[x]) (upd (upd H dx (.own x)) x (.ins (T.ca c) dx [])):=zk8 hx1;have r2:Rel T (μ++[x]) (upd (upd H dx (.own x)) x (.ins (T.ca c) dx [])) (σ++[.ins c []]):=r1.push hx1 ⟨dx,[],zpn,Paired.nil⟩;refine⟨μ++[x],σ++[.ins c []],.ref σ.length::ds,yjv.cons (zn9 r1) (by rw[List.append_nil];exact yjv.mono (ex1.trans ex2) _ _ q),by rw[List.length_cons];exact hl,r2,?_⟩;cases e:fn (.ref σ.length::ds) (σ++[.ins c []])with
  |bad=>rw[e]at p;exact p.elim
  |ex y σ'=>rw[e]at p;exact fun μ' H' e' r'=>p μ' H' ((ex1.trans ex2).trans e') r'
  |ok d σ'=>
   rw[e]at p;intro μ' v H' e' r' q';have hv:d=.non:=by cases d<;>first|rfl|exact p.elim
   subst hv;rw[Rep]at q';refine⟨q',p μ' (.ref x) H' ((ex1.trans ex2).trans e') r' ?_⟩;exact Rep.mono e' _ _ (zn9 r1)
 ·rw[if_neg hl]at p;exact p.elim
theorem zje{k:Nat}{C f:Addr}{fd:FuncData}{ps:List Str}{sp:Sp}{dvs:List V}{ds:List Value}{pins:List (Addr × Obj)}{st:St}{H:Hp}{s:Shared}{Q:VK}{us:List Value}{vs:List V}(M:Mk X.K C f)(F:FnOk X.prog X.w X.K X.mg X.base (CXE X.prog X.w) k f fd ps sp)(hr:Room (k+1) X.A)(hb:yd0 X.K fd ps ds)(hd:yj1 dvs ds)
  (I:Inv X pins st H s) (r:yj1 vs us)
  (h:∀ x dx,H x=none->H dx=none->dx≠x->sp (.ref x::(vs++dvs)) (upd (upd H dx (.own x)) x (.ins C dx [])) (fun v H2=>v=.non/\Q (.ref x) H2) (XE X st)) :
  wpAny (model X.prog X.w) X.A (call (.ref C) us) (EP X pins st Q) X.xe s:=by
 have hq:=h (s.heap.objs.size+1) s.heap.objs.size (I.hok.fresh (Nat.le_succ _)) (I.hok.fresh (Nat.le_refl _)) (Nat.ne_of_lt (Nat.lt_succ_self _));have I2:=Inv.made (C:=C) I;have r2:yj1 (V.ref (s.heap.objs.size+1)::(vs++dvs)) (Value.ref (s.heap.objs.size+1)::(us++ds)):=.cons rfl (r.append hd);have hl:(Value.ref (s.heap.objs.size+1)::us++ds).length=ps.length:=by
  have e:=r2.length;rw[F.len _ _ _ _ hq]at e;exact e.symm
 refine wpAny_call (zm2 (f:=f) I.kIn M.makes M.init (beq_iff_eq.mp M.fn) (codeAny_mono (F.run _ X.stack _ _ ⟨Value.ref (s.heap.objs.size+1)::us,[]⟩ (Value.ref (s.heap.objs.size+1)::(us++ds)) _ _ (XE X st) (hr.make C us [])
  (I2.env0.make C us []) (hb _ (Value.ref (s.heap.objs.size+1)::us) I2.kIn hl) r2 hq) fun r s' hq'=>?_))
 cases r with
 |error e=>obtain⟨cls,fd,H',hfly,ht⟩:=hq';exact ht.fly pins _ _ e s' I2 hfly
 |ok fl=>
  cases fl with
  |ret u=>
   obtain⟨v,H',I3,rv,ev,q3⟩:=I2.after hq';subst ev;exact⟨rv,⟨V.ref (s.heap.objs.size+1),H',I3,rfl,q3⟩⟩
  |next=>exact False.elim hq'
  |brk=>exact False.elim hq'
  |cont=>exact False.elim hq'
theorem zrw{k c:Nat}{ps:List Str}{fn:List D->M D}{x:Str}{p pos:Pos}{e:Expr}{es:List Expr}{fs:Ev->M (List D)}(h:OkC T X.prog X.w X.mg X.base k x c ps fn)(hK:T.K=X.K)(hr:Room (k+1) X.A)(hg:Gl X x)
  (ha:FA T X (e::es) fs) (hdb:(x == ("__debug__" : Str))=false:=by decide) (he:starEach (e::es) X.env=(false,eval e X.env)::starEach es X.env:=by rfl) (hpl:(backTo pos (starEach es X.env)).any (·.1)=false:=by rfl) :
  FE T X (.Call (.Name x p) (e::es) [] pos) (ye8 c ps.length fn fs):=by
 obtain⟨f,hm,hM,fd,hb,hF⟩:=h;rw[hK]at hM hF;intro pins s st H Q I hq;obtain⟨μ,ρ,σ,hE,hr',hp⟩:=hq;refine wpAny_Call_Name_kw (ztj I hg hm ?_ hdb);refine PySem.W.callWith_K (h₀:=X.base) I.ok.mod.kin hM.kp (thn (ha pos pins s st H (fun vs H1=>∀ x dx,H1 x=none->H1 dx=none->dx≠x->spF T ps.length fn (.ref x::(vs++[])) (upd (upd H1 dx (.own x)) x (.ins (T.ca c) dx [])) (fun v H2=>v=.non/\Q (.ref x) H2) (XE X st)) I ⟨μ,ρ,σ,hE,hr',hp.bind fun ds σ1 μ1 vs H1 _ e1 r1 p1 q1=>zim r1 p1 q1⟩) fun us s1 ⟨vs,H1,I1,r,q⟩=>⟨I1.kIn,?_⟩) he hpl;exact zje (ds:=[]) (dvs:=[]) hM hF hr (.all hb) .nil I1 r q
structure OkM(T:Tb)(P:Program)(w:World)(mg:Str->Option Value)(base:Heap)(k:Nat)(m:Str)(c:Nat)(ps:List Str)(fn:List D->M D):Prop where
 cl:Cls T.K (T.ca c)
 ex:∃ f,Meth T.K (T.ca c) m f/\OkA T P w mg base k f ps fn
structure OkU(T:Tb)(P:Program)(w:World)(mg:Str->Option Value)(base:Heap)(k:Nat)(x m:Str)(c:Nat)(ps:List Str)(fn:List D->M D):Prop where
 gl:mg x=some (.ref (T.ca c))
 sp:PySem.W.specialIn T.K (.ref (T.ca c)) (Str.ofString "__getattribute__")=some (some (.builtin "type.__getattribute__"))
 ex:∃ f mc,PySem.W.readsIn T.K (T.ca c) mc=true/\PySem.W.findCls T.K (.ref (T.ca c)) mc m=some (.val (.ref f))/\PySem.W.keepIn T.K (.ref f)=true/\OkA T P w mg base k f ps fn
end
structure HasM(K:PySem.W.Frag)(C:Addr)(x qual:Str)(st:Stmt)(ps:List Str)(f:Addr):Prop where
 ex:∃ fd,Fun K x qual st f fd/\∀ us:List Value,us.length=ps.length->bindArgs fd ⟨us,[]⟩=pure (ps.zip us)
section
variable{P:Program}{w:World}{K:PySem.W.Frag}{mg:Str->Option Value}{base:Heap}{ca:Nat->Addr}
theorem ybh{k:Nat}{C f:Addr}{x qual:Str}{st:Stmt}{ps N:List Str}{g:Ev->M Fl}(h:HasM K C x qual st ps f)(S:FnScope N ps (zko st))
  (hb:∀ (cdv:Value) (A:Around) (outer:List Env) (s:Shared) (H:Hp) (E:XK),Room k (A.deeper (envOfC qual (zko st) s.heap.objs.size f cdv))->FSs ⟨K,ca⟩ (ykk (CXE P w) P w K mg base N qual (zko st) f cdv A outer s H E) (zq8 st) g) :
  OkA ⟨K,ca⟩ P w mg base (k+1) f ps (run N.length g):=by
 obtain⟨fd,F,hbd⟩:=h.ex;obtain⟨oc,od,kV,doc,pm,an,cdv,ct,osl,rfl,lk,hcd⟩:=F.ex;exact⟨_,hbd,fok lk hcd S (hb cdv)⟩
theorem OkA.frz{T:Tb}{k:Nat}{f:Addr}{ps:List Str}{fn:List D->M D}(h:OkA T P w mg base k f ps fn):OkA T P w mg base k f ps (fun ds=>L4.frz (fn ds)):=by
 obtain⟨fd,h3,h4⟩:=h;exact⟨fd,h3,zr9 h4⟩
theorem OkA.hide{T:Tb}{k:Nat}{f:Addr}{ps:List Str}{fn:List D->M D}(h:OkA T P w mg base k f ps fn):OkA T P w mg base k f ps (L4.hide fn):=by rw[zsv];exact h
end
def ygs(s:Stmt)(j:Nat):Stmt:=match s with
 | .ClassDef _ _ _ b _ _ _ _ _ _ _=>b.getD j (.Pass ⟨0,0,0,0⟩)
 |s=>s
theorem mkM{K:PySem.W.Frag}{C f:Addr}{x qual:Str}{st:Stmt}{ps:List Str}{oc:Value}{od an:Option Addr}{osl:Array (Option Value)}{kV doc pm cdv ct:Value}
  (hb:∀ (kV doc pm:Value) (an:Option Addr) (cdv ct:Value) (us:List Value),us.length=ps.length->bindArgs (PySem.W.fnOf x qual (zq7 st) (zq8 st) (zko st) .none kV doc pm an cdv ct) ⟨us,[]⟩=pure (ps.zip us))
  (l:K.lookup f=some ⟨oc,od,.func (PySem.W.fnOf x qual (zq7 st) (zq8 st) (zko st) .none kV doc pm an cdv ct),osl⟩)
  (c:PySem.W.codeIn K cdv qual=true) (k:PySem.W.keepIn K (.ref f)=true):HasM K C x qual st ps f:=⟨⟨_,zz1 l c k,hb kV doc pm an cdv ct⟩⟩
section
variable{T:Tb}{P:Program}{w:World}{mg:Str->Option Value}{base:Heap}
end
section
variable{T:Tb}{X:Cx}
end
end L4
namespace L4
open PySem L2
theorem nr{α:Type}{a b:α}(h:a=b):a=b:=h
section
variable{α β:Type}{ρ:Ev}{σ:Sto}
@[simp] theorem zqh(a:α)(σ:Sto)(k:α->M β):(Out.ok a σ).bind k=k a σ:=nr rfl
@[simp] theorem ycw(a:α)(σ:Sto):ret a σ=.ok a σ:=nr rfl
@[simp] theorem zxq(m:M α)(k:α->M β)(σ:Sto):bnd m k σ=(m σ).bind k:=nr rfl
@[simp] theorem ye5(d:D):eC d ρ σ=.ok d σ:=nr rfl
@[simp] theorem zyq(d:D)(r:Ev):ykv 0 (some d::r) σ=.ok d σ:=nr rfl
@[simp] theorem zyr(i:Nat)(o:Option D)(r:Ev):ykv (i+1) (o::r) σ=ykv i r σ:=nr rfl
@[simp] theorem zrc(o:D->D->M D)(a b:Ev->M D):yko o a b ρ σ=(a ρ σ).bind (yka o (b ρ)):=nr rfl
@[simp] theorem zqg(o:D->D->M D)(m:M D)(x:D):yka o m x σ=(m σ).bind (o x):=nr rfl
@[simp] theorem zyp(o:D->M D)(a:Ev->M D):eUn o a ρ σ=(a ρ σ).bind o:=nr rfl
@[simp] theorem ydq(b:Bool):tst (.bl b) σ=.ok b σ:=nr rfl
@[simp] theorem yf4(p q:M α):ifK p q true σ=p σ:=nr rfl
@[simp] theorem yf3(p q:M α):ifK p q false σ=q σ:=nr rfl
@[simp] theorem zt2(c:Bool):ylr c σ=.ok (!c) σ:=nr rfl
@[simp] theorem zpg(k:Bool->M α)(b:Bool):yiy k (.bl b) σ=k b σ:=nr rfl
@[simp] theorem zm6(c:Bool):ygt c σ=.ok (.bl (!c)) σ:=nr rfl
@[simp] theorem yfb(f:Ev->M D):eT f ρ σ=(f ρ σ).bind tst:=nr rfl
@[simp] theorem zqd(a b:Ev->M Bool):yj8 a b ρ σ=(a ρ σ).bind (ifK (b ρ) (ret false)):=nr rfl
@[simp] theorem zxl(a b:Ev->M Bool):bOr a b ρ σ=(a ρ σ).bind (ifK (ret true) (b ρ)):=nr rfl
@[simp] theorem zqe(a:Ev->M Bool):yj9 a ρ σ=(a ρ σ).bind ylr:=nr rfl
@[simp] theorem zrb(a b:Ev->M D):ykn a b ρ σ=(a ρ σ).bind (yiy (ifK (b ρ) (ret (.bl false)))):=nr rfl
@[simp] theorem zyo(a b:Ev->M D):eOr a b ρ σ=(a ρ σ).bind (yiy (ifK (ret (.bl true)) (b ρ))):=nr rfl
@[simp] theorem zrf(a:Ev->M D):ykt a ρ σ=(a ρ σ).bind (yiy ygt):=nr rfl
@[simp] theorem zpz:yj3 ρ σ=.ok [] σ:=nr rfl
@[simp] theorem zj4(e:Ev->M D)(r:Ev->M (List D)):yeg e r ρ σ=(e ρ σ).bind (zxj (r ρ)):=nr rfl
@[simp] theorem zgx(m:M (List D))(x:D):zxj m x σ=(m σ).bind (yex x):=nr rfl
@[simp] theorem zkk(x:D)(xs:List D):yex x xs σ=.ok (x::xs) σ:=nr rfl
@[simp] theorem zri(a:Ev->M (List D)):yku a ρ σ=(a ρ σ).bind yny:=nr rfl
@[simp] theorem yds(a b:D):yny [a,b] σ=.ok (.tup [a,b]) σ:=nr rfl
@[simp] theorem ydt(a b c:D):yny [a,b,c] σ=.ok (.tup [a,b,c]) σ:=nr rfl
@[simp] theorem ydu(a b c d:D):yny [a,b,c,d] σ=.ok (.tup [a,b,c,d]) σ:=nr rfl
@[simp] theorem zyl(a:Ev->M (List D)):eLv a ρ σ=(a ρ σ).bind lvK:=nr rfl
@[simp] theorem zre(a:Ev->M (List D)):yks a ρ σ=(a ρ σ).bind ylo:=nr rfl
@[simp] theorem ya2:ylo [] σ=.ok (.ref σ.length) (σ++[.lst []]):=nr rfl
@[simp] theorem yg4(g:Int->Int->Int)(i j:Int):oI g (.int i) (.int j) σ=.ok (.int (g i j)) σ:=nr rfl
@[simp] theorem ygz(g:Int->Int->Bool)(i j:Int):oB g (.int i) (.int j) σ=.ok (.bl (g i j)) σ:=nr rfl
theorem ybc{C:Int->Int->Bool}{g:Int->Int->Int}{i j:Int}(h:C i j=true):oIC C g (.int i) (.int j) σ=.ok (.int (g i j)) σ:=by
 show (if C i j=true then ret _ else bad) σ=_;rw[if_pos h];rfl
@[simp] theorem zt4(i j:Int)(h:0<j)(h2:j<1073741824):ylw (.int i) (.int j) σ=.ok (.int (i / j)) σ:=ybc (by simp[ykc,h,h2])
@[simp] theorem zud(i j:Int)(h:0<j):yl4 (.int i) (.int j) σ=.ok (.int (i % j)) σ:=ybc (by simp[ykd,h])
theorem ybd{i j:Int}(h:-(2 ^ 64)<i)(h2:i<2 ^ 64):yl5 (.int i) (.int j) σ=.ok (.int (i * j)) σ:=ybc (by simp only[yke,zsv,Bool.or_eq_true,Bool.and_eq_true,decide_eq_true_eq];exact .inl ⟨h,h2⟩)
theorem ybe{i j:Int}(h:-(2 ^ 64)<j)(h2:j<2 ^ 64):yl5 (.int i) (.int j) σ=.ok (.int (i * j)) σ:=ybc (by simp only[yke,zsv,Bool.or_eq_true,Bool.and_eq_true,decide_eq_true_eq];exact .inr ⟨h,h2⟩)
theorem zug{i j:Int}(h:ykf i j=true):yl8 (.int i) (.int j) σ=.ok (.int (i ^ j.toNat)) σ:=ybc h
@[simp] theorem p12:yl8 (.int 10) (.int 12) σ=.ok (.int 1000000000000) σ:=zug (by simp[ykf])
@[simp] theorem p6:yl8 (.int 10) (.int 6) σ=.ok (.int 1000000) σ:=zug (by simp[ykf])
@[simp] theorem p4:yl8 (.int 10) (.int 4) σ=.ok (.int 10000) σ:=zug (by simp[ykf])
@[simp] theorem zuf(i:Int):yl7 (.int i) σ=.ok (.int (-i)) σ:=nr rfl
@[simp] theorem zne(i j:Int):yls (.int i) (.int j) σ=.ok (.int (i+j)) σ:=nr rfl
theorem znf{xs ys:List D}(h:xs.length+ys.length<=cap):yls (.lst xs) (.lst ys) σ=.ok (.lst (xs++ys)) σ:=by
 show ygy (.lst xs) (.lst ys) σ=_;unfold ygy;simp only[yln];rw[if_pos h]
@[simp] theorem znk(σ:Sto):yl2 .non .non σ=.ok (.bl true) σ:=nr rfl
@[simp] theorem znj(b:Int):yl2 (.int b) .non σ=.ok (.bl false) σ:=nr rfl
@[simp] theorem zix(σ:Sto):yg9 .non .non σ=.ok (.bl false) σ:=nr rfl
@[simp] theorem ziw(b:Int):yg9 (.int b) .non σ=.ok (.bl true) σ:=nr rfl
theorem ybb{x y:D}{b:Bool}(h:eqD σ 8 x y=some b):oEq x y σ=.ok (.bl b) σ:=by unfold oEq;rw[h]
theorem ybf{x y:D}{b:Bool}(h:eqD σ 8 x y=some b):oNe x y σ=.ok (.bl (!b)) σ:=by unfold oNe;rw[h]
@[simp] theorem zt5(i j:Int):oEq (.int i) (.int j) σ=.ok (.bl (i == j)) σ:=ybb (by simp[eqD,kd,eqK,eqV])
@[simp] theorem zue(i j:Int):oNe (.int i) (.int j) σ=.ok (.bl (!(i == j))) σ:=ybf (by simp[eqD,kd,eqK,eqV])
@[simp] theorem zt6(i j:Str):oEq (.str i) (.str j) σ=.ok (.bl (i == j)) σ:=ybb (by simp[eqD,kd,eqK,eqV])
@[simp] theorem yba(i j:Bool):oEq (.bl i) (.bl j) σ=.ok (.bl (i == j)) σ:=ybb (by simp[eqD,kd,eqK,eqV])
theorem zub{xs:List D}{k:Int}{d:D}(h:atI xs k=some d):oIx (.tup xs) (.int k) σ=.ok d σ:=by simp[oIx,yif,h]
theorem zt9{xs:List D}{k:Int}{d:D}(h:atI xs k=some d):oIx (.lst xs) (.int k) σ=.ok d σ:=by simp[oIx,yif,h]
@[simp] theorem yf7(a:D)(r:List D):oIx (.tup (a::r)) (.int 0) σ=.ok a σ:=zub (show atI _ ((0:Nat):Int)=_ from zp9 rfl)
@[simp] theorem yf8(a b:D)(r:List D):oIx (.tup (a::b::r)) (.int 1) σ=.ok b σ:=zub (show atI _ ((1:Nat):Int)=_ from zp9 rfl)
@[simp] theorem yf9(a b c:D)(r:List D):oIx (.tup (a::b::c::r)) (.int 2) σ=.ok c σ:=zub (show atI _ ((2:Nat):Int)=_ from zp9 rfl)
@[simp] theorem yga(a b c d:D)(r:List D):oIx (.tup (a::b::c::d::r)) (.int 3) σ=.ok d σ:=zub (show atI _ ((3:Nat):Int)=_ from zp9 rfl)
@[simp] theorem znl(xs:List D):yl3 [.lst xs] σ=.ok (.int xs.length) σ:=nr rfl
@[simp] theorem znm(xs:List Int):yl3 [.scr xs] σ=.ok (.int xs.length) σ:=by simp[yl3,yif]
@[simp] theorem zku(o:List D->M D)(fs:Ev->M (List D)):ye6 o fs ρ σ=(fs ρ σ).bind o:=nr rfl
@[simp] theorem zyk(n:Nat)(f:List D->M D)(dds:List D)(fs:Ev->M (List D)):eFn n f dds fs ρ σ=(fs ρ σ).bind (fnK n f dds):=nr rfl
@[simp] theorem yfo(f:List D->M D)(a:D):fnK 1 f [] [a] σ=f [a] σ:=by unfold fnK;rw[if_pos (by simp)];simp
@[simp] theorem yfp(f:List D->M D)(a b:D):fnK 2 f [] [a,b] σ=f [a,b] σ:=by unfold fnK;rw[if_pos (by simp)];simp
@[simp] theorem yfq(f:List D->M D)(a b c:D):fnK 3 f [] [a,b,c] σ=f [a,b,c] σ:=by unfold fnK;rw[if_pos (by simp)];simp
@[simp] theorem yfr(f:List D->M D)(a b c d:D):fnK 4 f [] [a,b,c,d] σ=f [a,b,c,d] σ:=by unfold fnK;rw[if_pos (by simp)];simp
@[simp] theorem zvx:ym2 ρ σ=.ok (.nx ρ) σ:=nr rfl
@[simp] theorem zv0(g h:Ev->M Fl):ym5 g h ρ σ=(g ρ σ).bind (ym7 h):=nr rfl
@[simp] theorem zv5(h:Ev->M Fl)(ρ:Ev):ym7 h (.nx ρ) σ=h ρ σ:=nr rfl
@[simp] theorem zv6(h:Ev->M Fl)(d:D):ym7 h (.rt d) σ=.ok (.rt d) σ:=nr rfl
def xsO(ρ:Ev)(k:α->M Fl):Out α->Out Fl
 | .ok a σ'=>k a σ'
 | .ex x σ'=>.ok (.xc ρ x) σ'
 | .bad=>.bad
@[simp] theorem yi6(ρ:Ev)(m:M α)(k:α->M Fl):xs ρ m k σ=xsO ρ k (m σ):=by unfold xs xsO;cases m σ<;>rfl
@[simp] theorem ydz(ρ:Ev)(k:α->M Fl)(a:α):xsO ρ k (.ok a σ)=k a σ:=nr rfl
@[simp] theorem zvz(f:Ev->M D):ym4 f ρ σ=xsO ρ ymt (f ρ σ):=yi6 ..
@[simp] theorem zvi(d:D):ymt d σ=.ok (.rt d) σ:=nr rfl
@[simp] theorem zvv(f:Ev->M D):ymz f ρ σ=xsO ρ (yky ρ) (f ρ σ):=yi6 ..
@[simp] theorem zrm(d:D):yky ρ d σ=.ok (.nx ρ) σ:=nr rfl
@[simp] theorem zv1(i:Nat)(f:Ev->M D):ym6 i f ρ σ=xsO ρ (ym8 i ρ) (f ρ σ):=yi6 ..
@[simp] theorem zv9(i:Nat)(d:D):ym8 i ρ d σ=.ok (.nx (ρ.set i (some d))) σ:=nr rfl
@[simp] theorem ycy(t:Ev->M Bool)(a b:Ev->M Fl):sIf t a b ρ σ=xsO ρ (ifK (a ρ) (b ρ)) (t ρ σ):=yi6 ..
@[simp] theorem zvt(f:Ev->M D)(tg:D->Ev->Option Ev):ymx f tg ρ σ=xsO ρ (yj6 tg ρ) (f ρ σ):=yi6 ..
@[simp] theorem ycx(n:Nat)(g:Ev->M Fl)(ds:List D):run n g ds σ=ymw (g (ds.map some++List.replicate (n - ds.length) none) σ):=nr rfl
@[simp] theorem zvr(d:D):ymw (.ok (.rt d) σ)=.ok d σ:=nr rfl
@[simp] theorem zvq:ymw (.ok (.nx ρ) σ)=.ok .non σ:=nr rfl
@[simp] theorem zzo(f:M D):frz f σ=yk2 σ (f σ):=nr rfl
@[simp] theorem zrd(f:Ev->M D):ykp f ρ σ=yk2 σ (f ρ σ):=nr rfl
theorem yfx{k m:Nat}{σ:Sto}{d:D}(h:cl d=true):fz k σ m d=some d:=by cases m<;>(unfold fz;rw[if_pos h])
theorem zsd{σ':Sto}{d:D}(h:cl d=true)(ht:σ'.take σ.length=σ):yk2 σ (.ok d σ')=.ok d σ:=by
 unfold yk2;dsimp only;rw[if_pos ht,yfx h]
@[simp] theorem zh2{d:D}(h:cl d=true):yk2 σ (.ok d σ)=.ok d σ:=zsd h List.take_length
theorem zlw{j j':Sto}{xs:List D}(h:clL xs=true):yk2 σ (.ok (.ref σ.length) (σ++[.lst xs]++j))=.ok (.lst xs) σ:=by
 unfold yk2;dsimp only;rw[if_pos (by simp)];have e:fz σ.length (σ++[.lst xs]++j) 6 (.ref σ.length)=some (.lst xs):=by
  unfold fz;rw[if_neg (by simp[cl])];dsimp only;rw[if_neg (Nat.lt_irrefl _)];have:(σ++[Ob.lst xs]++j)[σ.length]?=some (.lst xs):=by simp
  rw[this];dsimp only;have hl:∀ (ys:List D) (m:Nat),clL ys=true->fzL (fz σ.length (σ++[.lst xs]++j) m) ys=some ys:=by
   intro ys m;induction ys with
   |nil=>intro _;rfl
   |cons y ys ih=>
    intro hc;have hc':cl y=true/\clL ys=true:=by simpa [clL,Bool.and_eq_true]using hc
    unfold fzL;rw[yfx hc'.1,ih hc'.2]
  rw[hl xs 5 h];rfl
 rw[e]
@[simp] theorem zx3(i:Int):cl (.int i)=true:=by simp[cl]
@[simp] theorem yev(i:Bool):cl (.bl i)=true:=by simp[cl]
@[simp] theorem zx7(i:Str):cl (.str i)=true:=by simp[cl]
@[simp] theorem zx5:cl .non=true:=by simp[cl]
@[simp] theorem zx9(xs:List D):cl (.tup xs)=clL xs:=by simp[cl]
@[simp] theorem zx4(xs:List D):cl (.lst xs)=clL xs:=by simp[cl]
@[simp] theorem zx6(n:Nat):cl (.ref n)=false:=by simp[cl]
@[simp] theorem zqu:clL []=true:=by simp[clL]
@[simp] theorem zkh(d:D)(ds:List D):clL (d::ds)=(cl d && clL ds):=by simp[clL]
theorem zqs:∀ {ds:List D},(∀ d∈ds,cl d=true)->clL ds=true
 |[],_=>by simp
 |d::ds,h=>by rw[zkh,h d List.mem_cons_self,zqs fun x hx=>h x (List.mem_cons_of_mem _ hx)];rfl
theorem zqt{γ:Type}{f:γ->D}{l:List γ}(h:∀ x,cl (f x)=true):clL (l.map f)=true:=zqs fun d hd=>by obtain⟨x,_,rfl⟩:=List.mem_map.mp hd;exact h x
theorem yej{xs:List D}{k:Int}(h0:0<=k)(h:k<xs.length):atI xs k=some (xs.getD k.toNat .non):=by
 obtain⟨n,rfl⟩:=Int.eq_ofNat_of_zero_le h0;have hn:n<xs.length:=by omega
 refine zp9 ?_;show xs[n]?=some (xs.getD n .non);rw[List.getD_eq_getElem?_getD,List.getElem?_eq_getElem hn];rfl
theorem yek{is:List Int}{k:Int}(h0:0<=k)(h:k<is.length):atI (is.map D.int) k=some (.int (is.getD k.toNat 0)):=by
 rw[yej h0 (by simpa using h)];have hn:k.toNat<is.length:=by omega
 simp[hn]
@[simp] theorem ygl(a:D):lvK [a] σ=.ok (.lst [a]) σ:=nr rfl
@[simp] theorem ygk:lvK [] σ=.ok (.lst []) σ:=nr rfl
@[simp] theorem ygm(a b:D):lvK [a,b] σ=.ok (.lst [a,b]) σ:=nr rfl
@[simp] theorem ygn(a b c:D):lvK [a,b,c] σ=.ok (.lst [a,b,c]) σ:=nr rfl
@[simp] theorem ygo(a b c d:D):lvK [a,b,c,d] σ=.ok (.lst [a,b,c,d]) σ:=nr rfl
@[simp] theorem zil(xs:List D):ygj (σ++[.lst xs]) σ.length=some xs:=by simp[ygj]
@[simp] theorem zwa(a b:Ob):(σ++[a]).set σ.length b=σ++[b]:=by
 rw[List.set_append_right _ _ (Nat.le_refl _)];simp
@[simp] theorem zkx(o:D->List D->M D)(f:Ev->M D)(fs:Ev->M (List D)):ye9 o f fs ρ σ=(f ρ σ).bind (ygq o (fs ρ)):=nr rfl
theorem zm4{o:D->List D->M D}{m:M (List D)}{x:D}{xs:List D}(h:yln σ x=some xs):ygq o m x σ=(m σ).bind (o x):=by unfold ygq;rw[h];rfl
@[simp] theorem zio(o:D->List D->M D)(m:M (List D))(xs:List D):ygq o m (.ref σ.length) (σ++[.lst xs])=(m (σ++[.lst xs])).bind (o (.ref σ.length)):=zm4 (xs:=xs) (by simp[yln])
theorem zfe{xs:List D}{d:D}(h:xs.length<1000):zt3 (.ref σ.length) [d] (σ++[.lst xs])=.ok .non (σ++[.lst (xs++[d])]):=by
 unfold zt3;simp only[zil];rw[if_pos (show xs.length<cap from h),zwa]
theorem znh{neg:Bool}{w:Int}{x:D}{ws:List Int}(h:yif σ x=some (ws.map D.int)):oIn neg (.int w) x σ=.ok (.bl (if neg then !(ws.any (·== w))else ws.any (·== w))) σ:=by
 have h1:∀ l:List Int,(l.map D.int).all isF=true:=fun l=>by simp[isF,sc]
 have h2:∀ l:List Int,((l.map D.int).any fun z=>eqF z (.int w))=l.any (·== w):=fun l=>by simp[eqF,sc,eqV,List.any_map,Function.comp_def]
 unfold oIn;rw[h];simp only[h1,h2,show isF (.int w)=true from rfl,Bool.and_self,if_true]
@[simp] theorem zjk(xs:List D):yif σ (.lst xs)=some xs:=nr rfl
@[simp] theorem zwz(f:Ev->M D):ynf f ρ σ=(f ρ σ).bind yie:=nr rfl
@[simp] theorem zjj(ds:List D):yie (.tup ds) σ=.ok (.seq ds) σ:=nr rfl
@[simp] theorem zji(ds:List D):yie (.lst ds) σ=.ok (.seq ds) σ:=nr rfl
@[simp] theorem zwy(f:Ev->M D):yne f ρ σ=(f ρ σ).bind ymu:=nr rfl
theorem zvl{j:Int}(h:-(2 ^ 62)<=j)(h2:j<2 ^ 62):ymu (.int j) σ=.ok (.seq (ycs j.toNat)) σ:=by
 unfold ymu;dsimp only;rw[if_pos (by simp only[zwg,zsv,Bool.and_eq_true,decide_eq_true_eq];exact⟨h,h2⟩)]
@[simp] theorem zvw(src:Ev->M Src)(tg:D->Ev->Option Ev)(body:Ev->M Fl):ym1 src tg body ρ σ=xsO ρ (yk1 tg body ρ) (src ρ σ):=yi6 ..
@[simp] theorem zlt(tg:D->Ev->Option Ev)(body:Ev->M Fl)(ds:List D):yk1 tg body ρ (.seq ds) σ=ylm tg body ds ρ σ:=nr rfl
@[simp] theorem zmz(tg:D->Ev->Option Ev)(body:Ev->M Fl):ylm tg body [] ρ σ=.ok (.nx ρ) σ:=nr rfl
theorem zik{tg:D->Ev->Option Ev}{body:Ev->M Fl}{d:D}{ds:List D}{ρ1:Ev}(h:tg d ρ=some ρ1):ylm tg body (d::ds) ρ σ=(body ρ1 σ).bind (ygg (ylm tg body ds)):=by
 show (match tg d ρ with|none=>bad|some ρ1=>bnd (body ρ1) (ygg (ylm tg body ds))) σ=_;rw[h];rfl
@[simp] theorem zm0(i:Nat)(body:Ev->M Fl)(d:D)(ds:List D):ylm (tgN i) body (d::ds) ρ σ=(body (ρ.set i (some d)) σ).bind (ygg (ylm (tgN i) body ds)):=zik rfl
@[simp] theorem zmy(k:Ev->M Fl):ygg k (.nx ρ) σ=k ρ σ:=nr rfl
theorem zja(n:Nat):ycs n=(List.range' 0 n).map fun(k:Nat)=>D.int k:=by unfold ycs;rw[List.range_eq_range']
theorem ya8{m:M α}{a:α}{σ':Sto}(h:m σ=.ok a σ'):nox m σ=.ok a σ':=by unfold nox;rw[h]
end
section
variable{α β:Type}{ρ:Ev}{σ:Sto}
@[simp] theorem zjl(ns:List Int):yif σ (.scr ns)=some (ns.map D.int):=nr rfl
theorem zua{ns:List Int}{k:Int}(h0:0<=k)(h:k<ns.length):oIx (.scr ns) (.int k) σ=.ok (.int (ns.getD k.toNat 0)) σ:=by
 simp only[oIx,zjl,yek h0 h]
@[simp] theorem zni(c:BT)(i:Int):yl1 c (.int i) σ=.ok (.bl (match c with | .int=>true|_=>false)) σ:=nr rfl
@[simp] theorem zt8(c:BT)(i:Bool):yl1 c (.bl i) σ=.ok (.bl (match c with | .int=>true | .bool=>true|_=>false)) σ:=nr rfl
@[simp] theorem zht(o o':D->D->M D)(a b c:Ev->M D):zyj o o' a b c ρ σ=(a ρ σ).bind (zxz o o' (b ρ) (c ρ)):=nr rfl
def pl:Nat->D->Bool
 |_,.non=>true
 |_,.bl _=>true
 |_,.int _=>true
 |_,.str _=>true
 |n+1,.tup xs=>xs.all (pl n)
 |n+1,.lst xs=>xs.all (pl n)
 |_,_=>false
@[simp] theorem zoi(f fo fi:Ev->M D):yib f fo fi ρ σ=xsO ρ (yij ρ fo fi) (f ρ σ):=yi6 ..
@[simp] theorem zhh(o o':D->D->M D)(b c:M D)(x:D):zxz o o' b c x σ=(b σ).bind (zx1 o o' c x):=nr rfl
@[simp] theorem zhj(o o':D->D->M D)(c:M D)(x y:D):zx1 o o' c x y σ=(o x y σ).bind (zx0 o' c y):=nr rfl
@[simp] theorem zhi(o':D->D->M D)(c:M D)(y:D)(b:Bool):zx0 o' c y (.bl b) σ=ifK (bnd c (o' y)) (ret (.bl false)) b σ:=nr rfl
@[simp] theorem zoq(fo fi:Ev->M D)(d:D):yij ρ fo fi d σ=xsO ρ (yik ρ fi d) (fo ρ σ):=yi6 ..
@[simp] theorem zor(fi:Ev->M D)(d x:D):yik ρ fi d x σ=xsO ρ (yil ρ d x) (fi ρ σ):=yi6 ..
theorem zlu{a:Ob}{d:D}(h:cl d=true):yk2 σ (.ok d (σ++[a]))=.ok d σ:=zsd h (by simp)
@[simp] theorem intsOf_map(l:List Int):yae (l.map D.int)=some l:=by
 induction l with
 |nil=>rfl
 |cons x l ih=>simp[yae,ih]
end
section
variable{ρ:Ev}{σ:Sto}
@[simp] theorem zkw(c n:Nat)(fn:List D->M D)(fs:Ev->M (List D)):ye8 c n fn fs ρ σ=(fs ρ σ).bind (ygp c n fn):=nr rfl
theorem zm1{c n:Nat}{fn:List D->M D}{ds:List D}(h:ds.length+1=n):ygp c n fn ds σ=ygx σ.length (fn (.ref σ.length::ds) (σ++[.ins c []])):=by unfold ygp;rw[if_pos h]
@[simp] theorem znb(n:Nat):ygx n (.ok .non σ)=.ok (.ref n) σ:=nr rfl
@[simp] theorem zvy(cs:List Nat)(f:Str)(fv fo:Ev->M D):ym3 cs f fv fo ρ σ=xsO ρ (yhs ρ cs f fo) (fv ρ σ):=yi6 ..
@[simp] theorem zn3(cs:List Nat)(f:Str)(fo:Ev->M D)(d:D):yhs ρ cs f fo d σ=xsO ρ (yht ρ cs f d) (fo ρ σ):=yi6 ..
theorem zi9{cs:List Nat}{f:Str}{d:D}{c:Nat}{fs:List (Str × D)}(h:cs.contains c=true)(hl:fs.length<1000):yht ρ cs f d (.ref σ.length) (σ++[.ins c fs])=.ok (.nx ρ) (σ++[.ins c (ymf f d fs)]):=by
 have e:yl9 cs f d (.ref σ.length) (σ++[.ins c fs])=.ok () (σ++[.ins c (ymf f d fs)]):=by
  have:(σ++[Ob.ins c fs])[σ.length]?=some (.ins c fs):=by simp
  unfold yl9;simp only[this];rw[if_pos (by rw[h];simpa using hl)];simp
 unfold yht;rw[e]
theorem zh6{c:Nat}{ns:List Str}{ds:List D}(h:ns.length=ds.length):yf5 σ (.obj c ns ds)=some (c,ns.zip ds):=by unfold yf5;dsimp only;rw[if_pos h]
theorem zt7{cs:List Nat}{f:Str}{x d:D}{c:Nat}{fs:List (Str × D)}(h:yf5 σ x=some (c,fs))(hc:cs.contains c=true)(hl:fs.lookup f=some d):yly cs f x σ=.ok d σ:=by
 unfold yly;rw[h];dsimp only;rw[if_pos hc,hl]
theorem zlv{c:Nat}{fs:List (Str × D)}(h:clL (fs.map (·.2))=true):yk2 σ (.ok (.ref σ.length) (σ++[.ins c fs]))=.ok (.obj c (fs.map (·.1)) (fs.map (·.2))) σ:=by
 unfold yk2;dsimp only;rw[if_pos (by simp)];have e:fz σ.length (σ++[.ins c fs]) 6 (.ref σ.length)=some (.obj c (fs.map (·.1)) (fs.map (·.2))):=by
  unfold fz;rw[if_neg (by simp)];dsimp only;rw[if_neg (Nat.lt_irrefl _)];have:(σ++[Ob.ins c fs])[σ.length]?=some (.ins c fs):=by simp
  rw[this];dsimp only;have hl:∀ (ys:List D) (m:Nat),clL ys=true->fzL (fz σ.length (σ++[.ins c fs]) m) ys=some ys:=by
   intro ys m;induction ys with
   |nil=>intro _;rfl
   |cons y ys ih=>
    intro hc;have hc':cl y=true/\clL ys=true:=by simpa [clL,Bool.and_eq_true]using hc
    unfold fzL;rw[yfx hc'.1,ih hc'.2]
  rw[hl _ 5 h];rfl
 rw[e]
@[simp] theorem znn(i j:Int):yg8 [.int i,.int j] σ=.ok (.int (max i j)) σ:=nr rfl
end
end L4
namespace L4
open PySem PySem.Spec PySem.Calls PyProof.Rows PySem.Builtin PySem.Builtin.ObjectAttr PySem.Builtin.Getset_descriptor L2
structure ExK(K:PySem.W.Frag)(C:Addr):Prop where
 g:PySem.W.findIn K (.ref C) "__getattribute__" = some (some (.builtin "BaseException.__getattribute__"))
 g2:PySem.W.findIn K (.ref C) "__getattr__" = some none
 mb:PySem.W.mroIn K C (.type "BaseException")=some true
 d:PySem.W.hasDictIn K C=true
 a:PySem.W.findIn K (.ref C) "__class__" = some (some (.builtin "object.__class__"))
 n:PySem.W.specialIn K (.builtin "object.__class__") "__get__" = some (some (.builtin "getset_descriptor.__get__"))
 t:PySem.W.takesIn K (.builtin "object.__class__")=some true
 m:PySem.W.mroIn K C (.type "object")=some true
section
variable{prog:Program}{w:World}{A:Around}{E:Value->Shared->Prop}{s:Shared}{K:PySem.W.Frag}{C ea:Addr}{hp:Heap}{Mo:Model}
theorem zxg.plain{dd:Option Addr}(p:zxg C dd ea hp):yd3 C ea hp:=let ⟨o,h1,h2,_⟩:=p;⟨o,h1,h2⟩
end
section
variable{T:Tb}{X:Cx}
inductive ClsV(X:Cx)(y:Str):V->Value->Prop where
 |own {a:Addr} (h:X.mg y=some (.ref a)):ClsV X y (.ref a) (.ref a)
 |bt {n:String} (h:X.mg y=none) (hv:bootBuiltins y=some (.type n)) (hn:y ≠ "__name__"):ClsV X y (.ty n) (.type n)
theorem ClsV.rel{y:Str}{vc:V}{cv:Value}(h:ClsV X y vc cv):∀ u,yjs vc u->u=cv:=by
 cases h with
 |own h=>exact fun u q=>q
 |bt h hv hn=>exact fun u q=>q
end
section
variable{ρ:Ev}{σ:Sto}
end
end L4
namespace L4
open PySem PySem.Spec PySem.Calls PyProof.Rows L2
section
variable{T:Tb}{X:Cx}
end
end L4
namespace HT
open PySem Builtin
open Sem (wp)
end HT
namespace L4
open PySem PySem.Spec PyProof.Rows L2
end L4
namespace HT
open PySem Builtin
open Sem (wp)
end HT
namespace L4
open PySem PySem.Spec PyProof.Rows L2
section
variable{T:Tb}{X:Cx}
end
end L4
namespace L2
open PySem PySem.Spec PyProof.Rows
section
variable{κ:Type}[DecidableEq κ]
def yn0(kvs:List (κ × V))(k:κ):Option V:=(kvs.find? fun kv=>decide (kv.1=k)).map (·.2)
def ymh(kvs:List (κ × V))(k:κ)(v:V):List (κ × V):=
 if (kvs.any fun kv=>decide (kv.1=k))=true then kvs.map (fun kv=>if kv.1=k then (kv.1,v)else kv)else kvs++[(k,v)]
def ye2(kvs:List (κ × V))(k:κ):List (κ × V):=kvs.filter fun kv=>decide (kv.1≠k)
theorem zpq{p:κ × V}{r:List (κ × V)}{k:κ}(e:p.1=k):yn0 (p::r) k=some p.2:=by simp[yn0,List.find?_cons,e]
theorem zpp{p:κ × V}{r:List (κ × V)}{k:κ}(e:¬ p.1=k):yn0 (p::r) k=yn0 r k:=by simp[yn0,List.find?_cons,e]
theorem zpo(k:κ):∀ kvs:List (κ × V),(kvs.any fun kv=>decide (kv.1=k))=(yn0 kvs k).isSome
 |[]=>rfl
 |p::r=>by
  rw[List.any_cons];by_cases e:p.1=k
  ·simp only[zpq e,decide_eq_true e,Bool.true_or,Option.isSome_some]
  ·rw[zpp e,decide_eq_false e,Bool.false_or];exact zpo k r
theorem zen(kvs:List (κ × V))(k:κ)(v:V):(ymh kvs k v).length<=kvs.length+1:=by
 unfold ymh;split
 ·rw[List.length_map];omega
 ·rw[List.length_append,List.length_cons,List.length_nil];omega
theorem yjr.isSome_eq{o:Option V}{u:Option Value}(r:yjr o u):o.isSome=u.isSome:=by
 cases o with
 |none=>cases u with
  |none=>rfl
  |some _=>exact(show False from r).elim
 |some _=>cases u with
  |none=>exact(show False from r).elim
  |some _=>rfl
theorem yjr.getD{o:Option V}{u:Option Value}{d:V}{d':Value}(r:yjr o u)(rd:yjs d d'):yjs (o.getD d) (u.getD d'):=by
 cases o with
 |none=>cases u with
  |none=>exact rd
  |some _=>exact(show False from r).elim
 |some _=>cases u with
  |none=>exact(show False from r).elim
  |some _=>exact r
theorem KV.val{kvs:List (κ × V)}{vs:List (κ × Value)}(r:KV kvs vs)(k:κ):yjr (yn0 kvs k) (valueAt vs k):=by
 unfold KV at r;induction r with
 |nil=>exact True.intro
 |@cons p q ps qs h t ih=>
  obtain⟨h1,h2⟩:=h;by_cases e:p.1=k
  ·have e':q.1=k:=h1.symm.trans e;have b:valueAt (q::qs) k=some q.2:=by simp[valueAt,List.find?_cons,e']
   rw[zpq e,b];exact h2
  ·have e':¬ q.1=k:=fun z=>e (h1.trans z);have b:valueAt (q::qs) k=valueAt qs k:=by simp[valueAt,List.find?_cons,e']
   rw[zpp e,b];exact ih
theorem KV.any{kvs:List (κ × V)}{vs:List (κ × Value)}(r:KV kvs vs)(k:κ):(kvs.any fun kv=>decide (kv.1=k))=vs.any fun kv=>decide (kv.1=k):=by
 unfold KV at r;induction r with
 |nil=>rfl
 |cons h t ih=>rw[List.any_cons,List.any_cons,ih,h.1]
theorem KV.repl{kvs:List (κ × V)}{vs:List (κ × Value)}(r:KV kvs vs)(k:κ){y:V}{u:Value}(ry:yjs y u) :
  KV (kvs.map fun kv=>if kv.1=k then (kv.1,y)else kv) (vs.map fun kv=>if kv.1=k then (kv.1,u)else kv):=by
 unfold KV at r ⊢;induction r with
 |nil=>exact .nil
 |@cons p q ps qs h t ih=>
  rw[List.map_cons,List.map_cons];refine .cons ?_ ih;obtain⟨h1,h2⟩:=h;by_cases e:p.1=k
  ·rw[if_pos e,if_pos (h1.symm.trans e)];exact⟨h1,ry⟩
  ·rw[if_neg e,if_neg (fun z=>e (h1.trans z))];exact⟨h1,h2⟩
theorem KV.put{kvs:List (κ × V)}{vs:List (κ × Value)}(r:KV kvs vs)(k:κ){y:V}{u:Value}(ry:yjs y u):KV (ymh kvs k y) (stored vs k u):=by
 unfold ymh stored;rw[r.any k];by_cases e:(vs.any fun kv=>decide (kv.1=k))=true
 ·rw[if_pos e,if_pos e];exact r.repl k ry
 ·rw[if_neg e,if_neg e];exact Paired.snoc r ⟨rfl,ry⟩
theorem KV.drop{kvs:List (κ × V)}{vs:List (κ × Value)}(r:KV kvs vs)(k:κ):KV (ye2 kvs k) (without vs k):=by
 unfold KV at r ⊢;unfold ye2 without;induction r with
 |nil=>exact .nil
 |@cons p q ps qs h t ih=>
  obtain⟨h1,h2⟩:=h;rw[List.filter_cons,List.filter_cons];by_cases e:p.1=k
  ·have a:¬ decide (p.1≠k)=true:=by simp[e]
   have b:¬ decide (q.1≠k)=true:=by simp[h1.symm.trans e]
   rw[if_neg a,if_neg b];exact ih
  ·have e':¬ q.1=k:=fun z=>e (h1.trans z);have a:decide (p.1≠k)=true:=by simp[e]
   have b:decide (q.1≠k)=true:=by simp[e']
   rw[if_pos a,if_pos b];exact .cons ⟨h1,h2⟩ ih
theorem KV.keys{kvs:List (κ × V)}{vs:List (κ × Value)}(r:KV kvs vs):kvs.map (·.1)=vs.map (·.1):=by
 unfold KV at r;induction r with
 |nil=>rfl
 |cons h t ih=>rw[List.map_cons,List.map_cons,ih,h.1]
theorem KV.length{kvs:List (κ × V)}{vs:List (κ × Value)}(r:KV kvs vs):kvs.length=vs.length:=Paired.length r
theorem zkr(kvs:List (κ × V))(k:κ):(ye2 kvs k).length<=kvs.length:=List.length_filter_le _ _
end
theorem ygb{P:Program}{w:World}{k:Key}{u:Value}(r:yjs (kV k) u):(ztq P w).is k u=true:=by
 cases k with
 |inl i=>obtain⟨t,e⟩:=(show ∃ t,u=Value.int i t from r);subst e;exact zep P w i t
 |inr x=>obtain⟨t,e⟩:=(show ∃ t,u=Value.str x t from r);subst e;exact zeq P w x t
theorem zib{P:Program}{w:World}:∀ {ks:List Key} {us:List Value},yj1 (ks.map kV) us->ItemsAre (ztq P w) ks us
 |[],_,r=>by rw[List.map_nil]at r;cases r;exact .nil
 |k::ks,_,r=>by
  rw[List.map_cons]at r;cases r with
  |cons h t=>exact .cons (ygb h) (zib t)
abbrev KT(H:Hp):List (List Key × V)->List (List Key × Addr × Value)->Prop:=Paired fun p q=>p.1=q.1/\H q.2.1=some (.tup (p.1.map kV))/\yjs p.2 q.2.2
theorem KT.val{H:Hp}{kvs:List (List Key × V)}{xs:List (List Key × Addr × Value)}(r:KT H kvs xs)(k:List Key):yjr (yn0 kvs k) ((atKey xs k).map (·.2)):=by
 induction r with
 |nil=>exact True.intro
 |@cons p q ps qs h t ih=>
  obtain⟨h1,_,h2⟩:=h;by_cases e:p.1=k
  ·have e':q.1=k:=h1.symm.trans e;have b:atKey (q::qs) k=some q.2:=by simp[atKey,List.find?_cons,e']
   rw[zpq e,b];exact h2
  ·have e':¬ q.1=k:=fun z=>e (h1.trans z);have b:atKey (q::qs) k=atKey qs k:=by simp[atKey,List.find?_cons,e']
   rw[zpp e,b];exact ih
theorem KT.repl{H:Hp}{kvs:List (List Key × V)}{xs:List (List Key × Addr × Value)}(r:KT H kvs xs)(k:List Key){y:V}{u:Value}(ry:yjs y u) :
  KT H (kvs.map fun kv=>if kv.1=k then (kv.1,y)else kv) (xs.map (putAt k u)):=by
 induction r with
 |nil=>exact .nil
 |@cons p q ps qs h t ih=>
  rw[List.map_cons,List.map_cons];refine .cons ?_ ih;obtain⟨h1,h2,h3⟩:=h;unfold putAt;by_cases e:p.1=k
  ·rw[if_pos e,if_pos (h1.symm.trans e)];exact⟨h1,h2,ry⟩
  ·rw[if_neg e,if_neg (fun z=>e (h1.trans z))];exact⟨h1,h2,h3⟩
theorem KT.put{H:Hp}{kvs:List (List Key × V)}{xs:List (List Key × Addr × Value)}(r:KT H kvs xs)(k:List Key){b:Addr}{y:V}{u:Value}(hb:H b=some (.tup (k.map kV)))(ry:yjs y u) :
  KT H (ymh kvs k y) (storedH xs k b u):=by
 have e:(kvs.any fun kv=>decide (kv.1=k))=(atKey xs k).isSome:=by
  rw[zpo,(r.val k).isSome_eq,Option.isSome_map]
 unfold ymh storedH;rw[e];by_cases q:(atKey xs k).isSome=true
 ·rw[if_pos q,if_pos q];exact r.repl k ry
 ·rw[if_neg q,if_neg q];exact Paired.snoc r ⟨rfl,hb,ry⟩
theorem KT.keeps{H H':Hp}{kvs:List (List Key × V)}{xs:List (List Key × Addr × Value)}(r:KT H kvs xs)(ht:∀ b ys,H b=some (.tup ys)->H' b=some (.tup ys)):KT H' kvs xs:=
 Paired.mapP r fun _ _ z=>⟨z.1,ht _ _ z.2.1,z.2.2⟩
section
variable{P:Program}{w:World}{H:Hp}{h:Heap}{a:Addr}
theorem yh8{u:HO}(ok:HOk P w H h)(e:Rd H a u):yd7 P w H h a u:=e.ok ok
theorem ye1{kvs:List (Key × V)}(ok:HOk P w H h)(e:Rd H a (.dK kvs)):kvs.length<=sizeLine/\(a == sysModules)=false/\∃ vs,KV kvs vs/\h.DictOf (ztq P w) a vs:=
 show yd7 P w H h a (.dK kvs)from yh8 ok e
theorem ye0{kvs:List (Key × V)}(ok:HOk P w H h)(e:H a=some (.dK kvs)):kvs.length<=sizeLine/\(a == sysModules)=false/\∃ vs,KV kvs vs/\h.DictOf (ztq P w) a vs:=ye1 ok (.inl e)
theorem yam{ks:List Key}(ok:HOk P w H h)(e:H a=some (.tup (ks.map kV))):(tupleKind (ztq P w)).is h ks a:=by
 obtain⟨_,its,r,o,h1,h2,n,h3⟩:=(show yd7 P w H h a (.tup (ks.map kV))from ok a _ e)
 exact⟨o,its.toArray,n,h1,h2,h3,by simpa using zib r⟩
theorem ye4{kvs:List (List Key × V)}(ok:HOk P w H h)(e:Rd H a (.dT kvs)):kvs.length<=sizeLine/\(a == sysModules)=false/\
  ∃ xs,KT H kvs xs/\h.DictOfH (tupleKind (ztq P w)) a xs:=by
 obtain⟨z,y,xs,r,o,es,ep,h1,h2,h3,h4,h5⟩:=(show yd7 P w H h a (.dT kvs)from yh8 ok e)
 refine⟨z,y,xs,r,o,es,ep,h1,h2,h3,h4,fun x hx=>?_,h5⟩;have all:∀ {l:List (List Key × V)} {m:List (List Key × Addr × Value)},KT H l m->∀ x∈m,(tupleKind (ztq P w)).is h x.1 x.2.1:=by
  intro l m q;induction q with
  |nil=>intro x hx;exact nomatch hx
  |@cons p q ps qs hq t ih=>
   intro x hx;rcases List.mem_cons.mp hx with e|hx
   ·subst e;exact yam ok (by rw[<-hq.1];exact hq.2.1)
   ·exact ih x hx
 exact all r x hx
theorem ye3{kvs:List (List Key × V)}(ok:HOk P w H h)(e:H a=some (.dT kvs)):kvs.length<=sizeLine/\(a == sysModules)=false/\
  ∃ xs,KT H kvs xs/\h.DictOfH (tupleKind (ztq P w)) a xs:=ye4 ok (.inl e)
end
def DGet(H:Hp)(a:Addr)(y:V)(r:Option V):Prop:=
 (∃ kvs k,Rd H a (.dK kvs)/\y=kV k/\r=yn0 kvs k)\/∃ kvs k b,Rd H a (.dT kvs)/\y=.ref b/\H b=some (.tup (k.map kV))/\r=yn0 kvs k
def yjd(H:Hp)(a:Addr)(y v:V)(H':Hp):Prop:=
 (∃ kvs k,H a=some (.dK kvs)/\y=kV k/\kvs.length<sizeLine/\H'=upd H a (.dK (ymh kvs k v)))\/
 ∃ kvs k b,H a=some (.dT kvs)/\y=.ref b/\H b=some (.tup (k.map kV))/\kvs.length<sizeLine/\H'=upd H a (.dT (ymh kvs k v))
theorem DGet.k{H:Hp}{a:Addr}{kvs:List (Key × V)}{k:Key}(e:H a=some (.dK kvs)):DGet H a (kV k) (yn0 kvs k):=.inl ⟨kvs,k,.inl e,rfl,rfl⟩
theorem DGet.t{H:Hp}{a b:Addr}{kvs:List (List Key × V)}{k:List Key}(e:H a=some (.dT kvs))(eb:H b=some (.tup (k.map kV))):DGet H a (.ref b) (yn0 kvs k):=.inr ⟨kvs,k,b,.inl e,rfl,eb,rfl⟩
theorem yjd.k{H:Hp}{a:Addr}{kvs:List (Key × V)}{k:Key}{v:V}(e:H a=some (.dK kvs))(hl:kvs.length<sizeLine):yjd H a (kV k) v (upd H a (.dK (ymh kvs k v))):=.inl ⟨kvs,k,e,rfl,hl,rfl⟩
theorem yjd.t{H:Hp}{a b:Addr}{kvs:List (List Key × V)}{k:List Key}{v:V}(e:H a=some (.dT kvs))(eb:H b=some (.tup (k.map kV)))(hl:kvs.length<sizeLine) :
  yjd H a (.ref b) v (upd H a (.dT (ymh kvs k v))):=.inr ⟨kvs,k,b,e,rfl,eb,hl,rfl⟩
section
variable{X:Cx}{pins:List (Addr × Obj)}{σ:St}{H:Hp}{s:Shared}{a:Addr}{y v:V}{u r:Value}{o:Option V}{A:Around}{E:Value->Shared->Prop}
theorem Inv.big(I:Inv X pins σ H s):sysModules<s.heap.objs.size:=by
 have h:mainGlobals<s.heap.objs.size:=(I.mod.glob.keeps I.bk).lt;exact Nat.lt_trans (by decide) h
theorem zho{Q:Value->Shared->Prop}(hu:A.units+1<cLine)(I:Inv X pins σ H s)(g:DGet H a y (some v))(ry:yjs y u)(h:∀ w' s',Inv X pins σ H s'->yjs v w'->Q w' s') :
  wpAny (model X.prog X.w) A (getItem (.ref a) u) Q E s:=by
 rcases g with⟨kvs,k,e,ey,l⟩|⟨kvs,k,b,e,ey,eb,l⟩
 ·subst ey;obtain⟨z,hd,vs,rel,dd⟩:=ye1 I.hok e;obtain⟨w',hw,rw'⟩:=yjr.some_of (v:=v) (o:=valueAt vs k) (by rw[l];exact rel.val k);exact wpAny_getItem_of (ygb ry) dd.mapOf hw (h w' _ (I.tok _) rw')
 ·subst ey;cases (show u=Value.ref b from ry);obtain⟨z,hd,xs,rel,dd⟩:=ye4 I.hok e;obtain⟨w',hw,rw'⟩:=yjr.some_of (v:=v) (o:=(atKey xs k).map (·.2)) (by rw[l];exact rel.val k);obtain⟨p,hp,hp2⟩:=Option.map_eq_some_iff.mp hw;refine wpAny_getItem_heap (tupleKind_room_in1 hu) (yam I.hok eb) dd hp ?_;rw[hp2];exact h w' _ (I.tok _) rw'
theorem ykl{Q:Value->Shared->Prop}(hu:A.units+1<cLine)(I:Inv X pins σ H s)(g:DGet H a y o)(ry:yjs y u)(h:∀ s',Inv X pins σ H s'->Q (.bool o.isSome) s') :
  wpAny (model X.prog X.w) A (compareOp .In u (.ref a)) Q E s:=by
 rcases g with⟨kvs,k,e,ey,l⟩|⟨kvs,k,b,e,ey,eb,l⟩
 ·subst ey;obtain⟨z,hd,vs,rel,dd⟩:=ye1 I.hok e;refine wpAny_in_of (ygb ry) hd dd.mapOf ?_;rw[<-(rel.val k).isSome_eq,<-l];exact h _ (I.tok _)
 ·subst ey;cases (show u=Value.ref b from ry);obtain⟨z,hd,xs,rel,dd⟩:=ye4 I.hok e;refine wpAny_in_heap (tupleKind_room_in1 hu) (yam I.hok eb) hd dd ?_;have q:=(rel.val k).isSome_eq;rw[Option.isSome_map]at q;rw[<-q,<-l];exact h _ (I.tok _)
theorem zq2{h':Heap}{t':Nat}{ob:HO}(I:Inv X pins σ H s)(mu:Mut (H a))(hs:Heap.SameBut a s.heap h')(he:∃ q,h'.get? a=some q)(new:yd7 X.prog X.w (upd H a ob) h' a ob) :
  Inv X pins σ (upd H a ob) { s with heap:=h',toks:=t' }:=
 I.write (x:=a) (e:=a) mu (.inl rfl) (fun b q hb z=>(hs.2 b hb).trans z) he new
theorem zyf{P:Program}{w:World}{H':Hp}{h':Heap}{kvs:List (Key × V)}{vs:List (Key × Value)}(z:kvs.length<=sizeLine)(hd:(a == sysModules)=false)(rel:KV kvs vs)(dd:h'.DictOf (ztq P w) a vs) :
  yd7 P w H' h' a (.dK kvs):=⟨z,hd,vs,rel,dd⟩
theorem zhp{H':Hp}{Q:Unit->Shared->Prop}(hu:A.units+1<cLine)(I:Inv X pins σ H s)(g:yjd H a y v H')(ry:yjs y u)(rv:yjs v r)(h:∀ s',Inv X pins σ H' s'->Q () s') :
  wpAny (model X.prog X.w) A (setItem (.ref a) u r) Q E s:=by
 rcases g with⟨kvs,k,e,ey,l,eH⟩|⟨kvs,k,b,e,ey,eb,l,eH⟩
 ·subst ey eH;obtain⟨z,hd,vs,rel,dd⟩:=ye0 I.hok e;have hz:vs.length<=sizeLine:=by rw[<-rel.length];exact z
  have hl:(ymh kvs k v).length<=sizeLine:=by have:=zen kvs k v;omega
  refine wpAny_setItem_pairs (hsz:=hz) (ygb ry) dd fun h' dd' hs=>h _ ?_;have he:∃ q,h'.get? a=some q:=let ⟨q,_,_,hq,_⟩:=dd';⟨q,hq⟩;exact zq2 I (by rw[e];exact True.intro) hs he (zyf hl hd (rel.put k rv) dd')
 ·subst ey eH;cases (show u=Value.ref b from ry);obtain⟨z,hd,xs,rel,dd⟩:=ye3 I.hok e;have hz:xs.length<=sizeLine:=by rw[<-Paired.length rel];exact z
  have hl:(ymh kvs k v).length<=sizeLine:=by have:=zen kvs k v;omega
  refine wpAny_setItem_heap (hsz:=hz) (tupleKind_room_in1 hu) (yam I.hok eb) dd fun h' dd' hs=>h _ ?_;obtain⟨q,es,ep,hq,h2,h3,h4,_,h5⟩:=dd';refine zq2 I (by rw[e];exact True.intro) hs ⟨q,hq⟩ ⟨hl,hd,_,(rel.put k eb rv).keeps fun c ys ec=>?_,q,es,ep,hq,h2,h3,h4,h5⟩;rw[ydx (ygu ec e (fun z=>nomatch z))];exact ec
end
section
variable{X:Cx}{pins:List (Addr × Obj)}{σ:St}{H:Hp}{s:Shared}{a:Addr}{kvs:List (Key × V)}{k:Key}{u:Value}{A:Around}{E:Value->Shared->Prop}
theorem zhn{Q:Unit->Shared->Prop}(I:Inv X pins σ H s)(e:H a=some (.dK kvs))(ry:yjs (kV k) u)(l:(yn0 kvs k).isSome=true)(h:∀ s',Inv X pins σ (upd H a (.dK (ye2 kvs k))) s'->Q () s') :
  wpAny (model X.prog X.w) A (delItem (.ref a) u) Q E s:=by
 obtain⟨z,hd,vs,rel,dd⟩:=ye0 I.hok e;refine wpAny_delItem_slot dd.typeIs (by decide) PySem.F.slot_dict_delitem
  (call_meetsIn PySem.F.slot_dict_delitem dd.typeIs PySem.F.entry_dict_delitem (PySem.F.args_dict_delitem_2 _ _) (meets_dict_delitem_pairs (ztq X.prog X.w) a (ygb ry)) ⟨vs,dd,by rw[<-rel.length];exact z,by rw[<-(rel.val k).isSome_eq];exact l,fun h' dd' hs=>h _ ?_⟩)
 have he:∃ q,h'.get? a=some q:=let ⟨q,_,_,hq,_⟩:=dd';⟨q,hq⟩;exact zq2 I (by rw[e];exact True.intro) hs he (zyf (Nat.le_trans (zkr kvs k) z) hd (rel.drop k) dd')
theorem yez{v:V}{more:List Value}{Q:Value->Shared->Prop}(I:Inv X pins σ H s)(e:H a=some (.dK kvs))(ry:yjs (kV k) u)(l:yn0 kvs k=some v)(hm:more=[]\/∃ x,more=[x])
  (h:∀ w' s',Inv X pins σ (upd H a (.dK (ye2 kvs k))) s'->yjs v w'->Q w' s'):wpAny (model X.prog X.w) A (call (.builtin "dict.pop") (.ref a::u::more)) Q E s:=by
 obtain⟨z,hd,vs,rel,dd⟩:=ye0 I.hok e;obtain⟨w',hw,rw'⟩:=yjr.some_of (v:=v) (o:=valueAt vs k) (by rw[<-l];exact rel.val k);have hp:(keyPart u).isSome=true:=by
  cases k with
  |inl i=>obtain⟨t,q⟩:=(show ∃ t,u=Value.int i t from ry);subst q;rfl
  |inr x=>obtain⟨t,q⟩:=(show ∃ t,u=Value.str x t from ry);subst q;rfl
 have ha:argsOk "dict.pop" ⟨.ref a::u::more,[]⟩:=by
  rcases hm with q|⟨x,q⟩
  ·subst q;exact PySem.F.args_dict_pop_2 _ _
  ·subst q;exact PySem.F.args_dict_pop_3 _ _ _
 refine call_meetsIn PySem.F.slot_dict_pop dd.typeIs PySem.F.entry_dict_pop ha (meets_dict_pop_there (ztq X.prog X.w) a (ygb ry) more hm hp)
  ⟨vs,w',dd,by rw[<-rel.length];exact z,hw,fun h' dd' hs=>h w' _ ?_ rw'⟩
 have he:∃ q,h'.get? a=some q:=let ⟨q,_,_,hq,_⟩:=dd';⟨q,hq⟩;exact zq2 I (by rw[e];exact True.intro) hs he (zyf (Nat.le_trans (zkr kvs k) z) hd (rel.drop k) dd')
theorem yey{Q:Value->Shared->Prop}(I:Inv X pins σ H s)(e:Rd H a (.dK kvs))(h:∀ t s',Inv X pins σ H s'->Q (.int kvs.length t) s'):wpAny (model X.prog X.w) A (call (.builtin "len") [.ref a]) Q E s:=by
 obtain⟨z,hd,vs,rel,dd⟩:=ye1 I.hok e;refine call_len_dict hd dd (by rw[<-rel.length];rw[sizeLine_eq]at z;omega) ?_;rw[<-rel.length];exact h _ _ (I.tok _)
end
def yjl(i:Expr):Prop:=∀ ov iv,subscripted i false ov iv=operate [ov,iv] (getItem ov iv)
theorem zw5{prog:Program}{w:World}{A:Around}{E:Value->Shared->Prop}{s:Shared}{env:Env}{value slice:Expr}{pos:Pos}{T id:String}{Q:Value->Shared->Prop}
  (hl:typeLookup (.type T) "__getitem__" = pure (some (.builtin id))) (hs:yjl slice)
  (h:wpAny (model prog w) A (eval value env) (fun o s₁=>wpAny (model prog w) A (eval slice env) (fun i s₂=>s₂.TypeIs o T/\wpAny (model prog w) A (getItem o i) Q E s₂) E s₁) E s) :
  wpAny (model prog w) A (eval (.Subscript value slice pos) env) Q E s:=by
 refine Subscript_ (wpAny_mono h (fun o s₁ h₁=>wpAny_mono h₁ (fun i s₂ h₂=>?_) fun _ _ x=>x) fun _ _ x=>x);obtain⟨hT,h₂⟩:=h₂;unfold subscriptTail;refine wpAny_bind ?_;rw[getitemInPython_of_ne hT.not_modules];refine wpAny_bind (wpAny_specialOf hT hl ?_);have fin:wpAny (model prog w) A (subscripted slice false o i) (fun r s₃=>wpAny (model prog w) A (letTemporaryGo value o r >>= fun _=>pure r) Q E s₃) E s₂:=by
  rw[hs o i];exact wpAny_operating (wpAny_mono h₂ (fun r s₃ h₃=>wpAny_bind (wpAny_letTemporaryGo (wpAny_pure h₃))) fun _ _ x=>x)
 first
  |exact wpAny_pure (wpAny_bind fin)
  |exact wpAny_bind (wpAny_pure (wpAny_bind fin))
  |exact wpAny_bind fin
theorem zef{X:Cx}{pins:List (Addr × Obj)}{σ:St}{H:Hp}{s:Shared}{a:Addr}{y:V}{o:Option V}(I:Inv X pins σ H s)(g:DGet H a y o):s.TypeIs (.ref a) "dict":=by
 rcases g with⟨kvs,k,e,_,_⟩|⟨kvs,k,b,e,_,_,_⟩
 ·obtain⟨_,_,vs,_,dd⟩:=ye1 I.hok e;exact dd.typeIs
 ·obtain⟨_,_,xs,_,dd⟩:=ye4 I.hok e;exact dd.typeIs
def yis(td ty:TE):TE:=fun σ H Q=>td σ H fun x H1=>ty σ H1 fun y H2=>∃ a v,x=.ref a/\DGet H2 a y (some v)/\Q v H2
section
variable{X:Cx}{o i e value:Expr}{pos pos' tpos:Pos}{td ty tv:TE}
theorem zuv(hu:X.A.units+1<cLine)(ho:PE X o td)(hi:PE X i ty)(hs:yjl i):PE X (.Subscript o i pos) (yis td ty):=by
 intro pins s σ H Q I h;refine zw5 PySem.F.slot_dict_getitem.lookup hs (thn (ho pins s σ H _ I h) fun u s1 ⟨x,H1,I1,rx,q1⟩=>thn (hi pins s1 σ H1 _ I1 q1) fun iv s2 ⟨y,H2,I2,ry,a,v,ex,g,q2⟩=>?_);subst ex;obtain rfl:u=Value.ref a:=rx;exact⟨zef I2 g,zho hu I2 g ry fun w' s3 I3 rw'=>⟨v,H2,I3,rw',q2⟩⟩
end
theorem zkp{P:Program}{w:World}{H:Hp}(h:Heap)(hb:sysModules<h.objs.size):yd7 P w H (h.push { cls:=.type "dict",data:=.dict #[] }) h.objs.size (.dK []):=
 ⟨Nat.zero_le _,beq_eq_false_iff_ne.mpr (Ne.symm (Nat.ne_of_lt hb)),[],.nil,Heap.DictOf.new h⟩
def ydm:TE:=fun _ H Q=>∀ p,H p=none->Q (.ref p) (upd H p (.dK []))
section
variable{X:Cx}{pos:Pos}
theorem zns:PE X (.Dict [] [] pos) ydm:=fun pins s σ H Q I h=>
 wpAny_Dict_empty ⟨.ref s.heap.objs.size,_,I.laid (a:=s.heap.objs.size) (o:=.dK []) (t':=s.toks) (fun _ _ q=>Heap.get?_push_of_some _ q) (Nat.le_refl _) (zkp s.heap I.big),rfl,h _ (I.hok.fresh (Nat.le_refl _))⟩
end
section
variable{X:Cx}{pins:List (Addr × Obj)}{σ:St}{H:Hp}{s:Shared}{a:Addr}{kvs:List (Key × V)}{A:Around}{E:Value->Shared->Prop}
theorem zkm{Q:Value->Shared->Prop}(I:Inv X pins σ H s)(e:Rd H a (.dK kvs))(h:∀ p s',H p=none->Inv X pins σ (upd H p (.dK kvs)) s'->Q (.ref p) s'):wpAny (model X.prog X.w) A (call (.type "dict") [.ref a]) Q E s:=by
 obtain⟨z,hd,vs,rel,dd⟩:=ye1 I.hok e;refine kt_call_dict hd dd (by rw[<-rel.length];exact z) fun h' dd' hs=>?_;refine h _ _ (I.hok.fresh (Nat.le_refl _)) (I.laid (a:=s.heap.objs.size) (o:=.dK kvs) (t':=s.toks) (fun b q hq=>?_) (Nat.le_refl _) (zyf z (beq_eq_false_iff_ne.mpr (Ne.symm (Nat.ne_of_lt I.big))) rel dd'));exact(hs.2 b (Nat.ne_of_lt (Heap.lt_size hq))).trans (Heap.get?_push_of_some _ hq)
end
end L2
namespace L4
open PySem PySem.Spec PyProof.Rows L2
def ylh:D->Option Key
 | .int i=>some (.inl i)
 | .str x=>some (.inr x)
 |_=>none
def ykm(σ:Sto):D->Option (List (Key × D))
 | .dic ks xs=>if ks.length=xs.length then some (ks.zip xs)else none
 | .ref n=>(match σ[n]? with
  |some (.dic kvs)=>some kvs
  |_=>none)
 |_=>none
def yfl(kvs:List (Key × D))(k:Key):Option D:=(kvs.find? fun kv=>decide (kv.1=k)).map (·.2)
def yhr(kvs:List (Key × D))(k:Key)(d:D):List (Key × D):=
 if kvs.any (fun kv=>decide (kv.1=k))then kvs.map fun kv=>if kv.1=k then (kv.1,d)else kv else kvs++[(k,d)]
section
variable{T:Tb}{X:Cx}{μ:List Addr}{H:Hp}
theorem ztc{y:D}{v:V}{k:Key}(h:Rep T μ H y v)(e:ylh y=some k):v=kV k:=by
 cases y<;>simp[ylh]at e<;>subst e<;>rw[Rep]at h<;>exact h
theorem zoa:∀ {ks:List Key} {ds:List D} {kvs:List (Key × V)},kvs.map (·.1)=ks->yjv T μ H ds (kvs.map (·.2))->yju T μ H (ks.zip ds) kvs
 |ks,[],kvs,h1,h2=>by
  rw[yjv]at h2;have:kvs=[]:=by simpa using h2
  subst this;rw[<-h1];exact .nil
 |ks,d::ds,kvs,h1,h2=>by
  rw[yjv]at h2;obtain⟨v,r,e,q1,q2⟩:=h2;cases kvs with
  |nil=>cases e
  |cons p kvs=>
   rw[List.map_cons]at e h1;cases e;rw[<-h1];exact .cons ⟨rfl,q1⟩ (zoa rfl q2)
theorem ycv{σ:Sto}(r:Rel T μ H σ){x:D}{v:V}{kvs:List (Key × D)}(h:Rep T μ H x v)(e:ykm σ x=some kvs):∃ a vs,v=.ref a/\Rd H a (.dK vs)/\yju T μ H kvs vs:=by
 cases x with
 |dic ks xs=>
  rw[Rep]at h;obtain⟨a,vs,rfl,_,h1,h2,h3⟩:=h;unfold ykm at e;dsimp only at e;split at e
  ·cases e;exact⟨a,vs,rfl,h1,zoa h2 h3⟩
  ·cases e
 |ref n=>
  unfold ykm at e;dsimp only at e;cases q:σ[n]? with
  |none=>rw[q]at e;cases e
  |some o=>
   rw[q]at e;cases o with
   |dic kvs'=>
    cases e;obtain⟨a,rfl,_,vs,h1,h2⟩:=r.at h q;exact⟨a,vs,rfl,.inl h1,h2⟩
   |_=>cases e
 |_=>cases e
theorem zlm{kvs:List (Key × D)}{vs:List (Key × V)}(h:yju T μ H kvs vs)(k:Key):(yfl kvs k=none/\yn0 vs k=none)\/∃ d v,yfl kvs k=some d/\yn0 vs k=some v/\Rep T μ H d v:=by
 unfold yju at h;induction h with
 |nil=>exact .inl ⟨rfl,rfl⟩
 |@cons p q ps qs h t ih=>
  obtain⟨h1,h2⟩:=h;by_cases e:p.1=k
  ·have e':q.1=k:=h1.symm.trans e;exact .inr ⟨p.2,q.2,by unfold yfl;rw[List.find?_cons,decide_eq_true e];rfl,zpq e',h2⟩
  ·have e':¬ q.1=k:=fun z=>e (h1.trans z);have f:yfl (p::ps) k=yfl ps k:=by unfold yfl;rw[List.find?_cons,decide_eq_false e]
   rw[f,zpp e'];exact ih
theorem zp5{kvs:List (Key × D)}{vs:List (Key × V)}(h:yju T μ H kvs vs)(k:Key):(kvs.any fun kv=>decide (kv.1=k))=(vs.any fun kv=>decide (kv.1=k)):=by
 unfold yju at h;induction h with
 |nil=>rfl
 |@cons p q ps qs h t ih=>rw[List.any_cons,List.any_cons,ih,h.1]
theorem zf9{α β:Type}{F:α->β->Prop}{f:α->α}{g:β->β}(hfg:∀ a b,F a b->F (f a) (g b)):∀ {l:List α} {m:List β},Paired F l m->Paired F (l.map f) (m.map g)
 |_,_,.nil=>.nil
 |_,_,.cons h t=>.cons (hfg _ _ h) (zf9 hfg t)
theorem zez{α β:Type}{F:α->β->Prop}{a:α}{b:β}(hab:F a b):∀ {l:List α} {m:List β},Paired F l m->Paired F (l++[a]) (m++[b])
 |_,_,.nil=>.cons hab .nil
 |_,_,.cons h t=>.cons h (zez hab t)
theorem zkq{kvs:List (Key × D)}{vs:List (Key × V)}(h:yju T μ H kvs vs)(k:Key){d:D}{v:V}(hd:Rep T μ H d v):yju T μ H (yhr kvs k d) (ymh vs k v):=by
 unfold yhr ymh;rw[zp5 h k];split
 ·refine zf9 (fun p q h=>?_) h;by_cases e:p.1=k
  ·rw[if_pos e,if_pos (h.1.symm.trans e)];exact⟨h.1,hd⟩
  ·rw[if_neg e,if_neg (fun z=>e (h.1.trans z))];exact h
 ·exact zez ⟨rfl,hd⟩ h
theorem yju.mono{μ':List Addr}{H':Hp}(e:Ext μ H μ' H'){kvs:List (Key × D)}{vs:List (Key × V)}(h:yju T μ H kvs vs):yju T μ' H' kvs vs:=Paired.mapP h fun _ _ z=>⟨z.1,Rep.mono e _ _ z.2⟩
theorem _root_.L2.DGet.kr{H:Hp}{a:Addr}{kvs:List (Key × V)}{k:Key}(e:Rd H a (.dK kvs)):DGet H a (kV k) (yn0 kvs k):=.inl ⟨kvs,k,e,rfl,rfl⟩
def yg0(x y:D):M D:=fun σ=>match ylh y with
 |some k=>(match ykm σ x with
  |some kvs=>(match yfl kvs k with
   |some d=>.ok d σ
   |none=>.bad)
  |none=>.bad)
 |none=>.bad
theorem zrt{o i:Expr}{fo fi:Ev->M D}{pos:Pos}(hu:X.A.units+9<cLine)(ho:FE T X o fo)(hi:FE T X i fi)(hs:yjl i):FE T X (.Subscript o i pos) (yko yg0 fo fi):=by
 intro pins s st H Q I h;refine zuv (by omega) ho hi hs pins s st H Q I ?_;obtain⟨μ,ρ,σ,hE,hr,hp⟩:=h;refine⟨μ,ρ,σ,hE,hr,hp.bind fun x σ1 μ1 v H1 _ e1 r1 q1 p1=>⟨μ1,ρ,σ1,hE.mono e1,r1,p1.bind fun y σ2 μ2 u H2 _ e2 r2 q2 p2=>?_⟩⟩;unfold yg0 at p2;cases ek:ylh y with
 |none=>rw[ek]at p2;exact p2.elim
 |some k=>
  rw[ek]at p2;dsimp only at p2;cases ed:ykm σ2 x with
  |none=>rw[ed]at p2;exact p2.elim
  |some kvs=>
   rw[ed]at p2;dsimp only at p2;obtain⟨a,vs,rfl,h1,h2⟩:=ycv r2 (Rep.mono e2 _ _ q1) ed;obtain rfl:=ztc q2 ek;rcases zlm h2 k with⟨z1,_⟩|⟨d,w,z1,z2,z3⟩
   ·rw[z1]at p2;exact p2.elim
   ·rw[z1]at p2;exact⟨a,w,rfl,by rw[<-z2];exact DGet.kr h1,yjp.here p2 r2 z3⟩
def ymj:R2:=fun y x H Q=>∃ a o,x=.ref a/\DGet H a y o/\Q (.bl o.isSome) H
theorem ybn(hu:X.A.units+9<cLine):OpR X (compareOp .In) ymj:=by
 intro pins s st H y x iv u Q I ry rx h;obtain⟨a,o,rfl,g,q⟩:=h;obtain rfl:u=Value.ref a:=rx;exact ykl (by omega) I g ry fun s3 I3=>⟨.bl o.isSome,H,I3,rfl,q⟩
def ylu(y x:D):M D:=fun σ=>match ylh y with
 |some k=>(match ykm σ x with
  |some kvs=>.ok (.bl (yfl kvs k).isSome) σ
  |none=>.bad)
 |none=>.bad
theorem zwk:yec T ymj ylu:=by
 intro E μ H σ y x u v Q r q p h;unfold ylu at h;cases ek:ylh y with
 |none=>rw[ek]at h;exact h.elim
 |some k=>
  rw[ek]at h;dsimp only at h;cases ed:ykm σ x with
  |none=>rw[ed]at h;exact h.elim
  |some kvs=>
   rw[ed]at h;obtain⟨a,vs,rfl,h1,h2⟩:=ycv r p ed;obtain rfl:=ztc q ek;refine⟨a,yn0 vs k,rfl,DGet.kr h1,yjp.here h r ?_⟩;rw[Rep];rcases zlm h2 k with⟨z1,z2⟩|⟨d,w,z1,z2,z3⟩
   ·rw[z1,z2];rfl
   ·rw[z1,z2];rfl
def yh1:yjz:=fun x y v H Q=>∃ a H',x=.ref a/\yjd H a y v H'/\Q H'
theorem zot(hu:X.A.units+9<cLine):yjo X yh1:=by
 intro pins s st H o i v ov iv u Q I ro ri rv h;obtain⟨a,H',rfl,g,q⟩:=h;obtain rfl:ov=Value.ref a:=ro;exact zhp (by omega) I g ri rv fun s4 I4=>⟨H',I4,q⟩
def yii(ρ:Ev)(d x:D)(y:D):M Fl:=fun σ=>match x with
 | .ref n=>(match ylh y with
  |some k=>(match σ[n]? with
   |some (.dic kvs)=>if kvs.length<cap then .ok (.nx ρ) (σ.set n (.dic (yhr kvs k d)))else .bad
   |_=>.bad)
  |none=>.bad)
 |_=>.bad
def yih(ρ:Ev)(fi:Ev->M D)(d x:D):M Fl:=xs ρ (fi ρ) (yii ρ d x)
def yig(ρ:Ev)(fo fi:Ev->M D)(d:D):M Fl:=xs ρ (fo ρ) (yih ρ fi d)
def yia(f fo fi:Ev->M D):Ev->M Fl:=fun ρ=>xs ρ (f ρ) (yig ρ fo fi)
theorem zsi{e o i:Expr}{f fo fi:Ev->M D}{pos pos':Pos}(hu:X.A.units+9<cLine)(he:FE T X e f)(ho:FE T X o fo)(hi:FE T X i fi)
  (ha:∀ v,assign (.Subscript o i pos') X.env v=(do
   let ov <-holding [v] (eval o X.env);let iv <-holding [v,ov] (eval i X.env)
   standAt pos'
   holding [v,ov,iv] (setItem ov iv v)
   release [v,ov,iv] []):=by intro _;rfl)
  (hs:swapsWithSole [.Subscript o i pos'] e pos.line X.env=pure false:=by rfl) (hw:swappedStores [.Subscript o i pos'] e X.env=pure none:=by rfl)
  (h1:(assignEach [.Subscript o i pos'] X.env).map (·.2)=[assign (.Subscript o i pos') X.env]:=by rfl):FS T X (.Assign [.Subscript o i pos'] e pos) (yia f fo fi):=by
 intro pins s st H D I hq;refine ycg he (yca ho hi (zot hu) ha) hs hw h1 pins s st H D I ?_;obtain⟨μ,ρ,σ,hE,hr,hp⟩:=hq;refine⟨μ,ρ,σ,hE,hr,hp.xs hE fun d σ1 μ1 v H1 _ e1 r1 q1 p1=>?_⟩;refine⟨μ1,ρ,σ1,hE.mono e1,r1,p1.xs (hE.mono e1) fun x σ2 μ2 vo H2 _ e2 r2 q2 p2=>?_⟩;refine⟨μ2,ρ,σ2,(hE.mono e1).mono e2,r2,p2.xs ((hE.mono e1).mono e2) fun y σ3 μ3 vi H3 _ e3 r3 q3 p3=>?_⟩;have hd:=Rep.mono e3 _ _ (Rep.mono e2 _ _ q1);have hx:=Rep.mono e3 _ _ q2;unfold yii at p3;cases x with
 |ref n=>
  dsimp only at p3;cases ek:ylh y with
  |none=>rw[ek]at p3;exact p3.elim
  |some k=>
   rw[ek]at p3;dsimp only at p3;cases el:σ3[n]? with
   |none=>rw[el]at p3;exact p3.elim
   |some ob=>
    rw[el]at p3;cases ob with
    |dic kvs=>
     dsimp only at p3;by_cases hc:kvs.length<cap
     ·rw[if_pos hc]at p3;obtain⟨a,rfl,hn,vs,g1,g2⟩:=r3.at hx el;obtain rfl:=ztc q3 ek;have wr:=r3.write (o:=.dK (ymh vs k v)) (ob:=.dic (yhr kvs k d)) hn ⟨_,zpn,by
       have ex:Ext μ3 H3 μ3 (upd H3 a (.dK (ymh vs k v))):=zhw (List.mem_of_getElem? hn) g1 (fun _ z=>by cases z) (fun _ _ z=>by cases z);exact zkq (yju.mono ex g2) k (Rep.mono ex _ _ hd)⟩
      have hlen:vs.length=kvs.length:=by unfold yju at g2;exact(Paired.length g2).symm
      exact⟨a,_,rfl,yjd.k g1 (by rw[hlen];exact Nat.lt_of_lt_of_le hc (by decide)),p3 _ (.nx st) _ wr.1 wr.2 (((hE.mono e1).mono e2).mono e3 |>.mono wr.1)⟩
     ·rw[if_neg hc]at p3;exact p3.elim
    |_=>exact p3.elim
 |_=>exact p3.elim
def ye7:Ev->M D:=fun _ σ=>.ok (.ref σ.length) (σ++[.dic []])
theorem zru{pos:Pos}:FE T X (.Dict [] [] pos) ye7:=by
 intro pins s st H Q I h;obtain⟨μ,ρ,σ,hE,hr,hp⟩:=h;refine zns pins s st H Q I fun p hn=>?_;exact hp (μ++[p]) (.ref p) _ (zk8 hn) (hr.push hn ⟨[],zpn,.nil⟩) (zn9 hr)
theorem zrv{pos:Pos}:FE T X (.Dict [] [] pos) (eC (.dic [] [])):=by
 intro pins s st H Q I h;obtain⟨μ,ρ,σ,hE,hr,hp⟩:=h;refine zns pins s st H Q I fun p hn=>?_;exact hp μ (.ref p) _ (zro hn) (hr.fresh hn) (by rw[Rep];exact⟨p,[],rfl,fun hm=>(by obtain⟨u,hu,_⟩:=hr.mem hm;rw[hn]at hu;cases hu),(.inl zpn),rfl,yjv.nil⟩)
def ymk:List V->Hp->VK->Prop:=fun xs H Q=>∃ a kvs,xs=[.ref a]/\Rd H a (.dK kvs)/\∀ p,H p=none->Q (.ref p) (upd H p (.dK kvs))
theorem zkc:yd2 X (.type "dict") ymk:=by
 intro pins s st H xs us Q I r h;obtain⟨a,kvs,rfl,e,q⟩:=h;obtain⟨u,rfl,ru⟩:=yi2 r;cases ru;exact zkm I e fun p s' hn I'=>⟨.ref p,_,I',rfl,q p hn⟩
def ylv(ds:List D):M D:=fun σ=>match ds with
 |[x]=>(match ykm σ x with
  |some kvs=>.ok (.dic (kvs.map (·.1)) (kvs.map (·.2))) σ
  |none=>.bad)
 |_=>.bad
theorem zvh:∀ {kvs:List (Key × D)} {vs:List (Key × V)},yju T μ H kvs vs->vs.map (·.1)=kvs.map (·.1)/\yjv T μ H (kvs.map (·.2)) (vs.map (·.2))
 |_,_,.nil=>⟨rfl,yjv.nil⟩
 |_,_,.cons h t=>by
  obtain⟨z1,z2⟩:=zvh t;exact⟨by rw[List.map_cons,List.map_cons,z1,h.1],yjv.cons h.2 z2⟩
theorem zwj:zpy T ymk ylv:=by
 intro E μ H σ ds vs Q r p h
 match ds with
 |[]=>exact h.elim
 |[x]=>
  unfold ylv at h;dsimp only at h;cases ed:ykm σ x with
  |none=>rw[ed]at h;exact h.elim
  |some kvs=>
   rw[ed]at h;rw[yjv]at p;obtain⟨v,r',rfl,q1,q2⟩:=p;rw[yjv]at q2;subst q2;obtain⟨a,ws,rfl,h1,h2⟩:=ycv r q1 ed;refine⟨a,ws,rfl,h1,fun l hn=>?_⟩;obtain⟨z1,z2⟩:=zvh h2;exact h μ (.ref l) _ (zro hn) (r.fresh hn) (by rw[Rep];exact⟨l,ws,rfl,fun hm=>(by obtain⟨u,hu,_⟩:=r.mem hm;rw[hn]at hu;cases hu),(.inl zpn),z1,yjv.mono (zro hn) _ _ z2⟩)
 |_::_::_=>exact h.elim
end
section
variable{T:Tb}{X:Cx}
structure InK(K:PySem.W.Frag)(C:Addr):Prop where
 cl:L2.Cls K C
 a:PySem.W.findIn K (.ref C) "__class__" = some (some (.builtin "object.__class__"))
 n:PySem.W.specialIn K (.builtin "object.__class__") "__get__" = some (some (.builtin "getset_descriptor.__get__"))
 t:PySem.W.takesIn K (.builtin "object.__class__")=some true
 m:PySem.W.mroIn K C (.type "object")=some true
def ygf:List (Key × D)->List (Key × D)->Bool
 |[],[]=>true
 |(k,.int i)::r,(k',.int j)::r'=>decide (k=k') && (i == j) && ygf r r'
 |_,_=>false
theorem zfw:∀ {l:List (Key × D)},(∀ p∈l,∃ i,p.2=.int i)->ygf l l=true
 |[],_=>rfl
 |(k,d)::r,h=>by
  obtain⟨i,e⟩:=h (k,d) List.mem_cons_self;dsimp only at e;subst e;unfold ygf;rw[zfw fun p hp=>h p (List.mem_cons_of_mem _ hp)];simp
def ylx(x y:D):M D:=fun σ=>match ykm σ x with
 |some k1=>(match ykm σ y with
  |some k2=>if ygf k1 k2=true then .ok (.bl true) σ else .bad
  |none=>.bad)
 |none=>.bad
end
section
variable{T:Tb}{X:Cx}
def yg5(ds:List D):M D:=fun σ=>match ds with
 |[x]=>(match x with
  | .int i=>.ok (.int i) σ
  | .bl k=>.ok (.int (if k then 1 else 0)) σ
  |_=>.bad)
 |_=>.bad
theorem zoz:zpy T (fun xs H Q=>(∃ i,xs=[.int i]/\Q (.int i) H)\/∃ k,xs=[.bl k]/\Q (.int (if k then 1 else 0)) H) yg5:=by
 intro E μ H σ xs vs Q r p h
 match xs with
 |[]=>exact h.elim
 |[x]=>
  rw[yjv]at p;obtain⟨v,w,rfl,p1,p2⟩:=p;rw[yjv]at p2;subst p2;cases x with
  |int i=>rw[Rep]at p1;subst p1;exact .inl ⟨i,rfl,yjp.here h r (by rw[Rep])⟩
  |bl k=>rw[Rep]at p1;subst p1;exact .inr ⟨k,rfl,yjp.here h r (by rw[Rep])⟩
  |_=>exact h.elim
 |_::_::_=>exact h.elim
inductive CDs(X:Cx):List (Option Expr)->List Expr->List (Str × Str)->Prop
 |nil:CDs X [] [] []
 |cons {k v:Expr} {x y:Str} {ks:List (Option Expr)} {vs:List Expr} {l:List (Str × Str)}:PE X k (tC (.str x))->PE X v (tC (.str y))->CDs X ks vs l->CDs X (some k::ks) (v::vs) ((x,y)::l)
theorem CDs.all{ks vs l}(h:CDs X ks vs l):ks.all (·.isSome)=true/\ks.length=vs.length/\ks.length=l.length:=by
 induction h with
 |nil=>exact⟨rfl,rfl,rfl⟩
 |cons _ _ _ ih=>exact⟨by simpa using ih.1,by simpa using ih.2.1,by simpa using ih.2.2⟩
theorem put_new{kvs:List (Key × V)}{k:Key}{v:V}(h:k ∉ kvs.map (·.1)):ymh kvs k v=kvs++[(k,v)]:=by
 unfold ymh;rw[if_neg];intro z;rw[List.any_eq_true]at z;obtain⟨x,hx,e⟩:=z;exact h (List.mem_map.mpr ⟨x,hx,of_decide_eq_true e⟩)
end
def yj7(o:Int->Int->Int)(i:Nat)(ρ:Ev)(x d:D):M Fl:=fun σ=>match x,d with
 | .int a,.int b=>.ok (.nx (ρ.set i (some (.int (o a b))))) σ
 |_,_=>.bad
def ymy(o:Int->Int->Int)(i:Nat)(f:Ev->M D):Ev->M Fl:=fun ρ=>match ρ[i]? with
 |some (some x)=>xs ρ (f ρ) (yj7 o i ρ x)
 |_=>fun _=>.bad
theorem zvu{o:Int->Int->Int}{i:Nat}{f:Ev->M D}{ρ:Ev}{σ:Sto}{x:D}(h:ρ[i]?=some (some x)):ymy o i f ρ σ=xsO ρ (yj7 o i ρ x) (f ρ σ):=by
 unfold ymy;rw[h];exact yi6 ..
@[simp] theorem zqc(o:Int->Int->Int)(i:Nat)(ρ:Ev)(a b:Int)(σ:Sto):yj7 o i ρ (.int a) (.int b) σ=.ok (.nx (ρ.set i (some (.int (o a b))))) σ:=nr rfl
section
variable{T:Tb}{X:Cx}{e:Expr}{f:Ev->M D}{pos:Pos}
theorem zzs{i:Nat}{x:Str}{pos':Pos}{op:Operator}{o:Int->Int->Int}(ho:PIp X op (ipI o))(hN:X.N.Nodup)(hi:X.N[i]?=some x)(hx:Loc X.env.scope x)(he:FE T X e f)(hf:X.fn x=true\/X.env.scope.names.lookup x=some .local:=by first|exact .inl rfl|exact .inr rfl|assumption) :
  FS T X (.AugAssign (.Name x pos') op e pos) (ymy o i f):=by
 intro pins s st H D I hw;refine ych hN hi hx he ho hf pins s st H D I ?_;obtain⟨μ,ρ,σ,hE,hr,hp⟩:=hw;unfold ymy at hp;cases e0:ρ[i]? with
 |none=>rw[e0]at hp;exact hp.elim
 |some q=>
  cases q with
  |none=>rw[e0]at hp;exact hp.elim
  |some d=>
   rw[e0]at hp;obtain⟨v,h1,h2⟩:=hE.2 i d e0;refine⟨v,h1,μ,ρ,σ,hE,hr,hp.xs hE fun y σ1 μ1 vy H1 _ e1 r1 q1 p1=>?_⟩;cases d with
   |int a=>
    cases y with
    |int b=>
     rw[Rep]at h2 q1;subst h2 q1;exact⟨a,b,rfl,rfl,yjp.here (g:=Gl2.nx (st.set i (some (.int (o a b))))) p1 r1 ((hE.mono e1).set i (by rw[Rep]))⟩
    |_=>exact p1.elim
   |_=>exact p1.elim
end
end L4
namespace L4
open PySem PySem.Spec PySem.Calls PyProof.Rows L2
section
variable{T:Tb}{X:Cx}
end
end L4
namespace L4
open PySem PySem.Spec PyProof.Rows L2
def ya3(o:D->List D->M D)(m:M (List D))(x:D):M D:=fun σ=>match ykm σ x with
 |some _=>bnd m (o x) σ
 |none=>.bad
def zym(o:D->List D->M D)(f:Ev->M D)(fs:Ev->M (List D)):Ev->M D:=fun ρ=>bnd (f ρ) (ya3 o (fs ρ))
def zvg:V->List V->Hp->VK->Prop:=fun x vs H Q=>∃ a kvs k d,x=.ref a/\vs=[kV k,d]/\H a=some (.dK kvs)/\kvs.length<sizeLine/\
 (∀ v,yn0 kvs k=some v->Q v H)/\(yn0 kvs k=none->Q d (upd H a (.dK (ymh kvs k d))))
def zuh(x:D)(xs:List D):M D:=fun σ=>match x,xs with
 | .ref n,[y,d]=>(match ylh y with
  |some k=>(match σ[n]? with
   |some (.dic kvs)=>if kvs.length<cap then (match yfl kvs k with
    |some e=>.ok e σ
    |none=>.ok d (σ.set n (.dic (yhr kvs k d))))else .bad
   |_=>.bad)
  |none=>.bad)
 |_,_=>.bad
section
variable{T:Tb}{X:Cx}{o e:Expr}{es:List Expr}{f:Ev->M D}{fs:Ev->M (List D)}{name:Str}{apos cpos:Pos}{id:String}{r:V->List V->Hp->VK->Prop}{g:D->List D->M D}
theorem zis:MtR X "dict.setdefault" zvg:=by
 intro pins s st H x vs v us Q I rx rv h;obtain⟨a,kvs,k,d,rfl,rfl,hH,hl,h1,h2⟩:=h;cases rx;obtain⟨u,r,rfl,ru,rr⟩:=rv.two;obtain⟨z,hd,ws,rel,dd⟩:=ye0 I.hok hH;have hz:ws.length<=sizeLine:=by rw[<-rel.length];exact z
 have hlp:(ymh kvs k d).length<=sizeLine:=by have:=zen kvs k d;omega
 refine call_meetsIn PySem.F.slot_dict_setdefault dd.typeIs PySem.F.entry_dict_setdefault (PySem.F.args_dict_setdefault_3 _ _ _) (kt_meets_setdefault (ztq X.prog X.w) a (ygb ru) hd r) ⟨ws,dd,hz,fun w hw=>?_,fun hn h' dd' hs=>?_⟩
 ·have q:=rel.val k;rw[hw]at q;cases e:yn0 kvs k with
  |none=>rw[e]at q;exact absurd q (by simp[yjr])
  |some x=>rw[e]at q;exact⟨x,H,I.tok _,q,h1 x e⟩
 ·have q:=rel.val k;rw[hn]at q;cases e:yn0 kvs k with
  |some x=>rw[e]at q;exact absurd q (by simp[yjr])
  |none=>
   have he:∃ q,h'.get? a=some q:=let ⟨q,_,_,hq,_⟩:=dd';⟨q,hq⟩;exact⟨d,_,zq2 I (by rw[hH];exact True.intro) hs he (zyf hlp hd (rel.put k rr) dd'),rr,h2 e⟩
theorem zyh{p:Addr}{kvs:List (Key × V)}{pins:List (Addr × Obj)}{σ:St}{H:Hp}{s:Shared}(I:Inv X pins σ H s)(hk:Rd H p (.dK kvs)):s.TypeIs (.ref p) "dict"/\∀ a,Value.ref p=.ref a->∃ ob,s.heap.get? a=some ob/\ob.dict=none:=by
 obtain⟨_,_,_,_,o,_,_,e,ex,_⟩:=ye1 I.hok hk;refine⟨⟨o,e,ex.1⟩,fun a e2=>?_⟩;cases e2;exact⟨o,e,ex.2.1⟩
def ynl(r:V->List V->Hp->VK->Prop)(to:TE):TE:=fun σ H Q=>to σ H fun x H1=>(∃ a kvs,x=.ref a/\Rd H1 a (.dK kvs))/\r x [] H1 Q
def tBD(r:V->List V->Hp->VK->Prop)(to:TE)(t:TA):TE:=fun σ H Q=>to σ H fun x H1=>(∃ a kvs,x=.ref a/\Rd H1 a (.dK kvs))/\t σ H1 fun xs H2=>r x xs H2 Q
theorem zut{to:TE}(pa:PlainAttrs "dict")(slot:Slot "dict" name id)(hty:typeOf (.builtin id)=pure (.type "method_descriptor"))(hm:MtR X id r)(ho:PE X o to)
  (hbase:attributeBase o name X.env (eval o X.env)=eval o X.env:=by rfl) (hline:(apos.endLine == cpos.line)=true:=by rfl):PE X (.Call (.Attribute o name apos) [] [] cpos) (ynl r to):=by
 intro pins s σ H Q I h;refine wpAny_Call_method0_late hbase hline (thn (ho pins s σ H _ I h) fun v s1 ⟨x,H1,I1,r1,ty,q1⟩=>?_);obtain⟨a,kvs,rfl,hk⟩:=ty;cases r1;obtain⟨h1,h2⟩:=zyh I1 hk;exact⟨"dict",id,pa,slot,hty,h1,h2,Calls.callWith_builtin rfl (PySem.evalArgs_none (hm pins s1 σ H1 (.ref a) [] (.ref a) [] Q I1 rfl .nil q1))⟩
theorem yb0{to:TE}{t:TA}(pa:PlainAttrs "dict")(slot:Slot "dict" name id)(hty:typeOf (.builtin id)=pure (.type "method_descriptor"))(hm:MtR X id r)(ho:PE X o to)(ha:PA X (e::es) t)
  (hbase:attributeBase o name X.env (eval o X.env)=eval o X.env:=by rfl)
  (hfew:((backTo cpos (starEach (e::es) X.env)).all (fun x=>!x.1) && (backToKw cpos (keywordEach [] X.env)).all (fun x=>x.1.isSome)
   && decide ((e::es).length+([]:List Keyword).length+(if ([]:List Keyword).isEmpty then 0 else 1)<30))=true:=by rfl)
  (hline:(apos.endLine == cpos.line)=true:=by rfl) (hs:starEach (e::es) X.env=(false,eval e X.env)::starEach es X.env:=by rfl) (hplain:(backTo cpos (starEach es X.env)).any (·.1)=false:=by rfl) :
  PE X (.Call (.Attribute o name apos) (e::es) [] cpos) (tBD r to t):=by
 intro pins s σ H Q I h;refine wpAny_Call_method_late hbase hfew hline rfl (thn (ho pins s σ H _ I h) fun v s1 ⟨x,H1,I1,r1,ty,q1⟩=>?_);obtain⟨a,kvs,rfl,hk⟩:=ty;cases r1;obtain⟨h1,h2⟩:=zyh I1 hk;refine⟨"dict",id,pa,slot,hty,h1,h2,?_⟩;have hA:=ha cpos pins s1 σ H1 _ I1 q1;rw[hs]at hA ⊢;refine Calls.callWith_builtin (by show (false || (backTo cpos (starEach es X.env)).any (·.1))=false;rw[hplain]<;>rfl) (Calls.evalArgs_plain ?_);exact thn hA fun us s2 ⟨vs,H2,I2,r2,q2⟩=>hm pins s2 σ H2 (.ref a) vs (.ref a) us Q I2 rfl r2 q2
theorem zle(pa:PlainAttrs "dict")(slot:Slot "dict" name id)(hty:typeOf (.builtin id)=pure (.type "method_descriptor"))(hm:MtR X id r)(hs:yeb T r g)(ho:FE T X o f)(ha:FA T X (e::es) fs)
  (hbase:attributeBase o name X.env (eval o X.env)=eval o X.env:=by rfl)
  (hfew:((backTo cpos (starEach (e::es) X.env)).all (fun x=>!x.1) && (backToKw cpos (keywordEach [] X.env)).all (fun x=>x.1.isSome)
   && decide ((e::es).length+([]:List Keyword).length+(if ([]:List Keyword).isEmpty then 0 else 1)<30))=true:=by rfl)
  (hline:(apos.endLine == cpos.line)=true:=by rfl) (hst:starEach (e::es) X.env=(false,eval e X.env)::starEach es X.env:=by rfl) (hplain:(backTo cpos (starEach es X.env)).any (·.1)=false:=by rfl) :
  FE T X (.Call (.Attribute o name apos) (e::es) [] cpos) (zym g f fs):=by
 intro pins s st H Q I h;refine yb0 pa slot hty hm ho ha hbase hfew hline hst hplain pins s st H Q I ?_;obtain⟨μ,ρ,σ,he,hr,hp⟩:=h;refine⟨μ,ρ,σ,he,hr,hp.bind fun x σ1 μ1 v H1 _ e1 r1 p1 q1=>?_⟩;unfold ya3 at q1;cases el:ykm σ1 x with
 |none=>rw[el]at q1;exact q1.elim
 |some xs=>
  rw[el]at q1;obtain⟨a,vs,rfl,h1,h2⟩:=ycv r1 p1 el;refine⟨⟨a,vs,rfl,h1⟩,μ1,ρ,σ1,he.mono e1,r1,q1.bind fun ds σ2 μ2 ws H2 _ e2 r2 p2 q2=>?_⟩;exact hs _ μ2 H2 σ2 x ds (.ref a) ws Q r2 (Rep.mono e2 _ _ p1) p2 q2
theorem zgq:yeb T zvg zuh:=by
 intro E μ H σ x xs v vs Q r p q h;cases x with
 |ref n=>
  match xs with
  |[]=>exact h.elim
  |[_]=>exact h.elim
  |[y,d]=>
   rw[yjv]at q;obtain⟨w,z,rfl,q1,q2⟩:=q;rw[yjv]at q2;obtain⟨w2,z2,rfl,q3,q4⟩:=q2;rw[yjv]at q4;subst q4;unfold zuh at h;cases ek:ylh y with
   |none=>simp only[ek]at h;exact h.elim
   |some k=>
    simp only[ek]at h;cases el:σ[n]? with
    |none=>simp only[el]at h;exact h.elim
    |some ob=>
     cases ob with
     |dic kvs=>
      simp only[el]at h;by_cases hc:kvs.length<cap
      ·rw[if_pos hc]at h;obtain⟨a,rfl,hn,us,g1,g2⟩:=r.at p el;obtain rfl:=ztc q1 ek;have hlen:us.length=kvs.length:=by unfold yju at g2;exact(Paired.length g2).symm
       refine⟨a,us,k,w2,rfl,rfl,g1,by rw[hlen];exact zxx hc,fun v e=>?_,fun e=>?_⟩
       ·rcases zlm g2 k with⟨z1,z2⟩|⟨d',v',z1,z2,z3⟩
        ·rw[z2]at e;cases e
        ·rw[z2]at e;cases e;rw[z1]at h;exact yjp.here h r z3
       ·rcases zlm g2 k with⟨z1,z2⟩|⟨d',v',z1,z2,z3⟩
        ·rw[z1]at h;have wr:=r.write (o:=.dK (ymh us k w2)) (ob:=.dic (yhr kvs k d)) hn ⟨_,zpn,by
          have ex:Ext μ H μ (upd H a (.dK (ymh us k w2))):=zhw (List.mem_of_getElem? hn) g1 (fun _ z=>by cases z) (fun _ _ z=>by cases z);exact zkq (yju.mono ex g2) k (Rep.mono ex _ _ q3)⟩
         exact h _ _ _ wr.1 wr.2 (Rep.mono wr.1 _ _ q3)
        ·rw[z2]at e;cases e
      ·rw[if_neg hc]at h;exact h.elim
     |lst ys=>simp only[el]at h;exact h.elim
     |ins c fs=>simp only[el]at h;exact h.elim
  |_::_::_::_=>exact h.elim
 |_=>exact h.elim
end
def ykx(σ:Sto)(x:D):List D->Option (List Bool)
 |[]=>some []
 |y::ys=>match eqD σ 7 y x,ykx σ x ys with
  |some b,some bs=>some (b::bs)
  |_,_=>none
def ylz(neg:Bool)(x y:D):M D:=fun σ=>match yif σ y with
 |some xs=>(match ykx σ x xs with
  |some bs=>.ok (.bl (if neg then !(bs.any id)else bs.any id)) σ
  |none=>.bad)
 |none=>.bad
theorem zk6{σ:Sto}{x:D}:∀ {xs:List D} {bs:List Bool},ykx σ x xs=some bs->bs.length=xs.length/\∀ (j:Nat) (d:D) (b:Bool),xs[j]?=some d->bs[j]?=some b->eqD σ 7 d x=some b
 |[],bs,h=>by cases h;exact⟨rfl,fun j d b h=>by simp at h⟩
 |y::ys,bs,h=>by
  unfold ykx at h;cases e1:eqD σ 7 y x with
  |none=>rw[e1]at h;cases h
  |some b1=>
   cases e2:ykx σ x ys with
   |none=>rw[e1,e2]at h;cases h
   |some bs1=>
    rw[e1,e2]at h;cases h;obtain⟨h1,h2⟩:=zk6 e2;refine⟨by simp[h1],fun j d b hd hb=>?_⟩;cases j with
    |zero=>simp at hd hb;subst hd;subst hb;exact e1
    |succ j=>exact h2 j d b (by simpa using hd) (by simpa using hb)
open Classical in
noncomputable def eOf(its:List Value)(bs:List Bool)(u:Value):Bool:=decide (∃ j:Nat,its[j]?=some u/\bs[j]?=some true)
theorem zrh{its:List Value}{bs:List Bool}{u:Value}:eOf its bs u=true ↔ ∃ j:Nat,its[j]?=some u/\bs[j]?=some true:=by unfold eOf;exact @decide_eq_true_iff _ (Classical.propDecidable _)
theorem zrg{its:List Value}{bs:List Bool}(hl:bs.length=its.length):its.toArray.any (eOf its bs)=bs.any id:=by
 rw[show its.toArray.any (eOf its bs)=its.any (eOf its bs) by simp,Bool.eq_iff_iff,List.any_eq_true,List.any_eq_true];constructor
 ·rintro ⟨u,_,hu⟩;obtain⟨j,_,h⟩:=zrh.mp hu;exact⟨true,List.mem_of_getElem? h,rfl⟩
 ·rintro ⟨b,hb,ht⟩;cases (show b=true from ht);obtain⟨j,hj,h⟩:=List.getElem_of_mem hb;have hi:j<its.length:=by omega
  exact⟨its[j],List.getElem_mem hi,zrh.mpr ⟨j,by simp[hi],by simp[hj,h]⟩⟩
theorem zyn{A:Around}{s:Shared}{x:Value}{its:List Value}{bs:List Bool}(hl:bs.length=its.length)(h:∀ (j:Nat) (u:Value) (b:Bool),its[j]?=some u->bs[j]?=some b->SeqAt.EqAt A s u x b)(w:Value)(hw:w∈its):SeqAt.EqAt A s w x (eOf its bs w):=by
 cases e:eOf its bs w with
 |true=>obtain⟨j,h1,h2⟩:=zrh.mp e;exact h j w true h1 h2
 |false=>
  obtain⟨j,hj,rfl⟩:=List.getElem_of_mem hw;have hb:j<bs.length:=by omega
  have hf:bs[j]=false:=by
   cases q:bs[j]with
   |false=>rfl
   |true=>exact absurd (zrh.mpr ⟨j,List.getElem?_eq_getElem hj,by rw[List.getElem?_eq_getElem hb,q]⟩) (by rw[e];decide)
  exact h j _ false (List.getElem?_eq_getElem hj) (by rw[List.getElem?_eq_getElem hb,hf])
section
variable{T:Tb}{X:Cx}
theorem zsx(hK:T.K=X.K)(hu:X.A.units+9<cLine){pins:List (Addr × Obj)}{s:Shared}{st:St}{H:Hp}{μ:List Addr}{σ:Sto}(I:Inv X pins st H s)(r:Rel T μ H σ){x y:D}{v u:V}{v' u':Value}(hx:Rep T μ H x v)(hy:Rep T μ H y u)(rv:yjs v v')(ru:yjs u u')
  {xs:List D} {bs:List Bool} (e:yif σ y=some xs) (eb:ykx σ x xs=some bs) {Q:Value->Shared->Prop} :
  (Q (.bool (bs.any id)) s->wpAny (model X.prog X.w) X.A (compareOp .In v' u') Q X.xe s)/\(Q (.bool (!bs.any id)) s->wpAny (model X.prog X.w) X.A (compareOp .NotIn v' u') Q X.xe s):=by
 obtain⟨p,vs,rfl,h1,h2⟩:=zv8 r hy e;rw[hK]at h2;obtain⟨lb,hb⟩:=zk6 eb;cases ru;have key:∀ {its:List Value},yj1 vs its->(bs.length=its.length/\∀ w∈its,SeqAt.EqAt X.A.in1 s w v' (eOf its bs w)):=fun {its} q=>by
  have l1:=h1.length;have l2:=q.length;have hl:bs.length=its.length:=by omega
  refine⟨hl,zyn hl fun j w b hw hbj=>?_⟩;obtain⟨z,e1,rz⟩:=zpr q hw;obtain⟨d,e2,rd⟩:=zob h1 e1;exact zyt I r 7 X.A.in1 d x z v w v' b (by show X.A.units+1+7+1<cLine;omega) rd hx rz rv (hb j d b e2 hbj)
 rcases h2 with h2|h2
 ·obtain⟨its,q,pl,_⟩:=L2.Inv.list I h2;obtain⟨hl,k⟩:=key q;refine⟨fun hq=>SeqAt.in_listAt (eOf its bs) pl.isList (fun w hw=>k w (by simpa using hw)) ?_,fun hq=>SeqAt.notIn_listAt (eOf its bs) pl.isList (fun w hw=>k w (by simpa using hw)) ?_⟩<;>rw[zrg hl]<;>exact hq
 ·obtain⟨its,q,pl,_⟩:=L2.Inv.tuple I h2;obtain⟨hl,k⟩:=key q;refine⟨fun hq=>SeqAt.in_tupleAt (eOf its bs) pl (fun w hw=>k w (by simpa using hw)) ?_,fun hq=>SeqAt.notIn_tupleAt (eOf its bs) pl (fun w hw=>k w (by simpa using hw)) ?_⟩<;>rw[zrg hl]<;>exact hq
theorem ybp(hK:T.K=X.K)(hu:X.A.units+9<cLine):OpR X (compareOp .In) (rD T (ylz false)):=by
 intro pins s st H v u v' u' Q I rv ru h;obtain⟨E,μ,σ,x,y,r,hx,hy,hp⟩:=h;unfold ylz at hp;cases e:yif σ y with
 |none=>rw[e]at hp;exact hp.elim
 |some xs=>
  rw[e]at hp;dsimp only at hp;cases eb:ykx σ x xs with
  |none=>rw[eb]at hp;exact hp.elim
  |some bs=>
   rw[eb]at hp;exact(zsx hK hu I r hx hy rv ru e eb).1 ⟨.bl (bs.any id),H,I,rfl,yjp.here hp r (by rw[Rep];rfl)⟩
end
section
variable{T:Tb}{X:Cx}
end
section
variable{T:Tb}{X:Cx}{tg iter:Expr}{f:Ev->M D}
end
section
variable{T:Tb}{X:Cx}{o e:Expr}{es:List Expr}{f:Ev->M D}{fs:Ev->M (List D)}{name:Str}{apos cpos:Pos}{id:String}{r:V->List V->Hp->VK->Prop}{g:D->List D->M D}
end
section
variable{X:Cx}{pins:List (Addr × Obj)}{σ:St}{H:Hp}{s:Shared}{h':Heap}
theorem ztx{H:Hp}{a b:Addr}{u:HO}(e:H b=some u)(n:H a=none):b≠a:=fun z=>by rw[z,n]at e;cases e
theorem _root_.L2.Inv.turnL{t':Nat}{its:List Addr}{p:Addr}{o:HO}(I:Inv X pins σ H s)(k:∀ b u,b ∉ its->s.heap.get? b=some u->h'.get? b=some u)(hf:∀ b∈its,yjh X pins H b)(hp:s.heap.objs.size<=p)(new:yd7 X.prog X.w (upd H p o) h' p o) :
  Inv X pins σ (upd H p o) { s with heap:=h',toks:=t' }:=by
 have hn:H p=none:=I.hok.fresh hp;have nit:∀ b u,H b=some u->b ∉ its:=fun b u e z=>by rw[(hf b z).1]at e;cases e
 refine I.step (g':=s.gens) (d':=s.drawn) (ch:=its) (fun b hb=>?_) (fun b o _ _ hc e _=>k b o hc e) (fun b o _ _ hc e _=>⟨o.slots,k b o hc e⟩) (fun b u _ q n=>by rw[ydx (Nat.ne_of_lt (Nat.lt_of_lt_of_le (Heap.lt_size q) hp))];exact n)
  (fun b o hc e=>⟨o,k b o hc e⟩) (fun b xs q=>by rw[ydx (ztx q hn)];exact q) (fun b u xs q=>by rw[ydx (ztx q hn)];exact q) (fun b ps q=>⟨#[],by rw[ydx (ztx q hn),q];simp⟩) (fun m hm=>?_) (fun b u e=>?_) I.bare
 ·obtain⟨f0,f1,f2,f3,f4,f5⟩:=hf b hb;exact⟨f3,f1,f4,f5⟩
 ·obtain⟨o,es,ep,ho,r⟩:=hm;exact⟨o,es,ep,k _ o (fun z=>(hf _ z).2.1 rfl) ho,r⟩
 ·by_cases hb:b=p
  ·subst hb;rw[zpn]at e;cases e;exact new
  ·rw[ydx hb]at e;refine(I.hok b u e).stay (fun c v hc q=>k c v ?_ q) (fun c q=>by rw[ydx (ztx q hn)];exact q) fun c xs q=>by rw[ydx (ztx q hn)];exact q
   rcases hc with z|z
   ·rw[z];exact nit b u e
   ·exact nit c _ z
theorem _root_.L2.Inv.turnN{t':Nat}{its:List Addr}(I:Inv X pins σ H s)(k:∀ b u,b ∉ its->s.heap.get? b=some u->h'.get? b=some u)(hf:∀ b∈its,yjh X pins H b):Inv X pins σ H { s with heap:=h',toks:=t' }:=by
 have nit:∀ b u,H b=some u->b ∉ its:=fun b u e z=>by rw[(hf b z).1]at e;cases e
 refine I.step (g':=s.gens) (d':=s.drawn) (ch:=its) (fun b hb=>?_) (fun b o _ _ hc e _=>k b o hc e) (fun b o _ _ hc e _=>⟨o.slots,k b o hc e⟩) (fun b u _ q n=>n)
  (fun b o hc e=>⟨o,k b o hc e⟩) (fun b xs q=>q) (fun b u xs q=>q) (fun b ps q=>⟨#[],by rw[q];simp⟩) (fun m hm=>?_) (fun b u e=>?_) I.bare
 ·obtain⟨f0,f1,f2,f3,f4,f5⟩:=hf b hb;exact⟨f3,f1,f4,f5⟩
 ·obtain⟨o,es,ep,ho,r⟩:=hm;exact⟨o,es,ep,k _ o (fun z=>(hf _ z).2.1 rfl) ho,r⟩
 ·refine(I.hok b u e).stay (fun c v hc q=>k c v ?_ q) (fun _ q=>q) fun _ _ q=>q;rcases hc with z|z
  ·rw[z];exact nit b u e
  ·exact nit c _ z
end
theorem zya{h:Heap}{a b:Addr}{o o':Obj}{n n':String}(e:h.get? a=some o)(e':h.get? b=some o')(c:o.cls=.type n)(c':o'.cls=.type n')(hn:n≠n'):a≠b:=fun z=>by
 subst z;rw[e]at e';cases e';rw[c]at c';injection c' with q;exact hn q
def Ite(K:PySem.W.Frag)(l:Addr):It:=
 ⟨fun i H=>∃ xs x,SqL K H l xs/\xs[i]?=some x,fun i H v H'=>∃ p x,H p=none/\v=.ref p/\(∀ xs,SqL K H l xs->xs[i]?=some x)/\H'=upd H p (.tup [.int i,x]),fun i H=>∃ xs,SqL K H l xs/\i=xs.length⟩
def Itz(K:PySem.W.Frag)(l m:Addr):It:=
 ⟨fun i H=>∃ xs ys x y,SqL K H l xs/\SqL K H m ys/\xs[i]?=some x/\ys[i]?=some y,fun i H v H'=>∃ p x y,H p=none/\v=.ref p/\(∀ xs,SqL K H l xs->xs[i]?=some x)/\(∀ ys,SqL K H m ys->ys[i]?=some y)/\H'=upd H p (.tup [x,y]),
  fun i H=>∃ xs ys,SqL K H l xs/\SqL K H m ys/\i=min xs.length ys.length⟩
theorem zjv{P:Program}{w:World}{K:PySem.W.Frag}{elts:List Expr}{kk:Nat}{pos:Pos}(l e it:Addr):Turn P w K (.Tuple elts kk pos) (Ite K l) [e,it] e (fun i h=>(∃ old,IsEnum h e it i old)/\h.IsListIter it l i) where
 mem:=by simp
 obj:=fun i h st b hb=>by
  obtain⟨⟨old,s1⟩,o,s2,c,d⟩:=st;simp only[List.mem_cons,List.not_mem_nil,or_false]at hb;rcases hb with rfl|rfl
  ·exact⟨_,s1,fun v z=>by cases z⟩
  ·exact⟨o,s2,fun v z=>by rw[d]at z;cases z⟩
 keep:=fun i h h' st k=>by
  obtain⟨⟨old,s1⟩,s2⟩:=st;exact⟨⟨old,k e (by simp) _ s1⟩,s2.at fun o q=>k it (by simp) o q⟩
 item:=by
  intro X hP hw hK hc i pins s σ H E I hf st hg;subst hP hw hK;obtain⟨xs,x,hq,hx⟩:=hg;obtain⟨its,rv,p,hz⟩:=I.list hq;obtain⟨u,hu,ru⟩:=rv.get hx;obtain⟨⟨old,s1⟩,s2⟩:=st;obtain⟨oa,ea,ca,_⟩:=id p.isList;obtain⟨ob,eb,cb,_⟩:=id s2;have nle:l≠e:=zya ea s1 ca rfl (by decide);have nli:l≠it:=zya ea eb ca cb (by decide);have nei:e≠it:=zya s1 eb rfl cb (by decide);have W:=WalksT.enumerate (prog:=X.prog) (w:=X.w) (A:=X.A) (I.ok.hd hc) e it l nei nle nli its.toArray;have hi:i<its.toArray.size:=by
   have:=(List.getElem?_eq_some_iff.mp hu).1;simpa using this
  refine W.item i s _ E hi ⟨⟨old,s1⟩,s2,p.isList⟩ fun T vals h' tk hPt hT hTup hMid hk=>?_;obtain⟨t,y,hy,rfl⟩:=hPt;have ey:y=u:=by
   have:its.toArray[i]?=some u:=by simpa using hu
   rw[this]at hy;cases hy;rfl
  subst ey;refine⟨.ref T,rfl,W.go elts kk pos i T { s with heap:=h',toks:=tk } _ E hMid fun h2 hS hk2=>?_⟩;have hap:=W.apart i T h' hMid;have hTup2:h2.IsTuple T #[.int i t,y]:=by
   obtain⟨o,e1,c1⟩:=hTup;exact⟨o,hk2 T o hap e1,c1⟩
  have hn:H T=none:=I.hok.fresh hT;refine⟨.ref T,upd H T (.tup [.int i,x]),I.turnL (o:=.tup [.int i,x]) (fun b o hb q=>hk2 b o hb (hk b o hb q)) hf hT ?_,rfl,⟨T,x,hn,rfl,fun ys hy=>by rw[I.list_inj hy hq];exact hx,rfl⟩,⟨hS.1,hS.2.1⟩,fun b hb=>?_⟩
  ·exact⟨(show (2:Nat)<=sizeLine by decide),[.int i t,y],.cons ⟨t,rfl⟩ (.cons ru .nil),hTup2⟩
  ·rw[ydx (fun z=>hap (by rw[<-z];exact hb))];exact(hf b hb).1
 done:=by
  intro X hP hw hK hc i pins s σ H E I hf st hg;subst hP hw hK;obtain⟨xs,hq,hx⟩:=hg;obtain⟨its,rv,p,hz⟩:=I.list hq;obtain⟨⟨old,s1⟩,s2⟩:=st;have hl:=rv.length;exact wpAny_pyNext_enum_end (I.ok.hd hc) s1 s2 p.isList (by simp;omega) fun h' eb=>⟨rfl,I.turnN (t':=s.toks) (fun b o hb q=>eb b o (fun z=>hb (by simp[z])) q) hf⟩
 self:=fun A i s Q E st h=>by
  obtain⟨⟨old,s1⟩,s2⟩:=st;exact wpAny_pyIter_enum s1 h
theorem zj3{h:Heap}{l m z TI TO i1 i2:Addr}{k1 k2:Nat}{xs ys:Array Value}{a b c d:Value}{f:Value}(d1:TI≠TO)(d2:i1≠i2)(p1:h.IsList l xs)(p2:h.IsList m ys)(s1:IsZip h z TI TO f)(s2:IsPair h TI a b)(s3:IsPair h TO c d)(s4:h.IsListIter i1 l k1)(s5:h.IsListIter i2 m k2):ZipApart z TI TO i1 i2 l m:=by
 obtain⟨o1,e1,c1,_⟩:=p1;obtain⟨o2,e2,c2,_⟩:=p2;obtain⟨o4,e4,c4,_⟩:=s4;obtain⟨o5,e5,c5,_⟩:=s5;exact⟨zya s2 s1 rfl rfl (by decide),zya s3 s1 rfl rfl (by decide),zya e4 s1 c4 rfl (by decide),zya e5 s1 c5 rfl (by decide),d1,zya s2 e4 rfl c4 (by decide),zya s2 e5 rfl c5 (by decide),zya s3 e4 rfl c4 (by decide),zya s3 e5 rfl c5 (by decide),d2,
  zya e1 s1 c1 rfl (by decide),zya e1 s3 c1 rfl (by decide),zya e1 e4 c1 c4 (by decide),zya e1 e5 c1 c5 (by decide),zya e2 s1 c2 rfl (by decide),zya e2 s3 c2 rfl (by decide),zya e2 e4 c2 c4 (by decide),zya e2 e5 c2 c5 (by decide)⟩
theorem zpl{P:Program}{w:World}{K:PySem.W.Frag}{elts:List Expr}{kk:Nat}{pos:Pos}(l m z TI TO i1 i2:Addr)(d1:TI≠TO)(d2:i1≠i2) :
  Turn P w K (.Tuple elts kk pos) (Itz K l m) [z,TI,TO,i1,i2] z (fun i h=>IsZip h z TI TO .none/\IsPair h TI (.ref i1) (.ref i2)/\(∃ a b,IsPair h TO a b)/\h.IsListIter i1 l i/\h.IsListIter i2 m i) where
 mem:=by simp
 obj:=fun i h st b hb=>by
  obtain⟨s1,s2,⟨a,c,s3⟩,⟨o4,s4,c4,d4⟩,⟨o5,s5,c5,d5⟩⟩:=st;simp only[List.mem_cons,List.not_mem_nil,or_false]at hb;rcases hb with rfl|rfl|rfl|rfl|rfl
  ·exact⟨_,s1,fun v z=>by cases z⟩
  ·exact⟨_,s2,fun v z=>by cases z⟩
  ·exact⟨_,s3,fun v z=>by cases z⟩
  ·exact⟨o4,s4,fun v z=>by rw[d4]at z;cases z⟩
  ·exact⟨o5,s5,fun v z=>by rw[d5]at z;cases z⟩
 keep:=fun i h h' st k=>by
  obtain⟨s1,s2,⟨a,c,s3⟩,s4,s5⟩:=st;exact⟨k z (by simp) _ s1,k TI (by simp) _ s2,⟨a,c,k TO (by simp) _ s3⟩,s4.at fun o q=>k i1 (by simp) o q,s5.at fun o q=>k i2 (by simp) o q⟩
 item:=by
  intro X hP hw hK hc i pins s σ H E I hf st hg;subst hP hw hK;obtain⟨xs,ys,x,y,hq,hq2,hx,hy⟩:=hg;obtain⟨its,rv,p,hz⟩:=I.list hq;obtain⟨its2,rv2,p2,hz2⟩:=I.list hq2;obtain⟨u,hu,ru⟩:=rv.get hx;obtain⟨u2,hu2,ru2⟩:=rv2.get hy;obtain⟨s1,s2,⟨a,c,s3⟩,s4,s5⟩:=st;have D:=zj3 d1 d2 p.isList p2.isList s1 s2 s3 s4 s5;have W:=WalksT.zip2 (prog:=X.prog) (w:=X.w) (A:=X.A) (I.ok.hd hc) z TI TO i1 i2 l m D its.toArray its2.toArray;have hi:i<min its.toArray.size its2.toArray.size:=by
   have h1:=(List.getElem?_eq_some_iff.mp hu).1;have h2:=(List.getElem?_eq_some_iff.mp hu2).1;simp;omega
  refine W.item i s _ E hi ⟨s1,s2,⟨a,c,s3⟩,s4,s5,p.isList,p2.isList⟩ fun T vals h' tk hPt hT hTup hMid hk=>?_;obtain⟨v1,v2,hv1,hv2,rfl⟩:=hPt;have e1:v1=u:=by
   have:its.toArray[i]?=some u:=by simpa using hu
   rw[this]at hv1;cases hv1;rfl
  have e2:v2=u2:=by
   have:its2.toArray[i]?=some u2:=by simpa using hu2
   rw[this]at hv2;cases hv2;rfl
  subst e1;subst e2;refine⟨.ref T,rfl,W.go elts kk pos i T { s with heap:=h',toks:=tk } _ E hMid fun h2 hS hk2=>?_⟩;have hap:=W.apart i T h' hMid;have hTup2:h2.IsTuple T #[v1,v2]:=by
   obtain⟨o,e1,c1⟩:=hTup;exact⟨o,hk2 T o hap e1,c1⟩
  have hn:H T=none:=I.hok.fresh hT;have sub:∀ b,b ∉ [z,TI,TO,i1,i2]->b ∉ [z,TO,i1,i2]:=fun b hb hm=>hb (by simp at hm ⊢;rcases hm with h|h|h|h<;>simp[h]);have ltT:∀ b∈[z,TI,TO,i1,i2],b<s.heap.objs.size:=fun b hb=>by
   simp only[List.mem_cons,List.not_mem_nil,or_false]at hb;rcases hb with rfl|rfl|rfl|rfl|rfl
   ·exact Heap.lt_size s1
   ·exact Heap.lt_size s2
   ·exact Heap.lt_size s3
   ·obtain⟨o,q,_⟩:=s4;exact Heap.lt_size q
   ·obtain⟨o,q,_⟩:=s5;exact Heap.lt_size q
  refine⟨.ref T,upd H T (.tup [x,y]),I.turnL (o:=.tup [x,y]) (fun b o hb q=>hk2 b o (sub b hb) (hk b o (sub b hb) q)) hf hT ?_,rfl,⟨T,x,y,hn,rfl,fun zs hz=>by rw[I.list_inj hz hq];exact hx,fun zs hz=>by rw[I.list_inj hz hq2];exact hy,rfl⟩,⟨hS.1,hS.2.1,hS.2.2.1,hS.2.2.2.1,hS.2.2.2.2.1⟩,fun b hb=>?_⟩
  ·exact⟨(show (2:Nat)<=sizeLine by decide),[v1,v2],.cons ru (.cons ru2 .nil),hTup2⟩
  ·rw[ydx (Nat.ne_of_lt (Nat.lt_of_lt_of_le (ltT b hb) hT))];exact(hf b hb).1
 done:=by
  intro X hP hw hK hc i pins s σ H E I hf st hg;subst hP hw hK;obtain⟨xs,ys,hq,hq2,hx⟩:=hg;obtain⟨its,rv,p,hz⟩:=I.list hq;obtain⟨its2,rv2,p2,hz2⟩:=I.list hq2;obtain⟨s1,s2,⟨a,c,s3⟩,s4,s5⟩:=st;have D:=zj3 d1 d2 p.isList p2.isList s1 s2 s3 s4 s5;have W:=WalksT.zip2 (prog:=X.prog) (w:=X.w) (A:=X.A) (I.ok.hd hc) z TI TO i1 i2 l m D its.toArray its2.toArray;have hl:=rv.length;have hl2:=rv2.length;have ei:i=min its.toArray.size its2.toArray.size:=by simp;omega
  subst ei;have sub:∀ b,b ∉ [z,TI,TO,i1,i2]->b ∉ [z,TO,i1,i2]:=fun b hb hm=>hb (by simp at hm ⊢;rcases hm with h|h|h|h<;>simp[h]);exact W.done s _ E ⟨s1,s2,⟨a,c,s3⟩,s4,s5,p.isList,p2.isList⟩ fun h' tk hk=>⟨rfl,I.turnN (t':=tk) (fun b o hb q=>hk b o (sub b hb) q) hf⟩
 self:=fun A i s Q E st h=>wpAny_pyIter_zip st.1 h
abbrev NX:=Nat->Sto->Option (Option D)
def yjy(T:Tb)(μ0:List Addr)(H0:Hp)(nx:NX)(J:It):Prop:=∀ μ H σ i,Ext μ0 H0 μ H->Rel T μ H σ->match nx i σ with
 |none=>True
 |some none=>J.stop i H
 |some (some d)=>J.go i H/\∀ x H',J.yld i H x H'->Ext μ H μ H'/\Rel T μ H' σ/\Rep T μ H' d x
def tIN(T:Tb)(X:Cx)(f:Ev->M NX):TI:=fun st H R=>∃ μ ρ σ,yje T μ H ρ st/\Rel T μ H σ/\yjp T (XE X st) (yjy T) μ H (f ρ σ) R
abbrev FIN(T:Tb)(X:Cx)(tg iter:Expr)(f:Ev->M NX):Prop:=PI X tg iter (tIN T X f)
def ygi(nx:NX)(tg:D->Ev->Option Ev)(body:Ev->M Fl):Nat->Nat->Ev->M Fl
 |0,_,_=>bad
 |k+1,i,ρ=>fun σ=>match nx i σ with
  |none=>.bad
  |some none=>.ok (.nx ρ) σ
  |some (some d)=>match tg d ρ with
   |none=>.bad
   |some ρ1=>bnd (body ρ1) (ygg (ygi nx tg body k (i+1))) σ
def yft(tg:D->Ev->Option Ev)(body:Ev->M Fl)(ρ:Ev)(nx:NX):M Fl:=ygi nx tg body 1001 0 ρ
def yh9(src:Ev->M NX)(tg:D->Ev->Option Ev)(body:Ev->M Fl):Ev->M Fl:=fun ρ=>xs ρ (src ρ) (yft tg body ρ)
section
variable{T:Tb}{X:Cx}{tgt iter:Expr}{body:List Stmt}{src:Ev->M NX}{t:D->Ev->Option Ev}{g:Ev->M Fl}{pos:Pos}
theorem zsh(hp:PassesOwn (model X.prog X.w) X.A X.env X.xe)(hc:X.calm=true)(hi:FIN T X tgt iter src)(hg:FG T X tgt t)(hb:FSs T X body g)
  (hs:∀ x,foldedSetIterable iter X.env x=pure x:=by intro _;rfl):FS T X (.For tgt iter body [] pos) (yh9 src t g):=by
 intro pins s st H D I hq;refine ycj hp hc hi hg hb hs pins s st H D I ?_;obtain⟨μ,ρ,σ,hE,hr,hp⟩:=hq;refine⟨μ,ρ,σ,hE,hr,hp.xs hE fun nx σ1 μ1 J H1 _ e1 r1 q1 p1=>?_⟩;have p1':yjp T EN (RFl T) μ1 H1 (ygi nx t g 1001 0 ρ σ1) (yjf X D):=p1;refine⟨fun i m st2 H2=>∃ μ ρ σ,Ext μ1 H1 μ H2/\yje T μ H2 ρ st2/\Rel T μ H2 σ/\yjp T EN (RFl T) μ H2 (ygi nx t g m i ρ σ) (yjf X D),⟨1001,μ1,ρ,σ1,Ext.refl _ _,hE.mono e1,r1,p1'⟩,?_⟩;rintro i m st2 H2 ⟨μ2,ρ2,σ2,ex,hE2,r2,p2⟩;cases m with
 |zero=>exact p2.elim
 |succ m=>
  unfold ygi at p2;have so:=q1 μ2 H2 σ2 i ex r2;cases en:nx i σ2 with
  |none=>simp only[en]at p2;exact p2.elim
  |some o=>
   cases o with
   |none=>
    simp only[en]at p2 so;exact .inl ⟨so,yjp.here (g:=Gl2.nx st2) p2 r2 hE2⟩
   |some d=>
    simp only[en]at p2 so;obtain⟨hgo,hy⟩:=so;refine .inr ⟨hgo,fun st3 H3=>∃ μ ρ σ,Ext μ1 H1 μ H3/\yje T μ H3 ρ st3/\Rel T μ H3 σ/\yjp T EN (RFl T) μ H3 (ygi nx t g m (i+1) ρ σ) (yjf X D),fun st3 H3 h=>⟨m,Nat.lt_succ_self _,h⟩,fun x H3 y=>?_⟩;obtain⟨ex3,r3,hx⟩:=hy x H3 y;cases ht:t d ρ2 with
    |none=>simp only[ht]at p2;exact p2.elim
    |some ρ3=>
     simp only[ht]at p2;exact⟨μ2,σ2,ρ2,d,ρ3,hE2.mono ex3,r3,hx,ht,fun st3 hE3=>⟨μ2,ρ3,σ2,hE3,r3,(yjp.mono ex3 p2).bind fun fl σ4 μ4 gl H4 _ e4 r4 q4 p4=>zpk r4 q4 p4 fun ρ5 st5 hE5 p5=>⟨μ4,ρ5,σ4,(ex.trans ex3).trans e4,hE5,r4,p5⟩⟩⟩
end
def nxE(a:D):NX:=fun i σ=>match yln σ a with
 |some xs=>(match xs[i]? with
  |some x=>some (some (.tup [.int (i:Int),x]))
  |none=>if i=xs.length then some none else none)
 |none=>none
def nxZ(a b:D):NX:=fun i σ=>match yln σ a with
 |some xs=>(match yln σ b with
  |some ys=>(match xs[i]? with
   |some x=>(match ys[i]? with
    |some y=>some (some (.tup [x,y]))
    |none=>if i=min xs.length ys.length then some none else none)
   |none=>if i=min xs.length ys.length then some none else none)
  |none=>none)
 |none=>none
def yi8(a b:D):M NX:=fun σ=>match yln σ a with
 |some _=>(match yln σ b with
  |some _=>.ok (nxZ a b) σ
  |none=>.bad)
 |none=>.bad
def yi7(m:M D)(a:D):M NX:=bnd m (yi8 a)
def yng(f g:Ev->M D):Ev->M NX:=fun ρ=>bnd (f ρ) (yi7 (g ρ))
section
variable{T:Tb}{X:Cx}{elts:List Expr}{kk:Nat}{p0 p pos:Pos}{f g:Ev->M D}
theorem zxs:bootBuiltins "zip" = some (.type "zip"):=by decide +kernel
def ylc(K:PySem.W.Frag)(ta:TA):TI:=fun σ H R=>ta σ H fun vs H1=>∃ l m xs ys,vs=[.ref l,.ref m]/\SqL K H1 l xs/\SqL K H1 m ys/\R (Itz K l m) H1
theorem ycd{a b:Expr}{ta:TA}(hg:Gl X "zip")(hm:X.mg "zip" = none)(ha:PA X [a,b] ta)(hs:starEach [a,b] X.env=[(false,eval a X.env),(false,eval b X.env)]:=by rfl)(hs2:starEach [b] X.env=[(false,eval b X.env)]:=by rfl):PI X (.Tuple elts kk p0) (.Call (.Name "zip" p) [a,b] [] pos) (ylc X.K ta):=by
 intro pins s σ H R I h;refine Call_ (yaw I hg hm zxs (PyProof.Rows.callWith_type1 (thn (ha pos pins s σ H _ I h) fun us s1 ⟨vs,H1,I1,r1,q1⟩=>?_) (by rw[hs,hs2]) (by rw[hs2];rfl)));obtain⟨l,m,xs,ys,e,hq,hq2,q⟩:=q1;subst e;cases r1 with
 |cons r rr=>
  cases rr with
  |cons r' rr=>
   cases rr;cases r;cases r';obtain⟨its,rv,pl,hz⟩:=I1.list hq;obtain⟨its2,rv2,pl2,hz2⟩:=I1.list hq2;refine call_zip_2 pl.isList pl2.isList fun h' a1 a2 a3 a4 a5 a6 a7=>wpAny_pyIter_zip a1 ?_;refine⟨s1.heap.objs.size+4,[s1.heap.objs.size+4,s1.heap.objs.size+2,s1.heap.objs.size+3,s1.heap.objs.size,s1.heap.objs.size+1],_,_,H1,rfl,I1.kept (t':=s1.toks) a7,zpl l m (s1.heap.objs.size+4) (s1.heap.objs.size+2) (s1.heap.objs.size+3) s1.heap.objs.size (s1.heap.objs.size+1) (show (s1.heap.objs.size+2:Nat)≠s1.heap.objs.size+3 by omega) (show (s1.heap.objs.size:Nat)≠s1.heap.objs.size+1 by omega),⟨a1,a2,⟨_,_,a3⟩,a4,a5⟩,fun b hb=>?_,q⟩;have hb':s1.heap.objs.size<=b:=by simp at hb;rcases hb with rfl|rfl|rfl|rfl|rfl<;>omega
   exact I1.fpOk hb' (I1.hok.fresh hb')
theorem zzi{e e':Expr}(hg:Gl X "zip")(hm:X.mg "zip" = none)(h:FE T X e f)(h':FE T X e' g)(hs:starEach [e,e'] X.env=[(false,eval e X.env),(false,eval e' X.env)]:=by rfl)(hs2:starEach [e'] X.env=[(false,eval e' X.env)]:=by rfl) :
  FIN T X (.Tuple elts kk p0) (.Call (.Name "zip" p) [e,e'] [] pos) (yng f g):=by
 intro pins s st H R I hw;refine ycd hg hm (zuq h (zuq h' yby hs2) (by rw[hs,hs2])) hs hs2 pins s st H R I ?_;obtain⟨μ,ρ,σ,hE,hr,hp⟩:=hw;refine⟨μ,ρ,σ,hE,hr,hp.bind fun d σ1 μ1 v H1 _ e1 r1 q1 p1=>⟨μ1,ρ,σ1,hE.mono e1,r1,p1.bind fun d2 σ2 μ2 v2 H2 _ e2 r2 q2 p2=>?_⟩⟩;unfold yi8 at p2;cases el:yln σ2 d with
 |none=>rw[el]at p2;exact p2.elim
 |some ds=>
  rw[el]at p2;dsimp only at p2;cases el2:yln σ2 d2 with
  |none=>rw[el2]at p2;exact p2.elim
  |some ds2=>
   rw[el2]at p2;have q1':=Rep.mono e2 _ _ q1;obtain⟨l,vs,rfl,h1,h2⟩:=r2.ls q1' el;obtain⟨m,ws,rfl,h3,h4⟩:=r2.ls q2 el2;refine⟨l,m,vs,ws,rfl,SqL.of h1,SqL.of h3,yjp.here (R:=yjy T) p2 r2 fun μ3 H3 σ3 i ex r3=>?_⟩;unfold nxZ;cases fl:yln σ3 d with
   |none=>trivial
   |some xs=>
    obtain⟨l',us,e',h5,h6⟩:=r3.ls (Rep.mono ex _ _ q1') fl;cases e';dsimp only;cases fl2:yln σ3 d2 with
    |none=>trivial
    |some ys=>
     obtain⟨m',us2,e',h7,h8⟩:=r3.ls (Rep.mono ex _ _ q2) fl2;cases e';have hq1:SqL X.K H3 l us:=SqL.of h5;have hq2:SqL X.K H3 m us2:=SqL.of h7;have l1:=h6.length;have l2:=h8.length;dsimp only;cases ei:xs[i]? with
     |none=>
      dsimp only;by_cases hi:i=min xs.length ys.length
      ·rw[if_pos hi];exact⟨us,us2,hq1,hq2,by rw[hi,l1,l2]⟩
      ·rw[if_neg hi];trivial
     |some d'=>
      dsimp only;cases ei2:ys[i]? with
      |none=>
       dsimp only;by_cases hi:i=min xs.length ys.length
       ·rw[if_pos hi];exact⟨us,us2,hq1,hq2,by rw[hi,l1,l2]⟩
       ·rw[if_neg hi];trivial
      |some d2'=>
       obtain⟨x,hx,rx⟩:=h6.get ei;obtain⟨y,hy,ry⟩:=h8.get ei2;refine⟨⟨us,us2,x,y,hq1,hq2,hx,hy⟩,fun z H' yy=>?_⟩;obtain⟨q,x',y',hn',rfl,hall,hall2,rfl⟩:=yy;have hx':=hall us hq1;rw[hx]at hx';cases hx';have hy':=hall2 us2 hq2;rw[hy]at hy';cases hy';refine⟨zro hn',r3.fresh hn',?_⟩;rw[Rep];exact⟨q,_,rfl,zpn,yjv.cons (Rep.mono (zro hn') _ _ rx) (yjv.cons (Rep.mono (zro hn') _ _ ry) yjv.nil)⟩
end
open PySem.Builtin.Str (occurrences partsBetween subAt)
def jl(g:List Nat):List (List Nat)->List Nat
 |[]=>[]
 |p::r=>p++r.flatMap fun q=>g++q
end L4
namespace L4
open PySem PySem.Spec PyProof.Rows L2
section
variable{T:Tb}{X:Cx}{a b c:Expr}{fa fb fc:Ev->M D}{pos:Pos}
theorem zl0{op op':CmpOp}{r r':R2}{o o':D->D->M D}(ho:OpR X (compareOp op) r)(hs:yec T r o)(ho':OpR X (compareOp op') r')(hs':yec T r' o')(ha:FE T X a fa)(hb:FE T X b fb)(hc:FE T X c fc)
  (hm:lastMarks [op,op'] [b,c]=false:=by with_unfolding_all rfl):FT T X (.Compare a [op,op'] [b,c] pos) (eT (zyj o o' fa fb fc)):=by
 intro pins s st H Q I h;refine zn0 ho ho' ha hb hc hm pins s st H Q I ?_;obtain⟨μ,ρ,σ,hE,hr,hp0⟩:=h;have hp:yjp T (XE X st) (Rep T) μ H (zyj o o' fa fb fc ρ σ) (fun x H'=>∃ k,x=.bl k/\Q k H'):=hp0.bind fun d σ1 μ1 v H1 _ e1 r1 p1 q1=>by
  obtain⟨k,ev,q⟩:=zw8 p1 q1;exact⟨k,ev,q.here r1 rfl⟩
 refine⟨μ,ρ,σ,hE,hr,hp.bind fun x σ1 μ1 v H1 _ e1 r1 q1 p1=>⟨μ1,ρ,σ1,hE.mono e1,r1,p1.bind fun y σ2 μ2 w H2 _ e2 r2 q2 p2=>?_⟩⟩;refine hs _ μ2 H2 σ2 x y v w _ r2 (Rep.mono e2 _ _ q1) q2 (p2.bind fun z σ3 μ3 u H3 _ e3 r3 q3 p3=>?_);obtain⟨k,rfl,ev,p4⟩:=ydr q3 p3;refine⟨k,ev,?_⟩;cases k with
 |true=>
  unfold ifK at p4;rw[if_pos rfl]at p4 ⊢;exact⟨μ3,ρ,σ3,((hE.mono e1).mono e2).mono e3,r3,p4.bind fun z σ5 μ5 u5 H5 _ e5 r5 q5 p5=>hs' _ μ5 H5 σ5 y z w u5 _ r5 (Rep.mono e5 _ _ (Rep.mono e3 _ _ q2)) q5 p5⟩
 |false=>unfold ifK at p4;rw[if_neg Bool.false_ne_true]at p4 ⊢;exact yjp.here p4 r3 (by rw[Rep])
end
section
variable{T:Tb}{X:Cx}
def OkB(T:Tb)(P:Program)(w:World)(mg:Str->Option Value)(base:Heap)(k:Nat)(f:Addr)(ps:List Str)(dv:List Value)(fn:List D->M D):Prop:=
 ∃ fd,yd0 T.K fd ps []/\yd0 T.K fd ps dv/\FnOk P w T.K mg base (CXE P w) k f fd ps (spF T ps.length fn)
structure HasMD(K:PySem.W.Frag)(C:Addr)(x qual:Str)(st:Stmt)(ps:List Str)(dv:List Value)(f:Addr):Prop where
 ex:∃ fd,(∃ (oc:Value) (od:Option Addr) (dV kV doc pm:Value) (an:Option Addr) (cdv ct:Value) (osl:Array (Option Value)),
  fd=PySem.W.fnOf x qual (zq7 st) (zq8 st) (zko st) dV kV doc pm an cdv ct/\K.lookup f=some ⟨oc,od,.func fd,osl⟩/\PySem.W.codeIn K cdv qual=true)/\yd0 K fd ps []/\yd0 K fd ps dv
end
section
variable{P:Program}{w:World}{K:PySem.W.Frag}{mg:Str->Option Value}{base:Heap}{ca:Nat->Addr}
theorem OkB.hide{T:Tb}{k:Nat}{f:Addr}{ps:List Str}{dv:List Value}{fn:List D->M D}(h:OkB T P w mg base k f ps dv fn):OkB T P w mg base k f ps dv (L4.hide fn):=by rw[zsv];exact h
theorem OkB.frz{T:Tb}{k:Nat}{f:Addr}{ps:List Str}{dv:List Value}{fn:List D->M D}(h:OkB T P w mg base k f ps dv fn):OkB T P w mg base k f ps dv (fun ds=>L4.frz (fn ds)):=by
 obtain⟨fd,h1,h2,h3⟩:=h;exact⟨fd,h1,h2,zr9 h3⟩
end
section
variable{T:Tb}{X:Cx}
end
section
variable{T:Tb}{X:Cx}
end
def zxo(ix:List Nat)(ρ:Ev):Ev:=none::none::ix.map fun i=>(ρ[i]?).getD none
def zxp(ix:List Nat)(st:St):St:=none::none::ix.map fun i=>(st[i]?).getD none
def ykq(src:Ev->M Src)(ix:List Nat)(tg:D->Ev->Option Ev)(fi:Ev->M Bool)(fe:Ev->M D):Ev->M D:=fun ρ=>bnd (src ρ) (lcK tg fi fe (zxo ix ρ))
theorem zj9{T:Tb}{μ:List Addr}{H:Hp}{ρ:Ev}{st:St}(ix:List Nat)(h:yje T μ H ρ st):yje T μ H (zxo ix ρ) (zxp ix st):=by
 have q:=zqi ix h;refine⟨by simp[zxo,zxp],fun i d e=>?_⟩;cases i with
 |zero=>simp[zxo]at e
 |succ j=>exact q.2 j d e
section
variable{X:Cx}{pins:List (Addr × Obj)}{st:St}{H:Hp}{s:Shared}{x z0:Str}{M':List Str}{ix:List Nat}{scope:Scope}{fp:List Addr}
theorem zff(I:Inv X pins st H s)(L:LcOk X x M' ix scope)(hfp:∀ b∈fp,yjh X pins H b/\b<s.heap.objs.size){h':Heap}{t':Nat}{m:Str->Option Value}(hns:h'.Ns s.heap.objs.size m)
  (hk:∀ b o,s.heap.get? b=some o->h'.get? b=some o) :
  Inv (blk X (x::z0::M') scope (ykg X.env scope.names []) s.heap.objs.size s H fp) [] (zxp ix st) H { s with heap:=h',toks:=t' }:=by
 have sub:∀ n c,(ykg X.env scope.names []).lookup n=some c->X.env.cells.lookup n=some c:=fun n c e=>zx8 X.env scope.names [] n c (fun _ _ q=>by simp at q) e;have cellLt:∀ n c,X.env.cells.lookup n=some c->c<s.heap.objs.size:=fun n c e=>by obtain⟨v,z⟩:=I.cell n c e;exact z.lt
 have fresh:H s.heap.objs.size=none:=I.hok.fresh (Nat.le_refl _);refine⟨⟨I.ok.mod,L.kind,I.ok.glob,I.ok.blt,Nat.le_refl _,fun a b c h1 h2=>I.ok.inj a b c (sub a c h1) (sub b c h2),fun a ha=>?_,fun a c h=>(by cases h),I.ok.hd,I.ok.frames,.inl rfl,fun b hb=>⟨Nat.ne_of_lt (hfp b hb).2,fun a c e=>?_⟩,fun b o e=>I.bs b o e,Nat.le_trans I.ok.bsz I.sz,fun b o e hb=>?_,fun b hb z=>?_,I.stack,I.stkFree⟩,
  rfl,I.bare,Un.kept hk,⟨m,hns,fun i y v e1 e2 e3=>?_⟩,fun a c e=>?_,fresh,fun a c e=>I.freeC a c (sub a c e),fun p hp=>absurd (show p∈([]:List (Addr × Obj))from hp) (by simp),I.hok.kept hk,?_⟩
 ·
  have ha':(scope.names.map fun(n,k)=>if (k == NameKind.free && X.env.scope.kind == .function && X.env.kindOf n == some .cell)then (n,NameKind.cell)else (n,k)).lookup a=some .cell\/(scope.names.map fun(n,k)=>if (k == NameKind.free && X.env.scope.kind == .function && X.env.kindOf n == some .cell)then (n,NameKind.cell)else (n,k)).lookup a=some .free:=ha;have hf:scope.names.lookup a=some .free:=by
   rcases ha' with z|z
   ·obtain⟨k0,h1,h2⟩:=zbv z;rcases h2 with h2|⟨h2,_⟩
    ·subst h2;exact absurd rfl (ya6 L _ (zin h1))
    ·rw[h2]at h1;exact h1
   ·obtain⟨k0,h1,h2⟩:=zbv z;rcases h2 with h2|⟨_,h2⟩
    ·rw[<-h2]at h1;exact h1
    ·cases h2
  exact zx2 X.env scope.names [] a (zin hf) (zqy I L _ (zin hf) rfl)
 ·exact(hfp b hb).1.2.2.2.2.1 a c (sub a c e)
 ·rcases(hfp b hb).1.2.2.2.1 with z|z
  ·exact I.ok.noex b o e z
  ·exact absurd (Nat.lt_of_lt_of_le (Heap.lt_size e) (Nat.le_trans I.ok.bsz z)) (Nat.lt_irrefl _)
 ·rcases List.mem_cons.mp (I.stkSub b z)with q|q
  ·exact(hfp b hb).1.2.1 q
  ·exact(hfp b hb).1.2.2.1 q
 ·
  cases i with
  |zero=>simp[zxp]at e2
  |succ i=>
  cases i with
  |zero=>simp[zxp]at e2
  |succ j=>
   have e1':M'[j]?=some y:=e1;have e2':(ix.map fun i=>(st[i]?).getD none)[j]?=some (some v):=e2;rw[List.getElem?_map]at e2';cases ej:ix[j]? with
   |none=>rw[ej]at e2';cases e2'
   |some i0=>
    rw[ej]at e2';have e4:(st[i0]?).getD none=some v:=Option.some.inj e2';have e5:st[i0]?=some (some v):=by
     cases q:st[i0]? with
     |none=>rw[q]at e4;cases e4
     |some o=>rw[q]at e4;exact congrArg some e4
    have e6:X.N[i0]?=some y:=by
     have z:=congrArg (fun l=>l[j]?) L.at_;simp only[List.getElem?_map,ej,e1',Option.map_some]at z;exact Option.some.inj z
    have q:=List.all_eq_true.mp L.vis y (List.mem_of_getElem? e1');simp only[Bool.and_eq_true,Bool.or_eq_true]at q;have kx:X.env.scope.names.lookup y=some .cell\/X.env.scope.names.lookup y=some .free:=by
     rcases q.1 with z|z
     ·exact .inl (eq_of_beq z)
     ·exact .inr (eq_of_beq z)
    have ky:scope.names.lookup y=some .free:=eq_of_beq q.2;obtain⟨m0,hn0,hl0⟩:=I.loc;obtain⟨u,ru,lu⟩:=hl0 i0 y v e6 e5 (by rcases kx with z|z;exact .inr (.inl z);exact .inr (.inr z));refine⟨u,ru,.inr ⟨zdt (env:=X.env) ky,?_⟩⟩;rcases lu with⟨z,_⟩|⟨_,c,ec,zc⟩
    ·rcases kx with k|k
     ·rw[show X.env.kindOf y=X.env.scope.names.lookup y from rfl,k]at z;cases z
     ·rw[show X.env.kindOf y=X.env.scope.names.lookup y from rfl,k]at z;cases z
    ·obtain⟨c',hc'⟩:=zx2 X.env scope.names [] y (zin ky) (zqy I L _ (zin ky) rfl);have e7:=sub y c' hc';rw[ec]at e7;cases e7;obtain⟨o,ho,hd⟩:=zc;exact⟨c,hc',o,hk _ _ ho,hd⟩
 ·obtain⟨v,o,ho,hd⟩:=I.cell a c (sub a c e);exact⟨v,o,hk _ _ ho,hd⟩
 ·simp[zxp,blk];have z:=congrArg List.length L.at_;simpa using z
end
section
variable{T:Tb}{X:Cx}
theorem zms{E:XK}{elt iter tgt:Expr}{ifs:List Expr}{scope:Scope}{pos:Pos}{x z0:Str}{M':List Str}{ix:List Nat}{tg:D->Ev->Option Ev}{fi:Ev->M Bool}{fe:Ev->M D}
  {pins:List (Addr × Obj)} {st:St} {H3:Hp} {s3:Shared} {h₁:Heap} {t':Nat} {m:Str->Option Value} {fp:List Addr} {it D0:Addr} {tn:Nat->Heap->Prop} {J:It} {nx:Src} {μ3:List Addr} {σ3:Sto} {ρ:Ev} {n:Nat} {Q:VK}
  (hc:X.calm=true) (L:LcOk X x M' ix scope)
  (htg:∀ cl C s₀ H₀ ex,FG T (blk X (x::z0::M') scope cl C s₀ H₀ ex) tgt tg)
  (hif:∀ cl C s₀ H₀ ex,FIf T (blk X (x::z0::M') scope cl C s₀ H₀ ex) ifs fi)
  (helt:∀ cl C s₀ H₀ ex,FE T (blk X (x::z0::M') scope cl C s₀ H₀ ex) elt fe)
  (I3:Inv X pins st H3 s3) (hfp:∀ b∈fp,yjh X pins H3 b/\b<s3.heap.objs.size) (hns:h₁.Ns s3.heap.objs.size m) (kp:∀ b o,s3.heap.get? b=some o->h₁.get? b=some o)
  (TT:Turn X.prog X.w X.K tgt J fp it tn) (hst4:tn 0 h₁) (so:yee T μ3 H3 nx J) (hE:yje T μ3 H3 ρ st) (r3:Rel T μ3 H3 σ3) (hn:μ3[n]?=some D0)
  (p3:yjp T E (Rep T) μ3 H3 (bnd (yau nx n tg fi fe 1001 0 (zxo ix ρ)) (fun _=>ret (.ref n)) σ3) Q) {RR:Result->Shared->Prop}
  (fin:∀ (s6:Shared) (H':Hp) (m6:Str->Option Value),s6.heap.Ns s3.heap.objs.size m6->H' s3.heap.objs.size=none->Un (frs X.stack) fp H3 H' s3.heap s6.heap->s6.os=s3.os->HOk X.prog X.w H' s6.heap->AllBare s6.gens->Q (.ref D0) H'->RR (.ok .next) s6) :
  codeAny (model X.prog X.w) X.A (.compStart (.ListComp elt [⟨tgt,iter,ifs,0⟩] scope pos) 0 (.ref it) (.ref D0) (compEnvC scope (ykg X.env scope.names []) s3.heap.objs.size X.env))
   RR { s3 with heap:=h₁,toks:=t' }:=by
 have I4:=zff (z0:=z0) (h':=h₁) (t':=t') I3 L hfp hns kp;let Y:Cx:=blk X (x::z0::M') scope (ykg X.env scope.names []) s3.heap.objs.size s3 H3 fp;have stat:∀ {H':Hp},(∀ b∈fp,H' b=none)->∀ b∈fp,yjh Y [] H' b:=fun {H'} hn b hb=>⟨hn b hb,(I4.ok.exf b hb).1,I4.ok.exfs b hb,.inl hb,(I4.ok.exf b hb).2,fun p hp=>absurd (show p∈([]:List (Addr × Obj))from hp) (by simp)⟩
 have ylm:codeAny (model X.prog X.w) X.A (.compLoop (.ListComp elt [⟨tgt,iter,ifs,0⟩] scope pos) 0 (.ref it) (.ref D0) Y.env) RR { s3 with heap:=h₁,toks:=t' }:=by
  refine codeAny_loop rfl (fun k s'=>∃ i μ' H' σ' ρ' st',Inv Y [] st' H' s'/\tn i s'.heap/\(∀ b∈fp,H' b=none)/\Ext μ3 H3 μ' H'/\yje T μ' H' ρ' st'/\Rel T μ' H' σ'/\
   yjp T E (Rep T) μ' H' (bnd (yau nx n tg fi fe k i ρ') (fun _=>ret (.ref n)) σ') Q) ?_ 1001 ⟨0,μ3,H3,σ3,zxo ix ρ,zxp ix st,I4,hst4,fun b hb=>(hfp b hb).1.1,Ext.refl _ _,zj9 ix hE,r3,p3⟩
  rintro k s' ⟨i,μ',H',σ',ρ',st',I',tn',fr',ex',hE',r',p'⟩;show wpAny _ X.A ((compTurn (.ListComp elt [⟨tgt,iter,ifs,0⟩] scope pos) 0 (.ref it) (.ref D0) Y.env).onRaise (fun x=>do noteFrame x Y.env;theTreesLotGoes x)) _ _ s';refine wpAny_noted ?_;rw[compTurn_list];refine wpAny_mono (E:=fun _ _=>False) ?_ (fun _ _ z=>z) (fun _ _ z=>z.elim);refine wpAny_bind (wpAny_standAt ?_);cases k with
  |zero=>exact p'.elim
  |succ k=>
   have so':=so μ' H' σ' i ex' r';cases en:nx.nx i σ' with
   |none=>
    have e1:yau nx n tg fi fe (k+1) i ρ' σ'=.bad:=by unfold yau;simp only[en]
    rw[zg7 (m':=bad) e1]at p';exact p'.elim
   |some od=>
    rw[en]at so';cases od with
    |none=>
     have e1:yau nx n tg fi fe (k+1) i ρ' σ'=.ok () σ':=by unfold yau;simp only[en]
     rw[zg7 (m':=ret ()) e1]at p';refine wpAny_bind (thn (TT.done Y rfl rfl rfl hc i [] s' st' H' (fun _ _=>False) I' (stat fr') tn' so') fun r s6 ⟨er,I6⟩=>?_);subst er;refine wpAny_pure ?_;obtain⟨m6,hm6,_⟩:=I6.loc;exact fin s6 H' m6 hm6 I6.free I6.base I6.os I6.hok I6.bare (yjp.here p' r' (by rw[Rep];exact⟨_,rfl,ex'.get hn⟩))
    |some d=>
     refine wpAny_bind (thn (TT.item Y rfl rfl rfl hc i [] s' st' H' (fun _ _=>False) I' (stat fr') tn' so'.1) fun r s6 ⟨u,er,h6⟩=>?_);subst er;refine wpAny_bind (thn h6 fun _ s7 ⟨xv,H7,I7,r7,y7,tn7,fr7⟩=>?_);obtain⟨eH,hd⟩:=so'.2 xv H7 y7;subst eH;cases et:tg d ρ' with
     |none=>
      have e1:yau nx n tg fi fe (k+1) i ρ' σ'=.bad:=by unfold yau;simp only[en,et]
      rw[zg7 (m':=bad) e1]at p';exact p'.elim
     |some ρ1=>
      have e1:yau nx n tg fi fe (k+1) i ρ' σ'=bnd (nox (fi ρ1)) (fun c=>if c=true then bnd (nox (fe ρ1)) fun y=>bnd (zt3 (.ref n) [y]) fun _=>yau nx n tg fi fe k (i+1) ρ1 else yau nx n tg fi fe k (i+1) ρ1) σ':=by
       conv=>lhs;unfold yau
       simp only[en,et]
      rw[zg7 e1,zg6]at p';have I7':=I7.pinned (stat fr7) (TT.obj _ _ tn7);refine wpAny_bind (thn (htg _ _ _ _ _ _ s7 st' H7 xv u (fun st8 H8=>H8=H7/\yje T μ' H7 ρ1 st8) I7' r7 ⟨μ',σ',ρ',d,ρ1,hE',r',hd,et,fun st8 hE8=>⟨rfl,hE8⟩⟩) fun _ s8 ⟨st8,H8,I8,eH8,hE8⟩=>?_);subst eH8;refine wpAny_bind (thn (hif _ _ _ _ _ _ s8 st8 H8 (fun c H9=>∃ μ9 σ9,Ext μ' H8 μ9 H9/\Rel T μ9 H9 σ9/\yjp T E (Rep T) μ9 H9 (bnd (if c=true then bnd (nox (fe ρ1)) fun y=>bnd (zt3 (.ref n) [y]) fun _=>yau nx n tg fi fe k (i+1) ρ1 else yau nx n tg fi fe k (i+1) ρ1) (fun _=>ret (.ref n)) σ9) Q) I8
       ⟨μ',ρ1,σ',hE8,r',p'.bind0 fun c σ9 μ9 c' H9 _ e9 r9 q9 p9=>by cases q9;exact⟨μ9,σ9,e9,r9,p9⟩⟩) fun c s9 ⟨H9,I9,μ9,σ9,e9,r9,p9⟩=>?_)
      have again:∀ {s11:Shared} {H11:Hp} {μ11:List Addr} {σ11:Sto},Inv Y ([]++yce fp s7.heap) st8 H11 s11->Ext μ' H8 μ11 H11->Rel T μ11 H11 σ11->yjp T E (Rep T) μ11 H11 (bnd (yau nx n tg fi fe k (i+1) ρ1) (fun _=>ret (.ref n)) σ11) Q->
        ∃ m,m<k+1/\∃ i μ' H' σ' ρ' st',Inv Y [] st' H' s11/\tn i s11.heap/\(∀ b∈fp,H' b=none)/\Ext μ3 H3 μ' H'/\yje T μ' H' ρ' st'/\Rel T μ' H' σ'/\yjp T E (Rep T) μ' H' (bnd (yau nx n tg fi fe m i ρ') (fun _=>ret (.ref n)) σ') Q:=by
       intro s11 H11 μ11 σ11 I11 e11 r11 p11;refine⟨k,Nat.lt_succ_self _,i+1,μ11,H11,σ11,ρ1,st8,I11.unpinned,TT.keep _ _ _ tn7 (fun b hb o e=>(I11.pin (b,o) (List.mem_append_right _ (List.mem_append_right _ (zf3 hb e)))).1),fun b hb=>?_,ex'.trans e11,hE8.mono e11,r11,p11⟩;obtain⟨o,e,_⟩:=TT.obj _ _ tn7 b hb;exact(I11.pin (b,o) (List.mem_append_right _ (List.mem_append_right _ (zf3 hb e)))).2.1
      cases c with
      |false=>
       rw[if_neg Bool.false_ne_true]at p9;exact wpAny_pure ⟨rfl,again I9 e9 r9 p9⟩
      |true=>
       rw[if_pos rfl,zg6]at p9;refine wpAny_bind (wpAny_bind (thn (helt _ _ _ _ _ _ s9 st8 H9 (fun v H10=>∃ y μ10 σ10,Ext μ' H8 μ10 H10/\Rel T μ10 H10 σ10/\Rep T μ10 H10 y v/\yjp T E (Rep T) μ10 H10 (bnd (zt3 (.ref n) [y]) (fun _=>bnd (yau nx n tg fi fe k (i+1) ρ1) (fun _=>ret (.ref n))) σ10) Q) I9
        ⟨μ9,ρ1,σ9,hE8.mono e9,r9,p9.bind0 fun y σ10 μ10 v H10 _ e10 r10 q10 p10=>⟨y,μ10,σ10,e9.trans e10,r10,q10,by rw[zg6]at p10;exact p10⟩⟩) fun w s10 ⟨v,H10,I10,rw10,y,μ10,σ10,e10,r10,q10,p10⟩=>?_))
       have happ:=zp6 (Q:=fun _ H11=>∃ μ11 σ11,Ext μ' H8 μ11 H11/\Rel T μ11 H11 σ11/\yjp T E (Rep T) μ11 H11 (bnd (yau nx n tg fi fe k (i+1) ρ1) (fun _=>ret (.ref n)) σ11) Q) r10 ((ex'.trans e10).get hn) q10
        (p10.bind fun _ σ11 μ11 v11 H11 _ e11 r11 q11 p11=>⟨μ11,σ11,e10.trans e11,r11,p11⟩)
       refine wpAny_bind (thn (ziq (X:=Y) _ s10 st8 H10 (.ref D0) [v] (.ref D0) [w] _ I10 rfl (.cons rw10 .nil) happ) fun _ s11 ⟨v11,H11,I11,_,μ11,σ11,e11,r11,p11⟩=>?_);exact wpAny_pure (wpAny_pure ⟨rfl,again I11 e11 r11 p11⟩)
 exact codeAny_compStart_list ylm (TT.self X.A 0 _ _ _ hst4 ylm)
theorem zy7{elt iter tgt:Expr}{ifs:List Expr}{scope:Scope}{pos:Pos}{x z0:Str}{M':List Str}{ix:List Nat}{src:Ev->M Src}{tg:D->Ev->Option Ev}{fi:Ev->M Bool}{fe:Ev->M D}
  (hc:X.calm=true) (L:LcOk X x M' ix scope) (hsrc:FI T X tgt iter src)
  (htg:∀ cl C s₀ H₀ ex,FG T (blk X (x::z0::M') scope cl C s₀ H₀ ex) tgt tg)
  (hif:∀ cl C s₀ H₀ ex,FIf T (blk X (x::z0::M') scope cl C s₀ H₀ ex) ifs fi)
  (helt:∀ cl C s₀ H₀ ex,FE T (blk X (x::z0::M') scope cl C s₀ H₀ ex) elt fe)
  (hs:∀ y,foldedSetIterable iter X.env y=pure y:=by intro _;rfl) :
  FE T X (.ListComp elt [⟨tgt,iter,ifs,0⟩] scope pos) (ykq src ix tg fi fe):=by
 intro pins s st H Q I h;obtain⟨μ,ρ,σ,hE,hr,hp⟩:=h;rw[eval_ListComp];refine wpAny_comprehension_free (use:=none) rfl hs (zfi X.env scope (zqy I L)) L.kind (fun y hy e=>?_) ?_
 ·have q:=List.all_eq_true.mp L.names y hy;rw[e]at q;simp only[beq_self_eq_true,Bool.not_true,Bool.false_or]at q;exact eq_of_beq q
 have h1:=hsrc pins s st H (fun J H2=>∃ nx μ2 σ2,Ext μ H μ2 H2/\Rel T μ2 H2 σ2/\yee T μ2 H2 nx J/\yjp T (XE X st) (Rep T) μ2 H2 (bnd (yau nx σ2.length tg fi fe 1001 0 (zxo ix ρ)) (fun _=>ret (.ref σ2.length)) (σ2++[Ob.lst []])) Q) I
  ⟨μ,ρ,σ,hE,hr,hp.bind fun nx σ1 μ1 J H1 _ e1 r1 q1 p1=>⟨nx,μ1,σ1,e1,r1,q1,p1⟩⟩
 refine thn h1 fun v s1 h2=>thn h2 fun itv s2 h3=>?_;obtain⟨it,fp,tn,J,H2,rfl,I2,TT,st2,f2,nx,μ2,σ2,ex2,r2,so,p2⟩:=h3;refine wpAny_newObj_type (wpAny_newFunctionEnv (ya6 L) (by intro y hy;simp at hy) (fun h₁ hns₁ hsb₁=>?_) L.kind);have I3:=I2.lnew (ys:=[]) (its:=[]) (t':=s2.toks) .nil (by simp);have fr2:H2 s2.heap.objs.size=none:=I2.hok.fresh (Nat.le_refl _);have r3:=r2.push (p:=s2.heap.objs.size) (o:=.lst []) (ob:=.lst []) fr2 ⟨[],zpn,yjv.nil⟩;have ex3:Ext μ2 H2 (μ2++[s2.heap.objs.size]) (upd H2 s2.heap.objs.size (.lst [])):=zk8 fr2;have hsz:s2.heap.objs.size<(s2.heap.push { cls:=.type "list",data:=.seq ([]:List Value).toArray }).objs.size:=by rw[Heap.size_push];exact Nat.lt_succ_self _
 have kp:∀ b o,(s2.heap.push { cls:=.type "list",data:=.seq ([]:List Value).toArray }).get? b=some o->h₁.get? b=some o:=fun b o e=>hsb₁.extBut b o (Nat.ne_of_lt (Heap.lt_size e)) (Heap.get?_push_of_some _ e);have hfp:∀ b∈fp,yjh X pins (upd H2 s2.heap.objs.size (.lst [])) b/\b<(s2.heap.push { cls:=.type "list",data:=.seq ([]:List Value).toArray }).objs.size:=fun b hb=>by
  obtain⟨o,e,_⟩:=TT.obj 0 _ st2 b hb;have lt:=Heap.lt_size e;exact⟨⟨by rw[ydx (Nat.ne_of_lt lt)];exact(f2 b hb).1,(f2 b hb).2⟩,Nat.lt_trans lt hsz⟩
 refine zms (s3:={ s2 with heap:=s2.heap.push { cls:=.type "list",data:=.seq ([]:List Value).toArray },toks:=s2.toks }) (n:=σ2.length) (D0:=s2.heap.objs.size) hc L htg hif helt I3 hfp hns₁ kp TT (TT.keep 0 _ _ st2 fun b hb o e=>kp b o (Heap.get?_push_of_some _ e))
  (fun μ H σ i ex r=>so μ H σ i (ex3.trans ex) r) ((hE.mono ex2).mono ex3) r3 (by rw[<-r2.len];simp) (p2.mono ex3) (fun s6 H' m6 hm6 hC' hu0 hos hok6 hb6 hq=>⟨m6,hm6,fun h7 hs7=>?_⟩)
 have hu:=zxa hu0 hs7 (Nat.le_refl _);have I7:=L2.Inv.call' (s':={ s6 with heap:=h7 }) (ch:=fp) I3 hos hu (zmc hok6 hs7 hC') hb6 (fun b hb=>⟨(hfp b hb).1.2.2.2.1,(hfp b hb).1.2.1,(hfp b hb).1.2.2.2.2.1,(hfp b hb).1.2.2.2.2.2⟩);exact⟨.ref s2.heap.objs.size,H',I7,rfl,hq⟩
end
def ynh(l:List Int):List Int:=l.mergeSort fun a b=>decide (a<=b)
theorem zjo(l:List Int):(ynh l).Perm l:=List.mergeSort_perm l _
theorem zw2(l:List Int):(ynh l).Pairwise (·<=·):=by
 have:=List.pairwise_mergeSort (le:=fun a b:Int=>decide (a<=b)) (fun a b c h1 h2=>by simp at *;omega) (fun a b=>by simp;omega) l;exact this.imp fun h=>by simpa using h
theorem zvd:∀ {l m:List Int},l.Perm m->l.Pairwise (·<=·)->m.Pairwise (·<=·)->l=m
 |[],m,h,_,_=>by rw[List.nil_perm]at h;exact h.symm
 |a::l,[],h,_,_=>by have:=h.length_eq;simp at this
 |a::l,b::m,h,h1,h2=>by
  rw[List.pairwise_cons]at h1 h2;have ha:a∈b::m:=h.subset List.mem_cons_self;have hb:b∈a::l:=h.symm.subset List.mem_cons_self;have e:a=b:=by
   rcases List.mem_cons.mp ha with e|ha
   ·exact e
   ·rcases List.mem_cons.mp hb with e|hb
    ·exact e.symm
    ·have:=h1.1 b hb;have:=h2.1 a ha;omega
  subst e;rw[zvd (List.Perm.cons_inv h) h1.2 h2.2]
theorem zjp{l m:List Int}(h:l.Perm m):ynh l=ynh m:=zvd (((zjo l).trans h).trans (zjo m).symm) (zw2 l) (zw2 m)
section
variable{T:Tb}{X:Cx}
theorem zn7{μ:List Addr}{H:Hp}:∀ is:List Int,yjv T μ H (is.map D.int) (is.map V.int)
 |[]=>yjv.nil
 |i::is=>yjv.cons (by rw[Rep]) (zn7 is)
def apart(n:Nat):D->Bool
 | .ref m=>!(m == n)
 |_=>true
end
theorem zec:bootBuiltins "sorted" = some (.builtin "sorted"):=by decide +kernel
theorem zjz:∀ {ks:List Key} {vs:List Value},vs.length=ks.length->(∀ (j:Nat) (v:Value) (k:Key),vs[j]?=some v->ks[j]?=some k->yjs (kV k) v)->yj1 (ks.map kV) vs
 |[],[],_,_=>.nil
 |[],_::_,h,_=>by simp at h
 |_::_,[],h,_=>by simp at h
 |k::ks,v::vs,h,hv=>.cons (hv 0 v k rfl rfl) (zjz (by simpa using h) fun j v k e1 e2=>hv (j+1) v k e1 e2)
theorem ztb{P:Program}{w:World}{k:Key}{v:Value}(h:(ztq P w).is k v=true):yjs (kV k) v:=by
 rw[zf4]at h;rcases zel h with⟨i,t,rfl,rfl⟩|⟨x,t,rfl,rfl⟩
 ·exact⟨t,rfl⟩
 ·exact⟨t,rfl⟩
theorem zte:∀ {kvs:List (Key × V)} {ws:List (Key × Value)},KV kvs ws->ws.map (·.1)=kvs.map (·.1)
 |[],_,h=>by cases h;rfl
 |p::kvs,_,h=>by
  cases h with
  |cons q h=>simp only[List.map_cons];rw[zte h,q.1]
section
variable{T:Tb}{X:Cx}
def ylj:Key->D
 | .inl i=>.int i
 | .inr x=>.str x
end
end L4
namespace L4
open PySem PySem.Spec PySem.Calls PySem.W PyProof.Rows PyProof.V
theorem zdf{prog:Program}{w:World}{A:Around}{E:Value->Shared->Prop}{s:Shared}{R:List Value->Shared->Prop}{Ty:String}{r d:Addr}{n:Nat}{P:Nat->Value->Prop}{OK:Heap->Prop}
  (K:KdlSrc prog w Ty r d n P OK) (hh:A.handled=none) (hok:OK s.heap) (hn:n<=sizeLine)
  (fin:∀ (h':Heap) (tk:Nat) (acc:Array Value),(∀ b o,s.heap.get? b=some o->h'.get? b=some o)->s.heap.objs.size<=h'.objs.size->ItemsOf P acc n->R acc.toList { s with heap:=h',toks:=tk }) :
  wpAny (model prog w) A (collect (.ref r)) R E s:=by
 have lt:=K.there _ hok;let S:Addr:=s.heap.objs.size;let Z:Result->Shared->Prop:=fun q s'=>∃ (h':Heap) (tk:Nat) (acc:Array Value) (c:Nat),q=.ok (.ret (.ref S))/\s'={ s with heap:=h',toks:=tk }/\(∀ b o,s.heap.get? b=some o->h'.get? b=some o)/\
  h'.get? S=some { cls:=.type "list",dict:=none,data:=.seq acc c,slots:=#[] }/\ItemsOf P acc n
 have close:∀ {h':Heap} {tk c:Nat} {acc:Array Value},(∀ b o,s.heap.get? b=some o->h'.get? b=some o)->h'.get? S=some { cls:=.type "list",dict:=none,data:=.seq acc c,slots:=#[] }->ItemsOf P acc n->R acc.toList { s with heap:=h',toks:=tk }:=
  fun kp g it=>fin _ _ _ kp (Nat.le_of_lt (Heap.lt_size g)) it
 have at0:(s.heap.push { cls:=.type "list",data:=.seq ([]:List Value).toArray }).get? S=some { cls:=.type "list",data:=.seq #[] }:=Heap.get?_push_size _ rfl;have run:=kdl_extend (A:=A) (s:={ s with heap:=s.heap.push { cls:=.type "list",data:=.seq ([]:List Value).toArray } }) (R:=Z) K hh (K.keep _ _ hok fun b _ o e=>Heap.get?_push_of_some _ e) S (Nat.ne_of_gt lt.1) (Nat.ne_of_gt lt.2) (.ref S) 0 at0
  (fun h' tk acc c kp g it=>⟨h',tk,acc,c,rfl,rfl,fun b o e=>kp b o (Nat.ne_of_lt (Heap.lt_size e)) (Heap.get?_push_of_some _ e),g,it⟩) hn
 unfold collect;refine wpAny_bind (wpAny_runValue (codeAny_builtin entry_proto_collect' ?_));rw[Around.under_plainId PySem.F.plain_proto_collect _];show wpAny _ A.in1 (newList [] >>= fun l=>again (.builtin "list.__iadd__" ⟨[l,.ref r],[]⟩)) _ _ s;refine wpAny_bind (wpAny_newObj_type (wpAny_pure ⟨plainId_quiet PySem.F.plain_list_iadd _,codeAny_builtin entry_list_iadd' ?_⟩));rw[Around.under_plainId PySem.F.plain_list_iadd _];show wpAny _ A.in1 (Builtin.List.listExtendWith (.ref S) (.ref r) (.ref S)) _ _ _;refine wpAny_mono run (fun f s' x=>?_) (fun e s' x=>by obtain⟨_,_,_,_,z,_⟩:=x;cases z);cases f with
 |done f=>
  obtain⟨h',tk,acc,c,e,rfl,kp,g,it⟩:=x;cases e;exact wpAny_bind (wpAny_load g (wpAny_pure (close kp g it)))
 |again c1=>
  refine⟨x.1,codeAny_mono x.2 fun q s2 y=>?_⟩;obtain⟨h',tk,acc,c,rfl,rfl,kp,g,it⟩:=y;exact wpAny_bind (wpAny_load g (wpAny_pure (close kp g it)))
end L4
namespace L4
open PySem PySem.Spec PyProof.Rows L2
theorem zh8:∀ {is:List Int} {vs:List Value},yj1 ((is.map (Sum.inl:Int->Key)).map kV) vs->IntsAre vs is
 |[],_,h=>by cases h;exact .nil
 |i::is,_,h=>by
  cases h with
  |cons q h=>
   obtain⟨t,rfl⟩:=q;exact .cons i t (zh8 h)
section
variable{T:Tb}{X:Cx}
def ygd:List (Key × D)->Option (List Int)
 |[]=>some []
 |(.inl i,_)::r=>(ygd r).map (i::·)
 |_::_=>none
theorem zig{μ:List Addr}{H:Hp}:∀ {kvs:List (Key × D)} {us:List (Key × V)} {is:List Int},yju T μ H kvs us->ygd kvs=some is->us.map (·.1)=is.map Sum.inl
 |[],_,is,h,e=>by unfold yju at h;cases h;cases e;rfl
 |(k,d)::kvs,_,is,h,e=>by
  unfold yju at h;cases h with
  |cons q h=>
   cases k with
   |inr x=>cases e
   |inl i=>
    unfold ygd at e;cases ek:ygd kvs with
    |none=>rw[ek]at e;cases e
    |some js=>
     rw[ek]at e;cases e;simp only[List.map_cons];rw[zig h ek,<-q.1]
def zno(xs:List D):M D:=fun σ=>match xs with
 |[x]=>(match ykm σ x with
  |some kvs=>(match ygd kvs with
   |some is=>if is.length<64 then ygr ((ynh is).map D.int) σ else .bad
   |none=>.bad)
  |none=>.bad)
 |_=>.bad
end
section
variable{T:Tb}{X:Cx}
end
end L4
namespace L2
open PySem PySem.Spec PyProof.Rows
end L2
namespace L4
open PySem PySem.Spec PyProof.Rows L2
section
variable{T:Tb}{X:Cx}
inductive Dsp(T:Tb)(X:Cx):List (Option Expr)->List Expr->List Key->(Ev->M (List D))->Prop
 |nil:Dsp T X [] [] [] yj3
 |cons {k v:Expr} {kk:Key} {f:Ev->M D} {ks:List (Option Expr)} {vs:List Expr} {kks:List Key} {fs:Ev->M (List D)} (hk:FE T X k (eC (ylj kk))) (hv:FE T X v f) (r:Dsp T X ks vs kks fs):Dsp T X (some k::ks) (v::vs) (kk::kks) (yeg f fs)
end
section
variable{T:Tb}{X:Cx}{pins:List (Addr × Obj)}{st:St}{H:Hp}{s:Shared}
variable{N':List Str}{scope:Scope}{cl:List (Str × Addr)}{H3:Hp}{s3:Shared}{fp:List Addr}{xe:Value->Shared->Prop}
end
section
variable{T:Tb}{X:Cx}
end
section
variable{ρ:Ev}{σ:Sto}
end
end L4
namespace L4
open PySem PySem.Spec PyProof.Rows L2 Builtin Builtin.Str
section
variable{T:Tb}{X:Cx}{a b e o:Expr}{fa fb f:Ev->M D}{pos apos cpos:Pos}
end
section
variable{ρ:Ev}{σ:Sto}
end
end L4
namespace L4
open PySem PySem.Spec PyProof.Rows L2
section
variable{T:Tb}{X:Cx}
end
section
variable{ρ:Ev}{σ:Sto}
end
section
variable{prog:Program}{w:World}{A:Around}{E:Value->Shared->Prop}{h:Heap}{g:Array GenState}{d:Drawn}{t:Nat}{os:OsState}
variable{nm qn:Str}{C N:Addr}{bs bm bmB:List Value}{hdct:Bool}{sn:List Str}{sub:List Value}{ab:Bool}{col:Option Bool}{dd:Option Addr}{k0 k1 k2 k3 k5:Option Value}{B newId initId:String}
end
section
variable{T:Tb}{X:Cx}{pins:List (Addr × Obj)}{st:St}{H:Hp}{s:Shared}
end
section
variable{X:Cx}
theorem upd_id{H:Hp}{a:Addr}{u:HO}(h:H a=some u):upd H a u=H:=by
 funext b;unfold upd;by_cases hb:b=a
 ·rw[if_pos hb,hb,h]
 ·rw[if_neg hb]
end
section
variable{prog:Program}{w:World}{A:Around}{E:Value->Shared->Prop}{h:Heap}{g:Array GenState}{d:Drawn}{t:Nat}{os:OsState}{K:PySem.W.Frag}
variable{nm qn:Str}{C N x:Addr}{bs bm bmB:List Value}{sn:List Str}{sub:List Value}{ab:Bool}{col:Option Bool}{dd:Option Addr}{k0 k1 k2 k3 k5:Option Value}{B newId sa owner:String}{name:Str}{v:Value}{o:Obj}{vs:Array Value}
end
section
variable{X:Cx}
end
section
variable{P:Program}{w:World}{K:PySem.W.Frag}{mg:Str->Option Value}{base:Heap}
end
section
variable{M:Model}{A:Around}{E:Value->Shared->Prop}{s:Shared}{env:Env}
variable{nm qn:Str}{C N:Addr}{bs bm:List Value}{hdct:Bool}{sn:List Str}{sub:List Value}{ab:Bool}{col:Option Bool}{dd:Option Addr}{k0 k1 k2 k3 k5:Option Value}{newId:String}
end
section
variable{T:Tb}{X:Cx}
end
end L4
namespace L4
open PySem PySem.Spec PySem.Calls PyProof.Rows PySem.Builtin PySem.Builtin.ObjectAttr L2
section
variable{prog:Program}{w:World}{A:Around}{E:Value->Shared->Prop}{s:Shared}{K:PySem.W.Frag}{C ea dN:Addr}{hp:Heap}{n:Nat}{Mo:Model}
end
section
variable{T:Tb}{X:Cx}
end
section
variable{ρ:Ev}{σ:Sto}
end
end L4
namespace HT
open PySem Builtin
open Sem (wp)
end HT
namespace L4
open PySem PySem.Spec PyProof.Rows L2
end L4
namespace L4
open PySem
def Ris(xs:Array Nat):Prop:=∀ i k:Nat,∀ a b:Nat,i<k->xs[i]?=some a->xs[k]?=some b->a<b
def Cut(xs:Array Nat)(j p:Nat):Prop:=p<=xs.size/\(∀ i a:Nat,i<p->xs[i]?=some a->a<j)/\∀ i a:Nat,p<=i->xs[i]?=some a->j<=a
theorem zj7{xs:Array Nat}(hr:Ris xs)(j:Nat):∀ (fuel lo hi:Nat),hi - lo<=fuel->lo<=hi->hi<=xs.size->(∀ i a:Nat,i<lo->xs[i]?=some a->a<j)->(∀ i a:Nat,hi<=i->xs[i]?=some a->j<=a)->Cut xs j (SetTable.below.go xs j fuel lo hi):=by
 intro fuel;induction fuel with
 |zero=>
  intro lo hi h1 h2 h3 h4 h5;have e:lo=hi:=by omega
  subst e;exact⟨h3,h4,h5⟩
 |succ f ih=>
  intro lo hi h1 h2 h3 h4 h5;unfold SetTable.below.go;by_cases hl:lo<hi
  ·rw[if_pos hl];dsimp only;have hm:(lo+hi) / 2<hi:=by omega
   have hm2:lo<=(lo+hi) / 2:=by omega
   have hs:(lo+hi) / 2<xs.size:=by omega
   have eg:xs[(lo+hi) / 2]?=some xs[(lo+hi) / 2]:=Array.getElem?_eq_getElem hs;have ed:xs.getD ((lo+hi) / 2) j=xs[(lo+hi) / 2]:=by simp[Array.getD,hs]
   rw[ed];by_cases hc:xs[(lo+hi) / 2]<j
   ·rw[if_pos hc];refine ih _ _ (by omega) (by omega) h3 (fun i a hi' ea=>?_) h5;by_cases e:i=(lo+hi) / 2
    ·subst e;rw[eg]at ea;cases ea;exact hc
    ·have:=hr i ((lo+hi) / 2) a _ (by omega) ea eg;omega
   ·rw[if_neg hc];refine ih _ _ (by omega) (by omega) (by omega) h4 (fun i a hi' ea=>?_);by_cases e:i=(lo+hi) / 2
    ·subst e;rw[eg]at ea;cases ea;omega
    ·have:=hr ((lo+hi) / 2) i _ a (by omega) eg ea;omega
  ·rw[if_neg hl];have e:lo=hi:=by omega
   subst e;exact⟨h3,h4,h5⟩
theorem zg0{xs:Array Nat}(hr:Ris xs)(j:Nat):Cut xs j (SetTable.below xs j):=by
 unfold SetTable.below;exact zj7 hr j _ _ _ (by omega) (by omega) (Nat.le_refl _) (fun i a h=>by omega) (fun i a h ea=>by
  have:=(Array.getElem?_eq_some_iff.mp ea).1;omega)
theorem zq1{xs:Array Nat}{j p q:Nat}(h1:Cut xs j p)(h2:Cut xs j q):p=q:=by
 rcases Nat.lt_trichotomy p q with h|h|h
 ·have hp:p<xs.size:=Nat.lt_of_lt_of_le h h2.1;have e:xs[p]?=some xs[p]:=Array.getElem?_eq_getElem hp;have a1:=h2.2.1 p _ h e;have a2:=h1.2.2 p _ (Nat.le_refl _) e;omega
 ·exact h
 ·have hq:q<xs.size:=Nat.lt_of_lt_of_le h h1.1;have e:xs[q]?=some xs[q]:=Array.getElem?_eq_getElem hq;have a1:=h1.2.1 q _ h e;have a2:=h2.2.2 q _ (Nat.le_refl _) e;omega
theorem zdn{xs:Array Nat}{p x:Nat}(hp:p<=xs.size)(i:Nat):(SetTable.insertAt xs p x)[i]?=if i<p then xs[i]? else if i=p then some x else xs[i - 1]?:=by
 unfold SetTable.insertAt;have s1:(xs.extract 0 p).size=p:=by simp;omega
 rw[Array.getElem?_append,Array.size_push,s1];by_cases h1:i<p
 ·rw[if_pos (by omega),if_pos h1,Array.getElem?_push,if_neg (by rw[s1];omega),Array.getElem?_extract];simp;omega
 ·rw[if_neg h1];by_cases h2:i=p
  ·subst h2;rw[if_pos (by omega),if_pos rfl,Array.getElem?_push,if_pos (by rw[s1])]
  ·rw[if_neg (by omega),if_neg h2,Array.getElem?_extract];by_cases h3:i - 1<xs.size
   ·rw[if_pos (by omega)];congr 1;omega
   ·rw[if_neg (by omega),Array.getElem?_eq_none (by omega)]
theorem zgg{xs:Array Nat}{p x:Nat}(hr:Ris xs)(hc:Cut xs x p)(hn:¬ xs[p]?=some x):Ris (SetTable.insertAt xs p x):=by
 have ge:∀ i a:Nat,p<=i->xs[i]?=some a->x<a:=fun i a hi ea=>by
  have h1:=hc.2.2 i a hi ea;rcases Nat.lt_or_ge x a with h|h
  ·exact h
  ·have e:a=x:=by omega
   subst e;by_cases hip:i=p
   ·subst hip;exact absurd ea hn
   ·have hl:=(Array.getElem?_eq_some_iff.mp ea).1;have hp:p<xs.size:=by omega
    have e2:xs[p]?=some xs[p]:=Array.getElem?_eq_getElem hp;have:=hr p i _ _ (by omega) e2 ea;have:=hc.2.2 p _ (Nat.le_refl _) e2;omega
 intro i k a b hik ea eb;rw[zdn hc.1]at ea eb;by_cases h1:i<p
 ·rw[if_pos h1]at ea;by_cases h2:k<p
  ·rw[if_pos h2]at eb;exact hr i k a b hik ea eb
  ·rw[if_neg h2]at eb;by_cases h3:k=p
   ·rw[if_pos h3]at eb;cases eb;exact hc.2.1 i a h1 ea
   ·rw[if_neg h3]at eb;exact hr i (k - 1) a b (by omega) ea eb
 ·rw[if_neg h1]at ea;have h2:¬ k<p:=by omega
  rw[if_neg h2,if_neg (by omega)]at eb;by_cases h3:i=p
  ·rw[if_pos h3]at ea;cases ea;exact ge (k - 1) b (by omega) eb
  ·rw[if_neg h3]at ea;exact hr (i - 1) (k - 1) a b (by omega) ea eb
structure TOk(b:Bool)(t:SetTable):Prop where
 led:t.led = !b
 ris:Ris t.place
 dum:t.dummies=#[]
theorem zsu(j:Nat):SetTable.has #[] j=false:=by
 unfold SetTable.has;simp
theorem zwf{b:Bool}{t:SetTable}(h:TOk b t)(j:Nat):t.slot j=.empty/\¬ t.place[SetTable.below t.place j]?=some j\/∃ i,t.slot j=.live i:=by
 unfold SetTable.slot;dsimp only;by_cases e:(t.place[SetTable.below t.place j]? == some j)=true
 ·rw[if_pos e];exact .inr ⟨_,rfl⟩
 ·rw[if_neg e,h.dum,zsu];exact .inl ⟨rfl,by simpa using e⟩
theorem zny{b:Bool}{t:SetTable}(h:TOk b t)(ha:Nat->Int)(hh:Int):∀ (fuel:Nat) (p:SetTable.Probe) (m:SetTable.Met),p.dummy=none->SetTable.probe.go t ha hh fuel p=some m->(∃ j,m=.empty j none/\¬ t.place[SetTable.below t.place j]?=some j)\/∃ j i nx,m=.candidate j i nx:=by
 intro fuel;induction fuel with
 |zero=>intro p m _ e;unfold SetTable.probe.go at e;cases e
 |succ f ih=>
  intro p m hd e;unfold SetTable.probe.go at e;rcases zwf h p.j with⟨es,hn⟩|⟨i,es⟩
  ·rw[es]at e;dsimp only at e;cases e;rw[hd];exact .inl ⟨_,rfl,hn⟩
  ·rw[es]at e;dsimp only at e;by_cases hc:(ha i == hh)=true
   ·rw[if_pos hc]at e;cases e;exact .inr ⟨_,_,_,rfl⟩
   ·rw[if_neg hc]at e;refine ih _ m ?_ e;unfold SetTable.advance;split
    ·exact hd
    ·exact hd
theorem zh1{b:Bool}{t:SetTable}(h:TOk b t){hh:Int}{j:Nat}{wd:Bool}(e:t.freeSlot hh=some (j,wd)):¬ t.place[SetTable.below t.place j]?=some j:=by
 unfold SetTable.freeSlot SetTable.probe at e;cases ep:SetTable.probe.go t (fun _=>hh+1) hh (10 * SetTable.turns t.mask) (t.probeStart hh)with
 |none=>rw[ep]at e;cases e
 |some m=>
  rw[ep]at e;rcases zny h _ _ _ _ m rfl ep with⟨j',rfl,hn⟩|⟨j',i,nx,rfl⟩
  ·cases e;exact hn
  ·cases e
theorem TOk.put{b:Bool}{t:SetTable}(h:TOk b t){j:Nat}(hn:¬ t.place[SetTable.below t.place j]?=some j):TOk b (t.put j).1:=by
 unfold SetTable.put;dsimp only;refine⟨h.led,zgg h.ris (zg0 h.ris j) hn,?_⟩;rw[h.dum,zsu];rfl
theorem TOk.plain{b p:Bool}{t:SetTable}(h:TOk b t):TOk b { t with plain:=p }:=⟨h.led,h.ris,h.dum⟩
theorem zjc(n:Nat):Ris (Array.range n):=by
 intro i k a c hik ea ec;have l1:=(Array.getElem?_eq_some_iff.mp ea).1;have l2:=(Array.getElem?_eq_some_iff.mp ec).1;simp only[Array.size_range]at l1 l2;simp[l1]at ea;simp[l2]at ec;omega
theorem TOk.stand{b:Bool}{t:SetTable}(h:TOk b t)(n:Nat):TOk b (t.standIn n):=⟨h.led,zjc n,rfl⟩
theorem TOk.or{b:Bool}{t:SetTable}(h:TOk b t)(n:Nat):TOk b (t.orStandIn n):=by
 unfold SetTable.orStandIn;split
 ·exact h
 ·exact h.stand n
theorem TOk.lay{b:Bool}{t:SetTable}(h:TOk b t)(es:Array (Int × Value))(hh:Int)(x:Value):TOk b (layNew t es hh x).2.1:=by
 unfold layNew;cases e:t.freeSlot hh with
 |none=>exact h.stand _
 |some q=>
  obtain⟨j,wd⟩:=q;dsimp only;exact(h.put (zh1 h e)).or _
theorem zoe(m:Nat)(f:Nat->Option Nat):Ris ((((List.range m).filterMap fun j=>(f j).map (j,·)).map (·.1)).toArray):=by
 have hp:List.Pairwise (·<·) (((List.range m).filterMap fun j=>(f j).map (j,·)).map (·.1)):=by
  have h1:List.Pairwise (·<·) (List.range m):=List.pairwise_lt_range;have e:((List.range m).filterMap fun j=>(f j).map (j,·)).map (·.1)=(List.range m).filter fun j=>(f j).isSome:=by
   rw[List.map_filterMap];rw[<-List.filterMap_eq_filter];congr 1;funext j;cases hf:f j<;>simp[Option.guard,hf]
  rw[e];exact h1.sublist List.filter_sublist
 intro i k a c hik ea ec;rw[List.getElem?_toArray]at ea ec;obtain⟨l1,e1⟩:=List.getElem?_eq_some_iff.mp ea;obtain⟨l2,e2⟩:=List.getElem?_eq_some_iff.mp ec;rw[<-e1,<-e2];exact List.pairwise_iff_getElem.mp hp i k l1 l2 hik
theorem TOk.relay{b:Bool}{t:SetTable}(h:TOk b t)(es:Array (Int × Value))(wt:Nat):TOk b (relayAll t es wt).2.1:=by
 unfold relayAll;cases e:t.relaid (es.map (·.1)) wt with
 |none=>exact h.stand _
 |some q=>
  obtain⟨t',ord⟩:=q;dsimp only;split
  ·unfold SetTable.relaid SetTable.laid at e;cases eo:SetTable.layClean (SetTable.sizeAbove wt - 1) (es.map (·.1))with
   |none=>rw[eo]at e;cases e
   |some ow=>
    rw[eo]at e;cases e;exact⟨h.led,zoe _ _,rfl⟩
  ·exact h.stand _
theorem TOk.fresh(b:Bool):TOk b (SetTable.fresh 0 0 (!b)):=⟨rfl,fun i k a c _ ea _=>by simp[SetTable.fresh]at ea,rfl⟩
end L4
namespace L4
open PySem PySem.Spec PyProof.Rows
section
variable{prog:Program}{w:World}{K:Type}[DecidableEq K][BEq K][LawfulBEq K]{knd:KeyKind prog w K}{A:Around}{E:Value->Shared->Prop}{s:Shared}{b:Bool}{a:Addr}{k:K}{x:Value}
def yjx(knd:KeyKind prog w K)(b:Bool)(h:Heap)(a:Addr)(S:K->Bool)(n:Nat):Prop:=
 ∃ o es ep t,h.get? a=some o/\o.ExactSet/\o.data=.set es ep t/\ElemsOf knd es.toList/\(∀ k,S k=true ↔ ∃ e∈es.toList,knd.is k e.2=true)/\es.size<scanBound/\t.fits es.size=true/\es.size=n/\TOk b t
theorem ydi{h:Heap}{o:Obj}{es es':Array (Int × Value)}{ep:Nat}{t t':SetTable}{S':K->Bool}(h1:h.get? a=some o)(h2:o.ExactSet)(h3:o.data=.set es ep t)(h4:ElemsOf knd es'.toList)
  (h5:∀ k,S' k=true ↔ ∃ e∈es'.toList,knd.is k e.2=true) (h6:es'.size<scanBound) (h7:t'.fits es'.size=true) (h8:TOk b t') :
  (h.update a (Obj.putSet es' t')).get? a=some { o with data:=.set es' (ep+1) t' }/\yjx knd b (h.update a (Obj.putSet es' t')) a S' es'.size:=by
 obtain⟨g,_⟩:=SetOf_store (knd:=knd) h1 h2 h3 h4 h5 h6 h7;exact⟨g,_,es',ep+1,t',g,h2,rfl,h4,h5,h6,h7,rfl,h8⟩
theorem zp0{g:Bool->Sem Unit}(hg:∀ (c:Bool) (s1:Shared) (Q':Unit->Shared->Prop),Q' () s1->wpAny (model prog w) A (g c) Q' E s1){o:Obj}{es es1:Array (Int × Value)}{ep:Nat}{t t2:SetTable}{S':K->Bool}{wd:Bool}{R:Option Bool->Shared->Prop}
  (h1:s.heap.get? a=some o) (h2:o.ExactSet) (h3:o.data=.set es ep t) (h4:ElemsOf knd es1.toList) (h5:∀ k',S' k'=true ↔ ∃ e∈es1.toList,knd.is k' e.2=true) (h6:es1.size<scanBound) (h7:t2.fits es1.size=true) (h8:TOk b t2)
  (q:∀ h',Heap.SameBut a s.heap h'->yjx knd b h' a S' es1.size->R (some true) { s with heap:=h' }) :
  wpAny (model prog w) A (do
    storeSet a es1 t2
    if (!wd && t2.tooFull)=true then do
      g (relayAll t2 es1 (SetTable.grown es1.size)).2.2
      storeSet a (relayAll t2 es1 (SetTable.grown es1.size)).1 (relayAll t2 es1 (SetTable.grown es1.size)).2.1
      pure (some true)
     else pure (some true)) R E s:=by
 refine wpAny_bind (wpAny_storeSet_of h1 h3 ?_ (fits_of_scanBound h6));obtain⟨g1,T1⟩:=ydi (knd:=knd) h1 h2 h3 h4 h5 h6 h7 h8;have same:=Heap.SameBut.update s.heap a (Obj.putSet es1 t2);split
 ·have p1:=relayAll_perm t2 es1 (SetTable.grown es1.size);have p2:=relayAll_fits t2 es1 (SetTable.grown es1.size);have p3:=h8.relay es1 (SetTable.grown es1.size);generalize relayAll t2 es1 (SetTable.grown es1.size)=Z at p1 p2 p3 ⊢;obtain⟨es2,t3,gv⟩:=Z;dsimp only at p1 p2 p3 ⊢;have z:es2.size=es1.size:=by rw[<-Array.length_toList,p1.length_eq,Array.length_toList]
  refine wpAny_bind (hg _ _ _ (wpAny_bind (wpAny_storeSet_of g1 rfl ?_ (fits_of_scanBound (by rw[z];exact h6)))));obtain⟨_,T2⟩:=ydi (knd:=knd) (S':=S') g1 h2 rfl (h4.perm p1) (fun k'=>(h5 k').trans ⟨fun⟨e,he,y⟩=>⟨e,p1.mem_iff.mpr he,y⟩,fun⟨e,he,y⟩=>⟨e,p1.mem_iff.mp he,y⟩⟩) (by rw[z];exact h6) p2 p3;rw[z]at T2;exact wpAny_pure (q _ (same.trans (Heap.SameBut.update _ a _)) T2)
 ·exact wpAny_pure (q _ same T1)
theorem yeh{S:K->Bool}{n:Nat}{Q:Bool->Shared->Prop}(hk:knd.is k x=true)(hx:x.scannable=true)(hS:yjx knd b s.heap a S n)(hn:n+1<scanBound)
  (q:∀ h',Heap.SameBut a s.heap h'->yjx knd b h' a (fun k'=>S k' || decide (k'=k)) (if S k then n else n+1)->Q (!S k) { s with heap:=h' }):wpAny (model prog w) A (setAddHashed a x (knd.hash k)) Q E s:=by
 obtain⟨o,es,ep,t,h1,h2,h3,h4,h5,h6,h7,h8,h9⟩:=hS;unfold setAddHashed setAddHashedIn;refine wpAny_holding (wpAny_bind (wpAny_setState_of h1 h3 h7 ?_));dsimp only;rw[byScan_of hx h6 h4];simp only[↓reduceIte];unfold setAddByScan;refine wpAny_bind (wpAny_bind (wpAny_rule (wpAny_bind (wpAny_setScan_of hk h1 h3 h7 h4 ?_))));cases hr:List.findIdx? (fun e=>knd.is k e.2) es.toList with
 |some j=>
  dsimp only;obtain⟨hj,pj,_⟩:=List.findIdx?_eq_some_iff_getElem.mp hr;have sk:S k=true:=(h5 k).mpr ⟨es.toList[j],List.getElem_mem hj,pj⟩;refine wpAny_pure (wpAny_pure ?_);have z:=q s.heap (Heap.SameBut.refl a s.heap) ⟨o,es,ep,t,h1,h2,h3,h4,fun k'=>by
   rw[Bool.or_eq_true,decide_eq_true_eq,<-h5 k'];exact⟨fun y=>y.elim id fun e=>e ▸ sk,.inl⟩,h6,h7,by rw[sk];exact h8,h9⟩
  rw[sk]at z;obtain⟨hp,gg,dd,tk,os⟩:=s;exact z
 |none=>
  dsimp only;have sk:S k=false:=by
   cases y:S k with
   |false=>rfl
   |true=>obtain⟨e,he,p⟩:=(h5 k).mp y;have:=List.findIdx?_eq_none_iff.mp hr e he;rw[p]at this;cases this
  have gw:∀ (c:Bool) {s1:Shared} {Q':Unit->Shared->Prop},Q' () s1->wpAny (model prog w) A (match c with|true=>rule "set.scan.the-table-gave-way" | false=>pure ()) Q' E s1:=fun c s1 Q' y=>by
   cases c
   ·exact wpAny_pure y
   ·exact wpAny_rule y
  have p1:=layNew_perm t es (knd.hash k) x;have p2:=layNew_fits t es (knd.hash k) x;have p3:=h9.lay es (knd.hash k) x;generalize layNew t es (knd.hash k) x=Z at p1 p2 p3 ⊢;obtain⟨es1,t1,wd,gv⟩:=Z;dsimp only at p1 p2 p3 ⊢;rw[Array.toList_push]at p1;have c1:ElemsOf knd es1.toList:=(h4.push hk hx).perm p1;have c2:∀ k',(S k' || decide (k'=k))=true ↔ ∃ e∈es1.toList,knd.is k' e.2=true:=mem_push_iff hk h5 p1;have c3:es1.size=n+1:=by rw[<-Array.length_toList,p1.length_eq,List.length_append,Array.length_toList,h8];rfl
  have c4:es1.size<scanBound:=by omega
  have fin:∀ h',Heap.SameBut a s.heap h'->yjx knd b h' a (fun k'=>S k' || decide (k'=k)) es1.size->Q true { s with heap:=h' }:=fun h' y1 y2=>by
   have:=q h' y1;rw[sk]at this;rw[c3]at y2;exact this y2
  refine wpAny_bind (gw _ ?_);split
  ·refine wpAny_bind ?_;rw[hashByValue_scannable 8 hx];refine wpAny_pure (zp0 (b:=b) ?_ h1 h2 h3 c1 c2 c4 ?_ ?_ ?_)
   ·exact fun c s1 Q' y=>gw c y
   ·split
    ·exact p2
    ·exact SetTable.fits_plain_off p2
   ·split
    ·exact p3
    ·exact p3.plain
   ·exact fun h' y1 y2=>wpAny_pure (fin h' y1 y2)
  ·refine wpAny_bind (wpAny_pure ?_);simp only[↓reduceIte];refine zp0 ?_ h1 h2 h3 c1 c2 c4 p2 p3 ?_
   ·exact fun c s1 Q' y=>gw c y
   ·exact fun h' y1 y2=>wpAny_pure (fin h' y1 y2)
end
def bT(w:World):Bool:=w.params.followText "set-order"
section
variable{prog:Program}{w:World}{A:Around}
theorem zo7{b:Bool}{h:Heap}{a:Addr}{S S':Int->Bool}{n n':Nat}(hS:yjx (intKind prog w) b h a S n)(e:∀ k,S k=S' k)(en:n=n'):yjx (intKind prog w) b h a S' n':=by
 obtain rfl:S=S':=funext e;subst en;exact hS
theorem zw3{b:Bool}{h h':Heap}{a:Addr}{S:Int->Bool}{n:Nat}(hS:yjx (intKind prog w) b h a S n)(k:∀ o,h.get? a=some o->h'.get? a=some o):yjx (intKind prog w) b h' a S n:=by
 obtain⟨o,es,ep,t,ho,r⟩:=hS;exact⟨o,es,ep,t,k o ho,r⟩
theorem zjx{R:Result->Shared->Prop}{I:Addr}{fp wr:List Addr}{G:Array GenState->Array GenState->Prop}{n:Nat}{P:Nat->Value->Prop}{St:Nat->Shared->Prop}{b:Bool}(W:WalksS prog w A.in1 I fp wr G n P St)(a:Addr)(ha:a ∉ fp)(f:Nat->Int)(hf:∀ i v,P i v->∃ t,v=.int (f i) t)(hn:n+1<scanBound) :
  ∀ (k i:Nat) (s:Shared),n - i=k->i<=n->St i s->yjx (intKind prog w) b s.heap a (fun y=>(firstMet f i).any (·== y)) (firstMet f i).length->
   (∀ s',Moved (a::wr) G s s'->yjx (intKind prog w) b s'.heap a (fun y=>(firstMet f n).any (·== y)) (firstMet f n).length->R (.ok (.ret .none)) s')->codeAny (model prog w) A (.builtin "set.update.loop" ⟨[.ref a,.ref I],[]⟩) R s:=by
 have aw:a ∉ wr:=fun z=>ha (W.sub _ z);have sub:∀ c∈wr,c∈a::wr:=fun c hc=>List.mem_cons_of_mem _ hc;intro k;induction k with
 |zero=>
  intro i s hk hi st hS q;obtain rfl:i=n:=by omega
  refine codeAny_builtin F.entry_set_update_loop ?_;rw[Around.under_plainId F.plain_set_update_loop _];show wpAny _ A.in1 (pyNext (.ref I) >>= _) _ _ s;refine wpAny_bind (W.done s _ _ st fun s' m=>?_);exact wpAny_pure (q s' (m.mono sub) (zw3 hS fun o e=>m.heap a _ aw e))
 |succ k ih=>
  intro i s hk hi st hS q;have lt:i<n:=by omega
  refine codeAny_builtin F.entry_set_update_loop ?_;rw[Around.under_plainId F.plain_set_update_loop _];show wpAny _ A.in1 (pyNext (.ref I) >>= _) _ _ s;refine wpAny_bind (W.item i s _ _ lt st fun v s' hP st' m=>?_);obtain⟨t,rfl⟩:=hf i v hP;have hS':=zw3 (h':=s'.heap) hS fun o e=>m.heap a _ aw e;show wpAny _ A.in1 (holding [Value.int (f i) t] (setAdd a (.int (f i) t)) >>= _) _ _ s';unfold setAdd;refine wpAny_bind (wpAny_holding (wpAny_holding (wpAny_bind ((intKind prog w).pyHash (k:=f i) (intKind_is _ _ _ _) ?_))));refine yeh (knd:=intKind prog w) (s:={ s' with toks:=s'.toks+1 }) (intKind_is _ _ _ _) rfl hS' (by have:=firstMet_length_le f i;omega) fun h' sb S2=>?_;have S3:yjx (intKind prog w) b h' a (fun y=>(firstMet f (i+1)).any (·== y)) (firstMet f (i+1)).length:=zo7 S2 (fun y=>by rw[firstMet_succ,step_any]) (by rw[firstMet_succ,step_length]);refine wpAny_pure ⟨plainId_quiet F.plain_set_update_loop _,ih (i+1) _ (by omega) lt (W.frame _ s' _ _ st' (Nat.le_succ _) fun c hc o e=>?_) S3 fun s2 m2 T2=>?_⟩
  ·rw[sb.2 c (fun z:c=a=>ha (by rw[<-z];exact hc))];exact e
  ·refine q s2 (Moved.trans W.gtrans ((m.mono sub).then_heap (Nat.le_succ _) fun c o hc e=>?_) m2) T2;rw[sb.2 c (fun z:c=a=>hc (by rw[z];exact List.mem_cons_self))];exact e
variable{E:Value->Shared->Prop}{s:Shared}
theorem zov(x:Value){Q:Value->Shared->Prop}(q:Q (.ref s.heap.objs.size) { s with heap:=s.heap.push { cls:=.type "set",dict:=none,data:=.set #[] 0 (.fresh 0 0 (!bT w)) } }) :
  codeAny (model prog w) A (.call (.builtin "set.__new__") ⟨[.type "set",x],[]⟩) (wants Q E) s:=by
 refine codeAny_of_tree ?_;show wpAny _ A.in1 (do checkBuiltinCall "set.__new__" ⟨[.type "set",x],[]⟩;again (.builtin "set.__new__" ⟨[.type "set",x],[]⟩)) _ _ s;refine wpAny_bind (wpAny_of_eq (PySem.F.newCall_set_1 x) (wpAny_pure ⟨plainId_quiet PySem.F.plain_set_new _,codeAny_builtin PySem.F.entry_set_new ?_⟩));rw[Around.under_plainId PySem.F.plain_set_new _];unfold Builtin.«set.__new__» Builtin.Frozenset.newClass;have sub:=sub_set_self;obtain⟨hp,g,d,tk,os⟩:=s;dsimp only
 wp_walk
 refine wpAny_askSetting (wpAny_pure ?_);dsimp only;simp only[newObj];exact wpAny_bind (wpAny_alloc (wpAny_pure (wpAny_pure q)))
end
section
variable{prog:Program}{w:World}{A:Around}{E:Value->Shared->Prop}{s:Shared}
abbrev zty(w:World):Obj:={ cls:=.type "set",dict:=none,data:=.set #[] 0 (.fresh 0 0 (!bT w)) }
set_option maxHeartbeats 3200000 in
theorem zhd{l:Addr}{items:Array Value}{ns:List Int}{Q:Value->Shared->Prop}(hh:A.handled=none)(hl:s.heap.IsList l items)(hi:IntsAre items.toList ns)(hb:items.size+1<scanBound)
  (q:∀ (h':Heap) (tk:Nat),yjx (intKind prog w) (bT w) h' s.heap.objs.size (fun y=>(firstMet (fun i=>ns.getD i 0) items.size).any (·== y)) (firstMet (fun i=>ns.getD i 0) items.size).length->
   (∀ b o,b<s.heap.objs.size->s.heap.get? b=some o->h'.get? b=some o)->Q (.ref s.heap.objs.size) { s with heap:=h',toks:=tk }) :
  wpAny (model prog w) A (call (.type "set") [.ref l]) Q E s:=by
 obtain⟨c,tl,hmro⟩:=PySem.F.called_set.mro;have f1:=PySem.F.called_set.made;have f2:=PySem.F.called_set.sub;refine wpAny_call (codeAny_of_tree (show wpAny _ _ (callAny (.type "set") _) _ _ _ from wpAny_pure ⟨Code.quiet_builtin _ (by decide +kernel),codeAny_builtin PySem.F.entry_type_call ?_⟩));rw[Around.under_plain (weight_type_call_type "set" [.ref l] []) rfl];have f3:=PySem.F.called_set.notType;have f4:=PySem.F.called_set.canCreate;have f5:=PySem.F.typeCall_set_1 (.ref l);repeat (any_goals (first|assumption|wp_step))
 refine codeAny_mono (zov (.ref l) (E:=E) (Q:=fun ob s1=>ob=.ref s.heap.objs.size/\s1={ s with heap:=s.heap.push (zty w) }) ⟨rfl,rfl⟩) fun r s1 hr=>?_;cases r with
 |error e=>exact hr
 |ok fl=>
  cases fl with
  |ret ob=>
   obtain⟨rfl,rfl⟩:=hr;have gS:(s.heap.push (zty w)).get? s.heap.objs.size=some (zty w):=Heap.get?_push_size _ rfl;have tS:Shared.TypeIs { s with heap:=s.heap.push (zty w) } (.ref s.heap.objs.size) "set":=⟨_,gS,rfl⟩
   have i1:=PySem.F.called_set.init.lookup;have i2:=PySem.F.called_set.init.bind (.ref s.heap.objs.size);repeat (any_goals (first|assumption|wp_step))
   refine codeAny_mono (codeAny_call_builtin (R:=wants (fun r s2=>r=.none/\∃ h' tk,s2={ s with heap:=h',toks:=tk }/\yjx (intKind prog w) (bT w) h' s.heap.objs.size (fun y=>(firstMet (fun i=>ns.getD i 0) items.size).any (·== y)) (firstMet (fun i=>ns.getD i 0) items.size).length/\
     (∀ b o,b<s.heap.objs.size->s.heap.get? b=some o->h'.get? b=some o)) E) PySem.F.called_set.init.plain PySem.F.entry_set_init (check_set_init_1 tS ?_)) fun r2 s2 hr2=>?_
   ·obtain⟨⟨oc,od,odt,osl⟩,gl,hcl,nl,hdl⟩:=hl;simp only at hcl hdl;subst hcl;subst hdl;have gl':(s.heap.push (zty w)).get? l=some { cls:=.type "list",dict:=od,data:=.seq items nl,slots:=osl }:=Heap.get?_push_of_some _ gl;have g1:=PySem.F.sub_list_set;have g2:=PySem.F.sub_list_frozenset;have g3:(Value.type "list" == Value.type "dict")=false:=by decide
    have hl1:(s.heap.push (zty w)).IsList l items:=⟨_,gl',rfl,nl,rfl⟩
    unfold Builtin.«set.__init__» noKeywords Builtin.Frozenset.updateFrom;generalize hPI:pyIter=PI
    wp_walk
    subst hPI;refine wpAny_pyIter_list hl1 (wpAny_bind (wpAny_runValue ?_));have ll:l<s.heap.objs.size:=Heap.lt_size gl;have h3:A.in1.in1.in1.handled=none:=by simp[hh]
    have nI:l≠(s.heap.push (zty w)).objs.size:=by rw[Heap.size_push];exact Nat.ne_of_lt (Nat.lt_succ_of_lt ll)
    have nf:s.heap.objs.size ∉ [(s.heap.push (zty w)).objs.size,l]:=by
     rw[Heap.size_push];simp only[List.mem_cons,List.not_mem_nil,or_false,not_or];exact⟨Nat.ne_of_lt (Nat.lt_succ_self _),Nat.ne_of_gt ll⟩
    refine zjx (b:=bT w) ((Walks.list h3 _ l nI items).toS) s.heap.objs.size nf (fun i=>ns.getD i 0) (fun i v hv=>IntsAre.int_at hi i v (by rw[Array.getElem?_toList];exact hv)) hb (items.size - 0) 0 _ (by omega) (Nat.zero_le _) ⟨⟨_,Heap.get?_push_size _ rfl,rfl,rfl⟩,(hl1.push _)⟩ ?S0 ?RR;case S0=>
     exact⟨zty w,#[],0,_,Heap.get?_push_of_some _ gS,⟨rfl,rfl,rfl⟩,rfl,fun e he=>by simp at he,fun k=>by simp[firstMet_zero],by decide,by rfl,by simp[firstMet_zero],TOk.fresh _⟩
    case RR=>
     intro s' hm hS';obtain⟨h',g',d',tk',os'⟩:=s';obtain rfl:g'=s.gens:=hm.gens;obtain rfl:d'=s.drawn:=hm.drawn;obtain rfl:os'=s.os:=hm.os;refine wpAny_pure (wpAny_pure ⟨rfl,h',tk',rfl,hS',fun b o lt e=>?_⟩);refine hm.heap b o ?_ (Heap.get?_push_of_some _ (Heap.get?_push_of_some _ e));rw[Heap.size_push];simp only[List.mem_cons,List.not_mem_nil,or_false,not_or];exact⟨Nat.ne_of_lt lt,Nat.ne_of_lt (Nat.lt_succ_of_lt lt)⟩
   ·cases r2 with
    |error e=>exact hr2
    |ok fl2=>
     cases fl2 with
     |ret r=>
      obtain⟨rfl,h',tk,rfl,hS',hk'⟩:=hr2;repeat (any_goals (first|assumption|wp_step))
      exact q _ _ hS' hk'
     |_=>exact hr2
  |_=>exact hr
end
theorem zwe:Slot "set_iterator" "__next__" "set_iterator.__next__":=.of (owner:="set_iterator") (n:="__next__") (by rw[typeLookup_type,builtinLookup_eq_fast];kernel_rfl) (by decide +kernel) (by decide +kernel) (by decide +kernel) (.inl (by decide +kernel)) (by rw[isSubtype_type];kernel_rfl)
theorem zrk:entryFor table "set_iterator.__next__" = some Builtin.«set_iterator.__next__»:=entryFor_of_tree (by kernel_rfl)
theorem zp7(a:Value):argsOk "set_iterator.__next__" ⟨[a],[]⟩:=by unfold argsOk;kernel_rfl
theorem zrj:entryFor table "set.__iter__" = some Builtin.«frozenset.__iter__»:=entryFor_alias (id':="frozenset.__iter__") (by kernel_rfl) (by first|rfl|decide +kernel) (by decide +kernel) (by kernel_rfl)
def yea(h:Heap)(a:Addr)(es:Array (Int × Value))(ep:Nat)(t:SetTable):Prop:=∃ o,h.get? a=some o/\o.ExactSet/\o.data=.set es ep t
def yji(h:Heap)(I a:Addr)(first:Value)(i n ep:Nat):Prop:=∃ o,h.get? I=some o/\o.cls=.type "set_iterator"/\o.data=.fields #[first,rawInt i,.ref a,rawInt n,rawInt ep]
section
variable{prog:Program}{w:World}{A:Around}{E:Value->Shared->Prop}{s:Shared}{I a:Addr}{es:Array (Int × Value)}{ep:Nat}{t:SetTable}{i:Nat}
theorem yji.ty{first:Value}{n:Nat}(h:yji s.heap I a first i n ep):s.TypeIs (.ref I) "set_iterator":=let ⟨o,h1,h2,_⟩:=h;⟨o,h1,h2⟩
theorem zit{f:Nat}{Q:Option Value->Shared->Prop}{v:Value}{f':Nat}(hI:yji s.heap I a (rawInt f) i es.size ep)(hS:yea s.heap a es ep t)(hf:t.fits es.size=true)(hne:a≠I)
  (hn:∀ (A:Around) (E:Value->Shared->Prop) (Q:Option (Value × Nat)->Shared->Prop),Q (some (v,f')) s->wpAny (model prog w) A (setNext a f i ep) Q E s)
  (q:∀ h',yji h' I a (rawInt f') (i+1) es.size ep->Heap.SameBut I s.heap h'->Q (some v) { s with heap:=h' }):wpAny (model prog w) A (pyNext (.ref I)) Q E s:=by
 obtain⟨o,ho,hc,hd⟩:=id hI;obtain⟨oS,gS,xS,dS⟩:=id hS;unfold pyNext;refine wpAny_bind (wpAny_attempt (wpAny_callSpecial?_slot (name:=Str.ofString "__next__") hI.ty zwe (wpAny_call_entry zwe hI.ty zrk ?_ (zp7 _))));unfold Builtin.«set_iterator.__next__»;refine wpAny_bind (wpAny_pure ?_);refine wpAny_bind (wpAny_fieldsOf ho hd ?_);dsimp only[rawInt];refine wpAny_bind (wpAny_setEntries_of gS dS hf ?_);rw[if_neg (by simp)];simp only[Int.toNat_natCast];refine wpAny_bind (hn _ _ _ ?_);dsimp only;refine wpAny_bind (wpAny_setField ho hd (by simp) ?_);have g1:=Heap.get?_update_self (Obj.mapFields (·.setIfInBounds 0 (Value.int (f':Int) 0))) ho (Obj.isFreed_of_fields (Obj.data_mapFields hd _));have d1:=Obj.data_mapFields hd (·.setIfInBounds 0 (Value.int (f':Int) 0));refine wpAny_bind (wpAny_setField g1 d1 (by simp) ?_);have g2:=Heap.get?_update_self (Obj.mapFields (·.setIfInBounds 1 (Value.int ((i:Int)+1) 0))) g1 (Obj.isFreed_of_fields (Obj.data_mapFields d1 _));refine wpAny_pure ⟨_,rfl,wpAny_pure (q _ ⟨_,g2,?_,?_⟩ ((Heap.SameBut.update ..).trans (Heap.SameBut.update ..)))⟩
 ·rw[Obj.cls_mapFields,Obj.cls_mapFields];exact hc
 ·rw[Obj.data_mapFields d1];simp[rawInt]
theorem zpa{Q:Option Value->Shared->Prop}{first:Value}{n:Nat}{h1:Heap}(hh:A.handled=none)(sb:Heap.SameBut I s.heap h1)(q:∀ h',Heap.ExtBut I s.heap h'->Q none { s with heap:=h' }) :
  wpAny (model prog w) A.in1 (do let e <-newExc (.type "StopIteration") [];raiseNew e:Sem PySem.Fin) (fun fin s'=>∃ v,fin=Fin.done (Flow.ret v)/\wpAny (model prog w) A (pure (some v)) Q E s')
   (fun e s'=>wpAny (model prog w) A (do let c <-isInstance e (Value.type "StopIteration");if c=true then pure none else throw e) Q E s') { s with heap:=h1 }:=by
 refine wpAny_bind ?_;simp only[newExc,newTuple];refine wpAny_bind (wpAny_newObj_type (wpAny_bind (m:=firstArgMember _ _) (wpAny_of_eq (a:=Value.none) (by first|rfl|(simp only[firstArgMember];rfl)) (wpAny_newObj_type ?_ (by size_fits)))) (by size_fits));simp only[raiseNew];refine wpAny_bind (wpAny_handled ?_);rw[show A.in1.handled=none from hh];refine wpAny_bind (wpAny_pure (wpAny_throw ?_));refine wpAny_bind (wpAny_isInstance (T:="StopIteration") (b:=true) ⟨_,Heap.get?_push_size _ rfl,rfl⟩ isSubtype_stop ?_);exact wpAny_pure (q _ ((sb.extBut.push _).push _))
theorem zkz{f:Nat}{Q:Option Value->Shared->Prop}(hh:A.handled=none)(hI:yji s.heap I a (rawInt f) i es.size ep)(hS:yea s.heap a es ep t)(hf:t.fits es.size=true)
  (hn:∀ (A:Around) (E:Value->Shared->Prop) (Q:Option (Value × Nat)->Shared->Prop),Q none s->wpAny (model prog w) A (setNext a f i ep) Q E s)
  (q:∀ h',Heap.ExtBut I s.heap h'->Q none { s with heap:=h' }):wpAny (model prog w) A (pyNext (.ref I)) Q E s:=by
 obtain⟨o,ho,hc,hd⟩:=id hI;obtain⟨oS,gS,xS,dS⟩:=id hS;unfold pyNext;refine wpAny_bind (wpAny_attempt (wpAny_callSpecial?_slot (name:=Str.ofString "__next__") hI.ty zwe (wpAny_call_entry zwe hI.ty zrk ?_ (zp7 _))));unfold Builtin.«set_iterator.__next__»;refine wpAny_bind (wpAny_pure (wpAny_bind (wpAny_fieldsOf ho hd ?_)));dsimp only[rawInt];refine wpAny_bind (wpAny_setEntries_of gS dS hf ?_);rw[if_neg (by simp)];simp only[Int.toNat_natCast];refine wpAny_bind (hn _ _ _ ?_);dsimp only;refine wpAny_bind (wpAny_setField ho hd (by simp) ?_);exact zpa (first:=.none) (n:=0) hh (Heap.SameBut.update ..) q
end
theorem zfk{α:Type}:∀ (l:List α) (i:Nat) (h:i<l.length),(l[i]::l.eraseIdx i).Perm l
 |x::l,0,_=>.refl _
 |x::l,i+1,h=>by
  have:=zfk l i (by simpa using h);simp only[List.getElem_cons_succ,List.eraseIdx_cons_succ];exact(List.Perm.swap _ _ _).trans (this.cons x)
theorem zu0{α:Type}(nx:Nat->Nat):∀ (fuel k:Nat) (left:List α) (out:Array α),left.length=fuel->∃ ys:List α,(pickOrder.go nx fuel k left out).toList=out.toList++ys/\ys.Perm left
 |0,k,left,out,h=>by
  obtain rfl:=List.length_eq_zero_iff.mp h;exact⟨[],by unfold pickOrder.go;simp,.refl _⟩
 |fuel+1,k,left,out,h=>by
  have hl:nx k % left.length<left.length:=Nat.mod_lt _ (by omega);unfold pickOrder.go;rw[List.getElem?_eq_getElem hl];dsimp only;obtain⟨ys,e,p⟩:=zu0 nx fuel (k+1) (left.eraseIdx (nx k % left.length)) (out.push left[nx k % left.length]) (by rw[List.length_eraseIdx_of_lt hl];omega);refine⟨left[nx k % left.length]::ys,by rw[e];simp,?_⟩;exact(p.cons _).trans (zfk left _ hl)
theorem zi5{α:Type}(nx:Nat->Nat)(xs:Array α):(pickOrder nx xs).toList.Perm xs.toList:=by
 obtain⟨ys,e,p⟩:=zu0 nx xs.size 0 xs.toList #[] (by simp);unfold pickOrder;rw[e];simpa using p
def fB(pl:Array Nat)(i:Nat):Nat:=if i=0 then 0 else pl.getD (i - 1) 0+1
theorem yfc{pl:Array Nat}(hr:Ris pl){i:Nat}(hi:i<=pl.size):SetTable.below pl (fB pl i)=i:=by
 refine zq1 (zg0 hr _) ⟨hi,fun j a hj ea=>?_,fun j a hj ea=>?_⟩
 ·unfold fB;rw[if_neg (by omega)];have hl:i - 1<pl.size:=by omega
  have e1:pl[i - 1]?=some pl[i - 1]:=Array.getElem?_eq_getElem hl;have ed:pl.getD (i - 1) 0=pl[i - 1]:=by simp[Array.getD,hl]
  rw[ed];by_cases e:j=i - 1
  ·subst e;rw[e1]at ea;cases ea;omega
  ·have:=hr j (i - 1) a _ (by omega) ea e1;omega
 ·unfold fB;by_cases h0:i=0
  ·rw[if_pos h0];omega
  ·rw[if_neg h0];have hl:i - 1<pl.size:=by omega
   have e1:pl[i - 1]?=some pl[i - 1]:=Array.getElem?_eq_getElem hl;have ed:pl.getD (i - 1) 0=pl[i - 1]:=by simp[Array.getD,hl]
   rw[ed];have:=hr (i - 1) j _ a (by omega) e1 ea;omega
section
variable{prog:Program}{w:World}{A:Around}{E:Value->Shared->Prop}{s:Shared}{a:Addr}{es:Array (Int × Value)}{ep:Nat}{t:SetTable}{i:Nat}
theorem zg8{Q:Bool->Shared->Prop}(q:Q (bT w) s):wpAny (model prog w) A setsByText Q E s:=by
 unfold setsByText;exact wpAny_bind (wpAny_askSetting (wpAny_pure q))
theorem ygv{Q:Option (Value × Nat)->Shared->Prop}(hb:bT w=true)(hS:yea s.heap a es ep t)(hf:t.fits es.size=true)(q:Q (((pickOrder (w.params.setOrder a ep) es)[i]?).map fun e=>(e.2,0)) s):wpAny (model prog w) A (setNext a 0 i ep) Q E s:=by
 obtain⟨o,g,x,d⟩:=hS;unfold setNext;refine wpAny_bind (wpAny_setState_of g d hf ?_);dsimp only;refine wpAny_bind (zg8 ?_);rw[hb];simp only[if_true,bne_self_eq_false,Bool.false_eq_true,if_false];refine wpAny_bind ?_;unfold setWalk;refine wpAny_bind (wpAny_setState_of g d hf ?_);dsimp only;refine wpAny_bind (zg8 ?_);rw[hb];simp only[if_true];exact wpAny_bind (wpAny_askSetting (wpAny_pure (wpAny_pure q)))
theorem ygw{Q:Option (Value × Nat)->Shared->Prop}(hb:bT w=false)(hT:TOk (bT w) t)(hp:(!t.plain && decide (es.size > 1))=false)(hi:i<=es.size)(hS:yea s.heap a es ep t)(hf:t.fits es.size=true)(q:Q ((es[i]?).map fun e=>(e.2,fB t.place (i+1))) s):wpAny (model prog w) A (setNext a (fB t.place i) i ep) Q E s:=by
 obtain⟨o,g,x,d⟩:=hS;have hz:t.place.size=es.size:=by simp only[SetTable.fits,Bool.and_eq_true,beq_iff_eq]at hf;exact hf.1
 unfold setNext;refine wpAny_bind (wpAny_setState_of g d hf ?_);dsimp only;refine wpAny_bind (zg8 ?_);rw[hb];simp only[Bool.false_eq_true,if_false];refine wpAny_ite_split (fun z=>?_) (fun _=>?_)
 ·have:(!t.plain && decide (es.size > 1))=true:=z;rw[hp]at this;cases this
 ·refine wpAny_bind ?_;refine wpAny_ite_split (fun z=>?_) (fun _=>wpAny_pure ?_)
  ·have:(!t.led && !es.isEmpty)=true:=z;rw[hT.led,hb]at this;cases this
  ·rw[yfc hT.ris (by rw[hz];exact hi)];refine wpAny_pure ?_;by_cases hl:i<es.size
   ·have e1:es[i]?=some es[i]:=Array.getElem?_eq_getElem hl;have hl2:i<t.place.size:=by rw[hz];exact hl
    have e2:t.place[i]?=some t.place[i]:=Array.getElem?_eq_getElem hl2;rw[e1]at q ⊢;rw[e2];have e3:fB t.place (i+1)=t.place[i]+1:=by unfold fB;simp[Array.getD,hl2]
    rw[e3]at q;exact q
   ·have e1:es[i]?=none:=Array.getElem?_eq_none (by omega);rw[e1]at q ⊢;exact q
end
section
variable{prog:Program}{w:World}{A:Around}{E:Value->Shared->Prop}{s:Shared}{I a p:Addr}{es:Array (Int × Value)}{ep:Nat}{t:SetTable}{i:Nat}
theorem zj1{M:Model}{src:Source}{n:Nat}{Q:Nat->Shared->Prop}(hn:n≠0)(q:∀ i,i<n->∀ d',Q i { s with drawn:=d' }):wpAny M A (choose src n) Q E s:=fun Γ ps _=>⟨hn,q _ (Nat.mod_lt _ (Nat.pos_of_ne_zero hn)) _⟩
theorem zhs{M:Model}{α:Type}:∀ (n:Nat) (xs:List α) (s:Shared) (Q:List α->Shared->Prop),xs.length=n->(∀ ys d',ys.Perm xs->Q ys { s with drawn:=d' })->wpAny M A (drawOrder n xs) Q E s
 |0,xs,s,Q,h,q=>by
  obtain rfl:=List.length_eq_zero_iff.mp h;exact wpAny_pure (q [] s.drawn (.refl _))
 |n+1,[],s,Q,h,q=>by cases h
 |n+1,x::xs,s,Q,h,q=>by
  unfold drawOrder;refine wpAny_bind (zj1 (by simp) fun i hi d'=>?_);rw[List.getElem?_eq_getElem hi];dsimp only;refine wpAny_bind (zhs n _ _ _ (by rw[List.length_eraseIdx_of_lt hi];simpa using h) fun ys d2 p=>wpAny_pure ?_);exact q _ d2 ((p.cons _).trans (zfk (x::xs) i hi))
def yef(h:Heap)(p:Addr)(ps:List Nat):Prop:=∃ o n,h.get? p=some o/\o.data=.seq (ps.map fun(i:Nat)=>rawInt i).toArray n
theorem zf6{ps:List Nat}{j:Nat}{v:Int × Value}{Q:Option Value->Shared->Prop}(hI:yji s.heap I a (.ref p) i es.size ep)(hS:yea s.heap a es ep t)(hf:t.fits es.size=true)(hT:yef s.heap p ps)(hj:ps[i]?=some j)(hv:es[j]?=some v)
  (q:∀ h',yji h' I a (.ref p) (i+1) es.size ep->Heap.SameBut I s.heap h'->Q (some v.2) { s with heap:=h' }):wpAny (model prog w) A (pyNext (.ref I)) Q E s:=by
 obtain⟨o,ho,hc,hd⟩:=id hI;obtain⟨oS,gS,xS,dS⟩:=id hS;obtain⟨oT,nT,gT,dT⟩:=hT;unfold pyNext;refine wpAny_bind (wpAny_attempt (wpAny_callSpecial?_slot (name:=Str.ofString "__next__") hI.ty zwe (wpAny_call_entry zwe hI.ty zrk ?_ (zp7 _))));unfold Builtin.«set_iterator.__next__»;refine wpAny_bind (wpAny_pure (wpAny_bind (wpAny_fieldsOf ho hd ?_)));dsimp only[rawInt];refine wpAny_bind (wpAny_setEntries_of gS dS hf ?_);rw[if_neg (by simp)];refine wpAny_bind (wpAny_seqItems gT dT ?_);dsimp only;have e:(ps.map fun(i:Nat)=>rawInt i).toArray[(i:Int).toNat]?=some (.int (j:Int) 0):=by
  rw[Int.toNat_natCast,List.getElem?_toArray,List.getElem?_map,hj];rfl
 rw[e];dsimp only;simp only[Int.toNat_natCast];unfold setNextDrawn;refine wpAny_bind (wpAny_bind (wpAny_setState_of gS dS hf ?_));dsimp only;rw[if_neg (by simp)];rw[hv];refine wpAny_pure (wpAny_bind (wpAny_setField ho hd (by simp) ?_));have g1:=Heap.get?_update_self (Obj.mapFields (·.setIfInBounds 1 (Value.int ((i:Int)+1) 0))) ho (Obj.isFreed_of_fields (Obj.data_mapFields hd _));refine wpAny_pure ⟨_,rfl,wpAny_pure (q _ ⟨_,g1,?_,?_⟩ (Heap.SameBut.update ..))⟩
 ·rw[Obj.cls_mapFields];exact hc
 ·rw[Obj.data_mapFields hd];simp[rawInt]
theorem zhv{ps:List Nat}{Q:Option Value->Shared->Prop}(hh:A.handled=none)(hI:yji s.heap I a (.ref p) i es.size ep)(hS:yea s.heap a es ep t)(hf:t.fits es.size=true)(hT:yef s.heap p ps)(hj:ps[i]?=none)
  (q:∀ h',Heap.ExtBut I s.heap h'->Q none { s with heap:=h' }):wpAny (model prog w) A (pyNext (.ref I)) Q E s:=by
 obtain⟨o,ho,hc,hd⟩:=id hI;obtain⟨oS,gS,xS,dS⟩:=id hS;obtain⟨oT,nT,gT,dT⟩:=hT;unfold pyNext;refine wpAny_bind (wpAny_attempt (wpAny_callSpecial?_slot (name:=Str.ofString "__next__") hI.ty zwe (wpAny_call_entry zwe hI.ty zrk ?_ (zp7 _))));unfold Builtin.«set_iterator.__next__»;refine wpAny_bind (wpAny_pure (wpAny_bind (wpAny_fieldsOf ho hd ?_)));dsimp only[rawInt];refine wpAny_bind (wpAny_setEntries_of gS dS hf ?_);rw[if_neg (by simp)];refine wpAny_bind (wpAny_seqItems gT dT ?_);dsimp only;have e:(ps.map fun(i:Nat)=>rawInt i).toArray[(i:Int).toNat]?=none:=by
  rw[Int.toNat_natCast,List.getElem?_toArray,List.getElem?_map,hj];rfl
 rw[e];dsimp only;refine wpAny_bind (wpAny_setField ho hd (by simp) ?_);have g1:=Heap.get?_update_self (Obj.mapFields (·.setIfInBounds 0 (Value.int 0 0))) ho (Obj.isFreed_of_fields (Obj.data_mapFields hd _));have d1:=Obj.data_mapFields hd (·.setIfInBounds 0 (Value.int 0 0));refine wpAny_bind (wpAny_setField g1 d1 (by simp) ?_);exact zpa (s:=s) (I:=I) (first:=.none) (n:=0) hh ((Heap.SameBut.update ..).trans (Heap.SameBut.update ..)) q
abbrev itO(a:Addr)(first:Value)(n ep:Nat):Obj:={ cls:=.type "set_iterator",data:=.fields #[first,rawInt 0,.ref a,rawInt n,rawInt ep] }
abbrev ynz(ps:List Nat):Obj:={ cls:=.type "tuple",data:=.seq (ps.map fun(i:Nat)=>rawInt i).toArray }
theorem zmj{Q:Value->Shared->Prop}(hS:yea s.heap a es ep t)(hf:t.fits es.size=true)(hz:es.size<scanBound)
  (h1:(!bT w && (!t.plain && decide (es.size > 1)))=false->Q (.ref s.heap.objs.size) { s with heap:=s.heap.push (itO a (rawInt 0) es.size ep) })
  (h2:(!bT w && (!t.plain && decide (es.size > 1)))=true->∀ ps d',ps.Perm (List.range es.size)->Q (.ref (s.heap.objs.size+1)) { s with heap:=(s.heap.push (ynz ps)).push (itO a (.ref s.heap.objs.size) es.size ep),drawn:=d' }) :
  wpAny (model prog w) A (pyIter (.ref a)) Q E s:=by
 obtain⟨o,g,x,d⟩:=id hS;have hT:s.TypeIs (.ref a) "set":=⟨o,g,x.1⟩
 refine wpAny_pyIter_slot hT PySem.F.slot_set_iter (wpAny_call_entry PySem.F.slot_set_iter hT zrj ?_ (PySem.F.args_set_iter_1 _));unfold Builtin.«frozenset.__iter__»;refine wpAny_bind (wpAny_pure ?_);unfold Builtin.Frozenset.sizeOf;refine wpAny_bind (wpAny_bind (wpAny_setEntries_of g d hf (wpAny_pure ?_)));unfold setDrawn;refine wpAny_bind (wpAny_bind (wpAny_setState_of g d hf ?_));dsimp only;refine wpAny_bind (zg8 (wpAny_pure ?_));refine wpAny_ite_split (fun z=>?_) (fun z=>?_)
 ·have zz:(!bT w && (!t.plain && decide (es.size > 1)))=true:=z;refine wpAny_bind (zhs _ _ _ _ (by simp) fun ps d' pm=>?_);have hl:ps.length=es.size:=by rw[pm.length_eq,List.length_range]
  refine wpAny_bind (wpAny_newTuple ?_ (by rw[List.length_map,hl];exact fits_of_scanBound hz));refine wpAny_bind (wpAny_setEpoch_of (Heap.get?_push_of_some _ g) d hf ?_);unfold newFields;refine wpAny_bind (wpAny_newObj_type (wpAny_pure ⟨_,rfl, "set_iterator",_,⟨_,Heap.get?_push_size _ rfl,rfl⟩,zwe.lookup,?_⟩) (by size_fits));have:=h2 zz ps d' pm;rw[<-Heap.size_push s.heap (ynz ps)]at this;exact this
 ·have zz:(!bT w && (!t.plain && decide (es.size > 1)))=false:=by
   cases y:(!bT w && (!t.plain && decide (es.size > 1)))with
   |false=>rfl
   |true=>exact absurd y z
  refine wpAny_bind (wpAny_pure ?_);refine wpAny_bind (wpAny_setEpoch_of g d hf ?_);unfold newFields;refine wpAny_bind (wpAny_newObj_type (wpAny_pure ⟨_,rfl, "set_iterator",_,⟨_,Heap.get?_push_size _ rfl,rfl⟩,zwe.lookup,?_⟩) (by size_fits));exact h1 zz
end
theorem zwc:Slot "set_iterator" "__iter__" "set_iterator.__iter__":=.of (owner:="set_iterator") (n:="__iter__") (by rw[typeLookup_type,builtinLookup_eq_fast];kernel_rfl) (by decide +kernel) (by decide +kernel) (by decide +kernel) (by first|exact .inl (by decide +kernel)|exact .inr (by decide +kernel)) (by rw[isSubtype_type];kernel_rfl)
theorem zky:entryFor table "set_iterator.__iter__" = some Builtin.«dict_keyiterator.__iter__»:=entryFor_alias (id':="dict_keyiterator.__iter__") (by kernel_rfl) (by first|rfl|decide +kernel) (by decide +kernel) (by kernel_rfl)
theorem zj6(a:Value):argsOk "set_iterator.__iter__" ⟨[a],[]⟩:=by unfold argsOk;kernel_rfl
section
variable{prog:Program}{w:World}{A:Around}{I a p:Addr}{es:Array (Int × Value)}{ep:Nat}{t:SetTable}
theorem zs3{E:Value->Shared->Prop}{s:Shared}{first:Value}{i n:Nat}{Q:Value->Shared->Prop}(h:yji s.heap I a first i n ep)(q:Q (.ref I) s):wpAny (model prog w) A (pyIter (.ref I)) Q E s:=by
 refine wpAny_pyIter_slot h.ty zwc (wpAny_call_entry zwc h.ty zky ?_ (zj6 _));show wpAny _ _ (PySem.ret (Value.ref I)) _ _ s;exact wpAny_pure ⟨_,rfl, "set_iterator",_,h.ty,zwe.lookup,q⟩
theorem yji.keep{h h':Heap}{first:Value}{i n:Nat}(x:yji h I a first i n ep)(k:∀ o,h.get? I=some o->h'.get? I=some o):yji h' I a first i n ep:=let ⟨o,e,r⟩:=x;⟨o,k o e,r⟩
theorem yea.keep{h h':Heap}(x:yea h a es ep t)(k:∀ o,h.get? a=some o->h'.get? a=some o):yea h' a es ep t:=let ⟨o,e,r⟩:=x;⟨o,k o e,r⟩
theorem yef.keep{h h':Heap}{ps:List Nat}(x:yef h p ps)(k:∀ o,h.get? p=some o->h'.get? p=some o):yef h' p ps:=let ⟨o,n,e,r⟩:=x;⟨o,n,k o e,r⟩
theorem zgw{f:Nat->Nat}{ord:List (Int × Value)}(hh:A.handled=none)(hf:t.fits es.size=true)(hne:a≠I)(hl:ord.length=es.size)
  (hn:∀ (s:Shared) (i:Nat),yea s.heap a es ep t->i<=es.size->∀ (A:Around) (E:Value->Shared->Prop) (Q:Option (Value × Nat)->Shared->Prop),Q ((ord[i]?).map fun e=>(e.2,f (i+1))) s->wpAny (model prog w) A (setNext a (f i) i ep) Q E s) :
  Walks prog w A I [I,a] [I] es.size (fun i v=>(ord[i]?).map (·.2)=some v) (fun i h=>yji h I a (rawInt (f i)) i es.size ep/\yea h a es ep t) where
 sub:=fun b hb=>by simp at hb;simp[hb]
 frame:=fun _ _ _ st hk=>⟨st.1.keep fun o e=>hk I (by simp) o e,st.2.keep fun o e=>hk a (by simp) o e⟩
 item:=fun i s Q E hi st hQ=>by
  have hi':i<ord.length:=by rw[hl];exact hi
  have eo:ord[i]?=some ord[i]:=List.getElem?_eq_getElem hi';refine zit st.1 st.2 hf hne (v:=ord[i].2) (f':=f (i+1)) (fun A' E' Q' q'=>hn s i st.2 (Nat.le_of_lt hi) A' E' Q' (by rw[eo];exact q')) fun h' hI sb=>?_;exact hQ _ h' s.toks (by rw[eo];rfl) ⟨hI,st.2.keep fun o e=>by rw[sb.2 a hne];exact e⟩ fun b o hb e=>by rw[sb.2 b (fun z=>hb (by simp[z]))];exact e
 done:=fun s Q E st hQ=>by
  have eo:ord[es.size]?=none:=by rw[<-hl];simp
  exact zkz hh st.1 st.2 hf (fun A' E' Q' q'=>hn s es.size st.2 (Nat.le_refl _) A' E' Q' (by rw[eo];exact q')) fun h' he=>hQ h' s.toks fun b o hb e=>he b o (fun z=>hb (by simp[z])) e
 self:=fun _ _ _ _ st hQ=>zs3 st.1 hQ
theorem zgv{ps:List Nat}(hh:A.handled=none)(hf:t.fits es.size=true)(hne:a≠I)(hpe:p≠I)(hp:ps.Perm (List.range es.size)) :
  Walks prog w A I [I,a,p] [I] es.size (fun i v=>((ps[i]?).bind fun j=>es[j]?).map (·.2)=some v) (fun i h=>(yji h I a (.ref p) i es.size ep/\yea h a es ep t)/\yef h p ps) where
 sub:=fun b hb=>by simp at hb;simp[hb]
 frame:=fun _ _ _ st hk=>⟨⟨st.1.1.keep fun o e=>hk I (by simp) o e,st.1.2.keep fun o e=>hk a (by simp) o e⟩,st.2.keep fun o e=>hk p (by simp) o e⟩
 item:=fun i s Q E hi st hQ=>by
  have hl:ps.length=es.size:=by rw[hp.length_eq,List.length_range]
  have hi':i<ps.length:=by rw[hl];exact hi
  have eo:ps[i]?=some ps[i]:=List.getElem?_eq_getElem hi';have hj:ps[i]<es.size:=List.mem_range.mp (hp.mem_iff.mp (List.getElem_mem hi'));have ee:es[ps[i]]?=some es[ps[i]]:=Array.getElem?_eq_getElem hj;refine zf6 st.1.1 st.1.2 hf st.2 eo ee fun h' hI sb=>?_;exact hQ _ h' s.toks (by rw[eo,Option.bind_some,ee];rfl) ⟨⟨hI,st.1.2.keep fun o e=>by rw[sb.2 a hne];exact e⟩,st.2.keep fun o e=>by rw[sb.2 p hpe];exact e⟩ fun b o hb e=>by rw[sb.2 b (fun z=>hb (by simp[z]))];exact e
 done:=fun s Q E st hQ=>by
  have hl:ps.length=es.size:=by rw[hp.length_eq,List.length_range]
  have eo:ps[es.size]?=none:=by rw[<-hl];simp
  exact zhv hh st.1.1 st.1.2 hf st.2 eo fun h' he=>hQ h' s.toks fun b o hb e=>he b o (fun z=>hb (by simp[z])) e
 self:=fun _ _ _ _ st hQ=>zs3 st.1.1 hQ
theorem zmb{E:Value->Shared->Prop}{s:Shared}{Q:Bool->Shared->Prop}(hT:s.TypeIs (.ref a) "set")(h:Q false s):wpAny (model prog w) A (Builtin.List.listLengthHint (.ref a)) Q E s:=by
 unfold Builtin.List.listLengthHint;refine wpAny_bind (wpAny_specialOf hT PySem.F.slot_set_len.lookup ?_);generalize hid:("set.__len__" : String)=id0
 wp_delta
 rw[show splitId id0=some ("set", "__len__")from by subst hid;decide +kernel];subst hid;refine wpAny_bind (wpAny_isInstance (T:="set") (b:=true) hT (by rw[isSubtype_type];kernel_rfl) ?_);refine wpAny_ite_split (fun hab=>absurd hab (by decide)) (fun _=>?_);refine wpAny_ite_split (fun _=>?_) (fun hab=>absurd (by decide +kernel) hab);exact wpAny_bind (wpAny_typeOf hT (wpAny_pure h))
end
end L4
namespace L4
open PySem PySem.Spec PySem.Calls PySem.W PyProof.Rows PyProof.V
section
variable{prog:Program}{w:World}{A:Around}{E:Value->Shared->Prop}{s:Shared}{a:Addr}{es:Array (Int × Value)}{ep:Nat}{t:SetTable}
theorem zoc{cc:Bool}{I S:Addr}{fp:List Addr}{n c0:Nat}{P:Nat->Value->Prop}{St:Nat->Heap->Prop}{R:Result->Shared->Prop}{res:Value}(W:Walks prog w A.in1 I fp [I] n P St)(hn:n<=sizeLine)(hSf:S ∉ fp)(hT:s.TypeIs (.ref a) "set")(st:St 0 s.heap)
  (hS:s.heap.get? S=some { cls:=.type "list",data:=.seq #[] c0 })
  (hR:∀ h' tk acc c,(∀ b o,b≠S->b≠I->s.heap.get? b=some o->h'.get? b=some o)->h'.get? S=some { cls:=.type "list",dict:=none,data:=.seq acc c,slots:=#[] }->ItemsOf P acc n->R (.ok (.ret res)) { s with heap:=h',toks:=tk }) :
  wpAny (model prog w) A.in1 (do
    let room <-holding [Value.ref I] (Builtin.List.listLengthHint (.ref a))
    if (room || cc)=true then do
     rule "list.extend.makes-room"
     Builtin.List.listTouch (.ref S)
     again (.builtin "list.extend.loop" ⟨[.ref S,.ref I,res],[]⟩)
    else again (.builtin "list.extend.loop" ⟨[.ref S,.ref I,res],[]⟩))
   (fun fin s'=>match fin with | .done f=>R (.ok f) s' | .again c'=>c'.quiet=true/\codeAny (model prog w) A c' R s') (fun e s'=>R (.error e) s') s:=by
 have key:∀ (h:Heap) (c1 tk:Nat),St 0 h->(∀ b o,b≠S->s.heap.get? b=some o->h.get? b=some o)->h.get? S=some { cls:=.type "list",data:=.seq #[] c1 }->codeAny (model prog w) A (.builtin "list.extend.loop" ⟨[.ref S,.ref I,res],[]⟩) R { s with heap:=h,toks:=tk }:=by
  intro h c1 tk hst hk gS;refine codeAny_extend_loopS W.toS hn S hSf res n 0 _ #[] c1 rfl (Nat.zero_le _) hst gS (ItemsOf.nil _) fun s' acc c hm g' ha=>?_;rw[Moved.eq_with hm];refine hR s'.heap s'.toks acc c (fun b o hb hI e=>hm.heap b o (fun z=>?_) (hk b o hb e)) g' ha;rcases List.mem_cons.mp z with z|z
  ·exact hb z
  ·exact hI (List.mem_singleton.mp z)
 refine wpAny_bind (wpAny_holding (zmb hT ?_));refine wpAny_ite_split (fun _=>?_) (fun _=>wpAny_pure ⟨plainId_quiet PySem.F.plain_extend_loop _,key _ c0 _ st (fun b o _ e=>e) hS⟩);refine wpAny_bind (wpAny_rule (wpAny_bind ?_));show wpAny _ _ (updateSeq S (·.push .none) >>= fun _=>updateSeq S (·.pop)) _ _ _;refine wpAny_bind (wpAny_updateSeq hS rfl ?_);have g2:=Heap.get?_update_self (Obj.mapSeq (·.push Value.none)) hS rfl;refine wpAny_updateSeq (hz:=by seq_fits) g2 rfl ?_;have g3:=Heap.get?_update_self (Obj.mapSeq (·.pop)) g2 rfl;have oth:∀ b o,b≠S->s.heap.get? b=some o->((s.heap.update S (Obj.mapSeq (·.push Value.none))).update S (Obj.mapSeq (·.pop))).get? b=some o:=fun b o hb e=>(Heap.get?_update_other _ _ (Ne.symm hb)).trans ((Heap.get?_update_other _ _ (Ne.symm hb)).trans e);exact wpAny_pure ⟨plainId_quiet PySem.F.plain_extend_loop _,key _ _ _ (W.frame 0 _ _ st fun b hb o e=>oth b o (fun z=>hSf (z ▸ hb)) e) (fun b o hb e=>oth b o hb e) g3⟩
theorem zlq{α β:Type}{f:α->Option β}{g:α->β}:∀ {l:List α},(∀ j∈l,f j=some (g j))->l.filterMap f=l.map g
 |[],_=>rfl
 |x::l,h=>by rw[List.filterMap_cons,h x List.mem_cons_self,List.map_cons,zlq fun j hj=>h j (List.mem_cons_of_mem _ hj)]
theorem zic{acc:Array Value}{ord:List (Int × Value)}{n:Nat}(hl:ord.length=n)(h:ItemsOf (fun i v=>(ord[i]?).map (·.2)=some v) acc n):acc.toList=ord.map (·.2):=by
 apply List.ext_getElem?;intro i;rw[Array.getElem?_toList,List.getElem?_map];cases e:acc[i]? with
 |none=>
  have:n<=i:=by have:=Array.getElem?_eq_none_iff.mp e;rw[h.1]at this;exact this
  rw[List.getElem?_eq_none (by omega)];rfl
 |some v=>exact(h.2 i v e).symm
theorem zgd(es:Array (Int × Value)):(List.range es.size).filterMap (fun j=>(es[j]?).map (·.2))=es.toList.map (·.2):=by
 apply List.ext_getElem?;intro i;have e:(List.range es.size).filterMap (fun j=>(es[j]?).map (·.2))=(List.range es.size).map (fun j=>((es[j]?).map (·.2)).getD .none):=by
  refine zlq fun j hj=>?_;have:=List.mem_range.mp hj;simp[this]
 rw[e,List.getElem?_map,List.getElem?_map];by_cases hi:i<es.size
 ·simp[hi]
 ·simp[hi]
theorem zek{acc:Array Value}{ps:List Nat}(hp:ps.Perm (List.range es.size))(h:ItemsOf (fun i v=>((ps[i]?).bind fun j=>es[j]?).map (·.2)=some v) acc es.size):acc.toList.Perm (es.toList.map (·.2)):=by
 have hl:ps.length=es.size:=by rw[hp.length_eq,List.length_range]
 have e:acc.toList=ps.filterMap (fun j=>(es[j]?).map (·.2)):=by
  have e2:ps.filterMap (fun j=>(es[j]?).map (·.2))=ps.map (fun j=>((es[j]?).map (·.2)).getD .none):=by
   refine zlq fun j hj=>?_;have:=List.mem_range.mp (hp.mem_iff.mp hj);simp[this]
  rw[e2];apply List.ext_getElem?;intro i;rw[Array.getElem?_toList,List.getElem?_map];cases ea:acc[i]? with
  |none=>
   have:es.size<=i:=by have:=Array.getElem?_eq_none_iff.mp ea;rw[h.1]at this;exact this
   rw[List.getElem?_eq_none (by omega)];rfl
  |some v=>
   have this:((ps[i]?).bind fun j=>es[j]?).map (·.2)=some v:=h.2 i v ea;cases ej:ps[i]? with
   |none=>rw[ej]at this;cases this
   |some j=>rw[ej]at this;simp only[Option.bind_some]at this;rw[Option.map_some,this];rfl
 rw[e,<-zgd];exact hp.filterMap _
theorem zed{R:List Value->Shared->Prop}(hh:A.handled=none)(hA:yea s.heap a es ep t)(hf:t.fits es.size=true)(hk:TOk (bT w) t)(hz:es.size<scanBound)
  (fin:∀ h' tk d' (acc:Array Value),(∀ b o,s.heap.get? b=some o->h'.get? b=some o)->s.heap.objs.size<=h'.objs.size->acc.toList.Perm (es.toList.map (·.2))->R acc.toList { s with heap:=h',toks:=tk,drawn:=d' }) :
  wpAny (model prog w) A (collect (.ref a)) R E s:=by
 have hn:es.size<=sizeLine:=fits_of_scanBound hz;have la:a<s.heap.objs.size:=let ⟨_,g,_⟩:=hA;Heap.lt_size g;let S:Addr:=s.heap.objs.size;let Z:Result->Shared->Prop:=fun q s'=>∃ (h':Heap) (tk:Nat) (d':Drawn) (acc:Array Value) (c:Nat),q=.ok (.ret (.ref S))/\s'={ s with heap:=h',toks:=tk,drawn:=d' }/\(∀ b o,s.heap.get? b=some o->h'.get? b=some o)/\
  h'.get? S=some { cls:=.type "list",dict:=none,data:=.seq acc c,slots:=#[] }/\acc.toList.Perm (es.toList.map (·.2))
 let s1:Shared:={ s with heap:=s.heap.push { cls:=.type "list",data:=.seq ([]:List Value).toArray } }
 have g0:s1.heap.get? S=some { cls:=.type "list",data:=.seq #[] }:=Heap.get?_push_size _ rfl;have hA1:yea s1.heap a es ep t:=hA.keep fun o e=>Heap.get?_push_of_some _ e;have z1:s1.heap.objs.size=S+1:=Heap.size_push ..;have run:wpAny (model prog w) A.in1 (Builtin.List.listExtendWith (.ref S) (.ref a) (.ref S)) (fun fin s'=>match fin with | .done f=>Z (.ok f) s' | .again c'=>c'.quiet=true/\codeAny (model prog w) A c' Z s') (fun e s'=>Z (.error e) s') s1:=by
  have hT1:s1.TypeIs (.ref a) "set":=let ⟨o,g,x,_⟩:=hA1;⟨o,g,x.1⟩;unfold Builtin.List.listExtendWith;refine wpAny_bind (wpAny_typeOf (T:="set") hT1 ?_);have ns:Builtin.List.listSameRef (.ref S) (.ref a)=false:=by simp only[Builtin.List.listSameRef,beq_eq_false_iff_ne];exact Nat.ne_of_gt la
  have n1:(Value.type "set" == Value.type "list")=false:=by decide
  have n2:(Value.type "set" == Value.type "tuple")=false:=by decide
  simp only[ns,n1,n2,Bool.or_false,Bool.false_eq_true,if_false];refine wpAny_bind (zmj hA1 hf hz (fun hc=>?_) (fun hc ps d' hp=>?_))
  ·have hI:yji (s1.heap.push (itO a (rawInt 0) es.size ep)) s1.heap.objs.size a (rawInt 0) 0 es.size ep:=⟨_,Heap.get?_push_size _ rfl,rfl,rfl⟩
   have hA2:yea (s1.heap.push (itO a (rawInt 0) es.size ep)) a es ep t:=hA1.keep fun o e=>Heap.get?_push_of_some _ e;have hT2:Shared.TypeIs { s1 with heap:=s1.heap.push (itO a (rawInt 0) es.size ep) } (.ref a) "set":=let ⟨o,g,x,_⟩:=hA2;⟨o,g,x.1⟩;have hne:a≠s1.heap.objs.size:=by rw[z1];exact Nat.ne_of_lt (Nat.lt_succ_of_lt la)
   have hSf:S ∉ [s1.heap.objs.size,a]:=by rw[z1];simp only[List.mem_cons,List.not_mem_nil,or_false,not_or];exact⟨Nat.ne_of_lt (Nat.lt_succ_self _),Nat.ne_of_gt la⟩
   have out:∀ (ord:List (Int × Value)),ord.length=es.size->ord.Perm es.toList->∀ h' tk acc c,(∀ b o,b≠S->b≠s1.heap.objs.size->(s1.heap.push (itO a (rawInt 0) es.size ep)).get? b=some o->h'.get? b=some o)->h'.get? S=some { cls:=.type "list",dict:=none,data:=.seq acc c,slots:=#[] }->
     ItemsOf (fun i v=>(ord[i]?).map (·.2)=some v) acc es.size->Z (.ok (.ret (.ref S))) { s1 with heap:=h',toks:=tk }:=fun ord hl hp h' tk acc c k g it=>⟨h',tk,s.drawn,acc,c,rfl,rfl,fun b o e=>by
      have lb:=Heap.lt_size e;exact k b o (Nat.ne_of_lt lb) (by rw[z1];exact Nat.ne_of_lt (Nat.lt_succ_of_lt lb)) (Heap.get?_push_of_some _ (Heap.get?_push_of_some _ e)),g,by rw[zic hl it];exact hp.map _⟩
   cases hb:bT w with
   |true=>
    have hl:(pickOrder (w.params.setOrder a ep) es).toList.length=es.size:=by rw[(zi5 _ _).length_eq,Array.length_toList]
    exact zoc (zgw (f:=fun _=>0) (ord:=(pickOrder (w.params.setOrder a ep) es).toList) hh hf hne hl fun s' i hS' _ A' E' Q' q'=>ygv hb hS' hf (by rw[<-Array.getElem?_toList];exact q')) hn hSf hT2 ⟨hI,hA2⟩ (Heap.get?_push_of_some _ g0) (out _ hl (zi5 _ _))
   |false=>
    have hp:(!t.plain && decide (es.size > 1))=false:=by rw[hb]at hc;simpa using hc
    have hl:es.toList.length=es.size:=Array.length_toList;exact zoc (zgw (f:=fB t.place) (ord:=es.toList) hh hf hne hl fun s' i hS' hi A' E' Q' q'=>ygw hb hk hp hi hS' hf (by rw[<-Array.getElem?_toList];exact q')) hn hSf hT2 ⟨hI,hA2⟩ (Heap.get?_push_of_some _ g0) (out _ hl (.refl _))
  ·let h2:Heap:=(s1.heap.push (ynz ps)).push (itO a (.ref s1.heap.objs.size) es.size ep);have k2:∀ b o,s1.heap.get? b=some o->h2.get? b=some o:=fun b o e=>Heap.get?_push_of_some _ (Heap.get?_push_of_some _ e);have z2:(s1.heap.push (ynz ps)).objs.size=s1.heap.objs.size+1:=Heap.size_push ..;have hI:yji h2 (s1.heap.objs.size+1) a (.ref s1.heap.objs.size) 0 es.size ep:=⟨_,by rw[<-z2];exact Heap.get?_push_size _ rfl,rfl,rfl⟩
   have hA2:yea h2 a es ep t:=hA1.keep fun o e=>k2 a o e;have hTp:yef h2 s1.heap.objs.size ps:=⟨_,_,Heap.get?_push_of_some _ (Heap.get?_push_size _ rfl),rfl⟩
   have hT2:Shared.TypeIs { s1 with heap:=h2,drawn:=d' } (.ref a) "set":=let ⟨o,g,x,_⟩:=hA2;⟨o,g,x.1⟩;refine zoc (s:={ s1 with heap:=h2,drawn:=d' }) (zgv (p:=s1.heap.objs.size) hh hf (by rw[z1];exact Nat.ne_of_lt (Nat.lt_succ_of_lt (Nat.lt_succ_of_lt la))) (Nat.ne_of_lt (Nat.lt_succ_self _)) hp) hn (by rw[z1];simp only[List.mem_cons,List.not_mem_nil,or_false,not_or];exact⟨Nat.ne_of_lt (Nat.lt_succ_of_lt (Nat.lt_succ_self _)),Nat.ne_of_gt la,Nat.ne_of_lt (Nat.lt_succ_self _)⟩) hT2 ⟨⟨hI,hA2⟩,hTp⟩ (k2 _ _ g0) fun h' tk acc c k g it=>⟨h',tk,d',acc,c,rfl,rfl,fun b o e=>?_,g,zek hp it⟩
   have lb:=Heap.lt_size e;exact k b o (Nat.ne_of_lt lb) (by rw[z1];exact Nat.ne_of_lt (Nat.lt_succ_of_lt (Nat.lt_succ_of_lt lb))) (k2 b o (Heap.get?_push_of_some _ e))
 have close:∀ {h':Heap} {tk c:Nat} {d':Drawn} {acc:Array Value},(∀ b o,s.heap.get? b=some o->h'.get? b=some o)->h'.get? S=some { cls:=.type "list",dict:=none,data:=.seq acc c,slots:=#[] }->acc.toList.Perm (es.toList.map (·.2))->R acc.toList { s with heap:=h',toks:=tk,drawn:=d' }:=fun kp g it=>fin _ _ _ _ kp (Nat.le_of_lt (Heap.lt_size g)) it;unfold collect;refine wpAny_bind (wpAny_runValue (codeAny_builtin entry_proto_collect' ?_));rw[Around.under_plainId PySem.F.plain_proto_collect _];show wpAny _ A.in1 (newList [] >>= fun l=>again (.builtin "list.__iadd__" ⟨[l,.ref a],[]⟩)) _ _ s;refine wpAny_bind (wpAny_newObj_type (wpAny_pure ⟨plainId_quiet PySem.F.plain_list_iadd _,codeAny_builtin entry_list_iadd' ?_⟩));rw[Around.under_plainId PySem.F.plain_list_iadd _];show wpAny _ A.in1 (Builtin.List.listExtendWith (.ref S) (.ref a) (.ref S)) _ _ _;refine wpAny_mono run (fun f s' x=>?_) (fun e s' x=>by obtain⟨_,_,_,_,_,z,_⟩:=x;cases z);cases f with
 |done f=>
  obtain⟨h',tk,d',acc,c,e,rfl,kp,g,it⟩:=x;cases e;exact wpAny_bind (wpAny_load g (wpAny_pure (close kp g it)))
 |again c1=>
  refine⟨x.1,codeAny_mono x.2 fun q s2 y=>?_⟩;obtain⟨h',tk,d',acc,c,rfl,rfl,kp,g,it⟩:=y;exact wpAny_bind (wpAny_load g (wpAny_pure (close kp g it)))
end
end L4
namespace L4
open PySem PySem.Spec PyProof.Rows L2
theorem zhr(ns:List Int):(ddp ns).Nodup:=by
 unfold ddp;have h:∀ (l acc:List Int),acc.Nodup->(l.foldl step_dedup acc).Nodup:=by
  intro l;induction l with
  |nil=>intro acc h;exact h
  |cons x l ih=>
   intro acc h;rw[List.foldl_cons];refine ih _ ?_;unfold step_dedup;split
   ·exact h
   ·rename_i hx
    rw[List.nodup_append];refine⟨h,by simp,fun a ha b hb=>?_⟩;rw[List.mem_singleton]at hb;intro e;subst e;subst hb;exact hx (List.any_eq_true.mpr ⟨_,ha,by simp⟩)
 exact h ns [] List.nodup_nil
theorem zux{α:Type}[DecidableEq α]:∀ {l1 l2:List α},l1.Nodup->(∀ x∈l1,x∈l2)->l2.length<=l1.length->l1.Perm l2
 |[],l2,_,_,h=>by
  have:l2=[]:=List.length_eq_zero_iff.mp (Nat.le_zero.mp h);subst this;exact .refl _
 |x::l1,l2,hn,hs,hl=>by
  rw[List.nodup_cons]at hn;have hx:=hs x List.mem_cons_self;have p:=List.perm_cons_erase hx;have ih:=zux (l1:=l1) (l2:=l2.erase x) hn.2 (fun y hy=>(List.mem_erase_of_ne (show y≠x from fun e=>hn.1 (by rw[<-e];exact hy))).mpr (hs y (List.mem_cons_of_mem _ hy))) (by rw[List.length_erase_of_mem hx];simp at hl;omega);exact(ih.cons x).trans p.symm
theorem zs2:∀ {prog:Program} {w:World} {l:List (Int × Value)},ElemsOf (intKind prog w) l->∃ is,IntsAre (l.map (·.2)) is/\is.length=l.length/\∀ k,k∈is ↔ ∃ e∈l,(intKind prog w).is k e.2=true
 |prog,w,[],_=>⟨[],.nil,rfl,fun k=>by simp⟩
 |prog,w,e::l,h=>by
  obtain⟨is,h1,h2,h3⟩:=zs2 (fun x hx=>h x (.tail _ hx):ElemsOf (intKind prog w) l);obtain⟨⟨k,hk,_⟩,_⟩:=h e (.head _);have hk0:=hk;obtain⟨t,et⟩:=Value.isInt_shape hk;refine⟨k::is,by rw[List.map_cons,et];exact .cons k t h1,by simp[h2],fun k'=>?_⟩;rw[List.mem_cons,h3 k'];constructor
  ·rintro (rfl|⟨x,hx,q⟩)
   ·exact⟨e,.head _,hk0⟩
   ·exact⟨x,.tail _ hx,q⟩
  ·rintro ⟨x,hx,q⟩;rcases List.mem_cons.mp hx with rfl|hx
   ·exact .inl ((intKind prog w).inj _ _ _ q hk0)
   ·exact .inr ⟨x,hx,q⟩
theorem zh7{l l':List Value}(p:l'.Perm l):∀ {is:List Int},IntsAre l is->∃ is',IntsAre l' is'/\is'.Perm is:=by
 induction p with
 |nil=>intro is h;exact⟨is,h,.refl _⟩
 |cons x p ih=>
  intro is h;cases h with
  |cons n t h=>obtain⟨is',h1,h2⟩:=ih h;exact⟨n::is',.cons n t h1,h2.cons n⟩
 |swap x y l=>
  intro is h;cases h with
  |cons n t h=>
   cases h with
   |cons m u h=>exact⟨m::n::_,.cons m u (.cons n t h),.swap _ _ _⟩
 |trans p1 p2 ih1 ih2=>
  intro is h;obtain⟨is2,h1,h2⟩:=ih2 h;obtain⟨is3,h3,h4⟩:=ih1 h1;exact⟨is3,h3,h4.trans h2⟩
def StH(P:Program)(w:World)(ns:List Int)(a:Addr):Heap->Prop:=fun h=>yjx (intKind P w) (bT w) h a (fun k=>(ddp ns).any (·== k)) (ddp ns).length
theorem zo9{P:Program}{w:World}{ns:List Int}{a:Addr}:∀ h1 h2:Heap,StH P w ns a h1->(∀ u,h1.get? a=some u->h2.get? a=some u)->StH P w ns a h2:=fun h1 h2 x k=>zw3 x k
section
variable{T:Tb}{X:Cx}
def yh3(X:Cx):List V->Hp->VK->Prop:=fun xs H Q=>∃ (p:Addr) (ns:List Int),xs=[.ref p]/\SqL X.K H p (ns.map V.int)/\ns.length<64/\∀ l,H l=none->Q (.ref l) (upd H l (.ext (StH X.prog X.w ns l)))
theorem zhc(hc:X.calm=true):yd2 X (.type "set") (yh3 X):=by
 intro pins s st H xs us Q I r h;obtain⟨p,ns,rfl,hq,hl,q⟩:=h;obtain⟨u,rfl,ru⟩:=yi2 r;cases ru;obtain⟨its,rv,pl,hz⟩:=I.list hq;have el:its.length=ns.length:=by rw[<-rv.length,List.length_map]
 refine zhd (I.ok.hd hc) pl.isList (ns:=ns) (zfu rv) (by rw[List.size_toArray,el];exact zke (Nat.le_trans (Nat.le_of_lt hl) (by decide))) fun h' tk hs hk=>?_;rw[show its.toArray.size=ns.length by rw[List.size_toArray,el],zhq]at hs;refine⟨.ref s.heap.objs.size,_,I.laid (t':=tk) (o:=.ext (StH X.prog X.w ns s.heap.objs.size)) (fun b o e=>hk b o (Heap.lt_size e) e) (Nat.le_refl _) ?_,rfl,q _ (I.hok.fresh (Nat.le_refl _))⟩;exact⟨hs,let ⟨o,_,_,_,g,_⟩:=hs;⟨o,g⟩,zo9⟩
theorem zmh{pins:List (Addr × Obj)}{st:St}{H:Hp}{s:Shared}(I:Inv X pins st H s)(d':Drawn):Inv X pins st H { s with drawn:=d' }:=⟨I.ok,I.os,I.bare,I.base,I.loc,I.cell,I.free,I.freeC,I.pin,I.hok,I.len⟩
def yh4(X:Cx):List V->Hp->VK->Prop:=fun xs H Q=>∃ (a:Addr) (ns:List Int),xs=[.ref a]/\H a=some (.ext (StH X.prog X.w ns a))/\ns.length<64/\(ddp ns).length<=ns.length/\∀ l,H l=none->Q (.ref l) (upd H l (.lst ((ynh (ddp ns)).map V.int)))
theorem zhe(hc:X.calm=true):yd2 X (.builtin "sorted") (yh4 X):=by
 intro pins s σ H xs us Q I r h;obtain⟨a,ns,rfl,hH,h64,hdl,q⟩:=h;obtain⟨u,rfl,rx⟩:=yi2 r;cases rx;obtain⟨⟨o,es,ep,t,g1,g2,g3,g4,g5,g6,g7,g8,g9⟩,_,_⟩:=I.hok a _ hH;obtain⟨is,i1,i2,i3⟩:=zs2 g4;have hp:is.Perm (ddp ns):=(zux (zhr ns) (fun x hx=>(i3 x).mpr ((g5 x).mp (List.any_eq_true.mpr ⟨x,hx,by simp⟩))) (by rw[i2,Array.length_toList,g8];exact Nat.le_refl _)).symm;have he64:es.size<64:=by omega
 have hn:es.size<=sizeLine:=fits_of_scanBound g6;refine Calls.call_function_entry kind_sorted plain_sorted entry_sorted (args_sorted1 _) ?_;unfold Builtin.«sorted»;refine wpAny_bind (m:=checkCount "sorted" 1 1 _) (wpAny_pure ?_);refine wpAny_bind (zed (A:=X.A.in1) (I.ok.hd hc) ⟨o,g1,g2,g3⟩ g7 g9 g6 fun h' tk d' acc kp hsz hacc=>?_);obtain⟨is',hI,hp'⟩:=zh7 hacc i1;have hl:acc.toList.length=es.size:=by rw[hacc.length_eq,List.length_map,Array.length_toList]
 refine wpAny_bind (wpAny_newList ?_ (by rw[hl];exact hn));have hoL:(h'.push (seqObj "list" acc.toList.toArray 0)).get? h'.objs.size=some (seqObj "list" acc.toList.toArray 0):=Heap.get?_push_size _ rfl;refine wpAny_bind (wpAny_holding (wpAny_call_entry slot_list_sort ⟨_,hoL,rfl⟩ entry_list_sort (list_sort_tree hoL hI (by rw[hl];exact he64) fun out ns' a1 a2 a3=>⟨_,rfl,?_⟩) (args_list_sort _)));refine wpAny_pure ⟨_,rfl,?_⟩;have en:ns'=ynh (ddp ns):=zvd (a2.trans (hp'.trans (hp.trans (zjo _).symm))) a3 (zw2 _);subst en;have hls:=(zjo (ddp ns)).length_eq;obtain⟨e,he⟩:=sortedHeap_at (out:=out) hoL;exact⟨.ref h'.objs.size,_,(zmh I d').laid (t':=tk) (fun b o eb=>by
  have lt:b<h'.objs.size:=Heap.lt_size (kp b o eb);rw[sortedHeap_old (Nat.ne_of_lt lt) (by rw[size_push'];exact Nat.lt_succ_of_lt lt)];exact Heap.get?_push_of_some _ (kp b o eb)) hsz (show yd7 X.prog X.w _ _ _ (.lst ((ynh (ddp ns)).map V.int))from⟨by rw[List.length_map,hls];exact Nat.le_trans (show (ddp ns).length<=1000 by omega) (by decide),out.toList,e,zjy a1,by rw[Array.toArray_toList];exact he⟩),rfl,q _ (I.hok.fresh hsz)⟩
def zui(x:D):M D:=fun σ=>match (yln σ x).bind yae with
 |some ns=>if ns.length<64 then ygr ((ynh (ddp ns)).map D.int) σ else .bad
 |none=>.bad
theorem zyd(ns:List Int):(ddp ns).length<=ns.length:=by rw[<-zhq];exact firstMet_length_le _ _
theorem zn8{μ:List Addr}{H:Hp}:∀ (is:List Int),yjv T μ H (is.map D.int) (is.map V.int)
 |[]=>yjv.nil
 |i::is=>yjv.cons (by rw[Rep]) (zn8 is)
theorem zhy{e:Expr}{f:Ev->M D}{p p2 pos pos2:Pos}(hK:T.K=X.K)(hc:X.calm=true)(hg:Gl X "sorted")(hm:X.mg "sorted" = none)(hg2:Gl X "set")(hm2:X.mg "set" = none)(he:FE T X e f)
  (hs:starEach [e] X.env=(false,eval e X.env)::starEach [] X.env:=by rfl) (hpl:(backTo pos2 (starEach [] X.env)).any (·.1)=false:=by rfl)
  (hs2:starEach [.Call (.Name "set" p2) [e] [] pos2] X.env=(false,eval (.Call (.Name "set" p2) [e] [] pos2) X.env)::starEach [] X.env:=by rfl) (hpl2:(backTo pos (starEach [] X.env)).any (·.1)=false:=by rfl) :
  FE T X (.Call (.Name "sorted" p) [.Call (.Name "set" p2) [e] [] pos2] [] pos) (eUn zui f):=by
 intro pins s st H Q I h;refine znq (zhe hc) hg hm L4.zec (zuq (zi3 (zhc hc) hg2 hm2 rfl (zuq he yby hs) (by decide) (by decide) hs hpl) yby hs2) (by decide) (by decide) hs2 hpl2 pins s st H Q I ?_;obtain⟨μ,ρ,σ,hE,hr,hp⟩:=h;refine⟨μ,ρ,σ,hE,hr,hp.bind fun d σ1 μ1 v H1 _ e1 r1 q1 p1=>?_⟩;unfold zui at p1;cases e2:(yln σ1 d).bind yae with
 |none=>rw[e2]at p1;exact p1.elim
 |some ns=>
  rw[e2]at p1;dsimp only at p1;by_cases hl:ns.length<64
  ·rw[if_pos hl]at p1;obtain⟨ys,e3,e4⟩:=Option.bind_eq_some_iff.mp e2;obtain⟨a,vs,rfl,h1,h2⟩:=r1.ls q1 e3;have ev:=zmg h2 e4;subst ev;refine⟨a,ns,rfl,SqL.of h1,hl,fun l hn=>⟨l,ns,rfl,zpn,hl,zyd ns,fun l2 hn2=>?_⟩⟩;have p2:=yjp.mono (zro (o:=.ext (StH X.prog X.w ns l)) hn) p1;exact ztz p2 (r1.fresh hn) (zn8 _) hn2
  ·rw[if_neg hl]at p1;exact p1.elim
end
section
variable{X:Cx}{pins:List (Addr × Obj)}{σ:St}{H:Hp}{s:Shared}
theorem _root_.L2.Inv.freeze{a:Addr}{kvs:List (Key × V)}{od:Obj}(I:Inv X pins σ H s)(hd:H a=some (.dK kvs))(e:s.heap.get? a=some od):Inv X pins σ (upd H a (.frz od (.dK kvs))) s:=by
 have ne:∀ b u,H b=some u->u≠.dK kvs->b≠a:=fun b u q n z=>by rw[z,hd]at q;exact n (Option.some.inj q).symm
 refine I.step (g':=s.gens) (d':=s.drawn) (t':=s.toks) (h':=s.heap) (ch:=[]) (fun _ z=>nomatch z) (fun b o _ _ _ q _=>q) (fun b o _ _ _ q _=>⟨o.slots,q⟩) (fun b o _ q n=>?_) (fun b o _ q=>⟨o,q⟩)
  (fun b xs q=>by rw[ydx (ne b _ q (fun z=>by cases z))];exact q) (fun b u xs q=>by rw[ydx (ne b _ q (fun z=>by cases z))];exact q) (fun b ps q=>⟨#[],by rw[ydx (ne b _ q (fun z=>by cases z)),q];simp⟩) (fun m hm=>hm) (fun b u q=>?_) I.bare
 ·rw[ydx (fun z=>by rw[z,hd]at n;cases n)];exact n
 ·by_cases hb:b=a
  ·subst hb;rw[zpn]at q;cases q;exact⟨e,I.hok b _ hd⟩
  ·rw[ydx hb]at q;exact(I.hok b u q).stay (fun c v _ z=>z) (fun c z=>by rw[ydx (ne c _ z (fun y=>by cases y))];exact z) fun c xs z=>by rw[ydx (ne c _ z (fun y=>by cases y))];exact z
theorem zzp{a:Addr}{kvs:List (Key × V)}{od:Obj}(I:Inv X pins σ H s)(hd:H a=some (.frz od (.dK kvs))):∃ vs es ep,KV kvs vs/\od.data=.dict es ep/\s.heap.DictAt (ztq X.prog X.w) a vs ep:=by
 obtain⟨e,_,_,vs,rel,o,es,ep,e2,ex,dt,r⟩:=I.hok a _ hd;rw[e]at e2;cases e2;exact⟨vs,es,ep,rel,dt,od,es,e,ex,dt,r⟩
end
def Itm(d:Addr)(od:Obj)(kvs:List (Key × V)):It:=
 ⟨fun i H=>H d=some (.frz od (.dK kvs))/\∃ x,kvs[i]?=some x,fun i H v H'=>∃ p k x,H p=none/\v=.ref p/\kvs[i]?=some (k,x)/\H'=upd H p (.tup [kV k,x]),fun i H=>H d=some (.frz od (.dK kvs))/\i=kvs.length⟩
theorem yap{κ:Type}:∀ {kvs:List (κ × V)} {vs:List (κ × Value)} (r:KV kvs vs) (i:Nat) {k:κ} {x:V},kvs[i]?=some (k,x)->∃ u,vs[i]?=some (k,u)/\yjs x u
 |_,_,.nil,i,_,_,h=>by simp at h
 |_,_,.cons (b:=q) a b,0,k,x,h=>by
  simp only[List.getElem?_cons_zero,Option.some.injEq]at h;obtain⟨a1,a2⟩:=a;rw[h]at a1 a2;exact⟨q.2,by simp only[List.getElem?_cons_zero,Option.some.injEq];exact Prod.ext a1.symm rfl,a2⟩
 |_,_,.cons a b,i+1,k,x,h=>by
  simp only[List.getElem?_cons_succ]at h ⊢;exact yap b i h
theorem zmp{P:Program}{w:World}{k:Key}{v:Value}(h:(ztq P w).is k v=true):yjs (kV k) v:=by
 rcases zel (k:=k) (v:=v) h with⟨i,t,rfl,rfl⟩|⟨x,t,rfl,rfl⟩
 ·exact⟨t,rfl⟩
 ·exact⟨t,rfl⟩
theorem zgs{P:Program}{w:World}{K:PySem.W.Frag}{elts:List Expr}{kk:Nat}{pos:Pos}(d it:Addr)(od:Obj)(kvs:List (Key × V))(hne:d≠it){es:Array DictEntry}{ep:Nat}(hod:od.data=.dict es ep) :
  Turn P w K (.Tuple elts kk pos) (Itm d od kvs) [it] it (fun i h=>∃ ok ov,IsItemIter h it d i kvs.length ep ok ov) where
 mem:=by simp
 obj:=fun i h st b hb=>by
  obtain⟨ok,ov,s1⟩:=st;obtain rfl:b=it:=by simpa using hb
  exact⟨_,s1,fun v z=>by cases z⟩
 keep:=fun i h h' st k=>by
  obtain⟨ok,ov,s1⟩:=st;exact⟨ok,ov,k it (by simp) _ s1⟩
 item:=by
  intro X hP hw hK hc i pins s σ H E I hf st hg;subst hP hw hK;obtain⟨hd,⟨k,x⟩,hx⟩:=hg;obtain⟨vs,es',ep',rel,dt,hm⟩:=zzp I hd;rw[hod]at dt;cases dt;obtain⟨u,hu,ru⟩:=yap rel i hx;obtain⟨ok,ov,s1⟩:=st;rw[rel.length]at s1;refine wpAny_pyNext_items_item s1 hm hu fun key h' hkey ho hT hsz hk=>?_;have hTn:s.heap.objs.size≠it:=Nat.ne_of_gt (Heap.lt_size s1);refine⟨.ref s.heap.objs.size,rfl,wpAny_letOwnedTupleGo_items ho fun h2 hi2 hs2=>?_⟩;have hn:H s.heap.objs.size=none:=I.hok.fresh (Nat.le_refl _);have hT2:h2.get? s.heap.objs.size=some { cls:=.type "tuple",data:=.seq #[key,u] }:=hs2.extBut _ _ hTn hT;refine⟨.ref s.heap.objs.size,upd H s.heap.objs.size (.tup [kV k,x]),I.turnL (t':=s.toks) (o:=.tup [kV k,x]) (its:=[it]) (fun b o hb q=>hs2.extBut b o (fun z=>hb (by simp[z])) (hk b o (fun z=>hb (by simp[z])) q)) hf (Nat.le_refl _) ?_,rfl,⟨_,k,x,hn,rfl,hx,rfl⟩,⟨key,u,by rw[rel.length];exact hi2⟩,fun b hb=>?_⟩
  ·exact⟨(show (2:Nat)<=sizeLine by decide),[key,u],.cons (zmp hkey) (.cons ru .nil),⟨_,hT2,rfl,_,rfl⟩⟩
  ·obtain rfl:b=it:=by simpa using hb
   rw[ydx (fun z=>hTn z.symm)];exact(hf b hb).1
 done:=by
  intro X hP hw hK hc i pins s σ H E I hf st hg;subst hP hw hK;obtain⟨hd,hi⟩:=hg;obtain⟨vs,es',ep',rel,dt,hm⟩:=zzp I hd;rw[hod]at dt;cases dt;obtain⟨ok,ov,s1⟩:=st;rw[rel.length]at s1 hi;exact wpAny_pyNext_items_end (I.ok.hd hc) s1 hm (by rw[hi];simp) fun h' eb=>⟨rfl,I.turnN (t':=s.toks) (its:=[it]) (fun b o hb q=>eb b o (fun z=>hb (by simp[z])) q) hf⟩
 self:=fun A i s Q E st h=>by
  obtain⟨ok,ov,s1⟩:=st;exact PySem.W.kcp_self s1 h
def yj2(l a:Addr):Heap->Prop:=fun h=>h.IsItemsView l a
def ycr:V->List V->Hp->VK->Prop:=fun x xs H Q=>∃ a kvs,x=.ref a/\xs=[]/\Rd H a (.dK kvs)/\∀ l,H l=none->Q (.ref l) (upd H l (.ext (yj2 l a)))
theorem upd_iz{H:Hp}{a:Addr}{o:HO}(h:H a=some o):upd H a o=H:=by
 funext b;unfold upd;split
 ·next e=>rw[e,h]
 ·rfl
theorem zl7(h:Heap)(o:Obj)(hf:o.data≠.freed):(h.push o).get? h.objs.size=some o:=by
 obtain⟨c,d,x,sl⟩:=o;simp[Heap.get?,Heap.push];cases x<;>first|rfl|exact absurd rfl hf
section
variable{T:Tb}{X:Cx}{elts:List Expr}{kk:Nat}{p0:Pos}
theorem zm5:MtR X "dict.items" ycr:=by
 intro pins s st H x vs v us Q I rx rv h;obtain⟨a,kvs,rfl,rfl,hH,q⟩:=h;cases rx;cases rv;obtain⟨z,hd,ws,rel,dd⟩:=ye1 I.hok hH;refine call_meetsIn PySem.F.slot_dict_items dd.typeIs PySem.F.entry_dict_items (PySem.F.args_dict_items_1 _) (meets_dict_items (ztq X.prog X.w) a hd) ⟨⟨ws,dd⟩,?_⟩;refine⟨.ref s.heap.objs.size,_,I.laid (t':=s.toks) (o:=.ext (yj2 s.heap.objs.size a)) (fun b o e=>Heap.get?_push_of_some _ e) (Nat.le_refl _) ?_,rfl,q _ (I.hok.fresh (Nat.le_refl _))⟩;refine⟨⟨_,zl7 _ _ (fun z=>by cases z),rfl,rfl⟩,⟨_,zl7 _ _ (fun z=>by cases z)⟩,fun h1 h2 p k=>?_⟩;obtain⟨o,e,c⟩:=p;exact⟨o,k o e,c⟩
def zz8(te:TE):TI:=fun σ H R=>te σ H fun v H1=>∃ l a kvs,v=.ref l/\H1 l=some (.ext (yj2 l a))/\Rd H1 a (.dK kvs)/\∀ od,H1 a=some (.dK kvs)\/H1 a=some (.frz od (.dK kvs))->R (Itm a od kvs) (upd H1 a (.frz od (.dK kvs)))
theorem znv{iter:Expr}{te:TE}(he:PE X iter te):PI X (.Tuple elts kk p0) iter (zz8 te):=by
 intro pins s σ H R I h;refine thn (he pins s σ H _ I h) fun v s1 ⟨x,H1,I1,r1,q1⟩=>?_;obtain⟨l,a,kvs,rfl,hl,hk,q⟩:=q1;cases r1;obtain⟨od,hod,I2⟩:∃ od,(H1 a=some (.dK kvs)\/H1 a=some (.frz od (.dK kvs)))/\Inv X pins σ (upd H1 a (.frz od (.dK kvs))) s1:=by
  rcases hk with hk|⟨od,hk⟩
  ·obtain⟨_,_,vs,rel,o,es,ep,e,_⟩:=I1.hok a _ hk;exact⟨o,.inl hk,I1.freeze hk e⟩
  ·exact⟨od,.inr hk,by rw[upd_id hk];exact I1⟩
 obtain⟨vs,es,ep,rel,dt,hm⟩:=zzp I2 zpn;have hv:s1.heap.IsItemsView l a:=(I1.hok l _ hl).1;have hne:a≠s1.heap.objs.size:=Nat.ne_of_lt hm.lt_size;refine wpAny_pyIter_items hv hm ?_;refine⟨s1.heap.objs.size,[s1.heap.objs.size],_,Itm a od kvs,_,rfl,I2.kept (t':=s1.toks) (fun b o e=>Heap.get?_push_of_some _ e),zgs a _ od kvs hne dt,⟨.none,.none,by rw[rel.length];exact zl7 _ _ (fun z=>by cases z)⟩,fun b hb=>?_,q od hod⟩;obtain rfl:b=s1.heap.objs.size:=by simpa using hb
 exact I2.fpOk (Nat.le_refl _) (I2.hok.fresh (Nat.le_refl _))
def nxI(kv:List (Key × D)):NX:=fun i _=>match kv[i]? with
 |some p=>some (some (.tup [ylj p.1,p.2]))
 |none=>if i=kv.length then some none else none
def yf6(d:D):M NX:=fun σ=>match d with
 | .dic ks xs=>if ks.length=xs.length then .ok (nxI (ks.zip xs)) σ else .bad
 |_=>.bad
def ynd(f:Ev->M D):Ev->M NX:=fun ρ=>bnd (f ρ) yf6
theorem zta{μ:List Addr}{H:Hp}(k:Key):Rep T μ H (ylj k) (kV k):=by
 cases k<;>(unfold ylj kV;rw[Rep])
theorem zrn{μ:List Addr}{H:Hp}{a:Addr}{od:Obj}{kvs:List (Key × V)}(hk:H a=some (.dK kvs)):Ext μ H μ (upd H a (.frz od (.dK kvs))):=by
 have ne:∀ b u,H b=some u->u≠.dK kvs->b≠a:=fun b u q n z=>by rw[z,hk]at q;exact n (Option.some.inj q).symm
 refine⟨⟨[],by simp⟩,fun p xs h=>by rw[ydx (ne p _ h (fun z=>by cases z))];exact h,fun p o u h=>by rw[ydx (ne p _ h (fun z=>by cases z))];exact h,fun p o h n=>⟨?_,n⟩⟩;by_cases e:p=a
 ·subst e;rw[hk]at h;cases h;exact⟨_,zpn,.inr ⟨od,kvs,rfl,rfl⟩⟩
 ·exact⟨o,by rw[ydx e];exact h,.inl rfl⟩
theorem zf8{α β:Type}{R:α->β->Prop}:∀ {xs:List α} {ys:List β},Paired R xs ys->∀ (i:Nat) {x:α},xs[i]?=some x->∃ y,ys[i]?=some y/\R x y
 |_,_,.nil,i,_,h=>by simp at h
 |_,_,.cons a b,0,x,h=>by
  simp only[List.getElem?_cons_zero,Option.some.injEq]at h ⊢;subst h;exact⟨_,rfl,a⟩
 |_,_,.cons a b,i+1,x,h=>by
  simp only[List.getElem?_cons_succ]at h ⊢;exact zf8 b i h
theorem zli{e:Expr}{f:Ev->M D}{apos cpos:Pos}(h:FE T X e f)(hbase:attributeBase e "items" X.env (eval e X.env)=eval e X.env:=by rfl)(hline:(apos.endLine == cpos.line)=true:=by rfl) :
  FIN T X (.Tuple elts kk p0) (.Call (.Attribute e "items" apos) [] [] cpos) (ynd f):=by
 intro pins s st H R I hw;refine znv (zut PySem.F.plainAttrs_dict PySem.F.slot_dict_items PySem.F.type_dict_items zm5 h hbase hline) pins s st H R I ?_;obtain⟨μ,ρ,σ,hE,hr,hp⟩:=hw;refine⟨μ,ρ,σ,hE,hr,hp.bind fun d σ1 μ1 v H1 _ e1 r1 q1 p1=>?_⟩;unfold yf6 at p1;cases d with
 |dic ks xs=>
  dsimp only at p1;by_cases hl:ks.length=xs.length
  ·rw[if_pos hl]at p1;rw[Rep]at q1;obtain⟨a,kvs,rfl,hn,hk,hks,hxs⟩:=q1;refine⟨⟨a,kvs,rfl,hk⟩,a,kvs,rfl,rfl,hk,fun l hln=>?_⟩;have nal:a≠l:=by rcases hk with hk|⟨_,hk⟩<;>exact zf5 hk hln
   have hk1:Rd (upd H1 l (.ext (yj2 l a))) a (.dK kvs):=by unfold Rd;rw[ydx nal];exact hk
   refine⟨l,a,kvs,rfl,zpn,hk1,fun od ho=>?_⟩;have x1:Ext μ1 H1 μ1 (upd H1 l (.ext (yj2 l a))):=zro hln;have rr1:Rel T μ1 (upd H1 l (.ext (yj2 l a))) σ1:=r1.fresh hln;obtain⟨x2,rr2⟩:Ext μ1 H1 μ1 (upd (upd H1 l (.ext (yj2 l a))) a (.frz od (.dK kvs)))/\Rel T μ1 (upd (upd H1 l (.ext (yj2 l a))) a (.frz od (.dK kvs))) σ1:=by
    rcases ho with ho|ho
    ·have y:=zrn (μ:=μ1) (od:=od) ho;exact⟨x1.trans y,rr1.keep y fun b hb=>ydx (fun z=>hn (by rw[<-z];exact hb))⟩
    ·rw[upd_id ho];exact⟨x1,rr1⟩
   have h3:upd (upd H1 l (.ext (yj2 l a))) a (.frz od (.dK kvs)) a=some (.frz od (.dK kvs)):=zpn;generalize upd (upd H1 l (.ext (yj2 l a))) a (.frz od (.dK kvs))=H3 at *;refine yjp.here (R:=yjy T) (yjp.mono x2 p1) rr2 fun μ2 H2 σ2 i ex r2=>?_;have hf:H2 a=some (.frz od (.dK kvs)):=ex.frz _ _ _ h3;have hrk:yju T μ2 H2 (ks.zip xs) kvs:=yju.mono (x2.trans ex) (zoa hks hxs);unfold nxI;cases ei:(ks.zip xs)[i]? with
   |none=>
    dsimp only;by_cases hi:i=(ks.zip xs).length
    ·rw[if_pos hi];exact⟨hf,by rw[hi];exact Paired.length hrk⟩
    ·rw[if_neg hi];trivial
   |some p=>
    obtain⟨q,hq,hpq,rx⟩:=zf8 hrk i ei;refine⟨⟨hf,q,hq⟩,fun z H' y=>?_⟩;obtain⟨r,k',x',hn',rfl,hkx,rfl⟩:=y;rw[hq]at hkx;cases hkx;dsimp only at hpq rx;refine⟨zro hn',r2.fresh hn',?_⟩;rw[Rep,hpq];exact⟨r,_,rfl,zpn,yjv.cons (zta _) (yjv.cons (Rep.mono (zro hn') _ _ rx) yjv.nil)⟩
  ·rw[if_neg hl]at p1;exact p1.elim
 |_=>exact p1.elim
end
def zth(nx:NX)(n:Nat)(tg:D->Ev->Option Ev)(fi:Ev->M Bool)(fe:Ev->M D):Nat->Nat->Ev->M Unit
 |0,_,_=>bad
 |k+1,i,ρ=>fun σ=>match nx i σ with
  |none=>.bad
  |some none=>.ok () σ
  |some (some d)=>match tg d ρ with
   |none=>.bad
   |some ρ1=>bnd (nox (fi ρ1)) (fun c=>if c=true then bnd (nox (fe ρ1)) fun y=>bnd (zt3 (.ref n) [y]) fun _=>zth nx n tg fi fe k (i+1) ρ1 else zth nx n tg fi fe k (i+1) ρ1) σ
def yll(tg:D->Ev->Option Ev)(fi:Ev->M Bool)(fe:Ev->M D)(ρ:Ev)(nx:NX):M D:=fun σ=>
 bnd (zth nx σ.length tg fi fe 1001 0 ρ) (fun _=>ret (.ref σ.length)) (σ++[.lst []])
def ykr(src:Ev->M NX)(ix:List Nat)(tg:D->Ev->Option Ev)(fi:Ev->M Bool)(fe:Ev->M D):Ev->M D:=fun ρ=>bnd (src ρ) (yll tg fi fe (zxo ix ρ))
section
variable{T:Tb}{X:Cx}
theorem zmt{E:XK}{elt iter tgt:Expr}{ifs:List Expr}{scope:Scope}{pos:Pos}{x z0:Str}{M':List Str}{ix:List Nat}{tg:D->Ev->Option Ev}{fi:Ev->M Bool}{fe:Ev->M D}
  {pins:List (Addr × Obj)} {st:St} {H3:Hp} {s3:Shared} {h₁:Heap} {t':Nat} {m:Str->Option Value} {fp:List Addr} {it D0:Addr} {tn:Nat->Heap->Prop} {J:It} {nx:NX} {μ3:List Addr} {σ3:Sto} {ρ:Ev} {n:Nat} {Q:VK}
  (hc:X.calm=true) (L:LcOk X x M' ix scope)
  (htg:∀ cl C s₀ H₀ ex,FG T (blk X (x::z0::M') scope cl C s₀ H₀ ex) tgt tg)
  (hif:∀ cl C s₀ H₀ ex,FIf T (blk X (x::z0::M') scope cl C s₀ H₀ ex) ifs fi)
  (helt:∀ cl C s₀ H₀ ex,FE T (blk X (x::z0::M') scope cl C s₀ H₀ ex) elt fe)
  (I3:Inv X pins st H3 s3) (hfp:∀ b∈fp,yjh X pins H3 b/\b<s3.heap.objs.size) (hns:h₁.Ns s3.heap.objs.size m) (kp:∀ b o,s3.heap.get? b=some o->h₁.get? b=some o)
  (TT:Turn X.prog X.w X.K tgt J fp it tn) (hst4:tn 0 h₁) (so:yjy T μ3 H3 nx J) (hE:yje T μ3 H3 ρ st) (r3:Rel T μ3 H3 σ3) (hn:μ3[n]?=some D0)
  (p3:yjp T E (Rep T) μ3 H3 (bnd (zth nx n tg fi fe 1001 0 (zxo ix ρ)) (fun _=>ret (.ref n)) σ3) Q) {RR:Result->Shared->Prop}
  (fin:∀ (s6:Shared) (H':Hp) (m6:Str->Option Value),s6.heap.Ns s3.heap.objs.size m6->H' s3.heap.objs.size=none->Un (frs X.stack) fp H3 H' s3.heap s6.heap->s6.os=s3.os->HOk X.prog X.w H' s6.heap->AllBare s6.gens->Q (.ref D0) H'->RR (.ok .next) s6) :
  codeAny (model X.prog X.w) X.A (.compStart (.ListComp elt [⟨tgt,iter,ifs,0⟩] scope pos) 0 (.ref it) (.ref D0) (compEnvC scope (ykg X.env scope.names []) s3.heap.objs.size X.env))
   RR { s3 with heap:=h₁,toks:=t' }:=by
 have I4:=zff (z0:=z0) (h':=h₁) (t':=t') I3 L hfp hns kp;let Y:Cx:=blk X (x::z0::M') scope (ykg X.env scope.names []) s3.heap.objs.size s3 H3 fp;have stat:∀ {H':Hp},(∀ b∈fp,H' b=none)->∀ b∈fp,yjh Y [] H' b:=fun {H'} hn b hb=>⟨hn b hb,(I4.ok.exf b hb).1,I4.ok.exfs b hb,.inl hb,(I4.ok.exf b hb).2,fun p hp=>absurd (show p∈([]:List (Addr × Obj))from hp) (by simp)⟩
 have ylm:codeAny (model X.prog X.w) X.A (.compLoop (.ListComp elt [⟨tgt,iter,ifs,0⟩] scope pos) 0 (.ref it) (.ref D0) Y.env) RR { s3 with heap:=h₁,toks:=t' }:=by
  refine codeAny_loop rfl (fun k s'=>∃ i μ' H' σ' ρ' st',Inv Y [] st' H' s'/\tn i s'.heap/\(∀ b∈fp,H' b=none)/\Ext μ3 H3 μ' H'/\yje T μ' H' ρ' st'/\Rel T μ' H' σ'/\
   yjp T E (Rep T) μ' H' (bnd (zth nx n tg fi fe k i ρ') (fun _=>ret (.ref n)) σ') Q) ?_ 1001 ⟨0,μ3,H3,σ3,zxo ix ρ,zxp ix st,I4,hst4,fun b hb=>(hfp b hb).1.1,Ext.refl _ _,zj9 ix hE,r3,p3⟩
  rintro k s' ⟨i,μ',H',σ',ρ',st',I',tn',fr',ex',hE',r',p'⟩;show wpAny _ X.A ((compTurn (.ListComp elt [⟨tgt,iter,ifs,0⟩] scope pos) 0 (.ref it) (.ref D0) Y.env).onRaise (fun x=>do noteFrame x Y.env;theTreesLotGoes x)) _ _ s';refine wpAny_noted ?_;rw[compTurn_list];refine wpAny_mono (E:=fun _ _=>False) ?_ (fun _ _ z=>z) (fun _ _ z=>z.elim);refine wpAny_bind (wpAny_standAt ?_);cases k with
  |zero=>exact p'.elim
  |succ k=>
   have so':=so μ' H' σ' i ex' r';cases en:nx i σ' with
   |none=>
    have e1:zth nx n tg fi fe (k+1) i ρ' σ'=.bad:=by unfold zth;simp only[en]
    rw[zg7 (m':=bad) e1]at p';exact p'.elim
   |some od=>
    rw[en]at so';cases od with
    |none=>
     have e1:zth nx n tg fi fe (k+1) i ρ' σ'=.ok () σ':=by unfold zth;simp only[en]
     rw[zg7 (m':=ret ()) e1]at p';refine wpAny_bind (thn (TT.done Y rfl rfl rfl hc i [] s' st' H' (fun _ _=>False) I' (stat fr') tn' so') fun r s6 ⟨er,I6⟩=>?_);subst er;refine wpAny_pure ?_;obtain⟨m6,hm6,_⟩:=I6.loc;exact fin s6 H' m6 hm6 I6.free I6.base I6.os I6.hok I6.bare (yjp.here p' r' (by rw[Rep];exact⟨_,rfl,ex'.get hn⟩))
    |some d=>
     refine wpAny_bind (thn (TT.item Y rfl rfl rfl hc i [] s' st' H' (fun _ _=>False) I' (stat fr') tn' so'.1) fun r s6 ⟨u,er,h6⟩=>?_);subst er;refine wpAny_bind (thn h6 fun _ s7 ⟨xv,H7,I7,r7,y7,tn7,fr7⟩=>?_);obtain⟨ex7,rr7,hd⟩:=so'.2 xv H7 y7;replace p':=yjp.mono ex7 p';replace hE':=hE'.mono ex7;replace ex':=ex'.trans ex7;replace r':=rr7;cases et:tg d ρ' with
     |none=>
      have e1:zth nx n tg fi fe (k+1) i ρ' σ'=.bad:=by unfold zth;simp only[en,et]
      rw[zg7 (m':=bad) e1]at p';exact p'.elim
     |some ρ1=>
      have e1:zth nx n tg fi fe (k+1) i ρ' σ'=bnd (nox (fi ρ1)) (fun c=>if c=true then bnd (nox (fe ρ1)) fun y=>bnd (zt3 (.ref n) [y]) fun _=>zth nx n tg fi fe k (i+1) ρ1 else zth nx n tg fi fe k (i+1) ρ1) σ':=by
       conv=>lhs;unfold zth
       simp only[en,et]
      rw[zg7 e1,zg6]at p';have I7':=I7.pinned (stat fr7) (TT.obj _ _ tn7);refine wpAny_bind (thn (htg _ _ _ _ _ _ s7 st' H7 xv u (fun st8 H8=>H8=H7/\yje T μ' H7 ρ1 st8) I7' r7 ⟨μ',σ',ρ',d,ρ1,hE',r',hd,et,fun st8 hE8=>⟨rfl,hE8⟩⟩) fun _ s8 ⟨st8,H8,I8,eH8,hE8⟩=>?_);subst eH8;refine wpAny_bind (thn (hif _ _ _ _ _ _ s8 st8 H8 (fun c H9=>∃ μ9 σ9,Ext μ' H8 μ9 H9/\Rel T μ9 H9 σ9/\yjp T E (Rep T) μ9 H9 (bnd (if c=true then bnd (nox (fe ρ1)) fun y=>bnd (zt3 (.ref n) [y]) fun _=>zth nx n tg fi fe k (i+1) ρ1 else zth nx n tg fi fe k (i+1) ρ1) (fun _=>ret (.ref n)) σ9) Q) I8
       ⟨μ',ρ1,σ',hE8,r',p'.bind0 fun c σ9 μ9 c' H9 _ e9 r9 q9 p9=>by cases q9;exact⟨μ9,σ9,e9,r9,p9⟩⟩) fun c s9 ⟨H9,I9,μ9,σ9,e9,r9,p9⟩=>?_)
      have again:∀ {s11:Shared} {H11:Hp} {μ11:List Addr} {σ11:Sto},Inv Y ([]++yce fp s7.heap) st8 H11 s11->Ext μ' H8 μ11 H11->Rel T μ11 H11 σ11->yjp T E (Rep T) μ11 H11 (bnd (zth nx n tg fi fe k (i+1) ρ1) (fun _=>ret (.ref n)) σ11) Q->
        ∃ m,m<k+1/\∃ i μ' H' σ' ρ' st',Inv Y [] st' H' s11/\tn i s11.heap/\(∀ b∈fp,H' b=none)/\Ext μ3 H3 μ' H'/\yje T μ' H' ρ' st'/\Rel T μ' H' σ'/\yjp T E (Rep T) μ' H' (bnd (zth nx n tg fi fe m i ρ') (fun _=>ret (.ref n)) σ') Q:=by
       intro s11 H11 μ11 σ11 I11 e11 r11 p11;refine⟨k,Nat.lt_succ_self _,i+1,μ11,H11,σ11,ρ1,st8,I11.unpinned,TT.keep _ _ _ tn7 (fun b hb o e=>(I11.pin (b,o) (List.mem_append_right _ (List.mem_append_right _ (zf3 hb e)))).1),fun b hb=>?_,ex'.trans e11,hE8.mono e11,r11,p11⟩;obtain⟨o,e,_⟩:=TT.obj _ _ tn7 b hb;exact(I11.pin (b,o) (List.mem_append_right _ (List.mem_append_right _ (zf3 hb e)))).2.1
      cases c with
      |false=>
       rw[if_neg Bool.false_ne_true]at p9;exact wpAny_pure ⟨rfl,again I9 e9 r9 p9⟩
      |true=>
       rw[if_pos rfl,zg6]at p9;refine wpAny_bind (wpAny_bind (thn (helt _ _ _ _ _ _ s9 st8 H9 (fun v H10=>∃ y μ10 σ10,Ext μ' H8 μ10 H10/\Rel T μ10 H10 σ10/\Rep T μ10 H10 y v/\yjp T E (Rep T) μ10 H10 (bnd (zt3 (.ref n) [y]) (fun _=>bnd (zth nx n tg fi fe k (i+1) ρ1) (fun _=>ret (.ref n))) σ10) Q) I9
        ⟨μ9,ρ1,σ9,hE8.mono e9,r9,p9.bind0 fun y σ10 μ10 v H10 _ e10 r10 q10 p10=>⟨y,μ10,σ10,e9.trans e10,r10,q10,by rw[zg6]at p10;exact p10⟩⟩) fun w s10 ⟨v,H10,I10,rw10,y,μ10,σ10,e10,r10,q10,p10⟩=>?_))
       have happ:=zp6 (Q:=fun _ H11=>∃ μ11 σ11,Ext μ' H8 μ11 H11/\Rel T μ11 H11 σ11/\yjp T E (Rep T) μ11 H11 (bnd (zth nx n tg fi fe k (i+1) ρ1) (fun _=>ret (.ref n)) σ11) Q) r10 ((ex'.trans e10).get hn) q10
        (p10.bind fun _ σ11 μ11 v11 H11 _ e11 r11 q11 p11=>⟨μ11,σ11,e10.trans e11,r11,p11⟩)
       refine wpAny_bind (thn (ziq (X:=Y) _ s10 st8 H10 (.ref D0) [v] (.ref D0) [w] _ I10 rfl (.cons rw10 .nil) happ) fun _ s11 ⟨v11,H11,I11,_,μ11,σ11,e11,r11,p11⟩=>?_);exact wpAny_pure (wpAny_pure ⟨rfl,again I11 e11 r11 p11⟩)
 exact codeAny_compStart_list ylm (TT.self X.A 0 _ _ _ hst4 ylm)
theorem zy8{elt iter tgt:Expr}{ifs:List Expr}{scope:Scope}{pos:Pos}{x z0:Str}{M':List Str}{ix:List Nat}{src:Ev->M NX}{tg:D->Ev->Option Ev}{fi:Ev->M Bool}{fe:Ev->M D}
  (hc:X.calm=true) (L:LcOk X x M' ix scope) (hsrc:FIN T X tgt iter src)
  (htg:∀ cl C s₀ H₀ ex,FG T (blk X (x::z0::M') scope cl C s₀ H₀ ex) tgt tg)
  (hif:∀ cl C s₀ H₀ ex,FIf T (blk X (x::z0::M') scope cl C s₀ H₀ ex) ifs fi)
  (helt:∀ cl C s₀ H₀ ex,FE T (blk X (x::z0::M') scope cl C s₀ H₀ ex) elt fe)
  (hs:∀ y,foldedSetIterable iter X.env y=pure y:=by intro _;rfl) :
  FE T X (.ListComp elt [⟨tgt,iter,ifs,0⟩] scope pos) (ykr src ix tg fi fe):=by
 intro pins s st H Q I h;obtain⟨μ,ρ,σ,hE,hr,hp⟩:=h;rw[eval_ListComp];refine wpAny_comprehension_free (use:=none) rfl hs (zfi X.env scope (zqy I L)) L.kind (fun y hy e=>?_) ?_
 ·have q:=List.all_eq_true.mp L.names y hy;rw[e]at q;simp only[beq_self_eq_true,Bool.not_true,Bool.false_or]at q;exact eq_of_beq q
 have h1:=hsrc pins s st H (fun J H2=>∃ nx μ2 σ2,Ext μ H μ2 H2/\Rel T μ2 H2 σ2/\yjy T μ2 H2 nx J/\yjp T (XE X st) (Rep T) μ2 H2 (bnd (zth nx σ2.length tg fi fe 1001 0 (zxo ix ρ)) (fun _=>ret (.ref σ2.length)) (σ2++[Ob.lst []])) Q) I
  ⟨μ,ρ,σ,hE,hr,hp.bind fun nx σ1 μ1 J H1 _ e1 r1 q1 p1=>⟨nx,μ1,σ1,e1,r1,q1,p1⟩⟩
 refine thn h1 fun v s1 h2=>thn h2 fun itv s2 h3=>?_;obtain⟨it,fp,tn,J,H2,rfl,I2,TT,st2,f2,nx,μ2,σ2,ex2,r2,so,p2⟩:=h3;refine wpAny_newObj_type (wpAny_newFunctionEnv (ya6 L) (by intro y hy;simp at hy) (fun h₁ hns₁ hsb₁=>?_) L.kind);have I3:=I2.lnew (ys:=[]) (its:=[]) (t':=s2.toks) .nil (by simp);have fr2:H2 s2.heap.objs.size=none:=I2.hok.fresh (Nat.le_refl _);have r3:=r2.push (p:=s2.heap.objs.size) (o:=.lst []) (ob:=.lst []) fr2 ⟨[],zpn,yjv.nil⟩;have ex3:Ext μ2 H2 (μ2++[s2.heap.objs.size]) (upd H2 s2.heap.objs.size (.lst [])):=zk8 fr2;have hsz:s2.heap.objs.size<(s2.heap.push { cls:=.type "list",data:=.seq ([]:List Value).toArray }).objs.size:=by rw[Heap.size_push];exact Nat.lt_succ_self _
 have kp:∀ b o,(s2.heap.push { cls:=.type "list",data:=.seq ([]:List Value).toArray }).get? b=some o->h₁.get? b=some o:=fun b o e=>hsb₁.extBut b o (Nat.ne_of_lt (Heap.lt_size e)) (Heap.get?_push_of_some _ e);have hfp:∀ b∈fp,yjh X pins (upd H2 s2.heap.objs.size (.lst [])) b/\b<(s2.heap.push { cls:=.type "list",data:=.seq ([]:List Value).toArray }).objs.size:=fun b hb=>by
  obtain⟨o,e,_⟩:=TT.obj 0 _ st2 b hb;have lt:=Heap.lt_size e;exact⟨⟨by rw[ydx (Nat.ne_of_lt lt)];exact(f2 b hb).1,(f2 b hb).2⟩,Nat.lt_trans lt hsz⟩
 refine zmt (s3:={ s2 with heap:=s2.heap.push { cls:=.type "list",data:=.seq ([]:List Value).toArray },toks:=s2.toks }) (n:=σ2.length) (D0:=s2.heap.objs.size) hc L htg hif helt I3 hfp hns₁ kp TT (TT.keep 0 _ _ st2 fun b hb o e=>kp b o (Heap.get?_push_of_some _ e))
  (fun μ H σ i ex r=>so μ H σ i (ex3.trans ex) r) ((hE.mono ex2).mono ex3) r3 (by rw[<-r2.len];simp) (p2.mono ex3) (fun s6 H' m6 hm6 hC' hu0 hos hok6 hb6 hq=>⟨m6,hm6,fun h7 hs7=>?_⟩)
 have hu:=zxa hu0 hs7 (Nat.le_refl _);have I7:=L2.Inv.call' (s':={ s6 with heap:=h7 }) (ch:=fp) I3 hos hu (zmc hok6 hs7 hC') hb6 (fun b hb=>⟨(hfp b hb).1.2.2.2.1,(hfp b hb).1.2.1,(hfp b hb).1.2.2.2.2.1,(hfp b hb).1.2.2.2.2.2⟩);exact⟨.ref s2.heap.objs.size,H',I7,rfl,hq⟩
end
def yj0(K:PySem.W.Frag)(a:Addr)(ss:List Str):Prop:=∃ (o:Obj) (its:Array Value) (n:Nat),K.lookup a=some o/\o.cls=.type "tuple"/\o.data=.seq its n/\its.size<=sizeLine/\yj1 (ss.map V.str) its.toList
def GlT(K:PySem.W.Frag)(mg:Str->Option Value)(x:Str)(ss:List Str):Prop:=∃ a,mg x=some (.ref a)/\yj0 K a ss
def ydj:List Value->List Str->Bool
 |[],[]=>true
 | .str y _::vs,x::ss=>(y == x) && ydj vs ss
 |_,_=>false
def yi0(K:PySem.W.Frag)(a:Addr)(ss:List Str):Bool:=match K.lookup a with
 |some o=>(o.cls == .type "tuple") && (match o.data with
  | .seq its _=>decide (its.size<=sizeLine) && ydj its.toList ss
  |_=>false)
 |none=>false
theorem zfc:∀ {vs:List Value} {ss:List Str},ydj vs ss=true->yj1 (ss.map V.str) vs
 |[],[],_=>.nil
 |[],_::_,h=>by simp[ydj]at h
 |v::vs,[],h=>by cases v<;>simp[ydj]at h
 |v::vs,x::ss,h=>by
  cases v with
  |str y t=>
   simp only[ydj,Bool.and_eq_true]at h;obtain rfl:=eq_of_beq h.1;exact .cons ⟨t,rfl⟩ (zfc h.2)
  |_=>simp[ydj]at h
theorem yj0.of{K:PySem.W.Frag}{a:Addr}{ss:List Str}(h:yi0 K a ss=true):yj0 K a ss:=by
 unfold yi0 at h;cases e:K.lookup a with
 |none=>rw[e]at h;cases h
 |some o=>
  rw[e]at h;simp only[Bool.and_eq_true]at h;obtain⟨h1,h2⟩:=h;cases ed:o.data with
  |seq its n=>
   rw[ed]at h2;simp only[Bool.and_eq_true,decide_eq_true_eq]at h2;exact⟨o,its,n,e,eq_of_beq h1,ed,h2.1,zfc h2.2⟩
  |_=>rw[ed]at h2;cases h2
def yl0(neg:Bool)(ss:List Str)(x:D):M D:=fun σ=>match x with
 | .str z=>.ok (.bl (if neg then !inV (.str z) (ss.map V.str)else inV (.str z) (ss.map V.str))) σ
 |_=>.bad
section
variable{T:Tb}{X:Cx}{e:Expr}{f:Ev->M D}{x:Str}{p pos:Pos}{ss:List Str}
theorem zh0(ss:List Str):(ss.map V.str).all yfn=true:=by simp[yfn]
theorem zw9{a:Addr}(hT:yj0 X.K a ss){neg:Bool}{st:St}{H:Hp}{Q:VK}(h:tF T X (eUn (yl0 neg ss) f) st H Q):tOp (rIn X.K neg) (tF T X f) (tC (.ref a)) st H Q:=by
 obtain⟨μ,ρ,σ,hE,hr,hp⟩:=h;refine⟨μ,ρ,σ,hE,hr,hp.bind fun d σ1 μ1 v H1 _ e1 r1 q1 p1=>?_⟩;show rIn X.K neg v (.ref a) H1 Q;cases d with
 |str z=>rw[Rep]at q1;subst q1;exact⟨a,ss.map V.str,rfl,.inr (.inr hT),rfl,zh0 ss,yjp.here p1 r1 (by rw[Rep])⟩
 |_=>exact p1.elim
theorem zzy(hg:Gl X x)(hG:GlT X.K X.mg x ss)(he:FE T X e f)(hd:(x == ("__debug__" : Str))=false:=by decide):FT T X (.Compare e [.In] [.Name x p] pos) (eT (eUn (yl0 false ss) f)):=by
 obtain⟨a,hm,hT⟩:=hG;intro pins s st H Q I h;refine zu8 zi1 he (zuw hg hm (v:=.ref a) rfl hd) rfl pins s st H Q I ?_;refine zw9 hT ?_;obtain⟨μ,ρ,σ,he,hr,hp⟩:=h;refine⟨μ,ρ,σ,he,hr,hp.bind fun d σ1 μ1 v H1 _ e1 r1 p1 q1=>?_⟩;obtain⟨k,ev,q⟩:=zw8 p1 q1;exact⟨k,ev,q.here r1 rfl⟩
def yhx:V->List V->Hp->VK->Prop:=fun x vs H Q=>∃ a kvs k,x=.ref a/\vs=[kV k]/\Rd H a (.dK kvs)/\Q ((yn0 kvs k).getD .non) H
def yg3(x:D)(xs:List D):M D:=fun σ=>match xs with
 |[y]=>(match ylh y with
  |some k=>(match ykm σ x with
   |some kvs=>.ok ((yfl kvs k).getD .non) σ
   |none=>.bad)
  |none=>.bad)
 |_=>.bad
theorem zts:MtR X "dict.get" yhx:=by
 intro pins s st H x vs v us Q I rx rv h;obtain⟨a,kvs,k,rfl,rfl,hH,q⟩:=h;cases rx;obtain⟨u,rfl,ru⟩:=rv.one;obtain⟨z,hd,ws,rel,dd⟩:=ye1 I.hok hH;refine call_meetsIn PySem.F.slot_dict_get dd.typeIs PySem.F.entry_dict_get (PySem.F.args_dict_get_2 _ _) (meets_dict_get (ztq X.prog X.w) a (ygb ru) hd) ⟨_,dd.mapOf,?_⟩;exact⟨_,H,I.tok _,(rel.val k).getD (show yjs .non Value.none from rfl),q⟩
theorem zoy:yeb T yhx yg3:=by
 intro E μ H σ x xs v vs Q r p q h
 match xs with
 |[]=>exact h.elim
 |[y]=>
  rw[yjv]at q;obtain⟨w,z,rfl,q1,q2⟩:=q;rw[yjv]at q2;subst q2;unfold yg3 at h;cases ek:ylh y with
  |none=>simp only[ek]at h;exact h.elim
  |some k=>
   simp only[ek]at h;cases el:ykm σ x with
   |none=>simp only[el]at h;exact h.elim
   |some kvs=>
    simp only[el]at h;obtain⟨a,us,rfl,g1,g2⟩:=ycv r p el;obtain rfl:=ztc q1 ek;refine⟨a,us,k,rfl,rfl,g1,?_⟩;rcases zlm g2 k with⟨z1,z2⟩|⟨d',v',z1,z2,z3⟩
    ·rw[z1]at h;rw[z2];exact yjp.here h r (by rw[Option.getD_none,Option.getD_none,Rep])
    ·rw[z1]at h;rw[z2];exact yjp.here h r z3
 |_::_::_=>exact h.elim
end
def yjj(l a:Addr):Heap->Prop:=fun h=>PySem.W.KdlKeysView h l a
def yhy:V->List V->Hp->VK->Prop:=fun x xs H Q=>∃ a kvs,x=.ref a/\xs=[]/\Rd H a (.dK kvs)/\∀ l,H l=none->Q (.ref l) (upd H l (.ext (yjj l a)))
def yh5:List V->Hp->VK->Prop:=fun xs H Q=>∃ (vw a:Addr) (kvs:List (Key × V)) (is:List Int),xs=[.ref vw]/\H vw=some (.ext (yjj vw a))/\Rd H a (.dK kvs)/\kvs.map (·.1)=is.map Sum.inl/\is.length<64/\∀ l,H l=none->Q (.ref l) (upd H l (.lst ((ynh is).map V.int)))
section
variable{T:Tb}{X:Cx}
theorem ztt:MtR X "dict.keys" yhy:=by
 intro pins s st H x vs v us Q I rx rv h;obtain⟨a,kvs,rfl,rfl,hH,q⟩:=h;cases rx;cases rv;obtain⟨z,hd,ws,rel,dd⟩:=ye1 I.hok hH;refine call_meetsIn PySem.F.slot_dict_keys dd.typeIs PySem.F.entry_dict_keys (PySem.F.args_dict_keys_1 _) (PySem.W.kdl_meets_keys (ztq X.prog X.w) a hd) ⟨⟨ws,dd⟩,?_⟩;refine⟨.ref s.heap.objs.size,_,I.laid (t':=s.toks) (o:=.ext (yjj s.heap.objs.size a)) (fun b o e=>Heap.get?_push_of_some _ e) (Nat.le_refl _) ?_,rfl,q _ (I.hok.fresh (Nat.le_refl _))⟩;refine⟨⟨_,zl7 _ _ (fun z=>by cases z),rfl,rfl⟩,⟨_,zl7 _ _ (fun z=>by cases z)⟩,fun h1 h2 p k=>?_⟩;obtain⟨o,e,c⟩:=p;exact⟨o,k o e,c⟩
theorem zhf(hc:X.calm=true):yd2 X (.builtin "sorted") yh5:=by
 intro pins s σ H xs us Q I r h;obtain⟨vw,a,kvs,is,rfl,hvw,hH,hks,h64,q⟩:=h;obtain⟨u,rfl,rx⟩:=yi2 r;cases rx;obtain⟨z,hd,ws,rel,dd⟩:=ye1 I.hok hH;have hv0:PySem.W.KdlKeysView s.heap vw a:=(I.hok vw _ hvw).1;obtain⟨ep,hat⟩:=dd.dictAt;have hk:=zte rel;have hlw:ws.length=kvs.length:=by have:=congrArg List.length hk;simpa using this
 have hlk:kvs.length=is.length:=by have:=congrArg List.length hks;simpa using this
 have hn:ws.length<=sizeLine:=by omega
 refine Calls.call_function_entry kind_sorted plain_sorted entry_sorted (args_sorted1 _) ?_;unfold Builtin.«sorted»;refine wpAny_bind (m:=checkCount "sorted" 1 1 _) (wpAny_pure ?_);refine wpAny_bind (zdf (A:=X.A.in1) (PySem.W.kdl_keys (knd:=ztq X.prog X.w) (r:=vw) (d:=a) (kvs:=ws) (ep:=ep)) (I.ok.hd hc) ⟨hv0,hat⟩ hn fun h' tk acc kp hsz hacc=>?_);have hl:acc.toList.length=ws.length:=by rw[Array.length_toList];exact hacc.1
 have hv:yj1 ((ws.map (·.1)).map kV) acc.toList:=zjz (by rw[List.length_map];exact hl) fun j v k e1 e2=>by
  obtain⟨k',x,hx,hk'⟩:=hacc.2 j v (by rw[<-Array.getElem?_toList];exact e1);rw[List.getElem?_map,hx]at e2;cases e2;exact ztb hk'
 rw[hk,hks]at hv;have hI:=zh8 hv;refine wpAny_bind (wpAny_newList ?_ (by rw[hl];exact hn));have hoL:(h'.push (seqObj "list" acc.toList.toArray 0)).get? h'.objs.size=some (seqObj "list" acc.toList.toArray 0):=Heap.get?_push_size _ rfl;refine wpAny_bind (wpAny_holding (wpAny_call_entry slot_list_sort ⟨_,hoL,rfl⟩ entry_list_sort (list_sort_tree hoL hI (by omega) fun out ns' a1 a2 a3=>⟨_,rfl,?_⟩) (args_list_sort _)));refine wpAny_pure ⟨_,rfl,?_⟩;have en:ns'=ynh is:=zvd (a2.trans (zjo is).symm) a3 (zw2 is);subst en;have hls:=(zjo is).length_eq;obtain⟨e,he⟩:=sortedHeap_at (out:=out) hoL;exact⟨.ref h'.objs.size,_,I.laid (t':=tk) (fun b o eb=>by
  have lt:b<h'.objs.size:=Heap.lt_size (kp b o eb);rw[sortedHeap_old (Nat.ne_of_lt lt) (by rw[size_push'];exact Nat.lt_succ_of_lt lt)];exact Heap.get?_push_of_some _ (kp b o eb)) hsz (show yd7 X.prog X.w _ _ _ (.lst ((ynh is).map V.int))from⟨by rw[List.length_map,hls];exact Nat.le_trans (Nat.le_of_lt h64) (by decide),out.toList,e,zjy a1,by rw[Array.toArray_toList];exact he⟩),rfl,q _ (I.hok.fresh hsz)⟩
theorem zfm{e:Expr}{f:Ev->M D}{p pos apos cpos:Pos}(hc:X.calm=true)(hg:Gl X "sorted")(hm:X.mg "sorted" = none)(he:FE T X e f)(hbase:attributeBase e "keys" X.env (eval e X.env)=eval e X.env:=by rfl)(hline:(apos.endLine == cpos.line)=true:=by rfl)
  (hs2:starEach [.Call (.Attribute e "keys" apos) [] [] cpos] X.env=(false,eval (.Call (.Attribute e "keys" apos) [] [] cpos) X.env)::starEach [] X.env:=by rfl) (hpl2:(backTo pos (starEach [] X.env)).any (·.1)=false:=by rfl) :
  FE T X (.Call (.Name "sorted" p) [.Call (.Attribute e "keys" apos) [] [] cpos] [] pos) (eUn (fun x=>zno [x]) f):=by
 intro pins s st H Q I h;refine znq (zhf hc) hg hm L4.zec (zuq (zut PySem.F.plainAttrs_dict PySem.F.slot_dict_keys PySem.F.type_dict_keys ztt he hbase hline) yby hs2) (by decide) (by decide) hs2 hpl2 pins s st H Q I ?_;obtain⟨μ,ρ,σ,hE,hr,hp⟩:=h;refine⟨μ,ρ,σ,hE,hr,hp.bind fun d σ1 μ1 v H1 _ e1 r1 q1 p1=>?_⟩;unfold zno at p1;cases e:ykm σ1 d with
 |none=>simp only[e]at p1;exact p1.elim
 |some kvs=>
  simp only[e]at p1;cases ei:ygd kvs with
  |none=>simp only[ei]at p1;exact p1.elim
  |some is=>
   simp only[ei]at p1;by_cases hc:is.length<64
   ·rw[if_pos hc]at p1;obtain⟨a,us,rfl,g1,g2⟩:=ycv r1 q1 e;refine⟨⟨a,us,rfl,g1⟩,a,us,rfl,rfl,g1,fun l hl=>⟨l,a,us,is,rfl,zpn,?_,zig g2 ei,hc,fun l2 hl2=>?_⟩⟩
    ·unfold Rd;rw[ydx (by rcases g1 with g|⟨_,g⟩<;>exact zf5 g hl)];exact g1
    ·exact ztz (yjp.mono (zro hl) p1) (r1.fresh hl) (zn7 _) hl2
   ·rw[if_neg hc]at p1;exact p1.elim
def zyg(kvs:List (Key × D))(k:Key):List (Key × D):=kvs.filter fun kv=>decide (kv.1≠k)
theorem zkt{μ:List Addr}{H:Hp}(k:Key):∀ {kvs:List (Key × D)} {us:List (Key × V)},yju T μ H kvs us->yju T μ H (zyg kvs k) (ye2 us k)
 |[],_,h=>by unfold yju at h;cases h;exact .nil
 |p::kvs,_,h=>by
  unfold yju at h;cases h with
  |@cons _ q _ us a b=>
   have ih:yju T μ H (zyg kvs k) (ye2 us k):=zkt k b;unfold zyg ye2 at *;rw[List.filter_cons,List.filter_cons,a.1];split
   ·exact .cons a ih
   ·exact ih
def yh0:V->List V->Hp->VK->Prop:=fun x vs H Q=>∃ a kvs k v,x=.ref a/\vs=[kV k]/\H a=some (.dK kvs)/\yn0 kvs k=some v/\Q v (upd H a (.dK (ye2 kvs k)))
theorem ztu:MtR X "dict.pop" yh0:=by
 intro pins s st H x vs v us Q I rx rv h;obtain⟨a,kvs,k,y,rfl,rfl,hH,hv,q⟩:=h;cases rx;obtain⟨u,rfl,ru⟩:=rv.one;exact yez I hH ru hv (.inl rfl) fun w' s' I' r'=>⟨y,_,I',r',q⟩
def yha(x:D)(xs:List D):M D:=fun σ=>match x,xs with
 | .ref n,[y]=>(match ylh y with
  |some k=>(match σ[n]? with
   |some (.dic kvs)=>(match yfl kvs k with
    |some d=>.ok d (σ.set n (.dic (zyg kvs k)))
    |none=>.bad)
   |_=>.bad)
  |none=>.bad)
 |_,_=>.bad
theorem zo4:yeb T yh0 yha:=by
 intro E μ H σ x xs v vs Q r p q h;cases x with
 |ref n=>
  match xs with
  |[]=>exact h.elim
  |[y]=>
   unfold yha at h;dsimp only at h;cases ek:ylh y with
   |none=>simp only[ek]at h;exact h.elim
   |some k=>
    simp only[ek]at h;cases es:σ[n]? with
    |none=>rw[es]at h;exact h.elim
    |some ob=>
     rw[es]at h;cases ob with
     |dic kvs=>
      dsimp only at h;obtain⟨a,rfl,hn,us,h3,h4⟩:=r.at p es;rw[yjv]at q;obtain⟨w,z,rfl,q1,q2⟩:=q;rw[yjv]at q2;subst q2;obtain rfl:=ztc q1 ek;rcases zlm h4 k with⟨z1,_⟩|⟨d',v',z1,z2,z3⟩
      ·rw[z1]at h;exact h.elim
      ·rw[z1]at h;dsimp only at h;have ex:Ext μ H μ (upd H a (.dK (ye2 us k))):=zhw (List.mem_of_getElem? hn) h3 (fun _ z=>by cases z) (fun _ _ z=>by cases z);have wr:=r.write (o:=.dK (ye2 us k)) (ob:=.dic (zyg kvs k)) hn ⟨_,zpn,yju.mono ex (zkt k h4)⟩;exact⟨a,us,k,v',rfl,rfl,h3,z2,h μ v' _ wr.1 wr.2 (Rep.mono wr.1 _ _ z3)⟩
     |lst _=>exact h.elim
     |ins _ _=>exact h.elim
  |_::_::_=>exact h.elim
 |_=>cases xs<;>exact h.elim
end
theorem mkT{K:PySem.W.Frag}{mg:Str->Option Value}{h:Heap}{x:Str}{C:Addr}{ss:List Str}(X:K.In h)(G:h.Ns mainGlobals mg)(a:PySem.W.nsIn K mainGlobals x=some (some (.ref C)))(b:yi0 K C ss=true):GlT K mg x ss:=⟨C,PySem.W.mg_of X G a,yj0.of b⟩
section
variable{T:Tb}{X:Cx}
def ymo:R2:=fun x y H Q=>∃ a b ka,x=.ref a/\y=.ref b/\Rd H a (.dK ka)/\Rd H b (.dK [])/\Q (.bl (!ka.isEmpty)) H
theorem ybu(hu:X.A.units+9<cLine):OpR X (compareOp .NotEq) ymo:=by
 intro pins s st H x y v u Q I rx ry h;obtain⟨a,b,ka,rfl,rfl,ha,hb,q⟩:=h;obtain rfl:v=Value.ref a:=rx;obtain rfl:u=Value.ref b:=ry;obtain⟨_,na,va,ra,da⟩:=ye1 I.hok ha;obtain⟨_,nb,vb,rb,db⟩:=ye1 I.hok hb;cases rb;cases ka with
 |nil=>
  cases ra;exact PySem.W.keq_ne (r:=true) na nb da db (by omega) (fun _=>.nil) ⟨.bl false,H,I,rfl,q⟩
 |cons p ka=>
  cases ra with
  |cons r1 r2=>exact PySem.W.keq_ne (r:=true) na nb da db (by omega) (fun z=>by simp at z) ⟨.bl true,H,I,rfl,q⟩
def yl6(x y:D):M D:=fun σ=>match ykm σ x with
 |some k1=>(match ykm σ y with
  |some []=>.ok (.bl (!k1.isEmpty)) σ
  |_=>.bad)
 |none=>.bad
theorem zwq:yec T ymo yl6:=by
 intro E μ H σ x y v u Q r p q h;unfold yl6 at h;cases e1:ykm σ x with
 |none=>rw[e1]at h;exact h.elim
 |some k1=>
  rw[e1]at h;dsimp only at h;cases e2:ykm σ y with
  |none=>rw[e2]at h;exact h.elim
  |some k2=>
   rw[e2]at h;cases k2 with
   |cons _ _=>exact h.elim
   |nil=>
    dsimp only at h;obtain⟨a,va,rfl,h1,g1⟩:=ycv r p e1;obtain⟨b,vb,rfl,h2,g2⟩:=ycv r q e2;unfold yju at g2;cases g2;refine⟨a,b,va,rfl,rfl,h1,h2,yjp.here h r ?_⟩;rw[Rep];unfold yju at g1;cases g1<;>rfl
end
section
variable{T:Tb}{X:Cx}
def yd1(i j:Int):Prop:=0<j/\j<2 ^ 60
theorem znp:OpR X (binaryOp .FloorDiv) (rI yd1 fun i j=>.int (i / j)):=opI fun i j _ _ _ _ _ hc q=>by
 have h1:(0:Int)<j:=hc.1;have h2:j<2 ^ 60:=hc.2;refine floordiv_int (by omega) (by rw[Int.fdiv_eq_ediv_of_nonneg i (by omega)];exact q) (.inl (PyProof.noPylong_of_log2 ?_));have h0:j.natAbs≠0:=by omega
 have:j.natAbs.log2<60:=(Nat.log2_lt h0).mpr (by omega);omega
noncomputable def yeq(_ j:Int):Bool:=hide (decide (0<j) && decide (j<2 ^ 60))
noncomputable abbrev yg2:=oIC yeq (fun i j=>i / j)
theorem zox:yec T (rI yd1 fun i j=>.int (i / j)) yg2:=yc8 fun i j h=>by
 simp only[yeq,zsv,Bool.and_eq_true,decide_eq_true_eq]at h;exact h
theorem zng(i j:Int)(h:0<j)(h2:j<2 ^ 60)(σ:Sto):yg2 (.int i) (.int j) σ=.ok (.int (i / j)) σ:=ybc (by simp only[yeq,zsv,Bool.and_eq_true,decide_eq_true_eq];exact⟨h,h2⟩)
def yhz:List V->Hp->VK->Prop:=fun xs H Q=>∃ a kvs,xs=[.ref a]/\Rd H a (.dK kvs)/\Q (.int kvs.length) H
theorem zha:yd2 X (.builtin "len") yhz:=by
 intro pins s σ H xs us Q I r h;obtain⟨a,kvs,rfl,e,q⟩:=h;obtain⟨u,rfl,ru⟩:=yi2 r;cases ru;exact yey I e fun t s' I'=>⟨.int kvs.length,H,I',⟨t,rfl⟩,q⟩
def yg6(xs:List D):M D:=fun σ=>match xs with
 |[x]=>(match ykm σ x with
  |some kvs=>.ok (.int kvs.length) σ
  |none=>.bad)
 |_=>.bad
theorem zo0:zpy T yhz yg6:=by
 intro E μ H σ xs vs Q r p h
 match xs with
 |[]=>exact h.elim
 |[x]=>
  rw[yjv]at p;obtain⟨v,w,rfl,p1,p2⟩:=p;rw[yjv]at p2;subst p2;unfold yg6 at h;cases e:ykm σ x with
  |none=>simp only[e]at h;exact h.elim
  |some kvs=>
   simp only[e]at h;obtain⟨a,us,rfl,g1,g2⟩:=ycv r p1 e;refine⟨a,us,rfl,g1,yjp.here h r ?_⟩;unfold yju at g2;rw[Rep,Paired.length g2]
 |_::_::_=>exact h.elim
theorem zh3{elt iter tgt:Expr}{ifs:List Expr}{scope:Scope}{pos spos py:Pos}{x y z0:Str}{i:Nat}{M':List Str}{ix:List Nat}{src:Ev->M Src}{tg:D->Ev->Option Ev}{fi:Ev->M Bool}{fe:Ev->M D}
  (hN:X.N.Nodup) (hi:X.N[i]?=some y) (hx:Loc X.env.scope y)
  (hc:X.calm=true) (L:LcOk X x M' ix scope) (hsrc:FI T X tgt iter src)
  (htg:∀ cl C s₀ H₀ ex,FG T (blk X (x::z0::M') scope cl C s₀ H₀ ex) tgt tg)
  (hif:∀ cl C s₀ H₀ ex,FIf T (blk X (x::z0::M') scope cl C s₀ H₀ ex) ifs fi)
  (helt:∀ cl C s₀ H₀ ex,FE T (blk X (x::z0::M') scope cl C s₀ H₀ ex) elt fe)
  (hs:∀ y,foldedSetIterable iter X.env y=pure y:=by intro _;rfl)
  (hsw:swapsWith (.ListComp elt [⟨tgt,iter,ifs,0⟩] scope pos) (some (.Name y py)) spos.line X.env=pure true:=by rfl)
  (hf:X.fn y=true\/X.env.scope.names.lookup y=some .local:=by first|exact .inl rfl|exact .inr rfl|assumption) :
  FS T X (.Assign [.Name y py] (.ListComp elt [⟨tgt,iter,ifs,0⟩] scope pos) spos) (ym6 i (ykq src ix tg fi fe)):=by
 intro pins s st H D I h;obtain⟨μ,ρ,σ,hE,hr,hp0⟩:=h;have hp:yjp T (XE X st) (Rep T) μ H (ykq src ix tg fi fe ρ σ) (fun v H1=>D.nx (st.set i (some v)) H1):=hp0.xs hE fun d σ1 μ1 v H1 _ e1 r1 q1 p1=>yjp.here (g:=Gl2.nx (st.set i (some v))) p1 r1 ((hE.mono e1).set i q1);rw[exec_Assign_Name_used _ _ _ _ hsw];refine wpAny_bind (wpAny_standAt (wpAny_bind ?_));show wpAny _ X.A (do let _ <-comprehension (.ListComp elt [⟨tgt,iter,ifs,0⟩] scope pos) scope X.env _ (newList []) false (eval iter X.env) (some (assign (.Name y py) X.env))) _ _ s;refine wpAny_bind (wpAny_mono (wpAny_comprehension_free (use:=some (assign (.Name y py) X.env)) (Q:=fun _ s'=>SP X pins D .next s') rfl hs (zfi X.env scope (zqy I L)) L.kind (fun y hy e=>?_)
  ?_) (fun _ s' hq=>wpAny_pure (wpAny_pure hq)) fun _ _ e=>e)
 ·have q:=List.all_eq_true.mp L.names y hy;rw[e]at q;simp only[beq_self_eq_true,Bool.not_true,Bool.false_or]at q;exact eq_of_beq q
 have h1:=hsrc pins s st H (fun J H2=>∃ nx μ2 σ2,Ext μ H μ2 H2/\Rel T μ2 H2 σ2/\yee T μ2 H2 nx J/\yjp T (XE X st) (Rep T) μ2 H2 (bnd (yau nx σ2.length tg fi fe 1001 0 (zxo ix ρ)) (fun _=>ret (.ref σ2.length)) (σ2++[Ob.lst []])) (fun v H1=>D.nx (st.set i (some v)) H1)) I
  ⟨μ,ρ,σ,hE,hr,hp.bind fun nx σ1 μ1 J H1 _ e1 r1 q1 p1=>⟨nx,μ1,σ1,e1,r1,q1,p1⟩⟩
 refine thn h1 fun v s1 h2=>thn h2 fun itv s2 h3=>?_;obtain⟨it,fp,tn,J,H2,rfl,I2,TT,st2,f2,nx,μ2,σ2,ex2,r2,so,p2⟩:=h3;refine wpAny_newObj_type (wpAny_newFunctionEnv (ya6 L) (by intro y hy;simp at hy) (fun h₁ hns₁ hsb₁=>?_) L.kind);have I3:=I2.lnew (ys:=[]) (its:=[]) (t':=s2.toks) .nil (by simp);have fr2:H2 s2.heap.objs.size=none:=I2.hok.fresh (Nat.le_refl _);have r3:=r2.push (p:=s2.heap.objs.size) (o:=.lst []) (ob:=.lst []) fr2 ⟨[],zpn,yjv.nil⟩;have ex3:Ext μ2 H2 (μ2++[s2.heap.objs.size]) (upd H2 s2.heap.objs.size (.lst [])):=zk8 fr2;have hsz:s2.heap.objs.size<(s2.heap.push { cls:=.type "list",data:=.seq ([]:List Value).toArray }).objs.size:=by rw[Heap.size_push];exact Nat.lt_succ_self _
 have kp:∀ b o,(s2.heap.push { cls:=.type "list",data:=.seq ([]:List Value).toArray }).get? b=some o->h₁.get? b=some o:=fun b o e=>hsb₁.extBut b o (Nat.ne_of_lt (Heap.lt_size e)) (Heap.get?_push_of_some _ e);have hfp:∀ b∈fp,yjh X pins (upd H2 s2.heap.objs.size (.lst [])) b/\b<(s2.heap.push { cls:=.type "list",data:=.seq ([]:List Value).toArray }).objs.size:=fun b hb=>by
  obtain⟨o,e,_⟩:=TT.obj 0 _ st2 b hb;have lt:=Heap.lt_size e;exact⟨⟨by rw[ydx (Nat.ne_of_lt lt)];exact(f2 b hb).1,(f2 b hb).2⟩,Nat.lt_trans lt hsz⟩
 refine zms (s3:={ s2 with heap:=s2.heap.push { cls:=.type "list",data:=.seq ([]:List Value).toArray },toks:=s2.toks }) (n:=σ2.length) (D0:=s2.heap.objs.size) hc L htg hif helt I3 hfp hns₁ kp TT (TT.keep 0 _ _ st2 fun b hb o e=>kp b o (Heap.get?_push_of_some _ e))
  (fun μ H σ i ex r=>so μ H σ i (ex3.trans ex) r) ((hE.mono ex2).mono ex3) r3 (by rw[<-r2.len];simp) (p2.mono ex3) (fun s6 H' m6 hm6 hC' hu0 hos hok6 hb6 hq=>?_)
 have I6:=L2.Inv.call' (s':=s6) (ch:=fp) I3 hos hu0 hok6 hb6 (fun b hb=>⟨(hfp b hb).1.2.2.2.1,(hfp b hb).1.2.1,(hfp b hb).1.2.2.2.2.1,(hfp b hb).1.2.2.2.2.2⟩);have ltL:X.env.locals<(s2.heap.push { cls:=.type "list",data:=.seq ([]:List Value).toArray }).objs.size:=I3.lt;have ltC:∀ z c,X.env.cells.lookup z=some c->c<(s2.heap.push { cls:=.type "list",data:=.seq ([]:List Value).toArray }).objs.size:=fun z c e=>by
  obtain⟨v,q⟩:=I3.cell z c e;exact q.lt
 show wpAny _ X.A (assign (.Name y py) X.env (.ref s2.heap.objs.size)) _ _ s6;refine wpAny_assign_Name (zjs (v:=.ref s2.heap.objs.size) I6 hN hi hx rfl (fun s7 I7 ⟨a,sb,ha⟩=>?_) hf);have neC:a≠(s2.heap.push { cls:=.type "list",data:=.seq ([]:List Value).toArray }).objs.size:=by
  rcases ha with rfl|ha
  ·exact Nat.ne_of_lt ltL
  ·exact Nat.ne_of_lt (ltC _ _ ha)
 refine⟨m6,hm6.sameBut sb (Ne.symm neC),fun h8 hs8=>?_⟩;refine⟨st.set i (some (.ref s2.heap.objs.size)),H',?_,hq⟩;exact I7.turned (t':=s7.toks) (it:=(s2.heap.push { cls:=.type "list",data:=.seq ([]:List Value).toArray }).objs.size) (fun b o hb e=>(hs8.2 b hb).trans e) hC' (Nat.ne_of_gt ltL) (.inr (Nat.le_trans I3.sz (Nat.le_refl _))) (fun z c e=>Nat.ne_of_lt (ltC z c e)) (fun p hp=>Nat.ne_of_lt (Heap.lt_size (I3.pin p hp).1))
end
end L4
set_option maxHeartbeats 0
namespace K33
open PySem PySem.Spec PyProof.Rows L2 L4
def top(i:Nat):Stmt:=PySem.Challenge.pw_sidebook_k33_when_a_paper_stands.main.body.getD i (.Pass ⟨0,0,0,0⟩)
structure Txt(K:PySem.W.Frag)(mg:Str->Option Value)(ca:Nat->Addr):Prop where
 f__law_cell_at:yd5 K mg "_law_cell_at" (top 23) ["_law_script", "_law_k"]
 f__law_mixed:yd5 K mg "_law_mixed" (top 24) ["_law_cell", "_law_k"]
 f__law_amount:yd5 K mg "_law_amount" (top 25) ["_law_number"]
 f__law_tie:yd5 K mg "_law_tie" (top 26) ["_law_number", "_law_word", "_law_at"]
 f__law_stand:yd5 K mg "_law_stand" (top 27) ["_law_cell", "_law_number", "_law_at"]
 f__law_pot:yd5 K mg "_law_pot" (top 28) ["_law_cell", "_law_at", "_law_k_pot"]
 f__law_view:yd5 K mg "_law_view" (top 29) ["_law_script"]
 f__law_chosen:yd5 K mg "_law_chosen" (top 33) ["_law_view_here", "_law_cell"]
 f__law_lenient:yd5 K mg "_law_lenient" (top 37) ["_law_view_here", "_law_chosen_here"]
 f__law_standing:yd5 K mg "_law_standing" (top 30) ["_law_view_here", "_law_side", "_law_seen", "_law_tie_here"]
 f__law_ties:yd5 K mg "_law_ties" (top 31) ["_law_view_here", "_law_chosen_here"]
 f__law_fates:yd5 K mg "_law_fates" (top 35) ["_law_ties_here", "_law_cell"]
 f__law_counts:yd5 K mg "_law_counts" (top 32) ["_law_standing_here", "_law_tie_here", "_law_fate", "_law_every"]
 f__law_own:yd5 K mg "_law_own" (top 38) ["_law_view_here", "_law_chosen_here"]
 f__law_right:yd5 K mg "_law_right" (top 36) ["_law_ties_here", "_law_fates_here"]
 f__law_places:yd5 K mg "_law_places" (top 34) ["_law_view_here", "_law_chosen_here"]
 f_shown_in_time:yd5 K mg "shown_in_time" (top 4) ["tie", "shown"]
 f_lot_of_paid:yd5 K mg "lot_of_paid" (top 8) ["view", "seen", "tie"]
 f_lot_of_due:yd5 K mg "lot_of_due" (top 9) ["view", "seen", "tie"]
 f_lot_of:yd5 K mg "lot_of" (top 10) ["view", "pot", "tie"]
 f_read_stand:yd5 K mg "read_stand" (top 11) ["view", "pot", "one"]
 f_read_pots:yd5 K mg "read_pots" (top 12) ["view"]
 f_is_whole:yd5 K mg "is_whole" (top 1) ["thing"]
 f_is_between:yd5 K mg "is_between" (top 2) ["thing", "least", "most"]
 f_tells_places:yd5 K mg "tells_places" (top 19) ["readings", "chosen"]
 f_chosen_readings:yd5 K mg "chosen_readings" (top 13) ["readings", "chosen"]
 f_lots_by_word:yd5 K mg "lots_by_word" (top 14) ["reads"]
 f_fates_of:yd5 K mg "fates_of" (top 15) ["lots"]
 f_tells_fates:yd5 K mg "tells_fates" (top 20) ["by_word", "fates"]
 f_comes_by_fate:yd5 K mg "comes_by_fate" (top 16) ["lot", "fate", "every"]
 f_sum_by_fate:yd5 K mg "sum_by_fate" (top 17) ["lots", "fate", "every"]
 f_sum_of:yd5 K mg "sum_of" (top 18) ["reads", "by_word", "fates", "every"]
 f_stands_up:yd5 K mg "stands_up" (top 21) ["view", "told"]
 f_View___init__:HasM K (ca 0) "__init__" "View.__init__" (ygs (top 7) 0) ["self", "every", "look", "words", "pots"] (ca 1)
 f_law:yd5 K mg "law" (top 39) ["_law_script"]
 n_all:mg "all" = none
 n_bool:mg "bool" = none
 n_dict:mg "dict" = none
 n_int:mg "int" = none
 n_isinstance:mg "isinstance" = none
 n_len:mg "len" = none
 n_list:mg "list" = none
 n_max:mg "max" = none
 n_range:mg "range" = none
 n_set:mg "set" = none
 n_sorted:mg "sorted" = none
 n_sum:mg "sum" = none
 n_tuple:mg "tuple" = none
 n_zip:mg "zip" = none
 c_FIRM:GlT K mg "FIRM" ["won", "sure", "back"]
 cl_View:L2.Cls K (ca 0)
 na_View_pots:L2.zxh K (ca 0) "pots"
 na_View_last_look:L2.zxh K (ca 0) "last_look"
 na_View_known:L2.zxh K (ca 0) "known"
 na_View_every:L2.zxh K (ca 0) "every"
 m_View:mg "View" = some (.ref (ca 0))
 mk_View:L2.Mk K (ca 0) (ca 1)
section
variable{P:Program}{w:World}{K:PySem.W.Frag}{mg:Str->Option Value}{base:Heap}{ca:Nat->Addr}
theorem scD{N P:List Str}{sc:Scope}(a:sc.kind=.function)(b:sc.isCoroutine=false)(c:sc.isGenerator=false)(h:N.Nodup/\N.take P.length=P/\(∀ x∈P,sc.names.lookup x=some .local\/sc.names.lookup x=some .cell)/\∀ y∈sc.names,y.2≠.free):FnScope N P sc:=⟨a,b,c,h.1,h.2.1,h.2.2.1,h.2.2.2⟩
abbrev BD(x q:Str)(s:Stmt)(ps:List Str):Prop:=∀ (kV doc pm:Value) (an:Option Addr) (cdv ct:Value) (us:List Value),us.length=ps.length->bindArgs (PySem.W.fnOf x q (zq7 s) (zq8 s) (zko s) .none kV doc pm an cdv ct) ⟨us,[]⟩=pure (ps.zip us)
abbrev zbw:Stmt:=top 23
noncomputable def zbk:Ev->M Fl:=
 (ym5 (sIf (eT (yko oLt (ykv 1) (ye6 yl3 (yeg (ykv 0) yj3)))) (ym4 (yko oIx (ykv 0) (ykv 1))) ym2)
 (ym4 (eC (.int 0))))
noncomputable def f__law_cell_at:List D->M D:=hide fun ds=>frz (run 2 zbk ds)
theorem za9:FnScope ["_law_script", "_law_k"] ["_law_script", "_law_k"] (zko zbw):=scD rfl rfl rfl (by decide +kernel)
theorem zas:BD "_law_cell_at" "_law_cell_at" zbw ["_law_script", "_law_k"]:=
 fun _ _ _ _ _ _ us hl=>match us,hl with|[_,_],_=>rfl
theorem za1(Xt:Txt K mg ca):OkF ⟨K,ca⟩ P w mg base 1 "_law_cell_at" ["_law_script", "_law_k"] f__law_cell_at:=
 OkF.hide (OkF.frz (yhc Xt.f__law_cell_at za9 fun _ _ _ _ _ _ _ hr=>
  (zlz (yfv (zzx yhg yde (zzf 1) (zla zdd (zwn rfl) rfl Xt.n_len PySem.boot_len (zrp (zzf 0) zy0)) (ya7 _)) (zsm (zzv (yff ylg (ydc rfl) (zzf 0) (zzf 1) (fun _ _=>rfl)))) zsl)
  (zsm (zzv zy5)))))
abbrev zdv:Stmt:=top 24
noncomputable def zdh:Ev->M Fl:=
 (ym5 (sIf (eT (yko oEq (yko yl4 (ykv 0) (eC (.int 2))) (eC (.int 0)))) (ym5 (ym6 2 (yko ylw (ykv 0) (eC (.int 2))))
 (ym5 (ym1 (yne (ykv 1)) (tgN 3) (ym6 2 (yko yg2 (ykv 2) (eC (.int 2147483647)))))
 (sIf (bOr (eT (yko oEq (ykv 1) (eC (.int 0)))) (eT (yko oGt (ykv 2) (eC (.int 0))))) (ym4 (yko yl4 (ykv 2) (eC (.int 2147483647)))) ym2))) ym2)
 (ym5 (ym6 4 (yko yl4 (yko yl5 (yko yls (yko yls (ykv 0) (yko yl5 (eC (.int 7919)) (ykv 1))) (eC (.int 1))) (eC (.int 48271))) (eC (.int 2147483647))))
 (ym5 (ym6 4 (yko yl4 (yko yl5 (ykv 4) (yko yls (yko ylw (ykv 4) (eC (.int 1009))) (eC (.int 69621)))) (eC (.int 2147483647))))
 (ym4 (yko yl4 (yko yl5 (ykv 4) (yko yls (yko ylw (ykv 4) (eC (.int 2003))) (eC (.int 40692)))) (eC (.int 2147483629)))))))
noncomputable def f__law_mixed:List D->M D:=hide fun ds=>frz (run 5 zdh ds)
theorem zc1:FnScope ["_law_cell", "_law_k", "_law_left", "_law_j", "_law_number"] ["_law_cell", "_law_k"] (zko zdv):=scD rfl rfl rfl (by decide +kernel)
theorem zb8:BD "_law_mixed" "_law_mixed" zdv ["_law_cell", "_law_k"]:=
 fun _ _ _ _ _ _ us hl=>match us,hl with|[_,_],_=>rfl
theorem zcn(Xt:Txt K mg ca):OkF ⟨K,ca⟩ P w mg base 1 "_law_mixed" ["_law_cell", "_law_k"] f__law_mixed:=
 OkF.hide (OkF.frz (yhc Xt.f__law_mixed zc1 fun _ _ _ _ _ _ _ hr=>
  (zlz (yfv (zzx (ybo (hu9 hr)) ync (yfi ybr zwo (zzf 0) zy5) zy5 (ya7 _)) (zlz (zzw (i:=2) zc1.nd rfl (Or.inl rfl) (yfi zum zwl (zzf 0) zy5))
  (zlz (zzu zi2 rfl (zlj rfl Xt.n_range (zzf 1)) (zry (i:=3) zc1.nd rfl (Or.inl rfl)) (zsm (zzw (i:=2) zc1.nd rfl (Or.inl rfl) (yfi znp zox (zzf 2) zy5))))
  (zsm (yfv (L2.PW.pt (yfw (zzx (ybo (hu9 hr)) ync (zzf 1) zy5 (ya7 _)) (zz3 (zzx yhe yda (zzf 2) zy5 (ya7 _))))) (zsm (zzv (yfi ybr zwo (zzf 2) zy5))) zsl)))) zsl)
  (zlz (zzw (i:=4) zc1.nd rfl (Or.inl rfl) (yfi ybr zwo (yfi ybs zwp (yfi (zuk rfl) ync (yfi (zuk rfl) ync (zzf 0) (yfi ybs zwp zy5 (zzf 1))) zy5) zy5) zy5))
  (zlz (zzw (i:=4) zc1.nd rfl (Or.inl rfl) (yfi ybr zwo (yfi ybs zwp (zzf 4) (yfi (zuk rfl) ync (yfi zum zwl (zzf 4) zy5) zy5)) zy5))
  (zsm (zzv (yfi ybr zwo (yfi ybs zwp (zzf 4) (yfi (zuk rfl) ync (yfi zum zwl (zzf 4) zy5) zy5)) zy5))))))))
abbrev zct:Stmt:=top 25
noncomputable def zcf:Ev->M Fl:=
 (ym5 (sIf (eT (yko oEq (yko yl4 (ykv 0) (eC (.int 3))) (eC (.int 0)))) (ym4 (yko yls (eC (.int 1)) (yko yl4 (yko ylw (ykv 0) (eC (.int 3))) (eC (.int 9))))) ym2)
 (ym4 (yko yls (eC (.int 1)) (yko yl4 (ykv 0) (yko yl8 (eC (.int 10)) (eC (.int 12)))))))
noncomputable def f__law_amount:List D->M D:=hide fun ds=>frz (run 1 zcf ds)
theorem zb0:FnScope ["_law_number"] ["_law_number"] (zko zct):=scD rfl rfl rfl (by decide +kernel)
theorem zbd:BD "_law_amount" "_law_amount" zct ["_law_number"]:=
 fun _ _ _ _ _ _ us hl=>match us,hl with|[_],_=>rfl
theorem zbo(Xt:Txt K mg ca):OkF ⟨K,ca⟩ P w mg base 1 "_law_amount" ["_law_number"] f__law_amount:=
 OkF.hide (OkF.frz (yhc Xt.f__law_amount zb0 fun _ _ _ _ _ _ _ hr=>
  (zlz (yfv (zzx (ybo (hu9 hr)) ync (yfi ybr zwo (zzf 0) zy5) zy5 (ya7 _)) (zsm (zzv (yfi (zuk rfl) ync zy5 (yfi ybr zwo (yfi zum zwl (zzf 0) zy5) zy5)))) zsl)
  (zsm (zzv (yfi (zuk rfl) ync zy5 (yfi ybr zwo (zzf 0) (yfi ybv zws zy5 zy5))))))))
abbrev zgj:Stmt:=top 26
noncomputable def zfq:Ev->M Fl:=
 (ym4 (yku (yeg (yko yl4 (ykv 0) (eC (.int 2))) (yeg (eFn 1 f__law_amount [] (yeg (yko ylw (ykv 0) (eC (.int 2))) yj3)) (yeg (ykv 1) (yeg (ye6 yg8 (yeg (eC (.int 0)) (yeg (yko yma (yko yls (ykv 2) (yko yl4 (yko ylw (ykv 0) (eC (.int 7))) (eC (.int 13)))) (eC (.int 4))) yj3))) yj3))))))
noncomputable def f__law_tie:List D->M D:=hide fun ds=>frz (run 3 zfq ds)
theorem ze7:FnScope ["_law_number", "_law_word", "_law_at"] ["_law_number", "_law_word", "_law_at"] (zko zgj):=scD rfl rfl rfl (by decide +kernel)
theorem zd9:BD "_law_tie" "_law_tie" zgj ["_law_number", "_law_word", "_law_at"]:=
 fun _ _ _ _ _ _ us hl=>match us,hl with|[_,_,_],_=>rfl
theorem zeu(Xt:Txt K mg ca):OkF ⟨K,ca⟩ P w mg base 2 "_law_tie" ["_law_number", "_law_word", "_law_at"] f__law_tie:=
 OkF.hide (OkF.frz (yhc Xt.f__law_tie ze7 fun _ _ _ _ _ _ _ hr=>
  (zsm (zzv (zze (zrp (yfi ybr zwo (zzf 0) zy5) (zrp (zlb (zbo Xt) rfl (hr.mono (by decide)) rfl (zrp (yfi zum zwl (zzf 0) zy5) zy0)) (zrp (zzf 1) (zrp (zla (zhb rfl) zo2 rfl Xt.n_max boot_max (zrp zy5 (zrp (yfi ybw zwt (yfi (zuk rfl) ync (zzf 2) (yfi ybr zwo (yfi zum zwl (zzf 0) zy5) zy5)) zy5) zy0))) zy0)))))))))
abbrev zdx:Stmt:=top 27
noncomputable def zdj:Ev->M Fl:=
 (ym5 (ym6 3 (yks yj3))
 (ym5 (ym6 4 (yko oEq (yko yl4 (yko ylw (ykv 0) (eC (.int 4))) (eC (.int 8))) (eC (.int 3))))
 (ym5 (ym1 (yne (yko oIx (eLv (yeg (yko yl4 (ykv 0) (eC (.int 4))) (yeg (eC (.int 8)) yj3))) (ye6 yg5 (yeg (ykv 4) yj3)))) (tgN 5) (ym5 (ym6 6 (eFn 2 f__law_mixed [] (yeg (yko ylw (ykv 0) (eC (.int 4))) (yeg (ykv 5) yj3))))
 (ym5 (ym6 7 (yko yl4 (ykv 6) (yko oIx (eLv (yeg (eC (.int 4)) (yeg (eC (.int 7)) yj3))) (ye6 yg5 (yeg (ykv 4) yj3)))))
 (sIf (yj8 (eT (yko oLt (ye6 yl3 (yeg (ykv 3) yj3)) (eC (.int 6)))) (eT (yko oEq (ykp (eLC (ynf (ykv 3)) [7] (tgN 0) (eT (yko oEq (yko oIx (ykv 0) (eC (.int 2))) (ykv 1))) (ykv 0))) (eLv yj3)))) (ymz (ye9 zt3 (ykv 3) (yeg (eFn 3 f__law_tie [] (yeg (yko ylw (ykv 6) (eC (.int 4))) (yeg (ykv 7) (yeg (ykv 2) yj3)))) yj3))) ym2))))
 (ym5 (ym6 6 (eFn 2 f__law_mixed [] (yeg (yko ylw (ykv 0) (eC (.int 4))) (yeg (eC (.int 9)) yj3))))
 (ym4 (yku (yeg (ykv 1) (yeg (yku (yeg (yko yl5 (yko yl4 (ykv 6) (eC (.int 3))) (yko yl4 (yko ylw (ykv 6) (eC (.int 3))) (yko yl8 (eC (.int 10)) (eC (.int 12))))) (yeg (yko yl4 (yko ylw (ykv 6) (eC (.int 7))) (yko yl8 (eC (.int 10)) (eC (.int 12)))) yj3))) (yeg (ye6 ybg (yeg (ykv 3) yj3)) yj3)))))))))
noncomputable def f__law_stand:List D->M D:=hide fun ds=>frz (run 8 zdj ds)
theorem zc3:FnScope ["_law_cell", "_law_number", "_law_at", "_law_ties_here", "_law_many", "_law_k", "_law_part", "_law_word"] ["_law_cell", "_law_number", "_law_at"] (zko zdx):=scD rfl rfl rfl (by decide +kernel)
theorem zca:BD "_law_stand" "_law_stand" zdx ["_law_cell", "_law_number", "_law_at"]:=
 fun _ _ _ _ _ _ us hl=>match us,hl with|[_,_,_],_=>rfl
theorem zcp(Xt:Txt K mg ca):OkF ⟨K,ca⟩ P w mg base 3 "_law_stand" ["_law_cell", "_law_number", "_law_at"] f__law_stand:=
 OkF.hide (OkF.frz (yhc Xt.f__law_stand zc3 fun _ _ _ _ _ _ _ hr=>
  (zlz (zzw (i:=3) zc3.nd rfl (Or.inl rfl) (zy9 zy0))
  (zlz (zzw (i:=4) zc3.nd rfl (Or.inl rfl) (zy2 (ybo (hu9 hr)) ync (yfi ybr zwo (yfi zum zwl (zzf 0) zy5) zy5) zy5 (ya7 _)))
  (zlz (zzu zi2 rfl (zlj rfl Xt.n_range (yff ylg (ydc rfl) (yfh (zrp (yfi ybr zwo (zzf 0) zy5) (zrp zy5 zy0))) (zhx zg9 zoz rfl Xt.n_int boot_int (zrp (zzf 4) zy0)) (fun _ _=>rfl))) (zry (i:=5) zc3.nd rfl (Or.inl rfl)) (zlz (zzw (i:=6) zc3.nd rfl (Or.inl rfl) (zlb (zcn Xt) rfl (hr.mono (by decide)) rfl (zrp (yfi zum zwl (zzf 0) zy5) (zrp (zzf 5) zy0))))
  (zlz (zzw (i:=7) zc3.nd rfl (Or.inr rfl) (yfi ybr zwo (zzf 6) (yff ylg (ydc rfl) (yfh (zrp zy5 (zrp zy5 zy0))) (zhx zg9 zoz rfl Xt.n_int boot_int (zrp (zzf 4) zy0)) (fun _ _=>rfl))))
  (zsm (yfv (L2.PW.pt (zz2 (zzx yhg yde (zla zdd (zwn rfl) rfl Xt.n_len PySem.boot_len (zrp (zzf 3) zy0)) zy5 (ya7 _)) (zsn (zzx (ybo (hu9 hr)) ync (zy4 (yfg (x:="_law_tie_here") (M':=["_law_word"]) (ix:=[7]) rfl ⟨rfl,rfl,rfl,rfl,rfl,rfl⟩ (zzh rfl (zzf 3)) (fun _ _ _ _ _=>zry (i:=0) (by show List.Nodup (("_law_tie_here"::["_law_word"]):List Str);decide +kernel) rfl (Or.inl rfl)) (fun _ _ _ _ _=>zr2 (zzx (ybo (hu9 hr)) ync (yff ylg (ydc rfl) (zzf 0) zy5 (fun _ _=>rfl)) (zzf 1) (ya7 _))) (fun _ _ _ _ _=>(zzf 0)))) (yfh zy0) (ya7 _))))) (zsm (zsg (zrx PySem.F.plainAttrs_list PySem.F.slot_list_append PySem.F.type_list_append ziq zgp (zzf 3) (zrp (zlb (zeu Xt) rfl (hr.mono (by decide)) rfl (zrp (yfi zum zwl (zzf 6) zy5) (zrp (zzf 7) (zrp (zzf 2) zy0)))) zy0)))) zsl)))))
  (zlz (zzw (i:=6) zc3.nd rfl (Or.inl rfl) (zlb (zcn Xt) rfl (hr.mono (by decide)) rfl (zrp (yfi zum zwl (zzf 0) zy5) (zrp zy5 zy0))))
  (zsm (zzv (zze (zrp (zzf 1) (zrp (zze (zrp (yfi ybs zwp (yfi ybr zwo (zzf 6) zy5) (yfi ybr zwo (yfi zum zwl (zzf 6) zy5) (yfi ybv zws zy5 zy5))) (zrp (yfi ybr zwo (yfi zum zwl (zzf 6) zy5) (yfi ybv zws zy5 zy5)) zy0))) (zrp (zhx zce (zjn rfl) rfl Xt.n_tuple boot_tuple (zrp (zzf 3) zy0)) zy0))))))))))))
abbrev zgi:Stmt:=top 28
noncomputable def zfp:Ev->M Fl:=
 (ym5 (ym6 3 (yks (yeg (eFn 3 f__law_stand [] (yeg (yko ylw (ykv 0) (eC (.int 4))) (yeg (eC (.int 3)) (yeg (ykv 1) yj3)))) yj3)))
 (ym5 (ym1 (yne (yko yls (yko oIx (eLv (yeg (eC (.int 0)) (yeg (eC (.int 1)) (yeg (eC (.int 0)) (yeg (eC (.int 2)) yj3))))) (yko yl4 (ykv 0) (eC (.int 4)))) (yko yl5 (eC (.int 7)) (ye6 yg5 (yeg (ykn (yko oEq (ykv 2) (eC (.int 0))) (yko oEq (yko yl4 (yko ylw (ykv 0) (eC (.int 4))) (eC (.int 16))) (eC (.int 5)))) yj3))))) (tgN 4) (ymz (ye9 zt3 (ykv 3) (yeg (eFn 3 f__law_stand [] (yeg (yko yls (yko ylw (ykv 0) (yko yls (eC (.int 4)) (yko yl5 (eC (.int 7)) (ykv 4)))) (eC (.int 77))) (yeg (yko yls (eC (.int 4)) (ykv 4)) (yeg (ykv 1) yj3)))) yj3))))
 (ym5 (ym6 5 ye7)
 (ym5 (ym6 6 (eFn 2 f__law_mixed [] (yeg (ykv 0) (yeg (eC (.int 5)) yj3))))
 (ym5 (ym1 (yne (eC (.int 7))) (tgN 7) (sIf (eT (yko oEq (yko yl4 (yko ylw (ykv 6) (yko yls (eC (.int 1)) (yko yl5 (eC (.int 11)) (ykv 7)))) (eC (.int 5))) (eC (.int 0)))) (yia (ye6 yg8 (yeg (eC (.int 0)) (yeg (yko yma (ykv 1) (yko yl4 (yko ylw (ykv 6) (eC (.int 3))) (eC (.int 6)))) yj3))) (ykv 5) (ykv 7)) ym2))
 (ym4 (yku (yeg (yko yl4 (ykv 6) (eC (.int 2))) (yeg (ykv 3) (yeg (ykv 5) yj3))))))))))
noncomputable def f__law_pot:List D->M D:=hide fun ds=>frz (run 8 zfp ds)
theorem ze6:FnScope ["_law_cell", "_law_at", "_law_k_pot", "_law_stands", "_law_k", "_law_seen", "_law_part", "_law_word"] ["_law_cell", "_law_at", "_law_k_pot"] (zko zgi):=scD rfl rfl rfl (by decide +kernel)
theorem zd8:BD "_law_pot" "_law_pot" zgi ["_law_cell", "_law_at", "_law_k_pot"]:=
 fun _ _ _ _ _ _ us hl=>match us,hl with|[_,_,_],_=>rfl
theorem zet(Xt:Txt K mg ca):OkF ⟨K,ca⟩ P w mg base 4 "_law_pot" ["_law_cell", "_law_at", "_law_k_pot"] f__law_pot:=
 OkF.hide (OkF.frz (yhc Xt.f__law_pot ze6 fun _ _ _ _ _ _ _ hr=>
  (zlz (zzw (i:=3) ze6.nd rfl (Or.inl rfl) (zy9 (zrp (zlb (zcp Xt) rfl (hr.mono (by decide)) rfl (zrp (yfi zum zwl (zzf 0) zy5) (zrp zy5 (zrp (zzf 1) zy0)))) zy0)))
  (zlz (zzu zi2 rfl (zlj rfl Xt.n_range (yfi (zuk rfl) ync (yff ylg (ydc rfl) (yfh (zrp zy5 (zrp zy5 (zrp zy5 (zrp zy5 zy0))))) (yfi ybr zwo (zzf 0) zy5) (fun _ _=>rfl)) (yfi ybs zwp zy5 (zhx zg9 zoz rfl Xt.n_int boot_int (zrp (zy1 (zy2 (ybo (hu9 hr)) ync (zzf 2) zy5 (ya7 _)) (zzc (zy2 (ybo (hu9 hr)) ync (yfi ybr zwo (yfi zum zwl (zzf 0) zy5) zy5) zy5 (ya7 _)))) zy0))))) (zry (i:=4) ze6.nd rfl (Or.inl rfl)) (zsm (zsg (zrx PySem.F.plainAttrs_list PySem.F.slot_list_append PySem.F.type_list_append ziq zgp (zzf 3) (zrp (zlb (zcp Xt) rfl (hr.mono (by decide)) rfl (zrp (yfi (zuk rfl) ync (yfi zum zwl (zzf 0) (yfi (zuk rfl) ync zy5 (yfi ybs zwp zy5 (zzf 4)))) zy5) (zrp (yfi (zuk rfl) ync zy5 (zzf 4)) (zrp (zzf 1) zy0)))) zy0)))))
  (zlz (zzw (i:=5) ze6.nd rfl (Or.inl rfl) zru)
  (zlz (zzw (i:=6) ze6.nd rfl (Or.inl rfl) (zlb (zcn Xt) rfl (hr.mono (by decide)) rfl (zrp (zzf 0) (zrp zy5 zy0))))
  (zlz (zzu zi2 rfl (zlj rfl Xt.n_range zy5) (zry (i:=7) ze6.nd rfl (Or.inl rfl)) (zsm (yfv (zzx (ybo (hu9 hr)) ync (yfi ybr zwo (yfi zum zwl (zzf 6) (yfi (zuk rfl) ync zy5 (yfi ybs zwp zy5 (zzf 7)))) zy5) zy5 (ya7 _)) (zsm (zsi (hu9 hr) (zla (zhb rfl) zo2 rfl Xt.n_max boot_max (zrp zy5 (zrp (yfi ybw zwt (zzf 1) (yfi ybr zwo (yfi zum zwl (zzf 6) zy5) zy5)) zy0))) (zzf 5) (zzf 7))) zsl)))
  (zsm (zzv (zze (zrp (yfi ybr zwo (zzf 6) zy5) (zrp (zzf 3) (zrp (zzf 5) zy0)))))))))))))
abbrev ze2:Stmt:=top 29
noncomputable def zeh:Ev->M Fl:=
 (ym5 (ym6 1 (yko yls (eC (.int 1)) (yko yl4 (eFn 2 f__law_cell_at [] (yeg (ykv 0) (yeg (eC (.int 0)) yj3))) (eC (.int 6)))))
 (ym5 (ym6 2 (yko yls (eC (.int 4)) (yko yl4 (yko ylw (eFn 2 f__law_cell_at [] (yeg (ykv 0) (yeg (eC (.int 0)) yj3))) (eC (.int 6))) (eC (.int 60)))))
 (ym5 (ym6 3 (ykp (eLC (yne (eC (.int 7))) [0] (tgN 0) (eT (yko oEq (yko yl4 (eFn 2 f__law_mixed [] (yeg (eFn 2 f__law_cell_at [] (yeg (ykv 1) (yeg (eC (.int 1)) yj3))) (yeg (ykv 0) yj3))) (eC (.int 3))) (eC (.int 0)))) (ykv 0))))
 (ym5 (ym6 4 (ykp (eLC (yne (yko yl4 (eFn 2 f__law_cell_at [] (yeg (ykv 0) (yeg (eC (.int 1)) yj3))) (eC (.int 4)))) [2,0] (tgN 0) yel (eFn 3 f__law_pot [] (yeg (eFn 2 f__law_cell_at [] (yeg (ykv 2) (yeg (yko yls (eC (.int 2)) (ykv 0)) yj3))) (yeg (ykv 1) (yeg (ykv 0) yj3)))))))
 (ym4 (yku (yeg (ykv 1) (yeg (ykv 2) (yeg (ykv 3) (yeg (ykv 4) yj3))))))))))
noncomputable def f__law_view:List D->M D:=hide fun ds=>frz (run 5 zeh ds)
theorem zd2:FnScope ["_law_script", "_law_every", "_law_at", "_law_words", "_law_pots"] ["_law_script"] (zko ze2):=scD rfl rfl rfl (by decide +kernel)
theorem zda:BD "_law_view" "_law_view" ze2 ["_law_script"]:=
 fun _ _ _ _ _ _ us hl=>match us,hl with|[_],_=>rfl
theorem zdp(Xt:Txt K mg ca):OkF ⟨K,ca⟩ P w mg base 5 "_law_view" ["_law_script"] f__law_view:=
 OkF.hide (OkF.frz (yhc Xt.f__law_view zd2 fun _ _ _ _ _ _ _ hr=>
  (zlz (zzw (i:=1) zd2.nd rfl (Or.inl rfl) (yfi (zuk rfl) ync zy5 (yfi ybr zwo (zlb (za1 Xt) rfl (hr.mono (by decide)) rfl (zrp (zzf 0) (zrp zy5 zy0))) zy5)))
  (zlz (zzw (i:=2) zd2.nd rfl (Or.inr rfl) (yfi (zuk rfl) ync zy5 (yfi ybr zwo (yfi zum zwl (zlb (za1 Xt) rfl (hr.mono (by decide)) rfl (zrp (zzf 0) (zrp zy5 zy0))) zy5) zy5)))
  (zlz (zsj (zly (i:=3) zd2.nd rfl (Or.inl rfl) (x:="_law_word") (M':=["_law_script"]) (ix:=[0]) rfl ⟨rfl,rfl,rfl,rfl,rfl,rfl⟩ (zlj rfl Xt.n_range zy5) (fun _ _ _ _ _=>zry (i:=0) (by show List.Nodup (("_law_word"::["_law_script"]):List Str);decide +kernel) rfl (Or.inl rfl)) (fun _ _ _ _ _=>zr2 (zzx (ybo (hu9 hr)) ync (yfi ybr zwo (zlb (zcn Xt) rfl (hr.mono (by decide)) rfl (zrp (zlb (za1 Xt) rfl (hr.mono (by decide)) rfl (zrp (zzf 1) (zrp zy5 zy0))) (zrp (zzf 0) zy0))) zy5) zy5 (ya7 _))) (fun _ _ _ _ _=>(zzf 0))))
  (zlz (zsj (zly (i:=4) zd2.nd rfl (Or.inl rfl) (x:="_law_k") (M':=["_law_at", "_law_script"]) (ix:=[2,0]) rfl ⟨rfl,rfl,rfl,rfl,rfl,rfl⟩ (zlj rfl Xt.n_range (yfi ybr zwo (zlb (za1 Xt) rfl (hr.mono (by decide)) rfl (zrp (zzf 0) (zrp zy5 zy0))) zy5)) (fun _ _ _ _ _=>zry (i:=0) (by show List.Nodup (("_law_k"::["_law_at", "_law_script"]):List Str);decide +kernel) rfl (Or.inl rfl)) (fun _ _ _ _ _=>zr1) (fun _ _ _ _ _=>(zlb (zet Xt) rfl (hr.mono (by decide)) rfl (zrp (zlb (za1 Xt) rfl (hr.mono (by decide)) rfl (zrp (zzf 2) (zrp (yfi (zuk rfl) ync zy5 (zzf 0)) zy0))) (zrp (zzf 1) (zrp (zzf 0) zy0)))))))
  (zsm (zzv (zze (zrp (zzf 1) (zrp (zzf 2) (zrp (zzf 3) (zrp (zzf 4) zy0)))))))))))))
abbrev zcu:Stmt:=top 33
noncomputable def zcg:Ev->M Fl:=
 (ym5 (ym6 2 (eLC (yne (ye6 yl3 (yeg (yko oIx (ykv 0) (eC (.int 3))) yj3))) [1,0] (tgN 0) yel (yko yl4 (eFn 2 f__law_mixed [] (yeg (ykv 1) (yeg (ykv 0) yj3))) (ye6 yl3 (yeg (yko oIx (yko oIx (yko oIx (ykv 2) (eC (.int 3))) (ykv 0)) (eC (.int 1))) yj3)))))
 (ym5 (sIf (yj8 (eT (yko oEq (yko yl4 (ykv 1) (eC (.int 8))) (eC (.int 3)))) (eT (yko oNe (ykv 2) (eLv yj3)))) (yib (yko oIx (eLv (yeg (eUn yl7 (eC (.int 1))) (yeg (eC (.int 2)) (yeg (eC (.int 1)) (yeg (eC (.int 5)) yj3))))) (yko yl4 (yko ylw (ykv 1) (eC (.int 24))) (eC (.int 4)))) (ykv 2) (yko yl4 (yko ylw (ykv 1) (eC (.int 8))) (ye6 yl3 (yeg (ykv 2) yj3)))) ym2)
 (ym5 (sIf (eT (yko oEq (yko yl4 (ykv 1) (eC (.int 8))) (eC (.int 5)))) (ym6 2 (yko oIx (eLv (yeg (eSl (ykv 2) none (some (eUn yl7 (eC (.int 1))))) (yeg (yko yls (ykv 2) (eLv (yeg (eC (.int 0)) yj3))) yj3))) (yko yl4 (yko ylw (ykv 1) (eC (.int 8))) (eC (.int 2))))) ym2)
 (ym4 (ykv 2)))))
noncomputable def f__law_chosen:List D->M D:=hide fun ds=>frz (run 3 zcg ds)
theorem zb1:FnScope ["_law_view_here", "_law_cell", "_law_chosen_here"] ["_law_view_here", "_law_cell"] (zko zcu):=scD rfl rfl rfl (by decide +kernel)
theorem zbe:BD "_law_chosen" "_law_chosen" zcu ["_law_view_here", "_law_cell"]:=
 fun _ _ _ _ _ _ us hl=>match us,hl with|[_,_],_=>rfl
theorem zbp(Xt:Txt K mg ca):OkF ⟨K,ca⟩ P w mg base 2 "_law_chosen" ["_law_view_here", "_law_cell"] f__law_chosen:=
 OkF.hide (OkF.frz (yhc Xt.f__law_chosen zb1 fun _ _ _ _ _ _ _ hr=>
  (zlz (zly (i:=2) zb1.nd rfl (Or.inl rfl) (x:="_law_k") (M':=["_law_cell", "_law_view_here"]) (ix:=[1,0]) rfl ⟨rfl,rfl,rfl,rfl,rfl,rfl⟩ (zlj rfl Xt.n_range (zla zdd (zwn rfl) rfl Xt.n_len PySem.boot_len (zrp (yff ylg (ydc rfl) (zzf 0) zy5 (fun _ _=>rfl)) zy0))) (fun _ _ _ _ _=>zry (i:=0) (by show List.Nodup (("_law_k"::["_law_cell", "_law_view_here"]):List Str);decide +kernel) rfl (Or.inl rfl)) (fun _ _ _ _ _=>zr1) (fun _ _ _ _ _=>(yfi ybr zwo (zlb (zcn Xt) rfl (hr.mono (by decide)) rfl (zrp (zzf 1) (zrp (zzf 0) zy0))) (zla zdd (zwn rfl) rfl Xt.n_len PySem.boot_len (zrp (yff ylg (ydc rfl) (yff ylg (ydc rfl) (yff ylg (ydc rfl) (zzf 2) zy5 (fun _ _=>rfl)) (zzf 0) (fun _ _=>rfl)) zy5 (fun _ _=>rfl)) zy0)))))
  (zlz (yfv (L2.PW.pt (zz2 (zzx (ybo (hu9 hr)) ync (yfi ybr zwo (zzf 1) zy5) zy5 (ya7 _)) (zsn (zzx (ybt (hu9 hr)) ync (zzf 2) (yfh zy0) (ya7 _))))) (zsm (zsk (yff ylg (ydc rfl) (yfh (zrp (yfk ydw zwr zy5) (zrp zy5 (zrp zy5 (zrp zy5 zy0))))) (yfi ybr zwo (yfi zum zwl (zzf 1) zy5) zy5) (fun _ _=>rfl)) (zzf 2) (yfi ybr zwo (yfi zum zwl (zzf 1) zy5) (zla zdd (zwn rfl) rfl Xt.n_len PySem.boot_len (zrp (zzf 2) zy0))))) zsl)
  (zlz (yfv (zzx (ybo (hu9 hr)) ync (yfi ybr zwo (zzf 1) zy5) zy5 (ya7 _)) (zsm (zzw (i:=2) zb1.nd rfl (Or.inl rfl) (yff ylg (ydc rfl) (yfh (zrp (zlf rfl (zzf 2) zr6 (zr7 (yfk ydw zwr zy5))) (zrp (yfi (zuk rfl) ync (zzf 2) (yfh (zrp zy5 zy0))) zy0))) (yfi ybr zwo (yfi zum zwl (zzf 1) zy5) zy5) (fun _ _=>rfl)))) zsl)
  (zsm (zzv (zzf 2))))))))
abbrev zbx:Stmt:=top 37
noncomputable def zbl:Ev->M Fl:=
 (ym5 (ym6 2 (yks yj3))
 (ym5 (ym1 (yne (ye6 yl3 (yeg (yko oIx (ykv 0) (eC (.int 3))) yj3))) (tgN 3) (ym5 (ym6 4 (eC (.int 0)))
 (ym5 (sIf (eT (yko oLt (ykv 3) (ye6 yl3 (yeg (ykv 1) yj3)))) (ym6 4 (yko oIx (ykv 1) (ykv 3))) ym2)
 (ymz (ye9 zt3 (ykv 2) (yeg (yko yl4 (ykv 4) (ye6 yl3 (yeg (yko oIx (yko oIx (yko oIx (ykv 0) (eC (.int 3))) (ykv 3)) (eC (.int 1))) yj3))) yj3))))))
 (ym4 (ykv 2))))
noncomputable def f__law_lenient:List D->M D:=hide fun ds=>frz (run 5 zbl ds)
theorem zba:FnScope ["_law_view_here", "_law_chosen_here", "_law_found", "_law_k", "_law_at"] ["_law_view_here", "_law_chosen_here"] (zko zbx):=scD rfl rfl rfl (by decide +kernel)
theorem zat:BD "_law_lenient" "_law_lenient" zbx ["_law_view_here", "_law_chosen_here"]:=
 fun _ _ _ _ _ _ us hl=>match us,hl with|[_,_],_=>rfl
theorem za2(Xt:Txt K mg ca):OkF ⟨K,ca⟩ P w mg base 1 "_law_lenient" ["_law_view_here", "_law_chosen_here"] f__law_lenient:=
 OkF.hide (OkF.frz (yhc Xt.f__law_lenient zba fun _ _ _ _ _ _ _ hr=>
  (zlz (zzw (i:=2) zba.nd rfl (Or.inl rfl) (zy9 zy0))
  (zlz (zzu zi2 rfl (zlj rfl Xt.n_range (zla zdd (zwn rfl) rfl Xt.n_len PySem.boot_len (zrp (yff ylg (ydc rfl) (zzf 0) zy5 (fun _ _=>rfl)) zy0))) (zry (i:=3) zba.nd rfl (Or.inl rfl)) (zlz (zzw (i:=4) zba.nd rfl (Or.inl rfl) zy5)
  (zlz (yfv (zzx yhg yde (zzf 3) (zla zdd (zwn rfl) rfl Xt.n_len PySem.boot_len (zrp (zzf 1) zy0)) (ya7 _)) (zsm (zzw (i:=4) zba.nd rfl (Or.inl rfl) (yff ylg (ydc rfl) (zzf 1) (zzf 3) (fun _ _=>rfl)))) zsl)
  (zsm (zsg (zrx PySem.F.plainAttrs_list PySem.F.slot_list_append PySem.F.type_list_append ziq zgp (zzf 2) (zrp (yfi ybr zwo (zzf 4) (zla zdd (zwn rfl) rfl Xt.n_len PySem.boot_len (zrp (yff ylg (ydc rfl) (yff ylg (ydc rfl) (yff ylg (ydc rfl) (zzf 0) zy5 (fun _ _=>rfl)) (zzf 3) (fun _ _=>rfl)) zy5 (fun _ _=>rfl)) zy0))) zy0)))))))
  (zsm (zzv (zzf 2)))))))
abbrev za6:Stmt:=top 30
noncomputable def zax:Ev->M Fl:=
 (ym5 (ymx (ykv 0) (tgT 4 (ydn (tgN 4) (ydn (tgN 5) (ydn (tgN 6) (ydn (tgN 7) yiz))))))
 (ym5 (sIf (yj8 (eT (yko ylu (yko oIx (ykv 3) (eC (.int 2))) (ykv 2))) (eT (yko oLt (yko yg0 (ykv 2) (yko oIx (ykv 3) (eC (.int 2)))) (yko oIx (ykv 3) (eC (.int 3)))))) (ym4 (yko oIx (eLv (yeg (eC (.str "won")) (yeg (eC (.str "lost")) yj3))) (ye6 yg5 (yeg (yko oEq (yko oIx (ykv 3) (eC (.int 0))) (ykv 1)) yj3)))) ym2)
 (ym5 (sIf (eT (yko oGe (ykv 5) (yko oIx (ykv 3) (eC (.int 3))))) (ym4 (yko oIx (eLv (yeg (eC (.str "gone")) (yeg (eC (.str "back")) yj3))) (ye6 yg5 (yeg (yko oEq (yko oIx (ykv 3) (eC (.int 0))) (ykv 1)) yj3)))) ym2)
 (ym5 (sIf (eT (yko oEq (yko oIx (ykv 3) (eC (.int 0))) (ykv 1))) (ym4 (eC (.str "open"))) ym2)
 (ym5 (sIf (yj8 (eT (yko (oIn false) (yko oIx (ykv 3) (eC (.int 2))) (ykv 6))) (eT (yko oLt (yko yls (ykv 5) (ykv 4)) (yko oIx (ykv 3) (eC (.int 3)))))) (ym4 (eC (.str "sure"))) ym2)
 (ym4 (eC (.str "hangs"))))))))
noncomputable def f__law_standing:List D->M D:=hide fun ds=>frz (run 8 zax ds)
theorem zao:FnScope ["_law_view_here", "_law_side", "_law_seen", "_law_tie_here", "_law_every", "_law_at", "_law_words", "_law_pots"] ["_law_view_here", "_law_side", "_law_seen", "_law_tie_here"] (zko za6):=scD rfl rfl rfl (by decide +kernel)
theorem zag:BD "_law_standing" "_law_standing" za6 ["_law_view_here", "_law_side", "_law_seen", "_law_tie_here"]:=
 fun _ _ _ _ _ _ us hl=>match us,hl with|[_,_,_,_],_=>rfl
theorem zak(Xt:Txt K mg ca):OkF ⟨K,ca⟩ P w mg base 1 "_law_standing" ["_law_view_here", "_law_side", "_law_seen", "_law_tie_here"] f__law_standing:=
 OkF.hide (OkF.frz (yhc Xt.f__law_standing zao fun _ _ _ _ _ _ _ hr=>
  (zlz (zzr (zzf 0) (zzg rfl (zlh (zry (i:=4) zao.nd rfl (Or.inl rfl)) (zlh (zry (i:=5) zao.nd rfl (Or.inl rfl)) (zlh (zry (i:=6) zao.nd rfl (Or.inl rfl)) (zlh (zry (i:=7) zao.nd rfl (Or.inl rfl)) zr0))))))
  (zlz (yfv (L2.PW.pt (zz2 (zzx (ybn (hu9 hr)) zwk (yff ylg (ydc rfl) (zzf 3) zy5 (fun _ _=>rfl)) (zzf 2) rfl) (zsn (zzx yhg yde (zrt (hu9 hr) (zzf 2) (yff ylg (ydc rfl) (zzf 3) zy5 (fun _ _=>rfl)) (fun _ _=>rfl)) (yff ylg (ydc rfl) (zzf 3) zy5 (fun _ _=>rfl)) (ya7 _))))) (zsm (zzv (yff ylg (ydc rfl) (yfh (zrp zzd (zrp zzd zy0))) (zhx zg9 zoz rfl Xt.n_int boot_int (zrp (zy2 (ybo (hu9 hr)) ync (yff ylg (ydc rfl) (zzf 3) zy5 (fun _ _=>rfl)) (zzf 1) (ya7 _)) zy0)) (fun _ _=>rfl)))) zsl)
  (zlz (yfv (zzx yhd yc9 (zzf 5) (yff ylg (ydc rfl) (zzf 3) zy5 (fun _ _=>rfl)) (ya7 _)) (zsm (zzv (yff ylg (ydc rfl) (yfh (zrp zzd (zrp zzd zy0))) (zhx zg9 zoz rfl Xt.n_int boot_int (zrp (zy2 (ybo (hu9 hr)) ync (yff ylg (ydc rfl) (zzf 3) zy5 (fun _ _=>rfl)) (zzf 1) (ya7 _)) zy0)) (fun _ _=>rfl)))) zsl)
  (zlz (yfv (zzx (ybo (hu9 hr)) ync (yff ylg (ydc rfl) (zzf 3) zy5 (fun _ _=>rfl)) (zzf 1) (ya7 _)) (zsm (zzv zzd)) zsl)
  (zlz (yfv (L2.PW.pt (zz2 (zzx zi1 (ydb rfl false) (yff ylg (ydc rfl) (zzf 3) zy5 (fun _ _=>rfl)) (zzf 6) rfl) (zsn (zzx yhg yde (yfi (zuk rfl) ync (zzf 5) (zzf 4)) (yff ylg (ydc rfl) (zzf 3) zy5 (fun _ _=>rfl)) (ya7 _))))) (zsm (zzv zzd)) zsl)
  (zsm (zzv zzd)))))))))
abbrev ze1:Stmt:=top 31
noncomputable def zeg:Ev->M Fl:=
 (ym5 (ym6 2 (yks yj3))
 (ym5 (ym1 (yne (ye6 yl3 (yeg (ykv 1) yj3))) (tgN 3) (ym5 (ymx (yko oIx (yko oIx (ykv 0) (eC (.int 3))) (ykv 3)) (tgT 3 (ydn (tgN 4) (ydn (tgN 5) (ydn (tgN 6) yiz)))))
 (ym1 (ynf (yko oIx (yko oIx (ykv 5) (yko oIx (ykv 1) (ykv 3))) (eC (.int 2)))) (tgN 7) (ymz (ye9 zt3 (ykv 2) (yeg (yku (yeg (eFn 4 f__law_standing [] (yeg (ykv 0) (yeg (ykv 4) (yeg (ykv 6) (yeg (ykv 7) yj3))))) (yeg (ykv 7) yj3))) yj3))))))
 (ym4 (ykv 2))))
noncomputable def f__law_ties:List D->M D:=hide fun ds=>frz (run 8 zeg ds)
theorem zd1:FnScope ["_law_view_here", "_law_chosen_here", "_law_found", "_law_k", "_law_side", "_law_stands", "_law_seen", "_law_tie_here"] ["_law_view_here", "_law_chosen_here"] (zko ze1):=scD rfl rfl rfl (by decide +kernel)
theorem zc9:BD "_law_ties" "_law_ties" ze1 ["_law_view_here", "_law_chosen_here"]:=
 fun _ _ _ _ _ _ us hl=>match us,hl with|[_,_],_=>rfl
theorem zdo(Xt:Txt K mg ca):OkF ⟨K,ca⟩ P w mg base 2 "_law_ties" ["_law_view_here", "_law_chosen_here"] f__law_ties:=
 OkF.hide (OkF.frz (yhc Xt.f__law_ties zd1 fun _ _ _ _ _ _ _ hr=>
  (zlz (zzw (i:=2) zd1.nd rfl (Or.inl rfl) (zy9 zy0))
  (zlz (zzu zi2 rfl (zlj rfl Xt.n_range (zla zdd (zwn rfl) rfl Xt.n_len PySem.boot_len (zrp (zzf 1) zy0))) (zry (i:=3) zd1.nd rfl (Or.inl rfl)) (zlz (zzr (yff ylg (ydc rfl) (yff ylg (ydc rfl) (zzf 0) zy5 (fun _ _=>rfl)) (zzf 3) (fun _ _=>rfl)) (zzg rfl (zlh (zry (i:=4) zd1.nd rfl (Or.inl rfl)) (zlh (zry (i:=5) zd1.nd rfl (Or.inl rfl)) (zlh (zry (i:=6) zd1.nd rfl (Or.inl rfl)) zr0)))))
  (zsm (zzu zi2 rfl (zzh rfl (yff ylg (ydc rfl) (yff ylg (ydc rfl) (zzf 5) (yff ylg (ydc rfl) (zzf 1) (zzf 3) (fun _ _=>rfl)) (fun _ _=>rfl)) zy5 (fun _ _=>rfl))) (zry (i:=7) zd1.nd rfl (Or.inl rfl)) (zsm (zsg (zrx PySem.F.plainAttrs_list PySem.F.slot_list_append PySem.F.type_list_append ziq zgp (zzf 2) (zrp (zze (zrp (zlb (zak Xt) rfl (hr.mono (by decide)) rfl (zrp (zzf 0) (zrp (zzf 4) (zrp (zzf 6) (zrp (zzf 7) zy0))))) (zrp (zzf 7) zy0))) zy0))))))))
  (zsm (zzv (zzf 2)))))))
abbrev zdu:Stmt:=top 35
noncomputable def zdg:Ev->M Fl:=
 (ym5 (ym6 2 ye7)
 (ym5 (ym1 (ynf (ykv 0)) (tgT 2 (ydn (tgN 3) (ydn (tgN 4) yiz))) (ym5 (ym6 5 (yko yls (eLv (yeg (eC .non) yj3)) (ykp (eLC (ynf (ykv 0)) [4] (tgN 0) (eT (yko oEq (yko oIx (yko oIx (ykv 0) (eC (.int 1))) (eC (.int 2))) (yko oIx (ykv 1) (eC (.int 2))))) (yko oIx (yko oIx (ykv 0) (eC (.int 1))) (eC (.int 3)))))))
 (yia (yko oIx (ykv 5) (yko yl4 (eFn 2 f__law_mixed [] (yeg (ykv 1) (yeg (yko oIx (ykv 4) (eC (.int 2))) yj3))) (ye6 yl3 (yeg (ykv 5) yj3)))) (ykv 2) (yko oIx (ykv 4) (eC (.int 2))))))
 (ym5 (sIf (eT (yko oEq (yko yl4 (ykv 1) (eC (.int 8))) (eC (.int 3)))) (yia (yko oIx (eLv (yeg (eC .non) (yeg (yko yl4 (yko ylw (ykv 1) (eC (.int 40))) (eC (.int 70))) yj3))) (yko yl4 (yko ylw (ykv 1) (eC (.int 2800))) (eC (.int 2)))) (ykv 2) (yko yl4 (yko ylw (ykv 1) (eC (.int 8))) (eC (.int 5)))) ym2)
 (ym5 (sIf (yj8 (eT (yko oEq (yko yl4 (ykv 1) (eC (.int 8))) (eC (.int 5)))) (eT (yko yl6 (ykv 2) (eC (.dic [] []))))) (ymz (zym yha (ykv 2) (yeg (yko oIx (ykp (eUn (fun x=>zno [x]) (ykv 2))) (yko yl4 (yko ylw (ykv 1) (eC (.int 8))) (ye6 yg6 (yeg (ykv 2) yj3)))) yj3))) ym2)
 (ym4 (ykv 2))))))
noncomputable def f__law_fates:List D->M D:=hide fun ds=>frz (run 6 zdg ds)
theorem zc0:FnScope ["_law_ties_here", "_law_cell", "_law_fates_here", "_law_standing_here", "_law_tie_here", "_law_some"] ["_law_ties_here", "_law_cell"] (zko zdu):=scD rfl rfl rfl (by decide +kernel)
theorem zb7:BD "_law_fates" "_law_fates" zdu ["_law_ties_here", "_law_cell"]:=
 fun _ _ _ _ _ _ us hl=>match us,hl with|[_,_],_=>rfl
theorem zcm(Xt:Txt K mg ca):OkF ⟨K,ca⟩ P w mg base 2 "_law_fates" ["_law_ties_here", "_law_cell"] f__law_fates:=
 OkF.hide (OkF.frz (yhc Xt.f__law_fates zc0 fun _ _ _ _ _ _ _ hr=>
  (zlz (zzw (i:=2) zc0.nd rfl (Or.inl rfl) zru)
  (zlz (zzu zi2 rfl (zzh rfl (zzf 0)) (zzg rfl (zlh (zry (i:=3) zc0.nd rfl (Or.inl rfl)) (zlh (zry (i:=4) zc0.nd rfl (Or.inr rfl)) zr0))) (zlz (zzw (i:=5) zc0.nd rfl (Or.inl rfl) (yfi (zuk rfl) ync (yfh (zrp zza zy0)) (zy4 (yfg (x:="_law_one") (M':=["_law_tie_here"]) (ix:=[4]) rfl ⟨rfl,rfl,rfl,rfl,rfl,rfl⟩ (zzh rfl (zzf 0)) (fun _ _ _ _ _=>zry (i:=0) (by show List.Nodup (("_law_one"::["_law_tie_here"]):List Str);decide +kernel) rfl (Or.inl rfl)) (fun _ _ _ _ _=>zr2 (zzx (ybo (hu9 hr)) ync (yff ylg (ydc rfl) (yff ylg (ydc rfl) (zzf 0) zy5 (fun _ _=>rfl)) zy5 (fun _ _=>rfl)) (yff ylg (ydc rfl) (zzf 1) zy5 (fun _ _=>rfl)) (ya7 _))) (fun _ _ _ _ _=>(yff ylg (ydc rfl) (yff ylg (ydc rfl) (zzf 0) zy5 (fun _ _=>rfl)) zy5 (fun _ _=>rfl)))))))
  (zsm (zsi (hu9 hr) (yff ylg (ydc rfl) (zzf 5) (yfi ybr zwo (zlb (zcn Xt) rfl (hr.mono (by decide)) rfl (zrp (zzf 1) (zrp (yff ylg (ydc rfl) (zzf 4) zy5 (fun _ _=>rfl)) zy0))) (zla zdd (zwn rfl) rfl Xt.n_len PySem.boot_len (zrp (zzf 5) zy0))) (fun _ _=>rfl)) (zzf 2) (yff ylg (ydc rfl) (zzf 4) zy5 (fun _ _=>rfl))))))
  (zlz (yfv (zzx (ybo (hu9 hr)) ync (yfi ybr zwo (zzf 1) zy5) zy5 (ya7 _)) (zsm (zsi (hu9 hr) (yff ylg (ydc rfl) (yfh (zrp zza (zrp (yfi ybr zwo (yfi zum zwl (zzf 1) zy5) zy5) zy0))) (yfi ybr zwo (yfi zum zwl (zzf 1) zy5) zy5) (fun _ _=>rfl)) (zzf 2) (yfi ybr zwo (yfi zum zwl (zzf 1) zy5) zy5))) zsl)
  (zlz (yfv (L2.PW.pt (zz2 (zzx (ybo (hu9 hr)) ync (yfi ybr zwo (zzf 1) zy5) zy5 (ya7 _)) (zsn (zzx (ybu (hu9 hr)) zwq (zzf 2) zrv (ya7 _))))) (zsm (zsg (zle PySem.F.plainAttrs_dict PySem.F.slot_dict_pop PySem.F.type_dict_pop ztu zo4 (zzf 2) (zrp (yff ylg (ydc rfl) (zy4 (zfm rfl rfl Xt.n_sorted (zzf 2))) (yfi ybr zwo (yfi zum zwl (zzf 1) zy5) (zla zha zo0 rfl Xt.n_len PySem.boot_len (zrp (zzf 2) zy0))) (fun _ _=>rfl)) zy0)))) zsl)
  (zsm (zzv (zzf 2)))))))))
abbrev zcv:Stmt:=top 32
noncomputable def zch:Ev->M Fl:=
 (ym5 (sIf (eT (yko (oIn false) (ykv 0) (eLv (yeg (eC (.str "won")) (yeg (eC (.str "sure")) (yeg (eC (.str "back")) yj3)))))) (ym4 (eC (.bl true))) ym2)
 (ym5 (sIf (eT (yko oEq (ykv 0) (eC (.str "open")))) (ym4 (eOr (yko yl2 (ykv 2) (eC .non)) (yko oGt (ykv 2) (yko oIx (ykv 1) (eC (.int 3)))))) ym2)
 (ym4 (ykn (yko oEq (ykv 0) (eC (.str "hangs"))) (ykn (yko yg9 (ykv 2) (eC .non)) (yko oLt (yko yls (yko yma (ykv 2) (eC (.int 1))) (ykv 3)) (yko oIx (ykv 1) (eC (.int 3)))))))))
noncomputable def f__law_counts:List D->M D:=hide fun ds=>frz (run 4 zch ds)
theorem zb2:FnScope ["_law_standing_here", "_law_tie_here", "_law_fate", "_law_every"] ["_law_standing_here", "_law_tie_here", "_law_fate", "_law_every"] (zko zcv):=scD rfl rfl rfl (by decide +kernel)
theorem zbf:BD "_law_counts" "_law_counts" zcv ["_law_standing_here", "_law_tie_here", "_law_fate", "_law_every"]:=
 fun _ _ _ _ _ _ us hl=>match us,hl with|[_,_,_,_],_=>rfl
theorem zbq(Xt:Txt K mg ca):OkF ⟨K,ca⟩ P w mg base 1 "_law_counts" ["_law_standing_here", "_law_tie_here", "_law_fate", "_law_every"] f__law_counts:=
 OkF.hide (OkF.frz (yhc Xt.f__law_counts zb2 fun _ _ _ _ _ _ _ hr=>
  (zlz (yfv (zzx zi1 (ydb rfl false) (zzf 0) (yfh (zrp zzd (zrp zzd (zrp zzd zy0)))) rfl) (zsm (zzv yfe)) zsl)
  (zlz (yfv (zzx (ybo (hu9 hr)) ync (zzf 0) zzd (ya7 _)) (zsm (zzv (yfj (zy2 ybq zwm (zzf 2) zza (ya7 _)) (zzc (zy2 yhe yda (zzf 2) (yff ylg (ydc rfl) (zzf 1) zy5 (fun _ _=>rfl)) (ya7 _)))))) zsl)
  (zsm (zzv (zy1 (zy2 (ybo (hu9 hr)) ync (zzf 0) zzd (ya7 _)) (zy1 (zy2 zun zo3 (zzf 2) zza (ya7 _)) (zzc (zy2 yhg yde (yfi (zuk rfl) ync (yfi ybw zwt (zzf 2) zy5) (zzf 3)) (yff ylg (ydc rfl) (zzf 1) zy5 (fun _ _=>rfl)) (ya7 _)))))))))))
abbrev zgh:Stmt:=top 38
noncomputable def zfo:Ev->M Fl:=
 (ym5 (ym6 2 (eC (.int 0)))
 (ym5 (ym1 (yne (ye6 yl3 (yeg (ykv 1) yj3))) (tgN 3) (ym5 (ymx (yko oIx (yko oIx (ykv 0) (eC (.int 3))) (ykv 3)) (tgT 3 (ydn (tgN 4) (ydn (tgN 5) (ydn (tgN 6) yiz)))))
 (ym6 2 (yko yls (ykv 2) (yko oIx (yko oIx (yko oIx (ykv 5) (yko oIx (ykv 1) (ykv 3))) (eC (.int 1))) (ykv 4))))))
 (ym4 (ykv 2))))
noncomputable def f__law_own:List D->M D:=hide fun ds=>frz (run 7 zfo ds)
theorem ze5:FnScope ["_law_view_here", "_law_chosen_here", "_law_total", "_law_k", "_law_side", "_law_stands", "_law_seen"] ["_law_view_here", "_law_chosen_here"] (zko zgh):=scD rfl rfl rfl (by decide +kernel)
theorem zd7:BD "_law_own" "_law_own" zgh ["_law_view_here", "_law_chosen_here"]:=
 fun _ _ _ _ _ _ us hl=>match us,hl with|[_,_],_=>rfl
theorem zes(Xt:Txt K mg ca):OkF ⟨K,ca⟩ P w mg base 1 "_law_own" ["_law_view_here", "_law_chosen_here"] f__law_own:=
 OkF.hide (OkF.frz (yhc Xt.f__law_own ze5 fun _ _ _ _ _ _ _ hr=>
  (zlz (zzw (i:=2) ze5.nd rfl (Or.inl rfl) zy5)
  (zlz (zzu zi2 rfl (zlj rfl Xt.n_range (zla zdd (zwn rfl) rfl Xt.n_len PySem.boot_len (zrp (zzf 1) zy0))) (zry (i:=3) ze5.nd rfl (Or.inl rfl)) (zlz (zzr (yff ylg (ydc rfl) (yff ylg (ydc rfl) (zzf 0) zy5 (fun _ _=>rfl)) (zzf 3) (fun _ _=>rfl)) (zzg rfl (zlh (zry (i:=4) ze5.nd rfl (Or.inl rfl)) (zlh (zry (i:=5) ze5.nd rfl (Or.inl rfl)) (zlh (zry (i:=6) ze5.nd rfl (Or.inl rfl)) zr0)))))
  (zsm (zzw (i:=2) ze5.nd rfl (Or.inl rfl) (yfi (zuk rfl) ync (zzf 2) (yff ylg (ydc rfl) (yff ylg (ydc rfl) (yff ylg (ydc rfl) (zzf 5) (yff ylg (ydc rfl) (zzf 1) (zzf 3) (fun _ _=>rfl)) (fun _ _=>rfl)) zy5 (fun _ _=>rfl)) (zzf 4) (fun _ _=>rfl)))))))
  (zsm (zzv (zzf 2)))))))
abbrev zdw:Stmt:=top 36
noncomputable def zdi:Ev->M Fl:=
 (ym5 (sIf (eT (yko oNe (ykp (eUn (fun x=>zno [x]) (ykv 1))) (ykp (eUn zui (ykp (ykq (ynf (ykv 0)) [] (tgT 2 (ydn (tgN 0) (ydn (tgN 1) yiz))) yel (yko oIx (ykv 1) (eC (.int 2))))))))) (ym4 (eC (.bl false))) ym2)
 (ym5 (yh9 (ynd (ykv 1)) (tgT 2 (ydn (tgN 2) (ydn (tgN 3) yiz))) (ym5 (ym6 4 (ykp (ykq (ynf (ykv 0)) [2] (tgT 2 (ydn (tgN 0) (ydn (tgN 1) yiz))) (yj8 (eT (yko oEq (yko oIx (ykv 1) (eC (.int 2))) (ykv 2))) (eT (yko oEq (ykv 0) (eC (.str "open"))))) (yko oIx (ykv 1) (eC (.int 3))))))
 (sIf (yj8 (eT (yko yg9 (ykv 3) (eC .non))) (eT (yko (oIn true) (ykv 3) (ykv 4)))) (ym4 (eC (.bl false))) ym2)))
 (ym4 (eC (.bl true)))))
noncomputable def f__law_right:List D->M D:=hide fun ds=>frz (run 5 zdi ds)
theorem zc2:FnScope ["_law_ties_here", "_law_fates_here", "_law_word", "_law_fate", "_law_some"] ["_law_ties_here", "_law_fates_here"] (zko zdw):=scD rfl rfl rfl (by decide +kernel)
theorem zb9:BD "_law_right" "_law_right" zdw ["_law_ties_here", "_law_fates_here"]:=
 fun _ _ _ _ _ _ us hl=>match us,hl with|[_,_],_=>rfl
theorem zco(Xt:Txt K mg ca):OkF ⟨K,ca⟩ P w mg base 1 "_law_right" ["_law_ties_here", "_law_fates_here"] f__law_right:=
 OkF.hide (OkF.frz (yhc Xt.f__law_right zc2 fun _ _ _ _ _ _ _ hr=>
  (zlz (yfv (zzx (ybt (hu9 hr)) ync (zy4 (zfm rfl rfl Xt.n_sorted (zzf 1))) (zy4 (zhy rfl rfl rfl Xt.n_sorted rfl Xt.n_set (zy4 (zy7 (x:="_law_standing_here") (z0:="_law_tie_here") (M':=[]) (ix:=[]) rfl ⟨rfl,rfl,rfl,rfl,rfl,rfl⟩ (zzh rfl (zzf 0)) (fun _ _ _ _ _=>zzg rfl (zlh (zry (i:=0) (by show List.Nodup (("_law_standing_here"::"_law_tie_here"::[]):List Str);decide +kernel) rfl (Or.inl rfl)) (zlh (zry (i:=1) (by show List.Nodup (("_law_standing_here"::"_law_tie_here"::[]):List Str);decide +kernel) rfl (Or.inl rfl)) zr0))) (fun _ _ _ _ _=>zr1) (fun _ _ _ _ _=>(yff ylg (ydc rfl) (zzf 1) zy5 (fun _ _=>rfl))))))) (ya7 _)) (zsm (zzv yfe)) zsl)
  (zlz (zsh zi2 rfl (zli (zzf 1)) (zzg rfl (zlh (zry (i:=2) zc2.nd rfl (Or.inr rfl)) (zlh (zry (i:=3) zc2.nd rfl (Or.inl rfl)) zr0))) (zlz (zsj (zh3 (i:=4) zc2.nd rfl (Or.inl rfl) (x:="_law_standing_here") (z0:="_law_tie_here") (M':=["_law_word"]) (ix:=[2]) rfl ⟨rfl,rfl,rfl,rfl,rfl,rfl⟩ (zzh rfl (zzf 0)) (fun _ _ _ _ _=>zzg rfl (zlh (zry (i:=0) (by show List.Nodup (("_law_standing_here"::"_law_tie_here"::["_law_word"]):List Str);decide +kernel) rfl (Or.inl rfl)) (zlh (zry (i:=1) (by show List.Nodup (("_law_standing_here"::"_law_tie_here"::["_law_word"]):List Str);decide +kernel) rfl (Or.inl rfl)) zr0))) (fun _ _ _ _ _=>zr2 (L2.PW.pt (zz2 (zzx (ybo (hu9 hr)) ync (yff ylg (ydc rfl) (zzf 1) zy5 (fun _ _=>rfl)) (zzf 2) (ya7 _)) (zsn (zzx (ybo (hu9 hr)) ync (zzf 0) zzd (ya7 _)))))) (fun _ _ _ _ _=>(yff ylg (ydc rfl) (zzf 1) zy5 (fun _ _=>rfl)))))
  (zsm (yfv (L2.PW.pt (zz2 (zzx zun zo3 (zzf 3) zza (ya7 _)) (zsn (zzx zds (ydb rfl true) (zzf 3) (zzf 4) rfl)))) (zsm (zzv yfe)) zsl))))
  (zsm (zzv yfe))))))
abbrev zcw:Stmt:=top 34
noncomputable def zci:Ev->M Fl:=
 (ym5 (sIf (eT (yko oNe (ye6 yl3 (yeg (ykv 1) yj3)) (ye6 yl3 (yeg (yko oIx (ykv 0) (eC (.int 3))) yj3)))) (ym4 (eC (.bl false))) ym2)
 (ym4 (yko oEq (ykp (eLC (yne (ye6 yl3 (yeg (ykv 1) yj3))) [1,0] (tgN 0) (yj9 (eT (zyj oLe oLt (eC (.int 0)) (yko oIx (ykv 1) (ykv 0)) (ye6 yl3 (yeg (yko oIx (yko oIx (yko oIx (ykv 2) (eC (.int 3))) (ykv 0)) (eC (.int 1))) yj3))))) (ykv 0))) (eLv yj3))))
noncomputable def f__law_places:List D->M D:=hide fun ds=>frz (run 2 zci ds)
theorem zb3:FnScope ["_law_view_here", "_law_chosen_here"] ["_law_view_here", "_law_chosen_here"] (zko zcw):=scD rfl rfl rfl (by decide +kernel)
theorem zbg:BD "_law_places" "_law_places" zcw ["_law_view_here", "_law_chosen_here"]:=
 fun _ _ _ _ _ _ us hl=>match us,hl with|[_,_],_=>rfl
theorem zbr(Xt:Txt K mg ca):OkF ⟨K,ca⟩ P w mg base 1 "_law_places" ["_law_view_here", "_law_chosen_here"] f__law_places:=
 OkF.hide (OkF.frz (yhc Xt.f__law_places zb3 fun _ _ _ _ _ _ _ hr=>
  (zlz (yfv (zzx (ybt (hu9 hr)) ync (zla zdd (zwn rfl) rfl Xt.n_len PySem.boot_len (zrp (zzf 1) zy0)) (zla zdd (zwn rfl) rfl Xt.n_len PySem.boot_len (zrp (yff ylg (ydc rfl) (zzf 0) zy5 (fun _ _=>rfl)) zy0)) (ya7 _)) (zsm (zzv yfe)) zsl)
  (zsm (zzv (zy2 (ybo (hu9 hr)) ync (zy4 (yfg (x:="_law_k") (M':=["_law_chosen_here", "_law_view_here"]) (ix:=[1,0]) rfl ⟨rfl,rfl,rfl,rfl,rfl,rfl⟩ (zlj rfl Xt.n_range (zla zdd (zwn rfl) rfl Xt.n_len PySem.boot_len (zrp (zzf 1) zy0))) (fun _ _ _ _ _=>zry (i:=0) (by show List.Nodup (("_law_k"::["_law_chosen_here", "_law_view_here"]):List Str);decide +kernel) rfl (Or.inl rfl)) (fun _ _ _ _ _=>zr2 (zzz (zl0 yhf ydd yhg yde zy5 (yff ylg (ydc rfl) (zzf 1) (zzf 0) (fun _ _=>rfl)) (zla zdd (zwn rfl) rfl Xt.n_len PySem.boot_len (zrp (yff ylg (ydc rfl) (yff ylg (ydc rfl) (yff ylg (ydc rfl) (zzf 2) zy5 (fun _ _=>rfl)) (zzf 0) (fun _ _=>rfl)) zy5 (fun _ _=>rfl)) zy0))))) (fun _ _ _ _ _=>(zzf 0)))) (yfh zy0) (ya7 _)))))))
abbrev za8:Stmt:=top 4
noncomputable def zaz:Ev->M Fl:=
 (ym4 (ykn (yko ylu (yko oIx (ykv 0) (eC (.int 2))) (ykv 1)) (yko oLt (yko yg0 (ykv 1) (yko oIx (ykv 0) (eC (.int 2)))) (yko oIx (ykv 0) (eC (.int 3))))))
noncomputable def f_shown_in_time:List D->M D:=hide fun ds=>frz (run 2 zaz ds)
theorem zaq:FnScope ["tie", "shown"] ["tie", "shown"] (zko za8):=scD rfl rfl rfl (by decide +kernel)
theorem zai:BD "shown_in_time" "shown_in_time" za8 ["tie", "shown"]:=
 fun _ _ _ _ _ _ us hl=>match us,hl with|[_,_],_=>rfl
theorem zam(Xt:Txt K mg ca):OkF ⟨K,ca⟩ P w mg base 1 "shown_in_time" ["tie", "shown"] f_shown_in_time:=
 OkF.hide (OkF.frz (yhc Xt.f_shown_in_time zaq fun _ _ _ _ _ _ _ hr=>
  (zsm (zzv (zy1 (zy2 (ybn (hu9 hr)) zwk (yff ylg (ydc rfl) (zzf 0) zy5 (fun _ _=>rfl)) (zzf 1) rfl) (zzc (zy2 yhg yde (zrt (hu9 hr) (zzf 1) (yff ylg (ydc rfl) (zzf 0) zy5 (fun _ _=>rfl)) (fun _ _=>rfl)) (yff ylg (ydc rfl) (zzf 0) zy5 (fun _ _=>rfl)) (ya7 _))))))))
abbrev zcx:Stmt:=top 8
noncomputable def zcj:Ev->M Fl:=
 (ym5 (sIf (eT (eFn 2 f_shown_in_time [] (yeg (ykv 2) (yeg (ykv 1) yj3)))) (ym4 (eC (.str "lost"))) ym2)
 (ym5 (sIf (eT (yko oGe (eUn (yly [0] "last_look") (ykv 0)) (yko oIx (ykv 2) (eC (.int 3))))) (ym4 (eC (.str "back"))) ym2)
 (ym4 (eC (.str "open")))))
noncomputable def f_lot_of_paid:List D->M D:=hide fun ds=>frz (run 3 zcj ds)
theorem zb4:FnScope ["view", "seen", "tie"] ["view", "seen", "tie"] (zko zcx):=scD rfl rfl rfl (by decide +kernel)
theorem zbh:BD "lot_of_paid" "lot_of_paid" zcx ["view", "seen", "tie"]:=
 fun _ _ _ _ _ _ us hl=>match us,hl with|[_,_,_],_=>rfl
theorem zbs(Xt:Txt K mg ca):OkF ⟨K,ca⟩ P w mg base 2 "lot_of_paid" ["view", "seen", "tie"] f_lot_of_paid:=
 OkF.hide (OkF.frz (yhc Xt.f_lot_of_paid zb4 fun _ _ _ _ _ _ _ hr=>
  (zlz (yfv (zz0 (zlb (zam Xt) rfl (hr.mono (by decide)) rfl (zrp (zzf 2) (zrp (zzf 1) zy0)))) (zsm (zzv zzd)) zsl)
  (zlz (yfv (zzx yhd yc9 (zy3 rfl (zlo (T:=⟨K,ca⟩) (c:=0) Xt.cl_View Xt.na_View_last_look zr3) (zzf 0)) (yff ylg (ydc rfl) (zzf 2) zy5 (fun _ _=>rfl)) (ya7 _)) (zsm (zzv zzd)) zsl)
  (zsm (zzv zzd))))))
abbrev zdz:Stmt:=top 9
noncomputable def zdl:Ev->M Fl:=
 (ym5 (sIf (eT (eFn 2 f_shown_in_time [] (yeg (ykv 2) (yeg (ykv 1) yj3)))) (ym4 (eC (.str "won"))) ym2)
 (ym5 (sIf (eT (yko oGe (eUn (yly [0] "last_look") (ykv 0)) (yko oIx (ykv 2) (eC (.int 3))))) (ym4 (eC (.str "gone"))) ym2)
 (ym5 (sIf (yj8 (eT (yko (ylz false) (yko oIx (ykv 2) (eC (.int 2))) (eUn (yly [0] "known") (ykv 0)))) (eT (yko oLt (yko yls (eUn (yly [0] "last_look") (ykv 0)) (eUn (yly [0] "every") (ykv 0))) (yko oIx (ykv 2) (eC (.int 3)))))) (ym4 (eC (.str "sure"))) ym2)
 (ym4 (eC (.str "hangs"))))))
noncomputable def f_lot_of_due:List D->M D:=hide fun ds=>frz (run 3 zdl ds)
theorem zc6:FnScope ["view", "seen", "tie"] ["view", "seen", "tie"] (zko zdz):=scD rfl rfl rfl (by decide +kernel)
theorem zcc:BD "lot_of_due" "lot_of_due" zdz ["view", "seen", "tie"]:=
 fun _ _ _ _ _ _ us hl=>match us,hl with|[_,_,_],_=>rfl
theorem zcr(Xt:Txt K mg ca):OkF ⟨K,ca⟩ P w mg base 2 "lot_of_due" ["view", "seen", "tie"] f_lot_of_due:=
 OkF.hide (OkF.frz (yhc Xt.f_lot_of_due zc6 fun _ _ _ _ _ _ _ hr=>
  (zlz (yfv (zz0 (zlb (zam Xt) rfl (hr.mono (by decide)) rfl (zrp (zzf 2) (zrp (zzf 1) zy0)))) (zsm (zzv zzd)) zsl)
  (zlz (yfv (zzx yhd yc9 (zy3 rfl (zlo (T:=⟨K,ca⟩) (c:=0) Xt.cl_View Xt.na_View_last_look zr3) (zzf 0)) (yff ylg (ydc rfl) (zzf 2) zy5 (fun _ _=>rfl)) (ya7 _)) (zsm (zzv zzd)) zsl)
  (zlz (yfv (L2.PW.pt (zz2 (zzx (ybp rfl (hu9 hr)) ync (yff ylg (ydc rfl) (zzf 2) zy5 (fun _ _=>rfl)) (zy3 rfl (zlo (T:=⟨K,ca⟩) (c:=0) Xt.cl_View Xt.na_View_known zr3) (zzf 0)) rfl) (zsn (zzx yhg yde (yfi (zuk rfl) ync (zy3 rfl (zlo (T:=⟨K,ca⟩) (c:=0) Xt.cl_View Xt.na_View_last_look zr3) (zzf 0)) (zy3 rfl (zlo (T:=⟨K,ca⟩) (c:=0) Xt.cl_View Xt.na_View_every zr3) (zzf 0))) (yff ylg (ydc rfl) (zzf 2) zy5 (fun _ _=>rfl)) (ya7 _))))) (zsm (zzv zzd)) zsl)
  (zsm (zzv zzd)))))))
abbrev zoj:Stmt:=top 10
noncomputable def zl3:Ev->M Fl:=
 (ym5 (sIf (eT (yko oEq (yko oIx (ykv 2) (eC (.int 0))) (yko oIx (ykv 1) (eC (.int 0))))) (ym4 (eFn 3 f_lot_of_paid [] (yeg (ykv 0) (yeg (yko oIx (ykv 1) (eC (.int 2))) (yeg (ykv 2) yj3))))) ym2)
 (ym4 (eFn 3 f_lot_of_due [] (yeg (ykv 0) (yeg (yko oIx (ykv 1) (eC (.int 2))) (yeg (ykv 2) yj3))))))
noncomputable def f_lot_of:List D->M D:=hide fun ds=>frz (run 3 zl3 ds)
theorem zjf:FnScope ["view", "pot", "tie"] ["view", "pot", "tie"] (zko zoj):=scD rfl rfl rfl (by decide +kernel)
theorem zgy:BD "lot_of" "lot_of" zoj ["view", "pot", "tie"]:=
 fun _ _ _ _ _ _ us hl=>match us,hl with|[_,_,_],_=>rfl
theorem ziz(Xt:Txt K mg ca):OkF ⟨K,ca⟩ P w mg base 3 "lot_of" ["view", "pot", "tie"] f_lot_of:=
 OkF.hide (OkF.frz (yhc Xt.f_lot_of zjf fun _ _ _ _ _ _ _ hr=>
  (zlz (yfv (zzx (ybo (hu9 hr)) ync (yff ylg (ydc rfl) (zzf 2) zy5 (fun _ _=>rfl)) (yff ylg (ydc rfl) (zzf 1) zy5 (fun _ _=>rfl)) (ya7 _)) (zsm (zzv (zlb (zbs Xt) rfl (hr.mono (by decide)) rfl (zrp (zzf 0) (zrp (yff ylg (ydc rfl) (zzf 1) zy5 (fun _ _=>rfl)) (zrp (zzf 2) zy0)))))) zsl)
  (zsm (zzv (zlb (zcr Xt) rfl (hr.mono (by decide)) rfl (zrp (zzf 0) (zrp (yff ylg (ydc rfl) (zzf 1) zy5 (fun _ _=>rfl)) (zrp (zzf 2) zy0)))))))))
abbrev zd0:Stmt:=top 11
noncomputable def zdm:Ev->M Fl:=
 (ym5 (ym6 3 (yko oIx (yko oIx (ykv 2) (eC (.int 1))) (yko oIx (ykv 1) (eC (.int 0)))))
 (ym5 (ym6 4 ye7)
 (ym5 (ym1 (ynf (yko oIx (ykv 2) (eC (.int 2)))) (tgN 5) (ym5 (ym6 6 (eFn 3 f_lot_of [] (yeg (ykv 0) (yeg (ykv 1) (yeg (ykv 5) yj3)))))
 (ym5 (yia (yku (yeg (ykv 6) (yeg (yko oIx (ykv 5) (eC (.int 1))) (yeg (yko oIx (ykv 5) (eC (.int 3))) yj3)))) (ykv 4) (yko oIx (ykv 5) (eC (.int 2))))
 (sIf (eT (eUn (yl0 false ["won", "sure", "back"]) (ykv 6))) (ymy (fun a b=>a+b) 3 (yko oIx (ykv 5) (eC (.int 1)))) ym2))))
 (ym4 (yku (yeg (ykv 3) (yeg (ykv 4) yj3)))))))
noncomputable def f_read_stand:List D->M D:=hide fun ds=>frz (run 7 zdm ds)
theorem zc7:FnScope ["view", "pot", "one", "firm", "lots", "tie", "lot"] ["view", "pot", "one"] (zko zd0):=scD rfl rfl rfl (by decide +kernel)
theorem zcd:BD "read_stand" "read_stand" zd0 ["view", "pot", "one"]:=
 fun _ _ _ _ _ _ us hl=>match us,hl with|[_,_,_],_=>rfl
theorem zcs(Xt:Txt K mg ca):OkF ⟨K,ca⟩ P w mg base 4 "read_stand" ["view", "pot", "one"] f_read_stand:=
 OkF.hide (OkF.frz (yhc Xt.f_read_stand zc7 fun _ _ _ _ _ _ _ hr=>
  (zlz (zzw (i:=3) zc7.nd rfl (Or.inl rfl) (yff ylg (ydc rfl) (yff ylg (ydc rfl) (zzf 2) zy5 (fun _ _=>rfl)) (yff ylg (ydc rfl) (zzf 1) zy5 (fun _ _=>rfl)) (fun _ _=>rfl)))
  (zlz (zzw (i:=4) zc7.nd rfl (Or.inl rfl) zru)
  (zlz (zzu zi2 rfl (zzh rfl (yff ylg (ydc rfl) (zzf 2) zy5 (fun _ _=>rfl))) (zry (i:=5) zc7.nd rfl (Or.inl rfl)) (zlz (zzw (i:=6) zc7.nd rfl (Or.inl rfl) (zlb (ziz Xt) rfl (hr.mono (by decide)) rfl (zrp (zzf 0) (zrp (zzf 1) (zrp (zzf 5) zy0)))))
  (zlz (zsi (hu9 hr) (zze (zrp (zzf 6) (zrp (yff ylg (ydc rfl) (zzf 5) zy5 (fun _ _=>rfl)) (zrp (yff ylg (ydc rfl) (zzf 5) zy5 (fun _ _=>rfl)) zy0)))) (zzf 4) (yff ylg (ydc rfl) (zzf 5) zy5 (fun _ _=>rfl)))
  (zsm (yfv (zzy (ss:=["won", "sure", "back"]) rfl Xt.c_FIRM (zzf 6)) (zsm (zzs (i:=3) yaf zc7.nd rfl (Or.inl rfl) (yff ylg (ydc rfl) (zzf 5) zy5 (fun _ _=>rfl)))) zsl)))))
  (zsm (zzv (zze (zrp (zzf 3) (zrp (zzf 4) zy0))))))))))
abbrev ze3:Stmt:=top 12
noncomputable def zei:Ev->M Fl:=
 (ym5 (ym6 1 (yks yj3))
 (ym5 (ym1 (ynf (eUn (yly [0] "pots") (ykv 0))) (tgN 2) (ymz (ye9 zt3 (ykv 1) (yeg (ykp (eLC (ynf (yko oIx (ykv 2) (eC (.int 1)))) [0,2] (tgN 0) yel (eFn 3 f_read_stand [] (yeg (ykv 1) (yeg (ykv 2) (yeg (ykv 0) yj3)))))) yj3))))
 (ym4 (ykv 1))))
noncomputable def f_read_pots:List D->M D:=hide fun ds=>frz (run 3 zei ds)
theorem zd4:FnScope ["view", "readings", "pot"] ["view"] (zko ze3):=scD rfl rfl rfl (by decide +kernel)
theorem zdb:BD "read_pots" "read_pots" ze3 ["view"]:=
 fun _ _ _ _ _ _ us hl=>match us,hl with|[_],_=>rfl
theorem zdq(Xt:Txt K mg ca):OkF ⟨K,ca⟩ P w mg base 5 "read_pots" ["view"] f_read_pots:=
 OkF.hide (OkF.frz (yhc Xt.f_read_pots zd4 fun _ _ _ _ _ _ _ hr=>
  (zlz (zzw (i:=1) zd4.nd rfl (Or.inl rfl) (zy9 zy0))
  (zlz (zzu zi2 rfl (zzh rfl (zy3 rfl (zlo (T:=⟨K,ca⟩) (c:=0) Xt.cl_View Xt.na_View_pots zr3) (zzf 0))) (zry (i:=2) zd4.nd rfl (Or.inr rfl)) (zsm (zsg (zrx PySem.F.plainAttrs_list PySem.F.slot_list_append PySem.F.type_list_append ziq zgp (zzf 1) (zrp (zy4 (yfg (x:="one") (M':=["view", "pot"]) (ix:=[0,2]) rfl ⟨rfl,rfl,rfl,rfl,rfl,rfl⟩ (zzh rfl (yff ylg (ydc rfl) (zzf 2) zy5 (fun _ _=>rfl))) (fun _ _ _ _ _=>zry (i:=0) (by show List.Nodup (("one"::["view", "pot"]):List Str);decide +kernel) rfl (Or.inl rfl)) (fun _ _ _ _ _=>zr1) (fun _ _ _ _ _=>(zlb (zcs Xt) rfl (hr.mono (by decide)) rfl (zrp (zzf 1) (zrp (zzf 2) (zrp (zzf 0) zy0))))))) zy0)))))
  (zsm (zzv (zzf 1)))))))
abbrev zgl:Stmt:=top 1
noncomputable def zfs:Ev->M Fl:=
 (ym4 (ykn (eUn (yl1 .int) (ykv 0)) (ykt (eUn (yl1 .bool) (ykv 0)))))
noncomputable def f_is_whole:List D->M D:=hide fun ds=>frz (run 1 zfs ds)
theorem ze9:FnScope ["thing"] ["thing"] (zko zgl):=scD rfl rfl rfl (by decide +kernel)
theorem zeb:BD "is_whole" "is_whole" zgl ["thing"]:=
 fun _ _ _ _ _ _ us hl=>match us,hl with|[_],_=>rfl
theorem zew(Xt:Txt K mg ca):OkF ⟨K,ca⟩ P w mg base 1 "is_whole" ["thing"] f_is_whole:=
 OkF.hide (OkF.frz (yhc Xt.f_is_whole ze9 fun _ _ _ _ _ _ _ hr=>
  (zsm (zzv (zy1 (zy6 .int (zzf 0) rfl Xt.n_isinstance rfl Xt.n_int boot_int) (zzc (zzb (zy6 .bool (zzf 0) rfl Xt.n_isinstance rfl Xt.n_bool boot_bool))))))))
abbrev zdy:Stmt:=top 2
noncomputable def zdk:Ev->M Fl:=
 (ym4 (ykn (eFn 1 f_is_whole [] (yeg (ykv 0) yj3)) (zyj oLe oLe (ykv 1) (ykv 0) (ykv 2))))
noncomputable def f_is_between:List D->M D:=hide fun ds=>frz (run 3 zdk ds)
theorem zc4:FnScope ["thing", "least", "most"] ["thing", "least", "most"] (zko zdy):=scD rfl rfl rfl (by decide +kernel)
theorem zcb:BD "is_between" "is_between" zdy ["thing", "least", "most"]:=
 fun _ _ _ _ _ _ us hl=>match us,hl with|[_,_,_],_=>rfl
theorem zcq(Xt:Txt K mg ca):OkF ⟨K,ca⟩ P w mg base 2 "is_between" ["thing", "least", "most"] f_is_between:=
 OkF.hide (OkF.frz (yhc Xt.f_is_between zc4 fun _ _ _ _ _ _ _ hr=>
  (zsm (zzv (zy1 (zlb (zew Xt) rfl (hr.mono (by decide)) rfl (zrp (zzf 0) zy0)) (zzc (zlc yhf ydd yhf ydd (zzf 1) (zzf 0) (zzf 2))))))))
abbrev zbz:Stmt:=top 19
noncomputable def zbn:Ev->M Fl:=
 (ym5 (sIf (eT (yko oNe (ye6 yl3 (yeg (ykv 1) yj3)) (ye6 yl3 (yeg (ykv 0) yj3)))) (ym4 (eC (.bl false))) ym2)
 (ym4 (ye6 ylt (yeg (ykp (ykr (yng (ykv 0) (ykv 1)) [] (tgT 2 (ydn (tgN 0) (ydn (tgN 1) yiz))) yel (eFn 3 f_is_between [] (yeg (ykv 1) (yeg (eC (.int 0)) (yeg (yko yma (ye6 yl3 (yeg (ykv 0) yj3)) (eC (.int 1))) yj3)))))) yj3))))
noncomputable def f_tells_places:List D->M D:=hide fun ds=>frz (run 2 zbn ds)
theorem zbc:FnScope ["readings", "chosen"] ["readings", "chosen"] (zko zbz):=scD rfl rfl rfl (by decide +kernel)
theorem zav:BD "tells_places" "tells_places" zbz ["readings", "chosen"]:=
 fun _ _ _ _ _ _ us hl=>match us,hl with|[_,_],_=>rfl
theorem za4(Xt:Txt K mg ca):OkF ⟨K,ca⟩ P w mg base 3 "tells_places" ["readings", "chosen"] f_tells_places:=
 OkF.hide (OkF.frz (yhc Xt.f_tells_places zbc fun _ _ _ _ _ _ _ hr=>
  (zlz (yfv (zzx (ybt (hu9 hr)) ync (zla zdd (zwn rfl) rfl Xt.n_len PySem.boot_len (zrp (zzf 1) zy0)) (zla zdd (zwn rfl) rfl Xt.n_len PySem.boot_len (zrp (zzf 0) zy0)) (ya7 _)) (zsm (zzv yfe)) zsl)
  (zsm (zzv (zla (zkb rfl) (zwi rfl) rfl Xt.n_all boot_all (zrp (zy4 (zy8 (x:="stands") (z0:="place") (M':=[]) (ix:=[]) rfl ⟨rfl,rfl,rfl,rfl,rfl,rfl⟩ (zzi rfl Xt.n_zip (zzf 0) (zzf 1)) (fun _ _ _ _ _=>zzg rfl (zlh (zry (i:=0) (by show List.Nodup (("stands"::"place"::[]):List Str);decide +kernel) rfl (Or.inl rfl)) (zlh (zry (i:=1) (by show List.Nodup (("stands"::"place"::[]):List Str);decide +kernel) rfl (Or.inl rfl)) zr0))) (fun _ _ _ _ _=>zr1) (fun _ _ _ _ _=>(zlb (zcq Xt) rfl (hr.mono (by decide)) rfl (zrp (zzf 1) (zrp zy5 (zrp (yfi ybw zwt (zla zdd (zwn rfl) rfl Xt.n_len PySem.boot_len (zrp (zzf 0) zy0)) zy5) zy0))))))) zy0)))))))
abbrev zae:Stmt:=top 13
noncomputable def zad:Ev->M Fl:=
 (ym4 (ykp (ykr (yng (ykv 0) (ykv 1)) [] (tgT 2 (ydn (tgN 0) (ydn (tgN 1) yiz))) yel (yko oIx (ykv 0) (ykv 1)))))
noncomputable def f_chosen_readings:List D->M D:=hide fun ds=>frz (run 2 zad ds)
theorem zac:FnScope ["readings", "chosen"] ["readings", "chosen"] (zko zae):=scD rfl rfl rfl (by decide +kernel)
theorem zaa:BD "chosen_readings" "chosen_readings" zae ["readings", "chosen"]:=
 fun _ _ _ _ _ _ us hl=>match us,hl with|[_,_],_=>rfl
theorem zab(Xt:Txt K mg ca):OkF ⟨K,ca⟩ P w mg base 1 "chosen_readings" ["readings", "chosen"] f_chosen_readings:=
 OkF.hide (OkF.frz (yhc Xt.f_chosen_readings zac fun _ _ _ _ _ _ _ hr=>
  (zsm (zzv (zy4 (zy8 (x:="stands") (z0:="place") (M':=[]) (ix:=[]) rfl ⟨rfl,rfl,rfl,rfl,rfl,rfl⟩ (zzi rfl Xt.n_zip (zzf 0) (zzf 1)) (fun _ _ _ _ _=>zzg rfl (zlh (zry (i:=0) (by show List.Nodup (("stands"::"place"::[]):List Str);decide +kernel) rfl (Or.inl rfl)) (zlh (zry (i:=1) (by show List.Nodup (("stands"::"place"::[]):List Str);decide +kernel) rfl (Or.inl rfl)) zr0))) (fun _ _ _ _ _=>zr1) (fun _ _ _ _ _=>(yff ylg (ydc rfl) (zzf 0) (zzf 1) (fun _ _=>rfl)))))))))
abbrev zby:Stmt:=top 14
noncomputable def zbm:Ev->M Fl:=
 (ym5 (ym6 1 ye7)
 (ym5 (ym1 (ynf (ykv 0)) (tgN 2) (yh9 (ynd (yko oIx (ykv 2) (eC (.int 1)))) (tgT 2 (ydn (tgN 3) (ydn (tgN 4) yiz))) (ymz (ye9 zt3 (zym zuh (ykv 1) (yeg (ykv 3) (yeg (yks yj3) yj3))) (yeg (ykv 4) yj3)))))
 (ym4 (ykv 1))))
noncomputable def f_lots_by_word:List D->M D:=hide fun ds=>frz (run 5 zbm ds)
theorem zbb:FnScope ["reads", "by_word", "read", "word", "lot"] ["reads"] (zko zby):=scD rfl rfl rfl (by decide +kernel)
theorem zau:BD "lots_by_word" "lots_by_word" zby ["reads"]:=
 fun _ _ _ _ _ _ us hl=>match us,hl with|[_],_=>rfl
theorem za3(Xt:Txt K mg ca):OkF ⟨K,ca⟩ P w mg base 1 "lots_by_word" ["reads"] f_lots_by_word:=
 OkF.hide (OkF.frz (yhc Xt.f_lots_by_word zbb fun _ _ _ _ _ _ _ hr=>
  (zlz (zzw (i:=1) zbb.nd rfl (Or.inl rfl) zru)
  (zlz (zzu zi2 rfl (zzh rfl (zzf 0)) (zry (i:=2) zbb.nd rfl (Or.inl rfl)) (zsm (zsh zi2 rfl (zli (yff ylg (ydc rfl) (zzf 2) zy5 (fun _ _=>rfl))) (zzg rfl (zlh (zry (i:=3) zbb.nd rfl (Or.inl rfl)) (zlh (zry (i:=4) zbb.nd rfl (Or.inl rfl)) zr0))) (zsm (zsg (zrx PySem.F.plainAttrs_list PySem.F.slot_list_append PySem.F.type_list_append ziq zgp (zle PySem.F.plainAttrs_dict PySem.F.slot_dict_setdefault PySem.F.type_dict_setdefault zis zgq (zzf 1) (zrp (zzf 3) (zrp (zy9 zy0) zy0))) (zrp (zzf 4) zy0)))))))
  (zsm (zzv (zzf 1)))))))
abbrev zgk:Stmt:=top 15
noncomputable def zfr:Ev->M Fl:=
 (ym4 (yko yls (eLv (yeg (eC .non) yj3)) (ykp (eLC (ynf (ykv 0)) [] (tgN 0) (eT (yko oEq (yko oIx (ykv 0) (eC (.int 0))) (eC (.str "open")))) (yko oIx (ykv 0) (eC (.int 2)))))))
noncomputable def f_fates_of:List D->M D:=hide fun ds=>frz (run 1 zfr ds)
theorem ze8:FnScope ["lots"] ["lots"] (zko zgk):=scD rfl rfl rfl (by decide +kernel)
theorem zea:BD "fates_of" "fates_of" zgk ["lots"]:=
 fun _ _ _ _ _ _ us hl=>match us,hl with|[_],_=>rfl
theorem zev(Xt:Txt K mg ca):OkF ⟨K,ca⟩ P w mg base 1 "fates_of" ["lots"] f_fates_of:=
 OkF.hide (OkF.frz (yhc Xt.f_fates_of ze8 fun _ _ _ _ _ _ _ hr=>
  (zsm (zzv (yfi (zuk rfl) ync (yfh (zrp zza zy0)) (zy4 (yfg (x:="lot") (M':=[]) (ix:=[]) rfl ⟨rfl,rfl,rfl,rfl,rfl,rfl⟩ (zzh rfl (zzf 0)) (fun _ _ _ _ _=>zry (i:=0) (by show List.Nodup (("lot"::[]):List Str);decide +kernel) rfl (Or.inl rfl)) (fun _ _ _ _ _=>zr2 (zzx (ybo (hu9 hr)) ync (yff ylg (ydc rfl) (zzf 0) zy5 (fun _ _=>rfl)) zzd (ya7 _))) (fun _ _ _ _ _=>(yff ylg (ydc rfl) (zzf 0) zy5 (fun _ _=>rfl))))))))))
abbrev zcz:Stmt:=top 20
noncomputable def zcl:Ev->M Fl:=
 (ym5 (sIf (eT (yko oNe (ye6 yg6 (yeg (ykv 1) yj3)) (ye6 yg6 (yeg (ykv 0) yj3)))) (ym4 (eC (.bl false))) ym2)
 (ym4 (ye6 ylt (yeg (ykp (ykr (ynd (ykv 0)) [1] (tgT 2 (ydn (tgN 0) (ydn (tgN 1) yiz))) yel (ykn (yko ylu (ykv 0) (ykv 2)) (yko (oIn false) (yko yg0 (ykv 2) (ykv 0)) (eFn 1 f_fates_of [] (yeg (ykv 1) yj3)))))) yj3))))
noncomputable def f_tells_fates:List D->M D:=hide fun ds=>frz (run 2 zcl ds)
theorem zb6:FnScope ["by_word", "fates"] ["by_word", "fates"] (zko zcz):=scD rfl rfl rfl (by decide +kernel)
theorem zbj:BD "tells_fates" "tells_fates" zcz ["by_word", "fates"]:=
 fun _ _ _ _ _ _ us hl=>match us,hl with|[_,_],_=>rfl
theorem zbu(Xt:Txt K mg ca):OkF ⟨K,ca⟩ P w mg base 2 "tells_fates" ["by_word", "fates"] f_tells_fates:=
 OkF.hide (OkF.frz (yhc Xt.f_tells_fates zb6 fun _ _ _ _ _ _ _ hr=>
  (zlz (yfv (zzx (ybt (hu9 hr)) ync (zla zha zo0 rfl Xt.n_len PySem.boot_len (zrp (zzf 1) zy0)) (zla zha zo0 rfl Xt.n_len PySem.boot_len (zrp (zzf 0) zy0)) (ya7 _)) (zsm (zzv yfe)) zsl)
  (zsm (zzv (zla (zkb rfl) (zwi rfl) rfl Xt.n_all boot_all (zrp (zy4 (zy8 (x:="word") (z0:="lots") (M':=["fates"]) (ix:=[1]) rfl ⟨rfl,rfl,rfl,rfl,rfl,rfl⟩ (zli (zzf 0)) (fun _ _ _ _ _=>zzg rfl (zlh (zry (i:=0) (by show List.Nodup (("word"::"lots"::["fates"]):List Str);decide +kernel) rfl (Or.inl rfl)) (zlh (zry (i:=1) (by show List.Nodup (("word"::"lots"::["fates"]):List Str);decide +kernel) rfl (Or.inl rfl)) zr0))) (fun _ _ _ _ _=>zr1) (fun _ _ _ _ _=>(zy1 (zy2 (ybn (hu9 hr)) zwk (zzf 0) (zzf 2) rfl) (zzc (zy2 zi1 (ydb rfl false) (zrt (hu9 hr) (zzf 2) (zzf 0) (fun _ _=>rfl)) (zlb (zev Xt) rfl (hr.mono (by decide)) rfl (zrp (zzf 1) zy0)) rfl)))))) zy0)))))))
abbrev za7:Stmt:=top 16
noncomputable def zay:Ev->M Fl:=
 (ym5 (sIf (eT (yko oEq (yko oIx (ykv 0) (eC (.int 0))) (eC (.str "open")))) (ym4 (eOr (yko yl2 (ykv 1) (eC .non)) (yko oGt (ykv 1) (yko oIx (ykv 0) (eC (.int 2)))))) ym2)
 (ym4 (ykn (yko oEq (yko oIx (ykv 0) (eC (.int 0))) (eC (.str "hangs"))) (ykn (yko yg9 (ykv 1) (eC .non)) (yko oLt (yko yls (yko yma (ykv 1) (eC (.int 1))) (ykv 2)) (yko oIx (ykv 0) (eC (.int 2))))))))
noncomputable def f_comes_by_fate:List D->M D:=hide fun ds=>frz (run 3 zay ds)
theorem zap:FnScope ["lot", "fate", "every"] ["lot", "fate", "every"] (zko za7):=scD rfl rfl rfl (by decide +kernel)
theorem zah:BD "comes_by_fate" "comes_by_fate" za7 ["lot", "fate", "every"]:=
 fun _ _ _ _ _ _ us hl=>match us,hl with|[_,_,_],_=>rfl
theorem zal(Xt:Txt K mg ca):OkF ⟨K,ca⟩ P w mg base 1 "comes_by_fate" ["lot", "fate", "every"] f_comes_by_fate:=
 OkF.hide (OkF.frz (yhc Xt.f_comes_by_fate zap fun _ _ _ _ _ _ _ hr=>
  (zlz (yfv (zzx (ybo (hu9 hr)) ync (yff ylg (ydc rfl) (zzf 0) zy5 (fun _ _=>rfl)) zzd (ya7 _)) (zsm (zzv (yfj (zy2 ybq zwm (zzf 1) zza (ya7 _)) (zzc (zy2 yhe yda (zzf 1) (yff ylg (ydc rfl) (zzf 0) zy5 (fun _ _=>rfl)) (ya7 _)))))) zsl)
  (zsm (zzv (zy1 (zy2 (ybo (hu9 hr)) ync (yff ylg (ydc rfl) (zzf 0) zy5 (fun _ _=>rfl)) zzd (ya7 _)) (zy1 (zy2 zun zo3 (zzf 1) zza (ya7 _)) (zzc (zy2 yhg yde (yfi (zuk rfl) ync (yfi ybw zwt (zzf 1) zy5) (zzf 2)) (yff ylg (ydc rfl) (zzf 0) zy5 (fun _ _=>rfl)) (ya7 _))))))))))
abbrev zcy:Stmt:=top 17
noncomputable def zck:Ev->M Fl:=
 (ym4 (ye6 ymb (yeg (ykp (eLC (ynf (ykv 0)) [1,2] (tgN 0) (eT (eFn 3 f_comes_by_fate [] (yeg (ykv 0) (yeg (ykv 1) (yeg (ykv 2) yj3))))) (yko oIx (ykv 0) (eC (.int 1))))) yj3)))
noncomputable def f_sum_by_fate:List D->M D:=hide fun ds=>frz (run 3 zck ds)
theorem zb5:FnScope ["lots", "fate", "every"] ["lots", "fate", "every"] (zko zcy):=scD rfl rfl rfl (by decide +kernel)
theorem zbi:BD "sum_by_fate" "sum_by_fate" zcy ["lots", "fate", "every"]:=
 fun _ _ _ _ _ _ us hl=>match us,hl with|[_,_,_],_=>rfl
theorem zbt(Xt:Txt K mg ca):OkF ⟨K,ca⟩ P w mg base 2 "sum_by_fate" ["lots", "fate", "every"] f_sum_by_fate:=
 OkF.hide (OkF.frz (yhc Xt.f_sum_by_fate zb5 fun _ _ _ _ _ _ _ hr=>
  (zsm (zzv (zla (zhg rfl) (zwu rfl) rfl Xt.n_sum boot_sum (zrp (zy4 (yfg (x:="lot") (M':=["fate", "every"]) (ix:=[1,2]) rfl ⟨rfl,rfl,rfl,rfl,rfl,rfl⟩ (zzh rfl (zzf 0)) (fun _ _ _ _ _=>zry (i:=0) (by show List.Nodup (("lot"::["fate", "every"]):List Str);decide +kernel) rfl (Or.inl rfl)) (fun _ _ _ _ _=>zr2 (zz0 (zlb (zal Xt) rfl (hr.mono (by decide)) rfl (zrp (zzf 0) (zrp (zzf 1) (zrp (zzf 2) zy0)))))) (fun _ _ _ _ _=>(yff ylg (ydc rfl) (zzf 0) zy5 (fun _ _=>rfl))))) zy0))))))
abbrev zok:Stmt:=top 18
noncomputable def zl4:Ev->M Fl:=
 (ym5 (ym6 4 (ye6 ymb (yeg (ykp (eLC (ynf (ykv 0)) [] (tgN 0) yel (yko oIx (ykv 0) (eC (.int 0))))) yj3)))
 (ym5 (yh9 (ynd (ykv 1)) (tgT 2 (ydn (tgN 5) (ydn (tgN 6) yiz))) (ymy (fun a b=>a+b) 4 (eFn 3 f_sum_by_fate [] (yeg (ykv 6) (yeg (yko yg0 (ykv 2) (ykv 5)) (yeg (ykv 3) yj3))))))
 (ym4 (ykv 4))))
noncomputable def f_sum_of:List D->M D:=hide fun ds=>frz (run 7 zl4 ds)
theorem zjg:FnScope ["reads", "by_word", "fates", "every", "total", "word", "lots"] ["reads", "by_word", "fates", "every"] (zko zok):=scD rfl rfl rfl (by decide +kernel)
theorem zgz:BD "sum_of" "sum_of" zok ["reads", "by_word", "fates", "every"]:=
 fun _ _ _ _ _ _ us hl=>match us,hl with|[_,_,_,_],_=>rfl
theorem zi0(Xt:Txt K mg ca):OkF ⟨K,ca⟩ P w mg base 3 "sum_of" ["reads", "by_word", "fates", "every"] f_sum_of:=
 OkF.hide (OkF.frz (yhc Xt.f_sum_of zjg fun _ _ _ _ _ _ _ hr=>
  (zlz (zzw (i:=4) zjg.nd rfl (Or.inl rfl) (zla (zhg rfl) (zwu rfl) rfl Xt.n_sum boot_sum (zrp (zy4 (yfg (x:="read") (M':=[]) (ix:=[]) rfl ⟨rfl,rfl,rfl,rfl,rfl,rfl⟩ (zzh rfl (zzf 0)) (fun _ _ _ _ _=>zry (i:=0) (by show List.Nodup (("read"::[]):List Str);decide +kernel) rfl (Or.inl rfl)) (fun _ _ _ _ _=>zr1) (fun _ _ _ _ _=>(yff ylg (ydc rfl) (zzf 0) zy5 (fun _ _=>rfl))))) zy0)))
  (zlz (zsh zi2 rfl (zli (zzf 1)) (zzg rfl (zlh (zry (i:=5) zjg.nd rfl (Or.inl rfl)) (zlh (zry (i:=6) zjg.nd rfl (Or.inl rfl)) zr0))) (zsm (zzs (i:=4) yaf zjg.nd rfl (Or.inl rfl) (zlb (zbt Xt) rfl (hr.mono (by decide)) rfl (zrp (zzf 6) (zrp (zrt (hu9 hr) (zzf 2) (zzf 5) (fun _ _=>rfl)) (zrp (zzf 3) zy0)))))))
  (zsm (zzv (zzf 4)))))))
abbrev ze4:Stmt:=top 21
noncomputable def zej:Ev->M Fl:=
 (ym5 (ym6 2 (eFn 1 f_read_pots [] (yeg (ykv 0) yj3)))
 (ym5 (sIf (yj9 (eT (eFn 2 f_tells_places [] (yeg (ykv 2) (yeg (yko oIx (ykv 1) (eC (.int 1))) yj3))))) (ym4 (eC (.bl false))) ym2)
 (ym5 (ym6 3 (eFn 2 f_chosen_readings [] (yeg (ykv 2) (yeg (yko oIx (ykv 1) (eC (.int 1))) yj3))))
 (ym5 (ym6 4 (eFn 1 f_lots_by_word [] (yeg (ykv 3) yj3)))
 (ym5 (sIf (yj9 (eT (eFn 2 f_tells_fates [] (yeg (ykv 4) (yeg (yko oIx (ykv 1) (eC (.int 2))) yj3))))) (ym4 (eC (.bl false))) ym2)
 (ym4 (yko oEq (yko oIx (ykv 1) (eC (.int 0))) (eFn 4 f_sum_of [] (yeg (ykv 3) (yeg (ykv 4) (yeg (yko oIx (ykv 1) (eC (.int 2))) (yeg (eUn (yly [0] "every") (ykv 0)) yj3))))))))))))
noncomputable def f_stands_up:List D->M D:=hide fun ds=>frz (run 5 zej ds)
theorem zd5:FnScope ["view", "told", "readings", "reads", "by_word"] ["view", "told"] (zko ze4):=scD rfl rfl rfl (by decide +kernel)
theorem zdc:BD "stands_up" "stands_up" ze4 ["view", "told"]:=
 fun _ _ _ _ _ _ us hl=>match us,hl with|[_,_],_=>rfl
theorem zdr(Xt:Txt K mg ca):OkF ⟨K,ca⟩ P w mg base 6 "stands_up" ["view", "told"] f_stands_up:=
 OkF.hide (OkF.frz (yhc Xt.f_stands_up zd5 fun _ _ _ _ _ _ _ hr=>
  (zlz (zzw (i:=2) zd5.nd rfl (Or.inl rfl) (zlb (zdq Xt) rfl (hr.mono (by decide)) rfl (zrp (zzf 0) zy0)))
  (zlz (yfv (zzz (zz0 (zlb (za4 Xt) rfl (hr.mono (by decide)) rfl (zrp (zzf 2) (zrp (yff ylg (ydc rfl) (zzf 1) zy5 (fun _ _=>rfl)) zy0))))) (zsm (zzv yfe)) zsl)
  (zlz (zzw (i:=3) zd5.nd rfl (Or.inl rfl) (zlb (zab Xt) rfl (hr.mono (by decide)) rfl (zrp (zzf 2) (zrp (yff ylg (ydc rfl) (zzf 1) zy5 (fun _ _=>rfl)) zy0))))
  (zlz (zzw (i:=4) zd5.nd rfl (Or.inl rfl) (zlb (za3 Xt) rfl (hr.mono (by decide)) rfl (zrp (zzf 3) zy0)))
  (zlz (yfv (zzz (zz0 (zlb (zbu Xt) rfl (hr.mono (by decide)) rfl (zrp (zzf 4) (zrp (yff ylg (ydc rfl) (zzf 1) zy5 (fun _ _=>rfl)) zy0))))) (zsm (zzv yfe)) zsl)
  (zsm (zzv (zy2 (ybo (hu9 hr)) ync (yff ylg (ydc rfl) (zzf 1) zy5 (fun _ _=>rfl)) (zlb (zi0 Xt) rfl (hr.mono (by decide)) rfl (zrp (zzf 3) (zrp (zzf 4) (zrp (yff ylg (ydc rfl) (zzf 1) zy5 (fun _ _=>rfl)) (zrp (zy3 rfl (zlo (T:=⟨K,ca⟩) (c:=0) Xt.cl_View Xt.na_View_every zr3) (zzf 0)) zy0))))) (ya7 _)))))))))))
abbrev za5:Stmt:=ygs (top 7) 0
noncomputable def zaw:Ev->M Fl:=
 (ym5 (ym3 [0] "every" (ykv 1) (ykv 0))
 (ym5 (ym3 [0] "last_look" (ykv 2) (ykv 0))
 (ym5 (ym3 [0] "known" (ykp (ye6 yg7 (yeg (ykv 3) yj3))) (ykv 0))
 (ym3 [0] "pots" (ykp (eLC (ynf (ykv 4)) [] (tgN 0) yel (yku (yeg (yko oIx (ykv 0) (eC (.int 0))) (yeg (ykp (ye6 yg7 (yeg (yko oIx (ykv 0) (eC (.int 1))) yj3))) (yeg (ye6 ylv (yeg (yko oIx (ykv 0) (eC (.int 2))) yj3)) yj3)))))) (ykv 0)))))
noncomputable def f_View___init__:List D->M D:=hide (run 5 zaw)
theorem zan:FnScope ["self", "every", "look", "words", "pots"] ["self", "every", "look", "words", "pots"] (zko za5):=scD rfl rfl rfl (by decide +kernel)
theorem zaf:BD "__init__" "View.__init__" za5 ["self", "every", "look", "words", "pots"]:=
 fun _ _ _ _ _ _ us hl=>match us,hl with|[_,_,_,_,_],_=>rfl
theorem zaj(Xt:Txt K mg ca):OkA ⟨K,ca⟩ P w mg base 1 (ca 1) ["self", "every", "look", "words", "pots"] f_View___init__:=
 OkA.hide (ybh Xt.f_View___init__ zan fun _ _ _ _ _ _ hr=>
  (zlz (zzt rfl (zlo (T:=⟨K,ca⟩) (c:=0) Xt.cl_View Xt.na_View_every zr3) (zzf 0) (zzf 1))
  (zlz (zzt rfl (zlo (T:=⟨K,ca⟩) (c:=0) Xt.cl_View Xt.na_View_last_look zr3) (zzf 0) (zzf 2))
  (zlz (zzt rfl (zlo (T:=⟨K,ca⟩) (c:=0) Xt.cl_View Xt.na_View_known zr3) (zzf 0) (zy4 (zhx zde (zo1 rfl) rfl Xt.n_list boot_list (zrp (zzf 3) zy0))))
  (zsm (zzt rfl (zlo (T:=⟨K,ca⟩) (c:=0) Xt.cl_View Xt.na_View_pots zr3) (zzf 0) (zy4 (yfg (x:="pot") (M':=[]) (ix:=[]) rfl ⟨rfl,rfl,rfl,rfl,rfl,rfl⟩ (zzh rfl (zzf 4)) (fun _ _ _ _ _=>zry (i:=0) (by show List.Nodup (("pot"::[]):List Str);decide +kernel) rfl (Or.inl rfl)) (fun _ _ _ _ _=>zr1) (fun _ _ _ _ _=>(zze (zrp (yff ylg (ydc rfl) (zzf 0) zy5 (fun _ _=>rfl)) (zrp (zy4 (zhx zde (zo1 rfl) rfl Xt.n_list boot_list (zrp (yff ylg (ydc rfl) (zzf 0) zy5 (fun _ _=>rfl)) zy0))) (zrp (zhx zkc zwj rfl Xt.n_dict boot_dict (zrp (yff ylg (ydc rfl) (zzf 0) zy5 (fun _ _=>rfl)) zy0)) zy0)))))))))))))
abbrev yic:Stmt:=top 39
noncomputable def yf0:Ev->M Fl:=
 (ym5 (ym6 1 (eFn 1 f__law_view [] (yeg (ykv 0) yj3)))
 (ym5 (ym6 2 (eFn 2 f__law_chosen [] (yeg (ykv 1) (yeg (eFn 2 f__law_cell_at [] (yeg (ykv 0) (yeg (eC (.int 7)) yj3))) yj3))))
 (ym5 (ym6 3 (eFn 2 f__law_lenient [] (yeg (ykv 1) (yeg (ykv 2) yj3))))
 (ym5 (ym6 4 (eFn 2 f__law_ties [] (yeg (ykv 1) (yeg (ykv 3) yj3))))
 (ym5 (ym6 5 (eFn 2 f__law_fates [] (yeg (ykv 4) (yeg (eFn 2 f__law_cell_at [] (yeg (ykv 0) (yeg (eC (.int 8)) yj3))) yj3))))
 (ym5 (ym6 6 (ykp (ykq (ynf (ykv 4)) [1,5] (tgT 2 (ydn (tgN 0) (ydn (tgN 1) yiz))) (eT (eFn 4 f__law_counts [] (yeg (ykv 0) (yeg (ykv 1) (yeg (zym yg3 (ykv 3) (yeg (yko oIx (ykv 1) (eC (.int 2))) yj3)) (yeg (yko oIx (ykv 2) (eC (.int 0))) yj3)))))) (yko oIx (ykv 1) (eC (.int 1))))))
 (ym5 (ym6 7 (yko yls (ye6 ymb (yeg (ykv 6) yj3)) (eFn 2 f__law_own [] (yeg (ykv 1) (yeg (ykv 3) yj3)))))
 (ym5 (ym6 8 (ykv 7))
 (ym5 (sIf (eT (yko oEq (yko yl4 (eFn 2 f__law_cell_at [] (yeg (ykv 0) (yeg (eC (.int 9)) yj3))) (eC (.int 4))) (eC (.int 0)))) (ym6 8 (yko yl4 (eFn 2 f__law_cell_at [] (yeg (ykv 0) (yeg (eC (.int 9)) yj3))) (yko yl8 (eC (.int 10)) (eC (.int 12))))) ym2)
 (ym5 (ym6 9 (ykn (eFn 2 f__law_places [] (yeg (ykv 1) (yeg (ykv 2) yj3))) (ykn (eFn 2 f__law_right [] (yeg (ykv 4) (yeg (ykv 5) yj3))) (yko oEq (ykv 8) (ykv 7)))))
 (ym5 (ym6 10 (eFn 2 f_stands_up [] (yeg (ykp (ye8 0 5 f_View___init__ (yeg (yko oIx (ykv 1) (eC (.int 0))) (yeg (yko oIx (ykv 1) (eC (.int 1))) (yeg (yko oIx (ykv 1) (eC (.int 2))) (yeg (yko oIx (ykv 1) (eC (.int 3))) yj3)))))) (yeg (yku (yeg (ykv 8) (yeg (ykv 2) (yeg (ykv 5) yj3)))) yj3))))
 (ym4 (ykn (eUn (yl1 .bool) (ykv 10)) (yko oEq (ykv 10) (ykv 9)))))))))))))))
noncomputable def f_law:List D->M D:=run 11 yf0
theorem yc0:FnScope ["_law_script", "_law_view_here", "_law_chosen_here", "_law_lenient_here", "_law_ties_here", "_law_fates_here", "_law_sums", "_law_right_here", "_law_total", "_law_due", "_law_found"] ["_law_script"] (zko yic):=scD rfl rfl rfl (by decide +kernel)
theorem zxm:BD "law" "law" yic ["_law_script"]:=
 fun _ _ _ _ _ _ us hl=>match us,hl with|[_],_=>rfl
theorem ybj(Xt:Txt K mg ca):OkL ⟨K,ca⟩ P w mg 7 "law" ["_law_script"] f_law:=
 ybk Xt.f_law yc0 fun _ _ _ _ _ _ _ _ hr=>
  (zlz (zzw (i:=1) yc0.nd rfl (Or.inr rfl) (zlb (zdp Xt) rfl (hr.mono (by decide)) rfl (zrp (zzf 0) zy0)))
  (zlz (zzw (i:=2) yc0.nd rfl (Or.inl rfl) (zlb (zbp Xt) rfl (hr.mono (by decide)) rfl (zrp (zzf 1) (zrp (zlb (za1 Xt) rfl (hr.mono (by decide)) rfl (zrp (zzf 0) (zrp zy5 zy0))) zy0))))
  (zlz (zzw (i:=3) yc0.nd rfl (Or.inl rfl) (zlb (za2 Xt) rfl (hr.mono (by decide)) rfl (zrp (zzf 1) (zrp (zzf 2) zy0))))
  (zlz (zzw (i:=4) yc0.nd rfl (Or.inl rfl) (zlb (zdo Xt) rfl (hr.mono (by decide)) rfl (zrp (zzf 1) (zrp (zzf 3) zy0))))
  (zlz (zzw (i:=5) yc0.nd rfl (Or.inr rfl) (zlb (zcm Xt) rfl (hr.mono (by decide)) rfl (zrp (zzf 4) (zrp (zlb (za1 Xt) rfl (hr.mono (by decide)) rfl (zrp (zzf 0) (zrp zy5 zy0))) zy0))))
  (zlz (zsj (zh3 (i:=6) yc0.nd rfl (Or.inl rfl) (x:="_law_standing_here") (z0:="_law_tie_here") (M':=["_law_view_here", "_law_fates_here"]) (ix:=[1,5]) rfl ⟨rfl,rfl,rfl,rfl,rfl,rfl⟩ (zzh rfl (zzf 4)) (fun _ _ _ _ _=>zzg rfl (zlh (zry (i:=0) (by show List.Nodup (("_law_standing_here"::"_law_tie_here"::["_law_view_here", "_law_fates_here"]):List Str);decide +kernel) rfl (Or.inl rfl)) (zlh (zry (i:=1) (by show List.Nodup (("_law_standing_here"::"_law_tie_here"::["_law_view_here", "_law_fates_here"]):List Str);decide +kernel) rfl (Or.inl rfl)) zr0))) (fun _ _ _ _ _=>zr2 (zz0 (zlb (zbq Xt) rfl (hr.mono (by decide)) rfl (zrp (zzf 0) (zrp (zzf 1) (zrp (zle PySem.F.plainAttrs_dict PySem.F.slot_dict_get PySem.F.type_dict_get zts zoy (zzf 3) (zrp (yff ylg (ydc rfl) (zzf 1) zy5 (fun _ _=>rfl)) zy0)) (zrp (yff ylg (ydc rfl) (zzf 2) zy5 (fun _ _=>rfl)) zy0))))))) (fun _ _ _ _ _=>(yff ylg (ydc rfl) (zzf 1) zy5 (fun _ _=>rfl)))))
  (zlz (zzw (i:=7) yc0.nd rfl (Or.inl rfl) (yfi (zuk rfl) ync (zla (zhg rfl) (zwu rfl) rfl Xt.n_sum boot_sum (zrp (zzf 6) zy0)) (zlb (zes Xt) rfl (hr.mono (by decide)) rfl (zrp (zzf 1) (zrp (zzf 3) zy0)))))
  (zlz (zzw (i:=8) yc0.nd rfl (Or.inl rfl) (zzf 7))
  (zlz (yfv (zzx (ybo (hu9 hr)) ync (yfi ybr zwo (zlb (za1 Xt) rfl (hr.mono (by decide)) rfl (zrp (zzf 0) (zrp zy5 zy0))) zy5) zy5 (ya7 _)) (zsm (zzw (i:=8) yc0.nd rfl (Or.inl rfl) (yfi ybr zwo (zlb (za1 Xt) rfl (hr.mono (by decide)) rfl (zrp (zzf 0) (zrp zy5 zy0))) (yfi ybv zws zy5 zy5)))) zsl)
  (zlz (zzw (i:=9) yc0.nd rfl (Or.inl rfl) (zy1 (zlb (zbr Xt) rfl (hr.mono (by decide)) rfl (zrp (zzf 1) (zrp (zzf 2) zy0))) (zy1 (zlb (zco Xt) rfl (hr.mono (by decide)) rfl (zrp (zzf 4) (zrp (zzf 5) zy0))) (zzc (zy2 (ybo (hu9 hr)) ync (zzf 8) (zzf 7) (ya7 _))))))
  (zlz (zzw (i:=10) yc0.nd rfl (Or.inl rfl) (zlb (zdr Xt) rfl (hr.mono (by decide)) rfl (zrp (zy4 (zrw (c:=0) (ps:=["self", "every", "look", "words", "pots"]) ⟨_,Xt.m_View,Xt.mk_View,zaj Xt⟩ rfl (hr.mono (by decide)) rfl (zrp (yff ylg (ydc rfl) (zzf 1) zy5 (fun _ _=>rfl)) (zrp (yff ylg (ydc rfl) (zzf 1) zy5 (fun _ _=>rfl)) (zrp (yff ylg (ydc rfl) (zzf 1) zy5 (fun _ _=>rfl)) (zrp (yff ylg (ydc rfl) (zzf 1) zy5 (fun _ _=>rfl)) zy0)))))) (zrp (zze (zrp (zzf 8) (zrp (zzf 2) (zrp (zzf 5) zy0)))) zy0))))
  (zsm (zzv (zy1 (zy6 .bool (zzf 10) rfl Xt.n_isinstance rfl Xt.n_bool boot_bool) (zzc (zy2 (ybo (hu9 hr)) ync (zzf 10) (zzf 9) (ya7 _)))))))))))))))))
end
end K33
namespace K33
open PySem L2 L4
set_option maxHeartbeats 4000000
def yes(ns:List Int)(k:Nat):Int:=ns.getD k 0
theorem zqp(ns:List Int)(k:Int)(hk:0<=k)(σ:Sto):f__law_cell_at [.scr ns,.int k] σ=.ok (.int (yes ns k.toNat)) σ:=by
 unfold f__law_cell_at zbk yes;by_cases h:k<ns.length
 ·simp[h,zua hk h]
 ·have e:ns.length<=k.toNat:=by omega
  simp[h,List.getElem?_eq_none e]
structure Ti where
 p:Int
 a:Int
 w:Int
 d:Int
def Ti.D(t:Ti):L4.D:=.tup [.int t.p,.int t.a,.int t.w,.int t.d]
structure Ti.Ok(t:Ti):Prop where
 p1:0<=t.p
 p2:t.p<=1
 a1:1<=t.a
 a2:t.a<=1000000000000
 w1:0<=t.w
 w2:t.w<=59
 d1:0<=t.d
 d2:t.d<=1000000
@[simp] theorem Ti.cl(t:Ti):L4.cl t.D=true:=by simp[Ti.D]
@[simp] theorem Ti.clL(ts:List Ti):L4.clL (ts.map Ti.D)=true:=zqt Ti.cl
structure TsOk(ts:List Ti):Prop where
 ok:∀ t∈ts,t.Ok
 nd:(ts.map (·.w)).Nodup
 len:ts.length<=6
section
variable{α:Type}{xs:List α}{σ:Sto}{ρ:Ev}{ix:List Nat}{fi:Ev->M Bool}{fe:Ev->M D}
theorem yar{yms:Ev}(f:α->D)(p:α->Bool)(y:α->D)(step:∀ x∈xs,∀ j,fi (some (f x)::yms) (σ++j)=.ok (p x) (σ++j)/\(p x=true->fe (some (f x)::yms) (σ++j)=.ok (y x) (σ++j)))(hl:xs.length<=1000) :
  ∀ (k i:Nat) (o:Option D) (ys:List D),xs.length<k+i->i<=xs.length->ys.length<=i->
   yau (.seq (xs.map f)) σ.length (tgN 0) fi fe k i (o::yms) (σ++[.lst ys])=.ok () (σ++[.lst (ys++((xs.drop i).filter p).map y)]):=by
 intro k;induction k with
 |zero=>intro i o ys h1 h2;omega
 |succ k ih=>
  intro i o ys h1 h2 hy;unfold yau;show (match some (xs.map f)[i]? with|none=>_|some none=>_|some (some d)=>_)=_;rw[List.getElem?_map];cases e:xs[i]? with
  |none=>
   have hi:xs.length<=i:=List.getElem?_eq_none_iff.mp e;rw[List.drop_eq_nil_of_le hi];simp
  |some d=>
   obtain⟨hi,ed⟩:=List.getElem?_eq_some_iff.mp e;have hd:xs.drop i=d::xs.drop (i+1):=by rw[<-ed];exact List.drop_eq_getElem_cons hi
   obtain⟨s1,s2⟩:=step d (by rw[<-ed];exact List.getElem_mem hi) [.lst ys];show bnd (nox (fi (some (f d)::yms))) _ _=_;rw[zxq,ya8 s1,zqh];dsimp only[List.set];by_cases hp:p d=true
   ·rw[hp,if_pos rfl,zxq,ya8 (s2 hp),zqh,zxq,zfe (by omega),zqh,ih (i+1) (some (f d)) (ys++[y d]) (by omega) (by omega) (by simp;omega),hd,List.filter_cons,if_pos hp];simp
   ·rw[if_neg hp,ih (i+1) (some (f d)) ys (by omega) (by omega) (by omega),hd,List.filter_cons,if_neg hp]
theorem yaq{src:Ev->M Src}(f:α->D)(p:α->Bool)(y:α->D)(hs:src ρ σ=.ok (.seq (xs.map f)) σ)(hl:xs.length<=1000)
  (step:∀ x∈xs,∀ j,fi (some (f x)::(ix.map fun i=>(ρ[i]?).getD none)) (σ++j)=.ok (p x) (σ++j)/\(p x=true->fe (some (f x)::(ix.map fun i=>(ρ[i]?).getD none)) (σ++j)=.ok (y x) (σ++j))) :
  eLC src ix (tgN 0) fi fe ρ σ=.ok (.ref σ.length) (σ++[.lst ((xs.filter p).map y)]):=by
 show bnd (src ρ) (lcK (tgN 0) fi fe (yem ix ρ)) σ=_;rw[zxq,hs,zqh];show bnd (yau (.seq (xs.map f)) σ.length (tgN 0) fi fe 1001 0 (none::(ix.map fun i=>(ρ[i]?).getD none))) _ (σ++[.lst []])=_;rw[zxq,yar f p y step hl 1001 0 none [] (by omega) (by omega) (by simp),zqh];simp
theorem zse{zs:List D}(h:clL zs=true):yk2 σ (.ok (.ref σ.length) (σ++[.lst zs]))=.ok (.lst zs) σ:=by
 have:=zlw (σ:=σ) (j:=[]) (j':=[]) h;simpa using this
theorem yew(p:α->Bool)(y:α->D)(hc:∀ x∈xs,cl (y x)=true):clL ((xs.filter p).map y)=true:=
 zqs fun d hd=>by obtain⟨x,hx,rfl⟩:=List.mem_map.mp hd;exact hc x (List.mem_filter.mp hx).1
theorem lcA{src:Ev->M Src}(f:α->D)(p:α->Bool)(y:α->D)(hs:src ρ σ=.ok (.seq (xs.map f)) σ)(hl:xs.length<=1000)
  (step:∀ x∈xs,∀ j,fi (some (f x)::(ix.map fun i=>(ρ[i]?).getD none)) (σ++j)=.ok (p x) (σ++j)/\(p x=true->fe (some (f x)::(ix.map fun i=>(ρ[i]?).getD none)) (σ++j)=.ok (y x) (σ++j))) (hc:∀ x∈xs,cl (y x)=true) :
  ykp (eLC src ix (tgN 0) fi fe) ρ σ=.ok (.lst ((xs.filter p).map y)) σ:=by
 show yk2 σ (eLC src ix (tgN 0) fi fe ρ σ)=_;rw[yaq f p y hs hl step,zse (yew p y hc)]
theorem ylk{src:Ev->M Src}(f y:α->D)(hs:src ρ σ=.ok (.seq (xs.map f)) σ)(hl:xs.length<=1000)
  (step:∀ x∈xs,∀ j,fe (some (f x)::(ix.map fun i=>(ρ[i]?).getD none)) (σ++j)=.ok (y x) (σ++j)) (hc:∀ x∈xs,cl (y x)=true) :
  ykp (eLC src ix (tgN 0) yel fe) ρ σ=.ok (.lst (xs.map y)) σ:=by
 have:=lcA f (fun _=>true) y (ix:=ix) (fi:=yel) hs hl (fun d hd j=>⟨rfl,fun _=>step d hd j⟩) hc;rw[show List.filter (fun _=>true) xs=xs from List.filter_eq_self.mpr fun _ _=>rfl]at this;exact this
theorem yas{yms:Ev}(f g:α->D)(p:α->Bool)(y:α->D)(step:∀ x∈xs,∀ j,fi (some (f x)::some (g x)::yms) (σ++j)=.ok (p x) (σ++j)/\(p x=true->fe (some (f x)::some (g x)::yms) (σ++j)=.ok (y x) (σ++j)))(hl:xs.length<=1000) :
  ∀ (k i:Nat) (o o':Option D) (ys:List D),xs.length<k+i->i<=xs.length->ys.length<=i->
   yau (.seq (xs.map fun x=>.tup [f x,g x])) σ.length (tgT 2 (ydn (tgN 0) (ydn (tgN 1) yiz))) fi fe k i (o::o'::yms) (σ++[.lst ys])=.ok () (σ++[.lst (ys++((xs.drop i).filter p).map y)]):=by
 intro k;induction k with
 |zero=>intro i o o' ys h1 h2;omega
 |succ k ih=>
  intro i o o' ys h1 h2 hy;unfold yau;show (match some (xs.map fun x=>D.tup [f x,g x])[i]? with|none=>_|some none=>_|some (some d)=>_)=_;rw[List.getElem?_map];cases e:xs[i]? with
  |none=>
   have hi:xs.length<=i:=List.getElem?_eq_none_iff.mp e;rw[List.drop_eq_nil_of_le hi];simp
  |some d=>
   obtain⟨hi,ed⟩:=List.getElem?_eq_some_iff.mp e;have hd:xs.drop i=d::xs.drop (i+1):=by rw[<-ed];exact List.drop_eq_getElem_cons hi
   obtain⟨s1,s2⟩:=step d (by rw[<-ed];exact List.getElem_mem hi) [.lst ys];show bnd (nox (fi (some (f d)::some (g d)::yms))) _ _=_;rw[zxq,ya8 s1,zqh];by_cases hp:p d=true
   ·rw[hp,if_pos rfl];show bnd (nox (fe (some (f d)::some (g d)::yms))) _ _=_;rw[zxq,ya8 (s2 hp),zqh,zxq,zfe (by omega),zqh];show yau _ _ _ _ _ k (i+1) (some (f d)::some (g d)::yms) _=_;rw[ih (i+1) (some (f d)) (some (g d)) (ys++[y d]) (by omega) (by omega) (by simp;omega),hd,List.filter_cons,if_pos hp];simp
   ·rw[if_neg hp];show yau _ _ _ _ _ k (i+1) (some (f d)::some (g d)::yms) _=_;rw[ih (i+1) (some (f d)) (some (g d)) ys (by omega) (by omega) (by omega),hd,List.filter_cons,if_neg hp]
theorem lcB{src:Ev->M Src}(f g:α->D)(p:α->Bool)(y:α->D)(hs:src ρ σ=.ok (.seq (xs.map fun x=>.tup [f x,g x])) σ)(hl:xs.length<=1000)
  (step:∀ x∈xs,∀ j,fi (some (f x)::some (g x)::(ix.map fun i=>(ρ[i]?).getD none)) (σ++j)=.ok (p x) (σ++j)/\(p x=true->fe (some (f x)::some (g x)::(ix.map fun i=>(ρ[i]?).getD none)) (σ++j)=.ok (y x) (σ++j))) (hc:∀ x∈xs,cl (y x)=true) :
  ykp (ykq src ix (tgT 2 (ydn (tgN 0) (ydn (tgN 1) yiz))) fi fe) ρ σ=.ok (.lst ((xs.filter p).map y)) σ:=by
 show yk2 σ (ykq src ix (tgT 2 (ydn (tgN 0) (ydn (tgN 1) yiz))) fi fe ρ σ)=_;have e:ykq src ix (tgT 2 (ydn (tgN 0) (ydn (tgN 1) yiz))) fi fe ρ σ=.ok (.ref σ.length) (σ++[.lst ((xs.filter p).map y)]):=by
  show bnd (src ρ) (lcK _ fi fe (zxo ix ρ)) σ=_;rw[zxq,hs,zqh];show bnd (yau (.seq (xs.map fun x=>.tup [f x,g x])) σ.length _ fi fe 1001 0 (none::none::(ix.map fun i=>(ρ[i]?).getD none))) _ (σ++[.lst []])=_;rw[zxq,yas f g p y step hl 1001 0 none none [] (by omega) (by omega) (by simp),zqh];simp
 rw[e,zse (yew p y hc)]
def yjm(nx:NX)(xs:List α)(f g:α->D):Prop:=∀ i σ,nx i σ=match xs[i]? with
 |some x=>some (some (.tup [f x,g x]))
 |none=>if i=xs.length then some none else none
theorem yat{nx:NX}{yms:Ev}(f g:α->D)(p:α->Bool)(y:α->D)(hn:yjm nx xs f g)(step:∀ x∈xs,∀ j,fi (some (f x)::some (g x)::yms) (σ++j)=.ok (p x) (σ++j)/\(p x=true->fe (some (f x)::some (g x)::yms) (σ++j)=.ok (y x) (σ++j)))(hl:xs.length<=1000) :
  ∀ (k i:Nat) (o o':Option D) (ys:List D),xs.length<k+i->i<=xs.length->ys.length<=i->
   zth nx σ.length (tgT 2 (ydn (tgN 0) (ydn (tgN 1) yiz))) fi fe k i (o::o'::yms) (σ++[.lst ys])=.ok () (σ++[.lst (ys++((xs.drop i).filter p).map y)]):=by
 intro k;induction k with
 |zero=>intro i o o' ys h1 h2;omega
 |succ k ih=>
  intro i o o' ys h1 h2 hy;unfold zth;rw[hn];cases e:xs[i]? with
  |none=>
   have hi:xs.length<=i:=List.getElem?_eq_none_iff.mp e;have hi2:i=xs.length:=by omega
   dsimp only;rw[if_pos hi2,List.drop_eq_nil_of_le hi];simp
  |some d=>
   obtain⟨hi,ed⟩:=List.getElem?_eq_some_iff.mp e;have hd:xs.drop i=d::xs.drop (i+1):=by rw[<-ed];exact List.drop_eq_getElem_cons hi
   obtain⟨s1,s2⟩:=step d (by rw[<-ed];exact List.getElem_mem hi) [.lst ys];show bnd (nox (fi (some (f d)::some (g d)::yms))) _ _=_;rw[zxq,ya8 s1,zqh];by_cases hp:p d=true
   ·rw[hp,if_pos rfl];show bnd (nox (fe (some (f d)::some (g d)::yms))) _ _=_;rw[zxq,ya8 (s2 hp),zqh,zxq,zfe (by omega),zqh];show zth _ _ _ _ _ k (i+1) (some (f d)::some (g d)::yms) _=_;rw[ih (i+1) (some (f d)) (some (g d)) (ys++[y d]) (by omega) (by omega) (by simp;omega),hd,List.filter_cons,if_pos hp];simp
   ·rw[if_neg hp];show zth _ _ _ _ _ k (i+1) (some (f d)::some (g d)::yms) _=_;rw[ih (i+1) (some (f d)) (some (g d)) ys (by omega) (by omega) (by omega),hd,List.filter_cons,if_neg hp]
theorem lcC{src:Ev->M NX}{nx:NX}(f g:α->D)(y:α->D)(hs:src ρ σ=.ok nx σ)(hn:yjm nx xs f g)(hl:xs.length<=1000)
  (step:∀ x∈xs,∀ j,fe (some (f x)::some (g x)::(ix.map fun i=>(ρ[i]?).getD none)) (σ++j)=.ok (y x) (σ++j)) (hc:∀ x∈xs,cl (y x)=true) :
  ykp (ykr src ix (tgT 2 (ydn (tgN 0) (ydn (tgN 1) yiz))) yel fe) ρ σ=.ok (.lst (xs.map y)) σ:=by
 show yk2 σ (ykr src ix (tgT 2 (ydn (tgN 0) (ydn (tgN 1) yiz))) yel fe ρ σ)=_;have ft:xs.filter (fun _=>true)=xs:=List.filter_eq_self.mpr fun _ _=>rfl;have e:ykr src ix (tgT 2 (ydn (tgN 0) (ydn (tgN 1) yiz))) yel fe ρ σ=.ok (.ref σ.length) (σ++[.lst (xs.map y)]):=by
  show bnd (src ρ) (yll _ yel fe (zxo ix ρ)) σ=_;rw[zxq,hs,zqh];show bnd (zth nx σ.length _ yel fe 1001 0 (none::none::(ix.map fun i=>(ρ[i]?).getD none))) _ (σ++[.lst []])=_;rw[zxq,yat f g (fun _=>true) y hn (fun d hd j=>⟨rfl,fun _=>step d hd j⟩) hl 1001 0 none none [] (by omega) (by omega) (by simp),zqh];simp[ft]
 rw[e];have:=yew (xs:=xs) (fun _=>true) y hc;rw[ft]at this;exact zse this
theorem znd(kv:List α)(k:α->Key)(v:α->D):yjm (nxI ((kv.map k).zip (kv.map v))) kv (fun x=>ylj (k x)) v:=fun i σ=>by
 have e:(kv.map k).zip (kv.map v)=kv.map fun x=>(k x,v x):=by
  induction kv with
  |nil=>rfl
  |cons x kv ih=>simp only[List.map_cons,List.zip_cons_cons,ih]
 unfold nxI;rw[e,List.getElem?_map,List.length_map];cases kv[i]?<;>rfl
theorem ya9{β:Type}(xs:List α)(ys:List β)(f:α->D)(g:β->D):yjm (nxZ (.lst (xs.map f)) (.lst (ys.map g))) (xs.zip ys) (fun p=>f p.1) (fun p=>g p.2):=fun i σ=>by
 unfold nxZ;have h1:yln σ (.lst (xs.map f))=some (xs.map f):=rfl;have h2:yln σ (.lst (ys.map g))=some (ys.map g):=rfl;simp only[h1,h2,List.getElem?_map,List.length_map,List.length_zip];cases e1:xs[i]? with
 |none=>
  have:(xs.zip ys)[i]?=none:=by
   rw[List.getElem?_eq_none_iff]at e1 ⊢;rw[List.length_zip];omega
  rw[this];rfl
 |some a=>
  cases e2:ys[i]? with
  |none=>
   have:(xs.zip ys)[i]?=none:=by
    rw[List.getElem?_eq_none_iff]at e2 ⊢;rw[List.length_zip];omega
   rw[this];rfl
  |some b=>
   have:(xs.zip ys)[i]?=some (a,b):=by
    rw[List.getElem?_zip_eq_some];exact⟨e1,e2⟩
   rw[this];rfl
end
def shD(l:List (Int × Int)):D:=.dic (l.map fun p=>.inl p.1) (l.map fun p=>.int p.2)
def kvI(l:List (Int × Int)):List (Key × D):=l.map fun p=>(.inl p.1,.int p.2)
@[simp] theorem yc5(l:List (Int × Int)):cl (shD l)=true:=by unfold shD cl;exact zqt fun _=>by simp
theorem zq5(l:List (Int × Int))(σ:Sto):ykm σ (shD l)=some (kvI l):=by
 unfold ykm shD kvI;dsimp only;rw[if_pos (by simp)];congr 1;induction l with
 |nil=>rfl
 |cons p l ih=>simp only[List.map_cons,List.zip_cons_cons,ih]
def val(l:List (Int × Int))(w:Int):Option Int:=(l.find? fun p=>decide (p.1=w)).map (·.2)
theorem zll(w:Int):∀ (l:List (Int × Int)),yfl (kvI l) (.inl w)=(val l w).map D.int
 |[]=>rfl
 |p::l=>by
  have ih:=zll w l;unfold yfl kvI val at *;rw[List.map_cons,List.find?_cons,List.find?_cons];by_cases e:p.1=w
  ·simp[e]
  ·have e2:¬ (Sum.inl p.1:Key)=Sum.inl w:=fun z=>e (Sum.inl.inj z);simp only[e,e2,decide_false]at ih ⊢;exact ih
theorem zye(l:List (Int × Int))(w:Int)(σ:Sto):ylu (.int w) (shD l) σ=.ok (.bl (val l w).isSome) σ:=by
 unfold ylu;simp only[ylh,zq5,zll];cases val l w<;>rfl
theorem zq9{l:List (Int × Int)}{w v:Int}(h:val l w=some v)(σ:Sto):yg0 (shD l) (.int w) σ=.ok (.int v) σ:=by
 unfold yg0;simp only[ylh,zq5,zll,h];rfl
theorem zyb(l:List (Int × Int))(σ:Sto):ylv [shD l] σ=.ok (shD l) σ:=by
 unfold ylv;simp only[zq5];unfold shD kvI;simp[List.map_map,Function.comp_def]
def ymg(l:List (Int × Int))(w v:Int):List (Int × Int):=if l.any (fun p=>decide (p.1=w))then l.map fun p=>if p.1=w then (p.1,v)else p else l++[(w,v)]
theorem zn2(l:List (Int × Int))(w v:Int):(ymg l w v).length<=l.length+1:=by unfold ymg;split<;>simp
theorem zi8(l:List (Int × Int))(w v:Int):yhr (kvI l) (.inl w) (.int v)=kvI (ymg l w v):=by
 have ha:((kvI l).any fun kv=>decide (kv.1=(Sum.inl w:Key)))=l.any fun p=>decide (p.1=w):=by
  unfold kvI;rw[List.any_map];congr 1;funext p;simp
 unfold yhr ymg;rw[ha];split
 ·unfold kvI;rw[List.map_map,List.map_map];congr 1;funext p;simp only[Function.comp];by_cases e:p.1=w
  ·simp[e]
  ·have e2:¬ (Sum.inl p.1:Key)=Sum.inl w:=fun z=>e (Sum.inl.inj z);simp[e]
 ·unfold kvI;rw[List.map_append];rfl
structure St where
 (n a b:Int) (ts:List Ti)
def St.D(s:St):L4.D:=.tup [.int s.n,.tup [.int s.a,.int s.b],.tup (s.ts.map Ti.D)]
structure Po where
 (s:Int) (st:List St) (sn:List (Int × Int))
def Po.D(p:Po):L4.D:=.tup [.int p.s,.lst (p.st.map St.D),shD p.sn]
structure Vw where
 (e k:Int) (ws:List Int) (ps:List Po)
def Vw.D(v:Vw):L4.D:=.tup [.int v.e,.int v.k,.lst (v.ws.map D.int),.lst (v.ps.map Po.D)]
def Vw.O(v:Vw):L4.D:=.obj 0 ["every", "last_look", "known", "pots"] [.int v.e,.int v.k,.lst (v.ws.map D.int),.lst (v.ps.map Po.D)]
@[simp] theorem St.cl(s:St):L4.cl s.D=true:=by simp[St.D]
@[simp] theorem Po.cl(p:Po):L4.cl p.D=true:=by
 have:L4.clL (p.st.map St.D)=true:=zqt fun _=>by simp
 simp[Po.D,this]
@[simp] theorem Vw.cl(v:Vw):L4.cl v.D=true:=by
 have h1:L4.clL (v.ps.map Po.D)=true:=zqt fun _=>by simp
 have h2:L4.clL (v.ws.map D.int)=true:=zqt fun _=>by simp
 simp[Vw.D,h1,h2]
theorem St.i0(s:St)(σ:Sto):oIx s.D (.int 0) σ=.ok (.int s.n) σ:=by unfold St.D;simp
theorem St.i1(s:St)(σ:Sto):oIx s.D (.int 1) σ=.ok (.tup [.int s.a,.int s.b]) σ:=by unfold St.D;simp
theorem St.i2(s:St)(σ:Sto):oIx s.D (.int 2) σ=.ok (.tup (s.ts.map Ti.D)) σ:=by unfold St.D;simp
theorem Po.i0(p:Po)(σ:Sto):oIx p.D (.int 0) σ=.ok (.int p.s) σ:=by unfold Po.D;simp
theorem Po.i1(p:Po)(σ:Sto):oIx p.D (.int 1) σ=.ok (.lst (p.st.map St.D)) σ:=by unfold Po.D;simp
theorem Po.i2(p:Po)(σ:Sto):oIx p.D (.int 2) σ=.ok (shD p.sn) σ:=by unfold Po.D;simp
theorem Ti.i0(t:Ti)(σ:Sto):oIx t.D (.int 0) σ=.ok (.int t.p) σ:=by unfold Ti.D;simp
theorem Ti.i1(t:Ti)(σ:Sto):oIx t.D (.int 1) σ=.ok (.int t.a) σ:=by unfold Ti.D;simp
theorem Ti.i2(t:Ti)(σ:Sto):oIx t.D (.int 2) σ=.ok (.int t.w) σ:=by unfold Ti.D;simp
theorem Ti.i3(t:Ti)(σ:Sto):oIx t.D (.int 3) σ=.ok (.int t.d) σ:=by unfold Ti.D;simp
theorem Vw.f0(v:Vw)(σ:Sto):yly [0] "every" v.O σ=.ok (.int v.e) σ:=zt7 (zh6 rfl) rfl rfl
theorem Vw.f1(v:Vw)(σ:Sto):yly [0] "last_look" v.O σ=.ok (.int v.k) σ:=zt7 (zh6 rfl) rfl rfl
theorem Vw.f2(v:Vw)(σ:Sto):yly [0] "known" v.O σ=.ok (.lst (v.ws.map D.int)) σ:=zt7 (zh6 rfl) rfl rfl
theorem Vw.f3(v:Vw)(σ:Sto):yly [0] "pots" v.O σ=.ok (.lst (v.ps.map Po.D)) σ:=zt7 (zh6 rfl) rfl rfl
def inT(l:List (Int × Int))(t:Ti):Bool:=match val l t.w with|some v=>decide (v<t.d)|none=>false
def inW(ws:List Int)(w:Int):Bool:=ws.any fun z=>z == w
theorem zsz(ws:List Int)(w:Int)(σ:Sto):oIn false (.int w) (.lst (ws.map D.int)) σ=.ok (.bl (inW ws w)) σ:=by
 have h1:(ws.map D.int).all isF=true:=by simp[isF,sc]
 have h2:(ws.map D.int).any (fun z=>eqF z (.int w))=inW ws w:=by
  unfold inW;rw[List.any_map];congr 1
 have h3:yif σ (.lst (ws.map D.int))=some (ws.map D.int):=rfl;unfold oIn;simp only[h3,h1,h2];rfl
def lot(v:Vw)(s:Int)(sn:List (Int × Int))(t:Ti):Str:=
 if inT sn t then (if t.p == s then "lost" else "won")
 else if decide (t.d<=v.k)then (if t.p == s then "back" else "gone")
 else if t.p == s then "open"
 else if inW v.ws t.w && decide (v.k+v.e<t.d)then "sure" else "hangs"
theorem zow(t:Ti)(sn:List (Int × Int))(σ:Sto):f_shown_in_time [t.D,shD sn] σ=.ok (.bl (inT sn t)) σ:=by
 have i2:=fun σ=>t.i2 σ;have i3:=fun σ=>t.i3 σ;have d1:=fun σ=>zye sn t.w σ;unfold f_shown_in_time zaz inT;cases hv:val sn t.w with
 |none=>
  rw[hv]at d1;generalize t.D=TD at *;generalize shD sn=SD at *;simp[i2,i3,d1]
 |some x=>
  have d2:=fun σ=>zq9 hv σ;rw[hv]at d1;generalize t.D=TD at *;generalize shD sn=SD at *;simp[i2,i3,d1,d2]
theorem zk7(w:Int)(σ:Sto):∀ ws:List Int,ykx σ (.int w) (ws.map D.int)=some (ws.map fun z=>z == w)
 |[]=>rfl
 |z::ws=>by
  have e:eqD σ 7 (.int z) (.int w)=some (z == w):=by simp[eqD,kd,eqK,eqV]
  simp only[List.map_cons];unfold ykx;rw[e,zk7 w σ ws]
theorem zmf(ws:List Int)(w:Int)(σ:Sto):ylz false (.int w) (.lst (ws.map D.int)) σ=.ok (.bl (inW ws w)) σ:=by
 have h3:yif σ (.lst (ws.map D.int))=some (ws.map D.int):=rfl;unfold ylz;simp only[h3,zk7];simp[inW,List.any_map,Function.comp_def]
theorem zur(v:Vw)(sn:List (Int × Int))(t:Ti)(σ:Sto):f_lot_of_paid [v.O,shD sn,t.D] σ=.ok (.str (if inT sn t then "lost" else if decide (t.d<=v.k)then "back" else "open")) σ:=by
 have h1:=fun σ=>zow t sn σ;have h2:=fun σ=>v.f1 σ;have i3:=fun σ=>t.i3 σ;unfold f_lot_of_paid zcj;generalize inT sn t=b1 at *;generalize hb2:decide (t.d<=v.k)=b2 at *;generalize t.D=TD at *;generalize shD sn=SD at *;generalize v.O=VO at *;cases b1<;>cases b2<;>simp[h1,h2,i3,hb2]
theorem zyi(v:Vw)(sn:List (Int × Int))(t:Ti)(σ:Sto):f_lot_of_due [v.O,shD sn,t.D] σ=.ok (.str (if inT sn t then "won" else if decide (t.d<=v.k)then "gone" else if inW v.ws t.w && decide (v.k+v.e<t.d)then "sure" else "hangs")) σ:=by
 have h1:=fun σ=>zow t sn σ;have h2:=fun σ=>v.f1 σ;have h3:=fun σ=>v.f0 σ;have h4:=fun σ=>v.f2 σ;have h5:=fun σ=>zmf v.ws t.w σ;have i2:=fun σ=>t.i2 σ;have i3:=fun σ=>t.i3 σ;unfold f_lot_of_due zdl;generalize inT sn t=b1 at *;generalize hb2:decide (t.d<=v.k)=b2 at *;generalize inW v.ws t.w=b3 at *;generalize hb4:decide (v.k+v.e<t.d)=b4 at *;generalize t.D=TD at *;generalize shD sn=SD at *;generalize v.O=VO at *;generalize v.ws.map D.int=WL at *;cases b1<;>cases b2<;>cases b3<;>cases b4<;>simp[h1,h2,h3,h4,h5,i2,i3,hb2,hb4]
theorem ya1(v:Vw)(p:Po)(t:Ti)(σ:Sto):f_lot_of [v.O,p.D,t.D] σ=.ok (.str (lot v p.s p.sn t)) σ:=by
 have h1:=fun σ=>zur v p.sn t σ;have h2:=fun σ=>zyi v p.sn t σ;have p0:=fun σ=>p.i0 σ;have p2:=fun σ=>p.i2 σ;have i0:=fun σ=>t.i0 σ;unfold f_lot_of zl3 lot;generalize inT p.sn t=b1 at *;generalize decide (t.d<=v.k)=b2 at *;generalize (inW v.ws t.w && decide (v.k+v.e<t.d))=b3 at *;generalize hb4:(t.p == p.s)=b4 at *;generalize t.D=TD at *;generalize shD p.sn=SD at *;generalize v.O=VO at *;generalize p.D=PD at *;cases b4<;>cases b1<;>cases b2<;>cases b3<;>simp[h1,h2,p0,p2,i0,hb4]
theorem yac(σ:Sto):yg5 [.bl true] σ=.ok (.int 1) σ:=rfl
theorem yab(σ:Sto):yg5 [.bl false] σ=.ok (.int 0) σ:=rfl
theorem zfb(v:Vw)(s:Int)(sn:List (Int × Int))(t:Ti)(σ:Sto):f__law_standing [v.D,.int s,shD sn,t.D] σ=.ok (.str (lot v s sn t)) σ:=by
 have i0:=fun σ=>t.i0 σ;have i2:=fun σ=>t.i2 σ;have i3:=fun σ=>t.i3 σ;have h5:=fun σ=>zsz v.ws t.w σ;have a4:∀ x0 x1 x2 x3 x4 x5 x6 x7 σ,yj6 (tgT 4 (ydn (tgN 4) (ydn (tgN 5) (ydn (tgN 6) (ydn (tgN 7) yiz))))) [x0,x1,x2,x3,x4,x5,x6,x7] v.D σ=.ok (.nx [x0,x1,x2,x3,some (.int v.e),some (.int v.k),some (.lst (v.ws.map D.int)),some (.lst (v.ps.map Po.D))]) σ:=fun _ _ _ _ _ _ _ _ _=>nr rfl;have l0:∀ (x y:Str) σ,oIx (.lst [.str x,.str y]) (.int 0) σ=.ok (.str x) σ:=fun x y σ=>zt9 (show atI _ ((0:Nat):Int)=_ from zp9 rfl);have l1:∀ (x y:Str) σ,oIx (.lst [.str x,.str y]) (.int 1) σ=.ok (.str y) σ:=fun x y σ=>zt9 (show atI _ ((1:Nat):Int)=_ from zp9 rfl);have d1:=fun σ=>zye sn t.w σ;have d2:∀ x,val sn t.w=some x->∀ σ,yg0 (shD sn) (.int t.w) σ=.ok (.int x) σ:=fun x h σ=>zq9 h σ;unfold f__law_standing zax lot inT;generalize hb2:decide (t.d<=v.k)=b2 at *;generalize inW v.ws t.w=b3 at *;generalize hb4:decide (v.k+v.e<t.d)=b4 at *;generalize hb5:(t.p == s)=b5 at *;generalize t.D=TD at *;generalize shD sn=SD at *;generalize v.D=VD at *;generalize v.ws.map D.int=WL at *;generalize v.ps.map Po.D=PL at *;cases hv:val sn t.w with
 |none=>
  rw[hv]at d1;cases b2<;>cases b3<;>cases b4<;>cases b5<;>simp[i0,i2,i3,h5,a4,l0,l1,d1,hb2,hb4,hb5,yac,yab]
 |some x=>
  rw[hv]at d1;have d3:=d2 x hv;cases hb1:decide (x<t.d)<;>cases b2<;>cases b3<;>cases b4<;>cases b5<;>simp[i0,i2,i3,h5,a4,l0,l1,d1,d3,hb1,hb2,hb4,hb5,yac,yab]
def yfm(l:Str):Bool:=inV (.str l) ((["won", "sure", "back"]:List Str).map V.str)
def ykz(g:Ti->Str):List Ti->Int
 |[]=>0
 |t::ts=>(if yfm (g t)then t.a else 0)+ykz g ts
def lD(g:Ti->Str)(t:Ti):D:=.tup [.str (g t),.int t.a,.int t.d]
@[simp] theorem yge(g:Ti->Str)(t:Ti):cl (lD g t)=true:=by simp[lD]
def kvL(g:Ti->Str)(ts:List Ti):List (Key × D):=ts.map fun t=>(.inl t.w,lD g t)
theorem put_new{kvs:List (Key × D)}{k:Key}(d:D)(h:k ∉ kvs.map (·.1)):yhr kvs k d=kvs++[(k,d)]:=by
 have:(kvs.any fun kv=>decide (kv.1=k))=false:=by
  rw[List.any_eq_false];intro p hp z;exact h (List.mem_map.mpr ⟨p,hp,by simpa using z⟩)
 unfold yhr;rw[this];rfl
theorem zoo{σ:Sto}{kvs:List (Key × D)}(w:Int)(d:D)(hl:kvs.length<1000)(ρ:Ev):yii ρ d (.ref σ.length) (.int w) (σ++[.dic kvs])=.ok (.nx ρ) (σ++[.dic (yhr kvs (.inl w) d)]):=by
 have e:(σ++[Ob.dic kvs])[σ.length]?=some (.dic kvs):=by simp
 unfold yii;simp only[ylh,e];rw[if_pos (by unfold cap;omega),zwa]
theorem zlx{σ:Sto}{a:D}{kvs:List (Key × D)}(ha:cl a=true)(h:clL (kvs.map (·.2))=true):yk2 σ (.ok (.tup [a,.ref σ.length]) (σ++[.dic kvs]))=.ok (.tup [a,.dic (kvs.map (·.1)) (kvs.map (·.2))]) σ:=by
 have e:(σ++[Ob.dic kvs])[σ.length]?=some (.dic kvs):=by simp
 have hz:∀ (k m:Nat) (σ':Sto) (xs:List D),clL xs=true->fzL (fz k σ' m) xs=some xs:=by
  intro k m σ' xs;induction xs with
  |nil=>intro _;rfl
  |cons x xs ih=>
   intro hc;have hc':cl x=true/\clL xs=true:=by simpa [clL,Bool.and_eq_true]using hc
   unfold fzL;rw[yfx hc'.1,ih hc'.2]
 have hr:fz σ.length (σ++[Ob.dic kvs]) 5 (.ref σ.length)=some (.dic (kvs.map (·.1)) (kvs.map (·.2))):=by
  unfold fz;rw[if_neg (by simp[cl])];dsimp only;rw[if_neg (Nat.lt_irrefl _),e];dsimp only;rw[hz _ _ _ _ h];rfl
 have ht:fz σ.length (σ++[Ob.dic kvs]) 6 (.tup [a,.ref σ.length])=some (.tup [a,.dic (kvs.map (·.1)) (kvs.map (·.2))]):=by
  unfold fz;rw[if_neg (by simp[cl,clL,ha])];dsimp only;unfold fzL;rw[yfx ha];unfold fzL;rw[hr];rfl
 unfold yk2;dsimp only;rw[if_pos (by simp),ht]
noncomputable abbrev rsB:Ev->M Fl:=(ym5 (ym6 6 (eFn 3 f_lot_of [] (yeg (ykv 0) (yeg (ykv 1) (yeg (ykv 5) yj3)))))
 (ym5 (yia (yku (yeg (ykv 6) (yeg (yko oIx (ykv 5) (eC (.int 1))) (yeg (yko oIx (ykv 5) (eC (.int 3))) yj3)))) (ykv 4) (yko oIx (ykv 5) (eC (.int 2))))
 (sIf (eT (eUn (yl0 false ["won", "sure", "back"]) (ykv 6))) (ymy (fun a b=>a+b) 3 (yko oIx (ykv 5) (eC (.int 1)))) ym2)))
@[simp] theorem zoh(f fo fi:Ev->M D)(ρ:Ev)(σ:Sto):yia f fo fi ρ σ=xsO ρ (yig ρ fo fi) (f ρ σ):=yi6 ..
@[simp] theorem zom(fo fi:Ev->M D)(d:D)(ρ:Ev)(σ:Sto):yig ρ fo fi d σ=xsO ρ (yih ρ fi d) (fo ρ σ):=yi6 ..
@[simp] theorem zon(fi:Ev->M D)(d x:D)(ρ:Ev)(σ:Sto):yih ρ fi d x σ=xsO ρ (yii ρ d x) (fi ρ σ):=yi6 ..
@[simp] theorem zkv(ρ:Ev)(σ:Sto):ye7 ρ σ=.ok (.ref σ.length) (σ++[.dic []]):=nr rfl
theorem zsy(z:Str)(σ:Sto):yl0 false ["won", "sure", "back"] (.str z) σ=.ok (.bl (yfm z)) σ:=rfl
theorem zvp(v:Vw)(p:Po)(S:D)(a:Int)(t:Ti)(done:List Ti)(x6:Option D)(σ:Sto)(hw:t.w ∉ done.map (·.w))(hl:done.length<1000) :
  rsB [some v.O,some p.D,some S,some (.int a),some (.ref σ.length),some t.D,x6] (σ++[.dic (kvL (lot v p.s p.sn) done)])=.ok (.nx [some v.O,some p.D,some S,some (.int (a+if yfm (lot v p.s p.sn t)then t.a else 0)),some (.ref σ.length),some t.D,some (.str (lot v p.s p.sn t))]) (σ++[.dic (kvL (lot v p.s p.sn) (done++[t]))]):=by
 have h1:=fun σ=>ya1 v p t σ;have i1:=fun σ=>t.i1 σ;have i2:=fun σ=>t.i2 σ;have i3:=fun σ=>t.i3 σ;have hk:(Sum.inl t.w:Key) ∉ (kvL (lot v p.s p.sn) done).map (·.1):=fun z=>by
  unfold kvL at z;rw[List.map_map]at z;obtain⟨u,hu,e⟩:=List.mem_map.mp z;have e':u.w=t.w:=Sum.inl.inj e;exact hw (List.mem_map.mpr ⟨u,hu,e'⟩)
 have st:=fun ρ=>zoo (σ:=σ) (kvs:=kvL (lot v p.s p.sn) done) t.w (lD (lot v p.s p.sn) t) (by unfold kvL;simpa using hl) ρ;rw[put_new _ hk,show kvL (lot v p.s p.sn) done++[(Sum.inl t.w,lD (lot v p.s p.sn) t)]=kvL (lot v p.s p.sn) (done++[t]) by unfold kvL;simp]at st;unfold lD at st;have sg:∀ (f:Ev->M D) (y0 y1 y2 y4 y5 y6:Option D) (x:D) (σ:Sto),ymy (fun a b=>a+b) 3 f [y0,y1,y2,some x,y4,y5,y6] σ=xsO [y0,y1,y2,some x,y4,y5,y6] (yj7 (fun a b=>a+b) 3 [y0,y1,y2,some x,y4,y5,y6] x) (f [y0,y1,y2,some x,y4,y5,y6] σ):=fun f y0 y1 y2 y4 y5 y6 x σ=>zvu rfl;unfold rsB;generalize (Ob.dic (kvL (lot v p.s p.sn) (done++[t])))=O2 at *;generalize (Ob.dic (kvL (lot v p.s p.sn) done))=O1 at *;generalize (σ.length)=N at *;generalize (σ++[O1])=σ1 at *;generalize (σ++[O2])=σ2 at *;generalize lot v p.s p.sn t=L at *;have hg:=fun σ=>zsy L σ;generalize yfm L=fb at *;generalize v.O=VO at *;generalize p.D=PD at *;generalize t.D=TD at *;cases fb<;>simp[h1,i1,i2,i3,st,sg,hg]
theorem zvo(v:Vw)(p:Po)(S:D)(σ:Sto):∀ (ts done:List Ti) (a:Int) (x5 x6:Option D),((done++ts).map (·.w)).Nodup->(done++ts).length<=6->∃ y5 y6,
  ylm (tgN 5) rsB (ts.map Ti.D) [some v.O,some p.D,some S,some (.int a),some (.ref σ.length),x5,x6] (σ++[.dic (kvL (lot v p.s p.sn) done)])=.ok (.nx [some v.O,some p.D,some S,some (.int (a+ykz (lot v p.s p.sn) ts)),some (.ref σ.length),y5,y6]) (σ++[.dic (kvL (lot v p.s p.sn) (done++ts))])
 |[],done,a,x5,x6,_,_=>⟨x5,x6,by simp[ykz]⟩
 |t::ts,done,a,x5,x6,hn,hl=>by
  have hw:t.w ∉ done.map (·.w):=fun z=>by
   rw[List.map_append,List.nodup_append]at hn;exact hn.2.2 _ z _ (by simp) rfl
  have st:=zvp v p S a t done x6 σ hw (by simp at hl;omega);obtain⟨y5,y6,e⟩:=zvo v p S σ ts (done++[t]) (a+if yfm (lot v p.s p.sn t)then t.a else 0) (some t.D) (some (.str (lot v p.s p.sn t))) (by simpa using hn) (by simpa using hl);refine⟨y5,y6,?_⟩;rw[List.map_cons,zm0];simp only[List.set_cons_succ,List.set_cons_zero];rw[st,zqh,zmy,e];simp only[ykz,List.append_assoc,List.cons_append,List.nil_append,Int.add_assoc]
def shr(s:Int)(t:St):Int:=if s=0 then t.a else t.b
def rdD(v:Vw)(p:Po)(t:St):D:=.tup [.int (shr p.s t+ykz (lot v p.s p.sn) t.ts),.dic (t.ts.map fun u=>.inl u.w) (t.ts.map (lD (lot v p.s p.sn)))]
theorem yct(v:Vw)(p:Po)(t:St):cl (rdD v p t)=true:=by
 have:clL (t.ts.map (lD (lot v p.s p.sn)))=true:=zqt fun _=>by simp
 have h2:cl (.dic (t.ts.map fun u=>.inl u.w) (t.ts.map (lD (lot v p.s p.sn))))=true:=by unfold cl;exact this
 simp[rdD,h2]
structure St.Ok(t:St):Prop where
 nd:(t.ts.map (·.w)).Nodup
 len:t.ts.length<=6
 wb:∀ u∈t.ts,0<=u.w/\u.w<=6
theorem zjd(v:Vw)(p:Po)(t:St)(hp:p.s=0\/p.s=1)(ht:t.Ok)(σ:Sto):f_read_stand [v.O,p.D,t.D] σ=.ok (rdD v p t) σ:=by
 have t1:=fun σ=>t.i1 σ;have t2:=fun σ=>t.i2 σ;have p0:=fun σ=>p.i0 σ;have sh:∀ σ,oIx (.tup [.int t.a,.int t.b]) (.int p.s) σ=.ok (.int (shr p.s t)) σ:=fun σ=>by
  unfold shr;rcases hp with h|h<;>rw[h]
  ·exact zub (show atI _ ((0:Nat):Int)=_ from zp9 rfl)
  ·exact zub (show atI _ ((1:Nat):Int)=_ from zp9 rfl)
 obtain⟨y5,y6,e⟩:=zvo v p t.D σ t.ts [] (shr p.s t) none none (by simpa using ht.nd) (by simpa using ht.len);rw[List.nil_append,show kvL (lot v p.s p.sn) []=[]from rfl]at e;have hcl:clL ((kvL (lot v p.s p.sn) t.ts).map (·.2))=true:=by unfold kvL;rw[List.map_map];exact zqt fun _=>by simp[lD]
 have fz:=zlx (σ:=σ) (a:=.int (shr p.s t+ykz (lot v p.s p.sn) t.ts)) (kvs:=kvL (lot v p.s p.sn) t.ts) (by simp) hcl;have e1:(kvL (lot v p.s p.sn) t.ts).map (·.1)=t.ts.map fun u=>(.inl u.w:Key):=by unfold kvL;rw[List.map_map];rfl
 have e2:(kvL (lot v p.s p.sn) t.ts).map (·.2)=t.ts.map (lD (lot v p.s p.sn)):=by unfold kvL;rw[List.map_map];rfl
 rw[e1,e2]at fz;unfold rsB at e;unfold f_read_stand zdm rdD;generalize (t.ts.map fun u=>(.inl u.w:Key))=KS at *;generalize t.ts.map (lD (lot v p.s p.sn))=VS at *;generalize shr p.s t+ykz (lot v p.s p.sn) t.ts=F at *;generalize shr p.s t=F0 at *;generalize (Ob.dic (kvL (lot v p.s p.sn) t.ts))=O2 at *;generalize v.O=VO at *;generalize p.D=PD at *;generalize t.D=TD at *;generalize t.ts.map Ti.D=TS at *;simp[t1,t2,p0,sh,e,fz]
structure Vw.Ok(v:Vw):Prop where
 n3:v.ps.length<=3
 sd:∀ p∈v.ps,p.s=0\/p.s=1
 ok:∀ p∈v.ps,∀ t∈p.st,t.Ok
 sl:∀ p∈v.ps,1<=p.st.length/\p.st.length<=20
def rdL(v:Vw)(p:Po):D:=.lst (p.st.map (rdD v p))
theorem ycu(v:Vw)(p:Po):cl (rdL v p)=true:=by unfold rdL;rw[zx4];exact zqt fun t=>yct v p t
noncomputable abbrev rpB:Ev->M Fl:=(ymz (ye9 zt3 (ykv 1) (yeg (ykp (eLC (ynf (yko oIx (ykv 2) (eC (.int 1)))) [0,2] (tgN 0) yel (eFn 3 f_read_stand [] (yeg (ykv 1) (yeg (ykv 2) (yeg (ykv 0) yj3)))))) yj3)))
theorem zvn(v:Vw)(hv:v.Ok)(p:Po)(hp:p∈v.ps)(ys:List D)(hy:ys.length<1000)(σ:Sto):rpB [some v.O,some (.ref σ.length),some p.D] (σ++[.lst ys])=.ok (.nx [some v.O,some (.ref σ.length),some p.D]) (σ++[.lst (ys++[rdL v p])]):=by
 have p1:=fun σ=>p.i1 σ;have l:=ylk (xs:=p.st) (ix:=[0,2]) (ρ:=[some v.O,some (.ref σ.length),some p.D]) (σ:=σ++[.lst ys]) (src:=ynf (yko oIx (ykv 2) (eC (.int 1)))) (fe:=eFn 3 f_read_stand [] (yeg (ykv 1) (yeg (ykv 2) (yeg (ykv 0) yj3)))) St.D (rdD v p) (by
   generalize p.D=PD at *;generalize v.O=VO at *;simp[p1]) (by have:=(hv.sl p hp).2;omega) (fun t ht j=>by
   have r:=zjd v p t (hv.sd p hp) (hv.ok p hp t ht);generalize rdD v p t=R at *;generalize (σ++[Ob.lst ys]++j)=σ1 at *;generalize p.D=PD at *;generalize v.O=VO at *;generalize t.D=TD at *;simp[r]) (fun t _=>yct v p t)
 rw[show (.lst (p.st.map (rdD v p)):D)=rdL v p from rfl]at l;have ap:=zfe (σ:=σ) (xs:=ys) (d:=rdL v p) hy;unfold rpB;generalize rdL v p=R at *;generalize p.D=PD at *;generalize v.O=VO at *;simp[l,ap,-zrd]
theorem zvm(v:Vw)(hv:v.Ok)(σ:Sto):∀ (ps:List Po) (ys:List D) (x2:Option D),(∀ p∈ps,p∈v.ps)->ys.length+ps.length<=900->∃ y2,
  ylm (tgN 2) rpB (ps.map Po.D) [some v.O,some (.ref σ.length),x2] (σ++[.lst ys])=.ok (.nx [some v.O,some (.ref σ.length),y2]) (σ++[.lst (ys++ps.map (rdL v))])
 |[],ys,x2,_,_=>⟨x2,by simp⟩
 |p::ps,ys,x2,hm,hl=>by
  simp only[List.length_cons]at hl;have st:=zvn v hv p (hm p List.mem_cons_self) ys (by omega) σ;obtain⟨y2,e⟩:=zvm v hv σ ps (ys++[rdL v p]) (some p.D) (fun q hq=>hm q (List.mem_cons_of_mem _ hq)) (by simp;omega);refine⟨y2,?_⟩;rw[List.map_cons,zm0];simp only[List.set_cons_succ,List.set_cons_zero];rw[st,zqh,zmy,e];simp
theorem zof(v:Vw)(hv:v.Ok)(σ:Sto):f_read_pots [v.O] σ=.ok (.lst (v.ps.map (rdL v))) σ:=by
 have f3:=fun σ=>v.f3 σ;obtain⟨y2,e⟩:=zvm v hv σ v.ps [] none (fun _ h=>h) (by have:=hv.n3;simp;omega);rw[List.nil_append]at e;have fz:=zse (σ:=σ) (zs:=v.ps.map (rdL v)) (zqt fun p=>ycu v p);unfold rpB at e;unfold f_read_pots zei;generalize v.O=VO at *;generalize v.ps.map (rdL v)=RL at *;generalize v.ps.map Po.D=PL at *;simp[f3,e,fz]
theorem zj0(i:Int)(σ:Sto):f_is_whole [.int i] σ=.ok (.bl true) σ:=by unfold f_is_whole zfs;simp
theorem zql(i a b:Int)(σ:Sto):f_is_between [.int i,.int a,.int b] σ=.ok (.bl (decide (a<=i) && decide (i<=b))) σ:=by
 unfold f_is_between zdk;cases h1:decide (a<=i)<;>cases h2:decide (i<=b)<;>simp[zj0,h1,h2]
def plB(ps:List Po)(cs:List Int):Bool:=(ps.zip cs).all fun q=>decide (0<=q.2) && decide (q.2<=(q.1.st.length:Int) - 1)
theorem zqj:∀ (bs:List Bool),yeo (bs.map D.bl)=some bs
 |[]=>rfl
 |b::bs=>by
  show (yeo (bs.map D.bl)).map (b::·)=_;rw[zqj bs];rfl
theorem zp2(bs:List Bool)(σ:Sto):ylt [.lst (bs.map D.bl)] σ=.ok (.bl (bs.all id)) σ:=by
 have h:yif σ (.lst (bs.map D.bl))=some (bs.map D.bl):=rfl;unfold ylt;simp only[h,Option.bind_some,zqj]
theorem zo5{i j:Nat}{ρ:Ev}{σ:Sto}{xs ys:List D}(h1:ykv i ρ σ=.ok (.lst xs) σ)(h2:ykv j ρ σ=.ok (.lst ys) σ):yng (ykv i) (ykv j) ρ σ=.ok (nxZ (.lst xs) (.lst ys)) σ:=by
 have a:yln σ (.lst xs)=some xs:=rfl;have b:yln σ (.lst ys)=some ys:=rfl;unfold yng;rw[zxq,h1,zqh];unfold yi7;rw[zxq,h2,zqh];unfold yi8;simp only[a,b]
theorem zxe{α β:Type}(xs:List α)(ys:List β):(xs.zip ys).length<=xs.length:=by rw[List.length_zip];omega
theorem zi6(v:Vw)(cs:List Int)(h3:v.ps.length<=3)(σ:Sto):f_tells_places [.lst (v.ps.map (rdL v)),.lst (cs.map D.int)] σ=.ok (.bl (((cs.length:Int) == (v.ps.length:Int)) && plB v.ps cs)) σ:=by
 have l:=lcC (xs:=v.ps.zip cs) (ix:=[]) (ρ:=[some (.lst (v.ps.map (rdL v))),some (.lst (cs.map D.int))]) (σ:=σ) (fe:=eFn 3 f_is_between [] (yeg (ykv 1) (yeg (eC (.int 0)) (yeg (yko yma (ye6 yl3 (yeg (ykv 0) yj3)) (eC (.int 1))) yj3)))) (fun q=>rdL v q.1) (fun q=>.int q.2) (fun q=>.bl (decide (0<=q.2) && decide (q.2<=(q.1.st.length:Int) - 1)))
  (zo5 (i:=0) (j:=1) (by simp) (by simp)) (ya9 v.ps cs (rdL v) D.int) (by have:=zxe v.ps cs;omega) (fun q _ j=>by
   have hl:∀ σ,yl3 [rdL v q.1] σ=.ok (.int q.1.st.length) σ:=fun σ=>by unfold rdL;simp
   generalize rdL v q.1=R at *;generalize (q.1.st.length:Int)=N at *;simp[hl,zql]) (fun _ _=>by simp)
 have e1:((v.ps.zip cs).map fun q=>D.bl (decide (0<=q.2) && decide (q.2<=(q.1.st.length:Int) - 1)))=((v.ps.zip cs).map fun q=>(decide (0<=q.2) && decide (q.2<=(q.1.st.length:Int) - 1))).map D.bl:=by rw[List.map_map];rfl
 have ab:=zp2 ((v.ps.zip cs).map fun q=>(decide (0<=q.2) && decide (q.2<=(q.1.st.length:Int) - 1))) σ;rw[<-e1]at ab;rw[show ((v.ps.zip cs).map fun q=>(decide (0<=q.2) && decide (q.2<=(q.1.st.length:Int) - 1))).all id=plB v.ps cs by unfold plB;rw[List.all_map];rfl]at ab;have l1:∀ σ,yl3 [.lst (v.ps.map (rdL v))] σ=.ok (.int v.ps.length) σ:=fun σ=>by simp
 have l2:∀ σ,yl3 [.lst (cs.map D.int)] σ=.ok (.int cs.length) σ:=fun σ=>by simp
 unfold f_tells_places zbn;generalize hb:((cs.length:Int) == (v.ps.length:Int))=b at *;generalize ((v.ps.zip cs).map fun q=>D.bl (decide (0<=q.2) && decide (q.2<=(q.1.st.length:Int) - 1)))=BL at *;generalize D.lst (v.ps.map (rdL v))=RL at *;generalize D.lst (cs.map D.int)=CL at *;generalize (cs.length:Int)=N1 at *;generalize (v.ps.length:Int)=N2 at *;generalize plB v.ps cs=pb at *;cases b<;>simp[l,ab,l1,l2,hb,-zrd]
def St0:St:=⟨0,0,0,[]⟩
def chS(ps:List Po)(cs:List Int):List (Po × St):=(ps.zip cs).map fun q=>(q.1,q.1.st.getD q.2.toNat St0)
theorem zhk(v:Vw)(cs:List Int)(h3:v.ps.length<=3)(hp:plB v.ps cs=true)(σ:Sto):f_chosen_readings [.lst (v.ps.map (rdL v)),.lst (cs.map D.int)] σ=.ok (.lst ((chS v.ps cs).map fun q=>rdD v q.1 q.2)) σ:=by
 have l:=lcC (xs:=v.ps.zip cs) (ix:=[]) (ρ:=[some (.lst (v.ps.map (rdL v))),some (.lst (cs.map D.int))]) (σ:=σ) (fe:=yko oIx (ykv 0) (ykv 1)) (fun q=>rdL v q.1) (fun q=>.int q.2) (fun q=>rdD v q.1 (q.1.st.getD q.2.toNat St0))
  (zo5 (i:=0) (j:=1) (by simp) (by simp)) (ya9 v.ps cs (rdL v) D.int) (by have:=zxe v.ps cs;omega) (fun q hq j=>by
   have hb:=List.all_eq_true.mp hp q hq;simp only[Bool.and_eq_true,decide_eq_true_eq]at hb;have hi:q.2.toNat<q.1.st.length:=by omega
   have ix:∀ σ,oIx (rdL v q.1) (.int q.2) σ=.ok (rdD v q.1 (q.1.st.getD q.2.toNat St0)) σ:=fun σ=>by
    unfold rdL;refine zt9 ?_;rw[show q.2=((q.2.toNat:Nat):Int) by omega];refine zp9 ?_;rw[Int.toNat_natCast,List.getElem?_map,List.getElem?_eq_getElem hi,List.getD_eq_getElem?_getD,List.getElem?_eq_getElem hi];rfl
   generalize rdD v q.1 (q.1.st.getD q.2.toNat St0)=R at *;generalize rdL v q.1=RL at *;simp[ix]) (fun q _=>yct _ _ _)
 have e:((v.ps.zip cs).map fun q=>rdD v q.1 (q.1.st.getD q.2.toNat St0))=(chS v.ps cs).map fun q=>rdD v q.1 q.2:=by unfold chS;rw[List.map_map];rfl
 rw[e]at l;have hc:cl (.lst ((chS v.ps cs).map fun q=>rdD v q.1 q.2))=true:=by rw[zx4];exact zqt fun q=>yct _ _ _
 unfold f_chosen_readings zad;generalize D.lst ((chS v.ps cs).map fun q=>rdD v q.1 q.2)=OUT at *;generalize D.lst (v.ps.map (rdL v))=RL at *;generalize D.lst (cs.map D.int)=CL at *;simp[l,hc,-zrd]
structure Tc where
 (l:Str) (t:Ti)
def Tc.D(c:Tc):L4.D:=.tup [.str c.l,.int c.t.a,.int c.t.d]
@[simp] theorem Tc.cl(c:Tc):L4.cl c.D=true:=by simp[Tc.D]
abbrev Gs:=List (Int × Nat)
abbrev Js:=List (List Tc)
def fnd(b:Gs)(w:Int):Option Nat:=(b.find? fun p=>decide (p.1=w)).map (·.2)
def kvB(n:Nat)(b:Gs):List (Key × D):=b.map fun p=>(.inl p.1,.ref (n+1+p.2))
def bwS(σ:Sto)(b:Gs)(J:Js):Sto:=σ++(.dic (kvB σ.length b)::J.map fun l=>.lst (l.map Tc.D))
section
variable(σ:Sto)(b:Gs)(J:Js)
theorem zxu:(bwS σ b J).length=σ.length+1+J.length:=by unfold bwS;simp;omega
theorem zxt:(bwS σ b J)[σ.length]?=some (.dic (kvB σ.length b)):=by unfold bwS;simp
theorem yep:ykm (bwS σ b J) (.ref σ.length)=some (kvB σ.length b):=by unfold ykm;simp only[zxt]
theorem zxv{i:Nat}(h:i<J.length):ygj (bwS σ b J) (σ.length+1+i)=some ((J.getD i []).map Tc.D):=by
 unfold ygj bwS;rw[List.getElem?_append_right (by omega),show σ.length+1+i - σ.length=i+1 by omega,List.getElem?_cons_succ,List.getElem?_map,List.getElem?_eq_getElem h,List.getD_eq_getElem?_getD,List.getElem?_eq_getElem h];rfl
theorem zqm:bwS σ b J++[.lst []]=bwS σ b (J++[[]]):=by unfold bwS;simp
theorem zqn(b':Gs):(bwS σ b J).set σ.length (.dic (kvB σ.length b'))=bwS σ b' J:=by
 unfold bwS;rw[List.set_append_right _ _ (Nat.le_refl _),Nat.sub_self];rfl
theorem zqo(i:Nat)(l:List Tc):(bwS σ b J).set (σ.length+1+i) (.lst (l.map Tc.D))=bwS σ b (J.set i l):=by
 unfold bwS;rw[List.set_append_right _ _ (by omega),show σ.length+1+i - σ.length=i+1 by omega,List.set_cons_succ];congr 2;rw[List.map_set]
end
theorem zzn(n:Nat)(w:Int):∀ b:Gs,yfl (kvB n b) (.inl w)=(fnd b w).map fun i=>.ref (n+1+i)
 |[]=>rfl
 |p::b=>by
  have ih:=zzn n w b;unfold yfl kvB fnd at *;rw[List.map_cons,List.find?_cons,List.find?_cons];by_cases e:p.1=w
  ·simp[e]
  ·have e2:¬ (Sum.inl p.1:Key)=Sum.inl w:=fun z=>e (Sum.inl.inj z);simp only[e,e2,decide_false]at ih ⊢;exact ih
theorem zlr{w:Int}:∀ {b:Gs},fnd b w=none->w ∉ b.map (·.1)
 |[],_=>by simp
 |p::b,h=>by
  unfold fnd at h;rw[List.find?_cons]at h;by_cases e:p.1=w
  ·simp[e]at h
  ·simp only[e,decide_false]at h;have:=zlr (b:=b) (w:=w) h;simp only[List.map_cons,List.mem_cons,not_or];exact⟨fun z=>e z.symm,this⟩
theorem zls{w:Int}{i:Nat}:∀ {b:Gs},fnd b w=some i->(w,i)∈b
 |[],h=>by simp[fnd]at h
 |p::b,h=>by
  unfold fnd at h;rw[List.find?_cons]at h;by_cases e:p.1=w
  ·simp only[e,decide_true,Option.map_some,Option.some.injEq]at h;rw[<-e,<-h];exact List.mem_cons_self
  ·simp only[e,decide_false]at h;exact List.mem_cons_of_mem _ (zls (b:=b) h)
def bst(b:Gs)(J:Js)(c:Tc):Gs × Js:=match fnd b c.t.w with
 |some i=>(b,(J++[[]]).set i (J.getD i []++[c]))
 |none=>(b++[(c.t.w,J.length)],J++[[c]])
structure BI(b:Gs)(J:Js)(m:Nat):Prop where
 lt:∀ p∈b,p.2<J.length
 nj:(b.map (·.2)).Nodup
 nk:(b.map (·.1)).Nodup
 bl:b.length<=m
 jl:J.length<=m
 el:∀ l∈J,l.length<=m
noncomputable abbrev lbB:Ev->M Fl:=(ymz (ye9 zt3 (zym zuh (ykv 1) (yeg (ykv 3) (yeg (yks yj3) yj3))) (yeg (ykv 4) yj3)))
@[simp] theorem zhu(o:D->List D->M D)(f:Ev->M D)(fs:Ev->M (List D))(ρ:Ev)(σ:Sto):zym o f fs ρ σ=(f ρ σ).bind (ya3 o (fs ρ)):=nr rfl
theorem zl6{α:Type}{xs ys:List α}{i:Nat}(h:i<xs.length)(d:α):(xs++ys).getD i d=xs.getD i d:=by
 rw[List.getD_eq_getElem?_getD,List.getD_eq_getElem?_getD,List.getElem?_append_left h]
theorem ztg(σ:Sto)(b:Gs)(J:Js)(m:Nat)(hI:BI b J m)(hm:m<900)(R rd:D)(c:Tc):lbB [some R,some (.ref σ.length),some rd,some (.int c.t.w),some c.D] (bwS σ b J)=.ok (.nx [some R,some (.ref σ.length),some rd,some (.int c.t.w),some c.D]) (bwS σ (bst b J c).1 (bst b J c).2):=by
 have h1:∀ fs,ya3 zuh fs (.ref σ.length) (bwS σ b J)=(fs (bwS σ b J)).bind (zuh (.ref σ.length)):=fun fs=>by unfold ya3;rw[yep];rfl
 have h2:∀ ρ,yks yj3 ρ (bwS σ b J)=.ok (.ref (σ.length+1+J.length)) (bwS σ b (J++[[]])):=fun ρ=>by
  rw[<-zqm,<-zxu σ b J];rfl
 have hpush:=zqm σ b J;have hlen:=zxu σ b J;have hcap:(kvB σ.length b).length<cap:=by unfold kvB cap;have:=hI.bl;simp;omega
 unfold lbB bst;cases hf:fnd b c.t.w with
 |some i=>
  have hi:i<J.length:=hI.lt _ (zls hf);have h3:∀ d,zuh (.ref σ.length) [.int c.t.w,d] (bwS σ b (J++[[]]))=.ok (.ref (σ.length+1+i)) (bwS σ b (J++[[]])):=fun d=>by
   unfold zuh;simp only[ylh,zxt];rw[if_pos hcap,zzn,hf];rfl
  have hl:=zxv σ b (J++[[]]) (i:=i) (by simp;omega);rw[zl6 hi]at hl;have h4:∀ fs,ygq zt3 fs (.ref (σ.length+1+i)) (bwS σ b (J++[[]]))=(fs (bwS σ b (J++[[]]))).bind (zt3 (.ref (σ.length+1+i))):=fun fs=>zm4 (xs:=(J.getD i []).map Tc.D) hl;have h5:zt3 (.ref (σ.length+1+i)) [c.D] (bwS σ b (J++[[]]))=.ok .non (bwS σ b ((J++[[]]).set i (J.getD i []++[c]))):=by
   unfold zt3;simp only[hl];have hm2:(J.getD i []).length<=m:=by
    rw[List.getD_eq_getElem?_getD,List.getElem?_eq_getElem hi];exact hI.el _ (List.getElem_mem hi)
   rw[if_pos (by unfold cap;rw[List.length_map];omega),<-zqo];simp
  dsimp only;generalize bwS σ b ((J++[[]]).set i (J.getD i []++[c]))=σ3 at *;generalize bwS σ b (J++[[]])=σ2 at *;generalize bwS σ b J=σ1 at *;generalize (σ.length+1+i)=N1 at *;generalize (σ.length+1+J.length)=N2 at *;generalize σ.length=N0 at *;generalize c.D=CD at *;generalize c.t.w=w at *;simp[h1,hpush,hlen,h3,h4,h5]
 |none=>
  have h3:zuh (.ref σ.length) [.int c.t.w,.ref (σ.length+1+J.length)] (bwS σ b (J++[[]]))=.ok (.ref (σ.length+1+J.length)) (bwS σ (b++[(c.t.w,J.length)]) (J++[[]])):=by
   unfold zuh;simp only[ylh,zxt];rw[if_pos hcap,zzn,hf];simp only[Option.map_none];rw[put_new,show kvB σ.length b++[(Sum.inl c.t.w,D.ref (σ.length+1+J.length))]=kvB σ.length (b++[(c.t.w,J.length)]) by unfold kvB;simp,zqn];intro z;unfold kvB at z;rw[List.map_map]at z;obtain⟨p,hp,e⟩:=List.mem_map.mp z;exact zlr hf (List.mem_map.mpr ⟨p,hp,Sum.inl.inj e⟩)
  have hl:=zxv σ (b++[(c.t.w,J.length)]) (J++[[]]) (i:=J.length) (by simp);have hz:(J++[[]]).getD J.length []=[]:=by rw[List.getD_eq_getElem?_getD];simp
  rw[hz]at hl;have h4:∀ fs,ygq zt3 fs (.ref (σ.length+1+J.length)) (bwS σ (b++[(c.t.w,J.length)]) (J++[[]]))=(fs (bwS σ (b++[(c.t.w,J.length)]) (J++[[]]))).bind (zt3 (.ref (σ.length+1+J.length))):=fun fs=>zm4 (xs:=[]) hl;have h5:zt3 (.ref (σ.length+1+J.length)) [c.D] (bwS σ (b++[(c.t.w,J.length)]) (J++[[]]))=.ok .non (bwS σ (b++[(c.t.w,J.length)]) (J++[[c]])):=by
   unfold zt3;simp only[hl];have:=zqo σ (b++[(c.t.w,J.length)]) (J++[[]]) J.length [c];rw[show (J++[[]]:Js).set J.length [c]=(J++[[c]]:Js) by simp]at this;rw[if_pos (by unfold cap;simp),<-this];rfl
  dsimp only;generalize bwS σ (b++[(c.t.w,J.length)]) (J++[[c]])=σ4 at *;generalize bwS σ (b++[(c.t.w,J.length)]) (J++[[]])=σ3 at *;generalize bwS σ b (J++[[]])=σ2 at *;generalize bwS σ b J=σ1 at *;generalize (σ.length+1+J.length)=N2 at *;generalize σ.length=N0 at *;generalize c.D=CD at *;generalize c.t.w=w at *;simp[h1,hpush,hlen,h3,h4,h5]
theorem zxr{b:Gs}{J:Js}{m:Nat}(h:BI b J m)(c:Tc):BI (bst b J c).1 (bst b J c).2 (m+1):=by
 unfold bst;cases hf:fnd b c.t.w with
 |some i=>
  have hi:i<J.length:=h.lt _ (zls hf);refine⟨fun p hp=>?_,h.nj,h.nk,?_,?_,fun l hl=>?_⟩
  ·have:=h.lt p hp;simp;omega
  ·have:=h.bl;dsimp only;omega
  ·have:=h.jl;simp;omega
  ·rcases List.mem_or_eq_of_mem_set hl with z|z
   ·rcases List.mem_append.mp z with z|z
    ·have:=h.el l z;omega
    ·simp at z;subst z;simp
   ·have hm2:(J.getD i []).length<=m:=by
     rw[List.getD_eq_getElem?_getD,List.getElem?_eq_getElem hi];exact h.el _ (List.getElem_mem hi)
    rw[z];simp;simpa using hm2
 |none=>
  have hn:=zlr hf;refine⟨fun p hp=>?_,?_,?_,?_,?_,fun l hl=>?_⟩
  ·rcases List.mem_append.mp hp with z|z
   ·have:=h.lt p z;simp;omega
   ·simp at z;subst z;simp
  ·rw[List.map_append,List.nodup_append];refine⟨h.nj,by simp,fun x hx y hy e=>?_⟩;simp at hy;obtain⟨p,hp,rfl⟩:=List.mem_map.mp hx;have:=h.lt p hp;omega
  ·rw[List.map_append,List.nodup_append];refine⟨h.nk,by simp,fun x hx y hy e=>?_⟩;simp at hy;exact hn (by rw[<-hy,<-e];exact hx)
  ·have:=h.bl;simp;omega
  ·have:=h.jl;simp;omega
  ·rcases List.mem_append.mp hl with z|z
   ·have:=h.el l z;omega
   ·simp at z;subst z;simp
abbrev Grp:=List (Int × List Tc)
def vwG(b:Gs)(J:Js):Grp:=b.map fun p=>(p.1,J.getD p.2 [])
def yk7(G:Grp)(c:Tc):Grp:=if G.any (fun q=>q.1 == c.t.w)then G.map (fun q=>if q.1 == c.t.w then (q.1,q.2++[c])else q)else G++[(c.t.w,[c])]
theorem ziu{α β:Type}(f:α->β):∀ {xs:List α},(xs.map f).Nodup->∀ {x y:α},x∈xs->y∈xs->f x=f y->x=y
 |[],_,x,y,hx,_,_=>by cases hx
 |a::xs,h,x,y,hx,hy,e=>by
  rw[List.map_cons,List.nodup_cons]at h;rcases List.mem_cons.mp hx with h1|h1
  ·rcases List.mem_cons.mp hy with h2|h2
   ·rw[h1,h2]
   ·rw[h1]at e;exact absurd (List.mem_map.mpr ⟨y,h2,e.symm⟩) h.1
  ·rcases List.mem_cons.mp hy with h2|h2
   ·rw[h2]at e;exact absurd (List.mem_map.mpr ⟨x,h1,e⟩) h.1
   ·exact ziu f h.2 h1 h2 e
theorem zka{b:Gs}{J:Js}{m:Nat}(h:BI b J m)(c:Tc):vwG (bst b J c).1 (bst b J c).2=yk7 (vwG b J) c:=by
 unfold bst yk7;cases hf:fnd b c.t.w with
 |some i=>
  have hmem:=zls hf;have hi:i<J.length:=h.lt _ hmem;have ha:(vwG b J).any (fun q=>q.1 == c.t.w)=true:=by
   rw[List.any_eq_true];exact⟨(c.t.w,J.getD i []),List.mem_map.mpr ⟨_,hmem,rfl⟩,by simp⟩
  rw[ha,if_pos rfl];unfold vwG;rw[List.map_map];apply List.map_congr_left;intro p hp;simp only[Function.comp];by_cases e:p.1=c.t.w
  ·have:p=(c.t.w,i):=ziu (·.1) h.nk hp hmem e;subst this;simp only[beq_self_eq_true,if_true];congr 1;rw[List.getD_eq_getElem?_getD,List.getElem?_set_self (by simp;omega)];rfl
  ·have e':(p.1 == c.t.w)=false:=by simpa using e
   have hne:p.2≠i:=fun z=>e (by rw[ziu (·.2) h.nj hp hmem z]);rw[e'];simp only[Bool.false_eq_true,if_false];congr 1;rw[List.getD_eq_getElem?_getD,List.getElem?_set_ne (fun z=>hne z.symm),<-List.getD_eq_getElem?_getD,zl6 (h.lt p hp)]
 |none=>
  have hn:=zlr hf;have ha:(vwG b J).any (fun q=>q.1 == c.t.w)=false:=by
   rw[List.any_eq_false];intro q hq z;obtain⟨p,hp,rfl⟩:=List.mem_map.mp hq;exact hn (List.mem_map.mpr ⟨p,hp,by simpa using z⟩)
  rw[ha];unfold vwG;simp only[List.map_append,List.map_cons,List.map_nil,Bool.false_eq_true,if_false];congr 1
  ·apply List.map_congr_left;intro p hp;rw[zl6 (h.lt p hp)]
  ·congr 2;rw[List.getD_eq_getElem?_getD];simp
def bfo:List Tc->Gs × Js->Gs × Js
 |[],s=>s
 |c::cs,s=>bfo cs (bst s.1 s.2 c)
theorem zxn:∀ (cs:List Tc) {s:Gs × Js} {m:Nat},BI s.1 s.2 m->BI (bfo cs s).1 (bfo cs s).2 (m+cs.length)
 |[],s,m,h=>h
 |c::cs,s,m,h=>by
  have:=zxn cs (zxr h c);simp only[List.length_cons];rw[show m+(cs.length+1)=m+1+cs.length by omega];exact this
theorem zj8:∀ (cs:List Tc) {s:Gs × Js} {m:Nat},BI s.1 s.2 m->vwG (bfo cs s).1 (bfo cs s).2=cs.foldl yk7 (vwG s.1 s.2)
 |[],s,m,h=>rfl
 |c::cs,s,m,h=>by
  rw[List.foldl_cons,<-zka h c];exact zj8 cs (zxr h c)
theorem zqf:∀ (cs ds:List Tc) (s:Gs × Js),bfo (cs++ds) s=bfo ds (bfo cs s)
 |[],ds,s=>rfl
 |c::cs,ds,s=>zqf cs ds _
theorem zfx{nx:NX}{tg:D->Ev->Option Ev}{body:Ev->M Fl}{k i:Nat}{ρ ρ1:Ev}{σ:Sto}{d:D}(h:nx i σ=some (some d))(ht:tg d ρ=some ρ1):ygi nx tg body (k+1) i ρ σ=(body ρ1 σ).bind (ygg (ygi nx tg body k (i+1))):=by
 rw[ygi];simp only[h,ht];rfl
theorem zij{nx:NX}{tg:D->Ev->Option Ev}{body:Ev->M Fl}{k i:Nat}{ρ:Ev}{σ:Sto}(h:nx i σ=some none):ygi nx tg body (k+1) i ρ σ=.ok (.nx ρ) σ:=by
 rw[ygi];simp only[h]
theorem zra{α:Type}{xs ts:List α}{i:Nat}{t:α}(h:xs.drop i=t::ts):xs[i]?=some t/\xs.drop (i+1)=ts:=by
 constructor
 ·have:=congrArg (·[0]?) h;simpa using this
 ·have:=congrArg List.tail h;simpa using this
theorem zks{α:Type}{xs:List α}{i:Nat}(h:xs.drop i=[])(hi:i<=xs.length):xs[i]?=none/\i=xs.length:=by
 have:=List.drop_eq_nil_iff.mp h;exact⟨List.getElem?_eq_none_iff.mpr this,by omega⟩
theorem zmr(σ:Sto)(g:Ti->Str)(R rd:D)(xs:List Ti){nx:NX}(hn:yjm nx xs (fun u=>ylj (.inl u.w)) (lD g)):∀ (ts:List Ti) (i:Nat) (s:Gs × Js) (m:Nat) (x3 x4:Option D),xs.drop i=ts->i<=xs.length->xs.length<=6->BI s.1 s.2 m->m+ts.length<900->∃ y3 y4,
  ygi nx (tgT 2 (ydn (tgN 3) (ydn (tgN 4) yiz))) lbB (1001 - i) i [some R,some (.ref σ.length),some rd,x3,x4] (bwS σ s.1 s.2)=.ok (.nx [some R,some (.ref σ.length),some rd,y3,y4]) (bwS σ (bfo (ts.map fun u=>⟨g u,u⟩) s).1 (bfo (ts.map fun u=>⟨g u,u⟩) s).2)
 |[],i,s,m,x3,x4,hd,hi,hl,hI,hm=>by
  obtain⟨e,ei⟩:=zks hd hi;have hx:nx i (bwS σ s.1 s.2)=some none:=by rw[hn,e];simp[ei]
  rw[show 1001 - i=(1000 - i)+1 by omega];exact⟨x3,x4,zij hx⟩
 |t::ts,i,s,m,x3,x4,hd,hi,hl,hI,hm=>by
  obtain⟨e,hd2⟩:=zra hd;have hi2:i<xs.length:=(List.getElem?_eq_some_iff.mp e).1;simp only[List.length_cons]at hm;have hx:nx i (bwS σ s.1 s.2)=some (some (.tup [.int t.w,lD g t])):=by rw[hn,e];rfl
  have st:=ztg σ s.1 s.2 m hI (by omega) R rd ⟨g t,t⟩;obtain⟨y3,y4,e2⟩:=zmr σ g R rd xs hn ts (i+1) (bst s.1 s.2 ⟨g t,t⟩) (m+1) (some (.int t.w)) (some (lD g t)) hd2 (by omega) hl (zxr hI _) (by omega);refine⟨y3,y4,?_⟩;rw[show 1001 - i=(1001 - (i+1))+1 by omega,zfx hx (ρ1:=[some R,some (.ref σ.length),some rd,some (.int t.w),some (lD g t)]) (nr rfl)];rw[show lbB [some R,some (.ref σ.length),some rd,some (.int t.w),some (lD g t)] (bwS σ s.1 s.2)=_ from st,zqh,zmy];exact e2
def tcs(v:Vw)(q:Po × St):List Tc:=q.2.ts.map fun u=>⟨lot v q.1.s q.1.sn u,u⟩
def AT(v:Vw)(qs:List (Po × St)):List Tc:=qs.flatMap (tcs v)
noncomputable abbrev loB:Ev->M Fl:=(yh9 (ynd (yko oIx (ykv 2) (eC (.int 1)))) (tgT 2 (ydn (tgN 3) (ydn (tgN 4) yiz))) lbB)
@[simp] theorem zog(src:Ev->M NX)(tg:D->Ev->Option Ev)(body:Ev->M Fl)(ρ:Ev)(σ:Sto):yh9 src tg body ρ σ=xsO ρ (yft tg body ρ) (src ρ σ):=yi6 ..
theorem zwx{f:Ev->M D}{ρ:Ev}{σ:Sto}{ks:List Key}{xs:List D}(h:f ρ σ=.ok (.dic ks xs) σ)(hl:ks.length=xs.length):ynd f ρ σ=.ok (nxI (ks.zip xs)) σ:=by
 unfold ynd;rw[zxq,h,zqh];unfold yf6;dsimp only;rw[if_pos hl]
theorem ztn(v:Vw)(q:Po × St)(hq:q.2.Ok)(σ:Sto)(R:D)(s:Gs × Js)(m:Nat)(x3 x4:Option D)(hI:BI s.1 s.2 m)(hm:m<890):∃ y3 y4,
  loB [some R,some (.ref σ.length),some (rdD v q.1 q.2),x3,x4] (bwS σ s.1 s.2)=.ok (.nx [some R,some (.ref σ.length),some (rdD v q.1 q.2),y3,y4]) (bwS σ (bfo (tcs v q) s).1 (bfo (tcs v q) s).2):=by
 have hl:=hq.len;obtain⟨y3,y4,e⟩:=zmr σ (lot v q.1.s q.1.sn) R (rdD v q.1 q.2) q.2.ts (znd q.2.ts (fun u=>(.inl u.w:Key)) (lD (lot v q.1.s q.1.sn))) q.2.ts 0 s m x3 x4 rfl (by omega) hl hI (by omega);refine⟨y3,y4,?_⟩;have i1:∀ σ,oIx (rdD v q.1 q.2) (.int 1) σ=.ok (.dic (q.2.ts.map fun u=>.inl u.w) (q.2.ts.map (lD (lot v q.1.s q.1.sn)))) σ:=fun σ=>by unfold rdD;simp
 have sr:ynd (yko oIx (ykv 2) (eC (.int 1))) [some R,some (.ref σ.length),some (rdD v q.1 q.2),x3,x4] (bwS σ s.1 s.2)=.ok (nxI ((q.2.ts.map fun u=>(.inl u.w:Key)).zip (q.2.ts.map (lD (lot v q.1.s q.1.sn))))) (bwS σ s.1 s.2):=zwx (by
  generalize rdD v q.1 q.2=RD at *;simp[i1]) (by simp)
 unfold loB;rw[zog,sr];exact e
theorem ztm(v:Vw)(σ:Sto)(R:D):∀ (qs:List (Po × St)) (s:Gs × Js) (m:Nat) (x2 x3 x4:Option D),(∀ q∈qs,q.2.Ok)->BI s.1 s.2 m->m+6 * qs.length<880->∃ y2 y3 y4,
  ylm (tgN 2) loB (qs.map fun q=>rdD v q.1 q.2) [some R,some (.ref σ.length),x2,x3,x4] (bwS σ s.1 s.2)=.ok (.nx [some R,some (.ref σ.length),y2,y3,y4]) (bwS σ (bfo (AT v qs) s).1 (bfo (AT v qs) s).2)
 |[],s,m,x2,x3,x4,_,_,_=>⟨x2,x3,x4,by simp[AT,bfo]⟩
 |q::qs,s,m,x2,x3,x4,hq,hI,hm=>by
  simp only[List.length_cons]at hm;have hl:=(hq q List.mem_cons_self).len;obtain⟨y3,y4,e1⟩:=ztn v q (hq q List.mem_cons_self) σ R s m x3 x4 hI (by omega);have hI2:=zxn (tcs v q) hI;have htl:(tcs v q).length<=6:=by unfold tcs;simpa using hl
  obtain⟨z2,z3,z4,e2⟩:=ztm v σ R qs (bfo (tcs v q) s) (m+(tcs v q).length) (some (rdD v q.1 q.2)) y3 y4 (fun r hr=>hq r (List.mem_cons_of_mem _ hr)) hI2 (by omega);refine⟨z2,z3,z4,?_⟩;rw[List.map_cons,zm0];simp only[List.set_cons_succ,List.set_cons_zero];rw[e1,zqh,zmy,e2,show AT v (q::qs)=tcs v q++AT v qs from List.flatMap_cons ..,zqf]
def gD(G:Grp):D:=.dic (G.map fun q=>.inl q.1) (G.map fun q=>.lst (q.2.map Tc.D))
theorem zso{f:D->Option D}:∀ {α:Type} {xs:List α} {g h:α->D},(∀ x∈xs,f (g x)=some (h x))->fzL f (xs.map g)=some (xs.map h)
 |_,[],_,_,_=>rfl
 |_,x::xs,g,h,hx=>by
  simp only[List.map_cons];unfold fzL;rw[hx x List.mem_cons_self,zso fun y hy=>hx y (List.mem_cons_of_mem _ hy)]
theorem zzq(σ:Sto){b:Gs}{J:Js}{m:Nat}(h:BI b J m):yk2 σ (.ok (.ref σ.length) (bwS σ b J))=.ok (gD (vwG b J)) σ:=by
 have hr:fz σ.length (bwS σ b J) 6 (.ref σ.length)=some (gD (vwG b J)):=by
  have hv:fzL (fz σ.length (bwS σ b J) 5) ((kvB σ.length b).map (·.2))=some (b.map fun p=>D.lst ((J.getD p.2 []).map Tc.D)):=by
   rw[show (kvB σ.length b).map (·.2)=b.map fun p=>D.ref (σ.length+1+p.2) by unfold kvB;rw[List.map_map];rfl];refine zso fun p hp=>?_;have hl:=zxv σ b J (h.lt p hp);have hl2:(bwS σ b J)[σ.length+1+p.2]?=some (.lst ((J.getD p.2 []).map Tc.D)):=by
    unfold ygj at hl;cases e:(bwS σ b J)[σ.length+1+p.2]? with
    |none=>rw[e]at hl;cases hl
    |some o=>
     rw[e]at hl;cases o with
     |lst xs=>cases hl;rfl
     |_=>cases hl
   unfold fz;rw[if_neg (by simp[cl])];dsimp only;rw[if_neg (by omega),hl2];dsimp only;rw[zso (g:=Tc.D) (h:=Tc.D) fun c _=>yfx (Tc.cl c)];rfl
  unfold fz;rw[if_neg (by simp[cl])];dsimp only;rw[if_neg (Nat.lt_irrefl _),zxt];dsimp only;rw[hv];unfold gD vwG kvB;simp only[Option.map_some,List.map_map];rfl
 unfold yk2;dsimp only;rw[if_pos (by unfold bwS;simp),hr]
def grp(cs:List Tc):Grp:=cs.foldl yk7 []
theorem BI0:BI [] [] 0:=⟨fun _ h=>(by cases h),by simp,by simp,by simp,by simp,fun _ h=>(by cases h)⟩
theorem zfg(v:Vw)(qs:List (Po × St))(hq:∀ q∈qs,q.2.Ok)(hl:qs.length<=3)(σ:Sto):f_lots_by_word [.lst (qs.map fun q=>rdD v q.1 q.2)] σ=.ok (gD (grp (AT v qs))) σ:=by
 obtain⟨y2,y3,y4,e⟩:=ztm v σ (.lst (qs.map fun q=>rdD v q.1 q.2)) qs ([],[]) 0 none none none hq BI0 (by omega);have hI:=zxn (AT v qs) (s:=([],[])) BI0;have fz:=zzq σ hI;rw[zj8 (AT v qs) (s:=([],[])) BI0]at fz;rw[show vwG ([]:Gs) []=[]from rfl,show (AT v qs).foldl yk7 []=grp (AT v qs)from rfl]at fz;rw[show bwS σ ([]:Gs) []=σ++[.dic []]from rfl]at e;unfold loB lbB at e;unfold f_lots_by_word zbm;generalize bwS σ (bfo (AT v qs) ([],[])).1 (bfo (AT v qs) ([],[])).2=σ2 at *;generalize gD (grp (AT v qs))=OUT at *;generalize (qs.map fun q=>rdD v q.1 q.2)=RL at *;simp[e,fz,-zog]
abbrev Fs:=List (Int × Option Int)
def oD:Option Int->D
 |none=>.non
 |some z=>.int z
@[simp] theorem yg1(x:Option Int):cl (oD x)=true:=by cases x<;>simp[oD]
def fD(F:Fs):D:=.dic (F.map fun p=>.inl p.1) (F.map fun p=>oD p.2)
def kvF(F:Fs):List (Key × D):=F.map fun p=>(.inl p.1,oD p.2)
theorem zq3(F:Fs)(σ:Sto):ykm σ (fD F)=some (kvF F):=by
 unfold ykm fD kvF;dsimp only;rw[if_pos (by simp)];congr 1;induction F with
 |nil=>rfl
 |cons p F ih=>simp only[List.map_cons,List.zip_cons_cons,ih]
def yk3(F:Fs)(w:Int):Option (Option Int):=(F.find? fun p=>decide (p.1=w)).map (·.2)
theorem zlk(w:Int):∀ (F:Fs),yfl (kvF F) (.inl w)=(yk3 F w).map oD
 |[]=>rfl
 |p::F=>by
  have ih:=zlk w F;unfold yfl kvF yk3 at *;rw[List.map_cons,List.find?_cons,List.find?_cons];by_cases e:p.1=w
  ·simp[e]
  ·have e2:¬ (Sum.inl p.1:Key)=Sum.inl w:=fun z=>e (Sum.inl.inj z);simp only[e,e2,decide_false]at ih ⊢;exact ih
theorem zzj(F:Fs)(w:Int)(σ:Sto):ylu (.int w) (fD F) σ=.ok (.bl (yk3 F w).isSome) σ:=by
 unfold ylu;simp only[ylh,zq3,zlk];cases yk3 F w<;>rfl
theorem zrz{F:Fs}{w:Int}{x:Option Int}(h:yk3 F w=some x)(σ:Sto):yg0 (fD F) (.int w) σ=.ok (oD x) σ:=by
 unfold yg0;simp only[ylh,zq3,zlk,h];rfl
theorem zlg(F:Fs)(w:Int)(σ:Sto):yg3 (fD F) [.int w] σ=.ok (oD ((yk3 F w).getD none)) σ:=by
 unfold yg3;simp only[ylh,zq3,zlk];cases yk3 F w<;>rfl
theorem zr4(F:Fs)(σ:Sto):yg6 [fD F] σ=.ok (.int F.length) σ:=by
 unfold yg6;simp only[zq3];simp[kvF]
theorem zq4(G:Grp)(σ:Sto):ykm σ (gD G)=some (G.map fun q=>(.inl q.1,.lst (q.2.map Tc.D))):=by
 unfold ykm gD;dsimp only;rw[if_pos (by simp)];congr 1;induction G with
 |nil=>rfl
 |cons p G ih=>simp only[List.map_cons,List.zip_cons_cons,ih]
theorem zss(G:Grp)(σ:Sto):yg6 [gD G] σ=.ok (.int G.length) σ:=by
 unfold yg6;simp only[zq4];simp
def opn(ls:List Tc):List Tc:=ls.filter fun c=>c.l == "open"
def yk0(ls:List Tc):D:=.lst (.non::(opn ls).map fun c=>.int c.t.d)
theorem zr8(ls:List Tc):cl (yk0 ls)=true:=by
 have:clL ((opn ls).map fun c=>D.int c.t.d)=true:=zqt fun _=>by simp
 unfold yk0;simp[this]
theorem Tc.i0(c:Tc)(σ:Sto):oIx c.D (.int 0) σ=.ok (.str c.l) σ:=by unfold Tc.D;simp
theorem Tc.i1(c:Tc)(σ:Sto):oIx c.D (.int 1) σ=.ok (.int c.t.a) σ:=by unfold Tc.D;simp
theorem Tc.i2(c:Tc)(σ:Sto):oIx c.D (.int 2) σ=.ok (.int c.t.d) σ:=by unfold Tc.D;simp
theorem zfl(ls:List Tc)(hl:ls.length<=100)(σ:Sto):f_fates_of [.lst (ls.map Tc.D)] σ=.ok (yk0 ls) σ:=by
 have l:=lcA (xs:=ls) (ix:=[]) (ρ:=[some (.lst (ls.map Tc.D))]) (σ:=σ) (src:=ynf (ykv 0)) (fi:=eT (yko oEq (yko oIx (ykv 0) (eC (.int 0))) (eC (.str "open")))) (fe:=yko oIx (ykv 0) (eC (.int 2))) Tc.D (fun c=>c.l == "open") (fun c=>.int c.t.d) (by simp) (by omega) (fun c _ j=>by
   have i0:=fun σ=>c.i0 σ;have i2:=fun σ=>c.i2 σ;generalize c.D=CD at *;generalize hb:(c.l == "open")=b at *;constructor
   ·simp[i0,hb]
   ·intro _;simp[i2]) (fun _ _=>by simp)
 rw[show ls.filter (fun c:Tc=>c.l == ("open" : Str))=opn ls from rfl]at l;have hlen:(opn ls).length<=ls.length:=List.length_filter_le _ _;have ad:∀ σ,yls (.lst [.non]) (.lst ((opn ls).map fun c=>.int c.t.d)) σ=.ok (yk0 ls) σ:=fun σ=>by
  rw[znf (by simp[cap];omega)];rfl
 have hc:=zr8 ls;unfold f_fates_of zfr;generalize yk0 ls=OUT at *;generalize D.lst ((opn ls).map fun c=>.int c.t.d)=O2 at *;generalize D.lst (ls.map Tc.D)=IN at *;simp[l,ad,hc,-zrd]
def fOk(x:Option Int)(ls:List Tc):Bool:=match x with
 |none=>true
 |some z=>(opn ls).any fun c=>c.t.d == z
theorem zz9(x:Option Int)(ls:List Tc)(σ:Sto):oIn false (oD x) (yk0 ls) σ=.ok (.bl (fOk x ls)) σ:=by
 have h3:yif σ (yk0 ls)=some (.non::(opn ls).map fun c=>.int c.t.d):=rfl;have h1:(D.non::(opn ls).map fun c=>D.int c.t.d).all isF=true:=by simp[isF,sc]
 unfold oIn;simp only[h3,h1];cases x with
 |none=>simp[oD,isF,sc,eqF,eqV,fOk]
 |some z=>
  simp only[oD,fOk];have:(D.non::(opn ls).map fun c=>D.int c.t.d).any (fun y=>eqF y (.int z))=(opn ls).any fun c=>c.t.d == z:=by
   rw[List.any_cons,List.any_map];simp[eqF,sc,eqV,Function.comp_def]
  rw[this];simp[isF,sc]
def tfB(F:Fs)(q:Int × List Tc):Bool:=match yk3 F q.1 with
 |some x=>fOk x q.2
 |none=>false
theorem zpf(G:Grp)(F:Fs)(hG:G.length<=100)(hg:∀ q∈G,q.2.length<=100)(σ:Sto):f_tells_fates [gD G,fD F] σ=.ok (.bl (((F.length:Int) == (G.length:Int)) && G.all (tfB F))) σ:=by
 have sr:ynd (ykv 0) [some (gD G),some (fD F)] σ=.ok (nxI ((G.map fun q=>(.inl q.1:Key)).zip (G.map fun q=>D.lst (q.2.map Tc.D)))) σ:=zwx (by simp;rfl) (by simp);have l:=lcC (xs:=G) (ix:=[1]) (ρ:=[some (gD G),some (fD F)]) (σ:=σ) (fe:=ykn (yko ylu (ykv 0) (ykv 2)) (yko (oIn false) (yko yg0 (ykv 2) (ykv 0)) (eFn 1 f_fates_of [] (yeg (ykv 1) yj3)))) (fun q=>ylj (.inl q.1)) (fun q=>.lst (q.2.map Tc.D)) (fun q=>.bl (tfB F q)) sr (znd G (fun q=>(.inl q.1:Key)) (fun q=>D.lst (q.2.map Tc.D))) (by omega) (fun q hq j=>by
   have h1:=fun σ=>zzj F q.1 σ;have h2:∀ x,yk3 F q.1=some x->∀ σ,yg0 (fD F) (.int q.1) σ=.ok (oD x) σ:=fun x h σ=>zrz h σ;have h3:=fun σ=>zfl q.2 (hg q hq) σ;have h4:=fun x σ=>zz9 x q.2 σ;rw[show ylj (.inl q.1:Key)=.int q.1 from rfl];unfold tfB;generalize yk0 q.2=FO at *;generalize D.lst (q.2.map Tc.D)=QL at *;generalize fD F=FD at *;cases hv:yk3 F q.1 with
   |none=>rw[hv]at h1;simp[h1]
   |some x=>
    rw[hv]at h1;have h5:=h2 x hv;have h6:=h4 x;generalize oD x=OX at *;simp[h1,h3,h5,h6]) (fun _ _=>by simp)
 have e1:(G.map fun q=>D.bl (tfB F q))=(G.map (tfB F)).map D.bl:=by rw[List.map_map];rfl
 have ab:=zp2 (G.map (tfB F)) σ;rw[<-e1,show (G.map (tfB F)).all id=G.all (tfB F) by rw[List.all_map];rfl]at ab;have l1:=fun σ=>zss G σ;have l2:=fun σ=>zr4 F σ;unfold f_tells_fates zcl;generalize hb:((F.length:Int) == (G.length:Int))=b at *;generalize (G.map fun q=>D.bl (tfB F q))=BL at *;generalize gD G=GD at *;generalize fD F=FD at *;generalize (G.length:Int)=N1 at *;generalize (F.length:Int)=N2 at *;generalize G.all (tfB F)=ab0 at *;cases b<;>simp[l,ab,l1,l2,hb,-zrd]
def cmB(x:Option Int)(e:Int)(c:Tc):Bool:=
 if c.l == ("open" : Str)then (match x with|none=>true|some z=>decide (c.t.d<z))
 else (c.l == ("hangs" : Str)) && (match x with|none=>false|some z=>decide (z - 1+e<c.t.d))
theorem zkj(c:Tc)(x:Option Int)(e:Int)(σ:Sto):f_comes_by_fate [c.D,oD x,.int e] σ=.ok (.bl (cmB x e c)) σ:=by
 have i0:=fun σ=>c.i0 σ;have i2:=fun σ=>c.i2 σ;unfold f_comes_by_fate zay cmB;generalize hb1:(c.l == ("open" : Str))=b1 at *;generalize hb2:(c.l == ("hangs" : Str))=b2 at *;generalize c.D=CD at *;cases x with
 |none=>cases b1<;>cases b2<;>simp[oD,i0,i2,hb1,hb2]
 |some z=>
  generalize hb3:decide (c.t.d<z)=b3 at *;generalize hb4:decide (z - 1+e<c.t.d)=b4 at *;cases b1<;>cases b2<;>cases b3<;>cases b4<;>simp[oD,i0,i2,hb1,hb2,hb3,hb4]
def sby(ls:List Tc)(x:Option Int)(e:Int):Int:=((ls.filter (cmB x e)).map fun c=>c.t.a).sum
theorem zpc(l:List Int)(σ:Sto):ymb [.lst (l.map D.int)] σ=.ok (.int l.sum) σ:=by simp[ymb]
theorem zpd(ls:List Tc)(hl:ls.length<=100)(x:Option Int)(e:Int)(σ:Sto):f_sum_by_fate [.lst (ls.map Tc.D),oD x,.int e] σ=.ok (.int (sby ls x e)) σ:=by
 have l:=lcA (xs:=ls) (ix:=[1,2]) (ρ:=[some (.lst (ls.map Tc.D)),some (oD x),some (.int e)]) (σ:=σ) (src:=ynf (ykv 0)) (fi:=eT (eFn 3 f_comes_by_fate [] (yeg (ykv 0) (yeg (ykv 1) (yeg (ykv 2) yj3))))) (fe:=yko oIx (ykv 0) (eC (.int 1))) Tc.D (cmB x e) (fun c=>.int c.t.a) (by simp) (by omega) (fun c _ j=>by
   have i1:=fun σ=>c.i1 σ;have cm:=fun σ=>zkj c x e σ;generalize c.D=CD at *;generalize oD x=OX at *;constructor
   ·simp[cm]
   ·intro _;simp[i1]) (fun _ _=>by simp)
 have o:=zpc ((ls.filter (cmB x e)).map fun c=>c.t.a) σ;rw[List.map_map,show (D.int ∘ fun c:Tc=>c.t.a)=(fun c:Tc=>D.int c.t.a)from rfl]at o;unfold f_sum_by_fate zck sby;generalize D.lst ((ls.filter (cmB x e)).map fun c=>D.int c.t.a)=O2 at *;generalize ((ls.filter (cmB x e)).map fun c=>c.t.a).sum=SM at *;generalize D.lst (ls.map Tc.D)=IN at *;generalize oD x=OX at *;simp[l,o,-zrd]
def yk8(F:Fs)(e:Int):Grp->Int
 |[]=>0
 |q::G=>sby q.2 ((yk3 F q.1).getD none) e+yk8 F e G
noncomputable abbrev soB:Ev->M Fl:=(ymy (fun a b=>a+b) 4 (eFn 3 f_sum_by_fate [] (yeg (ykv 6) (yeg (yko yg0 (ykv 2) (ykv 5)) (yeg (ykv 3) yj3)))))
theorem zwv(F:Fs)(e:Int)(R GD:D)(xs:Grp){nx:NX}(hn:yjm nx xs (fun q=>ylj (.inl q.1)) (fun q=>D.lst (q.2.map Tc.D)))(hl:xs.length<=100)(hg:∀ q∈xs,q.2.length<=100/\(yk3 F q.1).isSome=true)(σ:Sto):∀ (G:Grp) (i:Nat) (a:Int) (x5 x6:Option D),xs.drop i=G->i<=xs.length->∃ y5 y6,
  ygi nx (tgT 2 (ydn (tgN 5) (ydn (tgN 6) yiz))) soB (1001 - i) i [some R,some GD,some (fD F),some (.int e),some (.int a),x5,x6] σ=.ok (.nx [some R,some GD,some (fD F),some (.int e),some (.int (a+yk8 F e G)),y5,y6]) σ
 |[],i,a,x5,x6,hd,hi=>by
  obtain⟨h1,h2⟩:=zks hd hi;have hx:nx i σ=some none:=by rw[hn,h1];simp[h2]
  rw[show 1001 - i=(1000 - i)+1 by omega];exact⟨x5,x6,by rw[zij hx];simp[yk8]⟩
 |q::G,i,a,x5,x6,hd,hi=>by
  obtain⟨h1,hd2⟩:=zra hd;obtain⟨hi2,hq⟩:=List.getElem?_eq_some_iff.mp h1;have hqm:q∈xs:=by rw[<-hq];exact List.getElem_mem hi2
  obtain⟨g1,g2⟩:=hg q hqm;obtain⟨x,hv⟩:=Option.isSome_iff_exists.mp g2;have hx:nx i σ=some (some (.tup [.int q.1,.lst (q.2.map Tc.D)])):=by rw[hn,h1];rfl
  obtain⟨y5,y6,e2⟩:=zwv F e R GD xs hn hl hg σ G (i+1) (a+sby q.2 ((yk3 F q.1).getD none) e) (some (.int q.1)) (some (.lst (q.2.map Tc.D))) hd2 (by omega);refine⟨y5,y6,?_⟩;have st:soB [some R,some GD,some (fD F),some (.int e),some (.int a),some (.int q.1),some (.lst (q.2.map Tc.D))] σ=.ok (.nx [some R,some GD,some (fD F),some (.int e),some (.int (a+sby q.2 ((yk3 F q.1).getD none) e)),some (.int q.1),some (.lst (q.2.map Tc.D))]) σ:=by
   have s1:=fun σ=>zpd q.2 g1 x e σ;have s2:=fun σ=>zrz hv σ;have sg:∀ (f:Ev->M D) (y0 y1 y2 y3 y5 y6:Option D) (x:D) (σ:Sto),ymy (fun a b=>a+b) 4 f [y0,y1,y2,y3,some x,y5,y6] σ=xsO [y0,y1,y2,y3,some x,y5,y6] (yj7 (fun a b=>a+b) 4 [y0,y1,y2,y3,some x,y5,y6] x) (f [y0,y1,y2,y3,some x,y5,y6] σ):=fun f y0 y1 y2 y3 y5 y6 x σ=>zvu rfl;rw[hv];simp only[Option.getD_some];unfold soB;generalize sby q.2 x e=SB at *;generalize D.lst (q.2.map Tc.D)=QL at *;generalize fD F=FD at *;generalize oD x=OX at *;simp[sg,s1,s2]
  rw[show 1001 - i=(1001 - (i+1))+1 by omega,zfx hx (ρ1:=[some R,some GD,some (fD F),some (.int e),some (.int a),some (.int q.1),some (.lst (q.2.map Tc.D))]) (nr rfl),st,zqh,zmy,e2];simp only[yk8,Int.add_assoc]
def frm(v:Vw)(qs:List (Po × St)):Int:=(qs.map fun q=>shr q.1.s q.2+ykz (lot v q.1.s q.1.sn) q.2.ts).sum
theorem zpe(v:Vw)(qs:List (Po × St))(hq:qs.length<=100)(G:Grp)(F:Fs)(e:Int)(hl:G.length<=100)(hg:∀ q∈G,q.2.length<=100/\(yk3 F q.1).isSome=true)(σ:Sto) :
  f_sum_of [.lst (qs.map fun q=>rdD v q.1 q.2),gD G,fD F,.int e] σ=.ok (.int (frm v qs+yk8 F e G)) σ:=by
 have l:=ylk (xs:=qs) (ix:=[]) (ρ:=[some (.lst (qs.map fun q=>rdD v q.1 q.2)),some (gD G),some (fD F),some (.int e),none,none,none]) (σ:=σ) (src:=ynf (ykv 0)) (fe:=yko oIx (ykv 0) (eC (.int 0))) (fun q=>rdD v q.1 q.2) (fun q=>.int (shr q.1.s q.2+ykz (lot v q.1.s q.1.sn) q.2.ts)) (by simp) (by omega) (fun q _ j=>by
   have i0:∀ σ,oIx (rdD v q.1 q.2) (.int 0) σ=.ok (.int (shr q.1.s q.2+ykz (lot v q.1.s q.1.sn) q.2.ts)) σ:=fun σ=>by unfold rdD;simp
   generalize rdD v q.1 q.2=RD at *;generalize (shr q.1.s q.2+ykz (lot v q.1.s q.1.sn) q.2.ts)=N at *;simp[i0]) (fun _ _=>by simp)
 have o:=zpc (qs.map fun q=>shr q.1.s q.2+ykz (lot v q.1.s q.1.sn) q.2.ts) σ;rw[List.map_map,show (D.int ∘ fun q:Po × St=>shr q.1.s q.2+ykz (lot v q.1.s q.1.sn) q.2.ts)=(fun q:Po × St=>D.int (shr q.1.s q.2+ykz (lot v q.1.s q.1.sn) q.2.ts))from rfl,show (qs.map fun q=>shr q.1.s q.2+ykz (lot v q.1.s q.1.sn) q.2.ts).sum=frm v qs from rfl]at o;have sr:∀ x4 x5 x6,ynd (ykv 1) [some (.lst (qs.map fun q=>rdD v q.1 q.2)),some (gD G),some (fD F),some (.int e),x4,x5,x6] σ=.ok (nxI ((G.map fun q=>(.inl q.1:Key)).zip (G.map fun q=>D.lst (q.2.map Tc.D)))) σ:=fun x4 x5 x6=>zwx (by simp;rfl) (by simp);obtain⟨y5,y6,lp⟩:=zwv F e (.lst (qs.map fun q=>rdD v q.1 q.2)) (gD G) G (znd G (fun q=>(.inl q.1:Key)) (fun q=>D.lst (q.2.map Tc.D))) hl hg σ G 0 (frm v qs) none none rfl (by omega);have fk:∀ (tg:D->Ev->Option Ev) (body:Ev->M Fl) (ρ:Ev) (nx:NX),yft tg body ρ nx=ygi nx tg body 1001 0 ρ:=fun _ _ _ _=>rfl;rw[Nat.sub_zero]at lp;unfold soB at lp;unfold f_sum_of zl4;generalize (qs.map fun q=>D.int (shr q.1.s q.2+ykz (lot v q.1.s q.1.sn) q.2.ts))=IL at *;generalize D.lst (qs.map fun q=>rdD v q.1 q.2)=RL at *;generalize nxI ((G.map fun q=>(.inl q.1:Key)).zip (G.map fun q=>D.lst (q.2.map Tc.D)))=NXX at *;generalize gD G=GD at *;generalize fD F=FD at *;generalize frm v qs=FR at *;generalize yk8 F e G=GS at *;simp[l,o,sr,fk,lp,-zrd]
theorem zkn(ws:List Int)(w:Int):ddp (ws++[w])=if (ddp ws).any (·== w)then ddp ws else ddp ws++[w]:=by
 unfold ddp;rw[List.foldl_append];rfl
theorem zyc:∀ (ws acc:List Int) (x:Int),x∈ws.foldl PyProof.Rows.step_dedup acc ↔ x∈acc\/x∈ws
 |[],acc,x=>by simp
 |w::ws,acc,x=>by
  rw[List.foldl_cons,zyc ws];have:x∈PyProof.Rows.step_dedup acc w ↔ x∈acc\/x=w:=by
   unfold PyProof.Rows.step_dedup;split
   ·next h=>
    constructor
    ·exact .inl
    ·rintro (z|rfl)
     ·exact z
     ·obtain⟨y,hy,e⟩:=List.any_eq_true.mp h;have:y=x:=by simpa using e
      rw[<-this];exact hy
   ·simp
  rw[this];simp only[List.mem_cons];constructor
  ·rintro ((h|h)|h)
   ·exact .inl h
   ·exact .inr (.inl h)
   ·exact .inr (.inr h)
  ·rintro (h|h|h)
   ·exact .inl (.inl h)
   ·exact .inl (.inr h)
   ·exact .inr h
theorem zq6(ws:List Int)(x:Int):x∈ddp ws ↔ x∈ws:=by
 have:=zyc ws [] x;simpa [ddp]using this
def wds(cs:List Tc):List Int:=cs.map fun c=>c.t.w
def flt(cs:List Tc)(w:Int):List Tc:=cs.filter fun c=>c.t.w == w
def spc(cs:List Tc):Grp:=(ddp (wds cs)).map fun w=>(w,flt cs w)
theorem zlp(cs:List Tc)(c:Tc)(w:Int):flt (cs++[c]) w=if c.t.w == w then flt cs w++[c]else flt cs w:=by
 unfold flt;rw[List.filter_append,List.filter_cons];split<;>simp
theorem zl5(cs:List Tc)(c:Tc):yk7 (spc cs) c=spc (cs++[c]):=by
 have ha:(spc cs).any (fun q=>q.1 == c.t.w)=(ddp (wds cs)).any (·== c.t.w):=by unfold spc;rw[List.any_map];rfl
 have hw:wds (cs++[c])=wds cs++[c.t.w]:=by simp[wds]
 unfold yk7;rw[ha];cases h:(ddp (wds cs)).any (·== c.t.w)with
 |true=>
  unfold spc;rw[hw,zkn,h];simp only[if_true,List.map_map];apply List.map_congr_left;intro w _;simp only[Function.comp,zlp];by_cases e:c.t.w=w
  ·subst e;simp
  ·have e1:(c.t.w == w)=false:=by simpa using e
   have e2:(w == c.t.w)=false:=by simpa using fun z=>e z.symm
   rw[e1,e2];simp
 |false=>
  have hn:c.t.w ∉ wds cs:=fun z=>by
   rw[List.any_eq_false]at h;exact h _ ((zq6 _ _).mpr z) (by simp)
  unfold spc;rw[hw,zkn,h];simp only[Bool.false_eq_true,if_false,List.map_append,List.map_cons,List.map_nil];congr 1
  ·apply List.map_congr_left;intro w hwm;rw[zlp];have e1:(c.t.w == w)=false:=by
    simp;intro z;exact hn (by rw[z];exact(zq6 _ _).mp hwm)
   rw[e1];simp
  ·have e0:flt cs c.t.w=[]:=by
    unfold flt;rw[List.filter_eq_nil_iff];intro d hd z;exact hn (List.mem_map.mpr ⟨d,hd,by simpa using z⟩)
   rw[zlp,e0];simp
theorem zz5:∀ (cs ds:List Tc),cs.foldl yk7 (spc ds)=spc (ds++cs)
 |[],ds=>by simp
 |c::cs,ds=>by rw[List.foldl_cons,zl5,zz5 cs (ds++[c])];simp
theorem zst(cs:List Tc):grp cs=spc cs:=by
 have:=zz5 cs [];simpa [grp,spc,wds,ddp]using this
theorem zww(cs:List Tc):(spc cs).length<=cs.length:=by
 unfold spc;rw[List.length_map];have:=zyd (wds cs);simpa [wds]using this
theorem ydg(cs:List Tc):∀ q∈spc cs,q.2.length<=cs.length:=fun q hq=>by
 obtain⟨w,_,rfl⟩:=List.mem_map.mp hq;exact List.length_filter_le _ _
def yla(h:Tc->Int)(cs:List Tc):Int:=(cs.map h).sum
theorem zme(h:Tc->Int)(c:Tc)(cs:List Tc)(w:Int):yla h (flt (c::cs) w)=(if c.t.w == w then h c else 0)+yla h (flt cs w):=by
 unfold flt yla;rw[List.filter_cons];split<;>simp
def yn1(h:Int->Tc->Int)(cs:List Tc):List Int->Int
 |[]=>0
 |w::W=>yla (h w) (flt cs w)+yn1 h cs W
theorem zpw(h:Int->Tc->Int):∀ W,yn1 h [] W=0
 |[]=>rfl
 |w::W=>by simp[yn1,zpw h W,yla,flt]
theorem zj2(h:Int->Tc->Int)(c:Tc)(cs:List Tc):∀ (W:List Int),W.Nodup->yn1 h (c::cs) W=(if c.t.w∈W then h c.t.w c else 0)+yn1 h cs W
 |[],_=>by simp[yn1]
 |w::W,hn=>by
  rw[List.nodup_cons]at hn;simp only[yn1];rw[zme,zj2 h c cs W hn.2];by_cases e:c.t.w=w
  ·have e1:(c.t.w == w)=true:=by simpa using e
   rw[e1,e];simp only[if_true,List.mem_cons,true_or];rw[if_neg hn.1];omega
  ·have e1:(c.t.w == w)=false:=by simpa using e
   rw[e1];simp only[Bool.false_eq_true,if_false,List.mem_cons,e,false_or];omega
theorem zpv(h:Int->Tc->Int)(W:List Int)(hn:W.Nodup):∀ (cs:List Tc),(∀ c∈cs,c.t.w∈W)->yn1 h cs W=yla (fun c=>h c.t.w c) cs
 |[],_=>by rw[zpw];rfl
 |c::cs,hc=>by
  rw[zj2 h c cs W hn,if_pos (hc c List.mem_cons_self),zpv h W hn cs fun d hd=>hc d (List.mem_cons_of_mem _ hd)];simp[yla]
theorem zgr(p:Tc->Bool):∀ cs:List Tc,((cs.filter p).map fun c=>c.t.a).sum=yla (fun c=>if p c then c.t.a else 0) cs
 |[]=>rfl
 |c::cs=>by
  have ih:=zgr p cs;unfold yla at *;rw[List.filter_cons,List.map_cons,List.sum_cons,<-ih];split<;>simp
theorem zl9(F:Fs)(e:Int)(cs:List Tc):∀ (W:List Int),yk8 F e (W.map fun w=>(w,flt cs w))=yn1 (fun w c=>if cmB ((yk3 F w).getD none) e c then c.t.a else 0) cs W
 |[]=>rfl
 |w::W=>by
  simp only[List.map_cons,yk8,yn1];rw[zl9 F e cs W];unfold sby;rw[zgr]
theorem zl8(F:Fs)(e:Int)(cs:List Tc):yk8 F e (grp cs)=yla (fun c=>if cmB ((yk3 F c.t.w).getD none) e c then c.t.a else 0) cs:=by
 rw[zst];unfold spc;rw[zl9];exact zpv (fun w c=>if cmB ((yk3 F w).getD none) e c then c.t.a else 0) _ (zhr _) cs fun c hc=>(zq6 _ _).mpr (List.mem_map.mpr ⟨c,hc,rfl⟩)
def cnt(x:Option Int)(e:Int)(c:Tc):Bool:=yfm c.l || cmB x e c
theorem zhz(x:Option Int)(e:Int)(c:Tc)(h:yfm c.l=true):cmB x e c=false:=by
 have hl:c.l = "won"\/c.l = "sure"\/c.l = "back":=by
  unfold yfm inV at h;simp only[List.map_cons,List.map_nil,List.any_cons,List.any_nil,Bool.or_false,Bool.or_eq_true,eqV]at h;rcases h with h|h|h
  ·exact .inl (eq_of_beq h).symm
  ·exact .inr (.inl (eq_of_beq h).symm)
  ·exact .inr (.inr (eq_of_beq h).symm)
 unfold cmB;have h1:(c.l == ("open" : Str))=false:=by rcases hl with h|h|h<;>rw[h]<;>decide
 have h2:(c.l == ("hangs" : Str))=false:=by rcases hl with h|h|h<;>rw[h]<;>decide
 rw[h1,h2];rfl
theorem zqz(X:Int->Option Int)(e:Int):∀ cs:List Tc,yla (fun c=>if cnt (X c.t.w) e c then c.t.a else 0) cs=yla (fun c=>if yfm c.l then c.t.a else 0) cs+yla (fun c=>if cmB (X c.t.w) e c then c.t.a else 0) cs
 |[]=>rfl
 |c::cs=>by
  have ih:=zqz X e cs;unfold yla at *;simp only[List.map_cons,List.sum_cons];rw[ih];unfold cnt;cases hf:yfm c.l with
  |true=>
   rw[zhz (X c.t.w) e c hf];simp;omega
  |false=>simp;omega
def own(qs:List (Po × St)):Int:=(qs.map fun q=>shr q.1.s q.2).sum
theorem zyx(g:Ti->Str):∀ ts:List Ti,ykz g ts=yla (fun c=>if yfm c.l then c.t.a else 0) (ts.map fun u=>(⟨g u,u⟩:Tc))
 |[]=>rfl
 |t::ts=>by
  simp only[ykz,List.map_cons];rw[zyx g ts];simp[yla]
theorem zmd(h:Tc->Int)(cs ds:List Tc):yla h (cs++ds)=yla h cs+yla h ds:=by simp[yla]
theorem zsb(v:Vw):∀ qs:List (Po × St),frm v qs=own qs+yla (fun c=>if yfm c.l then c.t.a else 0) (AT v qs)
 |[]=>rfl
 |q::qs=>by
  have ih:=zsb v qs;rw[show AT v (q::qs)=tcs v q++AT v qs from List.flatMap_cons ..,zmd];unfold frm own at *;simp only[List.map_cons,List.sum_cons];rw[ih,zyx];unfold tcs;omega
theorem zju(v:Vw)(qs:List (Po × St))(F:Fs)(e:Int):frm v qs+yk8 F e (grp (AT v qs))=yla (fun c=>if cnt ((yk3 F c.t.w).getD none) e c then c.t.a else 0) (AT v qs)+own qs:=by
 rw[zl8,zsb,zqz (fun w=>(yk3 F w).getD none)];omega
def suB(v:Vw)(cs:List Int)(F:Fs)(T:Int):Bool:=((cs.length:Int) == (v.ps.length:Int)) && (plB v.ps cs && ((((F.length:Int) == ((grp (AT v (chS v.ps cs))).length:Int)) && (grp (AT v (chS v.ps cs))).all (tfB F)) && (T == frm v (chS v.ps cs)+yk8 F v.e (grp (AT v (chS v.ps cs))))))
theorem zqr{ps:List Po}{cs:List Int}(hp:plB ps cs=true):∀ q∈chS ps cs,q.1∈ps/\q.2∈q.1.st:=fun q hq=>by
 obtain⟨r,hr,rfl⟩:=List.mem_map.mp hq;have hb:=List.all_eq_true.mp hp r hr;simp only[Bool.and_eq_true,decide_eq_true_eq]at hb;have hi:r.2.toNat<r.1.st.length:=by omega
 refine⟨(List.of_mem_zip hr).1,?_⟩;dsimp only;rw[List.getD_eq_getElem?_getD,List.getElem?_eq_getElem hi];exact List.getElem_mem hi
theorem zxf(v:Vw):∀ (qs:List (Po × St)),(∀ q∈qs,q.2.Ok)->(AT v qs).length<=6 * qs.length
 |[],_=>by simp[AT]
 |q::qs,h=>by
  rw[show AT v (q::qs)=tcs v q++AT v qs from List.flatMap_cons ..,List.length_append,List.length_cons];have h1:=zxf v qs fun r hr=>h r (List.mem_cons_of_mem _ hr);have h2:=(h q List.mem_cons_self).len;have h3:(tcs v q).length=q.2.ts.length:=by unfold tcs;simp
  omega
theorem zqq(ps:List Po)(cs:List Int):(chS ps cs).length<=ps.length:=by unfold chS;rw[List.length_map];exact zxe ps cs
theorem yip(v:Vw)(hv:v.Ok)(cs:List Int)(F:Fs)(T:Int)(σ:Sto):f_stands_up [v.O,.tup [.int T,.lst (cs.map D.int),fD F]] σ=.ok (.bl (suB v cs F T)) σ:=by
 have r1:=fun σ=>zof v hv σ;have r2:=fun σ=>zi6 v cs hv.n3 σ;have f0:=fun σ=>v.f0 σ;have j0:∀ σ,oIx (.tup [.int T,.lst (cs.map D.int),fD F]) (.int 0) σ=.ok (.int T) σ:=fun σ=>by simp
 have j1:∀ σ,oIx (.tup [.int T,.lst (cs.map D.int),fD F]) (.int 1) σ=.ok (.lst (cs.map D.int)) σ:=fun σ=>by simp
 have j2:∀ σ,oIx (.tup [.int T,.lst (cs.map D.int),fD F]) (.int 2) σ=.ok (fD F) σ:=fun σ=>by simp
 unfold suB;cases hb1:((cs.length:Int) == (v.ps.length:Int))with
 |false=>
  rw[hb1]at r2;unfold f_stands_up zej;generalize D.tup [.int T,.lst (cs.map D.int),fD F]=TD at *;generalize D.lst (cs.map D.int)=CL at *;generalize D.lst (v.ps.map (rdL v))=RL at *;generalize v.O=VO at *;generalize fD F=FD at *;simp[r1,r2,j1]
 |true=>
  cases hb2:plB v.ps cs with
  |false=>
   rw[hb1,hb2]at r2;unfold f_stands_up zej;generalize D.tup [.int T,.lst (cs.map D.int),fD F]=TD at *;generalize D.lst (cs.map D.int)=CL at *;generalize D.lst (v.ps.map (rdL v))=RL at *;generalize v.O=VO at *;generalize fD F=FD at *;simp[r1,r2,j1]
  |true=>
   rw[hb1,hb2]at r2;have hm:=zqr hb2;have hq:∀ q∈chS v.ps cs,q.2.Ok:=fun q hq=>hv.ok q.1 (hm q hq).1 q.2 (hm q hq).2;have hl3:(chS v.ps cs).length<=3:=Nat.le_trans (zqq _ _) hv.n3;have hA:=zxf v _ hq;have r3:=fun σ=>zhk v cs hv.n3 hb2 σ;have r4:=fun σ=>zfg v (chS v.ps cs) hq hl3 σ;have g1:(grp (AT v (chS v.ps cs))).length<=100:=by rw[zst];have:=zww (AT v (chS v.ps cs));omega
   have g2:∀ q∈grp (AT v (chS v.ps cs)),q.2.length<=100:=fun q h=>by rw[zst]at h;have:=ydg _ q h;omega
   have r5:=fun σ=>zpf (grp (AT v (chS v.ps cs))) F g1 g2 σ;cases hb3:(((F.length:Int) == ((grp (AT v (chS v.ps cs))).length:Int)) && (grp (AT v (chS v.ps cs))).all (tfB F))with
   |false=>
    rw[hb3]at r5;unfold f_stands_up zej;generalize D.tup [.int T,.lst (cs.map D.int),fD F]=TD at *;generalize D.lst (cs.map D.int)=CL at *;generalize D.lst (v.ps.map (rdL v))=RL at *;generalize D.lst ((chS v.ps cs).map fun q=>rdD v q.1 q.2)=QL at *;generalize gD (grp (AT v (chS v.ps cs)))=GD at *;generalize v.O=VO at *;generalize fD F=FD at *;simp[r1,r2,r3,r4,r5,j1,j2]
   |true=>
    rw[hb3]at r5;have hb4:∀ q∈grp (AT v (chS v.ps cs)),(yk3 F q.1).isSome=true:=fun q h=>by
     have hx:=List.all_eq_true.mp (Bool.and_eq_true_iff.mp hb3).2 q h;unfold tfB at hx;cases e:yk3 F q.1 with
     |none=>rw[e]at hx;cases hx
     |some x=>rfl
    have r6:=fun σ=>zpe v (chS v.ps cs) (by omega) (grp (AT v (chS v.ps cs))) F v.e g1 (fun q h=>⟨g2 q h,hb4 q h⟩) σ;unfold f_stands_up zej;generalize D.tup [.int T,.lst (cs.map D.int),fD F]=TD at *;generalize D.lst (cs.map D.int)=CL at *;generalize D.lst (v.ps.map (rdL v))=RL at *;generalize D.lst ((chS v.ps cs).map fun q=>rdD v q.1 q.2)=QL at *;generalize gD (grp (AT v (chS v.ps cs)))=GD at *;generalize frm v (chS v.ps cs)+yk8 F v.e (grp (AT v (chS v.ps cs)))=SM at *;generalize v.O=VO at *;generalize fD F=FD at *;simp[r1,r2,r3,r4,r5,r6,j0,j1,j2,f0]
def Tc.L(c:Tc):L4.D:=.tup [.str c.l,c.t.D]
@[simp] theorem Tc.Lcl(c:Tc):L4.cl c.L=true:=by simp[Tc.L]
theorem zhm(c:Tc)(x:Option Int)(e:Int)(σ:Sto):f__law_counts [.str c.l,c.t.D,oD x,.int e] σ=.ok (.bl (cnt x e c)) σ:=by
 have i3:=fun σ=>c.t.i3 σ;have h0:∀ σ,oIn false (.str c.l) (.lst [.str "won",.str "sure",.str "back"]) σ=.ok (.bl (yfm c.l)) σ:=fun σ=>by
  have h3:yif σ (.lst [.str "won",.str "sure",.str "back"])=some [.str "won",.str "sure",.str "back"]:=rfl;unfold oIn;simp only[h3];simp[isF,sc,eqF,eqV,yfm,inV]
 unfold f__law_counts zch cnt cmB;generalize yfm c.l=b0 at *;generalize hb1:(c.l == ("open" : Str))=b1 at *;generalize hb2:(c.l == ("hangs" : Str))=b2 at *;generalize c.t.D=TD at *;cases x with
 |none=>cases b0<;>cases b1<;>cases b2<;>simp[oD,h0,i3,hb1,hb2]
 |some z=>
  generalize hb3:decide (c.t.d<z)=b3 at *;generalize hb4:decide (z - 1+e<c.t.d)=b4 at *;cases b0<;>cases b1<;>cases b2<;>cases b3<;>cases b4<;>simp[oD,h0,i3,hb1,hb2,hb3,hb4]
theorem zk2(σ:Sto)(k:Nat):∀ (a b:List Int),eqL (eqD σ k) (a.map D.int) (b.map D.int)=some (decide (a=b))
 |[],[]=>rfl
 |[],_::_=>by simp[eqL]
 |_::_,[]=>by simp[eqL]
 |x::a,y::b=>by
  have e:eqD σ k (.int x) (.int y)=some (x == y):=by cases k<;>simp[eqD,kd,eqK,eqV]
  simp only[List.map_cons];unfold eqL;rw[e,zk2 σ k a b];by_cases h1:x=y
  ·subst h1;by_cases h2:a=b<;>simp[h2]
  ·have:(x == y)=false:=by simpa using h1
   simp[this,h1]
theorem ztw(a b:List Int)(σ:Sto):oNe (.lst (a.map D.int)) (.lst (b.map D.int)) σ=.ok (.bl (!decide (a=b))) σ:=ybf (show eqL (eqD σ 7) (a.map D.int) (b.map D.int)=_ from zk2 σ 7 a b)
theorem zrl(a b:List Int)(σ:Sto):oEq (.lst (a.map D.int)) (.lst (b.map D.int)) σ=.ok (.bl (decide (a=b))) σ:=ybb (show eqL (eqD σ 7) (a.map D.int) (b.map D.int)=_ from zk2 σ 7 a b)
def fks(F:Fs):List Int:=F.map (·.1)
theorem ztd:∀ (F:Fs),ygd (kvF F)=some (fks F)
 |[]=>rfl
 |(w,x)::F=>by
  show (ygd (kvF F)).map (w::·)=_;rw[ztd F];rfl
theorem zw1(F:Fs)(hl:F.length<64)(σ:Sto):yk2 σ (zno [fD F] σ)=.ok (.lst ((ynh (fks F)).map D.int)) σ:=by
 have e:zno [fD F] σ=.ok (.ref σ.length) (σ++[.lst ((ynh (fks F)).map D.int)]):=by
  unfold zno;simp only[zq3,ztd];rw[if_pos (by unfold fks;simpa using hl)];rfl
 rw[e];exact zse (zqt fun _=>by simp)
theorem intsOf_map:∀ (ws:List Int),yae (ws.map D.int)=some ws
 |[]=>rfl
 |w::ws=>by
  show (yae (ws.map D.int)).map (w::·)=_;rw[intsOf_map ws];rfl
theorem zjq(ws:List Int)(hl:ws.length<64)(σ:Sto):yk2 σ (zui (.lst (ws.map D.int)) σ)=.ok (.lst ((ynh (ddp ws)).map D.int)) σ:=by
 have e:zui (.lst (ws.map D.int)) σ=.ok (.ref σ.length) (σ++[.lst ((ynh (ddp ws)).map D.int)]):=by
  unfold zui;rw[show yln σ (.lst (ws.map D.int))=some (ws.map D.int)from rfl,Option.bind_some,intsOf_map];simp only;rw[if_pos hl];rfl
 rw[e];exact zse (zqt fun _=>by simp)
def opw(cs:List Tc)(w:Int):List Tc:=cs.filter fun c=>(c.t.w == w) && (c.l == ("open" : Str))
def okF(cs:List Tc)(p:Int × Option Int):Bool:=match p.2 with
 |none=>true
 |some z=>(opw cs p.1).any fun c=>c.t.d == z
noncomputable abbrev riB:Ev->M Fl:=(ym5 (ym6 4 (ykp (ykq (ynf (ykv 0)) [2] (tgT 2 (ydn (tgN 0) (ydn (tgN 1) yiz))) (yj8 (eT (yko oEq (yko oIx (ykv 1) (eC (.int 2))) (ykv 2))) (eT (yko oEq (ykv 0) (eC (.str "open"))))) (yko oIx (ykv 1) (eC (.int 3))))))
 (sIf (yj8 (eT (yko yg9 (ykv 3) (eC .non))) (eT (yko (oIn true) (ykv 3) (ykv 4)))) (ym4 (eC (.bl false))) ym2))
theorem zm7(ws:List Int)(w:Int)(σ:Sto):oIn true (.int w) (.lst (ws.map D.int)) σ=.ok (.bl (!ws.any (·== w))) σ:=znh (neg:=true) rfl
theorem zvk(cs:List Tc)(hl:cs.length<=100)(FD:D)(p:Int × Option Int)(x4:Option D)(σ:Sto) :
  riB [some (.lst (cs.map Tc.L)),some FD,some (.int p.1),some (oD p.2),x4] σ=(if okF cs p then .ok (.nx [some (.lst (cs.map Tc.L)),some FD,some (.int p.1),some (oD p.2),some (.lst ((opw cs p.1).map fun c=>.int c.t.d))]) σ else .ok (.rt (.bl false)) σ):=by
 have l:=lcB (xs:=cs) (ix:=[2]) (ρ:=[some (.lst (cs.map Tc.L)),some FD,some (.int p.1),some (oD p.2),x4]) (σ:=σ) (src:=ynf (ykv 0)) (fi:=yj8 (eT (yko oEq (yko oIx (ykv 1) (eC (.int 2))) (ykv 2))) (eT (yko oEq (ykv 0) (eC (.str "open"))))) (fe:=yko oIx (ykv 1) (eC (.int 3))) (fun c=>.str c.l) (fun c=>c.t.D) (fun c=>(c.t.w == p.1) && (c.l == ("open" : Str))) (fun c=>.int c.t.d) (by simp[Tc.L]) (by omega) (fun c _ j=>by
   have i2:=fun σ=>c.t.i2 σ;have i3:=fun σ=>c.t.i3 σ;generalize c.t.D=TD at *;generalize hb1:(c.t.w == p.1)=b1 at *;generalize hb2:(c.l == ("open" : Str))=b2 at *;constructor
   ·cases b1<;>cases b2<;>simp[i2,hb1,hb2]
   ·intro _;simp[i3]) (fun _ _=>by simp)
 rw[show cs.filter (fun c=>(c.t.w == p.1) && (c.l == ("open" : Str)))=opw cs p.1 from rfl]at l;unfold riB;cases hp:p.2 with
 |none=>
  have hok:okF cs p=true:=by unfold okF;rw[hp]
  rw[hp]at l;rw[hok];generalize D.lst ((opw cs p.1).map fun c=>.int c.t.d)=OL at *;generalize D.lst (cs.map Tc.L)=IN at *;unfold oD at *;dsimp only at *;simp[l,-zrd]
 |some z=>
  have hok:okF cs p=(opw cs p.1).any fun c=>c.t.d == z:=by unfold okF;rw[hp]
  rw[hp]at l;have ni:∀ σ,oIn true (.int z) (.lst ((opw cs p.1).map fun c=>.int c.t.d)) σ=.ok (.bl (!okF cs p)) σ:=fun σ=>by
   have:=zm7 ((opw cs p.1).map fun c=>c.t.d) z σ;rw[List.map_map,List.any_map]at this;rw[hok];exact this
  clear hok;unfold oD at *;dsimp only at *;generalize okF cs p=b at *;generalize D.lst ((opw cs p.1).map fun c=>.int c.t.d)=OL at *;generalize D.lst (cs.map Tc.L)=IN at *;cases b<;>simp[l,ni,-zrd]
theorem zvj(cs:List Tc)(hl:cs.length<=100)(FD:D)(xs:Fs){nx:NX}(hn:yjm nx xs (fun p=>ylj (.inl p.1)) (fun p=>oD p.2))(hx:xs.length<=100)(σ:Sto):∀ (F:Fs) (i:Nat) (x2 x3 x4:Option D),xs.drop i=F->i<=xs.length->∃ fl,
  ygi nx (tgT 2 (ydn (tgN 2) (ydn (tgN 3) yiz))) riB (1001 - i) i [some (.lst (cs.map Tc.L)),some FD,x2,x3,x4] σ=.ok fl σ/\(if F.all (okF cs)then ∃ y2 y3 y4,fl=.nx [some (.lst (cs.map Tc.L)),some FD,y2,y3,y4]else fl=.rt (.bl false))
 |[],i,x2,x3,x4,hd,hi=>by
  obtain⟨h1,h2⟩:=zks hd hi;have hx:nx i σ=some none:=by rw[hn,h1];simp[h2]
  rw[show 1001 - i=(1000 - i)+1 by omega];exact⟨_,zij hx,by simp⟩
 |p::F,i,x2,x3,x4,hd,hi=>by
  obtain⟨h1,hd2⟩:=zra hd;obtain⟨hi2,hq⟩:=List.getElem?_eq_some_iff.mp h1;have hxi:nx i σ=some (some (.tup [.int p.1,oD p.2])):=by rw[hn,h1];rfl
  have st:=zvk cs hl FD p x4 σ;rw[show 1001 - i=(1001 - (i+1))+1 by omega,zfx hxi (ρ1:=[some (.lst (cs.map Tc.L)),some FD,some (.int p.1),some (oD p.2),x4]) (nr rfl),st];cases hb:okF cs p with
  |false=>exact⟨_,rfl,by simp[hb]⟩
  |true=>
   obtain⟨fl,e,h⟩:=zvj cs hl FD xs hn hx σ F (i+1) (some (.int p.1)) (some (oD p.2)) (some (.lst ((opw cs p.1).map fun c=>.int c.t.d))) hd2 (by omega);refine⟨fl,?_,?_⟩
   ·simp only[if_true,zqh,zmy];exact e
   ·rw[List.all_cons,hb,Bool.true_and];exact h
def rtB(cs:List Tc)(F:Fs):Bool:=decide (ynh (fks F)=ynh (ddp (wds cs))) && F.all (okF cs)
theorem zod(cs:List Tc)(hl:cs.length<64)(F:Fs)(hF:F.length<64)(σ:Sto):f__law_right [.lst (cs.map Tc.L),fD F] σ=.ok (.bl (rtB cs F)) σ:=by
 have l:=lcB (xs:=cs) (ix:=[]) (ρ:=[some (.lst (cs.map Tc.L)),some (fD F),none,none,none]) (σ:=σ) (src:=ynf (ykv 0)) (fi:=yel) (fe:=yko oIx (ykv 1) (eC (.int 2))) (fun c=>.str c.l) (fun c=>c.t.D) (fun _=>true) (fun c=>.int c.t.w) (by simp[Tc.L]) (by omega) (fun c _ j=>by
   have i2:=fun σ=>c.t.i2 σ;generalize c.t.D=TD at *;exact⟨rfl,fun _=>by simp[i2]⟩) (fun _ _=>by simp)
 rw[show cs.filter (fun _=>true)=cs from List.filter_eq_self.mpr fun _ _=>rfl,show (cs.map fun c=>D.int c.t.w)=(wds cs).map D.int by unfold wds;rw[List.map_map];rfl]at l;have s1:=fun σ=>zw1 F hF σ;have s2:=fun σ=>zjq (wds cs) (by unfold wds;simpa using hl) σ;have s3:=fun σ=>ztw (ynh (fks F)) (ynh (ddp (wds cs))) σ;have sr:∀ x2 x3 x4,ynd (ykv 1) [some (.lst (cs.map Tc.L)),some (fD F),x2,x3,x4] σ=.ok (nxI ((F.map fun q=>(.inl q.1:Key)).zip (F.map fun q=>oD q.2))) σ:=fun x2 x3 x4=>zwx (by simp;rfl) (by simp);obtain⟨fl,lp,hfl⟩:=zvj cs (by omega) (fD F) F (znd F (fun q=>(.inl q.1:Key)) (fun q=>oD q.2)) (by omega) σ F 0 none none none rfl (by omega);have fk:∀ (tg:D->Ev->Option Ev) (body:Ev->M Fl) (ρ:Ev) (nx:NX),yft tg body ρ nx=ygi nx tg body 1001 0 ρ:=fun _ _ _ _=>rfl;rw[Nat.sub_zero]at lp;unfold riB at lp;unfold f__law_right zdi rtB;generalize nxI ((F.map fun q=>(.inl q.1:Key)).zip (F.map fun q=>oD q.2))=NXX at *;generalize (ynh (fks F)).map D.int=L1 at *;generalize (ynh (ddp (wds cs))).map D.int=L2 at *;generalize (wds cs).map D.int=L3 at *;generalize D.lst (cs.map Tc.L)=IN at *;generalize fD F=FD at *;generalize hb:decide (ynh (fks F)=ynh (ddp (wds cs)))=b at *;have fe:∀ (f:Ev->M D) (ρ:Ev) (σ:Sto),ykp (eUn zui f) ρ σ=yk2 σ ((f ρ σ).bind zui):=fun _ _ _=>rfl;have fe2:∀ (f:Ev->M D) (ρ:Ev) (σ:Sto),ykp (eUn (fun x=>zno [x]) f) ρ σ=yk2 σ ((f ρ σ).bind fun x=>zno [x]):=fun _ _ _=>rfl;cases b with
 |false=>simp[fe,fe2,l,s1,s2,s3,-zrd]
 |true=>
  cases ha:F.all (okF cs)with
  |true=>
   rw[ha,if_pos rfl]at hfl;obtain⟨y2,y3,y4,rfl⟩:=hfl;simp[fe,fe2,l,s1,s2,s3,sr,fk,lp,-zrd]
  |false=>
   rw[ha,if_neg (by simp)]at hfl;subst hfl;simp[fe,fe2,l,s1,s2,s3,sr,fk,lp,-zrd]
theorem ziv{W:List Int}:∀ {K:List Int},W.Nodup->(∀ x∈W,x∈K)->∃ R,K.Perm (W++R):=by
 induction W with
 |nil=>intro K _ _;exact⟨K,List.Perm.refl _⟩
 |cons w W ih=>
  intro K hn hs;rw[List.nodup_cons]at hn;obtain⟨R,h⟩:=ih (K:=K.erase w) hn.2 fun x hx=>(List.mem_erase_of_ne (fun z=>hn.1 (by rw[<-z];exact hx))).mpr (hs x (List.mem_cons_of_mem _ hx));exact⟨R,(List.perm_cons_erase (hs w List.mem_cons_self)).trans (h.cons w)⟩
theorem zl1{F:Fs}{w:Int}{x:Option Int}(h:yk3 F w=some x):(w,x)∈F:=by
 induction F with
 |nil=>simp[yk3]at h
 |cons p F ih=>
  unfold yk3 at h ih;rw[List.find?_cons]at h;by_cases e:p.1=w
  ·simp only[e,decide_true,Option.map_some,Option.some.injEq]at h;rw[<-e,<-h];exact List.mem_cons_self
  ·simp only[e,decide_false]at h;exact List.mem_cons_of_mem _ (ih h)
theorem zl2{F:Fs}(hn:(fks F).Nodup){p:Int × Option Int}(hp:p∈F):yk3 F p.1=some p.2:=by
 cases h:yk3 F p.1 with
 |none=>
  unfold yk3 at h;rw[Option.map_eq_none_iff,List.find?_eq_none]at h;exact absurd (by simp) (h p hp)
 |some x=>
  have:=ziu (fun p:Int × Option Int=>p.1) (xs:=F) hn (zl1 h) hp rfl;rw[<-this]
theorem zuo(cs:List Tc)(w:Int):opn (flt cs w)=opw cs w:=by
 unfold opn flt opw;rw[List.filter_filter];congr 1;funext c;rw[Bool.and_comm]
theorem ybi(cs:List Tc)(w:Int)(x:Option Int):okF cs (w,x)=fOk x (flt cs w):=by
 unfold okF fOk;cases x with
 |none=>rfl
 |some z=>rw[zuo]
theorem zgf(cs:List Tc)(F:Fs)(hn:(fks F).Nodup):(((F.length:Int) == ((grp cs).length:Int)) && (grp cs).all (tfB F))=rtB cs F:=by
 rw[zst];rw[Bool.eq_iff_iff];unfold rtB;simp only[Bool.and_eq_true,beq_iff_eq,List.all_eq_true,decide_eq_true_eq];have hW:=zhr (wds cs);have hl:(spc cs).length=(ddp (wds cs)).length:=by unfold spc;simp
 rw[hl];constructor
 ·rintro ⟨h1,h2⟩;have hk:∀ w∈ddp (wds cs),∃ x,yk3 F w=some x/\fOk x (flt cs w)=true:=fun w hw=>by
   have:=h2 (w,flt cs w) (List.mem_map.mpr ⟨w,hw,rfl⟩);unfold tfB at this;dsimp only at this;cases e:yk3 F w with
   |none=>rw[e]at this;cases this
   |some x=>rw[e]at this;exact⟨x,rfl,this⟩
  obtain⟨R,hR⟩:=ziv (K:=fks F) hW fun w hw=>by
   obtain⟨x,hx,_⟩:=hk w hw;exact List.mem_map.mpr ⟨_,zl1 hx,rfl⟩
  have hlen:=hR.length_eq;rw[List.length_append]at hlen;have hf:(fks F).length=F.length:=by unfold fks;simp
  have hR0:R=[]:=List.eq_nil_of_length_eq_zero (by omega);rw[hR0,List.append_nil]at hR;refine⟨zjp hR,fun p hp=>?_⟩;have hpw:p.1∈ddp (wds cs):=hR.subset (List.mem_map.mpr ⟨p,hp,rfl⟩);obtain⟨x,hx,hok⟩:=hk p.1 hpw;rw[zl2 hn hp]at hx;cases hx;rw[show p=(p.1,p.2)from rfl,ybi];exact hok
 ·rintro ⟨h1,h2⟩;have hp:(fks F).Perm (ddp (wds cs)):=((zjo (fks F)).symm.trans (by rw[h1])).trans (zjo _);have hlen:=hp.length_eq;have hf:(fks F).length=F.length:=by unfold fks;simp
  refine⟨by omega,fun q hq=>?_⟩;obtain⟨w,hw,rfl⟩:=List.mem_map.mp hq;obtain⟨p,hpF,rfl⟩:=List.mem_map.mp (hp.symm.subset hw);have:=h2 p hpF;rw[show p=(p.1,p.2)from rfl,ybi]at this;unfold tfB;dsimp only;rw[zl2 hn hpF];exact this
theorem Vw.j0(v:Vw)(σ:Sto):oIx v.D (.int 0) σ=.ok (.int v.e) σ:=by unfold Vw.D;simp
theorem Vw.j1(v:Vw)(σ:Sto):oIx v.D (.int 1) σ=.ok (.int v.k) σ:=by unfold Vw.D;simp
theorem Vw.j2(v:Vw)(σ:Sto):oIx v.D (.int 2) σ=.ok (.lst (v.ws.map D.int)) σ:=by unfold Vw.D;simp
theorem Vw.j3(v:Vw)(σ:Sto):oIx v.D (.int 3) σ=.ok (.lst (v.ps.map Po.D)) σ:=by unfold Vw.D;simp
theorem yet{ps:List Po}{cs:List Int}(hp:plB ps cs=true){i:Nat}{q:Po × St}(h:(chS ps cs)[i]?=some q):ps[i]?=some q.1/\∃ c:Int,cs[i]?=some c/\0<=c/\q.1.st[c.toNat]?=some q.2:=by
 unfold chS at h;rw[List.getElem?_map]at h;cases e:(ps.zip cs)[i]? with
 |none=>rw[e]at h;cases h
 |some r=>
  rw[e]at h;cases h;have e2:=List.getElem?_zip_eq_some.mp e;have hb:=List.all_eq_true.mp hp r (List.mem_of_getElem? e);simp only[Bool.and_eq_true,decide_eq_true_eq]at hb;have hi:r.2.toNat<r.1.st.length:=by omega
  refine⟨e2.1,r.2,e2.2,hb.1,?_⟩;dsimp only;rw[List.getD_eq_getElem?_getD,List.getElem?_eq_getElem hi];rfl
theorem ixM{α:Type}{xs:List α}{f:α->D}{i:Nat}{x:α}(h:xs[i]?=some x)(σ:Sto):oIx (.lst (xs.map f)) (.int i) σ=.ok (f x) σ:=zt9 (zp9 (by rw[List.getElem?_map,h];rfl))
theorem ylf{α:Type}{xs:List α}{f:α->D}{c:Int}{x:α}(h0:0<=c)(h:xs[c.toNat]?=some x)(σ:Sto):oIx (.lst (xs.map f)) (.int c) σ=.ok (f x) σ:=by
 have:=ixM (f:=f) h σ;rw[show ((c.toNat:Nat):Int)=c by omega]at this;exact this
theorem yj5(p:Po)(x0 x1 x2 x3 x4 x5 x6 x7:Option D)(σ:Sto):yj6 (tgT 3 (ydn (tgN 4) (ydn (tgN 5) (ydn (tgN 6) yiz)))) [x0,x1,x2,x3,x4,x5,x6,x7] p.D σ=.ok (.nx [x0,x1,x2,x3,some (.int p.s),some (.lst (p.st.map St.D)),some (shD p.sn),x7]) σ:=nr rfl
theorem yei(p:Po)(x0 x1 x2 x3 x4 x5 x6:Option D)(σ:Sto):yj6 (tgT 3 (ydn (tgN 4) (ydn (tgN 5) (ydn (tgN 6) yiz)))) [x0,x1,x2,x3,x4,x5,x6] p.D σ=.ok (.nx [x0,x1,x2,x3,some (.int p.s),some (.lst (p.st.map St.D)),some (shD p.sn)]) σ:=nr rfl
noncomputable abbrev tiI:Ev->M Fl:=(ymz (ye9 zt3 (ykv 2) (yeg (yku (yeg (eFn 4 f__law_standing [] (yeg (ykv 0) (yeg (ykv 4) (yeg (ykv 6) (yeg (ykv 7) yj3))))) (yeg (ykv 7) yj3))) yj3)))
theorem zph(v:Vw)(p:Po)(CL:D)(i:Int)(SL:D)(σ:Sto):∀ (ts:List Ti) (ys:List D) (x7:Option D),ys.length+ts.length<900->∃ y7,
  ylm (tgN 7) tiI (ts.map Ti.D) [some v.D,some CL,some (.ref σ.length),some (.int i),some (.int p.s),some SL,some (shD p.sn),x7] (σ++[.lst ys])=.ok (.nx [some v.D,some CL,some (.ref σ.length),some (.int i),some (.int p.s),some SL,some (shD p.sn),y7]) (σ++[.lst (ys++ts.map fun u=>Tc.L ⟨lot v p.s p.sn u,u⟩)])
 |[],ys,x7,_=>⟨x7,by simp⟩
 |t::ts,ys,x7,hl=>by
  simp only[List.length_cons]at hl;obtain⟨y7,e⟩:=zph v p CL i SL σ ts (ys++[Tc.L ⟨lot v p.s p.sn t,t⟩]) (some t.D) (by simp;omega);refine⟨y7,?_⟩;have st:tiI [some v.D,some CL,some (.ref σ.length),some (.int i),some (.int p.s),some SL,some (shD p.sn),some t.D] (σ++[.lst ys])=.ok (.nx [some v.D,some CL,some (.ref σ.length),some (.int i),some (.int p.s),some SL,some (shD p.sn),some t.D]) (σ++[.lst (ys++[Tc.L ⟨lot v p.s p.sn t,t⟩])]):=by
   have s1:=fun σ=>zfb v p.s p.sn t σ;have ap:=zfe (σ:=σ) (xs:=ys) (d:=Tc.L ⟨lot v p.s p.sn t,t⟩) (by omega);unfold Tc.L at *;unfold tiI;generalize lot v p.s p.sn t=L at *;generalize v.D=VD at *;generalize t.D=TD at *;generalize shD p.sn=SD at *;simp[s1,ap]
  rw[List.map_cons,zm0];simp only[List.set_cons_succ,List.set_cons_zero];rw[st,zqh,zmy,e];simp
noncomputable abbrev tiO:Ev->M Fl:=(ym5 (ymx (yko oIx (yko oIx (ykv 0) (eC (.int 3))) (ykv 3)) (tgT 3 (ydn (tgN 4) (ydn (tgN 5) (ydn (tgN 6) yiz)))))
 (ym1 (ynf (yko oIx (yko oIx (ykv 5) (yko oIx (ykv 1) (ykv 3))) (eC (.int 2)))) (tgN 7) tiI))
theorem zpi(v:Vw)(hv:v.Ok)(cs:List Int)(hp:plB v.ps cs=true)(σ:Sto):∀ (qs:List (Po × St)) (i:Nat) (ys:List D) (x3 x4 x5 x6 x7:Option D),(chS v.ps cs).drop i=qs->ys.length+6 * qs.length<800->∃ y3 y4 y5 y6 y7,
  ylm (tgN 3) tiO ((List.range' i qs.length).map fun(k:Nat)=>D.int k) [some v.D,some (.lst (cs.map D.int)),some (.ref σ.length),x3,x4,x5,x6,x7] (σ++[.lst ys])=.ok (.nx [some v.D,some (.lst (cs.map D.int)),some (.ref σ.length),y3,y4,y5,y6,y7]) (σ++[.lst (ys++(AT v qs).map Tc.L)])
 |[],i,ys,x3,x4,x5,x6,x7,_,_=>⟨x3,x4,x5,x6,x7,by simp[AT]⟩
 |q::qs,i,ys,x3,x4,x5,x6,x7,hd,hl=>by
  obtain⟨hq,hd2⟩:=zra hd;obtain⟨h1,c,h2,h3,h4⟩:=yet hp hq;have hqo:=hv.ok q.1 (List.mem_of_getElem? h1) q.2 (List.mem_of_getElem? h4);simp only[List.length_cons]at hl;have hlen:=hqo.len;have e1:=fun σ=>ixM (f:=Po.D) h1 σ;have e2:=fun σ=>ixM (f:=D.int) h2 σ;have e3:=fun σ=>ylf (f:=St.D) h3 h4 σ;have e4:=fun σ=>q.2.i2 σ;have j3:=fun σ=>v.j3 σ;have a3:=fun x0 x1 x2 x3 x4 x5 x6 x7 σ=>yj5 q.1 x0 x1 x2 x3 x4 x5 x6 x7 σ;obtain⟨y7,ei⟩:=zph v q.1 (.lst (cs.map D.int)) i (.lst (q.1.st.map St.D)) σ q.2.ts ys x7 (by omega);have et:(q.2.ts.map fun u=>Tc.L ⟨lot v q.1.s q.1.sn u,u⟩)=(tcs v q).map Tc.L:=by unfold tcs;rw[List.map_map];rfl
  rw[et]at ei;have htl:(tcs v q).length<=6:=by unfold tcs;simpa using hlen
  obtain⟨z3,z4,z5,z6,z7,e⟩:=zpi v hv cs hp σ qs (i+1) (ys++(tcs v q).map Tc.L) (some (.int i)) (some (.int q.1.s)) (some (.lst (q.1.st.map St.D))) (some (shD q.1.sn)) y7 hd2 (by simp;omega);refine⟨z3,z4,z5,z6,z7,?_⟩;have st:tiO [some v.D,some (.lst (cs.map D.int)),some (.ref σ.length),some (.int i),x4,x5,x6,x7] (σ++[.lst ys])=.ok (.nx [some v.D,some (.lst (cs.map D.int)),some (.ref σ.length),some (.int i),some (.int q.1.s),some (.lst (q.1.st.map St.D)),some (shD q.1.sn),y7]) (σ++[.lst (ys++(tcs v q).map Tc.L)]):=by
   unfold tiI at ei;unfold tiO tiI;generalize (ys++(tcs v q).map Tc.L)=Y2 at *;generalize D.lst (cs.map D.int)=CL at *;generalize D.lst (q.1.st.map St.D)=SL at *;generalize D.lst (v.ps.map Po.D)=PL at *;generalize q.2.ts.map Ti.D=TL at *;generalize v.D=VD at *;generalize q.1.D=QD at *;generalize q.2.D=SD at *;generalize shD q.1.sn=ND at *;generalize (i:Int)=I at *;simp[e1,e2,e3,e4,j3,a3,ei]
  rw[List.length_cons,List.range'_succ,List.map_cons,zm0];simp only[List.set_cons_succ,List.set_cons_zero];rw[st,zqh,zmy,e,show AT v (q::qs)=tcs v q++AT v qs from List.flatMap_cons ..];simp
theorem ymv(n:Nat)(h:n<=1000)(σ:Sto):ymu (.int (n:Int)) σ=.ok (.seq (ycs n)) σ:=by
 have:=zvl (σ:=σ) (j:=(n:Int)) (by omega) (by omega);simpa using this
theorem zw7(v:Vw)(hv:v.Ok)(cs:List Int)(hlc:cs.length=v.ps.length)(hp:plB v.ps cs=true)(σ:Sto):f__law_ties [v.D,.lst (cs.map D.int)] σ=.ok (.lst ((AT v (chS v.ps cs)).map Tc.L)) σ:=by
 have hn:=hv.n3;have hcl:(chS v.ps cs).length=cs.length:=by unfold chS;rw[List.length_map,List.length_zip];omega
 obtain⟨y3,y4,y5,y6,y7,e⟩:=zpi v hv cs hp σ (chS v.ps cs) 0 [] none none none none none rfl (by simp;omega);rw[hcl,<-zja,List.nil_append]at e;have l1:∀ σ,yl3 [.lst (cs.map D.int)] σ=.ok (.int cs.length) σ:=fun σ=>by simp
 have rk:=fun σ=>ymv cs.length (by omega) σ;have fz:=zse (σ:=σ) (zs:=(AT v (chS v.ps cs)).map Tc.L) (zqt fun c=>by simp);unfold tiO tiI at e;unfold f__law_ties zeg;generalize (AT v (chS v.ps cs)).map Tc.L=OUT at *;generalize D.lst (cs.map D.int)=CL at *;generalize v.D=VD at *;generalize ycs cs.length=RG at *;generalize (cs.length:Int)=N at *;simp[l1,rk,e,fz]
noncomputable abbrev owB:Ev->M Fl:=(ym5 (ymx (yko oIx (yko oIx (ykv 0) (eC (.int 3))) (ykv 3)) (tgT 3 (ydn (tgN 4) (ydn (tgN 5) (ydn (tgN 6) yiz)))))
 (ym6 2 (yko yls (ykv 2) (yko oIx (yko oIx (yko oIx (ykv 5) (yko oIx (ykv 1) (ykv 3))) (eC (.int 1))) (ykv 4)))))
theorem zup(v:Vw)(hv:v.Ok)(cs:List Int)(hp:plB v.ps cs=true)(σ:Sto):∀ (qs:List (Po × St)) (i:Nat) (a:Int) (x3 x4 x5 x6:Option D),(chS v.ps cs).drop i=qs->∃ y3 y4 y5 y6,
  ylm (tgN 3) owB ((List.range' i qs.length).map fun(k:Nat)=>D.int k) [some v.D,some (.lst (cs.map D.int)),some (.int a),x3,x4,x5,x6] σ=.ok (.nx [some v.D,some (.lst (cs.map D.int)),some (.int (a+own qs)),y3,y4,y5,y6]) σ
 |[],i,a,x3,x4,x5,x6,_=>⟨x3,x4,x5,x6,by simp[own]⟩
 |q::qs,i,a,x3,x4,x5,x6,hd=>by
  obtain⟨hq,hd2⟩:=zra hd;obtain⟨h1,c,h2,h3,h4⟩:=yet hp hq;have hps:=hv.sd q.1 (List.mem_of_getElem? h1);have e1:=fun σ=>ixM (f:=Po.D) h1 σ;have e2:=fun σ=>ixM (f:=D.int) h2 σ;have e3:=fun σ=>ylf (f:=St.D) h3 h4 σ;have e4:=fun σ=>q.2.i1 σ;have j3:=fun σ=>v.j3 σ;have a3:=fun x0 x1 x2 x3 x4 x5 x6 σ=>yei q.1 x0 x1 x2 x3 x4 x5 x6 σ;have sh:∀ σ,oIx (.tup [.int q.2.a,.int q.2.b]) (.int q.1.s) σ=.ok (.int (shr q.1.s q.2)) σ:=fun σ=>by
   unfold shr;rcases hps with h|h<;>rw[h]
   ·exact zub (show atI _ ((0:Nat):Int)=_ from zp9 rfl)
   ·exact zub (show atI _ ((1:Nat):Int)=_ from zp9 rfl)
  obtain⟨z3,z4,z5,z6,e⟩:=zup v hv cs hp σ qs (i+1) (a+shr q.1.s q.2) (some (.int i)) (some (.int q.1.s)) (some (.lst (q.1.st.map St.D))) (some (shD q.1.sn)) hd2;refine⟨z3,z4,z5,z6,?_⟩;have st:owB [some v.D,some (.lst (cs.map D.int)),some (.int a),some (.int i),x4,x5,x6] σ=.ok (.nx [some v.D,some (.lst (cs.map D.int)),some (.int (a+shr q.1.s q.2)),some (.int i),some (.int q.1.s),some (.lst (q.1.st.map St.D)),some (shD q.1.sn)]) σ:=by
   unfold owB;generalize shr q.1.s q.2=SH at *;generalize D.lst (cs.map D.int)=CL at *;generalize D.lst (q.1.st.map St.D)=SL at *;generalize D.lst (v.ps.map Po.D)=PL at *;generalize D.tup [.int q.2.a,.int q.2.b]=AB at *;generalize v.D=VD at *;generalize q.1.D=QD at *;generalize q.2.D=SD at *;generalize shD q.1.sn=ND at *;generalize (i:Int)=I at *;simp[e1,e2,e3,e4,j3,a3,sh]
  rw[List.length_cons,List.range'_succ,List.map_cons,zm0];simp only[List.set_cons_succ,List.set_cons_zero];rw[st,zqh,zmy,e];simp[own,Int.add_assoc]
theorem ybx(v:Vw)(hv:v.Ok)(cs:List Int)(hlc:cs.length=v.ps.length)(hp:plB v.ps cs=true)(σ:Sto):f__law_own [v.D,.lst (cs.map D.int)] σ=.ok (.int (own (chS v.ps cs))) σ:=by
 have hn:=hv.n3;have hcl:(chS v.ps cs).length=cs.length:=by unfold chS;rw[List.length_map,List.length_zip];omega
 obtain⟨y3,y4,y5,y6,e⟩:=zup v hv cs hp σ (chS v.ps cs) 0 0 none none none none rfl;rw[hcl,<-zja,Int.zero_add]at e;have l1:∀ σ,yl3 [.lst (cs.map D.int)] σ=.ok (.int cs.length) σ:=fun σ=>by simp
 have rk:=fun σ=>ymv cs.length (by omega) σ;unfold owB at e;unfold f__law_own zfo;generalize own (chS v.ps cs)=OUT at *;generalize D.lst (cs.map D.int)=CL at *;generalize v.D=VD at *;generalize ycs cs.length=RG at *;generalize (cs.length:Int)=N at *;simp[l1,rk,e]
def dvn:Nat->Int->Int
 |0,a=>a
 |n+1,a=>dvn n (a / 2147483647)
theorem ztv(x0 x1 x4:Option D)(σ:Sto):∀ (l:List D) (a:Int) (x3:Option D),∃ (y3:Option D),ylm (tgN 3) (ym6 2 (yko yg2 (ykv 2) (eC (.int 2147483647)))) l [x0,x1,some (.int a),x3,x4] σ=.ok (.nx [x0,x1,some (.int (dvn l.length a)),y3,x4]) σ
 |[],a,x3=>⟨x3,by simp[dvn]⟩
 |d::l,a,x3=>by
  obtain⟨y3,e⟩:=ztv x0 x1 x4 σ l (a / 2147483647) (some d);refine⟨y3,?_⟩;rw[zm0];simp only[List.set_cons_succ,List.set_cons_zero];have dv:∀ σ,yg2 (.int a) (.int 2147483647) σ=.ok (.int (a / 2147483647)) σ:=fun σ=>zng a 2147483647 (by decide) (by decide) σ;have st:ym6 2 (yko yg2 (ykv 2) (eC (.int 2147483647))) [x0,x1,some (.int a),some d,x4] σ=.ok (.nx [x0,x1,some (.int (a / 2147483647)),some d,x4]) σ:=by simp[dv]
  rw[st,zqh,zmy,e];rfl
def mx1(c k:Int):Int:=(c+7919 * k+1) * 48271 % 2147483647
def mx2(c k:Int):Int:=mx1 c k * (mx1 c k / 1009+69621) % 2147483647
def ylq(c:Int)(k:Nat):Int:=if (c % 2 == 0) && (((k:Int) == 0) || decide (0<dvn k (c / 2)))then dvn k (c / 2) % 2147483647 else mx2 c k * (mx2 c k / 2003+40692) % 2147483629
theorem ztr(c:Int)(k:Nat):0<=ylq c k:=by unfold ylq;split<;>omega
theorem ya4(c:Int)(k:Nat)(hk:k<=100)(σ:Sto):f__law_mixed [.int c,.int k] σ=.ok (.int (ylq c k)) σ:=by
 have rk:=fun σ=>ymv k (by omega) σ;obtain⟨y3,e⟩:=ztv (some (.int c)) (some (.int k)) none σ (ycs k) (c / 2) none;rw[show (ycs k).length=k by unfold ycs;simp]at e;have hN:∀ z:Int,0<=z % 2147483647/\z % 2147483647<2147483647:=fun z=>by omega
 unfold ylq mx2 mx1;generalize hn1:(c+7919 * (k:Int)+1) * 48271 % 2147483647=n1;have b1:0<=n1/\n1<2147483647:=by rw[<-hn1];exact hN _
 generalize hn2:n1 * (n1 / 1009+69621) % 2147483647=n2;have b2:0<=n2/\n2<2147483647:=by rw[<-hn2];exact hN _
 have m0:∀ σ,yl5 (.int 7919) (.int k) σ=.ok (.int (7919 * k)) σ:=fun σ=>ybd (by omega) (by omega);have m1:∀ x σ,yl5 (.int x) (.int 48271) σ=.ok (.int (x * 48271)) σ:=fun x σ=>ybe (by omega) (by omega);have m2:∀ y σ,yl5 (.int n1) (.int y) σ=.ok (.int (n1 * y)) σ:=fun y σ=>ybd (by omega) (by omega);have m3:∀ y σ,yl5 (.int n2) (.int y) σ=.ok (.int (n2 * y)) σ:=fun y σ=>ybd (by omega) (by omega);unfold f__law_mixed zdh;generalize dvn k (c / 2)=b at *;generalize ycs k=RG at *;generalize (k:Int)=K at *;cases h0:(c % 2 == 0)with
 |true=>
  cases h1:(K == 0)with
  |true=>simp[h0,rk,e,h1]
  |false=>
   cases h2:decide (0<b)with
   |true=>simp[h0,rk,e,h1,h2]
   |false=>simp[h0,rk,e,h1,h2,m0,m1,hn1,m2,hn2,m3]
 |false=>simp[h0,m0,m1,hn1,m2,hn2,m3]
def Po0:Po:=⟨0,[],[]⟩
def lnB(v:Vw)(cs:List Int)(k:Nat):Bool:=decide (0<=cs.getD k 0) && decide (cs.getD k 0<((v.ps.getD k Po0).st.length:Int))
theorem zsq{α:Type}{xs:List α}{k:Nat}{x d:α}(h:xs[k]?=some x):xs.getD k d=x:=by rw[List.getD_eq_getElem?_getD,h];rfl
theorem znx(v:Vw)(cs:List Int)(hl:cs.length=v.ps.length):plB v.ps cs=(List.range cs.length).all (lnB v cs):=by
 rw[Bool.eq_iff_iff];unfold plB;simp only[List.all_eq_true];constructor
 ·intro h k hk;have hk:k<cs.length:=List.mem_range.mp hk;have e1:cs[k]?=some cs[k]:=List.getElem?_eq_getElem hk;have e2:v.ps[k]?=some v.ps[k]:=List.getElem?_eq_getElem (by omega);have:=h (v.ps[k],cs[k]) (List.mem_of_getElem? (List.getElem?_zip_eq_some.mpr ⟨e2,e1⟩));unfold lnB;rw[zsq e1,zsq e2];simp only[Bool.and_eq_true,decide_eq_true_eq]at this ⊢;omega
 ·intro h q hq;obtain⟨k,hk⟩:=List.getElem?_of_mem hq;have e:=List.getElem?_zip_eq_some.mp hk;have hlt:k<cs.length:=(List.getElem?_eq_some_iff.mp e.2).1;have:=h k (List.mem_range.mpr hlt);unfold lnB at this;rw[zsq e.1,zsq e.2]at this;simp only[Bool.and_eq_true,decide_eq_true_eq]at this ⊢;omega
theorem zuc(p:Po)(σ:Sto):yl3 [.lst (p.st.map St.D)] σ=.ok (.int p.st.length) σ:=by simp
theorem zfy(v:Vw)(h3:v.ps.length<=3)(cs:List Int)(σ:Sto):f__law_places [v.D,.lst (cs.map D.int)] σ=.ok (.bl (((cs.length:Int) == (v.ps.length:Int)) && plB v.ps cs)) σ:=by
 have j3:=fun σ=>v.j3 σ;have l1:∀ σ,yl3 [.lst (cs.map D.int)] σ=.ok (.int cs.length) σ:=fun σ=>by simp
 have l2:∀ σ,yl3 [.lst (v.ps.map Po.D)] σ=.ok (.int v.ps.length) σ:=fun σ=>by simp
 cases hb:((cs.length:Int) == (v.ps.length:Int))with
 |false=>
  unfold f__law_places zci;generalize D.lst (cs.map D.int)=CL at *;generalize D.lst (v.ps.map Po.D)=PL at *;generalize v.D=VD at *;generalize (cs.length:Int)=N1 at *;generalize (v.ps.length:Int)=N2 at *;simp[j3,l1,l2,hb]
 |true=>
  have hl:cs.length=v.ps.length:=by have:=eq_of_beq hb;omega
  have rk:=fun σ=>ymv cs.length (by omega) σ;have l:=lcA (xs:=List.range cs.length) (ix:=[1,0]) (ρ:=[some v.D,some (.lst (cs.map D.int))]) (σ:=σ) (src:=yne (ye6 yl3 (yeg (ykv 1) yj3))) (fi:=yj9 (eT (zyj oLe oLt (eC (.int 0)) (yko oIx (ykv 1) (ykv 0)) (ye6 yl3 (yeg (yko oIx (yko oIx (yko oIx (ykv 2) (eC (.int 3))) (ykv 0)) (eC (.int 1))) yj3))))) (fe:=ykv 0) (fun k=>.int k) (fun k=>!lnB v cs k) (fun k=>.int k) (by
    generalize D.lst (cs.map D.int)=CL at *;generalize v.D=VD at *;have rk':=rk σ;unfold ycs at rk';generalize (List.range cs.length).map (fun(k:Nat)=>D.int k)=RG at *;generalize (cs.length:Int)=N1 at *;simp[l1,rk']) (by simp;omega) (fun k hk j=>by
    have hk:k<cs.length:=List.mem_range.mp hk;have e1:cs[k]?=some cs[k]:=List.getElem?_eq_getElem hk;have e2:v.ps[k]?=some v.ps[k]:=List.getElem?_eq_getElem (by omega);have x1:=fun σ=>ixM (f:=D.int) e1 σ;have x2:=fun σ=>ixM (f:=Po.D) e2 σ;have x3:=fun σ=>v.ps[k].i1 σ;have x4:=fun σ=>zuc v.ps[k] σ;unfold lnB;rw[zsq e1,zsq e2];generalize v.ps[k].D=PD at *;generalize D.lst (v.ps[k].st.map St.D)=SL at *;generalize (v.ps[k].st.length:Int)=N3 at *;generalize cs[k]=C at *;generalize D.lst (cs.map D.int)=CL at *;generalize D.lst (v.ps.map Po.D)=PL at *;generalize v.D=VD at *;generalize (k:Int)=K at *;refine⟨?_,fun _=>by simp⟩;cases h1:decide (0<=C)<;>cases h2:decide (C<N3)<;>simp[x1,x2,x3,x4,j3,h1,h2]) (fun _ _=>by simp)
  have e0:((List.range cs.length).filter fun k=>!lnB v cs k).map (fun(k:Nat)=>D.int k)=(((List.range cs.length).filter fun k=>!lnB v cs k).map fun(k:Nat)=>(k:Int)).map D.int:=by rw[List.map_map];rfl
  have eq:=fun σ=>zrl (((List.range cs.length).filter fun k=>!lnB v cs k).map fun(k:Nat)=>(k:Int)) [] σ;rw[<-e0]at eq;have ed:decide (((List.range cs.length).filter fun k=>!lnB v cs k).map (fun(k:Nat)=>(k:Int))=[])=plB v.ps cs:=by
   rw[znx v cs hl,Bool.eq_iff_iff];simp only[decide_eq_true_eq,List.map_eq_nil_iff,List.filter_eq_nil_iff,List.all_eq_true];constructor
   ·intro h k hk;have:=h k hk;simpa using this
   ·intro h k hk;simpa using h k hk
  rw[ed]at eq;rw[show (([]:List Int).map D.int)=[]from rfl]at eq;unfold f__law_places zci;generalize ((List.range cs.length).filter fun k=>!lnB v cs k).map (fun(k:Nat)=>D.int k)=FL at *;generalize plB v.ps cs=pb at *;generalize D.lst (cs.map D.int)=CL at *;generalize D.lst (v.ps.map Po.D)=PL at *;generalize v.D=VD at *;generalize (cs.length:Int)=N1 at *;generalize (v.ps.length:Int)=N2 at *;simp[j3,l1,l2,hb,l,eq,-zrd]
def lns(v:Vw)(cs:List Int)(i k:Nat):List Int:=(List.range' i k).map fun j=>cs.getD j 0 % ((v.ps.getD j Po0).st.length:Int)
noncomputable abbrev leB:Ev->M Fl:=(ym5 (ym6 4 (eC (.int 0)))
 (ym5 (sIf (eT (yko oLt (ykv 3) (ye6 yl3 (yeg (ykv 1) yj3)))) (ym6 4 (yko oIx (ykv 1) (ykv 3))) ym2)
 (ymz (ye9 zt3 (ykv 2) (yeg (yko yl4 (ykv 4) (ye6 yl3 (yeg (yko oIx (yko oIx (yko oIx (ykv 0) (eC (.int 3))) (ykv 3)) (eC (.int 1))) yj3))) yj3)))))
theorem ztk(v:Vw)(hv:v.Ok)(cs:List Int)(σ:Sto):∀ (k i:Nat) (ys:List Int) (x3 x4:Option D),i+k=v.ps.length->ys.length=i->∃ y3 y4,
  ylm (tgN 3) leB ((List.range' i k).map fun(k:Nat)=>D.int k) [some v.D,some (.lst (cs.map D.int)),some (.ref σ.length),x3,x4] (σ++[.lst (ys.map D.int)])=.ok (.nx [some v.D,some (.lst (cs.map D.int)),some (.ref σ.length),y3,y4]) (σ++[.lst ((ys++lns v cs i k).map D.int)]):=by
 intro k;induction k with
 |zero=>intro i ys x3 x4 _ _;exact⟨x3,x4,by simp[lns]⟩
 |succ k ih=>
  intro i ys x3 x4 hik hy;have hn:=hv.n3;have e2:v.ps[i]?=some v.ps[i]:=List.getElem?_eq_getElem (by omega);have hs:=hv.sl v.ps[i] (List.getElem_mem (by omega));have x2:=fun σ=>ixM (f:=Po.D) e2 σ;have x3':=fun σ=>v.ps[i].i1 σ;have x4':=fun σ=>zuc v.ps[i] σ;have j3:=fun σ=>v.j3 σ;have l1:∀ σ,yl3 [.lst (cs.map D.int)] σ=.ok (.int cs.length) σ:=fun σ=>by simp
  have om:∀ c σ,yl4 (.int c) (.int (v.ps[i].st.length:Int)) σ=.ok (.int (c % (v.ps[i].st.length:Int))) σ:=fun c σ=>zud c _ (by omega);obtain⟨y3,y4,e⟩:=ih (i+1) (ys++[cs.getD i 0 % ((v.ps.getD i Po0).st.length:Int)]) (some (.int i)) (some (.int (cs.getD i 0))) (by omega) (by simp;omega);refine⟨y3,y4,?_⟩;have ap:=zfe (σ:=σ) (xs:=ys.map D.int) (d:=.int (cs.getD i 0 % (v.ps[i].st.length:Int))) (by simp;omega);have st:leB [some v.D,some (.lst (cs.map D.int)),some (.ref σ.length),some (.int i),x4] (σ++[.lst (ys.map D.int)])=.ok (.nx [some v.D,some (.lst (cs.map D.int)),some (.ref σ.length),some (.int i),some (.int (cs.getD i 0))]) (σ++[.lst ((ys++[cs.getD i 0 % ((v.ps.getD i Po0).st.length:Int)]).map D.int)]):=by
   rw[zsq e2,List.map_append];unfold leB;by_cases hc:i<cs.length
   ·have e1:cs[i]?=some cs[i]:=List.getElem?_eq_getElem hc;have x1:=fun σ=>ixM (f:=D.int) e1 σ;have hb:decide ((i:Int)<(cs.length:Int))=true:=by simp;omega
    rw[zsq e1]at ap ⊢;generalize cs[i]=C at *;generalize v.ps[i].D=PD at *;generalize D.lst (v.ps[i].st.map St.D)=SL at *;generalize (v.ps[i].st.length:Int)=N3 at *;generalize D.lst (cs.map D.int)=CL at *;generalize D.lst (v.ps.map Po.D)=PL at *;generalize v.D=VD at *;generalize (i:Int)=I at *;generalize (cs.length:Int)=N1 at *;generalize ys.map D.int=YL at *;simp[x1,x2,x3',x4',j3,l1,om,hb,ap]
   ·have e1:cs.getD i 0=0:=by rw[List.getD_eq_getElem?_getD,List.getElem?_eq_none_iff.mpr (by omega)];rfl
    have hb:decide ((i:Int)<(cs.length:Int))=false:=by simp;omega
    rw[e1]at ap ⊢;have om0:=fun σ=>om 0 σ;generalize v.ps[i].D=PD at *;generalize D.lst (v.ps[i].st.map St.D)=SL at *;generalize (v.ps[i].st.length:Int)=N3 at *;generalize D.lst (cs.map D.int)=CL at *;generalize D.lst (v.ps.map Po.D)=PL at *;generalize v.D=VD at *;generalize (i:Int)=I at *;generalize (cs.length:Int)=N1 at *;generalize ys.map D.int=YL at *;generalize hz:(0 % N3:Int)=Z at *;simp[x2,x3',x4',j3,l1,om0,hb,ap]
  rw[List.range'_succ,List.map_cons,zm0];simp only[List.set_cons_succ,List.set_cons_zero];rw[st,zqh,zmy,e];unfold lns;rw[List.range'_succ];simp
theorem zfv(v:Vw)(hv:v.Ok)(cs:List Int)(σ:Sto):f__law_lenient [v.D,.lst (cs.map D.int)] σ=.ok (.lst ((lns v cs 0 v.ps.length).map D.int)) σ:=by
 have hn:=hv.n3;obtain⟨y3,y4,e⟩:=ztk v hv cs σ v.ps.length 0 [] none none (by omega) rfl;rw[<-zja,List.nil_append,show (([]:List Int).map D.int)=[]from rfl]at e;have j3:=fun σ=>v.j3 σ;have l2:∀ σ,yl3 [.lst (v.ps.map Po.D)] σ=.ok (.int v.ps.length) σ:=fun σ=>by simp
 have rk:=fun σ=>ymv v.ps.length (by omega) σ;have fz:=zse (σ:=σ) (zs:=(lns v cs 0 v.ps.length).map D.int) (zqt fun _=>by simp);unfold leB at e;unfold f__law_lenient zbl;generalize (lns v cs 0 v.ps.length).map D.int=OUT at *;generalize D.lst (cs.map D.int)=CL at *;generalize D.lst (v.ps.map Po.D)=PL at *;generalize v.D=VD at *;generalize ycs v.ps.length=RG at *;generalize (v.ps.length:Int)=N at *;simp[j3,l2,rk,e,fz]
theorem ztl(v:Vw)(cs:List Int):(lns v cs 0 v.ps.length).length=v.ps.length:=by unfold lns;simp
theorem yaz(v:Vw)(cs:List Int){k:Nat}(h:k<v.ps.length):(lns v cs 0 v.ps.length)[k]?=some (cs.getD k 0 % ((v.ps.getD k Po0).st.length:Int)):=by
 unfold lns;rw[List.getElem?_map,List.getElem?_range' (by simpa using h)];simp
theorem ya0(v:Vw)(hv:v.Ok)(cs:List Int):plB v.ps (lns v cs 0 v.ps.length)=true:=by
 rw[znx v _ (ztl v cs),List.all_eq_true];intro k hk;have hk:k<v.ps.length:=by rw[ztl]at hk;exact List.mem_range.mp hk
 have e2:v.ps[k]?=some v.ps[k]:=List.getElem?_eq_getElem hk;have hs:=hv.sl v.ps[k] (List.getElem_mem hk);unfold lnB;rw[zsq (yaz v cs hk),zsq e2];have b1:=Int.emod_nonneg (cs.getD k 0) (show (v.ps[k].st.length:Int)≠0 by omega);have b2:=Int.emod_lt_of_pos (cs.getD k 0) (show (0:Int)<(v.ps[k].st.length:Int) by omega);simp only[Bool.and_eq_true,decide_eq_true_eq];exact⟨b1,b2⟩
theorem zmw(v:Vw)(cs:List Int)(hl:cs.length=v.ps.length)(hp:plB v.ps cs=true):lns v cs 0 v.ps.length=cs:=by
 apply List.ext_getElem?;intro k;by_cases hk:k<v.ps.length
 ·rw[yaz v cs hk];have e1:cs[k]?=some cs[k]:=List.getElem?_eq_getElem (by omega);rw[znx v cs hl,List.all_eq_true]at hp;have:=hp k (List.mem_range.mpr (by omega));unfold lnB at this;simp only[Bool.and_eq_true,decide_eq_true_eq]at this;rw[Int.emod_eq_of_lt this.1 this.2,zsq e1,e1]
 ·rw[List.getElem?_eq_none_iff.mpr (by rw[ztl];omega),List.getElem?_eq_none_iff.mpr (by omega)]
theorem zos{σ:Sto}{zs:List D}{i:Nat}(h:i<zs.length)(d:D)(ρ:Ev):yil ρ d (.ref σ.length) (.int i) (σ++[.lst zs])=.ok (.nx ρ) (σ++[.lst (zs.set i d)]):=by
 have l:ygj (σ++[Ob.lst zs]) σ.length=some zs:=by unfold ygj;simp
 have e:ixN zs.length (i:Int)=some i:=by
  unfold ixN;rw[if_pos (by omega),if_pos (by omega)];simp
 unfold yil yhb;simp only[l,e,zwa]
theorem zq0(xs:List Int)(lo hi:Option Int):∃ ys:List Int,ykh (xs.map D.int) lo hi=ys.map D.int/\ys.length<=xs.length:=by
 refine⟨(xs.drop (HT.sIx xs.length 0 lo)).take (HT.sIx xs.length xs.length hi - HT.sIx xs.length 0 lo),?_,?_⟩
 ·unfold ykh;rw[List.length_map,List.map_take,List.map_drop]
 ·rw[List.length_take,List.length_drop];omega
theorem yho(a b c d:Int)(k:Int)(hk:0<=k/\k<4):∃ x:Int,∀ σ,oIx (.lst [.int a,.int b,.int c,.int d]) (.int k) σ=.ok (.int x) σ:=by
 have h:k=0\/k=1\/k=2\/k=3:=by omega
 rcases h with rfl|rfl|rfl|rfl
 ·exact⟨a,fun σ=>zt9 (show atI _ ((0:Nat):Int)=_ from zp9 rfl)⟩
 ·exact⟨b,fun σ=>zt9 (show atI _ ((1:Nat):Int)=_ from zp9 rfl)⟩
 ·exact⟨c,fun σ=>zt9 (show atI _ ((2:Nat):Int)=_ from zp9 rfl)⟩
 ·exact⟨d,fun σ=>zt9 (show atI _ ((3:Nat):Int)=_ from zp9 rfl)⟩
noncomputable abbrev chA:Ev->M Fl:=(sIf (yj8 (eT (yko oEq (yko yl4 (ykv 1) (eC (.int 8))) (eC (.int 3)))) (eT (yko oNe (ykv 2) (eLv yj3)))) (yib (yko oIx (eLv (yeg (eUn yl7 (eC (.int 1))) (yeg (eC (.int 2)) (yeg (eC (.int 1)) (yeg (eC (.int 5)) yj3))))) (yko yl4 (yko ylw (ykv 1) (eC (.int 24))) (eC (.int 4)))) (ykv 2) (yko yl4 (yko ylw (ykv 1) (eC (.int 8))) (ye6 yl3 (yeg (ykv 2) yj3)))) ym2)
theorem zxy(VD:D)(c:Int)(c0:List Int)(σ:Sto):∃ c1:List Int,c1.length=c0.length/\chA [some VD,some (.int c),some (.ref σ.length)] (σ++[.lst (c0.map D.int)])=.ok (.nx [some VD,some (.int c),some (.ref σ.length)]) (σ++[.lst (c1.map D.int)]):=by
 have ls:ygj (σ++[Ob.lst (c0.map D.int)]) σ.length=some (c0.map D.int):=by unfold ygj;simp
 have ne:oNe (.ref σ.length) (.lst []) (σ++[.lst (c0.map D.int)])=.ok (.bl (!decide (c0=[]))) (σ++[.lst (c0.map D.int)]):=by
  have e:eqD (σ++[Ob.lst (c0.map D.int)]) 8 (.ref σ.length) (.lst [])=some (decide (c0=[])):=by
   have k:kd (σ++[Ob.lst (c0.map D.int)]) (.ref σ.length)=.l (c0.map D.int):=by simp only[kd,ls]
   show eqK _ (kd _ (.ref σ.length)) (kd _ (.lst []))=_;rw[k];have:=zk2 (σ++[Ob.lst (c0.map D.int)]) 7 c0 [];exact this
  exact ybf e
 have ln:yl3 [.ref σ.length] (σ++[.lst (c0.map D.int)])=.ok (.int c0.length) (σ++[.lst (c0.map D.int)]):=by
  have:yif (σ++[Ob.lst (c0.map D.int)]) (.ref σ.length)=some (c0.map D.int):=ls;unfold yl3;simp only[this];simp
 obtain⟨x,px⟩:=yho (-1) 2 1 5 (c / 24 % 4) (by omega);unfold chA;cases b3:(c % 8 == 3)with
 |false=>
  refine⟨c0,rfl,?_⟩;generalize (σ++[Ob.lst (c0.map D.int)])=σ1 at *;simp[b3]
 |true=>
  cases he:decide (c0=[])with
  |true=>
   rw[he]at ne;refine⟨c0,rfl,?_⟩;generalize (σ++[Ob.lst (c0.map D.int)])=σ1 at *;simp[b3,ne]
  |false=>
   rw[he]at ne;have hp:0<c0.length:=by
    cases c0 with
    |nil=>simp at he
    |cons a l=>simp
   obtain⟨i,hi⟩:∃ i:Nat,(i:Int)=c / 8 % (c0.length:Int):=⟨(c / 8 % (c0.length:Int)).toNat,by have:=Int.emod_nonneg (c / 8) (show (c0.length:Int)≠0 by omega);omega⟩
   have hlt:i<c0.length:=by have:=Int.emod_lt_of_pos (c / 8) (show (0:Int)<c0.length by omega);omega
   have om:∀ σ,yl4 (.int (c / 8)) (.int (c0.length:Int)) σ=.ok (.int i) σ:=fun σ=>by rw[hi];exact zud _ _ (by omega)
   have st:=fun ρ=>zos (σ:=σ) (zs:=c0.map D.int) (i:=i) (by simpa using hlt) (.int x) ρ;rw[<-List.map_set]at st;refine⟨c0.set i x,by simp,?_⟩;generalize (σ++[Ob.lst (c0.map D.int)])=σ1 at *;generalize (σ++[Ob.lst ((c0.set i x).map D.int)])=σ2 at *;generalize (c0.length:Int)=N1 at *;generalize (i:Int)=I at *;generalize σ.length=N0 at *;simp[b3,ne,ln,px,om,st]
noncomputable abbrev ch1:Ev->M Fl:=(ym6 2 (eLC (yne (ye6 yl3 (yeg (yko oIx (ykv 0) (eC (.int 3))) yj3))) [1,0] (tgN 0) yel (yko yl4 (eFn 2 f__law_mixed [] (yeg (ykv 1) (yeg (ykv 0) yj3))) (ye6 yl3 (yeg (yko oIx (yko oIx (yko oIx (ykv 2) (eC (.int 3))) (ykv 0)) (eC (.int 1))) yj3)))))
noncomputable abbrev ch3:Ev->M Fl:=(sIf (eT (yko oEq (yko yl4 (ykv 1) (eC (.int 8))) (eC (.int 5)))) (ym6 2 (yko oIx (eLv (yeg (eSl (ykv 2) none (some (eUn yl7 (eC (.int 1))))) (yeg (yko yls (ykv 2) (eLv (yeg (eC (.int 0)) yj3))) yj3))) (yko yl4 (yko ylw (ykv 1) (eC (.int 8))) (eC (.int 2))))) ym2)
theorem yeu:zcg=ym5 ch1 (ym5 chA (ym5 ch3 (ym4 (ykv 2)))):=nr rfl
theorem zhl(v:Vw)(hv:v.Ok)(c:Int)(σ:Sto):∃ cs:List Int,cs.length<=4/\f__law_chosen [v.D,.int c] σ=.ok (.lst (cs.map D.int)) σ:=by
 have hn:=hv.n3;have j3:=fun σ=>v.j3 σ;have l2:∀ σ,yl3 [.lst (v.ps.map Po.D)] σ=.ok (.int v.ps.length) σ:=fun σ=>by simp
 have rk:=fun σ=>ymv v.ps.length (by omega) σ;have l:=yaq (xs:=List.range v.ps.length) (ix:=[1,0]) (ρ:=[some v.D,some (.int c),none]) (σ:=σ) (src:=yne (ye6 yl3 (yeg (yko oIx (ykv 0) (eC (.int 3))) yj3))) (fi:=yel) (fe:=yko yl4 (eFn 2 f__law_mixed [] (yeg (ykv 1) (yeg (ykv 0) yj3))) (ye6 yl3 (yeg (yko oIx (yko oIx (yko oIx (ykv 2) (eC (.int 3))) (ykv 0)) (eC (.int 1))) yj3))) (fun k=>.int k) (fun _=>true) (fun k=>.int (ylq c k % ((v.ps.getD k Po0).st.length:Int))) (by
   generalize D.lst (v.ps.map Po.D)=PL at *;generalize v.D=VD at *;have rk':=rk σ;unfold ycs at rk';generalize (List.range v.ps.length).map (fun(k:Nat)=>D.int k)=RG at *;generalize (v.ps.length:Int)=N1 at *;simp[j3,l2,rk']) (by simp;omega) (fun k hk j=>by
   have hk:k<v.ps.length:=List.mem_range.mp hk;have e2:v.ps[k]?=some v.ps[k]:=List.getElem?_eq_getElem hk;have hs:=hv.sl v.ps[k] (List.getElem_mem hk);have x2:=fun σ=>ixM (f:=Po.D) e2 σ;have x3:=fun σ=>v.ps[k].i1 σ;have x4:=fun σ=>zuc v.ps[k] σ;have mx:=fun σ=>ya4 c k (by omega) σ;have om:∀ z σ,yl4 (.int z) (.int (v.ps[k].st.length:Int)) σ=.ok (.int (z % (v.ps[k].st.length:Int))) σ:=fun z σ=>zud z _ (by omega);rw[zsq e2];refine⟨rfl,fun _=>?_⟩;generalize v.ps[k].D=PD at *;generalize D.lst (v.ps[k].st.map St.D)=SL at *;generalize (v.ps[k].st.length:Int)=N3 at *;generalize ylq c k=MX at *;generalize D.lst (v.ps.map Po.D)=PL at *;generalize v.D=VD at *;generalize (k:Int)=K at *;simp[x2,x3,x4,j3,mx,om])
 rw[show (List.range v.ps.length).filter (fun _=>true)=List.range v.ps.length from List.filter_eq_self.mpr fun _ _=>rfl]at l;rw[show ((List.range v.ps.length).map fun k=>D.int (ylq c k % ((v.ps.getD k Po0).st.length:Int)))=((List.range v.ps.length).map fun k=>ylq c k % ((v.ps.getD k Po0).st.length:Int)).map D.int by rw[List.map_map];rfl]at l;have hl0:((List.range v.ps.length).map fun k=>ylq c k % ((v.ps.getD k Po0).st.length:Int)).length=v.ps.length:=by simp
 generalize ((List.range v.ps.length).map fun k=>ylq c k % ((v.ps.getD k Po0).st.length:Int))=c0 at *;obtain⟨c1,h1,eA⟩:=zxy v.D c c0 σ;have ls:yln (σ++[Ob.lst (c1.map D.int)]) (.ref σ.length)=some (c1.map D.int):=by unfold yln ygj;simp
 obtain⟨c2,hc2,h2⟩:=zq0 c1 none (some (-1));have cu:yki (.ref σ.length) none (some (-1)) (σ++[.lst (c1.map D.int)])=.ok (.lst (c2.map D.int)) (σ++[.lst (c1.map D.int)]):=by
  unfold yki;simp only[ls,hc2]
 have ad:yls (.ref σ.length) (.lst [.int 0]) (σ++[.lst (c1.map D.int)])=.ok (.lst ((c1++[0]).map D.int)) (σ++[.lst (c1.map D.int)]):=by
  show ygy (.ref σ.length) (.lst [.int 0]) (σ++[.lst (c1.map D.int)])=_;have l0:yln (σ++[Ob.lst (c1.map D.int)]) (.lst [.int 0])=some [.int 0]:=rfl;unfold ygy;simp only[ls,l0];rw[if_pos (by simp[cap];omega)];simp
 have f1:=zse (σ:=σ) (zs:=c1.map D.int) (zqt fun _=>by simp);have f2:∀ ys:List Int,yk2 σ (.ok (.lst (ys.map D.int)) (σ++[.lst (c1.map D.int)]))=.ok (.lst (ys.map D.int)) σ:=fun ys=>zlu (by rw[zx4];exact zqt fun _=>by simp);have es:eSl (ykv 2) none (some (eUn yl7 (eC (.int 1)))) [some v.D,some (.int c),some (.ref σ.length)] (σ++[.lst (c1.map D.int)])=.ok (.lst (c2.map D.int)) (σ++[.lst (c1.map D.int)]):=cu;unfold f__law_chosen;rw[yeu];generalize chA=A at *;unfold ch1 ch3;have hp:c / 8 % 2=0\/c / 8 % 2=1:=by omega
 have q0:∀ (x y:D) σ,oIx (.lst [x,y]) (.int 0) σ=.ok x σ:=fun x y σ=>zt9 (show atI _ ((0:Nat):Int)=_ from zp9 rfl);have q1:∀ (x y:D) σ,oIx (.lst [x,y]) (.int 1) σ=.ok y σ:=fun x y σ=>zt9 (show atI _ ((1:Nat):Int)=_ from zp9 rfl);have sl:∀ x lo hi σ,ynb x lo hi σ=yki x lo hi σ:=fun _ _ _ _=>rfl;cases b5:(c % 8 == 5)with
 |false=>
  refine⟨c1,by omega,?_⟩;generalize (σ++[Ob.lst (c0.map D.int)])=σ1 at *;generalize (σ++[Ob.lst (c1.map D.int)])=σ2 at *;generalize D.lst (v.ps.map Po.D)=PL at *;generalize c1.map D.int=L1 at *;generalize v.D=VD at *;generalize D.ref σ.length=R at *;simp[l,eA,b5,f1]
 |true=>
  rcases hp with h|h
  ·have f3:=f2 c2;refine⟨c2,by omega,?_⟩;generalize (σ++[Ob.lst (c0.map D.int)])=σ1 at *;generalize (σ++[Ob.lst (c1.map D.int)])=σ2 at *;generalize D.lst (v.ps.map Po.D)=PL at *;generalize D.lst ((c1++[0]).map D.int)=L3 at *;generalize D.lst (c2.map D.int)=L2 at *;generalize v.D=VD at *;generalize D.ref σ.length=R at *;simp[l,eA,b5,h,es,ad,q0,f3]
  ·have f3:=f2 (c1++[0]);refine⟨c1++[0],by simp;omega,?_⟩;generalize (σ++[Ob.lst (c0.map D.int)])=σ1 at *;generalize (σ++[Ob.lst (c1.map D.int)])=σ2 at *;generalize D.lst (v.ps.map Po.D)=PL at *;generalize D.lst ((c1++[0]).map D.int)=L3 at *;generalize D.lst (c2.map D.int)=L2 at *;generalize v.D=VD at *;generalize D.ref σ.length=R at *;simp[l,eA,b5,h,es,ad,q1,f3]
def putF(F:Fs)(w:Int)(x:Option Int):Fs:=if F.any (fun p=>decide (p.1=w))then F.map fun p=>if p.1=w then (p.1,x)else p else F++[(w,x)]
theorem zu9(F:Fs)(w:Int)(x:Option Int):yhr (kvF F) (.inl w) (oD x)=kvF (putF F w x):=by
 have ha:((kvF F).any fun kv=>decide (kv.1=(Sum.inl w:Key)))=F.any fun p=>decide (p.1=w):=by
  unfold kvF;rw[List.any_map];congr 1;funext p;simp
 unfold yhr putF;rw[ha];split
 ·unfold kvF;rw[List.map_map,List.map_map];congr 1;funext p;simp only[Function.comp];by_cases e:p.1=w
  ·simp[e]
  ·have e2:¬ (Sum.inl p.1:Key)=Sum.inl w:=fun z=>e (Sum.inl.inj z);simp[e]
 ·unfold kvF;rw[List.map_append];rfl
theorem zn1(F:Fs)(w:Int)(x:Option Int):(putF F w x).length<=F.length+1:=by unfold putF;split<;>simp
theorem zva(F:Fs)(w:Int)(x:Option Int)(h:(fks F).Nodup):(fks (putF F w x)).Nodup:=by
 unfold putF;split
 ·have:fks (F.map fun p=>if p.1=w then (p.1,x)else p)=fks F:=by
   unfold fks;rw[List.map_map];apply List.map_congr_left;intro p _;simp only[Function.comp];split<;>rfl
  rw[this];exact h
 ·next ha=>
  unfold fks at *;rw[List.map_append,List.nodup_append];refine⟨h,by simp,fun a hx y hy e=>?_⟩;simp at hy;obtain⟨p,hp,rfl⟩:=List.mem_map.mp hx;exact ha (List.any_eq_true.mpr ⟨p,hp,by simp[e,hy]⟩)
theorem zop{σ:Sto}{F:Fs}(w:Int)(x:Option Int)(hl:F.length<900)(ρ:Ev):yii ρ (oD x) (.ref σ.length) (.int w) (σ++[.dic (kvF F)])=.ok (.nx ρ) (σ++[.dic (kvF (putF F w x))]):=by
 rw[zoo w (oD x) (by unfold kvF;simp;omega) ρ,zu9]
theorem yfu(σ:Sto)(F:Fs):yk2 σ (.ok (.ref σ.length) (σ++[.dic (kvF F)]))=.ok (fD F) σ:=by
 have e:(σ++[Ob.dic (kvF F)])[σ.length]?=some (.dic (kvF F)):=by simp
 have hr:fz σ.length (σ++[Ob.dic (kvF F)]) 6 (.ref σ.length)=some (fD F):=by
  unfold fz;rw[if_neg (by simp[cl])];dsimp only;rw[if_neg (Nat.lt_irrefl _),e];dsimp only;rw[show (kvF F).map (·.2)=F.map fun p=>oD p.2 by unfold kvF;rw[List.map_map];rfl,zso (g:=fun p:Int × Option Int=>oD p.2) (h:=fun p=>oD p.2) fun p _=>yfx (yg1 p.2)];unfold fD kvF;rw[List.map_map];rfl
 unfold yk2;dsimp only;rw[if_pos (by simp),hr]
theorem Tc.L1(c:Tc)(σ:Sto):oIx c.L (.int 1) σ=.ok c.t.D σ:=by unfold Tc.L;simp
theorem yhp(ds:List Int)(k:Int)(hk:0<=k/\k<ds.length+1):∃ x:Option Int,∀ σ,oIx (.lst (.non::ds.map D.int)) (.int k) σ=.ok (oD x) σ:=by
 obtain⟨i,rfl⟩:∃ i:Nat,k=i:=⟨k.toNat,by omega⟩
 cases i with
 |zero=>exact⟨none,fun σ=>zt9 (zp9 rfl)⟩
 |succ i=>
  have hi:i<ds.length:=by omega
  exact⟨some ds[i],fun σ=>zt9 (zp9 (by rw[List.getElem?_cons_succ,List.getElem?_map,List.getElem?_eq_getElem hi];rfl))⟩
noncomputable abbrev faB:Ev->M Fl:=(ym5 (ym6 5 (yko yls (eLv (yeg (eC .non) yj3)) (ykp (eLC (ynf (ykv 0)) [4] (tgN 0) (eT (yko oEq (yko oIx (yko oIx (ykv 0) (eC (.int 1))) (eC (.int 2))) (yko oIx (ykv 1) (eC (.int 2))))) (yko oIx (yko oIx (ykv 0) (eC (.int 1))) (eC (.int 3)))))))
 (yia (yko oIx (ykv 5) (yko yl4 (eFn 2 f__law_mixed [] (yeg (ykv 1) (yeg (yko oIx (ykv 4) (eC (.int 2))) yj3))) (ye6 yl3 (yeg (ykv 5) yj3)))) (ykv 2) (yko oIx (ykv 4) (eC (.int 2)))))
theorem zrr(cs:List Tc)(hl:cs.length<=100)(c:Int)(t:Tc)(ht:0<=t.t.w/\t.t.w<=6)(F:Fs)(hF:F.length<800)(x5:Option D)(σ:Sto):∃ x y5,
  faB [some (.lst (cs.map Tc.L)),some (.int c),some (.ref σ.length),some (.str t.l),some t.t.D,x5] (σ++[.dic (kvF F)])=.ok (.nx [some (.lst (cs.map Tc.L)),some (.int c),some (.ref σ.length),some (.str t.l),some t.t.D,y5]) (σ++[.dic (kvF (putF F t.t.w x))]):=by
 have l:=lcA (xs:=cs) (ix:=[4]) (ρ:=[some (.lst (cs.map Tc.L)),some (.int c),some (.ref σ.length),some (.str t.l),some t.t.D,x5]) (σ:=σ++[.dic (kvF F)]) (src:=ynf (ykv 0)) (fi:=eT (yko oEq (yko oIx (yko oIx (ykv 0) (eC (.int 1))) (eC (.int 2))) (yko oIx (ykv 1) (eC (.int 2))))) (fe:=yko oIx (yko oIx (ykv 0) (eC (.int 1))) (eC (.int 3))) Tc.L (fun d=>d.t.w == t.t.w) (fun d=>.int d.t.d) (by simp) (by omega) (fun d _ j=>by
   have i1:=fun σ=>d.L1 σ;have i2:=fun σ=>d.t.i2 σ;have i3:=fun σ=>d.t.i3 σ;have k2:=fun σ=>t.t.i2 σ;generalize d.t.D=DD at *;generalize t.t.D=TD at *;generalize d.L=DL at *;exact⟨by simp[i1,i2,k2],fun _=>by simp[i1,i3]⟩) (fun _ _=>by simp)
 have e0:((cs.filter fun d=>d.t.w == t.t.w).map fun d=>D.int d.t.d)=((cs.filter fun d=>d.t.w == t.t.w).map fun d=>d.t.d).map D.int:=by rw[List.map_map];rfl
 rw[e0]at l;have hfl:((cs.filter fun d=>d.t.w == t.t.w).map fun d=>d.t.d).length<=100:=by rw[List.length_map];exact Nat.le_trans (List.length_filter_le _ _) hl
 generalize ((cs.filter fun d=>d.t.w == t.t.w).map fun d=>d.t.d)=ds at *;have ad:∀ σ,yls (.lst [.non]) (.lst (ds.map D.int)) σ=.ok (.lst (.non::ds.map D.int)) σ:=fun σ=>by
  rw[znf (by simp[cap];omega)];rfl
 have ln:∀ σ,yl3 [.lst (.non::ds.map D.int)] σ=.ok (.int ((ds.length:Int)+1)) σ:=fun σ=>by simp
 have mx:∀ σ,f__law_mixed [.int c,.int t.t.w] σ=.ok (.int (ylq c t.t.w.toNat)) σ:=fun σ=>by
  have:=ya4 c t.t.w.toNat (by omega) σ;rw[show ((t.t.w.toNat:Nat):Int)=t.t.w by omega]at this;exact this
 have om:∀ z σ,yl4 (.int z) (.int ((ds.length:Int)+1)) σ=.ok (.int (z % ((ds.length:Int)+1))) σ:=fun z σ=>zud z _ (by omega);obtain⟨x,px⟩:=yhp ds (ylq c t.t.w.toNat % ((ds.length:Int)+1)) ⟨Int.emod_nonneg _ (by omega),Int.emod_lt_of_pos _ (by omega)⟩;have st:=fun ρ=>zop (σ:=σ) (F:=F) t.t.w x (by omega) ρ;have k2:=fun σ=>t.t.i2 σ;refine⟨x,some (.lst (.non::ds.map D.int)),?_⟩;unfold faB;generalize (σ++[Ob.dic (kvF (putF F t.t.w x))])=σ2 at *;generalize (σ++[Ob.dic (kvF F)])=σ1 at *;generalize D.lst (.non::ds.map D.int)=NL at *;generalize D.lst (ds.map D.int)=DL at *;generalize D.lst (cs.map Tc.L)=CL at *;generalize ((ds.length:Int)+1)=N1 at *;generalize ylq c t.t.w.toNat=MX at *;generalize t.t.D=TD at *;generalize oD x=OX at *;generalize σ.length=N0 at *;simp[l,ad,ln,mx,om,px,st,k2,-zrd]
theorem zrq(cs:List Tc)(hl:cs.length<=100)(c:Int)(σ:Sto):∀ (ts:List Tc) (F:Fs) (x3 x4 x5:Option D),(∀ t∈ts,0<=t.t.w/\t.t.w<=6)->(fks F).Nodup->F.length+ts.length<800->∃ F' y3 y4 y5,(fks F').Nodup/\F'.length<=F.length+ts.length/\
  ylm (tgT 2 (ydn (tgN 3) (ydn (tgN 4) yiz))) faB (ts.map Tc.L) [some (.lst (cs.map Tc.L)),some (.int c),some (.ref σ.length),x3,x4,x5] (σ++[.dic (kvF F)])=.ok (.nx [some (.lst (cs.map Tc.L)),some (.int c),some (.ref σ.length),y3,y4,y5]) (σ++[.dic (kvF F')])
 |[],F,x3,x4,x5,_,hn,_=>⟨F,x3,x4,x5,hn,by simp,by simp⟩
 |t::ts,F,x3,x4,x5,hw,hn,hF=>by
  simp only[List.length_cons]at hF;obtain⟨x,y5,st⟩:=zrr cs hl c t (hw t List.mem_cons_self) F (by omega) x5 σ;have hpl:=zn1 F t.t.w x;obtain⟨F',z3,z4,z5,h1,h2,e⟩:=zrq cs hl c σ ts (putF F t.t.w x) (some (.str t.l)) (some t.t.D) y5 (fun u hu=>hw u (List.mem_cons_of_mem _ hu)) (zva F _ x hn) (by omega);refine⟨F',z3,z4,z5,h1,by simp only[List.length_cons];omega,?_⟩;rw[List.map_cons,zik (ρ1:=[some (.lst (cs.map Tc.L)),some (.int c),some (.ref σ.length),some (.str t.l),some t.t.D,x5]) (nr rfl),st,zqh,zmy,e]
noncomputable abbrev fa3:Ev->M Fl:=(sIf (eT (yko oEq (yko yl4 (ykv 1) (eC (.int 8))) (eC (.int 3)))) (yia (yko oIx (eLv (yeg (eC .non) (yeg (yko yl4 (yko ylw (ykv 1) (eC (.int 40))) (eC (.int 70))) yj3))) (yko yl4 (yko ylw (ykv 1) (eC (.int 2800))) (eC (.int 2)))) (ykv 2) (yko yl4 (yko ylw (ykv 1) (eC (.int 8))) (eC (.int 5)))) ym2)
noncomputable abbrev fa5:Ev->M Fl:=(sIf (yj8 (eT (yko oEq (yko yl4 (ykv 1) (eC (.int 8))) (eC (.int 5)))) (eT (yko yl6 (ykv 2) (eC (.dic [] []))))) (ymz (zym yha (ykv 2) (yeg (yko oIx (ykp (eUn (fun x=>zno [x]) (ykv 2))) (yko yl4 (yko ylw (ykv 1) (eC (.int 8))) (ye6 yg6 (yeg (ykv 2) yj3)))) yj3))) ym2)
theorem yfd:zdg=ym5 (ym6 2 ye7) (ym5 (ym1 (ynf (ykv 0)) (tgT 2 (ydn (tgN 3) (ydn (tgN 4) yiz))) faB) (ym5 fa3 (ym5 fa5 (ym4 (ykv 2))))):=nr rfl
theorem zyy(CL:D)(c:Int)(F:Fs)(hn:(fks F).Nodup)(hF:F.length<800)(x3 x4 x5:Option D)(σ:Sto):∃ F':Fs,(fks F').Nodup/\F'.length<=F.length+1/\fa3 [some CL,some (.int c),some (.ref σ.length),x3,x4,x5] (σ++[.dic (kvF F)])=.ok (.nx [some CL,some (.int c),some (.ref σ.length),x3,x4,x5]) (σ++[.dic (kvF F')]):=by
 unfold fa3;cases b3:(c % 8 == 3)with
 |false=>exact⟨F,hn,by omega,by simp[b3]⟩
 |true=>
  have h2:c / 2800 % 2=0\/c / 2800 % 2=1:=by omega
  obtain⟨x,px⟩:∃ x:Option Int,∀ σ,oIx (.lst [.non,.int (c / 40 % 70)]) (.int (c / 2800 % 2)) σ=.ok (oD x) σ:=by
   rcases h2 with h|h<;>rw[h]
   ·exact⟨none,fun σ=>zt9 (show atI _ ((0:Nat):Int)=_ from zp9 rfl)⟩
   ·exact⟨some (c / 40 % 70),fun σ=>zt9 (show atI _ ((1:Nat):Int)=_ from zp9 rfl)⟩
  have st:=fun ρ=>zop (σ:=σ) (F:=F) (c / 8 % 5) x (by omega) ρ;refine⟨putF F (c / 8 % 5) x,zva _ _ _ hn,zn1 _ _ _,?_⟩;generalize (σ++[Ob.dic (kvF (putF F (c / 8 % 5) x))])=σ2 at *;generalize (σ++[Ob.dic (kvF F)])=σ1 at *;generalize oD x=OX at *;generalize σ.length=N0 at *;simp[b3,px,st]
theorem zyz(CL:D)(c:Int)(F:Fs)(hn:(fks F).Nodup)(hF:F.length<60)(x3 x4 x5:Option D)(σ:Sto):∃ F':Fs,(fks F').Nodup/\F'.length<=F.length/\fa5 [some CL,some (.int c),some (.ref σ.length),x3,x4,x5] (σ++[.dic (kvF F)])=.ok (.nx [some CL,some (.int c),some (.ref σ.length),x3,x4,x5]) (σ++[.dic (kvF F')]):=by
 have e:(σ++[Ob.dic (kvF F)])[σ.length]?=some (.dic (kvF F)):=by simp
 have dc:ykm (σ++[Ob.dic (kvF F)]) (.ref σ.length)=some (kvF F):=by unfold ykm;simp only[e]
 have dz:ykm (σ++[Ob.dic (kvF F)]) (.dic [] [])=some []:=rfl;have ne:yl6 (.ref σ.length) (.dic [] []) (σ++[.dic (kvF F)])=.ok (.bl (!F.isEmpty)) (σ++[.dic (kvF F)]):=by
  unfold yl6;simp only[dc,dz];unfold kvF;cases F<;>rfl
 have ln:yg6 [.ref σ.length] (σ++[.dic (kvF F)])=.ok (.int F.length) (σ++[.dic (kvF F)]):=by
  unfold yg6;simp only[dc];simp[kvF]
 unfold fa5;cases b5:(c % 8 == 5)with
 |false=>exact⟨F,hn,by omega,by simp[b5]⟩
 |true=>
  cases he:F.isEmpty with
  |true=>
   rw[he]at ne;refine⟨F,hn,by omega,?_⟩;generalize (σ++[Ob.dic (kvF F)])=σ1 at *;simp[b5,ne]
  |false=>
   rw[he]at ne;have hp:0<F.length:=by
    cases F with
    |nil=>simp at he
    |cons a l=>simp
   obtain⟨i,hi⟩:∃ i:Nat,(i:Int)=c / 8 % (F.length:Int):=⟨(c / 8 % (F.length:Int)).toNat,by have:=Int.emod_nonneg (c / 8) (show (F.length:Int)≠0 by omega);omega⟩
   have hlt:i<F.length:=by have:=Int.emod_lt_of_pos (c / 8) (show (0:Int)<F.length by omega);omega
   have om:∀ σ,yl4 (.int (c / 8)) (.int (F.length:Int)) σ=.ok (.int i) σ:=fun σ=>by rw[hi];exact zud _ _ (by omega)
   have so:yk2 (σ++[.dic (kvF F)]) (zno [.ref σ.length] (σ++[.dic (kvF F)]))=.ok (.lst ((ynh (fks F)).map D.int)) (σ++[.dic (kvF F)]):=by
    have e2:zno [.ref σ.length] (σ++[.dic (kvF F)])=.ok (.ref (σ++[Ob.dic (kvF F)]).length) (σ++[.dic (kvF F)]++[.lst ((ynh (fks F)).map D.int)]):=by
     unfold zno;simp only[dc,ztd];rw[if_pos (by unfold fks;rw[List.length_map];omega)];rfl
    rw[e2];exact zse (zqt fun _=>by simp)
   have hsl:(ynh (fks F)).length=F.length:=by rw[(zjo _).length_eq];unfold fks;simp
   have eX:(ynh (fks F))[i]?=some (ynh (fks F))[i]:=List.getElem?_eq_getElem (by omega);have hw:(ynh (fks F))[i]∈fks F:=(zjo _).subset (List.getElem_mem (by omega));have ix:=fun σ=>ixM (f:=D.int) eX σ;generalize (ynh (fks F))[i]=w at *;obtain⟨p,hpF,hpw⟩:=List.mem_map.mp hw;have hv:yk3 F w=some p.2:=by rw[<-hpw];exact zl2 hn hpF
   have dr:zyg (kvF F) (.inl w)=kvF (F.filter fun q=>decide (q.1≠w)):=by
    unfold zyg kvF;rw[List.filter_map];congr 1;apply List.filter_congr;intro q _;simp
   have po:yha (.ref σ.length) [.int w] (σ++[.dic (kvF F)])=.ok (oD p.2) (σ++[.dic (kvF (F.filter fun q=>decide (q.1≠w)))]):=by
    unfold yha;simp only[ylh,e,zlk,hv,Option.map_some];rw[dr,zwa]
   have mk:∀ fs,ya3 yha fs (.ref σ.length) (σ++[.dic (kvF F)])=(fs (σ++[.dic (kvF F)])).bind (yha (.ref σ.length)):=fun fs=>by unfold ya3;rw[dc];rfl
   have fe2:∀ (f:Ev->M D) (ρ:Ev) (σ:Sto),ykp (eUn (fun x=>zno [x]) f) ρ σ=yk2 σ ((f ρ σ).bind fun x=>zno [x]):=fun _ _ _=>rfl;refine⟨F.filter fun q=>decide (q.1≠w),?_,List.length_filter_le _ _,?_⟩
   ·unfold fks at *;exact List.Sublist.nodup (List.Sublist.map _ List.filter_sublist) hn
   ·generalize (σ++[Ob.dic (kvF (F.filter fun q=>decide (q.1≠w)))])=σ2 at *;generalize (σ++[Ob.dic (kvF F)])=σ1 at *;generalize (ynh (fks F)).map D.int=SL at *;generalize (F.length:Int)=N1 at *;generalize (i:Int)=I at *;generalize σ.length=N0 at *;generalize oD p.2=OX at *;simp[b5,ne,ln,om,fe2,so,ix,po,mk,-zrd]
theorem zk9(cs:List Tc)(hl:cs.length<=30)(hw:∀ t∈cs,0<=t.t.w/\t.t.w<=6)(c:Int)(σ:Sto):∃ F:Fs,(fks F).Nodup/\F.length<60/\f__law_fates [.lst (cs.map Tc.L),.int c] σ=.ok (fD F) σ:=by
 obtain⟨F1,y3,y4,y5,n1,l1,e1⟩:=zrq cs (by omega) c σ cs [] none none none hw (by simp[fks]) (by simp;omega);simp only[List.length_nil]at l1;obtain⟨F2,n2,l2,e2⟩:=zyy (.lst (cs.map Tc.L)) c F1 n1 (by omega) y3 y4 y5 σ;obtain⟨F3,n3,l3,e3⟩:=zyz (.lst (cs.map Tc.L)) c F2 n2 (by omega) y3 y4 y5 σ;refine⟨F3,n3,by omega,?_⟩;have fz:=yfu σ F3;rw[show kvF []=[]from rfl]at e1;unfold faB at e1;unfold f__law_fates;rw[yfd];unfold faB;generalize fa3=A3 at *;generalize fa5=A5 at *;generalize (σ++[Ob.dic (kvF F3)])=σ3 at *;generalize (σ++[Ob.dic (kvF F2)])=σ2 at *;generalize (σ++[Ob.dic (kvF F1)])=σ1 at *;generalize hL:cs.map Tc.L=CL at *;generalize fD F3=OUT at *;simp[e1,e2,e3,fz]
theorem p12(σ:Sto):yl8 (.int 10) (.int 12) σ=.ok (.int 1000000000000) σ:=ybc (by simp[ykf])
def amV(n:Int):Int:=if n % 3 == 0 then 1+n / 3 % 9 else 1+n % 1000000000000
theorem zxk(n:Int)(σ:Sto):f__law_amount [.int n] σ=.ok (.int (amV n)) σ:=by
 have p:=p12;have om:∀ σ,yl4 (.int n) (.int 1000000000000) σ=.ok (.int (n % 1000000000000)) σ:=fun σ=>zud n _ (by decide);unfold f__law_amount zcf amV;cases h:(n % 3 == 0)<;>simp[h,p,om]
def ynx(n w k:Int):Ti:=⟨n % 2,amV (n / 2),w,max 0 (k+n / 7 % 13 - 4)⟩
theorem ylp(a b:Int)(σ:Sto):yg8 [.int a,.int b] σ=.ok (.int (max a b)) σ:=by simp
theorem ydp(n w k:Int)(σ:Sto):f__law_tie [.int n,.int w,.int k] σ=.ok (ynx n w k).D σ:=by
 have h:=fun σ=>zxk (n / 2) σ;have m:=fun σ=>ylp 0 (k+n / 7 % 13 - 4) σ;unfold f__law_tie zfq ynx Ti.D;generalize amV (n / 2)=A at *;generalize max 0 (k+n / 7 % 13 - 4)=M at *;simp[h,m]
section
variable{α:Type}{xs:List α}{σ:Sto}{fi:Ev->M Bool}{fe:Ev->M D}
theorem yav{nx:Src}{yms:Ev}(f:α->D)(p:α->Bool)(y:α->D)(hnx:∀ i j,nx.nx i (σ++j)=some ((xs.map f)[i]?))(step:∀ x∈xs,∀ j,fi (some (f x)::yms) (σ++j)=.ok (p x) (σ++j)/\(p x=true->fe (some (f x)::yms) (σ++j)=.ok (y x) (σ++j)))(hl:xs.length<=1000) :
  ∀ (k i:Nat) (o:Option D) (ys:List D),xs.length<k+i->i<=xs.length->ys.length<=i->
   yau nx σ.length (tgN 0) fi fe k i (o::yms) (σ++[.lst ys])=.ok () (σ++[.lst (ys++((xs.drop i).filter p).map y)]):=by
 intro k;induction k with
 |zero=>intro i o ys h1 h2;omega
 |succ k ih=>
  intro i o ys h1 h2 hy;unfold yau;rw[hnx,List.getElem?_map];cases e:xs[i]? with
  |none=>
   have hi:xs.length<=i:=List.getElem?_eq_none_iff.mp e;rw[List.drop_eq_nil_of_le hi];simp
  |some d=>
   obtain⟨hi,ed⟩:=List.getElem?_eq_some_iff.mp e;have hd:xs.drop i=d::xs.drop (i+1):=by rw[<-ed];exact List.drop_eq_getElem_cons hi
   obtain⟨s1,s2⟩:=step d (by rw[<-ed];exact List.getElem_mem hi) [.lst ys];show bnd (nox (fi (some (f d)::yms))) _ _=_;rw[zxq,ya8 s1,zqh];dsimp only[List.set];by_cases hp:p d=true
   ·rw[hp,if_pos rfl,zxq,ya8 (s2 hp),zqh,zxq,zfe (by omega),zqh,ih (i+1) (some (f d)) (ys++[y d]) (by omega) (by omega) (by simp;omega),hd,List.filter_cons,if_pos hp];simp
   ·rw[if_neg hp,ih (i+1) (some (f d)) ys (by omega) (by omega) (by omega),hd,List.filter_cons,if_neg hp]
theorem lcS{nx:Src}{ρ:Ev}{ix:List Nat}{src:Ev->M Src}(f:α->D)(p:α->Bool)(y:α->D)(hs:src ρ σ=.ok nx σ)(hnx:∀ i j,nx.nx i (σ++j)=some ((xs.map f)[i]?))(hl:xs.length<=1000)
  (step:∀ x∈xs,∀ j,fi (some (f x)::(ix.map fun i=>(ρ[i]?).getD none)) (σ++j)=.ok (p x) (σ++j)/\(p x=true->fe (some (f x)::(ix.map fun i=>(ρ[i]?).getD none)) (σ++j)=.ok (y x) (σ++j))) (hc:∀ x∈xs,cl (y x)=true) :
  ykp (eLC src ix (tgN 0) fi fe) ρ σ=.ok (.lst ((xs.filter p).map y)) σ:=by
 show yk2 σ (eLC src ix (tgN 0) fi fe ρ σ)=_;have e:eLC src ix (tgN 0) fi fe ρ σ=.ok (.ref σ.length) (σ++[.lst ((xs.filter p).map y)]):=by
  show bnd (src ρ) (lcK (tgN 0) fi fe (yem ix ρ)) σ=_;rw[zxq,hs,zqh];show bnd (yau nx σ.length (tgN 0) fi fe 1001 0 (none::(ix.map fun i=>(ρ[i]?).getD none))) _ (σ++[.lst []])=_;rw[zxq,yav f p y hnx step hl 1001 0 none [] (by omega) (by omega) (by simp),zqh];simp
 rw[e,zse (yew p y hc)]
end
structure Tk(ts:List Ti):Prop where
 nd:(ts.map (·.w)).Nodup
 len:ts.length<=6
 wb:∀ u∈ts,0<=u.w/\u.w<=6
noncomputable abbrev sdB:Ev->M Fl:=(ym5 (ym6 6 (eFn 2 f__law_mixed [] (yeg (yko ylw (ykv 0) (eC (.int 4))) (yeg (ykv 5) yj3))))
 (ym5 (ym6 7 (yko yl4 (ykv 6) (yko oIx (eLv (yeg (eC (.int 4)) (yeg (eC (.int 7)) yj3))) (ye6 yg5 (yeg (ykv 4) yj3)))))
 (sIf (yj8 (eT (yko oLt (ye6 yl3 (yeg (ykv 3) yj3)) (eC (.int 6)))) (eT (yko oEq (ykp (eLC (ynf (ykv 3)) [7] (tgN 0) (eT (yko oEq (yko oIx (ykv 0) (eC (.int 2))) (ykv 1))) (ykv 0))) (eLv yj3)))) (ymz (ye9 zt3 (ykv 3) (yeg (eFn 3 f__law_tie [] (yeg (yko ylw (ykv 6) (eC (.int 4))) (yeg (ykv 7) (yeg (ykv 2) yj3)))) yj3))) ym2)))
theorem zyw(zs:List D)(σ:Sto):oEq (.lst zs) (.lst []) σ=.ok (.bl zs.isEmpty) σ:=by
 refine ybb ?_;show eqL (eqD σ 7) zs []=_;cases zs<;>simp[eqL]
theorem yaa(b:Bool)(σ:Sto):yg5 [.bl b] σ=.ok (.int (if b then 1 else 0)) σ:=by cases b<;>rfl
def sdW(c:Int)(many:Bool)(i:Nat):Int:=ylq (c / 4) i % (if many then 7 else 4)
def sdT(c k:Int)(many:Bool)(ts:List Ti)(i:Nat):List Ti:=if decide ((ts.length:Int)<6) && ((ts.filter fun u=>u.w == sdW c many i).map Ti.D).isEmpty then ts++[ynx (ylq (c / 4) i / 4) (sdW c many i) k]else ts
theorem yid(c:Int)(many:Bool)(i:Nat):0<=sdW c many i/\sdW c many i<=6:=by
 unfold sdW;cases many<;>simp<;>omega
theorem yc4(c k:Int)(many:Bool){ts:List Ti}(h:Tk ts)(i:Nat):Tk (sdT c k many ts i):=by
 unfold sdT;split
 ·next hb=>
  rw[Bool.and_eq_true,decide_eq_true_eq]at hb;have hno:sdW c many i ∉ ts.map (·.w):=fun z=>by
   obtain⟨u,hu,e⟩:=List.mem_map.mp z;have hm:u∈ts.filter fun u=>u.w == sdW c many i:=List.mem_filter.mpr ⟨hu,by simpa using e⟩;have he:=hb.2;rw[List.isEmpty_iff,List.map_eq_nil_iff]at he;rw[he]at hm;cases hm
  refine⟨?_,?_,?_⟩
  ·rw[List.map_append,List.nodup_append];refine⟨h.nd,by simp,fun a ha b hb2 e=>?_⟩;simp at hb2;exact hno (by rw[show sdW c many i=a by rw[e,hb2];rfl];exact ha)
  ·have:=hb.1;simp;omega
  ·intro u hu;rcases List.mem_append.mp hu with z|z
   ·exact h.wb u z
   ·simp at z;subst z;exact yid c many i
 ·exact h
theorem zv4(c n k:Int)(many:Bool)(i:Nat)(hi:i<=8)(ts:List Ti)(h:Tk ts)(x6 x7:Option D)(σ:Sto):∃ y6 y7,
  sdB [some (.int c),some (.int n),some (.int k),some (.ref σ.length),some (.bl many),some (.int i),x6,x7] (σ++[.lst (ts.map Ti.D)])=.ok (.nx [some (.int c),some (.int n),some (.int k),some (.ref σ.length),some (.bl many),some (.int i),y6,y7]) (σ++[.lst ((sdT c k many ts i).map Ti.D)]):=by
 have mx:=fun σ=>ya4 (c / 4) i (by omega) σ;have pq:∀ σ,oIx (.lst [.int 4,.int 7]) (.int (if many then 1 else 0)) σ=.ok (.int (if many then 7 else 4)) σ:=fun σ=>by
  cases many with
  |false=>exact zt9 (show atI _ ((0:Nat):Int)=_ from zp9 rfl)
  |true=>exact zt9 (show atI _ ((1:Nat):Int)=_ from zp9 rfl)
 have om:∀ σ,yl4 (.int (ylq (c / 4) i)) (.int (if many then 7 else 4)) σ=.ok (.int (sdW c many i)) σ:=fun σ=>zud _ _ (by cases many<;>simp);unfold sdT;generalize ylq (c / 4) i=M at *;generalize sdW c many i=W at *;have ls:ygj (σ++[Ob.lst (ts.map Ti.D)]) σ.length=some (ts.map Ti.D):=by unfold ygj;simp
 have ln:yl3 [.ref σ.length] (σ++[.lst (ts.map Ti.D)])=.ok (.int ts.length) (σ++[.lst (ts.map Ti.D)]):=by
  have:yif (σ++[Ob.lst (ts.map Ti.D)]) (.ref σ.length)=some (ts.map Ti.D):=ls;unfold yl3;simp only[this];simp
 have l:=lcS (xs:=ts) (ix:=[7]) (nx:=.lref σ.length) (ρ:=[some (.int c),some (.int n),some (.int k),some (.ref σ.length),some (.bl many),some (.int i),some (.int M),some (.int W)]) (σ:=σ++[.lst (ts.map Ti.D)]) (src:=ynf (ykv 3)) (fi:=eT (yko oEq (yko oIx (ykv 0) (eC (.int 2))) (ykv 1))) (fe:=ykv 0) Ti.D (fun u=>u.w == W) Ti.D (by
   rw[zwz,show ykv 3 [some (.int c),some (.int n),some (.int k),some (.ref σ.length),some (.bl many),some (.int i),some (.int M),some (.int W)] (σ++[.lst (ts.map Ti.D)])=.ok (.ref σ.length) (σ++[.lst (ts.map Ti.D)])from rfl,zqh];have e:(σ++[Ob.lst (ts.map Ti.D)])[σ.length]?=some (.lst (ts.map Ti.D)):=by simp
   unfold yie;simp only[ls]) (fun i j=>by
   show (ygj _ σ.length).map _=_;have:ygj (σ++[Ob.lst (ts.map Ti.D)]++j) σ.length=some (ts.map Ti.D):=by unfold ygj;simp
   rw[this];rfl) (by have:=h.len;omega) (fun u _ j=>by
   have i2:=fun σ=>u.i2 σ;generalize u.D=UD at *;exact⟨by simp[i2],fun _=>by simp⟩) (fun _ _=>by simp)
 have en:=fun σ=>zyw ((ts.filter fun u=>u.w == W).map Ti.D) σ;have ti:=fun σ=>ydp (M / 4) W k σ;have ap:=zfe (σ:=σ) (xs:=ts.map Ti.D) (d:=(ynx (M / 4) W k).D) (by have:=h.len;simp;omega);generalize hQ:(if many then (7:Int)else 4)=Q at *;unfold sdB;cases hb:decide ((ts.length:Int)<6)with
 |false=>
  rw[Bool.false_and,if_neg Bool.false_ne_true];refine⟨some (.int M),some (.int W),?_⟩;generalize (σ++[Ob.lst (ts.map Ti.D)])=σ1 at *;generalize (ts.length:Int)=N1 at *;generalize (i:Int)=I at *;simp[mx,yaa,pq,om,ln,hb]
 |true=>
  rw[Bool.true_and];cases he:((ts.filter fun u=>u.w == W).map Ti.D).isEmpty with
  |false=>
   rw[he]at en;rw[if_neg Bool.false_ne_true];refine⟨some (.int M),some (.int W),?_⟩;generalize ((ts.filter fun u=>u.w == W).map Ti.D)=FL at *;generalize (σ++[Ob.lst (ts.map Ti.D)])=σ1 at *;generalize (ts.length:Int)=N1 at *;generalize (i:Int)=I at *;simp[mx,yaa,pq,om,ln,hb,l,en,-zrd]
  |true=>
   rw[he]at en;rw[if_pos rfl];refine⟨some (.int M),some (.int W),?_⟩;rw[List.map_append,show [ynx (M / 4) W k].map Ti.D=[(ynx (M / 4) W k).D]from rfl];generalize ((ts.filter fun u=>u.w == W).map Ti.D)=FL at *;generalize (ynx (M / 4) W k).D=TV at *;generalize (ts.length:Int)=N1 at *;generalize (i:Int)=I at *;generalize ts.map Ti.D=TL at *;simp[mx,yaa,pq,om,ln,hb,l,en,ti,ap,-zrd]
def sdL(c k:Int)(many:Bool):Nat->Nat->List Ti->List Ti
 |0,_,ts=>ts
 |m+1,i,ts=>sdL c k many m (i+1) (sdT c k many ts i)
theorem yc3(c k:Int)(many:Bool):∀ (m i:Nat) {ts:List Ti},Tk ts->Tk (sdL c k many m i ts)
 |0,_,_,h=>h
 |m+1,i,_,h=>yc3 c k many m (i+1) (yc4 c k many h i)
theorem zv3(c n k:Int)(many:Bool)(σ:Sto):∀ (m i:Nat) (ts:List Ti) (x5 x6 x7:Option D),i+m<=9->Tk ts->∃ y5 y6 y7,
  ylm (tgN 5) sdB ((List.range' i m).map fun(k:Nat)=>D.int k) [some (.int c),some (.int n),some (.int k),some (.ref σ.length),some (.bl many),x5,x6,x7] (σ++[.lst (ts.map Ti.D)])=.ok (.nx [some (.int c),some (.int n),some (.int k),some (.ref σ.length),some (.bl many),y5,y6,y7]) (σ++[.lst ((sdL c k many m i ts).map Ti.D)]):=by
 intro m;induction m with
 |zero=>intro i ts x5 x6 x7 _ _;exact⟨x5,x6,x7,by simp[sdL]⟩
 |succ m ih=>
  intro i ts x5 x6 x7 hi h;obtain⟨y6,y7,st⟩:=zv4 c n k many i (by omega) ts h x6 x7 σ;obtain⟨z5,z6,z7,e⟩:=ih (i+1) (sdT c k many ts i) (some (.int i)) y6 y7 (by omega) (yc4 c k many h i);refine⟨z5,z6,z7,?_⟩;rw[List.range'_succ,List.map_cons,zm0];simp only[List.set_cons_succ,List.set_cons_zero];rw[st,zqh,zmy,e];rfl
def sdN(c:Int):Nat:=if c / 4 % 8 == 3 then 8 else (c % 4).toNat
def stV(c n k:Int):St:=⟨n,ylq (c / 4) 9 % 3 * (ylq (c / 4) 9 / 3 % 1000000000000),ylq (c / 4) 9 / 7 % 1000000000000,sdL c k (c / 4 % 8 == 3) (sdN c) 0 []⟩
theorem ydh(c n k:Int):(stV c n k).Ok:=by
 have:=yc3 c k (c / 4 % 8 == 3) (sdN c) 0 (ts:=[]) ⟨by simp,by simp,fun _ h=>by cases h⟩;exact⟨this.nd,this.len,this.wb⟩
theorem zo8(c n k:Int)(σ:Sto):f__law_stand [.int c,.int n,.int k] σ=.ok (stV c n k).D σ:=by
 have hN:sdN c<=8:=by unfold sdN;split<;>omega
 obtain⟨y5,y6,y7,e⟩:=zv3 c n k (c / 4 % 8 == 3) σ (sdN c) 0 [] none none none (by omega) ⟨by simp,by simp,fun _ h=>by cases h⟩;rw[<-zja,show (([]:List Ti).map Ti.D)=[]from rfl]at e;have rk:=fun σ=>ymv (sdN c) (by omega) σ;have ps:∀ σ,oIx (.lst [.int (c % 4),.int 8]) (.int (if (c / 4 % 8 == 3)then 1 else 0)) σ=.ok (.int (sdN c)) σ:=fun σ=>by
  unfold sdN;cases hb:(c / 4 % 8 == 3)with
  |false=>
   have:(((if false=true then 8 else (c % 4).toNat:Nat)):Int)=c % 4:=by simp;omega
   rw[this];exact zt9 (show atI _ ((0:Nat):Int)=_ from zp9 rfl)
  |true=>exact zt9 (show atI _ ((1:Nat):Int)=_ from zp9 rfl)
 have mx:∀ σ,f__law_mixed [.int (c / 4),.int 9] σ=.ok (.int (ylq (c / 4) 9)) σ:=fun σ=>ya4 (c / 4) 9 (by omega) σ;have p:=p12;have om:∀ z σ,yl4 (.int z) (.int 1000000000000) σ=.ok (.int (z % 1000000000000)) σ:=fun z σ=>zud z _ (by decide);have hM:=ztr (c / 4) 9;have mu:∀ y σ,yl5 (.int (ylq (c / 4) 9 % 3)) (.int y) σ=.ok (.int (ylq (c / 4) 9 % 3 * y)) σ:=fun y σ=>ybd (by omega) (by omega);have tu:ybg [.ref σ.length] (σ++[.lst ((sdL c k (c / 4 % 8 == 3) (sdN c) 0 []).map Ti.D)])=.ok (.tup ((sdL c k (c / 4 % 8 == 3) (sdN c) 0 []).map Ti.D)) (σ++[.lst ((sdL c k (c / 4 % 8 == 3) (sdN c) 0 []).map Ti.D)]):=by
  have:yif (σ++[Ob.lst ((sdL c k (c / 4 % 8 == 3) (sdN c) 0 []).map Ti.D)]) (.ref σ.length)=some ((sdL c k (c / 4 % 8 == 3) (sdN c) 0 []).map Ti.D):=by show ygj _ _=_;unfold ygj;simp
  unfold ybg;simp only[this]
 have hcl:clL ((sdL c k (c / 4 % 8 == 3) (sdN c) 0 []).map Ti.D)=true:=by simp
 unfold sdB at e;unfold f__law_stand zdj stV St.D;dsimp only;generalize hb:(c / 4 % 8 == 3)=b at *;generalize (sdL c k b (sdN c) 0 []).map Ti.D=TL at *;generalize ylq (c / 4) 9=MX at *;generalize ycs (sdN c)=RG at *;generalize ((sdN c:Nat):Int)=N at *;have fz:∀ d,cl d=true->yk2 σ (.ok d (σ++[.lst TL]))=.ok d σ:=fun d h=>zlu h;simp[yaa,ps,rk,e,mx,p,om,mu,tu,hb,fz,hcl]
def ptL(c k:Int)(i m:Nat):List St:=(List.range' i m).map fun(j:Nat)=>stV (c / (4+7 * (j:Int))+77) (4+(j:Int)) k
noncomputable abbrev poB:Ev->M Fl:=(ymz (ye9 zt3 (ykv 3) (yeg (eFn 3 f__law_stand [] (yeg (yko yls (yko ylw (ykv 0) (yko yls (eC (.int 4)) (yko yl5 (eC (.int 7)) (ykv 4)))) (eC (.int 77))) (yeg (yko yls (eC (.int 4)) (ykv 4)) (yeg (ykv 1) yj3)))) yj3)))
theorem zu1(c k kp:Int)(x2 x5 x6 x7:Option D)(σ:Sto):∀ (m i:Nat) (ys:List St) (x4:Option D),i+m<=20->ys.length<=i+1->∃ y4,
  ylm (tgN 4) poB ((List.range' i m).map fun(k:Nat)=>D.int k) [some (.int c),some (.int k),x2,some (.ref σ.length),x4,x5,x6,x7] (σ++[.lst (ys.map St.D)])=.ok (.nx [some (.int c),some (.int k),x2,some (.ref σ.length),y4,x5,x6,x7]) (σ++[.lst ((ys++ptL c k i m).map St.D)]):=by
 intro m;induction m with
 |zero=>intro i ys x4 _ _;exact⟨x4,by simp[ptL]⟩
 |succ m ih=>
  intro i ys x4 hi hy;have ml:∀ σ,yl5 (.int 7) (.int (i:Int)) σ=.ok (.int (7 * (i:Int))) σ:=fun σ=>ybd (by omega) (by omega);have dv:∀ σ,ylw (.int c) (.int (4+7 * (i:Int))) σ=.ok (.int (c / (4+7 * (i:Int)))) σ:=fun σ=>zt4 c _ (by omega) (by omega);have sa:=fun σ=>zo8 (c / (4+7 * (i:Int))+77) (4+(i:Int)) k σ;have ap:=zfe (σ:=σ) (xs:=ys.map St.D) (d:=(stV (c / (4+7 * (i:Int))+77) (4+(i:Int)) k).D) (by simp;omega);obtain⟨y4,e⟩:=ih (i+1) (ys++[stV (c / (4+7 * (i:Int))+77) (4+(i:Int)) k]) (some (.int i)) (by omega) (by simp;omega);refine⟨y4,?_⟩;have st:poB [some (.int c),some (.int k),x2,some (.ref σ.length),some (.int i),x5,x6,x7] (σ++[.lst (ys.map St.D)])=.ok (.nx [some (.int c),some (.int k),x2,some (.ref σ.length),some (.int i),x5,x6,x7]) (σ++[.lst ((ys++[stV (c / (4+7 * (i:Int))+77) (4+(i:Int)) k]).map St.D)]):=by
   rw[List.map_append,show [stV (c / (4+7 * (i:Int))+77) (4+(i:Int)) k].map St.D=[(stV (c / (4+7 * (i:Int))+77) (4+(i:Int)) k).D]from rfl];unfold poB;generalize (stV (c / (4+7 * (i:Int))+77) (4+(i:Int)) k).D=SV at *;generalize (i:Int)=I at *;generalize ys.map St.D=YL at *;simp[ml,dv,sa,ap]
  rw[List.range'_succ,List.map_cons,zm0];simp only[List.set_cons_succ,List.set_cons_zero];rw[st,zqh,zmy,e];unfold ptL;rw[List.range'_succ];simp
def snT(P k:Int)(l:List (Int × Int))(i:Nat):List (Int × Int):=if P / (1+11 * (i:Int)) % 5 == 0 then ymg l i (max 0 (k - P / 3 % 6))else l
def snL(P k:Int):Nat->Nat->List (Int × Int)->List (Int × Int)
 |0,_,l=>l
 |m+1,i,l=>snL P k m (i+1) (snT P k l i)
noncomputable abbrev snB:Ev->M Fl:=(sIf (eT (yko oEq (yko yl4 (yko ylw (ykv 6) (yko yls (eC (.int 1)) (yko yl5 (eC (.int 11)) (ykv 7)))) (eC (.int 5))) (eC (.int 0)))) (yia (ye6 yg8 (yeg (eC (.int 0)) (yeg (yko yma (ykv 1) (yko yl4 (yko ylw (ykv 6) (eC (.int 3))) (eC (.int 6)))) yj3))) (ykv 5) (ykv 7)) ym2)
theorem zwh(P k:Int)(x0 x2 x3 x4:Option D)(σ:Sto):∀ (m i:Nat) (l:List (Int × Int)) (x7:Option D),i+m<=20->l.length<=i->∃ y7,
  ylm (tgN 7) snB ((List.range' i m).map fun(k:Nat)=>D.int k) [x0,some (.int k),x2,x3,x4,some (.ref σ.length),some (.int P),x7] (σ++[.dic (kvI l)])=.ok (.nx [x0,some (.int k),x2,x3,x4,some (.ref σ.length),some (.int P),y7]) (σ++[.dic (kvI (snL P k m i l))]):=by
 intro m;induction m with
 |zero=>intro i l x7 _ _;exact⟨x7,by simp[snL]⟩
 |succ m ih=>
  intro i l x7 hi hl;have ml:∀ σ,yl5 (.int 11) (.int (i:Int)) σ=.ok (.int (11 * (i:Int))) σ:=fun σ=>ybd (by omega) (by omega);have dv:∀ σ,ylw (.int P) (.int (1+11 * (i:Int))) σ=.ok (.int (P / (1+11 * (i:Int)))) σ:=fun σ=>zt4 P _ (by omega) (by omega);have hsl:(snT P k l i).length<=i+1:=by
   unfold snT;split
   ·have:=zn2 l i (max 0 (k - P / 3 % 6));omega
   ·omega
  obtain⟨y7,e⟩:=ih (i+1) (snT P k l i) (some (.int i)) (by omega) (by omega);refine⟨y7,?_⟩;have st:snB [x0,some (.int k),x2,x3,x4,some (.ref σ.length),some (.int P),some (.int i)] (σ++[.dic (kvI l)])=.ok (.nx [x0,some (.int k),x2,x3,x4,some (.ref σ.length),some (.int P),some (.int i)]) (σ++[.dic (kvI (snT P k l i))]):=by
   have sd:=fun ρ=>zoo (σ:=σ) (kvs:=kvI l) (i:Int) (.int (max 0 (k - P / 3 % 6))) (by unfold kvI;simp;omega) ρ;rw[zi8]at sd;have mm:=fun σ=>ylp 0 (k - P / 3 % 6) σ;unfold snB snT;cases hb:(P / (1+11 * (i:Int)) % 5 == 0)with
   |false=>
    rw[if_neg Bool.false_ne_true];generalize (σ++[Ob.dic (kvI l)])=σ1 at *;generalize (i:Int)=I at *;simp[ml,dv,hb]
   |true=>
    rw[if_pos rfl];generalize (σ++[Ob.dic (kvI (ymg l (i:Int) (max 0 (k - P / 3 % 6))))])=σ2 at *;generalize (σ++[Ob.dic (kvI l)])=σ1 at *;generalize max 0 (k - P / 3 % 6)=MV at *;generalize (i:Int)=I at *;generalize σ.length=N0 at *;simp[ml,dv,hb,mm,sd]
  rw[List.range'_succ,List.map_cons,zm0];simp only[List.set_cons_succ,List.set_cons_zero];rw[st,zqh,zmy,e];rfl
theorem zsf{σ:Sto}{a:D}{zs:List D}{l:List (Int × Int)}(ha:cl a=true)(hz:clL zs=true):yk2 σ (.ok (.tup [a,.ref σ.length,.ref (σ.length+1)]) (σ++[.lst zs]++[.dic (kvI l)]))=.ok (.tup [a,.lst zs,shD l]) σ:=by
 have e0:(σ++[Ob.lst zs]++[Ob.dic (kvI l)])[σ.length]?=some (.lst zs):=by simp
 have e1:(σ++[Ob.lst zs]++[Ob.dic (kvI l)])[σ.length+1]?=some (.dic (kvI l)):=by
  rw[List.getElem?_append_right (by simp)];simp
 have hzL:∀ (k m:Nat) (σ':Sto) (xs:List D),clL xs=true->fzL (fz k σ' m) xs=some xs:=by
  intro k m σ' xs;induction xs with
  |nil=>intro _;rfl
  |cons x xs ih=>
   intro hc;have hc':cl x=true/\clL xs=true:=by simpa [clL,Bool.and_eq_true]using hc
   unfold fzL;rw[yfx hc'.1,ih hc'.2]
 have hl2:clL ((kvI l).map (·.2))=true:=by unfold kvI;rw[List.map_map];exact zqt fun _=>by simp
 have r0:fz σ.length (σ++[Ob.lst zs]++[Ob.dic (kvI l)]) 5 (.ref σ.length)=some (.lst zs):=by
  unfold fz;rw[if_neg (by simp[cl])];dsimp only;rw[if_neg (Nat.lt_irrefl _),e0];dsimp only;rw[hzL _ _ _ _ hz];rfl
 have r1:fz σ.length (σ++[Ob.lst zs]++[Ob.dic (kvI l)]) 5 (.ref (σ.length+1))=some (shD l):=by
  unfold fz;rw[if_neg (by simp[cl])];dsimp only;rw[if_neg (by omega),e1];dsimp only;rw[hzL _ _ _ _ hl2];unfold shD kvI;rw[List.map_map,List.map_map];rfl
 have ht:fz σ.length (σ++[Ob.lst zs]++[Ob.dic (kvI l)]) 6 (.tup [a,.ref σ.length,.ref (σ.length+1)])=some (.tup [a,.lst zs,shD l]):=by
  unfold fz;rw[if_neg (by simp[cl,clL,ha])];dsimp only;unfold fzL;rw[yfx ha];unfold fzL;rw[r0];unfold fzL;rw[r1];rfl
 unfold yk2;dsimp only;rw[if_pos (by simp),ht]
def poN(c kp:Int):Nat:=(if c % 4 == 1 then 1 else if c % 4 == 3 then 2 else 0)+7 * (if (kp == 0) && (c / 4 % 16 == 5)then 1 else 0)
def yme(c k kp:Int):Po:=⟨ylq c 5 % 2,stV (c / 4) 3 k::ptL c k 0 (poN c kp),snL (ylq c 5) k 7 0 []⟩
theorem ycf(c k kp:Int)(σ:Sto):f__law_pot [.int c,.int k,.int kp] σ=.ok (yme c k kp).D σ:=by
 have hN:poN c kp<=9:=by unfold poN;split<;>split<;>(try split)<;>omega
 have s0:=fun σ=>zo8 (c / 4) 3 k σ;obtain⟨y4,e1⟩:=zu1 c k kp (some (.int kp)) none none none σ (poN c kp) 0 [stV (c / 4) 3 k] none (by omega) (by simp);rw[<-zja,show [stV (c / 4) 3 k].map St.D=[(stV (c / 4) 3 k).D]from rfl,show [stV (c / 4) 3 k]++ptL c k 0 (poN c kp)=stV (c / 4) 3 k::ptL c k 0 (poN c kp)from rfl]at e1;obtain⟨y7,e2⟩:=zwh (ylq c 5) k (some (.int c)) (some (.int kp)) (some (.ref σ.length)) y4 (σ++[.lst ((stV (c / 4) 3 k::ptL c k 0 (poN c kp)).map St.D)]) 7 0 [] none (by omega) (by simp);rw[<-zja,show kvI []=[]from rfl]at e2;have hlen:(σ++[Ob.lst ((stV (c / 4) 3 k::ptL c k 0 (poN c kp)).map St.D)]).length=σ.length+1:=by simp
 rw[hlen]at e2;have rk:=fun σ=>ymv (poN c kp) (by omega) σ;have rk7:=fun σ=>ymv 7 (by omega) σ;have mx:∀ σ,f__law_mixed [.int c,.int 5] σ=.ok (.int (ylq c 5)) σ:=fun σ=>ya4 c 5 (by omega) σ;have p4:∀ σ,oIx (.lst [.int 0,.int 1,.int 0,.int 2]) (.int (c % 4)) σ=.ok (.int (if c % 4 == 1 then 1 else if c % 4 == 3 then 2 else 0)) σ:=fun σ=>by
  have h:c % 4=0\/c % 4=1\/c % 4=2\/c % 4=3:=by omega
  rcases h with h|h|h|h<;>rw[h]
  ·exact zt9 (show atI _ ((0:Nat):Int)=_ from zp9 rfl)
  ·exact zt9 (show atI _ ((1:Nat):Int)=_ from zp9 rfl)
  ·exact zt9 (show atI _ ((2:Nat):Int)=_ from zp9 rfl)
  ·exact zt9 (show atI _ ((3:Nat):Int)=_ from zp9 rfl)
 have pn:(if c % 4 == 1 then (1:Int)else if c % 4 == 3 then 2 else 0)+7 * (if ((kp == 0) && (c / 4 % 16 == 5))=true then (1:Int)else 0)=(poN c kp:Int):=by
  unfold poN;split<;>split<;>(try split)<;>simp
 have m7:∀ b:Bool,∀ σ,yl5 (.int 7) (.int (if b then 1 else 0)) σ=.ok (.int (7 * (if b then 1 else 0))) σ:=fun b σ=>ybd (by omega) (by omega);have an:∀ (x y:Bool),True:=fun _ _=>trivial;have hcl:clL ((stV (c / 4) 3 k::ptL c k 0 (poN c kp)).map St.D)=true:=zqt fun _=>by simp
 have fz:=zsf (σ:=σ) (a:=.int (ylq c 5 % 2)) (zs:=(stV (c / 4) 3 k::ptL c k 0 (poN c kp)).map St.D) (l:=snL (ylq c 5) k 7 0 []) (by simp) hcl;unfold poB at e1;unfold snB at e2;unfold f__law_pot zfp yme Po.D;dsimp only;generalize (stV (c / 4) 3 k::ptL c k 0 (poN c kp)).map St.D=SL at *;generalize (stV (c / 4) 3 k).D=S0 at *;generalize kvI (snL (ylq c 5) k 7 0 [])=KV at *;generalize shD (snL (ylq c 5) k 7 0 [])=SN at *;generalize ylq c 5=MX at *;generalize ycs (poN c kp)=RG at *;generalize ycs 7=RG7 at *;generalize (if c % 4 == 1 then (1:Int)else if c % 4 == 3 then 2 else 0)=Q4 at *;generalize ((poN c kp:Nat):Int)=N at *;have rk7':∀ σ,ymu (.int 7) σ=.ok (.seq RG7) σ:=rk7;generalize hb1:(kp == 0)=b1 at *;generalize hb2:(c / 4 % 16 == 5)=b2 at *;have m70:∀ σ,yl5 (.int 7) (.int 0) σ=.ok (.int (7 * 0)) σ:=fun σ=>ybd (by omega) (by omega);have m71:∀ σ,yl5 (.int 7) (.int 1) σ=.ok (.int (7 * 1)) σ:=fun σ=>ybd (by omega) (by omega);simp only[List.append_assoc,List.cons_append,List.nil_append]at e2 fz;have lk:ylo [S0] σ=.ok (.ref σ.length) (σ++[.lst [S0]]):=rfl;cases b1<;>cases b2<;>simp at pn<;>simp[lk,s0,p4,hb1,hb2,yac,yab,m70,m71,pn,rk,e1,mx,rk7',e2,fz]
theorem zu4(c k kp:Int):((yme c k kp).s=0\/(yme c k kp).s=1)/\(∀ t∈(yme c k kp).st,t.Ok)/\1<=(yme c k kp).st.length/\(yme c k kp).st.length<=20:=by
 have hN:poN c kp<=9:=by unfold poN;split<;>split<;>(try split)<;>omega
 refine⟨?_,?_,?_,?_⟩
 ·show ylq c 5 % 2=0\/ylq c 5 % 2=1;omega
 ·intro t ht;rcases List.mem_cons.mp ht with rfl|h
  ·exact ydh ..
  ·unfold ptL at h;obtain⟨j,_,rfl⟩:=List.mem_map.mp h;exact ydh ..
 ·show 1<=(_::_:List St).length;simp
 ·show (_::ptL c k 0 (poN c kp):List St).length<=20;unfold ptL;simp;omega
def vwV(ns:List Int):Vw:=⟨1+yes ns 0 % 6,4+yes ns 0 / 6 % 60,((List.range 7).filter fun k=>ylq (yes ns 1) k % 3 == 0).map fun(k:Nat)=>(k:Int),(List.range (yes ns 1 % 4).toNat).map fun(k:Nat)=>yme (yes ns (2+k)) (4+yes ns 0 / 6 % 60) k⟩
theorem ydy(ns:List Int):(vwV ns).Ok:=by
 refine⟨?_,?_,?_,?_⟩
 ·show ((List.range (yes ns 1 % 4).toNat).map _).length<=3;simp;omega
 all_goals
  intro p hp;obtain⟨j,_,rfl⟩:=List.mem_map.mp hp
 ·exact(zu4 ..).1
 ·exact(zu4 ..).2.1
 ·exact(zu4 ..).2.2
theorem zxc(ns:List Int)(σ:Sto):f__law_view [.scr ns] σ=.ok (vwV ns).D σ:=by
 have c0:∀ σ,f__law_cell_at [.scr ns,.int 0] σ=.ok (.int (yes ns 0)) σ:=fun σ=>zqp ns 0 (by omega) σ;have c1:∀ σ,f__law_cell_at [.scr ns,.int 1] σ=.ok (.int (yes ns 1)) σ:=fun σ=>zqp ns 1 (by omega) σ;have r7:∀ σ,ymu (.int 7) σ=.ok (.seq (ycs 7)) σ:=fun σ=>ymv 7 (by omega) σ;have l1:=fun x1 x2=>lcA (xs:=List.range 7) (ix:=[0]) (ρ:=[some (.scr ns),some x1,some x2,none,none]) (σ:=σ) (src:=yne (eC (.int 7))) (fi:=eT (yko oEq (yko yl4 (eFn 2 f__law_mixed [] (yeg (eFn 2 f__law_cell_at [] (yeg (ykv 1) (yeg (eC (.int 1)) yj3))) (yeg (ykv 0) yj3))) (eC (.int 3))) (eC (.int 0)))) (fe:=ykv 0)
  (fun(k:Nat)=>D.int (k:Int)) (fun k=>ylq (yes ns 1) k % 3 == 0) (fun(k:Nat)=>D.int (k:Int)) (by simp[r7,ycs]) (by simp) (fun k hk j=>by
   have mx:=fun σ=>ya4 (yes ns 1) k (by have:=List.mem_range.mp hk;omega) σ;generalize ylq (yes ns 1) k=MX at *;generalize (k:Int)=K at *;generalize σ++j=σ1;exact⟨by simp[c1,mx],fun _=>by simp⟩) (fun _ _=>by simp)
 have hr:((yes ns 1 % 4).toNat:Int)=yes ns 1 % 4:=by omega
 have rn:∀ σ,ymu (.int (yes ns 1 % 4)) σ=.ok (.seq (ycs (yes ns 1 % 4).toNat)) σ:=fun σ=>by
  have:=ymv (yes ns 1 % 4).toNat (by omega) σ
  rwa [hr]at this
 have l2:=fun x1 x3=>ylk (xs:=List.range (yes ns 1 % 4).toNat) (ix:=[2,0]) (ρ:=[some (.scr ns),some x1,some (.int (4+yes ns 0 / 6 % 60)),some x3,none]) (σ:=σ) (src:=yne (yko yl4 (eFn 2 f__law_cell_at [] (yeg (ykv 0) (yeg (eC (.int 1)) yj3))) (eC (.int 4)))) (fe:=eFn 3 f__law_pot [] (yeg (eFn 2 f__law_cell_at [] (yeg (ykv 2) (yeg (yko yls (eC (.int 2)) (ykv 0)) yj3))) (yeg (ykv 1) (yeg (ykv 0) yj3))))
  (fun(k:Nat)=>D.int (k:Int)) (fun(k:Nat)=>(yme (yes ns (2+k)) (4+yes ns 0 / 6 % 60) k).D) (by simp[c1,rn,ycs]) (by simp;omega) (fun k hk j=>by
   have ck:∀ σ,f__law_cell_at [.scr ns,.int (2+(k:Int))] σ=.ok (.int (yes ns (2+k))) σ:=fun σ=>by
    have:=zqp ns (2+(k:Int)) (by omega) σ
    rwa [show (2+(k:Int)).toNat=2+k by omega]at this
   have pk:=fun σ=>ycf (yes ns (2+k)) (4+yes ns 0 / 6 % 60) k σ;generalize (yme (yes ns (2+k)) (4+yes ns 0 / 6 % 60) k).D=PD at *;generalize yes ns (2+k)=CK at *;generalize (k:Int)=K at *;generalize 4+yes ns 0 / 6 % 60=V4 at *;generalize σ++j=σ1;simp[ck,pk]) (fun _ _=>by simp)
 have e1:(vwV ns).ws.map D.int=((List.range 7).filter fun k=>ylq (yes ns 1) k % 3 == 0).map fun(k:Nat)=>D.int (k:Int):=by
  unfold vwV;rw[List.map_map];rfl
 have e2:(vwV ns).ps.map Po.D=(List.range (yes ns 1 % 4).toNat).map fun(k:Nat)=>(yme (yes ns (2+k)) (4+yes ns 0 / 6 % 60) k).D:=by
  unfold vwV;rw[List.map_map];rfl
 have h1:clL ((vwV ns).ws.map D.int)=true:=zqt fun _=>by simp
 have h2:clL ((vwV ns).ps.map Po.D)=true:=zqt fun _=>by simp
 unfold Vw.D;rw[show (vwV ns).e=1+yes ns 0 % 6 from rfl,show (vwV ns).k=4+yes ns 0 / 6 % 60 from rfl];rw[<-e1]at l1;rw[<-e2]at l2;unfold f__law_view zeh;generalize (vwV ns).ws.map D.int=WS at *;generalize (vwV ns).ps.map Po.D=PS at *;generalize yes ns 0=C0 at *;generalize yes ns 1=C1 at *;have fz:∀ d,cl d=true->yk2 σ (.ok d σ)=.ok d σ:=fun d h=>zsd h (List.take_length ..);simp[c0,l1,l2,h1,h2,fz,-zrd]
theorem zps(v:Vw)(h:v.Ok)(σ:Sto):f_View___init__ [.ref σ.length,.int v.e,.int v.k,.lst (v.ws.map D.int),.lst (v.ps.map Po.D)] (σ++[.ins 0 []])=.ok .non (σ++[.ins 0 [("every",.int v.e),("last_look",.int v.k),("known",.lst (v.ws.map D.int)),("pots",.lst (v.ps.map Po.D))]]):=by
 have e:=fun(f:Str) (w:D) (fs:List (Str × D)) (hl:fs.length<1000)=>zi9 (ρ:=[some (.ref σ.length),some (.int v.e),some (.int v.k),some (.lst (v.ws.map D.int)),some (.lst (v.ps.map Po.D))]) (σ:=σ) (cs:=[0]) (f:=f) (d:=w) (c:=0) (fs:=fs) rfl hl;have fl:∀ (xs:List D) (σ:Sto),clL xs=true->yk2 σ (yg7 [.lst xs] σ)=.ok (.lst xs) σ:=fun xs σ h=>by
  rw[show yg7 [.lst xs] σ=.ok (.ref σ.length) (σ++[.lst xs])from nr rfl];exact zse h
 have hw:clL (v.ws.map D.int)=true:=zqt fun _=>by simp
 have l:=fun σ=>ylk (xs:=v.ps) (ix:=[]) (ρ:=[some (.ref σ.length),some (.int v.e),some (.int v.k),some (.lst (v.ws.map D.int)),some (.lst (v.ps.map Po.D))]) (σ:=σ++[.ins 0 [("every",.int v.e),("last_look",.int v.k),("known",.lst (v.ws.map D.int))]]) (src:=ynf (ykv 4)) (fe:=yku (yeg (yko oIx (ykv 0) (eC (.int 0))) (yeg (ykp (ye6 yg7 (yeg (yko oIx (ykv 0) (eC (.int 1))) yj3))) (yeg (ye6 ylv (yeg (yko oIx (ykv 0) (eC (.int 2))) yj3)) yj3))))
  Po.D Po.D (by simp[yie]) (by have:=h.n3;omega) (fun p hp j=>by
   have i0:=fun σ=>p.i0 σ;have i1:=fun σ=>p.i1 σ;have i2:=fun σ=>p.i2 σ;have dc:=fun σ=>zyb p.sn σ;have hs:clL (p.st.map St.D)=true:=zqt fun _=>by simp
   have ed:p.D=.tup [.int p.s,.lst (p.st.map St.D),shD p.sn]:=rfl;have f1:=fun σ=>fl (p.st.map St.D) σ hs;rw[ed];rw[ed]at i0 i1 i2;generalize p.st.map St.D=SL at *;generalize shD p.sn=SN at *;generalize σ++[_]++j=σ1;generalize hT:D.tup [.int p.s,.lst SL,SN]=T at *;simp[i0,i1,i2,dc,f1];exact hT) (fun _ _=>by simp)
 have p1:ymf "every" (.int v.e) ([]:List (Str × D))=([("every",.int v.e)]:List (Str × D)):=rfl;have p2:∀ a b:D,ymf "last_look" b ([("every",a)]:List (Str × D))=([("every",a),("last_look",b)]:List (Str × D)):=fun _ _=>rfl;have p3:∀ a b c:D,ymf "known" c ([("every",a),("last_look",b)]:List (Str × D))=([("every",a),("last_look",b),("known",c)]:List (Str × D)):=fun _ _ _=>rfl;have p4:∀ a b c d:D,ymf "pots" d ([("every",a),("last_look",b),("known",c)]:List (Str × D))=([("every",a),("last_look",b),("known",c),("pots",d)]:List (Str × D)):=fun _ _ _ _=>rfl;unfold f_View___init__ zaw;have l':=l σ;have f2:=fun σ=>fl (v.ws.map D.int) σ hw;generalize v.ps.map Po.D=PS at *;generalize v.ws.map D.int=WS at *;generalize D.int v.e=E at *;generalize D.int v.k=K at *;have g1:∀ ρ σ,ykp (ye6 yg7 (yeg (ykv 3) yj3)) ρ σ=yk2 σ (ye6 yg7 (yeg (ykv 3) yj3) ρ σ):=fun _ _=>rfl;simp[e,p1,p2,p3,p4,f2,l',g1,-zrd]
theorem zpt(v:Vw)(h:v.Ok)(σ:Sto):yk2 σ (ygp 0 5 f_View___init__ [.int v.e,.int v.k,.lst (v.ws.map D.int),.lst (v.ps.map Po.D)] σ)=.ok v.O σ:=by
 have hw:clL (v.ws.map D.int)=true:=zqt fun _=>by simp
 have hp:clL (v.ps.map Po.D)=true:=zqt fun _=>by simp
 rw[zm1 (n:=5) rfl,zps v h,znb,zlv (by simp[hw,hp])];rfl
theorem zw4(v:Vw)(cs:List Int)(F:Fs)(T:Int)(hn:(fks F).Nodup):suB v cs F T =
  (((cs.length:Int) == (v.ps.length:Int) && plB v.ps cs) && (rtB (AT v (chS v.ps (lns v cs 0 v.ps.length))) F && (T == yla (fun c=>if cnt ((yk3 F c.t.w).getD none) v.e c then c.t.a else 0) (AT v (chS v.ps (lns v cs 0 v.ps.length)))+own (chS v.ps (lns v cs 0 v.ps.length))))):=by
 have e0:suB v cs F T=(((cs.length:Int) == (v.ps.length:Int) && plB v.ps cs) && (((F.length:Int) == ((grp (AT v (chS v.ps cs))).length:Int) && (grp (AT v (chS v.ps cs))).all (tfB F)) && (T == frm v (chS v.ps cs)+yk8 F v.e (grp (AT v (chS v.ps cs)))))):=by
  unfold suB;rw[<-Bool.and_assoc]
 rw[e0];cases hb:((cs.length:Int) == (v.ps.length:Int) && plB v.ps cs)with
 |false=>rfl
 |true=>
  rw[Bool.and_eq_true]at hb;have h1:=eq_of_beq hb.1;rw[zmw v cs (by omega) hb.2,zgf _ F hn,zju]
theorem yi9(v:Vw)(hv:v.Ok){cs:List Int}(h:plB v.ps cs=true):∀ t∈AT v (chS v.ps cs),0<=t.t.w/\t.t.w<=6:=by
 intro t ht;unfold AT at ht;obtain⟨q,hq,hm⟩:=List.mem_flatMap.mp ht;obtain⟨u,hu,rfl⟩:=List.mem_map.mp hm;have:=zqr h q hq;exact(hv.ok _ this.1 _ this.2).wb u hu
theorem ydk(v:Vw)(A:List Tc)(hA:A.length<=30)(F:Fs)(x0 x2 x3:Option D):ykp (ykq (ynf (ykv 4)) [1,5] (tgT 2 (ydn (tgN 0) (ydn (tgN 1) yiz))) (eT (eFn 4 f__law_counts [] (yeg (ykv 0) (yeg (ykv 1) (yeg (zym yg3 (ykv 3) (yeg (yko oIx (ykv 1) (eC (.int 2))) yj3)) (yeg (yko oIx (ykv 2) (eC (.int 0))) yj3)))))) (yko oIx (ykv 1) (eC (.int 1))))
  [x0,some v.D,x2,x3,some (.lst (A.map Tc.L)),some (fD F),none,none,none,none,none] []=.ok (.lst (((A.filter fun c=>cnt ((yk3 F c.t.w).getD none) v.e c).map fun c=>c.t.a).map D.int)) []:=by
 rw[List.map_map];refine lcB (xs:=A) (σ:=[]) (fun c=>D.str c.l) (fun c=>c.t.D) (fun c=>cnt ((yk3 F c.t.w).getD none) v.e c) (fun c=>D.int c.t.a) ?_ (by omega) ?_ (fun _ _=>by simp)
 ·rw[zwz];rfl
 ·intro c _ j;have i1:=fun σ=>c.t.i1 σ;have i2:=fun σ=>c.t.i2 σ;have v0:∀ σ,oIx v.D (.int 0) σ=.ok (.int v.e) σ:=fun σ=>by unfold Vw.D;simp
  have g:=fun σ=>zlg F c.t.w σ;have ct:=fun σ=>zhm c ((yk3 F c.t.w).getD none) v.e σ;have me:∀ (fs:M (List D)) σ,ya3 yg3 fs (fD F) σ=(fs σ).bind (yg3 (fD F)):=fun fs σ=>by unfold ya3;rw[zq3];rfl
  generalize oD ((yk3 F c.t.w).getD none)=X at *;generalize cnt ((yk3 F c.t.w).getD none) v.e c=B at *;generalize c.t.D=TD at *;generalize v.D=VD at *;generalize fD F=FD at *;exact⟨by simp[i2,v0,g,ct,me],fun _=>by simp[i1]⟩
theorem law_true(ns:List Int)(hns:ns.length<=63):∃ σ,f_law [.scr ns] []=.ok (.bl true) σ:=by
 have hv:=ydy ns;have e1:=zxc ns [];generalize vwV ns=v at *;have c7:∀ σ,f__law_cell_at [.scr ns,.int 7] σ=.ok (.int (yes ns 7)) σ:=fun σ=>zqp ns 7 (by omega) σ;have c8:∀ σ,f__law_cell_at [.scr ns,.int 8] σ=.ok (.int (yes ns 8)) σ:=fun σ=>zqp ns 8 (by omega) σ;have c9:∀ σ,f__law_cell_at [.scr ns,.int 9] σ=.ok (.int (yes ns 9)) σ:=fun σ=>zqp ns 9 (by omega) σ;obtain⟨cs,hcs,e2⟩:=zhl v hv (yes ns 7) [];have e3:=zfv v hv cs [];have hp:=ya0 v hv cs;have e4:=zw7 v hv _ (ztl v cs) hp [];have e5:=ybx v hv _ (ztl v cs) hp [];have hL:(chS v.ps (lns v cs 0 v.ps.length)).length<=3:=by
  unfold chS;have:=hv.n3;simp;omega
 have hA:=zxf v _ (fun q hq=>hv.ok _ (zqr hp q hq).1 _ (zqr hp q hq).2);obtain⟨F,hn,hF,e6⟩:=zk9 _ (by omega) (yi9 v hv hp) (yes ns 8) [];have e7:=ydk v _ (show (AT v (chS v.ps (lns v cs 0 v.ps.length))).length<=30 by omega) F (some (.scr ns)) (some (.lst (cs.map D.int))) (some (.lst ((lns v cs 0 v.ps.length).map D.int)));have e8:ymb [.lst ((((AT v (chS v.ps (lns v cs 0 v.ps.length))).filter fun c=>cnt ((yk3 F c.t.w).getD none) v.e c).map fun c=>c.t.a).map D.int)] []=.ok (.int (yla (fun c=>if cnt ((yk3 F c.t.w).getD none) v.e c then c.t.a else 0) (AT v (chS v.ps (lns v cs 0 v.ps.length))))) []:=by
  rw[<-zgr];have z:∀ l:List Int,ymb [.lst (l.map D.int)] []=.ok (.int l.sum) []:=fun l=>by simp[ymb]
  exact z _
 have e9:=zod _ (show (AT v (chS v.ps (lns v cs 0 v.ps.length))).length<64 by omega) F (by omega) [];have e10:=zfy v hv.n3 cs [];have e11:=fun T=>yip v hv cs F T [];have es:=fun T=>zw4 v cs F T hn;have e12:=zpt v hv [];have v0:∀ σ,oIx v.D (.int 0) σ=.ok (.int v.e) σ:=fun σ=>by unfold Vw.D;simp
 have v1:∀ σ,oIx v.D (.int 1) σ=.ok (.int v.k) σ:=fun σ=>by unfold Vw.D;simp
 have v2:∀ σ,oIx v.D (.int 2) σ=.ok (.lst (v.ws.map D.int)) σ:=fun σ=>by unfold Vw.D;simp
 have v3:∀ σ,oIx v.D (.int 3) σ=.ok (.lst (v.ps.map Po.D)) σ:=fun σ=>by unfold Vw.D;simp
 have mk:∀ ρ:Ev,ykv 1 ρ []=.ok v.D []->ykp (ye8 0 5 f_View___init__ (yeg (yko oIx (ykv 1) (eC (.int 0))) (yeg (yko oIx (ykv 1) (eC (.int 1))) (yeg (yko oIx (ykv 1) (eC (.int 2))) (yeg (yko oIx (ykv 1) (eC (.int 3))) yj3))))) ρ []=.ok v.O []:=fun ρ h=>by
  rw[<-e12];show yk2 [] _=_;congr 1;simp[h,v0,v1,v2,v3]
 generalize ((lns v cs 0 v.ps.length).map D.int)=LD at *;generalize (AT v (chS v.ps (lns v cs 0 v.ps.length))).map Tc.L=TL at *;generalize (((AT v (chS v.ps (lns v cs 0 v.ps.length))).filter fun c=>cnt ((yk3 F c.t.w).getD none) v.e c).map fun c=>c.t.a).map D.int=SL at *;generalize yla (fun c=>if cnt ((yk3 F c.t.w).getD none) v.e c then c.t.a else 0) (AT v (chS v.ps (lns v cs 0 v.ps.length)))=HS at *;generalize own (chS v.ps (lns v cs 0 v.ps.length))=OW at *;generalize rtB (AT v (chS v.ps (lns v cs 0 v.ps.length))) F=RB at *;generalize ((cs.length:Int) == (v.ps.length:Int) && plB v.ps cs)=PB at *;generalize cs.map D.int=CD at *;generalize (v.O:D)=VO at *;generalize (v.D:D)=VD at *;generalize fD F=FD at *;generalize suB v cs F=SB at *;generalize yes ns 7=C7 at *;generalize yes ns 8=C8 at *;generalize yes ns 9=C9 at *;have p:=fun σ=>L4.p12 (σ:=σ);have om:∀ z σ,yl4 (.int z) (.int 1000000000000) σ=.ok (.int (z % 1000000000000)) σ:=fun z σ=>zud z _ (by decide);refine⟨[],?_⟩;unfold f_law yf0;cases h9:(C9 % 4 == 0)with
 |false=>
  have es':=es (HS+OW);have e11':=e11 (HS+OW);rw[es']at e11';cases PB<;>cases RB<;>simp at e11'<;>simp[e1,c7,c8,c9,e2,e3,e4,e5,e6,e7,e8,h9,e9,e10,mk,e11',-zrd]
 |true=>
  have es':=es (C9 % 1000000000000);have e11':=e11 (C9 % 1000000000000);rw[es']at e11';generalize hT:(C9 % 1000000000000 == HS+OW)=TB at *;cases PB<;>cases RB<;>cases TB<;>simp at e11'<;>simp[e1,c7,c8,c9,e2,e3,e4,e5,e6,e7,e8,h9,p,om,hT,e9,e10,mk,e11',-zrd]
end K33
open PySem PySem.W PyProof.Rows
set_option maxRecDepth 100000 in
set_option maxHeartbeats 0 in
theorem PySem.Challenge.cw_sidebook_k33_when_a_paper_stands_holds : PySem.Challenge.rw_sidebook_k33_when_a_paper_stands.Holds := by
 w_on;o_law;k_head;(case hw=>w_witness2)
 k_fill
 refine L4.yi4 (l:=PySem.Challenge.rw_sidebook_k33_when_a_paper_stands) (k:=7) (x:="_law_script") (fn:=K33.f_law) rfl rfl ⟨rfl,by decide,by decide⟩ (fun w h Y=>kIn_of Y) ?F K33.law_true;case F=>
  intro w mg h KX G;have h__law_cell_at:L4.yd5 (L2.KOf KX) mg "_law_cell_at" (K33.top 23) ["_law_script", "_law_k"]:=by
   dsimp only[L2.KOf];refine' L4.mkF KX G K33.zas ?a ?l ?c ?k;(case a|l|c|k=>k_is)
  have h__law_mixed:L4.yd5 (L2.KOf KX) mg "_law_mixed" (K33.top 24) ["_law_cell", "_law_k"]:=by
   dsimp only[L2.KOf];refine' L4.mkF KX G K33.zb8 ?a ?l ?c ?k;(case a|l|c|k=>k_is)
  have h__law_amount:L4.yd5 (L2.KOf KX) mg "_law_amount" (K33.top 25) ["_law_number"]:=by
   dsimp only[L2.KOf];refine' L4.mkF KX G K33.zbd ?a ?l ?c ?k;(case a|l|c|k=>k_is)
  have h__law_tie:L4.yd5 (L2.KOf KX) mg "_law_tie" (K33.top 26) ["_law_number", "_law_word", "_law_at"]:=by
   dsimp only[L2.KOf];refine' L4.mkF KX G K33.zd9 ?a ?l ?c ?k;(case a|l|c|k=>k_is)
  have h__law_stand:L4.yd5 (L2.KOf KX) mg "_law_stand" (K33.top 27) ["_law_cell", "_law_number", "_law_at"]:=by
   dsimp only[L2.KOf];refine' L4.mkF KX G K33.zca ?a ?l ?c ?k;(case a|l|c|k=>k_is)
  have h__law_pot:L4.yd5 (L2.KOf KX) mg "_law_pot" (K33.top 28) ["_law_cell", "_law_at", "_law_k_pot"]:=by
   dsimp only[L2.KOf];refine' L4.mkF KX G K33.zd8 ?a ?l ?c ?k;(case a|l|c|k=>k_is)
  have h__law_view:L4.yd5 (L2.KOf KX) mg "_law_view" (K33.top 29) ["_law_script"]:=by
   dsimp only[L2.KOf];refine' L4.mkF KX G K33.zda ?a ?l ?c ?k;(case a|l|c|k=>k_is)
  have h__law_chosen:L4.yd5 (L2.KOf KX) mg "_law_chosen" (K33.top 33) ["_law_view_here", "_law_cell"]:=by
   dsimp only[L2.KOf];refine' L4.mkF KX G K33.zbe ?a ?l ?c ?k;(case a|l|c|k=>k_is)
  have h__law_lenient:L4.yd5 (L2.KOf KX) mg "_law_lenient" (K33.top 37) ["_law_view_here", "_law_chosen_here"]:=by
   dsimp only[L2.KOf];refine' L4.mkF KX G K33.zat ?a ?l ?c ?k;(case a|l|c|k=>k_is)
  have h__law_standing:L4.yd5 (L2.KOf KX) mg "_law_standing" (K33.top 30) ["_law_view_here", "_law_side", "_law_seen", "_law_tie_here"]:=by
   dsimp only[L2.KOf];refine' L4.mkF KX G K33.zag ?a ?l ?c ?k;(case a|l|c|k=>k_is)
  have h__law_ties:L4.yd5 (L2.KOf KX) mg "_law_ties" (K33.top 31) ["_law_view_here", "_law_chosen_here"]:=by
   dsimp only[L2.KOf];refine' L4.mkF KX G K33.zc9 ?a ?l ?c ?k;(case a|l|c|k=>k_is)
  have h__law_fates:L4.yd5 (L2.KOf KX) mg "_law_fates" (K33.top 35) ["_law_ties_here", "_law_cell"]:=by
   dsimp only[L2.KOf];refine' L4.mkF KX G K33.zb7 ?a ?l ?c ?k;(case a|l|c|k=>k_is)
  have h__law_counts:L4.yd5 (L2.KOf KX) mg "_law_counts" (K33.top 32) ["_law_standing_here", "_law_tie_here", "_law_fate", "_law_every"]:=by
   dsimp only[L2.KOf];refine' L4.mkF KX G K33.zbf ?a ?l ?c ?k;(case a|l|c|k=>k_is)
  have h__law_own:L4.yd5 (L2.KOf KX) mg "_law_own" (K33.top 38) ["_law_view_here", "_law_chosen_here"]:=by
   dsimp only[L2.KOf];refine' L4.mkF KX G K33.zd7 ?a ?l ?c ?k;(case a|l|c|k=>k_is)
  have h__law_right:L4.yd5 (L2.KOf KX) mg "_law_right" (K33.top 36) ["_law_ties_here", "_law_fates_here"]:=by
   dsimp only[L2.KOf];refine' L4.mkF KX G K33.zb9 ?a ?l ?c ?k;(case a|l|c|k=>k_is)
  have h__law_places:L4.yd5 (L2.KOf KX) mg "_law_places" (K33.top 34) ["_law_view_here", "_law_chosen_here"]:=by
   dsimp only[L2.KOf];refine' L4.mkF KX G K33.zbg ?a ?l ?c ?k;(case a|l|c|k=>k_is)
  have h_shown_in_time:L4.yd5 (L2.KOf KX) mg "shown_in_time" (K33.top 4) ["tie", "shown"]:=by
   dsimp only[L2.KOf];refine' L4.mkF KX G K33.zai ?a ?l ?c ?k;(case a|l|c|k=>k_is)
  have h_lot_of_paid:L4.yd5 (L2.KOf KX) mg "lot_of_paid" (K33.top 8) ["view", "seen", "tie"]:=by
   dsimp only[L2.KOf];refine' L4.mkF KX G K33.zbh ?a ?l ?c ?k;(case a|l|c|k=>k_is)
  have h_lot_of_due:L4.yd5 (L2.KOf KX) mg "lot_of_due" (K33.top 9) ["view", "seen", "tie"]:=by
   dsimp only[L2.KOf];refine' L4.mkF KX G K33.zcc ?a ?l ?c ?k;(case a|l|c|k=>k_is)
  have h_lot_of:L4.yd5 (L2.KOf KX) mg "lot_of" (K33.top 10) ["view", "pot", "tie"]:=by
   dsimp only[L2.KOf];refine' L4.mkF KX G K33.zgy ?a ?l ?c ?k;(case a|l|c|k=>k_is)
  have h_read_stand:L4.yd5 (L2.KOf KX) mg "read_stand" (K33.top 11) ["view", "pot", "one"]:=by
   dsimp only[L2.KOf];refine' L4.mkF KX G K33.zcd ?a ?l ?c ?k;(case a|l|c|k=>k_is)
  have h_read_pots:L4.yd5 (L2.KOf KX) mg "read_pots" (K33.top 12) ["view"]:=by
   dsimp only[L2.KOf];refine' L4.mkF KX G K33.zdb ?a ?l ?c ?k;(case a|l|c|k=>k_is)
  have h_is_whole:L4.yd5 (L2.KOf KX) mg "is_whole" (K33.top 1) ["thing"]:=by
   dsimp only[L2.KOf];refine' L4.mkF KX G K33.zeb ?a ?l ?c ?k;(case a|l|c|k=>k_is)
  have h_is_between:L4.yd5 (L2.KOf KX) mg "is_between" (K33.top 2) ["thing", "least", "most"]:=by
   dsimp only[L2.KOf];refine' L4.mkF KX G K33.zcb ?a ?l ?c ?k;(case a|l|c|k=>k_is)
  have h_tells_places:L4.yd5 (L2.KOf KX) mg "tells_places" (K33.top 19) ["readings", "chosen"]:=by
   dsimp only[L2.KOf];refine' L4.mkF KX G K33.zav ?a ?l ?c ?k;(case a|l|c|k=>k_is)
  have h_chosen_readings:L4.yd5 (L2.KOf KX) mg "chosen_readings" (K33.top 13) ["readings", "chosen"]:=by
   dsimp only[L2.KOf];refine' L4.mkF KX G K33.zaa ?a ?l ?c ?k;(case a|l|c|k=>k_is)
  have h_lots_by_word:L4.yd5 (L2.KOf KX) mg "lots_by_word" (K33.top 14) ["reads"]:=by
   dsimp only[L2.KOf];refine' L4.mkF KX G K33.zau ?a ?l ?c ?k;(case a|l|c|k=>k_is)
  have h_fates_of:L4.yd5 (L2.KOf KX) mg "fates_of" (K33.top 15) ["lots"]:=by
   dsimp only[L2.KOf];refine' L4.mkF KX G K33.zea ?a ?l ?c ?k;(case a|l|c|k=>k_is)
  have h_tells_fates:L4.yd5 (L2.KOf KX) mg "tells_fates" (K33.top 20) ["by_word", "fates"]:=by
   dsimp only[L2.KOf];refine' L4.mkF KX G K33.zbj ?a ?l ?c ?k;(case a|l|c|k=>k_is)
  have h_comes_by_fate:L4.yd5 (L2.KOf KX) mg "comes_by_fate" (K33.top 16) ["lot", "fate", "every"]:=by
   dsimp only[L2.KOf];refine' L4.mkF KX G K33.zah ?a ?l ?c ?k;(case a|l|c|k=>k_is)
  have h_sum_by_fate:L4.yd5 (L2.KOf KX) mg "sum_by_fate" (K33.top 17) ["lots", "fate", "every"]:=by
   dsimp only[L2.KOf];refine' L4.mkF KX G K33.zbi ?a ?l ?c ?k;(case a|l|c|k=>k_is)
  have h_sum_of:L4.yd5 (L2.KOf KX) mg "sum_of" (K33.top 18) ["reads", "by_word", "fates", "every"]:=by
   dsimp only[L2.KOf];refine' L4.mkF KX G K33.zgz ?a ?l ?c ?k;(case a|l|c|k=>k_is)
  have h_stands_up:L4.yd5 (L2.KOf KX) mg "stands_up" (K33.top 21) ["view", "told"]:=by
   dsimp only[L2.KOf];refine' L4.mkF KX G K33.zdc ?a ?l ?c ?k;(case a|l|c|k=>k_is)
  have h_law:L4.yd5 (L2.KOf KX) mg "law" (K33.top 39) ["_law_script"]:=by
   dsimp only[L2.KOf];refine' L4.mkF KX G K33.zxm ?a ?l ?c ?k;(case a|l|c|k=>k_is)
  have n_all:mg "all" = none:=by
   refine' mg_none_of KX G ?a;(case a=>k_is)
  have n_bool:mg "bool" = none:=by
   refine' mg_none_of KX G ?a;(case a=>k_is)
  have n_dict:mg "dict" = none:=by
   refine' mg_none_of KX G ?a;(case a=>k_is)
  have n_int:mg "int" = none:=by
   refine' mg_none_of KX G ?a;(case a=>k_is)
  have n_isinstance:mg "isinstance" = none:=by
   refine' mg_none_of KX G ?a;(case a=>k_is)
  have n_len:mg "len" = none:=by
   refine' mg_none_of KX G ?a;(case a=>k_is)
  have n_list:mg "list" = none:=by
   refine' mg_none_of KX G ?a;(case a=>k_is)
  have n_max:mg "max" = none:=by
   refine' mg_none_of KX G ?a;(case a=>k_is)
  have n_range:mg "range" = none:=by
   refine' mg_none_of KX G ?a;(case a=>k_is)
  have n_set:mg "set" = none:=by
   refine' mg_none_of KX G ?a;(case a=>k_is)
  have n_sorted:mg "sorted" = none:=by
   refine' mg_none_of KX G ?a;(case a=>k_is)
  have n_sum:mg "sum" = none:=by
   refine' mg_none_of KX G ?a;(case a=>k_is)
  have n_tuple:mg "tuple" = none:=by
   refine' mg_none_of KX G ?a;(case a=>k_is)
  have n_zip:mg "zip" = none:=by
   refine' mg_none_of KX G ?a;(case a=>k_is)
  have c_FIRM:L4.GlT (L2.KOf KX) mg "FIRM" ["won", "sure", "back"]:=by
   dsimp only[L2.KOf];refine' L4.mkT KX G ?a ?b;(case a=>k_is);(case b=>kernel_rfl)
  refine' (have q0:nsIn (L2.KOf KX) mainGlobals "View" = some (some (.ref ?C0)):=?p0;?_);(case p0=>dsimp only[L2.KOf];first|k_is|k_exc|rfl);refine' (have q1:findIn (L2.KOf KX) (.ref ?C0) "__init__" = some (some (.ref ?C1)):=?p1;?_);(case p1=>dsimp only[L2.KOf];first|k_is|k_exc|rfl);refine' (have q2:L4.HasM (L2.KOf KX) ?C0 "__init__" "View.__init__" (L4.ygs (K33.top 7) 0) ["self", "every", "look", "words", "pots"] ?C1:=?p2;?_);(case p2=>dsimp only[L2.KOf];refine' L4.mkM K33.zaf ?l ?c ?k;(case l|c|k=>k_is));refine' (have q3:L2.Cls (L2.KOf KX) ?C0:=?p3;?_);(case p3=>dsimp only[L2.KOf];refine' ⟨?a,?b,?c,?d⟩;(case a|b|c|d=>k_is));refine' (have q4:L2.zxh (L2.KOf KX) ?C0 "pots":=?p4;?_);(case p4=>dsimp only[L2.KOf];first|k_is|k_exc|rfl);refine' (have q5:L2.zxh (L2.KOf KX) ?C0 "last_look":=?p5;?_);(case p5=>dsimp only[L2.KOf];first|k_is|k_exc|rfl);refine' (have q6:L2.zxh (L2.KOf KX) ?C0 "known":=?p6;?_);(case p6=>dsimp only[L2.KOf];first|k_is|k_exc|rfl);refine' (have q7:L2.zxh (L2.KOf KX) ?C0 "every":=?p7;?_);(case p7=>dsimp only[L2.KOf];first|k_is|k_exc|rfl);refine' (have q8:L2.Mk (L2.KOf KX) ?C0 ?C1:=?p8;?_);(case p8=>dsimp only[L2.KOf];refine' ⟨?a,?b,?c,?d⟩;(case a|b|c|d=>k_is));refine⟨fun n=>([?C0,?C1]:List Addr).getD n 0,?_⟩;exact K33.ybj ⟨h__law_cell_at,h__law_mixed,h__law_amount,h__law_tie,h__law_stand,h__law_pot,h__law_view,h__law_chosen,h__law_lenient,h__law_standing,h__law_ties,h__law_fates,h__law_counts,h__law_own,h__law_right,h__law_places,h_shown_in_time,h_lot_of_paid,h_lot_of_due,h_lot_of,h_read_stand,h_read_pots,h_is_whole,h_is_between,h_tells_places,h_chosen_readings,h_lots_by_word,h_fates_of,h_tells_fates,h_comes_by_fate,h_sum_by_fate,h_sum_of,h_stands_up,q2,h_law,n_all,n_bool,n_dict,n_int,n_isinstance,n_len,n_list,n_max,n_range,n_set,n_sorted,n_sum,n_tuple,n_zip,c_FIRM,q3,q4,q5,q6,q7,mg_of KX G q0,q8⟩
