import PyProof.Rows.All
import Wide.All
import OpenK.AllK
import Wide.FinOn
import Lean
import PyProof.EqAt
import PyProof.EqKinds
import PyProof.TupleCall
import PyProof.NeKinds
import PyProof.NsDelKeeps
import KE.KTryMore
import PyProof.WalksMore
import PyProof.Rows.SetFrom
import KE.KEqDict
import PyProof.ToksMono
import PyProof.StrCalls6
import PyProof.StrBlock2
import PyProof.SliceStr2
import PyProof.StrLawsTight
import PyProof.InstStoreFacts
import PyProof.Rows.FStr
import PyProof.FactsAll.set
import KE.KDictLaws
import KE.KIntText
import PyProof.Rows.StrWeight2
import PyProof.StrWalks
import PyProof.StrBlockH
import PyProof.WalksEnum
import PyProof.ZipIter
import PyProof.EnumMake
import PyProof.FitsReplace
import PyProof.StrLawsIn
import PyProof.Rows.SortWalk
import PyProof.DictUpdate
import KE.KDictList
import KE.KDictSum
import KE.KPairComp
import PyProof.FactsAll.dict
import KE.KMinKey
import KE.KLam
import PyProof.DictWalks
import PyProof.DictValues
import PySem.Challenge.RW_sidebook_k32_a_paper_of_the_worth
set_option Elab.async false
set_option linter.all false
set_option maxRecDepth 100000
def PySem.W.Fast.tw12624347032699899687:Nat:=0
def PySem.W.Fast.tw2492450342745846637:Nat:=0
def PySem.W.Fast.tw13032957044619189632:Nat:=0
def PySem.W.Fast.tw17587523708649040002:Nat:=0
def PySem.W.Fast.tw8038588608771746704:Nat:=0
def PySem.W.Fast.tw13311218995722222756:Nat:=0
def PySem.W.Fast.tw8992139816069080374:Nat:=0
def PySem.W.Fast.tw693916914092233610:Nat:=0
def PySem.W.Fast.tw18428139987600679294:Nat:=0
def PySem.W.Fast.tw5301186589485619185:Nat:=0
def PySem.W.Fast.tw8436859525169546674:Nat:=0
def PySem.W.Fast.tw6322924126860387558:Nat:=0
def PySem.W.Fast.tw3509970031535150469:Nat:=0
namespace L2
open PySem PySem.Spec PyProof.Rows
abbrev Key:=Sum Int Str
def yg6:Key->Value->Bool
 | .inl k,v=>Value.isInt k v
 | .inr x,v=>Value.isStrOf x v
def ymy(w:World):Key->Int
 | .inl k=>hashInt k
 | .inr x=>hashStr w x
theorem zd6:∀ {k:Key} {v:Value},yg6 k v=true->(∃ i t,k=Sum.inl i/\v=Value.int i t)\/(∃ x t,k=Sum.inr x/\v=Value.str x t)
 | .inl i,v,h=>by
  obtain⟨t,e⟩:=Value.isInt_shape (k:=i) (v:=v) h;exact .inl ⟨i,t,rfl,e⟩
 | .inr x,v,h=>by
  obtain⟨t,e⟩:=Value.isStrOf_shape (x:=x) (v:=v) h;exact .inr ⟨x,t,rfl,e⟩
theorem zhp(i:Int)(t:Tok):yg6 (.inl i) (.int i t)=true:=by simp[yg6,Value.isInt]
theorem zhq(x:Str)(t:Tok):yg6 (.inr x) (.str x t)=true:=by simp[yg6,Value.isStrOf]
theorem yax(a b:Int):decide ((Sum.inl a:Key)=Sum.inl b)=(a == b):=by
 by_cases e:a=b
 ·subst e;simp
 ·have h:¬ (Sum.inl a:Key)=Sum.inl b:=fun q=>e (Sum.inl.inj q);rw[decide_eq_false h];exact(beq_eq_false_iff_ne.mpr e).symm
theorem ya1(a b:Str):decide ((Sum.inr a:Key)=Sum.inr b)=decide (a=b):=by
 by_cases e:a=b
 ·subst e;simp
 ·have h:¬ (Sum.inr a:Key)=Sum.inr b:=fun q=>e (Sum.inr.inj q);rw[decide_eq_false h,decide_eq_false e]
theorem yay(a:Int)(b:Str):decide ((Sum.inl a:Key)=Sum.inr b)=false:=decide_eq_false (fun q=>nomatch q)
theorem ya0(a:Str)(b:Int):decide ((Sum.inr a:Key)=Sum.inl b)=false:=decide_eq_false (fun q=>nomatch q)
def ztt(prog:Program)(w:World):PySem.KeyKind prog w Key where
 is:=yg6
 hash:=ymy w
 inj:=fun v a b ha hb=>by
  rcases zd6 ha with⟨i,t,rfl,rfl⟩|⟨x,t,rfl,rfl⟩
  ·rcases zd6 hb with⟨j,u,rfl,e⟩|⟨y,u,rfl,e⟩
   ·injection e with e1 _;rw[e1]
   ·exact nomatch e
  ·rcases zd6 hb with⟨j,u,rfl,e⟩|⟨y,u,rfl,e⟩
   ·exact nomatch e
   ·injection e with e1 _;rw[e1]
 byValue:=fun k v h=>by
  rcases zd6 h with⟨i,t,rfl,rfl⟩|⟨x,t,rfl,rfl⟩<;>rfl
 pyHash:=fun hv h=>by
  rcases zd6 hv with⟨i,t,rfl,rfl⟩|⟨x,t,rfl,rfl⟩
  ·exact wpAny_pyHash_int h
  ·exact wpAny_pyHash_str h
 eqBool:=fun hu hv h=>by
  rcases zd6 hu with⟨i,t,rfl,rfl⟩|⟨x,t,rfl,rfl⟩
  ·rcases zd6 hv with⟨j,u,rfl,rfl⟩|⟨y,u,rfl,rfl⟩
   ·rw[yax]at h;exact wpAny_eqBool_int h
   ·rw[yay]at h;exact SeqAt.EqAt.int_str i t y u _ _ _ _ h
  ·rcases zd6 hv with⟨j,u,rfl,rfl⟩|⟨y,u,rfl,rfl⟩
   ·rw[ya0]at h;exact SeqAt.EqAt.str_int x t j u _ _ _ _ h
   ·rw[ya1]at h;exact wpAny_eqBool_str h
 «strs»:=fun k x t v h=>by
  rcases zd6 h with⟨i,u,rfl,e⟩|⟨y,u,rfl,e⟩
  ·exact nomatch e
  ·injection e with e1 _;subst e1;cases v<;>rfl
theorem zfn(prog:Program)(w:World)(k:Key)(v:Value):(ztt prog w).is k v=yg6 k v:=rfl
theorem zea(prog:Program)(w:World)(i:Int)(t:Tok):(ztt prog w).is (.inl i) (.int i t)=true:=zhp i t
theorem zeb(prog:Program)(w:World)(x:Str)(t:Tok):(ztt prog w).is (.inr x) (.str x t)=true:=zhq x t
end L2
namespace L2
open PySem PySem.Spec PyProof.Rows
inductive V where
 |non|bl (b:Bool)|int (i:Int)|str (x:Str)|byt (b:Array UInt8)|flt (b:UInt64)|ref (a:Addr)|ty (n:String)
 deriving DecidableEq
def yk1:V->Value->Prop
 | .non,u=>u=Value.none
 | .bl b,u=>u=Value.bool b
 | .int i,u=>∃ t,u=Value.int i t
 | .str x,u=>∃ t,u=Value.str x t
 | .byt b,u=>∃ t,u=Value.bytes b t
 | .flt b,u=>∃ t,u=Value.float b t
 | .ref a,u=>u=Value.ref a
 | .ty n,u=>u=Value.type n
abbrev yla:List V->List Value->Prop:=Paired yk1
theorem yla.length{xs:List V}{us:List Value}(r:yla xs us):xs.length=us.length:=Paired.length r
theorem yla.get:∀ {xs:List V} {us:List Value} {i:Nat} {x:V},yla xs us->xs[i]?=some x->∃ u,us[i]?=some u/\yk1 x u
 |_,_,_,_,.nil,e=>by simp at e
 |_,_,0,_,.cons r _,e=>by simp at e;subst e;exact⟨_,rfl,r⟩
 |_,_,i+1,x,.cons _ t,e=>by
  obtain⟨u,h1,h2⟩:=yla.get (i:=i) (x:=x) t (by simpa using e);exact⟨u,by simpa using h1,h2⟩
theorem yla.set{x:V}{u:Value}(r:yk1 x u):∀ {xs:List V} {us:List Value} (i:Nat),yla xs us->yla (xs.set i x) (us.set i u)
 |_,_,_,.nil=>.nil
 |_,_,0,.cons _ t=>.cons r t
 |_,_,i+1,.cons q t=>.cons q (yla.set r i t)
theorem yla.append:∀ {xs ys:List V} {us ws:List Value},yla xs us->yla ys ws->yla (xs++ys) (us++ws)
 |_,_,_,_,.nil,s=>s
 |_,_,_,_,.cons r t,s=>.cons r (yla.append t s)
theorem yla.take:∀ {xs:List V} {us:List Value} (n:Nat),yla xs us->yla (xs.take n) (us.take n)
 |_,_,0,_=>.nil
 |_,_,_+1,.nil=>.nil
 |_,_,n+1,.cons r t=>.cons r (yla.take n t)
theorem yla.drop:∀ {xs:List V} {us:List Value} (n:Nat),yla xs us->yla (xs.drop n) (us.drop n)
 |_,_,0,r=>r
 |_,_,_+1,.nil=>.nil
 |_,_,n+1,.cons _ t=>yla.drop n t
def yk0:Option V->Option Value->Prop
 |some v,some u=>yk1 v u
 |none,none=>True
 |_,_=>False
def KV{κ:Type}:List (κ × V)->List (κ × Value)->Prop:=Paired fun(p:κ × V) (q:κ × Value)=>p.1=q.1/\yk1 p.2 q.2
def kV:Key->V
 | .inl i=>.int i
 | .inr x=>.str x
inductive HO where
 |lst (xs:List V)
 |tup (xs:List V)
 |dK (kvs:List (Key × V))|dT (kvs:List (List Key × V))
 |set (S:Int->Bool) (n:Nat)
 |ins (C dx:Addr) (fs:List (Str × V))
 |own (x:Addr)
 |xd (fs:List (Str × V))
 |met (f x:Addr)
 |rng (lo hi:Int)
 |frz (o:Obj) (u:HO)
 |tbl (ps:Array Value)
 |ext (φ:Heap->Prop)
abbrev Hp:=Addr->Option HO
def upd(H:Hp)(a:Addr)(o:HO):Hp:=fun b=>if b=a then some o else H b
theorem zo8{H:Hp}{a:Addr}{o:HO}:upd H a o a=some o:=by unfold upd;rw[if_pos rfl]
theorem yep{H:Hp}{a b:Addr}{o:HO}(h:b≠a):upd H a o b=H b:=by unfold upd;rw[if_neg h]
theorem yhr{H:Hp}{a b:Addr}{o u:HO}(h:H a=some o)(h':H b=some u)(d:o≠u):a≠b:=by
 intro e;subst e;rw[h]at h';exact d (Option.some.inj h')
theorem zfo{H:Hp}{a b:Addr}{o:HO}(h:H a=some o)(h':H b=none):a≠b:=by
 intro e;subst e;rw[h]at h';cases h'
section
variable(P:Program)(w:World)
def ye1(H:Hp)(h:Heap)(a:Addr):HO->Prop
 | .lst xs=>xs.length<=sizeLine/\∃ (its:List Value) (n:Nat),yla xs its/\h.get? a=some { cls:=.type "list",data:=.seq its.toArray n }
 | .tup xs=>xs.length<=sizeLine/\∃ its:List Value,yla xs its/\IsTup h a its.toArray
 | .dK kvs=>kvs.length<=sizeLine/\(a == sysModules)=false/\∃ vs,KV kvs vs/\h.DictOf (ztt P w) a vs
 | .dT kvs=>kvs.length<=sizeLine/\(a == sysModules)=false/\∃ xs:List (List Key × Addr × Value),
   Paired (fun(p:List Key × V) (q:List Key × Addr × Value)=>p.1=q.1/\H q.2.1=some (.tup (p.1.map kV))/\yk1 p.2 q.2.2) kvs xs/\
   ∃ o es ep,h.get? a=some o/\o.ExactDict/\o.data=.dict es ep/\es.toList=xs.map (entryOfKey (tupleKind (ztt P w)))/\(xs.map (·.1)).Nodup
 | .set S n=>h.SetOf (intKind P w) a S n
 | .ins C dx fs=>H dx=some (.own a)/\fs.length<=1000/\dx≠a/\h.get? a=some (PySem.W.instObj C dx)/\
   ∃ mA,h.Ns1 dx mA/\(∀ f,yk0 (fs.lookup f) (mA f))/\PySem.Within mA (fs.map (·.1))
 | .own _=>∃ o,h.get? a=some o
 | .xd fs=>∃ mA,h.Ns1 a mA/\∀ f,yk0 (fs.lookup f) (mA f)
 | .rng lo hi=>∃ t u v,h.get? a=some { cls:=.type "range",data:=.fields #[.int lo t,.int hi u,.int 1 v] }
 | .frz o u=>h.get? a=some o/\ye1 H h a u
 | .tbl ps=>h.get? a=some { cls:=.none,data:=.fields ps }
 | .met f x=>h.get? a=some (PySem.W.methodObj (.ref f) (.ref x))
 | .ext φ=>φ h/\(∃ o,h.get? a=some o)/\∀ h1 h2:Heap,φ h1->(∀ o,h1.get? a=some o->h2.get? a=some o)->φ h2
def HOk(H:Hp)(h:Heap):Prop:=∀ a o,H a=some o->ye1 P w H h a o
end
section
variable{P:Program}{w:World}{H H':Hp}{h h':Heap}{a:Addr}{o:HO}
theorem ye1.lt(x:ye1 P w H h a o):a<h.objs.size:=by
 cases o with
 |lst xs=>obtain⟨_,_,_,_,e⟩:=x;exact Heap.lt_size e
 |tup xs=>obtain⟨_,_,_,p⟩:=x;exact p.lt
 |dK kvs=>obtain⟨_,_,_,_,o,_,_,e,_⟩:=x;exact Heap.lt_size e
 |dT kvs=>obtain⟨_,_,_,_,o,_,_,e,_⟩:=x;exact Heap.lt_size e
 |set S n=>obtain⟨o,_,_,_,e,_⟩:=x;exact Heap.lt_size e
 |ins C dx fs=>obtain⟨_,_,_,e,_⟩:=x;exact Heap.lt_size e
 |own y=>obtain⟨_,e⟩:=x;exact Heap.lt_size e
 |xd fs=>obtain⟨_,⟨_,_,_,e,_⟩,_⟩:=x;exact Heap.lt_size e
 |rng lo hi=>obtain⟨_,_,_,e⟩:=x;exact Heap.lt_size e
 |frz ob u=>obtain⟨e,_⟩:=x;exact Heap.lt_size e
 |tbl ps=>exact Heap.lt_size (show h.get? a=some _ from x)
 |met f y=>exact Heap.lt_size (show h.get? a=some _ from x)
 |ext φ=>obtain⟨_,⟨_,e⟩,_⟩:=x;exact Heap.lt_size e
theorem Paired.mapP{α β:Type}{F G:α->β->Prop}:∀ {l₁:List α} {l₂:List β},Paired F l₁ l₂->(∀ a b,F a b->G a b)->Paired G l₁ l₂
 |_,_,.nil,_=>.nil
 |_,_,.cons r t,f=>.cons (f _ _ r) (Paired.mapP t f)
theorem ye1.stay(x:ye1 P w H h a o)(k:∀ b u,(b=a\/H b=some (.own a))->h.get? b=some u->h'.get? b=some u)
  (ho:∀ b,H b=some (.own a)->H' b=some (.own a)) (ht:∀ b xs,H b=some (.tup xs)->H' b=some (.tup xs)):ye1 P w H' h' a o:=by
 induction o with
 |lst xs=>obtain⟨z,its,n,r,e⟩:=x;exact⟨z,its,n,r,k _ _ (.inl rfl) e⟩
 |tup xs=>obtain⟨z,its,r,ob,e,c⟩:=x;exact⟨z,its,r,ob,k _ _ (.inl rfl) e,c⟩
 |dK kvs=>obtain⟨z,y,vs,r,ob,es,ep,e,c⟩:=x;exact⟨z,y,vs,r,ob,es,ep,k _ _ (.inl rfl) e,c⟩
 |dT kvs=>
  obtain⟨z,y,xs,r,ob,es,ep,e,c⟩:=x;exact⟨z,y,xs,Paired.mapP r fun p q z=>⟨z.1,ht _ _ z.2.1,z.2.2⟩,ob,es,ep,k _ _ (.inl rfl) e,c⟩
 |set S n=>obtain⟨ob,es,ep,t,e,c⟩:=x;exact⟨ob,es,ep,t,k _ _ (.inl rfl) e,c⟩
 |ins C dx fs=>
  obtain⟨d,z,ne,e,mA,⟨od,es,ep,e2,c⟩,r⟩:=x;exact⟨ho _ d,z,ne,k _ _ (.inl rfl) e,mA,⟨od,es,ep,k _ _ (.inr d) e2,c⟩,r⟩
 |own y=>obtain⟨ob,e⟩:=x;exact⟨ob,k _ _ (.inl rfl) e⟩
 |xd fs=>obtain⟨mA,⟨od,es,ep,e,c⟩,r⟩:=x;exact⟨mA,⟨od,es,ep,k _ _ (.inl rfl) e,c⟩,r⟩
 |rng lo hi=>obtain⟨t,u,v,e⟩:=x;exact⟨t,u,v,k _ _ (.inl rfl) e⟩
 |frz ob u ih=>obtain⟨e,q⟩:=x;exact⟨k _ _ (.inl rfl) e,ih q⟩
 |tbl ps=>
  have e:h.get? a=some { cls:=.none,data:=.fields ps }:=x;show h'.get? a=some { cls:=.none,data:=.fields ps };exact k a _ (.inl rfl) e
 |met f y=>
  have e:h.get? a=some (PySem.W.methodObj (.ref f) (.ref y)):=x;show h'.get? a=some (PySem.W.methodObj (.ref f) (.ref y));exact k a _ (.inl rfl) e
 |ext φ=>obtain⟨p,⟨o,e⟩,st⟩:=x;exact⟨st _ _ p fun o q=>k _ _ (.inl rfl) q,⟨o,k _ _ (.inl rfl) e⟩,st⟩
theorem HOk.lt(x:HOk P w H h)(e:H a=some o):a<h.objs.size:=(x a o e).lt
theorem HOk.fresh(x:HOk P w H h)(e:h.objs.size<=a):H a=none:=by
 cases q:H a with
 |none=>rfl
 |some u=>exact absurd (Nat.lt_of_lt_of_le (x.lt q) e) (Nat.lt_irrefl _)
theorem HOk.kept(x:HOk P w H h)(k:∀ b u,h.get? b=some u->h'.get? b=some u):HOk P w H h':=fun a o e=>
 (x a o e).stay (fun b u _ q=>k b u q) (fun _ q=>q) fun _ _ q=>q
theorem HOk.laid(x:HOk P w H h)(k:∀ b u,h.get? b=some u->h'.get? b=some u)(hp:h.objs.size<=a)(new:ye1 P w (upd H a o) h' a o):HOk P w (upd H a o) h':=fun b u e=>by
 have hn:=x.fresh hp;by_cases hb:b=a
 ·subst hb;rw[zo8]at e;cases e;exact new
 ·rw[yep hb]at e;exact(x b u e).stay (fun c v _ q=>k c v q) (fun c q=>by rw[yep (zfo q hn)];exact q) fun c xs q=>by rw[yep (zfo q hn)];exact q
end
def Rd(H:Hp)(a:Addr)(u:HO):Prop:=H a=some u\/∃ o,H a=some (.frz o u)
theorem Rd.of{H:Hp}{a:Addr}{u:HO}(h:H a=some u):Rd H a u:=.inl h
theorem Rd.ok{P:Program}{w:World}{H:Hp}{h:Heap}{a:Addr}{u:HO}(r:Rd H a u)(x:HOk P w H h):ye1 P w H h a u:=by
 rcases r with r|⟨o,r⟩
 ·exact x a u r
 ·obtain⟨_,q⟩:=x a _ r;exact q
def Mut:Option HO->Prop
 |some (.lst _)=>True
 |some (.dK _)=>True
 |some (.dT _)=>True
 |some (.set _ _)=>True
 |some (.ins _ _ _)=>True
 |some (.ext _)=>True
 |_=>False
section
variable{P:Program}{w:World}{H:Hp}{h h':Heap}{x e:Addr}{o':HO}
theorem HOk.write(ok:HOk P w H h)(mu:Mut (H x))(he:e=x\/H e=some (.own x))(k:∀ b u,b≠e->h.get? b=some u->h'.get? b=some u)(heo:∃ u,h'.get? e=some u)
  (new:ye1 P w (upd H x o') h' x o'):HOk P w (upd H x o') h':=fun b u q=>by
 have nown:∀ c y,H c=some (.own y)->c≠x:=fun c y r z=>by subst z;rw[r]at mu;exact mu
 have ntup:∀ c xs,H c=some (.tup xs)->c≠x:=fun c xs r z=>by subst z;rw[r]at mu;exact mu
 by_cases hb:b=x
 ·subst hb;rw[zo8]at q;cases q;exact new
 ·rw[yep hb]at q;by_cases hbe:b=e
  ·have q':H b=some (.own x):=by
    rcases he with z|z
    ·exact absurd (hbe.trans z) hb
    ·rw[hbe];exact z
   rw[q]at q';cases q';obtain⟨v,hv⟩:=heo;exact⟨v,by rw[hbe];exact hv⟩
  ·refine(ok b u q).stay (fun c v hc r=>k c v ?_ r) (fun c r=>by rw[yep (nown c b r)];exact r) fun c xs r=>by rw[yep (ntup c xs r)];exact r
   rcases hc with rfl|hc
   ·exact hbe
   ·rintro rfl;rcases he with z|z
    ·exact nown c b hc z
    ·rw[hc]at z;cases z;exact hb rfl
end
structure Un(fs ex:List Addr)(H H':Hp)(h h':Heap):Prop where
 keep:∀ b o,h.get? b=some o->H b=none->b ∉ fs->b ∉ ex->h'.get? b=some o
 slot:∀ b o,h.get? b=some o->H b=none->b∈fs->b ∉ ex->∃ sl,h'.get? b=some { o with slots:=sl }
 free:∀ b o,h.get? b=some o->H b=none->b ∉ ex->H' b=none
 there:∀ b o,h.get? b=some o->b ∉ ex->∃ o',h'.get? b=some o'
 tups:∀ b xs,H b=some (.tup xs)->H' b=some (.tup xs)
 frzs:∀ b o u,H b=some (.frz o u)->H' b=some (.frz o u)
 tbls:∀ b ps,H b=some (.tbl ps)->∃ more,H' b=some (.tbl (ps++more))
section
variable{fs fs' ex ex':List Addr}{H H1 H2:Hp}{h h1 h2 h':Heap}{a x e:Addr}{o:HO}
theorem Un.any(u:Un fs ex H H1 h h1){b:Addr}{ob:Obj}(q:h.get? b=some ob)(n:H b=none)(hx:b ∉ ex):∃ sl,h1.get? b=some { ob with slots:=sl }:=by
 by_cases hb:b∈fs
 ·exact u.slot b ob q n hb hx
 ·exact⟨ob.slots,u.keep b ob q n hb hx⟩
theorem Un.trans(a:Un fs ex H H1 h h1)(b:Un fs ex H1 H2 h1 h2):Un fs ex H H2 h h2 where
 keep:=fun c ob q n hc hx=>b.keep c ob (a.keep c ob q n hc hx) (a.free c ob q n hx) hc hx
 slot:=fun c ob q n hc hx=>by
  obtain⟨sl,e1⟩:=a.slot c ob q n hc hx;obtain⟨sl',e2⟩:=b.slot c _ e1 (a.free c ob q n hx) hc hx;exact⟨sl',e2⟩
 free:=fun c ob q n hx=>by
  obtain⟨o',e1⟩:=a.there c ob q hx;exact b.free c o' e1 (a.free c ob q n hx) hx
 there:=fun c ob q hx=>by
  obtain⟨o',e1⟩:=a.there c ob q hx;exact b.there c o' e1 hx
 tups:=fun c xs q=>b.tups c xs (a.tups c xs q)
 frzs:=fun c ob xs q=>b.frzs c ob xs (a.frzs c ob xs q)
 tbls:=fun c ps q=>by
  obtain⟨m1,e1⟩:=a.tbls c ps q;obtain⟨m2,e2⟩:=b.tbls c _ e1;exact⟨m1++m2,by rw[e2,Array.append_assoc]⟩
theorem Un.kept(k:∀ b u,h.get? b=some u->h'.get? b=some u):Un fs ex H H h h':=
 ⟨fun b ob q _ _ _=>k b ob q,fun b ob q _ _ _=>⟨ob.slots,k b ob q⟩,fun _ _ _ n _=>n,fun b ob q _=>⟨ob,k b ob q⟩,fun _ _ q=>q,fun _ _ _ q=>q,fun _ ps q=>⟨#[],by rw[q];simp⟩⟩
theorem Un.refl:Un fs ex H H h h:=Un.kept fun _ _ q=>q
theorem Un.laid(k:∀ b u,h.get? b=some u->h'.get? b=some u)(hp:h.objs.size<=a)(hn:H a=none):Un fs ex H (upd H a o) h h' where
 keep:=fun b u q _ _ _=>k b u q
 slot:=fun b u q _ _ _=>⟨u.slots,k b u q⟩
 free:=fun b u q n _=>by rw[yep (Nat.ne_of_lt (Nat.lt_of_lt_of_le (Heap.lt_size q) hp))];exact n
 there:=fun b u q _=>⟨u,k b u q⟩
 tups:=fun b xs q=>by rw[yep (zfo q hn)];exact q
 frzs:=fun b u xs q=>by rw[yep (zfo q hn)];exact q
 tbls:=fun b ps q=>⟨#[],by rw[yep (zfo q hn),q];simp⟩
theorem Un.write(mu:Mut (H x))(he:e=x\/H e=some (.own x))(k:∀ b u,b≠e->h.get? b=some u->h'.get? b=some u)(heo:∃ u,h'.get? e=some u):Un fs ex H (upd H x o) h h':=by
 have hx:∀ b,H b=none->b≠x:=fun b n z=>by subst z;rw[n]at mu;exact mu
 have hb:∀ b,H b=none->b≠e:=fun b n z=>by
  subst z;rcases he with r|r
  ·exact hx b n r
  ·rw[n]at r;cases r
 have hm:∀ b u,H b=some u->¬ Mut (some u)->b≠x:=fun b u q nm z=>by subst z;rw[q]at mu;exact nm mu
 refine⟨fun b u q n _ _=>k b u (hb b n) q,fun b u q n _ _=>⟨u.slots,k b u (hb b n) q⟩,fun b u q n _=>by rw[yep (hx b n)];exact n,fun b u q _=>?_,
  fun b xs q=>by rw[yep (hm b _ q fun z=>z)];exact q,fun b u xs q=>by rw[yep (hm b _ q fun z=>z)];exact q,fun b ps q=>⟨#[],by rw[yep (hm b _ q fun z=>z),q];simp⟩⟩
 by_cases hbe:b=e
 ·subst hbe;exact heo
 ·exact⟨u,k b u hbe q⟩
theorem Un.mono(u:Un fs ex H H1 h h1)(hs:∀ b∈fs,b∈fs')(hx:∀ b∈ex,b∈ex'):Un fs' ex' H H1 h h1:=
 ⟨fun b ob q n hb he=>u.keep b ob q n (fun z=>hb (hs b z)) fun z=>he (hx b z),fun _ _ q n _ he=>u.any q n fun z=>he (hx _ z),fun b ob q n he=>u.free b ob q n fun z=>he (hx b z),fun b ob q he=>u.there b ob q fun z=>he (hx b z),u.tups,u.frzs,u.tbls⟩
end
def trk(h:Heap)(H:Hp):List Addr:=(List.range h.objs.size).filter fun a=>(H a).isSome
def ymp(h:Heap)(H:Hp):Heap:=PySem.W.hideAll h (trk h H)
theorem zhh(h:Heap)(H:Hp):(ymp h H).objs.size=h.objs.size:=PySem.W.hideAll_size _ _
theorem zlz{h:Heap}{H:Hp}{b:Addr}{o:Obj}(e:h.get? b=some o)(n:H b=none):(ymp h H).get? b=some o:=
 PySem.W.hideAll_get _ e fun hm=>by
  have q:(H b).isSome=true:=(List.mem_filter.mp hm).2;rw[n]at q;simp at q
theorem zuk{h:Heap}{H:Hp}{b:Addr}{o:Obj}(e:(ymp h H).get? b=some o):h.get? b=some o/\H b=none:=by
 have e':h.get? b=some o:=PySem.W.of_hideAll (trk h H) e;refine⟨e',?_⟩;cases q:H b with
 |none=>rfl
 |some x=>
  have hm:b∈trk h H:=List.mem_filter.mpr ⟨List.mem_range.mpr (Heap.lt_size e'),by simp[q]⟩;have z:(ymp h H).get? b=none:=PySem.W.hideAll_none (trk h H) hm;rw[z]at e;cases e
def zpl(g h:Heap)(L:Addr):List (Addr × Obj):=(List.range h.objs.size).filterMap fun a=>if a=L\/(g.get? a).isSome=true then none else (h.get? a).map fun o=>(a,o)
def rest(g h:Heap)(L d:Addr):List (Addr × Obj):=(zpl g h L).filter fun p=>decide (p.1≠d)
end L2
namespace L2
open PySem PySem.Spec PyProof.Rows
structure Mod(K:PySem.W.Frag)(mg:Str->Option Value)(base:Heap):Prop where
 kin:K.In base
 glob:base.Ns mainGlobals mg
 blt:∃ mb,base.Ns builtinsNs mb/\∀ x:Str,x ≠ "__name__"->mb x=bootBuiltins x
 nolimit:base.NoLimit
structure Cx where
 prog:Program
 w:World
 K:PySem.W.Frag
 mg:Str->Option Value
 base:Heap
 A:Around
 N:List Str
 s₀:Shared
 H₀:Hp
 env:Env
 outer:List Env
 stack:List Env
 ex:List Addr
 fn:Str->Bool
 calm:Bool
 pn:List (Addr × Obj)
 xe:Value->Shared->Prop
def frs(l:List Env):List Addr:=l.filterMap (·.frame)
abbrev Cx.fs(X:Cx):List Addr:=frs X.outer
def Vis(sc:Scope)(x:Str):Prop:=sc.names.lookup x=some .local\/sc.names.lookup x=some .cell\/sc.names.lookup x=some .free
def Loc(sc:Scope)(x:Str):Prop:=sc.names.lookup x=some .local\/sc.names.lookup x=some .cell
def yks(env:Env)(h:Heap)(m:Str->Option Value)(x:Str)(u:Value):Prop:=
 (env.kindOf x=some .local/\m x=some u)\/((env.kindOf x=some .cell\/env.kindOf x=some .free)/\∃ c,env.cells.lookup x=some c/\h.IsCell c (some u))
structure Cx.Ok(X:Cx):Prop where
 mod:Mod X.K X.mg X.base
 kind:X.env.scope.kind=.function
 glob:X.env.globals=mainGlobals
 blt:X.env.builtins=builtinsNs
 above:X.s₀.heap.objs.size<=X.env.locals
 inj:∀ x y c,X.env.cells.lookup x=some c->X.env.cells.lookup y=some c->x=y
 has:∀ x,(X.env.kindOf x=some .cell\/X.env.kindOf x=some .free)->∃ c,X.env.cells.lookup x=some c
 cab:∀ x c,X.fn x=true->X.env.cells.lookup x=some c->X.s₀.heap.objs.size<=c
 hd:X.calm=true->X.A.handled=none
 frames:X.A.frames=some X.stack
 stk:X.stack=X.outer\/(X.stack=X.env::X.outer/\X.env.frame=some X.env.locals)
 exf:∀ b∈X.ex,b≠X.env.locals/\∀ x c,X.env.cells.lookup x=some c->c≠b
 bs:∀ b o,X.base.get? b=some o->X.s₀.heap.get? b=some o/\X.H₀ b=none
 bsz:X.base.objs.size<=X.s₀.heap.objs.size
 noex:∀ b o,X.base.get? b=some o->b ∉ X.ex
 exfs:∀ b∈X.ex,b ∉ X.fs
 funs:X.s₀.heap.FunFrames X.base X.outer
 frf:∀ b∈X.fs,X.H₀ b=none
structure Inv(X:Cx)(pins:List (Addr × Obj))(σ:List (Option V))(H:Hp)(s:Shared):Prop where
 ok:X.Ok
 os:s.os=X.s₀.os
 bare:AllBare s.gens
 base:Un X.fs X.ex X.H₀ H X.s₀.heap s.heap
 loc:∃ m,s.heap.Ns X.env.locals m/\∀ (i:Nat) (x:Str) (v:V),X.N[i]?=some x->σ[i]?=some (some v)->Vis X.env.scope x->∃ u,yk1 v u/\yks X.env s.heap m x u
 cell:∀ x c,X.env.cells.lookup x=some c->∃ v,s.heap.IsCell c v
 free:H X.env.locals=none
 freeC:∀ x c,X.env.cells.lookup x=some c->H c=none
 pin:∀ p∈X.pn++pins,s.heap.get? p.1=some p.2/\H p.1=none/\p.1≠X.env.locals/\p.1 ∉ X.fs/\∀ v,p.2.data≠.cell v
 hok:HOk X.prog X.w H s.heap
 len:σ.length=X.N.length
section
variable{X:Cx}{pins:List (Addr × Obj)}{σ:List (Option V)}{H H':Hp}{s:Shared}{h':Heap}
theorem Cx.Ok.nofr(ok:X.Ok){b:Addr}{o:Obj}(e:X.base.get? b=some o):b ∉ X.fs:=fun hb=>by
 have:=(ok.funs.mem hb).1;rw[e]at this;cases this
theorem Inv.bs(I:Inv X pins σ H s):∀ b o,X.base.get? b=some o->s.heap.get? b=some o/\H b=none:=fun b o e=>
 ⟨I.base.keep b o (I.ok.bs b o e).1 (I.ok.bs b o e).2 (I.ok.nofr e) (I.ok.noex b o e),I.base.free b o (I.ok.bs b o e).1 (I.ok.bs b o e).2 (I.ok.noex b o e)⟩
theorem Inv.bk(I:Inv X pins σ H s):∀ b o,X.base.get? b=some o->s.heap.get? b=some o:=fun b o e=>(I.bs b o e).1
theorem Inv.mod(I:Inv X pins σ H s):Mod X.K X.mg X.base:=I.ok.mod
theorem Inv.kIn(I:Inv X pins σ H s):X.K.In s.heap:=I.ok.mod.kin.keeps I.bk
theorem Inv.nolimit(I:Inv X pins σ H s):s.heap.NoLimit:=I.ok.mod.nolimit.keeps I.bk
theorem Inv.lt(I:Inv X pins σ H s):X.env.locals<s.heap.objs.size:=let ⟨_,hn,_⟩:=I.loc;hn.lt
theorem Inv.sz(I:Inv X pins σ H s):X.s₀.heap.objs.size<=s.heap.objs.size:=Nat.le_trans I.ok.above (Nat.le_of_lt I.lt)
theorem Inv.nofs(I:Inv X pins σ H s){a:Addr}(h:s.heap.objs.size<=a):a ∉ X.fs:=fun hb=>by
 obtain⟨_,o,ho,_⟩:=I.ok.funs.mem hb;exact absurd (Nat.lt_of_lt_of_le (Heap.lt_size ho) (Nat.le_trans I.sz h)) (Nat.lt_irrefl _)
theorem Inv.cne(I:Inv X pins σ H s):∀ x c,X.env.cells.lookup x=some c->c≠X.env.locals:=fun x c e z=>by
 obtain⟨v,o,ho,hd⟩:=I.cell x c e;obtain⟨m,⟨o',es,ep,ho',hd',_⟩,_⟩:=I.loc;rw[z,ho']at ho;cases ho;rw[hd']at hd;cases hd
theorem Inv.funs(I:Inv X pins σ H s):s.heap.FunFrames X.base X.outer:=by
 have all:∀ (l:List Env),(∀ b∈frs l,b∈X.fs)->X.s₀.heap.FunFrames X.base l->s.heap.FunFrames X.base l:=by
  intro l;induction l with
  |nil=>intro _ _;trivial
  |cons env r ih=>
   intro hs hl;obtain⟨hk,⟨L,o,hf,hn,ho,hd⟩,hr⟩:=hl;have hL:L∈X.fs:=hs L (by unfold frs;rw[List.filterMap_cons,hf];exact List.mem_cons_self);obtain⟨sl,e⟩:=I.base.slot L o ho (I.ok.frf L hL) hL fun z=>I.ok.exfs L z hL;exact⟨hk,⟨L,_,hf,hn,e,hd⟩,ih (fun b hb=>hs b (by unfold frs;rw[List.filterMap_cons,hf];exact List.mem_cons_of_mem _ hb)) hr⟩
 exact all X.outer (fun _ hb=>hb) I.ok.funs
theorem Inv.stack(I:Inv X pins σ H s):s.heap.FunFrames X.base X.stack:=by
 rcases I.ok.stk with e|⟨e,hf⟩
 ·rw[e];exact I.funs
 ·rw[e];obtain⟨m,hn,_⟩:=I.loc;refine .cons (by rw[I.ok.kind];decide) hf hn ?_ I.funs;exact Heap.get?_none_of_le (Nat.le_trans I.ok.bsz I.ok.above)
theorem Inv.stkSub(I:Inv X pins σ H s):∀ b∈frs X.stack,b∈X.env.locals::X.fs:=fun b hb=>by
 rcases I.ok.stk with e|⟨e,hf⟩
 ·rw[e]at hb;exact List.mem_cons_of_mem _ hb
 ·rw[e]at hb;unfold frs at hb;rw[List.filterMap_cons,hf]at hb;exact hb
theorem Inv.stkFree(I:Inv X pins σ H s):∀ b∈frs X.stack,H b=none:=fun b hb=>by
 rcases List.mem_cons.mp (I.stkSub b hb)with e|hb
 ·rw[e];exact I.free
 ·obtain⟨_,o,ho,_⟩:=I.ok.funs.mem hb;exact I.base.free b o ho (I.ok.frf b hb) fun z=>I.ok.exfs b z hb
theorem Inv.step{g':Array GenState}{t':Nat}{d':Drawn}{ch:List Addr}(I:Inv X pins σ H s)
  (hch:∀ b∈ch,(b∈X.ex\/X.s₀.heap.objs.size<=b)/\b≠X.env.locals/\(∀ x c,X.env.cells.lookup x=some c->c≠b)/\∀ p∈X.pn++pins,p.1≠b)
  (keep:∀ b o,b≠X.env.locals->b ∉ X.fs->b ∉ ch->s.heap.get? b=some o->H b=none->h'.get? b=some o)
  (slot:∀ b o,b≠X.env.locals->b∈X.fs->b ∉ ch->s.heap.get? b=some o->H b=none->∃ sl,h'.get? b=some { o with slots:=sl }) (free:∀ b o,b ∉ ch->s.heap.get? b=some o->H b=none->H' b=none)
  (there:∀ b o,b ∉ ch->s.heap.get? b=some o->∃ o',h'.get? b=some o')
  (tups:∀ b xs,H b=some (.tup xs)->H' b=some (.tup xs)) (frzs:∀ b o u,H b=some (.frz o u)->H' b=some (.frz o u)) (tbls:∀ b ps,H b=some (.tbl ps)->∃ more,H' b=some (.tbl (ps++more)))
  (ns:∀ m,s.heap.Ns X.env.locals m->h'.Ns X.env.locals m) (hok:HOk X.prog X.w H' h') (hg:AllBare g') :
  Inv X pins σ H' { s with heap:=h',gens:=g',drawn:=d',toks:=t' }:=by
 have neL:∀ b o,X.s₀.heap.get? b=some o->b≠X.env.locals:=fun b o e=>Nat.ne_of_lt (Nat.lt_of_lt_of_le (Heap.lt_size e) I.ok.above);have neC:∀ b o,X.s₀.heap.get? b=some o->b ∉ X.ex->b ∉ ch:=fun b o e hx hb=>by
  rcases(hch b hb).1 with z|z
  ·exact hx z
  ·exact absurd (Nat.lt_of_lt_of_le (Heap.lt_size e) z) (Nat.lt_irrefl _)
 have cellK:∀ x c,X.env.cells.lookup x=some c->∀ v,s.heap.IsCell c v->h'.IsCell c v:=fun x c e v ⟨o,ho,hd⟩=>by
  have nch:c ∉ ch:=fun z=>(hch c z).2.2.1 x c e rfl;by_cases hc:c∈X.fs
  ·obtain⟨sl,q⟩:=slot c o (I.cne x c e) hc nch ho (I.freeC x c e);exact⟨_,q,hd⟩
  ·exact⟨o,keep c o (I.cne x c e) hc nch ho (I.freeC x c e),hd⟩
 refine⟨I.ok,I.os,hg,⟨fun b o e n hb hx=>?_,fun b o e n hb hx=>?_,fun b o e n hx=>?_,fun b o e hx=>?_,fun b xs e=>tups b xs (I.base.tups b xs e),fun b o xs e=>frzs b o xs (I.base.frzs b o xs e),fun b ps e=>?_⟩,?_,fun x c e=>?_,?_,fun x c e=>?_,fun p hp=>?_,hok,I.len⟩
 ·exact keep b o (neL b o e) hb (neC b o e hx) (I.base.keep b o e n hb hx) (I.base.free b o e n hx)
 ·obtain⟨sl,e1⟩:=I.base.slot b o e n hb hx;obtain⟨sl',e2⟩:=slot b _ (neL b o e) hb (neC b o e hx) e1 (I.base.free b o e n hx);exact⟨sl',e2⟩
 ·obtain⟨o',e1⟩:=I.base.there b o e hx;exact free b o' (neC b o e hx) e1 (I.base.free b o e n hx)
 ·obtain⟨o',e1⟩:=I.base.there b o e hx;exact there b o' (neC b o e hx) e1
 ·obtain⟨m1,e1⟩:=I.base.tbls b ps e;obtain⟨m2,e2⟩:=tbls b _ e1;exact⟨m1++m2,by rw[e2,Array.append_assoc]⟩
 ·obtain⟨m,hn,hl⟩:=I.loc;refine⟨m,ns m hn,fun i x v e1 e2 e3=>?_⟩;obtain⟨u,r,l⟩:=hl i x v e1 e2 e3;refine⟨u,r,?_⟩;rcases l with l|⟨k,c,e,z⟩
  ·exact .inl l
  ·exact .inr ⟨k,c,e,cellK x c e _ z⟩
 ·obtain⟨v,z⟩:=I.cell x c e;exact⟨v,cellK x c e v z⟩
 ·obtain⟨m,⟨o,_,_,ho,_⟩,_⟩:=I.loc;exact free _ o (fun z=>(hch _ z).2.1 rfl) ho I.free
 ·obtain⟨v,o,ho,hd⟩:=I.cell x c e;exact free c o (fun z=>(hch c z).2.2.1 x c e rfl) ho (I.freeC x c e)
 ·obtain⟨e,n,ne,nf,d⟩:=I.pin p hp;have nch:p.1 ∉ ch:=fun z=>(hch p.1 z).2.2.2 p hp rfl;exact⟨keep p.1 p.2 ne nf nch e n,free p.1 p.2 nch e n,ne,nf,d⟩
theorem Inv.un{t':Nat}(I:Inv X pins σ H s)(u:Un X.fs [] H H' s.heap h')(hok:HOk X.prog X.w H' h'):Inv X pins σ H' { s with heap:=h',toks:=t' }:=by
 obtain⟨m,⟨o,es,ep,ho,r⟩,_⟩:=id I.loc;obtain⟨sl,hL⟩:=u.any ho I.free (by simp);exact I.step (g':=s.gens) (d':=s.drawn) (ch:=[]) (fun _ z=>nomatch z) (fun b o _ hb _ e n=>u.keep b o e n hb (by simp)) (fun b o _ hb _ e n=>u.slot b o e n hb (by simp)) (fun b o _ e n=>u.free b o e n (by simp)) (fun b o _ e=>u.there b o e (by simp)) u.tups u.frzs u.tbls (fun m' hm=>by
  obtain⟨o',es',ep',ho',r'⟩:=hm;rw[ho]at ho';cases ho';exact⟨_,es',ep',hL,r'⟩) hok I.bare
theorem Inv.call{g':Array GenState}{t':Nat}{d':Drawn}{ch:List Addr}(I:Inv X pins σ H s)(u:Un (frs X.stack) ch H H' s.heap h')(hok:HOk X.prog X.w H' h')(hg:AllBare g')
  (hch:∀ b∈ch,(b∈X.ex\/X.s₀.heap.objs.size<=b)/\b≠X.env.locals/\(∀ x c,X.env.cells.lookup x=some c->c≠b)/\∀ p∈X.pn++pins,p.1≠b) :
  Inv X pins σ H' { s with heap:=h',gens:=g',drawn:=d',toks:=t' }:=by
 obtain⟨m,⟨o,es,ep,ho,r⟩,_⟩:=id I.loc;obtain⟨sl,hL⟩:=u.any ho I.free fun z=>(hch _ z).2.1 rfl;exact I.step (ch:=ch) hch (fun b o hL hb hc e n=>u.keep b o e n (fun z=>(List.mem_cons.mp (I.stkSub b z)).elim hL hb) hc) (fun b o _ _ hc e n=>u.any e n hc) (fun b o hc e n=>u.free b o e n hc) (fun b o hc e=>u.there b o e hc) u.tups u.frzs u.tbls (fun m' hm=>by
  obtain⟨o',es',ep',ho',r'⟩:=hm;rw[ho]at ho';cases ho';exact⟨_,es',ep',hL,r'⟩) hok hg
theorem Inv.turned{t':Nat}{it:Addr}(I:Inv X pins σ H s)(k:∀ b o,b≠it->s.heap.get? b=some o->h'.get? b=some o)(hn:H it=none)(hL:it≠X.env.locals)
  (h1:it∈X.ex\/X.s₀.heap.objs.size<=it) (h2:∀ x c,X.env.cells.lookup x=some c->c≠it) (h3:∀ p∈X.pn++pins,p.1≠it):Inv X pins σ H { s with heap:=h',toks:=t' }:=by
 have nit:∀ b u,H b=some u->b≠it:=fun b u e z=>by rw[z,hn]at e;cases e
 refine I.step (g':=s.gens) (d':=s.drawn) (ch:=[it]) (fun b hb=>?_) (fun b o _ _ hc e _=>k b o (fun z=>hc (by simp[z])) e) (fun b o _ _ hc e _=>⟨o.slots,k b o (fun z=>hc (by simp[z])) e⟩) (fun _ _ _ _ n=>n)
  (fun b o hc e=>⟨o,k b o (fun z=>hc (by simp[z])) e⟩) (fun _ _ e=>e) (fun _ _ _ e=>e) (fun b ps e=>⟨#[],by rw[e];simp⟩) (fun m hm=>?_) (fun b u e=>?_) I.bare
 ·have e:b=it:=by simpa using hb
  subst e;exact⟨h1,hL,h2,h3⟩
 ·obtain⟨o,es,ep,ho,r⟩:=hm;exact⟨o,es,ep,k _ o (Ne.symm hL) ho,r⟩
 ·refine(I.hok b u e).stay (fun c v hc q=>k c v ?_ q) (fun _ q=>q) fun _ _ q=>q;rcases hc with z|z
  ·rw[z];exact nit b u e
  ·exact nit c _ z
theorem Inv.tok(I:Inv X pins σ H s)(t:Nat):Inv X pins σ H { s with toks:=t }:=I.un (h':=s.heap) (t':=t) Un.refl I.hok
theorem Inv.kept{t':Nat}(I:Inv X pins σ H s)(k:∀ b u,s.heap.get? b=some u->h'.get? b=some u):Inv X pins σ H { s with heap:=h',toks:=t' }:=I.un (Un.kept k) (I.hok.kept k)
theorem Inv.laid{a:Addr}{o:HO}{t':Nat}(I:Inv X pins σ H s)(k:∀ b u,s.heap.get? b=some u->h'.get? b=some u)(hp:s.heap.objs.size<=a)(new:ye1 X.prog X.w (upd H a o) h' a o) :
  Inv X pins σ (upd H a o) { s with heap:=h',toks:=t' }:=I.un (Un.laid k hp (I.hok.fresh hp)) (I.hok.laid k hp new)
theorem Inv.write{x e:Addr}{o:HO}{t':Nat}(I:Inv X pins σ H s)(mu:Mut (H x))(he:e=x\/H e=some (.own x))(k:∀ b u,b≠e->s.heap.get? b=some u->h'.get? b=some u)(heo:∃ u,h'.get? e=some u)
  (new:ye1 X.prog X.w (upd H x o) h' x o):Inv X pins σ (upd H x o) { s with heap:=h',toks:=t' }:=I.un (Un.write mu he k heo) (I.hok.write mu he k heo new)
theorem Inv.pins_of{pins':List (Addr × Obj)}(I:Inv X pins σ H s)(h:∀ p∈pins',s.heap.get? p.1=some p.2/\H p.1=none/\p.1≠X.env.locals/\p.1 ∉ X.fs/\∀ v,p.2.data≠.cell v):Inv X pins' σ H s:=
 ⟨I.ok,I.os,I.bare,I.base,I.loc,I.cell,I.free,I.freeC,fun p hp=>(List.mem_append.mp hp).elim (fun z=>I.pin p (List.mem_append_left _ z)) (h p),I.hok,I.len⟩
theorem zmz{N:List Str}(hN:N.Nodup){i j:Nat}{x:Str}(a:N[i]?=some x)(b:N[j]?=some x):i=j:=by
 obtain⟨h1,e1⟩:=List.getElem?_eq_some_iff.mp a;obtain⟨h2,e2⟩:=List.getElem?_eq_some_iff.mp b;exact(List.getElem_inj hN).mp (e1.trans e2.symm)
theorem zi5{M:Model}{A:Around}{E:Value->Shared->Prop}{i:Nat}{x:Str}{v:V}{u:Value}{Q:Unit->Shared->Prop}(I:Inv X pins σ H s)(hN:X.N.Nodup)(hi:X.N[i]?=some x)(hx:Loc X.env.scope x)(r:yk1 v u)
  (h:∀ s',Inv X pins (σ.set i (some v)) H s'->(∃ a,Heap.SameBut a s.heap s'.heap/\(a=X.env.locals\/X.env.cells.lookup x=some a))->Q () s') (hf:X.fn x=true\/X.env.scope.names.lookup x=some .local:=by first|exact .inl rfl|exact .inr rfl|assumption):wpAny M A (storeName X.env x u) Q E s:=by
 obtain⟨m,hn,hl⟩:=id I.loc;have hcls:(X.env.scope.kind == .class || (X.env.scope.kind == .module && X.env.locals != X.env.globals))=false:=by rw[I.ok.kind];rfl
 have hiσ:i<σ.length:=by rw[I.len];exact(List.getElem?_eq_some_iff.mp hi).1
 have cne:=I.cne;have tracked:∀ {a:Addr} {h':Heap},(∃ o,s.heap.get? a=some o/\H a=none)->Heap.SameBut a s.heap h'->HOk X.prog X.w H h':=fun {a h'} ha hs b ob e=>by
  obtain⟨_,_,hfree⟩:=ha;refine(I.hok b ob e).stay (fun c w' hc q=>(hs.2 c ?_).trans q) (fun _ q=>q) fun _ _ q=>q;rintro rfl;rcases hc with rfl|hc
  ·rw[hfree]at e;cases e
  ·rw[hfree]at hc;cases hc
 rcases hx with hk|hk
 ·refine wpAny_storeName_local hk hn (fun h' hn' hs=>?_) hcls;obtain⟨oL,_,_,hoL,_⟩:=id hn;refine h _ ⟨I.ok,I.os,I.bare,⟨fun b o e n hb hx=>?_,fun b o e n hb hx=>?_,I.base.free,fun b o e hx=>?_,I.base.tups,I.base.frzs,I.base.tbls⟩,⟨_,hn',fun j y v' e1 e2 e3=>?_⟩,fun y c e=>?_,I.free,I.freeC,fun p hp=>?_,tracked ⟨oL,hoL,I.free⟩ hs,by simpa using I.len⟩ ⟨_,hs,.inl rfl⟩
  ·exact(hs.2 b (Nat.ne_of_lt (Nat.lt_of_lt_of_le (Heap.lt_size e) I.ok.above))).trans (I.base.keep b o e n hb hx)
  ·obtain⟨sl,e1⟩:=I.base.slot b o e n hb hx;exact⟨sl,(hs.2 b (Nat.ne_of_lt (Nat.lt_of_lt_of_le (Heap.lt_size e) I.ok.above))).trans e1⟩
  ·obtain⟨o',e1⟩:=I.base.there b o e hx;exact⟨o',(hs.2 b (Nat.ne_of_lt (Nat.lt_of_lt_of_le (Heap.lt_size e) I.ok.above))).trans e1⟩
  ·by_cases hj:j=i
   ·subst hj;rw[hi]at e1;cases e1;rw[List.getElem?_set_self hiσ]at e2;cases e2;exact⟨u,r,.inl ⟨hk,by simp⟩⟩
   ·rw[List.getElem?_set_ne (Ne.symm hj)]at e2;obtain⟨u',r',q⟩:=hl j y v' e1 e2 e3;refine⟨u',r',?_⟩;rcases q with⟨k,e⟩|⟨k,c,e,z⟩
    ·refine .inl ⟨k,?_⟩;have:y≠x:=fun e=>hj (zmz hN e1 (e ▸ hi));simp[this,e]
    ·exact .inr ⟨k,c,e,z.sameBut hs (cne y c e)⟩
  ·obtain⟨w',z⟩:=I.cell y c e;exact⟨w',z.sameBut hs (cne y c e)⟩
  ·obtain⟨e,n,ne,nf,d⟩:=I.pin p hp;exact⟨(hs.2 p.1 ne).trans e,n,ne,nf,d⟩
 ·have hfn:X.fn x=true:=by
   rcases hf with z|z
   ·exact z
   ·rw[z]at hk;cases hk
  obtain⟨c,hc⟩:=I.ok.has x (.inl hk);obtain⟨w',z⟩:=I.cell x c hc;refine wpAny_storeName_cell I.ok.kind hk hc z (fun h' hc' hs=>?_);obtain⟨oc,hoc,hocd⟩:=id z;refine h { s with heap:=h' } ⟨I.ok,I.os,I.bare,⟨fun b o e n hb hx=>?_,fun b o e n hb hx=>?_,I.base.free,fun b o e hx=>?_,I.base.tups,I.base.frzs,I.base.tbls⟩,⟨m,hn.sameBut hs (Ne.symm (cne x c hc)),fun j y v' e1 e2 e3=>?_⟩,fun y c' e=>?_,I.free,I.freeC,fun p hp=>?_,tracked ⟨oc,hoc,I.freeC x c hc⟩ hs,by simpa using I.len⟩ ⟨c,hs,.inr hc⟩
  ·exact(hs.2 b (Nat.ne_of_lt (Nat.lt_of_lt_of_le (Heap.lt_size e) (I.ok.cab x c hfn hc)))).trans (I.base.keep b o e n hb hx)
  ·obtain⟨sl,e1⟩:=I.base.slot b o e n hb hx;exact⟨sl,(hs.2 b (Nat.ne_of_lt (Nat.lt_of_lt_of_le (Heap.lt_size e) (I.ok.cab x c hfn hc)))).trans e1⟩
  ·obtain⟨o',e1⟩:=I.base.there b o e hx;exact⟨o',(hs.2 b (Nat.ne_of_lt (Nat.lt_of_lt_of_le (Heap.lt_size e) (I.ok.cab x c hfn hc)))).trans e1⟩
  ·by_cases hj:j=i
   ·subst hj;rw[hi]at e1;cases e1;rw[List.getElem?_set_self hiσ]at e2;cases e2;exact⟨u,r,.inr ⟨.inl hk,c,hc,hc'⟩⟩
   ·rw[List.getElem?_set_ne (Ne.symm hj)]at e2;obtain⟨u',r',q⟩:=hl j y v' e1 e2 e3;refine⟨u',r',?_⟩;rcases q with q|⟨k,c',e,z'⟩
    ·exact .inl q
    ·refine .inr ⟨k,c',e,z'.sameBut hs ?_⟩;rintro rfl;exact hj (zmz hN e1 (I.ok.inj _ _ _ e hc ▸ hi))
  ·by_cases hcc:c'=c
   ·subst hcc;exact⟨_,hc'⟩
   ·obtain⟨w2,z2⟩:=I.cell y c' e;exact⟨w2,z2.sameBut hs hcc⟩
  ·obtain⟨e,n,ne,nf,d⟩:=I.pin p hp;refine⟨(hs.2 p.1 ?_).trans e,n,ne,nf,d⟩;intro q;rw[q,hoc]at e;have q':oc=p.2:=Option.some.inj e;exact d w' (by rw[<-q'];exact hocd)
theorem zoy{M:Model}{A:Around}{E:Value->Shared->Prop}{i:Nat}{x:Str}{v:V}{u:Value}{Q:Unit->Shared->Prop}(I:Inv X pins σ H s)(hN:X.N.Nodup)(hi:X.N[i]?=some x)(hx:Loc X.env.scope x)(r:yk1 v u)
  (h:∀ s',Inv X pins (σ.set i (some v)) H s'->Q () s') (hf:X.fn x=true\/X.env.scope.names.lookup x=some .local:=by first|exact .inl rfl|exact .inr rfl|assumption):wpAny M A (storeName X.env x u) Q E s:=
 zi5 I hN hi hx r (fun s' I' _=>h s' I') hf
theorem Inv.call'{s':Shared}{ch:List Addr}(I:Inv X pins σ H s)(ho:s'.os=s.os)(u:Un (frs X.stack) ch H H' s.heap s'.heap)(hok:HOk X.prog X.w H' s'.heap)(hg:AllBare s'.gens)
  (hch:∀ b∈ch,(b∈X.ex\/X.s₀.heap.objs.size<=b)/\b≠X.env.locals/\(∀ x c,X.env.cells.lookup x=some c->c≠b)/\∀ p∈X.pn++pins,p.1≠b):Inv X pins σ H' s':=by
 obtain⟨h',g',d',t',o'⟩:=s';have e:o'=s.os:=ho;subst e;exact I.call (g':=g') (t':=t') (d':=d') u hok hg hch
end
abbrev XK:=Value->Option Addr->Hp->Prop
abbrev St:=List (Option V)
abbrev VK:=V->Hp->Prop
abbrev TE:=St->Hp->VK->Prop
abbrev TT:=St->Hp->(Bool->Hp->Prop)->Prop
abbrev TA:=St->Hp->(List V->Hp->Prop)->Prop
structure Ends where
 nx:St->Hp->Prop
 rt:VK
 bk:St->Hp->Prop:=fun _ _=>False
 ct:St->Hp->Prop:=fun _ _=>False
abbrev TS:=Ends->St->Hp->Prop
def EP(X:Cx)(pins:List (Addr × Obj))(σ:St)(Q:VK)(u:Value)(s':Shared):Prop:=∃ v H',Inv X pins σ H' s'/\yk1 v u/\Q v H'
def TP(X:Cx)(pins:List (Addr × Obj))(σ:St)(Q:Bool->Hp->Prop)(b:Bool)(s':Shared):Prop:=∃ H',Inv X pins σ H' s'/\Q b H'
def AP(X:Cx)(pins:List (Addr × Obj))(σ:St)(Q:List V->Hp->Prop)(us:List Value)(s':Shared):Prop:=∃ vs H',Inv X pins σ H' s'/\yla vs us/\Q vs H'
def SP(X:Cx)(pins:List (Addr × Obj))(D:Ends)(f:Flow)(s':Shared):Prop:=
 match f with
 | .next=>∃ σ' H',Inv X pins σ' H' s'/\D.nx σ' H'
 | .brk=>∃ σ' H',Inv X pins σ' H' s'/\D.bk σ' H'
 | .cont=>∃ σ' H',Inv X pins σ' H' s'/\D.ct σ' H'
 | .ret u=>∃ v σ' H',Inv X pins σ' H' s'/\yk1 v u/\D.rt v H'
def PE(X:Cx)(e:Expr)(t:TE):Prop:=
 ∀ (pins:List (Addr × Obj)) (s:Shared) (σ:St) (H:Hp) (Q:VK),Inv X pins σ H s->t σ H Q->wpAny (model X.prog X.w) X.A (eval e X.env) (EP X pins σ Q) X.xe s
def PT(X:Cx)(e:Expr)(t:TT):Prop:=
 ∀ (pins:List (Addr × Obj)) (s:Shared) (σ:St) (H:Hp) (Q:Bool->Hp->Prop),Inv X pins σ H s->t σ H Q->wpAny (model X.prog X.w) X.A (isTrue e X.env (eval e X.env)) (TP X pins σ Q) X.xe s
def PW(X:Cx)(e:Expr)(t:TT):Prop:=
 ∀ (whole:Sem Value) (pins:List (Addr × Obj)) (s:Shared) (σ:St) (H:Hp) (Q:Bool->Hp->Prop),Inv X pins σ H s->t σ H Q->wpAny (model X.prog X.w) X.A (isTrue e X.env whole) (TP X pins σ Q) X.xe s
theorem PW.pt{X:Cx}{e:Expr}{t:TT}(h:PW X e t):PT X e t:=h _
def PA(X:Cx)(es:List Expr)(t:TA):Prop:=
 ∀ (pos:Pos) (pins:List (Addr × Obj)) (s:Shared) (σ:St) (H:Hp) (Q:List V->Hp->Prop),Inv X pins σ H s->t σ H Q->wpAny (model X.prog X.w) X.A (spliced (backTo pos (starEach es X.env))) (AP X pins σ Q) X.xe s
def PS(X:Cx)(st:Stmt)(t:TS):Prop:=
 ∀ (pins:List (Addr × Obj)) (s:Shared) (σ:St) (H:Hp) (D:Ends),Inv X pins σ H s->t D σ H->wpAny (model X.prog X.w) X.A (exec st X.env) (SP X pins D) X.xe s
def PSs(X:Cx)(st:List Stmt)(t:TS):Prop:=
 ∀ (pins:List (Addr × Obj)) (s:Shared) (σ:St) (H:Hp) (D:Ends),Inv X pins σ H s->t D σ H->wpAny (model X.prog X.w) X.A (execs st X.env) (SP X pins D) X.xe s
theorem thn{α:Type}{t:Sem α}{Q Q':α->Shared->Prop}{M:Model}{A:Around}{E:Value->Shared->Prop}{s:Shared}(h:wpAny M A t Q E s)(hQ:∀ a s,Q a s->Q' a s):wpAny M A t Q' E s:=wpAny_mono h hQ fun _ _ x=>x
end L2
namespace L2
open PySem PySem.Spec PyProof.Rows
section
variable{X:Cx}
theorem bin{a b:Expr}{ta tb:TE}(ha:PE X a ta)(hb:PE X b tb){pins:List (Addr × Obj)}{s:Shared}{σ:St}{H:Hp}{R:V->V->Hp->Prop}(I:Inv X pins σ H s)(h:ta σ H fun x H1=>tb σ H1 fun y H2=>R x y H2)
  {α:Type} {Q:α->Shared->Prop} {f:Value->Value->Sem α}
  (hf:∀ v u s2 x y H2,Inv X pins σ H2 s2->yk1 x v->yk1 y u->R x y H2->wpAny (model X.prog X.w) X.A (f v u) Q X.xe s2) :
  wpAny (model X.prog X.w) X.A (eval a X.env) (fun v s₁=>wpAny (model X.prog X.w) X.A (eval b X.env) (fun u s₂=>wpAny (model X.prog X.w) X.A (f v u) Q X.xe s₂) X.xe s₁) X.xe s:=by
 refine thn (ha pins s σ H _ I h) fun v s1 ⟨x,H1,I1,r1,q1⟩=>?_;refine thn (hb pins s1 σ H1 _ I1 q1) fun u s2 ⟨y,H2,I2,r2,q2⟩=>?_;exact hf v u s2 x y H2 I2 r1 r2 q2
def ypg(i:Nat):TE:=fun σ H Q=>∃ v,σ[i]?=some (some v)/\Q v H
def tC(v:V):TE:=fun _ H Q=>Q v H
theorem ycu{i:Nat}{x:Str}{pos:Pos}(hN:X.N[i]?=some x)(hv:Vis X.env.scope x)(hd:(x == ("__debug__" : Str))=false:=by decide)(hcd:(x == ("__classdict__" : Str))=false:=by decide):PE X (.Name x pos) (ypg i):=by
 intro pins s σ H Q I h;obtain⟨v,e,h⟩:=h;obtain⟨m,hn,hl⟩:=I.loc;obtain⟨u,r,l⟩:=hl i x v hN e hv;have fin:EP X pins σ Q u s:=⟨v,H,I,r,h⟩
 rcases l with⟨hk,hm⟩|⟨hk,c,hc,hcell⟩
 ·exact wpAny_Name (wpAny_loadName_local I.ok.kind hk hn hm fin) hd
 ·rcases hk with hk|hk
  ·exact wpAny_Name (wpAny_loadName_cell I.ok.kind hk hc hcell fin) hd
  ·exact wpAny_Name (wpAny_loadName_free I.ok.kind hk hc hcell fin hcd) hd
theorem ycn{i j pos}:PE X (.Constant (.int i) j pos) (tC (.int i)):=fun _ _ _ H _ I h=>wpAny_Constant_int ⟨.int i,H,I.tok _,⟨_,rfl⟩,h⟩
theorem yif{b j pos}:PE X (.Constant (.bool b) j pos) (tC (.bl b)):=fun _ _ _ H _ I h=>Constant_bool ⟨.bl b,H,I,rfl,h⟩
theorem ycp{j pos}:PE X (.Constant .none j pos) (tC .non):=fun _ _ _ H _ I h=>Constant_none ⟨.non,H,I,rfl,h⟩
theorem ycs{x j pos}:PE X (.Constant (.str x) j pos) (tC (.str x)):=fun _ _ _ H _ I h=>Calls.Constant_str ⟨.str x,H,I.tok _,⟨_,rfl⟩,h⟩
def Gl(X:Cx)(x:Str):Prop:=X.env.kindOf x=some .globalImplicit
theorem ztf{E:Value->Shared->Prop}{pins:List (Addr × Obj)}{s:Shared}{σ:St}{H:Hp}{x:Str}{u:Value}{pos:Pos}{Q:Value->Shared->Prop}(I:Inv X pins σ H s)(hg:Gl X x)(hm:X.mg x=some u)(h:Q u s)
  (hd:(x == ("__debug__" : Str))=false:=by decide):wpAny (model X.prog X.w) X.A (eval (.Name x pos) X.env) Q E s:=
 Calls.Name_function_global I.ok.kind hg (Calls.loadGlobal_global (by rw[I.ok.glob];exact I.mod.glob.keeps I.bk) hm h) hd
theorem ybc{E:Value->Shared->Prop}{pins:List (Addr × Obj)}{s:Shared}{σ:St}{H:Hp}{x:Str}{u:Value}{pos:Pos}{Q:Value->Shared->Prop}(I:Inv X pins σ H s)(hg:Gl X x)(hm:X.mg x=none)(hv:bootBuiltins x=some u)(h:Q u s)
  (hn:x ≠ "__name__":=by decide) (hd:(x == ("__debug__" : Str))=false:=by decide):wpAny (model X.prog X.w) X.A (eval (.Name x pos) X.env) Q E s:=by
 obtain⟨mb,h1,h2⟩:=I.mod.blt;exact Calls.Name_function_global I.ok.kind hg (Calls.loadGlobal_builtin (by rw[I.ok.glob];exact I.mod.glob.keeps I.bk) hm (by rw[I.ok.blt];exact h1.keeps I.bk) ((h2 x hn).trans hv) h) hd
theorem zux{x:Str}{v:V}{u:Value}{pos:Pos}(hg:Gl X x)(hm:X.mg x=some u)(r:yk1 v u)(hd:(x == ("__debug__" : Str))=false:=by decide):PE X (.Name x pos) (tC v):=
 fun _ _ _ H _ I h=>ztf I hg hm ⟨v,H,I,r,h⟩ hd
theorem zut{x:Str}{v:V}{u:Value}{pos:Pos}(hg:Gl X x)(hm:X.mg x=none)(hv:bootBuiltins x=some u)(r:yk1 v u)(hn:x ≠ "__name__":=by decide)(hd:(x == ("__debug__" : Str))=false:=by decide):PE X (.Name x pos) (tC v):=
 fun _ _ _ H _ I h=>ybc I hg hm hv ⟨v,H,I,r,h⟩ hn hd
variable{a b:Expr}{ta tb:TE}{pos:Pos}
def PC(X:Cx)(op:CmpOp)(a b:Expr)(t:TE):Prop:=
 ∀ (pins:List (Addr × Obj)) (s:Shared) (σ:St) (H:Hp) (Q:VK),Inv X pins σ H s->t σ H Q->
  wpAny (model X.prog X.w) X.A (eval a X.env) (fun v s₁=>wpAny (model X.prog X.w) X.A (eval b X.env) (fun u s₂=>wpAny (model X.prog X.w) X.A (compareOp op v u) (EP X pins σ Q) X.xe s₂) X.xe s₁) X.xe s
theorem zmx(b:Expr){op:CmpOp}(h:op≠.In)(h2:op≠.NotIn):behindInMarks op b=false:=by
 have e1:(op == CmpOp.In)=false:=by cases op<;>first|rfl|exact absurd rfl h
 have e2:(op == CmpOp.NotIn)=false:=by cases op<;>first|rfl|exact absurd rfl h2
 cases b<;>simp[behindInMarks,e1,e2]
def tB(t:TE):TT:=fun σ H Q=>t σ H fun x H1=>∃ c,x=.bl c/\Q c H1
theorem yc9{op:CmpOp}{t:TE}(h:PC X op a b t)(h1:behindInMarks op b=false:=by first|exact zmx _ (by decide) (by decide)|rfl):PT X (.Compare a [op] [b] pos) (tB t):=by
 intro pins s σ H Q I hw;refine wpAny_isTrue_Compare1 (thn (h pins s σ H _ I hw) fun v s1 h1=>thn h1 fun u s2 h2=>thn h2 fun c s3 ⟨x,H1,I1,r1,q1⟩=>?_) h1;obtain⟨d,rfl,q⟩:=q1;cases r1;exact wpAny_truthy_bool ⟨H1,I1,q⟩
theorem ydb{e:Expr}{t:TE}(h:PE X e t)(he:∀ whole,isTrue e X.env whole=(do let v <-whole;standAt e.pos;holding [v] (truthy v)):=by intro _;rfl):PT X e (tB t):=by
 intro pins s σ H Q I hw;refine isTrue_plain (thn (h pins s σ H _ I hw) fun v s1 ⟨x,H1,I1,r1,q1⟩=>?_) (he _);obtain⟨d,rfl,q⟩:=q1;cases r1;exact wpAny_truthy_bool ⟨H1,I1,q⟩
variable{tA tB':TT}{rest:List Expr}
def yo2(t u:TT):TT:=fun σ H Q=>t σ H fun c H1=>if c=true then u σ H1 Q else Q false H1
def tOr(t u:TT):TT:=fun σ H Q=>t σ H fun c H1=>if c=true then Q true H1 else u σ H1 Q
def ypb(t:TT):TT:=fun σ H Q=>t σ H fun c H1=>Q (!c) H1
theorem zvg(ha:PT X a tA):PW X (.BoolOp .And [a] pos) tA:=by
 intro wh pins s σ H Q I h;refine isTrue_and (thn (ha pins s σ H Q I h) fun c s1 e=>?_);cases c with
 |true=>exact isTrue_and_nil e
 |false=>exact e
theorem ydd(ha:PT X a tA):PW X (.BoolOp .Or [a] pos) tA:=by
 intro wh pins s σ H Q I h;refine isTrue_or (thn (ha pins s σ H Q I h) fun c s1 e=>?_);cases c with
 |false=>exact isTrue_or_nil e
 |true=>exact e
theorem ydc(ha:PT X a tA)(hb:PW X (.BoolOp .And (b::rest) pos) tB'):PW X (.BoolOp .And (a::b::rest) pos) (yo2 tA tB'):=by
 intro wh pins s σ H Q I h;refine isTrue_and (thn (ha pins s σ H _ I h) fun c s1 ⟨H1,I1,q1⟩=>?_);cases c with
 |true=>exact hb wh pins s1 σ H1 Q I1 q1
 |false=>exact⟨H1,I1,q1⟩
theorem yiq(ha:PT X a tA)(hb:PW X (.BoolOp .Or (b::rest) pos) tB'):PW X (.BoolOp .Or (a::b::rest) pos) (tOr tA tB'):=by
 intro wh pins s σ H Q I h;refine isTrue_or (thn (ha pins s σ H _ I h) fun c s1 ⟨H1,I1,q1⟩=>?_);cases c with
 |true=>exact⟨H1,I1,q1⟩
 |false=>exact hb wh pins s1 σ H1 Q I1 q1
theorem yda(ha:PT X a tA):PT X (.UnaryOp .Not a pos) (ypb tA):=by
 intro pins s σ H Q I h;exact isTrue_not (ha pins s σ H (fun c H1=>Q (!c) H1) I h)
def yjm(ta tb:TE):TE:=fun σ H Q=>ta σ H fun x H1=>∃ c,x=.bl c/\if c=true then tb σ H1 Q else Q (.bl false) H1
def ypc(ta tb:TE):TE:=fun σ H Q=>ta σ H fun x H1=>∃ c,x=.bl c/\if c=true then Q (.bl true) H1 else tb σ H1 Q
def yju(ta:TE):TE:=fun σ H Q=>ta σ H fun x H1=>∃ c,x=.bl c/\Q (.bl (!c)) H1
theorem ycr{op}{t:TE}(h:PE X a t):PE X (.BoolOp op [a] pos) t:=fun pins s σ H Q I hw=>BoolOp_one (h pins s σ H Q I hw)
theorem yck(ha:PE X a ta)(hb:PE X (.BoolOp .And (b::rest) pos) tb):PE X (.BoolOp .And (a::b::rest) pos) (yjm ta tb):=by
 intro pins s σ H Q I h;refine BoolOp_and (thn (ha pins s σ H _ I h) fun v s1 ⟨x,H1,I1,r1,q1⟩=>?_);obtain⟨c,rfl,q1⟩:=q1;cases r1;refine wpAny_truthy_bool ?_;cases c with
 |true=>exact hb pins s1 σ H1 Q I1 q1
 |false=>exact⟨.bl false,H1,I1,rfl,q1⟩
theorem yij(ha:PE X a ta)(hb:PE X (.BoolOp .Or (b::rest) pos) tb):PE X (.BoolOp .Or (a::b::rest) pos) (ypc ta tb):=by
 intro pins s σ H Q I h;refine BoolOp_or (thn (ha pins s σ H _ I h) fun v s1 ⟨x,H1,I1,r1,q1⟩=>?_);obtain⟨c,rfl,q1⟩:=q1;cases r1;refine wpAny_truthy_bool ?_;cases c with
 |false=>exact hb pins s1 σ H1 Q I1 q1
 |true=>exact⟨.bl true,H1,I1,rfl,q1⟩
theorem ycq(ha:PE X a ta):PE X (.UnaryOp .Not a pos) (yju ta):=by
 intro pins s σ H Q I h;refine UnaryOp_ (thn (ha pins s σ H _ I h) fun v s1 ⟨x,H1,I1,r1,q1⟩=>?_);obtain⟨c,rfl,q1⟩:=q1;cases r1;exact not_of (wpAny_truthy_bool ⟨.bl (!c),H1,I1,rfl,q1⟩)
end
end L2
namespace L2
open PySem PySem.Spec PyProof.Rows
def SqL(K:PySem.W.Frag)(H:Hp)(a:Addr)(xs:List V):Prop:=
 Rd H a (.lst xs)\/
  ∃ (o:Obj) (its:Array Value) (n:Nat),K.lookup a=some o/\o.cls=.type "list"/\o.dict=none/\o.data=.seq its n/\its.size<=sizeLine/\yla xs its.toList
def SqT(K:PySem.W.Frag)(H:Hp)(a:Addr)(xs:List V):Prop:=
 Rd H a (.tup xs)\/
  ∃ (o:Obj) (its:Array Value) (n:Nat),K.lookup a=some o/\o.cls=.type "tuple"/\o.data=.seq its n/\its.size<=sizeLine/\yla xs its.toList
def ylf:Value->Option V
 | .none=>some .non
 | .bool b=>some (.bl b)
 | .int i _=>some (.int i)
 | .str x _=>some (.str x)
 | .bytes b _=>some (.byt b)
 | .float b _=>some (.flt b)
 | .ref a=>some (.ref a)
 | .type n=>some (.ty n)
 |_=>none
theorem yk1.abs{x:V}{u:Value}(r:yk1 x u):ylf u=some x:=by
 cases x with
 |non=>cases r;rfl
 |bl _=>cases r;rfl
 |int _=>obtain⟨t,rfl⟩:=r;rfl
 |str _=>obtain⟨t,rfl⟩:=r;rfl
 |byt _=>obtain⟨t,rfl⟩:=r;rfl
 |flt _=>obtain⟨t,rfl⟩:=r;rfl
 |ref _=>cases r;rfl
 |ty _=>cases r;rfl
theorem yk1.inj{x y:V}{u:Value}(r:yk1 x u)(q:yk1 y u):x=y:=Option.some.inj (r.abs.symm.trans q.abs)
theorem yla.inj:∀ {xs ys:List V} {us:List Value},yla xs us->yla ys us->xs=ys
 |_,_,_,.nil,.nil=>rfl
 |_,_,_,.cons r t,.cons r' t'=>by rw[r.inj r',yla.inj t t']
section
variable{X:Cx}{pins:List (Addr × Obj)}{σ:St}{H:Hp}{s:Shared}{a:Addr}{xs ys:List V}
theorem SqL.of{K:PySem.W.Frag}(h:H a=some (.lst xs)):SqL K H a xs:=.inl (.inl h)
theorem SqT.of{K:PySem.W.Frag}(h:H a=some (.tup xs)):SqT K H a xs:=.inl (.inl h)
theorem Inv.list(I:Inv X pins σ H s)(h:SqL X.K H a xs):∃ its:List Value,yla xs its/\PlainL s.heap a its.toArray/\xs.length<=sizeLine:=by
 rcases h with h|⟨o,its,n,hk,hc,hd,hs,hz,r⟩
 ·obtain⟨z,its,n,r,e⟩:=h.ok I.hok;exact⟨its,r,⟨_,n,e,rfl,rfl,rfl⟩,z⟩
 ·refine⟨its.toList,r,⟨o,n,I.kIn a o hk,hc,hd,by simpa using hs⟩,?_⟩;have e:=r.length;simp only[Array.length_toList]at e;omega
theorem Inv.tuple(I:Inv X pins σ H s)(h:SqT X.K H a xs):∃ its:List Value,yla xs its/\IsTup s.heap a its.toArray/\xs.length<=sizeLine:=by
 rcases h with h|⟨o,its,n,hk,hc,hs,hz,r⟩
 ·obtain⟨z,its,r,p⟩:=h.ok I.hok;exact⟨its,r,p,z⟩
 ·refine⟨its.toList,r,⟨o,I.kIn a o hk,hc,n,by simpa using hs⟩,?_⟩;have e:=r.length;simp only[Array.length_toList]at e;omega
theorem Inv.list_inj(I:Inv X pins σ H s)(h:SqL X.K H a xs)(h':SqL X.K H a ys):xs=ys:=by
 obtain⟨its,r,⟨o,n,e,_,_,d⟩,_⟩:=I.list h;obtain⟨its',r',⟨o',n',e',_,_,d'⟩,_⟩:=I.list h';rw[e]at e';cases e';rw[d]at d';injection d' with d1 _;have:its=its':=by simpa using congrArg Array.toList d1
 subst this;exact r.inj r'
theorem Inv.tuple_inj(I:Inv X pins σ H s)(h:SqT X.K H a xs)(h':SqT X.K H a ys):xs=ys:=by
 obtain⟨its,r,⟨o,e,_,n,d⟩,_⟩:=I.tuple h;obtain⟨its',r',⟨o',e',_,n',d'⟩,_⟩:=I.tuple h';rw[e]at e';cases e';rw[d]at d';injection d' with d1 _;have:its=its':=by simpa using congrArg Array.toList d1
 subst this;exact r.inj r'
end
abbrev Cx.wish(X:Cx)(E:Value->Shared->Prop):Cx:={ X with xe:=E }
abbrev Cx.nox(X:Cx):Cx:=X.wish fun _ _=>False
theorem Cx.Ok.wish{X:Cx}(ok:X.Ok)(E:Value->Shared->Prop):(X.wish E).Ok:=
 ⟨ok.mod,ok.kind,ok.glob,ok.blt,ok.above,ok.inj,ok.has,ok.cab,ok.hd,ok.frames,ok.stk,ok.exf,ok.bs,ok.bsz,ok.noex,ok.exfs,ok.funs,ok.frf⟩
theorem Cx.Ok.unwish{X:Cx}{E:Value->Shared->Prop}(ok:(X.wish E).Ok):X.Ok:=
 ⟨ok.mod,ok.kind,ok.glob,ok.blt,ok.above,ok.inj,ok.has,ok.cab,ok.hd,ok.frames,ok.stk,ok.exf,ok.bs,ok.bsz,ok.noex,ok.exfs,ok.funs,ok.frf⟩
section
variable{X:Cx}{pins:List (Addr × Obj)}{σ:St}{H:Hp}{s:Shared}{E:Value->Shared->Prop}
theorem Inv.wish(I:Inv X pins σ H s)(E:Value->Shared->Prop):Inv (X.wish E) pins σ H s:=⟨I.ok.wish E,I.os,I.bare,I.base,I.loc,I.cell,I.free,I.freeC,I.pin,I.hok,I.len⟩
theorem Inv.unwish(I:Inv (X.wish E) pins σ H s):Inv X pins σ H s:=⟨I.ok.unwish,I.os,I.bare,I.base,I.loc,I.cell,I.free,I.freeC,I.pin,I.hok,I.len⟩
theorem SP.unwish{D:Ends}{f:Flow}{s':Shared}(h:SP (X.wish E) pins D f s'):SP X pins D f s':=by
 cases f with
 |next=>obtain⟨σ',H',I,q⟩:=h;exact⟨σ',H',I.unwish,q⟩
 |brk=>obtain⟨σ',H',I,q⟩:=h;exact⟨σ',H',I.unwish,q⟩
 |cont=>obtain⟨σ',H',I,q⟩:=h;exact⟨σ',H',I.unwish,q⟩
 |ret u=>obtain⟨v,σ',H',I,r,q⟩:=h;exact⟨v,σ',H',I.unwish,r,q⟩
theorem PE.nox{e:Expr}{t:TE}(h:PE X.nox e t):PE X e t:=fun pins s σ H Q I hw=>
 wpAny_mono (h pins s σ H Q (I.wish _) hw) (fun _ _ ⟨v,H',I',r,q⟩=>⟨v,H',I'.unwish,r,q⟩) fun _ _ z=>False.elim z
theorem PT.nox{e:Expr}{t:TT}(h:PT X.nox e t):PT X e t:=fun pins s σ H Q I hw=>
 wpAny_mono (h pins s σ H Q (I.wish _) hw) (fun _ _ ⟨H',I',q⟩=>⟨H',I'.unwish,q⟩) fun _ _ z=>False.elim z
theorem PSs.nox{st:List Stmt}{t:TS}(h:PSs X.nox st t):PSs X st t:=fun pins s σ H D I hw=>
 wpAny_mono (h pins s σ H D (I.wish _) hw) (fun _ _ q=>q.unwish) fun _ _ z=>False.elim z
end
section
variable{X:Cx}{st:Stmt}{rest:List Stmt}{t u:TS}{e:Expr}{te:TE}{pos:Pos}
def yjt:TS:=fun D σ H=>D.nx σ H
def ype(t u:TS):TS:=fun D σ H=>t { D with nx:=u D } σ H
theorem zvb:PSs X [] yjt:=fun _ _ σ H _ I h=>wpAny_execs_nil ⟨σ,H,I,h⟩
theorem znp(h1:PS X st t)(h2:PSs X rest u):PSs X (st::rest) (ype t u):=by
 intro pins s σ H D I h;refine wpAny_execs_cons (thn (h1 pins s σ H { D with nx:=u D } I h) fun f s1 q=>?_);cases f with
 |next=>
  obtain⟨σ',H',I',q⟩:=q;exact h2 pins s1 σ' H' D I' q
 |ret v=>exact q
 |brk=>exact q
 |cont=>exact q
theorem zvc(h1:PS X st t):PSs X [st] t:=by
 intro pins s σ H D I h;refine wpAny_execs_cons (thn (h1 pins s σ H D I h) fun f s1 q=>?_);cases f with
 |next=>exact wpAny_execs_nil q
 |ret v=>exact q
 |brk=>exact q
 |cont=>exact q
theorem Inv.quiet{pins:List (Addr × Obj)}{σ:St}{H:Hp}{s:Shared}(I:Inv X pins σ H s):interactive X.env=false:=by simp[interactive,I.ok.kind]
def yjr(te:TE):TS:=fun D σ H=>te σ H fun _ H1=>D.nx σ H1
theorem zva(he:PE X e te)(hs:swapsWith e none pos.line X.env=pure false:=by rfl):PS X (.Expr e pos) (yjr te):=by
 intro pins s σ H D I h;exact wpAny_Expr_any (thn (he pins s σ H _ I h) fun v s1 ⟨x,H1,I1,r1,q1⟩=>⟨σ,H1,I1,q1⟩) I.quiet hs
def ypd(te:TE):TS:=fun D σ H=>te σ H D.rt
theorem yc7(he:PE X e te):PS X (.Return (some e) pos) (ypd te):=by
 intro pins s σ H D I h;exact wpAny_Return_some (thn (he pins s σ H _ I h) fun v s1 ⟨x,H1,I1,r1,q1⟩=>⟨x,σ,H1,I1,r1,q1⟩)
def yo8(c:TT)(t u:TS):TS:=fun D σ H=>c σ H fun b H1=>if b=true then t D σ H1 else u D σ H1
theorem yim{c:Expr}{a b:List Stmt}{tc:TT}(hc:PT X c tc)(ha:PSs X a t)(hb:PSs X b u):PS X (.If c a b pos) (yo8 tc t u):=by
 intro pins s σ H D I h;refine wpAny_If (thn (hc pins s σ H _ I h) fun d s1 ⟨H1,I1,q1⟩=>?_);cases d with
 |true=>exact ha pins s1 σ H1 D I1 q1
 |false=>exact hb pins s1 σ H1 D I1 q1
end
abbrev TG:=V->St->Hp->(St->Hp->Prop)->Prop
abbrev TGs:=List V->St->Hp->(St->Hp->Prop)->Prop
def PG(X:Cx)(target:Expr)(t:TG):Prop:=
 ∀ (pins:List (Addr × Obj)) (s:Shared) (σ:St) (H:Hp) (v:V) (u:Value) (Q:St->Hp->Prop),Inv X pins σ H s->yk1 v u->t v σ H Q->
  wpAny (model X.prog X.w) X.A (assign target X.env u) (fun _ s'=>∃ σ' H',Inv X pins σ' H' s'/\Q σ' H') X.xe s
def PGs(X:Cx)(ts:List Expr)(t:TGs):Prop:=
 ∀ (pins:List (Addr × Obj)) (s:Shared) (σ:St) (H:Hp) (vs:List V) (us:List Value) (Q:St->Hp->Prop),Inv X pins σ H s->yla vs us->t vs σ H Q->
  wpAny (model X.prog X.w) X.A (assignInOrder ((assignEach ts X.env).map (·.2)) us) (fun _ s'=>∃ σ' H',Inv X pins σ' H' s'/\Q σ' H') X.xe s
abbrev yk7:=V->V->V->Hp->(Hp->Prop)->Prop
def ykx(X:Cx)(t:yk7):Prop:=
 ∀ (pins:List (Addr × Obj)) (s:Shared) (σ:St) (H:Hp) (o i v:V) (ov iv u:Value) (Q:Hp->Prop),Inv X pins σ H s->yk1 o ov->yk1 i iv->yk1 v u->t o i v H Q->
  wpAny (model X.prog X.w) X.A (setItem ov iv u) (fun _ s'=>∃ H',Inv X pins σ H' s'/\Q H') X.xe s
abbrev TIp:=V->V->Hp->VK->Prop
def PIp(X:Cx)(op:Operator)(t:TIp):Prop:=
 ∀ (pins:List (Addr × Obj)) (s:Shared) (σ:St) (H:Hp) (x y:V) (v u:Value) (Q:VK),Inv X pins σ H s->yk1 x v->yk1 y u->t x y H Q->
  wpAny (model X.prog X.w) X.A (inplaceOp op v u) (EP X pins σ Q) X.xe s
section
variable{X:Cx}{pos:Pos}
def ygr(i:Nat):TG:=fun v σ H Q=>Q (σ.set i (some v)) H
theorem zuy{i:Nat}{x:Str}(hN:X.N.Nodup)(hi:X.N[i]?=some x)(hx:Loc X.env.scope x)(hf:X.fn x=true\/X.env.scope.names.lookup x=some .local:=by first|exact .inl rfl|exact .inr rfl|assumption):PG X (.Name x pos) (ygr i):=by
 intro pins s σ H v u Q I r h;exact wpAny_assign_Name (zoy I hN hi hx r (fun s' I'=>⟨_,H,I',h⟩) hf)
def ymj:TGs:=fun vs σ H Q=>vs=[]/\Q σ H
def ygq(t:TG)(u:TGs):TGs:=fun vs σ H Q=>∃ v r,vs=v::r/\t v σ H fun σ' H'=>u r σ' H' Q
theorem zuz:PGs X [] ymj:=by
 intro pins s σ H vs us Q I r h;obtain⟨e,h⟩:=h;subst e;cases r;exact assignInOrder_nil ⟨σ,H,I,h⟩
theorem znk{e:Expr}{es:List Expr}{t:TG}{u:TGs}(h1:PG X e t)(h2:PGs X es u)
  (hs:(assignEach (e::es) X.env).map (·.2)=assign e X.env::(assignEach es X.env).map (·.2):=by rfl):PGs X (e::es) (ygq t u):=by
 intro pins s σ H vs us Q I r h;obtain⟨v,vr,e1,h⟩:=h;subst e1;cases r with
 |cons r rr=>
  rw[hs];refine assignInOrder_cons (thn (h1 pins s σ H _ _ _ I r h) fun _ s1 ⟨σ1,H1,I1,q1⟩=>?_);exact h2 pins s1 σ1 H1 _ _ Q I1 rr q1
def yml(K:PySem.W.Frag)(n:Nat)(t:TGs):TG:=fun v σ H Q=>∃ a xs,v=.ref a/\SqT K H a xs/\xs.length=n/\t xs σ H Q
theorem ycw{es:List Expr}{k:Nat}{t:TGs}{n:Nat}(hc:X.calm=true)(h:PGs X es t)
  (hn:(assignEach es X.env).length=n:=by rfl) (hst:(assignEach es X.env).findIdx? (·.1)=none:=by rfl):PG X (.Tuple es k pos) (yml X.K n t):=by
 intro pins s σ H v u Q I r hw;obtain⟨a,xs,e1,hq,hl,hw⟩:=hw;subst e1;cases r;obtain⟨its,rv,ht,hz⟩:=I.tuple hq;refine assign_Tuple_tuple (I.ok.hd hc) ht (by simp[hn,<-hl,rv.length]) hst fun h' hx=>?_;have I1:Inv X pins σ H { s with heap:=h' }:=I.kept (t':=s.toks) fun b o e=>hx b o (Nat.ne_of_lt (Heap.lt_size e)) e;exact h pins _ σ H xs _ Q I1 (by simpa using rv) hw
def ymk(to ti:TE)(t:yk7):TG:=fun v σ H Q=>to σ H fun o H1=>ti σ H1 fun i H2=>t o i v H2 fun H3=>Q σ H3
theorem ycv{o i:Expr}{to ti:TE}{t:yk7}(ho:PE X o to)(hi:PE X i ti)(hs:ykx X t)
  (ha:∀ v,assign (.Subscript o i pos) X.env v=(do
   let ov <-holding [v] (eval o X.env);let iv <-holding [v,ov] (eval i X.env)
   standAt pos
   holding [v,ov,iv] (setItem ov iv v)
   release [v,ov,iv] []):=by intro _;rfl):PG X (.Subscript o i pos) (ymk to ti t):=by
 intro pins s σ H v u Q I r h;rw[ha];refine wpAny_bind (wpAny_holding (thn (ho pins s σ H _ I h) fun ov s1 ⟨x,H1,I1,r1,q1⟩=>?_));refine wpAny_bind (wpAny_holding (thn (hi pins s1 σ H1 _ I1 q1) fun iv s2 ⟨y,H2,I2,r2,q2⟩=>?_));refine wpAny_bind (wpAny_standAt (wpAny_bind (wpAny_holding (thn (hs pins s2 σ H2 x y v ov iv u _ I2 r1 r2 r q2) fun _ s3 ⟨H3,I3,q3⟩=>?_))));exact wpAny_release ⟨σ,H3,I3,q3⟩
def yo3(te:TE)(g:TG):TS:=fun D σ H=>te σ H fun x H1=>g x σ H1 D.nx
theorem yc3{tg e:Expr}{te:TE}{g:TG}(he:PE X e te)(hg:PG X tg g)(hs:swapsWithSole [tg] e pos.line X.env=pure false:=by rfl)(hw:swappedStores [tg] e X.env=pure none:=by rfl)
  (h1:(assignEach [tg] X.env).map (·.2)=[assign tg X.env]:=by rfl):PS X (.Assign [tg] e pos) (yo3 te g):=by
 intro pins s σ H D I h;refine wpAny_Assign_stores (thn (he pins s σ H _ I h) fun v s1 ⟨x,H1,I1,r1,q1⟩=>?_) hs hw;rw[h1];exact thn (hg pins s1 σ H1 x v _ I1 r1 q1) fun _ s2 q=>q
theorem yc8{i:Nat}{x:Str}{e:Expr}{te:TE}{pos':Pos}(hN:X.N.Nodup)(hi:X.N[i]?=some x)(hx:Loc X.env.scope x)(he:PE X e te)(hs:swapsWith e (some (.Name x pos')) pos.line X.env=pure false:=by rfl)(hf:X.fn x=true\/X.env.scope.names.lookup x=some .local:=by first|exact .inl rfl|exact .inr rfl|assumption) :
  PS X (.Assign [.Name x pos'] e pos) (yo3 te (ygr i)):=by
 intro pins s σ H D I h;refine wpAny_Assign_Name (thn (he pins s σ H _ I h) fun v s1 ⟨y,H1,I1,r1,q1⟩=>?_) hs;exact zoy I1 hN hi hx r1 (fun s2 I2=>⟨_,H1,I2,q1⟩) hf
def yo4(i:Nat)(te:TE)(ti:TIp):TS:=fun D σ H=>∃ x,σ[i]?=some (some x)/\te σ H fun y H1=>ti x y H1 fun z H2=>D.nx (σ.set i (some z)) H2
theorem yc4{i:Nat}{x:Str}{e:Expr}{te:TE}{op:Operator}{ti:TIp}{pos':Pos}(hN:X.N.Nodup)(hi:X.N[i]?=some x)(hx:Loc X.env.scope x)(he:PE X e te)(ho:PIp X op ti)(hf:X.fn x=true\/X.env.scope.names.lookup x=some .local:=by first|exact .inl rfl|exact .inr rfl|assumption) :
  PS X (.AugAssign (.Name x pos') op e pos) (yo4 i te ti):=by
 intro pins s σ H D I h;obtain⟨v,e1,h⟩:=h;obtain⟨m,hn,hl⟩:=I.loc;have vis:Vis X.env.scope x:=by rcases hx with k|k;exact .inl k;exact .inr (.inl k)
 obtain⟨u,r,l⟩:=hl i x v hi e1 vis;refine wpAny_AugAssign_Name ?_;have go:wpAny (model X.prog X.w) X.A (eval e X.env) (fun w s₂=>wpAny (model X.prog X.w) X.A (inplaceOp op u w) (fun r s₃=>wpAny (model X.prog X.w) X.A (storeName X.env x r) (fun _=>SP X pins D .next) X.xe s₃) X.xe s₂) X.xe s:=by
  refine thn (he pins s σ H _ I h) fun w s1 ⟨y,H1,I1,r1,q1⟩=>?_;refine thn (ho pins s1 σ H1 v y u w _ I1 r r1 q1) fun z s2 ⟨zv,H2,I2,r2,q2⟩=>?_;exact zoy I2 hN hi hx r2 (fun s3 I3=>⟨_,H2,I3,q2⟩) hf
 rcases l with⟨hk,hm⟩|⟨hk,c,hc,hcell⟩
 ·exact wpAny_loadName_local I.ok.kind hk hn hm go
 ·rcases hk with hk|hk
  ·exact wpAny_loadName_cell I.ok.kind hk hc hcell go
  ·rcases hx with k|k
   ·have:X.env.scope.names.lookup x=some .free:=hk;rw[k]at this;cases this
   ·have:X.env.scope.names.lookup x=some .free:=hk;rw[k]at this;cases this
def ipI(f:Int->Int->Int):TIp:=fun x y H Q=>∃ i j,x=.int i/\y=.int j/\Q (.int (f i j)) H
theorem yap:PIp X .Add (ipI fun i j=>i+j):=by
 intro pins s σ H x y v u Q I r1 r2 h;obtain⟨i,j,e1,e2,q⟩:=h;subst e1;subst e2;obtain⟨t,rfl⟩:=r1;obtain⟨t',rfl⟩:=r2;exact iadd_int ⟨.int _,H,I.tok _,⟨_,rfl⟩,q⟩
end
section
variable{X:Cx}{pos:Pos}
end
structure It where
 go:Nat->Hp->Prop
 yld:Nat->Hp->V->Hp->Prop
 stop:Nat->Hp->Prop
def ykp(X:Cx)(pins:List (Addr × Obj))(H:Hp)(b:Addr):Prop:=
 H b=none/\b≠X.env.locals/\b ∉ X.fs/\(b∈X.ex\/X.s₀.heap.objs.size<=b)/\(∀ x c,X.env.cells.lookup x=some c->c≠b)/\∀ p∈X.pn++pins,p.1≠b
theorem Inv.fpOk{X:Cx}{pins:List (Addr × Obj)}{σ:St}{H H':Hp}{s:Shared}{b:Addr}(I:Inv X pins σ H s)(hb:s.heap.objs.size<=b)(hn:H' b=none):ykp X pins H' b:=by
 refine⟨hn,Nat.ne_of_gt (Nat.lt_of_lt_of_le I.lt hb),I.nofs hb,.inr (Nat.le_trans I.sz hb),fun x c e z=>?_,fun p hp z=>?_⟩
 ·obtain⟨v,q⟩:=I.cell x c e;exact absurd (Nat.lt_of_lt_of_le q.lt (by rw[z];exact hb)) (Nat.lt_irrefl _)
 ·exact absurd (Nat.lt_of_lt_of_le (Heap.lt_size (I.pin p hp).1) (by rw[z];exact hb)) (Nat.lt_irrefl _)
structure Turn(P:Program)(w:World)(K:PySem.W.Frag)(tg:Expr)(J:It)(fp:List Addr)(it:Addr)(tn:Nat->Heap->Prop):Prop where
 mem:it∈fp
 obj:∀ i h,tn i h->∀ b∈fp,∃ o,h.get? b=some o/\∀ v,o.data≠.cell v
 keep:∀ i h h',tn i h->(∀ b∈fp,∀ o,h.get? b=some o->h'.get? b=some o)->tn i h'
 item:∀ (X:Cx),X.prog=P->X.w=w->X.K=K->X.calm=true->∀ (i:Nat) (pins:List (Addr × Obj)) (s:Shared) (σ:St) (H:Hp) (E:Value->Shared->Prop),Inv X pins σ H s->(∀ b∈fp,ykp X pins H b)->tn i s.heap->J.go i H->
  wpAny (model P w) X.A (pyNext (.ref it)) (fun r s1=>∃ u,r=some u/\
   wpAny (model P w) X.A (letOwnedTupleGo tg (.ref it) u) (fun _ s2=>∃ x H',Inv X pins σ H' s2/\yk1 x u/\J.yld i H x H'/\tn (i+1) s2.heap/\∀ b∈fp,H' b=none) E s1) E s
 done:∀ (X:Cx),X.prog=P->X.w=w->X.K=K->X.calm=true->∀ (i:Nat) (pins:List (Addr × Obj)) (s:Shared) (σ:St) (H:Hp) (E:Value->Shared->Prop),Inv X pins σ H s->(∀ b∈fp,ykp X pins H b)->tn i s.heap->J.stop i H->
  wpAny (model P w) X.A (pyNext (.ref it)) (fun r s1=>r=none/\Inv X pins σ H s1) E s
 self:∀ (A:Around) (i:Nat) (s:Shared) (Q:Value->Shared->Prop) (E:Value->Shared->Prop),tn i s.heap->Q (.ref it) s->wpAny (model P w) A (pyIter (.ref it)) Q E s
abbrev TI:=St->Hp->(It->Hp->Prop)->Prop
def PIE(X:Cx)(pins:List (Addr × Obj))(σ:St)(tg:Expr)(R:It->Hp->Prop)(itv:Value)(s2:Shared):Prop:=
 ∃ (it:Addr) (fp:List Addr) (tn:Nat->Heap->Prop) (J:It) (H':Hp),itv=.ref it/\Inv X pins σ H' s2/\Turn X.prog X.w X.K tg J fp it tn/\tn 0 s2.heap/\(∀ b∈fp,ykp X pins H' b)/\R J H'
def PI(X:Cx)(tg iter:Expr)(wi:TI):Prop:=
 ∀ (pins:List (Addr × Obj)) (s:Shared) (σ:St) (H:Hp) (R:It->Hp->Prop),Inv X pins σ H s->wi σ H R->
  wpAny (model X.prog X.w) X.A (eval iter X.env) (fun v s1=>wpAny (model X.prog X.w) X.A (pyIter v) (PIE X pins σ tg R) X.xe s1) X.xe s
theorem ygt {M : Model} {A : Around} {E : Value -> Shared -> Prop} {s : Shared} {tg : Expr} {it : Addr} {u : Value} {o : Obj} {n : String} {vs : Array Value} {Q : Unit -> Shared -> Prop} (ho : s.heap.get? it = some o) (hc : o.cls = .type n) (hd : o.data = .fields vs)
    (hn : ["enumerate", "zip", "dict_itemiterator", "dict_reverseitemiterator", "odict_iterator", "itertools.zip_longest", "itertools.pairwise"].contains n = false) (hQ : Q () s) : wpAny M A (letOwnedTupleGo tg (.ref it) u) Q E s := by
  unfold letOwnedTupleGo;cases tg <;> first
    | exact wpAny_pure hQ
    | (cases u <;> first
        | exact wpAny_pure hQ
        | (refine wpAny_bind (wpAny_load ho ?_)
           rw [hc, hd];show wpAny M A (if (["enumerate", "zip", "dict_itemiterator", "dict_reverseitemiterator", "odict_iterator", "itertools.zip_longest", "itertools.pairwise"].contains n && vs[0]? == some (rawInt _)) = true then _ else _) Q E s;rw [if_neg (by intro h; rw [hn, Bool.false_and] at h; cases h)];exact wpAny_pure hQ))
def Itl(K:PySem.W.Frag)(a:Addr):It:=
 ⟨fun i H=>∃ xs x,SqL K H a xs/\xs[i]?=some x,fun i H x H'=>H'=H/\∀ xs,SqL K H a xs->xs[i]?=some x,fun i H=>∃ xs,SqL K H a xs/\xs.length<=i⟩
def Itt(K:PySem.W.Frag)(a:Addr):It:=
 ⟨fun i H=>∃ xs x,SqT K H a xs/\xs[i]?=some x,fun i H x H'=>H'=H/\∀ xs,SqT K H a xs->xs[i]?=some x,fun i H=>∃ xs,SqT K H a xs/\xs.length<=i⟩
def Itr(lo:Int)(n:Nat):It:=⟨fun i _=>i<n,fun i H x H'=>H'=H/\x=.int (lo+i),fun i _=>n<=i⟩
theorem zjc{P:Program}{w:World}{K:PySem.W.Frag}{tg:Expr}(a it:Addr):Turn P w K tg (Itl K a) [it] it (fun i h=>h.IsListIter it a i) where
 mem:=by simp
 obj:=fun i h st b hb=>by
  have e:b=it:=by simpa using hb
  subst e;obtain⟨o,e,c,d⟩:=st;exact⟨o,e,fun v z=>by rw[d]at z;cases z⟩
 keep:=fun i h h' st k=>st.at fun o e=>k it (by simp) o e
 item:=by
  intro X hP hw hK hc i pins s σ H E I hf st hg;subst hP hw hK;obtain⟨xs,x,hq,hx⟩:=hg;obtain⟨its,rv,p,hz⟩:=I.list hq;obtain⟨u,hu,ru⟩:=rv.get hx;obtain⟨f0,f1,f2,f3,f4,f5⟩:=hf it (by simp);refine wpAny_pyNext_list_item st p.isList (x:=u) (by simpa using hu) fun h' st' sb=>?_;have I1:Inv X pins σ H { s with heap:=h' }:=I.turned (t':=s.toks) (fun b o hb e=>(sb.2 b hb).trans e) f0 f1 f3 f4 f5;obtain⟨o,e,c,d⟩:=id st';exact⟨u,rfl,ygt (s:={ s with heap:=h' }) e c d (by decide) ⟨x,H,I1,ru,⟨rfl,fun ys hy=>by rw[I.list_inj hy hq];exact hx⟩,st',fun b hb=>(hf b hb).1⟩⟩
 done:=by
  intro X hP hw hK hc i pins s σ H E I hf st hg;subst hP hw hK;obtain⟨xs,hq,hx⟩:=hg;obtain⟨its,rv,p,hz⟩:=I.list hq;obtain⟨f0,f1,f2,f3,f4,f5⟩:=hf it (by simp);have hl:=rv.length;exact wpAny_pyNext_list_end (I.ok.hd hc) st p.isList (by simp;omega) fun h' eb=>⟨rfl,I.turned (t':=s.toks) (fun b o hb e=>eb b o hb e) f0 f1 f3 f4 f5⟩
 self:=fun _ _ _ _ _ st h=>wpAny_pyIter_listiter st h
theorem zgc{P:Program}{w:World}{K:PySem.W.Frag}{tg:Expr}(a it:Addr):Turn P w K tg (Itt K a) [it] it (fun i h=>h.IsTupleIter it a i) where
 mem:=by simp
 obj:=fun i h st b hb=>by
  have e:b=it:=by simpa using hb
  subst e;obtain⟨o,e,c,d⟩:=st;exact⟨o,e,fun v z=>by rw[d]at z;cases z⟩
 keep:=fun i h h' st k=>st.at fun o e=>k it (by simp) o e
 item:=by
  intro X hP hw hK hc i pins s σ H E I hf st hg;subst hP hw hK;obtain⟨xs,x,hq,hx⟩:=hg;obtain⟨its,rv,p,hz⟩:=I.tuple hq;obtain⟨u,hu,ru⟩:=rv.get hx;obtain⟨f0,f1,f2,f3,f4,f5⟩:=hf it (by simp);refine wpAny_pyNext_tuple_item st (show s.heap.IsTuple a its.toArray from p) (x:=u) (by simpa using hu) fun h' st' sb=>?_;have I1:Inv X pins σ H { s with heap:=h' }:=I.turned (t':=s.toks) (fun b o hb e=>(sb.2 b hb).trans e) f0 f1 f3 f4 f5;obtain⟨o,e,c,d⟩:=id st';exact⟨u,rfl,ygt (s:={ s with heap:=h' }) e c d (by decide) ⟨x,H,I1,ru,⟨rfl,fun ys hy=>by rw[I.tuple_inj hy hq];exact hx⟩,st',fun b hb=>(hf b hb).1⟩⟩
 done:=by
  intro X hP hw hK hc i pins s σ H E I hf st hg;subst hP hw hK;obtain⟨xs,hq,hx⟩:=hg;obtain⟨its,rv,p,hz⟩:=I.tuple hq;obtain⟨f0,f1,f2,f3,f4,f5⟩:=hf it (by simp);have hl:=rv.length;exact wpAny_pyNext_tuple_end (I.ok.hd hc) st (show s.heap.IsTuple a its.toArray from p) (by simp;omega) fun h' eb=>⟨rfl,I.turned (t':=s.toks) (fun b o hb e=>eb b o hb e) f0 f1 f3 f4 f5⟩
 self:=fun _ _ _ _ _ st h=>wpAny_pyIter_tupleiter st h
theorem zgb{P:Program}{w:World}{K:PySem.W.Frag}{tg:Expr}(it:Addr)(lo:Int)(n:Nat):Turn P w K tg (Itr lo n) [it] it (fun i h=>IsRangeIter h it (lo+(i:Nat) * 1) ((n:Int) - (i:Nat)) 1) where
 mem:=by simp
 obj:=fun i h st b hb=>by
  have e:b=it:=by simpa using hb
  subst e;exact⟨_,st,fun v z=>by
   have z':Data.fields _=Data.cell v:=z;cases z'⟩
 keep:=fun i h h' st k=>k it (by simp) _ st
 item:=by
  intro X hP hw hK hc i pins s σ H E I hf st hg;subst hP hw hK;obtain⟨f0,f1,f2,f3,f4,f5⟩:=hf it (by simp);have W:=Walks.range (prog:=X.prog) (w:=X.w) (I.ok.hd hc) it lo 1 n;refine W.item i s _ _ hg st fun v h' tk hv st' kk=>?_;obtain⟨t,rfl⟩:=hv;have I1:Inv X pins σ H { s with heap:=h',toks:=tk }:=I.turned (fun b o hb e=>kk b o (by simpa using hb) e) f0 f1 f3 f4 f5;refine⟨_,rfl,ygt (s:={ s with heap:=h',toks:=tk }) (n:="range_iterator") st' rfl rfl (by decide) ⟨.int (lo+i),H,I1,⟨t,?_⟩,⟨rfl,rfl⟩,st',fun b hb=>(hf b hb).1⟩⟩;rw[Int.mul_one]
 done:=by
  intro X hP hw hK hc i pins s σ H E I hf st hg;subst hP hw hK;obtain⟨f0,f1,f2,f3,f4,f5⟩:=hf it (by simp);exact wpAny_pyNext_range_end (I.ok.hd hc) st (by have:n<=i:=hg;omega) fun h' eb=>⟨rfl,I.turned (t':=s.toks) (fun b o hb e=>eb b o hb e) f0 f1 f3 f4 f5⟩
 self:=fun _ _ _ _ _ st h=>wpAny_pyIter_rangeiter st h
end L2
namespace L2
open PySem PySem.Spec PyProof.Rows
section
variable{X:Cx}{tg:Expr}
theorem znv{pins:List (Addr × Obj)}{σ:St}{H:Hp}{s:Shared}{R:It->Hp->Prop}{E:Value->Shared->Prop}{lo hi:Int}{t u v:Tok}{tk:Nat}(I:Inv X pins σ H s)(h1:-(2 ^ 62)<=lo)(h2:lo<2 ^ 62)(h3:-(2 ^ 62)<=hi)(h4:hi<2 ^ 62)
  (q:R (Itr lo (hi - lo).toNat) H):wpAny (model X.prog X.w) X.A (pyIter (.ref s.heap.objs.size)) (PIE X pins σ tg R) E { s with heap:=s.heap.push { cls:=.type "range",data:=.fields #[.int lo t,.int hi u,.int 1 v] },toks:=tk }:=by
 refine wpAny_pyIter_range (IsRange.new ..) (small_one h1 h2 h3 h4) ?_;have I1:Inv X pins σ H { s with heap:=s.heap.push { cls:=.type "range",data:=.fields #[.int lo t,.int hi u,.int 1 v] },toks:=tk }:=I.kept fun b o e=>Heap.get?_push_of_some _ e;refine⟨(s.heap.push { cls:=.type "range",data:=.fields #[.int lo t,.int hi u,.int 1 v] }).objs.size,[(s.heap.push { cls:=.type "range",data:=.fields #[.int lo t,.int hi u,.int 1 v] }).objs.size],_,_,H,rfl,
  I1.kept (t':=tk) fun b o e=>Heap.get?_push_of_some _ e,zgb _ lo (hi - lo).toNat,?_,fun b hb=>?_,q⟩
 ·have e1:lo+((0:Nat):Int) * 1=lo:=by simp
  have e2:(((hi - lo).toNat:Nat):Int) - ((0:Nat):Int)=Builtin.Range.rangeSize lo hi 1:=by rw[rangeSize_one];split<;>omega
  show IsRangeIter _ _ (lo+((0:Nat):Int) * 1) ((((hi - lo).toNat:Nat):Int) - ((0:Nat):Int)) 1;rw[e1,e2];exact Heap.get?_push_size _ rfl
 ·have e:b=(s.heap.push { cls:=.type "range",data:=.fields #[.int lo t,.int hi u,.int 1 v] }).objs.size:=by simpa using hb
  subst e;exact I1.fpOk (Nat.le_refl _) (I1.hok.fresh (Nat.le_refl _))
def ygv(ta:TA):TI:=fun σ H R=>ta σ H fun vs H1=>∃ j:Int,vs=[.int j]/\-(2 ^ 62)<=j/\j<2 ^ 62/\R (Itr 0 j.toNat) H1
theorem zih{a:Expr}{ta:TA}{p pos:Pos}(hg:Gl X "range")(hm:X.mg "range" = none)(ha:PA X [a] ta)(hs:starEach [a] X.env=[(false,eval a X.env)]:=by rfl):PI X tg (.Call (.Name "range" p) [a] [] pos) (ygv ta):=by
 intro pins s σ H R I h;refine Call_ (ybc I hg hm boot_range (PyProof.Rows.callWith_type1 (thn (ha pos pins s σ H _ I h) fun us s1 ⟨vs,H1,I1,r1,q1⟩=>?_) hs rfl));obtain⟨j,e,q1,q2,q⟩:=q1;subst e;cases r1 with
 |cons r rr=>
  cases rr;obtain⟨t,rfl⟩:=r;exact call_range_1 (znv I1 (by omega) (by omega) q1 q2 (by simpa using q))
def yo7(wi:TI)(g:TG)(tb:TS):TS:=fun D σ H=>wi σ H fun J H1=>∃ W:Nat->Nat->St->Hp->Prop,(∃ m,W 0 m σ H1)/\∀ i m σ H,W i m σ H->
 (J.stop i H/\D.nx σ H)\/(J.go i H/\∃ N:St->Hp->Prop,(∀ σ' H',N σ' H'->∃ m',m'<m/\W (i+1) m' σ' H')/\∀ x H',J.yld i H x H'->g x σ H' fun σ2 H2=>tb { D with nx:=N,ct:=N,bk:=D.nx } σ2 H2)
def ycz(fp:List Addr)(h:Heap):List (Addr × Obj):=fp.filterMap fun b=>(h.get? b).map fun o=>(b,o)
theorem zfm{fp:List Addr}{h:Heap}{b:Addr}{o:Obj}(hb:b∈fp)(e:h.get? b=some o):(b,o)∈ycz fp h:=List.mem_filterMap.mpr ⟨b,hb,by rw[e];rfl⟩
theorem zib{fp:List Addr}{h:Heap}{p:Addr × Obj}(hp:p∈ycz fp h):p.1∈fp/\h.get? p.1=some p.2:=by
 obtain⟨b,hb,e⟩:=List.mem_filterMap.mp hp;cases q:h.get? b with
 |none=>rw[q]at e;cases e
 |some o=>
  rw[q]at e;have e':(b,o)=p:=Option.some.inj e;subst e';exact⟨hb,q⟩
theorem Inv.pinned{pins:List (Addr × Obj)}{σ:St}{H:Hp}{s:Shared}{fp:List Addr}(I:Inv X pins σ H s)(hf:∀ b∈fp,ykp X pins H b)(ho:∀ b∈fp,∃ o,s.heap.get? b=some o/\∀ v,o.data≠.cell v):Inv X (pins++ycz fp s.heap) σ H s:=
 I.pins_of fun p hp=>(List.mem_append.mp hp).elim (fun z=>I.pin p (List.mem_append_right _ z)) fun z=>by
  obtain⟨hb,e⟩:=zib z;obtain⟨f0,f1,f2,_⟩:=hf p.1 hb;obtain⟨o,e',d⟩:=ho p.1 hb;rw[e]at e';cases e';exact⟨e,f0,f1,f2,d⟩
theorem Inv.unpinned{pins pl:List (Addr × Obj)}{σ:St}{H:Hp}{s:Shared}(I:Inv X (pins++pl) σ H s):Inv X pins σ H s:=I.pins_of fun p hp=>I.pin p (List.mem_append_right _ (List.mem_append_left _ hp))
theorem yc6{iter:Expr}{body:List Stmt}{wi:TI}{g:TG}{tb:TS}{pos:Pos}(hp:PassesOwn (model X.prog X.w) X.A X.env X.xe)(hc:X.calm=true)(hi:PI X tg iter wi)(hg:PG X tg g)(hb:PSs X body tb)
  (hs:∀ x,foldedSetIterable iter X.env x=pure x:=by intro _;rfl):PS X (.For tg iter body [] pos) (yo7 wi g tb):=by
 intro pins s σ H D I h;refine wpAny_For (thn (hi pins s σ H _ I h) fun v s1 h1=>thn h1 fun itv s2 h2=>?_) hs;obtain⟨it,fp,tn,J,H2,e,I2,T,st2,f2,W,⟨m0,w0⟩,turn⟩:=h2;subst e;have stat:∀ {H':Hp},(∀ b∈fp,H' b=none)->∀ b∈fp,ykp X pins H' b:=fun hn b hb=>⟨hn b hb,(f2 b hb).2⟩
 refine codeAny_forLoop_any (fun n s'=>∃ i σ' H',Inv X pins σ' H' s'/\tn i s'.heap/\(∀ b∈fp,H' b=none)/\W i n σ' H') ?_ m0 ⟨0,σ,H2,I2,st2,fun b hb=>(f2 b hb).1,w0⟩;rintro n s3 ⟨i,σ3,H3,I3,st3,fr3,w3⟩;rcases turn i n σ3 H3 w3 with⟨stop,qn⟩|⟨go,N,hN,step⟩
 ·refine wpAny_passesOwn hp (thn (T.done X rfl rfl rfl hc i pins s3 σ3 H3 X.xe I3 (stat fr3) st3 stop) fun r s4 ⟨hr,I4⟩=>?_);subst hr;exact wpAny_execs_nil ⟨σ3,H3,I4,qn⟩
 ·refine wpAny_passesOwn hp (thn (T.item X rfl rfl rfl hc i pins s3 σ3 H3 X.xe I3 (stat fr3) st3 go) fun r s4 ⟨u,hr,h4⟩=>?_);subst hr;refine wpAny_passesOwn hp (thn h4 fun _ s5 ⟨x,H5,I5,r5,y5,st5,fr5⟩=>?_);have I5':=I5.pinned (stat fr5) (T.obj _ _ st5);refine wpAny_passesOwn hp (thn (hg _ s5 σ3 H5 x u _ I5' r5 (step x H5 y5)) fun _ s6 ⟨σ6,H6,I6,q6⟩=>?_);refine wpAny_passesOwn hp (thn (hb _ s6 σ6 H6 _ I6 q6) fun f s7 q7=>?_);have again:∀ {σ7:St} {H7:Hp},Inv X (pins++ycz fp s5.heap) σ7 H7 s7->N σ7 H7->∃ m,m<n/\∃ i σ' H',Inv X pins σ' H' s7/\tn i s7.heap/\(∀ b∈fp,H' b=none)/\W i m σ' H':=fun {σ7 H7} I7 n7=>by
   obtain⟨m',hm,w7⟩:=hN σ7 H7 n7;refine⟨m',hm,i+1,σ7,H7,I7.unpinned,T.keep _ _ _ st5 fun b hb o e=>(I7.pin (b,o) (List.mem_append_right _ (List.mem_append_right _ (zfm hb e)))).1,fun b hb=>?_,w7⟩;obtain⟨o,e,d⟩:=T.obj _ _ st5 b hb;exact(I7.pin (b,o) (List.mem_append_right _ (List.mem_append_right _ (zfm hb e)))).2.1
  cases f with
  |next=>obtain⟨σ7,H7,I7,n7⟩:=q7;exact again I7 n7
  |cont=>obtain⟨σ7,H7,I7,n7⟩:=q7;exact again I7 n7
  |brk=>obtain⟨σ7,H7,I7,q7⟩:=q7;exact⟨σ7,H7,I7.unpinned,q7⟩
  |ret v=>obtain⟨x7,σ7,H7,I7,r7,q7⟩:=q7;exact⟨x7,σ7,H7,I7.unpinned,r7,q7⟩
end
end L2
namespace L2
open PySem PySem.Spec PyProof.Rows
abbrev R2:=V->V->Hp->VK->Prop
def OpR(X:Cx)(f:Value->Value->Sem Value)(r:R2):Prop:=
 ∀ (pins:List (Addr × Obj)) (s:Shared) (σ:St) (H:Hp) (x y:V) (v u:Value) (Q:VK),Inv X pins σ H s->yk1 x v->yk1 y u->r x y H Q->
  wpAny (model X.prog X.w) X.A (f v u) (EP X pins σ Q) X.xe s
def UnR(X:Cx)(f:Value->Sem Value)(r:V->Hp->VK->Prop):Prop:=
 ∀ (pins:List (Addr × Obj)) (s:Shared) (σ:St) (H:Hp) (x:V) (v:Value) (Q:VK),Inv X pins σ H s->yk1 x v->r x H Q->
  wpAny (model X.prog X.w) X.A (f v) (EP X pins σ Q) X.xe s
def yew(X:Cx)(f:Value)(r:List V->Hp->VK->Prop):Prop:=
 ∀ (pins:List (Addr × Obj)) (s:Shared) (σ:St) (H:Hp) (xs:List V) (us:List Value) (Q:VK),Inv X pins σ H s->yla xs us->r xs H Q->
  wpAny (model X.prog X.w) X.A (call f us) (EP X pins σ Q) X.xe s
def tOp(r:R2)(ta tb:TE):TE:=fun σ H Q=>ta σ H fun x H1=>tb σ H1 fun y H2=>r x y H2 Q
def tUn(r:V->Hp->VK->Prop)(ta:TE):TE:=fun σ H Q=>ta σ H fun x H1=>r x H1 Q
def rI(C:Int->Int->Prop)(g:Int->Int->V):R2:=fun x y H Q=>∃ i j,x=.int i/\y=.int j/\C i j/\Q (g i j) H
def rI0(g:Int->Int->V):R2:=fun x y H Q=>∃ i j,x=.int i/\y=.int j/\Q (g i j) H
def rU(g:Int->V):V->Hp->VK->Prop:=fun x H Q=>∃ i,x=.int i/\Q (g i) H
section
variable{X:Cx}{a b c:Expr}{ta tb tc:TE}{pos:Pos}
theorem ylo(ha:PE X a ta)(hb:PE X b tb){pins:List (Addr × Obj)}{s:Shared}{σ:St}{H:Hp}{R:V->V->Hp->Prop}(I:Inv X pins σ H s)
  (h:ta σ H fun x H1=>tb σ H1 fun y H2=>R x y H2) {Q:Value->Shared->Prop} {f:Value->Value->Sem Value}
  (hf:∀ v u s2 x y H2,Inv X pins σ H2 s2->yk1 x v->yk1 y u->R x y H2->wpAny (model X.prog X.w) X.A (f v u) Q X.xe s2) :
  wpAny (model X.prog X.w) X.A (eval a X.env) (fun v s₁=>wpAny (model X.prog X.w) X.A (eval b X.env) (fun u s₂=>wpAny (model X.prog X.w) X.A (f v u) Q X.xe s₂) X.xe s₁) X.xe s:=by
 refine thn (ha pins s σ H _ I h) fun v s1 ⟨x,H1,I1,r1,q1⟩=>?_;refine thn (hb pins s1 σ H1 _ I1 q1) fun u s2 ⟨y,H2,I2,r2,q2⟩=>?_;exact hf v u s2 x y H2 I2 r1 r2 q2
theorem yii{op:Operator}{r:R2}(ho:OpR X (binaryOp op) r)(ha:PE X a ta)(hb:PE X b tb):PE X (.BinOp a op b pos) (tOp r ta tb):=by
 intro pins s σ H Q I h;exact wpAny_BinOp (ylo ha hb I h fun v u s2 x y H2 I2 rx ry q=>ho pins s2 σ H2 x y v u Q I2 rx ry q)
theorem yik{op:UnaryOp}{r:V->Hp->VK->Prop}(ho:UnR X (unaryOp op) r)(ha:PE X a ta):PE X (.UnaryOp op a pos) (tUn r ta):=by
 intro pins s σ H Q I h;exact UnaryOp_ (thn (ha pins s σ H _ I h) fun v s1 ⟨x,H1,I1,r1,q1⟩=>ho pins s1 σ H1 x v Q I1 r1 q1)
theorem opI{f:Value->Value->Sem Value}{C:Int->Int->Prop}{g:Int->Int->Int}
  (rule:∀ (i j:Int) (t u:Tok) (s:Shared) (Q:Value->Shared->Prop) (E:Value->Shared->Prop),C i j->Q (.int (g i j) s.toks) { s with toks:=s.toks+1 }->wpAny (model X.prog X.w) X.A (f (.int i t) (.int j u)) Q E s) :
  OpR X f (rI C fun i j=>.int (g i j)):=by
 intro pins s σ H x y v u Q I rx ry h;obtain⟨i,j,rfl,rfl,hc,q⟩:=h;obtain⟨t,rfl⟩:=rx;obtain⟨t',rfl⟩:=ry;exact rule i j t t' s _ _ hc ⟨.int (g i j),H,I.tok _,⟨_,rfl⟩,q⟩
theorem ynw{f:Value->Value->Sem Value}{g:Int->Int->Int}
  (rule:∀ (i j:Int) (t u:Tok) (s:Shared) (Q:Value->Shared->Prop) (E:Value->Shared->Prop),Q (.int (g i j) s.toks) { s with toks:=s.toks+1 }->wpAny (model X.prog X.w) X.A (f (.int i t) (.int j u)) Q E s) :
  OpR X f (rI0 fun i j=>.int (g i j)):=by
 intro pins s σ H x y v u Q I rx ry h;obtain⟨i,j,rfl,rfl,q⟩:=h;obtain⟨t,rfl⟩:=rx;obtain⟨t',rfl⟩:=ry;exact rule i j t t' s _ _ ⟨.int (g i j),H,I.tok _,⟨_,rfl⟩,q⟩
theorem ynv{f:Value->Value->Sem Value}{g:Int->Int->Bool}
  (rule:∀ (i j:Int) (t u:Tok) (s:Shared) (Q:Value->Shared->Prop) (E:Value->Shared->Prop),Q (.bool (g i j)) s->wpAny (model X.prog X.w) X.A (f (.int i t) (.int j u)) Q E s) :
  OpR X f (rI0 fun i j=>.bl (g i j)):=by
 intro pins s σ H x y v u Q I rx ry h;obtain⟨i,j,rfl,rfl,q⟩:=h;obtain⟨t,rfl⟩:=rx;obtain⟨t',rfl⟩:=ry;exact rule i j t t' s _ _ ⟨.bl (g i j),H,I,rfl,q⟩
def ykh(i j:Int):Prop:=0<j/\j<1073741824
def ykj(i j:Int):Prop:=0<=j/\j<=1000000/\i.natAbs<2 ^ 64
def yki(i j:Int):Prop:=(-(2 ^ 64)<i/\i<2 ^ 64)\/(-(2 ^ 64)<j/\j<2 ^ 64)
theorem yki.ok{i j:Int}(h:yki i j):IntMulOk i j:=by
 rcases h with⟨h1,h2⟩|⟨h1,h2⟩
 ·exact .of_left (intBits_le_64 h1 h2)
 ·exact .of_right (intBits_le_64 h1 h2)
theorem yb5:OpR X (binaryOp .Add) (rI0 fun i j=>.int (i+j)):=ynw fun _ _ _ _ _ _ _ q=>add_int q
theorem ych:OpR X (binaryOp .Sub) (rI0 fun i j=>.int (i - j)):=ynw fun _ _ _ _ _ _ _ q=>sub_int q
theorem ycd:OpR X (binaryOp .Mult) (rI yki fun i j=>.int (i * j)):=opI fun _ _ _ _ _ _ _ hc q=>mul_int q hc.ok
theorem zuo:OpR X (binaryOp .FloorDiv) (rI ykh fun i j=>.int (i / j)):=opI fun i j _ _ _ _ _ hc q=>by
 have h1:(0:Int)<j:=hc.1;have h2:j<1073741824:=hc.2;exact floordiv_int (by omega) (by rw[Int.fdiv_eq_ediv_of_nonneg i (by omega)];exact q) (.inl (PyProof.noPylong_small (by omega)))
theorem ycc:OpR X (binaryOp .Mod) (rI (fun _ j=>0<j) fun i j=>.int (i % j)):=opI fun i j _ _ _ _ _ hc q=>by
 have h1:(0:Int)<j:=hc;exact mod_int' (by omega) (by rw[Int.fmod_eq_emod_of_nonneg i (by omega)];exact q)
theorem ycg:OpR X (binaryOp .Pow) (rI ykj fun i j=>.int (i ^ j.toNat)):=opI fun _ _ _ _ _ _ _ hc q=>pow_int_small hc.1 hc.2.1 hc.2.2 q
theorem unI{f:Value->Sem Value}{g:Int->Int}
  (rule:∀ (i:Int) (t:Tok) (s:Shared) (Q:Value->Shared->Prop) (E:Value->Shared->Prop),Q (.int (g i) s.toks) { s with toks:=s.toks+1 }->wpAny (model X.prog X.w) X.A (f (.int i t)) Q E s) :
  UnR X f (rU fun i=>.int (g i)):=by
 intro pins s σ H x v Q I rx h;obtain⟨i,rfl,q⟩:=h;obtain⟨t,rfl⟩:=rx;exact rule i t s _ _ ⟨.int (g i),H,I.tok _,⟨_,rfl⟩,q⟩
theorem yeo:UnR X (unaryOp .USub) (rU fun i=>.int (-i)):=unI fun _ _ _ _ _ q=>neg_int q
end
section
variable{X:Cx}{a b c:Expr}{ta tb tc:TE}{pos:Pos}
theorem zzr{pins:List (Addr × Obj)}{σ:St}{H:Hp}{s:Shared}{Q:VK}{k k':Bool}(I:Inv X pins σ H s)(q:Q (.bl k) H)(e:k=k'):EP X pins σ Q (.bool k') s:=by
 subst e;exact⟨.bl k,H,I,rfl,q⟩
theorem yid:OpR X (compareOp .Lt) (rI0 fun i j=>.bl (decide (i<j))):=ynv fun _ _ _ _ _ _ _ q=>lt_int q
theorem yic:OpR X (compareOp .LtE) (rI0 fun i j=>.bl (decide (i<=j))):=ynv fun _ _ _ _ _ _ _ q=>le_int q
theorem yib:OpR X (compareOp .Gt) (rI0 fun i j=>.bl (decide (j<i))):=ynv fun _ _ _ _ _ _ _ q=>gt_int q
theorem yia:OpR X (compareOp .GtE) (rI0 fun i j=>.bl (decide (j<=i))):=ynv fun _ _ _ _ _ _ _ q=>ge_int q
theorem yca:OpR X (compareOp .Is) (fun x y H Q=>y=.non/\Q (.bl (decide (x=.non))) H):=by
 intro pins s σ H x y v u Q I rx ry h;obtain⟨rfl,q⟩:=h;cases ry;refine is_none_gen (zzr I q ?_);cases x<;>first
  |(cases rx;rfl)
  |(obtain⟨t,rfl⟩:=rx;rfl)
theorem zup:OpR X (compareOp .IsNot) (fun x y H Q=>y=.non/\Q (.bl (!decide (x=.non))) H):=by
 intro pins s σ H x y v u Q I rx ry h;obtain⟨rfl,q⟩:=h;cases ry;refine isnot_none_gen (zzr I q ?_);cases x<;>first
  |(cases rx;rfl)
  |(obtain⟨t,rfl⟩:=rx;rfl)
theorem OpR.or{f:Value->Value->Sem Value}{r r':R2}(h:OpR X f r)(h':OpR X f r'):OpR X f (fun x y H Q=>r x y H Q\/r' x y H Q):=by
 intro pins s σ H x y v u Q I rx ry q;rcases q with q|q
 ·exact h pins s σ H x y v u Q I rx ry q
 ·exact h' pins s σ H x y v u Q I rx ry q
theorem ybn(b:Expr){op:CmpOp}(h:op≠.In:=by decide)(h2:op≠.NotIn:=by decide):behindInMarks op b=false:=by
 have e1:(op == CmpOp.In)=false:=by cases op<;>first|rfl|exact absurd rfl h
 have e2:(op == CmpOp.NotIn)=false:=by cases op<;>first|rfl|exact absurd rfl h2
 cases b<;>simp[behindInMarks,e1,e2]
theorem zuv{op:CmpOp}{r:R2}(ho:OpR X (compareOp op) r)(ha:PE X a ta)(hb:PE X b tb)(hm:behindInMarks op b=false):PE X (.Compare a [op] [b] pos) (tOp r ta tb):=by
 intro pins s σ H Q I h;exact wpAny_Compare1 (ylo ha hb I h fun v u s2 x y H2 I2 rx ry q=>ho pins s2 σ H2 x y v u Q I2 rx ry q) hm
def yjz(t:TE):TT:=fun σ H Q=>t σ H fun x H'=>∃ k,x=.bl k/\Q k H'
theorem zvd{op:CmpOp}{r:R2}(ho:OpR X (compareOp op) r)(ha:PE X a ta)(hb:PE X b tb)(hm:behindInMarks op b=false):PT X (.Compare a [op] [b] pos) (yjz (tOp r ta tb)):=by
 intro pins s σ H Q I h;refine wpAny_isTrue_Compare1 (thn (ha pins s σ H _ I h) fun v s1 ⟨x,H1,I1,r1,q1⟩=>thn (hb pins s1 σ H1 _ I1 q1) fun u s2 ⟨y,H2,I2,r2,q2⟩=>
  thn (ho pins s2 σ H2 x y v u _ I2 r1 r2 q2) fun c s3 ⟨z,H3,I3,r3,k,e,q3⟩=>?_) hm
 subst e;cases r3;exact wpAny_truthy_bool ⟨H3,I3,q3⟩
def yd8(r r':R2)(ta tb tc:TE):TE:=fun σ H Q=>ta σ H fun x H1=>tb σ H1 fun y H2=>r x y H2 fun z H3=>∃ k,z=.bl k/\
 (if k=true then tc σ H3 fun w' H4=>r' y w' H4 Q else Q (.bl false) H3)
theorem znh{op op':CmpOp}{r r':R2}(ho:OpR X (compareOp op) r)(ho':OpR X (compareOp op') r')(ha:PE X a ta)(hb:PE X b tb)(hc:PE X c tc)
  (hm:lastMarks [op,op'] [b,c]=false:=by with_unfolding_all rfl):PE X (.Compare a [op,op'] [b,c] pos) (yd8 r r' ta tb tc):=by
 intro pins s σ H Q I h;refine Compare_chain (thn (ha pins s σ H _ I h) fun v s1 ⟨x,H1,I1,r1,q1⟩=>chain_link (thn (hb pins s1 σ H1 _ I1 q1) fun u s2 ⟨y,H2,I2,r2,q2⟩=>
  thn (ho pins s2 σ H2 x y v u _ I2 r1 r2 q2) fun d s3 ⟨z,H3,I3,r3,k,e,q3⟩=>?_)) hm
 subst e;cases r3;refine wpAny_truthy_bool ?_;cases k with
 |false=>exact ite_ff ⟨.bl false,H3,I3,rfl,q3⟩
 |true=>exact ite_tt (chain_last (thn (hc pins s3 σ H3 _ I3 q3) fun w' s4 ⟨z',H4,I4,r4,q4⟩=>ho' pins s4 σ H4 y z' u w' Q I4 r2 r4 q4))
theorem ybe:(sizeLine:Nat)<2 ^ 63:=by rw[sizeLine_eq];decide
theorem zfp:OpR X (binaryOp .Add) (fun x y H Q=>∃ i j,x=.str i/\y=.str j/\i.length+j.length<=sizeLine/\Q (.str (i++j)) H):=by
 intro pins s σ H x y v u Q I rx ry h;obtain⟨i,j,rfl,rfl,hz,q⟩:=h;obtain⟨t,rfl⟩:=rx;obtain⟨t',rfl⟩:=ry;exact add_str (fun t' tk=>⟨.str (i++j),H,I.tok _,⟨_,rfl⟩,q⟩) hz
theorem yj9{x:V}{us:List Value}(r:yla [x] us):∃ u,us=[u]/\yk1 x u:=by
 cases r with
 |cons r1 r2=>cases r2;exact⟨_,rfl,r1⟩
theorem yka{x y:V}{us:List Value}(r:yla [x,y] us):∃ u w',us=[u,w']/\yk1 x u/\yk1 y w':=by
 cases r with
 |cons r1 r2=>
  cases r2 with
  |cons r3 r4=>cases r4;exact⟨_,_,rfl,r1,r3⟩
theorem zgt(hc:X.calm=true):yew X (.builtin "max") (fun xs H Q=>∃ i j,xs=[.int i,.int j]/\Q (.int (if j > i then j else i)) H):=by
 intro pins s σ H xs us Q I r h;obtain⟨i,j,rfl,q⟩:=h;obtain⟨u,w',rfl,⟨t,rfl⟩,⟨t',rfl⟩⟩:=yka r;refine max_two_ints (I.ok.hd hc) fun h' tk k=>⟨_,H,I.kept k,?_,q⟩
 by_cases hj:j > i
 ·rw[if_pos hj,if_pos hj];exact⟨_,rfl⟩
 ·rw[if_neg hj,if_neg hj];exact⟨_,rfl⟩
theorem zgr:yew X (.type "int") (fun xs H Q=>(∃ i,xs=[.int i]/\Q (.int i) H)\/∃ k,xs=[.bl k]/\Q (.int (if k then 1 else 0)) H):=by
 intro pins s σ H xs us Q I r h;rcases h with⟨i,rfl,q⟩|⟨k,rfl,q⟩
 ·obtain⟨u,rfl,t,rfl⟩:=yj9 r;exact call_int_int ⟨.int i,H,I,⟨_,rfl⟩,q⟩
 ·obtain⟨u,rfl,r1⟩:=yj9 r;cases r1;exact call_int_bool ⟨.int (if k then 1 else 0),H,I.tok _,⟨_,rfl⟩,q⟩
end
end L2
namespace L2
open PySem PySem.Spec PyProof.Rows
structure ObjM(h:Heap)(x dx C:Addr)(mA:Str->Option Value):Prop where
 obj:h.get? x=some (PySem.W.instObj C dx)
 ns:h.Ns1 dx mA
 ne:dx≠x
theorem zhv{h:Heap}{dx:Addr}{mA:Str->Option Value}(n:h.Ns1 dx mA):∃ od,h.get? dx=some od/\∀ name,PySem.W.lookIn name od=some (mA name):=by
 obtain⟨o,es,ep,ho,hd,hk,_,hm⟩:=n;refine⟨o,ho,fun name=>?_⟩;have e:=hm name;unfold nsFind findBy at e;rw[<-Array.find?_toList]at e;unfold PySem.W.lookIn;rw[hd];dsimp only;split
 ·rename_i y q
  rw[q]at e;exact congrArg some e
 ·rename_i q
  rw[q]at e;have a:es.toList.any (·.refKey)=false:=by
   rw[List.any_eq_false];intro y hy;obtain⟨z,t,hkey⟩:=hk y (Array.mem_toList_iff.mp hy);simp[DictEntry.refKey,hkey]
  have a':¬ es.toList.any (·.refKey)=true:=by rw[a];exact Bool.false_ne_true
  rw[if_neg a'];exact congrArg some e
theorem ObjM.look{h:Heap}{x dx C:Addr}{mA:Str->Option Value}(I:ObjM h x dx C mA):∃ od,PySem.W.InstAt h x (PySem.W.instObj C dx) C (some od)/\∀ name,PySem.W.lookIn name od=some (mA name):=
 let ⟨od,ho,hl⟩:=zhv I.ns
 ⟨od,⟨I.obj,rfl,rfl,ho⟩,hl⟩
section
variable{prog:Program}{w:World}{A:Around}{E:Value->Shared->Prop}{s:Shared}{K:PySem.W.Frag}{x dx C f:Addr}{mA:Str->Option Value}{name:Str}{v:Value}
theorem zsk{expr:Bool}{Q:Value->Shared->Prop}(X:K.In s.heap)(I:ObjM s.heap x dx C mA)(hg:PySem.W.plainGet K C name=true)(hh:PySem.W.hasDictIn K C=true)
  (ha:PySem.W.findIn K (.ref C) name=some none) (hv:mA name=some v) (hv':PySem.W.handedIn v=true) (h:Q v { s with toks:=s.toks+1 }) :
  wpAny (model prog w) A (getAttr (.ref x) name expr) Q E s:=by
 obtain⟨od,J,hl⟩:=I.look;exact PySem.W.get_value X J (PySem.W.plainGet_of hg).1 (PySem.W.findObj_own hh ha rfl (by rw[hl,hv])) hv' h
theorem zwi{ns:List Str}{Q:Unit->Shared->Prop}(X:K.In s.heap)(I:ObjM s.heap x dx C mA)
  (hs:PySem.W.findIn K (.ref C) "__setattr__" = some (some (.builtin "object.__setattr__"))) (hp:PySem.W.plainOver K C=true) (ht:PySem.W.takerIn K C name=some none) (hh:PySem.W.hasDictIn K C=true)
  (hw:PySem.Within mA ns) (hsz:ns.length<=sizeLine)
  (h:∀ h',ObjM h' x dx C (fun y=>if y=name then some v else mA y)->Heap.SameBut dx s.heap h'->Q () { s with heap:=h',toks:=s.toks+2 }) :
  wpAny (model prog w) A (setAttr (.ref x) name v) Q E s:=by
 obtain⟨od,J,hl⟩:=I.look;refine PySem.W.set_plain X J hs (PySem.W.osa_open (s:={ s with toks:=s.toks+1 }) (r:=none) X J hp ht fun b=>?_);obtain⟨cd,hc,hd'⟩:=PySem.W.any_some hh;have hx:s.heap.get? x=some ⟨.ref C,some dx,.plain,#[]⟩:=I.obj;refine wpAny_bind (wpAny_pure (wpAny_bind (wpAny_bind (wpAny_loadPart hx (wpAny_bind (PySem.W.Looks.here (s:={ s with toks:=s.toks+1 }) (PySem.W.looks_clsIn X hc) ?_))))));rw[hd'];refine wpAny_pure (a:=some dx) (wpAny_bind (wpAny_pure (wpAny_bind ?_)));refine wpAny_nsSet1 (s:={ s with toks:=s.toks+1 }) I.ns fun h' hn2 hs2=>?_;obtain⟨oD,esD,epD,hoD,hdD,hcD⟩:=hn2.count (PySem.Within.cons name v hw);refine wpAny_bind (wpAny_lookBehind hoD (by rw[hdD];exact pastItsLine_dict (Nat.le_trans hcD (by rw[List.length_cons];omega))) ?_);exact wpAny_pure (h _ ⟨(hs2.2 _ (Ne.symm I.ne)).trans I.obj,hn2,I.ne⟩ hs2)
theorem zmr{R:Result->Shared->Prop}{vs:List Value}{kw:List (Str × Value)}(X:K.In s.heap)(hm:PySem.W.makesIn K C=true)
  (hi:PySem.W.findIn K (.ref C) "__init__" = some (some (.ref f))) (hf:PySem.W.typeIn K (.ref f)=some (.type "function"))
  (h:codeAny (model prog w) (A.under (.builtin "type.__call__" ⟨.ref C::vs,kw⟩)) (.call (.ref f) ⟨.ref (s.heap.objs.size+1)::vs,kw⟩) (PySem.W.InitBack (s.heap.objs.size+1) R)
   { s with heap:=(s.heap.push PySem.W.emptyDict).push (PySem.W.instObj C s.heap.objs.size) }) :
  codeAny (model prog w) A (.call (.ref C) ⟨vs,kw⟩) R s:=by
 obtain⟨hh,g,d,t,os⟩:=s;exact PySem.W.make_core (PySem.W.makes_of X hm) (PySem.W.looks_findIn X hi) (fun self=>PySem.W.bind_fn X self hf) (.inl rfl) h
end
def putF(f:Str)(v:V):List (Str × V)->List (Str × V)
 |[]=>[(f,v)]
 |(g,x)::r=>if g=f then (g,v)::r else (g,x)::putF f v r
theorem zd9(f g:Str)(v:V):∀ fs:List (Str × V),(putF f v fs).lookup g=if g=f then some v else fs.lookup g
 |[]=>by
  show List.lookup g [(f,v)]=_;by_cases h:g=f
  ·have hb:(g == f)=true:=beq_iff_eq.mpr h;simp only[List.lookup,hb,if_pos h]
  ·have hb:(g == f)=false:=beq_eq_false_iff_ne.mpr h;simp only[List.lookup,hb,if_neg h]
 |(k,x)::r=>by
  have ih:=zd9 f g v r;rw[show putF f v ((k,x)::r)=(if k=f then (k,v)::r else (k,x)::putF f v r)from rfl];by_cases hk:k=f
  ·rw[if_pos hk];by_cases h:g=k
   ·have hb:(g == k)=true:=beq_iff_eq.mpr h;simp only[List.lookup,hb,if_pos (h.trans hk)]
   ·have hb:(g == k)=false:=beq_eq_false_iff_ne.mpr h;simp only[List.lookup,hb,if_neg (fun e:g=f=>h (e.trans hk.symm))]
  ·rw[if_neg hk];by_cases h:g=k
   ·have hb:(g == k)=true:=beq_iff_eq.mpr h;simp only[List.lookup,hb,if_neg (fun e:g=f=>hk (h.symm.trans e))]
   ·have hb:(g == k)=false:=beq_eq_false_iff_ne.mpr h;simp only[List.lookup,hb];exact ih
theorem zhs(f:Str)(v:V):∀ fs:List (Str × V),f∈(putF f v fs).map (·.1)/\∀ g,g∈fs.map (·.1)->g∈(putF f v fs).map (·.1)
 |[]=>⟨by simp[putF],fun g h=>by simp at h⟩
 |(k,x)::r=>by
  obtain⟨i1,i2⟩:=zhs f v r;rw[show putF f v ((k,x)::r)=(if k=f then (k,v)::r else (k,x)::putF f v r)from rfl];by_cases hk:k=f
  ·rw[if_pos hk];subst hk;exact⟨by simp,fun g h=>by simpa using h⟩
  ·rw[if_neg hk];refine⟨?_,fun g h=>?_⟩
   ·rw[List.map_cons];exact List.mem_cons_of_mem _ i1
   ·rw[List.map_cons]at h ⊢;rcases List.mem_cons.mp h with e|e
    ·exact List.mem_cons.mpr (.inl e)
    ·exact List.mem_cons_of_mem _ (i2 g e)
theorem zd7(f:Str)(v:V):∀ fs:List (Str × V),(putF f v fs).length<=fs.length+1
 |[]=>by simp[putF]
 |(k,x)::r=>by
  have ih:=zd7 f v r;rw[show putF f v ((k,x)::r)=(if k=f then (k,v)::r else (k,x)::putF f v r)from rfl];by_cases hk:k=f
  ·rw[if_pos hk,List.length_cons,List.length_cons];omega
  ·rw[if_neg hk,List.length_cons,List.length_cons];omega
theorem yk0.some_of{v:V}{o:Option Value}(r:yk0 (some v) o):∃ u,o=some u/\yk1 v u:=by
 cases o with
 |none=>exact(show False from r).elim
 |some u=>exact⟨u,rfl,r⟩
theorem zhg{v:V}{u:Value}(r:yk1 v u):PySem.W.handedIn u=true:=by
 cases v with
 |non=>cases (show u=Value.none from r);rfl
 |bl b=>cases (show u=Value.bool b from r);rfl
 |int i=>obtain⟨t,e⟩:=(show ∃ t,u=Value.int i t from r);cases e;rfl
 |str x=>obtain⟨t,e⟩:=(show ∃ t,u=Value.str x t from r);cases e;rfl
 |byt b=>obtain⟨t,e⟩:=(show ∃ t,u=Value.bytes b t from r);cases e;rfl
 |flt b=>obtain⟨t,e⟩:=(show ∃ t,u=Value.float b t from r);cases e;rfl
 |ref a=>cases (show u=Value.ref a from r);rfl
 |ty n=>cases (show u=Value.type n from r);rfl
section
variable{P:Program}{w:World}{H H':Hp}{h h':Heap}{a C dx:Addr}{fs fs':List (Str × V)}
theorem zsv(hok:HOk P w H h)(e:H a=some (.ins C dx fs)):∃ mA,ObjM h a dx C mA/\(∀ f,yk0 (fs.lookup f) (mA f))/\PySem.Within mA (fs.map (·.1))/\fs.length<=1000/\H dx=some (.own a):=by
 obtain⟨d,z,ne,ob,mA,n,r,q⟩:=(show ye1 P w H h a (.ins C dx fs)from hok a _ e)
 exact⟨mA,⟨ob,n,ne⟩,r,q,z,d⟩
end
structure Cls(K:PySem.W.Frag)(C:Addr):Prop where
 pg:PySem.W.plainGet K C Str.empty=true
 hd:PySem.W.hasDictIn K C=true
 po:PySem.W.plainOver K C=true
 sa:PySem.W.findIn K (.ref C) "__setattr__" = some (some (.builtin "object.__setattr__"))
theorem Cls.get{K:PySem.W.Frag}{C:Addr}(c:Cls K C)(f:Str):PySem.W.plainGet K C f=true:=c.pg
def zxt(K:PySem.W.Frag)(C:Addr)(f:Str):Prop:=PySem.W.findIn K (.ref C) f=some none
theorem zxt.taker{K:PySem.W.Frag}{C:Addr}{f:Str}(n:zxt K C f):PySem.W.takerIn K C f=some none:=by
 unfold PySem.W.takerIn;rw[show PySem.W.findIn K (.ref C) f=some none from n];rfl
structure Con(K:PySem.W.Frag)(C:Addr)(f:Str)(v:V)(u:Value):Prop where
 at_:PySem.W.findIn K (.ref C) f=some (some u)
 rel:yk1 v u
 get:PySem.W.specialIn K u "__get__" = some none
 cp:PySem.W.copiedNames.contains f=false
structure Meth(K:PySem.W.Frag)(C:Addr)(m:Str)(f:Addr):Prop where
 at_:PySem.W.findIn K (.ref C) m=some (some (.ref f))
 fn:PySem.W.isFn K (.ref f)=true
 kp:PySem.W.keepIn K (.ref f)=true
section
variable{X:Cx}{pins:List (Addr × Obj)}{σ:St}{H:Hp}{s:Shared}{a C dx:Addr}{fs:List (Str × V)}{f:Str}{v:V}{A:Around}{E:Value->Shared->Prop}
theorem zfc{b:Bool}{Q:Value->Shared->Prop}(I:Inv X pins σ H s)(e:H a=some (.ins C dx fs))(c:Cls X.K C)(n:zxt X.K C f)(l:fs.lookup f=some v)
  (h:∀ u s',Inv X pins σ H s'->yk1 v u->Q u s'):wpAny (model X.prog X.w) A (getAttr (.ref a) f b) Q E s:=by
 obtain⟨mA,O,r,_,_,_⟩:=zsv I.hok e;obtain⟨u,hu,ru⟩:=yk0.some_of (v:=v) (o:=mA f) (by rw[<-l];exact r f);exact zsk I.kIn O (c.get f) c.hd n hu (zhg ru) (h u _ (I.tok _) ru)
theorem zf4{y:V}{u:Value}{Q:Unit->Shared->Prop}(I:Inv X pins σ H s)(e:H a=some (.ins C dx fs))(c:Cls X.K C)(n:zxt X.K C f)(hl:fs.length<1000)(ry:yk1 y u)
  (h:∀ s',Inv X pins σ (upd H a (.ins C dx (putF f y fs))) s'->Q () s'):wpAny (model X.prog X.w) A (setAttr (.ref a) f u) Q E s:=by
 obtain⟨mA,O,r,wi,_,ho⟩:=zsv I.hok e;have hz:(fs.map (·.1)).length<=sizeLine:=by rw[List.length_map,sizeLine_eq];omega
 refine zwi I.kIn O c.sa c.po n.taker c.hd wi hz fun h' O' sb=>h _ ?_;have hd:∃ o,h'.get? dx=some o:=let ⟨o,_,_,e',_⟩:=O'.ns;⟨o,e'⟩;refine I.write (x:=a) (e:=dx) (by rw[e];exact True.intro) (.inr ho) (fun b q hb z=>(sb.2 b hb).trans z) hd ?_;refine⟨by rw[yep O.ne];exact ho,?_,O.ne,O'.obj,_,O'.ns,fun g=>?_,fun g hg=>?_⟩
 ·have:=zd7 f y fs;omega
 ·show yk0 ((putF f y fs).lookup g) (if g=f then some u else mA g);rw[zd9];by_cases q:g=f
  ·rw[if_pos q,if_pos q];exact ry
  ·rw[if_neg q,if_neg q];exact r g
 ·by_cases q:g=f
  ·rw[q];exact(zhs f y fs).1
  ·refine(zhs f y fs).2 g (wi g fun z=>hg ?_);show (if g=f then some u else mA g)=none;rw[if_neg q];exact z
theorem Inv.made(I:Inv X pins σ H s):Inv X pins σ (upd (upd H s.heap.objs.size (.own (s.heap.objs.size+1))) (s.heap.objs.size+1) (.ins C s.heap.objs.size []))
  { s with heap:=(s.heap.push PySem.W.emptyDict).push (PySem.W.instObj C s.heap.objs.size) }:=by
 have e1:(s.heap.push PySem.W.emptyDict).get? s.heap.objs.size=some PySem.W.emptyDict:=Heap.get?_push_size s.heap rfl;have e2:((s.heap.push PySem.W.emptyDict).push (PySem.W.instObj C s.heap.objs.size)).get? (s.heap.objs.size+1)=some (PySem.W.instObj C s.heap.objs.size):=by
  have:=Heap.get?_push_size (s.heap.push PySem.W.emptyDict) (o:=PySem.W.instObj C s.heap.objs.size) rfl
  rwa [Heap.size_push]at this
 have e3:(s.heap.push PySem.W.emptyDict).Ns s.heap.objs.size (fun _=>none):=⟨PySem.W.emptyDict,#[],_,e1,rfl,(fun e he=>absurd he (by simp)),fun _=>rfl⟩
 have I1:=I.laid (a:=s.heap.objs.size) (o:=.own (s.heap.objs.size+1)) (h':=s.heap.push PySem.W.emptyDict) (t':=s.toks) (fun b u q=>Heap.get?_push_of_some _ q) (Nat.le_refl _) ⟨_,e1⟩;refine I1.laid (a:=s.heap.objs.size+1) (o:=.ins C s.heap.objs.size []) (t':=s.toks) (fun b u q=>Heap.get?_push_of_some _ q) (Nat.le_of_eq (Heap.size_push _ _)) ?_;have ne:s.heap.objs.size≠s.heap.objs.size+1:=Nat.ne_of_lt (Nat.lt_succ_self _);refine⟨by rw[yep ne,zo8],Nat.zero_le _,ne,e2,fun _=>none,(Heap.Ns1.of_empty e3).at fun o q=>Heap.get?_push_of_some _ q,fun _=>True.intro,fun y hy=>absurd rfl hy⟩
theorem zpv{prog:Program}{w:World}{env:Env}{e:Expr}{f:Str}{pos:Pos}{s:Shared}{Q:Value->Shared->Prop}(hb:attributeBase e f env (eval e env)=eval e env)
  (h:wpAny (model prog w) A (eval e env) (fun o s₁=>wpAny (model prog w) A (getAttr o f true) Q E s₁) E s):wpAny (model prog w) A (eval (.Attribute e f pos) env) Q E s:=
 Attribute_any_ h (by rw[arm_eval_Attribute,hb])
end
def yo6(K:PySem.W.Frag)(ta:TE)(f:Str):TE:=fun σ H Q=>ta σ H fun x H1=>∃ a C dx fs v,x=.ref a/\H1 a=some (.ins C dx fs)/\Cls K C/\zxt K C f/\fs.lookup f=some v/\Q v H1
def yoj(K:PySem.W.Frag)(ta tv:TE)(f:Str):TS:=fun D σ H=>tv σ H fun y H1=>ta σ H1 fun x H2=>∃ a C dx fs,x=.ref a/\H2 a=some (.ins C dx fs)/\Cls K C/\zxt K C f/\fs.length<1000/\
 D.nx σ (upd H2 a (.ins C dx (putF f y fs)))
section
variable{X:Cx}{o e value:Expr}{f:Str}{pos pos' tpos:Pos}{ta tv:TE}
theorem ycm(he:PE X e ta)(hb:attributeBase e f X.env (eval e X.env)=eval e X.env):PE X (.Attribute e f pos) (yo6 X.K ta f):=by
 intro pins s σ H Q I h;refine zpv hb (thn (he pins s σ H _ I h) fun u s1 ⟨x,H1,I1,rx,a,C,dx,fs,v,ex,ea,c,n,l,q⟩=>?_);subst ex;obtain rfl:u=Value.ref a:=rx;exact zfc I1 ea c n l fun u' s2 I2 ru=>⟨v,H1,I2,ru,q⟩
theorem yc5(ha:PE X o ta)(hv:PE X value tv)(hs:swapsWith value (some (.Attribute o f pos')) pos.line X.env=pure false):PS X (.Assign [.Attribute o f pos'] value pos) (yoj X.K ta tv f):=by
 intro pins s σ H D I h;refine plainObj_wpAny_Assign_Attribute (thn (hv pins s σ H _ I h) fun u s1 ⟨y,H1,I1,ry,q⟩=>thn (ha pins s1 σ H1 _ I1 q) fun ov s2 ⟨x,H2,I2,rx,a,C,dx,fs,ex,ea,c,n,l,q2⟩=>?_) hs;subst ex;obtain rfl:ov=Value.ref a:=rx;exact zf4 I2 ea c n l ry fun s3 I3=>⟨σ,_,I3,q2⟩
end
section
variable{X:Cx}{pins:List (Addr × Obj)}{σ:St}{H:Hp}{s:Shared}{A:Around}{E:Value->Shared->Prop}{Q:Value->Shared->Prop}{c:Value}{b:Bool}
inductive TyOf(K:PySem.W.Frag)(H:Hp):V->Value->Prop where
 |non:TyOf K H .non (.type "NoneType")
 |bl (x:Bool):TyOf K H (.bl x) (.type "bool")
 |int (i:Int):TyOf K H (.int i) (.type "int")
 |str (x:Str):TyOf K H (.str x) (.type "str")
 |flt (x:UInt64):TyOf K H (.flt x) (.type "float")
 |lst {a:Addr} {xs:List V} (e:H a=some (.lst xs)):TyOf K H (.ref a) (.type "list")
 |frz {a:Addr} {o:Obj} {xs:List V} (e:H a=some (.frz o (.lst xs))):TyOf K H (.ref a) (.type "list")
 |tup {a:Addr} {xs:List V} (e:H a=some (.tup xs)):TyOf K H (.ref a) (.type "tuple")
 |dK {a:Addr} {kvs:List (Key × V)} (e:H a=some (.dK kvs)):TyOf K H (.ref a) (.type "dict")
 |dT {a:Addr} {kvs:List (List Key × V)} (e:H a=some (.dT kvs)):TyOf K H (.ref a) (.type "dict")
 |ins {a C dx:Addr} {fs:List (Str × V)} (e:H a=some (.ins C dx fs)) (cl:Cls K C) (ha:PySem.W.findIn K (.ref C) "__class__" = some (some (.builtin "object.__class__")))
   (hn:PySem.W.specialIn K (.builtin "object.__class__") "__get__" = some (some (.builtin "getset_descriptor.__get__"))) (htk:PySem.W.takesIn K (.builtin "object.__class__")=some true)
   (hm:PySem.W.mroIn K C (.type "object")=some true):TyOf K H (.ref a) (.ref C)
theorem zhm{x:V}{u t:Value}(I:Inv X pins σ H s)(rx:yk1 x u)(ty:TyOf X.K H x t)(e:PySem.W.kitOne X.K t c=some b)(h:∀ tk,Q (.bool b) { s with toks:=tk }) :
  wpAny (model X.prog X.w) A (call (.builtin "isinstance") [u,c]) Q E s:=by
 cases ty with
 |non=>cases (show u=Value.none from rx);exact PySem.W.kia_one PySem.W.kitx_none I.kIn True.intro e (fun z=>nomatch z) h
 |bl y=>cases (show u=Value.bool y from rx);exact PySem.W.kia_one PySem.W.kitx_bool I.kIn True.intro e (fun z=>nomatch z) h
 |int i=>obtain⟨t,q⟩:=(show ∃ t,u=Value.int i t from rx);cases q;exact PySem.W.kia_one PySem.W.kitx_int I.kIn True.intro e (fun z=>nomatch z) h
 |str y=>obtain⟨t,q⟩:=(show ∃ t,u=Value.str y t from rx);cases q;exact PySem.W.kia_one PySem.W.kitx_str I.kIn True.intro e (fun z=>nomatch z) h
 |flt y=>obtain⟨t,q⟩:=(show ∃ t,u=Value.float y t from rx);cases q;exact PySem.W.kia_one PySem.W.kitx_float I.kIn True.intro e (fun z=>nomatch z) h
 |@lst a xs ea=>
  cases (show u=Value.ref a from rx);obtain⟨_,_,n,_,h1⟩:=(show ye1 X.prog X.w H s.heap a (.lst xs)from I.hok a _ ea)
  exact PySem.W.kia_one PySem.W.kitx_list I.kIn ⟨_,h1,rfl⟩ e (fun z=>nomatch z) h
 |@frz a ob xs ea=>
  cases (show u=Value.ref a from rx);obtain⟨_,_,_,n,_,h1⟩:=(show ye1 X.prog X.w H s.heap a (.frz ob (.lst xs))from I.hok a _ ea)
  exact PySem.W.kia_one PySem.W.kitx_list I.kIn ⟨_,h1,rfl⟩ e (fun z=>nomatch z) h
 |@tup a xs ea=>
  cases (show u=Value.ref a from rx);obtain⟨_,_,_,p⟩:=(show ye1 X.prog X.w H s.heap a (.tup xs)from I.hok a _ ea)
  obtain⟨o,h1,h2,_⟩:=p;exact PySem.W.kia_one PySem.W.kitx_tuple I.kIn ⟨o,h1,h2⟩ e (fun z=>nomatch z) h
 |@dK a kvs ea=>
  cases (show u=Value.ref a from rx);obtain⟨_,_,vs,_,p⟩:=(show ye1 X.prog X.w H s.heap a (.dK kvs)from I.hok a _ ea)
  obtain⟨o,es,ep,h1,h2,_⟩:=p;exact PySem.W.kia_one PySem.W.kitx_dict I.kIn ⟨o,h1,h2.1⟩ e (fun z=>nomatch z) h
 |@dT a kvs ea=>
  cases (show u=Value.ref a from rx);obtain⟨_,_,xs,_,o,es,ep,h1,h2,_⟩:=(show ye1 X.prog X.w H s.heap a (.dT kvs)from I.hok a _ ea)
  exact PySem.W.kia_one PySem.W.kitx_dict I.kIn ⟨o,h1,h2.1⟩ e (fun z=>nomatch z) h
 |@ins a C dx fs ea cl ha hn htk hm=>
  cases (show u=Value.ref a from rx);obtain⟨mA,O,_⟩:=zsv I.hok ea;obtain⟨od,J,_⟩:=O.look;exact PySem.W.kia_one (PySem.W.kitx_own (cl.get _) cl.hd ha hn htk hm) I.kIn J e (fun z=>nomatch z) h
end
end L2
namespace L2
open PySem PySem.Spec PyProof.Rows
structure Room(k:Nat)(A:Around):Prop where
 hd:A.handled=none
 dp:A.depth+3 * k+5<recursionLimit
 un:A.units+16 * k+200<cLine
theorem Room.mono{j k:Nat}{A:Around}(r:Room k A)(h:j<=k):Room j A:=⟨r.hd,by have:=r.dp;omega,by have:=r.un;omega⟩
theorem Room.deeper{k:Nat}{A:Around}(r:Room (k+1) A)(env:Env):Room k (A.deeper env):=
 ⟨r.hd,by have:=r.dp;show A.depth+1+3 * k+5<_;omega,by have:=r.un;show A.units+3+16 * k+200<_;omega⟩
theorem Room.in1{k:Nat}{A:Around}(r:Room (k+1) A):Room k A.in1:=
 ⟨r.hd,by have:=r.dp;show A.depth+3 * k+5<_;omega,by have:=r.un;show A.units+1+16 * k+200<_;omega⟩
theorem zfj{A:Around}{C:Addr}{us:List Value}{kw:List (Str × Value)}:(A.under (.builtin "type.__call__" ⟨.ref C::us,kw⟩)).depth=A.depth+1:=by
 first|rfl|simp[Around.under,Code.weight,Code.isCreation,Code.isGuard,Code.isCaller,Code.frames,Code.isFrame,guardIds]
theorem zfk{A:Around}{C:Addr}{us:List Value}{kw:List (Str × Value)}:(A.under (.builtin "type.__call__" ⟨.ref C::us,kw⟩)).units=A.units+1:=by
 first|rfl|simp[Around.under,Code.cUnits,Code.frames,Code.isFrame]
theorem Room.make{k:Nat}{A:Around}(r:Room (k+1) A)(C:Addr)(us:List Value)(kw:List (Str × Value)):Room k (A.under (.builtin "type.__call__" ⟨.ref C::us,kw⟩)):=
 ⟨r.hd,by have:=r.dp;rw[zfj];omega,by have:=r.un;rw[zfk];omega⟩
theorem Room.depth{k:Nat}{A:Around}(r:Room k A):A.depth<recursionLimit:=by have:=r.dp;omega
theorem Room.units{k:Nat}{A:Around}(r:Room k A):A.units+64<cLine:=by have:=r.un;omega
def ypa:TA:=fun _ H Q=>Q [] H
def yjp(ta:TE)(tr:TA):TA:=fun σ H Q=>ta σ H fun x H1=>tr σ H1 fun xs H2=>Q (x::xs) H2
section
variable{X:Cx}{e:Expr}{es:List Expr}{te:TE}{t:TA}{pos:Pos}
theorem yci:PA X [] ypa:=fun _ _ _ _ H Q I h=>Calls.spliced_nil ⟨[],H,I,.nil,h⟩
theorem zur(ha:PE X e te)(hr:PA X es t)(hs:starEach (e::es) X.env=(false,eval e X.env)::starEach es X.env:=by rfl):PA X (e::es) (yjp te t):=by
 intro pos pins s σ H Q I h;rw[hs];show wpAny _ _ (spliced ((false,eval e X.env)::backTo pos (starEach es X.env))) _ _ s;refine Calls.spliced_cons (thn (ha pins s σ H _ I h) fun u s1 ⟨x,H1,I1,r1,q1⟩=>?_);exact thn (hr pos pins s1 σ H1 _ I1 q1) fun us s2 ⟨xs,H2,I2,r2,q2⟩=>⟨x::xs,H2,I2,.cons r1 r2,q2⟩
def ypf(t:TA):TE:=fun σ H Q=>t σ H fun xs H1=>xs.length<=sizeLine/\∀ p,H1 p=none->Q (.ref p) (upd H1 p (.tup xs))
def yo9(t:TA):TE:=fun σ H Q=>t σ H fun xs H1=>xs.length<=sizeLine/\∀ p,H1 p=none->Q (.ref p) (upd H1 p (.lst xs))
theorem yct{x1}(h:PA X es t):PE X (.Tuple es x1 pos) (ypf t):=by
 intro pins s σ H Q I hq;refine wpAny_Tuple_spliced (thn (h pos pins s σ H _ I hq) fun us s1 ⟨xs,H1,I1,r,z,q⟩=>⟨by rw[<-r.length];exact z,?_⟩);have hf:H1 s1.heap.objs.size=none:=I1.hok.fresh (Nat.le_refl _);refine⟨.ref s1.heap.objs.size,upd H1 s1.heap.objs.size (.tup xs),I1.laid (t':=s1.toks) (fun b u e=>Heap.get?_push_of_some _ e) (Nat.le_refl _) ?_,rfl,q _ hf⟩;exact⟨z,us,r,⟨_,Heap.get?_push_size _ rfl,rfl,_,rfl⟩⟩
theorem yco(h:PA X es t):PE X (.List es pos) (yo9 t):=by
 intro pins s σ H Q I hq;refine wpAny_List_spliced (thn (h pos pins s σ H _ I hq) fun us s1 ⟨xs,H1,I1,r,z,q⟩=>⟨by rw[<-r.length];exact z,?_⟩);have hf:H1 s1.heap.objs.size=none:=I1.hok.fresh (Nat.le_refl _);refine⟨.ref s1.heap.objs.size,upd H1 s1.heap.objs.size (.lst xs),I1.laid (t':=s1.toks) (fun b u e=>Heap.get?_push_of_some _ e) (Nat.le_refl _) ?_,rfl,q _ hf⟩;exact⟨z,us,0,r,Heap.get?_push_size _ rfl⟩
end
abbrev Sp:=List V->Hp->VK->XK->Prop
abbrev CXT:=List Env->Hp->Shared->XK->Value->Shared->Prop
structure Env0(P:Program)(w:World)(K:PySem.W.Frag)(mg:Str->Option Value)(base:Heap)(A:Around)(outer:List Env)(s:Shared)(H:Hp):Prop where
 frames:A.frames=some outer
 mod:Mod K mg base
 bs:∀ b o,base.get? b=some o->s.heap.get? b=some o/\H b=none
 bsz:base.objs.size<=s.heap.objs.size
 funs:s.heap.FunFrames base outer
 frf:∀ b∈frs outer,H b=none
 hok:HOk P w H s.heap
 bare:AllBare s.gens
def CE(outer:List Env)(P:Program)(w:World)(H:Hp)(s:Shared)(Q:VK)(u:Value)(s':Shared):Prop:=
 ∃ v H',s'.os=s.os/\AllBare s'.gens/\Un (frs outer) [] H H' s.heap s'.heap/\HOk P w H' s'.heap/\yk1 v u/\Q v H'
def CR(CX:CXT)(outer:List Env)(P:Program)(w:World)(H:Hp)(s:Shared)(Q:VK)(E:XK)(r:Result)(s':Shared):Prop:=
 match r with
 | .ok (.ret u)=>CE outer P w H s Q u s'
 | .ok _=>False
 | .error e=>CX outer H s E e s'
structure FnOk(P:Program)(w:World)(K:PySem.W.Frag)(mg:Str->Option Value)(base:Heap)(CX:CXT)(k:Nat)(f:Addr)(fd:FuncData)(ps:List Str)(sp:Sp):Prop where
 len:∀ vs H Q E,sp vs H Q E->vs.length=ps.length
 run:∀ (A:Around) (outer:List Env) (s:Shared) (H:Hp) (args:Args) (us:List Value) (vs:List V) (Q:VK) (E:XK),Room k A->Env0 P w K mg base A outer s H->BindsTo s fd args (ps.zip us)->yla vs us->sp vs H Q E->
  codeAny (model P w) A (.call (.ref f) args) (CR CX outer P w H s Q E) s
theorem FnOk.mono{P:Program}{w:World}{K:PySem.W.Frag}{mg:Str->Option Value}{base:Heap}{CX:CXT}{j k:Nat}{f:Addr}{fd:FuncData}{ps:List Str}{sp:Sp}(F:FnOk P w K mg base CX j f fd ps sp)(h:j<=k) :
  FnOk P w K mg base CX k f fd ps sp:=⟨F.len,fun A outer s H args us vs Q E hr=>F.run A outer s H args us vs Q E (hr.mono h)⟩
theorem FnOk.imp{P:Program}{w:World}{K:PySem.W.Frag}{mg:Str->Option Value}{base:Heap}{CX:CXT}{k:Nat}{f:Addr}{fd:FuncData}{ps:List Str}{sp sp':Sp}(F:FnOk P w K mg base CX k f fd ps sp)
  (h:∀ vs H Q E,sp' vs H Q E->sp vs H Q E):FnOk P w K mg base CX k f fd ps sp':=
 ⟨fun vs H Q E q=>F.len vs H Q E (h _ _ _ _ q),fun A outer s H args us vs Q E hr he hb hv hs=>F.run A outer s H args us vs Q E hr he hb hv (h _ _ _ _ hs)⟩
theorem Env0.make{P:Program}{w:World}{K:PySem.W.Frag}{mg:Str->Option Value}{base:Heap}{A:Around}{outer:List Env}{s:Shared}{H:Hp}(e:Env0 P w K mg base A outer s H)(C:Addr)(us:List Value)(kw:List (Str × Value)) :
  Env0 P w K mg base (A.under (.builtin "type.__call__" ⟨.ref C::us,kw⟩)) outer s H:=⟨by first|exact e.frames|(simpa [Around.under,Code.envs,Code.isFrame,pushEnvs]using e.frames),e.mod,e.bs,e.bsz,e.funs,e.frf,e.hok,e.bare⟩
theorem Env0.in1{P:Program}{w:World}{K:PySem.W.Frag}{mg:Str->Option Value}{base:Heap}{A:Around}{outer:List Env}{s:Shared}{H:Hp}(e:Env0 P w K mg base A outer s H) :
  Env0 P w K mg base A.in1 outer s H:=⟨e.frames,e.mod,e.bs,e.bsz,e.funs,e.frf,e.hok,e.bare⟩
section
variable{X:Cx}{pins:List (Addr × Obj)}{σ:St}{H:Hp}{s s':Shared}
theorem Inv.env0(I:Inv X pins σ H s):Env0 X.prog X.w X.K X.mg X.base X.A X.stack s H:=
 ⟨I.ok.frames,I.ok.mod,I.bs,Nat.le_trans I.ok.bsz I.sz,I.stack,I.stkFree,I.hok,I.bare⟩
theorem Inv.after{Q:VK}{u:Value}(I:Inv X pins σ H s)(h:CE X.stack X.prog X.w H s Q u s'):EP X pins σ Q u s':=by
 obtain⟨v,H',os,bare,un,hok,r,q⟩:=h;obtain⟨hh,g,d,t,os'⟩:=s';obtain rfl:os'=s.os:=os;exact⟨v,H',I.call (h':=hh) (g':=g) (d':=d) (t':=t) (ch:=[]) un hok bare (fun b z=>absurd z (by simp)),r,q⟩
end
def yeu(K:PySem.W.Frag)(fd:FuncData)(ps:List Str)(ds:List Value):Prop:=
 ∀ (s:Shared) (us:List Value),K.In s.heap->(us++ds).length=ps.length->BindsTo s fd ⟨us,[]⟩ (ps.zip (us++ds))
theorem yeu.all{K:PySem.W.Frag}{fd:FuncData}{ps:List Str}(h:∀ us:List Value,us.length=ps.length->bindArgs fd ⟨us,[]⟩=pure (ps.zip us)):yeu K fd ps []:=fun s us _ hl=>by
 rw[List.append_nil]at hl ⊢;exact .of_eq (h us hl)
section
variable{X:Cx}{CX:CXT}{k:Nat}{f C:Addr}{fd:FuncData}{ps:List Str}{sp:Sp}{dvs:List V}{ds:List Value}{E:XK}{x m:Str}{p pos apos:Pos}{e o:Expr}{es:List Expr}{ta:TE}{t:TA}
structure Mk(K:PySem.W.Frag)(C f:Addr):Prop where
 makes:PySem.W.makesIn K C=true
 init:PySem.W.findIn K (.ref C) "__init__" = some (some (.ref f))
 fn:PySem.W.isFn K (.ref f)=true
 kp:PySem.W.keepIn K (.ref C)=true
end
section
variable{X:Cx}{CX:CXT}{k:Nat}{f C:Addr}{fd:FuncData}{ps ks:List Str}{sp:Sp}{E:XK}{x m:Str}{p pos apos kpos:Pos}{e o:Expr}{es:List Expr}{kws:List Keyword}{te ta:TE}{t tk:TA}{nm:Option Str}
structure KBinds(K:PySem.W.Frag)(fd:FuncData)(ps ks:List Str)(g:List Value->List Value->List Value)(gV:List V->List V->List V):Prop where
 to:∀ (s:Shared) (us ws:List Value),K.In s.heap->(g us ws).length=ps.length->BindsTo s fd ⟨us,ks.zip ws⟩ (ps.zip (g us ws))
 rel:∀ {vs:List V} {us:List Value} {zs:List V} {ws:List Value},yla vs us->yla zs ws->yla (gV vs zs) (g us ws)
variable{g:List Value->List Value->List Value}{gV:List V->List V->List V}
end
structure FnScope(N P:List Str)(sc:Scope):Prop where
 kind:sc.kind=.function
 co:sc.isCoroutine=false
 gen:sc.isGenerator=false
 nd:N.Nodup
 pre:N.take P.length=P
 par:∀ x∈P,sc.names.lookup x=some .local\/sc.names.lookup x=some .cell
 nofree:∀ y∈sc.names,y.2≠.free
theorem zgn{kindOf:Str->Option NameKind}{x:Str}:∀ {binds:List (Str × Value)} {m:Str->Option Value},(∀ v,(x,v) ∉ binds)->bindL kindOf binds m x=m x
 |[],_,_=>rfl
 |(n,v)::r,m,h=>by
  unfold bindL;rw[zgn fun w hw=>h w (List.mem_cons_of_mem _ hw)];split
  ·have:x≠n:=by rintro rfl;exact h v List.mem_cons_self
   simp[this]
  ·rfl
theorem zgl{kindOf:Str->Option NameKind}{x:Str}:∀ {binds:List (Str × Value)} {m:Str->Option Value},(∀ v,(x,v) ∉ binds)->bindC kindOf binds m x=m x
 |[],_,_=>rfl
 |(n,v)::r,m,h=>by
  unfold bindC;rw[zgl fun w hw=>h w (List.mem_cons_of_mem _ hw)];split
  ·rfl
  ·have:x≠n:=by rintro rfl;exact h v List.mem_cons_self
   simp[this]
theorem zgm{kindOf:Str->Option NameKind}{x:Str}{v:Value}:∀ {P:List Str} {vs:List Value} {i:Nat} {m:Str->Option Value},P.Nodup->P[i]?=some x->vs[i]?=some v->kindOf x=some .local->
  bindL kindOf (P.zip vs) m x=some v
 |[],_,_,_,_,h,_,_=>by simp at h
 |_::_,[],_,_,_,_,h,_=>by simp at h
 |p::P,w::vs,0,m,nd,h1,h2,hk=>by
  simp at h1 h2;subst h1;subst h2;show bindL kindOf ((p,w)::P.zip vs) m p=_;unfold bindL;rw[zgn fun v hv=>(List.nodup_cons.mp nd).1 (List.of_mem_zip hv).1,if_pos hk];simp
 |p::P,w::vs,i+1,m,nd,h1,h2,hk=>by
  show bindL kindOf ((p,w)::P.zip vs) m x=_;unfold bindL;exact zgm (i:=i) (List.nodup_cons.mp nd).2 (by simpa using h1) (by simpa using h2) hk
theorem zgk{kindOf:Str->Option NameKind}{x:Str}{v:Value}:∀ {P:List Str} {vs:List Value} {i:Nat} {m:Str->Option Value},P.Nodup->P[i]?=some x->vs[i]?=some v->kindOf x≠some .local->
  bindC kindOf (P.zip vs) m x=some v
 |[],_,_,_,_,h,_,_=>by simp at h
 |_::_,[],_,_,_,_,h,_=>by simp at h
 |p::P,w::vs,0,m,nd,h1,h2,hk=>by
  simp at h1 h2;subst h1;subst h2;show bindC kindOf ((p,w)::P.zip vs) m p=_;unfold bindC;rw[zgl fun v hv=>(List.nodup_cons.mp nd).1 (List.of_mem_zip hv).1,if_neg hk];simp
 |p::P,w::vs,i+1,m,nd,h1,h2,hk=>by
  show bindC kindOf ((p,w)::P.zip vs) m x=_;unfold bindC;exact zgk (i:=i) (List.nodup_cons.mp nd).2 (by simpa using h1) (by simpa using h2) hk
def yjj(N:List Str)(vs:List V):St:=vs.map some++List.replicate (N.length - vs.length) none
def yly(CX:CXT)(P:Program)(w:World)(K:PySem.W.Frag)(mg:Str->Option Value)(base:Heap)(N:List Str)(qual:Str)(scope:Scope)(f:Addr)(cd:Value)(A:Around)(outer:List Env)(s:Shared)(H:Hp)(E:XK):Cx where
 prog:=P
 w:=w
 K:=K
 mg:=mg
 base:=base
 A:=A.deeper (envOfC qual scope s.heap.objs.size f cd)
 N:=N
 s₀:=s
 H₀:=H
 env:=envOfC qual scope s.heap.objs.size f cd
 outer:=outer
 stack:=envOfC qual scope s.heap.objs.size f cd::outer
 ex:=[]
 calm:=true
 fn:=fun _=>true
 pn:=[]
 xe:=fun e s'=>wpAny (model P w) (A.deeper (envOfC qual scope s.heap.objs.size f cd)) (leaving (envOfC qual scope s.heap.objs.size f cd) e) (fun _ s''=>CX outer H s E e s'') (fun e' s''=>CX outer H s E e' s'') s'
theorem zj1{sc:Scope}{n:Nat}{x:Str}(h:sc.names.lookup x=some .cell):∃ c,(cellsFrom n sc.names []).lookup x=some c:=by
 have q:=PySem.W.cellsFrom_some sc.names n [] (.inl h);exact Option.isSome_iff_exists.mp q
theorem zhl{CX:CXT}{P:Program}{w:World}{K:PySem.W.Frag}{mg:Str->Option Value}{base:Heap}{N ps:List Str}{qual:Str}{scope:Scope}{f:Addr}{cd:Value}{A:Around}{outer:List Env}{s s1:Shared}{H:Hp}{E:XK}{us:List Value}{vs:List V}
  (S:FnScope N ps scope) (hd:A.handled=none) (e0:Env0 P w K mg base A outer s H) (hl:vs.length=ps.length) (r:yla vs us)
  (x:InCallC s s.heap.objs.size (bindL (envOfC qual scope s.heap.objs.size f cd).kindOf (ps.zip us) fun _=>none) (cellsFrom (s.heap.objs.size+1) scope.names []) (bindC (envOfC qual scope s.heap.objs.size f cd).kindOf (ps.zip us) fun _=>none) s1) :
  Inv (yly CX P w K mg base N qual scope f cd A outer s H E) [] (yjj N vs) H s1:=by
 have hpl:ps.length<=N.length:=by have:=congrArg List.length S.pre;rw[List.length_take]at this;omega
 obtain⟨h1,tk,rfl,hk⟩:=x.done;have noA:∀ b:Addr,b ∉ (yly CX P w K mg base N qual scope f cd A outer s H E).ex:=fun b z=>absurd (show b∈([]:List Addr)from z) (by simp);refine⟨⟨e0.mod,S.kind,rfl,rfl,Nat.le_refl _,fun y z c h1 h2=>?_,fun y hy=>?_,fun y c _ h=>?_,fun _=>hd,Around.frames_deeper e0.frames,.inr ⟨rfl,rfl⟩,fun b z=>absurd z (noA b),e0.bs,e0.bsz,fun b _ _=>noA b,fun b z=>absurd z (noA b),e0.funs,e0.frf⟩,
  rfl,e0.bare,Un.kept hk,⟨_,x.toInCall.ns,fun i y v h1 h2 h3=>?_⟩,fun y c h=>⟨_,x.cell y c h⟩,e0.hok.fresh (Nat.le_refl _),fun y c h=>?_,fun p hp=>absurd (show p∈([]:List (Addr × Obj))from hp) (by simp),e0.hok.kept hk,?_⟩
 ·exact name_of_addr x.apart (PySem.mem_of_lookup h1) (PySem.mem_of_lookup h2)
 ·have hy:scope.names.lookup y=some .cell\/scope.names.lookup y=some .free:=hy;rcases hy with hy|hy
  ·exact zj1 hy
  ·exact absurd rfl (S.nofree _ (PySem.mem_of_lookup hy))
 ·exact Nat.le_of_lt (x.above y c (PySem.mem_of_lookup h))
 ·have hi:i<vs.length:=by
   unfold yjj at h2;by_cases hi:i<vs.length
   ·exact hi
   ·rw[List.getElem?_append_right (by simpa using hi)]at h2;rw[List.getElem?_replicate]at h2;split at h2<;>cases h2
  have ha:vs[i]?=some v:=by
   unfold yjj at h2;rw[List.getElem?_append_left (by simpa using hi),List.getElem?_map]at h2;cases e:vs[i]? with
   |none=>rw[e]at h2;cases h2
   |some a=>rw[e]at h2;cases h2;rfl
  obtain⟨u,hu,rv⟩:=r.get ha;have hp:ps[i]?=some y:=by
   rw[<-S.pre,List.getElem?_take_of_lt (by omega)];exact h1
  have ndP:ps.Nodup:=by rw[<-S.pre];exact S.nd.sublist (List.take_sublist _ _)
  refine⟨u,rv,?_⟩;rcases S.par y (List.mem_of_getElem? hp)with k|k
  ·exact .inl ⟨k,zgm ndP hp hu k⟩
  ·obtain⟨c,e⟩:=zj1 (n:=s.heap.objs.size+1) k;refine .inr ⟨.inl k,c,e,?_⟩;have q:=x.cell y c e;rw[zgk ndP hp hu (by show scope.names.lookup y≠_;rw[k];decide)]at q;exact q
 ·exact e0.hok.fresh (Nat.le_of_lt (x.above y c (PySem.mem_of_lookup h)))
 ·unfold yjj;show _=N.length;rw[List.length_append,List.length_map,List.length_replicate];omega
theorem ygk{CX:CXT}{P:Program}{w:World}{K:PySem.W.Frag}{mg:Str->Option Value}{base:Heap}{k:Nat}{f:Addr}{name qual:Str}{params:Arguments}{body:List Stmt}{scope:Scope}{dV kV doc pm cdv ct oc:Value}{an od:Option Addr}
  {osl:Array (Option Value)} {N ps:List Str} {sp:Sp} (lk:K.lookup f=some ⟨oc,od,.func (PySem.W.fnOf name qual params body scope dV kV doc pm an cdv ct),osl⟩) (hcd:PySem.W.codeIn K cdv qual=true) (S:FnScope N ps scope)
  (len:∀ vs H Q E,sp vs H Q E->vs.length=ps.length)
  (hbody:∀ (A:Around) (outer:List Env) (s:Shared) (H:Hp) (vs:List V) (Q:VK) (E:XK),Room k (A.deeper (envOfC qual scope s.heap.objs.size f cdv))->sp vs H Q E->
   ∃ t,PSs (yly CX P w K mg base N qual scope f cdv A outer s H E) body t/\t { nx:=fun _ H'=>Q .non H',rt:=Q } (yjj N vs) H) :
  FnOk P w K mg base CX (k+1) f (PySem.W.fnOf name qual params body scope dV kV doc pm an cdv ct) ps sp:=by
 refine⟨len,fun A outer s H args us vs Q E hr e0 hb r hsp=>?_⟩;have hl:=len _ _ _ _ hsp;have KX:K.In s.heap:=e0.mod.kin.keeps fun b o e=>(e0.bs b o e).1;have lim:s.heap.NoLimit:=e0.mod.nolimit.keeps fun b o e=>(e0.bs b o e).1;have hkind:∀ y∈ps.zip us,scope.names.lookup y.1=some .local\/(scope.names.lookup y.1=some .cell/\((cellsFrom (s.heap.objs.size+1) scope.names []).lookup y.1).isSome=true):=fun⟨n,v⟩ hy=>by
  rcases S.par n (List.of_mem_zip hy).1 with q|q
  ·exact .inl q
  ·exact .inr ⟨q,PySem.W.cellsFrom_some _ _ _ (.inl q)⟩
 refine codeAny_call_function hr.depth (KX _ _ lk) rfl S.co S.gen rfl (PySem.W.codeRec_of KX hcd) (hb _ _ _ _ ?_);refine wpAny_newFunctionEnv_cells S.kind hkind fun env he s1 x=>?_;subst he;refine⟨lim.keeps x.toInCall.keep,codeAny_func ?_⟩;obtain⟨t,ht,hq⟩:=hbody A outer s H vs Q E (hr.deeper _) hsp;have I:Inv (yly CX P w K mg base N qual scope f cdv A outer s H E) [] (yjj N vs) H s1:=zhl S hr.hd e0 hl r x;refine wpAny_mono (ht [] s1 (yjj N vs) H _ I hq) (fun fl s' hs=>?_) fun e s' hs=>hs;have fin:∀ {σ':St} {H':Hp} {v:V} {u:Value},Inv (yly CX P w K mg base N qual scope f cdv A outer s H E) [] σ' H' s'->yk1 v u->Q v H'->CE outer P w H s Q u s':=
  fun {σ' H' v u} J rv q=>⟨v,H',J.os,J.bare,J.base,J.hok,rv,q⟩
 cases fl with
 |ret u=>
  obtain⟨v,σ',H',J,rv,q⟩:=hs;exact fin J rv q
 |next=>
  obtain⟨σ',H',J,q⟩:=hs;exact fin (v:=V.non) (u:=Value.none) J rfl q
 |brk=>
  obtain⟨_,_,_,q⟩:=hs;exact False.elim q
 |cont=>
  obtain⟨_,_,_,q⟩:=hs;exact False.elim q
end L2
namespace L2
open PySem PySem.Spec PyProof.Rows
section
variable{X:Cx}{x:Str}{p pos:Pos}{e:Expr}{es:List Expr}{t:TA}{id T:String}{r:List V->Hp->VK->Prop}
def tCB(r:List V->Hp->VK->Prop)(t:TA):TE:=fun σ H Q=>t σ H fun vs H1=>r vs H1 Q
theorem zng(hc:yew X (.builtin id) r)(hg:Gl X x)(hm:X.mg x=none)(hv:bootBuiltins x=some (.builtin id))(ha:PA X (e::es) t)(hn:x ≠ "__name__":=by decide)(hdb:(x == ("__debug__" : Str))=false:=by decide)
  (he:starEach (e::es) X.env=(false,eval e X.env)::starEach es X.env:=by rfl) (hpl:(backTo pos (starEach es X.env)).any (·.1)=false:=by rfl):PE X (.Call (.Name x p) (e::es) [] pos) (tCB r t):=by
 intro pins s σ H Q I h;refine wpAny_Call_Name_kw (ybc I hg hm hv ?_ hn hdb);exact PyProof.Rows.callWith_builtin1 (thn (ha pos pins s σ H _ I h) fun us s1 ⟨vs,H1,I1,r1,q1⟩=>hc pins s1 σ H1 vs us Q I1 r1 q1) he hpl
theorem zig(hc:yew X (.type T) r)(hg:Gl X x)(hm:X.mg x=none)(hv:bootBuiltins x=some (.type T))(ha:PA X (e::es) t)(hn:x ≠ "__name__":=by decide)(hdb:(x == ("__debug__" : Str))=false:=by decide)
  (he:starEach (e::es) X.env=(false,eval e X.env)::starEach es X.env:=by rfl) (hpl:(backTo pos (starEach es X.env)).any (·.1)=false:=by rfl):PE X (.Call (.Name x p) (e::es) [] pos) (tCB r t):=by
 intro pins s σ H Q I h;refine wpAny_Call_Name_kw (ybc I hg hm hv ?_ hn hdb);exact PyProof.Rows.callWith_type1 (thn (ha pos pins s σ H _ I h) fun us s1 ⟨vs,H1,I1,r1,q1⟩=>hc pins s1 σ H1 vs us Q I1 r1 q1) he hpl
end
end L2
namespace HT
open PySem PyProof.Rows
section
open PySem.SeqAt
open PySem.AutoSeq1 (wpAny_loadPart')
open PySem.MeetsSeq PySem.MeetsSeq2 PySem.MeetsSeq3
end
section
variable{prog:Program}{w:World}{A:Around}{E:Value->Shared->Prop}{s:Shared}
theorem cat_tup{t b:Addr}{vs ws:List Value}{Q:Value->Shared->Prop}(ht:IsTup s.heap t vs.toArray)(hb:IsTup s.heap b ws.toArray)(hv:vs≠[])
  (h1:ws=[]->Q (.ref t) s) (h2:ws≠[]->Q (.ref s.heap.objs.size) { s with heap:=s.heap.push { cls:=.type "tuple",data:=.seq (vs++ws).toArray } })
  (hsz:vs.length+ws.length<=sizeLine):wpAny (model prog w) A (binaryOp .Add (.ref t) (.ref b)) Q E s:=by
 obtain⟨⟨cls,dd,data,sl⟩,ho,hc,n,hd⟩:=id ht;obtain⟨⟨cls2,dd2,data2,sl2⟩,ho2,hc2,n2,hd2⟩:=id hb;simp only at hc hd hc2 hd2;subst hc hd hc2 hd2;have e:vs.toArray++ws.toArray=(vs++ws).toArray:=by simp
 by_cases hw:ws=[]
 ·exact concat_meets ⟨_,ho,rfl⟩ ⟨_,ho2,rfl⟩ noFill_tuple_add seq_tuple_add PySem.F.slot_tuple_add PySem.F.entry_tuple_add (PySem.F.args_tuple_add_2 _ _)
   (tuple_addW1 t b vs.toArray ws.toArray n n2 dd dd2 sl sl2 (by simpa using hv) (by simp[hw])) ⟨ho,ho2,h1 hw⟩
 ·refine concat_meets ⟨_,ho,rfl⟩ ⟨_,ho2,rfl⟩ noFill_tuple_add seq_tuple_add PySem.F.slot_tuple_add PySem.F.entry_tuple_add (PySem.F.args_tuple_add_2 _ _)
   (tuple_addW2 t b vs.toArray ws.toArray n n2 dd dd2 sl sl2 (by simpa using hv) (by simpa using hw) (by rw[List.size_toArray,List.size_toArray];exact hsz)) ⟨ho,ho2,?_⟩
  rw[e];exact h2 hw
def sIx(n d:Nat):Option Int->Nat
 |none=>d
 |some v=>if v<0 then (v+(n:Int)).toNat else min v.toNat n
theorem ydp(n d:Nat)(hd:d<=n)(o:Option Int):sIx n d o<=n:=by
 cases o with
 |none=>exact hd
 |some v=>
  show (if v<0 then (v+(n:Int)).toNat else min v.toNat n)<=n;by_cases hv:v<0
  ·rw[if_pos hv];omega
  ·rw[if_neg hv];exact Nat.min_le_right _ _
theorem zqj(v:Int)(n d:Nat):(if v<0 then max (v+(n:Int)) 0 else min v (n:Int))=((sIx n d (some v):Nat):Int):=by
 show (if v<0 then max (v+(n:Int)) 0 else min v (n:Int))=(((if v<0 then (v+(n:Int)).toNat else min v.toNat n):Nat):Int);by_cases hv:v<0
 ·simp only[if_pos hv];omega
 ·simp only[if_neg hv];omega
theorem zev(lo hi:Option Int)(n:Nat):Builtin.Slice.sliceAdjust lo hi 1 (n:Int)=(((sIx n 0 lo:Nat):Int),((sIx n n hi:Nat):Int)):=by
 have h1:¬ ((1:Int)<0):=by omega
 unfold Builtin.Slice.sliceAdjust;simp only[h1,if_false];refine Prod.ext ?_ ?_
 ·cases lo with
  |none=>rfl
  |some v=>exact zqj v n 0
 ·cases hi with
  |none=>rfl
  |some v=>exact zqj v n n
theorem zfu(i j:Nat):Builtin.Slice.slicePlaces (i:Int) (j:Int) 1=j - i:=by
 unfold Builtin.Slice.slicePlaces;have h1:(1:Int) > 0:=by omega
 simp only[h1,if_true,Int.ediv_one];split<;>omega
theorem zf5{v:Value}{o:Option Int}{Q:Option Int->Shared->Prop}(p:IsPart v o)(h:Q o s):wpAny (model prog w) A (Builtin.Slice.slicePartIndex v) Q E s:=by
 cases p with
 |none=>exact slicePart_none h
 |int i t=>exact slicePart_int h
theorem zao{sl:Addr}{vl vu:Value}{lo hi:Option Int}{n:Nat}{Q:Int × Int × Nat->Shared->Prop}(hs:s.heap.IsSliceOf sl vl vu .none)(pl:IsPart vl lo)(pu:IsPart vu hi)
  (h:Q (((sIx n 0 lo:Nat):Int),1,sIx n n hi - sIx n 0 lo) s):wpAny (model prog w) A (Builtin.Slice.sliceApplied (.ref sl) (pure (n:Int))) Q E s:=by
 obtain⟨os,hos,hcs,hds⟩:=id hs;unfold Builtin.Slice.sliceApplied Builtin.Slice.sliceFields;refine wpAny_bind (wpAny_bind (wpAny_field hos hds (x:=vl) rfl (wpAny_bind (wpAny_field hos hds (x:=vu) rfl (wpAny_bind (wpAny_field hos hds (x:=.none) rfl (wpAny_pure ?_)))))));refine wpAny_bind (slicePart_none ?_);show wpAny _ _ (if ((1:Int) == 0)=true then _ else _) _ _ s;rw[if_neg (by decide)];refine wpAny_bind (zf5 pl (wpAny_bind (zf5 pu (wpAny_bind (wpAny_pure ?_)))));show wpAny _ _ (match Builtin.Slice.sliceAdjust lo hi 1 (n:Int)with|(lo,hi)=>pure (lo,(1:Int),Builtin.Slice.slicePlaces lo hi 1)) _ _ s;rw[zev lo hi n];show wpAny _ _ (pure (((sIx n 0 lo:Nat):Int),(1:Int),Builtin.Slice.slicePlaces ((sIx n 0 lo:Nat):Int) ((sIx n n hi:Nat):Int) 1)) _ _ s;rw[zfu];exact wpAny_pure h
theorem znm(xs:Array Value)(i k:Nat):((List.range k).filterMap fun(m:Nat)=>xs[((i:Int)+(m:Int) * 1).toNat]?).toArray=((xs.toList.drop i).take k).toArray:=by
 have e:(fun(m:Nat)=>xs[((i:Int)+(m:Int) * 1).toNat]?)=fun m=>xs[i+m]?:=by
  funext m;have:((i:Int)+(m:Int) * 1).toNat=i+m:=by omega
  rw[this]
 rw[e];have:=pick_run xs i k;rw[List.filterMap_map]at this;have e2:((fun x=>xs[x]?) ∘ fun x=>i+x)=fun m=>xs[i+m]?:=rfl;rw[e2]at this;rw[this]
theorem getItem_tuple_cut{t sl:Addr}{items:Array Value}{vl vu:Value}{lo hi:Option Int}{Q:Value->Shared->Prop}(ht:IsTup s.heap t items)(hs:s.heap.IsSliceOf sl vl vu .none)(pl:IsPart vl lo)(pu:IsPart vu hi)
  (hw:¬ (sIx items.size 0 lo=0/\sIx items.size items.size hi=items.size))
  (h:Q (.ref s.heap.objs.size) { s with heap:=s.heap.push { cls:=.type "tuple",data:=.seq ((items.toList.drop (sIx items.size 0 lo)).take (sIx items.size items.size hi - sIx items.size 0 lo)).toArray } })
  (hsz:items.size<=sizeLine):wpAny (model prog w) A (getItem (.ref t) (.ref sl)) Q E s:=by
 have htake:sizeOk (.seq ((items.toList.drop (sIx items.size 0 lo)).take (sIx items.size items.size hi - sIx items.size 0 lo)).toArray):=by
  show ((items.toList.drop (sIx items.size 0 lo)).take (sIx items.size items.size hi - sIx items.size 0 lo)).toArray.size<=sizeLine;rw[List.size_toArray,List.length_take,List.length_drop,Array.length_toList];omega
 have hj:sIx items.size items.size hi<=items.size:=ydp _ _ (Nat.le_refl _) hi;obtain⟨os,hos,hcs,hds⟩:=id hs;have hTs:s.TypeIs (.ref sl) "slice":=⟨os,hos,hcs⟩
 unfold getItem;try with_reducible refine wpAny_holding ?_
 first|refine wpAny_bind (wpAny_pure ?_)|skip
 refine wpAny_bind (wpAny_sequenceKey ht.typeIs (by decide) ?_);refine wpAny_bind (wpAny_callSpecial?_slot (name:=Str.ofString "__getitem__") ht.typeIs PyProof.Rows.slot_tuple_getitem
  (wpAny_call_entry PyProof.Rows.slot_tuple_getitem ht.typeIs entry_tuple_getitem ?_ (args_tuple_getitem _ _)))
 show wpAny _ _ (Builtin.Tuple.tupleItemsOf (.ref t) >>= _) _ _ s;refine wpAny_bind (tupleItemsOf_ ht ?_);refine wpAny_bind (wpAny_typeOf hTs ?_);rw[if_pos (by decide)];refine wpAny_bind (zao hs pl pu ?_);have hno:¬ ((((sIx items.size 0 lo:Nat):Int) == 0 && (1:Int) == 1 && (sIx items.size items.size hi - sIx items.size 0 lo) == items.size)=true):=by
  intro q;rw[Bool.and_eq_true,Bool.and_eq_true]at q;have q1:((sIx items.size 0 lo:Nat):Int)=0:=eq_of_beq q.1.1;have q2:sIx items.size items.size hi - sIx items.size 0 lo=items.size:=eq_of_beq q.2;exact hw ⟨by omega,by omega⟩
 show wpAny _ _ (if (((sIx items.size 0 lo:Nat):Int) == 0 && (1:Int) == 1 && (sIx items.size items.size hi - sIx items.size 0 lo) == items.size)=true then _ else _) _ _ s;rw[if_neg hno,znm];first
  |exact wpAny_bind (m:=Builtin.Tuple.tupleExact _) (wpAny_newObj_type (wpAny_pure ⟨_,rfl,wpAny_pure h⟩) htake)
  |exact wpAny_bind (m:=Builtin.Tuple.tupleExact _) (wpAny_newObj_type (wpAny_bind (wpAny_pure (wpAny_pure ⟨_,rfl,wpAny_pure h⟩))) htake)
  |exact wpAny_bind (wpAny_bind (m:=Builtin.Tuple.tupleExact _) (wpAny_newObj_type (wpAny_pure (wpAny_pure ⟨_,rfl,wpAny_pure h⟩)) htake))
  |exact wpAny_bind (wpAny_bind (m:=Builtin.Tuple.tupleExact _) (wpAny_newObj_type (wpAny_pure ⟨_,rfl,wpAny_pure h⟩) htake))
end
end HT
namespace L2
open PySem PySem.Spec PyProof.Rows
abbrev TO:=St->Hp->(Option Int->Hp->Prop)->Prop
def PO(X:Cx)(e:Option Expr)(t:TO):Prop:=
 ∀ (pins:List (Addr × Obj)) (s:Shared) (σ:St) (H:Hp) (Q:Option Int->Hp->Prop),Inv X pins σ H s->t σ H Q->
  wpAny (model X.prog X.w) X.A (evalPart e X.env) (fun u s'=>∃ o H',Inv X pins σ H' s'/\IsPart u o/\Q o H') X.xe s
def zw8:TO:=fun _ H Q=>Q none H
def yjv(t:TE):TO:=fun σ H Q=>t σ H fun x H1=>∃ i,x=.int i/\Q (some i) H1
section
variable{X:Cx}{e:Expr}{te:TE}{lo hi:Option Expr}{tl th:TO}{pos p2:Pos}
theorem zu3:PO X none zw8:=by
 intro pins s σ H Q I h;rw[evalPart_none];exact wpAny_pure ⟨none,H,I,.none,h⟩
theorem zu4(h:PE X e te):PO X (some e) (yjv te):=by
 intro pins s σ H Q I hw;rw[evalPart_some];refine thn (h pins s σ H _ I hw) fun u s1 ⟨x,H1,I1,r1,q1⟩=>?_;obtain⟨i,rfl,q⟩:=q1;obtain⟨t,rfl⟩:=r1;exact⟨some i,H1,I1,.int i t,q⟩
def SlR(X:Cx)(r:V->Option Int->Option Int->Hp->VK->Prop):Prop:=
 ∀ (pins:List (Addr × Obj)) (s:Shared) (σ:St) (H:Hp) (x:V) (v vl vu:Value) (lo hi:Option Int) (sl:Addr) (Q:VK),Inv X pins σ H s->yk1 x v->s.heap.IsSliceOf sl vl vu .none->IsPart vl lo->IsPart vu hi->r x lo hi H Q->
  ∃ T id,typeLookup (.type T) "__getitem__" = pure (some (.builtin id))/\s.TypeIs v T/\wpAny (model X.prog X.w) X.A (getItem v (.ref sl)) (EP X pins σ Q) X.xe s
theorem SlR.or{r r':V->Option Int->Option Int->Hp->VK->Prop}(h:SlR X r)(h':SlR X r'):SlR X (fun x lo hi H Q=>r x lo hi H Q\/r' x lo hi H Q):=by
 intro pins s σ H x v vl vu lo hi sl Q I rx hs pl pu q;rcases q with q|q
 ·exact h pins s σ H x v vl vu lo hi sl Q I rx hs pl pu q
 ·exact h' pins s σ H x v vl vu lo hi sl Q I rx hs pl pu q
def tSl(r:V->Option Int->Option Int->Hp->VK->Prop)(te:TE)(tl th:TO):TE:=fun σ H Q=>te σ H fun x H1=>tl σ H1 fun l H2=>th σ H2 fun u H3=>r x l u H3 Q
theorem znj{r:V->Option Int->Option Int->Hp->VK->Prop}(hr:SlR X r)(he:PE X e te)(hl:PO X lo tl)(hu:PO X hi th):PE X (.Subscript e (.Slice lo hi none p2) pos) (tSl r te tl th):=by
 intro pins s σ H Q I h;refine Subscript_ (thn (he pins s σ H _ I h) fun v s1 ⟨x,H1,I1,r1,q1⟩=>?_);refine wpAny_Slice (thn (hl pins s1 σ H1 _ I1 q1) fun vl s2 ⟨l,H2,I2,pl,q2⟩=>thn (hu pins s2 σ H2 _ I2 q2) fun vu s3 ⟨u,H3,I3,pu,q3⟩=>?_);rw[evalPart_none];refine wpAny_pure ?_;have I4:Inv X pins σ H3 { s3 with heap:=s3.heap.push { cls:=.type "slice",data:=.fields #[vl,vu,.none] } }:=I3.kept (t':=s3.toks) fun b ob q=>Heap.get?_push_of_some _ q;obtain⟨T,id,hT,ht,hg⟩:=hr pins { s3 with heap:=s3.heap.push { cls:=.type "slice",data:=.fields #[vl,vu,.none] } } σ H3 x v vl vu l u s3.heap.objs.size Q I4 r1 (Heap.IsSliceOf.new ..) pl pu q3;show wpAny (model X.prog X.w) X.A (subscriptTail e (.Slice lo hi none p2) v (.ref s3.heap.objs.size)) (EP X pins σ Q) X.xe { s3 with heap:=s3.heap.push { cls:=.type "slice",data:=.fields #[vl,vu,.none] } };exact tail_any (ops:=[.ref s3.heap.objs.size,v]) ht hT hg (by with_unfolding_all rfl)
def ylx(xs:List V)(lo hi:Option Int):List V:=(xs.drop (HT.sIx xs.length 0 lo)).take (HT.sIx xs.length xs.length hi - HT.sIx xs.length 0 lo)
theorem zdx(xs:List V)(lo hi:Option Int):(ylx xs lo hi).length<=xs.length:=by
 unfold ylx;rw[List.length_take,List.length_drop];omega
def yoa(K:PySem.W.Frag):V->Option Int->Option Int->Hp->VK->Prop:=fun x lo hi H Q=>∃ a xs,x=.ref a/\SqT K H a xs/\
 ¬ (HT.sIx xs.length 0 lo=0/\HT.sIx xs.length xs.length hi=xs.length)/\∀ p,H p=none->Q (.ref p) (upd H p (.tup (ylx xs lo hi)))
theorem ydw:SlR X (yoa X.K):=by
 intro pins s σ H x v vl vu lo hi sl Q I rx hs pl pu h;obtain⟨a,xs,rfl,hx,hw,q⟩:=h;cases rx;obtain⟨its,r,ht,hz⟩:=I.tuple hx;have hlen:its.toArray.size=xs.length:=by rw[List.size_toArray];exact r.length.symm
 refine⟨"tuple",_,PyProof.Rows.slot_tuple_getitem.lookup,ht.typeIs,?_⟩;refine HT.getItem_tuple_cut ht hs pl pu (by rw[hlen];exact hw) ?_ (by rw[hlen];exact hz);rw[hlen];refine⟨.ref s.heap.objs.size,_,I.laid (t':=s.toks) (o:=.tup (ylx xs lo hi)) (fun b ob q=>Heap.get?_push_of_some _ q) (Nat.le_refl _) ?_,rfl,q _ (I.hok.fresh (Nat.le_refl _))⟩;exact⟨Nat.le_trans (zdx xs lo hi) hz,_,(r.drop (HT.sIx xs.length 0 lo)).take (HT.sIx xs.length xs.length hi - HT.sIx xs.length 0 lo),IsTup.new _ _⟩
def yis(K:PySem.W.Frag):R2:=fun x y H Q=>∃ a b xs ys,x=.ref a/\y=.ref b/\SqT K H a xs/\SqT K H b ys/\xs≠[]/\xs.length+ys.length<=sizeLine/\
 (ys=[]->Q (.ref a) H)/\(ys≠[]->∀ p,H p=none->Q (.ref p) (upd H p (.tup (xs++ys))))
theorem yla.nil_iff{xs:List V}{us:List Value}(r:yla xs us):us=[] ↔ xs=[]:=by
 cases r with
 |nil=>simp
 |cons _ _=>simp
theorem zun:OpR X (binaryOp .Add) (yis X.K):=by
 intro pins s σ H x y v u Q I rx ry h;obtain⟨a,b,xs,ys,rfl,rfl,ha,hb,hx,hz,q1,q2⟩:=h;cases rx;cases ry;obtain⟨its,r1,p1,_⟩:=I.tuple ha;obtain⟨its2,r2,p2,_⟩:=I.tuple hb;refine HT.cat_tup p1 p2 (fun z=>hx (r1.nil_iff.mp z)) (fun z=>⟨.ref a,H,I,rfl,q1 (r2.nil_iff.mp z)⟩) (fun z=>?_) (by rw[<-r1.length,<-r2.length];exact hz);refine⟨.ref s.heap.objs.size,_,I.laid (t':=s.toks) (o:=.tup (xs++ys)) (fun b ob q=>Heap.get?_push_of_some _ q) (Nat.le_refl _) ?_,rfl,q2 (fun w=>z (r2.nil_iff.mpr w)) _ (I.hok.fresh (Nat.le_refl _))⟩;exact⟨by rw[List.length_append];exact hz,_,r1.append r2,IsTup.new _ _⟩
end
end L2
namespace L2
open PySem PySem.Spec PyProof.Rows
def ixN(n:Nat)(i:Int):Option Nat:=if 0<=i then (if i<n then some i.toNat else none)else if -(n:Int)<=i then some (i+n).toNat else none
def atI{α:Type}(xs:List α)(i:Int):Option α:=(ixN xs.length i).bind fun j=>xs[j]?
theorem zsy{n:Nat}{i:Int}{j:Nat}(h:ixN n i=some j):seqIndex? i n=some j/\j<n/\-(n:Int)<=i/\i<n:=by
 unfold ixN at h;by_cases h0:0<=i
 ·rw[if_pos h0]at h;by_cases h1:i<n
  ·rw[if_pos h1]at h;have e:i.toNat=j:=Option.some.inj h;exact⟨by rw[seqIndex_of h0 h1,e],by omega,by omega,h1⟩
  ·rw[if_neg h1]at h;cases h
 ·rw[if_neg h0]at h;by_cases h1:-(n:Int)<=i
  ·rw[if_pos h1]at h;have e:(i+n).toNat=j:=Option.some.inj h;exact⟨by rw[seqIndex_neg (by omega) h1,e],by omega,h1,by omega⟩
  ·rw[if_neg h1]at h;cases h
theorem zps{α:Type}{xs:List α}{i:Int}{v:α}(h:atI xs i=some v):∃ j,seqIndex? i xs.length=some j/\xs[j]?=some v/\j<xs.length/\-(xs.length:Int)<=i/\i<xs.length:=by
 unfold atI at h;cases e:ixN xs.length i with
 |none=>rw[e]at h;cases h
 |some j=>
  rw[e]at h;obtain⟨h1,h2,h3,h4⟩:=zsy e;exact⟨j,h1,h,h2,h3,h4⟩
theorem zpt{α:Type}{xs:List α}{j:Nat}{v:α}(h:xs[j]?=some v):atI xs (j:Int)=some v:=by
 have hj:j<xs.length:=(List.getElem?_eq_some_iff.mp h).1;have e:ixN xs.length (j:Int)=some j:=by
  unfold ixN;rw[if_pos (by omega),if_pos (by omega)];simp
 unfold atI;rw[e];exact h
def zpi(b:Expr):Prop:=∀ o i,subscripted b false o i=operate [o,i] (getItem o i)
def IxR(X:Cx)(r:R2):Prop:=
 ∀ (value slice:Expr) (pins:List (Addr × Obj)) (s:Shared) (σ:St) (H:Hp) (x y:V) (v u:Value) (Q:VK),Inv X pins σ H s->yk1 x v->yk1 y u->r x y H Q->
  subscripted slice false v u=operate [v,u] (getItem v u)->wpAny (model X.prog X.w) X.A (subscriptTail value slice v u) (EP X pins σ Q) X.xe s
def MtR(X:Cx)(id:String)(r:V->List V->Hp->VK->Prop):Prop:=
 ∀ (pins:List (Addr × Obj)) (s:Shared) (σ:St) (H:Hp) (x:V) (xs:List V) (v:Value) (us:List Value) (Q:VK),Inv X pins σ H s->yk1 x v->yla xs us->r x xs H Q->
  wpAny (model X.prog X.w) X.A (call (.builtin id) (v::us)) (EP X pins σ Q) X.xe s
section
variable{X:Cx}{a b:Expr}{ta tb:TE}{pos:Pos}
theorem IxR.or{r r':R2}(h:IxR X r)(h':IxR X r'):IxR X (fun x y H Q=>r x y H Q\/r' x y H Q):=by
 intro value slice pins s σ H x y v u Q I rx ry q hs;rcases q with q|q
 ·exact h value slice pins s σ H x y v u Q I rx ry q hs
 ·exact h' value slice pins s σ H x y v u Q I rx ry q hs
theorem MtR.or{id:String}{r r':V->List V->Hp->VK->Prop}(h:MtR X id r)(h':MtR X id r'):MtR X id (fun x xs H Q=>r x xs H Q\/r' x xs H Q):=by
 intro pins s σ H x xs v us Q I rx rs q;rcases q with q|q
 ·exact h pins s σ H x xs v us Q I rx rs q
 ·exact h' pins s σ H x xs v us Q I rx rs q
theorem yih{r:R2}(hr:IxR X r)(ha:PE X a ta)(hb:PE X b tb)(hs:zpi b):PE X (.Subscript a b pos) (tOp r ta tb):=by
 intro pins s σ H Q I h;exact Subscript_ (ylo ha hb I h fun v u s2 x y H2 I2 rx ry q=>hr a b pins s2 σ H2 x y v u Q I2 rx ry q (hs _ _))
def yn5(K:PySem.W.Frag):R2:=fun x y H Q=>∃ p xs i v,x=.ref p/\y=.int i/\SqL K H p xs/\atI xs i=some v/\Q v H
def yn6(K:PySem.W.Frag):R2:=fun x y H Q=>∃ p xs i v,x=.ref p/\y=.int i/\SqT K H p xs/\atI xs i=some v/\Q v H
theorem zsz:IxR X (yn5 X.K):=by
 intro value slice pins s σ H x y v u Q I rx ry h hs;obtain⟨p,xs,i,z,rfl,rfl,hq,he,q⟩:=h;cases rx;obtain⟨t,rfl⟩:=ry;obtain⟨its,r,pl,hz⟩:=I.list hq;obtain⟨j,h1,h2,h3,h4,h5⟩:=zps he;obtain⟨w,ew,rw'⟩:=r.get h2;have hl:=r.length;have hn:=ybe;have fin:EP X pins σ Q w s:=⟨z,H,I,rw',q⟩
 by_cases h0:0<=i
 ·have hj:i.toNat=j:=by
   rw[seqIndex_of h0 h5]at h1;exact Option.some.inj h1
  exact item_listR pl.isList h0 (by omega) (by rw[hj];simpa using ew) fin hs
 ·have hj:(i+(its.toArray.size:Int)).toNat=j:=by
   rw[seqIndex_neg (by omega) h4]at h1;rw[List.size_toArray,<-hl];exact Option.some.inj h1
  exact subscriptTail_builtinR (x:=w) pl.isList.typeIs slot_list_getitem.lookup
   (wpAny_getItem_list_neg (Q:=fun r s'=>r=w/\EP X pins σ Q r s') pl.isList (by omega) (by rw[List.size_toArray]<;>omega) (by omega) (by rw[hj];simpa using ew) ⟨rfl,fin⟩) hs
theorem yas:IxR X (yn6 X.K):=by
 intro value slice pins s σ H x y v u Q I rx ry h hs;obtain⟨p,xs,i,z,rfl,rfl,hq,he,q⟩:=h;cases rx;obtain⟨t,rfl⟩:=ry;obtain⟨its,r,pl,hz⟩:=I.tuple hq;obtain⟨j,h1,h2,h3,h4,h5⟩:=zps he;obtain⟨w,ew,rw'⟩:=r.get h2;have hl:=r.length;have hn:=ybe;have fin:EP X pins σ Q w s:=⟨z,H,I,rw',q⟩
 exact subscriptTail_builtinR (x:=w) pl.typeIs slot_tuple_getitem.lookup
  (getItem_tuple (j:=j) (Q:=fun r s'=>r=w/\EP X pins σ Q r s') pl (by omega) (by omega) (by rw[List.size_toArray,<-hl];exact h1) (by simpa using ew) ⟨rfl,fin⟩) hs
theorem zfl(its:List Value)(n j:Nat)(u:Value):Obj.mapSeq (·.setIfInBounds j u) { cls:=.type "list",data:=.seq its.toArray n }={ cls:=.type "list",data:=.seq (its.set j u).toArray n }:=by
 simp[Obj.mapSeq]
theorem Inv.lst{pins:List (Addr × Obj)}{σ:St}{H:Hp}{s:Shared}{p:Addr}{xs:List V}(I:Inv X pins σ H s)(h:H p=some (.lst xs)) :
  ∃ (its:List Value) (n:Nat),yla xs its/\s.heap.get? p=some { cls:=.type "list",data:=.seq its.toArray n }/\xs.length<=sizeLine:=by
 obtain⟨z,its,n,r,e⟩:=I.hok p _ h;exact⟨its,n,r,e,z⟩
theorem Inv.lstUpd{pins:List (Addr × Obj)}{σ:St}{H:Hp}{s:Shared}{p:Addr}{xs ys:List V}{its its':List Value}{n n':Nat}{f:Obj->Obj}(I:Inv X pins σ H s)(h:H p=some (.lst xs))
  (ho:s.heap.get? p=some { cls:=.type "list",data:=.seq its.toArray n }) (hf:f { cls:=.type "list",data:=.seq its.toArray n }={ cls:=.type "list",data:=.seq its'.toArray n' }) (r:yla ys its') (hz:ys.length<=sizeLine) (t:Nat) :
  Inv X pins σ (upd H p (.lst ys)) { s with heap:=s.heap.update p f,toks:=t }:=by
 have e:(s.heap.update p f).get? p=some { cls:=.type "list",data:=.seq its'.toArray n' }:=by
  rw[Heap.get?_update_self f ho (by rw[hf]<;>rfl),hf]
 refine I.write (x:=p) (e:=p) (by rw[h];trivial) (.inl rfl) (fun b u hb q=>(Heap.get?_update_other _ _ (Ne.symm hb)).trans q) ⟨_,e⟩ ?_;exact⟨hz,its',n',r,e⟩
def yix:V->V->V->Hp->(Hp->Prop)->Prop:=fun o i v H Q=>∃ p xs k j,o=.ref p/\i=.int k/\H p=some (.lst xs)/\ixN xs.length k=some j/\Q (upd H p (.lst (xs.set j v)))
theorem zol:ykx X yix:=by
 intro pins s σ H o i v ov iv u Q I ro ri rv h;obtain⟨p,xs,k,j,rfl,rfl,hp,hj,q⟩:=h;cases ro;obtain⟨t,rfl⟩:=ri;obtain⟨its,n,r,ho,hz⟩:=I.lst hp;obtain⟨h1,h2,h3,h4⟩:=zsy hj;have hl:=r.length;have hn:=ybe;have I':Inv X pins σ (upd H p (.lst (xs.set j v))) { s with heap:=s.heap.update p (Obj.mapSeq (·.setIfInBounds j u)) }:=
  I.lstUpd hp ho (zfl its n j u) (r.set rv j) (by rw[List.length_set];exact hz) s.toks
 by_cases h0:0<=k
 ·have hk:k.toNat=j:=by
   rw[seqIndex_of h0 h4]at h1;exact Option.some.inj h1
  exact PySem.W.ki_setAt ho h0 (by omega) (by rw[List.size_toArray,<-hl];exact h4) (by rw[hk];exact⟨_,I',q⟩)
 ·have hk:(k+(its.toArray.size:Int)).toNat=j:=by
   rw[seqIndex_neg (by omega) h3]at h1;rw[List.size_toArray,<-hl];exact Option.some.inj h1
  exact PySem.W.ki_setBack ho (by omega) (by rw[List.size_toArray,<-hl];exact h3) (by omega) (by rw[hk];exact⟨_,I',q⟩)
theorem zdr(lo hi:Option Int)(n:Nat):(sliceBounds lo hi none n).1=((HT.sIx n 0 lo:Nat):Int)/\(sliceBounds lo hi none n).2.1=((HT.sIx n n hi:Nat):Int)/\(sliceBounds lo hi none n).2.2=1:=by
 refine⟨?_,?_,rfl⟩
 ·cases lo with
  |none=>simp[sliceBounds,HT.sIx]
  |some i=>
   simp only[sliceBounds,HT.sIx,Option.getD_none,show (1:Int) > 0 by decide,if_true];by_cases h:i<0
   ·simp only[h,if_true]<;>omega
   ·simp only[h,if_false]<;>omega
 ·cases hi with
  |none=>simp[sliceBounds,HT.sIx]
  |some i=>
   simp only[sliceBounds,HT.sIx,Option.getD_none,show (1:Int) > 0 by decide,if_true];by_cases h:i<0
   ·simp only[h,if_true]<;>omega
   ·simp only[h,if_false]<;>omega
theorem zcv(its:List Value)(lo hi:Option Int):slicePick its.toArray lo hi none=((its.drop (HT.sIx its.length 0 lo)).take (HT.sIx its.length its.length hi - HT.sIx its.length 0 lo)).toArray:=by
 obtain⟨h1,h2,h3⟩:=zdr lo hi its.toArray.size;unfold slicePick;rw[h1,h2,h3];simp only[sliceRange_one,pick_run,List.size_toArray]<;>rfl
def yn9(K:PySem.W.Frag):V->Option Int->Option Int->Hp->VK->Prop:=fun x lo hi H Q=>∃ a xs,x=.ref a/\SqL K H a xs/\∀ p,H p=none->Q (.ref p) (upd H p (.lst (ylx xs lo hi)))
theorem zwj:SlR X (yn9 X.K):=by
 intro pins s σ H x v vl vu lo hi sl Q I rx hs pl pu h;obtain⟨a,xs,rfl,hx,q⟩:=h;cases rx;obtain⟨its,r,ht,hz⟩:=I.list hx;have hlen:=r.length;refine⟨"list",_,slot_list_getitem.lookup,ht.isList.typeIs,?_⟩;refine wpAny_getItem_list_slice ht.isList hs pl pu .none (by simp) ?_ (by rw[List.size_toArray]<;>omega);rw[zcv,<-hlen];refine⟨.ref s.heap.objs.size,_,I.laid (t':=s.toks) (o:=.lst (ylx xs lo hi)) (fun b ob q=>Heap.get?_push_of_some _ q) (Nat.le_refl _) ?_,rfl,q _ (I.hok.fresh (Nat.le_refl _))⟩;exact⟨Nat.le_trans (zdx xs lo hi) hz,_,0,(r.drop (HT.sIx xs.length 0 lo)).take (HT.sIx xs.length xs.length hi - HT.sIx xs.length 0 lo),Heap.get?_push_size _ rfl⟩
def ygf:V->Bool
 | .non=>true
 | .bl _=>true
 | .int _=>true
 | .str _=>true
 |_=>false
def eqV:V->V->Bool
 | .non,.non=>true
 | .bl a,.bl b=>a == b
 | .bl a,.int b=>(if a then 1 else 0) == b
 | .int a,.bl b=>a == (if b then 1 else 0)
 | .int a,.int b=>a == b
 | .str a,.str b=>a == b
 |_,_=>false
theorem zy3{A:Around}{s:Shared}{y x:V}{u v:Value}(ry:yk1 y u)(rx:yk1 x v)(fy:ygf y=true)(fx:ygf x=true):SeqAt.EqAt A s u v (eqV y x):=by
 cases y with
 |non=>
  cases ry;cases x with
  |non=>cases rx;exact SeqAt.EqAt.same _
  |bl b=>cases rx;exact SeqAt.EqAt.none_bool b
  |int b=>obtain⟨t,rfl⟩:=rx;exact SeqAt.EqAt.none_int b t
  |str b=>obtain⟨t,rfl⟩:=rx;exact SeqAt.EqAt.none_str b t
  |_=>exact absurd (show false=true from fx) Bool.false_ne_true
 |bl a=>
  cases ry;cases x with
  |non=>cases rx;exact SeqAt.EqAt.bool_none a
  |bl b=>cases rx;exact SeqAt.EqAt.bool_bool a b
  |int b=>obtain⟨t,rfl⟩:=rx;exact SeqAt.EqAt.bool_int a b t
  |str b=>obtain⟨t,rfl⟩:=rx;exact SeqAt.EqAt.bool_str a b t
  |_=>exact absurd (show false=true from fx) Bool.false_ne_true
 |int a=>
  obtain⟨t',rfl⟩:=ry;cases x with
  |non=>cases rx;exact SeqAt.EqAt.int_none a t'
  |bl b=>cases rx;exact SeqAt.EqAt.int_bool a t' b
  |int b=>obtain⟨t,rfl⟩:=rx;exact SeqAt.EqAt.int_int a t' b t
  |str b=>obtain⟨t,rfl⟩:=rx;exact SeqAt.EqAt.int_str a t' b t
  |_=>exact absurd (show false=true from fx) Bool.false_ne_true
 |str a=>
  obtain⟨t',rfl⟩:=ry;cases x with
  |non=>cases rx;exact SeqAt.EqAt.str_none a t'
  |bl b=>cases rx;exact SeqAt.EqAt.str_bool a t' b
  |int b=>obtain⟨t,rfl⟩:=rx;exact SeqAt.EqAt.str_int a t' b t
  |str b=>obtain⟨t,rfl⟩:=rx;exact SeqAt.EqAt.str_str a t' b t
  |_=>exact absurd (show false=true from fx) Bool.false_ne_true
 |_=>exact absurd (show false=true from fy) Bool.false_ne_true
def eqU(x:V)(u:Value):Bool:=match u with
 | .none=>eqV .non x
 | .bool b=>eqV (.bl b) x
 | .int i _=>eqV (.int i) x
 | .str z _=>eqV (.str z) x
 |_=>false
theorem zy6{x y:V}{u:Value}(r:yk1 y u)(f:ygf y=true):eqU x u=eqV y x:=by
 cases y with
 |non=>cases r;rfl
 |bl b=>cases r;rfl
 |int i=>obtain⟨t,rfl⟩:=r;rfl
 |str z=>obtain⟨t,rfl⟩:=r;rfl
 |_=>exact absurd (show false=true from f) Bool.false_ne_true
theorem zpo{x:V}:∀ {xs:List V} {us:List Value},yla xs us->xs.all ygf=true->us.any (eqU x)=xs.any fun y=>eqV y x
 |_,_,.nil,_=>rfl
 |y::xs,u::us,.cons r t,f=>by
  rw[List.all_cons,Bool.and_eq_true]at f;rw[List.any_cons,List.any_cons,zy6 r f.1,zpo t f.2]
theorem zms{A:Around}{s:Shared}{x:V}{v:Value}(rx:yk1 x v)(fx:ygf x=true):∀ {xs:List V} {us:List Value},yla xs us->xs.all ygf=true->∀ u∈us,SeqAt.EqAt A s u v (eqU x u)
 |_,_,.nil,_=>fun u hu=>by cases hu
 |y::xs,u::us,.cons r t,f=>fun u' hu=>by
  rw[List.all_cons,Bool.and_eq_true]at f;rcases List.mem_cons.mp hu with rfl|hu
  ·rw[zy6 r f.1];exact zy3 r rx f.1 fx
  ·exact zms rx fx t f.2 u' hu
def inV(x:V)(xs:List V):Bool:=xs.any fun y=>eqV y x
def rIn(K:PySem.W.Frag)(neg:Bool):R2:=fun x y H Q=>∃ p xs,y=.ref p/\(SqL K H p xs\/SqT K H p xs)/\ygf x=true/\xs.all ygf=true/\Q (.bl (if neg then !inV x xs else inV x xs)) H
theorem zie:OpR X (compareOp .In) (rIn X.K false):=by
 intro pins s σ H x y v u Q I rx ry h;obtain⟨p,xs,rfl,hq,fx,fs,q⟩:=h;cases ry;rcases hq with hq|hq
 ·obtain⟨its,r,pl,hz⟩:=I.list hq;refine SeqAt.in_listAt (eqU x) pl.isList (fun w hw=>zms rx fx r fs w (by simpa using hw)) ⟨.bl _,H,I,rfl,?_⟩;rw[show its.toArray.any (eqU x)=its.any (eqU x) by simp,zpo r fs];exact q
 ·obtain⟨its,r,pl,hz⟩:=I.tuple hq;refine SeqAt.in_tupleAt (eqU x) pl (fun w hw=>zms rx fx r fs w (by simpa using hw)) ⟨.bl _,H,I,rfl,?_⟩;rw[show its.toArray.any (eqU x)=its.any (eqU x) by simp,zpo r fs];exact q
theorem zc0:yew X (.builtin "len") (fun xs H Q=>∃ p ys,xs=[.ref p]/\(SqL X.K H p ys\/SqT X.K H p ys)/\Q (.int ys.length) H):=by
 intro pins s σ H xs us Q I r h;obtain⟨p,ys,rfl,hq,q⟩:=h;obtain⟨u,rfl,rx⟩:=yj9 r;cases rx;have hn:=ybe;rcases hq with hq|hq
 ·obtain⟨its,r',pl,hz⟩:=I.list hq;have hlen:=r'.length;exact Calls.call_len_list pl.isList (by simp only[List.size_toArray]<;>omega) ⟨.int ys.length,H,I.tok _,⟨s.toks+1,by rw[List.size_toArray,hlen]⟩,q⟩
 ·obtain⟨its,r',pl,hz⟩:=I.tuple hq;have hlen:=r'.length;exact len_tuple pl (by simp only[List.size_toArray]<;>omega) ⟨.int ys.length,H,I.tok _,⟨s.toks+1,by rw[List.size_toArray,hlen]⟩,q⟩
theorem yew.or{f:Value}{r r':List V->Hp->VK->Prop}(h:yew X f r)(h':yew X f r'):yew X f (fun xs H Q=>r xs H Q\/r' xs H Q):=by
 intro pins s σ H xs us Q I rs q;rcases q with q|q
 ·exact h pins s σ H xs us Q I rs q
 ·exact h' pins s σ H xs us Q I rs q
theorem zc1:yew X (.type "list") (fun xs H Q=>∃ p ys,xs=[.ref p]/\(SqL X.K H p ys\/SqT X.K H p ys)/\∀ l,H l=none->Q (.ref l) (upd H l (.lst ys))):=by
 intro pins s σ H xs us Q I r h;obtain⟨p,ys,rfl,hq,q⟩:=h;obtain⟨u,rfl,rx⟩:=yj9 r;cases rx;have fin:∀ (its:List Value),yla ys its->ys.length<=sizeLine->∀ (h':Heap) (c':Nat),(∀ b o',s.heap.get? b=some o'->h'.get? b=some o')->
   h'.get? s.heap.objs.size=some { cls:=.type "list",dict:=none,data:=.seq its.toArray c',slots:=#[] }->EP X pins σ Q (.ref s.heap.objs.size) { s with heap:=h' }:=fun its r' hz h' c' kp e=>
  ⟨.ref s.heap.objs.size,_,I.laid (t':=s.toks) kp (Nat.le_refl _) (show ye1 X.prog X.w _ h' _ (.lst ys)from⟨hz,its,c',r',e⟩),rfl,q _ (I.hok.fresh (Nat.le_refl _))⟩
 rcases hq with hq|hq
 ·obtain⟨its,r',pl,hz⟩:=I.list hq;have hlen:=r'.length;obtain⟨o,ho,hc,n,hd⟩:=pl.isList;exact call_list_seq p (.inl rfl) ho hc hd (fun h' c' kp e=>fin its r' hz h' c' kp e) (by simp only[List.size_toArray]<;>omega)
 ·obtain⟨its,r',pl,hz⟩:=I.tuple hq;have hlen:=r'.length;obtain⟨o,ho,hc,n,hd⟩:=pl;exact call_list_seq p (.inr rfl) ho hc hd (fun h' c' kp e=>fin its r' hz h' c' kp e) (by simp only[List.size_toArray]<;>omega)
theorem zb3:yew X (.type "tuple") (fun xs H Q=>∃ p ys,xs=[.ref p]/\((SqL X.K H p ys/\∀ l,H l=none->Q (.ref l) (upd H l (.tup ys)))\/(SqT X.K H p ys/\Q (.ref p) H))):=by
 intro pins s σ H xs us Q I r h;obtain⟨p,ys,rfl,h⟩:=h;obtain⟨u,rfl,rx⟩:=yj9 r;cases rx;rcases h with⟨hq,q⟩|⟨hq,q⟩
 ·obtain⟨its,r',pl,hz⟩:=I.list hq;have hlen:=r'.length;refine call_tuple_list pl.isList (fun h' kp=>?_) (by simp only[List.size_toArray]<;>omega);have I1:Inv X pins σ H { s with heap:=h' }:=I.kept (t':=s.toks) kp;have I2:Inv X pins σ (upd H h'.objs.size (.tup ys)) { s with heap:=h'.push { cls:=.type "tuple",data:=.seq its.toArray } }:=
   I1.laid (t':=s.toks) (fun b o e=>Heap.get?_push_of_some _ e) (Nat.le_refl _) (show ye1 X.prog X.w _ _ _ (.tup ys)from⟨hz,its,r',IsTup.new _ _⟩)
  exact⟨.ref h'.objs.size,_,I2,rfl,q _ (I1.hok.fresh (Nat.le_refl _))⟩
 ·obtain⟨its,r',pl,hz⟩:=I.tuple hq;exact call_tuple_same pl ⟨.ref p,H,I,rfl,q⟩
def tyV(K:PySem.W.Frag)(T:String)(x:V)(H:Hp):Prop:=match x with
 | .str _=>T = "str"
 | .int _=>T = "int"
 | .ref p=>(T = "list"/\∃ xs,SqL K H p xs)\/(T = "tuple"/\∃ o,K.lookup p=some o/\o.cls=.type "tuple"/\o.dict=none)\/
   (T = "dict"/\((∃ kvs,H p=some (.dK kvs))\/∃ kvs,H p=some (.dT kvs)))\/(T = "set"/\∃ S n,H p=some (.set S n))
 |_=>False
theorem yem{pins:List (Addr × Obj)}{σ:St}{H:Hp}{s:Shared}{T:String}{x:V}{v:Value}(I:Inv X pins σ H s)(r:yk1 x v)(ty:tyV X.K T x H) :
  s.TypeIs v T/\∀ a,v=.ref a->∃ ob,s.heap.get? a=some ob/\ob.dict=none:=by
 cases x with
 |str z=>
  obtain⟨t,rfl⟩:=r;cases (show T = "str" from ty);exact⟨typeIs_str s z t,fun _ e=>nomatch e⟩
 |int i=>
  obtain⟨t,rfl⟩:=r;cases (show T = "int" from ty);exact⟨typeIs_int s i t,fun _ e=>nomatch e⟩
 |ref p=>
  cases r;rcases ty with⟨rfl,xs,hq⟩|⟨rfl,o,hk,hc,hd⟩|⟨rfl,hk⟩|⟨rfl,S,n,hk⟩
  ·obtain⟨its,_,pl,_⟩:=I.list hq;refine⟨pl.isList.typeIs,fun a e=>?_⟩;cases e;obtain⟨o,n,e,c,hd,_⟩:=pl;exact⟨o,e,hd⟩
  ·refine⟨⟨o,I.kIn p o hk,hc⟩,fun a e=>?_⟩;cases e;exact⟨o,I.kIn _ o hk,hd⟩
  ·have z:∃ o,s.heap.get? p=some o/\o.ExactDict:=by
    rcases hk with⟨kvs,hk⟩|⟨kvs,hk⟩
    ·obtain⟨_,_,_,_,o,_,_,e,ex,_⟩:=I.hok p _ hk;exact⟨o,e,ex⟩
    ·obtain⟨_,_,_,_,o,_,_,e,ex,_⟩:=I.hok p _ hk;exact⟨o,e,ex⟩
   obtain⟨o,e,ex⟩:=z;refine⟨⟨o,e,ex.1⟩,fun a e2=>?_⟩;cases e2;exact⟨o,e,ex.2.1⟩
  ·obtain⟨o,_,_,_,e,ex,_⟩:=I.hok p _ hk;refine⟨⟨o,e,ex.1⟩,fun a e2=>?_⟩;cases e2;exact⟨o,e,ex.2.1⟩
 |_=>exact False.elim ty
def tBM(K:PySem.W.Frag)(T:String)(r:V->List V->Hp->VK->Prop)(to:TE)(t:TA):TE:=fun σ H Q=>to σ H fun x H1=>tyV K T x H1/\t σ H1 fun xs H2=>r x xs H2 Q
variable{o e:Expr}{es:List Expr}{to:TE}{t:TA}{name:Str}{apos cpos:Pos}{T id:String}{r:V->List V->Hp->VK->Prop}
theorem yig(pa:PlainAttrs T)(slot:Slot T name id)(hty:typeOf (.builtin id)=pure (.type "method_descriptor"))(hm:MtR X id r)(ho:PE X o to)(ha:PA X (e::es) t)
  (hbase:attributeBase o name X.env (eval o X.env)=eval o X.env:=by rfl)
  (hfew:((backTo cpos (starEach (e::es) X.env)).all (fun x=>!x.1) && (backToKw cpos (keywordEach [] X.env)).all (fun x=>x.1.isSome)
   && decide ((e::es).length+([]:List Keyword).length+(if ([]:List Keyword).isEmpty then 0 else 1)<30))=true:=by rfl)
  (hline:(apos.endLine == cpos.line)=true:=by rfl) (hs:starEach (e::es) X.env=(false,eval e X.env)::starEach es X.env:=by rfl) (hplain:(backTo cpos (starEach es X.env)).any (·.1)=false:=by rfl) :
  PE X (.Call (.Attribute o name apos) (e::es) [] cpos) (tBM X.K T r to t):=by
 intro pins s σ H Q I h;refine wpAny_Call_method_late hbase hfew hline rfl (thn (ho pins s σ H _ I h) fun v s1 ⟨x,H1,I1,r1,ty,q1⟩=>?_);obtain⟨h1,h2⟩:=yem I1 r1 ty;refine⟨T,id,pa,slot,hty,h1,h2,?_⟩;have hA:=ha cpos pins s1 σ H1 _ I1 q1;rw[hs]at hA ⊢;refine Calls.callWith_builtin (by show (false || (backTo cpos (starEach es X.env)).any (·.1))=false;rw[hplain]<;>rfl) (Calls.evalArgs_plain ?_);exact thn hA fun us s2 ⟨vs,H2,I2,r2,q2⟩=>hm pins s2 σ H2 x vs v us Q I2 r1 r2 q2
end
end L2
namespace L2
open PySem PySem.Spec PyProof.Rows
def MtM(X:Cx)(id:String)(r:V->List V->Hp->VK->Prop):Prop:=
 ∀ (pins:List (Addr × Obj)) (s:Shared) (σ:St) (H:Hp) (x:V) (xs:List V) (v:Value) (us:List Value) (Q:VK),Inv X pins σ H s->yk1 x v->yla xs us->r x xs H Q->
  wpAny (model X.prog X.w) X.A (call (.builtin id) (v::us)) (EP X pins σ Q) X.xe s
theorem yla.one:∀ {x:V} {us:List Value},yla [x] us->∃ u,us=[u]/\yk1 x u
 |_,_,.cons r .nil=>⟨_,rfl,r⟩
theorem yla.two:∀ {x y:V} {us:List Value},yla [x,y] us->∃ u v,us=[u,v]/\yk1 x u/\yk1 y v
 |_,_,_,.cons r (.cons q .nil)=>⟨_,_,rfl,r,q⟩
theorem yla.zero:∀ {us:List Value},yla [] us->us=[]
 |_,.nil=>rfl
section
variable{X:Cx}{pins:List (Addr × Obj)}{σ:St}{H:Hp}{s:Shared}{l b:Addr}{xs ys zs:List V}
theorem Inv.lset{its its':List Value}{n:Nat}{f:Array Value->Array Value}{t':Nat}(I:Inv X pins σ H s)(hH:H l=some (.lst xs))
  (e:s.heap.get? l=some { cls:=.type "list",data:=.seq its.toArray n }) (hf:f its.toArray=its'.toArray) (hv:yla ys its') (hz:ys.length<=sizeLine) :
  Inv X pins σ (upd H l (.lst ys)) { s with heap:=s.heap.update l (Obj.mapSeq f),toks:=t' }:=by
 have q:=PySem.IsL.update e f;rw[hf]at q;refine I.write (x:=l) (e:=l) (by rw[hH];exact trivial) (.inl rfl) (fun b' u hb hu=>(Heap.get?_update_other s.heap (Obj.mapSeq f) (Ne.symm hb)).trans hu) ⟨_,q⟩ ?_;exact⟨hz,its',_,hv,q⟩
theorem Inv.lnew{its:List Value}{t':Nat}(I:Inv X pins σ H s)(hv:yla ys its)(hz:ys.length<=sizeLine) :
  Inv X pins σ (upd H s.heap.objs.size (.lst ys)) { s with heap:=s.heap.push { cls:=.type "list",data:=.seq its.toArray },toks:=t' }:=
 I.laid (fun _ _ q=>Heap.get?_push_of_some _ q) (Nat.le_refl _) ⟨hz,its,0,hv,Heap.get?_push_size _ rfl⟩
theorem Inv.fresh(I:Inv X pins σ H s):H s.heap.objs.size=none:=I.hok.fresh (Nat.le_refl _)
theorem Inv.lstM(I:Inv X pins σ H s)(hH:H l=some (.lst xs)):xs.length<=sizeLine/\∃ (its:List Value) (n:Nat),yla xs its/\xs.length=its.length/\s.heap.get? l=some { cls:=.type "list",data:=.seq its.toArray n }:=by
 obtain⟨z,its,n,r,e⟩:=I.hok l _ hH;exact⟨z,its,n,r,r.length,e⟩
theorem zm1{n:Nat}(h:n<=sizeLine):Builtin.List.listTooLong n=false:=by
 unfold Builtin.List.listTooLong;exact decide_eq_false (by omega)
end
section
variable{X:Cx}
def zvi:V->List V->Hp->VK->Prop:=fun x vs H Q=>∃ l xs y,x=.ref l/\vs=[y]/\H l=some (.lst xs)/\xs.length<sizeLine/\Q .non (upd H l (.lst (xs++[y])))
theorem zh5:MtM X "list.append" zvi:=by
 intro pins s σ H x vs v us Q I rx rv h;obtain⟨l,xs,y,rfl,rfl,hH,hz,q⟩:=h;cases rx;obtain⟨u,rfl,ru⟩:=rv.one;obtain⟨z,its,n,r,hl,e⟩:=I.lstM hH;refine call_meets F.slot_list_append ⟨_,e,rfl⟩ F.entry_list_append (F.args_list_append_2 _ _) (PySem.list_append l its.toArray n u (by rw[List.size_toArray];omega)) ⟨e,?_⟩;refine⟨.non,_,I.lset (its':=its++[u]) hH e (by simp) (r.append (.cons ru .nil)) ?_,rfl,q⟩;rw[List.length_append,List.length_singleton];omega
def zvj:V->List V->Hp->VK->Prop:=fun x vs H Q=>∃ l b xs zs,x=.ref l/\vs=[.ref b]/\H l=some (.lst xs)/\H b=some (.lst zs)/\xs.length+zs.length<=sizeLine/\Q .non (upd H l (.lst (xs++zs)))
theorem zh6:MtM X "list.extend" zvj:=by
 intro pins s σ H x vs v us Q I rx rv h;obtain⟨l,b,xs,zs,rfl,rfl,hH,hB,hz,q⟩:=h;cases rx;obtain⟨u,rfl,ru⟩:=rv.one;cases ru;obtain⟨z,its,n,r,hl,e⟩:=I.lstM hH;obtain⟨z2,its2,n2,r2,hl2,e2⟩:=I.lstM hB;have hsz:its.toArray.size+its2.toArray.size<=sizeLine:=by rw[List.size_toArray,List.size_toArray];omega
 have hlong:¬ (!its.toArray.isEmpty && Builtin.List.listTooLong (its.toArray.size+its2.toArray.size))=true:=by
  rw[zm1 hsz,Bool.and_false];exact Bool.false_ne_true
 refine call_meets F.slot_list_extend ⟨_,e,rfl⟩ F.entry_list_extend (F.args_list_extend_2 _ _)
  (AutoSeq1.list_extend_list_list_0 l its.toArray n b its2.toArray n2 hlong (by rw[List.size_toArray];omega) (by omega)) ⟨e,e2,?_⟩
 refine⟨.non,_,I.lset (its':=its++its2) hH e (by simp) (r.append r2) ?_,rfl,q⟩;rw[List.length_append];omega
def rClear:V->List V->Hp->VK->Prop:=fun x vs H Q=>∃ l xs,x=.ref l/\vs=[]/\H l=some (.lst xs)/\Q .non (upd H l (.lst []))
theorem mt_clear:MtM X "list.clear" rClear:=by
 intro pins s σ H x vs v us Q I rx rv h;obtain⟨l,xs,rfl,rfl,hH,q⟩:=h;cases rx;have hus:=rv.zero;subst hus;obtain⟨z,its,n,r,hl,e⟩:=I.lstM hH;refine call_meets F.slot_list_clear ⟨_,e,rfl⟩ F.entry_list_clear (F.args_list_clear_1 _) (AutoSeq1.list_clear_list_0 l its.toArray n (by rw[List.size_toArray];omega)) ⟨e,?_⟩;exact⟨.non,_,I.lset (its':=[]) (ys:=[]) hH e rfl .nil (Nat.zero_le _),rfl,q⟩
def yn1:R2:=fun x y H Q=>∃ l b xs zs,x=.ref l/\y=.ref b/\H l=some (.lst xs)/\H b=some (.lst zs)/\xs.length+zs.length<=sizeLine/\∀ p,H p=none->Q (.ref p) (upd H p (.lst (xs++zs)))
theorem yb6:OpR X (binaryOp .Add) yn1:=by
 intro pins s σ H x y v u Q I rx ry h;obtain⟨l,b,xs,zs,rfl,rfl,hH,hB,hz,q⟩:=h;cases rx;cases ry;obtain⟨z,its,n,r,hl,e⟩:=I.lstM hH;obtain⟨z2,its2,n2,r2,hl2,e2⟩:=I.lstM hB;refine PySem.P.add_list e e2 ?_ (by rw[List.size_toArray,List.size_toArray];omega);have ea:its.toArray++its2.toArray=(its++its2).toArray:=by simp
 rw[ea];exact⟨.ref _,_,I.lnew (t':=s.toks) (r.append r2) (by rw[List.length_append];omega),rfl,q _ I.fresh⟩
end
section
variable{prog:Program}{w:World}{A:Around}{E:Value->Shared->Prop}{s:Shared}
set_option maxRecDepth 100000 in
end
section
variable{X:Cx}
end
end L2
namespace Att
open PySem PySem.W PySem.Calls PyProof.Rows
theorem zav{P:Params}{h:Heap}:∀ (ns:List Int) (vs:List Value),WellAll P h vs (ns.map WData.int)->IntsAre vs ns:=by
 intro ns;induction ns with
 |nil=>
  intro vs w;rw[List.map_nil]at w;cases w;exact .nil
 |cons n ns ih=>
  intro vs w;rw[List.map_cons]at w;cases w with
  |cons a b=>
   cases a;exact .cons _ _ (ih _ b)
theorem ziu{l:OpenLaw}{n:Nat}(hn:l.most=some n){P:Params}{h:Heap}{args:List WData}{vals:List Value}
  (hpre:l.row.toRowW.claim.pre args=true) (hwl:WellAll P h vals args) :
  ∃ a vs ns,vals=[Value.ref a]/\args=[WData.list (ns.map WData.int)]/\h.get? a=some { cls:=.type "list",data:=.seq vs.toArray }/\IntsAre vs ns/\ns.length<=n:=by
 have hsh:WShape.hasAll [] args [.list .int]=true:=(pre_splitW hpre).1;have hc:l.pre.holds [] { args:=args }=true:=(pre_splitW hpre).2;obtain⟨d,r,rfl,h1,h2⟩:=hasAllW_cons hsh;obtain rfl:=hasAllW_nil h2;obtain⟨xs,rfl,h3⟩:=hasW_list h1;obtain⟨ns,rfl⟩:=items_int h3;have hlen:ns.length<=n:=by
  unfold OpenLaw.pre at hc;have h4:(WTm.not (.lt (.lit (.int (n:Int))) (.len (.arg 0)))).holds [] { args:=[.list (ns.map .int)] }=true:=by
   have h4:=(holds_andW hc).1;rw[hn]at h4;exact h4
  have h5:=condW_of h4 (w_not (w_lt w_lit (w_len_list (w_arg rfl))));rw[List.length_map]at h5;refine Nat.le_of_not_lt fun q=>?_;have q':(n:Int)<((ns.length:Nat):Int):=by omega
  first
   |(rw[decide_eq_true q']at h5;exact absurd h5 (by decide))
   |(simp at h5;omega)
 cases hwl with
 |cons w1 w2=>
  cases w2;cases w1 with
  |list ho hall=>exact⟨_,_,ns,rfl,rfl,ho,zav ns _ hall,hlen⟩
theorem zii(l:OpenLaw)(args:List WData):l.row.toRowW.claim.post args (.bool true) args=true:=
 postW_of (r:=l.row.toRowW) (X:=(true == true))
  (show WShape.has [] (.bool true) .bool=true by first|rfl|decide|simp[WShape.has,WShape.arms,WShape.armsAll])
  (show (WTm.eq .res (.lit (.bool true))).value [] { args:=args,res:=some (.bool true),after:=args }=some (.bool (true == true))from w_eq_bool (w_res rfl) w_lit) rfl
theorem attach_call{l:OpenLaw}{n:Nat}{q:Program}{loose:List Str}{XP:(Str->Option Value)->Heap->Prop}{YP:World->Heap->Prop}{d:DefRec}
  (hn:l.most=some n) (hdf:d.params.defaults=[])
  (call:∀ (w:World) (s₀ s₁:Shared) (mg mb:Str->Option Value) (fa:Addr) (o:Obj) (pm cd doc:Value) (a:Addr) (vs:List Value) (ns:List Int),
   Ground q loose [] XP w s₀ mg mb s₁.heap->YP w s₁.heap->
   s₁.heap.get? fa=some o->o.data=.func (docDef d.name d.params d.body d.scope pm cd doc)->s₁.heap.CodeRec cd d.name->mg d.name=some (.ref fa)->
   s₁.heap.get? a=some { cls:=.type "list",data:=.seq vs.toArray }->IntsAre vs ns->ns.length<=n->s₁.gens=#[]->
   codeAny (model l.prog w) callerA (.call (.ref fa) ⟨[.ref a],[]⟩) (fun r s'=>r=.ok (.ret (.bool true))/\OldK s₁.heap s'.heap/\s'.os=s₁.os/\AllBare s'.gens) s₁) :
  WalkO q loose XP YP l.row.toRowW d [] (fun f vs=>PySem.call f vs):=by
 intro w s₀ s₁ mg mb G Y fa o pm cd doc dV kV ho hd hcd hD hmg hg args vals as hpre hlay hrd hwl hlo;obtain rfl:dV=.none:=Dflts.none hD hdf;obtain rfl:kV=.none:=Dflts.noKw hD;obtain⟨a,vs,ns,rfl,rfl,hobj,hints,hlen⟩:=ziu hn hpre hwl;refine enter_call (codeAny_mono (call w s₀ s₁ mg mb fa o pm cd doc a vs ns G Y ho (fd_plain hd) hcd hmg hobj hints hlen hg) fun r s' hq=>?_);obtain⟨rfl,h2,h3,h4⟩:=hq;exact⟨.inl ⟨.bool true,.bool true,[],rfl,fun _=>rfl,.bool true,zii l _,fun _=>⟨List.Pairwise.nil,fun _ hm=>(nomatch hm)⟩⟩,h2,h3,h4⟩
section
variable{prog:Program}{w:World}{A:Around}{E:Value->Shared->Prop}{s:Shared}{K:Frag}
def ybd(h:Heap)(L d:Addr):List (Addr × Obj):=(List.range h.objs.size).filterMap fun a=>if a=L\/a=d then none else (h.get? a).map fun o=>(a,o)
end
end Att
namespace L2
open PySem PySem.Spec PyProof.Rows
theorem zjf:∀ {vs:List Value} {ns:List Int},IntsAre vs ns->yla (ns.map V.int) vs
 |_,_,.nil=>.nil
 |_,_,.cons n t h=>.cons ⟨t,rfl⟩ (zjf h)
def ykw(H:Hp):Prop:=∀ b,H b=none\/∃ o xs,H b=some (.frz o (.lst xs))
theorem zmg{P:Program}{w:World}{K:PySem.W.Frag}{mg mb:Str->Option Value}{CX:CXT}{k:Nat}{fa a:Addr}{fd:FuncData}{x:Str}{sp:Sp}{s₁:Shared}{vs:List Value}{ns:List Int}
  (KX:K.In s₁.heap) (hns:s₁.heap.Ns mainGlobals mg) (hb:s₁.heap.Ns builtinsNs mb) (hbb:∀ x:Str,x ≠ "__name__"->mb x=bootBuiltins x) (hlim:s₁.heap.NoLimit) (hg:s₁.gens=#[])
  (ha:s₁.heap.get? a=some { cls:=.type "list",data:=.seq vs.toArray }) (hi:IntsAre vs ns) (hl:ns.length<=sizeLine) (hr:Room k callerA)
  (F:∀ base:Heap,K.In base->base.Ns mainGlobals mg->FnOk P w K mg base CX k fa fd [x] sp) (hbind:∀ (s:Shared) (u:Value),BindsTo s fd ⟨[u],[]⟩ [(x,u)])
  (hsp:∀ H:Hp,ykw H->SqL K H a (ns.map V.int)->sp [.ref a] H (fun v _=>v=.bl true) fun _ _ _=>False)
  (hCX:∀ H e s',CX [] H s₁ (fun _ _ _=>False) e s'->False) :
  codeAny (model P w) callerA (.call (.ref fa) ⟨[.ref a],[]⟩) (fun r s'=>r=.ok (.ret (.bool true))/\OldK s₁.heap s'.heap/\s'.os=s₁.os/\AllBare s'.gens) s₁:=by
 have rv:=zjf hi;have lenV:=hi.length;have core:∀ H:Hp,ykw H->SqL K H a (ns.map V.int)->HOk P w H s₁.heap->(∀ b,H b≠none->b=a)->(H a≠none->K.lookup a=none)->
   codeAny (model P w) callerA (.call (.ref fa) ⟨[.ref a],[]⟩) (fun r s'=>r=.ok (.ret (.bool true))/\OldK s₁.heap s'.heap/\s'.os=s₁.os/\AllBare s'.gens) s₁:=by
  intro H hO hS hok hA hK;have base_of:∀ {b:Addr} {o:Obj},s₁.heap.get? b=some o->H b=none->(ymp s₁.heap H).get? b=some o:=fun e n=>zlz e n;have noA:∀ {b:Addr} {o:Obj} {es:Array DictEntry} {ep:Nat},s₁.heap.get? b=some o->o.data=.dict es ep->H b=none:=fun {b o es ep} e d=>by
   cases q:H b with
   |none=>rfl
   |some u=>
    have e':b=a:=hA b (by rw[q];simp);subst e';rw[ha]at e;cases e;have d':Data.seq vs.toArray _=Data.dict es ep:=d;cases d'
  have nsK:∀ {b:Addr} {m:Str->Option Value},s₁.heap.Ns b m->(ymp s₁.heap H).Ns b m:=fun {b m} ⟨o,es,ep,e,d,r⟩=>⟨o,es,ep,base_of e (noA e d),d,r⟩
  have hKb:K.In (ymp s₁.heap H):=fun b o e=>base_of (KX b o e) (by
   cases q:H b with
   |none=>rfl
   |some u=>
    have e':b=a:=hA b (by rw[q];simp);subst e';rw[hK (by rw[q];simp)]at e;cases e)
  have hM:Mod K mg (ymp s₁.heap H):=⟨hKb,nsK hns,⟨mb,nsK hb,hbb⟩,let ⟨mc,h1,h2⟩:=hlim;⟨mc,nsK h1,h2⟩⟩
  have e0:Env0 P w K mg (ymp s₁.heap H) callerA [] s₁ H:=⟨rfl,hM,fun b o e=>zuk e,Nat.le_of_eq (zhh _ _),trivial,fun b hb=>absurd (show b∈([]:List Addr)from hb) (by simp),hok,.of_eq hg⟩
  refine codeAny_mono ((F _ hKb (nsK hns)).run callerA [] s₁ H ⟨[.ref a],[]⟩ [.ref a] [.ref a] _ _ hr e0 (hbind s₁ (.ref a)) (.cons rfl .nil) (hsp H hO hS)) fun r s' h=>?_;cases r with
  |error e=>exact(hCX H e s' h).elim
  |ok fl=>
   cases fl with
   |next=>exact False.elim h
   |brk=>exact False.elim h
   |cont=>exact False.elim h
   |ret u=>
    obtain⟨v,H',os,bare,un,hok',r',q⟩:=h;have q':v=.bl true:=q;subst q';obtain rfl:u=Value.bool true:=r';refine⟨rfl,OldK.of_keep fun b o e=>?_,os,bare⟩;cases q:H b with
    |none=>exact un.keep b o e q (by intro z;exact absurd (show b∈([]:List Addr)from z) (by simp)) (by simp)
    |some u=>
     rcases hO b with z|⟨ob,xs,z⟩
     ·rw[q]at z;cases z
     ·have z2:=un.frzs b ob _ z;obtain⟨e1,_⟩:=hok b _ z;obtain⟨e2,_⟩:=hok' b _ z2;rw[e]at e1;cases e1;exact e2
 cases hk:K.lookup a with
 |some o=>
  have e:=KX a o hk;rw[ha]at e;cases e;refine core (fun _=>none) (fun _=>.inl rfl) (.inr ⟨_,vs.toArray,_,hk,rfl,rfl,rfl,by rw[List.size_toArray,lenV];exact hl,by simpa using rv⟩) (fun b u z=>by have z':(none:Option HO)=some u:=z;cases z') (fun b z=>absurd rfl z) fun z=>absurd rfl z
 |none=>
  refine core (fun b=>if b=a then some (.frz { cls:=.type "list",data:=.seq vs.toArray } (.lst (ns.map V.int)))else none) (fun b=>?_) (.inl (.inr ⟨{ cls:=.type "list",data:=.seq vs.toArray },if_pos rfl⟩)) (fun b u z=>?_) (fun b z=>?_) fun _=>hk
  ·by_cases hb:b=a
   ·exact .inr ⟨_,_,if_pos hb⟩
   ·exact .inl (if_neg hb)
  ·by_cases hb:b=a
   ·have z':=(if_pos hb).symm.trans z;cases z';subst hb;exact⟨ha,by rw[List.length_map];exact hl,vs,_,rv,ha⟩
   ·have z':=(if_neg hb).symm.trans z;cases z'
  ·by_cases hb:b=a
   ·exact hb
   ·exact absurd (if_neg hb) z
end L2
namespace L2
open PySem PySem.Spec PyProof.Rows
abbrev KOf{K:PySem.W.Frag}{h:Heap}(_:K.In h):PySem.W.Frag:=K
theorem zxk{l:PySem.W.OpenLaw}{n k:Nat}{q:Program}{loose:List Str}{XP:(Str->Option Value)->Heap->Prop}{YP:World->Heap->Prop}{d:DefRec}{K:Params->PySem.W.Frag}{CX:World->CXT}{sp:World->Sp}{x:Str}
  (hn:l.most=some n) (hn2:n<=sizeLine) (hdf:d.params.defaults=[]) (hr:Room k callerA)
  (hY:∀ (w:World) (h:Heap),YP w h->(K w.params).In h)
  (F:∀ (w:World) (mg:Str->Option Value) (fa:Addr) (h:Heap),(K w.params).In h->h.Ns mainGlobals mg->mg d.name=some (.ref fa)->
   ∃ fd:FuncData,(∀ (s:Shared) (u:Value),BindsTo s fd ⟨[u],[]⟩ [(x,u)])/\
    ∀ base:Heap,(K w.params).In base->base.Ns mainGlobals mg->FnOk l.prog w (K w.params) mg base (CX w) k fa fd [x] (sp w))
  (hsp:∀ (w:World) (H:Hp) (a:Addr) (ns:List Int),ns.length<=n->ykw H->SqL (K w.params) H a (ns.map V.int)->sp w [.ref a] H (fun v _=>v=.bl true) fun _ _ _=>False)
  (hCX:∀ (w:World) (H:Hp) (s:Shared) (e:Value) (s':Shared),CX w [] H s (fun _ _ _=>False) e s'->False) :
  PySem.W.WalkO q loose XP YP l.row.toRowW d [] (fun f vs=>PySem.call f vs):=by
 refine Att.attach_call hn hdf fun w s₀ s₁ mg mb fa o pm cd doc a vs ns G Y ho hd hcd hmg hobj hints hlen hg=>?_;have KX:=hY w _ Y;obtain⟨fd,hb,hF⟩:=F w mg fa _ KX G.T.g hmg;exact zmg KX G.T.g G.T.b G.T.builtins G.T.nolimit hg hobj hints (Nat.le_trans hlen hn2) hr hF hb (fun H hO hS=>hsp w H a ns hlen hO hS) fun H e s'=>hCX w H s₁ e s'
end L2
namespace L2
open PySem PySem.Spec PyProof.Rows
def zqs(s:Stmt):Arguments:=match s with
 | .FunctionDef _ a _ _ _ _ _ _ _ _=>a
 |_=>{ posonlyargs:=[],args:=[],vararg:=none,kwonlyargs:=[],kw_defaults:=[],kwarg:=none,defaults:=[] }
def zqt(s:Stmt):List Stmt:=match s with
 | .FunctionDef _ _ b _ _ _ _ _ _ _=>b
 |_=>[]
def zkd(s:Stmt):Scope:=match s with
 | .FunctionDef _ _ _ _ _ _ sc _ _ _=>sc
 |_=>{ kind:=.function,names:=[],isGenerator:=false,isCoroutine:=false }
abbrev CX0:CXT:=fun _ _ _ _ _ _=>False
abbrev E0:XK:=fun _ _ _=>False
structure Fun(K:PySem.W.Frag)(x qual:Str)(st:Stmt)(f:Addr)(fd:FuncData):Prop where
 ex:∃ (oc:Value) (od:Option Addr) (kV doc pm:Value) (an:Option Addr) (cdv ct:Value) (osl:Array (Option Value)),
  fd=PySem.W.fnOf x qual (zqs st) (zqt st) (zkd st) .none kV doc pm an cdv ct/\K.lookup f=some ⟨oc,od,.func fd,osl⟩/\PySem.W.codeIn K cdv qual=true
 kp:PySem.W.keepIn K (.ref f)=true
section
variable{P:Program}{w:World}{K:PySem.W.Frag}{mg:Str->Option Value}{base:Heap}
theorem Fun.ok{x qual:Str}{st:Stmt}{f:Addr}{fd:FuncData}{N ps:List Str}{k:Nat}{sp:Sp}(F:Fun K x qual st f fd)(S:FnScope N ps (zkd st))(len:∀ vs H Q E,sp vs H Q E->vs.length=ps.length)
  (hbody:∀ (cdv:Value) (A:Around) (outer:List Env) (s:Shared) (H:Hp) (vs:List V) (Q:VK) (E:XK),Room k (A.deeper (envOfC qual (zkd st) s.heap.objs.size f cdv))->sp vs H Q E->
   ∃ t,PSs (yly CX0 P w K mg base N qual (zkd st) f cdv A outer s H E).nox (zqt st) t/\t { nx:=fun _ H'=>Q .non H',rt:=Q } (yjj N vs) H):FnOk P w K mg base CX0 (k+1) f fd ps sp:=by
 obtain⟨oc,od,kV,doc,pm,an,cdv,ct,osl,rfl,lk,hcd⟩:=F.ex;refine ygk lk hcd S len fun A outer s H vs Q E hr hsp=>?_;obtain⟨t,h,q⟩:=hbody cdv A outer s H vs Q E hr hsp;exact⟨t,h.nox,q⟩
theorem Fun.binds{x qual:Str}{st:Stmt}{f:Addr}{fd:FuncData}{ps:List Str}(F:Fun K x qual st f fd)
  (h:∀ (kV doc pm:Value) (an:Option Addr) (cdv ct:Value) (us:List Value),us.length=ps.length->bindArgs (PySem.W.fnOf x qual (zqs st) (zqt st) (zkd st) .none kV doc pm an cdv ct) ⟨us,[]⟩=pure (ps.zip us)):yeu K fd ps []:=by
 obtain⟨oc,od,kV,doc,pm,an,cdv,ct,osl,rfl,lk,hcd⟩:=F.ex;exact .all (h kV doc pm an cdv ct)
theorem zz9{x qual:Str}{st:Stmt}{f:Addr}{oc:Value}{od an:Option Addr}{osl:Array (Option Value)}{kV doc pm cdv ct:Value}(l:K.lookup f=some ⟨oc,od,.func (PySem.W.fnOf x qual (zqs st) (zqt st) (zkd st) .none kV doc pm an cdv ct),osl⟩)
  (c:PySem.W.codeIn K cdv qual=true) (k:PySem.W.keepIn K (.ref f)=true):Fun K x qual st f (PySem.W.fnOf x qual (zqs st) (zqt st) (zkd st) .none kV doc pm an cdv ct):=⟨⟨oc,od,kV,doc,pm,an,cdv,ct,osl,rfl,l,c⟩,k⟩
end
theorem ziz{n:Nat}(h:n<=1000):n<sizeLine:=Nat.lt_of_le_of_lt h (by decide)
section
variable{X:Cx}
end
def yk5(H H':Hp):Prop:=∀ b o,H b=some o->H' b=some o
theorem yk5.refl(H:Hp):yk5 H H:=fun _ _ h=>h
theorem yk5.trans{H H1 H2:Hp}(a:yk5 H H1)(b:yk5 H1 H2):yk5 H H2:=fun c o h=>b c o (a c o h)
theorem yk5.free{H H':Hp}(e:yk5 H H'){l:Addr}(h:H' l=Option.none):H l=Option.none:=by
 cases q:H l with
 |none=>rfl
 |some o=>
  rw[e l o q]at h;cases h
theorem yk5.seq{K:PySem.W.Frag}{H H':Hp}{a:Addr}{xs:List V}(e:yk5 H H')(h:SqL K H a xs):SqL K H' a xs:=by
 rcases h with(h|⟨o,h⟩)|h
 ·exact .inl (.inl (e _ _ h))
 ·exact .inl (.inr ⟨o,e _ _ h⟩)
 ·exact .inr h
end L2
namespace L4
open PySem PySem.Spec PyProof.Rows L2
theorem zsq{α:Type}(a:α):∃ b,b=a:=⟨a,rfl⟩
noncomputable def hide{α:Type}(a:α):α:=Classical.choose (zsq a)
@[simp] theorem zsp{α:Type}(a:α):hide a=a:=Classical.choose_spec (zsq a)
inductive D where
 |non|bl (b:Bool)|int (i:Int)|str (x:Str)|tup (xs:List D)|scr (ns:List Int)|ref (n:Nat)
 |lst (xs:List D)|dic (ks:List Key) (xs:List D)|obj (c:Nat) (ns:List Str) (xs:List D)|exn (c:Nat)|gt (ss:List Str)
inductive Ob where
 |lst (xs:List D)
 |dic (kvs:List (Key × D))
 |ins (c:Nat) (fs:List (Str × D))
 |fdic (kvs:List (Key × D))
abbrev Sto:=List Ob
abbrev St:=L2.St
abbrev Ev:=List (Option D)
structure Xn where
 cls:Nat
inductive Out(α:Type) where
 |ok (a:α) (σ:Sto)
 |ex (x:Xn) (σ:Sto)
 |bad
abbrev M(α:Type):=Sto->Out α
def ret{α:Type}(a:α):M α:=fun σ=>.ok a σ
def bad{α:Type}:M α:=fun _=>.bad
def Out.bind{α β:Type}(o:Out α)(k:α->M β):Out β:=match o with
 | .ok a σ'=>k a σ'
 | .ex x σ'=>.ex x σ'
 | .bad=>.bad
def bnd{α β:Type}(m:M α)(k:α->M β):M β:=fun σ=>(m σ).bind k
inductive Fl where
 |nx (ρ:Ev)|rt (d:D)|bk (ρ:Ev)|ct (ρ:Ev)|xc (ρ:Ev) (x:Xn)
structure Tab where
 P:Addr
 line:Int
 col:Int
 qual:Str
structure Tx where
 tbs:List Tab
 bm:Addr
structure Tb where
 K:PySem.W.Frag
 ca:Nat->Addr
 tx:Tx
def zxq(q:Str)(c:Addr):Heap->Prop:=fun h=>∃ o vs t,h.get? c=some o/\o.data=.fields vs/\vs[1]?=some (.str q t)
def ykg(bm:Addr):Heap->Prop:=fun h=>∃ o,h.get? bm=some o/\o.cls=.type "module"/\o.dict=some builtinsNs/\o.data=.plain
def yk8(T:Tb)(μ:List Addr)(H:Hp):Prop:=∀ t∈T.tx.tbs,(T.tx.bm ∉ μ/\∃ ob,H T.tx.bm=some (.frz ob (.ext (ykg T.tx.bm))))/\t.P ∉ μ/\∃ ps,H t.P=some (.tbl ps)/\(ps=#[]\/∃ c,ps=#[rawInt t.line,rawInt t.col,.ref c]/\c ∉ μ/\H c=some (.ext (zxq t.qual c)))
theorem yk8.grow{T:Tb}{μ:List Addr}{H H':Hp}(h:yk8 T μ H)(k:∀ b u,H b=some u->H' b=some u):yk8 T μ H':=fun t ht=>by
 obtain⟨⟨a1,ob,a2⟩,a3,ps,a4,a5⟩:=h t ht;exact⟨⟨a1,ob,k _ _ a2⟩,a3,ps,k _ _ a4,a5.imp id fun⟨c,e,n,z⟩=>⟨c,e,n,k _ _ z⟩⟩
theorem yk8.sub{T:Tb}{μ μ':List Addr}{H:Hp}(h:yk8 T μ' H)(k:∀ b∈μ,b∈μ'):yk8 T μ H:=fun t ht=>by
 obtain⟨⟨a1,a2⟩,a3,ps,a4,a5⟩:=h t ht;exact⟨⟨fun z=>a1 (k _ z),a2⟩,fun z=>a3 (k _ z),ps,a4,a5.imp id fun⟨c,e,n,z⟩=>⟨c,e,fun y=>n (k _ y),z⟩⟩
theorem yk8.more{T:Tb}{μ:List Addr}{H:Hp}{p:Addr}(h:yk8 T μ H)(hp:H p=none):yk8 T (μ++[p]) H:=fun t ht=>by
 obtain⟨⟨a1,ob,a2⟩,a3,ps,a4,a5⟩:=h t ht;have ne:∀ {b:Addr} {u:HO},H b=some u->b ∉ μ->b ∉ μ++[p]:=fun {b u} e n z=>(List.mem_append.mp z).elim n fun y=>by
  have y':b=p:=by simpa using y
  subst y';rw[hp]at e;cases e
 exact⟨⟨ne a2 a1,ob,a2⟩,ne a4 a3,ps,a4,a5.imp id fun⟨c,e,n,z⟩=>⟨c,e,ne z n,z⟩⟩
theorem yk8.out{T:Tb}{μ:List Addr}{H H':Hp}{a:Addr}(h:yk8 T μ H)(hk:∀ b,b≠a->H' b=H b)(ha:a∈μ\/∃ kvs,H a=some (.dK kvs)):yk8 T μ H':=fun t ht=>by
 obtain⟨⟨a1,ob,a2⟩,a3,ps,a4,a5⟩:=h t ht;have ne:∀ {b:Addr} {u:HO},H b=some u->b ∉ μ->(∀ kvs,u≠.dK kvs)->H' b=some u:=fun {b u} e n d=>by
  rw[hk b (fun z=>by
   subst z;rcases ha with y|⟨kvs,y⟩
   ·exact n y
   ·rw[e]at y;cases y;exact d kvs rfl)]
  exact e
 exact⟨⟨a1,ob,ne a2 a1 (fun _ z=>by cases z)⟩,a3,ps,ne a4 a3 (fun _ z=>by cases z),a5.imp id fun⟨c,e,n,z⟩=>⟨c,e,n,ne z n (fun _ y=>by cases y)⟩⟩
def Tb.cv(T:Tb)(x:Xn):Value:=.ref (T.ca x.cls)
def fdN(c:Nat):Option Nat:=if c<100 then none else some (c / 100 - 1)
def yex(C a:Addr):Heap->Prop:=fun h=>∃ o,h.get? a=some o/\o.cls=.ref C
def zxr(C:Addr)(dd:Option Addr)(a:Addr):Heap->Prop:=fun h=>∃ o,h.get? a=some o/\o.cls=.ref C/\∀ dN,dd=some dN->o.dict=some dN/\∃ vs,o.data=.fields vs
def ye2(dN:Addr)(n:Nat):Heap->Prop:=fun h=>∃ o,h.get? dN=some o/\∃ es ep t,o.data=.dict es ep/\StrKeys es/\nsFind es "pot" = some (.int n t)
def Scr(K:PySem.W.Frag)(H:Hp)(a:Addr)(ns:List Int):Prop:=
 (∃ o,H a=some (.frz o (.lst (ns.map V.int))))\/
  ∃ (o:Obj) (its:Array Value) (n:Nat),K.lookup a=some o/\o.cls=.type "list"/\o.dict=none/\o.data=.seq its n/\its.size<=sizeLine/\yla (ns.map V.int) its.toList
theorem Scr.seq{K:PySem.W.Frag}{H:Hp}{a:Addr}{ns:List Int}(h:Scr K H a ns):SqL K H a (ns.map V.int):=by
 rcases h with⟨o,h⟩|h
 ·exact .inl (.inr ⟨o,h⟩)
 ·exact .inr h
def yk9(K:PySem.W.Frag)(a:Addr)(ss:List Str):Prop:=∃ (o:Obj) (its:Array Value) (n:Nat),K.lookup a=some o/\o.cls=.type "tuple"/\o.data=.seq its n/\its.size<=sizeLine/\yla (ss.map V.str) its.toList
mutual
def Rep(T:Tb)(μ:List Addr)(H:Hp):D->V->Prop
 | .non,v=>v=.non
 | .bl b,v=>v=.bl b
 | .int i,v=>v=.int i
 | .str x,v=>v=.str x
 | .tup ds,v=>∃ p vs,v=.ref p/\H p=some (.tup vs)/\yk4 T μ H ds vs
 | .scr ns,v=>∃ a,v=.ref a/\Scr T.K H a ns
 | .ref n,v=>∃ a,v=.ref a/\μ[n]?=some a
 | .lst ds,v=>∃ a vs,v=.ref a/\a ∉ μ/\H a=some (.lst vs)/\yk4 T μ H ds vs
 | .dic ks ds,v=>∃ a kvs,v=.ref a/\a ∉ μ/\Rd H a (.dK kvs)/\kvs.map (·.1)=ks/\yk4 T μ H ds (kvs.map (·.2))
 | .obj c ns ds,v=>∃ a dx fs,v=.ref a/\a ∉ μ/\H a=some (.ins (T.ca c) dx fs)/\fs.map (·.1)=ns/\yk4 T μ H ds (fs.map (·.2))
 | .exn c,v=>∃ a dd,v=.ref a/\a ∉ μ/\H a=some (.ext (zxr (T.ca c) dd a))/\∀ n,fdN c=some n->∃ dN,dd=some dN/\dN ∉ μ/\H dN=some (.ext (ye2 dN n))
 | .gt ss,v=>∃ a,v=.ref a/\yk9 T.K a ss
def yk4(T:Tb)(μ:List Addr)(H:Hp):List D->List V->Prop
 |[],vs=>vs=[]
 |d::ds,vs=>∃ v r,vs=v::r/\Rep T μ H d v/\yk4 T μ H ds r
end
def Kp(o o':HO):Prop:=o'=o\/(∃ ob kvs,o=.dK kvs/\o'=.frz ob (.dK kvs))\/∃ ps ps',o=.tbl ps/\o'=.tbl ps'
theorem Kp.trans{a b c:HO}(x:Kp a b)(y:Kp b c):Kp a c:=by
 rcases x with rfl|⟨ob,kvs,rfl,rfl⟩|⟨ps,ps',rfl,rfl⟩
 ·exact y
 ·rcases y with rfl|⟨_,_,z,_⟩|⟨_,_,z,_⟩
  ·exact .inr (.inl ⟨ob,kvs,rfl,rfl⟩)
  ·cases z
  ·cases z
 ·rcases y with rfl|⟨_,_,z,_⟩|⟨_,ps2,_,rfl⟩
  ·exact .inr (.inr ⟨ps,ps',rfl,rfl⟩)
  ·cases z
  ·exact .inr (.inr ⟨ps,ps2,rfl,rfl⟩)
structure Ext(μ:List Addr)(H:Hp)(μ':List Addr)(H':Hp):Prop where
 pre:∃ r,μ'=μ++r
 tup:∀ p xs,H p=some (.tup xs)->H' p=some (.tup xs)
 frz:∀ p o u,H p=some (.frz o u)->H' p=some (.frz o u)
 keep:∀ p o,H p=some o->p ∉ μ->(∃ o',H' p=some o'/\Kp o o')/\p ∉ μ'
theorem Ext.refl(μ:List Addr)(H:Hp):Ext μ H μ H:=⟨⟨[],by simp⟩,fun _ _ h=>h,fun _ _ _ h=>h,fun _ _ h n=>⟨⟨_,h,.inl rfl⟩,n⟩⟩
theorem Ext.trans{μ μ1 μ2:List Addr}{H H1 H2:Hp}(a:Ext μ H μ1 H1)(b:Ext μ1 H1 μ2 H2):Ext μ H μ2 H2:=by
 obtain⟨⟨r,rfl⟩,t1,f1,k1⟩:=a;obtain⟨⟨r',rfl⟩,t2,f2,k2⟩:=b;exact⟨⟨r++r',by simp⟩,fun p xs h=>t2 p xs (t1 p xs h),fun p o u h=>f2 p o u (f1 p o u h),fun p o h n=>let ⟨⟨o1,h1,c1⟩,n1⟩:=k1 p o h n;let ⟨⟨o2,h2,c2⟩,n2⟩:=k2 p o1 h1 n1;⟨⟨o2,h2,c1.trans c2⟩,n2⟩⟩
theorem Ext.keepN{μ μ':List Addr}{H H':Hp}(e:Ext μ H μ' H')(p:Addr)(o:HO)(h:H p=some o)(n:p ∉ μ)(hd:(∀ kvs,o≠.dK kvs)/\∀ ps,o≠.tbl ps:=by exact⟨(fun _ z=>by cases z),(fun _ z=>by cases z)⟩):H' p=some o/\p ∉ μ':=by
 obtain⟨⟨o',h1,c⟩,n'⟩:=e.keep p o h n;rcases c with rfl|⟨_,kvs,z,_⟩|⟨ps,_,z,_⟩
 ·exact⟨h1,n'⟩
 ·exact absurd z (hd.1 kvs)
 ·exact absurd z (hd.2 ps)
theorem Ext.rd{μ μ':List Addr}{H H':Hp}(e:Ext μ H μ' H')(p:Addr)(kvs:List (Key × V))(h:Rd H p (.dK kvs))(n:p ∉ μ):Rd H' p (.dK kvs)/\p ∉ μ':=by
 rcases h with h|⟨ob,h⟩
 ·obtain⟨⟨o',h1,c⟩,n'⟩:=e.keep p _ h n;rcases c with rfl|⟨ob,kvs',z,rfl⟩|⟨_,_,z,_⟩
  ·exact⟨.inl h1,n'⟩
  ·cases z;exact⟨.inr ⟨ob,h1⟩,n'⟩
  ·cases z
 ·exact⟨.inr ⟨ob,e.frz _ _ _ h⟩,(e.keep p _ h n).2⟩
theorem Ext.get{μ μ':List Addr}{H H':Hp}(e:Ext μ H μ' H'){n:Nat}{a:Addr}(h:μ[n]?=some a):μ'[n]?=some a:=by
 obtain⟨⟨r,rfl⟩,_,_⟩:=e;rw[List.getElem?_append_left (List.getElem?_eq_some_iff.mp h).1];exact h
mutual
theorem Rep.mono{T:Tb}{μ μ':List Addr}{H H':Hp}(e:Ext μ H μ' H'):∀ (d:D) (v:V),Rep T μ H d v->Rep T μ' H' d v
 | .non,v,h=>by simpa [Rep]using h
 | .bl b,v,h=>by simpa [Rep]using h
 | .int i,v,h=>by simpa [Rep]using h
 | .str x,v,h=>by simpa [Rep]using h
 | .tup ds,v,h=>by
  rw[Rep]at h ⊢;obtain⟨p,vs,h1,h2,h3⟩:=h;exact⟨p,vs,h1,e.tup _ _ h2,yk4.mono e ds vs h3⟩
 | .scr ns,v,h=>by
  rw[Rep]at h ⊢;obtain⟨a,h1,h2⟩:=h;refine⟨a,h1,?_⟩;rcases h2 with⟨o,h2⟩|h2
  ·exact .inl ⟨o,e.frz _ _ _ h2⟩
  ·exact .inr h2
 | .ref n,v,h=>by
  rw[Rep]at h ⊢;obtain⟨a,h1,h2⟩:=h;exact⟨a,h1,e.get h2⟩
 | .lst ds,v,h=>by
  rw[Rep]at h ⊢;obtain⟨a,vs,h1,h2,h3,h4⟩:=h;exact⟨a,vs,h1,(e.keepN _ _ h3 h2).2,(e.keepN _ _ h3 h2).1,yk4.mono e ds vs h4⟩
 | .dic ks ds,v,h=>by
  rw[Rep]at h ⊢;obtain⟨a,vs,h1,h2,h3,h5,h4⟩:=h;exact⟨a,vs,h1,(e.rd _ _ h3 h2).2,(e.rd _ _ h3 h2).1,h5,yk4.mono e ds _ h4⟩
 | .obj c ns ds,v,h=>by
  rw[Rep]at h ⊢;obtain⟨a,dx,vs,h1,h2,h3,h5,h4⟩:=h;exact⟨a,dx,vs,h1,(e.keepN _ _ h3 h2).2,(e.keepN _ _ h3 h2).1,h5,yk4.mono e ds _ h4⟩
 | .exn c,v,h=>by
  rw[Rep]at h ⊢;obtain⟨a,dd,h1,h2,h3,h4⟩:=h;exact⟨a,dd,h1,(e.keepN _ _ h3 h2).2,(e.keepN _ _ h3 h2).1,fun n q=>let ⟨dN,q1,q2,q3⟩:=h4 n q;⟨dN,q1,(e.keepN _ _ q3 q2).2,(e.keepN _ _ q3 q2).1⟩⟩
 | .gt ss,v,h=>by rw[Rep]at h ⊢;exact h
theorem yk4.mono{T:Tb}{μ μ':List Addr}{H H':Hp}(e:Ext μ H μ' H'):∀ (ds:List D) (vs:List V),yk4 T μ H ds vs->yk4 T μ' H' ds vs
 |[],vs,h=>by simpa [yk4]using h
 |d::ds,vs,h=>by
  rw[yk4]at h ⊢;obtain⟨v,r,h1,h2,h3⟩:=h;exact⟨v,r,h1,Rep.mono e d v h2,yk4.mono e ds r h3⟩
end
theorem yk4.nil{T:Tb}{μ:List Addr}{H:Hp}:yk4 T μ H [] []:=by rw[yk4]
theorem yk4.cons{T:Tb}{μ:List Addr}{H:Hp}{d:D}{v:V}{ds:List D}{vs:List V}(h1:Rep T μ H d v)(h2:yk4 T μ H ds vs):yk4 T μ H (d::ds) (v::vs):=by
 rw[yk4];exact⟨v,vs,rfl,h1,h2⟩
theorem yk4.length{T:Tb}{μ:List Addr}{H:Hp}:∀ {ds:List D} {vs:List V},yk4 T μ H ds vs->ds.length=vs.length
 |[],vs,h=>by rw[yk4]at h;subst h;rfl
 |d::ds,vs,h=>by
  rw[yk4]at h;obtain⟨v,r,rfl,_,h3⟩:=h;simp[yk4.length h3]
theorem yk4.get{T:Tb}{μ:List Addr}{H:Hp}:∀ {ds:List D} {vs:List V} {i:Nat} {d:D},yk4 T μ H ds vs->ds[i]?=some d->∃ v,vs[i]?=some v/\Rep T μ H d v
 |[],vs,i,d,h,e=>by simp at e
 |d::ds,vs,0,x,h,e=>by
  rw[yk4]at h;obtain⟨v,r,rfl,h2,h3⟩:=h;simp at e;subst e;exact⟨v,rfl,h2⟩
 |d::ds,vs,i+1,x,h,e=>by
  rw[yk4]at h;obtain⟨v,r,rfl,h2,h3⟩:=h;simpa using yk4.get (i:=i) h3 (by simpa using e)
theorem yk4.append{T:Tb}{μ:List Addr}{H:Hp}:∀ {ds es:List D} {vs us:List V},yk4 T μ H ds vs->yk4 T μ H es us->yk4 T μ H (ds++es) (vs++us)
 |[],es,vs,us,h,h'=>by rw[yk4]at h;subst h;simpa using h'
 |d::ds,es,vs,us,h,h'=>by
  rw[yk4]at h;obtain⟨v,r,rfl,h2,h3⟩:=h;exact yk4.cons h2 (yk4.append h3 h')
theorem yk4.set{T:Tb}{μ:List Addr}{H:Hp}{d:D}{v:V}(hd:Rep T μ H d v):∀ {ds:List D} {vs:List V} (i:Nat),yk4 T μ H ds vs->yk4 T μ H (ds.set i d) (vs.set i v)
 |[],vs,i,h=>by rw[yk4]at h;subst h;simpa using yk4.nil
 |x::ds,vs,0,h=>by
  rw[yk4]at h;obtain⟨w,r,rfl,h2,h3⟩:=h;exact yk4.cons hd h3
 |x::ds,vs,i+1,h=>by
  rw[yk4]at h;obtain⟨w,r,rfl,h2,h3⟩:=h;exact yk4.cons h2 (yk4.set hd i h3)
theorem yk4.drop{T:Tb}{μ:List Addr}{H:Hp}:∀ {ds:List D} {vs:List V} (n:Nat),yk4 T μ H ds vs->yk4 T μ H (ds.drop n) (vs.drop n)
 |ds,vs,0,h=>by simpa using h
 |[],vs,n+1,h=>by rw[yk4]at h;subst h;simpa using yk4.nil
 |x::ds,vs,n+1,h=>by
  rw[yk4]at h;obtain⟨w,r,rfl,h2,h3⟩:=h;simpa using yk4.drop n h3
theorem yk4.take{T:Tb}{μ:List Addr}{H:Hp}:∀ {ds:List D} {vs:List V} (n:Nat),yk4 T μ H ds vs->yk4 T μ H (ds.take n) (vs.take n)
 |ds,vs,0,h=>by simpa using yk4.nil
 |[],vs,n+1,h=>by rw[yk4]at h;subst h;simpa using yk4.nil
 |x::ds,vs,n+1,h=>by
  rw[yk4]at h;obtain⟨w,r,rfl,h2,h3⟩:=h;exact yk4.cons h2 (yk4.take n h3)
def yk2(T:Tb)(μ:List Addr)(H:Hp):List (Str × D)->List (Str × V)->Prop:=Paired fun p q=>p.1=q.1/\Rep T μ H p.2 q.2
def yk3(T:Tb)(μ:List Addr)(H:Hp):List (Key × D)->List (Key × V)->Prop:=Paired fun p q=>p.1=q.1/\Rep T μ H p.2 q.2
def ObR(T:Tb)(μ:List Addr)(H:Hp)(a:Addr):Ob->Prop
 | .lst ds=>∃ vs,H a=some (.lst vs)/\yk4 T μ H ds vs
 | .dic kvs=>∃ vs,H a=some (.dK vs)/\yk3 T μ H kvs vs
 | .ins c fs=>∃ dx vs,H a=some (.ins (T.ca c) dx vs)/\yk2 T μ H fs vs
 | .fdic kvs=>∃ ob vs,H a=some (.frz ob (.dK vs))/\yk3 T μ H kvs vs
structure Rel(T:Tb)(μ:List Addr)(H:Hp)(σ:Sto):Prop where
 len:μ.length=σ.length
 nd:μ.Nodup
 obs:∀ (n:Nat) (o:Ob),σ[n]?=some o->∃ a,μ[n]?=some a/\ObR T μ H a o
 tb:yk8 T μ H
def ykl(T:Tb)(μ:List Addr)(H:Hp)(ρ:Ev)(st:St):Prop:=ρ.length=st.length/\∀ (i:Nat) (d:D),ρ[i]?=some (some d)->∃ v,st[i]?=some (some v)/\Rep T μ H d v
theorem ykl.mono{T:Tb}{μ μ':List Addr}{H H':Hp}{ρ:Ev}{st:St}(e:Ext μ H μ' H')(h:ykl T μ H ρ st):ykl T μ' H' ρ st:=
 ⟨h.1,fun i d q=>let ⟨v,h1,h2⟩:=h.2 i d q;⟨v,h1,Rep.mono e d v h2⟩⟩
theorem ykl.set{T:Tb}{μ:List Addr}{H:Hp}{ρ:Ev}{st:St}{d:D}{v:V}(h:ykl T μ H ρ st)(i:Nat)(r:Rep T μ H d v):ykl T μ H (ρ.set i (some d)) (st.set i (some v)):=by
 refine⟨by simpa using h.1,fun j x q=>?_⟩;rw[List.getElem?_set]at q;by_cases hj:i=j
 ·subst hj;rw[if_pos rfl]at q;split at q
  ·rename_i hl
   cases q;exact⟨v,by rw[List.getElem?_set,if_pos rfl,if_pos (by rw[<-h.1];exact hl)],r⟩
  ·cases q
 ·rw[if_neg hj]at q;obtain⟨w,h1,h2⟩:=h.2 j x q;exact⟨w,by rw[List.getElem?_set,if_neg hj];exact h1,h2⟩
def Unt(e:Addr)(cls a0:Value)(h:Heap):Prop:=∃ oe vs,h.get? e=some oe/\oe.cls=cls/\oe.data=.fields vs/\1<vs.size/\vs[0]?=some a0/\vs[1]?=some .none
def yko(B:Heap)(l:List Env)(e:Addr)(cls a0:Value)(h:Heap):Prop:=B.StaysIn h/\B.get? e=none/\h.FunFrames B l/\((∃ fl,h.TracedAtW B e cls a0 fl)\/Unt e cls a0 h)
def ykz(o:Obj)(n:Nat):Prop:=∃ es ep t,o.data=.dict es ep/\StrKeys es/\nsFind es "pot" = some (.int n t)
def FdH(fd:Option Nat)(e:Addr)(B h h0:Heap)(H':Hp):Prop:=∀ n,fd=some n->∃ dN oD oe,h.get? e=some oe/\oe.dict=some dN/\B.get? dN=some oD/\ykz oD n/\H' dN=none/\h0.get? dN=none
structure Fly(P:Program)(w:World)(outer:List Env)(H:Hp)(s:Shared)(cls:Value)(fd:Option Nat)(H':Hp)(e:Value)(s':Shared):Prop where
 ex:∃ (ea:Addr) (a0:Value) (B:Heap),e=.ref ea/\yko B outer ea cls a0 s'.heap/\H' ea=none/\s.heap.get? ea=none/\
  (∀ b o,H' b=some o->∃ ob,B.get? b=some ob)/\(∀ b o,s.heap.get? b=some o->H b=none->b ∉ frs outer->B.get? b=some o)/\(∀ b o,s.heap.get? b=some o->b ∉ frs outer->∃ o',B.get? b=some o')/\FdH fd ea B s'.heap s.heap H'
 os:s'.os=s.os
 bare:AllBare s'.gens
 un:Un (frs outer) [] H H' s.heap s'.heap
 hok:HOk P w H' s'.heap
def CXE(P:Program)(w:World):CXT:=fun outer H s E e s'=>∃ cls fd H',Fly P w outer H s cls fd H' e s'/\E cls fd H'
structure Thr(X:Cx)(st:St)(cls:Value)(fd:Option Nat)(H':Hp):Prop where
 fly:∀ (pins:List (Addr × Obj)) (H:Hp) (s:Shared) (e:Value) (s':Shared),Inv X pins st H s->Fly X.prog X.w X.stack H s cls fd H' e s'->X.xe e s'
abbrev XE(X:Cx)(st:St):XK:=fun cls fd H'=>Thr X st cls fd H'
def yky{α γ:Type}(T:Tb)(E:XK)(R:List Addr->Hp->α->γ->Prop)(μ:List Addr)(H:Hp)(o:Out α)(Q:γ->Hp->Prop):Prop:=match o with
 | .ok a σ=>∀ μ' g H',Ext μ H μ' H'->Rel T μ' H' σ->R μ' H' a g->Q g H'
 | .ex x σ=>∀ μ' H',Ext μ H μ' H'->Rel T μ' H' σ->E (T.cv x) (fdN x.cls) H'
 | .bad=>False
theorem yky.mono{α γ:Type}{T:Tb}{E:XK}{R:List Addr->Hp->α->γ->Prop}{μ μ1:List Addr}{H H1:Hp}{o:Out α}{Q:γ->Hp->Prop}(e:Ext μ H μ1 H1)(h:yky T E R μ H o Q):yky T E R μ1 H1 o Q:=by
 cases o with
 |ok a σ=>exact fun μ' g H' e' r q=>h μ' g H' (e.trans e') r q
 |ex x σ=>exact fun μ' H' e' r=>h μ' H' (e.trans e') r
 |bad=>exact h
theorem yky.imp{α γ:Type}{T:Tb}{E:XK}{R:List Addr->Hp->α->γ->Prop}{μ:List Addr}{H:Hp}{o:Out α}{Q Q':γ->Hp->Prop}(h:yky T E R μ H o Q)(k:∀ g H',Q g H'->Q' g H'):yky T E R μ H o Q':=by
 cases o with
 |ok a σ=>exact fun μ' g H' e' r q=>k _ _ (h μ' g H' e' r q)
 |ex x σ=>exact h
 |bad=>exact h
theorem yky.bind{α β γ δ:Type}{T:Tb}{E:XK}{R:List Addr->Hp->α->γ->Prop}{R':List Addr->Hp->β->δ->Prop}{μ:List Addr}{H:Hp}{m:M α}{k:α->M β}{σ:Sto}{Q:δ->Hp->Prop}{Q1:γ->Hp->Prop}
  (h:yky T E R' μ H (bnd m k σ) Q) (f:∀ a σ1 μ1 g H1,m σ=.ok a σ1->Ext μ H μ1 H1->Rel T μ1 H1 σ1->R μ1 H1 a g->yky T E R' μ1 H1 (k a σ1) Q->Q1 g H1):yky T E R μ H (m σ) Q1:=by
 unfold bnd at h;cases e:m σ with
 |ok a σ1=>
  rw[e]at h;exact fun μ' g H' e' r q=>f a σ1 μ' g H' e e' r q (h.mono e')
 |ex x σ1=>rw[e]at h;exact h
 |bad=>rw[e]at h;exact h
theorem yky.here{T:Tb}{E:XK}{α γ:Type}{R:List Addr->Hp->α->γ->Prop}{μ:List Addr}{H:Hp}{d:α}{σ:Sto}{g:γ}{Q:γ->Hp->Prop}(h:yky T E R μ H (.ok d σ) Q)(r:Rel T μ H σ)(p:R μ H d g):Q g H:=h μ g H (Ext.refl _ _) r p
section
variable(T:Tb)(X:Cx)
def tF(f:Ev->M D):TE:=fun st H Q=>∃ μ ρ σ,ykl T μ H ρ st/\Rel T μ H σ/\yky T (XE X st) (Rep T) μ H (f ρ σ) Q
def ye3:List Addr->Hp->Bool->Bool->Prop:=fun _ _ a b=>b=a
def tT(f:Ev->M Bool):TT:=fun st H Q=>∃ μ ρ σ,ykl T μ H ρ st/\Rel T μ H σ/\yky T (XE X st) ye3 μ H (f ρ σ) Q
def tL(f:Ev->M (List D)):TA:=fun st H Q=>∃ μ ρ σ,ykl T μ H ρ st/\Rel T μ H σ/\yky T (XE X st) (yk4 T) μ H (f ρ σ) Q
inductive Gl2 where
 |nx (st:St)|rt (v:V)|bk (st:St)|ct (st:St)|xc (st:St) (cls:Value) (fd:Option Nat)
def RFl(T:Tb)(μ:List Addr)(H:Hp):Fl->Gl2->Prop
 | .nx ρ,.nx st=>ykl T μ H ρ st
 | .rt d,.rt v=>Rep T μ H d v
 | .bk ρ,.bk st=>ykl T μ H ρ st
 | .ct ρ,.ct st=>ykl T μ H ρ st
 | .xc ρ x,.xc st cls fd=>ykl T μ H ρ st/\cls=T.cv x/\fd=fdN x.cls
 |_,_=>False
def ykm(X:Cx)(D:Ends):Gl2->Hp->Prop
 | .nx st,H=>D.nx st H
 | .rt v,H=>D.rt v H
 | .bk st,H=>D.bk st H
 | .ct st,H=>D.ct st H
 | .xc st cls fd,H=>Thr X st cls fd H
abbrev EN:XK:=fun _ _ _=>False
def tS(g:Ev->M Fl):TS:=fun D st H=>∃ μ ρ σ,ykl T μ H ρ st/\Rel T μ H σ/\yky T EN (RFl T) μ H (g ρ σ) (ykm X D)
end
def xs{α:Type}(ρ:Ev)(m:M α)(k:α->M Fl):M Fl:=fun σ=>match m σ with
 | .ok a σ'=>k a σ'
 | .ex x σ'=>.ok (.xc ρ x) σ'
 | .bad=>.bad
theorem yky.xs{α γ:Type}{T:Tb}{X:Cx}{D:Ends}{R:List Addr->Hp->α->γ->Prop}{μ:List Addr}{H:Hp}{ρ:Ev}{st:St}{m:M α}{k:α->M Fl}{σ:Sto}{Q1:γ->Hp->Prop}(hE:ykl T μ H ρ st)
  (h:yky T EN (RFl T) μ H (L4.xs ρ m k σ) (ykm X D)) (f:∀ a σ1 μ1 g H1,m σ=.ok a σ1->Ext μ H μ1 H1->Rel T μ1 H1 σ1->R μ1 H1 a g->yky T EN (RFl T) μ1 H1 (k a σ1) (ykm X D)->Q1 g H1):yky T (XE X st) R μ H (m σ) Q1:=by
 unfold L4.xs at h;cases e:m σ with
 |ok a σ1=>
  rw[e]at h;exact fun μ' g H' e' r q=>f a σ1 μ' g H' e e' r q (h.mono e')
 |ex x σ1=>
  rw[e]at h;intro μ' H' e' r;exact h μ' (.xc st (T.cv x) (fdN x.cls)) H' e' r ⟨hE.mono e',rfl,rfl⟩
 |bad=>rw[e]at h;exact h
abbrev FE(T:Tb)(X:Cx)(e:Expr)(f:Ev->M D):Prop:=PE X e (tF T X f)
abbrev FT(T:Tb)(X:Cx)(e:Expr)(f:Ev->M Bool):Prop:=PT X e (tT T X f)
abbrev FW(T:Tb)(X:Cx)(e:Expr)(f:Ev->M Bool):Prop:=PW X e (tT T X f)
abbrev FA(T:Tb)(X:Cx)(es:List Expr)(f:Ev->M (List D)):Prop:=PA X es (tL T X f)
abbrev FS(T:Tb)(X:Cx)(st:Stmt)(g:Ev->M Fl):Prop:=PS X st (tS T X g)
abbrev FSs(T:Tb)(X:Cx)(st:List Stmt)(g:Ev->M Fl):Prop:=PSs X st (tS T X g)
end L4
namespace L4
open PySem PySem.Spec PyProof.Rows L2
def cap:Nat:=1000
theorem zx8{n:Nat}(h:n<=cap):n<=sizeLine:=Nat.le_of_lt (ziz h)
theorem zx9{n:Nat}(h:n<cap):n<sizeLine:=ziz (Nat.le_of_lt h)
theorem zmy{α:Type}{l:List α}(h:l.Nodup){i j:Nat}{a:α}(hi:l[i]?=some a)(hj:l[j]?=some a):i=j:=by
 obtain⟨q1,q2⟩:=List.getElem?_eq_some_iff.mp hi;obtain⟨q3,q4⟩:=List.getElem?_eq_some_iff.mp hj;have hp:=List.pairwise_iff_getElem.mp h;rcases Nat.lt_trichotomy i j with z|z|z
 ·exact absurd (q2.trans q4.symm) (hp i j q1 q3 z)
 ·exact z
 ·exact absurd (q4.trans q2.symm) (hp j i q3 q1 z)
section
variable{T:Tb}{μ μ':List Addr}{H H':Hp}{σ:Sto}
theorem zei{α:Type}(e:Ext μ H μ' H'){xs:List (α × D)}{ys:List (α × V)}(h:Paired (fun(p:α × D) (q:α × V)=>p.1=q.1/\Rep T μ H p.2 q.2) xs ys) :
  Paired (fun(p:α × D) (q:α × V)=>p.1=q.1/\Rep T μ' H' p.2 q.2) xs ys:=L2.Paired.mapP h fun p q z=>⟨z.1,Rep.mono e _ _ z.2⟩
theorem ObR.mono(e:Ext μ H μ' H'){a:Addr}(ha:H' a=H a):∀ {o:Ob},ObR T μ H a o->ObR T μ' H' a o
 | .lst ds,⟨vs,h,r⟩=>⟨vs,ha.trans h,yk4.mono e _ _ r⟩
 | .dic kvs,⟨vs,h,r⟩=>⟨vs,ha.trans h,zei e r⟩
 | .ins c fs,⟨dx,vs,h,r⟩=>⟨dx,vs,ha.trans h,zei e r⟩
 | .fdic kvs,⟨ob,vs,h,r⟩=>⟨ob,vs,ha.trans h,zei e r⟩
theorem ObR.some{a:Addr}:∀ {o:Ob},ObR T μ H a o->∃ u,H a=Option.some u/\(∀ xs,u≠.tup xs)
 | .lst ds,⟨vs,h,r⟩=>⟨_,h,(fun _ z=>by cases z)⟩
 | .dic kvs,⟨vs,h,r⟩=>⟨_,h,(fun _ z=>by cases z)⟩
 | .ins c fs,⟨dx,vs,h,r⟩=>⟨_,h,(fun _ z=>by cases z)⟩
 | .fdic kvs,⟨ob,vs,h,r⟩=>⟨_,h,(fun _ z=>by cases z)⟩
theorem ObR.somew{a:Addr}:∀ {o:Ob},(∀ kvs,o≠.fdic kvs)->ObR T μ H a o->∃ u,H a=Option.some u/\(∀ xs,u≠.tup xs)/\(∀ ob w,u≠.frz ob w)
 | .lst ds,_,⟨vs,h,r⟩=>⟨_,h,(fun _ z=>by cases z),(fun _ _ z=>by cases z)⟩
 | .dic kvs,_,⟨vs,h,r⟩=>⟨_,h,(fun _ z=>by cases z),(fun _ _ z=>by cases z)⟩
 | .ins c fs,_,⟨dx,vs,h,r⟩=>⟨_,h,(fun _ z=>by cases z),(fun _ _ z=>by cases z)⟩
 | .fdic kvs,n,_=>absurd rfl (n kvs)
theorem Rel.keep(r:Rel T μ H σ)(e:Ext μ H μ H')(k:∀ a∈μ,H' a=H a)(t:yk8 T μ H'):Rel T μ H' σ:=
 ⟨r.len,r.nd,fun n o h=>let ⟨a,h1,h2⟩:=r.obs n o h;⟨a,h1,h2.mono e (k a (List.mem_of_getElem? h1))⟩,t⟩
theorem Rel.mem(r:Rel T μ H σ){a:Addr}(h:a∈μ):∃ u,H a=some u/\(∀ xs,u≠.tup xs):=by
 obtain⟨n,hn⟩:=List.getElem?_of_mem h;have hl:n<σ.length:=by rw[<-r.len];exact(List.getElem?_eq_some_iff.mp hn).1
 obtain⟨a',h1,h2⟩:=r.obs n σ[n] (by simp[hl]);rw[hn]at h1;cases h1;exact h2.some
theorem zq6{p:Addr}{o:HO}(hp:H p=none):Ext μ H μ (upd H p o):=
 ⟨⟨[],by simp⟩,fun q xs h=>by rw[yep (zfo h hp)];exact h,fun q ob u h=>by rw[yep (zfo h hp)];exact h,fun q ob h n=>⟨⟨ob,by rw[yep (zfo h hp)];exact h,.inl rfl⟩,n⟩⟩
theorem Rel.fresh(r:Rel T μ H σ){p:Addr}{o:HO}(hp:H p=none):Rel T μ (upd H p o) σ:=
 r.keep (zq6 hp) (fun a ha=>by obtain⟨u,h,_⟩:=r.mem ha;rw[yep (zfo h hp)]) (r.tb.grow fun b u h=>by rw[yep (zfo h hp)];exact h)
theorem zkw{p:Addr}{o:HO}(hp:H p=none):Ext μ H (μ++[p]) (upd H p o):=
 ⟨⟨[p],rfl⟩,(zq6 (μ:=μ) hp).tup,(zq6 (μ:=μ) hp).frz,fun q ob h n=>⟨((zq6 (μ:=μ) hp).keep q ob h n).1,fun z=>(List.mem_append.mp z).elim n fun z=>zfo h hp (by simpa using z)⟩⟩
theorem Rel.push(r:Rel T μ H σ){p:Addr}{o:HO}{ob:Ob}(hp:H p=none)(ho:ObR T (μ++[p]) (upd H p o) p ob):Rel T (μ++[p]) (upd H p o) (σ++[ob]):=by
 refine⟨by simp[r.len],?_,fun n x h=>?_,(r.tb.more hp).grow fun b u h=>by rw[yep (zfo h hp)];exact h⟩
 ·rw[List.nodup_append];refine⟨r.nd,by simp,fun a ha b hb e=>?_⟩;have eb:b=p:=by simpa using hb
  subst eb;subst e;obtain⟨u,h,_⟩:=r.mem ha;rw[hp]at h;cases h
 ·by_cases hn:n<σ.length
  ·rw[List.getElem?_append_left hn]at h;obtain⟨a,h1,h2⟩:=r.obs n x h;obtain⟨u,hu,_⟩:=h2.some;exact⟨a,by rw[List.getElem?_append_left (by rw[r.len];exact hn)];exact h1,h2.mono (zkw hp) (yep (zfo hu hp))⟩
  ·rw[List.getElem?_append_right (by omega)]at h;have e0:n - σ.length=0:=by
    have:=(List.getElem?_eq_some_iff.mp h).1;simp at this;omega
   rw[e0]at h;simp at h;subst h;have en:n=μ.length:=by rw[r.len];omega
   subst en;exact⟨p,by simp,ho⟩
theorem znz{p:Addr}{o:HO}(r:Rel T μ H σ):Rep T (μ++[p]) (upd H p o) (.ref σ.length) (.ref p):=by
 rw[Rep];exact⟨p,rfl,by rw[<-r.len];simp⟩
theorem zg7{a:Addr}{u o:HO}(hm:a∈μ)(ha:H a=some u)(h1:∀ xs,u≠.tup xs)(h2:∀ ob w,u≠.frz ob w):Ext μ H μ (upd H a o):=
 ⟨⟨[],by simp⟩,fun q xs h=>by rw[yep (yhr h ha (fun z=>h1 xs z.symm))];exact h,fun q ob w h=>by rw[yep (yhr h ha (fun z=>h2 ob w z.symm))];exact h,fun q ob h n=>⟨⟨ob,by rw[yep (fun z=>n (by rw[z];exact hm))];exact h,.inl rfl⟩,n⟩⟩
theorem Rel.write(r:Rel T μ H σ){n:Nat}{a:Addr}{o:HO}{ob:Ob}(hn:μ[n]?=some a)(ho:ObR T μ (upd H a o) a ob)(hw:∀ kvs,σ[n]?≠some (.fdic kvs):=by intro kvs z;simp_all [yhf]):Ext μ H μ (upd H a o)/\Rel T μ (upd H a o) (σ.set n ob):=by
 obtain⟨u,hu,h1,h2⟩:∃ u,H a=some u/\(∀ xs,u≠.tup xs)/\(∀ ob w,u≠.frz ob w):=by
  have hl:n<σ.length:=by rw[<-r.len];exact(List.getElem?_eq_some_iff.mp hn).1
  obtain⟨a',h1,h2⟩:=r.obs n σ[n] (by simp[hl]);rw[hn]at h1;cases h1;exact h2.somew fun kvs z=>hw kvs (by rw[List.getElem?_eq_getElem hl,z])
 have e:Ext μ H μ (upd H a o):=zg7 (List.mem_of_getElem? hn) hu h1 h2;refine⟨e,by simp[r.len],r.nd,fun m x h=>?_,r.tb.out (fun b hb=>yep hb) (.inl (List.mem_of_getElem? hn))⟩;rw[List.getElem?_set]at h;by_cases hm:n=m
 ·subst hm;rw[if_pos rfl]at h;split at h
  ·cases h;exact⟨a,hn,ho⟩
  ·cases h
 ·rw[if_neg hm]at h;obtain⟨b,h3,h4⟩:=r.obs m x h;refine⟨b,h3,h4.mono e (yep fun z=>hm ?_)⟩;subst z;exact zmy r.nd hn h3
theorem Rel.at(r:Rel T μ H σ){n:Nat}{v:V}{o:Ob}(h:Rep T μ H (.ref n) v)(e:σ[n]?=some o):∃ a,v=.ref a/\μ[n]?=some a/\ObR T μ H a o:=by
 rw[Rep]at h;obtain⟨a,rfl,ha⟩:=h;obtain⟨a',h1,h2⟩:=r.obs n o e;rw[ha]at h1;cases h1;exact⟨a,rfl,ha,h2⟩
end
def yl9(i:Nat):Ev->M D:=fun ρ σ=>match ρ[i]? with
 |some (some d)=>.ok d σ
 |_=>.bad
def eC(d:D):Ev->M D:=fun _=>ret d
def yln(o:D->D->M D)(m:M D)(x:D):M D:=bnd m (o x)
def yl2(o:D->D->M D)(a b:Ev->M D):Ev->M D:=fun ρ=>bnd (a ρ) (yln o (b ρ))
def eUn(o:D->M D)(a:Ev->M D):Ev->M D:=fun ρ=>bnd (a ρ) o
def tst(d:D):M Bool:=match d with
 | .bl b=>ret b
 |_=>bad
def ifK{α:Type}(p q:M α)(c:Bool):M α:=if c=true then p else q
def ym9(c:Bool):M Bool:=ret (!c)
def yj1{α:Type}(k:Bool->M α)(d:D):M α:=bnd (tst d) k
def eT(f:Ev->M D):Ev->M Bool:=fun ρ=>bnd (f ρ) tst
def yll(a b:Ev->M Bool):Ev->M Bool:=fun ρ=>bnd (a ρ) (ifK (b ρ) (ret false))
def bOr(a b:Ev->M Bool):Ev->M Bool:=fun ρ=>bnd (a ρ) (ifK (ret true) (b ρ))
def ylm(a:Ev->M Bool):Ev->M Bool:=fun ρ=>bnd (a ρ) ym9
def yl1(a b:Ev->M D):Ev->M D:=fun ρ=>bnd (a ρ) (yj1 (ifK (b ρ) (ret (.bl false))))
def eOr(a b:Ev->M D):Ev->M D:=fun ρ=>bnd (a ρ) (yj1 (ifK (ret (.bl true)) (b ρ)))
def yhq(c:Bool):M D:=ret (.bl (!c))
def yl7(a:Ev->M D):Ev->M D:=fun ρ=>bnd (a ρ) (yj1 yhq)
def yle:Ev->M (List D):=fun _=>ret []
def yfn(x:D)(xs:List D):M (List D):=ret (x::xs)
def zxv(m:M (List D))(x:D):M (List D):=bnd m (yfn x)
def yfa(e:Ev->M D)(r:Ev->M (List D)):Ev->M (List D):=fun ρ=>bnd (e ρ) (zxv (r ρ))
def ypj(ds:List D):M D:=if ds.length<=cap then ret (.tup ds)else bad
def yl8(a:Ev->M (List D)):Ev->M D:=fun ρ=>bnd (a ρ) ypj
def yho(ds:List D):M D:=fun σ=>.ok (.ref σ.length) (σ++[.lst ds])
def ym4(ds:List D):M D:=if ds.length<=cap then yho ds else bad
def yl6(a:Ev->M (List D)):Ev->M D:=fun ρ=>bnd (a ρ) ym4
def lvK(ds:List D):M D:=if ds.length<=cap then ret (.lst ds)else bad
def eLv(a:Ev->M (List D)):Ev->M D:=fun ρ=>bnd (a ρ) lvK
def ye6(T:Tb)(r:R2)(o:D->D->M D):Prop:=∀ (E:XK) μ H σ x y v u Q,Rel T μ H σ->Rep T μ H x v->Rep T μ H y u->yky T E (Rep T) μ H (o x y σ) Q->r v u H Q
def ye7(T:Tb)(r:V->Hp->VK->Prop)(o:D->M D):Prop:=∀ (E:XK) μ H σ x v Q,Rel T μ H σ->Rep T μ H x v->yky T E (Rep T) μ H (o x σ) Q->r v H Q
def zpj(T:Tb)(r:List V->Hp->VK->Prop)(o:List D->M D):Prop:=∀ (E:XK) μ H σ xs vs Q,Rel T μ H σ->yk4 T μ H xs vs->yky T E (Rep T) μ H (o xs σ) Q->r vs H Q
section
variable{T:Tb}{X:Cx}{a b c:Expr}{fa fb:Ev->M D}{ta tb:Ev->M Bool}{pos:Pos}
theorem zzn(i:Nat){x:Str}(hN:X.N[i]?=some x:=by rfl)(hv:Vis X.env.scope x:=by first|exact Or.inl rfl|exact Or.inr (Or.inl rfl)|exact Or.inr (Or.inr rfl))(hd:(x == ("__debug__" : Str))=false:=by decide)
  (hcd:(x == ("__classdict__" : Str))=false:=by decide):FE T X (.Name x pos) (yl9 i):=by
 intro pins s st H Q I h;obtain⟨μ,ρ,σ,he,hr,hp⟩:=h;refine ycu hN hv hd hcd pins s st H Q I ?_;unfold yl9 at hp;cases e:ρ[i]? with
 |none=>rw[e]at hp;exact hp.elim
 |some o=>
  cases o with
  |none=>rw[e]at hp;exact hp.elim
  |some d=>
   rw[e]at hp;obtain⟨v,h1,h2⟩:=he.2 i d e;exact⟨v,h1,hp.here hr h2⟩
theorem zk0{e:Expr}{v:V}{d:D}(h:PE X e (tC v))(r:∀ μ H,Rep T μ H d v):FE T X e (eC d):=by
 intro pins s st H Q I hq;obtain⟨μ,ρ,σ,he,hr,hp⟩:=hq;exact h pins s st H Q I (yky.here hp hr (r _ _))
theorem zze{i:Int}{j}:FE T X (.Constant (.int i) j pos) (eC (.int i)):=zk0 ycn fun _ _=>by rw[Rep]
theorem yf6{i:Bool}{j}:FE T X (.Constant (.bool i) j pos) (eC (.bl i)):=zk0 yif fun _ _=>by rw[Rep]
theorem zzi{j}:FE T X (.Constant .none j pos) (eC .non):=zk0 ycp fun _ _=>by rw[Rep]
theorem zzl{i:Str}{j}:FE T X (.Constant (.str i) j pos) (eC (.str i)):=zk0 ycs fun _ _=>by rw[Rep]
theorem two{r:R2}{o:D->D->M D}(hs:ye6 T r o){st:St}{H:Hp}{Q:VK}(h:tF T X (yl2 o fa fb) st H Q):tOp r (tF T X fa) (tF T X fb) st H Q:=by
 obtain⟨μ,ρ,σ,he,hr,hp⟩:=h;exact⟨μ,ρ,σ,he,hr,hp.bind fun x σ1 μ1 v H1 _ e1 r1 p1 q1=>⟨μ1,ρ,σ1,he.mono e1,r1,q1.bind fun y σ2 μ2 u H2 _ e2 r2 p2 q2=>hs _ μ2 H2 σ2 x y v u Q r2 (Rep.mono e2 _ _ p1) p2 q2⟩⟩
theorem yga{op:Operator}{r:R2}{o:D->D->M D}(ho:OpR X (binaryOp op) r)(hs:ye6 T r o)(ha:FE T X a fa)(hb:FE T X b fb):FE T X (.BinOp a op b pos) (yl2 o fa fb):=
 fun pins s st H Q I h=>yii ho ha hb pins s st H Q I (two hs h)
theorem zzb{op:CmpOp}{r:R2}{o:D->D->M D}(ho:OpR X (compareOp op) r)(hs:ye6 T r o)(ha:FE T X a fa)(hb:FE T X b fb)(hm:behindInMarks op b=false):FE T X (.Compare a [op] [b] pos) (yl2 o fa fb):=
 fun pins s st H Q I h=>zuv ho ha hb hm pins s st H Q I (two hs h)
theorem yf7{r:R2}{o:D->D->M D}(ho:IxR X r)(hs:ye6 T r o)(ha:FE T X a fa)(hb:FE T X b fb)(hp:zpi b):FE T X (.Subscript a b pos) (yl2 o fa fb):=
 fun pins s st H Q I h=>yih ho ha hb hp pins s st H Q I (two hs h)
theorem ygc{op:UnaryOp}{r:V->Hp->VK->Prop}{o:D->M D}(ho:UnR X (unaryOp op) r)(hs:ye7 T r o)(ha:FE T X a fa):FE T X (.UnaryOp op a pos) (eUn o fa):=by
 intro pins s st H Q I h;refine yik ho ha pins s st H Q I ?_;obtain⟨μ,ρ,σ,he,hr,hp⟩:=h;exact⟨μ,ρ,σ,he,hr,hp.bind fun x σ1 μ1 v H1 _ e1 r1 p1 q1=>hs _ μ1 H1 σ1 x v Q r1 p1 q1⟩
theorem yei{E:XK}{d:D}{σ:Sto}{μ:List Addr}{H:Hp}{v:V}{β δ:Type}{R':List Addr->Hp->β->δ->Prop}{k:Bool->M β}{Q:δ->Hp->Prop}(r:Rep T μ H d v)(h:yky T E R' μ H (bnd (tst d) k σ) Q):∃ c,d=.bl c/\v=.bl c/\yky T E R' μ H (k c σ) Q:=by
 cases d with
 |bl c=>rw[Rep]at r;exact⟨c,rfl,r,h⟩
 |_=>exact h.elim
theorem zxc{E:XK}{d:D}{σ:Sto}{μ:List Addr}{H:Hp}{v:V}{Q:Bool->Hp->Prop}(r:Rep T μ H d v)(h:yky T E ye3 μ H (tst d σ) Q):∃ c,v=.bl c/\yky T E ye3 μ H (.ok c σ) Q:=by
 cases d with
 |bl c=>rw[Rep]at r;exact⟨c,r,h⟩
 |_=>exact h.elim
theorem zz5{op:CmpOp}{r:R2}{o:D->D->M D}(ho:OpR X (compareOp op) r)(hs:ye6 T r o)(ha:FE T X a fa)(hb:FE T X b fb)(hm:behindInMarks op b=false):FT T X (.Compare a [op] [b] pos) (eT (yl2 o fa fb)):=by
 intro pins s st H Q I h;refine zvd ho ha hb hm pins s st H Q I ?_;refine two (o:=o) hs ?_;obtain⟨μ,ρ,σ,he,hr,hp⟩:=h;refine⟨μ,ρ,σ,he,hr,hp.bind fun d σ1 μ1 v H1 _ e1 r1 p1 q1=>?_⟩;obtain⟨k,ev,q⟩:=zxc p1 q1;exact⟨k,ev,q.here r1 rfl⟩
theorem zz8{e:Expr}{f:Ev->M D}(h:FE T X e f)(he:∀ whole,isTrue e X.env whole=(do let v <-whole;standAt e.pos;holding [v] (truthy v)):=by intro _;rfl):FT T X e (eT f):=by
 intro pins s st H Q I hw;refine ydb h he pins s st H Q I ?_;obtain⟨μ,ρ,σ,hE,hr,hp⟩:=hw;refine⟨μ,ρ,σ,hE,hr,hp.bind fun d σ1 μ1 v H1 _ e1 r1 p1 q1=>?_⟩;obtain⟨k,ev,q⟩:=zxc p1 q1;exact⟨k,ev,q.here r1 rfl⟩
theorem zz7(h:FT T X a ta):FT T X (.UnaryOp .Not a pos) (ylm ta):=by
 intro pins s st H Q I hw;refine yda h pins s st H Q I ?_;obtain⟨μ,ρ,σ,hE,hr,hp⟩:=hw;exact⟨μ,ρ,σ,hE,hr,hp.bind fun c σ1 μ1 v H1 _ e1 r1 p1 q1=>by cases p1;exact q1.here r1 rfl⟩
variable{rest:List Expr}
theorem zr9(h:FT T X a ta):FW T X (.BoolOp .And [a] pos) ta:=zvg h
theorem yab(h:FT T X a ta):FW T X (.BoolOp .Or [a] pos) ta:=ydd h
theorem yaa(h:FT T X a ta)(hb:FW T X (.BoolOp .And (b::rest) pos) tb):FW T X (.BoolOp .And (a::b::rest) pos) (yll ta tb):=by
 intro wh pins s st H Q I hw;refine ydc h hb wh pins s st H Q I ?_;obtain⟨μ,ρ,σ,hE,hr,hp⟩:=hw;refine⟨μ,ρ,σ,hE,hr,hp.bind fun c σ1 μ1 v H1 _ e1 r1 p1 q1=>?_⟩;cases p1;cases c with
 |true=>unfold ifK at q1;rw[if_pos rfl]at q1 ⊢;exact⟨μ1,ρ,σ1,hE.mono e1,r1,q1⟩
 |false=>unfold ifK at q1;rw[if_neg Bool.false_ne_true]at q1 ⊢;exact q1.here r1 rfl
theorem ygo(h:FT T X a ta)(hb:FW T X (.BoolOp .Or (b::rest) pos) tb):FW T X (.BoolOp .Or (a::b::rest) pos) (bOr ta tb):=by
 intro wh pins s st H Q I hw;refine yiq h hb wh pins s st H Q I ?_;obtain⟨μ,ρ,σ,hE,hr,hp⟩:=hw;refine⟨μ,ρ,σ,hE,hr,hp.bind fun c σ1 μ1 v H1 _ e1 r1 p1 q1=>?_⟩;cases p1;cases c with
 |true=>unfold ifK at q1;rw[if_pos rfl]at q1 ⊢;exact q1.here r1 rfl
 |false=>unfold ifK at q1;rw[if_neg Bool.false_ne_true]at q1 ⊢;exact⟨μ1,ρ,σ1,hE.mono e1,r1,q1⟩
theorem zzk{op}(h:FE T X a fa):FE T X (.BoolOp op [a] pos) fa:=ycr h
theorem zza(h:FE T X a fa)(hb:FE T X (.BoolOp .And (b::rest) pos) fb):FE T X (.BoolOp .And (a::b::rest) pos) (yl1 fa fb):=by
 intro pins s st H Q I hw;refine yck h hb pins s st H Q I ?_;obtain⟨μ,ρ,σ,hE,hr,hp⟩:=hw;refine⟨μ,ρ,σ,hE,hr,hp.bind fun d σ1 μ1 v H1 _ e1 r1 p1 q1=>?_⟩;obtain⟨c,rfl,ev,q⟩:=yei p1 q1;refine⟨c,ev,?_⟩;cases c with
 |true=>unfold ifK at q;rw[if_pos rfl]at q ⊢;exact⟨μ1,ρ,σ1,hE.mono e1,r1,q⟩
 |false=>unfold ifK at q;rw[if_neg Bool.false_ne_true]at q ⊢;exact yky.here q r1 (by rw[Rep])
theorem ygb(h:FE T X a fa)(hb:FE T X (.BoolOp .Or (b::rest) pos) fb):FE T X (.BoolOp .Or (a::b::rest) pos) (eOr fa fb):=by
 intro pins s st H Q I hw;refine yij h hb pins s st H Q I ?_;obtain⟨μ,ρ,σ,hE,hr,hp⟩:=hw;refine⟨μ,ρ,σ,hE,hr,hp.bind fun d σ1 μ1 v H1 _ e1 r1 p1 q1=>?_⟩;obtain⟨c,rfl,ev,q⟩:=yei p1 q1;refine⟨c,ev,?_⟩;cases c with
 |true=>unfold ifK at q;rw[if_pos rfl]at q ⊢;exact yky.here q r1 (by rw[Rep])
 |false=>unfold ifK at q;rw[if_neg Bool.false_ne_true]at q ⊢;exact⟨μ1,ρ,σ1,hE.mono e1,r1,q⟩
theorem zzj(h:FE T X a fa):FE T X (.UnaryOp .Not a pos) (yl7 fa):=by
 intro pins s st H Q I hw;refine ycq h pins s st H Q I ?_;obtain⟨μ,ρ,σ,hE,hr,hp⟩:=hw;refine⟨μ,ρ,σ,hE,hr,hp.bind fun d σ1 μ1 v H1 _ e1 r1 p1 q1=>?_⟩;obtain⟨c,rfl,ev,q⟩:=yei p1 q1;exact⟨c,ev,yky.here q r1 (by rw[Rep])⟩
variable{e:Expr}{es:List Expr}{fe:Ev->M D}{fs:Ev->M (List D)}
theorem zy9:FA T X [] yle:=by
 intro pos pins s st H Q I hw;refine yci pos pins s st H Q I ?_;obtain⟨μ,ρ,σ,hE,hr,hp⟩:=hw;exact yky.here hp hr yk4.nil
theorem zq7(ha:FE T X e fe)(hr:FA T X es fs)(hs:starEach (e::es) X.env=(false,eval e X.env)::starEach es X.env:=by rfl):FA T X (e::es) (yfa fe fs):=by
 intro pos pins s st H Q I hw;refine zur ha hr hs pos pins s st H Q I ?_;obtain⟨μ,ρ,σ,hE,hr,hp⟩:=hw;exact⟨μ,ρ,σ,hE,hr,hp.bind fun d σ1 μ1 v H1 _ e1 r1 p1 q1=>⟨μ1,ρ,σ1,hE.mono e1,r1,q1.bind fun ds σ2 μ2 vs H2 _ e2 r2 p2 q2=>yky.here q2 r2 (yk4.cons (Rep.mono e2 _ _ p1) p2)⟩⟩
theorem zt1{E:XK}{μ:List Addr}{H:Hp}{σ:Sto}{ds:List D}{vs:List V}{Q:VK}{p:Addr}(h:yky T E (Rep T) μ H (.ok (.tup ds) σ) Q)(r:Rel T μ H σ)(q:yk4 T μ H ds vs)(hp:H p=none):Q (.ref p) (upd H p (.tup vs)):=
 h μ (.ref p) _ (zq6 hp) (r.fresh hp) (by rw[Rep];exact⟨p,vs,rfl,zo8,yk4.mono (zq6 hp) _ _ q⟩)
theorem zt0{E:XK}{μ:List Addr}{H:Hp}{σ:Sto}{ds:List D}{vs:List V}{Q:VK}{p:Addr}(h:yky T E (Rep T) μ H (yho ds σ) Q)(r:Rel T μ H σ)(q:yk4 T μ H ds vs)(hp:H p=none):Q (.ref p) (upd H p (.lst vs)):=
 h (μ++[p]) (.ref p) _ (zkw hp) (r.push hp ⟨vs,zo8,yk4.mono (zkw hp) _ _ q⟩) (znz r)
theorem zzm{x1}(h:FA T X es fs):FE T X (.Tuple es x1 pos) (yl8 fs):=by
 intro pins s st H Q I hw;refine yct h pins s st H Q I ?_;obtain⟨μ,ρ,σ,hE,hr,hp⟩:=hw;refine⟨μ,ρ,σ,hE,hr,hp.bind fun ds σ1 μ1 vs H1 _ e1 r1 p1 q1=>?_⟩;unfold ypj at q1;by_cases hl:ds.length<=cap
 ·rw[if_pos hl]at q1;exact⟨by rw[<-p1.length];exact zx8 hl,fun p hp=>zt1 q1 r1 p1 hp⟩
 ·rw[if_neg hl]at q1;exact q1.elim
theorem zzh(h:FA T X es fs):FE T X (.List es pos) (yl6 fs):=by
 intro pins s st H Q I hw;refine yco h pins s st H Q I ?_;obtain⟨μ,ρ,σ,hE,hr,hp⟩:=hw;refine⟨μ,ρ,σ,hE,hr,hp.bind fun ds σ1 μ1 vs H1 _ e1 r1 p1 q1=>?_⟩;unfold ym4 at q1;by_cases hl:ds.length<=cap
 ·rw[if_pos hl]at q1;exact⟨by rw[<-p1.length];exact zx8 hl,fun p hp=>zt0 q1 r1 p1 hp⟩
 ·rw[if_neg hl]at q1;exact q1.elim
theorem ybl{E:XK}{μ:List Addr}{H:Hp}{σ:Sto}{ds:List D}{vs:List V}{Q:VK}{p:Addr}(h:yky T E (Rep T) μ H (.ok (.lst ds) σ) Q)(r:Rel T μ H σ)(q:yk4 T μ H ds vs)(hp:H p=none):Q (.ref p) (upd H p (.lst vs)):=
 h μ (.ref p) _ (zq6 hp) (r.fresh hp) (by rw[Rep];exact⟨p,vs,rfl,fun hm=>(by obtain⟨u,hu,_⟩:=r.mem hm;rw[hp]at hu;cases hu),zo8,yk4.mono (zq6 hp) _ _ q⟩)
theorem yf9(h:FA T X es fs):FE T X (.List es pos) (eLv fs):=by
 intro pins s st H Q I hw;refine yco h pins s st H Q I ?_;obtain⟨μ,ρ,σ,hE,hr,hp⟩:=hw;refine⟨μ,ρ,σ,hE,hr,hp.bind fun ds σ1 μ1 vs H1 _ e1 r1 p1 q1=>?_⟩;unfold lvK at q1;by_cases hl:ds.length<=cap
 ·rw[if_pos hl]at q1;exact⟨by rw[<-p1.length];exact zx8 hl,fun p hp=>ybl q1 r1 p1 hp⟩
 ·rw[if_neg hl]at q1;exact q1.elim
end
def oI(g:Int->Int->Int):D->D->M D
 | .int i,.int j=>ret (.int (g i j))
 |_,_=>bad
def oB(g:Int->Int->Bool):D->D->M D
 | .int i,.int j=>ret (.bl (g i j))
 |_,_=>bad
def oIC(C:Int->Int->Bool)(g:Int->Int->Int):D->D->M D
 | .int i,.int j=>if C i j=true then ret (.int (g i j))else bad
 |_,_=>bad
noncomputable def yls(i j:Int):Bool:=hide ((decide (-(2 ^ 64)<i) && decide (i<2 ^ 64)) || (decide (-(2 ^ 64)<j) && decide (j<2 ^ 64)))
noncomputable def ylq(_ j:Int):Bool:=hide (decide (0<j) && decide (j<1073741824))
noncomputable def ylr(_ j:Int):Bool:=hide (decide (0<j))
noncomputable def ylt(i j:Int):Bool:=hide (decide (0<=j) && decide (j<=1000000) && decide (i.natAbs<2 ^ 64))
abbrev ynt:=oI (fun i j=>i - j)
noncomputable abbrev yno:=oIC yls (fun i j=>i * j)
noncomputable abbrev yne:=oIC ylq (fun i j=>i / j)
noncomputable abbrev ynn:=oIC ylr (fun i j=>i % j)
noncomputable abbrev ynr:=oIC ylt (fun i j=>i ^ j.toNat)
abbrev oLt:=oB (fun i j=>decide (i<j))
abbrev oLe:=oB (fun i j=>decide (i<=j))
abbrev oGt:=oB (fun i j=>decide (j<i))
abbrev oGe:=oB (fun i j=>decide (j<=i))
def ynq:D->M D
 | .int i=>ret (.int (-i))
 |_=>bad
def rD(T:Tb)(o:D->D->M D):R2:=fun v u H Q=>∃ (E:XK) (μ:List Addr) (σ:Sto) (x y:D),Rel T μ H σ/\Rep T μ H x v/\Rep T μ H y u/\yky T E (Rep T) μ H (o x y σ) Q
theorem yow{T:Tb}{o:D->D->M D}:ye6 T (rD T o) o:=fun E μ H σ x y v u Q r p q h=>⟨E,μ,σ,x,y,r,p,q,h⟩
section
variable{T:Tb}{X:Cx}
theorem yan{μ:List Addr}{H:Hp}{i:Int}{v:V}(h:Rep T μ H (.int i) v):v=.int i:=by simpa [Rep]using h
theorem yjh{g:Int->Int->Int}:ye6 T (rI0 fun i j=>.int (g i j)) (oI g):=by
 intro E μ H σ x y v u Q r p q h;cases x with
 |int i=>
  cases y with
  |int j=>exact⟨i,j,yan p,yan q,yky.here h r (by rw[Rep])⟩
  |_=>exact h.elim
 |_=>exact h.elim
theorem yjg{g:Int->Int->Bool}:ye6 T (rI0 fun i j=>.bl (g i j)) (oB g):=by
 intro E μ H σ x y v u Q r p q h;cases x with
 |int i=>
  cases y with
  |int j=>exact⟨i,j,yan p,yan q,yky.here h r (by rw[Rep])⟩
  |_=>exact h.elim
 |_=>exact h.elim
theorem ydx{C:Int->Int->Bool}{C':Int->Int->Prop}{g:Int->Int->Int}(hC:∀ i j,C i j=true->C' i j):ye6 T (rI C' fun i j=>.int (g i j)) (oIC C g):=by
 intro E μ H σ x y v u Q r p q h;cases x with
 |int i=>
  cases y with
  |int j=>
   by_cases hc:C i j=true
   ·have h':yky T E (Rep T) μ H (ret (.int (g i j)) σ) Q:=by
     have e:oIC C g (.int i) (.int j)=ret (.int (g i j)):=by show (if C i j=true then _ else _)=_;rw[if_pos hc]
     rw[e]at h;exact h
    exact⟨i,j,yan p,yan q,hC i j hc,yky.here h' r (by rw[Rep])⟩
   ·have e:oIC C g (.int i) (.int j)=bad:=by show (if C i j=true then _ else _)=_;rw[if_neg hc]
    rw[e]at h;exact h.elim
  |_=>exact h.elim
 |_=>exact h.elim
theorem zwx:ye6 T (rI0 fun i j=>.int (i - j)) ynt:=yjh
theorem zwt:ye6 T (rI yki fun i j=>.int (i * j)) yno:=ydx fun i j h=>by
 simp only[yls,zsp,Bool.or_eq_true,Bool.and_eq_true,decide_eq_true_eq]at h;exact h
theorem zwp:ye6 T (rI ykh fun i j=>.int (i / j)) yne:=ydx fun i j h=>by
 simp only[ylq,zsp,Bool.and_eq_true,decide_eq_true_eq]at h;exact h
theorem zws:ye6 T (rI (fun _ j=>0<j) fun i j=>.int (i % j)) ynn:=ydx fun i j h=>by
 simp only[ylr,zsp,decide_eq_true_eq]at h;exact h
theorem zww:ye6 T (rI ykj fun i j=>.int (i ^ j.toNat)) ynr:=ydx fun i j h=>by
 simp only[ylt,zsp,Bool.and_eq_true,decide_eq_true_eq]at h;exact⟨h.1.1,h.1.2,h.2⟩
theorem yd3:ye6 T (rI0 fun i j=>.bl (decide (i<j))) oLt:=yjg
theorem yd2:ye6 T (rI0 fun i j=>.bl (decide (i<=j))) oLe:=yjg
theorem ydz:ye6 T (rI0 fun i j=>.bl (decide (j<i))) oGt:=yjg
theorem ydy:ye6 T (rI0 fun i j=>.bl (decide (j<=i))) oGe:=yjg
theorem zwv:ye7 T (rU fun i=>.int (-i)) ynq:=by
 intro E μ H σ x v Q r p h;cases x with
 |int i=>exact⟨i,yan p,yky.here h r (by rw[Rep])⟩
 |_=>exact h.elim
end
def sc:D->Option V
 | .non=>some .non
 | .bl b=>some (.bl b)
 | .int i=>some (.int i)
 | .str x=>some (.str x)
 |_=>none
def yhf(σ:Sto)(n:Nat):Option (List D):=match σ[n]? with
 |some (.lst xs)=>some xs
 |_=>none
theorem zfi{σ:Sto}{n:Nat}{xs:List D}(h:yhf σ n=some xs):σ[n]?=some (.lst xs):=by
 unfold yhf at h;cases e:σ[n]? with
 |none=>rw[e]at h;cases h
 |some o=>rw[e]at h;cases o<;>simp at h;subst h;rfl
inductive Kd where
 |s (v:V)|t (xs:List D)|l (xs:List D)|o
def kd(σ:Sto):D->Kd
 | .non=>.s .non
 | .bl b=>.s (.bl b)
 | .int i=>.s (.int i)
 | .str x=>.s (.str x)
 | .tup xs=>.t xs
 | .lst xs=>.l xs
 | .ref n=>match yhf σ n with
  |some xs=>.l xs
  |none=>.o
 |_=>.o
def eqL(f:D->D->Option Bool):List D->List D->Option Bool
 |[],[]=>some true
 |[],_::_=>some false
 |_::_,[]=>some false
 |x::xs,y::ys=>match f x y,eqL f xs ys with
  |some b,some c=>some (b && c)
  |_,_=>none
def eqK(f:D->D->Option Bool):Kd->Kd->Option Bool
 | .s a,.s b=>some (eqV a b)
 | .t xs,.t ys=>eqL f xs ys
 | .l xs,.l ys=>eqL f xs ys
 | .s _,.t _=>some false
 | .t _,.s _=>some false
 | .s _,.l _=>some false
 | .l _,.s _=>some false
 | .t _,.l _=>some false
 | .l _,.t _=>some false
 |_,_=>none
def eqD(σ:Sto):Nat->D->D->Option Bool
 |0,x,y=>eqK (fun _ _=>none) (kd σ x) (kd σ y)
 |n+1,x,y=>eqK (eqD σ n) (kd σ x) (kd σ y)
def eAt(f:D->D->Option Bool)(xs ys:List D)(j:Nat):Bool:=match xs[j]?,ys[j]? with
 |some a,some b=>(f a b).getD false
 |_,_=>false
theorem zks(f:D->D->Option Bool):∀ (xs ys:List D) (b:Bool),eqL f xs ys=some b->
  (∀ (j:Nat) (a c:D),xs[j]?=some a->ys[j]?=some c->∃ k,f a c=some k)/\b=((List.range (min xs.length ys.length)).all (eAt f xs ys) && xs.length == ys.length)
 |[],[],b,h=>by simp[eqL]at h;subst h;simp
 |[],y::ys,b,h=>by simp[eqL]at h;subst h;simp
 |x::xs,[],b,h=>by simp[eqL]at h;subst h;simp
 |x::xs,y::ys,b,h=>by
  unfold eqL at h;cases e1:f x y with
  |none=>rw[e1]at h;cases h
  |some b1=>
   cases e2:eqL f xs ys with
   |none=>rw[e1,e2]at h;cases h
   |some b2=>
    rw[e1,e2]at h;cases h;obtain⟨h1,h2⟩:=zks f xs ys b2 e2;refine⟨fun j a c ha hc=>?_,?_⟩
    ·cases j with
     |zero=>simp at ha hc;subst ha;subst hc;exact⟨b1,e1⟩
     |succ j=>exact h1 j a c (by simpa using ha) (by simpa using hc)
    ·have e3:min (x::xs).length (y::ys).length=min xs.length ys.length+1:=by simp[Nat.succ_min_succ]
     have e4:∀ j,eAt f (x::xs) (y::ys) (j+1)=eAt f xs ys j:=fun j=>by simp[eAt]
     have e5:eAt f (x::xs) (y::ys) 0=b1:=by simp[eAt,e1]
     rw[e3,List.range_succ_eq_map,List.all_cons,List.all_map,e5,h2];have e6:(eAt f (x::xs) (y::ys) ∘ Nat.succ)=eAt f xs ys:=funext fun j=>e4 j;have e7:((x::xs).length == (y::ys).length)=(xs.length == ys.length):=by simp
     rw[e6,e7,Bool.and_assoc]
section
variable{T:Tb}{μ:List Addr}{H:Hp}{σ:Sto}
theorem Rel.lst(r:Rel T μ H σ){n:Nat}{v:V}{xs:List D}(h:Rep T μ H (.ref n) v)(e:yhf σ n=some xs):∃ a vs,v=.ref a/\μ[n]?=some a/\H a=some (.lst vs)/\yk4 T μ H xs vs:=by
 obtain⟨a,rfl,h1,vs,h2,h3⟩:=r.at h (zfi e);exact⟨a,vs,rfl,h1,h2,h3⟩
theorem ydr{d:D}{v a:V}(h:Rep T μ H d v)(e:sc d=some a):v=a:=by
 cases d<;>simp[sc]at e<;>subst e<;>simpa [Rep]using h
theorem zv9{d:D}{a:V}(e:sc d=some a):ygf a=true:=by
 cases d<;>simp[sc]at e<;>subst e<;>rfl
theorem zkt{a:V}(h:ygf a=true):eqV a a=true:=by cases a<;>simp[ygf,eqV]at h ⊢
theorem yav(r:Rel T μ H σ){d:D}{v:V}(h:Rep T μ H d v):match kd σ d with
  | .s a=>v=a/\ygf a=true
  | .t xs=>∃ p vs,v=.ref p/\H p=some (.tup vs)/\yk4 T μ H xs vs
  | .l xs=>∃ p vs,v=.ref p/\H p=some (.lst vs)/\yk4 T μ H xs vs
  | .o=>True:=by
 cases d with
 |non=>exact⟨by simpa [Rep]using h,rfl⟩
 |bl b=>exact⟨by simpa [Rep]using h,rfl⟩
 |int b=>exact⟨by simpa [Rep]using h,rfl⟩
 |str b=>exact⟨by simpa [Rep]using h,rfl⟩
 |tup xs=>rw[Rep]at h;exact h
 |lst xs=>rw[Rep]at h;obtain⟨a,vs,h1,_,h2,h3⟩:=h;exact⟨a,vs,h1,h2,h3⟩
 |ref n=>
  unfold kd;dsimp only;cases e:yhf σ n with
  |none=>trivial
  |some xs=>obtain⟨a,vs,h1,_,h2,h3⟩:=r.lst h e;exact⟨a,vs,h1,h2,h3⟩
 |_=>trivial
theorem zkr{f:D->D->Option Bool}(hf:∀ (x y:D) (v:V) (b:Bool),Rep T μ H x v->Rep T μ H y v->f x y=some b->b=true):∀ (xs ys:List D) (vs:List V) (b:Bool),yk4 T μ H xs vs->yk4 T μ H ys vs->eqL f xs ys=some b->b=true
 |[],ys,vs,b,r1,r2,h=>by
  rw[yk4]at r1;subst r1;cases ys with
  |nil=>simp[eqL]at h;exact h
  |cons y ys=>rw[yk4]at r2;obtain⟨_,_,z,_⟩:=r2;cases z
 |x::xs,ys,vs,b,r1,r2,h=>by
  rw[yk4]at r1;obtain⟨v,r,rfl,p1,q1⟩:=r1;cases ys with
  |nil=>rw[yk4]at r2;cases r2
  |cons y ys=>
   rw[yk4]at r2;obtain⟨v',r',z,p2,q2⟩:=r2;cases z;unfold eqL at h;cases e1:f x y with
   |none=>rw[e1]at h;cases h
   |some b1=>
    cases e2:eqL f xs ys with
    |none=>rw[e1,e2]at h;cases h
    |some b2=>
     rw[e1,e2]at h;cases h;rw[hf x y v b1 p1 p2 e1,zkr hf xs ys r b2 q1 q2 e2];rfl
theorem zkp(r:Rel T μ H σ){f:D->D->Option Bool}(hf:∀ (x y:D) (v:V) (b:Bool),Rep T μ H x v->Rep T μ H y v->f x y=some b->b=true){x y:D}{v:V}{b:Bool}(hx:Rep T μ H x v)(hy:Rep T μ H y v)(h:eqK f (kd σ x) (kd σ y)=some b):b=true:=by
 have kx:=yav r hx;have ky:=yav r hy;generalize kd σ x=k1 at h kx;generalize kd σ y=k2 at h ky;cases k1 with
 |s a=>
  obtain⟨rfl,fa⟩:=kx;cases k2 with
  |s c=>obtain⟨rfl,_⟩:=ky;cases h;exact zkt fa
  |t xs=>obtain⟨p,vs,rfl,_⟩:=ky;simp[ygf]at fa
  |l xs=>obtain⟨p,vs,rfl,_⟩:=ky;simp[ygf]at fa
  |o=>cases h
 |t xs=>
  obtain⟨p,vs,rfl,h1,r1⟩:=kx;cases k2 with
  |s c=>obtain⟨e,fa⟩:=ky;rw[<-e]at fa;simp[ygf]at fa
  |t ys=>
   obtain⟨q,ws,e,h2,r2⟩:=ky;cases e;rw[h1]at h2;cases h2;exact zkr hf xs ys vs b r1 r2 h
  |l ys=>obtain⟨q,ws,e,h2,r2⟩:=ky;cases e;rw[h1]at h2;cases h2
  |o=>cases h
 |l xs=>
  obtain⟨p,vs,rfl,h1,r1⟩:=kx;cases k2 with
  |s c=>obtain⟨e,fa⟩:=ky;rw[<-e]at fa;simp[ygf]at fa
  |t ys=>obtain⟨q,ws,e,h2,r2⟩:=ky;cases e;rw[h1]at h2;cases h2
  |l ys=>
   obtain⟨q,ws,e,h2,r2⟩:=ky;cases e;rw[h1]at h2;cases h2;exact zkr hf xs ys vs b r1 r2 h
  |o=>cases h
 |o=>cases h
theorem zko(r:Rel T μ H σ):∀ (n:Nat) (x y:D) (v:V) (b:Bool),Rep T μ H x v->Rep T μ H y v->eqD σ n x y=some b->b=true
 |0,x,y,v,b,hx,hy,h=>zkp r (fun _ _ _ _ _ _ z=>by cases z) hx hy h
 |n+1,x,y,v,b,hx,hy,h=>zkp r (fun x y v b a1 a2 a3=>zko r n x y v b a1 a2 a3) hx hy h
end
section
variable{T:Tb}{X:Cx}{pins:List (Addr × Obj)}{st:St}{μ:List Addr}{H:Hp}{s:Shared}{σ:Sto}
theorem zet{A:Around}{a:V}{u:Value}{p:Addr}{its:Array Value}(fa:ygf a=true)(r:yk1 a u)(hp:s.heap.IsTuple p its)(hu:A.units<cLine):SeqAt.EqAt A s u (.ref p) false/\SeqAt.EqAt A s (.ref p) u false/\SeqAt.RcAt A s u (.ref p) false/\SeqAt.RcAt A s (.ref p) u false/\SeqAt.RcNeAt A s u (.ref p) true/\SeqAt.RcNeAt A s (.ref p) u true:=by
 cases a with
 |non=>cases r;exact⟨.none_tuple hp hu,.tuple_none hp hu,.none_tuple hp hu,.tuple_none hp hu,.none_tuple hp hu,.tuple_none hp hu⟩
 |bl b=>cases r;exact⟨.bool_tuple b hp hu,.tuple_bool b hp hu,.bool_tuple b hp hu,.tuple_bool b hp hu,.bool_tuple b hp hu,.tuple_bool b hp hu⟩
 |int b=>obtain⟨t,rfl⟩:=r;exact⟨.int_tuple b t hp hu,.tuple_int b t hp hu,.int_tuple b t hp hu,.tuple_int b t hp hu,.int_tuple b t hp hu,.tuple_int b t hp hu⟩
 |str b=>obtain⟨t,rfl⟩:=r;exact⟨.str_tuple b t hp hu,.tuple_str b t hp hu,.str_tuple b t hp hu,.tuple_str b t hp hu,.str_tuple b t hp hu,.tuple_str b t hp hu⟩
 |_=>simp[ygf]at fa
theorem zf3{A:Around}{a:V}{u:Value}{p:Addr}{its:Array Value}(fa:ygf a=true)(r:yk1 a u)(hp:s.heap.IsList p its)(hu:A.units<cLine):SeqAt.RcAt A s u (.ref p) false/\SeqAt.RcAt A s (.ref p) u false/\SeqAt.RcNeAt A s u (.ref p) true/\SeqAt.RcNeAt A s (.ref p) u true:=by
 cases a with
 |non=>cases r;exact⟨.none_list hp hu,.list_none hp hu,.none_list hp hu,.list_none hp hu⟩
 |bl b=>cases r;exact⟨.bool_list b hp hu,.list_bool b hp hu,.bool_list b hp hu,.list_bool b hp hu⟩
 |int b=>obtain⟨t,rfl⟩:=r;exact⟨.int_list b t hp hu,.list_int b t hp hu,.int_list b t hp hu,.list_int b t hp hu⟩
 |str b=>obtain⟨t,rfl⟩:=r;exact⟨.str_list b t hp hu,.list_str b t hp hu,.str_list b t hp hu,.list_str b t hp hu⟩
 |_=>simp[ygf]at fa
theorem zdo{A:Around}{a:V}{u:Value}{p:Addr}{its:Array Value}(fa:ygf a=true)(r:yk1 a u)(hp:s.heap.IsList p its)(hu:A.units<cLine):SeqAt.EqAt A s u (.ref p) false:=by
 cases a with
 |non=>cases r;exact .none_list hp hu
 |bl b=>cases r;exact .bool_list b hp hu
 |int b=>obtain⟨t,rfl⟩:=r;exact .int_list b t hp hu
 |str b=>obtain⟨t,rfl⟩:=r;exact .str_list b t hp hu
 |_=>simp[ygf]at fa
theorem zcs{A:Around}{a:V}{u:Value}{p:Addr}{its:Array Value}(fa:ygf a=true)(r:yk1 a u)(hp:s.heap.IsList p its)(hu:A.units<cLine):SeqAt.EqAt A s (.ref p) u false:=by
 cases a with
 |non=>cases r;exact .list_none hp hu
 |bl b=>cases r;exact .list_bool b hp hu
 |int b=>obtain⟨t,rfl⟩:=r;exact .list_int b t hp hu
 |str b=>obtain⟨t,rfl⟩:=r;exact .list_str b t hp hu
 |_=>simp[ygf]at fa
theorem yi1{A:Around}{a b:V}{u w:Value}(ra:yk1 a u)(rb:yk1 b w)(fa:ygf a=true)(fb:ygf b=true):SeqAt.RcAt A s u w (eqV a b)/\SeqAt.RcNeAt A s u w (!eqV a b):=by
 cases a with
 |non=>
  cases ra;cases b with
  |non=>cases rb;exact⟨.none_none,.none_none⟩
  |bl y=>cases rb;exact⟨.none_bool y,.none_bool y⟩
  |int y=>obtain⟨t,rfl⟩:=rb;exact⟨.none_int y t,.none_int y t⟩
  |str y=>obtain⟨t,rfl⟩:=rb;exact⟨.none_str y t,.none_str y t⟩
  |_=>simp[ygf]at fb
 |bl x=>
  cases ra;cases b with
  |non=>cases rb;exact⟨.bool_none x,.bool_none x⟩
  |bl y=>cases rb;exact⟨.bool_bool x y,.bool_bool x y⟩
  |int y=>obtain⟨t,rfl⟩:=rb;exact⟨.bool_int x y t,.bool_int x y t⟩
  |str y=>obtain⟨t,rfl⟩:=rb;exact⟨.bool_str x y t,.bool_str x y t⟩
  |_=>simp[ygf]at fb
 |int x=>
  obtain⟨t',rfl⟩:=ra;cases b with
  |non=>cases rb;exact⟨.int_none x t',.int_none x t'⟩
  |bl y=>cases rb;exact⟨.int_bool x t' y,.int_bool x t' y⟩
  |int y=>obtain⟨t,rfl⟩:=rb;exact⟨.int_int x t' y t,.int_int x t' y t⟩
  |str y=>obtain⟨t,rfl⟩:=rb;exact⟨.int_str x t' y t,.int_str x t' y t⟩
  |_=>simp[ygf]at fb
 |str x=>
  obtain⟨t',rfl⟩:=ra;cases b with
  |non=>cases rb;exact⟨.str_none x t',.str_none x t'⟩
  |bl y=>cases rb;exact⟨.str_bool x t' y,.str_bool x t' y⟩
  |int y=>obtain⟨t,rfl⟩:=rb;exact⟨.str_int x t' y t,.str_int x t' y t⟩
  |str y=>obtain⟨t,rfl⟩:=rb;exact⟨.str_str x t' y t,.str_str x t' y t⟩
  |_=>simp[ygf]at fb
 |_=>simp[ygf]at fa
theorem zpc{xs:List V}{us:List Value}{i:Nat}{u:Value}(r:yla xs us)(h:us[i]?=some u):∃ x,xs[i]?=some x/\yk1 x u:=by
 have hl:=r.length;have hi:=(List.getElem?_eq_some_iff.mp h).1;obtain⟨u',h1,h2⟩:=r.get (i:=i) (x:=xs[i]'(by omega)) (by simp);rw[h]at h1;cases h1;exact⟨_,by simp,h2⟩
theorem zn2{ds:List D}{vs:List V}{i:Nat}{v:V}(r:yk4 T μ H ds vs)(h:vs[i]?=some v):∃ d,ds[i]?=some d/\Rep T μ H d v:=by
 have hl:=r.length;have hi:=(List.getElem?_eq_some_iff.mp h).1;obtain⟨v',h1,h2⟩:=r.get (i:=i) (d:=ds[i]'(by omega)) (by simp);rw[h]at h1;cases h1;exact⟨_,by simp,h2⟩
theorem zl7{A:Around}{f:D->D->Option Bool}(hf:∀ (x y:D) (v w:V) (v' w':Value) (b:Bool),Rep T μ H x v->Rep T μ H y w->yk1 v v'->yk1 w w'->f x y=some b->SeqAt.EqAt A s v' w' b)
  {xs ys:List D} {vs ws:List V} {us zs:List Value} {b:Bool} (r1:yk4 T μ H xs vs) (r2:yk4 T μ H ys ws) (q1:yla vs us) (q2:yla ws zs) (h:eqL f xs ys=some b) :
  (∀ j (h1:j<us.toArray.size) (h2:j<zs.toArray.size),SeqAt.EqAt A s us.toArray[j] zs.toArray[j] (eAt f xs ys j))/\b=((List.range (min us.toArray.size zs.toArray.size)).all (eAt f xs ys) && us.toArray.size == zs.toArray.size):=by
 obtain⟨h1,h2⟩:=zks f xs ys b h;have l1:=r1.length;have l2:=r2.length;have l3:=q1.length;have l4:=q2.length;refine⟨fun j g1 g2=>?_,?_⟩
 ·obtain⟨v,e1,rv⟩:=zpc (i:=j) (u:=us.toArray[j]) q1 (by simp);obtain⟨w,e2,rw'⟩:=zpc (i:=j) (u:=zs.toArray[j]) q2 (by simp);obtain⟨x,e3,p3⟩:=zn2 r1 e1;obtain⟨y,e4,p4⟩:=zn2 r2 e2;obtain⟨k,ek⟩:=h1 j x y e3 e4;have e5:eAt f xs ys j=k:=by simp[eAt,e3,e4,ek]
  rw[e5];exact hf x y v w _ _ k p3 p4 rv rw' ek
 ·simp only[List.size_toArray];rw[h2,l1,l2,l3,l4]
abbrev zxu(A:Around)(s:Shared)(v w:Value)(b:Bool):Prop:=SeqAt.RcAt A s v w b/\SeqAt.RcNeAt A s v w (!b)
theorem rcK{A:Around}(I:Inv X pins st H s)(r:Rel T μ H σ)(hu:A.units+1<cLine){f:D->D->Option Bool}
  (hf:∀ (x y:D) (v w:V) (v' w':Value) (b:Bool),Rep T μ H x v->Rep T μ H y w->yk1 v v'->yk1 w w'->f x y=some b->SeqAt.EqAt A.in1 s v' w' b)
  {x y:D} {v w:V} {v' w':Value} {b:Bool} (hx:Rep T μ H x v) (hy:Rep T μ H y w) (rv:yk1 v v') (rw':yk1 w w') (h:eqK f (kd σ x) (kd σ y)=some b):zxu A s v' w' b:=by
 have hu0:A.units<cLine:=by omega
 have kx:=yav r hx;have ky:=yav r hy;generalize kd σ x=k1 at h kx;generalize kd σ y=k2 at h ky;cases k1 with
 |o=>cases h
 |s a=>
  obtain⟨rfl,fa⟩:=kx;cases k2 with
  |o=>cases h
  |s c=>obtain⟨rfl,fc⟩:=ky;cases h;exact yi1 rv rw' fa fc
  |t ys=>
   obtain⟨q,ws,rfl,h2,r2⟩:=ky;cases h;cases rw';obtain⟨its,_,hq,_⟩:=L2.Inv.tuple I (SqT.of (K:=X.K) h2);obtain⟨_,_,a1,a2,a3,a4⟩:=zet fa rv hq hu0;exact⟨a1,a3⟩
  |l ys=>
   obtain⟨q,ws,rfl,h2,r2⟩:=ky;cases h;cases rw';obtain⟨its,_,pl,_⟩:=L2.Inv.list I (SqL.of (K:=X.K) h2);obtain⟨a1,a2,a3,a4⟩:=zf3 fa rv pl.isList hu0;exact⟨a1,a3⟩
 |t xs=>
  obtain⟨p,vs,rfl,h1,r1⟩:=kx;cases rv;obtain⟨its,q1,hp,_⟩:=L2.Inv.tuple I (SqT.of (K:=X.K) h1);cases k2 with
  |o=>cases h
  |s c=>
   obtain⟨rfl,fc⟩:=ky;cases h;obtain⟨_,_,a1,a2,a3,a4⟩:=zet fc rw' hp hu0;exact⟨a2,a4⟩
  |t ys=>
   obtain⟨q,ws,rfl,h2,r2⟩:=ky;cases rw';obtain⟨its2,q2,hq,_⟩:=L2.Inv.tuple I (SqT.of (K:=X.K) h2);obtain⟨g1,g2⟩:=zl7 (A:=A.in1) hf r1 r2 q1 q2 h;rw[g2];exact⟨.tuples hp hq (by omega) g1,.tuples hp hq (by omega) g1⟩
  |l ys=>
   obtain⟨q,ws,rfl,h2,r2⟩:=ky;cases h;cases rw';obtain⟨its2,_,pl,_⟩:=L2.Inv.list I (SqL.of (K:=X.K) h2);exact⟨.tuple_list hp pl.isList hu0,.tuple_list hp pl.isList hu0⟩
 |l xs=>
  obtain⟨p,vs,rfl,h1,r1⟩:=kx;cases rv;obtain⟨its,q1,pl,_⟩:=L2.Inv.list I (SqL.of (K:=X.K) h1);cases k2 with
  |o=>cases h
  |s c=>
   obtain⟨rfl,fc⟩:=ky;cases h;obtain⟨a1,a2,a3,a4⟩:=zf3 fc rw' pl.isList hu0;exact⟨a2,a4⟩
  |t ys=>
   obtain⟨q,ws,rfl,h2,r2⟩:=ky;cases h;cases rw';obtain⟨its2,_,hq,_⟩:=L2.Inv.tuple I (SqT.of (K:=X.K) h2);exact⟨.list_tuple pl.isList hq hu0,.list_tuple pl.isList hq hu0⟩
  |l ys=>
   obtain⟨q,ws,rfl,h2,r2⟩:=ky;cases rw';obtain⟨its2,q2,pl2,_⟩:=L2.Inv.list I (SqL.of (K:=X.K) h2);obtain⟨g1,g2⟩:=zl7 (A:=A.in1) hf r1 r2 q1 q2 h;by_cases hz:its.toArray.size=its2.toArray.size
   ·have e:b=(List.range its.toArray.size).all (eAt f xs ys):=by rw[g2,<-hz];simp
    rw[e];exact⟨.lists pl.isList pl2.isList hz (by omega) g1,.lists pl.isList pl2.isList hz (by omega) g1⟩
   ·have e:b=false:=by rw[g2,beq_eq_false_iff_ne.mpr hz,Bool.and_false]
    rw[e];exact⟨.lists_lengths pl.isList pl2.isList (by simpa using hz) (by omega),.lists_lengths pl.isList pl2.isList (by simpa using hz) (by omega)⟩
theorem zy5{A:Around}(I:Inv X pins st H s)(r:Rel T μ H σ)(hu:A.units+1<cLine){f:D->D->Option Bool}
  (hf:∀ (x y:D) (v w:V) (v' w':Value) (b:Bool),Rep T μ H x v->Rep T μ H y w->yk1 v v'->yk1 w w'->f x y=some b->SeqAt.EqAt A.in1 s v' w' b)
  (hs:∀ (x y:D) (v:V) (b:Bool),Rep T μ H x v->Rep T μ H y v->f x y=some b->b=true)
  {x y:D} {v w:V} {v' w':Value} {b:Bool} (hx:Rep T μ H x v) (hy:Rep T μ H y w) (rv:yk1 v v') (rw':yk1 w w') (h:eqK f (kd σ x) (kd σ y)=some b):SeqAt.EqAt A s v' w' b:=by
 have hu0:A.units<cLine:=by omega
 have rc:=(rcK I r hu hf hx hy rv rw' h).1;by_cases hvw:v=w
 ·subst hvw;have hb:=zkp r hs hx hy h;have kx:=yav r hx;have ky:=yav r hy;generalize kd σ x=k1 at h kx;generalize kd σ y=k2 at h ky;cases k1 with
  |o=>cases h
  |s a=>
   obtain⟨rfl,fa⟩:=kx;cases k2 with
   |o=>cases h
   |s c=>obtain⟨rfl,fc⟩:=ky;cases h;exact zy3 rv rw' fa fc
   |t ys=>obtain⟨q,ws,e,_⟩:=ky;rw[e]at fa;simp[ygf]at fa
   |l ys=>obtain⟨q,ws,e,_⟩:=ky;rw[e]at fa;simp[ygf]at fa
  |t xs=>
   obtain⟨p,vs,rfl,_⟩:=kx;cases rv;cases rw';rw[hb];exact SeqAt.EqAt.same _
  |l xs=>
   obtain⟨p,vs,rfl,_⟩:=kx;cases rv;cases rw';rw[hb];exact SeqAt.EqAt.same _
 ·have kx:=yav r hx;have ky:=yav r hy;generalize kd σ x=k1 at h kx;generalize kd σ y=k2 at h ky;cases k1 with
  |o=>cases h
  |s a=>
   obtain⟨rfl,fa⟩:=kx;cases k2 with
   |o=>cases h
   |s c=>obtain⟨rfl,fc⟩:=ky;cases h;exact zy3 rv rw' fa fc
   |t ys=>
    obtain⟨q,ws,rfl,h2,r2⟩:=ky;cases h;cases rw';obtain⟨its,_,hq,_⟩:=L2.Inv.tuple I (SqT.of (K:=X.K) h2);exact(zet fa rv hq hu0).1
   |l ys=>
    obtain⟨q,ws,rfl,h2,r2⟩:=ky;cases h;cases rw';obtain⟨its,_,pl,_⟩:=L2.Inv.list I (SqL.of (K:=X.K) h2);exact zdo fa rv pl.isList hu0
  |t xs=>
   obtain⟨p,vs,rfl,h1,r1⟩:=kx;cases rv;cases k2 with
   |o=>cases h
   |s c=>
    obtain⟨rfl,fc⟩:=ky;cases h;obtain⟨its,_,hp,_⟩:=L2.Inv.tuple I (SqT.of (K:=X.K) h1);exact(zet fc rw' hp hu0).2.1
   |t ys=>obtain⟨q,ws,rfl,_⟩:=ky;cases rw';exact .of_refs (fun e=>hvw (by rw[e])) rc
   |l ys=>obtain⟨q,ws,rfl,_⟩:=ky;cases rw';exact .of_refs (fun e=>hvw (by rw[e])) rc
  |l xs=>
   obtain⟨p,vs,rfl,h1,r1⟩:=kx;cases rv;cases k2 with
   |o=>cases h
   |s c=>
    obtain⟨rfl,fc⟩:=ky;cases h;obtain⟨its,_,pl,_⟩:=L2.Inv.list I (SqL.of (K:=X.K) h1);exact zcs fc rw' pl.isList hu0
   |t ys=>obtain⟨q,ws,rfl,_⟩:=ky;cases rw';exact .of_refs (fun e=>hvw (by rw[e])) rc
   |l ys=>obtain⟨q,ws,rfl,_⟩:=ky;cases rw';exact .of_refs (fun e=>hvw (by rw[e])) rc
theorem zy4(I:Inv X pins st H s)(r:Rel T μ H σ):∀ (n:Nat) (A:Around) (x y:D) (v w:V) (v' w':Value) (b:Bool),A.units+n+1<cLine->Rep T μ H x v->Rep T μ H y w->yk1 v v'->yk1 w w'->eqD σ n x y=some b->SeqAt.EqAt A s v' w' b
 |0,A,x,y,v,w,v',w',b,hu,hx,hy,rv,rw',h=>zy5 I r (by omega) (fun _ _ _ _ _ _ _ _ _ _ _ z=>by cases z) (fun _ _ _ _ _ _ z=>by cases z) hx hy rv rw' h
 |n+1,A,x,y,v,w,v',w',b,hu,hx,hy,rv,rw',h=>zy5 I r (by omega) (fun x y v w v' w' b a1 a2 a3 a4 a5=>zy4 I r n A.in1 x y v w v' w' b (by show A.units+1+n+1<cLine;omega) a1 a2 a3 a4 a5) (fun x y v b a1 a2 a3=>zko r n x y v b a1 a2 a3) hx hy rv rw' h
theorem rcD{A:Around}(I:Inv X pins st H s)(r:Rel T μ H σ)(n:Nat)(hu:A.units+n+1<cLine){x y:D}{v w:V}{v' w':Value}{b:Bool}(hx:Rep T μ H x v)(hy:Rep T μ H y w)(rv:yk1 v v')(rw':yk1 w w')(h:eqD σ n x y=some b):zxu A s v' w' b:=by
 cases n with
 |zero=>exact rcK I r (by omega) (fun _ _ _ _ _ _ _ _ _ _ _ z=>by cases z) hx hy rv rw' h
 |succ n=>exact rcK I r (by omega) (fun x y v w v' w' b a1 a2 a3 a4 a5=>zy4 I r n A.in1 x y v w v' w' b (by show A.units+1+n+1<cLine;omega) a1 a2 a3 a4 a5) hx hy rv rw' h
end
section
variable{T:Tb}{X:Cx}{pins:List (Addr × Obj)}{st:St}{μ:List Addr}{H:Hp}{s:Shared}{σ:Sto}
def oEq(x y:D):M D:=fun σ=>match eqD σ 8 x y with
 |some b=>.ok (.bl b) σ
 |none=>.bad
def oNe(x y:D):M D:=fun σ=>match eqD σ 8 x y with
 |some b=>.ok (.bl (!b)) σ
 |none=>.bad
theorem yb8(hu:X.A.units+9<cLine):OpR X (compareOp .Eq) (rD T oEq):=by
 intro pins s st H v u v' u' Q I rv ru h;obtain⟨E,μ,σ,x,y,r,hx,hy,hp⟩:=h;unfold oEq at hp;cases e:eqD σ 8 x y with
 |none=>rw[e]at hp;exact hp.elim
 |some b=>
  rw[e]at hp;have:=(rcD I r 8 (by omega) hx hy rv ru e).1 X.prog X.w X.xe (EP X pins st Q) ⟨.bl b,H,I,rfl,yky.here hp r (by rw[Rep])⟩;exact this
theorem yce(hu:X.A.units+9<cLine):OpR X (compareOp .NotEq) (rD T oNe):=by
 intro pins s st H v u v' u' Q I rv ru h;obtain⟨E,μ,σ,x,y,r,hx,hy,hp⟩:=h;unfold oNe at hp;cases e:eqD σ 8 x y with
 |none=>rw[e]at hp;exact hp.elim
 |some b=>
  rw[e]at hp;have:=(rcD I r 8 (by omega) hx hy rv ru e).2 X.prog X.w X.xe (EP X pins st Q) ⟨.bl (!b),H,I,rfl,yky.here hp r (by rw[Rep])⟩;exact this
def ynk(x y:D):M D:=fun σ=>match y with
 | .non=>(match x with
  | .non=>.ok (.bl true) σ
  |_=>.ok (.bl false) σ)
 |_=>.bad
def yh6(x y:D):M D:=fun σ=>match y with
 | .non=>(match x with
  | .non=>.ok (.bl false) σ
  |_=>.ok (.bl true) σ)
 |_=>.bad
theorem zt2{x:D}{v:V}(h:Rep T μ H x v):decide (v=.non)=(match x with | .non=>true|_=>false):=by
 cases x with
 |non=>rw[Rep]at h;subst h;rfl
 |tup ds=>rw[Rep]at h;obtain⟨p,_,rfl,_⟩:=h;simp
 |scr ds=>rw[Rep]at h;obtain⟨p,rfl,_⟩:=h;simp
 |ref ds=>rw[Rep]at h;obtain⟨p,rfl,_⟩:=h;simp
 |lst ds=>rw[Rep]at h;obtain⟨p,_,rfl,_⟩:=h;simp
 |dic ks ds=>rw[Rep]at h;obtain⟨p,_,rfl,_⟩:=h;simp
 |obj c ks ds=>rw[Rep]at h;obtain⟨p,_,_,rfl,_⟩:=h;simp
 |exn c=>rw[Rep]at h;obtain⟨p,_,rfl,_⟩:=h;simp
 |gt ds=>rw[Rep]at h;obtain⟨p,rfl,_⟩:=h;simp
 |_=>rw[Rep]at h;subst h;simp
theorem zwq:ye6 T (fun x y H Q=>y=.non/\Q (.bl (decide (x=.non))) H) ynk:=by
 intro E μ H σ x y v u Q r p q h;cases y with
 |non=>
  refine⟨by rw[Rep]at q;exact q,?_⟩;rw[zt2 p];cases x<;>exact yky.here h r (by rw[Rep])
 |_=>exact h.elim
theorem zot:ye6 T (fun x y H Q=>y=.non/\Q (.bl (!decide (x=.non))) H) yh6:=by
 intro E μ H σ x y v u Q r p q h;cases y with
 |non=>
  refine⟨by rw[Rep]at q;exact q,?_⟩;rw[zt2 p];cases x<;>exact yky.here h r (by rw[Rep]<;>rfl)
 |_=>exact h.elim
theorem zpu{ds:List D}{vs:List V}{k:Int}{d:D}(r:yk4 T μ H ds vs)(h:atI ds k=some d):∃ v,atI vs k=some v/\Rep T μ H d v:=by
 unfold atI at h ⊢;rw[<-r.length];cases e:ixN ds.length k with
 |none=>rw[e]at h;cases h
 |some j=>rw[e]at h;exact r.get h
theorem zim:∀ (ns:List Int),yk4 T μ H (ns.map D.int) (ns.map V.int)
 |[]=>yk4.nil
 |n::ns=>yk4.cons (by rw[Rep]) (zim ns)
def yi9(σ:Sto):D->Option (List D)
 | .tup xs=>some xs
 | .scr ns=>some (ns.map D.int)
 | .ref n=>yhf σ n
 | .lst xs=>some xs
 | .gt ss=>some (ss.map D.str)
 |_=>none
def oIx(x i:D):M D:=fun σ=>match i with
 | .int k=>(match yi9 σ x with
  |some xs=>(match atI xs k with
   |some d=>.ok d σ
   |none=>.bad)
  |none=>.bad)
 |_=>.bad
theorem zin:∀ (ss:List Str),yk4 T μ H (ss.map D.str) (ss.map V.str)
 |[]=>yk4.nil
 |n::ns=>yk4.cons (by rw[Rep]) (zin ns)
theorem zwf(r:Rel T μ H σ){x:D}{v:V}{xs:List D}(h:Rep T μ H x v)(e:yi9 σ x=some xs):∃ p vs,v=.ref p/\yk4 T μ H xs vs/\(SqL T.K H p vs\/SqT T.K H p vs):=by
 cases x with
 |tup ds=>cases e;rw[Rep]at h;obtain⟨p,vs,rfl,h1,h2⟩:=h;exact⟨p,vs,rfl,h2,.inr (SqT.of h1)⟩
 |scr ns=>cases e;rw[Rep]at h;obtain⟨p,rfl,h1⟩:=h;exact⟨p,_,rfl,zim ns,.inl h1.seq⟩
 |ref n=>obtain⟨a,vs,rfl,_,h1,h2⟩:=r.lst h e;exact⟨a,vs,rfl,h2,.inl (SqL.of h1)⟩
 |lst ds=>cases e;rw[Rep]at h;obtain⟨p,vs,rfl,_,h1,h2⟩:=h;exact⟨p,vs,rfl,h2,.inl (SqL.of h1)⟩
 |gt ss=>cases e;rw[Rep]at h;obtain⟨p,rfl,h1⟩:=h;exact⟨p,_,rfl,zin ss,.inr (.inr h1)⟩
 |_=>cases e
theorem yd1(hK:T.K=X.K):ye6 T (fun x y H Q=>yn5 X.K x y H Q\/yn6 X.K x y H Q) oIx:=by
 intro E μ H σ x y v u Q r p q h;cases y with
 |int k=>
  unfold oIx at h;cases e:yi9 σ x with
  |none=>simp only[e]at h;exact h.elim
  |some xs=>
   simp only[e]at h;cases e2:atI xs k with
   |none=>rw[e2]at h;exact h.elim
   |some d=>
    rw[e2]at h;obtain⟨a,vs,rfl,h1,h2⟩:=zwf r p e;obtain⟨w,h3,h4⟩:=zpu h1 e2;rw[hK]at h2;rcases h2 with h2|h2
    ·exact .inl ⟨a,vs,k,w,rfl,yan q,h2,h3,yky.here h r h4⟩
    ·exact .inr ⟨a,vs,k,w,rfl,yan q,h2,h3,yky.here h r h4⟩
 |_=>exact h.elim
theorem ymw:IxR X (fun x y H Q=>yn5 X.K x y H Q\/yn6 X.K x y H Q):=zsz.or yas
def isF(d:D):Bool:=(sc d).isSome
def eqF(x y:D):Bool:=match sc x,sc y with
 |some a,some b=>eqV a b
 |_,_=>false
def oIn(neg:Bool)(x y:D):M D:=fun σ=>match yi9 σ y with
 |some xs=>if (isF x && xs.all isF)=true then .ok (.bl (if neg then !(xs.any fun z=>eqF z x)else xs.any fun z=>eqF z x)) σ else .bad
 |none=>.bad
theorem zla:∀ {ds:List D} {vs:List V},yk4 T μ H ds vs->ds.all isF=true->vs.all ygf=true
 |[],vs,h,_=>by rw[yk4]at h;subst h;rfl
 |d::ds,vs,h,e=>by
  rw[yk4]at h;obtain⟨v,r,rfl,h1,h2⟩:=h;rw[List.all_cons,Bool.and_eq_true]at e ⊢;obtain⟨a,ea⟩:=Option.isSome_iff_exists.mp e.1;exact⟨by rw[ydr h1 ea];exact zv9 ea,zla h2 e.2⟩
theorem zpn{x:D}{a:V}(ex:sc x=some a):∀ {ds:List D} {vs:List V},yk4 T μ H ds vs->ds.all isF=true->(ds.any fun z=>eqF z x)=vs.any fun y=>eqV y a
 |[],vs,h,_=>by rw[yk4]at h;subst h;rfl
 |d::ds,vs,h,e=>by
  rw[yk4]at h;obtain⟨v,r,rfl,h1,h2⟩:=h;rw[List.all_cons,Bool.and_eq_true]at e;obtain⟨c,ec⟩:=Option.isSome_iff_exists.mp e.1;rw[List.any_cons,List.any_cons,zpn ex h2 e.2];have:eqF d x=eqV v a:=by unfold eqF;rw[ec,ex,ydr h1 ec]
  rw[this]
theorem yd0(hK:T.K=X.K)(neg:Bool):ye6 T (rIn X.K neg) (oIn neg):=by
 intro E μ H σ x y v u Q r p q h;unfold oIn at h;cases e:yi9 σ y with
 |none=>rw[e]at h;exact h.elim
 |some xs=>
  rw[e]at h;by_cases hc:(isF x && xs.all isF)=true
  ·simp only[hc,if_true]at h;rw[Bool.and_eq_true]at hc;obtain⟨a,ea⟩:=Option.isSome_iff_exists.mp hc.1;obtain⟨b,vs,rfl,h1,h2⟩:=zwf r q e;rw[hK]at h2;refine⟨b,vs,rfl,h2,by rw[ydr p ea];exact zv9 ea,zla h1 hc.2,?_⟩;have e3:inV v vs=xs.any fun z=>eqF z x:=by unfold inV;rw[zpn ea h1 hc.2,ydr p ea]
   rw[e3];exact yky.here h r (by rw[Rep])
  ·simp only[hc]at h;exact h.elim
def ynm(xs:List D):M D:=fun σ=>match xs with
 |[x]=>(match yi9 σ x with
  |some ys=>.ok (.int ys.length) σ
  |none=>.bad)
 |_=>.bad
theorem zwr(hK:T.K=X.K):zpj T (fun xs H Q=>∃ p ys,xs=[.ref p]/\(SqL X.K H p ys\/SqT X.K H p ys)/\Q (.int ys.length) H) ynm:=by
 intro E μ H σ xs vs Q r p h
 match xs with
 |[]=>exact h.elim
 |[x]=>
  rw[yk4]at p;obtain⟨v,w,rfl,p1,p2⟩:=p;rw[yk4]at p2;subst p2;unfold ynm at h;cases e:yi9 σ x with
  |none=>simp only[e]at h;exact h.elim
  |some ys=>
   simp only[e]at h;obtain⟨b,vs,rfl,h1,h2⟩:=zwf r p1 e;rw[hK]at h2;exact⟨b,vs,rfl,h2,by rw[<-h1.length];exact yky.here h r (by rw[Rep])⟩
 |_::_::_=>exact h.elim
def yh4(xs:List D):M D:=fun σ=>match xs with
 |[x]=>(match yi9 σ x with
  |some ys=>yho ys σ
  |none=>.bad)
 |_=>.bad
theorem zor(hK:T.K=X.K):zpj T (fun xs H Q=>∃ p ys,xs=[.ref p]/\(SqL X.K H p ys\/SqT X.K H p ys)/\∀ l,H l=none->Q (.ref l) (upd H l (.lst ys))) yh4:=by
 intro E μ H σ xs vs Q r p h
 match xs with
 |[]=>exact h.elim
 |[x]=>
  rw[yk4]at p;obtain⟨v,w,rfl,p1,p2⟩:=p;rw[yk4]at p2;subst p2;unfold yh4 at h;cases e:yi9 σ x with
  |none=>simp only[e]at h;exact h.elim
  |some ys=>
   simp only[e]at h;obtain⟨b,vs,rfl,h1,h2⟩:=zwf r p1 e;rw[hK]at h2;exact⟨b,vs,rfl,h2,fun l hl=>zt0 h r h1 hl⟩
 |_::_::_=>exact h.elim
def ymv:D->Bool
 | .gt _=>true
 |_=>false
def ybw(xs:List D):M D:=fun σ=>match xs with
 |[x]=>(match yi9 σ x with
  |some ys=>if ymv x=true then .bad else .ok (.tup ys) σ
  |none=>.bad)
 |_=>.bad
theorem zi1(hK:T.K=X.K):zpj T (fun xs H Q=>∃ p ys,xs=[.ref p]/\((SqL X.K H p ys/\∀ l,H l=none->Q (.ref l) (upd H l (.tup ys)))\/(SqT X.K H p ys/\Q (.ref p) H))) ybw:=by
 intro E μ H σ xs vs Q r p h
 match xs with
 |[]=>exact h.elim
 |[x]=>
  rw[yk4]at p;obtain⟨v,w,rfl,p1,p2⟩:=p;rw[yk4]at p2;subst p2;have h:yky T E (Rep T) μ H (match yi9 σ x with|some ys=>if ymv x=true then .bad else .ok (.tup ys) σ|none=>.bad) Q:=h;cases e:yi9 σ x with
  |none=>simp only[e]at h;exact h.elim
  |some ys=>
   simp only[e]at h;cases x with
   |gt ss=>exact h.elim
   |tup ds=>
    cases e;have p0:=p1;rw[Rep]at p1;obtain⟨b,vs,rfl,h1,h2⟩:=p1;exact⟨b,vs,rfl,.inr ⟨SqT.of h1,yky.here h r p0⟩⟩
   |scr ns=>
    cases e;rw[Rep]at p1;obtain⟨b,rfl,h1⟩:=p1;exact⟨b,_,rfl,.inl ⟨by rw[<-hK];exact h1.seq,fun l hl=>zt1 h r (zim ns) hl⟩⟩
   |ref n=>
    obtain⟨a,vs,rfl,_,h1,h2⟩:=r.lst p1 e;exact⟨a,vs,rfl,.inl ⟨SqL.of h1,fun l hl=>zt1 h r h2 hl⟩⟩
   |lst ds=>
    cases e;rw[Rep]at p1;obtain⟨b,vs,rfl,_,h1,h2⟩:=p1;exact⟨b,vs,rfl,.inl ⟨SqL.of h1,fun l hl=>zt1 h r h2 hl⟩⟩
   |_=>cases e
 |_::_::_=>exact h.elim
end
def yfx(o:List D->M D)(fs:Ev->M (List D)):Ev->M D:=fun ρ=>bnd (fs ρ) o
section
variable{T:Tb}{X:Cx}{x:Str}{p pos:Pos}{e:Expr}{es:List Expr}{fs:Ev->M (List D)}{id ty:String}{r:List V->Hp->VK->Prop}{o:List D->M D}
theorem yfj(hs:zpj T r o){st:St}{H:Hp}{Q:VK}(h:tF T X (yfx o fs) st H Q):tCB r (tL T X fs) st H Q:=by
 obtain⟨μ,ρ,σ,he,hr,hp⟩:=h;exact⟨μ,ρ,σ,he,hr,hp.bind fun ds σ1 μ1 vs H1 _ e1 r1 p1 q1=>hs _ μ1 H1 σ1 ds vs Q r1 p1 q1⟩
theorem zkx(hc:yew X (.builtin id) r)(hs:zpj T r o)(hg:Gl X x)(hm:X.mg x=none)(hv:bootBuiltins x=some (.builtin id))(ha:FA T X (e::es) fs)(hn:x ≠ "__name__":=by decide)(hdb:(x == ("__debug__" : Str))=false:=by decide)
  (he:starEach (e::es) X.env=(false,eval e X.env)::starEach es X.env:=by rfl) (hpl:(backTo pos (starEach es X.env)).any (·.1)=false:=by rfl):FE T X (.Call (.Name x p) (e::es) [] pos) (yfx o fs):=
 fun pins s st H Q I h=>zng hc hg hm hv ha hn hdb he hpl pins s st H Q I (yfj hs h)
theorem zg8(hc:yew X (.type ty) r)(hs:zpj T r o)(hg:Gl X x)(hm:X.mg x=none)(hv:bootBuiltins x=some (.type ty))(ha:FA T X (e::es) fs)(hn:x ≠ "__name__":=by decide)(hdb:(x == ("__debug__" : Str))=false:=by decide)
  (he:starEach (e::es) X.env=(false,eval e X.env)::starEach es X.env:=by rfl) (hpl:(backTo pos (starEach es X.env)).any (·.1)=false:=by rfl):FE T X (.Call (.Name x p) (e::es) [] pos) (yfx o fs):=
 fun pins s st H Q I h=>zig hc hg hm hv ha hn hdb he hpl pins s st H Q I (yfj hs h)
end
def ym3(σ:Sto):D->Option (List D)
 | .ref n=>yhf σ n
 | .lst xs=>some xs
 |_=>none
theorem Rel.ls{T:Tb}{μ:List Addr}{H:Hp}{σ:Sto}(r:Rel T μ H σ){x:D}{v:V}{xs:List D}(h:Rep T μ H x v)(e:ym3 σ x=some xs):∃ a vs,v=.ref a/\H a=some (.lst vs)/\yk4 T μ H xs vs:=by
 cases x with
 |ref n=>obtain⟨a,vs,h1,_,h2,h3⟩:=r.lst h e;exact⟨a,vs,h1,h2,h3⟩
 |lst ys=>cases e;rw[Rep]at h;obtain⟨a,vs,h1,_,h2,h3⟩:=h;exact⟨a,vs,h1,h2,h3⟩
 |_=>cases e
def yhm(o:D->List D->M D)(m:M (List D))(x:D):M D:=fun σ=>match ym3 σ x with
 |some _=>bnd m (o x) σ
 |none=>.bad
def yf1(o:D->List D->M D)(f:Ev->M D)(fs:Ev->M (List D)):Ev->M D:=fun ρ=>bnd (f ρ) (yhm o (fs ρ))
def ye5(T:Tb)(r:V->List V->Hp->VK->Prop)(o:D->List D->M D):Prop:=∀ (E:XK) μ H σ x xs v vs Q,Rel T μ H σ->Rep T μ H x v->yk4 T μ H xs vs->yky T E (Rep T) μ H (o x xs σ) Q->r v vs H Q
def zt5(x:D)(xs:List D):M D:=fun σ=>match x,xs with
 | .ref n,[y]=>(match yhf σ n with
  |some ys=>if ys.length<cap then .ok .non (σ.set n (.lst (ys++[y])))else .bad
  |none=>.bad)
 |_,_=>.bad
section
variable{T:Tb}{X:Cx}{o e:Expr}{es:List Expr}{f:Ev->M D}{fs:Ev->M (List D)}{name:Str}{apos cpos:Pos}{id:String}{r:V->List V->Hp->VK->Prop}{g:D->List D->M D}
theorem zre(pa:PlainAttrs "list")(slot:Slot "list" name id)(hty:typeOf (.builtin id)=pure (.type "method_descriptor"))(hm:MtR X id r)(hs:ye5 T r g)(ho:FE T X o f)(ha:FA T X (e::es) fs)
  (hbase:attributeBase o name X.env (eval o X.env)=eval o X.env:=by rfl)
  (hfew:((backTo cpos (starEach (e::es) X.env)).all (fun x=>!x.1) && (backToKw cpos (keywordEach [] X.env)).all (fun x=>x.1.isSome)
   && decide ((e::es).length+([]:List Keyword).length+(if ([]:List Keyword).isEmpty then 0 else 1)<30))=true:=by rfl)
  (hline:(apos.endLine == cpos.line)=true:=by rfl) (hst:starEach (e::es) X.env=(false,eval e X.env)::starEach es X.env:=by rfl) (hplain:(backTo cpos (starEach es X.env)).any (·.1)=false:=by rfl) :
  FE T X (.Call (.Attribute o name apos) (e::es) [] cpos) (yf1 g f fs):=by
 intro pins s st H Q I h;refine yig pa slot hty hm ho ha hbase hfew hline hst hplain pins s st H Q I ?_;obtain⟨μ,ρ,σ,he,hr,hp⟩:=h;refine⟨μ,ρ,σ,he,hr,hp.bind fun x σ1 μ1 v H1 _ e1 r1 p1 q1=>?_⟩;unfold yhm at q1;cases el:ym3 σ1 x with
 |none=>rw[el]at q1;exact q1.elim
 |some xs=>
  rw[el]at q1;obtain⟨a,vs,rfl,h1,h2⟩:=r1.ls p1 el;refine⟨.inl ⟨rfl,vs,SqL.of h1⟩,μ1,ρ,σ1,he.mono e1,r1,q1.bind fun ds σ2 μ2 ws H2 _ e2 r2 p2 q2=>?_⟩;exact hs _ μ2 H2 σ2 x ds (.ref a) ws Q r2 (Rep.mono e2 _ _ p1) p2 q2
theorem zf6:ye5 T zvi zt5:=by
 intro E μ H σ x xs v vs Q r p q h;cases x with
 |ref n=>
  match xs with
  |[]=>exact h.elim
  |[y]=>
   rw[yk4]at q;obtain⟨w,z,rfl,q1,q2⟩:=q;rw[yk4]at q2;subst q2;unfold zt5 at h;cases el:yhf σ n with
   |none=>simp only[el]at h;exact h.elim
   |some ys=>
    simp only[el]at h;by_cases hc:ys.length<cap
    ·rw[if_pos hc]at h;obtain⟨a,vs,rfl,hn,h1,h2⟩:=r.lst p el;have wr:=r.write (o:=.lst (vs++[w])) (ob:=.lst (ys++[y])) hn ⟨_,zo8,by
      have ex:Ext μ H μ (upd H a (.lst (vs++[w]))):=zg7 (List.mem_of_getElem? hn) h1 (fun _ z=>by cases z) (fun _ _ z=>by cases z);exact yk4.append (yk4.mono ex _ _ h2) (yk4.cons (Rep.mono ex _ _ q1) yk4.nil)⟩
     exact⟨a,vs,w,rfl,rfl,h1,by rw[<-h2.length];exact zx9 hc,h _ _ _ wr.1 wr.2 (by rw[Rep])⟩
    ·rw[if_neg hc]at h;exact h.elim
  |_::_::_=>exact h.elim
 |_=>exact h.elim
end
inductive BT where
 |int|bool|str|tuple|list|dict
def BT.nm:BT->String
 | .int=>"int" | .bool=>"bool" | .str=>"str" | .tuple=>"tuple" | .list=>"list" | .dict=>"dict"
def ymu(σ:Sto)(c:BT):D->Option Bool
 | .non=>some false
 | .bl _=>some (match c with | .int=>true | .bool=>true|_=>false)
 | .int _=>some (match c with | .int=>true|_=>false)
 | .str _=>some (match c with | .str=>true|_=>false)
 | .tup _=>some (match c with | .tuple=>true|_=>false)
 | .scr _=>none
 | .lst _=>some (match c with | .list=>true|_=>false)
 | .dic _ _=>some (match c with | .dict=>true|_=>false)
 | .obj _ _ _=>none
 | .exn _=>none
 | .gt _=>none
 | .ref n=>match σ[n]? with
  |some (.lst _)=>some (match c with | .list=>true|_=>false)
  |some (.dic _)=>some (match c with | .dict=>true|_=>false)
  |_=>none
def ynj(c:BT)(x:D):M D:=fun σ=>match ymu σ c x with
 |some b=>.ok (.bl b) σ
 |none=>.bad
section
variable{T:Tb}{X:Cx}
def TyR(K:PySem.W.Frag)(H:Hp)(x:V)(t:Value):Prop:=TyOf K H x t\/∃ a kvs,x=.ref a/\Rd H a (.dK kvs)/\t=.type "dict"
def yn4(K:PySem.W.Frag)(c:String):List V->Hp->VK->Prop:=fun xs H Q=>∃ x t b,xs=[x,.ty c]/\TyR K H x t/\PySem.W.kitOne K t (.type c)=some b/\Q (.bl b) H
theorem zjz(c:String):yew X (.builtin "isinstance") (yn4 X.K c):=by
 intro pins s st H xs us Q I r h;obtain⟨x,t,b,rfl,ty,e,q⟩:=h;obtain⟨u,u2,rfl,ru,ru2⟩:=yka r;cases ru2;rcases ty with ty|⟨a,kvs,rfl,rd,rfl⟩
 ·exact zhm I ru ty e fun tk=>⟨.bl b,H,I.tok _,rfl,q⟩
 ·cases (show u=Value.ref a from ru);obtain⟨_,_,vs,_,p⟩:=(show ye1 X.prog X.w H s.heap a (.dK kvs)from rd.ok I.hok)
  obtain⟨o,es,ep,h1,h2,_⟩:=p;exact PySem.W.kia_one PySem.W.kitx_dict I.kIn ⟨o,h1,h2.1⟩ e (fun z=>nomatch z) fun tk=>⟨.bl b,H,I.tok _,rfl,q⟩
theorem yj7{μ:List Addr}{H:Hp}{σ:Sto}{x:D}{v:V}{c:BT}{b:Bool}(r:Rel T μ H σ)(p:Rep T μ H x v)(h:ymu σ c x=some b):∃ t,TyR X.K H v t/\PySem.W.kitOne X.K t (.type c.nm)=some b:=by
 cases x with
 |non=>rw[Rep]at p;subst p;refine⟨_,.inl (.non),?_⟩;cases c<;>cases h<;>rfl
 |bl i=>rw[Rep]at p;subst p;refine⟨_,.inl (.bl i),?_⟩;cases c<;>cases h<;>rfl
 |int i=>rw[Rep]at p;subst p;refine⟨_,.inl (.int i),?_⟩;cases c<;>cases h<;>rfl
 |str i=>rw[Rep]at p;subst p;refine⟨_,.inl (.str i),?_⟩;cases c<;>cases h<;>rfl
 |tup ds=>rw[Rep]at p;obtain⟨q,vs,rfl,h1,_⟩:=p;refine⟨_,.inl (.tup h1),?_⟩;cases c<;>cases h<;>rfl
 |scr ns=>cases h
 |lst ds=>rw[Rep]at p;obtain⟨q,vs,rfl,_,h1,_⟩:=p;refine⟨_,.inl (.lst h1),?_⟩;cases c<;>cases h<;>rfl
 |dic ks ds=>rw[Rep]at p;obtain⟨q,vs,rfl,_,h1,_⟩:=p;refine⟨_,.inr ⟨q,_,rfl,h1,rfl⟩,?_⟩;cases c<;>cases h<;>rfl
 |obj c' ks ds=>cases h
 |exn c'=>cases h
 |gt ss=>cases h
 |ref n=>
  unfold ymu at h;dsimp only at h;cases e:σ[n]? with
  |none=>rw[e]at h;cases h
  |some o=>
   rw[e]at h;obtain⟨a,rfl,_,h2⟩:=r.at p e;cases o with
   |lst xs=>obtain⟨vs,h3,_⟩:=h2;refine⟨_,.inl (.lst h3),?_⟩;cases c<;>cases h<;>rfl
   |dic xs=>obtain⟨vs,h3,_⟩:=h2;refine⟨_,.inl (.dK h3),?_⟩;cases c<;>cases h<;>rfl
   |ins c' fs=>cases h
   |fdic xs=>cases h
theorem zzf(c:BT){tn:Str}{e:Expr}{f:Ev->M D}{p p2 pos:Pos}(he:FE T X e f)(hg:Gl X "isinstance")(hm:X.mg "isinstance" = none)(hg2:Gl X tn)(hm2:X.mg tn=none)(hv2:bootBuiltins tn=some (.type c.nm))(hn2:tn ≠ "__name__":=by decide)(hd2:(tn == ("__debug__" : Str))=false:=by decide)
  (hs:starEach [e,.Name tn p2] X.env=(false,eval e X.env)::starEach [.Name tn p2] X.env:=by rfl) (hpl:(backTo pos (starEach [.Name tn p2] X.env)).any (·.1)=false:=by rfl) :
  FE T X (.Call (.Name "isinstance" p) [e,.Name tn p2] [] pos) (eUn (ynj c) f):=by
 intro pins s st H Q I h;refine zng (zjz c.nm) hg hm boot_isinstance (zur he (zur (zut hg2 hm2 hv2 (v:=.ty c.nm) rfl hn2 hd2) yci) hs) (by decide) (by decide) hs hpl pins s st H Q I ?_;obtain⟨μ,ρ,σ,hE,hr,hp⟩:=h;refine⟨μ,ρ,σ,hE,hr,hp.bind fun x σ1 μ1 v H1 _ e1 r1 p1 q1=>?_⟩;unfold ynj at q1;cases eb:ymu σ1 c x with
 |none=>rw[eb]at q1;exact q1.elim
 |some b=>
  rw[eb]at q1;obtain⟨t,h1,h2⟩:=yj7 (X:=X) r1 p1 eb;exact⟨v,t,b,rfl,h1,h2,yky.here q1 r1 (by rw[Rep])⟩
end
def yol:Ev->M Fl:=fun ρ=>ret (.nx ρ)
def yor(h:Ev->M Fl):Fl->M Fl
 | .nx ρ'=>h ρ'
 | .rt d=>ret (.rt d)
 | .bk ρ'=>ret (.bk ρ')
 | .ct ρ'=>ret (.ct ρ')
 | .xc ρ' x=>ret (.xc ρ' x)
def yoo(g h:Ev->M Fl):Ev->M Fl:=fun ρ=>bnd (g ρ) (yor h)
def yob:D->M Fl:=fun d=>ret (.rt d)
def yon(f:Ev->M D):Ev->M Fl:=fun ρ=>xs ρ (f ρ) yob
def ymc(ρ:Ev):D->M Fl:=fun _=>ret (.nx ρ)
def yoi(f:Ev->M D):Ev->M Fl:=fun ρ=>xs ρ (f ρ) (ymc ρ)
def yos(i:Nat)(ρ:Ev):D->M Fl:=fun d=>ret (.nx (ρ.set i (some d)))
def yop(i:Nat)(f:Ev->M D):Ev->M Fl:=fun ρ=>xs ρ (f ρ) (yos i ρ)
def sIf(t:Ev->M Bool)(a b:Ev->M Fl):Ev->M Fl:=fun ρ=>xs ρ (t ρ) (ifK (a ρ) (b ρ))
section
variable{T:Tb}{X:Cx}{st':Stmt}{rest:List Stmt}{g h:Ev->M Fl}{e:Expr}{f:Ev->M D}{pos:Pos}
theorem zr5:FSs T X [] yol:=by
 intro pins s st H D I hw;obtain⟨μ,ρ,σ,hE,hr,hp⟩:=hw;exact zvb pins s st H D I (yky.here (g:=Gl2.nx st) hp hr hE)
theorem zwe{μ:List Addr}{H:Hp}{σ:Sto}{fl:Fl}{gl:Gl2}{D:Ends}{N:St->Hp->Prop}(r:Rel T μ H σ)(q:RFl T μ H fl gl)(k:Fl->M Fl)
  (hn:∀ ρ,fl=.nx ρ->∀ st,gl=.nx st->ykl T μ H ρ st->N st H) (ho:(∀ ρ,fl≠.nx ρ)->yky T EN (RFl T) μ H (.ok fl σ) (ykm X D)):ykm X { D with nx:=N } gl H:=by
 cases fl with
 |nx ρ=>cases gl with
  |nx st=>exact hn ρ rfl st rfl q
  |_=>exact q.elim
 |rt d=>cases gl with
  |rt v=>have z:=yky.here (g:=Gl2.rt v) (ho fun _ z=>by cases z) r q;exact z
  |_=>exact q.elim
 |bk ρ=>cases gl with
  |bk v=>have z:=yky.here (g:=Gl2.bk v) (ho fun _ z=>by cases z) r q;exact z
  |_=>exact q.elim
 |ct ρ=>cases gl with
  |ct v=>have z:=yky.here (g:=Gl2.ct v) (ho fun _ z=>by cases z) r q;exact z
  |_=>exact q.elim
 |xc ρ x=>cases gl with
  |xc v c fd=>have z:=yky.here (g:=Gl2.xc v c fd) (ho fun _ z=>by cases z) r q;exact z
  |_=>exact q.elim
theorem zlq(h1:FS T X st' g)(h2:FSs T X rest h):FSs T X (st'::rest) (yoo g h):=by
 intro pins s st H D I hw;refine znp h1 h2 pins s st H D I ?_;obtain⟨μ,ρ,σ,hE,hr,hp⟩:=hw;refine⟨μ,ρ,σ,hE,hr,hp.bind fun fl σ1 μ1 gl H1 _ e1 r1 q1 p1=>?_⟩;refine zwe (X:=X) r1 q1 (fun _=>bad) (fun ρ' ef st1 eg he=>?_) (fun hn=>?_)
 ·subst ef;exact⟨μ1,ρ',σ1,he,r1,p1⟩
 ·cases fl with
  |nx ρ'=>exact(hn ρ' rfl).elim
  |_=>exact p1
theorem zr6(h1:FS T X st' g):FSs T X [st'] g:=zvc h1
theorem zz3(he:FE T X e f):FS T X (.Return (some e) pos) (yon f):=by
 intro pins s st H D I hw;refine yc7 he pins s st H D I ?_;obtain⟨μ,ρ,σ,hE,hr,hp⟩:=hw;exact⟨μ,ρ,σ,hE,hr,hp.xs hE fun d σ1 μ1 v H1 _ e1 r1 q1 p1=>yky.here (g:=Gl2.rt v) p1 r1 q1⟩
theorem zr0(he:FE T X e f)(hs:swapsWith e none pos.line X.env=pure false:=by rfl):FS T X (.Expr e pos) (yoi f):=by
 intro pins s st H D I hw;refine zva he hs pins s st H D I ?_;obtain⟨μ,ρ,σ,hE,hr,hp⟩:=hw;exact⟨μ,ρ,σ,hE,hr,hp.xs hE fun d σ1 μ1 v H1 _ e1 r1 q1 p1=>yky.here (g:=Gl2.nx st) p1 r1 (hE.mono e1)⟩
theorem zz4{i:Nat}{x:Str}{pos':Pos}(hN:X.N.Nodup)(hi:X.N[i]?=some x)(hx:Loc X.env.scope x)(he:FE T X e f)(hs:swapsWith e (some (.Name x pos')) pos.line X.env=pure false:=by rfl)(hf:X.fn x=true\/X.env.scope.names.lookup x=some .local:=by first|exact .inl rfl|exact .inr rfl|assumption) :
  FS T X (.Assign [.Name x pos'] e pos) (yop i f):=by
 intro pins s st H D I hw;refine yc8 hN hi hx he hs hf pins s st H D I ?_;obtain⟨μ,ρ,σ,hE,hr,hp⟩:=hw;exact⟨μ,ρ,σ,hE,hr,hp.xs hE fun d σ1 μ1 v H1 _ e1 r1 q1 p1=>yky.here (g:=Gl2.nx (st.set i (some v))) p1 r1 ((hE.mono e1).set i q1)⟩
theorem ygn{c:Expr}{a b:List Stmt}{tc:Ev->M Bool}{ga gb:Ev->M Fl}(hc:FT T X c tc)(ha:FSs T X a ga)(hb:FSs T X b gb):FS T X (.If c a b pos) (sIf tc ga gb):=by
 intro pins s st H D I hw;refine yim hc ha hb pins s st H D I ?_;obtain⟨μ,ρ,σ,hE,hr,hp⟩:=hw;refine⟨μ,ρ,σ,hE,hr,hp.xs hE fun c σ1 μ1 v H1 _ e1 r1 q1 p1=>?_⟩;cases q1;cases c with
 |true=>unfold ifK at p1;rw[if_pos rfl]at p1 ⊢;exact⟨μ1,ρ,σ1,hE.mono e1,r1,p1⟩
 |false=>unfold ifK at p1;rw[if_neg Bool.false_ne_true]at p1 ⊢;exact⟨μ1,ρ,σ1,hE.mono e1,r1,p1⟩
def gD(T:Tb)(tg:D->Ev->Option Ev):TG:=fun v st H Q=>∃ μ σ ρ d ρ',ykl T μ H ρ st/\Rel T μ H σ/\Rep T μ H d v/\tg d ρ=some ρ'/\∀ st',ykl T μ H ρ' st'->Q st' H
def gsD(T:Tb)(tg:List D->Ev->Option Ev):TGs:=fun vs st H Q=>∃ μ σ ρ ds ρ',ykl T μ H ρ st/\Rel T μ H σ/\yk4 T μ H ds vs/\tg ds ρ=some ρ'/\∀ st',ykl T μ H ρ' st'->Q st' H
abbrev FG(T:Tb)(X:Cx)(t:Expr)(tg:D->Ev->Option Ev):Prop:=PG X t (gD T tg)
abbrev FGs(T:Tb)(X:Cx)(ts:List Expr)(tg:List D->Ev->Option Ev):Prop:=PGs X ts (gsD T tg)
def tgN(i:Nat):D->Ev->Option Ev:=fun d ρ=>some (ρ.set i (some d))
def yj2:List D->Ev->Option Ev
 |[],ρ=>some ρ
 |_::_,_=>none
def yed(t:D->Ev->Option Ev)(u:List D->Ev->Option Ev):List D->Ev->Option Ev
 |[],_=>none
 |d::ds,ρ=>(t d ρ).bind fun ρ'=>u ds ρ'
def tgT(n:Nat)(t:List D->Ev->Option Ev):D->Ev->Option Ev
 | .tup ds,ρ=>if ds.length=n then t ds ρ else none
 |_,_=>none
theorem zrh{i:Nat}{x:Str}(hN:X.N.Nodup)(hi:X.N[i]?=some x)(hx:Loc X.env.scope x)(hf:X.fn x=true\/X.env.scope.names.lookup x=some .local:=by first|exact .inl rfl|exact .inr rfl|assumption):FG T X (.Name x pos) (tgN i):=by
 intro pins s st H v u Q I r h;obtain⟨μ,σ,ρ,d,ρ',hE,hr,hd,ht,hq⟩:=h;cases ht;exact zuy hN hi hx hf pins s st H v u Q I r (hq _ (hE.set i hd))
theorem zri:FGs T X [] yj2:=by
 intro pins s st H vs us Q I r h;obtain⟨μ,σ,ρ,ds,ρ',hE,hr,hd,ht,hq⟩:=h;cases ds with
 |nil=>cases ht;rw[yk4]at hd;subst hd;exact zuz pins s st H [] us Q I r ⟨rfl,hq _ hE⟩
 |cons d ds=>cases ht
theorem zk3{es:List Expr}{t:D->Ev->Option Ev}{u:List D->Ev->Option Ev}(h1:FG T X e t)(h2:FGs T X es u)
  (hs:(assignEach (e::es) X.env).map (·.2)=assign e X.env::(assignEach es X.env).map (·.2):=by rfl):FGs T X (e::es) (yed t u):=by
 intro pins s st H vs us Q I r h;obtain⟨μ,σ,ρ,ds,ρ',hE,hr,hd,ht,hq⟩:=h;cases ds with
 |nil=>cases ht
 |cons d ds=>
  rw[yk4]at hd;obtain⟨v,w,rfl,hd1,hd2⟩:=hd;obtain⟨ρ1,e1,e2⟩:=Option.bind_eq_some_iff.mp ht;refine znk h1 h2 hs pins s st H (v::w) us Q I r ⟨v,w,rfl,μ,σ,ρ,d,ρ1,hE,hr,hd1,e1,fun st1 hE1=>?_⟩;exact⟨μ,σ,ρ1,ds,ρ',hE1,hr,hd2,e2,hq⟩
theorem zzo{es:List Expr}{k:Nat}{t:List D->Ev->Option Ev}{n:Nat}(hc:X.calm=true)(h:FGs T X es t)
  (hn:(assignEach es X.env).length=n:=by rfl) (hst:(assignEach es X.env).findIdx? (·.1)=none:=by rfl):FG T X (.Tuple es k pos) (tgT n t):=by
 intro pins s st H v u Q I r hw;obtain⟨μ,σ,ρ,d,ρ',hE,hr,hd,ht,hq⟩:=hw;cases d with
 |tup ds=>
  have hd0:=hd;rw[Rep]at hd;obtain⟨p,vs,rfl,h1,h2⟩:=hd;unfold tgT at ht;dsimp only at ht;by_cases hl:ds.length=n
  ·rw[if_pos hl]at ht;exact ycw hc h hn hst pins s st H (.ref p) u Q I r ⟨p,vs,rfl,SqT.of h1,by rw[<-h2.length];exact hl,μ,σ,ρ,ds,ρ',hE,hr,h2,ht,hq⟩
  ·rw[if_neg hl]at ht;cases ht
 |_=>cases ht
def ylj(tg:D->Ev->Option Ev)(ρ:Ev)(d:D):M Fl:=match tg d ρ with
 |some ρ'=>ret (.nx ρ')
 |none=>bad
def yog(f:Ev->M D)(tg:D->Ev->Option Ev):Ev->M Fl:=fun ρ=>xs ρ (f ρ) (ylj tg ρ)
theorem zzz{tg:Expr}{t:D->Ev->Option Ev}(he:FE T X e f)(hg:FG T X tg t)(hs:swapsWithSole [tg] e pos.line X.env=pure false:=by rfl)(hw:swappedStores [tg] e X.env=pure none:=by rfl)
  (h1:(assignEach [tg] X.env).map (·.2)=[assign tg X.env]:=by rfl):FS T X (.Assign [tg] e pos) (yog f t):=by
 intro pins s st H D I hq;refine yc3 he hg hs hw h1 pins s st H D I ?_;obtain⟨μ,ρ,σ,hE,hr,hp⟩:=hq;refine⟨μ,ρ,σ,hE,hr,hp.xs hE fun d σ1 μ1 v H1 _ e1 r1 q1 p1=>?_⟩;unfold ylj at p1;cases ht:t d ρ with
 |none=>simp only[ht]at p1;exact p1.elim
 |some ρ'=>simp only[ht]at p1;exact⟨μ1,σ1,ρ,d,ρ',hE.mono e1,r1,q1,ht,fun st1 hE1=>yky.here (g:=Gl2.nx st1) p1 r1 hE1⟩
def yh8(x i d:D):M Unit:=fun σ=>match x,i with
 | .ref n,.int k=>(match yhf σ n with
  |some xs=>(match ixN xs.length k with
   |some j=>.ok () (σ.set n (.lst (xs.set j d)))
   |none=>.bad)
  |none=>.bad)
 |_,_=>.bad
def yjf(ρ:Ev)(d x i:D):M Fl:=fun σ=>match yh8 x i d σ with
 | .ok _ σ'=>.ok (.nx ρ) σ'
 |_=>.bad
def yje(ρ:Ev)(fi:Ev->M D)(d x:D):M Fl:=xs ρ (fi ρ) (yjf ρ d x)
def yjd(ρ:Ev)(fo fi:Ev->M D)(d:D):M Fl:=xs ρ (fo ρ) (yje ρ fi d)
def yi5(f fo fi:Ev->M D):Ev->M Fl:=fun ρ=>xs ρ (f ρ) (yjd ρ fo fi)
theorem zr4{o i:Expr}{fo fi:Ev->M D}{pos':Pos}(he:FE T X e f)(ho:FE T X o fo)(hi:FE T X i fi)
  (ha:∀ v,assign (.Subscript o i pos') X.env v=(do
   let ov <-holding [v] (eval o X.env);let iv <-holding [v,ov] (eval i X.env)
   standAt pos'
   holding [v,ov,iv] (setItem ov iv v)
   release [v,ov,iv] []):=by intro _;rfl)
  (hs:swapsWithSole [.Subscript o i pos'] e pos.line X.env=pure false:=by rfl) (hw:swappedStores [.Subscript o i pos'] e X.env=pure none:=by rfl)
  (h1:(assignEach [.Subscript o i pos'] X.env).map (·.2)=[assign (.Subscript o i pos') X.env]:=by rfl):FS T X (.Assign [.Subscript o i pos'] e pos) (yi5 f fo fi):=by
 intro pins s st H D I hq;refine yc3 he (ycv ho hi zol ha) hs hw h1 pins s st H D I ?_;obtain⟨μ,ρ,σ,hE,hr,hp⟩:=hq;refine⟨μ,ρ,σ,hE,hr,hp.xs hE fun d σ1 μ1 v H1 _ e1 r1 q1 p1=>?_⟩;refine⟨μ1,ρ,σ1,hE.mono e1,r1,p1.xs (hE.mono e1) fun x σ2 μ2 vo H2 _ e2 r2 q2 p2=>?_⟩;refine⟨μ2,ρ,σ2,(hE.mono e1).mono e2,r2,p2.xs ((hE.mono e1).mono e2) fun k σ3 μ3 vi H3 _ e3 r3 q3 p3=>?_⟩;have hd:=Rep.mono e3 _ _ (Rep.mono e2 _ _ q1);have hx:=Rep.mono e3 _ _ q2;unfold yjf yh8 at p3;cases x with
 |ref n=>
  cases k with
  |int k=>
   dsimp only at p3;cases el:yhf σ3 n with
   |none=>rw[el]at p3;exact p3.elim
   |some xs=>
    rw[el]at p3;dsimp only at p3;cases ej:ixN xs.length k with
    |none=>rw[ej]at p3;exact p3.elim
    |some j=>
     rw[ej]at p3;obtain⟨a,vs,rfl,hn,h1,h2⟩:=r3.lst hx el;have wr:=r3.write (o:=.lst (vs.set j v)) (ob:=.lst (xs.set j d)) hn ⟨_,zo8,by
      have ex:Ext μ3 H3 μ3 (upd H3 a (.lst (vs.set j v))):=zg7 (List.mem_of_getElem? hn) h1 (fun _ z=>by cases z) (fun _ _ z=>by cases z);exact yk4.set (Rep.mono ex _ _ hd) j (yk4.mono ex _ _ h2)⟩
     exact⟨a,vs,k,j,rfl,yan q3,h1,by rw[<-h2.length];exact ej,p3 _ (.nx st) _ wr.1 wr.2 (((hE.mono e1).mono e2).mono e3 |>.mono wr.1)⟩
  |_=>exact p3.elim
 |_=>exact p3.elim
end
inductive Src where
 |seq (ds:List D)
 |lref (n:Nat)
def Src.nx:Src->Nat->Sto->Option (Option D)
 | .seq ds,i,_=>some ds[i]?
 | .lref n,i,σ=>(yhf σ n).map fun xs=>xs[i]?
def ye8(T:Tb)(μ0:List Addr)(H0:Hp)(src:Src)(J:It):Prop:=∀ μ H σ i,Ext μ0 H0 μ H->Rel T μ H σ->match src.nx i σ with
 |none=>True
 |some none=>J.stop i H
 |some (some d)=>J.go i H/\∀ x H',J.yld i H x H'->H'=H/\Rep T μ H d x
def tI(T:Tb)(X:Cx)(f:Ev->M Src):TI:=fun st H R=>∃ μ ρ σ,ykl T μ H ρ st/\Rel T μ H σ/\yky T (XE X st) (ye8 T) μ H (f ρ σ) R
abbrev FI(T:Tb)(X:Cx)(tg iter:Expr)(f:Ev->M Src):Prop:=PI X tg iter (tI T X f)
def ydg(n:Nat):List D:=(List.range n).map fun(i:Nat)=>D.int (i:Int)
def yi8(d:D):M Src:=fun σ=>match d with
 | .tup ds=>.ok (.seq ds) σ
 | .lst ds=>.ok (.seq ds) σ
 | .scr ns=>.ok (.seq (ns.map D.int)) σ
 | .ref n=>(match yhf σ n with
  |some _=>.ok (.lref n) σ
  |none=>.bad)
 |_=>.bad
def yoz(f:Ev->M D):Ev->M Src:=fun ρ=>bnd (f ρ) yi8
noncomputable def zwk(j:Int):Bool:=hide (decide (-(2 ^ 62)<=j) && decide (j<2 ^ 62))
noncomputable def yod(d:D):M Src:=fun σ=>match d with
 | .int j=>if zwk j=true then .ok (.seq (ydg j.toNat)) σ else .bad
 |_=>.bad
noncomputable def yoy(f:Ev->M D):Ev->M Src:=fun ρ=>bnd (f ρ) yod
section
variable{T:Tb}{X:Cx}{tg iter:Expr}{f:Ev->M D}
def ymr(K:PySem.W.Frag)(tl:TE):TI:=fun σ H R=>tl σ H fun x H1=>∃ a,x=.ref a/\(((∃ xs,SqL K H1 a xs)/\R (Itl K a) H1)\/((∃ xs,SqT K H1 a xs)/\R (Itt K a) H1))
theorem ycx{l:Expr}{tl:TE}(hl:PE X l tl):PI X tg l (ymr X.K tl):=by
 intro pins s σ H R I h;refine thn (hl pins s σ H _ I h) fun v s1 ⟨x,H1,I1,r1,q1⟩=>?_;obtain⟨a,e,q1⟩:=q1;subst e;cases r1;rcases q1 with⟨⟨xs,hq⟩,q⟩|⟨⟨xs,hq⟩,q⟩
 ·obtain⟨its,rv,p,hz⟩:=I1.list hq;refine wpAny_pyIter_list p.isList ?_;refine⟨s1.heap.objs.size,[s1.heap.objs.size],_,_,H1,rfl,I1.kept (t':=s1.toks) fun b o e=>Heap.get?_push_of_some _ e,zjc a _,⟨_,Heap.get?_push_size _ rfl,rfl,rfl⟩,fun b hb=>?_,q⟩;have e:b=s1.heap.objs.size:=by simpa using hb
  subst e;exact I1.fpOk (Nat.le_refl _) (I1.hok.fresh (Nat.le_refl _))
 ·obtain⟨its,rv,p,hz⟩:=I1.tuple hq;refine wpAny_pyIter_tuple (show s1.heap.IsTuple a its.toArray from p) ?_;refine⟨s1.heap.objs.size,[s1.heap.objs.size],_,_,H1,rfl,I1.kept (t':=s1.toks) fun b o e=>Heap.get?_push_of_some _ e,zgc a _,⟨_,Heap.get?_push_size _ rfl,rfl,rfl⟩,fun b hb=>?_,q⟩;have e:b=s1.heap.objs.size:=by simpa using hb
  subst e;exact I1.fpOk (Nat.le_refl _) (I1.hok.fresh (Nat.le_refl _))
theorem zow{μ1:List Addr}{H1:Hp}{a:Addr}{ds:List D}{K:PySem.W.Frag}(h:∀ μ2 H2,Ext μ1 H1 μ2 H2->∃ vs,SqL K H2 a vs/\yk4 T μ2 H2 ds vs):ye8 T μ1 H1 (.seq ds) (Itl K a):=by
 intro μ2 H2 σ2 i ex r2;obtain⟨vs,h3,h4⟩:=h μ2 H2 ex;show match some ds[i]? with|none=>True|some none=>_|some (some d)=>_
 cases e:ds[i]? with
 |none=>exact⟨vs,h3,by rw[<-h4.length];exact List.getElem?_eq_none_iff.mp e⟩
 |some d=>
  obtain⟨v,hv1,hv2⟩:=h4.get e;refine⟨⟨vs,v,h3,hv1⟩,fun x H' y=>?_⟩;obtain⟨rfl,y⟩:=y;have:=y vs h3;rw[hv1]at this;cases this;exact⟨rfl,hv2⟩
theorem zw3{μ1:List Addr}{H1:Hp}{a:Addr}{ds:List D}{K:PySem.W.Frag}(h:∀ μ2 H2,Ext μ1 H1 μ2 H2->∃ vs,SqT K H2 a vs/\yk4 T μ2 H2 ds vs):ye8 T μ1 H1 (.seq ds) (Itt K a):=by
 intro μ2 H2 σ2 i ex r2;obtain⟨vs,h3,h4⟩:=h μ2 H2 ex;show match some ds[i]? with|none=>True|some none=>_|some (some d)=>_
 cases e:ds[i]? with
 |none=>exact⟨vs,h3,by rw[<-h4.length];exact List.getElem?_eq_none_iff.mp e⟩
 |some d=>
  obtain⟨v,hv1,hv2⟩:=h4.get e;refine⟨⟨vs,v,h3,hv1⟩,fun x H' y=>?_⟩;obtain⟨rfl,y⟩:=y;have:=y vs h3;rw[hv1]at this;cases this;exact⟨rfl,hv2⟩
theorem zzp(hK:T.K=X.K)(h:FE T X iter f):FI T X tg iter (yoz f):=by
 intro pins s st H R I hw;refine ycx h pins s st H R I ?_;obtain⟨μ,ρ,σ,hE,hr,hp⟩:=hw;refine⟨μ,ρ,σ,hE,hr,hp.bind fun d σ1 μ1 v H1 _ e1 r1 q1 p1=>?_⟩;cases d with
 |tup ds=>
  rw[Rep]at q1;obtain⟨p,vs,rfl,h1,h2⟩:=q1;exact⟨p,rfl,.inr ⟨⟨vs,SqT.of h1⟩,yky.here (R:=ye8 T) p1 r1 (zw3 fun μ2 H2 ex=>⟨vs,SqT.of (ex.tup _ _ h1),yk4.mono ex _ _ h2⟩)⟩⟩
 |lst ds=>
  rw[Rep]at q1;obtain⟨p,vs,rfl,hn,h1,h2⟩:=q1;exact⟨p,rfl,.inl ⟨⟨vs,SqL.of h1⟩,yky.here (R:=ye8 T) p1 r1 (zow fun μ2 H2 ex=>⟨vs,SqL.of (ex.keepN _ _ h1 hn).1,yk4.mono ex _ _ h2⟩)⟩⟩
 |scr ns=>
  rw[Rep]at q1;obtain⟨p,rfl,h1⟩:=q1;have hsc:∀ μ2 H2,Ext μ1 H1 μ2 H2->SqL X.K H2 p (ns.map V.int):=fun μ2 H2 ex=>by
   have h2:Rep T μ2 H2 (.scr ns) (.ref p):=Rep.mono ex _ _ (by rw[Rep];exact⟨p,rfl,h1⟩);rw[Rep]at h2;obtain⟨p',e',h3⟩:=h2;cases e';rw[<-hK];exact h3.seq
  exact⟨p,rfl,.inl ⟨⟨_,hsc _ _ (Ext.refl _ _)⟩,yky.here (R:=ye8 T) p1 r1 (zow fun μ2 H2 ex=>⟨_,hsc μ2 H2 ex,zim ns⟩)⟩⟩
 |ref n=>
  unfold yi8 at p1;dsimp only at p1;cases el0:yhf σ1 n with
  |none=>rw[el0]at p1;exact p1.elim
  |some xs=>
   rw[el0]at p1;obtain⟨a,vs,rfl,_,h1,h2⟩:=r1.lst q1 el0;refine⟨a,rfl,.inl ⟨⟨vs,SqL.of h1⟩,yky.here (R:=ye8 T) p1 r1 fun μ2 H2 σ2 i ex r2=>?_⟩⟩;show match (yhf σ2 n).map (fun xs=>xs[i]?)with|none=>True|some none=>_|some (some d)=>_
   cases el:yhf σ2 n with
   |none=>trivial
   |some ys=>
    obtain⟨a',ws,ea,_,h3,h4⟩:=r2.lst (Rep.mono ex _ _ q1) el;cases ea;show match some (ys[i]?)with|none=>True|some none=>_|some (some d)=>_
    cases e:ys[i]? with
    |none=>exact⟨ws,SqL.of h3,by rw[<-h4.length];exact List.getElem?_eq_none_iff.mp e⟩
    |some d=>
     obtain⟨v,hv1,hv2⟩:=h4.get e;refine⟨⟨ws,v,SqL.of h3,hv1⟩,fun x H' y=>?_⟩;obtain⟨rfl,y⟩:=y;have:=y ws (SqL.of h3);rw[hv1]at this;cases this;exact⟨rfl,hv2⟩
 |_=>exact p1.elim
theorem zfv{n i:Nat}(h:i<n):(ydg n)[i]?=some (.int i):=by simp[ydg,h]
theorem zfw(n:Nat):(ydg n).length=n:=by simp[ydg]
theorem zk5{a:Expr}{p pos:Pos}(hgl:Gl X "range")(hm:X.mg "range" = none)(ha:FE T X a f)(hst:starEach [a] X.env=[(false,eval a X.env)]:=by rfl):FI T X tg (.Call (.Name "range" p) [a] [] pos) (yoy f):=by
 intro pins s st H R I hw;refine zih hgl hm (zur ha yci hst) hst pins s st H R I ?_;obtain⟨μ,ρ,σ,hE,hr,hp⟩:=hw;refine⟨μ,ρ,σ,hE,hr,hp.bind fun d σ1 μ1 v H1 _ e1 r1 q1 p1=>?_⟩;cases d with
 |int j=>
  rw[Rep]at q1;subst q1;unfold yod at p1;dsimp only at p1;by_cases hj:zwk j=true
  ·rw[if_pos hj]at p1;simp only[zwk,zsp,Bool.and_eq_true,decide_eq_true_eq]at hj;refine⟨j,rfl,hj.1,hj.2,yky.here (R:=ye8 T) p1 r1 fun μ2 H2 σ2 i ex r2=>?_⟩;show match some (ydg j.toNat)[i]? with|none=>True|some none=>_|some (some d)=>_
   by_cases hi:i<j.toNat
   ·rw[zfv hi];refine⟨hi,fun x H' y=>?_⟩;obtain⟨rfl,rfl⟩:=y;exact⟨rfl,by rw[Rep,Int.zero_add]⟩
   ·rw[List.getElem?_eq_none_iff.mpr (by rw[zfw];omega)];exact Nat.not_lt.mp hi
  ·rw[if_neg hj]at p1;exact p1.elim
 |_=>exact p1.elim
end
def yhc(k:Ev->M Fl):Fl->M Fl
 | .nx ρ2=>k ρ2
 | .ct ρ2=>k ρ2
 | .bk ρ2=>ret (.nx ρ2)
 | .rt d=>ret (.rt d)
 | .xc ρ x=>ret (.xc ρ x)
def ym2(tg:D->Ev->Option Ev)(body:Ev->M Fl):List D->Ev->M Fl
 |[],ρ=>ret (.nx ρ)
 |d::ds,ρ=>match tg d ρ with
  |none=>bad
  |some ρ1=>bnd (body ρ1) (yhc (ym2 tg body ds))
def yhd(tg:D->Ev->Option Ev)(body:Ev->M Fl)(n:Nat):Nat->Nat->Ev->M Fl
 |0,_,_=>bad
 |k+1,i,ρ=>fun σ=>match yhf σ n with
  |none=>.bad
  |some xs=>match xs[i]? with
   |none=>.ok (.nx ρ) σ
   |some d=>match tg d ρ with
    |none=>.bad
    |some ρ1=>bnd (body ρ1) (yhc (yhd tg body n k (i+1))) σ
def ymf(tg:D->Ev->Option Ev)(body:Ev->M Fl)(ρ:Ev):Src->M Fl
 | .seq ds=>ym2 tg body ds ρ
 | .lref n=>yhd tg body n 1001 0 ρ
def yok(src:Ev->M Src)(tg:D->Ev->Option Ev)(body:Ev->M Fl):Ev->M Fl:=fun ρ=>xs ρ (src ρ) (ymf tg body ρ)
section
variable{T:Tb}{X:Cx}
theorem zo5{μ1:List Addr}{H1:Hp}{σ1:Sto}{fl:Fl}{gl:Gl2}{D:Ends}{k:Ev->M Fl}{N:St->Hp->Prop}(r1:Rel T μ1 H1 σ1)(q1:RFl T μ1 H1 fl gl)(p1:yky T EN (RFl T) μ1 H1 (yhc k fl σ1) (ykm X D))
  (hN:∀ ρ2 st2,ykl T μ1 H1 ρ2 st2->yky T EN (RFl T) μ1 H1 (k ρ2 σ1) (ykm X D)->N st2 H1):ykm X { D with nx:=N,ct:=N,bk:=D.nx } gl H1:=by
 cases fl with
 |nx ρ2=>cases gl with
  |nx st2=>exact hN ρ2 st2 q1 p1
  |_=>exact q1.elim
 |ct ρ2=>cases gl with
  |ct st2=>exact hN ρ2 st2 q1 p1
  |_=>exact q1.elim
 |bk ρ2=>cases gl with
  |bk st2=>have z:ykm X D (Gl2.nx st2) H1:=yky.here (g:=Gl2.nx st2) (d:=Fl.nx ρ2) p1 r1 q1;exact z
  |_=>exact q1.elim
 |rt d2=>cases gl with
  |rt v2=>have z:ykm X D (Gl2.rt v2) H1:=yky.here (g:=Gl2.rt v2) (d:=Fl.rt d2) p1 r1 q1;exact z
  |_=>exact q1.elim
 |xc ρ2 x=>cases gl with
  |xc st2 c fd2=>have z:ykm X D (Gl2.xc st2 c fd2) H1:=yky.here (g:=Gl2.xc st2 c fd2) (d:=Fl.xc ρ2 x) p1 r1 q1;exact z
  |_=>exact q1.elim
variable{tgt iter:Expr}{body:List Stmt}{src:Ev->M Src}{t:D->Ev->Option Ev}{g:Ev->M Fl}{pos:Pos}
theorem zz2(hp:PassesOwn (model X.prog X.w) X.A X.env X.xe)(hc:X.calm=true)(hi:FI T X tgt iter src)(hg:FG T X tgt t)(hb:FSs T X body g)
  (hs:∀ x,foldedSetIterable iter X.env x=pure x:=by intro _;rfl):FS T X (.For tgt iter body [] pos) (yok src t g):=by
 intro pins s st H D I hq;refine yc6 hp hc hi hg hb hs pins s st H D I ?_;obtain⟨μ,ρ,σ,hE,hr,hp⟩:=hq;refine⟨μ,ρ,σ,hE,hr,hp.xs hE fun src σ1 μ1 J H1 _ e1 r1 q1 p1=>?_⟩;cases src with
 |seq ds=>
  have p1':yky T EN (RFl T) μ1 H1 (ym2 t g ds ρ σ1) (ykm X D):=p1;refine⟨fun i m st2 H2=>m=ds.length - i/\∃ μ ρ σ,Ext μ1 H1 μ H2/\ykl T μ H2 ρ st2/\Rel T μ H2 σ/\yky T EN (RFl T) μ H2 (ym2 t g (ds.drop i) ρ σ) (ykm X D),⟨ds.length,by simp,μ1,ρ,σ1,Ext.refl _ _,hE.mono e1,r1,by simpa using p1'⟩,?_⟩;rintro i m st2 H2 ⟨rfl,μ2,ρ2,σ2,ex,hE2,r2,p2⟩;have so:=q1 μ2 H2 σ2 i ex r2;have so':match (some ds[i]?:Option (Option L4.D))with|none=>True|some none=>J.stop i H2|some (some d)=>J.go i H2/\∀ x H',J.yld i H2 x H'->H'=H2/\Rep T μ2 H2 d x:=so
  cases ei:ds[i]? with
  |none=>
   rw[ei]at so';rw[List.drop_eq_nil_of_le (List.getElem?_eq_none_iff.mp ei)]at p2;exact .inl ⟨so',yky.here (g:=Gl2.nx st2) p2 r2 hE2⟩
  |some d=>
   rw[ei]at so';obtain⟨hl,ed⟩:=List.getElem?_eq_some_iff.mp ei;have hd:ds.drop i=d::ds.drop (i+1):=by rw[<-ed];exact(List.drop_eq_getElem_cons hl)
   rw[hd]at p2;unfold ym2 at p2;refine .inr ⟨so'.1,fun st3 H3=>∃ μ ρ σ,Ext μ1 H1 μ H3/\ykl T μ H3 ρ st3/\Rel T μ H3 σ/\yky T EN (RFl T) μ H3 (ym2 t g (ds.drop (i+1)) ρ σ) (ykm X D),fun st3 H3 h=>⟨ds.length - (i+1),by omega,rfl,h⟩,fun x H3 y=>?_⟩;obtain⟨rfl,hx⟩:=so'.2 x H3 y;cases ht:t d ρ2 with
   |none=>rw[ht]at p2;exact p2.elim
   |some ρ3=>
    rw[ht]at p2;exact⟨μ2,σ2,ρ2,d,ρ3,hE2,r2,hx,ht,fun st3 hE3=>⟨μ2,ρ3,σ2,hE3,r2,p2.bind fun fl σ4 μ4 gl H4 _ e4 r4 q4 p4=>zo5 r4 q4 p4 fun ρ5 st5 hE5 p5=>⟨μ4,ρ5,σ4,ex.trans e4,hE5,r4,p5⟩⟩⟩
 |lref n=>
  have p1':yky T EN (RFl T) μ1 H1 (yhd t g n 1001 0 ρ σ1) (ykm X D):=p1;refine⟨fun i m st2 H2=>∃ μ ρ σ,Ext μ1 H1 μ H2/\ykl T μ H2 ρ st2/\Rel T μ H2 σ/\yky T EN (RFl T) μ H2 (yhd t g n m i ρ σ) (ykm X D),⟨1001,μ1,ρ,σ1,Ext.refl _ _,hE.mono e1,r1,p1'⟩,?_⟩;rintro i m st2 H2 ⟨μ2,ρ2,σ2,ex,hE2,r2,p2⟩;cases m with
  |zero=>exact p2.elim
  |succ m=>
   unfold yhd at p2;have so:=q1 μ2 H2 σ2 i ex r2;have so':match ((yhf σ2 n).map fun xs=>xs[i]?:Option (Option L4.D))with|none=>True|some none=>J.stop i H2|some (some d)=>J.go i H2/\∀ x H',J.yld i H2 x H'->H'=H2/\Rep T μ2 H2 d x:=so
   cases el:yhf σ2 n with
   |none=>simp only[el]at p2;exact p2.elim
   |some xs=>
    simp only[el]at p2 so';cases ei:xs[i]? with
    |none=>
     simp only[ei,Option.map_some]at p2 so';exact .inl ⟨so',yky.here (g:=Gl2.nx st2) p2 r2 hE2⟩
    |some d=>
     simp only[ei,Option.map_some]at p2 so';refine .inr ⟨so'.1,fun st3 H3=>∃ μ ρ σ,Ext μ1 H1 μ H3/\ykl T μ H3 ρ st3/\Rel T μ H3 σ/\yky T EN (RFl T) μ H3 (yhd t g n m (i+1) ρ σ) (ykm X D),fun st3 H3 h=>⟨m,Nat.lt_succ_self _,h⟩,fun x H3 y=>?_⟩;obtain⟨rfl,hx⟩:=so'.2 x H3 y;cases ht:t d ρ2 with
     |none=>simp only[ht]at p2;exact p2.elim
     |some ρ3=>
      simp only[ht]at p2;exact⟨μ2,σ2,ρ2,d,ρ3,hE2,r2,hx,ht,fun st3 hE3=>⟨μ2,ρ3,σ2,hE3,r2,p2.bind fun fl σ4 μ4 gl H4 _ e4 r4 q4 p4=>zo5 r4 q4 p4 fun ρ5 st5 hE5 p5=>⟨μ4,ρ5,σ4,ex.trans e4,hE5,r4,p5⟩⟩⟩
end
mutual
def cl:D->Bool
 | .tup xs=>clL xs
 | .lst xs=>clL xs
 | .dic _ xs=>clL xs
 | .obj _ _ xs=>clL xs
 | .ref _=>false
 | .non=>true
 | .bl _=>true
 | .int _=>true
 | .str _=>true
 | .scr _=>true
 | .exn _=>true
 | .gt _=>true
def clL:List D->Bool
 |[]=>true
 |d::ds=>cl d && clL ds
end
def fzL(f:D->Option D):List D->Option (List D)
 |[]=>some []
 |d::ds=>match f d,fzL f ds with
  |some x,some xs=>some (x::xs)
  |_,_=>none
def fz(k:Nat)(σ:Sto):Nat->D->Option D
 |0,d=>if cl d=true then some d else match d with
  | .ref n=>if n<k then some (.ref n)else none
  |_=>none
 |m+1,d=>if cl d=true then some d else match d with
  | .ref n=>if n<k then some (.ref n)else match σ[n]? with
   |some (.lst xs)=>(fzL (fz k σ m) xs).map .lst
   |some (.dic kvs)=>(fzL (fz k σ m) (kvs.map (·.2))).map (.dic (kvs.map (·.1)))
   |some (.ins c fs)=>(fzL (fz k σ m) (fs.map (·.2))).map (.obj c (fs.map (·.1)))
   |some (.fdic _)=>none
   |none=>none
  | .tup xs=>(fzL (fz k σ m) xs).map .tup
  | .lst xs=>(fzL (fz k σ m) xs).map .lst
  | .dic ks xs=>(fzL (fz k σ m) xs).map (.dic ks)
  | .obj c ns xs=>(fzL (fz k σ m) xs).map (.obj c ns)
  |_=>none
open Classical in
noncomputable def ymh(σ:Sto):Out D->Out D
 | .ok d σ'=>if σ'.take σ.length=σ then (match fz σ.length σ' 6 d with
  |some d'=>.ok d' σ
  |none=>.bad)else .bad
 | .ex x σ'=>if σ'.take σ.length=σ then .ex x σ else .bad
 | .bad=>.bad
noncomputable def frz(f:M D):M D:=fun σ=>ymh σ (f σ)
section
variable{T:Tb}{μ μ':List Addr}{H H':Hp}{σ σ':Sto}
mutual
theorem zqh(e:∃ r,μ'=μ++r):∀ (d:D) (v:V),cl d=true->Rep T μ' H d v->Rep T μ H d v
 | .non,v,_,h=>by simpa [Rep]using h
 | .bl b,v,_,h=>by simpa [Rep]using h
 | .int i,v,_,h=>by simpa [Rep]using h
 | .str x,v,_,h=>by simpa [Rep]using h
 | .tup ds,v,c,h=>by
  rw[Rep]at h ⊢;obtain⟨p,vs,h1,h2,h3⟩:=h;exact⟨p,vs,h1,h2,zj6 e ds vs (by simpa [cl]using c) h3⟩
 | .scr ns,v,_,h=>by rw[Rep]at h ⊢;exact h
 | .ref n,v,c,h=>by simp[cl]at c
 | .lst ds,v,c,h=>by
  rw[Rep]at h ⊢;obtain⟨a,vs,h1,h2,h3,h4⟩:=h;exact⟨a,vs,h1,fun z=>h2 (by obtain⟨r,rfl⟩:=e;exact List.mem_append_left _ z),h3,zj6 e ds vs (by simpa [cl]using c) h4⟩
 | .dic ks ds,v,c,h=>by
  rw[Rep]at h ⊢;obtain⟨a,vs,h1,h2,h3,h5,h4⟩:=h;exact⟨a,vs,h1,fun z=>h2 (by obtain⟨r,rfl⟩:=e;exact List.mem_append_left _ z),h3,h5,zj6 e ds _ (by simpa [cl]using c) h4⟩
 | .obj k ns ds,v,c,h=>by
  rw[Rep]at h ⊢;obtain⟨a,dx,vs,h1,h2,h3,h5,h4⟩:=h;exact⟨a,dx,vs,h1,fun z=>h2 (by obtain⟨r,rfl⟩:=e;exact List.mem_append_left _ z),h3,h5,zj6 e ds _ (by simpa [cl]using c) h4⟩
 | .exn k,v,_,h=>by
  rw[Rep]at h ⊢;obtain⟨a,dd,h1,h2,h3,h4⟩:=h;exact⟨a,dd,h1,fun z=>h2 (by obtain⟨r,rfl⟩:=e;exact List.mem_append_left _ z),h3,fun n q=>let ⟨dN,q1,q2,q3⟩:=h4 n q;⟨dN,q1,fun z=>q2 (by obtain⟨r,rfl⟩:=e;exact List.mem_append_left _ z),q3⟩⟩
 | .gt ss,v,_,h=>by rw[Rep]at h ⊢;exact h
theorem zj6(e:∃ r,μ'=μ++r):∀ (ds:List D) (vs:List V),clL ds=true->yk4 T μ' H ds vs->yk4 T μ H ds vs
 |[],vs,_,h=>by simpa [yk4]using h
 |d::ds,vs,c,h=>by
  rw[yk4]at h ⊢;obtain⟨v,r,h1,h2,h3⟩:=h;have c':cl d=true/\clL ds=true:=by simpa [clL,Bool.and_eq_true]using c
  exact⟨v,r,h1,zqh e d v c'.1 h2,zj6 e ds r c'.2 h3⟩
end
mutual
theorem Rep.down(e:∃ r,μ'=μ++r):∀ (d:D) (v0 v:V),Rep T μ H d v0->Rep T μ' H' d v->Rep T μ H' d v
 | .non,v0,v,_,h=>by simpa [Rep]using h
 | .bl b,v0,v,_,h=>by simpa [Rep]using h
 | .int i,v0,v,_,h=>by simpa [Rep]using h
 | .str x,v0,v,_,h=>by simpa [Rep]using h
 | .tup ds,v0,v,c,h=>by
  rw[Rep]at h c ⊢;obtain⟨p,vs,h1,h2,h3⟩:=h;obtain⟨p0,vs0,_,_,c3⟩:=c;exact⟨p,vs,h1,h2,yk4.down e ds vs0 vs c3 h3⟩
 | .scr ns,v0,v,_,h=>by rw[Rep]at h ⊢;exact h
 | .ref n,v0,v,c,h=>by
  rw[Rep]at h c ⊢;obtain⟨a,h1,h2⟩:=h;obtain⟨b,_,c2⟩:=c;refine⟨a,h1,?_⟩;obtain⟨r,rfl⟩:=e;rw[List.getElem?_append_left (List.getElem?_eq_some_iff.mp c2).1]at h2;exact h2
 | .lst ds,v0,v,c,h=>by
  rw[Rep]at h c ⊢;obtain⟨a,vs,h1,h2,h3,h4⟩:=h;obtain⟨_,vs0,_,_,_,c4⟩:=c;exact⟨a,vs,h1,fun z=>h2 (by obtain⟨r,rfl⟩:=e;exact List.mem_append_left _ z),h3,yk4.down e ds vs0 vs c4 h4⟩
 | .dic ks ds,v0,v,c,h=>by
  rw[Rep]at h c ⊢;obtain⟨a,vs,h1,h2,h3,h5,h4⟩:=h;obtain⟨_,vs0,_,_,_,_,c4⟩:=c;exact⟨a,vs,h1,fun z=>h2 (by obtain⟨r,rfl⟩:=e;exact List.mem_append_left _ z),h3,h5,yk4.down e ds _ _ c4 h4⟩
 | .obj k ns ds,v0,v,c,h=>by
  rw[Rep]at h c ⊢;obtain⟨a,dx,vs,h1,h2,h3,h5,h4⟩:=h;obtain⟨_,_,vs0,_,_,_,_,c4⟩:=c;exact⟨a,dx,vs,h1,fun z=>h2 (by obtain⟨r,rfl⟩:=e;exact List.mem_append_left _ z),h3,h5,yk4.down e ds _ _ c4 h4⟩
 | .exn k,v0,v,_,h=>by
  rw[Rep]at h ⊢;obtain⟨a,dd,h1,h2,h3,h4⟩:=h;exact⟨a,dd,h1,fun z=>h2 (by obtain⟨r,rfl⟩:=e;exact List.mem_append_left _ z),h3,fun n q=>let ⟨dN,q1,q2,q3⟩:=h4 n q;⟨dN,q1,fun z=>q2 (by obtain⟨r,rfl⟩:=e;exact List.mem_append_left _ z),q3⟩⟩
 | .gt ss,v0,v,_,h=>by rw[Rep]at h ⊢;exact h
theorem yk4.down(e:∃ r,μ'=μ++r):∀ (ds:List D) (vs0 vs:List V),yk4 T μ H ds vs0->yk4 T μ' H' ds vs->yk4 T μ H' ds vs
 |[],vs0,vs,_,h=>by simpa [yk4]using h
 |d::ds,vs0,vs,c,h=>by
  rw[yk4]at h c ⊢;obtain⟨v,r,h1,h2,h3⟩:=h;obtain⟨v0,r0,_,c2,c3⟩:=c;exact⟨v,r,h1,Rep.down e d v0 v c2 h2,yk4.down e ds r0 r c3 h3⟩
end
theorem zeh{α:Type}(e:∃ r,μ'=μ++r):∀ {xs:List (α × D)} {ys zs:List (α × V)},Paired (fun(p:α × D) (q:α × V)=>p.1=q.1/\Rep T μ H p.2 q.2) xs zs->Paired (fun(p:α × D) (q:α × V)=>p.1=q.1/\Rep T μ' H' p.2 q.2) xs ys->Paired (fun(p:α × D) (q:α × V)=>p.1=q.1/\Rep T μ H' p.2 q.2) xs ys
 |_,_,_,.nil,.nil=>.nil
 |_,_,_,.cons a b,.cons c d=>.cons ⟨c.1,Rep.down e _ _ _ a.2 c.2⟩ (zeh e b d)
theorem ObR.down(e:∃ r,μ'=μ++r){a:Addr}:∀ {o:Ob},ObR T μ H a o->ObR T μ' H' a o->ObR T μ H' a o
 | .lst ds,⟨_,_,c⟩,⟨vs,h,r⟩=>⟨vs,h,yk4.down e _ _ _ c r⟩
 | .dic kvs,⟨_,_,c⟩,⟨vs,h,r⟩=>⟨vs,h,zeh e c r⟩
 | .ins c fs,⟨_,_,_,c'⟩,⟨dx,vs,h,r⟩=>⟨dx,vs,h,zeh e c' r⟩
 | .fdic kvs,⟨_,_,_,c'⟩,⟨ob,vs,h,r⟩=>⟨ob,vs,h,zeh e c' r⟩
theorem Rel.down(r0:Rel T μ H σ)(r:Rel T μ' H' σ')(e:Ext μ H μ' H')(ht:σ'.take σ.length=σ):Rel T μ H' σ/\Ext μ H μ H':=by
 refine⟨⟨r0.len,r0.nd,fun n o h=>?_,r.tb.sub fun b hb=>by obtain⟨z,rfl⟩:=e.pre;exact List.mem_append_left _ hb⟩,⟨⟨[],by simp⟩,e.tup,e.frz,fun p o h n=>⟨(e.keep p o h n).1,n⟩⟩⟩;obtain⟨a,h1,h2⟩:=r0.obs n o h;have h':σ'[n]?=some o:=by
  have hl:=(List.getElem?_eq_some_iff.mp h).1;rw[<-ht,List.getElem?_take_of_lt hl]at h;exact h
 obtain⟨b,h3,h4⟩:=r.obs n o h';have eb:=e.get h1;rw[h3]at eb;cases eb;exact⟨a,h1,h2.down e.pre h4⟩
theorem zfx{α:Type}:∀ {xs:List (α × D)} {ys:List (α × V)},Paired (fun(p:α × D) (q:α × V)=>p.1=q.1/\Rep T μ H p.2 q.2) xs ys->ys.map (·.1)=xs.map (·.1)/\yk4 T μ H (xs.map (·.2)) (ys.map (·.2))
 |_,_,.nil=>⟨rfl,yk4.nil⟩
 |_,_,.cons a b=>by
  obtain⟨h1,h2⟩:=zfx b;exact⟨by simp[h1,a.1],yk4.cons a.2 h2⟩
theorem zsh{f:D->Option D}(hf:∀ d d' v,f d=some d'->Rep T μ' H d v->Rep T μ H d' v):∀ (ds ds':List D) (vs:List V),fzL f ds=some ds'->yk4 T μ' H ds vs->yk4 T μ H ds' vs
 |[],ds',vs,h,r=>by cases h;simpa [yk4]using r
 |d::ds,ds',vs,h,r=>by
  unfold fzL at h;cases e1:f d with
  |none=>rw[e1]at h;cases h
  |some x=>
   cases e2:fzL f ds with
   |none=>rw[e1,e2]at h;cases h
   |some xs=>
    rw[e1,e2]at h;cases h;rw[yk4]at r;obtain⟨v,w,rfl,h2,h3⟩:=r;exact yk4.cons (hf d x v e1 h2) (zsh hf ds xs w e2 h3)
theorem yad(e:∃ r,μ'=μ++r)(r:Rel T μ' H σ'):∀ (m:Nat) (d d':D) (v:V),fz μ.length σ' m d=some d'->Rep T μ' H d v->Rep T μ H d' v:=by
 have old:∀ n v,n<μ.length->Rep T μ' H (.ref n) v->Rep T μ H (.ref n) v:=fun n v hn h=>by
  rw[Rep]at h ⊢;obtain⟨a,h1,h2⟩:=h;obtain⟨q,rfl⟩:=e;rw[List.getElem?_append_left hn]at h2;exact⟨a,h1,h2⟩
 intro m;induction m with
 |zero=>
  intro d d' v h hr;unfold fz at h;by_cases hc:cl d=true
  ·rw[if_pos hc]at h;cases h;exact zqh e _ _ hc hr
  ·rw[if_neg hc]at h;cases d with
   |ref n=>
    dsimp only at h;by_cases hn:n<μ.length
    ·rw[if_pos hn]at h;cases h;exact old n v hn hr
    ·rw[if_neg hn]at h;cases h
   |_=>cases h
 |succ m ih=>
  intro d d' v h hr;unfold fz at h;by_cases hc:cl d=true
  ·rw[if_pos hc]at h;cases h;exact zqh e _ _ hc hr
  ·rw[if_neg hc]at h;have go:=zsh (T:=T) (μ:=μ) (μ':=μ') (H:=H) (f:=fz μ.length σ' m) (fun d d' v a b=>ih d d' v a b);cases d with
   |ref n=>
    dsimp only at h;by_cases hn:n<μ.length
    ·rw[if_pos hn]at h;cases h;exact old n v hn hr
    ·rw[if_neg hn]at h;cases es:σ'[n]? with
     |none=>rw[es]at h;cases h
     |some o=>
      rw[es]at h;obtain⟨a,rfl,ha,hob⟩:=r.at hr es;have out:a ∉ μ:=fun z=>by
       obtain⟨i,hi⟩:=List.getElem?_of_mem z;obtain⟨q,rfl⟩:=e;have hl:=(List.getElem?_eq_some_iff.mp hi).1;have:=zmy r.nd (i:=i) (j:=n) (by rw[List.getElem?_append_left hl];exact hi) ha;omega
      cases o with
      |lst xs=>
       obtain⟨ys,h1,h2⟩:=Option.map_eq_some_iff.mp h;subst h2;obtain⟨vs,h3,h4⟩:=hob;rw[Rep];exact⟨a,vs,rfl,out,h3,go xs ys vs h1 h4⟩
      |dic kvs=>
       obtain⟨ys,h1,h2⟩:=Option.map_eq_some_iff.mp h;subst h2;obtain⟨vs,h3,h4⟩:=hob;obtain⟨h5,h6⟩:=zfx h4;rw[Rep];exact⟨a,vs,rfl,out,(.inl h3),h5,go _ ys _ h1 h6⟩
      |ins c fs=>
       obtain⟨ys,h1,h2⟩:=Option.map_eq_some_iff.mp h;subst h2;obtain⟨dx,vs,h3,h4⟩:=hob;obtain⟨h5,h6⟩:=zfx h4;rw[Rep];exact⟨a,dx,vs,rfl,out,h3,h5,go _ ys _ h1 h6⟩
      |fdic kvs=>cases h
   |tup xs=>
    obtain⟨ys,h1,h2⟩:=Option.map_eq_some_iff.mp h;subst h2;rw[Rep]at hr ⊢;obtain⟨p,vs,e1,e2,e3⟩:=hr;exact⟨p,vs,e1,e2,go xs ys vs h1 e3⟩
   |lst xs=>
    obtain⟨ys,h1,h2⟩:=Option.map_eq_some_iff.mp h;subst h2;rw[Rep]at hr ⊢;obtain⟨p,vs,e1,e0,e2,e3⟩:=hr;exact⟨p,vs,e1,fun z=>e0 (by obtain⟨r,rfl⟩:=e;exact List.mem_append_left _ z),e2,go xs ys vs h1 e3⟩
   |dic ks xs=>
    obtain⟨ys,h1,h2⟩:=Option.map_eq_some_iff.mp h;subst h2;rw[Rep]at hr ⊢;obtain⟨p,vs,e1,e0,e2,e4,e3⟩:=hr;exact⟨p,vs,e1,fun z=>e0 (by obtain⟨r,rfl⟩:=e;exact List.mem_append_left _ z),e2,e4,go xs ys _ h1 e3⟩
   |obj c ks xs=>
    obtain⟨ys,h1,h2⟩:=Option.map_eq_some_iff.mp h;subst h2;rw[Rep]at hr ⊢;obtain⟨p,dx,vs,e1,e0,e2,e4,e3⟩:=hr;exact⟨p,dx,vs,e1,fun z=>e0 (by obtain⟨r,rfl⟩:=e;exact List.mem_append_left _ z),e2,e4,go xs ys _ h1 e3⟩
   |_=>cases h
theorem yky.frz{E:XK}{f:M D}{Q:V->Hp->Prop}(r:Rel T μ H σ)(h:yky T E (Rep T) μ H (frz f σ) Q):yky T E (Rep T) μ H (f σ) Q:=by
 unfold L4.frz at h;cases e:f σ with
 |bad=>rw[e]at h;exact h
 |ex x σ1=>
  rw[e]at h;unfold ymh at h;dsimp only at h;by_cases ht:σ1.take σ.length=σ
  ·rw[if_pos ht]at h;intro μ1 H1 e1 r1;obtain⟨r2,e2⟩:=Rel.down r r1 e1 ht;exact h μ H1 e2 r2
  ·rw[if_neg ht]at h;exact h.elim
 |ok d σ1=>
  rw[e]at h;unfold ymh at h;dsimp only at h;by_cases ht:σ1.take σ.length=σ
  ·rw[if_pos ht]at h;cases ef:fz σ.length σ1 6 d with
   |none=>rw[ef]at h;exact h.elim
   |some d'=>
    rw[ef]at h;intro μ1 v H1 e1 r1 p1;obtain⟨r2,e2⟩:=Rel.down r r1 e1 ht;exact h μ v H1 e2 r2 (yad e1.pre r1 6 d d' v (by rw[r.len];exact ef) p1)
  ·rw[if_neg ht]at h;exact h.elim
end
noncomputable def yl3(f:Ev->M D):Ev->M D:=fun ρ=>frz (f ρ)
theorem zzd{T:Tb}{X:Cx}{e:Expr}{f:Ev->M D}(h:FE T X e f):FE T X e (yl3 f):=by
 intro pins s st H Q I hw;obtain⟨μ,ρ,σ,hE,hr,hp⟩:=hw;exact h pins s st H Q I ⟨μ,ρ,σ,hE,hr,yky.frz hr hp⟩
end L4
namespace L4
open PySem PySem.Spec PyProof.Rows L2
def DK(h h':Heap):Prop:=∀ (a:Nat) o,h.objs[a]?=some o->∃ o':Obj,h'.objs[a]?=some o'/\o'.dict=o.dict
theorem DK.refl(h:Heap):DK h h:=fun _ o e=>⟨o,e,rfl⟩
theorem DK.trans{h1 h2 h3:Heap}(x:DK h1 h2)(y:DK h2 h3):DK h1 h3:=fun a o e=>by
 obtain⟨o',e',q⟩:=x a o e;obtain⟨o'',e'',q'⟩:=y a o' e';exact⟨o'',e'',q'.trans q⟩
theorem DK.push(h:Heap)(o:Obj):DK h (h.push o):=fun a u e=>by
 obtain⟨objs,l⟩:=h;have e:objs[a]?=some u:=e;have hl:=(Array.getElem?_eq_some_iff.mp e).1;refine⟨u,?_,rfl⟩;show (objs.push o)[a]?=some u;rw[Array.getElem?_push_lt hl];exact(Array.getElem?_eq_getElem hl).symm.trans e
theorem DK.update(h:Heap)(b:Addr){f:Obj->Obj}(hf:∀ o,(f o).dict=o.dict):DK h (h.update b f):=fun a u e=>by
 obtain⟨objs,l⟩:=h;have e:objs[a]?=some u:=e;show ∃ o':Obj,(objs.modify b f)[a]?=some o'/\_;rw[Array.getElem?_modify];by_cases hb:b=a
 ·rw[if_pos hb,e];exact⟨f u,rfl,hf u⟩
 ·rw[if_neg hb];exact⟨u,e,rfl⟩
theorem DK.get{h h':Heap}(x:DK h h'){a:Addr}{o o':Obj}(e:h.get? a=some o)(e':h'.get? a=some o'):o'.dict=o.dict:=by
 obtain⟨u,q1,q2⟩:=x a o ((Heap.get?_eq_some _ _ _).1 e).1;have:=((Heap.get?_eq_some _ _ _).1 e').1;have z:some u=some o':=q1.symm.trans this;cases z;exact q2
structure KD{α:Type}(t:Sem α):Prop where
 out:∀ (M:Model) (Γ:PySem.Ctx) (Q:α->Pos->Shared->Prop) (E:Value->Pos->Shared->Prop) (p:Pos) (s:Shared),Sem.wp M Γ t Q E p s->Sem.wp M Γ t (fun a p' s'=>Q a p' s'/\DK s.heap s'.heap) (fun e p' s'=>E e p' s'/\DK s.heap s'.heap) p s
namespace KD
variable{α β:Type}
theorem pur(a:α):KD (Pure.pure a:Sem α):=⟨fun _ _ _ _ _ s h=>⟨h,.refl _⟩⟩
theorem uns(w:String):KD (PySem.unsupported w:Sem α):=⟨fun _ _ _ _ _ _ h=>h⟩
theorem bnd{m:Sem α}{f:α->Sem β}(hm:KD m)(hf:∀ a,KD (f a)):KD (m >>= f):=⟨fun M Γ Q E p s h=>by
 rw[Sem.wp_bind']at h ⊢;refine Sem.wp_mono M Γ m (fun a p' s' z=>?_) (fun _ _ _ z=>z) p s (hm.out M Γ _ _ p s h);exact Sem.wp_mono M Γ (f a) (fun _ _ _ q=>⟨q.1,z.2.trans q.2⟩) (fun _ _ _ q=>⟨q.1,z.2.trans q.2⟩) p' s' ((hf a).out M Γ _ _ p' s' z.1)⟩
theorem ite'{c:Prop}[Decidable c]{t u:Sem α}(ht:KD t)(hu:KD u):KD (if c then t else u):=by split<;>assumption
theorem ld(a:Addr):KD (PySem.load a):=⟨fun _ _ _ _ _ _ h=>by obtain⟨o,ho,h⟩:=h;exact⟨o,ho,h,.refl _⟩⟩
theorem upd(a:Addr){f:Obj->Obj}(hf:∀ o,(f o).dict=o.dict):KD (PySem.update a f):=⟨fun _ _ _ _ _ _ h=>⟨h.1,h.2,.update _ _ hf⟩⟩
theorem stk:KD PySem.stack:=⟨fun M Γ Q E p s h=>by
 unfold PySem.stack at h ⊢;rw[Sem.wp_stack]at h ⊢;exact⟨h,.refl _⟩⟩
theorem alc(o:Obj):KD (PySem.alloc o):=⟨fun _ _ _ _ _ _ h=>⟨h,.push _ _⟩⟩
theorem fld(v:Value)(i:Nat):KD (PySem.field v i):=⟨fun _ Γ Q E p s h=>by
 rw[wp_field_iff]at h ⊢;obtain⟨a,o,vs,x,e1,e2,e3,e4,h⟩:=h;exact⟨a,o,vs,x,e1,e2,e3,e4,h,.refl _⟩⟩
theorem set(v:Value)(i:Nat)(x:Value):KD (PySem.setField v i x):=⟨fun _ Γ Q E p s h=>by
 rw[wp_setField_iff]at h ⊢;obtain⟨a,o,vs,e1,e2,e3,e4,h⟩:=h;exact⟨a,o,vs,e1,e2,e3,e4,h,.update _ _ fun o=>by obtain⟨c,d,dt,sl⟩:=o;cases dt<;>rfl⟩⟩
end KD
theorem yau(env:Env)(l:List Env):KD (behindIsImport env l):=by unfold behindIsImport;(repeat' with_reducible first|assumption|exact KD.pur _|exact KD.uns _|exact KD.fld _ _|exact KD.set _ _ _|exact KD.ld _|exact KD.upd _ (fun _=>rfl)|exact KD.stk|exact KD.alc _|apply KD.ite'|apply KD.bnd|intro _|split)
theorem yaw:KD underTheClaimsCaller:=by unfold underTheClaimsCaller;(repeat' with_reducible first|assumption|exact KD.pur _|exact KD.uns _|exact KD.fld _ _|exact KD.set _ _ _|exact KD.ld _|exact KD.upd _ (fun _=>rfl)|exact KD.stk|exact KD.alc _|apply KD.ite'|apply KD.bnd|intro _|split)
theorem zs1(env:Env)(i:Bool)(l:List Env):KD (keptBack env i l):=by
 have:=yaw;cases l<;>unfold keptBack<;>(repeat' with_reducible first|assumption|exact KD.pur _|exact KD.uns _|exact KD.fld _ _|exact KD.set _ _ _|exact KD.ld _|exact KD.upd _ (fun _=>rfl)|exact KD.stk|exact KD.alc _|apply KD.ite'|apply KD.bnd|intro _|split)
theorem zmb:∀ l:List Env,KD (readyFrames l)
 |[]=>KD.pur _
 |env::l=>by
  have ih:=zmb l;have h1:=yau env l;have h2:=fun i=>zs1 env i l;unfold readyFrames
  (repeat' with_reducible first|assumption|exact KD.pur _|exact KD.uns _|exact KD.fld _ _|exact KD.set _ _ _|exact KD.ld _|exact KD.upd _ (fun _=>rfl)|exact KD.stk|exact KD.alc _|apply KD.ite'|apply KD.bnd|intro _|split)
  all_goals first|exact h2 _|skip
theorem zs3(l:List Env):KD (frameObject l):=by
 cases l with
 |nil=>exact KD.pur _
 |cons env l=>
  have:=zmb (env::l);unfold frameObject
  (repeat' with_reducible first|assumption|exact KD.pur _|exact KD.uns _|exact KD.fld _ _|exact KD.set _ _ _|exact KD.ld _|exact KD.upd _ (fun _=>rfl)|exact KD.stk|exact KD.alc _|apply KD.ite'|apply KD.bnd|intro _|split)
theorem zs2:KD frameEnvs:=by unfold frameEnvs;(repeat' with_reducible first|assumption|exact KD.pur _|exact KD.uns _|exact KD.fld _ _|exact KD.set _ _ _|exact KD.ld _|exact KD.upd _ (fun _=>rfl)|exact KD.stk|exact KD.alc _|apply KD.ite'|apply KD.bnd|intro _|split)
theorem zl9(env:Env):KD (PySem.frameOf env):=by
 have h1:=zs2;have h2:=zs3;unfold PySem.frameOf
 (repeat' with_reducible first|assumption|exact KD.pur _|exact KD.uns _|exact KD.fld _ _|exact KD.set _ _ _|exact KD.ld _|exact KD.upd _ (fun _=>rfl)|exact KD.stk|exact KD.alc _|apply KD.ite'|apply KD.bnd|intro _|split)
 all_goals first|exact h2 _|skip
theorem zma(f:Addr)(b:Bool):KD (entryPlaceOf f b):=by unfold entryPlaceOf;(repeat' with_reducible first|assumption|exact KD.pur _|exact KD.uns _|exact KD.fld _ _|exact KD.set _ _ _|exact KD.ld _|exact KD.upd _ (fun _=>rfl)|exact KD.stk|exact KD.alc _|apply KD.ite'|apply KD.bnd|intro _|split)
theorem zl8(a b c d e:Value)(l:List Value):KD (EntryCells.newEntry a b c d e l):=by
 unfold EntryCells.newEntry newFields newObj newObjAsIs;dsimp only
 (repeat' with_reducible first|assumption|exact KD.pur _|exact KD.uns _|exact KD.fld _ _|exact KD.set _ _ _|exact KD.ld _|exact KD.upd _ (fun _=>rfl)|exact KD.stk|exact KD.alc _|apply KD.ite'|apply KD.bnd|intro _|split)
theorem zs4(e:Value)(env:Env):KD (noteFrame e env):=by
 have h1:=zl9 env;have h2:=zma;have h3:=zl8;unfold noteFrame
 (repeat' with_reducible first|assumption|exact KD.pur _|exact KD.uns _|exact KD.fld _ _|exact KD.set _ _ _|exact KD.ld _|exact KD.upd _ (fun _=>rfl)|exact KD.stk|exact KD.alc _|apply KD.ite'|apply KD.bnd|intro _|split)
 all_goals first|exact h2 _ _|exact h3 _ _ _ _ _ _|skip
theorem zho(e:Value)(f:Option Addr):KD (setFlight e f):=by unfold setFlight;(repeat' with_reducible first|assumption|exact KD.pur _|exact KD.uns _|exact KD.fld _ _|exact KD.set _ _ _|exact KD.ld _|exact KD.upd _ (fun _=>rfl)|exact KD.stk|exact KD.alc _|apply KD.ite'|apply KD.bnd|intro _|split)
theorem ykc{α:Type}{M:Model}{A:Around}{t:Sem α}{Q:α->Shared->Prop}{E:Value->Shared->Prop}{s:Shared}(k:KD t)(h:wpAny M A t Q E s):wpAny M A t (fun a s'=>Q a s'/\DK s.heap s'.heap) E s:=
 fun Γ p hΓ=>Sem.wp_mono M Γ t (fun _ _ _ z=>z) (fun _ _ _ z=>z.1) p s (k.out M Γ _ _ p s (h Γ p hΓ))
section
variable{P:Program}{w:World}{H H':Hp}{h h':Heap}{a:Addr}{o:HO}
theorem zec(x:ye1 P w H h a o):∃ u,h.get? a=some u:=by
 cases o with
 |lst xs=>obtain⟨_,_,_,_,e⟩:=x;exact⟨_,e⟩
 |tup xs=>obtain⟨_,_,_,ob,e,_⟩:=x;exact⟨_,e⟩
 |dK kvs=>obtain⟨_,_,_,_,o,_,_,e,_⟩:=x;exact⟨_,e⟩
 |dT kvs=>obtain⟨_,_,_,_,o,_,_,e,_⟩:=x;exact⟨_,e⟩
 |set S n=>obtain⟨o,_,_,_,e,_⟩:=x;exact⟨_,e⟩
 |ins C dx fs=>obtain⟨_,_,_,e,_⟩:=x;exact⟨_,e⟩
 |own y=>obtain⟨_,e⟩:=x;exact⟨_,e⟩
 |xd fs=>obtain⟨_,⟨_,_,_,e,_⟩,_⟩:=x;exact⟨_,e⟩
 |rng lo hi=>obtain⟨_,_,_,e⟩:=x;exact⟨_,e⟩
 |frz ob u=>obtain⟨e,_⟩:=x;exact⟨_,e⟩
 |tbl ps=>exact⟨_,x⟩
 |met f y=>exact⟨_,x⟩
 |ext φ=>obtain⟨_,⟨_,e⟩,_⟩:=x;exact⟨_,e⟩
theorem yah(x:HOk P w H h)(k:∀ b o u,H b=some o->h.get? b=some u->h'.get? b=some u):HOk P w H h':=fun b o e=>
 (x b o e).stay (fun c v hc q=>by
  rcases hc with rfl|hc
  ·exact k _ _ _ e q
  ·exact k _ _ _ hc q) (fun _ q=>q) fun _ _ q=>q
end
section
variable{X:Cx}{pins:List (Addr × Obj)}{st:St}{H H':Hp}{s s':Shared}{cls:Value}{h':Heap}{ea:Addr}{args:List Value}{M:Model}{E:Value->Shared->Prop}{Q:Unit->Shared->Prop}
theorem zrm{B:Heap}{l:List Env}{a0:Value}{h:Heap}(x:Heap.FlyingW B l ea cls a0 h):yko B l ea cls a0 h:=⟨x.1,x.2.1,x.2.2.1,.inl ⟨.none,x.2.2.2.at⟩⟩
theorem yko.there{B:Heap}{l:List Env}{a0:Value}{h:Heap}(x:yko B l ea cls a0 h):∃ ob,h.get? ea=some ob/\ob.cls=cls:=by
 obtain⟨_,_,_,⟨fl,q⟩|⟨oe,vs,q1,q2,_⟩⟩:=x
 ·exact q.there
 ·exact⟨oe,q1,q2⟩
theorem FdH.next{fd:Option Nat}{B h h' h0:Heap}{H':Hp}(x:FdH fd ea B h h0 H')(k:DK h h')(e:∃ o,h'.get? ea=some o):FdH fd ea B h' h0 H':=fun n q=>by
 obtain⟨dN,oD,oe,q1,q2,q3⟩:=x n q;obtain⟨o,e⟩:=e;exact⟨dN,oD,o,e,(k.get q1 e).trans q2,q3⟩
theorem ztb{A:Around}{B:Heap}{l:List Env}{a0:Value}(x:yko B l ea cls a0 s.heap)(hQ:∀ h1,yko B l ea cls a0 h1->s.heap.UpToSlots h1->DK s.heap h1->Q () { s with heap:=h1 }):wpAny M A (setFlight (.ref ea) none) Q E s:=by
 obtain⟨f1,f2,f3,⟨fl,f4⟩|f4⟩:=x
 ·have k:wpAny M A (setFlight (.ref ea) none) (fun _ s'=>∃ h1,s'={ s with heap:=h1 }/\yko B l ea cls a0 h1/\s.heap.UpToSlots h1) E s:=
   wpAny_setFlight_noneW f1 f3 f4 fun h1 k1 k2 k3 k4=>⟨h1,rfl,zrm ⟨k1,f2,k2,k3⟩,fun b o e n=>⟨o.slots,k4 b o e n⟩⟩
  exact wpAny_mono (ykc (zho _ _) k) (fun _ _ ⟨⟨h1,e,q1,q2⟩,q3⟩=>by subst e;exact hQ h1 q1 q2 q3) fun _ _ z=>z
 ·obtain⟨oe,vs,he,hc,hd,hz,h0,h1⟩:=id f4;unfold setFlight;refine wpAny_bind (wpAny_field he hd h1 ?_);rw[if_neg (show ¬ ((Value.none != Value.none)=true)from by decide)];exact wpAny_pure (hQ s.heap ⟨f1,f2,f3,.inr f4⟩ (.refl _) (.refl _))
theorem zti{A:Around}{B:Heap}{env:Env}{outer:List Env}{L:Addr}{a0:Value}(hfr:A.frames=some (env::outer))(hf:env.frame=some L)(x:yko B (env::outer) ea cls a0 s.heap)
  (hQ:∀ h1,Heap.HeldW B (env::outer) ea cls a0 L h1->s.heap.UpToSlots h1->Q () { s with heap:=h1 }):wpAny M A (noteFrame (.ref ea) env) Q E s:=by
 obtain⟨f1,f2,f3,⟨fl,f4⟩|f4⟩:=x
 ·by_cases hm:fl=rawInt L
  ·subst hm;exact wpAny_noteFrame_againW hf f4 (hQ s.heap ⟨f1,f2,f3,f4⟩ (.refl _))
  ·obtain⟨oe,vs,T,oT,ts,he,hc,hd,h1,hnT,hTe,hT,hdT,h3⟩:=f4;have sz:3<ts.size:=(Array.getElem?_eq_some_iff.mp h3).1;have oth:∀ b,b≠T->(s.heap.update T (Obj.mapFields (·.setIfInBounds 3 Value.none))).get? b=s.heap.get? b:=fun b hb=>Heap.get?_update_other _ _ (Ne.symm hb);have nr:∀ b o,s.heap.get? b=some o->(∀ v,o.data≠.fields v)->b≠T:=fun b o hb hn q=>by
    rw[q,hT]at hb;cases hb;exact hn ts hdT
   have selfT:=Heap.get?_update_self (Obj.mapFields (·.setIfInBounds 3 Value.none)) hT (Obj.isFreed_of_fields (Obj.data_mapFields hdT _));have up:s.heap.UpToSlots (s.heap.update T (Obj.mapFields (·.setIfInBounds 3 Value.none))):=fun b o e n=>⟨o.slots,(oth b (nr b o e n)).trans e⟩
   have F0:Heap.FlyingW B (env::outer) ea cls a0 (s.heap.update T (Obj.mapFields (·.setIfInBounds 3 Value.none))):=
    ⟨fun b o e=>(oth b fun q=>by rw[q,hnT]at e;cases e).trans (f1 b o e),f2,f3.of_keeps fun b o e n=>⟨o,(oth b (nr b o e n)).trans e,rfl⟩,
     oe,vs,T,_,_,(oth ea (Ne.symm hTe)).trans he,hc,hd,h1,hnT,hTe,selfT,Obj.data_mapFields hdT _,by simp[sz]⟩
   have key:=wpAny_looks_onW (M:=M) (E:=E) (Q:=Q) (s:={ s with heap:=s.heap.update T (Obj.mapFields (·.setIfInBounds 3 Value.none)) }) hfr hf F0 fun h2 q1 q2=>hQ h2 q1 (up.trans q2);intro Γ p hΓ;have k:=key Γ p hΓ;unfold noteFrame at k ⊢;simp only[hf]at k ⊢;rw[Sem.wp_bind',wp_field_iff]at k ⊢;obtain⟨a1,o1,v1,x1,e1,g1,d1,i1,k⟩:=k;cases e1;have g1':s.heap.get? ea=some o1:=(oth ea (Ne.symm hTe)).symm.trans g1;have o1e:o1=oe:=by rw[he]at g1';cases g1';rfl
   subst o1e;rw[hd]at d1;cases d1;rw[h1]at i1;cases i1;refine⟨ea,o1,vs,.ref T,rfl,he,hd,h1,?_⟩;have nn:(Value.ref T != Value.none)=true:=by simp
   simp only[nn,if_true]at k ⊢;rw[Sem.wp_bind',wp_field_iff]at k ⊢;obtain⟨a2,o2,v2,x2,e2,g2,d2,i2,k⟩:=k;cases e2;have g2':=selfT.symm.trans g2;cases g2';have d2':=(Obj.data_mapFields hdT (·.setIfInBounds 3 Value.none)).symm.trans d2;cases d2';have x2e:x2=Value.none:=by
    have:(ts.setIfInBounds 3 Value.none)[3]?=some Value.none:=by simp[sz]
    rw[this]at i2;cases i2;rfl
   subst x2e;refine⟨T,oT,ts,fl,rfl,hT,hdT,h3,?_⟩;have n1:(Value.none == rawInt L)=false:=by simp[rawInt]
   have n2:(fl == rawInt L)=false:=by
    cases q:fl == rawInt L with
    |false=>rfl
    |true=>exact absurd (beq_iff_eq.mp q) hm
   simp only[n1,n2,Bool.false_eq_true,if_false]at k ⊢;rw[Sem.wp_bind',wp_setField_iff]at k ⊢;obtain⟨a3,o3,v3,e3,g3,d3,i3,k⟩:=k;cases e3;refine⟨T,oT,ts,rfl,hT,hdT,sz,?_⟩;simp only[Heap.update_setField_twice]at k;exact k
 ·obtain⟨oe,vs,he,hc,hd,hz,h0,h1⟩:=f4;unfold noteFrame;simp only[hf];refine wpAny_bind (wpAny_field he hd h1 ?_);rw[if_neg (by decide)];refine wpAny_entryW (base:=B) (outer:=outer) (a0:=a0) hfr f3 hf he f1 f2 hd hz h0 fun h4 hN=>?_;obtain⟨k1,k2,k3,k4⟩:=hN;rw[hc]at k3;exact hQ h4 ⟨k1,f2,k2,k3⟩ k4
theorem ztj{A:Around}{B:Heap}{env:Env}{outer:List Env}{L:Addr}{a0:Value}(hfr:A.frames=some (env::outer))(hf:env.frame=some L)(x:yko B (env::outer) ea cls a0 s.heap)
  (hQ:∀ h1,Heap.HeldW B (env::outer) ea cls a0 L h1->s.heap.UpToSlots h1->DK s.heap h1->Q () { s with heap:=h1 }):wpAny M A (noteFrame (.ref ea) env) Q E s:=by
 have k:wpAny M A (noteFrame (.ref ea) env) (fun _ s'=>∃ h1,s'={ s with heap:=h1 }/\Heap.HeldW B (env::outer) ea cls a0 L h1/\s.heap.UpToSlots h1) E s:=zti hfr hf x fun h1 q1 q2=>⟨h1,rfl,q1,q2⟩
 exact wpAny_mono (ykc (zs4 _ _) k) (fun _ _ ⟨⟨h1,e,q1,q2⟩,q3⟩=>by subst e;exact hQ h1 q1 q2 q3) fun _ _ z=>z
theorem yag{B:Heap}{l:List Env}{a0:Value}{L:Addr}{h:Heap}(x:Heap.HeldW B l ea cls a0 L h):yko B l ea cls a0 h:=⟨x.1,x.2.1,x.2.2.1,.inl ⟨_,x.2.2.2⟩⟩
theorem zmk{A:Around}{B:Heap}{env:Env}{outer:List Env}{L:Addr}{a0:Value}(hfr:A.frames=some (env::outer))(hf:env.frame=some L)(x:yko B (env::outer) ea cls a0 s.heap)
  (hQ:∀ h1,yko B outer ea cls a0 h1->s.heap.UpToSlots h1->DK s.heap h1->Q () { s with heap:=h1 }):wpAny M A (leaving env (.ref ea)) Q E s:=by
 unfold leaving;refine wpAny_bind (ztj hfr hf x fun h1 q1 q2 q3=>?_);refine ztb (yag q1) fun h2 q4 q5 q6=>?_;obtain⟨k1,k2,⟨_,_,k3⟩,k4⟩:=q4;exact hQ h2 ⟨k1,k2,k3,k4⟩ (q2.trans q5) (q3.trans q6)
theorem zrv(hs:X.stack=X.env::X.outer)(hf:X.env.frame=some X.env.locals){b:Addr}:b∈frs X.stack ↔ b=X.env.locals\/b∈frs X.outer:=by
 rw[hs];unfold frs;rw[List.filterMap_cons,hf];exact List.mem_cons
theorem zzs(I:Inv X pins st H s)(hs:X.stack=X.env::X.outer)(hf:X.env.frame=some X.env.locals)(hx:X.ex=[]){h'':Heap}(un:Un (frs X.stack) [] H H' s.heap h''):Un (frs X.outer) [] X.H₀ H' X.s₀.heap h'':=by
 have nex:∀ b,b ∉ X.ex:=fun b z=>by rw[hx]at z;cases z
 have neL:∀ b o,X.s₀.heap.get? b=some o->b≠X.env.locals:=fun b o e=>Nat.ne_of_lt (Nat.lt_of_lt_of_le (Heap.lt_size e) I.ok.above);refine⟨fun b o e n hb _=>?_,fun b o e n hb _=>?_,fun b o e n _=>?_,fun b o e _=>?_,fun b xs e=>un.tups b xs (I.base.tups b xs e),fun b o u e=>un.frzs b o u (I.base.frzs b o u e),fun b ps e=>?_⟩
 ·exact un.keep b o (I.base.keep b o e n hb (nex b)) (I.base.free b o e n (nex b)) (fun z=>((zrv hs hf).mp z).elim (neL b o e) hb) (by simp)
 ·obtain⟨sl,e1⟩:=I.base.slot b o e n hb (nex b);obtain⟨sl',e2⟩:=un.slot b _ e1 (I.base.free b o e n (nex b)) ((zrv hs hf).mpr (.inr hb)) (by simp);exact⟨sl',e2⟩
 ·obtain⟨o',e1⟩:=I.base.there b o e (nex b);exact un.free b o' e1 (I.base.free b o e n (nex b)) (by simp)
 ·obtain⟨o',e1⟩:=I.base.there b o e (nex b);exact un.there b o' e1 (by simp)
 ·obtain⟨m1,e1⟩:=I.base.tbls b ps e;obtain⟨m2,e2⟩:=un.tbls b _ e1;exact⟨m1++m2,by rw[e2,Array.append_assoc]⟩
theorem zzt{P:Program}{w:World}{outer:List Env}{e:Value}{fd:Option Nat}(F:Fly P w outer H s cls fd H' e s'){h6:Heap}{B:Heap}(hB:∀ b o,s.heap.get? b=some o->H b=none->b ∉ frs outer->B.get? b=some o)(hT:∀ b o,H' b=some o->∃ ob,B.get? b=some ob)
  (hA:∀ b o,s.heap.get? b=some o->b ∉ frs outer->∃ o',B.get? b=some o') (hb0:∀ b o,B.get? b=some o->s'.heap.get? b=some o) (hb6:∀ b o,B.get? b=some o->h6.get? b=some o) (hsl:s'.heap.UpToSlots h6) (hfr:∀ b∈frs outer,∃ o,s.heap.get? b=some o/\(∀ vs,o.data≠.fields vs)/\H b=none) :
  Un (frs outer) [] H H' s.heap h6/\HOk P w H' h6:=by
 refine⟨⟨fun b o e n hb _=>hb6 b o (hB b o e n hb),fun b o e n hb hx=>?_,F.un.free,fun b o e hx=>?_,F.un.tups,F.un.frzs,F.un.tbls⟩,yah F.hok fun b o u e q=>?_⟩
 ·obtain⟨sl,e1⟩:=F.un.slot b o e n hb hx;obtain⟨o',e',hd,_⟩:=hfr b hb;rw[e]at e';cases e';obtain⟨sl',e2⟩:=hsl b _ e1 hd;exact⟨sl',e2⟩
 ·by_cases hb:b∈frs outer
  ·obtain⟨o',e',hd,hn⟩:=hfr b hb;rw[e]at e';cases e';obtain⟨sl,e1⟩:=F.un.slot b o e hn hb hx;obtain⟨sl',e2⟩:=hsl b _ e1 hd;exact⟨_,e2⟩
  ·obtain⟨o',e1⟩:=hA b o e hb;exact⟨o',hb6 b o' e1⟩
 ·obtain⟨ob,e1⟩:=hT b o e;have:=hb0 b ob e1;rw[q]at this;cases this;exact hb6 b _ e1
theorem ze7(I:Inv X pins st H s):∀ b∈frs X.stack,∃ o,s.heap.get? b=some o/\(∀ vs,o.data≠.fields vs)/\H b=none:=fun b hb=>by
 obtain⟨_,o,e,hd⟩:=I.stack.mem hb;exact⟨o,e,hd,I.stkFree b hb⟩
theorem zmj(I:Inv X pins st H s)(hs:X.stack=X.env::X.outer)(hf:X.env.frame=some X.env.locals)(hex:X.ex=[]){e:Value}{fd:Option Nat}(F:Fly X.prog X.w X.stack H s cls fd H' e s')
  (hQ:∀ s'',Fly X.prog X.w X.outer X.H₀ X.s₀ cls fd H' e s''->Q () s''):wpAny M X.A (leaving X.env e) Q E s':=by
 obtain⟨ea,a0,B,rfl,fl,hn,hnew,hT,hB,hA,hF⟩:=F.ex;have fl':yko B (X.env::X.outer) ea cls a0 s'.heap:=by rw[<-hs];exact fl
 refine zmk (by rw[<-hs];exact I.ok.frames) hf fl' fun h'' x1 x2 x3=>hQ _ ?_;obtain⟨un,hok⟩:=zzt F hB hT hA fl.1 x1.1 x2 (ze7 I);have nex:∀ b,b ∉ X.ex:=fun b z=>by rw[hex]at z;cases z
 have neL:∀ b o,X.s₀.heap.get? b=some o->b≠X.env.locals:=fun b o e=>Nat.ne_of_lt (Nat.lt_of_lt_of_le (Heap.lt_size e) I.ok.above);have new0:∀ b,s.heap.get? b=none->X.s₀.heap.get? b=none:=fun b e=>by
  cases q:X.s₀.heap.get? b with
  |none=>rfl
  |some u=>obtain⟨v,e'⟩:=I.base.there _ _ q (nex _);rw[e]at e';cases e'
 have hF':FdH fd ea B h'' X.s₀.heap H':=fun n q=>by
  obtain⟨dN,oD,oe,z1,z2,z3,z4,z5,z6⟩:=hF.next x3 (let ⟨o,e,_⟩:=x1.there;⟨o,e⟩) n q;exact⟨dN,oD,oe,z1,z2,z3,z4,z5,new0 _ z6⟩
 refine⟨⟨ea,a0,B,rfl,x1,hn,?_,hT,fun b o e n hb=>?_,fun b o e hb=>?_,hF'⟩,F.os.trans I.os,F.bare,zzs I hs hf hex un,hok⟩
 ·cases q:X.s₀.heap.get? ea with
  |none=>rfl
  |some u=>obtain⟨v,e⟩:=I.base.there _ _ q (nex _);rw[hnew]at e;cases e
 ·exact hB b o (I.base.keep b o e n hb (nex b)) (I.base.free b o e n (nex b)) fun z=>((zrv hs hf).mp z).elim (neL b o e) hb
 ·obtain⟨o',q⟩:=I.base.there b o e (nex b);exact hA b o' q fun z=>((zrv hs hf).mp z).elim (neL b o e) hb
end
theorem yee{P:Program}{w:World}{K:PySem.W.Frag}{mg:Str->Option Value}{base:Heap}{N:List Str}{qual:Str}{scope:Scope}{f:Addr}{cd:Value}{A:Around}{outer:List Env}{s:Shared}{H:Hp}{E:XK}{st:St}{cls:Value}{fd:Option Nat}{H':Hp}
  (h:E cls fd H'):Thr (yly (CXE P w) P w K mg base N qual scope f cd A outer s H E) st cls fd H' where
 fly:=fun pins H1 s1 e s' I F=>zmj I rfl rfl rfl F fun s'' G=>⟨cls,fd,H',G,h⟩
theorem Thr.made{X:Cx}{pins:List (Addr × Obj)}{st:St}{H':Hp}{s:Shared}{cls:Value}{ea:Addr}{h':Heap}{args:List Value}(t:Thr X st cls none H')(I:Inv X pins st H' s)(hx:Heap.MadeExcOf s.heap h' ea cls args):X.xe (.ref ea) { s with heap:=h' }:=by
 have ff:s.heap.FunFrames (PySem.W.hideAll s.heap (frs X.stack)) X.stack:=PySem.W.funFrames_hide (as:=frs X.stack) I.stack (fun env he a ha=>List.mem_filterMap.mpr ⟨env,he,ha⟩);have hid:∀ b o,s.heap.get? b=some o->b ∉ frs X.stack->(PySem.W.hideAll s.heap (frs X.stack)).get? b=some o:=fun b o e n=>PySem.W.hideAll_get _ e n;obtain⟨t0,he,htn,ht⟩:=hx.there;have nst:∀ b o,H' b=some o->b ∉ frs X.stack:=fun b o e z=>by rw[I.stkFree b z]at e;cases e
 have hn:H' ea=none:=by
  cases q:H' ea with
  |none=>rfl
  |some u=>obtain⟨v,e⟩:=zec (I.hok _ _ q);rw[hx.new]at e;cases e
 refine t.fly pins H' s (.ref ea) _ I ⟨⟨ea,.ref t0,PySem.W.hideAll s.heap (frs X.stack),rfl,⟨fun b o q=>hx.keeps b o (PySem.W.of_hideAll _ q),?_,ff.of_keeps fun b o e _=>⟨o,hx.keeps b o e,rfl⟩,.inr ⟨_,_,he,rfl,rfl,by simp,rfl,rfl⟩⟩,hn,hx.new,fun b o e=>?_,fun b o e n hb=>hid b o e hb,fun b o e hb=>⟨o,hid b o e hb⟩,fun n q=>by cases q⟩,rfl,I.bare,⟨fun b o e n hb _=>hx.keeps b o e,fun b o e n hb _=>⟨o.slots,hx.keeps b o e⟩,fun b o e n _=>n,fun b o e _=>⟨o,hx.keeps b o e⟩,fun _ _ e=>e,fun _ _ _ e=>e,fun b ps e=>⟨#[],by rw[e];simp⟩⟩,yah I.hok fun b o u e q=>hx.keeps b u q⟩
 ·cases q:(PySem.W.hideAll s.heap (frs X.stack)).get? ea with
  |none=>rfl
  |some u=>have:=PySem.W.of_hideAll _ q;rw[hx.new]at this;cases this
 ·obtain⟨u,q⟩:=zec (I.hok _ _ e);exact⟨u,hid b u q (nst b o e)⟩
theorem zif{P:Program}{w:World}{K:PySem.W.Frag}{mg:Str->Option Value}{base:Heap}{N:List Str}{qual:Str}{scope:Scope}{f:Addr}{cd:Value}{A:Around}{outer:List Env}{s:Shared}{H:Hp}{E:XK} :
  PassesOwn (model P w) (yly (CXE P w) P w K mg base N qual scope f cd A outer s H E).A (yly (CXE P w) P w K mg base N qual scope f cd A outer s H E).env (yly (CXE P w) P w K mg base N qual scope f cd A outer s H E).xe:=PassesOwn.leaving
def yma:Fl->M D
 | .nx _=>ret .non
 | .rt d=>ret d
 | .xc _ x=>fun σ=>.ex x σ
 |_=>bad
def yof:Out Fl->Out D
 | .ok fl σ=>yma fl σ
 |_=>.bad
def run(n:Nat)(g:Ev->M Fl)(ds:List D):M D:=fun σ=>yof (g (ds.map some++List.replicate (n - ds.length) none) σ)
def spF(T:Tb)(n:Nat)(f:List D->M D):Sp:=fun vs H Q E=>∃ μ σ ds,yk4 T μ H ds vs/\ds.length=n/\Rel T μ H σ/\yky T E (Rep T) μ H (f ds σ) Q
def fnK(n:Nat)(f:List D->M D)(dds:List D)(ds:List D):M D:=if (ds++dds).length=n then f (ds++dds)else bad
def eFn(n:Nat)(f:List D->M D)(dds:List D)(fs:Ev->M (List D)):Ev->M D:=fun ρ=>bnd (fs ρ) (fnK n f dds)
section
variable{T:Tb}{X:Cx}
theorem zi4{μ:List Addr}{H:Hp}{ds:List D}{vs:List V}{N:List Str}(h:yk4 T μ H ds vs):ykl T μ H (ds.map some++List.replicate (N.length - ds.length) none) (L2.yjj N vs):=by
 have hl:=h.length;refine⟨by simp[L2.yjj,hl],fun i d e=>?_⟩;by_cases hi:i<ds.length
 ·rw[List.getElem?_append_left (by simpa using hi),List.getElem?_map]at e;cases e2:ds[i]? with
  |none=>rw[e2]at e;cases e
  |some x=>
   rw[e2]at e;cases e;obtain⟨v,h1,h2⟩:=h.get e2;refine⟨v,?_,h2⟩;unfold L2.yjj;rw[List.getElem?_append_left (by simpa [<-hl]using hi),List.getElem?_map,h1];rfl
 ·rw[List.getElem?_append_right (by simpa using hi),List.getElem?_replicate]at e;split at e<;>cases e
variable{k:Nat}{f C:Addr}{fd:FuncData}{ps:List Str}{dvs:List V}{dval:List Value}{dds:List D}{x:Str}{p pos:Pos}{e:Expr}{es:List Expr}{fn:List D->M D}{fs:Ev->M (List D)}{sp:Sp}{t:TA}
theorem zvx{pins:List (Addr × Obj)}{st:St}{H:Hp}{s:Shared}{Q:VK}{us:List Value}{vs:List V}(F:FnOk X.prog X.w X.K X.mg X.base (CXE X.prog X.w) k f fd ps sp)(hr:Room k X.A)(hb:yeu X.K fd ps dval)(hd:yla dvs dval)
  (I:Inv X pins st H s) (r:yla vs us) (h:sp (vs++dvs) H Q (XE X st)):wpAny (model X.prog X.w) X.A (call (.ref f) us) (EP X pins st Q) X.xe s:=by
 have r2:yla (vs++dvs) (us++dval):=r.append hd;have hl:(us++dval).length=ps.length:=by rw[<-r2.length];exact F.len _ _ _ _ h
 refine wpAny_call (codeAny_mono (F.run X.A X.stack s H ⟨us,[]⟩ (us++dval) (vs++dvs) Q (XE X st) hr I.env0 (hb s us I.kIn hl) r2 h) fun r s' hq=>?_);cases r with
 |error e=>obtain⟨cls,fd,H',hfly,ht⟩:=hq;exact ht.fly pins H s e s' I hfly
 |ok fl=>
  cases fl with
  |ret u=>exact I.after hq
  |next=>exact False.elim hq
  |brk=>exact False.elim hq
  |cont=>exact False.elim hq
theorem zq8(F:FnOk X.prog X.w X.K X.mg X.base (CXE X.prog X.w) k f fd ps (spF T ps.length fn))(hr:Room k X.A)(hg:Gl X x)(hm:X.mg x=some (.ref f))(hk:PySem.W.keepIn X.K (.ref f)=true)(hb:yeu X.K fd ps dval)(hd:yla dvs dval)(hdd:∀ μ H,yk4 T μ H dds dvs)
  (ha:FA T X (e::es) fs) (hdb:(x == ("__debug__" : Str))=false:=by decide) (he:starEach (e::es) X.env=(false,eval e X.env)::starEach es X.env:=by rfl) (hpl:(backTo pos (starEach es X.env)).any (·.1)=false:=by rfl) :
  FE T X (.Call (.Name x p) (e::es) [] pos) (eFn ps.length fn dds fs):=by
 intro pins s st H Q I h;refine wpAny_Call_Name_kw (ztf I hg hm ?_ hdb);obtain⟨μ,ρ,σ,hE,hr',hp⟩:=h;refine PySem.W.callWith_K (h₀:=X.base) I.ok.mod.kin hk (thn (ha pos pins s st H (fun vs H1=>spF T ps.length fn (vs++dvs) H1 Q (XE X st)) I ⟨μ,ρ,σ,hE,hr',hp.bind fun ds σ1 μ1 vs H1 _ e1 r1 p1 q1=>?_⟩) fun us s1 ⟨vs,H1,I1,r,q⟩=>⟨I1.kIn,?_⟩) he hpl
 ·unfold fnK at q1;by_cases hl:(ds++dds).length=ps.length
  ·rw[if_pos hl]at q1;exact⟨μ1,σ1,ds++dds,p1.append (hdd _ _),hl,r1,q1⟩
  ·rw[if_neg hl]at q1;exact q1.elim
 ·exact zvx F hr hb hd I1 r q
variable{P:Program}{w:World}{K:PySem.W.Frag}{mg:Str->Option Value}{base:Heap}
theorem fok{x qual:Str}{st:Stmt}{N:List Str}{g:Ev->M Fl}{params:Arguments}{dV kV doc pm cdv ct oc:Value}{an od:Option Addr}{osl:Array (Option Value)}
  (lk:K.lookup f=some ⟨oc,od,.func (PySem.W.fnOf x qual params (zqt st) (zkd st) dV kV doc pm an cdv ct),osl⟩) (hcd:PySem.W.codeIn K cdv qual=true) (S:FnScope N ps (zkd st))
  (hb:∀ (A:Around) (outer:List Env) (s:Shared) (H:Hp) (E:XK),Room k (A.deeper (envOfC qual (zkd st) s.heap.objs.size f cdv))->FSs T (yly (CXE P w) P w K mg base N qual (zkd st) f cdv A outer s H E) (zqt st) g) :
  FnOk P w K mg base (CXE P w) (k+1) f (PySem.W.fnOf x qual params (zqt st) (zkd st) dV kV doc pm an cdv ct) ps (spF T ps.length (run N.length g)):=by
 refine ygk lk hcd S (fun vs H Q E h=>?_) (fun A outer s H vs Q E hr h=>?_)
 ·obtain⟨μ,σ,ds,h1,h2,_⟩:=h;rw[<-h1.length];exact h2
 ·obtain⟨μ,σ,ds,h1,h2,h3,h4⟩:=h;refine⟨_,hb A outer s H E hr,μ,_,σ,zi4 h1,h3,?_⟩;unfold run at h4;cases eg:g (ds.map some++List.replicate (N.length - ds.length) none) σ with
  |bad=>rw[eg]at h4;exact h4
  |ex x σ1=>rw[eg]at h4;exact h4.elim
  |ok fl σ1=>
   rw[eg]at h4;intro μ1 gl H1 e1 r1 q1;have p1:=h4.mono e1;cases fl with
   |nx ρ2=>cases gl with
    |nx st2=>have z:Q V.non H1:=yky.here (d:=D.non) p1 r1 (by rw[Rep]);exact z
    |_=>exact q1.elim
   |rt d2=>cases gl with
    |rt v2=>have z:Q v2 H1:=yky.here (d:=d2) p1 r1 q1;exact z
    |_=>exact q1.elim
   |xc ρ2 x2=>cases gl with
    |xc st2 c2 fd2=>
     obtain⟨_,rfl,rfl⟩:=q1;exact yee (p1 μ1 H1 (Ext.refl _ _) r1)
    |_=>exact q1.elim
   |_=>exact p1.elim
theorem zrr(F:FnOk P w K mg base (CXE P w) k f fd ps (spF T ps.length fn)):FnOk P w K mg base (CXE P w) k f fd ps (spF T ps.length (fun ds=>frz (fn ds))):=
 F.imp fun vs H Q E h=>by
  obtain⟨μ,σ,ds,h1,h2,h3,h4⟩:=h;exact⟨μ,σ,ds,h1,h2,h3,yky.frz h3 h4⟩
end
def ylu(env:Env)(names:List (Str × NameKind))(acc:List (Str × Addr)):List (Str × Addr):=
 names.foldl (fun cs y=>if (y.2 == .free)=true then (match env.cells.lookup y.1 with|some c=>(y.1,c)::cs|none=>cs)else cs) acc
theorem ze1(env:Env):∀ (names:List (Str × NameKind)) (acc:List (Str × Addr)),(∀ y∈names,y.2=.free->∃ c,env.cells.lookup y.1=some c)->
  (forIn names acc (fun x (cs:List (Str × Addr))=>match x with|(name,kind)=>if (kind == .free)=true then (do let a <-cellOf env name;pure (ForInStep.yield ((name,a)::cs)))else pure (ForInStep.yield cs)):Sem (List (Str × Addr)))=pure (ylu env names acc)
 |[],acc,_=>rfl
 |(n,k)::r,acc,h=>by
  rw[List.forIn_cons];by_cases hk:(k == NameKind.free)=true
  ·obtain⟨c,hc⟩:=h (n,k) List.mem_cons_self (by simpa using hk);have e1:cellOf env n=pure c:=by unfold cellOf;rw[hc]
   simp only[hk,if_true,e1];show (forIn r ((n,c)::acc) _:Sem (List (Str × Addr)))=_;rw[ze1 env r ((n,c)::acc) fun y hy=>h y (List.mem_cons_of_mem _ hy)];have e2:ylu env ((n,k)::r) acc=ylu env r ((n,c)::acc):=by
    unfold ylu;rw[List.foldl_cons];simp only[hk,if_true,hc]
   rw[e2]
  ·simp only[hk];show (forIn r acc _:Sem (List (Str × Addr)))=_;rw[ze1 env r acc fun y hy=>h y (List.mem_cons_of_mem _ hy)];have e2:ylu env ((n,k)::r) acc=ylu env r acc:=by
    unfold ylu;rw[List.foldl_cons];simp only[hk];rfl
   rw[e2]
theorem ze2(env:Env)(scope:Scope)(h:∀ y∈scope.names,y.2=.free->∃ c,env.cells.lookup y.1=some c):closureFor scope env=pure (ylu env scope.names []):=by
 have e:=ze1 env scope.names [] h;unfold closureFor;simp only[bind_pure];exact e
theorem zyj(env:Env):∀ (names:List (Str × NameKind)) (acc:List (Str × Addr)) (n:Str) (c:Addr),(∀ n c,acc.lookup n=some c->env.cells.lookup n=some c)->(ylu env names acc).lookup n=some c->env.cells.lookup n=some c
 |[],acc,n,c,h,e=>h n c e
 |(y,k)::r,acc,n,c,h,e=>by
  unfold ylu at e;rw[List.foldl_cons]at e;refine zyj env r _ n c (fun n c q=>?_) e;by_cases hk:(k == NameKind.free)=true
  ·simp only[hk,if_true]at q;cases hc:env.cells.lookup y with
   |none=>rw[hc]at q;exact h n c q
   |some c'=>
    rw[hc]at q;rw[List.lookup_cons]at q;cases hn:(n == y)with
    |true=>rw[hn]at q;cases q;rw[eq_of_beq hn];exact hc
    |false=>rw[hn]at q;exact h n c q
  ·simp only[hk]at q;exact h n c q
theorem zqi(env:Env):∀ (names:List (Str × NameKind)) (acc:List (Str × Addr)) (n:Str),(∃ c,acc.lookup n=some c)->∃ c,(ylu env names acc).lookup n=some c
 |[],acc,n,h=>h
 |(y,k)::r,acc,n,h=>by
  unfold ylu;rw[List.foldl_cons];refine zqi env r _ n ?_;by_cases hk:(k == NameKind.free)=true
  ·simp only[hk,if_true];cases hc:env.cells.lookup y with
   |none=>exact h
   |some c'=>
    show ∃ c,List.lookup n ((y,c')::acc)=some c;rw[List.lookup_cons];cases hn:(n == y)with
    |true=>exact⟨c',rfl⟩
    |false=>exact h
  ·simp only[hk];exact h
theorem zyd(env:Env):∀ (names:List (Str × NameKind)) (acc:List (Str × Addr)) (n:Str),(n,NameKind.free)∈names->(∃ c,env.cells.lookup n=some c)->∃ c,(ylu env names acc).lookup n=some c
 |[],acc,n,h,_=>nomatch h
 |(y,k)::r,acc,n,h,hc=>by
  unfold ylu;rw[List.foldl_cons];rcases List.mem_cons.mp h with e|e
  ·cases e;refine zqi env r _ _ ?_;obtain⟨c,hc⟩:=hc;refine⟨c,?_⟩;simp[hc]
  ·exact zyd env r _ n e hc
theorem zbm{env:Env}:∀ {names:List (Str × NameKind)} {x:Str} {k:NameKind},
  (names.map fun(n,k)=>if (k == NameKind.free && env.scope.kind == .function && env.kindOf n == some .cell)then (n,NameKind.cell)else (n,k)).lookup x=some k->∃ k0,names.lookup x=some k0/\(k=k0\/(k0=.free/\k=.cell))
 |[],_,_,h=>by simp at h
 |(n,k0)::r,x,k,h=>by
  have ih:=@zbm env r x k;have h':List.lookup x ((if (k0 == NameKind.free && env.scope.kind == .function && env.kindOf n == some .cell)=true then (n,NameKind.cell)else (n,k0))::(r.map fun(n,k)=>if (k == NameKind.free && env.scope.kind == .function && env.kindOf n == some .cell)then (n,NameKind.cell)else (n,k)))=some k:=h;cases hx:x == n with
  |true=>
   by_cases hc:(k0 == NameKind.free && env.scope.kind == .function && env.kindOf n == some .cell)=true
   ·rw[if_pos hc]at h';simp only[List.lookup_cons,hx]at h' ⊢;cases h';simp only[Bool.and_eq_true]at hc;exact⟨k0,rfl,.inr ⟨by simpa using hc.1.1,rfl⟩⟩
   ·rw[if_neg hc]at h';simp only[List.lookup_cons,hx]at h' ⊢;cases h';exact⟨k0,rfl,.inl rfl⟩
  |false=>
   by_cases hc:(k0 == NameKind.free && env.scope.kind == .function && env.kindOf n == some .cell)=true
   ·rw[if_pos hc]at h';simp only[List.lookup_cons,hx]at h' ⊢;exact ih h'
   ·rw[if_neg hc]at h';simp only[List.lookup_cons,hx]at h' ⊢;exact ih h'
theorem zdf{env:Env}:∀ {names:List (Str × NameKind)} {x:Str},names.lookup x=some .free->
  (names.map fun(n,k)=>if (k == NameKind.free && env.scope.kind == .function && env.kindOf n == some .cell)then (n,NameKind.cell)else (n,k)).lookup x=some .cell\/
  (names.map fun(n,k)=>if (k == NameKind.free && env.scope.kind == .function && env.kindOf n == some .cell)then (n,NameKind.cell)else (n,k)).lookup x=some .free
 |[],_,h=>by simp at h
 |(n,k)::r,x,h=>by
  have ih:=@zdf env r x;have goal:∀ z,List.lookup x ((if (k == NameKind.free && env.scope.kind == .function && env.kindOf n == some .cell)=true then (n,NameKind.cell)else (n,k))::(r.map fun(n,k)=>if (k == NameKind.free && env.scope.kind == .function && env.kindOf n == some .cell)then (n,NameKind.cell)else (n,k)))=z->
   (List.map (fun(n,k)=>if (k == NameKind.free && env.scope.kind == .function && env.kindOf n == some .cell)then (n,NameKind.cell)else (n,k)) ((n,k)::r)).lookup x=z:=fun z e=>e
  cases hx:x == n with
  |true=>
   simp only[List.lookup_cons,hx]at h;cases h;by_cases hc:(NameKind.free == NameKind.free && env.scope.kind == .function && env.kindOf n == some .cell)=true
   ·exact .inl (goal _ (by rw[if_pos hc];simp only[List.lookup_cons,hx]))
   ·exact .inr (goal _ (by rw[if_neg hc];simp only[List.lookup_cons,hx]))
  |false=>
   simp only[List.lookup_cons,hx]at h;have e:List.lookup x ((if (k == NameKind.free && env.scope.kind == .function && env.kindOf n == some .cell)=true then (n,NameKind.cell)else (n,k))::(r.map fun(n,k)=>if (k == NameKind.free && env.scope.kind == .function && env.kindOf n == some .cell)then (n,NameKind.cell)else (n,k))) =
     (r.map fun(n,k)=>if (k == NameKind.free && env.scope.kind == .function && env.kindOf n == some .cell)then (n,NameKind.cell)else (n,k)).lookup x:=by
    by_cases hc:(k == NameKind.free && env.scope.kind == .function && env.kindOf n == some .cell)=true
    ·rw[if_pos hc];simp only[List.lookup_cons,hx]
    ·rw[if_neg hc];simp only[List.lookup_cons,hx]
   rcases ih h with q|q
   ·exact .inl (goal _ (e.trans q))
   ·exact .inr (goal _ (e.trans q))
theorem zh2{names:List (Str × NameKind)}{x:Str}{k:NameKind}(h:names.lookup x=some k):(x,k)∈names:=PySem.mem_of_lookup h
def blk(X:Cx)(N':List Str)(scope:Scope)(cl:List (Str × Addr))(C:Addr)(s₀:Shared)(H₀:Hp)(ex:List Addr):Cx:=
 { X with N:=N',s₀:=s₀,H₀:=H₀,env:=compEnvC scope cl C X.env,outer:=X.stack,stack:=X.stack,ex:=ex,fn:=fun _=>false,pn:=[],xe:=fun _ _=>False }
structure LcOk(X:Cx)(x:Str)(M':List Str)(ix:List Nat)(scope:Scope):Prop where
 kind:scope.kind=.function
 cell:(scope.names.all fun y=>!(y.2 == .cell))=true
 names:(scope.names.all fun y=>!(y.2 == .local) || scope.names.lookup y.1 == some .local)=true
 free:(scope.names.all fun y=>!(y.2 == .free) || (X.env.scope.names.lookup y.1 == some .cell || X.env.scope.names.lookup y.1 == some .free))=true
 at_:ix.map (fun i=>X.N[i]?)=M'.map some
 vis:(M'.all fun y=>(X.env.scope.names.lookup y == some .cell || X.env.scope.names.lookup y == some .free) && scope.names.lookup y == some .free)=true
def yfe(ix:List Nat)(ρ:Ev):Ev:=none::ix.map fun i=>(ρ[i]?).getD none
def yff(ix:List Nat)(st:St):St:=none::ix.map fun i=>(st[i]?).getD none
theorem zp2{T:Tb}{μ:List Addr}{H:Hp}{ρ:Ev}{st:St}(ix:List Nat)(h:ykl T μ H ρ st):ykl T μ H (yfe ix ρ) (yff ix st):=by
 refine⟨by simp[yfe,yff],fun i d e=>?_⟩;cases i with
 |zero=>simp[yfe]at e
 |succ j=>
  have e':(ix.map fun i=>(ρ[i]?).getD none)[j]?=some (some d):=e;rw[List.getElem?_map]at e';cases ej:ix[j]? with
  |none=>rw[ej]at e';cases e'
  |some i0=>
   rw[ej]at e';have e2:(ρ[i0]?).getD none=some d:=Option.some.inj e';have e3:ρ[i0]?=some (some d):=by
    cases q:ρ[i0]? with
    |none=>rw[q]at e2;cases e2
    |some o=>rw[q]at e2;exact congrArg some e2
   obtain⟨v,h1,h2⟩:=h.2 i0 d e3;refine⟨v,?_,h2⟩;show (ix.map fun i=>(st[i]?).getD none)[j]?=_;rw[List.getElem?_map,ej];show some ((st[i0]?).getD none)=_;rw[h1];rfl
section
variable{X:Cx}{pins:List (Addr × Obj)}{st:St}{H:Hp}{s:Shared}{x:Str}{M':List Str}{ix:List Nat}{scope:Scope}{fp:List Addr}
theorem zrt(L:LcOk X x M' ix scope)(y:Str × NameKind)(hy:y∈scope.names)(e:y.2=.free):X.env.kindOf y.1=some .cell\/X.env.kindOf y.1=some .free:=by
 have q:=List.all_eq_true.mp L.free y hy;rw[e]at q;simp only[beq_self_eq_true,Bool.not_true,Bool.false_or,Bool.or_eq_true]at q;rcases q with q|q
 ·exact .inl (eq_of_beq q)
 ·exact .inr (eq_of_beq q)
theorem zqk(I:Inv X pins st H s)(L:LcOk X x M' ix scope):∀ y∈scope.names,y.2=.free->∃ c,X.env.cells.lookup y.1=some c:=fun y hy e=>I.ok.has y.1 (zrt L y hy e)
theorem ybm(L:LcOk X x M' ix scope):∀ y∈scope.names,y.2≠.cell:=fun y hy e=>by
 have q:=List.all_eq_true.mp L.cell y hy;rw[e]at q;simp at q
theorem zgo(I:Inv X pins st H s)(L:LcOk X x M' ix scope)(hfp:∀ b∈fp,ykp X pins H b/\b<s.heap.objs.size){h':Heap}{t':Nat}{m:Str->Option Value}(hns:h'.Ns s.heap.objs.size m)
  (hk:∀ b o,s.heap.get? b=some o->h'.get? b=some o) :
  Inv (blk X (x::M') scope (ylu X.env scope.names []) s.heap.objs.size s H fp) [] (yff ix st) H { s with heap:=h',toks:=t' }:=by
 have sub:∀ n c,(ylu X.env scope.names []).lookup n=some c->X.env.cells.lookup n=some c:=fun n c e=>zyj X.env scope.names [] n c (fun _ _ q=>by simp at q) e;have cellLt:∀ n c,X.env.cells.lookup n=some c->c<s.heap.objs.size:=fun n c e=>by obtain⟨v,z⟩:=I.cell n c e;exact z.lt
 have fresh:H s.heap.objs.size=none:=I.hok.fresh (Nat.le_refl _);refine⟨⟨I.ok.mod,L.kind,I.ok.glob,I.ok.blt,Nat.le_refl _,fun a b c h1 h2=>I.ok.inj a b c (sub a c h1) (sub b c h2),fun a ha=>?_,fun a c h=>(by cases h),I.ok.hd,I.ok.frames,.inl rfl,fun b hb=>⟨Nat.ne_of_lt (hfp b hb).2,fun a c e=>?_⟩,fun b o e=>I.bs b o e,Nat.le_trans I.ok.bsz I.sz,fun b o e hb=>?_,fun b hb z=>?_,I.stack,I.stkFree⟩,
  rfl,I.bare,Un.kept hk,⟨m,hns,fun i y v e1 e2 e3=>?_⟩,fun a c e=>?_,fresh,fun a c e=>I.freeC a c (sub a c e),fun p hp=>absurd (show p∈([]:List (Addr × Obj))from hp) (by simp),I.hok.kept hk,?_⟩
 ·
  have ha':(scope.names.map fun(n,k)=>if (k == NameKind.free && X.env.scope.kind == .function && X.env.kindOf n == some .cell)then (n,NameKind.cell)else (n,k)).lookup a=some .cell\/(scope.names.map fun(n,k)=>if (k == NameKind.free && X.env.scope.kind == .function && X.env.kindOf n == some .cell)then (n,NameKind.cell)else (n,k)).lookup a=some .free:=ha;have hf:scope.names.lookup a=some .free:=by
   rcases ha' with z|z
   ·obtain⟨k0,h1,h2⟩:=zbm z;rcases h2 with h2|⟨h2,_⟩
    ·subst h2;exact absurd rfl (ybm L _ (zh2 h1))
    ·rw[h2]at h1;exact h1
   ·obtain⟨k0,h1,h2⟩:=zbm z;rcases h2 with h2|⟨_,h2⟩
    ·rw[<-h2]at h1;exact h1
    ·cases h2
  exact zyd X.env scope.names [] a (zh2 hf) (zqk I L _ (zh2 hf) rfl)
 ·exact(hfp b hb).1.2.2.2.2.1 a c (sub a c e)
 ·rcases(hfp b hb).1.2.2.2.1 with z|z
  ·exact I.ok.noex b o e z
  ·exact absurd (Nat.lt_of_lt_of_le (Heap.lt_size e) (Nat.le_trans I.ok.bsz z)) (Nat.lt_irrefl _)
 ·rcases List.mem_cons.mp (I.stkSub b z)with q|q
  ·exact(hfp b hb).1.2.1 q
  ·exact(hfp b hb).1.2.2.1 q
 ·
  cases i with
  |zero=>simp[yff]at e2
  |succ j=>
   have e1':M'[j]?=some y:=e1;have e2':(ix.map fun i=>(st[i]?).getD none)[j]?=some (some v):=e2;rw[List.getElem?_map]at e2';cases ej:ix[j]? with
   |none=>rw[ej]at e2';cases e2'
   |some i0=>
    rw[ej]at e2';have e4:(st[i0]?).getD none=some v:=Option.some.inj e2';have e5:st[i0]?=some (some v):=by
     cases q:st[i0]? with
     |none=>rw[q]at e4;cases e4
     |some o=>rw[q]at e4;exact congrArg some e4
    have e6:X.N[i0]?=some y:=by
     have z:=congrArg (fun l=>l[j]?) L.at_;simp only[List.getElem?_map,ej,e1',Option.map_some]at z;exact Option.some.inj z
    have q:=List.all_eq_true.mp L.vis y (List.mem_of_getElem? e1');simp only[Bool.and_eq_true,Bool.or_eq_true]at q;have kx:X.env.scope.names.lookup y=some .cell\/X.env.scope.names.lookup y=some .free:=by
     rcases q.1 with z|z
     ·exact .inl (eq_of_beq z)
     ·exact .inr (eq_of_beq z)
    have ky:scope.names.lookup y=some .free:=eq_of_beq q.2;obtain⟨m0,hn0,hl0⟩:=I.loc;obtain⟨u,ru,lu⟩:=hl0 i0 y v e6 e5 (by rcases kx with z|z;exact .inr (.inl z);exact .inr (.inr z));refine⟨u,ru,.inr ⟨zdf (env:=X.env) ky,?_⟩⟩;rcases lu with⟨z,_⟩|⟨_,c,ec,zc⟩
    ·rcases kx with k|k
     ·rw[show X.env.kindOf y=X.env.scope.names.lookup y from rfl,k]at z;cases z
     ·rw[show X.env.kindOf y=X.env.scope.names.lookup y from rfl,k]at z;cases z
    ·obtain⟨c',hc'⟩:=zyd X.env scope.names [] y (zh2 ky) (zqk I L _ (zh2 ky) rfl);have e7:=sub y c' hc';rw[ec]at e7;cases e7;obtain⟨o,ho,hd⟩:=zc;exact⟨c,hc',o,hk _ _ ho,hd⟩
 ·obtain⟨v,o,ho,hd⟩:=I.cell a c (sub a c e);exact⟨v,o,hk _ _ ho,hd⟩
 ·simp[yff,blk];have z:=congrArg List.length L.at_;simpa using z
end
def nox{α:Type}(m:M α):M α:=fun σ=>match m σ with
 | .ex _ _=>.bad
 |o=>o
theorem yky.bind0{α β γ δ:Type}{T:Tb}{E E0:XK}{R:List Addr->Hp->α->γ->Prop}{R':List Addr->Hp->β->δ->Prop}{μ:List Addr}{H:Hp}{m:M α}{k:α->M β}{σ:Sto}{Q:δ->Hp->Prop}{Q1:γ->Hp->Prop}
  (h:yky T E R' μ H (bnd (nox m) k σ) Q) (f:∀ a σ1 μ1 g H1,m σ=.ok a σ1->Ext μ H μ1 H1->Rel T μ1 H1 σ1->R μ1 H1 a g->yky T E R' μ1 H1 (k a σ1) Q->Q1 g H1):yky T E0 R μ H (m σ) Q1:=by
 unfold bnd nox at h;cases e:m σ with
 |ok a σ1=>
  simp only[e]at h;exact fun μ' g H' e' r q=>f a σ1 μ' g H' e e' r q (h.mono e')
 |ex x σ1=>simp only[e]at h;exact h.elim
 |bad=>simp only[e]at h;exact h
def ya7(nx:Src)(n:Nat)(tg:D->Ev->Option Ev)(fi:Ev->M Bool)(fe:Ev->M D):Nat->Nat->Ev->M Unit
 |0,_,_=>bad
 |k+1,i,ρ=>fun σ=>match nx.nx i σ with
  |none=>.bad
  |some none=>.ok () σ
  |some (some d)=>match tg d ρ with
   |none=>.bad
   |some ρ1=>bnd (nox (fi ρ1)) (fun c=>if c=true then bnd (nox (fe ρ1)) fun y=>bnd (zt5 (.ref n) [y]) fun _=>ya7 nx n tg fi fe k (i+1) ρ1 else ya7 nx n tg fi fe k (i+1) ρ1) σ
def lcK(tg:D->Ev->Option Ev)(fi:Ev->M Bool)(fe:Ev->M D)(ρ:Ev)(nx:Src):M D:=fun σ=>
 bnd (ya7 nx σ.length tg fi fe 1001 0 ρ) (fun _=>ret (.ref σ.length)) (σ++[.lst []])
def eLC(src:Ev->M Src)(ix:List Nat)(tg:D->Ev->Option Ev)(fi:Ev->M Bool)(fe:Ev->M D):Ev->M D:=fun ρ=>bnd (src ρ) (lcK tg fi fe (yfe ix ρ))
def FIf(T:Tb)(X:Cx)(ifs:List Expr)(f:Ev->M Bool):Prop:=
 ∀ (pins:List (Addr × Obj)) (s:Shared) (st:St) (H:Hp) (Q:Bool->Hp->Prop),Inv X pins st H s->tT T X f st H Q->
  wpAny (model X.prog X.w) X.A (forIn ifs true fun c r=>if r=true then do let ok <-isTrue c X.env (eval c X.env);pure (ForInStep.yield ok)else pure (ForInStep.yield r)) (TP X pins st Q) X.xe s
def yfd:Ev->M Bool:=fun _=>ret true
section
variable{T:Tb}{X:Cx}
theorem zrj:FIf T X [] yfd:=by
 intro pins s st H Q I h;obtain⟨μ,ρ,σ,hE,hr,hp⟩:=h;exact wpAny_tests_nil ⟨H,I,yky.here hp hr rfl⟩
theorem zrk{c:Expr}{f:Ev->M Bool}(h:FT T X c f):FIf T X [c] f:=fun pins s st H Q I hw=>wpAny_tests_one (h pins s st H Q I hw)
theorem zxe{fs ex:List Addr}{H H':Hp}{h h1 h2:Heap}{C:Addr}(u:Un fs ex H H' h h1)(hs:Heap.SameBut C h1 h2)(hC:h.objs.size<=C):Un fs ex H H' h h2:=by
 have ne:∀ b o,h.get? b=some o->b≠C:=fun b o e=>Nat.ne_of_lt (Nat.lt_of_lt_of_le (Heap.lt_size e) hC);refine⟨fun b o e n hb hx=>(hs.2 b (ne b o e)).trans (u.keep b o e n hb hx),fun b o e n hb hx=>?_,u.free,fun b o e hx=>?_,u.tups,u.frzs,u.tbls⟩
 ·obtain⟨sl,q⟩:=u.slot b o e n hb hx;exact⟨sl,(hs.2 b (ne b o e)).trans q⟩
 ·obtain⟨o',q⟩:=u.there b o e hx;exact⟨o',(hs.2 b (ne b o e)).trans q⟩
theorem zl0{P:Program}{w:World}{H:Hp}{h1 h2:Heap}{C:Addr}(ok:HOk P w H h1)(hs:Heap.SameBut C h1 h2)(hC:H C=none):HOk P w H h2:=fun b ob e=>by
 refine(ok b ob e).stay (fun c w' hc q=>(hs.2 c ?_).trans q) (fun _ q=>q) fun _ _ q=>q;rintro rfl;rcases hc with rfl|hc
 ·rw[hC]at e;cases e
 ·rw[hC]at hc;cases hc
theorem zpq{E:XK}{μ:List Addr}{H:Hp}{σ:Sto}{n:Nat}{a:Addr}{y:D}{v:V}{Q:VK}(r:Rel T μ H σ)(hn:μ[n]?=some a)(hy:Rep T μ H y v)(h:yky T E (Rep T) μ H (zt5 (.ref n) [y] σ) Q):zvi (.ref a) [v] H Q:=
 zf6 E μ H σ (.ref n) [y] (.ref a) [v] Q r (by rw[Rep];exact⟨a,rfl,hn⟩) (yk4.cons hy yk4.nil) h
theorem zgq{α β:Type}{m m':M α}{k:α->M β}{σ:Sto}(h:m σ=m' σ):bnd m k σ=bnd m' k σ:=by unfold bnd;rw[h]
theorem zgp{α β γ:Type}{m:M α}{k:α->M β}{l:β->M γ}:bnd (bnd m k) l=bnd m fun a=>bnd (k a) l:=by
 funext σ;unfold bnd;cases m σ<;>rfl
theorem zte{E:XK}{elt iter tgt:Expr}{ifs:List Expr}{scope:Scope}{pos:Pos}{x:Str}{M':List Str}{ix:List Nat}{tg:D->Ev->Option Ev}{fi:Ev->M Bool}{fe:Ev->M D}
  {pins:List (Addr × Obj)} {st:St} {H3:Hp} {s3:Shared} {h₁:Heap} {t':Nat} {m:Str->Option Value} {fp:List Addr} {it D0:Addr} {tn:Nat->Heap->Prop} {J:It} {nx:Src} {μ3:List Addr} {σ3:Sto} {ρ:Ev} {n:Nat} {Q:VK}
  (hc:X.calm=true) (L:LcOk X x M' ix scope)
  (htg:∀ cl C s₀ H₀ ex,FG T (blk X (x::M') scope cl C s₀ H₀ ex) tgt tg)
  (hif:∀ cl C s₀ H₀ ex,FIf T (blk X (x::M') scope cl C s₀ H₀ ex) ifs fi)
  (helt:∀ cl C s₀ H₀ ex,FE T (blk X (x::M') scope cl C s₀ H₀ ex) elt fe)
  (I3:Inv X pins st H3 s3) (hfp:∀ b∈fp,ykp X pins H3 b/\b<s3.heap.objs.size) (hns:h₁.Ns s3.heap.objs.size m) (kp:∀ b o,s3.heap.get? b=some o->h₁.get? b=some o)
  (TT:Turn X.prog X.w X.K tgt J fp it tn) (hst4:tn 0 h₁) (so:ye8 T μ3 H3 nx J) (hE:ykl T μ3 H3 ρ st) (r3:Rel T μ3 H3 σ3) (hn:μ3[n]?=some D0)
  (p3:yky T E (Rep T) μ3 H3 (bnd (ya7 nx n tg fi fe 1001 0 (yfe ix ρ)) (fun _=>ret (.ref n)) σ3) Q) {RR:Result->Shared->Prop}
  (fin:∀ (s6:Shared) (H':Hp) (m6:Str->Option Value),s6.heap.Ns s3.heap.objs.size m6->H' s3.heap.objs.size=none->Un (frs X.stack) fp H3 H' s3.heap s6.heap->s6.os=s3.os->HOk X.prog X.w H' s6.heap->AllBare s6.gens->Q (.ref D0) H'->RR (.ok .next) s6) :
  codeAny (model X.prog X.w) X.A (.compStart (.ListComp elt [⟨tgt,iter,ifs,0⟩] scope pos) 0 (.ref it) (.ref D0) (compEnvC scope (ylu X.env scope.names []) s3.heap.objs.size X.env))
   RR { s3 with heap:=h₁,toks:=t' }:=by
 have I4:=zgo (h':=h₁) (t':=t') I3 L hfp hns kp;let Y:Cx:=blk X (x::M') scope (ylu X.env scope.names []) s3.heap.objs.size s3 H3 fp;have stat:∀ {H':Hp},(∀ b∈fp,H' b=none)->∀ b∈fp,ykp Y [] H' b:=fun {H'} hn b hb=>⟨hn b hb,(I4.ok.exf b hb).1,I4.ok.exfs b hb,.inl hb,(I4.ok.exf b hb).2,fun p hp=>absurd (show p∈([]:List (Addr × Obj))from hp) (by simp)⟩
 have ym2:codeAny (model X.prog X.w) X.A (.compLoop (.ListComp elt [⟨tgt,iter,ifs,0⟩] scope pos) 0 (.ref it) (.ref D0) Y.env) RR { s3 with heap:=h₁,toks:=t' }:=by
  refine codeAny_loop rfl (fun k s'=>∃ i μ' H' σ' ρ' st',Inv Y [] st' H' s'/\tn i s'.heap/\(∀ b∈fp,H' b=none)/\Ext μ3 H3 μ' H'/\ykl T μ' H' ρ' st'/\Rel T μ' H' σ'/\
   yky T E (Rep T) μ' H' (bnd (ya7 nx n tg fi fe k i ρ') (fun _=>ret (.ref n)) σ') Q) ?_ 1001 ⟨0,μ3,H3,σ3,yfe ix ρ,yff ix st,I4,hst4,fun b hb=>(hfp b hb).1.1,Ext.refl _ _,zp2 ix hE,r3,p3⟩
  rintro k s' ⟨i,μ',H',σ',ρ',st',I',tn',fr',ex',hE',r',p'⟩;show wpAny _ X.A ((compTurn (.ListComp elt [⟨tgt,iter,ifs,0⟩] scope pos) 0 (.ref it) (.ref D0) Y.env).onRaise (fun x=>do noteFrame x Y.env;theTreesLotGoes x)) _ _ s';refine wpAny_noted ?_;rw[compTurn_list];refine wpAny_mono (E:=fun _ _=>False) ?_ (fun _ _ z=>z) (fun _ _ z=>z.elim);refine wpAny_bind (wpAny_standAt ?_);cases k with
  |zero=>exact p'.elim
  |succ k=>
   have so':=so μ' H' σ' i ex' r';cases en:nx.nx i σ' with
   |none=>
    have e1:ya7 nx n tg fi fe (k+1) i ρ' σ'=.bad:=by unfold ya7;simp only[en]
    rw[zgq (m':=bad) e1]at p';exact p'.elim
   |some od=>
    rw[en]at so';cases od with
    |none=>
     have e1:ya7 nx n tg fi fe (k+1) i ρ' σ'=.ok () σ':=by unfold ya7;simp only[en]
     rw[zgq (m':=ret ()) e1]at p';refine wpAny_bind (thn (TT.done Y rfl rfl rfl hc i [] s' st' H' (fun _ _=>False) I' (stat fr') tn' so') fun r s6 ⟨er,I6⟩=>?_);subst er;refine wpAny_pure ?_;obtain⟨m6,hm6,_⟩:=I6.loc;exact fin s6 H' m6 hm6 I6.free I6.base I6.os I6.hok I6.bare (yky.here p' r' (by rw[Rep];exact⟨_,rfl,ex'.get hn⟩))
    |some d=>
     refine wpAny_bind (thn (TT.item Y rfl rfl rfl hc i [] s' st' H' (fun _ _=>False) I' (stat fr') tn' so'.1) fun r s6 ⟨u,er,h6⟩=>?_);subst er;refine wpAny_bind (thn h6 fun _ s7 ⟨xv,H7,I7,r7,y7,tn7,fr7⟩=>?_);obtain⟨eH,hd⟩:=so'.2 xv H7 y7;subst eH;cases et:tg d ρ' with
     |none=>
      have e1:ya7 nx n tg fi fe (k+1) i ρ' σ'=.bad:=by unfold ya7;simp only[en,et]
      rw[zgq (m':=bad) e1]at p';exact p'.elim
     |some ρ1=>
      have e1:ya7 nx n tg fi fe (k+1) i ρ' σ'=bnd (nox (fi ρ1)) (fun c=>if c=true then bnd (nox (fe ρ1)) fun y=>bnd (zt5 (.ref n) [y]) fun _=>ya7 nx n tg fi fe k (i+1) ρ1 else ya7 nx n tg fi fe k (i+1) ρ1) σ':=by
       conv=>lhs;unfold ya7
       simp only[en,et]
      rw[zgq e1,zgp]at p';have I7':=I7.pinned (stat fr7) (TT.obj _ _ tn7);refine wpAny_bind (thn (htg _ _ _ _ _ _ s7 st' H7 xv u (fun st8 H8=>H8=H7/\ykl T μ' H7 ρ1 st8) I7' r7 ⟨μ',σ',ρ',d,ρ1,hE',r',hd,et,fun st8 hE8=>⟨rfl,hE8⟩⟩) fun _ s8 ⟨st8,H8,I8,eH8,hE8⟩=>?_);subst eH8;refine wpAny_bind (thn (hif _ _ _ _ _ _ s8 st8 H8 (fun c H9=>∃ μ9 σ9,Ext μ' H8 μ9 H9/\Rel T μ9 H9 σ9/\yky T E (Rep T) μ9 H9 (bnd (if c=true then bnd (nox (fe ρ1)) fun y=>bnd (zt5 (.ref n) [y]) fun _=>ya7 nx n tg fi fe k (i+1) ρ1 else ya7 nx n tg fi fe k (i+1) ρ1) (fun _=>ret (.ref n)) σ9) Q) I8
       ⟨μ',ρ1,σ',hE8,r',p'.bind0 fun c σ9 μ9 c' H9 _ e9 r9 q9 p9=>by cases q9;exact⟨μ9,σ9,e9,r9,p9⟩⟩) fun c s9 ⟨H9,I9,μ9,σ9,e9,r9,p9⟩=>?_)
      have again:∀ {s11:Shared} {H11:Hp} {μ11:List Addr} {σ11:Sto},Inv Y ([]++ycz fp s7.heap) st8 H11 s11->Ext μ' H8 μ11 H11->Rel T μ11 H11 σ11->yky T E (Rep T) μ11 H11 (bnd (ya7 nx n tg fi fe k (i+1) ρ1) (fun _=>ret (.ref n)) σ11) Q->
        ∃ m,m<k+1/\∃ i μ' H' σ' ρ' st',Inv Y [] st' H' s11/\tn i s11.heap/\(∀ b∈fp,H' b=none)/\Ext μ3 H3 μ' H'/\ykl T μ' H' ρ' st'/\Rel T μ' H' σ'/\yky T E (Rep T) μ' H' (bnd (ya7 nx n tg fi fe m i ρ') (fun _=>ret (.ref n)) σ') Q:=by
       intro s11 H11 μ11 σ11 I11 e11 r11 p11;refine⟨k,Nat.lt_succ_self _,i+1,μ11,H11,σ11,ρ1,st8,I11.unpinned,TT.keep _ _ _ tn7 (fun b hb o e=>(I11.pin (b,o) (List.mem_append_right _ (List.mem_append_right _ (zfm hb e)))).1),fun b hb=>?_,ex'.trans e11,hE8.mono e11,r11,p11⟩;obtain⟨o,e,_⟩:=TT.obj _ _ tn7 b hb;exact(I11.pin (b,o) (List.mem_append_right _ (List.mem_append_right _ (zfm hb e)))).2.1
      cases c with
      |false=>
       rw[if_neg Bool.false_ne_true]at p9;exact wpAny_pure ⟨rfl,again I9 e9 r9 p9⟩
      |true=>
       rw[if_pos rfl,zgp]at p9;refine wpAny_bind (wpAny_bind (thn (helt _ _ _ _ _ _ s9 st8 H9 (fun v H10=>∃ y μ10 σ10,Ext μ' H8 μ10 H10/\Rel T μ10 H10 σ10/\Rep T μ10 H10 y v/\yky T E (Rep T) μ10 H10 (bnd (zt5 (.ref n) [y]) (fun _=>bnd (ya7 nx n tg fi fe k (i+1) ρ1) (fun _=>ret (.ref n))) σ10) Q) I9
        ⟨μ9,ρ1,σ9,hE8.mono e9,r9,p9.bind0 fun y σ10 μ10 v H10 _ e10 r10 q10 p10=>⟨y,μ10,σ10,e9.trans e10,r10,q10,by rw[zgp]at p10;exact p10⟩⟩) fun w s10 ⟨v,H10,I10,rw10,y,μ10,σ10,e10,r10,q10,p10⟩=>?_))
       have happ:=zpq (Q:=fun _ H11=>∃ μ11 σ11,Ext μ' H8 μ11 H11/\Rel T μ11 H11 σ11/\yky T E (Rep T) μ11 H11 (bnd (ya7 nx n tg fi fe k (i+1) ρ1) (fun _=>ret (.ref n)) σ11) Q) r10 ((ex'.trans e10).get hn) q10
        (p10.bind fun _ σ11 μ11 v11 H11 _ e11 r11 q11 p11=>⟨μ11,σ11,e10.trans e11,r11,p11⟩)
       refine wpAny_bind (thn (zh5 (X:=Y) _ s10 st8 H10 (.ref D0) [v] (.ref D0) [w] _ I10 rfl (.cons rw10 .nil) happ) fun _ s11 ⟨v11,H11,I11,_,μ11,σ11,e11,r11,p11⟩=>?_);exact wpAny_pure (wpAny_pure ⟨rfl,again I11 e11 r11 p11⟩)
 exact codeAny_compStart_list ym2 (TT.self X.A 0 _ _ _ hst4 ym2)
theorem yf8{elt iter tgt:Expr}{ifs:List Expr}{scope:Scope}{pos:Pos}{x:Str}{M':List Str}{ix:List Nat}{src:Ev->M Src}{tg:D->Ev->Option Ev}{fi:Ev->M Bool}{fe:Ev->M D}
  (hc:X.calm=true) (L:LcOk X x M' ix scope) (hsrc:FI T X tgt iter src)
  (htg:∀ cl C s₀ H₀ ex,FG T (blk X (x::M') scope cl C s₀ H₀ ex) tgt tg)
  (hif:∀ cl C s₀ H₀ ex,FIf T (blk X (x::M') scope cl C s₀ H₀ ex) ifs fi)
  (helt:∀ cl C s₀ H₀ ex,FE T (blk X (x::M') scope cl C s₀ H₀ ex) elt fe)
  (hs:∀ y,foldedSetIterable iter X.env y=pure y:=by intro _;rfl) :
  FE T X (.ListComp elt [⟨tgt,iter,ifs,0⟩] scope pos) (eLC src ix tg fi fe):=by
 intro pins s st H Q I h;obtain⟨μ,ρ,σ,hE,hr,hp⟩:=h;rw[eval_ListComp];refine wpAny_comprehension_free (use:=none) rfl hs (ze2 X.env scope (zqk I L)) L.kind (fun y hy e=>?_) ?_
 ·have q:=List.all_eq_true.mp L.names y hy;rw[e]at q;simp only[beq_self_eq_true,Bool.not_true,Bool.false_or]at q;exact eq_of_beq q
 have h1:=hsrc pins s st H (fun J H2=>∃ nx μ2 σ2,Ext μ H μ2 H2/\Rel T μ2 H2 σ2/\ye8 T μ2 H2 nx J/\yky T (XE X st) (Rep T) μ2 H2 (bnd (ya7 nx σ2.length tg fi fe 1001 0 (yfe ix ρ)) (fun _=>ret (.ref σ2.length)) (σ2++[Ob.lst []])) Q) I
  ⟨μ,ρ,σ,hE,hr,hp.bind fun nx σ1 μ1 J H1 _ e1 r1 q1 p1=>⟨nx,μ1,σ1,e1,r1,q1,p1⟩⟩
 refine thn h1 fun v s1 h2=>thn h2 fun itv s2 h3=>?_;obtain⟨it,fp,tn,J,H2,rfl,I2,TT,st2,f2,nx,μ2,σ2,ex2,r2,so,p2⟩:=h3;refine wpAny_newObj_type (wpAny_newFunctionEnv (ybm L) (by intro y hy;simp at hy) (fun h₁ hns₁ hsb₁=>?_) L.kind);have I3:=I2.lnew (ys:=[]) (its:=[]) (t':=s2.toks) .nil (by simp);have fr2:H2 s2.heap.objs.size=none:=I2.hok.fresh (Nat.le_refl _);have r3:=r2.push (p:=s2.heap.objs.size) (o:=.lst []) (ob:=.lst []) fr2 ⟨[],zo8,yk4.nil⟩;have ex3:Ext μ2 H2 (μ2++[s2.heap.objs.size]) (upd H2 s2.heap.objs.size (.lst [])):=zkw fr2;have hsz:s2.heap.objs.size<(s2.heap.push { cls:=.type "list",data:=.seq ([]:List Value).toArray }).objs.size:=by rw[Heap.size_push];exact Nat.lt_succ_self _
 have kp:∀ b o,(s2.heap.push { cls:=.type "list",data:=.seq ([]:List Value).toArray }).get? b=some o->h₁.get? b=some o:=fun b o e=>hsb₁.extBut b o (Nat.ne_of_lt (Heap.lt_size e)) (Heap.get?_push_of_some _ e);have hfp:∀ b∈fp,ykp X pins (upd H2 s2.heap.objs.size (.lst [])) b/\b<(s2.heap.push { cls:=.type "list",data:=.seq ([]:List Value).toArray }).objs.size:=fun b hb=>by
  obtain⟨o,e,_⟩:=TT.obj 0 _ st2 b hb;have lt:=Heap.lt_size e;exact⟨⟨by rw[yep (Nat.ne_of_lt lt)];exact(f2 b hb).1,(f2 b hb).2⟩,Nat.lt_trans lt hsz⟩
 refine zte (s3:={ s2 with heap:=s2.heap.push { cls:=.type "list",data:=.seq ([]:List Value).toArray },toks:=s2.toks }) (n:=σ2.length) (D0:=s2.heap.objs.size) hc L htg hif helt I3 hfp hns₁ kp TT (TT.keep 0 _ _ st2 fun b hb o e=>kp b o (Heap.get?_push_of_some _ e))
  (fun μ H σ i ex r=>so μ H σ i (ex3.trans ex) r) ((hE.mono ex2).mono ex3) r3 (by rw[<-r2.len];simp) (p2.mono ex3) (fun s6 H' m6 hm6 hC' hu0 hos hok6 hb6 hq=>⟨m6,hm6,fun h7 hs7=>?_⟩)
 have hu:=zxe hu0 hs7 (Nat.le_refl _);have I7:=L2.Inv.call' (s':={ s6 with heap:=h7 }) (ch:=fp) I3 hos hu (zl0 hok6 hs7 hC') hb6 (fun b hb=>⟨(hfp b hb).1.2.2.2.1,(hfp b hb).1.2.1,(hfp b hb).1.2.2.2.2.1,(hfp b hb).1.2.2.2.2.2⟩);exact⟨.ref s2.heap.objs.size,H',I7,rfl,hq⟩
theorem zlp{elt iter tgt:Expr}{ifs:List Expr}{scope:Scope}{pos spos py:Pos}{x y:Str}{i:Nat}{M':List Str}{ix:List Nat}{src:Ev->M Src}{tg:D->Ev->Option Ev}{fi:Ev->M Bool}{fe:Ev->M D}
  (hN:X.N.Nodup) (hi:X.N[i]?=some y) (hx:Loc X.env.scope y)
  (hc:X.calm=true) (L:LcOk X x M' ix scope) (hsrc:FI T X tgt iter src)
  (htg:∀ cl C s₀ H₀ ex,FG T (blk X (x::M') scope cl C s₀ H₀ ex) tgt tg)
  (hif:∀ cl C s₀ H₀ ex,FIf T (blk X (x::M') scope cl C s₀ H₀ ex) ifs fi)
  (helt:∀ cl C s₀ H₀ ex,FE T (blk X (x::M') scope cl C s₀ H₀ ex) elt fe)
  (hs:∀ y,foldedSetIterable iter X.env y=pure y:=by intro _;rfl)
  (hsw:swapsWith (.ListComp elt [⟨tgt,iter,ifs,0⟩] scope pos) (some (.Name y py)) spos.line X.env=pure true:=by rfl)
  (hf:X.fn y=true\/X.env.scope.names.lookup y=some .local:=by first|exact .inl rfl|exact .inr rfl|assumption) :
  FS T X (.Assign [.Name y py] (.ListComp elt [⟨tgt,iter,ifs,0⟩] scope pos) spos) (yop i (eLC src ix tg fi fe)):=by
 intro pins s st H D I h;obtain⟨μ,ρ,σ,hE,hr,hp0⟩:=h;have hp:yky T (XE X st) (Rep T) μ H (eLC src ix tg fi fe ρ σ) (fun v H1=>D.nx (st.set i (some v)) H1):=hp0.xs hE fun d σ1 μ1 v H1 _ e1 r1 q1 p1=>yky.here (g:=Gl2.nx (st.set i (some v))) p1 r1 ((hE.mono e1).set i q1);rw[exec_Assign_Name_used _ _ _ _ hsw];refine wpAny_bind (wpAny_standAt (wpAny_bind ?_));show wpAny _ X.A (do let _ <-comprehension (.ListComp elt [⟨tgt,iter,ifs,0⟩] scope pos) scope X.env _ (newList []) false (eval iter X.env) (some (assign (.Name y py) X.env))) _ _ s;refine wpAny_bind (wpAny_mono (wpAny_comprehension_free (use:=some (assign (.Name y py) X.env)) (Q:=fun _ s'=>SP X pins D .next s') rfl hs (ze2 X.env scope (zqk I L)) L.kind (fun y hy e=>?_)
  ?_) (fun _ s' hq=>wpAny_pure (wpAny_pure hq)) fun _ _ e=>e)
 ·have q:=List.all_eq_true.mp L.names y hy;rw[e]at q;simp only[beq_self_eq_true,Bool.not_true,Bool.false_or]at q;exact eq_of_beq q
 have h1:=hsrc pins s st H (fun J H2=>∃ nx μ2 σ2,Ext μ H μ2 H2/\Rel T μ2 H2 σ2/\ye8 T μ2 H2 nx J/\yky T (XE X st) (Rep T) μ2 H2 (bnd (ya7 nx σ2.length tg fi fe 1001 0 (yfe ix ρ)) (fun _=>ret (.ref σ2.length)) (σ2++[Ob.lst []])) (fun v H1=>D.nx (st.set i (some v)) H1)) I
  ⟨μ,ρ,σ,hE,hr,hp.bind fun nx σ1 μ1 J H1 _ e1 r1 q1 p1=>⟨nx,μ1,σ1,e1,r1,q1,p1⟩⟩
 refine thn h1 fun v s1 h2=>thn h2 fun itv s2 h3=>?_;obtain⟨it,fp,tn,J,H2,rfl,I2,TT,st2,f2,nx,μ2,σ2,ex2,r2,so,p2⟩:=h3;refine wpAny_newObj_type (wpAny_newFunctionEnv (ybm L) (by intro y hy;simp at hy) (fun h₁ hns₁ hsb₁=>?_) L.kind);have I3:=I2.lnew (ys:=[]) (its:=[]) (t':=s2.toks) .nil (by simp);have fr2:H2 s2.heap.objs.size=none:=I2.hok.fresh (Nat.le_refl _);have r3:=r2.push (p:=s2.heap.objs.size) (o:=.lst []) (ob:=.lst []) fr2 ⟨[],zo8,yk4.nil⟩;have ex3:Ext μ2 H2 (μ2++[s2.heap.objs.size]) (upd H2 s2.heap.objs.size (.lst [])):=zkw fr2;have hsz:s2.heap.objs.size<(s2.heap.push { cls:=.type "list",data:=.seq ([]:List Value).toArray }).objs.size:=by rw[Heap.size_push];exact Nat.lt_succ_self _
 have kp:∀ b o,(s2.heap.push { cls:=.type "list",data:=.seq ([]:List Value).toArray }).get? b=some o->h₁.get? b=some o:=fun b o e=>hsb₁.extBut b o (Nat.ne_of_lt (Heap.lt_size e)) (Heap.get?_push_of_some _ e);have hfp:∀ b∈fp,ykp X pins (upd H2 s2.heap.objs.size (.lst [])) b/\b<(s2.heap.push { cls:=.type "list",data:=.seq ([]:List Value).toArray }).objs.size:=fun b hb=>by
  obtain⟨o,e,_⟩:=TT.obj 0 _ st2 b hb;have lt:=Heap.lt_size e;exact⟨⟨by rw[yep (Nat.ne_of_lt lt)];exact(f2 b hb).1,(f2 b hb).2⟩,Nat.lt_trans lt hsz⟩
 refine zte (s3:={ s2 with heap:=s2.heap.push { cls:=.type "list",data:=.seq ([]:List Value).toArray },toks:=s2.toks }) (n:=σ2.length) (D0:=s2.heap.objs.size) hc L htg hif helt I3 hfp hns₁ kp TT (TT.keep 0 _ _ st2 fun b hb o e=>kp b o (Heap.get?_push_of_some _ e))
  (fun μ H σ i ex r=>so μ H σ i (ex3.trans ex) r) ((hE.mono ex2).mono ex3) r3 (by rw[<-r2.len];simp) (p2.mono ex3) (fun s6 H' m6 hm6 hC' hu0 hos hok6 hb6 hq=>?_)
 have I6:=L2.Inv.call' (s':=s6) (ch:=fp) I3 hos hu0 hok6 hb6 (fun b hb=>⟨(hfp b hb).1.2.2.2.1,(hfp b hb).1.2.1,(hfp b hb).1.2.2.2.2.1,(hfp b hb).1.2.2.2.2.2⟩);have ltL:X.env.locals<(s2.heap.push { cls:=.type "list",data:=.seq ([]:List Value).toArray }).objs.size:=I3.lt;have ltC:∀ z c,X.env.cells.lookup z=some c->c<(s2.heap.push { cls:=.type "list",data:=.seq ([]:List Value).toArray }).objs.size:=fun z c e=>by
  obtain⟨v,q⟩:=I3.cell z c e;exact q.lt
 show wpAny _ X.A (assign (.Name y py) X.env (.ref s2.heap.objs.size)) _ _ s6;refine wpAny_assign_Name (zi5 (v:=.ref s2.heap.objs.size) I6 hN hi hx rfl (fun s7 I7 ⟨a,sb,ha⟩=>?_) hf);have neC:a≠(s2.heap.push { cls:=.type "list",data:=.seq ([]:List Value).toArray }).objs.size:=by
  rcases ha with rfl|ha
  ·exact Nat.ne_of_lt ltL
  ·exact Nat.ne_of_lt (ltC _ _ ha)
 refine⟨m6,hm6.sameBut sb (Ne.symm neC),fun h8 hs8=>?_⟩;refine⟨st.set i (some (.ref s2.heap.objs.size)),H',?_,hq⟩;exact I7.turned (t':=s7.toks) (it:=(s2.heap.push { cls:=.type "list",data:=.seq ([]:List Value).toArray }).objs.size) (fun b o hb e=>(hs8.2 b hb).trans e) hC' (Nat.ne_of_gt ltL) (.inr (Nat.le_trans I3.sz (Nat.le_refl _))) (fun z c e=>Nat.ne_of_lt (ltC z c e)) (fun p hp=>Nat.ne_of_lt (Heap.lt_size (I3.pin p hp).1))
end
def yht(x y:D):M D:=fun σ=>match ym3 σ x,ym3 σ y with
 |some xs,some ys=>if xs.length+ys.length<=cap then .ok (.lst (xs++ys)) σ else .bad
 |_,_=>.bad
def yna(x y:D):M D:=match x,y with
 | .int i,.int j=>ret (.int (i+j))
 | .tup xs,.tup ys=>if xs.length+ys.length<=cap then ret (.tup (xs++ys))else bad
 | .str a,.str b=>if a.length+b.length<=100000 then ret (.str (a++b))else bad
 |x,y=>yht x y
theorem zi6{n:Nat}(h:n<=100000):n<=sizeLine:=Nat.le_trans h (by decide)
section
variable{T:Tb}{X:Cx}{a b c:Expr}{fa fb fc:Ev->M D}{pos:Pos}
theorem zj0{prog:Program}{w:World}{A:Around}{F:Value->Shared->Prop}{s:Shared}{t b:Addr}{ws:List Value}{Q:Value->Shared->Prop}(ht:IsTup s.heap t (#[]:Array Value))(hb:IsTup s.heap b ws.toArray)(h1:Q (.ref b) s):wpAny (model prog w) A (binaryOp .Add (.ref t) (.ref b)) Q F s:=by
 obtain⟨⟨cls,dd,data,sl⟩,ho,hc,n,hd⟩:=id ht;obtain⟨⟨cls2,dd2,data2,sl2⟩,ho2,hc2,n2,hd2⟩:=id hb;simp only at hc hd hc2 hd2;subst hc hd hc2 hd2;exact concat_meets ⟨_,ho,rfl⟩ ⟨_,ho2,rfl⟩ noFill_tuple_add seq_tuple_add PySem.F.slot_tuple_add PySem.F.entry_tuple_add (PySem.F.args_tuple_add_2 _ _)
  (tuple_addW0 t b #[] ws.toArray n n2 dd dd2 sl sl2 rfl) ⟨ho,ho2,h1⟩
theorem zjo{E:XK}{μ:List Addr}{H:Hp}{σ:Sto}{x y:D}{v u:V}{v' u':Value}{Q:VK}{pins:List (Addr × Obj)}{s:Shared}{st:St}(I:Inv X pins st H s)(rv:yk1 v v')(ru:yk1 u u')(r:Rel T μ H σ)(hx:Rep T μ H x v)(hy:Rep T μ H y u)(hp:yky T E (Rep T) μ H (yht x y σ) Q) :
  wpAny (model X.prog X.w) X.A (binaryOp .Add v' u') (EP X pins st Q) X.xe s:=by
 unfold yht at hp;cases e1:ym3 σ x with
 |none=>rw[e1]at hp;exact hp.elim
 |some xs=>
  cases e2:ym3 σ y with
  |none=>rw[e1,e2]at hp;exact hp.elim
  |some ys=>
   rw[e1,e2]at hp;dsimp only at hp;by_cases hc:xs.length+ys.length<=cap
   ·rw[if_pos hc]at hp;obtain⟨p,vs,rfl,h1,h2⟩:=r.ls hx e1;obtain⟨q,ws,rfl,h3,h4⟩:=r.ls hy e2;exact yb6 pins s st H _ _ v' u' Q I rv ru ⟨p,q,vs,ws,rfl,rfl,h1,h3,by rw[<-h2.length,<-h4.length];exact zx8 hc,fun l hl=>ybl hp r (yk4.append h2 h4) hl⟩
   ·rw[if_neg hc]at hp;exact hp.elim
theorem zul(hK:T.K=X.K):OpR X (binaryOp .Add) (rD T yna):=by
 intro pins s st H v u v' u' Q I rv ru h;obtain⟨E,μ,σ,x,y,r,hx,hy,hp⟩:=h;cases x with
 |int i=>
  cases y with
  |int j=>exact yb5 pins s st H v u v' u' Q I rv ru ⟨i,j,yan hx,yan hy,yky.here hp r (by rw[Rep])⟩
  |_=>exact zjo I rv ru r hx hy hp
 |str a=>
  cases y with
  |str b=>
   unfold yna at hp;dsimp only at hp;by_cases hc:a.length+b.length<=100000
   ·rw[if_pos hc]at hp;exact zfp pins s st H v u v' u' Q I rv ru ⟨a,b,by simpa [Rep]using hx,by simpa [Rep]using hy,zi6 hc,yky.here hp r (by rw[Rep])⟩
   ·rw[if_neg hc]at hp;exact hp.elim
  |_=>exact zjo I rv ru r hx hy hp
 |tup xs=>
  cases y with
  |tup ys=>
   unfold yna at hp;dsimp only at hp;by_cases hc:xs.length+ys.length<=cap
   ·rw[if_pos hc]at hp;have hx0:=hx;have hy0:=hy;rw[Rep]at hx hy;obtain⟨p,vs,rfl,h1,h2⟩:=hx;obtain⟨q,ws,rfl,h3,h4⟩:=hy;cases vs with
    |nil=>
     have e0:xs=[]:=by have:=h2.length;simpa using this
     subst e0;cases rv;cases ru;obtain⟨its,q1,t1,_⟩:=L2.Inv.tuple I (SqT.of (K:=X.K) h1);obtain⟨its2,q2,t2,_⟩:=L2.Inv.tuple I (SqT.of (K:=X.K) h3);cases q1;exact zj0 t1 t2 ⟨.ref q,H,I,rfl,yky.here hp r (by simpa using hy0)⟩
    |cons v0 vr=>
     refine zun pins s st H _ _ v' u' Q I rv ru ⟨p,q,_,ws,rfl,rfl,SqT.of h1,SqT.of h3,by simp,?_,fun e=>?_,fun e l hl=>?_⟩
     ·rw[<-h2.length,<-h4.length];exact zx8 hc
     ·subst e;have e0:ys=[]:=by have:=h4.length;simpa using this
      subst e0;exact yky.here hp r (by simpa using hx0)
     ·exact zt1 hp r (yk4.append h2 h4) hl
   ·rw[if_neg hc]at hp;exact hp.elim
  |_=>exact zjo I rv ru r hx hy hp
 |_=>exact zjo I rv ru r hx hy hp
def zyb(o':D->D->M D)(c:M D)(y:D):D->M D:=yj1 (ifK (bnd c (o' y)) (ret (.bl false)))
def zyc(o o':D->D->M D)(c:M D)(x y:D):M D:=bnd (o x y) (zyb o' c y)
def zya(o o':D->D->M D)(b c:M D)(x:D):M D:=bnd b (zyc o o' c x)
def zyu(o o':D->D->M D)(a b c:Ev->M D):Ev->M D:=fun ρ=>bnd (a ρ) (zya o o' (b ρ) (c ρ))
theorem zkz{op op':CmpOp}{r r':R2}{o o':D->D->M D}(ho:OpR X (compareOp op) r)(hs:ye6 T r o)(ho':OpR X (compareOp op') r')(hs':ye6 T r' o')(ha:FE T X a fa)(hb:FE T X b fb)(hc:FE T X c fc)
  (hm:lastMarks [op,op'] [b,c]=false:=by with_unfolding_all rfl):FE T X (.Compare a [op,op'] [b,c] pos) (zyu o o' fa fb fc):=by
 intro pins s st H Q I h;refine znh ho ho' ha hb hc hm pins s st H Q I ?_;obtain⟨μ,ρ,σ,hE,hr,hp⟩:=h;refine⟨μ,ρ,σ,hE,hr,hp.bind fun x σ1 μ1 v H1 _ e1 r1 q1 p1=>⟨μ1,ρ,σ1,hE.mono e1,r1,p1.bind fun y σ2 μ2 w H2 _ e2 r2 q2 p2=>?_⟩⟩;refine hs _ μ2 H2 σ2 x y v w _ r2 (Rep.mono e2 _ _ q1) q2 (p2.bind fun z σ3 μ3 u H3 _ e3 r3 q3 p3=>?_);obtain⟨k,rfl,ev,p4⟩:=yei q3 p3;refine⟨k,ev,?_⟩;cases k with
 |true=>
  unfold ifK at p4;rw[if_pos rfl]at p4 ⊢;exact⟨μ3,ρ,σ3,((hE.mono e1).mono e2).mono e3,r3,p4.bind fun z σ5 μ5 u5 H5 _ e5 r5 q5 p5=>hs' _ μ5 H5 σ5 y z w u5 Q r5 (Rep.mono e5 _ _ (Rep.mono e3 _ _ q2)) q5 p5⟩
 |false=>unfold ifK at p4;rw[if_neg Bool.false_ne_true]at p4 ⊢;exact yky.here p4 r3 (by rw[Rep])
theorem hu9{k:Nat}{A:Around}(hr:Room k A):A.units+9<cLine:=by have:=hr.un;omega
end
def yez(K:PySem.W.Frag)(mg:Str->Option Value)(x:Str)(st:Stmt)(ps:List Str):Prop:=
 ∃ f fd,mg x=some (.ref f)/\Fun K x x st f fd/\∀ us:List Value,us.length=ps.length->bindArgs fd ⟨us,[]⟩=pure (ps.zip us)
def OkF(T:Tb)(P:Program)(w:World)(mg:Str->Option Value)(base:Heap)(k:Nat)(x:Str)(ps:List Str)(fn:List D->M D):Prop:=
 ∃ f fd,mg x=some (.ref f)/\PySem.W.keepIn T.K (.ref f)=true/\(∀ us:List Value,us.length=ps.length->bindArgs fd ⟨us,[]⟩=pure (ps.zip us))/\FnOk P w T.K mg base (CXE P w) k f fd ps (spF T ps.length fn)
section
variable{T:Tb}{X:Cx}
theorem zky{k:Nat}{ps:List Str}{fn:List D->M D}{x:Str}{p pos:Pos}{e:Expr}{es:List Expr}{fs:Ev->M (List D)}(h:OkF T X.prog X.w X.mg X.base k x ps fn)(hK:T.K=X.K)(hr:Room k X.A)(hg:Gl X x)
  (ha:FA T X (e::es) fs) (hdb:(x == ("__debug__" : Str))=false:=by decide) (he:starEach (e::es) X.env=(false,eval e X.env)::starEach es X.env:=by rfl) (hpl:(backTo pos (starEach es X.env)).any (·.1)=false:=by rfl) :
  FE T X (.Call (.Name x p) (e::es) [] pos) (eFn ps.length fn [] fs):=by
 obtain⟨f,fd,hm,hk,hb,hF⟩:=h;rw[hK]at hk hF;exact zq8 (dds:=[]) (dvs:=[]) hF hr hg hm hk (.all hb) .nil (fun _ _=>yk4.nil) ha hdb he hpl
variable{P:Program}{w:World}{K:PySem.W.Frag}{mg:Str->Option Value}{base:Heap}{ca:Nat->Addr}{tx:Tx}
theorem yh9{k:Nat}{x:Str}{st:Stmt}{ps N:List Str}{g:Ev->M Fl}(h:yez K mg x st ps)(S:FnScope N ps (zkd st))
  (hb:∀ (f:Addr) (cdv:Value) (A:Around) (outer:List Env) (s:Shared) (H:Hp) (E:XK),Room k (A.deeper (envOfC x (zkd st) s.heap.objs.size f cdv))->FSs ⟨K,ca,tx⟩ (yly (CXE P w) P w K mg base N x (zkd st) f cdv A outer s H E) (zqt st) g) :
  OkF ⟨K,ca,tx⟩ P w mg base (k+1) x ps (run N.length g):=by
 obtain⟨f,fd,hm,F,hbd⟩:=h;obtain⟨oc,od,kV,doc,pm,an,cdv,ct,osl,rfl,lk,hcd⟩:=F.ex;exact⟨f,_,hm,F.kp,hbd,fok lk hcd S (hb f cdv)⟩
theorem OkF.frz{k:Nat}{x:Str}{ps:List Str}{fn:List D->M D}(h:OkF T P w mg base k x ps fn):OkF T P w mg base k x ps (fun ds=>L4.frz (fn ds)):=by
 obtain⟨f,fd,h1,h2,h3,h4⟩:=h;exact⟨f,fd,h1,h2,h3,zrr h4⟩
theorem mkF{h:Heap}{x:Str}{st:Stmt}{ps:List Str}{f:Addr}{oc:Value}{od an:Option Addr}{osl:Array (Option Value)}{kV doc pm cdv ct:Value}(X:K.In h)(G:h.Ns mainGlobals mg)
  (hb:∀ (kV doc pm:Value) (an:Option Addr) (cdv ct:Value) (us:List Value),us.length=ps.length->bindArgs (PySem.W.fnOf x x (zqs st) (zqt st) (zkd st) .none kV doc pm an cdv ct) ⟨us,[]⟩=pure (ps.zip us))
  (a:PySem.W.nsIn K mainGlobals x=some (some (.ref f))) (l:K.lookup f=some ⟨oc,od,.func (PySem.W.fnOf x x (zqs st) (zqt st) (zkd st) .none kV doc pm an cdv ct),osl⟩)
  (c:PySem.W.codeIn K cdv x=true) (k:PySem.W.keepIn K (.ref f)=true):yez K mg x st ps:=
 ⟨f,_,PySem.W.mg_of X G a,zz9 l c k,hb kV doc pm an cdv ct⟩
end
def OkL(T:Tb)(P:Program)(w:World)(mg:Str->Option Value)(k:Nat)(x:Str)(ps:List Str)(fn:List D->M D):Prop:=
 ∃ f fd,mg x=some (.ref f)/\(∀ us:List Value,us.length=ps.length->bindArgs fd ⟨us,[]⟩=pure (ps.zip us))/\∀ base:Heap,FnOk P w T.K mg base (CXE P w) k f fd ps (spF T ps.length fn)
theorem yb4{P:Program}{w:World}{K:PySem.W.Frag}{mg:Str->Option Value}{ca:Nat->Addr}{tx:Tx}{k:Nat}{x:Str}{st:Stmt}{ps N:List Str}{g:Ev->M Fl}(h:yez K mg x st ps)(S:FnScope N ps (zkd st))
  (hb:∀ (base:Heap) (f:Addr) (cdv:Value) (A:Around) (outer:List Env) (s:Shared) (H:Hp) (E:XK),Room k (A.deeper (envOfC x (zkd st) s.heap.objs.size f cdv))->FSs ⟨K,ca,tx⟩ (yly (CXE P w) P w K mg base N x (zkd st) f cdv A outer s H E) (zqt st) g) :
  OkL ⟨K,ca,tx⟩ P w mg (k+1) x ps (run N.length g):=by
 obtain⟨f,fd,hm,F,hbd⟩:=h;obtain⟨oc,od,kV,doc,pm,an,cdv,ct,osl,rfl,lk,hcd⟩:=F.ex;exact⟨f,_,hm,hbd,fun base=>fok lk hcd S (hb base f cdv)⟩
section
variable{T:Tb}{X:Cx}
end
structure Hd where
 t:Nat->Option Bool
 nm:Option Nat
 g:Ev->M Fl
def ypk(i:Nat):Fl->M Fl
 | .nx ρ=>ret (.nx (ρ.set i none))
 | .rt d=>ret (.rt d)
 | .bk ρ=>ret (.bk (ρ.set i none))
 | .ct ρ=>ret (.ct (ρ.set i none))
 | .xc _ _=>bad
def noF:Fl->M Fl
 | .nx ρ=>ret (.nx ρ)
 | .rt d=>ret (.rt d)
 | .bk ρ=>ret (.bk ρ)
 | .ct ρ=>ret (.ct ρ)
 | .xc _ _=>bad
def hit(h:Hd)(ρ:Ev)(x:Xn):M Fl:=match h.nm with
 |none=>bnd (h.g ρ) noF
 |some i=>bnd (h.g (ρ.set i (some (.exn x.cls)))) (ypk i)
abbrev Cx.inH(X:Cx)(e:Value):Cx:={ X with A:=X.A.mark (some e),calm:=false,xe:=fun _ _=>False }
abbrev Cx.inT(X:Cx)(pins:List (Addr × Obj))(xe:Value->Shared->Prop):Cx:={ X with xe:=xe,pn:=X.pn++pins }
section
variable{T:Tb}{X:Cx}{pins:List (Addr × Obj)}{st:St}{H:Hp}{s:Shared}{e:Value}{xe:Value->Shared->Prop}
end
def Lnd(X:Cx)(pins:List (Addr × Obj))(st:St)(H:Hp)(s:Shared)(ea:Addr)(cls:Value)(fd:Option Nat):Prop:=∃ H0 s0,Inv X pins st H0 s0/\Fly X.prog X.w X.stack H0 s0 cls fd H (.ref ea) s
section
variable{T:Tb}{X:Cx}{pins:List (Addr × Obj)}{st:St}{H:Hp}{s:Shared}{ea:Addr}{cls:Value}{fd:Option Nat}
theorem Lnd.next(L:Lnd X pins st H s ea cls fd){M:Model}{A:Around}{E:Value->Shared->Prop}{Q:Unit->Shared->Prop}(h:∀ s',Lnd X pins st H s' ea cls fd->Q () s'):wpAny M A (setFlight (.ref ea) none) Q E s:=by
 obtain⟨H0,s0,I,F⟩:=L;obtain⟨ea',a0,B,e,fl,hn,hnew,hT,hB,hA,hF⟩:=F.ex;cases e;refine ztb fl fun h6 fl6 sl6 dk6=>h _ ?_;obtain⟨un,hok⟩:=zzt F hB hT hA fl.1 fl6.1 sl6 (ze7 I);exact⟨H0,s0,I,⟨ea,a0,B,rfl,fl6,hn,hnew,hT,hB,hA,hF.next dk6 (let ⟨o,e,_⟩:=fl6.there;⟨o,e⟩)⟩,F.os,F.bare,un,hok⟩
theorem Lnd.obj(L:Lnd X pins st H s ea cls fd):H ea=none/\(∃ o,s.heap.get? ea=some o/\o.cls=cls)/\∃ s0:Shared,s0.heap.get? ea=none/\∃ H0,Inv X pins st H0 s0:=by
 obtain⟨H0,s0,I,F⟩:=L;obtain⟨ea',a0,B,e,fl,hn,hnew,hT,hB,hA,hF⟩:=F.ex;cases e;exact⟨hn,fl.there,s0,hnew,H0,I⟩
end
def ye0(X:Cx)(x:Str)(cv:Value):Prop:=X.mg x=some cv\/(X.mg x=none/\bootBuiltins x=some cv/\x ≠ "__name__")
inductive FHs(T:Tb)(X:Cx):List ExceptHandler->List Hd->Prop where
 |nil:FHs T X [] []
 |cons {x:Str} {np pos:Pos} {cv:Value} {b₀:Stmt} {suite:List Stmt} {t:Nat->Option Bool} {g:Ev->M Fl} {r:List ExceptHandler} {hs:List Hd} (hg:Gl X x) (hd:(x == ("__debug__" : Str))=false) (hm:ye0 X x cv) (ht:∀ c b,t c=some b->PySem.W.exmOne X.K (.ref (T.ca c)) cv=some b)
   (hb:∀ e,FSs T (Cx.inH X e) (b₀::suite) g) (hr:FHs T X r hs):FHs T X (.ExceptHandler (some (.Name x np)) none (b₀::suite) pos::r) (⟨t,none,g⟩::hs)
 |consAs {x n:Str} {i:Nat} {np pos:Pos} {cv:Value} {b₀:Stmt} {suite:List Stmt} {t:Nat->Option Bool} {g:Ev->M Fl} {r:List ExceptHandler} {hs:List Hd} (hg:Gl X x) (hd:(x == ("__debug__" : Str))=false) (hm:ye0 X x cv) (ht:∀ c b,t c=some b->PySem.W.exmOne X.K (.ref (T.ca c)) cv=some b)
   (hN:X.N.Nodup) (hi:X.N[i]?=some n) (hl:X.env.scope.names.lookup n=some .local)
   (hb:∀ e,FSs T (Cx.inH X e) (b₀::suite) g) (hr:FHs T X r hs):FHs T X (.ExceptHandler (some (.Name x np)) (some n) (b₀::suite) pos::r) (⟨t,some i,g⟩::hs)
section
variable{T:Tb}{X:Cx}
end
theorem zr3{T:Tb}{X:Cx}{stm:Stmt}{i:Nat}{f:Ev->M D}(h:FS T X stm (yop i f)):FS T X stm (yop i (yl3 f)):=by
 intro pins s st H D I hw;obtain⟨μ,ρ,σ,hE,hr,hp⟩:=hw;refine h pins s st H D I ⟨μ,ρ,σ,hE,hr,?_⟩;have hp':yky T EN (RFl T) μ H (xs ρ (frz (f ρ)) (yos i ρ) σ) (ykm X D):=hp;show yky T EN (RFl T) μ H (xs ρ (f ρ) (yos i ρ) σ) (ykm X D);unfold xs frz at hp';unfold xs;cases e:f ρ σ with
 |bad=>rw[e]at hp';exact hp'
 |ex x σ1=>
  rw[e]at hp';unfold ymh at hp';dsimp only at hp' ⊢;by_cases ht:σ1.take σ.length=σ
  ·rw[if_pos ht]at hp';intro μ1 gl H1 e1 r1 q1;cases gl with
   |xc st1 c1 fd1=>
    obtain⟨r2,e2⟩:=Rel.down hr r1 e1 ht;obtain⟨qE,qc⟩:=q1;refine hp' μ (.xc st1 c1 fd1) H1 e2 r2 ⟨⟨qE.1,fun j d ej=>?_⟩,qc⟩;obtain⟨v,h1,h2⟩:=qE.2 j d ej;obtain⟨v0,_,h4⟩:=hE.2 j d ej;exact⟨v,h1,Rep.down e1.pre d v0 v h4 h2⟩
   |_=>exact q1.elim
  ·rw[if_neg ht]at hp';exact hp'.elim
 |ok d σ1=>
  rw[e]at hp';unfold ymh at hp';dsimp only at hp' ⊢;by_cases ht:σ1.take σ.length=σ
  ·rw[if_pos ht]at hp';cases ef:fz σ.length σ1 6 d with
   |none=>rw[ef]at hp';exact hp'.elim
   |some d'=>
    rw[ef]at hp';intro μ1 gl H1 e1 r1 q1;cases gl with
    |nx st1=>
     obtain⟨r2,e2⟩:=Rel.down hr r1 e1 ht;have q1':ykl T μ1 H1 (ρ.set i (some d)) st1:=q1;refine hp' μ (.nx st1) H1 e2 r2 ⟨by simpa using q1'.1,fun j x ej=>?_⟩;rw[List.getElem?_set]at ej;by_cases hj:i=j
     ·subst hj;rw[if_pos rfl]at ej;split at ej
      ·rename_i hl
       cases ej;obtain⟨v,h1,h2⟩:=q1'.2 i d (by rw[List.getElem?_set,if_pos rfl,if_pos hl]);exact⟨v,h1,yad e1.pre r1 6 d d' v (by rw[hr.len];exact ef) h2⟩
      ·cases ej
     ·rw[if_neg hj]at ej;obtain⟨v,h1,h2⟩:=q1'.2 j x (by rw[List.getElem?_set,if_neg hj];exact ej);obtain⟨v0,_,h4⟩:=hE.2 j x ej;exact⟨v,h1,Rep.down e1.pre x v0 v h4 h2⟩
    |_=>exact q1.elim
  ·rw[if_neg ht]at hp';exact hp'.elim
def yfg:List D->Option (List Bool)
 |[]=>some []
 | .bl b::r=>(yfg r).map (b::·)
 |_::_=>none
def yao:List D->Option (List Int)
 |[]=>some []
 | .int b::r=>(yao r).map (b::·)
 |_::_=>none
theorem zp4{T:Tb}{μ:List Addr}{H:Hp}:∀ {ds:List D} {vs:List V} {bs:List Bool},yk4 T μ H ds vs->yfg ds=some bs->vs=bs.map V.bl
 |[],vs,bs,r,h=>by cases h;rw[yk4]at r;exact r
 |d::ds,vs,bs,r,h=>by
  rw[yk4]at r;obtain⟨v,w,rfl,h1,h2⟩:=r;cases d with
  |bl b=>
   obtain⟨cs,e1,e2⟩:=Option.map_eq_some_iff.mp h;subst e2;rw[Rep]at h1;subst h1;rw[zp4 h2 e1];rfl
  |_=>cases h
theorem zl6{T:Tb}{μ:List Addr}{H:Hp}:∀ {ds:List D} {vs:List V} {bs:List Int},yk4 T μ H ds vs->yao ds=some bs->vs=bs.map V.int
 |[],vs,bs,r,h=>by cases h;rw[yk4]at r;exact r
 |d::ds,vs,bs,r,h=>by
  rw[yk4]at r;obtain⟨v,w,rfl,h1,h2⟩:=r;cases d with
  |int b=>
   obtain⟨cs,e1,e2⟩:=Option.map_eq_some_iff.mp h;subst e2;rw[Rep]at h1;subst h1;rw[zl6 h2 e1];rfl
  |_=>cases h
def ynb(xs:List D):M D:=fun σ=>match xs with
 |[x]=>(match (yi9 σ x).bind yfg with
  |some bs=>.ok (.bl (bs.all id)) σ
  |none=>.bad)
 |_=>.bad
def ynu(xs:List D):M D:=fun σ=>match xs with
 |[x]=>(match (yi9 σ x).bind yao with
  |some bs=>.ok (.int bs.sum) σ
  |none=>.bad)
 |_=>.bad
section
variable{T:Tb}{X:Cx}
def yir(K:PySem.W.Frag)(g:List Bool->Bool):List V->Hp->VK->Prop:=fun xs H Q=>∃ p bs,xs=[.ref p]/\(SqL K H p (bs.map V.bl)\/SqT K H p (bs.map V.bl))/\Q (.bl (g bs)) H
def yiz(K:PySem.W.Frag):List V->Hp->VK->Prop:=fun xs H Q=>∃ (p:Addr) (bs:List Int),xs=[.ref p]/\(SqL K H p (bs.map V.int)\/SqT K H p (bs.map V.int))/\Q (.int bs.sum) H
theorem zxh:∀ {bs:List Bool} {us:List Value},yla (bs.map V.bl) us->us=bs.map Value.bool
 |[],us,h=>by cases h;rfl
 |b::bs,us,h=>by
  cases h with
  |cons r t=>cases r;rw[zxh t];rfl
theorem znu{α:Type}(g:α->Bool)(d:α):∀ (bs:List α),(List.range bs.length).all (fun i=>g (bs.getD i d))=bs.all g
 |[]=>rfl
 |b::bs=>by
  rw[List.length_cons,List.range_succ_eq_map,List.all_cons,List.all_map,List.all_cons];congr 1;rw[<-znu g d bs];congr 1
theorem zo4{prog:Program}{w:World}{A:Around}(bs:List Bool):TruthOf prog w A (fun i v=>(bs.map Value.bool).toArray[i]?=some v) (fun i=>bs.getD i false):=by
 intro i v s Q E hP hQ;simp only[List.getElem?_toArray,List.getElem?_map]at hP;cases e:bs[i]? with
 |none=>rw[e]at hP;cases hP
 |some b=>
  rw[e]at hP;cases hP;have hQ':Q (bs.getD i false) s:=hQ;rw[List.getD_eq_getElem?_getD,e]at hQ';exact wpAny_truthy_bool hQ'
theorem zmc{s:Shared}{o:Obj}{h':Heap}(k:∀ b u,b ∉ [s.heap.objs.size]->(s.heap.push o).get? b=some u->h'.get? b=some u):∀ b u,s.heap.get? b=some u->h'.get? b=some u:=fun b u e=>
 k b u (fun z=>absurd (Heap.lt_size e) (by rw[List.mem_singleton.mp z];exact Nat.lt_irrefl _)) (Heap.get?_push_of_some _ e)
theorem zpf{pins:List (Addr × Obj)}{s:Shared}{st:St}{H:Hp}{p:Addr}{vs:List V}{E:Value->Shared->Prop}{Q:Value->Shared->Prop}(hh:X.A.handled=none)(I:Inv X pins st H s)(hq:SqL X.K H p vs\/SqT X.K H p vs)
  (h:∀ (its:List Value) (It:Addr) (fp:List Addr) (St:Nat->Heap->Prop) (s2:Shared),yla vs its->Walks X.prog X.w X.A.in1 It fp [It] its.toArray.size (fun i v=>its.toArray[i]?=some v) St->St 0 s2.heap->(∀ b∈fp,b<s2.heap.objs.size)->
   (∀ h' tk,(∀ b o,b ∉ [It]->s2.heap.get? b=some o->h'.get? b=some o)->Inv X pins st H { s2 with heap:=h',toks:=tk })->Q (.ref It) s2):wpAny (model X.prog X.w) X.A.in1 (pyIter (.ref p)) Q E s:=by
 rcases hq with hq|hq
 ·obtain⟨its,rv,pl,hz⟩:=I.list hq;have hlt:p<s.heap.objs.size:=by obtain⟨_,e,_⟩:=pl.isList;exact Heap.lt_size e
  refine wpAny_pyIter_list pl.isList (h its s.heap.objs.size [s.heap.objs.size,p] _ _ rv (Walks.list (A:=X.A.in1) hh _ p (Nat.ne_of_lt hlt) its.toArray) ⟨⟨_,Heap.get?_push_size _ rfl,rfl,rfl⟩,pl.isList.push _⟩ (fun b hb=>?_) (fun h' tk hk=>I.kept (zmc hk)));show b<(s.heap.push _).objs.size;rw[Heap.size_push];simp only[List.mem_cons,List.not_mem_nil,or_false]at hb;rcases hb with rfl|rfl
  ·exact Nat.lt_succ_self _
  ·exact Nat.lt_succ_of_lt hlt
 ·obtain⟨its,rv,pl,hz⟩:=I.tuple hq;have hlt:p<s.heap.objs.size:=pl.lt;refine wpAny_pyIter_tuple (show s.heap.IsTuple p _ from pl) (h its s.heap.objs.size [s.heap.objs.size,p] _ _ rv (Walks.tuple (A:=X.A.in1) hh _ p (Nat.ne_of_lt hlt) its.toArray) ⟨⟨_,Heap.get?_push_size _ rfl,rfl,rfl⟩,Heap.IsTuple.push (show s.heap.IsTuple p _ from pl) _⟩ (fun b hb=>?_) (fun h' tk hk=>I.kept (zmc hk)));show b<(s.heap.push _).objs.size;rw[Heap.size_push];simp only[List.mem_cons,List.not_mem_nil,or_false]at hb;rcases hb with rfl|rfl
  ·exact Nat.lt_succ_self _
  ·exact Nat.lt_succ_of_lt hlt
theorem zjx(hc:X.calm=true):yew X (.builtin "all") (yir X.K fun bs=>bs.all id):=by
 intro pins s st H xs us Q I r h;obtain⟨p,bs,rfl,hq,q⟩:=h;obtain⟨u,rfl,ru⟩:=yj9 r;cases ru;refine call_all_walk (zpf (I.ok.hd hc) I hq fun its It fp St s2 rv W h0 hf hI=>?_);have ei:=zxh rv;subst ei;refine⟨_,_,_,_,_,_,fun i=>bs.getD i false,rfl,W,h0,zo4 bs,fun h' tk hk=>⟨.bl (bs.all id),H,hI h' tk hk,?_,q⟩⟩;show Value.bool _=Value.bool _;rw[List.size_toArray,List.length_map];exact congrArg Value.bool (znu id false bs)
theorem zek:∀ (bs:List Int) (n:Nat),n<=bs.length->preSum (fun i=>bs.getD i 0) n=(bs.take n).sum
 |bs,0,_=>by simp[preSum]
 |bs,n+1,h=>by
  rw[preSum,zek bs n (by omega),List.take_succ_eq_append_getElem (by omega),List.sum_append];simp[List.getD_eq_getElem?_getD,show n<bs.length by omega]
theorem zgv(hc:X.calm=true):yew X (.builtin "sum") (yiz X.K):=by
 intro pins s st H xs us Q I r h;obtain⟨p,bs,rfl,hq,q⟩:=h;obtain⟨u,rfl,ru⟩:=yj9 r;cases ru;refine call_sum_walkG (zpf (I.ok.hd hc) I hq fun its It fp St s2 rv W h0 hf hI=>?_);refine⟨_,_,_,_,_,_,fun i=>bs.getD i 0,rfl,W,h0,hf,fun i v hv=>?_,fun h' tk t' hk=>⟨.int bs.sum,H,hI h' tk hk,⟨t',?_⟩,q⟩⟩
 ·simp only[List.getElem?_toArray]at hv;obtain⟨x,h1,h2⟩:=zpc rv hv;rw[List.getElem?_map]at h1;cases e:bs[i]? with
  |none=>rw[e]at h1;cases h1
  |some b=>
   rw[e]at h1;cases h1;obtain⟨t,rfl⟩:=h2;exact⟨t,by show Value.int b t=Value.int (bs.getD i 0) t;rw[List.getD_eq_getElem?_getD,e];rfl⟩
 ·have el:its.toArray.size=bs.length:=by rw[List.size_toArray,<-rv.length,List.length_map]
  rw[el,zek bs _ (Nat.le_refl _),List.take_length]
theorem zoc{α:Type}{σ:Sto}{x:D}{g:List D->Option α}{bs:α}(h:(yi9 σ x).bind g=some bs):∃ ys,yi9 σ x=some ys/\g ys=some bs:=Option.bind_eq_some_iff.mp h
theorem zwm(hK:T.K=X.K):zpj T (yir X.K fun bs=>bs.all id) ynb:=by
 intro E μ H σ xs vs Q r p h
 match xs with
 |[]=>exact h.elim
 |[x]=>
  rw[yk4]at p;obtain⟨v,w,rfl,p1,p2⟩:=p;rw[yk4]at p2;subst p2;unfold ynb at h;cases e:(yi9 σ x).bind yfg with
  |none=>simp only[e]at h;exact h.elim
  |some bs=>
   simp only[e]at h;obtain⟨ys,e1,e2⟩:=zoc e;obtain⟨b,vs,rfl,h1,h2⟩:=zwf r p1 e1;rw[hK,zp4 h1 e2]at h2;exact⟨b,bs,rfl,h2,yky.here h r (by rw[Rep])⟩
 |_::_::_=>exact h.elim
theorem zwy(hK:T.K=X.K):zpj T (yiz X.K) ynu:=by
 intro E μ H σ xs vs Q r p h
 match xs with
 |[]=>exact h.elim
 |[x]=>
  rw[yk4]at p;obtain⟨v,w,rfl,p1,p2⟩:=p;rw[yk4]at p2;subst p2;unfold ynu at h;cases e:(yi9 σ x).bind yao with
  |none=>simp only[e]at h;exact h.elim
  |some bs=>
   simp only[e]at h;obtain⟨ys,e1,e2⟩:=zoc e;obtain⟨b,vs,rfl,h1,h2⟩:=zwf r p1 e1;rw[hK,zl6 h1 e2]at h2;exact⟨b,bs,rfl,h2,yky.here h r (by rw[Rep])⟩
 |_::_::_=>exact h.elim
def yh5(xs:List D):M D:=match xs with
 |[.int i,.int j]=>ret (.int (max i j))
 |_=>bad
theorem zo7{μ:List Addr}{H:Hp}{x y:D}{vs:List V}(p:yk4 T μ H [x,y] vs):∃ v u,vs=[v,u]/\Rep T μ H x v/\Rep T μ H y u:=by
 rw[yk4]at p;obtain⟨v,w,rfl,p1,p2⟩:=p;rw[yk4]at p2;obtain⟨u,w',rfl,p3,p4⟩:=p2;rw[yk4]at p4;subst p4;exact⟨v,u,rfl,p1,p3⟩
theorem zos:zpj T (fun xs H Q=>∃ i j,xs=[.int i,.int j]/\Q (.int (if j > i then j else i)) H) yh5:=by
 intro E μ H σ xs vs Q r p h;unfold yh5 at h;split at h
 ·rename_i i j
  obtain⟨v,u,rfl,p1,p2⟩:=zo7 p;refine⟨i,j,by rw[yan p1,yan p2],?_⟩;have e:(if j > i then j else i)=max i j:=by rw[Int.max_def];split<;>split<;>omega
  rw[e];exact yky.here h r (by rw[Rep])
 ·exact h.elim
def ynl(neg:Bool)(x y:D):M D:=fun σ=>match y with
 | .bl k=>(match x with
  | .bl c=>.ok (.bl (if neg then !(c == k)else c == k)) σ
  | .non=>.ok (.bl neg) σ
  | .int _=>.ok (.bl neg) σ
  | .str _=>.ok (.bl neg) σ
  |_=>.bad)
 |_=>.bad
theorem ycb:OpR X (compareOp .Is) (rD T (ynl false)):=by
 intro pins s st H v u v' u' Q I rv ru h;obtain⟨E,μ,σ,x,y,r,hx,hy,hp⟩:=h;cases y with
 |bl k=>
  rw[Rep]at hy;subst hy;cases ru;cases x with
  |bl c=>rw[Rep]at hx;subst hx;cases rv;exact is_bool ⟨.bl (c == k),H,I,rfl,yky.here hp r (by rw[Rep];rfl)⟩
  |non=>rw[Rep]at hx;subst hx;cases rv;exact wpAny_is_other rfl (by intro z;cases z) ⟨.bl false,H,I,rfl,yky.here hp r (by rw[Rep])⟩
  |int i=>rw[Rep]at hx;subst hx;obtain⟨t,rfl⟩:=rv;exact wpAny_is_other rfl (by intro z;cases z) ⟨.bl false,H,I,rfl,yky.here hp r (by rw[Rep])⟩
  |str i=>rw[Rep]at hx;subst hx;obtain⟨t,rfl⟩:=rv;exact wpAny_is_other rfl (by intro z;cases z) ⟨.bl false,H,I,rfl,yky.here hp r (by rw[Rep])⟩
  |_=>exact hp.elim
 |_=>exact hp.elim
def ddp(ns:List Int):List Int:=ns.foldl step_dedup []
theorem zg3(ns:List Int):firstMet (fun i=>ns.getD i 0) ns.length=ddp ns:=by
 unfold firstMet ddp;congr 1;apply List.ext_getElem?;intro i;by_cases h:i<ns.length
 ·simp[h]
 ·simp[h]
def ylv(xs:List D)(lo hi:Option Int):List D:=(xs.drop (HT.sIx xs.length 0 lo)).take (HT.sIx xs.length xs.length hi - HT.sIx xs.length 0 lo)
theorem ze3{xs:List D}{lo hi:Option Int}(h:HT.sIx xs.length 0 lo=0/\HT.sIx xs.length xs.length hi=xs.length):ylv xs lo hi=xs:=by
 unfold ylv;rw[h.1,h.2];simp
theorem zka{μ:List Addr}{H:Hp}{xs:List D}{vs:List V}(r:yk4 T μ H xs vs)(lo hi:Option Int):yk4 T μ H (ylv xs lo hi) (ylx vs lo hi):=by
 unfold ylv ylx;rw[r.length];exact yk4.take _ (yk4.drop _ r)
end
end L4
namespace HT
open PySem PySem.Spec PyProof.Rows
variable{prog:Program}{w:World}{A:Around}{E:Value->Shared->Prop}{s:Shared}
theorem getItem_tuple_all{t sl:Addr}{items:Array Value}{vl vu:Value}{lo hi:Option Int}{Q:Value->Shared->Prop}(ht:IsTup s.heap t items)(hs:s.heap.IsSliceOf sl vl vu .none)(pl:IsPart vl lo)(pu:IsPart vu hi)
  (hw:sIx items.size 0 lo=0/\sIx items.size items.size hi=items.size) (h:Q (.ref t) s):wpAny (model prog w) A (getItem (.ref t) (.ref sl)) Q E s:=by
 obtain⟨os,hos,hcs,hds⟩:=id hs;have hTs:s.TypeIs (.ref sl) "slice":=⟨os,hos,hcs⟩
 unfold getItem;try with_reducible refine wpAny_holding ?_
 first|refine wpAny_bind (wpAny_pure ?_)|skip
 refine wpAny_bind (wpAny_sequenceKey ht.typeIs (by decide) ?_);refine wpAny_bind (wpAny_callSpecial?_slot (name:=Str.ofString "__getitem__") ht.typeIs PyProof.Rows.slot_tuple_getitem
  (wpAny_call_entry PyProof.Rows.slot_tuple_getitem ht.typeIs entry_tuple_getitem ?_ (args_tuple_getitem _ _)))
 show wpAny _ _ (Builtin.Tuple.tupleItemsOf (.ref t) >>= _) _ _ s;refine wpAny_bind (tupleItemsOf_ ht ?_);refine wpAny_bind (wpAny_typeOf hTs ?_);rw[if_pos (by decide)];refine wpAny_bind (zao hs pl pu ?_);have hyes:(((sIx items.size 0 lo:Nat):Int) == 0 && (1:Int) == 1 && (sIx items.size items.size hi - sIx items.size 0 lo) == items.size)=true:=by
  rw[hw.1,hw.2];simp
 show wpAny _ _ (if (((sIx items.size 0 lo:Nat):Int) == 0 && (1:Int) == 1 && (sIx items.size items.size hi - sIx items.size 0 lo) == items.size)=true then _ else _) _ _ s;rw[if_pos hyes];obtain⟨o,ho,hc,hr⟩:=id ht;unfold Builtin.Tuple.tupleIsExact;refine wpAny_bind (wpAny_bind (wpAny_typeOf ht.typeIs ?_));refine wpAny_pure ?_;rw[if_pos (by decide)];refine wpAny_bind (wpAny_rule ?_);first
  |exact wpAny_pure ⟨_,rfl,wpAny_pure h⟩
  |exact wpAny_pure (wpAny_pure ⟨_,rfl,wpAny_pure h⟩)
  |exact wpAny_bind (wpAny_pure (wpAny_pure ⟨_,rfl,wpAny_pure h⟩))
end HT
namespace L4
open PySem PySem.Spec PyProof.Rows L2
section
variable{T:Tb}{X:Cx}
def yn8(K:PySem.W.Frag):V->Option Int->Option Int->Hp->VK->Prop:=fun x lo hi H Q=>∃ a xs,x=.ref a/\SqT K H a xs/\(HT.sIx xs.length 0 lo=0/\HT.sIx xs.length xs.length hi=xs.length)/\Q (.ref a) H
theorem ydv:SlR X (yn8 X.K):=by
 intro pins s st H x v vl vu lo hi sl Q I rx hs pl pu h;obtain⟨a,xs,rfl,hx,hw,q⟩:=h;cases rx;obtain⟨its,r,ht,hz⟩:=I.tuple hx;have hlen:its.toArray.size=xs.length:=by rw[List.size_toArray];exact r.length.symm
 exact⟨"tuple",_,PyProof.Rows.slot_tuple_getitem.lookup,ht.typeIs,HT.getItem_tuple_all ht hs pl pu (by rw[hlen];exact hw) ⟨.ref a,H,I,rfl,q⟩⟩
abbrev PF:=Option (Ev->M D)
def yie(d:D):M (Option Int):=match d with
 | .int i=>ret (some i)
 |_=>bad
def yf3(p:PF):Ev->M (Option Int):=match p with
 |none=>fun _=>ret none
 |some f=>fun ρ=>bnd (f ρ) yie
def tP(T:Tb)(X:Cx)(f:Ev->M (Option Int)):TO:=fun st H Q=>∃ μ ρ σ,ykl T μ H ρ st/\Rel T μ H σ/\yky T (XE X st) (fun _ _ a b=>b=a) μ H (f ρ σ) Q
abbrev FO(T:Tb)(X:Cx)(e:Option Expr)(p:PF):Prop:=PO X e (tP T X (yf3 p))
theorem zro:FO T X none none:=by
 intro pins s st H Q I h;obtain⟨μ,ρ,σ,hE,hr,hp⟩:=h;exact zu3 pins s st H Q I (yky.here hp hr rfl)
theorem zrp{e:Expr}{f:Ev->M D}(he:FE T X e f):FO T X (some e) (some f):=by
 intro pins s st H Q I h;refine zu4 he pins s st H Q I ?_;obtain⟨μ,ρ,σ,hE,hr,hp⟩:=h;refine⟨μ,ρ,σ,hE,hr,yky.bind hp fun d σ1 μ1 v H1 _ e1 r1 q1 p1=>?_⟩;cases d with
 |int i=>exact⟨i,yan q1,yky.here p1 r1 rfl⟩
 |_=>exact p1.elim
def ylw(x:D)(lo hi:Option Int):M D:=fun σ=>match x with
 | .tup xs=>.ok (.tup (ylv xs lo hi)) σ
 | .scr ns=>.ok (.lst (ylv (ns.map D.int) lo hi)) σ
 |x=>(match ym3 σ x with
  |some xs=>.ok (.lst (ylv xs lo hi)) σ
  |none=>.bad)
def yov(x:D)(lo:Option Int)(hi:Option Int):M D:=ylw x lo hi
def you(x:D)(hi:M (Option Int))(lo:Option Int):M D:=bnd hi (yov x lo)
def yot(lo hi:M (Option Int))(x:D):M D:=bnd lo (you x hi)
def eSl(f:Ev->M D)(lo hi:PF):Ev->M D:=fun ρ=>bnd (f ρ) (yot (yf3 lo ρ) (yf3 hi ρ))
theorem zk2{e:Expr}{lo hi:Option Expr}{f:Ev->M D}{pl ph:PF}{pos p2:Pos}(hK:T.K=X.K)(he:FE T X e f)(hl:FO T X lo pl)(hh:FO T X hi ph):FE T X (.Subscript e (.Slice lo hi none p2) pos) (eSl f pl ph):=by
 intro pins s st H Q I h;refine znj (SlR.or ydw (SlR.or ydv zwj)) he hl hh pins s st H Q I ?_;obtain⟨μ,ρ,σ,hE,hr,hp⟩:=h;refine⟨μ,ρ,σ,hE,hr,hp.bind fun d σ1 μ1 v H1 _ e1 r1 q1 p1=>⟨μ1,ρ,σ1,hE.mono e1,r1,p1.bind fun l σ2 μ2 l' H2 _ e2 r2 q2 p2=>⟨μ2,ρ,σ2,(hE.mono e1).mono e2,r2,p2.bind fun u σ3 μ3 u' H3 _ e3 r3 q3 p3=>?_⟩⟩⟩;have q2':l'=l:=q2;have q3':u'=u:=q3;subst q2';subst q3';have rd:Rep T μ3 H3 d v:=Rep.mono e3 _ _ (Rep.mono e2 _ _ q1);have lists:∀ ys,ym3 σ3 d=some ys->yky T (XE X st) (Rep T) μ3 H3 (.ok (.lst (ylv ys l' u')) σ3) Q->yoa X.K v l' u' H3 Q\/yn8 X.K v l' u' H3 Q\/yn9 X.K v l' u' H3 Q:=fun ys ey p4=>by
  obtain⟨a,vs,rfl,h1,h2⟩:=r3.ls rd ey;exact .inr (.inr ⟨a,vs,rfl,SqL.of h1,fun p hn=>ybl p4 r3 (zka h2 l' u') hn⟩)
 cases d with
 |tup xs=>
  have rd0:=rd;rw[Rep]at rd;obtain⟨p,vs,rfl,h1,h2⟩:=rd;by_cases hw:HT.sIx vs.length 0 l'=0/\HT.sIx vs.length vs.length u'=vs.length
  ·refine .inr (.inl ⟨p,vs,rfl,SqT.of h1,hw,yky.here (d:=D.tup (ylv xs l' u')) p3 r3 ?_⟩);rw[ze3 (by rw[h2.length];exact hw)];exact rd0
  ·exact .inl ⟨p,vs,rfl,SqT.of h1,hw,fun q hn=>zt1 p3 r3 (zka h2 l' u') hn⟩
 |ref n=>
  unfold yov ylw at p3;dsimp only at p3;cases ey:ym3 σ3 (.ref n)with
  |none=>rw[ey]at p3;exact p3.elim
  |some ys=>rw[ey]at p3;exact lists ys ey p3
 |lst ys=>exact lists ys rfl p3
 |scr ns=>
  rw[Rep]at rd;obtain⟨p,rfl,h1⟩:=rd;have h2:=h1.seq;rw[hK]at h2;exact .inr (.inr ⟨p,_,rfl,h2,fun p hn=>ybl p3 r3 (zka (zim ns) l' u') hn⟩)
 |_=>exact p3.elim
end
def OkD(T:Tb)(P:Program)(w:World)(mg:Str->Option Value)(base:Heap)(k:Nat)(x:Str)(ps:List Str)(dv:List Value)(fn:List D->M D):Prop:=
 ∃ f fd,mg x=some (.ref f)/\PySem.W.keepIn T.K (.ref f)=true/\yeu T.K fd ps []/\yeu T.K fd ps dv/\FnOk P w T.K mg base (CXE P w) k f fd ps (spF T ps.length fn)
section
variable{T:Tb}{X:Cx}
variable{P:Program}{w:World}{K:PySem.W.Frag}{mg:Str->Option Value}{base:Heap}{ca:Nat->Addr}{tx:Tx}
theorem OkD.frz{k:Nat}{x:Str}{ps:List Str}{dv:List Value}{fn:List D->M D}(h:OkD T P w mg base k x ps dv fn):OkD T P w mg base k x ps dv (fun ds=>L4.frz (fn ds)):=by
 obtain⟨f,fd,h1,h2,h3,h4,h5⟩:=h;exact⟨f,fd,h1,h2,h3,h4,zrr h5⟩
end
theorem OkF.hide{T:Tb}{P:Program}{w:World}{mg:Str->Option Value}{base:Heap}{k:Nat}{x:Str}{ps:List Str}{fn:List D->M D}(h:OkF T P w mg base k x ps fn):OkF T P w mg base k x ps (L4.hide fn):=by rw[zsp];exact h
theorem OkD.hide{T:Tb}{P:Program}{w:World}{mg:Str->Option Value}{base:Heap}{k:Nat}{x:Str}{ps:List Str}{dv:List Value}{fn:List D->M D}(h:OkD T P w mg base k x ps dv fn):OkD T P w mg base k x ps dv (L4.hide fn):=by rw[zsp];exact h
section
variable{T:Tb}{X:Cx}{μ:List Addr}{H:Hp}{σ:Sto}
def ygz(σ:Sto):D->Option (Nat × List (Str × D))
 | .obj c ns ds=>if ns.length=ds.length then some (c,ns.zip ds)else none
 | .ref n=>match σ[n]? with
  |some (.ins c fs)=>some (c,fs)
  |_=>none
 |_=>none
theorem znw:∀ {ns:List Str} {ds:List D} {fs:List (Str × V)},fs.map (·.1)=ns->yk4 T μ H ds (fs.map (·.2))->yk2 T μ H (ns.zip ds) fs
 |[],ds,[],_,h=>by
  rw[List.map_nil]at h;cases ds with
  |nil=>exact Paired.nil
  |cons d ds=>have:=h.length;simp at this
 |[],ds,f::fs,e,_=>by simp at e
 |n::ns,ds,[],e,_=>by simp at e
 |n::ns,[],f::fs,e,h=>by have:=h.length;simp at this
 |n::ns,d::ds,f::fs,e,h=>by
  simp only[List.map_cons,List.cons.injEq]at e;rw[List.map_cons,yk4]at h;obtain⟨v,r,e2,h1,h2⟩:=h;simp only[List.cons.injEq]at e2;obtain⟨e3,e4⟩:=e2;subst e4;exact Paired.cons ⟨e.1.symm,by rw[e3];exact h1⟩ (znw e.2 h2)
theorem zsw(r:Rel T μ H σ){d:D}{v:V}{c:Nat}{fs:List (Str × D)}(h:Rep T μ H d v)(e:ygz σ d=some (c,fs)):∃ a dx vs,v=.ref a/\H a=some (.ins (T.ca c) dx vs)/\yk2 T μ H fs vs:=by
 cases d with
 |obj c' ns ds=>
  unfold ygz at e;by_cases hl:ns.length=ds.length
  ·simp only[hl,if_true,Option.some.injEq,Prod.mk.injEq]at e;obtain⟨rfl,rfl⟩:=e;rw[Rep]at h;obtain⟨a,dx,vs,rfl,_,h3,h4,h5⟩:=h;exact⟨a,dx,vs,rfl,h3,znw h4 h5⟩
  ·simp[hl]at e
 |ref n=>
  unfold ygz at e;dsimp only at e;cases es:σ[n]? with
  |none=>rw[es]at e;cases e
  |some o=>
   rw[es]at e;obtain⟨a,rfl,_,h2⟩:=r.at h es;cases o with
   |ins c' fs'=>cases e;obtain⟨dx,vs,h3,h4⟩:=h2;exact⟨a,dx,vs,rfl,h3,h4⟩
   |lst _=>cases e
   |dic _=>cases e
   |fdic _=>cases e
 |_=>cases e
theorem zmm{f:Str}:∀ {fs:List (Str × D)} {vs:List (Str × V)},yk2 T μ H fs vs->(∀ d,fs.lookup f=some d->∃ v,vs.lookup f=some v/\Rep T μ H d v)/\(fs.lookup f=none->vs.lookup f=none)
 |_,_,.nil=>⟨fun d e=>by simp at e,fun _=>rfl⟩
 |(g,x)::fs,(g',v)::vs,.cons ⟨e,h⟩ t=>by
  have e':g=g':=e;subst e';obtain⟨h1,h2⟩:=zmm t;by_cases hg:(f == g)=true
  ·refine⟨fun d q=>?_,fun q=>?_⟩
   ·rw[List.lookup_cons,hg]at q;cases q;exact⟨v,by rw[List.lookup_cons,hg],h⟩
   ·rw[List.lookup_cons,hg]at q;cases q
  ·have hg':(f == g)=false:=by simpa using hg
   refine⟨fun d q=>?_,fun q=>?_⟩
   ·rw[List.lookup_cons,hg']at q;obtain⟨w,q1,q2⟩:=h1 d q;exact⟨w,by rw[List.lookup_cons,hg'];exact q1,q2⟩
   ·rw[List.lookup_cons,hg']at q;rw[List.lookup_cons,hg'];exact h2 q
def yey(T:Tb)(cs:List Nat)(f:Str):Prop:=∀ c,cs.contains c=true->Cls T.K (T.ca c)/\zxt T.K (T.ca c) f
theorem zrl{f:Str}:yey T [] f:=fun c h=>by simp at h
theorem zlc{f:Str}{c:Nat}{cs:List Nat}(h1:Cls T.K (T.ca c))(h2:zxt T.K (T.ca c) f)(h:yey T cs f):yey T (c::cs) f:=fun d hd=>by
 rw[List.contains_cons,Bool.or_eq_true,beq_iff_eq]at hd;rcases hd with rfl|hd
 ·exact⟨h1,h2⟩
 ·exact h d hd
def yng(cs:List Nat)(f:Str)(x:D):M D:=fun σ=>match ygz σ x with
 |some (c,fs)=>if cs.contains c=true then (match fs.lookup f with
  |some d=>.ok d σ
  |none=>.bad)else .bad
 |none=>.bad
theorem zzc{e:Expr}{f:Str}{g:Ev->M D}{pos:Pos}{cs:List Nat}(hK:T.K=X.K)(hc:yey T cs f)(he:FE T X e g)
  (hb:attributeBase e f X.env (eval e X.env)=eval e X.env:=by rfl):FE T X (.Attribute e f pos) (eUn (yng cs f) g):=by
 intro pins s st H Q I h;refine ycm he hb pins s st H Q I ?_;obtain⟨μ,ρ,σ,hE,hr,hp⟩:=h;refine⟨μ,ρ,σ,hE,hr,yky.bind hp fun d σ1 μ1 v H1 _ e1 r1 q1 p1=>?_⟩;unfold yng at p1;cases ei:ygz σ1 d with
 |none=>rw[ei]at p1;exact p1.elim
 |some p=>
  obtain⟨c,fs⟩:=p;rw[ei]at p1;dsimp only at p1;by_cases hcc:cs.contains c=true
  ·rw[if_pos hcc]at p1;obtain⟨a,dx,vs,rfl,h1,h2⟩:=zsw r1 q1 ei;cases el:fs.lookup f with
   |none=>rw[el]at p1;exact p1.elim
   |some y=>
    rw[el]at p1;obtain⟨w,h3,h4⟩:=(zmm h2).1 y el;obtain⟨k1,k2⟩:=hc c hcc;rw[hK]at k1 k2;exact⟨a,_,dx,vs,w,rfl,h1,k1,k2,h3,yky.here p1 r1 h4⟩
  ·rw[if_neg hcc]at p1;exact p1.elim
def yny(f:Str)(v:D):List (Str × D)->List (Str × D)
 |[]=>[(f,v)]
 |(g,x)::r=>if g=f then (g,v)::r else (g,x)::yny f v r
theorem zvf{f:Str}{d:D}{v:V}(hd:Rep T μ H d v):∀ {fs:List (Str × D)} {vs:List (Str × V)},yk2 T μ H fs vs->yk2 T μ H (yny f d fs) (putF f v vs)
 |_,_,.nil=>Paired.cons ⟨rfl,hd⟩ Paired.nil
 |(g,x)::fs,(g',w)::vs,.cons ⟨e,h⟩ t=>by
  have e':g=g':=e;subst e';unfold yny putF;by_cases hg:g=f
  ·rw[if_pos hg,if_pos hg];exact Paired.cons ⟨rfl,hd⟩ t
  ·rw[if_neg hg,if_neg hg];exact Paired.cons ⟨rfl,h⟩ (zvf hd t)
theorem yk2.mono{μ':List Addr}{H':Hp}(e:Ext μ H μ' H'){fs:List (Str × D)}{vs:List (Str × V)}(h:yk2 T μ H fs vs):yk2 T μ' H' fs vs:=Paired.mapP h fun _ _ q=>⟨q.1,Rep.mono e _ _ q.2⟩
theorem yk2.length{fs:List (Str × D)}{vs:List (Str × V)}(h:yk2 T μ H fs vs):fs.length=vs.length:=Paired.length h
def yns(cs:List Nat)(f:Str)(d x:D):M Unit:=fun σ=>match x with
 | .ref n=>(match σ[n]? with
  |some (.ins c fs)=>if (cs.contains c && decide (fs.length<1000))=true then .ok () (σ.set n (.ins c (yny f d fs)))else .bad
  |_=>.bad)
 |_=>.bad
def yip(ρ:Ev)(cs:List Nat)(f:Str)(d x:D):M Fl:=fun σ=>match yns cs f d x σ with
 | .ok _ σ'=>.ok (.nx ρ) σ'
 |_=>.bad
def yio(ρ:Ev)(cs:List Nat)(f:Str)(fo:Ev->M D)(d:D):M Fl:=xs ρ (fo ρ) (yip ρ cs f d)
def yom(cs:List Nat)(f:Str)(fv fo:Ev->M D):Ev->M Fl:=fun ρ=>xs ρ (fv ρ) (yio ρ cs f fo)
theorem zz1{o value:Expr}{f:Str}{fv fo:Ev->M D}{pos pos':Pos}{cs:List Nat}(hK:T.K=X.K)(hc:yey T cs f)(ho:FE T X o fo)(hv:FE T X value fv)
  (hs:swapsWith value (some (.Attribute o f pos')) pos.line X.env=pure false:=by rfl):FS T X (.Assign [.Attribute o f pos'] value pos) (yom cs f fv fo):=by
 intro pins s st H D I hq;refine yc5 ho hv hs pins s st H D I ?_;obtain⟨μ,ρ,σ,hE,hr,hp⟩:=hq;refine⟨μ,ρ,σ,hE,hr,hp.xs hE fun d σ1 μ1 v H1 _ e1 r1 q1 p1=>?_⟩;refine⟨μ1,ρ,σ1,hE.mono e1,r1,p1.xs (hE.mono e1) fun x σ2 μ2 vo H2 _ e2 r2 q2 p2=>?_⟩;have hd:=Rep.mono e2 _ _ q1;unfold yip yns at p2;cases x with
 |ref n=>
  dsimp only at p2;cases el:σ2[n]? with
  |none=>rw[el]at p2;exact p2.elim
  |some ob=>
   rw[el]at p2;cases ob with
   |lst _=>exact p2.elim
   |dic _=>exact p2.elim
   |fdic _=>exact p2.elim
   |ins c fs=>
    dsimp only at p2;by_cases hcc:(cs.contains c && decide (fs.length<1000))=true
    ·rw[if_pos hcc]at p2;rw[Bool.and_eq_true,decide_eq_true_eq]at hcc;obtain⟨a,rfl,hn,dx,vs,h1,h2⟩:=r2.at q2 el;have ex:Ext μ2 H2 μ2 (upd H2 a (.ins (T.ca c) dx (putF f v vs))):=zg7 (List.mem_of_getElem? hn) h1 (fun _ z=>by cases z) (fun _ _ z=>by cases z);have wr:=r2.write (o:=.ins (T.ca c) dx (putF f v vs)) (ob:=.ins c (yny f d fs)) hn ⟨dx,_,zo8,zvf (Rep.mono ex _ _ hd) (yk2.mono ex h2)⟩;obtain⟨k1,k2⟩:=hc c hcc.1;rw[hK]at k1 k2;exact⟨a,_,dx,vs,rfl,h1,k1,k2,by rw[<-h2.length];exact hcc.2,p2 _ (.nx st) _ wr.1 wr.2 ((hE.mono e1).mono e2 |>.mono wr.1)⟩
    ·rw[if_neg hcc]at p2;exact p2.elim
 |_=>exact p2.elim
def yhs(n:Nat):Out D->Out D
 | .ok .non σ'=>.ok (.ref n) σ'
 | .ok _ _=>.bad
 | .ex x σ'=>.ex x σ'
 | .bad=>.bad
def yhl(c n:Nat)(fn:List D->M D)(ds:List D):M D:=fun σ=>if ds.length+1=n then yhs σ.length (fn (.ref σ.length::ds) (σ++[.ins c []]))else .bad
def yf0(c n:Nat)(fn:List D->M D)(fs:Ev->M (List D)):Ev->M D:=fun ρ=>bnd (fs ρ) (yhl c n fn)
def OkA(T:Tb)(P:Program)(w:World)(mg:Str->Option Value)(base:Heap)(k:Nat)(f:Addr)(ps:List Str)(fn:List D->M D):Prop:=
 ∃ fd,(∀ us:List Value,us.length=ps.length->bindArgs fd ⟨us,[]⟩=pure (ps.zip us))/\FnOk P w T.K mg base (CXE P w) k f fd ps (spF T ps.length fn)
def OkC(T:Tb)(P:Program)(w:World)(mg:Str->Option Value)(base:Heap)(k:Nat)(x:Str)(c:Nat)(ps:List Str)(fn:List D->M D):Prop:=
 ∃ f,mg x=some (.ref (T.ca c))/\Mk T.K (T.ca c) f/\OkA T P w mg base k f ps fn
theorem zh1{E:XK}{c:Nat}{ps:List Str}{fn:List D->M D}{ds:List D}{vs:List V}{Q:VK}(r:Rel T μ H σ)(q:yk4 T μ H ds vs)(p:yky T E (Rep T) μ H (yhl c ps.length fn ds σ) Q) :
  ∀ x dx,H x=none->H dx=none->dx≠x->spF T ps.length fn (.ref x::(vs++[])) (upd (upd H dx (.own x)) x (.ins (T.ca c) dx [])) (fun v H2=>v=.non/\Q (.ref x) H2) E:=by
 intro x dx hx hdx hne;unfold yhl at p;by_cases hl:ds.length+1=ps.length
 ·rw[if_pos hl]at p;have ex1:Ext μ H μ (upd H dx (.own x)):=zq6 hdx;have r1:Rel T μ (upd H dx (.own x)) σ:=r.fresh hdx;have hx1:upd H dx (.own x) x=none:=by unfold upd;rw[if_neg (Ne.symm hne)];exact hx
  have ex2:Ext μ (upd H dx (.own x)) (μ++[x]) (upd (upd H dx (.own x)) x (.ins (T.ca c) dx [])):=zkw hx1;have r2:Rel T (μ++[x]) (upd (upd H dx (.own x)) x (.ins (T.ca c) dx [])) (σ++[.ins c []]):=r1.push hx1 ⟨dx,[],zo8,Paired.nil⟩;refine⟨μ++[x],σ++[.ins c []],.ref σ.length::ds,yk4.cons (znz r1) (by rw[List.append_nil];exact yk4.mono (ex1.trans ex2) _ _ q),by rw[List.length_cons];exact hl,r2,?_⟩;cases e:fn (.ref σ.length::ds) (σ++[.ins c []])with
  |bad=>rw[e]at p;exact p.elim
  |ex y σ'=>rw[e]at p;exact fun μ' H' e' r'=>p μ' H' ((ex1.trans ex2).trans e') r'
  |ok d σ'=>
   rw[e]at p;intro μ' v H' e' r' q';have hv:d=.non:=by cases d<;>first|rfl|exact p.elim
   subst hv;rw[Rep]at q';refine⟨q',p μ' (.ref x) H' ((ex1.trans ex2).trans e') r' ?_⟩;exact Rep.mono e' _ _ (znz r1)
 ·rw[if_neg hl]at p;exact p.elim
theorem zir{k:Nat}{C f:Addr}{fd:FuncData}{ps:List Str}{sp:Sp}{dvs:List V}{ds:List Value}{pins:List (Addr × Obj)}{st:St}{H:Hp}{s:Shared}{Q:VK}{us:List Value}{vs:List V}(M:Mk X.K C f)(F:FnOk X.prog X.w X.K X.mg X.base (CXE X.prog X.w) k f fd ps sp)(hr:Room (k+1) X.A)(hb:yeu X.K fd ps ds)(hd:yla dvs ds)
  (I:Inv X pins st H s) (r:yla vs us)
  (h:∀ x dx,H x=none->H dx=none->dx≠x->sp (.ref x::(vs++dvs)) (upd (upd H dx (.own x)) x (.ins C dx [])) (fun v H2=>v=.non/\Q (.ref x) H2) (XE X st)) :
  wpAny (model X.prog X.w) X.A (call (.ref C) us) (EP X pins st Q) X.xe s:=by
 have hq:=h (s.heap.objs.size+1) s.heap.objs.size (I.hok.fresh (Nat.le_succ _)) (I.hok.fresh (Nat.le_refl _)) (Nat.ne_of_lt (Nat.lt_succ_self _));have I2:=Inv.made (C:=C) I;have r2:yla (V.ref (s.heap.objs.size+1)::(vs++dvs)) (Value.ref (s.heap.objs.size+1)::(us++ds)):=.cons rfl (r.append hd);have hl:(Value.ref (s.heap.objs.size+1)::us++ds).length=ps.length:=by
  have e:=r2.length;rw[F.len _ _ _ _ hq]at e;exact e.symm
 refine wpAny_call (zmr (f:=f) I.kIn M.makes M.init (beq_iff_eq.mp M.fn) (codeAny_mono (F.run _ X.stack _ _ ⟨Value.ref (s.heap.objs.size+1)::us,[]⟩ (Value.ref (s.heap.objs.size+1)::(us++ds)) _ _ (XE X st) (hr.make C us [])
  (I2.env0.make C us []) (hb _ (Value.ref (s.heap.objs.size+1)::us) I2.kIn hl) r2 hq) fun r s' hq'=>?_))
 cases r with
 |error e=>obtain⟨cls,fd,H',hfly,ht⟩:=hq';exact ht.fly pins _ _ e s' I2 hfly
 |ok fl=>
  cases fl with
  |ret u=>
   obtain⟨v,H',I3,rv,ev,q3⟩:=I2.after hq';subst ev;exact⟨rv,⟨V.ref (s.heap.objs.size+1),H',I3,rfl,q3⟩⟩
  |next=>exact False.elim hq'
  |brk=>exact False.elim hq'
  |cont=>exact False.elim hq'
theorem zrd{k c:Nat}{ps:List Str}{fn:List D->M D}{x:Str}{p pos:Pos}{e:Expr}{es:List Expr}{fs:Ev->M (List D)}(h:OkC T X.prog X.w X.mg X.base k x c ps fn)(hK:T.K=X.K)(hr:Room (k+1) X.A)(hg:Gl X x)
  (ha:FA T X (e::es) fs) (hdb:(x == ("__debug__" : Str))=false:=by decide) (he:starEach (e::es) X.env=(false,eval e X.env)::starEach es X.env:=by rfl) (hpl:(backTo pos (starEach es X.env)).any (·.1)=false:=by rfl) :
  FE T X (.Call (.Name x p) (e::es) [] pos) (yf0 c ps.length fn fs):=by
 obtain⟨f,hm,hM,fd,hb,hF⟩:=h;rw[hK]at hM hF;intro pins s st H Q I hq;obtain⟨μ,ρ,σ,hE,hr',hp⟩:=hq;refine wpAny_Call_Name_kw (ztf I hg hm ?_ hdb);refine PySem.W.callWith_K (h₀:=X.base) I.ok.mod.kin hM.kp (thn (ha pos pins s st H (fun vs H1=>∀ x dx,H1 x=none->H1 dx=none->dx≠x->spF T ps.length fn (.ref x::(vs++[])) (upd (upd H1 dx (.own x)) x (.ins (T.ca c) dx [])) (fun v H2=>v=.non/\Q (.ref x) H2) (XE X st)) I ⟨μ,ρ,σ,hE,hr',hp.bind fun ds σ1 μ1 vs H1 _ e1 r1 p1 q1=>zh1 r1 p1 q1⟩) fun us s1 ⟨vs,H1,I1,r,q⟩=>⟨I1.kIn,?_⟩) he hpl;exact zir (ds:=[]) (dvs:=[]) hM hF hr (.all hb) .nil I1 r q
structure OkM(T:Tb)(P:Program)(w:World)(mg:Str->Option Value)(base:Heap)(k:Nat)(m:Str)(c:Nat)(ps:List Str)(fn:List D->M D):Prop where
 cl:Cls T.K (T.ca c)
 ex:∃ f,Meth T.K (T.ca c) m f/\OkA T P w mg base k f ps fn
structure OkU(T:Tb)(P:Program)(w:World)(mg:Str->Option Value)(base:Heap)(k:Nat)(x m:Str)(c:Nat)(ps:List Str)(fn:List D->M D):Prop where
 gl:mg x=some (.ref (T.ca c))
 sp:PySem.W.specialIn T.K (.ref (T.ca c)) (Str.ofString "__getattribute__")=some (some (.builtin "type.__getattribute__"))
 ex:∃ f mc,PySem.W.readsIn T.K (T.ca c) mc=true/\PySem.W.findCls T.K (.ref (T.ca c)) mc m=some (.val (.ref f))/\PySem.W.keepIn T.K (.ref f)=true/\OkA T P w mg base k f ps fn
end
structure HasM(K:PySem.W.Frag)(C:Addr)(x qual:Str)(st:Stmt)(ps:List Str)(f:Addr):Prop where
 ex:∃ fd,Fun K x qual st f fd/\∀ us:List Value,us.length=ps.length->bindArgs fd ⟨us,[]⟩=pure (ps.zip us)
section
variable{P:Program}{w:World}{K:PySem.W.Frag}{mg:Str->Option Value}{base:Heap}{ca:Nat->Addr}{tx:Tx}
theorem yby{k:Nat}{C f:Addr}{x qual:Str}{st:Stmt}{ps N:List Str}{g:Ev->M Fl}(h:HasM K C x qual st ps f)(S:FnScope N ps (zkd st))
  (hb:∀ (cdv:Value) (A:Around) (outer:List Env) (s:Shared) (H:Hp) (E:XK),Room k (A.deeper (envOfC qual (zkd st) s.heap.objs.size f cdv))->FSs ⟨K,ca,tx⟩ (yly (CXE P w) P w K mg base N qual (zkd st) f cdv A outer s H E) (zqt st) g) :
  OkA ⟨K,ca,tx⟩ P w mg base (k+1) f ps (run N.length g):=by
 obtain⟨fd,F,hbd⟩:=h.ex;obtain⟨oc,od,kV,doc,pm,an,cdv,ct,osl,rfl,lk,hcd⟩:=F.ex;exact⟨_,hbd,fok lk hcd S (hb cdv)⟩
theorem OkA.frz{T:Tb}{k:Nat}{f:Addr}{ps:List Str}{fn:List D->M D}(h:OkA T P w mg base k f ps fn):OkA T P w mg base k f ps (fun ds=>L4.frz (fn ds)):=by
 obtain⟨fd,h3,h4⟩:=h;exact⟨fd,h3,zrr h4⟩
theorem OkA.hide{T:Tb}{k:Nat}{f:Addr}{ps:List Str}{fn:List D->M D}(h:OkA T P w mg base k f ps fn):OkA T P w mg base k f ps (L4.hide fn):=by rw[zsp];exact h
end
def yhp(s:Stmt)(j:Nat):Stmt:=match s with
 | .ClassDef _ _ _ b _ _ _ _ _ _ _=>b.getD j (.Pass ⟨0,0,0,0⟩)
 |s=>s
theorem mkM{K:PySem.W.Frag}{C f:Addr}{x qual:Str}{st:Stmt}{ps:List Str}{oc:Value}{od an:Option Addr}{osl:Array (Option Value)}{kV doc pm cdv ct:Value}
  (hb:∀ (kV doc pm:Value) (an:Option Addr) (cdv ct:Value) (us:List Value),us.length=ps.length->bindArgs (PySem.W.fnOf x qual (zqs st) (zqt st) (zkd st) .none kV doc pm an cdv ct) ⟨us,[]⟩=pure (ps.zip us))
  (l:K.lookup f=some ⟨oc,od,.func (PySem.W.fnOf x qual (zqs st) (zqt st) (zkd st) .none kV doc pm an cdv ct),osl⟩)
  (c:PySem.W.codeIn K cdv qual=true) (k:PySem.W.keepIn K (.ref f)=true):HasM K C x qual st ps f:=⟨⟨_,zz9 l c k,hb kV doc pm an cdv ct⟩⟩
section
variable{T:Tb}{P:Program}{w:World}{mg:Str->Option Value}{base:Heap}
end
section
variable{T:Tb}{X:Cx}
theorem zuq:OpR X (compareOp .IsNot) (rD T (ynl true)):=by
 intro pins s st H v u v' u' Q I rv ru h;obtain⟨E,μ,σ,x,y,r,hx,hy,hp⟩:=h;cases y with
 |bl k=>
  rw[Rep]at hy;subst hy;cases ru;cases x with
  |bl c=>rw[Rep]at hx;subst hx;cases rv;exact isnot_bool ⟨.bl (!(c == k)),H,I,rfl,yky.here hp r (by rw[Rep];rfl)⟩
  |non=>rw[Rep]at hx;subst hx;cases rv;exact wpAny_isNot_other rfl (by intro z;cases z) ⟨.bl true,H,I,rfl,yky.here hp r (by rw[Rep])⟩
  |int i=>rw[Rep]at hx;subst hx;obtain⟨t,rfl⟩:=rv;exact wpAny_isNot_other rfl (by intro z;cases z) ⟨.bl true,H,I,rfl,yky.here hp r (by rw[Rep])⟩
  |str i=>rw[Rep]at hx;subst hx;obtain⟨t,rfl⟩:=rv;exact wpAny_isNot_other rfl (by intro z;cases z) ⟨.bl true,H,I,rfl,yky.here hp r (by rw[Rep])⟩
  |_=>exact hp.elim
 |_=>exact hp.elim
end
end L4
namespace L4
open PySem L2
theorem nr{α:Type}{a b:α}(h:a=b):a=b:=h
section
variable{α β:Type}{ρ:Ev}{σ:Sto}
@[simp] theorem zp1(a:α)(σ:Sto)(k:α->M β):(Out.ok a σ).bind k=k a σ:=nr rfl
@[simp] theorem ydk(a:α)(σ:Sto):ret a σ=.ok a σ:=nr rfl
@[simp] theorem zx2(m:M α)(k:α->M β)(σ:Sto):bnd m k σ=(m σ).bind k:=nr rfl
@[simp] theorem yfw(d:D):eC d ρ σ=.ok d σ:=nr rfl
@[simp] theorem zy1(d:D)(r:Ev):yl9 0 (some d::r) σ=.ok d σ:=nr rfl
@[simp] theorem zy2(i:Nat)(o:Option D)(r:Ev):yl9 (i+1) (o::r) σ=yl9 i r σ:=nr rfl
@[simp] theorem zqx(o:D->D->M D)(a b:Ev->M D):yl2 o a b ρ σ=(a ρ σ).bind (yln o (b ρ)):=nr rfl
@[simp] theorem zp0(o:D->D->M D)(m:M D)(x:D):yln o m x σ=(m σ).bind (o x):=nr rfl
@[simp] theorem zy0(o:D->M D)(a:Ev->M D):eUn o a ρ σ=(a ρ σ).bind o:=nr rfl
@[simp] theorem yeh(b:Bool):tst (.bl b) σ=.ok b σ:=nr rfl
@[simp] theorem ygy(p q:M α):ifK p q true σ=p σ:=nr rfl
@[simp] theorem ygx(p q:M α):ifK p q false σ=q σ:=nr rfl
@[simp] theorem zt3(c:Bool):ym9 c σ=.ok (!c) σ:=nr rfl
@[simp] theorem zo2(k:Bool->M α)(b:Bool):yj1 k (.bl b) σ=k b σ:=nr rfl
@[simp] theorem zmw(c:Bool):yhq c σ=.ok (.bl (!c)) σ:=nr rfl
@[simp] theorem yf4(f:Ev->M D):eT f ρ σ=(f ρ σ).bind tst:=nr rfl
@[simp] theorem zpx(a b:Ev->M Bool):yll a b ρ σ=(a ρ σ).bind (ifK (b ρ) (ret false)):=nr rfl
@[simp] theorem zxx(a b:Ev->M Bool):bOr a b ρ σ=(a ρ σ).bind (ifK (ret true) (b ρ)):=nr rfl
@[simp] theorem zpy(a:Ev->M Bool):ylm a ρ σ=(a ρ σ).bind ym9:=nr rfl
@[simp] theorem zqw(a b:Ev->M D):yl1 a b ρ σ=(a ρ σ).bind (yj1 (ifK (b ρ) (ret (.bl false)))):=nr rfl
@[simp] theorem zyz(a b:Ev->M D):eOr a b ρ σ=(a ρ σ).bind (yj1 (ifK (ret (.bl true)) (b ρ))):=nr rfl
@[simp] theorem zq0(a:Ev->M D):yl7 a ρ σ=(a ρ σ).bind (yj1 yhq):=nr rfl
@[simp] theorem zpk:yle ρ σ=.ok [] σ:=nr rfl
@[simp] theorem zjl(e:Ev->M D)(r:Ev->M (List D)):yfa e r ρ σ=(e ρ σ).bind (zxv (r ρ)):=nr rfl
@[simp] theorem zgf(m:M (List D))(x:D):zxv m x σ=(m σ).bind (yfn x):=nr rfl
@[simp] theorem zj9(x:D)(xs:List D):yfn x xs σ=.ok (x::xs) σ:=nr rfl
@[simp] theorem zq3(a:Ev->M (List D)):yl8 a ρ σ=(a ρ σ).bind ypj:=nr rfl
@[simp] theorem yej(a b:D):ypj [a,b] σ=.ok (.tup [a,b]) σ:=nr rfl
@[simp] theorem yek(a b c:D):ypj [a,b,c] σ=.ok (.tup [a,b,c]) σ:=nr rfl
@[simp] theorem yel(a b c d:D):ypj [a,b,c,d] σ=.ok (.tup [a,b,c,d]) σ:=nr rfl
@[simp] theorem zyw(a:Ev->M (List D)):eLv a ρ σ=(a ρ σ).bind lvK:=nr rfl
@[simp] theorem zqz(a:Ev->M (List D)):yl6 a ρ σ=(a ρ σ).bind ym4:=nr rfl
@[simp] theorem ybh:ym4 [] σ=.ok (.ref σ.length) (σ++[.lst []]):=nr rfl
@[simp] theorem yh1(g:Int->Int->Int)(i j:Int):oI g (.int i) (.int j) σ=.ok (.int (g i j)) σ:=nr rfl
@[simp] theorem yhu(g:Int->Int->Bool)(i j:Int):oB g (.int i) (.int j) σ=.ok (.bl (g i j)) σ:=nr rfl
theorem ybr{C:Int->Int->Bool}{g:Int->Int->Int}{i j:Int}(h:C i j=true):oIC C g (.int i) (.int j) σ=.ok (.int (g i j)) σ:=by
 show (if C i j=true then ret _ else bad) σ=_;rw[if_pos h];rfl
@[simp] theorem zt6(i j:Int)(h:0<j)(h2:j<1073741824):yne (.int i) (.int j) σ=.ok (.int (i / j)) σ:=ybr (by simp[ylq,h,h2])
@[simp] theorem zuf(i j:Int)(h:0<j):ynn (.int i) (.int j) σ=.ok (.int (i % j)) σ:=ybr (by simp[ylr,h])
theorem ybt{i j:Int}(h:-(2 ^ 64)<i)(h2:i<2 ^ 64):yno (.int i) (.int j) σ=.ok (.int (i * j)) σ:=ybr (by simp only[yls,zsp,Bool.or_eq_true,Bool.and_eq_true,decide_eq_true_eq];exact .inl ⟨h,h2⟩)
theorem ybu{i j:Int}(h:-(2 ^ 64)<j)(h2:j<2 ^ 64):yno (.int i) (.int j) σ=.ok (.int (i * j)) σ:=ybr (by simp only[yls,zsp,Bool.or_eq_true,Bool.and_eq_true,decide_eq_true_eq];exact .inr ⟨h,h2⟩)
theorem zui{i j:Int}(h:ylt i j=true):ynr (.int i) (.int j) σ=.ok (.int (i ^ j.toNat)) σ:=ybr h
@[simp] theorem p12:ynr (.int 10) (.int 12) σ=.ok (.int 1000000000000) σ:=zui (by simp[ylt])
@[simp] theorem p6:ynr (.int 10) (.int 6) σ=.ok (.int 1000000) σ:=zui (by simp[ylt])
@[simp] theorem p4:ynr (.int 10) (.int 4) σ=.ok (.int 10000) σ:=zui (by simp[ylt])
@[simp] theorem zuh(i:Int):ynq (.int i) σ=.ok (.int (-i)) σ:=nr rfl
@[simp] theorem zm3(i j:Int):yna (.int i) (.int j) σ=.ok (.int (i+j)) σ:=nr rfl
theorem zm4{xs ys:List D}(h:xs.length+ys.length<=cap):yna (.lst xs) (.lst ys) σ=.ok (.lst (xs++ys)) σ:=by
 show yht (.lst xs) (.lst ys) σ=_;unfold yht;simp only[ym3];rw[if_pos h]
@[simp] theorem zm8(σ:Sto):ynk .non .non σ=.ok (.bl true) σ:=nr rfl
@[simp] theorem zm7(b:Int):ynk (.int b) .non σ=.ok (.bl false) σ:=nr rfl
@[simp] theorem zia(σ:Sto):yh6 .non .non σ=.ok (.bl false) σ:=nr rfl
@[simp] theorem zh9(b:Int):yh6 (.int b) .non σ=.ok (.bl true) σ:=nr rfl
theorem ybq{x y:D}{b:Bool}(h:eqD σ 8 x y=some b):oEq x y σ=.ok (.bl b) σ:=by unfold oEq;rw[h]
theorem ybv{x y:D}{b:Bool}(h:eqD σ 8 x y=some b):oNe x y σ=.ok (.bl (!b)) σ:=by unfold oNe;rw[h]
@[simp] theorem zt7(i j:Int):oEq (.int i) (.int j) σ=.ok (.bl (i == j)) σ:=ybq (by simp[eqD,kd,eqK,eqV])
@[simp] theorem zug(i j:Int):oNe (.int i) (.int j) σ=.ok (.bl (!(i == j))) σ:=ybv (by simp[eqD,kd,eqK,eqV])
@[simp] theorem zt8(i j:Str):oEq (.str i) (.str j) σ=.ok (.bl (i == j)) σ:=ybq (by simp[eqD,kd,eqK,eqV])
theorem zue{xs:List D}{k:Int}{d:D}(h:atI xs k=some d):oIx (.tup xs) (.int k) σ=.ok d σ:=by simp[oIx,yi9,h]
theorem zuc{xs:List D}{k:Int}{d:D}(h:atI xs k=some d):oIx (.lst xs) (.int k) σ=.ok d σ:=by simp[oIx,yi9,h]
@[simp] theorem yg1(a:D)(r:List D):oIx (.tup (a::r)) (.int 0) σ=.ok a σ:=zue (show atI _ ((0:Nat):Int)=_ from zpt rfl)
@[simp] theorem yg2(a b:D)(r:List D):oIx (.tup (a::b::r)) (.int 1) σ=.ok b σ:=zue (show atI _ ((1:Nat):Int)=_ from zpt rfl)
@[simp] theorem yg3(a b c:D)(r:List D):oIx (.tup (a::b::c::r)) (.int 2) σ=.ok c σ:=zue (show atI _ ((2:Nat):Int)=_ from zpt rfl)
@[simp] theorem yg4(a b c d:D)(r:List D):oIx (.tup (a::b::c::d::r)) (.int 3) σ=.ok d σ:=zue (show atI _ ((3:Nat):Int)=_ from zpt rfl)
@[simp] theorem zm9(xs:List D):ynm [.lst xs] σ=.ok (.int xs.length) σ:=nr rfl
@[simp] theorem zna(xs:List Int):ynm [.scr xs] σ=.ok (.int xs.length) σ:=by simp[ynm,yi9]
@[simp] theorem zkj(o:List D->M D)(fs:Ev->M (List D)):yfx o fs ρ σ=(fs ρ σ).bind o:=nr rfl
@[simp] theorem zyv(n:Nat)(f:List D->M D)(dds:List D)(fs:Ev->M (List D)):eFn n f dds fs ρ σ=(fs ρ σ).bind (fnK n f dds):=nr rfl
@[simp] theorem ygg(f:List D->M D)(a:D):fnK 1 f [] [a] σ=f [a] σ:=by unfold fnK;rw[if_pos (by simp)];simp
@[simp] theorem ygh(f:List D->M D)(a b:D):fnK 2 f [] [a,b] σ=f [a,b] σ:=by unfold fnK;rw[if_pos (by simp)];simp
@[simp] theorem ygi(f:List D->M D)(a b c:D):fnK 3 f [] [a,b,c] σ=f [a,b,c] σ:=by unfold fnK;rw[if_pos (by simp)];simp
@[simp] theorem ygj(f:List D->M D)(a b c d:D):fnK 4 f [] [a,b,c,d] σ=f [a,b,c,d] σ:=by unfold fnK;rw[if_pos (by simp)];simp
@[simp] theorem zv2:yol ρ σ=.ok (.nx ρ) σ:=nr rfl
@[simp] theorem zv5(g h:Ev->M Fl):yoo g h ρ σ=(g ρ σ).bind (yor h):=nr rfl
@[simp] theorem zwc(h:Ev->M Fl)(ρ:Ev):yor h (.nx ρ) σ=h ρ σ:=nr rfl
@[simp] theorem zwd(h:Ev->M Fl)(d:D):yor h (.rt d) σ=.ok (.rt d) σ:=nr rfl
def xsO(ρ:Ev)(k:α->M Fl):Out α->Out Fl
 | .ok a σ'=>k a σ'
 | .ex x σ'=>.ok (.xc ρ x) σ'
 | .bad=>.bad
@[simp] theorem ykd(ρ:Ev)(m:M α)(k:α->M Fl):xs ρ m k σ=xsO ρ k (m σ):=by unfold xs xsO;cases m σ<;>rfl
@[simp] theorem yes(ρ:Ev)(k:α->M Fl)(a:α):xsO ρ k (.ok a σ)=k a σ:=nr rfl
@[simp] theorem zv4(f:Ev->M D):yon f ρ σ=xsO ρ yob (f ρ σ):=ykd ..
@[simp] theorem zvm(d:D):yob d σ=.ok (.rt d) σ:=nr rfl
@[simp] theorem zv0(f:Ev->M D):yoi f ρ σ=xsO ρ (ymc ρ) (f ρ σ):=ykd ..
@[simp] theorem zq4(d:D):ymc ρ d σ=.ok (.nx ρ) σ:=nr rfl
@[simp] theorem zv6(i:Nat)(f:Ev->M D):yop i f ρ σ=xsO ρ (yos i ρ) (f ρ σ):=ykd ..
@[simp] theorem zwg(i:Nat)(d:D):yos i ρ d σ=.ok (.nx (ρ.set i (some d))) σ:=nr rfl
@[simp] theorem ydo(t:Ev->M Bool)(a b:Ev->M Fl):sIf t a b ρ σ=xsO ρ (ifK (a ρ) (b ρ)) (t ρ σ):=ykd ..
@[simp] theorem zvy(f:Ev->M D)(tg:D->Ev->Option Ev):yog f tg ρ σ=xsO ρ (ylj tg ρ) (f ρ σ):=ykd ..
@[simp] theorem ydn(n:Nat)(g:Ev->M Fl)(ds:List D):run n g ds σ=yof (g (ds.map some++List.replicate (n - ds.length) none) σ):=nr rfl
@[simp] theorem zvw(d:D):yof (.ok (.rt d) σ)=.ok d σ:=nr rfl
@[simp] theorem zvv:yof (.ok (.nx ρ) σ)=.ok .non σ:=nr rfl
@[simp] theorem zzw(f:M D):frz f σ=ymh σ (f σ):=nr rfl
@[simp] theorem zqy(f:Ev->M D):yl3 f ρ σ=ymh σ (f ρ σ):=nr rfl
theorem ygp{k m:Nat}{σ:Sto}{d:D}(h:cl d=true):fz k σ m d=some d:=by cases m<;>(unfold fz;rw[if_pos h])
theorem zrx{σ':Sto}{d:D}(h:cl d=true)(ht:σ'.take σ.length=σ):ymh σ (.ok d σ')=.ok d σ:=by
 unfold ymh;dsimp only;rw[if_pos ht,ygp h]
@[simp] theorem zhf{d:D}(h:cl d=true):ymh σ (.ok d σ)=.ok d σ:=zrx h List.take_length
theorem zll{j j':Sto}{xs:List D}(h:clL xs=true):ymh σ (.ok (.ref σ.length) (σ++[.lst xs]++j))=.ok (.lst xs) σ:=by
 unfold ymh;dsimp only;rw[if_pos (by simp)];have e:fz σ.length (σ++[.lst xs]++j) 6 (.ref σ.length)=some (.lst xs):=by
  unfold fz;rw[if_neg (by simp[cl])];dsimp only;rw[if_neg (Nat.lt_irrefl _)];have:(σ++[Ob.lst xs]++j)[σ.length]?=some (.lst xs):=by simp
  rw[this];dsimp only;have hl:∀ (ys:List D) (m:Nat),clL ys=true->fzL (fz σ.length (σ++[.lst xs]++j) m) ys=some ys:=by
   intro ys m;induction ys with
   |nil=>intro _;rfl
   |cons y ys ih=>
    intro hc;have hc':cl y=true/\clL ys=true:=by simpa [clL,Bool.and_eq_true]using hc
    unfold fzL;rw[ygp hc'.1,ih hc'.2]
  rw[hl xs 5 h];rfl
 rw[e]
@[simp] theorem zye(i:Int):cl (.int i)=true:=by simp[cl]
@[simp] theorem yfl(i:Bool):cl (.bl i)=true:=by simp[cl]
@[simp] theorem zyi(i:Str):cl (.str i)=true:=by simp[cl]
@[simp] theorem zyg:cl .non=true:=by simp[cl]
@[simp] theorem zyk(xs:List D):cl (.tup xs)=clL xs:=by simp[cl]
@[simp] theorem zyf(xs:List D):cl (.lst xs)=clL xs:=by simp[cl]
@[simp] theorem zyh(n:Nat):cl (.ref n)=false:=by simp[cl]
@[simp] theorem zqg:clL []=true:=by simp[clL]
@[simp] theorem zj5(d:D)(ds:List D):clL (d::ds)=(cl d && clL ds):=by simp[clL]
theorem zqe:∀ {ds:List D},(∀ d∈ds,cl d=true)->clL ds=true
 |[],_=>by simp
 |d::ds,h=>by rw[zj5,h d List.mem_cons_self,zqe fun x hx=>h x (List.mem_cons_of_mem _ hx)];rfl
theorem zqf{γ:Type}{f:γ->D}{l:List γ}(h:∀ x,cl (f x)=true):clL (l.map f)=true:=zqe fun d hd=>by obtain⟨x,_,rfl⟩:=List.mem_map.mp hd;exact h x
@[simp] theorem zj7(l:List Int):clL (l.map D.int)=true:=zqf zye
theorem yfb{xs:List D}{k:Int}(h0:0<=k)(h:k<xs.length):atI xs k=some (xs.getD k.toNat .non):=by
 obtain⟨n,rfl⟩:=Int.eq_ofNat_of_zero_le h0;have hn:n<xs.length:=by omega
 refine zpt ?_;show xs[n]?=some (xs.getD n .non);rw[List.getD_eq_getElem?_getD,List.getElem?_eq_getElem hn];rfl
theorem yfc{is:List Int}{k:Int}(h0:0<=k)(h:k<is.length):atI (is.map D.int) k=some (.int (is.getD k.toNat 0)):=by
 rw[yfb h0 (by simpa using h)];have hn:k.toNat<is.length:=by omega
 simp[hn]
@[simp] theorem yhh(a:D):lvK [a] σ=.ok (.lst [a]) σ:=nr rfl
@[simp] theorem yhg:lvK [] σ=.ok (.lst []) σ:=nr rfl
@[simp] theorem yhi(a b:D):lvK [a,b] σ=.ok (.lst [a,b]) σ:=nr rfl
@[simp] theorem yhj(a b c d:D):lvK [a,b,c,d] σ=.ok (.lst [a,b,c,d]) σ:=nr rfl
@[simp] theorem yhk(a b c d e f:D):lvK [a,b,c,d,e,f] σ=.ok (.lst [a,b,c,d,e,f]) σ:=nr rfl
@[simp] theorem zh0(xs:List D):yhf (σ++[.lst xs]) σ.length=some xs:=by simp[yhf]
@[simp] theorem zwh(a b:Ob):(σ++[a]).set σ.length b=σ++[b]:=by
 rw[List.set_append_right _ _ (Nat.le_refl _)];simp
@[simp] theorem zkm(o:D->List D->M D)(f:Ev->M D)(fs:Ev->M (List D)):yf1 o f fs ρ σ=(f ρ σ).bind (yhm o (fs ρ)):=nr rfl
theorem zmt{o:D->List D->M D}{m:M (List D)}{x:D}{xs:List D}(h:ym3 σ x=some xs):yhm o m x σ=(m σ).bind (o x):=by unfold yhm;rw[h];rfl
@[simp] theorem zh3(o:D->List D->M D)(m:M (List D))(xs:List D):yhm o m (.ref σ.length) (σ++[.lst xs])=(m (σ++[.lst xs])).bind (o (.ref σ.length)):=zmt (xs:=xs) (by simp[ym3])
theorem zew{xs:List D}{d:D}(h:xs.length<1000):zt5 (.ref σ.length) [d] (σ++[.lst xs])=.ok .non (σ++[.lst (xs++[d])]):=by
 unfold zt5;simp only[zh0];rw[if_pos (show xs.length<cap from h),zwh]
@[simp] theorem zix(xs:List D):yi9 σ (.lst xs)=some xs:=nr rfl
@[simp] theorem zw2(f:Ev->M D):yoz f ρ σ=(f ρ σ).bind yi8:=nr rfl
@[simp] theorem ziw(ds:List D):yi8 (.tup ds) σ=.ok (.seq ds) σ:=nr rfl
@[simp] theorem ziv(ds:List D):yi8 (.lst ds) σ=.ok (.seq ds) σ:=nr rfl
@[simp] theorem zw1(f:Ev->M D):yoy f ρ σ=(f ρ σ).bind yod:=nr rfl
theorem zvq{j:Int}(h:-(2 ^ 62)<=j)(h2:j<2 ^ 62):yod (.int j) σ=.ok (.seq (ydg j.toNat)) σ:=by
 unfold yod;dsimp only;rw[if_pos (by simp only[zwk,zsp,Bool.and_eq_true,decide_eq_true_eq];exact⟨h,h2⟩)]
@[simp] theorem zv1(src:Ev->M Src)(tg:D->Ev->Option Ev)(body:Ev->M Fl):yok src tg body ρ σ=xsO ρ (ymf tg body ρ) (src ρ σ):=ykd ..
@[simp] theorem zlh(tg:D->Ev->Option Ev)(body:Ev->M Fl)(ds:List D):ymf tg body ρ (.seq ds) σ=ym2 tg body ds ρ σ:=nr rfl
@[simp] theorem zmo(tg:D->Ev->Option Ev)(body:Ev->M Fl):ym2 tg body [] ρ σ=.ok (.nx ρ) σ:=nr rfl
theorem zhy{tg:D->Ev->Option Ev}{body:Ev->M Fl}{d:D}{ds:List D}{ρ1:Ev}(h:tg d ρ=some ρ1):ym2 tg body (d::ds) ρ σ=(body ρ1 σ).bind (yhc (ym2 tg body ds)):=by
 show (match tg d ρ with|none=>bad|some ρ1=>bnd (body ρ1) (yhc (ym2 tg body ds))) σ=_;rw[h];rfl
@[simp] theorem zmp(i:Nat)(body:Ev->M Fl)(d:D)(ds:List D):ym2 (tgN i) body (d::ds) ρ σ=(body (ρ.set i (some d)) σ).bind (yhc (ym2 (tgN i) body ds)):=zhy rfl
@[simp] theorem zmn(k:Ev->M Fl):yhc k (.nx ρ) σ=k ρ σ:=nr rfl
theorem zil(n:Nat):ydg n=(List.range' 0 n).map fun(k:Nat)=>D.int k:=by unfold ydg;rw[List.range_eq_range']
theorem ybo{m:M α}{a:α}{σ':Sto}(h:m σ=.ok a σ'):nox m σ=.ok a σ':=by unfold nox;rw[h]
end
section
variable{α β:Type}{ρ:Ev}{σ:Sto}
@[simp] theorem ziy(ns:List Int):yi9 σ (.scr ns)=some (ns.map D.int):=nr rfl
theorem zud{ns:List Int}{k:Int}(h0:0<=k)(h:k<ns.length):oIx (.scr ns) (.int k) σ=.ok (.int (ns.getD k.toNat 0)) σ:=by
 simp only[oIx,ziy,yfc h0 h]
@[simp] theorem zm6(c:BT)(i:Int):ynj c (.int i) σ=.ok (.bl (match c with | .int=>true|_=>false)) σ:=nr rfl
@[simp] theorem zub(c:BT)(i:Bool):ynj c (.bl i) σ=.ok (.bl (match c with | .int=>true | .bool=>true|_=>false)) σ:=nr rfl
@[simp] theorem zg5(o o':D->D->M D)(a b c:Ev->M D):zyu o o' a b c ρ σ=(a ρ σ).bind (zya o o' (b ρ) (c ρ)):=nr rfl
def pl:Nat->D->Bool
 |_,.non=>true
 |_,.bl _=>true
 |_,.int _=>true
 |_,.str _=>true
 |n+1,.tup xs=>xs.all (pl n)
 |n+1,.lst xs=>xs.all (pl n)
 |_,_=>false
@[simp] theorem zn7(f fo fi:Ev->M D):yi5 f fo fi ρ σ=xsO ρ (yjd ρ fo fi) (f ρ σ):=ykd ..
@[simp] theorem zgw(o o':D->D->M D)(b c:M D)(x:D):zya o o' b c x σ=(b σ).bind (zyc o o' c x):=nr rfl
@[simp] theorem zgy(o o':D->D->M D)(c:M D)(x y:D):zyc o o' c x y σ=(o x y σ).bind (zyb o' c y):=nr rfl
@[simp] theorem zgx(o':D->D->M D)(c:M D)(y:D)(b:Bool):zyb o' c y (.bl b) σ=ifK (bnd c (o' y)) (ret (.bl false)) b σ:=nr rfl
@[simp] theorem zoh(fo fi:Ev->M D)(d:D):yjd ρ fo fi d σ=xsO ρ (yje ρ fi d) (fo ρ σ):=ykd ..
@[simp] theorem zoi(fi:Ev->M D)(d x:D):yje ρ fi d x σ=xsO ρ (yjf ρ d x) (fi ρ σ):=ykd ..
theorem zlj{a:Ob}{d:D}(h:cl d=true):ymh σ (.ok d (σ++[a]))=.ok d σ:=zrx h (by simp)
@[simp] theorem zfe(l:List Int):yao (l.map D.int)=some l:=by
 induction l with
 |nil=>rfl
 |cons x l ih=>simp[yao,ih]
end
section
variable{ρ:Ev}{σ:Sto}
theorem zmq{c n:Nat}{fn:List D->M D}{ds:List D}(h:ds.length+1=n):yhl c n fn ds σ=yhs σ.length (fn (.ref σ.length::ds) (σ++[.ins c []])):=by unfold yhl;rw[if_pos h]
@[simp] theorem zm0(n:Nat):yhs n (.ok .non σ)=.ok (.ref n) σ:=nr rfl
@[simp] theorem zv3(cs:List Nat)(f:Str)(fv fo:Ev->M D):yom cs f fv fo ρ σ=xsO ρ (yio ρ cs f fo) (fv ρ σ):=ykd ..
@[simp] theorem znt(cs:List Nat)(f:Str)(fo:Ev->M D)(d:D):yio ρ cs f fo d σ=xsO ρ (yip ρ cs f d) (fo ρ σ):=ykd ..
theorem zik{cs:List Nat}{f:Str}{d:D}{c:Nat}{fs:List (Str × D)}(h:cs.contains c=true)(hl:fs.length<1000):yip ρ cs f d (.ref σ.length) (σ++[.ins c fs])=.ok (.nx ρ) (σ++[.ins c (yny f d fs)]):=by
 have e:yns cs f d (.ref σ.length) (σ++[.ins c fs])=.ok () (σ++[.ins c (yny f d fs)]):=by
  have:(σ++[Ob.ins c fs])[σ.length]?=some (.ins c fs):=by simp
  unfold yns;simp only[this];rw[if_pos (by rw[h];simpa using hl)];simp
 unfold yip;rw[e]
theorem zhj{c:Nat}{ns:List Str}{ds:List D}(h:ns.length=ds.length):ygz σ (.obj c ns ds)=some (c,ns.zip ds):=by unfold ygz;dsimp only;rw[if_pos h]
theorem zua{cs:List Nat}{f:Str}{x d:D}{c:Nat}{fs:List (Str × D)}(h:ygz σ x=some (c,fs))(hc:cs.contains c=true)(hl:fs.lookup f=some d):yng cs f x σ=.ok d σ:=by
 unfold yng;rw[h];dsimp only;rw[if_pos hc,hl]
theorem zlk{c:Nat}{fs:List (Str × D)}(h:clL (fs.map (·.2))=true):ymh σ (.ok (.ref σ.length) (σ++[.ins c fs]))=.ok (.obj c (fs.map (·.1)) (fs.map (·.2))) σ:=by
 unfold ymh;dsimp only;rw[if_pos (by simp)];have e:fz σ.length (σ++[.ins c fs]) 6 (.ref σ.length)=some (.obj c (fs.map (·.1)) (fs.map (·.2))):=by
  unfold fz;rw[if_neg (by simp)];dsimp only;rw[if_neg (Nat.lt_irrefl _)];have:(σ++[Ob.ins c fs])[σ.length]?=some (.ins c fs):=by simp
  rw[this];dsimp only;have hl:∀ (ys:List D) (m:Nat),clL ys=true->fzL (fz σ.length (σ++[.ins c fs]) m) ys=some ys:=by
   intro ys m;induction ys with
   |nil=>intro _;rfl
   |cons y ys ih=>
    intro hc;have hc':cl y=true/\clL ys=true:=by simpa [clL,Bool.and_eq_true]using hc
    unfold fzL;rw[ygp hc'.1,ih hc'.2]
  rw[hl _ 5 h];rfl
 rw[e]
@[simp] theorem znb(i j:Int):yh5 [.int i,.int j] σ=.ok (.int (max i j)) σ:=nr rfl
end
end L4
namespace L4
open PySem PySem.Spec PySem.Calls PyProof.Rows PySem.Builtin PySem.Builtin.ObjectAttr PySem.Builtin.Getset_descriptor L2
structure ExK(K:PySem.W.Frag)(C:Addr):Prop where
 g:PySem.W.findIn K (.ref C) "__getattribute__" = some (some (.builtin "BaseException.__getattribute__"))
 g2:PySem.W.findIn K (.ref C) "__getattr__" = some none
 mb:PySem.W.mroIn K C (.type "BaseException")=some true
 d:PySem.W.hasDictIn K C=true
 a:PySem.W.findIn K (.ref C) "__class__" = some (some (.builtin "object.__class__"))
 n:PySem.W.specialIn K (.builtin "object.__class__") "__get__" = some (some (.builtin "getset_descriptor.__get__"))
 t:PySem.W.takesIn K (.builtin "object.__class__")=some true
 m:PySem.W.mroIn K C (.type "object")=some true
section
variable{prog:Program}{w:World}{A:Around}{E:Value->Shared->Prop}{s:Shared}{K:PySem.W.Frag}{C ea:Addr}{hp:Heap}{Mo:Model}
theorem zxr.plain{dd:Option Addr}(p:zxr C dd ea hp):yex C ea hp:=let ⟨o,h1,h2,_⟩:=p;⟨o,h1,h2⟩
end
section
variable{T:Tb}{X:Cx}
inductive ClsV(X:Cx)(y:Str):V->Value->Prop where
 |own {a:Addr} (h:X.mg y=some (.ref a)):ClsV X y (.ref a) (.ref a)
 |bt {n:String} (h:X.mg y=none) (hv:bootBuiltins y=some (.type n)) (hn:y ≠ "__name__"):ClsV X y (.ty n) (.type n)
theorem ClsV.rel{y:Str}{vc:V}{cv:Value}(h:ClsV X y vc cv):∀ u,yk1 vc u->u=cv:=by
 cases h with
 |own h=>exact fun u q=>q
 |bt h hv hn=>exact fun u q=>q
end
section
variable{ρ:Ev}{σ:Sto}
end
end L4
namespace L4
open PySem PySem.Spec PySem.Calls PyProof.Rows L2
section
variable{T:Tb}{X:Cx}
end
end L4
namespace HT
open PySem Builtin
open Sem (wp)
end HT
namespace L4
open PySem PySem.Spec PyProof.Rows L2
end L4
namespace HT
open PySem Builtin
open Sem (wp)
end HT
namespace L4
open PySem PySem.Spec PyProof.Rows L2
section
variable{T:Tb}{X:Cx}
end
end L4
namespace L2
open PySem PySem.Spec PyProof.Rows
section
variable{κ:Type}[DecidableEq κ]
def ypl(kvs:List (κ × V))(k:κ):Option V:=(kvs.find? fun kv=>decide (kv.1=k)).map (·.2)
def yn0(kvs:List (κ × V))(k:κ)(v:V):List (κ × V):=
 if (kvs.any fun kv=>decide (kv.1=k))=true then kvs.map (fun kv=>if kv.1=k then (kv.1,v)else kv)else kvs++[(k,v)]
def yft(kvs:List (κ × V))(k:κ):List (κ × V):=kvs.filter fun kv=>decide (kv.1≠k)
theorem zpb{p:κ × V}{r:List (κ × V)}{k:κ}(e:p.1=k):ypl (p::r) k=some p.2:=by simp[ypl,List.find?_cons,e]
theorem zpa{p:κ × V}{r:List (κ × V)}{k:κ}(e:¬ p.1=k):ypl (p::r) k=ypl r k:=by simp[ypl,List.find?_cons,e]
theorem zo9(k:κ):∀ kvs:List (κ × V),(kvs.any fun kv=>decide (kv.1=k))=(ypl kvs k).isSome
 |[]=>rfl
 |p::r=>by
  rw[List.any_cons];by_cases e:p.1=k
  ·simp only[zpb e,decide_eq_true e,Bool.true_or,Option.isSome_some]
  ·rw[zpa e,decide_eq_false e,Bool.false_or];exact zo9 k r
theorem zd8(kvs:List (κ × V))(k:κ)(v:V):(yn0 kvs k v).length<=kvs.length+1:=by
 unfold yn0;split
 ·rw[List.length_map];omega
 ·rw[List.length_append,List.length_cons,List.length_nil];omega
theorem yk0.isSome_eq{o:Option V}{u:Option Value}(r:yk0 o u):o.isSome=u.isSome:=by
 cases o with
 |none=>cases u with
  |none=>rfl
  |some _=>exact(show False from r).elim
 |some _=>cases u with
  |none=>exact(show False from r).elim
  |some _=>rfl
theorem yk0.getD{o:Option V}{u:Option Value}{d:V}{d':Value}(r:yk0 o u)(rd:yk1 d d'):yk1 (o.getD d) (u.getD d'):=by
 cases o with
 |none=>cases u with
  |none=>exact rd
  |some _=>exact(show False from r).elim
 |some _=>cases u with
  |none=>exact(show False from r).elim
  |some _=>exact r
theorem KV.val{kvs:List (κ × V)}{vs:List (κ × Value)}(r:KV kvs vs)(k:κ):yk0 (ypl kvs k) (valueAt vs k):=by
 unfold KV at r;induction r with
 |nil=>exact True.intro
 |@cons p q ps qs h t ih=>
  obtain⟨h1,h2⟩:=h;by_cases e:p.1=k
  ·have e':q.1=k:=h1.symm.trans e;have b:valueAt (q::qs) k=some q.2:=by simp[valueAt,List.find?_cons,e']
   rw[zpb e,b];exact h2
  ·have e':¬ q.1=k:=fun z=>e (h1.trans z);have b:valueAt (q::qs) k=valueAt qs k:=by simp[valueAt,List.find?_cons,e']
   rw[zpa e,b];exact ih
theorem KV.any{kvs:List (κ × V)}{vs:List (κ × Value)}(r:KV kvs vs)(k:κ):(kvs.any fun kv=>decide (kv.1=k))=vs.any fun kv=>decide (kv.1=k):=by
 unfold KV at r;induction r with
 |nil=>rfl
 |cons h t ih=>rw[List.any_cons,List.any_cons,ih,h.1]
theorem KV.repl{kvs:List (κ × V)}{vs:List (κ × Value)}(r:KV kvs vs)(k:κ){y:V}{u:Value}(ry:yk1 y u) :
  KV (kvs.map fun kv=>if kv.1=k then (kv.1,y)else kv) (vs.map fun kv=>if kv.1=k then (kv.1,u)else kv):=by
 unfold KV at r ⊢;induction r with
 |nil=>exact .nil
 |@cons p q ps qs h t ih=>
  rw[List.map_cons,List.map_cons];refine .cons ?_ ih;obtain⟨h1,h2⟩:=h;by_cases e:p.1=k
  ·rw[if_pos e,if_pos (h1.symm.trans e)];exact⟨h1,ry⟩
  ·rw[if_neg e,if_neg (fun z=>e (h1.trans z))];exact⟨h1,h2⟩
theorem KV.put{kvs:List (κ × V)}{vs:List (κ × Value)}(r:KV kvs vs)(k:κ){y:V}{u:Value}(ry:yk1 y u):KV (yn0 kvs k y) (stored vs k u):=by
 unfold yn0 stored;rw[r.any k];by_cases e:(vs.any fun kv=>decide (kv.1=k))=true
 ·rw[if_pos e,if_pos e];exact r.repl k ry
 ·rw[if_neg e,if_neg e];exact Paired.snoc r ⟨rfl,ry⟩
theorem KV.drop{kvs:List (κ × V)}{vs:List (κ × Value)}(r:KV kvs vs)(k:κ):KV (yft kvs k) (without vs k):=by
 unfold KV at r ⊢;unfold yft without;induction r with
 |nil=>exact .nil
 |@cons p q ps qs h t ih=>
  obtain⟨h1,h2⟩:=h;rw[List.filter_cons,List.filter_cons];by_cases e:p.1=k
  ·have a:¬ decide (p.1≠k)=true:=by simp[e]
   have b:¬ decide (q.1≠k)=true:=by simp[h1.symm.trans e]
   rw[if_neg a,if_neg b];exact ih
  ·have e':¬ q.1=k:=fun z=>e (h1.trans z);have a:decide (p.1≠k)=true:=by simp[e]
   have b:decide (q.1≠k)=true:=by simp[e']
   rw[if_pos a,if_pos b];exact .cons ⟨h1,h2⟩ ih
theorem KV.keys{kvs:List (κ × V)}{vs:List (κ × Value)}(r:KV kvs vs):kvs.map (·.1)=vs.map (·.1):=by
 unfold KV at r;induction r with
 |nil=>rfl
 |cons h t ih=>rw[List.map_cons,List.map_cons,ih,h.1]
theorem KV.length{kvs:List (κ × V)}{vs:List (κ × Value)}(r:KV kvs vs):kvs.length=vs.length:=Paired.length r
theorem zkg(kvs:List (κ × V))(k:κ):(yft kvs k).length<=kvs.length:=List.length_filter_le _ _
end
theorem yg5{P:Program}{w:World}{k:Key}{u:Value}(r:yk1 (kV k) u):(ztt P w).is k u=true:=by
 cases k with
 |inl i=>obtain⟨t,e⟩:=(show ∃ t,u=Value.int i t from r);subst e;exact zea P w i t
 |inr x=>obtain⟨t,e⟩:=(show ∃ t,u=Value.str x t from r);subst e;exact zeb P w x t
theorem zhn{P:Program}{w:World}:∀ {ks:List Key} {us:List Value},yla (ks.map kV) us->ItemsAre (ztt P w) ks us
 |[],_,r=>by rw[List.map_nil]at r;cases r;exact .nil
 |k::ks,_,r=>by
  rw[List.map_cons]at r;cases r with
  |cons h t=>exact .cons (yg5 h) (zhn t)
abbrev KT(H:Hp):List (List Key × V)->List (List Key × Addr × Value)->Prop:=Paired fun p q=>p.1=q.1/\H q.2.1=some (.tup (p.1.map kV))/\yk1 p.2 q.2.2
theorem KT.val{H:Hp}{kvs:List (List Key × V)}{xs:List (List Key × Addr × Value)}(r:KT H kvs xs)(k:List Key):yk0 (ypl kvs k) ((atKey xs k).map (·.2)):=by
 induction r with
 |nil=>exact True.intro
 |@cons p q ps qs h t ih=>
  obtain⟨h1,_,h2⟩:=h;by_cases e:p.1=k
  ·have e':q.1=k:=h1.symm.trans e;have b:atKey (q::qs) k=some q.2:=by simp[atKey,List.find?_cons,e']
   rw[zpb e,b];exact h2
  ·have e':¬ q.1=k:=fun z=>e (h1.trans z);have b:atKey (q::qs) k=atKey qs k:=by simp[atKey,List.find?_cons,e']
   rw[zpa e,b];exact ih
theorem KT.repl{H:Hp}{kvs:List (List Key × V)}{xs:List (List Key × Addr × Value)}(r:KT H kvs xs)(k:List Key){y:V}{u:Value}(ry:yk1 y u) :
  KT H (kvs.map fun kv=>if kv.1=k then (kv.1,y)else kv) (xs.map (putAt k u)):=by
 induction r with
 |nil=>exact .nil
 |@cons p q ps qs h t ih=>
  rw[List.map_cons,List.map_cons];refine .cons ?_ ih;obtain⟨h1,h2,h3⟩:=h;unfold putAt;by_cases e:p.1=k
  ·rw[if_pos e,if_pos (h1.symm.trans e)];exact⟨h1,h2,ry⟩
  ·rw[if_neg e,if_neg (fun z=>e (h1.trans z))];exact⟨h1,h2,h3⟩
theorem KT.put{H:Hp}{kvs:List (List Key × V)}{xs:List (List Key × Addr × Value)}(r:KT H kvs xs)(k:List Key){b:Addr}{y:V}{u:Value}(hb:H b=some (.tup (k.map kV)))(ry:yk1 y u) :
  KT H (yn0 kvs k y) (storedH xs k b u):=by
 have e:(kvs.any fun kv=>decide (kv.1=k))=(atKey xs k).isSome:=by
  rw[zo9,(r.val k).isSome_eq,Option.isSome_map]
 unfold yn0 storedH;rw[e];by_cases q:(atKey xs k).isSome=true
 ·rw[if_pos q,if_pos q];exact r.repl k ry
 ·rw[if_neg q,if_neg q];exact Paired.snoc r ⟨rfl,hb,ry⟩
theorem KT.keeps{H H':Hp}{kvs:List (List Key × V)}{xs:List (List Key × Addr × Value)}(r:KT H kvs xs)(ht:∀ b ys,H b=some (.tup ys)->H' b=some (.tup ys)):KT H' kvs xs:=
 Paired.mapP r fun _ _ z=>⟨z.1,ht _ _ z.2.1,z.2.2⟩
section
variable{P:Program}{w:World}{H:Hp}{h:Heap}{a:Addr}
theorem yi2{u:HO}(ok:HOk P w H h)(e:Rd H a u):ye1 P w H h a u:=e.ok ok
theorem yfs{kvs:List (Key × V)}(ok:HOk P w H h)(e:Rd H a (.dK kvs)):kvs.length<=sizeLine/\(a == sysModules)=false/\∃ vs,KV kvs vs/\h.DictOf (ztt P w) a vs:=
 show ye1 P w H h a (.dK kvs)from yi2 ok e
theorem yfr{kvs:List (Key × V)}(ok:HOk P w H h)(e:H a=some (.dK kvs)):kvs.length<=sizeLine/\(a == sysModules)=false/\∃ vs,KV kvs vs/\h.DictOf (ztt P w) a vs:=yfs ok (.inl e)
theorem yaz{ks:List Key}(ok:HOk P w H h)(e:H a=some (.tup (ks.map kV))):(tupleKind (ztt P w)).is h ks a:=by
 obtain⟨_,its,r,o,h1,h2,n,h3⟩:=(show ye1 P w H h a (.tup (ks.map kV))from ok a _ e)
 exact⟨o,its.toArray,n,h1,h2,h3,by simpa using zhn r⟩
theorem yfv{kvs:List (List Key × V)}(ok:HOk P w H h)(e:Rd H a (.dT kvs)):kvs.length<=sizeLine/\(a == sysModules)=false/\
  ∃ xs,KT H kvs xs/\h.DictOfH (tupleKind (ztt P w)) a xs:=by
 obtain⟨z,y,xs,r,o,es,ep,h1,h2,h3,h4,h5⟩:=(show ye1 P w H h a (.dT kvs)from yi2 ok e)
 refine⟨z,y,xs,r,o,es,ep,h1,h2,h3,h4,fun x hx=>?_,h5⟩;have all:∀ {l:List (List Key × V)} {m:List (List Key × Addr × Value)},KT H l m->∀ x∈m,(tupleKind (ztt P w)).is h x.1 x.2.1:=by
  intro l m q;induction q with
  |nil=>intro x hx;exact nomatch hx
  |@cons p q ps qs hq t ih=>
   intro x hx;rcases List.mem_cons.mp hx with e|hx
   ·subst e;exact yaz ok (by rw[<-hq.1];exact hq.2.1)
   ·exact ih x hx
 exact all r x hx
theorem yfu{kvs:List (List Key × V)}(ok:HOk P w H h)(e:H a=some (.dT kvs)):kvs.length<=sizeLine/\(a == sysModules)=false/\
  ∃ xs,KT H kvs xs/\h.DictOfH (tupleKind (ztt P w)) a xs:=yfv ok (.inl e)
end
def DGet(H:Hp)(a:Addr)(y:V)(r:Option V):Prop:=
 (∃ kvs k,Rd H a (.dK kvs)/\y=kV k/\r=ypl kvs k)\/∃ kvs k b,Rd H a (.dT kvs)/\y=.ref b/\H b=some (.tup (k.map kV))/\r=ypl kvs k
def ykk(H:Hp)(a:Addr)(y v:V)(H':Hp):Prop:=
 (∃ kvs k,H a=some (.dK kvs)/\y=kV k/\kvs.length<sizeLine/\H'=upd H a (.dK (yn0 kvs k v)))\/
 ∃ kvs k b,H a=some (.dT kvs)/\y=.ref b/\H b=some (.tup (k.map kV))/\kvs.length<sizeLine/\H'=upd H a (.dT (yn0 kvs k v))
theorem DGet.k{H:Hp}{a:Addr}{kvs:List (Key × V)}{k:Key}(e:H a=some (.dK kvs)):DGet H a (kV k) (ypl kvs k):=.inl ⟨kvs,k,.inl e,rfl,rfl⟩
theorem DGet.t{H:Hp}{a b:Addr}{kvs:List (List Key × V)}{k:List Key}(e:H a=some (.dT kvs))(eb:H b=some (.tup (k.map kV))):DGet H a (.ref b) (ypl kvs k):=.inr ⟨kvs,k,b,.inl e,rfl,eb,rfl⟩
theorem ykk.k{H:Hp}{a:Addr}{kvs:List (Key × V)}{k:Key}{v:V}(e:H a=some (.dK kvs))(hl:kvs.length<sizeLine):ykk H a (kV k) v (upd H a (.dK (yn0 kvs k v))):=.inl ⟨kvs,k,e,rfl,hl,rfl⟩
theorem ykk.t{H:Hp}{a b:Addr}{kvs:List (List Key × V)}{k:List Key}{v:V}(e:H a=some (.dT kvs))(eb:H b=some (.tup (k.map kV)))(hl:kvs.length<sizeLine) :
  ykk H a (.ref b) v (upd H a (.dT (yn0 kvs k v))):=.inr ⟨kvs,k,b,e,rfl,eb,hl,rfl⟩
section
variable{X:Cx}{pins:List (Addr × Obj)}{σ:St}{H:Hp}{s:Shared}{a:Addr}{y v:V}{u r:Value}{o:Option V}{A:Around}{E:Value->Shared->Prop}
theorem Inv.big(I:Inv X pins σ H s):sysModules<s.heap.objs.size:=by
 have h:mainGlobals<s.heap.objs.size:=(I.mod.glob.keeps I.bk).lt;exact Nat.lt_trans (by decide) h
theorem zg1{Q:Value->Shared->Prop}(hu:A.units+1<cLine)(I:Inv X pins σ H s)(g:DGet H a y (some v))(ry:yk1 y u)(h:∀ w' s',Inv X pins σ H s'->yk1 v w'->Q w' s') :
  wpAny (model X.prog X.w) A (getItem (.ref a) u) Q E s:=by
 rcases g with⟨kvs,k,e,ey,l⟩|⟨kvs,k,b,e,ey,eb,l⟩
 ·subst ey;obtain⟨z,hd,vs,rel,dd⟩:=yfs I.hok e;obtain⟨w',hw,rw'⟩:=yk0.some_of (v:=v) (o:=valueAt vs k) (by rw[l];exact rel.val k);exact wpAny_getItem_of (yg5 ry) dd.mapOf hw (h w' _ (I.tok _) rw')
 ·subst ey;cases (show u=Value.ref b from ry);obtain⟨z,hd,xs,rel,dd⟩:=yfv I.hok e;obtain⟨w',hw,rw'⟩:=yk0.some_of (v:=v) (o:=(atKey xs k).map (·.2)) (by rw[l];exact rel.val k);obtain⟨p,hp,hp2⟩:=Option.map_eq_some_iff.mp hw;refine wpAny_getItem_heap (tupleKind_room_in1 hu) (yaz I.hok eb) dd hp ?_;rw[hp2];exact h w' _ (I.tok _) rw'
theorem ylz{Q:Value->Shared->Prop}(hu:A.units+1<cLine)(I:Inv X pins σ H s)(g:DGet H a y o)(ry:yk1 y u)(h:∀ s',Inv X pins σ H s'->Q (.bool o.isSome) s') :
  wpAny (model X.prog X.w) A (compareOp .In u (.ref a)) Q E s:=by
 rcases g with⟨kvs,k,e,ey,l⟩|⟨kvs,k,b,e,ey,eb,l⟩
 ·subst ey;obtain⟨z,hd,vs,rel,dd⟩:=yfs I.hok e;refine wpAny_in_of (yg5 ry) hd dd.mapOf ?_;rw[<-(rel.val k).isSome_eq,<-l];exact h _ (I.tok _)
 ·subst ey;cases (show u=Value.ref b from ry);obtain⟨z,hd,xs,rel,dd⟩:=yfv I.hok e;refine wpAny_in_heap (tupleKind_room_in1 hu) (yaz I.hok eb) hd dd ?_;have q:=(rel.val k).isSome_eq;rw[Option.isSome_map]at q;rw[<-q,<-l];exact h _ (I.tok _)
theorem zqn{h':Heap}{t':Nat}{ob:HO}(I:Inv X pins σ H s)(mu:Mut (H a))(hs:Heap.SameBut a s.heap h')(he:∃ q,h'.get? a=some q)(new:ye1 X.prog X.w (upd H a ob) h' a ob) :
  Inv X pins σ (upd H a ob) { s with heap:=h',toks:=t' }:=
 I.write (x:=a) (e:=a) mu (.inl rfl) (fun b q hb z=>(hs.2 b hb).trans z) he new
theorem zyq{P:Program}{w:World}{H':Hp}{h':Heap}{kvs:List (Key × V)}{vs:List (Key × Value)}(z:kvs.length<=sizeLine)(hd:(a == sysModules)=false)(rel:KV kvs vs)(dd:h'.DictOf (ztt P w) a vs) :
  ye1 P w H' h' a (.dK kvs):=⟨z,hd,vs,rel,dd⟩
theorem zg2{H':Hp}{Q:Unit->Shared->Prop}(hu:A.units+1<cLine)(I:Inv X pins σ H s)(g:ykk H a y v H')(ry:yk1 y u)(rv:yk1 v r)(h:∀ s',Inv X pins σ H' s'->Q () s') :
  wpAny (model X.prog X.w) A (setItem (.ref a) u r) Q E s:=by
 rcases g with⟨kvs,k,e,ey,l,eH⟩|⟨kvs,k,b,e,ey,eb,l,eH⟩
 ·subst ey eH;obtain⟨z,hd,vs,rel,dd⟩:=yfr I.hok e;have hz:vs.length<=sizeLine:=by rw[<-rel.length];exact z
  have hl:(yn0 kvs k v).length<=sizeLine:=by have:=zd8 kvs k v;omega
  refine wpAny_setItem_pairs (hsz:=hz) (yg5 ry) dd fun h' dd' hs=>h _ ?_;have he:∃ q,h'.get? a=some q:=let ⟨q,_,_,hq,_⟩:=dd';⟨q,hq⟩;exact zqn I (by rw[e];exact True.intro) hs he (zyq hl hd (rel.put k rv) dd')
 ·subst ey eH;cases (show u=Value.ref b from ry);obtain⟨z,hd,xs,rel,dd⟩:=yfu I.hok e;have hz:xs.length<=sizeLine:=by rw[<-Paired.length rel];exact z
  have hl:(yn0 kvs k v).length<=sizeLine:=by have:=zd8 kvs k v;omega
  refine wpAny_setItem_heap (hsz:=hz) (tupleKind_room_in1 hu) (yaz I.hok eb) dd fun h' dd' hs=>h _ ?_;obtain⟨q,es,ep,hq,h2,h3,h4,_,h5⟩:=dd';refine zqn I (by rw[e];exact True.intro) hs ⟨q,hq⟩ ⟨hl,hd,_,(rel.put k eb rv).keeps fun c ys ec=>?_,q,es,ep,hq,h2,h3,h4,h5⟩;rw[yep (yhr ec e (fun z=>nomatch z))];exact ec
end
section
variable{X:Cx}{pins:List (Addr × Obj)}{σ:St}{H:Hp}{s:Shared}{a:Addr}{kvs:List (Key × V)}{k:Key}{u:Value}{A:Around}{E:Value->Shared->Prop}
theorem zg0{Q:Unit->Shared->Prop}(I:Inv X pins σ H s)(e:H a=some (.dK kvs))(ry:yk1 (kV k) u)(l:(ypl kvs k).isSome=true)(h:∀ s',Inv X pins σ (upd H a (.dK (yft kvs k))) s'->Q () s') :
  wpAny (model X.prog X.w) A (delItem (.ref a) u) Q E s:=by
 obtain⟨z,hd,vs,rel,dd⟩:=yfr I.hok e;refine wpAny_delItem_slot dd.typeIs (by decide) PySem.F.slot_dict_delitem
  (call_meetsIn PySem.F.slot_dict_delitem dd.typeIs PySem.F.entry_dict_delitem (PySem.F.args_dict_delitem_2 _ _) (meets_dict_delitem_pairs (ztt X.prog X.w) a (yg5 ry)) ⟨vs,dd,by rw[<-rel.length];exact z,by rw[<-(rel.val k).isSome_eq];exact l,fun h' dd' hs=>h _ ?_⟩)
 have he:∃ q,h'.get? a=some q:=let ⟨q,_,_,hq,_⟩:=dd';⟨q,hq⟩;exact zqn I (by rw[e];exact True.intro) hs he (zyq (Nat.le_trans (zkg kvs k) z) hd (rel.drop k) dd')
theorem yfq{v:V}{more:List Value}{Q:Value->Shared->Prop}(I:Inv X pins σ H s)(e:H a=some (.dK kvs))(ry:yk1 (kV k) u)(l:ypl kvs k=some v)(hm:more=[]\/∃ x,more=[x])
  (h:∀ w' s',Inv X pins σ (upd H a (.dK (yft kvs k))) s'->yk1 v w'->Q w' s'):wpAny (model X.prog X.w) A (call (.builtin "dict.pop") (.ref a::u::more)) Q E s:=by
 obtain⟨z,hd,vs,rel,dd⟩:=yfr I.hok e;obtain⟨w',hw,rw'⟩:=yk0.some_of (v:=v) (o:=valueAt vs k) (by rw[<-l];exact rel.val k);have hp:(keyPart u).isSome=true:=by
  cases k with
  |inl i=>obtain⟨t,q⟩:=(show ∃ t,u=Value.int i t from ry);subst q;rfl
  |inr x=>obtain⟨t,q⟩:=(show ∃ t,u=Value.str x t from ry);subst q;rfl
 have ha:argsOk "dict.pop" ⟨.ref a::u::more,[]⟩:=by
  rcases hm with q|⟨x,q⟩
  ·subst q;exact PySem.F.args_dict_pop_2 _ _
  ·subst q;exact PySem.F.args_dict_pop_3 _ _ _
 refine call_meetsIn PySem.F.slot_dict_pop dd.typeIs PySem.F.entry_dict_pop ha (meets_dict_pop_there (ztt X.prog X.w) a (yg5 ry) more hm hp)
  ⟨vs,w',dd,by rw[<-rel.length];exact z,hw,fun h' dd' hs=>h w' _ ?_ rw'⟩
 have he:∃ q,h'.get? a=some q:=let ⟨q,_,_,hq,_⟩:=dd';⟨q,hq⟩;exact zqn I (by rw[e];exact True.intro) hs he (zyq (Nat.le_trans (zkg kvs k) z) hd (rel.drop k) dd')
theorem yfp{Q:Value->Shared->Prop}(I:Inv X pins σ H s)(e:Rd H a (.dK kvs))(h:∀ t s',Inv X pins σ H s'->Q (.int kvs.length t) s'):wpAny (model X.prog X.w) A (call (.builtin "len") [.ref a]) Q E s:=by
 obtain⟨z,hd,vs,rel,dd⟩:=yfs I.hok e;refine call_len_dict hd dd (by rw[<-rel.length];rw[sizeLine_eq]at z;omega) ?_;rw[<-rel.length];exact h _ _ (I.tok _)
end
def ykt(i:Expr):Prop:=∀ ov iv,subscripted i false ov iv=operate [ov,iv] (getItem ov iv)
theorem zw7{prog:Program}{w:World}{A:Around}{E:Value->Shared->Prop}{s:Shared}{env:Env}{value slice:Expr}{pos:Pos}{T id:String}{Q:Value->Shared->Prop}
  (hl:typeLookup (.type T) "__getitem__" = pure (some (.builtin id))) (hs:ykt slice)
  (h:wpAny (model prog w) A (eval value env) (fun o s₁=>wpAny (model prog w) A (eval slice env) (fun i s₂=>s₂.TypeIs o T/\wpAny (model prog w) A (getItem o i) Q E s₂) E s₁) E s) :
  wpAny (model prog w) A (eval (.Subscript value slice pos) env) Q E s:=by
 refine Subscript_ (wpAny_mono h (fun o s₁ h₁=>wpAny_mono h₁ (fun i s₂ h₂=>?_) fun _ _ x=>x) fun _ _ x=>x);obtain⟨hT,h₂⟩:=h₂;unfold subscriptTail;refine wpAny_bind ?_;rw[getitemInPython_of_ne hT.not_modules];refine wpAny_bind (wpAny_specialOf hT hl ?_);have fin:wpAny (model prog w) A (subscripted slice false o i) (fun r s₃=>wpAny (model prog w) A (letTemporaryGo value o r >>= fun _=>pure r) Q E s₃) E s₂:=by
  rw[hs o i];exact wpAny_operating (wpAny_mono h₂ (fun r s₃ h₃=>wpAny_bind (wpAny_letTemporaryGo (wpAny_pure h₃))) fun _ _ x=>x)
 first
  |exact wpAny_pure (wpAny_bind fin)
  |exact wpAny_bind (wpAny_pure (wpAny_bind fin))
  |exact wpAny_bind fin
theorem zdy{X:Cx}{pins:List (Addr × Obj)}{σ:St}{H:Hp}{s:Shared}{a:Addr}{y:V}{o:Option V}(I:Inv X pins σ H s)(g:DGet H a y o):s.TypeIs (.ref a) "dict":=by
 rcases g with⟨kvs,k,e,_,_⟩|⟨kvs,k,b,e,_,_,_⟩
 ·obtain⟨_,_,vs,_,dd⟩:=yfs I.hok e;exact dd.typeIs
 ·obtain⟨_,_,xs,_,dd⟩:=yfv I.hok e;exact dd.typeIs
def yjq(td ty:TE):TE:=fun σ H Q=>td σ H fun x H1=>ty σ H1 fun y H2=>∃ a v,x=.ref a/\DGet H2 a y (some v)/\Q v H2
section
variable{X:Cx}{o i e value:Expr}{pos pos' tpos:Pos}{td ty tv:TE}
theorem zuw(hu:X.A.units+1<cLine)(ho:PE X o td)(hi:PE X i ty)(hs:ykt i):PE X (.Subscript o i pos) (yjq td ty):=by
 intro pins s σ H Q I h;refine zw7 PySem.F.slot_dict_getitem.lookup hs (thn (ho pins s σ H _ I h) fun u s1 ⟨x,H1,I1,rx,q1⟩=>thn (hi pins s1 σ H1 _ I1 q1) fun iv s2 ⟨y,H2,I2,ry,a,v,ex,g,q2⟩=>?_);subst ex;obtain rfl:u=Value.ref a:=rx;exact⟨zdy I2 g,zg1 hu I2 g ry fun w' s3 I3 rw'=>⟨v,H2,I3,rw',q2⟩⟩
end
theorem zke{P:Program}{w:World}{H:Hp}(h:Heap)(hb:sysModules<h.objs.size):ye1 P w H (h.push { cls:=.type "dict",data:=.dict #[] }) h.objs.size (.dK []):=
 ⟨Nat.zero_le _,beq_eq_false_iff_ne.mpr (Ne.symm (Nat.ne_of_lt hb)),[],.nil,Heap.DictOf.new h⟩
def yd9:TE:=fun _ H Q=>∀ p,H p=none->Q (.ref p) (upd H p (.dK []))
section
variable{X:Cx}{pos:Pos}
theorem zni:PE X (.Dict [] [] pos) yd9:=fun pins s σ H Q I h=>
 wpAny_Dict_empty ⟨.ref s.heap.objs.size,_,I.laid (a:=s.heap.objs.size) (o:=.dK []) (t':=s.toks) (fun _ _ q=>Heap.get?_push_of_some _ q) (Nat.le_refl _) (zke s.heap I.big),rfl,h _ (I.hok.fresh (Nat.le_refl _))⟩
end
section
variable{X:Cx}{pins:List (Addr × Obj)}{σ:St}{H:Hp}{s:Shared}{a:Addr}{kvs:List (Key × V)}{A:Around}{E:Value->Shared->Prop}
theorem zkb{Q:Value->Shared->Prop}(I:Inv X pins σ H s)(e:Rd H a (.dK kvs))(h:∀ p s',H p=none->Inv X pins σ (upd H p (.dK kvs)) s'->Q (.ref p) s'):wpAny (model X.prog X.w) A (call (.type "dict") [.ref a]) Q E s:=by
 obtain⟨z,hd,vs,rel,dd⟩:=yfs I.hok e;refine kt_call_dict hd dd (by rw[<-rel.length];exact z) fun h' dd' hs=>?_;refine h _ _ (I.hok.fresh (Nat.le_refl _)) (I.laid (a:=s.heap.objs.size) (o:=.dK kvs) (t':=s.toks) (fun b q hq=>?_) (Nat.le_refl _) (zyq z (beq_eq_false_iff_ne.mpr (Ne.symm (Nat.ne_of_lt I.big))) rel dd'));exact(hs.2 b (Nat.ne_of_lt (Heap.lt_size hq))).trans (Heap.get?_push_of_some _ hq)
end
end L2
namespace L4
open PySem PySem.Spec PyProof.Rows L2
def ymx:D->Option Key
 | .int i=>some (.inl i)
 | .str x=>some (.inr x)
 |_=>none
def yl0(σ:Sto):D->Option (List (Key × D))
 | .dic ks xs=>if ks.length=xs.length then some (ks.zip xs)else none
 | .ref n=>(match σ[n]? with
  |some (.dic kvs)=>some kvs
  |some (.fdic kvs)=>some kvs
  |_=>none)
 |_=>none
def ygd(kvs:List (Key × D))(k:Key):Option D:=(kvs.find? fun kv=>decide (kv.1=k)).map (·.2)
def yin(kvs:List (Key × D))(k:Key)(d:D):List (Key × D):=
 if kvs.any (fun kv=>decide (kv.1=k))then kvs.map fun kv=>if kv.1=k then (kv.1,d)else kv else kvs++[(k,d)]
section
variable{T:Tb}{X:Cx}{μ:List Addr}{H:Hp}
theorem zs7{y:D}{v:V}{k:Key}(h:Rep T μ H y v)(e:ymx y=some k):v=kV k:=by
 cases y<;>simp[ymx]at e<;>subst e<;>rw[Rep]at h<;>exact h
theorem zn1:∀ {ks:List Key} {ds:List D} {kvs:List (Key × V)},kvs.map (·.1)=ks->yk4 T μ H ds (kvs.map (·.2))->yk3 T μ H (ks.zip ds) kvs
 |ks,[],kvs,h1,h2=>by
  rw[yk4]at h2;have:kvs=[]:=by simpa using h2
  subst this;rw[<-h1];exact .nil
 |ks,d::ds,kvs,h1,h2=>by
  rw[yk4]at h2;obtain⟨v,r,e,q1,q2⟩:=h2;cases kvs with
  |nil=>cases e
  |cons p kvs=>
   rw[List.map_cons]at e h1;cases e;rw[<-h1];exact .cons ⟨rfl,q1⟩ (zn1 rfl q2)
theorem ydj{σ:Sto}(r:Rel T μ H σ){x:D}{v:V}{kvs:List (Key × D)}(h:Rep T μ H x v)(e:yl0 σ x=some kvs):∃ a vs,v=.ref a/\Rd H a (.dK vs)/\yk3 T μ H kvs vs:=by
 cases x with
 |dic ks xs=>
  rw[Rep]at h;obtain⟨a,vs,rfl,_,h1,h2,h3⟩:=h;unfold yl0 at e;dsimp only at e;split at e
  ·cases e;exact⟨a,vs,rfl,h1,zn1 h2 h3⟩
  ·cases e
 |ref n=>
  unfold yl0 at e;dsimp only at e;cases q:σ[n]? with
  |none=>rw[q]at e;cases e
  |some o=>
   rw[q]at e;cases o with
   |dic kvs'=>
    cases e;obtain⟨a,rfl,_,vs,h1,h2⟩:=r.at h q;exact⟨a,vs,rfl,.inl h1,h2⟩
   |fdic kvs'=>
    cases e;obtain⟨a,rfl,_,ob,vs,h1,h2⟩:=r.at h q;exact⟨a,vs,rfl,.inr ⟨ob,h1⟩,h2⟩
   |_=>cases e
 |_=>cases e
theorem zk9{kvs:List (Key × D)}{vs:List (Key × V)}(h:yk3 T μ H kvs vs)(k:Key):(ygd kvs k=none/\ypl vs k=none)\/∃ d v,ygd kvs k=some d/\ypl vs k=some v/\Rep T μ H d v:=by
 unfold yk3 at h;induction h with
 |nil=>exact .inl ⟨rfl,rfl⟩
 |@cons p q ps qs h t ih=>
  obtain⟨h1,h2⟩:=h;by_cases e:p.1=k
  ·have e':q.1=k:=h1.symm.trans e;exact .inr ⟨p.2,q.2,by unfold ygd;rw[List.find?_cons,decide_eq_true e];rfl,zpb e',h2⟩
  ·have e':¬ q.1=k:=fun z=>e (h1.trans z);have f:ygd (p::ps) k=ygd ps k:=by unfold ygd;rw[List.find?_cons,decide_eq_false e]
   rw[f,zpa e'];exact ih
theorem zpp{kvs:List (Key × D)}{vs:List (Key × V)}(h:yk3 T μ H kvs vs)(k:Key):(kvs.any fun kv=>decide (kv.1=k))=(vs.any fun kv=>decide (kv.1=k)):=by
 unfold yk3 at h;induction h with
 |nil=>rfl
 |@cons p q ps qs h t ih=>rw[List.any_cons,List.any_cons,ih,h.1]
theorem zft{α β:Type}{F:α->β->Prop}{f:α->α}{g:β->β}(hfg:∀ a b,F a b->F (f a) (g b)):∀ {l:List α} {m:List β},Paired F l m->Paired F (l.map f) (m.map g)
 |_,_,.nil=>.nil
 |_,_,.cons h t=>.cons (hfg _ _ h) (zft hfg t)
theorem zej{α β:Type}{F:α->β->Prop}{a:α}{b:β}(hab:F a b):∀ {l:List α} {m:List β},Paired F l m->Paired F (l++[a]) (m++[b])
 |_,_,.nil=>.cons hab .nil
 |_,_,.cons h t=>.cons h (zej hab t)
theorem zkf{kvs:List (Key × D)}{vs:List (Key × V)}(h:yk3 T μ H kvs vs)(k:Key){d:D}{v:V}(hd:Rep T μ H d v):yk3 T μ H (yin kvs k d) (yn0 vs k v):=by
 unfold yin yn0;rw[zpp h k];split
 ·refine zft (fun p q h=>?_) h;by_cases e:p.1=k
  ·rw[if_pos e,if_pos (h.1.symm.trans e)];exact⟨h.1,hd⟩
  ·rw[if_neg e,if_neg (fun z=>e (h.1.trans z))];exact h
 ·exact zej ⟨rfl,hd⟩ h
theorem yk3.mono{μ':List Addr}{H':Hp}(e:Ext μ H μ' H'){kvs:List (Key × D)}{vs:List (Key × V)}(h:yk3 T μ H kvs vs):yk3 T μ' H' kvs vs:=Paired.mapP h fun _ _ z=>⟨z.1,Rep.mono e _ _ z.2⟩
theorem _root_.L2.DGet.kr{H:Hp}{a:Addr}{kvs:List (Key × V)}{k:Key}(e:Rd H a (.dK kvs)):DGet H a (kV k) (ypl kvs k):=.inl ⟨kvs,k,e,rfl,rfl⟩
def yhw(x y:D):M D:=fun σ=>match ymx y with
 |some k=>(match yl0 σ x with
  |some kvs=>(match ygd kvs k with
   |some d=>.ok d σ
   |none=>.bad)
  |none=>.bad)
 |none=>.bad
theorem zq9{o i:Expr}{fo fi:Ev->M D}{pos:Pos}(hu:X.A.units+9<cLine)(ho:FE T X o fo)(hi:FE T X i fi)(hs:ykt i):FE T X (.Subscript o i pos) (yl2 yhw fo fi):=by
 intro pins s st H Q I h;refine zuw (by omega) ho hi hs pins s st H Q I ?_;obtain⟨μ,ρ,σ,hE,hr,hp⟩:=h;refine⟨μ,ρ,σ,hE,hr,hp.bind fun x σ1 μ1 v H1 _ e1 r1 q1 p1=>⟨μ1,ρ,σ1,hE.mono e1,r1,p1.bind fun y σ2 μ2 u H2 _ e2 r2 q2 p2=>?_⟩⟩;unfold yhw at p2;cases ek:ymx y with
 |none=>rw[ek]at p2;exact p2.elim
 |some k=>
  rw[ek]at p2;dsimp only at p2;cases ed:yl0 σ2 x with
  |none=>rw[ed]at p2;exact p2.elim
  |some kvs=>
   rw[ed]at p2;dsimp only at p2;obtain⟨a,vs,rfl,h1,h2⟩:=ydj r2 (Rep.mono e2 _ _ q1) ed;obtain rfl:=zs7 q2 ek;rcases zk9 h2 k with⟨z1,_⟩|⟨d,w,z1,z2,z3⟩
   ·rw[z1]at p2;exact p2.elim
   ·rw[z1]at p2;exact⟨a,w,rfl,by rw[<-z2];exact DGet.kr h1,yky.here p2 r2 z3⟩
def yn2:R2:=fun y x H Q=>∃ a o,x=.ref a/\DGet H a y o/\Q (.bl o.isSome) H
theorem yb7(hu:X.A.units+9<cLine):OpR X (compareOp .In) yn2:=by
 intro pins s st H y x iv u Q I ry rx h;obtain⟨a,o,rfl,g,q⟩:=h;obtain rfl:u=Value.ref a:=rx;exact ylz (by omega) I g ry fun s3 I3=>⟨.bl o.isSome,H,I3,rfl,q⟩
def ync(y x:D):M D:=fun σ=>match ymx y with
 |some k=>(match yl0 σ x with
  |some kvs=>.ok (.bl (ygd kvs k).isSome) σ
  |none=>.bad)
 |none=>.bad
theorem zwo:ye6 T yn2 ync:=by
 intro E μ H σ y x u v Q r q p h;unfold ync at h;cases ek:ymx y with
 |none=>rw[ek]at h;exact h.elim
 |some k=>
  rw[ek]at h;dsimp only at h;cases ed:yl0 σ x with
  |none=>rw[ed]at h;exact h.elim
  |some kvs=>
   rw[ed]at h;obtain⟨a,vs,rfl,h1,h2⟩:=ydj r p ed;obtain rfl:=zs7 q ek;refine⟨a,ypl vs k,rfl,DGet.kr h1,yky.here h r ?_⟩;rw[Rep];rcases zk9 h2 k with⟨z1,z2⟩|⟨d,w,z1,z2,z3⟩
   ·rw[z1,z2];rfl
   ·rw[z1,z2];rfl
def yiw:yk7:=fun x y v H Q=>∃ a H',x=.ref a/\ykk H a y v H'/\Q H'
theorem zok(hu:X.A.units+9<cLine):ykx X yiw:=by
 intro pins s st H o i v ov iv u Q I ro ri rv h;obtain⟨a,H',rfl,g,q⟩:=h;obtain rfl:ov=Value.ref a:=ro;exact zg2 (by omega) I g ri rv fun s4 I4=>⟨H',I4,q⟩
def yjc(ρ:Ev)(d x:D)(y:D):M Fl:=fun σ=>match x with
 | .ref n=>(match ymx y with
  |some k=>(match σ[n]? with
   |some (.dic kvs)=>if kvs.length<cap then .ok (.nx ρ) (σ.set n (.dic (yin kvs k d)))else .bad
   |_=>.bad)
  |none=>.bad)
 |_=>.bad
def yjb(ρ:Ev)(fi:Ev->M D)(d x:D):M Fl:=xs ρ (fi ρ) (yjc ρ d x)
def yja(ρ:Ev)(fo fi:Ev->M D)(d:D):M Fl:=xs ρ (fo ρ) (yjb ρ fi d)
def yi4(f fo fi:Ev->M D):Ev->M Fl:=fun ρ=>xs ρ (f ρ) (yja ρ fo fi)
theorem zr2{e o i:Expr}{f fo fi:Ev->M D}{pos pos':Pos}(hu:X.A.units+9<cLine)(he:FE T X e f)(ho:FE T X o fo)(hi:FE T X i fi)
  (ha:∀ v,assign (.Subscript o i pos') X.env v=(do
   let ov <-holding [v] (eval o X.env);let iv <-holding [v,ov] (eval i X.env)
   standAt pos'
   holding [v,ov,iv] (setItem ov iv v)
   release [v,ov,iv] []):=by intro _;rfl)
  (hs:swapsWithSole [.Subscript o i pos'] e pos.line X.env=pure false:=by rfl) (hw:swappedStores [.Subscript o i pos'] e X.env=pure none:=by rfl)
  (h1:(assignEach [.Subscript o i pos'] X.env).map (·.2)=[assign (.Subscript o i pos') X.env]:=by rfl):FS T X (.Assign [.Subscript o i pos'] e pos) (yi4 f fo fi):=by
 intro pins s st H D I hq;refine yc3 he (ycv ho hi (zok hu) ha) hs hw h1 pins s st H D I ?_;obtain⟨μ,ρ,σ,hE,hr,hp⟩:=hq;refine⟨μ,ρ,σ,hE,hr,hp.xs hE fun d σ1 μ1 v H1 _ e1 r1 q1 p1=>?_⟩;refine⟨μ1,ρ,σ1,hE.mono e1,r1,p1.xs (hE.mono e1) fun x σ2 μ2 vo H2 _ e2 r2 q2 p2=>?_⟩;refine⟨μ2,ρ,σ2,(hE.mono e1).mono e2,r2,p2.xs ((hE.mono e1).mono e2) fun y σ3 μ3 vi H3 _ e3 r3 q3 p3=>?_⟩;have hd:=Rep.mono e3 _ _ (Rep.mono e2 _ _ q1);have hx:=Rep.mono e3 _ _ q2;unfold yjc at p3;cases x with
 |ref n=>
  dsimp only at p3;cases ek:ymx y with
  |none=>rw[ek]at p3;exact p3.elim
  |some k=>
   rw[ek]at p3;dsimp only at p3;cases el:σ3[n]? with
   |none=>rw[el]at p3;exact p3.elim
   |some ob=>
    rw[el]at p3;cases ob with
    |dic kvs=>
     dsimp only at p3;by_cases hc:kvs.length<cap
     ·rw[if_pos hc]at p3;obtain⟨a,rfl,hn,vs,g1,g2⟩:=r3.at hx el;obtain rfl:=zs7 q3 ek;have wr:=r3.write (o:=.dK (yn0 vs k v)) (ob:=.dic (yin kvs k d)) hn ⟨_,zo8,by
       have ex:Ext μ3 H3 μ3 (upd H3 a (.dK (yn0 vs k v))):=zg7 (List.mem_of_getElem? hn) g1 (fun _ z=>by cases z) (fun _ _ z=>by cases z);exact zkf (yk3.mono ex g2) k (Rep.mono ex _ _ hd)⟩
      have hlen:vs.length=kvs.length:=by unfold yk3 at g2;exact(Paired.length g2).symm
      exact⟨a,_,rfl,ykk.k g1 (by rw[hlen];exact Nat.lt_of_lt_of_le hc (by decide)),p3 _ (.nx st) _ wr.1 wr.2 (((hE.mono e1).mono e2).mono e3 |>.mono wr.1)⟩
     ·rw[if_neg hc]at p3;exact p3.elim
    |_=>exact p3.elim
 |_=>exact p3.elim
def yfy:Ev->M D:=fun _ σ=>.ok (.ref σ.length) (σ++[.dic []])
theorem zra{pos:Pos}:FE T X (.Dict [] [] pos) yfy:=by
 intro pins s st H Q I h;obtain⟨μ,ρ,σ,hE,hr,hp⟩:=h;refine zni pins s st H Q I fun p hn=>?_;exact hp (μ++[p]) (.ref p) _ (zkw hn) (hr.push hn ⟨[],zo8,.nil⟩) (znz hr)
theorem zrb{pos:Pos}:FE T X (.Dict [] [] pos) (eC (.dic [] [])):=by
 intro pins s st H Q I h;obtain⟨μ,ρ,σ,hE,hr,hp⟩:=h;refine zni pins s st H Q I fun p hn=>?_;exact hp μ (.ref p) _ (zq6 hn) (hr.fresh hn) (by rw[Rep];exact⟨p,[],rfl,fun hm=>(by obtain⟨u,hu,_⟩:=hr.mem hm;rw[hn]at hu;cases hu),(.inl zo8),rfl,yk4.nil⟩)
def yn3:List V->Hp->VK->Prop:=fun xs H Q=>∃ a kvs,xs=[.ref a]/\Rd H a (.dK kvs)/\∀ p,H p=none->Q (.ref p) (upd H p (.dK kvs))
theorem zjy:yew X (.type "dict") yn3:=by
 intro pins s st H xs us Q I r h;obtain⟨a,kvs,rfl,e,q⟩:=h;obtain⟨u,rfl,ru⟩:=yj9 r;cases ru;exact zkb I e fun p s' hn I'=>⟨.ref p,_,I',rfl,q p hn⟩
def ynd(ds:List D):M D:=fun σ=>match ds with
 |[x]=>(match yl0 σ x with
  |some kvs=>.ok (.dic (kvs.map (·.1)) (kvs.map (·.2))) σ
  |none=>.bad)
 |_=>.bad
theorem zvl:∀ {kvs:List (Key × D)} {vs:List (Key × V)},yk3 T μ H kvs vs->vs.map (·.1)=kvs.map (·.1)/\yk4 T μ H (kvs.map (·.2)) (vs.map (·.2))
 |_,_,.nil=>⟨rfl,yk4.nil⟩
 |_,_,.cons h t=>by
  obtain⟨z1,z2⟩:=zvl t;exact⟨by rw[List.map_cons,List.map_cons,z1,h.1],yk4.cons h.2 z2⟩
theorem zwn:zpj T yn3 ynd:=by
 intro E μ H σ ds vs Q r p h
 match ds with
 |[]=>exact h.elim
 |[x]=>
  unfold ynd at h;dsimp only at h;cases ed:yl0 σ x with
  |none=>rw[ed]at h;exact h.elim
  |some kvs=>
   rw[ed]at h;rw[yk4]at p;obtain⟨v,r',rfl,q1,q2⟩:=p;rw[yk4]at q2;subst q2;obtain⟨a,ws,rfl,h1,h2⟩:=ydj r q1 ed;refine⟨a,ws,rfl,h1,fun l hn=>?_⟩;obtain⟨z1,z2⟩:=zvl h2;exact h μ (.ref l) _ (zq6 hn) (r.fresh hn) (by rw[Rep];exact⟨l,ws,rfl,fun hm=>(by obtain⟨u,hu,_⟩:=r.mem hm;rw[hn]at hu;cases hu),(.inl zo8),z1,yk4.mono (zq6 hn) _ _ z2⟩)
 |_::_::_=>exact h.elim
end
section
variable{T:Tb}{X:Cx}
structure InK(K:PySem.W.Frag)(C:Addr):Prop where
 cl:L2.Cls K C
 a:PySem.W.findIn K (.ref C) "__class__" = some (some (.builtin "object.__class__"))
 n:PySem.W.specialIn K (.builtin "object.__class__") "__get__" = some (some (.builtin "getset_descriptor.__get__"))
 t:PySem.W.takesIn K (.builtin "object.__class__")=some true
 m:PySem.W.mroIn K C (.type "object")=some true
def yhb:List (Key × D)->List (Key × D)->Bool
 |[],[]=>true
 |(k,.int i)::r,(k',.int j)::r'=>decide (k=k') && (i == j) && yhb r r'
 |_,_=>false
theorem zff:∀ {l:List (Key × D)},(∀ p∈l,∃ i,p.2=.int i)->yhb l l=true
 |[],_=>rfl
 |(k,d)::r,h=>by
  obtain⟨i,e⟩:=h (k,d) List.mem_cons_self;dsimp only at e;subst e;unfold yhb;rw[zff fun p hp=>h p (List.mem_cons_of_mem _ hp)];simp
def ynf(x y:D):M D:=fun σ=>match yl0 σ x with
 |some k1=>(match yl0 σ y with
  |some k2=>if yhb k1 k2=true then .ok (.bl true) σ else .bad
  |none=>.bad)
 |none=>.bad
end
section
variable{T:Tb}{X:Cx}
def yh2(ds:List D):M D:=fun σ=>match ds with
 |[x]=>(match x with
  | .int i=>.ok (.int i) σ
  | .bl k=>.ok (.int (if k then 1 else 0)) σ
  |_=>.bad)
 |_=>.bad
theorem zop:zpj T (fun xs H Q=>(∃ i,xs=[.int i]/\Q (.int i) H)\/∃ k,xs=[.bl k]/\Q (.int (if k then 1 else 0)) H) yh2:=by
 intro E μ H σ xs vs Q r p h
 match xs with
 |[]=>exact h.elim
 |[x]=>
  rw[yk4]at p;obtain⟨v,w,rfl,p1,p2⟩:=p;rw[yk4]at p2;subst p2;cases x with
  |int i=>rw[Rep]at p1;subst p1;exact .inl ⟨i,rfl,yky.here h r (by rw[Rep])⟩
  |bl k=>rw[Rep]at p1;subst p1;exact .inr ⟨k,rfl,yky.here h r (by rw[Rep])⟩
  |_=>exact h.elim
 |_::_::_=>exact h.elim
inductive CDs(X:Cx):List (Option Expr)->List Expr->List (Str × Str)->Prop
 |nil:CDs X [] [] []
 |cons {k v:Expr} {x y:Str} {ks:List (Option Expr)} {vs:List Expr} {l:List (Str × Str)}:PE X k (tC (.str x))->PE X v (tC (.str y))->CDs X ks vs l->CDs X (some k::ks) (v::vs) ((x,y)::l)
theorem CDs.all{ks vs l}(h:CDs X ks vs l):ks.all (·.isSome)=true/\ks.length=vs.length/\ks.length=l.length:=by
 induction h with
 |nil=>exact⟨rfl,rfl,rfl⟩
 |cons _ _ _ ih=>exact⟨by simpa using ih.1,by simpa using ih.2.1,by simpa using ih.2.2⟩
theorem put_new{kvs:List (Key × V)}{k:Key}{v:V}(h:k ∉ kvs.map (·.1)):yn0 kvs k v=kvs++[(k,v)]:=by
 unfold yn0;rw[if_neg];intro z;rw[List.any_eq_true]at z;obtain⟨x,hx,e⟩:=z;exact h (List.mem_map.mpr ⟨x,hx,of_decide_eq_true e⟩)
end
def ylk(o:Int->Int->Int)(i:Nat)(ρ:Ev)(x d:D):M Fl:=fun σ=>match x,d with
 | .int a,.int b=>.ok (.nx (ρ.set i (some (.int (o a b))))) σ
 |_,_=>.bad
def yoh(o:Int->Int->Int)(i:Nat)(f:Ev->M D):Ev->M Fl:=fun ρ=>match ρ[i]? with
 |some (some x)=>xs ρ (f ρ) (ylk o i ρ x)
 |_=>fun _=>.bad
theorem zvz{o:Int->Int->Int}{i:Nat}{f:Ev->M D}{ρ:Ev}{σ:Sto}{x:D}(h:ρ[i]?=some (some x)):yoh o i f ρ σ=xsO ρ (ylk o i ρ x) (f ρ σ):=by
 unfold yoh;rw[h];exact ykd ..
@[simp] theorem zpw(o:Int->Int->Int)(i:Nat)(ρ:Ev)(a b:Int)(σ:Sto):ylk o i ρ (.int a) (.int b) σ=.ok (.nx (ρ.set i (some (.int (o a b))))) σ:=nr rfl
section
variable{T:Tb}{X:Cx}{e:Expr}{f:Ev->M D}{pos:Pos}
theorem zz0{i:Nat}{x:Str}{pos':Pos}{op:Operator}{o:Int->Int->Int}(ho:PIp X op (ipI o))(hN:X.N.Nodup)(hi:X.N[i]?=some x)(hx:Loc X.env.scope x)(he:FE T X e f)(hf:X.fn x=true\/X.env.scope.names.lookup x=some .local:=by first|exact .inl rfl|exact .inr rfl|assumption) :
  FS T X (.AugAssign (.Name x pos') op e pos) (yoh o i f):=by
 intro pins s st H D I hw;refine yc4 hN hi hx he ho hf pins s st H D I ?_;obtain⟨μ,ρ,σ,hE,hr,hp⟩:=hw;unfold yoh at hp;cases e0:ρ[i]? with
 |none=>rw[e0]at hp;exact hp.elim
 |some q=>
  cases q with
  |none=>rw[e0]at hp;exact hp.elim
  |some d=>
   rw[e0]at hp;obtain⟨v,h1,h2⟩:=hE.2 i d e0;refine⟨v,h1,μ,ρ,σ,hE,hr,hp.xs hE fun y σ1 μ1 vy H1 _ e1 r1 q1 p1=>?_⟩;cases d with
   |int a=>
    cases y with
    |int b=>
     rw[Rep]at h2 q1;subst h2 q1;exact⟨a,b,rfl,rfl,yky.here (g:=Gl2.nx (st.set i (some (.int (o a b))))) p1 r1 ((hE.mono e1).set i (by rw[Rep]))⟩
    |_=>exact p1.elim
   |_=>exact p1.elim
end
end L4
namespace L4
open PySem PySem.Spec PySem.Calls PyProof.Rows L2
section
variable{T:Tb}{X:Cx}
end
end L4
namespace L4
open PySem PySem.Spec PyProof.Rows L2
def ybi(o:D->List D->M D)(m:M (List D))(x:D):M D:=fun σ=>match yl0 σ x with
 |some _=>bnd m (o x) σ
 |none=>.bad
def zyx(o:D->List D->M D)(f:Ev->M D)(fs:Ev->M (List D)):Ev->M D:=fun ρ=>bnd (f ρ) (ybi o (fs ρ))
def zvk:V->List V->Hp->VK->Prop:=fun x vs H Q=>∃ a kvs k d,x=.ref a/\vs=[kV k,d]/\H a=some (.dK kvs)/\kvs.length<sizeLine/\
 (∀ v,ypl kvs k=some v->Q v H)/\(ypl kvs k=none->Q d (upd H a (.dK (yn0 kvs k d))))
def zuj(x:D)(xs:List D):M D:=fun σ=>match x,xs with
 | .ref n,[y,d]=>(match ymx y with
  |some k=>(match σ[n]? with
   |some (.dic kvs)=>if kvs.length<cap then (match ygd kvs k with
    |some e=>.ok e σ
    |none=>.ok d (σ.set n (.dic (yin kvs k d))))else .bad
   |_=>.bad)
  |none=>.bad)
 |_,_=>.bad
section
variable{T:Tb}{X:Cx}{o e:Expr}{es:List Expr}{f:Ev->M D}{fs:Ev->M (List D)}{name:Str}{apos cpos:Pos}{id:String}{r:V->List V->Hp->VK->Prop}{g:D->List D->M D}
theorem zh7:MtR X "dict.setdefault" zvk:=by
 intro pins s st H x vs v us Q I rx rv h;obtain⟨a,kvs,k,d,rfl,rfl,hH,hl,h1,h2⟩:=h;cases rx;obtain⟨u,r,rfl,ru,rr⟩:=rv.two;obtain⟨z,hd,ws,rel,dd⟩:=yfr I.hok hH;have hz:ws.length<=sizeLine:=by rw[<-rel.length];exact z
 have hlp:(yn0 kvs k d).length<=sizeLine:=by have:=zd8 kvs k d;omega
 refine call_meetsIn PySem.F.slot_dict_setdefault dd.typeIs PySem.F.entry_dict_setdefault (PySem.F.args_dict_setdefault_3 _ _ _) (kt_meets_setdefault (ztt X.prog X.w) a (yg5 ru) hd r) ⟨ws,dd,hz,fun w hw=>?_,fun hn h' dd' hs=>?_⟩
 ·have q:=rel.val k;rw[hw]at q;cases e:ypl kvs k with
  |none=>rw[e]at q;exact absurd q (by simp[yk0])
  |some x=>rw[e]at q;exact⟨x,H,I.tok _,q,h1 x e⟩
 ·have q:=rel.val k;rw[hn]at q;cases e:ypl kvs k with
  |some x=>rw[e]at q;exact absurd q (by simp[yk0])
  |none=>
   have he:∃ q,h'.get? a=some q:=let ⟨q,_,_,hq,_⟩:=dd';⟨q,hq⟩;exact⟨d,_,zqn I (by rw[hH];exact True.intro) hs he (zyq hlp hd (rel.put k rr) dd'),rr,h2 e⟩
theorem zys{p:Addr}{kvs:List (Key × V)}{pins:List (Addr × Obj)}{σ:St}{H:Hp}{s:Shared}(I:Inv X pins σ H s)(hk:Rd H p (.dK kvs)):s.TypeIs (.ref p) "dict"/\∀ a,Value.ref p=.ref a->∃ ob,s.heap.get? a=some ob/\ob.dict=none:=by
 obtain⟨_,_,_,_,o,_,_,e,ex,_⟩:=yfs I.hok hk;refine⟨⟨o,e,ex.1⟩,fun a e2=>?_⟩;cases e2;exact⟨o,e,ex.2.1⟩
def yo5(r:V->List V->Hp->VK->Prop)(to:TE):TE:=fun σ H Q=>to σ H fun x H1=>(∃ a kvs,x=.ref a/\Rd H1 a (.dK kvs))/\r x [] H1 Q
def tBD(r:V->List V->Hp->VK->Prop)(to:TE)(t:TA):TE:=fun σ H Q=>to σ H fun x H1=>(∃ a kvs,x=.ref a/\Rd H1 a (.dK kvs))/\t σ H1 fun xs H2=>r x xs H2 Q
theorem zuu{to:TE}(pa:PlainAttrs "dict")(slot:Slot "dict" name id)(hty:typeOf (.builtin id)=pure (.type "method_descriptor"))(hm:MtR X id r)(ho:PE X o to)
  (hbase:attributeBase o name X.env (eval o X.env)=eval o X.env:=by rfl) (hline:(apos.endLine == cpos.line)=true:=by rfl):PE X (.Call (.Attribute o name apos) [] [] cpos) (yo5 r to):=by
 intro pins s σ H Q I h;refine wpAny_Call_method0_late hbase hline (thn (ho pins s σ H _ I h) fun v s1 ⟨x,H1,I1,r1,ty,q1⟩=>?_);obtain⟨a,kvs,rfl,hk⟩:=ty;cases r1;obtain⟨h1,h2⟩:=zys I1 hk;exact⟨"dict",id,pa,slot,hty,h1,h2,Calls.callWith_builtin rfl (PySem.evalArgs_none (hm pins s1 σ H1 (.ref a) [] (.ref a) [] Q I1 rfl .nil q1))⟩
theorem ycl{to:TE}{t:TA}(pa:PlainAttrs "dict")(slot:Slot "dict" name id)(hty:typeOf (.builtin id)=pure (.type "method_descriptor"))(hm:MtR X id r)(ho:PE X o to)(ha:PA X (e::es) t)
  (hbase:attributeBase o name X.env (eval o X.env)=eval o X.env:=by rfl)
  (hfew:((backTo cpos (starEach (e::es) X.env)).all (fun x=>!x.1) && (backToKw cpos (keywordEach [] X.env)).all (fun x=>x.1.isSome)
   && decide ((e::es).length+([]:List Keyword).length+(if ([]:List Keyword).isEmpty then 0 else 1)<30))=true:=by rfl)
  (hline:(apos.endLine == cpos.line)=true:=by rfl) (hs:starEach (e::es) X.env=(false,eval e X.env)::starEach es X.env:=by rfl) (hplain:(backTo cpos (starEach es X.env)).any (·.1)=false:=by rfl) :
  PE X (.Call (.Attribute o name apos) (e::es) [] cpos) (tBD r to t):=by
 intro pins s σ H Q I h;refine wpAny_Call_method_late hbase hfew hline rfl (thn (ho pins s σ H _ I h) fun v s1 ⟨x,H1,I1,r1,ty,q1⟩=>?_);obtain⟨a,kvs,rfl,hk⟩:=ty;cases r1;obtain⟨h1,h2⟩:=zys I1 hk;refine⟨"dict",id,pa,slot,hty,h1,h2,?_⟩;have hA:=ha cpos pins s1 σ H1 _ I1 q1;rw[hs]at hA ⊢;refine Calls.callWith_builtin (by show (false || (backTo cpos (starEach es X.env)).any (·.1))=false;rw[hplain]<;>rfl) (Calls.evalArgs_plain ?_);exact thn hA fun us s2 ⟨vs,H2,I2,r2,q2⟩=>hm pins s2 σ H2 (.ref a) vs (.ref a) us Q I2 rfl r2 q2
theorem zk1(pa:PlainAttrs "dict")(slot:Slot "dict" name id)(hty:typeOf (.builtin id)=pure (.type "method_descriptor"))(hm:MtR X id r)(hs:ye5 T r g)(ho:FE T X o f)(ha:FA T X (e::es) fs)
  (hbase:attributeBase o name X.env (eval o X.env)=eval o X.env:=by rfl)
  (hfew:((backTo cpos (starEach (e::es) X.env)).all (fun x=>!x.1) && (backToKw cpos (keywordEach [] X.env)).all (fun x=>x.1.isSome)
   && decide ((e::es).length+([]:List Keyword).length+(if ([]:List Keyword).isEmpty then 0 else 1)<30))=true:=by rfl)
  (hline:(apos.endLine == cpos.line)=true:=by rfl) (hst:starEach (e::es) X.env=(false,eval e X.env)::starEach es X.env:=by rfl) (hplain:(backTo cpos (starEach es X.env)).any (·.1)=false:=by rfl) :
  FE T X (.Call (.Attribute o name apos) (e::es) [] cpos) (zyx g f fs):=by
 intro pins s st H Q I h;refine ycl pa slot hty hm ho ha hbase hfew hline hst hplain pins s st H Q I ?_;obtain⟨μ,ρ,σ,he,hr,hp⟩:=h;refine⟨μ,ρ,σ,he,hr,hp.bind fun x σ1 μ1 v H1 _ e1 r1 p1 q1=>?_⟩;unfold ybi at q1;cases el:yl0 σ1 x with
 |none=>rw[el]at q1;exact q1.elim
 |some xs=>
  rw[el]at q1;obtain⟨a,vs,rfl,h1,h2⟩:=ydj r1 p1 el;refine⟨⟨a,vs,rfl,h1⟩,μ1,ρ,σ1,he.mono e1,r1,q1.bind fun ds σ2 μ2 ws H2 _ e2 r2 p2 q2=>?_⟩;exact hs _ μ2 H2 σ2 x ds (.ref a) ws Q r2 (Rep.mono e2 _ _ p1) p2 q2
theorem zf8:ye5 T zvk zuj:=by
 intro E μ H σ x xs v vs Q r p q h;cases x with
 |ref n=>
  match xs with
  |[]=>exact h.elim
  |[_]=>exact h.elim
  |[y,d]=>
   rw[yk4]at q;obtain⟨w,z,rfl,q1,q2⟩:=q;rw[yk4]at q2;obtain⟨w2,z2,rfl,q3,q4⟩:=q2;rw[yk4]at q4;subst q4;unfold zuj at h;cases ek:ymx y with
   |none=>simp only[ek]at h;exact h.elim
   |some k=>
    simp only[ek]at h;cases el:σ[n]? with
    |none=>simp only[el]at h;exact h.elim
    |some ob=>
     cases ob with
     |dic kvs=>
      simp only[el]at h;by_cases hc:kvs.length<cap
      ·rw[if_pos hc]at h;obtain⟨a,rfl,hn,us,g1,g2⟩:=r.at p el;obtain rfl:=zs7 q1 ek;have hlen:us.length=kvs.length:=by unfold yk3 at g2;exact(Paired.length g2).symm
       refine⟨a,us,k,w2,rfl,rfl,g1,by rw[hlen];exact zx9 hc,fun v e=>?_,fun e=>?_⟩
       ·rcases zk9 g2 k with⟨z1,z2⟩|⟨d',v',z1,z2,z3⟩
        ·rw[z2]at e;cases e
        ·rw[z2]at e;cases e;rw[z1]at h;exact yky.here h r z3
       ·rcases zk9 g2 k with⟨z1,z2⟩|⟨d',v',z1,z2,z3⟩
        ·rw[z1]at h;have wr:=r.write (o:=.dK (yn0 us k w2)) (ob:=.dic (yin kvs k d)) hn ⟨_,zo8,by
          have ex:Ext μ H μ (upd H a (.dK (yn0 us k w2))):=zg7 (List.mem_of_getElem? hn) g1 (fun _ z=>by cases z) (fun _ _ z=>by cases z);exact zkf (yk3.mono ex g2) k (Rep.mono ex _ _ q3)⟩
         exact h _ _ _ wr.1 wr.2 (Rep.mono wr.1 _ _ q3)
        ·rw[z2]at e;cases e
      ·rw[if_neg hc]at h;exact h.elim
     |lst ys=>simp only[el]at h;exact h.elim
     |ins c fs=>simp only[el]at h;exact h.elim
     |fdic _=>simp only[el]at h;exact h.elim
  |_::_::_::_=>exact h.elim
 |_=>exact h.elim
end
def ymb(σ:Sto)(x:D):List D->Option (List Bool)
 |[]=>some []
 |y::ys=>match eqD σ 7 y x,ymb σ x ys with
  |some b,some bs=>some (b::bs)
  |_,_=>none
def ynh(neg:Bool)(x y:D):M D:=fun σ=>match yi9 σ y with
 |some xs=>(match ymb σ x xs with
  |some bs=>.ok (.bl (if neg then !(bs.any id)else bs.any id)) σ
  |none=>.bad)
 |none=>.bad
theorem zku{σ:Sto}{x:D}:∀ {xs:List D} {bs:List Bool},ymb σ x xs=some bs->bs.length=xs.length/\∀ (j:Nat) (d:D) (b:Bool),xs[j]?=some d->bs[j]?=some b->eqD σ 7 d x=some b
 |[],bs,h=>by cases h;exact⟨rfl,fun j d b h=>by simp at h⟩
 |y::ys,bs,h=>by
  unfold ymb at h;cases e1:eqD σ 7 y x with
  |none=>rw[e1]at h;cases h
  |some b1=>
   cases e2:ymb σ x ys with
   |none=>rw[e1,e2]at h;cases h
   |some bs1=>
    rw[e1,e2]at h;cases h;obtain⟨h1,h2⟩:=zku e2;refine⟨by simp[h1],fun j d b hd hb=>?_⟩;cases j with
    |zero=>simp at hd hb;subst hd;subst hb;exact e1
    |succ j=>exact h2 j d b (by simpa using hd) (by simpa using hb)
open Classical in
noncomputable def eOf(its:List Value)(bs:List Bool)(u:Value):Bool:=decide (∃ j:Nat,its[j]?=some u/\bs[j]?=some true)
theorem zq2{its:List Value}{bs:List Bool}{u:Value}:eOf its bs u=true ↔ ∃ j:Nat,its[j]?=some u/\bs[j]?=some true:=by unfold eOf;exact @decide_eq_true_iff _ (Classical.propDecidable _)
theorem zq1{its:List Value}{bs:List Bool}(hl:bs.length=its.length):its.toArray.any (eOf its bs)=bs.any id:=by
 rw[show its.toArray.any (eOf its bs)=its.any (eOf its bs) by simp,Bool.eq_iff_iff,List.any_eq_true,List.any_eq_true];constructor
 ·rintro ⟨u,_,hu⟩;obtain⟨j,_,h⟩:=zq2.mp hu;exact⟨true,List.mem_of_getElem? h,rfl⟩
 ·rintro ⟨b,hb,ht⟩;cases (show b=true from ht);obtain⟨j,hj,h⟩:=List.getElem_of_mem hb;have hi:j<its.length:=by omega
  exact⟨its[j],List.getElem_mem hi,zq2.mpr ⟨j,by simp[hi],by simp[hj,h]⟩⟩
theorem zyy{A:Around}{s:Shared}{x:Value}{its:List Value}{bs:List Bool}(hl:bs.length=its.length)(h:∀ (j:Nat) (u:Value) (b:Bool),its[j]?=some u->bs[j]?=some b->SeqAt.EqAt A s u x b)(w:Value)(hw:w∈its):SeqAt.EqAt A s w x (eOf its bs w):=by
 cases e:eOf its bs w with
 |true=>obtain⟨j,h1,h2⟩:=zq2.mp e;exact h j w true h1 h2
 |false=>
  obtain⟨j,hj,rfl⟩:=List.getElem_of_mem hw;have hb:j<bs.length:=by omega
  have hf:bs[j]=false:=by
   cases q:bs[j]with
   |false=>rfl
   |true=>exact absurd (zq2.mpr ⟨j,List.getElem?_eq_getElem hj,by rw[List.getElem?_eq_getElem hb,q]⟩) (by rw[e];decide)
  exact h j _ false (List.getElem?_eq_getElem hj) (by rw[List.getElem?_eq_getElem hb,hf])
section
variable{T:Tb}{X:Cx}
theorem zst(hK:T.K=X.K)(hu:X.A.units+9<cLine){pins:List (Addr × Obj)}{s:Shared}{st:St}{H:Hp}{μ:List Addr}{σ:Sto}(I:Inv X pins st H s)(r:Rel T μ H σ){x y:D}{v u:V}{v' u':Value}(hx:Rep T μ H x v)(hy:Rep T μ H y u)(rv:yk1 v v')(ru:yk1 u u')
  {xs:List D} {bs:List Bool} (e:yi9 σ y=some xs) (eb:ymb σ x xs=some bs) {Q:Value->Shared->Prop} :
  (Q (.bool (bs.any id)) s->wpAny (model X.prog X.w) X.A (compareOp .In v' u') Q X.xe s)/\(Q (.bool (!bs.any id)) s->wpAny (model X.prog X.w) X.A (compareOp .NotIn v' u') Q X.xe s):=by
 obtain⟨p,vs,rfl,h1,h2⟩:=zwf r hy e;rw[hK]at h2;obtain⟨lb,hb⟩:=zku eb;cases ru;have key:∀ {its:List Value},yla vs its->(bs.length=its.length/\∀ w∈its,SeqAt.EqAt X.A.in1 s w v' (eOf its bs w)):=fun {its} q=>by
  have l1:=h1.length;have l2:=q.length;have hl:bs.length=its.length:=by omega
  refine⟨hl,zyy hl fun j w b hw hbj=>?_⟩;obtain⟨z,e1,rz⟩:=zpc q hw;obtain⟨d,e2,rd⟩:=zn2 h1 e1;exact zy4 I r 7 X.A.in1 d x z v w v' b (by show X.A.units+1+7+1<cLine;omega) rd hx rz rv (hb j d b e2 hbj)
 rcases h2 with h2|h2
 ·obtain⟨its,q,pl,_⟩:=L2.Inv.list I h2;obtain⟨hl,k⟩:=key q;refine⟨fun hq=>SeqAt.in_listAt (eOf its bs) pl.isList (fun w hw=>k w (by simpa using hw)) ?_,fun hq=>SeqAt.notIn_listAt (eOf its bs) pl.isList (fun w hw=>k w (by simpa using hw)) ?_⟩<;>rw[zq1 hl]<;>exact hq
 ·obtain⟨its,q,pl,_⟩:=L2.Inv.tuple I h2;obtain⟨hl,k⟩:=key q;refine⟨fun hq=>SeqAt.in_tupleAt (eOf its bs) pl (fun w hw=>k w (by simpa using hw)) ?_,fun hq=>SeqAt.notIn_tupleAt (eOf its bs) pl (fun w hw=>k w (by simpa using hw)) ?_⟩<;>rw[zq1 hl]<;>exact hq
theorem yb9(hK:T.K=X.K)(hu:X.A.units+9<cLine):OpR X (compareOp .In) (rD T (ynh false)):=by
 intro pins s st H v u v' u' Q I rv ru h;obtain⟨E,μ,σ,x,y,r,hx,hy,hp⟩:=h;unfold ynh at hp;cases e:yi9 σ y with
 |none=>rw[e]at hp;exact hp.elim
 |some xs=>
  rw[e]at hp;dsimp only at hp;cases eb:ymb σ x xs with
  |none=>rw[eb]at hp;exact hp.elim
  |some bs=>
   rw[eb]at hp;exact(zst hK hu I r hx hy rv ru e eb).1 ⟨.bl (bs.any id),H,I,rfl,yky.here hp r (by rw[Rep];rfl)⟩
end
section
variable{T:Tb}{X:Cx}
end
section
variable{T:Tb}{X:Cx}{tg iter:Expr}{f:Ev->M D}
end
section
variable{T:Tb}{X:Cx}{o e:Expr}{es:List Expr}{f:Ev->M D}{fs:Ev->M (List D)}{name:Str}{apos cpos:Pos}{id:String}{r:V->List V->Hp->VK->Prop}{g:D->List D->M D}
end
section
variable{X:Cx}{pins:List (Addr × Obj)}{σ:St}{H:Hp}{s:Shared}{h':Heap}
theorem ztz{H:Hp}{a b:Addr}{u:HO}(e:H b=some u)(n:H a=none):b≠a:=fun z=>by rw[z,n]at e;cases e
theorem _root_.L2.Inv.turnL{t':Nat}{its:List Addr}{p:Addr}{o:HO}(I:Inv X pins σ H s)(k:∀ b u,b ∉ its->s.heap.get? b=some u->h'.get? b=some u)(hf:∀ b∈its,ykp X pins H b)(hp:s.heap.objs.size<=p)(new:ye1 X.prog X.w (upd H p o) h' p o) :
  Inv X pins σ (upd H p o) { s with heap:=h',toks:=t' }:=by
 have hn:H p=none:=I.hok.fresh hp;have nit:∀ b u,H b=some u->b ∉ its:=fun b u e z=>by rw[(hf b z).1]at e;cases e
 refine I.step (g':=s.gens) (d':=s.drawn) (ch:=its) (fun b hb=>?_) (fun b o _ _ hc e _=>k b o hc e) (fun b o _ _ hc e _=>⟨o.slots,k b o hc e⟩) (fun b u _ q n=>by rw[yep (Nat.ne_of_lt (Nat.lt_of_lt_of_le (Heap.lt_size q) hp))];exact n)
  (fun b o hc e=>⟨o,k b o hc e⟩) (fun b xs q=>by rw[yep (ztz q hn)];exact q) (fun b u xs q=>by rw[yep (ztz q hn)];exact q) (fun b ps q=>⟨#[],by rw[yep (ztz q hn),q];simp⟩) (fun m hm=>?_) (fun b u e=>?_) I.bare
 ·obtain⟨f0,f1,f2,f3,f4,f5⟩:=hf b hb;exact⟨f3,f1,f4,f5⟩
 ·obtain⟨o,es,ep,ho,r⟩:=hm;exact⟨o,es,ep,k _ o (fun z=>(hf _ z).2.1 rfl) ho,r⟩
 ·by_cases hb:b=p
  ·subst hb;rw[zo8]at e;cases e;exact new
  ·rw[yep hb]at e;refine(I.hok b u e).stay (fun c v hc q=>k c v ?_ q) (fun c q=>by rw[yep (ztz q hn)];exact q) fun c xs q=>by rw[yep (ztz q hn)];exact q
   rcases hc with z|z
   ·rw[z];exact nit b u e
   ·exact nit c _ z
theorem _root_.L2.Inv.turnN{t':Nat}{its:List Addr}(I:Inv X pins σ H s)(k:∀ b u,b ∉ its->s.heap.get? b=some u->h'.get? b=some u)(hf:∀ b∈its,ykp X pins H b):Inv X pins σ H { s with heap:=h',toks:=t' }:=by
 have nit:∀ b u,H b=some u->b ∉ its:=fun b u e z=>by rw[(hf b z).1]at e;cases e
 refine I.step (g':=s.gens) (d':=s.drawn) (ch:=its) (fun b hb=>?_) (fun b o _ _ hc e _=>k b o hc e) (fun b o _ _ hc e _=>⟨o.slots,k b o hc e⟩) (fun b u _ q n=>n)
  (fun b o hc e=>⟨o,k b o hc e⟩) (fun b xs q=>q) (fun b u xs q=>q) (fun b ps q=>⟨#[],by rw[q];simp⟩) (fun m hm=>?_) (fun b u e=>?_) I.bare
 ·obtain⟨f0,f1,f2,f3,f4,f5⟩:=hf b hb;exact⟨f3,f1,f4,f5⟩
 ·obtain⟨o,es,ep,ho,r⟩:=hm;exact⟨o,es,ep,k _ o (fun z=>(hf _ z).2.1 rfl) ho,r⟩
 ·refine(I.hok b u e).stay (fun c v hc q=>k c v ?_ q) (fun _ q=>q) fun _ _ q=>q;rcases hc with z|z
  ·rw[z];exact nit b u e
  ·exact nit c _ z
end
theorem zyl{h:Heap}{a b:Addr}{o o':Obj}{n n':String}(e:h.get? a=some o)(e':h.get? b=some o')(c:o.cls=.type n)(c':o'.cls=.type n')(hn:n≠n'):a≠b:=fun z=>by
 subst z;rw[e]at e';cases e';rw[c]at c';injection c' with q;exact hn q
def Ite(K:PySem.W.Frag)(l:Addr):It:=
 ⟨fun i H=>∃ xs x,SqL K H l xs/\xs[i]?=some x,fun i H v H'=>∃ p x,H p=none/\v=.ref p/\(∀ xs,SqL K H l xs->xs[i]?=some x)/\H'=upd H p (.tup [.int i,x]),fun i H=>∃ xs,SqL K H l xs/\i=xs.length⟩
def Itz(K:PySem.W.Frag)(l m:Addr):It:=
 ⟨fun i H=>∃ xs ys x y,SqL K H l xs/\SqL K H m ys/\xs[i]?=some x/\ys[i]?=some y,fun i H v H'=>∃ p x y,H p=none/\v=.ref p/\(∀ xs,SqL K H l xs->xs[i]?=some x)/\(∀ ys,SqL K H m ys->ys[i]?=some y)/\H'=upd H p (.tup [x,y]),
  fun i H=>∃ xs ys,SqL K H l xs/\SqL K H m ys/\i=min xs.length ys.length⟩
theorem zjb{P:Program}{w:World}{K:PySem.W.Frag}{elts:List Expr}{kk:Nat}{pos:Pos}(l e it:Addr):Turn P w K (.Tuple elts kk pos) (Ite K l) [e,it] e (fun i h=>(∃ old,IsEnum h e it i old)/\h.IsListIter it l i) where
 mem:=by simp
 obj:=fun i h st b hb=>by
  obtain⟨⟨old,s1⟩,o,s2,c,d⟩:=st;simp only[List.mem_cons,List.not_mem_nil,or_false]at hb;rcases hb with rfl|rfl
  ·exact⟨_,s1,fun v z=>by cases z⟩
  ·exact⟨o,s2,fun v z=>by rw[d]at z;cases z⟩
 keep:=fun i h h' st k=>by
  obtain⟨⟨old,s1⟩,s2⟩:=st;exact⟨⟨old,k e (by simp) _ s1⟩,s2.at fun o q=>k it (by simp) o q⟩
 item:=by
  intro X hP hw hK hc i pins s σ H E I hf st hg;subst hP hw hK;obtain⟨xs,x,hq,hx⟩:=hg;obtain⟨its,rv,p,hz⟩:=I.list hq;obtain⟨u,hu,ru⟩:=rv.get hx;obtain⟨⟨old,s1⟩,s2⟩:=st;obtain⟨oa,ea,ca,_⟩:=id p.isList;obtain⟨ob,eb,cb,_⟩:=id s2;have nle:l≠e:=zyl ea s1 ca rfl (by decide);have nli:l≠it:=zyl ea eb ca cb (by decide);have nei:e≠it:=zyl s1 eb rfl cb (by decide);have W:=WalksT.enumerate (prog:=X.prog) (w:=X.w) (A:=X.A) (I.ok.hd hc) e it l nei nle nli its.toArray;have hi:i<its.toArray.size:=by
   have:=(List.getElem?_eq_some_iff.mp hu).1;simpa using this
  refine W.item i s _ E hi ⟨⟨old,s1⟩,s2,p.isList⟩ fun T vals h' tk hPt hT hTup hMid hk=>?_;obtain⟨t,y,hy,rfl⟩:=hPt;have ey:y=u:=by
   have:its.toArray[i]?=some u:=by simpa using hu
   rw[this]at hy;cases hy;rfl
  subst ey;refine⟨.ref T,rfl,W.go elts kk pos i T { s with heap:=h',toks:=tk } _ E hMid fun h2 hS hk2=>?_⟩;have hap:=W.apart i T h' hMid;have hTup2:h2.IsTuple T #[.int i t,y]:=by
   obtain⟨o,e1,c1⟩:=hTup;exact⟨o,hk2 T o hap e1,c1⟩
  have hn:H T=none:=I.hok.fresh hT;refine⟨.ref T,upd H T (.tup [.int i,x]),I.turnL (o:=.tup [.int i,x]) (fun b o hb q=>hk2 b o hb (hk b o hb q)) hf hT ?_,rfl,⟨T,x,hn,rfl,fun ys hy=>by rw[I.list_inj hy hq];exact hx,rfl⟩,⟨hS.1,hS.2.1⟩,fun b hb=>?_⟩
  ·exact⟨(show (2:Nat)<=sizeLine by decide),[.int i t,y],.cons ⟨t,rfl⟩ (.cons ru .nil),hTup2⟩
  ·rw[yep (fun z=>hap (by rw[<-z];exact hb))];exact(hf b hb).1
 done:=by
  intro X hP hw hK hc i pins s σ H E I hf st hg;subst hP hw hK;obtain⟨xs,hq,hx⟩:=hg;obtain⟨its,rv,p,hz⟩:=I.list hq;obtain⟨⟨old,s1⟩,s2⟩:=st;have hl:=rv.length;exact wpAny_pyNext_enum_end (I.ok.hd hc) s1 s2 p.isList (by simp;omega) fun h' eb=>⟨rfl,I.turnN (t':=s.toks) (fun b o hb q=>eb b o (fun z=>hb (by simp[z])) q) hf⟩
 self:=fun A i s Q E st h=>by
  obtain⟨⟨old,s1⟩,s2⟩:=st;exact wpAny_pyIter_enum s1 h
theorem zjj{h:Heap}{l m z TI TO i1 i2:Addr}{k1 k2:Nat}{xs ys:Array Value}{a b c d:Value}{f:Value}(d1:TI≠TO)(d2:i1≠i2)(p1:h.IsList l xs)(p2:h.IsList m ys)(s1:IsZip h z TI TO f)(s2:IsPair h TI a b)(s3:IsPair h TO c d)(s4:h.IsListIter i1 l k1)(s5:h.IsListIter i2 m k2):ZipApart z TI TO i1 i2 l m:=by
 obtain⟨o1,e1,c1,_⟩:=p1;obtain⟨o2,e2,c2,_⟩:=p2;obtain⟨o4,e4,c4,_⟩:=s4;obtain⟨o5,e5,c5,_⟩:=s5;exact⟨zyl s2 s1 rfl rfl (by decide),zyl s3 s1 rfl rfl (by decide),zyl e4 s1 c4 rfl (by decide),zyl e5 s1 c5 rfl (by decide),d1,zyl s2 e4 rfl c4 (by decide),zyl s2 e5 rfl c5 (by decide),zyl s3 e4 rfl c4 (by decide),zyl s3 e5 rfl c5 (by decide),d2,
  zyl e1 s1 c1 rfl (by decide),zyl e1 s3 c1 rfl (by decide),zyl e1 e4 c1 c4 (by decide),zyl e1 e5 c1 c5 (by decide),zyl e2 s1 c2 rfl (by decide),zyl e2 s3 c2 rfl (by decide),zyl e2 e4 c2 c4 (by decide),zyl e2 e5 c2 c5 (by decide)⟩
theorem zo6{P:Program}{w:World}{K:PySem.W.Frag}{elts:List Expr}{kk:Nat}{pos:Pos}(l m z TI TO i1 i2:Addr)(d1:TI≠TO)(d2:i1≠i2) :
  Turn P w K (.Tuple elts kk pos) (Itz K l m) [z,TI,TO,i1,i2] z (fun i h=>IsZip h z TI TO .none/\IsPair h TI (.ref i1) (.ref i2)/\(∃ a b,IsPair h TO a b)/\h.IsListIter i1 l i/\h.IsListIter i2 m i) where
 mem:=by simp
 obj:=fun i h st b hb=>by
  obtain⟨s1,s2,⟨a,c,s3⟩,⟨o4,s4,c4,d4⟩,⟨o5,s5,c5,d5⟩⟩:=st;simp only[List.mem_cons,List.not_mem_nil,or_false]at hb;rcases hb with rfl|rfl|rfl|rfl|rfl
  ·exact⟨_,s1,fun v z=>by cases z⟩
  ·exact⟨_,s2,fun v z=>by cases z⟩
  ·exact⟨_,s3,fun v z=>by cases z⟩
  ·exact⟨o4,s4,fun v z=>by rw[d4]at z;cases z⟩
  ·exact⟨o5,s5,fun v z=>by rw[d5]at z;cases z⟩
 keep:=fun i h h' st k=>by
  obtain⟨s1,s2,⟨a,c,s3⟩,s4,s5⟩:=st;exact⟨k z (by simp) _ s1,k TI (by simp) _ s2,⟨a,c,k TO (by simp) _ s3⟩,s4.at fun o q=>k i1 (by simp) o q,s5.at fun o q=>k i2 (by simp) o q⟩
 item:=by
  intro X hP hw hK hc i pins s σ H E I hf st hg;subst hP hw hK;obtain⟨xs,ys,x,y,hq,hq2,hx,hy⟩:=hg;obtain⟨its,rv,p,hz⟩:=I.list hq;obtain⟨its2,rv2,p2,hz2⟩:=I.list hq2;obtain⟨u,hu,ru⟩:=rv.get hx;obtain⟨u2,hu2,ru2⟩:=rv2.get hy;obtain⟨s1,s2,⟨a,c,s3⟩,s4,s5⟩:=st;have D:=zjj d1 d2 p.isList p2.isList s1 s2 s3 s4 s5;have W:=WalksT.zip2 (prog:=X.prog) (w:=X.w) (A:=X.A) (I.ok.hd hc) z TI TO i1 i2 l m D its.toArray its2.toArray;have hi:i<min its.toArray.size its2.toArray.size:=by
   have h1:=(List.getElem?_eq_some_iff.mp hu).1;have h2:=(List.getElem?_eq_some_iff.mp hu2).1;simp;omega
  refine W.item i s _ E hi ⟨s1,s2,⟨a,c,s3⟩,s4,s5,p.isList,p2.isList⟩ fun T vals h' tk hPt hT hTup hMid hk=>?_;obtain⟨v1,v2,hv1,hv2,rfl⟩:=hPt;have e1:v1=u:=by
   have:its.toArray[i]?=some u:=by simpa using hu
   rw[this]at hv1;cases hv1;rfl
  have e2:v2=u2:=by
   have:its2.toArray[i]?=some u2:=by simpa using hu2
   rw[this]at hv2;cases hv2;rfl
  subst e1;subst e2;refine⟨.ref T,rfl,W.go elts kk pos i T { s with heap:=h',toks:=tk } _ E hMid fun h2 hS hk2=>?_⟩;have hap:=W.apart i T h' hMid;have hTup2:h2.IsTuple T #[v1,v2]:=by
   obtain⟨o,e1,c1⟩:=hTup;exact⟨o,hk2 T o hap e1,c1⟩
  have hn:H T=none:=I.hok.fresh hT;have sub:∀ b,b ∉ [z,TI,TO,i1,i2]->b ∉ [z,TO,i1,i2]:=fun b hb hm=>hb (by simp at hm ⊢;rcases hm with h|h|h|h<;>simp[h]);have ltT:∀ b∈[z,TI,TO,i1,i2],b<s.heap.objs.size:=fun b hb=>by
   simp only[List.mem_cons,List.not_mem_nil,or_false]at hb;rcases hb with rfl|rfl|rfl|rfl|rfl
   ·exact Heap.lt_size s1
   ·exact Heap.lt_size s2
   ·exact Heap.lt_size s3
   ·obtain⟨o,q,_⟩:=s4;exact Heap.lt_size q
   ·obtain⟨o,q,_⟩:=s5;exact Heap.lt_size q
  refine⟨.ref T,upd H T (.tup [x,y]),I.turnL (o:=.tup [x,y]) (fun b o hb q=>hk2 b o (sub b hb) (hk b o (sub b hb) q)) hf hT ?_,rfl,⟨T,x,y,hn,rfl,fun zs hz=>by rw[I.list_inj hz hq];exact hx,fun zs hz=>by rw[I.list_inj hz hq2];exact hy,rfl⟩,⟨hS.1,hS.2.1,hS.2.2.1,hS.2.2.2.1,hS.2.2.2.2.1⟩,fun b hb=>?_⟩
  ·exact⟨(show (2:Nat)<=sizeLine by decide),[v1,v2],.cons ru (.cons ru2 .nil),hTup2⟩
  ·rw[yep (Nat.ne_of_lt (Nat.lt_of_lt_of_le (ltT b hb) hT))];exact(hf b hb).1
 done:=by
  intro X hP hw hK hc i pins s σ H E I hf st hg;subst hP hw hK;obtain⟨xs,ys,hq,hq2,hx⟩:=hg;obtain⟨its,rv,p,hz⟩:=I.list hq;obtain⟨its2,rv2,p2,hz2⟩:=I.list hq2;obtain⟨s1,s2,⟨a,c,s3⟩,s4,s5⟩:=st;have D:=zjj d1 d2 p.isList p2.isList s1 s2 s3 s4 s5;have W:=WalksT.zip2 (prog:=X.prog) (w:=X.w) (A:=X.A) (I.ok.hd hc) z TI TO i1 i2 l m D its.toArray its2.toArray;have hl:=rv.length;have hl2:=rv2.length;have ei:i=min its.toArray.size its2.toArray.size:=by simp;omega
  subst ei;have sub:∀ b,b ∉ [z,TI,TO,i1,i2]->b ∉ [z,TO,i1,i2]:=fun b hb hm=>hb (by simp at hm ⊢;rcases hm with h|h|h|h<;>simp[h]);exact W.done s _ E ⟨s1,s2,⟨a,c,s3⟩,s4,s5,p.isList,p2.isList⟩ fun h' tk hk=>⟨rfl,I.turnN (t':=tk) (fun b o hb q=>hk b o (sub b hb) q) hf⟩
 self:=fun A i s Q E st h=>wpAny_pyIter_zip st.1 h
abbrev NX:=Nat->Sto->Option (Option D)
def yk6(T:Tb)(μ0:List Addr)(H0:Hp)(nx:NX)(J:It):Prop:=∀ μ H σ i,Ext μ0 H0 μ H->Rel T μ H σ->match nx i σ with
 |none=>True
 |some none=>J.stop i H
 |some (some d)=>J.go i H/\∀ x H',J.yld i H x H'->Ext μ H μ H'/\Rel T μ H' σ/\Rep T μ H' d x
def tIN(T:Tb)(X:Cx)(f:Ev->M NX):TI:=fun st H R=>∃ μ ρ σ,ykl T μ H ρ st/\Rel T μ H σ/\yky T (XE X st) (yk6 T) μ H (f ρ σ) R
abbrev FIN(T:Tb)(X:Cx)(tg iter:Expr)(f:Ev->M NX):Prop:=PI X tg iter (tIN T X f)
def yhe(nx:NX)(tg:D->Ev->Option Ev)(body:Ev->M Fl):Nat->Nat->Ev->M Fl
 |0,_,_=>bad
 |k+1,i,ρ=>fun σ=>match nx i σ with
  |none=>.bad
  |some none=>.ok (.nx ρ) σ
  |some (some d)=>match tg d ρ with
   |none=>.bad
   |some ρ1=>bnd (body ρ1) (yhc (yhe nx tg body k (i+1))) σ
def ygl(tg:D->Ev->Option Ev)(body:Ev->M Fl)(ρ:Ev)(nx:NX):M Fl:=yhe nx tg body 1001 0 ρ
def yi3(src:Ev->M NX)(tg:D->Ev->Option Ev)(body:Ev->M Fl):Ev->M Fl:=fun ρ=>xs ρ (src ρ) (ygl tg body ρ)
section
variable{T:Tb}{X:Cx}{tgt iter:Expr}{body:List Stmt}{src:Ev->M NX}{t:D->Ev->Option Ev}{g:Ev->M Fl}{pos:Pos}
theorem zr1(hp:PassesOwn (model X.prog X.w) X.A X.env X.xe)(hc:X.calm=true)(hi:FIN T X tgt iter src)(hg:FG T X tgt t)(hb:FSs T X body g)
  (hs:∀ x,foldedSetIterable iter X.env x=pure x:=by intro _;rfl):FS T X (.For tgt iter body [] pos) (yi3 src t g):=by
 intro pins s st H D I hq;refine yc6 hp hc hi hg hb hs pins s st H D I ?_;obtain⟨μ,ρ,σ,hE,hr,hp⟩:=hq;refine⟨μ,ρ,σ,hE,hr,hp.xs hE fun nx σ1 μ1 J H1 _ e1 r1 q1 p1=>?_⟩;have p1':yky T EN (RFl T) μ1 H1 (yhe nx t g 1001 0 ρ σ1) (ykm X D):=p1;refine⟨fun i m st2 H2=>∃ μ ρ σ,Ext μ1 H1 μ H2/\ykl T μ H2 ρ st2/\Rel T μ H2 σ/\yky T EN (RFl T) μ H2 (yhe nx t g m i ρ σ) (ykm X D),⟨1001,μ1,ρ,σ1,Ext.refl _ _,hE.mono e1,r1,p1'⟩,?_⟩;rintro i m st2 H2 ⟨μ2,ρ2,σ2,ex,hE2,r2,p2⟩;cases m with
 |zero=>exact p2.elim
 |succ m=>
  unfold yhe at p2;have so:=q1 μ2 H2 σ2 i ex r2;cases en:nx i σ2 with
  |none=>simp only[en]at p2;exact p2.elim
  |some o=>
   cases o with
   |none=>
    simp only[en]at p2 so;exact .inl ⟨so,yky.here (g:=Gl2.nx st2) p2 r2 hE2⟩
   |some d=>
    simp only[en]at p2 so;obtain⟨hgo,hy⟩:=so;refine .inr ⟨hgo,fun st3 H3=>∃ μ ρ σ,Ext μ1 H1 μ H3/\ykl T μ H3 ρ st3/\Rel T μ H3 σ/\yky T EN (RFl T) μ H3 (yhe nx t g m (i+1) ρ σ) (ykm X D),fun st3 H3 h=>⟨m,Nat.lt_succ_self _,h⟩,fun x H3 y=>?_⟩;obtain⟨ex3,r3,hx⟩:=hy x H3 y;cases ht:t d ρ2 with
    |none=>simp only[ht]at p2;exact p2.elim
    |some ρ3=>
     simp only[ht]at p2;exact⟨μ2,σ2,ρ2,d,ρ3,hE2.mono ex3,r3,hx,ht,fun st3 hE3=>⟨μ2,ρ3,σ2,hE3,r3,(yky.mono ex3 p2).bind fun fl σ4 μ4 gl H4 _ e4 r4 q4 p4=>zo5 r4 q4 p4 fun ρ5 st5 hE5 p5=>⟨μ4,ρ5,σ4,(ex.trans ex3).trans e4,hE5,r4,p5⟩⟩⟩
end
def nxE(a:D):NX:=fun i σ=>match ym3 σ a with
 |some xs=>(match xs[i]? with
  |some x=>some (some (.tup [.int (i:Int),x]))
  |none=>if i=xs.length then some none else none)
 |none=>none
def nxZ(a b:D):NX:=fun i σ=>match ym3 σ a with
 |some xs=>(match ym3 σ b with
  |some ys=>(match xs[i]? with
   |some x=>(match ys[i]? with
    |some y=>some (some (.tup [x,y]))
    |none=>if i=min xs.length ys.length then some none else none)
   |none=>if i=min xs.length ys.length then some none else none)
  |none=>none)
 |none=>none
def ykf(a b:D):M NX:=fun σ=>match ym3 σ a with
 |some _=>(match ym3 σ b with
  |some _=>.ok (nxZ a b) σ
  |none=>.bad)
 |none=>.bad
def yke(m:M D)(a:D):M NX:=bnd m (ykf a)
def yo0(f g:Ev->M D):Ev->M NX:=fun ρ=>bnd (f ρ) (yke (g ρ))
section
variable{T:Tb}{X:Cx}{elts:List Expr}{kk:Nat}{p0 p pos:Pos}{f g:Ev->M D}
theorem zx4:bootBuiltins "zip" = some (.type "zip"):=by decide +kernel
def yms(K:PySem.W.Frag)(ta:TA):TI:=fun σ H R=>ta σ H fun vs H1=>∃ l m xs ys,vs=[.ref l,.ref m]/\SqL K H1 l xs/\SqL K H1 m ys/\R (Itz K l m) H1
theorem ycy{a b:Expr}{ta:TA}(hg:Gl X "zip")(hm:X.mg "zip" = none)(ha:PA X [a,b] ta)(hs:starEach [a,b] X.env=[(false,eval a X.env),(false,eval b X.env)]:=by rfl)(hs2:starEach [b] X.env=[(false,eval b X.env)]:=by rfl):PI X (.Tuple elts kk p0) (.Call (.Name "zip" p) [a,b] [] pos) (yms X.K ta):=by
 intro pins s σ H R I h;refine Call_ (ybc I hg hm zx4 (PyProof.Rows.callWith_type1 (thn (ha pos pins s σ H _ I h) fun us s1 ⟨vs,H1,I1,r1,q1⟩=>?_) (by rw[hs,hs2]) (by rw[hs2];rfl)));obtain⟨l,m,xs,ys,e,hq,hq2,q⟩:=q1;subst e;cases r1 with
 |cons r rr=>
  cases rr with
  |cons r' rr=>
   cases rr;cases r;cases r';obtain⟨its,rv,pl,hz⟩:=I1.list hq;obtain⟨its2,rv2,pl2,hz2⟩:=I1.list hq2;refine call_zip_2 pl.isList pl2.isList fun h' a1 a2 a3 a4 a5 a6 a7=>wpAny_pyIter_zip a1 ?_;refine⟨s1.heap.objs.size+4,[s1.heap.objs.size+4,s1.heap.objs.size+2,s1.heap.objs.size+3,s1.heap.objs.size,s1.heap.objs.size+1],_,_,H1,rfl,I1.kept (t':=s1.toks) a7,zo6 l m (s1.heap.objs.size+4) (s1.heap.objs.size+2) (s1.heap.objs.size+3) s1.heap.objs.size (s1.heap.objs.size+1) (show (s1.heap.objs.size+2:Nat)≠s1.heap.objs.size+3 by omega) (show (s1.heap.objs.size:Nat)≠s1.heap.objs.size+1 by omega),⟨a1,a2,⟨_,_,a3⟩,a4,a5⟩,fun b hb=>?_,q⟩;have hb':s1.heap.objs.size<=b:=by simp at hb;rcases hb with rfl|rfl|rfl|rfl|rfl<;>omega
   exact I1.fpOk hb' (I1.hok.fresh hb')
theorem zzq{e e':Expr}(hg:Gl X "zip")(hm:X.mg "zip" = none)(h:FE T X e f)(h':FE T X e' g)(hs:starEach [e,e'] X.env=[(false,eval e X.env),(false,eval e' X.env)]:=by rfl)(hs2:starEach [e'] X.env=[(false,eval e' X.env)]:=by rfl) :
  FIN T X (.Tuple elts kk p0) (.Call (.Name "zip" p) [e,e'] [] pos) (yo0 f g):=by
 intro pins s st H R I hw;refine ycy hg hm (zur h (zur h' yci hs2) (by rw[hs,hs2])) hs hs2 pins s st H R I ?_;obtain⟨μ,ρ,σ,hE,hr,hp⟩:=hw;refine⟨μ,ρ,σ,hE,hr,hp.bind fun d σ1 μ1 v H1 _ e1 r1 q1 p1=>⟨μ1,ρ,σ1,hE.mono e1,r1,p1.bind fun d2 σ2 μ2 v2 H2 _ e2 r2 q2 p2=>?_⟩⟩;unfold ykf at p2;cases el:ym3 σ2 d with
 |none=>rw[el]at p2;exact p2.elim
 |some ds=>
  rw[el]at p2;dsimp only at p2;cases el2:ym3 σ2 d2 with
  |none=>rw[el2]at p2;exact p2.elim
  |some ds2=>
   rw[el2]at p2;have q1':=Rep.mono e2 _ _ q1;obtain⟨l,vs,rfl,h1,h2⟩:=r2.ls q1' el;obtain⟨m,ws,rfl,h3,h4⟩:=r2.ls q2 el2;refine⟨l,m,vs,ws,rfl,SqL.of h1,SqL.of h3,yky.here (R:=yk6 T) p2 r2 fun μ3 H3 σ3 i ex r3=>?_⟩;unfold nxZ;cases fl:ym3 σ3 d with
   |none=>trivial
   |some xs=>
    obtain⟨l',us,e',h5,h6⟩:=r3.ls (Rep.mono ex _ _ q1') fl;cases e';dsimp only;cases fl2:ym3 σ3 d2 with
    |none=>trivial
    |some ys=>
     obtain⟨m',us2,e',h7,h8⟩:=r3.ls (Rep.mono ex _ _ q2) fl2;cases e';have hq1:SqL X.K H3 l us:=SqL.of h5;have hq2:SqL X.K H3 m us2:=SqL.of h7;have l1:=h6.length;have l2:=h8.length;dsimp only;cases ei:xs[i]? with
     |none=>
      dsimp only;by_cases hi:i=min xs.length ys.length
      ·rw[if_pos hi];exact⟨us,us2,hq1,hq2,by rw[hi,l1,l2]⟩
      ·rw[if_neg hi];trivial
     |some d'=>
      dsimp only;cases ei2:ys[i]? with
      |none=>
       dsimp only;by_cases hi:i=min xs.length ys.length
       ·rw[if_pos hi];exact⟨us,us2,hq1,hq2,by rw[hi,l1,l2]⟩
       ·rw[if_neg hi];trivial
      |some d2'=>
       obtain⟨x,hx,rx⟩:=h6.get ei;obtain⟨y,hy,ry⟩:=h8.get ei2;refine⟨⟨us,us2,x,y,hq1,hq2,hx,hy⟩,fun z H' yy=>?_⟩;obtain⟨q,x',y',hn',rfl,hall,hall2,rfl⟩:=yy;have hx':=hall us hq1;rw[hx]at hx';cases hx';have hy':=hall2 us2 hq2;rw[hy]at hy';cases hy';refine⟨zq6 hn',r3.fresh hn',?_⟩;rw[Rep];exact⟨q,_,rfl,zo8,yk4.cons (Rep.mono (zq6 hn') _ _ rx) (yk4.cons (Rep.mono (zq6 hn') _ _ ry) yk4.nil)⟩
end
open PySem.Builtin.Str (occurrences partsBetween subAt)
def jl(g:List Nat):List (List Nat)->List Nat
 |[]=>[]
 |p::r=>p++r.flatMap fun q=>g++q
end L4
namespace L4
open PySem PySem.Spec PyProof.Rows L2
section
variable{T:Tb}{X:Cx}{a b c:Expr}{fa fb fc:Ev->M D}{pos:Pos}
end
section
variable{T:Tb}{X:Cx}
def OkB(T:Tb)(P:Program)(w:World)(mg:Str->Option Value)(base:Heap)(k:Nat)(f:Addr)(ps:List Str)(dv:List Value)(fn:List D->M D):Prop:=
 ∃ fd,yeu T.K fd ps []/\yeu T.K fd ps dv/\FnOk P w T.K mg base (CXE P w) k f fd ps (spF T ps.length fn)
structure HasMD(K:PySem.W.Frag)(C:Addr)(x qual:Str)(st:Stmt)(ps:List Str)(dv:List Value)(f:Addr):Prop where
 ex:∃ fd,(∃ (oc:Value) (od:Option Addr) (dV kV doc pm:Value) (an:Option Addr) (cdv ct:Value) (osl:Array (Option Value)),
  fd=PySem.W.fnOf x qual (zqs st) (zqt st) (zkd st) dV kV doc pm an cdv ct/\K.lookup f=some ⟨oc,od,.func fd,osl⟩/\PySem.W.codeIn K cdv qual=true)/\yeu K fd ps []/\yeu K fd ps dv
end
section
variable{P:Program}{w:World}{K:PySem.W.Frag}{mg:Str->Option Value}{base:Heap}{ca:Nat->Addr}{tx:Tx}
theorem OkB.hide{T:Tb}{k:Nat}{f:Addr}{ps:List Str}{dv:List Value}{fn:List D->M D}(h:OkB T P w mg base k f ps dv fn):OkB T P w mg base k f ps dv (L4.hide fn):=by rw[zsp];exact h
theorem OkB.frz{T:Tb}{k:Nat}{f:Addr}{ps:List Str}{dv:List Value}{fn:List D->M D}(h:OkB T P w mg base k f ps dv fn):OkB T P w mg base k f ps dv (fun ds=>L4.frz (fn ds)):=by
 obtain⟨fd,h1,h2,h3⟩:=h;exact⟨fd,h1,h2,zrr h3⟩
end
section
variable{T:Tb}{X:Cx}
end
section
variable{T:Tb}{X:Cx}
end
def zx0(ix:List Nat)(ρ:Ev):Ev:=none::none::ix.map fun i=>(ρ[i]?).getD none
def zx1(ix:List Nat)(st:St):St:=none::none::ix.map fun i=>(st[i]?).getD none
def yl4(src:Ev->M Src)(ix:List Nat)(tg:D->Ev->Option Ev)(fi:Ev->M Bool)(fe:Ev->M D):Ev->M D:=fun ρ=>bnd (src ρ) (lcK tg fi fe (zx0 ix ρ))
theorem zjv{T:Tb}{μ:List Addr}{H:Hp}{ρ:Ev}{st:St}(ix:List Nat)(h:ykl T μ H ρ st):ykl T μ H (zx0 ix ρ) (zx1 ix st):=by
 have q:=zp2 ix h;refine⟨by simp[zx0,zx1],fun i d e=>?_⟩;cases i with
 |zero=>simp[zx0]at e
 |succ j=>exact q.2 j d e
section
variable{X:Cx}{pins:List (Addr × Obj)}{st:St}{H:Hp}{s:Shared}{x z0:Str}{M':List Str}{ix:List Nat}{scope:Scope}{fp:List Addr}
theorem zey(I:Inv X pins st H s)(L:LcOk X x M' ix scope)(hfp:∀ b∈fp,ykp X pins H b/\b<s.heap.objs.size){h':Heap}{t':Nat}{m:Str->Option Value}(hns:h'.Ns s.heap.objs.size m)
  (hk:∀ b o,s.heap.get? b=some o->h'.get? b=some o) :
  Inv (blk X (x::z0::M') scope (ylu X.env scope.names []) s.heap.objs.size s H fp) [] (zx1 ix st) H { s with heap:=h',toks:=t' }:=by
 have sub:∀ n c,(ylu X.env scope.names []).lookup n=some c->X.env.cells.lookup n=some c:=fun n c e=>zyj X.env scope.names [] n c (fun _ _ q=>by simp at q) e;have cellLt:∀ n c,X.env.cells.lookup n=some c->c<s.heap.objs.size:=fun n c e=>by obtain⟨v,z⟩:=I.cell n c e;exact z.lt
 have fresh:H s.heap.objs.size=none:=I.hok.fresh (Nat.le_refl _);refine⟨⟨I.ok.mod,L.kind,I.ok.glob,I.ok.blt,Nat.le_refl _,fun a b c h1 h2=>I.ok.inj a b c (sub a c h1) (sub b c h2),fun a ha=>?_,fun a c h=>(by cases h),I.ok.hd,I.ok.frames,.inl rfl,fun b hb=>⟨Nat.ne_of_lt (hfp b hb).2,fun a c e=>?_⟩,fun b o e=>I.bs b o e,Nat.le_trans I.ok.bsz I.sz,fun b o e hb=>?_,fun b hb z=>?_,I.stack,I.stkFree⟩,
  rfl,I.bare,Un.kept hk,⟨m,hns,fun i y v e1 e2 e3=>?_⟩,fun a c e=>?_,fresh,fun a c e=>I.freeC a c (sub a c e),fun p hp=>absurd (show p∈([]:List (Addr × Obj))from hp) (by simp),I.hok.kept hk,?_⟩
 ·
  have ha':(scope.names.map fun(n,k)=>if (k == NameKind.free && X.env.scope.kind == .function && X.env.kindOf n == some .cell)then (n,NameKind.cell)else (n,k)).lookup a=some .cell\/(scope.names.map fun(n,k)=>if (k == NameKind.free && X.env.scope.kind == .function && X.env.kindOf n == some .cell)then (n,NameKind.cell)else (n,k)).lookup a=some .free:=ha;have hf:scope.names.lookup a=some .free:=by
   rcases ha' with z|z
   ·obtain⟨k0,h1,h2⟩:=zbm z;rcases h2 with h2|⟨h2,_⟩
    ·subst h2;exact absurd rfl (ybm L _ (zh2 h1))
    ·rw[h2]at h1;exact h1
   ·obtain⟨k0,h1,h2⟩:=zbm z;rcases h2 with h2|⟨_,h2⟩
    ·rw[<-h2]at h1;exact h1
    ·cases h2
  exact zyd X.env scope.names [] a (zh2 hf) (zqk I L _ (zh2 hf) rfl)
 ·exact(hfp b hb).1.2.2.2.2.1 a c (sub a c e)
 ·rcases(hfp b hb).1.2.2.2.1 with z|z
  ·exact I.ok.noex b o e z
  ·exact absurd (Nat.lt_of_lt_of_le (Heap.lt_size e) (Nat.le_trans I.ok.bsz z)) (Nat.lt_irrefl _)
 ·rcases List.mem_cons.mp (I.stkSub b z)with q|q
  ·exact(hfp b hb).1.2.1 q
  ·exact(hfp b hb).1.2.2.1 q
 ·
  cases i with
  |zero=>simp[zx1]at e2
  |succ i=>
  cases i with
  |zero=>simp[zx1]at e2
  |succ j=>
   have e1':M'[j]?=some y:=e1;have e2':(ix.map fun i=>(st[i]?).getD none)[j]?=some (some v):=e2;rw[List.getElem?_map]at e2';cases ej:ix[j]? with
   |none=>rw[ej]at e2';cases e2'
   |some i0=>
    rw[ej]at e2';have e4:(st[i0]?).getD none=some v:=Option.some.inj e2';have e5:st[i0]?=some (some v):=by
     cases q:st[i0]? with
     |none=>rw[q]at e4;cases e4
     |some o=>rw[q]at e4;exact congrArg some e4
    have e6:X.N[i0]?=some y:=by
     have z:=congrArg (fun l=>l[j]?) L.at_;simp only[List.getElem?_map,ej,e1',Option.map_some]at z;exact Option.some.inj z
    have q:=List.all_eq_true.mp L.vis y (List.mem_of_getElem? e1');simp only[Bool.and_eq_true,Bool.or_eq_true]at q;have kx:X.env.scope.names.lookup y=some .cell\/X.env.scope.names.lookup y=some .free:=by
     rcases q.1 with z|z
     ·exact .inl (eq_of_beq z)
     ·exact .inr (eq_of_beq z)
    have ky:scope.names.lookup y=some .free:=eq_of_beq q.2;obtain⟨m0,hn0,hl0⟩:=I.loc;obtain⟨u,ru,lu⟩:=hl0 i0 y v e6 e5 (by rcases kx with z|z;exact .inr (.inl z);exact .inr (.inr z));refine⟨u,ru,.inr ⟨zdf (env:=X.env) ky,?_⟩⟩;rcases lu with⟨z,_⟩|⟨_,c,ec,zc⟩
    ·rcases kx with k|k
     ·rw[show X.env.kindOf y=X.env.scope.names.lookup y from rfl,k]at z;cases z
     ·rw[show X.env.kindOf y=X.env.scope.names.lookup y from rfl,k]at z;cases z
    ·obtain⟨c',hc'⟩:=zyd X.env scope.names [] y (zh2 ky) (zqk I L _ (zh2 ky) rfl);have e7:=sub y c' hc';rw[ec]at e7;cases e7;obtain⟨o,ho,hd⟩:=zc;exact⟨c,hc',o,hk _ _ ho,hd⟩
 ·obtain⟨v,o,ho,hd⟩:=I.cell a c (sub a c e);exact⟨v,o,hk _ _ ho,hd⟩
 ·simp[zx1,blk];have z:=congrArg List.length L.at_;simpa using z
end
section
variable{T:Tb}{X:Cx}
end
def yo1(l:List Int):List Int:=l.mergeSort fun a b=>decide (a<=b)
theorem zi3(l:List Int):(yo1 l).Perm l:=List.mergeSort_perm l _
theorem zw4(l:List Int):(yo1 l).Pairwise (·<=·):=by
 have:=List.pairwise_mergeSort (le:=fun a b:Int=>decide (a<=b)) (fun a b c h1 h2=>by simp at *;omega) (fun a b=>by simp;omega) l;exact this.imp fun h=>by simpa using h
theorem zvh:∀ {l m:List Int},l.Perm m->l.Pairwise (·<=·)->m.Pairwise (·<=·)->l=m
 |[],m,h,_,_=>by rw[List.nil_perm]at h;exact h.symm
 |a::l,[],h,_,_=>by have:=h.length_eq;simp at this
 |a::l,b::m,h,h1,h2=>by
  rw[List.pairwise_cons]at h1 h2;have ha:a∈b::m:=h.subset List.mem_cons_self;have hb:b∈a::l:=h.symm.subset List.mem_cons_self;have e:a=b:=by
   rcases List.mem_cons.mp ha with e|ha
   ·exact e
   ·rcases List.mem_cons.mp hb with e|hb
    ·exact e.symm
    ·have:=h1.1 b hb;have:=h2.1 a ha;omega
  subst e;rw[zvh (List.Perm.cons_inv h) h1.2 h2.2]
section
variable{T:Tb}{X:Cx}
theorem znx{μ:List Addr}{H:Hp}:∀ is:List Int,yk4 T μ H (is.map D.int) (is.map V.int)
 |[]=>yk4.nil
 |i::is=>yk4.cons (by rw[Rep]) (znx is)
def apart(n:Nat):D->Bool
 | .ref m=>!(m == n)
 |_=>true
end
theorem zdw:bootBuiltins "sorted" = some (.builtin "sorted"):=by decide +kernel
theorem zjg:∀ {ks:List Key} {vs:List Value},vs.length=ks.length->(∀ (j:Nat) (v:Value) (k:Key),vs[j]?=some v->ks[j]?=some k->yk1 (kV k) v)->yla (ks.map kV) vs
 |[],[],_,_=>.nil
 |[],_::_,h,_=>by simp at h
 |_::_,[],h,_=>by simp at h
 |k::ks,v::vs,h,hv=>.cons (hv 0 v k rfl rfl) (zjg (by simpa using h) fun j v k e1 e2=>hv (j+1) v k e1 e2)
theorem zs6{P:Program}{w:World}{k:Key}{v:Value}(h:(ztt P w).is k v=true):yk1 (kV k) v:=by
 rw[zfn]at h;rcases zd6 h with⟨i,t,rfl,rfl⟩|⟨x,t,rfl,rfl⟩
 ·exact⟨t,rfl⟩
 ·exact⟨t,rfl⟩
theorem zs9:∀ {kvs:List (Key × V)} {ws:List (Key × Value)},KV kvs ws->ws.map (·.1)=kvs.map (·.1)
 |[],_,h=>by cases h;rfl
 |p::kvs,_,h=>by
  cases h with
  |cons q h=>simp only[List.map_cons];rw[zs9 h,q.1]
section
variable{T:Tb}{X:Cx}
def ymz:Key->D
 | .inl i=>.int i
 | .inr x=>.str x
def ybs(xs:List D):M D:=fun σ=>match xs with
 |[x]=>(match yl0 σ x with
  |some kvs=>if kvs.length<=cap then yho (kvs.map fun kv=>ymz kv.1) σ else .bad
  |none=>.bad)
 |_=>.bad
theorem zny{μ:List Addr}{H:Hp}:∀ {kvs:List (Key × D)} {us:List (Key × V)},yk3 T μ H kvs us->yk4 T μ H (kvs.map fun kv=>ymz kv.1) (us.map fun kv=>kV kv.1)
 |[],_,h=>by unfold yk3 at h;cases h;exact yk4.nil
 |p::kvs,_,h=>by
  unfold yk3 at h;cases h with
  |cons q h=>
   refine yk4.cons ?_ (zny h);dsimp only;rw[<-q.1];cases p.1<;>(unfold ymz kV;rw[Rep])
end
end L4
namespace L4
open PySem PySem.Spec PySem.Calls PySem.W PyProof.Rows PyProof.V
theorem zc2{prog:Program}{w:World}{A:Around}{E:Value->Shared->Prop}{s:Shared}{R:List Value->Shared->Prop}{Ty:String}{r d:Addr}{n:Nat}{P:Nat->Value->Prop}{OK:Heap->Prop}
  (K:KdlSrc prog w Ty r d n P OK) (hh:A.handled=none) (hok:OK s.heap) (hn:n<=sizeLine)
  (fin:∀ (h':Heap) (tk:Nat) (acc:Array Value),(∀ b o,s.heap.get? b=some o->h'.get? b=some o)->s.heap.objs.size<=h'.objs.size->ItemsOf P acc n->R acc.toList { s with heap:=h',toks:=tk }) :
  wpAny (model prog w) A (collect (.ref r)) R E s:=by
 have lt:=K.there _ hok;let S:Addr:=s.heap.objs.size;let Z:Result->Shared->Prop:=fun q s'=>∃ (h':Heap) (tk:Nat) (acc:Array Value) (c:Nat),q=.ok (.ret (.ref S))/\s'={ s with heap:=h',toks:=tk }/\(∀ b o,s.heap.get? b=some o->h'.get? b=some o)/\
  h'.get? S=some { cls:=.type "list",dict:=none,data:=.seq acc c,slots:=#[] }/\ItemsOf P acc n
 have close:∀ {h':Heap} {tk c:Nat} {acc:Array Value},(∀ b o,s.heap.get? b=some o->h'.get? b=some o)->h'.get? S=some { cls:=.type "list",dict:=none,data:=.seq acc c,slots:=#[] }->ItemsOf P acc n->R acc.toList { s with heap:=h',toks:=tk }:=
  fun kp g it=>fin _ _ _ kp (Nat.le_of_lt (Heap.lt_size g)) it
 have at0:(s.heap.push { cls:=.type "list",data:=.seq ([]:List Value).toArray }).get? S=some { cls:=.type "list",data:=.seq #[] }:=Heap.get?_push_size _ rfl;have run:=kdl_extend (A:=A) (s:={ s with heap:=s.heap.push { cls:=.type "list",data:=.seq ([]:List Value).toArray } }) (R:=Z) K hh (K.keep _ _ hok fun b _ o e=>Heap.get?_push_of_some _ e) S (Nat.ne_of_gt lt.1) (Nat.ne_of_gt lt.2) (.ref S) 0 at0
  (fun h' tk acc c kp g it=>⟨h',tk,acc,c,rfl,rfl,fun b o e=>kp b o (Nat.ne_of_lt (Heap.lt_size e)) (Heap.get?_push_of_some _ e),g,it⟩) hn
 unfold collect;refine wpAny_bind (wpAny_runValue (codeAny_builtin entry_proto_collect' ?_));rw[Around.under_plainId PySem.F.plain_proto_collect _];show wpAny _ A.in1 (newList [] >>= fun l=>again (.builtin "list.__iadd__" ⟨[l,.ref r],[]⟩)) _ _ s;refine wpAny_bind (wpAny_newObj_type (wpAny_pure ⟨plainId_quiet PySem.F.plain_list_iadd _,codeAny_builtin entry_list_iadd' ?_⟩));rw[Around.under_plainId PySem.F.plain_list_iadd _];show wpAny _ A.in1 (Builtin.List.listExtendWith (.ref S) (.ref r) (.ref S)) _ _ _;refine wpAny_mono run (fun f s' x=>?_) (fun e s' x=>by obtain⟨_,_,_,_,z,_⟩:=x;cases z);cases f with
 |done f=>
  obtain⟨h',tk,acc,c,e,rfl,kp,g,it⟩:=x;cases e;exact wpAny_bind (wpAny_load g (wpAny_pure (close kp g it)))
 |again c1=>
  refine⟨x.1,codeAny_mono x.2 fun q s2 y=>?_⟩;obtain⟨h',tk,acc,c,rfl,rfl,kp,g,it⟩:=y;exact wpAny_bind (wpAny_load g (wpAny_pure (close kp g it)))
end L4
namespace L4
open PySem PySem.Spec PyProof.Rows L2
theorem zhk:∀ {is:List Int} {vs:List Value},yla ((is.map (Sum.inl:Int->Key)).map kV) vs->IntsAre vs is
 |[],_,h=>by cases h;exact .nil
 |i::is,_,h=>by
  cases h with
  |cons q h=>
   obtain⟨t,rfl⟩:=q;exact .cons i t (zhk h)
section
variable{T:Tb}{X:Cx}
def yg7:List (Key × D)->Option (List Int)
 |[]=>some []
 |(.inl i,_)::r=>(yg7 r).map (i::·)
 |_::_=>none
theorem zhr{μ:List Addr}{H:Hp}:∀ {kvs:List (Key × D)} {us:List (Key × V)} {is:List Int},yk3 T μ H kvs us->yg7 kvs=some is->us.map (·.1)=is.map Sum.inl
 |[],_,is,h,e=>by unfold yk3 at h;cases h;cases e;rfl
 |(k,d)::kvs,_,is,h,e=>by
  unfold yk3 at h;cases h with
  |cons q h=>
   cases k with
   |inr x=>cases e
   |inl i=>
    unfold yg7 at e;cases ek:yg7 kvs with
    |none=>rw[ek]at e;cases e
    |some js=>
     rw[ek]at e;cases e;simp only[List.map_cons];rw[zhr h ek,<-q.1]
def znc(xs:List D):M D:=fun σ=>match xs with
 |[x]=>(match yl0 σ x with
  |some kvs=>(match yg7 kvs with
   |some is=>if is.length<64 then yho ((yo1 is).map D.int) σ else .bad
   |none=>.bad)
  |none=>.bad)
 |_=>.bad
end
section
variable{T:Tb}{X:Cx}
end
end L4
namespace L2
open PySem PySem.Spec PyProof.Rows
end L2
namespace L4
open PySem PySem.Spec PyProof.Rows L2
section
variable{T:Tb}{X:Cx}
inductive Dsp(T:Tb)(X:Cx):List (Option Expr)->List Expr->List Key->(Ev->M (List D))->Prop
 |nil:Dsp T X [] [] [] yle
 |cons {k v:Expr} {kk:Key} {f:Ev->M D} {ks:List (Option Expr)} {vs:List Expr} {kks:List Key} {fs:Ev->M (List D)} (hk:FE T X k (eC (ymz kk))) (hv:FE T X v f) (r:Dsp T X ks vs kks fs):Dsp T X (some k::ks) (v::vs) (kk::kks) (yfa f fs)
end
section
variable{T:Tb}{X:Cx}{pins:List (Addr × Obj)}{st:St}{H:Hp}{s:Shared}
variable{N':List Str}{scope:Scope}{cl:List (Str × Addr)}{H3:Hp}{s3:Shared}{fp:List Addr}{xe:Value->Shared->Prop}
end
section
variable{T:Tb}{X:Cx}
end
section
variable{ρ:Ev}{σ:Sto}
end
end L4
namespace L4
open PySem PySem.Spec PyProof.Rows L2 Builtin Builtin.Str
section
variable{T:Tb}{X:Cx}{a b e o:Expr}{fa fb f:Ev->M D}{pos apos cpos:Pos}
end
section
variable{ρ:Ev}{σ:Sto}
end
end L4
namespace L4
open PySem PySem.Spec PyProof.Rows L2
section
variable{T:Tb}{X:Cx}
end
section
variable{ρ:Ev}{σ:Sto}
end
section
variable{prog:Program}{w:World}{A:Around}{E:Value->Shared->Prop}{h:Heap}{g:Array GenState}{d:Drawn}{t:Nat}{os:OsState}
variable{nm qn:Str}{C N:Addr}{bs bm bmB:List Value}{hdct:Bool}{sn:List Str}{sub:List Value}{ab:Bool}{col:Option Bool}{dd:Option Addr}{k0 k1 k2 k3 k5:Option Value}{B newId initId:String}
end
section
variable{T:Tb}{X:Cx}{pins:List (Addr × Obj)}{st:St}{H:Hp}{s:Shared}
end
section
variable{X:Cx}
end
section
variable{prog:Program}{w:World}{A:Around}{E:Value->Shared->Prop}{h:Heap}{g:Array GenState}{d:Drawn}{t:Nat}{os:OsState}{K:PySem.W.Frag}
variable{nm qn:Str}{C N x:Addr}{bs bm bmB:List Value}{sn:List Str}{sub:List Value}{ab:Bool}{col:Option Bool}{dd:Option Addr}{k0 k1 k2 k3 k5:Option Value}{B newId sa owner:String}{name:Str}{v:Value}{o:Obj}{vs:Array Value}
end
section
variable{X:Cx}
end
section
variable{P:Program}{w:World}{K:PySem.W.Frag}{mg:Str->Option Value}{base:Heap}
end
section
variable{M:Model}{A:Around}{E:Value->Shared->Prop}{s:Shared}{env:Env}
variable{nm qn:Str}{C N:Addr}{bs bm:List Value}{hdct:Bool}{sn:List Str}{sub:List Value}{ab:Bool}{col:Option Bool}{dd:Option Addr}{k0 k1 k2 k3 k5:Option Value}{newId:String}
end
section
variable{T:Tb}{X:Cx}
end
end L4
namespace L4
open PySem PySem.Spec PySem.Calls PyProof.Rows PySem.Builtin PySem.Builtin.ObjectAttr L2
section
variable{prog:Program}{w:World}{A:Around}{E:Value->Shared->Prop}{s:Shared}{K:PySem.W.Frag}{C ea dN:Addr}{hp:Heap}{n:Nat}{Mo:Model}
end
section
variable{T:Tb}{X:Cx}
end
section
variable{ρ:Ev}{σ:Sto}
end
end L4
namespace HT
open PySem Builtin
open Sem (wp)
end HT
namespace L4
open PySem PySem.Spec PyProof.Rows L2
end L4
namespace L4
open PySem
def Ris(xs:Array Nat):Prop:=∀ i k:Nat,∀ a b:Nat,i<k->xs[i]?=some a->xs[k]?=some b->a<b
def Cut(xs:Array Nat)(j p:Nat):Prop:=p<=xs.size/\(∀ i a:Nat,i<p->xs[i]?=some a->a<j)/\∀ i a:Nat,p<=i->xs[i]?=some a->j<=a
theorem zjs{xs:Array Nat}(hr:Ris xs)(j:Nat):∀ (fuel lo hi:Nat),hi - lo<=fuel->lo<=hi->hi<=xs.size->(∀ i a:Nat,i<lo->xs[i]?=some a->a<j)->(∀ i a:Nat,hi<=i->xs[i]?=some a->j<=a)->Cut xs j (SetTable.below.go xs j fuel lo hi):=by
 intro fuel;induction fuel with
 |zero=>
  intro lo hi h1 h2 h3 h4 h5;have e:lo=hi:=by omega
  subst e;exact⟨h3,h4,h5⟩
 |succ f ih=>
  intro lo hi h1 h2 h3 h4 h5;unfold SetTable.below.go;by_cases hl:lo<hi
  ·rw[if_pos hl];dsimp only;have hm:(lo+hi) / 2<hi:=by omega
   have hm2:lo<=(lo+hi) / 2:=by omega
   have hs:(lo+hi) / 2<xs.size:=by omega
   have eg:xs[(lo+hi) / 2]?=some xs[(lo+hi) / 2]:=Array.getElem?_eq_getElem hs;have ed:xs.getD ((lo+hi) / 2) j=xs[(lo+hi) / 2]:=by simp[Array.getD,hs]
   rw[ed];by_cases hc:xs[(lo+hi) / 2]<j
   ·rw[if_pos hc];refine ih _ _ (by omega) (by omega) h3 (fun i a hi' ea=>?_) h5;by_cases e:i=(lo+hi) / 2
    ·subst e;rw[eg]at ea;cases ea;exact hc
    ·have:=hr i ((lo+hi) / 2) a _ (by omega) ea eg;omega
   ·rw[if_neg hc];refine ih _ _ (by omega) (by omega) (by omega) h4 (fun i a hi' ea=>?_);by_cases e:i=(lo+hi) / 2
    ·subst e;rw[eg]at ea;cases ea;omega
    ·have:=hr ((lo+hi) / 2) i _ a (by omega) eg ea;omega
  ·rw[if_neg hl];have e:lo=hi:=by omega
   subst e;exact⟨h3,h4,h5⟩
theorem zgj{xs:Array Nat}(hr:Ris xs)(j:Nat):Cut xs j (SetTable.below xs j):=by
 unfold SetTable.below;exact zjs hr j _ _ _ (by omega) (by omega) (Nat.le_refl _) (fun i a h=>by omega) (fun i a h ea=>by
  have:=(Array.getElem?_eq_some_iff.mp ea).1;omega)
theorem zc9{xs:Array Nat}{p x:Nat}(hp:p<=xs.size)(i:Nat):(SetTable.insertAt xs p x)[i]?=if i<p then xs[i]? else if i=p then some x else xs[i - 1]?:=by
 unfold SetTable.insertAt;have s1:(xs.extract 0 p).size=p:=by simp;omega
 rw[Array.getElem?_append,Array.size_push,s1];by_cases h1:i<p
 ·rw[if_pos (by omega),if_pos h1,Array.getElem?_push,if_neg (by rw[s1];omega),Array.getElem?_extract];simp;omega
 ·rw[if_neg h1];by_cases h2:i=p
  ·subst h2;rw[if_pos (by omega),if_pos rfl,Array.getElem?_push,if_pos (by rw[s1])]
  ·rw[if_neg (by omega),if_neg h2,Array.getElem?_extract];by_cases h3:i - 1<xs.size
   ·rw[if_pos (by omega)];congr 1;omega
   ·rw[if_neg (by omega),Array.getElem?_eq_none (by omega)]
theorem zfy{xs:Array Nat}{p x:Nat}(hr:Ris xs)(hc:Cut xs x p)(hn:¬ xs[p]?=some x):Ris (SetTable.insertAt xs p x):=by
 have ge:∀ i a:Nat,p<=i->xs[i]?=some a->x<a:=fun i a hi ea=>by
  have h1:=hc.2.2 i a hi ea;rcases Nat.lt_or_ge x a with h|h
  ·exact h
  ·have e:a=x:=by omega
   subst e;by_cases hip:i=p
   ·subst hip;exact absurd ea hn
   ·have hl:=(Array.getElem?_eq_some_iff.mp ea).1;have hp:p<xs.size:=by omega
    have e2:xs[p]?=some xs[p]:=Array.getElem?_eq_getElem hp;have:=hr p i _ _ (by omega) e2 ea;have:=hc.2.2 p _ (Nat.le_refl _) e2;omega
 intro i k a b hik ea eb;rw[zc9 hc.1]at ea eb;by_cases h1:i<p
 ·rw[if_pos h1]at ea;by_cases h2:k<p
  ·rw[if_pos h2]at eb;exact hr i k a b hik ea eb
  ·rw[if_neg h2]at eb;by_cases h3:k=p
   ·rw[if_pos h3]at eb;cases eb;exact hc.2.1 i a h1 ea
   ·rw[if_neg h3]at eb;exact hr i (k - 1) a b (by omega) ea eb
 ·rw[if_neg h1]at ea;have h2:¬ k<p:=by omega
  rw[if_neg h2,if_neg (by omega)]at eb;by_cases h3:i=p
  ·rw[if_pos h3]at ea;cases ea;exact ge (k - 1) b (by omega) eb
  ·rw[if_neg h3]at ea;exact hr (i - 1) (k - 1) a b (by omega) ea eb
structure TOk(b:Bool)(t:SetTable):Prop where
 led:t.led = !b
 ris:Ris t.place
 dum:t.dummies=#[]
theorem zso(j:Nat):SetTable.has #[] j=false:=by
 unfold SetTable.has;simp
theorem TOk.put{b:Bool}{t:SetTable}(h:TOk b t){j:Nat}(hn:¬ t.place[SetTable.below t.place j]?=some j):TOk b (t.put j).1:=by
 unfold SetTable.put;dsimp only;refine⟨h.led,zfy h.ris (zgj h.ris j) hn,?_⟩;rw[h.dum,zso];rfl
theorem TOk.plain{b p:Bool}{t:SetTable}(h:TOk b t):TOk b { t with plain:=p }:=⟨h.led,h.ris,h.dum⟩
theorem zio(n:Nat):Ris (Array.range n):=by
 intro i k a c hik ea ec;have l1:=(Array.getElem?_eq_some_iff.mp ea).1;have l2:=(Array.getElem?_eq_some_iff.mp ec).1;simp only[Array.size_range]at l1 l2;simp[l1]at ea;simp[l2]at ec;omega
theorem TOk.stand{b:Bool}{t:SetTable}(h:TOk b t)(n:Nat):TOk b (t.standIn n):=⟨h.led,zio n,rfl⟩
theorem TOk.or{b:Bool}{t:SetTable}(h:TOk b t)(n:Nat):TOk b (t.orStandIn n):=by
 unfold SetTable.orStandIn;split
 ·exact h
 ·exact h.stand n
theorem TOk.fresh(b:Bool):TOk b (SetTable.fresh 0 0 (!b)):=⟨rfl,fun i k a c _ ea _=>by simp[SetTable.fresh]at ea,rfl⟩
end L4
namespace L4
open PySem PySem.Spec PyProof.Rows
section
variable{prog:Program}{w:World}{K:Type}[DecidableEq K][BEq K][LawfulBEq K]{knd:KeyKind prog w K}{A:Around}{E:Value->Shared->Prop}{s:Shared}{b:Bool}{a:Addr}{k:K}{x:Value}
end
section
variable{prog:Program}{w:World}{A:Around}
variable{E:Value->Shared->Prop}{s:Shared}
end
section
variable{prog:Program}{w:World}{A:Around}{E:Value->Shared->Prop}{s:Shared}
set_option maxHeartbeats 3200000 in
end
def ye4(h:Heap)(a:Addr)(es:Array (Int × Value))(ep:Nat)(t:SetTable):Prop:=∃ o,h.get? a=some o/\o.ExactSet/\o.data=.set es ep t
def ykq(h:Heap)(I a:Addr)(first:Value)(i n ep:Nat):Prop:=∃ o,h.get? I=some o/\o.cls=.type "set_iterator"/\o.data=.fields #[first,rawInt i,.ref a,rawInt n,rawInt ep]
section
variable{prog:Program}{w:World}{A:Around}{E:Value->Shared->Prop}{s:Shared}{I a:Addr}{es:Array (Int × Value)}{ep:Nat}{t:SetTable}{i:Nat}
theorem ykq.ty{first:Value}{n:Nat}(h:ykq s.heap I a first i n ep):s.TypeIs (.ref I) "set_iterator":=let ⟨o,h1,h2,_⟩:=h;⟨o,h1,h2⟩
end
section
variable{prog:Program}{w:World}{A:Around}{E:Value->Shared->Prop}{s:Shared}{a:Addr}{es:Array (Int × Value)}{ep:Nat}{t:SetTable}{i:Nat}
end
section
variable{prog:Program}{w:World}{A:Around}{E:Value->Shared->Prop}{s:Shared}{I a p:Addr}{es:Array (Int × Value)}{ep:Nat}{t:SetTable}{i:Nat}
def ye9(h:Heap)(p:Addr)(ps:List Nat):Prop:=∃ o n,h.get? p=some o/\o.data=.seq (ps.map fun(i:Nat)=>rawInt i).toArray n
end
section
variable{prog:Program}{w:World}{A:Around}{I a p:Addr}{es:Array (Int × Value)}{ep:Nat}{t:SetTable}
theorem ykq.keep{h h':Heap}{first:Value}{i n:Nat}(x:ykq h I a first i n ep)(k:∀ o,h.get? I=some o->h'.get? I=some o):ykq h' I a first i n ep:=let ⟨o,e,r⟩:=x;⟨o,k o e,r⟩
theorem ye4.keep{h h':Heap}(x:ye4 h a es ep t)(k:∀ o,h.get? a=some o->h'.get? a=some o):ye4 h' a es ep t:=let ⟨o,e,r⟩:=x;⟨o,k o e,r⟩
theorem ye9.keep{h h':Heap}{ps:List Nat}(x:ye9 h p ps)(k:∀ o,h.get? p=some o->h'.get? p=some o):ye9 h' p ps:=let ⟨o,n,e,r⟩:=x;⟨o,n,k o e,r⟩
end
end L4
namespace L4
open PySem PySem.Spec PySem.Calls PySem.W PyProof.Rows PyProof.V
section
variable{prog:Program}{w:World}{A:Around}{E:Value->Shared->Prop}{s:Shared}{a:Addr}{es:Array (Int × Value)}{ep:Nat}{t:SetTable}
end
end L4
namespace L4
open PySem PySem.Spec PyProof.Rows L2
theorem zg4(ns:List Int):(ddp ns).Nodup:=by
 unfold ddp;have h:∀ (l acc:List Int),acc.Nodup->(l.foldl step_dedup acc).Nodup:=by
  intro l;induction l with
  |nil=>intro acc h;exact h
  |cons x l ih=>
   intro acc h;rw[List.foldl_cons];refine ih _ ?_;unfold step_dedup;split
   ·exact h
   ·rename_i hx
    rw[List.nodup_append];refine⟨h,by simp,fun a ha b hb=>?_⟩;rw[List.mem_singleton]at hb;intro e;subst e;subst hb;exact hx (List.any_eq_true.mpr ⟨_,ha,by simp⟩)
 exact h ns [] List.nodup_nil
section
variable{T:Tb}{X:Cx}
theorem zyo(ns:List Int):(ddp ns).length<=ns.length:=by rw[<-zg3];exact firstMet_length_le _ _
def rClear:V->List V->Hp->VK->Prop:=fun x xs H Q=>∃ (a:Addr) (kvs:List (Key × V)),x=.ref a/\xs=[]/\H a=some (.dK kvs)/\Q .non (upd H a (.dK []))
theorem mt_clear:MtR X "dict.clear" rClear:=by
 intro pins s st H x vs v us Q I rx rv h;obtain⟨a,kvs,rfl,rfl,hH,q⟩:=h;cases rx;cases rv;obtain⟨z,hd,ws,rel,dd⟩:=yfr I.hok hH;have hz:ws.length<=sizeLine:=by rw[<-rel.length];exact z
 refine call_meetsIn PySem.F.slot_dict_clear dd.typeIs PySem.F.entry_dict_clear (PySem.F.args_dict_clear_1 _) (meets_dict_clear (ztt X.prog X.w) a) ⟨ws,dd,hz,fun h' dd' hs=>?_⟩;have he:∃ q,h'.get? a=some q:=let ⟨q,_,_,hq,_⟩:=dd';⟨q,hq⟩;exact⟨.non,_,zqn I (by rw[hH];exact True.intro) hs he (zyq (by simp) hd .nil dd'),rfl,q⟩
def ybp(x:D)(xs:List D):M D:=fun σ=>match x,xs with
 | .ref n,[]=>(match σ[n]? with
  |some (.dic _)=>.ok .non (σ.set n (.dic []))
  |_=>.bad)
 |_,_=>.bad
theorem zi0:ye5 T rClear ybp:=by
 intro E μ H σ x xs v vs Q r p q h;cases x with
 |ref n=>
  match xs with
  |[]=>
   unfold ybp at h;dsimp only at h;cases es:σ[n]? with
   |none=>rw[es]at h;exact h.elim
   |some ob=>
    rw[es]at h;cases ob with
    |dic kvs=>
     dsimp only at h;obtain⟨a,rfl,hn,h2⟩:=r.at p es;obtain⟨us,h3,h4⟩:=h2;rw[yk4]at q;subst q;have ex:Ext μ H μ (upd H a (.dK [])):=zg7 (List.mem_of_getElem? hn) h3 (fun _ z=>by cases z) (fun _ _ z=>by cases z);have wr:=r.write (o:=.dK []) (ob:=.dic []) hn ⟨[],zo8,Paired.nil⟩;exact⟨a,us,rfl,rfl,h3,h μ .non _ wr.1 wr.2 (by rw[Rep])⟩
    |lst _=>exact h.elim
    |ins _ _=>exact h.elim
    |fdic _=>exact h.elim
  |_::_=>exact h.elim
 |_=>cases xs<;>exact h.elim
theorem zg9{o:Expr}{f:Ev->M D}{name:Str}{id:String}{r:V->List V->Hp->VK->Prop}{g:D->List D->M D}{apos cpos:Pos}(pa:PlainAttrs "dict")(slot:Slot "dict" name id)(hty:typeOf (.builtin id)=pure (.type "method_descriptor"))(hm:MtR X id r)(hs:ye5 T r g)(ho:FE T X o f)
  (hbase:attributeBase o name X.env (eval o X.env)=eval o X.env:=by rfl) (hline:(apos.endLine == cpos.line)=true:=by rfl):FE T X (.Call (.Attribute o name apos) [] [] cpos) (zyx g f yle):=by
 intro pins s st H Q I h;refine zuu pa slot hty hm ho hbase hline pins s st H Q I ?_;obtain⟨μ,ρ,σ,he,hr,hp⟩:=h;refine⟨μ,ρ,σ,he,hr,hp.bind fun x σ1 μ1 v H1 _ e1 r1 p1 q1=>?_⟩;unfold ybi at q1;cases el:yl0 σ1 x with
 |none=>rw[el]at q1;exact q1.elim
 |some xs=>
  rw[el]at q1;obtain⟨a,vs,rfl,h1,h2⟩:=ydj r1 p1 el;exact⟨⟨a,vs,rfl,h1⟩,hs _ μ1 H1 σ1 x [] (.ref a) [] Q r1 p1 yk4.nil q1⟩
def yhy(ds:List D):M D:=fun σ=>match ds with
 |[x]=>(match yl0 σ x with
  |some kvs=>.ok (.ref σ.length) (σ++[.dic kvs])
  |none=>.bad)
 |_=>.bad
theorem zon:zpj T yn3 yhy:=by
 intro E μ H σ ds vs Q r p h
 match ds with
 |[]=>exact h.elim
 |[x]=>
  unfold yhy at h;dsimp only at h;cases ed:yl0 σ x with
  |none=>rw[ed]at h;exact h.elim
  |some kvs=>
   rw[ed]at h;rw[yk4]at p;obtain⟨v,r',rfl,q1,q2⟩:=p;rw[yk4]at q2;subst q2;obtain⟨a,ws,rfl,h1,h2⟩:=ydj r q1 ed;refine⟨a,ws,rfl,h1,fun l hn=>?_⟩;exact h (μ++[l]) (.ref l) _ (zkw hn) (r.push hn ⟨ws,zo8,Paired.mapP h2 fun _ _ z=>⟨z.1,Rep.mono (zkw hn) _ _ z.2⟩⟩) (znz r)
 |_::_::_=>exact h.elim
end
section
variable{X:Cx}{pins:List (Addr × Obj)}{σ:St}{H:Hp}{s:Shared}
theorem _root_.L2.Inv.freeze{a:Addr}{kvs:List (Key × V)}{od:Obj}(I:Inv X pins σ H s)(hd:H a=some (.dK kvs))(e:s.heap.get? a=some od):Inv X pins σ (upd H a (.frz od (.dK kvs))) s:=by
 have ne:∀ b u,H b=some u->u≠.dK kvs->b≠a:=fun b u q n z=>by rw[z,hd]at q;exact n (Option.some.inj q).symm
 refine I.step (g':=s.gens) (d':=s.drawn) (t':=s.toks) (h':=s.heap) (ch:=[]) (fun _ z=>nomatch z) (fun b o _ _ _ q _=>q) (fun b o _ _ _ q _=>⟨o.slots,q⟩) (fun b o _ q n=>?_) (fun b o _ q=>⟨o,q⟩)
  (fun b xs q=>by rw[yep (ne b _ q (fun z=>by cases z))];exact q) (fun b u xs q=>by rw[yep (ne b _ q (fun z=>by cases z))];exact q) (fun b ps q=>⟨#[],by rw[yep (ne b _ q (fun z=>by cases z)),q];simp⟩) (fun m hm=>hm) (fun b u q=>?_) I.bare
 ·rw[yep (fun z=>by rw[z,hd]at n;cases n)];exact n
 ·by_cases hb:b=a
  ·subst hb;rw[zo8]at q;cases q;exact⟨e,I.hok b _ hd⟩
  ·rw[yep hb]at q;exact(I.hok b u q).stay (fun c v _ z=>z) (fun c z=>by rw[yep (ne c _ z (fun y=>by cases y))];exact z) fun c xs z=>by rw[yep (ne c _ z (fun y=>by cases y))];exact z
theorem zzx{a:Addr}{kvs:List (Key × V)}{od:Obj}(I:Inv X pins σ H s)(hd:H a=some (.frz od (.dK kvs))):∃ vs es ep,KV kvs vs/\od.data=.dict es ep/\s.heap.DictAt (ztt X.prog X.w) a vs ep:=by
 obtain⟨e,_,_,vs,rel,o,es,ep,e2,ex,dt,r⟩:=I.hok a _ hd;rw[e]at e2;cases e2;exact⟨vs,es,ep,rel,dt,od,es,e,ex,dt,r⟩
end
def Itm(d:Addr)(od:Obj)(kvs:List (Key × V)):It:=
 ⟨fun i H=>H d=some (.frz od (.dK kvs))/\∃ x,kvs[i]?=some x,fun i H v H'=>∃ p k x,H p=none/\v=.ref p/\kvs[i]?=some (k,x)/\H'=upd H p (.tup [kV k,x]),fun i H=>H d=some (.frz od (.dK kvs))/\i=kvs.length⟩
theorem ya2{κ:Type}:∀ {kvs:List (κ × V)} {vs:List (κ × Value)} (r:KV kvs vs) (i:Nat) {k:κ} {x:V},kvs[i]?=some (k,x)->∃ u,vs[i]?=some (k,u)/\yk1 x u
 |_,_,.nil,i,_,_,h=>by simp at h
 |_,_,.cons (b:=q) a b,0,k,x,h=>by
  simp only[List.getElem?_cons_zero,Option.some.injEq]at h;obtain⟨a1,a2⟩:=a;rw[h]at a1 a2;exact⟨q.2,by simp only[List.getElem?_cons_zero,Option.some.injEq];exact Prod.ext a1.symm rfl,a2⟩
 |_,_,.cons a b,i+1,k,x,h=>by
  simp only[List.getElem?_cons_succ]at h ⊢;exact ya2 b i h
theorem zmd{P:Program}{w:World}{k:Key}{v:Value}(h:(ztt P w).is k v=true):yk1 (kV k) v:=by
 rcases zd6 (k:=k) (v:=v) h with⟨i,t,rfl,rfl⟩|⟨x,t,rfl,rfl⟩
 ·exact⟨t,rfl⟩
 ·exact⟨t,rfl⟩
theorem zga{P:Program}{w:World}{K:PySem.W.Frag}{elts:List Expr}{kk:Nat}{pos:Pos}(d it:Addr)(od:Obj)(kvs:List (Key × V))(hne:d≠it){es:Array DictEntry}{ep:Nat}(hod:od.data=.dict es ep) :
  Turn P w K (.Tuple elts kk pos) (Itm d od kvs) [it] it (fun i h=>∃ ok ov,IsItemIter h it d i kvs.length ep ok ov) where
 mem:=by simp
 obj:=fun i h st b hb=>by
  obtain⟨ok,ov,s1⟩:=st;obtain rfl:b=it:=by simpa using hb
  exact⟨_,s1,fun v z=>by cases z⟩
 keep:=fun i h h' st k=>by
  obtain⟨ok,ov,s1⟩:=st;exact⟨ok,ov,k it (by simp) _ s1⟩
 item:=by
  intro X hP hw hK hc i pins s σ H E I hf st hg;subst hP hw hK;obtain⟨hd,⟨k,x⟩,hx⟩:=hg;obtain⟨vs,es',ep',rel,dt,hm⟩:=zzx I hd;rw[hod]at dt;cases dt;obtain⟨u,hu,ru⟩:=ya2 rel i hx;obtain⟨ok,ov,s1⟩:=st;rw[rel.length]at s1;refine wpAny_pyNext_items_item s1 hm hu fun key h' hkey ho hT hsz hk=>?_;have hTn:s.heap.objs.size≠it:=Nat.ne_of_gt (Heap.lt_size s1);refine⟨.ref s.heap.objs.size,rfl,wpAny_letOwnedTupleGo_items ho fun h2 hi2 hs2=>?_⟩;have hn:H s.heap.objs.size=none:=I.hok.fresh (Nat.le_refl _);have hT2:h2.get? s.heap.objs.size=some { cls:=.type "tuple",data:=.seq #[key,u] }:=hs2.extBut _ _ hTn hT;refine⟨.ref s.heap.objs.size,upd H s.heap.objs.size (.tup [kV k,x]),I.turnL (t':=s.toks) (o:=.tup [kV k,x]) (its:=[it]) (fun b o hb q=>hs2.extBut b o (fun z=>hb (by simp[z])) (hk b o (fun z=>hb (by simp[z])) q)) hf (Nat.le_refl _) ?_,rfl,⟨_,k,x,hn,rfl,hx,rfl⟩,⟨key,u,by rw[rel.length];exact hi2⟩,fun b hb=>?_⟩
  ·exact⟨(show (2:Nat)<=sizeLine by decide),[key,u],.cons (zmd hkey) (.cons ru .nil),⟨_,hT2,rfl,_,rfl⟩⟩
  ·obtain rfl:b=it:=by simpa using hb
   rw[yep (fun z=>hTn z.symm)];exact(hf b hb).1
 done:=by
  intro X hP hw hK hc i pins s σ H E I hf st hg;subst hP hw hK;obtain⟨hd,hi⟩:=hg;obtain⟨vs,es',ep',rel,dt,hm⟩:=zzx I hd;rw[hod]at dt;cases dt;obtain⟨ok,ov,s1⟩:=st;rw[rel.length]at s1 hi;exact wpAny_pyNext_items_end (I.ok.hd hc) s1 hm (by rw[hi];simp) fun h' eb=>⟨rfl,I.turnN (t':=s.toks) (its:=[it]) (fun b o hb q=>eb b o (fun z=>hb (by simp[z])) q) hf⟩
 self:=fun A i s Q E st h=>by
  obtain⟨ok,ov,s1⟩:=st;exact PySem.W.kcp_self s1 h
def ylc(l a:Addr):Heap->Prop:=fun h=>h.IsItemsView l a
def yde:V->List V->Hp->VK->Prop:=fun x xs H Q=>∃ a kvs,x=.ref a/\xs=[]/\Rd H a (.dK kvs)/\∀ l,H l=none->Q (.ref l) (upd H l (.ext (ylc l a)))
theorem zxf{H:Hp}{a:Addr}{o:HO}(h:H a=some o):upd H a o=H:=by
 funext b;unfold upd;split
 ·next e=>rw[e,h]
 ·rfl
theorem zlw(h:Heap)(o:Obj)(hf:o.data≠.freed):(h.push o).get? h.objs.size=some o:=by
 obtain⟨c,d,x,sl⟩:=o;simp[Heap.get?,Heap.push];cases x<;>first|rfl|exact absurd rfl hf
section
variable{T:Tb}{X:Cx}{elts:List Expr}{kk:Nat}{p0:Pos}
theorem zmv:MtR X "dict.items" yde:=by
 intro pins s st H x vs v us Q I rx rv h;obtain⟨a,kvs,rfl,rfl,hH,q⟩:=h;cases rx;cases rv;obtain⟨z,hd,ws,rel,dd⟩:=yfs I.hok hH;refine call_meetsIn PySem.F.slot_dict_items dd.typeIs PySem.F.entry_dict_items (PySem.F.args_dict_items_1 _) (meets_dict_items (ztt X.prog X.w) a hd) ⟨⟨ws,dd⟩,?_⟩;refine⟨.ref s.heap.objs.size,_,I.laid (t':=s.toks) (o:=.ext (ylc s.heap.objs.size a)) (fun b o e=>Heap.get?_push_of_some _ e) (Nat.le_refl _) ?_,rfl,q _ (I.hok.fresh (Nat.le_refl _))⟩;refine⟨⟨_,zlw _ _ (fun z=>by cases z),rfl,rfl⟩,⟨_,zlw _ _ (fun z=>by cases z)⟩,fun h1 h2 p k=>?_⟩;obtain⟨o,e,c⟩:=p;exact⟨o,k o e,c⟩
def yai(te:TE):TI:=fun σ H R=>te σ H fun v H1=>∃ l a kvs,v=.ref l/\H1 l=some (.ext (ylc l a))/\Rd H1 a (.dK kvs)/\∀ od,H1 a=some (.dK kvs)\/H1 a=some (.frz od (.dK kvs))->R (Itm a od kvs) (upd H1 a (.frz od (.dK kvs)))
theorem znl{iter:Expr}{te:TE}(he:PE X iter te):PI X (.Tuple elts kk p0) iter (yai te):=by
 intro pins s σ H R I h;refine thn (he pins s σ H _ I h) fun v s1 ⟨x,H1,I1,r1,q1⟩=>?_;obtain⟨l,a,kvs,rfl,hl,hk,q⟩:=q1;cases r1;obtain⟨od,hod,I2⟩:∃ od,(H1 a=some (.dK kvs)\/H1 a=some (.frz od (.dK kvs)))/\Inv X pins σ (upd H1 a (.frz od (.dK kvs))) s1:=by
  rcases hk with hk|⟨od,hk⟩
  ·obtain⟨_,_,vs,rel,o,es,ep,e,_⟩:=I1.hok a _ hk;exact⟨o,.inl hk,I1.freeze hk e⟩
  ·exact⟨od,.inr hk,by rw[zxf hk];exact I1⟩
 obtain⟨vs,es,ep,rel,dt,hm⟩:=zzx I2 zo8;have hv:s1.heap.IsItemsView l a:=(I1.hok l _ hl).1;have hne:a≠s1.heap.objs.size:=Nat.ne_of_lt hm.lt_size;refine wpAny_pyIter_items hv hm ?_;refine⟨s1.heap.objs.size,[s1.heap.objs.size],_,Itm a od kvs,_,rfl,I2.kept (t':=s1.toks) (fun b o e=>Heap.get?_push_of_some _ e),zga a _ od kvs hne dt,⟨.none,.none,by rw[rel.length];exact zlw _ _ (fun z=>by cases z)⟩,fun b hb=>?_,q od hod⟩;obtain rfl:b=s1.heap.objs.size:=by simpa using hb
 exact I2.fpOk (Nat.le_refl _) (I2.hok.fresh (Nat.le_refl _))
def nxI(kv:List (Key × D)):NX:=fun i _=>match kv[i]? with
 |some p=>some (some (.tup [ymz p.1,p.2]))
 |none=>if i=kv.length then some none else none
def yg0(d:D):M NX:=fun σ=>match d with
 | .dic ks xs=>if ks.length=xs.length then .ok (nxI (ks.zip xs)) σ else .bad
 |_=>.bad
def yox(f:Ev->M D):Ev->M NX:=fun ρ=>bnd (f ρ) yg0
theorem zs5{μ:List Addr}{H:Hp}(k:Key):Rep T μ H (ymz k) (kV k):=by
 cases k<;>(unfold ymz kV;rw[Rep])
theorem zq5{μ:List Addr}{H:Hp}{a:Addr}{od:Obj}{kvs:List (Key × V)}(hk:H a=some (.dK kvs)):Ext μ H μ (upd H a (.frz od (.dK kvs))):=by
 have ne:∀ b u,H b=some u->u≠.dK kvs->b≠a:=fun b u q n z=>by rw[z,hk]at q;exact n (Option.some.inj q).symm
 refine⟨⟨[],by simp⟩,fun p xs h=>by rw[yep (ne p _ h (fun z=>by cases z))];exact h,fun p o u h=>by rw[yep (ne p _ h (fun z=>by cases z))];exact h,fun p o h n=>⟨?_,n⟩⟩;by_cases e:p=a
 ·subst e;rw[hk]at h;cases h;exact⟨_,zo8,.inr (.inl ⟨od,kvs,rfl,rfl⟩)⟩
 ·exact⟨o,by rw[yep e];exact h,.inl rfl⟩
theorem zfs{α β:Type}{R:α->β->Prop}:∀ {xs:List α} {ys:List β},Paired R xs ys->∀ (i:Nat) {x:α},xs[i]?=some x->∃ y,ys[i]?=some y/\R x y
 |_,_,.nil,i,_,h=>by simp at h
 |_,_,.cons a b,0,x,h=>by
  simp only[List.getElem?_cons_zero,Option.some.injEq]at h ⊢;subst h;exact⟨_,rfl,a⟩
 |_,_,.cons a b,i+1,x,h=>by
  simp only[List.getElem?_cons_succ]at h ⊢;exact zfs b i h
theorem zk4{e:Expr}{f:Ev->M D}{apos cpos:Pos}(h:FE T X e f)(hbase:attributeBase e "items" X.env (eval e X.env)=eval e X.env:=by rfl)(hline:(apos.endLine == cpos.line)=true:=by rfl) :
  FIN T X (.Tuple elts kk p0) (.Call (.Attribute e "items" apos) [] [] cpos) (yox f):=by
 intro pins s st H R I hw;refine znl (zuu PySem.F.plainAttrs_dict PySem.F.slot_dict_items PySem.F.type_dict_items zmv h hbase hline) pins s st H R I ?_;obtain⟨μ,ρ,σ,hE,hr,hp⟩:=hw;refine⟨μ,ρ,σ,hE,hr,hp.bind fun d σ1 μ1 v H1 _ e1 r1 q1 p1=>?_⟩;unfold yg0 at p1;cases d with
 |dic ks xs=>
  dsimp only at p1;by_cases hl:ks.length=xs.length
  ·rw[if_pos hl]at p1;rw[Rep]at q1;obtain⟨a,kvs,rfl,hn,hk,hks,hxs⟩:=q1;refine⟨⟨a,kvs,rfl,hk⟩,a,kvs,rfl,rfl,hk,fun l hln=>?_⟩;have nal:a≠l:=by rcases hk with hk|⟨_,hk⟩<;>exact zfo hk hln
   have hk1:Rd (upd H1 l (.ext (ylc l a))) a (.dK kvs):=by unfold Rd;rw[yep nal];exact hk
   refine⟨l,a,kvs,rfl,zo8,hk1,fun od ho=>?_⟩;have x1:Ext μ1 H1 μ1 (upd H1 l (.ext (ylc l a))):=zq6 hln;have rr1:Rel T μ1 (upd H1 l (.ext (ylc l a))) σ1:=r1.fresh hln;obtain⟨x2,rr2⟩:Ext μ1 H1 μ1 (upd (upd H1 l (.ext (ylc l a))) a (.frz od (.dK kvs)))/\Rel T μ1 (upd (upd H1 l (.ext (ylc l a))) a (.frz od (.dK kvs))) σ1:=by
    rcases ho with ho|ho
    ·have y:=zq5 (μ:=μ1) (od:=od) ho;exact⟨x1.trans y,rr1.keep y (fun b hb=>yep (fun z=>hn (by rw[<-z];exact hb))) (rr1.tb.out (fun b hb=>yep hb) (.inr ⟨_,ho⟩))⟩
    ·rw[zxf ho];exact⟨x1,rr1⟩
   have h3:upd (upd H1 l (.ext (ylc l a))) a (.frz od (.dK kvs)) a=some (.frz od (.dK kvs)):=zo8;generalize upd (upd H1 l (.ext (ylc l a))) a (.frz od (.dK kvs))=H3 at *;refine yky.here (R:=yk6 T) (yky.mono x2 p1) rr2 fun μ2 H2 σ2 i ex r2=>?_;have hf:H2 a=some (.frz od (.dK kvs)):=ex.frz _ _ _ h3;have hrk:yk3 T μ2 H2 (ks.zip xs) kvs:=yk3.mono (x2.trans ex) (zn1 hks hxs);unfold nxI;cases ei:(ks.zip xs)[i]? with
   |none=>
    dsimp only;by_cases hi:i=(ks.zip xs).length
    ·rw[if_pos hi];exact⟨hf,by rw[hi];exact Paired.length hrk⟩
    ·rw[if_neg hi];trivial
   |some p=>
    obtain⟨q,hq,hpq,rx⟩:=zfs hrk i ei;refine⟨⟨hf,q,hq⟩,fun z H' y=>?_⟩;obtain⟨r,k',x',hn',rfl,hkx,rfl⟩:=y;rw[hq]at hkx;cases hkx;dsimp only at hpq rx;refine⟨zq6 hn',r2.fresh hn',?_⟩;rw[Rep,hpq];exact⟨r,_,rfl,zo8,yk4.cons (zs5 _) (yk4.cons (Rep.mono (zq6 hn') _ _ rx) yk4.nil)⟩
  ·rw[if_neg hl]at p1;exact p1.elim
 |_=>exact p1.elim
end
def ztd(nx:NX)(n:Nat)(tg:D->Ev->Option Ev)(fi:Ev->M Bool)(fe:Ev->M D):Nat->Nat->Ev->M Unit
 |0,_,_=>bad
 |k+1,i,ρ=>fun σ=>match nx i σ with
  |none=>.bad
  |some none=>.ok () σ
  |some (some d)=>match tg d ρ with
   |none=>.bad
   |some ρ1=>bnd (nox (fi ρ1)) (fun c=>if c=true then bnd (nox (fe ρ1)) fun y=>bnd (zt5 (.ref n) [y]) fun _=>ztd nx n tg fi fe k (i+1) ρ1 else ztd nx n tg fi fe k (i+1) ρ1) σ
def ym1(tg:D->Ev->Option Ev)(fi:Ev->M Bool)(fe:Ev->M D)(ρ:Ev)(nx:NX):M D:=fun σ=>
 bnd (ztd nx σ.length tg fi fe 1001 0 ρ) (fun _=>ret (.ref σ.length)) (σ++[.lst []])
def yl5(src:Ev->M NX)(ix:List Nat)(tg:D->Ev->Option Ev)(fi:Ev->M Bool)(fe:Ev->M D):Ev->M D:=fun ρ=>bnd (src ρ) (ym1 tg fi fe (zx0 ix ρ))
section
variable{T:Tb}{X:Cx}
theorem zmi{E:XK}{elt iter tgt:Expr}{ifs:List Expr}{scope:Scope}{pos:Pos}{x z0:Str}{M':List Str}{ix:List Nat}{tg:D->Ev->Option Ev}{fi:Ev->M Bool}{fe:Ev->M D}
  {pins:List (Addr × Obj)} {st:St} {H3:Hp} {s3:Shared} {h₁:Heap} {t':Nat} {m:Str->Option Value} {fp:List Addr} {it D0:Addr} {tn:Nat->Heap->Prop} {J:It} {nx:NX} {μ3:List Addr} {σ3:Sto} {ρ:Ev} {n:Nat} {Q:VK}
  (hc:X.calm=true) (L:LcOk X x M' ix scope)
  (htg:∀ cl C s₀ H₀ ex,FG T (blk X (x::z0::M') scope cl C s₀ H₀ ex) tgt tg)
  (hif:∀ cl C s₀ H₀ ex,FIf T (blk X (x::z0::M') scope cl C s₀ H₀ ex) ifs fi)
  (helt:∀ cl C s₀ H₀ ex,FE T (blk X (x::z0::M') scope cl C s₀ H₀ ex) elt fe)
  (I3:Inv X pins st H3 s3) (hfp:∀ b∈fp,ykp X pins H3 b/\b<s3.heap.objs.size) (hns:h₁.Ns s3.heap.objs.size m) (kp:∀ b o,s3.heap.get? b=some o->h₁.get? b=some o)
  (TT:Turn X.prog X.w X.K tgt J fp it tn) (hst4:tn 0 h₁) (so:yk6 T μ3 H3 nx J) (hE:ykl T μ3 H3 ρ st) (r3:Rel T μ3 H3 σ3) (hn:μ3[n]?=some D0)
  (p3:yky T E (Rep T) μ3 H3 (bnd (ztd nx n tg fi fe 1001 0 (zx0 ix ρ)) (fun _=>ret (.ref n)) σ3) Q) {RR:Result->Shared->Prop}
  (fin:∀ (s6:Shared) (H':Hp) (m6:Str->Option Value),s6.heap.Ns s3.heap.objs.size m6->H' s3.heap.objs.size=none->Un (frs X.stack) fp H3 H' s3.heap s6.heap->s6.os=s3.os->HOk X.prog X.w H' s6.heap->AllBare s6.gens->Q (.ref D0) H'->RR (.ok .next) s6) :
  codeAny (model X.prog X.w) X.A (.compStart (.ListComp elt [⟨tgt,iter,ifs,0⟩] scope pos) 0 (.ref it) (.ref D0) (compEnvC scope (ylu X.env scope.names []) s3.heap.objs.size X.env))
   RR { s3 with heap:=h₁,toks:=t' }:=by
 have I4:=zey (z0:=z0) (h':=h₁) (t':=t') I3 L hfp hns kp;let Y:Cx:=blk X (x::z0::M') scope (ylu X.env scope.names []) s3.heap.objs.size s3 H3 fp;have stat:∀ {H':Hp},(∀ b∈fp,H' b=none)->∀ b∈fp,ykp Y [] H' b:=fun {H'} hn b hb=>⟨hn b hb,(I4.ok.exf b hb).1,I4.ok.exfs b hb,.inl hb,(I4.ok.exf b hb).2,fun p hp=>absurd (show p∈([]:List (Addr × Obj))from hp) (by simp)⟩
 have ym2:codeAny (model X.prog X.w) X.A (.compLoop (.ListComp elt [⟨tgt,iter,ifs,0⟩] scope pos) 0 (.ref it) (.ref D0) Y.env) RR { s3 with heap:=h₁,toks:=t' }:=by
  refine codeAny_loop rfl (fun k s'=>∃ i μ' H' σ' ρ' st',Inv Y [] st' H' s'/\tn i s'.heap/\(∀ b∈fp,H' b=none)/\Ext μ3 H3 μ' H'/\ykl T μ' H' ρ' st'/\Rel T μ' H' σ'/\
   yky T E (Rep T) μ' H' (bnd (ztd nx n tg fi fe k i ρ') (fun _=>ret (.ref n)) σ') Q) ?_ 1001 ⟨0,μ3,H3,σ3,zx0 ix ρ,zx1 ix st,I4,hst4,fun b hb=>(hfp b hb).1.1,Ext.refl _ _,zjv ix hE,r3,p3⟩
  rintro k s' ⟨i,μ',H',σ',ρ',st',I',tn',fr',ex',hE',r',p'⟩;show wpAny _ X.A ((compTurn (.ListComp elt [⟨tgt,iter,ifs,0⟩] scope pos) 0 (.ref it) (.ref D0) Y.env).onRaise (fun x=>do noteFrame x Y.env;theTreesLotGoes x)) _ _ s';refine wpAny_noted ?_;rw[compTurn_list];refine wpAny_mono (E:=fun _ _=>False) ?_ (fun _ _ z=>z) (fun _ _ z=>z.elim);refine wpAny_bind (wpAny_standAt ?_);cases k with
  |zero=>exact p'.elim
  |succ k=>
   have so':=so μ' H' σ' i ex' r';cases en:nx i σ' with
   |none=>
    have e1:ztd nx n tg fi fe (k+1) i ρ' σ'=.bad:=by unfold ztd;simp only[en]
    rw[zgq (m':=bad) e1]at p';exact p'.elim
   |some od=>
    rw[en]at so';cases od with
    |none=>
     have e1:ztd nx n tg fi fe (k+1) i ρ' σ'=.ok () σ':=by unfold ztd;simp only[en]
     rw[zgq (m':=ret ()) e1]at p';refine wpAny_bind (thn (TT.done Y rfl rfl rfl hc i [] s' st' H' (fun _ _=>False) I' (stat fr') tn' so') fun r s6 ⟨er,I6⟩=>?_);subst er;refine wpAny_pure ?_;obtain⟨m6,hm6,_⟩:=I6.loc;exact fin s6 H' m6 hm6 I6.free I6.base I6.os I6.hok I6.bare (yky.here p' r' (by rw[Rep];exact⟨_,rfl,ex'.get hn⟩))
    |some d=>
     refine wpAny_bind (thn (TT.item Y rfl rfl rfl hc i [] s' st' H' (fun _ _=>False) I' (stat fr') tn' so'.1) fun r s6 ⟨u,er,h6⟩=>?_);subst er;refine wpAny_bind (thn h6 fun _ s7 ⟨xv,H7,I7,r7,y7,tn7,fr7⟩=>?_);obtain⟨ex7,rr7,hd⟩:=so'.2 xv H7 y7;replace p':=yky.mono ex7 p';replace hE':=hE'.mono ex7;replace ex':=ex'.trans ex7;replace r':=rr7;cases et:tg d ρ' with
     |none=>
      have e1:ztd nx n tg fi fe (k+1) i ρ' σ'=.bad:=by unfold ztd;simp only[en,et]
      rw[zgq (m':=bad) e1]at p';exact p'.elim
     |some ρ1=>
      have e1:ztd nx n tg fi fe (k+1) i ρ' σ'=bnd (nox (fi ρ1)) (fun c=>if c=true then bnd (nox (fe ρ1)) fun y=>bnd (zt5 (.ref n) [y]) fun _=>ztd nx n tg fi fe k (i+1) ρ1 else ztd nx n tg fi fe k (i+1) ρ1) σ':=by
       conv=>lhs;unfold ztd
       simp only[en,et]
      rw[zgq e1,zgp]at p';have I7':=I7.pinned (stat fr7) (TT.obj _ _ tn7);refine wpAny_bind (thn (htg _ _ _ _ _ _ s7 st' H7 xv u (fun st8 H8=>H8=H7/\ykl T μ' H7 ρ1 st8) I7' r7 ⟨μ',σ',ρ',d,ρ1,hE',r',hd,et,fun st8 hE8=>⟨rfl,hE8⟩⟩) fun _ s8 ⟨st8,H8,I8,eH8,hE8⟩=>?_);subst eH8;refine wpAny_bind (thn (hif _ _ _ _ _ _ s8 st8 H8 (fun c H9=>∃ μ9 σ9,Ext μ' H8 μ9 H9/\Rel T μ9 H9 σ9/\yky T E (Rep T) μ9 H9 (bnd (if c=true then bnd (nox (fe ρ1)) fun y=>bnd (zt5 (.ref n) [y]) fun _=>ztd nx n tg fi fe k (i+1) ρ1 else ztd nx n tg fi fe k (i+1) ρ1) (fun _=>ret (.ref n)) σ9) Q) I8
       ⟨μ',ρ1,σ',hE8,r',p'.bind0 fun c σ9 μ9 c' H9 _ e9 r9 q9 p9=>by cases q9;exact⟨μ9,σ9,e9,r9,p9⟩⟩) fun c s9 ⟨H9,I9,μ9,σ9,e9,r9,p9⟩=>?_)
      have again:∀ {s11:Shared} {H11:Hp} {μ11:List Addr} {σ11:Sto},Inv Y ([]++ycz fp s7.heap) st8 H11 s11->Ext μ' H8 μ11 H11->Rel T μ11 H11 σ11->yky T E (Rep T) μ11 H11 (bnd (ztd nx n tg fi fe k (i+1) ρ1) (fun _=>ret (.ref n)) σ11) Q->
        ∃ m,m<k+1/\∃ i μ' H' σ' ρ' st',Inv Y [] st' H' s11/\tn i s11.heap/\(∀ b∈fp,H' b=none)/\Ext μ3 H3 μ' H'/\ykl T μ' H' ρ' st'/\Rel T μ' H' σ'/\yky T E (Rep T) μ' H' (bnd (ztd nx n tg fi fe m i ρ') (fun _=>ret (.ref n)) σ') Q:=by
       intro s11 H11 μ11 σ11 I11 e11 r11 p11;refine⟨k,Nat.lt_succ_self _,i+1,μ11,H11,σ11,ρ1,st8,I11.unpinned,TT.keep _ _ _ tn7 (fun b hb o e=>(I11.pin (b,o) (List.mem_append_right _ (List.mem_append_right _ (zfm hb e)))).1),fun b hb=>?_,ex'.trans e11,hE8.mono e11,r11,p11⟩;obtain⟨o,e,_⟩:=TT.obj _ _ tn7 b hb;exact(I11.pin (b,o) (List.mem_append_right _ (List.mem_append_right _ (zfm hb e)))).2.1
      cases c with
      |false=>
       rw[if_neg Bool.false_ne_true]at p9;exact wpAny_pure ⟨rfl,again I9 e9 r9 p9⟩
      |true=>
       rw[if_pos rfl,zgp]at p9;refine wpAny_bind (wpAny_bind (thn (helt _ _ _ _ _ _ s9 st8 H9 (fun v H10=>∃ y μ10 σ10,Ext μ' H8 μ10 H10/\Rel T μ10 H10 σ10/\Rep T μ10 H10 y v/\yky T E (Rep T) μ10 H10 (bnd (zt5 (.ref n) [y]) (fun _=>bnd (ztd nx n tg fi fe k (i+1) ρ1) (fun _=>ret (.ref n))) σ10) Q) I9
        ⟨μ9,ρ1,σ9,hE8.mono e9,r9,p9.bind0 fun y σ10 μ10 v H10 _ e10 r10 q10 p10=>⟨y,μ10,σ10,e9.trans e10,r10,q10,by rw[zgp]at p10;exact p10⟩⟩) fun w s10 ⟨v,H10,I10,rw10,y,μ10,σ10,e10,r10,q10,p10⟩=>?_))
       have happ:=zpq (Q:=fun _ H11=>∃ μ11 σ11,Ext μ' H8 μ11 H11/\Rel T μ11 H11 σ11/\yky T E (Rep T) μ11 H11 (bnd (ztd nx n tg fi fe k (i+1) ρ1) (fun _=>ret (.ref n)) σ11) Q) r10 ((ex'.trans e10).get hn) q10
        (p10.bind fun _ σ11 μ11 v11 H11 _ e11 r11 q11 p11=>⟨μ11,σ11,e10.trans e11,r11,p11⟩)
       refine wpAny_bind (thn (zh5 (X:=Y) _ s10 st8 H10 (.ref D0) [v] (.ref D0) [w] _ I10 rfl (.cons rw10 .nil) happ) fun _ s11 ⟨v11,H11,I11,_,μ11,σ11,e11,r11,p11⟩=>?_);exact wpAny_pure (wpAny_pure ⟨rfl,again I11 e11 r11 p11⟩)
 exact codeAny_compStart_list ym2 (TT.self X.A 0 _ _ _ hst4 ym2)
theorem zzg{elt iter tgt:Expr}{ifs:List Expr}{scope:Scope}{pos:Pos}{x z0:Str}{M':List Str}{ix:List Nat}{src:Ev->M NX}{tg:D->Ev->Option Ev}{fi:Ev->M Bool}{fe:Ev->M D}
  (hc:X.calm=true) (L:LcOk X x M' ix scope) (hsrc:FIN T X tgt iter src)
  (htg:∀ cl C s₀ H₀ ex,FG T (blk X (x::z0::M') scope cl C s₀ H₀ ex) tgt tg)
  (hif:∀ cl C s₀ H₀ ex,FIf T (blk X (x::z0::M') scope cl C s₀ H₀ ex) ifs fi)
  (helt:∀ cl C s₀ H₀ ex,FE T (blk X (x::z0::M') scope cl C s₀ H₀ ex) elt fe)
  (hs:∀ y,foldedSetIterable iter X.env y=pure y:=by intro _;rfl) :
  FE T X (.ListComp elt [⟨tgt,iter,ifs,0⟩] scope pos) (yl5 src ix tg fi fe):=by
 intro pins s st H Q I h;obtain⟨μ,ρ,σ,hE,hr,hp⟩:=h;rw[eval_ListComp];refine wpAny_comprehension_free (use:=none) rfl hs (ze2 X.env scope (zqk I L)) L.kind (fun y hy e=>?_) ?_
 ·have q:=List.all_eq_true.mp L.names y hy;rw[e]at q;simp only[beq_self_eq_true,Bool.not_true,Bool.false_or]at q;exact eq_of_beq q
 have h1:=hsrc pins s st H (fun J H2=>∃ nx μ2 σ2,Ext μ H μ2 H2/\Rel T μ2 H2 σ2/\yk6 T μ2 H2 nx J/\yky T (XE X st) (Rep T) μ2 H2 (bnd (ztd nx σ2.length tg fi fe 1001 0 (zx0 ix ρ)) (fun _=>ret (.ref σ2.length)) (σ2++[Ob.lst []])) Q) I
  ⟨μ,ρ,σ,hE,hr,hp.bind fun nx σ1 μ1 J H1 _ e1 r1 q1 p1=>⟨nx,μ1,σ1,e1,r1,q1,p1⟩⟩
 refine thn h1 fun v s1 h2=>thn h2 fun itv s2 h3=>?_;obtain⟨it,fp,tn,J,H2,rfl,I2,TT,st2,f2,nx,μ2,σ2,ex2,r2,so,p2⟩:=h3;refine wpAny_newObj_type (wpAny_newFunctionEnv (ybm L) (by intro y hy;simp at hy) (fun h₁ hns₁ hsb₁=>?_) L.kind);have I3:=I2.lnew (ys:=[]) (its:=[]) (t':=s2.toks) .nil (by simp);have fr2:H2 s2.heap.objs.size=none:=I2.hok.fresh (Nat.le_refl _);have r3:=r2.push (p:=s2.heap.objs.size) (o:=.lst []) (ob:=.lst []) fr2 ⟨[],zo8,yk4.nil⟩;have ex3:Ext μ2 H2 (μ2++[s2.heap.objs.size]) (upd H2 s2.heap.objs.size (.lst [])):=zkw fr2;have hsz:s2.heap.objs.size<(s2.heap.push { cls:=.type "list",data:=.seq ([]:List Value).toArray }).objs.size:=by rw[Heap.size_push];exact Nat.lt_succ_self _
 have kp:∀ b o,(s2.heap.push { cls:=.type "list",data:=.seq ([]:List Value).toArray }).get? b=some o->h₁.get? b=some o:=fun b o e=>hsb₁.extBut b o (Nat.ne_of_lt (Heap.lt_size e)) (Heap.get?_push_of_some _ e);have hfp:∀ b∈fp,ykp X pins (upd H2 s2.heap.objs.size (.lst [])) b/\b<(s2.heap.push { cls:=.type "list",data:=.seq ([]:List Value).toArray }).objs.size:=fun b hb=>by
  obtain⟨o,e,_⟩:=TT.obj 0 _ st2 b hb;have lt:=Heap.lt_size e;exact⟨⟨by rw[yep (Nat.ne_of_lt lt)];exact(f2 b hb).1,(f2 b hb).2⟩,Nat.lt_trans lt hsz⟩
 refine zmi (s3:={ s2 with heap:=s2.heap.push { cls:=.type "list",data:=.seq ([]:List Value).toArray },toks:=s2.toks }) (n:=σ2.length) (D0:=s2.heap.objs.size) hc L htg hif helt I3 hfp hns₁ kp TT (TT.keep 0 _ _ st2 fun b hb o e=>kp b o (Heap.get?_push_of_some _ e))
  (fun μ H σ i ex r=>so μ H σ i (ex3.trans ex) r) ((hE.mono ex2).mono ex3) r3 (by rw[<-r2.len];simp) (p2.mono ex3) (fun s6 H' m6 hm6 hC' hu0 hos hok6 hb6 hq=>⟨m6,hm6,fun h7 hs7=>?_⟩)
 have hu:=zxe hu0 hs7 (Nat.le_refl _);have I7:=L2.Inv.call' (s':={ s6 with heap:=h7 }) (ch:=fp) I3 hos hu (zl0 hok6 hs7 hC') hb6 (fun b hb=>⟨(hfp b hb).1.2.2.2.1,(hfp b hb).1.2.1,(hfp b hb).1.2.2.2.2.1,(hfp b hb).1.2.2.2.2.2⟩);exact⟨.ref s2.heap.objs.size,H',I7,rfl,hq⟩
end
def GlT(K:PySem.W.Frag)(mg:Str->Option Value)(x:Str)(ss:List Str):Prop:=∃ a,mg x=some (.ref a)/\yk9 K a ss
def yd7:List Value->List Str->Bool
 |[],[]=>true
 | .str y _::vs,x::ss=>(y == x) && yd7 vs ss
 |_,_=>false
def yj6(K:PySem.W.Frag)(a:Addr)(ss:List Str):Bool:=match K.lookup a with
 |some o=>(o.cls == .type "tuple") && (match o.data with
  | .seq its _=>decide (its.size<=sizeLine) && yd7 its.toList ss
  |_=>false)
 |none=>false
theorem zeu:∀ {vs:List Value} {ss:List Str},yd7 vs ss=true->yla (ss.map V.str) vs
 |[],[],_=>.nil
 |[],_::_,h=>by simp[yd7]at h
 |v::vs,[],h=>by cases v<;>simp[yd7]at h
 |v::vs,x::ss,h=>by
  cases v with
  |str y t=>
   simp only[yd7,Bool.and_eq_true]at h;obtain rfl:=eq_of_beq h.1;exact .cons ⟨t,rfl⟩ (zeu h.2)
  |_=>simp[yd7]at h
theorem yk9.of{K:PySem.W.Frag}{a:Addr}{ss:List Str}(h:yj6 K a ss=true):yk9 K a ss:=by
 unfold yj6 at h;cases e:K.lookup a with
 |none=>rw[e]at h;cases h
 |some o=>
  rw[e]at h;simp only[Bool.and_eq_true]at h;obtain⟨h1,h2⟩:=h;cases ed:o.data with
  |seq its n=>
   rw[ed]at h2;simp only[Bool.and_eq_true,decide_eq_true_eq]at h2;exact⟨o,its,n,e,eq_of_beq h1,ed,h2.1,zeu h2.2⟩
  |_=>rw[ed]at h2;cases h2
def yni(neg:Bool)(ss:List Str)(x:D):M D:=fun σ=>match x with
 | .str z=>.ok (.bl (if neg then !inV (.str z) (ss.map V.str)else inV (.str z) (ss.map V.str))) σ
 |_=>.bad
section
variable{T:Tb}{X:Cx}{e:Expr}{f:Ev->M D}{x:Str}{p pos:Pos}{ss:List Str}
theorem zhb(ss:List Str):(ss.map V.str).all ygf=true:=by simp[ygf]
theorem zxd{a:Addr}(hT:yk9 X.K a ss){neg:Bool}{st:St}{H:Hp}{Q:VK}(h:tF T X (eUn (yni neg ss) f) st H Q):tOp (rIn X.K neg) (tF T X f) (tC (.ref a)) st H Q:=by
 obtain⟨μ,ρ,σ,hE,hr,hp⟩:=h;refine⟨μ,ρ,σ,hE,hr,hp.bind fun d σ1 μ1 v H1 _ e1 r1 q1 p1=>?_⟩;show rIn X.K neg v (.ref a) H1 Q;cases d with
 |str z=>rw[Rep]at q1;subst q1;exact⟨a,ss.map V.str,rfl,.inr (.inr hT),rfl,zhb ss,yky.here p1 r1 (by rw[Rep])⟩
 |_=>exact p1.elim
theorem zz6(hg:Gl X x)(hG:GlT X.K X.mg x ss)(he:FE T X e f)(hd:(x == ("__debug__" : Str))=false:=by decide):FT T X (.Compare e [.In] [.Name x p] pos) (eT (eUn (yni false ss) f)):=by
 obtain⟨a,hm,hT⟩:=hG;intro pins s st H Q I h;refine zvd zie he (zux hg hm (v:=.ref a) rfl hd) rfl pins s st H Q I ?_;refine zxd hT ?_;obtain⟨μ,ρ,σ,he,hr,hp⟩:=h;refine⟨μ,ρ,σ,he,hr,hp.bind fun d σ1 μ1 v H1 _ e1 r1 p1 q1=>?_⟩;obtain⟨k,ev,q⟩:=zxc p1 q1;exact⟨k,ev,q.here r1 rfl⟩
def yh0(x:D)(xs:List D):M D:=fun σ=>match xs with
 |[y]=>(match ymx y with
  |some k=>(match yl0 σ x with
   |some kvs=>.ok ((ygd kvs k).getD .non) σ
   |none=>.bad)
  |none=>.bad)
 |_=>.bad
end
def ykr(l a:Addr):Heap->Prop:=fun h=>PySem.W.KdlKeysView h l a
def yit:V->List V->Hp->VK->Prop:=fun x xs H Q=>∃ a kvs,x=.ref a/\xs=[]/\Rd H a (.dK kvs)/\∀ l,H l=none->Q (.ref l) (upd H l (.ext (ykr l a)))
def yiy:List V->Hp->VK->Prop:=fun xs H Q=>∃ (vw a:Addr) (kvs:List (Key × V)) (is:List Int),xs=[.ref vw]/\H vw=some (.ext (ykr vw a))/\Rd H a (.dK kvs)/\kvs.map (·.1)=is.map Sum.inl/\is.length<64/\∀ l,H l=none->Q (.ref l) (upd H l (.lst ((yo1 is).map V.int)))
section
variable{T:Tb}{X:Cx}
theorem ztv:MtR X "dict.keys" yit:=by
 intro pins s st H x vs v us Q I rx rv h;obtain⟨a,kvs,rfl,rfl,hH,q⟩:=h;cases rx;cases rv;obtain⟨z,hd,ws,rel,dd⟩:=yfs I.hok hH;refine call_meetsIn PySem.F.slot_dict_keys dd.typeIs PySem.F.entry_dict_keys (PySem.F.args_dict_keys_1 _) (PySem.W.kdl_meets_keys (ztt X.prog X.w) a hd) ⟨⟨ws,dd⟩,?_⟩;refine⟨.ref s.heap.objs.size,_,I.laid (t':=s.toks) (o:=.ext (ykr s.heap.objs.size a)) (fun b o e=>Heap.get?_push_of_some _ e) (Nat.le_refl _) ?_,rfl,q _ (I.hok.fresh (Nat.le_refl _))⟩;refine⟨⟨_,zlw _ _ (fun z=>by cases z),rfl,rfl⟩,⟨_,zlw _ _ (fun z=>by cases z)⟩,fun h1 h2 p k=>?_⟩;obtain⟨o,e,c⟩:=p;exact⟨o,k o e,c⟩
theorem zgu(hc:X.calm=true):yew X (.builtin "sorted") yiy:=by
 intro pins s σ H xs us Q I r h;obtain⟨vw,a,kvs,is,rfl,hvw,hH,hks,h64,q⟩:=h;obtain⟨u,rfl,rx⟩:=yj9 r;cases rx;obtain⟨z,hd,ws,rel,dd⟩:=yfs I.hok hH;have hv0:PySem.W.KdlKeysView s.heap vw a:=(I.hok vw _ hvw).1;obtain⟨ep,hat⟩:=dd.dictAt;have hk:=zs9 rel;have hlw:ws.length=kvs.length:=by have:=congrArg List.length hk;simpa using this
 have hlk:kvs.length=is.length:=by have:=congrArg List.length hks;simpa using this
 have hn:ws.length<=sizeLine:=by omega
 refine Calls.call_function_entry kind_sorted plain_sorted entry_sorted (args_sorted1 _) ?_;unfold Builtin.«sorted»;refine wpAny_bind (m:=checkCount "sorted" 1 1 _) (wpAny_pure ?_);refine wpAny_bind (zc2 (A:=X.A.in1) (PySem.W.kdl_keys (knd:=ztt X.prog X.w) (r:=vw) (d:=a) (kvs:=ws) (ep:=ep)) (I.ok.hd hc) ⟨hv0,hat⟩ hn fun h' tk acc kp hsz hacc=>?_);have hl:acc.toList.length=ws.length:=by rw[Array.length_toList];exact hacc.1
 have hv:yla ((ws.map (·.1)).map kV) acc.toList:=zjg (by rw[List.length_map];exact hl) fun j v k e1 e2=>by
  obtain⟨k',x,hx,hk'⟩:=hacc.2 j v (by rw[<-Array.getElem?_toList];exact e1);rw[List.getElem?_map,hx]at e2;cases e2;exact zs6 hk'
 rw[hk,hks]at hv;have hI:=zhk hv;refine wpAny_bind (wpAny_newList ?_ (by rw[hl];exact hn));have hoL:(h'.push (seqObj "list" acc.toList.toArray 0)).get? h'.objs.size=some (seqObj "list" acc.toList.toArray 0):=Heap.get?_push_size _ rfl;refine wpAny_bind (wpAny_holding (wpAny_call_entry slot_list_sort ⟨_,hoL,rfl⟩ entry_list_sort (list_sort_tree hoL hI (by omega) fun out ns' a1 a2 a3=>⟨_,rfl,?_⟩) (args_list_sort _)));refine wpAny_pure ⟨_,rfl,?_⟩;have en:ns'=yo1 is:=zvh (a2.trans (zi3 is).symm) a3 (zw4 is);subst en;have hls:=(zi3 is).length_eq;obtain⟨e,he⟩:=sortedHeap_at (out:=out) hoL;exact⟨.ref h'.objs.size,_,I.laid (t':=tk) (fun b o eb=>by
  have lt:b<h'.objs.size:=Heap.lt_size (kp b o eb);rw[sortedHeap_old (Nat.ne_of_lt lt) (by rw[size_push'];exact Nat.lt_succ_of_lt lt)];exact Heap.get?_push_of_some _ (kp b o eb)) hsz (show ye1 X.prog X.w _ _ _ (.lst ((yo1 is).map V.int))from⟨by rw[List.length_map,hls];exact Nat.le_trans (Nat.le_of_lt h64) (by decide),out.toList,e,zjf a1,by rw[Array.toArray_toList];exact he⟩),rfl,q _ (I.hok.fresh hsz)⟩
theorem ze6{e:Expr}{f:Ev->M D}{p pos apos cpos:Pos}(hc:X.calm=true)(hg:Gl X "sorted")(hm:X.mg "sorted" = none)(he:FE T X e f)(hbase:attributeBase e "keys" X.env (eval e X.env)=eval e X.env:=by rfl)(hline:(apos.endLine == cpos.line)=true:=by rfl)
  (hs2:starEach [.Call (.Attribute e "keys" apos) [] [] cpos] X.env=(false,eval (.Call (.Attribute e "keys" apos) [] [] cpos) X.env)::starEach [] X.env:=by rfl) (hpl2:(backTo pos (starEach [] X.env)).any (·.1)=false:=by rfl) :
  FE T X (.Call (.Name "sorted" p) [.Call (.Attribute e "keys" apos) [] [] cpos] [] pos) (eUn (fun x=>znc [x]) f):=by
 intro pins s st H Q I h;refine zng (zgu hc) hg hm L4.zdw (zur (zuu PySem.F.plainAttrs_dict PySem.F.slot_dict_keys PySem.F.type_dict_keys ztv he hbase hline) yci hs2) (by decide) (by decide) hs2 hpl2 pins s st H Q I ?_;obtain⟨μ,ρ,σ,hE,hr,hp⟩:=h;refine⟨μ,ρ,σ,hE,hr,hp.bind fun d σ1 μ1 v H1 _ e1 r1 q1 p1=>?_⟩;unfold znc at p1;cases e:yl0 σ1 d with
 |none=>simp only[e]at p1;exact p1.elim
 |some kvs=>
  simp only[e]at p1;cases ei:yg7 kvs with
  |none=>simp only[ei]at p1;exact p1.elim
  |some is=>
   simp only[ei]at p1;by_cases hc:is.length<64
   ·rw[if_pos hc]at p1;obtain⟨a,us,rfl,g1,g2⟩:=ydj r1 q1 e;refine⟨⟨a,us,rfl,g1⟩,a,us,rfl,rfl,g1,fun l hl=>⟨l,a,us,is,rfl,zo8,?_,zhr g2 ei,hc,fun l2 hl2=>?_⟩⟩
    ·unfold Rd;rw[yep (by rcases g1 with g|⟨_,g⟩<;>exact zfo g hl)];exact g1
    ·exact zt0 (yky.mono (zq6 hl) p1) (r1.fresh hl) (znx _) hl2
   ·rw[if_neg hc]at p1;exact p1.elim
def zyr(kvs:List (Key × D))(k:Key):List (Key × D):=kvs.filter fun kv=>decide (kv.1≠k)
theorem zki{μ:List Addr}{H:Hp}(k:Key):∀ {kvs:List (Key × D)} {us:List (Key × V)},yk3 T μ H kvs us->yk3 T μ H (zyr kvs k) (yft us k)
 |[],_,h=>by unfold yk3 at h;cases h;exact .nil
 |p::kvs,_,h=>by
  unfold yk3 at h;cases h with
  |@cons _ q _ us a b=>
   have ih:yk3 T μ H (zyr kvs k) (yft us k):=zki k b;unfold zyr yft at *;rw[List.filter_cons,List.filter_cons,a.1];split
   ·exact .cons a ih
   ·exact ih
def yiv:V->List V->Hp->VK->Prop:=fun x vs H Q=>∃ a kvs k v,x=.ref a/\vs=[kV k]/\H a=some (.dK kvs)/\ypl kvs k=some v/\Q v (upd H a (.dK (yft kvs k)))
theorem ztw:MtR X "dict.pop" yiv:=by
 intro pins s st H x vs v us Q I rx rv h;obtain⟨a,kvs,k,y,rfl,rfl,hH,hv,q⟩:=h;cases rx;obtain⟨u,rfl,ru⟩:=rv.one;exact yfq I hH ru hv (.inl rfl) fun w' s' I' r'=>⟨y,_,I',r',q⟩
def yh7(x:D)(xs:List D):M D:=fun σ=>match x,xs with
 | .ref n,[y]=>(match ymx y with
  |some k=>(match σ[n]? with
   |some (.dic kvs)=>(match ygd kvs k with
    |some d=>.ok d (σ.set n (.dic (zyr kvs k)))
    |none=>.bad)
   |_=>.bad)
  |none=>.bad)
 |_,_=>.bad
theorem zou:ye5 T yiv yh7:=by
 intro E μ H σ x xs v vs Q r p q h;cases x with
 |ref n=>
  match xs with
  |[]=>exact h.elim
  |[y]=>
   unfold yh7 at h;dsimp only at h;cases ek:ymx y with
   |none=>simp only[ek]at h;exact h.elim
   |some k=>
    simp only[ek]at h;cases es:σ[n]? with
    |none=>rw[es]at h;exact h.elim
    |some ob=>
     rw[es]at h;cases ob with
     |dic kvs=>
      dsimp only at h;obtain⟨a,rfl,hn,us,h3,h4⟩:=r.at p es;rw[yk4]at q;obtain⟨w,z,rfl,q1,q2⟩:=q;rw[yk4]at q2;subst q2;obtain rfl:=zs7 q1 ek;rcases zk9 h4 k with⟨z1,_⟩|⟨d',v',z1,z2,z3⟩
      ·rw[z1]at h;exact h.elim
      ·rw[z1]at h;dsimp only at h;have ex:Ext μ H μ (upd H a (.dK (yft us k))):=zg7 (List.mem_of_getElem? hn) h3 (fun _ z=>by cases z) (fun _ _ z=>by cases z);have wr:=r.write (o:=.dK (yft us k)) (ob:=.dic (zyr kvs k)) hn ⟨_,zo8,yk3.mono ex (zki k h4)⟩;exact⟨a,us,k,v',rfl,rfl,h3,z2,h μ v' _ wr.1 wr.2 (Rep.mono wr.1 _ _ z3)⟩
     |lst _=>exact h.elim
     |ins _ _=>exact h.elim
     |fdic _=>exact h.elim
  |_::_::_=>exact h.elim
 |_=>cases xs<;>exact h.elim
end
theorem mkT{K:PySem.W.Frag}{mg:Str->Option Value}{h:Heap}{x:Str}{C:Addr}{ss:List Str}(X:K.In h)(G:h.Ns mainGlobals mg)(a:PySem.W.nsIn K mainGlobals x=some (some (.ref C)))(b:yj6 K C ss=true):GlT K mg x ss:=⟨C,PySem.W.mg_of X G a,yk9.of b⟩
section
variable{T:Tb}{X:Cx}
def yn7:R2:=fun x y H Q=>∃ a b ka,x=.ref a/\y=.ref b/\Rd H a (.dK ka)/\Rd H b (.dK [])/\Q (.bl (!ka.isEmpty)) H
theorem ycf(hu:X.A.units+9<cLine):OpR X (compareOp .NotEq) yn7:=by
 intro pins s st H x y v u Q I rx ry h;obtain⟨a,b,ka,rfl,rfl,ha,hb,q⟩:=h;obtain rfl:v=Value.ref a:=rx;obtain rfl:u=Value.ref b:=ry;obtain⟨_,na,va,ra,da⟩:=yfs I.hok ha;obtain⟨_,nb,vb,rb,db⟩:=yfs I.hok hb;cases rb;cases ka with
 |nil=>
  cases ra;exact PySem.W.keq_ne (r:=true) na nb da db (by omega) (fun _=>.nil) ⟨.bl false,H,I,rfl,q⟩
 |cons p ka=>
  cases ra with
  |cons r1 r2=>exact PySem.W.keq_ne (r:=true) na nb da db (by omega) (fun z=>by simp at z) ⟨.bl true,H,I,rfl,q⟩
def ynp(x y:D):M D:=fun σ=>match yl0 σ x with
 |some k1=>(match yl0 σ y with
  |some []=>.ok (.bl (!k1.isEmpty)) σ
  |_=>.bad)
 |none=>.bad
theorem zwu:ye6 T yn7 ynp:=by
 intro E μ H σ x y v u Q r p q h;unfold ynp at h;cases e1:yl0 σ x with
 |none=>rw[e1]at h;exact h.elim
 |some k1=>
  rw[e1]at h;dsimp only at h;cases e2:yl0 σ y with
  |none=>rw[e2]at h;exact h.elim
  |some k2=>
   rw[e2]at h;cases k2 with
   |cons _ _=>exact h.elim
   |nil=>
    dsimp only at h;obtain⟨a,va,rfl,h1,g1⟩:=ydj r p e1;obtain⟨b,vb,rfl,h2,g2⟩:=ydj r q e2;unfold yk3 at g2;cases g2;refine⟨a,b,va,rfl,rfl,h1,h2,yky.here h r ?_⟩;rw[Rep];unfold yk3 at g1;cases g1<;>rfl
end
section
variable{T:Tb}{X:Cx}
def yev(i j:Int):Prop:=0<j/\j<2 ^ 60
theorem znf:OpR X (binaryOp .FloorDiv) (rI yev fun i j=>.int (i / j)):=opI fun i j _ _ _ _ _ hc q=>by
 have h1:(0:Int)<j:=hc.1;have h2:j<2 ^ 60:=hc.2;refine floordiv_int (by omega) (by rw[Int.fdiv_eq_ediv_of_nonneg i (by omega)];exact q) (.inl (PyProof.noPylong_of_log2 ?_));have h0:j.natAbs≠0:=by omega
 have:j.natAbs.log2<60:=(Nat.log2_lt h0).mpr (by omega);omega
noncomputable def yfi(_ j:Int):Bool:=hide (decide (0<j) && decide (j<2 ^ 60))
noncomputable abbrev yhz:=oIC yfi (fun i j=>i / j)
theorem zoo:ye6 T (rI yev fun i j=>.int (i / j)) yhz:=ydx fun i j h=>by
 simp only[yfi,zsp,Bool.and_eq_true,decide_eq_true_eq]at h;exact h
theorem zm5(i j:Int)(h:0<j)(h2:j<2 ^ 60)(σ:Sto):yhz (.int i) (.int j) σ=.ok (.int (i / j)) σ:=ybr (by simp only[yfi,zsp,Bool.and_eq_true,decide_eq_true_eq];exact⟨h,h2⟩)
def yiu:List V->Hp->VK->Prop:=fun xs H Q=>∃ a kvs,xs=[.ref a]/\Rd H a (.dK kvs)/\Q (.int kvs.length) H
theorem zgs:yew X (.builtin "len") yiu:=by
 intro pins s σ H xs us Q I r h;obtain⟨a,kvs,rfl,e,q⟩:=h;obtain⟨u,rfl,ru⟩:=yj9 r;cases ru;exact yfp I e fun t s' I'=>⟨.int kvs.length,H,I',⟨t,rfl⟩,q⟩
def yh3(xs:List D):M D:=fun σ=>match xs with
 |[x]=>(match yl0 σ x with
  |some kvs=>.ok (.int kvs.length) σ
  |none=>.bad)
 |_=>.bad
theorem zoq:zpj T yiu yh3:=by
 intro E μ H σ xs vs Q r p h
 match xs with
 |[]=>exact h.elim
 |[x]=>
  rw[yk4]at p;obtain⟨v,w,rfl,p1,p2⟩:=p;rw[yk4]at p2;subst p2;unfold yh3 at h;cases e:yl0 σ x with
  |none=>simp only[e]at h;exact h.elim
  |some kvs=>
   simp only[e]at h;obtain⟨a,us,rfl,g1,g2⟩:=ydj r p1 e;refine⟨a,us,rfl,g1,yky.here h r ?_⟩;unfold yk3 at g2;rw[Rep,Paired.length g2]
 |_::_::_=>exact h.elim
end
section
variable{prog:Program}{w:World}{A:Around}{E:Value->Shared->Prop}{l q I S:Addr}{n:Nat}{P:Nat->Value->Prop}{R:Result->Shared->Prop}{Q:Value->Shared->Prop}
theorem zh4(G:Nat->Value->Int->Shared->Prop)(hh:A.handled=none)(hlI:l≠I)(hSI:S≠I)(hlS:l≠S)
  (hl:∀ j vb kb s,G j vb kb s->∃ vs:List Value,vs.length=n/\(∀ (j:Nat) v,vs[j]?=some v->P j v)/\s.heap.IsList l vs.toArray)
  (hmv:∀ j vb kb s h' tk,G j vb kb s->(∀ b o,b≠I->b≠S->s.heap.get? b=some o->h'.get? b=some o)->G j vb kb { s with heap:=h',toks:=tk })
  (turn:∀ j vb kb s v oI oS,G j vb kb s->P j v->s.heap.get? I=some oI->s.heap.get? S=some oS->(∀ v,oI.data≠.cell v)->(∀ v,oS.data≠.cell v)->
   wpAny (model prog w) A.in1 (call (.ref q) [v]) (fun x s'=>∃ k t,x=.int k t/\s'.heap.get? I=some oI/\s'.heap.get? S=some oS/\G (j+1) (if k<kb then v else vb) (if k<kb then k else kb) s') (fun _ _=>False) s)
  (hR:∀ vb kb s,G n vb kb s->R (.ok (.ret vb)) s) :
  ∀ (r j:Nat) (s:Shared) (vb:Value) (kb:Int) (tb:Tok) (c:Nat),n - j=r->j<=n->G j vb kb s->s.heap.get? S=some (seqObj "list" #[vb,.int kb tb] c)->s.heap.IsListIter I l j->
   codeAny (model prog w) A (.builtin "min.loop" ⟨[.ref I,.ref q,.ref S],[]⟩) R s:=by
 have hname:(toString "min"++toString ".loop" : String) = "min.loop":=by decide
 intro r;induction r with
 |zero=>
  intro j s vb kb tb c hr hj g hS hit;have hin:j=n:=by omega
  obtain⟨vs,hvn,hvP,hli⟩:=hl j vb kb s g;have W:=Walks.list (prog:=prog) (w:=w) (A:=A.in1) hh I l hlI vs.toArray;have hsz:vs.toArray.size=n:=(List.size_toArray ..).trans hvn;refine codeAny_builtin PySem.F.entry_min_loop ?_;rw[Around.under_plainId PySem.F.plain_min_loop _];show wpAny _ A.in1 (seqItems? (.ref S) >>= _) _ _ _;refine wpAny_bind (wpAny_seqItems hS rfl ?_);show wpAny _ A.in1 (tryCatch (pyNext (.ref I)) _ >>= _) _ _ _;refine wpAny_bind (wpAny_tryCatch (W.done _ _ _ ⟨by rw[hsz,<-hin];exact hit,hli⟩ fun h' tk' hk'=>?_));have hk2:∀ b o,b≠I->s.heap.get? b=some o->h'.get? b=some o:=fun b o n e=>hk' b o (by simpa using n) e;have hS':=hk2 S _ hSI hS;have s1:=Heap.SameBut.update h' S (Obj.mapSeq fun _=>(#[]:Array Value));show wpAny _ A.in1 (updateSeq S (fun _=>#[]) >>= _) _ _ _;refine wpAny_bind ?_;refine wpAny_updateSeq hS' rfl (wpAny_bind (wpAny_letGo (wpAny_pure ?_)));subst hin;exact hR vb kb _ (hmv _ _ _ s _ _ g fun b o n1 n2 e=>by rw[s1.2 b n2];exact hk2 b o n1 e)
 |succ r ih=>
  intro j s vb kb tb c hr hj g hS hit;have hlt:j<n:=by omega
  obtain⟨vs,hvn,hvP,hli⟩:=hl j vb kb s g;have W:=Walks.list (prog:=prog) (w:=w) (A:=A.in1) hh I l hlI vs.toArray;have hsz:vs.toArray.size=n:=(List.size_toArray ..).trans hvn;refine codeAny_builtin PySem.F.entry_min_loop ?_;rw[Around.under_plainId PySem.F.plain_min_loop _];show wpAny _ A.in1 (seqItems? (.ref S) >>= _) _ _ _;refine wpAny_bind (wpAny_seqItems hS rfl ?_);show wpAny _ A.in1 (tryCatch (pyNext (.ref I)) _ >>= _) _ _ _;refine wpAny_bind (wpAny_tryCatch (W.item j _ _ _ (by rw[hsz];exact hlt) ⟨hit,hli⟩ fun v h' tk' hP hst' hk'=>?_));have hk2:∀ b o,b≠I->s.heap.get? b=some o->h'.get? b=some o:=fun b o n e=>hk' b o (by simpa using n) e;have hv:P j v:=hvP j v (by simpa using hP);obtain⟨oI',hoI',hoc,hod⟩:=id hst'.1;have g1:=hmv _ _ _ s h' tk' g fun b o n1 n2 e=>hk2 b o n1 e;have hS':=hk2 S _ hSI hS;show wpAny _ A.in1 (tryCatch (holding [v] (call (.ref q) [v])) _ >>= _) _ _ _;refine wpAny_bind (wpAny_tryCatch (wpAny_holding (wpAny_mono (turn j vb kb _ v oI' _ g1 hv hoI' hS' (fun v z=>by rw[hod]at z;cases z) (fun v z=>by cases z)) (fun x s'' he=>?_) fun _ _ hF=>hF.elim)));obtain⟨k2,t2,rfl,hI2,hS2,g2⟩:=he;have hit2:s''.heap.IsListIter I l (j+1):=⟨oI',hI2,hoc,hod⟩
  show wpAny _ A.in1 (tryCatch (holding [v,.int k2 t2] (richCompare .Lt (.int k2 t2) (.int kb tb) >>= _)) _ >>= _) _ _ _;refine wpAny_bind (wpAny_tryCatch (wpAny_holding (wpAny_bind (CmpOf.ints_lt (prog:=prog) (w:=w) (A:=A.in1) (P:=fun(i:Nat) v=>∃ t,v=.int (if i=0 then k2 else kb) t) (fun i=>if i=0 then k2 else kb) (fun i v h=>h) 0 1 _ _ _ _ _ ⟨t2,rfl⟩ ⟨tb,rfl⟩ ?_))));refine wpAny_bind (wpAny_holding (wpAny_truthy_bool ?_));refine wpAny_bind (wpAny_letGo (wpAny_pure ?_));show wpAny _ _ _ _ _ _;by_cases hb':k2<kb
  ·have s1:=Heap.SameBut.update s''.heap S (Obj.mapSeq fun _=>#[v,.int k2 t2]);obtain⟨c2,hc2⟩:∃ c2,(s''.heap.update S (Obj.mapSeq fun _=>#[v,.int k2 t2])).get? S=some (seqObj "list" #[v,.int k2 t2] c2):=⟨_,get?_update_seq hS2 fun _=>#[v,.int k2 t2]⟩
   rw[if_pos hb',if_pos hb']at g2;simp only[hb',decide_true,if_true,Nat.one_ne_zero,if_false];refine wpAny_bind ?_;refine wpAny_updateSeq hS2 rfl (wpAny_bind (wpAny_letGo ?_));rw[hname];refine wpAny_pure ⟨plainId_quiet PySem.F.plain_min_loop _,ih (j+1) _ v k2 t2 c2 (by omega) hlt (hmv _ _ _ s'' _ _ g2 fun b o n1 n2 e=>by rw[s1.2 b n2];exact e) hc2 ⟨oI',(s1.2 I hSI.symm).trans hI2,hoc,hod⟩⟩
  ·rw[if_neg hb',if_neg hb']at g2;simp only[hb',decide_false,Bool.false_eq_true,if_false,if_true,Nat.one_ne_zero];refine wpAny_bind (wpAny_letGo ?_);rw[hname];exact wpAny_pure ⟨plainId_quiet PySem.F.plain_min_loop _,ih (j+1) _ vb kb tb c (by omega) hlt (hmv _ _ _ s'' _ _ g2 fun b o _ _ e=>e) hS2 hit2⟩
theorem zmu(G0:Shared->Prop)(G:Addr->Addr->Nat->Value->Int->Shared->Prop){s:Shared}(hh:A.handled=none)(g0:G0 s){vs:List Value}(hvn:vs.length=n)(hvP:∀ (j:Nat) v,vs[j]?=some v->P j v)(hls:s.heap.IsList l vs.toArray)(hne:0<n)
  (hG0:∀ s h' tk,G0 s->(∀ b o,s.heap.get? b=some o->h'.get? b=some o)->G0 { s with heap:=h',toks:=tk })
  (first:∀ (I S:Addr) (s1:Shared) v oI oS,s.heap.objs.size<=I->s.heap.objs.size<=S->S≠I->(∃ s0,G0 s0/\(∀ b o,b≠I->s0.heap.get? b=some o->s1.heap.get? b=some o)/\(s1={ s0 with heap:=s1.heap,toks:=s1.toks }))->P 0 v->s1.heap.get? I=some oI->s1.heap.get? S=some oS->(∀ v,oI.data≠.cell v)->(∀ v,oS.data≠.cell v)->
   wpAny (model prog w) A.in1 (call (.ref q) [v]) (fun x s'=>∃ k t,x=.int k t/\s'.heap.get? I=some oI/\s'.heap.get? S=some oS/\G I S 1 v k s') (fun _ _=>False) s1)
  (hl:∀ I S j vb kb s,G I S j vb kb s->∃ vs:List Value,vs.length=n/\(∀ (j:Nat) v,vs[j]?=some v->P j v)/\s.heap.IsList l vs.toArray)
  (hmv:∀ I S j vb kb s h' tk,G I S j vb kb s->(∀ b o,b≠I->b≠S->s.heap.get? b=some o->h'.get? b=some o)->G I S j vb kb { s with heap:=h',toks:=tk })
  (turn:∀ I S j vb kb s v oI oS,G I S j vb kb s->P j v->s.heap.get? I=some oI->s.heap.get? S=some oS->(∀ v,oI.data≠.cell v)->(∀ v,oS.data≠.cell v)->
   wpAny (model prog w) A.in1 (call (.ref q) [v]) (fun x s'=>∃ k t,x=.int k t/\s'.heap.get? I=some oI/\s'.heap.get? S=some oS/\G I S (j+1) (if k<kb then v else vb) (if k<kb then k else kb) s') (fun _ _=>False) s)
  (hQ:∀ I S vb kb s,G I S n vb kb s->Q vb s) :
  wpAny (model prog w) A (call (.builtin "min") [.ref l] [(Str.ofString "key",.ref q)]) Q E s:=by
 have hname:(toString "min"++toString ".loop" : String) = "min.loop":=by decide
 obtain⟨ol,hol,_⟩:=id hls;have hll:l<s.heap.objs.size:=Heap.lt_size hol;refine kmk_tree PySem.F.kind_min PySem.F.plain_min PySem.F.entry_min (kmk_min_key _ _) ?_;show wpAny _ A.in1 (Builtin.Builtins.bindParams "min" ["key", "default"] 0 ⟨[],[(Str.ofString "key",.ref q)]⟩ >>= _) _ _ s;refine wpAny_bind (wpAny_of_eq (show Builtin.Builtins.bindParams "min" ["key", "default"] 0 ⟨[],[(Str.ofString "key",.ref q)]⟩=pure [some (.ref q),none]from rfl) ?_);refine wpAny_bind (wpAny_pure ?_);refine wpAny_bind (wpAny_pyIter_list hls ?_);refine wpAny_bind (wpAny_newList ?_ (Nat.zero_le _));rw[hname];have hS:(s.heap.push { cls:=.type "list_iterator",data:=.fields #[.ref l,.int 0 0] }).objs.size=s.heap.objs.size+1:=size_push' ..;have hlI:l≠s.heap.objs.size:=Nat.ne_of_lt hll;have hSI:(s.heap.push { cls:=.type "list_iterator",data:=.fields #[.ref l,.int 0 0] }).objs.size≠s.heap.objs.size:=by rw[hS];exact Nat.ne_of_gt (Nat.lt_succ_self _)
 have hlS:l≠(s.heap.push { cls:=.type "list_iterator",data:=.fields #[.ref l,.int 0 0] }).objs.size:=by rw[hS];exact Nat.ne_of_lt (Nat.lt_succ_of_lt hll)
 have hSge:s.heap.objs.size<=(s.heap.push { cls:=.type "list_iterator",data:=.fields #[.ref l,.int 0 0] }).objs.size:=by rw[hS];exact Nat.le_succ _
 refine wpAny_pure ⟨plainId_quiet PySem.F.plain_min_loop _,?_⟩;have gI:((s.heap.push { cls:=.type "list_iterator",data:=.fields #[.ref l,.int 0 0] }).push (seqObj "list" #[] 0)).get? s.heap.objs.size=some { cls:=.type "list_iterator",data:=.fields #[.ref l,.int 0 0] }:=
  Heap.get?_push_of_some _ (Heap.get?_push_size _ rfl)
 have gS:((s.heap.push { cls:=.type "list_iterator",data:=.fields #[.ref l,.int 0 0] }).push (seqObj "list" #[] 0)).get? (s.heap.push { cls:=.type "list_iterator",data:=.fields #[.ref l,.int 0 0] }).objs.size=some (seqObj "list" #[] 0):=Heap.get?_push_size _ rfl;have hkk:∀ b o,s.heap.get? b=some o->((s.heap.push { cls:=.type "list_iterator",data:=.fields #[.ref l,.int 0 0] }).push (seqObj "list" #[] 0)).get? b=some o:=fun b o e=>Heap.get?_push_of_some _ (Heap.get?_push_of_some _ e);generalize (s.heap.push { cls:=.type "list_iterator",data:=.fields #[.ref l,.int 0 0] }).objs.size=S at *;generalize ((s.heap.push { cls:=.type "list_iterator",data:=.fields #[.ref l,.int 0 0] }).push (seqObj "list" #[] 0))=hp at *;have W:=Walks.list (prog:=prog) (w:=w) (A:=A.in1) hh s.heap.objs.size l hlI vs.toArray;have hsz:vs.toArray.size=n:=(List.size_toArray ..).trans hvn;refine codeAny_builtin PySem.F.entry_min_loop ?_;rw[Around.under_plainId PySem.F.plain_min_loop _];show wpAny _ A.in1 (seqItems? (.ref _) >>= _) _ _ _;refine wpAny_bind (wpAny_seqItems gS rfl ?_);show wpAny _ A.in1 (tryCatch (pyNext (.ref s.heap.objs.size)) _ >>= _) _ _ _;refine wpAny_bind (wpAny_tryCatch (W.item 0 _ _ _ (by rw[hsz];exact hne) ⟨⟨_,gI,rfl,rfl⟩,hls.at fun o e=>hkk _ _ e⟩ fun v h' tk' hP hst' hk'=>?_));have hk2:∀ b o,b≠s.heap.objs.size->hp.get? b=some o->h'.get? b=some o:=fun b o n e=>hk' b o (by simpa using n) e;have hv:P 0 v:=hvP 0 v (by simpa using hP);obtain⟨oI',hoI',hoc,hod⟩:=id hst'.1;have hS':=hk2 S _ hSI gS;show wpAny _ A.in1 (tryCatch (holding [v] (call (.ref q) [v])) _ >>= _) _ _ _;refine wpAny_bind (wpAny_tryCatch (wpAny_holding (wpAny_mono (first s.heap.objs.size S _ v oI' _ (Nat.le_refl _) hSge hSI ⟨{ s with heap:=hp,toks:=s.toks },hG0 s hp _ g0 hkk,fun b o n e=>hk2 b o n e,rfl⟩ hv hoI' hS' (fun v z=>by rw[hod]at z;cases z) (fun v z=>by cases z)) (fun x s'' he=>?_) fun _ _ hF=>hF.elim)));obtain⟨k2,t2,rfl,hI2,hS2,g2⟩:=he;have s1:=Heap.SameBut.update s''.heap S (Obj.mapSeq fun _=>#[v,.int k2 t2]);obtain⟨c2,hc2⟩:∃ c2,(s''.heap.update S (Obj.mapSeq fun _=>#[v,.int k2 t2])).get? S=some (seqObj "list" #[v,.int k2 t2] c2):=⟨_,get?_update_seq hS2 fun _=>#[v,.int k2 t2]⟩
 show wpAny _ A.in1 (updateSeq S (fun _=>#[v,.int k2 t2]) >>= _) _ _ _;refine wpAny_bind ?_;refine wpAny_updateSeq hS2 rfl ?_;rw[hname];exact wpAny_pure ⟨plainId_quiet PySem.F.plain_min_loop _,zh4 (G _ _) hh hlI hSI hlS (hl _ _) (hmv _ _) (turn _ _) (fun vb kb s g=>hQ _ _ vb kb s g) _ 1 _ v k2 t2 c2 rfl hne (hmv _ _ _ _ _ s'' _ _ g2 fun b o n1 n2 e=>by rw[s1.2 b n2];exact e) hc2 ⟨oI',(s1.2 _ hSI.symm).trans hI2,hoc,hod⟩⟩
end
def yfo(X:Cx)(A:Around)(N':List Str)(qual:Str)(scope:Scope)(q:Addr)(cd:Value)(cl:List (Str × Addr))(s₀:Shared)(H₀:Hp):Cx:=
 { X with A:=A.deeper (PySem.W.envX qual scope s₀.heap.objs.size q cd cl),N:=N',s₀:=s₀,H₀:=H₀,env:=PySem.W.envX qual scope s₀.heap.objs.size q cd cl,outer:=X.stack,stack:=PySem.W.envX qual scope s₀.heap.objs.size q cd cl::X.stack,ex:=[],fn:=fun _=>false,calm:=true,pn:=[],xe:=fun _ _=>False }
def yg9(ix:List Nat)(d:D)(ρ:Ev):Ev:=some d::ix.map fun i=>(ρ[i]?).getD none
def yha(ix:List Nat)(v:V)(st:St):St:=some v::ix.map fun i=>(st[i]?).getD none
theorem zta{T:Tb}{μ:List Addr}{H:Hp}{ρ:Ev}{st:St}{d:D}{v:V}(ix:List Nat)(h:ykl T μ H ρ st)(hd:Rep T μ H d v):ykl T μ H (yg9 ix d ρ) (yha ix v st):=by
 have z:=(zp2 ix h).set 0 hd;exact z
section
variable{X:Cx}{pins:List (Addr × Obj)}{st:St}{H:Hp}{s:Shared}{x:Str}{M':List Str}{ix:List Nat}{scope:Scope}{A:Around}{qual:Str}{q:Addr}{cd:Value}{v:V}{u:Value}
theorem zht(I:Inv X pins st H s)(L:LcOk X x M' ix scope)(hx:scope.names.lookup x=some .local)(hA:A.frames=some X.stack)(hhd:A.handled=none)(rv:yk1 v u){h':Heap}{t':Nat}{m:Str->Option Value}(hns:h'.Ns s.heap.objs.size m)(hm:m x=some u)
  (hk:∀ b o,s.heap.get? b=some o->h'.get? b=some o) :
  Inv (yfo X A (x::M') qual scope q cd (ylu X.env scope.names []) s H) [] (yha ix v st) H { s with heap:=h',toks:=t' }:=by
 have sub:∀ n c,(ylu X.env scope.names []).lookup n=some c->X.env.cells.lookup n=some c:=fun n c e=>zyj X.env scope.names [] n c (fun _ _ q=>by simp at q) e;have fresh:H s.heap.objs.size=none:=I.hok.fresh (Nat.le_refl _);have noA:∀ b:Addr,b ∉ (yfo X A (x::M') qual scope q cd (ylu X.env scope.names []) s H).ex:=fun b z=>absurd (show b∈([]:List Addr)from z) (by simp);refine⟨⟨I.ok.mod,L.kind,rfl,rfl,Nat.le_refl _,fun a b c h1 h2=>I.ok.inj a b c (sub a c h1) (sub b c h2),fun a ha=>?_,fun a c h=>(by cases h),fun _=>hhd,Around.frames_deeper hA,.inr ⟨rfl,rfl⟩,fun b hb=>absurd hb (noA b),fun b o e=>I.bs b o e,Nat.le_trans I.ok.bsz I.sz,fun b o e=>noA b,fun b hb=>absurd hb (noA b),I.stack,I.stkFree⟩,
  rfl,I.bare,Un.kept hk,⟨m,hns,fun i y v' e1 e2 e3=>?_⟩,fun a c e=>?_,fresh,fun a c e=>I.freeC a c (sub a c e),fun p hp=>absurd (show p∈([]:List (Addr × Obj))from hp) (by simp),I.hok.kept hk,?_⟩
 ·have ha':scope.names.lookup a=some .cell\/scope.names.lookup a=some .free:=ha;rcases ha' with z|z
  ·exact absurd rfl (ybm L _ (zh2 z))
  ·exact zyd X.env scope.names [] a (zh2 z) (zqk I L _ (zh2 z) rfl)
 ·cases i with
  |zero=>
   have e1':some x=some y:=e1;have e2':some (some v)=some (some v'):=e2;cases e1';cases e2';exact⟨u,rv,.inl ⟨hx,hm⟩⟩
  |succ j=>
   have e1':M'[j]?=some y:=e1;have e2':(ix.map fun i=>(st[i]?).getD none)[j]?=some (some v'):=e2;rw[List.getElem?_map]at e2';cases ej:ix[j]? with
   |none=>rw[ej]at e2';cases e2'
   |some i0=>
    rw[ej]at e2';have e4:(st[i0]?).getD none=some v':=Option.some.inj e2';have e5:st[i0]?=some (some v'):=by
     cases q:st[i0]? with
     |none=>rw[q]at e4;cases e4
     |some o=>rw[q]at e4;exact congrArg some e4
    have e6:X.N[i0]?=some y:=by
     have z:=congrArg (fun l=>l[j]?) L.at_;simp only[List.getElem?_map,ej,e1',Option.map_some]at z;exact Option.some.inj z
    have q:=List.all_eq_true.mp L.vis y (List.mem_of_getElem? e1');simp only[Bool.and_eq_true,Bool.or_eq_true]at q;have kx:X.env.scope.names.lookup y=some .cell\/X.env.scope.names.lookup y=some .free:=by
     rcases q.1 with z|z
     ·exact .inl (eq_of_beq z)
     ·exact .inr (eq_of_beq z)
    have ky:scope.names.lookup y=some .free:=eq_of_beq q.2;obtain⟨m0,hn0,hl0⟩:=I.loc;obtain⟨u2,ru,lu⟩:=hl0 i0 y v' e6 e5 (by rcases kx with z|z;exact .inr (.inl z);exact .inr (.inr z));refine⟨u2,ru,.inr ⟨.inr ky,?_⟩⟩;rcases lu with⟨z,_⟩|⟨_,c,ec,zc⟩
    ·rcases kx with k|k
     ·rw[show X.env.kindOf y=X.env.scope.names.lookup y from rfl,k]at z;cases z
     ·rw[show X.env.kindOf y=X.env.scope.names.lookup y from rfl,k]at z;cases z
    ·obtain⟨c',hc'⟩:=zyd X.env scope.names [] y (zh2 ky) (zqk I L _ (zh2 ky) rfl);have e7:=sub y c' hc';rw[ec]at e7;cases e7;obtain⟨o,ho,hd⟩:=zc;exact⟨c,hc',o,hk _ _ ho,hd⟩
 ·obtain⟨v,o,ho,hd⟩:=I.cell a c (sub a c e);exact⟨v,o,hk _ _ ho,hd⟩
 ·have z:=congrArg List.length L.at_;simp[yha,yfo];simpa using z
theorem zme{name:Str}{params:Arguments}{body:Expr}{pm ctv:Value}{c':Addr}{t:TE}{Q:VK}(I:Inv X pins st H s)(L:LcOk X x M' ix scope)(hx:scope.names.lookup x=some .local)(hA:A.frames=some X.stack)(hhd:A.handled=none)(hdp:A.depth<recursionLimit)
  (ho:s.heap.get? q=some (PySem.W.kla_obj name qual params body scope (ylu X.env scope.names []) pm c' ctv)) (hcd:s.heap.CodeRec (.ref c') qual)
  (hbind:bindArgs (PySem.W.kla_fn name qual params body scope (ylu X.env scope.names []) pm (.ref c') ctv) ⟨[u],[]⟩=pure [(x,u)]) (hco:scope.isCoroutine=false) (hgen:scope.isGenerator=false) (rv:yk1 v u)
  (hb:PE (yfo X A (x::M') qual scope q (.ref c') (ylu X.env scope.names []) s H) body t) (ht:t (yha ix v st) H Q) :
  wpAny (model X.prog X.w) A (call (.ref q) [u]) (fun r s'=>CE X.stack X.prog X.w H s Q r s') (fun _ _=>False) s:=by
 refine wpAny_call (PySem.W.kla_callFunE (o:=PySem.W.kla_obj name qual params body scope (ylu X.env scope.names []) pm c' ctv) hdp ho rfl hco hgen rfl hcd ?_);rw[hbind];refine wpAny_pure (wpAny_newFunctionEnv (ybm L) (fun y hy=>?_) (fun h₁ hns hsb=>⟨?_,?_⟩) L.kind)
 ·have e:y=(x,u):=by simpa using hy
  subst e;exact hx
 ·exact(I.nolimit).fresh _ hsb
 ·have hk₁:∀ b o,s.heap.get? b=some o->h₁.get? b=some o:=fun b o e=>hsb.extBut b o (Nat.ne_of_lt (Heap.lt_size e)) (Heap.get?_push_of_some _ e);show codeAny _ _ (.expr body (PySem.W.envX qual scope s.heap.objs.size q (.ref c') (ylu X.env scope.names []))) _ _;refine PySem.W.kla_codeExpr ?_;have IY:=zht (A:=A) (qual:=qual) (q:=q) (cd:=.ref c') (t':=s.toks+1) I L hx hA hhd rv hns (by simp) hk₁;refine wpAny_mono (hb [] _ (yha ix v st) H Q IY ht) (fun u' s' z=>?_) fun _ _ z=>z.elim;obtain⟨v',H',J,rv',hq⟩:=z;exact⟨v',H',J.os,J.bare,J.base,J.hok,rv',hq⟩
end
def ymo(K:PySem.W.Frag)(c P:Addr):Bool:=match K.lookup c with
 |some o=>(match o.cls,o.data with
  | .type n,.fields vs=>n == "code" && (match (vs[11]?:Option Value)with|some (.ref p)=>p == P|_=>false) && (match vs.getD 11 .none with | .ref p=>p == P|_=>false) && (match vs.getD 18 .none with | .str _ _=>true|_=>false) &&
   (match vs.getD 7 .none with | .int _ _=>true|_=>false) && (match vs.getD 9 .none with | .bool _=>true|_=>false) && (match vs.getD 10 .none with | .int _ _=>true|_=>false) && (c != P)
  |_,_=>false)
 |none=>false
theorem ygu{K:PySem.W.Frag}{h:Heap}{c P:Addr}(X:K.In h)(e:ymo K c P=true):PySem.W.CodeHd h c P:=by
 unfold ymo at e;split at e
 ·next o ho=>
  split at e
  ·next n vs hc hd=>
   simp only[Bool.and_eq_true]at e;obtain⟨⟨⟨⟨⟨⟨⟨e1,e2⟩,e3⟩,e4⟩,e5⟩,e6⟩,e7⟩,e8⟩:=e;split at e2;case h_2=>cases e2
   next p2 h2=>
   split at e3;case h_2=>cases e3
   next p3 h3=>
   split at e4;case h_2=>cases e4
   next s4 t4 h4=>
   split at e5;case h_2=>cases e5
   next s5 t5 h5=>
   split at e6;case h_2=>cases e6
   next s6 h6=>
   split at e7;case h_2=>cases e7
   next s7 t7 h7=>
   have q2:=eq_of_beq e2;have q3:=eq_of_beq e3;subst q2;subst q3;have q1:=eq_of_beq e1;subst q1;exact⟨o,vs,s4,t4,s5,t5,s6,s7,t7,X _ _ ho,hc,hd,h2,h3,h4,h5,h6,h7,by simpa using e8⟩
  ·cases e
 ·cases e
theorem zsx{X:Cx}{pins:List (Addr × Obj)}{st:St}{H:Hp}{s:Shared}{P c':Addr}{ps more:Array Value}{qual:Str}{h':Heap}{tk:Nat}(I:Inv X pins st H s)(hP:H P=some (.tbl ps))(hx:Heap.ExtBut P s.heap h')(hge:s.heap.objs.size<=c')(hlt:c'<h'.objs.size)
  (hrec:zxq qual c' h') (htb:h'.get? P=some (PySem.W.tabObj (ps++more))) :
  Inv X pins st (upd (upd H P (.tbl (ps++more))) c' (.ext (zxq qual c'))) { s with heap:=h',toks:=tk }:=by
 have hc0:H c'=none:=I.hok.fresh hge;have ncP:c'≠P:=fun z=>by rw[z,hP]at hc0;cases hc0
 have nP:∀ b,H b=none->b≠P:=fun b n z=>by rw[z,hP]at n;cases n
 have up:∀ b u,H b=some u->b≠P->upd (upd H P (.tbl (ps++more))) c' (.ext (zxq qual c')) b=some u:=fun b u e n=>by
  rw[yep (zfo e hc0),yep n];exact e
 have uP:upd (upd H P (.tbl (ps++more))) c' (.ext (zxq qual c')) P=some (.tbl (ps++more)):=by rw[yep ncP.symm,zo8]
 refine I.un (h':=h') (t':=tk) ⟨fun b o e n _ _=>hx b o (nP b n) e,fun b o e n _ _=>⟨o.slots,hx b o (nP b n) e⟩,fun b o e n _=>?_,fun b o e _=>?_,fun b xs e=>up b _ e (fun z=>by rw[z,hP]at e;cases e),fun b o u e=>up b _ e (fun z=>by rw[z,hP]at e;cases e),fun b qs e=>?_⟩ fun b u e=>?_
 ·have:b≠c':=fun z=>by subst z;exact absurd (Heap.lt_size e) (Nat.not_lt.mpr hge)
  rw[yep this,yep (nP b n)];exact n
 ·by_cases hb:b=P
  ·subst hb;exact⟨_,htb⟩
  ·exact⟨o,hx b o hb e⟩
 ·by_cases hb:b=P
  ·subst hb;rw[hP]at e;cases e;exact⟨more,uP⟩
  ·exact⟨#[],by rw[Array.append_empty];exact up b _ e hb⟩
 ·by_cases hbc:b=c'
  ·subst hbc;rw[zo8]at e;cases e;obtain⟨o,vs,t,h1,h2,h3⟩:=hrec;exact⟨⟨o,vs,t,h1,h2,h3⟩,⟨o,h1⟩,fun a1 a2 ⟨o',vs',t',e1,e2,e3⟩ k=>⟨o',vs',t',k _ e1,e2,e3⟩⟩
  ·rw[yep hbc]at e;by_cases hb:b=P
   ·subst hb;rw[zo8]at e;cases e;exact htb
   ·rw[yep hb]at e;refine(I.hok b u e).stay (fun c v hc q=>hx c v ?_ q) (fun c q=>up c _ q (fun z=>by rw[z,hP]at q;cases q)) fun c xs q=>up c _ q (fun z=>by rw[z,hP]at q;cases q);rcases hc with z|z
    ·rw[z];exact hb
    ·intro y;rw[y,hP]at z;cases z
section
variable{T:Tb}{X:Cx}{pins:List (Addr × Obj)}{st:St}{H:Hp}{s:Shared}{μ:List Addr}{σ:Sto}{x:Str}{M':List Str}{ix:List Nat}{scope:Scope}{params:Arguments}{body:Expr}{pos:Pos}{c:Addr}{t:Tab}
structure LamOk(T:Tb)(X:Cx)(t:Tab)(c:Addr)(pos:Pos):Prop where
 mem:t∈T.tx.tbs
 inj:∀ t'∈T.tx.tbs,t'.P=t.P->t'=t
 code:X.env.code=.ref c
 hd:ymo X.K c t.P=true
 line:t.line=pos.line
 col:t.col=pos.col
 qual:t.qual=X.env.qual++"<lambda>"
 bm:X.mg "__builtins__" = some (.ref T.tx.bm)
 bb:T.tx.bm≠builtinsNs
theorem zmf(I:Inv X pins st H s)(L:LcOk X x M' ix scope)(r:Rel T μ H σ)(Lm:LamOk T X t c pos)(hdef:defaultsOf params X.env=([],[])) :
  wpAny (model X.prog X.w) X.A (eval (.Lambda params body scope pos) X.env) (fun v s'=>∃ q c' ctv H',v=.ref q/\Inv X ((q,PySem.W.kla_obj "<lambda>" t.qual params body scope (ylu X.env scope.names []) ((X.mg "__name__").getD .none) c' ctv)::pins) st H' s'/\Ext μ H μ H'/\Rel T μ H' σ/\c' ∉ μ/\H' c'=some (.ext (zxq t.qual c'))) X.xe s:=by
 obtain⟨⟨hb1,obm,hb2⟩,hP1,ps,hP,hps⟩:=r.tb t Lm.mem;have hPo:s.heap.get? t.P=some (PySem.W.tabObj ps):=I.hok _ _ hP;have hgs:s.heap.Ns mainGlobals X.mg:=I.ok.mod.glob.keeps I.bk;have hgP:mainGlobals≠t.P:=fun z=>by
  obtain⟨o,es,ep,e,hd,_⟩:=hgs;rw[z,hPo]at e;cases e;cases hd
 obtain⟨_,⟨ob,o1,o2,o3,o4⟩,_⟩:=I.hok _ _ hb2;have hbP:T.tx.bm≠t.P:=fun z=>by rw[z,hPo]at o1;cases o1;cases o2
 have hbG:T.tx.bm≠mainGlobals:=fun z=>by
  obtain⟨o,es,ep,e,hd,_⟩:=hgs;rw[z,e]at o1;cases o1;rw[hd]at o4;cases o4
 have hB:s.heap.BuiltinsAt X.mg t.P:=⟨T.tx.bm,ob,Lm.bm,Lm.bb,hbG,hbP,o1,o2,o3,o4⟩
 have hcl:=ze2 X.env scope (zqk I L);have C:PySem.W.CodeHd s.heap c t.P:=(ygu I.ok.mod.kin Lm.hd).keeps I.bk;have pinned:∀ {h':Heap} {tk:Nat} {H':Hp} {o:Obj},Inv X pins st H' { s with heap:=h',toks:=tk }->o.isFreed=false->(∀ v,o.data≠.cell v)->Inv X ((h'.objs.size,o)::pins) st H' { s with heap:=h'.push o,toks:=tk }:=fun {h' tk H' o} J hf hc=>by
  have J2:=J.kept (h':=h'.push o) (t':=tk) fun b u e=>Heap.get?_push_of_some _ e;refine J2.pins_of fun p hp=>?_;rcases List.mem_cons.mp hp with rfl|hp
  ·exact⟨Heap.get?_push_size _ hf,J.hok.fresh (Nat.le_refl _),Nat.ne_of_gt J.lt,J.nofs (Nat.le_refl _),hc⟩
  ·exact J2.pin p (List.mem_append_right _ hp)
 refine PySem.W.kla_eval hdef ?_;rw[<-Lm.qual];rcases hps with rfl|⟨c1,rfl,hc1,hc2⟩
 ·refine PySem.W.kla_makeFunction (mg:=X.mg) hcl I.ok.glob hgs Lm.code C hPo trivial rfl hgP hB fun c' ctv h' tk hx hge hlt hrec htb=>?_;have hce:zxq t.qual c' h':=by
   obtain⟨c2,o,vs,tt,e,h1,h2,h3⟩:=hrec;cases e;exact⟨o,vs,tt,h1,h2,h3⟩
  have J:=zsx (tk:=tk) I hP hx hge hlt hce htb;have hc0:H c'=none:=I.hok.fresh hge;have ncP:c'≠t.P:=fun z=>by rw[z,hP]at hc0;cases hc0
  have ncμ:c' ∉ μ:=fun z=>by obtain⟨u,hu,_⟩:=r.mem z;rw[hc0]at hu;cases hu
  have up:∀ b u,H b=some u->b≠t.P->upd (upd H t.P (.tbl (#[]++#[rawInt pos.line,rawInt pos.col,.ref c']))) c' (.ext (zxq t.qual c')) b=some u:=fun b u e n=>by
   rw[yep (zfo e hc0),yep n];exact e
  have uP:upd (upd H t.P (.tbl (#[]++#[rawInt pos.line,rawInt pos.col,.ref c']))) c' (.ext (zxq t.qual c')) t.P=some (.tbl (#[]++#[rawInt pos.line,rawInt pos.col,.ref c'])):=by rw[yep ncP.symm,zo8]
  have uc:upd (upd H t.P (.tbl (#[]++#[rawInt pos.line,rawInt pos.col,.ref c']))) c' (.ext (zxq t.qual c')) c'=some (.ext (zxq t.qual c')):=zo8;have e:Ext μ H μ (upd (upd H t.P (.tbl (#[]++#[rawInt pos.line,rawInt pos.col,.ref c']))) c' (.ext (zxq t.qual c'))):=by
   refine⟨⟨[],by simp⟩,fun p xs h=>up p _ h (fun z=>by rw[z,hP]at h;cases h),fun p o u h=>up p _ h (fun z=>by rw[z,hP]at h;cases h),fun p o h n=>⟨?_,n⟩⟩;by_cases hp:p=t.P
   ·subst hp;rw[hP]at h;cases h;exact⟨_,uP,.inr (.inr ⟨_,_,rfl,rfl⟩)⟩
   ·exact⟨o,up p o h hp,.inl rfl⟩
  refine⟨_,c',ctv,_,rfl,pinned J rfl (fun v z=>by cases z),e,r.keep e (fun a ha=>?_) fun t' ht'=>?_,ncμ,uc⟩
  ·obtain⟨u,hu,_⟩:=r.mem ha;rw[hu];exact up a u hu fun z=>hP1 (by rw[<-z];exact ha)
  ·obtain⟨⟨a1,ob2,a2⟩,a3,qs,a4,a5⟩:=r.tb t' ht';refine⟨⟨a1,ob2,up _ _ a2 hbP⟩,a3,?_⟩;by_cases hp:t'.P=t.P
   ·have et:=Lm.inj t' ht' hp;subst et;exact⟨_,uP,.inr ⟨c',by rw[Lm.line,Lm.col];rfl,ncμ,uc⟩⟩
   ·refine⟨qs,up _ _ a4 hp,a5.imp id fun⟨c3,z1,z2,z3⟩=>⟨c3,z1,z2,up _ _ z3 (fun z=>by rw[z,hP]at z3;cases z3)⟩⟩
 ·refine PySem.W.kla_makeFunctionHit (mg:=X.mg) (cv:=.ref c1) hcl I.ok.glob hgs Lm.code C hPo ?_ ?_ hB fun ctv h' tk hk hsz=>?_
  ·exact trivial
  ·rw[Lm.line,Lm.col];show codeAmong pos [rawInt pos.line,rawInt pos.col,.ref c1]=_;simp[codeAmong,rawInt]
  ·have J:=I.kept (h':=h') (t':=tk) hk;exact⟨_,c1,ctv,H,rfl,pinned J rfl (fun v z=>by cases z),Ext.refl _ _,r,hc1,hc2⟩
end
def ym7(fe:Ev->M D)(rest:Ev):List D->D->Int->M D
 |[],b,_=>ret b
 |d::ds,b,kb=>bnd (nox (fe (some d::rest))) fun k=>match k with
  | .int k=>if k<kb then ym7 fe rest ds d k else ym7 fe rest ds b kb
  |_=>bad
def ym6(fe:Ev->M D)(rest:Ev)(ds:List D):M D:=match ds with
 |[.lst (x::xs)]=>bnd (nox (fe (some x::rest))) fun k=>match k with
  | .int k=>ym7 fe rest xs x k
  |_=>bad
 |_=>bad
def yf2(ix:List Nat)(fe:Ev->M D)(fs:Ev->M (List D)):Ev->M D:=fun ρ=>bnd (fs ρ) (ym6 fe (ix.map fun i=>(ρ[i]?).getD none))
theorem zd5{X:Cx}{pins:List (Addr × Obj)}{st:St}{H:Hp}{s:Shared}{h':Heap}{t':Nat}{i j:Addr}(I:Inv X pins st H s)(k:∀ b o,b≠i->b≠j->s.heap.get? b=some o->h'.get? b=some o)(hi:ykp X pins H i)(hj:ykp X pins H j):Inv X pins st H { s with heap:=h',toks:=t' }:=by
 have nit:∀ b u,H b=some u->b≠i/\b≠j:=fun b u e=>⟨(fun z=>by rw[z,hi.1]at e;cases e),(fun z=>by rw[z,hj.1]at e;cases e)⟩
 have nc:∀ {b:Addr},b ∉ [i,j]->b≠i/\b≠j:=fun {b} h=>⟨fun z=>h (by simp[z]),fun z=>h (by simp[z])⟩
 refine I.step (g':=s.gens) (d':=s.drawn) (ch:=[i,j]) (fun b hb=>?_) (fun b o _ _ hc e _=>k b o (nc hc).1 (nc hc).2 e) (fun b o _ _ hc e _=>⟨o.slots,k b o (nc hc).1 (nc hc).2 e⟩) (fun _ _ _ _ n=>n)
  (fun b o hc e=>⟨o,k b o (nc hc).1 (nc hc).2 e⟩) (fun _ _ e=>e) (fun _ _ _ e=>e) (fun b ps e=>⟨#[],by rw[e];simp⟩) (fun m hm=>?_) (fun b u e=>?_) I.bare
 ·have e:b=i\/b=j:=by simpa using hb
  rcases e with rfl|rfl
  ·exact⟨hi.2.2.2.1,hi.2.1,hi.2.2.2.2.1,hi.2.2.2.2.2⟩
  ·exact⟨hj.2.2.2.1,hj.2.1,hj.2.2.2.2.1,hj.2.2.2.2.2⟩
 ·obtain⟨o,es,ep,ho,r⟩:=hm;exact⟨o,es,ep,k _ o (Ne.symm hi.2.1) (Ne.symm hj.2.1) ho,r⟩
 ·refine(I.hok b u e).stay (fun c v hc q=>?_) (fun _ q=>q) fun _ _ q=>q;rcases hc with z|z
  ·rw[z]at q ⊢;exact k b v (nit b u e).1 (nit b u e).2 q
  ·exact k c v (nit c _ z).1 (nit c _ z).2 q
section
variable{T:Tb}{X:Cx}
theorem zrf{e body:Expr}{params:Arguments}{scope:Scope}{lpos pos kp p:Pos}{x:Str}{M':List Str}{ix:List Nat}{fs:Ev->M (List D)}{fe:Ev->M D}{t:Tab}{c:Addr}{k:Nat}
  (hroom:Room (k+2) X.A) (L:LcOk X x M' ix scope) (hx:scope.names.lookup x=some .local) (Lm:LamOk T X t c lpos) (hg:Gl X "min") (hm:X.mg "min" = none)
  (hdef:defaultsOf params X.env=([],[])) (hco:scope.isCoroutine=false) (hgen:scope.isGenerator=false)
  (hbind:∀ (cl:List (Str × Addr)) (pm cd ctv u:Value),bindArgs (PySem.W.kla_fn "<lambda>" t.qual params body scope cl pm cd ctv) ⟨[u],[]⟩=pure [(x,u)])
  (ha:FA T X [e] fs)
  (hb:∀ (A:Around) (q:Addr) (cd:Value) (s₀:Shared) (H₀:Hp),Room k (A.deeper (PySem.W.envX t.qual scope s₀.heap.objs.size q cd (ylu X.env scope.names [])))->FE T (yfo X A (x::M') t.qual scope q cd (ylu X.env scope.names []) s₀ H₀) body fe)
  (he:backTo pos (starEach [e] X.env)=(false,eval e X.env)::backTo pos (starEach [] X.env):=by rfl)
  (hplain:(backTo pos (starEach [e] X.env)).any (·.1)=false:=by rfl) :
  FE T X (.Call (.Name "min" p) [e] [⟨some "key",.Lambda params body scope lpos,kp⟩] pos) (yf2 ix fe fs):=by
 intro pins s st H Q I h;refine wpAny_Call_Name_kw (ybc I hg hm (show bootBuiltins "min" = some (.builtin "min")from rfl) ?_);obtain⟨μ,ρ,σ,hE,hr,hp⟩:=h;refine callWith_kw (thn (ha pos pins s st H (fun vs H1=>∃ μ1 σ1 ds,Ext μ H μ1 H1/\Rel T μ1 H1 σ1/\yk4 T μ1 H1 ds vs/\yky T (XE X st) (Rep T) μ1 H1 (ym6 fe (ix.map fun i=>(ρ[i]?).getD none) ds σ1) Q) I ⟨μ,ρ,σ,hE,hr,hp.bind fun ds σ1 μ1 vs H1 _ e1 r1 q1 p1=>⟨μ1,σ1,ds,e1,r1,q1,p1⟩⟩) fun us s1 ⟨vs,H1,I1,rv,μ1,σ1,ds,e1,r1,q1,p1⟩=>kws_cons (thn (zmf I1 L r1 Lm hdef) fun lv s2 ⟨q,c',ctv,H2,elv,I2,e2,r2,hc1,hc2⟩=>kws_nil ?_)) he hplain;subst elv;show wpAny _ _ (call (.builtin "min") us [(Str.ofString "key",.ref q)]) _ _ _;have hE2:ykl T μ1 H2 ρ st:=(hE.mono e1).mono e2;generalize hrest:(ix.map fun i=>(ρ[i]?).getD none)=rest at *;obtain⟨x0,xs,rfl⟩:∃ x0 xs,ds=[.lst (x0::xs)]:=by
  unfold ym6 at p1;split at p1
  ·exact⟨_,_,rfl⟩
  ·exact p1.elim
 rw[yk4]at q1;obtain⟨v0,rr,rfl,q2,q3⟩:=q1;rw[yk4]at q3;subst q3;rw[Rep]at q2;obtain⟨a,ws,rfl,han,haH,hws⟩:=q2;obtain⟨u0,rfl,ru0⟩:=yla.one rv;obtain rfl:u0=.ref a:=ru0;have p2:=yky.mono e2 p1;have haH2:H2 a=some (.lst ws):=(e2.keepN _ _ haH han).1;have hws2:yk4 T μ1 H2 (x0::xs) ws:=yk4.mono e2 _ _ hws;have hlen:(x0::xs).length=ws.length:=hws2.length;have lst:∀ {H':Hp} {s':Shared} {pn:List (Addr × Obj)},Inv X pn st H' s'->H' a=some (.lst ws)->∃ its:List Value,its.length=ws.length/\(∀ (j:Nat) v,its[j]?=some v->∃ w,ws[j]?=some w/\yk1 w v)/\s'.heap.IsList a its.toArray:=fun {H' s' pn} J z=>by
  obtain⟨_,its,n,rv,ho⟩:=J.hok _ _ z;refine⟨its,rv.length.symm,fun j v hv=>?_,⟨_,ho,rfl,⟨_,rfl⟩⟩⟩;have hj:j<ws.length:=by rw[rv.length];exact(List.getElem?_eq_some_iff.mp hv).1
  obtain⟨u,hu,ru⟩:=rv.get (i:=j) (x:=ws[j]) (by simp[hj]);rw[hv]at hu;cases hu;exact⟨ws[j],by simp[hj],ru⟩
 have one:∀ {μ':List Addr} {H':Hp} {σ':Sto} {s':Shared} {d:D} {w:V} {v:Value} {I S:Addr} {oI oS:Obj} {kk:Int->M D},Inv X ((q,PySem.W.kla_obj "<lambda>" t.qual params body scope (ylu X.env scope.names []) ((X.mg "__name__").getD .none) c' ctv)::pins) st H' s'->Ext μ1 H2 μ' H'->Rel T μ' H' σ'->Rep T μ' H' d w->yk1 w v->
   ykp X ((q,PySem.W.kla_obj "<lambda>" t.qual params body scope (ylu X.env scope.names []) ((X.mg "__name__").getD .none) c' ctv)::pins) H' I->ykp X ((q,PySem.W.kla_obj "<lambda>" t.qual params body scope (ylu X.env scope.names []) ((X.mg "__name__").getD .none) c' ctv)::pins) H' S->
   s'.heap.get? I=some oI->s'.heap.get? S=some oS->(∀ v,oI.data≠.cell v)->(∀ v,oS.data≠.cell v)->
   yky T (XE X st) (Rep T) μ' H' (bnd (nox (fe (some d::rest))) (fun k=>match k with | .int k=>kk k|_=>bad) σ') Q->
   wpAny (model X.prog X.w) X.A.in1 (call (.ref q) [v]) (fun y s''=>∃ k t',y=.int k t'/\s''.heap.get? I=some oI/\s''.heap.get? S=some oS/\∃ μ'' H'' σ'',Inv X ((q,PySem.W.kla_obj "<lambda>" t.qual params body scope (ylu X.env scope.names []) ((X.mg "__name__").getD .none) c' ctv)::pins) st H'' s''/\Ext μ' H' μ'' H''/\Rel T μ'' H'' σ''/\
    ykp X ((q,PySem.W.kla_obj "<lambda>" t.qual params body scope (ylu X.env scope.names []) ((X.mg "__name__").getD .none) c' ctv)::pins) H'' I/\ykp X ((q,PySem.W.kla_obj "<lambda>" t.qual params body scope (ylu X.env scope.names []) ((X.mg "__name__").getD .none) c' ctv)::pins) H'' S/\yky T (XE X st) (Rep T) μ'' H'' (kk k σ'') Q) (fun _ _=>False) s':=by
  intro μ' H' σ' s' d w v I S oI oS kk J ex r' rd rw0 fI fS gI gS cI cS po;generalize hob:PySem.W.kla_obj "<lambda>" t.qual params body scope (ylu X.env scope.names []) ((X.mg "__name__").getD .none) c' ctv=ob at *;have hcode:s'.heap.CodeRec (.ref c') t.qual:=by
   obtain⟨⟨o,vs',tt,h1,h2,h3⟩,_⟩:=J.hok _ _ (ex.keepN _ _ hc2 hc1).1;exact⟨c',o,vs',tt,rfl,h1,h2,h3⟩
  have hq:=(J.pin (q,ob) (List.mem_append_right _ (.head _))).1;have J2:Inv X ((I,oI)::(S,oS)::(q,ob)::pins) st H' s':=J.pins_of fun p hp=>by
   rcases List.mem_cons.mp hp with rfl|hp
   ·exact⟨gI,fI.1,fI.2.1,fI.2.2.1,cI⟩
   ·rcases List.mem_cons.mp hp with rfl|hp
    ·exact⟨gS,fS.1,fS.2.1,fS.2.2.1,cS⟩
    ·exact J.pin p (List.mem_append_right _ hp)
  have hd:X.A.in1.handled=none:=hroom.hd;refine wpAny_mono (zme (A:=X.A.in1) (t:=tF T _ fe) (v:=w) (Q:=fun y H''=>∃ k μ'' σ'',y=.int k/\Ext μ' H' μ'' H''/\Rel T μ'' H'' σ''/\yky T (XE X st) (Rep T) μ'' H'' (kk k σ'') Q) J2 L hx J.ok.frames hd (Room.in1 hroom).depth (by rw[<-hob]at hq;exact hq) hcode (hbind _ _ _ _ _) hco hgen rw0 (hb _ _ _ _ _ ((Room.in1 hroom).deeper _)) ⟨μ',yg9 ix d ρ,σ',zta ix (hE2.mono ex) rd,r',?_⟩) (fun y s'' hce=>?_) fun _ _ z=>z
  ·unfold yg9;rw[hrest];refine po.bind0 fun y σ'' μ'' g H'' _ e'' r'' q'' p''=>?_;cases y with
   |int k=>
    rw[Rep]at q'';exact⟨k,μ'',σ'',q'',e'',r'',p''⟩
   |_=>exact p''.elim
  ·obtain⟨yv,H'',J3,ry,k,μ'',σ'',rfl,e'',r'',p''⟩:=J2.after hce;obtain⟨t',rfl⟩:=ry;have pI:=J3.pin (I,oI) (List.mem_append_right _ (.head _));have pS:=J3.pin (S,oS) (List.mem_append_right _ (.tail _ (.head _)));have J4:Inv X ((q,ob)::pins) st H'' s'':=J3.pins_of fun p hp=>J3.pin p (List.mem_append_right _ (.tail _ (.tail _ hp)));exact⟨k,t',rfl,pI.1,pS.1,μ'',H'',σ'',J4,e'',r'',⟨pI.2.1,fI.2⟩,⟨pS.2.1,fS.2⟩,p''⟩
 obtain⟨its,hn,hP,hli⟩:=lst I2 haH2;generalize hob:PySem.W.kla_obj "<lambda>" t.qual params body scope (ylu X.env scope.names []) ((X.mg "__name__").getD .none) c' ctv=ob at *;refine zmu (n:=ws.length) (P:=fun j v=>∃ w,ws[j]?=some w/\yk1 w v) (fun s'=>Inv X ((q,ob)::pins) st H2 s')
  (fun I S j vb kb s'=>ykp X ((q,ob)::pins) H2 I/\ykp X ((q,ob)::pins) H2 S/\∃ μ' H' σ' b wb,Inv X ((q,ob)::pins) st H' s'/\Ext μ1 H2 μ' H'/\Rel T μ' H' σ'/\Rep T μ' H' b wb/\yk1 wb vb/\ykp X ((q,ob)::pins) H' I/\ykp X ((q,ob)::pins) H' S/\yky T (XE X st) (Rep T) μ' H' (ym7 fe rest ((x0::xs).drop j) b kb σ') Q)
  hroom.hd I2 hn hP hli (by rw[<-hlen];simp) (fun s0 h' tk g k=>g.kept k) ?_ ?_ ?_ ?_ ?_
 ·
  intro I S s3 v oI oS hI hS hSI ⟨s0,g0,hk,es⟩ ⟨w,hw,rw1⟩ gI gS cI cS;have fI:ykp X ((q,ob)::pins) H2 I:=I2.fpOk hI (I2.hok.fresh hI);have fS:ykp X ((q,ob)::pins) H2 S:=I2.fpOk hS (I2.hok.fresh hS);have J:Inv X ((q,ob)::pins) st H2 s3:=by
   rw[es];exact zd5 g0 (fun b o n _ e=>hk b o n e) fI fS
  have rd:∃ w',ws[0]?=some w'/\Rep T μ1 H2 x0 w':=hws2.get (i:=0) rfl;obtain⟨w',hw',rd⟩:=rd;rw[hw]at hw';cases hw';refine wpAny_mono (one (kk:=fun k=>ym7 fe rest xs x0 k) J (Ext.refl _ _) r2 rd rw1 fI fS gI gS cI cS p2) (fun y s4 z=>?_) fun _ _ z=>z;obtain⟨k,t',rfl,hI4,hS4,μ'',H'',σ'',J4,e4,r4,f1,f2,p4⟩:=z;exact⟨k,t',rfl,hI4,hS4,fI,fS,μ'',H'',σ'',x0,w,J4,e4,r4,Rep.mono e4 _ _ rd,rw1,f1,f2,p4⟩
 ·intro I S j vb kb s' ⟨_,_,μ',H',σ',b,wb,J,ex,r',rb,rvb,f1,f2,p'⟩;exact lst J (ex.keepN _ _ haH2 han).1
 ·intro I S j vb kb s' h' tk ⟨a1,a2,μ',H',σ',b,wb,J,ex,r',rb,rvb,f1,f2,p'⟩ k;exact⟨a1,a2,μ',H',σ',b,wb,zd5 J k f1 f2,ex,r',rb,rvb,f1,f2,p'⟩
 ·intro I S j vb kb s' v oI oS ⟨a1,a2,μ',H',σ',b,wb,J,ex,r',rb,rvb,f1,f2,p'⟩ ⟨w,hw,rw1⟩ gI gS cI cS;have hj:j<(x0::xs).length:=by rw[hlen];exact(List.getElem?_eq_some_iff.mp hw).1
  obtain⟨w',hw',rd⟩:=hws2.get (i:=j) (d:=(x0::xs)[j]) (by rw[List.getElem?_eq_getElem hj]);rw[hw]at hw';cases hw';rw[List.drop_eq_getElem_cons hj]at p';generalize (x0::xs)[j]=d at *;generalize hds:(x0::xs).drop (j+1)=ds' at *;unfold ym7 at p';refine wpAny_mono (one (kk:=fun k=>if k<kb then ym7 fe rest ds' d k else ym7 fe rest ds' b kb) J ex r' (Rep.mono ex _ _ rd) rw1 f1 f2 gI gS cI cS p') (fun y s4 z=>?_) fun _ _ z=>z;obtain⟨k,t',rfl,hI4,hS4,μ'',H'',σ'',J4,e4,r4,f3,f4,p4⟩:=z;refine⟨k,t',rfl,hI4,hS4,a1,a2,μ'',H'',σ'',?_⟩;by_cases hk:k<kb
  ·rw[if_pos hk]at p4;rw[if_pos hk,if_pos hk];exact⟨d,w,J4,ex.trans e4,r4,Rep.mono (ex.trans e4) _ _ rd,rw1,f3,f4,p4⟩
  ·rw[if_neg hk]at p4;rw[if_neg hk,if_neg hk];exact⟨b,wb,J4,ex.trans e4,r4,Rep.mono e4 _ _ rb,rvb,f3,f4,p4⟩
 ·intro I S vb kb s' ⟨_,_,μ',H',σ',b,wb,J,ex,r',rb,rvb,f1,f2,p'⟩;rw[<-hlen,List.drop_length]at p';have q':Q wb H':=yky.here (R:=Rep T) p' r' rb;exact⟨wb,H',J.pins_of (fun p hp=>J.pin p (List.mem_append_right _ (.tail _ hp))),rvb,q'⟩
end
def cOf(K:PySem.W.Frag)(x:Str):Addr:=((PySem.W.tabIn K x).getD (0,0)).1
def POf(K:PySem.W.Frag)(x:Str):Addr:=((PySem.W.tabIn K x).getD (0,0)).2
def ylp(K:PySem.W.Frag):Addr:=match PySem.W.nsIn K mainGlobals "__builtins__" with
 |some (some (.ref a))=>a
 |_=>0
theorem yea{K:PySem.W.Frag}{x:Str}(h:(PySem.W.tabIn K x).isSome=true):PySem.W.tabIn K x=some (cOf K x,POf K x):=by
 unfold cOf POf;cases e:PySem.W.tabIn K x with
 |none=>rw[e]at h;cases h
 |some p=>rfl
def yeb(K:PySem.W.Frag)(xs:List Str):Bool:=
 PySem.W.noTabs K && (match PySem.W.nsIn K mainGlobals "__builtins__" with
  |some (some (.ref a))=>(K.lookup a).isNone && (a != builtinsNs)
  |_=>false) && xs.all fun x=>(PySem.W.tabIn K x).isSome && ymo K (cOf K x) (POf K x)
structure Tabs(K:PySem.W.Frag)(xs:List Str):Prop where
 no:PySem.W.noTabs K=true
 bm:PySem.W.nsIn K mainGlobals "__builtins__" = some (some (.ref (ylp K)))
 bk:K.lookup (ylp K)=none
 bb:ylp K≠builtinsNs
 tab:∀ x∈xs,PySem.W.tabIn K x=some (cOf K x,POf K x)
 hd:∀ x∈xs,ymo K (cOf K x) (POf K x)=true
theorem zxb{K:PySem.W.Frag}{xs:List Str}(h:yeb K xs=true):Tabs K xs:=by
 unfold yeb at h;rw[Bool.and_eq_true,Bool.and_eq_true]at h;obtain⟨⟨h1,h2⟩,h3⟩:=h;split at h2
 ·next a ha=>
  have eb:ylp K=a:=by unfold ylp;rw[ha]
  rw[Bool.and_eq_true]at h2;refine⟨h1,by rw[eb];exact ha,by rw[eb];exact Option.isNone_iff_eq_none.mp h2.1,by rw[eb];simpa using h2.2,fun x hx=>?_,fun x hx=>?_⟩
  ·have z:=List.all_eq_true.mp h3 x hx;rw[Bool.and_eq_true]at z;exact yea z.1
  ·have z:=List.all_eq_true.mp h3 x hx;rw[Bool.and_eq_true]at z;exact z.2
 ·cases h2
def zxs(K:PySem.W.Frag)(mg:Str->Option Value)(x:Str)(st:Stmt)(ps:List Str):Prop:=
 ∃ f fd,mg x=some (.ref f)/\Fun K x x st f fd/\(∀ us:List Value,us.length=ps.length->bindArgs fd ⟨us,[]⟩=pure (ps.zip us))/\fd.code=.ref (cOf K x)
theorem mkC{K:PySem.W.Frag}{mg:Str->Option Value}{h:Heap}{x:Str}{st:Stmt}{ps xs:List Str}(X:K.In h)(G:h.Ns mainGlobals mg)(hF:yez K mg x st ps)(ht:Tabs K xs)(hx:x∈xs):zxs K mg x st ps:=by
 obtain⟨f,fd,hm,F,hb⟩:=hF;obtain⟨oc,od,kV,doc,pm,an,cdv,ct,osl,rfl,lk,hcd⟩:=F.ex;exact⟨f,_,hm,F,hb,PySem.W.law_code X G (ht.tab x hx) hm (X _ _ lk) rfl⟩
theorem yb3{P:Program}{w:World}{K:PySem.W.Frag}{mg:Str->Option Value}{base:Heap}{ca:Nat->Addr}{tx:Tx}{k:Nat}{x:Str}{st:Stmt}{ps N:List Str}{g:Ev->M Fl}(h:zxs K mg x st ps)(S:FnScope N ps (zkd st))
  (hb:∀ (f:Addr) (A:Around) (outer:List Env) (s:Shared) (H:Hp) (E:XK),Room k (A.deeper (envOfC x (zkd st) s.heap.objs.size f (.ref (cOf K x))))->FSs ⟨K,ca,tx⟩ (yly (CXE P w) P w K mg base N x (zkd st) f (.ref (cOf K x)) A outer s H E) (zqt st) g) :
  OkF ⟨K,ca,tx⟩ P w mg base (k+1) x ps (run N.length g):=by
 obtain⟨f,fd,hm,F,hbd,hc⟩:=h;obtain⟨oc,od,kV,doc,pm,an,cdv,ct,osl,rfl,lk,hcd⟩:=F.ex;have e:cdv=.ref (cOf K x):=hc;subst e;exact⟨f,_,hm,F.kp,hbd,fok lk hcd S (hb f)⟩
theorem zhu{P:Program}{w:World}{K:PySem.W.Frag}{mg mb:Str->Option Value}{k:Nat}{fa a:Addr}{fd:FuncData}{x:Str}{s₁:Shared}{vs:List Value}{ns:List Int}{ca:Nat->Addr}{tx:Tx}{fn:List D->M D}{ob:Obj}
  (KX:K.In s₁.heap) (hns:s₁.heap.Ns mainGlobals mg) (hb:s₁.heap.Ns builtinsNs mb) (hbb:∀ x:Str,x ≠ "__name__"->mb x=bootBuiltins x) (hlim:s₁.heap.NoLimit) (hg:s₁.gens=#[])
  (ha:s₁.heap.get? a=some { cls:=.type "list",data:=.seq vs.toArray }) (hi:IntsAre vs ns) (hl:ns.length<=63) (hr:Room k callerA)
  (hK:PySem.W.noTabs K=true) (hbo:s₁.heap.get? tx.bm=some ob) (hbc:ob.cls=.type "module") (hbd:ob.dict=some builtinsNs) (hbp:ob.data=.plain) (hbK:K.lookup tx.bm=none)
  (hT:∀ t∈tx.tbs,∃ c,PySem.W.CodeHd s₁.heap c t.P/\s₁.heap.get? t.P=some (PySem.W.tabObj #[]))
  (F:∀ base:Heap,FnOk P w K mg base (CXE P w) k fa fd [x] (spF ⟨K,ca,tx⟩ 1 fn)) (hbind:∀ (s:Shared) (u:Value),BindsTo s fd ⟨[u],[]⟩ [(x,u)])
  (tr:∀ ns:List Int,ns.length<=63->∃ σ,fn [.scr ns] []=.ok (.bl true) σ) :
  codeAny (model P w) callerA (.call (.ref fa) ⟨[.ref a],[]⟩) (fun r s'=>r=.ok (.ret (.bool true))/\OldK s₁.heap s'.heap/\s'.os=s₁.os/\AllBare s'.gens) s₁:=by
 have rv:=zjf hi;have lenV:=hi.length;have hl2:ns.length<=sizeLine:=Nat.le_trans hl (by decide);have core:∀ fl:Bool,(fl=true->K.lookup a=none)->(fl=false->K.lookup a=some { cls:=.type "list",data:=.seq vs.toArray })->
   codeAny (model P w) callerA (.call (.ref fa) ⟨[.ref a],[]⟩) (fun r s'=>r=.ok (.ret (.bool true))/\OldK s₁.heap s'.heap/\s'.os=s₁.os/\AllBare s'.gens) s₁:=by
  intro fl hf1 hf2;obtain⟨H,c1,c2,c3,c4⟩:∃ H:Hp,(∀ t∈tx.tbs,H t.P=some (.tbl #[]))/\(H tx.bm=some (.frz ob (.ext (ykg tx.bm))))/\(fl=true->H a=some (.frz { cls:=.type "list",data:=.seq vs.toArray } (.lst (ns.map V.int))))/\
    ∀ b u,H b=some u->(u=.tbl #[]/\∃ t∈tx.tbs,b=t.P)\/(b=tx.bm/\u=.frz ob (.ext (ykg tx.bm)))\/(b=a/\fl=true/\u=.frz { cls:=.type "list",data:=.seq vs.toArray } (.lst (ns.map V.int))):=by
   refine⟨fun b=>if b=tx.bm then some (.frz ob (.ext (ykg tx.bm)))else if b=a then (if fl=true then some (.frz { cls:=.type "list",data:=.seq vs.toArray } (.lst (ns.map V.int)))else none)else if b∈tx.tbs.map (·.P)then some (.tbl #[])else none,fun t ht=>?_,if_pos rfl,fun h=>?_,fun b u e=>?_⟩
   ·obtain⟨c,_,hP⟩:=hT t ht;have n1:t.P≠tx.bm:=fun z=>by rw[z,hbo]at hP;cases hP;cases hbc
    have n2:t.P≠a:=fun z=>by rw[z,ha]at hP;cases hP
    dsimp only;rw[if_neg n1,if_neg n2,if_pos (List.mem_map.mpr ⟨t,ht,rfl⟩)]
   ·have n1:a≠tx.bm:=fun z=>by rw[z,hbo]at ha;cases ha;cases hbp
    dsimp only;rw[if_neg n1,if_pos rfl,if_pos h]
   ·dsimp only at e;split at e
    ·next hb1=>cases e;exact .inr (.inl ⟨hb1,rfl⟩)
    ·split at e
     ·next hb2=>
      split at e
      ·next h=>cases e;exact .inr (.inr ⟨hb2,h,rfl⟩)
      ·cases e
     ·split at e
      ·next hm=>cases e;obtain⟨t,ht,rfl⟩:=List.mem_map.mp hm;exact .inl ⟨rfl,t,ht,rfl⟩
      ·cases e
  have hok:HOk P w H s₁.heap:=fun b u e=>by
   rcases c4 b u e with⟨rfl,t,ht,rfl⟩|⟨rfl,rfl⟩|⟨rfl,_,rfl⟩
   ·obtain⟨c,_,hP⟩:=hT t ht;exact hP
   ·exact⟨hbo,⟨ob,hbo,hbc,hbd,hbp⟩,⟨ob,hbo⟩,fun h1 h2 ⟨o,e1,e2⟩ k=>⟨o,k _ e1,e2⟩⟩
   ·exact⟨ha,by rw[List.length_map];exact hl2,vs,_,rv,ha⟩
  have base_of:∀ {b:Addr} {o:Obj},s₁.heap.get? b=some o->H b=none->(ymp s₁.heap H).get? b=some o:=fun e n=>zlz e n;have noA:∀ {b:Addr} {o:Obj} {es:Array DictEntry} {ep:Nat},s₁.heap.get? b=some o->o.data=.dict es ep->H b=none:=fun {b o es ep} e d=>by
   cases q:H b with
   |none=>rfl
   |some u=>
    rcases c4 b u q with⟨_,t,ht,rfl⟩|⟨rfl,_⟩|⟨rfl,_,_⟩
    ·obtain⟨c,_,hP⟩:=hT t ht;rw[hP]at e;cases e;cases d
    ·rw[hbo]at e;cases e;rw[hbp]at d;cases d
    ·rw[ha]at e;cases e;cases d
  have nsK:∀ {b:Addr} {m:Str->Option Value},s₁.heap.Ns b m->(ymp s₁.heap H).Ns b m:=fun {b m} ⟨o,es,ep,e,d,r⟩=>⟨o,es,ep,base_of e (noA e d),d,r⟩
  have hKb:K.In (ymp s₁.heap H):=fun b o e=>base_of (KX b o e) (by
   cases q:H b with
   |none=>rfl
   |some u=>
    rcases c4 b u q with⟨_,t,ht,rfl⟩|⟨rfl,_⟩|⟨rfl,h,_⟩
    ·obtain⟨c,_,hP⟩:=hT t ht;have e2:=KX _ _ e;rw[hP]at e2;cases e2;have h2:=List.all_eq_true.mp hK (t.P,_) (PySem.W.mem_of_lookupK e);exact absurd (show false=true from h2) Bool.false_ne_true
    ·rw[hbK]at e;cases e
    ·rw[hf1 h]at e;cases e)
  have hM:Mod K mg (ymp s₁.heap H):=⟨hKb,nsK hns,⟨mb,nsK hb,hbb⟩,let ⟨mc,h1,h2⟩:=hlim;⟨mc,nsK h1,h2⟩⟩
  have e0:Env0 P w K mg (ymp s₁.heap H) callerA [] s₁ H:=⟨rfl,hM,fun b o e=>zuk e,Nat.le_of_eq (zhh _ _),trivial,fun b hb=>absurd (show b∈([]:List Addr)from hb) (by simp),hok,.of_eq hg⟩
  have hS:Scr K H a ns:=by
   cases fl with
   |true=>exact .inl ⟨_,c3 rfl⟩
   |false=>exact .inr ⟨_,vs.toArray,_,hf2 rfl,rfl,rfl,rfl,by rw[List.size_toArray,lenV];exact hl2,by simpa using rv⟩
  obtain⟨σ,ef⟩:=tr ns hl;have hsp:spF ⟨K,ca,tx⟩ 1 fn [.ref a] H (fun v _=>v=.bl true) fun _ _ _=>False:=by
   refine⟨[],[],[.scr ns],yk4.cons (by rw[Rep];exact⟨a,rfl,hS⟩) yk4.nil,rfl,⟨rfl,List.nodup_nil,fun n o q=>by simp at q,fun t ht=>⟨⟨by simp,ob,c2⟩,by simp,#[],c1 t ht,.inl rfl⟩⟩,?_⟩;rw[ef];intro μ' v H' _ _ r;rw[Rep]at r;exact r
  refine codeAny_mono ((F _).run callerA [] s₁ H ⟨[.ref a],[]⟩ [.ref a] [.ref a] _ _ hr e0 (hbind s₁ (.ref a)) (.cons rfl .nil) hsp) fun r s' h=>?_;cases r with
  |error e=>obtain⟨_,_,_,_,z⟩:=h;exact z.elim
  |ok f2=>
   cases f2 with
   |next=>exact False.elim h
   |brk=>exact False.elim h
   |cont=>exact False.elim h
   |ret u=>
    obtain⟨v,H',os,bare,un,hok',r',q⟩:=h;have q':v=.bl true:=q;subst q';obtain rfl:u=Value.bool true:=r';have same:∀ b o,s₁.heap.get? b=some o->(¬ ∃ t∈tx.tbs,b=t.P)->s'.heap.get? b=some o:=fun b o e n=>by
     cases q:H b with
     |none=>exact un.keep b o e q (by intro z;exact absurd (show b∈([]:List Addr)from z) (by simp)) (by simp)
     |some u=>
      rcases c4 b u q with⟨_,z⟩|⟨rfl,rfl⟩|⟨rfl,_,rfl⟩
      ·exact absurd z n
      ·obtain⟨e2,_⟩:=hok' _ _ (un.frzs _ _ _ q);rw[hbo]at e;cases e;exact e2
      ·obtain⟨e2,_⟩:=hok' _ _ (un.frzs _ _ _ q);rw[ha]at e;cases e;exact e2
    have grown:∀ t∈tx.tbs,∃ ps,s'.heap.get? t.P=some (PySem.W.tabObj ps):=fun t ht=>by
     obtain⟨more,z⟩:=un.tbls _ _ (c1 t ht);exact⟨_,hok' _ _ z⟩
    refine⟨rfl,⟨fun b o e=>?_,fun b o e=>?_⟩,os,bare⟩
    ·by_cases hb:∃ t∈tx.tbs,b=t.P
     ·obtain⟨t,ht,rfl⟩:=hb;obtain⟨c,hc,hP⟩:=hT t ht;obtain⟨ps,hps⟩:=grown t ht;rw[hP]at e;cases e;exact .inr (.inl ⟨(hc.tab hP).isCodeTable,rfl,#[],ps,rfl,by rw[Array.empty_append];exact hps⟩)
     ·exact .inl (same b o e hb)
    ·by_cases hb:∃ t∈tx.tbs,b=t.P
     ·obtain⟨t,ht,rfl⟩:=hb;obtain⟨ps,hps⟩:=grown t ht;exact⟨_,hps⟩
     ·exact⟨o,same b o e hb⟩
 cases hk:K.lookup a with
 |some o=>
  have e:=KX a o hk;rw[ha]at e;cases e;exact core false (fun h=>by cases h) fun _=>hk
 |none=>exact core true (fun _=>hk) fun h=>by cases h
theorem ykb{l:PySem.W.OpenLaw}{q:Program}{loose:List Str}{XP:(Str->Option Value)->Heap->Prop}{YP:World->Heap->Prop}{d:DefRec}{K:Params->PySem.W.Frag}{k:Nat}{x:Str}{fn:List D->M D}(xs:List Str)
  (hn:l.most=some 63) (hdf:d.params.defaults=[]) (hr:Room k callerA) (hY:∀ (w:World) (h:Heap),YP w h->(K w.params).In h)
  (hK:∀ w:World,yeb (K w.params) xs=true) (hrec:(xs.all fun x=>((recsOf q).find? fun e=>e.name == x).isSome)=true)
  (F:∀ (w:World) (mg:Str->Option Value) (h:Heap),(K w.params).In h->h.Ns mainGlobals mg->Tabs (K w.params) xs->∃ ca tbs,(∀ t∈tbs,∃ x∈xs,t.P=POf (K w.params) x)/\OkL ⟨K w.params,ca,⟨tbs,ylp (K w.params)⟩⟩ l.prog w mg k d.name [x] fn)
  (tr:∀ ns:List Int,ns.length<=63->∃ σ,fn [.scr ns] []=.ok (.bl true) σ) :
  PySem.W.WalkO q loose XP YP l.row.toRowW d [] (fun f vs=>PySem.call f vs):=by
 refine Att.attach_call hn hdf fun w s₀ s₁ mg mb fa o pm cd doc a vs ns G Y ho hd hcd hmg hobj hints hlen hg=>?_;have KX:=hY w _ Y;have TT:=zxb (hK w);obtain⟨ca,tbs,hP,f0,fd0,g1,g3,g4⟩:=F w mg _ KX G.T.g TT;rw[hmg]at g1;cases g1;obtain⟨bm,ob,b1,b2,b3,b4,b5,b6⟩:=G.T.bmain;have eb:=PySem.W.mg_of KX G.T.g TT.bm;rw[b1]at eb;cases eb;refine zhu (tx:=⟨tbs,ylp (K w.params)⟩) (ca:=ca) (ob:=ob) KX G.T.g G.T.b G.T.builtins G.T.nolimit hg hobj hints hlen hr TT.no b3 b4 b5 b6 TT.bk (fun t ht=>?_) g4 (fun s u=>.of_eq (g3 [u] rfl)) tr;obtain⟨y,hy,e⟩:=hP t ht;have z:=List.all_eq_true.mp hrec y hy;obtain⟨d',hd'⟩:=Option.isSome_iff_exists.mp z;have:=PySem.W.tab_of G.T KX hd' (TT.tab y hy);rw[e];exact⟨_,this.1,this.2⟩
theorem yj4{a b:Tab}{bm:Addr}(h:(a.P == b.P)=false):∀ t∈(⟨[a,b],bm⟩:Tx).tbs,∀ t'∈(⟨[a,b],bm⟩:Tx).tbs,t'.P=t.P->t'=t:=by
 have n:a.P≠b.P:=by simpa using h
 intro t ht t' ht' e;simp only[List.mem_cons,List.not_mem_nil,or_false]at ht ht';rcases ht with rfl|rfl<;>rcases ht' with rfl|rfl
 ·rfl
 ·exact absurd e.symm n
 ·exact absurd e n
 ·rfl
def zt9(x:D)(xs:List D):M D:=fun σ=>match x,xs with
 | .ref n,[y]=>(match yhf σ n with
  |some ys=>(match ym3 σ y with
   |some zs=>if ys.length+zs.length<=cap then .ok .non (σ.set n (.lst (ys++zs)))else .bad
   |none=>.bad)
  |none=>.bad)
 |_,_=>.bad
section
variable{T:Tb}
theorem zf7:ye5 T zvj zt9:=by
 intro E μ H σ x xs v vs Q r p q h;cases x with
 |ref n=>
  match xs with
  |[]=>exact h.elim
  |[y]=>
   rw[yk4]at q;obtain⟨w,z,rfl,q1,q2⟩:=q;rw[yk4]at q2;subst q2;unfold zt9 at h;cases el:yhf σ n with
   |none=>simp only[el]at h;exact h.elim
   |some ys=>
    simp only[el]at h;cases em:ym3 σ y with
    |none=>simp only[em]at h;exact h.elim
    |some zs=>
     simp only[em]at h;by_cases hc:ys.length+zs.length<=cap
     ·rw[if_pos hc]at h;obtain⟨a,vs,rfl,hn,h1,h2⟩:=r.lst p el;obtain⟨b,us,rfl,h3,h4⟩:=r.ls q1 em;have wr:=r.write (o:=.lst (vs++us)) (ob:=.lst (ys++zs)) hn ⟨_,zo8,by
       have ex:Ext μ H μ (upd H a (.lst (vs++us))):=zg7 (List.mem_of_getElem? hn) h1 (fun _ z=>by cases z) (fun _ _ z=>by cases z);exact yk4.append (yk4.mono ex _ _ h2) (yk4.mono ex _ _ h4)⟩
      exact⟨a,b,vs,us,rfl,rfl,h1,h3,by rw[<-h2.length,<-h4.length];exact zx8 hc,h _ _ _ wr.1 wr.2 (by rw[Rep])⟩
     ·rw[if_neg hc]at h;exact h.elim
  |_::_::_=>exact h.elim
 |_=>exact h.elim
end
section
variable{T:Tb}{X:Cx}
end
section
variable{X:Cx}{pins:List (Addr × Obj)}{st:St}{H:Hp}{s:Shared}{x z0 z1:Str}{M':List Str}{ix:List Nat}{scope:Scope}{fp:List Addr}
end
section
variable{T:Tb}{X:Cx}
end
section
variable{T:Tb}{X:Cx}{pins:List (Addr × Obj)}{st:St}{H:Hp}{s:Shared}{μ:List Addr}{σ:Sto}
end
section
variable{T:Tb}{X:Cx}
end
section
variable{T:Tb}{X:Cx}{x y:Str}{p pos:Pos}{ss:List Str}
end
section
variable{T:Tb}{μ μ':List Addr}{H H':Hp}{σ:Sto}{a:Addr}
mutual
theorem Rep.chg(hk:∀ b,b≠a->H' b=H b)(ha:a∈μ)(h1:∀ xs,H a≠some (.tup xs))(h2:∀ o xs,H a≠some (.frz o (.lst xs))):∀ (d:D) (v:V),Rep T μ H d v->Rep T μ H' d v
 | .non,v,h=>by simpa [Rep]using h
 | .bl b,v,h=>by simpa [Rep]using h
 | .int i,v,h=>by simpa [Rep]using h
 | .str x,v,h=>by simpa [Rep]using h
 | .tup ds,v,h=>by
  rw[Rep]at h ⊢;obtain⟨p,vs,e1,e2,e3⟩:=h;exact⟨p,vs,e1,by rw[hk p (fun z=>h1 _ (by rw[<-z];exact e2))];exact e2,yk4.chg hk ha h1 h2 ds vs e3⟩
 | .scr ns,v,h=>by
  rw[Rep]at h ⊢;obtain⟨p,e1,e2⟩:=h;refine⟨p,e1,?_⟩;rcases e2 with⟨o,e2⟩|e2
  ·exact .inl ⟨o,by rw[hk p (fun z=>h2 _ _ (by rw[<-z];exact e2))];exact e2⟩
  ·exact .inr e2
 | .ref n,v,h=>by rw[Rep]at h ⊢;exact h
 | .lst ds,v,h=>by
  rw[Rep]at h ⊢;obtain⟨p,vs,e1,e0,e2,e3⟩:=h;exact⟨p,vs,e1,e0,by rw[hk p (fun z=>e0 (by rw[z];exact ha))];exact e2,yk4.chg hk ha h1 h2 ds vs e3⟩
 | .dic ks ds,v,h=>by
  rw[Rep]at h ⊢;obtain⟨p,vs,e1,e0,e2,e4,e3⟩:=h;exact⟨p,vs,e1,e0,by unfold Rd at e2 ⊢;rw[hk p (fun z=>e0 (by rw[z];exact ha))];exact e2,e4,yk4.chg hk ha h1 h2 ds _ e3⟩
 | .obj c ns ds,v,h=>by
  rw[Rep]at h ⊢;obtain⟨p,dx,vs,e1,e0,e2,e4,e3⟩:=h;exact⟨p,dx,vs,e1,e0,by rw[hk p (fun z=>e0 (by rw[z];exact ha))];exact e2,e4,yk4.chg hk ha h1 h2 ds _ e3⟩
 | .exn c,v,h=>by
  rw[Rep]at h ⊢;obtain⟨p,dd,e1,e0,e2,e3⟩:=h;refine⟨p,dd,e1,e0,by rw[hk p (fun z=>e0 (by rw[z];exact ha))];exact e2,fun n q=>?_⟩;obtain⟨dN,q1,q2,q3⟩:=e3 n q;exact⟨dN,q1,q2,by rw[hk dN (fun z=>q2 (by rw[z];exact ha))];exact q3⟩
 | .gt ss,v,h=>by rw[Rep]at h ⊢;exact h
theorem yk4.chg(hk:∀ b,b≠a->H' b=H b)(ha:a∈μ)(h1:∀ xs,H a≠some (.tup xs))(h2:∀ o xs,H a≠some (.frz o (.lst xs))):∀ (ds:List D) (vs:List V),yk4 T μ H ds vs->yk4 T μ H' ds vs
 |[],vs,h=>by simpa [yk4]using h
 |d::ds,vs,h=>by
  rw[yk4]at h ⊢;obtain⟨v,r,e1,e2,e3⟩:=h;exact⟨v,r,e1,Rep.chg hk ha h1 h2 d v e2,yk4.chg hk ha h1 h2 ds r e3⟩
end
theorem zfr{α:Type}(hk:∀ b,b≠a->H' b=H b)(ha:a∈μ)(h1:∀ xs,H a≠some (.tup xs))(h2:∀ o xs,H a≠some (.frz o (.lst xs))){xs:List (α × D)}{ys:List (α × V)}(h:Paired (fun(p:α × D) (q:α × V)=>p.1=q.1/\Rep T μ H p.2 q.2) xs ys) :
  Paired (fun(p:α × D) (q:α × V)=>p.1=q.1/\Rep T μ H' p.2 q.2) xs ys:=L2.Paired.mapP h fun p q z=>⟨z.1,Rep.chg hk ha h1 h2 _ _ z.2⟩
theorem ObR.chg(hk:∀ b,b≠a->H' b=H b)(ha:a∈μ)(h1:∀ xs,H a≠Option.some (.tup xs))(h2:∀ o xs,H a≠Option.some (.frz o (.lst xs))){b:Addr}(hb:b≠a):∀ {o:Ob},ObR T μ H b o->ObR T μ H' b o
 | .lst ds,⟨vs,h,r⟩=>⟨vs,(hk b hb).trans h,yk4.chg hk ha h1 h2 _ _ r⟩
 | .dic kvs,⟨vs,h,r⟩=>⟨vs,(hk b hb).trans h,zfr hk ha h1 h2 r⟩
 | .ins c fs,⟨dx,vs,h,r⟩=>⟨dx,vs,(hk b hb).trans h,zfr hk ha h1 h2 r⟩
 | .fdic kvs,⟨ob,vs,h,r⟩=>⟨ob,vs,(hk b hb).trans h,zfr hk ha h1 h2 r⟩
theorem Rel.chg(r:Rel T μ H σ)(hk:∀ b,b≠a->H' b=H b){n:Nat}(hn:μ[n]?=some a)(h1:∀ xs,H a≠some (.tup xs))(h2:∀ o xs,H a≠some (.frz o (.lst xs))){ob:Ob}(ho:ObR T μ H' a ob):Rel T μ H' (σ.set n ob):=by
 have ha:=List.mem_of_getElem? hn;refine⟨by simp[r.len],r.nd,fun m x h=>?_,r.tb.out hk (.inl ha)⟩;rw[List.getElem?_set]at h;by_cases hm:n=m
 ·subst hm;rw[if_pos rfl]at h;split at h
  ·cases h;exact⟨a,hn,ho⟩
  ·cases h
 ·rw[if_neg hm]at h;obtain⟨b,h3,h4⟩:=r.obs m x h;exact⟨b,h3,h4.chg hk ha h1 h2 (fun z=>hm (by subst z;exact zmy r.nd hn h3))⟩
end
theorem _root_.L2.Inv.thaw{X:Cx}{pins:List (Addr × Obj)}{st:St}{H:Hp}{s:Shared}{a:Addr}{od:Obj}{kvs:List (Key × V)}(I:Inv X pins st H s)(hd:H a=some (.frz od (.dK kvs)))(h0:∀ o u,X.H₀ a≠some (.frz o u)):Inv X pins st (upd H a (.dK kvs)) s:=by
 have ne:∀ b u,H b=some u->(∀ o w,u≠.frz o w)->b≠a:=fun b u q n z=>by rw[z,hd]at q;exact n _ _ (Option.some.inj q).symm
 refine⟨I.ok,I.os,I.bare,⟨I.base.keep,I.base.slot,fun b o e n hx=>?_,I.base.there,fun b xs e=>?_,fun b o u e=>?_,fun b ps e=>?_⟩,I.loc,I.cell,?_,fun x c e=>?_,fun p hp=>?_,fun b u e=>?_,I.len⟩
 ·have:=I.base.free b o e n hx;rw[yep (fun z=>by rw[z,hd]at this;cases this)];exact this
 ·have:=I.base.tups b xs e;rw[yep (ne b _ this (fun _ _ z=>by cases z))];exact this
 ·have:=I.base.frzs b o u e;rw[yep (fun z=>h0 o u (by rw[<-z];exact e))];exact this
 ·obtain⟨more,this⟩:=I.base.tbls b ps e;exact⟨more,by rw[yep (ne b _ this (fun _ _ z=>by cases z))];exact this⟩
 ·rw[yep (fun z=>by have:=I.free;rw[z,hd]at this;cases this)];exact I.free
 ·have:=I.freeC x c e;rw[yep (fun z=>by rw[z,hd]at this;cases this)];exact this
 ·obtain⟨q1,q2,q3⟩:=I.pin p hp;exact⟨q1,by rw[yep (fun z=>by rw[z,hd]at q2;cases q2)];exact q2,q3⟩
 ·by_cases hb:b=a
  ·subst hb;rw[zo8]at e;cases e;exact(I.hok b _ hd).2
  ·rw[yep hb]at e;refine(I.hok b u e).stay (fun c v _ z=>z) (fun c z=>?_) fun c xs z=>?_
   ·rw[yep (ne c _ z (fun _ _ y=>by cases y))];exact z
   ·rw[yep (ne c _ z (fun _ _ y=>by cases y))];exact z
section
variable{T:Tb}{X:Cx}{elts:List Expr}{kk:Nat}{p0:Pos}
def yaq(d:D):M NX:=fun σ=>match d with
 | .dic ks xs=>if ks.length=xs.length then .ok (nxI (ks.zip xs)) σ else .bad
 | .ref n=>(match σ[n]? with
  |some (.dic kvs)=>.ok (nxI kvs) (σ.set n (.fdic kvs))
  |some (.fdic kvs)=>.ok (nxI kvs) σ
  |_=>.bad)
 |_=>.bad
def yj3{α:Type}(ok:α->Bool)(n:Nat):Out α->Out α
 | .ok a σ=>if ok a=true then (match σ[n]? with
  |some (.fdic kvs)=>.ok a (σ.set n (.dic kvs))
  |_=>.bad)else .bad
 |_=>.bad
def thw{α:Type}(ok:α->Bool)(m:M D)(g:M α):M α:=fun σ=>match m σ with
 | .ok (.ref n) _=>(match σ[n]? with
  |some (.dic _)=>yj3 ok n (g σ)
  |_=>g σ)
 |_=>g σ
def yf5(f:Ev->M D)(g:Ev->M D):Ev->M D:=fun ρ=>thw (fun _=>true) (f ρ) (g ρ)
theorem zo3{μ μ':List Addr}{H H':Hp}{a:Addr}{vs0 vs:List (Key × V)}{od:Obj}(ex:Ext μ H μ' H')(ham:a∈μ)(ha:H a=some (.dK vs0))(hz:H' a=some (.frz od (.dK vs))):Ext μ H μ' (upd H' a (.dK vs)):=by
 refine⟨ex.pre,fun p xs h=>?_,fun p o u h=>?_,fun p o h n=>?_⟩
 ·rw[yep (fun z=>by rw[z,ha]at h;cases h)];exact ex.tup p xs h
 ·rw[yep (fun z=>by rw[z,ha]at h;cases h)];exact ex.frz p o u h
 ·rw[yep (fun z=>n (by rw[z];exact ham))];exact ex.keep p o h n
theorem zja{α γ:Type}{E:XK}{R:List Addr->Hp->α->γ->Prop}{ok:α->Bool}{μ:List Addr}{H:Hp}{n:Nat}{a:Addr}{vs0:List (Key × V)}{o:Out α}{Q:γ->Hp->Prop}(hn:μ[n]?=some a)(ha:H a=some (.dK vs0))
  (hR:∀ (μ':List Addr) (H':Hp) (d:α) (g:γ) (od:Obj) (vs:List (Key × V)),a∈μ'->H' a=some (.frz od (.dK vs))->ok d=true->R μ' H' d g->R μ' (upd H' a (.dK vs)) d g) (h:yky T E R μ H (yj3 ok n o) Q) :
  yky T E R μ H o (fun g H'=>∃ od vs,H' a=some (.frz od (.dK vs))/\Q g (upd H' a (.dK vs))/\∃ μ' d,ok d=true/\R μ' H' d g):=by
 cases o with
 |bad=>exact h
 |ex x σ'=>exact h.elim
 |ok d σ'=>
  unfold yj3 at h;dsimp only at h;by_cases hok:ok d=true
  ·rw[if_pos hok]at h;cases es:σ'[n]? with
   |none=>rw[es]at h;exact h.elim
   |some ob=>
    rw[es]at h;cases ob with
    |fdic kvs=>
     intro μ' g H' ex r rf;obtain⟨a',hn',od,vs,hz,hrk⟩:=r.obs n _ es;have hna:=ex.get hn;rw[hna]at hn';cases hn';have ham:a∈μ':=List.mem_of_getElem? hna;have hk:∀ b,b≠a->upd H' a (.dK vs) b=H' b:=fun b hb=>yep hb;have g1:∀ xs,H' a≠some (.tup xs):=fun xs z=>by rw[hz]at z;cases z
     have g2:∀ o xs,H' a≠some (.frz o (.lst xs)):=fun o xs z=>by rw[hz]at z;cases z
     exact⟨od,vs,hz,h μ' g _ (zo3 ex (List.mem_of_getElem? hn) ha hz) (r.chg hk hna g1 g2 ⟨vs,zo8,zfr hk ham g1 g2 hrk⟩) (hR μ' H' d g od vs ham hz hok rf),μ',d,hok,rf⟩
    |_=>exact h.elim
  ·rw[if_neg hok]at h;exact h.elim
theorem zn0{μ':List Addr}{H':Hp}{a:Addr}{od:Obj}{vs:List (Key × V)}(ham:a∈μ')(hz:H' a=some (.frz od (.dK vs)))(d:D)(v:V)(h:Rep T μ' H' d v):Rep T μ' (upd H' a (.dK vs)) d v:=
 Rep.chg (fun b hb=>yep hb) ham (fun xs z=>by rw[hz]at z;cases z) (fun o xs z=>by rw[hz]at z;cases z) d v h
theorem zrg{e:Expr}{f g:Ev->M D}(h:FE T X e g):FE T X e (yf5 f g):=by
 intro pins sh st H Q I hq;obtain⟨μ,ρ,σ,hE,hr,hp⟩:=hq;have plain:yky T (XE X st) (Rep T) μ H (g ρ σ) Q->wpAny (model X.prog X.w) X.A (eval e X.env) (EP X pins st Q) X.xe sh:=fun q=>h pins sh st H Q I ⟨μ,ρ,σ,hE,hr,q⟩;unfold yf5 thw at hp;split at hp
 ·rename_i n _ _
  split at hp
  ·rename_i kv0 es
   obtain⟨a,hn,vs0,ha,_⟩:=hr.obs n _ es;have h0:∀ o u,X.H₀ a≠some (.frz o u):=fun o u z=>by have:=I.base.frzs a o u z;rw[ha]at this;cases this
   have q:=zja hn ha (fun μ' H' d v od vs ham hz _ rf=>zn0 ham hz d v rf) hp;refine wpAny_mono (h pins sh st H _ I ⟨μ,ρ,σ,hE,hr,q⟩) (fun u s' z=>?_) fun _ _ z=>z;obtain⟨v,H',I',rv,od,vs,hz,hq,_⟩:=z;exact⟨v,_,I'.thaw hz h0,rv,hq⟩
  ·exact plain hp
 ·exact plain hp
end
end L4
namespace L4
open PySem PySem.Spec PyProof.Rows L2
section
variable{T:Tb}{X:Cx}{tg:Expr}
end
def yhv(x y:D):M D:=fun σ=>match ym3 σ x,ym3 σ y with
 |some xs,some ys=>if xs.length+ys.length<=cap then yho (xs++ys) σ else .bad
 |_,_=>.bad
section
variable{T:Tb}{X:Cx}
theorem zum:OpR X (binaryOp .Add) (rD T yhv):=by
 intro pins s st H v u v' u' Q I rv ru h;obtain⟨E,μ,σ,x,y,r,hx,hy,hp⟩:=h;unfold yhv at hp;cases e1:ym3 σ x with
 |none=>rw[e1]at hp;exact hp.elim
 |some xs=>
  cases e2:ym3 σ y with
  |none=>rw[e1,e2]at hp;exact hp.elim
  |some ys=>
   rw[e1,e2]at hp;dsimp only at hp;by_cases hc:xs.length+ys.length<=cap
   ·rw[if_pos hc]at hp;obtain⟨p,vs,rfl,h1,h2⟩:=r.ls hx e1;obtain⟨q,ws,rfl,h3,h4⟩:=r.ls hy e2;exact yb6 pins s st H _ _ v' u' Q I rv ru ⟨p,q,vs,ws,rfl,rfl,h1,h3,by rw[<-h2.length,<-h4.length];exact zx8 hc,fun l hl=>zt0 hp r (yk4.append h2 h4) hl⟩
   ·rw[if_neg hc]at hp;exact hp.elim
end
def ymt(n:Nat):List Nat->Option Nat
 |[]=>none
 |j::js=>if j=n then some 0 else (ymt n js).map (·+ 1)
theorem zl3{n:Nat}:∀ {js:List Nat} {i:Nat},ymt n js=some i->js[i]?=some n
 |j::js,i,h=>by
  unfold ymt at h;by_cases e:j=n
  ·rw[if_pos e]at h;cases h;simp[e]
  ·rw[if_neg e]at h;obtain⟨k,h1,h2⟩:=Option.map_eq_some_iff.mp h;subst h2;simpa using zl3 h1
theorem zhi{n:Nat}:∀ {js:List Nat},ymt n js=none->n ∉ js
 |[],_=>by simp
 |j::js,h=>by
  unfold ymt at h;by_cases e:j=n
  ·rw[if_pos e]at h;cases h
  ·rw[if_neg e]at h;have:=zhi (js:=js) (by simpa using h);simp[this,Ne.symm e]
def fzJ(k:Nat)(js:List Nat)(σ:Sto):Nat->D->Option D
 |0,d=>if cl d=true then some d else match d with
  | .ref n=>if n<k then some (.ref n)else (ymt n js).map fun i=>.ref (k+i)
  |_=>none
 |m+1,d=>if cl d=true then some d else match d with
  | .ref n=>if n<k then some (.ref n)else match ymt n js with
   |some i=>some (.ref (k+i))
   |none=>match σ[n]? with
    |some (.lst xs)=>(fzL (fzJ k js σ m) xs).map .lst
    |some (.dic kvs)=>(fzL (fzJ k js σ m) (kvs.map (·.2))).map (.dic (kvs.map (·.1)))
    |_=>none
  | .tup xs=>(fzL (fzJ k js σ m) xs).map .tup
  | .lst xs=>(fzL (fzJ k js σ m) xs).map .lst
  |_=>none
def okJ:Ob->Bool
 | .lst xs=>clL xs
 | .dic kvs=>clL (kvs.map (·.2))
 |_=>false
def obJ(σ:Sto)(j:Nat):Ob:=(σ[j]?).getD (.lst [])
open Classical in
noncomputable def ygm(sel:Nat->Sto->D->List Nat)(σ:Sto):Out D->Out D
 | .ok d σ'=>if σ'.take σ.length=σ/\(sel σ.length σ' d).Nodup/\(∀ j∈sel σ.length σ' d,σ.length<=j/\j<σ'.length/\okJ (obJ σ' j)=true)then
   (match fzJ σ.length (sel σ.length σ' d) σ' 6 d with
   |some d'=>.ok d' (σ++(sel σ.length σ' d).map (obJ σ'))
   |none=>.bad)else .bad
 | .ex x σ'=>if σ'.take σ.length=σ then .ex x σ else .bad
 | .bad=>.bad
noncomputable def frzJ(sel:Nat->Sto->D->List Nat)(f:M D):M D:=fun σ=>ygm sel σ (f σ)
def DnJ(μ μ' μ2:List Addr):Prop:=(∃ r,μ'=μ++r)/\(∀ (n:Nat) (a:Addr),μ[n]?=some a->μ2[n]?=some a)/\∀ a∈μ2,a∈μ'
section
variable{T:Tb}{μ μ' μ2:List Addr}{H H':Hp}{σ σ':Sto}
mutual
theorem zj4(e:∀ a∈μ2,a∈μ'):∀ (d:D) (v:V),cl d=true->Rep T μ' H d v->Rep T μ2 H d v
 | .non,v,_,h=>by simpa [Rep]using h
 | .bl b,v,_,h=>by simpa [Rep]using h
 | .int i,v,_,h=>by simpa [Rep]using h
 | .str x,v,_,h=>by simpa [Rep]using h
 | .tup ds,v,c,h=>by
  rw[Rep]at h ⊢;obtain⟨p,vs,h1,h2,h3⟩:=h;exact⟨p,vs,h1,h2,zgz e ds vs (by simpa [cl]using c) h3⟩
 | .scr ns,v,_,h=>by rw[Rep]at h ⊢;exact h
 | .ref n,v,c,h=>by simp[cl]at c
 | .lst ds,v,c,h=>by
  rw[Rep]at h ⊢;obtain⟨a,vs,h1,h2,h3,h4⟩:=h;exact⟨a,vs,h1,fun z=>h2 (e _ z),h3,zgz e ds vs (by simpa [cl]using c) h4⟩
 | .dic ks ds,v,c,h=>by
  rw[Rep]at h ⊢;obtain⟨a,vs,h1,h2,h3,h5,h4⟩:=h;exact⟨a,vs,h1,fun z=>h2 (e _ z),h3,h5,zgz e ds _ (by simpa [cl]using c) h4⟩
 | .obj k ns ds,v,c,h=>by
  rw[Rep]at h ⊢;obtain⟨a,dx,vs,h1,h2,h3,h5,h4⟩:=h;exact⟨a,dx,vs,h1,fun z=>h2 (e _ z),h3,h5,zgz e ds _ (by simpa [cl]using c) h4⟩
 | .exn k,v,_,h=>by
  rw[Rep]at h ⊢;obtain⟨a,dd,h1,h2,h3,h4⟩:=h;exact⟨a,dd,h1,fun z=>h2 (e _ z),h3,fun n q=>let ⟨dN,q1,q2,q3⟩:=h4 n q;⟨dN,q1,fun z=>q2 (e _ z),q3⟩⟩
 | .gt ss,v,_,h=>by rw[Rep]at h ⊢;exact h
theorem zgz(e:∀ a∈μ2,a∈μ'):∀ (ds:List D) (vs:List V),clL ds=true->yk4 T μ' H ds vs->yk4 T μ2 H ds vs
 |[],vs,_,h=>by simpa [yk4]using h
 |d::ds,vs,c,h=>by
  rw[yk4]at h ⊢;obtain⟨v,r,h1,h2,h3⟩:=h;have c':cl d=true/\clL ds=true:=by simpa [clL,Bool.and_eq_true]using c
  exact⟨v,r,h1,zj4 e d v c'.1 h2,zgz e ds r c'.2 h3⟩
end
mutual
theorem RepJ.down(e:DnJ μ μ' μ2):∀ (d:D) (v0 v:V),Rep T μ H d v0->Rep T μ' H' d v->Rep T μ2 H' d v
 | .non,v0,v,_,h=>by simpa [Rep]using h
 | .bl b,v0,v,_,h=>by simpa [Rep]using h
 | .int i,v0,v,_,h=>by simpa [Rep]using h
 | .str x,v0,v,_,h=>by simpa [Rep]using h
 | .tup ds,v0,v,c,h=>by
  rw[Rep]at h c ⊢;obtain⟨p,vs,h1,h2,h3⟩:=h;obtain⟨p0,vs0,_,_,c3⟩:=c;exact⟨p,vs,h1,h2,RepJL.down e ds vs0 vs c3 h3⟩
 | .scr ns,v0,v,_,h=>by rw[Rep]at h ⊢;exact h
 | .ref n,v0,v,c,h=>by
  rw[Rep]at h c ⊢;obtain⟨a,h1,h2⟩:=h;obtain⟨b,_,c2⟩:=c;refine⟨a,h1,?_⟩;have h3:=e.2.1 _ _ c2;obtain⟨⟨r,rfl⟩,_⟩:=e;rw[List.getElem?_append_left (List.getElem?_eq_some_iff.mp c2).1]at h2;rw[c2]at h2;cases h2;exact h3
 | .lst ds,v0,v,c,h=>by
  rw[Rep]at h c ⊢;obtain⟨a,vs,h1,h2,h3,h4⟩:=h;obtain⟨_,vs0,_,_,_,c4⟩:=c;exact⟨a,vs,h1,fun z=>h2 (e.2.2 _ z),h3,RepJL.down e ds vs0 vs c4 h4⟩
 | .dic ks ds,v0,v,c,h=>by
  rw[Rep]at h c ⊢;obtain⟨a,vs,h1,h2,h3,h5,h4⟩:=h;obtain⟨_,vs0,_,_,_,_,c4⟩:=c;exact⟨a,vs,h1,fun z=>h2 (e.2.2 _ z),h3,h5,RepJL.down e ds _ _ c4 h4⟩
 | .obj k ns ds,v0,v,c,h=>by
  rw[Rep]at h c ⊢;obtain⟨a,dx,vs,h1,h2,h3,h5,h4⟩:=h;obtain⟨_,_,vs0,_,_,_,_,c4⟩:=c;exact⟨a,dx,vs,h1,fun z=>h2 (e.2.2 _ z),h3,h5,RepJL.down e ds _ _ c4 h4⟩
 | .exn k,v0,v,_,h=>by
  rw[Rep]at h ⊢;obtain⟨a,dd,h1,h2,h3,h4⟩:=h;exact⟨a,dd,h1,fun z=>h2 (e.2.2 _ z),h3,fun n q=>let ⟨dN,q1,q2,q3⟩:=h4 n q;⟨dN,q1,fun z=>q2 (e.2.2 _ z),q3⟩⟩
 | .gt ss,v0,v,_,h=>by rw[Rep]at h ⊢;exact h
theorem RepJL.down(e:DnJ μ μ' μ2):∀ (ds:List D) (vs0 vs:List V),yk4 T μ H ds vs0->yk4 T μ' H' ds vs->yk4 T μ2 H' ds vs
 |[],vs0,vs,_,h=>by simpa [yk4]using h
 |d::ds,vs0,vs,c,h=>by
  rw[yk4]at h c ⊢;obtain⟨v,r,h1,h2,h3⟩:=h;obtain⟨v0,r0,_,c2,c3⟩:=c;exact⟨v,r,h1,RepJ.down e d v0 v c2 h2,RepJL.down e ds r0 r c3 h3⟩
end
theorem zde{α:Type}(e:DnJ μ μ' μ2):∀ {xs:List (α × D)} {ys zs:List (α × V)},Paired (fun(p:α × D) (q:α × V)=>p.1=q.1/\Rep T μ H p.2 q.2) xs zs->Paired (fun(p:α × D) (q:α × V)=>p.1=q.1/\Rep T μ' H' p.2 q.2) xs ys->Paired (fun(p:α × D) (q:α × V)=>p.1=q.1/\Rep T μ2 H' p.2 q.2) xs ys
 |_,_,_,.nil,.nil=>.nil
 |_,_,_,.cons a b,.cons c d=>.cons ⟨c.1,RepJ.down e _ _ _ a.2 c.2⟩ (zde e b d)
theorem ObR.downJ(e:DnJ μ μ' μ2){a:Addr}:∀ {o:Ob},ObR T μ H a o->ObR T μ' H' a o->ObR T μ2 H' a o
 | .lst ds,⟨_,_,c⟩,⟨vs,h,r⟩=>⟨vs,h,RepJL.down e _ _ _ c r⟩
 | .dic kvs,⟨_,_,c⟩,⟨vs,h,r⟩=>⟨vs,h,zde e c r⟩
 | .ins c fs,⟨_,_,_,c'⟩,⟨dx,vs,h,r⟩=>⟨dx,vs,h,zde e c' r⟩
 | .fdic kvs,⟨_,_,_,c'⟩,⟨ob,vs,h,r⟩=>⟨ob,vs,h,zde e c' r⟩
theorem zsc{js:List Nat}(e:DnJ μ μ' μ2)(hj:∀ i n,js[i]?=some n->∀ a,μ'[n]?=some a->μ2[μ.length+i]?=some a)(hn2:∀ a∈μ2,a∈μ\/∃ n∈js,μ'[n]?=some a)(r:Rel T μ' H σ'):∀ (m:Nat) (d d':D) (v:V),fzJ μ.length js σ' m d=some d'->Rep T μ' H d v->Rep T μ2 H d' v:=by
 have old:∀ n v,n<μ.length->Rep T μ' H (.ref n) v->Rep T μ2 H (.ref n) v:=fun n v hn h=>by
  rw[Rep]at h ⊢;obtain⟨a,h1,h2⟩:=h;have h3:=e.2.1 n;obtain⟨⟨q,rfl⟩,_⟩:=e;rw[List.getElem?_append_left hn]at h2;exact⟨a,h1,h3 _ h2⟩
 have stay:∀ n i v,ymt n js=some i->Rep T μ' H (.ref n) v->Rep T μ2 H (.ref (μ.length+i)) v:=fun n i v hi h=>by
  rw[Rep]at h ⊢;obtain⟨a,h1,h2⟩:=h;exact⟨a,h1,hj i n (zl3 hi) a h2⟩
 intro m;induction m with
 |zero=>
  intro d d' v h hr;unfold fzJ at h;by_cases hc:cl d=true
  ·rw[if_pos hc]at h;cases h;exact zj4 e.2.2 _ _ hc hr
  ·rw[if_neg hc]at h;cases d with
   |ref n=>
    dsimp only at h;by_cases hn:n<μ.length
    ·rw[if_pos hn]at h;cases h;exact old n v hn hr
    ·rw[if_neg hn]at h;obtain⟨i,h1,h2⟩:=Option.map_eq_some_iff.mp h;subst h2;exact stay n i v h1 hr
   |_=>cases h
 |succ m ih=>
  intro d d' v h hr;unfold fzJ at h;by_cases hc:cl d=true
  ·rw[if_pos hc]at h;cases h;exact zj4 e.2.2 _ _ hc hr
  ·rw[if_neg hc]at h;have go:=zsh (T:=T) (μ:=μ2) (μ':=μ') (H:=H) (f:=fzJ μ.length js σ' m) (fun d d' v a b=>ih d d' v a b);cases d with
   |ref n=>
    dsimp only at h;by_cases hn:n<μ.length
    ·rw[if_pos hn]at h;cases h;exact old n v hn hr
    ·rw[if_neg hn]at h;cases ei:ymt n js with
     |some i=>rw[ei]at h;cases h;exact stay n i v ei hr
     |none=>
      rw[ei]at h;dsimp only at h;cases es:σ'[n]? with
      |none=>rw[es]at h;cases h
      |some o=>
       rw[es]at h;obtain⟨a,rfl,ha,hob⟩:=r.at hr es;have out:a ∉ μ2:=fun z=>by
        rcases hn2 a z with z|⟨n',h1,h2⟩
        ·obtain⟨i,hi⟩:=List.getElem?_of_mem z;obtain⟨⟨q,rfl⟩,_⟩:=e;have hl:=(List.getElem?_eq_some_iff.mp hi).1;have:=zmy r.nd (i:=i) (j:=n) (by rw[List.getElem?_append_left hl];exact hi) ha;omega
        ·have:=zmy r.nd (i:=n') (j:=n) h2 ha;subst this;exact zhi ei h1
       cases o with
       |lst xs=>
        obtain⟨ys,h1,h2⟩:=Option.map_eq_some_iff.mp h;subst h2;obtain⟨vs,h3,h4⟩:=hob;rw[Rep];exact⟨a,vs,rfl,out,h3,go xs ys vs h1 h4⟩
       |dic kvs=>
        obtain⟨ys,h1,h2⟩:=Option.map_eq_some_iff.mp h;subst h2;obtain⟨vs,h3,h4⟩:=hob;obtain⟨h5,h6⟩:=zfx h4;rw[Rep];exact⟨a,vs,rfl,out,(.inl h3),h5,go _ ys _ h1 h6⟩
       |ins c fs=>cases h
       |fdic kvs=>cases h
   |tup xs=>
    obtain⟨ys,h1,h2⟩:=Option.map_eq_some_iff.mp h;subst h2;rw[Rep]at hr ⊢;obtain⟨p,vs,e1,e2,e3⟩:=hr;exact⟨p,vs,e1,e2,go xs ys vs h1 e3⟩
   |lst xs=>
    obtain⟨ys,h1,h2⟩:=Option.map_eq_some_iff.mp h;subst h2;rw[Rep]at hr ⊢;obtain⟨p,vs,e1,e0,e2,e3⟩:=hr;exact⟨p,vs,e1,fun z=>e0 (e.2.2 _ z),e2,go xs ys vs h1 e3⟩
   |_=>cases h
theorem zfq{α:Type}(e:∀ a∈μ2,a∈μ'):∀ {xs:List (α × D)} {ys:List (α × V)},clL (xs.map (·.2))=true->Paired (fun(p:α × D) (q:α × V)=>p.1=q.1/\Rep T μ' H p.2 q.2) xs ys->Paired (fun(p:α × D) (q:α × V)=>p.1=q.1/\Rep T μ2 H p.2 q.2) xs ys
 |_,_,_,.nil=>.nil
 |_,_,c,.cons a b=>by
  have c':=(by simpa [clL,Bool.and_eq_true]using c:_/\_)
  exact .cons ⟨a.1,zj4 e _ _ c'.1 a.2⟩ (zfq e c'.2 b)
theorem ObR.clJ(e:∀ a∈μ2,a∈μ'){a:Addr}:∀ {o:Ob},okJ o=true->ObR T μ' H a o->ObR T μ2 H a o
 | .lst ds,c,⟨vs,h,r⟩=>⟨vs,h,zgz e _ _ c r⟩
 | .dic kvs,c,⟨vs,h,r⟩=>⟨vs,h,zfq e c r⟩
 | .ins _ _,c,_=>by cases c
 | .fdic _,c,_=>by cases c
theorem Rel.downJ{μ1:List Addr}{H1:Hp}{σ1:Sto}{js:List Nat}(r:Rel T μ H σ)(r1:Rel T μ1 H1 σ1)(e1:Ext μ H μ1 H1)(ht:σ1.take σ.length=σ)(hnd:js.Nodup)(hjs:∀ j∈js,σ.length<=j/\j<σ1.length/\okJ (obJ σ1 j)=true) :
  ∃ μ2,DnJ μ μ1 μ2/\Ext μ H μ2 H1/\Rel T μ2 H1 (σ++js.map (obJ σ1))/\∀ m d d' v,fzJ σ.length js σ1 m d=some d'->Rep T μ1 H1 d v->Rep T μ2 H1 d' v:=by
 obtain⟨q,hq⟩:=e1.pre;have lt1:∀ j∈js,j<μ1.length:=fun j hj=>by rw[r1.len];exact(hjs j hj).2.1
 have hget:∀ j∈js,μ1[j]?=some (μ1[j]?.getD 0):=fun j hj=>by rw[List.getElem?_eq_getElem (lt1 j hj)];rfl
 let μ2:=μ++js.map fun j=>μ1[j]?.getD 0;have hA:∀ (n:Nat) (a:Addr),μ[n]?=some a->μ2[n]?=some a:=fun n a h=>by
  show (μ++_)[n]?=_;rw[List.getElem?_append_left (List.getElem?_eq_some_iff.mp h).1];exact h
 have hn2:∀ a∈μ2,a∈μ\/∃ n∈js,μ1[n]?=some a:=fun a ha=>by
  rcases List.mem_append.mp ha with ha|ha
  ·exact .inl ha
  ·obtain⟨j,h1,h2⟩:=List.mem_map.mp ha;exact .inr ⟨j,h1,by rw[hget j h1,h2]⟩
 have hB:∀ a∈μ2,a∈μ1:=fun a ha=>by
  rcases hn2 a ha with ha|⟨n,_,h2⟩
  ·rw[hq];exact List.mem_append_left _ ha
  ·exact List.mem_of_getElem? h2
 have hj:∀ i n,js[i]?=some n->∀ a,μ1[n]?=some a->μ2[μ.length+i]?=some a:=fun i n h1 a h2=>by
  show (μ++_)[_]?=_;rw[List.getElem?_append_right (by omega)];simp[h1,h2]
 have dn:DnJ μ μ1 μ2:=⟨⟨q,hq⟩,hA,hB⟩
 have ex2:Ext μ H μ2 H1:=⟨⟨_,rfl⟩,e1.tup,e1.frz,fun p o h n=>⟨(e1.keep p o h n).1,fun z=>(e1.keep p o h n).2 (hB p z)⟩⟩
 have r2:Rel T μ2 H1 (σ++js.map (obJ σ1)):=by
  refine⟨by show (μ++_).length=_;simp[r.len],?_,fun n o h=>?_,r1.tb.sub hB⟩
  ·show (μ++_).Nodup;rw[List.nodup_append];refine⟨r.nd,?_,fun a ha b hb z=>?_⟩
   ·rw[List.nodup_iff_pairwise_ne,List.pairwise_map];refine List.Pairwise.imp_of_mem (fun {x y} hx hy hxy z=>hxy ?_) (List.nodup_iff_pairwise_ne.mp hnd);have h1:=hget x hx;have h2:=hget y hy;rw[z]at h1;exact zmy r1.nd h1 h2
   ·subst z;obtain⟨j,h1,h2⟩:=List.mem_map.mp hb;obtain⟨i,hi⟩:=List.getElem?_of_mem ha;have hl:=(List.getElem?_eq_some_iff.mp hi).1;have h3:=hget j h1;rw[h2]at h3;have:=zmy r1.nd (i:=i) (j:=j) (by rw[hq,List.getElem?_append_left hl];exact hi) h3;have:=(hjs j h1).1;have:=r.len;omega
  ·by_cases hn:n<σ.length
   ·rw[List.getElem?_append_left hn]at h;obtain⟨a,h1,h2⟩:=r.obs n o h;have h':σ1[n]?=some o:=by
     rw[<-ht,List.getElem?_take_of_lt hn]at h;exact h
    obtain⟨b,h3,h4⟩:=r1.obs n o h';have eb:=e1.get h1;rw[h3]at eb;cases eb;exact⟨a,hA _ _ h1,h2.downJ dn h4⟩
   ·rw[List.getElem?_append_right (by omega),List.getElem?_map]at h;obtain⟨j,h1,h2⟩:=Option.map_eq_some_iff.mp h;subst h2;have hm:=List.mem_of_getElem? h1;have hs:σ1[j]?=some (obJ σ1 j):=by unfold obJ;rw[List.getElem?_eq_getElem (hjs j hm).2.1];rfl
    obtain⟨b,h3,h4⟩:=r1.obs j _ hs;have:=hj _ _ h1 b h3;rw[r.len,show σ.length+(n - σ.length)=n by omega]at this;exact⟨b,this,h4.clJ hB (hjs j hm).2.2⟩
 exact⟨μ2,dn,ex2,r2,fun m d d' v ef p1=>zsc dn hj hn2 r1 m d d' v (by rw[r.len];exact ef) p1⟩
theorem yky.frzJ{E:XK}{f:M D}{Q:V->Hp->Prop}{sel:Nat->Sto->D->List Nat}(r:Rel T μ H σ)(h:yky T E (Rep T) μ H (frzJ sel f σ) Q):yky T E (Rep T) μ H (f σ) Q:=by
 unfold L4.frzJ at h;cases e:f σ with
 |bad=>rw[e]at h;exact h
 |ex x σ1=>
  rw[e]at h;unfold ygm at h;dsimp only at h;by_cases ht:σ1.take σ.length=σ
  ·rw[if_pos ht]at h;intro μ1 H1 e1 r1;obtain⟨r2,e2⟩:=Rel.down r r1 e1 ht;exact h μ H1 e2 r2
  ·rw[if_neg ht]at h;exact h.elim
 |ok d σ1=>
  rw[e]at h;unfold ygm at h;dsimp only at h;generalize sel σ.length σ1 d=js at h;by_cases ht:σ1.take σ.length=σ/\js.Nodup/\(∀ j∈js,σ.length<=j/\j<σ1.length/\okJ (obJ σ1 j)=true)
  ·rw[if_pos ht]at h;obtain⟨ht,hnd,hjs⟩:=ht;cases ef:fzJ σ.length js σ1 6 d with
   |none=>rw[ef]at h;exact h.elim
   |some d'=>
    rw[ef]at h;intro μ1 v H1 e1 r1 p1;obtain⟨μ2,_,e2,r2,rp⟩:=Rel.downJ r r1 e1 ht hnd hjs;exact h μ2 v H1 e2 r2 (rp 6 d d' v ef p1)
  ·rw[if_neg ht]at h;exact h.elim
end
noncomputable def yfz(sel:Nat->Sto->D->List Nat)(f:Ev->M D):Ev->M D:=fun ρ=>frzJ sel (f ρ)
theorem zrc{T:Tb}{X:Cx}{e:Expr}{f:Ev->M D}{sel:Nat->Sto->D->List Nat}(h:FE T X e f):FE T X e (yfz sel f):=by
 intro pins s st H Q I hw;obtain⟨μ,ρ,σ,hE,hr,hp⟩:=hw;exact h pins s st H Q I ⟨μ,ρ,σ,hE,hr,yky.frzJ hr hp⟩
theorem zlo{T:Tb}{X:Cx}{stm:Stmt}{i:Nat}{f:Ev->M D}{sel:Nat->Sto->D->List Nat}(h:FS T X stm (yop i f)):FS T X stm (yop i (yfz sel f)):=by
 intro pins s st H D I hw;obtain⟨μ,ρ,σ,hE,hr,hp⟩:=hw;refine h pins s st H D I ⟨μ,ρ,σ,hE,hr,?_⟩;have hp':yky T EN (RFl T) μ H (xs ρ (frzJ sel (f ρ)) (yos i ρ) σ) (ykm X D):=hp;show yky T EN (RFl T) μ H (xs ρ (f ρ) (yos i ρ) σ) (ykm X D);unfold xs frzJ at hp';unfold xs;cases e:f ρ σ with
 |bad=>rw[e]at hp';exact hp'
 |ex x σ1=>
  rw[e]at hp';unfold ygm at hp';dsimp only at hp' ⊢;by_cases ht:σ1.take σ.length=σ
  ·rw[if_pos ht]at hp';intro μ1 gl H1 e1 r1 q1;cases gl with
   |xc st1 c1 fd1=>
    obtain⟨r2,e2⟩:=Rel.down hr r1 e1 ht;obtain⟨qE,qc⟩:=q1;refine hp' μ (.xc st1 c1 fd1) H1 e2 r2 ⟨⟨qE.1,fun j d ej=>?_⟩,qc⟩;obtain⟨v,h1,h2⟩:=qE.2 j d ej;obtain⟨v0,_,h4⟩:=hE.2 j d ej;exact⟨v,h1,Rep.down e1.pre d v0 v h4 h2⟩
   |_=>exact q1.elim
  ·rw[if_neg ht]at hp';exact hp'.elim
 |ok d σ1=>
  rw[e]at hp';unfold ygm at hp';dsimp only at hp' ⊢;generalize sel σ.length σ1 d=js at hp';by_cases ht:σ1.take σ.length=σ/\js.Nodup/\(∀ j∈js,σ.length<=j/\j<σ1.length/\okJ (obJ σ1 j)=true)
  ·rw[if_pos ht]at hp';obtain⟨ht,hnd,hjs⟩:=ht;cases ef:fzJ σ.length js σ1 6 d with
   |none=>rw[ef]at hp';exact hp'.elim
   |some d'=>
    rw[ef]at hp';intro μ1 gl H1 e1 r1 q1;cases gl with
    |nx st1=>
     obtain⟨μ2,dn,e2,r2,rp⟩:=Rel.downJ hr r1 e1 ht hnd hjs;have q1':ykl T μ1 H1 (ρ.set i (some d)) st1:=q1;refine hp' μ2 (.nx st1) H1 e2 r2 ⟨by simpa using q1'.1,fun j x ej=>?_⟩;rw[List.getElem?_set]at ej;by_cases hj:i=j
     ·subst hj;rw[if_pos rfl]at ej;split at ej
      ·rename_i hl
       cases ej;obtain⟨v,h1,h2⟩:=q1'.2 i d (by rw[List.getElem?_set,if_pos rfl,if_pos hl]);exact⟨v,h1,rp 6 d d' v ef h2⟩
      ·cases ej
     ·rw[if_neg hj]at ej;obtain⟨v,h1,h2⟩:=q1'.2 j x (by rw[List.getElem?_set,if_neg hj];exact ej);obtain⟨v0,_,h4⟩:=hE.2 j x ej;exact⟨v,h1,RepJ.down dn x v0 v h4 h2⟩
    |_=>exact q1.elim
  ·rw[if_neg ht]at hp';exact hp'.elim
mutual
def rfJ(k:Nat):D->List Nat
 | .ref n=>if n<k then []else [n]
 | .tup xs=>yoc k xs
 | .lst xs=>yoc k xs
 |_=>[]
def yoc(k:Nat):List D->List Nat
 |[]=>[]
 |d::ds=>rfJ k d++yoc k ds
end
def yoq(k:Nat)(σ:Sto):D->List Nat
 | .ref n=>if n<k then []else match σ[n]? with
  |some (.lst xs)=>yoc k xs
  |_=>[]
 |d=>rfJ k d
end L4
namespace L4
open PySem PySem.Spec PyProof.Rows L2
section
variable{P:Program}{w:World}{K:PySem.W.Frag}{mg:Str->Option Value}{base:Heap}{T:Tb}
theorem zlg{k:Nat}{f:Addr}{fd:FuncData}{ps:List Str}{fn:List D->M D}{sel:Nat->Sto->D->List Nat}(F:FnOk P w K mg base (CXE P w) k f fd ps (spF T ps.length fn)):FnOk P w K mg base (CXE P w) k f fd ps (spF T ps.length (fun ds=>frzJ sel (fn ds))):=
 F.imp fun vs H Q E h=>by
  obtain⟨μ,σ,ds,h1,h2,h3,h4⟩:=h;exact⟨μ,σ,ds,h1,h2,h3,yky.frzJ h3 h4⟩
theorem OkF.frzJ{k:Nat}{x:Str}{ps:List Str}{fn:List D->M D}{sel:Nat->Sto->D->List Nat}(h:OkF T P w mg base k x ps fn):OkF T P w mg base k x ps (fun ds=>L4.frzJ sel (fn ds)):=by
 obtain⟨f,fd,h1,h2,h3,h4⟩:=h;exact⟨f,fd,h1,h2,h3,zlg h4⟩
end
def ydf:List V->Hp->VK->Prop:=fun xs H Q=>∃ (vw a:Addr) (kvs:List (Key × V)),xs=[.ref vw]/\H vw=some (.ext (ykr vw a))/\Rd H a (.dK kvs)/\∀ l,H l=none->Q (.ref l) (upd H l (.lst (kvs.map fun kv=>kV kv.1)))
section
variable{T:Tb}{X:Cx}
theorem ze0(hc:X.calm=true):yew X (.type "list") ydf:=by
 intro pins s σ H xs us Q I r h;obtain⟨vw,a,kvs,rfl,hvw,hH,q⟩:=h;obtain⟨u,rfl,rx⟩:=yj9 r;cases rx;obtain⟨z,hd,ws,rel,dd⟩:=yfs I.hok hH;have hv0:PySem.W.KdlKeysView s.heap vw a:=(I.hok vw _ hvw).1;obtain⟨ep,hat⟩:=dd.dictAt;have hk:=zs9 rel;have hl:ws.length=kvs.length:=by have:=congrArg List.length hk;simpa using this
 refine PySem.W.kdl_call (PySem.W.kdl_keys (knd:=ztt X.prog X.w) (r:=vw) (d:=a) (kvs:=ws) (ep:=ep)) (I.ok.hd hc) ⟨hv0,hat⟩ (by omega) fun h' tk acc c kp e hacc=>?_;have hv:yla ((ws.map (·.1)).map kV) acc.toList:=zjg (by rw[Array.length_toList,List.length_map];exact hacc.1) fun j v k e1 e2=>by
  obtain⟨k',x,hx,hk'⟩:=hacc.2 j v (by rw[<-Array.getElem?_toList];exact e1);rw[List.getElem?_map,hx]at e2;cases e2;exact zs6 hk'
 rw[hk,List.map_map]at hv;exact⟨.ref s.heap.objs.size,_,I.laid (t':=tk) kp (Nat.le_refl _) (show ye1 X.prog X.w _ h' _ (.lst (kvs.map fun kv=>kV kv.1))from⟨by rw[List.length_map];exact z,acc.toList,c,hv,by rw[Array.toArray_toList];exact e⟩),rfl,q _ (I.hok.fresh (Nat.le_refl _))⟩
theorem zdz{e:Expr}{f:Ev->M D}{p pos apos cpos:Pos}(hc:X.calm=true)(hg:Gl X "list")(hm:X.mg "list" = none)(he:FE T X e f)(hbase:attributeBase e "keys" X.env (eval e X.env)=eval e X.env:=by rfl)(hline:(apos.endLine == cpos.line)=true:=by rfl)
  (hs2:starEach [.Call (.Attribute e "keys" apos) [] [] cpos] X.env=(false,eval (.Call (.Attribute e "keys" apos) [] [] cpos) X.env)::starEach [] X.env:=by rfl) (hpl2:(backTo pos (starEach [] X.env)).any (·.1)=false:=by rfl) :
  FE T X (.Call (.Name "list" p) [.Call (.Attribute e "keys" apos) [] [] cpos] [] pos) (eUn (fun x=>ybs [x]) f):=by
 intro pins s st H Q I h;refine zig (ze0 hc) hg hm (show bootBuiltins "list" = some (.type "list")from rfl) (zur (zuu PySem.F.plainAttrs_dict PySem.F.slot_dict_keys PySem.F.type_dict_keys ztv he hbase hline) yci hs2) (by decide) (by decide) hs2 hpl2 pins s st H Q I ?_;obtain⟨μ,ρ,σ,hE,hr,hp⟩:=h;refine⟨μ,ρ,σ,hE,hr,hp.bind fun d σ1 μ1 v H1 _ e1 r1 q1 p1=>?_⟩;unfold ybs at p1;cases e:yl0 σ1 d with
 |none=>simp only[e]at p1;exact p1.elim
 |some kvs=>
  simp only[e]at p1;by_cases hcap:kvs.length<=cap
  ·rw[if_pos hcap]at p1;obtain⟨a,us,rfl,g1,g2⟩:=ydj r1 q1 e;refine⟨⟨a,us,rfl,g1⟩,a,us,rfl,rfl,g1,fun l hl=>?_⟩;have nal:a≠l:=by rcases g1 with g1|⟨_,g1⟩<;>exact zfo g1 hl
   have x1:Ext μ1 H1 μ1 (upd H1 l (.ext (ykr l a))):=zq6 hl;have rr1:Rel T μ1 (upd H1 l (.ext (ykr l a))) σ1:=r1.fresh hl;have g1':Rd (upd H1 l (.ext (ykr l a))) a (.dK us):=by unfold Rd;rw[yep nal];exact g1
   exact⟨l,a,us,rfl,zo8,g1',fun l2 hl2=>zt0 (yky.mono x1 p1) rr1 (zny (yk3.mono x1 g2)) hl2⟩
  ·rw[if_neg hcap]at p1;exact p1.elim
end
def ylb(l a:Addr):Heap->Prop:=fun h=>h.IsValuesView l a
def yi0:V->List V->Hp->VK->Prop:=fun x xs H Q=>∃ a kvs,x=.ref a/\xs=[]/\Rd H a (.dK kvs)/\∀ l,H l=none->Q (.ref l) (upd H l (.ext (ylb l a)))
def Itv(d:Addr)(od:Obj)(kvs:List (Key × V)):It:=
 ⟨fun i H=>H d=some (.frz od (.dK kvs))/\∃ x,kvs[i]?=some x,fun i H v H'=>H'=H/\∃ k,kvs[i]?=some (k,v),fun i H=>H d=some (.frz od (.dK kvs))/\i=kvs.length⟩
theorem zjd{P:Program}{w:World}{K:PySem.W.Frag}{tg:Expr}(d it:Addr)(od:Obj)(kvs:List (Key × V))(hne:d≠it){es:Array DictEntry}{ep:Nat}(hod:od.data=.dict es ep) :
  Turn P w K tg (Itv d od kvs) [it] it (fun i h=>h.IsValIter it d i kvs.length ep) where
 mem:=by simp
 obj:=fun i h st b hb=>by
  obtain rfl:b=it:=by simpa using hb
  obtain⟨o,e,c,dd⟩:=st;exact⟨o,e,fun v z=>by rw[dd]at z;cases z⟩
 keep:=fun i h h' st k=>st.at fun o e=>k it (by simp) o e
 item:=by
  intro X hP hw hK hc i pins s σ H E I hf st hg;subst hP hw hK;obtain⟨hd,⟨k,x⟩,hx⟩:=hg;obtain⟨vs,es',ep',rel,dt,hm⟩:=zzx I hd;rw[hod]at dt;cases dt;obtain⟨u,hu,ru⟩:=ya2 rel i hx;rw[rel.length]at st;obtain⟨f0,f1,f2,f3,f4,f5⟩:=hf it (by simp);refine wpAny_pyNext_values_item st hm hu fun h' st' hs'=>?_;have I1:Inv X pins σ H { s with heap:=h' }:=I.turned (t':=s.toks) (fun b o hb e=>hs'.extBut b o hb e) f0 f1 f3 f4 f5;obtain⟨o,e,c,dd⟩:=id st';exact⟨u,rfl,ygt (s:={ s with heap:=h' }) e c dd (by decide) ⟨x,H,I1,ru,⟨rfl,k,hx⟩,by rw[rel.length];exact st',fun b hb=>(hf b hb).1⟩⟩
 done:=by
  intro X hP hw hK hc i pins s σ H E I hf st hg;subst hP hw hK;obtain⟨hd,hi⟩:=hg;obtain⟨vs,es',ep',rel,dt,hm⟩:=zzx I hd;rw[hod]at dt;cases dt;rw[rel.length]at st hi;obtain⟨f0,f1,f2,f3,f4,f5⟩:=hf it (by simp);exact wpAny_pyNext_values_end (I.ok.hd hc) st hm (by rw[hi];simp) fun h' eb=>⟨rfl,I.turned (t':=s.toks) (fun b o hb e=>eb b o hb e) f0 f1 f3 f4 f5⟩
 self:=fun _ _ _ _ _ st h=>wpAny_pyIter_valiter st h
def nxV(kv:List (Key × D)):NX:=fun i _=>match kv[i]? with
 |some p=>some (some p.2)
 |none=>if i=kv.length then some none else none
def yj8(d:D):M NX:=fun σ=>match d with
 | .dic ks xs=>if ks.length=xs.length then .ok (nxV (ks.zip xs)) σ else .bad
 | .ref n=>(match σ[n]? with
  |some (.dic kvs)=>.ok (nxV kvs) (σ.set n (.fdic kvs))
  |some (.fdic kvs)=>.ok (nxV kvs) σ
  |_=>.bad)
 |_=>.bad
def yji(f:Ev->M D):Ev->M NX:=fun ρ=>bnd (f ρ) yj8
section
variable{T:Tb}{X:Cx}{tg:Expr}
theorem ztx:MtR X "dict.values" yi0:=by
 intro pins s st H x vs v us Q I rx rv h;obtain⟨a,kvs,rfl,rfl,hH,q⟩:=h;cases rx;cases rv;obtain⟨z,hd,ws,rel,dd⟩:=yfs I.hok hH;refine call_meetsIn PySem.F.slot_dict_values dd.typeIs PySem.F.entry_dict_values (PySem.F.args_dict_values_1 _) (meets_dict_values (ztt X.prog X.w) a hd) ⟨⟨ws,dd⟩,?_⟩;refine⟨.ref s.heap.objs.size,_,I.laid (t':=s.toks) (o:=.ext (ylb s.heap.objs.size a)) (fun b o e=>Heap.get?_push_of_some _ e) (Nat.le_refl _) ?_,rfl,q _ (I.hok.fresh (Nat.le_refl _))⟩;refine⟨⟨_,zlw _ _ (fun z=>by cases z),rfl,rfl⟩,⟨_,zlw _ _ (fun z=>by cases z)⟩,fun h1 h2 p k=>?_⟩;obtain⟨o,e,c⟩:=p;exact⟨o,k o e,c⟩
theorem zi2{μ:List Addr}{H:Hp}{a:Addr}{od:Obj}{kvs:List (Key × V)}{kv:List (Key × D)}(h3:H a=some (.frz od (.dK kvs)))(hr:yk3 T μ H kv kvs):yk6 T μ H (nxV kv) (Itv a od kvs):=by
 intro μ2 H2 σ2 i ex r2;have hf:H2 a=some (.frz od (.dK kvs)):=ex.frz _ _ _ h3;have hrk:yk3 T μ2 H2 kv kvs:=yk3.mono ex hr;unfold nxV;cases ei:kv[i]? with
 |none=>
  dsimp only;by_cases hi:i=kv.length
  ·rw[if_pos hi];exact⟨hf,by rw[hi];exact Paired.length hrk⟩
  ·rw[if_neg hi];trivial
 |some p=>
  obtain⟨q,hq,hpq,rx⟩:=zfs hrk i ei;refine⟨⟨hf,q,hq⟩,fun z H' y=>?_⟩;obtain⟨rfl,k',hkx⟩:=y;rw[hq]at hkx;cases hkx;exact⟨Ext.refl _ _,r2,rx⟩
def ygw(te:TE):TI:=fun σ H R=>te σ H fun v H1=>∃ l a kvs,v=.ref l/\H1 l=some (.ext (ylb l a))/\Rd H1 a (.dK kvs)/\∀ od,H1 a=some (.dK kvs)\/H1 a=some (.frz od (.dK kvs))->R (Itv a od kvs) (upd H1 a (.frz od (.dK kvs)))
theorem zu0{iter:Expr}{te:TE}(he:PE X iter te):PI X tg iter (ygw te):=by
 intro pins s σ H R I h;refine thn (he pins s σ H _ I h) fun v s1 ⟨x,H1,I1,r1,q1⟩=>?_;obtain⟨l,a,kvs,rfl,hl,hk,q⟩:=q1;cases r1;obtain⟨od,hod,I2⟩:∃ od,(H1 a=some (.dK kvs)\/H1 a=some (.frz od (.dK kvs)))/\Inv X pins σ (upd H1 a (.frz od (.dK kvs))) s1:=by
  rcases hk with hk|⟨od,hk⟩
  ·obtain⟨_,_,vs,rel,o,es,ep,e,_⟩:=I1.hok a _ hk;exact⟨o,.inl hk,I1.freeze hk e⟩
  ·exact⟨od,.inr hk,by rw[zxf hk];exact I1⟩
 obtain⟨vs,es,ep,rel,dt,hm⟩:=zzx I2 zo8;have hv:s1.heap.IsValuesView l a:=(I1.hok l _ hl).1;have hne:a≠s1.heap.objs.size:=Nat.ne_of_lt hm.lt_size;refine wpAny_pyIter_values hv hm ?_;refine⟨s1.heap.objs.size,[s1.heap.objs.size],_,Itv a od kvs,_,rfl,I2.kept (t':=s1.toks) (fun b o e=>Heap.get?_push_of_some _ e),zjd a _ od kvs hne dt,by rw[rel.length];exact⟨_,zlw _ _ (fun z=>by cases z),rfl,rfl⟩,fun b hb=>?_,q od hod⟩;obtain rfl:b=s1.heap.objs.size:=by simpa using hb
 exact I2.fpOk (Nat.le_refl _) (I2.hok.fresh (Nat.le_refl _))
theorem zk6{e:Expr}{f:Ev->M D}{apos cpos:Pos}(h:FE T X e f)(hbase:attributeBase e "values" X.env (eval e X.env)=eval e X.env:=by rfl)(hline:(apos.endLine == cpos.line)=true:=by rfl) :
  FIN T X tg (.Call (.Attribute e "values" apos) [] [] cpos) (yji f):=by
 intro pins s st H R I hw;refine zu0 (zuu PySem.F.plainAttrs_dict PySem.F.slot_dict_values PySem.F.type_dict_values ztx h hbase hline) pins s st H R I ?_;obtain⟨μ,ρ,σ,hE,hr,hp⟩:=hw;refine⟨μ,ρ,σ,hE,hr,hp.bind fun d σ1 μ1 v H1 _ e1 r1 q1 p1=>?_⟩;unfold yj8 at p1;cases d with
 |dic ks xs=>
  dsimp only at p1;by_cases hl:ks.length=xs.length
  ·rw[if_pos hl]at p1;rw[Rep]at q1;obtain⟨a,kvs,rfl,hn,hk,hks,hxs⟩:=q1;refine⟨⟨a,kvs,rfl,hk⟩,a,kvs,rfl,rfl,hk,fun l hln=>?_⟩;have nal:a≠l:=by rcases hk with hk|⟨_,hk⟩<;>exact zfo hk hln
   have hk1:Rd (upd H1 l (.ext (ylb l a))) a (.dK kvs):=by unfold Rd;rw[yep nal];exact hk
   refine⟨l,a,kvs,rfl,zo8,hk1,fun od ho=>?_⟩;have x1:Ext μ1 H1 μ1 (upd H1 l (.ext (ylb l a))):=zq6 hln;have rr1:Rel T μ1 (upd H1 l (.ext (ylb l a))) σ1:=r1.fresh hln;obtain⟨x2,rr2⟩:Ext μ1 H1 μ1 (upd (upd H1 l (.ext (ylb l a))) a (.frz od (.dK kvs)))/\Rel T μ1 (upd (upd H1 l (.ext (ylb l a))) a (.frz od (.dK kvs))) σ1:=by
    rcases ho with ho|ho
    ·have y:=zq5 (μ:=μ1) (od:=od) ho;exact⟨x1.trans y,rr1.keep y (fun b hb=>yep (fun z=>hn (by rw[<-z];exact hb))) (rr1.tb.out (fun b hb=>yep hb) (.inr ⟨_,ho⟩))⟩
    ·rw[zxf ho];exact⟨x1,rr1⟩
   exact yky.here (R:=yk6 T) (yky.mono x2 p1) rr2 (zi2 zo8 (yk3.mono x2 (zn1 hks hxs)))
  ·rw[if_neg hl]at p1;exact p1.elim
 |ref n=>
  dsimp only at p1;cases es:σ1[n]? with
  |none=>rw[es]at p1;exact p1.elim
  |some o=>
   rw[es]at p1;obtain⟨a,rfl,hn,hob⟩:=r1.at q1 es;cases o with
   |dic kvs=>
    obtain⟨vs,ha,hrk⟩:=hob;have hk:Rd H1 a (.dK vs):=.inl ha;refine⟨⟨a,vs,rfl,hk⟩,a,vs,rfl,rfl,hk,fun l hln=>?_⟩;have nal:a≠l:=zfo ha hln;have ha1:upd H1 l (.ext (ylb l a)) a=some (.dK vs):=by rw[yep nal];exact ha
    refine⟨l,a,vs,rfl,zo8,.inl ha1,fun od _=>?_⟩;have x1:Ext μ1 H1 μ1 (upd H1 l (.ext (ylb l a))):=zq6 hln;have rr1:Rel T μ1 (upd H1 l (.ext (ylb l a))) σ1:=r1.fresh hln;have ex2:Ext μ1 (upd H1 l (.ext (ylb l a))) μ1 (upd (upd H1 l (.ext (ylb l a))) a (.frz od (.dK vs))):=zg7 (List.mem_of_getElem? hn) ha1 (fun _ z=>by cases z) (fun _ _ z=>by cases z);have hrk2:yk3 T μ1 (upd (upd H1 l (.ext (ylb l a))) a (.frz od (.dK vs))) kvs vs:=yk3.mono (x1.trans ex2) hrk;have wr:=rr1.write (o:=.frz od (.dK vs)) (ob:=.fdic kvs) hn ⟨od,vs,zo8,hrk2⟩ (fun kv z=>by rw[es]at z;cases z);exact yky.here (R:=yk6 T) (yky.mono (x1.trans ex2) p1) wr.2 (zi2 zo8 hrk2)
   |fdic kvs=>
    obtain⟨od0,vs,ha,hrk⟩:=hob;have hk:Rd H1 a (.dK vs):=.inr ⟨od0,ha⟩;refine⟨⟨a,vs,rfl,hk⟩,a,vs,rfl,rfl,hk,fun l hln=>?_⟩;have nal:a≠l:=zfo ha hln;have ha1:upd H1 l (.ext (ylb l a)) a=some (.frz od0 (.dK vs)):=by rw[yep nal];exact ha
    refine⟨l,a,vs,rfl,zo8,.inr ⟨od0,ha1⟩,fun od ho=>?_⟩;have x1:Ext μ1 H1 μ1 (upd H1 l (.ext (ylb l a))):=zq6 hln;have rr1:Rel T μ1 (upd H1 l (.ext (ylb l a))) σ1:=r1.fresh hln;rcases ho with ho|ho
    ·rw[ha1]at ho;cases ho
    ·rw[zxf ho];exact yky.here (R:=yk6 T) (yky.mono x1 p1) rr1 (zi2 ho (yk3.mono x1 hrk))
   |_=>exact p1.elim
 |_=>exact p1.elim
end
section
variable{T:Tb}{X:Cx}
end
end L4
set_option maxHeartbeats 0
namespace K32
open PySem PySem.Spec PyProof.Rows L2 L4
def top(i:Nat):Stmt:=PySem.Challenge.pw_sidebook_k32_a_paper_of_the_worth.main.body.getD i (.Pass ⟨0,0,0,0⟩)
def tx0(K:PySem.W.Frag):Tab:=⟨POf K "least_fate",75,35, "least_fate.<locals>.<lambda>"⟩
def tx1(K:PySem.W.Frag):Tab:=⟨POf K "paper",90,27, "paper.<locals>.<lambda>"⟩
def tx(K:PySem.W.Frag):Tx:=⟨[tx0 K,tx1 K],ylp K⟩
theorem ztp(K:PySem.W.Frag):tx0 K∈(tx K).tbs:=(.head _)
theorem ztq(K:PySem.W.Frag):tx1 K∈(tx K).tbs:=(.tail _ (.head _))
theorem yj0(K:PySem.W.Frag):∀ t∈(tx K).tbs,∃ x∈[("least_fate" : Str),("paper" : Str)],t.P=POf K x:=by
 intro t ht;have h:t∈[tx0 K,tx1 K]:=ht;simp only[List.mem_cons,List.not_mem_nil,or_false]at h;rcases h with rfl|rfl
 ·exact⟨"least_fate",by simp,rfl⟩
 ·exact⟨"paper",by simp,rfl⟩
structure Txt(K:PySem.W.Frag)(mg:Str->Option Value)(ca:Nat->Addr):Prop where
 f__law_cell_at:yez K mg "_law_cell_at" (top 28) ["_law_script", "_law_k"]
 f__law_mixed:yez K mg "_law_mixed" (top 29) ["_law_cell", "_law_k"]
 f__law_amount:yez K mg "_law_amount" (top 30) ["_law_number"]
 f__law_tie:yez K mg "_law_tie" (top 31) ["_law_number", "_law_word", "_law_at"]
 f__law_stand:yez K mg "_law_stand" (top 32) ["_law_cell", "_law_number", "_law_at"]
 f__law_pot:yez K mg "_law_pot" (top 33) ["_law_cell", "_law_at", "_law_k_pot"]
 f__law_view:yez K mg "_law_view" (top 34) ["_law_script"]
 f_View___init__:HasM K (ca 0) "__init__" "View.__init__" (yhp (top 7) 0) ["self", "every", "look", "words", "pots"] (ca 1)
 f_shown_in_time:yez K mg "shown_in_time" (top 4) ["tie", "shown"]
 f_lot_of_paid:yez K mg "lot_of_paid" (top 8) ["view", "seen", "tie"]
 f_lot_of_due:yez K mg "lot_of_due" (top 9) ["view", "seen", "tie"]
 f_lot_of:yez K mg "lot_of" (top 10) ["view", "pot", "tie"]
 f_read_stand:yez K mg "read_stand" (top 11) ["view", "pot", "one"]
 f_read_pots:yez K mg "read_pots" (top 12) ["view"]
 f_all_choices:yez K mg "all_choices" (top 13) ["readings"]
 f_lots_by_word:yez K mg "lots_by_word" (top 15) ["reads"]
 f_fates_of:yez K mg "fates_of" (top 16) ["lots"]
 f_comes_by_fate:yez K mg "comes_by_fate" (top 17) ["lot", "fate", "every"]
 f_sum_by_fate:yez K mg "sum_by_fate" (top 18) ["lots", "fate", "every"]
 f_least_fate:zxs K mg "least_fate" (top 19) ["lots", "every"]
 f_sum_of:yez K mg "sum_of" (top 20) ["reads", "by_word", "fates", "every"]
 f_least_paper:yez K mg "least_paper" (top 21) ["reads", "chosen", "every"]
 f_chosen_readings:yez K mg "chosen_readings" (top 14) ["readings", "chosen"]
 f_paper:zxs K mg "paper" (top 22) ["view"]
 f_worth:yez K mg "worth" (top 23) ["view"]
 f__law_form:yez K mg "_law_form" (top 35) ["_law_told", "_law_pots"]
 f_is_whole:yez K mg "is_whole" (top 1) ["thing"]
 f_is_between:yez K mg "is_between" (top 2) ["thing", "least", "most"]
 f_tells_places:yez K mg "tells_places" (top 24) ["readings", "chosen"]
 f_tells_fates:yez K mg "tells_fates" (top 25) ["by_word", "fates"]
 f_stands_up:yez K mg "stands_up" (top 26) ["view", "told"]
 f__law_turned:yez K mg "_law_turned" (top 36) ["_law_told", "_law_cell", "_law_at"]
 f_law:yez K mg "law" (top 37) ["_law_script"]
 n_all:mg "all" = none
 n_bool:mg "bool" = none
 n_dict:mg "dict" = none
 n_int:mg "int" = none
 n_isinstance:mg "isinstance" = none
 n_len:mg "len" = none
 n_list:mg "list" = none
 n_max:mg "max" = none
 n_min:mg "min" = none
 n_range:mg "range" = none
 n_sorted:mg "sorted" = none
 n_sum:mg "sum" = none
 n_tuple:mg "tuple" = none
 n_zip:mg "zip" = none
 c_FIRM:GlT K mg "FIRM" ["won", "sure", "back"]
 cl_View:L2.Cls K (ca 0)
 na_View_every:L2.zxt K (ca 0) "every"
 na_View_last_look:L2.zxt K (ca 0) "last_look"
 na_View_known:L2.zxt K (ca 0) "known"
 na_View_pots:L2.zxt K (ca 0) "pots"
 m_View:mg "View" = some (.ref (ca 0))
 mk_View:L2.Mk K (ca 0) (ca 1)
 tb:Tabs K ["least_fate", "paper"]
 bmg:mg "__builtins__" = some (.ref (ylp K))
 tinj:∀ t∈(tx K).tbs,∀ t'∈(tx K).tbs,t'.P=t.P->t'=t
section
variable{P:Program}{w:World}{K:PySem.W.Frag}{mg:Str->Option Value}{base:Heap}{ca:Nat->Addr}
theorem scD{N P:List Str}{sc:Scope}(a:sc.kind=.function)(b:sc.isCoroutine=false)(c:sc.isGenerator=false)(h:N.Nodup/\N.take P.length=P/\(∀ x∈P,sc.names.lookup x=some .local\/sc.names.lookup x=some .cell)/\∀ y∈sc.names,y.2≠.free):FnScope N P sc:=⟨a,b,c,h.1,h.2.1,h.2.2.1,h.2.2.2⟩
abbrev BD(x q:Str)(s:Stmt)(ps:List Str):Prop:=∀ (kV doc pm:Value) (an:Option Addr) (cdv ct:Value) (us:List Value),us.length=ps.length->bindArgs (PySem.W.fnOf x q (zqs s) (zqt s) (zkd s) .none kV doc pm an cdv ct) ⟨us,[]⟩=pure (ps.zip us)
abbrev zbn:Stmt:=top 28
noncomputable def zbc:Ev->M Fl:=
 (yoo (sIf (eT (yl2 oLt (yl9 1) (yfx ynm (yfa (yl9 0) yle)))) (yon (yl2 oIx (yl9 0) (yl9 1))) yol)
 (yon (eC (.int 0))))
noncomputable def f__law_cell_at:List D->M D:=hide fun ds=>frz (run 2 zbc ds)
theorem za2:FnScope ["_law_script", "_law_k"] ["_law_script", "_law_k"] (zkd zbn):=scD rfl rfl rfl (by decide +kernel)
theorem zap:BD "_law_cell_at" "_law_cell_at" zbn ["_law_script", "_law_k"]:=
 fun _ _ _ _ _ _ us hl=>match us,hl with|[_,_],_=>rfl
theorem zaw(Xt:Txt K mg ca):OkF ⟨K,ca,tx K⟩ P w mg base 1 "_law_cell_at" ["_law_script", "_law_k"] f__law_cell_at:=
 OkF.hide (OkF.frz (yh9 Xt.f__law_cell_at za2 fun _ _ _ _ _ _ _ hr=>
  (zlq (ygn (zz5 yid yd3 (zzn 1) (zkx zc0 (zwr rfl) rfl Xt.n_len PySem.boot_len (zq7 (zzn 0) zy9)) (ybn _)) (zr6 (zz3 (yf7 ymw (yd1 rfl) (zzn 0) (zzn 1) (fun _ _=>rfl)))) zr5)
  (zr6 (zz3 zze)))))
abbrev zdg:Stmt:=top 29
noncomputable def zc3:Ev->M Fl:=
 (yoo (sIf (eT (yl2 oEq (yl2 ynn (yl9 0) (eC (.int 2))) (eC (.int 0)))) (yoo (yop 2 (yl2 yne (yl9 0) (eC (.int 2))))
 (yoo (yok (yoy (yl9 1)) (tgN 3) (yop 2 (yl2 yhz (yl9 2) (eC (.int 2147483647)))))
 (sIf (bOr (eT (yl2 oEq (yl9 1) (eC (.int 0)))) (eT (yl2 oGt (yl9 2) (eC (.int 0))))) (yon (yl2 ynn (yl9 2) (eC (.int 2147483647)))) yol))) yol)
 (yoo (yop 4 (yl2 ynn (yl2 yno (yl2 yna (yl2 yna (yl9 0) (yl2 yno (eC (.int 7919)) (yl9 1))) (eC (.int 1))) (eC (.int 48271))) (eC (.int 2147483647))))
 (yoo (yop 4 (yl2 ynn (yl2 yno (yl9 4) (yl2 yna (yl2 yne (yl9 4) (eC (.int 1009))) (eC (.int 69621)))) (eC (.int 2147483647))))
 (yon (yl2 ynn (yl2 yno (yl9 4) (yl2 yna (yl2 yne (yl9 4) (eC (.int 2003))) (eC (.int 40692)))) (eC (.int 2147483629)))))))
noncomputable def f__law_mixed:List D->M D:=hide fun ds=>frz (run 5 zc3 ds)
theorem zco:FnScope ["_law_cell", "_law_k", "_law_left", "_law_j", "_law_number"] ["_law_cell", "_law_k"] (zkd zdg):=scD rfl rfl rfl (by decide +kernel)
theorem zbx:BD "_law_mixed" "_law_mixed" zdg ["_law_cell", "_law_k"]:=
 fun _ _ _ _ _ _ us hl=>match us,hl with|[_,_],_=>rfl
theorem zcb(Xt:Txt K mg ca):OkF ⟨K,ca,tx K⟩ P w mg base 1 "_law_mixed" ["_law_cell", "_law_k"] f__law_mixed:=
 OkF.hide (OkF.frz (yh9 Xt.f__law_mixed zco fun _ _ _ _ _ _ _ hr=>
  (zlq (ygn (zz5 (yb8 (hu9 hr)) yow (yga ycc zws (zzn 0) zze) zze (ybn _)) (zlq (zz4 (i:=2) zco.nd rfl (Or.inl rfl) (yga zuo zwp (zzn 0) zze))
  (zlq (zz2 zif rfl (zk5 rfl Xt.n_range (zzn 1)) (zrh (i:=3) zco.nd rfl (Or.inl rfl)) (zr6 (zz4 (i:=2) zco.nd rfl (Or.inl rfl) (yga znf zoo (zzn 2) zze))))
  (zr6 (ygn (L2.PW.pt (ygo (zz5 (yb8 (hu9 hr)) yow (zzn 1) zze (ybn _)) (yab (zz5 yib ydz (zzn 2) zze (ybn _))))) (zr6 (zz3 (yga ycc zws (zzn 2) zze))) zr5)))) zr5)
  (zlq (zz4 (i:=4) zco.nd rfl (Or.inl rfl) (yga ycc zws (yga ycd zwt (yga (zul rfl) yow (yga (zul rfl) yow (zzn 0) (yga ycd zwt zze (zzn 1))) zze) zze) zze))
  (zlq (zz4 (i:=4) zco.nd rfl (Or.inl rfl) (yga ycc zws (yga ycd zwt (zzn 4) (yga (zul rfl) yow (yga zuo zwp (zzn 4) zze) zze)) zze))
  (zr6 (zz3 (yga ycc zws (yga ycd zwt (zzn 4) (yga (zul rfl) yow (yga zuo zwp (zzn 4) zze) zze)) zze))))))))
abbrev zch:Stmt:=top 30
noncomputable def zb4:Ev->M Fl:=
 (yoo (sIf (eT (yl2 oEq (yl2 ynn (yl9 0) (eC (.int 3))) (eC (.int 0)))) (yon (yl2 yna (eC (.int 1)) (yl2 ynn (yl2 yne (yl9 0) (eC (.int 3))) (eC (.int 9))))) yol)
 (yon (yl2 yna (eC (.int 1)) (yl2 ynn (yl9 0) (yl2 ynr (eC (.int 10)) (eC (.int 12)))))))
noncomputable def f__law_amount:List D->M D:=hide fun ds=>frz (run 1 zb4 ds)
theorem zbq:FnScope ["_law_number"] ["_law_number"] (zkd zch):=scD rfl rfl rfl (by decide +kernel)
theorem za5:BD "_law_amount" "_law_amount" zch ["_law_number"]:=
 fun _ _ _ _ _ _ us hl=>match us,hl with|[_],_=>rfl
theorem zbf(Xt:Txt K mg ca):OkF ⟨K,ca,tx K⟩ P w mg base 1 "_law_amount" ["_law_number"] f__law_amount:=
 OkF.hide (OkF.frz (yh9 Xt.f__law_amount zbq fun _ _ _ _ _ _ _ hr=>
  (zlq (ygn (zz5 (yb8 (hu9 hr)) yow (yga ycc zws (zzn 0) zze) zze (ybn _)) (zr6 (zz3 (yga (zul rfl) yow zze (yga ycc zws (yga zuo zwp (zzn 0) zze) zze)))) zr5)
  (zr6 (zz3 (yga (zul rfl) yow zze (yga ycc zws (zzn 0) (yga ycg zww zze zze))))))))
abbrev zf0:Stmt:=top 31
noncomputable def ze9:Ev->M Fl:=
 (yon (yl8 (yfa (yl2 ynn (yl9 0) (eC (.int 2))) (yfa (eFn 1 f__law_amount [] (yfa (yl2 yne (yl9 0) (eC (.int 2))) yle)) (yfa (yl9 1) (yfa (yfx yh5 (yfa (eC (.int 0)) (yfa (yl2 ynt (yl2 yna (yl9 2) (yl2 ynn (yl2 yne (yl9 0) (eC (.int 7))) (eC (.int 13)))) (eC (.int 4))) yle))) yle))))))
noncomputable def f__law_tie:List D->M D:=hide fun ds=>frz (run 3 ze9 ds)
theorem zeq:FnScope ["_law_number", "_law_word", "_law_at"] ["_law_number", "_law_word", "_law_at"] (zkd zf0):=scD rfl rfl rfl (by decide +kernel)
theorem zdt:BD "_law_tie" "_law_tie" zf0 ["_law_number", "_law_word", "_law_at"]:=
 fun _ _ _ _ _ _ us hl=>match us,hl with|[_,_,_],_=>rfl
theorem zee(Xt:Txt K mg ca):OkF ⟨K,ca,tx K⟩ P w mg base 2 "_law_tie" ["_law_number", "_law_word", "_law_at"] f__law_tie:=
 OkF.hide (OkF.frz (yh9 Xt.f__law_tie zeq fun _ _ _ _ _ _ _ hr=>
  (zr6 (zz3 (zzm (zq7 (yga ycc zws (zzn 0) zze) (zq7 (zky (zbf Xt) rfl (hr.mono (by decide)) rfl (zq7 (yga zuo zwp (zzn 0) zze) zy9)) (zq7 (zzn 1) (zq7 (zkx (zgt rfl) zos rfl Xt.n_max boot_max (zq7 zze (zq7 (yga ych zwx (yga (zul rfl) yow (zzn 2) (yga ycc zws (yga zuo zwp (zzn 0) zze) zze)) zze) zy9))) zy9)))))))))
abbrev zdh:Stmt:=top 32
noncomputable def zc4:Ev->M Fl:=
 (yoo (yop 3 (yl6 yle))
 (yoo (yop 4 (yl2 oEq (yl2 ynn (yl2 yne (yl9 0) (eC (.int 4))) (eC (.int 8))) (eC (.int 3))))
 (yoo (yok (yoy (yl2 oIx (eLv (yfa (yl2 ynn (yl9 0) (eC (.int 4))) (yfa (eC (.int 8)) yle))) (yfx yh2 (yfa (yl9 4) yle)))) (tgN 5) (yoo (yop 6 (eFn 2 f__law_mixed [] (yfa (yl2 yne (yl9 0) (eC (.int 4))) (yfa (yl9 5) yle))))
 (yoo (yop 7 (yl2 ynn (yl9 6) (yl2 oIx (eLv (yfa (eC (.int 4)) (yfa (eC (.int 7)) yle))) (yfx yh2 (yfa (yl9 4) yle)))))
 (sIf (yll (eT (yl2 oLt (yfx ynm (yfa (yl9 3) yle)) (eC (.int 6)))) (eT (yl2 oEq (yl3 (eLC (yoz (yl9 3)) [7] (tgN 0) (eT (yl2 oEq (yl2 oIx (yl9 0) (eC (.int 2))) (yl9 1))) (yl9 0))) (eLv yle)))) (yoi (yf1 zt5 (yl9 3) (yfa (eFn 3 f__law_tie [] (yfa (yl2 yne (yl9 6) (eC (.int 4))) (yfa (yl9 7) (yfa (yl9 2) yle)))) yle))) yol))))
 (yoo (yop 6 (eFn 2 f__law_mixed [] (yfa (yl2 yne (yl9 0) (eC (.int 4))) (yfa (eC (.int 9)) yle))))
 (yon (yl8 (yfa (yl9 1) (yfa (yl8 (yfa (yl2 yno (yl2 ynn (yl9 6) (eC (.int 3))) (yl2 ynn (yl2 yne (yl9 6) (eC (.int 3))) (yl2 ynr (eC (.int 10)) (eC (.int 12))))) (yfa (yl2 ynn (yl2 yne (yl9 6) (eC (.int 7))) (yl2 ynr (eC (.int 10)) (eC (.int 12)))) yle))) (yfa (yfx ybw (yfa (yl9 3) yle)) yle)))))))))
noncomputable def f__law_stand:List D->M D:=hide fun ds=>frz (run 8 zc4 ds)
theorem zcp:FnScope ["_law_cell", "_law_number", "_law_at", "_law_ties", "_law_many", "_law_k", "_law_part", "_law_word"] ["_law_cell", "_law_number", "_law_at"] (zkd zdh):=scD rfl rfl rfl (by decide +kernel)
theorem zby:BD "_law_stand" "_law_stand" zdh ["_law_cell", "_law_number", "_law_at"]:=
 fun _ _ _ _ _ _ us hl=>match us,hl with|[_,_,_],_=>rfl
theorem zcc(Xt:Txt K mg ca):OkF ⟨K,ca,tx K⟩ P w mg base 3 "_law_stand" ["_law_cell", "_law_number", "_law_at"] f__law_stand:=
 OkF.hide (OkF.frz (yh9 Xt.f__law_stand zcp fun _ _ _ _ _ _ _ hr=>
  (zlq (zz4 (i:=3) zcp.nd rfl (Or.inl rfl) (zzh zy9))
  (zlq (zz4 (i:=4) zcp.nd rfl (Or.inl rfl) (zzb (yb8 (hu9 hr)) yow (yga ycc zws (yga zuo zwp (zzn 0) zze) zze) zze (ybn _)))
  (zlq (zz2 zif rfl (zk5 rfl Xt.n_range (yf7 ymw (yd1 rfl) (yf9 (zq7 (yga ycc zws (zzn 0) zze) (zq7 zze zy9))) (zg8 zgr zop rfl Xt.n_int boot_int (zq7 (zzn 4) zy9)) (fun _ _=>rfl))) (zrh (i:=5) zcp.nd rfl (Or.inl rfl)) (zlq (zz4 (i:=6) zcp.nd rfl (Or.inl rfl) (zky (zcb Xt) rfl (hr.mono (by decide)) rfl (zq7 (yga zuo zwp (zzn 0) zze) (zq7 (zzn 5) zy9))))
  (zlq (zz4 (i:=7) zcp.nd rfl (Or.inr rfl) (yga ycc zws (zzn 6) (yf7 ymw (yd1 rfl) (yf9 (zq7 zze (zq7 zze zy9))) (zg8 zgr zop rfl Xt.n_int boot_int (zq7 (zzn 4) zy9)) (fun _ _=>rfl))))
  (zr6 (ygn (L2.PW.pt (yaa (zz5 yid yd3 (zkx zc0 (zwr rfl) rfl Xt.n_len PySem.boot_len (zq7 (zzn 3) zy9)) zze (ybn _)) (zr9 (zz5 (yb8 (hu9 hr)) yow (zzd (yf8 (x:="_law_tie_here") (M':=["_law_word"]) (ix:=[7]) rfl ⟨rfl,rfl,rfl,rfl,rfl,rfl⟩ (zzp rfl (zzn 3)) (fun _ _ _ _ _=>zrh (i:=0) (by show List.Nodup (("_law_tie_here"::["_law_word"]):List Str);decide +kernel) rfl (Or.inl rfl)) (fun _ _ _ _ _=>zrk (zz5 (yb8 (hu9 hr)) yow (yf7 ymw (yd1 rfl) (zzn 0) zze (fun _ _=>rfl)) (zzn 1) (ybn _))) (fun _ _ _ _ _=>(zzn 0)))) (yf9 zy9) (ybn _))))) (zr6 (zr0 (zre PySem.F.plainAttrs_list PySem.F.slot_list_append PySem.F.type_list_append zh5 zf6 (zzn 3) (zq7 (zky (zee Xt) rfl (hr.mono (by decide)) rfl (zq7 (yga zuo zwp (zzn 6) zze) (zq7 (zzn 7) (zq7 (zzn 2) zy9)))) zy9)))) zr5)))))
  (zlq (zz4 (i:=6) zcp.nd rfl (Or.inl rfl) (zky (zcb Xt) rfl (hr.mono (by decide)) rfl (zq7 (yga zuo zwp (zzn 0) zze) (zq7 zze zy9))))
  (zr6 (zz3 (zzm (zq7 (zzn 1) (zq7 (zzm (zq7 (yga ycd zwt (yga ycc zws (zzn 6) zze) (yga ycc zws (yga zuo zwp (zzn 6) zze) (yga ycg zww zze zze))) (zq7 (yga ycc zws (yga zuo zwp (zzn 6) zze) (yga ycg zww zze zze)) zy9))) (zq7 (zg8 zb3 (zi1 rfl) rfl Xt.n_tuple boot_tuple (zq7 (zzn 3) zy9)) zy9))))))))))))
abbrev zfz:Stmt:=top 33
noncomputable def ze8:Ev->M Fl:=
 (yoo (yop 3 (yl6 (yfa (eFn 3 f__law_stand [] (yfa (yl2 yne (yl9 0) (eC (.int 4))) (yfa (eC (.int 3)) (yfa (yl9 1) yle)))) yle)))
 (yoo (yok (yoy (yl2 yna (yl2 oIx (eLv (yfa (eC (.int 0)) (yfa (eC (.int 1)) (yfa (eC (.int 0)) (yfa (eC (.int 2)) yle))))) (yl2 ynn (yl9 0) (eC (.int 4)))) (yl2 yno (eC (.int 7)) (yfx yh2 (yfa (yl1 (yl2 oEq (yl9 2) (eC (.int 0))) (yl2 oEq (yl2 ynn (yl2 yne (yl9 0) (eC (.int 4))) (eC (.int 16))) (eC (.int 5)))) yle))))) (tgN 4) (yoi (yf1 zt5 (yl9 3) (yfa (eFn 3 f__law_stand [] (yfa (yl2 yna (yl2 yne (yl9 0) (yl2 yna (eC (.int 4)) (yl2 yno (eC (.int 7)) (yl9 4)))) (eC (.int 77))) (yfa (yl2 yna (eC (.int 4)) (yl9 4)) (yfa (yl9 1) yle)))) yle))))
 (yoo (yop 5 yfy)
 (yoo (yop 6 (eFn 2 f__law_mixed [] (yfa (yl9 0) (yfa (eC (.int 5)) yle))))
 (yoo (yok (yoy (eC (.int 7))) (tgN 7) (sIf (eT (yl2 oEq (yl2 ynn (yl2 yne (yl9 6) (yl2 yna (eC (.int 1)) (yl2 yno (eC (.int 11)) (yl9 7)))) (eC (.int 5))) (eC (.int 0)))) (yi4 (yfx yh5 (yfa (eC (.int 0)) (yfa (yl2 ynt (yl9 1) (yl2 ynn (yl2 yne (yl9 6) (eC (.int 3))) (eC (.int 6)))) yle))) (yl9 5) (yl9 7)) yol))
 (yon (yl8 (yfa (yl2 ynn (yl9 6) (eC (.int 2))) (yfa (yl9 3) (yfa (yl9 5) yle))))))))))
noncomputable def f__law_pot:List D->M D:=hide fun ds=>frz (run 8 ze8 ds)
theorem zep:FnScope ["_law_cell", "_law_at", "_law_k_pot", "_law_stands", "_law_k", "_law_seen", "_law_part", "_law_word"] ["_law_cell", "_law_at", "_law_k_pot"] (zkd zfz):=scD rfl rfl rfl (by decide +kernel)
theorem zds:BD "_law_pot" "_law_pot" zfz ["_law_cell", "_law_at", "_law_k_pot"]:=
 fun _ _ _ _ _ _ us hl=>match us,hl with|[_,_,_],_=>rfl
theorem zed(Xt:Txt K mg ca):OkF ⟨K,ca,tx K⟩ P w mg base 4 "_law_pot" ["_law_cell", "_law_at", "_law_k_pot"] f__law_pot:=
 OkF.hide (OkF.frz (yh9 Xt.f__law_pot zep fun _ _ _ _ _ _ _ hr=>
  (zlq (zz4 (i:=3) zep.nd rfl (Or.inl rfl) (zzh (zq7 (zky (zcc Xt) rfl (hr.mono (by decide)) rfl (zq7 (yga zuo zwp (zzn 0) zze) (zq7 zze (zq7 (zzn 1) zy9)))) zy9)))
  (zlq (zz2 zif rfl (zk5 rfl Xt.n_range (yga (zul rfl) yow (yf7 ymw (yd1 rfl) (yf9 (zq7 zze (zq7 zze (zq7 zze (zq7 zze zy9))))) (yga ycc zws (zzn 0) zze) (fun _ _=>rfl)) (yga ycd zwt zze (zg8 zgr zop rfl Xt.n_int boot_int (zq7 (zza (zzb (yb8 (hu9 hr)) yow (zzn 2) zze (ybn _)) (zzk (zzb (yb8 (hu9 hr)) yow (yga ycc zws (yga zuo zwp (zzn 0) zze) zze) zze (ybn _)))) zy9))))) (zrh (i:=4) zep.nd rfl (Or.inl rfl)) (zr6 (zr0 (zre PySem.F.plainAttrs_list PySem.F.slot_list_append PySem.F.type_list_append zh5 zf6 (zzn 3) (zq7 (zky (zcc Xt) rfl (hr.mono (by decide)) rfl (zq7 (yga (zul rfl) yow (yga zuo zwp (zzn 0) (yga (zul rfl) yow zze (yga ycd zwt zze (zzn 4)))) zze) (zq7 (yga (zul rfl) yow zze (zzn 4)) (zq7 (zzn 1) zy9)))) zy9)))))
  (zlq (zz4 (i:=5) zep.nd rfl (Or.inl rfl) zra)
  (zlq (zz4 (i:=6) zep.nd rfl (Or.inl rfl) (zky (zcb Xt) rfl (hr.mono (by decide)) rfl (zq7 (zzn 0) (zq7 zze zy9))))
  (zlq (zz2 zif rfl (zk5 rfl Xt.n_range zze) (zrh (i:=7) zep.nd rfl (Or.inl rfl)) (zr6 (ygn (zz5 (yb8 (hu9 hr)) yow (yga ycc zws (yga zuo zwp (zzn 6) (yga (zul rfl) yow zze (yga ycd zwt zze (zzn 7)))) zze) zze (ybn _)) (zr6 (zr2 (hu9 hr) (zkx (zgt rfl) zos rfl Xt.n_max boot_max (zq7 zze (zq7 (yga ych zwx (zzn 1) (yga ycc zws (yga zuo zwp (zzn 6) zze) zze)) zy9))) (zzn 5) (zzn 7))) zr5)))
  (zr6 (zz3 (zzm (zq7 (yga ycc zws (zzn 6) zze) (zq7 (zzn 3) (zq7 (zzn 5) zy9)))))))))))))
abbrev zem:Stmt:=top 34
noncomputable def zd2:Ev->M Fl:=
 (yoo (yop 1 (yl2 yna (eC (.int 1)) (yl2 ynn (eFn 2 f__law_cell_at [] (yfa (yl9 0) (yfa (eC (.int 0)) yle))) (eC (.int 6)))))
 (yoo (yop 2 (yl2 yna (eC (.int 4)) (yl2 ynn (yl2 yne (eFn 2 f__law_cell_at [] (yfa (yl9 0) (yfa (eC (.int 0)) yle))) (eC (.int 6))) (eC (.int 60)))))
 (yoo (yop 3 (yl3 (eLC (yoy (eC (.int 7))) [0] (tgN 0) (eT (yl2 oEq (yl2 ynn (eFn 2 f__law_mixed [] (yfa (eFn 2 f__law_cell_at [] (yfa (yl9 1) (yfa (eC (.int 1)) yle))) (yfa (yl9 0) yle))) (eC (.int 3))) (eC (.int 0)))) (yl9 0))))
 (yoo (yop 4 (yl3 (eLC (yoy (yl2 ynn (eFn 2 f__law_cell_at [] (yfa (yl9 0) (yfa (eC (.int 1)) yle))) (eC (.int 4)))) [2,0] (tgN 0) yfd (eFn 3 f__law_pot [] (yfa (eFn 2 f__law_cell_at [] (yfa (yl9 2) (yfa (yl2 yna (eC (.int 2)) (yl9 0)) yle))) (yfa (yl9 1) (yfa (yl9 0) yle)))))))
 (yon (yl8 (yfa (yl9 1) (yfa (yl9 2) (yfa (yl9 3) (yfa (yl9 4) yle))))))))))
noncomputable def f__law_view:List D->M D:=hide fun ds=>frz (run 5 zd2 ds)
theorem zdn:FnScope ["_law_script", "_law_every", "_law_at", "_law_words", "_law_pots"] ["_law_script"] (zkd zem):=scD rfl rfl rfl (by decide +kernel)
theorem zcx:BD "_law_view" "_law_view" zem ["_law_script"]:=
 fun _ _ _ _ _ _ us hl=>match us,hl with|[_],_=>rfl
theorem zdb(Xt:Txt K mg ca):OkF ⟨K,ca,tx K⟩ P w mg base 5 "_law_view" ["_law_script"] f__law_view:=
 OkF.hide (OkF.frz (yh9 Xt.f__law_view zdn fun _ _ _ _ _ _ _ hr=>
  (zlq (zz4 (i:=1) zdn.nd rfl (Or.inl rfl) (yga (zul rfl) yow zze (yga ycc zws (zky (zaw Xt) rfl (hr.mono (by decide)) rfl (zq7 (zzn 0) (zq7 zze zy9))) zze)))
  (zlq (zz4 (i:=2) zdn.nd rfl (Or.inr rfl) (yga (zul rfl) yow zze (yga ycc zws (yga zuo zwp (zky (zaw Xt) rfl (hr.mono (by decide)) rfl (zq7 (zzn 0) (zq7 zze zy9))) zze) zze)))
  (zlq (zr3 (zlp (i:=3) zdn.nd rfl (Or.inl rfl) (x:="_law_word") (M':=["_law_script"]) (ix:=[0]) rfl ⟨rfl,rfl,rfl,rfl,rfl,rfl⟩ (zk5 rfl Xt.n_range zze) (fun _ _ _ _ _=>zrh (i:=0) (by show List.Nodup (("_law_word"::["_law_script"]):List Str);decide +kernel) rfl (Or.inl rfl)) (fun _ _ _ _ _=>zrk (zz5 (yb8 (hu9 hr)) yow (yga ycc zws (zky (zcb Xt) rfl (hr.mono (by decide)) rfl (zq7 (zky (zaw Xt) rfl (hr.mono (by decide)) rfl (zq7 (zzn 1) (zq7 zze zy9))) (zq7 (zzn 0) zy9))) zze) zze (ybn _))) (fun _ _ _ _ _=>(zzn 0))))
  (zlq (zr3 (zlp (i:=4) zdn.nd rfl (Or.inl rfl) (x:="_law_k") (M':=["_law_at", "_law_script"]) (ix:=[2,0]) rfl ⟨rfl,rfl,rfl,rfl,rfl,rfl⟩ (zk5 rfl Xt.n_range (yga ycc zws (zky (zaw Xt) rfl (hr.mono (by decide)) rfl (zq7 (zzn 0) (zq7 zze zy9))) zze)) (fun _ _ _ _ _=>zrh (i:=0) (by show List.Nodup (("_law_k"::["_law_at", "_law_script"]):List Str);decide +kernel) rfl (Or.inl rfl)) (fun _ _ _ _ _=>zrj) (fun _ _ _ _ _=>(zky (zed Xt) rfl (hr.mono (by decide)) rfl (zq7 (zky (zaw Xt) rfl (hr.mono (by decide)) rfl (zq7 (zzn 2) (zq7 (yga (zul rfl) yow zze (zzn 0)) zy9))) (zq7 (zzn 1) (zq7 (zzn 0) zy9)))))))
  (zr6 (zz3 (zzm (zq7 (zzn 1) (zq7 (zzn 2) (zq7 (zzn 3) (zq7 (zzn 4) zy9)))))))))))))
abbrev zaz:Stmt:=yhp (top 7) 0
noncomputable def zas:Ev->M Fl:=
 (yoo (yom [0] "every" (yl9 1) (yl9 0))
 (yoo (yom [0] "last_look" (yl9 2) (yl9 0))
 (yoo (yom [0] "known" (yl3 (yfx yh4 (yfa (yl9 3) yle))) (yl9 0))
 (yom [0] "pots" (yl3 (eLC (yoz (yl9 4)) [] (tgN 0) yfd (yl8 (yfa (yl2 oIx (yl9 0) (eC (.int 0))) (yfa (yl3 (yfx yh4 (yfa (yl2 oIx (yl9 0) (eC (.int 1))) yle))) (yfa (yfx ynd (yfa (yl2 oIx (yl9 0) (eC (.int 2))) yle)) yle)))))) (yl9 0)))))
noncomputable def f_View___init__:List D->M D:=hide (run 5 zas)
theorem zal:FnScope ["self", "every", "look", "words", "pots"] ["self", "every", "look", "words", "pots"] (zkd zaz):=scD rfl rfl rfl (by decide +kernel)
theorem zaf:BD "__init__" "View.__init__" zaz ["self", "every", "look", "words", "pots"]:=
 fun _ _ _ _ _ _ us hl=>match us,hl with|[_,_,_,_,_],_=>rfl
theorem zai(Xt:Txt K mg ca):OkA ⟨K,ca,tx K⟩ P w mg base 1 (ca 1) ["self", "every", "look", "words", "pots"] f_View___init__:=
 OkA.hide (yby Xt.f_View___init__ zal fun _ _ _ _ _ _ hr=>
  (zlq (zz1 rfl (zlc (T:=⟨K,ca,tx K⟩) (c:=0) Xt.cl_View Xt.na_View_every zrl) (zzn 0) (zzn 1))
  (zlq (zz1 rfl (zlc (T:=⟨K,ca,tx K⟩) (c:=0) Xt.cl_View Xt.na_View_last_look zrl) (zzn 0) (zzn 2))
  (zlq (zz1 rfl (zlc (T:=⟨K,ca,tx K⟩) (c:=0) Xt.cl_View Xt.na_View_known zrl) (zzn 0) (zzd (zg8 zc1 (zor rfl) rfl Xt.n_list boot_list (zq7 (zzn 3) zy9))))
  (zr6 (zz1 rfl (zlc (T:=⟨K,ca,tx K⟩) (c:=0) Xt.cl_View Xt.na_View_pots zrl) (zzn 0) (zzd (yf8 (x:="pot") (M':=[]) (ix:=[]) rfl ⟨rfl,rfl,rfl,rfl,rfl,rfl⟩ (zzp rfl (zzn 4)) (fun _ _ _ _ _=>zrh (i:=0) (by show List.Nodup (("pot"::[]):List Str);decide +kernel) rfl (Or.inl rfl)) (fun _ _ _ _ _=>zrj) (fun _ _ _ _ _=>(zzm (zq7 (yf7 ymw (yd1 rfl) (zzn 0) zze (fun _ _=>rfl)) (zq7 (zzd (zg8 zc1 (zor rfl) rfl Xt.n_list boot_list (zq7 (yf7 ymw (yd1 rfl) (zzn 0) zze (fun _ _=>rfl)) zy9))) (zq7 (zg8 zjy zwn rfl Xt.n_dict boot_dict (zq7 (yf7 ymw (yd1 rfl) (zzn 0) zze (fun _ _=>rfl)) zy9)) zy9)))))))))))))
abbrev za1:Stmt:=top 4
noncomputable def zau:Ev->M Fl:=
 (yon (yl1 (yl2 ync (yl2 oIx (yl9 0) (eC (.int 2))) (yl9 1)) (yl2 oLt (yl2 yhw (yl9 1) (yl2 oIx (yl9 0) (eC (.int 2)))) (yl2 oIx (yl9 0) (eC (.int 3))))))
noncomputable def f_shown_in_time:List D->M D:=hide fun ds=>frz (run 2 zau ds)
theorem zan:FnScope ["tie", "shown"] ["tie", "shown"] (zkd za1):=scD rfl rfl rfl (by decide +kernel)
theorem zah:BD "shown_in_time" "shown_in_time" za1 ["tie", "shown"]:=
 fun _ _ _ _ _ _ us hl=>match us,hl with|[_,_],_=>rfl
theorem zak(Xt:Txt K mg ca):OkF ⟨K,ca,tx K⟩ P w mg base 1 "shown_in_time" ["tie", "shown"] f_shown_in_time:=
 OkF.hide (OkF.frz (yh9 Xt.f_shown_in_time zan fun _ _ _ _ _ _ _ hr=>
  (zr6 (zz3 (zza (zzb (yb7 (hu9 hr)) zwo (yf7 ymw (yd1 rfl) (zzn 0) zze (fun _ _=>rfl)) (zzn 1) rfl) (zzk (zzb yid yd3 (zq9 (hu9 hr) (zzn 1) (yf7 ymw (yd1 rfl) (zzn 0) zze (fun _ _=>rfl)) (fun _ _=>rfl)) (yf7 ymw (yd1 rfl) (zzn 0) zze (fun _ _=>rfl)) (ybn _))))))))
abbrev zcl:Stmt:=top 8
noncomputable def zb8:Ev->M Fl:=
 (yoo (sIf (eT (eFn 2 f_shown_in_time [] (yfa (yl9 2) (yfa (yl9 1) yle)))) (yon (eC (.str "lost"))) yol)
 (yoo (sIf (eT (yl2 oGe (eUn (yng [0] "last_look") (yl9 0)) (yl2 oIx (yl9 2) (eC (.int 3))))) (yon (eC (.str "back"))) yol)
 (yon (eC (.str "open")))))
noncomputable def f_lot_of_paid:List D->M D:=hide fun ds=>frz (run 3 zb8 ds)
theorem zbu:FnScope ["view", "seen", "tie"] ["view", "seen", "tie"] (zkd zcl):=scD rfl rfl rfl (by decide +kernel)
theorem za9:BD "lot_of_paid" "lot_of_paid" zcl ["view", "seen", "tie"]:=
 fun _ _ _ _ _ _ us hl=>match us,hl with|[_,_,_],_=>rfl
theorem zbj(Xt:Txt K mg ca):OkF ⟨K,ca,tx K⟩ P w mg base 2 "lot_of_paid" ["view", "seen", "tie"] f_lot_of_paid:=
 OkF.hide (OkF.frz (yh9 Xt.f_lot_of_paid zbu fun _ _ _ _ _ _ _ hr=>
  (zlq (ygn (zz8 (zky (zak Xt) rfl (hr.mono (by decide)) rfl (zq7 (zzn 2) (zq7 (zzn 1) zy9)))) (zr6 (zz3 zzl)) zr5)
  (zlq (ygn (zz5 yia ydy (zzc rfl (zlc (T:=⟨K,ca,tx K⟩) (c:=0) Xt.cl_View Xt.na_View_last_look zrl) (zzn 0)) (yf7 ymw (yd1 rfl) (zzn 2) zze (fun _ _=>rfl)) (ybn _)) (zr6 (zz3 zzl)) zr5)
  (zr6 (zz3 zzl))))))
abbrev zdk:Stmt:=top 9
noncomputable def zc7:Ev->M Fl:=
 (yoo (sIf (eT (eFn 2 f_shown_in_time [] (yfa (yl9 2) (yfa (yl9 1) yle)))) (yon (eC (.str "won"))) yol)
 (yoo (sIf (eT (yl2 oGe (eUn (yng [0] "last_look") (yl9 0)) (yl2 oIx (yl9 2) (eC (.int 3))))) (yon (eC (.str "gone"))) yol)
 (yoo (sIf (yll (eT (yl2 (ynh false) (yl2 oIx (yl9 2) (eC (.int 2))) (eUn (yng [0] "known") (yl9 0)))) (eT (yl2 oLt (yl2 yna (eUn (yng [0] "last_look") (yl9 0)) (eUn (yng [0] "every") (yl9 0))) (yl2 oIx (yl9 2) (eC (.int 3)))))) (yon (eC (.str "sure"))) yol)
 (yon (eC (.str "hangs"))))))
noncomputable def f_lot_of_due:List D->M D:=hide fun ds=>frz (run 3 zc7 ds)
theorem zct:FnScope ["view", "seen", "tie"] ["view", "seen", "tie"] (zkd zdk):=scD rfl rfl rfl (by decide +kernel)
theorem zb1:BD "lot_of_due" "lot_of_due" zdk ["view", "seen", "tie"]:=
 fun _ _ _ _ _ _ us hl=>match us,hl with|[_,_,_],_=>rfl
theorem zcf(Xt:Txt K mg ca):OkF ⟨K,ca,tx K⟩ P w mg base 2 "lot_of_due" ["view", "seen", "tie"] f_lot_of_due:=
 OkF.hide (OkF.frz (yh9 Xt.f_lot_of_due zct fun _ _ _ _ _ _ _ hr=>
  (zlq (ygn (zz8 (zky (zak Xt) rfl (hr.mono (by decide)) rfl (zq7 (zzn 2) (zq7 (zzn 1) zy9)))) (zr6 (zz3 zzl)) zr5)
  (zlq (ygn (zz5 yia ydy (zzc rfl (zlc (T:=⟨K,ca,tx K⟩) (c:=0) Xt.cl_View Xt.na_View_last_look zrl) (zzn 0)) (yf7 ymw (yd1 rfl) (zzn 2) zze (fun _ _=>rfl)) (ybn _)) (zr6 (zz3 zzl)) zr5)
  (zlq (ygn (L2.PW.pt (yaa (zz5 (yb9 rfl (hu9 hr)) yow (yf7 ymw (yd1 rfl) (zzn 2) zze (fun _ _=>rfl)) (zzc rfl (zlc (T:=⟨K,ca,tx K⟩) (c:=0) Xt.cl_View Xt.na_View_known zrl) (zzn 0)) rfl) (zr9 (zz5 yid yd3 (yga (zul rfl) yow (zzc rfl (zlc (T:=⟨K,ca,tx K⟩) (c:=0) Xt.cl_View Xt.na_View_last_look zrl) (zzn 0)) (zzc rfl (zlc (T:=⟨K,ca,tx K⟩) (c:=0) Xt.cl_View Xt.na_View_every zrl) (zzn 0))) (yf7 ymw (yd1 rfl) (zzn 2) zze (fun _ _=>rfl)) (ybn _))))) (zr6 (zz3 zzl)) zr5)
  (zr6 (zz3 zzl)))))))
abbrev zn8:Stmt:=top 10
noncomputable def zls:Ev->M Fl:=
 (yoo (sIf (eT (yl2 oEq (yl2 oIx (yl9 2) (eC (.int 0))) (yl2 oIx (yl9 1) (eC (.int 0))))) (yon (eFn 3 f_lot_of_paid [] (yfa (yl9 0) (yfa (yl2 oIx (yl9 1) (eC (.int 2))) (yfa (yl9 2) yle))))) yol)
 (yon (eFn 3 f_lot_of_due [] (yfa (yl9 0) (yfa (yl2 oIx (yl9 1) (eC (.int 2))) (yfa (yl9 2) yle))))))
noncomputable def f_lot_of:List D->M D:=hide fun ds=>frz (run 3 zls ds)
theorem zis:FnScope ["view", "pot", "tie"] ["view", "pot", "tie"] (zkd zn8):=scD rfl rfl rfl (by decide +kernel)
theorem zgh:BD "lot_of" "lot_of" zn8 ["view", "pot", "tie"]:=
 fun _ _ _ _ _ _ us hl=>match us,hl with|[_,_,_],_=>rfl
theorem zic(Xt:Txt K mg ca):OkF ⟨K,ca,tx K⟩ P w mg base 3 "lot_of" ["view", "pot", "tie"] f_lot_of:=
 OkF.hide (OkF.frz (yh9 Xt.f_lot_of zis fun _ _ _ _ _ _ _ hr=>
  (zlq (ygn (zz5 (yb8 (hu9 hr)) yow (yf7 ymw (yd1 rfl) (zzn 2) zze (fun _ _=>rfl)) (yf7 ymw (yd1 rfl) (zzn 1) zze (fun _ _=>rfl)) (ybn _)) (zr6 (zz3 (zky (zbj Xt) rfl (hr.mono (by decide)) rfl (zq7 (zzn 0) (zq7 (yf7 ymw (yd1 rfl) (zzn 1) zze (fun _ _=>rfl)) (zq7 (zzn 2) zy9)))))) zr5)
  (zr6 (zz3 (zky (zcf Xt) rfl (hr.mono (by decide)) rfl (zq7 (zzn 0) (zq7 (yf7 ymw (yd1 rfl) (zzn 1) zze (fun _ _=>rfl)) (zq7 (zzn 2) zy9)))))))))
abbrev zdl:Stmt:=top 11
noncomputable def zc8:Ev->M Fl:=
 (yoo (yop 3 (yl2 oIx (yl2 oIx (yl9 2) (eC (.int 1))) (yl2 oIx (yl9 1) (eC (.int 0)))))
 (yoo (yop 4 yfy)
 (yoo (yok (yoz (yl2 oIx (yl9 2) (eC (.int 2)))) (tgN 5) (yoo (yop 6 (eFn 3 f_lot_of [] (yfa (yl9 0) (yfa (yl9 1) (yfa (yl9 5) yle)))))
 (yoo (yi4 (yl8 (yfa (yl9 6) (yfa (yl2 oIx (yl9 5) (eC (.int 1))) (yfa (yl2 oIx (yl9 5) (eC (.int 3))) yle)))) (yl9 4) (yl2 oIx (yl9 5) (eC (.int 2))))
 (sIf (eT (eUn (yni false ["won", "sure", "back"]) (yl9 6))) (yoh (fun a b=>a+b) 3 (yl2 oIx (yl9 5) (eC (.int 1)))) yol))))
 (yon (yl8 (yfa (yl9 3) (yfa (yl9 4) yle)))))))
noncomputable def f_read_stand:List D->M D:=hide fun ds=>frz (run 7 zc8 ds)
theorem zcu:FnScope ["view", "pot", "one", "firm", "lots", "tie", "lot"] ["view", "pot", "one"] (zkd zdl):=scD rfl rfl rfl (by decide +kernel)
theorem zb2:BD "read_stand" "read_stand" zdl ["view", "pot", "one"]:=
 fun _ _ _ _ _ _ us hl=>match us,hl with|[_,_,_],_=>rfl
theorem zcg(Xt:Txt K mg ca):OkF ⟨K,ca,tx K⟩ P w mg base 4 "read_stand" ["view", "pot", "one"] f_read_stand:=
 OkF.hide (OkF.frz (yh9 Xt.f_read_stand zcu fun _ _ _ _ _ _ _ hr=>
  (zlq (zz4 (i:=3) zcu.nd rfl (Or.inl rfl) (yf7 ymw (yd1 rfl) (yf7 ymw (yd1 rfl) (zzn 2) zze (fun _ _=>rfl)) (yf7 ymw (yd1 rfl) (zzn 1) zze (fun _ _=>rfl)) (fun _ _=>rfl)))
  (zlq (zz4 (i:=4) zcu.nd rfl (Or.inl rfl) zra)
  (zlq (zz2 zif rfl (zzp rfl (yf7 ymw (yd1 rfl) (zzn 2) zze (fun _ _=>rfl))) (zrh (i:=5) zcu.nd rfl (Or.inl rfl)) (zlq (zz4 (i:=6) zcu.nd rfl (Or.inl rfl) (zky (zic Xt) rfl (hr.mono (by decide)) rfl (zq7 (zzn 0) (zq7 (zzn 1) (zq7 (zzn 5) zy9)))))
  (zlq (zr2 (hu9 hr) (zzm (zq7 (zzn 6) (zq7 (yf7 ymw (yd1 rfl) (zzn 5) zze (fun _ _=>rfl)) (zq7 (yf7 ymw (yd1 rfl) (zzn 5) zze (fun _ _=>rfl)) zy9)))) (zzn 4) (yf7 ymw (yd1 rfl) (zzn 5) zze (fun _ _=>rfl)))
  (zr6 (ygn (zz6 (ss:=["won", "sure", "back"]) rfl Xt.c_FIRM (zzn 6)) (zr6 (zz0 (i:=3) yap zcu.nd rfl (Or.inl rfl) (yf7 ymw (yd1 rfl) (zzn 5) zze (fun _ _=>rfl)))) zr5)))))
  (zr6 (zz3 (zzm (zq7 (zzn 3) (zq7 (zzn 4) zy9))))))))))
abbrev zen:Stmt:=top 12
noncomputable def zd3:Ev->M Fl:=
 (yoo (yop 1 (yl6 yle))
 (yoo (yok (yoz (eUn (yng [0] "pots") (yl9 0))) (tgN 2) (yoi (yf1 zt5 (yl9 1) (yfa (yl3 (eLC (yoz (yl2 oIx (yl9 2) (eC (.int 1)))) [0,2] (tgN 0) yfd (eFn 3 f_read_stand [] (yfa (yl9 1) (yfa (yl9 2) (yfa (yl9 0) yle)))))) yle))))
 (yon (yl9 1))))
noncomputable def f_read_pots:List D->M D:=hide fun ds=>frz (run 3 zd3 ds)
theorem zdp:FnScope ["view", "readings", "pot"] ["view"] (zkd zen):=scD rfl rfl rfl (by decide +kernel)
theorem zcy:BD "read_pots" "read_pots" zen ["view"]:=
 fun _ _ _ _ _ _ us hl=>match us,hl with|[_],_=>rfl
theorem zdc(Xt:Txt K mg ca):OkF ⟨K,ca,tx K⟩ P w mg base 5 "read_pots" ["view"] f_read_pots:=
 OkF.hide (OkF.frz (yh9 Xt.f_read_pots zdp fun _ _ _ _ _ _ _ hr=>
  (zlq (zz4 (i:=1) zdp.nd rfl (Or.inl rfl) (zzh zy9))
  (zlq (zz2 zif rfl (zzp rfl (zzc rfl (zlc (T:=⟨K,ca,tx K⟩) (c:=0) Xt.cl_View Xt.na_View_pots zrl) (zzn 0))) (zrh (i:=2) zdp.nd rfl (Or.inr rfl)) (zr6 (zr0 (zre PySem.F.plainAttrs_list PySem.F.slot_list_append PySem.F.type_list_append zh5 zf6 (zzn 1) (zq7 (zzd (yf8 (x:="one") (M':=["view", "pot"]) (ix:=[0,2]) rfl ⟨rfl,rfl,rfl,rfl,rfl,rfl⟩ (zzp rfl (yf7 ymw (yd1 rfl) (zzn 2) zze (fun _ _=>rfl))) (fun _ _ _ _ _=>zrh (i:=0) (by show List.Nodup (("one"::["view", "pot"]):List Str);decide +kernel) rfl (Or.inl rfl)) (fun _ _ _ _ _=>zrj) (fun _ _ _ _ _=>(zky (zcg Xt) rfl (hr.mono (by decide)) rfl (zq7 (zzn 1) (zq7 (zzn 2) (zq7 (zzn 0) zy9))))))) zy9)))))
  (zr6 (zz3 (zzn 1)))))))
abbrev zcj:Stmt:=top 13
noncomputable def zb6:Ev->M Fl:=
 (yoo (yop 1 (yl6 (yfa (yl6 yle) yle)))
 (yoo (yok (yoz (yl9 0)) (tgN 2) (yoo (yop 3 (yl6 yle))
 (yoo (yok (yoz (yl9 1)) (tgN 4) (yoi (yf1 zt9 (yl9 3) (yfa (yfz yoq (eLC (yoy (yfx ynm (yfa (yl9 2) yle))) [4] (tgN 0) yfd (yl2 yhv (yl9 1) (eLv (yfa (yl9 0) yle))))) yle))))
 (yop 1 (yl9 3)))))
 (yon (yl9 1))))
noncomputable def f_all_choices:List D->M D:=hide fun ds=>frzJ yoq (run 5 zb6 ds)
theorem zbs:FnScope ["readings", "choices", "stands", "longer", "chosen"] ["readings"] (zkd zcj):=scD rfl rfl rfl (by decide +kernel)
theorem za7:BD "all_choices" "all_choices" zcj ["readings"]:=
 fun _ _ _ _ _ _ us hl=>match us,hl with|[_],_=>rfl
theorem zbh(Xt:Txt K mg ca):OkF ⟨K,ca,tx K⟩ P w mg base 1 "all_choices" ["readings"] f_all_choices:=
 OkF.hide (OkF.frzJ (yh9 Xt.f_all_choices zbs fun _ _ _ _ _ _ _ hr=>
  (zlq (zz4 (i:=1) zbs.nd rfl (Or.inl rfl) (zzh (zq7 (zzh zy9) zy9)))
  (zlq (zz2 zif rfl (zzp rfl (zzn 0)) (zrh (i:=2) zbs.nd rfl (Or.inl rfl)) (zlq (zz4 (i:=3) zbs.nd rfl (Or.inl rfl) (zzh zy9))
  (zlq (zz2 zif rfl (zzp rfl (zzn 1)) (zrh (i:=4) zbs.nd rfl (Or.inr rfl)) (zr6 (zr0 (zre PySem.F.plainAttrs_list PySem.F.slot_list_extend PySem.F.type_list_extend zh6 zf7 (zzn 3) (zq7 (zrc (yf8 (x:="place") (M':=["chosen"]) (ix:=[4]) rfl ⟨rfl,rfl,rfl,rfl,rfl,rfl⟩ (zk5 rfl Xt.n_range (zkx zc0 (zwr rfl) rfl Xt.n_len PySem.boot_len (zq7 (zzn 2) zy9))) (fun _ _ _ _ _=>zrh (i:=0) (by show List.Nodup (("place"::["chosen"]):List Str);decide +kernel) rfl (Or.inl rfl)) (fun _ _ _ _ _=>zrj) (fun _ _ _ _ _=>(yga zum yow (zzn 1) (yf9 (zq7 (zzn 0) zy9)))))) zy9)))))
  (zr6 (zz4 (i:=1) zbs.nd rfl (Or.inl rfl) (zzn 3))))))
  (zr6 (zz3 (zzn 1)))))))
abbrev zbo:Stmt:=top 15
noncomputable def zbd:Ev->M Fl:=
 (yoo (yop 1 yfy)
 (yoo (yok (yoz (yl9 0)) (tgN 2) (yi3 (yox (yl2 oIx (yl9 2) (eC (.int 1)))) (tgT 2 (yed (tgN 3) (yed (tgN 4) yj2))) (yoi (yf1 zt5 (zyx zuj (yl9 1) (yfa (yl9 3) (yfa (yl6 yle) yle))) (yfa (yl9 4) yle)))))
 (yon (yl9 1))))
noncomputable def f_lots_by_word:List D->M D:=hide fun ds=>frz (run 5 zbd ds)
theorem za3:FnScope ["reads", "by_word", "read", "word", "lot"] ["reads"] (zkd zbo):=scD rfl rfl rfl (by decide +kernel)
theorem zaq:BD "lots_by_word" "lots_by_word" zbo ["reads"]:=
 fun _ _ _ _ _ _ us hl=>match us,hl with|[_],_=>rfl
theorem zax(Xt:Txt K mg ca):OkF ⟨K,ca,tx K⟩ P w mg base 1 "lots_by_word" ["reads"] f_lots_by_word:=
 OkF.hide (OkF.frz (yh9 Xt.f_lots_by_word za3 fun _ _ _ _ _ _ _ hr=>
  (zlq (zz4 (i:=1) za3.nd rfl (Or.inl rfl) zra)
  (zlq (zz2 zif rfl (zzp rfl (zzn 0)) (zrh (i:=2) za3.nd rfl (Or.inl rfl)) (zr6 (zr1 zif rfl (zk4 (yf7 ymw (yd1 rfl) (zzn 2) zze (fun _ _=>rfl))) (zzo rfl (zk3 (zrh (i:=3) za3.nd rfl (Or.inl rfl)) (zk3 (zrh (i:=4) za3.nd rfl (Or.inl rfl)) zri))) (zr6 (zr0 (zre PySem.F.plainAttrs_list PySem.F.slot_list_append PySem.F.type_list_append zh5 zf6 (zk1 PySem.F.plainAttrs_dict PySem.F.slot_dict_setdefault PySem.F.type_dict_setdefault zh7 zf8 (zzn 1) (zq7 (zzn 3) (zq7 (zzh zy9) zy9))) (zq7 (zzn 4) zy9)))))))
  (zr6 (zz3 (zzn 1)))))))
abbrev zf1:Stmt:=top 16
noncomputable def zfa:Ev->M Fl:=
 (yon (yl2 yna (eLv (yfa (eC .non) yle)) (yl3 (eLC (yoz (yl9 0)) [] (tgN 0) (eT (yl2 oEq (yl2 oIx (yl9 0) (eC (.int 0))) (eC (.str "open")))) (yl2 oIx (yl9 0) (eC (.int 2)))))))
noncomputable def f_fates_of:List D->M D:=hide fun ds=>frz (run 1 zfa ds)
theorem zer:FnScope ["lots"] ["lots"] (zkd zf1):=scD rfl rfl rfl (by decide +kernel)
theorem zdu:BD "fates_of" "fates_of" zf1 ["lots"]:=
 fun _ _ _ _ _ _ us hl=>match us,hl with|[_],_=>rfl
theorem zef(Xt:Txt K mg ca):OkF ⟨K,ca,tx K⟩ P w mg base 1 "fates_of" ["lots"] f_fates_of:=
 OkF.hide (OkF.frz (yh9 Xt.f_fates_of zer fun _ _ _ _ _ _ _ hr=>
  (zr6 (zz3 (yga (zul rfl) yow (yf9 (zq7 zzi zy9)) (zzd (yf8 (x:="lot") (M':=[]) (ix:=[]) rfl ⟨rfl,rfl,rfl,rfl,rfl,rfl⟩ (zzp rfl (zzn 0)) (fun _ _ _ _ _=>zrh (i:=0) (by show List.Nodup (("lot"::[]):List Str);decide +kernel) rfl (Or.inl rfl)) (fun _ _ _ _ _=>zrk (zz5 (yb8 (hu9 hr)) yow (yf7 ymw (yd1 rfl) (zzn 0) zze (fun _ _=>rfl)) zzl (ybn _))) (fun _ _ _ _ _=>(yf7 ymw (yd1 rfl) (zzn 0) zze (fun _ _=>rfl))))))))))
abbrev za0:Stmt:=top 17
noncomputable def zat:Ev->M Fl:=
 (yoo (sIf (eT (yl2 oEq (yl2 oIx (yl9 0) (eC (.int 0))) (eC (.str "open")))) (yon (eOr (yl2 ynk (yl9 1) (eC .non)) (yl2 oGt (yl9 1) (yl2 oIx (yl9 0) (eC (.int 2)))))) yol)
 (yon (yl1 (yl2 oEq (yl2 oIx (yl9 0) (eC (.int 0))) (eC (.str "hangs"))) (yl1 (yl2 yh6 (yl9 1) (eC .non)) (yl2 oLt (yl2 yna (yl2 ynt (yl9 1) (eC (.int 1))) (yl9 2)) (yl2 oIx (yl9 0) (eC (.int 2))))))))
noncomputable def f_comes_by_fate:List D->M D:=hide fun ds=>frz (run 3 zat ds)
theorem zam:FnScope ["lot", "fate", "every"] ["lot", "fate", "every"] (zkd za0):=scD rfl rfl rfl (by decide +kernel)
theorem zag:BD "comes_by_fate" "comes_by_fate" za0 ["lot", "fate", "every"]:=
 fun _ _ _ _ _ _ us hl=>match us,hl with|[_,_,_],_=>rfl
theorem zaj(Xt:Txt K mg ca):OkF ⟨K,ca,tx K⟩ P w mg base 1 "comes_by_fate" ["lot", "fate", "every"] f_comes_by_fate:=
 OkF.hide (OkF.frz (yh9 Xt.f_comes_by_fate zam fun _ _ _ _ _ _ _ hr=>
  (zlq (ygn (zz5 (yb8 (hu9 hr)) yow (yf7 ymw (yd1 rfl) (zzn 0) zze (fun _ _=>rfl)) zzl (ybn _)) (zr6 (zz3 (ygb (zzb yca zwq (zzn 1) zzi (ybn _)) (zzk (zzb yib ydz (zzn 1) (yf7 ymw (yd1 rfl) (zzn 0) zze (fun _ _=>rfl)) (ybn _)))))) zr5)
  (zr6 (zz3 (zza (zzb (yb8 (hu9 hr)) yow (yf7 ymw (yd1 rfl) (zzn 0) zze (fun _ _=>rfl)) zzl (ybn _)) (zza (zzb zup zot (zzn 1) zzi (ybn _)) (zzk (zzb yid yd3 (yga (zul rfl) yow (yga ych zwx (zzn 1) zze) (zzn 2)) (yf7 ymw (yd1 rfl) (zzn 0) zze (fun _ _=>rfl)) (ybn _))))))))))
abbrev zcm:Stmt:=top 18
noncomputable def zb9:Ev->M Fl:=
 (yon (yfx ynu (yfa (yl3 (eLC (yoz (yl9 0)) [1,2] (tgN 0) (eT (eFn 3 f_comes_by_fate [] (yfa (yl9 0) (yfa (yl9 1) (yfa (yl9 2) yle))))) (yl2 oIx (yl9 0) (eC (.int 1))))) yle)))
noncomputable def f_sum_by_fate:List D->M D:=hide fun ds=>frz (run 3 zb9 ds)
theorem zbv:FnScope ["lots", "fate", "every"] ["lots", "fate", "every"] (zkd zcm):=scD rfl rfl rfl (by decide +kernel)
theorem zba:BD "sum_by_fate" "sum_by_fate" zcm ["lots", "fate", "every"]:=
 fun _ _ _ _ _ _ us hl=>match us,hl with|[_,_,_],_=>rfl
theorem zbk(Xt:Txt K mg ca):OkF ⟨K,ca,tx K⟩ P w mg base 2 "sum_by_fate" ["lots", "fate", "every"] f_sum_by_fate:=
 OkF.hide (OkF.frz (yh9 Xt.f_sum_by_fate zbv fun _ _ _ _ _ _ _ hr=>
  (zr6 (zz3 (zkx (zgv rfl) (zwy rfl) rfl Xt.n_sum boot_sum (zq7 (zzd (yf8 (x:="lot") (M':=["fate", "every"]) (ix:=[1,2]) rfl ⟨rfl,rfl,rfl,rfl,rfl,rfl⟩ (zzp rfl (zzn 0)) (fun _ _ _ _ _=>zrh (i:=0) (by show List.Nodup (("lot"::["fate", "every"]):List Str);decide +kernel) rfl (Or.inl rfl)) (fun _ _ _ _ _=>zrk (zz8 (zky (zaj Xt) rfl (hr.mono (by decide)) rfl (zq7 (zzn 0) (zq7 (zzn 1) (zq7 (zzn 2) zy9)))))) (fun _ _ _ _ _=>(yf7 ymw (yd1 rfl) (zzn 0) zze (fun _ _=>rfl))))) zy9))))))
abbrev zdj:Stmt:=top 19
noncomputable def zc6:Ev->M Fl:=
 (yon (yf2 [0,1] (eFn 3 f_sum_by_fate [] (yfa (yl9 1) (yfa (yl9 0) (yfa (yl9 2) yle)))) (yfa (eFn 1 f_fates_of [] (yfa (yl9 0) yle)) yle)))
noncomputable def f_least_fate:List D->M D:=hide fun ds=>frz (run 2 zc6 ds)
theorem zcr:FnScope ["lots", "every"] ["lots", "every"] (zkd zdj):=scD rfl rfl rfl (by decide +kernel)
theorem zb0:BD "least_fate" "least_fate" zdj ["lots", "every"]:=
 fun _ _ _ _ _ _ us hl=>match us,hl with|[_,_],_=>rfl
theorem zce(Xt:Txt K mg ca):OkF ⟨K,ca,tx K⟩ P w mg base 5 "least_fate" ["lots", "every"] f_least_fate:=
 OkF.hide (OkF.frz (yb3 Xt.f_least_fate zcr fun _ _ _ _ _ _ hr=>
  (zr6 (zz3 (zrf (x:="fate") (M':=["lots", "every"]) (ix:=[0,1]) (t:=tx0 K) (k:=2) (hr.mono (by decide)) ⟨rfl,rfl,rfl,rfl,rfl,rfl⟩ rfl ⟨(ztp K),fun t' ht'=>Xt.tinj _ (ztp K) t' ht',rfl,Xt.tb.hd _ (by decide),rfl,rfl,rfl,Xt.bmg,Xt.tb.bb⟩ rfl Xt.n_min rfl rfl rfl (fun _ _ _ _ _=>rfl) (zq7 (zky (zef Xt) rfl (hr.mono (by decide)) rfl (zq7 (zzn 0) zy9)) zy9) (fun _ _ _ _ _ hr=>(zky (zbk Xt) rfl (hr.mono (by decide)) rfl (zq7 (zzn 1) (zq7 (zzn 0) (zq7 (zzn 2) zy9))))))))))
abbrev zn9:Stmt:=top 20
noncomputable def zlt:Ev->M Fl:=
 (yoo (yop 4 (yfx ynu (yfa (yl3 (eLC (yoz (yl9 0)) [] (tgN 0) yfd (yl2 oIx (yl9 0) (eC (.int 0))))) yle)))
 (yoo (yi3 (yox (yl9 1)) (tgT 2 (yed (tgN 5) (yed (tgN 6) yj2))) (yoh (fun a b=>a+b) 4 (eFn 3 f_sum_by_fate [] (yfa (yl9 6) (yfa (yl2 yhw (yl9 2) (yl9 5)) (yfa (yl9 3) yle))))))
 (yon (yl9 4))))
noncomputable def f_sum_of:List D->M D:=hide fun ds=>frz (run 7 zlt ds)
theorem zit:FnScope ["reads", "by_word", "fates", "every", "total", "word", "lots"] ["reads", "by_word", "fates", "every"] (zkd zn9):=scD rfl rfl rfl (by decide +kernel)
theorem zgi:BD "sum_of" "sum_of" zn9 ["reads", "by_word", "fates", "every"]:=
 fun _ _ _ _ _ _ us hl=>match us,hl with|[_,_,_,_],_=>rfl
theorem zid(Xt:Txt K mg ca):OkF ⟨K,ca,tx K⟩ P w mg base 3 "sum_of" ["reads", "by_word", "fates", "every"] f_sum_of:=
 OkF.hide (OkF.frz (yh9 Xt.f_sum_of zit fun _ _ _ _ _ _ _ hr=>
  (zlq (zz4 (i:=4) zit.nd rfl (Or.inl rfl) (zkx (zgv rfl) (zwy rfl) rfl Xt.n_sum boot_sum (zq7 (zzd (yf8 (x:="read") (M':=[]) (ix:=[]) rfl ⟨rfl,rfl,rfl,rfl,rfl,rfl⟩ (zzp rfl (zzn 0)) (fun _ _ _ _ _=>zrh (i:=0) (by show List.Nodup (("read"::[]):List Str);decide +kernel) rfl (Or.inl rfl)) (fun _ _ _ _ _=>zrj) (fun _ _ _ _ _=>(yf7 ymw (yd1 rfl) (zzn 0) zze (fun _ _=>rfl))))) zy9)))
  (zlq (zr1 zif rfl (zk4 (zzn 1)) (zzo rfl (zk3 (zrh (i:=5) zit.nd rfl (Or.inl rfl)) (zk3 (zrh (i:=6) zit.nd rfl (Or.inl rfl)) zri))) (zr6 (zz0 (i:=4) yap zit.nd rfl (Or.inl rfl) (zky (zbk Xt) rfl (hr.mono (by decide)) rfl (zq7 (zzn 6) (zq7 (zq9 (hu9 hr) (zzn 2) (zzn 5) (fun _ _=>rfl)) (zq7 (zzn 3) zy9)))))))
  (zr6 (zz3 (zzn 4)))))))
abbrev zck:Stmt:=top 21
noncomputable def zb7:Ev->M Fl:=
 (yoo (yop 3 (eFn 1 f_lots_by_word [] (yfa (yl9 0) yle)))
 (yoo (yop 4 yfy)
 (yoo (yi3 (yox (yl9 3)) (tgT 2 (yed (tgN 5) (yed (tgN 6) yj2))) (yi4 (eFn 2 f_least_fate [] (yfa (yl9 6) (yfa (yl9 2) yle))) (yl9 4) (yl9 5)))
 (yon (yl8 (yfa (eFn 4 f_sum_of [] (yfa (yl9 0) (yfa (yl9 3) (yfa (yl9 4) (yfa (yl9 2) yle))))) (yfa (yl9 1) (yfa (yl9 4) yle))))))))
noncomputable def f_least_paper:List D->M D:=hide fun ds=>frzJ yoq (run 7 zb7 ds)
theorem zbt:FnScope ["reads", "chosen", "every", "by_word", "fates", "word", "lots"] ["reads", "chosen", "every"] (zkd zck):=scD rfl rfl rfl (by decide +kernel)
theorem za8:BD "least_paper" "least_paper" zck ["reads", "chosen", "every"]:=
 fun _ _ _ _ _ _ us hl=>match us,hl with|[_,_,_],_=>rfl
theorem zbi(Xt:Txt K mg ca):OkF ⟨K,ca,tx K⟩ P w mg base 6 "least_paper" ["reads", "chosen", "every"] f_least_paper:=
 OkF.hide (OkF.frzJ (yh9 Xt.f_least_paper zbt fun _ _ _ _ _ _ _ hr=>
  (zlq (zz4 (i:=3) zbt.nd rfl (Or.inl rfl) (zky (zax Xt) rfl (hr.mono (by decide)) rfl (zq7 (zzn 0) zy9)))
  (zlq (zz4 (i:=4) zbt.nd rfl (Or.inl rfl) zra)
  (zlq (zr1 zif rfl (zk4 (zzn 3)) (zzo rfl (zk3 (zrh (i:=5) zbt.nd rfl (Or.inl rfl)) (zk3 (zrh (i:=6) zbt.nd rfl (Or.inl rfl)) zri))) (zr6 (zr2 (hu9 hr) (zky (zce Xt) rfl (hr.mono (by decide)) rfl (zq7 (zzn 6) (zq7 (zzn 2) zy9))) (zzn 4) (zzn 5))))
  (zr6 (zz3 (zzm (zq7 (zky (zid Xt) rfl (hr.mono (by decide)) rfl (zq7 (zzn 0) (zq7 (zzn 3) (zq7 (zzn 4) (zq7 (zzn 2) zy9))))) (zq7 (zzn 1) (zq7 (zzn 4) zy9)))))))))))
abbrev zae:Stmt:=top 14
noncomputable def zad:Ev->M Fl:=
 (yon (yl3 (yl5 (yo0 (yl9 0) (yl9 1)) [] (tgT 2 (yed (tgN 0) (yed (tgN 1) yj2))) yfd (yl2 oIx (yl9 0) (yl9 1)))))
noncomputable def f_chosen_readings:List D->M D:=hide fun ds=>frz (run 2 zad ds)
theorem zac:FnScope ["readings", "chosen"] ["readings", "chosen"] (zkd zae):=scD rfl rfl rfl (by decide +kernel)
theorem zaa:BD "chosen_readings" "chosen_readings" zae ["readings", "chosen"]:=
 fun _ _ _ _ _ _ us hl=>match us,hl with|[_,_],_=>rfl
theorem zab(Xt:Txt K mg ca):OkF ⟨K,ca,tx K⟩ P w mg base 1 "chosen_readings" ["readings", "chosen"] f_chosen_readings:=
 OkF.hide (OkF.frz (yh9 Xt.f_chosen_readings zac fun _ _ _ _ _ _ _ hr=>
  (zr6 (zz3 (zzd (zzg (x:="stands") (z0:="place") (M':=[]) (ix:=[]) rfl ⟨rfl,rfl,rfl,rfl,rfl,rfl⟩ (zzq rfl Xt.n_zip (zzn 0) (zzn 1)) (fun _ _ _ _ _=>zzo rfl (zk3 (zrh (i:=0) (by show List.Nodup (("stands"::"place"::[]):List Str);decide +kernel) rfl (Or.inl rfl)) (zk3 (zrh (i:=1) (by show List.Nodup (("stands"::"place"::[]):List Str);decide +kernel) rfl (Or.inl rfl)) zri))) (fun _ _ _ _ _=>zrj) (fun _ _ _ _ _=>(yf7 ymw (yd1 rfl) (zzn 0) (zzn 1) (fun _ _=>rfl)))))))))
abbrev zv7:Stmt:=top 22
noncomputable def zsi:Ev->M Fl:=
 (yoo (yop 1 (eFn 1 f_read_pots [] (yfa (yl9 0) yle)))
 (yoo (yop 2 (yfz yoq (eLC (yoz (eFn 1 f_all_choices [] (yfa (yl9 1) yle))) [1,0] (tgN 0) yfd (eFn 3 f_least_paper [] (yfa (eFn 2 f_chosen_readings [] (yfa (yl9 1) (yfa (yl9 0) yle))) (yfa (yl9 0) (yfa (eUn (yng [0] "every") (yl9 2)) yle)))))))
 (yon (yf2 [] (yl2 oIx (yl9 0) (eC (.int 0))) (yfa (yl9 2) yle)))))
noncomputable def f_paper:List D->M D:=hide fun ds=>frzJ yoq (run 3 zsi ds)
theorem zoa:FnScope ["view", "readings", "papers"] ["view"] (zkd zv7):=scD rfl rfl rfl (by decide +kernel)
theorem zjq:BD "paper" "paper" zv7 ["view"]:=
 fun _ _ _ _ _ _ us hl=>match us,hl with|[_],_=>rfl
theorem znd(Xt:Txt K mg ca):OkF ⟨K,ca,tx K⟩ P w mg base 7 "paper" ["view"] f_paper:=
 OkF.hide (OkF.frzJ (yb3 Xt.f_paper zoa fun _ _ _ _ _ _ hr=>
  (zlq (zz4 (i:=1) zoa.nd rfl (Or.inr rfl) (zky (zdc Xt) rfl (hr.mono (by decide)) rfl (zq7 (zzn 0) zy9)))
  (zlq (zlo (zlp (i:=2) zoa.nd rfl (Or.inl rfl) (x:="chosen") (M':=["readings", "view"]) (ix:=[1,0]) rfl ⟨rfl,rfl,rfl,rfl,rfl,rfl⟩ (zzp rfl (zky (zbh Xt) rfl (hr.mono (by decide)) rfl (zq7 (zzn 1) zy9))) (fun _ _ _ _ _=>zrh (i:=0) (by show List.Nodup (("chosen"::["readings", "view"]):List Str);decide +kernel) rfl (Or.inl rfl)) (fun _ _ _ _ _=>zrj) (fun _ _ _ _ _=>(zky (zbi Xt) rfl (hr.mono (by decide)) rfl (zq7 (zky (zab Xt) rfl (hr.mono (by decide)) rfl (zq7 (zzn 1) (zq7 (zzn 0) zy9))) (zq7 (zzn 0) (zq7 (zzc rfl (zlc (T:=⟨K,ca,tx K⟩) (c:=0) Xt.cl_View Xt.na_View_every zrl) (zzn 2)) zy9)))))))
  (zr6 (zz3 (zrf (x:="told") (M':=[]) (ix:=[]) (t:=tx1 K) (k:=0) (hr.mono (by decide)) ⟨rfl,rfl,rfl,rfl,rfl,rfl⟩ rfl ⟨(ztq K),fun t' ht'=>Xt.tinj _ (ztq K) t' ht',rfl,Xt.tb.hd _ (by decide),rfl,rfl,rfl,Xt.bmg,Xt.tb.bb⟩ rfl Xt.n_min rfl rfl rfl (fun _ _ _ _ _=>rfl) (zq7 (zzn 2) zy9) (fun _ _ _ _ _ hr=>(yf7 ymw (yd1 rfl) (zzn 0) zze (fun _ _=>rfl))))))))))
abbrev zv8:Stmt:=top 23
noncomputable def zsj:Ev->M Fl:=
 (yon (yl2 oIx (eFn 1 f_paper [] (yfa (yl9 0) yle)) (eC (.int 0))))
noncomputable def f_worth:List D->M D:=hide fun ds=>frz (run 1 zsj ds)
theorem zob:FnScope ["view"] ["view"] (zkd zv8):=scD rfl rfl rfl (by decide +kernel)
theorem zjr:BD "worth" "worth" zv8 ["view"]:=
 fun _ _ _ _ _ _ us hl=>match us,hl with|[_],_=>rfl
theorem zne(Xt:Txt K mg ca):OkF ⟨K,ca,tx K⟩ P w mg base 8 "worth" ["view"] f_worth:=
 OkF.hide (OkF.frz (yh9 Xt.f_worth zob fun _ _ _ _ _ _ _ hr=>
  (zr6 (zz3 (yf7 ymw (yd1 rfl) (zky (znd Xt) rfl (hr.mono (by decide)) rfl (zq7 (zzn 0) zy9)) zze (fun _ _=>rfl))))))
abbrev zel:Stmt:=top 35
noncomputable abbrev fmB:Ev->M Fl:=(sIf (bOr (ylm (eT (eUn (ynj .int) (yl9 2)))) (eT (eUn (ynj .bool) (yl9 2)))) (yon (eC (.bl false))) yol)
noncomputable def zd1:Ev->M Fl:=
 (yoo (sIf (bOr (ylm (eT (eUn (ynj .tuple) (yl9 0)))) (eT (yl2 oNe (yfx ynm (yfa (yl9 0) yle)) (eC (.int 3))))) (yon (eC (.bl false))) yol)
 (yoo (sIf (bOr (ylm (eT (eUn (ynj .list) (yl2 oIx (yl9 0) (eC (.int 1)))))) (bOr (ylm (eT (eUn (ynj .dict) (yl2 oIx (yl9 0) (eC (.int 2)))))) (eT (yl2 oNe (yfx ynm (yfa (yl2 oIx (yl9 0) (eC (.int 1))) yle)) (yfx ynm (yfa (yl9 1) yle)))))) (yon (eC (.bl false))) yol)
 (yoo (yok (yoz (yl2 yna (yl2 yna (eLv (yfa (yl2 oIx (yl9 0) (eC (.int 0))) yle)) (yl2 oIx (yl9 0) (eC (.int 1)))) (yl3 (eUn (fun x=>ybs [x]) (yl2 oIx (yl9 0) (eC (.int 2))))))) (tgN 2) fmB)
 (yon (yfx ynb (yfa (yl3 (yf5 (yl2 oIx (yl9 0) (eC (.int 2))) (yl5 (yji (yl2 oIx (yl9 0) (eC (.int 2)))) [] (tgN 0) yfd (eOr (yl2 ynk (yl9 0) (eC .non)) (yl1 (eUn (ynj .int) (yl9 0)) (yl7 (eUn (ynj .bool) (yl9 0)))))))) yle))))))
noncomputable def f__law_form:List D->M D:=hide fun ds=>frz (run 3 zd1 ds)
theorem zdm:FnScope ["_law_told", "_law_pots", "_law_part"] ["_law_told", "_law_pots"] (zkd zel):=scD rfl rfl rfl (by decide +kernel)
theorem zcw:BD "_law_form" "_law_form" zel ["_law_told", "_law_pots"]:=
 fun _ _ _ _ _ _ us hl=>match us,hl with|[_,_],_=>rfl
theorem zda(Xt:Txt K mg ca):OkF ⟨K,ca,tx K⟩ P w mg base 1 "_law_form" ["_law_told", "_law_pots"] f__law_form:=
 OkF.hide (OkF.frz (yh9 Xt.f__law_form zdm fun _ _ _ _ _ _ _ hr=>
  (zlq (ygn (L2.PW.pt (ygo (zz7 (zz8 (zzf .tuple (zzn 0) rfl Xt.n_isinstance rfl Xt.n_tuple boot_tuple))) (yab (zz5 (yce (hu9 hr)) yow (zkx zc0 (zwr rfl) rfl Xt.n_len PySem.boot_len (zq7 (zzn 0) zy9)) zze (ybn _))))) (zr6 (zz3 yf6)) zr5)
  (zlq (ygn (L2.PW.pt (ygo (zz7 (zz8 (zzf .list (yf7 ymw (yd1 rfl) (zzn 0) zze (fun _ _=>rfl)) rfl Xt.n_isinstance rfl Xt.n_list boot_list))) (ygo (zz7 (zz8 (zzf .dict (yf7 ymw (yd1 rfl) (zzn 0) zze (fun _ _=>rfl)) rfl Xt.n_isinstance rfl Xt.n_dict boot_dict))) (yab (zz5 (yce (hu9 hr)) yow (zkx zc0 (zwr rfl) rfl Xt.n_len PySem.boot_len (zq7 (yf7 ymw (yd1 rfl) (zzn 0) zze (fun _ _=>rfl)) zy9)) (zkx zc0 (zwr rfl) rfl Xt.n_len PySem.boot_len (zq7 (zzn 1) zy9)) (ybn _)))))) (zr6 (zz3 yf6)) zr5)
  (zlq (zz2 zif rfl (zzp rfl (yga (zul rfl) yow (yga (zul rfl) yow (yf9 (zq7 (yf7 ymw (yd1 rfl) (zzn 0) zze (fun _ _=>rfl)) zy9)) (yf7 ymw (yd1 rfl) (zzn 0) zze (fun _ _=>rfl))) (zzd (zdz rfl rfl Xt.n_list (yf7 ymw (yd1 rfl) (zzn 0) zze (fun _ _=>rfl)))))) (zrh (i:=2) zdm.nd rfl (Or.inl rfl)) (zr6 (ygn (L2.PW.pt (ygo (zz7 (zz8 (zzf .int (zzn 2) rfl Xt.n_isinstance rfl Xt.n_int boot_int))) (yab (zz8 (zzf .bool (zzn 2) rfl Xt.n_isinstance rfl Xt.n_bool boot_bool))))) (zr6 (zz3 yf6)) zr5)))
  (zr6 (zz3 (zkx (zjx rfl) (zwm rfl) rfl Xt.n_all boot_all (zq7 (zzd (zrg (zzg (x:="_law_fate") (z0:="0") (M':=[]) (ix:=[]) rfl ⟨rfl,rfl,rfl,rfl,rfl,rfl⟩ (zk6 (yf7 ymw (yd1 rfl) (zzn 0) zze (fun _ _=>rfl))) (fun _ _ _ _ _=>zrh (i:=0) (by show List.Nodup (("_law_fate"::"0"::[]):List Str);decide +kernel) rfl (Or.inl rfl)) (fun _ _ _ _ _=>zrj) (fun _ _ _ _ _=>(ygb (zzb yca zwq (zzn 0) zzi (ybn _)) (zzk (zza (zzf .int (zzn 0) rfl Xt.n_isinstance rfl Xt.n_int boot_int) (zzk (zzj (zzf .bool (zzn 0) rfl Xt.n_isinstance rfl Xt.n_bool boot_bool)))))))))) zy9)))))))))
abbrev zf2:Stmt:=top 1
noncomputable def zfb:Ev->M Fl:=
 (yon (yl1 (eUn (ynj .int) (yl9 0)) (yl7 (eUn (ynj .bool) (yl9 0)))))
noncomputable def f_is_whole:List D->M D:=hide fun ds=>frz (run 1 zfb ds)
theorem zes:FnScope ["thing"] ["thing"] (zkd zf2):=scD rfl rfl rfl (by decide +kernel)
theorem zdv:BD "is_whole" "is_whole" zf2 ["thing"]:=
 fun _ _ _ _ _ _ us hl=>match us,hl with|[_],_=>rfl
theorem zeg(Xt:Txt K mg ca):OkF ⟨K,ca,tx K⟩ P w mg base 1 "is_whole" ["thing"] f_is_whole:=
 OkF.hide (OkF.frz (yh9 Xt.f_is_whole zes fun _ _ _ _ _ _ _ hr=>
  (zr6 (zz3 (zza (zzf .int (zzn 0) rfl Xt.n_isinstance rfl Xt.n_int boot_int) (zzk (zzj (zzf .bool (zzn 0) rfl Xt.n_isinstance rfl Xt.n_bool boot_bool))))))))
abbrev zdi:Stmt:=top 2
noncomputable def zc5:Ev->M Fl:=
 (yon (yl1 (eFn 1 f_is_whole [] (yfa (yl9 0) yle)) (zyu oLe oLe (yl9 1) (yl9 0) (yl9 2))))
noncomputable def f_is_between:List D->M D:=hide fun ds=>frz (run 3 zc5 ds)
theorem zcq:FnScope ["thing", "least", "most"] ["thing", "least", "most"] (zkd zdi):=scD rfl rfl rfl (by decide +kernel)
theorem zbz:BD "is_between" "is_between" zdi ["thing", "least", "most"]:=
 fun _ _ _ _ _ _ us hl=>match us,hl with|[_,_,_],_=>rfl
theorem zcd(Xt:Txt K mg ca):OkF ⟨K,ca,tx K⟩ P w mg base 2 "is_between" ["thing", "least", "most"] f_is_between:=
 OkF.hide (OkF.frz (yh9 Xt.f_is_between zcq fun _ _ _ _ _ _ _ hr=>
  (zr6 (zz3 (zza (zky (zeg Xt) rfl (hr.mono (by decide)) rfl (zq7 (zzn 0) zy9)) (zzk (zkz yic yd2 yic yd2 (zzn 1) (zzn 0) (zzn 2))))))))
abbrev zbp:Stmt:=top 24
noncomputable def zbe:Ev->M Fl:=
 (yoo (sIf (eT (yl2 oNe (yfx ynm (yfa (yl9 1) yle)) (yfx ynm (yfa (yl9 0) yle)))) (yon (eC (.bl false))) yol)
 (yon (yfx ynb (yfa (yl3 (yl5 (yo0 (yl9 0) (yl9 1)) [] (tgT 2 (yed (tgN 0) (yed (tgN 1) yj2))) yfd (eFn 3 f_is_between [] (yfa (yl9 1) (yfa (eC (.int 0)) (yfa (yl2 ynt (yfx ynm (yfa (yl9 0) yle)) (eC (.int 1))) yle)))))) yle))))
noncomputable def f_tells_places:List D->M D:=hide fun ds=>frz (run 2 zbe ds)
theorem za4:FnScope ["readings", "chosen"] ["readings", "chosen"] (zkd zbp):=scD rfl rfl rfl (by decide +kernel)
theorem zar:BD "tells_places" "tells_places" zbp ["readings", "chosen"]:=
 fun _ _ _ _ _ _ us hl=>match us,hl with|[_,_],_=>rfl
theorem zay(Xt:Txt K mg ca):OkF ⟨K,ca,tx K⟩ P w mg base 3 "tells_places" ["readings", "chosen"] f_tells_places:=
 OkF.hide (OkF.frz (yh9 Xt.f_tells_places za4 fun _ _ _ _ _ _ _ hr=>
  (zlq (ygn (zz5 (yce (hu9 hr)) yow (zkx zc0 (zwr rfl) rfl Xt.n_len PySem.boot_len (zq7 (zzn 1) zy9)) (zkx zc0 (zwr rfl) rfl Xt.n_len PySem.boot_len (zq7 (zzn 0) zy9)) (ybn _)) (zr6 (zz3 yf6)) zr5)
  (zr6 (zz3 (zkx (zjx rfl) (zwm rfl) rfl Xt.n_all boot_all (zq7 (zzd (zzg (x:="stands") (z0:="place") (M':=[]) (ix:=[]) rfl ⟨rfl,rfl,rfl,rfl,rfl,rfl⟩ (zzq rfl Xt.n_zip (zzn 0) (zzn 1)) (fun _ _ _ _ _=>zzo rfl (zk3 (zrh (i:=0) (by show List.Nodup (("stands"::"place"::[]):List Str);decide +kernel) rfl (Or.inl rfl)) (zk3 (zrh (i:=1) (by show List.Nodup (("stands"::"place"::[]):List Str);decide +kernel) rfl (Or.inl rfl)) zri))) (fun _ _ _ _ _=>zrj) (fun _ _ _ _ _=>(zky (zcd Xt) rfl (hr.mono (by decide)) rfl (zq7 (zzn 1) (zq7 zze (zq7 (yga ych zwx (zkx zc0 (zwr rfl) rfl Xt.n_len PySem.boot_len (zq7 (zzn 0) zy9)) zze) zy9))))))) zy9)))))))
abbrev zcn:Stmt:=top 25
noncomputable def zca:Ev->M Fl:=
 (yoo (sIf (eT (yl2 oNe (yfx yh3 (yfa (yl9 1) yle)) (yfx yh3 (yfa (yl9 0) yle)))) (yon (eC (.bl false))) yol)
 (yon (yfx ynb (yfa (yl3 (yl5 (yox (yl9 0)) [1] (tgT 2 (yed (tgN 0) (yed (tgN 1) yj2))) yfd (yl1 (yl2 ync (yl9 0) (yl9 2)) (yl2 (oIn false) (yl2 yhw (yl9 2) (yl9 0)) (eFn 1 f_fates_of [] (yfa (yl9 1) yle)))))) yle))))
noncomputable def f_tells_fates:List D->M D:=hide fun ds=>frz (run 2 zca ds)
theorem zbw:FnScope ["by_word", "fates"] ["by_word", "fates"] (zkd zcn):=scD rfl rfl rfl (by decide +kernel)
theorem zbb:BD "tells_fates" "tells_fates" zcn ["by_word", "fates"]:=
 fun _ _ _ _ _ _ us hl=>match us,hl with|[_,_],_=>rfl
theorem zbl(Xt:Txt K mg ca):OkF ⟨K,ca,tx K⟩ P w mg base 2 "tells_fates" ["by_word", "fates"] f_tells_fates:=
 OkF.hide (OkF.frz (yh9 Xt.f_tells_fates zbw fun _ _ _ _ _ _ _ hr=>
  (zlq (ygn (zz5 (yce (hu9 hr)) yow (zkx zgs zoq rfl Xt.n_len PySem.boot_len (zq7 (zzn 1) zy9)) (zkx zgs zoq rfl Xt.n_len PySem.boot_len (zq7 (zzn 0) zy9)) (ybn _)) (zr6 (zz3 yf6)) zr5)
  (zr6 (zz3 (zkx (zjx rfl) (zwm rfl) rfl Xt.n_all boot_all (zq7 (zzd (zzg (x:="word") (z0:="lots") (M':=["fates"]) (ix:=[1]) rfl ⟨rfl,rfl,rfl,rfl,rfl,rfl⟩ (zk4 (zzn 0)) (fun _ _ _ _ _=>zzo rfl (zk3 (zrh (i:=0) (by show List.Nodup (("word"::"lots"::["fates"]):List Str);decide +kernel) rfl (Or.inl rfl)) (zk3 (zrh (i:=1) (by show List.Nodup (("word"::"lots"::["fates"]):List Str);decide +kernel) rfl (Or.inl rfl)) zri))) (fun _ _ _ _ _=>zrj) (fun _ _ _ _ _=>(zza (zzb (yb7 (hu9 hr)) zwo (zzn 0) (zzn 2) rfl) (zzk (zzb zie (yd0 rfl false) (zq9 (hu9 hr) (zzn 2) (zzn 0) (fun _ _=>rfl)) (zky (zef Xt) rfl (hr.mono (by decide)) rfl (zq7 (zzn 1) zy9)) rfl)))))) zy9)))))))
abbrev zeo:Stmt:=top 26
noncomputable def zd4:Ev->M Fl:=
 (yoo (yop 2 (eFn 1 f_read_pots [] (yfa (yl9 0) yle)))
 (yoo (sIf (ylm (eT (eFn 2 f_tells_places [] (yfa (yl9 2) (yfa (yl2 oIx (yl9 1) (eC (.int 1))) yle))))) (yon (eC (.bl false))) yol)
 (yoo (yop 3 (eFn 2 f_chosen_readings [] (yfa (yl9 2) (yfa (yl2 oIx (yl9 1) (eC (.int 1))) yle))))
 (yoo (yop 4 (eFn 1 f_lots_by_word [] (yfa (yl9 3) yle)))
 (yoo (sIf (ylm (eT (eFn 2 f_tells_fates [] (yfa (yl9 4) (yfa (yl2 oIx (yl9 1) (eC (.int 2))) yle))))) (yon (eC (.bl false))) yol)
 (yon (yl2 oEq (yl2 oIx (yl9 1) (eC (.int 0))) (eFn 4 f_sum_of [] (yfa (yl9 3) (yfa (yl9 4) (yfa (yl2 oIx (yl9 1) (eC (.int 2))) (yfa (eUn (yng [0] "every") (yl9 0)) yle))))))))))))
noncomputable def f_stands_up:List D->M D:=hide fun ds=>frz (run 5 zd4 ds)
theorem zdq:FnScope ["view", "told", "readings", "reads", "by_word"] ["view", "told"] (zkd zeo):=scD rfl rfl rfl (by decide +kernel)
theorem zcz:BD "stands_up" "stands_up" zeo ["view", "told"]:=
 fun _ _ _ _ _ _ us hl=>match us,hl with|[_,_],_=>rfl
theorem zdd(Xt:Txt K mg ca):OkF ⟨K,ca,tx K⟩ P w mg base 6 "stands_up" ["view", "told"] f_stands_up:=
 OkF.hide (OkF.frz (yh9 Xt.f_stands_up zdq fun _ _ _ _ _ _ _ hr=>
  (zlq (zz4 (i:=2) zdq.nd rfl (Or.inl rfl) (zky (zdc Xt) rfl (hr.mono (by decide)) rfl (zq7 (zzn 0) zy9)))
  (zlq (ygn (zz7 (zz8 (zky (zay Xt) rfl (hr.mono (by decide)) rfl (zq7 (zzn 2) (zq7 (yf7 ymw (yd1 rfl) (zzn 1) zze (fun _ _=>rfl)) zy9))))) (zr6 (zz3 yf6)) zr5)
  (zlq (zz4 (i:=3) zdq.nd rfl (Or.inl rfl) (zky (zab Xt) rfl (hr.mono (by decide)) rfl (zq7 (zzn 2) (zq7 (yf7 ymw (yd1 rfl) (zzn 1) zze (fun _ _=>rfl)) zy9))))
  (zlq (zz4 (i:=4) zdq.nd rfl (Or.inl rfl) (zky (zax Xt) rfl (hr.mono (by decide)) rfl (zq7 (zzn 3) zy9)))
  (zlq (ygn (zz7 (zz8 (zky (zbl Xt) rfl (hr.mono (by decide)) rfl (zq7 (zzn 4) (zq7 (yf7 ymw (yd1 rfl) (zzn 1) zze (fun _ _=>rfl)) zy9))))) (zr6 (zz3 yf6)) zr5)
  (zr6 (zz3 (zzb (yb8 (hu9 hr)) yow (yf7 ymw (yd1 rfl) (zzn 1) zze (fun _ _=>rfl)) (zky (zid Xt) rfl (hr.mono (by decide)) rfl (zq7 (zzn 3) (zq7 (zzn 4) (zq7 (yf7 ymw (yd1 rfl) (zzn 1) zze (fun _ _=>rfl)) (zq7 (zzc rfl (zlc (T:=⟨K,ca,tx K⟩) (c:=0) Xt.cl_View Xt.na_View_every zrl) (zzn 0)) zy9))))) (ybn _)))))))))))
abbrev zci:Stmt:=top 36
noncomputable abbrev tA:Ev->M Fl:=(sIf (yll (eT (yl2 oEq (yl9 6) (eC (.int 0)))) (eT (yl2 oNe (yl9 4) (eLv yle)))) (yi5 (yl2 ynt (yl2 ynn (yl2 yne (yl9 1) (eC (.int 15))) (eC (.int 4))) (eC (.int 1))) (yl9 4) (yl2 ynn (yl2 yne (yl9 1) (eC (.int 5))) (yfx ynm (yfa (yl9 4) yle)))) yol)
noncomputable abbrev tB:Ev->M Fl:=(sIf (eT (yl2 oEq (yl9 6) (eC (.int 1)))) (yi4 (yl2 oIx (eLv (yfa (eC .non) (yfa (yl2 ynt (yl2 yna (yl9 2) (yl2 ynn (yl2 yne (yl9 1) (eC (.int 25))) (eC (.int 14)))) (eC (.int 4))) yle))) (yl2 ynn (yl2 yne (yl9 1) (eC (.int 350))) (eC (.int 2)))) (yl9 5) (yl2 ynn (yl2 yne (yl9 1) (eC (.int 5))) (eC (.int 5)))) yol)
noncomputable abbrev tC:Ev->M Fl:=(sIf (yll (eT (yl2 oEq (yl9 6) (eC (.int 2)))) (eT (yl2 ynp (yl9 5) (eC (.dic [] []))))) (yoi (zyx yh7 (yl9 5) (yfa (yl2 oIx (yl3 (eUn (fun x=>znc [x]) (yl9 5))) (yl2 ynn (yl2 yne (yl9 1) (eC (.int 5))) (yfx yh3 (yfa (yl9 5) yle)))) yle))) yol)
noncomputable abbrev tE:Ev->M Fl:=(sIf (eT (yl2 oEq (yl9 6) (eC (.int 3)))) (yop 4 (yl2 oIx (eLv (yfa (eSl (yl9 4) none (some (eUn ynq (eC (.int 1))))) (yfa (yl2 yna (yl9 4) (eLv (yfa (eC (.int 0)) yle))) yle))) (yl2 ynn (yl2 yne (yl9 1) (eC (.int 5))) (eC (.int 2))))) yol)
noncomputable abbrev tR:Ev->M D:=(yl2 yna (yl9 3) (yl2 oIx (eLv (yfa (eC (.int 0)) (yfa (eC (.int 0)) (yfa (eC (.int 1)) (yfa (eUn ynq (eC (.int 1))) (yfa (yl2 ynn (yl2 yne (yl9 1) (eC (.int 20))) (yl2 ynr (eC (.int 10)) (eC (.int 12)))) (yfa (yl2 ynt (eUn ynq (eC (.int 1))) (yl2 ynn (yl2 yne (yl9 1) (eC (.int 20))) (yl2 ynr (eC (.int 10)) (eC (.int 12))))) yle))))))) (yl2 ynn (yl2 yne (yl9 1) (eC (.int 7))) (eC (.int 6)))))
noncomputable def zb5:Ev->M Fl:=
 (yoo (yog (yl9 0) (tgT 3 (yed (tgN 3) (yed (tgN 4) (yed (tgN 5) yj2)))))
 (yoo (yop 4 (yfx yh4 (yfa (yl9 4) yle)))
 (yoo (yop 5 (yfx yhy (yfa (yl9 5) yle)))
 (yoo (yop 6 (yl2 ynn (yl9 1) (eC (.int 5))))
 (yoo tA
 (yoo tB
 (yoo tC
 (yoo tE
 (yon (yl8 (yfa tR (yfa (yl9 4) (yfa (yl9 5) yle)))))))))))))
noncomputable def f__law_turned:List D->M D:=hide fun ds=>frz (run 7 zb5 ds)
theorem zbr:FnScope ["_law_told", "_law_cell", "_law_at", "_law_total", "_law_chosen", "_law_fates", "_law_kind"] ["_law_told", "_law_cell", "_law_at"] (zkd zci):=scD rfl rfl rfl (by decide +kernel)
theorem za6:BD "_law_turned" "_law_turned" zci ["_law_told", "_law_cell", "_law_at"]:=
 fun _ _ _ _ _ _ us hl=>match us,hl with|[_,_,_],_=>rfl
theorem zbg(Xt:Txt K mg ca):OkF ⟨K,ca,tx K⟩ P w mg base 1 "_law_turned" ["_law_told", "_law_cell", "_law_at"] f__law_turned:=
 OkF.hide (OkF.frz (yh9 Xt.f__law_turned zbr fun _ _ _ _ _ _ _ hr=>
  (zlq (zzz (zzn 0) (zzo rfl (zk3 (zrh (i:=3) zbr.nd rfl (Or.inl rfl)) (zk3 (zrh (i:=4) zbr.nd rfl (Or.inl rfl)) (zk3 (zrh (i:=5) zbr.nd rfl (Or.inl rfl)) zri)))))
  (zlq (zz4 (i:=4) zbr.nd rfl (Or.inl rfl) (zg8 zc1 (zor rfl) rfl Xt.n_list boot_list (zq7 (zzn 4) zy9)))
  (zlq (zz4 (i:=5) zbr.nd rfl (Or.inl rfl) (zg8 zjy zon rfl Xt.n_dict boot_dict (zq7 (zzn 5) zy9)))
  (zlq (zz4 (i:=6) zbr.nd rfl (Or.inl rfl) (yga ycc zws (zzn 1) zze))
  (zlq (ygn (L2.PW.pt (yaa (zz5 (yb8 (hu9 hr)) yow (zzn 6) zze (ybn _)) (zr9 (zz5 (yce (hu9 hr)) yow (zzn 4) (yf9 zy9) (ybn _))))) (zr6 (zr4 (yga ych zwx (yga ycc zws (yga zuo zwp (zzn 1) zze) zze) zze) (zzn 4) (yga ycc zws (yga zuo zwp (zzn 1) zze) (zkx zc0 (zwr rfl) rfl Xt.n_len PySem.boot_len (zq7 (zzn 4) zy9))))) zr5)
  (zlq (ygn (zz5 (yb8 (hu9 hr)) yow (zzn 6) zze (ybn _)) (zr6 (zr2 (hu9 hr) (yf7 ymw (yd1 rfl) (yf9 (zq7 zzi (zq7 (yga ych zwx (yga (zul rfl) yow (zzn 2) (yga ycc zws (yga zuo zwp (zzn 1) zze) zze)) zze) zy9))) (yga ycc zws (yga zuo zwp (zzn 1) zze) zze) (fun _ _=>rfl)) (zzn 5) (yga ycc zws (yga zuo zwp (zzn 1) zze) zze))) zr5)
  (zlq (ygn (L2.PW.pt (yaa (zz5 (yb8 (hu9 hr)) yow (zzn 6) zze (ybn _)) (zr9 (zz5 (ycf (hu9 hr)) zwu (zzn 5) zrb (ybn _))))) (zr6 (zr0 (zk1 PySem.F.plainAttrs_dict PySem.F.slot_dict_pop PySem.F.type_dict_pop ztw zou (zzn 5) (zq7 (yf7 ymw (yd1 rfl) (zzd (ze6 rfl rfl Xt.n_sorted (zzn 5))) (yga ycc zws (yga zuo zwp (zzn 1) zze) (zkx zgs zoq rfl Xt.n_len PySem.boot_len (zq7 (zzn 5) zy9))) (fun _ _=>rfl)) zy9)))) zr5)
  (zlq (ygn (zz5 (yb8 (hu9 hr)) yow (zzn 6) zze (ybn _)) (zr6 (zz4 (i:=4) zbr.nd rfl (Or.inl rfl) (yf7 ymw (yd1 rfl) (yf9 (zq7 (zk2 rfl (zzn 4) zro (zrp (ygc yeo zwv zze))) (zq7 (yga (zul rfl) yow (zzn 4) (yf9 (zq7 zze zy9))) zy9))) (yga ycc zws (yga zuo zwp (zzn 1) zze) zze) (fun _ _=>rfl)))) zr5)
  (zr6 (zz3 (zzm (zq7 (yga (zul rfl) yow (zzn 3) (yf7 ymw (yd1 rfl) (yf9 (zq7 zze (zq7 zze (zq7 zze (zq7 (ygc yeo zwv zze) (zq7 (yga ycc zws (yga zuo zwp (zzn 1) zze) (yga ycg zww zze zze)) (zq7 (yga ych zwx (ygc yeo zwv zze) (yga ycc zws (yga zuo zwp (zzn 1) zze) (yga ycg zww zze zze))) zy9))))))) (yga ycc zws (yga zuo zwp (zzn 1) zze) zze) (fun _ _=>rfl))) (zq7 (zzn 4) (zq7 (zzn 5) zy9))))))))))))))))
abbrev yi6:Stmt:=top 37
noncomputable abbrev u1:Ev->M Fl:=(yop 1 (eFn 1 f__law_view [] (yfa (yl9 0) yle)))
noncomputable abbrev u2:Ev->M Fl:=(yop 2 (yl3 (yf0 0 5 f_View___init__ (yfa (yl2 oIx (yl9 1) (eC (.int 0))) (yfa (yl2 oIx (yl9 1) (eC (.int 1))) (yfa (yl2 oIx (yl9 1) (eC (.int 2))) (yfa (yl2 oIx (yl9 1) (eC (.int 3))) yle)))))))
noncomputable abbrev u3:Ev->M Fl:=(yop 3 (eFn 1 f_paper [] (yfa (yl9 2) yle)))
noncomputable abbrev u4:Ev->M Fl:=(yop 4 (eFn 1 f_worth [] (yfa (yl9 2) yle)))
noncomputable abbrev u5:Ev->M Fl:=(sIf (bOr (ylm (eT (eFn 2 f__law_form [] (yfa (yl9 3) (yfa (yl2 oIx (yl9 1) (eC (.int 3))) yle))))) (bOr (eT (yl2 oNe (yl2 oIx (yl9 3) (eC (.int 0))) (yl9 4))) (eT (yl2 (ynl true) (eFn 2 f_stands_up [] (yfa (yl9 2) (yfa (yl9 3) yle))) (eC (.bl true)))))) (yon (eC (.bl false))) yol)
noncomputable abbrev u6:Ev->M Fl:=(yop 5 (yl2 yna (eC (.int 1)) (yl2 ynn (eFn 2 f__law_cell_at [] (yfa (yl9 0) (yfa (eC (.int 7)) yle))) (yl2 ynr (eC (.int 10)) (eC (.int 12))))))
noncomputable abbrev u7:Ev->M Fl:=(sIf (eT (yl2 (ynl true) (eFn 2 f_stands_up [] (yfa (yl9 2) (yfa (yl8 (yfa (yl2 yna (yl9 4) (yl9 5)) (yfa (yl2 oIx (yl9 3) (eC (.int 1))) (yfa (yl2 oIx (yl9 3) (eC (.int 2))) yle)))) yle))) (eC (.bl false)))) (yon (eC (.bl false))) yol)
noncomputable abbrev u8:Ev->M Fl:=(sIf (eT (yl2 (ynl true) (eFn 2 f_stands_up [] (yfa (yl9 2) (yfa (yl8 (yfa (yl2 ynt (yl9 4) (yl9 5)) (yfa (yl2 oIx (yl9 3) (eC (.int 1))) (yfa (yl2 oIx (yl9 3) (eC (.int 2))) yle)))) yle))) (eC (.bl false)))) (yon (eC (.bl false))) yol)
noncomputable abbrev u9:Ev->M Fl:=(yop 6 (yl9 3))
noncomputable abbrev uB:Ev->M Fl:=(yop 6 (eFn 3 f__law_turned [] (yfa (yl9 6) (yfa (yl9 7) (yfa (yl2 oIx (yl9 1) (eC (.int 1))) yle)))))
noncomputable abbrev uA:Ev->M Fl:=(yok (yoz (eSl (yl9 0) (some (eC (.int 8))) (some (eC (.int 11))))) (tgN 7) uB)
noncomputable abbrev uC:Ev->M Fl:=(yop 8 (eFn 2 f_stands_up [] (yfa (yl9 2) (yfa (yl9 6) yle))))
noncomputable abbrev uD:Ev->M Fl:=(sIf (bOr (ylm (eT (eUn (ynj .bool) (yl9 8)))) (yll (eT (yl9 8)) (eT (yl2 oLt (yl2 oIx (yl9 6) (eC (.int 0))) (yl9 4))))) (yon (eC (.bl false))) yol)
noncomputable abbrev uE:Ev->M Fl:=(yoi (yf1 zt5 (yl2 oIx (yl9 3) (eC (.int 1))) (yfa (eC (.int 7)) yle)))
noncomputable abbrev uF:Ev->M Fl:=(yoi (zyx ybp (yl2 oIx (yl9 3) (eC (.int 2))) yle))
noncomputable abbrev uG:Ev->M Fl:=(yon (yl1 (yl2 (ynl false) (eFn 2 f_stands_up [] (yfa (yl9 2) (yfa (eFn 1 f_paper [] (yfa (yl9 2) yle)) yle))) (eC (.bl true))) (yl2 oEq (eFn 1 f_worth [] (yfa (yl9 2) yle)) (yl9 4))))
noncomputable def ygs:Ev->M Fl:=
 (yoo u1
 (yoo u2
 (yoo u3
 (yoo u4
 (yoo u5
 (yoo u6
 (yoo u7
 (yoo u8
 (yoo u9
 (yoo uA
 (yoo uC
 (yoo uD
 (yoo uE
 (yoo uF
 uG))))))))))))))
noncomputable def f_law:List D->M D:=run 9 ygs
theorem ydq:FnScope ["_law_script", "_law_view_here", "_law_asked", "_law_told", "_law_total", "_law_other", "_law_turned_here", "_law_cell", "_law_found"] ["_law_script"] (zkd yi6):=scD rfl rfl rfl (by decide +kernel)
theorem zxy:BD "law" "law" yi6 ["_law_script"]:=
 fun _ _ _ _ _ _ us hl=>match us,hl with|[_],_=>rfl
theorem yb2(Xt:Txt K mg ca):OkL ⟨K,ca,tx K⟩ P w mg 9 "law" ["_law_script"] f_law:=
 yb4 Xt.f_law ydq fun _ _ _ _ _ _ _ _ hr=>
  (zlq (zz4 (i:=1) ydq.nd rfl (Or.inl rfl) (zky (zdb Xt) rfl (hr.mono (by decide)) rfl (zq7 (zzn 0) zy9)))
  (zlq (zz4 (i:=2) ydq.nd rfl (Or.inl rfl) (zzd (zrd (c:=0) (ps:=["self", "every", "look", "words", "pots"]) ⟨_,Xt.m_View,Xt.mk_View,zai Xt⟩ rfl (hr.mono (by decide)) rfl (zq7 (yf7 ymw (yd1 rfl) (zzn 1) zze (fun _ _=>rfl)) (zq7 (yf7 ymw (yd1 rfl) (zzn 1) zze (fun _ _=>rfl)) (zq7 (yf7 ymw (yd1 rfl) (zzn 1) zze (fun _ _=>rfl)) (zq7 (yf7 ymw (yd1 rfl) (zzn 1) zze (fun _ _=>rfl)) zy9)))))))
  (zlq (zz4 (i:=3) ydq.nd rfl (Or.inl rfl) (zky (znd Xt) rfl (hr.mono (by decide)) rfl (zq7 (zzn 2) zy9)))
  (zlq (zz4 (i:=4) ydq.nd rfl (Or.inl rfl) (zky (zne Xt) rfl (hr.mono (by decide)) rfl (zq7 (zzn 2) zy9)))
  (zlq (ygn (L2.PW.pt (ygo (zz7 (zz8 (zky (zda Xt) rfl (hr.mono (by decide)) rfl (zq7 (zzn 3) (zq7 (yf7 ymw (yd1 rfl) (zzn 1) zze (fun _ _=>rfl)) zy9))))) (ygo (zz5 (yce (hu9 hr)) yow (yf7 ymw (yd1 rfl) (zzn 3) zze (fun _ _=>rfl)) (zzn 4) (ybn _)) (yab (zz5 zuq yow (zky (zdd Xt) rfl (hr.mono (by decide)) rfl (zq7 (zzn 2) (zq7 (zzn 3) zy9))) yf6 (ybn _)))))) (zr6 (zz3 yf6)) zr5)
  (zlq (zz4 (i:=5) ydq.nd rfl (Or.inl rfl) (yga (zul rfl) yow zze (yga ycc zws (zky (zaw Xt) rfl (hr.mono (by decide)) rfl (zq7 (zzn 0) (zq7 zze zy9))) (yga ycg zww zze zze))))
  (zlq (ygn (zz5 zuq yow (zky (zdd Xt) rfl (hr.mono (by decide)) rfl (zq7 (zzn 2) (zq7 (zzm (zq7 (yga (zul rfl) yow (zzn 4) (zzn 5)) (zq7 (yf7 ymw (yd1 rfl) (zzn 3) zze (fun _ _=>rfl)) (zq7 (yf7 ymw (yd1 rfl) (zzn 3) zze (fun _ _=>rfl)) zy9)))) zy9))) yf6 (ybn _)) (zr6 (zz3 yf6)) zr5)
  (zlq (ygn (zz5 zuq yow (zky (zdd Xt) rfl (hr.mono (by decide)) rfl (zq7 (zzn 2) (zq7 (zzm (zq7 (yga ych zwx (zzn 4) (zzn 5)) (zq7 (yf7 ymw (yd1 rfl) (zzn 3) zze (fun _ _=>rfl)) (zq7 (yf7 ymw (yd1 rfl) (zzn 3) zze (fun _ _=>rfl)) zy9)))) zy9))) yf6 (ybn _)) (zr6 (zz3 yf6)) zr5)
  (zlq (zz4 (i:=6) ydq.nd rfl (Or.inl rfl) (zzn 3))
  (zlq (zz2 zif rfl (zzp rfl (zk2 rfl (zzn 0) (zrp zze) (zrp zze))) (zrh (i:=7) ydq.nd rfl (Or.inl rfl)) (zr6 (zz4 (i:=6) ydq.nd rfl (Or.inl rfl) (zky (zbg Xt) rfl (hr.mono (by decide)) rfl (zq7 (zzn 6) (zq7 (zzn 7) (zq7 (yf7 ymw (yd1 rfl) (zzn 1) zze (fun _ _=>rfl)) zy9)))))))
  (zlq (zz4 (i:=8) ydq.nd rfl (Or.inl rfl) (zky (zdd Xt) rfl (hr.mono (by decide)) rfl (zq7 (zzn 2) (zq7 (zzn 6) zy9))))
  (zlq (ygn (L2.PW.pt (ygo (zz7 (zz8 (zzf .bool (zzn 8) rfl Xt.n_isinstance rfl Xt.n_bool boot_bool))) (yab (L2.PW.pt (yaa (zz8 (zzn 8)) (zr9 (zz5 yid yd3 (yf7 ymw (yd1 rfl) (zzn 6) zze (fun _ _=>rfl)) (zzn 4) (ybn _)))))))) (zr6 (zz3 yf6)) zr5)
  (zlq (zr0 (zre PySem.F.plainAttrs_list PySem.F.slot_list_append PySem.F.type_list_append zh5 zf6 (yf7 ymw (yd1 rfl) (zzn 3) zze (fun _ _=>rfl)) (zq7 zze zy9)))
  (zlq (zr0 (zg9 PySem.F.plainAttrs_dict PySem.F.slot_dict_clear PySem.F.type_dict_clear mt_clear zi0 (yf7 ymw (yd1 rfl) (zzn 3) zze (fun _ _=>rfl))))
  (zr6 (zz3 (zza (zzb ycb yow (zky (zdd Xt) rfl (hr.mono (by decide)) rfl (zq7 (zzn 2) (zq7 (zky (znd Xt) rfl (hr.mono (by decide)) rfl (zq7 (zzn 2) zy9)) zy9))) yf6 (ybn _)) (zzk (zzb (yb8 (hu9 hr)) yow (zky (zne Xt) rfl (hr.mono (by decide)) rfl (zq7 (zzn 2) zy9)) (zzn 4) (ybn _))))))))))))))))))))
end
end K32
namespace K32
open PySem L2 L4
set_option maxHeartbeats 4000000
def yfk(ns:List Int)(k:Nat):Int:=ns.getD k 0
theorem zqa(ns:List Int)(k:Int)(hk:0<=k)(σ:Sto):f__law_cell_at [.scr ns,.int k] σ=.ok (.int (yfk ns k.toNat)) σ:=by
 unfold f__law_cell_at zbc yfk;by_cases h:k<ns.length
 ·simp[h,zud hk h]
 ·have e:ns.length<=k.toNat:=by omega
  simp[h,List.getElem?_eq_none e]
structure Ti where
 p:Int
 a:Int
 w:Int
 d:Int
def Ti.D(t:Ti):L4.D:=.tup [.int t.p,.int t.a,.int t.w,.int t.d]
structure Ti.Ok(t:Ti):Prop where
 p1:0<=t.p
 p2:t.p<=1
 a1:1<=t.a
 a2:t.a<=1000000000000
 w1:0<=t.w
 w2:t.w<=59
 d1:0<=t.d
 d2:t.d<=1000000
@[simp] theorem Ti.cl(t:Ti):L4.cl t.D=true:=by simp[Ti.D]
@[simp] theorem Ti.clL(ts:List Ti):L4.clL (ts.map Ti.D)=true:=zqf Ti.cl
structure TsOk(ts:List Ti):Prop where
 ok:∀ t∈ts,t.Ok
 nd:(ts.map (·.w)).Nodup
 len:ts.length<=6
section
variable{α:Type}{xs:List α}{σ:Sto}{ρ:Ev}{ix:List Nat}{fi:Ev->M Bool}{fe:Ev->M D}
theorem ya4{rest:Ev}(f:α->D)(p:α->Bool)(y:α->D)(step:∀ x∈xs,∀ j,fi (some (f x)::rest) (σ++j)=.ok (p x) (σ++j)/\(p x=true->fe (some (f x)::rest) (σ++j)=.ok (y x) (σ++j)))(hl:xs.length<=1000) :
  ∀ (k i:Nat) (o:Option D) (ys:List D),xs.length<k+i->i<=xs.length->ys.length<=i->
   ya7 (.seq (xs.map f)) σ.length (tgN 0) fi fe k i (o::rest) (σ++[.lst ys])=.ok () (σ++[.lst (ys++((xs.drop i).filter p).map y)]):=by
 intro k;induction k with
 |zero=>intro i o ys h1 h2;omega
 |succ k ih=>
  intro i o ys h1 h2 hy;unfold ya7;show (match some (xs.map f)[i]? with|none=>_|some none=>_|some (some d)=>_)=_;rw[List.getElem?_map];cases e:xs[i]? with
  |none=>
   have hi:xs.length<=i:=List.getElem?_eq_none_iff.mp e;rw[List.drop_eq_nil_of_le hi];simp
  |some d=>
   obtain⟨hi,ed⟩:=List.getElem?_eq_some_iff.mp e;have hd:xs.drop i=d::xs.drop (i+1):=by rw[<-ed];exact List.drop_eq_getElem_cons hi
   obtain⟨s1,s2⟩:=step d (by rw[<-ed];exact List.getElem_mem hi) [.lst ys];show bnd (nox (fi (some (f d)::rest))) _ _=_;rw[zx2,ybo s1,zp1];dsimp only[List.set];by_cases hp:p d=true
   ·rw[hp,if_pos rfl,zx2,ybo (s2 hp),zp1,zx2,zew (by omega),zp1,ih (i+1) (some (f d)) (ys++[y d]) (by omega) (by omega) (by simp;omega),hd,List.filter_cons,if_pos hp];simp
   ·rw[if_neg hp,ih (i+1) (some (f d)) ys (by omega) (by omega) (by omega),hd,List.filter_cons,if_neg hp]
theorem ya3{src:Ev->M Src}(f:α->D)(p:α->Bool)(y:α->D)(hs:src ρ σ=.ok (.seq (xs.map f)) σ)(hl:xs.length<=1000)
  (step:∀ x∈xs,∀ j,fi (some (f x)::(ix.map fun i=>(ρ[i]?).getD none)) (σ++j)=.ok (p x) (σ++j)/\(p x=true->fe (some (f x)::(ix.map fun i=>(ρ[i]?).getD none)) (σ++j)=.ok (y x) (σ++j))) :
  eLC src ix (tgN 0) fi fe ρ σ=.ok (.ref σ.length) (σ++[.lst ((xs.filter p).map y)]):=by
 show bnd (src ρ) (lcK (tgN 0) fi fe (yfe ix ρ)) σ=_;rw[zx2,hs,zp1];show bnd (ya7 (.seq (xs.map f)) σ.length (tgN 0) fi fe 1001 0 (none::(ix.map fun i=>(ρ[i]?).getD none))) _ (σ++[.lst []])=_;rw[zx2,ya4 f p y step hl 1001 0 none [] (by omega) (by omega) (by simp),zp1];simp
theorem zry{zs:List D}(h:clL zs=true):ymh σ (.ok (.ref σ.length) (σ++[.lst zs]))=.ok (.lst zs) σ:=by
 have:=zll (σ:=σ) (j:=[]) (j':=[]) h;simpa using this
theorem yfm(p:α->Bool)(y:α->D)(hc:∀ x∈xs,cl (y x)=true):clL ((xs.filter p).map y)=true:=
 zqe fun d hd=>by obtain⟨x,hx,rfl⟩:=List.mem_map.mp hd;exact hc x (List.mem_filter.mp hx).1
theorem lcA{src:Ev->M Src}(f:α->D)(p:α->Bool)(y:α->D)(hs:src ρ σ=.ok (.seq (xs.map f)) σ)(hl:xs.length<=1000)
  (step:∀ x∈xs,∀ j,fi (some (f x)::(ix.map fun i=>(ρ[i]?).getD none)) (σ++j)=.ok (p x) (σ++j)/\(p x=true->fe (some (f x)::(ix.map fun i=>(ρ[i]?).getD none)) (σ++j)=.ok (y x) (σ++j))) (hc:∀ x∈xs,cl (y x)=true) :
  yl3 (eLC src ix (tgN 0) fi fe) ρ σ=.ok (.lst ((xs.filter p).map y)) σ:=by
 show ymh σ (eLC src ix (tgN 0) fi fe ρ σ)=_;rw[ya3 f p y hs hl step,zry (yfm p y hc)]
theorem ym0{src:Ev->M Src}(f y:α->D)(hs:src ρ σ=.ok (.seq (xs.map f)) σ)(hl:xs.length<=1000)
  (step:∀ x∈xs,∀ j,fe (some (f x)::(ix.map fun i=>(ρ[i]?).getD none)) (σ++j)=.ok (y x) (σ++j)) (hc:∀ x∈xs,cl (y x)=true) :
  yl3 (eLC src ix (tgN 0) yfd fe) ρ σ=.ok (.lst (xs.map y)) σ:=by
 have:=lcA f (fun _=>true) y (ix:=ix) (fi:=yfd) hs hl (fun d hd j=>⟨rfl,fun _=>step d hd j⟩) hc;rw[show List.filter (fun _=>true) xs=xs from List.filter_eq_self.mpr fun _ _=>rfl]at this;exact this
def ykv(nx:NX)(xs:List α)(f g:α->D):Prop:=∀ i σ,nx i σ=match xs[i]? with
 |some x=>some (some (.tup [f x,g x]))
 |none=>if i=xs.length then some none else none
theorem ya5{nx:NX}{rest:Ev}(f g:α->D)(p:α->Bool)(y:α->D)(hn:ykv nx xs f g)(step:∀ x∈xs,∀ j,fi (some (f x)::some (g x)::rest) (σ++j)=.ok (p x) (σ++j)/\(p x=true->fe (some (f x)::some (g x)::rest) (σ++j)=.ok (y x) (σ++j)))(hl:xs.length<=1000) :
  ∀ (k i:Nat) (o o':Option D) (ys:List D),xs.length<k+i->i<=xs.length->ys.length<=i->
   ztd nx σ.length (tgT 2 (yed (tgN 0) (yed (tgN 1) yj2))) fi fe k i (o::o'::rest) (σ++[.lst ys])=.ok () (σ++[.lst (ys++((xs.drop i).filter p).map y)]):=by
 intro k;induction k with
 |zero=>intro i o o' ys h1 h2;omega
 |succ k ih=>
  intro i o o' ys h1 h2 hy;unfold ztd;rw[hn];cases e:xs[i]? with
  |none=>
   have hi:xs.length<=i:=List.getElem?_eq_none_iff.mp e;have hi2:i=xs.length:=by omega
   dsimp only;rw[if_pos hi2,List.drop_eq_nil_of_le hi];simp
  |some d=>
   obtain⟨hi,ed⟩:=List.getElem?_eq_some_iff.mp e;have hd:xs.drop i=d::xs.drop (i+1):=by rw[<-ed];exact List.drop_eq_getElem_cons hi
   obtain⟨s1,s2⟩:=step d (by rw[<-ed];exact List.getElem_mem hi) [.lst ys];show bnd (nox (fi (some (f d)::some (g d)::rest))) _ _=_;rw[zx2,ybo s1,zp1];by_cases hp:p d=true
   ·rw[hp,if_pos rfl];show bnd (nox (fe (some (f d)::some (g d)::rest))) _ _=_;rw[zx2,ybo (s2 hp),zp1,zx2,zew (by omega),zp1];show ztd _ _ _ _ _ k (i+1) (some (f d)::some (g d)::rest) _=_;rw[ih (i+1) (some (f d)) (some (g d)) (ys++[y d]) (by omega) (by omega) (by simp;omega),hd,List.filter_cons,if_pos hp];simp
   ·rw[if_neg hp];show ztd _ _ _ _ _ k (i+1) (some (f d)::some (g d)::rest) _=_;rw[ih (i+1) (some (f d)) (some (g d)) ys (by omega) (by omega) (by omega),hd,List.filter_cons,if_neg hp]
theorem lcC{src:Ev->M NX}{nx:NX}(f g:α->D)(y:α->D)(hs:src ρ σ=.ok nx σ)(hn:ykv nx xs f g)(hl:xs.length<=1000)
  (step:∀ x∈xs,∀ j,fe (some (f x)::some (g x)::(ix.map fun i=>(ρ[i]?).getD none)) (σ++j)=.ok (y x) (σ++j)) (hc:∀ x∈xs,cl (y x)=true) :
  yl3 (yl5 src ix (tgT 2 (yed (tgN 0) (yed (tgN 1) yj2))) yfd fe) ρ σ=.ok (.lst (xs.map y)) σ:=by
 show ymh σ (yl5 src ix (tgT 2 (yed (tgN 0) (yed (tgN 1) yj2))) yfd fe ρ σ)=_;have ft:xs.filter (fun _=>true)=xs:=List.filter_eq_self.mpr fun _ _=>rfl;have e:yl5 src ix (tgT 2 (yed (tgN 0) (yed (tgN 1) yj2))) yfd fe ρ σ=.ok (.ref σ.length) (σ++[.lst (xs.map y)]):=by
  show bnd (src ρ) (ym1 _ yfd fe (zx0 ix ρ)) σ=_;rw[zx2,hs,zp1];show bnd (ztd nx σ.length _ yfd fe 1001 0 (none::none::(ix.map fun i=>(ρ[i]?).getD none))) _ (σ++[.lst []])=_;rw[zx2,ya5 f g (fun _=>true) y hn (fun d hd j=>⟨rfl,fun _=>step d hd j⟩) hl 1001 0 none none [] (by omega) (by omega) (by simp),zp1];simp[ft]
 rw[e];have:=yfm (xs:=xs) (fun _=>true) y hc;rw[ft]at this;exact zry this
theorem zm2(kv:List α)(k:α->Key)(v:α->D):ykv (nxI ((kv.map k).zip (kv.map v))) kv (fun x=>ymz (k x)) v:=fun i σ=>by
 have e:(kv.map k).zip (kv.map v)=kv.map fun x=>(k x,v x):=by
  induction kv with
  |nil=>rfl
  |cons x kv ih=>simp only[List.map_cons,List.zip_cons_cons,ih]
 unfold nxI;rw[e,List.getElem?_map,List.length_map];cases kv[i]?<;>rfl
end
def shD(l:List (Int × Int)):D:=.dic (l.map fun p=>.inl p.1) (l.map fun p=>.int p.2)
def kvI(l:List (Int × Int)):List (Key × D):=l.map fun p=>(.inl p.1,.int p.2)
@[simp] theorem ydu(l:List (Int × Int)):cl (shD l)=true:=by unfold shD cl;exact zqf fun _=>by simp
theorem zqq(l:List (Int × Int))(σ:Sto):yl0 σ (shD l)=some (kvI l):=by
 unfold yl0 shD kvI;dsimp only;rw[if_pos (by simp)];congr 1;induction l with
 |nil=>rfl
 |cons p l ih=>simp only[List.map_cons,List.zip_cons_cons,ih]
def val(l:List (Int × Int))(w:Int):Option Int:=(l.find? fun p=>decide (p.1=w)).map (·.2)
theorem zk8(w:Int):∀ (l:List (Int × Int)),ygd (kvI l) (.inl w)=(val l w).map D.int
 |[]=>rfl
 |p::l=>by
  have ih:=zk8 w l;unfold ygd kvI val at *;rw[List.map_cons,List.find?_cons,List.find?_cons];by_cases e:p.1=w
  ·simp[e]
  ·have e2:¬ (Sum.inl p.1:Key)=Sum.inl w:=fun z=>e (Sum.inl.inj z);simp only[e,e2,decide_false]at ih ⊢;exact ih
theorem zyp(l:List (Int × Int))(w:Int)(σ:Sto):ync (.int w) (shD l) σ=.ok (.bl (val l w).isSome) σ:=by
 unfold ync;simp only[ymx,zqq,zk8];cases val l w<;>rfl
theorem zqu{l:List (Int × Int)}{w v:Int}(h:val l w=some v)(σ:Sto):yhw (shD l) (.int w) σ=.ok (.int v) σ:=by
 unfold yhw;simp only[ymx,zqq,zk8,h];rfl
theorem zym(l:List (Int × Int))(σ:Sto):ynd [shD l] σ=.ok (shD l) σ:=by
 unfold ynd;simp only[zqq];unfold shD kvI;simp[List.map_map,Function.comp_def]
def ynz(l:List (Int × Int))(w v:Int):List (Int × Int):=if l.any (fun p=>decide (p.1=w))then l.map fun p=>if p.1=w then (p.1,v)else p else l++[(w,v)]
theorem zns(l:List (Int × Int))(w v:Int):(ynz l w v).length<=l.length+1:=by unfold ynz;split<;>simp
theorem zij(l:List (Int × Int))(w v:Int):yin (kvI l) (.inl w) (.int v)=kvI (ynz l w v):=by
 have ha:((kvI l).any fun kv=>decide (kv.1=(Sum.inl w:Key)))=l.any fun p=>decide (p.1=w):=by
  unfold kvI;rw[List.any_map];congr 1;funext p;simp
 unfold yin ynz;rw[ha];split
 ·unfold kvI;rw[List.map_map,List.map_map];congr 1;funext p;simp only[Function.comp];by_cases e:p.1=w
  ·simp[e]
  ·have e2:¬ (Sum.inl p.1:Key)=Sum.inl w:=fun z=>e (Sum.inl.inj z);simp[e]
 ·unfold kvI;rw[List.map_append];rfl
structure St where
 (n a b:Int) (ts:List Ti)
def St.D(s:St):L4.D:=.tup [.int s.n,.tup [.int s.a,.int s.b],.tup (s.ts.map Ti.D)]
structure Po where
 (s:Int) (st:List St) (sn:List (Int × Int))
def Po.D(p:Po):L4.D:=.tup [.int p.s,.lst (p.st.map St.D),shD p.sn]
structure Vw where
 (e k:Int) (ws:List Int) (ps:List Po)
def Vw.D(v:Vw):L4.D:=.tup [.int v.e,.int v.k,.lst (v.ws.map D.int),.lst (v.ps.map Po.D)]
def Vw.O(v:Vw):L4.D:=.obj 0 ["every", "last_look", "known", "pots"] [.int v.e,.int v.k,.lst (v.ws.map D.int),.lst (v.ps.map Po.D)]
@[simp] theorem St.cl(s:St):L4.cl s.D=true:=by simp[St.D]
@[simp] theorem Po.cl(p:Po):L4.cl p.D=true:=by
 have:L4.clL (p.st.map St.D)=true:=zqf fun _=>by simp
 simp[Po.D,this]
@[simp] theorem Vw.cl(v:Vw):L4.cl v.D=true:=by
 have h1:L4.clL (v.ps.map Po.D)=true:=zqf fun _=>by simp
 have h2:L4.clL (v.ws.map D.int)=true:=zqf fun _=>by simp
 simp[Vw.D,h1,h2]
theorem St.i0(s:St)(σ:Sto):oIx s.D (.int 0) σ=.ok (.int s.n) σ:=by unfold St.D;simp
theorem St.i1(s:St)(σ:Sto):oIx s.D (.int 1) σ=.ok (.tup [.int s.a,.int s.b]) σ:=by unfold St.D;simp
theorem St.i2(s:St)(σ:Sto):oIx s.D (.int 2) σ=.ok (.tup (s.ts.map Ti.D)) σ:=by unfold St.D;simp
theorem Po.i0(p:Po)(σ:Sto):oIx p.D (.int 0) σ=.ok (.int p.s) σ:=by unfold Po.D;simp
theorem Po.i1(p:Po)(σ:Sto):oIx p.D (.int 1) σ=.ok (.lst (p.st.map St.D)) σ:=by unfold Po.D;simp
theorem Po.i2(p:Po)(σ:Sto):oIx p.D (.int 2) σ=.ok (shD p.sn) σ:=by unfold Po.D;simp
theorem Ti.i0(t:Ti)(σ:Sto):oIx t.D (.int 0) σ=.ok (.int t.p) σ:=by unfold Ti.D;simp
theorem Ti.i1(t:Ti)(σ:Sto):oIx t.D (.int 1) σ=.ok (.int t.a) σ:=by unfold Ti.D;simp
theorem Ti.i2(t:Ti)(σ:Sto):oIx t.D (.int 2) σ=.ok (.int t.w) σ:=by unfold Ti.D;simp
theorem Ti.i3(t:Ti)(σ:Sto):oIx t.D (.int 3) σ=.ok (.int t.d) σ:=by unfold Ti.D;simp
theorem Vw.f0(v:Vw)(σ:Sto):yng [0] "every" v.O σ=.ok (.int v.e) σ:=zua (zhj rfl) rfl rfl
theorem Vw.f1(v:Vw)(σ:Sto):yng [0] "last_look" v.O σ=.ok (.int v.k) σ:=zua (zhj rfl) rfl rfl
theorem Vw.f2(v:Vw)(σ:Sto):yng [0] "known" v.O σ=.ok (.lst (v.ws.map D.int)) σ:=zua (zhj rfl) rfl rfl
theorem Vw.f3(v:Vw)(σ:Sto):yng [0] "pots" v.O σ=.ok (.lst (v.ps.map Po.D)) σ:=zua (zhj rfl) rfl rfl
def inT(l:List (Int × Int))(t:Ti):Bool:=match val l t.w with|some v=>decide (v<t.d)|none=>false
def inW(ws:List Int)(w:Int):Bool:=ws.any fun z=>z == w
def lot(v:Vw)(s:Int)(sn:List (Int × Int))(t:Ti):Str:=
 if inT sn t then (if t.p == s then "lost" else "won")
 else if decide (t.d<=v.k)then (if t.p == s then "back" else "gone")
 else if t.p == s then "open"
 else if inW v.ws t.w && decide (v.k+v.e<t.d)then "sure" else "hangs"
theorem zom(t:Ti)(sn:List (Int × Int))(σ:Sto):f_shown_in_time [t.D,shD sn] σ=.ok (.bl (inT sn t)) σ:=by
 have i2:=fun σ=>t.i2 σ;have i3:=fun σ=>t.i3 σ;have d1:=fun σ=>zyp sn t.w σ;unfold f_shown_in_time zau inT;cases hv:val sn t.w with
 |none=>
  rw[hv]at d1;generalize t.D=TD at *;generalize shD sn=SD at *;simp[i2,i3,d1]
 |some x=>
  have d2:=fun σ=>zqu hv σ;rw[hv]at d1;generalize t.D=TD at *;generalize shD sn=SD at *;simp[i2,i3,d1,d2]
theorem zkv(w:Int)(σ:Sto):∀ ws:List Int,ymb σ (.int w) (ws.map D.int)=some (ws.map fun z=>z == w)
 |[]=>rfl
 |z::ws=>by
  have e:eqD σ 7 (.int z) (.int w)=some (z == w):=by simp[eqD,kd,eqK,eqV]
  simp only[List.map_cons];unfold ymb;rw[e,zkv w σ ws]
theorem zl5(ws:List Int)(w:Int)(σ:Sto):ynh false (.int w) (.lst (ws.map D.int)) σ=.ok (.bl (inW ws w)) σ:=by
 have h3:yi9 σ (.lst (ws.map D.int))=some (ws.map D.int):=rfl;unfold ynh;simp only[h3,zkv];simp[inW,List.any_map,Function.comp_def]
theorem zus(v:Vw)(sn:List (Int × Int))(t:Ti)(σ:Sto):f_lot_of_paid [v.O,shD sn,t.D] σ=.ok (.str (if inT sn t then "lost" else if decide (t.d<=v.k)then "back" else "open")) σ:=by
 have h1:=fun σ=>zom t sn σ;have h2:=fun σ=>v.f1 σ;have i3:=fun σ=>t.i3 σ;unfold f_lot_of_paid zb8;generalize inT sn t=b1 at *;generalize hb2:decide (t.d<=v.k)=b2 at *;generalize t.D=TD at *;generalize shD sn=SD at *;generalize v.O=VO at *;cases b1<;>cases b2<;>simp[h1,h2,i3,hb2]
theorem zyt(v:Vw)(sn:List (Int × Int))(t:Ti)(σ:Sto):f_lot_of_due [v.O,shD sn,t.D] σ=.ok (.str (if inT sn t then "won" else if decide (t.d<=v.k)then "gone" else if inW v.ws t.w && decide (v.k+v.e<t.d)then "sure" else "hangs")) σ:=by
 have h1:=fun σ=>zom t sn σ;have h2:=fun σ=>v.f1 σ;have h3:=fun σ=>v.f0 σ;have h4:=fun σ=>v.f2 σ;have h5:=fun σ=>zl5 v.ws t.w σ;have i2:=fun σ=>t.i2 σ;have i3:=fun σ=>t.i3 σ;unfold f_lot_of_due zc7;generalize inT sn t=b1 at *;generalize hb2:decide (t.d<=v.k)=b2 at *;generalize inW v.ws t.w=b3 at *;generalize hb4:decide (v.k+v.e<t.d)=b4 at *;generalize t.D=TD at *;generalize shD sn=SD at *;generalize v.O=VO at *;generalize v.ws.map D.int=WL at *;cases b1<;>cases b2<;>cases b3<;>cases b4<;>simp[h1,h2,h3,h4,h5,i2,i3,hb2,hb4]
theorem ybf(v:Vw)(p:Po)(t:Ti)(σ:Sto):f_lot_of [v.O,p.D,t.D] σ=.ok (.str (lot v p.s p.sn t)) σ:=by
 have h1:=fun σ=>zus v p.sn t σ;have h2:=fun σ=>zyt v p.sn t σ;have p0:=fun σ=>p.i0 σ;have p2:=fun σ=>p.i2 σ;have i0:=fun σ=>t.i0 σ;unfold f_lot_of zls lot;generalize inT p.sn t=b1 at *;generalize decide (t.d<=v.k)=b2 at *;generalize (inW v.ws t.w && decide (v.k+v.e<t.d))=b3 at *;generalize hb4:(t.p == p.s)=b4 at *;generalize t.D=TD at *;generalize shD p.sn=SD at *;generalize v.O=VO at *;generalize p.D=PD at *;cases b4<;>cases b1<;>cases b2<;>cases b3<;>simp[h1,h2,p0,p2,i0,hb4]
theorem yam(σ:Sto):yh2 [.bl true] σ=.ok (.int 1) σ:=rfl
theorem yal(σ:Sto):yh2 [.bl false] σ=.ok (.int 0) σ:=rfl
def yge(l:Str):Bool:=inV (.str l) ((["won", "sure", "back"]:List Str).map V.str)
def ymd(g:Ti->Str):List Ti->Int
 |[]=>0
 |t::ts=>(if yge (g t)then t.a else 0)+ymd g ts
def lD(g:Ti->Str)(t:Ti):D:=.tup [.str (g t),.int t.a,.int t.d]
@[simp] theorem yg8(g:Ti->Str)(t:Ti):cl (lD g t)=true:=by simp[lD]
def kvL(g:Ti->Str)(ts:List Ti):List (Key × D):=ts.map fun t=>(.inl t.w,lD g t)
theorem put_new{kvs:List (Key × D)}{k:Key}(d:D)(h:k ∉ kvs.map (·.1)):yin kvs k d=kvs++[(k,d)]:=by
 have:(kvs.any fun kv=>decide (kv.1=k))=false:=by
  rw[List.any_eq_false];intro p hp z;exact h (List.mem_map.mpr ⟨p,hp,by simpa using z⟩)
 unfold yin;rw[this];rfl
theorem zof{σ:Sto}{kvs:List (Key × D)}(w:Int)(d:D)(hl:kvs.length<1000)(ρ:Ev):yjc ρ d (.ref σ.length) (.int w) (σ++[.dic kvs])=.ok (.nx ρ) (σ++[.dic (yin kvs (.inl w) d)]):=by
 have e:(σ++[Ob.dic kvs])[σ.length]?=some (.dic kvs):=by simp
 unfold yjc;simp only[ymx,e];rw[if_pos (by unfold cap;omega),zwh]
theorem zlm{σ:Sto}{a:D}{kvs:List (Key × D)}(ha:cl a=true)(h:clL (kvs.map (·.2))=true):ymh σ (.ok (.tup [a,.ref σ.length]) (σ++[.dic kvs]))=.ok (.tup [a,.dic (kvs.map (·.1)) (kvs.map (·.2))]) σ:=by
 have e:(σ++[Ob.dic kvs])[σ.length]?=some (.dic kvs):=by simp
 have hz:∀ (k m:Nat) (σ':Sto) (xs:List D),clL xs=true->fzL (fz k σ' m) xs=some xs:=by
  intro k m σ' xs;induction xs with
  |nil=>intro _;rfl
  |cons x xs ih=>
   intro hc;have hc':cl x=true/\clL xs=true:=by simpa [clL,Bool.and_eq_true]using hc
   unfold fzL;rw[ygp hc'.1,ih hc'.2]
 have hr:fz σ.length (σ++[Ob.dic kvs]) 5 (.ref σ.length)=some (.dic (kvs.map (·.1)) (kvs.map (·.2))):=by
  unfold fz;rw[if_neg (by simp[cl])];dsimp only;rw[if_neg (Nat.lt_irrefl _),e];dsimp only;rw[hz _ _ _ _ h];rfl
 have ht:fz σ.length (σ++[Ob.dic kvs]) 6 (.tup [a,.ref σ.length])=some (.tup [a,.dic (kvs.map (·.1)) (kvs.map (·.2))]):=by
  unfold fz;rw[if_neg (by simp[cl,clL,ha])];dsimp only;unfold fzL;rw[ygp ha];unfold fzL;rw[hr];rfl
 unfold ymh;dsimp only;rw[if_pos (by simp),ht]
noncomputable abbrev rsB:Ev->M Fl:=(yoo (yop 6 (eFn 3 f_lot_of [] (yfa (yl9 0) (yfa (yl9 1) (yfa (yl9 5) yle)))))
 (yoo (yi4 (yl8 (yfa (yl9 6) (yfa (yl2 oIx (yl9 5) (eC (.int 1))) (yfa (yl2 oIx (yl9 5) (eC (.int 3))) yle)))) (yl9 4) (yl2 oIx (yl9 5) (eC (.int 2))))
 (sIf (eT (eUn (yni false ["won", "sure", "back"]) (yl9 6))) (yoh (fun a b=>a+b) 3 (yl2 oIx (yl9 5) (eC (.int 1)))) yol)))
@[simp] theorem zn6(f fo fi:Ev->M D)(ρ:Ev)(σ:Sto):yi4 f fo fi ρ σ=xsO ρ (yja ρ fo fi) (f ρ σ):=ykd ..
@[simp] theorem zod(fo fi:Ev->M D)(d:D)(ρ:Ev)(σ:Sto):yja ρ fo fi d σ=xsO ρ (yjb ρ fi d) (fo ρ σ):=ykd ..
@[simp] theorem zoe(fi:Ev->M D)(d x:D)(ρ:Ev)(σ:Sto):yjb ρ fi d x σ=xsO ρ (yjc ρ d x) (fi ρ σ):=ykd ..
@[simp] theorem zkk(ρ:Ev)(σ:Sto):yfy ρ σ=.ok (.ref σ.length) (σ++[.dic []]):=nr rfl
theorem zsu(z:Str)(σ:Sto):yni false ["won", "sure", "back"] (.str z) σ=.ok (.bl (yge z)) σ:=rfl
theorem zvu(v:Vw)(p:Po)(S:D)(a:Int)(t:Ti)(done:List Ti)(x6:Option D)(σ:Sto)(hw:t.w ∉ done.map (·.w))(hl:done.length<1000) :
  rsB [some v.O,some p.D,some S,some (.int a),some (.ref σ.length),some t.D,x6] (σ++[.dic (kvL (lot v p.s p.sn) done)])=.ok (.nx [some v.O,some p.D,some S,some (.int (a+if yge (lot v p.s p.sn t)then t.a else 0)),some (.ref σ.length),some t.D,some (.str (lot v p.s p.sn t))]) (σ++[.dic (kvL (lot v p.s p.sn) (done++[t]))]):=by
 have h1:=fun σ=>ybf v p t σ;have i1:=fun σ=>t.i1 σ;have i2:=fun σ=>t.i2 σ;have i3:=fun σ=>t.i3 σ;have hk:(Sum.inl t.w:Key) ∉ (kvL (lot v p.s p.sn) done).map (·.1):=fun z=>by
  unfold kvL at z;rw[List.map_map]at z;obtain⟨u,hu,e⟩:=List.mem_map.mp z;have e':u.w=t.w:=Sum.inl.inj e;exact hw (List.mem_map.mpr ⟨u,hu,e'⟩)
 have st:=fun ρ=>zof (σ:=σ) (kvs:=kvL (lot v p.s p.sn) done) t.w (lD (lot v p.s p.sn) t) (by unfold kvL;simpa using hl) ρ;rw[put_new _ hk,show kvL (lot v p.s p.sn) done++[(Sum.inl t.w,lD (lot v p.s p.sn) t)]=kvL (lot v p.s p.sn) (done++[t]) by unfold kvL;simp]at st;unfold lD at st;have sg:∀ (f:Ev->M D) (y0 y1 y2 y4 y5 y6:Option D) (x:D) (σ:Sto),yoh (fun a b=>a+b) 3 f [y0,y1,y2,some x,y4,y5,y6] σ=xsO [y0,y1,y2,some x,y4,y5,y6] (ylk (fun a b=>a+b) 3 [y0,y1,y2,some x,y4,y5,y6] x) (f [y0,y1,y2,some x,y4,y5,y6] σ):=fun f y0 y1 y2 y4 y5 y6 x σ=>zvz rfl;unfold rsB;generalize (Ob.dic (kvL (lot v p.s p.sn) (done++[t])))=O2 at *;generalize (Ob.dic (kvL (lot v p.s p.sn) done))=O1 at *;generalize (σ.length)=N at *;generalize (σ++[O1])=σ1 at *;generalize (σ++[O2])=σ2 at *;generalize lot v p.s p.sn t=L at *;have hg:=fun σ=>zsu L σ;generalize yge L=fb at *;generalize v.O=VO at *;generalize p.D=PD at *;generalize t.D=TD at *;cases fb<;>simp[h1,i1,i2,i3,st,sg,hg]
theorem zvt(v:Vw)(p:Po)(S:D)(σ:Sto):∀ (ts done:List Ti) (a:Int) (x5 x6:Option D),((done++ts).map (·.w)).Nodup->(done++ts).length<=6->∃ y5 y6,
  ym2 (tgN 5) rsB (ts.map Ti.D) [some v.O,some p.D,some S,some (.int a),some (.ref σ.length),x5,x6] (σ++[.dic (kvL (lot v p.s p.sn) done)])=.ok (.nx [some v.O,some p.D,some S,some (.int (a+ymd (lot v p.s p.sn) ts)),some (.ref σ.length),y5,y6]) (σ++[.dic (kvL (lot v p.s p.sn) (done++ts))])
 |[],done,a,x5,x6,_,_=>⟨x5,x6,by simp[ymd]⟩
 |t::ts,done,a,x5,x6,hn,hl=>by
  have hw:t.w ∉ done.map (·.w):=fun z=>by
   rw[List.map_append,List.nodup_append]at hn;exact hn.2.2 _ z _ (by simp) rfl
  have st:=zvu v p S a t done x6 σ hw (by simp at hl;omega);obtain⟨y5,y6,e⟩:=zvt v p S σ ts (done++[t]) (a+if yge (lot v p.s p.sn t)then t.a else 0) (some t.D) (some (.str (lot v p.s p.sn t))) (by simpa using hn) (by simpa using hl);refine⟨y5,y6,?_⟩;rw[List.map_cons,zmp];simp only[List.set_cons_succ,List.set_cons_zero];rw[st,zp1,zmn,e];simp only[ymd,List.append_assoc,List.cons_append,List.nil_append,Int.add_assoc]
def shr(s:Int)(t:St):Int:=if s=0 then t.a else t.b
def rdD(v:Vw)(p:Po)(t:St):D:=.tup [.int (shr p.s t+ymd (lot v p.s p.sn) t.ts),.dic (t.ts.map fun u=>.inl u.w) (t.ts.map (lD (lot v p.s p.sn)))]
theorem ydh(v:Vw)(p:Po)(t:St):cl (rdD v p t)=true:=by
 have:clL (t.ts.map (lD (lot v p.s p.sn)))=true:=zqf fun _=>by simp
 have h2:cl (.dic (t.ts.map fun u=>.inl u.w) (t.ts.map (lD (lot v p.s p.sn))))=true:=by unfold cl;exact this
 simp[rdD,h2]
structure St.Ok(t:St):Prop where
 nd:(t.ts.map (·.w)).Nodup
 len:t.ts.length<=6
 wb:∀ u∈t.ts,0<=u.w/\u.w<=6
theorem ziq(v:Vw)(p:Po)(t:St)(hp:p.s=0\/p.s=1)(ht:t.Ok)(σ:Sto):f_read_stand [v.O,p.D,t.D] σ=.ok (rdD v p t) σ:=by
 have t1:=fun σ=>t.i1 σ;have t2:=fun σ=>t.i2 σ;have p0:=fun σ=>p.i0 σ;have sh:∀ σ,oIx (.tup [.int t.a,.int t.b]) (.int p.s) σ=.ok (.int (shr p.s t)) σ:=fun σ=>by
  unfold shr;rcases hp with h|h<;>rw[h]
  ·exact zue (show atI _ ((0:Nat):Int)=_ from zpt rfl)
  ·exact zue (show atI _ ((1:Nat):Int)=_ from zpt rfl)
 obtain⟨y5,y6,e⟩:=zvt v p t.D σ t.ts [] (shr p.s t) none none (by simpa using ht.nd) (by simpa using ht.len);rw[List.nil_append,show kvL (lot v p.s p.sn) []=[]from rfl]at e;have hcl:clL ((kvL (lot v p.s p.sn) t.ts).map (·.2))=true:=by unfold kvL;rw[List.map_map];exact zqf fun _=>by simp[lD]
 have fz:=zlm (σ:=σ) (a:=.int (shr p.s t+ymd (lot v p.s p.sn) t.ts)) (kvs:=kvL (lot v p.s p.sn) t.ts) (by simp) hcl;have e1:(kvL (lot v p.s p.sn) t.ts).map (·.1)=t.ts.map fun u=>(.inl u.w:Key):=by unfold kvL;rw[List.map_map];rfl
 have e2:(kvL (lot v p.s p.sn) t.ts).map (·.2)=t.ts.map (lD (lot v p.s p.sn)):=by unfold kvL;rw[List.map_map];rfl
 rw[e1,e2]at fz;unfold rsB at e;unfold f_read_stand zc8 rdD;generalize (t.ts.map fun u=>(.inl u.w:Key))=KS at *;generalize t.ts.map (lD (lot v p.s p.sn))=VS at *;generalize shr p.s t+ymd (lot v p.s p.sn) t.ts=F at *;generalize shr p.s t=F0 at *;generalize (Ob.dic (kvL (lot v p.s p.sn) t.ts))=O2 at *;generalize v.O=VO at *;generalize p.D=PD at *;generalize t.D=TD at *;generalize t.ts.map Ti.D=TS at *;simp[t1,t2,p0,sh,e,fz]
structure Vw.Ok(v:Vw):Prop where
 n3:v.ps.length<=3
 sd:∀ p∈v.ps,p.s=0\/p.s=1
 ok:∀ p∈v.ps,∀ t∈p.st,t.Ok
 sl:∀ p∈v.ps,1<=p.st.length/\p.st.length<=20
def rdL(v:Vw)(p:Po):D:=.lst (p.st.map (rdD v p))
theorem ydi(v:Vw)(p:Po):cl (rdL v p)=true:=by unfold rdL;rw[zyf];exact zqf fun t=>ydh v p t
noncomputable abbrev rpB:Ev->M Fl:=(yoi (yf1 zt5 (yl9 1) (yfa (yl3 (eLC (yoz (yl2 oIx (yl9 2) (eC (.int 1)))) [0,2] (tgN 0) yfd (eFn 3 f_read_stand [] (yfa (yl9 1) (yfa (yl9 2) (yfa (yl9 0) yle)))))) yle)))
theorem zvs(v:Vw)(hv:v.Ok)(p:Po)(hp:p∈v.ps)(ys:List D)(hy:ys.length<1000)(σ:Sto):rpB [some v.O,some (.ref σ.length),some p.D] (σ++[.lst ys])=.ok (.nx [some v.O,some (.ref σ.length),some p.D]) (σ++[.lst (ys++[rdL v p])]):=by
 have p1:=fun σ=>p.i1 σ;have l:=ym0 (xs:=p.st) (ix:=[0,2]) (ρ:=[some v.O,some (.ref σ.length),some p.D]) (σ:=σ++[.lst ys]) (src:=yoz (yl2 oIx (yl9 2) (eC (.int 1)))) (fe:=eFn 3 f_read_stand [] (yfa (yl9 1) (yfa (yl9 2) (yfa (yl9 0) yle)))) St.D (rdD v p) (by
   generalize p.D=PD at *;generalize v.O=VO at *;simp[p1]) (by have:=(hv.sl p hp).2;omega) (fun t ht j=>by
   have r:=ziq v p t (hv.sd p hp) (hv.ok p hp t ht);generalize rdD v p t=R at *;generalize (σ++[Ob.lst ys]++j)=σ1 at *;generalize p.D=PD at *;generalize v.O=VO at *;generalize t.D=TD at *;simp[r]) (fun t _=>ydh v p t)
 rw[show (.lst (p.st.map (rdD v p)):D)=rdL v p from rfl]at l;have ap:=zew (σ:=σ) (xs:=ys) (d:=rdL v p) hy;unfold rpB;generalize rdL v p=R at *;generalize p.D=PD at *;generalize v.O=VO at *;simp[l,ap,-zqy]
theorem zvr(v:Vw)(hv:v.Ok)(σ:Sto):∀ (ps:List Po) (ys:List D) (x2:Option D),(∀ p∈ps,p∈v.ps)->ys.length+ps.length<=900->∃ y2,
  ym2 (tgN 2) rpB (ps.map Po.D) [some v.O,some (.ref σ.length),x2] (σ++[.lst ys])=.ok (.nx [some v.O,some (.ref σ.length),y2]) (σ++[.lst (ys++ps.map (rdL v))])
 |[],ys,x2,_,_=>⟨x2,by simp⟩
 |p::ps,ys,x2,hm,hl=>by
  simp only[List.length_cons]at hl;have st:=zvs v hv p (hm p List.mem_cons_self) ys (by omega) σ;obtain⟨y2,e⟩:=zvr v hv σ ps (ys++[rdL v p]) (some p.D) (fun q hq=>hm q (List.mem_cons_of_mem _ hq)) (by simp;omega);refine⟨y2,?_⟩;rw[List.map_cons,zmp];simp only[List.set_cons_succ,List.set_cons_zero];rw[st,zp1,zmn,e];simp
theorem zn4(v:Vw)(hv:v.Ok)(σ:Sto):f_read_pots [v.O] σ=.ok (.lst (v.ps.map (rdL v))) σ:=by
 have f3:=fun σ=>v.f3 σ;obtain⟨y2,e⟩:=zvr v hv σ v.ps [] none (fun _ h=>h) (by have:=hv.n3;simp;omega);rw[List.nil_append]at e;have fz:=zry (σ:=σ) (zs:=v.ps.map (rdL v)) (zqf fun p=>ydi v p);unfold rpB at e;unfold f_read_pots zd3;generalize v.O=VO at *;generalize v.ps.map (rdL v)=RL at *;generalize v.ps.map Po.D=PL at *;simp[f3,e,fz]
theorem zjh(i:Int)(σ:Sto):f_is_whole [.int i] σ=.ok (.bl true) σ:=by unfold f_is_whole zfb;simp
theorem zp5(i a b:Int)(σ:Sto):f_is_between [.int i,.int a,.int b] σ=.ok (.bl (decide (a<=i) && decide (i<=b))) σ:=by
 unfold f_is_between zc5;cases h1:decide (a<=i)<;>cases h2:decide (i<=b)<;>simp[zjh,h1,h2]
def plB(ps:List Po)(cs:List Int):Bool:=(ps.zip cs).all fun q=>decide (0<=q.2) && decide (q.2<=(q.1.st.length:Int) - 1)
theorem zp3:∀ (bs:List Bool),yfg (bs.map D.bl)=some bs
 |[]=>rfl
 |b::bs=>by
  show (yfg (bs.map D.bl)).map (b::·)=_;rw[zp3 bs];rfl
theorem zpm(bs:List Bool)(σ:Sto):ynb [.lst (bs.map D.bl)] σ=.ok (.bl (bs.all id)) σ:=by
 have h:yi9 σ (.lst (bs.map D.bl))=some (bs.map D.bl):=rfl;unfold ynb;simp only[h,Option.bind_some,zp3]
theorem zxo{α β:Type}(xs:List α)(ys:List β):(xs.zip ys).length<=xs.length:=by rw[List.length_zip];omega
def St0:St:=⟨0,0,0,[]⟩
def chS(ps:List Po)(cs:List Int):List (Po × St):=(ps.zip cs).map fun q=>(q.1,q.1.st.getD q.2.toNat St0)
structure Tc where
 (l:Str) (t:Ti)
def Tc.D(c:Tc):L4.D:=.tup [.str c.l,.int c.t.a,.int c.t.d]
@[simp] theorem Tc.cl(c:Tc):L4.cl c.D=true:=by simp[Tc.D]
abbrev Gs:=List (Int × Nat)
abbrev Js:=List (List Tc)
def fnd(b:Gs)(w:Int):Option Nat:=(b.find? fun p=>decide (p.1=w)).map (·.2)
def kvB(n:Nat)(b:Gs):List (Key × D):=b.map fun p=>(.inl p.1,.ref (n+1+p.2))
def bwS(σ:Sto)(b:Gs)(J:Js):Sto:=σ++(.dic (kvB σ.length b)::J.map fun l=>.lst (l.map Tc.D))
section
variable(σ:Sto)(b:Gs)(J:Js)
theorem zx6:(bwS σ b J).length=σ.length+1+J.length:=by unfold bwS;simp;omega
theorem zx5:(bwS σ b J)[σ.length]?=some (.dic (kvB σ.length b)):=by unfold bwS;simp
theorem yfh:yl0 (bwS σ b J) (.ref σ.length)=some (kvB σ.length b):=by unfold yl0;simp only[zx5]
theorem zx7{i:Nat}(h:i<J.length):yhf (bwS σ b J) (σ.length+1+i)=some ((J.getD i []).map Tc.D):=by
 unfold yhf bwS;rw[List.getElem?_append_right (by omega),show σ.length+1+i - σ.length=i+1 by omega,List.getElem?_cons_succ,List.getElem?_map,List.getElem?_eq_getElem h,List.getD_eq_getElem?_getD,List.getElem?_eq_getElem h];rfl
theorem zp6:bwS σ b J++[.lst []]=bwS σ b (J++[[]]):=by unfold bwS;simp
theorem zp7(b':Gs):(bwS σ b J).set σ.length (.dic (kvB σ.length b'))=bwS σ b' J:=by
 unfold bwS;rw[List.set_append_right _ _ (Nat.le_refl _),Nat.sub_self];rfl
theorem zp8(i:Nat)(l:List Tc):(bwS σ b J).set (σ.length+1+i) (.lst (l.map Tc.D))=bwS σ b (J.set i l):=by
 unfold bwS;rw[List.set_append_right _ _ (by omega),show σ.length+1+i - σ.length=i+1 by omega,List.set_cons_succ];congr 2;rw[List.map_set]
end
theorem zzu(n:Nat)(w:Int):∀ b:Gs,ygd (kvB n b) (.inl w)=(fnd b w).map fun i=>.ref (n+1+i)
 |[]=>rfl
 |p::b=>by
  have ih:=zzu n w b;unfold ygd kvB fnd at *;rw[List.map_cons,List.find?_cons,List.find?_cons];by_cases e:p.1=w
  ·simp[e]
  ·have e2:¬ (Sum.inl p.1:Key)=Sum.inl w:=fun z=>e (Sum.inl.inj z);simp only[e,e2,decide_false]at ih ⊢;exact ih
theorem zle{w:Int}:∀ {b:Gs},fnd b w=none->w ∉ b.map (·.1)
 |[],_=>by simp
 |p::b,h=>by
  unfold fnd at h;rw[List.find?_cons]at h;by_cases e:p.1=w
  ·simp[e]at h
  ·simp only[e,decide_false]at h;have:=zle (b:=b) (w:=w) h;simp only[List.map_cons,List.mem_cons,not_or];exact⟨fun z=>e z.symm,this⟩
theorem zlf{w:Int}{i:Nat}:∀ {b:Gs},fnd b w=some i->(w,i)∈b
 |[],h=>by simp[fnd]at h
 |p::b,h=>by
  unfold fnd at h;rw[List.find?_cons]at h;by_cases e:p.1=w
  ·simp only[e,decide_true,Option.map_some,Option.some.injEq]at h;rw[<-e,<-h];exact List.mem_cons_self
  ·simp only[e,decide_false]at h;exact List.mem_cons_of_mem _ (zlf (b:=b) h)
def bst(b:Gs)(J:Js)(c:Tc):Gs × Js:=match fnd b c.t.w with
 |some i=>(b,(J++[[]]).set i (J.getD i []++[c]))
 |none=>(b++[(c.t.w,J.length)],J++[[c]])
structure BI(b:Gs)(J:Js)(m:Nat):Prop where
 lt:∀ p∈b,p.2<J.length
 nj:(b.map (·.2)).Nodup
 nk:(b.map (·.1)).Nodup
 bl:b.length<=m
 jl:J.length<=m
 el:∀ l∈J,l.length<=m
noncomputable abbrev lbB:Ev->M Fl:=(yoi (yf1 zt5 (zyx zuj (yl9 1) (yfa (yl9 3) (yfa (yl6 yle) yle))) (yfa (yl9 4) yle)))
@[simp] theorem zg6(o:D->List D->M D)(f:Ev->M D)(fs:Ev->M (List D))(ρ:Ev)(σ:Sto):zyx o f fs ρ σ=(f ρ σ).bind (ybi o (fs ρ)):=nr rfl
theorem zlv{α:Type}{xs ys:List α}{i:Nat}(h:i<xs.length)(d:α):(xs++ys).getD i d=xs.getD i d:=by
 rw[List.getD_eq_getElem?_getD,List.getD_eq_getElem?_getD,List.getElem?_append_left h]
theorem ztc(σ:Sto)(b:Gs)(J:Js)(m:Nat)(hI:BI b J m)(hm:m<900)(R rd:D)(c:Tc):lbB [some R,some (.ref σ.length),some rd,some (.int c.t.w),some c.D] (bwS σ b J)=.ok (.nx [some R,some (.ref σ.length),some rd,some (.int c.t.w),some c.D]) (bwS σ (bst b J c).1 (bst b J c).2):=by
 have h1:∀ fs,ybi zuj fs (.ref σ.length) (bwS σ b J)=(fs (bwS σ b J)).bind (zuj (.ref σ.length)):=fun fs=>by unfold ybi;rw[yfh];rfl
 have h2:∀ ρ,yl6 yle ρ (bwS σ b J)=.ok (.ref (σ.length+1+J.length)) (bwS σ b (J++[[]])):=fun ρ=>by
  rw[<-zp6,<-zx6 σ b J];rfl
 have hpush:=zp6 σ b J;have hlen:=zx6 σ b J;have hcap:(kvB σ.length b).length<cap:=by unfold kvB cap;have:=hI.bl;simp;omega
 unfold lbB bst;cases hf:fnd b c.t.w with
 |some i=>
  have hi:i<J.length:=hI.lt _ (zlf hf);have h3:∀ d,zuj (.ref σ.length) [.int c.t.w,d] (bwS σ b (J++[[]]))=.ok (.ref (σ.length+1+i)) (bwS σ b (J++[[]])):=fun d=>by
   unfold zuj;simp only[ymx,zx5];rw[if_pos hcap,zzu,hf];rfl
  have hl:=zx7 σ b (J++[[]]) (i:=i) (by simp;omega);rw[zlv hi]at hl;have h4:∀ fs,yhm zt5 fs (.ref (σ.length+1+i)) (bwS σ b (J++[[]]))=(fs (bwS σ b (J++[[]]))).bind (zt5 (.ref (σ.length+1+i))):=fun fs=>zmt (xs:=(J.getD i []).map Tc.D) hl;have h5:zt5 (.ref (σ.length+1+i)) [c.D] (bwS σ b (J++[[]]))=.ok .non (bwS σ b ((J++[[]]).set i (J.getD i []++[c]))):=by
   unfold zt5;simp only[hl];have hm2:(J.getD i []).length<=m:=by
    rw[List.getD_eq_getElem?_getD,List.getElem?_eq_getElem hi];exact hI.el _ (List.getElem_mem hi)
   rw[if_pos (by unfold cap;rw[List.length_map];omega),<-zp8];simp
  dsimp only;generalize bwS σ b ((J++[[]]).set i (J.getD i []++[c]))=σ3 at *;generalize bwS σ b (J++[[]])=σ2 at *;generalize bwS σ b J=σ1 at *;generalize (σ.length+1+i)=N1 at *;generalize (σ.length+1+J.length)=N2 at *;generalize σ.length=N0 at *;generalize c.D=CD at *;generalize c.t.w=w at *;simp[h1,hpush,hlen,h3,h4,h5]
 |none=>
  have h3:zuj (.ref σ.length) [.int c.t.w,.ref (σ.length+1+J.length)] (bwS σ b (J++[[]]))=.ok (.ref (σ.length+1+J.length)) (bwS σ (b++[(c.t.w,J.length)]) (J++[[]])):=by
   unfold zuj;simp only[ymx,zx5];rw[if_pos hcap,zzu,hf];simp only[Option.map_none];rw[put_new,show kvB σ.length b++[(Sum.inl c.t.w,D.ref (σ.length+1+J.length))]=kvB σ.length (b++[(c.t.w,J.length)]) by unfold kvB;simp,zp7];intro z;unfold kvB at z;rw[List.map_map]at z;obtain⟨p,hp,e⟩:=List.mem_map.mp z;exact zle hf (List.mem_map.mpr ⟨p,hp,Sum.inl.inj e⟩)
  have hl:=zx7 σ (b++[(c.t.w,J.length)]) (J++[[]]) (i:=J.length) (by simp);have hz:(J++[[]]).getD J.length []=[]:=by rw[List.getD_eq_getElem?_getD];simp
  rw[hz]at hl;have h4:∀ fs,yhm zt5 fs (.ref (σ.length+1+J.length)) (bwS σ (b++[(c.t.w,J.length)]) (J++[[]]))=(fs (bwS σ (b++[(c.t.w,J.length)]) (J++[[]]))).bind (zt5 (.ref (σ.length+1+J.length))):=fun fs=>zmt (xs:=[]) hl;have h5:zt5 (.ref (σ.length+1+J.length)) [c.D] (bwS σ (b++[(c.t.w,J.length)]) (J++[[]]))=.ok .non (bwS σ (b++[(c.t.w,J.length)]) (J++[[c]])):=by
   unfold zt5;simp only[hl];have:=zp8 σ (b++[(c.t.w,J.length)]) (J++[[]]) J.length [c];rw[show (J++[[]]:Js).set J.length [c]=(J++[[c]]:Js) by simp]at this;rw[if_pos (by unfold cap;simp),<-this];rfl
  dsimp only;generalize bwS σ (b++[(c.t.w,J.length)]) (J++[[c]])=σ4 at *;generalize bwS σ (b++[(c.t.w,J.length)]) (J++[[]])=σ3 at *;generalize bwS σ b (J++[[]])=σ2 at *;generalize bwS σ b J=σ1 at *;generalize (σ.length+1+J.length)=N2 at *;generalize σ.length=N0 at *;generalize c.D=CD at *;generalize c.t.w=w at *;simp[h1,hpush,hlen,h3,h4,h5]
theorem zx3{b:Gs}{J:Js}{m:Nat}(h:BI b J m)(c:Tc):BI (bst b J c).1 (bst b J c).2 (m+1):=by
 unfold bst;cases hf:fnd b c.t.w with
 |some i=>
  have hi:i<J.length:=h.lt _ (zlf hf);refine⟨fun p hp=>?_,h.nj,h.nk,?_,?_,fun l hl=>?_⟩
  ·have:=h.lt p hp;simp;omega
  ·have:=h.bl;dsimp only;omega
  ·have:=h.jl;simp;omega
  ·rcases List.mem_or_eq_of_mem_set hl with z|z
   ·rcases List.mem_append.mp z with z|z
    ·have:=h.el l z;omega
    ·simp at z;subst z;simp
   ·have hm2:(J.getD i []).length<=m:=by
     rw[List.getD_eq_getElem?_getD,List.getElem?_eq_getElem hi];exact h.el _ (List.getElem_mem hi)
    rw[z];simp;simpa using hm2
 |none=>
  have hn:=zle hf;refine⟨fun p hp=>?_,?_,?_,?_,?_,fun l hl=>?_⟩
  ·rcases List.mem_append.mp hp with z|z
   ·have:=h.lt p z;simp;omega
   ·simp at z;subst z;simp
  ·rw[List.map_append,List.nodup_append];refine⟨h.nj,by simp,fun x hx y hy e=>?_⟩;simp at hy;obtain⟨p,hp,rfl⟩:=List.mem_map.mp hx;have:=h.lt p hp;omega
  ·rw[List.map_append,List.nodup_append];refine⟨h.nk,by simp,fun x hx y hy e=>?_⟩;simp at hy;exact hn (by rw[<-hy,<-e];exact hx)
  ·have:=h.bl;simp;omega
  ·have:=h.jl;simp;omega
  ·rcases List.mem_append.mp hl with z|z
   ·have:=h.el l z;omega
   ·simp at z;subst z;simp
abbrev Grp:=List (Int × List Tc)
def vwG(b:Gs)(J:Js):Grp:=b.map fun p=>(p.1,J.getD p.2 [])
def ymm(G:Grp)(c:Tc):Grp:=if G.any (fun q=>q.1 == c.t.w)then G.map (fun q=>if q.1 == c.t.w then (q.1,q.2++[c])else q)else G++[(c.t.w,[c])]
theorem zh8{α β:Type}(f:α->β):∀ {xs:List α},(xs.map f).Nodup->∀ {x y:α},x∈xs->y∈xs->f x=f y->x=y
 |[],_,x,y,hx,_,_=>by cases hx
 |a::xs,h,x,y,hx,hy,e=>by
  rw[List.map_cons,List.nodup_cons]at h;rcases List.mem_cons.mp hx with h1|h1
  ·rcases List.mem_cons.mp hy with h2|h2
   ·rw[h1,h2]
   ·rw[h1]at e;exact absurd (List.mem_map.mpr ⟨y,h2,e.symm⟩) h.1
  ·rcases List.mem_cons.mp hy with h2|h2
   ·rw[h2]at e;exact absurd (List.mem_map.mpr ⟨x,h1,e⟩) h.1
   ·exact zh8 f h.2 h1 h2 e
theorem zjw{b:Gs}{J:Js}{m:Nat}(h:BI b J m)(c:Tc):vwG (bst b J c).1 (bst b J c).2=ymm (vwG b J) c:=by
 unfold bst ymm;cases hf:fnd b c.t.w with
 |some i=>
  have hmem:=zlf hf;have hi:i<J.length:=h.lt _ hmem;have ha:(vwG b J).any (fun q=>q.1 == c.t.w)=true:=by
   rw[List.any_eq_true];exact⟨(c.t.w,J.getD i []),List.mem_map.mpr ⟨_,hmem,rfl⟩,by simp⟩
  rw[ha,if_pos rfl];unfold vwG;rw[List.map_map];apply List.map_congr_left;intro p hp;simp only[Function.comp];by_cases e:p.1=c.t.w
  ·have:p=(c.t.w,i):=zh8 (·.1) h.nk hp hmem e;subst this;simp only[beq_self_eq_true,if_true];congr 1;rw[List.getD_eq_getElem?_getD,List.getElem?_set_self (by simp;omega)];rfl
  ·have e':(p.1 == c.t.w)=false:=by simpa using e
   have hne:p.2≠i:=fun z=>e (by rw[zh8 (·.2) h.nj hp hmem z]);rw[e'];simp only[Bool.false_eq_true,if_false];congr 1;rw[List.getD_eq_getElem?_getD,List.getElem?_set_ne (fun z=>hne z.symm),<-List.getD_eq_getElem?_getD,zlv (h.lt p hp)]
 |none=>
  have hn:=zle hf;have ha:(vwG b J).any (fun q=>q.1 == c.t.w)=false:=by
   rw[List.any_eq_false];intro q hq z;obtain⟨p,hp,rfl⟩:=List.mem_map.mp hq;exact hn (List.mem_map.mpr ⟨p,hp,by simpa using z⟩)
  rw[ha];unfold vwG;simp only[List.map_append,List.map_cons,List.map_nil,Bool.false_eq_true,if_false];congr 1
  ·apply List.map_congr_left;intro p hp;rw[zlv (h.lt p hp)]
  ·congr 2;rw[List.getD_eq_getElem?_getD];simp
def bfo:List Tc->Gs × Js->Gs × Js
 |[],s=>s
 |c::cs,s=>bfo cs (bst s.1 s.2 c)
theorem zxz:∀ (cs:List Tc) {s:Gs × Js} {m:Nat},BI s.1 s.2 m->BI (bfo cs s).1 (bfo cs s).2 (m+cs.length)
 |[],s,m,h=>h
 |c::cs,s,m,h=>by
  have:=zxz cs (zx3 h c);simp only[List.length_cons];rw[show m+(cs.length+1)=m+1+cs.length by omega];exact this
theorem zju:∀ (cs:List Tc) {s:Gs × Js} {m:Nat},BI s.1 s.2 m->vwG (bfo cs s).1 (bfo cs s).2=cs.foldl ymm (vwG s.1 s.2)
 |[],s,m,h=>rfl
 |c::cs,s,m,h=>by
  rw[List.foldl_cons,<-zjw h c];exact zju cs (zx3 h c)
theorem zpz:∀ (cs ds:List Tc) (s:Gs × Js),bfo (cs++ds) s=bfo ds (bfo cs s)
 |[],ds,s=>rfl
 |c::cs,ds,s=>zpz cs ds _
theorem zfh{nx:NX}{tg:D->Ev->Option Ev}{body:Ev->M Fl}{k i:Nat}{ρ ρ1:Ev}{σ:Sto}{d:D}(h:nx i σ=some (some d))(ht:tg d ρ=some ρ1):yhe nx tg body (k+1) i ρ σ=(body ρ1 σ).bind (yhc (yhe nx tg body k (i+1))):=by
 rw[yhe];simp only[h,ht];rfl
theorem zhx{nx:NX}{tg:D->Ev->Option Ev}{body:Ev->M Fl}{k i:Nat}{ρ:Ev}{σ:Sto}(h:nx i σ=some none):yhe nx tg body (k+1) i ρ σ=.ok (.nx ρ) σ:=by
 rw[yhe];simp only[h]
theorem zqv{α:Type}{xs ts:List α}{i:Nat}{t:α}(h:xs.drop i=t::ts):xs[i]?=some t/\xs.drop (i+1)=ts:=by
 constructor
 ·have:=congrArg (·[0]?) h;simpa using this
 ·have:=congrArg List.tail h;simpa using this
theorem zkh{α:Type}{xs:List α}{i:Nat}(h:xs.drop i=[])(hi:i<=xs.length):xs[i]?=none/\i=xs.length:=by
 have:=List.drop_eq_nil_iff.mp h;exact⟨List.getElem?_eq_none_iff.mpr this,by omega⟩
theorem zmh(σ:Sto)(g:Ti->Str)(R rd:D)(xs:List Ti){nx:NX}(hn:ykv nx xs (fun u=>ymz (.inl u.w)) (lD g)):∀ (ts:List Ti) (i:Nat) (s:Gs × Js) (m:Nat) (x3 x4:Option D),xs.drop i=ts->i<=xs.length->xs.length<=6->BI s.1 s.2 m->m+ts.length<900->∃ y3 y4,
  yhe nx (tgT 2 (yed (tgN 3) (yed (tgN 4) yj2))) lbB (1001 - i) i [some R,some (.ref σ.length),some rd,x3,x4] (bwS σ s.1 s.2)=.ok (.nx [some R,some (.ref σ.length),some rd,y3,y4]) (bwS σ (bfo (ts.map fun u=>⟨g u,u⟩) s).1 (bfo (ts.map fun u=>⟨g u,u⟩) s).2)
 |[],i,s,m,x3,x4,hd,hi,hl,hI,hm=>by
  obtain⟨e,ei⟩:=zkh hd hi;have hx:nx i (bwS σ s.1 s.2)=some none:=by rw[hn,e];simp[ei]
  rw[show 1001 - i=(1000 - i)+1 by omega];exact⟨x3,x4,zhx hx⟩
 |t::ts,i,s,m,x3,x4,hd,hi,hl,hI,hm=>by
  obtain⟨e,hd2⟩:=zqv hd;have hi2:i<xs.length:=(List.getElem?_eq_some_iff.mp e).1;simp only[List.length_cons]at hm;have hx:nx i (bwS σ s.1 s.2)=some (some (.tup [.int t.w,lD g t])):=by rw[hn,e];rfl
  have st:=ztc σ s.1 s.2 m hI (by omega) R rd ⟨g t,t⟩;obtain⟨y3,y4,e2⟩:=zmh σ g R rd xs hn ts (i+1) (bst s.1 s.2 ⟨g t,t⟩) (m+1) (some (.int t.w)) (some (lD g t)) hd2 (by omega) hl (zx3 hI _) (by omega);refine⟨y3,y4,?_⟩;rw[show 1001 - i=(1001 - (i+1))+1 by omega,zfh hx (ρ1:=[some R,some (.ref σ.length),some rd,some (.int t.w),some (lD g t)]) (nr rfl)];rw[show lbB [some R,some (.ref σ.length),some rd,some (.int t.w),some (lD g t)] (bwS σ s.1 s.2)=_ from st,zp1,zmn];exact e2
def tcs(v:Vw)(q:Po × St):List Tc:=q.2.ts.map fun u=>⟨lot v q.1.s q.1.sn u,u⟩
def AT(v:Vw)(qs:List (Po × St)):List Tc:=qs.flatMap (tcs v)
noncomputable abbrev loB:Ev->M Fl:=(yi3 (yox (yl2 oIx (yl9 2) (eC (.int 1)))) (tgT 2 (yed (tgN 3) (yed (tgN 4) yj2))) lbB)
@[simp] theorem zn5(src:Ev->M NX)(tg:D->Ev->Option Ev)(body:Ev->M Fl)(ρ:Ev)(σ:Sto):yi3 src tg body ρ σ=xsO ρ (ygl tg body ρ) (src ρ σ):=ykd ..
theorem zw0{f:Ev->M D}{ρ:Ev}{σ:Sto}{ks:List Key}{xs:List D}(h:f ρ σ=.ok (.dic ks xs) σ)(hl:ks.length=xs.length):yox f ρ σ=.ok (nxI (ks.zip xs)) σ:=by
 unfold yox;rw[zx2,h,zp1];unfold yg0;dsimp only;rw[if_pos hl]
theorem zth(v:Vw)(q:Po × St)(hq:q.2.Ok)(σ:Sto)(R:D)(s:Gs × Js)(m:Nat)(x3 x4:Option D)(hI:BI s.1 s.2 m)(hm:m<890):∃ y3 y4,
  loB [some R,some (.ref σ.length),some (rdD v q.1 q.2),x3,x4] (bwS σ s.1 s.2)=.ok (.nx [some R,some (.ref σ.length),some (rdD v q.1 q.2),y3,y4]) (bwS σ (bfo (tcs v q) s).1 (bfo (tcs v q) s).2):=by
 have hl:=hq.len;obtain⟨y3,y4,e⟩:=zmh σ (lot v q.1.s q.1.sn) R (rdD v q.1 q.2) q.2.ts (zm2 q.2.ts (fun u=>(.inl u.w:Key)) (lD (lot v q.1.s q.1.sn))) q.2.ts 0 s m x3 x4 rfl (by omega) hl hI (by omega);refine⟨y3,y4,?_⟩;have i1:∀ σ,oIx (rdD v q.1 q.2) (.int 1) σ=.ok (.dic (q.2.ts.map fun u=>.inl u.w) (q.2.ts.map (lD (lot v q.1.s q.1.sn)))) σ:=fun σ=>by unfold rdD;simp
 have sr:yox (yl2 oIx (yl9 2) (eC (.int 1))) [some R,some (.ref σ.length),some (rdD v q.1 q.2),x3,x4] (bwS σ s.1 s.2)=.ok (nxI ((q.2.ts.map fun u=>(.inl u.w:Key)).zip (q.2.ts.map (lD (lot v q.1.s q.1.sn))))) (bwS σ s.1 s.2):=zw0 (by
  generalize rdD v q.1 q.2=RD at *;simp[i1]) (by simp)
 unfold loB;rw[zn5,sr];exact e
theorem ztg(v:Vw)(σ:Sto)(R:D):∀ (qs:List (Po × St)) (s:Gs × Js) (m:Nat) (x2 x3 x4:Option D),(∀ q∈qs,q.2.Ok)->BI s.1 s.2 m->m+6 * qs.length<880->∃ y2 y3 y4,
  ym2 (tgN 2) loB (qs.map fun q=>rdD v q.1 q.2) [some R,some (.ref σ.length),x2,x3,x4] (bwS σ s.1 s.2)=.ok (.nx [some R,some (.ref σ.length),y2,y3,y4]) (bwS σ (bfo (AT v qs) s).1 (bfo (AT v qs) s).2)
 |[],s,m,x2,x3,x4,_,_,_=>⟨x2,x3,x4,by simp[AT,bfo]⟩
 |q::qs,s,m,x2,x3,x4,hq,hI,hm=>by
  simp only[List.length_cons]at hm;have hl:=(hq q List.mem_cons_self).len;obtain⟨y3,y4,e1⟩:=zth v q (hq q List.mem_cons_self) σ R s m x3 x4 hI (by omega);have hI2:=zxz (tcs v q) hI;have htl:(tcs v q).length<=6:=by unfold tcs;simpa using hl
  obtain⟨z2,z3,z4,e2⟩:=ztg v σ R qs (bfo (tcs v q) s) (m+(tcs v q).length) (some (rdD v q.1 q.2)) y3 y4 (fun r hr=>hq r (List.mem_cons_of_mem _ hr)) hI2 (by omega);refine⟨z2,z3,z4,?_⟩;rw[List.map_cons,zmp];simp only[List.set_cons_succ,List.set_cons_zero];rw[e1,zp1,zmn,e2,show AT v (q::qs)=tcs v q++AT v qs from List.flatMap_cons ..,zpz]
def gD(G:Grp):D:=.dic (G.map fun q=>.inl q.1) (G.map fun q=>.lst (q.2.map Tc.D))
theorem zse{f:D->Option D}:∀ {α:Type} {xs:List α} {g h:α->D},(∀ x∈xs,f (g x)=some (h x))->fzL f (xs.map g)=some (xs.map h)
 |_,[],_,_,_=>rfl
 |_,x::xs,g,h,hx=>by
  simp only[List.map_cons];unfold fzL;rw[hx x List.mem_cons_self,zse fun y hy=>hx y (List.mem_cons_of_mem _ hy)]
theorem zzy(σ:Sto){b:Gs}{J:Js}{m:Nat}(h:BI b J m):ymh σ (.ok (.ref σ.length) (bwS σ b J))=.ok (gD (vwG b J)) σ:=by
 have hr:fz σ.length (bwS σ b J) 6 (.ref σ.length)=some (gD (vwG b J)):=by
  have hv:fzL (fz σ.length (bwS σ b J) 5) ((kvB σ.length b).map (·.2))=some (b.map fun p=>D.lst ((J.getD p.2 []).map Tc.D)):=by
   rw[show (kvB σ.length b).map (·.2)=b.map fun p=>D.ref (σ.length+1+p.2) by unfold kvB;rw[List.map_map];rfl];refine zse fun p hp=>?_;have hl:=zx7 σ b J (h.lt p hp);have hl2:(bwS σ b J)[σ.length+1+p.2]?=some (.lst ((J.getD p.2 []).map Tc.D)):=by
    unfold yhf at hl;cases e:(bwS σ b J)[σ.length+1+p.2]? with
    |none=>rw[e]at hl;cases hl
    |some o=>
     rw[e]at hl;cases o with
     |lst xs=>cases hl;rfl
     |_=>cases hl
   unfold fz;rw[if_neg (by simp[cl])];dsimp only;rw[if_neg (by omega),hl2];dsimp only;rw[zse (g:=Tc.D) (h:=Tc.D) fun c _=>ygp (Tc.cl c)];rfl
  unfold fz;rw[if_neg (by simp[cl])];dsimp only;rw[if_neg (Nat.lt_irrefl _),zx5];dsimp only;rw[hv];unfold gD vwG kvB;simp only[Option.map_some,List.map_map];rfl
 unfold ymh;dsimp only;rw[if_pos (by unfold bwS;simp),hr]
def grp(cs:List Tc):Grp:=cs.foldl ymm []
theorem BI0:BI [] [] 0:=⟨fun _ h=>(by cases h),by simp,by simp,by simp,by simp,fun _ h=>(by cases h)⟩
theorem zez(v:Vw)(qs:List (Po × St))(hq:∀ q∈qs,q.2.Ok)(hl:qs.length<=3)(σ:Sto):f_lots_by_word [.lst (qs.map fun q=>rdD v q.1 q.2)] σ=.ok (gD (grp (AT v qs))) σ:=by
 obtain⟨y2,y3,y4,e⟩:=ztg v σ (.lst (qs.map fun q=>rdD v q.1 q.2)) qs ([],[]) 0 none none none hq BI0 (by omega);have hI:=zxz (AT v qs) (s:=([],[])) BI0;have fz:=zzy σ hI;rw[zju (AT v qs) (s:=([],[])) BI0]at fz;rw[show vwG ([]:Gs) []=[]from rfl,show (AT v qs).foldl ymm []=grp (AT v qs)from rfl]at fz;rw[show bwS σ ([]:Gs) []=σ++[.dic []]from rfl]at e;unfold loB lbB at e;unfold f_lots_by_word zbd;generalize bwS σ (bfo (AT v qs) ([],[])).1 (bfo (AT v qs) ([],[])).2=σ2 at *;generalize gD (grp (AT v qs))=OUT at *;generalize (qs.map fun q=>rdD v q.1 q.2)=RL at *;simp[e,fz,-zn5]
abbrev Fs:=List (Int × Option Int)
def oD:Option Int->D
 |none=>.non
 |some z=>.int z
@[simp] theorem yhx(x:Option Int):cl (oD x)=true:=by cases x<;>simp[oD]
def fD(F:Fs):D:=.dic (F.map fun p=>.inl p.1) (F.map fun p=>oD p.2)
def kvF(F:Fs):List (Key × D):=F.map fun p=>(.inl p.1,oD p.2)
theorem zqo(F:Fs)(σ:Sto):yl0 σ (fD F)=some (kvF F):=by
 unfold yl0 fD kvF;dsimp only;rw[if_pos (by simp)];congr 1;induction F with
 |nil=>rfl
 |cons p F ih=>simp only[List.map_cons,List.zip_cons_cons,ih]
def ymi(F:Fs)(w:Int):Option (Option Int):=(F.find? fun p=>decide (p.1=w)).map (·.2)
theorem zk7(w:Int):∀ (F:Fs),ygd (kvF F) (.inl w)=(ymi F w).map oD
 |[]=>rfl
 |p::F=>by
  have ih:=zk7 w F;unfold ygd kvF ymi at *;rw[List.map_cons,List.find?_cons,List.find?_cons];by_cases e:p.1=w
  ·simp[e]
  ·have e2:¬ (Sum.inl p.1:Key)=Sum.inl w:=fun z=>e (Sum.inl.inj z);simp only[e,e2,decide_false]at ih ⊢;exact ih
theorem zqp(G:Grp)(σ:Sto):yl0 σ (gD G)=some (G.map fun q=>(.inl q.1,.lst (q.2.map Tc.D))):=by
 unfold yl0 gD;dsimp only;rw[if_pos (by simp)];congr 1;induction G with
 |nil=>rfl
 |cons p G ih=>simp only[List.map_cons,List.zip_cons_cons,ih]
theorem zsl(G:Grp)(σ:Sto):yh3 [gD G] σ=.ok (.int G.length) σ:=by
 unfold yh3;simp only[zqp];simp
def opn(ls:List Tc):List Tc:=ls.filter fun c=>c.l == "open"
def yme(ls:List Tc):D:=.lst (.non::(opn ls).map fun c=>.int c.t.d)
theorem zrq(ls:List Tc):cl (yme ls)=true:=by
 have:clL ((opn ls).map fun c=>D.int c.t.d)=true:=zqf fun _=>by simp
 unfold yme;simp[this]
theorem Tc.i0(c:Tc)(σ:Sto):oIx c.D (.int 0) σ=.ok (.str c.l) σ:=by unfold Tc.D;simp
theorem Tc.i1(c:Tc)(σ:Sto):oIx c.D (.int 1) σ=.ok (.int c.t.a) σ:=by unfold Tc.D;simp
theorem Tc.i2(c:Tc)(σ:Sto):oIx c.D (.int 2) σ=.ok (.int c.t.d) σ:=by unfold Tc.D;simp
theorem ze5(ls:List Tc)(hl:ls.length<=100)(σ:Sto):f_fates_of [.lst (ls.map Tc.D)] σ=.ok (yme ls) σ:=by
 have l:=lcA (xs:=ls) (ix:=[]) (ρ:=[some (.lst (ls.map Tc.D))]) (σ:=σ) (src:=yoz (yl9 0)) (fi:=eT (yl2 oEq (yl2 oIx (yl9 0) (eC (.int 0))) (eC (.str "open")))) (fe:=yl2 oIx (yl9 0) (eC (.int 2))) Tc.D (fun c=>c.l == "open") (fun c=>.int c.t.d) (by simp) (by omega) (fun c _ j=>by
   have i0:=fun σ=>c.i0 σ;have i2:=fun σ=>c.i2 σ;generalize c.D=CD at *;generalize hb:(c.l == "open")=b at *;constructor
   ·simp[i0,hb]
   ·intro _;simp[i2]) (fun _ _=>by simp)
 rw[show ls.filter (fun c:Tc=>c.l == ("open" : Str))=opn ls from rfl]at l;have hlen:(opn ls).length<=ls.length:=List.length_filter_le _ _;have ad:∀ σ,yna (.lst [.non]) (.lst ((opn ls).map fun c=>.int c.t.d)) σ=.ok (yme ls) σ:=fun σ=>by
  rw[zm4 (by simp[cap];omega)];rfl
 have hc:=zrq ls;unfold f_fates_of zfa;generalize yme ls=OUT at *;generalize D.lst ((opn ls).map fun c=>.int c.t.d)=O2 at *;generalize D.lst (ls.map Tc.D)=IN at *;simp[l,ad,hc,-zqy]
def fOk(x:Option Int)(ls:List Tc):Bool:=match x with
 |none=>true
 |some z=>(opn ls).any fun c=>c.t.d == z
theorem yaj(x:Option Int)(ls:List Tc)(σ:Sto):oIn false (oD x) (yme ls) σ=.ok (.bl (fOk x ls)) σ:=by
 have h3:yi9 σ (yme ls)=some (.non::(opn ls).map fun c=>.int c.t.d):=rfl;have h1:(D.non::(opn ls).map fun c=>D.int c.t.d).all isF=true:=by simp[isF,sc]
 unfold oIn;simp only[h3,h1];cases x with
 |none=>simp[oD,isF,sc,eqF,eqV,fOk]
 |some z=>
  simp only[oD,fOk];have:(D.non::(opn ls).map fun c=>D.int c.t.d).any (fun y=>eqF y (.int z))=(opn ls).any fun c=>c.t.d == z:=by
   rw[List.any_cons,List.any_map];simp[eqF,sc,eqV,Function.comp_def]
  rw[this];simp[isF,sc]
def tfB(F:Fs)(q:Int × List Tc):Bool:=match ymi F q.1 with
 |some x=>fOk x q.2
 |none=>false
def cmB(x:Option Int)(e:Int)(c:Tc):Bool:=
 if c.l == ("open" : Str)then (match x with|none=>true|some z=>decide (c.t.d<z))
 else (c.l == ("hangs" : Str)) && (match x with|none=>false|some z=>decide (z - 1+e<c.t.d))
theorem zj8(c:Tc)(x:Option Int)(e:Int)(σ:Sto):f_comes_by_fate [c.D,oD x,.int e] σ=.ok (.bl (cmB x e c)) σ:=by
 have i0:=fun σ=>c.i0 σ;have i2:=fun σ=>c.i2 σ;unfold f_comes_by_fate zat cmB;generalize hb1:(c.l == ("open" : Str))=b1 at *;generalize hb2:(c.l == ("hangs" : Str))=b2 at *;generalize c.D=CD at *;cases x with
 |none=>cases b1<;>cases b2<;>simp[oD,i0,i2,hb1,hb2]
 |some z=>
  generalize hb3:decide (c.t.d<z)=b3 at *;generalize hb4:decide (z - 1+e<c.t.d)=b4 at *;cases b1<;>cases b2<;>cases b3<;>cases b4<;>simp[oD,i0,i2,hb1,hb2,hb3,hb4]
def sby(ls:List Tc)(x:Option Int)(e:Int):Int:=((ls.filter (cmB x e)).map fun c=>c.t.a).sum
theorem zo0(l:List Int)(σ:Sto):ynu [.lst (l.map D.int)] σ=.ok (.int l.sum) σ:=by simp[ynu]
theorem zo1(ls:List Tc)(hl:ls.length<=100)(x:Option Int)(e:Int)(σ:Sto):f_sum_by_fate [.lst (ls.map Tc.D),oD x,.int e] σ=.ok (.int (sby ls x e)) σ:=by
 have l:=lcA (xs:=ls) (ix:=[1,2]) (ρ:=[some (.lst (ls.map Tc.D)),some (oD x),some (.int e)]) (σ:=σ) (src:=yoz (yl9 0)) (fi:=eT (eFn 3 f_comes_by_fate [] (yfa (yl9 0) (yfa (yl9 1) (yfa (yl9 2) yle))))) (fe:=yl2 oIx (yl9 0) (eC (.int 1))) Tc.D (cmB x e) (fun c=>.int c.t.a) (by simp) (by omega) (fun c _ j=>by
   have i1:=fun σ=>c.i1 σ;have cm:=fun σ=>zj8 c x e σ;generalize c.D=CD at *;generalize oD x=OX at *;constructor
   ·simp[cm]
   ·intro _;simp[i1]) (fun _ _=>by simp)
 have o:=zo0 ((ls.filter (cmB x e)).map fun c=>c.t.a) σ;rw[List.map_map,show (D.int ∘ fun c:Tc=>c.t.a)=(fun c:Tc=>D.int c.t.a)from rfl]at o;unfold f_sum_by_fate zb9 sby;generalize D.lst ((ls.filter (cmB x e)).map fun c=>D.int c.t.a)=O2 at *;generalize ((ls.filter (cmB x e)).map fun c=>c.t.a).sum=SM at *;generalize D.lst (ls.map Tc.D)=IN at *;generalize oD x=OX at *;simp[l,o,-zqy]
def ymn(F:Fs)(e:Int):Grp->Int
 |[]=>0
 |q::G=>sby q.2 ((ymi F q.1).getD none) e+ymn F e G
noncomputable abbrev soB:Ev->M Fl:=(yoh (fun a b=>a+b) 4 (eFn 3 f_sum_by_fate [] (yfa (yl9 6) (yfa (yl2 yhw (yl9 2) (yl9 5)) (yfa (yl9 3) yle)))))
def frm(v:Vw)(qs:List (Po × St)):Int:=(qs.map fun q=>shr q.1.s q.2+ymd (lot v q.1.s q.1.sn) q.2.ts).sum
theorem zkc(ws:List Int)(w:Int):ddp (ws++[w])=if (ddp ws).any (·== w)then ddp ws else ddp ws++[w]:=by
 unfold ddp;rw[List.foldl_append];rfl
theorem zyn:∀ (ws acc:List Int) (x:Int),x∈ws.foldl PyProof.Rows.step_dedup acc ↔ x∈acc\/x∈ws
 |[],acc,x=>by simp
 |w::ws,acc,x=>by
  rw[List.foldl_cons,zyn ws];have:x∈PyProof.Rows.step_dedup acc w ↔ x∈acc\/x=w:=by
   unfold PyProof.Rows.step_dedup;split
   ·next h=>
    constructor
    ·exact .inl
    ·rintro (z|rfl)
     ·exact z
     ·obtain⟨y,hy,e⟩:=List.any_eq_true.mp h;have:y=x:=by simpa using e
      rw[<-this];exact hy
   ·simp
  rw[this];simp only[List.mem_cons];constructor
  ·rintro ((h|h)|h)
   ·exact .inl h
   ·exact .inr (.inl h)
   ·exact .inr (.inr h)
  ·rintro (h|h|h)
   ·exact .inl (.inl h)
   ·exact .inl (.inr h)
   ·exact .inr h
theorem zqr(ws:List Int)(x:Int):x∈ddp ws ↔ x∈ws:=by
 have:=zyn ws [] x;simpa [ddp]using this
def wds(cs:List Tc):List Int:=cs.map fun c=>c.t.w
def flt(cs:List Tc)(w:Int):List Tc:=cs.filter fun c=>c.t.w == w
def spc(cs:List Tc):Grp:=(ddp (wds cs)).map fun w=>(w,flt cs w)
theorem zld(cs:List Tc)(c:Tc)(w:Int):flt (cs++[c]) w=if c.t.w == w then flt cs w++[c]else flt cs w:=by
 unfold flt;rw[List.filter_append,List.filter_cons];split<;>simp
theorem zlu(cs:List Tc)(c:Tc):ymm (spc cs) c=spc (cs++[c]):=by
 have ha:(spc cs).any (fun q=>q.1 == c.t.w)=(ddp (wds cs)).any (·== c.t.w):=by unfold spc;rw[List.any_map];rfl
 have hw:wds (cs++[c])=wds cs++[c.t.w]:=by simp[wds]
 unfold ymm;rw[ha];cases h:(ddp (wds cs)).any (·== c.t.w)with
 |true=>
  unfold spc;rw[hw,zkc,h];simp only[if_true,List.map_map];apply List.map_congr_left;intro w _;simp only[Function.comp,zld];by_cases e:c.t.w=w
  ·subst e;simp
  ·have e1:(c.t.w == w)=false:=by simpa using e
   have e2:(w == c.t.w)=false:=by simpa using fun z=>e z.symm
   rw[e1,e2];simp
 |false=>
  have hn:c.t.w ∉ wds cs:=fun z=>by
   rw[List.any_eq_false]at h;exact h _ ((zqr _ _).mpr z) (by simp)
  unfold spc;rw[hw,zkc,h];simp only[Bool.false_eq_true,if_false,List.map_append,List.map_cons,List.map_nil];congr 1
  ·apply List.map_congr_left;intro w hwm;rw[zld];have e1:(c.t.w == w)=false:=by
    simp;intro z;exact hn (by rw[z];exact(zqr _ _).mp hwm)
   rw[e1];simp
  ·have e0:flt cs c.t.w=[]:=by
    unfold flt;rw[List.filter_eq_nil_iff];intro d hd z;exact hn (List.mem_map.mpr ⟨d,hd,by simpa using z⟩)
   rw[zld,e0];simp
theorem yae:∀ (cs ds:List Tc),cs.foldl ymm (spc ds)=spc (ds++cs)
 |[],ds=>by simp
 |c::cs,ds=>by rw[List.foldl_cons,zlu,yae cs (ds++[c])];simp
theorem zsm(cs:List Tc):grp cs=spc cs:=by
 have:=yae cs [];simpa [grp,spc,wds,ddp]using this
theorem zwz(cs:List Tc):(spc cs).length<=cs.length:=by
 unfold spc;rw[List.length_map];have:=zyo (wds cs);simpa [wds]using this
theorem yd4(cs:List Tc):∀ q∈spc cs,q.2.length<=cs.length:=fun q hq=>by
 obtain⟨w,_,rfl⟩:=List.mem_map.mp hq;exact List.length_filter_le _ _
def ymq(h:Tc->Int)(cs:List Tc):Int:=(cs.map h).sum
theorem zl2(h:Tc->Int)(c:Tc)(cs:List Tc)(w:Int):ymq h (flt (c::cs) w)=(if c.t.w == w then h c else 0)+ymq h (flt cs w):=by
 unfold flt ymq;rw[List.filter_cons];split<;>simp
def ypm(h:Int->Tc->Int)(cs:List Tc):List Int->Int
 |[]=>0
 |w::W=>ymq (h w) (flt cs w)+ypm h cs W
theorem zph(h:Int->Tc->Int):∀ W,ypm h [] W=0
 |[]=>rfl
 |w::W=>by simp[ypm,zph h W,ymq,flt]
theorem zji(h:Int->Tc->Int)(c:Tc)(cs:List Tc):∀ (W:List Int),W.Nodup->ypm h (c::cs) W=(if c.t.w∈W then h c.t.w c else 0)+ypm h cs W
 |[],_=>by simp[ypm]
 |w::W,hn=>by
  rw[List.nodup_cons]at hn;simp only[ypm];rw[zl2,zji h c cs W hn.2];by_cases e:c.t.w=w
  ·have e1:(c.t.w == w)=true:=by simpa using e
   rw[e1,e];simp only[if_true,List.mem_cons,true_or];rw[if_neg hn.1];omega
  ·have e1:(c.t.w == w)=false:=by simpa using e
   rw[e1];simp only[Bool.false_eq_true,if_false,List.mem_cons,e,false_or];omega
theorem zpg(h:Int->Tc->Int)(W:List Int)(hn:W.Nodup):∀ (cs:List Tc),(∀ c∈cs,c.t.w∈W)->ypm h cs W=ymq (fun c=>h c.t.w c) cs
 |[],_=>by rw[zph];rfl
 |c::cs,hc=>by
  rw[zji h c cs W hn,if_pos (hc c List.mem_cons_self),zpg h W hn cs fun d hd=>hc d (List.mem_cons_of_mem _ hd)];simp[ymq]
theorem zf9(p:Tc->Bool):∀ cs:List Tc,((cs.filter p).map fun c=>c.t.a).sum=ymq (fun c=>if p c then c.t.a else 0) cs
 |[]=>rfl
 |c::cs=>by
  have ih:=zf9 p cs;unfold ymq at *;rw[List.filter_cons,List.map_cons,List.sum_cons,<-ih];split<;>simp
theorem zly(F:Fs)(e:Int)(cs:List Tc):∀ (W:List Int),ymn F e (W.map fun w=>(w,flt cs w))=ypm (fun w c=>if cmB ((ymi F w).getD none) e c then c.t.a else 0) cs W
 |[]=>rfl
 |w::W=>by
  simp only[List.map_cons,ymn,ypm];rw[zly F e cs W];unfold sby;rw[zf9]
theorem zlx(F:Fs)(e:Int)(cs:List Tc):ymn F e (grp cs)=ymq (fun c=>if cmB ((ymi F c.t.w).getD none) e c then c.t.a else 0) cs:=by
 rw[zsm];unfold spc;rw[zly];exact zpg (fun w c=>if cmB ((ymi F w).getD none) e c then c.t.a else 0) _ (zg4 _) cs fun c hc=>(zqr _ _).mpr (List.mem_map.mpr ⟨c,hc,rfl⟩)
def cnt(x:Option Int)(e:Int)(c:Tc):Bool:=yge c.l || cmB x e c
theorem zha(x:Option Int)(e:Int)(c:Tc)(h:yge c.l=true):cmB x e c=false:=by
 have hl:c.l = "won"\/c.l = "sure"\/c.l = "back":=by
  unfold yge inV at h;simp only[List.map_cons,List.map_nil,List.any_cons,List.any_nil,Bool.or_false,Bool.or_eq_true,eqV]at h;rcases h with h|h|h
  ·exact .inl (eq_of_beq h).symm
  ·exact .inr (.inl (eq_of_beq h).symm)
  ·exact .inr (.inr (eq_of_beq h).symm)
 unfold cmB;have h1:(c.l == ("open" : Str))=false:=by rcases hl with h|h|h<;>rw[h]<;>decide
 have h2:(c.l == ("hangs" : Str))=false:=by rcases hl with h|h|h<;>rw[h]<;>decide
 rw[h1,h2];rfl
theorem zql(X:Int->Option Int)(e:Int):∀ cs:List Tc,ymq (fun c=>if cnt (X c.t.w) e c then c.t.a else 0) cs=ymq (fun c=>if yge c.l then c.t.a else 0) cs+ymq (fun c=>if cmB (X c.t.w) e c then c.t.a else 0) cs
 |[]=>rfl
 |c::cs=>by
  have ih:=zql X e cs;unfold ymq at *;simp only[List.map_cons,List.sum_cons];rw[ih];unfold cnt;cases hf:yge c.l with
  |true=>
   rw[zha (X c.t.w) e c hf];simp;omega
  |false=>simp;omega
def own(qs:List (Po × St)):Int:=(qs.map fun q=>shr q.1.s q.2).sum
theorem zy8(g:Ti->Str):∀ ts:List Ti,ymd g ts=ymq (fun c=>if yge c.l then c.t.a else 0) (ts.map fun u=>(⟨g u,u⟩:Tc))
 |[]=>rfl
 |t::ts=>by
  simp only[ymd,List.map_cons];rw[zy8 g ts];simp[ymq]
theorem zl1(h:Tc->Int)(cs ds:List Tc):ymq h (cs++ds)=ymq h cs+ymq h ds:=by simp[ymq]
theorem zru(v:Vw):∀ qs:List (Po × St),frm v qs=own qs+ymq (fun c=>if yge c.l then c.t.a else 0) (AT v qs)
 |[]=>rfl
 |q::qs=>by
  have ih:=zru v qs;rw[show AT v (q::qs)=tcs v q++AT v qs from List.flatMap_cons ..,zl1];unfold frm own at *;simp only[List.map_cons,List.sum_cons];rw[ih,zy8];unfold tcs;omega
theorem zi8(v:Vw)(qs:List (Po × St))(F:Fs)(e:Int):frm v qs+ymn F e (grp (AT v qs))=ymq (fun c=>if cnt ((ymi F c.t.w).getD none) e c then c.t.a else 0) (AT v qs)+own qs:=by
 rw[zlx,zru,zql (fun w=>(ymi F w).getD none)];omega
def suB(v:Vw)(cs:List Int)(F:Fs)(T:Int):Bool:=((cs.length:Int) == (v.ps.length:Int)) && (plB v.ps cs && ((((F.length:Int) == ((grp (AT v (chS v.ps cs))).length:Int)) && (grp (AT v (chS v.ps cs))).all (tfB F)) && (T == frm v (chS v.ps cs)+ymn F v.e (grp (AT v (chS v.ps cs))))))
theorem zqc{ps:List Po}{cs:List Int}(hp:plB ps cs=true):∀ q∈chS ps cs,q.1∈ps/\q.2∈q.1.st:=fun q hq=>by
 obtain⟨r,hr,rfl⟩:=List.mem_map.mp hq;have hb:=List.all_eq_true.mp hp r hr;simp only[Bool.and_eq_true,decide_eq_true_eq]at hb;have hi:r.2.toNat<r.1.st.length:=by omega
 refine⟨(List.of_mem_zip hr).1,?_⟩;dsimp only;rw[List.getD_eq_getElem?_getD,List.getElem?_eq_getElem hi];exact List.getElem_mem hi
theorem zxp(v:Vw):∀ (qs:List (Po × St)),(∀ q∈qs,q.2.Ok)->(AT v qs).length<=6 * qs.length
 |[],_=>by simp[AT]
 |q::qs,h=>by
  rw[show AT v (q::qs)=tcs v q++AT v qs from List.flatMap_cons ..,List.length_append,List.length_cons];have h1:=zxp v qs fun r hr=>h r (List.mem_cons_of_mem _ hr);have h2:=(h q List.mem_cons_self).len;have h3:(tcs v q).length=q.2.ts.length:=by unfold tcs;simp
  omega
theorem zqb(ps:List Po)(cs:List Int):(chS ps cs).length<=ps.length:=by unfold chS;rw[List.length_map];exact zxo ps cs
theorem Vw.j0(v:Vw)(σ:Sto):oIx v.D (.int 0) σ=.ok (.int v.e) σ:=by unfold Vw.D;simp
theorem Vw.j1(v:Vw)(σ:Sto):oIx v.D (.int 1) σ=.ok (.int v.k) σ:=by unfold Vw.D;simp
theorem Vw.j2(v:Vw)(σ:Sto):oIx v.D (.int 2) σ=.ok (.lst (v.ws.map D.int)) σ:=by unfold Vw.D;simp
theorem Vw.j3(v:Vw)(σ:Sto):oIx v.D (.int 3) σ=.ok (.lst (v.ps.map Po.D)) σ:=by unfold Vw.D;simp
theorem ixM{α:Type}{xs:List α}{f:α->D}{i:Nat}{x:α}(h:xs[i]?=some x)(σ:Sto):oIx (.lst (xs.map f)) (.int i) σ=.ok (f x) σ:=zuc (zpt (by rw[List.getElem?_map,h];rfl))
theorem yoe(n:Nat)(h:n<=1000)(σ:Sto):yod (.int (n:Int)) σ=.ok (.seq (ydg n)) σ:=by
 have:=zvq (σ:=σ) (j:=(n:Int)) (by omega) (by omega);simpa using this
def dvn:Nat->Int->Int
 |0,a=>a
 |n+1,a=>dvn n (a / 2147483647)
theorem zty(x0 x1 x4:Option D)(σ:Sto):∀ (l:List D) (a:Int) (x3:Option D),∃ (y3:Option D),ym2 (tgN 3) (yop 2 (yl2 yhz (yl9 2) (eC (.int 2147483647)))) l [x0,x1,some (.int a),x3,x4] σ=.ok (.nx [x0,x1,some (.int (dvn l.length a)),y3,x4]) σ
 |[],a,x3=>⟨x3,by simp[dvn]⟩
 |d::l,a,x3=>by
  obtain⟨y3,e⟩:=zty x0 x1 x4 σ l (a / 2147483647) (some d);refine⟨y3,?_⟩;rw[zmp];simp only[List.set_cons_succ,List.set_cons_zero];have dv:∀ σ,yhz (.int a) (.int 2147483647) σ=.ok (.int (a / 2147483647)) σ:=fun σ=>zm5 a 2147483647 (by decide) (by decide) σ;have st:yop 2 (yl2 yhz (yl9 2) (eC (.int 2147483647))) [x0,x1,some (.int a),some d,x4] σ=.ok (.nx [x0,x1,some (.int (a / 2147483647)),some d,x4]) σ:=by simp[dv]
  rw[st,zp1,zmn,e];rfl
def mx1(c k:Int):Int:=(c+7919 * k+1) * 48271 % 2147483647
def mx2(c k:Int):Int:=mx1 c k * (mx1 c k / 1009+69621) % 2147483647
def ym8(c:Int)(k:Nat):Int:=if (c % 2 == 0) && (((k:Int) == 0) || decide (0<dvn k (c / 2)))then dvn k (c / 2) % 2147483647 else mx2 c k * (mx2 c k / 2003+40692) % 2147483629
theorem ztu(c:Int)(k:Nat):0<=ym8 c k:=by unfold ym8;split<;>omega
theorem ybk(c:Int)(k:Nat)(hk:k<=100)(σ:Sto):f__law_mixed [.int c,.int k] σ=.ok (.int (ym8 c k)) σ:=by
 have rk:=fun σ=>yoe k (by omega) σ;obtain⟨y3,e⟩:=zty (some (.int c)) (some (.int k)) none σ (ydg k) (c / 2) none;rw[show (ydg k).length=k by unfold ydg;simp]at e;have hN:∀ z:Int,0<=z % 2147483647/\z % 2147483647<2147483647:=fun z=>by omega
 unfold ym8 mx2 mx1;generalize hn1:(c+7919 * (k:Int)+1) * 48271 % 2147483647=n1;have b1:0<=n1/\n1<2147483647:=by rw[<-hn1];exact hN _
 generalize hn2:n1 * (n1 / 1009+69621) % 2147483647=n2;have b2:0<=n2/\n2<2147483647:=by rw[<-hn2];exact hN _
 have m0:∀ σ,yno (.int 7919) (.int k) σ=.ok (.int (7919 * k)) σ:=fun σ=>ybt (by omega) (by omega);have m1:∀ x σ,yno (.int x) (.int 48271) σ=.ok (.int (x * 48271)) σ:=fun x σ=>ybu (by omega) (by omega);have m2:∀ y σ,yno (.int n1) (.int y) σ=.ok (.int (n1 * y)) σ:=fun y σ=>ybt (by omega) (by omega);have m3:∀ y σ,yno (.int n2) (.int y) σ=.ok (.int (n2 * y)) σ:=fun y σ=>ybt (by omega) (by omega);unfold f__law_mixed zc3;generalize dvn k (c / 2)=b at *;generalize ydg k=RG at *;generalize (k:Int)=K at *;cases h0:(c % 2 == 0)with
 |true=>
  cases h1:(K == 0)with
  |true=>simp[h0,rk,e,h1]
  |false=>
   cases h2:decide (0<b)with
   |true=>simp[h0,rk,e,h1,h2]
   |false=>simp[h0,rk,e,h1,h2,m0,m1,hn1,m2,hn2,m3]
 |false=>simp[h0,m0,m1,hn1,m2,hn2,m3]
def putF(F:Fs)(w:Int)(x:Option Int):Fs:=if F.any (fun p=>decide (p.1=w))then F.map fun p=>if p.1=w then (p.1,x)else p else F++[(w,x)]
theorem zve(F:Fs)(w:Int)(x:Option Int):yin (kvF F) (.inl w) (oD x)=kvF (putF F w x):=by
 have ha:((kvF F).any fun kv=>decide (kv.1=(Sum.inl w:Key)))=F.any fun p=>decide (p.1=w):=by
  unfold kvF;rw[List.any_map];congr 1;funext p;simp
 unfold yin putF;rw[ha];split
 ·unfold kvF;rw[List.map_map,List.map_map];congr 1;funext p;simp only[Function.comp];by_cases e:p.1=w
  ·simp[e]
  ·have e2:¬ (Sum.inl p.1:Key)=Sum.inl w:=fun z=>e (Sum.inl.inj z);simp[e]
 ·unfold kvF;rw[List.map_append];rfl
theorem znq(F:Fs)(w:Int)(x:Option Int):(putF F w x).length<=F.length+1:=by unfold putF;split<;>simp
theorem zog{σ:Sto}{F:Fs}(w:Int)(x:Option Int)(hl:F.length<900)(ρ:Ev):yjc ρ (oD x) (.ref σ.length) (.int w) (σ++[.dic (kvF F)])=.ok (.nx ρ) (σ++[.dic (kvF (putF F w x))]):=by
 rw[zof w (oD x) (by unfold kvF;simp;omega) ρ,zve]
theorem p12(σ:Sto):ynr (.int 10) (.int 12) σ=.ok (.int 1000000000000) σ:=ybr (by simp[ylt])
def amV(n:Int):Int:=if n % 3 == 0 then 1+n / 3 % 9 else 1+n % 1000000000000
theorem zxw(n:Int)(σ:Sto):f__law_amount [.int n] σ=.ok (.int (amV n)) σ:=by
 have p:=p12;have om:∀ σ,ynn (.int n) (.int 1000000000000) σ=.ok (.int (n % 1000000000000)) σ:=fun σ=>zuf n _ (by decide);unfold f__law_amount zb4 amV;cases h:(n % 3 == 0)<;>simp[h,p,om]
def yph(n w k:Int):Ti:=⟨n % 2,amV (n / 2),w,max 0 (k+n / 7 % 13 - 4)⟩
theorem ym5(a b:Int)(σ:Sto):yh5 [.int a,.int b] σ=.ok (.int (max a b)) σ:=by simp
theorem yef(n w k:Int)(σ:Sto):f__law_tie [.int n,.int w,.int k] σ=.ok (yph n w k).D σ:=by
 have h:=fun σ=>zxw (n / 2) σ;have m:=fun σ=>ym5 0 (k+n / 7 % 13 - 4) σ;unfold f__law_tie ze9 yph Ti.D;generalize amV (n / 2)=A at *;generalize max 0 (k+n / 7 % 13 - 4)=M at *;simp[h,m]
section
variable{α:Type}{xs:List α}{σ:Sto}{fi:Ev->M Bool}{fe:Ev->M D}
theorem ya9{nx:Src}{rest:Ev}(f:α->D)(p:α->Bool)(y:α->D)(hnx:∀ i j,nx.nx i (σ++j)=some ((xs.map f)[i]?))(step:∀ x∈xs,∀ j,fi (some (f x)::rest) (σ++j)=.ok (p x) (σ++j)/\(p x=true->fe (some (f x)::rest) (σ++j)=.ok (y x) (σ++j)))(hl:xs.length<=1000) :
  ∀ (k i:Nat) (o:Option D) (ys:List D),xs.length<k+i->i<=xs.length->ys.length<=i->
   ya7 nx σ.length (tgN 0) fi fe k i (o::rest) (σ++[.lst ys])=.ok () (σ++[.lst (ys++((xs.drop i).filter p).map y)]):=by
 intro k;induction k with
 |zero=>intro i o ys h1 h2;omega
 |succ k ih=>
  intro i o ys h1 h2 hy;unfold ya7;rw[hnx,List.getElem?_map];cases e:xs[i]? with
  |none=>
   have hi:xs.length<=i:=List.getElem?_eq_none_iff.mp e;rw[List.drop_eq_nil_of_le hi];simp
  |some d=>
   obtain⟨hi,ed⟩:=List.getElem?_eq_some_iff.mp e;have hd:xs.drop i=d::xs.drop (i+1):=by rw[<-ed];exact List.drop_eq_getElem_cons hi
   obtain⟨s1,s2⟩:=step d (by rw[<-ed];exact List.getElem_mem hi) [.lst ys];show bnd (nox (fi (some (f d)::rest))) _ _=_;rw[zx2,ybo s1,zp1];dsimp only[List.set];by_cases hp:p d=true
   ·rw[hp,if_pos rfl,zx2,ybo (s2 hp),zp1,zx2,zew (by omega),zp1,ih (i+1) (some (f d)) (ys++[y d]) (by omega) (by omega) (by simp;omega),hd,List.filter_cons,if_pos hp];simp
   ·rw[if_neg hp,ih (i+1) (some (f d)) ys (by omega) (by omega) (by omega),hd,List.filter_cons,if_neg hp]
theorem lcS{nx:Src}{ρ:Ev}{ix:List Nat}{src:Ev->M Src}(f:α->D)(p:α->Bool)(y:α->D)(hs:src ρ σ=.ok nx σ)(hnx:∀ i j,nx.nx i (σ++j)=some ((xs.map f)[i]?))(hl:xs.length<=1000)
  (step:∀ x∈xs,∀ j,fi (some (f x)::(ix.map fun i=>(ρ[i]?).getD none)) (σ++j)=.ok (p x) (σ++j)/\(p x=true->fe (some (f x)::(ix.map fun i=>(ρ[i]?).getD none)) (σ++j)=.ok (y x) (σ++j))) (hc:∀ x∈xs,cl (y x)=true) :
  yl3 (eLC src ix (tgN 0) fi fe) ρ σ=.ok (.lst ((xs.filter p).map y)) σ:=by
 show ymh σ (eLC src ix (tgN 0) fi fe ρ σ)=_;have e:eLC src ix (tgN 0) fi fe ρ σ=.ok (.ref σ.length) (σ++[.lst ((xs.filter p).map y)]):=by
  show bnd (src ρ) (lcK (tgN 0) fi fe (yfe ix ρ)) σ=_;rw[zx2,hs,zp1];show bnd (ya7 nx σ.length (tgN 0) fi fe 1001 0 (none::(ix.map fun i=>(ρ[i]?).getD none))) _ (σ++[.lst []])=_;rw[zx2,ya9 f p y hnx step hl 1001 0 none [] (by omega) (by omega) (by simp),zp1];simp
 rw[e,zry (yfm p y hc)]
end
structure Tk(ts:List Ti):Prop where
 nd:(ts.map (·.w)).Nodup
 len:ts.length<=6
 wb:∀ u∈ts,0<=u.w/\u.w<=6
noncomputable abbrev sdB:Ev->M Fl:=(yoo (yop 6 (eFn 2 f__law_mixed [] (yfa (yl2 yne (yl9 0) (eC (.int 4))) (yfa (yl9 5) yle))))
 (yoo (yop 7 (yl2 ynn (yl9 6) (yl2 oIx (eLv (yfa (eC (.int 4)) (yfa (eC (.int 7)) yle))) (yfx yh2 (yfa (yl9 4) yle)))))
 (sIf (yll (eT (yl2 oLt (yfx ynm (yfa (yl9 3) yle)) (eC (.int 6)))) (eT (yl2 oEq (yl3 (eLC (yoz (yl9 3)) [7] (tgN 0) (eT (yl2 oEq (yl2 oIx (yl9 0) (eC (.int 2))) (yl9 1))) (yl9 0))) (eLv yle)))) (yoi (yf1 zt5 (yl9 3) (yfa (eFn 3 f__law_tie [] (yfa (yl2 yne (yl9 6) (eC (.int 4))) (yfa (yl9 7) (yfa (yl9 2) yle)))) yle))) yol)))
theorem zy7(zs:List D)(σ:Sto):oEq (.lst zs) (.lst []) σ=.ok (.bl zs.isEmpty) σ:=by
 refine ybq ?_;show eqL (eqD σ 7) zs []=_;cases zs<;>simp[eqL]
theorem yak(b:Bool)(σ:Sto):yh2 [.bl b] σ=.ok (.int (if b then 1 else 0)) σ:=by cases b<;>rfl
def sdW(c:Int)(many:Bool)(i:Nat):Int:=ym8 (c / 4) i % (if many then 7 else 4)
def sdT(c k:Int)(many:Bool)(ts:List Ti)(i:Nat):List Ti:=if decide ((ts.length:Int)<6) && ((ts.filter fun u=>u.w == sdW c many i).map Ti.D).isEmpty then ts++[yph (ym8 (c / 4) i / 4) (sdW c many i) k]else ts
theorem yi7(c:Int)(many:Bool)(i:Nat):0<=sdW c many i/\sdW c many i<=6:=by
 unfold sdW;cases many<;>simp<;>omega
theorem ydt(c k:Int)(many:Bool){ts:List Ti}(h:Tk ts)(i:Nat):Tk (sdT c k many ts i):=by
 unfold sdT;split
 ·next hb=>
  rw[Bool.and_eq_true,decide_eq_true_eq]at hb;have hno:sdW c many i ∉ ts.map (·.w):=fun z=>by
   obtain⟨u,hu,e⟩:=List.mem_map.mp z;have hm:u∈ts.filter fun u=>u.w == sdW c many i:=List.mem_filter.mpr ⟨hu,by simpa using e⟩;have he:=hb.2;rw[List.isEmpty_iff,List.map_eq_nil_iff]at he;rw[he]at hm;cases hm
  refine⟨?_,?_,?_⟩
  ·rw[List.map_append,List.nodup_append];refine⟨h.nd,by simp,fun a ha b hb2 e=>?_⟩;simp at hb2;exact hno (by rw[show sdW c many i=a by rw[e,hb2];rfl];exact ha)
  ·have:=hb.1;simp;omega
  ·intro u hu;rcases List.mem_append.mp hu with z|z
   ·exact h.wb u z
   ·simp at z;subst z;exact yi7 c many i
 ·exact h
theorem zwb(c n k:Int)(many:Bool)(i:Nat)(hi:i<=8)(ts:List Ti)(h:Tk ts)(x6 x7:Option D)(σ:Sto):∃ y6 y7,
  sdB [some (.int c),some (.int n),some (.int k),some (.ref σ.length),some (.bl many),some (.int i),x6,x7] (σ++[.lst (ts.map Ti.D)])=.ok (.nx [some (.int c),some (.int n),some (.int k),some (.ref σ.length),some (.bl many),some (.int i),y6,y7]) (σ++[.lst ((sdT c k many ts i).map Ti.D)]):=by
 have mx:=fun σ=>ybk (c / 4) i (by omega) σ;have pq:∀ σ,oIx (.lst [.int 4,.int 7]) (.int (if many then 1 else 0)) σ=.ok (.int (if many then 7 else 4)) σ:=fun σ=>by
  cases many with
  |false=>exact zuc (show atI _ ((0:Nat):Int)=_ from zpt rfl)
  |true=>exact zuc (show atI _ ((1:Nat):Int)=_ from zpt rfl)
 have om:∀ σ,ynn (.int (ym8 (c / 4) i)) (.int (if many then 7 else 4)) σ=.ok (.int (sdW c many i)) σ:=fun σ=>zuf _ _ (by cases many<;>simp);unfold sdT;generalize ym8 (c / 4) i=M at *;generalize sdW c many i=W at *;have ls:yhf (σ++[Ob.lst (ts.map Ti.D)]) σ.length=some (ts.map Ti.D):=by unfold yhf;simp
 have ln:ynm [.ref σ.length] (σ++[.lst (ts.map Ti.D)])=.ok (.int ts.length) (σ++[.lst (ts.map Ti.D)]):=by
  have:yi9 (σ++[Ob.lst (ts.map Ti.D)]) (.ref σ.length)=some (ts.map Ti.D):=ls;unfold ynm;simp only[this];simp
 have l:=lcS (xs:=ts) (ix:=[7]) (nx:=.lref σ.length) (ρ:=[some (.int c),some (.int n),some (.int k),some (.ref σ.length),some (.bl many),some (.int i),some (.int M),some (.int W)]) (σ:=σ++[.lst (ts.map Ti.D)]) (src:=yoz (yl9 3)) (fi:=eT (yl2 oEq (yl2 oIx (yl9 0) (eC (.int 2))) (yl9 1))) (fe:=yl9 0) Ti.D (fun u=>u.w == W) Ti.D (by
   rw[zw2,show yl9 3 [some (.int c),some (.int n),some (.int k),some (.ref σ.length),some (.bl many),some (.int i),some (.int M),some (.int W)] (σ++[.lst (ts.map Ti.D)])=.ok (.ref σ.length) (σ++[.lst (ts.map Ti.D)])from rfl,zp1];have e:(σ++[Ob.lst (ts.map Ti.D)])[σ.length]?=some (.lst (ts.map Ti.D)):=by simp
   unfold yi8;simp only[ls]) (fun i j=>by
   show (yhf _ σ.length).map _=_;have:yhf (σ++[Ob.lst (ts.map Ti.D)]++j) σ.length=some (ts.map Ti.D):=by unfold yhf;simp
   rw[this];rfl) (by have:=h.len;omega) (fun u _ j=>by
   have i2:=fun σ=>u.i2 σ;generalize u.D=UD at *;exact⟨by simp[i2],fun _=>by simp⟩) (fun _ _=>by simp)
 have en:=fun σ=>zy7 ((ts.filter fun u=>u.w == W).map Ti.D) σ;have ti:=fun σ=>yef (M / 4) W k σ;have ap:=zew (σ:=σ) (xs:=ts.map Ti.D) (d:=(yph (M / 4) W k).D) (by have:=h.len;simp;omega);generalize hQ:(if many then (7:Int)else 4)=Q at *;unfold sdB;cases hb:decide ((ts.length:Int)<6)with
 |false=>
  rw[Bool.false_and,if_neg Bool.false_ne_true];refine⟨some (.int M),some (.int W),?_⟩;generalize (σ++[Ob.lst (ts.map Ti.D)])=σ1 at *;generalize (ts.length:Int)=N1 at *;generalize (i:Int)=I at *;simp[mx,yak,pq,om,ln,hb]
 |true=>
  rw[Bool.true_and];cases he:((ts.filter fun u=>u.w == W).map Ti.D).isEmpty with
  |false=>
   rw[he]at en;rw[if_neg Bool.false_ne_true];refine⟨some (.int M),some (.int W),?_⟩;generalize ((ts.filter fun u=>u.w == W).map Ti.D)=FL at *;generalize (σ++[Ob.lst (ts.map Ti.D)])=σ1 at *;generalize (ts.length:Int)=N1 at *;generalize (i:Int)=I at *;simp[mx,yak,pq,om,ln,hb,l,en,-zqy]
  |true=>
   rw[he]at en;rw[if_pos rfl];refine⟨some (.int M),some (.int W),?_⟩;rw[List.map_append,show [yph (M / 4) W k].map Ti.D=[(yph (M / 4) W k).D]from rfl];generalize ((ts.filter fun u=>u.w == W).map Ti.D)=FL at *;generalize (yph (M / 4) W k).D=TV at *;generalize (ts.length:Int)=N1 at *;generalize (i:Int)=I at *;generalize ts.map Ti.D=TL at *;simp[mx,yak,pq,om,ln,hb,l,en,ti,ap,-zqy]
def sdL(c k:Int)(many:Bool):Nat->Nat->List Ti->List Ti
 |0,_,ts=>ts
 |m+1,i,ts=>sdL c k many m (i+1) (sdT c k many ts i)
theorem yds(c k:Int)(many:Bool):∀ (m i:Nat) {ts:List Ti},Tk ts->Tk (sdL c k many m i ts)
 |0,_,_,h=>h
 |m+1,i,_,h=>yds c k many m (i+1) (ydt c k many h i)
theorem zwa(c n k:Int)(many:Bool)(σ:Sto):∀ (m i:Nat) (ts:List Ti) (x5 x6 x7:Option D),i+m<=9->Tk ts->∃ y5 y6 y7,
  ym2 (tgN 5) sdB ((List.range' i m).map fun(k:Nat)=>D.int k) [some (.int c),some (.int n),some (.int k),some (.ref σ.length),some (.bl many),x5,x6,x7] (σ++[.lst (ts.map Ti.D)])=.ok (.nx [some (.int c),some (.int n),some (.int k),some (.ref σ.length),some (.bl many),y5,y6,y7]) (σ++[.lst ((sdL c k many m i ts).map Ti.D)]):=by
 intro m;induction m with
 |zero=>intro i ts x5 x6 x7 _ _;exact⟨x5,x6,x7,by simp[sdL]⟩
 |succ m ih=>
  intro i ts x5 x6 x7 hi h;obtain⟨y6,y7,st⟩:=zwb c n k many i (by omega) ts h x6 x7 σ;obtain⟨z5,z6,z7,e⟩:=ih (i+1) (sdT c k many ts i) (some (.int i)) y6 y7 (by omega) (ydt c k many h i);refine⟨z5,z6,z7,?_⟩;rw[List.range'_succ,List.map_cons,zmp];simp only[List.set_cons_succ,List.set_cons_zero];rw[st,zp1,zmn,e];rfl
def sdN(c:Int):Nat:=if c / 4 % 8 == 3 then 8 else (c % 4).toNat
def stV(c n k:Int):St:=⟨n,ym8 (c / 4) 9 % 3 * (ym8 (c / 4) 9 / 3 % 1000000000000),ym8 (c / 4) 9 / 7 % 1000000000000,sdL c k (c / 4 % 8 == 3) (sdN c) 0 []⟩
theorem yd6(c n k:Int):(stV c n k).Ok:=by
 have:=yds c k (c / 4 % 8 == 3) (sdN c) 0 (ts:=[]) ⟨by simp,by simp,fun _ h=>by cases h⟩;exact⟨this.nd,this.len,this.wb⟩
theorem zox(c n k:Int)(σ:Sto):f__law_stand [.int c,.int n,.int k] σ=.ok (stV c n k).D σ:=by
 have hN:sdN c<=8:=by unfold sdN;split<;>omega
 obtain⟨y5,y6,y7,e⟩:=zwa c n k (c / 4 % 8 == 3) σ (sdN c) 0 [] none none none (by omega) ⟨by simp,by simp,fun _ h=>by cases h⟩;rw[<-zil,show (([]:List Ti).map Ti.D)=[]from rfl]at e;have rk:=fun σ=>yoe (sdN c) (by omega) σ;have ps:∀ σ,oIx (.lst [.int (c % 4),.int 8]) (.int (if (c / 4 % 8 == 3)then 1 else 0)) σ=.ok (.int (sdN c)) σ:=fun σ=>by
  unfold sdN;cases hb:(c / 4 % 8 == 3)with
  |false=>
   have:(((if false=true then 8 else (c % 4).toNat:Nat)):Int)=c % 4:=by simp;omega
   rw[this];exact zuc (show atI _ ((0:Nat):Int)=_ from zpt rfl)
  |true=>exact zuc (show atI _ ((1:Nat):Int)=_ from zpt rfl)
 have mx:∀ σ,f__law_mixed [.int (c / 4),.int 9] σ=.ok (.int (ym8 (c / 4) 9)) σ:=fun σ=>ybk (c / 4) 9 (by omega) σ;have p:=p12;have om:∀ z σ,ynn (.int z) (.int 1000000000000) σ=.ok (.int (z % 1000000000000)) σ:=fun z σ=>zuf z _ (by decide);have hM:=ztu (c / 4) 9;have mu:∀ y σ,yno (.int (ym8 (c / 4) 9 % 3)) (.int y) σ=.ok (.int (ym8 (c / 4) 9 % 3 * y)) σ:=fun y σ=>ybt (by omega) (by omega);have tu:ybw [.ref σ.length] (σ++[.lst ((sdL c k (c / 4 % 8 == 3) (sdN c) 0 []).map Ti.D)])=.ok (.tup ((sdL c k (c / 4 % 8 == 3) (sdN c) 0 []).map Ti.D)) (σ++[.lst ((sdL c k (c / 4 % 8 == 3) (sdN c) 0 []).map Ti.D)]):=by
  have:yi9 (σ++[Ob.lst ((sdL c k (c / 4 % 8 == 3) (sdN c) 0 []).map Ti.D)]) (.ref σ.length)=some ((sdL c k (c / 4 % 8 == 3) (sdN c) 0 []).map Ti.D):=by show yhf _ _=_;unfold yhf;simp
  unfold ybw;simp only[this];rfl
 have hcl:clL ((sdL c k (c / 4 % 8 == 3) (sdN c) 0 []).map Ti.D)=true:=by simp
 unfold sdB at e;unfold f__law_stand zc4 stV St.D;dsimp only;generalize hb:(c / 4 % 8 == 3)=b at *;generalize (sdL c k b (sdN c) 0 []).map Ti.D=TL at *;generalize ym8 (c / 4) 9=MX at *;generalize ydg (sdN c)=RG at *;generalize ((sdN c:Nat):Int)=N at *;have fz:∀ d,cl d=true->ymh σ (.ok d (σ++[.lst TL]))=.ok d σ:=fun d h=>zlj h;simp[yak,ps,rk,e,mx,p,om,mu,tu,hb,fz,hcl]
def ptL(c k:Int)(i m:Nat):List St:=(List.range' i m).map fun(j:Nat)=>stV (c / (4+7 * (j:Int))+77) (4+(j:Int)) k
noncomputable abbrev poB:Ev->M Fl:=(yoi (yf1 zt5 (yl9 3) (yfa (eFn 3 f__law_stand [] (yfa (yl2 yna (yl2 yne (yl9 0) (yl2 yna (eC (.int 4)) (yl2 yno (eC (.int 7)) (yl9 4)))) (eC (.int 77))) (yfa (yl2 yna (eC (.int 4)) (yl9 4)) (yfa (yl9 1) yle)))) yle)))
theorem zu2(c k kp:Int)(x2 x5 x6 x7:Option D)(σ:Sto):∀ (m i:Nat) (ys:List St) (x4:Option D),i+m<=20->ys.length<=i+1->∃ y4,
  ym2 (tgN 4) poB ((List.range' i m).map fun(k:Nat)=>D.int k) [some (.int c),some (.int k),x2,some (.ref σ.length),x4,x5,x6,x7] (σ++[.lst (ys.map St.D)])=.ok (.nx [some (.int c),some (.int k),x2,some (.ref σ.length),y4,x5,x6,x7]) (σ++[.lst ((ys++ptL c k i m).map St.D)]):=by
 intro m;induction m with
 |zero=>intro i ys x4 _ _;exact⟨x4,by simp[ptL]⟩
 |succ m ih=>
  intro i ys x4 hi hy;have ml:∀ σ,yno (.int 7) (.int (i:Int)) σ=.ok (.int (7 * (i:Int))) σ:=fun σ=>ybt (by omega) (by omega);have dv:∀ σ,yne (.int c) (.int (4+7 * (i:Int))) σ=.ok (.int (c / (4+7 * (i:Int)))) σ:=fun σ=>zt6 c _ (by omega) (by omega);have sa:=fun σ=>zox (c / (4+7 * (i:Int))+77) (4+(i:Int)) k σ;have ap:=zew (σ:=σ) (xs:=ys.map St.D) (d:=(stV (c / (4+7 * (i:Int))+77) (4+(i:Int)) k).D) (by simp;omega);obtain⟨y4,e⟩:=ih (i+1) (ys++[stV (c / (4+7 * (i:Int))+77) (4+(i:Int)) k]) (some (.int i)) (by omega) (by simp;omega);refine⟨y4,?_⟩;have st:poB [some (.int c),some (.int k),x2,some (.ref σ.length),some (.int i),x5,x6,x7] (σ++[.lst (ys.map St.D)])=.ok (.nx [some (.int c),some (.int k),x2,some (.ref σ.length),some (.int i),x5,x6,x7]) (σ++[.lst ((ys++[stV (c / (4+7 * (i:Int))+77) (4+(i:Int)) k]).map St.D)]):=by
   rw[List.map_append,show [stV (c / (4+7 * (i:Int))+77) (4+(i:Int)) k].map St.D=[(stV (c / (4+7 * (i:Int))+77) (4+(i:Int)) k).D]from rfl];unfold poB;generalize (stV (c / (4+7 * (i:Int))+77) (4+(i:Int)) k).D=SV at *;generalize (i:Int)=I at *;generalize ys.map St.D=YL at *;simp[ml,dv,sa,ap]
  rw[List.range'_succ,List.map_cons,zmp];simp only[List.set_cons_succ,List.set_cons_zero];rw[st,zp1,zmn,e];unfold ptL;rw[List.range'_succ];simp
def snT(P k:Int)(l:List (Int × Int))(i:Nat):List (Int × Int):=if P / (1+11 * (i:Int)) % 5 == 0 then ynz l i (max 0 (k - P / 3 % 6))else l
def snL(P k:Int):Nat->Nat->List (Int × Int)->List (Int × Int)
 |0,_,l=>l
 |m+1,i,l=>snL P k m (i+1) (snT P k l i)
noncomputable abbrev snB:Ev->M Fl:=(sIf (eT (yl2 oEq (yl2 ynn (yl2 yne (yl9 6) (yl2 yna (eC (.int 1)) (yl2 yno (eC (.int 11)) (yl9 7)))) (eC (.int 5))) (eC (.int 0)))) (yi4 (yfx yh5 (yfa (eC (.int 0)) (yfa (yl2 ynt (yl9 1) (yl2 ynn (yl2 yne (yl9 6) (eC (.int 3))) (eC (.int 6)))) yle))) (yl9 5) (yl9 7)) yol)
theorem zwl(P k:Int)(x0 x2 x3 x4:Option D)(σ:Sto):∀ (m i:Nat) (l:List (Int × Int)) (x7:Option D),i+m<=20->l.length<=i->∃ y7,
  ym2 (tgN 7) snB ((List.range' i m).map fun(k:Nat)=>D.int k) [x0,some (.int k),x2,x3,x4,some (.ref σ.length),some (.int P),x7] (σ++[.dic (kvI l)])=.ok (.nx [x0,some (.int k),x2,x3,x4,some (.ref σ.length),some (.int P),y7]) (σ++[.dic (kvI (snL P k m i l))]):=by
 intro m;induction m with
 |zero=>intro i l x7 _ _;exact⟨x7,by simp[snL]⟩
 |succ m ih=>
  intro i l x7 hi hl;have ml:∀ σ,yno (.int 11) (.int (i:Int)) σ=.ok (.int (11 * (i:Int))) σ:=fun σ=>ybt (by omega) (by omega);have dv:∀ σ,yne (.int P) (.int (1+11 * (i:Int))) σ=.ok (.int (P / (1+11 * (i:Int)))) σ:=fun σ=>zt6 P _ (by omega) (by omega);have hsl:(snT P k l i).length<=i+1:=by
   unfold snT;split
   ·have:=zns l i (max 0 (k - P / 3 % 6));omega
   ·omega
  obtain⟨y7,e⟩:=ih (i+1) (snT P k l i) (some (.int i)) (by omega) (by omega);refine⟨y7,?_⟩;have st:snB [x0,some (.int k),x2,x3,x4,some (.ref σ.length),some (.int P),some (.int i)] (σ++[.dic (kvI l)])=.ok (.nx [x0,some (.int k),x2,x3,x4,some (.ref σ.length),some (.int P),some (.int i)]) (σ++[.dic (kvI (snT P k l i))]):=by
   have sd:=fun ρ=>zof (σ:=σ) (kvs:=kvI l) (i:Int) (.int (max 0 (k - P / 3 % 6))) (by unfold kvI;simp;omega) ρ;rw[zij]at sd;have mm:=fun σ=>ym5 0 (k - P / 3 % 6) σ;unfold snB snT;cases hb:(P / (1+11 * (i:Int)) % 5 == 0)with
   |false=>
    rw[if_neg Bool.false_ne_true];generalize (σ++[Ob.dic (kvI l)])=σ1 at *;generalize (i:Int)=I at *;simp[ml,dv,hb]
   |true=>
    rw[if_pos rfl];generalize (σ++[Ob.dic (kvI (ynz l (i:Int) (max 0 (k - P / 3 % 6))))])=σ2 at *;generalize (σ++[Ob.dic (kvI l)])=σ1 at *;generalize max 0 (k - P / 3 % 6)=MV at *;generalize (i:Int)=I at *;generalize σ.length=N0 at *;simp[ml,dv,hb,mm,sd]
  rw[List.range'_succ,List.map_cons,zmp];simp only[List.set_cons_succ,List.set_cons_zero];rw[st,zp1,zmn,e];rfl
theorem zrz{σ:Sto}{a:D}{zs:List D}{l:List (Int × Int)}(ha:cl a=true)(hz:clL zs=true):ymh σ (.ok (.tup [a,.ref σ.length,.ref (σ.length+1)]) (σ++[.lst zs]++[.dic (kvI l)]))=.ok (.tup [a,.lst zs,shD l]) σ:=by
 have e0:(σ++[Ob.lst zs]++[Ob.dic (kvI l)])[σ.length]?=some (.lst zs):=by simp
 have e1:(σ++[Ob.lst zs]++[Ob.dic (kvI l)])[σ.length+1]?=some (.dic (kvI l)):=by
  rw[List.getElem?_append_right (by simp)];simp
 have hzL:∀ (k m:Nat) (σ':Sto) (xs:List D),clL xs=true->fzL (fz k σ' m) xs=some xs:=by
  intro k m σ' xs;induction xs with
  |nil=>intro _;rfl
  |cons x xs ih=>
   intro hc;have hc':cl x=true/\clL xs=true:=by simpa [clL,Bool.and_eq_true]using hc
   unfold fzL;rw[ygp hc'.1,ih hc'.2]
 have hl2:clL ((kvI l).map (·.2))=true:=by unfold kvI;rw[List.map_map];exact zqf fun _=>by simp
 have r0:fz σ.length (σ++[Ob.lst zs]++[Ob.dic (kvI l)]) 5 (.ref σ.length)=some (.lst zs):=by
  unfold fz;rw[if_neg (by simp[cl])];dsimp only;rw[if_neg (Nat.lt_irrefl _),e0];dsimp only;rw[hzL _ _ _ _ hz];rfl
 have r1:fz σ.length (σ++[Ob.lst zs]++[Ob.dic (kvI l)]) 5 (.ref (σ.length+1))=some (shD l):=by
  unfold fz;rw[if_neg (by simp[cl])];dsimp only;rw[if_neg (by omega),e1];dsimp only;rw[hzL _ _ _ _ hl2];unfold shD kvI;rw[List.map_map,List.map_map];rfl
 have ht:fz σ.length (σ++[Ob.lst zs]++[Ob.dic (kvI l)]) 6 (.tup [a,.ref σ.length,.ref (σ.length+1)])=some (.tup [a,.lst zs,shD l]):=by
  unfold fz;rw[if_neg (by simp[cl,clL,ha])];dsimp only;unfold fzL;rw[ygp ha];unfold fzL;rw[r0];unfold fzL;rw[r1];rfl
 unfold ymh;dsimp only;rw[if_pos (by simp),ht]
def poN(c kp:Int):Nat:=(if c % 4 == 1 then 1 else if c % 4 == 3 then 2 else 0)+7 * (if (kp == 0) && (c / 4 % 16 == 5)then 1 else 0)
def ynx(c k kp:Int):Po:=⟨ym8 c 5 % 2,stV (c / 4) 3 k::ptL c k 0 (poN c kp),snL (ym8 c 5) k 7 0 []⟩
theorem yc2(c k kp:Int)(σ:Sto):f__law_pot [.int c,.int k,.int kp] σ=.ok (ynx c k kp).D σ:=by
 have hN:poN c kp<=9:=by unfold poN;split<;>split<;>(try split)<;>omega
 have s0:=fun σ=>zox (c / 4) 3 k σ;obtain⟨y4,e1⟩:=zu2 c k kp (some (.int kp)) none none none σ (poN c kp) 0 [stV (c / 4) 3 k] none (by omega) (by simp);rw[<-zil,show [stV (c / 4) 3 k].map St.D=[(stV (c / 4) 3 k).D]from rfl,show [stV (c / 4) 3 k]++ptL c k 0 (poN c kp)=stV (c / 4) 3 k::ptL c k 0 (poN c kp)from rfl]at e1;obtain⟨y7,e2⟩:=zwl (ym8 c 5) k (some (.int c)) (some (.int kp)) (some (.ref σ.length)) y4 (σ++[.lst ((stV (c / 4) 3 k::ptL c k 0 (poN c kp)).map St.D)]) 7 0 [] none (by omega) (by simp);rw[<-zil,show kvI []=[]from rfl]at e2;have hlen:(σ++[Ob.lst ((stV (c / 4) 3 k::ptL c k 0 (poN c kp)).map St.D)]).length=σ.length+1:=by simp
 rw[hlen]at e2;have rk:=fun σ=>yoe (poN c kp) (by omega) σ;have rk7:=fun σ=>yoe 7 (by omega) σ;have mx:∀ σ,f__law_mixed [.int c,.int 5] σ=.ok (.int (ym8 c 5)) σ:=fun σ=>ybk c 5 (by omega) σ;have p4:∀ σ,oIx (.lst [.int 0,.int 1,.int 0,.int 2]) (.int (c % 4)) σ=.ok (.int (if c % 4 == 1 then 1 else if c % 4 == 3 then 2 else 0)) σ:=fun σ=>by
  have h:c % 4=0\/c % 4=1\/c % 4=2\/c % 4=3:=by omega
  rcases h with h|h|h|h<;>rw[h]
  ·exact zuc (show atI _ ((0:Nat):Int)=_ from zpt rfl)
  ·exact zuc (show atI _ ((1:Nat):Int)=_ from zpt rfl)
  ·exact zuc (show atI _ ((2:Nat):Int)=_ from zpt rfl)
  ·exact zuc (show atI _ ((3:Nat):Int)=_ from zpt rfl)
 have pn:(if c % 4 == 1 then (1:Int)else if c % 4 == 3 then 2 else 0)+7 * (if ((kp == 0) && (c / 4 % 16 == 5))=true then (1:Int)else 0)=(poN c kp:Int):=by
  unfold poN;split<;>split<;>(try split)<;>simp
 have m7:∀ b:Bool,∀ σ,yno (.int 7) (.int (if b then 1 else 0)) σ=.ok (.int (7 * (if b then 1 else 0))) σ:=fun b σ=>ybt (by omega) (by omega);have an:∀ (x y:Bool),True:=fun _ _=>trivial;have hcl:clL ((stV (c / 4) 3 k::ptL c k 0 (poN c kp)).map St.D)=true:=zqf fun _=>by simp
 have fz:=zrz (σ:=σ) (a:=.int (ym8 c 5 % 2)) (zs:=(stV (c / 4) 3 k::ptL c k 0 (poN c kp)).map St.D) (l:=snL (ym8 c 5) k 7 0 []) (by simp) hcl;unfold poB at e1;unfold snB at e2;unfold f__law_pot ze8 ynx Po.D;dsimp only;generalize (stV (c / 4) 3 k::ptL c k 0 (poN c kp)).map St.D=SL at *;generalize (stV (c / 4) 3 k).D=S0 at *;generalize kvI (snL (ym8 c 5) k 7 0 [])=KV at *;generalize shD (snL (ym8 c 5) k 7 0 [])=SN at *;generalize ym8 c 5=MX at *;generalize ydg (poN c kp)=RG at *;generalize ydg 7=RG7 at *;generalize (if c % 4 == 1 then (1:Int)else if c % 4 == 3 then 2 else 0)=Q4 at *;generalize ((poN c kp:Nat):Int)=N at *;have rk7':∀ σ,yod (.int 7) σ=.ok (.seq RG7) σ:=rk7;generalize hb1:(kp == 0)=b1 at *;generalize hb2:(c / 4 % 16 == 5)=b2 at *;have m70:∀ σ,yno (.int 7) (.int 0) σ=.ok (.int (7 * 0)) σ:=fun σ=>ybt (by omega) (by omega);have m71:∀ σ,yno (.int 7) (.int 1) σ=.ok (.int (7 * 1)) σ:=fun σ=>ybt (by omega) (by omega);simp only[List.append_assoc,List.cons_append,List.nil_append]at e2 fz;have lk:ym4 [S0] σ=.ok (.ref σ.length) (σ++[.lst [S0]]):=rfl;cases b1<;>cases b2<;>simp at pn<;>simp[lk,s0,p4,hb1,hb2,yam,yal,m70,m71,pn,rk,e1,mx,rk7',e2,fz]
theorem zu9(c k kp:Int):((ynx c k kp).s=0\/(ynx c k kp).s=1)/\(∀ t∈(ynx c k kp).st,t.Ok)/\1<=(ynx c k kp).st.length/\(ynx c k kp).st.length<=20:=by
 have hN:poN c kp<=9:=by unfold poN;split<;>split<;>(try split)<;>omega
 refine⟨?_,?_,?_,?_⟩
 ·show ym8 c 5 % 2=0\/ym8 c 5 % 2=1;omega
 ·intro t ht;rcases List.mem_cons.mp ht with rfl|h
  ·exact yd6 ..
  ·unfold ptL at h;obtain⟨j,_,rfl⟩:=List.mem_map.mp h;exact yd6 ..
 ·show 1<=(_::_:List St).length;simp
 ·show (_::ptL c k 0 (poN c kp):List St).length<=20;unfold ptL;simp;omega
def vwV(ns:List Int):Vw:=⟨1+yfk ns 0 % 6,4+yfk ns 0 / 6 % 60,((List.range 7).filter fun k=>ym8 (yfk ns 1) k % 3 == 0).map fun(k:Nat)=>(k:Int),(List.range (yfk ns 1 % 4).toNat).map fun(k:Nat)=>ynx (yfk ns (2+k)) (4+yfk ns 0 / 6 % 60) k⟩
theorem yeq(ns:List Int):(vwV ns).Ok:=by
 refine⟨?_,?_,?_,?_⟩
 ·show ((List.range (yfk ns 1 % 4).toNat).map _).length<=3;simp;omega
 all_goals
  intro p hp;obtain⟨j,_,rfl⟩:=List.mem_map.mp hp
 ·exact(zu9 ..).1
 ·exact(zu9 ..).2.1
 ·exact(zu9 ..).2.2
theorem zxi(ns:List Int)(σ:Sto):f__law_view [.scr ns] σ=.ok (vwV ns).D σ:=by
 have c0:∀ σ,f__law_cell_at [.scr ns,.int 0] σ=.ok (.int (yfk ns 0)) σ:=fun σ=>zqa ns 0 (by omega) σ;have c1:∀ σ,f__law_cell_at [.scr ns,.int 1] σ=.ok (.int (yfk ns 1)) σ:=fun σ=>zqa ns 1 (by omega) σ;have r7:∀ σ,yod (.int 7) σ=.ok (.seq (ydg 7)) σ:=fun σ=>yoe 7 (by omega) σ;have l1:=fun x1 x2=>lcA (xs:=List.range 7) (ix:=[0]) (ρ:=[some (.scr ns),some x1,some x2,none,none]) (σ:=σ) (src:=yoy (eC (.int 7))) (fi:=eT (yl2 oEq (yl2 ynn (eFn 2 f__law_mixed [] (yfa (eFn 2 f__law_cell_at [] (yfa (yl9 1) (yfa (eC (.int 1)) yle))) (yfa (yl9 0) yle))) (eC (.int 3))) (eC (.int 0)))) (fe:=yl9 0)
  (fun(k:Nat)=>D.int (k:Int)) (fun k=>ym8 (yfk ns 1) k % 3 == 0) (fun(k:Nat)=>D.int (k:Int)) (by simp[r7,ydg]) (by simp) (fun k hk j=>by
   have mx:=fun σ=>ybk (yfk ns 1) k (by have:=List.mem_range.mp hk;omega) σ;generalize ym8 (yfk ns 1) k=MX at *;generalize (k:Int)=K at *;generalize σ++j=σ1;exact⟨by simp[c1,mx],fun _=>by simp⟩) (fun _ _=>by simp)
 have hr:((yfk ns 1 % 4).toNat:Int)=yfk ns 1 % 4:=by omega
 have rn:∀ σ,yod (.int (yfk ns 1 % 4)) σ=.ok (.seq (ydg (yfk ns 1 % 4).toNat)) σ:=fun σ=>by
  have:=yoe (yfk ns 1 % 4).toNat (by omega) σ
  rwa [hr]at this
 have l2:=fun x1 x3=>ym0 (xs:=List.range (yfk ns 1 % 4).toNat) (ix:=[2,0]) (ρ:=[some (.scr ns),some x1,some (.int (4+yfk ns 0 / 6 % 60)),some x3,none]) (σ:=σ) (src:=yoy (yl2 ynn (eFn 2 f__law_cell_at [] (yfa (yl9 0) (yfa (eC (.int 1)) yle))) (eC (.int 4)))) (fe:=eFn 3 f__law_pot [] (yfa (eFn 2 f__law_cell_at [] (yfa (yl9 2) (yfa (yl2 yna (eC (.int 2)) (yl9 0)) yle))) (yfa (yl9 1) (yfa (yl9 0) yle))))
  (fun(k:Nat)=>D.int (k:Int)) (fun(k:Nat)=>(ynx (yfk ns (2+k)) (4+yfk ns 0 / 6 % 60) k).D) (by simp[c1,rn,ydg]) (by simp;omega) (fun k hk j=>by
   have ck:∀ σ,f__law_cell_at [.scr ns,.int (2+(k:Int))] σ=.ok (.int (yfk ns (2+k))) σ:=fun σ=>by
    have:=zqa ns (2+(k:Int)) (by omega) σ
    rwa [show (2+(k:Int)).toNat=2+k by omega]at this
   have pk:=fun σ=>yc2 (yfk ns (2+k)) (4+yfk ns 0 / 6 % 60) k σ;generalize (ynx (yfk ns (2+k)) (4+yfk ns 0 / 6 % 60) k).D=PD at *;generalize yfk ns (2+k)=CK at *;generalize (k:Int)=K at *;generalize 4+yfk ns 0 / 6 % 60=V4 at *;generalize σ++j=σ1;simp[ck,pk]) (fun _ _=>by simp)
 have e1:(vwV ns).ws.map D.int=((List.range 7).filter fun k=>ym8 (yfk ns 1) k % 3 == 0).map fun(k:Nat)=>D.int (k:Int):=by
  unfold vwV;rw[List.map_map];rfl
 have e2:(vwV ns).ps.map Po.D=(List.range (yfk ns 1 % 4).toNat).map fun(k:Nat)=>(ynx (yfk ns (2+k)) (4+yfk ns 0 / 6 % 60) k).D:=by
  unfold vwV;rw[List.map_map];rfl
 have h1:clL ((vwV ns).ws.map D.int)=true:=zqf fun _=>by simp
 have h2:clL ((vwV ns).ps.map Po.D)=true:=zqf fun _=>by simp
 unfold Vw.D;rw[show (vwV ns).e=1+yfk ns 0 % 6 from rfl,show (vwV ns).k=4+yfk ns 0 / 6 % 60 from rfl];rw[<-e1]at l1;rw[<-e2]at l2;unfold f__law_view zd2;generalize (vwV ns).ws.map D.int=WS at *;generalize (vwV ns).ps.map Po.D=PS at *;generalize yfk ns 0=C0 at *;generalize yfk ns 1=C1 at *;have fz:∀ d,cl d=true->ymh σ (.ok d σ)=.ok d σ:=fun d h=>zrx h (List.take_length ..);simp[c0,l1,l2,h1,h2,fz,-zqy]
theorem zpd(v:Vw)(h:v.Ok)(σ:Sto):f_View___init__ [.ref σ.length,.int v.e,.int v.k,.lst (v.ws.map D.int),.lst (v.ps.map Po.D)] (σ++[.ins 0 []])=.ok .non (σ++[.ins 0 [("every",.int v.e),("last_look",.int v.k),("known",.lst (v.ws.map D.int)),("pots",.lst (v.ps.map Po.D))]]):=by
 have e:=fun(f:Str) (w:D) (fs:List (Str × D)) (hl:fs.length<1000)=>zik (ρ:=[some (.ref σ.length),some (.int v.e),some (.int v.k),some (.lst (v.ws.map D.int)),some (.lst (v.ps.map Po.D))]) (σ:=σ) (cs:=[0]) (f:=f) (d:=w) (c:=0) (fs:=fs) rfl hl;have fl:∀ (xs:List D) (σ:Sto),clL xs=true->ymh σ (yh4 [.lst xs] σ)=.ok (.lst xs) σ:=fun xs σ h=>by
  rw[show yh4 [.lst xs] σ=.ok (.ref σ.length) (σ++[.lst xs])from nr rfl];exact zry h
 have hw:clL (v.ws.map D.int)=true:=zqf fun _=>by simp
 have l:=fun σ=>ym0 (xs:=v.ps) (ix:=[]) (ρ:=[some (.ref σ.length),some (.int v.e),some (.int v.k),some (.lst (v.ws.map D.int)),some (.lst (v.ps.map Po.D))]) (σ:=σ++[.ins 0 [("every",.int v.e),("last_look",.int v.k),("known",.lst (v.ws.map D.int))]]) (src:=yoz (yl9 4)) (fe:=yl8 (yfa (yl2 oIx (yl9 0) (eC (.int 0))) (yfa (yl3 (yfx yh4 (yfa (yl2 oIx (yl9 0) (eC (.int 1))) yle))) (yfa (yfx ynd (yfa (yl2 oIx (yl9 0) (eC (.int 2))) yle)) yle))))
  Po.D Po.D (by simp[yi8]) (by have:=h.n3;omega) (fun p hp j=>by
   have i0:=fun σ=>p.i0 σ;have i1:=fun σ=>p.i1 σ;have i2:=fun σ=>p.i2 σ;have dc:=fun σ=>zym p.sn σ;have hs:clL (p.st.map St.D)=true:=zqf fun _=>by simp
   have ed:p.D=.tup [.int p.s,.lst (p.st.map St.D),shD p.sn]:=rfl;have f1:=fun σ=>fl (p.st.map St.D) σ hs;rw[ed];rw[ed]at i0 i1 i2;generalize p.st.map St.D=SL at *;generalize shD p.sn=SN at *;generalize σ++[_]++j=σ1;generalize hT:D.tup [.int p.s,.lst SL,SN]=T at *;simp[i0,i1,i2,dc,f1];exact hT) (fun _ _=>by simp)
 have p1:yny "every" (.int v.e) ([]:List (Str × D))=([("every",.int v.e)]:List (Str × D)):=rfl;have p2:∀ a b:D,yny "last_look" b ([("every",a)]:List (Str × D))=([("every",a),("last_look",b)]:List (Str × D)):=fun _ _=>rfl;have p3:∀ a b c:D,yny "known" c ([("every",a),("last_look",b)]:List (Str × D))=([("every",a),("last_look",b),("known",c)]:List (Str × D)):=fun _ _ _=>rfl;have p4:∀ a b c d:D,yny "pots" d ([("every",a),("last_look",b),("known",c)]:List (Str × D))=([("every",a),("last_look",b),("known",c),("pots",d)]:List (Str × D)):=fun _ _ _ _=>rfl;unfold f_View___init__ zas;have l':=l σ;have f2:=fun σ=>fl (v.ws.map D.int) σ hw;generalize v.ps.map Po.D=PS at *;generalize v.ws.map D.int=WS at *;generalize D.int v.e=E at *;generalize D.int v.k=K at *;have g1:∀ ρ σ,yl3 (yfx yh4 (yfa (yl9 3) yle)) ρ σ=ymh σ (yfx yh4 (yfa (yl9 3) yle) ρ σ):=fun _ _=>rfl;simp[e,p1,p2,p3,p4,f2,l',g1,-zqy]
theorem zpe(v:Vw)(h:v.Ok)(σ:Sto):ymh σ (yhl 0 5 f_View___init__ [.int v.e,.int v.k,.lst (v.ws.map D.int),.lst (v.ps.map Po.D)] σ)=.ok v.O σ:=by
 have hw:clL (v.ws.map D.int)=true:=zqf fun _=>by simp
 have hp:clL (v.ps.map Po.D)=true:=zqf fun _=>by simp
 rw[zmq (n:=5) rfl,zpd v h,zm0,zlk (by simp[hw,hp])];rfl
def cO(c:List Int):Ob:=.lst (c.map D.int)
def fO(F:Fs):Ob:=.dic (kvF F)
def LsI(σ:Sto)(d:D)(cs:List Int):Prop:=∀ j,ym3 (σ++j) d=some (cs.map D.int)
def DcI(σ:Sto)(d:D)(F:Fs):Prop:=∀ j,yl0 (σ++j) d=some (kvF F)
theorem LsI.now{σ:Sto}{d:D}{cs:List Int}(h:LsI σ d cs):ym3 σ d=some (cs.map D.int):=by have:=h [];rwa [List.append_nil]at this
theorem DcI.now{σ:Sto}{d:D}{F:Fs}(h:DcI σ d F):yl0 σ d=some (kvF F):=by have:=h [];rwa [List.append_nil]at this
theorem LsI.lst(σ:Sto)(cs:List Int):LsI σ (.lst (cs.map D.int)) cs:=fun _=>rfl
theorem DcI.dic(σ:Sto)(F:Fs):DcI σ (fD F) F:=fun _=>zqo F _
theorem LsI.at{σ:Sto}{n:Nat}{cs:List Int}(h:σ[n]?=some (cO cs)):LsI σ (.ref n) cs:=fun j=>by
 show yhf _ _=_;unfold yhf;rw[List.getElem?_append_left (List.getElem?_eq_some_iff.mp h).1,h];rfl
theorem DcI.at{σ:Sto}{n:Nat}{F:Fs}(h:σ[n]?=some (fO F)):DcI σ (.ref n) F:=fun j=>by
 unfold yl0;dsimp only;rw[List.getElem?_append_left (List.getElem?_eq_some_iff.mp h).1,h];rfl
theorem ybg{σ:Sto}{d:D}{xs:List D}(h:ym3 σ d=some xs):yi9 σ d=some xs:=by
 cases d with
 |ref n=>exact h
 |lst ys=>exact h
 |_=>cases h
theorem LsI.len{σ:Sto}{d:D}{cs:List Int}(h:LsI σ d cs)(j:Sto):ynm [d] (σ++j)=.ok (.int cs.length) (σ++j):=by
 unfold ynm;simp only[ybg (h j),List.length_map]
theorem DcI.len{σ:Sto}{d:D}{F:Fs}(h:DcI σ d F)(j:Sto):yh3 [d] (σ++j)=.ok (.int F.length) (σ++j):=by
 unfold yh3;simp only[h j];unfold kvF;simp
theorem DcI.in{σ:Sto}{d:D}{F:Fs}(h:DcI σ d F)(w:Int)(j:Sto):ync (.int w) d (σ++j)=.ok (.bl (ymi F w).isSome) (σ++j):=by
 unfold ync;simp only[ymx,h j,zk7];cases ymi F w<;>rfl
theorem DcI.get{σ:Sto}{d:D}{F:Fs}(h:DcI σ d F){w:Int}{x:Option Int}(hv:ymi F w=some x)(j:Sto):yhw d (.int w) (σ++j)=.ok (oD x) (σ++j):=by
 unfold yhw;simp only[ymx,h j,zk7,hv];rfl
section
variable{α:Type}{xs:List α}{σ:Sto}{ρ:Ev}{ix:List Nat}{fi:Ev->M Bool}{fe:Ev->M D}
def yku(σ:Sto)(nx:NX)(xs:List α)(f g:α->D):Prop:=∀ i j,nx i (σ++j)=match xs[i]? with
 |some x=>some (some (.tup [f x,g x]))
 |none=>if i=xs.length then some none else none
theorem yba{nx:NX}{rest:Ev}(f g:α->D)(p:α->Bool)(y:α->D)(hn:yku σ nx xs f g)(step:∀ x∈xs,∀ j,fi (some (f x)::some (g x)::rest) (σ++j)=.ok (p x) (σ++j)/\(p x=true->fe (some (f x)::some (g x)::rest) (σ++j)=.ok (y x) (σ++j)))(hl:xs.length<=1000) :
  ∀ (k i:Nat) (o o':Option D) (ys:List D),xs.length<k+i->i<=xs.length->ys.length<=i->
   ztd nx σ.length (tgT 2 (yed (tgN 0) (yed (tgN 1) yj2))) fi fe k i (o::o'::rest) (σ++[.lst ys])=.ok () (σ++[.lst (ys++((xs.drop i).filter p).map y)]):=by
 intro k;induction k with
 |zero=>intro i o o' ys h1 h2;omega
 |succ k ih=>
  intro i o o' ys h1 h2 hy;unfold ztd;rw[hn];cases e:xs[i]? with
  |none=>
   have hi:xs.length<=i:=List.getElem?_eq_none_iff.mp e;have hi2:i=xs.length:=by omega
   dsimp only;rw[if_pos hi2,List.drop_eq_nil_of_le hi];simp
  |some d=>
   obtain⟨hi,ed⟩:=List.getElem?_eq_some_iff.mp e;have hd:xs.drop i=d::xs.drop (i+1):=by rw[<-ed];exact List.drop_eq_getElem_cons hi
   obtain⟨s1,s2⟩:=step d (by rw[<-ed];exact List.getElem_mem hi) [.lst ys];show bnd (nox (fi (some (f d)::some (g d)::rest))) _ _=_;rw[zx2,ybo s1,zp1];by_cases hp:p d=true
   ·rw[hp,if_pos rfl];show bnd (nox (fe (some (f d)::some (g d)::rest))) _ _=_;rw[zx2,ybo (s2 hp),zp1,zx2,zew (by omega),zp1];show ztd _ _ _ _ _ k (i+1) (some (f d)::some (g d)::rest) _=_;rw[ih (i+1) (some (f d)) (some (g d)) (ys++[y d]) (by omega) (by omega) (by simp;omega),hd,List.filter_cons,if_pos hp];simp
   ·rw[if_neg hp];show ztd _ _ _ _ _ k (i+1) (some (f d)::some (g d)::rest) _=_;rw[ih (i+1) (some (f d)) (some (g d)) ys (by omega) (by omega) (by omega),hd,List.filter_cons,if_neg hp]
theorem lcX{src:Ev->M NX}{nx:NX}(f g:α->D)(y:α->D)(hs:src ρ σ=.ok nx σ)(hn:yku σ nx xs f g)(hl:xs.length<=1000)
  (step:∀ x∈xs,∀ j,fe (some (f x)::some (g x)::(ix.map fun i=>(ρ[i]?).getD none)) (σ++j)=.ok (y x) (σ++j)) (hc:∀ x∈xs,cl (y x)=true) :
  yl3 (yl5 src ix (tgT 2 (yed (tgN 0) (yed (tgN 1) yj2))) yfd fe) ρ σ=.ok (.lst (xs.map y)) σ:=by
 show ymh σ (yl5 src ix (tgT 2 (yed (tgN 0) (yed (tgN 1) yj2))) yfd fe ρ σ)=_;have ft:xs.filter (fun _=>true)=xs:=List.filter_eq_self.mpr fun _ _=>rfl;have e:yl5 src ix (tgT 2 (yed (tgN 0) (yed (tgN 1) yj2))) yfd fe ρ σ=.ok (.ref σ.length) (σ++[.lst (xs.map y)]):=by
  show bnd (src ρ) (ym1 _ yfd fe (zx0 ix ρ)) σ=_;rw[zx2,hs,zp1];show bnd (ztd nx σ.length _ yfd fe 1001 0 (none::none::(ix.map fun i=>(ρ[i]?).getD none))) _ (σ++[.lst []])=_;rw[zx2,yba f g (fun _=>true) y hn (fun d hd j=>⟨rfl,fun _=>step d hd j⟩) hl 1001 0 none none [] (by omega) (by omega) (by simp),zp1];simp[ft]
 rw[e];have:=yfm (xs:=xs) (fun _=>true) y hc;rw[ft]at this;exact zry this
theorem zt4(xs:List α)(ys:List Int)(f:α->D){CL:D}(hC:LsI σ CL ys):yku σ (nxZ (.lst (xs.map f)) CL) (xs.zip ys) (fun p=>f p.1) (fun p=>D.int p.2):=fun i j=>by
 unfold nxZ;have h1:ym3 (σ++j) (.lst (xs.map f))=some (xs.map f):=rfl;have h2:=hC j;simp only[h1,h2,List.getElem?_map,List.length_map,List.length_zip];cases e1:xs[i]? with
 |none=>
  have:(xs.zip ys)[i]?=none:=by
   rw[List.getElem?_eq_none_iff]at e1 ⊢;rw[List.length_zip];omega
  rw[this];rfl
 |some a=>
  cases e2:ys[i]? with
  |none=>
   have:(xs.zip ys)[i]?=none:=by
    rw[List.getElem?_eq_none_iff]at e2 ⊢;rw[List.length_zip];omega
   rw[this];rfl
  |some b=>
   have:(xs.zip ys)[i]?=some (a,b):=by
    rw[List.getElem?_zip_eq_some];exact⟨e1,e2⟩
   rw[this];rfl
theorem yd5{i j:Nat}{CL:D}{xs:List D}{ys:List Int}(h1:yl9 i ρ σ=.ok (.lst xs) σ)(h2:yl9 j ρ σ=.ok CL σ)(hC:LsI σ CL ys):yo0 (yl9 i) (yl9 j) ρ σ=.ok (nxZ (.lst xs) CL) σ:=by
 have a:ym3 σ (.lst xs)=some xs:=rfl;have b:=hC.now;unfold yo0;rw[zx2,h1,zp1];unfold yke;rw[zx2,h2,zp1];unfold ykf;simp only[a,b]
end
theorem zu1(v:Vw)(cs:List Int)(h3:v.ps.length<=3)(σ:Sto){CL:D}(hC:LsI σ CL cs):f_tells_places [.lst (v.ps.map (rdL v)),CL] σ=.ok (.bl (((cs.length:Int) == (v.ps.length:Int)) && plB v.ps cs)) σ:=by
 have l:=lcX (xs:=v.ps.zip cs) (ix:=[]) (ρ:=[some (.lst (v.ps.map (rdL v))),some (CL)]) (σ:=σ) (fe:=eFn 3 f_is_between [] (yfa (yl9 1) (yfa (eC (.int 0)) (yfa (yl2 ynt (yfx ynm (yfa (yl9 0) yle)) (eC (.int 1))) yle)))) (fun q=>rdL v q.1) (fun q=>.int q.2) (fun q=>.bl (decide (0<=q.2) && decide (q.2<=(q.1.st.length:Int) - 1)))
  (yd5 (i:=0) (j:=1) (by simp) (by simp) hC) (zt4 v.ps cs (rdL v) hC) (by have:=zxo v.ps cs;omega) (fun q _ j=>by
   have hl:∀ σ,ynm [rdL v q.1] σ=.ok (.int q.1.st.length) σ:=fun σ=>by unfold rdL;simp
   generalize rdL v q.1=R at *;generalize (q.1.st.length:Int)=N at *;simp[hl,zp5]) (fun _ _=>by simp)
 have e1:((v.ps.zip cs).map fun q=>D.bl (decide (0<=q.2) && decide (q.2<=(q.1.st.length:Int) - 1)))=((v.ps.zip cs).map fun q=>(decide (0<=q.2) && decide (q.2<=(q.1.st.length:Int) - 1))).map D.bl:=by rw[List.map_map];rfl
 have ab:=zpm ((v.ps.zip cs).map fun q=>(decide (0<=q.2) && decide (q.2<=(q.1.st.length:Int) - 1))) σ;rw[<-e1]at ab;rw[show ((v.ps.zip cs).map fun q=>(decide (0<=q.2) && decide (q.2<=(q.1.st.length:Int) - 1))).all id=plB v.ps cs by unfold plB;rw[List.all_map];rfl]at ab;have l1:∀ σ,ynm [.lst (v.ps.map (rdL v))] σ=.ok (.int v.ps.length) σ:=fun σ=>by simp
 have l2:ynm [CL] σ=.ok (.int cs.length) σ:=by have:=hC.len [];rwa [List.append_nil]at this
 unfold f_tells_places zbe;generalize hb:((cs.length:Int) == (v.ps.length:Int))=b at *;generalize ((v.ps.zip cs).map fun q=>D.bl (decide (0<=q.2) && decide (q.2<=(q.1.st.length:Int) - 1)))=BL at *;generalize D.lst (v.ps.map (rdL v))=RL at *;generalize (cs.length:Int)=N1 at *;generalize (v.ps.length:Int)=N2 at *;generalize plB v.ps cs=pb at *;cases b<;>simp[l,ab,l1,l2,hb,-zqy]
theorem zqd(v:Vw)(cs:List Int)(h3:v.ps.length<=3)(hp:plB v.ps cs=true)(σ:Sto){CL:D}(hC:LsI σ CL cs):f_chosen_readings [.lst (v.ps.map (rdL v)),CL] σ=.ok (.lst ((chS v.ps cs).map fun q=>rdD v q.1 q.2)) σ:=by
 have l:=lcX (xs:=v.ps.zip cs) (ix:=[]) (ρ:=[some (.lst (v.ps.map (rdL v))),some (CL)]) (σ:=σ) (fe:=yl2 oIx (yl9 0) (yl9 1)) (fun q=>rdL v q.1) (fun q=>.int q.2) (fun q=>rdD v q.1 (q.1.st.getD q.2.toNat St0))
  (yd5 (i:=0) (j:=1) (by simp) (by simp) hC) (zt4 v.ps cs (rdL v) hC) (by have:=zxo v.ps cs;omega) (fun q hq j=>by
   have hb:=List.all_eq_true.mp hp q hq;simp only[Bool.and_eq_true,decide_eq_true_eq]at hb;have hi:q.2.toNat<q.1.st.length:=by omega
   have ix:∀ σ,oIx (rdL v q.1) (.int q.2) σ=.ok (rdD v q.1 (q.1.st.getD q.2.toNat St0)) σ:=fun σ=>by
    unfold rdL;refine zuc ?_;rw[show q.2=((q.2.toNat:Nat):Int) by omega];refine zpt ?_;rw[Int.toNat_natCast,List.getElem?_map,List.getElem?_eq_getElem hi,List.getD_eq_getElem?_getD,List.getElem?_eq_getElem hi];rfl
   generalize rdD v q.1 (q.1.st.getD q.2.toNat St0)=R at *;generalize rdL v q.1=RL at *;simp[ix]) (fun q _=>ydh _ _ _)
 have e:((v.ps.zip cs).map fun q=>rdD v q.1 (q.1.st.getD q.2.toNat St0))=(chS v.ps cs).map fun q=>rdD v q.1 q.2:=by unfold chS;rw[List.map_map];rfl
 rw[e]at l;have hc:cl (.lst ((chS v.ps cs).map fun q=>rdD v q.1 q.2))=true:=by rw[zyf];exact zqf fun q=>ydh _ _ _
 unfold f_chosen_readings zad;generalize D.lst ((chS v.ps cs).map fun q=>rdD v q.1 q.2)=OUT at *;generalize D.lst (v.ps.map (rdL v))=RL at *;simp[l,hc,-zqy]
theorem yec(G:Grp)(F:Fs)(hG:G.length<=100)(hg:∀ q∈G,q.2.length<=100)(σ:Sto){FD:D}(hF:DcI σ FD F):f_tells_fates [gD G,FD] σ=.ok (.bl (((F.length:Int) == (G.length:Int)) && G.all (tfB F))) σ:=by
 have sr:yox (yl9 0) [some (gD G),some (FD)] σ=.ok (nxI ((G.map fun q=>(.inl q.1:Key)).zip (G.map fun q=>D.lst (q.2.map Tc.D)))) σ:=zw0 (by simp;rfl) (by simp);have l:=lcC (xs:=G) (ix:=[1]) (ρ:=[some (gD G),some (FD)]) (σ:=σ) (fe:=yl1 (yl2 ync (yl9 0) (yl9 2)) (yl2 (oIn false) (yl2 yhw (yl9 2) (yl9 0)) (eFn 1 f_fates_of [] (yfa (yl9 1) yle)))) (fun q=>ymz (.inl q.1)) (fun q=>.lst (q.2.map Tc.D)) (fun q=>.bl (tfB F q)) sr (zm2 G (fun q=>(.inl q.1:Key)) (fun q=>D.lst (q.2.map Tc.D))) (by omega) (fun q hq j=>by
   have h1:=fun j=>hF.in q.1 j;have h2:∀ x,ymi F q.1=some x->∀ j,yhw FD (.int q.1) (σ++j)=.ok (oD x) (σ++j):=fun x h j=>hF.get h j;have h3:=fun σ=>ze5 q.2 (hg q hq) σ;have h4:=fun x σ=>yaj x q.2 σ;rw[show ymz (.inl q.1:Key)=.int q.1 from rfl];unfold tfB;generalize yme q.2=FO at *;generalize D.lst (q.2.map Tc.D)=QL at *;cases hv:ymi F q.1 with
   |none=>rw[hv]at h1;simp[h1]
   |some x=>
    rw[hv]at h1;have h5:=h2 x hv;have h6:=h4 x;generalize oD x=OX at *;simp[h1,h3,h5,h6]) (fun _ _=>by simp)
 have e1:(G.map fun q=>D.bl (tfB F q))=(G.map (tfB F)).map D.bl:=by rw[List.map_map];rfl
 have ab:=zpm (G.map (tfB F)) σ;rw[<-e1,show (G.map (tfB F)).all id=G.all (tfB F) by rw[List.all_map];rfl]at ab;have l1:=fun σ=>zsl G σ;have l2:yh3 [FD] σ=.ok (.int F.length) σ:=by have:=hF.len [];rwa [List.append_nil]at this
 unfold f_tells_fates zca;generalize hb:((F.length:Int) == (G.length:Int))=b at *;generalize (G.map fun q=>D.bl (tfB F q))=BL at *;generalize gD G=GD at *;generalize (G.length:Int)=N1 at *;generalize (F.length:Int)=N2 at *;generalize G.all (tfB F)=ab0 at *;cases b<;>simp[l,ab,l1,l2,hb,-zqy]
def yli{α:Type}(key:α->Int):List α->α->α
 |[],b=>b
 |x::xs,b=>if key x<key b then yli key xs x else yli key xs b
theorem zjp{α:Type}(key:α->Int):∀ (xs:List α) (b:α),yli key xs b∈b::xs
 |[],b=>by simp[yli]
 |x::xs,b=>by
  unfold yli;split
  ·have:=zjp key xs x;exact List.mem_cons_of_mem _ this
  ·have:=zjp key xs b;rcases List.mem_cons.mp this with h|h
   ·rw[h];exact List.mem_cons_self
   ·exact List.mem_cons_of_mem _ (List.mem_cons_of_mem _ h)
theorem zpr{α:Type}(key:α->Int):∀ (xs:List α) (b:α),∀ y∈b::xs,key (yli key xs b)<=key y
 |[],b,y,hy=>by
  have:y=b:=by simpa using hy
  rw[this];exact Int.le_refl _
 |x::xs,b,y,hy=>by
  unfold yli;split
  ·next h=>
   have ih:=zpr key xs x;rcases List.mem_cons.mp hy with e|e
   ·have:=ih x List.mem_cons_self;rw[e];omega
   ·exact ih y e
  ·next h=>
   have ih:=zpr key xs b;rcases List.mem_cons.mp hy with e|e
   ·rw[e];exact ih b List.mem_cons_self
   ·rcases List.mem_cons.mp e with e|e
    ·have:=ih b List.mem_cons_self;rw[e];omega
    ·exact ih y (List.mem_cons_of_mem _ e)
theorem zts{α:Type}{f:α->D}{key:α->Int}{fe:Ev->M D}{rest:Ev}{σ:Sto}:∀ (xs:List α) (b:α),(∀ x∈xs,fe (some (f x)::rest) σ=.ok (.int (key x)) σ)->ym7 fe rest (xs.map f) (f b) (key b) σ=.ok (f (yli key xs b)) σ
 |[],b,_=>rfl
 |x::xs,b,h=>by
  have h1:=h x List.mem_cons_self;have h2:=fun y hy=>h y (List.mem_cons_of_mem _ hy);rw[List.map_cons];unfold ym7 yli;rw[zx2,ybo h1,zp1];dsimp only;by_cases hk:key x<key b
  ·rw[if_pos hk,if_pos hk];exact zts xs x h2
  ·rw[if_neg hk,if_neg hk];exact zts xs b h2
theorem ztr{α:Type}{f:α->D}{key:α->Int}{fe:Ev->M D}{rest:Ev}{σ:Sto}{xs:List α}{x:α}(h:∀ y∈x::xs,fe (some (f y)::rest) σ=.ok (.int (key y)) σ):ym6 fe rest [.lst ((x::xs).map f)] σ=.ok (f (yli key xs x)) σ:=by
 rw[List.map_cons];unfold ym6;dsimp only;rw[zx2,ybo (h x List.mem_cons_self),zp1];exact zts xs x fun y hy=>h y (List.mem_cons_of_mem _ hy)
@[simp] theorem zkn(ix:List Nat)(fe:Ev->M D)(fs:Ev->M (List D))(ρ:Ev)(σ:Sto):yf2 ix fe fs ρ σ=(fs ρ σ).bind (ym6 fe (ix.map fun i=>(ρ[i]?).getD none)):=nr rfl
def fcs(ls:List Tc):List (Option Int):=(opn ls).map fun c=>some c.t.d
def mf(ls:List Tc)(e:Int):Option Int:=yli (fun x=>sby ls x e) (fcs ls) none
theorem zzv(ls:List Tc):yme ls=.lst ((none::fcs ls).map oD):=by
 unfold yme fcs;simp only[List.map_cons,List.map_map];rfl
theorem ybj(ls:List Tc)(e:Int):mf ls e∈none::fcs ls:=zjp _ _ _
theorem yhn(ls:List Tc)(e:Int)(x:Option Int)(h:x∈none::fcs ls):sby ls (mf ls e) e<=sby ls x e:=zpr (fun x=>sby ls x e) (fcs ls) none x h
theorem zml(ls:List Tc)(hl:ls.length<=100)(e:Int)(σ:Sto):f_least_fate [.lst (ls.map Tc.D),.int e] σ=.ok (oD (mf ls e)) σ:=by
 have f1:=fun σ=>ze5 ls hl σ;have m:=ztr (f:=oD) (key:=fun x=>sby ls x e) (x:=none) (xs:=fcs ls) (fe:=eFn 3 f_sum_by_fate [] (yfa (yl9 1) (yfa (yl9 0) (yfa (yl9 2) yle)))) (rest:=[some (.lst (ls.map Tc.D)),some (.int e)]) (σ:=σ) (fun x _=>by
  have s1:=fun σ=>zo1 ls hl x e σ;generalize D.lst (ls.map Tc.D)=LD at *;generalize oD x=OX at *;simp[s1])
 rw[<-zzv,show yli (fun x=>sby ls x e) (fcs ls) none=mf ls e from rfl]at m;have hc:=yhx (mf ls e);unfold f_least_fate zc6;generalize oD (mf ls e)=OUT at *;generalize D.lst (ls.map Tc.D)=LD at *;generalize yme ls=FD at *;simp[f1,m,hc]
theorem zov(F:Fs)(e:Int)(R GD FD:D)(xs:Grp){nx:NX}(hn:ykv nx xs (fun q=>ymz (.inl q.1)) (fun q=>D.lst (q.2.map Tc.D)))(hl:xs.length<=100)(hg:∀ q∈xs,q.2.length<=100/\(ymi F q.1).isSome=true)(σ:Sto)(hF:∀ w x,ymi F w=some x->yhw FD (.int w) σ=.ok (oD x) σ):∀ (G:Grp) (i:Nat) (a:Int) (x5 x6:Option D),xs.drop i=G->i<=xs.length->∃ y5 y6,
  yhe nx (tgT 2 (yed (tgN 5) (yed (tgN 6) yj2))) soB (1001 - i) i [some R,some GD,some FD,some (.int e),some (.int a),x5,x6] σ=.ok (.nx [some R,some GD,some FD,some (.int e),some (.int (a+ymn F e G)),y5,y6]) σ
 |[],i,a,x5,x6,hd,hi=>by
  obtain⟨h1,h2⟩:=zkh hd hi;have hx:nx i σ=some none:=by rw[hn,h1];simp[h2]
  rw[show 1001 - i=(1000 - i)+1 by omega];exact⟨x5,x6,by rw[zhx hx];simp[ymn]⟩
 |q::G,i,a,x5,x6,hd,hi=>by
  obtain⟨h1,hd2⟩:=zqv hd;obtain⟨hi2,hq⟩:=List.getElem?_eq_some_iff.mp h1;have hqm:q∈xs:=by rw[<-hq];exact List.getElem_mem hi2
  obtain⟨g1,g2⟩:=hg q hqm;obtain⟨x,hv⟩:=Option.isSome_iff_exists.mp g2;have hx:nx i σ=some (some (.tup [.int q.1,.lst (q.2.map Tc.D)])):=by rw[hn,h1];rfl
  obtain⟨y5,y6,e2⟩:=zov F e R GD FD xs hn hl hg σ hF G (i+1) (a+sby q.2 ((ymi F q.1).getD none) e) (some (.int q.1)) (some (.lst (q.2.map Tc.D))) hd2 (by omega);refine⟨y5,y6,?_⟩;have st:soB [some R,some GD,some FD,some (.int e),some (.int a),some (.int q.1),some (.lst (q.2.map Tc.D))] σ=.ok (.nx [some R,some GD,some FD,some (.int e),some (.int (a+sby q.2 ((ymi F q.1).getD none) e)),some (.int q.1),some (.lst (q.2.map Tc.D))]) σ:=by
   have s1:=fun σ=>zo1 q.2 g1 x e σ;have s2:=hF q.1 x hv;have sg:∀ (f:Ev->M D) (y0 y1 y2 y3 y5 y6:Option D) (x:D) (σ:Sto),yoh (fun a b=>a+b) 4 f [y0,y1,y2,y3,some x,y5,y6] σ=xsO [y0,y1,y2,y3,some x,y5,y6] (ylk (fun a b=>a+b) 4 [y0,y1,y2,y3,some x,y5,y6] x) (f [y0,y1,y2,y3,some x,y5,y6] σ):=fun f y0 y1 y2 y3 y5 y6 x σ=>zvz rfl;have ag:∀ (ρ:Ev) (i:Int) (j:Int) (σ:Sto),ylk (fun a b=>a+b) 4 ρ (.int i) (.int j) σ=.ok (.nx (ρ.set 4 (some (.int (i+j))))) σ:=fun _ _ _ _=>nr rfl;rw[hv];simp only[Option.getD_some];unfold soB;generalize D.lst (q.2.map Tc.D)=QL at *;generalize sby q.2 x e=SB at *;generalize oD x=OX at *;simp[s1,s2,sg,ag]
  rw[show 1001 - i=(1001 - (i+1))+1 by omega,zfh hx (ρ1:=[some R,some GD,some FD,some (.int e),some (.int a),some (.int q.1),some (.lst (q.2.map Tc.D))]) (nr rfl),st,zp1,zmn,e2];simp only[ymn];rw[Int.add_assoc]
theorem zi7(v:Vw)(qs:List (Po × St))(hq:qs.length<=100)(G:Grp)(F:Fs)(e:Int)(hl:G.length<=100)(hg:∀ q∈G,q.2.length<=100/\(ymi F q.1).isSome=true)(σ:Sto)(FD:D)(hF:∀ w x,ymi F w=some x->yhw FD (.int w) σ=.ok (oD x) σ) :
  f_sum_of [.lst (qs.map fun q=>rdD v q.1 q.2),gD G,FD,.int e] σ=.ok (.int (frm v qs+ymn F e G)) σ:=by
 have l:=ym0 (xs:=qs) (ix:=[]) (ρ:=[some (.lst (qs.map fun q=>rdD v q.1 q.2)),some (gD G),some FD,some (.int e),none,none,none]) (σ:=σ) (src:=yoz (yl9 0)) (fe:=yl2 oIx (yl9 0) (eC (.int 0))) (fun q=>rdD v q.1 q.2) (fun q=>.int (shr q.1.s q.2+ymd (lot v q.1.s q.1.sn) q.2.ts)) (by simp) (by omega) (fun q _ j=>by
   have i0:∀ σ,oIx (rdD v q.1 q.2) (.int 0) σ=.ok (.int (shr q.1.s q.2+ymd (lot v q.1.s q.1.sn) q.2.ts)) σ:=fun σ=>by unfold rdD;simp
   generalize rdD v q.1 q.2=RD at *;generalize (shr q.1.s q.2+ymd (lot v q.1.s q.1.sn) q.2.ts)=N at *;simp[i0]) (fun _ _=>by simp)
 have o:=zo0 (qs.map fun q=>shr q.1.s q.2+ymd (lot v q.1.s q.1.sn) q.2.ts) σ;rw[List.map_map,show (D.int ∘ fun q:Po × St=>shr q.1.s q.2+ymd (lot v q.1.s q.1.sn) q.2.ts)=(fun q:Po × St=>D.int (shr q.1.s q.2+ymd (lot v q.1.s q.1.sn) q.2.ts))from rfl,show (qs.map fun q=>shr q.1.s q.2+ymd (lot v q.1.s q.1.sn) q.2.ts).sum=frm v qs from rfl]at o;have sr:∀ x4 x5 x6,yox (yl9 1) [some (.lst (qs.map fun q=>rdD v q.1 q.2)),some (gD G),some FD,some (.int e),x4,x5,x6] σ=.ok (nxI ((G.map fun q=>(.inl q.1:Key)).zip (G.map fun q=>D.lst (q.2.map Tc.D)))) σ:=fun x4 x5 x6=>zw0 (by simp;rfl) (by simp);obtain⟨y5,y6,lp⟩:=zov F e (.lst (qs.map fun q=>rdD v q.1 q.2)) (gD G) FD G (zm2 G (fun q=>(.inl q.1:Key)) (fun q=>D.lst (q.2.map Tc.D))) hl hg σ hF G 0 (frm v qs) none none rfl (by omega);have fk:∀ (tg:D->Ev->Option Ev) (body:Ev->M Fl) (ρ:Ev) (nx:NX),ygl tg body ρ nx=yhe nx tg body 1001 0 ρ:=fun _ _ _ _=>rfl;rw[Nat.sub_zero]at lp;unfold soB at lp;unfold f_sum_of zlt;generalize (qs.map fun q=>D.int (shr q.1.s q.2+ymd (lot v q.1.s q.1.sn) q.2.ts))=IL at *;generalize D.lst (qs.map fun q=>rdD v q.1 q.2)=RL at *;generalize nxI ((G.map fun q=>(.inl q.1:Key)).zip (G.map fun q=>D.lst (q.2.map Tc.D)))=NXX at *;generalize gD G=GD at *;generalize frm v qs=FR at *;generalize ymn F e G=GS at *;simp[l,o,sr,fk,lp,-zqy]
def lF(G:Grp)(e:Int):Fs:=G.map fun q=>(q.1,mf q.2 e)
theorem znr(F:Fs)(w:Int)(x:Option Int)(h:w ∉ F.map (·.1)):putF F w x=F++[(w,x)]:=by
 have:(F.any fun p=>decide (p.1=w))=false:=by
  rw[List.any_eq_false];intro p hp z;exact h (List.mem_map.mpr ⟨p,hp,by simpa using z⟩)
 unfold putF;rw[this];rfl
noncomputable abbrev lpB:Ev->M Fl:=(yi4 (eFn 2 f_least_fate [] (yfa (yl9 6) (yfa (yl9 2) yle))) (yl9 4) (yl9 5))
theorem ztk(e:Int)(R CD GD:D)(xs:Grp){nx:NX}(hn:ykv nx xs (fun q=>ymz (.inl q.1)) (fun q=>D.lst (q.2.map Tc.D)))(hl:xs.length<=100)(hg:∀ q∈xs,q.2.length<=100)(σ:Sto):∀ (G:Grp) (i:Nat) (F:Fs) (x5 x6:Option D),xs.drop i=G->i<=xs.length->(F.map (·.1)++G.map (·.1)).Nodup->F.length+G.length<=200->∃ y5 y6,
  yhe nx (tgT 2 (yed (tgN 5) (yed (tgN 6) yj2))) lpB (1001 - i) i [some R,some CD,some (.int e),some GD,some (.ref σ.length),x5,x6] (σ++[.dic (kvF F)])=.ok (.nx [some R,some CD,some (.int e),some GD,some (.ref σ.length),y5,y6]) (σ++[.dic (kvF (F++lF G e))])
 |[],i,F,x5,x6,hd,hi,_,_=>by
  obtain⟨h1,h2⟩:=zkh hd hi;have hx:∀ σ,nx i σ=some none:=fun σ=>by rw[hn,h1];simp[h2]
  rw[show 1001 - i=(1000 - i)+1 by omega];exact⟨x5,x6,by rw[zhx (hx _)];simp[lF]⟩
 |q::G,i,F,x5,x6,hd,hi,hnd,hlen=>by
  obtain⟨h1,hd2⟩:=zqv hd;obtain⟨hi2,hq⟩:=List.getElem?_eq_some_iff.mp h1;have hqm:q∈xs:=by rw[<-hq];exact List.getElem_mem hi2
  have g1:=hg q hqm;have hx:∀ σ,nx i σ=some (some (.tup [.int q.1,.lst (q.2.map Tc.D)])):=fun σ=>by rw[hn,h1];rfl
  simp only[List.length_cons]at hlen;have hne:q.1 ∉ F.map (·.1):=by
   rw[List.map_cons,List.nodup_append]at hnd;intro z;exact hnd.2.2 _ z _ List.mem_cons_self rfl
  obtain⟨y5,y6,e2⟩:=ztk e R CD GD xs hn hl hg σ G (i+1) (F++[(q.1,mf q.2 e)]) (some (.int q.1)) (some (.lst (q.2.map Tc.D))) hd2 (by omega) (by
   rw[List.map_cons]at hnd;simpa using hnd) (by simp;omega)
  refine⟨y5,y6,?_⟩;have st:lpB [some R,some CD,some (.int e),some GD,some (.ref σ.length),some (.int q.1),some (.lst (q.2.map Tc.D))] (σ++[.dic (kvF F)])=.ok (.nx [some R,some CD,some (.int e),some GD,some (.ref σ.length),some (.int q.1),some (.lst (q.2.map Tc.D))]) (σ++[.dic (kvF (F++[(q.1,mf q.2 e)]))]):=by
   have s1:=fun σ=>zml q.2 g1 e σ;have s2:=fun ρ=>zog (σ:=σ) (F:=F) q.1 (mf q.2 e) (by omega) ρ;rw[znr F q.1 _ hne]at s2;unfold lpB;generalize D.lst (q.2.map Tc.D)=QL at *;generalize oD (mf q.2 e)=OX at *;generalize (σ++[Ob.dic (kvF F)])=σ1 at *;generalize (σ++[Ob.dic (kvF (F++[(q.1,mf q.2 e)]))])=σ2 at *;simp[s1,s2]
  rw[show 1001 - i=(1001 - (i+1))+1 by omega,zfh (hx _) (ρ1:=[some R,some CD,some (.int e),some GD,some (.ref σ.length),some (.int q.1),some (.lst (q.2.map Tc.D))]) (nr rfl),st,zp1,zmn,e2];unfold lF;simp
theorem zr8:∀ (G:Grp) (e:Int),(G.map (·.1)).Nodup->∀ q∈G,ymi (lF G e) q.1=some (mf q.2 e)
 |[],_,_,q,h=>by cases h
 |p::G,e,hn,q,h=>by
  rw[List.map_cons,List.nodup_cons]at hn;unfold ymi lF;rw[List.map_cons,List.find?_cons];rcases List.mem_cons.mp h with h1|h1
  ·rw[h1];simp
  ·have:p.1≠q.1:=fun z=>hn.1 (by rw[z];exact List.mem_map.mpr ⟨q,h1,rfl⟩);simp only[this,decide_false];exact zr8 G e hn.2 q h1
theorem ydm{σ:Sto}{F:Fs}{w:Int}{x:Option Int}(h:ymi F w=some x):yhw (.ref σ.length) (.int w) (σ++[.dic (kvF F)])=.ok (oD x) (σ++[.dic (kvF F)]):=by
 have e:yl0 (σ++[Ob.dic (kvF F)]) (.ref σ.length)=some (kvF F):=by unfold yl0;simp
 unfold yhw;simp only[ymx,e,zk7,h];rfl
theorem suG(v:Vw)(hv:v.Ok)(cs:List Int)(F:Fs)(T:Int)(σ:Sto){CL FD:D}(hC:LsI σ CL cs)(hF:DcI σ FD F):f_stands_up [v.O,.tup [.int T,CL,FD]] σ=.ok (.bl (suB v cs F T)) σ:=by
 have r1:=fun σ=>zn4 v hv σ;have r2:=zu1 v cs hv.n3 σ hC;have f0:=fun σ=>v.f0 σ;have j0:∀ σ,oIx (.tup [.int T,CL,FD]) (.int 0) σ=.ok (.int T) σ:=fun σ=>by simp
 have j1:∀ σ,oIx (.tup [.int T,CL,FD]) (.int 1) σ=.ok (CL) σ:=fun σ=>by simp
 have j2:∀ σ,oIx (.tup [.int T,CL,FD]) (.int 2) σ=.ok (FD) σ:=fun σ=>by simp
 unfold suB;cases hb1:((cs.length:Int) == (v.ps.length:Int))with
 |false=>
  rw[hb1]at r2;unfold f_stands_up zd4;generalize D.tup [.int T,CL,FD]=TD at *;generalize D.lst (v.ps.map (rdL v))=RL at *;generalize v.O=VO at *;simp[r1,r2,j1]
 |true=>
  cases hb2:plB v.ps cs with
  |false=>
   rw[hb1,hb2]at r2;unfold f_stands_up zd4;generalize D.tup [.int T,CL,FD]=TD at *;generalize D.lst (v.ps.map (rdL v))=RL at *;generalize v.O=VO at *;simp[r1,r2,j1]
  |true=>
   rw[hb1,hb2]at r2;have hm:=zqc hb2;have hq:∀ q∈chS v.ps cs,q.2.Ok:=fun q hq=>hv.ok q.1 (hm q hq).1 q.2 (hm q hq).2;have hl3:(chS v.ps cs).length<=3:=Nat.le_trans (zqb _ _) hv.n3;have hA:=zxp v _ hq;have r3:=zqd v cs hv.n3 hb2 σ hC;have r4:=fun σ=>zez v (chS v.ps cs) hq hl3 σ;have g1:(grp (AT v (chS v.ps cs))).length<=100:=by rw[zsm];have:=zwz (AT v (chS v.ps cs));omega
   have g2:∀ q∈grp (AT v (chS v.ps cs)),q.2.length<=100:=fun q h=>by rw[zsm]at h;have:=yd4 _ q h;omega
   have r5:=yec (grp (AT v (chS v.ps cs))) F g1 g2 σ hF;cases hb3:(((F.length:Int) == ((grp (AT v (chS v.ps cs))).length:Int)) && (grp (AT v (chS v.ps cs))).all (tfB F))with
   |false=>
    rw[hb3]at r5;unfold f_stands_up zd4;generalize D.tup [.int T,CL,FD]=TD at *;generalize D.lst (v.ps.map (rdL v))=RL at *;generalize D.lst ((chS v.ps cs).map fun q=>rdD v q.1 q.2)=QL at *;generalize gD (grp (AT v (chS v.ps cs)))=GD at *;generalize v.O=VO at *;simp[r1,r2,r3,r4,r5,j1,j2]
   |true=>
    rw[hb3]at r5;have hb4:∀ q∈grp (AT v (chS v.ps cs)),(ymi F q.1).isSome=true:=fun q h=>by
     have hx:=List.all_eq_true.mp (Bool.and_eq_true_iff.mp hb3).2 q h;unfold tfB at hx;cases e:ymi F q.1 with
     |none=>rw[e]at hx;cases hx
     |some x=>rfl
    have r6:=zi7 v (chS v.ps cs) (by omega) (grp (AT v (chS v.ps cs))) F v.e g1 (fun q h=>⟨g2 q h,hb4 q h⟩) σ FD (fun w x h=>by have:=hF.get h [];rwa [List.append_nil]at this);unfold f_stands_up zd4;generalize D.tup [.int T,CL,FD]=TD at *;generalize D.lst (v.ps.map (rdL v))=RL at *;generalize D.lst ((chS v.ps cs).map fun q=>rdD v q.1 q.2)=QL at *;generalize gD (grp (AT v (chS v.ps cs)))=GD at *;generalize frm v (chS v.ps cs)+ymn F v.e (grp (AT v (chS v.ps cs)))=SM at *;generalize v.O=VO at *;simp[r1,r2,r3,r4,r5,r6,j0,j1,j2,f0]
@[simp] theorem zrw(sel:Nat->Sto->D->List Nat)(f:M D)(σ:Sto):frzJ sel f σ=ygm sel σ (f σ):=nr rfl
theorem zkl(sel:Nat->Sto->D->List Nat)(f:Ev->M D)(ρ:Ev)(σ:Sto):yfz sel f ρ σ=ygm sel σ (f ρ σ):=nr rfl
theorem zli{sel:Nat->Sto->D->List Nat}{σ σ':Sto}{d d':D}(js:List Nat)(hs:sel σ.length σ' d=js)(ht:σ'.take σ.length=σ)(hn:js.Nodup)(hj:∀ j∈js,σ.length<=j/\j<σ'.length/\okJ (obJ σ' j)=true)(hf:fzJ σ.length js σ' 6 d=some d'):ygm sel σ (.ok d σ')=.ok d' (σ++js.map (obJ σ')):=by
 unfold ygm;dsimp only;rw[hs,if_pos ⟨ht,hn,hj⟩,hf]
theorem ybx{σ:Sto}{n:Nat}{o:Ob}(h:σ[n]?=some o):obJ σ n=o:=by unfold obJ;rw[h];rfl
@[simp] theorem ybz(c:List Int):okJ (cO c)=true:=by unfold okJ cO;simp
@[simp] theorem yb0(F:Fs):okJ (fO F)=true:=by
 unfold okJ fO kvF;dsimp only;rw[List.map_map];exact zqf fun p=>yhx p.2
theorem yac{k:Nat}{js:List Nat}{σ:Sto}{m:Nat}{d:D}(h:cl d=true):fzJ k js σ m d=some d:=by
 cases m<;>(unfold fzJ;rw[if_pos h])
theorem zsb{k:Nat}{js:List Nat}{σ:Sto}{m n:Nat}(h:n<k):fzJ k js σ m (.ref n)=some (.ref n):=by
 cases m<;>(unfold fzJ;rw[if_neg (by simp[cl])];dsimp only;rw[if_pos h])
theorem zsa{k:Nat}{js:List Nat}{σ:Sto}{m n i:Nat}(h:k<=n)(hi:ymt n js=some i):fzJ k js σ m (.ref n)=some (.ref (k+i)):=by
 cases m<;>(unfold fzJ;rw[if_neg (by simp[cl])];dsimp only;rw[if_neg (by omega),hi])<;>rfl
theorem zsd{k:Nat}{js:List Nat}{σ:Sto}{m:Nat}{xs ys:List D}(hc:cl (.tup xs)=false)(h:fzL (fzJ k js σ m) xs=some ys):fzJ k js σ (m+1) (.tup xs)=some (.tup ys):=by
 unfold fzJ;rw[if_neg (by simp[hc])];dsimp only;rw[h];rfl
theorem zhe{σ:Sto}{a:Int}{n:Nat}{F:Fs}(hn:n<σ.length):ygm yoq σ (.ok (.tup [.int a,.ref n,.ref σ.length]) (σ++[fO F]))=.ok (.tup [.int a,.ref n,.ref σ.length]) (σ++[fO F]):=by
 have e:(σ++[fO F])[σ.length]?=some (fO F):=by simp
 have:=zli (sel:=yoq) (σ:=σ) (σ':=σ++[fO F]) (d:=.tup [.int a,.ref n,.ref σ.length]) (d':=.tup [.int a,.ref n,.ref σ.length]) [σ.length] (by
   unfold yoq rfJ;simp[yoc,rfJ,hn]) (by simp) (by simp) (fun j hj=>by
   obtain rfl:j=σ.length:=by simpa using hj
   rw[ybx e];exact⟨Nat.le_refl _,by simp,yb0 F⟩) (zsd (by simp[cl,clL]) (by
   unfold fzL;rw[yac (show cl (.int a)=true by simp[cl])];unfold fzL;rw[zsb hn];unfold fzL;rw[zsa (i:=0) (Nat.le_refl _) (by simp[ymt])];rfl))
 rw[this];simp[ybx e]
theorem ztl(v:Vw)(qs:List (Po × St))(hq:∀ q∈qs,q.2.Ok)(hl3:qs.length<=3)(n:Nat)(σ:Sto)(hn:n<σ.length) :
  f_least_paper [.lst (qs.map fun q=>rdD v q.1 q.2),.ref n,.int v.e] σ=.ok (.tup [.int (frm v qs+ymn (lF (grp (AT v qs)) v.e) v.e (grp (AT v qs))),.ref n,.ref σ.length]) (σ++[fO (lF (grp (AT v qs)) v.e)]):=by
 have hA:=zxp v qs hq;have r4:=fun σ=>zez v qs hq hl3 σ;have g1:(grp (AT v qs)).length<=100:=by rw[zsm];have:=zwz (AT v qs);omega
 have g2:∀ q∈grp (AT v qs),q.2.length<=100:=fun q h=>by rw[zsm]at h;have:=yd4 _ q h;omega
 have gn:((grp (AT v qs)).map (·.1)).Nodup:=by
  rw[zsm];unfold spc;rw[List.map_map];exact(show ((fun q:Int × List Tc=>q.1) ∘ fun w=>(w,flt (AT v qs) w))=id from rfl) ▸ (by rw[List.map_id];exact zg4 _)
 generalize grp (AT v qs)=G at *;have fv:=zr8 G v.e gn;have sr:∀ x4 x5 x6 σ,yox (yl9 3) [some (.lst (qs.map fun q=>rdD v q.1 q.2)),some (.ref n),some (.int v.e),some (gD G),x4,x5,x6] σ=.ok (nxI ((G.map fun q=>(.inl q.1:Key)).zip (G.map fun q=>D.lst (q.2.map Tc.D)))) σ:=fun x4 x5 x6 σ=>zw0 (by simp;rfl) (by simp);obtain⟨y5,y6,lp⟩:=ztk v.e (.lst (qs.map fun q=>rdD v q.1 q.2)) (.ref n) (gD G) G (zm2 G (fun q=>(.inl q.1:Key)) (fun q=>D.lst (q.2.map Tc.D))) g1 g2 σ G 0 [] none none rfl (by omega) (by simpa using gn) (by simp;omega);rw[Nat.sub_zero,List.nil_append,show kvF []=[]from rfl]at lp;have fk:∀ (tg:D->Ev->Option Ev) (body:Ev->M Fl) (ρ:Ev) (nx:NX),ygl tg body ρ nx=yhe nx tg body 1001 0 ρ:=fun _ _ _ _=>rfl;have so:=zi7 v qs (by omega) G (lF G v.e) v.e g1 (fun q h=>⟨g2 q h,by rw[fv q h];rfl⟩) (σ++[.dic (kvF (lF G v.e))]) (.ref σ.length) (fun w x h=>ydm h);have fz:=zhe (σ:=σ) (a:=(frm v qs+ymn (lF G v.e) v.e G)) (n:=n) (F:=lF G v.e) hn;unfold lpB at lp;unfold fO at fz ⊢;unfold f_least_paper zb7;generalize (frm v qs+ymn (lF G v.e) v.e G)=SM at *;generalize nxI ((G.map fun q=>(.inl q.1:Key)).zip (G.map fun q=>D.lst (q.2.map Tc.D)))=NXX at *;generalize (σ++[Ob.dic (kvF (lF G v.e))])=σ2 at *;generalize D.lst (qs.map fun q=>rdD v q.1 q.2)=RL at *;generalize gD G=GD at *;simp[r4,sr,fk,lp,so,fz]
def rfs(a n:Nat):List D:=(List.range n).map fun i=>D.ref (a+i)
theorem zn3(a n:Nat):rfs a (n+1)=.ref a::rfs (a+1) n:=by
 unfold rfs;rw[List.range_succ_eq_map,List.map_cons,List.map_map];congr 1;apply List.map_congr_left;intro i _;show D.ref (a+(i+1))=D.ref (a+1+i);rw[show a+(i+1)=a+1+i by omega]
@[simp] theorem zvp(a n:Nat):(rfs a n).length=n:=by unfold rfs;simp
theorem zvo(a m:Nat):∀ n,rfs a m++rfs (a+m) n=rfs a (m+n)
 |0=>by simp[rfs]
 |n+1=>by
  have h:∀ a k,rfs a (k+1)=rfs a k++[.ref (a+k)]:=fun a k=>by unfold rfs;rw[List.range_succ,List.map_append];rfl
  rw[h,<-List.append_assoc,zvo a m n,show m+(n+1)=(m+n)+1 by omega,h,Nat.add_assoc]
theorem zex{σ os:Sto}{ys:List D}{y:D}(h:ys.length<1000):zt5 (.ref σ.length) [y] (σ++.lst ys::os)=.ok .non (σ++.lst (ys++[y])::os):=by
 have e:yhf (σ++Ob.lst ys::os) σ.length=some ys:=by unfold yhf;simp
 unfold zt5;simp only[e];rw[if_pos (show ys.length<cap from h)];simp
theorem ze4{σ os:Sto}{ys zs:List D}(h:ys.length+zs.length<=1000):zt9 (.ref σ.length) [.lst zs] (σ++.lst ys::os)=.ok .non (σ++.lst (ys++zs)::os):=by
 have e:ym3 (σ++Ob.lst ys::os) (.lst zs)=some zs:=rfl;have e2:yhf (σ++Ob.lst ys::os) σ.length=some ys:=by unfold yhf;simp
 unfold zt9;simp only[e2,e];rw[if_pos (show _<=cap from h)];simp
section
variable{α:Type}{xs:List α}{σ:Sto}{ρ:Ev}{ix:List Nat}{fe:Ev->M D}
def ysF(y:Nat->α->D):Nat->List α->List D
 |_,[]=>[]
 |n,x::xs=>y n x::ysF y (n+1) xs
theorem ya6{rest:Ev}(f:α->D)(y:Nat->α->D)(o:α->Ob)(step:∀ x∈xs,∀ j,fe (some (f x)::rest) (σ++j)=.ok (y (σ++j).length x) (σ++j++[o x]))(hl:xs.length<=1000) :
  ∀ (k i:Nat) (o0:Option D) (ys:List D) (os:List Ob),xs.length<k+i->i<=xs.length->ys.length<=i->
   ya7 (.seq (xs.map f)) σ.length (tgN 0) yfd fe k i (o0::rest) (σ++.lst ys::os)=.ok () (σ++.lst (ys++ysF y (σ.length+1+os.length) (xs.drop i))::(os++(xs.drop i).map o)):=by
 intro k;induction k with
 |zero=>intro i o0 ys os h1 h2;omega
 |succ k ih=>
  intro i o0 ys os h1 h2 hy;unfold ya7;show (match some (xs.map f)[i]? with|none=>_|some none=>_|some (some d)=>_)=_;rw[List.getElem?_map];cases e:xs[i]? with
  |none=>
   have hi:xs.length<=i:=List.getElem?_eq_none_iff.mp e;rw[List.drop_eq_nil_of_le hi];simp[ysF]
  |some d=>
   obtain⟨hi,ed⟩:=List.getElem?_eq_some_iff.mp e;have hd:xs.drop i=d::xs.drop (i+1):=by rw[<-ed];exact List.drop_eq_getElem_cons hi
   have s2:=step d (by rw[<-ed];exact List.getElem_mem hi) (.lst ys::os);have s1:yfd (some (f d)::rest) (σ++.lst ys::os)=.ok true (σ++.lst ys::os):=rfl;show bnd (nox (yfd (some (f d)::rest))) _ _=_;rw[zx2,ybo s1,zp1];dsimp only[List.set];rw[if_pos rfl,zx2,ybo s2,zp1,zx2,show σ++Ob.lst ys::os++[o d]=σ++Ob.lst ys::(os++[o d]) by simp,zex (by omega),zp1,ih (i+1) (some (f d)) _ (os++[o d]) (by omega) (by omega) (by simp;omega),hd];simp only[ysF,List.map_cons,List.append_assoc,List.singleton_append,List.cons_append,List.nil_append,List.length_append,List.length_cons,List.length_nil];rw[show σ.length+(os.length+1)=σ.length+1+os.length by omega,show σ.length+1+(os.length+(0+1))=σ.length+1+os.length+1 by omega]
theorem lcJ{σ0:Sto}{src:Ev->M Src}(f:α->D)(y:Nat->α->D)(o:α->Ob)(hs:src ρ σ0=.ok (.seq (xs.map f)) σ)(hl:xs.length<=1000)
  (step:∀ x∈xs,∀ j,fe (some (f x)::(ix.map fun i=>(ρ[i]?).getD none)) (σ++j)=.ok (y (σ++j).length x) (σ++j++[o x])) :
  eLC src ix (tgN 0) yfd fe ρ σ0=.ok (.ref σ.length) (σ++.lst (ysF y (σ.length+1) xs)::xs.map o):=by
 show bnd (src ρ) (lcK (tgN 0) yfd fe (yfe ix ρ)) σ0=_;rw[zx2,hs,zp1];show bnd (ya7 (.seq (xs.map f)) σ.length (tgN 0) yfd fe 1001 0 (none::(ix.map fun i=>(ρ[i]?).getD none))) _ (σ++[.lst []])=_;rw[zx2,ya6 f y o step hl 1001 0 none [] [] (by omega) (by omega) (by simp),zp1];simp
theorem zxm(n:Nat):∀ (m:Nat) (xs:List α),xs.length=n->ysF (fun k (_:α)=>D.ref k) m xs=rfs m n:=by
 induction n with
 |zero=>intro m xs h;rw[List.length_eq_zero_iff.mp h];rfl
 |succ n ih=>
  intro m xs h;cases xs with
  |nil=>simp at h
  |cons x xs=>rw[zn3,ysF,ih (m+1) xs (by simpa using h)]
end
theorem zvn{k:Nat}:∀ {rs:List Nat},(∀ r∈rs,k<=r)->yoc k (rs.map D.ref)=rs
 |[],_=>rfl
 |r::rs,h=>by
  rw[List.map_cons];unfold yoc;rw[zvn fun x hx=>h x (List.mem_cons_of_mem _ hx)];unfold rfJ;rw[if_neg (by have:=h r List.mem_cons_self;omega)];rfl
theorem zsr:∀ {rs:List Nat} {i r:Nat},rs.Nodup->rs[i]?=some r->ymt r rs=some i
 |x::rs,0,r,hn,h=>by
  have:x=r:=by simpa using h
  unfold ymt;rw[if_pos this]
 |x::rs,i+1,r,hn,h=>by
  rw[List.nodup_cons]at hn;have h':rs[i]?=some r:=by simpa using h
  unfold ymt;rw[if_neg (fun z=>hn.1 (by rw[z];exact List.mem_of_getElem? h')),zsr hn.2 h'];rfl
theorem zl4{r:Nat}:∀ {rs:List Nat},r ∉ rs->ymt r rs=none
 |[],_=>rfl
 |x::rs,h=>by
  unfold ymt;rw[if_neg (fun z=>h (by rw[z];exact List.mem_cons_self)),zl4 fun z=>h (List.mem_cons_of_mem _ z)];rfl
theorem zsf{f:D->Option D}:∀ {xs ys:List D},xs.length=ys.length->(∀ (i:Nat) x y,xs[i]?=some x->ys[i]?=some y->f x=some y)->fzL f xs=some ys
 |[],[],_,_=>rfl
 |[],_::_,h,_=>by simp at h
 |_::_,[],h,_=>by simp at h
 |x::xs,y::ys,h,hf=>by
  unfold fzL;rw[hf 0 x y rfl rfl,zsf (by simpa using h) fun i a b h1 h2=>hf (i+1) a b h1 h2]
theorem zlr{k:Nat}{rs:List Nat}{σ:Sto}{m:Nat}(hn:rs.Nodup)(hg:∀ r∈rs,k<=r):fzL (fzJ k rs σ m) (rs.map D.ref)=some (rfs k rs.length):=
 zsf (by simp) fun i x y h1 h2=>by
  rw[List.getElem?_map]at h1;obtain⟨r,hr,rfl⟩:=Option.map_eq_some_iff.mp h1;unfold rfs at h2;rw[List.getElem?_map]at h2;obtain⟨q,hq,rfl⟩:=Option.map_eq_some_iff.mp h2;have hi:=(List.getElem?_eq_some_iff.mp hr).1;rw[List.getElem?_range hi]at hq;cases hq;exact zsa (hg r (List.mem_of_getElem? hr)) (zsr hn hr)
theorem zhd{σ σ':Sto}{C:Nat}{rs:List Nat}{acc:List (List Int)}(ht:σ'.take σ.length=σ)(hC:σ.length<=C)(hl:σ'[C]?=some (.lst (rs.map D.ref)))(hlen:rs.length=acc.length)(hat:∀ (i r:Nat) (c:List Int),rs[i]?=some r->acc[i]?=some c->σ'[r]?=some (cO c))(hn:rs.Nodup)(hg:∀ r∈rs,σ.length<=r) :
  ygm yoq σ (.ok (.ref C) σ')=.ok (.lst (rfs σ.length acc.length)) (σ++acc.map cO):=by
 have ex:∀ r∈rs,∃ c,σ'[r]?=some (cO c):=fun r hr=>by
  obtain⟨i,hi⟩:=List.getElem?_of_mem hr;have hl':=(List.getElem?_eq_some_iff.mp hi).1;exact⟨_,hat i r (acc[i]'(by omega)) hi (List.getElem?_eq_getElem (by omega))⟩
 have nC:C ∉ rs:=fun z=>by
  obtain⟨c,hc⟩:=ex C z;rw[hl]at hc;cases rs with
  |nil=>cases z
  |cons r rs=>
   unfold cO at hc;cases c with
   |nil=>simp at hc
   |cons x c=>simp at hc
 have:=zli (sel:=yoq) (σ:=σ) (σ':=σ') (d:=.ref C) (d':=.lst (rfs σ.length rs.length)) rs (by
   unfold yoq;dsimp only;rw[if_neg (by omega),hl];exact zvn hg) ht hn (fun j hj=>by
   obtain⟨c,hc⟩:=ex j hj;rw[ybx hc];exact⟨hg j hj,(List.getElem?_eq_some_iff.mp hc).1,ybz c⟩) (by
    unfold fzJ;rw[if_neg (by simp[cl])];dsimp only;rw[if_neg (by omega),zl4 nC,hl];dsimp only;rw[zlr hn hg];rfl)
 rw[this,hlen];congr 2;apply List.ext_getElem?;intro i;rw[List.getElem?_map,List.getElem?_map];cases e:rs[i]? with
 |none=>
  rw[List.getElem?_eq_none_iff]at e;rw[List.getElem?_eq_none_iff.mpr (by omega)];rfl
 |some r=>
  have hl':=(List.getElem?_eq_some_iff.mp e).1;rw[List.getElem?_eq_getElem (show i<acc.length by omega)];simp only[Option.map_some];rw[ybx (hat i r _ e (List.getElem?_eq_getElem (by omega)))]
theorem zfg{tg:D->Ev->Option Ev}{body:Ev->M Fl}{n k i:Nat}{ρ ρ1:Ev}{σ:Sto}{xs:List D}{d:D}(h:yhf σ n=some xs)(hx:xs[i]?=some d)(ht:tg d ρ=some ρ1):yhd tg body n (k+1) i ρ σ=(body ρ1 σ).bind (yhc (yhd tg body n k (i+1))):=by
 rw[yhd];simp only[h,hx,ht];rfl
theorem zhw{tg:D->Ev->Option Ev}{body:Ev->M Fl}{n k i:Nat}{ρ:Ev}{σ:Sto}{xs:List D}(h:yhf σ n=some xs)(hx:xs[i]?=none):yhd tg body n (k+1) i ρ σ=.ok (.nx ρ) σ:=by
 rw[yhd];simp only[h,hx]
theorem ymg{α β:Type}{tg:D->Ev->Option Ev}{body:Ev->M Fl}{S:Src}(xs:List α)(f:α->D)(E:Nat->β->Ev)(Sg:Nat->Sto)(hl:xs.length<=1000)
  (hS:∀ i,i<=xs.length->S.nx i (Sg i)=some ((xs.map f)[i]?))
  (step:∀ i x b,xs[i]?=some x->∃ ρ1 b',tg (f x) (E i b)=some ρ1/\body ρ1 (Sg i)=.ok (.nx (E (i+1) b')) (Sg (i+1))) (b:β) :
  ∃ b',ymf tg body (E 0 b) S (Sg 0)=.ok (.nx (E xs.length b')) (Sg xs.length):=by
 cases S with
 |seq ds=>
  have e:ds=xs.map f:=by
   apply List.ext_getElem?;intro i;by_cases hi:i<=xs.length
   ·exact Option.some.inj (hS i hi)
   ·have h0:some ds[xs.length]?=some ((xs.map f)[xs.length]?):=hS xs.length (Nat.le_refl _);have h1:ds[xs.length]?=none:=by rw[Option.some.inj h0];simp
    rw[List.getElem?_eq_none_iff]at h1;rw[List.getElem?_eq_none_iff.mpr (by omega),List.getElem?_eq_none_iff.mpr (by simp;omega)]
  subst e;have go:∀ (r:List α) (i:Nat) (b:β),xs.drop i=r->i<=xs.length->∃ b',ym2 tg body (r.map f) (E i b) (Sg i)=.ok (.nx (E xs.length b')) (Sg xs.length):=by
   intro r;induction r with
   |nil=>
    intro i b hd hi;obtain⟨_,e⟩:=zkh hd hi;subst e;exact⟨b,by simp⟩
   |cons x r ih=>
    intro i b hd hi;obtain⟨hx,hd2⟩:=zqv hd;have hi2:=(List.getElem?_eq_some_iff.mp hx).1;obtain⟨ρ1,b1,h1,h2⟩:=step i x b hx;obtain⟨b2,h3⟩:=ih (i+1) b1 hd2 (by omega);exact⟨b2,by rw[List.map_cons,zhy h1,h2,zp1,zmn,h3]⟩
  exact go xs 0 b rfl (by omega)
 |lref n=>
  have go:∀ (r:List α) (i k:Nat) (b:β),xs.drop i=r->i<=xs.length->r.length<k->∃ b',yhd tg body n k i (E i b) (Sg i)=.ok (.nx (E xs.length b')) (Sg xs.length):=by
   intro r;induction r with
   |nil=>
    intro i k b hd hi hk;obtain⟨h0,e⟩:=zkh hd hi;have hn:=hS i hi;obtain⟨ys,h1,h2⟩:∃ ys,yhf (Sg i) n=some ys/\ys[i]?=(xs.map f)[i]?:=by
     have hn':(yhf (Sg i) n).map (fun xs=>xs[i]?)=some ((xs.map f)[i]?):=hn;cases el:yhf (Sg i) n with
     |none=>rw[el]at hn';cases hn'
     |some ys=>rw[el]at hn';exact⟨ys,rfl,Option.some.inj hn'⟩
    rw[List.getElem?_map,h0]at h2;obtain⟨k,rfl⟩:∃ k',k=k'+1:=⟨k - 1,by simp at hk;omega⟩
    subst e;exact⟨b,zhw h1 h2⟩
   |cons x r ih=>
    intro i k b hd hi hk;obtain⟨hx,hd2⟩:=zqv hd;have hi2:=(List.getElem?_eq_some_iff.mp hx).1;have hn:=hS i hi;obtain⟨ys,h1,h2⟩:∃ ys,yhf (Sg i) n=some ys/\ys[i]?=(xs.map f)[i]?:=by
     have hn':(yhf (Sg i) n).map (fun xs=>xs[i]?)=some ((xs.map f)[i]?):=hn;cases el:yhf (Sg i) n with
     |none=>rw[el]at hn';cases hn'
     |some ys=>rw[el]at hn';exact⟨ys,rfl,Option.some.inj hn'⟩
    rw[List.getElem?_map,hx]at h2;obtain⟨ρ1,b1,h3,h4⟩:=step i x b hx;obtain⟨k,rfl⟩:∃ k',k=k'+1:=⟨k - 1,by simp at hk;omega⟩
    simp only[List.length_cons]at hk;obtain⟨b2,h5⟩:=ih (i+1) k b1 hd2 (by omega) (by omega);exact⟨b2,by rw[zfg h1 h2 h3,h4,zp1,zmn,h5]⟩
  exact go xs 0 1001 b rfl (by omega) (by omega)
def stp(n:Nat)(c:List Int):List (List Int):=(List.range n).map fun(k:Nat)=>c++[(k:Int)]
def ylg:List Nat->List (List Int)->List (List Int)
 |[],acc=>acc
 |n::ns,acc=>ylg ns (acc.flatMap (stp n))
def ykn:List Nat->Nat->Prop
 |[],a=>a<=900
 |n::ns,a=>a<=900/\ykn ns (a * n)
theorem ykn.le:∀ {ns:List Nat} {a:Nat},ykn ns a->a<=900
 |[],_,h=>h
 |_::_,_,h=>h.1
theorem zlb(n:Nat):∀ acc:List (List Int),(acc.flatMap (stp n)).length=acc.length * n
 |[]=>by simp
 |c::acc=>by
  rw[List.flatMap_cons,List.length_append,zlb n acc,List.length_cons,Nat.succ_mul];unfold stp;simp;omega
theorem zhz{σ j:Sto}{m:Nat}{xs:List D}(h:yhf σ m=some xs):yhf (σ++j) m=some xs:=by
 unfold yhf at h ⊢;cases e:σ[m]? with
 |none=>rw[e]at h;cases h
 |some o=>
  rw[List.getElem?_append_left (List.getElem?_eq_some_iff.mp e).1,e];rw[e]at h;exact h
theorem zi9(n:Nat)(acc:List (List Int))(i:Nat){c:List Int}(h:acc[i]?=some c):(acc.take (i+1)).flatMap (stp n)=(acc.take i).flatMap (stp n)++stp n c:=by
 rw[List.take_add_one,h,List.flatMap_append];simp
theorem zw5{n:Nat}{c:List Int}:∀ x∈stp n c,x.length=c.length+1:=fun x hx=>by
 unfold stp at hx;obtain⟨k,_,rfl⟩:=List.mem_map.mp hx;simp
def pls(v:Vw):List (List Int):=ylg (v.ps.map fun p=>p.st.length) [[]]
def Vw.Few(v:Vw):Prop:=ykn (v.ps.map fun p=>p.st.length) 1
theorem ztn:∀ (ps:List Po) (acc:List (List Int)) (c:List Int),c∈ylg (ps.map fun p=>p.st.length) acc ↔ ∃ a∈acc,∃ r:List Int,c=a++r/\r.length=ps.length/\plB ps r=true
 |[],acc,c=>by
  simp only[List.map_nil,ylg,List.length_nil];constructor
  ·intro h;exact⟨c,h,[],by simp,rfl,rfl⟩
  ·rintro ⟨a,ha,r,rfl,hr,_⟩;have:r=[]:=List.length_eq_zero_iff.mp hr;subst this;simpa using ha
 |p::ps,acc,c=>by
  simp only[List.map_cons,ylg];rw[ztn ps];constructor
  ·rintro ⟨a',ha',r,rfl,hr,hp⟩;obtain⟨a,ha,hx⟩:=List.mem_flatMap.mp ha';unfold stp at hx;obtain⟨k,hk,rfl⟩:=List.mem_map.mp hx;have hk:=List.mem_range.mp hk;refine⟨a,ha,(k:Int)::r,by simp,by simp[hr],?_⟩;unfold plB at hp ⊢;rw[List.zip_cons_cons,List.all_cons,hp,Bool.and_true];simp only[Bool.and_eq_true,decide_eq_true_eq];omega
  ·rintro ⟨a,ha,r,rfl,hr,hp⟩;cases r with
   |nil=>simp at hr
   |cons x r=>
    unfold plB at hp;rw[List.zip_cons_cons,List.all_cons]at hp;simp only[Bool.and_eq_true,decide_eq_true_eq]at hp;refine⟨a++[x],List.mem_flatMap.mpr ⟨a,ha,?_⟩,r,by simp,by simpa using hr,hp.2⟩;unfold stp;exact List.mem_map.mpr ⟨x.toNat,List.mem_range.mpr (by omega),by rw[show ((x.toNat:Nat):Int)=x by omega]⟩
theorem zto(v:Vw)(c:List Int):c∈pls v ↔ c.length=v.ps.length/\plB v.ps c=true:=by
 unfold pls;rw[ztn];constructor
 ·rintro ⟨a,ha,r,rfl,h1,h2⟩;have:a=[]:=by simpa using ha
  subst this;exact⟨by simpa using h1,by simpa using h2⟩
 ·rintro ⟨h1,h2⟩;exact⟨[],by simp,c,by simp,h1,h2⟩
theorem yc0(v:Vw)(hv:v.Ok):∃ x xs,pls v=x::xs:=by
 have h:v.ps.map (fun _=>(0:Int))∈pls v:=by
  rw[zto];refine⟨by simp,?_⟩;unfold plB;rw[List.all_eq_true];intro q hq;obtain⟨i,hi⟩:=List.getElem?_of_mem hq;have e:=List.getElem?_zip_eq_some.mp hi;have h1:=(hv.sl q.1 (List.mem_of_getElem? e.1)).1;have h2:q.2=0:=by
   have:=e.2;rw[List.getElem?_map]at this;obtain⟨_,_,z⟩:=Option.map_eq_some_iff.mp this;exact z.symm
  simp only[Bool.and_eq_true,decide_eq_true_eq];omega
 cases e:pls v with
 |nil=>rw[e]at h;cases h
 |cons x xs=>exact⟨x,xs,rfl⟩
theorem zjk:∀ (ns:List Nat) (acc:List (List Int)),ykn ns acc.length->(ylg ns acc).length<=900
 |[],acc,h=>h
 |n::ns,acc,h=>zjk ns _ (by rw[zlb];exact h.2)
def tot(v:Vw)(cs:List Int):Int:=frm v (chS v.ps cs)+ymn (lF (grp (AT v (chS v.ps cs))) v.e) v.e (grp (AT v (chS v.ps cs)))
structure Best(v:Vw)(cs:List Int):Prop where
 len:cs.length=v.ps.length
 pl:plB v.ps cs=true
 le:∀ c,c.length=v.ps.length->plB v.ps c=true->tot v cs<=tot v c
structure ChAt(S:Sto)(k C:Nat)(rs:List Nat)(acc:List (List Int)):Prop where
 ls:yhf S C=some (rs.map D.ref)
 len:rs.length=acc.length
 at_:∀ (i r:Nat) (c:List Int),rs[i]?=some r->acc[i]?=some c->S[r]?=some (cO c)
 nd:rs.Nodup
 ge:∀ r∈rs,k<=r
 kC:k<=C
noncomputable abbrev acJ:Ev->M Fl:=(yoi (yf1 zt9 (yl9 3) (yfa (yfz yoq (eLC (yoy (yfx ynm (yfa (yl9 2) yle))) [4] (tgN 0) yfd (yl2 yhv (yl9 1) (eLv (yfa (yl9 0) yle))))) yle)))
theorem zp9{σ:Sto}{d:D}{c:List Int}(h:ym3 σ d=some (c.map D.int))(hc:c.length<=800)(k:Int):yhv d (.lst [.int k]) σ=.ok (.ref σ.length) (σ++[cO (c++[k])]):=by
 have e:ym3 σ (.lst [.int k])=some [.int k]:=rfl;unfold yhv;simp only[h,e];rw[if_pos (by simp[cap];omega)];unfold yho cO;simp
theorem ybb(R C d:D)(zs:List D)(hz:zs.length<=20)(c:List Int)(hc:c.length<=800)(L:D)(S:Sto)(hd:∀ j,ym3 (S++j) d=some (c.map D.int)) :
  yfz yoq (eLC (yoy (yfx ynm (yfa (yl9 2) yle))) [4] (tgN 0) yfd (yl2 yhv (yl9 1) (eLv (yfa (yl9 0) yle)))) [some R,some C,some (.lst zs),some L,some d] S=.ok (.lst (rfs S.length zs.length)) (S++(stp zs.length c).map cO):=by
 have rn:=yoe zs.length (by omega) S;have l:=lcJ (xs:=List.range zs.length) (ix:=[4]) (ρ:=[some R,some C,some (.lst zs),some L,some d]) (σ:=S) (σ0:=S) (src:=yoy (yfx ynm (yfa (yl9 2) yle))) (fe:=yl2 yhv (yl9 1) (eLv (yfa (yl9 0) yle))) (fun(k:Nat)=>D.int (k:Int)) (fun n _=>D.ref n) (fun(k:Nat)=>cO (c++[(k:Int)])) (by
   unfold ydg at rn;generalize (List.range zs.length).map (fun(k:Nat)=>D.int k)=RG at *;simp[rn]) (by simp;omega) (fun k _ j=>by
   have a:=zp9 (hd j) hc (k:Int);generalize (k:Int)=K at *;simp[a])
 rw[zxm zs.length _ _ (by simp)]at l;rw[zkl,l];have e1:(stp zs.length c).map cO=(List.range zs.length).map fun(k:Nat)=>cO (c++[(k:Int)]):=by unfold stp;rw[List.map_map];rfl
 have e2:rfs (S.length+1) zs.length=((List.range zs.length).map fun i=>S.length+1+i).map D.ref:=by unfold rfs;rw[List.map_map];rfl
 have fz:=zhd (σ:=S) (σ':=S++.lst (rfs (S.length+1) zs.length)::(List.range zs.length).map fun(k:Nat)=>cO (c++[(k:Int)])) (C:=S.length) (rs:=(List.range zs.length).map fun i=>S.length+1+i) (acc:=stp zs.length c) (by simp) (Nat.le_refl _) (by rw[e2];simp) (by unfold stp;simp) (fun i r q h1 h2=>by
   rw[List.getElem?_map]at h1;obtain⟨i',hi',rfl⟩:=Option.map_eq_some_iff.mp h1;have hi:=(List.getElem?_eq_some_iff.mp hi').1;rw[List.length_range]at hi;rw[List.getElem?_range hi]at hi';cases hi';unfold stp at h2;rw[List.getElem?_map,List.getElem?_range hi]at h2;cases h2;rw[List.getElem?_append_right (by omega),show S.length+1+i - S.length=i+1 by omega,List.getElem?_cons_succ,List.getElem?_map,List.getElem?_range hi];rfl) (by
    rw[List.nodup_iff_pairwise_ne,List.pairwise_map];exact List.Pairwise.imp (fun h z=>h (by omega)) (List.nodup_iff_pairwise_ne.mp List.nodup_range)) (fun r hr=>by
   obtain⟨i,_,rfl⟩:=List.mem_map.mp hr;omega)
 rw[fz];congr 2;unfold stp;simp
theorem zjn(R C:D)(zs:List D)(hz:zs.length<=20)(c:List Int)(hc:c.length<=800)(r:Nat)(ys:List (List Int))(hy:ys.length+zs.length<=1000)(σ:Sto)(hr:σ[r]?=some (cO c)) :
  acJ [some R,some C,some (.lst zs),some (.ref σ.length),some (.ref r)] (σ++.lst (rfs (σ.length+1) ys.length)::ys.map cO)=.ok (.nx [some R,some C,some (.lst zs),some (.ref σ.length),some (.ref r)]) (σ++.lst (rfs (σ.length+1) (ys++stp zs.length c).length)::(ys++stp zs.length c).map cO):=by
 have hl:=LsI.at hr;have l:=ybb R C (.ref r) zs hz c hc (.ref σ.length) (σ++.lst (rfs (σ.length+1) ys.length)::ys.map cO) (fun j=>by rw[List.append_assoc];exact hl _);have hlen:(σ++.lst (rfs (σ.length+1) ys.length)::ys.map cO).length=σ.length+1+ys.length:=by simp;omega
 have sl:(stp zs.length c).length=zs.length:=by unfold stp;simp
 rw[hlen]at l;have ex:=ze4 (σ:=σ) (os:=ys.map cO++(stp zs.length c).map cO) (ys:=rfs (σ.length+1) ys.length) (zs:=rfs (σ.length+1+ys.length) zs.length) (by simp;omega);rw[zvo]at ex;rw[List.length_append,sl,List.map_append];rw[show σ++Ob.lst (rfs (σ.length+1) ys.length)::ys.map cO++(stp zs.length c).map cO=σ++Ob.lst (rfs (σ.length+1) ys.length)::(ys.map cO++(stp zs.length c).map cO) by simp]at l;have hm:ym3 (σ++.lst (rfs (σ.length+1) ys.length)::ys.map cO) (.ref σ.length)=some (rfs (σ.length+1) ys.length):=by show yhf _ _=_;unfold yhf;simp
 unfold acJ;generalize yfz yoq (eLC (yoy (yfx ynm (yfa (yl9 2) yle))) [4] (tgN 0) yfd (yl2 yhv (yl9 1) (eLv (yfa (yl9 0) yle))))=FE at *;generalize (σ++Ob.lst (rfs (σ.length+1) ys.length)::ys.map cO)=S0 at *;generalize (σ++Ob.lst (rfs (σ.length+1) ys.length)::(ys.map cO++(stp zs.length c).map cO))=S1 at *;generalize (σ++Ob.lst (rfs (σ.length+1) (ys.length+zs.length))::(ys.map cO++(stp zs.length c).map cO))=S2 at *;generalize rfs (σ.length+1+ys.length) zs.length=Z at *;simp[l,ex,yhm,hm]
noncomputable abbrev acK:Ev->M Fl:=(yoo (yop 3 (yl6 yle))
 (yoo (yok (yoz (yl9 1)) (tgN 4) acJ)
 (yop 1 (yl9 3))))
theorem zxn{α β:Type}:∀ {xs:List α} {ys:List β},xs.length=ys.length->(xs.zip ys).map (·.1)=xs
 |[],[],_=>rfl
 |[],_::_,h=>by simp at h
 |_::_,[],h=>by simp at h
 |x::xs,y::ys,h=>by rw[List.zip_cons_cons,List.map_cons,zxn (by simpa using h)]
theorem zgg(R:D)(C:Nat)(rs:List Nat)(acc:List (List Int))(zs:List D)(hz:zs.length<=20)(x3 x4:Option D)(σ:Sto)(k:Nat)(hk:k<=σ.length)(hs:ChAt σ k C rs acc)(hc:∀ c∈acc,c.length<=800)(h1:acc.length<=900)(h2:acc.length * zs.length<=900):∃ y4,
  acK [some R,some (.ref C),some (.lst zs),x3,x4] σ=.ok (.nx [some R,some (.ref σ.length),some (.lst zs),some (.ref σ.length),y4]) (σ++.lst (rfs (σ.length+1) (acc.flatMap (stp zs.length)).length)::(acc.flatMap (stp zs.length)).map cO):=by
 have zf:=zxn hs.len;have zl:(rs.zip acc).length=acc.length:=by rw[List.length_zip,hs.len];omega
 obtain⟨y4,lp⟩:=ymg (tg:=tgN 4) (body:=acJ) (S:=.lref C) (rs.zip acc) (fun p=>D.ref p.1) (fun _ (b:Option D)=>[some R,some (.ref C),some (.lst zs),some (.ref σ.length),b]) (fun i=>σ++.lst (rfs (σ.length+1) ((acc.take i).flatMap (stp zs.length)).length)::((acc.take i).flatMap (stp zs.length)).map cO) (by omega) (fun i _=>by
   show (yhf (σ++_) C).map _=_;rw[zhz hs.ls];show some ((rs.map D.ref)[i]?)=_;rw[show (rs.zip acc).map (fun p=>D.ref p.1)=((rs.zip acc).map (·.1)).map D.ref by rw[List.map_map];rfl,zf]) (fun i p b hx=>by
  obtain⟨e1,e2⟩:=List.getElem?_zip_eq_some.mp hx;refine⟨[some R,some (.ref C),some (.lst zs),some (.ref σ.length),some (.ref p.1)],some (.ref p.1),rfl,?_⟩;have hi:=(List.getElem?_eq_some_iff.mp e2).1;have hb:((acc.take i).flatMap (stp zs.length)).length+zs.length<=1000:=by
   rw[zlb,List.length_take];have:min i acc.length * zs.length+zs.length=(min i acc.length+1) * zs.length:=by rw[Nat.succ_mul]
   have h3:(min i acc.length+1) * zs.length<=acc.length * zs.length:=Nat.mul_le_mul_right _ (by omega);omega
  rw[zi9 zs.length acc i e2];exact zjn R (.ref C) zs hz p.2 (hc p.2 (List.mem_of_getElem? e2)) p.1 _ hb σ (hs.at_ i p.1 p.2 e1 e2)) x4
 refine⟨y4,?_⟩;rw[zl,List.take_length]at lp;simp only[List.take_zero,List.flatMap_nil,List.map_nil,List.length_nil,show rfs (σ.length+1) 0=[]from rfl]at lp;have s3:yi8 (.ref C) (σ++[.lst []])=.ok (.lref C) (σ++[.lst []]):=by
  unfold yi8;dsimp only;rw[zhz hs.ls]
 unfold acK;generalize acJ=B at *;generalize (σ++Ob.lst (rfs (σ.length+1) (acc.flatMap (stp zs.length)).length)::(acc.flatMap (stp zs.length)).map cO)=S2 at *;generalize D.lst zs=Z at *;simp[s3,lp]
theorem zj2(σ:Sto)(k:Nat)(hk:k<=σ.length)(ys:List (List Int)):ChAt (σ++.lst (rfs (σ.length+1) ys.length)::ys.map cO) k σ.length ((List.range ys.length).map fun i=>σ.length+1+i) ys:=by
 refine⟨?_,by simp,fun i r c h1 h2=>?_,?_,fun r hr=>?_,hk⟩
 ·have:rfs (σ.length+1) ys.length=((List.range ys.length).map fun i=>σ.length+1+i).map D.ref:=by unfold rfs;rw[List.map_map];rfl
  rw[<-this];unfold yhf;simp
 ·have hi:=(List.getElem?_eq_some_iff.mp h2).1;rw[List.getElem?_map,List.getElem?_range hi]at h1;cases h1;show (σ++_)[σ.length+1+i]?=_;rw[List.getElem?_append_right (by omega),show σ.length+1+i - σ.length=i+1 by omega,List.getElem?_cons_succ,List.getElem?_map,h2];rfl
 ·rw[List.nodup_iff_pairwise_ne,List.pairwise_map];exact List.Pairwise.imp (fun h z=>h (by omega)) (List.nodup_iff_pairwise_ne.mp List.nodup_range)
 ·obtain⟨i,_,rfl⟩:=List.mem_map.mp hr;omega
theorem zjm(v:Vw)(R:D)(σ:Sto):∀ (ps:List Po) (acc:List (List Int)) (C:Nat) (rs:List Nat) (J:Sto) (x2 x3 x4:Option D) (b:Nat),(∀ p∈ps,p.st.length<=20)->ChAt (σ++J) σ.length C rs acc->(∀ c∈acc,c.length<=b)->b+ps.length<=800->ykn (ps.map fun p=>p.st.length) acc.length->∃ C' rs' J' y2 y3 y4,
  ym2 (tgN 2) acK (ps.map (rdL v)) [some R,some (.ref C),x2,x3,x4] (σ++J)=.ok (.nx [some R,some (.ref C'),y2,y3,y4]) (σ++J')/\ChAt (σ++J') σ.length C' rs' (ylg (ps.map fun p=>p.st.length) acc)
 |[],acc,C,rs,J,x2,x3,x4,b,_,hs,_,_,_=>⟨C,rs,J,x2,x3,x4,by simp,hs⟩
 |p::ps,acc,C,rs,J,x2,x3,x4,b,hp,hs,hc,hb,hf=>by
  simp only[List.length_cons]at hb;rw[List.map_cons]at hf;obtain⟨f1,f2⟩:=hf;have hpl:=hp p List.mem_cons_self;have hlen:(p.st.map (rdD v p)).length=p.st.length:=by simp
  obtain⟨y4,e1⟩:=zgg R C rs acc (p.st.map (rdD v p)) (by rw[hlen];exact hpl) x3 x4 (σ++J) σ.length (by simp) hs (fun c h=>by have:=hc c h;omega) f1 (by rw[hlen];exact f2.le);rw[hlen]at e1;have s1:=zj2 (σ++J) σ.length (by simp) (acc.flatMap (stp p.st.length));rw[List.append_assoc]at e1 s1;obtain⟨C',rs',J',y2,y3,y4',e2,s2⟩:=zjm v R σ ps (acc.flatMap (stp p.st.length)) (σ++J).length _ _ (some (rdL v p)) (some (.ref (σ++J).length)) y4 (b+1) (fun q hq=>hp q (List.mem_cons_of_mem _ hq)) s1 (fun c h=>by
   obtain⟨a,ha,hx⟩:=List.mem_flatMap.mp h;have:=zw5 c hx;have:=hc a ha;omega) (by omega) (by rw[zlb];exact f2)
  refine⟨C',rs',J',y2,y3,y4',?_,s2⟩;rw[List.map_cons,zmp];simp only[List.set_cons_succ,List.set_cons_zero];have e3:acK [some R,some (.ref C),some (rdL v p),x3,x4] (σ++J)=_:=e1;rw[e3,zp1,zmn];exact e2
theorem zj3(v:Vw)(hv:v.Ok)(hf:v.Few)(σ:Sto):f_all_choices [.lst (v.ps.map (rdL v))] σ=.ok (.lst (rfs σ.length (pls v).length)) (σ++(pls v).map cO):=by
 have n3:=hv.n3;have c0:ChAt (σ++[.lst [],.lst [.ref σ.length]]) σ.length (σ.length+1) [σ.length] [[]]:=by
  refine⟨by unfold yhf;simp,rfl,fun i r c h1 h2=>?_,by simp,by simp,by omega⟩;cases i with
  |zero=>
   cases h1;cases h2;simp[cO]
  |succ i=>simp at h1
 obtain⟨C',rs',J',y2,y3,y4,e,s⟩:=zjm v (.lst (v.ps.map (rdL v))) σ v.ps [[]] (σ.length+1) [σ.length] [.lst [],.lst [.ref σ.length]] none none none 0 (fun p hp=>(hv.sl p hp).2) c0 (by simp) (by omega) hf;have hl:(σ++J')[C']?=some (.lst (rs'.map D.ref)):=by
  have hl:=s.ls;unfold yhf at hl;cases e:(σ++J')[C']? with
  |none=>rw[e]at hl;cases hl
  |some o=>
   rw[e]at hl;cases o with
   |lst xs=>cases hl;rfl
   |_=>cases hl
 have fz:=zhd (σ:=σ) (σ':=σ++J') (by simp) s.kC hl s.len s.at_ s.nd s.ge;rw[show ylg (v.ps.map fun p=>p.st.length) [[]]=pls v from rfl]at fz;have i0:yl6 (yfa (yl6 yle) yle) [some (.lst (v.ps.map (rdL v))),none,none,none,none] σ=.ok (.ref (σ.length+1)) (σ++[.lst [],.lst [.ref σ.length]]):=by
  have k1:ym4 [D.ref σ.length] (σ++[Ob.lst []])=.ok (.ref (σ.length+1)) (σ++[.lst [],.lst [.ref σ.length]]):=by unfold ym4;rw[if_pos (by simp[cap])];unfold yho;simp
  generalize D.lst (v.ps.map (rdL v))=RL at *;simp[k1]
 unfold acK acJ at e;unfold f_all_choices zb6;generalize v.ps.map (rdL v)=RL at *;generalize D.lst (rfs σ.length (pls v).length)=OUT at *;generalize (σ++(pls v).map cO)=S2 at *;generalize yl6 (yfa (yl6 yle) yle)=I0 at *;simp[i0,e,fz]
def bF(v:Vw)(cs:List Int):Fs:=lF (grp (AT v (chS v.ps cs))) v.e
def pJ(v:Vw)(a b:Nat)(c:List Int):D:=.tup [.int (tot v c),.ref a,.ref b]
def pps(v:Vw):Nat->List (List Int)->List D
 |_,[]=>[]
 |a,c::cs=>pJ v a (a+1) c::pps v (a+2) cs
def itl(v:Vw):List (List Int)->List Ob
 |[]=>[]
 |c::cs=>cO c::fO (bF v c)::itl v cs
def jsI:Nat->Nat->Nat->List Nat
 |_,_,0=>[]
 |a,b,n+1=>a::b::jsI (a+1) (b+1) n
theorem zs0{x:Nat}:∀ {n a b:Nat},x∈jsI a b n->(a<=x/\x<a+n)\/(b<=x/\x<b+n)
 |0,a,b,h=>by cases h
 |n+1,a,b,h=>by
  rcases List.mem_cons.mp h with h|h
  ·omega
  ·rcases List.mem_cons.mp h with h|h
   ·omega
   ·have:=zs0 h;omega
theorem yat:∀ (n a b:Nat),a+n<=b->(jsI a b n).Nodup
 |0,a,b,h=>by simp[jsI]
 |n+1,a,b,h=>by
  unfold jsI;rw[List.nodup_cons,List.nodup_cons];refine⟨fun z=>?_,fun z=>?_,yat n (a+1) (b+1) (by omega)⟩
  ·rcases List.mem_cons.mp z with z|z
   ·omega
   ·have:=zs0 z;omega
  ·have:=zs0 z;omega
def itJ(v:Vw):Nat->Nat->List (List Int)->List D
 |_,_,[]=>[]
 |a,b,c::cs=>pJ v a b c::itJ v (a+1) (b+1) cs
theorem ydl(v:Vw)(k:Nat):∀ (cs:List (List Int)) (a b:Nat),k<=a->k<=b->yoc k (itJ v a b cs)=jsI a b cs.length
 |[],a,b,_,_=>rfl
 |c::cs,a,b,ha,hb=>by
  unfold itJ yoc;rw[ydl v k cs (a+1) (b+1) (by omega) (by omega)];unfold pJ rfJ;simp only[yoc,rfJ];rw[if_neg (by omega),if_neg (by omega)];simp[jsI]
theorem zsg{v:Vw}{k:Nat}{js:List Nat}{σ:Sto}{m:Nat}:∀ (cs:List (List Int)) (a b q:Nat),k<=a->k<=b->(∀ i,i<cs.length->ymt (a+i) js=some (q+2 * i)/\ymt (b+i) js=some (q+2 * i+1))->fzL (fzJ k js σ (m+1)) (itJ v a b cs)=some (pps v (k+q) cs)
 |[],_,_,_,_,_,_=>rfl
 |c::cs,a,b,q,ha,hb,h=>by
  obtain⟨h1,h2⟩:=h 0 (by simp);have r:=zsg (v:=v) (k:=k) (js:=js) (σ:=σ) (m:=m) cs (a+1) (b+1) (q+2) (by omega) (by omega) (fun i hi=>by
   have:=h (i+1) (by simp;omega);rw[show a+1+i=a+(i+1) by omega,show b+1+i=b+(i+1) by omega,show q+2+2 * i=q+2 * (i+1) by omega];exact this)
  unfold itJ fzL;rw[r];unfold pJ;rw[zsd (ys:=[.int (tot v c),.ref (k+q),.ref (k+(q+1))]) (by simp[cl,clL]) (by
   unfold fzL;rw[yac (show cl (.int (tot v c))=true by simp[cl])];unfold fzL;rw[zsa ha (i:=q) (by simpa using h1)];unfold fzL;rw[zsa hb (i:=q+1) (by simpa using h2)];rfl)]
  rfl
theorem zss:∀ (n a b:Nat),a+n<=b->∀ i,i<n->ymt (a+i) (jsI a b n)=some (2 * i)/\ymt (b+i) (jsI a b n)=some (2 * i+1)
 |0,_,_,_,i,hi=>by omega
 |n+1,a,b,h,i,hi=>by
  unfold jsI;cases i with
  |zero=>
   refine⟨by simp[ymt],?_⟩;unfold ymt;rw[if_neg (by omega)];unfold ymt;rw[if_pos (by omega)];rfl
  |succ i=>
   obtain⟨h1,h2⟩:=zss n (a+1) (b+1) (by omega) i (by omega);rw[show a+1+i=a+(i+1) by omega]at h1;rw[show b+1+i=b+(i+1) by omega]at h2;refine⟨?_,?_⟩
   ·unfold ymt;rw[if_neg (by omega)];unfold ymt;rw[if_neg (by omega),h1];simp;omega
   ·unfold ymt;rw[if_neg (by omega)];unfold ymt;rw[if_neg (by omega),h2];simp;omega
theorem ztm{v:Vw}{S:Sto}:∀ (cs:List (List Int)) (a b:Nat),(∀ i c,cs[i]?=some c->S[a+i]?=some (cO c)/\S[b+i]?=some (fO (bF v c)))->(jsI a b cs.length).map (obJ S)=itl v cs
 |[],_,_,_=>rfl
 |c::cs,a,b,h=>by
  obtain⟨h1,h2⟩:=h 0 c rfl;rw[Nat.add_zero]at h1 h2;unfold itl;rw[List.length_cons];unfold jsI;rw[List.map_cons,List.map_cons,ybx h1,ybx h2,ztm cs (a+1) (b+1) fun i c hi=>by
   have:=h (i+1) c (by simpa using hi);rw[show a+1+i=a+(i+1) by omega,show b+1+i=b+(i+1) by omega];exact this]
theorem yb1{v:Vw}{S:Sto}{cs:List (List Int)}{a b:Nat}(h:∀ i c,cs[i]?=some c->S[a+i]?=some (cO c)/\S[b+i]?=some (fO (bF v c))):∀ j∈jsI a b cs.length,j<S.length/\okJ (obJ S j)=true:=fun j hj=>by
 rcases zs0 hj with⟨h1,h2⟩|⟨h1,h2⟩
 ·have e:=(h (j - a) _ (List.getElem?_eq_getElem (show j - a<cs.length by omega))).1;rw[show a+(j - a)=j by omega]at e;exact⟨(List.getElem?_eq_some_iff.mp e).1,by rw[ybx e];exact ybz _⟩
 ·have e:=(h (j - b) _ (List.getElem?_eq_getElem (show j - b<cs.length by omega))).2;rw[show b+(j - b)=j by omega]at e;exact⟨(List.getElem?_eq_some_iff.mp e).1,by rw[ybx e];exact yb0 _⟩
theorem zd0(v:Vw)(σ:Sto)(cs:List (List Int)):ygm yoq σ (.ok (.ref (σ.length+cs.length)) (σ++(cs.map cO++.lst (itJ v σ.length (σ.length+cs.length+1) cs)::cs.map fun c=>fO (bF v c))))=.ok (.lst (pps v σ.length cs)) (σ++itl v cs):=by
 have hat:∀ i c,cs[i]?=some c->(σ++(cs.map cO++.lst (itJ v σ.length (σ.length+cs.length+1) cs)::cs.map fun c=>fO (bF v c)))[σ.length+i]?=some (cO c)/\(σ++(cs.map cO++.lst (itJ v σ.length (σ.length+cs.length+1) cs)::cs.map fun c=>fO (bF v c)))[σ.length+cs.length+1+i]?=some (fO (bF v c)):=fun i c h=>by
  have hi:=(List.getElem?_eq_some_iff.mp h).1;refine⟨?_,?_⟩
  ·rw[List.getElem?_append_right (by omega),show σ.length+i - σ.length=i by omega,List.getElem?_append_left (by simpa using hi),List.getElem?_map,h];rfl
  ·rw[List.getElem?_append_right (by omega),List.getElem?_append_right (by simp;omega),List.length_map,show σ.length+cs.length+1+i - σ.length - cs.length=i+1 by omega,List.getElem?_cons_succ,List.getElem?_map,h];rfl
 have hl:(σ++(cs.map cO++.lst (itJ v σ.length (σ.length+cs.length+1) cs)::cs.map fun c=>fO (bF v c)))[σ.length+cs.length]?=some (.lst (itJ v σ.length (σ.length+cs.length+1) cs)):=by
  rw[List.getElem?_append_right (by omega),List.getElem?_append_right (by simp),List.length_map,show σ.length+cs.length - σ.length - cs.length=0 by omega];rfl
 have ht:(σ++(cs.map cO++.lst (itJ v σ.length (σ.length+cs.length+1) cs)::cs.map fun c=>fO (bF v c))).take σ.length=σ:=by simp
 generalize (σ++(cs.map cO++.lst (itJ v σ.length (σ.length+cs.length+1) cs)::cs.map fun c=>fO (bF v c)))=S at *;have ok:=yb1 hat;have:=zli (sel:=yoq) (σ:=σ) (σ':=S) (d:=.ref (σ.length+cs.length)) (d':=.lst (pps v σ.length cs)) (jsI σ.length (σ.length+cs.length+1) cs.length) (by
   unfold yoq;dsimp only;rw[if_neg (by omega),hl];exact ydl v _ cs _ _ (Nat.le_refl _) (by omega)) ht (yat _ _ _ (by omega)) (fun j hj=>⟨by rcases zs0 hj with h|h<;>omega,ok j hj⟩) (by
   unfold fzJ;rw[if_neg (by simp[cl])];dsimp only;rw[if_neg (by omega),zl4 (fun z=>by rcases zs0 z with h|h<;>omega),hl];dsimp only;rw[zsg (m:=4) cs σ.length (σ.length+cs.length+1) 0 (Nat.le_refl _) (by omega) (fun i hi=>by
    have:=zss cs.length σ.length (σ.length+cs.length+1) (by omega) i hi;simpa using this)]
   rfl)
 rw[this,ztm cs _ _ hat]
def pos(d:Nat):Nat->List (List Int)->List (Nat × List Int)
 |_,[]=>[]
 |a,c::cs=>(a,c)::pos d (a+d) cs
theorem zu6{β:Type}(d:Nat)(g:List Int->β):∀ (cs:List (List Int)) (a:Nat),(pos d a cs).map (fun p=>g p.2)=cs.map g
 |[],_=>rfl
 |c::cs,a=>by unfold pos;rw[List.map_cons,List.map_cons,zu6 d g cs]
theorem zu5(d:Nat):∀ (cs:List (List Int)) (a:Nat),(pos d a cs).length=cs.length
 |[],_=>rfl
 |c::cs,a=>by unfold pos;rw[List.length_cons,List.length_cons,zu5 d cs]
theorem znn:∀ (cs:List (List Int)) (a:Nat),(pos 1 a cs).map (fun p=>D.ref p.1)=rfs a cs.length
 |[],_=>rfl
 |c::cs,a=>by unfold pos;rw[List.map_cons,List.length_cons,zn3,znn cs]
theorem zu7(d:Nat){p:Nat × List Int}:∀ {cs:List (List Int)} {a:Nat},p∈pos d a cs->∃ i:Nat,cs[i]?=some p.2/\p.1=a+d * i
 |[],_,h=>by cases h
 |c::cs,a,h=>by
  rcases List.mem_cons.mp h with rfl|h
  ·exact⟨0,rfl,by simp⟩
  ·obtain⟨i,h1,h2⟩:=zu7 d h;exact⟨i+1,by simpa using h1,by rw[h2,Nat.mul_add];omega⟩
theorem zu8(v:Vw):∀ (cs:List (List Int)) (a:Nat),pps v a cs=(pos 2 a cs).map fun p=>pJ v p.1 (p.1+1) p.2
 |[],_=>rfl
 |c::cs,a=>by unfold pps pos;rw[List.map_cons,zu8 v cs]
theorem yet(v:Vw):∀ (cs:List (List Int)) (a b:Nat),ysF (fun n (p:Nat × List Int)=>pJ v p.1 n p.2) b (pos 1 a cs)=itJ v a b cs
 |[],_,_=>rfl
 |c::cs,a,b=>by unfold pos itJ ysF;rw[yet v cs]
theorem yar(v:Vw):∀ (cs:List (List Int)) (i:Nat) (c:List Int),cs[i]?=some c->(itl v cs)[2 * i]?=some (cO c)/\(itl v cs)[2 * i+1]?=some (fO (bF v c))
 |c::cs,0,x,h=>by cases h;exact⟨rfl,rfl⟩
 |c::cs,i+1,x,h=>by
  have:=yar v cs i x (by simpa using h);unfold itl;rw[show 2 * (i+1)=2 * i+1+1 by omega,List.getElem?_cons_succ,List.getElem?_cons_succ,List.getElem?_cons_succ,List.getElem?_cons_succ];exact this
theorem zhc{σ S:Sto}{a q:Nat}{t:Int}{c:List Int}{F:Fs}(ht:S.take σ.length=σ)(hq:σ.length<=q)(h1:S[q]?=some (cO c))(h2:S[q+1]?=some (fO F)):ygm yoq σ (.ok (.tup [.int t,.ref q,.ref (q+1)]) S)=.ok (.tup [.int t,.ref σ.length,.ref (σ.length+1)]) (σ++[cO c,fO F]):=by
 have:=zli (sel:=yoq) (σ:=σ) (σ':=S) (d:=.tup [.int t,.ref q,.ref (q+1)]) (d':=.tup [.int t,.ref σ.length,.ref (σ.length+1)]) [q,q+1] (by
   unfold yoq rfJ;simp only[yoc,rfJ];rw[if_neg (by omega),if_neg (by omega)];rfl) ht (by simp) (fun j hj=>by
   rcases List.mem_cons.mp hj with rfl|hj
   ·exact⟨hq,(List.getElem?_eq_some_iff.mp h1).1,by rw[ybx h1];exact ybz _⟩
   ·obtain rfl:j=q+1:=by simpa using hj
    exact⟨by omega,(List.getElem?_eq_some_iff.mp h2).1,by rw[ybx h2];exact yb0 _⟩) (zsd (by simp[cl,clL]) (by
   unfold fzL;rw[yac (show cl (.int t)=true by simp[cl])];unfold fzL;rw[zsa (i:=0) hq (by simp[ymt])];unfold fzL;rw[zsa (i:=1) (by omega) (by simp[ymt])];rfl))
 rw[this];simp[ybx h1,ybx h2]
theorem ycj(v:Vw)(hv:v.Ok)(hf:v.Few)(σ:Sto):∃ cs,Best v cs/\f_paper [v.O] σ=.ok (.tup [.int (tot v cs),.ref σ.length,.ref (σ.length+1)]) (σ++[cO cs,fO (bF v cs)]):=by
 obtain⟨c0,cs0,hx⟩:=yc0 v hv;have hl:=zjk _ [[]] hf;rw[show ylg (v.ps.map fun p=>p.st.length) [[]]=pls v from rfl]at hl;have r1:=fun σ=>zn4 v hv σ;have r2:=zj3 v hv hf σ;have f0:=fun σ=>v.f0 σ;have hS:∀ p∈pos 1 σ.length (pls v),(σ++(pls v).map cO)[p.1]?=some (cO p.2)/\p.2∈pls v:=fun p hp=>by
  obtain⟨i,h1,h2⟩:=zu7 1 hp;rw[h2,List.getElem?_append_right (by omega),show σ.length+1 * i - σ.length=i by omega,List.getElem?_map,h1];exact⟨rfl,List.mem_of_getElem? h1⟩
 have l:=lcJ (xs:=pos 1 σ.length (pls v)) (ix:=[1,0]) (ρ:=[some v.O,some (.lst (v.ps.map (rdL v))),none]) (σ:=σ++(pls v).map cO) (σ0:=σ) (src:=yoz (eFn 1 f_all_choices [] (yfa (yl9 1) yle))) (fe:=eFn 3 f_least_paper [] (yfa (eFn 2 f_chosen_readings [] (yfa (yl9 1) (yfa (yl9 0) yle))) (yfa (yl9 0) (yfa (eUn (yng [0] "every") (yl9 2)) yle)))) (fun p=>D.ref p.1) (fun n p=>pJ v p.1 n p.2) (fun p=>fO (bF v p.2)) (by
   rw[znn];generalize D.lst (v.ps.map (rdL v))=RL at *;generalize v.O=VO at *;generalize (σ++(pls v).map cO)=S1 at *;generalize rfs σ.length (pls v).length=RR at *;simp[r2]) (by rw[zu5];omega) (fun p hp j=>by
   obtain⟨h1,h2⟩:=hS p hp;obtain⟨h3,h4⟩:=(zto v p.2).mp h2;have hj:((σ++(pls v).map cO)++j)[p.1]?=some (cO p.2):=by rw[List.getElem?_append_left (List.getElem?_eq_some_iff.mp h1).1];exact h1
   have r3:=zqd v p.2 hv.n3 h4 ((σ++(pls v).map cO)++j) (LsI.at hj);have hmm:=zqc h4;have r4:=ztl v (chS v.ps p.2) (fun q hq=>hv.ok q.1 (hmm q hq).1 q.2 (hmm q hq).2) (Nat.le_trans (zqb _ _) hv.n3) p.1 ((σ++(pls v).map cO)++j) (List.getElem?_eq_some_iff.mp hj).1;rw[show frm v (chS v.ps p.2)+ymn (lF (grp (AT v (chS v.ps p.2))) v.e) v.e (grp (AT v (chS v.ps p.2)))=tot v p.2 from rfl,show lF (grp (AT v (chS v.ps p.2))) v.e=bF v p.2 from rfl]at r4;unfold pJ;generalize D.lst (v.ps.map (rdL v))=RL at *;generalize D.lst ((chS v.ps p.2).map fun q=>rdD v q.1 q.2)=QL at *;generalize v.O=VO at *;generalize (σ++(pls v).map cO++j)=S1 at *;generalize S1++[fO (bF v p.2)]=S2 at *;generalize List.length S1=n1 at *;simp[r3,r4,f0])
 rw[yet,zu6 1 (fun c=>fO (bF v c)),List.append_assoc,List.length_append,List.length_map]at l;have fz1:=zd0 v σ (pls v);have fe:yfz yoq (eLC (yoz (eFn 1 f_all_choices [] (yfa (yl9 1) yle))) [1,0] (tgN 0) yfd (eFn 3 f_least_paper [] (yfa (eFn 2 f_chosen_readings [] (yfa (yl9 1) (yfa (yl9 0) yle))) (yfa (yl9 0) (yfa (eUn (yng [0] "every") (yl9 2)) yle))))) [some v.O,some (.lst (v.ps.map (rdL v))),none] σ=.ok (.lst (pps v σ.length (pls v))) (σ++itl v (pls v)):=by
  rw[zkl,l];exact fz1
 obtain⟨p0,ps0,hp⟩:∃ p0 ps0,pos 2 σ.length (pls v)=p0::ps0:=by rw[hx];exact⟨_,_,rfl⟩
 have hm:yli (fun p:Nat × List Int=>tot v p.2) ps0 p0∈pos 2 σ.length (pls v):=by rw[hp];exact zjp _ _ _
 have hle:=zpr (fun p:Nat × List Int=>tot v p.2) ps0 p0;rw[<-hp]at hle;have m:=ztr (f:=fun p:Nat × List Int=>pJ v p.1 (p.1+1) p.2) (key:=fun p=>tot v p.2) (x:=p0) (xs:=ps0) (fe:=yl2 oIx (yl9 0) (eC (.int 0))) (rest:=[]) (σ:=σ++itl v (pls v)) (fun p _=>by
  have i0:∀ σ,oIx (pJ v p.1 (p.1+1) p.2) (.int 0) σ=.ok (.int (tot v p.2)) σ:=fun σ=>by unfold pJ;simp
  generalize pJ v p.1 (p.1+1) p.2=PP at *;simp[i0])
 rw[<-hp,<-zu8]at m;generalize yli (fun p:Nat × List Int=>tot v p.2) ps0 p0=pp at *;obtain⟨i,h1,h2⟩:=zu7 2 hm;obtain⟨g1,g2⟩:=yar v (pls v) i pp.2 h1;have a1:(σ++itl v (pls v))[pp.1]?=some (cO pp.2):=by rw[h2,List.getElem?_append_right (by omega),show σ.length+2 * i - σ.length=2 * i by omega];exact g1
 have a2:(σ++itl v (pls v))[pp.1+1]?=some (fO (bF v pp.2)):=by rw[h2,List.getElem?_append_right (by omega),show σ.length+2 * i+1 - σ.length=2 * i+1 by omega];exact g2
 have fz2:=zhc (σ:=σ) (S:=σ++itl v (pls v)) (a:=0) (q:=pp.1) (t:=tot v pp.2) (by simp) (by omega) a1 a2;have hpl:=(zto v pp.2).mp (List.mem_of_getElem? h1);refine⟨pp.2,⟨hpl.1,hpl.2,fun c k1 k2=>?_⟩,?_⟩
 ·have hc:=(zto v c).mpr ⟨k1,k2⟩;have:∃ q,(q,c)∈pos 2 σ.length (pls v):=by
   have e:c∈(pos 2 σ.length (pls v)).map (fun p=>p.2):=by rw[zu6 2 (fun c=>c)];simpa using hc
   obtain⟨p,hp1,rfl⟩:=List.mem_map.mp e;exact⟨p.1,hp1⟩
  obtain⟨q,hq⟩:=this;exact hle (q,c) hq
 ·unfold f_paper zsi;unfold pJ at m;generalize yfz yoq (eLC (yoz (eFn 1 f_all_choices [] (yfa (yl9 1) yle))) [1,0] (tgN 0) yfd (eFn 3 f_least_paper [] (yfa (eFn 2 f_chosen_readings [] (yfa (yl9 1) (yfa (yl9 0) yle))) (yfa (yl9 0) (yfa (eUn (yng [0] "every") (yl9 2)) yle)))))=FE at *;generalize pps v σ.length (pls v)=PL at *;generalize D.lst (v.ps.map (rdL v))=RL at *;generalize v.O=VO at *;generalize (σ++itl v (pls v))=S1 at *;generalize (σ++[cO pp.2,fO (bF v pp.2)])=S2 at *;simp[r1,fe,m,fz2]
theorem yer(v:Vw)(hv:v.Ok)(hf:v.Few)(σ:Sto):∃ cs,Best v cs/\f_worth [v.O] σ=.ok (.int (tot v cs)) σ:=by
 obtain⟨cs,hb,e⟩:=ycj v hv hf σ;refine⟨cs,hb,?_⟩;have fz:ymh σ (.ok (.int (tot v cs)) (σ++[cO cs,fO (bF v cs)]))=.ok (.int (tot v cs)) σ:=zrx (by simp[cl]) (by simp);have i0:∀ S,oIx (.tup [.int (tot v cs),.ref σ.length,.ref (σ.length+1)]) (.int 0) S=.ok (.int (tot v cs)) S:=fun S=>by simp
 unfold f_worth zsj;generalize D.tup [.int (tot v cs),.ref σ.length,.ref (σ.length+1)]=TD at *;generalize (σ++[cO cs,fO (bF v cs)])=S2 at *;generalize v.O=VO at *;simp[e,i0,fz]
theorem zjt{v:Vw}{c d:List Int}(hc:Best v c)(hd:Best v d):tot v c=tot v d:=by
 have:=hc.le d hd.len hd.pl;have:=hd.le c hc.len hc.pl;omega
def ypi(v:Vw)(qs:List (Po × St))(X:Int->Option Int):Int:=ymq (fun c=>if cnt (X c.t.w) v.e c then c.t.a else 0) (AT v qs)+own qs
def Xm(v:Vw)(qs:List (Po × St))(w:Int):Option Int:=mf (flt (AT v qs) w) v.e
theorem zgd{h h':Int->Tc->Int}{cs:List Tc}:∀ {W:List Int},(∀ w∈W,ymq (h w) (flt cs w)=ymq (h' w) (flt cs w))->ypm h cs W=ypm h' cs W
 |[],_=>rfl
 |w::W,hw=>by
  simp only[ypm];rw[hw w List.mem_cons_self,zgd fun z hz=>hw z (List.mem_cons_of_mem _ hz)]
theorem zxl{h h':Int->Tc->Int}{cs:List Tc}:∀ {W:List Int},(∀ w∈W,ymq (h w) (flt cs w)<=ymq (h' w) (flt cs w))->ypm h cs W<=ypm h' cs W
 |[],_=>Int.le_refl _
 |w::W,hw=>by
  simp only[ypm];have h1:=hw w List.mem_cons_self;have h2:=zxl (W:=W) fun z hz=>hw z (List.mem_cons_of_mem _ hz);omega
theorem zsn(v:Vw)(qs:List (Po × St)):ymn (lF (grp (AT v qs)) v.e) v.e (grp (AT v qs))=ymq (fun c=>if cmB (Xm v qs c.t.w) v.e c then c.t.a else 0) (AT v qs):=by
 rw[zsm];have gn:((spc (AT v qs)).map (·.1)).Nodup:=by
  unfold spc;rw[List.map_map];exact(show ((fun q:Int × List Tc=>q.1) ∘ fun w=>(w,flt (AT v qs) w))=id from rfl) ▸ (by rw[List.map_id];exact zg4 _)
 have fv:=zr8 (spc (AT v qs)) v.e gn;generalize lF (spc (AT v qs)) v.e=F at *;have e1:ymn F v.e (spc (AT v qs))=ypm (fun w c=>if cmB ((ymi F w).getD none) v.e c then c.t.a else 0) (AT v qs) (ddp (wds (AT v qs))):=by
  unfold spc;rw[zly]
 rw[e1,zgd (h':=fun w c=>if cmB (Xm v qs w) v.e c then c.t.a else 0) (fun w hw=>by
  have:ymi F w=some (mf (flt (AT v qs) w) v.e):=fv (w,flt (AT v qs) w) (by unfold spc;exact List.mem_map.mpr ⟨w,hw,rfl⟩);rw[this];rfl)]
 exact zpg (fun w c=>if cmB (Xm v qs w) v.e c then c.t.a else 0) _ (zg4 _) _ fun c hc=>(zqr _ _).mpr (List.mem_map.mpr ⟨c,hc,rfl⟩)
theorem yj5(v:Vw)(cs:List Int):tot v cs=ypi v (chS v.ps cs) (Xm v (chS v.ps cs)):=by
 unfold tot ypi;rw[zsn,zru,zql (fun w=>Xm v (chS v.ps cs) w)];omega
def Leg(v:Vw)(qs:List (Po × St))(X:Int->Option Int):Prop:=∀ w,X w∈none::fcs (flt (AT v qs) w)
theorem yeg(v:Vw)(cs:List Int)(X:Int->Option Int)(hX:Leg v (chS v.ps cs) X):tot v cs<=ypi v (chS v.ps cs) X:=by
 rw[yj5];generalize chS v.ps cs=qs at *;unfold ypi;rw[zql (fun w=>Xm v qs w),zql X];have h:ymq (fun c=>if cmB (Xm v qs c.t.w) v.e c then c.t.a else 0) (AT v qs)<=ymq (fun c=>if cmB (X c.t.w) v.e c then c.t.a else 0) (AT v qs):=by
  have m:∀ c∈AT v qs,c.t.w∈ddp (wds (AT v qs)):=fun c hc=>(zqr _ _).mpr (List.mem_map.mpr ⟨c,hc,rfl⟩);rw[<-zpg (fun w c=>if cmB (Xm v qs w) v.e c then c.t.a else 0) _ (zg4 _) _ m,<-zpg (fun w c=>if cmB (X w) v.e c then c.t.a else 0) _ (zg4 _) _ m];refine zxl fun w _=>?_;rw[<-zf9,<-zf9];exact yhn (flt (AT v qs) w) v.e (X w) (hX w)
 omega
theorem zfd{h h':Tc->Int}:∀ {cs:List Tc},(∀ c∈cs,h c=h' c)->ymq h cs=ymq h' cs
 |[],_=>rfl
 |c::cs,e=>by
  have i:=zfd (cs:=cs) fun x hx=>e x (List.mem_cons_of_mem _ hx);unfold ymq at i ⊢;rw[List.map_cons,List.map_cons,List.sum_cons,List.sum_cons,e c List.mem_cons_self,i]
theorem yjk{v:Vw}{cs:List Int}{F:Fs}{T:Int}(h:suB v cs F T=true){b:List Int}(hb:Best v b):tot v b<=T:=by
 unfold suB at h;simp only[Bool.and_eq_true,beq_iff_eq]at h;obtain⟨h1,h2,⟨h3,h4⟩,h5⟩:=h;have h6:=hb.le cs (by omega) h2;refine Int.le_trans h6 ?_;rw[h5,zi8];have leg:Leg v (chS v.ps cs) (fun w=>if w∈wds (AT v (chS v.ps cs))then (ymi F w).getD none else none):=fun w=>by
  dsimp only;by_cases hw:w∈wds (AT v (chS v.ps cs))
  ·rw[if_pos hw];have hm:(w,flt (AT v (chS v.ps cs)) w)∈grp (AT v (chS v.ps cs)):=by
    rw[zsm];unfold spc;exact List.mem_map.mpr ⟨w,(zqr _ _).mpr hw,rfl⟩
   have ht:=List.all_eq_true.mp h4 _ hm;unfold tfB at ht;dsimp only at ht;cases e:ymi F w with
   |none=>rw[e]at ht;cases ht
   |some x=>
    rw[e]at ht;cases x with
    |none=>exact List.mem_cons_self
    |some z=>
     refine List.mem_cons_of_mem _ ?_;unfold fOk at ht;obtain⟨c,hc,hz⟩:=List.any_eq_true.mp ht;unfold fcs;exact List.mem_map.mpr ⟨c,hc,by rw[eq_of_beq hz];rfl⟩
  ·rw[if_neg hw];exact List.mem_cons_self
 have h7:=yeg v cs _ leg;unfold ypi at h7;rw[zfd (h':=fun c=>if cnt ((ymi F c.t.w).getD none) v.e c then c.t.a else 0) (fun c hc=>by
  have:c.t.w∈wds (AT v (chS v.ps cs)):=List.mem_map.mpr ⟨c,hc,rfl⟩;simp only[this,if_true])]at h7
 exact h7
theorem yaf(v:Vw)(qs:List (Po × St)):((grp (AT v qs)).map (·.1)).Nodup:=by
 rw[zsm];unfold spc;rw[List.map_map];exact(show ((fun q:Int × List Tc=>q.1) ∘ fun w=>(w,flt (AT v qs) w))=id from rfl) ▸ (by rw[List.map_id];exact zg4 _)
theorem zw6{v:Vw}{cs:List Int}(hb:Best v cs):suB v cs (bF v cs) (tot v cs)=true:=by
 unfold suB;simp only[Bool.and_eq_true,beq_iff_eq];refine⟨by rw[hb.len],hb.pl,⟨by unfold bF lF;rw[List.length_map],?_⟩,rfl⟩;rw[List.all_eq_true];intro q hq;have fv:=zr8 _ v.e (yaf v (chS v.ps cs)) q hq;unfold tfB bF;rw[fv];dsimp only;have hm:=ybj q.2 v.e;cases e:mf q.2 v.e with
 |none=>rfl
 |some z=>
  rw[e]at hm;rcases List.mem_cons.mp hm with hm|hm
  ·cases hm
  ·unfold fcs at hm;obtain⟨c,hc,hz⟩:=List.mem_map.mp hm;unfold fOk;exact List.any_eq_true.mpr ⟨c,hc,by rw[Option.some.inj hz];exact beq_self_eq_true _⟩
theorem zoz{v:Vw}{cs:List Int}(hb:Best v cs){T:Int}(h:T≠tot v cs):suB v cs (bF v cs) T=false:=by
 have e:(T == frm v (chS v.ps cs)+ymn (bF v cs) v.e (grp (AT v (chS v.ps cs))))=false:=by
  rw[beq_eq_false_iff_ne];exact h
 unfold suB;rw[e];simp
section
variable{α:Type}{xs:List α}{σ:Sto}{ρ:Ev}{ix:List Nat}{fe:Ev->M D}
theorem ya8{nx:NX}{rest:Ev}(f y:α->D)(hn:∀ i σ,nx i σ=match xs[i]? with|some x=>some (some (f x))|none=>if i=xs.length then some none else none)(step:∀ x∈xs,∀ j,fe (some (f x)::rest) (σ++j)=.ok (y x) (σ++j))(hl:xs.length<=1000) :
  ∀ (k i:Nat) (o:Option D) (ys:List D),xs.length<k+i->i<=xs.length->ys.length<=i->
   ztd nx σ.length (tgN 0) yfd fe k i (o::rest) (σ++[.lst ys])=.ok () (σ++[.lst (ys++(xs.drop i).map y)]):=by
 intro k;induction k with
 |zero=>intro i o ys h1 h2;omega
 |succ k ih=>
  intro i o ys h1 h2 hy;unfold ztd;rw[hn];cases e:xs[i]? with
  |none=>
   have hi:xs.length<=i:=List.getElem?_eq_none_iff.mp e;have hi2:i=xs.length:=by omega
   dsimp only;rw[if_pos hi2,List.drop_eq_nil_of_le hi];simp
  |some d=>
   obtain⟨hi,ed⟩:=List.getElem?_eq_some_iff.mp e;have hd:xs.drop i=d::xs.drop (i+1):=by rw[<-ed];exact List.drop_eq_getElem_cons hi
   have s2:=step d (by rw[<-ed];exact List.getElem_mem hi) [.lst ys];have s1:yfd (some (f d)::rest) (σ++[.lst ys])=.ok true (σ++[.lst ys]):=rfl;show bnd (nox (yfd (some (f d)::rest))) _ _=_;rw[zx2,ybo s1,zp1,if_pos rfl];show bnd (nox (fe (some (f d)::rest))) _ _=_;rw[zx2,ybo s2,zp1,zx2,zew (by omega),zp1];show ztd _ _ _ _ _ k (i+1) (some (f d)::rest) _=_;rw[ih (i+1) (some (f d)) (ys++[y d]) (by omega) (by omega) (by simp;omega),hd];simp
theorem lcM{σ0:Sto}{src:Ev->M NX}{nx:NX}(f y:α->D)(hs:src ρ σ0=.ok nx σ)(hn:∀ i σ,nx i σ=match xs[i]? with|some x=>some (some (f x))|none=>if i=xs.length then some none else none)(hl:xs.length<=1000)
  (step:∀ x∈xs,∀ j,fe (some (f x)::none::(ix.map fun i=>(ρ[i]?).getD none)) (σ++j)=.ok (y x) (σ++j)) :
  yl5 src ix (tgN 0) yfd fe ρ σ0=.ok (.ref σ.length) (σ++[.lst (xs.map y)]):=by
 show bnd (src ρ) (ym1 (tgN 0) yfd fe (zx0 ix ρ)) σ0=_;rw[zx2,hs,zp1];show bnd (ztd nx σ.length (tgN 0) yfd fe 1001 0 (none::none::(ix.map fun i=>(ρ[i]?).getD none))) _ (σ++[.lst []])=_;rw[zx2,ya8 f y hn step hl 1001 0 none [] (by omega) (by omega) (by simp),zp1];simp
end
theorem ylh{σ:Sto}{x y:D}{xs ys:List D}(hx:ym3 σ x=some xs)(hy:ym3 σ y=some ys)(hl:xs.length+ys.length<=1000):yna x y σ=.ok (.lst (xs++ys)) σ:=by
 have e:yna x y=yht x y:=by
  cases x with
  |ref n=>cases y<;>rfl
  |lst l=>cases y<;>rfl
  |_=>cases hx
 rw[e];unfold yht;simp only[hx,hy];rw[if_pos (show _<=cap from hl)]
theorem zoj{σ:Sto}{b:Nat}{o o':Ob}(h:σ[b]?=some o)(j:Sto):((σ.set b o')++j).set b o=σ++j:=by
 have hb:=(List.getElem?_eq_some_iff.mp h).1;rw[List.set_append_left _ _ (by simpa using hb),List.set_set];congr 1;apply List.ext_getElem?;intro i;rw[List.getElem?_set];split
 ·next e=>subst e;first|exact h.symm|(rw[if_pos hb,h])
 ·rfl
theorem zxg{S:Sto}{b:Nat}{F:Fs}(hF:S[b]?=some (fO F))(hl:F.length<=900)(TD:D)(h2:∀ σ,oIx TD (.int 2) σ=.ok (.ref b) σ)(x1 x2:Option D) :
  yl3 (yf5 (yl2 oIx (yl9 0) (eC (.int 2))) (yl5 (yji (yl2 oIx (yl9 0) (eC (.int 2)))) [] (tgN 0) yfd (eOr (yl2 ynk (yl9 0) (eC .non)) (yl1 (eUn (ynj .int) (yl9 0)) (yl7 (eUn (ynj .bool) (yl9 0))))))) [some TD,x1,x2] S=.ok (.lst (F.map fun _=>.bl true)) S:=by
 have e1:yl2 oIx (yl9 0) (eC (.int 2)) [some TD,x1,x2] S=.ok (.ref b) S:=by simp[h2]
 have s1:yji (yl2 oIx (yl9 0) (eC (.int 2))) [some TD,x1,x2] S=.ok (nxV (kvF F)) (S.set b (.fdic (kvF F))):=by
  unfold yji;rw[zx2,e1,zp1];unfold yj8;dsimp only;rw[hF];rfl
 have l:=lcM (xs:=F) (ix:=[]) (ρ:=[some TD,x1,x2]) (σ:=S.set b (.fdic (kvF F))) (σ0:=S) (src:=yji (yl2 oIx (yl9 0) (eC (.int 2)))) (fe:=eOr (yl2 ynk (yl9 0) (eC .non)) (yl1 (eUn (ynj .int) (yl9 0)) (yl7 (eUn (ynj .bool) (yl9 0))))) (fun p=>oD p.2) (fun _=>D.bl true) s1 (fun i σ=>by
   unfold nxV kvF;rw[List.getElem?_map,List.length_map];cases F[i]?<;>rfl) (by omega) (fun p _ j=>by
   cases p.2 with
   |none=>simp[oD]
   |some z=>simp[oD])
 have hb:=(List.getElem?_eq_some_iff.mp hF).1;have hS:((S.set b (.fdic (kvF F)))++[.lst (F.map fun _=>D.bl true)])[b]?=some (.fdic (kvF F)):=by
  rw[List.getElem?_append_left (by simpa using hb),List.getElem?_set,if_pos rfl,if_pos hb]
 have th:yf5 (yl2 oIx (yl9 0) (eC (.int 2))) (yl5 (yji (yl2 oIx (yl9 0) (eC (.int 2)))) [] (tgN 0) yfd (eOr (yl2 ynk (yl9 0) (eC .non)) (yl1 (eUn (ynj .int) (yl9 0)) (yl7 (eUn (ynj .bool) (yl9 0)))))) [some TD,x1,x2] S=.ok (.ref S.length) (S++[.lst (F.map fun _=>D.bl true)]):=by
  unfold yf5 thw;rw[e1];dsimp only;rw[hF];unfold fO;dsimp only;rw[l];unfold yj3;simp only[if_true,hS];have sb:=zoj (o':=.fdic (kvF F)) hF [.lst (F.map fun _=>D.bl true)];unfold fO at sb;rw[sb,List.length_set]
 show ymh S (yf5 _ _ _ S)=_;rw[th];exact zry (zqf fun _=>by simp[cl])
theorem zrn(x0 x1:Option D)(σ:Sto):∀ (l:List Int) (x2:Option D),∃ y2,ym2 (tgN 2) fmB (l.map D.int) [x0,x1,x2] σ=.ok (.nx [x0,x1,y2]) σ
 |[],x2=>⟨x2,by simp⟩
 |a::l,x2=>by
  obtain⟨y2,h⟩:=zrn x0 x1 σ l (some (.int a));refine⟨y2,?_⟩;have st:fmB [x0,x1,some (.int a)] σ=.ok (.nx [x0,x1,some (.int a)]) σ:=by unfold fmB;simp
  rw[List.map_cons,zmp];simp only[List.set_cons_succ,List.set_cons_zero];rw[st,zp1,zmn,h]
theorem zrs(T:Int)(a b:Nat)(cs:List Int)(F:Fs)(PL:List D)(S:Sto)(ha:S[a]?=some (cO cs))(hb:S[b]?=some (fO F))(hl:cs.length=PL.length)(h3:cs.length<=100)(hF:F.length<=100):f__law_form [.tup [.int T,.ref a,.ref b],.lst PL] S=.ok (.bl true) S:=by
 have j0:∀ σ,oIx (.tup [.int T,.ref a,.ref b]) (.int 0) σ=.ok (.int T) σ:=fun σ=>by simp
 have j1:∀ σ,oIx (.tup [.int T,.ref a,.ref b]) (.int 1) σ=.ok (.ref a) σ:=fun σ=>by simp
 have j2:∀ σ,oIx (.tup [.int T,.ref a,.ref b]) (.int 2) σ=.ok (.ref b) σ:=fun σ=>by simp
 have t0:ynj .tuple (.tup [.int T,.ref a,.ref b]) S=.ok (.bl true) S:=rfl;have t1:ynj .list (.ref a) S=.ok (.bl true) S:=by unfold ynj ymu;dsimp only;rw[ha];rfl
 have t2:ynj .dict (.ref b) S=.ok (.bl true) S:=by unfold ynj ymu;dsimp only;rw[hb];rfl
 have n0:ynm [.tup [.int T,.ref a,.ref b]] S=.ok (.int 3) S:=rfl;have n1:ynm [.ref a] S=.ok (.int cs.length) S:=by have:=(LsI.at ha).len [];rwa [List.append_nil]at this
 have n2:ynm [.lst PL] S=.ok (.int cs.length) S:=by rw[hl];rfl
 have a1:yna (.lst [.int T]) (.ref a) S=.ok (.lst ((T::cs).map D.int)) S:=by
  rw[ylh (xs:=[.int T]) rfl (LsI.at ha).now (by simp;omega)];rfl
 have k1:ymh S (ybs [.ref b] S)=.ok (.lst ((F.map (·.1)).map D.int)) S:=by
  have e:ybs [.ref b] S=.ok (.ref S.length) (S++[.lst ((F.map (·.1)).map D.int)]):=by
   unfold ybs;simp only[(DcI.at hb).now];rw[if_pos (by unfold kvF cap;simp;omega)];unfold yho kvF;rw[List.map_map,List.map_map];rfl
  rw[e];exact zry (zqf fun _=>by simp[cl])
 have a2:yna (.lst ((T::cs).map D.int)) (.lst ((F.map (·.1)).map D.int)) S=.ok (.lst ((T::cs++F.map (·.1)).map D.int)) S:=by
  rw[ylh rfl rfl (by simp;omega),List.map_append]
 obtain⟨y2,lp⟩:=zrn (some (.tup [.int T,.ref a,.ref b])) (some (.lst PL)) S (T::cs++F.map (·.1)) none;have vl:=fun x1 x2=>zxg hb (by omega) (.tup [.int T,.ref a,.ref b]) j2 x1 x2;have al:=zpm (F.map fun _=>true) S;rw[List.map_map,show (F.map fun _=>true).all id=true by simp]at al;have al':ynb [.lst (F.map fun _=>D.bl true)] S=.ok (.bl true) S:=al;have q1:yi8 (.lst ((T::cs++F.map (·.1)).map D.int)) S=.ok (.seq ((T::cs++F.map (·.1)).map D.int)) S:=rfl;unfold fmB at lp;unfold f__law_form zd1;generalize yl3 (yf5 (yl2 oIx (yl9 0) (eC (.int 2))) (yl5 (yji (yl2 oIx (yl9 0) (eC (.int 2)))) [] (tgN 0) yfd (eOr (yl2 ynk (yl9 0) (eC .non)) (yl1 (eUn (ynj .int) (yl9 0)) (yl7 (eUn (ynj .bool) (yl9 0)))))))=VL at *;generalize D.tup [.int T,.ref a,.ref b]=TD at *;generalize (T::cs++F.map (·.1)).map D.int=L3 at *;generalize (T::cs).map D.int=L1 at *;generalize (F.map (·.1)).map D.int=L2 at *;generalize F.map (fun _=>D.bl true)=L4 at *;generalize D.lst PL=PD at *;generalize (cs.length:Int)=N at *;simp[j0,j1,j2,t0,t1,t2,n0,n1,n2,a1,k1,a2,lp,vl,al',q1]
theorem zkq(σ:Sto)(k:Nat):∀ (a b:List Int),eqL (eqD σ k) (a.map D.int) (b.map D.int)=some (decide (a=b))
 |[],[]=>rfl
 |[],_::_=>by simp[eqL]
 |_::_,[]=>by simp[eqL]
 |x::a,y::b=>by
  have e:eqD σ k (.int x) (.int y)=some (x == y):=by cases k<;>simp[eqD,kd,eqK,eqV]
  simp only[List.map_cons];unfold eqL;rw[e,zkq σ k a b];by_cases h1:x=y
  ·subst h1;by_cases h2:a=b<;>simp[h2]
  ·have:(x == y)=false:=by simpa using h1
   simp[this,h1]
def fks(F:Fs):List Int:=F.map (·.1)
theorem zs8:∀ (F:Fs),yg7 (kvF F)=some (fks F)
 |[]=>rfl
 |(w,x)::F=>by
  show (yg7 (kvF F)).map (w::·)=_;rw[zs8 F];rfl
theorem zqm(xs:List Int)(lo hi:Option Int):∃ ys:List Int,ylv (xs.map D.int) lo hi=ys.map D.int/\ys.length<=xs.length:=by
 refine⟨(xs.drop (HT.sIx xs.length 0 lo)).take (HT.sIx xs.length xs.length hi - HT.sIx xs.length 0 lo),?_,?_⟩
 ·unfold ylv;rw[List.length_map,List.map_take,List.map_drop]
 ·rw[List.length_take,List.length_drop];omega
theorem zr7{F:Fs}{w:Int}(h:w∈fks F):∃ x,ymi F w=some x:=by
 unfold fks at h;obtain⟨p,hp,e⟩:=List.mem_map.mp h;unfold ymi;have:(F.find? fun p=>decide (p.1=w)).isSome=true:=List.find?_isSome.mpr ⟨p,hp,by simpa using e⟩;obtain⟨y,hy⟩:=Option.isSome_iff_exists.mp this;exact⟨y.2,by rw[hy];rfl⟩
def tS(σ:Sto)(cs:List Int)(F:Fs):Sto:=σ++[cO cs,fO F]
section
variable(σ:Sto)(cs:List Int)(F:Fs)
theorem tS0:(tS σ cs F)[σ.length]?=some (cO cs):=by unfold tS;simp
theorem tS1:(tS σ cs F)[σ.length+1]?=some (fO F):=by unfold tS;simp
theorem zw9(cs':List Int):(tS σ cs F).set σ.length (.lst (cs'.map D.int))=tS σ cs' F:=by unfold tS cO;simp
theorem zxa(F':Fs):(tS σ cs F).set (σ.length+1) (.dic (kvF F'))=tS σ cs F':=by
 unfold tS fO;rw[List.set_append_right _ _ (by omega),show σ.length+1 - σ.length=1 by omega];rfl
theorem yjy:ym3 (tS σ cs F) (.ref σ.length)=some (cs.map D.int):=(LsI.at (tS0 σ cs F)).now
theorem yjx:yl0 (tS σ cs F) (.ref (σ.length+1))=some (kvF F):=(DcI.at (tS1 σ cs F)).now
end
theorem yjl(TD a t x5:D)(c K:Int)(cs:List Int)(F:Fs)(σ:Sto):∃ cs',cs'.length=cs.length/\tA [some TD,some (.int c),some a,some t,some (.ref σ.length),some x5,some (.int K)] (tS σ cs F)=.ok (.nx [some TD,some (.int c),some a,some t,some (.ref σ.length),some x5,some (.int K)]) (tS σ cs' F):=by
 have ls:=yjy σ cs F;have ne:oNe (.ref σ.length) (.lst []) (tS σ cs F)=.ok (.bl (!decide (cs=[]))) (tS σ cs F):=by
  have e:eqD (tS σ cs F) 8 (.ref σ.length) (.lst [])=some (decide (cs=[])):=by
   have ls':yhf (tS σ cs F) σ.length=some (cs.map D.int):=ls;have k:kd (tS σ cs F) (.ref σ.length)=.l (cs.map D.int):=by simp only[kd,ls']
   show eqK _ (kd _ (.ref σ.length)) (kd _ (.lst []))=_;rw[k];exact zkq (tS σ cs F) 7 cs []
  exact ybv e
 have ln:ynm [.ref σ.length] (tS σ cs F)=.ok (.int cs.length) (tS σ cs F):=by have:=(LsI.at (tS0 σ cs F)).len [];rwa [List.append_nil]at this
 unfold tA;cases b3:(K == 0)with
 |false=>
  refine⟨cs,rfl,?_⟩;generalize tS σ cs F=σ1 at *;simp[b3]
 |true=>
  cases he:decide (cs=[])with
  |true=>
   rw[he]at ne;refine⟨cs,rfl,?_⟩;generalize tS σ cs F=σ1 at *;simp[b3,ne]
  |false=>
   rw[he]at ne;have hp:0<cs.length:=by
    cases cs with
    |nil=>simp at he
    |cons a l=>simp
   obtain⟨i,hi⟩:∃ i:Nat,(i:Int)=c / 5 % (cs.length:Int):=⟨(c / 5 % (cs.length:Int)).toNat,by have:=Int.emod_nonneg (c / 5) (show (cs.length:Int)≠0 by omega);omega⟩
   have hlt:i<cs.length:=by have:=Int.emod_lt_of_pos (c / 5) (show (0:Int)<cs.length by omega);omega
   have om:∀ σ,ynn (.int (c / 5)) (.int (cs.length:Int)) σ=.ok (.int i) σ:=fun σ=>by rw[hi];exact zuf _ _ (by omega)
   have st:∀ ρ,yjf ρ (.int (c / 15 % 4 - 1)) (.ref σ.length) (.int i) (tS σ cs F)=.ok (.nx ρ) (tS σ (cs.set i (c / 15 % 4 - 1)) F):=fun ρ=>by
    have ls':yhf (tS σ cs F) σ.length=some (cs.map D.int):=ls;have e:ixN (cs.map D.int).length (i:Int)=some i:=by
     unfold ixN;rw[List.length_map,if_pos (by omega),if_pos (by omega)];simp
    unfold yjf yh8;simp only[ls',e];rw[<-List.map_set,zw9]
   refine⟨cs.set i (c / 15 % 4 - 1),by simp,?_⟩;generalize tS σ (cs.set i (c / 15 % 4 - 1)) F=σ2 at *;generalize tS σ cs F=σ1 at *;generalize (cs.length:Int)=N1 at *;generalize (i:Int)=I at *;generalize σ.length=N0 at *;simp[b3,ne,ln,om,st]
theorem yjn(TD t x4:D)(a c K:Int)(cs:List Int)(F:Fs)(hF:F.length<800)(σ:Sto):∃ F':Fs,F'.length<=F.length+1/\tB [some TD,some (.int c),some (.int a),some t,some x4,some (.ref (σ.length+1)),some (.int K)] (tS σ cs F)=.ok (.nx [some TD,some (.int c),some (.int a),some t,some x4,some (.ref (σ.length+1)),some (.int K)]) (tS σ cs F'):=by
 unfold tB;cases b3:(K == 1)with
 |false=>
  refine⟨F,by omega,?_⟩;generalize tS σ cs F=σ1 at *;simp[b3]
 |true=>
  have h2:c / 350 % 2=0\/c / 350 % 2=1:=by omega
  obtain⟨x,px⟩:∃ x:Option Int,∀ σ,oIx (.lst [.non,.int (a+c / 25 % 14 - 4)]) (.int (c / 350 % 2)) σ=.ok (oD x) σ:=by
   rcases h2 with h|h<;>rw[h]
   ·exact⟨none,fun σ=>zuc (show atI _ ((0:Nat):Int)=_ from zpt rfl)⟩
   ·exact⟨some (a+c / 25 % 14 - 4),fun σ=>zuc (show atI _ ((1:Nat):Int)=_ from zpt rfl)⟩
  have st:∀ ρ,yjc ρ (oD x) (.ref (σ.length+1)) (.int (c / 5 % 5)) (tS σ cs F)=.ok (.nx ρ) (tS σ cs (putF F (c / 5 % 5) x)):=fun ρ=>by
   have e:=tS1 σ cs F;unfold fO at e;unfold yjc;simp only[ymx,e,zve];rw[if_pos (by unfold kvF;simp[cap];omega),zxa]
  refine⟨putF F (c / 5 % 5) x,znq _ _ _,?_⟩;generalize tS σ cs (putF F (c / 5 % 5) x)=σ2 at *;generalize tS σ cs F=σ1 at *;generalize oD x=OX at *;generalize σ.length=N0 at *;simp[b3,px,st]
theorem yjo(TD a t x4:D)(c K:Int)(cs:List Int)(F:Fs)(hF:F.length<60)(σ:Sto):∃ F':Fs,F'.length<=F.length/\tC [some TD,some (.int c),some a,some t,some x4,some (.ref (σ.length+1)),some (.int K)] (tS σ cs F)=.ok (.nx [some TD,some (.int c),some a,some t,some x4,some (.ref (σ.length+1)),some (.int K)]) (tS σ cs F'):=by
 have e:=tS1 σ cs F;unfold fO at e;have dc:=yjx σ cs F;have dz:yl0 (tS σ cs F) (.dic [] [])=some []:=rfl;have ne:ynp (.ref (σ.length+1)) (.dic [] []) (tS σ cs F)=.ok (.bl (!F.isEmpty)) (tS σ cs F):=by
  unfold ynp;simp only[dc,dz];unfold kvF;cases F<;>rfl
 have ln:yh3 [.ref (σ.length+1)] (tS σ cs F)=.ok (.int F.length) (tS σ cs F):=by
  unfold yh3;simp only[dc];simp[kvF]
 unfold tC;cases b5:(K == 2)with
 |false=>
  refine⟨F,by omega,?_⟩;generalize tS σ cs F=σ1 at *;simp[b5]
 |true=>
  cases he:F.isEmpty with
  |true=>
   rw[he]at ne;refine⟨F,by omega,?_⟩;generalize tS σ cs F=σ1 at *;simp[b5,ne]
  |false=>
   rw[he]at ne;have hp:0<F.length:=by
    cases F with
    |nil=>simp at he
    |cons a l=>simp
   obtain⟨i,hi⟩:∃ i:Nat,(i:Int)=c / 5 % (F.length:Int):=⟨(c / 5 % (F.length:Int)).toNat,by have:=Int.emod_nonneg (c / 5) (show (F.length:Int)≠0 by omega);omega⟩
   have hlt:i<F.length:=by have:=Int.emod_lt_of_pos (c / 5) (show (0:Int)<F.length by omega);omega
   have om:∀ σ,ynn (.int (c / 5)) (.int (F.length:Int)) σ=.ok (.int i) σ:=fun σ=>by rw[hi];exact zuf _ _ (by omega)
   have so:ymh (tS σ cs F) (znc [.ref (σ.length+1)] (tS σ cs F))=.ok (.lst ((yo1 (fks F)).map D.int)) (tS σ cs F):=by
    have e2:znc [.ref (σ.length+1)] (tS σ cs F)=.ok (.ref (tS σ cs F).length) (tS σ cs F++[.lst ((yo1 (fks F)).map D.int)]):=by
     unfold znc;simp only[dc,zs8];rw[if_pos (by unfold fks;rw[List.length_map];omega)];rfl
    rw[e2];exact zry (zqf fun _=>by simp)
   have hsl:(yo1 (fks F)).length=F.length:=by rw[(zi3 _).length_eq];unfold fks;simp
   have eX:(yo1 (fks F))[i]?=some (yo1 (fks F))[i]:=List.getElem?_eq_getElem (by omega);have hw:(yo1 (fks F))[i]∈fks F:=(zi3 _).subset (List.getElem_mem (by omega));have ix:=fun σ=>ixM (f:=D.int) eX σ;generalize (yo1 (fks F))[i]=w at *;obtain⟨x,hv⟩:=zr7 hw;have dr:zyr (kvF F) (.inl w)=kvF (F.filter fun q=>decide (q.1≠w)):=by
    unfold zyr kvF;rw[List.filter_map];congr 1;apply List.filter_congr;intro q _;simp
   have po:yh7 (.ref (σ.length+1)) [.int w] (tS σ cs F)=.ok (oD x) (tS σ cs (F.filter fun q=>decide (q.1≠w))):=by
    unfold yh7;simp only[ymx,e,zk7,hv,Option.map_some];rw[dr,zxa]
   have mk:∀ fs,ybi yh7 fs (.ref (σ.length+1)) (tS σ cs F)=(fs (tS σ cs F)).bind (yh7 (.ref (σ.length+1))):=fun fs=>by unfold ybi;rw[dc];rfl
   have fe2:∀ (f:Ev->M D) (ρ:Ev) (σ:Sto),yl3 (eUn (fun x=>znc [x]) f) ρ σ=ymh σ ((f ρ σ).bind fun x=>znc [x]):=fun _ _ _=>rfl;refine⟨F.filter fun q=>decide (q.1≠w),List.length_filter_le _ _,?_⟩;generalize tS σ cs (F.filter fun q=>decide (q.1≠w))=σ2 at *;generalize tS σ cs F=σ1 at *;generalize (yo1 (fks F)).map D.int=SL at *;generalize (F.length:Int)=N1 at *;generalize (i:Int)=I at *;generalize σ.length+1=N0 at *;generalize oD x=OX at *;simp[b5,ne,ln,om,fe2,so,ix,po,mk,-zqy]
theorem yjs(TD a t x5:D)(c K:Int)(cs:List Int)(hc:cs.length<=800)(F:Fs)(σ:Sto):∃ x4 cs',(x4=.ref σ.length/\cs'=cs\/x4=.lst (cs'.map D.int))/\cs'.length<=cs.length+1/\tE [some TD,some (.int c),some a,some t,some (.ref σ.length),some x5,some (.int K)] (tS σ cs F)=.ok (.nx [some TD,some (.int c),some a,some t,some x4,some x5,some (.int K)]) (tS σ cs F):=by
 have ls:=yjy σ cs F;obtain⟨c2,hc2,h2⟩:=zqm cs none (some (-1));have cu:ylw (.ref σ.length) none (some (-1)) (tS σ cs F)=.ok (.lst (c2.map D.int)) (tS σ cs F):=by
  unfold ylw;simp only[ls,hc2]
 have ad:yna (.ref σ.length) (.lst [.int 0]) (tS σ cs F)=.ok (.lst ((cs++[0]).map D.int)) (tS σ cs F):=by
  rw[ylh ls rfl (by simp;omega),List.map_append];rfl
 have es:eSl (yl9 4) none (some (eUn ynq (eC (.int 1)))) [some TD,some (.int c),some a,some t,some (.ref σ.length),some x5,some (.int K)] (tS σ cs F)=.ok (.lst (c2.map D.int)) (tS σ cs F):=cu;have hp:c / 5 % 2=0\/c / 5 % 2=1:=by omega
 have q0:∀ (x y:D) σ,oIx (.lst [x,y]) (.int 0) σ=.ok x σ:=fun x y σ=>zuc (show atI _ ((0:Nat):Int)=_ from zpt rfl);have q1:∀ (x y:D) σ,oIx (.lst [x,y]) (.int 1) σ=.ok y σ:=fun x y σ=>zuc (show atI _ ((1:Nat):Int)=_ from zpt rfl);unfold tE;cases b5:(K == 3)with
 |false=>
  refine⟨.ref σ.length,cs,.inl ⟨rfl,rfl⟩,by omega,?_⟩;generalize tS σ cs F=σ1 at *;simp[b5]
 |true=>
  rcases hp with h|h
  ·refine⟨.lst (c2.map D.int),c2,.inr rfl,by omega,?_⟩;generalize tS σ cs F=σ1 at *;generalize D.lst ((cs++[0]).map D.int)=L3 at *;generalize D.lst (c2.map D.int)=L2 at *;generalize D.ref σ.length=R at *;simp[b5,h,es,ad,q0]
  ·refine⟨.lst ((cs++[0]).map D.int),cs++[0],.inr rfl,by simp,?_⟩;generalize tS σ cs F=σ1 at *;generalize D.lst ((cs++[0]).map D.int)=L3 at *;generalize D.lst (c2.map D.int)=L2 at *;generalize D.ref σ.length=R at *;simp[b5,h,es,ad,q1]
theorem yil(a b c d e f:Int)(k:Int)(hk:0<=k/\k<6):∃ x:Int,∀ σ,oIx (.lst [.int a,.int b,.int c,.int d,.int e,.int f]) (.int k) σ=.ok (.int x) σ:=by
 have h:k=0\/k=1\/k=2\/k=3\/k=4\/k=5:=by omega
 rcases h with rfl|rfl|rfl|rfl|rfl|rfl
 ·exact⟨a,fun σ=>zuc (show atI _ ((0:Nat):Int)=_ from zpt rfl)⟩
 ·exact⟨b,fun σ=>zuc (show atI _ ((1:Nat):Int)=_ from zpt rfl)⟩
 ·exact⟨c,fun σ=>zuc (show atI _ ((2:Nat):Int)=_ from zpt rfl)⟩
 ·exact⟨d,fun σ=>zuc (show atI _ ((3:Nat):Int)=_ from zpt rfl)⟩
 ·exact⟨e,fun σ=>zuc (show atI _ ((4:Nat):Int)=_ from zpt rfl)⟩
 ·exact⟨f,fun σ=>zuc (show atI _ ((5:Nat):Int)=_ from zpt rfl)⟩
theorem yjw(TD a x4 x5:D)(T c K:Int):∃ T':Int,∀ σ,tR [some TD,some (.int c),some a,some (.int T),some x4,some x5,some (.int K)] σ=.ok (.int T') σ:=by
 obtain⟨x,px⟩:=yil 0 0 1 (-1) (c / 20 % 1000000000000) (-1 - c / 20 % 1000000000000) (c / 7 % 6) (by omega);have p:=p12;have om:∀ z σ,ynn (.int z) (.int 1000000000000) σ=.ok (.int (z % 1000000000000)) σ:=fun z σ=>zuf z _ (by decide);refine⟨T+x,fun σ=>?_⟩;unfold tR;generalize hz:c / 20 % 1000000000000=Z at *;simp[p,om,px,hz]
theorem zln{σ:Sto}{T:Int}{cs cs':List Int}{F:Fs}{x4:D}(h:x4=.ref σ.length/\cs'=cs\/x4=.lst (cs'.map D.int)):ymh σ (.ok (.tup [.int T,x4,.ref (σ.length+1)]) (tS σ cs F))=.ok (.tup [.int T,.lst (cs'.map D.int),fD F]) σ:=by
 have e0:=tS0 σ cs F;have e1:=tS1 σ cs F;have cI:∀ l:List Int,clL (l.map D.int)=true:=fun l=>zqf fun _=>by simp[cl]
 have hx:fz σ.length (tS σ cs F) 5 x4=some (.lst (cs'.map D.int)):=by
  rcases h with⟨rfl,rfl⟩|rfl
  ·unfold fz;rw[if_neg (by simp[cl])];dsimp only;rw[if_neg (Nat.lt_irrefl _),e0];unfold cO;dsimp only;rw[zse (g:=D.int) (h:=D.int) fun i _=>ygp (show cl (.int i)=true by simp[cl])];rfl
  ·exact ygp (by rw[zyf];exact cI _)
 have hr:fz σ.length (tS σ cs F) 5 (.ref (σ.length+1))=some (fD F):=by
  unfold fz;rw[if_neg (by simp[cl])];dsimp only;rw[if_neg (by omega),e1];unfold fO;dsimp only;rw[show (kvF F).map (·.2)=F.map fun p=>oD p.2 by unfold kvF;rw[List.map_map];rfl,zse (g:=fun p:Int × Option Int=>oD p.2) (h:=fun p=>oD p.2) fun p _=>ygp (yhx p.2)];unfold fD kvF;rw[List.map_map];rfl
 have ht:fz σ.length (tS σ cs F) 6 (.tup [.int T,x4,.ref (σ.length+1)])=some (.tup [.int T,.lst (cs'.map D.int),fD F]):=by
  unfold fz;rw[if_neg (by simp[cl,clL])];dsimp only;unfold fzL;rw[ygp (show cl (.int T)=true by simp[cl])];unfold fzL;rw[hx];unfold fzL;rw[hr];rfl
 unfold ymh;dsimp only;rw[if_pos (by unfold tS;simp),ht]
theorem zje(T c a:Int)(d f:D)(cs:List Int)(F:Fs)(σ:Sto)(hd:LsI σ d cs)(hf:DcI σ f F)(hc:cs.length<=700)(hF:F.length<50):∃ (T':Int) (cs':List Int) (F':Fs),cs'.length<=cs.length+1/\F'.length<=F.length+1/\f__law_turned [.tup [.int T,d,f],.int c,.int a] σ=.ok (.tup [.int T',.lst (cs'.map D.int),fD F']) σ:=by
 obtain⟨c1,l1,e1⟩:=yjl (.tup [.int T,d,f]) (.int a) (.int T) (.ref (σ.length+1)) c (c % 5) cs F σ;obtain⟨F1,l2,e2⟩:=yjn (.tup [.int T,d,f]) (.int T) (.ref σ.length) a c (c % 5) c1 F (by omega) σ;obtain⟨F2,l3,e3⟩:=yjo (.tup [.int T,d,f]) (.int a) (.int T) (.ref σ.length) c (c % 5) c1 F1 (by omega) σ;obtain⟨x4,c2,hx,l4,e4⟩:=yjs (.tup [.int T,d,f]) (.int a) (.int T) (.ref (σ.length+1)) c (c % 5) c1 (by omega) F2 σ;obtain⟨T',e5⟩:=yjw (.tup [.int T,d,f]) (.int a) x4 (.ref (σ.length+1)) T c (c % 5);have fz:=zln (σ:=σ) (T:=T') (F:=F2) hx;have a0:∀ (x3 x4 x5 x6:Option D) σ,ylj (tgT 3 (yed (tgN 3) (yed (tgN 4) (yed (tgN 5) yj2)))) [some (.tup [.int T,d,f]),some (.int c),some (.int a),x3,x4,x5,x6] (.tup [.int T,d,f]) σ=.ok (.nx [some (.tup [.int T,d,f]),some (.int c),some (.int a),some (.int T),some d,some f,x6]) σ:=fun _ _ _ _ _=>nr rfl;have o1:yh4 [d] σ=.ok (.ref σ.length) (σ++[cO cs]):=by
  unfold yh4;simp only[ybg hd.now];rfl
 have o2:yhy [f] (σ++[cO cs])=.ok (.ref (σ.length+1)) (tS σ cs F):=by
  unfold yhy;simp only[hf [cO cs]];unfold tS fO;simp
 refine⟨T',c2,F2,by omega,by omega,?_⟩;unfold f__law_turned zb5;generalize tA=A at *;generalize tB=B at *;generalize tC=C at *;generalize tE=E at *;generalize tR=R at *;generalize D.tup [.int T,d,f]=TD at *;generalize tS σ cs F=σ1 at *;generalize tS σ c1 F=σ2 at *;generalize tS σ c1 F1=σ3 at *;generalize tS σ c1 F2=σ4 at *;generalize (σ++[cO cs])=σ0 at *;generalize D.tup [.int T',.lst (c2.map D.int),fD F2]=OUT at *;simp[a0,o1,o2,e1,e2,e3,e4,e5,fz]
def Pr{α β:Type}(R:α->β->Prop):List α->List β->Prop
 |[],[]=>True
 |a::as,b::bs=>R a b/\Pr R as bs
 |_,_=>False
theorem zge:∀ {ns ns':List Nat} {a a':Nat},ykn ns a->Pr (fun n n'=>n'<=n) ns ns'->a'<=a->ykn ns' a'
 |[],[],a,a',h,_,ha=>Nat.le_trans ha h
 |n::ns,n'::ns',a,a',h,hp,ha=>⟨Nat.le_trans ha h.1,zge h.2 hp.2 (Nat.mul_le_mul ha hp.1)⟩
 |[],_::_,_,_,_,hp,_=>hp.elim
 |_::_,[],_,_,_,hp,_=>hp.elim
theorem yc1(c:Int)(i:Nat):poN c i<=2+(if i=0 then 7 else 0):=by
 unfold poN;by_cases hi:i=0
 ·subst hi;rw[if_pos rfl];split<;>split<;>(try split)<;>omega
 ·have:((i:Int) == 0)=false:=by simp;omega
  rw[this,if_neg hi];simp only[Bool.false_and,Bool.false_eq_true,if_false];split<;>(try split)<;>omega
theorem zno(c k:Int)(i:Nat):(ynx c k i).st.length<=(if i=0 then 10 else 3):=by
 have:=yc1 c i;show (_::ptL c k 0 (poN c i):List St).length<=_;unfold ptL;simp;split<;>simp_all<;>omega
theorem zxj(ns:List Int):(vwV ns).Few:=by
 unfold Vw.Few;have hn:(yfk ns 1 % 4).toNat<=3:=by omega
 show ykn (((List.range (yfk ns 1 % 4).toNat).map fun(k:Nat)=>ynx (yfk ns (2+k)) (4+yfk ns 0 / 6 % 60) k).map fun p=>p.st.length) 1;rw[List.map_map];generalize (yfk ns 1 % 4).toNat=n at *;have h0:=zno (yfk ns (2+0)) (4+yfk ns 0 / 6 % 60) 0;have h1:=zno (yfk ns (2+1)) (4+yfk ns 0 / 6 % 60) 1;have h2:=zno (yfk ns (2+2)) (4+yfk ns 0 / 6 % 60) 2;simp only[if_true,Nat.one_ne_zero,if_false]at h0 h1;rw[if_neg (by omega)]at h2;have big:ykn [10,3,3] 1:=by simp[ykn]
 have b2:ykn [10,3] 1:=by simp[ykn]
 have b1:ykn [10] 1:=by simp[ykn]
 have b0:ykn [] 1:=by simp[ykn]
 have hc:n=0\/n=1\/n=2\/n=3:=by omega
 rcases hc with rfl|rfl|rfl|rfl
 ·exact b0
 ·exact zge b1 ⟨h0,trivial⟩ (Nat.le_refl _)
 ·exact zge b2 ⟨h0,h1,trivial⟩ (Nat.le_refl _)
 ·exact zge big ⟨h0,h1,h2,trivial⟩ (Nat.le_refl _)
theorem yen(v:Vw)(x0 x2 x3 x4 x5:Option D)(S:Sto):∀ (l:List Int) (T:Int) (d f:D) (cs:List Int) (F:Fs) (x7:Option D),LsI S d cs->DcI S f F->cs.length+l.length<=600->F.length+l.length<50->∃ (T':Int) (d' f':D) (cs':List Int) (F':Fs) (y7:Option D),LsI S d' cs'/\DcI S f' F'/\
  ym2 (tgN 7) uB (l.map D.int) [x0,some v.D,x2,x3,x4,x5,some (.tup [.int T,d,f]),x7,none] S=.ok (.nx [x0,some v.D,x2,x3,x4,x5,some (.tup [.int T',d',f']),y7,none]) S
 |[],T,d,f,cs,F,x7,hd,hf,_,_=>⟨T,d,f,cs,F,x7,hd,hf,by simp⟩
 |c::l,T,d,f,cs,F,x7,hd,hf,hc,hF=>by
  simp only[List.length_cons]at hc hF;obtain⟨T1,c1,F1,l1,l2,e1⟩:=zje T c v.k d f cs F S hd hf (by omega) (by omega);obtain⟨T2,d2,f2,c2,F2,y7,h1,h2,e2⟩:=yen v x0 x2 x3 x4 x5 S l T1 (.lst (c1.map D.int)) (fD F1) c1 F1 (some (.int c)) (LsI.lst S c1) (DcI.dic S F1) (by omega) (by omega);refine⟨T2,d2,f2,c2,F2,y7,h1,h2,?_⟩;have j1:=fun σ=>v.j1 σ;have st:uB [x0,some v.D,x2,x3,x4,x5,some (.tup [.int T,d,f]),some (.int c),none] S=.ok (.nx [x0,some v.D,x2,x3,x4,x5,some (.tup [.int T1,.lst (c1.map D.int),fD F1]),some (.int c),none]) S:=by
   unfold uB;generalize D.tup [.int T,d,f]=TD at *;generalize D.tup [.int T1,.lst (c1.map D.int),fD F1]=OUT at *;generalize v.D=VD at *;simp[j1,e1]
  rw[List.map_cons,zmp];simp only[List.set_cons_succ,List.set_cons_zero];rw[st,zp1,zmn,e2]
theorem law_true(ns:List Int)(hns:ns.length<=63):∃ σ,f_law [.scr ns] []=.ok (.bl true) σ:=by
 have hv:=yeq ns;have hf:=zxj ns;have e1:=fun σ=>zxi ns σ;generalize vwV ns=v at *;have n3:=hv.n3;have j3:=fun σ=>v.j3 σ;have m1:=zpe v hv [];obtain⟨cs,hb,p1⟩:=ycj v hv hf [];simp only[List.length_nil,Nat.zero_add,List.nil_append]at p1;generalize hS:([cO cs,fO (bF v cs)]:Sto)=S at p1;have s0:S[0]?=some (cO cs):=by rw[<-hS];rfl
 have s1:S[1]?=some (fO (bF v cs)):=by rw[<-hS];rfl
 obtain⟨c2,hb2,w1⟩:=yer v hv hf S;rw[zjt hb2 hb]at w1;have hcl:cs.length=(v.ps.map Po.D).length:=by rw[hb.len];simp
 have hm:=zqc hb.pl;have hA:=zxp v _ (fun q hq=>hv.ok q.1 (hm q hq).1 q.2 (hm q hq).2);have hl3:(chS v.ps cs).length<=3:=Nat.le_trans (zqb _ _) n3;have hFl:(bF v cs).length<=18:=by
  unfold bF lF;rw[List.length_map,zsm];have:=zwz (AT v (chS v.ps cs));omega
 have fm:=zrs (tot v cs) 0 1 cs (bF v cs) (v.ps.map Po.D) _ s0 s1 hcl (by rw[hb.len];omega) (by omega);have sA:=fun T=>suG v hv cs (bF v cs) T S (LsI.at s0) (DcI.at s1);have t1:=sA (tot v cs);rw[zw6 hb]at t1;have hO:1<=1+yfk ns 7 % 1000000000000:=by omega
 have ca:∀ σ,f__law_cell_at [.scr ns,.int 7] σ=.ok (.int (yfk ns 7)) σ:=fun σ=>zqa ns 7 (by omega) σ;have pw:=p12;have om:∀ z σ,ynn (.int z) (.int 1000000000000) σ=.ok (.int (z % 1000000000000)) σ:=fun z σ=>zuf z _ (by decide);generalize hO':1+yfk ns 7 % 1000000000000=O at *;have t2:=sA (tot v cs+O);rw[zoz hb (by omega)]at t2;have t3:=sA (tot v cs - O);rw[zoz hb (by omega)]at t3;obtain⟨l,hl1,hl2⟩:=zqm ns (some 8) (some 11);have hl4:l.length<=3:=by
  have e:(ylv (ns.map D.int) (some 8) (some 11)).length<=3:=by
   unfold ylv HT.sIx;rw[List.length_take];simp only[List.length_map];refine Nat.le_trans (Nat.min_le_left _ _) ?_;rw[if_neg (by decide),if_neg (by decide),show Int.toNat 11=11 from rfl,show Int.toNat 8=8 from rfl];omega
  rw[hl1,List.length_map]at e;exact e
 have es:∀ ρ σ,eSl (yl9 0) (some (eC (.int 8))) (some (eC (.int 11))) (some (.scr ns)::ρ) σ=.ok (.lst (l.map D.int)) σ:=fun ρ σ=>by
  show ylw (.scr ns) (some 8) (some 11) σ=_;unfold ylw;dsimp only;rw[hl1]
 have i0:∀ σ,oIx (.tup [.int (tot v cs),.ref 0,.ref 1]) (.int 0) σ=.ok (.int (tot v cs)) σ:=fun σ=>by simp
 have i1:∀ σ,oIx (.tup [.int (tot v cs),.ref 0,.ref 1]) (.int 1) σ=.ok (.ref 0) σ:=fun σ=>by simp
 have i2:∀ σ,oIx (.tup [.int (tot v cs),.ref 0,.ref 1]) (.int 2) σ=.ok (.ref 1) σ:=fun σ=>by simp
 obtain⟨T',d',f',cs',F',y7,hd',hf',lp⟩:=yen v (some (.scr ns)) (some v.O) (some (.tup [.int (tot v cs),.ref 0,.ref 1])) (some (.int (tot v cs))) (some (.int O)) S l (tot v cs) (.ref 0) (.ref 1) cs (bF v cs) none (LsI.at s0) (DcI.at s1) (by rw[hb.len];omega) (by omega);have t4:=suG v hv cs' F' T' S hd' hf';have i3:∀ σ,oIx (.tup [.int T',d',f']) (.int 0) σ=.ok (.int T') σ:=fun σ=>by simp
 have h5:suB v cs' F' T'=false\/suB v cs' F' T'=true/\decide (T'<tot v cs)=false:=by
  cases e:suB v cs' F' T' with
  |false=>exact .inl rfl
  |true=>
   have:=yjk e hb;exact .inr ⟨rfl,by simpa using this⟩
 obtain⟨S2,hS2⟩:∃ S2:Sto,S2=[.lst (cs.map D.int++[.int 7]),fO (bF v cs)]:=⟨_,rfl⟩
 obtain⟨S3,hS3⟩:∃ S3:Sto,S3=[.lst (cs.map D.int++[.int 7]),.dic []]:=⟨_,rfl⟩
 have ap:zt5 (.ref 0) [.int 7] S=.ok .non S2:=by
  rw[<-hS,hS2];exact zex (σ:=[]) (os:=[fO (bF v cs)]) (ys:=cs.map D.int) (y:=.int 7) (by rw[List.length_map,hb.len];omega)
 have cl:ybp (.ref 1) [] S2=.ok .non S3:=by rw[hS2,hS3];rfl
 have mC:∀ fs,ybi ybp fs (.ref 1) S2=(fs S2).bind (ybp (.ref 1)):=fun fs=>by unfold ybi;rw[hS2];rfl
 obtain⟨c3,hb3,p2⟩:=ycj v hv hf S3;rw[show S3.length=2 by rw[hS3];rfl]at p2;generalize hS4:S3++[cO c3,fO (bF v c3)]=S4 at p2;have t6:=suG v hv c3 (bF v c3) (tot v c3) S4 (LsI.at (n:=2) (by rw[<-hS4,hS3];rfl)) (DcI.at (n:=3) (by rw[<-hS4,hS3];rfl));rw[zw6 hb3]at t6;obtain⟨c4,hb4,w2⟩:=yer v hv hf S4;rw[zjt hb4 hb]at w2;have mA:∀ fs,yhm zt5 fs (.ref 0) S=(fs S).bind (zt5 (.ref 0)):=fun fs=>zmt (LsI.at s0).now;have lt:∀ σ,oLt (.int T') (.int (tot v cs)) σ=.ok (.bl (decide (T'<tot v cs))) σ:=fun σ=>by simp
 have sq:∀ σ,yi8 (.lst (l.map D.int)) σ=.ok (.seq (l.map D.int)) σ:=fun σ=>rfl;have mm:∀ ρ,yl3 (yf0 0 5 f_View___init__ (yfa (yl2 oIx (yl9 1) (eC (.int 0))) (yfa (yl2 oIx (yl9 1) (eC (.int 1))) (yfa (yl2 oIx (yl9 1) (eC (.int 2))) (yfa (yl2 oIx (yl9 1) (eC (.int 3))) yle))))) (some (.scr ns)::some v.D::ρ) []=.ok v.O []:=fun _=>m1;have tt:∀ b c σ,ynl true (.bl b) (.bl c) σ=.ok (.bl (!(b == c))) σ:=fun _ _ _=>rfl;have tf:∀ b c σ,ynl false (.bl b) (.bl c) σ=.ok (.bl (b == c)) σ:=fun _ _ _=>rfl;refine⟨S4,?_⟩;clear hS hS2 hS3 hS4 sA;unfold f_law ygs u1 u2 u3 u4 u5 u6 u7 u8 u9 uA uC uD uE uF uG;generalize uB=B at *;generalize suB v cs' F' T'=sb at *;generalize D.tup [.int T',d',f']=TE at *;generalize D.tup [.int (tot v cs),.ref 0,.ref 1]=TD at *;generalize D.tup [.int (tot v c3),.ref 2,.ref 3]=TF at *;generalize D.lst (v.ps.map Po.D)=PL at *;generalize v.D=VD at *;generalize v.O=VO at *;generalize tot v cs=TT at *;generalize l.map D.int=LL at *;rcases h5 with rfl|⟨rfl,h5⟩<;>simp[*,-zqy]
end K32
open PySem PySem.W PyProof.Rows
set_option maxRecDepth 100000 in
set_option maxHeartbeats 0 in
theorem PySem.Challenge.cw_sidebook_k32_a_paper_of_the_worth_holds : PySem.Challenge.rw_sidebook_k32_a_paper_of_the_worth.Holds := by
 w_on;o_law;k_head;(case hw=>w_witness2)
 k_fill
 refine L4.ykb (l:=PySem.Challenge.rw_sidebook_k32_a_paper_of_the_worth) (k:=9) (x:="_law_script") (fn:=K32.f_law) ["least_fate", "paper"] rfl rfl ⟨rfl,by decide,by decide⟩ (fun w h Y=>km_in_of Y) ?hK ?hrec ?F K32.law_true;case hK=>intro w;kernel_rfl
 case hrec=>kernel_rfl
 case F=>
  intro w mg h KX G TT;have h__law_cell_at:L4.yez (L2.KOf KX) mg "_law_cell_at" (K32.top 28) ["_law_script", "_law_k"]:=by
   dsimp only[L2.KOf];refine' L4.mkF KX G K32.zap ?a ?l ?c ?k;(case a|l|c|k=>k_is)
  have h__law_mixed:L4.yez (L2.KOf KX) mg "_law_mixed" (K32.top 29) ["_law_cell", "_law_k"]:=by
   dsimp only[L2.KOf];refine' L4.mkF KX G K32.zbx ?a ?l ?c ?k;(case a|l|c|k=>k_is)
  have h__law_amount:L4.yez (L2.KOf KX) mg "_law_amount" (K32.top 30) ["_law_number"]:=by
   dsimp only[L2.KOf];refine' L4.mkF KX G K32.za5 ?a ?l ?c ?k;(case a|l|c|k=>k_is)
  have h__law_tie:L4.yez (L2.KOf KX) mg "_law_tie" (K32.top 31) ["_law_number", "_law_word", "_law_at"]:=by
   dsimp only[L2.KOf];refine' L4.mkF KX G K32.zdt ?a ?l ?c ?k;(case a|l|c|k=>k_is)
  have h__law_stand:L4.yez (L2.KOf KX) mg "_law_stand" (K32.top 32) ["_law_cell", "_law_number", "_law_at"]:=by
   dsimp only[L2.KOf];refine' L4.mkF KX G K32.zby ?a ?l ?c ?k;(case a|l|c|k=>k_is)
  have h__law_pot:L4.yez (L2.KOf KX) mg "_law_pot" (K32.top 33) ["_law_cell", "_law_at", "_law_k_pot"]:=by
   dsimp only[L2.KOf];refine' L4.mkF KX G K32.zds ?a ?l ?c ?k;(case a|l|c|k=>k_is)
  have h__law_view:L4.yez (L2.KOf KX) mg "_law_view" (K32.top 34) ["_law_script"]:=by
   dsimp only[L2.KOf];refine' L4.mkF KX G K32.zcx ?a ?l ?c ?k;(case a|l|c|k=>k_is)
  have h_shown_in_time:L4.yez (L2.KOf KX) mg "shown_in_time" (K32.top 4) ["tie", "shown"]:=by
   dsimp only[L2.KOf];refine' L4.mkF KX G K32.zah ?a ?l ?c ?k;(case a|l|c|k=>k_is)
  have h_lot_of_paid:L4.yez (L2.KOf KX) mg "lot_of_paid" (K32.top 8) ["view", "seen", "tie"]:=by
   dsimp only[L2.KOf];refine' L4.mkF KX G K32.za9 ?a ?l ?c ?k;(case a|l|c|k=>k_is)
  have h_lot_of_due:L4.yez (L2.KOf KX) mg "lot_of_due" (K32.top 9) ["view", "seen", "tie"]:=by
   dsimp only[L2.KOf];refine' L4.mkF KX G K32.zb1 ?a ?l ?c ?k;(case a|l|c|k=>k_is)
  have h_lot_of:L4.yez (L2.KOf KX) mg "lot_of" (K32.top 10) ["view", "pot", "tie"]:=by
   dsimp only[L2.KOf];refine' L4.mkF KX G K32.zgh ?a ?l ?c ?k;(case a|l|c|k=>k_is)
  have h_read_stand:L4.yez (L2.KOf KX) mg "read_stand" (K32.top 11) ["view", "pot", "one"]:=by
   dsimp only[L2.KOf];refine' L4.mkF KX G K32.zb2 ?a ?l ?c ?k;(case a|l|c|k=>k_is)
  have h_read_pots:L4.yez (L2.KOf KX) mg "read_pots" (K32.top 12) ["view"]:=by
   dsimp only[L2.KOf];refine' L4.mkF KX G K32.zcy ?a ?l ?c ?k;(case a|l|c|k=>k_is)
  have h_all_choices:L4.yez (L2.KOf KX) mg "all_choices" (K32.top 13) ["readings"]:=by
   dsimp only[L2.KOf];refine' L4.mkF KX G K32.za7 ?a ?l ?c ?k;(case a|l|c|k=>k_is)
  have h_lots_by_word:L4.yez (L2.KOf KX) mg "lots_by_word" (K32.top 15) ["reads"]:=by
   dsimp only[L2.KOf];refine' L4.mkF KX G K32.zaq ?a ?l ?c ?k;(case a|l|c|k=>k_is)
  have h_fates_of:L4.yez (L2.KOf KX) mg "fates_of" (K32.top 16) ["lots"]:=by
   dsimp only[L2.KOf];refine' L4.mkF KX G K32.zdu ?a ?l ?c ?k;(case a|l|c|k=>k_is)
  have h_comes_by_fate:L4.yez (L2.KOf KX) mg "comes_by_fate" (K32.top 17) ["lot", "fate", "every"]:=by
   dsimp only[L2.KOf];refine' L4.mkF KX G K32.zag ?a ?l ?c ?k;(case a|l|c|k=>k_is)
  have h_sum_by_fate:L4.yez (L2.KOf KX) mg "sum_by_fate" (K32.top 18) ["lots", "fate", "every"]:=by
   dsimp only[L2.KOf];refine' L4.mkF KX G K32.zba ?a ?l ?c ?k;(case a|l|c|k=>k_is)
  have h_least_fate:L4.yez (L2.KOf KX) mg "least_fate" (K32.top 19) ["lots", "every"]:=by
   dsimp only[L2.KOf];refine' L4.mkF KX G K32.zb0 ?a ?l ?c ?k;(case a|l|c|k=>k_is)
  have h_sum_of:L4.yez (L2.KOf KX) mg "sum_of" (K32.top 20) ["reads", "by_word", "fates", "every"]:=by
   dsimp only[L2.KOf];refine' L4.mkF KX G K32.zgi ?a ?l ?c ?k;(case a|l|c|k=>k_is)
  have h_least_paper:L4.yez (L2.KOf KX) mg "least_paper" (K32.top 21) ["reads", "chosen", "every"]:=by
   dsimp only[L2.KOf];refine' L4.mkF KX G K32.za8 ?a ?l ?c ?k;(case a|l|c|k=>k_is)
  have h_chosen_readings:L4.yez (L2.KOf KX) mg "chosen_readings" (K32.top 14) ["readings", "chosen"]:=by
   dsimp only[L2.KOf];refine' L4.mkF KX G K32.zaa ?a ?l ?c ?k;(case a|l|c|k=>k_is)
  have h_paper:L4.yez (L2.KOf KX) mg "paper" (K32.top 22) ["view"]:=by
   dsimp only[L2.KOf];refine' L4.mkF KX G K32.zjq ?a ?l ?c ?k;(case a|l|c|k=>k_is)
  have h_worth:L4.yez (L2.KOf KX) mg "worth" (K32.top 23) ["view"]:=by
   dsimp only[L2.KOf];refine' L4.mkF KX G K32.zjr ?a ?l ?c ?k;(case a|l|c|k=>k_is)
  have h__law_form:L4.yez (L2.KOf KX) mg "_law_form" (K32.top 35) ["_law_told", "_law_pots"]:=by
   dsimp only[L2.KOf];refine' L4.mkF KX G K32.zcw ?a ?l ?c ?k;(case a|l|c|k=>k_is)
  have h_is_whole:L4.yez (L2.KOf KX) mg "is_whole" (K32.top 1) ["thing"]:=by
   dsimp only[L2.KOf];refine' L4.mkF KX G K32.zdv ?a ?l ?c ?k;(case a|l|c|k=>k_is)
  have h_is_between:L4.yez (L2.KOf KX) mg "is_between" (K32.top 2) ["thing", "least", "most"]:=by
   dsimp only[L2.KOf];refine' L4.mkF KX G K32.zbz ?a ?l ?c ?k;(case a|l|c|k=>k_is)
  have h_tells_places:L4.yez (L2.KOf KX) mg "tells_places" (K32.top 24) ["readings", "chosen"]:=by
   dsimp only[L2.KOf];refine' L4.mkF KX G K32.zar ?a ?l ?c ?k;(case a|l|c|k=>k_is)
  have h_tells_fates:L4.yez (L2.KOf KX) mg "tells_fates" (K32.top 25) ["by_word", "fates"]:=by
   dsimp only[L2.KOf];refine' L4.mkF KX G K32.zbb ?a ?l ?c ?k;(case a|l|c|k=>k_is)
  have h_stands_up:L4.yez (L2.KOf KX) mg "stands_up" (K32.top 26) ["view", "told"]:=by
   dsimp only[L2.KOf];refine' L4.mkF KX G K32.zcz ?a ?l ?c ?k;(case a|l|c|k=>k_is)
  have h__law_turned:L4.yez (L2.KOf KX) mg "_law_turned" (K32.top 36) ["_law_told", "_law_cell", "_law_at"]:=by
   dsimp only[L2.KOf];refine' L4.mkF KX G K32.za6 ?a ?l ?c ?k;(case a|l|c|k=>k_is)
  have h_law:L4.yez (L2.KOf KX) mg "law" (K32.top 37) ["_law_script"]:=by
   dsimp only[L2.KOf];refine' L4.mkF KX G K32.zxy ?a ?l ?c ?k;(case a|l|c|k=>k_is)
  have n_all:mg "all" = none:=by
   refine' mg_none_of KX G ?a;(case a=>k_is)
  have n_bool:mg "bool" = none:=by
   refine' mg_none_of KX G ?a;(case a=>k_is)
  have n_dict:mg "dict" = none:=by
   refine' mg_none_of KX G ?a;(case a=>k_is)
  have n_int:mg "int" = none:=by
   refine' mg_none_of KX G ?a;(case a=>k_is)
  have n_isinstance:mg "isinstance" = none:=by
   refine' mg_none_of KX G ?a;(case a=>k_is)
  have n_len:mg "len" = none:=by
   refine' mg_none_of KX G ?a;(case a=>k_is)
  have n_list:mg "list" = none:=by
   refine' mg_none_of KX G ?a;(case a=>k_is)
  have n_max:mg "max" = none:=by
   refine' mg_none_of KX G ?a;(case a=>k_is)
  have n_min:mg "min" = none:=by
   refine' mg_none_of KX G ?a;(case a=>k_is)
  have n_range:mg "range" = none:=by
   refine' mg_none_of KX G ?a;(case a=>k_is)
  have n_sorted:mg "sorted" = none:=by
   refine' mg_none_of KX G ?a;(case a=>k_is)
  have n_sum:mg "sum" = none:=by
   refine' mg_none_of KX G ?a;(case a=>k_is)
  have n_tuple:mg "tuple" = none:=by
   refine' mg_none_of KX G ?a;(case a=>k_is)
  have n_zip:mg "zip" = none:=by
   refine' mg_none_of KX G ?a;(case a=>k_is)
  have c_FIRM:L4.GlT (L2.KOf KX) mg "FIRM" ["won", "sure", "back"]:=by
   dsimp only[L2.KOf];refine' L4.mkT KX G ?a ?b;(case a=>k_is);(case b=>kernel_rfl)
  refine' (have q0:nsIn (L2.KOf KX) mainGlobals "View" = some (some (.ref ?C0)):=?p0;?_);(case p0=>dsimp only[L2.KOf];first|k_is|k_exc|rfl);refine' (have q1:findIn (L2.KOf KX) (.ref ?C0) "__init__" = some (some (.ref ?C1)):=?p1;?_);(case p1=>dsimp only[L2.KOf];first|k_is|k_exc|rfl);refine' (have q2:L4.HasM (L2.KOf KX) ?C0 "__init__" "View.__init__" (L4.yhp (K32.top 7) 0) ["self", "every", "look", "words", "pots"] ?C1:=?p2;?_);(case p2=>dsimp only[L2.KOf];refine' L4.mkM K32.zaf ?l ?c ?k;(case l|c|k=>k_is));refine' (have q3:L2.Cls (L2.KOf KX) ?C0:=?p3;?_);(case p3=>dsimp only[L2.KOf];refine' ⟨?a,?b,?c,?d⟩;(case a|b|c|d=>k_is));refine' (have q4:L2.zxt (L2.KOf KX) ?C0 "every":=?p4;?_);(case p4=>dsimp only[L2.KOf];first|k_is|k_exc|rfl);refine' (have q5:L2.zxt (L2.KOf KX) ?C0 "last_look":=?p5;?_);(case p5=>dsimp only[L2.KOf];first|k_is|k_exc|rfl);refine' (have q6:L2.zxt (L2.KOf KX) ?C0 "known":=?p6;?_);(case p6=>dsimp only[L2.KOf];first|k_is|k_exc|rfl);refine' (have q7:L2.zxt (L2.KOf KX) ?C0 "pots":=?p7;?_);(case p7=>dsimp only[L2.KOf];first|k_is|k_exc|rfl);refine' (have q8:L2.Mk (L2.KOf KX) ?C0 ?C1:=?p8;?_);(case p8=>dsimp only[L2.KOf];refine' ⟨?a,?b,?c,?d⟩;(case a|b|c|d=>k_is));refine⟨fun n=>([?C0,?C1]:List Addr).getD n 0,(K32.tx (L2.KOf KX)).tbs,K32.yj0 _,?_⟩;have tj:∀ t∈(K32.tx (L2.KOf KX)).tbs,∀ t'∈(K32.tx (L2.KOf KX)).tbs,t'.P=t.P->t'=t:=by
   dsimp only[L2.KOf];refine' L4.yj4 ?a;(case a=>kernel_rfl)
  exact K32.yb2 ⟨h__law_cell_at,h__law_mixed,h__law_amount,h__law_tie,h__law_stand,h__law_pot,h__law_view,q2,h_shown_in_time,h_lot_of_paid,h_lot_of_due,h_lot_of,h_read_stand,h_read_pots,h_all_choices,h_lots_by_word,h_fates_of,h_comes_by_fate,h_sum_by_fate,L4.mkC KX G h_least_fate TT (by decide),h_sum_of,h_least_paper,h_chosen_readings,L4.mkC KX G h_paper TT (by decide),h_worth,h__law_form,h_is_whole,h_is_between,h_tells_places,h_tells_fates,h_stands_up,h__law_turned,h_law,n_all,n_bool,n_dict,n_int,n_isinstance,n_len,n_list,n_max,n_min,n_range,n_sorted,n_sum,n_tuple,n_zip,c_FIRM,q3,q4,q5,q6,q7,mg_of KX G q0,q8,TT,mg_of KX G TT.bm,tj⟩
