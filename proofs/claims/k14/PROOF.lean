import PyProof.Rows.All
import Wide.All
import OpenK.AllK
import Wide.FinOn
import Lean
import PyProof.EqAt
import PyProof.EqKinds
import PyProof.TupleCall
import PyProof.NeKinds
import PyProof.NsDelKeeps
import KE.KTryMore
import PyProof.WalksMore
import PyProof.Rows.SetFrom
import KE.KEqDict
import PyProof.ToksMono
import PyProof.StrCalls6
import PyProof.StrBlock2
import PyProof.SliceStr2
import PyProof.StrLawsTight
import PyProof.InstStoreFacts
import PyProof.Rows.FStr
import PyProof.FactsAll.set
import PySem.Challenge.RW_sidebook_k14_deeds_in_the_book
set_option Elab.async false
set_option linter.all false
set_option maxRecDepth 100000
def PySem.W.Fast.tw11808905880642823617:Nat:=0
def PySem.W.Fast.tw17565677487003484655:Nat:=0
def PySem.W.Fast.tw7972173626629455472:Nat:=0
def PySem.W.Fast.tw1463443534559412301:Nat:=0
def PySem.W.Fast.tw18057212925627473641:Nat:=0
def PySem.W.Fast.tw3615856941884240572:Nat:=0
def PySem.W.Fast.tw7669017357195255142:Nat:=0
def PySem.W.Fast.tw506059101169831701:Nat:=0
def PySem.W.Fast.tw12890899800976170563:Nat:=0
def PySem.W.Fast.tw11667345383548055132:Nat:=0
def PySem.W.Fast.tw8392769710068283601:Nat:=0
def PySem.W.Fast.tw8949748116119471329:Nat:=0
def PySem.W.Fast.tw16963438761692623515:Nat:=0
def PySem.W.Fast.tw1424187184366958843:Nat:=0
def PySem.W.Fast.tw17786055285501957055:Nat:=0
def PySem.W.Fast.tw10549007642430434871:Nat:=0
def PySem.W.Fast.tw944831828167674342:Nat:=0
def PySem.W.Fast.tw3651464913662499211:Nat:=0
def PySem.W.Fast.tw3914667732562515081:Nat:=0
def PySem.W.Fast.tw16238308276400408693:Nat:=0
def PySem.W.Fast.tw10069388638700568290:Nat:=0
def PySem.W.Fast.tw3191135305920599855:Nat:=0
def PySem.W.Fast.tw15328352864131115963:Nat:=0
def PySem.W.Fast.tw14007154412284172964:Nat:=0
def PySem.W.Fast.tw2621643691397300660:Nat:=0
def PySem.W.Fast.tw18394960260815102693:Nat:=0
def PySem.W.Fast.tw11356765624268292320:Nat:=0
def PySem.W.Fast.tw6526064606793637039:Nat:=0
def PySem.W.Fast.tw2533201475488409557:Nat:=0
def PySem.W.Fast.tw15632375831350142802:Nat:=0
namespace L2
open PySem PySem.Spec PyProof.Rows
abbrev Key:=Sum Int Str
def ym2:Key->Value->Bool
 | .inl k,v=>Value.isInt k v
 | .inr x,v=>Value.isStrOf x v
def ysb(w:World):Key->Int
 | .inl k=>hashInt k
 | .inr x=>hashStr w x
theorem zgg:∀ {k:Key} {v:Value},ym2 k v=true->(∃ i t,k=Sum.inl i/\v=Value.int i t)\/(∃ x t,k=Sum.inr x/\v=Value.str x t)
 | .inl i,v,h=>by
  obtain⟨t,e⟩:=Value.isInt_shape (k:=i) (v:=v) h;exact .inl ⟨i,t,rfl,e⟩
 | .inr x,v,h=>by
  obtain⟨t,e⟩:=Value.isStrOf_shape (x:=x) (v:=v) h;exact .inr ⟨x,t,rfl,e⟩
theorem zlt(i:Int)(t:Tok):ym2 (.inl i) (.int i t)=true:=by simp[ym2,Value.isInt]
theorem zlu(x:Str)(t:Tok):ym2 (.inr x) (.str x t)=true:=by simp[ym2,Value.isStrOf]
theorem ygn(a b:Int):decide ((Sum.inl a:Key)=Sum.inl b)=(a == b):=by
 by_cases e:a=b
 ·subst e;simp
 ·have h:¬ (Sum.inl a:Key)=Sum.inl b:=fun q=>e (Sum.inl.inj q);rw[decide_eq_false h];exact(beq_eq_false_iff_ne.mpr e).symm
theorem ygr(a b:Str):decide ((Sum.inr a:Key)=Sum.inr b)=decide (a=b):=by
 by_cases e:a=b
 ·subst e;simp
 ·have h:¬ (Sum.inr a:Key)=Sum.inr b:=fun q=>e (Sum.inr.inj q);rw[decide_eq_false h,decide_eq_false e]
theorem ygo(a:Int)(b:Str):decide ((Sum.inl a:Key)=Sum.inr b)=false:=decide_eq_false (fun q=>nomatch q)
theorem ygq(a:Str)(b:Int):decide ((Sum.inr a:Key)=Sum.inl b)=false:=decide_eq_false (fun q=>nomatch q)
def zy2(prog:Program)(w:World):PySem.KeyKind prog w Key where
 is:=ym2
 hash:=ysb w
 inj:=fun v a b ha hb=>by
  rcases zgg ha with⟨i,t,rfl,rfl⟩|⟨x,t,rfl,rfl⟩
  ·rcases zgg hb with⟨j,u,rfl,e⟩|⟨y,u,rfl,e⟩
   ·injection e with e1 _;rw[e1]
   ·exact nomatch e
  ·rcases zgg hb with⟨j,u,rfl,e⟩|⟨y,u,rfl,e⟩
   ·exact nomatch e
   ·injection e with e1 _;rw[e1]
 byValue:=fun k v h=>by
  rcases zgg h with⟨i,t,rfl,rfl⟩|⟨x,t,rfl,rfl⟩<;>rfl
 pyHash:=fun hv h=>by
  rcases zgg hv with⟨i,t,rfl,rfl⟩|⟨x,t,rfl,rfl⟩
  ·exact wpAny_pyHash_int h
  ·exact wpAny_pyHash_str h
 eqBool:=fun hu hv h=>by
  rcases zgg hu with⟨i,t,rfl,rfl⟩|⟨x,t,rfl,rfl⟩
  ·rcases zgg hv with⟨j,u,rfl,rfl⟩|⟨y,u,rfl,rfl⟩
   ·rw[ygn]at h;exact wpAny_eqBool_int h
   ·rw[ygo]at h;exact SeqAt.EqAt.int_str i t y u _ _ _ _ h
  ·rcases zgg hv with⟨j,u,rfl,rfl⟩|⟨y,u,rfl,rfl⟩
   ·rw[ygq]at h;exact SeqAt.EqAt.str_int x t j u _ _ _ _ h
   ·rw[ygr]at h;exact wpAny_eqBool_str h
 «strs»:=fun k x t v h=>by
  rcases zgg h with⟨i,u,rfl,e⟩|⟨y,u,rfl,e⟩
  ·exact nomatch e
  ·injection e with e1 _;subst e1;cases v<;>rfl
theorem zio(prog:Program)(w:World)(k:Key)(v:Value):(zy2 prog w).is k v=ym2 k v:=rfl
theorem zgm(prog:Program)(w:World)(i:Int)(t:Tok):(zy2 prog w).is (.inl i) (.int i t)=true:=zlt i t
theorem zgn(prog:Program)(w:World)(x:Str)(t:Tok):(zy2 prog w).is (.inr x) (.str x t)=true:=zlu x t
end L2
namespace L2
open PySem PySem.Spec PyProof.Rows
inductive V where
 |non|bl (b:Bool)|int (i:Int)|str (x:Str)|byt (b:Array UInt8)|flt (b:UInt64)|ref (a:Addr)|ty (n:String)
 deriving DecidableEq
def yqp:V->Value->Prop
 | .non,u=>u=Value.none
 | .bl b,u=>u=Value.bool b
 | .int i,u=>∃ t,u=Value.int i t
 | .str x,u=>∃ t,u=Value.str x t
 | .byt b,u=>∃ t,u=Value.bytes b t
 | .flt b,u=>∃ t,u=Value.float b t
 | .ref a,u=>u=Value.ref a
 | .ty n,u=>u=Value.type n
abbrev yqx:List V->List Value->Prop:=Paired yqp
theorem yqx.length{xs:List V}{us:List Value}(r:yqx xs us):xs.length=us.length:=Paired.length r
theorem yqx.get:∀ {xs:List V} {us:List Value} {i:Nat} {x:V},yqx xs us->xs[i]?=some x->∃ u,us[i]?=some u/\yqp x u
 |_,_,_,_,.nil,e=>by simp at e
 |_,_,0,_,.cons r _,e=>by simp at e;subst e;exact⟨_,rfl,r⟩
 |_,_,i+1,x,.cons _ t,e=>by
  obtain⟨u,h1,h2⟩:=yqx.get (i:=i) (x:=x) t (by simpa using e);exact⟨u,by simpa using h1,h2⟩
theorem yqx.set{x:V}{u:Value}(r:yqp x u):∀ {xs:List V} {us:List Value} (i:Nat),yqx xs us->yqx (xs.set i x) (us.set i u)
 |_,_,_,.nil=>.nil
 |_,_,0,.cons _ t=>.cons r t
 |_,_,i+1,.cons q t=>.cons q (yqx.set r i t)
theorem yqx.append:∀ {xs ys:List V} {us ws:List Value},yqx xs us->yqx ys ws->yqx (xs++ys) (us++ws)
 |_,_,_,_,.nil,s=>s
 |_,_,_,_,.cons r t,s=>.cons r (yqx.append t s)
theorem yqx.take:∀ {xs:List V} {us:List Value} (n:Nat),yqx xs us->yqx (xs.take n) (us.take n)
 |_,_,0,_=>.nil
 |_,_,_+1,.nil=>.nil
 |_,_,n+1,.cons r t=>.cons r (yqx.take n t)
theorem yqx.drop:∀ {xs:List V} {us:List Value} (n:Nat),yqx xs us->yqx (xs.drop n) (us.drop n)
 |_,_,0,r=>r
 |_,_,_+1,.nil=>.nil
 |_,_,n+1,.cons _ t=>yqx.drop n t
theorem yqx.none_of:∀ {xs:List V} {us:List Value} {i:Nat},yqx xs us->xs[i]?=none->us[i]?=none:=fun {xs us i} r e=>by
 have h1:=r.length;have h2:xs.length<=i:=List.getElem?_eq_none_iff.mp e;exact List.getElem?_eq_none_iff.mpr (by omega)
def yqo:Option V->Option Value->Prop
 |some v,some u=>yqp v u
 |none,none=>True
 |_,_=>False
def KV{κ:Type}:List (κ × V)->List (κ × Value)->Prop:=Paired fun(p:κ × V) (q:κ × Value)=>p.1=q.1/\yqp p.2 q.2
def kV:Key->V
 | .inl i=>.int i
 | .inr x=>.str x
inductive HO where
 |lst (xs:List V)
 |tup (xs:List V)
 |dK (kvs:List (Key × V))|dT (kvs:List (List Key × V))
 |set (S:Int->Bool) (n:Nat)
 |ins (C dx:Addr) (fs:List (Str × V))
 |own (x:Addr)
 |xd (fs:List (Str × V))
 |met (f x:Addr)
 |rng (lo hi:Int)
 |frz (o:Obj) (u:HO)
 |tbl (ps:Array Value)
 |ext (φ:Heap->Prop)
abbrev Hp:=Addr->Option HO
def upd(H:Hp)(a:Addr)(o:HO):Hp:=fun b=>if b=a then some o else H b
theorem upd_same{H:Hp}{a:Addr}{o:HO}:upd H a o a=some o:=by unfold upd;rw[if_pos rfl]
theorem upd_ne{H:Hp}{a b:Addr}{o:HO}(h:b≠a):upd H a o b=H b:=by unfold upd;rw[if_neg h]
theorem ynr{H:Hp}{a b:Addr}{o u:HO}(h:H a=some o)(h':H b=some u)(d:o≠u):a≠b:=by
 intro e;subst e;rw[h]at h';exact d (Option.some.inj h')
theorem ziq{H:Hp}{a b:Addr}{o:HO}(h:H a=some o)(h':H b=none):a≠b:=by
 intro e;subst e;rw[h]at h';cases h'
section
variable(P:Program)(w:World)
def ykv(H:Hp)(h:Heap)(a:Addr):HO->Prop
 | .lst xs=>xs.length<=sizeLine/\∃ (its:List Value) (n:Nat),yqx xs its/\h.get? a=some { cls:=.type "list",data:=.seq its.toArray n }
 | .tup xs=>xs.length<=sizeLine/\∃ its:List Value,yqx xs its/\IsTup h a its.toArray
 | .dK kvs=>kvs.length<=sizeLine/\(a == sysModules)=false/\∃ vs,KV kvs vs/\h.DictOf (zy2 P w) a vs
 | .dT kvs=>kvs.length<=sizeLine/\(a == sysModules)=false/\∃ xs:List (List Key × Addr × Value),
   Paired (fun(p:List Key × V) (q:List Key × Addr × Value)=>p.1=q.1/\H q.2.1=some (.tup (p.1.map kV))/\yqp p.2 q.2.2) kvs xs/\
   ∃ o es ep,h.get? a=some o/\o.ExactDict/\o.data=.dict es ep/\es.toList=xs.map (entryOfKey (tupleKind (zy2 P w)))/\(xs.map (·.1)).Nodup
 | .set S n=>h.SetOf (intKind P w) a S n
 | .ins C dx fs=>H dx=some (.own a)/\fs.length<=1000/\dx≠a/\h.get? a=some (PySem.W.instObj C dx)/\
   ∃ mA,h.Ns1 dx mA/\(∀ f,yqo (fs.lookup f) (mA f))/\PySem.Within mA (fs.map (·.1))
 | .own _=>∃ o,h.get? a=some o
 | .xd fs=>∃ mA,h.Ns1 a mA/\∀ f,yqo (fs.lookup f) (mA f)
 | .rng lo hi=>∃ t u v,h.get? a=some { cls:=.type "range",data:=.fields #[.int lo t,.int hi u,.int 1 v] }
 | .frz o u=>h.get? a=some o/\ykv H h a u
 | .tbl ps=>h.get? a=some { cls:=.none,data:=.fields ps }
 | .met f x=>h.get? a=some (PySem.W.methodObj (.ref f) (.ref x))
 | .ext φ=>φ h/\(∃ o,h.get? a=some o)/\∀ h1 h2:Heap,φ h1->(∀ o,h1.get? a=some o->h2.get? a=some o)->φ h2
def HOk(H:Hp)(h:Heap):Prop:=∀ a o,H a=some o->ykv P w H h a o
end
section
variable{P:Program}{w:World}{H H':Hp}{h h':Heap}{a:Addr}{o:HO}
theorem ykv.lt(x:ykv P w H h a o):a<h.objs.size:=by
 cases o with
 |lst xs=>obtain⟨_,_,_,_,e⟩:=x;exact Heap.lt_size e
 |tup xs=>obtain⟨_,_,_,p⟩:=x;exact p.lt
 |dK kvs=>obtain⟨_,_,_,_,o,_,_,e,_⟩:=x;exact Heap.lt_size e
 |dT kvs=>obtain⟨_,_,_,_,o,_,_,e,_⟩:=x;exact Heap.lt_size e
 |set S n=>obtain⟨o,_,_,_,e,_⟩:=x;exact Heap.lt_size e
 |ins C dx fs=>obtain⟨_,_,_,e,_⟩:=x;exact Heap.lt_size e
 |own y=>obtain⟨_,e⟩:=x;exact Heap.lt_size e
 |xd fs=>obtain⟨_,⟨_,_,_,e,_⟩,_⟩:=x;exact Heap.lt_size e
 |rng lo hi=>obtain⟨_,_,_,e⟩:=x;exact Heap.lt_size e
 |frz ob u=>obtain⟨e,_⟩:=x;exact Heap.lt_size e
 |tbl ps=>exact Heap.lt_size (show h.get? a=some _ from x)
 |met f y=>exact Heap.lt_size (show h.get? a=some _ from x)
 |ext φ=>obtain⟨_,⟨_,e⟩,_⟩:=x;exact Heap.lt_size e
theorem Paired.mapP{α β:Type}{F G:α->β->Prop}:∀ {l₁:List α} {l₂:List β},Paired F l₁ l₂->(∀ a b,F a b->G a b)->Paired G l₁ l₂
 |_,_,.nil,_=>.nil
 |_,_,.cons r t,f=>.cons (f _ _ r) (Paired.mapP t f)
theorem ykv.stay(x:ykv P w H h a o)(k:∀ b u,(b=a\/H b=some (.own a))->h.get? b=some u->h'.get? b=some u)
  (ho:∀ b,H b=some (.own a)->H' b=some (.own a)) (ht:∀ b xs,H b=some (.tup xs)->H' b=some (.tup xs)):ykv P w H' h' a o:=by
 induction o with
 |lst xs=>obtain⟨z,its,n,r,e⟩:=x;exact⟨z,its,n,r,k _ _ (.inl rfl) e⟩
 |tup xs=>obtain⟨z,its,r,ob,e,c⟩:=x;exact⟨z,its,r,ob,k _ _ (.inl rfl) e,c⟩
 |dK kvs=>obtain⟨z,y,vs,r,ob,es,ep,e,c⟩:=x;exact⟨z,y,vs,r,ob,es,ep,k _ _ (.inl rfl) e,c⟩
 |dT kvs=>
  obtain⟨z,y,xs,r,ob,es,ep,e,c⟩:=x;exact⟨z,y,xs,Paired.mapP r fun p q z=>⟨z.1,ht _ _ z.2.1,z.2.2⟩,ob,es,ep,k _ _ (.inl rfl) e,c⟩
 |set S n=>obtain⟨ob,es,ep,t,e,c⟩:=x;exact⟨ob,es,ep,t,k _ _ (.inl rfl) e,c⟩
 |ins C dx fs=>
  obtain⟨d,z,ne,e,mA,⟨od,es,ep,e2,c⟩,r⟩:=x;exact⟨ho _ d,z,ne,k _ _ (.inl rfl) e,mA,⟨od,es,ep,k _ _ (.inr d) e2,c⟩,r⟩
 |own y=>obtain⟨ob,e⟩:=x;exact⟨ob,k _ _ (.inl rfl) e⟩
 |xd fs=>obtain⟨mA,⟨od,es,ep,e,c⟩,r⟩:=x;exact⟨mA,⟨od,es,ep,k _ _ (.inl rfl) e,c⟩,r⟩
 |rng lo hi=>obtain⟨t,u,v,e⟩:=x;exact⟨t,u,v,k _ _ (.inl rfl) e⟩
 |frz ob u ih=>obtain⟨e,q⟩:=x;exact⟨k _ _ (.inl rfl) e,ih q⟩
 |tbl ps=>
  have e:h.get? a=some { cls:=.none,data:=.fields ps }:=x;show h'.get? a=some { cls:=.none,data:=.fields ps };exact k a _ (.inl rfl) e
 |met f y=>
  have e:h.get? a=some (PySem.W.methodObj (.ref f) (.ref y)):=x;show h'.get? a=some (PySem.W.methodObj (.ref f) (.ref y));exact k a _ (.inl rfl) e
 |ext φ=>obtain⟨p,⟨o,e⟩,st⟩:=x;exact⟨st _ _ p fun o q=>k _ _ (.inl rfl) q,⟨o,k _ _ (.inl rfl) e⟩,st⟩
theorem HOk.lt(x:HOk P w H h)(e:H a=some o):a<h.objs.size:=(x a o e).lt
theorem HOk.fresh(x:HOk P w H h)(e:h.objs.size<=a):H a=none:=by
 cases q:H a with
 |none=>rfl
 |some u=>exact absurd (Nat.lt_of_lt_of_le (x.lt q) e) (Nat.lt_irrefl _)
theorem HOk.kept(x:HOk P w H h)(k:∀ b u,h.get? b=some u->h'.get? b=some u):HOk P w H h':=fun a o e=>
 (x a o e).stay (fun b u _ q=>k b u q) (fun _ q=>q) fun _ _ q=>q
theorem HOk.laid(x:HOk P w H h)(k:∀ b u,h.get? b=some u->h'.get? b=some u)(hp:h.objs.size<=a)(new:ykv P w (upd H a o) h' a o):HOk P w (upd H a o) h':=fun b u e=>by
 have hn:=x.fresh hp;by_cases hb:b=a
 ·subst hb;rw[upd_same]at e;cases e;exact new
 ·rw[upd_ne hb]at e;exact(x b u e).stay (fun c v _ q=>k c v q) (fun c q=>by rw[upd_ne (ziq q hn)];exact q) fun c xs q=>by rw[upd_ne (ziq q hn)];exact q
end
def Rd(H:Hp)(a:Addr)(u:HO):Prop:=H a=some u\/∃ o,H a=some (.frz o u)
theorem Rd.of{H:Hp}{a:Addr}{u:HO}(h:H a=some u):Rd H a u:=.inl h
theorem Rd.ok{P:Program}{w:World}{H:Hp}{h:Heap}{a:Addr}{u:HO}(r:Rd H a u)(x:HOk P w H h):ykv P w H h a u:=by
 rcases r with r|⟨o,r⟩
 ·exact x a u r
 ·obtain⟨_,q⟩:=x a _ r;exact q
def Mut:Option HO->Prop
 |some (.lst _)=>True
 |some (.dK _)=>True
 |some (.dT _)=>True
 |some (.set _ _)=>True
 |some (.ins _ _ _)=>True
 |some (.ext _)=>True
 |_=>False
section
variable{P:Program}{w:World}{H:Hp}{h h':Heap}{x e:Addr}{o':HO}
theorem HOk.write(ok:HOk P w H h)(mu:Mut (H x))(he:e=x\/H e=some (.own x))(k:∀ b u,b≠e->h.get? b=some u->h'.get? b=some u)(heo:∃ u,h'.get? e=some u)
  (new:ykv P w (upd H x o') h' x o'):HOk P w (upd H x o') h':=fun b u q=>by
 have nown:∀ c y,H c=some (.own y)->c≠x:=fun c y r z=>by subst z;rw[r]at mu;exact mu
 have ntup:∀ c xs,H c=some (.tup xs)->c≠x:=fun c xs r z=>by subst z;rw[r]at mu;exact mu
 by_cases hb:b=x
 ·subst hb;rw[upd_same]at q;cases q;exact new
 ·rw[upd_ne hb]at q;by_cases hbe:b=e
  ·have q':H b=some (.own x):=by
    rcases he with z|z
    ·exact absurd (hbe.trans z) hb
    ·rw[hbe];exact z
   rw[q]at q';cases q';obtain⟨v,hv⟩:=heo;exact⟨v,by rw[hbe];exact hv⟩
  ·refine(ok b u q).stay (fun c v hc r=>k c v ?_ r) (fun c r=>by rw[upd_ne (nown c b r)];exact r) fun c xs r=>by rw[upd_ne (ntup c xs r)];exact r
   rcases hc with rfl|hc
   ·exact hbe
   ·rintro rfl;rcases he with z|z
    ·exact nown c b hc z
    ·rw[hc]at z;cases z;exact hb rfl
end
structure Un(fs ex:List Addr)(H H':Hp)(h h':Heap):Prop where
 keep:∀ b o,h.get? b=some o->H b=none->b ∉ fs->b ∉ ex->h'.get? b=some o
 slot:∀ b o,h.get? b=some o->H b=none->b∈fs->b ∉ ex->∃ sl,h'.get? b=some { o with slots:=sl }
 free:∀ b o,h.get? b=some o->H b=none->b ∉ ex->H' b=none
 there:∀ b o,h.get? b=some o->b ∉ ex->∃ o',h'.get? b=some o'
 tups:∀ b xs,H b=some (.tup xs)->H' b=some (.tup xs)
 frzs:∀ b o u,H b=some (.frz o u)->H' b=some (.frz o u)
 tbls:∀ b ps,H b=some (.tbl ps)->∃ more,H' b=some (.tbl (ps++more))
section
variable{fs fs' ex ex':List Addr}{H H1 H2:Hp}{h h1 h2 h':Heap}{a x e:Addr}{o:HO}
theorem Un.any(u:Un fs ex H H1 h h1){b:Addr}{ob:Obj}(q:h.get? b=some ob)(n:H b=none)(hx:b ∉ ex):∃ sl,h1.get? b=some { ob with slots:=sl }:=by
 by_cases hb:b∈fs
 ·exact u.slot b ob q n hb hx
 ·exact⟨ob.slots,u.keep b ob q n hb hx⟩
theorem Un.trans(a:Un fs ex H H1 h h1)(b:Un fs ex H1 H2 h1 h2):Un fs ex H H2 h h2 where
 keep:=fun c ob q n hc hx=>b.keep c ob (a.keep c ob q n hc hx) (a.free c ob q n hx) hc hx
 slot:=fun c ob q n hc hx=>by
  obtain⟨sl,e1⟩:=a.slot c ob q n hc hx;obtain⟨sl',e2⟩:=b.slot c _ e1 (a.free c ob q n hx) hc hx;exact⟨sl',e2⟩
 free:=fun c ob q n hx=>by
  obtain⟨o',e1⟩:=a.there c ob q hx;exact b.free c o' e1 (a.free c ob q n hx) hx
 there:=fun c ob q hx=>by
  obtain⟨o',e1⟩:=a.there c ob q hx;exact b.there c o' e1 hx
 tups:=fun c xs q=>b.tups c xs (a.tups c xs q)
 frzs:=fun c ob xs q=>b.frzs c ob xs (a.frzs c ob xs q)
 tbls:=fun c ps q=>by
  obtain⟨m1,e1⟩:=a.tbls c ps q;obtain⟨m2,e2⟩:=b.tbls c _ e1;exact⟨m1++m2,by rw[e2,Array.append_assoc]⟩
theorem Un.kept(k:∀ b u,h.get? b=some u->h'.get? b=some u):Un fs ex H H h h':=
 ⟨fun b ob q _ _ _=>k b ob q,fun b ob q _ _ _=>⟨ob.slots,k b ob q⟩,fun _ _ _ n _=>n,fun b ob q _=>⟨ob,k b ob q⟩,fun _ _ q=>q,fun _ _ _ q=>q,fun _ ps q=>⟨#[],by rw[q];simp⟩⟩
theorem Un.refl:Un fs ex H H h h:=Un.kept fun _ _ q=>q
theorem Un.laid(k:∀ b u,h.get? b=some u->h'.get? b=some u)(hp:h.objs.size<=a)(hn:H a=none):Un fs ex H (upd H a o) h h' where
 keep:=fun b u q _ _ _=>k b u q
 slot:=fun b u q _ _ _=>⟨u.slots,k b u q⟩
 free:=fun b u q n _=>by rw[upd_ne (Nat.ne_of_lt (Nat.lt_of_lt_of_le (Heap.lt_size q) hp))];exact n
 there:=fun b u q _=>⟨u,k b u q⟩
 tups:=fun b xs q=>by rw[upd_ne (ziq q hn)];exact q
 frzs:=fun b u xs q=>by rw[upd_ne (ziq q hn)];exact q
 tbls:=fun b ps q=>⟨#[],by rw[upd_ne (ziq q hn),q];simp⟩
theorem Un.write(mu:Mut (H x))(he:e=x\/H e=some (.own x))(k:∀ b u,b≠e->h.get? b=some u->h'.get? b=some u)(heo:∃ u,h'.get? e=some u):Un fs ex H (upd H x o) h h':=by
 have hx:∀ b,H b=none->b≠x:=fun b n z=>by subst z;rw[n]at mu;exact mu
 have hb:∀ b,H b=none->b≠e:=fun b n z=>by
  subst z;rcases he with r|r
  ·exact hx b n r
  ·rw[n]at r;cases r
 have hm:∀ b u,H b=some u->¬ Mut (some u)->b≠x:=fun b u q nm z=>by subst z;rw[q]at mu;exact nm mu
 refine⟨fun b u q n _ _=>k b u (hb b n) q,fun b u q n _ _=>⟨u.slots,k b u (hb b n) q⟩,fun b u q n _=>by rw[upd_ne (hx b n)];exact n,fun b u q _=>?_,
  fun b xs q=>by rw[upd_ne (hm b _ q fun z=>z)];exact q,fun b u xs q=>by rw[upd_ne (hm b _ q fun z=>z)];exact q,fun b ps q=>⟨#[],by rw[upd_ne (hm b _ q fun z=>z),q];simp⟩⟩
 by_cases hbe:b=e
 ·subst hbe;exact heo
 ·exact⟨u,k b u hbe q⟩
theorem Un.mono(u:Un fs ex H H1 h h1)(hs:∀ b∈fs,b∈fs')(hx:∀ b∈ex,b∈ex'):Un fs' ex' H H1 h h1:=
 ⟨fun b ob q n hb he=>u.keep b ob q n (fun z=>hb (hs b z)) fun z=>he (hx b z),fun _ _ q n _ he=>u.any q n fun z=>he (hx _ z),fun b ob q n he=>u.free b ob q n fun z=>he (hx b z),fun b ob q he=>u.there b ob q fun z=>he (hx b z),u.tups,u.frzs,u.tbls⟩
end
def trk(h:Heap)(H:Hp):List Addr:=(List.range h.objs.size).filter fun a=>(H a).isSome
def yr4(h:Heap)(H:Hp):Heap:=PySem.W.hideAll h (trk h H)
theorem zli(h:Heap)(H:Hp):(yr4 h H).objs.size=h.objs.size:=PySem.W.hideAll_size _ _
theorem zp9{h:Heap}{H:Hp}{b:Addr}{o:Obj}(e:h.get? b=some o)(n:H b=none):(yr4 h H).get? b=some o:=
 PySem.W.hideAll_get _ e fun hm=>by
  have q:(H b).isSome=true:=(List.mem_filter.mp hm).2;rw[n]at q;simp at q
theorem zz9{h:Heap}{H:Hp}{b:Addr}{o:Obj}(e:(yr4 h H).get? b=some o):h.get? b=some o/\H b=none:=by
 have e':h.get? b=some o:=PySem.W.of_hideAll (trk h H) e;refine⟨e',?_⟩;cases q:H b with
 |none=>rfl
 |some x=>
  have hm:b∈trk h H:=List.mem_filter.mpr ⟨List.mem_range.mpr (Heap.lt_size e'),by simp[q]⟩;have z:(yr4 h H).get? b=none:=PySem.W.hideAll_none (trk h H) hm;rw[z]at e;cases e
def zuv(g h:Heap)(L:Addr):List (Addr × Obj):=(List.range h.objs.size).filterMap fun a=>if a=L\/(g.get? a).isSome=true then none else (h.get? a).map fun o=>(a,o)
def yud(g h:Heap)(L d:Addr):List (Addr × Obj):=(zuv g h L).filter fun p=>decide (p.1≠d)
end L2
namespace L2
open PySem PySem.Spec PyProof.Rows
structure Mod(K:PySem.W.Frag)(mg:Str->Option Value)(base:Heap):Prop where
 kin:K.In base
 glob:base.Ns mainGlobals mg
 blt:∃ mb,base.Ns builtinsNs mb/\∀ x:Str,x ≠ "__name__"->mb x=bootBuiltins x
 nolimit:base.NoLimit
structure Cx where
 prog:Program
 w:World
 K:PySem.W.Frag
 mg:Str->Option Value
 base:Heap
 A:Around
 N:List Str
 s₀:Shared
 H₀:Hp
 env:Env
 outer:List Env
 stack:List Env
 ex:List Addr
 fn:Str->Bool
 calm:Bool
 pn:List (Addr × Obj)
 xe:Value->Shared->Prop
def frs(l:List Env):List Addr:=l.filterMap (·.frame)
abbrev Cx.fs(X:Cx):List Addr:=frs X.outer
def Vis(sc:Scope)(x:Str):Prop:=sc.names.lookup x=some .local\/sc.names.lookup x=some .cell\/sc.names.lookup x=some .free
def Loc(sc:Scope)(x:Str):Prop:=sc.names.lookup x=some .local\/sc.names.lookup x=some .cell
def yqf(env:Env)(h:Heap)(m:Str->Option Value)(x:Str)(u:Value):Prop:=
 (env.kindOf x=some .local/\m x=some u)\/((env.kindOf x=some .cell\/env.kindOf x=some .free)/\∃ c,env.cells.lookup x=some c/\h.IsCell c (some u))
structure Cx.Ok(X:Cx):Prop where
 mod:Mod X.K X.mg X.base
 kind:X.env.scope.kind=.function
 glob:X.env.globals=mainGlobals
 blt:X.env.builtins=builtinsNs
 above:X.s₀.heap.objs.size<=X.env.locals
 inj:∀ x y c,X.env.cells.lookup x=some c->X.env.cells.lookup y=some c->x=y
 has:∀ x,(X.env.kindOf x=some .cell\/X.env.kindOf x=some .free)->∃ c,X.env.cells.lookup x=some c
 cab:∀ x c,X.fn x=true->X.env.cells.lookup x=some c->X.s₀.heap.objs.size<=c
 hd:X.calm=true->X.A.handled=none
 frames:X.A.frames=some X.stack
 stk:X.stack=X.outer\/(X.stack=X.env::X.outer/\X.env.frame=some X.env.locals)
 exf:∀ b∈X.ex,b≠X.env.locals/\∀ x c,X.env.cells.lookup x=some c->c≠b
 bs:∀ b o,X.base.get? b=some o->X.s₀.heap.get? b=some o/\X.H₀ b=none
 bsz:X.base.objs.size<=X.s₀.heap.objs.size
 noex:∀ b o,X.base.get? b=some o->b ∉ X.ex
 exfs:∀ b∈X.ex,b ∉ X.fs
 funs:X.s₀.heap.FunFrames X.base X.outer
 frf:∀ b∈X.fs,X.H₀ b=none
structure Inv(X:Cx)(pins:List (Addr × Obj))(σ:List (Option V))(H:Hp)(s:Shared):Prop where
 ok:X.Ok
 os:s.os=X.s₀.os
 bare:AllBare s.gens
 base:Un X.fs X.ex X.H₀ H X.s₀.heap s.heap
 loc:∃ m,s.heap.Ns X.env.locals m/\∀ (i:Nat) (x:Str) (v:V),X.N[i]?=some x->σ[i]?=some (some v)->Vis X.env.scope x->∃ u,yqp v u/\yqf X.env s.heap m x u
 cell:∀ x c,X.env.cells.lookup x=some c->∃ v,s.heap.IsCell c v
 free:H X.env.locals=none
 freeC:∀ x c,X.env.cells.lookup x=some c->H c=none
 pin:∀ p∈X.pn++pins,s.heap.get? p.1=some p.2/\H p.1=none/\p.1≠X.env.locals/\p.1 ∉ X.fs/\∀ v,p.2.data≠.cell v
 hok:HOk X.prog X.w H s.heap
 len:σ.length=X.N.length
section
variable{X:Cx}{pins:List (Addr × Obj)}{σ:List (Option V)}{H H':Hp}{s:Shared}{h':Heap}
theorem Cx.Ok.nofr(ok:X.Ok){b:Addr}{o:Obj}(e:X.base.get? b=some o):b ∉ X.fs:=fun hb=>by
 have:=(ok.funs.mem hb).1;rw[e]at this;cases this
theorem Inv.bs(I:Inv X pins σ H s):∀ b o,X.base.get? b=some o->s.heap.get? b=some o/\H b=none:=fun b o e=>
 ⟨I.base.keep b o (I.ok.bs b o e).1 (I.ok.bs b o e).2 (I.ok.nofr e) (I.ok.noex b o e),I.base.free b o (I.ok.bs b o e).1 (I.ok.bs b o e).2 (I.ok.noex b o e)⟩
theorem Inv.bk(I:Inv X pins σ H s):∀ b o,X.base.get? b=some o->s.heap.get? b=some o:=fun b o e=>(I.bs b o e).1
theorem Inv.mod(I:Inv X pins σ H s):Mod X.K X.mg X.base:=I.ok.mod
theorem Inv.kIn(I:Inv X pins σ H s):X.K.In s.heap:=I.ok.mod.kin.keeps I.bk
theorem Inv.nolimit(I:Inv X pins σ H s):s.heap.NoLimit:=I.ok.mod.nolimit.keeps I.bk
theorem Inv.lt(I:Inv X pins σ H s):X.env.locals<s.heap.objs.size:=let ⟨_,hn,_⟩:=I.loc;hn.lt
theorem Inv.sz(I:Inv X pins σ H s):X.s₀.heap.objs.size<=s.heap.objs.size:=Nat.le_trans I.ok.above (Nat.le_of_lt I.lt)
theorem Inv.nofs(I:Inv X pins σ H s){a:Addr}(h:s.heap.objs.size<=a):a ∉ X.fs:=fun hb=>by
 obtain⟨_,o,ho,_⟩:=I.ok.funs.mem hb;exact absurd (Nat.lt_of_lt_of_le (Heap.lt_size ho) (Nat.le_trans I.sz h)) (Nat.lt_irrefl _)
theorem Inv.cne(I:Inv X pins σ H s):∀ x c,X.env.cells.lookup x=some c->c≠X.env.locals:=fun x c e z=>by
 obtain⟨v,o,ho,hd⟩:=I.cell x c e;obtain⟨m,⟨o',es,ep,ho',hd',_⟩,_⟩:=I.loc;rw[z,ho']at ho;cases ho;rw[hd']at hd;cases hd
theorem Inv.funs(I:Inv X pins σ H s):s.heap.FunFrames X.base X.outer:=by
 have all:∀ (l:List Env),(∀ b∈frs l,b∈X.fs)->X.s₀.heap.FunFrames X.base l->s.heap.FunFrames X.base l:=by
  intro l;induction l with
  |nil=>intro _ _;trivial
  |cons env r ih=>
   intro hs hl;obtain⟨hk,⟨L,o,hf,hn,ho,hd⟩,hr⟩:=hl;have hL:L∈X.fs:=hs L (by unfold frs;rw[List.filterMap_cons,hf];exact List.mem_cons_self);obtain⟨sl,e⟩:=I.base.slot L o ho (I.ok.frf L hL) hL fun z=>I.ok.exfs L z hL;exact⟨hk,⟨L,_,hf,hn,e,hd⟩,ih (fun b hb=>hs b (by unfold frs;rw[List.filterMap_cons,hf];exact List.mem_cons_of_mem _ hb)) hr⟩
 exact all X.outer (fun _ hb=>hb) I.ok.funs
theorem Inv.stack(I:Inv X pins σ H s):s.heap.FunFrames X.base X.stack:=by
 rcases I.ok.stk with e|⟨e,hf⟩
 ·rw[e];exact I.funs
 ·rw[e];obtain⟨m,hn,_⟩:=I.loc;refine .cons (by rw[I.ok.kind];decide) hf hn ?_ I.funs;exact Heap.get?_none_of_le (Nat.le_trans I.ok.bsz I.ok.above)
theorem Inv.stkSub(I:Inv X pins σ H s):∀ b∈frs X.stack,b∈X.env.locals::X.fs:=fun b hb=>by
 rcases I.ok.stk with e|⟨e,hf⟩
 ·rw[e]at hb;exact List.mem_cons_of_mem _ hb
 ·rw[e]at hb;unfold frs at hb;rw[List.filterMap_cons,hf]at hb;exact hb
theorem Inv.stkFree(I:Inv X pins σ H s):∀ b∈frs X.stack,H b=none:=fun b hb=>by
 rcases List.mem_cons.mp (I.stkSub b hb)with e|hb
 ·rw[e];exact I.free
 ·obtain⟨_,o,ho,_⟩:=I.ok.funs.mem hb;exact I.base.free b o ho (I.ok.frf b hb) fun z=>I.ok.exfs b z hb
theorem Inv.step{g':Array GenState}{t':Nat}{d':Drawn}{ch:List Addr}(I:Inv X pins σ H s)
  (hch:∀ b∈ch,(b∈X.ex\/X.s₀.heap.objs.size<=b)/\b≠X.env.locals/\(∀ x c,X.env.cells.lookup x=some c->c≠b)/\∀ p∈X.pn++pins,p.1≠b)
  (keep:∀ b o,b≠X.env.locals->b ∉ X.fs->b ∉ ch->s.heap.get? b=some o->H b=none->h'.get? b=some o)
  (slot:∀ b o,b≠X.env.locals->b∈X.fs->b ∉ ch->s.heap.get? b=some o->H b=none->∃ sl,h'.get? b=some { o with slots:=sl }) (free:∀ b o,b ∉ ch->s.heap.get? b=some o->H b=none->H' b=none)
  (there:∀ b o,b ∉ ch->s.heap.get? b=some o->∃ o',h'.get? b=some o')
  (tups:∀ b xs,H b=some (.tup xs)->H' b=some (.tup xs)) (frzs:∀ b o u,H b=some (.frz o u)->H' b=some (.frz o u)) (tbls:∀ b ps,H b=some (.tbl ps)->∃ more,H' b=some (.tbl (ps++more)))
  (ns:∀ m,s.heap.Ns X.env.locals m->h'.Ns X.env.locals m) (hok:HOk X.prog X.w H' h') (hg:AllBare g') :
  Inv X pins σ H' { s with heap:=h',gens:=g',drawn:=d',toks:=t' }:=by
 have neL:∀ b o,X.s₀.heap.get? b=some o->b≠X.env.locals:=fun b o e=>Nat.ne_of_lt (Nat.lt_of_lt_of_le (Heap.lt_size e) I.ok.above);have neC:∀ b o,X.s₀.heap.get? b=some o->b ∉ X.ex->b ∉ ch:=fun b o e hx hb=>by
  rcases(hch b hb).1 with z|z
  ·exact hx z
  ·exact absurd (Nat.lt_of_lt_of_le (Heap.lt_size e) z) (Nat.lt_irrefl _)
 have cellK:∀ x c,X.env.cells.lookup x=some c->∀ v,s.heap.IsCell c v->h'.IsCell c v:=fun x c e v ⟨o,ho,hd⟩=>by
  have nch:c ∉ ch:=fun z=>(hch c z).2.2.1 x c e rfl;by_cases hc:c∈X.fs
  ·obtain⟨sl,q⟩:=slot c o (I.cne x c e) hc nch ho (I.freeC x c e);exact⟨_,q,hd⟩
  ·exact⟨o,keep c o (I.cne x c e) hc nch ho (I.freeC x c e),hd⟩
 refine⟨I.ok,I.os,hg,⟨fun b o e n hb hx=>?_,fun b o e n hb hx=>?_,fun b o e n hx=>?_,fun b o e hx=>?_,fun b xs e=>tups b xs (I.base.tups b xs e),fun b o xs e=>frzs b o xs (I.base.frzs b o xs e),fun b ps e=>?_⟩,?_,fun x c e=>?_,?_,fun x c e=>?_,fun p hp=>?_,hok,I.len⟩
 ·exact keep b o (neL b o e) hb (neC b o e hx) (I.base.keep b o e n hb hx) (I.base.free b o e n hx)
 ·obtain⟨sl,e1⟩:=I.base.slot b o e n hb hx;obtain⟨sl',e2⟩:=slot b _ (neL b o e) hb (neC b o e hx) e1 (I.base.free b o e n hx);exact⟨sl',e2⟩
 ·obtain⟨o',e1⟩:=I.base.there b o e hx;exact free b o' (neC b o e hx) e1 (I.base.free b o e n hx)
 ·obtain⟨o',e1⟩:=I.base.there b o e hx;exact there b o' (neC b o e hx) e1
 ·obtain⟨m1,e1⟩:=I.base.tbls b ps e;obtain⟨m2,e2⟩:=tbls b _ e1;exact⟨m1++m2,by rw[e2,Array.append_assoc]⟩
 ·obtain⟨m,hn,hl⟩:=I.loc;refine⟨m,ns m hn,fun i x v e1 e2 e3=>?_⟩;obtain⟨u,r,l⟩:=hl i x v e1 e2 e3;refine⟨u,r,?_⟩;rcases l with l|⟨k,c,e,z⟩
  ·exact .inl l
  ·exact .inr ⟨k,c,e,cellK x c e _ z⟩
 ·obtain⟨v,z⟩:=I.cell x c e;exact⟨v,cellK x c e v z⟩
 ·obtain⟨m,⟨o,_,_,ho,_⟩,_⟩:=I.loc;exact free _ o (fun z=>(hch _ z).2.1 rfl) ho I.free
 ·obtain⟨v,o,ho,hd⟩:=I.cell x c e;exact free c o (fun z=>(hch c z).2.2.1 x c e rfl) ho (I.freeC x c e)
 ·obtain⟨e,n,ne,nf,d⟩:=I.pin p hp;have nch:p.1 ∉ ch:=fun z=>(hch p.1 z).2.2.2 p hp rfl;exact⟨keep p.1 p.2 ne nf nch e n,free p.1 p.2 nch e n,ne,nf,d⟩
theorem Inv.un{t':Nat}(I:Inv X pins σ H s)(u:Un X.fs [] H H' s.heap h')(hok:HOk X.prog X.w H' h'):Inv X pins σ H' { s with heap:=h',toks:=t' }:=by
 obtain⟨m,⟨o,es,ep,ho,r⟩,_⟩:=id I.loc;obtain⟨sl,hL⟩:=u.any ho I.free (by simp);exact I.step (g':=s.gens) (d':=s.drawn) (ch:=[]) (fun _ z=>nomatch z) (fun b o _ hb _ e n=>u.keep b o e n hb (by simp)) (fun b o _ hb _ e n=>u.slot b o e n hb (by simp)) (fun b o _ e n=>u.free b o e n (by simp)) (fun b o _ e=>u.there b o e (by simp)) u.tups u.frzs u.tbls (fun m' hm=>by
  obtain⟨o',es',ep',ho',r'⟩:=hm;rw[ho]at ho';cases ho';exact⟨_,es',ep',hL,r'⟩) hok I.bare
theorem Inv.call{g':Array GenState}{t':Nat}{d':Drawn}{ch:List Addr}(I:Inv X pins σ H s)(u:Un (frs X.stack) ch H H' s.heap h')(hok:HOk X.prog X.w H' h')(hg:AllBare g')
  (hch:∀ b∈ch,(b∈X.ex\/X.s₀.heap.objs.size<=b)/\b≠X.env.locals/\(∀ x c,X.env.cells.lookup x=some c->c≠b)/\∀ p∈X.pn++pins,p.1≠b) :
  Inv X pins σ H' { s with heap:=h',gens:=g',drawn:=d',toks:=t' }:=by
 obtain⟨m,⟨o,es,ep,ho,r⟩,_⟩:=id I.loc;obtain⟨sl,hL⟩:=u.any ho I.free fun z=>(hch _ z).2.1 rfl;exact I.step (ch:=ch) hch (fun b o hL hb hc e n=>u.keep b o e n (fun z=>(List.mem_cons.mp (I.stkSub b z)).elim hL hb) hc) (fun b o _ _ hc e n=>u.any e n hc) (fun b o hc e n=>u.free b o e n hc) (fun b o hc e=>u.there b o e hc) u.tups u.frzs u.tbls (fun m' hm=>by
  obtain⟨o',es',ep',ho',r'⟩:=hm;rw[ho]at ho';cases ho';exact⟨_,es',ep',hL,r'⟩) hok hg
theorem Inv.turned{t':Nat}{it:Addr}(I:Inv X pins σ H s)(k:∀ b o,b≠it->s.heap.get? b=some o->h'.get? b=some o)(hn:H it=none)(hL:it≠X.env.locals)
  (h1:it∈X.ex\/X.s₀.heap.objs.size<=it) (h2:∀ x c,X.env.cells.lookup x=some c->c≠it) (h3:∀ p∈X.pn++pins,p.1≠it):Inv X pins σ H { s with heap:=h',toks:=t' }:=by
 have nit:∀ b u,H b=some u->b≠it:=fun b u e z=>by rw[z,hn]at e;cases e
 refine I.step (g':=s.gens) (d':=s.drawn) (ch:=[it]) (fun b hb=>?_) (fun b o _ _ hc e _=>k b o (fun z=>hc (by simp[z])) e) (fun b o _ _ hc e _=>⟨o.slots,k b o (fun z=>hc (by simp[z])) e⟩) (fun _ _ _ _ n=>n)
  (fun b o hc e=>⟨o,k b o (fun z=>hc (by simp[z])) e⟩) (fun _ _ e=>e) (fun _ _ _ e=>e) (fun b ps e=>⟨#[],by rw[e];simp⟩) (fun m hm=>?_) (fun b u e=>?_) I.bare
 ·have e:b=it:=by simpa using hb
  subst e;exact⟨h1,hL,h2,h3⟩
 ·obtain⟨o,es,ep,ho,r⟩:=hm;exact⟨o,es,ep,k _ o (Ne.symm hL) ho,r⟩
 ·refine(I.hok b u e).stay (fun c v hc q=>k c v ?_ q) (fun _ q=>q) fun _ _ q=>q;rcases hc with z|z
  ·rw[z];exact nit b u e
  ·exact nit c _ z
theorem Inv.tok(I:Inv X pins σ H s)(t:Nat):Inv X pins σ H { s with toks:=t }:=I.un (h':=s.heap) (t':=t) Un.refl I.hok
theorem Inv.kept{t':Nat}(I:Inv X pins σ H s)(k:∀ b u,s.heap.get? b=some u->h'.get? b=some u):Inv X pins σ H { s with heap:=h',toks:=t' }:=I.un (Un.kept k) (I.hok.kept k)
theorem Inv.laid{a:Addr}{o:HO}{t':Nat}(I:Inv X pins σ H s)(k:∀ b u,s.heap.get? b=some u->h'.get? b=some u)(hp:s.heap.objs.size<=a)(new:ykv X.prog X.w (upd H a o) h' a o) :
  Inv X pins σ (upd H a o) { s with heap:=h',toks:=t' }:=I.un (Un.laid k hp (I.hok.fresh hp)) (I.hok.laid k hp new)
theorem Inv.write{x e:Addr}{o:HO}{t':Nat}(I:Inv X pins σ H s)(mu:Mut (H x))(he:e=x\/H e=some (.own x))(k:∀ b u,b≠e->s.heap.get? b=some u->h'.get? b=some u)(heo:∃ u,h'.get? e=some u)
  (new:ykv X.prog X.w (upd H x o) h' x o):Inv X pins σ (upd H x o) { s with heap:=h',toks:=t' }:=I.un (Un.write mu he k heo) (I.hok.write mu he k heo new)
theorem Inv.pins_of{pins':List (Addr × Obj)}(I:Inv X pins σ H s)(h:∀ p∈pins',s.heap.get? p.1=some p.2/\H p.1=none/\p.1≠X.env.locals/\p.1 ∉ X.fs/\∀ v,p.2.data≠.cell v):Inv X pins' σ H s:=
 ⟨I.ok,I.os,I.bare,I.base,I.loc,I.cell,I.free,I.freeC,fun p hp=>(List.mem_append.mp hp).elim (fun z=>I.pin p (List.mem_append_left _ z)) (h p),I.hok,I.len⟩
theorem zrk{N:List Str}(hN:N.Nodup){i j:Nat}{x:Str}(a:N[i]?=some x)(b:N[j]?=some x):i=j:=by
 obtain⟨h1,e1⟩:=List.getElem?_eq_some_iff.mp a;obtain⟨h2,e2⟩:=List.getElem?_eq_some_iff.mp b;exact(List.getElem_inj hN).mp (e1.trans e2.symm)
theorem znr{M:Model}{A:Around}{E:Value->Shared->Prop}{i:Nat}{x:Str}{v:V}{u:Value}{Q:Unit->Shared->Prop}(I:Inv X pins σ H s)(hN:X.N.Nodup)(hi:X.N[i]?=some x)(hx:Loc X.env.scope x)(r:yqp v u)
  (h:∀ s',Inv X pins (σ.set i (some v)) H s'->(∃ a,Heap.SameBut a s.heap s'.heap/\(a=X.env.locals\/X.env.cells.lookup x=some a))->Q () s') (hf:X.fn x=true\/X.env.scope.names.lookup x=some .local:=by first|exact .inl rfl|exact .inr rfl|assumption):wpAny M A (storeName X.env x u) Q E s:=by
 obtain⟨m,hn,hl⟩:=id I.loc;have hcls:(X.env.scope.kind == .class || (X.env.scope.kind == .module && X.env.locals != X.env.globals))=false:=by rw[I.ok.kind];rfl
 have hiσ:i<σ.length:=by rw[I.len];exact(List.getElem?_eq_some_iff.mp hi).1
 have cne:=I.cne;have tracked:∀ {a:Addr} {h':Heap},(∃ o,s.heap.get? a=some o/\H a=none)->Heap.SameBut a s.heap h'->HOk X.prog X.w H h':=fun {a h'} ha hs b ob e=>by
  obtain⟨_,_,hfree⟩:=ha;refine(I.hok b ob e).stay (fun c w' hc q=>(hs.2 c ?_).trans q) (fun _ q=>q) fun _ _ q=>q;rintro rfl;rcases hc with rfl|hc
  ·rw[hfree]at e;cases e
  ·rw[hfree]at hc;cases hc
 rcases hx with hk|hk
 ·refine wpAny_storeName_local hk hn (fun h' hn' hs=>?_) hcls;obtain⟨oL,_,_,hoL,_⟩:=id hn;refine h _ ⟨I.ok,I.os,I.bare,⟨fun b o e n hb hx=>?_,fun b o e n hb hx=>?_,I.base.free,fun b o e hx=>?_,I.base.tups,I.base.frzs,I.base.tbls⟩,⟨_,hn',fun j y v' e1 e2 e3=>?_⟩,fun y c e=>?_,I.free,I.freeC,fun p hp=>?_,tracked ⟨oL,hoL,I.free⟩ hs,by simpa using I.len⟩ ⟨_,hs,.inl rfl⟩
  ·exact(hs.2 b (Nat.ne_of_lt (Nat.lt_of_lt_of_le (Heap.lt_size e) I.ok.above))).trans (I.base.keep b o e n hb hx)
  ·obtain⟨sl,e1⟩:=I.base.slot b o e n hb hx;exact⟨sl,(hs.2 b (Nat.ne_of_lt (Nat.lt_of_lt_of_le (Heap.lt_size e) I.ok.above))).trans e1⟩
  ·obtain⟨o',e1⟩:=I.base.there b o e hx;exact⟨o',(hs.2 b (Nat.ne_of_lt (Nat.lt_of_lt_of_le (Heap.lt_size e) I.ok.above))).trans e1⟩
  ·by_cases hj:j=i
   ·subst hj;rw[hi]at e1;cases e1;rw[List.getElem?_set_self hiσ]at e2;cases e2;exact⟨u,r,.inl ⟨hk,by simp⟩⟩
   ·rw[List.getElem?_set_ne (Ne.symm hj)]at e2;obtain⟨u',r',q⟩:=hl j y v' e1 e2 e3;refine⟨u',r',?_⟩;rcases q with⟨k,e⟩|⟨k,c,e,z⟩
    ·refine .inl ⟨k,?_⟩;have:y≠x:=fun e=>hj (zrk hN e1 (e ▸ hi));simp[this,e]
    ·exact .inr ⟨k,c,e,z.sameBut hs (cne y c e)⟩
  ·obtain⟨w',z⟩:=I.cell y c e;exact⟨w',z.sameBut hs (cne y c e)⟩
  ·obtain⟨e,n,ne,nf,d⟩:=I.pin p hp;exact⟨(hs.2 p.1 ne).trans e,n,ne,nf,d⟩
 ·have hfn:X.fn x=true:=by
   rcases hf with z|z
   ·exact z
   ·rw[z]at hk;cases hk
  obtain⟨c,hc⟩:=I.ok.has x (.inl hk);obtain⟨w',z⟩:=I.cell x c hc;refine wpAny_storeName_cell I.ok.kind hk hc z (fun h' hc' hs=>?_);obtain⟨oc,hoc,hocd⟩:=id z;refine h { s with heap:=h' } ⟨I.ok,I.os,I.bare,⟨fun b o e n hb hx=>?_,fun b o e n hb hx=>?_,I.base.free,fun b o e hx=>?_,I.base.tups,I.base.frzs,I.base.tbls⟩,⟨m,hn.sameBut hs (Ne.symm (cne x c hc)),fun j y v' e1 e2 e3=>?_⟩,fun y c' e=>?_,I.free,I.freeC,fun p hp=>?_,tracked ⟨oc,hoc,I.freeC x c hc⟩ hs,by simpa using I.len⟩ ⟨c,hs,.inr hc⟩
  ·exact(hs.2 b (Nat.ne_of_lt (Nat.lt_of_lt_of_le (Heap.lt_size e) (I.ok.cab x c hfn hc)))).trans (I.base.keep b o e n hb hx)
  ·obtain⟨sl,e1⟩:=I.base.slot b o e n hb hx;exact⟨sl,(hs.2 b (Nat.ne_of_lt (Nat.lt_of_lt_of_le (Heap.lt_size e) (I.ok.cab x c hfn hc)))).trans e1⟩
  ·obtain⟨o',e1⟩:=I.base.there b o e hx;exact⟨o',(hs.2 b (Nat.ne_of_lt (Nat.lt_of_lt_of_le (Heap.lt_size e) (I.ok.cab x c hfn hc)))).trans e1⟩
  ·by_cases hj:j=i
   ·subst hj;rw[hi]at e1;cases e1;rw[List.getElem?_set_self hiσ]at e2;cases e2;exact⟨u,r,.inr ⟨.inl hk,c,hc,hc'⟩⟩
   ·rw[List.getElem?_set_ne (Ne.symm hj)]at e2;obtain⟨u',r',q⟩:=hl j y v' e1 e2 e3;refine⟨u',r',?_⟩;rcases q with q|⟨k,c',e,z'⟩
    ·exact .inl q
    ·refine .inr ⟨k,c',e,z'.sameBut hs ?_⟩;rintro rfl;exact hj (zrk hN e1 (I.ok.inj _ _ _ e hc ▸ hi))
  ·by_cases hcc:c'=c
   ·subst hcc;exact⟨_,hc'⟩
   ·obtain⟨w2,z2⟩:=I.cell y c' e;exact⟨w2,z2.sameBut hs hcc⟩
  ·obtain⟨e,n,ne,nf,d⟩:=I.pin p hp;refine⟨(hs.2 p.1 ?_).trans e,n,ne,nf,d⟩;intro q;rw[q,hoc]at e;have q':oc=p.2:=Option.some.inj e;exact d w' (by rw[<-q'];exact hocd)
theorem zt4{M:Model}{A:Around}{E:Value->Shared->Prop}{i:Nat}{x:Str}{v:V}{u:Value}{Q:Unit->Shared->Prop}(I:Inv X pins σ H s)(hN:X.N.Nodup)(hi:X.N[i]?=some x)(hx:Loc X.env.scope x)(r:yqp v u)
  (h:∀ s',Inv X pins (σ.set i (some v)) H s'->Q () s') (hf:X.fn x=true\/X.env.scope.names.lookup x=some .local:=by first|exact .inl rfl|exact .inr rfl|assumption):wpAny M A (storeName X.env x u) Q E s:=
 znr I hN hi hx r (fun s' I' _=>h s' I') hf
theorem Inv.call'{s':Shared}{ch:List Addr}(I:Inv X pins σ H s)(ho:s'.os=s.os)(u:Un (frs X.stack) ch H H' s.heap s'.heap)(hok:HOk X.prog X.w H' s'.heap)(hg:AllBare s'.gens)
  (hch:∀ b∈ch,(b∈X.ex\/X.s₀.heap.objs.size<=b)/\b≠X.env.locals/\(∀ x c,X.env.cells.lookup x=some c->c≠b)/\∀ p∈X.pn++pins,p.1≠b):Inv X pins σ H' s':=by
 obtain⟨h',g',d',t',o'⟩:=s';have e:o'=s.os:=ho;subst e;exact I.call (g':=g') (t':=t') (d':=d') u hok hg hch
end
abbrev XK:=Value->Option Addr->Hp->Prop
abbrev St:=List (Option V)
abbrev VK:=V->Hp->Prop
abbrev TE:=St->Hp->VK->Prop
abbrev TT:=St->Hp->(Bool->Hp->Prop)->Prop
abbrev TA:=St->Hp->(List V->Hp->Prop)->Prop
structure Ends where
 nx:St->Hp->Prop
 rt:VK
 bk:St->Hp->Prop:=fun _ _=>False
 ct:St->Hp->Prop:=fun _ _=>False
abbrev TS:=Ends->St->Hp->Prop
def EP(X:Cx)(pins:List (Addr × Obj))(σ:St)(Q:VK)(u:Value)(s':Shared):Prop:=∃ v H',Inv X pins σ H' s'/\yqp v u/\Q v H'
def TP(X:Cx)(pins:List (Addr × Obj))(σ:St)(Q:Bool->Hp->Prop)(b:Bool)(s':Shared):Prop:=∃ H',Inv X pins σ H' s'/\Q b H'
def AP(X:Cx)(pins:List (Addr × Obj))(σ:St)(Q:List V->Hp->Prop)(us:List Value)(s':Shared):Prop:=∃ vs H',Inv X pins σ H' s'/\yqx vs us/\Q vs H'
def SP(X:Cx)(pins:List (Addr × Obj))(D:Ends)(f:Flow)(s':Shared):Prop:=
 match f with
 | .next=>∃ σ' H',Inv X pins σ' H' s'/\D.nx σ' H'
 | .brk=>∃ σ' H',Inv X pins σ' H' s'/\D.bk σ' H'
 | .cont=>∃ σ' H',Inv X pins σ' H' s'/\D.ct σ' H'
 | .ret u=>∃ v σ' H',Inv X pins σ' H' s'/\yqp v u/\D.rt v H'
def PE(X:Cx)(e:Expr)(t:TE):Prop:=
 ∀ (pins:List (Addr × Obj)) (s:Shared) (σ:St) (H:Hp) (Q:VK),Inv X pins σ H s->t σ H Q->wpAny (model X.prog X.w) X.A (eval e X.env) (EP X pins σ Q) X.xe s
def PT(X:Cx)(e:Expr)(t:TT):Prop:=
 ∀ (pins:List (Addr × Obj)) (s:Shared) (σ:St) (H:Hp) (Q:Bool->Hp->Prop),Inv X pins σ H s->t σ H Q->wpAny (model X.prog X.w) X.A (isTrue e X.env (eval e X.env)) (TP X pins σ Q) X.xe s
def PW(X:Cx)(e:Expr)(t:TT):Prop:=
 ∀ (whole:Sem Value) (pins:List (Addr × Obj)) (s:Shared) (σ:St) (H:Hp) (Q:Bool->Hp->Prop),Inv X pins σ H s->t σ H Q->wpAny (model X.prog X.w) X.A (isTrue e X.env whole) (TP X pins σ Q) X.xe s
theorem PW.pt{X:Cx}{e:Expr}{t:TT}(h:PW X e t):PT X e t:=h _
def PA(X:Cx)(es:List Expr)(t:TA):Prop:=
 ∀ (pos:Pos) (pins:List (Addr × Obj)) (s:Shared) (σ:St) (H:Hp) (Q:List V->Hp->Prop),Inv X pins σ H s->t σ H Q->wpAny (model X.prog X.w) X.A (spliced (backTo pos (starEach es X.env))) (AP X pins σ Q) X.xe s
def PS(X:Cx)(st:Stmt)(t:TS):Prop:=
 ∀ (pins:List (Addr × Obj)) (s:Shared) (σ:St) (H:Hp) (D:Ends),Inv X pins σ H s->t D σ H->wpAny (model X.prog X.w) X.A (exec st X.env) (SP X pins D) X.xe s
def PSs(X:Cx)(st:List Stmt)(t:TS):Prop:=
 ∀ (pins:List (Addr × Obj)) (s:Shared) (σ:St) (H:Hp) (D:Ends),Inv X pins σ H s->t D σ H->wpAny (model X.prog X.w) X.A (execs st X.env) (SP X pins D) X.xe s
theorem thn{α:Type}{t:Sem α}{Q Q':α->Shared->Prop}{M:Model}{A:Around}{E:Value->Shared->Prop}{s:Shared}(h:wpAny M A t Q E s)(hQ:∀ a s,Q a s->Q' a s):wpAny M A t Q' E s:=wpAny_mono h hQ fun _ _ x=>x
end L2
namespace L2
open PySem PySem.Spec PyProof.Rows
section
variable{X:Cx}
theorem bin{a b:Expr}{ta tb:TE}(ha:PE X a ta)(hb:PE X b tb){pins:List (Addr × Obj)}{s:Shared}{σ:St}{H:Hp}{R:V->V->Hp->Prop}(I:Inv X pins σ H s)(h:ta σ H fun x H1=>tb σ H1 fun y H2=>R x y H2)
  {α:Type} {Q:α->Shared->Prop} {f:Value->Value->Sem α}
  (hf:∀ v u s2 x y H2,Inv X pins σ H2 s2->yqp x v->yqp y u->R x y H2->wpAny (model X.prog X.w) X.A (f v u) Q X.xe s2) :
  wpAny (model X.prog X.w) X.A (eval a X.env) (fun v s₁=>wpAny (model X.prog X.w) X.A (eval b X.env) (fun u s₂=>wpAny (model X.prog X.w) X.A (f v u) Q X.xe s₂) X.xe s₁) X.xe s:=by
 refine thn (ha pins s σ H _ I h) fun v s1 ⟨x,H1,I1,r1,q1⟩=>?_;refine thn (hb pins s1 σ H1 _ I1 q1) fun u s2 ⟨y,H2,I2,r2,q2⟩=>?_;exact hf v u s2 x y H2 I2 r1 r2 q2
def yvi(i:Nat):TE:=fun σ H Q=>∃ v,σ[i]?=some (some v)/\Q v H
def tC(v:V):TE:=fun _ H Q=>Q v H
theorem yiw{i:Nat}{x:Str}{pos:Pos}(hN:X.N[i]?=some x)(hv:Vis X.env.scope x)(hd:(x == ("__debug__" : Str))=false:=by decide)(hcd:(x == ("__classdict__" : Str))=false:=by decide):PE X (.Name x pos) (yvi i):=by
 intro pins s σ H Q I h;obtain⟨v,e,h⟩:=h;obtain⟨m,hn,hl⟩:=I.loc;obtain⟨u,r,l⟩:=hl i x v hN e hv;have fin:EP X pins σ Q u s:=⟨v,H,I,r,h⟩
 rcases l with⟨hk,hm⟩|⟨hk,c,hc,hcell⟩
 ·exact wpAny_Name (wpAny_loadName_local I.ok.kind hk hn hm fin) hd
 ·rcases hk with hk|hk
  ·exact wpAny_Name (wpAny_loadName_cell I.ok.kind hk hc hcell fin) hd
  ·exact wpAny_Name (wpAny_loadName_free I.ok.kind hk hc hcell fin hcd) hd
theorem yip{i j pos}:PE X (.Constant (.int i) j pos) (tC (.int i)):=fun _ _ _ H _ I h=>wpAny_Constant_int ⟨.int i,H,I.tok _,⟨_,rfl⟩,h⟩
theorem yod{b j pos}:PE X (.Constant (.bool b) j pos) (tC (.bl b)):=fun _ _ _ H _ I h=>Constant_bool ⟨.bl b,H,I,rfl,h⟩
theorem yir{j pos}:PE X (.Constant .none j pos) (tC .non):=fun _ _ _ H _ I h=>Constant_none ⟨.non,H,I,rfl,h⟩
theorem yiu{x j pos}:PE X (.Constant (.str x) j pos) (tC (.str x)):=fun _ _ _ H _ I h=>Calls.Constant_str ⟨.str x,H,I.tok _,⟨_,rfl⟩,h⟩
def Gl(X:Cx)(x:Str):Prop:=X.env.kindOf x=some .globalImplicit
theorem zym{E:Value->Shared->Prop}{pins:List (Addr × Obj)}{s:Shared}{σ:St}{H:Hp}{x:Str}{u:Value}{pos:Pos}{Q:Value->Shared->Prop}(I:Inv X pins σ H s)(hg:Gl X x)(hm:X.mg x=some u)(h:Q u s)
  (hd:(x == ("__debug__" : Str))=false:=by decide):wpAny (model X.prog X.w) X.A (eval (.Name x pos) X.env) Q E s:=
 Calls.Name_function_global I.ok.kind hg (Calls.loadGlobal_global (by rw[I.ok.glob];exact I.mod.glob.keeps I.bk) hm h) hd
theorem ygw{E:Value->Shared->Prop}{pins:List (Addr × Obj)}{s:Shared}{σ:St}{H:Hp}{x:Str}{u:Value}{pos:Pos}{Q:Value->Shared->Prop}(I:Inv X pins σ H s)(hg:Gl X x)(hm:X.mg x=none)(hv:bootBuiltins x=some u)(h:Q u s)
  (hn:x ≠ "__name__":=by decide) (hd:(x == ("__debug__" : Str))=false:=by decide):wpAny (model X.prog X.w) X.A (eval (.Name x pos) X.env) Q E s:=by
 obtain⟨mb,h1,h2⟩:=I.mod.blt;exact Calls.Name_function_global I.ok.kind hg (Calls.loadGlobal_builtin (by rw[I.ok.glob];exact I.mod.glob.keeps I.bk) hm (by rw[I.ok.blt];exact h1.keeps I.bk) ((h2 x hn).trans hv) h) hd
theorem yak{x:Str}{v:V}{u:Value}{pos:Pos}(hg:Gl X x)(hm:X.mg x=some u)(r:yqp v u)(hd:(x == ("__debug__" : Str))=false:=by decide):PE X (.Name x pos) (tC v):=
 fun _ _ _ H _ I h=>zym I hg hm ⟨v,H,I,r,h⟩ hd
theorem yag{x:Str}{v:V}{u:Value}{pos:Pos}(hg:Gl X x)(hm:X.mg x=none)(hv:bootBuiltins x=some u)(r:yqp v u)(hn:x ≠ "__name__":=by decide)(hd:(x == ("__debug__" : Str))=false:=by decide):PE X (.Name x pos) (tC v):=
 fun _ _ _ H _ I h=>ygw I hg hm hv ⟨v,H,I,r,h⟩ hn hd
variable{a b:Expr}{ta tb:TE}{pos:Pos}
def PC(X:Cx)(op:CmpOp)(a b:Expr)(t:TE):Prop:=
 ∀ (pins:List (Addr × Obj)) (s:Shared) (σ:St) (H:Hp) (Q:VK),Inv X pins σ H s->t σ H Q->
  wpAny (model X.prog X.w) X.A (eval a X.env) (fun v s₁=>wpAny (model X.prog X.w) X.A (eval b X.env) (fun u s₂=>wpAny (model X.prog X.w) X.A (compareOp op v u) (EP X pins σ Q) X.xe s₂) X.xe s₁) X.xe s
theorem zri(b:Expr){op:CmpOp}(h:op≠.In)(h2:op≠.NotIn):behindInMarks op b=false:=by
 have e1:(op == CmpOp.In)=false:=by cases op<;>first|rfl|exact absurd rfl h
 have e2:(op == CmpOp.NotIn)=false:=by cases op<;>first|rfl|exact absurd rfl h2
 cases b<;>simp[behindInMarks,e1,e2]
def tB(t:TE):TT:=fun σ H Q=>t σ H fun x H1=>∃ c,x=.bl c/\Q c H1
theorem yi6{op:CmpOp}{t:TE}(h:PC X op a b t)(h1:behindInMarks op b=false:=by first|exact zri _ (by decide) (by decide)|rfl):PT X (.Compare a [op] [b] pos) (tB t):=by
 intro pins s σ H Q I hw;refine wpAny_isTrue_Compare1 (thn (h pins s σ H _ I hw) fun v s1 h1=>thn h1 fun u s2 h2=>thn h2 fun c s3 ⟨x,H1,I1,r1,q1⟩=>?_) h1;obtain⟨d,rfl,q⟩:=q1;cases r1;exact wpAny_truthy_bool ⟨H1,I1,q⟩
theorem yi8{e:Expr}{t:TE}(h:PE X e t)(he:∀ whole,isTrue e X.env whole=(do let v <-whole;standAt e.pos;holding [v] (truthy v)):=by intro _;rfl):PT X e (tB t):=by
 intro pins s σ H Q I hw;refine isTrue_plain (thn (h pins s σ H _ I hw) fun v s1 ⟨x,H1,I1,r1,q1⟩=>?_) (he _);obtain⟨d,rfl,q⟩:=q1;cases r1;exact wpAny_truthy_bool ⟨H1,I1,q⟩
variable{tA tB':TT}{yud:List Expr}
def yu5(t u:TT):TT:=fun σ H Q=>t σ H fun c H1=>if c=true then u σ H1 Q else Q false H1
def tOr(t u:TT):TT:=fun σ H Q=>t σ H fun c H1=>if c=true then Q true H1 else u σ H1 Q
def yvd(t:TT):TT:=fun σ H Q=>t σ H fun c H1=>Q (!c) H1
theorem ya2(ha:PT X a tA):PW X (.BoolOp .And [a] pos) tA:=by
 intro wh pins s σ H Q I h;refine isTrue_and (thn (ha pins s σ H Q I h) fun c s1 e=>?_);cases c with
 |true=>exact isTrue_and_nil e
 |false=>exact e
theorem yja(ha:PT X a tA):PW X (.BoolOp .Or [a] pos) tA:=by
 intro wh pins s σ H Q I h;refine isTrue_or (thn (ha pins s σ H Q I h) fun c s1 e=>?_);cases c with
 |false=>exact isTrue_or_nil e
 |true=>exact e
theorem yi9(ha:PT X a tA)(hb:PW X (.BoolOp .And (b::yud) pos) tB'):PW X (.BoolOp .And (a::b::yud) pos) (yu5 tA tB'):=by
 intro wh pins s σ H Q I h;refine isTrue_and (thn (ha pins s σ H _ I h) fun c s1 ⟨H1,I1,q1⟩=>?_);cases c with
 |true=>exact hb wh pins s1 σ H1 Q I1 q1
 |false=>exact⟨H1,I1,q1⟩
theorem yon(ha:PT X a tA)(hb:PW X (.BoolOp .Or (b::yud) pos) tB'):PW X (.BoolOp .Or (a::b::yud) pos) (tOr tA tB'):=by
 intro wh pins s σ H Q I h;refine isTrue_or (thn (ha pins s σ H _ I h) fun c s1 ⟨H1,I1,q1⟩=>?_);cases c with
 |true=>exact⟨H1,I1,q1⟩
 |false=>exact hb wh pins s1 σ H1 Q I1 q1
theorem yi7(ha:PT X a tA):PT X (.UnaryOp .Not a pos) (yvd tA):=by
 intro pins s σ H Q I h;exact isTrue_not (ha pins s σ H (fun c H1=>Q (!c) H1) I h)
def ypi(ta tb:TE):TE:=fun σ H Q=>ta σ H fun x H1=>∃ c,x=.bl c/\if c=true then tb σ H1 Q else Q (.bl false) H1
def yve(ta tb:TE):TE:=fun σ H Q=>ta σ H fun x H1=>∃ c,x=.bl c/\if c=true then Q (.bl true) H1 else tb σ H1 Q
def ypo(ta:TE):TE:=fun σ H Q=>ta σ H fun x H1=>∃ c,x=.bl c/\Q (.bl (!c)) H1
theorem yit{op}{t:TE}(h:PE X a t):PE X (.BoolOp op [a] pos) t:=fun pins s σ H Q I hw=>BoolOp_one (h pins s σ H Q I hw)
theorem yim(ha:PE X a ta)(hb:PE X (.BoolOp .And (b::yud) pos) tb):PE X (.BoolOp .And (a::b::yud) pos) (ypi ta tb):=by
 intro pins s σ H Q I h;refine BoolOp_and (thn (ha pins s σ H _ I h) fun v s1 ⟨x,H1,I1,r1,q1⟩=>?_);obtain⟨c,rfl,q1⟩:=q1;cases r1;refine wpAny_truthy_bool ?_;cases c with
 |true=>exact hb pins s1 σ H1 Q I1 q1
 |false=>exact⟨.bl false,H1,I1,rfl,q1⟩
theorem yoh(ha:PE X a ta)(hb:PE X (.BoolOp .Or (b::yud) pos) tb):PE X (.BoolOp .Or (a::b::yud) pos) (yve ta tb):=by
 intro pins s σ H Q I h;refine BoolOp_or (thn (ha pins s σ H _ I h) fun v s1 ⟨x,H1,I1,r1,q1⟩=>?_);obtain⟨c,rfl,q1⟩:=q1;cases r1;refine wpAny_truthy_bool ?_;cases c with
 |false=>exact hb pins s1 σ H1 Q I1 q1
 |true=>exact⟨.bl true,H1,I1,rfl,q1⟩
theorem yis(ha:PE X a ta):PE X (.UnaryOp .Not a pos) (ypo ta):=by
 intro pins s σ H Q I h;refine UnaryOp_ (thn (ha pins s σ H _ I h) fun v s1 ⟨x,H1,I1,r1,q1⟩=>?_);obtain⟨c,rfl,q1⟩:=q1;cases r1;exact not_of (wpAny_truthy_bool ⟨.bl (!c),H1,I1,rfl,q1⟩)
def tIf(t:TT)(ta tb:TE):TE:=fun σ H Q=>t σ H fun c H1=>if c=true then ta σ H1 Q else tb σ H1 Q
theorem zsd{c:Expr}(hc:PT X c tA)(ha:PE X a ta)(hb:PE X b tb):PE X (.IfExp c a b pos) (tIf tA ta tb):=by
 intro pins s σ H Q I h;refine wpAny_IfExp (thn (hc pins s σ H _ I h) fun d s1 ⟨H1,I1,q1⟩=>?_);cases d with
 |true=>exact ha pins s1 σ H1 Q I1 q1
 |false=>exact hb pins s1 σ H1 Q I1 q1
end
end L2
namespace L2
open PySem PySem.Spec PyProof.Rows
def SqL(K:PySem.W.Frag)(H:Hp)(a:Addr)(xs:List V):Prop:=
 Rd H a (.lst xs)\/
  ∃ (o:Obj) (its:Array Value) (n:Nat),K.lookup a=some o/\o.cls=.type "list"/\o.dict=none/\o.data=.seq its n/\its.size<=sizeLine/\yqx xs its.toList
def SqT(K:PySem.W.Frag)(H:Hp)(a:Addr)(xs:List V):Prop:=
 Rd H a (.tup xs)\/
  ∃ (o:Obj) (its:Array Value) (n:Nat),K.lookup a=some o/\o.cls=.type "tuple"/\o.data=.seq its n/\its.size<=sizeLine/\yqx xs its.toList
def yqz:Value->Option V
 | .none=>some .non
 | .bool b=>some (.bl b)
 | .int i _=>some (.int i)
 | .str x _=>some (.str x)
 | .bytes b _=>some (.byt b)
 | .float b _=>some (.flt b)
 | .ref a=>some (.ref a)
 | .type n=>some (.ty n)
 |_=>none
theorem yqp.abs{x:V}{u:Value}(r:yqp x u):yqz u=some x:=by
 cases x with
 |non=>cases r;rfl
 |bl _=>cases r;rfl
 |int _=>obtain⟨t,rfl⟩:=r;rfl
 |str _=>obtain⟨t,rfl⟩:=r;rfl
 |byt _=>obtain⟨t,rfl⟩:=r;rfl
 |flt _=>obtain⟨t,rfl⟩:=r;rfl
 |ref _=>cases r;rfl
 |ty _=>cases r;rfl
theorem yqp.inj{x y:V}{u:Value}(r:yqp x u)(q:yqp y u):x=y:=Option.some.inj (r.abs.symm.trans q.abs)
theorem yqx.inj:∀ {xs ys:List V} {us:List Value},yqx xs us->yqx ys us->xs=ys
 |_,_,_,.nil,.nil=>rfl
 |_,_,_,.cons r t,.cons r' t'=>by rw[r.inj r',yqx.inj t t']
section
variable{X:Cx}{pins:List (Addr × Obj)}{σ:St}{H:Hp}{s:Shared}{a:Addr}{xs ys:List V}
theorem SqL.of{K:PySem.W.Frag}(h:H a=some (.lst xs)):SqL K H a xs:=.inl (.inl h)
theorem SqT.of{K:PySem.W.Frag}(h:H a=some (.tup xs)):SqT K H a xs:=.inl (.inl h)
theorem Inv.list(I:Inv X pins σ H s)(h:SqL X.K H a xs):∃ its:List Value,yqx xs its/\PlainL s.heap a its.toArray/\xs.length<=sizeLine:=by
 rcases h with h|⟨o,its,n,hk,hc,hd,hs,hz,r⟩
 ·obtain⟨z,its,n,r,e⟩:=h.ok I.hok;exact⟨its,r,⟨_,n,e,rfl,rfl,rfl⟩,z⟩
 ·refine⟨its.toList,r,⟨o,n,I.kIn a o hk,hc,hd,by simpa using hs⟩,?_⟩;have e:=r.length;simp only[Array.length_toList]at e;omega
theorem Inv.tuple(I:Inv X pins σ H s)(h:SqT X.K H a xs):∃ its:List Value,yqx xs its/\IsTup s.heap a its.toArray/\xs.length<=sizeLine:=by
 rcases h with h|⟨o,its,n,hk,hc,hs,hz,r⟩
 ·obtain⟨z,its,r,p⟩:=h.ok I.hok;exact⟨its,r,p,z⟩
 ·refine⟨its.toList,r,⟨o,I.kIn a o hk,hc,n,by simpa using hs⟩,?_⟩;have e:=r.length;simp only[Array.length_toList]at e;omega
theorem Inv.list_inj(I:Inv X pins σ H s)(h:SqL X.K H a xs)(h':SqL X.K H a ys):xs=ys:=by
 obtain⟨its,r,⟨o,n,e,_,_,d⟩,_⟩:=I.list h;obtain⟨its',r',⟨o',n',e',_,_,d'⟩,_⟩:=I.list h';rw[e]at e';cases e';rw[d]at d';injection d' with d1 _;have:its=its':=by simpa using congrArg Array.toList d1
 subst this;exact r.inj r'
theorem Inv.tuple_inj(I:Inv X pins σ H s)(h:SqT X.K H a xs)(h':SqT X.K H a ys):xs=ys:=by
 obtain⟨its,r,⟨o,e,_,n,d⟩,_⟩:=I.tuple h;obtain⟨its',r',⟨o',e',_,n',d'⟩,_⟩:=I.tuple h';rw[e]at e';cases e';rw[d]at d';injection d' with d1 _;have:its=its':=by simpa using congrArg Array.toList d1
 subst this;exact r.inj r'
end
abbrev Cx.wish(X:Cx)(E:Value->Shared->Prop):Cx:={ X with xe:=E }
abbrev Cx.nox(X:Cx):Cx:=X.wish fun _ _=>False
theorem Cx.Ok.wish{X:Cx}(ok:X.Ok)(E:Value->Shared->Prop):(X.wish E).Ok:=
 ⟨ok.mod,ok.kind,ok.glob,ok.blt,ok.above,ok.inj,ok.has,ok.cab,ok.hd,ok.frames,ok.stk,ok.exf,ok.bs,ok.bsz,ok.noex,ok.exfs,ok.funs,ok.frf⟩
theorem Cx.Ok.unwish{X:Cx}{E:Value->Shared->Prop}(ok:(X.wish E).Ok):X.Ok:=
 ⟨ok.mod,ok.kind,ok.glob,ok.blt,ok.above,ok.inj,ok.has,ok.cab,ok.hd,ok.frames,ok.stk,ok.exf,ok.bs,ok.bsz,ok.noex,ok.exfs,ok.funs,ok.frf⟩
section
variable{X:Cx}{pins:List (Addr × Obj)}{σ:St}{H:Hp}{s:Shared}{E:Value->Shared->Prop}
theorem Inv.wish(I:Inv X pins σ H s)(E:Value->Shared->Prop):Inv (X.wish E) pins σ H s:=⟨I.ok.wish E,I.os,I.bare,I.base,I.loc,I.cell,I.free,I.freeC,I.pin,I.hok,I.len⟩
theorem Inv.unwish(I:Inv (X.wish E) pins σ H s):Inv X pins σ H s:=⟨I.ok.unwish,I.os,I.bare,I.base,I.loc,I.cell,I.free,I.freeC,I.pin,I.hok,I.len⟩
theorem SP.unwish{D:Ends}{f:Flow}{s':Shared}(h:SP (X.wish E) pins D f s'):SP X pins D f s':=by
 cases f with
 |next=>obtain⟨σ',H',I,q⟩:=h;exact⟨σ',H',I.unwish,q⟩
 |brk=>obtain⟨σ',H',I,q⟩:=h;exact⟨σ',H',I.unwish,q⟩
 |cont=>obtain⟨σ',H',I,q⟩:=h;exact⟨σ',H',I.unwish,q⟩
 |ret u=>obtain⟨v,σ',H',I,r,q⟩:=h;exact⟨v,σ',H',I.unwish,r,q⟩
theorem PE.nox{e:Expr}{t:TE}(h:PE X.nox e t):PE X e t:=fun pins s σ H Q I hw=>
 wpAny_mono (h pins s σ H Q (I.wish _) hw) (fun _ _ ⟨v,H',I',r,q⟩=>⟨v,H',I'.unwish,r,q⟩) fun _ _ z=>False.elim z
theorem PT.nox{e:Expr}{t:TT}(h:PT X.nox e t):PT X e t:=fun pins s σ H Q I hw=>
 wpAny_mono (h pins s σ H Q (I.wish _) hw) (fun _ _ ⟨H',I',q⟩=>⟨H',I'.unwish,q⟩) fun _ _ z=>False.elim z
theorem PSs.nox{st:List Stmt}{t:TS}(h:PSs X.nox st t):PSs X st t:=fun pins s σ H D I hw=>
 wpAny_mono (h pins s σ H D (I.wish _) hw) (fun _ _ q=>q.unwish) fun _ _ z=>False.elim z
end
section
variable{X:Cx}{st:Stmt}{yud:List Stmt}{t u:TS}{e:Expr}{te:TE}{pos:Pos}
def ypn:TS:=fun D σ H=>D.nx σ H
def yvg(t u:TS):TS:=fun D σ H=>t { D with nx:=u D } σ H
theorem yaw:PSs X [] ypn:=fun _ _ σ H _ I h=>wpAny_execs_nil ⟨σ,H,I,h⟩
theorem zsm(h1:PS X st t)(h2:PSs X yud u):PSs X (st::yud) (yvg t u):=by
 intro pins s σ H D I h;refine wpAny_execs_cons (thn (h1 pins s σ H { D with nx:=u D } I h) fun f s1 q=>?_);cases f with
 |next=>
  obtain⟨σ',H',I',q⟩:=q;exact h2 pins s1 σ' H' D I' q
 |ret v=>exact q
 |brk=>exact q
 |cont=>exact q
theorem yax(h1:PS X st t):PSs X [st] t:=by
 intro pins s σ H D I h;refine wpAny_execs_cons (thn (h1 pins s σ H D I h) fun f s1 q=>?_);cases f with
 |next=>exact wpAny_execs_nil q
 |ret v=>exact q
 |brk=>exact q
 |cont=>exact q
theorem Inv.quiet{pins:List (Addr × Obj)}{σ:St}{H:Hp}{s:Shared}(I:Inv X pins σ H s):interactive X.env=false:=by simp[interactive,I.ok.kind]
def ypm(te:TE):TS:=fun D σ H=>te σ H fun _ H1=>D.nx σ H1
theorem yav(he:PE X e te)(hs:swapsWith e none pos.line X.env=pure false:=by rfl):PS X (.Expr e pos) (ypm te):=by
 intro pins s σ H D I h;exact wpAny_Expr_any (thn (he pins s σ H _ I h) fun v s1 ⟨x,H1,I1,r1,q1⟩=>⟨σ,H1,I1,q1⟩) I.quiet hs
def yvf(te:TE):TS:=fun D σ H=>te σ H D.rt
theorem yi4(he:PE X e te):PS X (.Return (some e) pos) (yvf te):=by
 intro pins s σ H D I h;exact wpAny_Return_some (thn (he pins s σ H _ I h) fun v s1 ⟨x,H1,I1,r1,q1⟩=>⟨x,σ,H1,I1,r1,q1⟩)
def yva(c:TT)(t u:TS):TS:=fun D σ H=>c σ H fun b H1=>if b=true then t D σ H1 else u D σ H1
theorem yoj{c:Expr}{a b:List Stmt}{tc:TT}(hc:PT X c tc)(ha:PSs X a t)(hb:PSs X b u):PS X (.If c a b pos) (yva tc t u):=by
 intro pins s σ H D I h;refine wpAny_If (thn (hc pins s σ H _ I h) fun d s1 ⟨H1,I1,q1⟩=>?_);cases d with
 |true=>exact ha pins s1 σ H1 D I1 q1
 |false=>exact hb pins s1 σ H1 D I1 q1
end
abbrev TG:=V->St->Hp->(St->Hp->Prop)->Prop
abbrev TGs:=List V->St->Hp->(St->Hp->Prop)->Prop
def PG(X:Cx)(target:Expr)(t:TG):Prop:=
 ∀ (pins:List (Addr × Obj)) (s:Shared) (σ:St) (H:Hp) (v:V) (u:Value) (Q:St->Hp->Prop),Inv X pins σ H s->yqp v u->t v σ H Q->
  wpAny (model X.prog X.w) X.A (assign target X.env u) (fun _ s'=>∃ σ' H',Inv X pins σ' H' s'/\Q σ' H') X.xe s
def PGs(X:Cx)(ts:List Expr)(t:TGs):Prop:=
 ∀ (pins:List (Addr × Obj)) (s:Shared) (σ:St) (H:Hp) (vs:List V) (us:List Value) (Q:St->Hp->Prop),Inv X pins σ H s->yqx vs us->t vs σ H Q->
  wpAny (model X.prog X.w) X.A (assignInOrder ((assignEach ts X.env).map (·.2)) us) (fun _ s'=>∃ σ' H',Inv X pins σ' H' s'/\Q σ' H') X.xe s
abbrev yqw:=V->V->V->Hp->(Hp->Prop)->Prop
def yqj(X:Cx)(t:yqw):Prop:=
 ∀ (pins:List (Addr × Obj)) (s:Shared) (σ:St) (H:Hp) (o i v:V) (ov iv u:Value) (Q:Hp->Prop),Inv X pins σ H s->yqp o ov->yqp i iv->yqp v u->t o i v H Q->
  wpAny (model X.prog X.w) X.A (setItem ov iv u) (fun _ s'=>∃ H',Inv X pins σ H' s'/\Q H') X.xe s
section
variable{X:Cx}{pos:Pos}
def ymn(i:Nat):TG:=fun v σ H Q=>Q (σ.set i (some v)) H
theorem yam{i:Nat}{x:Str}(hN:X.N.Nodup)(hi:X.N[i]?=some x)(hx:Loc X.env.scope x)(hf:X.fn x=true\/X.env.scope.names.lookup x=some .local:=by first|exact .inl rfl|exact .inr rfl|assumption):PG X (.Name x pos) (ymn i):=by
 intro pins s σ H v u Q I r h;exact wpAny_assign_Name (zt4 I hN hi hx r (fun s' I'=>⟨_,H,I',h⟩) hf)
def yr0:TGs:=fun vs σ H Q=>vs=[]/\Q σ H
def ymm(t:TG)(u:TGs):TGs:=fun vs σ H Q=>∃ v r,vs=v::r/\t v σ H fun σ' H'=>u r σ' H' Q
theorem yan:PGs X [] yr0:=by
 intro pins s σ H vs us Q I r h;obtain⟨e,h⟩:=h;subst e;cases r;exact assignInOrder_nil ⟨σ,H,I,h⟩
theorem zsf{e:Expr}{es:List Expr}{t:TG}{u:TGs}(h1:PG X e t)(h2:PGs X es u)
  (hs:(assignEach (e::es) X.env).map (·.2)=assign e X.env::(assignEach es X.env).map (·.2):=by rfl):PGs X (e::es) (ymm t u):=by
 intro pins s σ H vs us Q I r h;obtain⟨v,vr,e1,h⟩:=h;subst e1;cases r with
 |cons r rr=>
  rw[hs];refine assignInOrder_cons (thn (h1 pins s σ H _ _ _ I r h) fun _ s1 ⟨σ1,H1,I1,q1⟩=>?_);exact h2 pins s1 σ1 H1 _ _ Q I1 rr q1
def yr2(K:PySem.W.Frag)(n:Nat)(t:TGs):TG:=fun v σ H Q=>∃ a xs,v=.ref a/\SqT K H a xs/\xs.length=n/\t xs σ H Q
theorem yiy{es:List Expr}{k:Nat}{t:TGs}{n:Nat}(hc:X.calm=true)(h:PGs X es t)
  (hn:(assignEach es X.env).length=n:=by rfl) (hst:(assignEach es X.env).findIdx? (·.1)=none:=by rfl):PG X (.Tuple es k pos) (yr2 X.K n t):=by
 intro pins s σ H v u Q I r hw;obtain⟨a,xs,e1,hq,hl,hw⟩:=hw;subst e1;cases r;obtain⟨its,rv,ht,hz⟩:=I.tuple hq;refine assign_Tuple_tuple (I.ok.hd hc) ht (by simp[hn,<-hl,rv.length]) hst fun h' hx=>?_;have I1:Inv X pins σ H { s with heap:=h' }:=I.kept (t':=s.toks) fun b o e=>hx b o (Nat.ne_of_lt (Heap.lt_size e)) e;exact h pins _ σ H xs _ Q I1 (by simpa using rv) hw
def yr1(to ti:TE)(t:yqw):TG:=fun v σ H Q=>to σ H fun o H1=>ti σ H1 fun i H2=>t o i v H2 fun H3=>Q σ H3
theorem yix{o i:Expr}{to ti:TE}{t:yqw}(ho:PE X o to)(hi:PE X i ti)(hs:yqj X t)
  (ha:∀ v,assign (.Subscript o i pos) X.env v=(do
   let ov <-holding [v] (eval o X.env);let iv <-holding [v,ov] (eval i X.env)
   standAt pos
   holding [v,ov,iv] (setItem ov iv v)
   release [v,ov,iv] []):=by intro _;rfl):PG X (.Subscript o i pos) (yr1 to ti t):=by
 intro pins s σ H v u Q I r h;rw[ha];refine wpAny_bind (wpAny_holding (thn (ho pins s σ H _ I h) fun ov s1 ⟨x,H1,I1,r1,q1⟩=>?_));refine wpAny_bind (wpAny_holding (thn (hi pins s1 σ H1 _ I1 q1) fun iv s2 ⟨y,H2,I2,r2,q2⟩=>?_));refine wpAny_bind (wpAny_standAt (wpAny_bind (wpAny_holding (thn (hs pins s2 σ H2 x y v ov iv u _ I2 r1 r2 r q2) fun _ s3 ⟨H3,I3,q3⟩=>?_))));exact wpAny_release ⟨σ,H3,I3,q3⟩
def yu6(te:TE)(g:TG):TS:=fun D σ H=>te σ H fun x H1=>g x σ H1 D.nx
theorem yi1{tg e:Expr}{te:TE}{g:TG}(he:PE X e te)(hg:PG X tg g)(hs:swapsWithSole [tg] e pos.line X.env=pure false:=by rfl)(hw:swappedStores [tg] e X.env=pure none:=by rfl)
  (h1:(assignEach [tg] X.env).map (·.2)=[assign tg X.env]:=by rfl):PS X (.Assign [tg] e pos) (yu6 te g):=by
 intro pins s σ H D I h;refine wpAny_Assign_stores (thn (he pins s σ H _ I h) fun v s1 ⟨x,H1,I1,r1,q1⟩=>?_) hs hw;rw[h1];exact thn (hg pins s1 σ H1 x v _ I1 r1 q1) fun _ s2 q=>q
theorem yi5{i:Nat}{x:Str}{e:Expr}{te:TE}{pos':Pos}(hN:X.N.Nodup)(hi:X.N[i]?=some x)(hx:Loc X.env.scope x)(he:PE X e te)(hs:swapsWith e (some (.Name x pos')) pos.line X.env=pure false:=by rfl)(hf:X.fn x=true\/X.env.scope.names.lookup x=some .local:=by first|exact .inl rfl|exact .inr rfl|assumption) :
  PS X (.Assign [.Name x pos'] e pos) (yu6 te (ymn i)):=by
 intro pins s σ H D I h;refine wpAny_Assign_Name (thn (he pins s σ H _ I h) fun v s1 ⟨y,H1,I1,r1,q1⟩=>?_) hs;exact zt4 I1 hN hi hx r1 (fun s2 I2=>⟨_,H1,I2,q1⟩) hf
end
section
variable{X:Cx}{pos:Pos}
end
structure It where
 go:Nat->Hp->Prop
 yld:Nat->Hp->V->Hp->Prop
 stop:Nat->Hp->Prop
def yp9(X:Cx)(pins:List (Addr × Obj))(H:Hp)(b:Addr):Prop:=
 H b=none/\b≠X.env.locals/\b ∉ X.fs/\(b∈X.ex\/X.s₀.heap.objs.size<=b)/\(∀ x c,X.env.cells.lookup x=some c->c≠b)/\∀ p∈X.pn++pins,p.1≠b
theorem Inv.fpOk{X:Cx}{pins:List (Addr × Obj)}{σ:St}{H H':Hp}{s:Shared}{b:Addr}(I:Inv X pins σ H s)(hb:s.heap.objs.size<=b)(hn:H' b=none):yp9 X pins H' b:=by
 refine⟨hn,Nat.ne_of_gt (Nat.lt_of_lt_of_le I.lt hb),I.nofs hb,.inr (Nat.le_trans I.sz hb),fun x c e z=>?_,fun p hp z=>?_⟩
 ·obtain⟨v,q⟩:=I.cell x c e;exact absurd (Nat.lt_of_lt_of_le q.lt (by rw[z];exact hb)) (Nat.lt_irrefl _)
 ·exact absurd (Nat.lt_of_lt_of_le (Heap.lt_size (I.pin p hp).1) (by rw[z];exact hb)) (Nat.lt_irrefl _)
structure Turn(P:Program)(w:World)(K:PySem.W.Frag)(tg:Expr)(J:It)(fp:List Addr)(it:Addr)(tn:Nat->Heap->Prop):Prop where
 mem:it∈fp
 obj:∀ i h,tn i h->∀ b∈fp,∃ o,h.get? b=some o/\∀ v,o.data≠.cell v
 keep:∀ i h h',tn i h->(∀ b∈fp,∀ o,h.get? b=some o->h'.get? b=some o)->tn i h'
 item:∀ (X:Cx),X.prog=P->X.w=w->X.K=K->X.calm=true->∀ (i:Nat) (pins:List (Addr × Obj)) (s:Shared) (σ:St) (H:Hp) (E:Value->Shared->Prop),Inv X pins σ H s->(∀ b∈fp,yp9 X pins H b)->tn i s.heap->J.go i H->
  wpAny (model P w) X.A (pyNext (.ref it)) (fun r s1=>∃ u,r=some u/\
   wpAny (model P w) X.A (letOwnedTupleGo tg (.ref it) u) (fun _ s2=>∃ x H',Inv X pins σ H' s2/\yqp x u/\J.yld i H x H'/\tn (i+1) s2.heap/\∀ b∈fp,H' b=none) E s1) E s
 done:∀ (X:Cx),X.prog=P->X.w=w->X.K=K->X.calm=true->∀ (i:Nat) (pins:List (Addr × Obj)) (s:Shared) (σ:St) (H:Hp) (E:Value->Shared->Prop),Inv X pins σ H s->(∀ b∈fp,yp9 X pins H b)->tn i s.heap->J.stop i H->
  wpAny (model P w) X.A (pyNext (.ref it)) (fun r s1=>r=none/\Inv X pins σ H s1) E s
 self:∀ (A:Around) (i:Nat) (s:Shared) (Q:Value->Shared->Prop) (E:Value->Shared->Prop),tn i s.heap->Q (.ref it) s->wpAny (model P w) A (pyIter (.ref it)) Q E s
abbrev TI:=St->Hp->(It->Hp->Prop)->Prop
def PIE(X:Cx)(pins:List (Addr × Obj))(σ:St)(tg:Expr)(R:It->Hp->Prop)(itv:Value)(s2:Shared):Prop:=
 ∃ (it:Addr) (fp:List Addr) (tn:Nat->Heap->Prop) (J:It) (H':Hp),itv=.ref it/\Inv X pins σ H' s2/\Turn X.prog X.w X.K tg J fp it tn/\tn 0 s2.heap/\(∀ b∈fp,yp9 X pins H' b)/\R J H'
def PI(X:Cx)(tg iter:Expr)(wi:TI):Prop:=
 ∀ (pins:List (Addr × Obj)) (s:Shared) (σ:St) (H:Hp) (R:It->Hp->Prop),Inv X pins σ H s->wi σ H R->
  wpAny (model X.prog X.w) X.A (eval iter X.env) (fun v s1=>wpAny (model X.prog X.w) X.A (pyIter v) (PIE X pins σ tg R) X.xe s1) X.xe s
theorem ymp {M : Model} {A : Around} {E : Value -> Shared -> Prop} {s : Shared} {tg : Expr} {it : Addr} {u : Value} {o : Obj} {n : String} {vs : Array Value} {Q : Unit -> Shared -> Prop} (ho : s.heap.get? it = some o) (hc : o.cls = .type n) (hd : o.data = .fields vs)
    (hn : ["enumerate", "zip", "dict_itemiterator", "dict_reverseitemiterator", "odict_iterator", "itertools.zip_longest", "itertools.pairwise"].contains n = false) (hQ : Q () s) : wpAny M A (letOwnedTupleGo tg (.ref it) u) Q E s := by
  unfold letOwnedTupleGo;cases tg <;> first
    | exact wpAny_pure hQ
    | (cases u <;> first
        | exact wpAny_pure hQ
        | (refine wpAny_bind (wpAny_load ho ?_)
           rw [hc, hd];show wpAny M A (if (["enumerate", "zip", "dict_itemiterator", "dict_reverseitemiterator", "odict_iterator", "itertools.zip_longest", "itertools.pairwise"].contains n && vs[0]? == some (rawInt _)) = true then _ else _) Q E s;rw [if_neg (by intro h; rw [hn, Bool.false_and] at h; cases h)];exact wpAny_pure hQ))
def Itl(K:PySem.W.Frag)(a:Addr):It:=
 ⟨fun i H=>∃ xs x,SqL K H a xs/\xs[i]?=some x,fun i H x H'=>H'=H/\∀ xs,SqL K H a xs->xs[i]?=some x,fun i H=>∃ xs,SqL K H a xs/\xs.length<=i⟩
def Itt(K:PySem.W.Frag)(a:Addr):It:=
 ⟨fun i H=>∃ xs x,SqT K H a xs/\xs[i]?=some x,fun i H x H'=>H'=H/\∀ xs,SqT K H a xs->xs[i]?=some x,fun i H=>∃ xs,SqT K H a xs/\xs.length<=i⟩
def Itr(lo:Int)(n:Nat):It:=⟨fun i _=>i<n,fun i H x H'=>H'=H/\x=.int (lo+i),fun i _=>n<=i⟩
theorem znw{P:Program}{w:World}{K:PySem.W.Frag}{tg:Expr}(a it:Addr):Turn P w K tg (Itl K a) [it] it (fun i h=>h.IsListIter it a i) where
 mem:=by simp
 obj:=fun i h st b hb=>by
  have e:b=it:=by simpa using hb
  subst e;obtain⟨o,e,c,d⟩:=st;exact⟨o,e,fun v z=>by rw[d]at z;cases z⟩
 keep:=fun i h h' st k=>st.at fun o e=>k it (by simp) o e
 item:=by
  intro X hP hw hK hc i pins s σ H E I hf st hg;subst hP hw hK;obtain⟨xs,x,hq,hx⟩:=hg;obtain⟨its,rv,p,hz⟩:=I.list hq;obtain⟨u,hu,ru⟩:=rv.get hx;obtain⟨f0,f1,f2,f3,f4,f5⟩:=hf it (by simp);refine wpAny_pyNext_list_item st p.isList (x:=u) (by simpa using hu) fun h' st' sb=>?_;have I1:Inv X pins σ H { s with heap:=h' }:=I.turned (t':=s.toks) (fun b o hb e=>(sb.2 b hb).trans e) f0 f1 f3 f4 f5;obtain⟨o,e,c,d⟩:=id st';exact⟨u,rfl,ymp (s:={ s with heap:=h' }) e c d (by decide) ⟨x,H,I1,ru,⟨rfl,fun ys hy=>by rw[I.list_inj hy hq];exact hx⟩,st',fun b hb=>(hf b hb).1⟩⟩
 done:=by
  intro X hP hw hK hc i pins s σ H E I hf st hg;subst hP hw hK;obtain⟨xs,hq,hx⟩:=hg;obtain⟨its,rv,p,hz⟩:=I.list hq;obtain⟨f0,f1,f2,f3,f4,f5⟩:=hf it (by simp);have hl:=rv.length;exact wpAny_pyNext_list_end (I.ok.hd hc) st p.isList (by simp;omega) fun h' eb=>⟨rfl,I.turned (t':=s.toks) (fun b o hb e=>eb b o hb e) f0 f1 f3 f4 f5⟩
 self:=fun _ _ _ _ _ st h=>wpAny_pyIter_listiter st h
theorem zjr{P:Program}{w:World}{K:PySem.W.Frag}{tg:Expr}(a it:Addr):Turn P w K tg (Itt K a) [it] it (fun i h=>h.IsTupleIter it a i) where
 mem:=by simp
 obj:=fun i h st b hb=>by
  have e:b=it:=by simpa using hb
  subst e;obtain⟨o,e,c,d⟩:=st;exact⟨o,e,fun v z=>by rw[d]at z;cases z⟩
 keep:=fun i h h' st k=>st.at fun o e=>k it (by simp) o e
 item:=by
  intro X hP hw hK hc i pins s σ H E I hf st hg;subst hP hw hK;obtain⟨xs,x,hq,hx⟩:=hg;obtain⟨its,rv,p,hz⟩:=I.tuple hq;obtain⟨u,hu,ru⟩:=rv.get hx;obtain⟨f0,f1,f2,f3,f4,f5⟩:=hf it (by simp);refine wpAny_pyNext_tuple_item st (show s.heap.IsTuple a its.toArray from p) (x:=u) (by simpa using hu) fun h' st' sb=>?_;have I1:Inv X pins σ H { s with heap:=h' }:=I.turned (t':=s.toks) (fun b o hb e=>(sb.2 b hb).trans e) f0 f1 f3 f4 f5;obtain⟨o,e,c,d⟩:=id st';exact⟨u,rfl,ymp (s:={ s with heap:=h' }) e c d (by decide) ⟨x,H,I1,ru,⟨rfl,fun ys hy=>by rw[I.tuple_inj hy hq];exact hx⟩,st',fun b hb=>(hf b hb).1⟩⟩
 done:=by
  intro X hP hw hK hc i pins s σ H E I hf st hg;subst hP hw hK;obtain⟨xs,hq,hx⟩:=hg;obtain⟨its,rv,p,hz⟩:=I.tuple hq;obtain⟨f0,f1,f2,f3,f4,f5⟩:=hf it (by simp);have hl:=rv.length;exact wpAny_pyNext_tuple_end (I.ok.hd hc) st (show s.heap.IsTuple a its.toArray from p) (by simp;omega) fun h' eb=>⟨rfl,I.turned (t':=s.toks) (fun b o hb e=>eb b o hb e) f0 f1 f3 f4 f5⟩
 self:=fun _ _ _ _ _ st h=>wpAny_pyIter_tupleiter st h
theorem zjq{P:Program}{w:World}{K:PySem.W.Frag}{tg:Expr}(it:Addr)(lo:Int)(n:Nat):Turn P w K tg (Itr lo n) [it] it (fun i h=>IsRangeIter h it (lo+(i:Nat) * 1) ((n:Int) - (i:Nat)) 1) where
 mem:=by simp
 obj:=fun i h st b hb=>by
  have e:b=it:=by simpa using hb
  subst e;exact⟨_,st,fun v z=>by
   have z':Data.fields _=Data.cell v:=z;cases z'⟩
 keep:=fun i h h' st k=>k it (by simp) _ st
 item:=by
  intro X hP hw hK hc i pins s σ H E I hf st hg;subst hP hw hK;obtain⟨f0,f1,f2,f3,f4,f5⟩:=hf it (by simp);have W:=Walks.range (prog:=X.prog) (w:=X.w) (I.ok.hd hc) it lo 1 n;refine W.item i s _ _ hg st fun v h' tk hv st' kk=>?_;obtain⟨t,rfl⟩:=hv;have I1:Inv X pins σ H { s with heap:=h',toks:=tk }:=I.turned (fun b o hb e=>kk b o (by simpa using hb) e) f0 f1 f3 f4 f5;refine⟨_,rfl,ymp (s:={ s with heap:=h',toks:=tk }) (n:="range_iterator") st' rfl rfl (by decide) ⟨.int (lo+i),H,I1,⟨t,?_⟩,⟨rfl,rfl⟩,st',fun b hb=>(hf b hb).1⟩⟩;rw[Int.mul_one]
 done:=by
  intro X hP hw hK hc i pins s σ H E I hf st hg;subst hP hw hK;obtain⟨f0,f1,f2,f3,f4,f5⟩:=hf it (by simp);exact wpAny_pyNext_range_end (I.ok.hd hc) st (by have:n<=i:=hg;omega) fun h' eb=>⟨rfl,I.turned (t':=s.toks) (fun b o hb e=>eb b o hb e) f0 f1 f3 f4 f5⟩
 self:=fun _ _ _ _ _ st h=>wpAny_pyIter_rangeiter st h
end L2
namespace L2
open PySem PySem.Spec PyProof.Rows
section
variable{X:Cx}{tg:Expr}
theorem zsr{pins:List (Addr × Obj)}{σ:St}{H:Hp}{s:Shared}{R:It->Hp->Prop}{E:Value->Shared->Prop}{lo hi:Int}{t u v:Tok}{tk:Nat}(I:Inv X pins σ H s)(h1:-(2 ^ 62)<=lo)(h2:lo<2 ^ 62)(h3:-(2 ^ 62)<=hi)(h4:hi<2 ^ 62)
  (q:R (Itr lo (hi - lo).toNat) H):wpAny (model X.prog X.w) X.A (pyIter (.ref s.heap.objs.size)) (PIE X pins σ tg R) E { s with heap:=s.heap.push { cls:=.type "range",data:=.fields #[.int lo t,.int hi u,.int 1 v] },toks:=tk }:=by
 refine wpAny_pyIter_range (IsRange.new ..) (small_one h1 h2 h3 h4) ?_;have I1:Inv X pins σ H { s with heap:=s.heap.push { cls:=.type "range",data:=.fields #[.int lo t,.int hi u,.int 1 v] },toks:=tk }:=I.kept fun b o e=>Heap.get?_push_of_some _ e;refine⟨(s.heap.push { cls:=.type "range",data:=.fields #[.int lo t,.int hi u,.int 1 v] }).objs.size,[(s.heap.push { cls:=.type "range",data:=.fields #[.int lo t,.int hi u,.int 1 v] }).objs.size],_,_,H,rfl,
  I1.kept (t':=tk) fun b o e=>Heap.get?_push_of_some _ e,zjq _ lo (hi - lo).toNat,?_,fun b hb=>?_,q⟩
 ·have e1:lo+((0:Nat):Int) * 1=lo:=by simp
  have e2:(((hi - lo).toNat:Nat):Int) - ((0:Nat):Int)=Builtin.Range.rangeSize lo hi 1:=by rw[rangeSize_one];split<;>omega
  show IsRangeIter _ _ (lo+((0:Nat):Int) * 1) ((((hi - lo).toNat:Nat):Int) - ((0:Nat):Int)) 1;rw[e1,e2];exact Heap.get?_push_size _ rfl
 ·have e:b=(s.heap.push { cls:=.type "range",data:=.fields #[.int lo t,.int hi u,.int 1 v] }).objs.size:=by simpa using hb
  subst e;exact I1.fpOk (Nat.le_refl _) (I1.hok.fresh (Nat.le_refl _))
def yms(ta:TA):TI:=fun σ H R=>ta σ H fun vs H1=>∃ j:Int,vs=[.int j]/\-(2 ^ 62)<=j/\j<2 ^ 62/\R (Itr 0 j.toNat) H1
theorem zmr{a:Expr}{ta:TA}{p pos:Pos}(hg:Gl X "range")(hm:X.mg "range" = none)(ha:PA X [a] ta)(hs:starEach [a] X.env=[(false,eval a X.env)]:=by rfl):PI X tg (.Call (.Name "range" p) [a] [] pos) (yms ta):=by
 intro pins s σ H R I h;refine Call_ (ygw I hg hm boot_range (PyProof.Rows.callWith_type1 (thn (ha pos pins s σ H _ I h) fun us s1 ⟨vs,H1,I1,r1,q1⟩=>?_) hs rfl));obtain⟨j,e,q1,q2,q⟩:=q1;subst e;cases r1 with
 |cons r rr=>
  cases rr;obtain⟨t,rfl⟩:=r;exact call_range_1 (zsr I1 (by omega) (by omega) q1 q2 (by simpa using q))
def yu9(wi:TI)(g:TG)(tb:TS):TS:=fun D σ H=>wi σ H fun J H1=>∃ W:Nat->Nat->St->Hp->Prop,(∃ m,W 0 m σ H1)/\∀ i m σ H,W i m σ H->
 (J.stop i H/\D.nx σ H)\/(J.go i H/\∃ N:St->Hp->Prop,(∀ σ' H',N σ' H'->∃ m',m'<m/\W (i+1) m' σ' H')/\∀ x H',J.yld i H x H'->g x σ H' fun σ2 H2=>tb { D with nx:=N,ct:=N,bk:=D.nx } σ2 H2)
def yi0(fp:List Addr)(h:Heap):List (Addr × Obj):=fp.filterMap fun b=>(h.get? b).map fun o=>(b,o)
theorem zin{fp:List Addr}{h:Heap}{b:Addr}{o:Obj}(hb:b∈fp)(e:h.get? b=some o):(b,o)∈yi0 fp h:=List.mem_filterMap.mpr ⟨b,hb,by rw[e];rfl⟩
theorem zmk{fp:List Addr}{h:Heap}{p:Addr × Obj}(hp:p∈yi0 fp h):p.1∈fp/\h.get? p.1=some p.2:=by
 obtain⟨b,hb,e⟩:=List.mem_filterMap.mp hp;cases q:h.get? b with
 |none=>rw[q]at e;cases e
 |some o=>
  rw[q]at e;have e':(b,o)=p:=Option.some.inj e;subst e';exact⟨hb,q⟩
theorem Inv.pinned{pins:List (Addr × Obj)}{σ:St}{H:Hp}{s:Shared}{fp:List Addr}(I:Inv X pins σ H s)(hf:∀ b∈fp,yp9 X pins H b)(ho:∀ b∈fp,∃ o,s.heap.get? b=some o/\∀ v,o.data≠.cell v):Inv X (pins++yi0 fp s.heap) σ H s:=
 I.pins_of fun p hp=>(List.mem_append.mp hp).elim (fun z=>I.pin p (List.mem_append_right _ z)) fun z=>by
  obtain⟨hb,e⟩:=zmk z;obtain⟨f0,f1,f2,_⟩:=hf p.1 hb;obtain⟨o,e',d⟩:=ho p.1 hb;rw[e]at e';cases e';exact⟨e,f0,f1,f2,d⟩
theorem Inv.unpinned{pins pl:List (Addr × Obj)}{σ:St}{H:Hp}{s:Shared}(I:Inv X (pins++pl) σ H s):Inv X pins σ H s:=I.pins_of fun p hp=>I.pin p (List.mem_append_right _ (List.mem_append_left _ hp))
theorem yi3{iter:Expr}{body:List Stmt}{wi:TI}{g:TG}{tb:TS}{pos:Pos}(hp:PassesOwn (model X.prog X.w) X.A X.env X.xe)(hc:X.calm=true)(hi:PI X tg iter wi)(hg:PG X tg g)(hb:PSs X body tb)
  (hs:∀ x,foldedSetIterable iter X.env x=pure x:=by intro _;rfl):PS X (.For tg iter body [] pos) (yu9 wi g tb):=by
 intro pins s σ H D I h;refine wpAny_For (thn (hi pins s σ H _ I h) fun v s1 h1=>thn h1 fun itv s2 h2=>?_) hs;obtain⟨it,fp,tn,J,H2,e,I2,T,st2,f2,W,⟨m0,w0⟩,turn⟩:=h2;subst e;have stat:∀ {H':Hp},(∀ b∈fp,H' b=none)->∀ b∈fp,yp9 X pins H' b:=fun hn b hb=>⟨hn b hb,(f2 b hb).2⟩
 refine codeAny_forLoop_any (fun n s'=>∃ i σ' H',Inv X pins σ' H' s'/\tn i s'.heap/\(∀ b∈fp,H' b=none)/\W i n σ' H') ?_ m0 ⟨0,σ,H2,I2,st2,fun b hb=>(f2 b hb).1,w0⟩;rintro n s3 ⟨i,σ3,H3,I3,st3,fr3,w3⟩;rcases turn i n σ3 H3 w3 with⟨stop,qn⟩|⟨go,N,hN,step⟩
 ·refine wpAny_passesOwn hp (thn (T.done X rfl rfl rfl hc i pins s3 σ3 H3 X.xe I3 (stat fr3) st3 stop) fun r s4 ⟨hr,I4⟩=>?_);subst hr;exact wpAny_execs_nil ⟨σ3,H3,I4,qn⟩
 ·refine wpAny_passesOwn hp (thn (T.item X rfl rfl rfl hc i pins s3 σ3 H3 X.xe I3 (stat fr3) st3 go) fun r s4 ⟨u,hr,h4⟩=>?_);subst hr;refine wpAny_passesOwn hp (thn h4 fun _ s5 ⟨x,H5,I5,r5,y5,st5,fr5⟩=>?_);have I5':=I5.pinned (stat fr5) (T.obj _ _ st5);refine wpAny_passesOwn hp (thn (hg _ s5 σ3 H5 x u _ I5' r5 (step x H5 y5)) fun _ s6 ⟨σ6,H6,I6,q6⟩=>?_);refine wpAny_passesOwn hp (thn (hb _ s6 σ6 H6 _ I6 q6) fun f s7 q7=>?_);have again:∀ {σ7:St} {H7:Hp},Inv X (pins++yi0 fp s5.heap) σ7 H7 s7->N σ7 H7->∃ m,m<n/\∃ i σ' H',Inv X pins σ' H' s7/\tn i s7.heap/\(∀ b∈fp,H' b=none)/\W i m σ' H':=fun {σ7 H7} I7 n7=>by
   obtain⟨m',hm,w7⟩:=hN σ7 H7 n7;refine⟨m',hm,i+1,σ7,H7,I7.unpinned,T.keep _ _ _ st5 fun b hb o e=>(I7.pin (b,o) (List.mem_append_right _ (List.mem_append_right _ (zin hb e)))).1,fun b hb=>?_,w7⟩;obtain⟨o,e,d⟩:=T.obj _ _ st5 b hb;exact(I7.pin (b,o) (List.mem_append_right _ (List.mem_append_right _ (zin hb e)))).2.1
  cases f with
  |next=>obtain⟨σ7,H7,I7,n7⟩:=q7;exact again I7 n7
  |cont=>obtain⟨σ7,H7,I7,n7⟩:=q7;exact again I7 n7
  |brk=>obtain⟨σ7,H7,I7,q7⟩:=q7;exact⟨σ7,H7,I7.unpinned,q7⟩
  |ret v=>obtain⟨x7,σ7,H7,I7,r7,q7⟩:=q7;exact⟨x7,σ7,H7,I7.unpinned,r7,q7⟩
end
end L2
namespace L2
open PySem PySem.Spec PyProof.Rows
abbrev R2:=V->V->Hp->VK->Prop
def OpR(X:Cx)(f:Value->Value->Sem Value)(r:R2):Prop:=
 ∀ (pins:List (Addr × Obj)) (s:Shared) (σ:St) (H:Hp) (x y:V) (v u:Value) (Q:VK),Inv X pins σ H s->yqp x v->yqp y u->r x y H Q->
  wpAny (model X.prog X.w) X.A (f v u) (EP X pins σ Q) X.xe s
def UnR(X:Cx)(f:Value->Sem Value)(r:V->Hp->VK->Prop):Prop:=
 ∀ (pins:List (Addr × Obj)) (s:Shared) (σ:St) (H:Hp) (x:V) (v:Value) (Q:VK),Inv X pins σ H s->yqp x v->r x H Q->
  wpAny (model X.prog X.w) X.A (f v) (EP X pins σ Q) X.xe s
def ykp(X:Cx)(f:Value)(r:List V->Hp->VK->Prop):Prop:=
 ∀ (pins:List (Addr × Obj)) (s:Shared) (σ:St) (H:Hp) (xs:List V) (us:List Value) (Q:VK),Inv X pins σ H s->yqx xs us->r xs H Q->
  wpAny (model X.prog X.w) X.A (call f us) (EP X pins σ Q) X.xe s
def tOp(r:R2)(ta tb:TE):TE:=fun σ H Q=>ta σ H fun x H1=>tb σ H1 fun y H2=>r x y H2 Q
def tUn(r:V->Hp->VK->Prop)(ta:TE):TE:=fun σ H Q=>ta σ H fun x H1=>r x H1 Q
def rI(C:Int->Int->Prop)(g:Int->Int->V):R2:=fun x y H Q=>∃ i j,x=.int i/\y=.int j/\C i j/\Q (g i j) H
def rI0(g:Int->Int->V):R2:=fun x y H Q=>∃ i j,x=.int i/\y=.int j/\Q (g i j) H
def rU(g:Int->V):V->Hp->VK->Prop:=fun x H Q=>∃ i,x=.int i/\Q (g i) H
section
variable{X:Cx}{a b c:Expr}{ta tb tc:TE}{pos:Pos}
theorem yq6(ha:PE X a ta)(hb:PE X b tb){pins:List (Addr × Obj)}{s:Shared}{σ:St}{H:Hp}{R:V->V->Hp->Prop}(I:Inv X pins σ H s)
  (h:ta σ H fun x H1=>tb σ H1 fun y H2=>R x y H2) {Q:Value->Shared->Prop} {f:Value->Value->Sem Value}
  (hf:∀ v u s2 x y H2,Inv X pins σ H2 s2->yqp x v->yqp y u->R x y H2->wpAny (model X.prog X.w) X.A (f v u) Q X.xe s2) :
  wpAny (model X.prog X.w) X.A (eval a X.env) (fun v s₁=>wpAny (model X.prog X.w) X.A (eval b X.env) (fun u s₂=>wpAny (model X.prog X.w) X.A (f v u) Q X.xe s₂) X.xe s₁) X.xe s:=by
 refine thn (ha pins s σ H _ I h) fun v s1 ⟨x,H1,I1,r1,q1⟩=>?_;refine thn (hb pins s1 σ H1 _ I1 q1) fun u s2 ⟨y,H2,I2,r2,q2⟩=>?_;exact hf v u s2 x y H2 I2 r1 r2 q2
theorem yog{op:Operator}{r:R2}(ho:OpR X (binaryOp op) r)(ha:PE X a ta)(hb:PE X b tb):PE X (.BinOp a op b pos) (tOp r ta tb):=by
 intro pins s σ H Q I h;exact wpAny_BinOp (yq6 ha hb I h fun v u s2 x y H2 I2 rx ry q=>ho pins s2 σ H2 x y v u Q I2 rx ry q)
theorem yoi{op:UnaryOp}{r:V->Hp->VK->Prop}(ho:UnR X (unaryOp op) r)(ha:PE X a ta):PE X (.UnaryOp op a pos) (tUn r ta):=by
 intro pins s σ H Q I h;exact UnaryOp_ (thn (ha pins s σ H _ I h) fun v s1 ⟨x,H1,I1,r1,q1⟩=>ho pins s1 σ H1 x v Q I1 r1 q1)
theorem opI{f:Value->Value->Sem Value}{C:Int->Int->Prop}{g:Int->Int->Int}
  (rule:∀ (i j:Int) (t u:Tok) (s:Shared) (Q:Value->Shared->Prop) (E:Value->Shared->Prop),C i j->Q (.int (g i j) s.toks) { s with toks:=s.toks+1 }->wpAny (model X.prog X.w) X.A (f (.int i t) (.int j u)) Q E s) :
  OpR X f (rI C fun i j=>.int (g i j)):=by
 intro pins s σ H x y v u Q I rx ry h;obtain⟨i,j,rfl,rfl,hc,q⟩:=h;obtain⟨t,rfl⟩:=rx;obtain⟨t',rfl⟩:=ry;exact rule i j t t' s _ _ hc ⟨.int (g i j),H,I.tok _,⟨_,rfl⟩,q⟩
theorem ytj{f:Value->Value->Sem Value}{g:Int->Int->Int}
  (rule:∀ (i j:Int) (t u:Tok) (s:Shared) (Q:Value->Shared->Prop) (E:Value->Shared->Prop),Q (.int (g i j) s.toks) { s with toks:=s.toks+1 }->wpAny (model X.prog X.w) X.A (f (.int i t) (.int j u)) Q E s) :
  OpR X f (rI0 fun i j=>.int (g i j)):=by
 intro pins s σ H x y v u Q I rx ry h;obtain⟨i,j,rfl,rfl,q⟩:=h;obtain⟨t,rfl⟩:=rx;obtain⟨t',rfl⟩:=ry;exact rule i j t t' s _ _ ⟨.int (g i j),H,I.tok _,⟨_,rfl⟩,q⟩
theorem yti{f:Value->Value->Sem Value}{g:Int->Int->Bool}
  (rule:∀ (i j:Int) (t u:Tok) (s:Shared) (Q:Value->Shared->Prop) (E:Value->Shared->Prop),Q (.bool (g i j)) s->wpAny (model X.prog X.w) X.A (f (.int i t) (.int j u)) Q E s) :
  OpR X f (rI0 fun i j=>.bl (g i j)):=by
 intro pins s σ H x y v u Q I rx ry h;obtain⟨i,j,rfl,rfl,q⟩:=h;obtain⟨t,rfl⟩:=rx;obtain⟨t',rfl⟩:=ry;exact rule i j t t' s _ _ ⟨.bl (g i j),H,I,rfl,q⟩
def yp2(i j:Int):Prop:=0<j/\j<1073741824
def yp3(i j:Int):Prop:=(-(2 ^ 64)<i/\i<2 ^ 64)\/(-(2 ^ 64)<j/\j<2 ^ 64)
theorem yp3.ok{i j:Int}(h:yp3 i j):IntMulOk i j:=by
 rcases h with⟨h1,h2⟩|⟨h1,h2⟩
 ·exact .of_left (intBits_le_64 h1 h2)
 ·exact .of_right (intBits_le_64 h1 h2)
theorem zjs(k:Nat):(0:Int)<=2 ^ k:=by
 rw[two_pow_cast];exact Int.natCast_nonneg _
theorem yh8:OpR X (binaryOp .Add) (rI0 fun i j=>.int (i+j)):=ytj fun _ _ _ _ _ _ _ q=>add_int q
theorem yik:OpR X (binaryOp .Sub) (rI0 fun i j=>.int (i - j)):=ytj fun _ _ _ _ _ _ _ q=>sub_int q
theorem yif:OpR X (binaryOp .Mult) (rI yp3 fun i j=>.int (i * j)):=opI fun _ _ _ _ _ _ _ hc q=>mul_int q hc.ok
theorem yac:OpR X (binaryOp .FloorDiv) (rI yp2 fun i j=>.int (i / j)):=opI fun i j _ _ _ _ _ hc q=>by
 have h1:(0:Int)<j:=hc.1;have h2:j<1073741824:=hc.2;exact floordiv_int (by omega) (by rw[Int.fdiv_eq_ediv_of_nonneg i (by omega)];exact q) (.inl (PyProof.noPylong_small (by omega)))
theorem yie:OpR X (binaryOp .Mod) (rI (fun _ j=>0<j) fun i j=>.int (i % j)):=opI fun i j _ _ _ _ _ hc q=>by
 have h1:(0:Int)<j:=hc;exact mod_int' (by omega) (by rw[Int.fmod_eq_emod_of_nonneg i (by omega)];exact q)
theorem yij:OpR X (binaryOp .RShift) (rI (fun _ j=>0<=j) fun i j=>.int (i / 2 ^ j.toNat)):=opI fun i j _ _ _ _ _ hc q=>
 rshift_int hc (by rw[Int.fdiv_eq_ediv_of_nonneg i (zjs _)];exact q)
theorem yh9:OpR X (binaryOp .BitAnd) (rI0 fun i j=>.int (Builtin.bitAnd i j)):=ytj fun _ _ _ _ _ _ _ q=>and_int q
theorem unI{f:Value->Sem Value}{g:Int->Int}
  (rule:∀ (i:Int) (t:Tok) (s:Shared) (Q:Value->Shared->Prop) (E:Value->Shared->Prop),Q (.int (g i) s.toks) { s with toks:=s.toks+1 }->wpAny (model X.prog X.w) X.A (f (.int i t)) Q E s) :
  UnR X f (rU fun i=>.int (g i)):=by
 intro pins s σ H x v Q I rx h;obtain⟨i,rfl,q⟩:=h;obtain⟨t,rfl⟩:=rx;exact rule i t s _ _ ⟨.int (g i),H,I.tok _,⟨_,rfl⟩,q⟩
theorem ykk:UnR X (unaryOp .USub) (rU fun i=>.int (-i)):=unI fun _ _ _ _ _ q=>neg_int q
end
section
variable{X:Cx}{a b c:Expr}{ta tb tc:TE}{pos:Pos}
theorem yfp{pins:List (Addr × Obj)}{σ:St}{H:Hp}{s:Shared}{Q:VK}{k k':Bool}(I:Inv X pins σ H s)(q:Q (.bl k) H)(e:k=k'):EP X pins σ Q (.bool k') s:=by
 subst e;exact⟨.bl k,H,I,rfl,q⟩
theorem yob:OpR X (compareOp .Lt) (rI0 fun i j=>.bl (decide (i<j))):=yti fun _ _ _ _ _ _ _ q=>lt_int q
theorem yoa:OpR X (compareOp .LtE) (rI0 fun i j=>.bl (decide (i<=j))):=yti fun _ _ _ _ _ _ _ q=>le_int q
theorem yn9:OpR X (compareOp .Gt) (rI0 fun i j=>.bl (decide (j<i))):=yti fun _ _ _ _ _ _ _ q=>gt_int q
theorem yn8:OpR X (compareOp .GtE) (rI0 fun i j=>.bl (decide (j<=i))):=yti fun _ _ _ _ _ _ _ q=>ge_int q
theorem yid:OpR X (compareOp .Is) (fun x y H Q=>y=.non/\Q (.bl (decide (x=.non))) H):=by
 intro pins s σ H x y v u Q I rx ry h;obtain⟨rfl,q⟩:=h;cases ry;refine is_none_gen (yfp I q ?_);cases x<;>first
  |(cases rx;rfl)
  |(obtain⟨t,rfl⟩:=rx;rfl)
theorem OpR.or{f:Value->Value->Sem Value}{r r':R2}(h:OpR X f r)(h':OpR X f r'):OpR X f (fun x y H Q=>r x y H Q\/r' x y H Q):=by
 intro pins s σ H x y v u Q I rx ry q;rcases q with q|q
 ·exact h pins s σ H x y v u Q I rx ry q
 ·exact h' pins s σ H x y v u Q I rx ry q
theorem yhm(b:Expr){op:CmpOp}(h:op≠.In:=by decide)(h2:op≠.NotIn:=by decide):behindInMarks op b=false:=by
 have e1:(op == CmpOp.In)=false:=by cases op<;>first|rfl|exact absurd rfl h
 have e2:(op == CmpOp.NotIn)=false:=by cases op<;>first|rfl|exact absurd rfl h2
 cases b<;>simp[behindInMarks,e1,e2]
theorem yah{op:CmpOp}{r:R2}(ho:OpR X (compareOp op) r)(ha:PE X a ta)(hb:PE X b tb)(hm:behindInMarks op b=false):PE X (.Compare a [op] [b] pos) (tOp r ta tb):=by
 intro pins s σ H Q I h;exact wpAny_Compare1 (yq6 ha hb I h fun v u s2 x y H2 I2 rx ry q=>ho pins s2 σ H2 x y v u Q I2 rx ry q) hm
def ypq(t:TE):TT:=fun σ H Q=>t σ H fun x H'=>∃ k,x=.bl k/\Q k H'
theorem yay{op:CmpOp}{r:R2}(ho:OpR X (compareOp op) r)(ha:PE X a ta)(hb:PE X b tb)(hm:behindInMarks op b=false):PT X (.Compare a [op] [b] pos) (ypq (tOp r ta tb)):=by
 intro pins s σ H Q I h;refine wpAny_isTrue_Compare1 (thn (ha pins s σ H _ I h) fun v s1 ⟨x,H1,I1,r1,q1⟩=>thn (hb pins s1 σ H1 _ I1 q1) fun u s2 ⟨y,H2,I2,r2,q2⟩=>
  thn (ho pins s2 σ H2 x y v u _ I2 r1 r2 q2) fun c s3 ⟨z,H3,I3,r3,k,e,q3⟩=>?_) hm
 subst e;cases r3;exact wpAny_truthy_bool ⟨H3,I3,q3⟩
def yj4(r r':R2)(ta tb tc:TE):TE:=fun σ H Q=>ta σ H fun x H1=>tb σ H1 fun y H2=>r x y H2 fun z H3=>∃ k,z=.bl k/\
 (if k=true then tc σ H3 fun w' H4=>r' y w' H4 Q else Q (.bl false) H3)
theorem zsb{op op':CmpOp}{r r':R2}(ho:OpR X (compareOp op) r)(ho':OpR X (compareOp op') r')(ha:PE X a ta)(hb:PE X b tb)(hc:PE X c tc)
  (hm:lastMarks [op,op'] [b,c]=false:=by with_unfolding_all rfl):PE X (.Compare a [op,op'] [b,c] pos) (yj4 r r' ta tb tc):=by
 intro pins s σ H Q I h;refine Compare_chain (thn (ha pins s σ H _ I h) fun v s1 ⟨x,H1,I1,r1,q1⟩=>chain_link (thn (hb pins s1 σ H1 _ I1 q1) fun u s2 ⟨y,H2,I2,r2,q2⟩=>
  thn (ho pins s2 σ H2 x y v u _ I2 r1 r2 q2) fun d s3 ⟨z,H3,I3,r3,k,e,q3⟩=>?_)) hm
 subst e;cases r3;refine wpAny_truthy_bool ?_;cases k with
 |false=>exact ite_ff ⟨.bl false,H3,I3,rfl,q3⟩
 |true=>exact ite_tt (chain_last (thn (hc pins s3 σ H3 _ I3 q3) fun w' s4 ⟨z',H4,I4,r4,q4⟩=>ho' pins s4 σ H4 y z' u w' Q I4 r2 r4 q4))
theorem yg1:(sizeLine:Nat)<2 ^ 63:=by rw[sizeLine_eq];decide
theorem zix:OpR X (binaryOp .Add) (fun x y H Q=>∃ i j,x=.str i/\y=.str j/\i.length+j.length<=sizeLine/\Q (.str (i++j)) H):=by
 intro pins s σ H x y v u Q I rx ry h;obtain⟨i,j,rfl,rfl,hz,q⟩:=h;obtain⟨t,rfl⟩:=rx;obtain⟨t',rfl⟩:=ry;exact add_str (fun t' tk=>⟨.str (i++j),H,I.tok _,⟨_,rfl⟩,q⟩) hz
theorem ypx{x:V}{us:List Value}(r:yqx [x] us):∃ u,us=[u]/\yqp x u:=by
 cases r with
 |cons r1 r2=>cases r2;exact⟨_,rfl,r1⟩
theorem ypy{x y:V}{us:List Value}(r:yqx [x,y] us):∃ u w',us=[u,w']/\yqp x u/\yqp y w':=by
 cases r with
 |cons r1 r2=>
  cases r2 with
  |cons r3 r4=>cases r4;exact⟨_,_,rfl,r1,r3⟩
theorem zkb(hc:X.calm=true):ykp X (.builtin "min") (fun xs H Q=>∃ i j,xs=[.int i,.int j]/\Q (.int (if j<i then j else i)) H):=by
 intro pins s σ H xs us Q I r h;obtain⟨i,j,rfl,q⟩:=h;obtain⟨u,w',rfl,⟨t,rfl⟩,⟨t',rfl⟩⟩:=ypy r;refine min_two_ints (I.ok.hd hc) fun h' tk k=>⟨_,H,I.kept k,?_,q⟩
 by_cases hj:j<i
 ·rw[if_pos hj,if_pos hj];exact⟨_,rfl⟩
 ·rw[if_neg hj,if_neg hj];exact⟨_,rfl⟩
end
end L2
namespace L2
open PySem PySem.Spec PyProof.Rows
structure ObjM(h:Heap)(x dx C:Addr)(mA:Str->Option Value):Prop where
 obj:h.get? x=some (PySem.W.instObj C dx)
 ns:h.Ns1 dx mA
 ne:dx≠x
theorem zl1{h:Heap}{dx:Addr}{mA:Str->Option Value}(n:h.Ns1 dx mA):∃ od,h.get? dx=some od/\∀ name,PySem.W.lookIn name od=some (mA name):=by
 obtain⟨o,es,ep,ho,hd,hk,_,hm⟩:=n;refine⟨o,ho,fun name=>?_⟩;have e:=hm name;unfold nsFind findBy at e;rw[<-Array.find?_toList]at e;unfold PySem.W.lookIn;rw[hd];dsimp only;split
 ·rename_i y q
  rw[q]at e;exact congrArg some e
 ·rename_i q
  rw[q]at e;have a:es.toList.any (·.refKey)=false:=by
   rw[List.any_eq_false];intro y hy;obtain⟨z,t,hkey⟩:=hk y (Array.mem_toList_iff.mp hy);simp[DictEntry.refKey,hkey]
  have a':¬ es.toList.any (·.refKey)=true:=by rw[a];exact Bool.false_ne_true
  rw[if_neg a'];exact congrArg some e
theorem ObjM.look{h:Heap}{x dx C:Addr}{mA:Str->Option Value}(I:ObjM h x dx C mA):∃ od,PySem.W.InstAt h x (PySem.W.instObj C dx) C (some od)/\∀ name,PySem.W.lookIn name od=some (mA name):=
 let ⟨od,ho,hl⟩:=zl1 I.ns
 ⟨od,⟨I.obj,rfl,rfl,ho⟩,hl⟩
section
variable{prog:Program}{w:World}{A:Around}{E:Value->Shared->Prop}{s:Shared}{K:PySem.W.Frag}{x dx C f:Addr}{mA:Str->Option Value}{name:Str}{v:Value}
theorem zxk{expr:Bool}{Q:Value->Shared->Prop}(X:K.In s.heap)(I:ObjM s.heap x dx C mA)(hg:PySem.W.plainGet K C name=true)(hh:PySem.W.hasDictIn K C=true)
  (ha:PySem.W.findIn K (.ref C) name=some none) (hv:mA name=some v) (hv':PySem.W.handedIn v=true) (h:Q v { s with toks:=s.toks+1 }) :
  wpAny (model prog w) A (getAttr (.ref x) name expr) Q E s:=by
 obtain⟨od,J,hl⟩:=I.look;exact PySem.W.get_value X J (PySem.W.plainGet_of hg).1 (PySem.W.findObj_own hh ha rfl (by rw[hl,hv])) hv' h
theorem zp6{pl:Sem Bool}{Q:Value × List Value->Shared->Prop}(X:K.In s.heap)(I:ObjM s.heap x dx C mA)(hg:PySem.W.plainGet K C name=true)
  (hf:PySem.W.findIn K (.ref C) name=some (some (.ref f))) (ht:PySem.W.isFn K (.ref f)=true) (hv:mA name=none) (h:Q (.ref f,[.ref x]) s) :
  wpAny (model prog w) A (getMethod (.ref x) name pl) Q E s:=by
 obtain⟨od,J,hl⟩:=I.look;exact PySem.W.method_fn X J (PySem.W.plainGet_of hg).1 (PySem.W.plainGet_of hg).2 hf (beq_iff_eq.mp ht) (by show (PySem.W.lookIn name od).map (·.isSome)=some false;rw[hl,hv];rfl) h
theorem yb0{ns:List Str}{Q:Unit->Shared->Prop}(X:K.In s.heap)(I:ObjM s.heap x dx C mA)
  (hs:PySem.W.findIn K (.ref C) "__setattr__" = some (some (.builtin "object.__setattr__"))) (hp:PySem.W.plainOver K C=true) (ht:PySem.W.takerIn K C name=some none) (hh:PySem.W.hasDictIn K C=true)
  (hw:PySem.Within mA ns) (hsz:ns.length<=sizeLine)
  (h:∀ h',ObjM h' x dx C (fun y=>if y=name then some v else mA y)->Heap.SameBut dx s.heap h'->Q () { s with heap:=h',toks:=s.toks+2 }) :
  wpAny (model prog w) A (setAttr (.ref x) name v) Q E s:=by
 obtain⟨od,J,hl⟩:=I.look;refine PySem.W.set_plain X J hs (PySem.W.osa_open (s:={ s with toks:=s.toks+1 }) (r:=none) X J hp ht fun b=>?_);obtain⟨cd,hc,hd'⟩:=PySem.W.any_some hh;have hx:s.heap.get? x=some ⟨.ref C,some dx,.plain,#[]⟩:=I.obj;refine wpAny_bind (wpAny_pure (wpAny_bind (wpAny_bind (wpAny_loadPart hx (wpAny_bind (PySem.W.Looks.here (s:={ s with toks:=s.toks+1 }) (PySem.W.looks_clsIn X hc) ?_))))));rw[hd'];refine wpAny_pure (a:=some dx) (wpAny_bind (wpAny_pure (wpAny_bind ?_)));refine wpAny_nsSet1 (s:={ s with toks:=s.toks+1 }) I.ns fun h' hn2 hs2=>?_;obtain⟨oD,esD,epD,hoD,hdD,hcD⟩:=hn2.count (PySem.Within.cons name v hw);refine wpAny_bind (wpAny_lookBehind hoD (by rw[hdD];exact pastItsLine_dict (Nat.le_trans hcD (by rw[List.length_cons];omega))) ?_);exact wpAny_pure (h _ ⟨(hs2.2 _ (Ne.symm I.ne)).trans I.obj,hn2,I.ne⟩ hs2)
theorem zq7{R:Result->Shared->Prop}{vs:List Value}{kw:List (Str × Value)}(X:K.In s.heap)(hm:PySem.W.makesIn K C=true)
  (hi:PySem.W.findIn K (.ref C) "__init__" = some (some (.ref f))) (hf:PySem.W.typeIn K (.ref f)=some (.type "function"))
  (h:codeAny (model prog w) (A.under (.builtin "type.__call__" ⟨.ref C::vs,kw⟩)) (.call (.ref f) ⟨.ref (s.heap.objs.size+1)::vs,kw⟩) (PySem.W.InitBack (s.heap.objs.size+1) R)
   { s with heap:=(s.heap.push PySem.W.emptyDict).push (PySem.W.instObj C s.heap.objs.size) }) :
  codeAny (model prog w) A (.call (.ref C) ⟨vs,kw⟩) R s:=by
 obtain⟨hh,g,d,t,os⟩:=s;exact PySem.W.make_core (PySem.W.makes_of X hm) (PySem.W.looks_findIn X hi) (fun self=>PySem.W.bind_fn X self hf) (.inl rfl) h
end
def ytq(f:Str)(v:V):List (Str × V)->List (Str × V)
 |[]=>[(f,v)]
 |(g,x)::r=>if g=f then (g,v)::r else (g,x)::ytq f v r
theorem zgj(f g:Str)(v:V):∀ fs:List (Str × V),(ytq f v fs).lookup g=if g=f then some v else fs.lookup g
 |[]=>by
  show List.lookup g [(f,v)]=_;by_cases h:g=f
  ·have hb:(g == f)=true:=beq_iff_eq.mpr h;simp only[List.lookup,hb,if_pos h]
  ·have hb:(g == f)=false:=beq_eq_false_iff_ne.mpr h;simp only[List.lookup,hb,if_neg h]
 |(k,x)::r=>by
  have ih:=zgj f g v r;rw[show ytq f v ((k,x)::r)=(if k=f then (k,v)::r else (k,x)::ytq f v r)from rfl];by_cases hk:k=f
  ·rw[if_pos hk];by_cases h:g=k
   ·have hb:(g == k)=true:=beq_iff_eq.mpr h;simp only[List.lookup,hb,if_pos (h.trans hk)]
   ·have hb:(g == k)=false:=beq_eq_false_iff_ne.mpr h;simp only[List.lookup,hb,if_neg (fun e:g=f=>h (e.trans hk.symm))]
  ·rw[if_neg hk];by_cases h:g=k
   ·have hb:(g == k)=true:=beq_iff_eq.mpr h;simp only[List.lookup,hb,if_neg (fun e:g=f=>hk (h.symm.trans e))]
   ·have hb:(g == k)=false:=beq_eq_false_iff_ne.mpr h;simp only[List.lookup,hb];exact ih
theorem zlx(f:Str)(v:V):∀ fs:List (Str × V),f∈(ytq f v fs).map (·.1)/\∀ g,g∈fs.map (·.1)->g∈(ytq f v fs).map (·.1)
 |[]=>⟨by simp[ytq],fun g h=>by simp at h⟩
 |(k,x)::r=>by
  obtain⟨i1,i2⟩:=zlx f v r;rw[show ytq f v ((k,x)::r)=(if k=f then (k,v)::r else (k,x)::ytq f v r)from rfl];by_cases hk:k=f
  ·rw[if_pos hk];subst hk;exact⟨by simp,fun g h=>by simpa using h⟩
  ·rw[if_neg hk];refine⟨?_,fun g h=>?_⟩
   ·rw[List.map_cons];exact List.mem_cons_of_mem _ i1
   ·rw[List.map_cons]at h ⊢;rcases List.mem_cons.mp h with e|e
    ·exact List.mem_cons.mpr (.inl e)
    ·exact List.mem_cons_of_mem _ (i2 g e)
theorem zgh(f:Str)(v:V):∀ fs:List (Str × V),(ytq f v fs).length<=fs.length+1
 |[]=>by simp[ytq]
 |(k,x)::r=>by
  have ih:=zgh f v r;rw[show ytq f v ((k,x)::r)=(if k=f then (k,v)::r else (k,x)::ytq f v r)from rfl];by_cases hk:k=f
  ·rw[if_pos hk,List.length_cons,List.length_cons];omega
  ·rw[if_neg hk,List.length_cons,List.length_cons];omega
theorem yqo.some_of{v:V}{o:Option Value}(r:yqo (some v) o):∃ u,o=some u/\yqp v u:=by
 cases o with
 |none=>exact(show False from r).elim
 |some u=>exact⟨u,rfl,r⟩
theorem yqo.none_of{o:Option Value}(r:yqo none o):o=none:=by
 cases o with
 |none=>rfl
 |some u=>exact(show False from r).elim
theorem zlg{v:V}{u:Value}(r:yqp v u):PySem.W.handedIn u=true:=by
 cases v with
 |non=>cases (show u=Value.none from r);rfl
 |bl b=>cases (show u=Value.bool b from r);rfl
 |int i=>obtain⟨t,e⟩:=(show ∃ t,u=Value.int i t from r);cases e;rfl
 |str x=>obtain⟨t,e⟩:=(show ∃ t,u=Value.str x t from r);cases e;rfl
 |byt b=>obtain⟨t,e⟩:=(show ∃ t,u=Value.bytes b t from r);cases e;rfl
 |flt b=>obtain⟨t,e⟩:=(show ∃ t,u=Value.float b t from r);cases e;rfl
 |ref a=>cases (show u=Value.ref a from r);rfl
 |ty n=>cases (show u=Value.type n from r);rfl
section
variable{P:Program}{w:World}{H H':Hp}{h h':Heap}{a C dx:Addr}{fs fs':List (Str × V)}
theorem zxt(hok:HOk P w H h)(e:H a=some (.ins C dx fs)):∃ mA,ObjM h a dx C mA/\(∀ f,yqo (fs.lookup f) (mA f))/\PySem.Within mA (fs.map (·.1))/\fs.length<=1000/\H dx=some (.own a):=by
 obtain⟨d,z,ne,ob,mA,n,r,q⟩:=(show ykv P w H h a (.ins C dx fs)from hok a _ e)
 exact⟨mA,⟨ob,n,ne⟩,r,q,z,d⟩
end
structure Cls(K:PySem.W.Frag)(C:Addr):Prop where
 pg:PySem.W.plainGet K C Str.empty=true
 hd:PySem.W.hasDictIn K C=true
 po:PySem.W.plainOver K C=true
 sa:PySem.W.findIn K (.ref C) "__setattr__" = some (some (.builtin "object.__setattr__"))
theorem Cls.get{K:PySem.W.Frag}{C:Addr}(c:Cls K C)(f:Str):PySem.W.plainGet K C f=true:=c.pg
def ydj(K:PySem.W.Frag)(C:Addr)(f:Str):Prop:=PySem.W.findIn K (.ref C) f=some none
theorem ydj.taker{K:PySem.W.Frag}{C:Addr}{f:Str}(n:ydj K C f):PySem.W.takerIn K C f=some none:=by
 unfold PySem.W.takerIn;rw[show PySem.W.findIn K (.ref C) f=some none from n];rfl
structure Con(K:PySem.W.Frag)(C:Addr)(f:Str)(v:V)(u:Value):Prop where
 at_:PySem.W.findIn K (.ref C) f=some (some u)
 rel:yqp v u
 get:PySem.W.specialIn K u "__get__" = some none
 cp:PySem.W.copiedNames.contains f=false
structure Meth(K:PySem.W.Frag)(C:Addr)(m:Str)(f:Addr):Prop where
 at_:PySem.W.findIn K (.ref C) m=some (some (.ref f))
 fn:PySem.W.isFn K (.ref f)=true
 kp:PySem.W.keepIn K (.ref f)=true
section
variable{X:Cx}{pins:List (Addr × Obj)}{σ:St}{H:Hp}{s:Shared}{a C dx:Addr}{fs:List (Str × V)}{f:Str}{v:V}{A:Around}{E:Value->Shared->Prop}
theorem zh9{b:Bool}{Q:Value->Shared->Prop}(I:Inv X pins σ H s)(e:H a=some (.ins C dx fs))(c:Cls X.K C)(n:ydj X.K C f)(l:fs.lookup f=some v)
  (h:∀ u s',Inv X pins σ H s'->yqp v u->Q u s'):wpAny (model X.prog X.w) A (getAttr (.ref a) f b) Q E s:=by
 obtain⟨mA,O,r,_,_,_⟩:=zxt I.hok e;obtain⟨u,hu,ru⟩:=yqo.some_of (v:=v) (o:=mA f) (by rw[<-l];exact r f);exact zxk I.kIn O (c.get f) c.hd n hu (zlg ru) (h u _ (I.tok _) ru)
theorem zia{m:Str}{g:Addr}{pl:Sem Bool}{Q:Value × List Value->Shared->Prop}(I:Inv X pins σ H s)(e:H a=some (.ins C dx fs))(c:Cls X.K C)(k:Meth X.K C m g)(l:fs.lookup m=none)
  (h:Q (.ref g,[.ref a]) s):wpAny (model X.prog X.w) A (getMethod (.ref a) m pl) Q E s:=by
 obtain⟨mA,O,r,_,_,_⟩:=zxt I.hok e;have hn:mA m=none:=yqo.none_of (by rw[<-l];exact r m);exact zp6 I.kIn O (c.get m) k.at_ k.fn hn h
theorem zjg{y:V}{u:Value}{Q:Unit->Shared->Prop}(I:Inv X pins σ H s)(e:H a=some (.ins C dx fs))(c:Cls X.K C)(n:ydj X.K C f)(hl:fs.length<1000)(ry:yqp y u)
  (h:∀ s',Inv X pins σ (upd H a (.ins C dx (ytq f y fs))) s'->Q () s'):wpAny (model X.prog X.w) A (setAttr (.ref a) f u) Q E s:=by
 obtain⟨mA,O,r,wi,_,ho⟩:=zxt I.hok e;have hz:(fs.map (·.1)).length<=sizeLine:=by rw[List.length_map,sizeLine_eq];omega
 refine yb0 I.kIn O c.sa c.po n.taker c.hd wi hz fun h' O' sb=>h _ ?_;have hd:∃ o,h'.get? dx=some o:=let ⟨o,_,_,e',_⟩:=O'.ns;⟨o,e'⟩;refine I.write (x:=a) (e:=dx) (by rw[e];exact True.intro) (.inr ho) (fun b q hb z=>(sb.2 b hb).trans z) hd ?_;refine⟨by rw[upd_ne O.ne];exact ho,?_,O.ne,O'.obj,_,O'.ns,fun g=>?_,fun g hg=>?_⟩
 ·have:=zgh f y fs;omega
 ·show yqo ((ytq f y fs).lookup g) (if g=f then some u else mA g);rw[zgj];by_cases q:g=f
  ·rw[if_pos q,if_pos q];exact ry
  ·rw[if_neg q,if_neg q];exact r g
 ·by_cases q:g=f
  ·rw[q];exact(zlx f y fs).1
  ·refine(zlx f y fs).2 g (wi g fun z=>hg ?_);show (if g=f then some u else mA g)=none;rw[if_neg q];exact z
theorem Inv.made(I:Inv X pins σ H s):Inv X pins σ (upd (upd H s.heap.objs.size (.own (s.heap.objs.size+1))) (s.heap.objs.size+1) (.ins C s.heap.objs.size []))
  { s with heap:=(s.heap.push PySem.W.emptyDict).push (PySem.W.instObj C s.heap.objs.size) }:=by
 have e1:(s.heap.push PySem.W.emptyDict).get? s.heap.objs.size=some PySem.W.emptyDict:=Heap.get?_push_size s.heap rfl;have e2:((s.heap.push PySem.W.emptyDict).push (PySem.W.instObj C s.heap.objs.size)).get? (s.heap.objs.size+1)=some (PySem.W.instObj C s.heap.objs.size):=by
  have:=Heap.get?_push_size (s.heap.push PySem.W.emptyDict) (o:=PySem.W.instObj C s.heap.objs.size) rfl
  rwa [Heap.size_push]at this
 have e3:(s.heap.push PySem.W.emptyDict).Ns s.heap.objs.size (fun _=>none):=⟨PySem.W.emptyDict,#[],_,e1,rfl,(fun e he=>absurd he (by simp)),fun _=>rfl⟩
 have I1:=I.laid (a:=s.heap.objs.size) (o:=.own (s.heap.objs.size+1)) (h':=s.heap.push PySem.W.emptyDict) (t':=s.toks) (fun b u q=>Heap.get?_push_of_some _ q) (Nat.le_refl _) ⟨_,e1⟩;refine I1.laid (a:=s.heap.objs.size+1) (o:=.ins C s.heap.objs.size []) (t':=s.toks) (fun b u q=>Heap.get?_push_of_some _ q) (Nat.le_of_eq (Heap.size_push _ _)) ?_;have ne:s.heap.objs.size≠s.heap.objs.size+1:=Nat.ne_of_lt (Nat.lt_succ_self _);refine⟨by rw[upd_ne ne,upd_same],Nat.zero_le _,ne,e2,fun _=>none,(Heap.Ns1.of_empty e3).at fun o q=>Heap.get?_push_of_some _ q,fun _=>True.intro,fun y hy=>absurd rfl hy⟩
theorem zu4{prog:Program}{w:World}{env:Env}{e:Expr}{f:Str}{pos:Pos}{s:Shared}{Q:Value->Shared->Prop}(hb:attributeBase e f env (eval e env)=eval e env)
  (h:wpAny (model prog w) A (eval e env) (fun o s₁=>wpAny (model prog w) A (getAttr o f true) Q E s₁) E s):wpAny (model prog w) A (eval (.Attribute e f pos) env) Q E s:=
 Attribute_any_ h (by rw[arm_eval_Attribute,hb])
end
def yu8(K:PySem.W.Frag)(ta:TE)(f:Str):TE:=fun σ H Q=>ta σ H fun x H1=>∃ a C dx fs v,x=.ref a/\H1 a=some (.ins C dx fs)/\Cls K C/\ydj K C f/\fs.lookup f=some v/\Q v H1
def yuk(K:PySem.W.Frag)(ta tv:TE)(f:Str):TS:=fun D σ H=>tv σ H fun y H1=>ta σ H1 fun x H2=>∃ a C dx fs,x=.ref a/\H2 a=some (.ins C dx fs)/\Cls K C/\ydj K C f/\fs.length<1000/\
 D.nx σ (upd H2 a (.ins C dx (ytq f y fs)))
def yqb(X:Cx)(op:Operator)(rd:V->V->Hp->VK->Prop):Prop:=
 ∀ (pins:List (Addr × Obj)) (s:Shared) (σ:St) (H:Hp) (x y:V) (u v:Value) (Q:VK),Inv X pins σ H s->yqp x u->yqp y v->rd x y H Q->wpAny (model X.prog X.w) X.A (inplaceOp op u v) (EP X pins σ Q) X.xe s
def ybg(K:PySem.W.Frag)(ta tv:TE)(rd:V->V->Hp->VK->Prop)(f:Str):TS:=fun D σ H=>ta σ H fun x H1=>∃ a C dx fs v,x=.ref a/\H1 a=some (.ins C dx fs)/\Cls K C/\ydj K C f/\fs.lookup f=some v/\
 tv σ H1 fun y H2=>rd v y H2 fun z H3=>∃ dx' fs',H3 a=some (.ins C dx' fs')/\fs'.length<1000/\D.nx σ (upd H3 a (.ins C dx' (ytq f z fs')))
section
variable{X:Cx}{o e value:Expr}{f:Str}{pos pos' tpos:Pos}{ta tv:TE}
theorem yio(he:PE X e ta)(hb:attributeBase e f X.env (eval e X.env)=eval e X.env):PE X (.Attribute e f pos) (yu8 X.K ta f):=by
 intro pins s σ H Q I h;refine zu4 hb (thn (he pins s σ H _ I h) fun u s1 ⟨x,H1,I1,rx,a,C,dx,fs,v,ex,ea,c,n,l,q⟩=>?_);subst ex;obtain rfl:u=Value.ref a:=rx;exact zh9 I1 ea c n l fun u' s2 I2 ru=>⟨v,H1,I2,ru,q⟩
theorem yi2(ha:PE X o ta)(hv:PE X value tv)(hs:swapsWith value (some (.Attribute o f pos')) pos.line X.env=pure false):PS X (.Assign [.Attribute o f pos'] value pos) (yuk X.K ta tv f):=by
 intro pins s σ H D I h;refine plainObj_wpAny_Assign_Attribute (thn (hv pins s σ H _ I h) fun u s1 ⟨y,H1,I1,ry,q⟩=>thn (ha pins s1 σ H1 _ I1 q) fun ov s2 ⟨x,H2,I2,rx,a,C,dx,fs,ex,ea,c,n,l,q2⟩=>?_) hs;subst ex;obtain rfl:ov=Value.ref a:=rx;exact zjg I2 ea c n l ry fun s3 I3=>⟨σ,_,I3,q2⟩
theorem zmu{op:Operator}{rd:V->V->Hp->VK->Prop}(ha:PE X o ta)(hv:PE X value tv)(hop:yqb X op rd):PS X (.AugAssign (.Attribute o f tpos) op value pos) (ybg X.K ta tv rd f):=by
 intro pins s σ H D I h;refine wpAny_AugAssign_AttributeAny (thn (ha pins s σ H _ I h) fun ov s1 ⟨x,H1,I1,rx,a,C,dx,fs,v,ex,ea,c,n,l,q⟩=>?_);subst ex;obtain rfl:ov=Value.ref a:=rx;refine zh9 I1 ea c n l fun u s2 I2 ru=>thn (hv pins s2 σ H1 _ I2 q) fun w3 s3 ⟨y,H2,I3,ry,q3⟩=>thn (hop pins s3 σ H2 v y u w3 _ I3 ru ry q3) fun w4 s4 ⟨z,H3,I4,rz,dx',fs',ea',l',q4⟩=>?_;exact zjg I4 ea' c n l' rz fun s5 I5=>⟨σ,_,I5,q4⟩
def ytt:V->V->Hp->VK->Prop:=fun x y H Q=>∃ i j,x=.int i/\y=.int j/\Q (.int (i+j)) H
theorem ygd:yqb X .Add ytt:=by
 rintro pins s σ H x y u v Q I rx ry ⟨i,j,rfl,rfl,q⟩;obtain⟨t,rfl⟩:=(show ∃ t,u=Value.int i t from rx)
 obtain⟨t',rfl⟩:=(show ∃ t',v=Value.int j t' from ry)
 exact PyProof.Rows.iadd_int ⟨.int (i+j),H,I.tok _,⟨_,rfl⟩,q⟩
end
section
variable{X:Cx}{pins:List (Addr × Obj)}{σ:St}{H:Hp}{s:Shared}{A:Around}{E:Value->Shared->Prop}{Q:Value->Shared->Prop}{c:Value}{b:Bool}
inductive TyOf(K:PySem.W.Frag)(H:Hp):V->Value->Prop where
 |non:TyOf K H .non (.type "NoneType")
 |bl (x:Bool):TyOf K H (.bl x) (.type "bool")
 |int (i:Int):TyOf K H (.int i) (.type "int")
 |str (x:Str):TyOf K H (.str x) (.type "str")
 |flt (x:UInt64):TyOf K H (.flt x) (.type "float")
 |lst {a:Addr} {xs:List V} (e:H a=some (.lst xs)):TyOf K H (.ref a) (.type "list")
 |frz {a:Addr} {o:Obj} {xs:List V} (e:H a=some (.frz o (.lst xs))):TyOf K H (.ref a) (.type "list")
 |tup {a:Addr} {xs:List V} (e:H a=some (.tup xs)):TyOf K H (.ref a) (.type "tuple")
 |dK {a:Addr} {kvs:List (Key × V)} (e:H a=some (.dK kvs)):TyOf K H (.ref a) (.type "dict")
 |dT {a:Addr} {kvs:List (List Key × V)} (e:H a=some (.dT kvs)):TyOf K H (.ref a) (.type "dict")
 |ins {a C dx:Addr} {fs:List (Str × V)} (e:H a=some (.ins C dx fs)) (cl:Cls K C) (ha:PySem.W.findIn K (.ref C) "__class__" = some (some (.builtin "object.__class__")))
   (hn:PySem.W.specialIn K (.builtin "object.__class__") "__get__" = some (some (.builtin "getset_descriptor.__get__"))) (htk:PySem.W.takesIn K (.builtin "object.__class__")=some true)
   (hm:PySem.W.mroIn K C (.type "object")=some true):TyOf K H (.ref a) (.ref C)
theorem zlo{x:V}{u t:Value}(I:Inv X pins σ H s)(rx:yqp x u)(ty:TyOf X.K H x t)(e:PySem.W.kitOne X.K t c=some b)(h:∀ tk,Q (.bool b) { s with toks:=tk }) :
  wpAny (model X.prog X.w) A (call (.builtin "isinstance") [u,c]) Q E s:=by
 cases ty with
 |non=>cases (show u=Value.none from rx);exact PySem.W.kia_one PySem.W.kitx_none I.kIn True.intro e (fun z=>nomatch z) h
 |bl y=>cases (show u=Value.bool y from rx);exact PySem.W.kia_one PySem.W.kitx_bool I.kIn True.intro e (fun z=>nomatch z) h
 |int i=>obtain⟨t,q⟩:=(show ∃ t,u=Value.int i t from rx);cases q;exact PySem.W.kia_one PySem.W.kitx_int I.kIn True.intro e (fun z=>nomatch z) h
 |str y=>obtain⟨t,q⟩:=(show ∃ t,u=Value.str y t from rx);cases q;exact PySem.W.kia_one PySem.W.kitx_str I.kIn True.intro e (fun z=>nomatch z) h
 |flt y=>obtain⟨t,q⟩:=(show ∃ t,u=Value.float y t from rx);cases q;exact PySem.W.kia_one PySem.W.kitx_float I.kIn True.intro e (fun z=>nomatch z) h
 |@lst a xs ea=>
  cases (show u=Value.ref a from rx);obtain⟨_,_,n,_,h1⟩:=(show ykv X.prog X.w H s.heap a (.lst xs)from I.hok a _ ea)
  exact PySem.W.kia_one PySem.W.kitx_list I.kIn ⟨_,h1,rfl⟩ e (fun z=>nomatch z) h
 |@frz a ob xs ea=>
  cases (show u=Value.ref a from rx);obtain⟨_,_,_,n,_,h1⟩:=(show ykv X.prog X.w H s.heap a (.frz ob (.lst xs))from I.hok a _ ea)
  exact PySem.W.kia_one PySem.W.kitx_list I.kIn ⟨_,h1,rfl⟩ e (fun z=>nomatch z) h
 |@tup a xs ea=>
  cases (show u=Value.ref a from rx);obtain⟨_,_,_,p⟩:=(show ykv X.prog X.w H s.heap a (.tup xs)from I.hok a _ ea)
  obtain⟨o,h1,h2,_⟩:=p;exact PySem.W.kia_one PySem.W.kitx_tuple I.kIn ⟨o,h1,h2⟩ e (fun z=>nomatch z) h
 |@dK a kvs ea=>
  cases (show u=Value.ref a from rx);obtain⟨_,_,vs,_,p⟩:=(show ykv X.prog X.w H s.heap a (.dK kvs)from I.hok a _ ea)
  obtain⟨o,es,ep,h1,h2,_⟩:=p;exact PySem.W.kia_one PySem.W.kitx_dict I.kIn ⟨o,h1,h2.1⟩ e (fun z=>nomatch z) h
 |@dT a kvs ea=>
  cases (show u=Value.ref a from rx);obtain⟨_,_,xs,_,o,es,ep,h1,h2,_⟩:=(show ykv X.prog X.w H s.heap a (.dT kvs)from I.hok a _ ea)
  exact PySem.W.kia_one PySem.W.kitx_dict I.kIn ⟨o,h1,h2.1⟩ e (fun z=>nomatch z) h
 |@ins a C dx fs ea cl ha hn htk hm=>
  cases (show u=Value.ref a from rx);obtain⟨mA,O,_⟩:=zxt I.hok ea;obtain⟨od,J,_⟩:=O.look;exact PySem.W.kia_one (PySem.W.kitx_own (cl.get _) cl.hd ha hn htk hm) I.kIn J e (fun z=>nomatch z) h
end
end L2
namespace L2
open PySem PySem.Spec PyProof.Rows
structure Room(k:Nat)(A:Around):Prop where
 hd:A.handled=none
 dp:A.depth+3 * k+5<recursionLimit
 un:A.units+16 * k+200<cLine
theorem Room.mono{j k:Nat}{A:Around}(r:Room k A)(h:j<=k):Room j A:=⟨r.hd,by have:=r.dp;omega,by have:=r.un;omega⟩
theorem Room.deeper{k:Nat}{A:Around}(r:Room (k+1) A)(env:Env):Room k (A.deeper env):=
 ⟨r.hd,by have:=r.dp;show A.depth+1+3 * k+5<_;omega,by have:=r.un;show A.units+3+16 * k+200<_;omega⟩
theorem Room.in1{k:Nat}{A:Around}(r:Room (k+1) A):Room k A.in1:=
 ⟨r.hd,by have:=r.dp;show A.depth+3 * k+5<_;omega,by have:=r.un;show A.units+1+16 * k+200<_;omega⟩
theorem zij{A:Around}{C:Addr}{us:List Value}{kw:List (Str × Value)}:(A.under (.builtin "type.__call__" ⟨.ref C::us,kw⟩)).depth=A.depth+1:=by
 first|rfl|simp[Around.under,Code.weight,Code.isCreation,Code.isGuard,Code.isCaller,Code.frames,Code.isFrame,guardIds]
theorem zil{A:Around}{C:Addr}{us:List Value}{kw:List (Str × Value)}:(A.under (.builtin "type.__call__" ⟨.ref C::us,kw⟩)).units=A.units+1:=by
 first|rfl|simp[Around.under,Code.cUnits,Code.frames,Code.isFrame]
theorem Room.make{k:Nat}{A:Around}(r:Room (k+1) A)(C:Addr)(us:List Value)(kw:List (Str × Value)):Room k (A.under (.builtin "type.__call__" ⟨.ref C::us,kw⟩)):=
 ⟨r.hd,by have:=r.dp;rw[zij];omega,by have:=r.un;rw[zil];omega⟩
theorem Room.depth{k:Nat}{A:Around}(r:Room k A):A.depth<recursionLimit:=by have:=r.dp;omega
theorem Room.units{k:Nat}{A:Around}(r:Room k A):A.units+64<cLine:=by have:=r.un;omega
def yvc:TA:=fun _ H Q=>Q [] H
def ypj(ta:TE)(tr:TA):TA:=fun σ H Q=>ta σ H fun x H1=>tr σ H1 fun xs H2=>Q (x::xs) H2
section
variable{X:Cx}{e:Expr}{es:List Expr}{te:TE}{t:TA}{pos:Pos}
theorem yil:PA X [] yvc:=fun _ _ _ _ H Q I h=>Calls.spliced_nil ⟨[],H,I,.nil,h⟩
theorem yae(ha:PE X e te)(hr:PA X es t)(hs:starEach (e::es) X.env=(false,eval e X.env)::starEach es X.env:=by rfl):PA X (e::es) (ypj te t):=by
 intro pos pins s σ H Q I h;rw[hs];show wpAny _ _ (spliced ((false,eval e X.env)::backTo pos (starEach es X.env))) _ _ s;refine Calls.spliced_cons (thn (ha pins s σ H _ I h) fun u s1 ⟨x,H1,I1,r1,q1⟩=>?_);exact thn (hr pos pins s1 σ H1 _ I1 q1) fun us s2 ⟨xs,H2,I2,r2,q2⟩=>⟨x::xs,H2,I2,.cons r1 r2,q2⟩
def yvh(t:TA):TE:=fun σ H Q=>t σ H fun xs H1=>xs.length<=sizeLine/\∀ p,H1 p=none->Q (.ref p) (upd H1 p (.tup xs))
def yvb(t:TA):TE:=fun σ H Q=>t σ H fun xs H1=>xs.length<=sizeLine/\∀ p,H1 p=none->Q (.ref p) (upd H1 p (.lst xs))
theorem yiv{x1}(h:PA X es t):PE X (.Tuple es x1 pos) (yvh t):=by
 intro pins s σ H Q I hq;refine wpAny_Tuple_spliced (thn (h pos pins s σ H _ I hq) fun us s1 ⟨xs,H1,I1,r,z,q⟩=>⟨by rw[<-r.length];exact z,?_⟩);have hf:H1 s1.heap.objs.size=none:=I1.hok.fresh (Nat.le_refl _);refine⟨.ref s1.heap.objs.size,upd H1 s1.heap.objs.size (.tup xs),I1.laid (t':=s1.toks) (fun b u e=>Heap.get?_push_of_some _ e) (Nat.le_refl _) ?_,rfl,q _ hf⟩;exact⟨z,us,r,⟨_,Heap.get?_push_size _ rfl,rfl,_,rfl⟩⟩
theorem yiq(h:PA X es t):PE X (.List es pos) (yvb t):=by
 intro pins s σ H Q I hq;refine wpAny_List_spliced (thn (h pos pins s σ H _ I hq) fun us s1 ⟨xs,H1,I1,r,z,q⟩=>⟨by rw[<-r.length];exact z,?_⟩);have hf:H1 s1.heap.objs.size=none:=I1.hok.fresh (Nat.le_refl _);refine⟨.ref s1.heap.objs.size,upd H1 s1.heap.objs.size (.lst xs),I1.laid (t':=s1.toks) (fun b u e=>Heap.get?_push_of_some _ e) (Nat.le_refl _) ?_,rfl,q _ hf⟩;exact⟨z,us,0,r,Heap.get?_push_size _ rfl⟩
end
abbrev Sp:=List V->Hp->VK->XK->Prop
abbrev CXT:=List Env->Hp->Shared->XK->Value->Shared->Prop
structure Env0(P:Program)(w:World)(K:PySem.W.Frag)(mg:Str->Option Value)(base:Heap)(A:Around)(outer:List Env)(s:Shared)(H:Hp):Prop where
 frames:A.frames=some outer
 mod:Mod K mg base
 bs:∀ b o,base.get? b=some o->s.heap.get? b=some o/\H b=none
 bsz:base.objs.size<=s.heap.objs.size
 funs:s.heap.FunFrames base outer
 frf:∀ b∈frs outer,H b=none
 hok:HOk P w H s.heap
 bare:AllBare s.gens
def CE(outer:List Env)(P:Program)(w:World)(H:Hp)(s:Shared)(Q:VK)(u:Value)(s':Shared):Prop:=
 ∃ v H',s'.os=s.os/\AllBare s'.gens/\Un (frs outer) [] H H' s.heap s'.heap/\HOk P w H' s'.heap/\yqp v u/\Q v H'
def CR(CX:CXT)(outer:List Env)(P:Program)(w:World)(H:Hp)(s:Shared)(Q:VK)(E:XK)(r:Result)(s':Shared):Prop:=
 match r with
 | .ok (.ret u)=>CE outer P w H s Q u s'
 | .ok _=>False
 | .error e=>CX outer H s E e s'
structure FnOk(P:Program)(w:World)(K:PySem.W.Frag)(mg:Str->Option Value)(base:Heap)(CX:CXT)(k:Nat)(f:Addr)(fd:FuncData)(ps:List Str)(sp:Sp):Prop where
 len:∀ vs H Q E,sp vs H Q E->vs.length=ps.length
 run:∀ (A:Around) (outer:List Env) (s:Shared) (H:Hp) (args:Args) (us:List Value) (vs:List V) (Q:VK) (E:XK),Room k A->Env0 P w K mg base A outer s H->BindsTo s fd args (ps.zip us)->yqx vs us->sp vs H Q E->
  codeAny (model P w) A (.call (.ref f) args) (CR CX outer P w H s Q E) s
theorem FnOk.mono{P:Program}{w:World}{K:PySem.W.Frag}{mg:Str->Option Value}{base:Heap}{CX:CXT}{j k:Nat}{f:Addr}{fd:FuncData}{ps:List Str}{sp:Sp}(F:FnOk P w K mg base CX j f fd ps sp)(h:j<=k) :
  FnOk P w K mg base CX k f fd ps sp:=⟨F.len,fun A outer s H args us vs Q E hr=>F.run A outer s H args us vs Q E (hr.mono h)⟩
theorem FnOk.imp{P:Program}{w:World}{K:PySem.W.Frag}{mg:Str->Option Value}{base:Heap}{CX:CXT}{k:Nat}{f:Addr}{fd:FuncData}{ps:List Str}{sp sp':Sp}(F:FnOk P w K mg base CX k f fd ps sp)
  (h:∀ vs H Q E,sp' vs H Q E->sp vs H Q E):FnOk P w K mg base CX k f fd ps sp':=
 ⟨fun vs H Q E q=>F.len vs H Q E (h _ _ _ _ q),fun A outer s H args us vs Q E hr he hb hv hs=>F.run A outer s H args us vs Q E hr he hb hv (h _ _ _ _ hs)⟩
theorem Env0.make{P:Program}{w:World}{K:PySem.W.Frag}{mg:Str->Option Value}{base:Heap}{A:Around}{outer:List Env}{s:Shared}{H:Hp}(e:Env0 P w K mg base A outer s H)(C:Addr)(us:List Value)(kw:List (Str × Value)) :
  Env0 P w K mg base (A.under (.builtin "type.__call__" ⟨.ref C::us,kw⟩)) outer s H:=⟨by first|exact e.frames|(simpa [Around.under,Code.envs,Code.isFrame,pushEnvs]using e.frames),e.mod,e.bs,e.bsz,e.funs,e.frf,e.hok,e.bare⟩
theorem Env0.in1{P:Program}{w:World}{K:PySem.W.Frag}{mg:Str->Option Value}{base:Heap}{A:Around}{outer:List Env}{s:Shared}{H:Hp}(e:Env0 P w K mg base A outer s H) :
  Env0 P w K mg base A.in1 outer s H:=⟨e.frames,e.mod,e.bs,e.bsz,e.funs,e.frf,e.hok,e.bare⟩
section
variable{X:Cx}{pins:List (Addr × Obj)}{σ:St}{H:Hp}{s s':Shared}
theorem Inv.env0(I:Inv X pins σ H s):Env0 X.prog X.w X.K X.mg X.base X.A X.stack s H:=
 ⟨I.ok.frames,I.ok.mod,I.bs,Nat.le_trans I.ok.bsz I.sz,I.stack,I.stkFree,I.hok,I.bare⟩
theorem Inv.after{Q:VK}{u:Value}(I:Inv X pins σ H s)(h:CE X.stack X.prog X.w H s Q u s'):EP X pins σ Q u s':=by
 obtain⟨v,H',os,bare,un,hok,r,q⟩:=h;obtain⟨hh,g,d,t,os'⟩:=s';obtain rfl:os'=s.os:=os;exact⟨v,H',I.call (h':=hh) (g':=g) (d':=d) (t':=t) (ch:=[]) un hok bare (fun b z=>absurd z (by simp)),r,q⟩
end
def yko(K:PySem.W.Frag)(fd:FuncData)(ps:List Str)(ds:List Value):Prop:=
 ∀ (s:Shared) (us:List Value),K.In s.heap->(us++ds).length=ps.length->BindsTo s fd ⟨us,[]⟩ (ps.zip (us++ds))
theorem yko.all{K:PySem.W.Frag}{fd:FuncData}{ps:List Str}(h:∀ us:List Value,us.length=ps.length->bindArgs fd ⟨us,[]⟩=pure (ps.zip us)):yko K fd ps []:=fun s us _ hl=>by
 rw[List.append_nil]at hl ⊢;exact .of_eq (h us hl)
section
variable{X:Cx}{CX:CXT}{k:Nat}{f C:Addr}{fd:FuncData}{ps:List Str}{sp:Sp}{dvs:List V}{ds:List Value}{E:XK}{x m:Str}{p pos apos:Pos}{e o:Expr}{es:List Expr}{ta:TE}{t:TA}
structure Mk(K:PySem.W.Frag)(C f:Addr):Prop where
 makes:PySem.W.makesIn K C=true
 init:PySem.W.findIn K (.ref C) "__init__" = some (some (.ref f))
 fn:PySem.W.isFn K (.ref f)=true
 kp:PySem.W.keepIn K (.ref C)=true
end
section
variable{X:Cx}{CX:CXT}{k:Nat}{f C:Addr}{fd:FuncData}{ps ks:List Str}{sp:Sp}{E:XK}{x m:Str}{p pos apos kpos:Pos}{e o:Expr}{es:List Expr}{kws:List Keyword}{te ta:TE}{t tk:TA}{nm:Option Str}
structure KBinds(K:PySem.W.Frag)(fd:FuncData)(ps ks:List Str)(g:List Value->List Value->List Value)(gV:List V->List V->List V):Prop where
 to:∀ (s:Shared) (us ws:List Value),K.In s.heap->(g us ws).length=ps.length->BindsTo s fd ⟨us,ks.zip ws⟩ (ps.zip (g us ws))
 rel:∀ {vs:List V} {us:List Value} {zs:List V} {ws:List Value},yqx vs us->yqx zs ws->yqx (gV vs zs) (g us ws)
variable{g:List Value->List Value->List Value}{gV:List V->List V->List V}
end
structure FnScope(N P:List Str)(sc:Scope):Prop where
 kind:sc.kind=.function
 co:sc.isCoroutine=false
 gen:sc.isGenerator=false
 nd:N.Nodup
 pre:N.take P.length=P
 par:∀ x∈P,sc.names.lookup x=some .local\/sc.names.lookup x=some .cell
 nofree:∀ y∈sc.names,y.2≠.free
theorem zj3{kindOf:Str->Option NameKind}{x:Str}:∀ {binds:List (Str × Value)} {m:Str->Option Value},(∀ v,(x,v) ∉ binds)->bindL kindOf binds m x=m x
 |[],_,_=>rfl
 |(n,v)::r,m,h=>by
  unfold bindL;rw[zj3 fun w hw=>h w (List.mem_cons_of_mem _ hw)];split
  ·have:x≠n:=by rintro rfl;exact h v List.mem_cons_self
   simp[this]
  ·rfl
theorem zj1{kindOf:Str->Option NameKind}{x:Str}:∀ {binds:List (Str × Value)} {m:Str->Option Value},(∀ v,(x,v) ∉ binds)->bindC kindOf binds m x=m x
 |[],_,_=>rfl
 |(n,v)::r,m,h=>by
  unfold bindC;rw[zj1 fun w hw=>h w (List.mem_cons_of_mem _ hw)];split
  ·rfl
  ·have:x≠n:=by rintro rfl;exact h v List.mem_cons_self
   simp[this]
theorem zj2{kindOf:Str->Option NameKind}{x:Str}{v:Value}:∀ {P:List Str} {vs:List Value} {i:Nat} {m:Str->Option Value},P.Nodup->P[i]?=some x->vs[i]?=some v->kindOf x=some .local->
  bindL kindOf (P.zip vs) m x=some v
 |[],_,_,_,_,h,_,_=>by simp at h
 |_::_,[],_,_,_,_,h,_=>by simp at h
 |p::P,w::vs,0,m,nd,h1,h2,hk=>by
  simp at h1 h2;subst h1;subst h2;show bindL kindOf ((p,w)::P.zip vs) m p=_;unfold bindL;rw[zj3 fun v hv=>(List.nodup_cons.mp nd).1 (List.of_mem_zip hv).1,if_pos hk];simp
 |p::P,w::vs,i+1,m,nd,h1,h2,hk=>by
  show bindL kindOf ((p,w)::P.zip vs) m x=_;unfold bindL;exact zj2 (i:=i) (List.nodup_cons.mp nd).2 (by simpa using h1) (by simpa using h2) hk
theorem zj0{kindOf:Str->Option NameKind}{x:Str}{v:Value}:∀ {P:List Str} {vs:List Value} {i:Nat} {m:Str->Option Value},P.Nodup->P[i]?=some x->vs[i]?=some v->kindOf x≠some .local->
  bindC kindOf (P.zip vs) m x=some v
 |[],_,_,_,_,h,_,_=>by simp at h
 |_::_,[],_,_,_,_,h,_=>by simp at h
 |p::P,w::vs,0,m,nd,h1,h2,hk=>by
  simp at h1 h2;subst h1;subst h2;show bindC kindOf ((p,w)::P.zip vs) m p=_;unfold bindC;rw[zj1 fun v hv=>(List.nodup_cons.mp nd).1 (List.of_mem_zip hv).1,if_neg hk];simp
 |p::P,w::vs,i+1,m,nd,h1,h2,hk=>by
  show bindC kindOf ((p,w)::P.zip vs) m x=_;unfold bindC;exact zj0 (i:=i) (List.nodup_cons.mp nd).2 (by simpa using h1) (by simpa using h2) hk
def yph(N:List Str)(vs:List V):St:=vs.map some++List.replicate (N.length - vs.length) none
def yrh(CX:CXT)(P:Program)(w:World)(K:PySem.W.Frag)(mg:Str->Option Value)(base:Heap)(N:List Str)(qual:Str)(scope:Scope)(f:Addr)(cd:Value)(A:Around)(outer:List Env)(s:Shared)(H:Hp)(E:XK):Cx where
 prog:=P
 w:=w
 K:=K
 mg:=mg
 base:=base
 A:=A.deeper (envOfC qual scope s.heap.objs.size f cd)
 N:=N
 s₀:=s
 H₀:=H
 env:=envOfC qual scope s.heap.objs.size f cd
 outer:=outer
 stack:=envOfC qual scope s.heap.objs.size f cd::outer
 ex:=[]
 calm:=true
 fn:=fun _=>true
 pn:=[]
 xe:=fun e s'=>wpAny (model P w) (A.deeper (envOfC qual scope s.heap.objs.size f cd)) (leaving (envOfC qual scope s.heap.objs.size f cd) e) (fun _ s''=>CX outer H s E e s'') (fun e' s''=>CX outer H s E e' s'') s'
theorem zok{sc:Scope}{n:Nat}{x:Str}(h:sc.names.lookup x=some .cell):∃ c,(cellsFrom n sc.names []).lookup x=some c:=by
 have q:=PySem.W.cellsFrom_some sc.names n [] (.inl h);exact Option.isSome_iff_exists.mp q
theorem zlm{CX:CXT}{P:Program}{w:World}{K:PySem.W.Frag}{mg:Str->Option Value}{base:Heap}{N ps:List Str}{qual:Str}{scope:Scope}{f:Addr}{cd:Value}{A:Around}{outer:List Env}{s s1:Shared}{H:Hp}{E:XK}{us:List Value}{vs:List V}
  (S:FnScope N ps scope) (hd:A.handled=none) (e0:Env0 P w K mg base A outer s H) (hl:vs.length=ps.length) (r:yqx vs us)
  (x:InCallC s s.heap.objs.size (bindL (envOfC qual scope s.heap.objs.size f cd).kindOf (ps.zip us) fun _=>none) (cellsFrom (s.heap.objs.size+1) scope.names []) (bindC (envOfC qual scope s.heap.objs.size f cd).kindOf (ps.zip us) fun _=>none) s1) :
  Inv (yrh CX P w K mg base N qual scope f cd A outer s H E) [] (yph N vs) H s1:=by
 have hpl:ps.length<=N.length:=by have:=congrArg List.length S.pre;rw[List.length_take]at this;omega
 obtain⟨h1,tk,rfl,hk⟩:=x.done;have noA:∀ b:Addr,b ∉ (yrh CX P w K mg base N qual scope f cd A outer s H E).ex:=fun b z=>absurd (show b∈([]:List Addr)from z) (by simp);refine⟨⟨e0.mod,S.kind,rfl,rfl,Nat.le_refl _,fun y z c h1 h2=>?_,fun y hy=>?_,fun y c _ h=>?_,fun _=>hd,Around.frames_deeper e0.frames,.inr ⟨rfl,rfl⟩,fun b z=>absurd z (noA b),e0.bs,e0.bsz,fun b _ _=>noA b,fun b z=>absurd z (noA b),e0.funs,e0.frf⟩,
  rfl,e0.bare,Un.kept hk,⟨_,x.toInCall.ns,fun i y v h1 h2 h3=>?_⟩,fun y c h=>⟨_,x.cell y c h⟩,e0.hok.fresh (Nat.le_refl _),fun y c h=>?_,fun p hp=>absurd (show p∈([]:List (Addr × Obj))from hp) (by simp),e0.hok.kept hk,?_⟩
 ·exact name_of_addr x.apart (PySem.mem_of_lookup h1) (PySem.mem_of_lookup h2)
 ·have hy:scope.names.lookup y=some .cell\/scope.names.lookup y=some .free:=hy;rcases hy with hy|hy
  ·exact zok hy
  ·exact absurd rfl (S.nofree _ (PySem.mem_of_lookup hy))
 ·exact Nat.le_of_lt (x.above y c (PySem.mem_of_lookup h))
 ·have hi:i<vs.length:=by
   unfold yph at h2;by_cases hi:i<vs.length
   ·exact hi
   ·rw[List.getElem?_append_right (by simpa using hi)]at h2;rw[List.getElem?_replicate]at h2;split at h2<;>cases h2
  have ha:vs[i]?=some v:=by
   unfold yph at h2;rw[List.getElem?_append_left (by simpa using hi),List.getElem?_map]at h2;cases e:vs[i]? with
   |none=>rw[e]at h2;cases h2
   |some a=>rw[e]at h2;cases h2;rfl
  obtain⟨u,hu,rv⟩:=r.get ha;have hp:ps[i]?=some y:=by
   rw[<-S.pre,List.getElem?_take_of_lt (by omega)];exact h1
  have ndP:ps.Nodup:=by rw[<-S.pre];exact S.nd.sublist (List.take_sublist _ _)
  refine⟨u,rv,?_⟩;rcases S.par y (List.mem_of_getElem? hp)with k|k
  ·exact .inl ⟨k,zj2 ndP hp hu k⟩
  ·obtain⟨c,e⟩:=zok (n:=s.heap.objs.size+1) k;refine .inr ⟨.inl k,c,e,?_⟩;have q:=x.cell y c e;rw[zj0 ndP hp hu (by show scope.names.lookup y≠_;rw[k];decide)]at q;exact q
 ·exact e0.hok.fresh (Nat.le_of_lt (x.above y c (PySem.mem_of_lookup h)))
 ·unfold yph;show _=N.length;rw[List.length_append,List.length_map,List.length_replicate];omega
theorem ymh{CX:CXT}{P:Program}{w:World}{K:PySem.W.Frag}{mg:Str->Option Value}{base:Heap}{k:Nat}{f:Addr}{name qual:Str}{params:Arguments}{body:List Stmt}{scope:Scope}{dV kV doc pm cdv ct oc:Value}{an od:Option Addr}
  {osl:Array (Option Value)} {N ps:List Str} {sp:Sp} (lk:K.lookup f=some ⟨oc,od,.func (PySem.W.fnOf name qual params body scope dV kV doc pm an cdv ct),osl⟩) (hcd:PySem.W.codeIn K cdv qual=true) (S:FnScope N ps scope)
  (len:∀ vs H Q E,sp vs H Q E->vs.length=ps.length)
  (hbody:∀ (A:Around) (outer:List Env) (s:Shared) (H:Hp) (vs:List V) (Q:VK) (E:XK),Room k (A.deeper (envOfC qual scope s.heap.objs.size f cdv))->sp vs H Q E->
   ∃ t,PSs (yrh CX P w K mg base N qual scope f cdv A outer s H E) body t/\t { nx:=fun _ H'=>Q .non H',rt:=Q } (yph N vs) H) :
  FnOk P w K mg base CX (k+1) f (PySem.W.fnOf name qual params body scope dV kV doc pm an cdv ct) ps sp:=by
 refine⟨len,fun A outer s H args us vs Q E hr e0 hb r hsp=>?_⟩;have hl:=len _ _ _ _ hsp;have KX:K.In s.heap:=e0.mod.kin.keeps fun b o e=>(e0.bs b o e).1;have lim:s.heap.NoLimit:=e0.mod.nolimit.keeps fun b o e=>(e0.bs b o e).1;have hkind:∀ y∈ps.zip us,scope.names.lookup y.1=some .local\/(scope.names.lookup y.1=some .cell/\((cellsFrom (s.heap.objs.size+1) scope.names []).lookup y.1).isSome=true):=fun⟨n,v⟩ hy=>by
  rcases S.par n (List.of_mem_zip hy).1 with q|q
  ·exact .inl q
  ·exact .inr ⟨q,PySem.W.cellsFrom_some _ _ _ (.inl q)⟩
 refine codeAny_call_function hr.depth (KX _ _ lk) rfl S.co S.gen rfl (PySem.W.codeRec_of KX hcd) (hb _ _ _ _ ?_);refine wpAny_newFunctionEnv_cells S.kind hkind fun env he s1 x=>?_;subst he;refine⟨lim.keeps x.toInCall.keep,codeAny_func ?_⟩;obtain⟨t,ht,hq⟩:=hbody A outer s H vs Q E (hr.deeper _) hsp;have I:Inv (yrh CX P w K mg base N qual scope f cdv A outer s H E) [] (yph N vs) H s1:=zlm S hr.hd e0 hl r x;refine wpAny_mono (ht [] s1 (yph N vs) H _ I hq) (fun fl s' hs=>?_) fun e s' hs=>hs;have fin:∀ {σ':St} {H':Hp} {v:V} {u:Value},Inv (yrh CX P w K mg base N qual scope f cdv A outer s H E) [] σ' H' s'->yqp v u->Q v H'->CE outer P w H s Q u s':=
  fun {σ' H' v u} J rv q=>⟨v,H',J.os,J.bare,J.base,J.hok,rv,q⟩
 cases fl with
 |ret u=>
  obtain⟨v,σ',H',J,rv,q⟩:=hs;exact fin J rv q
 |next=>
  obtain⟨σ',H',J,q⟩:=hs;exact fin (v:=V.non) (u:=Value.none) J rfl q
 |brk=>
  obtain⟨_,_,_,q⟩:=hs;exact False.elim q
 |cont=>
  obtain⟨_,_,_,q⟩:=hs;exact False.elim q
end L2
namespace L2
open PySem PySem.Spec PyProof.Rows
section
variable{X:Cx}{x:Str}{p pos:Pos}{e:Expr}{es:List Expr}{t:TA}{id T:String}{r:List V->Hp->VK->Prop}
def tCB(r:List V->Hp->VK->Prop)(t:TA):TE:=fun σ H Q=>t σ H fun vs H1=>r vs H1 Q
theorem zsa(hc:ykp X (.builtin id) r)(hg:Gl X x)(hm:X.mg x=none)(hv:bootBuiltins x=some (.builtin id))(ha:PA X (e::es) t)(hn:x ≠ "__name__":=by decide)(hdb:(x == ("__debug__" : Str))=false:=by decide)
  (he:starEach (e::es) X.env=(false,eval e X.env)::starEach es X.env:=by rfl) (hpl:(backTo pos (starEach es X.env)).any (·.1)=false:=by rfl):PE X (.Call (.Name x p) (e::es) [] pos) (tCB r t):=by
 intro pins s σ H Q I h;refine wpAny_Call_Name_kw (ygw I hg hm hv ?_ hn hdb);exact PyProof.Rows.callWith_builtin1 (thn (ha pos pins s σ H _ I h) fun us s1 ⟨vs,H1,I1,r1,q1⟩=>hc pins s1 σ H1 vs us Q I1 r1 q1) he hpl
theorem zmq(hc:ykp X (.type T) r)(hg:Gl X x)(hm:X.mg x=none)(hv:bootBuiltins x=some (.type T))(ha:PA X (e::es) t)(hn:x ≠ "__name__":=by decide)(hdb:(x == ("__debug__" : Str))=false:=by decide)
  (he:starEach (e::es) X.env=(false,eval e X.env)::starEach es X.env:=by rfl) (hpl:(backTo pos (starEach es X.env)).any (·.1)=false:=by rfl):PE X (.Call (.Name x p) (e::es) [] pos) (tCB r t):=by
 intro pins s σ H Q I h;refine wpAny_Call_Name_kw (ygw I hg hm hv ?_ hn hdb);exact PyProof.Rows.callWith_type1 (thn (ha pos pins s σ H _ I h) fun us s1 ⟨vs,H1,I1,r1,q1⟩=>hc pins s1 σ H1 vs us Q I1 r1 q1) he hpl
end
end L2
namespace HT
open PySem PyProof.Rows
section
open PySem.SeqAt
open PySem.AutoSeq1 (wpAny_loadPart')
open PySem.MeetsSeq PySem.MeetsSeq2 PySem.MeetsSeq3
end
section
variable{prog:Program}{w:World}{A:Around}{E:Value->Shared->Prop}{s:Shared}
theorem cat_tup{t b:Addr}{vs ws:List Value}{Q:Value->Shared->Prop}(ht:IsTup s.heap t vs.toArray)(hb:IsTup s.heap b ws.toArray)(hv:vs≠[])
  (h1:ws=[]->Q (.ref t) s) (h2:ws≠[]->Q (.ref s.heap.objs.size) { s with heap:=s.heap.push { cls:=.type "tuple",data:=.seq (vs++ws).toArray } })
  (hsz:vs.length+ws.length<=sizeLine):wpAny (model prog w) A (binaryOp .Add (.ref t) (.ref b)) Q E s:=by
 obtain⟨⟨cls,dd,data,sl⟩,ho,hc,n,hd⟩:=id ht;obtain⟨⟨cls2,dd2,data2,sl2⟩,ho2,hc2,n2,hd2⟩:=id hb;simp only at hc hd hc2 hd2;subst hc hd hc2 hd2;have e:vs.toArray++ws.toArray=(vs++ws).toArray:=by simp
 by_cases hw:ws=[]
 ·exact concat_meets ⟨_,ho,rfl⟩ ⟨_,ho2,rfl⟩ noFill_tuple_add seq_tuple_add PySem.F.slot_tuple_add PySem.F.entry_tuple_add (PySem.F.args_tuple_add_2 _ _)
   (tuple_addW1 t b vs.toArray ws.toArray n n2 dd dd2 sl sl2 (by simpa using hv) (by simp[hw])) ⟨ho,ho2,h1 hw⟩
 ·refine concat_meets ⟨_,ho,rfl⟩ ⟨_,ho2,rfl⟩ noFill_tuple_add seq_tuple_add PySem.F.slot_tuple_add PySem.F.entry_tuple_add (PySem.F.args_tuple_add_2 _ _)
   (tuple_addW2 t b vs.toArray ws.toArray n n2 dd dd2 sl sl2 (by simpa using hv) (by simpa using hw) (by rw[List.size_toArray,List.size_toArray];exact hsz)) ⟨ho,ho2,?_⟩
  rw[e];exact h2 hw
def sIx(n d:Nat):Option Int->Nat
 |none=>d
 |some v=>if v<0 then (v+(n:Int)).toNat else min v.toNat n
theorem yji(n d:Nat)(hd:d<=n)(o:Option Int):sIx n d o<=n:=by
 cases o with
 |none=>exact hd
 |some v=>
  show (if v<0 then (v+(n:Int)).toNat else min v.toNat n)<=n;by_cases hv:v<0
  ·rw[if_pos hv];omega
  ·rw[if_neg hv];exact Nat.min_le_right _ _
theorem zvl(v:Int)(n d:Nat):(if v<0 then max (v+(n:Int)) 0 else min v (n:Int))=((sIx n d (some v):Nat):Int):=by
 show (if v<0 then max (v+(n:Int)) 0 else min v (n:Int))=(((if v<0 then (v+(n:Int)).toNat else min v.toNat n):Nat):Int);by_cases hv:v<0
 ·simp only[if_pos hv];omega
 ·simp only[if_neg hv];omega
theorem zhl(lo hi:Option Int)(n:Nat):Builtin.Slice.sliceAdjust lo hi 1 (n:Int)=(((sIx n 0 lo:Nat):Int),((sIx n n hi:Nat):Int)):=by
 have h1:¬ ((1:Int)<0):=by omega
 unfold Builtin.Slice.sliceAdjust;simp only[h1,if_false];refine Prod.ext ?_ ?_
 ·cases lo with
  |none=>rfl
  |some v=>exact zvl v n 0
 ·cases hi with
  |none=>rfl
  |some v=>exact zvl v n n
theorem ziz(i j:Nat):Builtin.Slice.slicePlaces (i:Int) (j:Int) 1=j - i:=by
 unfold Builtin.Slice.slicePlaces;have h1:(1:Int) > 0:=by omega
 simp only[h1,if_true,Int.ediv_one];split<;>omega
theorem zji{v:Value}{o:Option Int}{Q:Option Int->Shared->Prop}(p:IsPart v o)(h:Q o s):wpAny (model prog w) A (Builtin.Slice.slicePartIndex v) Q E s:=by
 cases p with
 |none=>exact slicePart_none h
 |int i t=>exact slicePart_int h
theorem zbv{sl:Addr}{vl vu:Value}{lo hi:Option Int}{n:Nat}{Q:Int × Int × Nat->Shared->Prop}(hs:s.heap.IsSliceOf sl vl vu .none)(pl:IsPart vl lo)(pu:IsPart vu hi)
  (h:Q (((sIx n 0 lo:Nat):Int),1,sIx n n hi - sIx n 0 lo) s):wpAny (model prog w) A (Builtin.Slice.sliceApplied (.ref sl) (pure (n:Int))) Q E s:=by
 obtain⟨os,hos,hcs,hds⟩:=id hs;unfold Builtin.Slice.sliceApplied Builtin.Slice.sliceFields;refine wpAny_bind (wpAny_bind (wpAny_field hos hds (x:=vl) rfl (wpAny_bind (wpAny_field hos hds (x:=vu) rfl (wpAny_bind (wpAny_field hos hds (x:=.none) rfl (wpAny_pure ?_)))))));refine wpAny_bind (slicePart_none ?_);show wpAny _ _ (if ((1:Int) == 0)=true then _ else _) _ _ s;rw[if_neg (by decide)];refine wpAny_bind (zji pl (wpAny_bind (zji pu (wpAny_bind (wpAny_pure ?_)))));show wpAny _ _ (match Builtin.Slice.sliceAdjust lo hi 1 (n:Int)with|(lo,hi)=>pure (lo,(1:Int),Builtin.Slice.slicePlaces lo hi 1)) _ _ s;rw[zhl lo hi n];show wpAny _ _ (pure (((sIx n 0 lo:Nat):Int),(1:Int),Builtin.Slice.slicePlaces ((sIx n 0 lo:Nat):Int) ((sIx n n hi:Nat):Int) 1)) _ _ s;rw[ziz];exact wpAny_pure h
theorem zsg(xs:Array Value)(i k:Nat):((List.range k).filterMap fun(m:Nat)=>xs[((i:Int)+(m:Int) * 1).toNat]?).toArray=((xs.toList.drop i).take k).toArray:=by
 have e:(fun(m:Nat)=>xs[((i:Int)+(m:Int) * 1).toNat]?)=fun m=>xs[i+m]?:=by
  funext m;have:((i:Int)+(m:Int) * 1).toNat=i+m:=by omega
  rw[this]
 rw[e];have:=pick_run xs i k;rw[List.filterMap_map]at this;have e2:((fun x=>xs[x]?) ∘ fun x=>i+x)=fun m=>xs[i+m]?:=rfl;rw[e2]at this;rw[this]
theorem getItem_tuple_cut{t sl:Addr}{items:Array Value}{vl vu:Value}{lo hi:Option Int}{Q:Value->Shared->Prop}(ht:IsTup s.heap t items)(hs:s.heap.IsSliceOf sl vl vu .none)(pl:IsPart vl lo)(pu:IsPart vu hi)
  (hw:¬ (sIx items.size 0 lo=0/\sIx items.size items.size hi=items.size))
  (h:Q (.ref s.heap.objs.size) { s with heap:=s.heap.push { cls:=.type "tuple",data:=.seq ((items.toList.drop (sIx items.size 0 lo)).take (sIx items.size items.size hi - sIx items.size 0 lo)).toArray } })
  (hsz:items.size<=sizeLine):wpAny (model prog w) A (getItem (.ref t) (.ref sl)) Q E s:=by
 have htake:sizeOk (.seq ((items.toList.drop (sIx items.size 0 lo)).take (sIx items.size items.size hi - sIx items.size 0 lo)).toArray):=by
  show ((items.toList.drop (sIx items.size 0 lo)).take (sIx items.size items.size hi - sIx items.size 0 lo)).toArray.size<=sizeLine;rw[List.size_toArray,List.length_take,List.length_drop,Array.length_toList];omega
 have hj:sIx items.size items.size hi<=items.size:=yji _ _ (Nat.le_refl _) hi;obtain⟨os,hos,hcs,hds⟩:=id hs;have hTs:s.TypeIs (.ref sl) "slice":=⟨os,hos,hcs⟩
 unfold getItem;try with_reducible refine wpAny_holding ?_
 first|refine wpAny_bind (wpAny_pure ?_)|skip
 refine wpAny_bind (wpAny_sequenceKey ht.typeIs (by decide) ?_);refine wpAny_bind (wpAny_callSpecial?_slot (name:=Str.ofString "__getitem__") ht.typeIs PyProof.Rows.slot_tuple_getitem
  (wpAny_call_entry PyProof.Rows.slot_tuple_getitem ht.typeIs entry_tuple_getitem ?_ (args_tuple_getitem _ _)))
 show wpAny _ _ (Builtin.Tuple.tupleItemsOf (.ref t) >>= _) _ _ s;refine wpAny_bind (tupleItemsOf_ ht ?_);refine wpAny_bind (wpAny_typeOf hTs ?_);rw[if_pos (by decide)];refine wpAny_bind (zbv hs pl pu ?_);have hno:¬ ((((sIx items.size 0 lo:Nat):Int) == 0 && (1:Int) == 1 && (sIx items.size items.size hi - sIx items.size 0 lo) == items.size)=true):=by
  intro q;rw[Bool.and_eq_true,Bool.and_eq_true]at q;have q1:((sIx items.size 0 lo:Nat):Int)=0:=eq_of_beq q.1.1;have q2:sIx items.size items.size hi - sIx items.size 0 lo=items.size:=eq_of_beq q.2;exact hw ⟨by omega,by omega⟩
 show wpAny _ _ (if (((sIx items.size 0 lo:Nat):Int) == 0 && (1:Int) == 1 && (sIx items.size items.size hi - sIx items.size 0 lo) == items.size)=true then _ else _) _ _ s;rw[if_neg hno,zsg];first
  |exact wpAny_bind (m:=Builtin.Tuple.tupleExact _) (wpAny_newObj_type (wpAny_pure ⟨_,rfl,wpAny_pure h⟩) htake)
  |exact wpAny_bind (m:=Builtin.Tuple.tupleExact _) (wpAny_newObj_type (wpAny_bind (wpAny_pure (wpAny_pure ⟨_,rfl,wpAny_pure h⟩))) htake)
  |exact wpAny_bind (wpAny_bind (m:=Builtin.Tuple.tupleExact _) (wpAny_newObj_type (wpAny_pure (wpAny_pure ⟨_,rfl,wpAny_pure h⟩)) htake))
  |exact wpAny_bind (wpAny_bind (m:=Builtin.Tuple.tupleExact _) (wpAny_newObj_type (wpAny_pure ⟨_,rfl,wpAny_pure h⟩) htake))
end
end HT
namespace L2
open PySem PySem.Spec PyProof.Rows
abbrev TO:=St->Hp->(Option Int->Hp->Prop)->Prop
def PO(X:Cx)(e:Option Expr)(t:TO):Prop:=
 ∀ (pins:List (Addr × Obj)) (s:Shared) (σ:St) (H:Hp) (Q:Option Int->Hp->Prop),Inv X pins σ H s->t σ H Q->
  wpAny (model X.prog X.w) X.A (evalPart e X.env) (fun u s'=>∃ o H',Inv X pins σ H' s'/\IsPart u o/\Q o H') X.xe s
def yc1:TO:=fun _ H Q=>Q none H
def ypp(t:TE):TO:=fun σ H Q=>t σ H fun x H1=>∃ i,x=.int i/\Q (some i) H1
theorem zib{ns:List Int}:∀ {us:List Value},yqx (ns.map V.int) us->IntsAre us ns:=by
 induction ns with
 |nil=>intro us r;rw[List.map_nil]at r;cases r;exact .nil
 |cons n ns ih=>
  intro us r;rw[List.map_cons]at r;cases r with
  |cons r1 r2=>
   obtain⟨t,e⟩:=r1;subst e;exact .cons n t (ih r2)
section
variable{X:Cx}{e:Expr}{te:TE}{lo hi:Option Expr}{tl th:TO}{pos p2:Pos}
theorem yaq:PO X none yc1:=by
 intro pins s σ H Q I h;rw[evalPart_none];exact wpAny_pure ⟨none,H,I,.none,h⟩
theorem yar(h:PE X e te):PO X (some e) (ypp te):=by
 intro pins s σ H Q I hw;rw[evalPart_some];refine thn (h pins s σ H _ I hw) fun u s1 ⟨x,H1,I1,r1,q1⟩=>?_;obtain⟨i,rfl,q⟩:=q1;obtain⟨t,rfl⟩:=r1;exact⟨some i,H1,I1,.int i t,q⟩
def SlR(X:Cx)(r:V->Option Int->Option Int->Hp->VK->Prop):Prop:=
 ∀ (pins:List (Addr × Obj)) (s:Shared) (σ:St) (H:Hp) (x:V) (v vl vu:Value) (lo hi:Option Int) (sl:Addr) (Q:VK),Inv X pins σ H s->yqp x v->s.heap.IsSliceOf sl vl vu .none->IsPart vl lo->IsPart vu hi->r x lo hi H Q->
  ∃ T id,typeLookup (.type T) "__getitem__" = pure (some (.builtin id))/\s.TypeIs v T/\wpAny (model X.prog X.w) X.A (getItem v (.ref sl)) (EP X pins σ Q) X.xe s
theorem SlR.or{r r':V->Option Int->Option Int->Hp->VK->Prop}(h:SlR X r)(h':SlR X r'):SlR X (fun x lo hi H Q=>r x lo hi H Q\/r' x lo hi H Q):=by
 intro pins s σ H x v vl vu lo hi sl Q I rx hs pl pu q;rcases q with q|q
 ·exact h pins s σ H x v vl vu lo hi sl Q I rx hs pl pu q
 ·exact h' pins s σ H x v vl vu lo hi sl Q I rx hs pl pu q
def tSl(r:V->Option Int->Option Int->Hp->VK->Prop)(te:TE)(tl th:TO):TE:=fun σ H Q=>te σ H fun x H1=>tl σ H1 fun l H2=>th σ H2 fun u H3=>r x l u H3 Q
theorem zse{r:V->Option Int->Option Int->Hp->VK->Prop}(hr:SlR X r)(he:PE X e te)(hl:PO X lo tl)(hu:PO X hi th):PE X (.Subscript e (.Slice lo hi none p2) pos) (tSl r te tl th):=by
 intro pins s σ H Q I h;refine Subscript_ (thn (he pins s σ H _ I h) fun v s1 ⟨x,H1,I1,r1,q1⟩=>?_);refine wpAny_Slice (thn (hl pins s1 σ H1 _ I1 q1) fun vl s2 ⟨l,H2,I2,pl,q2⟩=>thn (hu pins s2 σ H2 _ I2 q2) fun vu s3 ⟨u,H3,I3,pu,q3⟩=>?_);rw[evalPart_none];refine wpAny_pure ?_;have I4:Inv X pins σ H3 { s3 with heap:=s3.heap.push { cls:=.type "slice",data:=.fields #[vl,vu,.none] } }:=I3.kept (t':=s3.toks) fun b ob q=>Heap.get?_push_of_some _ q;obtain⟨T,id,hT,ht,hg⟩:=hr pins { s3 with heap:=s3.heap.push { cls:=.type "slice",data:=.fields #[vl,vu,.none] } } σ H3 x v vl vu l u s3.heap.objs.size Q I4 r1 (Heap.IsSliceOf.new ..) pl pu q3;show wpAny (model X.prog X.w) X.A (subscriptTail e (.Slice lo hi none p2) v (.ref s3.heap.objs.size)) (EP X pins σ Q) X.xe { s3 with heap:=s3.heap.push { cls:=.type "slice",data:=.fields #[vl,vu,.none] } };exact tail_any (ops:=[.ref s3.heap.objs.size,v]) ht hT hg (by with_unfolding_all rfl)
def yrg(xs:List V)(lo hi:Option Int):List V:=(xs.drop (HT.sIx xs.length 0 lo)).take (HT.sIx xs.length xs.length hi - HT.sIx xs.length 0 lo)
theorem zf2(xs:List V)(lo hi:Option Int):(yrg xs lo hi).length<=xs.length:=by
 unfold yrg;rw[List.length_take,List.length_drop];omega
def yt9(K:PySem.W.Frag):V->Option Int->Option Int->Hp->VK->Prop:=fun x lo hi H Q=>∃ a xs,x=.ref a/\SqT K H a xs/\
 ¬ (HT.sIx xs.length 0 lo=0/\HT.sIx xs.length xs.length hi=xs.length)/\∀ p,H p=none->Q (.ref p) (upd H p (.tup (yrg xs lo hi)))
theorem yjp:SlR X (yt9 X.K):=by
 intro pins s σ H x v vl vu lo hi sl Q I rx hs pl pu h;obtain⟨a,xs,rfl,hx,hw,q⟩:=h;cases rx;obtain⟨its,r,ht,hz⟩:=I.tuple hx;have hlen:its.toArray.size=xs.length:=by rw[List.size_toArray];exact r.length.symm
 refine⟨"tuple",_,PyProof.Rows.slot_tuple_getitem.lookup,ht.typeIs,?_⟩;refine HT.getItem_tuple_cut ht hs pl pu (by rw[hlen];exact hw) ?_ (by rw[hlen];exact hz);rw[hlen];refine⟨.ref s.heap.objs.size,_,I.laid (t':=s.toks) (o:=.tup (yrg xs lo hi)) (fun b ob q=>Heap.get?_push_of_some _ q) (Nat.le_refl _) ?_,rfl,q _ (I.hok.fresh (Nat.le_refl _))⟩;exact⟨Nat.le_trans (zf2 xs lo hi) hz,_,(r.drop (HT.sIx xs.length 0 lo)).take (HT.sIx xs.length xs.length hi - HT.sIx xs.length 0 lo),IsTup.new _ _⟩
def yop(K:PySem.W.Frag):R2:=fun x y H Q=>∃ a b xs ys,x=.ref a/\y=.ref b/\SqT K H a xs/\SqT K H b ys/\xs≠[]/\xs.length+ys.length<=sizeLine/\
 (ys=[]->Q (.ref a) H)/\(ys≠[]->∀ p,H p=none->Q (.ref p) (upd H p (.tup (xs++ys))))
theorem yqx.nil_iff{xs:List V}{us:List Value}(r:yqx xs us):us=[] ↔ xs=[]:=by
 cases r with
 |nil=>simp
 |cons _ _=>simp
theorem yab:OpR X (binaryOp .Add) (yop X.K):=by
 intro pins s σ H x y v u Q I rx ry h;obtain⟨a,b,xs,ys,rfl,rfl,ha,hb,hx,hz,q1,q2⟩:=h;cases rx;cases ry;obtain⟨its,r1,p1,_⟩:=I.tuple ha;obtain⟨its2,r2,p2,_⟩:=I.tuple hb;refine HT.cat_tup p1 p2 (fun z=>hx (r1.nil_iff.mp z)) (fun z=>⟨.ref a,H,I,rfl,q1 (r2.nil_iff.mp z)⟩) (fun z=>?_) (by rw[<-r1.length,<-r2.length];exact hz);refine⟨.ref s.heap.objs.size,_,I.laid (t':=s.toks) (o:=.tup (xs++ys)) (fun b ob q=>Heap.get?_push_of_some _ q) (Nat.le_refl _) ?_,rfl,q2 (fun w=>z (r2.nil_iff.mpr w)) _ (I.hok.fresh (Nat.le_refl _))⟩;exact⟨by rw[List.length_append];exact hz,_,r1.append r2,IsTup.new _ _⟩
end
end L2
namespace L2
open PySem PySem.Spec PyProof.Rows
def ixN(n:Nat)(i:Int):Option Nat:=if 0<=i then (if i<n then some i.toNat else none)else if -(n:Int)<=i then some (i+n).toNat else none
def atI{α:Type}(xs:List α)(i:Int):Option α:=(ixN xs.length i).bind fun j=>xs[j]?
theorem zx1{n:Nat}{i:Int}{j:Nat}(h:ixN n i=some j):seqIndex? i n=some j/\j<n/\-(n:Int)<=i/\i<n:=by
 unfold ixN at h;by_cases h0:0<=i
 ·rw[if_pos h0]at h;by_cases h1:i<n
  ·rw[if_pos h1]at h;have e:i.toNat=j:=Option.some.inj h;exact⟨by rw[seqIndex_of h0 h1,e],by omega,by omega,h1⟩
  ·rw[if_neg h1]at h;cases h
 ·rw[if_neg h0]at h;by_cases h1:-(n:Int)<=i
  ·rw[if_pos h1]at h;have e:(i+n).toNat=j:=Option.some.inj h;exact⟨by rw[seqIndex_neg (by omega) h1,e],by omega,h1,by omega⟩
  ·rw[if_neg h1]at h;cases h
theorem zu1{α:Type}{xs:List α}{i:Int}{v:α}(h:atI xs i=some v):∃ j,seqIndex? i xs.length=some j/\xs[j]?=some v/\j<xs.length/\-(xs.length:Int)<=i/\i<xs.length:=by
 unfold atI at h;cases e:ixN xs.length i with
 |none=>rw[e]at h;cases h
 |some j=>
  rw[e]at h;obtain⟨h1,h2,h3,h4⟩:=zx1 e;exact⟨j,h1,h,h2,h3,h4⟩
theorem zu2{α:Type}{xs:List α}{j:Nat}{v:α}(h:xs[j]?=some v):atI xs (j:Int)=some v:=by
 have hj:j<xs.length:=(List.getElem?_eq_some_iff.mp h).1;have e:ixN xs.length (j:Int)=some j:=by
  unfold ixN;rw[if_pos (by omega),if_pos (by omega)];simp
 unfold atI;rw[e];exact h
def zup(b:Expr):Prop:=∀ o i,subscripted b false o i=operate [o,i] (getItem o i)
def IxR(X:Cx)(r:R2):Prop:=
 ∀ (value slice:Expr) (pins:List (Addr × Obj)) (s:Shared) (σ:St) (H:Hp) (x y:V) (v u:Value) (Q:VK),Inv X pins σ H s->yqp x v->yqp y u->r x y H Q->
  subscripted slice false v u=operate [v,u] (getItem v u)->wpAny (model X.prog X.w) X.A (subscriptTail value slice v u) (EP X pins σ Q) X.xe s
def MtR(X:Cx)(id:String)(r:V->List V->Hp->VK->Prop):Prop:=
 ∀ (pins:List (Addr × Obj)) (s:Shared) (σ:St) (H:Hp) (x:V) (xs:List V) (v:Value) (us:List Value) (Q:VK),Inv X pins σ H s->yqp x v->yqx xs us->r x xs H Q->
  wpAny (model X.prog X.w) X.A (call (.builtin id) (v::us)) (EP X pins σ Q) X.xe s
section
variable{X:Cx}{a b:Expr}{ta tb:TE}{pos:Pos}
theorem IxR.or{r r':R2}(h:IxR X r)(h':IxR X r'):IxR X (fun x y H Q=>r x y H Q\/r' x y H Q):=by
 intro value slice pins s σ H x y v u Q I rx ry q hs;rcases q with q|q
 ·exact h value slice pins s σ H x y v u Q I rx ry q hs
 ·exact h' value slice pins s σ H x y v u Q I rx ry q hs
theorem MtR.or{id:String}{r r':V->List V->Hp->VK->Prop}(h:MtR X id r)(h':MtR X id r'):MtR X id (fun x xs H Q=>r x xs H Q\/r' x xs H Q):=by
 intro pins s σ H x xs v us Q I rx rs q;rcases q with q|q
 ·exact h pins s σ H x xs v us Q I rx rs q
 ·exact h' pins s σ H x xs v us Q I rx rs q
theorem yof{r:R2}(hr:IxR X r)(ha:PE X a ta)(hb:PE X b tb)(hs:zup b):PE X (.Subscript a b pos) (tOp r ta tb):=by
 intro pins s σ H Q I h;exact Subscript_ (yq6 ha hb I h fun v u s2 x y H2 I2 rx ry q=>hr a b pins s2 σ H2 x y v u Q I2 rx ry q (hs _ _))
def yt1(K:PySem.W.Frag):R2:=fun x y H Q=>∃ p xs i v,x=.ref p/\y=.int i/\SqL K H p xs/\atI xs i=some v/\Q v H
def yt2(K:PySem.W.Frag):R2:=fun x y H Q=>∃ p xs i v,x=.ref p/\y=.int i/\SqT K H p xs/\atI xs i=some v/\Q v H
theorem zx4:IxR X (yt1 X.K):=by
 intro value slice pins s σ H x y v u Q I rx ry h hs;obtain⟨p,xs,i,z,rfl,rfl,hq,he,q⟩:=h;cases rx;obtain⟨t,rfl⟩:=ry;obtain⟨its,r,pl,hz⟩:=I.list hq;obtain⟨j,h1,h2,h3,h4,h5⟩:=zu1 he;obtain⟨w,ew,rw'⟩:=r.get h2;have hl:=r.length;have hn:=yg1;have fin:EP X pins σ Q w s:=⟨z,H,I,rw',q⟩
 by_cases h0:0<=i
 ·have hj:i.toNat=j:=by
   rw[seqIndex_of h0 h5]at h1;exact Option.some.inj h1
  exact item_listR pl.isList h0 (by omega) (by rw[hj];simpa using ew) fin hs
 ·have hj:(i+(its.toArray.size:Int)).toNat=j:=by
   rw[seqIndex_neg (by omega) h4]at h1;rw[List.size_toArray,<-hl];exact Option.some.inj h1
  exact subscriptTail_builtinR (x:=w) pl.isList.typeIs slot_list_getitem.lookup
   (wpAny_getItem_list_neg (Q:=fun r s'=>r=w/\EP X pins σ Q r s') pl.isList (by omega) (by rw[List.size_toArray]<;>omega) (by omega) (by rw[hj];simpa using ew) ⟨rfl,fin⟩) hs
theorem ygj:IxR X (yt2 X.K):=by
 intro value slice pins s σ H x y v u Q I rx ry h hs;obtain⟨p,xs,i,z,rfl,rfl,hq,he,q⟩:=h;cases rx;obtain⟨t,rfl⟩:=ry;obtain⟨its,r,pl,hz⟩:=I.tuple hq;obtain⟨j,h1,h2,h3,h4,h5⟩:=zu1 he;obtain⟨w,ew,rw'⟩:=r.get h2;have hl:=r.length;have hn:=yg1;have fin:EP X pins σ Q w s:=⟨z,H,I,rw',q⟩
 exact subscriptTail_builtinR (x:=w) pl.typeIs slot_tuple_getitem.lookup
  (getItem_tuple (j:=j) (Q:=fun r s'=>r=w/\EP X pins σ Q r s') pl (by omega) (by omega) (by rw[List.size_toArray,<-hl];exact h1) (by simpa using ew) ⟨rfl,fin⟩) hs
theorem zim(its:List Value)(n j:Nat)(u:Value):Obj.mapSeq (·.setIfInBounds j u) { cls:=.type "list",data:=.seq its.toArray n }={ cls:=.type "list",data:=.seq (its.set j u).toArray n }:=by
 simp[Obj.mapSeq]
theorem Inv.lst{pins:List (Addr × Obj)}{σ:St}{H:Hp}{s:Shared}{p:Addr}{xs:List V}(I:Inv X pins σ H s)(h:H p=some (.lst xs)) :
  ∃ (its:List Value) (n:Nat),yqx xs its/\s.heap.get? p=some { cls:=.type "list",data:=.seq its.toArray n }/\xs.length<=sizeLine:=by
 obtain⟨z,its,n,r,e⟩:=I.hok p _ h;exact⟨its,n,r,e,z⟩
theorem Inv.lstUpd{pins:List (Addr × Obj)}{σ:St}{H:Hp}{s:Shared}{p:Addr}{xs ys:List V}{its its':List Value}{n n':Nat}{f:Obj->Obj}(I:Inv X pins σ H s)(h:H p=some (.lst xs))
  (ho:s.heap.get? p=some { cls:=.type "list",data:=.seq its.toArray n }) (hf:f { cls:=.type "list",data:=.seq its.toArray n }={ cls:=.type "list",data:=.seq its'.toArray n' }) (r:yqx ys its') (hz:ys.length<=sizeLine) (t:Nat) :
  Inv X pins σ (upd H p (.lst ys)) { s with heap:=s.heap.update p f,toks:=t }:=by
 have e:(s.heap.update p f).get? p=some { cls:=.type "list",data:=.seq its'.toArray n' }:=by
  rw[Heap.get?_update_self f ho (by rw[hf]<;>rfl),hf]
 refine I.write (x:=p) (e:=p) (by rw[h];trivial) (.inl rfl) (fun b u hb q=>(Heap.get?_update_other _ _ (Ne.symm hb)).trans q) ⟨_,e⟩ ?_;exact⟨hz,its',n',r,e⟩
def yor:V->V->V->Hp->(Hp->Prop)->Prop:=fun o i v H Q=>∃ p xs k j,o=.ref p/\i=.int k/\H p=some (.lst xs)/\ixN xs.length k=some j/\Q (upd H p (.lst (xs.set j v)))
theorem ztl:yqj X yor:=by
 intro pins s σ H o i v ov iv u Q I ro ri rv h;obtain⟨p,xs,k,j,rfl,rfl,hp,hj,q⟩:=h;cases ro;obtain⟨t,rfl⟩:=ri;obtain⟨its,n,r,ho,hz⟩:=I.lst hp;obtain⟨h1,h2,h3,h4⟩:=zx1 hj;have hl:=r.length;have hn:=yg1;have I':Inv X pins σ (upd H p (.lst (xs.set j v))) { s with heap:=s.heap.update p (Obj.mapSeq (·.setIfInBounds j u)) }:=
  I.lstUpd hp ho (zim its n j u) (r.set rv j) (by rw[List.length_set];exact hz) s.toks
 by_cases h0:0<=k
 ·have hk:k.toNat=j:=by
   rw[seqIndex_of h0 h4]at h1;exact Option.some.inj h1
  exact PySem.W.ki_setAt ho h0 (by omega) (by rw[List.size_toArray,<-hl];exact h4) (by rw[hk];exact⟨_,I',q⟩)
 ·have hk:(k+(its.toArray.size:Int)).toNat=j:=by
   rw[seqIndex_neg (by omega) h3]at h1;rw[List.size_toArray,<-hl];exact Option.some.inj h1
  exact PySem.W.ki_setBack ho (by omega) (by rw[List.size_toArray,<-hl];exact h3) (by omega) (by rw[hk];exact⟨_,I',q⟩)
theorem zfr(lo hi:Option Int)(n:Nat):(sliceBounds lo hi none n).1=((HT.sIx n 0 lo:Nat):Int)/\(sliceBounds lo hi none n).2.1=((HT.sIx n n hi:Nat):Int)/\(sliceBounds lo hi none n).2.2=1:=by
 refine⟨?_,?_,rfl⟩
 ·cases lo with
  |none=>simp[sliceBounds,HT.sIx]
  |some i=>
   simp only[sliceBounds,HT.sIx,Option.getD_none,show (1:Int) > 0 by decide,if_true];by_cases h:i<0
   ·simp only[h,if_true]<;>omega
   ·simp only[h,if_false]<;>omega
 ·cases hi with
  |none=>simp[sliceBounds,HT.sIx]
  |some i=>
   simp only[sliceBounds,HT.sIx,Option.getD_none,show (1:Int) > 0 by decide,if_true];by_cases h:i<0
   ·simp only[h,if_true]<;>omega
   ·simp only[h,if_false]<;>omega
theorem zd5(its:List Value)(lo hi:Option Int):slicePick its.toArray lo hi none=((its.drop (HT.sIx its.length 0 lo)).take (HT.sIx its.length its.length hi - HT.sIx its.length 0 lo)).toArray:=by
 obtain⟨h1,h2,h3⟩:=zfr lo hi its.toArray.size;unfold slicePick;rw[h1,h2,h3];simp only[sliceRange_one,pick_run,List.size_toArray]<;>rfl
def yt8(K:PySem.W.Frag):V->Option Int->Option Int->Hp->VK->Prop:=fun x lo hi H Q=>∃ a xs,x=.ref a/\SqL K H a xs/\∀ p,H p=none->Q (.ref p) (upd H p (.lst (yrg xs lo hi)))
theorem yb7:SlR X (yt8 X.K):=by
 intro pins s σ H x v vl vu lo hi sl Q I rx hs pl pu h;obtain⟨a,xs,rfl,hx,q⟩:=h;cases rx;obtain⟨its,r,ht,hz⟩:=I.list hx;have hlen:=r.length;refine⟨"list",_,slot_list_getitem.lookup,ht.isList.typeIs,?_⟩;refine wpAny_getItem_list_slice ht.isList hs pl pu .none (by simp) ?_ (by rw[List.size_toArray]<;>omega);rw[zd5,<-hlen];refine⟨.ref s.heap.objs.size,_,I.laid (t':=s.toks) (o:=.lst (yrg xs lo hi)) (fun b ob q=>Heap.get?_push_of_some _ q) (Nat.le_refl _) ?_,rfl,q _ (I.hok.fresh (Nat.le_refl _))⟩;exact⟨Nat.le_trans (zf2 xs lo hi) hz,_,0,(r.drop (HT.sIx xs.length 0 lo)).take (HT.sIx xs.length xs.length hi - HT.sIx xs.length 0 lo),Heap.get?_push_size _ rfl⟩
def ymc:V->Bool
 | .non=>true
 | .bl _=>true
 | .int _=>true
 | .str _=>true
 |_=>false
def eqV:V->V->Bool
 | .non,.non=>true
 | .bl a,.bl b=>a == b
 | .bl a,.int b=>(if a then 1 else 0) == b
 | .int a,.bl b=>a == (if b then 1 else 0)
 | .int a,.int b=>a == b
 | .str a,.str b=>a == b
 |_,_=>false
theorem yex{A:Around}{s:Shared}{y x:V}{u v:Value}(ry:yqp y u)(rx:yqp x v)(fy:ymc y=true)(fx:ymc x=true):SeqAt.EqAt A s u v (eqV y x):=by
 cases y with
 |non=>
  cases ry;cases x with
  |non=>cases rx;exact SeqAt.EqAt.same _
  |bl b=>cases rx;exact SeqAt.EqAt.none_bool b
  |int b=>obtain⟨t,rfl⟩:=rx;exact SeqAt.EqAt.none_int b t
  |str b=>obtain⟨t,rfl⟩:=rx;exact SeqAt.EqAt.none_str b t
  |_=>exact absurd (show false=true from fx) Bool.false_ne_true
 |bl a=>
  cases ry;cases x with
  |non=>cases rx;exact SeqAt.EqAt.bool_none a
  |bl b=>cases rx;exact SeqAt.EqAt.bool_bool a b
  |int b=>obtain⟨t,rfl⟩:=rx;exact SeqAt.EqAt.bool_int a b t
  |str b=>obtain⟨t,rfl⟩:=rx;exact SeqAt.EqAt.bool_str a b t
  |_=>exact absurd (show false=true from fx) Bool.false_ne_true
 |int a=>
  obtain⟨t',rfl⟩:=ry;cases x with
  |non=>cases rx;exact SeqAt.EqAt.int_none a t'
  |bl b=>cases rx;exact SeqAt.EqAt.int_bool a t' b
  |int b=>obtain⟨t,rfl⟩:=rx;exact SeqAt.EqAt.int_int a t' b t
  |str b=>obtain⟨t,rfl⟩:=rx;exact SeqAt.EqAt.int_str a t' b t
  |_=>exact absurd (show false=true from fx) Bool.false_ne_true
 |str a=>
  obtain⟨t',rfl⟩:=ry;cases x with
  |non=>cases rx;exact SeqAt.EqAt.str_none a t'
  |bl b=>cases rx;exact SeqAt.EqAt.str_bool a t' b
  |int b=>obtain⟨t,rfl⟩:=rx;exact SeqAt.EqAt.str_int a t' b t
  |str b=>obtain⟨t,rfl⟩:=rx;exact SeqAt.EqAt.str_str a t' b t
  |_=>exact absurd (show false=true from fx) Bool.false_ne_true
 |_=>exact absurd (show false=true from fy) Bool.false_ne_true
def eqU(x:V)(u:Value):Bool:=match u with
 | .none=>eqV .non x
 | .bool b=>eqV (.bl b) x
 | .int i _=>eqV (.int i) x
 | .str z _=>eqV (.str z) x
 |_=>false
theorem ye3{x y:V}{u:Value}(r:yqp y u)(f:ymc y=true):eqU x u=eqV y x:=by
 cases y with
 |non=>cases r;rfl
 |bl b=>cases r;rfl
 |int i=>obtain⟨t,rfl⟩:=r;rfl
 |str z=>obtain⟨t,rfl⟩:=r;rfl
 |_=>exact absurd (show false=true from f) Bool.false_ne_true
theorem zux{x:V}:∀ {xs:List V} {us:List Value},yqx xs us->xs.all ymc=true->us.any (eqU x)=xs.any fun y=>eqV y x
 |_,_,.nil,_=>rfl
 |y::xs,u::us,.cons r t,f=>by
  rw[List.all_cons,Bool.and_eq_true]at f;rw[List.any_cons,List.any_cons,ye3 r f.1,zux t f.2]
theorem zrc{A:Around}{s:Shared}{x:V}{v:Value}(rx:yqp x v)(fx:ymc x=true):∀ {xs:List V} {us:List Value},yqx xs us->xs.all ymc=true->∀ u∈us,SeqAt.EqAt A s u v (eqU x u)
 |_,_,.nil,_=>fun u hu=>by cases hu
 |y::xs,u::us,.cons r t,f=>fun u' hu=>by
  rw[List.all_cons,Bool.and_eq_true]at f;rcases List.mem_cons.mp hu with rfl|hu
  ·rw[ye3 r f.1];exact yex r rx f.1 fx
  ·exact zrc rx fx t f.2 u' hu
def inV(x:V)(xs:List V):Bool:=xs.any fun y=>eqV y x
def rIn(K:PySem.W.Frag)(neg:Bool):R2:=fun x y H Q=>∃ p xs,y=.ref p/\(SqL K H p xs\/SqT K H p xs)/\ymc x=true/\xs.all ymc=true/\Q (.bl (if neg then !inV x xs else inV x xs)) H
theorem ze6:OpR X (compareOp .NotIn) (rIn X.K true):=by
 intro pins s σ H x y v u Q I rx ry h;obtain⟨p,xs,rfl,hq,fx,fs,q⟩:=h;cases ry;rcases hq with hq|hq
 ·obtain⟨its,r,pl,hz⟩:=I.list hq;refine SeqAt.notIn_listAt (eqU x) pl.isList (fun w hw=>zrc rx fx r fs w (by simpa using hw)) ⟨.bl _,H,I,rfl,?_⟩;rw[show its.toArray.any (eqU x)=its.any (eqU x) by simp,zux r fs];exact q
 ·obtain⟨its,r,pl,hz⟩:=I.tuple hq;refine SeqAt.notIn_tupleAt (eqU x) pl (fun w hw=>zrc rx fx r fs w (by simpa using hw)) ⟨.bl _,H,I,rfl,?_⟩;rw[show its.toArray.any (eqU x)=its.any (eqU x) by simp,zux r fs];exact q
theorem zeh:ykp X (.builtin "len") (fun xs H Q=>∃ p ys,xs=[.ref p]/\(SqL X.K H p ys\/SqT X.K H p ys)/\Q (.int ys.length) H):=by
 intro pins s σ H xs us Q I r h;obtain⟨p,ys,rfl,hq,q⟩:=h;obtain⟨u,rfl,rx⟩:=ypx r;cases rx;have hn:=yg1;rcases hq with hq|hq
 ·obtain⟨its,r',pl,hz⟩:=I.list hq;have hlen:=r'.length;exact Calls.call_len_list pl.isList (by simp only[List.size_toArray]<;>omega) ⟨.int ys.length,H,I.tok _,⟨s.toks+1,by rw[List.size_toArray,hlen]⟩,q⟩
 ·obtain⟨its,r',pl,hz⟩:=I.tuple hq;have hlen:=r'.length;exact len_tuple pl (by simp only[List.size_toArray]<;>omega) ⟨.int ys.length,H,I.tok _,⟨s.toks+1,by rw[List.size_toArray,hlen]⟩,q⟩
theorem ykp.or{f:Value}{r r':List V->Hp->VK->Prop}(h:ykp X f r)(h':ykp X f r'):ykp X f (fun xs H Q=>r xs H Q\/r' xs H Q):=by
 intro pins s σ H xs us Q I rs q;rcases q with q|q
 ·exact h pins s σ H xs us Q I rs q
 ·exact h' pins s σ H xs us Q I rs q
theorem zei:ykp X (.type "list") (fun xs H Q=>∃ p ys,xs=[.ref p]/\(SqL X.K H p ys\/SqT X.K H p ys)/\∀ l,H l=none->Q (.ref l) (upd H l (.lst ys))):=by
 intro pins s σ H xs us Q I r h;obtain⟨p,ys,rfl,hq,q⟩:=h;obtain⟨u,rfl,rx⟩:=ypx r;cases rx;have fin:∀ (its:List Value),yqx ys its->ys.length<=sizeLine->∀ (h':Heap) (c':Nat),(∀ b o',s.heap.get? b=some o'->h'.get? b=some o')->
   h'.get? s.heap.objs.size=some { cls:=.type "list",dict:=none,data:=.seq its.toArray c',slots:=#[] }->EP X pins σ Q (.ref s.heap.objs.size) { s with heap:=h' }:=fun its r' hz h' c' kp e=>
  ⟨.ref s.heap.objs.size,_,I.laid (t':=s.toks) kp (Nat.le_refl _) (show ykv X.prog X.w _ h' _ (.lst ys)from⟨hz,its,c',r',e⟩),rfl,q _ (I.hok.fresh (Nat.le_refl _))⟩
 rcases hq with hq|hq
 ·obtain⟨its,r',pl,hz⟩:=I.list hq;have hlen:=r'.length;obtain⟨o,ho,hc,n,hd⟩:=pl.isList;exact call_list_seq p (.inl rfl) ho hc hd (fun h' c' kp e=>fin its r' hz h' c' kp e) (by simp only[List.size_toArray]<;>omega)
 ·obtain⟨its,r',pl,hz⟩:=I.tuple hq;have hlen:=r'.length;obtain⟨o,ho,hc,n,hd⟩:=pl;exact call_list_seq p (.inr rfl) ho hc hd (fun h' c' kp e=>fin its r' hz h' c' kp e) (by simp only[List.size_toArray]<;>omega)
def tyV(K:PySem.W.Frag)(T:String)(x:V)(H:Hp):Prop:=match x with
 | .str _=>T = "str"
 | .int _=>T = "int"
 | .ref p=>(T = "list"/\∃ xs,SqL K H p xs)\/(T = "tuple"/\∃ o,K.lookup p=some o/\o.cls=.type "tuple"/\o.dict=none)\/
   (T = "dict"/\((∃ kvs,H p=some (.dK kvs))\/∃ kvs,H p=some (.dT kvs)))\/(T = "set"/\∃ S n,H p=some (.set S n))
 |_=>False
theorem ykj{pins:List (Addr × Obj)}{σ:St}{H:Hp}{s:Shared}{T:String}{x:V}{v:Value}(I:Inv X pins σ H s)(r:yqp x v)(ty:tyV X.K T x H) :
  s.TypeIs v T/\∀ a,v=.ref a->∃ ob,s.heap.get? a=some ob/\ob.dict=none:=by
 cases x with
 |str z=>
  obtain⟨t,rfl⟩:=r;cases (show T = "str" from ty);exact⟨typeIs_str s z t,fun _ e=>nomatch e⟩
 |int i=>
  obtain⟨t,rfl⟩:=r;cases (show T = "int" from ty);exact⟨typeIs_int s i t,fun _ e=>nomatch e⟩
 |ref p=>
  cases r;rcases ty with⟨rfl,xs,hq⟩|⟨rfl,o,hk,hc,hd⟩|⟨rfl,hk⟩|⟨rfl,S,n,hk⟩
  ·obtain⟨its,_,pl,_⟩:=I.list hq;refine⟨pl.isList.typeIs,fun a e=>?_⟩;cases e;obtain⟨o,n,e,c,hd,_⟩:=pl;exact⟨o,e,hd⟩
  ·refine⟨⟨o,I.kIn p o hk,hc⟩,fun a e=>?_⟩;cases e;exact⟨o,I.kIn _ o hk,hd⟩
  ·have z:∃ o,s.heap.get? p=some o/\o.ExactDict:=by
    rcases hk with⟨kvs,hk⟩|⟨kvs,hk⟩
    ·obtain⟨_,_,_,_,o,_,_,e,ex,_⟩:=I.hok p _ hk;exact⟨o,e,ex⟩
    ·obtain⟨_,_,_,_,o,_,_,e,ex,_⟩:=I.hok p _ hk;exact⟨o,e,ex⟩
   obtain⟨o,e,ex⟩:=z;refine⟨⟨o,e,ex.1⟩,fun a e2=>?_⟩;cases e2;exact⟨o,e,ex.2.1⟩
  ·obtain⟨o,_,_,_,e,ex,_⟩:=I.hok p _ hk;refine⟨⟨o,e,ex.1⟩,fun a e2=>?_⟩;cases e2;exact⟨o,e,ex.2.1⟩
 |_=>exact False.elim ty
def yu7(K:PySem.W.Frag)(T:String)(r:V->List V->Hp->VK->Prop)(to:TE):TE:=fun σ H Q=>to σ H fun x H1=>tyV K T x H1/\r x [] H1 Q
def tBM(K:PySem.W.Frag)(T:String)(r:V->List V->Hp->VK->Prop)(to:TE)(t:TA):TE:=fun σ H Q=>to σ H fun x H1=>tyV K T x H1/\t σ H1 fun xs H2=>r x xs H2 Q
variable{o e:Expr}{es:List Expr}{to:TE}{t:TA}{name:Str}{apos cpos:Pos}{T id:String}{r:V->List V->Hp->VK->Prop}
theorem yin(pa:PlainAttrs T)(slot:Slot T name id)(hty:typeOf (.builtin id)=pure (.type "method_descriptor"))(hm:MtR X id r)(ho:PE X o to)
  (hbase:attributeBase o name X.env (eval o X.env)=eval o X.env:=by rfl) (hline:(apos.endLine == cpos.line)=true:=by rfl):PE X (.Call (.Attribute o name apos) [] [] cpos) (yu7 X.K T r to):=by
 intro pins s σ H Q I h;refine wpAny_Call_method0_late hbase hline (thn (ho pins s σ H _ I h) fun v s1 ⟨x,H1,I1,r1,ty,q1⟩=>?_);obtain⟨h1,h2⟩:=ykj I1 r1 ty;exact⟨T,id,pa,slot,hty,h1,h2,Calls.callWith_builtin rfl (PySem.evalArgs_none (hm pins s1 σ H1 x [] v [] Q I1 r1 .nil q1))⟩
theorem yoe(pa:PlainAttrs T)(slot:Slot T name id)(hty:typeOf (.builtin id)=pure (.type "method_descriptor"))(hm:MtR X id r)(ho:PE X o to)(ha:PA X (e::es) t)
  (hbase:attributeBase o name X.env (eval o X.env)=eval o X.env:=by rfl)
  (hfew:((backTo cpos (starEach (e::es) X.env)).all (fun x=>!x.1) && (backToKw cpos (keywordEach [] X.env)).all (fun x=>x.1.isSome)
   && decide ((e::es).length+([]:List Keyword).length+(if ([]:List Keyword).isEmpty then 0 else 1)<30))=true:=by rfl)
  (hline:(apos.endLine == cpos.line)=true:=by rfl) (hs:starEach (e::es) X.env=(false,eval e X.env)::starEach es X.env:=by rfl) (hplain:(backTo cpos (starEach es X.env)).any (·.1)=false:=by rfl) :
  PE X (.Call (.Attribute o name apos) (e::es) [] cpos) (tBM X.K T r to t):=by
 intro pins s σ H Q I h;refine wpAny_Call_method_late hbase hfew hline rfl (thn (ho pins s σ H _ I h) fun v s1 ⟨x,H1,I1,r1,ty,q1⟩=>?_);obtain⟨h1,h2⟩:=ykj I1 r1 ty;refine⟨T,id,pa,slot,hty,h1,h2,?_⟩;have hA:=ha cpos pins s1 σ H1 _ I1 q1;rw[hs]at hA ⊢;refine Calls.callWith_builtin (by show (false || (backTo cpos (starEach es X.env)).any (·.1))=false;rw[hplain]<;>rfl) (Calls.evalArgs_plain ?_);exact thn hA fun us s2 ⟨vs,H2,I2,r2,q2⟩=>hm pins s2 σ H2 x vs v us Q I2 r1 r2 q2
end
end L2
namespace L2
open PySem PySem.Spec PyProof.Rows
def MtM(X:Cx)(id:String)(r:V->List V->Hp->VK->Prop):Prop:=
 ∀ (pins:List (Addr × Obj)) (s:Shared) (σ:St) (H:Hp) (x:V) (xs:List V) (v:Value) (us:List Value) (Q:VK),Inv X pins σ H s->yqp x v->yqx xs us->r x xs H Q->
  wpAny (model X.prog X.w) X.A (call (.builtin id) (v::us)) (EP X pins σ Q) X.xe s
theorem yqx.one:∀ {x:V} {us:List Value},yqx [x] us->∃ u,us=[u]/\yqp x u
 |_,_,.cons r .nil=>⟨_,rfl,r⟩
theorem yqx.two:∀ {x y:V} {us:List Value},yqx [x,y] us->∃ u v,us=[u,v]/\yqp x u/\yqp y v
 |_,_,_,.cons r (.cons q .nil)=>⟨_,_,rfl,r,q⟩
theorem yqx.zero:∀ {us:List Value},yqx [] us->us=[]
 |_,.nil=>rfl
theorem yqx.eraseIdx:∀ {xs:List V} {us:List Value} (i:Nat),yqx xs us->yqx (xs.eraseIdx i) (us.eraseIdx i)
 |_,_,_,.nil=>.nil
 |_,_,0,.cons _ t=>t
 |_,_,i+1,.cons r t=>.cons r (yqx.eraseIdx i t)
theorem yqx.rep{xs:List V}{us:List Value}(h:yqx xs us):∀ k:Nat,yqx (List.replicate k xs).flatten (List.replicate k us).flatten
 |0=>.nil
 |k+1=>by
  rw[List.replicate_succ,List.replicate_succ,List.flatten_cons,List.flatten_cons];exact yqx.append h (yqx.rep h k)
theorem zk9(its:List Value):∀ (k:Nat) (acc:List Value),
  List.foldl (fun x1 x2=>x1++x2) acc.toArray (List.replicate k its.toArray)=(acc++(List.replicate k its).flatten).toArray
 |0,acc=>by simp
 |k+1,acc=>by
  have e:acc.toArray++its.toArray=(acc++its).toArray:=by simp
  have e2:(acc++its)++(List.replicate k its).flatten=acc++(List.replicate (k+1) its).flatten:=by
   rw[List.replicate_succ,List.flatten_cons,List.append_assoc]
  rw[<-e2,<-zk9 its k (acc++its),<-e,List.replicate_succ,List.foldl_cons]
section
variable{X:Cx}{pins:List (Addr × Obj)}{σ:St}{H:Hp}{s:Shared}{l b:Addr}{xs ys zs:List V}
theorem Inv.lset{its its':List Value}{n:Nat}{f:Array Value->Array Value}{t':Nat}(I:Inv X pins σ H s)(hH:H l=some (.lst xs))
  (e:s.heap.get? l=some { cls:=.type "list",data:=.seq its.toArray n }) (hf:f its.toArray=its'.toArray) (hv:yqx ys its') (hz:ys.length<=sizeLine) :
  Inv X pins σ (upd H l (.lst ys)) { s with heap:=s.heap.update l (Obj.mapSeq f),toks:=t' }:=by
 have q:=PySem.IsL.update e f;rw[hf]at q;refine I.write (x:=l) (e:=l) (by rw[hH];exact trivial) (.inl rfl) (fun b' u hb hu=>(Heap.get?_update_other s.heap (Obj.mapSeq f) (Ne.symm hb)).trans hu) ⟨_,q⟩ ?_;exact⟨hz,its',_,hv,q⟩
theorem Inv.lnew{its:List Value}{t':Nat}(I:Inv X pins σ H s)(hv:yqx ys its)(hz:ys.length<=sizeLine) :
  Inv X pins σ (upd H s.heap.objs.size (.lst ys)) { s with heap:=s.heap.push { cls:=.type "list",data:=.seq its.toArray },toks:=t' }:=
 I.laid (fun _ _ q=>Heap.get?_push_of_some _ q) (Nat.le_refl _) ⟨hz,its,0,hv,Heap.get?_push_size _ rfl⟩
theorem Inv.fresh(I:Inv X pins σ H s):H s.heap.objs.size=none:=I.hok.fresh (Nat.le_refl _)
theorem Inv.lstM(I:Inv X pins σ H s)(hH:H l=some (.lst xs)):xs.length<=sizeLine/\∃ (its:List Value) (n:Nat),yqx xs its/\xs.length=its.length/\s.heap.get? l=some { cls:=.type "list",data:=.seq its.toArray n }:=by
 obtain⟨z,its,n,r,e⟩:=I.hok l _ hH;exact⟨z,its,n,r,r.length,e⟩
theorem zrm{n:Nat}(h:n<=sizeLine):Builtin.List.listTooLong n=false:=by
 unfold Builtin.List.listTooLong;exact decide_eq_false (by omega)
end
section
variable{X:Cx}
def ya4:V->List V->Hp->VK->Prop:=fun x vs H Q=>∃ l xs y,x=.ref l/\vs=[y]/\H l=some (.lst xs)/\xs.length<sizeLine/\Q .non (upd H l (.lst (xs++[y])))
theorem zme:MtM X "list.append" ya4:=by
 intro pins s σ H x vs v us Q I rx rv h;obtain⟨l,xs,y,rfl,rfl,hH,hz,q⟩:=h;cases rx;obtain⟨u,rfl,ru⟩:=rv.one;obtain⟨z,its,n,r,hl,e⟩:=I.lstM hH;refine call_meets F.slot_list_append ⟨_,e,rfl⟩ F.entry_list_append (F.args_list_append_2 _ _) (PySem.list_append l its.toArray n u (by rw[List.size_toArray];omega)) ⟨e,?_⟩;refine⟨.non,_,I.lset (its':=its++[u]) hH e (by simp) (r.append (.cons ru .nil)) ?_,rfl,q⟩;rw[List.length_append,List.length_singleton];omega
def ya6:V->List V->Hp->VK->Prop:=fun x vs H Q=>∃ l b xs zs,x=.ref l/\vs=[.ref b]/\H l=some (.lst xs)/\H b=some (.lst zs)/\xs.length+zs.length<=sizeLine/\Q .non (upd H l (.lst (xs++zs)))
theorem zmf:MtM X "list.extend" ya6:=by
 intro pins s σ H x vs v us Q I rx rv h;obtain⟨l,b,xs,zs,rfl,rfl,hH,hB,hz,q⟩:=h;cases rx;obtain⟨u,rfl,ru⟩:=rv.one;cases ru;obtain⟨z,its,n,r,hl,e⟩:=I.lstM hH;obtain⟨z2,its2,n2,r2,hl2,e2⟩:=I.lstM hB;have hsz:its.toArray.size+its2.toArray.size<=sizeLine:=by rw[List.size_toArray,List.size_toArray];omega
 have hlong:¬ (!its.toArray.isEmpty && Builtin.List.listTooLong (its.toArray.size+its2.toArray.size))=true:=by
  rw[zrm hsz,Bool.and_false];exact Bool.false_ne_true
 refine call_meets F.slot_list_extend ⟨_,e,rfl⟩ F.entry_list_extend (F.args_list_extend_2 _ _)
  (AutoSeq1.list_extend_list_list_0 l its.toArray n b its2.toArray n2 hlong (by rw[List.size_toArray];omega) (by omega)) ⟨e,e2,?_⟩
 refine⟨.non,_,I.lset (its':=its++its2) hH e (by simp) (r.append r2) ?_,rfl,q⟩;rw[List.length_append];omega
def rClear:V->List V->Hp->VK->Prop:=fun x vs H Q=>∃ l xs,x=.ref l/\vs=[]/\H l=some (.lst xs)/\Q .non (upd H l (.lst []))
theorem mt_clear:MtM X "list.clear" rClear:=by
 intro pins s σ H x vs v us Q I rx rv h;obtain⟨l,xs,rfl,rfl,hH,q⟩:=h;cases rx;have hus:=rv.zero;subst hus;obtain⟨z,its,n,r,hl,e⟩:=I.lstM hH;refine call_meets F.slot_list_clear ⟨_,e,rfl⟩ F.entry_list_clear (F.args_list_clear_1 _) (AutoSeq1.list_clear_list_0 l its.toArray n (by rw[List.size_toArray];omega)) ⟨e,?_⟩;exact⟨.non,_,I.lset (its':=[]) (ys:=[]) hH e rfl .nil (Nat.zero_le _),rfl,q⟩
def ytu:R2:=fun x y H Q=>∃ l b xs zs,x=.ref l/\y=.ref b/\H l=some (.lst xs)/\H b=some (.lst zs)/\xs.length+zs.length<=sizeLine/\∀ p,H p=none->Q (.ref p) (upd H p (.lst (xs++zs)))
theorem yia:OpR X (binaryOp .Add) ytu:=by
 intro pins s σ H x y v u Q I rx ry h;obtain⟨l,b,xs,zs,rfl,rfl,hH,hB,hz,q⟩:=h;cases rx;cases ry;obtain⟨z,its,n,r,hl,e⟩:=I.lstM hH;obtain⟨z2,its2,n2,r2,hl2,e2⟩:=I.lstM hB;refine PySem.P.add_list e e2 ?_ (by rw[List.size_toArray,List.size_toArray];omega);have ea:its.toArray++its2.toArray=(its++its2).toArray:=by simp
 rw[ea];exact⟨.ref _,_,I.lnew (t':=s.toks) (r.append r2) (by rw[List.length_append];omega),rfl,q _ I.fresh⟩
def yt5:R2:=fun x y H Q=>∃ l k xs,x=.ref l/\y=.int k/\H l=some (.lst xs)/\-(2 ^ 63)<=k/\k<2 ^ 63/\xs.length * k.toNat<=sizeLine/\
 ∀ p,H p=none->Q (.ref p) (upd H p (.lst (List.replicate k.toNat xs).flatten))
theorem zyp{α:Type}(xs:List α)(k:Nat):(List.replicate k xs).flatten.length=k * xs.length:=by
 induction k with
 |zero=>simp
 |succ k ih=>rw[List.replicate_succ,List.flatten_cons,List.length_append,ih,Nat.succ_mul,Nat.add_comm]
theorem yii:OpR X (binaryOp .Mult) yt5:=by
 intro pins s σ H x y v u Q I rx ry h;obtain⟨l,k,xs,rfl,rfl,hH,h1,h2,hz,q⟩:=h;cases rx;obtain⟨t,rfl⟩:=ry;obtain⟨z,its,n,r,hl,e⟩:=I.lstM hH;have hlen:its.toArray.size * k.toNat<=sizeLine:=by rw[List.size_toArray,<-hl];exact hz
 have hcap:¬ its.toArray.size * k.toNat > (2 ^ 63 - 1) / 8:=by
  have:(sizeLine:Nat)<=(2 ^ 63 - 1) / 8:=by decide
  omega
 have hfit:¬ (!Builtin.List.listFitsIndex k)=true:=by
  rw[fitsIndex_both h1 h2];exact Bool.false_ne_true
 have hlong:¬ Builtin.List.listTooLong (its.toArray.size * k.toNat)=true:=by
  rw[zrm hlen];exact Bool.false_ne_true
 have hnew:List.foldl (fun x1 x2=>x1++x2) #[] (List.replicate (if its.toArray.isEmpty=true then 0 else k.toNat) its.toArray)=(List.replicate k.toNat its).flatten.toArray:=by
  have f0:∀ m:Nat,List.foldl (fun x1 x2=>x1++x2) #[] (List.replicate m its.toArray)=(List.replicate m its).flatten.toArray:=fun m=>by
   have:=zk9 its m [];rw[List.nil_append]at this;exact this
  rw[f0];cases its with
  |nil=>simp
  |cons a r'=>rw[if_neg (by simp)]
 refine wpAny_binaryOp_repeat_ref (T:="list") (U:="int") (by decide) ⟨_,e,rfl⟩ (fun s'=>typeIs_int s' k t) noFill_list_mul F.fills_int_mul F.slot_int_rmul repeat_list F.slot_int_index.lookup
  (call_meets F.slot_int_rmul (typeIs_int s k t) F.entry_int_rmul (F.args_int_rmul_2 _ _) (int___rmul___int_list k t l its.toArray n)
   ⟨e,rfl,⟨_,e,rfl⟩,call_meets F.slot_list_mul ⟨_,e,rfl⟩ F.entry_list_mul (F.args_list_mul_2 _ _) (AutoListH.list___mul___list_int_3 l its.toArray n k t hfit hcap hlong) ⟨e,?_⟩⟩)
 rw[hnew];exact⟨.ref _,_,I.lnew (t':=s.toks) (r.rep k.toNat) (by rw[zyp,Nat.mul_comm];exact hz),rfl,q _ I.fresh⟩
end
section
variable{prog:Program}{w:World}{A:Around}{E:Value->Shared->Prop}{s:Shared}
set_option maxRecDepth 100000 in
end
section
variable{X:Cx}
end
end L2
namespace Att
open PySem PySem.W PySem.Calls PyProof.Rows
theorem zb4{P:Params}{h:Heap}:∀ (ns:List Int) (vs:List Value),WellAll P h vs (ns.map WData.int)->IntsAre vs ns:=by
 intro ns;induction ns with
 |nil=>
  intro vs w;rw[List.map_nil]at w;cases w;exact .nil
 |cons n ns ih=>
  intro vs w;rw[List.map_cons]at w;cases w with
  |cons a b=>
   cases a;exact .cons _ _ (ih _ b)
theorem zm8{l:OpenLaw}{n:Nat}(hn:l.most=some n){P:Params}{h:Heap}{args:List WData}{vals:List Value}
  (hpre:l.row.toRowW.claim.pre args=true) (hwl:WellAll P h vals args) :
  ∃ a vs ns,vals=[Value.ref a]/\args=[WData.list (ns.map WData.int)]/\h.get? a=some { cls:=.type "list",data:=.seq vs.toArray }/\IntsAre vs ns/\ns.length<=n:=by
 have hsh:WShape.hasAll [] args [.list .int]=true:=(pre_splitW hpre).1;have hc:l.pre.holds [] { args:=args }=true:=(pre_splitW hpre).2;obtain⟨d,r,rfl,h1,h2⟩:=hasAllW_cons hsh;obtain rfl:=hasAllW_nil h2;obtain⟨xs,rfl,h3⟩:=hasW_list h1;obtain⟨ns,rfl⟩:=items_int h3;have hlen:ns.length<=n:=by
  unfold OpenLaw.pre at hc;have h4:(WTm.not (.lt (.lit (.int (n:Int))) (.len (.arg 0)))).holds [] { args:=[.list (ns.map .int)] }=true:=by
   have h4:=(holds_andW hc).1;rw[hn]at h4;exact h4
  have h5:=condW_of h4 (w_not (w_lt w_lit (w_len_list (w_arg rfl))));rw[List.length_map]at h5;refine Nat.le_of_not_lt fun q=>?_;have q':(n:Int)<((ns.length:Nat):Int):=by omega
  first
   |(rw[decide_eq_true q']at h5;exact absurd h5 (by decide))
   |(simp at h5;omega)
 cases hwl with
 |cons w1 w2=>
  cases w2;cases w1 with
  |list ho hall=>exact⟨_,_,ns,rfl,rfl,ho,zb4 ns _ hall,hlen⟩
theorem zmt(l:OpenLaw)(args:List WData):l.row.toRowW.claim.post args (.bool true) args=true:=
 postW_of (r:=l.row.toRowW) (X:=(true == true))
  (show WShape.has [] (.bool true) .bool=true by first|rfl|decide|simp[WShape.has,WShape.arms,WShape.armsAll])
  (show (WTm.eq .res (.lit (.bool true))).value [] { args:=args,res:=some (.bool true),after:=args }=some (.bool (true == true))from w_eq_bool (w_res rfl) w_lit) rfl
theorem attach_call{l:OpenLaw}{n:Nat}{q:Program}{loose:List Str}{XP:(Str->Option Value)->Heap->Prop}{YP:World->Heap->Prop}{d:DefRec}
  (hn:l.most=some n) (hdf:d.params.defaults=[])
  (call:∀ (w:World) (s₀ s₁:Shared) (mg mb:Str->Option Value) (fa:Addr) (o:Obj) (pm cd doc:Value) (a:Addr) (vs:List Value) (ns:List Int),
   Ground q loose [] XP w s₀ mg mb s₁.heap->YP w s₁.heap->
   s₁.heap.get? fa=some o->o.data=.func (docDef d.name d.params d.body d.scope pm cd doc)->s₁.heap.CodeRec cd d.name->mg d.name=some (.ref fa)->
   s₁.heap.get? a=some { cls:=.type "list",data:=.seq vs.toArray }->IntsAre vs ns->ns.length<=n->s₁.gens=#[]->
   codeAny (model l.prog w) callerA (.call (.ref fa) ⟨[.ref a],[]⟩) (fun r s'=>r=.ok (.ret (.bool true))/\OldK s₁.heap s'.heap/\s'.os=s₁.os/\AllBare s'.gens) s₁) :
  WalkO q loose XP YP l.row.toRowW d [] (fun f vs=>PySem.call f vs):=by
 intro w s₀ s₁ mg mb G Y fa o pm cd doc dV kV ho hd hcd hD hmg hg args vals as hpre hlay hrd hwl hlo;obtain rfl:dV=.none:=Dflts.none hD hdf;obtain rfl:kV=.none:=Dflts.noKw hD;obtain⟨a,vs,ns,rfl,rfl,hobj,hints,hlen⟩:=zm8 hn hpre hwl;refine enter_call (codeAny_mono (call w s₀ s₁ mg mb fa o pm cd doc a vs ns G Y ho (fd_plain hd) hcd hmg hobj hints hlen hg) fun r s' hq=>?_);obtain⟨rfl,h2,h3,h4⟩:=hq;exact⟨.inl ⟨.bool true,.bool true,[],rfl,fun _=>rfl,.bool true,zmt l _,fun _=>⟨List.Pairwise.nil,fun _ hm=>(nomatch hm)⟩⟩,h2,h3,h4⟩
section
variable{prog:Program}{w:World}{A:Around}{E:Value->Shared->Prop}{s:Shared}{K:Frag}
def ygz(h:Heap)(L d:Addr):List (Addr × Obj):=(List.range h.objs.size).filterMap fun a=>if a=L\/a=d then none else (h.get? a).map fun o=>(a,o)
end
end Att
namespace L2
open PySem PySem.Spec PyProof.Rows
theorem zny:∀ {vs:List Value} {ns:List Int},IntsAre vs ns->yqx (ns.map V.int) vs
 |_,_,.nil=>.nil
 |_,_,.cons n t h=>.cons ⟨t,rfl⟩ (zny h)
def yqi(H:Hp):Prop:=∀ b,H b=none\/∃ o xs,H b=some (.frz o (.lst xs))
theorem zqr{P:Program}{w:World}{K:PySem.W.Frag}{mg mb:Str->Option Value}{CX:CXT}{k:Nat}{fa a:Addr}{fd:FuncData}{x:Str}{sp:Sp}{s₁:Shared}{vs:List Value}{ns:List Int}
  (KX:K.In s₁.heap) (hns:s₁.heap.Ns mainGlobals mg) (hb:s₁.heap.Ns builtinsNs mb) (hbb:∀ x:Str,x ≠ "__name__"->mb x=bootBuiltins x) (hlim:s₁.heap.NoLimit) (hg:s₁.gens=#[])
  (ha:s₁.heap.get? a=some { cls:=.type "list",data:=.seq vs.toArray }) (hi:IntsAre vs ns) (hl:ns.length<=sizeLine) (hr:Room k callerA)
  (F:∀ base:Heap,K.In base->base.Ns mainGlobals mg->FnOk P w K mg base CX k fa fd [x] sp) (hbind:∀ (s:Shared) (u:Value),BindsTo s fd ⟨[u],[]⟩ [(x,u)])
  (hsp:∀ H:Hp,yqi H->SqL K H a (ns.map V.int)->sp [.ref a] H (fun v _=>v=.bl true) fun _ _ _=>False)
  (hCX:∀ H e s',CX [] H s₁ (fun _ _ _=>False) e s'->False) :
  codeAny (model P w) callerA (.call (.ref fa) ⟨[.ref a],[]⟩) (fun r s'=>r=.ok (.ret (.bool true))/\OldK s₁.heap s'.heap/\s'.os=s₁.os/\AllBare s'.gens) s₁:=by
 have rv:=zny hi;have lenV:=hi.length;have core:∀ H:Hp,yqi H->SqL K H a (ns.map V.int)->HOk P w H s₁.heap->(∀ b,H b≠none->b=a)->(H a≠none->K.lookup a=none)->
   codeAny (model P w) callerA (.call (.ref fa) ⟨[.ref a],[]⟩) (fun r s'=>r=.ok (.ret (.bool true))/\OldK s₁.heap s'.heap/\s'.os=s₁.os/\AllBare s'.gens) s₁:=by
  intro H hO hS hok hA hK;have base_of:∀ {b:Addr} {o:Obj},s₁.heap.get? b=some o->H b=none->(yr4 s₁.heap H).get? b=some o:=fun e n=>zp9 e n;have noA:∀ {b:Addr} {o:Obj} {es:Array DictEntry} {ep:Nat},s₁.heap.get? b=some o->o.data=.dict es ep->H b=none:=fun {b o es ep} e d=>by
   cases q:H b with
   |none=>rfl
   |some u=>
    have e':b=a:=hA b (by rw[q];simp);subst e';rw[ha]at e;cases e;have d':Data.seq vs.toArray _=Data.dict es ep:=d;cases d'
  have nsK:∀ {b:Addr} {m:Str->Option Value},s₁.heap.Ns b m->(yr4 s₁.heap H).Ns b m:=fun {b m} ⟨o,es,ep,e,d,r⟩=>⟨o,es,ep,base_of e (noA e d),d,r⟩
  have hKb:K.In (yr4 s₁.heap H):=fun b o e=>base_of (KX b o e) (by
   cases q:H b with
   |none=>rfl
   |some u=>
    have e':b=a:=hA b (by rw[q];simp);subst e';rw[hK (by rw[q];simp)]at e;cases e)
  have hM:Mod K mg (yr4 s₁.heap H):=⟨hKb,nsK hns,⟨mb,nsK hb,hbb⟩,let ⟨mc,h1,h2⟩:=hlim;⟨mc,nsK h1,h2⟩⟩
  have e0:Env0 P w K mg (yr4 s₁.heap H) callerA [] s₁ H:=⟨rfl,hM,fun b o e=>zz9 e,Nat.le_of_eq (zli _ _),trivial,fun b hb=>absurd (show b∈([]:List Addr)from hb) (by simp),hok,.of_eq hg⟩
  refine codeAny_mono ((F _ hKb (nsK hns)).run callerA [] s₁ H ⟨[.ref a],[]⟩ [.ref a] [.ref a] _ _ hr e0 (hbind s₁ (.ref a)) (.cons rfl .nil) (hsp H hO hS)) fun r s' h=>?_;cases r with
  |error e=>exact(hCX H e s' h).elim
  |ok fl=>
   cases fl with
   |next=>exact False.elim h
   |brk=>exact False.elim h
   |cont=>exact False.elim h
   |ret u=>
    obtain⟨v,H',os,bare,un,hok',r',q⟩:=h;have q':v=.bl true:=q;subst q';obtain rfl:u=Value.bool true:=r';refine⟨rfl,OldK.of_keep fun b o e=>?_,os,bare⟩;cases q:H b with
    |none=>exact un.keep b o e q (by intro z;exact absurd (show b∈([]:List Addr)from z) (by simp)) (by simp)
    |some u=>
     rcases hO b with z|⟨ob,xs,z⟩
     ·rw[q]at z;cases z
     ·have z2:=un.frzs b ob _ z;obtain⟨e1,_⟩:=hok b _ z;obtain⟨e2,_⟩:=hok' b _ z2;rw[e]at e1;cases e1;exact e2
 cases hk:K.lookup a with
 |some o=>
  have e:=KX a o hk;rw[ha]at e;cases e;refine core (fun _=>none) (fun _=>.inl rfl) (.inr ⟨_,vs.toArray,_,hk,rfl,rfl,rfl,by rw[List.size_toArray,lenV];exact hl,by simpa using rv⟩) (fun b u z=>by have z':(none:Option HO)=some u:=z;cases z') (fun b z=>absurd rfl z) fun z=>absurd rfl z
 |none=>
  refine core (fun b=>if b=a then some (.frz { cls:=.type "list",data:=.seq vs.toArray } (.lst (ns.map V.int)))else none) (fun b=>?_) (.inl (.inr ⟨{ cls:=.type "list",data:=.seq vs.toArray },if_pos rfl⟩)) (fun b u z=>?_) (fun b z=>?_) fun _=>hk
  ·by_cases hb:b=a
   ·exact .inr ⟨_,_,if_pos hb⟩
   ·exact .inl (if_neg hb)
  ·by_cases hb:b=a
   ·have z':=(if_pos hb).symm.trans z;cases z';subst hb;exact⟨ha,by rw[List.length_map];exact hl,vs,_,rv,ha⟩
   ·have z':=(if_neg hb).symm.trans z;cases z'
  ·by_cases hb:b=a
   ·exact hb
   ·exact absurd (if_neg hb) z
end L2
namespace L2
open PySem PySem.Spec PyProof.Rows
abbrev KOf{K:PySem.W.Frag}{h:Heap}(_:K.In h):PySem.W.Frag:=K
theorem yda{l:PySem.W.OpenLaw}{n k:Nat}{q:Program}{loose:List Str}{XP:(Str->Option Value)->Heap->Prop}{YP:World->Heap->Prop}{d:DefRec}{K:Params->PySem.W.Frag}{CX:World->CXT}{sp:World->Sp}{x:Str}
  (hn:l.most=some n) (hn2:n<=sizeLine) (hdf:d.params.defaults=[]) (hr:Room k callerA)
  (hY:∀ (w:World) (h:Heap),YP w h->(K w.params).In h)
  (F:∀ (w:World) (mg:Str->Option Value) (fa:Addr) (h:Heap),(K w.params).In h->h.Ns mainGlobals mg->mg d.name=some (.ref fa)->
   ∃ fd:FuncData,(∀ (s:Shared) (u:Value),BindsTo s fd ⟨[u],[]⟩ [(x,u)])/\
    ∀ base:Heap,(K w.params).In base->base.Ns mainGlobals mg->FnOk l.prog w (K w.params) mg base (CX w) k fa fd [x] (sp w))
  (hsp:∀ (w:World) (H:Hp) (a:Addr) (ns:List Int),ns.length<=n->yqi H->SqL (K w.params) H a (ns.map V.int)->sp w [.ref a] H (fun v _=>v=.bl true) fun _ _ _=>False)
  (hCX:∀ (w:World) (H:Hp) (s:Shared) (e:Value) (s':Shared),CX w [] H s (fun _ _ _=>False) e s'->False) :
  PySem.W.WalkO q loose XP YP l.row.toRowW d [] (fun f vs=>PySem.call f vs):=by
 refine Att.attach_call hn hdf fun w s₀ s₁ mg mb fa o pm cd doc a vs ns G Y ho hd hcd hmg hobj hints hlen hg=>?_;have KX:=hY w _ Y;obtain⟨fd,hb,hF⟩:=F w mg fa _ KX G.T.g hmg;exact zqr KX G.T.g G.T.b G.T.builtins G.T.nolimit hg hobj hints (Nat.le_trans hlen hn2) hr hF hb (fun H hO hS=>hsp w H a ns hlen hO hS) fun H e s'=>hCX w H s₁ e s'
end L2
namespace L2
open PySem PySem.Spec PyProof.Rows
def zvu(s:Stmt):Arguments:=match s with
 | .FunctionDef _ a _ _ _ _ _ _ _ _=>a
 |_=>{ posonlyargs:=[],args:=[],vararg:=none,kwonlyargs:=[],kw_defaults:=[],kwarg:=none,defaults:=[] }
def zvv(s:Stmt):List Stmt:=match s with
 | .FunctionDef _ _ b _ _ _ _ _ _ _=>b
 |_=>[]
def zot(s:Stmt):Scope:=match s with
 | .FunctionDef _ _ _ _ _ _ sc _ _ _=>sc
 |_=>{ kind:=.function,names:=[],isGenerator:=false,isCoroutine:=false }
abbrev CX0:CXT:=fun _ _ _ _ _ _=>False
abbrev E0:XK:=fun _ _ _=>False
structure Fun(K:PySem.W.Frag)(x qual:Str)(st:Stmt)(f:Addr)(fd:FuncData):Prop where
 ex:∃ (oc:Value) (od:Option Addr) (kV doc pm:Value) (an:Option Addr) (cdv ct:Value) (osl:Array (Option Value)),
  fd=PySem.W.fnOf x qual (zvu st) (zvv st) (zot st) .none kV doc pm an cdv ct/\K.lookup f=some ⟨oc,od,.func fd,osl⟩/\PySem.W.codeIn K cdv qual=true
 kp:PySem.W.keepIn K (.ref f)=true
section
variable{P:Program}{w:World}{K:PySem.W.Frag}{mg:Str->Option Value}{base:Heap}
theorem Fun.ok{x qual:Str}{st:Stmt}{f:Addr}{fd:FuncData}{N ps:List Str}{k:Nat}{sp:Sp}(F:Fun K x qual st f fd)(S:FnScope N ps (zot st))(len:∀ vs H Q E,sp vs H Q E->vs.length=ps.length)
  (hbody:∀ (cdv:Value) (A:Around) (outer:List Env) (s:Shared) (H:Hp) (vs:List V) (Q:VK) (E:XK),Room k (A.deeper (envOfC qual (zot st) s.heap.objs.size f cdv))->sp vs H Q E->
   ∃ t,PSs (yrh CX0 P w K mg base N qual (zot st) f cdv A outer s H E).nox (zvv st) t/\t { nx:=fun _ H'=>Q .non H',rt:=Q } (yph N vs) H):FnOk P w K mg base CX0 (k+1) f fd ps sp:=by
 obtain⟨oc,od,kV,doc,pm,an,cdv,ct,osl,rfl,lk,hcd⟩:=F.ex;refine ymh lk hcd S len fun A outer s H vs Q E hr hsp=>?_;obtain⟨t,h,q⟩:=hbody cdv A outer s H vs Q E hr hsp;exact⟨t,h.nox,q⟩
theorem Fun.binds{x qual:Str}{st:Stmt}{f:Addr}{fd:FuncData}{ps:List Str}(F:Fun K x qual st f fd)
  (h:∀ (kV doc pm:Value) (an:Option Addr) (cdv ct:Value) (us:List Value),us.length=ps.length->bindArgs (PySem.W.fnOf x qual (zvu st) (zvv st) (zot st) .none kV doc pm an cdv ct) ⟨us,[]⟩=pure (ps.zip us)):yko K fd ps []:=by
 obtain⟨oc,od,kV,doc,pm,an,cdv,ct,osl,rfl,lk,hcd⟩:=F.ex;exact .all (h kV doc pm an cdv ct)
theorem yf4{x qual:Str}{st:Stmt}{f:Addr}{oc:Value}{od an:Option Addr}{osl:Array (Option Value)}{kV doc pm cdv ct:Value}(l:K.lookup f=some ⟨oc,od,.func (PySem.W.fnOf x qual (zvu st) (zvv st) (zot st) .none kV doc pm an cdv ct),osl⟩)
  (c:PySem.W.codeIn K cdv qual=true) (k:PySem.W.keepIn K (.ref f)=true):Fun K x qual st f (PySem.W.fnOf x qual (zvu st) (zvv st) (zot st) .none kV doc pm an cdv ct):=⟨⟨oc,od,kV,doc,pm,an,cdv,ct,osl,rfl,l,c⟩,k⟩
end
theorem znk{n:Nat}(h:n<=1000):n<sizeLine:=Nat.lt_of_le_of_lt h (by decide)
section
variable{X:Cx}
end
def yqt(H H':Hp):Prop:=∀ b o,H b=some o->H' b=some o
theorem yqt.refl(H:Hp):yqt H H:=fun _ _ h=>h
theorem yqt.trans{H H1 H2:Hp}(a:yqt H H1)(b:yqt H1 H2):yqt H H2:=fun c o h=>b c o (a c o h)
theorem yqt.free{H H':Hp}(e:yqt H H'){l:Addr}(h:H' l=Option.none):H l=Option.none:=by
 cases q:H l with
 |none=>rfl
 |some o=>
  rw[e l o q]at h;cases h
theorem yqt.seq{K:PySem.W.Frag}{H H':Hp}{a:Addr}{xs:List V}(e:yqt H H')(h:SqL K H a xs):SqL K H' a xs:=by
 rcases h with(h|⟨o,h⟩)|h
 ·exact .inl (.inl (e _ _ h))
 ·exact .inl (.inr ⟨o,e _ _ h⟩)
 ·exact .inr h
end L2
namespace L4
open PySem PySem.Spec PyProof.Rows L2
theorem zxp{α:Type}(a:α):∃ b,b=a:=⟨a,rfl⟩
noncomputable def hide{α:Type}(a:α):α:=Classical.choose (zxp a)
@[simp] theorem zxo{α:Type}(a:α):hide a=a:=Classical.choose_spec (zxp a)
inductive D where
 |non|bl (b:Bool)|int (i:Int)|str (x:Str)|tup (xs:List D)|scr (ns:List Int)|ref (n:Nat)
 |lst (xs:List D)|dic (ks:List Key) (xs:List D)|obj (c:Nat) (ns:List Str) (xs:List D)|exn (c:Nat)
inductive Ob where
 |lst (xs:List D)
 |dic (kvs:List (Key × D))
 |ins (c:Nat) (fs:List (Str × D))
abbrev Sto:=List Ob
abbrev St:=L2.St
abbrev Ev:=List (Option D)
structure Xn where
 cls:Nat
inductive Out(α:Type) where
 |ok (a:α) (σ:Sto)
 |ex (x:Xn) (σ:Sto)
 |bad
abbrev M(α:Type):=Sto->Out α
def ret{α:Type}(a:α):M α:=fun σ=>.ok a σ
def bad{α:Type}:M α:=fun _=>.bad
def Out.bind{α β:Type}(o:Out α)(k:α->M β):Out β:=match o with
 | .ok a σ'=>k a σ'
 | .ex x σ'=>.ex x σ'
 | .bad=>.bad
def bnd{α β:Type}(m:M α)(k:α->M β):M β:=fun σ=>(m σ).bind k
inductive Fl where
 |nx (ρ:Ev)|rt (d:D)|bk (ρ:Ev)|ct (ρ:Ev)|xc (ρ:Ev) (x:Xn)
structure Tb where
 K:PySem.W.Frag
 ca:Nat->Addr
def Tb.cv(T:Tb)(x:Xn):Value:=.ref (T.ca x.cls)
def fdN(c:Nat):Option Nat:=if c<100 then none else some (c / 100 - 1)
def ykq(C a:Addr):Heap->Prop:=fun h=>∃ o,h.get? a=some o/\o.cls=.ref C
def ydh(C:Addr)(dd:Option Addr)(a:Addr):Heap->Prop:=fun h=>∃ o,h.get? a=some o/\o.cls=.ref C/\∀ dN,dd=some dN->o.dict=some dN/\∃ vs,o.data=.fields vs
def ykw(dN:Addr)(n:Nat):Heap->Prop:=fun h=>∃ o,h.get? dN=some o/\∃ es ep t,o.data=.dict es ep/\StrKeys es/\nsFind es "pot" = some (.int n t)
def Scr(K:PySem.W.Frag)(H:Hp)(a:Addr)(ns:List Int):Prop:=
 (∃ o,H a=some (.frz o (.lst (ns.map V.int))))\/
  ∃ (o:Obj) (its:Array Value) (n:Nat),K.lookup a=some o/\o.cls=.type "list"/\o.dict=none/\o.data=.seq its n/\its.size<=sizeLine/\yqx (ns.map V.int) its.toList
theorem Scr.seq{K:PySem.W.Frag}{H:Hp}{a:Addr}{ns:List Int}(h:Scr K H a ns):SqL K H a (ns.map V.int):=by
 rcases h with⟨o,h⟩|h
 ·exact .inl (.inr ⟨o,h⟩)
 ·exact .inr h
mutual
def Rep(T:Tb)(μ:List Addr)(H:Hp):D->V->Prop
 | .non,v=>v=.non
 | .bl b,v=>v=.bl b
 | .int i,v=>v=.int i
 | .str x,v=>v=.str x
 | .tup ds,v=>∃ p vs,v=.ref p/\H p=some (.tup vs)/\yqs T μ H ds vs
 | .scr ns,v=>∃ a,v=.ref a/\Scr T.K H a ns
 | .ref n,v=>∃ a,v=.ref a/\μ[n]?=some a
 | .lst ds,v=>∃ a vs,v=.ref a/\a ∉ μ/\H a=some (.lst vs)/\yqs T μ H ds vs
 | .dic ks ds,v=>∃ a kvs,v=.ref a/\a ∉ μ/\H a=some (.dK kvs)/\kvs.map (·.1)=ks/\yqs T μ H ds (kvs.map (·.2))
 | .obj c ns ds,v=>∃ a dx fs,v=.ref a/\a ∉ μ/\H a=some (.ins (T.ca c) dx fs)/\fs.map (·.1)=ns/\yqs T μ H ds (fs.map (·.2))
 | .exn c,v=>∃ a dd,v=.ref a/\a ∉ μ/\H a=some (.ext (ydh (T.ca c) dd a))/\∀ n,fdN c=some n->∃ dN,dd=some dN/\dN ∉ μ/\H dN=some (.ext (ykw dN n))
def yqs(T:Tb)(μ:List Addr)(H:Hp):List D->List V->Prop
 |[],vs=>vs=[]
 |d::ds,vs=>∃ v r,vs=v::r/\Rep T μ H d v/\yqs T μ H ds r
end
structure Ext(μ:List Addr)(H:Hp)(μ':List Addr)(H':Hp):Prop where
 pre:∃ r,μ'=μ++r
 tup:∀ p xs,H p=some (.tup xs)->H' p=some (.tup xs)
 frz:∀ p o u,H p=some (.frz o u)->H' p=some (.frz o u)
 keep:∀ p o,H p=some o->p ∉ μ->H' p=some o/\p ∉ μ'
theorem Ext.refl(μ:List Addr)(H:Hp):Ext μ H μ H:=⟨⟨[],by simp⟩,fun _ _ h=>h,fun _ _ _ h=>h,fun _ _ h n=>⟨h,n⟩⟩
theorem Ext.trans{μ μ1 μ2:List Addr}{H H1 H2:Hp}(a:Ext μ H μ1 H1)(b:Ext μ1 H1 μ2 H2):Ext μ H μ2 H2:=by
 obtain⟨⟨r,rfl⟩,t1,f1,k1⟩:=a;obtain⟨⟨r',rfl⟩,t2,f2,k2⟩:=b;exact⟨⟨r++r',by simp⟩,fun p xs h=>t2 p xs (t1 p xs h),fun p o u h=>f2 p o u (f1 p o u h),fun p o h n=>k2 p o (k1 p o h n).1 (k1 p o h n).2⟩
theorem Ext.get{μ μ':List Addr}{H H':Hp}(e:Ext μ H μ' H'){n:Nat}{a:Addr}(h:μ[n]?=some a):μ'[n]?=some a:=by
 obtain⟨⟨r,rfl⟩,_,_⟩:=e;rw[List.getElem?_append_left (List.getElem?_eq_some_iff.mp h).1];exact h
mutual
theorem Rep.mono{T:Tb}{μ μ':List Addr}{H H':Hp}(e:Ext μ H μ' H'):∀ (d:D) (v:V),Rep T μ H d v->Rep T μ' H' d v
 | .non,v,h=>by simpa [Rep]using h
 | .bl b,v,h=>by simpa [Rep]using h
 | .int i,v,h=>by simpa [Rep]using h
 | .str x,v,h=>by simpa [Rep]using h
 | .tup ds,v,h=>by
  rw[Rep]at h ⊢;obtain⟨p,vs,h1,h2,h3⟩:=h;exact⟨p,vs,h1,e.tup _ _ h2,yqs.mono e ds vs h3⟩
 | .scr ns,v,h=>by
  rw[Rep]at h ⊢;obtain⟨a,h1,h2⟩:=h;refine⟨a,h1,?_⟩;rcases h2 with⟨o,h2⟩|h2
  ·exact .inl ⟨o,e.frz _ _ _ h2⟩
  ·exact .inr h2
 | .ref n,v,h=>by
  rw[Rep]at h ⊢;obtain⟨a,h1,h2⟩:=h;exact⟨a,h1,e.get h2⟩
 | .lst ds,v,h=>by
  rw[Rep]at h ⊢;obtain⟨a,vs,h1,h2,h3,h4⟩:=h;exact⟨a,vs,h1,(e.keep _ _ h3 h2).2,(e.keep _ _ h3 h2).1,yqs.mono e ds vs h4⟩
 | .dic ks ds,v,h=>by
  rw[Rep]at h ⊢;obtain⟨a,vs,h1,h2,h3,h5,h4⟩:=h;exact⟨a,vs,h1,(e.keep _ _ h3 h2).2,(e.keep _ _ h3 h2).1,h5,yqs.mono e ds _ h4⟩
 | .obj c ns ds,v,h=>by
  rw[Rep]at h ⊢;obtain⟨a,dx,vs,h1,h2,h3,h5,h4⟩:=h;exact⟨a,dx,vs,h1,(e.keep _ _ h3 h2).2,(e.keep _ _ h3 h2).1,h5,yqs.mono e ds _ h4⟩
 | .exn c,v,h=>by
  rw[Rep]at h ⊢;obtain⟨a,dd,h1,h2,h3,h4⟩:=h;exact⟨a,dd,h1,(e.keep _ _ h3 h2).2,(e.keep _ _ h3 h2).1,fun n q=>let ⟨dN,q1,q2,q3⟩:=h4 n q;⟨dN,q1,(e.keep _ _ q3 q2).2,(e.keep _ _ q3 q2).1⟩⟩
theorem yqs.mono{T:Tb}{μ μ':List Addr}{H H':Hp}(e:Ext μ H μ' H'):∀ (ds:List D) (vs:List V),yqs T μ H ds vs->yqs T μ' H' ds vs
 |[],vs,h=>by simpa [yqs]using h
 |d::ds,vs,h=>by
  rw[yqs]at h ⊢;obtain⟨v,r,h1,h2,h3⟩:=h;exact⟨v,r,h1,Rep.mono e d v h2,yqs.mono e ds r h3⟩
end
theorem yqs.nil{T:Tb}{μ:List Addr}{H:Hp}:yqs T μ H [] []:=by rw[yqs]
theorem yqs.cons{T:Tb}{μ:List Addr}{H:Hp}{d:D}{v:V}{ds:List D}{vs:List V}(h1:Rep T μ H d v)(h2:yqs T μ H ds vs):yqs T μ H (d::ds) (v::vs):=by
 rw[yqs];exact⟨v,vs,rfl,h1,h2⟩
theorem yqs.length{T:Tb}{μ:List Addr}{H:Hp}:∀ {ds:List D} {vs:List V},yqs T μ H ds vs->ds.length=vs.length
 |[],vs,h=>by rw[yqs]at h;subst h;rfl
 |d::ds,vs,h=>by
  rw[yqs]at h;obtain⟨v,r,rfl,_,h3⟩:=h;simp[yqs.length h3]
theorem yqs.get{T:Tb}{μ:List Addr}{H:Hp}:∀ {ds:List D} {vs:List V} {i:Nat} {d:D},yqs T μ H ds vs->ds[i]?=some d->∃ v,vs[i]?=some v/\Rep T μ H d v
 |[],vs,i,d,h,e=>by simp at e
 |d::ds,vs,0,x,h,e=>by
  rw[yqs]at h;obtain⟨v,r,rfl,h2,h3⟩:=h;simp at e;subst e;exact⟨v,rfl,h2⟩
 |d::ds,vs,i+1,x,h,e=>by
  rw[yqs]at h;obtain⟨v,r,rfl,h2,h3⟩:=h;simpa using yqs.get (i:=i) h3 (by simpa using e)
theorem yqs.append{T:Tb}{μ:List Addr}{H:Hp}:∀ {ds es:List D} {vs us:List V},yqs T μ H ds vs->yqs T μ H es us->yqs T μ H (ds++es) (vs++us)
 |[],es,vs,us,h,h'=>by rw[yqs]at h;subst h;simpa using h'
 |d::ds,es,vs,us,h,h'=>by
  rw[yqs]at h;obtain⟨v,r,rfl,h2,h3⟩:=h;exact yqs.cons h2 (yqs.append h3 h')
theorem yqs.set{T:Tb}{μ:List Addr}{H:Hp}{d:D}{v:V}(hd:Rep T μ H d v):∀ {ds:List D} {vs:List V} (i:Nat),yqs T μ H ds vs->yqs T μ H (ds.set i d) (vs.set i v)
 |[],vs,i,h=>by rw[yqs]at h;subst h;simpa using yqs.nil
 |x::ds,vs,0,h=>by
  rw[yqs]at h;obtain⟨w,r,rfl,h2,h3⟩:=h;exact yqs.cons hd h3
 |x::ds,vs,i+1,h=>by
  rw[yqs]at h;obtain⟨w,r,rfl,h2,h3⟩:=h;exact yqs.cons h2 (yqs.set hd i h3)
theorem yqs.drop{T:Tb}{μ:List Addr}{H:Hp}:∀ {ds:List D} {vs:List V} (n:Nat),yqs T μ H ds vs->yqs T μ H (ds.drop n) (vs.drop n)
 |ds,vs,0,h=>by simpa using h
 |[],vs,n+1,h=>by rw[yqs]at h;subst h;simpa using yqs.nil
 |x::ds,vs,n+1,h=>by
  rw[yqs]at h;obtain⟨w,r,rfl,h2,h3⟩:=h;simpa using yqs.drop n h3
theorem yqs.take{T:Tb}{μ:List Addr}{H:Hp}:∀ {ds:List D} {vs:List V} (n:Nat),yqs T μ H ds vs->yqs T μ H (ds.take n) (vs.take n)
 |ds,vs,0,h=>by simpa using yqs.nil
 |[],vs,n+1,h=>by rw[yqs]at h;subst h;simpa using yqs.nil
 |x::ds,vs,n+1,h=>by
  rw[yqs]at h;obtain⟨w,r,rfl,h2,h3⟩:=h;exact yqs.cons h2 (yqs.take n h3)
def yqq(T:Tb)(μ:List Addr)(H:Hp):List (Str × D)->List (Str × V)->Prop:=Paired fun p q=>p.1=q.1/\Rep T μ H p.2 q.2
def yqr(T:Tb)(μ:List Addr)(H:Hp):List (Key × D)->List (Key × V)->Prop:=Paired fun p q=>p.1=q.1/\Rep T μ H p.2 q.2
def ObR(T:Tb)(μ:List Addr)(H:Hp)(a:Addr):Ob->Prop
 | .lst ds=>∃ vs,H a=some (.lst vs)/\yqs T μ H ds vs
 | .dic kvs=>∃ vs,H a=some (.dK vs)/\yqr T μ H kvs vs
 | .ins c fs=>∃ dx vs,H a=some (.ins (T.ca c) dx vs)/\yqq T μ H fs vs
structure Rel(T:Tb)(μ:List Addr)(H:Hp)(σ:Sto):Prop where
 len:μ.length=σ.length
 nd:μ.Nodup
 obs:∀ (n:Nat) (o:Ob),σ[n]?=some o->∃ a,μ[n]?=some a/\ObR T μ H a o
def yp6(T:Tb)(μ:List Addr)(H:Hp)(ρ:Ev)(st:St):Prop:=ρ.length=st.length/\∀ (i:Nat) (d:D),ρ[i]?=some (some d)->∃ v,st[i]?=some (some v)/\Rep T μ H d v
theorem yp6.mono{T:Tb}{μ μ':List Addr}{H H':Hp}{ρ:Ev}{st:St}(e:Ext μ H μ' H')(h:yp6 T μ H ρ st):yp6 T μ' H' ρ st:=
 ⟨h.1,fun i d q=>let ⟨v,h1,h2⟩:=h.2 i d q;⟨v,h1,Rep.mono e d v h2⟩⟩
theorem yp6.set{T:Tb}{μ:List Addr}{H:Hp}{ρ:Ev}{st:St}{d:D}{v:V}(h:yp6 T μ H ρ st)(i:Nat)(r:Rep T μ H d v):yp6 T μ H (ρ.set i (some d)) (st.set i (some v)):=by
 refine⟨by simpa using h.1,fun j x q=>?_⟩;rw[List.getElem?_set]at q;by_cases hj:i=j
 ·subst hj;rw[if_pos rfl]at q;split at q
  ·rename_i hl
   cases q;exact⟨v,by rw[List.getElem?_set,if_pos rfl,if_pos (by rw[<-h.1];exact hl)],r⟩
  ·cases q
 ·rw[if_neg hj]at q;obtain⟨w,h1,h2⟩:=h.2 j x q;exact⟨w,by rw[List.getElem?_set,if_neg hj];exact h1,h2⟩
def Unt(e:Addr)(cls a0:Value)(h:Heap):Prop:=∃ oe vs,h.get? e=some oe/\oe.cls=cls/\oe.data=.fields vs/\1<vs.size/\vs[0]?=some a0/\vs[1]?=some .none
def yp8(B:Heap)(l:List Env)(e:Addr)(cls a0:Value)(h:Heap):Prop:=B.StaysIn h/\B.get? e=none/\h.FunFrames B l/\((∃ fl,h.TracedAtW B e cls a0 fl)\/Unt e cls a0 h)
def yqn(o:Obj)(n:Nat):Prop:=∃ es ep t,o.data=.dict es ep/\StrKeys es/\nsFind es "pot" = some (.int n t)
def FdH(fd:Option Nat)(e:Addr)(B h h0:Heap)(H':Hp):Prop:=∀ n,fd=some n->∃ dN oD oe,h.get? e=some oe/\oe.dict=some dN/\B.get? dN=some oD/\yqn oD n/\H' dN=none/\h0.get? dN=none
structure Fly(P:Program)(w:World)(outer:List Env)(H:Hp)(s:Shared)(cls:Value)(fd:Option Nat)(H':Hp)(e:Value)(s':Shared):Prop where
 ex:∃ (ea:Addr) (a0:Value) (B:Heap),e=.ref ea/\yp8 B outer ea cls a0 s'.heap/\H' ea=none/\s.heap.get? ea=none/\
  (∀ b o,H' b=some o->∃ ob,B.get? b=some ob)/\(∀ b o,s.heap.get? b=some o->H b=none->b ∉ frs outer->B.get? b=some o)/\(∀ b o,s.heap.get? b=some o->b ∉ frs outer->∃ o',B.get? b=some o')/\FdH fd ea B s'.heap s.heap H'
 os:s'.os=s.os
 bare:AllBare s'.gens
 un:Un (frs outer) [] H H' s.heap s'.heap
 hok:HOk P w H' s'.heap
def CXE(P:Program)(w:World):CXT:=fun outer H s E e s'=>∃ cls fd H',Fly P w outer H s cls fd H' e s'/\E cls fd H'
structure Thr(X:Cx)(st:St)(cls:Value)(fd:Option Nat)(H':Hp):Prop where
 fly:∀ (pins:List (Addr × Obj)) (H:Hp) (s:Shared) (e:Value) (s':Shared),Inv X pins st H s->Fly X.prog X.w X.stack H s cls fd H' e s'->X.xe e s'
abbrev XE(X:Cx)(st:St):XK:=fun cls fd H'=>Thr X st cls fd H'
def yqm{α γ:Type}(T:Tb)(E:XK)(R:List Addr->Hp->α->γ->Prop)(μ:List Addr)(H:Hp)(o:Out α)(Q:γ->Hp->Prop):Prop:=match o with
 | .ok a σ=>∀ μ' g H',Ext μ H μ' H'->Rel T μ' H' σ->R μ' H' a g->Q g H'
 | .ex x σ=>∀ μ' H',Ext μ H μ' H'->Rel T μ' H' σ->E (T.cv x) (fdN x.cls) H'
 | .bad=>False
theorem yqm.mono{α γ:Type}{T:Tb}{E:XK}{R:List Addr->Hp->α->γ->Prop}{μ μ1:List Addr}{H H1:Hp}{o:Out α}{Q:γ->Hp->Prop}(e:Ext μ H μ1 H1)(h:yqm T E R μ H o Q):yqm T E R μ1 H1 o Q:=by
 cases o with
 |ok a σ=>exact fun μ' g H' e' r q=>h μ' g H' (e.trans e') r q
 |ex x σ=>exact fun μ' H' e' r=>h μ' H' (e.trans e') r
 |bad=>exact h
theorem yqm.imp{α γ:Type}{T:Tb}{E:XK}{R:List Addr->Hp->α->γ->Prop}{μ:List Addr}{H:Hp}{o:Out α}{Q Q':γ->Hp->Prop}(h:yqm T E R μ H o Q)(k:∀ g H',Q g H'->Q' g H'):yqm T E R μ H o Q':=by
 cases o with
 |ok a σ=>exact fun μ' g H' e' r q=>k _ _ (h μ' g H' e' r q)
 |ex x σ=>exact h
 |bad=>exact h
theorem yqm.bind{α β γ δ:Type}{T:Tb}{E:XK}{R:List Addr->Hp->α->γ->Prop}{R':List Addr->Hp->β->δ->Prop}{μ:List Addr}{H:Hp}{m:M α}{k:α->M β}{σ:Sto}{Q:δ->Hp->Prop}{Q1:γ->Hp->Prop}
  (h:yqm T E R' μ H (bnd m k σ) Q) (f:∀ a σ1 μ1 g H1,m σ=.ok a σ1->Ext μ H μ1 H1->Rel T μ1 H1 σ1->R μ1 H1 a g->yqm T E R' μ1 H1 (k a σ1) Q->Q1 g H1):yqm T E R μ H (m σ) Q1:=by
 unfold bnd at h;cases e:m σ with
 |ok a σ1=>
  rw[e]at h;exact fun μ' g H' e' r q=>f a σ1 μ' g H' e e' r q (h.mono e')
 |ex x σ1=>rw[e]at h;exact h
 |bad=>rw[e]at h;exact h
theorem yqm.here{T:Tb}{E:XK}{α γ:Type}{R:List Addr->Hp->α->γ->Prop}{μ:List Addr}{H:Hp}{d:α}{σ:Sto}{g:γ}{Q:γ->Hp->Prop}(h:yqm T E R μ H (.ok d σ) Q)(r:Rel T μ H σ)(p:R μ H d g):Q g H:=h μ g H (Ext.refl _ _) r p
section
variable(T:Tb)(X:Cx)
def tF(f:Ev->M D):TE:=fun st H Q=>∃ μ ρ σ,yp6 T μ H ρ st/\Rel T μ H σ/\yqm T (XE X st) (Rep T) μ H (f ρ σ) Q
def ykx:List Addr->Hp->Bool->Bool->Prop:=fun _ _ a b=>b=a
def tT(f:Ev->M Bool):TT:=fun st H Q=>∃ μ ρ σ,yp6 T μ H ρ st/\Rel T μ H σ/\yqm T (XE X st) ykx μ H (f ρ σ) Q
def tL(f:Ev->M (List D)):TA:=fun st H Q=>∃ μ ρ σ,yp6 T μ H ρ st/\Rel T μ H σ/\yqm T (XE X st) (yqs T) μ H (f ρ σ) Q
inductive Gl2 where
 |nx (st:St)|rt (v:V)|bk (st:St)|ct (st:St)|xc (st:St) (cls:Value) (fd:Option Nat)
def RFl(T:Tb)(μ:List Addr)(H:Hp):Fl->Gl2->Prop
 | .nx ρ,.nx st=>yp6 T μ H ρ st
 | .rt d,.rt v=>Rep T μ H d v
 | .bk ρ,.bk st=>yp6 T μ H ρ st
 | .ct ρ,.ct st=>yp6 T μ H ρ st
 | .xc ρ x,.xc st cls fd=>yp6 T μ H ρ st/\cls=T.cv x/\fd=fdN x.cls
 |_,_=>False
def yp7(X:Cx)(D:Ends):Gl2->Hp->Prop
 | .nx st,H=>D.nx st H
 | .rt v,H=>D.rt v H
 | .bk st,H=>D.bk st H
 | .ct st,H=>D.ct st H
 | .xc st cls fd,H=>Thr X st cls fd H
abbrev EN:XK:=fun _ _ _=>False
def tS(g:Ev->M Fl):TS:=fun D st H=>∃ μ ρ σ,yp6 T μ H ρ st/\Rel T μ H σ/\yqm T EN (RFl T) μ H (g ρ σ) (yp7 X D)
end
def xs{α:Type}(ρ:Ev)(m:M α)(k:α->M Fl):M Fl:=fun σ=>match m σ with
 | .ok a σ'=>k a σ'
 | .ex x σ'=>.ok (.xc ρ x) σ'
 | .bad=>.bad
theorem yqm.xs{α γ:Type}{T:Tb}{X:Cx}{D:Ends}{R:List Addr->Hp->α->γ->Prop}{μ:List Addr}{H:Hp}{ρ:Ev}{st:St}{m:M α}{k:α->M Fl}{σ:Sto}{Q1:γ->Hp->Prop}(hE:yp6 T μ H ρ st)
  (h:yqm T EN (RFl T) μ H (L4.xs ρ m k σ) (yp7 X D)) (f:∀ a σ1 μ1 g H1,m σ=.ok a σ1->Ext μ H μ1 H1->Rel T μ1 H1 σ1->R μ1 H1 a g->yqm T EN (RFl T) μ1 H1 (k a σ1) (yp7 X D)->Q1 g H1):yqm T (XE X st) R μ H (m σ) Q1:=by
 unfold L4.xs at h;cases e:m σ with
 |ok a σ1=>
  rw[e]at h;exact fun μ' g H' e' r q=>f a σ1 μ' g H' e e' r q (h.mono e')
 |ex x σ1=>
  rw[e]at h;intro μ' H' e' r;exact h μ' (.xc st (T.cv x) (fdN x.cls)) H' e' r ⟨hE.mono e',rfl,rfl⟩
 |bad=>rw[e]at h;exact h
abbrev FE(T:Tb)(X:Cx)(e:Expr)(f:Ev->M D):Prop:=PE X e (tF T X f)
abbrev FT(T:Tb)(X:Cx)(e:Expr)(f:Ev->M Bool):Prop:=PT X e (tT T X f)
abbrev FW(T:Tb)(X:Cx)(e:Expr)(f:Ev->M Bool):Prop:=PW X e (tT T X f)
abbrev FA(T:Tb)(X:Cx)(es:List Expr)(f:Ev->M (List D)):Prop:=PA X es (tL T X f)
abbrev FS(T:Tb)(X:Cx)(st:Stmt)(g:Ev->M Fl):Prop:=PS X st (tS T X g)
abbrev FSs(T:Tb)(X:Cx)(st:List Stmt)(g:Ev->M Fl):Prop:=PSs X st (tS T X g)
end L4
namespace L4
open PySem PySem.Spec PyProof.Rows L2
def cap:Nat:=1000
theorem yd2{n:Nat}(h:n<=cap):n<=sizeLine:=Nat.le_of_lt (znk h)
theorem yd3{n:Nat}(h:n<cap):n<sizeLine:=znk (Nat.le_of_lt h)
theorem zrj{α:Type}{l:List α}(h:l.Nodup){i j:Nat}{a:α}(hi:l[i]?=some a)(hj:l[j]?=some a):i=j:=by
 obtain⟨q1,q2⟩:=List.getElem?_eq_some_iff.mp hi;obtain⟨q3,q4⟩:=List.getElem?_eq_some_iff.mp hj;have hp:=List.pairwise_iff_getElem.mp h;rcases Nat.lt_trichotomy i j with z|z|z
 ·exact absurd (q2.trans q4.symm) (hp i j q1 q3 z)
 ·exact z
 ·exact absurd (q4.trans q2.symm) (hp j i q3 q1 z)
section
variable{T:Tb}{μ μ':List Addr}{H H':Hp}{σ:Sto}
theorem zgx{α:Type}(e:Ext μ H μ' H'){xs:List (α × D)}{ys:List (α × V)}(h:Paired (fun(p:α × D) (q:α × V)=>p.1=q.1/\Rep T μ H p.2 q.2) xs ys) :
  Paired (fun(p:α × D) (q:α × V)=>p.1=q.1/\Rep T μ' H' p.2 q.2) xs ys:=L2.Paired.mapP h fun p q z=>⟨z.1,Rep.mono e _ _ z.2⟩
theorem ObR.mono(e:Ext μ H μ' H'){a:Addr}(ha:H' a=H a):∀ {o:Ob},ObR T μ H a o->ObR T μ' H' a o
 | .lst ds,⟨vs,h,r⟩=>⟨vs,ha.trans h,yqs.mono e _ _ r⟩
 | .dic kvs,⟨vs,h,r⟩=>⟨vs,ha.trans h,zgx e r⟩
 | .ins c fs,⟨dx,vs,h,r⟩=>⟨dx,vs,ha.trans h,zgx e r⟩
theorem ObR.some{a:Addr}:∀ {o:Ob},ObR T μ H a o->∃ u,H a=Option.some u/\(∀ xs,u≠.tup xs)/\(∀ ob w,u≠.frz ob w)
 | .lst ds,⟨vs,h,r⟩=>⟨_,h,(fun _ z=>by cases z),(fun _ _ z=>by cases z)⟩
 | .dic kvs,⟨vs,h,r⟩=>⟨_,h,(fun _ z=>by cases z),(fun _ _ z=>by cases z)⟩
 | .ins c fs,⟨dx,vs,h,r⟩=>⟨_,h,(fun _ z=>by cases z),(fun _ _ z=>by cases z)⟩
theorem Rel.keep(r:Rel T μ H σ)(e:Ext μ H μ H')(k:∀ a∈μ,H' a=H a):Rel T μ H' σ:=
 ⟨r.len,r.nd,fun n o h=>let ⟨a,h1,h2⟩:=r.obs n o h;⟨a,h1,h2.mono e (k a (List.mem_of_getElem? h1))⟩⟩
theorem Rel.mem(r:Rel T μ H σ){a:Addr}(h:a∈μ):∃ u,H a=some u/\(∀ xs,u≠.tup xs)/\(∀ ob w,u≠.frz ob w):=by
 obtain⟨n,hn⟩:=List.getElem?_of_mem h;have hl:n<σ.length:=by rw[<-r.len];exact(List.getElem?_eq_some_iff.mp hn).1
 obtain⟨a',h1,h2⟩:=r.obs n σ[n] (by simp[hl]);rw[hn]at h1;cases h1;exact h2.some
theorem zwh{p:Addr}{o:HO}(hp:H p=none):Ext μ H μ (upd H p o):=
 ⟨⟨[],by simp⟩,fun q xs h=>by rw[upd_ne (ziq h hp)];exact h,fun q ob u h=>by rw[upd_ne (ziq h hp)];exact h,fun q ob h n=>⟨by rw[upd_ne (ziq h hp)];exact h,n⟩⟩
theorem Rel.fresh(r:Rel T μ H σ){p:Addr}{o:HO}(hp:H p=none):Rel T μ (upd H p o) σ:=
 r.keep (zwh hp) fun a ha=>by obtain⟨u,h,_⟩:=r.mem ha;rw[upd_ne (ziq h hp)]
theorem zpd{p:Addr}{o:HO}(hp:H p=none):Ext μ H (μ++[p]) (upd H p o):=
 ⟨⟨[p],rfl⟩,(zwh (μ:=μ) hp).tup,(zwh (μ:=μ) hp).frz,fun q ob h n=>⟨((zwh (μ:=μ) hp).keep q ob h n).1,fun z=>(List.mem_append.mp z).elim n fun z=>ziq h hp (by simpa using z)⟩⟩
theorem Rel.push(r:Rel T μ H σ){p:Addr}{o:HO}{ob:Ob}(hp:H p=none)(ho:ObR T (μ++[p]) (upd H p o) p ob):Rel T (μ++[p]) (upd H p o) (σ++[ob]):=by
 refine⟨by simp[r.len],?_,fun n x h=>?_⟩
 ·rw[List.nodup_append];refine⟨r.nd,by simp,fun a ha b hb e=>?_⟩;have eb:b=p:=by simpa using hb
  subst eb;subst e;obtain⟨u,h,_⟩:=r.mem ha;rw[hp]at h;cases h
 ·by_cases hn:n<σ.length
  ·rw[List.getElem?_append_left hn]at h;obtain⟨a,h1,h2⟩:=r.obs n x h;obtain⟨u,hu,_⟩:=h2.some;exact⟨a,by rw[List.getElem?_append_left (by rw[r.len];exact hn)];exact h1,h2.mono (zpd hp) (upd_ne (ziq hu hp))⟩
  ·rw[List.getElem?_append_right (by omega)]at h;have e0:n - σ.length=0:=by
    have:=(List.getElem?_eq_some_iff.mp h).1;simp at this;omega
   rw[e0]at h;simp at h;subst h;have en:n=μ.length:=by rw[r.len];omega
   subst en;exact⟨p,by simp,ho⟩
theorem zsw{p:Addr}{o:HO}(r:Rel T μ H σ):Rep T (μ++[p]) (upd H p o) (.ref σ.length) (.ref p):=by
 rw[Rep];exact⟨p,rfl,by rw[<-r.len];simp⟩
theorem zk1{a:Addr}{u o:HO}(hm:a∈μ)(ha:H a=some u)(h1:∀ xs,u≠.tup xs)(h2:∀ ob w,u≠.frz ob w):Ext μ H μ (upd H a o):=
 ⟨⟨[],by simp⟩,fun q xs h=>by rw[upd_ne (ynr h ha (fun z=>h1 xs z.symm))];exact h,fun q ob w h=>by rw[upd_ne (ynr h ha (fun z=>h2 ob w z.symm))];exact h,fun q ob h n=>⟨by rw[upd_ne (fun z=>n (by rw[z];exact hm))];exact h,n⟩⟩
theorem Rel.write(r:Rel T μ H σ){n:Nat}{a:Addr}{o:HO}{ob:Ob}(hn:μ[n]?=some a)(ho:ObR T μ (upd H a o) a ob):Ext μ H μ (upd H a o)/\Rel T μ (upd H a o) (σ.set n ob):=by
 obtain⟨u,hu,h1,h2⟩:=r.mem (List.mem_of_getElem? hn);have e:Ext μ H μ (upd H a o):=zk1 (List.mem_of_getElem? hn) hu h1 h2;refine⟨e,by simp[r.len],r.nd,fun m x h=>?_⟩;rw[List.getElem?_set]at h;by_cases hm:n=m
 ·subst hm;rw[if_pos rfl]at h;split at h
  ·cases h;exact⟨a,hn,ho⟩
  ·cases h
 ·rw[if_neg hm]at h;obtain⟨b,h3,h4⟩:=r.obs m x h;refine⟨b,h3,h4.mono e (upd_ne fun z=>hm ?_)⟩;subst z;exact zrj r.nd hn h3
theorem Rel.at(r:Rel T μ H σ){n:Nat}{v:V}{o:Ob}(h:Rep T μ H (.ref n) v)(e:σ[n]?=some o):∃ a,v=.ref a/\μ[n]?=some a/\ObR T μ H a o:=by
 rw[Rep]at h;obtain⟨a,rfl,ha⟩:=h;obtain⟨a',h1,h2⟩:=r.obs n o e;rw[ha]at h1;cases h1;exact⟨a,rfl,ha,h2⟩
end
def yrr(i:Nat):Ev->M D:=fun ρ σ=>match ρ[i]? with
 |some (some d)=>.ok d σ
 |_=>.bad
def eC(d:D):Ev->M D:=fun _=>ret d
def yq5(o:D->D->M D)(m:M D)(x:D):M D:=bnd m (o x)
def yrl(o:D->D->M D)(a b:Ev->M D):Ev->M D:=fun ρ=>bnd (a ρ) (yq5 o (b ρ))
def eUn(o:D->M D)(a:Ev->M D):Ev->M D:=fun ρ=>bnd (a ρ) o
def tst(d:D):M Bool:=match d with
 | .bl b=>ret b
 |_=>bad
def ifK{α:Type}(p q:M α)(c:Bool):M α:=if c=true then p else q
def yss(c:Bool):M Bool:=ret (!c)
def yps{α:Type}(k:Bool->M α)(d:D):M α:=bnd (tst d) k
def eT(f:Ev->M D):Ev->M Bool:=fun ρ=>bnd (f ρ) tst
def yq3(a b:Ev->M Bool):Ev->M Bool:=fun ρ=>bnd (a ρ) (ifK (b ρ) (ret false))
def bOr(a b:Ev->M Bool):Ev->M Bool:=fun ρ=>bnd (a ρ) (ifK (ret true) (b ρ))
def yq4(a:Ev->M Bool):Ev->M Bool:=fun ρ=>bnd (a ρ) yss
def yrk(a b:Ev->M D):Ev->M D:=fun ρ=>bnd (a ρ) (yps (ifK (b ρ) (ret (.bl false))))
def eOr(a b:Ev->M D):Ev->M D:=fun ρ=>bnd (a ρ) (yps (ifK (ret (.bl true)) (b ρ)))
def ynq(c:Bool):M D:=ret (.bl (!c))
def yrp(a:Ev->M D):Ev->M D:=fun ρ=>bnd (a ρ) (yps ynq)
def eIf(t:Ev->M Bool)(a b:Ev->M D):Ev->M D:=fun ρ=>bnd (t ρ) (ifK (a ρ) (b ρ))
def yqy:Ev->M (List D):=fun _=>ret []
def ylm(x:D)(xs:List D):M (List D):=ret (x::xs)
def ydn(m:M (List D))(x:D):M (List D):=bnd m (ylm x)
def yk5(e:Ev->M D)(r:Ev->M (List D)):Ev->M (List D):=fun ρ=>bnd (e ρ) (ydn (r ρ))
def yvl(ds:List D):M D:=if ds.length<=cap then ret (.tup ds)else bad
def yrq(a:Ev->M (List D)):Ev->M D:=fun ρ=>bnd (a ρ) yvl
def ynm(ds:List D):M D:=fun σ=>.ok (.ref σ.length) (σ++[.lst ds])
def ysg(ds:List D):M D:=if ds.length<=cap then ynm ds else bad
def yrn(a:Ev->M (List D)):Ev->M D:=fun ρ=>bnd (a ρ) ysg
def lvK(ds:List D):M D:=if ds.length<=cap then ret (.lst ds)else bad
def eLv(a:Ev->M (List D)):Ev->M D:=fun ρ=>bnd (a ρ) lvK
def yk0(T:Tb)(r:R2)(o:D->D->M D):Prop:=∀ (E:XK) μ H σ x y v u Q,Rel T μ H σ->Rep T μ H x v->Rep T μ H y u->yqm T E (Rep T) μ H (o x y σ) Q->r v u H Q
def yk1(T:Tb)(r:V->Hp->VK->Prop)(o:D->M D):Prop:=∀ (E:XK) μ H σ x v Q,Rel T μ H σ->Rep T μ H x v->yqm T E (Rep T) μ H (o x σ) Q->r v H Q
def zuq(T:Tb)(r:List V->Hp->VK->Prop)(o:List D->M D):Prop:=∀ (E:XK) μ H σ xs vs Q,Rel T μ H σ->yqs T μ H xs vs->yqm T E (Rep T) μ H (o xs σ) Q->r vs H Q
section
variable{T:Tb}{X:Cx}{a b c:Expr}{fa fb:Ev->M D}{ta tb:Ev->M Bool}{pos:Pos}
theorem yfm(i:Nat){x:Str}(hN:X.N[i]?=some x:=by rfl)(hv:Vis X.env.scope x:=by first|exact Or.inl rfl|exact Or.inr (Or.inl rfl)|exact Or.inr (Or.inr rfl))(hd:(x == ("__debug__" : Str))=false:=by decide)
  (hcd:(x == ("__classdict__" : Str))=false:=by decide):FE T X (.Name x pos) (yrr i):=by
 intro pins s st H Q I h;obtain⟨μ,ρ,σ,he,hr,hp⟩:=h;refine yiw hN hv hd hcd pins s st H Q I ?_;unfold yrr at hp;cases e:ρ[i]? with
 |none=>rw[e]at hp;exact hp.elim
 |some o=>
  cases o with
  |none=>rw[e]at hp;exact hp.elim
  |some d=>
   rw[e]at hp;obtain⟨v,h1,h2⟩:=he.2 i d e;exact⟨v,h1,hp.here hr h2⟩
theorem zph{e:Expr}{v:V}{d:D}(h:PE X e (tC v))(r:∀ μ H,Rep T μ H d v):FE T X e (eC d):=by
 intro pins s st H Q I hq;obtain⟨μ,ρ,σ,he,hr,hp⟩:=hq;exact h pins s st H Q I (yqm.here hp hr (r _ _))
theorem yfb{i:Int}{j}:FE T X (.Constant (.int i) j pos) (eC (.int i)):=zph yip fun _ _=>by rw[Rep]
theorem yl4{i:Bool}{j}:FE T X (.Constant (.bool i) j pos) (eC (.bl i)):=zph yod fun _ _=>by rw[Rep]
theorem yfh{j}:FE T X (.Constant .none j pos) (eC .non):=zph yir fun _ _=>by rw[Rep]
theorem yfk{i:Str}{j}:FE T X (.Constant (.str i) j pos) (eC (.str i)):=zph yiu fun _ _=>by rw[Rep]
theorem zpi{x:Str}{u:Value}{i:Int}(hg:Gl X x)(hm:X.mg x=some u)(r:yqp (.int i) u)(hd:(x == ("__debug__" : Str))=false:=by decide):FE T X (.Name x pos) (eC (.int i)):=zph (yak hg hm r hd) fun _ _=>by rw[Rep]
theorem two{r:R2}{o:D->D->M D}(hs:yk0 T r o){st:St}{H:Hp}{Q:VK}(h:tF T X (yrl o fa fb) st H Q):tOp r (tF T X fa) (tF T X fb) st H Q:=by
 obtain⟨μ,ρ,σ,he,hr,hp⟩:=h;exact⟨μ,ρ,σ,he,hr,hp.bind fun x σ1 μ1 v H1 _ e1 r1 p1 q1=>⟨μ1,ρ,σ1,he.mono e1,r1,q1.bind fun y σ2 μ2 u H2 _ e2 r2 p2 q2=>hs _ μ2 H2 σ2 x y v u Q r2 (Rep.mono e2 _ _ p1) p2 q2⟩⟩
theorem yl8{op:Operator}{r:R2}{o:D->D->M D}(ho:OpR X (binaryOp op) r)(hs:yk0 T r o)(ha:FE T X a fa)(hb:FE T X b fb):FE T X (.BinOp a op b pos) (yrl o fa fb):=
 fun pins s st H Q I h=>yog ho ha hb pins s st H Q I (two hs h)
theorem ye8{op:CmpOp}{r:R2}{o:D->D->M D}(ho:OpR X (compareOp op) r)(hs:yk0 T r o)(ha:FE T X a fa)(hb:FE T X b fb)(hm:behindInMarks op b=false):FE T X (.Compare a [op] [b] pos) (yrl o fa fb):=
 fun pins s st H Q I h=>yah ho ha hb hm pins s st H Q I (two hs h)
theorem yl5{r:R2}{o:D->D->M D}(ho:IxR X r)(hs:yk0 T r o)(ha:FE T X a fa)(hb:FE T X b fb)(hp:zup b):FE T X (.Subscript a b pos) (yrl o fa fb):=
 fun pins s st H Q I h=>yof ho ha hb hp pins s st H Q I (two hs h)
theorem yma{op:UnaryOp}{r:V->Hp->VK->Prop}{o:D->M D}(ho:UnR X (unaryOp op) r)(hs:yk1 T r o)(ha:FE T X a fa):FE T X (.UnaryOp op a pos) (eUn o fa):=by
 intro pins s st H Q I h;refine yoi ho ha pins s st H Q I ?_;obtain⟨μ,ρ,σ,he,hr,hp⟩:=h;exact⟨μ,ρ,σ,he,hr,hp.bind fun x σ1 μ1 v H1 _ e1 r1 p1 q1=>hs _ μ1 H1 σ1 x v Q r1 p1 q1⟩
theorem ykc{E:XK}{d:D}{σ:Sto}{μ:List Addr}{H:Hp}{v:V}{β δ:Type}{R':List Addr->Hp->β->δ->Prop}{k:Bool->M β}{Q:δ->Hp->Prop}(r:Rep T μ H d v)(h:yqm T E R' μ H (bnd (tst d) k σ) Q):∃ c,d=.bl c/\v=.bl c/\yqm T E R' μ H (k c σ) Q:=by
 cases d with
 |bl c=>rw[Rep]at r;exact⟨c,rfl,r,h⟩
 |_=>exact h.elim
theorem yc6{E:XK}{d:D}{σ:Sto}{μ:List Addr}{H:Hp}{v:V}{Q:Bool->Hp->Prop}(r:Rep T μ H d v)(h:yqm T E ykx μ H (tst d σ) Q):∃ c,v=.bl c/\yqm T E ykx μ H (.ok c σ) Q:=by
 cases d with
 |bl c=>rw[Rep]at r;exact⟨c,r,h⟩
 |_=>exact h.elim
theorem yf1{op:CmpOp}{r:R2}{o:D->D->M D}(ho:OpR X (compareOp op) r)(hs:yk0 T r o)(ha:FE T X a fa)(hb:FE T X b fb)(hm:behindInMarks op b=false):FT T X (.Compare a [op] [b] pos) (eT (yrl o fa fb)):=by
 intro pins s st H Q I h;refine yay ho ha hb hm pins s st H Q I ?_;refine two (o:=o) hs ?_;obtain⟨μ,ρ,σ,he,hr,hp⟩:=h;refine⟨μ,ρ,σ,he,hr,hp.bind fun d σ1 μ1 v H1 _ e1 r1 p1 q1=>?_⟩;obtain⟨k,ev,q⟩:=yc6 p1 q1;exact⟨k,ev,q.here r1 rfl⟩
theorem yf3{e:Expr}{f:Ev->M D}(h:FE T X e f)(he:∀ whole,isTrue e X.env whole=(do let v <-whole;standAt e.pos;holding [v] (truthy v)):=by intro _;rfl):FT T X e (eT f):=by
 intro pins s st H Q I hw;refine yi8 h he pins s st H Q I ?_;obtain⟨μ,ρ,σ,hE,hr,hp⟩:=hw;refine⟨μ,ρ,σ,hE,hr,hp.bind fun d σ1 μ1 v H1 _ e1 r1 p1 q1=>?_⟩;obtain⟨k,ev,q⟩:=yc6 p1 q1;exact⟨k,ev,q.here r1 rfl⟩
theorem yf2(h:FT T X a ta):FT T X (.UnaryOp .Not a pos) (yq4 ta):=by
 intro pins s st H Q I hw;refine yi7 h pins s st H Q I ?_;obtain⟨μ,ρ,σ,hE,hr,hp⟩:=hw;exact⟨μ,ρ,σ,hE,hr,hp.bind fun c σ1 μ1 v H1 _ e1 r1 p1 q1=>by cases p1;exact q1.here r1 rfl⟩
variable{yud:List Expr}
theorem zxf(h:FT T X a ta):FW T X (.BoolOp .And [a] pos) ta:=ya2 h
theorem yf6(h:FT T X a ta):FW T X (.BoolOp .Or [a] pos) ta:=yja h
theorem yf5(h:FT T X a ta)(hb:FW T X (.BoolOp .And (b::yud) pos) tb):FW T X (.BoolOp .And (a::b::yud) pos) (yq3 ta tb):=by
 intro wh pins s st H Q I hw;refine yi9 h hb wh pins s st H Q I ?_;obtain⟨μ,ρ,σ,hE,hr,hp⟩:=hw;refine⟨μ,ρ,σ,hE,hr,hp.bind fun c σ1 μ1 v H1 _ e1 r1 p1 q1=>?_⟩;cases p1;cases c with
 |true=>unfold ifK at q1;rw[if_pos rfl]at q1 ⊢;exact⟨μ1,ρ,σ1,hE.mono e1,r1,q1⟩
 |false=>unfold ifK at q1;rw[if_neg Bool.false_ne_true]at q1 ⊢;exact q1.here r1 rfl
theorem ymk(h:FT T X a ta)(hb:FW T X (.BoolOp .Or (b::yud) pos) tb):FW T X (.BoolOp .Or (a::b::yud) pos) (bOr ta tb):=by
 intro wh pins s st H Q I hw;refine yon h hb wh pins s st H Q I ?_;obtain⟨μ,ρ,σ,hE,hr,hp⟩:=hw;refine⟨μ,ρ,σ,hE,hr,hp.bind fun c σ1 μ1 v H1 _ e1 r1 p1 q1=>?_⟩;cases p1;cases c with
 |true=>unfold ifK at q1;rw[if_pos rfl]at q1 ⊢;exact q1.here r1 rfl
 |false=>unfold ifK at q1;rw[if_neg Bool.false_ne_true]at q1 ⊢;exact⟨μ1,ρ,σ1,hE.mono e1,r1,q1⟩
theorem yfj{op}(h:FE T X a fa):FE T X (.BoolOp op [a] pos) fa:=yit h
theorem ye7(h:FE T X a fa)(hb:FE T X (.BoolOp .And (b::yud) pos) fb):FE T X (.BoolOp .And (a::b::yud) pos) (yrk fa fb):=by
 intro pins s st H Q I hw;refine yim h hb pins s st H Q I ?_;obtain⟨μ,ρ,σ,hE,hr,hp⟩:=hw;refine⟨μ,ρ,σ,hE,hr,hp.bind fun d σ1 μ1 v H1 _ e1 r1 p1 q1=>?_⟩;obtain⟨c,rfl,ev,q⟩:=ykc p1 q1;refine⟨c,ev,?_⟩;cases c with
 |true=>unfold ifK at q;rw[if_pos rfl]at q ⊢;exact⟨μ1,ρ,σ1,hE.mono e1,r1,q⟩
 |false=>unfold ifK at q;rw[if_neg Bool.false_ne_true]at q ⊢;exact yqm.here q r1 (by rw[Rep])
theorem yl9(h:FE T X a fa)(hb:FE T X (.BoolOp .Or (b::yud) pos) fb):FE T X (.BoolOp .Or (a::b::yud) pos) (eOr fa fb):=by
 intro pins s st H Q I hw;refine yoh h hb pins s st H Q I ?_;obtain⟨μ,ρ,σ,hE,hr,hp⟩:=hw;refine⟨μ,ρ,σ,hE,hr,hp.bind fun d σ1 μ1 v H1 _ e1 r1 p1 q1=>?_⟩;obtain⟨c,rfl,ev,q⟩:=ykc p1 q1;refine⟨c,ev,?_⟩;cases c with
 |true=>unfold ifK at q;rw[if_pos rfl]at q ⊢;exact yqm.here q r1 (by rw[Rep])
 |false=>unfold ifK at q;rw[if_neg Bool.false_ne_true]at q ⊢;exact⟨μ1,ρ,σ1,hE.mono e1,r1,q⟩
theorem yfi(h:FE T X a fa):FE T X (.UnaryOp .Not a pos) (yrp fa):=by
 intro pins s st H Q I hw;refine yis h pins s st H Q I ?_;obtain⟨μ,ρ,σ,hE,hr,hp⟩:=hw;refine⟨μ,ρ,σ,hE,hr,hp.bind fun d σ1 μ1 v H1 _ e1 r1 p1 q1=>?_⟩;obtain⟨c,rfl,ev,q⟩:=ykc p1 q1;exact⟨c,ev,yqm.here q r1 (by rw[Rep])⟩
theorem zpj(hc:FT T X c ta)(ha:FE T X a fa)(hb:FE T X b fb):FE T X (.IfExp c a b pos) (eIf ta fa fb):=by
 intro pins s st H Q I hw;refine zsd hc ha hb pins s st H Q I ?_;obtain⟨μ,ρ,σ,hE,hr,hp⟩:=hw;refine⟨μ,ρ,σ,hE,hr,hp.bind fun d σ1 μ1 v H1 _ e1 r1 p1 q1=>?_⟩;cases p1;cases d with
 |true=>unfold ifK at q1;rw[if_pos rfl]at q1 ⊢;exact⟨μ1,ρ,σ1,hE.mono e1,r1,q1⟩
 |false=>unfold ifK at q1;rw[if_neg Bool.false_ne_true]at q1 ⊢;exact⟨μ1,ρ,σ1,hE.mono e1,r1,q1⟩
variable{e:Expr}{es:List Expr}{fe:Ev->M D}{fs:Ev->M (List D)}
theorem ye6:FA T X [] yqy:=by
 intro pos pins s st H Q I hw;refine yil pos pins s st H Q I ?_;obtain⟨μ,ρ,σ,hE,hr,hp⟩:=hw;exact yqm.here hp hr yqs.nil
theorem zwm(ha:FE T X e fe)(hr:FA T X es fs)(hs:starEach (e::es) X.env=(false,eval e X.env)::starEach es X.env:=by rfl):FA T X (e::es) (yk5 fe fs):=by
 intro pos pins s st H Q I hw;refine yae ha hr hs pos pins s st H Q I ?_;obtain⟨μ,ρ,σ,hE,hr,hp⟩:=hw;exact⟨μ,ρ,σ,hE,hr,hp.bind fun d σ1 μ1 v H1 _ e1 r1 p1 q1=>⟨μ1,ρ,σ1,hE.mono e1,r1,q1.bind fun ds σ2 μ2 vs H2 _ e2 r2 p2 q2=>yqm.here q2 r2 (yqs.cons (Rep.mono e2 _ _ p1) p2)⟩⟩
theorem zzk{E:XK}{μ:List Addr}{H:Hp}{σ:Sto}{ds:List D}{vs:List V}{Q:VK}{p:Addr}(h:yqm T E (Rep T) μ H (.ok (.tup ds) σ) Q)(r:Rel T μ H σ)(q:yqs T μ H ds vs)(hp:H p=none):Q (.ref p) (upd H p (.tup vs)):=
 h μ (.ref p) _ (zwh hp) (r.fresh hp) (by rw[Rep];exact⟨p,vs,rfl,upd_same,yqs.mono (zwh hp) _ _ q⟩)
theorem zzj{E:XK}{μ:List Addr}{H:Hp}{σ:Sto}{ds:List D}{vs:List V}{Q:VK}{p:Addr}(h:yqm T E (Rep T) μ H (ynm ds σ) Q)(r:Rel T μ H σ)(q:yqs T μ H ds vs)(hp:H p=none):Q (.ref p) (upd H p (.lst vs)):=
 h (μ++[p]) (.ref p) _ (zpd hp) (r.push hp ⟨vs,upd_same,yqs.mono (zpd hp) _ _ q⟩) (zsw r)
theorem yfl{x1}(h:FA T X es fs):FE T X (.Tuple es x1 pos) (yrq fs):=by
 intro pins s st H Q I hw;refine yiv h pins s st H Q I ?_;obtain⟨μ,ρ,σ,hE,hr,hp⟩:=hw;refine⟨μ,ρ,σ,hE,hr,hp.bind fun ds σ1 μ1 vs H1 _ e1 r1 p1 q1=>?_⟩;unfold yvl at q1;by_cases hl:ds.length<=cap
 ·rw[if_pos hl]at q1;exact⟨by rw[<-p1.length];exact yd2 hl,fun p hp=>zzk q1 r1 p1 hp⟩
 ·rw[if_neg hl]at q1;exact q1.elim
theorem yff(h:FA T X es fs):FE T X (.List es pos) (yrn fs):=by
 intro pins s st H Q I hw;refine yiq h pins s st H Q I ?_;obtain⟨μ,ρ,σ,hE,hr,hp⟩:=hw;refine⟨μ,ρ,σ,hE,hr,hp.bind fun ds σ1 μ1 vs H1 _ e1 r1 p1 q1=>?_⟩;unfold ysg at q1;by_cases hl:ds.length<=cap
 ·rw[if_pos hl]at q1;exact⟨by rw[<-p1.length];exact yd2 hl,fun p hp=>zzj q1 r1 p1 hp⟩
 ·rw[if_neg hl]at q1;exact q1.elim
theorem yhk{E:XK}{μ:List Addr}{H:Hp}{σ:Sto}{ds:List D}{vs:List V}{Q:VK}{p:Addr}(h:yqm T E (Rep T) μ H (.ok (.lst ds) σ) Q)(r:Rel T μ H σ)(q:yqs T μ H ds vs)(hp:H p=none):Q (.ref p) (upd H p (.lst vs)):=
 h μ (.ref p) _ (zwh hp) (r.fresh hp) (by rw[Rep];exact⟨p,vs,rfl,fun hm=>(by obtain⟨u,hu,_⟩:=r.mem hm;rw[hp]at hu;cases hu),upd_same,yqs.mono (zwh hp) _ _ q⟩)
theorem yl7(h:FA T X es fs):FE T X (.List es pos) (eLv fs):=by
 intro pins s st H Q I hw;refine yiq h pins s st H Q I ?_;obtain⟨μ,ρ,σ,hE,hr,hp⟩:=hw;refine⟨μ,ρ,σ,hE,hr,hp.bind fun ds σ1 μ1 vs H1 _ e1 r1 p1 q1=>?_⟩;unfold lvK at q1;by_cases hl:ds.length<=cap
 ·rw[if_pos hl]at q1;exact⟨by rw[<-p1.length];exact yd2 hl,fun p hp=>yhk q1 r1 p1 hp⟩
 ·rw[if_neg hl]at q1;exact q1.elim
end
def oI(g:Int->Int->Int):D->D->M D
 | .int i,.int j=>ret (.int (g i j))
 |_,_=>bad
def oB(g:Int->Int->Bool):D->D->M D
 | .int i,.int j=>ret (.bl (g i j))
 |_,_=>bad
def oIC(C:Int->Int->Bool)(g:Int->Int->Int):D->D->M D
 | .int i,.int j=>if C i j=true then ret (.int (g i j))else bad
 |_,_=>bad
noncomputable def yra(i j:Int):Bool:=hide ((decide (-(2 ^ 64)<i) && decide (i<2 ^ 64)) || (decide (-(2 ^ 64)<j) && decide (j<2 ^ 64)))
noncomputable def yq8(_ j:Int):Bool:=hide (decide (0<j) && decide (j<1073741824))
noncomputable def yq9(_ j:Int):Bool:=hide (decide (0<j))
noncomputable def yrb(i j:Int):Bool:=hide (decide (0<=j) && decide (j<=1000000) && decide (i.natAbs<2 ^ 64))
noncomputable def yrc(_ j:Int):Bool:=hide (decide (0<=j))
abbrev ytf:=oI (fun i j=>i - j)
noncomputable abbrev ys8:=oIC yra (fun i j=>i * j)
noncomputable abbrev ysx:=oIC yq8 (fun i j=>i / j)
noncomputable abbrev ys7:=oIC yq9 (fun i j=>i % j)
noncomputable abbrev ytb:=oIC yrb (fun i j=>i ^ j.toNat)
noncomputable abbrev yte:=oIC yrc (fun i j=>i / 2 ^ j.toNat)
abbrev ynx:=oI (fun i j=>Builtin.bitAnd i j)
abbrev oLt:=oB (fun i j=>decide (i<j))
abbrev oLe:=oB (fun i j=>decide (i<=j))
abbrev oGt:=oB (fun i j=>decide (j<i))
abbrev oGe:=oB (fun i j=>decide (j<=i))
def yta:D->M D
 | .int i=>ret (.int (-i))
 |_=>bad
def rD(T:Tb)(o:D->D->M D):R2:=fun v u H Q=>∃ (E:XK) (μ:List Addr) (σ:Sto) (x y:D),Rel T μ H σ/\Rep T μ H x v/\Rep T μ H y u/\yqm T E (Rep T) μ H (o x y σ) Q
theorem yuy{T:Tb}{o:D->D->M D}:yk0 T (rD T o) o:=fun E μ H σ x y v u Q r p q h=>⟨E,μ,σ,x,y,r,p,q,h⟩
section
variable{T:Tb}{X:Cx}
theorem yge{μ:List Addr}{H:Hp}{i:Int}{v:V}(h:Rep T μ H (.int i) v):v=.int i:=by simpa [Rep]using h
theorem ypf{g:Int->Int->Int}:yk0 T (rI0 fun i j=>.int (g i j)) (oI g):=by
 intro E μ H σ x y v u Q r p q h;cases x with
 |int i=>
  cases y with
  |int j=>exact⟨i,j,yge p,yge q,yqm.here h r (by rw[Rep])⟩
  |_=>exact h.elim
 |_=>exact h.elim
theorem ype{g:Int->Int->Bool}:yk0 T (rI0 fun i j=>.bl (g i j)) (oB g):=by
 intro E μ H σ x y v u Q r p q h;cases x with
 |int i=>
  cases y with
  |int j=>exact⟨i,j,yge p,yge q,yqm.here h r (by rw[Rep])⟩
  |_=>exact h.elim
 |_=>exact h.elim
theorem yjr{C:Int->Int->Bool}{C':Int->Int->Prop}{g:Int->Int->Int}(hC:∀ i j,C i j=true->C' i j):yk0 T (rI C' fun i j=>.int (g i j)) (oIC C g):=by
 intro E μ H σ x y v u Q r p q h;cases x with
 |int i=>
  cases y with
  |int j=>
   by_cases hc:C i j=true
   ·have h':yqm T E (Rep T) μ H (ret (.int (g i j)) σ) Q:=by
     have e:oIC C g (.int i) (.int j)=ret (.int (g i j)):=by show (if C i j=true then _ else _)=_;rw[if_pos hc]
     rw[e]at h;exact h
    exact⟨i,j,yge p,yge q,hC i j hc,yqm.here h' r (by rw[Rep])⟩
   ·have e:oIC C g (.int i) (.int j)=bad:=by show (if C i j=true then _ else _)=_;rw[if_neg hc]
    rw[e]at h;exact h.elim
  |_=>exact h.elim
 |_=>exact h.elim
theorem yco:yk0 T (rI0 fun i j=>.int (i - j)) ytf:=ypf
theorem ycj:yk0 T (rI yp3 fun i j=>.int (i * j)) ys8:=yjr fun i j h=>by
 simp only[yra,zxo,Bool.or_eq_true,Bool.and_eq_true,decide_eq_true_eq]at h;exact h
theorem ycc:yk0 T (rI yp2 fun i j=>.int (i / j)) ysx:=yjr fun i j h=>by
 simp only[yq8,zxo,Bool.and_eq_true,decide_eq_true_eq]at h;exact h
theorem yci:yk0 T (rI (fun _ j=>0<j) fun i j=>.int (i % j)) ys7:=yjr fun i j h=>by
 simp only[yq9,zxo,decide_eq_true_eq]at h;exact h
theorem ycm:yk0 T (rI (fun _ j=>0<=j) fun i j=>.int (i / 2 ^ j.toNat)) yte:=yjr fun i j h=>by
 simp only[yrc,zxo,decide_eq_true_eq]at h;exact h
theorem zts:yk0 T (rI0 fun i j=>.int (Builtin.bitAnd i j)) ynx:=ypf
theorem yjx:yk0 T (rI0 fun i j=>.bl (decide (i<j))) oLt:=ype
theorem yjw:yk0 T (rI0 fun i j=>.bl (decide (i<=j))) oLe:=ype
theorem yjt:yk0 T (rI0 fun i j=>.bl (decide (j<i))) oGt:=ype
theorem yjs:yk0 T (rI0 fun i j=>.bl (decide (j<=i))) oGe:=ype
theorem ycl:yk1 T (rU fun i=>.int (-i)) yta:=by
 intro E μ H σ x v Q r p h;cases x with
 |int i=>exact⟨i,yge p,yqm.here h r (by rw[Rep])⟩
 |_=>exact h.elim
end
def sc:D->Option V
 | .non=>some .non
 | .bl b=>some (.bl b)
 | .int i=>some (.int i)
 | .str x=>some (.str x)
 |_=>none
def ync(σ:Sto)(n:Nat):Option (List D):=match σ[n]? with
 |some (.lst xs)=>some xs
 |_=>none
theorem zii{σ:Sto}{n:Nat}{xs:List D}(h:ync σ n=some xs):σ[n]?=some (.lst xs):=by
 unfold ync at h;cases e:σ[n]? with
 |none=>rw[e]at h;cases h
 |some o=>rw[e]at h;cases o<;>simp at h;subst h;rfl
inductive Kd where
 |s (v:V)|t (xs:List D)|l (xs:List D)|o
def kd(σ:Sto):D->Kd
 | .non=>.s .non
 | .bl b=>.s (.bl b)
 | .int i=>.s (.int i)
 | .str x=>.s (.str x)
 | .tup xs=>.t xs
 | .lst xs=>.l xs
 | .ref n=>match ync σ n with
  |some xs=>.l xs
  |none=>.o
 |_=>.o
def eqL(f:D->D->Option Bool):List D->List D->Option Bool
 |[],[]=>some true
 |[],_::_=>some false
 |_::_,[]=>some false
 |x::xs,y::ys=>match f x y,eqL f xs ys with
  |some b,some c=>some (b && c)
  |_,_=>none
def eqK(f:D->D->Option Bool):Kd->Kd->Option Bool
 | .s a,.s b=>some (eqV a b)
 | .t xs,.t ys=>eqL f xs ys
 | .l xs,.l ys=>eqL f xs ys
 | .s _,.t _=>some false
 | .t _,.s _=>some false
 | .s _,.l _=>some false
 | .l _,.s _=>some false
 | .t _,.l _=>some false
 | .l _,.t _=>some false
 |_,_=>none
def eqD(σ:Sto):Nat->D->D->Option Bool
 |0,x,y=>eqK (fun _ _=>none) (kd σ x) (kd σ y)
 |n+1,x,y=>eqK (eqD σ n) (kd σ x) (kd σ y)
def eAt(f:D->D->Option Bool)(xs ys:List D)(j:Nat):Bool:=match xs[j]?,ys[j]? with
 |some a,some b=>(f a b).getD false
 |_,_=>false
theorem zpa(f:D->D->Option Bool):∀ (xs ys:List D) (b:Bool),eqL f xs ys=some b->
  (∀ (j:Nat) (a c:D),xs[j]?=some a->ys[j]?=some c->∃ k,f a c=some k)/\b=((List.range (min xs.length ys.length)).all (eAt f xs ys) && xs.length == ys.length)
 |[],[],b,h=>by simp[eqL]at h;subst h;simp
 |[],y::ys,b,h=>by simp[eqL]at h;subst h;simp
 |x::xs,[],b,h=>by simp[eqL]at h;subst h;simp
 |x::xs,y::ys,b,h=>by
  unfold eqL at h;cases e1:f x y with
  |none=>rw[e1]at h;cases h
  |some b1=>
   cases e2:eqL f xs ys with
   |none=>rw[e1,e2]at h;cases h
   |some b2=>
    rw[e1,e2]at h;cases h;obtain⟨h1,h2⟩:=zpa f xs ys b2 e2;refine⟨fun j a c ha hc=>?_,?_⟩
    ·cases j with
     |zero=>simp at ha hc;subst ha;subst hc;exact⟨b1,e1⟩
     |succ j=>exact h1 j a c (by simpa using ha) (by simpa using hc)
    ·have e3:min (x::xs).length (y::ys).length=min xs.length ys.length+1:=by simp[Nat.succ_min_succ]
     have e4:∀ j,eAt f (x::xs) (y::ys) (j+1)=eAt f xs ys j:=fun j=>by simp[eAt]
     have e5:eAt f (x::xs) (y::ys) 0=b1:=by simp[eAt,e1]
     rw[e3,List.range_succ_eq_map,List.all_cons,List.all_map,e5,h2];have e6:(eAt f (x::xs) (y::ys) ∘ Nat.succ)=eAt f xs ys:=funext fun j=>e4 j;have e7:((x::xs).length == (y::ys).length)=(xs.length == ys.length):=by simp
     rw[e6,e7,Bool.and_assoc]
section
variable{T:Tb}{μ:List Addr}{H:Hp}{σ:Sto}
theorem Rel.lst(r:Rel T μ H σ){n:Nat}{v:V}{xs:List D}(h:Rep T μ H (.ref n) v)(e:ync σ n=some xs):∃ a vs,v=.ref a/\μ[n]?=some a/\H a=some (.lst vs)/\yqs T μ H xs vs:=by
 obtain⟨a,rfl,h1,vs,h2,h3⟩:=r.at h (zii e);exact⟨a,vs,rfl,h1,h2,h3⟩
theorem yjl{d:D}{v a:V}(h:Rep T μ H d v)(e:sc d=some a):v=a:=by
 cases d<;>simp[sc]at e<;>subst e<;>simpa [Rep]using h
theorem ybr{d:D}{a:V}(e:sc d=some a):ymc a=true:=by
 cases d<;>simp[sc]at e<;>subst e<;>rfl
theorem zpb{a:V}(h:ymc a=true):eqV a a=true:=by cases a<;>simp[ymc,eqV]at h ⊢
theorem ygl(r:Rel T μ H σ){d:D}{v:V}(h:Rep T μ H d v):match kd σ d with
  | .s a=>v=a/\ymc a=true
  | .t xs=>∃ p vs,v=.ref p/\H p=some (.tup vs)/\yqs T μ H xs vs
  | .l xs=>∃ p vs,v=.ref p/\H p=some (.lst vs)/\yqs T μ H xs vs
  | .o=>True:=by
 cases d with
 |non=>exact⟨by simpa [Rep]using h,rfl⟩
 |bl b=>exact⟨by simpa [Rep]using h,rfl⟩
 |int b=>exact⟨by simpa [Rep]using h,rfl⟩
 |str b=>exact⟨by simpa [Rep]using h,rfl⟩
 |tup xs=>rw[Rep]at h;exact h
 |lst xs=>rw[Rep]at h;obtain⟨a,vs,h1,_,h2,h3⟩:=h;exact⟨a,vs,h1,h2,h3⟩
 |ref n=>
  unfold kd;dsimp only;cases e:ync σ n with
  |none=>trivial
  |some xs=>obtain⟨a,vs,h1,_,h2,h3⟩:=r.lst h e;exact⟨a,vs,h1,h2,h3⟩
 |_=>trivial
theorem zo9{f:D->D->Option Bool}(hf:∀ (x y:D) (v:V) (b:Bool),Rep T μ H x v->Rep T μ H y v->f x y=some b->b=true):∀ (xs ys:List D) (vs:List V) (b:Bool),yqs T μ H xs vs->yqs T μ H ys vs->eqL f xs ys=some b->b=true
 |[],ys,vs,b,r1,r2,h=>by
  rw[yqs]at r1;subst r1;cases ys with
  |nil=>simp[eqL]at h;exact h
  |cons y ys=>rw[yqs]at r2;obtain⟨_,_,z,_⟩:=r2;cases z
 |x::xs,ys,vs,b,r1,r2,h=>by
  rw[yqs]at r1;obtain⟨v,r,rfl,p1,q1⟩:=r1;cases ys with
  |nil=>rw[yqs]at r2;cases r2
  |cons y ys=>
   rw[yqs]at r2;obtain⟨v',r',z,p2,q2⟩:=r2;cases z;unfold eqL at h;cases e1:f x y with
   |none=>rw[e1]at h;cases h
   |some b1=>
    cases e2:eqL f xs ys with
    |none=>rw[e1,e2]at h;cases h
    |some b2=>
     rw[e1,e2]at h;cases h;rw[hf x y v b1 p1 p2 e1,zo9 hf xs ys r b2 q1 q2 e2];rfl
theorem zo8(r:Rel T μ H σ){f:D->D->Option Bool}(hf:∀ (x y:D) (v:V) (b:Bool),Rep T μ H x v->Rep T μ H y v->f x y=some b->b=true){x y:D}{v:V}{b:Bool}(hx:Rep T μ H x v)(hy:Rep T μ H y v)(h:eqK f (kd σ x) (kd σ y)=some b):b=true:=by
 have kx:=ygl r hx;have ky:=ygl r hy;generalize kd σ x=k1 at h kx;generalize kd σ y=k2 at h ky;cases k1 with
 |s a=>
  obtain⟨rfl,fa⟩:=kx;cases k2 with
  |s c=>obtain⟨rfl,_⟩:=ky;cases h;exact zpb fa
  |t xs=>obtain⟨p,vs,rfl,_⟩:=ky;simp[ymc]at fa
  |l xs=>obtain⟨p,vs,rfl,_⟩:=ky;simp[ymc]at fa
  |o=>cases h
 |t xs=>
  obtain⟨p,vs,rfl,h1,r1⟩:=kx;cases k2 with
  |s c=>obtain⟨e,fa⟩:=ky;rw[<-e]at fa;simp[ymc]at fa
  |t ys=>
   obtain⟨q,ws,e,h2,r2⟩:=ky;cases e;rw[h1]at h2;cases h2;exact zo9 hf xs ys vs b r1 r2 h
  |l ys=>obtain⟨q,ws,e,h2,r2⟩:=ky;cases e;rw[h1]at h2;cases h2
  |o=>cases h
 |l xs=>
  obtain⟨p,vs,rfl,h1,r1⟩:=kx;cases k2 with
  |s c=>obtain⟨e,fa⟩:=ky;rw[<-e]at fa;simp[ymc]at fa
  |t ys=>obtain⟨q,ws,e,h2,r2⟩:=ky;cases e;rw[h1]at h2;cases h2
  |l ys=>
   obtain⟨q,ws,e,h2,r2⟩:=ky;cases e;rw[h1]at h2;cases h2;exact zo9 hf xs ys vs b r1 r2 h
  |o=>cases h
 |o=>cases h
theorem zo7(r:Rel T μ H σ):∀ (n:Nat) (x y:D) (v:V) (b:Bool),Rep T μ H x v->Rep T μ H y v->eqD σ n x y=some b->b=true
 |0,x,y,v,b,hx,hy,h=>zo8 r (fun _ _ _ _ _ _ z=>by cases z) hx hy h
 |n+1,x,y,v,b,hx,hy,h=>zo8 r (fun x y v b a1 a2 a3=>zo7 r n x y v b a1 a2 a3) hx hy h
end
section
variable{T:Tb}{X:Cx}{pins:List (Addr × Obj)}{st:St}{μ:List Addr}{H:Hp}{s:Shared}{σ:Sto}
theorem zhg{A:Around}{a:V}{u:Value}{p:Addr}{its:Array Value}(fa:ymc a=true)(r:yqp a u)(hp:s.heap.IsTuple p its)(hu:A.units<cLine):SeqAt.EqAt A s u (.ref p) false/\SeqAt.EqAt A s (.ref p) u false/\SeqAt.RcAt A s u (.ref p) false/\SeqAt.RcAt A s (.ref p) u false/\SeqAt.RcNeAt A s u (.ref p) true/\SeqAt.RcNeAt A s (.ref p) u true:=by
 cases a with
 |non=>cases r;exact⟨.none_tuple hp hu,.tuple_none hp hu,.none_tuple hp hu,.tuple_none hp hu,.none_tuple hp hu,.tuple_none hp hu⟩
 |bl b=>cases r;exact⟨.bool_tuple b hp hu,.tuple_bool b hp hu,.bool_tuple b hp hu,.tuple_bool b hp hu,.bool_tuple b hp hu,.tuple_bool b hp hu⟩
 |int b=>obtain⟨t,rfl⟩:=r;exact⟨.int_tuple b t hp hu,.tuple_int b t hp hu,.int_tuple b t hp hu,.tuple_int b t hp hu,.int_tuple b t hp hu,.tuple_int b t hp hu⟩
 |str b=>obtain⟨t,rfl⟩:=r;exact⟨.str_tuple b t hp hu,.tuple_str b t hp hu,.str_tuple b t hp hu,.tuple_str b t hp hu,.str_tuple b t hp hu,.tuple_str b t hp hu⟩
 |_=>simp[ymc]at fa
theorem zjf{A:Around}{a:V}{u:Value}{p:Addr}{its:Array Value}(fa:ymc a=true)(r:yqp a u)(hp:s.heap.IsList p its)(hu:A.units<cLine):SeqAt.RcAt A s u (.ref p) false/\SeqAt.RcAt A s (.ref p) u false/\SeqAt.RcNeAt A s u (.ref p) true/\SeqAt.RcNeAt A s (.ref p) u true:=by
 cases a with
 |non=>cases r;exact⟨.none_list hp hu,.list_none hp hu,.none_list hp hu,.list_none hp hu⟩
 |bl b=>cases r;exact⟨.bool_list b hp hu,.list_bool b hp hu,.bool_list b hp hu,.list_bool b hp hu⟩
 |int b=>obtain⟨t,rfl⟩:=r;exact⟨.int_list b t hp hu,.list_int b t hp hu,.int_list b t hp hu,.list_int b t hp hu⟩
 |str b=>obtain⟨t,rfl⟩:=r;exact⟨.str_list b t hp hu,.list_str b t hp hu,.str_list b t hp hu,.list_str b t hp hu⟩
 |_=>simp[ymc]at fa
theorem zfq{A:Around}{a:V}{u:Value}{p:Addr}{its:Array Value}(fa:ymc a=true)(r:yqp a u)(hp:s.heap.IsList p its)(hu:A.units<cLine):SeqAt.EqAt A s u (.ref p) false:=by
 cases a with
 |non=>cases r;exact .none_list hp hu
 |bl b=>cases r;exact .bool_list b hp hu
 |int b=>obtain⟨t,rfl⟩:=r;exact .int_list b t hp hu
 |str b=>obtain⟨t,rfl⟩:=r;exact .str_list b t hp hu
 |_=>simp[ymc]at fa
theorem zd3{A:Around}{a:V}{u:Value}{p:Addr}{its:Array Value}(fa:ymc a=true)(r:yqp a u)(hp:s.heap.IsList p its)(hu:A.units<cLine):SeqAt.EqAt A s (.ref p) u false:=by
 cases a with
 |non=>cases r;exact .list_none hp hu
 |bl b=>cases r;exact .list_bool b hp hu
 |int b=>obtain⟨t,rfl⟩:=r;exact .list_int b t hp hu
 |str b=>obtain⟨t,rfl⟩:=r;exact .list_str b t hp hu
 |_=>simp[ymc]at fa
theorem yox{A:Around}{a b:V}{u w:Value}(ra:yqp a u)(rb:yqp b w)(fa:ymc a=true)(fb:ymc b=true):SeqAt.RcAt A s u w (eqV a b)/\SeqAt.RcNeAt A s u w (!eqV a b):=by
 cases a with
 |non=>
  cases ra;cases b with
  |non=>cases rb;exact⟨.none_none,.none_none⟩
  |bl y=>cases rb;exact⟨.none_bool y,.none_bool y⟩
  |int y=>obtain⟨t,rfl⟩:=rb;exact⟨.none_int y t,.none_int y t⟩
  |str y=>obtain⟨t,rfl⟩:=rb;exact⟨.none_str y t,.none_str y t⟩
  |_=>simp[ymc]at fb
 |bl x=>
  cases ra;cases b with
  |non=>cases rb;exact⟨.bool_none x,.bool_none x⟩
  |bl y=>cases rb;exact⟨.bool_bool x y,.bool_bool x y⟩
  |int y=>obtain⟨t,rfl⟩:=rb;exact⟨.bool_int x y t,.bool_int x y t⟩
  |str y=>obtain⟨t,rfl⟩:=rb;exact⟨.bool_str x y t,.bool_str x y t⟩
  |_=>simp[ymc]at fb
 |int x=>
  obtain⟨t',rfl⟩:=ra;cases b with
  |non=>cases rb;exact⟨.int_none x t',.int_none x t'⟩
  |bl y=>cases rb;exact⟨.int_bool x t' y,.int_bool x t' y⟩
  |int y=>obtain⟨t,rfl⟩:=rb;exact⟨.int_int x t' y t,.int_int x t' y t⟩
  |str y=>obtain⟨t,rfl⟩:=rb;exact⟨.int_str x t' y t,.int_str x t' y t⟩
  |_=>simp[ymc]at fb
 |str x=>
  obtain⟨t',rfl⟩:=ra;cases b with
  |non=>cases rb;exact⟨.str_none x t',.str_none x t'⟩
  |bl y=>cases rb;exact⟨.str_bool x t' y,.str_bool x t' y⟩
  |int y=>obtain⟨t,rfl⟩:=rb;exact⟨.str_int x t' y t,.str_int x t' y t⟩
  |str y=>obtain⟨t,rfl⟩:=rb;exact⟨.str_str x t' y t,.str_str x t' y t⟩
  |_=>simp[ymc]at fb
 |_=>simp[ymc]at fa
theorem zuj{xs:List V}{us:List Value}{i:Nat}{u:Value}(r:yqx xs us)(h:us[i]?=some u):∃ x,xs[i]?=some x/\yqp x u:=by
 have hl:=r.length;have hi:=(List.getElem?_eq_some_iff.mp h).1;obtain⟨u',h1,h2⟩:=r.get (i:=i) (x:=xs[i]'(by omega)) (by simp);rw[h]at h1;cases h1;exact⟨_,by simp,h2⟩
theorem zsy{ds:List D}{vs:List V}{i:Nat}{v:V}(r:yqs T μ H ds vs)(h:vs[i]?=some v):∃ d,ds[i]?=some d/\Rep T μ H d v:=by
 have hl:=r.length;have hi:=(List.getElem?_eq_some_iff.mp h).1;obtain⟨v',h1,h2⟩:=r.get (i:=i) (d:=ds[i]'(by omega)) (by simp);rw[h]at h1;cases h1;exact⟨_,by simp,h2⟩
theorem zqh{A:Around}{f:D->D->Option Bool}(hf:∀ (x y:D) (v w:V) (v' w':Value) (b:Bool),Rep T μ H x v->Rep T μ H y w->yqp v v'->yqp w w'->f x y=some b->SeqAt.EqAt A s v' w' b)
  {xs ys:List D} {vs ws:List V} {us zs:List Value} {b:Bool} (r1:yqs T μ H xs vs) (r2:yqs T μ H ys ws) (q1:yqx vs us) (q2:yqx ws zs) (h:eqL f xs ys=some b) :
  (∀ j (h1:j<us.toArray.size) (h2:j<zs.toArray.size),SeqAt.EqAt A s us.toArray[j] zs.toArray[j] (eAt f xs ys j))/\b=((List.range (min us.toArray.size zs.toArray.size)).all (eAt f xs ys) && us.toArray.size == zs.toArray.size):=by
 obtain⟨h1,h2⟩:=zpa f xs ys b h;have l1:=r1.length;have l2:=r2.length;have l3:=q1.length;have l4:=q2.length;refine⟨fun j g1 g2=>?_,?_⟩
 ·obtain⟨v,e1,rv⟩:=zuj (i:=j) (u:=us.toArray[j]) q1 (by simp);obtain⟨w,e2,rw'⟩:=zuj (i:=j) (u:=zs.toArray[j]) q2 (by simp);obtain⟨x,e3,p3⟩:=zsy r1 e1;obtain⟨y,e4,p4⟩:=zsy r2 e2;obtain⟨k,ek⟩:=h1 j x y e3 e4;have e5:eAt f xs ys j=k:=by simp[eAt,e3,e4,ek]
  rw[e5];exact hf x y v w _ _ k p3 p4 rv rw' ek
 ·simp only[List.size_toArray];rw[h2,l1,l2,l3,l4]
abbrev ydk(A:Around)(s:Shared)(v w:Value)(b:Bool):Prop:=SeqAt.RcAt A s v w b/\SeqAt.RcNeAt A s v w (!b)
theorem rcK{A:Around}(I:Inv X pins st H s)(r:Rel T μ H σ)(hu:A.units+1<cLine){f:D->D->Option Bool}
  (hf:∀ (x y:D) (v w:V) (v' w':Value) (b:Bool),Rep T μ H x v->Rep T μ H y w->yqp v v'->yqp w w'->f x y=some b->SeqAt.EqAt A.in1 s v' w' b)
  {x y:D} {v w:V} {v' w':Value} {b:Bool} (hx:Rep T μ H x v) (hy:Rep T μ H y w) (rv:yqp v v') (rw':yqp w w') (h:eqK f (kd σ x) (kd σ y)=some b):ydk A s v' w' b:=by
 have hu0:A.units<cLine:=by omega
 have kx:=ygl r hx;have ky:=ygl r hy;generalize kd σ x=k1 at h kx;generalize kd σ y=k2 at h ky;cases k1 with
 |o=>cases h
 |s a=>
  obtain⟨rfl,fa⟩:=kx;cases k2 with
  |o=>cases h
  |s c=>obtain⟨rfl,fc⟩:=ky;cases h;exact yox rv rw' fa fc
  |t ys=>
   obtain⟨q,ws,rfl,h2,r2⟩:=ky;cases h;cases rw';obtain⟨its,_,hq,_⟩:=L2.Inv.tuple I (SqT.of (K:=X.K) h2);obtain⟨_,_,a1,a2,a3,a4⟩:=zhg fa rv hq hu0;exact⟨a1,a3⟩
  |l ys=>
   obtain⟨q,ws,rfl,h2,r2⟩:=ky;cases h;cases rw';obtain⟨its,_,pl,_⟩:=L2.Inv.list I (SqL.of (K:=X.K) h2);obtain⟨a1,a2,a3,a4⟩:=zjf fa rv pl.isList hu0;exact⟨a1,a3⟩
 |t xs=>
  obtain⟨p,vs,rfl,h1,r1⟩:=kx;cases rv;obtain⟨its,q1,hp,_⟩:=L2.Inv.tuple I (SqT.of (K:=X.K) h1);cases k2 with
  |o=>cases h
  |s c=>
   obtain⟨rfl,fc⟩:=ky;cases h;obtain⟨_,_,a1,a2,a3,a4⟩:=zhg fc rw' hp hu0;exact⟨a2,a4⟩
  |t ys=>
   obtain⟨q,ws,rfl,h2,r2⟩:=ky;cases rw';obtain⟨its2,q2,hq,_⟩:=L2.Inv.tuple I (SqT.of (K:=X.K) h2);obtain⟨g1,g2⟩:=zqh (A:=A.in1) hf r1 r2 q1 q2 h;rw[g2];exact⟨.tuples hp hq (by omega) g1,.tuples hp hq (by omega) g1⟩
  |l ys=>
   obtain⟨q,ws,rfl,h2,r2⟩:=ky;cases h;cases rw';obtain⟨its2,_,pl,_⟩:=L2.Inv.list I (SqL.of (K:=X.K) h2);exact⟨.tuple_list hp pl.isList hu0,.tuple_list hp pl.isList hu0⟩
 |l xs=>
  obtain⟨p,vs,rfl,h1,r1⟩:=kx;cases rv;obtain⟨its,q1,pl,_⟩:=L2.Inv.list I (SqL.of (K:=X.K) h1);cases k2 with
  |o=>cases h
  |s c=>
   obtain⟨rfl,fc⟩:=ky;cases h;obtain⟨a1,a2,a3,a4⟩:=zjf fc rw' pl.isList hu0;exact⟨a2,a4⟩
  |t ys=>
   obtain⟨q,ws,rfl,h2,r2⟩:=ky;cases h;cases rw';obtain⟨its2,_,hq,_⟩:=L2.Inv.tuple I (SqT.of (K:=X.K) h2);exact⟨.list_tuple pl.isList hq hu0,.list_tuple pl.isList hq hu0⟩
  |l ys=>
   obtain⟨q,ws,rfl,h2,r2⟩:=ky;cases rw';obtain⟨its2,q2,pl2,_⟩:=L2.Inv.list I (SqL.of (K:=X.K) h2);obtain⟨g1,g2⟩:=zqh (A:=A.in1) hf r1 r2 q1 q2 h;by_cases hz:its.toArray.size=its2.toArray.size
   ·have e:b=(List.range its.toArray.size).all (eAt f xs ys):=by rw[g2,<-hz];simp
    rw[e];exact⟨.lists pl.isList pl2.isList hz (by omega) g1,.lists pl.isList pl2.isList hz (by omega) g1⟩
   ·have e:b=false:=by rw[g2,beq_eq_false_iff_ne.mpr hz,Bool.and_false]
    rw[e];exact⟨.lists_lengths pl.isList pl2.isList (by simpa using hz) (by omega),.lists_lengths pl.isList pl2.isList (by simpa using hz) (by omega)⟩
theorem yez{A:Around}(I:Inv X pins st H s)(r:Rel T μ H σ)(hu:A.units+1<cLine){f:D->D->Option Bool}
  (hf:∀ (x y:D) (v w:V) (v' w':Value) (b:Bool),Rep T μ H x v->Rep T μ H y w->yqp v v'->yqp w w'->f x y=some b->SeqAt.EqAt A.in1 s v' w' b)
  (hs:∀ (x y:D) (v:V) (b:Bool),Rep T μ H x v->Rep T μ H y v->f x y=some b->b=true)
  {x y:D} {v w:V} {v' w':Value} {b:Bool} (hx:Rep T μ H x v) (hy:Rep T μ H y w) (rv:yqp v v') (rw':yqp w w') (h:eqK f (kd σ x) (kd σ y)=some b):SeqAt.EqAt A s v' w' b:=by
 have hu0:A.units<cLine:=by omega
 have rc:=(rcK I r hu hf hx hy rv rw' h).1;by_cases hvw:v=w
 ·subst hvw;have hb:=zo8 r hs hx hy h;have kx:=ygl r hx;have ky:=ygl r hy;generalize kd σ x=k1 at h kx;generalize kd σ y=k2 at h ky;cases k1 with
  |o=>cases h
  |s a=>
   obtain⟨rfl,fa⟩:=kx;cases k2 with
   |o=>cases h
   |s c=>obtain⟨rfl,fc⟩:=ky;cases h;exact yex rv rw' fa fc
   |t ys=>obtain⟨q,ws,e,_⟩:=ky;rw[e]at fa;simp[ymc]at fa
   |l ys=>obtain⟨q,ws,e,_⟩:=ky;rw[e]at fa;simp[ymc]at fa
  |t xs=>
   obtain⟨p,vs,rfl,_⟩:=kx;cases rv;cases rw';rw[hb];exact SeqAt.EqAt.same _
  |l xs=>
   obtain⟨p,vs,rfl,_⟩:=kx;cases rv;cases rw';rw[hb];exact SeqAt.EqAt.same _
 ·have kx:=ygl r hx;have ky:=ygl r hy;generalize kd σ x=k1 at h kx;generalize kd σ y=k2 at h ky;cases k1 with
  |o=>cases h
  |s a=>
   obtain⟨rfl,fa⟩:=kx;cases k2 with
   |o=>cases h
   |s c=>obtain⟨rfl,fc⟩:=ky;cases h;exact yex rv rw' fa fc
   |t ys=>
    obtain⟨q,ws,rfl,h2,r2⟩:=ky;cases h;cases rw';obtain⟨its,_,hq,_⟩:=L2.Inv.tuple I (SqT.of (K:=X.K) h2);exact(zhg fa rv hq hu0).1
   |l ys=>
    obtain⟨q,ws,rfl,h2,r2⟩:=ky;cases h;cases rw';obtain⟨its,_,pl,_⟩:=L2.Inv.list I (SqL.of (K:=X.K) h2);exact zfq fa rv pl.isList hu0
  |t xs=>
   obtain⟨p,vs,rfl,h1,r1⟩:=kx;cases rv;cases k2 with
   |o=>cases h
   |s c=>
    obtain⟨rfl,fc⟩:=ky;cases h;obtain⟨its,_,hp,_⟩:=L2.Inv.tuple I (SqT.of (K:=X.K) h1);exact(zhg fc rw' hp hu0).2.1
   |t ys=>obtain⟨q,ws,rfl,_⟩:=ky;cases rw';exact .of_refs (fun e=>hvw (by rw[e])) rc
   |l ys=>obtain⟨q,ws,rfl,_⟩:=ky;cases rw';exact .of_refs (fun e=>hvw (by rw[e])) rc
  |l xs=>
   obtain⟨p,vs,rfl,h1,r1⟩:=kx;cases rv;cases k2 with
   |o=>cases h
   |s c=>
    obtain⟨rfl,fc⟩:=ky;cases h;obtain⟨its,_,pl,_⟩:=L2.Inv.list I (SqL.of (K:=X.K) h1);exact zd3 fc rw' pl.isList hu0
   |t ys=>obtain⟨q,ws,rfl,_⟩:=ky;cases rw';exact .of_refs (fun e=>hvw (by rw[e])) rc
   |l ys=>obtain⟨q,ws,rfl,_⟩:=ky;cases rw';exact .of_refs (fun e=>hvw (by rw[e])) rc
theorem yey(I:Inv X pins st H s)(r:Rel T μ H σ):∀ (n:Nat) (A:Around) (x y:D) (v w:V) (v' w':Value) (b:Bool),A.units+n+1<cLine->Rep T μ H x v->Rep T μ H y w->yqp v v'->yqp w w'->eqD σ n x y=some b->SeqAt.EqAt A s v' w' b
 |0,A,x,y,v,w,v',w',b,hu,hx,hy,rv,rw',h=>yez I r (by omega) (fun _ _ _ _ _ _ _ _ _ _ _ z=>by cases z) (fun _ _ _ _ _ _ z=>by cases z) hx hy rv rw' h
 |n+1,A,x,y,v,w,v',w',b,hu,hx,hy,rv,rw',h=>yez I r (by omega) (fun x y v w v' w' b a1 a2 a3 a4 a5=>yey I r n A.in1 x y v w v' w' b (by show A.units+1+n+1<cLine;omega) a1 a2 a3 a4 a5) (fun x y v b a1 a2 a3=>zo7 r n x y v b a1 a2 a3) hx hy rv rw' h
theorem rcD{A:Around}(I:Inv X pins st H s)(r:Rel T μ H σ)(n:Nat)(hu:A.units+n+1<cLine){x y:D}{v w:V}{v' w':Value}{b:Bool}(hx:Rep T μ H x v)(hy:Rep T μ H y w)(rv:yqp v v')(rw':yqp w w')(h:eqD σ n x y=some b):ydk A s v' w' b:=by
 cases n with
 |zero=>exact rcK I r (by omega) (fun _ _ _ _ _ _ _ _ _ _ _ z=>by cases z) hx hy rv rw' h
 |succ n=>exact rcK I r (by omega) (fun x y v w v' w' b a1 a2 a3 a4 a5=>yey I r n A.in1 x y v w v' w' b (by show A.units+1+n+1<cLine;omega) a1 a2 a3 a4 a5) hx hy rv rw' h
end
section
variable{T:Tb}{X:Cx}{pins:List (Addr × Obj)}{st:St}{μ:List Addr}{H:Hp}{s:Shared}{σ:Sto}
def oEq(x y:D):M D:=fun σ=>match eqD σ 8 x y with
 |some b=>.ok (.bl b) σ
 |none=>.bad
def oNe(x y:D):M D:=fun σ=>match eqD σ 8 x y with
 |some b=>.ok (.bl (!b)) σ
 |none=>.bad
theorem yib(hu:X.A.units+9<cLine):OpR X (compareOp .Eq) (rD T oEq):=by
 intro pins s st H v u v' u' Q I rv ru h;obtain⟨E,μ,σ,x,y,r,hx,hy,hp⟩:=h;unfold oEq at hp;cases e:eqD σ 8 x y with
 |none=>rw[e]at hp;exact hp.elim
 |some b=>
  rw[e]at hp;have:=(rcD I r 8 (by omega) hx hy rv ru e).1 X.prog X.w X.xe (EP X pins st Q) ⟨.bl b,H,I,rfl,yqm.here hp r (by rw[Rep])⟩;exact this
theorem yig(hu:X.A.units+9<cLine):OpR X (compareOp .NotEq) (rD T oNe):=by
 intro pins s st H v u v' u' Q I rv ru h;obtain⟨E,μ,σ,x,y,r,hx,hy,hp⟩:=h;unfold oNe at hp;cases e:eqD σ 8 x y with
 |none=>rw[e]at hp;exact hp.elim
 |some b=>
  rw[e]at hp;have:=(rcD I r 8 (by omega) hx hy rv ru e).2 X.prog X.w X.xe (EP X pins st Q) ⟨.bl (!b),H,I,rfl,yqm.here hp r (by rw[Rep])⟩;exact this
def ys1(x y:D):M D:=fun σ=>match y with
 | .non=>(match x with
  | .non=>.ok (.bl true) σ
  |_=>.ok (.bl false) σ)
 |_=>.bad
theorem zzl{x:D}{v:V}(h:Rep T μ H x v):decide (v=.non)=(match x with | .non=>true|_=>false):=by
 cases x with
 |non=>rw[Rep]at h;subst h;rfl
 |tup ds=>rw[Rep]at h;obtain⟨p,_,rfl,_⟩:=h;simp
 |scr ds=>rw[Rep]at h;obtain⟨p,rfl,_⟩:=h;simp
 |ref ds=>rw[Rep]at h;obtain⟨p,rfl,_⟩:=h;simp
 |lst ds=>rw[Rep]at h;obtain⟨p,_,rfl,_⟩:=h;simp
 |dic ks ds=>rw[Rep]at h;obtain⟨p,_,rfl,_⟩:=h;simp
 |obj c ks ds=>rw[Rep]at h;obtain⟨p,_,_,rfl,_⟩:=h;simp
 |exn c=>rw[Rep]at h;obtain⟨p,_,rfl,_⟩:=h;simp
 |_=>rw[Rep]at h;subst h;simp
theorem yce:yk0 T (fun x y H Q=>y=.non/\Q (.bl (decide (x=.non))) H) ys1:=by
 intro E μ H σ x y v u Q r p q h;cases y with
 |non=>
  refine⟨by rw[Rep]at q;exact q,?_⟩;rw[zzl p];cases x<;>exact yqm.here h r (by rw[Rep])
 |_=>exact h.elim
theorem zu3{ds:List D}{vs:List V}{k:Int}{d:D}(r:yqs T μ H ds vs)(h:atI ds k=some d):∃ v,atI vs k=some v/\Rep T μ H d v:=by
 unfold atI at h ⊢;rw[<-r.length];cases e:ixN ds.length k with
 |none=>rw[e]at h;cases h
 |some j=>rw[e]at h;exact r.get h
theorem zmy:∀ (ns:List Int),yqs T μ H (ns.map D.int) (ns.map V.int)
 |[]=>yqs.nil
 |n::ns=>yqs.cons (by rw[Rep]) (zmy ns)
def yo5(σ:Sto):D->Option (List D)
 | .tup xs=>some xs
 | .scr ns=>some (ns.map D.int)
 | .ref n=>ync σ n
 | .lst xs=>some xs
 |_=>none
def oIx(x i:D):M D:=fun σ=>match i with
 | .int k=>(match yo5 σ x with
  |some xs=>(match atI xs k with
   |some d=>.ok d σ
   |none=>.bad)
  |none=>.bad)
 |_=>.bad
theorem ybw(r:Rel T μ H σ){x:D}{v:V}{xs:List D}(h:Rep T μ H x v)(e:yo5 σ x=some xs):∃ p vs,v=.ref p/\yqs T μ H xs vs/\(SqL T.K H p vs\/SqT T.K H p vs):=by
 cases x with
 |tup ds=>cases e;rw[Rep]at h;obtain⟨p,vs,rfl,h1,h2⟩:=h;exact⟨p,vs,rfl,h2,.inr (SqT.of h1)⟩
 |scr ns=>cases e;rw[Rep]at h;obtain⟨p,rfl,h1⟩:=h;exact⟨p,_,rfl,zmy ns,.inl h1.seq⟩
 |ref n=>obtain⟨a,vs,rfl,_,h1,h2⟩:=r.lst h e;exact⟨a,vs,rfl,h2,.inl (SqL.of h1)⟩
 |lst ds=>cases e;rw[Rep]at h;obtain⟨p,vs,rfl,_,h1,h2⟩:=h;exact⟨p,vs,rfl,h2,.inl (SqL.of h1)⟩
 |_=>cases e
theorem yjv(hK:T.K=X.K):yk0 T (fun x y H Q=>yt1 X.K x y H Q\/yt2 X.K x y H Q) oIx:=by
 intro E μ H σ x y v u Q r p q h;cases y with
 |int k=>
  unfold oIx at h;cases e:yo5 σ x with
  |none=>simp only[e]at h;exact h.elim
  |some xs=>
   simp only[e]at h;cases e2:atI xs k with
   |none=>rw[e2]at h;exact h.elim
   |some d=>
    rw[e2]at h;obtain⟨a,vs,rfl,h1,h2⟩:=ybw r p e;obtain⟨w,h3,h4⟩:=zu3 h1 e2;rw[hK]at h2;rcases h2 with h2|h2
    ·exact .inl ⟨a,vs,k,w,rfl,yge q,h2,h3,yqm.here h r h4⟩
    ·exact .inr ⟨a,vs,k,w,rfl,yge q,h2,h3,yqm.here h r h4⟩
 |_=>exact h.elim
theorem yr9:IxR X (fun x y H Q=>yt1 X.K x y H Q\/yt2 X.K x y H Q):=zx4.or ygj
def isF(d:D):Bool:=(sc d).isSome
def eqF(x y:D):Bool:=match sc x,sc y with
 |some a,some b=>eqV a b
 |_,_=>false
def oIn(neg:Bool)(x y:D):M D:=fun σ=>match yo5 σ y with
 |some xs=>if (isF x && xs.all isF)=true then .ok (.bl (if neg then !(xs.any fun z=>eqF z x)else xs.any fun z=>eqF z x)) σ else .bad
 |none=>.bad
theorem zpt:∀ {ds:List D} {vs:List V},yqs T μ H ds vs->ds.all isF=true->vs.all ymc=true
 |[],vs,h,_=>by rw[yqs]at h;subst h;rfl
 |d::ds,vs,h,e=>by
  rw[yqs]at h;obtain⟨v,r,rfl,h1,h2⟩:=h;rw[List.all_cons,Bool.and_eq_true]at e ⊢;obtain⟨a,ea⟩:=Option.isSome_iff_exists.mp e.1;exact⟨by rw[yjl h1 ea];exact ybr ea,zpt h2 e.2⟩
theorem zuw{x:D}{a:V}(ex:sc x=some a):∀ {ds:List D} {vs:List V},yqs T μ H ds vs->ds.all isF=true->(ds.any fun z=>eqF z x)=vs.any fun y=>eqV y a
 |[],vs,h,_=>by rw[yqs]at h;subst h;rfl
 |d::ds,vs,h,e=>by
  rw[yqs]at h;obtain⟨v,r,rfl,h1,h2⟩:=h;rw[List.all_cons,Bool.and_eq_true]at e;obtain⟨c,ec⟩:=Option.isSome_iff_exists.mp e.1;rw[List.any_cons,List.any_cons,zuw ex h2 e.2];have:eqF d x=eqV v a:=by unfold eqF;rw[ec,ex,yjl h1 ec]
  rw[this]
theorem yju(hK:T.K=X.K)(neg:Bool):yk0 T (rIn X.K neg) (oIn neg):=by
 intro E μ H σ x y v u Q r p q h;unfold oIn at h;cases e:yo5 σ y with
 |none=>rw[e]at h;exact h.elim
 |some xs=>
  rw[e]at h;by_cases hc:(isF x && xs.all isF)=true
  ·simp only[hc,if_true]at h;rw[Bool.and_eq_true]at hc;obtain⟨a,ea⟩:=Option.isSome_iff_exists.mp hc.1;obtain⟨b,vs,rfl,h1,h2⟩:=ybw r q e;rw[hK]at h2;refine⟨b,vs,rfl,h2,by rw[yjl p ea];exact ybr ea,zpt h1 hc.2,?_⟩;have e3:inV v vs=xs.any fun z=>eqF z x:=by unfold inV;rw[zuw ea h1 hc.2,yjl p ea]
   rw[e3];exact yqm.here h r (by rw[Rep])
  ·simp only[hc]at h;exact h.elim
def ys5(xs:List D):M D:=fun σ=>match xs with
 |[x]=>(match yo5 σ x with
  |some ys=>.ok (.int ys.length) σ
  |none=>.bad)
 |_=>.bad
theorem ycg(hK:T.K=X.K):zuq T (fun xs H Q=>∃ p ys,xs=[.ref p]/\(SqL X.K H p ys\/SqT X.K H p ys)/\Q (.int ys.length) H) ys5:=by
 intro E μ H σ xs vs Q r p h
 match xs with
 |[]=>exact h.elim
 |[x]=>
  rw[yqs]at p;obtain⟨v,w,rfl,p1,p2⟩:=p;rw[yqs]at p2;subst p2;unfold ys5 at h;cases e:yo5 σ x with
  |none=>simp only[e]at h;exact h.elim
  |some ys=>
   simp only[e]at h;obtain⟨b,vs,rfl,h1,h2⟩:=ybw r p1 e;rw[hK]at h2;exact⟨b,vs,rfl,h2,by rw[<-h1.length];exact yqm.here h r (by rw[Rep])⟩
 |_::_::_=>exact h.elim
def yn1(xs:List D):M D:=fun σ=>match xs with
 |[x]=>(match yo5 σ x with
  |some ys=>ynm ys σ
  |none=>.bad)
 |_=>.bad
theorem ztu(hK:T.K=X.K):zuq T (fun xs H Q=>∃ p ys,xs=[.ref p]/\(SqL X.K H p ys\/SqT X.K H p ys)/\∀ l,H l=none->Q (.ref l) (upd H l (.lst ys))) yn1:=by
 intro E μ H σ xs vs Q r p h
 match xs with
 |[]=>exact h.elim
 |[x]=>
  rw[yqs]at p;obtain⟨v,w,rfl,p1,p2⟩:=p;rw[yqs]at p2;subst p2;unfold yn1 at h;cases e:yo5 σ x with
  |none=>simp only[e]at h;exact h.elim
  |some ys=>
   simp only[e]at h;obtain⟨b,vs,rfl,h1,h2⟩:=ybw r p1 e;rw[hK]at h2;exact⟨b,vs,rfl,h2,fun l hl=>zzj h r h1 hl⟩
 |_::_::_=>exact h.elim
end
def ylv(o:List D->M D)(fs:Ev->M (List D)):Ev->M D:=fun ρ=>bnd (fs ρ) o
section
variable{T:Tb}{X:Cx}{x:Str}{p pos:Pos}{e:Expr}{es:List Expr}{fs:Ev->M (List D)}{id ty:String}{r:List V->Hp->VK->Prop}{o:List D->M D}
theorem ylj(hs:zuq T r o){st:St}{H:Hp}{Q:VK}(h:tF T X (ylv o fs) st H Q):tCB r (tL T X fs) st H Q:=by
 obtain⟨μ,ρ,σ,he,hr,hp⟩:=h;exact⟨μ,ρ,σ,he,hr,hp.bind fun ds σ1 μ1 vs H1 _ e1 r1 p1 q1=>hs _ μ1 H1 σ1 ds vs Q r1 p1 q1⟩
theorem zpe(hc:ykp X (.builtin id) r)(hs:zuq T r o)(hg:Gl X x)(hm:X.mg x=none)(hv:bootBuiltins x=some (.builtin id))(ha:FA T X (e::es) fs)(hn:x ≠ "__name__":=by decide)(hdb:(x == ("__debug__" : Str))=false:=by decide)
  (he:starEach (e::es) X.env=(false,eval e X.env)::starEach es X.env:=by rfl) (hpl:(backTo pos (starEach es X.env)).any (·.1)=false:=by rfl):FE T X (.Call (.Name x p) (e::es) [] pos) (ylv o fs):=
 fun pins s st H Q I h=>zsa hc hg hm hv ha hn hdb he hpl pins s st H Q I (ylj hs h)
theorem zk4(hc:ykp X (.type ty) r)(hs:zuq T r o)(hg:Gl X x)(hm:X.mg x=none)(hv:bootBuiltins x=some (.type ty))(ha:FA T X (e::es) fs)(hn:x ≠ "__name__":=by decide)(hdb:(x == ("__debug__" : Str))=false:=by decide)
  (he:starEach (e::es) X.env=(false,eval e X.env)::starEach es X.env:=by rfl) (hpl:(backTo pos (starEach es X.env)).any (·.1)=false:=by rfl):FE T X (.Call (.Name x p) (e::es) [] pos) (ylv o fs):=
 fun pins s st H Q I h=>zmq hc hg hm hv ha hn hdb he hpl pins s st H Q I (ylj hs h)
end
def ysf(σ:Sto):D->Option (List D)
 | .ref n=>ync σ n
 | .lst xs=>some xs
 |_=>none
theorem Rel.ls{T:Tb}{μ:List Addr}{H:Hp}{σ:Sto}(r:Rel T μ H σ){x:D}{v:V}{xs:List D}(h:Rep T μ H x v)(e:ysf σ x=some xs):∃ a vs,v=.ref a/\H a=some (.lst vs)/\yqs T μ H xs vs:=by
 cases x with
 |ref n=>obtain⟨a,vs,h1,_,h2,h3⟩:=r.lst h e;exact⟨a,vs,h1,h2,h3⟩
 |lst ys=>cases e;rw[Rep]at h;obtain⟨a,vs,h1,_,h2,h3⟩:=h;exact⟨a,vs,h1,h2,h3⟩
 |_=>cases e
def ynl(o:D->List D->M D)(m:M (List D))(x:D):M D:=fun σ=>match ysf σ x with
 |some _=>bnd m (o x) σ
 |none=>.bad
def ylz(o:D->List D->M D)(f:Ev->M D)(fs:Ev->M (List D)):Ev->M D:=fun ρ=>bnd (f ρ) (ynl o (fs ρ))
def ykz(T:Tb)(r:V->List V->Hp->VK->Prop)(o:D->List D->M D):Prop:=∀ (E:XK) μ H σ x xs v vs Q,Rel T μ H σ->Rep T μ H x v->yqs T μ H xs vs->yqm T E (Rep T) μ H (o x xs σ) Q->r v vs H Q
def zzo(x:D)(xs:List D):M D:=fun σ=>match x,xs with
 | .ref n,[y]=>(match ync σ n with
  |some ys=>if ys.length<cap then .ok .non (σ.set n (.lst (ys++[y])))else .bad
  |none=>.bad)
 |_,_=>.bad
section
variable{T:Tb}{X:Cx}{o e:Expr}{es:List Expr}{f:Ev->M D}{fs:Ev->M (List D)}{name:Str}{apos cpos:Pos}{id:String}{r:V->List V->Hp->VK->Prop}{g:D->List D->M D}
theorem zws(pa:PlainAttrs "list")(slot:Slot "list" name id)(hty:typeOf (.builtin id)=pure (.type "method_descriptor"))(hm:MtR X id r)(hs:ykz T r g)(ho:FE T X o f)(ha:FA T X (e::es) fs)
  (hbase:attributeBase o name X.env (eval o X.env)=eval o X.env:=by rfl)
  (hfew:((backTo cpos (starEach (e::es) X.env)).all (fun x=>!x.1) && (backToKw cpos (keywordEach [] X.env)).all (fun x=>x.1.isSome)
   && decide ((e::es).length+([]:List Keyword).length+(if ([]:List Keyword).isEmpty then 0 else 1)<30))=true:=by rfl)
  (hline:(apos.endLine == cpos.line)=true:=by rfl) (hst:starEach (e::es) X.env=(false,eval e X.env)::starEach es X.env:=by rfl) (hplain:(backTo cpos (starEach es X.env)).any (·.1)=false:=by rfl) :
  FE T X (.Call (.Attribute o name apos) (e::es) [] cpos) (ylz g f fs):=by
 intro pins s st H Q I h;refine yoe pa slot hty hm ho ha hbase hfew hline hst hplain pins s st H Q I ?_;obtain⟨μ,ρ,σ,he,hr,hp⟩:=h;refine⟨μ,ρ,σ,he,hr,hp.bind fun x σ1 μ1 v H1 _ e1 r1 p1 q1=>?_⟩;unfold ynl at q1;cases el:ysf σ1 x with
 |none=>rw[el]at q1;exact q1.elim
 |some xs=>
  rw[el]at q1;obtain⟨a,vs,rfl,h1,h2⟩:=r1.ls p1 el;refine⟨.inl ⟨rfl,vs,SqL.of h1⟩,μ1,ρ,σ1,he.mono e1,r1,q1.bind fun ds σ2 μ2 ws H2 _ e2 r2 p2 q2=>?_⟩;exact hs _ μ2 H2 σ2 x ds (.ref a) ws Q r2 (Rep.mono e2 _ _ p1) p2 q2
theorem zjl:ykz T ya4 zzo:=by
 intro E μ H σ x xs v vs Q r p q h;cases x with
 |ref n=>
  match xs with
  |[]=>exact h.elim
  |[y]=>
   rw[yqs]at q;obtain⟨w,z,rfl,q1,q2⟩:=q;rw[yqs]at q2;subst q2;unfold zzo at h;cases el:ync σ n with
   |none=>simp only[el]at h;exact h.elim
   |some ys=>
    simp only[el]at h;by_cases hc:ys.length<cap
    ·rw[if_pos hc]at h;obtain⟨a,vs,rfl,hn,h1,h2⟩:=r.lst p el;have wr:=r.write (o:=.lst (vs++[w])) (ob:=.lst (ys++[y])) hn ⟨_,upd_same,by
      have ex:Ext μ H μ (upd H a (.lst (vs++[w]))):=zk1 (List.mem_of_getElem? hn) h1 (fun _ z=>by cases z) (fun _ _ z=>by cases z);exact yqs.append (yqs.mono ex _ _ h2) (yqs.cons (Rep.mono ex _ _ q1) yqs.nil)⟩
     exact⟨a,vs,w,rfl,rfl,h1,by rw[<-h2.length];exact yd3 hc,h _ _ _ wr.1 wr.2 (by rw[Rep])⟩
    ·rw[if_neg hc]at h;exact h.elim
  |_::_::_=>exact h.elim
 |_=>exact h.elim
end
inductive BT where
 |int|bool|str|tuple|list|dict
def BT.nm:BT->String
 | .int=>"int" | .bool=>"bool" | .str=>"str" | .tuple=>"tuple" | .list=>"list" | .dict=>"dict"
def yr7(σ:Sto)(c:BT):D->Option Bool
 | .non=>some false
 | .bl _=>some (match c with | .int=>true | .bool=>true|_=>false)
 | .int _=>some (match c with | .int=>true|_=>false)
 | .str _=>some (match c with | .str=>true|_=>false)
 | .tup _=>some (match c with | .tuple=>true|_=>false)
 | .scr _=>none
 | .lst _=>some (match c with | .list=>true|_=>false)
 | .dic _ _=>some (match c with | .dict=>true|_=>false)
 | .obj _ _ _=>none
 | .exn _=>none
 | .ref n=>match σ[n]? with
  |some (.lst _)=>some (match c with | .list=>true|_=>false)
  |some (.dic _)=>some (match c with | .dict=>true|_=>false)
  |_=>none
def ys0(c:BT)(x:D):M D:=fun σ=>match yr7 σ c x with
 |some b=>.ok (.bl b) σ
 |none=>.bad
section
variable{T:Tb}{X:Cx}
def ytx(K:PySem.W.Frag)(c:String):List V->Hp->VK->Prop:=fun xs H Q=>∃ x t b,xs=[x,.ty c]/\TyOf K H x t/\PySem.W.kitOne K t (.type c)=some b/\Q (.bl b) H
theorem zoe(c:String):ykp X (.builtin "isinstance") (ytx X.K c):=by
 intro pins s st H xs us Q I r h;obtain⟨x,t,b,rfl,ty,e,q⟩:=h;obtain⟨u,u2,rfl,ru,ru2⟩:=ypy r;cases ru2;exact zlo I ru ty e fun tk=>⟨.bl b,H,I.tok _,rfl,q⟩
theorem ypw{μ:List Addr}{H:Hp}{σ:Sto}{x:D}{v:V}{c:BT}{b:Bool}(r:Rel T μ H σ)(p:Rep T μ H x v)(h:yr7 σ c x=some b):∃ t,TyOf X.K H v t/\PySem.W.kitOne X.K t (.type c.nm)=some b:=by
 cases x with
 |non=>rw[Rep]at p;subst p;refine⟨_,.non,?_⟩;cases c<;>cases h<;>rfl
 |bl i=>rw[Rep]at p;subst p;refine⟨_,.bl i,?_⟩;cases c<;>cases h<;>rfl
 |int i=>rw[Rep]at p;subst p;refine⟨_,.int i,?_⟩;cases c<;>cases h<;>rfl
 |str i=>rw[Rep]at p;subst p;refine⟨_,.str i,?_⟩;cases c<;>cases h<;>rfl
 |tup ds=>rw[Rep]at p;obtain⟨q,vs,rfl,h1,_⟩:=p;refine⟨_,.tup h1,?_⟩;cases c<;>cases h<;>rfl
 |scr ns=>cases h
 |lst ds=>rw[Rep]at p;obtain⟨q,vs,rfl,_,h1,_⟩:=p;refine⟨_,.lst h1,?_⟩;cases c<;>cases h<;>rfl
 |dic ks ds=>rw[Rep]at p;obtain⟨q,vs,rfl,_,h1,_⟩:=p;refine⟨_,.dK h1,?_⟩;cases c<;>cases h<;>rfl
 |obj c' ks ds=>cases h
 |exn c'=>cases h
 |ref n=>
  unfold yr7 at h;dsimp only at h;cases e:σ[n]? with
  |none=>rw[e]at h;cases h
  |some o=>
   rw[e]at h;obtain⟨a,rfl,_,h2⟩:=r.at p e;cases o with
   |lst xs=>obtain⟨vs,h3,_⟩:=h2;refine⟨_,.lst h3,?_⟩;cases c<;>cases h<;>rfl
   |dic xs=>obtain⟨vs,h3,_⟩:=h2;refine⟨_,.dK h3,?_⟩;cases c<;>cases h<;>rfl
   |ins c' fs=>cases h
theorem yfc(c:BT){tn:Str}{e:Expr}{f:Ev->M D}{p p2 pos:Pos}(he:FE T X e f)(hg:Gl X "isinstance")(hm:X.mg "isinstance" = none)(hg2:Gl X tn)(hm2:X.mg tn=none)(hv2:bootBuiltins tn=some (.type c.nm))(hn2:tn ≠ "__name__":=by decide)(hd2:(tn == ("__debug__" : Str))=false:=by decide)
  (hs:starEach [e,.Name tn p2] X.env=(false,eval e X.env)::starEach [.Name tn p2] X.env:=by rfl) (hpl:(backTo pos (starEach [.Name tn p2] X.env)).any (·.1)=false:=by rfl) :
  FE T X (.Call (.Name "isinstance" p) [e,.Name tn p2] [] pos) (eUn (ys0 c) f):=by
 intro pins s st H Q I h;refine zsa (zoe c.nm) hg hm boot_isinstance (yae he (yae (yag hg2 hm2 hv2 (v:=.ty c.nm) rfl hn2 hd2) yil) hs) (by decide) (by decide) hs hpl pins s st H Q I ?_;obtain⟨μ,ρ,σ,hE,hr,hp⟩:=h;refine⟨μ,ρ,σ,hE,hr,hp.bind fun x σ1 μ1 v H1 _ e1 r1 p1 q1=>?_⟩;unfold ys0 at q1;cases eb:yr7 σ1 c x with
 |none=>rw[eb]at q1;exact q1.elim
 |some b=>
  rw[eb]at q1;obtain⟨t,h1,h2⟩:=ypw (X:=X) r1 p1 eb;exact⟨v,t,b,rfl,h1,h2,yqm.here q1 r1 (by rw[Rep])⟩
end
def yum:Ev->M Fl:=fun ρ=>ret (.nx ρ)
def yus(h:Ev->M Fl):Fl->M Fl
 | .nx ρ'=>h ρ'
 | .rt d=>ret (.rt d)
 | .bk ρ'=>ret (.bk ρ')
 | .ct ρ'=>ret (.ct ρ')
 | .xc ρ' x=>ret (.xc ρ' x)
def yup(g h:Ev->M Fl):Ev->M Fl:=fun ρ=>bnd (g ρ) (yus h)
def yue:D->M Fl:=fun d=>ret (.rt d)
def yuo(f:Ev->M D):Ev->M Fl:=fun ρ=>xs ρ (f ρ) yue
def yrt(ρ:Ev):D->M Fl:=fun _=>ret (.nx ρ)
def yuj(f:Ev->M D):Ev->M Fl:=fun ρ=>xs ρ (f ρ) (yrt ρ)
def yut(i:Nat)(ρ:Ev):D->M Fl:=fun d=>ret (.nx (ρ.set i (some d)))
def yuq(i:Nat)(f:Ev->M D):Ev->M Fl:=fun ρ=>xs ρ (f ρ) (yut i ρ)
def sIf(t:Ev->M Bool)(a b:Ev->M Fl):Ev->M Fl:=fun ρ=>xs ρ (t ρ) (ifK (a ρ) (b ρ))
section
variable{T:Tb}{X:Cx}{st':Stmt}{yud:List Stmt}{g h:Ev->M Fl}{e:Expr}{f:Ev->M D}{pos:Pos}
theorem zxd:FSs T X [] yum:=by
 intro pins s st H D I hw;obtain⟨μ,ρ,σ,hE,hr,hp⟩:=hw;exact yaw pins s st H D I (yqm.here (g:=Gl2.nx st) hp hr hE)
theorem ybv{μ:List Addr}{H:Hp}{σ:Sto}{fl:Fl}{gl:Gl2}{D:Ends}{N:St->Hp->Prop}(r:Rel T μ H σ)(q:RFl T μ H fl gl)(k:Fl->M Fl)
  (hn:∀ ρ,fl=.nx ρ->∀ st,gl=.nx st->yp6 T μ H ρ st->N st H) (ho:(∀ ρ,fl≠.nx ρ)->yqm T EN (RFl T) μ H (.ok fl σ) (yp7 X D)):yp7 X { D with nx:=N } gl H:=by
 cases fl with
 |nx ρ=>cases gl with
  |nx st=>exact hn ρ rfl st rfl q
  |_=>exact q.elim
 |rt d=>cases gl with
  |rt v=>have z:=yqm.here (g:=Gl2.rt v) (ho fun _ z=>by cases z) r q;exact z
  |_=>exact q.elim
 |bk ρ=>cases gl with
  |bk v=>have z:=yqm.here (g:=Gl2.bk v) (ho fun _ z=>by cases z) r q;exact z
  |_=>exact q.elim
 |ct ρ=>cases gl with
  |ct v=>have z:=yqm.here (g:=Gl2.ct v) (ho fun _ z=>by cases z) r q;exact z
  |_=>exact q.elim
 |xc ρ x=>cases gl with
  |xc v c fd=>have z:=yqm.here (g:=Gl2.xc v c fd) (ho fun _ z=>by cases z) r q;exact z
  |_=>exact q.elim
theorem zp2(h1:FS T X st' g)(h2:FSs T X yud h):FSs T X (st'::yud) (yup g h):=by
 intro pins s st H D I hw;refine zsm h1 h2 pins s st H D I ?_;obtain⟨μ,ρ,σ,hE,hr,hp⟩:=hw;refine⟨μ,ρ,σ,hE,hr,hp.bind fun fl σ1 μ1 gl H1 _ e1 r1 q1 p1=>?_⟩;refine ybv (X:=X) r1 q1 (fun _=>bad) (fun ρ' ef st1 eg he=>?_) (fun hn=>?_)
 ·subst ef;exact⟨μ1,ρ',σ1,he,r1,p1⟩
 ·cases fl with
  |nx ρ'=>exact(hn ρ' rfl).elim
  |_=>exact p1
theorem zxe(h1:FS T X st' g):FSs T X [st'] g:=yax h1
theorem yfy(he:FE T X e f):FS T X (.Return (some e) pos) (yuo f):=by
 intro pins s st H D I hw;refine yi4 he pins s st H D I ?_;obtain⟨μ,ρ,σ,hE,hr,hp⟩:=hw;exact⟨μ,ρ,σ,hE,hr,hp.xs hE fun d σ1 μ1 v H1 _ e1 r1 q1 p1=>yqm.here (g:=Gl2.rt v) p1 r1 q1⟩
theorem zw9(he:FE T X e f)(hs:swapsWith e none pos.line X.env=pure false:=by rfl):FS T X (.Expr e pos) (yuj f):=by
 intro pins s st H D I hw;refine yav he hs pins s st H D I ?_;obtain⟨μ,ρ,σ,hE,hr,hp⟩:=hw;exact⟨μ,ρ,σ,hE,hr,hp.xs hE fun d σ1 μ1 v H1 _ e1 r1 q1 p1=>yqm.here (g:=Gl2.nx st) p1 r1 (hE.mono e1)⟩
theorem yfz{i:Nat}{x:Str}{pos':Pos}(hN:X.N.Nodup)(hi:X.N[i]?=some x)(hx:Loc X.env.scope x)(he:FE T X e f)(hs:swapsWith e (some (.Name x pos')) pos.line X.env=pure false:=by rfl)(hf:X.fn x=true\/X.env.scope.names.lookup x=some .local:=by first|exact .inl rfl|exact .inr rfl|assumption) :
  FS T X (.Assign [.Name x pos'] e pos) (yuq i f):=by
 intro pins s st H D I hw;refine yi5 hN hi hx he hs hf pins s st H D I ?_;obtain⟨μ,ρ,σ,hE,hr,hp⟩:=hw;exact⟨μ,ρ,σ,hE,hr,hp.xs hE fun d σ1 μ1 v H1 _ e1 r1 q1 p1=>yqm.here (g:=Gl2.nx (st.set i (some v))) p1 r1 ((hE.mono e1).set i q1)⟩
theorem ymj{c:Expr}{a b:List Stmt}{tc:Ev->M Bool}{ga gb:Ev->M Fl}(hc:FT T X c tc)(ha:FSs T X a ga)(hb:FSs T X b gb):FS T X (.If c a b pos) (sIf tc ga gb):=by
 intro pins s st H D I hw;refine yoj hc ha hb pins s st H D I ?_;obtain⟨μ,ρ,σ,hE,hr,hp⟩:=hw;refine⟨μ,ρ,σ,hE,hr,hp.xs hE fun c σ1 μ1 v H1 _ e1 r1 q1 p1=>?_⟩;cases q1;cases c with
 |true=>unfold ifK at p1;rw[if_pos rfl]at p1 ⊢;exact⟨μ1,ρ,σ1,hE.mono e1,r1,p1⟩
 |false=>unfold ifK at p1;rw[if_neg Bool.false_ne_true]at p1 ⊢;exact⟨μ1,ρ,σ1,hE.mono e1,r1,p1⟩
def gD(T:Tb)(tg:D->Ev->Option Ev):TG:=fun v st H Q=>∃ μ σ ρ d ρ',yp6 T μ H ρ st/\Rel T μ H σ/\Rep T μ H d v/\tg d ρ=some ρ'/\∀ st',yp6 T μ H ρ' st'->Q st' H
def gsD(T:Tb)(tg:List D->Ev->Option Ev):TGs:=fun vs st H Q=>∃ μ σ ρ ds ρ',yp6 T μ H ρ st/\Rel T μ H σ/\yqs T μ H ds vs/\tg ds ρ=some ρ'/\∀ st',yp6 T μ H ρ' st'->Q st' H
abbrev FG(T:Tb)(X:Cx)(t:Expr)(tg:D->Ev->Option Ev):Prop:=PG X t (gD T tg)
abbrev FGs(T:Tb)(X:Cx)(ts:List Expr)(tg:List D->Ev->Option Ev):Prop:=PGs X ts (gsD T tg)
def tgN(i:Nat):D->Ev->Option Ev:=fun d ρ=>some (ρ.set i (some d))
def ypt:List D->Ev->Option Ev
 |[],ρ=>some ρ
 |_::_,_=>none
def yj7(t:D->Ev->Option Ev)(u:List D->Ev->Option Ev):List D->Ev->Option Ev
 |[],_=>none
 |d::ds,ρ=>(t d ρ).bind fun ρ'=>u ds ρ'
def tgT(n:Nat)(t:List D->Ev->Option Ev):D->Ev->Option Ev
 | .tup ds,ρ=>if ds.length=n then t ds ρ else none
 |_,_=>none
theorem zwv{i:Nat}{x:Str}(hN:X.N.Nodup)(hi:X.N[i]?=some x)(hx:Loc X.env.scope x)(hf:X.fn x=true\/X.env.scope.names.lookup x=some .local:=by first|exact .inl rfl|exact .inr rfl|assumption):FG T X (.Name x pos) (tgN i):=by
 intro pins s st H v u Q I r h;obtain⟨μ,σ,ρ,d,ρ',hE,hr,hd,ht,hq⟩:=h;cases ht;exact yam hN hi hx hf pins s st H v u Q I r (hq _ (hE.set i hd))
theorem zww:FGs T X [] ypt:=by
 intro pins s st H vs us Q I r h;obtain⟨μ,σ,ρ,ds,ρ',hE,hr,hd,ht,hq⟩:=h;cases ds with
 |nil=>cases ht;rw[yqs]at hd;subst hd;exact yan pins s st H [] us Q I r ⟨rfl,hq _ hE⟩
 |cons d ds=>cases ht
theorem zpo{es:List Expr}{t:D->Ev->Option Ev}{u:List D->Ev->Option Ev}(h1:FG T X e t)(h2:FGs T X es u)
  (hs:(assignEach (e::es) X.env).map (·.2)=assign e X.env::(assignEach es X.env).map (·.2):=by rfl):FGs T X (e::es) (yj7 t u):=by
 intro pins s st H vs us Q I r h;obtain⟨μ,σ,ρ,ds,ρ',hE,hr,hd,ht,hq⟩:=h;cases ds with
 |nil=>cases ht
 |cons d ds=>
  rw[yqs]at hd;obtain⟨v,w,rfl,hd1,hd2⟩:=hd;obtain⟨ρ1,e1,e2⟩:=Option.bind_eq_some_iff.mp ht;refine zsf h1 h2 hs pins s st H (v::w) us Q I r ⟨v,w,rfl,μ,σ,ρ,d,ρ1,hE,hr,hd1,e1,fun st1 hE1=>?_⟩;exact⟨μ,σ,ρ1,ds,ρ',hE1,hr,hd2,e2,hq⟩
theorem yfn{es:List Expr}{k:Nat}{t:List D->Ev->Option Ev}{n:Nat}(hc:X.calm=true)(h:FGs T X es t)
  (hn:(assignEach es X.env).length=n:=by rfl) (hst:(assignEach es X.env).findIdx? (·.1)=none:=by rfl):FG T X (.Tuple es k pos) (tgT n t):=by
 intro pins s st H v u Q I r hw;obtain⟨μ,σ,ρ,d,ρ',hE,hr,hd,ht,hq⟩:=hw;cases d with
 |tup ds=>
  have hd0:=hd;rw[Rep]at hd;obtain⟨p,vs,rfl,h1,h2⟩:=hd;unfold tgT at ht;dsimp only at ht;by_cases hl:ds.length=n
  ·rw[if_pos hl]at ht;exact yiy hc h hn hst pins s st H (.ref p) u Q I r ⟨p,vs,rfl,SqT.of h1,by rw[<-h2.length];exact hl,μ,σ,ρ,ds,ρ',hE,hr,h2,ht,hq⟩
  ·rw[if_neg hl]at ht;cases ht
 |_=>cases ht
def yq1(tg:D->Ev->Option Ev)(ρ:Ev)(d:D):M Fl:=match tg d ρ with
 |some ρ'=>ret (.nx ρ')
 |none=>bad
def yuh(f:Ev->M D)(tg:D->Ev->Option Ev):Ev->M Fl:=fun ρ=>xs ρ (f ρ) (yq1 tg ρ)
theorem yfu{tg:Expr}{t:D->Ev->Option Ev}(he:FE T X e f)(hg:FG T X tg t)(hs:swapsWithSole [tg] e pos.line X.env=pure false:=by rfl)(hw:swappedStores [tg] e X.env=pure none:=by rfl)
  (h1:(assignEach [tg] X.env).map (·.2)=[assign tg X.env]:=by rfl):FS T X (.Assign [tg] e pos) (yuh f t):=by
 intro pins s st H D I hq;refine yi1 he hg hs hw h1 pins s st H D I ?_;obtain⟨μ,ρ,σ,hE,hr,hp⟩:=hq;refine⟨μ,ρ,σ,hE,hr,hp.xs hE fun d σ1 μ1 v H1 _ e1 r1 q1 p1=>?_⟩;unfold yq1 at p1;cases ht:t d ρ with
 |none=>simp only[ht]at p1;exact p1.elim
 |some ρ'=>simp only[ht]at p1;exact⟨μ1,σ1,ρ,d,ρ',hE.mono e1,r1,q1,ht,fun st1 hE1=>yqm.here (g:=Gl2.nx st1) p1 r1 hE1⟩
def yn4(x i d:D):M Unit:=fun σ=>match x,i with
 | .ref n,.int k=>(match ync σ n with
  |some xs=>(match ixN xs.length k with
   |some j=>.ok () (σ.set n (.lst (xs.set j d)))
   |none=>.bad)
  |none=>.bad)
 |_,_=>.bad
def ypb(ρ:Ev)(d x i:D):M Fl:=fun σ=>match yn4 x i d σ with
 | .ok _ σ'=>.ok (.nx ρ) σ'
 |_=>.bad
def ypa(ρ:Ev)(fi:Ev->M D)(d x:D):M Fl:=xs ρ (fi ρ) (ypb ρ d x)
def yo9(ρ:Ev)(fo fi:Ev->M D)(d:D):M Fl:=xs ρ (fo ρ) (ypa ρ fi d)
def yo2(f fo fi:Ev->M D):Ev->M Fl:=fun ρ=>xs ρ (f ρ) (yo9 ρ fo fi)
theorem zxc{o i:Expr}{fo fi:Ev->M D}{pos':Pos}(he:FE T X e f)(ho:FE T X o fo)(hi:FE T X i fi)
  (ha:∀ v,assign (.Subscript o i pos') X.env v=(do
   let ov <-holding [v] (eval o X.env);let iv <-holding [v,ov] (eval i X.env)
   standAt pos'
   holding [v,ov,iv] (setItem ov iv v)
   release [v,ov,iv] []):=by intro _;rfl)
  (hs:swapsWithSole [.Subscript o i pos'] e pos.line X.env=pure false:=by rfl) (hw:swappedStores [.Subscript o i pos'] e X.env=pure none:=by rfl)
  (h1:(assignEach [.Subscript o i pos'] X.env).map (·.2)=[assign (.Subscript o i pos') X.env]:=by rfl):FS T X (.Assign [.Subscript o i pos'] e pos) (yo2 f fo fi):=by
 intro pins s st H D I hq;refine yi1 he (yix ho hi ztl ha) hs hw h1 pins s st H D I ?_;obtain⟨μ,ρ,σ,hE,hr,hp⟩:=hq;refine⟨μ,ρ,σ,hE,hr,hp.xs hE fun d σ1 μ1 v H1 _ e1 r1 q1 p1=>?_⟩;refine⟨μ1,ρ,σ1,hE.mono e1,r1,p1.xs (hE.mono e1) fun x σ2 μ2 vo H2 _ e2 r2 q2 p2=>?_⟩;refine⟨μ2,ρ,σ2,(hE.mono e1).mono e2,r2,p2.xs ((hE.mono e1).mono e2) fun k σ3 μ3 vi H3 _ e3 r3 q3 p3=>?_⟩;have hd:=Rep.mono e3 _ _ (Rep.mono e2 _ _ q1);have hx:=Rep.mono e3 _ _ q2;unfold ypb yn4 at p3;cases x with
 |ref n=>
  cases k with
  |int k=>
   dsimp only at p3;cases el:ync σ3 n with
   |none=>rw[el]at p3;exact p3.elim
   |some xs=>
    rw[el]at p3;dsimp only at p3;cases ej:ixN xs.length k with
    |none=>rw[ej]at p3;exact p3.elim
    |some j=>
     rw[ej]at p3;obtain⟨a,vs,rfl,hn,h1,h2⟩:=r3.lst hx el;have wr:=r3.write (o:=.lst (vs.set j v)) (ob:=.lst (xs.set j d)) hn ⟨_,upd_same,by
      have ex:Ext μ3 H3 μ3 (upd H3 a (.lst (vs.set j v))):=zk1 (List.mem_of_getElem? hn) h1 (fun _ z=>by cases z) (fun _ _ z=>by cases z);exact yqs.set (Rep.mono ex _ _ hd) j (yqs.mono ex _ _ h2)⟩
     exact⟨a,vs,k,j,rfl,yge q3,h1,by rw[<-h2.length];exact ej,p3 _ (.nx st) _ wr.1 wr.2 (((hE.mono e1).mono e2).mono e3 |>.mono wr.1)⟩
  |_=>exact p3.elim
 |_=>exact p3.elim
end
inductive Src where
 |seq (ds:List D)
 |lref (n:Nat)
def Src.nx:Src->Nat->Sto->Option (Option D)
 | .seq ds,i,_=>some ds[i]?
 | .lref n,i,σ=>(ync σ n).map fun xs=>xs[i]?
def yk2(T:Tb)(μ0:List Addr)(H0:Hp)(src:Src)(J:It):Prop:=∀ μ H σ i,Ext μ0 H0 μ H->Rel T μ H σ->match src.nx i σ with
 |none=>True
 |some none=>J.stop i H
 |some (some d)=>J.go i H/\∀ x H',J.yld i H x H'->H'=H/\Rep T μ H d x
def tI(T:Tb)(X:Cx)(f:Ev->M Src):TI:=fun st H R=>∃ μ ρ σ,yp6 T μ H ρ st/\Rel T μ H σ/\yqm T (XE X st) (yk2 T) μ H (f ρ σ) R
abbrev FI(T:Tb)(X:Cx)(tg iter:Expr)(f:Ev->M Src):Prop:=PI X tg iter (tI T X f)
def yjd(n:Nat):List D:=(List.range n).map fun(i:Nat)=>D.int (i:Int)
def yo4(d:D):M Src:=fun σ=>match d with
 | .tup ds=>.ok (.seq ds) σ
 | .lst ds=>.ok (.seq ds) σ
 | .scr ns=>.ok (.seq (ns.map D.int)) σ
 | .ref n=>(match ync σ n with
  |some _=>.ok (.lref n) σ
  |none=>.bad)
 |_=>.bad
def yu1(f:Ev->M D):Ev->M Src:=fun ρ=>bnd (f ρ) yo4
noncomputable def yca(j:Int):Bool:=hide (decide (-(2 ^ 62)<=j) && decide (j<2 ^ 62))
noncomputable def yuf(d:D):M Src:=fun σ=>match d with
 | .int j=>if yca j=true then .ok (.seq (yjd j.toNat)) σ else .bad
 |_=>.bad
noncomputable def yu0(f:Ev->M D):Ev->M Src:=fun ρ=>bnd (f ρ) yuf
section
variable{T:Tb}{X:Cx}{tg iter:Expr}{f:Ev->M D}
def yr6(K:PySem.W.Frag)(tl:TE):TI:=fun σ H R=>tl σ H fun x H1=>∃ a,x=.ref a/\(((∃ xs,SqL K H1 a xs)/\R (Itl K a) H1)\/((∃ xs,SqT K H1 a xs)/\R (Itt K a) H1))
theorem yiz{l:Expr}{tl:TE}(hl:PE X l tl):PI X tg l (yr6 X.K tl):=by
 intro pins s σ H R I h;refine thn (hl pins s σ H _ I h) fun v s1 ⟨x,H1,I1,r1,q1⟩=>?_;obtain⟨a,e,q1⟩:=q1;subst e;cases r1;rcases q1 with⟨⟨xs,hq⟩,q⟩|⟨⟨xs,hq⟩,q⟩
 ·obtain⟨its,rv,p,hz⟩:=I1.list hq;refine wpAny_pyIter_list p.isList ?_;refine⟨s1.heap.objs.size,[s1.heap.objs.size],_,_,H1,rfl,I1.kept (t':=s1.toks) fun b o e=>Heap.get?_push_of_some _ e,znw a _,⟨_,Heap.get?_push_size _ rfl,rfl,rfl⟩,fun b hb=>?_,q⟩;have e:b=s1.heap.objs.size:=by simpa using hb
  subst e;exact I1.fpOk (Nat.le_refl _) (I1.hok.fresh (Nat.le_refl _))
 ·obtain⟨its,rv,p,hz⟩:=I1.tuple hq;refine wpAny_pyIter_tuple (show s1.heap.IsTuple a its.toArray from p) ?_;refine⟨s1.heap.objs.size,[s1.heap.objs.size],_,_,H1,rfl,I1.kept (t':=s1.toks) fun b o e=>Heap.get?_push_of_some _ e,zjr a _,⟨_,Heap.get?_push_size _ rfl,rfl,rfl⟩,fun b hb=>?_,q⟩;have e:b=s1.heap.objs.size:=by simpa using hb
  subst e;exact I1.fpOk (Nat.le_refl _) (I1.hok.fresh (Nat.le_refl _))
theorem ztz{μ1:List Addr}{H1:Hp}{a:Addr}{ds:List D}{K:PySem.W.Frag}(h:∀ μ2 H2,Ext μ1 H1 μ2 H2->∃ vs,SqL K H2 a vs/\yqs T μ2 H2 ds vs):yk2 T μ1 H1 (.seq ds) (Itl K a):=by
 intro μ2 H2 σ2 i ex r2;obtain⟨vs,h3,h4⟩:=h μ2 H2 ex;show match some ds[i]? with|none=>True|some none=>_|some (some d)=>_
 cases e:ds[i]? with
 |none=>exact⟨vs,h3,by rw[<-h4.length];exact List.getElem?_eq_none_iff.mp e⟩
 |some d=>
  obtain⟨v,hv1,hv2⟩:=h4.get e;refine⟨⟨vs,v,h3,hv1⟩,fun x H' y=>?_⟩;obtain⟨rfl,y⟩:=y;have:=y vs h3;rw[hv1]at this;cases this;exact⟨rfl,hv2⟩
theorem ycw{μ1:List Addr}{H1:Hp}{a:Addr}{ds:List D}{K:PySem.W.Frag}(h:∀ μ2 H2,Ext μ1 H1 μ2 H2->∃ vs,SqT K H2 a vs/\yqs T μ2 H2 ds vs):yk2 T μ1 H1 (.seq ds) (Itt K a):=by
 intro μ2 H2 σ2 i ex r2;obtain⟨vs,h3,h4⟩:=h μ2 H2 ex;show match some ds[i]? with|none=>True|some none=>_|some (some d)=>_
 cases e:ds[i]? with
 |none=>exact⟨vs,h3,by rw[<-h4.length];exact List.getElem?_eq_none_iff.mp e⟩
 |some d=>
  obtain⟨v,hv1,hv2⟩:=h4.get e;refine⟨⟨vs,v,h3,hv1⟩,fun x H' y=>?_⟩;obtain⟨rfl,y⟩:=y;have:=y vs h3;rw[hv1]at this;cases this;exact⟨rfl,hv2⟩
theorem yfo(hK:T.K=X.K)(h:FE T X iter f):FI T X tg iter (yu1 f):=by
 intro pins s st H R I hw;refine yiz h pins s st H R I ?_;obtain⟨μ,ρ,σ,hE,hr,hp⟩:=hw;refine⟨μ,ρ,σ,hE,hr,hp.bind fun d σ1 μ1 v H1 _ e1 r1 q1 p1=>?_⟩;cases d with
 |tup ds=>
  rw[Rep]at q1;obtain⟨p,vs,rfl,h1,h2⟩:=q1;exact⟨p,rfl,.inr ⟨⟨vs,SqT.of h1⟩,yqm.here (R:=yk2 T) p1 r1 (ycw fun μ2 H2 ex=>⟨vs,SqT.of (ex.tup _ _ h1),yqs.mono ex _ _ h2⟩)⟩⟩
 |lst ds=>
  rw[Rep]at q1;obtain⟨p,vs,rfl,hn,h1,h2⟩:=q1;exact⟨p,rfl,.inl ⟨⟨vs,SqL.of h1⟩,yqm.here (R:=yk2 T) p1 r1 (ztz fun μ2 H2 ex=>⟨vs,SqL.of (ex.keep _ _ h1 hn).1,yqs.mono ex _ _ h2⟩)⟩⟩
 |scr ns=>
  rw[Rep]at q1;obtain⟨p,rfl,h1⟩:=q1;have hsc:∀ μ2 H2,Ext μ1 H1 μ2 H2->SqL X.K H2 p (ns.map V.int):=fun μ2 H2 ex=>by
   have h2:Rep T μ2 H2 (.scr ns) (.ref p):=Rep.mono ex _ _ (by rw[Rep];exact⟨p,rfl,h1⟩);rw[Rep]at h2;obtain⟨p',e',h3⟩:=h2;cases e';rw[<-hK];exact h3.seq
  exact⟨p,rfl,.inl ⟨⟨_,hsc _ _ (Ext.refl _ _)⟩,yqm.here (R:=yk2 T) p1 r1 (ztz fun μ2 H2 ex=>⟨_,hsc μ2 H2 ex,zmy ns⟩)⟩⟩
 |ref n=>
  unfold yo4 at p1;dsimp only at p1;cases el0:ync σ1 n with
  |none=>rw[el0]at p1;exact p1.elim
  |some xs=>
   rw[el0]at p1;obtain⟨a,vs,rfl,_,h1,h2⟩:=r1.lst q1 el0;refine⟨a,rfl,.inl ⟨⟨vs,SqL.of h1⟩,yqm.here (R:=yk2 T) p1 r1 fun μ2 H2 σ2 i ex r2=>?_⟩⟩;show match (ync σ2 n).map (fun xs=>xs[i]?)with|none=>True|some none=>_|some (some d)=>_
   cases el:ync σ2 n with
   |none=>trivial
   |some ys=>
    obtain⟨a',ws,ea,_,h3,h4⟩:=r2.lst (Rep.mono ex _ _ q1) el;cases ea;show match some (ys[i]?)with|none=>True|some none=>_|some (some d)=>_
    cases e:ys[i]? with
    |none=>exact⟨ws,SqL.of h3,by rw[<-h4.length];exact List.getElem?_eq_none_iff.mp e⟩
    |some d=>
     obtain⟨v,hv1,hv2⟩:=h4.get e;refine⟨⟨ws,v,SqL.of h3,hv1⟩,fun x H' y=>?_⟩;obtain⟨rfl,y⟩:=y;have:=y ws (SqL.of h3);rw[hv1]at this;cases this;exact⟨rfl,hv2⟩
 |_=>exact p1.elim
theorem zi0{n i:Nat}(h:i<n):(yjd n)[i]?=some (.int i):=by simp[yjd,h]
theorem zi1(n:Nat):(yjd n).length=n:=by simp[yjd]
theorem zpp{a:Expr}{p pos:Pos}(hgl:Gl X "range")(hm:X.mg "range" = none)(ha:FE T X a f)(hst:starEach [a] X.env=[(false,eval a X.env)]:=by rfl):FI T X tg (.Call (.Name "range" p) [a] [] pos) (yu0 f):=by
 intro pins s st H R I hw;refine zmr hgl hm (yae ha yil hst) hst pins s st H R I ?_;obtain⟨μ,ρ,σ,hE,hr,hp⟩:=hw;refine⟨μ,ρ,σ,hE,hr,hp.bind fun d σ1 μ1 v H1 _ e1 r1 q1 p1=>?_⟩;cases d with
 |int j=>
  rw[Rep]at q1;subst q1;unfold yuf at p1;dsimp only at p1;by_cases hj:yca j=true
  ·rw[if_pos hj]at p1;simp only[yca,zxo,Bool.and_eq_true,decide_eq_true_eq]at hj;refine⟨j,rfl,hj.1,hj.2,yqm.here (R:=yk2 T) p1 r1 fun μ2 H2 σ2 i ex r2=>?_⟩;show match some (yjd j.toNat)[i]? with|none=>True|some none=>_|some (some d)=>_
   by_cases hi:i<j.toNat
   ·rw[zi0 hi];refine⟨hi,fun x H' y=>?_⟩;obtain⟨rfl,rfl⟩:=y;exact⟨rfl,by rw[Rep,Int.zero_add]⟩
   ·rw[List.getElem?_eq_none_iff.mpr (by rw[zi1];omega)];exact Nat.not_lt.mp hi
  ·rw[if_neg hj]at p1;exact p1.elim
 |_=>exact p1.elim
end
def ym9(k:Ev->M Fl):Fl->M Fl
 | .nx ρ2=>k ρ2
 | .ct ρ2=>k ρ2
 | .bk ρ2=>ret (.nx ρ2)
 | .rt d=>ret (.rt d)
 | .xc ρ x=>ret (.xc ρ x)
def yse(tg:D->Ev->Option Ev)(body:Ev->M Fl):List D->Ev->M Fl
 |[],ρ=>ret (.nx ρ)
 |d::ds,ρ=>match tg d ρ with
  |none=>bad
  |some ρ1=>bnd (body ρ1) (ym9 (yse tg body ds))
def yna(tg:D->Ev->Option Ev)(body:Ev->M Fl)(n:Nat):Nat->Nat->Ev->M Fl
 |0,_,_=>bad
 |k+1,i,ρ=>fun σ=>match ync σ n with
  |none=>.bad
  |some xs=>match xs[i]? with
   |none=>.ok (.nx ρ) σ
   |some d=>match tg d ρ with
    |none=>.bad
    |some ρ1=>bnd (body ρ1) (ym9 (yna tg body n k (i+1))) σ
def yry(tg:D->Ev->Option Ev)(body:Ev->M Fl)(ρ:Ev):Src->M Fl
 | .seq ds=>yse tg body ds ρ
 | .lref n=>yna tg body n 1001 0 ρ
def yul(src:Ev->M Src)(tg:D->Ev->Option Ev)(body:Ev->M Fl):Ev->M Fl:=fun ρ=>xs ρ (src ρ) (yry tg body ρ)
section
variable{T:Tb}{X:Cx}
theorem zud{μ1:List Addr}{H1:Hp}{σ1:Sto}{fl:Fl}{gl:Gl2}{D:Ends}{k:Ev->M Fl}{N:St->Hp->Prop}(r1:Rel T μ1 H1 σ1)(q1:RFl T μ1 H1 fl gl)(p1:yqm T EN (RFl T) μ1 H1 (ym9 k fl σ1) (yp7 X D))
  (hN:∀ ρ2 st2,yp6 T μ1 H1 ρ2 st2->yqm T EN (RFl T) μ1 H1 (k ρ2 σ1) (yp7 X D)->N st2 H1):yp7 X { D with nx:=N,ct:=N,bk:=D.nx } gl H1:=by
 cases fl with
 |nx ρ2=>cases gl with
  |nx st2=>exact hN ρ2 st2 q1 p1
  |_=>exact q1.elim
 |ct ρ2=>cases gl with
  |ct st2=>exact hN ρ2 st2 q1 p1
  |_=>exact q1.elim
 |bk ρ2=>cases gl with
  |bk st2=>have z:yp7 X D (Gl2.nx st2) H1:=yqm.here (g:=Gl2.nx st2) (d:=Fl.nx ρ2) p1 r1 q1;exact z
  |_=>exact q1.elim
 |rt d2=>cases gl with
  |rt v2=>have z:yp7 X D (Gl2.rt v2) H1:=yqm.here (g:=Gl2.rt v2) (d:=Fl.rt d2) p1 r1 q1;exact z
  |_=>exact q1.elim
 |xc ρ2 x=>cases gl with
  |xc st2 c fd2=>have z:yp7 X D (Gl2.xc st2 c fd2) H1:=yqm.here (g:=Gl2.xc st2 c fd2) (d:=Fl.xc ρ2 x) p1 r1 q1;exact z
  |_=>exact q1.elim
variable{tgt iter:Expr}{body:List Stmt}{src:Ev->M Src}{t:D->Ev->Option Ev}{g:Ev->M Fl}{pos:Pos}
theorem yfx(hp:PassesOwn (model X.prog X.w) X.A X.env X.xe)(hc:X.calm=true)(hi:FI T X tgt iter src)(hg:FG T X tgt t)(hb:FSs T X body g)
  (hs:∀ x,foldedSetIterable iter X.env x=pure x:=by intro _;rfl):FS T X (.For tgt iter body [] pos) (yul src t g):=by
 intro pins s st H D I hq;refine yi3 hp hc hi hg hb hs pins s st H D I ?_;obtain⟨μ,ρ,σ,hE,hr,hp⟩:=hq;refine⟨μ,ρ,σ,hE,hr,hp.xs hE fun src σ1 μ1 J H1 _ e1 r1 q1 p1=>?_⟩;cases src with
 |seq ds=>
  have p1':yqm T EN (RFl T) μ1 H1 (yse t g ds ρ σ1) (yp7 X D):=p1;refine⟨fun i m st2 H2=>m=ds.length - i/\∃ μ ρ σ,Ext μ1 H1 μ H2/\yp6 T μ H2 ρ st2/\Rel T μ H2 σ/\yqm T EN (RFl T) μ H2 (yse t g (ds.drop i) ρ σ) (yp7 X D),⟨ds.length,by simp,μ1,ρ,σ1,Ext.refl _ _,hE.mono e1,r1,by simpa using p1'⟩,?_⟩;rintro i m st2 H2 ⟨rfl,μ2,ρ2,σ2,ex,hE2,r2,p2⟩;have so:=q1 μ2 H2 σ2 i ex r2;have so':match (some ds[i]?:Option (Option L4.D))with|none=>True|some none=>J.stop i H2|some (some d)=>J.go i H2/\∀ x H',J.yld i H2 x H'->H'=H2/\Rep T μ2 H2 d x:=so
  cases ei:ds[i]? with
  |none=>
   rw[ei]at so';rw[List.drop_eq_nil_of_le (List.getElem?_eq_none_iff.mp ei)]at p2;exact .inl ⟨so',yqm.here (g:=Gl2.nx st2) p2 r2 hE2⟩
  |some d=>
   rw[ei]at so';obtain⟨hl,ed⟩:=List.getElem?_eq_some_iff.mp ei;have hd:ds.drop i=d::ds.drop (i+1):=by rw[<-ed];exact(List.drop_eq_getElem_cons hl)
   rw[hd]at p2;unfold yse at p2;refine .inr ⟨so'.1,fun st3 H3=>∃ μ ρ σ,Ext μ1 H1 μ H3/\yp6 T μ H3 ρ st3/\Rel T μ H3 σ/\yqm T EN (RFl T) μ H3 (yse t g (ds.drop (i+1)) ρ σ) (yp7 X D),fun st3 H3 h=>⟨ds.length - (i+1),by omega,rfl,h⟩,fun x H3 y=>?_⟩;obtain⟨rfl,hx⟩:=so'.2 x H3 y;cases ht:t d ρ2 with
   |none=>rw[ht]at p2;exact p2.elim
   |some ρ3=>
    rw[ht]at p2;exact⟨μ2,σ2,ρ2,d,ρ3,hE2,r2,hx,ht,fun st3 hE3=>⟨μ2,ρ3,σ2,hE3,r2,p2.bind fun fl σ4 μ4 gl H4 _ e4 r4 q4 p4=>zud r4 q4 p4 fun ρ5 st5 hE5 p5=>⟨μ4,ρ5,σ4,ex.trans e4,hE5,r4,p5⟩⟩⟩
 |lref n=>
  have p1':yqm T EN (RFl T) μ1 H1 (yna t g n 1001 0 ρ σ1) (yp7 X D):=p1;refine⟨fun i m st2 H2=>∃ μ ρ σ,Ext μ1 H1 μ H2/\yp6 T μ H2 ρ st2/\Rel T μ H2 σ/\yqm T EN (RFl T) μ H2 (yna t g n m i ρ σ) (yp7 X D),⟨1001,μ1,ρ,σ1,Ext.refl _ _,hE.mono e1,r1,p1'⟩,?_⟩;rintro i m st2 H2 ⟨μ2,ρ2,σ2,ex,hE2,r2,p2⟩;cases m with
  |zero=>exact p2.elim
  |succ m=>
   unfold yna at p2;have so:=q1 μ2 H2 σ2 i ex r2;have so':match ((ync σ2 n).map fun xs=>xs[i]?:Option (Option L4.D))with|none=>True|some none=>J.stop i H2|some (some d)=>J.go i H2/\∀ x H',J.yld i H2 x H'->H'=H2/\Rep T μ2 H2 d x:=so
   cases el:ync σ2 n with
   |none=>simp only[el]at p2;exact p2.elim
   |some xs=>
    simp only[el]at p2 so';cases ei:xs[i]? with
    |none=>
     simp only[ei,Option.map_some]at p2 so';exact .inl ⟨so',yqm.here (g:=Gl2.nx st2) p2 r2 hE2⟩
    |some d=>
     simp only[ei,Option.map_some]at p2 so';refine .inr ⟨so'.1,fun st3 H3=>∃ μ ρ σ,Ext μ1 H1 μ H3/\yp6 T μ H3 ρ st3/\Rel T μ H3 σ/\yqm T EN (RFl T) μ H3 (yna t g n m (i+1) ρ σ) (yp7 X D),fun st3 H3 h=>⟨m,Nat.lt_succ_self _,h⟩,fun x H3 y=>?_⟩;obtain⟨rfl,hx⟩:=so'.2 x H3 y;cases ht:t d ρ2 with
     |none=>simp only[ht]at p2;exact p2.elim
     |some ρ3=>
      simp only[ht]at p2;exact⟨μ2,σ2,ρ2,d,ρ3,hE2,r2,hx,ht,fun st3 hE3=>⟨μ2,ρ3,σ2,hE3,r2,p2.bind fun fl σ4 μ4 gl H4 _ e4 r4 q4 p4=>zud r4 q4 p4 fun ρ5 st5 hE5 p5=>⟨μ4,ρ5,σ4,ex.trans e4,hE5,r4,p5⟩⟩⟩
end
mutual
def cl:D->Bool
 | .tup xs=>clL xs
 | .lst xs=>clL xs
 | .dic _ xs=>clL xs
 | .obj _ _ xs=>clL xs
 | .ref _=>false
 | .non=>true
 | .bl _=>true
 | .int _=>true
 | .str _=>true
 | .scr _=>true
 | .exn _=>true
def clL:List D->Bool
 |[]=>true
 |d::ds=>cl d && clL ds
end
def fzL(f:D->Option D):List D->Option (List D)
 |[]=>some []
 |d::ds=>match f d,fzL f ds with
  |some x,some xs=>some (x::xs)
  |_,_=>none
def fz(k:Nat)(σ:Sto):Nat->D->Option D
 |0,d=>if cl d=true then some d else match d with
  | .ref n=>if n<k then some (.ref n)else none
  |_=>none
 |m+1,d=>if cl d=true then some d else match d with
  | .ref n=>if n<k then some (.ref n)else match σ[n]? with
   |some (.lst xs)=>(fzL (fz k σ m) xs).map .lst
   |some (.dic kvs)=>(fzL (fz k σ m) (kvs.map (·.2))).map (.dic (kvs.map (·.1)))
   |some (.ins c fs)=>(fzL (fz k σ m) (fs.map (·.2))).map (.obj c (fs.map (·.1)))
   |none=>none
  | .tup xs=>(fzL (fz k σ m) xs).map .tup
  | .lst xs=>(fzL (fz k σ m) xs).map .lst
  | .dic ks xs=>(fzL (fz k σ m) xs).map (.dic ks)
  | .obj c ns xs=>(fzL (fz k σ m) xs).map (.obj c ns)
  |_=>none
open Classical in
noncomputable def yrz(σ:Sto):Out D->Out D
 | .ok d σ'=>if σ'.take σ.length=σ then (match fz σ.length σ' 6 d with
  |some d'=>.ok d' σ
  |none=>.bad)else .bad
 | .ex x σ'=>if σ'.take σ.length=σ then .ex x σ else .bad
 | .bad=>.bad
noncomputable def frz(f:M D):M D:=fun σ=>yrz σ (f σ)
section
variable{T:Tb}{μ μ':List Addr}{H H':Hp}{σ σ':Sto}
mutual
theorem zvi(e:∃ r,μ'=μ++r):∀ (d:D) (v:V),cl d=true->Rep T μ' H d v->Rep T μ H d v
 | .non,v,_,h=>by simpa [Rep]using h
 | .bl b,v,_,h=>by simpa [Rep]using h
 | .int i,v,_,h=>by simpa [Rep]using h
 | .str x,v,_,h=>by simpa [Rep]using h
 | .tup ds,v,c,h=>by
  rw[Rep]at h ⊢;obtain⟨p,vs,h1,h2,h3⟩:=h;exact⟨p,vs,h1,h2,zon e ds vs (by simpa [cl]using c) h3⟩
 | .scr ns,v,_,h=>by rw[Rep]at h ⊢;exact h
 | .ref n,v,c,h=>by simp[cl]at c
 | .lst ds,v,c,h=>by
  rw[Rep]at h ⊢;obtain⟨a,vs,h1,h2,h3,h4⟩:=h;exact⟨a,vs,h1,fun z=>h2 (by obtain⟨r,rfl⟩:=e;exact List.mem_append_left _ z),h3,zon e ds vs (by simpa [cl]using c) h4⟩
 | .dic ks ds,v,c,h=>by
  rw[Rep]at h ⊢;obtain⟨a,vs,h1,h2,h3,h5,h4⟩:=h;exact⟨a,vs,h1,fun z=>h2 (by obtain⟨r,rfl⟩:=e;exact List.mem_append_left _ z),h3,h5,zon e ds _ (by simpa [cl]using c) h4⟩
 | .obj k ns ds,v,c,h=>by
  rw[Rep]at h ⊢;obtain⟨a,dx,vs,h1,h2,h3,h5,h4⟩:=h;exact⟨a,dx,vs,h1,fun z=>h2 (by obtain⟨r,rfl⟩:=e;exact List.mem_append_left _ z),h3,h5,zon e ds _ (by simpa [cl]using c) h4⟩
 | .exn k,v,_,h=>by
  rw[Rep]at h ⊢;obtain⟨a,dd,h1,h2,h3,h4⟩:=h;exact⟨a,dd,h1,fun z=>h2 (by obtain⟨r,rfl⟩:=e;exact List.mem_append_left _ z),h3,fun n q=>let ⟨dN,q1,q2,q3⟩:=h4 n q;⟨dN,q1,fun z=>q2 (by obtain⟨r,rfl⟩:=e;exact List.mem_append_left _ z),q3⟩⟩
theorem zon(e:∃ r,μ'=μ++r):∀ (ds:List D) (vs:List V),clL ds=true->yqs T μ' H ds vs->yqs T μ H ds vs
 |[],vs,_,h=>by simpa [yqs]using h
 |d::ds,vs,c,h=>by
  rw[yqs]at h ⊢;obtain⟨v,r,h1,h2,h3⟩:=h;have c':cl d=true/\clL ds=true:=by simpa [clL,Bool.and_eq_true]using c
  exact⟨v,r,h1,zvi e d v c'.1 h2,zon e ds r c'.2 h3⟩
end
mutual
theorem Rep.down(e:∃ r,μ'=μ++r):∀ (d:D) (v0 v:V),Rep T μ H d v0->Rep T μ' H' d v->Rep T μ H' d v
 | .non,v0,v,_,h=>by simpa [Rep]using h
 | .bl b,v0,v,_,h=>by simpa [Rep]using h
 | .int i,v0,v,_,h=>by simpa [Rep]using h
 | .str x,v0,v,_,h=>by simpa [Rep]using h
 | .tup ds,v0,v,c,h=>by
  rw[Rep]at h c ⊢;obtain⟨p,vs,h1,h2,h3⟩:=h;obtain⟨p0,vs0,_,_,c3⟩:=c;exact⟨p,vs,h1,h2,yqs.down e ds vs0 vs c3 h3⟩
 | .scr ns,v0,v,_,h=>by rw[Rep]at h ⊢;exact h
 | .ref n,v0,v,c,h=>by
  rw[Rep]at h c ⊢;obtain⟨a,h1,h2⟩:=h;obtain⟨b,_,c2⟩:=c;refine⟨a,h1,?_⟩;obtain⟨r,rfl⟩:=e;rw[List.getElem?_append_left (List.getElem?_eq_some_iff.mp c2).1]at h2;exact h2
 | .lst ds,v0,v,c,h=>by
  rw[Rep]at h c ⊢;obtain⟨a,vs,h1,h2,h3,h4⟩:=h;obtain⟨_,vs0,_,_,_,c4⟩:=c;exact⟨a,vs,h1,fun z=>h2 (by obtain⟨r,rfl⟩:=e;exact List.mem_append_left _ z),h3,yqs.down e ds vs0 vs c4 h4⟩
 | .dic ks ds,v0,v,c,h=>by
  rw[Rep]at h c ⊢;obtain⟨a,vs,h1,h2,h3,h5,h4⟩:=h;obtain⟨_,vs0,_,_,_,_,c4⟩:=c;exact⟨a,vs,h1,fun z=>h2 (by obtain⟨r,rfl⟩:=e;exact List.mem_append_left _ z),h3,h5,yqs.down e ds _ _ c4 h4⟩
 | .obj k ns ds,v0,v,c,h=>by
  rw[Rep]at h c ⊢;obtain⟨a,dx,vs,h1,h2,h3,h5,h4⟩:=h;obtain⟨_,_,vs0,_,_,_,_,c4⟩:=c;exact⟨a,dx,vs,h1,fun z=>h2 (by obtain⟨r,rfl⟩:=e;exact List.mem_append_left _ z),h3,h5,yqs.down e ds _ _ c4 h4⟩
 | .exn k,v0,v,_,h=>by
  rw[Rep]at h ⊢;obtain⟨a,dd,h1,h2,h3,h4⟩:=h;exact⟨a,dd,h1,fun z=>h2 (by obtain⟨r,rfl⟩:=e;exact List.mem_append_left _ z),h3,fun n q=>let ⟨dN,q1,q2,q3⟩:=h4 n q;⟨dN,q1,fun z=>q2 (by obtain⟨r,rfl⟩:=e;exact List.mem_append_left _ z),q3⟩⟩
theorem yqs.down(e:∃ r,μ'=μ++r):∀ (ds:List D) (vs0 vs:List V),yqs T μ H ds vs0->yqs T μ' H' ds vs->yqs T μ H' ds vs
 |[],vs0,vs,_,h=>by simpa [yqs]using h
 |d::ds,vs0,vs,c,h=>by
  rw[yqs]at h c ⊢;obtain⟨v,r,h1,h2,h3⟩:=h;obtain⟨v0,r0,_,c2,c3⟩:=c;exact⟨v,r,h1,Rep.down e d v0 v c2 h2,yqs.down e ds r0 r c3 h3⟩
end
theorem zgw{α:Type}(e:∃ r,μ'=μ++r):∀ {xs:List (α × D)} {ys zs:List (α × V)},Paired (fun(p:α × D) (q:α × V)=>p.1=q.1/\Rep T μ H p.2 q.2) xs zs->Paired (fun(p:α × D) (q:α × V)=>p.1=q.1/\Rep T μ' H' p.2 q.2) xs ys->Paired (fun(p:α × D) (q:α × V)=>p.1=q.1/\Rep T μ H' p.2 q.2) xs ys
 |_,_,_,.nil,.nil=>.nil
 |_,_,_,.cons a b,.cons c d=>.cons ⟨c.1,Rep.down e _ _ _ a.2 c.2⟩ (zgw e b d)
theorem ObR.down(e:∃ r,μ'=μ++r){a:Addr}:∀ {o:Ob},ObR T μ H a o->ObR T μ' H' a o->ObR T μ H' a o
 | .lst ds,⟨_,_,c⟩,⟨vs,h,r⟩=>⟨vs,h,yqs.down e _ _ _ c r⟩
 | .dic kvs,⟨_,_,c⟩,⟨vs,h,r⟩=>⟨vs,h,zgw e c r⟩
 | .ins c fs,⟨_,_,_,c'⟩,⟨dx,vs,h,r⟩=>⟨dx,vs,h,zgw e c' r⟩
theorem Rel.down(r0:Rel T μ H σ)(r:Rel T μ' H' σ')(e:Ext μ H μ' H')(ht:σ'.take σ.length=σ):Rel T μ H' σ/\Ext μ H μ H':=by
 refine⟨⟨r0.len,r0.nd,fun n o h=>?_⟩,⟨⟨[],by simp⟩,e.tup,e.frz,fun p o h n=>⟨(e.keep p o h n).1,n⟩⟩⟩;obtain⟨a,h1,h2⟩:=r0.obs n o h;have h':σ'[n]?=some o:=by
  have hl:=(List.getElem?_eq_some_iff.mp h).1;rw[<-ht,List.getElem?_take_of_lt hl]at h;exact h
 obtain⟨b,h3,h4⟩:=r.obs n o h';have eb:=e.get h1;rw[h3]at eb;cases eb;exact⟨a,h1,h2.down e.pre h4⟩
theorem zi3{α:Type}:∀ {xs:List (α × D)} {ys:List (α × V)},Paired (fun(p:α × D) (q:α × V)=>p.1=q.1/\Rep T μ H p.2 q.2) xs ys->ys.map (·.1)=xs.map (·.1)/\yqs T μ H (xs.map (·.2)) (ys.map (·.2))
 |_,_,.nil=>⟨rfl,yqs.nil⟩
 |_,_,.cons a b=>by
  obtain⟨h1,h2⟩:=zi3 b;exact⟨by simp[h1,a.1],yqs.cons a.2 h2⟩
theorem zxg{f:D->Option D}(hf:∀ d d' v,f d=some d'->Rep T μ' H d v->Rep T μ H d' v):∀ (ds ds':List D) (vs:List V),fzL f ds=some ds'->yqs T μ' H ds vs->yqs T μ H ds' vs
 |[],ds',vs,h,r=>by cases h;simpa [yqs]using r
 |d::ds,ds',vs,h,r=>by
  unfold fzL at h;cases e1:f d with
  |none=>rw[e1]at h;cases h
  |some x=>
   cases e2:fzL f ds with
   |none=>rw[e1,e2]at h;cases h
   |some xs=>
    rw[e1,e2]at h;cases h;rw[yqs]at r;obtain⟨v,w,rfl,h2,h3⟩:=r;exact yqs.cons (hf d x v e1 h2) (zxg hf ds xs w e2 h3)
theorem yf7(e:∃ r,μ'=μ++r)(r:Rel T μ' H σ'):∀ (m:Nat) (d d':D) (v:V),fz μ.length σ' m d=some d'->Rep T μ' H d v->Rep T μ H d' v:=by
 have old:∀ n v,n<μ.length->Rep T μ' H (.ref n) v->Rep T μ H (.ref n) v:=fun n v hn h=>by
  rw[Rep]at h ⊢;obtain⟨a,h1,h2⟩:=h;obtain⟨q,rfl⟩:=e;rw[List.getElem?_append_left hn]at h2;exact⟨a,h1,h2⟩
 intro m;induction m with
 |zero=>
  intro d d' v h hr;unfold fz at h;by_cases hc:cl d=true
  ·rw[if_pos hc]at h;cases h;exact zvi e _ _ hc hr
  ·rw[if_neg hc]at h;cases d with
   |ref n=>
    dsimp only at h;by_cases hn:n<μ.length
    ·rw[if_pos hn]at h;cases h;exact old n v hn hr
    ·rw[if_neg hn]at h;cases h
   |_=>cases h
 |succ m ih=>
  intro d d' v h hr;unfold fz at h;by_cases hc:cl d=true
  ·rw[if_pos hc]at h;cases h;exact zvi e _ _ hc hr
  ·rw[if_neg hc]at h;have go:=zxg (T:=T) (μ:=μ) (μ':=μ') (H:=H) (f:=fz μ.length σ' m) (fun d d' v a b=>ih d d' v a b);cases d with
   |ref n=>
    dsimp only at h;by_cases hn:n<μ.length
    ·rw[if_pos hn]at h;cases h;exact old n v hn hr
    ·rw[if_neg hn]at h;cases es:σ'[n]? with
     |none=>rw[es]at h;cases h
     |some o=>
      rw[es]at h;obtain⟨a,rfl,ha,hob⟩:=r.at hr es;have out:a ∉ μ:=fun z=>by
       obtain⟨i,hi⟩:=List.getElem?_of_mem z;obtain⟨q,rfl⟩:=e;have hl:=(List.getElem?_eq_some_iff.mp hi).1;have:=zrj r.nd (i:=i) (j:=n) (by rw[List.getElem?_append_left hl];exact hi) ha;omega
      cases o with
      |lst xs=>
       obtain⟨ys,h1,h2⟩:=Option.map_eq_some_iff.mp h;subst h2;obtain⟨vs,h3,h4⟩:=hob;rw[Rep];exact⟨a,vs,rfl,out,h3,go xs ys vs h1 h4⟩
      |dic kvs=>
       obtain⟨ys,h1,h2⟩:=Option.map_eq_some_iff.mp h;subst h2;obtain⟨vs,h3,h4⟩:=hob;obtain⟨h5,h6⟩:=zi3 h4;rw[Rep];exact⟨a,vs,rfl,out,h3,h5,go _ ys _ h1 h6⟩
      |ins c fs=>
       obtain⟨ys,h1,h2⟩:=Option.map_eq_some_iff.mp h;subst h2;obtain⟨dx,vs,h3,h4⟩:=hob;obtain⟨h5,h6⟩:=zi3 h4;rw[Rep];exact⟨a,dx,vs,rfl,out,h3,h5,go _ ys _ h1 h6⟩
   |tup xs=>
    obtain⟨ys,h1,h2⟩:=Option.map_eq_some_iff.mp h;subst h2;rw[Rep]at hr ⊢;obtain⟨p,vs,e1,e2,e3⟩:=hr;exact⟨p,vs,e1,e2,go xs ys vs h1 e3⟩
   |lst xs=>
    obtain⟨ys,h1,h2⟩:=Option.map_eq_some_iff.mp h;subst h2;rw[Rep]at hr ⊢;obtain⟨p,vs,e1,e0,e2,e3⟩:=hr;exact⟨p,vs,e1,fun z=>e0 (by obtain⟨r,rfl⟩:=e;exact List.mem_append_left _ z),e2,go xs ys vs h1 e3⟩
   |dic ks xs=>
    obtain⟨ys,h1,h2⟩:=Option.map_eq_some_iff.mp h;subst h2;rw[Rep]at hr ⊢;obtain⟨p,vs,e1,e0,e2,e4,e3⟩:=hr;exact⟨p,vs,e1,fun z=>e0 (by obtain⟨r,rfl⟩:=e;exact List.mem_append_left _ z),e2,e4,go xs ys _ h1 e3⟩
   |obj c ks xs=>
    obtain⟨ys,h1,h2⟩:=Option.map_eq_some_iff.mp h;subst h2;rw[Rep]at hr ⊢;obtain⟨p,dx,vs,e1,e0,e2,e4,e3⟩:=hr;exact⟨p,dx,vs,e1,fun z=>e0 (by obtain⟨r,rfl⟩:=e;exact List.mem_append_left _ z),e2,e4,go xs ys _ h1 e3⟩
   |_=>cases h
theorem yqm.frz{E:XK}{f:M D}{Q:V->Hp->Prop}(r:Rel T μ H σ)(h:yqm T E (Rep T) μ H (frz f σ) Q):yqm T E (Rep T) μ H (f σ) Q:=by
 unfold L4.frz at h;cases e:f σ with
 |bad=>rw[e]at h;exact h
 |ex x σ1=>
  rw[e]at h;unfold yrz at h;dsimp only at h;by_cases ht:σ1.take σ.length=σ
  ·rw[if_pos ht]at h;intro μ1 H1 e1 r1;obtain⟨r2,e2⟩:=Rel.down r r1 e1 ht;exact h μ H1 e2 r2
  ·rw[if_neg ht]at h;exact h.elim
 |ok d σ1=>
  rw[e]at h;unfold yrz at h;dsimp only at h;by_cases ht:σ1.take σ.length=σ
  ·rw[if_pos ht]at h;cases ef:fz σ.length σ1 6 d with
   |none=>rw[ef]at h;exact h.elim
   |some d'=>
    rw[ef]at h;intro μ1 v H1 e1 r1 p1;obtain⟨r2,e2⟩:=Rel.down r r1 e1 ht;exact h μ v H1 e2 r2 (yf7 e1.pre r1 6 d d' v (by rw[r.len];exact ef) p1)
  ·rw[if_neg ht]at h;exact h.elim
end
noncomputable def yrm(f:Ev->M D):Ev->M D:=fun ρ=>frz (f ρ)
theorem yfa{T:Tb}{X:Cx}{e:Expr}{f:Ev->M D}(h:FE T X e f):FE T X e (yrm f):=by
 intro pins s st H Q I hw;obtain⟨μ,ρ,σ,hE,hr,hp⟩:=hw;exact h pins s st H Q I ⟨μ,ρ,σ,hE,hr,yqm.frz hr hp⟩
end L4
namespace L4
open PySem PySem.Spec PyProof.Rows L2
def DK(h h':Heap):Prop:=∀ (a:Nat) o,h.objs[a]?=some o->∃ o':Obj,h'.objs[a]?=some o'/\o'.dict=o.dict
theorem DK.refl(h:Heap):DK h h:=fun _ o e=>⟨o,e,rfl⟩
theorem DK.trans{h1 h2 h3:Heap}(x:DK h1 h2)(y:DK h2 h3):DK h1 h3:=fun a o e=>by
 obtain⟨o',e',q⟩:=x a o e;obtain⟨o'',e'',q'⟩:=y a o' e';exact⟨o'',e'',q'.trans q⟩
theorem DK.push(h:Heap)(o:Obj):DK h (h.push o):=fun a u e=>by
 obtain⟨objs,l⟩:=h;have e:objs[a]?=some u:=e;have hl:=(Array.getElem?_eq_some_iff.mp e).1;refine⟨u,?_,rfl⟩;show (objs.push o)[a]?=some u;rw[Array.getElem?_push_lt hl];exact(Array.getElem?_eq_getElem hl).symm.trans e
theorem DK.update(h:Heap)(b:Addr){f:Obj->Obj}(hf:∀ o,(f o).dict=o.dict):DK h (h.update b f):=fun a u e=>by
 obtain⟨objs,l⟩:=h;have e:objs[a]?=some u:=e;show ∃ o':Obj,(objs.modify b f)[a]?=some o'/\_;rw[Array.getElem?_modify];by_cases hb:b=a
 ·rw[if_pos hb,e];exact⟨f u,rfl,hf u⟩
 ·rw[if_neg hb];exact⟨u,e,rfl⟩
theorem DK.get{h h':Heap}(x:DK h h'){a:Addr}{o o':Obj}(e:h.get? a=some o)(e':h'.get? a=some o'):o'.dict=o.dict:=by
 obtain⟨u,q1,q2⟩:=x a o ((Heap.get?_eq_some _ _ _).1 e).1;have:=((Heap.get?_eq_some _ _ _).1 e').1;have z:some u=some o':=q1.symm.trans this;cases z;exact q2
structure KD{α:Type}(t:Sem α):Prop where
 out:∀ (M:Model) (Γ:PySem.Ctx) (Q:α->Pos->Shared->Prop) (E:Value->Pos->Shared->Prop) (p:Pos) (s:Shared),Sem.wp M Γ t Q E p s->Sem.wp M Γ t (fun a p' s'=>Q a p' s'/\DK s.heap s'.heap) (fun e p' s'=>E e p' s'/\DK s.heap s'.heap) p s
namespace KD
variable{α β:Type}
theorem pur(a:α):KD (Pure.pure a:Sem α):=⟨fun _ _ _ _ _ s h=>⟨h,.refl _⟩⟩
theorem uns(w:String):KD (PySem.unsupported w:Sem α):=⟨fun _ _ _ _ _ _ h=>h⟩
theorem bnd{m:Sem α}{f:α->Sem β}(hm:KD m)(hf:∀ a,KD (f a)):KD (m >>= f):=⟨fun M Γ Q E p s h=>by
 rw[Sem.wp_bind']at h ⊢;refine Sem.wp_mono M Γ m (fun a p' s' z=>?_) (fun _ _ _ z=>z) p s (hm.out M Γ _ _ p s h);exact Sem.wp_mono M Γ (f a) (fun _ _ _ q=>⟨q.1,z.2.trans q.2⟩) (fun _ _ _ q=>⟨q.1,z.2.trans q.2⟩) p' s' ((hf a).out M Γ _ _ p' s' z.1)⟩
theorem ite'{c:Prop}[Decidable c]{t u:Sem α}(ht:KD t)(hu:KD u):KD (if c then t else u):=by split<;>assumption
theorem ld(a:Addr):KD (PySem.load a):=⟨fun _ _ _ _ _ _ h=>by obtain⟨o,ho,h⟩:=h;exact⟨o,ho,h,.refl _⟩⟩
theorem upd(a:Addr){f:Obj->Obj}(hf:∀ o,(f o).dict=o.dict):KD (PySem.update a f):=⟨fun _ _ _ _ _ _ h=>⟨h.1,h.2,.update _ _ hf⟩⟩
theorem stk:KD PySem.stack:=⟨fun M Γ Q E p s h=>by
 unfold PySem.stack at h ⊢;rw[Sem.wp_stack]at h ⊢;exact⟨h,.refl _⟩⟩
theorem alc(o:Obj):KD (PySem.alloc o):=⟨fun _ _ _ _ _ _ h=>⟨h,.push _ _⟩⟩
theorem fld(v:Value)(i:Nat):KD (PySem.field v i):=⟨fun _ Γ Q E p s h=>by
 rw[wp_field_iff]at h ⊢;obtain⟨a,o,vs,x,e1,e2,e3,e4,h⟩:=h;exact⟨a,o,vs,x,e1,e2,e3,e4,h,.refl _⟩⟩
theorem set(v:Value)(i:Nat)(x:Value):KD (PySem.setField v i x):=⟨fun _ Γ Q E p s h=>by
 rw[wp_setField_iff]at h ⊢;obtain⟨a,o,vs,e1,e2,e3,e4,h⟩:=h;exact⟨a,o,vs,e1,e2,e3,e4,h,.update _ _ fun o=>by obtain⟨c,d,dt,sl⟩:=o;cases dt<;>rfl⟩⟩
end KD
theorem ygk(env:Env)(l:List Env):KD (behindIsImport env l):=by unfold behindIsImport;(repeat' with_reducible first|assumption|exact KD.pur _|exact KD.uns _|exact KD.fld _ _|exact KD.set _ _ _|exact KD.ld _|exact KD.upd _ (fun _=>rfl)|exact KD.stk|exact KD.alc _|apply KD.ite'|apply KD.bnd|intro _|split)
theorem ygm:KD underTheClaimsCaller:=by unfold underTheClaimsCaller;(repeat' with_reducible first|assumption|exact KD.pur _|exact KD.uns _|exact KD.fld _ _|exact KD.set _ _ _|exact KD.ld _|exact KD.upd _ (fun _=>rfl)|exact KD.stk|exact KD.alc _|apply KD.ite'|apply KD.bnd|intro _|split)
theorem zx6(env:Env)(i:Bool)(l:List Env):KD (keptBack env i l):=by
 have:=ygm;cases l<;>unfold keptBack<;>(repeat' with_reducible first|assumption|exact KD.pur _|exact KD.uns _|exact KD.fld _ _|exact KD.set _ _ _|exact KD.ld _|exact KD.upd _ (fun _=>rfl)|exact KD.stk|exact KD.alc _|apply KD.ite'|apply KD.bnd|intro _|split)
theorem zqn:∀ l:List Env,KD (readyFrames l)
 |[]=>KD.pur _
 |env::l=>by
  have ih:=zqn l;have h1:=ygk env l;have h2:=fun i=>zx6 env i l;unfold readyFrames
  (repeat' with_reducible first|assumption|exact KD.pur _|exact KD.uns _|exact KD.fld _ _|exact KD.set _ _ _|exact KD.ld _|exact KD.upd _ (fun _=>rfl)|exact KD.stk|exact KD.alc _|apply KD.ite'|apply KD.bnd|intro _|split)
  all_goals first|exact h2 _|skip
theorem zx8(l:List Env):KD (frameObject l):=by
 cases l with
 |nil=>exact KD.pur _
 |cons env l=>
  have:=zqn (env::l);unfold frameObject
  (repeat' with_reducible first|assumption|exact KD.pur _|exact KD.uns _|exact KD.fld _ _|exact KD.set _ _ _|exact KD.ld _|exact KD.upd _ (fun _=>rfl)|exact KD.stk|exact KD.alc _|apply KD.ite'|apply KD.bnd|intro _|split)
theorem zx7:KD frameEnvs:=by unfold frameEnvs;(repeat' with_reducible first|assumption|exact KD.pur _|exact KD.uns _|exact KD.fld _ _|exact KD.set _ _ _|exact KD.ld _|exact KD.upd _ (fun _=>rfl)|exact KD.stk|exact KD.alc _|apply KD.ite'|apply KD.bnd|intro _|split)
theorem zql(env:Env):KD (PySem.frameOf env):=by
 have h1:=zx7;have h2:=zx8;unfold PySem.frameOf
 (repeat' with_reducible first|assumption|exact KD.pur _|exact KD.uns _|exact KD.fld _ _|exact KD.set _ _ _|exact KD.ld _|exact KD.upd _ (fun _=>rfl)|exact KD.stk|exact KD.alc _|apply KD.ite'|apply KD.bnd|intro _|split)
 all_goals first|exact h2 _|skip
theorem zqm(f:Addr)(b:Bool):KD (entryPlaceOf f b):=by unfold entryPlaceOf;(repeat' with_reducible first|assumption|exact KD.pur _|exact KD.uns _|exact KD.fld _ _|exact KD.set _ _ _|exact KD.ld _|exact KD.upd _ (fun _=>rfl)|exact KD.stk|exact KD.alc _|apply KD.ite'|apply KD.bnd|intro _|split)
theorem zqk(a b c d e:Value)(l:List Value):KD (EntryCells.newEntry a b c d e l):=by
 unfold EntryCells.newEntry newFields newObj newObjAsIs;dsimp only
 (repeat' with_reducible first|assumption|exact KD.pur _|exact KD.uns _|exact KD.fld _ _|exact KD.set _ _ _|exact KD.ld _|exact KD.upd _ (fun _=>rfl)|exact KD.stk|exact KD.alc _|apply KD.ite'|apply KD.bnd|intro _|split)
theorem zx9(e:Value)(env:Env):KD (noteFrame e env):=by
 have h1:=zql env;have h2:=zqm;have h3:=zqk;unfold noteFrame
 (repeat' with_reducible first|assumption|exact KD.pur _|exact KD.uns _|exact KD.fld _ _|exact KD.set _ _ _|exact KD.ld _|exact KD.upd _ (fun _=>rfl)|exact KD.stk|exact KD.alc _|apply KD.ite'|apply KD.bnd|intro _|split)
 all_goals first|exact h2 _ _|exact h3 _ _ _ _ _ _|skip
theorem zls(e:Value)(f:Option Addr):KD (setFlight e f):=by unfold setFlight;(repeat' with_reducible first|assumption|exact KD.pur _|exact KD.uns _|exact KD.fld _ _|exact KD.set _ _ _|exact KD.ld _|exact KD.upd _ (fun _=>rfl)|exact KD.stk|exact KD.alc _|apply KD.ite'|apply KD.bnd|intro _|split)
theorem yp0{α:Type}{M:Model}{A:Around}{t:Sem α}{Q:α->Shared->Prop}{E:Value->Shared->Prop}{s:Shared}(k:KD t)(h:wpAny M A t Q E s):wpAny M A t (fun a s'=>Q a s'/\DK s.heap s'.heap) E s:=
 fun Γ p hΓ=>Sem.wp_mono M Γ t (fun _ _ _ z=>z) (fun _ _ _ z=>z.1) p s (k.out M Γ _ _ p s (h Γ p hΓ))
section
variable{P:Program}{w:World}{H H':Hp}{h h':Heap}{a:Addr}{o:HO}
theorem zgo(x:ykv P w H h a o):∃ u,h.get? a=some u:=by
 cases o with
 |lst xs=>obtain⟨_,_,_,_,e⟩:=x;exact⟨_,e⟩
 |tup xs=>obtain⟨_,_,_,ob,e,_⟩:=x;exact⟨_,e⟩
 |dK kvs=>obtain⟨_,_,_,_,o,_,_,e,_⟩:=x;exact⟨_,e⟩
 |dT kvs=>obtain⟨_,_,_,_,o,_,_,e,_⟩:=x;exact⟨_,e⟩
 |set S n=>obtain⟨o,_,_,_,e,_⟩:=x;exact⟨_,e⟩
 |ins C dx fs=>obtain⟨_,_,_,e,_⟩:=x;exact⟨_,e⟩
 |own y=>obtain⟨_,e⟩:=x;exact⟨_,e⟩
 |xd fs=>obtain⟨_,⟨_,_,_,e,_⟩,_⟩:=x;exact⟨_,e⟩
 |rng lo hi=>obtain⟨_,_,_,e⟩:=x;exact⟨_,e⟩
 |frz ob u=>obtain⟨e,_⟩:=x;exact⟨_,e⟩
 |tbl ps=>exact⟨_,x⟩
 |met f y=>exact⟨_,x⟩
 |ext φ=>obtain⟨_,⟨_,e⟩,_⟩:=x;exact⟨_,e⟩
theorem ygb(x:HOk P w H h)(k:∀ b o u,H b=some o->h.get? b=some u->h'.get? b=some u):HOk P w H h':=fun b o e=>
 (x b o e).stay (fun c v hc q=>by
  rcases hc with rfl|hc
  ·exact k _ _ _ e q
  ·exact k _ _ _ hc q) (fun _ q=>q) fun _ _ q=>q
end
section
variable{X:Cx}{pins:List (Addr × Obj)}{st:St}{H H':Hp}{s s':Shared}{cls:Value}{h':Heap}{ea:Addr}{args:List Value}{M:Model}{E:Value->Shared->Prop}{Q:Unit->Shared->Prop}
theorem zw0{B:Heap}{l:List Env}{a0:Value}{h:Heap}(x:Heap.FlyingW B l ea cls a0 h):yp8 B l ea cls a0 h:=⟨x.1,x.2.1,x.2.2.1,.inl ⟨.none,x.2.2.2.at⟩⟩
theorem yp8.there{B:Heap}{l:List Env}{a0:Value}{h:Heap}(x:yp8 B l ea cls a0 h):∃ ob,h.get? ea=some ob/\ob.cls=cls:=by
 obtain⟨_,_,_,⟨fl,q⟩|⟨oe,vs,q1,q2,_⟩⟩:=x
 ·exact q.there
 ·exact⟨oe,q1,q2⟩
theorem yp8.flds{B:Heap}{l:List Env}{a0:Value}{h:Heap}{o:Obj}(x:yp8 B l ea cls a0 h)(ho:h.get? ea=some o):∃ vs,o.data=.fields vs:=by
 obtain⟨_,_,_,⟨fl,oe,vs,T,oT,ts,he,hcls,hd,_⟩|⟨oe,vs,q1,q2,q3,_⟩⟩:=x
 ·cases he.symm.trans ho;exact⟨vs,hd⟩
 ·cases q1.symm.trans ho;exact⟨vs,q3⟩
theorem FdH.next{fd:Option Nat}{B h h' h0:Heap}{H':Hp}(x:FdH fd ea B h h0 H')(k:DK h h')(e:∃ o,h'.get? ea=some o):FdH fd ea B h' h0 H':=fun n q=>by
 obtain⟨dN,oD,oe,q1,q2,q3⟩:=x n q;obtain⟨o,e⟩:=e;exact⟨dN,oD,o,e,(k.get q1 e).trans q2,q3⟩
theorem zyi{A:Around}{B:Heap}{l:List Env}{a0:Value}(x:yp8 B l ea cls a0 s.heap)(hQ:∀ h1,yp8 B l ea cls a0 h1->s.heap.UpToSlots h1->DK s.heap h1->Q () { s with heap:=h1 }):wpAny M A (setFlight (.ref ea) none) Q E s:=by
 obtain⟨f1,f2,f3,⟨fl,f4⟩|f4⟩:=x
 ·have k:wpAny M A (setFlight (.ref ea) none) (fun _ s'=>∃ h1,s'={ s with heap:=h1 }/\yp8 B l ea cls a0 h1/\s.heap.UpToSlots h1) E s:=
   wpAny_setFlight_noneW f1 f3 f4 fun h1 k1 k2 k3 k4=>⟨h1,rfl,zw0 ⟨k1,f2,k2,k3⟩,fun b o e n=>⟨o.slots,k4 b o e n⟩⟩
  exact wpAny_mono (yp0 (zls _ _) k) (fun _ _ ⟨⟨h1,e,q1,q2⟩,q3⟩=>by subst e;exact hQ h1 q1 q2 q3) fun _ _ z=>z
 ·obtain⟨oe,vs,he,hc,hd,hz,h0,h1⟩:=id f4;unfold setFlight;refine wpAny_bind (wpAny_field he hd h1 ?_);rw[if_neg (show ¬ ((Value.none != Value.none)=true)from by decide)];exact wpAny_pure (hQ s.heap ⟨f1,f2,f3,.inr f4⟩ (.refl _) (.refl _))
theorem zyt{A:Around}{B:Heap}{env:Env}{outer:List Env}{L:Addr}{a0:Value}(hfr:A.frames=some (env::outer))(hf:env.frame=some L)(x:yp8 B (env::outer) ea cls a0 s.heap)
  (hQ:∀ h1,Heap.HeldW B (env::outer) ea cls a0 L h1->s.heap.UpToSlots h1->Q () { s with heap:=h1 }):wpAny M A (noteFrame (.ref ea) env) Q E s:=by
 obtain⟨f1,f2,f3,⟨fl,f4⟩|f4⟩:=x
 ·by_cases hm:fl=rawInt L
  ·subst hm;exact wpAny_noteFrame_againW hf f4 (hQ s.heap ⟨f1,f2,f3,f4⟩ (.refl _))
  ·obtain⟨oe,vs,T,oT,ts,he,hc,hd,h1,hnT,hTe,hT,hdT,h3⟩:=f4;have sz:3<ts.size:=(Array.getElem?_eq_some_iff.mp h3).1;have oth:∀ b,b≠T->(s.heap.update T (Obj.mapFields (·.setIfInBounds 3 Value.none))).get? b=s.heap.get? b:=fun b hb=>Heap.get?_update_other _ _ (Ne.symm hb);have nr:∀ b o,s.heap.get? b=some o->(∀ v,o.data≠.fields v)->b≠T:=fun b o hb hn q=>by
    rw[q,hT]at hb;cases hb;exact hn ts hdT
   have selfT:=Heap.get?_update_self (Obj.mapFields (·.setIfInBounds 3 Value.none)) hT (Obj.isFreed_of_fields (Obj.data_mapFields hdT _));have up:s.heap.UpToSlots (s.heap.update T (Obj.mapFields (·.setIfInBounds 3 Value.none))):=fun b o e n=>⟨o.slots,(oth b (nr b o e n)).trans e⟩
   have F0:Heap.FlyingW B (env::outer) ea cls a0 (s.heap.update T (Obj.mapFields (·.setIfInBounds 3 Value.none))):=
    ⟨fun b o e=>(oth b fun q=>by rw[q,hnT]at e;cases e).trans (f1 b o e),f2,f3.of_keeps fun b o e n=>⟨o,(oth b (nr b o e n)).trans e,rfl⟩,
     oe,vs,T,_,_,(oth ea (Ne.symm hTe)).trans he,hc,hd,h1,hnT,hTe,selfT,Obj.data_mapFields hdT _,by simp[sz]⟩
   have key:=wpAny_looks_onW (M:=M) (E:=E) (Q:=Q) (s:={ s with heap:=s.heap.update T (Obj.mapFields (·.setIfInBounds 3 Value.none)) }) hfr hf F0 fun h2 q1 q2=>hQ h2 q1 (up.trans q2);intro Γ p hΓ;have k:=key Γ p hΓ;unfold noteFrame at k ⊢;simp only[hf]at k ⊢;rw[Sem.wp_bind',wp_field_iff]at k ⊢;obtain⟨a1,o1,v1,x1,e1,g1,d1,i1,k⟩:=k;cases e1;have g1':s.heap.get? ea=some o1:=(oth ea (Ne.symm hTe)).symm.trans g1;have o1e:o1=oe:=by rw[he]at g1';cases g1';rfl
   subst o1e;rw[hd]at d1;cases d1;rw[h1]at i1;cases i1;refine⟨ea,o1,vs,.ref T,rfl,he,hd,h1,?_⟩;have nn:(Value.ref T != Value.none)=true:=by simp
   simp only[nn,if_true]at k ⊢;rw[Sem.wp_bind',wp_field_iff]at k ⊢;obtain⟨a2,o2,v2,x2,e2,g2,d2,i2,k⟩:=k;cases e2;have g2':=selfT.symm.trans g2;cases g2';have d2':=(Obj.data_mapFields hdT (·.setIfInBounds 3 Value.none)).symm.trans d2;cases d2';have x2e:x2=Value.none:=by
    have:(ts.setIfInBounds 3 Value.none)[3]?=some Value.none:=by simp[sz]
    rw[this]at i2;cases i2;rfl
   subst x2e;refine⟨T,oT,ts,fl,rfl,hT,hdT,h3,?_⟩;have n1:(Value.none == rawInt L)=false:=by simp[rawInt]
   have n2:(fl == rawInt L)=false:=by
    cases q:fl == rawInt L with
    |false=>rfl
    |true=>exact absurd (beq_iff_eq.mp q) hm
   simp only[n1,n2,Bool.false_eq_true,if_false]at k ⊢;rw[Sem.wp_bind',wp_setField_iff]at k ⊢;obtain⟨a3,o3,v3,e3,g3,d3,i3,k⟩:=k;cases e3;refine⟨T,oT,ts,rfl,hT,hdT,sz,?_⟩;simp only[Heap.update_setField_twice]at k;exact k
 ·obtain⟨oe,vs,he,hc,hd,hz,h0,h1⟩:=f4;unfold noteFrame;simp only[hf];refine wpAny_bind (wpAny_field he hd h1 ?_);rw[if_neg (by decide)];refine wpAny_entryW (base:=B) (outer:=outer) (a0:=a0) hfr f3 hf he f1 f2 hd hz h0 fun h4 hN=>?_;obtain⟨k1,k2,k3,k4⟩:=hN;rw[hc]at k3;exact hQ h4 ⟨k1,f2,k2,k3⟩ k4
theorem zyu{A:Around}{B:Heap}{env:Env}{outer:List Env}{L:Addr}{a0:Value}(hfr:A.frames=some (env::outer))(hf:env.frame=some L)(x:yp8 B (env::outer) ea cls a0 s.heap)
  (hQ:∀ h1,Heap.HeldW B (env::outer) ea cls a0 L h1->s.heap.UpToSlots h1->DK s.heap h1->Q () { s with heap:=h1 }):wpAny M A (noteFrame (.ref ea) env) Q E s:=by
 have k:wpAny M A (noteFrame (.ref ea) env) (fun _ s'=>∃ h1,s'={ s with heap:=h1 }/\Heap.HeldW B (env::outer) ea cls a0 L h1/\s.heap.UpToSlots h1) E s:=zyt hfr hf x fun h1 q1 q2=>⟨h1,rfl,q1,q2⟩
 exact wpAny_mono (yp0 (zx9 _ _) k) (fun _ _ ⟨⟨h1,e,q1,q2⟩,q3⟩=>by subst e;exact hQ h1 q1 q2 q3) fun _ _ z=>z
theorem yf9{B:Heap}{l:List Env}{a0:Value}{L:Addr}{h:Heap}(x:Heap.HeldW B l ea cls a0 L h):yp8 B l ea cls a0 h:=⟨x.1,x.2.1,x.2.2.1,.inl ⟨_,x.2.2.2⟩⟩
theorem zqx{A:Around}{B:Heap}{env:Env}{outer:List Env}{L:Addr}{a0:Value}(hfr:A.frames=some (env::outer))(hf:env.frame=some L)(x:yp8 B (env::outer) ea cls a0 s.heap)
  (hQ:∀ h1,yp8 B outer ea cls a0 h1->s.heap.UpToSlots h1->DK s.heap h1->Q () { s with heap:=h1 }):wpAny M A (leaving env (.ref ea)) Q E s:=by
 unfold leaving;refine wpAny_bind (zyu hfr hf x fun h1 q1 q2 q3=>?_);refine zyi (yf9 q1) fun h2 q4 q5 q6=>?_;obtain⟨k1,k2,⟨_,_,k3⟩,k4⟩:=q4;exact hQ h2 ⟨k1,k2,k3,k4⟩ (q2.trans q5) (q3.trans q6)
theorem zw5(hs:X.stack=X.env::X.outer)(hf:X.env.frame=some X.env.locals){b:Addr}:b∈frs X.stack ↔ b=X.env.locals\/b∈frs X.outer:=by
 rw[hs];unfold frs;rw[List.filterMap_cons,hf];exact List.mem_cons
theorem yfq(I:Inv X pins st H s)(hs:X.stack=X.env::X.outer)(hf:X.env.frame=some X.env.locals)(hx:X.ex=[]){h'':Heap}(un:Un (frs X.stack) [] H H' s.heap h''):Un (frs X.outer) [] X.H₀ H' X.s₀.heap h'':=by
 have nex:∀ b,b ∉ X.ex:=fun b z=>by rw[hx]at z;cases z
 have neL:∀ b o,X.s₀.heap.get? b=some o->b≠X.env.locals:=fun b o e=>Nat.ne_of_lt (Nat.lt_of_lt_of_le (Heap.lt_size e) I.ok.above);refine⟨fun b o e n hb _=>?_,fun b o e n hb _=>?_,fun b o e n _=>?_,fun b o e _=>?_,fun b xs e=>un.tups b xs (I.base.tups b xs e),fun b o u e=>un.frzs b o u (I.base.frzs b o u e),fun b ps e=>?_⟩
 ·exact un.keep b o (I.base.keep b o e n hb (nex b)) (I.base.free b o e n (nex b)) (fun z=>((zw5 hs hf).mp z).elim (neL b o e) hb) (by simp)
 ·obtain⟨sl,e1⟩:=I.base.slot b o e n hb (nex b);obtain⟨sl',e2⟩:=un.slot b _ e1 (I.base.free b o e n (nex b)) ((zw5 hs hf).mpr (.inr hb)) (by simp);exact⟨sl',e2⟩
 ·obtain⟨o',e1⟩:=I.base.there b o e (nex b);exact un.free b o' e1 (I.base.free b o e n (nex b)) (by simp)
 ·obtain⟨o',e1⟩:=I.base.there b o e (nex b);exact un.there b o' e1 (by simp)
 ·obtain⟨m1,e1⟩:=I.base.tbls b ps e;obtain⟨m2,e2⟩:=un.tbls b _ e1;exact⟨m1++m2,by rw[e2,Array.append_assoc]⟩
theorem yfr{P:Program}{w:World}{outer:List Env}{e:Value}{fd:Option Nat}(F:Fly P w outer H s cls fd H' e s'){h6:Heap}{B:Heap}(hB:∀ b o,s.heap.get? b=some o->H b=none->b ∉ frs outer->B.get? b=some o)(hT:∀ b o,H' b=some o->∃ ob,B.get? b=some ob)
  (hA:∀ b o,s.heap.get? b=some o->b ∉ frs outer->∃ o',B.get? b=some o') (hb0:∀ b o,B.get? b=some o->s'.heap.get? b=some o) (hb6:∀ b o,B.get? b=some o->h6.get? b=some o) (hsl:s'.heap.UpToSlots h6) (hfr:∀ b∈frs outer,∃ o,s.heap.get? b=some o/\(∀ vs,o.data≠.fields vs)/\H b=none) :
  Un (frs outer) [] H H' s.heap h6/\HOk P w H' h6:=by
 refine⟨⟨fun b o e n hb _=>hb6 b o (hB b o e n hb),fun b o e n hb hx=>?_,F.un.free,fun b o e hx=>?_,F.un.tups,F.un.frzs,F.un.tbls⟩,ygb F.hok fun b o u e q=>?_⟩
 ·obtain⟨sl,e1⟩:=F.un.slot b o e n hb hx;obtain⟨o',e',hd,_⟩:=hfr b hb;rw[e]at e';cases e';obtain⟨sl',e2⟩:=hsl b _ e1 hd;exact⟨sl',e2⟩
 ·by_cases hb:b∈frs outer
  ·obtain⟨o',e',hd,hn⟩:=hfr b hb;rw[e]at e';cases e';obtain⟨sl,e1⟩:=F.un.slot b o e hn hb hx;obtain⟨sl',e2⟩:=hsl b _ e1 hd;exact⟨_,e2⟩
  ·obtain⟨o',e1⟩:=hA b o e hb;exact⟨o',hb6 b o' e1⟩
 ·obtain⟨ob,e1⟩:=hT b o e;have:=hb0 b ob e1;rw[q]at this;cases this;exact hb6 b _ e1
theorem zh1(I:Inv X pins st H s):∀ b∈frs X.stack,∃ o,s.heap.get? b=some o/\(∀ vs,o.data≠.fields vs)/\H b=none:=fun b hb=>by
 obtain⟨_,o,e,hd⟩:=I.stack.mem hb;exact⟨o,e,hd,I.stkFree b hb⟩
theorem zqw(I:Inv X pins st H s)(hs:X.stack=X.env::X.outer)(hf:X.env.frame=some X.env.locals)(hex:X.ex=[]){e:Value}{fd:Option Nat}(F:Fly X.prog X.w X.stack H s cls fd H' e s')
  (hQ:∀ s'',Fly X.prog X.w X.outer X.H₀ X.s₀ cls fd H' e s''->Q () s''):wpAny M X.A (leaving X.env e) Q E s':=by
 obtain⟨ea,a0,B,rfl,fl,hn,hnew,hT,hB,hA,hF⟩:=F.ex;have fl':yp8 B (X.env::X.outer) ea cls a0 s'.heap:=by rw[<-hs];exact fl
 refine zqx (by rw[<-hs];exact I.ok.frames) hf fl' fun h'' x1 x2 x3=>hQ _ ?_;obtain⟨un,hok⟩:=yfr F hB hT hA fl.1 x1.1 x2 (zh1 I);have nex:∀ b,b ∉ X.ex:=fun b z=>by rw[hex]at z;cases z
 have neL:∀ b o,X.s₀.heap.get? b=some o->b≠X.env.locals:=fun b o e=>Nat.ne_of_lt (Nat.lt_of_lt_of_le (Heap.lt_size e) I.ok.above);have new0:∀ b,s.heap.get? b=none->X.s₀.heap.get? b=none:=fun b e=>by
  cases q:X.s₀.heap.get? b with
  |none=>rfl
  |some u=>obtain⟨v,e'⟩:=I.base.there _ _ q (nex _);rw[e]at e';cases e'
 have hF':FdH fd ea B h'' X.s₀.heap H':=fun n q=>by
  obtain⟨dN,oD,oe,z1,z2,z3,z4,z5,z6⟩:=hF.next x3 (let ⟨o,e,_⟩:=x1.there;⟨o,e⟩) n q;exact⟨dN,oD,oe,z1,z2,z3,z4,z5,new0 _ z6⟩
 refine⟨⟨ea,a0,B,rfl,x1,hn,?_,hT,fun b o e n hb=>?_,fun b o e hb=>?_,hF'⟩,F.os.trans I.os,F.bare,yfq I hs hf hex un,hok⟩
 ·cases q:X.s₀.heap.get? ea with
  |none=>rfl
  |some u=>obtain⟨v,e⟩:=I.base.there _ _ q (nex _);rw[hnew]at e;cases e
 ·exact hB b o (I.base.keep b o e n hb (nex b)) (I.base.free b o e n (nex b)) fun z=>((zw5 hs hf).mp z).elim (neL b o e) hb
 ·obtain⟨o',q⟩:=I.base.there b o e (nex b);exact hA b o' q fun z=>((zw5 hs hf).mp z).elim (neL b o e) hb
end
theorem yj8{P:Program}{w:World}{K:PySem.W.Frag}{mg:Str->Option Value}{base:Heap}{N:List Str}{qual:Str}{scope:Scope}{f:Addr}{cd:Value}{A:Around}{outer:List Env}{s:Shared}{H:Hp}{E:XK}{st:St}{cls:Value}{fd:Option Nat}{H':Hp}
  (h:E cls fd H'):Thr (yrh (CXE P w) P w K mg base N qual scope f cd A outer s H E) st cls fd H' where
 fly:=fun pins H1 s1 e s' I F=>zqw I rfl rfl rfl F fun s'' G=>⟨cls,fd,H',G,h⟩
theorem Thr.made{X:Cx}{pins:List (Addr × Obj)}{st:St}{H':Hp}{s:Shared}{cls:Value}{ea:Addr}{h':Heap}{args:List Value}(t:Thr X st cls none H')(I:Inv X pins st H' s)(hx:Heap.MadeExcOf s.heap h' ea cls args):X.xe (.ref ea) { s with heap:=h' }:=by
 have ff:s.heap.FunFrames (PySem.W.hideAll s.heap (frs X.stack)) X.stack:=PySem.W.funFrames_hide (as:=frs X.stack) I.stack (fun env he a ha=>List.mem_filterMap.mpr ⟨env,he,ha⟩);have hid:∀ b o,s.heap.get? b=some o->b ∉ frs X.stack->(PySem.W.hideAll s.heap (frs X.stack)).get? b=some o:=fun b o e n=>PySem.W.hideAll_get _ e n;obtain⟨t0,he,htn,ht⟩:=hx.there;have nst:∀ b o,H' b=some o->b ∉ frs X.stack:=fun b o e z=>by rw[I.stkFree b z]at e;cases e
 have hn:H' ea=none:=by
  cases q:H' ea with
  |none=>rfl
  |some u=>obtain⟨v,e⟩:=zgo (I.hok _ _ q);rw[hx.new]at e;cases e
 refine t.fly pins H' s (.ref ea) _ I ⟨⟨ea,.ref t0,PySem.W.hideAll s.heap (frs X.stack),rfl,⟨fun b o q=>hx.keeps b o (PySem.W.of_hideAll _ q),?_,ff.of_keeps fun b o e _=>⟨o,hx.keeps b o e,rfl⟩,.inr ⟨_,_,he,rfl,rfl,by simp,rfl,rfl⟩⟩,hn,hx.new,fun b o e=>?_,fun b o e n hb=>hid b o e hb,fun b o e hb=>⟨o,hid b o e hb⟩,fun n q=>by cases q⟩,rfl,I.bare,⟨fun b o e n hb _=>hx.keeps b o e,fun b o e n hb _=>⟨o.slots,hx.keeps b o e⟩,fun b o e n _=>n,fun b o e _=>⟨o,hx.keeps b o e⟩,fun _ _ e=>e,fun _ _ _ e=>e,fun b ps e=>⟨#[],by rw[e];simp⟩⟩,ygb I.hok fun b o u e q=>hx.keeps b u q⟩
 ·cases q:(PySem.W.hideAll s.heap (frs X.stack)).get? ea with
  |none=>rfl
  |some u=>have:=PySem.W.of_hideAll _ q;rw[hx.new]at this;cases this
 ·obtain⟨u,q⟩:=zgo (I.hok _ _ e);exact⟨u,hid b u q (nst b o e)⟩
theorem zmp{P:Program}{w:World}{K:PySem.W.Frag}{mg:Str->Option Value}{base:Heap}{N:List Str}{qual:Str}{scope:Scope}{f:Addr}{cd:Value}{A:Around}{outer:List Env}{s:Shared}{H:Hp}{E:XK} :
  PassesOwn (model P w) (yrh (CXE P w) P w K mg base N qual scope f cd A outer s H E).A (yrh (CXE P w) P w K mg base N qual scope f cd A outer s H E).env (yrh (CXE P w) P w K mg base N qual scope f cd A outer s H E).xe:=PassesOwn.leaving
def yrs:Fl->M D
 | .nx _=>ret .non
 | .rt d=>ret d
 | .xc _ x=>fun σ=>.ex x σ
 |_=>bad
def yug:Out Fl->Out D
 | .ok fl σ=>yrs fl σ
 |_=>.bad
def run(n:Nat)(g:Ev->M Fl)(ds:List D):M D:=fun σ=>yug (g (ds.map some++List.replicate (n - ds.length) none) σ)
def spF(T:Tb)(n:Nat)(f:List D->M D):Sp:=fun vs H Q E=>∃ μ σ ds,yqs T μ H ds vs/\ds.length=n/\Rel T μ H σ/\yqm T E (Rep T) μ H (f ds σ) Q
def fnK(n:Nat)(f:List D->M D)(dds:List D)(ds:List D):M D:=if (ds++dds).length=n then f (ds++dds)else bad
def eFn(n:Nat)(f:List D->M D)(dds:List D)(fs:Ev->M (List D)):Ev->M D:=fun ρ=>bnd (fs ρ) (fnK n f dds)
section
variable{T:Tb}{X:Cx}
theorem znq{μ:List Addr}{H:Hp}{ds:List D}{vs:List V}{N:List Str}(h:yqs T μ H ds vs):yp6 T μ H (ds.map some++List.replicate (N.length - ds.length) none) (L2.yph N vs):=by
 have hl:=h.length;refine⟨by simp[L2.yph,hl],fun i d e=>?_⟩;by_cases hi:i<ds.length
 ·rw[List.getElem?_append_left (by simpa using hi),List.getElem?_map]at e;cases e2:ds[i]? with
  |none=>rw[e2]at e;cases e
  |some x=>
   rw[e2]at e;cases e;obtain⟨v,h1,h2⟩:=h.get e2;refine⟨v,?_,h2⟩;unfold L2.yph;rw[List.getElem?_append_left (by simpa [<-hl]using hi),List.getElem?_map,h1];rfl
 ·rw[List.getElem?_append_right (by simpa using hi),List.getElem?_replicate]at e;split at e<;>cases e
variable{k:Nat}{f C:Addr}{fd:FuncData}{ps:List Str}{dvs:List V}{dval:List Value}{dds:List D}{x:Str}{p pos:Pos}{e:Expr}{es:List Expr}{fn:List D->M D}{fs:Ev->M (List D)}{sp:Sp}{t:TA}
theorem ybd{pins:List (Addr × Obj)}{st:St}{H:Hp}{s:Shared}{Q:VK}{us:List Value}{vs:List V}(F:FnOk X.prog X.w X.K X.mg X.base (CXE X.prog X.w) k f fd ps sp)(hr:Room k X.A)(hb:yko X.K fd ps dval)(hd:yqx dvs dval)
  (I:Inv X pins st H s) (r:yqx vs us) (h:sp (vs++dvs) H Q (XE X st)):wpAny (model X.prog X.w) X.A (call (.ref f) us) (EP X pins st Q) X.xe s:=by
 have r2:yqx (vs++dvs) (us++dval):=r.append hd;have hl:(us++dval).length=ps.length:=by rw[<-r2.length];exact F.len _ _ _ _ h
 refine wpAny_call (codeAny_mono (F.run X.A X.stack s H ⟨us,[]⟩ (us++dval) (vs++dvs) Q (XE X st) hr I.env0 (hb s us I.kIn hl) r2 h) fun r s' hq=>?_);cases r with
 |error e=>obtain⟨cls,fd,H',hfly,ht⟩:=hq;exact ht.fly pins H s e s' I hfly
 |ok fl=>
  cases fl with
  |ret u=>exact I.after hq
  |next=>exact False.elim hq
  |brk=>exact False.elim hq
  |cont=>exact False.elim hq
theorem zwn(F:FnOk X.prog X.w X.K X.mg X.base (CXE X.prog X.w) k f fd ps (spF T ps.length fn))(hr:Room k X.A)(hg:Gl X x)(hm:X.mg x=some (.ref f))(hk:PySem.W.keepIn X.K (.ref f)=true)(hb:yko X.K fd ps dval)(hd:yqx dvs dval)(hdd:∀ μ H,yqs T μ H dds dvs)
  (ha:FA T X (e::es) fs) (hdb:(x == ("__debug__" : Str))=false:=by decide) (he:starEach (e::es) X.env=(false,eval e X.env)::starEach es X.env:=by rfl) (hpl:(backTo pos (starEach es X.env)).any (·.1)=false:=by rfl) :
  FE T X (.Call (.Name x p) (e::es) [] pos) (eFn ps.length fn dds fs):=by
 intro pins s st H Q I h;refine wpAny_Call_Name_kw (zym I hg hm ?_ hdb);obtain⟨μ,ρ,σ,hE,hr',hp⟩:=h;refine PySem.W.callWith_K (h₀:=X.base) I.ok.mod.kin hk (thn (ha pos pins s st H (fun vs H1=>spF T ps.length fn (vs++dvs) H1 Q (XE X st)) I ⟨μ,ρ,σ,hE,hr',hp.bind fun ds σ1 μ1 vs H1 _ e1 r1 p1 q1=>?_⟩) fun us s1 ⟨vs,H1,I1,r,q⟩=>⟨I1.kIn,?_⟩) he hpl
 ·unfold fnK at q1;by_cases hl:(ds++dds).length=ps.length
  ·rw[if_pos hl]at q1;exact⟨μ1,σ1,ds++dds,p1.append (hdd _ _),hl,r1,q1⟩
  ·rw[if_neg hl]at q1;exact q1.elim
 ·exact ybd F hr hb hd I1 r q
variable{P:Program}{w:World}{K:PySem.W.Frag}{mg:Str->Option Value}{base:Heap}
theorem fok{x qual:Str}{st:Stmt}{N:List Str}{g:Ev->M Fl}{params:Arguments}{dV kV doc pm cdv ct oc:Value}{an od:Option Addr}{osl:Array (Option Value)}
  (lk:K.lookup f=some ⟨oc,od,.func (PySem.W.fnOf x qual params (zvv st) (zot st) dV kV doc pm an cdv ct),osl⟩) (hcd:PySem.W.codeIn K cdv qual=true) (S:FnScope N ps (zot st))
  (hb:∀ (A:Around) (outer:List Env) (s:Shared) (H:Hp) (E:XK),Room k (A.deeper (envOfC qual (zot st) s.heap.objs.size f cdv))->FSs T (yrh (CXE P w) P w K mg base N qual (zot st) f cdv A outer s H E) (zvv st) g) :
  FnOk P w K mg base (CXE P w) (k+1) f (PySem.W.fnOf x qual params (zvv st) (zot st) dV kV doc pm an cdv ct) ps (spF T ps.length (run N.length g)):=by
 refine ymh lk hcd S (fun vs H Q E h=>?_) (fun A outer s H vs Q E hr h=>?_)
 ·obtain⟨μ,σ,ds,h1,h2,_⟩:=h;rw[<-h1.length];exact h2
 ·obtain⟨μ,σ,ds,h1,h2,h3,h4⟩:=h;refine⟨_,hb A outer s H E hr,μ,_,σ,znq h1,h3,?_⟩;unfold run at h4;cases eg:g (ds.map some++List.replicate (N.length - ds.length) none) σ with
  |bad=>rw[eg]at h4;exact h4
  |ex x σ1=>rw[eg]at h4;exact h4.elim
  |ok fl σ1=>
   rw[eg]at h4;intro μ1 gl H1 e1 r1 q1;have p1:=h4.mono e1;cases fl with
   |nx ρ2=>cases gl with
    |nx st2=>have z:Q V.non H1:=yqm.here (d:=D.non) p1 r1 (by rw[Rep]);exact z
    |_=>exact q1.elim
   |rt d2=>cases gl with
    |rt v2=>have z:Q v2 H1:=yqm.here (d:=d2) p1 r1 q1;exact z
    |_=>exact q1.elim
   |xc ρ2 x2=>cases gl with
    |xc st2 c2 fd2=>
     obtain⟨_,rfl,rfl⟩:=q1;exact yj8 (p1 μ1 H1 (Ext.refl _ _) r1)
    |_=>exact q1.elim
   |_=>exact p1.elim
theorem zw3(F:FnOk P w K mg base (CXE P w) k f fd ps (spF T ps.length fn)):FnOk P w K mg base (CXE P w) k f fd ps (spF T ps.length (fun ds=>frz (fn ds))):=
 F.imp fun vs H Q E h=>by
  obtain⟨μ,σ,ds,h1,h2,h3,h4⟩:=h;exact⟨μ,σ,ds,h1,h2,h3,yqm.frz h3 h4⟩
end
def yrd(env:Env)(names:List (Str × NameKind))(acc:List (Str × Addr)):List (Str × Addr):=
 names.foldl (fun cs y=>if (y.2 == .free)=true then (match env.cells.lookup y.1 with|some c=>(y.1,c)::cs|none=>cs)else cs) acc
theorem zhv(env:Env):∀ (names:List (Str × NameKind)) (acc:List (Str × Addr)),(∀ y∈names,y.2=.free->∃ c,env.cells.lookup y.1=some c)->
  (forIn names acc (fun x (cs:List (Str × Addr))=>match x with|(name,kind)=>if (kind == .free)=true then (do let a <-cellOf env name;pure (ForInStep.yield ((name,a)::cs)))else pure (ForInStep.yield cs)):Sem (List (Str × Addr)))=pure (yrd env names acc)
 |[],acc,_=>rfl
 |(n,k)::r,acc,h=>by
  rw[List.forIn_cons];by_cases hk:(k == NameKind.free)=true
  ·obtain⟨c,hc⟩:=h (n,k) List.mem_cons_self (by simpa using hk);have e1:cellOf env n=pure c:=by unfold cellOf;rw[hc]
   simp only[hk,if_true,e1];show (forIn r ((n,c)::acc) _:Sem (List (Str × Addr)))=_;rw[zhv env r ((n,c)::acc) fun y hy=>h y (List.mem_cons_of_mem _ hy)];have e2:yrd env ((n,k)::r) acc=yrd env r ((n,c)::acc):=by
    unfold yrd;rw[List.foldl_cons];simp only[hk,if_true,hc]
   rw[e2]
  ·simp only[hk];show (forIn r acc _:Sem (List (Str × Addr)))=_;rw[zhv env r acc fun y hy=>h y (List.mem_cons_of_mem _ hy)];have e2:yrd env ((n,k)::r) acc=yrd env r acc:=by
    unfold yrd;rw[List.foldl_cons];simp only[hk];rfl
   rw[e2]
theorem zhw(env:Env)(scope:Scope)(h:∀ y∈scope.names,y.2=.free->∃ c,env.cells.lookup y.1=some c):closureFor scope env=pure (yrd env scope.names []):=by
 have e:=zhv env scope.names [] h;unfold closureFor;simp only[bind_pure];exact e
theorem yed(env:Env):∀ (names:List (Str × NameKind)) (acc:List (Str × Addr)) (n:Str) (c:Addr),(∀ n c,acc.lookup n=some c->env.cells.lookup n=some c)->(yrd env names acc).lookup n=some c->env.cells.lookup n=some c
 |[],acc,n,c,h,e=>h n c e
 |(y,k)::r,acc,n,c,h,e=>by
  unfold yrd at e;rw[List.foldl_cons]at e;refine yed env r _ n c (fun n c q=>?_) e;by_cases hk:(k == NameKind.free)=true
  ·simp only[hk,if_true]at q;cases hc:env.cells.lookup y with
   |none=>rw[hc]at q;exact h n c q
   |some c'=>
    rw[hc]at q;rw[List.lookup_cons]at q;cases hn:(n == y)with
    |true=>rw[hn]at q;cases q;rw[eq_of_beq hn];exact hc
    |false=>rw[hn]at q;exact h n c q
  ·simp only[hk]at q;exact h n c q
theorem zvj(env:Env):∀ (names:List (Str × NameKind)) (acc:List (Str × Addr)) (n:Str),(∃ c,acc.lookup n=some c)->∃ c,(yrd env names acc).lookup n=some c
 |[],acc,n,h=>h
 |(y,k)::r,acc,n,h=>by
  unfold yrd;rw[List.foldl_cons];refine zvj env r _ n ?_;by_cases hk:(k == NameKind.free)=true
  ·simp only[hk,if_true];cases hc:env.cells.lookup y with
   |none=>exact h
   |some c'=>
    show ∃ c,List.lookup n ((y,c')::acc)=some c;rw[List.lookup_cons];cases hn:(n == y)with
    |true=>exact⟨c',rfl⟩
    |false=>exact h
  ·simp only[hk];exact h
theorem yd7(env:Env):∀ (names:List (Str × NameKind)) (acc:List (Str × Addr)) (n:Str),(n,NameKind.free)∈names->(∃ c,env.cells.lookup n=some c)->∃ c,(yrd env names acc).lookup n=some c
 |[],acc,n,h,_=>nomatch h
 |(y,k)::r,acc,n,h,hc=>by
  unfold yrd;rw[List.foldl_cons];rcases List.mem_cons.mp h with e|e
  ·cases e;refine zvj env r _ _ ?_;obtain⟨c,hc⟩:=hc;refine⟨c,?_⟩;simp[hc]
  ·exact yd7 env r _ n e hc
theorem zcv{env:Env}:∀ {names:List (Str × NameKind)} {x:Str} {k:NameKind},
  (names.map fun(n,k)=>if (k == NameKind.free && env.scope.kind == .function && env.kindOf n == some .cell)then (n,NameKind.cell)else (n,k)).lookup x=some k->∃ k0,names.lookup x=some k0/\(k=k0\/(k0=.free/\k=.cell))
 |[],_,_,h=>by simp at h
 |(n,k0)::r,x,k,h=>by
  have ih:=@zcv env r x k;have h':List.lookup x ((if (k0 == NameKind.free && env.scope.kind == .function && env.kindOf n == some .cell)=true then (n,NameKind.cell)else (n,k0))::(r.map fun(n,k)=>if (k == NameKind.free && env.scope.kind == .function && env.kindOf n == some .cell)then (n,NameKind.cell)else (n,k)))=some k:=h;cases hx:x == n with
  |true=>
   by_cases hc:(k0 == NameKind.free && env.scope.kind == .function && env.kindOf n == some .cell)=true
   ·rw[if_pos hc]at h';simp only[List.lookup_cons,hx]at h' ⊢;cases h';simp only[Bool.and_eq_true]at hc;exact⟨k0,rfl,.inr ⟨by simpa using hc.1.1,rfl⟩⟩
   ·rw[if_neg hc]at h';simp only[List.lookup_cons,hx]at h' ⊢;cases h';exact⟨k0,rfl,.inl rfl⟩
  |false=>
   by_cases hc:(k0 == NameKind.free && env.scope.kind == .function && env.kindOf n == some .cell)=true
   ·rw[if_pos hc]at h';simp only[List.lookup_cons,hx]at h' ⊢;exact ih h'
   ·rw[if_neg hc]at h';simp only[List.lookup_cons,hx]at h' ⊢;exact ih h'
theorem ze7{env:Env}:∀ {names:List (Str × NameKind)} {x:Str},names.lookup x=some .free->
  (names.map fun(n,k)=>if (k == NameKind.free && env.scope.kind == .function && env.kindOf n == some .cell)then (n,NameKind.cell)else (n,k)).lookup x=some .cell\/
  (names.map fun(n,k)=>if (k == NameKind.free && env.scope.kind == .function && env.kindOf n == some .cell)then (n,NameKind.cell)else (n,k)).lookup x=some .free
 |[],_,h=>by simp at h
 |(n,k)::r,x,h=>by
  have ih:=@ze7 env r x;have goal:∀ z,List.lookup x ((if (k == NameKind.free && env.scope.kind == .function && env.kindOf n == some .cell)=true then (n,NameKind.cell)else (n,k))::(r.map fun(n,k)=>if (k == NameKind.free && env.scope.kind == .function && env.kindOf n == some .cell)then (n,NameKind.cell)else (n,k)))=z->
   (List.map (fun(n,k)=>if (k == NameKind.free && env.scope.kind == .function && env.kindOf n == some .cell)then (n,NameKind.cell)else (n,k)) ((n,k)::r)).lookup x=z:=fun z e=>e
  cases hx:x == n with
  |true=>
   simp only[List.lookup_cons,hx]at h;cases h;by_cases hc:(NameKind.free == NameKind.free && env.scope.kind == .function && env.kindOf n == some .cell)=true
   ·exact .inl (goal _ (by rw[if_pos hc];simp only[List.lookup_cons,hx]))
   ·exact .inr (goal _ (by rw[if_neg hc];simp only[List.lookup_cons,hx]))
  |false=>
   simp only[List.lookup_cons,hx]at h;have e:List.lookup x ((if (k == NameKind.free && env.scope.kind == .function && env.kindOf n == some .cell)=true then (n,NameKind.cell)else (n,k))::(r.map fun(n,k)=>if (k == NameKind.free && env.scope.kind == .function && env.kindOf n == some .cell)then (n,NameKind.cell)else (n,k))) =
     (r.map fun(n,k)=>if (k == NameKind.free && env.scope.kind == .function && env.kindOf n == some .cell)then (n,NameKind.cell)else (n,k)).lookup x:=by
    by_cases hc:(k == NameKind.free && env.scope.kind == .function && env.kindOf n == some .cell)=true
    ·rw[if_pos hc];simp only[List.lookup_cons,hx]
    ·rw[if_neg hc];simp only[List.lookup_cons,hx]
   rcases ih h with q|q
   ·exact .inl (goal _ (e.trans q))
   ·exact .inr (goal _ (e.trans q))
theorem zmc{names:List (Str × NameKind)}{x:Str}{k:NameKind}(h:names.lookup x=some k):(x,k)∈names:=PySem.mem_of_lookup h
def blk(X:Cx)(N':List Str)(scope:Scope)(cl:List (Str × Addr))(C:Addr)(s₀:Shared)(H₀:Hp)(ex:List Addr):Cx:=
 { X with N:=N',s₀:=s₀,H₀:=H₀,env:=compEnvC scope cl C X.env,outer:=X.stack,stack:=X.stack,ex:=ex,fn:=fun _=>false,pn:=[],xe:=fun _ _=>False }
structure LcOk(X:Cx)(x:Str)(M':List Str)(ix:List Nat)(scope:Scope):Prop where
 kind:scope.kind=.function
 cell:(scope.names.all fun y=>!(y.2 == .cell))=true
 names:(scope.names.all fun y=>!(y.2 == .local) || scope.names.lookup y.1 == some .local)=true
 free:(scope.names.all fun y=>!(y.2 == .free) || (X.env.scope.names.lookup y.1 == some .cell || X.env.scope.names.lookup y.1 == some .free))=true
 at_:ix.map (fun i=>X.N[i]?)=M'.map some
 vis:(M'.all fun y=>(X.env.scope.names.lookup y == some .cell || X.env.scope.names.lookup y == some .free) && scope.names.lookup y == some .free)=true
def ylg(ix:List Nat)(ρ:Ev):Ev:=none::ix.map fun i=>(ρ[i]?).getD none
def ylh(ix:List Nat)(st:St):St:=none::ix.map fun i=>(st[i]?).getD none
theorem zva{T:Tb}{μ:List Addr}{H:Hp}{ρ:Ev}{st:St}(ix:List Nat)(h:yp6 T μ H ρ st):yp6 T μ H (ylg ix ρ) (ylh ix st):=by
 refine⟨by simp[ylg,ylh],fun i d e=>?_⟩;cases i with
 |zero=>simp[ylg]at e
 |succ j=>
  have e':(ix.map fun i=>(ρ[i]?).getD none)[j]?=some (some d):=e;rw[List.getElem?_map]at e';cases ej:ix[j]? with
  |none=>rw[ej]at e';cases e'
  |some i0=>
   rw[ej]at e';have e2:(ρ[i0]?).getD none=some d:=Option.some.inj e';have e3:ρ[i0]?=some (some d):=by
    cases q:ρ[i0]? with
    |none=>rw[q]at e2;cases e2
    |some o=>rw[q]at e2;exact congrArg some e2
   obtain⟨v,h1,h2⟩:=h.2 i0 d e3;refine⟨v,?_,h2⟩;show (ix.map fun i=>(st[i]?).getD none)[j]?=_;rw[List.getElem?_map,ej];show some ((st[i0]?).getD none)=_;rw[h1];rfl
section
variable{X:Cx}{pins:List (Addr × Obj)}{st:St}{H:Hp}{s:Shared}{x:Str}{M':List Str}{ix:List Nat}{scope:Scope}{fp:List Addr}
theorem zw4(L:LcOk X x M' ix scope)(y:Str × NameKind)(hy:y∈scope.names)(e:y.2=.free):X.env.kindOf y.1=some .cell\/X.env.kindOf y.1=some .free:=by
 have q:=List.all_eq_true.mp L.free y hy;rw[e]at q;simp only[beq_self_eq_true,Bool.not_true,Bool.false_or,Bool.or_eq_true]at q;rcases q with q|q
 ·exact .inl (eq_of_beq q)
 ·exact .inr (eq_of_beq q)
theorem zvm(I:Inv X pins st H s)(L:LcOk X x M' ix scope):∀ y∈scope.names,y.2=.free->∃ c,X.env.cells.lookup y.1=some c:=fun y hy e=>I.ok.has y.1 (zw4 L y hy e)
theorem yhl(L:LcOk X x M' ix scope):∀ y∈scope.names,y.2≠.cell:=fun y hy e=>by
 have q:=List.all_eq_true.mp L.cell y hy;rw[e]at q;simp at q
theorem zj5(I:Inv X pins st H s)(L:LcOk X x M' ix scope)(hfp:∀ b∈fp,yp9 X pins H b/\b<s.heap.objs.size){h':Heap}{t':Nat}{m:Str->Option Value}(hns:h'.Ns s.heap.objs.size m)
  (hk:∀ b o,s.heap.get? b=some o->h'.get? b=some o) :
  Inv (blk X (x::M') scope (yrd X.env scope.names []) s.heap.objs.size s H fp) [] (ylh ix st) H { s with heap:=h',toks:=t' }:=by
 have sub:∀ n c,(yrd X.env scope.names []).lookup n=some c->X.env.cells.lookup n=some c:=fun n c e=>yed X.env scope.names [] n c (fun _ _ q=>by simp at q) e;have cellLt:∀ n c,X.env.cells.lookup n=some c->c<s.heap.objs.size:=fun n c e=>by obtain⟨v,z⟩:=I.cell n c e;exact z.lt
 have fresh:H s.heap.objs.size=none:=I.hok.fresh (Nat.le_refl _);refine⟨⟨I.ok.mod,L.kind,I.ok.glob,I.ok.blt,Nat.le_refl _,fun a b c h1 h2=>I.ok.inj a b c (sub a c h1) (sub b c h2),fun a ha=>?_,fun a c h=>(by cases h),I.ok.hd,I.ok.frames,.inl rfl,fun b hb=>⟨Nat.ne_of_lt (hfp b hb).2,fun a c e=>?_⟩,fun b o e=>I.bs b o e,Nat.le_trans I.ok.bsz I.sz,fun b o e hb=>?_,fun b hb z=>?_,I.stack,I.stkFree⟩,
  rfl,I.bare,Un.kept hk,⟨m,hns,fun i y v e1 e2 e3=>?_⟩,fun a c e=>?_,fresh,fun a c e=>I.freeC a c (sub a c e),fun p hp=>absurd (show p∈([]:List (Addr × Obj))from hp) (by simp),I.hok.kept hk,?_⟩
 ·
  have ha':(scope.names.map fun(n,k)=>if (k == NameKind.free && X.env.scope.kind == .function && X.env.kindOf n == some .cell)then (n,NameKind.cell)else (n,k)).lookup a=some .cell\/(scope.names.map fun(n,k)=>if (k == NameKind.free && X.env.scope.kind == .function && X.env.kindOf n == some .cell)then (n,NameKind.cell)else (n,k)).lookup a=some .free:=ha;have hf:scope.names.lookup a=some .free:=by
   rcases ha' with z|z
   ·obtain⟨k0,h1,h2⟩:=zcv z;rcases h2 with h2|⟨h2,_⟩
    ·subst h2;exact absurd rfl (yhl L _ (zmc h1))
    ·rw[h2]at h1;exact h1
   ·obtain⟨k0,h1,h2⟩:=zcv z;rcases h2 with h2|⟨_,h2⟩
    ·rw[<-h2]at h1;exact h1
    ·cases h2
  exact yd7 X.env scope.names [] a (zmc hf) (zvm I L _ (zmc hf) rfl)
 ·exact(hfp b hb).1.2.2.2.2.1 a c (sub a c e)
 ·rcases(hfp b hb).1.2.2.2.1 with z|z
  ·exact I.ok.noex b o e z
  ·exact absurd (Nat.lt_of_lt_of_le (Heap.lt_size e) (Nat.le_trans I.ok.bsz z)) (Nat.lt_irrefl _)
 ·rcases List.mem_cons.mp (I.stkSub b z)with q|q
  ·exact(hfp b hb).1.2.1 q
  ·exact(hfp b hb).1.2.2.1 q
 ·
  cases i with
  |zero=>simp[ylh]at e2
  |succ j=>
   have e1':M'[j]?=some y:=e1;have e2':(ix.map fun i=>(st[i]?).getD none)[j]?=some (some v):=e2;rw[List.getElem?_map]at e2';cases ej:ix[j]? with
   |none=>rw[ej]at e2';cases e2'
   |some i0=>
    rw[ej]at e2';have e4:(st[i0]?).getD none=some v:=Option.some.inj e2';have e5:st[i0]?=some (some v):=by
     cases q:st[i0]? with
     |none=>rw[q]at e4;cases e4
     |some o=>rw[q]at e4;exact congrArg some e4
    have e6:X.N[i0]?=some y:=by
     have z:=congrArg (fun l=>l[j]?) L.at_;simp only[List.getElem?_map,ej,e1',Option.map_some]at z;exact Option.some.inj z
    have q:=List.all_eq_true.mp L.vis y (List.mem_of_getElem? e1');simp only[Bool.and_eq_true,Bool.or_eq_true]at q;have kx:X.env.scope.names.lookup y=some .cell\/X.env.scope.names.lookup y=some .free:=by
     rcases q.1 with z|z
     ·exact .inl (eq_of_beq z)
     ·exact .inr (eq_of_beq z)
    have ky:scope.names.lookup y=some .free:=eq_of_beq q.2;obtain⟨m0,hn0,hl0⟩:=I.loc;obtain⟨u,ru,lu⟩:=hl0 i0 y v e6 e5 (by rcases kx with z|z;exact .inr (.inl z);exact .inr (.inr z));refine⟨u,ru,.inr ⟨ze7 (env:=X.env) ky,?_⟩⟩;rcases lu with⟨z,_⟩|⟨_,c,ec,zc⟩
    ·rcases kx with k|k
     ·rw[show X.env.kindOf y=X.env.scope.names.lookup y from rfl,k]at z;cases z
     ·rw[show X.env.kindOf y=X.env.scope.names.lookup y from rfl,k]at z;cases z
    ·obtain⟨c',hc'⟩:=yd7 X.env scope.names [] y (zmc ky) (zvm I L _ (zmc ky) rfl);have e7:=sub y c' hc';rw[ec]at e7;cases e7;obtain⟨o,ho,hd⟩:=zc;exact⟨c,hc',o,hk _ _ ho,hd⟩
 ·obtain⟨v,o,ho,hd⟩:=I.cell a c (sub a c e);exact⟨v,o,hk _ _ ho,hd⟩
 ·simp[ylh,blk];have z:=congrArg List.length L.at_;simpa using z
end
def nox{α:Type}(m:M α):M α:=fun σ=>match m σ with
 | .ex _ _=>.bad
 |o=>o
theorem yqm.bind0{α β γ δ:Type}{T:Tb}{E E0:XK}{R:List Addr->Hp->α->γ->Prop}{R':List Addr->Hp->β->δ->Prop}{μ:List Addr}{H:Hp}{m:M α}{k:α->M β}{σ:Sto}{Q:δ->Hp->Prop}{Q1:γ->Hp->Prop}
  (h:yqm T E R' μ H (bnd (nox m) k σ) Q) (f:∀ a σ1 μ1 g H1,m σ=.ok a σ1->Ext μ H μ1 H1->Rel T μ1 H1 σ1->R μ1 H1 a g->yqm T E R' μ1 H1 (k a σ1) Q->Q1 g H1):yqm T E0 R μ H (m σ) Q1:=by
 unfold bnd nox at h;cases e:m σ with
 |ok a σ1=>
  simp only[e]at h;exact fun μ' g H' e' r q=>f a σ1 μ' g H' e e' r q (h.mono e')
 |ex x σ1=>simp only[e]at h;exact h.elim
 |bad=>simp only[e]at h;exact h
def ygt(nx:Src)(n:Nat)(tg:D->Ev->Option Ev)(fi:Ev->M Bool)(fe:Ev->M D):Nat->Nat->Ev->M Unit
 |0,_,_=>bad
 |k+1,i,ρ=>fun σ=>match nx.nx i σ with
  |none=>.bad
  |some none=>.ok () σ
  |some (some d)=>match tg d ρ with
   |none=>.bad
   |some ρ1=>bnd (nox (fi ρ1)) (fun c=>if c=true then bnd (nox (fe ρ1)) fun y=>bnd (zzo (.ref n) [y]) fun _=>ygt nx n tg fi fe k (i+1) ρ1 else ygt nx n tg fi fe k (i+1) ρ1) σ
def lcK(tg:D->Ev->Option Ev)(fi:Ev->M Bool)(fe:Ev->M D)(ρ:Ev)(nx:Src):M D:=fun σ=>
 bnd (ygt nx σ.length tg fi fe 1001 0 ρ) (fun _=>ret (.ref σ.length)) (σ++[.lst []])
def eLC(src:Ev->M Src)(ix:List Nat)(tg:D->Ev->Option Ev)(fi:Ev->M Bool)(fe:Ev->M D):Ev->M D:=fun ρ=>bnd (src ρ) (lcK tg fi fe (ylg ix ρ))
def FIf(T:Tb)(X:Cx)(ifs:List Expr)(f:Ev->M Bool):Prop:=
 ∀ (pins:List (Addr × Obj)) (s:Shared) (st:St) (H:Hp) (Q:Bool->Hp->Prop),Inv X pins st H s->tT T X f st H Q->
  wpAny (model X.prog X.w) X.A (forIn ifs true fun c r=>if r=true then do let ok <-isTrue c X.env (eval c X.env);pure (ForInStep.yield ok)else pure (ForInStep.yield r)) (TP X pins st Q) X.xe s
def yle:Ev->M Bool:=fun _=>ret true
section
variable{T:Tb}{X:Cx}
theorem zwy:FIf T X [] yle:=by
 intro pins s st H Q I h;obtain⟨μ,ρ,σ,hE,hr,hp⟩:=h;exact wpAny_tests_nil ⟨H,I,yqm.here hp hr rfl⟩
theorem yc7{fs ex:List Addr}{H H':Hp}{h h1 h2:Heap}{C:Addr}(u:Un fs ex H H' h h1)(hs:Heap.SameBut C h1 h2)(hC:h.objs.size<=C):Un fs ex H H' h h2:=by
 have ne:∀ b o,h.get? b=some o->b≠C:=fun b o e=>Nat.ne_of_lt (Nat.lt_of_lt_of_le (Heap.lt_size e) hC);refine⟨fun b o e n hb hx=>(hs.2 b (ne b o e)).trans (u.keep b o e n hb hx),fun b o e n hb hx=>?_,u.free,fun b o e hx=>?_,u.tups,u.frzs,u.tbls⟩
 ·obtain⟨sl,q⟩:=u.slot b o e n hb hx;exact⟨sl,(hs.2 b (ne b o e)).trans q⟩
 ·obtain⟨o',q⟩:=u.there b o e hx;exact⟨o',(hs.2 b (ne b o e)).trans q⟩
theorem zqb{P:Program}{w:World}{H:Hp}{h1 h2:Heap}{C:Addr}(ok:HOk P w H h1)(hs:Heap.SameBut C h1 h2)(hC:H C=none):HOk P w H h2:=fun b ob e=>by
 refine(ok b ob e).stay (fun c w' hc q=>(hs.2 c ?_).trans q) (fun _ q=>q) fun _ _ q=>q;rintro rfl;rcases hc with rfl|hc
 ·rw[hC]at e;cases e
 ·rw[hC]at hc;cases hc
theorem zuz{E:XK}{μ:List Addr}{H:Hp}{σ:Sto}{n:Nat}{a:Addr}{y:D}{v:V}{Q:VK}(r:Rel T μ H σ)(hn:μ[n]?=some a)(hy:Rep T μ H y v)(h:yqm T E (Rep T) μ H (zzo (.ref n) [y] σ) Q):ya4 (.ref a) [v] H Q:=
 zjl E μ H σ (.ref n) [y] (.ref a) [v] Q r (by rw[Rep];exact⟨a,rfl,hn⟩) (yqs.cons hy yqs.nil) h
theorem zj8{α β:Type}{m m':M α}{k:α->M β}{σ:Sto}(h:m σ=m' σ):bnd m k σ=bnd m' k σ:=by unfold bnd;rw[h]
theorem zj7{α β γ:Type}{m:M α}{k:α->M β}{l:β->M γ}:bnd (bnd m k) l=bnd m fun a=>bnd (k a) l:=by
 funext σ;unfold bnd;cases m σ<;>rfl
theorem zyk{E:XK}{elt iter tgt:Expr}{ifs:List Expr}{scope:Scope}{pos:Pos}{x:Str}{M':List Str}{ix:List Nat}{tg:D->Ev->Option Ev}{fi:Ev->M Bool}{fe:Ev->M D}
  {pins:List (Addr × Obj)} {st:St} {H3:Hp} {s3:Shared} {h₁:Heap} {t':Nat} {m:Str->Option Value} {fp:List Addr} {it D0:Addr} {tn:Nat->Heap->Prop} {J:It} {nx:Src} {μ3:List Addr} {σ3:Sto} {ρ:Ev} {n:Nat} {Q:VK}
  (hc:X.calm=true) (L:LcOk X x M' ix scope)
  (htg:∀ cl C s₀ H₀ ex,FG T (blk X (x::M') scope cl C s₀ H₀ ex) tgt tg)
  (hif:∀ cl C s₀ H₀ ex,FIf T (blk X (x::M') scope cl C s₀ H₀ ex) ifs fi)
  (helt:∀ cl C s₀ H₀ ex,FE T (blk X (x::M') scope cl C s₀ H₀ ex) elt fe)
  (I3:Inv X pins st H3 s3) (hfp:∀ b∈fp,yp9 X pins H3 b/\b<s3.heap.objs.size) (hns:h₁.Ns s3.heap.objs.size m) (kp:∀ b o,s3.heap.get? b=some o->h₁.get? b=some o)
  (TT:Turn X.prog X.w X.K tgt J fp it tn) (hst4:tn 0 h₁) (so:yk2 T μ3 H3 nx J) (hE:yp6 T μ3 H3 ρ st) (r3:Rel T μ3 H3 σ3) (hn:μ3[n]?=some D0)
  (p3:yqm T E (Rep T) μ3 H3 (bnd (ygt nx n tg fi fe 1001 0 (ylg ix ρ)) (fun _=>ret (.ref n)) σ3) Q) {RR:Result->Shared->Prop}
  (fin:∀ (s6:Shared) (H':Hp) (m6:Str->Option Value),s6.heap.Ns s3.heap.objs.size m6->H' s3.heap.objs.size=none->Un (frs X.stack) fp H3 H' s3.heap s6.heap->s6.os=s3.os->HOk X.prog X.w H' s6.heap->AllBare s6.gens->Q (.ref D0) H'->RR (.ok .next) s6) :
  codeAny (model X.prog X.w) X.A (.compStart (.ListComp elt [⟨tgt,iter,ifs,0⟩] scope pos) 0 (.ref it) (.ref D0) (compEnvC scope (yrd X.env scope.names []) s3.heap.objs.size X.env))
   RR { s3 with heap:=h₁,toks:=t' }:=by
 have I4:=zj5 (h':=h₁) (t':=t') I3 L hfp hns kp;let Y:Cx:=blk X (x::M') scope (yrd X.env scope.names []) s3.heap.objs.size s3 H3 fp;have stat:∀ {H':Hp},(∀ b∈fp,H' b=none)->∀ b∈fp,yp9 Y [] H' b:=fun {H'} hn b hb=>⟨hn b hb,(I4.ok.exf b hb).1,I4.ok.exfs b hb,.inl hb,(I4.ok.exf b hb).2,fun p hp=>absurd (show p∈([]:List (Addr × Obj))from hp) (by simp)⟩
 have yse:codeAny (model X.prog X.w) X.A (.compLoop (.ListComp elt [⟨tgt,iter,ifs,0⟩] scope pos) 0 (.ref it) (.ref D0) Y.env) RR { s3 with heap:=h₁,toks:=t' }:=by
  refine codeAny_loop rfl (fun k s'=>∃ i μ' H' σ' ρ' st',Inv Y [] st' H' s'/\tn i s'.heap/\(∀ b∈fp,H' b=none)/\Ext μ3 H3 μ' H'/\yp6 T μ' H' ρ' st'/\Rel T μ' H' σ'/\
   yqm T E (Rep T) μ' H' (bnd (ygt nx n tg fi fe k i ρ') (fun _=>ret (.ref n)) σ') Q) ?_ 1001 ⟨0,μ3,H3,σ3,ylg ix ρ,ylh ix st,I4,hst4,fun b hb=>(hfp b hb).1.1,Ext.refl _ _,zva ix hE,r3,p3⟩
  rintro k s' ⟨i,μ',H',σ',ρ',st',I',tn',fr',ex',hE',r',p'⟩;show wpAny _ X.A ((compTurn (.ListComp elt [⟨tgt,iter,ifs,0⟩] scope pos) 0 (.ref it) (.ref D0) Y.env).onRaise (fun x=>do noteFrame x Y.env;theTreesLotGoes x)) _ _ s';refine wpAny_noted ?_;rw[compTurn_list];refine wpAny_mono (E:=fun _ _=>False) ?_ (fun _ _ z=>z) (fun _ _ z=>z.elim);refine wpAny_bind (wpAny_standAt ?_);cases k with
  |zero=>exact p'.elim
  |succ k=>
   have so':=so μ' H' σ' i ex' r';cases en:nx.nx i σ' with
   |none=>
    have e1:ygt nx n tg fi fe (k+1) i ρ' σ'=.bad:=by unfold ygt;simp only[en]
    rw[zj8 (m':=bad) e1]at p';exact p'.elim
   |some od=>
    rw[en]at so';cases od with
    |none=>
     have e1:ygt nx n tg fi fe (k+1) i ρ' σ'=.ok () σ':=by unfold ygt;simp only[en]
     rw[zj8 (m':=ret ()) e1]at p';refine wpAny_bind (thn (TT.done Y rfl rfl rfl hc i [] s' st' H' (fun _ _=>False) I' (stat fr') tn' so') fun r s6 ⟨er,I6⟩=>?_);subst er;refine wpAny_pure ?_;obtain⟨m6,hm6,_⟩:=I6.loc;exact fin s6 H' m6 hm6 I6.free I6.base I6.os I6.hok I6.bare (yqm.here p' r' (by rw[Rep];exact⟨_,rfl,ex'.get hn⟩))
    |some d=>
     refine wpAny_bind (thn (TT.item Y rfl rfl rfl hc i [] s' st' H' (fun _ _=>False) I' (stat fr') tn' so'.1) fun r s6 ⟨u,er,h6⟩=>?_);subst er;refine wpAny_bind (thn h6 fun _ s7 ⟨xv,H7,I7,r7,y7,tn7,fr7⟩=>?_);obtain⟨eH,hd⟩:=so'.2 xv H7 y7;subst eH;cases et:tg d ρ' with
     |none=>
      have e1:ygt nx n tg fi fe (k+1) i ρ' σ'=.bad:=by unfold ygt;simp only[en,et]
      rw[zj8 (m':=bad) e1]at p';exact p'.elim
     |some ρ1=>
      have e1:ygt nx n tg fi fe (k+1) i ρ' σ'=bnd (nox (fi ρ1)) (fun c=>if c=true then bnd (nox (fe ρ1)) fun y=>bnd (zzo (.ref n) [y]) fun _=>ygt nx n tg fi fe k (i+1) ρ1 else ygt nx n tg fi fe k (i+1) ρ1) σ':=by
       conv=>lhs;unfold ygt
       simp only[en,et]
      rw[zj8 e1,zj7]at p';have I7':=I7.pinned (stat fr7) (TT.obj _ _ tn7);refine wpAny_bind (thn (htg _ _ _ _ _ _ s7 st' H7 xv u (fun st8 H8=>H8=H7/\yp6 T μ' H7 ρ1 st8) I7' r7 ⟨μ',σ',ρ',d,ρ1,hE',r',hd,et,fun st8 hE8=>⟨rfl,hE8⟩⟩) fun _ s8 ⟨st8,H8,I8,eH8,hE8⟩=>?_);subst eH8;refine wpAny_bind (thn (hif _ _ _ _ _ _ s8 st8 H8 (fun c H9=>∃ μ9 σ9,Ext μ' H8 μ9 H9/\Rel T μ9 H9 σ9/\yqm T E (Rep T) μ9 H9 (bnd (if c=true then bnd (nox (fe ρ1)) fun y=>bnd (zzo (.ref n) [y]) fun _=>ygt nx n tg fi fe k (i+1) ρ1 else ygt nx n tg fi fe k (i+1) ρ1) (fun _=>ret (.ref n)) σ9) Q) I8
       ⟨μ',ρ1,σ',hE8,r',p'.bind0 fun c σ9 μ9 c' H9 _ e9 r9 q9 p9=>by cases q9;exact⟨μ9,σ9,e9,r9,p9⟩⟩) fun c s9 ⟨H9,I9,μ9,σ9,e9,r9,p9⟩=>?_)
      have again:∀ {s11:Shared} {H11:Hp} {μ11:List Addr} {σ11:Sto},Inv Y ([]++yi0 fp s7.heap) st8 H11 s11->Ext μ' H8 μ11 H11->Rel T μ11 H11 σ11->yqm T E (Rep T) μ11 H11 (bnd (ygt nx n tg fi fe k (i+1) ρ1) (fun _=>ret (.ref n)) σ11) Q->
        ∃ m,m<k+1/\∃ i μ' H' σ' ρ' st',Inv Y [] st' H' s11/\tn i s11.heap/\(∀ b∈fp,H' b=none)/\Ext μ3 H3 μ' H'/\yp6 T μ' H' ρ' st'/\Rel T μ' H' σ'/\yqm T E (Rep T) μ' H' (bnd (ygt nx n tg fi fe m i ρ') (fun _=>ret (.ref n)) σ') Q:=by
       intro s11 H11 μ11 σ11 I11 e11 r11 p11;refine⟨k,Nat.lt_succ_self _,i+1,μ11,H11,σ11,ρ1,st8,I11.unpinned,TT.keep _ _ _ tn7 (fun b hb o e=>(I11.pin (b,o) (List.mem_append_right _ (List.mem_append_right _ (zin hb e)))).1),fun b hb=>?_,ex'.trans e11,hE8.mono e11,r11,p11⟩;obtain⟨o,e,_⟩:=TT.obj _ _ tn7 b hb;exact(I11.pin (b,o) (List.mem_append_right _ (List.mem_append_right _ (zin hb e)))).2.1
      cases c with
      |false=>
       rw[if_neg Bool.false_ne_true]at p9;exact wpAny_pure ⟨rfl,again I9 e9 r9 p9⟩
      |true=>
       rw[if_pos rfl,zj7]at p9;refine wpAny_bind (wpAny_bind (thn (helt _ _ _ _ _ _ s9 st8 H9 (fun v H10=>∃ y μ10 σ10,Ext μ' H8 μ10 H10/\Rel T μ10 H10 σ10/\Rep T μ10 H10 y v/\yqm T E (Rep T) μ10 H10 (bnd (zzo (.ref n) [y]) (fun _=>bnd (ygt nx n tg fi fe k (i+1) ρ1) (fun _=>ret (.ref n))) σ10) Q) I9
        ⟨μ9,ρ1,σ9,hE8.mono e9,r9,p9.bind0 fun y σ10 μ10 v H10 _ e10 r10 q10 p10=>⟨y,μ10,σ10,e9.trans e10,r10,q10,by rw[zj7]at p10;exact p10⟩⟩) fun w s10 ⟨v,H10,I10,rw10,y,μ10,σ10,e10,r10,q10,p10⟩=>?_))
       have happ:=zuz (Q:=fun _ H11=>∃ μ11 σ11,Ext μ' H8 μ11 H11/\Rel T μ11 H11 σ11/\yqm T E (Rep T) μ11 H11 (bnd (ygt nx n tg fi fe k (i+1) ρ1) (fun _=>ret (.ref n)) σ11) Q) r10 ((ex'.trans e10).get hn) q10
        (p10.bind fun _ σ11 μ11 v11 H11 _ e11 r11 q11 p11=>⟨μ11,σ11,e10.trans e11,r11,p11⟩)
       refine wpAny_bind (thn (zme (X:=Y) _ s10 st8 H10 (.ref D0) [v] (.ref D0) [w] _ I10 rfl (.cons rw10 .nil) happ) fun _ s11 ⟨v11,H11,I11,_,μ11,σ11,e11,r11,p11⟩=>?_);exact wpAny_pure (wpAny_pure ⟨rfl,again I11 e11 r11 p11⟩)
 exact codeAny_compStart_list yse (TT.self X.A 0 _ _ _ hst4 yse)
theorem yl6{elt iter tgt:Expr}{ifs:List Expr}{scope:Scope}{pos:Pos}{x:Str}{M':List Str}{ix:List Nat}{src:Ev->M Src}{tg:D->Ev->Option Ev}{fi:Ev->M Bool}{fe:Ev->M D}
  (hc:X.calm=true) (L:LcOk X x M' ix scope) (hsrc:FI T X tgt iter src)
  (htg:∀ cl C s₀ H₀ ex,FG T (blk X (x::M') scope cl C s₀ H₀ ex) tgt tg)
  (hif:∀ cl C s₀ H₀ ex,FIf T (blk X (x::M') scope cl C s₀ H₀ ex) ifs fi)
  (helt:∀ cl C s₀ H₀ ex,FE T (blk X (x::M') scope cl C s₀ H₀ ex) elt fe)
  (hs:∀ y,foldedSetIterable iter X.env y=pure y:=by intro _;rfl) :
  FE T X (.ListComp elt [⟨tgt,iter,ifs,0⟩] scope pos) (eLC src ix tg fi fe):=by
 intro pins s st H Q I h;obtain⟨μ,ρ,σ,hE,hr,hp⟩:=h;rw[eval_ListComp];refine wpAny_comprehension_free (use:=none) rfl hs (zhw X.env scope (zvm I L)) L.kind (fun y hy e=>?_) ?_
 ·have q:=List.all_eq_true.mp L.names y hy;rw[e]at q;simp only[beq_self_eq_true,Bool.not_true,Bool.false_or]at q;exact eq_of_beq q
 have h1:=hsrc pins s st H (fun J H2=>∃ nx μ2 σ2,Ext μ H μ2 H2/\Rel T μ2 H2 σ2/\yk2 T μ2 H2 nx J/\yqm T (XE X st) (Rep T) μ2 H2 (bnd (ygt nx σ2.length tg fi fe 1001 0 (ylg ix ρ)) (fun _=>ret (.ref σ2.length)) (σ2++[Ob.lst []])) Q) I
  ⟨μ,ρ,σ,hE,hr,hp.bind fun nx σ1 μ1 J H1 _ e1 r1 q1 p1=>⟨nx,μ1,σ1,e1,r1,q1,p1⟩⟩
 refine thn h1 fun v s1 h2=>thn h2 fun itv s2 h3=>?_;obtain⟨it,fp,tn,J,H2,rfl,I2,TT,st2,f2,nx,μ2,σ2,ex2,r2,so,p2⟩:=h3;refine wpAny_newObj_type (wpAny_newFunctionEnv (yhl L) (by intro y hy;simp at hy) (fun h₁ hns₁ hsb₁=>?_) L.kind);have I3:=I2.lnew (ys:=[]) (its:=[]) (t':=s2.toks) .nil (by simp);have fr2:H2 s2.heap.objs.size=none:=I2.hok.fresh (Nat.le_refl _);have r3:=r2.push (p:=s2.heap.objs.size) (o:=.lst []) (ob:=.lst []) fr2 ⟨[],upd_same,yqs.nil⟩;have ex3:Ext μ2 H2 (μ2++[s2.heap.objs.size]) (upd H2 s2.heap.objs.size (.lst [])):=zpd fr2;have hsz:s2.heap.objs.size<(s2.heap.push { cls:=.type "list",data:=.seq ([]:List Value).toArray }).objs.size:=by rw[Heap.size_push];exact Nat.lt_succ_self _
 have kp:∀ b o,(s2.heap.push { cls:=.type "list",data:=.seq ([]:List Value).toArray }).get? b=some o->h₁.get? b=some o:=fun b o e=>hsb₁.extBut b o (Nat.ne_of_lt (Heap.lt_size e)) (Heap.get?_push_of_some _ e);have hfp:∀ b∈fp,yp9 X pins (upd H2 s2.heap.objs.size (.lst [])) b/\b<(s2.heap.push { cls:=.type "list",data:=.seq ([]:List Value).toArray }).objs.size:=fun b hb=>by
  obtain⟨o,e,_⟩:=TT.obj 0 _ st2 b hb;have lt:=Heap.lt_size e;exact⟨⟨by rw[upd_ne (Nat.ne_of_lt lt)];exact(f2 b hb).1,(f2 b hb).2⟩,Nat.lt_trans lt hsz⟩
 refine zyk (s3:={ s2 with heap:=s2.heap.push { cls:=.type "list",data:=.seq ([]:List Value).toArray },toks:=s2.toks }) (n:=σ2.length) (D0:=s2.heap.objs.size) hc L htg hif helt I3 hfp hns₁ kp TT (TT.keep 0 _ _ st2 fun b hb o e=>kp b o (Heap.get?_push_of_some _ e))
  (fun μ H σ i ex r=>so μ H σ i (ex3.trans ex) r) ((hE.mono ex2).mono ex3) r3 (by rw[<-r2.len];simp) (p2.mono ex3) (fun s6 H' m6 hm6 hC' hu0 hos hok6 hb6 hq=>⟨m6,hm6,fun h7 hs7=>?_⟩)
 have hu:=yc7 hu0 hs7 (Nat.le_refl _);have I7:=L2.Inv.call' (s':={ s6 with heap:=h7 }) (ch:=fp) I3 hos hu (zqb hok6 hs7 hC') hb6 (fun b hb=>⟨(hfp b hb).1.2.2.2.1,(hfp b hb).1.2.1,(hfp b hb).1.2.2.2.2.1,(hfp b hb).1.2.2.2.2.2⟩);exact⟨.ref s2.heap.objs.size,H',I7,rfl,hq⟩
end
def ynv(x y:D):M D:=fun σ=>match ysf σ x,ysf σ y with
 |some xs,some ys=>if xs.length+ys.length<=cap then .ok (.lst (xs++ys)) σ else .bad
 |_,_=>.bad
def yst(x y:D):M D:=match x,y with
 | .int i,.int j=>ret (.int (i+j))
 | .tup xs,.tup ys=>if xs.length+ys.length<=cap then ret (.tup (xs++ys))else bad
 | .str a,.str b=>if a.length+b.length<=100000 then ret (.str (a++b))else bad
 |x,y=>ynv x y
theorem zns{n:Nat}(h:n<=100000):n<=sizeLine:=Nat.le_trans h (by decide)
section
variable{T:Tb}{X:Cx}{a b c:Expr}{fa fb fc:Ev->M D}{pos:Pos}
theorem zoj{prog:Program}{w:World}{A:Around}{F:Value->Shared->Prop}{s:Shared}{t b:Addr}{ws:List Value}{Q:Value->Shared->Prop}(ht:IsTup s.heap t (#[]:Array Value))(hb:IsTup s.heap b ws.toArray)(h1:Q (.ref b) s):wpAny (model prog w) A (binaryOp .Add (.ref t) (.ref b)) Q F s:=by
 obtain⟨⟨cls,dd,data,sl⟩,ho,hc,n,hd⟩:=id ht;obtain⟨⟨cls2,dd2,data2,sl2⟩,ho2,hc2,n2,hd2⟩:=id hb;simp only at hc hd hc2 hd2;subst hc hd hc2 hd2;exact concat_meets ⟨_,ho,rfl⟩ ⟨_,ho2,rfl⟩ noFill_tuple_add seq_tuple_add PySem.F.slot_tuple_add PySem.F.entry_tuple_add (PySem.F.args_tuple_add_2 _ _)
  (tuple_addW0 t b #[] ws.toArray n n2 dd dd2 sl sl2 rfl) ⟨ho,ho2,h1⟩
theorem zn3{E:XK}{μ:List Addr}{H:Hp}{σ:Sto}{x y:D}{v u:V}{v' u':Value}{Q:VK}{pins:List (Addr × Obj)}{s:Shared}{st:St}(I:Inv X pins st H s)(rv:yqp v v')(ru:yqp u u')(r:Rel T μ H σ)(hx:Rep T μ H x v)(hy:Rep T μ H y u)(hp:yqm T E (Rep T) μ H (ynv x y σ) Q) :
  wpAny (model X.prog X.w) X.A (binaryOp .Add v' u') (EP X pins st Q) X.xe s:=by
 unfold ynv at hp;cases e1:ysf σ x with
 |none=>rw[e1]at hp;exact hp.elim
 |some xs=>
  cases e2:ysf σ y with
  |none=>rw[e1,e2]at hp;exact hp.elim
  |some ys=>
   rw[e1,e2]at hp;dsimp only at hp;by_cases hc:xs.length+ys.length<=cap
   ·rw[if_pos hc]at hp;obtain⟨p,vs,rfl,h1,h2⟩:=r.ls hx e1;obtain⟨q,ws,rfl,h3,h4⟩:=r.ls hy e2;exact yia pins s st H _ _ v' u' Q I rv ru ⟨p,q,vs,ws,rfl,rfl,h1,h3,by rw[<-h2.length,<-h4.length];exact yd2 hc,fun l hl=>yhk hp r (yqs.append h2 h4) hl⟩
   ·rw[if_neg hc]at hp;exact hp.elim
theorem yaa(hK:T.K=X.K):OpR X (binaryOp .Add) (rD T yst):=by
 intro pins s st H v u v' u' Q I rv ru h;obtain⟨E,μ,σ,x,y,r,hx,hy,hp⟩:=h;cases x with
 |int i=>
  cases y with
  |int j=>exact yh8 pins s st H v u v' u' Q I rv ru ⟨i,j,yge hx,yge hy,yqm.here hp r (by rw[Rep])⟩
  |_=>exact zn3 I rv ru r hx hy hp
 |str a=>
  cases y with
  |str b=>
   unfold yst at hp;dsimp only at hp;by_cases hc:a.length+b.length<=100000
   ·rw[if_pos hc]at hp;exact zix pins s st H v u v' u' Q I rv ru ⟨a,b,by simpa [Rep]using hx,by simpa [Rep]using hy,zns hc,yqm.here hp r (by rw[Rep])⟩
   ·rw[if_neg hc]at hp;exact hp.elim
  |_=>exact zn3 I rv ru r hx hy hp
 |tup xs=>
  cases y with
  |tup ys=>
   unfold yst at hp;dsimp only at hp;by_cases hc:xs.length+ys.length<=cap
   ·rw[if_pos hc]at hp;have hx0:=hx;have hy0:=hy;rw[Rep]at hx hy;obtain⟨p,vs,rfl,h1,h2⟩:=hx;obtain⟨q,ws,rfl,h3,h4⟩:=hy;cases vs with
    |nil=>
     have e0:xs=[]:=by have:=h2.length;simpa using this
     subst e0;cases rv;cases ru;obtain⟨its,q1,t1,_⟩:=L2.Inv.tuple I (SqT.of (K:=X.K) h1);obtain⟨its2,q2,t2,_⟩:=L2.Inv.tuple I (SqT.of (K:=X.K) h3);cases q1;exact zoj t1 t2 ⟨.ref q,H,I,rfl,yqm.here hp r (by simpa using hy0)⟩
    |cons v0 vr=>
     refine yab pins s st H _ _ v' u' Q I rv ru ⟨p,q,_,ws,rfl,rfl,SqT.of h1,SqT.of h3,by simp,?_,fun e=>?_,fun e l hl=>?_⟩
     ·rw[<-h2.length,<-h4.length];exact yd2 hc
     ·subst e;have e0:ys=[]:=by have:=h4.length;simpa using this
      subst e0;exact yqm.here hp r (by simpa using hx0)
     ·exact zzk hp r (yqs.append h2 h4) hl
   ·rw[if_neg hc]at hp;exact hp.elim
  |_=>exact zn3 I rv ru r hx hy hp
 |_=>exact zn3 I rv ru r hx hy hp
def yd5(o':D->D->M D)(c:M D)(y:D):D->M D:=yps (ifK (bnd c (o' y)) (ret (.bl false)))
def yd6(o o':D->D->M D)(c:M D)(x y:D):M D:=bnd (o x y) (yd5 o' c y)
def yd4(o o':D->D->M D)(b c:M D)(x:D):M D:=bnd b (yd6 o o' c x)
def yem(o o':D->D->M D)(a b c:Ev->M D):Ev->M D:=fun ρ=>bnd (a ρ) (yd4 o o' (b ρ) (c ρ))
theorem zpg{op op':CmpOp}{r r':R2}{o o':D->D->M D}(ho:OpR X (compareOp op) r)(hs:yk0 T r o)(ho':OpR X (compareOp op') r')(hs':yk0 T r' o')(ha:FE T X a fa)(hb:FE T X b fb)(hc:FE T X c fc)
  (hm:lastMarks [op,op'] [b,c]=false:=by with_unfolding_all rfl):FE T X (.Compare a [op,op'] [b,c] pos) (yem o o' fa fb fc):=by
 intro pins s st H Q I h;refine zsb ho ho' ha hb hc hm pins s st H Q I ?_;obtain⟨μ,ρ,σ,hE,hr,hp⟩:=h;refine⟨μ,ρ,σ,hE,hr,hp.bind fun x σ1 μ1 v H1 _ e1 r1 q1 p1=>⟨μ1,ρ,σ1,hE.mono e1,r1,p1.bind fun y σ2 μ2 w H2 _ e2 r2 q2 p2=>?_⟩⟩;refine hs _ μ2 H2 σ2 x y v w _ r2 (Rep.mono e2 _ _ q1) q2 (p2.bind fun z σ3 μ3 u H3 _ e3 r3 q3 p3=>?_);obtain⟨k,rfl,ev,p4⟩:=ykc q3 p3;refine⟨k,ev,?_⟩;cases k with
 |true=>
  unfold ifK at p4;rw[if_pos rfl]at p4 ⊢;exact⟨μ3,ρ,σ3,((hE.mono e1).mono e2).mono e3,r3,p4.bind fun z σ5 μ5 u5 H5 _ e5 r5 q5 p5=>hs' _ μ5 H5 σ5 y z w u5 Q r5 (Rep.mono e5 _ _ (Rep.mono e3 _ _ q2)) q5 p5⟩
 |false=>unfold ifK at p4;rw[if_neg Bool.false_ne_true]at p4 ⊢;exact yqm.here p4 r3 (by rw[Rep])
theorem hu9{k:Nat}{A:Around}(hr:Room k A):A.units+9<cLine:=by have:=hr.un;omega
end
def yks(K:PySem.W.Frag)(mg:Str->Option Value)(x:Str)(st:Stmt)(ps:List Str):Prop:=
 ∃ f fd,mg x=some (.ref f)/\Fun K x x st f fd/\∀ us:List Value,us.length=ps.length->bindArgs fd ⟨us,[]⟩=pure (ps.zip us)
def OkF(T:Tb)(P:Program)(w:World)(mg:Str->Option Value)(base:Heap)(k:Nat)(x:Str)(ps:List Str)(fn:List D->M D):Prop:=
 ∃ f fd,mg x=some (.ref f)/\PySem.W.keepIn T.K (.ref f)=true/\(∀ us:List Value,us.length=ps.length->bindArgs fd ⟨us,[]⟩=pure (ps.zip us))/\FnOk P w T.K mg base (CXE P w) k f fd ps (spF T ps.length fn)
section
variable{T:Tb}{X:Cx}
theorem zpf{k:Nat}{ps:List Str}{fn:List D->M D}{x:Str}{p pos:Pos}{e:Expr}{es:List Expr}{fs:Ev->M (List D)}(h:OkF T X.prog X.w X.mg X.base k x ps fn)(hK:T.K=X.K)(hr:Room k X.A)(hg:Gl X x)
  (ha:FA T X (e::es) fs) (hdb:(x == ("__debug__" : Str))=false:=by decide) (he:starEach (e::es) X.env=(false,eval e X.env)::starEach es X.env:=by rfl) (hpl:(backTo pos (starEach es X.env)).any (·.1)=false:=by rfl) :
  FE T X (.Call (.Name x p) (e::es) [] pos) (eFn ps.length fn [] fs):=by
 obtain⟨f,fd,hm,hk,hb,hF⟩:=h;rw[hK]at hk hF;exact zwn (dds:=[]) (dvs:=[]) hF hr hg hm hk (.all hb) .nil (fun _ _=>yqs.nil) ha hdb he hpl
variable{P:Program}{w:World}{K:PySem.W.Frag}{mg:Str->Option Value}{base:Heap}{ca:Nat->Addr}
theorem yn6{k:Nat}{x:Str}{st:Stmt}{ps N:List Str}{g:Ev->M Fl}(h:yks K mg x st ps)(S:FnScope N ps (zot st))
  (hb:∀ (f:Addr) (cdv:Value) (A:Around) (outer:List Env) (s:Shared) (H:Hp) (E:XK),Room k (A.deeper (envOfC x (zot st) s.heap.objs.size f cdv))->FSs ⟨K,ca⟩ (yrh (CXE P w) P w K mg base N x (zot st) f cdv A outer s H E) (zvv st) g) :
  OkF ⟨K,ca⟩ P w mg base (k+1) x ps (run N.length g):=by
 obtain⟨f,fd,hm,F,hbd⟩:=h;obtain⟨oc,od,kV,doc,pm,an,cdv,ct,osl,rfl,lk,hcd⟩:=F.ex;exact⟨f,_,hm,F.kp,hbd,fok lk hcd S (hb f cdv)⟩
theorem OkF.frz{k:Nat}{x:Str}{ps:List Str}{fn:List D->M D}(h:OkF T P w mg base k x ps fn):OkF T P w mg base k x ps (fun ds=>L4.frz (fn ds)):=by
 obtain⟨f,fd,h1,h2,h3,h4⟩:=h;exact⟨f,fd,h1,h2,h3,zw3 h4⟩
theorem mkF{h:Heap}{x:Str}{st:Stmt}{ps:List Str}{f:Addr}{oc:Value}{od an:Option Addr}{osl:Array (Option Value)}{kV doc pm cdv ct:Value}(X:K.In h)(G:h.Ns mainGlobals mg)
  (hb:∀ (kV doc pm:Value) (an:Option Addr) (cdv ct:Value) (us:List Value),us.length=ps.length->bindArgs (PySem.W.fnOf x x (zvu st) (zvv st) (zot st) .none kV doc pm an cdv ct) ⟨us,[]⟩=pure (ps.zip us))
  (a:PySem.W.nsIn K mainGlobals x=some (some (.ref f))) (l:K.lookup f=some ⟨oc,od,.func (PySem.W.fnOf x x (zvu st) (zvv st) (zot st) .none kV doc pm an cdv ct),osl⟩)
  (c:PySem.W.codeIn K cdv x=true) (k:PySem.W.keepIn K (.ref f)=true):yks K mg x st ps:=
 ⟨f,_,PySem.W.mg_of X G a,yf4 l c k,hb kV doc pm an cdv ct⟩
theorem mkI{h:Heap}{x:Str}{i:Int}{t:Tok}(X:K.In h)(G:h.Ns mainGlobals mg)(a:PySem.W.nsIn K mainGlobals x=some (some (.int i t))):∃ t,mg x=some (.int i t):=⟨t,PySem.W.mg_of X G a⟩
end
theorem yjm{K:PySem.W.Frag}{H:Hp}{a:Addr}{ns:List Int}(hO:yqi H)(h:SqL K H a (ns.map V.int)):Scr K H a ns:=by
 rcases h with(h|⟨o,h⟩)|h
 ·rcases hO a with z|⟨o,xs,z⟩
  ·rw[z]at h;cases h
  ·rw[z]at h;cases h
 ·exact .inl ⟨o,h⟩
 ·exact .inr h
def sp0(K:PySem.W.Frag):Sp:=fun vs H Q E=>∃ (a:Addr) (ns:List Int),vs=[.ref a]/\ns.length<=63/\yqi H/\SqL K H a (ns.map V.int)/\∀ v H',v=.bl true->Q v H'
theorem yjy{K:PySem.W.Frag}{ca:Nat->Addr}{fn:List D->M D}(tr:∀ ns:List Int,ns.length<=63->∃ σ,fn [.scr ns] []=.ok (.bl true) σ){vs:List V}{H:Hp}{Q:VK}{E:XK}(h:sp0 K vs H Q E):spF ⟨K,ca⟩ 1 fn vs H Q E:=by
 obtain⟨a,ns,rfl,hl,hO,hS,hq⟩:=h;obtain⟨σ,e⟩:=tr ns hl;refine⟨[],[],[.scr ns],yqs.cons (by rw[Rep];exact⟨a,rfl,yjm hO hS⟩) yqs.nil,rfl,⟨rfl,List.nodup_nil,fun n o q=>by simp at q⟩,?_⟩;rw[e];intro μ' v H' _ _ r;rw[Rep]at r;exact hq v H' r
def OkL(T:Tb)(P:Program)(w:World)(mg:Str->Option Value)(k:Nat)(x:Str)(ps:List Str)(fn:List D->M D):Prop:=
 ∃ f fd,mg x=some (.ref f)/\(∀ us:List Value,us.length=ps.length->bindArgs fd ⟨us,[]⟩=pure (ps.zip us))/\∀ base:Heap,FnOk P w T.K mg base (CXE P w) k f fd ps (spF T ps.length fn)
theorem yh3{P:Program}{w:World}{K:PySem.W.Frag}{mg:Str->Option Value}{ca:Nat->Addr}{k:Nat}{x:Str}{st:Stmt}{ps N:List Str}{g:Ev->M Fl}(h:yks K mg x st ps)(S:FnScope N ps (zot st))
  (hb:∀ (base:Heap) (f:Addr) (cdv:Value) (A:Around) (outer:List Env) (s:Shared) (H:Hp) (E:XK),Room k (A.deeper (envOfC x (zot st) s.heap.objs.size f cdv))->FSs ⟨K,ca⟩ (yrh (CXE P w) P w K mg base N x (zot st) f cdv A outer s H E) (zvv st) g) :
  OkL ⟨K,ca⟩ P w mg (k+1) x ps (run N.length g):=by
 obtain⟨f,fd,hm,F,hbd⟩:=h;obtain⟨oc,od,kV,doc,pm,an,cdv,ct,osl,rfl,lk,hcd⟩:=F.ex;exact⟨f,_,hm,hbd,fun base=>fok lk hcd S (hb base f cdv)⟩
theorem ypz{l:PySem.W.OpenLaw}{q:Program}{loose:List Str}{XP:(Str->Option Value)->Heap->Prop}{YP:World->Heap->Prop}{d:DefRec}{K:Params->PySem.W.Frag}{k:Nat}{x:Str}{fn:List D->M D}
  (hn:l.most=some 63) (hdf:d.params.defaults=[]) (hr:Room k callerA) (hY:∀ (w:World) (h:Heap),YP w h->(K w.params).In h)
  (F:∀ (w:World) (mg:Str->Option Value) (h:Heap),(K w.params).In h->h.Ns mainGlobals mg->∃ ca,OkL ⟨K w.params,ca⟩ l.prog w mg k d.name [x] fn)
  (tr:∀ ns:List Int,ns.length<=63->∃ σ,fn [.scr ns] []=.ok (.bl true) σ) :
  PySem.W.WalkO q loose XP YP l.row.toRowW d [] (fun f vs=>PySem.call f vs):=by
 refine L2.yda (n:=63) (k:=k) (x:=x) (CX:=fun w=>CXE l.prog w) (sp:=fun w=>sp0 (K w.params)) hn (by decide) hdf hr hY (fun w mg fa h KX G hmg=>?_) (fun w H a ns hl hO hS=>⟨a,ns,rfl,hl,hO,hS,fun _ _ e=>e⟩) (fun w H s e s' z=>?_)
 ·obtain⟨ca,f0,fd0,g1,g3,g4⟩:=F w mg h KX G;rw[hmg]at g1;cases g1;exact⟨fd0,fun s u=>.of_eq (g3 [u] rfl),fun base hb hg=>(g4 base).imp fun vs H Q E z=>yjy tr z⟩
 ·obtain⟨cls,fd,H',_,z⟩:=z;exact z
theorem zwf{K:PySem.W.Frag}{h:Heap}{C:Addr}{bmB:List Value}{newId:String}(KX:K.In h)(hq:PySem.W.excIn K C bmB newId=true) :
  ∃ bm N nm qn bs hdct sn sub ab col dd k0 k1 k2 k3 k5 mN,h.get? C=some (excClassObj nm qn C N bs bm hdct sn sub ab col dd k0 k1 k2 k3 k5 newId)/\h.Ns N mN/\mN "__init__" = none/\OwnTail h bmB bm:=by
 unfold PySem.W.excIn at hq;split at hq
 ·rename_i dd data sl lk
  split at hq
  ·rename_i C2 bm k0 k1 k2 k3 nid k5 emro esl
   have hq1:((((C2=C/\nid=newId)/\data.hasDel=false)/\PySem.W.tailIn K bmB bm=true)/\PySem.W.nsOkIn K data.ns=true)/\PySem.W.nsIn K data.ns "__init__" = some none:=by
    simpa [Bool.and_eq_true,Bool.not_eq_true']using hq
   obtain⟨⟨⟨⟨⟨c1,c2⟩,c3⟩,c4⟩,c5⟩,c6⟩:=hq1;subst c1;subst c2;obtain⟨nm,bs,mro,ns,qn,hd,sn,sub,ab,col,del⟩:=data;cases emro;cases c3;obtain⟨l⟩:=sl;cases esl;exact⟨bm,ns,nm,qn,bs,hd,sn,sub,ab,col,dd,k0,k1,k2,k3,k5,_,KX _ _ lk,.of_isNs (PySem.W.isNs_of_in KX c5),PySem.W.nsMap_none_of_in KX c5 c6,PySem.W.tail_of_in KX c4⟩
  ·cases hq
 ·cases hq
def yjc(c:Nat)(ρ:Ev)(ds:List D):M Fl:=if ds.length<=cap then ret (.xc ρ ⟨c⟩)else bad
def yjj(c:Nat)(fs:Ev->M (List D)):Ev->M Fl:=fun ρ=>xs ρ (fs ρ) (yjc c ρ)
section
variable{T:Tb}{X:Cx}
theorem zp1(c:Nat){x:Str}{B newId initId:String}{bmB:List Value}{np cpos pos:Pos}{e:Expr}{es:List Expr}{fs:Ev->M (List D)}(FB:ExcBaseFacts B newId initId bmB)(hK:T.K=X.K)(hq:PySem.W.excIn T.K (T.ca c) bmB newId=true)(hm:X.mg x=some (.ref (T.ca c)))
  (hg:Gl X x) (hc:X.calm=true) (ha:FA T X (e::es) fs) (hdb:(x == ("__debug__" : Str))=false:=by decide) (he:starEach (e::es) X.env=(false,eval e X.env)::starEach es X.env:=by rfl)
  (hpl:(backTo cpos (starEach es X.env)).any (·.1)=false:=by rfl) (hfd:fdN c=none:=by rfl):FS T X (.Raise (some (.Call (.Name x np) (e::es) [] cpos)) none pos) (yjj c fs):=by
 intro pins s st H D I hw;obtain⟨μ,ρ,σ,hE,hr,hp⟩:=hw;rw[hK]at hq;obtain⟨bm,N,nm,qn,bs,hdct,sn,sub,ab,col,dd,k0,k1,k2,k3,k5,mN,hC,hN,hni,tl⟩:=zwf I.ok.mod.kin hq;have hpl':(backTo cpos (starEach (e::es) X.env)).any (·.1)=false:=by
  rw[he];show (false || (backTo cpos (starEach es X.env)).any (·.1))=false;rw[hpl];rfl
 refine wpAny_Raise_call_subT (nm:=nm) (q:=qn) (N:=N) (bs:=bs) (bm:=bm) (hdct:=hdct) (sn:=sn) (sub:=sub) (ab:=ab) (col:=col) (dd:=dd) (k0:=k0) (k1:=k1) (k2:=k2) (k3:=k3) (k5:=k5) FB (mN:=mN) (tl.hasType FB.hasBase) (I.ok.hd hc) hpl' hni (zym I hg hm ⟨rfl,?_⟩ hdb);have step:=ha cpos pins s st H (fun vs H1=>vs.length<=cap/\Thr X st (T.cv ⟨c⟩) none H1) I ⟨μ,ρ,σ,hE,hr,hp.xs hE fun ds σ1 μ1 vs H1 _ e1 r1 q1 p1=>by
  unfold yjc at p1;by_cases hl:ds.length<=cap
  ·rw[if_pos hl]at p1;exact⟨by rw[<-q1.length];exact hl,yqm.here (g:=Gl2.xc st (T.cv ⟨c⟩) none) p1 r1 ⟨hE.mono e1,rfl,hfd.symm⟩⟩
  ·rw[if_neg hl]at p1;exact p1.elim⟩
 rw[he]at step ⊢;refine Calls.evalArgs_plain (thn step fun us s1 ⟨vs,H1,I1,r,hl,thr⟩=>?_);exact⟨rfl,by rw[<-r.length];exact yd2 hl,I1.bk _ _ hC,hN.keeps I1.bk,tl.keeps I1.bk,fun h' ea hx=>thr.made I1 hx⟩
end
structure Hd where
 t:Nat->Option Bool
 nm:Option Nat
 g:Ev->M Fl
def yvn(i:Nat):Fl->M Fl
 | .nx ρ=>ret (.nx (ρ.set i none))
 | .rt d=>ret (.rt d)
 | .bk ρ=>ret (.bk (ρ.set i none))
 | .ct ρ=>ret (.ct (ρ.set i none))
 | .xc _ _=>bad
def noF:Fl->M Fl
 | .nx ρ=>ret (.nx ρ)
 | .rt d=>ret (.rt d)
 | .bk ρ=>ret (.bk ρ)
 | .ct ρ=>ret (.ct ρ)
 | .xc _ _=>bad
def hit(h:Hd)(ρ:Ev)(x:Xn):M Fl:=match h.nm with
 |none=>bnd (h.g ρ) noF
 |some i=>bnd (h.g (ρ.set i (some (.exn x.cls)))) (yvn i)
def yf8(ρ:Ev)(x:Xn):List Hd->M Fl
 |[]=>bad
 |h::r=>match h.t x.cls with
  |some true=>hit h ρ x
  |some false=>yf8 ρ x r
  |none=>bad
def yvk(hs:List Hd):Fl->M Fl
 | .xc ρ x=>yf8 ρ x hs
 | .nx ρ=>ret (.nx ρ)
 | .rt d=>ret (.rt d)
 | .bk ρ=>ret (.bk ρ)
 | .ct ρ=>ret (.ct ρ)
def yur(g:Ev->M Fl)(hs:List Hd):Ev->M Fl:=fun ρ=>bnd (g ρ) (yvk hs)
abbrev Cx.inH(X:Cx)(e:Value):Cx:={ X with A:=X.A.mark (some e),calm:=false,xe:=fun _ _=>False }
abbrev Cx.inT(X:Cx)(pins:List (Addr × Obj))(xe:Value->Shared->Prop):Cx:={ X with xe:=xe,pn:=X.pn++pins }
section
variable{T:Tb}{X:Cx}{pins:List (Addr × Obj)}{st:St}{H:Hp}{s:Shared}{e:Value}{xe:Value->Shared->Prop}
theorem zxy(I:Inv X pins st H s):Inv (Cx.inT X pins xe) [] st H s:=
 ⟨⟨I.ok.mod,I.ok.kind,I.ok.glob,I.ok.blt,I.ok.above,I.ok.inj,I.ok.has,I.ok.cab,I.ok.hd,I.ok.frames,I.ok.stk,I.ok.exf,I.ok.bs,I.ok.bsz,I.ok.noex,I.ok.exfs,I.ok.funs,I.ok.frf⟩,I.os,I.bare,I.base,I.loc,I.cell,I.free,I.freeC,fun p hp=>I.pin p (by simpa using hp),I.hok,I.len⟩
theorem zqg{p1:List (Addr × Obj)}(I:Inv (Cx.inT X pins xe) p1 st H s):Inv X pins st H s:=
 ⟨⟨I.ok.mod,I.ok.kind,I.ok.glob,I.ok.blt,I.ok.above,I.ok.inj,I.ok.has,I.ok.cab,I.ok.hd,I.ok.frames,I.ok.stk,I.ok.exf,I.ok.bs,I.ok.bsz,I.ok.noex,I.ok.exfs,I.ok.funs,I.ok.frf⟩,I.os,I.bare,I.base,I.loc,I.cell,I.free,I.freeC,fun p hp=>I.pin p (List.mem_append_left _ hp),I.hok,I.len⟩
theorem zxx(I:Inv X pins st H s):Inv (Cx.inH X e) pins st H s:=
 ⟨⟨I.ok.mod,I.ok.kind,I.ok.glob,I.ok.blt,I.ok.above,I.ok.inj,I.ok.has,I.ok.cab,fun z=>(by cases z),I.ok.frames,I.ok.stk,I.ok.exf,I.ok.bs,I.ok.bsz,I.ok.noex,I.ok.exfs,I.ok.funs,I.ok.frf⟩,I.os,I.bare,I.base,I.loc,I.cell,I.free,I.freeC,I.pin,I.hok,I.len⟩
theorem zqf(ok:X.Ok)(I:Inv (Cx.inH X e) pins st H s):Inv X pins st H s:=
 ⟨ok,I.os,I.bare,I.base,I.loc,I.cell,I.free,I.freeC,I.pin,I.hok,I.len⟩
theorem ycs{D:Ends}{f:Flow}{s':Shared}(h:SP (Cx.inT X pins xe) [] D f s'):SP X pins D f s':=by
 cases f with
 |next=>obtain⟨σ',H',I,q⟩:=h;exact⟨σ',H',zqg I,q⟩
 |brk=>obtain⟨σ',H',I,q⟩:=h;exact⟨σ',H',zqg I,q⟩
 |cont=>obtain⟨σ',H',I,q⟩:=h;exact⟨σ',H',zqg I,q⟩
 |ret u=>obtain⟨v,σ',H',I,r,q⟩:=h;exact⟨v,σ',H',zqg I,r,q⟩
theorem ycr(ok:X.Ok){D:Ends}{f:Flow}{s':Shared}(h:SP (Cx.inH X e) pins D f s'):SP X pins D f s':=by
 cases f with
 |next=>obtain⟨σ',H',I,q⟩:=h;exact⟨σ',H',zqf ok I,q⟩
 |brk=>obtain⟨σ',H',I,q⟩:=h;exact⟨σ',H',zqf ok I,q⟩
 |cont=>obtain⟨σ',H',I,q⟩:=h;exact⟨σ',H',zqf ok I,q⟩
 |ret u=>obtain⟨v,σ',H',I,r,q⟩:=h;exact⟨v,σ',H',zqf ok I,r,q⟩
end
def Lnd(X:Cx)(pins:List (Addr × Obj))(st:St)(H:Hp)(s:Shared)(ea:Addr)(cls:Value)(fd:Option Nat):Prop:=∃ H0 s0,Inv X pins st H0 s0/\Fly X.prog X.w X.stack H0 s0 cls fd H (.ref ea) s
section
variable{T:Tb}{X:Cx}{pins:List (Addr × Obj)}{st:St}{H:Hp}{s:Shared}{ea:Addr}{cls:Value}{fd:Option Nat}
theorem Lnd.inv(L:Lnd X pins st H s ea cls fd):Inv X pins st H s:=by
 obtain⟨H0,s0,I,F⟩:=L;exact L2.Inv.call' (ch:=[]) I F.os F.un F.hok F.bare fun b z=>absurd z (by simp)
theorem Lnd.next(L:Lnd X pins st H s ea cls fd){M:Model}{A:Around}{E:Value->Shared->Prop}{Q:Unit->Shared->Prop}(h:∀ s',Lnd X pins st H s' ea cls fd->Q () s'):wpAny M A (setFlight (.ref ea) none) Q E s:=by
 obtain⟨H0,s0,I,F⟩:=L;obtain⟨ea',a0,B,e,fl,hn,hnew,hT,hB,hA,hF⟩:=F.ex;cases e;refine zyi fl fun h6 fl6 sl6 dk6=>h _ ?_;obtain⟨un,hok⟩:=yfr F hB hT hA fl.1 fl6.1 sl6 (zh1 I);exact⟨H0,s0,I,⟨ea,a0,B,rfl,fl6,hn,hnew,hT,hB,hA,hF.next dk6 (let ⟨o,e,_⟩:=fl6.there;⟨o,e⟩)⟩,F.os,F.bare,un,hok⟩
theorem Lnd.obj(L:Lnd X pins st H s ea cls fd):H ea=none/\(∃ o,s.heap.get? ea=some o/\o.cls=cls)/\∃ s0:Shared,s0.heap.get? ea=none/\∃ H0,Inv X pins st H0 s0:=by
 obtain⟨H0,s0,I,F⟩:=L;obtain⟨ea',a0,B,e,fl,hn,hnew,hT,hB,hA,hF⟩:=F.ex;cases e;exact⟨hn,fl.there,s0,hnew,H0,I⟩
theorem zub{H0:Hp}{s0:Shared}{a:Addr}{o:Obj}{φ:Heap->Prop}(I:Inv X pins st H s)(I0:Inv X pins st H0 s0)(hnew:s0.heap.get? a=none)(hn:H a=none)(ho:s.heap.get? a=some o)(hφ:φ s.heap)
  (hs:∀ h1 h2:Heap,φ h1->(∀ u,h1.get? a=some u->h2.get? a=some u)->φ h2):Inv X pins st (upd H a (.ext φ)) s:=by
 have ne:∀ b u,s0.heap.get? b=some u->b≠a:=fun b u e z=>by rw[z,hnew]at e;cases e
 have nt:∀ b u,H b=some u->b≠a:=fun b u e z=>by rw[z,hn]at e;cases e
 have n0:∀ b u,X.s₀.heap.get? b=some u->b ∉ X.ex->b≠a:=fun b u e hx=>by obtain⟨u',e'⟩:=I0.base.there b u e hx;exact ne b u' e'
 refine⟨I.ok,I.os,I.bare,⟨I.base.keep,I.base.slot,fun b u e n hx=>?_,I.base.there,fun b xs e=>?_,fun b ob u e=>?_,fun b ps e=>?_⟩,I.loc,I.cell,?_,fun x c e=>?_,fun p hp=>?_,fun b u e=>?_,I.len⟩
 ·rw[upd_ne (n0 b u e hx)];exact I.base.free b u e n hx
 ·have q:=I.base.tups b xs e;rw[upd_ne (nt b _ q)];exact q
 ·have q:=I.base.frzs b ob u e;rw[upd_ne (nt b _ q)];exact q
 ·obtain⟨more,q⟩:=I.base.tbls b ps e;exact⟨more,by rw[upd_ne (nt b _ q)];exact q⟩
 ·obtain⟨m,⟨u,_,_,hu,_⟩,_⟩:=I0.loc;rw[upd_ne (ne _ u hu)];exact I.free
 ·obtain⟨v,u,hu,_⟩:=I0.cell x c e;rw[upd_ne (ne _ u hu)];exact I.freeC x c e
 ·obtain⟨p1,p2,p3⟩:=I.pin p hp;refine⟨p1,?_,p3⟩;rw[upd_ne (ne _ _ (I0.pin p hp).1)];exact p2
 ·by_cases hb:b=a
  ·subst hb;rw[upd_same]at e;cases e;exact⟨hφ,⟨o,ho⟩,hs⟩
  ·rw[upd_ne hb]at e;exact(I.hok b u e).stay (fun c v _ q=>q) (fun c q=>by rw[upd_ne (nt c _ q)];exact q) fun c xs q=>by rw[upd_ne (nt c _ q)];exact q
theorem zkz{C a:Addr}{dd:Option Addr}:∀ h1 h2:Heap,ydh C dd a h1->(∀ u,h1.get? a=some u->h2.get? a=some u)->ydh C dd a h2:=fun h1 h2 ⟨u,hu,q⟩ k=>⟨u,k u hu,q⟩
theorem zsj{dN:Addr}{n:Nat}:∀ h1 h2:Heap,ykw dN n h1->(∀ u,h1.get? dN=some u->h2.get? dN=some u)->ykw dN n h2:=fun h1 h2 ⟨u,hu,q⟩ k=>⟨u,k u hu,q⟩
theorem Lnd.track(L:Lnd X pins st H s ea (.ref C) fd):∃ dd H1,Inv X pins st H1 s/\H1 ea=some (.ext (ydh C dd ea))/\(∀ n,fd=some n->∃ dN,dd=some dN/\H dN=none/\H1 dN=some (.ext (ykw dN n)))/\(∀ b u,H b=some u->H1 b=some u)/\∀ b u,H1 b=some u->H b=some u\/H b=none:=by
 have I:=L.inv;obtain⟨H0,s0,I0,F⟩:=L;obtain⟨ea',a0,B,e,fl,hn,hnew,hT,hB,hA,hF⟩:=F.ex;cases e;obtain⟨o,ho,hc⟩:=fl.there;cases hfd:fd with
 |none=>
  have I1:=zub (φ:=ydh C none ea) I I0 hnew hn ho ⟨o,ho,hc,fun _ z=>by cases z⟩ zkz;refine⟨none,_,I1,upd_same,(fun n q=>by cases q),fun b u e=>?_,fun b u e=>?_⟩
  ·rw[upd_ne (fun z=>by rw[z,hn]at e;cases e)];exact e
  ·by_cases hb:b=ea
   ·rw[hb];exact .inr hn
   ·rw[upd_ne hb]at e;exact .inl e
 |some n=>
  obtain⟨dN,oD,oe,q1,q2,q3,q4,q5,q6⟩:=hF n hfd;have oe':oe=o:=by rw[ho]at q1;cases q1;rfl
  subst oe';have hdN:=fl.1 dN oD q3;have ned:dN≠ea:=fun z=>by
   have:=fl.2.1;rw[<-z,q3]at this;cases this
  have I1:=zub (φ:=ydh C (some dN) ea) I I0 hnew hn ho ⟨oe,ho,hc,fun _ z=>by cases z;exact⟨q2,fl.flds ho⟩⟩ zkz;have I2:=zub (φ:=ykw dN n) I1 I0 q6 (by rw[upd_ne ned];exact q5) hdN ⟨oD,hdN,q4⟩ zsj;refine⟨some dN,_,I2,by rw[upd_ne (Ne.symm ned)];exact upd_same,fun m q=>?_,fun b u e=>?_,fun b u e=>?_⟩
  ·cases q;exact⟨dN,rfl,q5,upd_same⟩
  ·rw[upd_ne (fun z=>by rw[z,q5]at e;cases e),upd_ne (fun z=>by rw[z,hn]at e;cases e)];exact e
  ·by_cases hd:b=dN
   ·rw[hd];exact .inr q5
   ·rw[upd_ne hd]at e;by_cases hb:b=ea
    ·rw[hb];exact .inr hn
    ·rw[upd_ne hb]at e;exact .inl e
theorem zys(I:Inv X pins st H s)(hs:X.stack=X.env::X.outer)(hf:X.env.frame=some X.env.locals){s':Shared}{H':Hp}{e:Value}(F:Fly X.prog X.w X.stack H s cls fd H' e s'){M:Model}{E:Value->Shared->Prop}{Q:Value->Shared->Prop}
  (h:∀ ea s'',e=.ref ea->Lnd X pins st H' s'' ea cls fd->Q e s''):wpAny M X.A (noteFrame e X.env) (fun _ s2=>wpAny M X.A (setFlight e none) (fun _ s3=>Q e s3) E s2) E s':=by
 obtain⟨ea,a0,B,rfl,fl,hn,hnew,hT,hB,hA,hF⟩:=F.ex;have fl':yp8 B (X.env::X.outer) ea cls a0 s'.heap:=by rw[<-hs];exact fl
 refine zyu (by rw[<-hs];exact I.ok.frames) hf fl' fun h4 held4 sm4 dk4=>?_;refine zyi (yf9 held4) fun h5 fl5 sm5 dk5=>h ea _ rfl ?_;have fl5':yp8 B X.stack ea cls a0 h5:=by rw[hs];exact fl5
 obtain⟨un,hok⟩:=yfr F hB hT hA fl.1 fl5'.1 (sm4.trans sm5) (zh1 I);exact⟨H,s,I,⟨ea,a0,B,rfl,fl5',hn,hnew,hT,hB,hA,hF.next (dk4.trans dk5) (let ⟨o,e,_⟩:=fl5'.there;⟨o,e⟩)⟩,F.os,F.bare,un,hok⟩
end
def yku(X:Cx)(x:Str)(cv:Value):Prop:=X.mg x=some cv\/(X.mg x=none/\bootBuiltins x=some cv/\x ≠ "__name__")
inductive FHs(T:Tb)(X:Cx):List ExceptHandler->List Hd->Prop where
 |nil:FHs T X [] []
 |cons {x:Str} {np pos:Pos} {cv:Value} {b₀:Stmt} {suite:List Stmt} {t:Nat->Option Bool} {g:Ev->M Fl} {r:List ExceptHandler} {hs:List Hd} (hg:Gl X x) (hd:(x == ("__debug__" : Str))=false) (hm:yku X x cv) (ht:∀ c b,t c=some b->PySem.W.exmOne X.K (.ref (T.ca c)) cv=some b)
   (hb:∀ e,FSs T (Cx.inH X e) (b₀::suite) g) (hr:FHs T X r hs):FHs T X (.ExceptHandler (some (.Name x np)) none (b₀::suite) pos::r) (⟨t,none,g⟩::hs)
 |consAs {x n:Str} {i:Nat} {np pos:Pos} {cv:Value} {b₀:Stmt} {suite:List Stmt} {t:Nat->Option Bool} {g:Ev->M Fl} {r:List ExceptHandler} {hs:List Hd} (hg:Gl X x) (hd:(x == ("__debug__" : Str))=false) (hm:yku X x cv) (ht:∀ c b,t c=some b->PySem.W.exmOne X.K (.ref (T.ca c)) cv=some b)
   (hN:X.N.Nodup) (hi:X.N[i]?=some n) (hl:X.env.scope.names.lookup n=some .local)
   (hb:∀ e,FSs T (Cx.inH X e) (b₀::suite) g) (hr:FHs T X r hs):FHs T X (.ExceptHandler (some (.Name x np)) (some n) (b₀::suite) pos::r) (⟨t,some i,g⟩::hs)
section
variable{T:Tb}{X:Cx}
theorem ym7{pins:List (Addr × Obj)}{st:St}{H:Hp}{s:Shared}{x:Str}{cv:Value}{pos:Pos}{E:Value->Shared->Prop}{Q:Value->Shared->Prop}(I:Inv X pins st H s)(hg:Gl X x)(hd:(x == ("__debug__" : Str))=false)(hm:yku X x cv)(h:Q cv s):wpAny (model X.prog X.w) X.A (eval (.Name x pos) X.env) Q E s:=by
 rcases hm with hm|⟨hm,hv,hn⟩
 ·exact zym I hg hm h hd
 ·exact ygw I hg hm hv h hn hd
theorem zsh{e:Value}{μ:List Addr}{H:Hp}{o:Out Fl}{D:Ends}(hp:yqm T EN (RFl T) μ H (o.bind noF) (yp7 X D)):yqm T EN (RFl T) μ H o (yp7 (Cx.inH X e) D):=by
 cases o with
 |bad=>exact hp
 |ex x σ=>exact hp
 |ok fl σ=>
  intro μ1 gl H1 e1 r1 q1;cases fl with
  |nx ρ=>cases gl with
   |nx st=>exact hp μ1 (.nx st) H1 e1 r1 q1
   |_=>exact q1.elim
  |rt ρ=>cases gl with
   |rt st=>exact hp μ1 (.rt st) H1 e1 r1 q1
   |_=>exact q1.elim
  |bk ρ=>cases gl with
   |bk st=>exact hp μ1 (.bk st) H1 e1 r1 q1
   |_=>exact q1.elim
  |ct ρ=>cases gl with
   |ct st=>exact hp μ1 (.ct st) H1 e1 r1 q1
   |_=>exact q1.elim
  |xc ρ x=>exact hp.elim
theorem zh0{μ:List Addr}{H:Hp}{ρ:Ev}{st:St}(h:yp6 T μ H ρ st)(i:Nat):yp6 T μ H (ρ.set i none) (st.set i none):=by
 refine⟨by simpa using h.1,fun j d q=>?_⟩;rw[List.getElem?_set]at q;by_cases hj:i=j
 ·subst hj;rw[if_pos rfl]at q;split at q<;>cases q
 ·rw[if_neg hj]at q;obtain⟨v,h1,h2⟩:=h.2 j d q;exact⟨v,by rw[List.getElem?_set,if_neg hj];exact h1,h2⟩
theorem zsi{e:Value}{μ:List Addr}{H:Hp}{o:Out Fl}{D:Ends}{i:Nat}(hp:yqm T EN (RFl T) μ H (o.bind (yvn i)) (yp7 X D)):yqm T EN (RFl T) μ H o (yp7 (Cx.inH X e) ⟨fun st H=>D.nx (st.set i none) H,D.rt,fun st H=>D.bk (st.set i none) H,fun st H=>D.ct (st.set i none) H⟩):=by
 cases o with
 |bad=>exact hp
 |ex x σ=>exact hp
 |ok fl σ=>
  intro μ1 gl H1 e1 r1 q1;cases fl with
  |nx ρ=>cases gl with
   |nx st=>exact hp μ1 (.nx (st.set i none)) H1 e1 r1 (zh0 q1 i)
   |_=>exact q1.elim
  |rt ρ=>cases gl with
   |rt st=>exact hp μ1 (.rt st) H1 e1 r1 q1
   |_=>exact q1.elim
  |bk ρ=>cases gl with
   |bk st=>exact hp μ1 (.bk (st.set i none)) H1 e1 r1 (zh0 q1 i)
   |_=>exact q1.elim
  |ct ρ=>cases gl with
   |ct st=>exact hp μ1 (.ct (st.set i none)) H1 e1 r1 (zh0 q1 i)
   |_=>exact q1.elim
  |xc ρ x=>exact hp.elim
theorem zln{pins:List (Addr × Obj)}{st:St}{H:Hp}{s:Shared}{n:Str}{i t:Nat}{h':Heap}{m:Str->Option Value}(I:Inv X pins st H s)(hN:X.N.Nodup)(hi:X.N[i]?=some n)(hl:X.env.scope.names.lookup n=some .local)(hn:s.heap.Ns X.env.locals m){w:Option Value}(hn':h'.Ns X.env.locals fun y=>if y=n then w else m y)(hs:Heap.SameBut X.env.locals s.heap h'):Inv X pins (st.set i none) H { s with heap:=h',toks:=t }:=by
 have neL:∀ b o,X.s₀.heap.get? b=some o->b≠X.env.locals:=fun b o e=>Nat.ne_of_lt (Nat.lt_of_lt_of_le (Heap.lt_size e) I.ok.above);obtain⟨m0,hm0,hloc⟩:=I.loc;have em:m0=m:=by
  obtain⟨o,es,ep,ho,hd,hk,hf⟩:=hm0;obtain⟨o',es',ep',ho',hd',hk',hf'⟩:=hn;rw[ho]at ho';cases ho';rw[hd]at hd';cases hd';funext y;rw[<-hf y,<-hf' y]
 subst em;refine⟨I.ok,I.os,I.bare,⟨fun b o e n hb hx=>(hs.2 b (neL b o e)).trans (I.base.keep b o e n hb hx),fun b o e n hb hx=>?_,I.base.free,fun b o e hx=>?_,I.base.tups,I.base.frzs,I.base.tbls⟩,⟨_,hn',fun j y v e1 e2 e3=>?_⟩,fun y c e=>?_,I.free,I.freeC,fun p hp=>?_,ygb I.hok fun b o u e q=>?_,by simpa using I.len⟩
 ·obtain⟨sl,q⟩:=I.base.slot b o e n hb hx;exact⟨sl,(hs.2 b (neL b o e)).trans q⟩
 ·obtain⟨o',q⟩:=I.base.there b o e hx;exact⟨o',(hs.2 b (neL b o e)).trans q⟩
 ·rw[List.getElem?_set]at e2;by_cases hj:i=j
  ·subst hj;rw[if_pos rfl]at e2;split at e2<;>cases e2
  ·rw[if_neg hj]at e2;obtain⟨u,r,lk⟩:=hloc j y v e1 e2 e3;refine⟨u,r,?_⟩;have hy:y≠n:=fun z=>hj (zrk hN hi (z ▸ e1));rcases lk with⟨k,q⟩|⟨k,c,q,z⟩
   ·exact .inl ⟨k,by show (if y=n then w else m0 y)=some u;rw[if_neg hy];exact q⟩
   ·exact .inr ⟨k,c,q,z.sameBut hs (I.cne y c q)⟩
 ·obtain⟨v,z⟩:=I.cell y c e;exact⟨v,z.sameBut hs (I.cne y c e)⟩
 ·obtain⟨q1,q2,q3,q4⟩:=I.pin p hp;exact⟨(hs.2 p.1 q3).trans q1,q2,q3,q4⟩
 ·exact(hs.2 b fun z=>by rw[z,I.free]at e;cases e).trans q
theorem zf0{D:Ends}{pins:List (Addr × Obj)}{st:St}{H:Hp}{ea:Addr}{x:Xn}{μ:List Addr}{ρ:Ev}{σ:Sto}{hds:List ExceptHandler}{hs:List Hd}(h:FHs T X hds hs)(hE:yp6 T μ H ρ st)(hr:Rel T μ H σ)(hp:yqm T EN (RFl T) μ H (yf8 ρ x hs σ) (yp7 X D)) :
  ∀ s,Lnd X pins st H s ea (T.cv x) (fdN x.cls)->wpAny (model X.prog X.w) X.A (handleBy (.ref ea) X.env hds) (SP X pins D) X.xe s:=by
 induction h with
 |nil=>exact hp.elim
 |@cons y np pos cv b₀ suite t g r hs hg hd hm ht hb hrest ih=>
  intro s L;have I:=L.inv;obtain⟨_,⟨o,ho,hc⟩,_⟩:=L.obj;refine wpAny_handleBy_cons (codeAny_handlers_test (ym7 (X:=Cx.inH X (.ref ea)) (zxx I) hg hd hm ?_)) (by intro q;cases q);unfold yf8 at hp;dsimp only at hp;cases et:t x.cls with
  |none=>rw[et]at hp;exact hp.elim
  |some b=>
   rw[et]at hp;have LT:PySem.W.Looks (model X.prog X.w) s.heap (typeOf (.ref ea)) (T.cv x):=by rw[<-hc];exact(PySem.W.Looks.ld ho).andThen .now
   refine(PySem.W.exm_one I.kIn LT (ht x.cls b et)).here ?_;cases b with
   |false=>exact ih hp s L
   |true=>
    refine codeAny_handlers_suite (L.next fun s' L'=>?_);exact wpAny_mono (hb (.ref ea) pins s' st H D (zxx L'.inv) ⟨μ,ρ,σ,hE,hr,zsh hp⟩) (fun f s2 q=>ycr I.ok q) fun _ _ z=>z.elim
 |@consAs y n i np pos cv b₀ suite t g r hs hg hd hm ht hN hi hl hb hrest ih=>
  intro s L;have I:=L.inv;obtain⟨_,⟨o,ho,hc⟩,_⟩:=L.obj;refine wpAny_handleBy_cons (codeAny_handlers_test (ym7 (X:=Cx.inH X (.ref ea)) (zxx I) hg hd hm ?_)) (by intro q;cases q);unfold yf8 at hp;dsimp only at hp;cases et:t x.cls with
  |none=>rw[et]at hp;exact hp.elim
  |some b=>
   rw[et]at hp;have LT:PySem.W.Looks (model X.prog X.w) s.heap (typeOf (.ref ea)) (T.cv x):=by rw[<-hc];exact(PySem.W.Looks.ld ho).andThen .now
   refine(PySem.W.exm_one I.kIn LT (ht x.cls b et)).here ?_;cases b with
   |false=>exact ih hp s L
   |true=>
    refine codeAny_handlers_suite_as (L.next fun s' L'=>?_);have hn:H ea=none:=L'.obj.1;obtain⟨dd,H1,I1,hea,hdd,up1,dn1⟩:=Lnd.track L';have oldN:∀ b,b∈μ->∃ u,H b=some u:=fun b z=>by obtain⟨u,hu,_⟩:=hr.mem z;exact⟨u,hu⟩
    have ex1:Ext μ H μ H1:=⟨⟨[],by simp⟩,fun p xs e=>up1 _ _ e,fun p o u e=>up1 _ _ e,fun p o e n=>⟨up1 _ _ e,n⟩⟩
    have out:ea ∉ μ:=fun z=>by obtain⟨u,hu⟩:=oldN _ z;rw[hn]at hu;cases hu
    have rp:Rep T μ H1 (.exn x.cls) (.ref ea):=by
     rw[Rep];refine⟨ea,dd,rfl,out,hea,fun n q=>?_⟩;obtain⟨dN,z1,z2,z3⟩:=hdd n q;exact⟨dN,z1,fun z=>(by obtain⟨u,hu⟩:=oldN _ z;rw[z2]at hu;cases hu),z3⟩
    refine zt4 (X:=Cx.inH X (.ref ea)) (v:=.ref ea) (zxx I1) hN hi (.inl hl) rfl (fun s2 I2=>?_) (.inr hl);refine wpAny_mono (hb (.ref ea) pins s2 _ _ ⟨fun st H=>D.nx (st.set i none) H,D.rt,fun st H=>D.bk (st.set i none) H,fun st H=>D.ct (st.set i none) H⟩ I2 ⟨μ,ρ.set i (some (.exn x.cls)),σ,(hE.mono ex1).set i rp,hr.keep ex1 (fun a ha=>by obtain⟨u,hu⟩:=oldN a ha;rw[up1 _ _ hu,hu]),zsi (yqm.mono ex1 hp)⟩) (fun f s3 q=>?_) fun _ _ z=>z.elim;have cls0:(X.env.scope.kind == .class || (X.env.scope.kind == .module && X.env.locals != X.env.globals))=false:=by rw[I.ok.kind];rfl
    have go:∀ {st3:St} {H3:Hp},Inv (Cx.inH X (.ref ea)) pins st3 H3 s3->(∀ s4,Inv X pins (st3.set i none) H3 s4->SP X pins D f s4)->wpAny (model X.prog X.w) X.A (do bindName X.env n .none;unbindBehindTheSuite X.env n pos) (fun _ s₃=>SP X pins D f s₃) X.xe s3:=fun {st3 H3} I3 k=>by
     have J:=zqf I.ok I3;obtain⟨m,hm3,_⟩:=id J.loc;exact wpAny_nameGoes_keeps hl hm3 cls0 fun h4 v4 hn4 sb4=>k _ (zln J hN hi hl hm3 hn4 sb4)
    cases f with
    |next=>obtain⟨st3,H3,I3,q3⟩:=q;exact go I3 fun s4 I4=>⟨_,_,I4,q3⟩
    |brk=>obtain⟨st3,H3,I3,q3⟩:=q;exact go I3 fun s4 I4=>⟨_,_,I4,q3⟩
    |cont=>obtain⟨st3,H3,I3,q3⟩:=q;exact go I3 fun s4 I4=>⟨_,_,I4,q3⟩
    |ret u=>obtain⟨v,st3,H3,I3,r3,q3⟩:=q;exact go I3 fun s4 I4=>⟨v,_,_,I4,r3,q3⟩
theorem yf0{body:List Stmt}{h₀:ExceptHandler}{hds:List ExceptHandler}{hs:List Hd}{g:Ev->M Fl}{pos:Pos}(hst:X.stack=X.env::X.outer)(hf:X.env.frame=some X.env.locals)
  (hb:∀ pins xe,PassesOwn (model X.prog X.w) X.A X.env xe->FSs T (Cx.inT X pins xe) body g) (hh:FHs T X (h₀::hds) hs):FS T X (.Try body (h₀::hds) [] [] pos) (yur g hs):=by
 intro pins s st H D I hw;obtain⟨μ,ρ,σ,hE,hr,hp⟩:=hw;refine wpAny_Try_except ?_;refine wpAny_mono (hb pins (fun e s₁=>wpAny (model X.prog X.w) X.A (noteFrame e X.env) (fun _ s₂=>wpAny (model X.prog X.w) X.A (setFlight e none) (fun _ s₃=>wpAny (model X.prog X.w) X.A (handleBy e X.env (h₀::hds)) (SP X pins D) X.xe s₃) X.xe s₂) X.xe s₁) PassesOwn.looking [] s st H D (zxy I)
  ⟨μ,ρ,σ,hE,hr,?_⟩) (fun f s1 q=>?_) fun _ _ z=>z
 ·have hp':yqm T EN (RFl T) μ H ((g ρ σ).bind (yvk hs)) (yp7 X D):=hp;cases eo:g ρ σ with
  |bad=>rw[eo]at hp';exact hp'
  |ex x σ1=>rw[eo]at hp';exact hp'
  |ok fl σ1=>
   rw[eo]at hp';intro μ1 gl H1 e1 r1 q1;have p1:=hp'.mono e1;cases fl with
   |nx ρ=>cases gl with
    |nx st=>exact p1 μ1 (.nx st) H1 (Ext.refl _ _) r1 q1
    |_=>exact q1.elim
   |rt ρ=>cases gl with
    |rt st=>exact p1 μ1 (.rt st) H1 (Ext.refl _ _) r1 q1
    |_=>exact q1.elim
   |bk ρ=>cases gl with
    |bk st=>exact p1 μ1 (.bk st) H1 (Ext.refl _ _) r1 q1
    |_=>exact q1.elim
   |ct ρ=>cases gl with
    |ct st=>exact p1 μ1 (.ct st) H1 (Ext.refl _ _) r1 q1
    |_=>exact q1.elim
   |xc ρ1 x=>cases gl with
    |xc st1 cls fd=>
     obtain⟨hE1,rfl,rfl⟩:=q1;refine⟨fun p0 H0 s0 e s' I0 F=>?_⟩;exact zys (zqg I0) hst hf F (Q:=fun e s₃=>wpAny (model X.prog X.w) X.A (handleBy e X.env (h₀::hds)) (SP X pins D) X.xe s₃) fun ea s'' ee L=>by subst ee;exact zf0 hh hE1 r1 p1 s'' L
    |_=>exact q1.elim
 ·have q':=ycs q;cases f with
  |next=>exact wpAny_execs_nil q'
  |brk=>exact q'
  |cont=>exact q'
  |ret u=>exact q'
end
def yli:List D->Option (List Bool)
 |[]=>some []
 | .bl b::r=>(yli r).map (b::·)
 |_::_=>none
def ygf:List D->Option (List Int)
 |[]=>some []
 | .int b::r=>(ygf r).map (b::·)
 |_::_=>none
theorem zvb{T:Tb}{μ:List Addr}{H:Hp}:∀ {ds:List D} {vs:List V} {bs:List Bool},yqs T μ H ds vs->yli ds=some bs->vs=bs.map V.bl
 |[],vs,bs,r,h=>by cases h;rw[yqs]at r;exact r
 |d::ds,vs,bs,r,h=>by
  rw[yqs]at r;obtain⟨v,w,rfl,h1,h2⟩:=r;cases d with
  |bl b=>
   obtain⟨cs,e1,e2⟩:=Option.map_eq_some_iff.mp h;subst e2;rw[Rep]at h1;subst h1;rw[zvb h2 e1];rfl
  |_=>cases h
theorem zqd{T:Tb}{μ:List Addr}{H:Hp}:∀ {ds:List D} {vs:List V} {bs:List Int},yqs T μ H ds vs->ygf ds=some bs->vs=bs.map V.int
 |[],vs,bs,r,h=>by cases h;rw[yqs]at r;exact r
 |d::ds,vs,bs,r,h=>by
  rw[yqs]at r;obtain⟨v,w,rfl,h1,h2⟩:=r;cases d with
  |int b=>
   obtain⟨cs,e1,e2⟩:=Option.map_eq_some_iff.mp h;subst e2;rw[Rep]at h1;subst h1;rw[zqd h2 e1];rfl
  |_=>cases h
def ysu(xs:List D):M D:=fun σ=>match xs with
 |[x]=>(match (yo5 σ x).bind yli with
  |some bs=>.ok (.bl (bs.all id)) σ
  |none=>.bad)
 |_=>.bad
def ytg(xs:List D):M D:=fun σ=>match xs with
 |[x]=>(match (yo5 σ x).bind ygf with
  |some bs=>.ok (.int bs.sum) σ
  |none=>.bad)
 |_=>.bad
section
variable{T:Tb}{X:Cx}
def yoo(K:PySem.W.Frag)(g:List Bool->Bool):List V->Hp->VK->Prop:=fun xs H Q=>∃ p bs,xs=[.ref p]/\(SqL K H p (bs.map V.bl)\/SqT K H p (bs.map V.bl))/\Q (.bl (g bs)) H
def yow(K:PySem.W.Frag):List V->Hp->VK->Prop:=fun xs H Q=>∃ (p:Addr) (bs:List Int),xs=[.ref p]/\(SqL K H p (bs.map V.int)\/SqT K H p (bs.map V.int))/\Q (.int bs.sum) H
theorem yc9:∀ {bs:List Bool} {us:List Value},yqx (bs.map V.bl) us->us=bs.map Value.bool
 |[],us,h=>by cases h;rfl
 |b::bs,us,h=>by
  cases h with
  |cons r t=>cases r;rw[yc9 t];rfl
theorem zsq{α:Type}(g:α->Bool)(d:α):∀ (bs:List α),(List.range bs.length).all (fun i=>g (bs.getD i d))=bs.all g
 |[]=>rfl
 |b::bs=>by
  rw[List.length_cons,List.range_succ_eq_map,List.all_cons,List.all_map,List.all_cons];congr 1;rw[<-zsq g d bs];congr 1
theorem zuc{prog:Program}{w:World}{A:Around}(bs:List Bool):TruthOf prog w A (fun i v=>(bs.map Value.bool).toArray[i]?=some v) (fun i=>bs.getD i false):=by
 intro i v s Q E hP hQ;simp only[List.getElem?_toArray,List.getElem?_map]at hP;cases e:bs[i]? with
 |none=>rw[e]at hP;cases hP
 |some b=>
  rw[e]at hP;cases hP;have hQ':Q (bs.getD i false) s:=hQ;rw[List.getD_eq_getElem?_getD,e]at hQ';exact wpAny_truthy_bool hQ'
theorem zqo{s:Shared}{o:Obj}{h':Heap}(k:∀ b u,b ∉ [s.heap.objs.size]->(s.heap.push o).get? b=some u->h'.get? b=some u):∀ b u,s.heap.get? b=some u->h'.get? b=some u:=fun b u e=>
 k b u (fun z=>absurd (Heap.lt_size e) (by rw[List.mem_singleton.mp z];exact Nat.lt_irrefl _)) (Heap.get?_push_of_some _ e)
theorem zul{pins:List (Addr × Obj)}{s:Shared}{st:St}{H:Hp}{p:Addr}{vs:List V}{E:Value->Shared->Prop}{Q:Value->Shared->Prop}(hh:X.A.handled=none)(I:Inv X pins st H s)(hq:SqL X.K H p vs\/SqT X.K H p vs)
  (h:∀ (its:List Value) (It:Addr) (fp:List Addr) (St:Nat->Heap->Prop) (s2:Shared),yqx vs its->Walks X.prog X.w X.A.in1 It fp [It] its.toArray.size (fun i v=>its.toArray[i]?=some v) St->St 0 s2.heap->(∀ b∈fp,b<s2.heap.objs.size)->
   (∀ h' tk,(∀ b o,b ∉ [It]->s2.heap.get? b=some o->h'.get? b=some o)->Inv X pins st H { s2 with heap:=h',toks:=tk })->Q (.ref It) s2):wpAny (model X.prog X.w) X.A.in1 (pyIter (.ref p)) Q E s:=by
 rcases hq with hq|hq
 ·obtain⟨its,rv,pl,hz⟩:=I.list hq;have hlt:p<s.heap.objs.size:=by obtain⟨_,e,_⟩:=pl.isList;exact Heap.lt_size e
  refine wpAny_pyIter_list pl.isList (h its s.heap.objs.size [s.heap.objs.size,p] _ _ rv (Walks.list (A:=X.A.in1) hh _ p (Nat.ne_of_lt hlt) its.toArray) ⟨⟨_,Heap.get?_push_size _ rfl,rfl,rfl⟩,pl.isList.push _⟩ (fun b hb=>?_) (fun h' tk hk=>I.kept (zqo hk)));show b<(s.heap.push _).objs.size;rw[Heap.size_push];simp only[List.mem_cons,List.not_mem_nil,or_false]at hb;rcases hb with rfl|rfl
  ·exact Nat.lt_succ_self _
  ·exact Nat.lt_succ_of_lt hlt
 ·obtain⟨its,rv,pl,hz⟩:=I.tuple hq;have hlt:p<s.heap.objs.size:=pl.lt;refine wpAny_pyIter_tuple (show s.heap.IsTuple p _ from pl) (h its s.heap.objs.size [s.heap.objs.size,p] _ _ rv (Walks.tuple (A:=X.A.in1) hh _ p (Nat.ne_of_lt hlt) its.toArray) ⟨⟨_,Heap.get?_push_size _ rfl,rfl,rfl⟩,Heap.IsTuple.push (show s.heap.IsTuple p _ from pl) _⟩ (fun b hb=>?_) (fun h' tk hk=>I.kept (zqo hk)));show b<(s.heap.push _).objs.size;rw[Heap.size_push];simp only[List.mem_cons,List.not_mem_nil,or_false]at hb;rcases hb with rfl|rfl
  ·exact Nat.lt_succ_self _
  ·exact Nat.lt_succ_of_lt hlt
theorem zoc(hc:X.calm=true):ykp X (.builtin "all") (yoo X.K fun bs=>bs.all id):=by
 intro pins s st H xs us Q I r h;obtain⟨p,bs,rfl,hq,q⟩:=h;obtain⟨u,rfl,ru⟩:=ypx r;cases ru;refine call_all_walk (zul (I.ok.hd hc) I hq fun its It fp St s2 rv W h0 hf hI=>?_);have ei:=yc9 rv;subst ei;refine⟨_,_,_,_,_,_,fun i=>bs.getD i false,rfl,W,h0,zuc bs,fun h' tk hk=>⟨.bl (bs.all id),H,hI h' tk hk,?_,q⟩⟩;show Value.bool _=Value.bool _;rw[List.size_toArray,List.length_map];exact congrArg Value.bool (zsq id false bs)
theorem zgz:∀ (bs:List Int) (n:Nat),n<=bs.length->preSum (fun i=>bs.getD i 0) n=(bs.take n).sum
 |bs,0,_=>by simp[preSum]
 |bs,n+1,h=>by
  rw[preSum,zgz bs n (by omega),List.take_succ_eq_append_getElem (by omega),List.sum_append];simp[List.getD_eq_getElem?_getD,show n<bs.length by omega]
theorem zkj(hc:X.calm=true):ykp X (.builtin "sum") (yow X.K):=by
 intro pins s st H xs us Q I r h;obtain⟨p,bs,rfl,hq,q⟩:=h;obtain⟨u,rfl,ru⟩:=ypx r;cases ru;refine call_sum_walkG (zul (I.ok.hd hc) I hq fun its It fp St s2 rv W h0 hf hI=>?_);refine⟨_,_,_,_,_,_,fun i=>bs.getD i 0,rfl,W,h0,hf,fun i v hv=>?_,fun h' tk t' hk=>⟨.int bs.sum,H,hI h' tk hk,⟨t',?_⟩,q⟩⟩
 ·simp only[List.getElem?_toArray]at hv;obtain⟨x,h1,h2⟩:=zuj rv hv;rw[List.getElem?_map]at h1;cases e:bs[i]? with
  |none=>rw[e]at h1;cases h1
  |some b=>
   rw[e]at h1;cases h1;obtain⟨t,rfl⟩:=h2;exact⟨t,by show Value.int b t=Value.int (bs.getD i 0) t;rw[List.getD_eq_getElem?_getD,e];rfl⟩
 ·have el:its.toArray.size=bs.length:=by rw[List.size_toArray,<-rv.length,List.length_map]
  rw[el,zgz bs _ (Nat.le_refl _),List.take_length]
theorem ztd{α:Type}{σ:Sto}{x:D}{g:List D->Option α}{bs:α}(h:(yo5 σ x).bind g=some bs):∃ ys,yo5 σ x=some ys/\g ys=some bs:=Option.bind_eq_some_iff.mp h
theorem ycb(hK:T.K=X.K):zuq T (yoo X.K fun bs=>bs.all id) ysu:=by
 intro E μ H σ xs vs Q r p h
 match xs with
 |[]=>exact h.elim
 |[x]=>
  rw[yqs]at p;obtain⟨v,w,rfl,p1,p2⟩:=p;rw[yqs]at p2;subst p2;unfold ysu at h;cases e:(yo5 σ x).bind yli with
  |none=>simp only[e]at h;exact h.elim
  |some bs=>
   simp only[e]at h;obtain⟨ys,e1,e2⟩:=ztd e;obtain⟨b,vs,rfl,h1,h2⟩:=ybw r p1 e1;rw[hK,zvb h1 e2]at h2;exact⟨b,bs,rfl,h2,yqm.here h r (by rw[Rep])⟩
 |_::_::_=>exact h.elim
theorem ycp(hK:T.K=X.K):zuq T (yow X.K) ytg:=by
 intro E μ H σ xs vs Q r p h
 match xs with
 |[]=>exact h.elim
 |[x]=>
  rw[yqs]at p;obtain⟨v,w,rfl,p1,p2⟩:=p;rw[yqs]at p2;subst p2;unfold ytg at h;cases e:(yo5 σ x).bind ygf with
  |none=>simp only[e]at h;exact h.elim
  |some bs=>
   simp only[e]at h;obtain⟨ys,e1,e2⟩:=ztd e;obtain⟨b,vs,rfl,h1,h2⟩:=ybw r p1 e1;rw[hK,zqd h1 e2]at h2;exact⟨b,bs,rfl,h2,yqm.here h r (by rw[Rep])⟩
 |_::_::_=>exact h.elim
def yn2(xs:List D):M D:=match xs with
 |[.int i,.int j]=>ret (.int (max i j))
 |_=>bad
def yn3(xs:List D):M D:=match xs with
 |[.int i,.int j]=>ret (.int (min i j))
 |_=>bad
theorem zue{μ:List Addr}{H:Hp}{x y:D}{vs:List V}(p:yqs T μ H [x,y] vs):∃ v u,vs=[v,u]/\Rep T μ H x v/\Rep T μ H y u:=by
 rw[yqs]at p;obtain⟨v,w,rfl,p1,p2⟩:=p;rw[yqs]at p2;obtain⟨u,w',rfl,p3,p4⟩:=p2;rw[yqs]at p4;subst p4;exact⟨v,u,rfl,p1,p3⟩
theorem ztv:zuq T (fun xs H Q=>∃ i j,xs=[.int i,.int j]/\Q (.int (if j > i then j else i)) H) yn2:=by
 intro E μ H σ xs vs Q r p h;unfold yn2 at h;split at h
 ·rename_i i j
  obtain⟨v,u,rfl,p1,p2⟩:=zue p;refine⟨i,j,by rw[yge p1,yge p2],?_⟩;have e:(if j > i then j else i)=max i j:=by rw[Int.max_def];split<;>split<;>omega
  rw[e];exact yqm.here h r (by rw[Rep])
 ·exact h.elim
theorem ztw:zuq T (fun xs H Q=>∃ i j,xs=[.int i,.int j]/\Q (.int (if j<i then j else i)) H) yn3:=by
 intro E μ H σ xs vs Q r p h;unfold yn3 at h;split at h
 ·rename_i i j
  obtain⟨v,u,rfl,p1,p2⟩:=zue p;refine⟨i,j,by rw[yge p1,yge p2],?_⟩;have e:(if j<i then j else i)=min i j:=by rw[Int.min_def];split<;>split<;>omega
  rw[e];exact yqm.here h r (by rw[Rep])
 ·exact h.elim
def ddp(ns:List Int):List Int:=ns.foldl step_dedup []
theorem zkq(ns:List Int):firstMet (fun i=>ns.getD i 0) ns.length=ddp ns:=by
 unfold firstMet ddp;congr 1;apply List.ext_getElem?;intro i;by_cases h:i<ns.length
 ·simp[h]
 ·simp[h]
def zzz(x:D):M D:=fun σ=>match (ysf σ x).bind ygf with
 |some ns=>if ns.length<=cap then .ok (.int (ddp ns).length) σ else .bad
 |none=>.bad
def yt6(K:PySem.W.Frag):List V->Hp->VK->Prop:=fun xs H Q=>∃ (p:Addr) (ns:List Int),xs=[.ref p]/\SqL K H p (ns.map V.int)/\ns.length<=cap/\∀ l,H l=none->Q (.ref l) (upd H l (.set (fun k=>(ddp ns).any (·== k)) (ddp ns).length))
theorem zoi{n:Nat}(h:n<=cap):n+1<scanBound:=Nat.lt_of_le_of_lt (Nat.succ_le_succ h) (by decide)
theorem zkd(hc:X.calm=true):ykp X (.type "set") (yt6 X.K):=by
 intro pins s st H xs us Q I r h;obtain⟨p,ns,rfl,hq,hl,q⟩:=h;obtain⟨u,rfl,ru⟩:=ypx r;cases ru;obtain⟨its,rv,pl,hz⟩:=I.list hq;have el:its.length=ns.length:=by rw[<-rv.length,List.length_map]
 refine call_set_list (I.ok.hd hc) pl.isList (ns:=ns) (zib rv) (by rw[List.size_toArray,el];exact zoi hl) fun h' tk hs hk=>?_;rw[show its.toArray.size=ns.length by rw[List.size_toArray,el],zkq]at hs;refine⟨.ref s.heap.objs.size,_,I.laid (t':=tk) (o:=.set (fun k=>(ddp ns).any (·== k)) (ddp ns).length) (fun b o e=>hk b o (Heap.lt_size e) e) (Nat.le_refl _) ?_,rfl,q _ (I.hok.fresh (Nat.le_refl _))⟩;exact hs
theorem zka : ykp X (.builtin "len") (fun xs H Q => ∃ (p : Addr) (S : Int -> Bool) (n : Nat), xs = [.ref p] /\ H p = some (.set S n) /\ Q (.int n) H) := by
  intro pins s st H xs us Q I r h;obtain ⟨p, S, n, rfl, hp, q⟩ := h;obtain ⟨u, rfl, ru⟩ := ypx r;cases ru;obtain ⟨o, es, ep, t, h1, h2, h3, h4, h5, h6, h7, h8⟩ := (show ykv X.prog X.w H s.heap p (.set S n) from I.hok p _ hp)
  refine call_len_set h1 h2 h3 h7 (by have : scanBound <= 2 ^ 62 := by decide
                                      omega) ⟨.int n, H, I.tok _, ⟨_, by rw [h8]⟩, q⟩
theorem zk5{e:Expr}{f:Ev->M D}{p p2 pos pos2:Pos}(hK:T.K=X.K)(hc:X.calm=true)(hg:Gl X "len")(hm:X.mg "len" = none)(hg2:Gl X "set")(hm2:X.mg "set" = none)(he:FE T X e f)
  (hs:starEach [e] X.env=(false,eval e X.env)::starEach [] X.env:=by rfl) (hpl:(backTo pos2 (starEach [] X.env)).any (·.1)=false:=by rfl)
  (hs2:starEach [.Call (.Name "set" p2) [e] [] pos2] X.env=(false,eval (.Call (.Name "set" p2) [e] [] pos2) X.env)::starEach [] X.env:=by rfl) (hpl2:(backTo pos (starEach [] X.env)).any (·.1)=false:=by rfl) :
  FE T X (.Call (.Name "len" p) [.Call (.Name "set" p2) [e] [] pos2] [] pos) (eUn zzz f):=by
 intro pins s st H Q I h;refine zsa zka hg hm PySem.boot_len (yae (zmq (zkd hc) hg2 hm2 rfl (yae he yil hs) (by decide) (by decide) hs hpl) yil hs2) (by decide) (by decide) hs2 hpl2 pins s st H Q I ?_;obtain⟨μ,ρ,σ,hE,hr,hp⟩:=h;refine⟨μ,ρ,σ,hE,hr,hp.bind fun d σ1 μ1 v H1 _ e1 r1 q1 p1=>?_⟩;unfold zzz at p1;cases e2:(ysf σ1 d).bind ygf with
 |none=>rw[e2]at p1;exact p1.elim
 |some ns=>
  rw[e2]at p1;dsimp only at p1;by_cases hl:ns.length<=cap
  ·rw[if_pos hl]at p1;obtain⟨ys,e3,e4⟩:=Option.bind_eq_some_iff.mp e2;obtain⟨a,vs,rfl,h1,h2⟩:=r1.ls q1 e3;have ev:=zqd h2 e4;subst ev;refine⟨a,ns,rfl,SqL.of h1,hl,fun l hn=>?_⟩;exact⟨l,_,_,rfl,upd_same,p1 μ1 (.int (ddp ns).length) _ (zwh hn) (r1.fresh hn) (by rw[Rep])⟩
  ·rw[if_neg hl]at p1;exact p1.elim
def yre(xs:List D)(lo hi:Option Int):List D:=(xs.drop (HT.sIx xs.length 0 lo)).take (HT.sIx xs.length xs.length hi - HT.sIx xs.length 0 lo)
theorem zhx{xs:List D}{lo hi:Option Int}(h:HT.sIx xs.length 0 lo=0/\HT.sIx xs.length xs.length hi=xs.length):yre xs lo hi=xs:=by
 unfold yre;rw[h.1,h.2];simp
theorem zoq{μ:List Addr}{H:Hp}{xs:List D}{vs:List V}(r:yqs T μ H xs vs)(lo hi:Option Int):yqs T μ H (yre xs lo hi) (yrg vs lo hi):=by
 unfold yre yrg;rw[r.length];exact yqs.take _ (yqs.drop _ r)
end
end L4
namespace HT
open PySem PySem.Spec PyProof.Rows
variable{prog:Program}{w:World}{A:Around}{E:Value->Shared->Prop}{s:Shared}
theorem getItem_tuple_all{t sl:Addr}{items:Array Value}{vl vu:Value}{lo hi:Option Int}{Q:Value->Shared->Prop}(ht:IsTup s.heap t items)(hs:s.heap.IsSliceOf sl vl vu .none)(pl:IsPart vl lo)(pu:IsPart vu hi)
  (hw:sIx items.size 0 lo=0/\sIx items.size items.size hi=items.size) (h:Q (.ref t) s):wpAny (model prog w) A (getItem (.ref t) (.ref sl)) Q E s:=by
 obtain⟨os,hos,hcs,hds⟩:=id hs;have hTs:s.TypeIs (.ref sl) "slice":=⟨os,hos,hcs⟩
 unfold getItem;try with_reducible refine wpAny_holding ?_
 first|refine wpAny_bind (wpAny_pure ?_)|skip
 refine wpAny_bind (wpAny_sequenceKey ht.typeIs (by decide) ?_);refine wpAny_bind (wpAny_callSpecial?_slot (name:=Str.ofString "__getitem__") ht.typeIs PyProof.Rows.slot_tuple_getitem
  (wpAny_call_entry PyProof.Rows.slot_tuple_getitem ht.typeIs entry_tuple_getitem ?_ (args_tuple_getitem _ _)))
 show wpAny _ _ (Builtin.Tuple.tupleItemsOf (.ref t) >>= _) _ _ s;refine wpAny_bind (tupleItemsOf_ ht ?_);refine wpAny_bind (wpAny_typeOf hTs ?_);rw[if_pos (by decide)];refine wpAny_bind (zbv hs pl pu ?_);have hyes:(((sIx items.size 0 lo:Nat):Int) == 0 && (1:Int) == 1 && (sIx items.size items.size hi - sIx items.size 0 lo) == items.size)=true:=by
  rw[hw.1,hw.2];simp
 show wpAny _ _ (if (((sIx items.size 0 lo:Nat):Int) == 0 && (1:Int) == 1 && (sIx items.size items.size hi - sIx items.size 0 lo) == items.size)=true then _ else _) _ _ s;rw[if_pos hyes];obtain⟨o,ho,hc,hr⟩:=id ht;unfold Builtin.Tuple.tupleIsExact;refine wpAny_bind (wpAny_bind (wpAny_typeOf ht.typeIs ?_));refine wpAny_pure ?_;rw[if_pos (by decide)];refine wpAny_bind (wpAny_rule ?_);first
  |exact wpAny_pure ⟨_,rfl,wpAny_pure h⟩
  |exact wpAny_pure (wpAny_pure ⟨_,rfl,wpAny_pure h⟩)
  |exact wpAny_bind (wpAny_pure (wpAny_pure ⟨_,rfl,wpAny_pure h⟩))
end HT
namespace L4
open PySem PySem.Spec PyProof.Rows L2
section
variable{T:Tb}{X:Cx}
def yt7(K:PySem.W.Frag):V->Option Int->Option Int->Hp->VK->Prop:=fun x lo hi H Q=>∃ a xs,x=.ref a/\SqT K H a xs/\(HT.sIx xs.length 0 lo=0/\HT.sIx xs.length xs.length hi=xs.length)/\Q (.ref a) H
theorem yjo:SlR X (yt7 X.K):=by
 intro pins s st H x v vl vu lo hi sl Q I rx hs pl pu h;obtain⟨a,xs,rfl,hx,hw,q⟩:=h;cases rx;obtain⟨its,r,ht,hz⟩:=I.tuple hx;have hlen:its.toArray.size=xs.length:=by rw[List.size_toArray];exact r.length.symm
 exact⟨"tuple",_,PyProof.Rows.slot_tuple_getitem.lookup,ht.typeIs,HT.getItem_tuple_all ht hs pl pu (by rw[hlen];exact hw) ⟨.ref a,H,I,rfl,q⟩⟩
abbrev PF:=Option (Ev->M D)
def yoc(d:D):M (Option Int):=match d with
 | .int i=>ret (some i)
 |_=>bad
def yl0(p:PF):Ev->M (Option Int):=match p with
 |none=>fun _=>ret none
 |some f=>fun ρ=>bnd (f ρ) yoc
def tP(T:Tb)(X:Cx)(f:Ev->M (Option Int)):TO:=fun st H Q=>∃ μ ρ σ,yp6 T μ H ρ st/\Rel T μ H σ/\yqm T (XE X st) (fun _ _ a b=>b=a) μ H (f ρ σ) Q
abbrev FO(T:Tb)(X:Cx)(e:Option Expr)(p:PF):Prop:=PO X e (tP T X (yl0 p))
theorem zw1:FO T X none none:=by
 intro pins s st H Q I h;obtain⟨μ,ρ,σ,hE,hr,hp⟩:=h;exact yaq pins s st H Q I (yqm.here hp hr rfl)
theorem zw2{e:Expr}{f:Ev->M D}(he:FE T X e f):FO T X (some e) (some f):=by
 intro pins s st H Q I h;refine yar he pins s st H Q I ?_;obtain⟨μ,ρ,σ,hE,hr,hp⟩:=h;refine⟨μ,ρ,σ,hE,hr,yqm.bind hp fun d σ1 μ1 v H1 _ e1 r1 q1 p1=>?_⟩;cases d with
 |int i=>exact⟨i,yge q1,yqm.here p1 r1 rfl⟩
 |_=>exact p1.elim
def yrf(x:D)(lo hi:Option Int):M D:=fun σ=>match x with
 | .tup xs=>.ok (.tup (yre xs lo hi)) σ
 | .scr ns=>.ok (.lst (yre (ns.map D.int) lo hi)) σ
 |x=>(match ysf σ x with
  |some xs=>.ok (.lst (yre xs lo hi)) σ
  |none=>.bad)
def yux(x:D)(lo:Option Int)(hi:Option Int):M D:=yrf x lo hi
def yuw(x:D)(hi:M (Option Int))(lo:Option Int):M D:=bnd hi (yux x lo)
def yuv(lo hi:M (Option Int))(x:D):M D:=bnd lo (yuw x hi)
def eSl(f:Ev->M D)(lo hi:PF):Ev->M D:=fun ρ=>bnd (f ρ) (yuv (yl0 lo ρ) (yl0 hi ρ))
theorem zpm{e:Expr}{lo hi:Option Expr}{f:Ev->M D}{pl ph:PF}{pos p2:Pos}(hK:T.K=X.K)(he:FE T X e f)(hl:FO T X lo pl)(hh:FO T X hi ph):FE T X (.Subscript e (.Slice lo hi none p2) pos) (eSl f pl ph):=by
 intro pins s st H Q I h;refine zse (SlR.or yjp (SlR.or yjo yb7)) he hl hh pins s st H Q I ?_;obtain⟨μ,ρ,σ,hE,hr,hp⟩:=h;refine⟨μ,ρ,σ,hE,hr,hp.bind fun d σ1 μ1 v H1 _ e1 r1 q1 p1=>⟨μ1,ρ,σ1,hE.mono e1,r1,p1.bind fun l σ2 μ2 l' H2 _ e2 r2 q2 p2=>⟨μ2,ρ,σ2,(hE.mono e1).mono e2,r2,p2.bind fun u σ3 μ3 u' H3 _ e3 r3 q3 p3=>?_⟩⟩⟩;have q2':l'=l:=q2;have q3':u'=u:=q3;subst q2';subst q3';have rd:Rep T μ3 H3 d v:=Rep.mono e3 _ _ (Rep.mono e2 _ _ q1);have lists:∀ ys,ysf σ3 d=some ys->yqm T (XE X st) (Rep T) μ3 H3 (.ok (.lst (yre ys l' u')) σ3) Q->yt9 X.K v l' u' H3 Q\/yt7 X.K v l' u' H3 Q\/yt8 X.K v l' u' H3 Q:=fun ys ey p4=>by
  obtain⟨a,vs,rfl,h1,h2⟩:=r3.ls rd ey;exact .inr (.inr ⟨a,vs,rfl,SqL.of h1,fun p hn=>yhk p4 r3 (zoq h2 l' u') hn⟩)
 cases d with
 |tup xs=>
  have rd0:=rd;rw[Rep]at rd;obtain⟨p,vs,rfl,h1,h2⟩:=rd;by_cases hw:HT.sIx vs.length 0 l'=0/\HT.sIx vs.length vs.length u'=vs.length
  ·refine .inr (.inl ⟨p,vs,rfl,SqT.of h1,hw,yqm.here (d:=D.tup (yre xs l' u')) p3 r3 ?_⟩);rw[zhx (by rw[h2.length];exact hw)];exact rd0
  ·exact .inl ⟨p,vs,rfl,SqT.of h1,hw,fun q hn=>zzk p3 r3 (zoq h2 l' u') hn⟩
 |ref n=>
  unfold yux yrf at p3;dsimp only at p3;cases ey:ysf σ3 (.ref n)with
  |none=>rw[ey]at p3;exact p3.elim
  |some ys=>rw[ey]at p3;exact lists ys ey p3
 |lst ys=>exact lists ys rfl p3
 |scr ns=>
  rw[Rep]at rd;obtain⟨p,rfl,h1⟩:=rd;have h2:=h1.seq;rw[hK]at h2;exact .inr (.inr ⟨p,_,rfl,h2,fun p hn=>yhk p3 r3 (zoq (zmy ns) l' u') hn⟩)
 |_=>exact p3.elim
def mnL(bs:List Int):Int:=bs.foldl min (bs.getD 0 0)
theorem zk8:∀ (bs:List Int) (c:Int),(bs.foldl min c<=c/\∀ b∈bs,bs.foldl min c<=b)/\(bs.foldl min c=c\/bs.foldl min c∈bs)
 |[],c=>by simp
 |b::bs,c=>by
  obtain⟨⟨h1,h2⟩,h3⟩:=zk8 bs (min c b);rw[List.foldl_cons];refine⟨⟨by omega,fun x hx=>?_⟩,?_⟩
  ·rcases List.mem_cons.mp hx with rfl|hx
   ·omega
   ·exact h2 x hx
  ·rcases h3 with h3|h3
   ·rw[h3,Int.min_def];split
    ·exact .inl rfl
    ·exact .inr List.mem_cons_self
   ·exact .inr (List.mem_cons_of_mem _ h3)
theorem yhg{bs:List Int}{i:Nat}(hi:i<bs.length)(h:∀ j,j<bs.length->bs.getD i 0<=bs.getD j 0):bs.getD i 0=mnL bs:=by
 have hm:∀ j,j<bs.length->bs.getD j 0∈bs:=fun j hj=>by rw[List.getD_eq_getElem?_getD,List.getElem?_eq_getElem hj];exact List.getElem_mem hj
 have h0:0<bs.length:=by omega
 obtain⟨⟨h1,h2⟩,h3⟩:=zk8 bs (bs.getD 0 0);have a:=h2 _ (hm i hi);have b:bs.getD i 0<=mnL bs:=by
  rcases h3 with h3|h3
  ·show _<=bs.foldl min (bs.getD 0 0);rw[h3];exact h 0 h0
  ·obtain⟨j,hj,e⟩:=List.getElem_of_mem h3;have:=h j hj;rw[List.getD_eq_getElem?_getD (i:=j),List.getElem?_eq_getElem hj]at this;show _<=bs.foldl min (bs.getD 0 0);rw[<-e];exact this
 exact Int.le_antisymm b a
def yt3(K:PySem.W.Frag)(f:List Int->Int):List V->Hp->VK->Prop:=fun xs H Q=>∃ (p:Addr) (bs:List Int),xs=[.ref p]/\(SqL K H p (bs.map V.int)\/SqT K H p (bs.map V.int))/\0<bs.length/\Q (.int (f bs)) H
theorem zxv{bs:List Int}{its:List Value}{i:Nat}{v:Value}(rv:yqx (bs.map V.int) its)(hv:its.toArray[i]?=some v):∃ t,v=Value.int (bs.getD i 0) t:=by
 simp only[List.getElem?_toArray]at hv;obtain⟨x,h1,h2⟩:=zuj rv hv;rw[List.getElem?_map]at h1;cases e:bs[i]? with
 |none=>rw[e]at h1;cases h1
 |some b=>
  rw[e]at h1;cases h1;obtain⟨t,rfl⟩:=h2;exact⟨t,by show Value.int b t=Value.int (bs.getD i 0) t;rw[List.getD_eq_getElem?_getD,e];rfl⟩
theorem zkc(hc:X.calm=true):ykp X (.builtin "min") (yt3 X.K mnL):=by
 intro pins s st H xs us Q I r h;obtain⟨p,bs,rfl,hq,h0,q⟩:=h;obtain⟨u,rfl,ru⟩:=ypx r;cases ru;refine call_min_walk (zul (I.ok.hd hc) I hq fun its It fp St s2 rv W hz hf hI=>?_);have el:its.toArray.size=bs.length:=by rw[List.size_toArray,<-rv.length,List.length_map]
 refine⟨_,_,_,_,_,_,_,rfl,W,hz,hf,by omega,CmpOf.ints_lt (fun i=>bs.getD i 0) (fun i v hv=>zxv rv hv),fun v h' tk hv hk=>?_⟩;obtain⟨t,rfl⟩:=zxv rv hv;obtain⟨b1,b2⟩:=argBest_lt (fun i=>bs.getD i 0) (its.toArray.size - 1);refine⟨.int (mnL bs),H,hI h' tk hk,⟨t,?_⟩,q⟩;rw[yhg (i:=argBest (fun i j=>decide (bs.getD i 0<bs.getD j 0)) (its.toArray.size - 1)) (by omega) (fun j hj=>b2 j (by omega))]
def ys6(f:List Int->Int)(xs:List D):M D:=fun σ=>match xs with
 |[x]=>(match (yo5 σ x).bind ygf with
  |some (b::bs)=>.ok (.int (f (b::bs))) σ
  |_=>.bad)
 |_=>.bad
theorem ych{f:List Int->Int}(hK:T.K=X.K):zuq T (yt3 X.K f) (ys6 f):=by
 intro E μ H σ xs vs Q r p h
 match xs with
 |[]=>exact h.elim
 |[x]=>
  rw[yqs]at p;obtain⟨v,w,rfl,p1,p2⟩:=p;rw[yqs]at p2;subst p2;unfold ys6 at h;cases e:(yo5 σ x).bind ygf with
  |none=>simp only[e]at h;exact h.elim
  |some bs=>
   cases bs with
   |nil=>simp only[e]at h;exact h.elim
   |cons b bs=>
    simp only[e]at h;obtain⟨ys,e1,e2⟩:=ztd e;obtain⟨a,vs,rfl,h1,h2⟩:=ybw r p1 e1;rw[hK,zqd h1 e2]at h2;exact⟨a,b::bs,rfl,h2,by simp,yqm.here h r (by rw[Rep])⟩
 |_::_::_=>exact h.elim
end
def ydi(K:PySem.W.Frag)(mg:Str->Option Value)(x:Str)(st:Stmt)(ps:List Str)(dv:List Value):Prop:=
 ∃ f fd,mg x=some (.ref f)/\PySem.W.keepIn K (.ref f)=true/\(∃ (oc:Value) (od:Option Addr) (dV kV doc pm:Value) (an:Option Addr) (cdv ct:Value) (osl:Array (Option Value)),
  fd=PySem.W.fnOf x x (zvu st) (zvv st) (zot st) dV kV doc pm an cdv ct/\K.lookup f=some ⟨oc,od,.func fd,osl⟩/\PySem.W.codeIn K cdv x=true)/\yko K fd ps []/\yko K fd ps dv
def OkD(T:Tb)(P:Program)(w:World)(mg:Str->Option Value)(base:Heap)(k:Nat)(x:Str)(ps:List Str)(dv:List Value)(fn:List D->M D):Prop:=
 ∃ f fd,mg x=some (.ref f)/\PySem.W.keepIn T.K (.ref f)=true/\yko T.K fd ps []/\yko T.K fd ps dv/\FnOk P w T.K mg base (CXE P w) k f fd ps (spF T ps.length fn)
section
variable{T:Tb}{X:Cx}
theorem zk3{k:Nat}{ps:List Str}{dv:List Value}{dds:List D}{dvs:List V}{fn:List D->M D}{x:Str}{p pos:Pos}{e:Expr}{es:List Expr}{fs:Ev->M (List D)}(h:OkD T X.prog X.w X.mg X.base k x ps dv fn)(hK:T.K=X.K)(hr:Room k X.A)(hg:Gl X x)(hv:yqx dvs dv)(hdd:∀ μ H,yqs T μ H dds dvs)
  (ha:FA T X (e::es) fs) (hdb:(x == ("__debug__" : Str))=false:=by decide) (he:starEach (e::es) X.env=(false,eval e X.env)::starEach es X.env:=by rfl) (hpl:(backTo pos (starEach es X.env)).any (·.1)=false:=by rfl) :
  FE T X (.Call (.Name x p) (e::es) [] pos) (eFn ps.length fn dds fs):=by
 obtain⟨f,fd,hm,hk,_,hb,hF⟩:=h;rw[hK]at hk hF hb;exact zwn (dds:=dds) (dvs:=dvs) hF hr hg hm hk hb hv hdd ha hdb he hpl
theorem zuk:yqx [V.non] [Value.none]:=.cons rfl .nil
theorem zsz{T:Tb}(μ:List Addr)(H:Hp):yqs T μ H [D.non] [V.non]:=yqs.cons (by rw[Rep]) yqs.nil
variable{P:Program}{w:World}{K:PySem.W.Frag}{mg:Str->Option Value}{base:Heap}{ca:Nat->Addr}
theorem yh2{k:Nat}{x:Str}{st:Stmt}{ps N:List Str}{dv:List Value}{g:Ev->M Fl}(h:ydi K mg x st ps dv)(S:FnScope N ps (zot st))
  (hb:∀ (f:Addr) (cdv:Value) (A:Around) (outer:List Env) (s:Shared) (H:Hp) (E:XK),Room k (A.deeper (envOfC x (zot st) s.heap.objs.size f cdv))->FSs ⟨K,ca⟩ (yrh (CXE P w) P w K mg base N x (zot st) f cdv A outer s H E) (zvv st) g) :
  OkD ⟨K,ca⟩ P w mg base (k+1) x ps dv (run N.length g):=by
 obtain⟨f,fd,hm,hk,⟨oc,od,dV,kV,doc,pm,an,cdv,ct,osl,rfl,lk,hcd⟩,b0,b1⟩:=h;exact⟨f,_,hm,hk,b0,b1,fok lk hcd S (hb f cdv)⟩
theorem OkD.frz{k:Nat}{x:Str}{ps:List Str}{dv:List Value}{fn:List D->M D}(h:OkD T P w mg base k x ps dv fn):OkD T P w mg base k x ps dv (fun ds=>L4.frz (fn ds)):=by
 obtain⟨f,fd,h1,h2,h3,h4,h5⟩:=h;exact⟨f,fd,h1,h2,h3,h4,zw3 h5⟩
theorem ysk{h:Heap}{x:Str}{st:Stmt}{ps:List Str}{f t:Addr}{dv:List Value}{oc toc:Value}{od an tod:Option Addr}{osl tsl:Array (Option Value)}{kV doc pm cdv ct:Value}{tn:Nat}(X:K.In h)(G:h.Ns mainGlobals mg)
  (hb:∀ (t:Addr) (kV doc pm:Value) (an:Option Addr) (cdv ct:Value) (s:Shared) (o:Obj) (n:Nat) (us:List Value),s.heap.get? t=some o->o.data=.seq dv.toArray n->((us++[]).length=ps.length->BindsTo s (PySem.W.fnOf x x (zvu st) (zvv st) (zot st) (.ref t) kV doc pm an cdv ct) ⟨us,[]⟩ (ps.zip (us++[])))/\
   ((us++dv).length=ps.length->BindsTo s (PySem.W.fnOf x x (zvu st) (zvv st) (zot st) (.ref t) kV doc pm an cdv ct) ⟨us,[]⟩ (ps.zip (us++dv))))
  (a:PySem.W.nsIn K mainGlobals x=some (some (.ref f))) (l:K.lookup f=some ⟨oc,od,.func (PySem.W.fnOf x x (zvu st) (zvv st) (zot st) (.ref t) kV doc pm an cdv ct),osl⟩)
  (c:PySem.W.codeIn K cdv x=true) (k:PySem.W.keepIn K (.ref f)=true) (d:K.lookup t=some ⟨toc,tod,.seq dv.toArray tn,tsl⟩):ydi K mg x st ps dv:=
 ⟨f,_,PySem.W.mg_of X G a,k,⟨oc,od,_,kV,doc,pm,an,cdv,ct,osl,rfl,l,c⟩,fun s us KX hl=>(hb t kV doc pm an cdv ct s _ tn us (KX _ _ d) rfl).1 hl,fun s us KX hl=>(hb t kV doc pm an cdv ct s _ tn us (KX _ _ d) rfl).2 hl⟩
end
def yr5(l:List (Nat × Bool)):Nat->Option Bool:=fun c=>l.lookup c
abbrev veB:List Value:=[.type "ValueError",.type "Exception",.type "BaseException",.type "object"]
def yqa(K:PySem.W.Frag)(ca:Nat->Addr)(cv:Value)(l:List (Nat × Bool)):Prop:=∀ p∈l,PySem.W.exmOne K (.ref (ca p.1)) cv=some p.2
theorem ygc{K:PySem.W.Frag}{ca:Nat->Addr}{cv:Value}:yqa K ca cv []:=fun _ h=>nomatch h
theorem zxr{K:PySem.W.Frag}{ca:Nat->Addr}{cv:Value}{c:Nat}{b:Bool}{l:List (Nat × Bool)}(h:PySem.W.exmOne K (.ref (ca c)) cv=some b)(r:yqa K ca cv l):yqa K ca cv ((c,b)::l):=fun p hp=>by
 rcases List.mem_cons.mp hp with rfl|hp
 ·exact h
 ·exact r p hp
theorem yg2:∀ {l:List (Nat × Bool)} {c:Nat} {b:Bool},l.lookup c=some b->(c,b)∈l
 |[],_,_,h=>by simp at h
 |(n,d)::r,c,b,h=>by
  rw[List.lookup_cons]at h;cases e:c == n with
  |true=>rw[e]at h;cases h;rw[eq_of_beq e];exact List.mem_cons_self
  |false=>rw[e]at h;exact List.mem_cons_of_mem _ (yg2 h)
theorem ymq{K:PySem.W.Frag}{ca:Nat->Addr}{cv:Value}{l:List (Nat × Bool)}(h:yqa K ca cv l):∀ c b,yr5 l c=some b->PySem.W.exmOne K (.ref (ca c)) cv=some b:=fun c b e=>h (c,b) (yg2 e)
def ytd(x y:D):M D:=fun σ=>match y with
 | .int k=>(match ysf σ x with
  |some xs=>if (decide (0<=k) && decide (k<=1000) && decide (xs.length * k.toNat<=cap))=true then .ok (.lst (List.replicate k.toNat xs).flatten) σ else .bad
  |none=>.bad)
 |_=>.bad
theorem zs0{T:Tb}{μ:List Addr}{H:Hp}{xs:List D}{vs:List V}(r:yqs T μ H xs vs):∀ n,yqs T μ H (List.replicate n xs).flatten (List.replicate n vs).flatten
 |0=>yqs.nil
 |n+1=>by rw[List.replicate_succ,List.replicate_succ,List.flatten_cons,List.flatten_cons];exact yqs.append r (zs0 r n)
theorem yad{T:Tb}{X:Cx}:OpR X (binaryOp .Mult) (rD T ytd):=by
 intro pins s st H v u v' u' Q I rv ru h;obtain⟨E,μ,σ,x,y,r,hx,hy,hp⟩:=h;unfold ytd at hp;cases y with
 |int k=>
  dsimp only at hp;cases e:ysf σ x with
  |none=>rw[e]at hp;exact hp.elim
  |some xs=>
   rw[e]at hp;dsimp only at hp;by_cases hc:(decide (0<=k) && decide (k<=1000) && decide (xs.length * k.toNat<=cap))=true
   ·rw[if_pos hc]at hp;simp only[Bool.and_eq_true,decide_eq_true_eq]at hc;obtain⟨a,vs,rfl,h1,h2⟩:=r.ls hx e;exact yii pins s st H _ _ v' u' Q I rv ru ⟨a,k,vs,rfl,yge hy,h1,by omega,by omega,by rw[<-h2.length];exact yd2 hc.2,fun l hl=>yhk hp r (zs0 h2 k.toNat) hl⟩
   ·rw[if_neg hc]at hp;exact hp.elim
 |_=>exact hp.elim
theorem OkF.hide{T:Tb}{P:Program}{w:World}{mg:Str->Option Value}{base:Heap}{k:Nat}{x:Str}{ps:List Str}{fn:List D->M D}(h:OkF T P w mg base k x ps fn):OkF T P w mg base k x ps (L4.hide fn):=by rw[zxo];exact h
theorem OkD.hide{T:Tb}{P:Program}{w:World}{mg:Str->Option Value}{base:Heap}{k:Nat}{x:Str}{ps:List Str}{dv:List Value}{fn:List D->M D}(h:OkD T P w mg base k x ps dv fn):OkD T P w mg base k x ps dv (L4.hide fn):=by rw[zxo];exact h
section
variable{T:Tb}{X:Cx}{μ:List Addr}{H:Hp}{σ:Sto}
def ymv(σ:Sto):D->Option (Nat × List (Str × D))
 | .obj c ns ds=>if ns.length=ds.length then some (c,ns.zip ds)else none
 | .ref n=>match σ[n]? with
  |some (.ins c fs)=>some (c,fs)
  |_=>none
 |_=>none
theorem zss:∀ {ns:List Str} {ds:List D} {fs:List (Str × V)},fs.map (·.1)=ns->yqs T μ H ds (fs.map (·.2))->yqq T μ H (ns.zip ds) fs
 |[],ds,[],_,h=>by
  rw[List.map_nil]at h;cases ds with
  |nil=>exact Paired.nil
  |cons d ds=>have:=h.length;simp at this
 |[],ds,f::fs,e,_=>by simp at e
 |n::ns,ds,[],e,_=>by simp at e
 |n::ns,[],f::fs,e,h=>by have:=h.length;simp at this
 |n::ns,d::ds,f::fs,e,h=>by
  simp only[List.map_cons,List.cons.injEq]at e;rw[List.map_cons,yqs]at h;obtain⟨v,r,e2,h1,h2⟩:=h;simp only[List.cons.injEq]at e2;obtain⟨e3,e4⟩:=e2;subst e4;exact Paired.cons ⟨e.1.symm,by rw[e3];exact h1⟩ (zss e.2 h2)
theorem zxu(r:Rel T μ H σ){d:D}{v:V}{c:Nat}{fs:List (Str × D)}(h:Rep T μ H d v)(e:ymv σ d=some (c,fs)):∃ a dx vs,v=.ref a/\H a=some (.ins (T.ca c) dx vs)/\yqq T μ H fs vs:=by
 cases d with
 |obj c' ns ds=>
  unfold ymv at e;by_cases hl:ns.length=ds.length
  ·simp only[hl,if_true,Option.some.injEq,Prod.mk.injEq]at e;obtain⟨rfl,rfl⟩:=e;rw[Rep]at h;obtain⟨a,dx,vs,rfl,_,h3,h4,h5⟩:=h;exact⟨a,dx,vs,rfl,h3,zss h4 h5⟩
  ·simp[hl]at e
 |ref n=>
  unfold ymv at e;dsimp only at e;cases es:σ[n]? with
  |none=>rw[es]at e;cases e
  |some o=>
   rw[es]at e;obtain⟨a,rfl,_,h2⟩:=r.at h es;cases o with
   |ins c' fs'=>cases e;obtain⟨dx,vs,h3,h4⟩:=h2;exact⟨a,dx,vs,rfl,h3,h4⟩
   |lst _=>cases e
   |dic _=>cases e
 |_=>cases e
theorem zq2{f:Str}:∀ {fs:List (Str × D)} {vs:List (Str × V)},yqq T μ H fs vs->(∀ d,fs.lookup f=some d->∃ v,vs.lookup f=some v/\Rep T μ H d v)/\(fs.lookup f=none->vs.lookup f=none)
 |_,_,.nil=>⟨fun d e=>by simp at e,fun _=>rfl⟩
 |(g,x)::fs,(g',v)::vs,.cons ⟨e,h⟩ t=>by
  have e':g=g':=e;subst e';obtain⟨h1,h2⟩:=zq2 t;by_cases hg:(f == g)=true
  ·refine⟨fun d q=>?_,fun q=>?_⟩
   ·rw[List.lookup_cons,hg]at q;cases q;exact⟨v,by rw[List.lookup_cons,hg],h⟩
   ·rw[List.lookup_cons,hg]at q;cases q
  ·have hg':(f == g)=false:=by simpa using hg
   refine⟨fun d q=>?_,fun q=>?_⟩
   ·rw[List.lookup_cons,hg']at q;obtain⟨w,q1,q2⟩:=h1 d q;exact⟨w,by rw[List.lookup_cons,hg'];exact q1,q2⟩
   ·rw[List.lookup_cons,hg']at q;rw[List.lookup_cons,hg'];exact h2 q
def ykr(T:Tb)(cs:List Nat)(f:Str):Prop:=∀ c,cs.contains c=true->Cls T.K (T.ca c)/\ydj T.K (T.ca c) f
theorem zwz{f:Str}:ykr T [] f:=fun c h=>by simp at h
theorem zpu{f:Str}{c:Nat}{cs:List Nat}(h1:Cls T.K (T.ca c))(h2:ydj T.K (T.ca c) f)(h:ykr T cs f):ykr T (c::cs) f:=fun d hd=>by
 rw[List.contains_cons,Bool.or_eq_true,beq_iff_eq]at hd;rcases hd with rfl|hd
 ·exact⟨h1,h2⟩
 ·exact h d hd
def ysz(cs:List Nat)(f:Str)(x:D):M D:=fun σ=>match ymv σ x with
 |some (c,fs)=>if cs.contains c=true then (match fs.lookup f with
  |some d=>.ok d σ
  |none=>.bad)else .bad
 |none=>.bad
theorem ye9{e:Expr}{f:Str}{g:Ev->M D}{pos:Pos}{cs:List Nat}(hK:T.K=X.K)(hc:ykr T cs f)(he:FE T X e g)
  (hb:attributeBase e f X.env (eval e X.env)=eval e X.env:=by rfl):FE T X (.Attribute e f pos) (eUn (ysz cs f) g):=by
 intro pins s st H Q I h;refine yio he hb pins s st H Q I ?_;obtain⟨μ,ρ,σ,hE,hr,hp⟩:=h;refine⟨μ,ρ,σ,hE,hr,yqm.bind hp fun d σ1 μ1 v H1 _ e1 r1 q1 p1=>?_⟩;unfold ysz at p1;cases ei:ymv σ1 d with
 |none=>rw[ei]at p1;exact p1.elim
 |some p=>
  obtain⟨c,fs⟩:=p;rw[ei]at p1;dsimp only at p1;by_cases hcc:cs.contains c=true
  ·rw[if_pos hcc]at p1;obtain⟨a,dx,vs,rfl,h1,h2⟩:=zxu r1 q1 ei;cases el:fs.lookup f with
   |none=>rw[el]at p1;exact p1.elim
   |some y=>
    rw[el]at p1;obtain⟨w,h3,h4⟩:=(zq2 h2).1 y el;obtain⟨k1,k2⟩:=hc c hcc;rw[hK]at k1 k2;exact⟨a,_,dx,vs,w,rfl,h1,k1,k2,h3,yqm.here p1 r1 h4⟩
  ·rw[if_neg hcc]at p1;exact p1.elim
def ytp(f:Str)(v:D):List (Str × D)->List (Str × D)
 |[]=>[(f,v)]
 |(g,x)::r=>if g=f then (g,v)::r else (g,x)::ytp f v r
theorem ya1{f:Str}{d:D}{v:V}(hd:Rep T μ H d v):∀ {fs:List (Str × D)} {vs:List (Str × V)},yqq T μ H fs vs->yqq T μ H (ytp f d fs) (ytq f v vs)
 |_,_,.nil=>Paired.cons ⟨rfl,hd⟩ Paired.nil
 |(g,x)::fs,(g',w)::vs,.cons ⟨e,h⟩ t=>by
  have e':g=g':=e;subst e';unfold ytp ytq;by_cases hg:g=f
  ·rw[if_pos hg,if_pos hg];exact Paired.cons ⟨rfl,hd⟩ t
  ·rw[if_neg hg,if_neg hg];exact Paired.cons ⟨rfl,h⟩ (ya1 hd t)
theorem yqq.mono{μ':List Addr}{H':Hp}(e:Ext μ H μ' H'){fs:List (Str × D)}{vs:List (Str × V)}(h:yqq T μ H fs vs):yqq T μ' H' fs vs:=Paired.mapP h fun _ _ q=>⟨q.1,Rep.mono e _ _ q.2⟩
theorem yqq.length{fs:List (Str × D)}{vs:List (Str × V)}(h:yqq T μ H fs vs):fs.length=vs.length:=Paired.length h
def ytc(cs:List Nat)(f:Str)(d x:D):M Unit:=fun σ=>match x with
 | .ref n=>(match σ[n]? with
  |some (.ins c fs)=>if (cs.contains c && decide (fs.length<1000))=true then .ok () (σ.set n (.ins c (ytp f d fs)))else .bad
  |_=>.bad)
 |_=>.bad
def yom(ρ:Ev)(cs:List Nat)(f:Str)(d x:D):M Fl:=fun σ=>match ytc cs f d x σ with
 | .ok _ σ'=>.ok (.nx ρ) σ'
 |_=>.bad
def yol(ρ:Ev)(cs:List Nat)(f:Str)(fo:Ev->M D)(d:D):M Fl:=xs ρ (fo ρ) (yom ρ cs f d)
def yun(cs:List Nat)(f:Str)(fv fo:Ev->M D):Ev->M Fl:=fun ρ=>xs ρ (fv ρ) (yol ρ cs f fo)
theorem yfw{o value:Expr}{f:Str}{fv fo:Ev->M D}{pos pos':Pos}{cs:List Nat}(hK:T.K=X.K)(hc:ykr T cs f)(ho:FE T X o fo)(hv:FE T X value fv)
  (hs:swapsWith value (some (.Attribute o f pos')) pos.line X.env=pure false:=by rfl):FS T X (.Assign [.Attribute o f pos'] value pos) (yun cs f fv fo):=by
 intro pins s st H D I hq;refine yi2 ho hv hs pins s st H D I ?_;obtain⟨μ,ρ,σ,hE,hr,hp⟩:=hq;refine⟨μ,ρ,σ,hE,hr,hp.xs hE fun d σ1 μ1 v H1 _ e1 r1 q1 p1=>?_⟩;refine⟨μ1,ρ,σ1,hE.mono e1,r1,p1.xs (hE.mono e1) fun x σ2 μ2 vo H2 _ e2 r2 q2 p2=>?_⟩;have hd:=Rep.mono e2 _ _ q1;unfold yom ytc at p2;cases x with
 |ref n=>
  dsimp only at p2;cases el:σ2[n]? with
  |none=>rw[el]at p2;exact p2.elim
  |some ob=>
   rw[el]at p2;cases ob with
   |lst _=>exact p2.elim
   |dic _=>exact p2.elim
   |ins c fs=>
    dsimp only at p2;by_cases hcc:(cs.contains c && decide (fs.length<1000))=true
    ·rw[if_pos hcc]at p2;rw[Bool.and_eq_true,decide_eq_true_eq]at hcc;obtain⟨a,rfl,hn,dx,vs,h1,h2⟩:=r2.at q2 el;have ex:Ext μ2 H2 μ2 (upd H2 a (.ins (T.ca c) dx (ytq f v vs))):=zk1 (List.mem_of_getElem? hn) h1 (fun _ z=>by cases z) (fun _ _ z=>by cases z);have wr:=r2.write (o:=.ins (T.ca c) dx (ytq f v vs)) (ob:=.ins c (ytp f d fs)) hn ⟨dx,_,upd_same,ya1 (Rep.mono ex _ _ hd) (yqq.mono ex h2)⟩;obtain⟨k1,k2⟩:=hc c hcc.1;rw[hK]at k1 k2;exact⟨a,_,dx,vs,rfl,h1,k1,k2,by rw[<-h2.length];exact hcc.2,p2 _ (.nx st) _ wr.1 wr.2 ((hE.mono e1).mono e2 |>.mono wr.1)⟩
    ·rw[if_neg hcc]at p2;exact p2.elim
 |_=>exact p2.elim
def ynu(n:Nat):Out D->Out D
 | .ok .non σ'=>.ok (.ref n) σ'
 | .ok _ _=>.bad
 | .ex x σ'=>.ex x σ'
 | .bad=>.bad
def ynj(c n:Nat)(fn:List D->M D)(ds:List D):M D:=fun σ=>if ds.length+1=n then ynu σ.length (fn (.ref σ.length::ds) (σ++[.ins c []]))else .bad
def yly(c n:Nat)(fn:List D->M D)(fs:Ev->M (List D)):Ev->M D:=fun ρ=>bnd (fs ρ) (ynj c n fn)
def OkA(T:Tb)(P:Program)(w:World)(mg:Str->Option Value)(base:Heap)(k:Nat)(f:Addr)(ps:List Str)(fn:List D->M D):Prop:=
 ∃ fd,(∀ us:List Value,us.length=ps.length->bindArgs fd ⟨us,[]⟩=pure (ps.zip us))/\FnOk P w T.K mg base (CXE P w) k f fd ps (spF T ps.length fn)
def OkC(T:Tb)(P:Program)(w:World)(mg:Str->Option Value)(base:Heap)(k:Nat)(x:Str)(c:Nat)(ps:List Str)(fn:List D->M D):Prop:=
 ∃ f,mg x=some (.ref (T.ca c))/\Mk T.K (T.ca c) f/\OkA T P w mg base k f ps fn
theorem zl8{E:XK}{c:Nat}{ps:List Str}{fn:List D->M D}{ds:List D}{vs:List V}{Q:VK}(r:Rel T μ H σ)(q:yqs T μ H ds vs)(p:yqm T E (Rep T) μ H (ynj c ps.length fn ds σ) Q) :
  ∀ x dx,H x=none->H dx=none->dx≠x->spF T ps.length fn (.ref x::(vs++[])) (upd (upd H dx (.own x)) x (.ins (T.ca c) dx [])) (fun v H2=>v=.non/\Q (.ref x) H2) E:=by
 intro x dx hx hdx hne;unfold ynj at p;by_cases hl:ds.length+1=ps.length
 ·rw[if_pos hl]at p;have ex1:Ext μ H μ (upd H dx (.own x)):=zwh hdx;have r1:Rel T μ (upd H dx (.own x)) σ:=r.fresh hdx;have hx1:upd H dx (.own x) x=none:=by unfold upd;rw[if_neg (Ne.symm hne)];exact hx
  have ex2:Ext μ (upd H dx (.own x)) (μ++[x]) (upd (upd H dx (.own x)) x (.ins (T.ca c) dx [])):=zpd hx1;have r2:Rel T (μ++[x]) (upd (upd H dx (.own x)) x (.ins (T.ca c) dx [])) (σ++[.ins c []]):=r1.push hx1 ⟨dx,[],upd_same,Paired.nil⟩;refine⟨μ++[x],σ++[.ins c []],.ref σ.length::ds,yqs.cons (zsw r1) (by rw[List.append_nil];exact yqs.mono (ex1.trans ex2) _ _ q),by rw[List.length_cons];exact hl,r2,?_⟩;cases e:fn (.ref σ.length::ds) (σ++[.ins c []])with
  |bad=>rw[e]at p;exact p.elim
  |ex y σ'=>rw[e]at p;exact fun μ' H' e' r'=>p μ' H' ((ex1.trans ex2).trans e') r'
  |ok d σ'=>
   rw[e]at p;intro μ' v H' e' r' q';have hv:d=.non:=by cases d<;>first|rfl|exact p.elim
   subst hv;rw[Rep]at q';refine⟨q',p μ' (.ref x) H' ((ex1.trans ex2).trans e') r' ?_⟩;exact Rep.mono e' _ _ (zsw r1)
 ·rw[if_neg hl]at p;exact p.elim
theorem zm0{k:Nat}{C f:Addr}{fd:FuncData}{ps:List Str}{sp:Sp}{dvs:List V}{ds:List Value}{pins:List (Addr × Obj)}{st:St}{H:Hp}{s:Shared}{Q:VK}{us:List Value}{vs:List V}(M:Mk X.K C f)(F:FnOk X.prog X.w X.K X.mg X.base (CXE X.prog X.w) k f fd ps sp)(hr:Room (k+1) X.A)(hb:yko X.K fd ps ds)(hd:yqx dvs ds)
  (I:Inv X pins st H s) (r:yqx vs us)
  (h:∀ x dx,H x=none->H dx=none->dx≠x->sp (.ref x::(vs++dvs)) (upd (upd H dx (.own x)) x (.ins C dx [])) (fun v H2=>v=.non/\Q (.ref x) H2) (XE X st)) :
  wpAny (model X.prog X.w) X.A (call (.ref C) us) (EP X pins st Q) X.xe s:=by
 have hq:=h (s.heap.objs.size+1) s.heap.objs.size (I.hok.fresh (Nat.le_succ _)) (I.hok.fresh (Nat.le_refl _)) (Nat.ne_of_lt (Nat.lt_succ_self _));have I2:=Inv.made (C:=C) I;have r2:yqx (V.ref (s.heap.objs.size+1)::(vs++dvs)) (Value.ref (s.heap.objs.size+1)::(us++ds)):=.cons rfl (r.append hd);have hl:(Value.ref (s.heap.objs.size+1)::us++ds).length=ps.length:=by
  have e:=r2.length;rw[F.len _ _ _ _ hq]at e;exact e.symm
 refine wpAny_call (zq7 (f:=f) I.kIn M.makes M.init (beq_iff_eq.mp M.fn) (codeAny_mono (F.run _ X.stack _ _ ⟨Value.ref (s.heap.objs.size+1)::us,[]⟩ (Value.ref (s.heap.objs.size+1)::(us++ds)) _ _ (XE X st) (hr.make C us [])
  (I2.env0.make C us []) (hb _ (Value.ref (s.heap.objs.size+1)::us) I2.kIn hl) r2 hq) fun r s' hq'=>?_))
 cases r with
 |error e=>obtain⟨cls,fd,H',hfly,ht⟩:=hq';exact ht.fly pins _ _ e s' I2 hfly
 |ok fl=>
  cases fl with
  |ret u=>
   obtain⟨v,H',I3,rv,ev,q3⟩:=I2.after hq';subst ev;exact⟨rv,⟨V.ref (s.heap.objs.size+1),H',I3,rfl,q3⟩⟩
  |next=>exact False.elim hq'
  |brk=>exact False.elim hq'
  |cont=>exact False.elim hq'
theorem zwr{k c:Nat}{ps:List Str}{fn:List D->M D}{x:Str}{p pos:Pos}{e:Expr}{es:List Expr}{fs:Ev->M (List D)}(h:OkC T X.prog X.w X.mg X.base k x c ps fn)(hK:T.K=X.K)(hr:Room (k+1) X.A)(hg:Gl X x)
  (ha:FA T X (e::es) fs) (hdb:(x == ("__debug__" : Str))=false:=by decide) (he:starEach (e::es) X.env=(false,eval e X.env)::starEach es X.env:=by rfl) (hpl:(backTo pos (starEach es X.env)).any (·.1)=false:=by rfl) :
  FE T X (.Call (.Name x p) (e::es) [] pos) (yly c ps.length fn fs):=by
 obtain⟨f,hm,hM,fd,hb,hF⟩:=h;rw[hK]at hM hF;intro pins s st H Q I hq;obtain⟨μ,ρ,σ,hE,hr',hp⟩:=hq;refine wpAny_Call_Name_kw (zym I hg hm ?_ hdb);refine PySem.W.callWith_K (h₀:=X.base) I.ok.mod.kin hM.kp (thn (ha pos pins s st H (fun vs H1=>∀ x dx,H1 x=none->H1 dx=none->dx≠x->spF T ps.length fn (.ref x::(vs++[])) (upd (upd H1 dx (.own x)) x (.ins (T.ca c) dx [])) (fun v H2=>v=.non/\Q (.ref x) H2) (XE X st)) I ⟨μ,ρ,σ,hE,hr',hp.bind fun ds σ1 μ1 vs H1 _ e1 r1 p1 q1=>zl8 r1 p1 q1⟩) fun us s1 ⟨vs,H1,I1,r,q⟩=>⟨I1.kIn,?_⟩) he hpl;exact zm0 (ds:=[]) (dvs:=[]) hM hF hr (.all hb) .nil I1 r q
structure OkM(T:Tb)(P:Program)(w:World)(mg:Str->Option Value)(base:Heap)(k:Nat)(m:Str)(c:Nat)(ps:List Str)(fn:List D->M D):Prop where
 cl:Cls T.K (T.ca c)
 ex:∃ f,Meth T.K (T.ca c) m f/\OkA T P w mg base k f ps fn
abbrev Mt:=List (Nat × (List D->M D))
def lkM:Mt->Nat->Option (List D->M D)
 |[],_=>none
 |(c,fn)::r,d=>if c == d then some fn else lkM r d
def ynn(n:Nat)(fn:List D->M D)(x:D)(ds:List D):M D:=if ds.length+1=n then fn (x::ds)else bad
def ysq(tb:Mt)(n:Nat)(m:Str)(fs:M (List D))(x:D):M D:=fun σ=>match ymv σ x with
 |some (c,gs)=>(match lkM tb c,gs.lookup m with
  |some fn,none=>bnd fs (ynn n fn x) σ
  |_,_=>.bad)
 |none=>.bad
def yro(tb:Mt)(n:Nat)(m:Str)(f:Ev->M D)(fs:Ev->M (List D)):Ev->M D:=fun ρ=>bnd (f ρ) (ysq tb n m (fs ρ))
theorem zyr:∀ {tb:Mt} {c:Nat} {fn:List D->M D},lkM tb c=some fn->(c,fn)∈tb
 |[],_,_,h=>by cases h
 |(d,g)::r,c,fn,h=>by
  unfold lkM at h;by_cases e:(d == c)=true
  ·rw[if_pos e]at h;cases h;rw[beq_iff_eq.mp e];exact List.mem_cons_self
  ·rw[if_neg e]at h;exact List.mem_cons_of_mem _ (zyr h)
theorem yfg{pl:Sem Bool}{k:Nat}{tb:Mt}{ps:List Str}{m:Str}{o e:Expr}{es:List Expr}{f:Ev->M D}{fs:Ev->M (List D)}{pos apos:Pos}(hK:T.K=X.K)(he:FE T X o f)(h:∀ q∈tb,OkM T X.prog X.w X.mg X.base k m q.1 ps q.2)(hr:Room k X.A)(ha:FA T X (e::es) fs)
  (hst:starEach (e::es) X.env=(false,eval e X.env)::starEach es X.env:=by rfl) (hpl:(backTo pos (starEach es X.env)).any (·.1)=false:=by rfl)
  (ht:eval (.Call (.Attribute o m apos) (e::es) [] pos) X.env=(do
   let ov <-eval o X.env
   standAt apos.atName
   let (f,first) <-holding [ov] (getMethod ov m pl)
   callWith pos f first (backTo pos (starEach (e::es) X.env)) (backToKw pos (keywordEach [] X.env))):=by rfl) :
  FE T X (.Call (.Attribute o m apos) (e::es) [] pos) (yro tb ps.length m f fs):=by
 intro pins s st H Q I hq;obtain⟨μ,ρ,σ,hE,hr',hp⟩:=hq;have hE':=hE;refine PySem.W.methodCall_KW (pl:=pl) (thn (he pins s st H (fun x H1=>∃ a c dx vs fn,x=.ref a/\H1 a=some (.ins (T.ca c) dx vs)/\lkM tb c=some fn/\vs.lookup m=none/\tL T X fs st H1 fun us H2=>spF T ps.length fn (x::(us++[])) H2 Q (XE X st)) I ⟨μ,ρ,σ,hE,hr',hp.bind fun d σ1 μ1 v H1 _ e1 r1 q1 p1=>?_⟩) fun u s1 ⟨x,H1,I1,rx,a,c,dx,vs,fn,ex,ea,el,en,q⟩=>?_) ht
 ·unfold ysq at p1;cases ei:ymv σ1 d with
  |none=>rw[ei]at p1;exact p1.elim
  |some z=>
   obtain⟨c,gs⟩:=z;rw[ei]at p1;dsimp only at p1;cases el:lkM tb c with
   |none=>rw[el]at p1;exact p1.elim
   |some fn=>
    cases en:gs.lookup m with
    |some y=>rw[el,en]at p1;exact p1.elim
    |none=>
     rw[el,en]at p1;dsimp only at p1;obtain⟨a,dx,vs,rfl,h1,h2⟩:=zxu r1 q1 ei;refine⟨a,c,dx,vs,fn,rfl,h1,el,(zq2 h2).2 en,μ1,ρ,σ1,hE'.mono e1,r1,p1.bind fun ds σ2 μ2 us H2 _ e2 r2 q2 p2=>?_⟩;unfold ynn at p2;by_cases hl:ds.length+1=ps.length
     ·rw[if_pos hl]at p2;exact⟨μ2,σ2,d::ds,yqs.cons (Rep.mono e2 _ _ q1) (by rw[List.append_nil];exact q2),by rw[List.length_cons];exact hl,r2,p2⟩
     ·rw[if_neg hl]at p2;exact p2.elim
 ·subst ex;obtain rfl:u=Value.ref a:=rx;obtain⟨hC,f',hM,fd,hb,hF⟩:=h _ (zyr el);rw[hK]at hC hM hF;refine zia I1 ea hC hM en ?_;refine PySem.W.callWith_K (first:=[.ref a]) (h₀:=X.base) I.ok.mod.kin hM.kp (thn (ha pos pins s1 st H1 _ I1 q) fun us s2 ⟨vs,H2,I2,r,q2⟩=>⟨I2.kIn,?_⟩) hst hpl;exact ybd (us:=.ref a::us) (vs:=.ref a::vs) hF hr (.all hb) .nil I2 (.cons rfl r) q2
theorem zwt{pl:Sem Bool}{k:Nat}{tb:Mt}{ps:List Str}{m:Str}{o:Expr}{f:Ev->M D}{pos apos:Pos}(hK:T.K=X.K)(he:FE T X o f)(h:∀ q∈tb,OkM T X.prog X.w X.mg X.base k m q.1 ps q.2)(hr:Room k X.A)
  (ht:eval (.Call (.Attribute o m apos) [] [] pos) X.env=(do
   let ov <-eval o X.env
   standAt apos.atName
   let (f,first) <-holding [ov] (getMethod ov m pl)
   callWith pos f first (backTo pos (starEach [] X.env)) (backToKw pos (keywordEach [] X.env))):=by rfl) :
  FE T X (.Call (.Attribute o m apos) [] [] pos) (yro tb ps.length m f yqy):=by
 intro pins s st H Q I hq;obtain⟨μ,ρ,σ,hE,hr',hp⟩:=hq;refine PySem.W.methodCall_KW (pl:=pl) (thn (he pins s st H (fun x H1=>∃ a c dx vs fn,x=.ref a/\H1 a=some (.ins (T.ca c) dx vs)/\lkM tb c=some fn/\vs.lookup m=none/\spF T ps.length fn (x::([]++[])) H1 Q (XE X st)) I ⟨μ,ρ,σ,hE,hr',hp.bind fun d σ1 μ1 v H1 _ e1 r1 q1 p1=>?_⟩) fun u s1 ⟨x,H1,I1,rx,a,c,dx,vs,fn,ex,ea,el,en,q⟩=>?_) ht
 ·unfold ysq at p1;cases ei:ymv σ1 d with
  |none=>rw[ei]at p1;exact p1.elim
  |some z=>
   obtain⟨c,gs⟩:=z;rw[ei]at p1;dsimp only at p1;cases el:lkM tb c with
   |none=>rw[el]at p1;exact p1.elim
   |some fn=>
    cases en:gs.lookup m with
    |some y=>rw[el,en]at p1;exact p1.elim
    |none=>
     rw[el,en]at p1;dsimp only at p1;obtain⟨a,dx,vs,rfl,h1,h2⟩:=zxu r1 q1 ei;have p2:yqm T (XE X st) (Rep T) μ1 H1 (ynn ps.length fn d [] σ1) Q:=p1;unfold ynn at p2;by_cases hl:([]:List D).length+1=ps.length
     ·rw[if_pos hl]at p2;exact⟨a,c,dx,vs,fn,rfl,h1,el,(zq2 h2).2 en,μ1,σ1,[d],yqs.cons q1 yqs.nil,hl,r1,p2⟩
     ·rw[if_neg hl]at p2;exact p2.elim
 ·subst ex;obtain rfl:u=Value.ref a:=rx;obtain⟨hC,f',hM,fd,hb,hF⟩:=h _ (zyr el);rw[hK]at hC hM hF;refine zia I1 ea hC hM en ?_;exact PySem.W.callWith_K0 (first:=[.ref a]) I1.kIn hM.kp (ybd (us:=[.ref a]) (vs:=[.ref a]) hF hr (.all hb) .nil I1 (.cons rfl .nil) q)
structure OkU(T:Tb)(P:Program)(w:World)(mg:Str->Option Value)(base:Heap)(k:Nat)(x m:Str)(c:Nat)(ps:List Str)(fn:List D->M D):Prop where
 gl:mg x=some (.ref (T.ca c))
 sp:PySem.W.specialIn T.K (.ref (T.ca c)) (Str.ofString "__getattribute__")=some (some (.builtin "type.__getattribute__"))
 ex:∃ f mc,PySem.W.readsIn T.K (T.ca c) mc=true/\PySem.W.findCls T.K (.ref (T.ca c)) mc m=some (.val (.ref f))/\PySem.W.keepIn T.K (.ref f)=true/\OkA T P w mg base k f ps fn
theorem zpn{pl:Sem Bool}{k c:Nat}{ps:List Str}{fn:List D->M D}{x m:Str}{p pos apos:Pos}{e:Expr}{es:List Expr}{fs:Ev->M (List D)}(h:OkU T X.prog X.w X.mg X.base k x m c ps fn)(hK:T.K=X.K)(hr:Room k X.A)(hg:Gl X x)(ha:FA T X (e::es) fs)
  (hdb:(x == ("__debug__" : Str))=false:=by decide) (hst:starEach (e::es) X.env=(false,eval e X.env)::starEach es X.env:=by rfl) (hpl:(backTo pos (starEach es X.env)).any (·.1)=false:=by rfl)
  (ht:eval (.Call (.Attribute (.Name x p) m apos) (e::es) [] pos) X.env=(do
   let ov <-eval (.Name x p) X.env
   standAt apos.atName
   let (f,first) <-holding [ov] (getMethod ov m pl)
   callWith pos f first (backTo pos (starEach (e::es) X.env)) (backToKw pos (keywordEach [] X.env))):=by rfl) :
  FE T X (.Call (.Attribute (.Name x p) m apos) (e::es) [] pos) (eFn ps.length fn [] fs):=by
 intro pins s st H Q I hq;obtain⟨μ,ρ,σ,hE,hr',hp⟩:=hq;obtain⟨hm,hsp,f,mc,h1,h2,h3,fd,hb,hF⟩:=h;rw[hK]at hsp h1 h2 h3 hF;refine PySem.W.methodCall_KW (pl:=pl) (zym I hg hm ?_ hdb) ht;refine PySem.W.method_cls I.kIn hsp (PySem.W.cls_value I.kIn h1 h2 rfl ?_);have I1:=I.tok (s.toks+1);refine PySem.W.callWith_K (first:=[]) (h₀:=X.base) I.ok.mod.kin h3 (thn (ha pos pins _ st H (fun vs H1=>spF T ps.length fn (vs++[]) H1 Q (XE X st)) I1 ⟨μ,ρ,σ,hE,hr',hp.bind fun ds σ1 μ1 vs H1 _ e1 r1 p1 q1=>?_⟩) fun us s2 ⟨vs,H2,I2,r,q2⟩=>⟨I2.kIn,?_⟩) hst hpl
 ·unfold fnK at q1;by_cases hl:(ds++[]).length=ps.length
  ·rw[if_pos hl]at q1;exact⟨μ1,σ1,ds++[],p1.append yqs.nil,hl,r1,q1⟩
  ·rw[if_neg hl]at q1;exact q1.elim
 ·exact ybd hF hr (.all hb) .nil I2 r q2
end
structure HasM(K:PySem.W.Frag)(C:Addr)(x qual:Str)(st:Stmt)(ps:List Str)(f:Addr):Prop where
 ex:∃ fd,Fun K x qual st f fd/\∀ us:List Value,us.length=ps.length->bindArgs fd ⟨us,[]⟩=pure (ps.zip us)
section
variable{P:Program}{w:World}{K:PySem.W.Frag}{mg:Str->Option Value}{base:Heap}{ca:Nat->Addr}
theorem yhz{k:Nat}{C f:Addr}{x qual:Str}{st:Stmt}{ps N:List Str}{g:Ev->M Fl}(h:HasM K C x qual st ps f)(S:FnScope N ps (zot st))
  (hb:∀ (cdv:Value) (A:Around) (outer:List Env) (s:Shared) (H:Hp) (E:XK),Room k (A.deeper (envOfC qual (zot st) s.heap.objs.size f cdv))->FSs ⟨K,ca⟩ (yrh (CXE P w) P w K mg base N qual (zot st) f cdv A outer s H E) (zvv st) g) :
  OkA ⟨K,ca⟩ P w mg base (k+1) f ps (run N.length g):=by
 obtain⟨fd,F,hbd⟩:=h.ex;obtain⟨oc,od,kV,doc,pm,an,cdv,ct,osl,rfl,lk,hcd⟩:=F.ex;exact⟨_,hbd,fok lk hcd S (hb cdv)⟩
theorem OkA.frz{T:Tb}{k:Nat}{f:Addr}{ps:List Str}{fn:List D->M D}(h:OkA T P w mg base k f ps fn):OkA T P w mg base k f ps (fun ds=>L4.frz (fn ds)):=by
 obtain⟨fd,h3,h4⟩:=h;exact⟨fd,h3,zw3 h4⟩
theorem OkA.hide{T:Tb}{k:Nat}{f:Addr}{ps:List Str}{fn:List D->M D}(h:OkA T P w mg base k f ps fn):OkA T P w mg base k f ps (L4.hide fn):=by rw[zxo];exact h
end
def yno(s:Stmt)(j:Nat):Stmt:=match s with
 | .ClassDef _ _ _ b _ _ _ _ _ _ _=>b.getD j (.Pass ⟨0,0,0,0⟩)
 |s=>s
theorem mkM{K:PySem.W.Frag}{C f:Addr}{x qual:Str}{st:Stmt}{ps:List Str}{oc:Value}{od an:Option Addr}{osl:Array (Option Value)}{kV doc pm cdv ct:Value}
  (hb:∀ (kV doc pm:Value) (an:Option Addr) (cdv ct:Value) (us:List Value),us.length=ps.length->bindArgs (PySem.W.fnOf x qual (zvu st) (zvv st) (zot st) .none kV doc pm an cdv ct) ⟨us,[]⟩=pure (ps.zip us))
  (l:K.lookup f=some ⟨oc,od,.func (PySem.W.fnOf x qual (zvu st) (zvv st) (zot st) .none kV doc pm an cdv ct),osl⟩)
  (c:PySem.W.codeIn K cdv qual=true) (k:PySem.W.keepIn K (.ref f)=true):HasM K C x qual st ps f:=⟨⟨_,yf4 l c k,hb kV doc pm an cdv ct⟩⟩
section
variable{T:Tb}{P:Program}{w:World}{mg:Str->Option Value}{base:Heap}
def yqg(T:Tb)(P:Program)(w:World)(mg:Str->Option Value)(base:Heap)(k:Nat)(m:Str)(ps:List Str)(tb:Mt):Prop:=∀ q∈tb,OkM T P w mg base k m q.1 ps q.2
theorem yhi{k:Nat}{m:Str}{ps:List Str}:yqg T P w mg base k m ps []:=fun q h=>nomatch h
theorem zy9{j k:Nat}{m:Str}{ps:List Str}{tb:Mt}{c:Nat}{f:Addr}{fn:List D->M D}(h1:Cls T.K (T.ca c))(h2:Meth T.K (T.ca c) m f)(h3:OkA T P w mg base j f ps fn)(hj:j<=k)(h:yqg T P w mg base k m ps tb):yqg T P w mg base k m ps ((c,fn)::tb):=fun q hq=>by
 rcases List.mem_cons.mp hq with rfl|hq
 ·obtain⟨fd,a,b⟩:=h3;exact⟨h1,f,h2,fd,a,b.mono hj⟩
 ·exact h q hq
end
section
variable{T:Tb}{X:Cx}
end
end L4
namespace L4
open PySem L2
theorem nr{α:Type}{a b:α}(h:a=b):a=b:=h
section
variable{α β:Type}{ρ:Ev}{σ:Sto}
@[simp] theorem zu8(a:α)(σ:Sto)(k:α->M β):(Out.ok a σ).bind k=k a σ:=nr rfl
@[simp] theorem yjf(a:α)(σ:Sto):ret a σ=.ok a σ:=nr rfl
@[simp] theorem ydz(m:M α)(k:α->M β)(σ:Sto):bnd m k σ=(m σ).bind k:=nr rfl
@[simp] theorem ylu(d:D):eC d ρ σ=.ok d σ:=nr rfl
@[simp] theorem yeu(d:D)(r:Ev):yrr 0 (some d::r) σ=.ok d σ:=nr rfl
@[simp] theorem yev(i:Nat)(o:Option D)(r:Ev):yrr (i+1) (o::r) σ=yrr i r σ:=nr rfl
@[simp] theorem zv1(o:D->D->M D)(a b:Ev->M D):yrl o a b ρ σ=(a ρ σ).bind (yq5 o (b ρ)):=nr rfl
@[simp] theorem zu7(o:D->D->M D)(m:M D)(x:D):yq5 o m x σ=(m σ).bind (o x):=nr rfl
@[simp] theorem yet(o:D->M D)(a:Ev->M D):eUn o a ρ σ=(a ρ σ).bind o:=nr rfl
@[simp] theorem ykb(b:Bool):tst (.bl b) σ=.ok b σ:=nr rfl
@[simp] theorem ymu(p q:M α):ifK p q true σ=p σ:=nr rfl
@[simp] theorem ymt(p q:M α):ifK p q false σ=q σ:=nr rfl
@[simp] theorem zzm(c:Bool):yss c σ=.ok (!c) σ:=nr rfl
@[simp] theorem zt7(k:Bool->M α)(b:Bool):yps k (.bl b) σ=k b σ:=nr rfl
@[simp] theorem zrg(c:Bool):ynq c σ=.ok (.bl (!c)) σ:=nr rfl
@[simp] theorem yl1(f:Ev->M D):eT f ρ σ=(f ρ σ).bind tst:=nr rfl
@[simp] theorem zu5(a b:Ev->M Bool):yq3 a b ρ σ=(a ρ σ).bind (ifK (b ρ) (ret false)):=nr rfl
@[simp] theorem ydq(a b:Ev->M Bool):bOr a b ρ σ=(a ρ σ).bind (ifK (ret true) (b ρ)):=nr rfl
@[simp] theorem zu6(a:Ev->M Bool):yq4 a ρ σ=(a ρ σ).bind yss:=nr rfl
@[simp] theorem zv0(a b:Ev->M D):yrk a b ρ σ=(a ρ σ).bind (yps (ifK (b ρ) (ret (.bl false)))):=nr rfl
@[simp] theorem yer(a b:Ev->M D):eOr a b ρ σ=(a ρ σ).bind (yps (ifK (ret (.bl true)) (b ρ))):=nr rfl
@[simp] theorem zv5(a:Ev->M D):yrp a ρ σ=(a ρ σ).bind (yps ynq):=nr rfl
@[simp] theorem yeo(t:Ev->M Bool)(a b:Ev->M D):eIf t a b ρ σ=(t ρ σ).bind (ifK (a ρ) (b ρ)):=nr rfl
@[simp] theorem zus:yqy ρ σ=.ok [] σ:=nr rfl
@[simp] theorem zn2(e:Ev->M D)(r:Ev->M (List D)):yk5 e r ρ σ=(e ρ σ).bind (ydn (r ρ)):=nr rfl
@[simp] theorem zjv(m:M (List D))(x:D):ydn m x σ=(m σ).bind (ylm x):=nr rfl
@[simp] theorem zop(x:D)(xs:List D):ylm x xs σ=.ok (x::xs) σ:=nr rfl
@[simp] theorem zv7(a:Ev->M (List D)):yrq a ρ σ=(a ρ σ).bind yvl:=nr rfl
@[simp] theorem ykd:yvl [] σ=.ok (.tup []) σ:=nr rfl
@[simp] theorem yke(a:D):yvl [a] σ=.ok (.tup [a]) σ:=nr rfl
@[simp] theorem ykf(a b:D):yvl [a,b] σ=.ok (.tup [a,b]) σ:=nr rfl
@[simp] theorem ykg(a b c:D):yvl [a,b,c] σ=.ok (.tup [a,b,c]) σ:=nr rfl
@[simp] theorem ykh(a b c d:D):yvl [a,b,c,d] σ=.ok (.tup [a,b,c,d]) σ:=nr rfl
@[simp] theorem yki(a b c d e:D):yvl [a,b,c,d,e] σ=.ok (.tup [a,b,c,d,e]) σ:=nr rfl
@[simp] theorem yep(a:Ev->M (List D)):eLv a ρ σ=(a ρ σ).bind lvK:=nr rfl
@[simp] theorem zv3(a:Ev->M (List D)):yrn a ρ σ=(a ρ σ).bind ysg:=nr rfl
@[simp] theorem yg4:ysg [] σ=.ok (.ref σ.length) (σ++[.lst []]):=nr rfl
@[simp] theorem yn0(g:Int->Int->Int)(i j:Int):oI g (.int i) (.int j) σ=.ok (.int (g i j)) σ:=nr rfl
@[simp] theorem ynw(g:Int->Int->Bool)(i j:Int):oB g (.int i) (.int j) σ=.ok (.bl (g i j)) σ:=nr rfl
theorem yhr{C:Int->Int->Bool}{g:Int->Int->Int}{i j:Int}(h:C i j=true):oIC C g (.int i) (.int j) σ=.ok (.int (g i j)) σ:=by
 show (if C i j=true then ret _ else bad) σ=_;rw[if_pos h];rfl
@[simp] theorem zzq(i j:Int)(h:0<j)(h2:j<1073741824):ysx (.int i) (.int j) σ=.ok (.int (i / j)) σ:=yhr (by simp[yq8,h,h2])
@[simp] theorem zz0(i j:Int)(h:0<j):ys7 (.int i) (.int j) σ=.ok (.int (i % j)) σ:=yhr (by simp[yq9,h])
theorem yhv{i j:Int}(h:-(2 ^ 64)<j)(h2:j<2 ^ 64):ys8 (.int i) (.int j) σ=.ok (.int (i * j)) σ:=yhr (by simp only[yra,zxo,Bool.or_eq_true,Bool.and_eq_true,decide_eq_true_eq];exact .inr ⟨h,h2⟩)
@[simp] theorem zz6(i j:Int)(h:0<=j):yte (.int i) (.int j) σ=.ok (.int (i / 2 ^ j.toNat)) σ:=yhr (by simp[yrc,h])
theorem zz4{i j:Int}(h:yrb i j=true):ytb (.int i) (.int j) σ=.ok (.int (i ^ j.toNat)) σ:=yhr h
@[simp] theorem p12:ytb (.int 10) (.int 12) σ=.ok (.int 1000000000000) σ:=zz4 (by simp[yrb])
@[simp] theorem p6:ytb (.int 10) (.int 6) σ=.ok (.int 1000000) σ:=zz4 (by simp[yrb])
@[simp] theorem p4:ytb (.int 10) (.int 4) σ=.ok (.int 10000) σ:=zz4 (by simp[yrb])
@[simp] theorem p40:ytb (.int 10) (.int 40) σ=.ok (.int (10 ^ 40)) σ:=zz4 (by simp[yrb])
@[simp] theorem zz3(i:Int):yta (.int i) σ=.ok (.int (-i)) σ:=nr rfl
@[simp] theorem zrn(i j:Int):yst (.int i) (.int j) σ=.ok (.int (i+j)) σ:=nr rfl
theorem zrp{xs ys:List D}(h:xs.length+ys.length<=cap):yst (.tup xs) (.tup ys) σ=.ok (.tup (xs++ys)) σ:=by show (if _ then _ else _:M D) σ=_;rw[if_pos h];rfl
theorem zro{xs ys:List D}(h:xs.length+ys.length<=cap):yst (.lst xs) (.lst ys) σ=.ok (.lst (xs++ys)) σ:=by
 show ynv (.lst xs) (.lst ys) σ=_;unfold ynv;simp only[ysf];rw[if_pos h]
@[simp] theorem zrx(σ:Sto):ys1 .non .non σ=.ok (.bl true) σ:=nr rfl
@[simp] theorem zry(b:List D):ys1 (.tup b) .non σ=.ok (.bl false) σ:=nr rfl
theorem yhq{x y:D}{b:Bool}(h:eqD σ 8 x y=some b):oEq x y σ=.ok (.bl b) σ:=by unfold oEq;rw[h]
theorem yhw{x y:D}{b:Bool}(h:eqD σ 8 x y=some b):oNe x y σ=.ok (.bl (!b)) σ:=by unfold oNe;rw[h]
@[simp] theorem zzr(i j:Int):oEq (.int i) (.int j) σ=.ok (.bl (i == j)) σ:=yhq (by simp[eqD,kd,eqK,eqV])
@[simp] theorem zz2(i j:Int):oNe (.int i) (.int j) σ=.ok (.bl (!(i == j))) σ:=yhw (by simp[eqD,kd,eqK,eqV])
@[simp] theorem zzs(i j:Str):oEq (.str i) (.str j) σ=.ok (.bl (i == j)) σ:=yhq (by simp[eqD,kd,eqK,eqV])
theorem zzy{xs:List D}{k:Int}{d:D}(h:atI xs k=some d):oIx (.tup xs) (.int k) σ=.ok d σ:=by simp[oIx,yo5,h]
theorem zzw{xs:List D}{k:Int}{d:D}(h:atI xs k=some d):oIx (.lst xs) (.int k) σ=.ok d σ:=by simp[oIx,yo5,h]
@[simp] theorem ymx(a:D)(r:List D):oIx (.tup (a::r)) (.int 0) σ=.ok a σ:=zzy (show atI _ ((0:Nat):Int)=_ from zu2 rfl)
@[simp] theorem ymy(a b:D)(r:List D):oIx (.tup (a::b::r)) (.int 1) σ=.ok b σ:=zzy (show atI _ ((1:Nat):Int)=_ from zu2 rfl)
@[simp] theorem ymz(a b c:D)(r:List D):oIx (.tup (a::b::c::r)) (.int 2) σ=.ok c σ:=zzy (show atI _ ((2:Nat):Int)=_ from zu2 rfl)
@[simp] theorem ym0(a b c d:D)(r:List D):oIx (.tup (a::b::c::d::r)) (.int 3) σ=.ok d σ:=zzy (show atI _ ((3:Nat):Int)=_ from zu2 rfl)
@[simp] theorem zr1(xs:List D):ys5 [.tup xs] σ=.ok (.int xs.length) σ:=nr rfl
@[simp] theorem zrz(xs:List D):ys5 [.lst xs] σ=.ok (.int xs.length) σ:=nr rfl
@[simp] theorem zr0(xs:List Int):ys5 [.scr xs] σ=.ok (.int xs.length) σ:=by simp[ys5,yo5]
@[simp] theorem zo1(o:List D->M D)(fs:Ev->M (List D)):ylv o fs ρ σ=(fs ρ σ).bind o:=nr rfl
@[simp] theorem yen(n:Nat)(f:List D->M D)(dds:List D)(fs:Ev->M (List D)):eFn n f dds fs ρ σ=(fs ρ σ).bind (fnK n f dds):=nr rfl
@[simp] theorem ymd(f:List D->M D)(a:D):fnK 1 f [] [a] σ=f [a] σ:=by unfold fnK;rw[if_pos (by simp)];simp
@[simp] theorem yme(f:List D->M D)(a b:D):fnK 2 f [] [a,b] σ=f [a,b] σ:=by unfold fnK;rw[if_pos (by simp)];simp
@[simp] theorem ymf(f:List D->M D)(a b c:D):fnK 3 f [] [a,b,c] σ=f [a,b,c] σ:=by unfold fnK;rw[if_pos (by simp)];simp
@[simp] theorem yfs(f:List D->M D)(a b c:D):fnK 3 f [c] [a,b] σ=f [a,b,c] σ:=by unfold fnK;rw[if_pos (by simp)];simp
@[simp] theorem ymg(f:List D->M D)(a b c d:D):fnK 4 f [] [a,b,c,d] σ=f [a,b,c,d] σ:=by unfold fnK;rw[if_pos (by simp)];simp
@[simp] theorem ybi:yum ρ σ=.ok (.nx ρ) σ:=nr rfl
@[simp] theorem ybl(g h:Ev->M Fl):yup g h ρ σ=(g ρ σ).bind (yus h):=nr rfl
@[simp] theorem ybs(h:Ev->M Fl)(ρ:Ev):yus h (.nx ρ) σ=h ρ σ:=nr rfl
@[simp] theorem ybt(h:Ev->M Fl)(d:D):yus h (.rt d) σ=.ok (.rt d) σ:=nr rfl
@[simp] theorem ybu(h:Ev->M Fl)(ρ:Ev)(x:Xn):yus h (.xc ρ x) σ=.ok (.xc ρ x) σ:=nr rfl
def xsO(ρ:Ev)(k:α->M Fl):Out α->Out Fl
 | .ok a σ'=>k a σ'
 | .ex x σ'=>.ok (.xc ρ x) σ'
 | .bad=>.bad
@[simp] theorem yp1(ρ:Ev)(m:M α)(k:α->M Fl):xs ρ m k σ=xsO ρ k (m σ):=by unfold xs xsO;cases m σ<;>rfl
@[simp] theorem ykm(ρ:Ev)(k:α->M Fl)(a:α):xsO ρ k (.ok a σ)=k a σ:=nr rfl
@[simp] theorem ykl(ρ:Ev)(k:α->M Fl)(x:Xn):xsO ρ k (.ex x σ)=.ok (.xc ρ x) σ:=nr rfl
@[simp] theorem ydf(ρ:Ev)(k:α->M Fl):xsO ρ k (.bad:Out α)=.bad:=nr rfl
@[simp] theorem ybk(f:Ev->M D):yuo f ρ σ=xsO ρ yue (f ρ σ):=yp1 ..
@[simp] theorem ya8(d:D):yue d σ=.ok (.rt d) σ:=nr rfl
@[simp] theorem ybf(f:Ev->M D):yuj f ρ σ=xsO ρ (yrt ρ) (f ρ σ):=yp1 ..
@[simp] theorem zwg(d:D):yrt ρ d σ=.ok (.nx ρ) σ:=nr rfl
@[simp] theorem ybm(i:Nat)(f:Ev->M D):yuq i f ρ σ=xsO ρ (yut i ρ) (f ρ σ):=yp1 ..
@[simp] theorem ybx(i:Nat)(d:D):yut i ρ d σ=.ok (.nx (ρ.set i (some d))) σ:=nr rfl
@[simp] theorem yjh(t:Ev->M Bool)(a b:Ev->M Fl):sIf t a b ρ σ=xsO ρ (ifK (a ρ) (b ρ)) (t ρ σ):=yp1 ..
@[simp] theorem ybe(f:Ev->M D)(tg:D->Ev->Option Ev):yuh f tg ρ σ=xsO ρ (yq1 tg ρ) (f ρ σ):=yp1 ..
@[simp] theorem zm1(c:Nat)(fs:Ev->M (List D)):yjj c fs ρ σ=xsO ρ (yjc c ρ) (fs ρ σ):=yp1 ..
@[simp] theorem zsp(c:Nat)(d:D):yjc c ρ [d] σ=.ok (.xc ρ ⟨c⟩) σ:=nr rfl
@[simp] theorem ybn(g:Ev->M Fl)(hs:List Hd):yur g hs ρ σ=(g ρ σ).bind (yvk hs):=nr rfl
@[simp] theorem yc4(hs:List Hd):yvk hs (.nx ρ) σ=.ok (.nx ρ) σ:=nr rfl
@[simp] theorem yc5(hs:List Hd)(x:Xn):yvk hs (.xc ρ x) σ=yf8 ρ x hs σ:=nr rfl
theorem zp8{h:Hd}{r:List Hd}{x:Xn}(e:h.t x.cls=some true):yf8 ρ x (h::r) σ=hit h ρ x σ:=by unfold yf8;rw[e]
theorem zp7{h:Hd}{r:List Hd}{x:Xn}(e:h.t x.cls=some false):yf8 ρ x (h::r) σ=yf8 ρ x r σ:=by
 show (match h.t x.cls with|some true=>hit h ρ x|some false=>yf8 ρ x r|none=>bad) σ=_;rw[e]
@[simp] theorem yjg(n:Nat)(g:Ev->M Fl)(ds:List D):run n g ds σ=yug (g (ds.map some++List.replicate (n - ds.length) none) σ):=nr rfl
@[simp] theorem ybb(d:D):yug (.ok (.rt d) σ)=.ok d σ:=nr rfl
@[simp] theorem yba:yug (.ok (.nx ρ) σ)=.ok .non σ:=nr rfl
@[simp] theorem ybc(x:Xn):yug (.ok (.xc ρ x) σ)=.ex x σ:=nr rfl
@[simp] theorem yft(f:M D):frz f σ=yrz σ (f σ):=nr rfl
@[simp] theorem zv2(f:Ev->M D):yrm f ρ σ=yrz σ (f ρ σ):=nr rfl
theorem yml{k m:Nat}{σ:Sto}{d:D}(h:cl d=true):fz k σ m d=some d:=by cases m<;>(unfold fz;rw[if_pos h])
theorem zw7{σ':Sto}{d:D}(h:cl d=true)(ht:σ'.take σ.length=σ):yrz σ (.ok d σ')=.ok d σ:=by
 unfold yrz;dsimp only;rw[if_pos ht,yml h]
@[simp] theorem zw8:yrz σ (.ex x σ)=.ex x σ:=by unfold yrz;dsimp only;rw[if_pos List.take_length]
@[simp] theorem zlb{d:D}(h:cl d=true):yrz σ (.ok d σ)=.ok d σ:=zw7 h List.take_length
theorem zp0{j j':Sto}{xs:List D}(h:clL xs=true):yrz σ (.ok (.ref σ.length) (σ++[.lst xs]++j))=.ok (.lst xs) σ:=by
 unfold yrz;dsimp only;rw[if_pos (by simp)];have e:fz σ.length (σ++[.lst xs]++j) 6 (.ref σ.length)=some (.lst xs):=by
  unfold fz;rw[if_neg (by simp[cl])];dsimp only;rw[if_neg (Nat.lt_irrefl _)];have:(σ++[Ob.lst xs]++j)[σ.length]?=some (.lst xs):=by simp
  rw[this];dsimp only;have hl:∀ (ys:List D) (m:Nat),clL ys=true->fzL (fz σ.length (σ++[.lst xs]++j) m) ys=some ys:=by
   intro ys m;induction ys with
   |nil=>intro _;rfl
   |cons y ys ih=>
    intro hc;have hc':cl y=true/\clL ys=true:=by simpa [clL,Bool.and_eq_true]using hc
    unfold fzL;rw[yml hc'.1,ih hc'.2]
  rw[hl xs 5 h];rfl
 rw[e]
@[simp] theorem yd8(i:Int):cl (.int i)=true:=by simp[cl]
@[simp] theorem yll(i:Bool):cl (.bl i)=true:=by simp[cl]
@[simp] theorem yec(i:Str):cl (.str i)=true:=by simp[cl]
@[simp] theorem yea:cl .non=true:=by simp[cl]
@[simp] theorem yee(xs:List D):cl (.tup xs)=clL xs:=by simp[cl]
@[simp] theorem yd9(xs:List D):cl (.lst xs)=clL xs:=by simp[cl]
@[simp] theorem yeb(n:Nat):cl (.ref n)=false:=by simp[cl]
@[simp] theorem zvh:clL []=true:=by simp[clL]
@[simp] theorem zom(d:D)(ds:List D):clL (d::ds)=(cl d && clL ds):=by simp[clL]
theorem zvf:∀ {ds:List D},(∀ d∈ds,cl d=true)->clL ds=true
 |[],_=>by simp
 |d::ds,h=>by rw[zom,h d List.mem_cons_self,zvf fun x hx=>h x (List.mem_cons_of_mem _ hx)];rfl
theorem zvg{γ:Type}{f:γ->D}{l:List γ}(h:∀ x,cl (f x)=true):clL (l.map f)=true:=zvf fun d hd=>by obtain⟨x,_,rfl⟩:=List.mem_map.mp hd;exact h x
@[simp] theorem zoo(l:List Int):clL (l.map D.int)=true:=zvg yd8
theorem zz1{i j:Int}(h:yra i j=true):ys8 (.int i) (.int j) σ=.ok (.int (i * j)) σ:=yhr h
theorem yd0{i j:Int}(h:-(2 ^ 64)<i)(h2:i<2 ^ 64):yra i j=true:=by simp only[yra,zxo,Bool.or_eq_true,Bool.and_eq_true,decide_eq_true_eq];exact .inl ⟨h,h2⟩
theorem yd1{i j:Int}(h:-(2 ^ 64)<j)(h2:j<2 ^ 64):yra i j=true:=by simp only[yra,zxo,Bool.or_eq_true,Bool.and_eq_true,decide_eq_true_eq];exact .inr ⟨h,h2⟩
theorem yk9{xs:List D}{k:Int}(h0:0<=k)(h:k<xs.length):atI xs k=some (xs.getD k.toNat .non):=by
 obtain⟨n,rfl⟩:=Int.eq_ofNat_of_zero_le h0;have hn:n<xs.length:=by omega
 refine zu2 ?_;show xs[n]?=some (xs.getD n .non);rw[List.getD_eq_getElem?_getD,List.getElem?_eq_getElem hn];rfl
theorem yla{is:List Int}{k:Int}(h0:0<=k)(h:k<is.length):atI (is.map D.int) k=some (.int (is.getD k.toNat 0)):=by
 rw[yk9 h0 (by simpa using h)];have hn:k.toNat<is.length:=by omega
 simp[hn]
@[simp] theorem yne:lvK [] σ=.ok (.lst []) σ:=nr rfl
@[simp] theorem ynf(a b:D):lvK [a,b] σ=.ok (.lst [a,b]) σ:=nr rfl
@[simp] theorem yng(a b c d:D):lvK [a,b,c,d] σ=.ok (.lst [a,b,c,d]) σ:=nr rfl
@[simp] theorem ynh(a b c d e:D):lvK [a,b,c,d,e] σ=.ok (.lst [a,b,c,d,e]) σ:=nr rfl
@[simp] theorem yni(a b c d e f:D):lvK [a,b,c,d,e,f] σ=.ok (.lst [a,b,c,d,e,f]) σ:=nr rfl
@[simp] theorem zl5(xs:List D):ync (σ++[.lst xs]) σ.length=some xs:=by simp[ync]
@[simp] theorem ybz(a b:Ob):(σ++[a]).set σ.length b=σ++[b]:=by
 rw[List.set_append_right _ _ (Nat.le_refl _)];simp
@[simp] theorem zo4(o:D->List D->M D)(f:Ev->M D)(fs:Ev->M (List D)):ylz o f fs ρ σ=(f ρ σ).bind (ynl o (fs ρ)):=nr rfl
theorem zrd{o:D->List D->M D}{m:M (List D)}{x:D}{xs:List D}(h:ysf σ x=some xs):ynl o m x σ=(m σ).bind (o x):=by unfold ynl;rw[h];rfl
@[simp] theorem zmd(o:D->List D->M D)(m:M (List D))(xs:List D):ynl o m (.ref σ.length) (σ++[.lst xs])=(m (σ++[.lst xs])).bind (o (.ref σ.length)):=zrd (xs:=xs) (by simp[ysf])
theorem zhn{xs:List D}{d:D}(h:xs.length<1000):zzo (.ref σ.length) [d] (σ++[.lst xs])=.ok .non (σ++[.lst (xs++[d])]):=by
 unfold zzo;simp only[zl5];rw[if_pos (show xs.length<cap from h),ybz]
theorem zrs{neg:Bool}{w:Int}{x:D}{ws:List Int}(h:yo5 σ x=some (ws.map D.int)):oIn neg (.int w) x σ=.ok (.bl (if neg then !(ws.any (·== w))else ws.any (·== w))) σ:=by
 have h1:∀ l:List Int,(l.map D.int).all isF=true:=fun l=>by simp[isF,sc]
 have h2:∀ l:List Int,((l.map D.int).any fun z=>eqF z (.int w))=l.any (·== w):=fun l=>by simp[eqF,sc,eqV,List.any_map,Function.comp_def]
 unfold oIn;rw[h];simp only[h1,h2,show isF (.int w)=true from rfl,Bool.and_self,if_true]
@[simp] theorem znb(xs:List D):yo5 (σ++[.lst xs]) (.ref σ.length)=some xs:=zl5 xs
@[simp] theorem znc(xs:List D):yo5 σ (.lst xs)=some xs:=nr rfl
@[simp] theorem zne(xs:List D):yo5 σ (.tup xs)=some xs:=nr rfl
@[simp] theorem ycv(f:Ev->M D):yu1 f ρ σ=(f ρ σ).bind yo4:=nr rfl
@[simp] theorem zna(ds:List D):yo4 (.tup ds) σ=.ok (.seq ds) σ:=nr rfl
@[simp] theorem zm9(ds:List D):yo4 (.lst ds) σ=.ok (.seq ds) σ:=nr rfl
@[simp] theorem ycu(f:Ev->M D):yu0 f ρ σ=(f ρ σ).bind yuf:=nr rfl
theorem ya9{j:Int}(h:-(2 ^ 62)<=j)(h2:j<2 ^ 62):yuf (.int j) σ=.ok (.seq (yjd j.toNat)) σ:=by
 unfold yuf;dsimp only;rw[if_pos (by simp only[yca,zxo,Bool.and_eq_true,decide_eq_true_eq];exact⟨h,h2⟩)]
@[simp] theorem ybh(src:Ev->M Src)(tg:D->Ev->Option Ev)(body:Ev->M Fl):yul src tg body ρ σ=xsO ρ (yry tg body ρ) (src ρ σ):=yp1 ..
@[simp] theorem zpw(tg:D->Ev->Option Ev)(body:Ev->M Fl)(ds:List D):yry tg body ρ (.seq ds) σ=yse tg body ds ρ σ:=nr rfl
@[simp] theorem zq4(tg:D->Ev->Option Ev)(body:Ev->M Fl):yse tg body [] ρ σ=.ok (.nx ρ) σ:=nr rfl
theorem zl4{tg:D->Ev->Option Ev}{body:Ev->M Fl}{d:D}{ds:List D}{ρ1:Ev}(h:tg d ρ=some ρ1):yse tg body (d::ds) ρ σ=(body ρ1 σ).bind (ym9 (yse tg body ds)):=by
 show (match tg d ρ with|none=>bad|some ρ1=>bnd (body ρ1) (ym9 (yse tg body ds))) σ=_;rw[h];rfl
@[simp] theorem zq5(i:Nat)(body:Ev->M Fl)(d:D)(ds:List D):yse (tgN i) body (d::ds) ρ σ=(body (ρ.set i (some d)) σ).bind (ym9 (yse (tgN i) body ds)):=zl4 rfl
@[simp] theorem zq3(k:Ev->M Fl):ym9 k (.nx ρ) σ=k ρ σ:=nr rfl
theorem zmx(n:Nat):yjd n=(List.range' 0 n).map fun(k:Nat)=>D.int k:=by unfold yjd;rw[List.range_eq_range']
theorem yhn{m:M α}{a:α}{σ':Sto}(h:m σ=.ok a σ'):nox m σ=.ok a σ':=by unfold nox;rw[h]
theorem ym5{fi:Ev->M Bool}{fe:Ev->M D}{ds:List D}{yud:Ev}{σ0:Sto}(y:D->D)(p:D->Bool)
  (step:∀ d∈ds,∀ j,fi (some d::yud) (σ0++j)=.ok (p d) (σ0++j)/\(p d=true->fe (some d::yud) (σ0++j)=.ok (y d) (σ0++j))) (hl:ds.length<=1000) :
  ∀ (k i:Nat) (o:Option D) (ys:List D),ds.length<k+i->i<=ds.length->ys.length<=i->
   ygt (.seq ds) σ0.length (tgN 0) fi fe k i (o::yud) (σ0++[.lst ys])=.ok () (σ0++[.lst (ys++((ds.drop i).filter p).map y)]):=by
 intro k;induction k with
 |zero=>intro i o ys h1 h2;omega
 |succ k ih=>
  intro i o ys h1 h2 hy;unfold ygt;show (match some ds[i]? with|none=>_|some none=>_|some (some d)=>_)=_;cases e:ds[i]? with
  |none=>
   have hi:ds.length<=i:=List.getElem?_eq_none_iff.mp e;rw[List.drop_eq_nil_of_le hi];simp
  |some d=>
   obtain⟨hi,ed⟩:=List.getElem?_eq_some_iff.mp e;have hd:ds.drop i=d::ds.drop (i+1):=by rw[<-ed];exact List.drop_eq_getElem_cons hi
   obtain⟨s1,s2⟩:=step d (by rw[<-ed];exact List.getElem_mem hi) [.lst ys];show bnd (nox (fi (some d::yud))) _ _=_;rw[ydz,yhn s1,zu8];dsimp only[List.set];by_cases hp:p d=true
   ·rw[hp,if_pos rfl,ydz,yhn (s2 hp),zu8,ydz,zhn (by omega),zu8,ih (i+1) (some d) (ys++[y d]) (by omega) (by omega) (by simp;omega),hd,List.filter_cons,if_pos hp];simp
   ·rw[if_neg hp,ih (i+1) (some d) ys (by omega) (by omega) (by omega),hd,List.filter_cons,if_neg hp]
theorem ym6{src:Ev->M Src}{ix:List Nat}{fi:Ev->M Bool}{fe:Ev->M D}{ds:List D}(y:D->D)(p:D->Bool)(hs:src ρ σ=.ok (.seq ds) σ)(hl:ds.length<=1000)
  (step:∀ d∈ds,∀ j,fi (some d::(ix.map fun i=>(ρ[i]?).getD none)) (σ++j)=.ok (p d) (σ++j)/\(p d=true->fe (some d::(ix.map fun i=>(ρ[i]?).getD none)) (σ++j)=.ok (y d) (σ++j))) (hc:∀ d∈ds,p d=true->cl (y d)=true) :
  yrm (eLC src ix (tgN 0) fi fe) ρ σ=.ok (.lst ((ds.filter p).map y)) σ:=by
 show yrz σ (eLC src ix (tgN 0) fi fe ρ σ)=_;have e:eLC src ix (tgN 0) fi fe ρ σ=.ok (.ref σ.length) (σ++[.lst ((ds.filter p).map y)]):=by
  show bnd (src ρ) (lcK (tgN 0) fi fe (ylg ix ρ)) σ=_;rw[ydz,hs,zu8];show bnd (ygt (.seq ds) σ.length (tgN 0) fi fe 1001 0 (none::(ix.map fun i=>(ρ[i]?).getD none))) _ (σ++[.lst []])=_;rw[ydz,ym5 y p step hl 1001 0 none [] (by omega) (by omega) (by simp),zu8];simp
 rw[e];have:=zp0 (σ:=σ) (j:=[]) (j':=[]) (xs:=(ds.filter p).map y) (zvf fun d hd=>by obtain⟨x,hx,rfl⟩:=List.mem_map.mp hd;obtain⟨hx1,hx2⟩:=List.mem_filter.mp hx;exact hc x hx1 hx2);simpa using this
theorem ygu{src:Ev->M Src}{ix:List Nat}{fe:Ev->M D}{ds:List D}(y:D->D)(hs:src ρ σ=.ok (.seq ds) σ)(hl:ds.length<=1000)
  (step:∀ d∈ds,∀ j,fe (some d::(ix.map fun i=>(ρ[i]?).getD none)) (σ++j)=.ok (y d) (σ++j)) (hc:∀ d∈ds,cl (y d)=true) :
  yrm (eLC src ix (tgN 0) yle fe) ρ σ=.ok (.lst (ds.map y)) σ:=by
 have:=ym6 (p:=fun _=>true) y (ix:=ix) (fi:=yle) hs hl (fun d hd j=>⟨rfl,fun _=>step d hd j⟩) (fun d hd _=>hc d hd);rw[show List.filter (fun _=>true) ds=ds from List.filter_eq_self.mpr fun _ _=>rfl]at this;exact this
end
section
variable{α β:Type}{ρ:Ev}{σ:Sto}
@[simp] theorem znd(ns:List Int):yo5 σ (.scr ns)=some (ns.map D.int):=nr rfl
theorem zzx{ns:List Int}{k:Int}(h0:0<=k)(h:k<ns.length):oIx (.scr ns) (.int k) σ=.ok (.int (ns.getD k.toNat 0)) σ:=by
 simp only[oIx,znd,yla h0 h]
@[simp] theorem zrt(c:BT)(i:Int):ys0 c (.int i) σ=.ok (.bl (match c with | .int=>true|_=>false)) σ:=nr rfl
@[simp] theorem zrw(xs:List D):ys0 .tuple (.tup xs) σ=.ok (.bl true) σ:=nr rfl
@[simp] theorem zkv(o o':D->D->M D)(a b c:Ev->M D):yem o o' a b c ρ σ=(a ρ σ).bind (yd4 o o' (b ρ) (c ρ)):=nr rfl
def pl:Nat->D->Bool
 |_,.non=>true
 |_,.bl _=>true
 |_,.int _=>true
 |_,.str _=>true
 |n+1,.tup xs=>xs.all (pl n)
 |n+1,.lst xs=>xs.all (pl n)
 |_,_=>false
theorem eqL_refl{f:D->D->Option Bool}:∀ {xs:List D},(∀ x∈xs,f x x=some true)->eqL f xs xs=some true
 |[],_=>rfl
 |x::xs,h=>by unfold eqL;rw[h x List.mem_cons_self,eqL_refl fun y hy=>h y (List.mem_cons_of_mem _ hy)];rfl
theorem eqD_refl:∀ (n:Nat) (x:D),pl n x=true->eqD σ n x x=some true
 |0,x,h=>by cases x<;>simp[pl]at h<;>simp[eqD,kd,eqK,eqV]
 |n+1,x,h=>by
  cases x with
  |non=>simp[eqD,kd,eqK,eqV]
  |bl b=>simp[eqD,kd,eqK,eqV]
  |int b=>simp[eqD,kd,eqK,eqV]
  |str b=>simp[eqD,kd,eqK,eqV]
  |tup xs=>
   simp only[pl,List.all_eq_true]at h;unfold eqD;simp only[kd,eqK];exact eqL_refl fun y hy=>eqD_refl n y (h y hy)
  |lst xs=>
   simp only[pl,List.all_eq_true]at h;unfold eqD;simp only[kd,eqK];exact eqL_refl fun y hy=>eqD_refl n y (h y hy)
  |_=>simp[pl]at h
theorem zrr{x:D}(h:pl 8 x=true):oEq x x σ=.ok (.bl true) σ:=yhq (eqD_refl 8 x h)
@[simp] theorem zs6(f fo fi:Ev->M D):yo2 f fo fi ρ σ=xsO ρ (yo9 ρ fo fi) (f ρ σ):=yp1 ..
@[simp] theorem zkk(o o':D->D->M D)(b c:M D)(x:D):yd4 o o' b c x σ=(b σ).bind (yd6 o o' c x):=nr rfl
@[simp] theorem zkm(o o':D->D->M D)(c:M D)(x y:D):yd6 o o' c x y σ=(o x y σ).bind (yd5 o' c y):=nr rfl
@[simp] theorem zkl(o':D->D->M D)(c:M D)(y:D)(b:Bool):yd5 o' c y (.bl b) σ=ifK (bnd c (o' y)) (ret (.bl false)) b σ:=nr rfl
@[simp] theorem zth(fo fi:Ev->M D)(d:D):yo9 ρ fo fi d σ=xsO ρ (ypa ρ fi d) (fo ρ σ):=yp1 ..
@[simp] theorem zti(fi:Ev->M D)(d x:D):ypa ρ fi d x σ=xsO ρ (ypb ρ d x) (fi ρ σ):=yp1 ..
theorem zpy{a:Ob}{d:D}(h:cl d=true):yrz σ (.ok d (σ++[a]))=.ok d σ:=zw7 h (by simp)
@[simp] theorem zj6{γ:Type}(f:γ->Bool)(l:List γ):yli (l.map fun x=>D.bl (f x))=some (l.map f):=by
 induction l with
 |nil=>rfl
 |cons x l ih=>simp[yli,ih]
@[simp] theorem intsOf_map(l:List Int):ygf (l.map D.int)=some l:=by
 induction l with
 |nil=>rfl
 |cons x l ih=>simp[ygf,ih]
theorem zrq{γ:Type}{f:γ->Bool}{l:List γ}:ysu [.lst (l.map fun x=>D.bl (f x))] σ=.ok (.bl (l.all f)) σ:=by
 simp only[ysu,znc,Option.bind_some,zj6];simp[List.all_map,Function.comp_def]
theorem zev{l:List Int}(h:l.length<=1000):zzz (.lst (l.map D.int)) σ=.ok (.int (ddp l).length) σ:=by
 simp only[zzz,ysf,Option.bind_some,intsOf_map];rw[if_pos (show l.length<=cap from h)]
theorem yeh:∀ (l s:List Int),(l.foldl PyProof.Rows.step_dedup s).length<=s.length+l.length/\((l.foldl PyProof.Rows.step_dedup s).length=s.length+l.length ↔ (l.Nodup/\∀ x∈l,x ∉ s))
 |[],s=>by simp
 |x::l,s=>by
  rw[List.foldl_cons];by_cases h:s.any (·== x)=true
  ·have hx:x∈s:=by simpa using h
   rw[show PyProof.Rows.step_dedup s x=s by unfold PyProof.Rows.step_dedup;rw[if_pos h]];obtain⟨h1,h2⟩:=yeh l s;refine⟨by simp only[List.length_cons];omega,fun e=>?_,fun e=>absurd hx (e.2 x List.mem_cons_self)⟩;simp only[List.length_cons]at e;omega
  ·have hx:x ∉ s:=by simpa using h
   rw[show PyProof.Rows.step_dedup s x=s++[x] by unfold PyProof.Rows.step_dedup;rw[if_neg h]];obtain⟨h1,h2⟩:=yeh l (s++[x]);simp only[List.length_append,List.length_cons,List.length_nil]at h1 h2;refine⟨by simp only[List.length_cons];omega,?_⟩;rw[List.length_cons,show s.length+(l.length+1)=s.length+(0+1)+l.length by omega,h2,List.nodup_cons];constructor
   ·rintro ⟨a,b⟩;refine⟨⟨fun hm=>(b x hm) (by simp),a⟩,fun y hy=>?_⟩;rcases List.mem_cons.mp hy with rfl|hy
    ·exact hx
    ·exact fun hs=>b y hy (by simp[hs])
   ·rintro ⟨⟨a,b⟩,c⟩;refine⟨b,fun y hy hs=>?_⟩;rcases List.mem_append.mp hs with hs|hs
    ·exact c y (List.mem_cons_of_mem _ hy) hs
    ·rw[List.mem_singleton.mp hs]at hy;exact a hy
theorem zvs(l:List Int):((ddp l).length:Int)=(l.length:Int) ↔ l.Nodup:=by
 have:=(yeh l []).2;simp only[List.length_nil,Nat.zero_add,List.not_mem_nil,not_false_eq_true,implies_true,and_true]at this;unfold ddp;rw[<-this];omega
end
section
variable{ρ:Ev}{σ:Sto}
@[simp] theorem zo3(c n:Nat)(fn:List D->M D)(fs:Ev->M (List D)):yly c n fn fs ρ σ=(fs ρ σ).bind (ynj c n fn):=nr rfl
theorem zq6{c n:Nat}{fn:List D->M D}{ds:List D}(h:ds.length+1=n):ynj c n fn ds σ=ynu σ.length (fn (.ref σ.length::ds) (σ++[.ins c []])):=by unfold ynj;rw[if_pos h]
@[simp] theorem zyw(c:Nat)(fn:List D->M D)(a:D):ynj c 2 fn [a] σ=ynu σ.length (fn [.ref σ.length,a] (σ++[.ins c []])):=zq6 rfl
@[simp] theorem zyx(c:Nat)(fn:List D->M D)(a b:D):ynj c 3 fn [a,b] σ=ynu σ.length (fn [.ref σ.length,a,b] (σ++[.ins c []])):=zq6 rfl
@[simp] theorem zyy(c:Nat)(fn:List D->M D)(a b d e f:D):ynj c 6 fn [a,b,d,e,f] σ=ynu σ.length (fn [.ref σ.length,a,b,d,e,f] (σ++[.ins c []])):=zq6 rfl
@[simp] theorem zrl(n:Nat):ynu n (.ok .non σ)=.ok (.ref n) σ:=nr rfl
@[simp] theorem ybj(cs:List Nat)(f:Str)(fv fo:Ev->M D):yun cs f fv fo ρ σ=xsO ρ (yol ρ cs f fo) (fv ρ σ):=yp1 ..
@[simp] theorem zso(cs:List Nat)(f:Str)(fo:Ev->M D)(d:D):yol ρ cs f fo d σ=xsO ρ (yom ρ cs f d) (fo ρ σ):=yp1 ..
theorem zmw{cs:List Nat}{f:Str}{d:D}{c:Nat}{fs:List (Str × D)}(h:cs.contains c=true)(hl:fs.length<1000):yom ρ cs f d (.ref σ.length) (σ++[.ins c fs])=.ok (.nx ρ) (σ++[.ins c (ytp f d fs)]):=by
 have e:ytc cs f d (.ref σ.length) (σ++[.ins c fs])=.ok () (σ++[.ins c (ytp f d fs)]):=by
  have:(σ++[Ob.ins c fs])[σ.length]?=some (.ins c fs):=by simp
  unfold ytc;simp only[this];rw[if_pos (by rw[h];simpa using hl)];simp
 unfold yom;rw[e]
theorem zlj{c:Nat}{ns:List Str}{ds:List D}(h:ns.length=ds.length):ymv σ (.obj c ns ds)=some (c,ns.zip ds):=by unfold ymv;dsimp only;rw[if_pos h]
theorem zzt{cs:List Nat}{f:Str}{x d:D}{c:Nat}{fs:List (Str × D)}(h:ymv σ x=some (c,fs))(hc:cs.contains c=true)(hl:fs.lookup f=some d):ysz cs f x σ=.ok d σ:=by
 unfold ysz;rw[h];dsimp only;rw[if_pos hc,hl]
@[simp] theorem zv4(tb:Mt)(n:Nat)(m:Str)(f:Ev->M D)(fs:Ev->M (List D)):yro tb n m f fs ρ σ=(f ρ σ).bind (ysq tb n m (fs ρ)):=nr rfl
theorem zze{tb:Mt}{n:Nat}{m:Str}{fs:M (List D)}{x:D}{c:Nat}{gs:List (Str × D)}{fn:List D->M D}(h:ymv σ x=some (c,gs))(ht:lkM tb c=some fn)(hl:gs.lookup m=none):ysq tb n m fs x σ=(fs σ).bind (ynn n fn x):=by
 unfold ysq;rw[h];dsimp only;rw[ht,hl];rfl
theorem zre{n:Nat}{fn:List D->M D}{x:D}{ds:List D}(h:ds.length+1=n):ynn n fn x ds σ=fn (x::ds) σ:=by unfold ynn;rw[if_pos h]
@[simp] theorem zza(fn:List D->M D)(x:D):ynn 1 fn x [] σ=fn [x] σ:=zre rfl
@[simp] theorem zzb(fn:List D->M D)(x a:D):ynn 2 fn x [a] σ=fn [x,a] σ:=zre rfl
@[simp] theorem zzc(fn:List D->M D)(x a b:D):ynn 3 fn x [a,b] σ=fn [x,a,b] σ:=zre rfl
@[simp] theorem zzd(fn:List D->M D)(x a b c d:D):ynn 5 fn x [a,b,c,d] σ=fn [x,a,b,c,d] σ:=zre rfl
theorem zpz{c:Nat}{fs:List (Str × D)}(h:clL (fs.map (·.2))=true):yrz σ (.ok (.ref σ.length) (σ++[.ins c fs]))=.ok (.obj c (fs.map (·.1)) (fs.map (·.2))) σ:=by
 unfold yrz;dsimp only;rw[if_pos (by simp)];have e:fz σ.length (σ++[.ins c fs]) 6 (.ref σ.length)=some (.obj c (fs.map (·.1)) (fs.map (·.2))):=by
  unfold fz;rw[if_neg (by simp)];dsimp only;rw[if_neg (Nat.lt_irrefl _)];have:(σ++[Ob.ins c fs])[σ.length]?=some (.ins c fs):=by simp
  rw[this];dsimp only;have hl:∀ (ys:List D) (m:Nat),clL ys=true->fzL (fz σ.length (σ++[.ins c fs]) m) ys=some ys:=by
   intro ys m;induction ys with
   |nil=>intro _;rfl
   |cons y ys ih=>
    intro hc;have hc':cl y=true/\clL ys=true:=by simpa [clL,Bool.and_eq_true]using hc
    unfold fzL;rw[yml hc'.1,ih hc'.2]
  rw[hl _ 5 h];rfl
 rw[e]
@[simp] theorem zr2(i j:Int):yn3 [.int i,.int j] σ=.ok (.int (min i j)) σ:=nr rfl
@[simp] theorem zrv(i:Str):ys0 .str (.str i) σ=.ok (.bl true) σ:=nr rfl
@[simp] theorem zru(c:BT):ys0 c .non σ=.ok (.bl false) σ:=by cases c<;>rfl
end
end L4
namespace L4
open PySem PySem.Spec PySem.Calls PyProof.Rows PySem.Builtin PySem.Builtin.ObjectAttr PySem.Builtin.Getset_descriptor L2
structure ExK(K:PySem.W.Frag)(C:Addr):Prop where
 g:PySem.W.findIn K (.ref C) "__getattribute__" = some (some (.builtin "BaseException.__getattribute__"))
 g2:PySem.W.findIn K (.ref C) "__getattr__" = some none
 mb:PySem.W.mroIn K C (.type "BaseException")=some true
 d:PySem.W.hasDictIn K C=true
 a:PySem.W.findIn K (.ref C) "__class__" = some (some (.builtin "object.__class__"))
 n:PySem.W.specialIn K (.builtin "object.__class__") "__get__" = some (some (.builtin "getset_descriptor.__get__"))
 t:PySem.W.takesIn K (.builtin "object.__class__")=some true
 m:PySem.W.mroIn K C (.type "object")=some true
section
variable{prog:Program}{w:World}{A:Around}{E:Value->Shared->Prop}{s:Shared}{K:PySem.W.Frag}{C ea:Addr}{hp:Heap}{Mo:Model}
theorem ye4(p:ykq C ea hp):PySem.W.Looks Mo hp (typeOf (.ref ea)) (.ref C):=by
 obtain⟨o,h1,h2⟩:=p;rw[<-h2];exact(PySem.W.Looks.ld h1).andThen .now
theorem zpc(Z:ExK K C)(X:K.In hp):PySem.W.Looks Mo hp (find (.ref ea) (.ref C) "__class__") (.bind (.builtin "getset_descriptor.__get__") (.builtin "object.__class__")):=by
 have l3:PySem.W.Looks Mo hp (dataDescriptor? (some (.builtin "object.__class__")) (some (.builtin "getset_descriptor.__get__"))) (some (.builtin "getset_descriptor.__get__",.builtin "object.__class__")):=(PySem.W.looks_takesIn X Z.t).andThen .now;exact(PySem.W.looks_findIn X Z.a).andThen ((PySem.W.looks_specialIn X Z.n).andThen (l3.andThen (PySem.W.Looks.tag .now)))
theorem zwe{tp:Value}{R:Result->Shared->Prop}(Z:ExK K C)(X:K.In s.heap)(p:ykq C ea s.heap)(h:R (.ok (.ret (.ref C))) s):codeAny (model prog w) A (.call (.builtin "getset_descriptor.__get__") ⟨[.builtin "object.__class__",.ref ea,tp],[]⟩) R s:=by
 obtain⟨hh,gl,dr,tt,os⟩:=s;have l0:=ye4 (Mo:=model prog w) p;have l1:=PySem.W.looks_mroIn (M:=model prog w) X Z.m;refine codeAny_call_builtin PySem.W.KF.slot_gs.plain PySem.W.KF.entry_gs (PySem.W.KF.slot_gs.check _ _ _ _ _ _ _ _ PySem.W.KF.type_class (PySem.W.KF.args_gs _ _ _) ?_);unfold Builtin.«getset_descriptor.__get__» descrGet;rw[PySem.W.dga_obj];refine wpAny_bind (wpAny_pure ?_);unfold descrGetter descrCheckInstance descrNameAndClass isInstance;simp only[PySem.W.KF.owner_class];repeat lk
 refine⟨Code.quiet_builtin _ (by decide +kernel),codeAny_builtin PySem.W.KF.entry_class ?_⟩;unfold Builtin.«object.__class__» shownTypeOf;repeat lk
 exact h
theorem zk0{Q:Option Value->Shared->Prop}(Z:ExK K C)(X:K.In s.heap)(p:ykq C ea s.heap)(h:Q (some (.ref C)) { s with toks:=s.toks+1 }):wpAny (model prog w) A (getAttr? (.ref ea) "__class__") Q E s:=by
 obtain⟨hh,gl,dr,tt,os⟩:=s;have l0:=ye4 (Mo:=model prog w) p;have l1:=PySem.W.looks_findIn (M:=model prog w) X Z.g;have l2:=PySem.W.looks_findIn (M:=model prog w) X Z.g2;have l3:=zpc (ea:=ea) (Mo:=model prog w) Z X;have l4:=PySem.W.looks_mroIn (M:=model prog w) X Z.mb;have f3:=PySem.F.excAttr_ValueError.ga.bind (.ref ea);unfold getAttr? getAttrBy? getAttrBy;refine wpAny_bind (wpAny_mkText (wpAny_bind (wpAny_attempt (wpAny_holding (wpAny_bind (l0.at (wpAny_bind (l1.at ?_))))))));show wpAny _ _ (getAttrByItsOwn _ _ _ _ _ _) _ _ _;unfold getAttrByItsOwn hookBefore callGetattribute;repeat (any_goals (first|assumption|(with_reducible refine PySem.W.Looks.at (by assumption) ?_)|wp_step))
 refine codeAny_call_builtin PySem.F.excAttr_ValueError.ga.plain PySem.F.entry_bexc_ga ?_;have hknd:builtinKind "BaseException.__getattribute__" = some .slot:=by decide +kernel
 have hsp:splitId "BaseException.__getattribute__" = some ("BaseException", "__getattribute__"):=by decide +kernel
 have ha:=PySem.F.args_bexc_ga (.ref ea) (.str "__class__" tt);simp only[List.cons_append,List.nil_append,checkBuiltinCall,hknd,hsp];refine wpAny_bind ?_;unfold isInstance;repeat (any_goals (first|assumption|(with_reducible refine PySem.W.Looks.at (by assumption) ?_)|wp_step))
 refine zwe Z X p ?_;exact wpAny_pure (PySem.W.handed_on rfl (wpAny_pure h))
theorem ydh.plain{dd:Option Addr}(p:ydh C dd ea hp):ykq C ea hp:=let ⟨o,h1,h2,_⟩:=p;⟨o,h1,h2⟩
theorem zqq{dd:Option Addr}(Z:ExK K C):PySem.W.KitX K (.ref ea) (.ref C) (ydh C dd ea) where
 ty:=fun _ _ _ p=>ye4 p.plain
 it:=fun _ _ X _=>by
  obtain⟨cd,hcd,_⟩:=PySem.W.any_some Z.d;unfold PySem.W.clsIn at hcd;split at hcd
  ·rename_i ho
   intro A' Q' E' s' k q;unfold isType loadHead;exact wpAny_bind (wpAny_loadPart (k _ _ (X _ _ ho)) (wpAny_pure q))
  ·cases hcd
 ne:=fun h tp dd its n sl X htp=>by
  obtain⟨cd,hcd,_⟩:=PySem.W.any_some Z.d;refine Bool.eq_false_iff.mpr fun q=>?_;have e:C=tp:=Value.ref.inj (beq_iff_eq.mp q);subst e;unfold PySem.W.clsIn at hcd;split at hcd
  ·rename_i ho;have z:=(X _ _ ho).symm.trans htp;cases z
  ·cases hcd
 ca:=fun X p k=>zk0 Z X p.plain k
end
def ys3(t:Nat->Option Bool)(x:D):M D:=fun σ=>match x with
 | .exn c=>(match t c with|some b=>.ok (.bl b) σ|none=>.bad)
 |_=>.bad
section
variable{T:Tb}{X:Cx}
def ytz(K:PySem.W.Frag)(vc:V)(cv:Value):List V->Hp->VK->Prop:=fun xs H Q=>∃ a C dd b,xs=[.ref a,vc]/\H a=some (.ext (ydh C dd a))/\ExK K C/\PySem.W.kitOne K (.ref C) cv=some b/\Q (.bl b) H
theorem zog{vc:V}{cv:Value}(hv:∀ u,yqp vc u->u=cv):ykp X (.builtin "isinstance") (ytz X.K vc cv):=by
 intro pins s st H xs us Q I r h;obtain⟨a,C,dd,b,rfl,ea,Z,e,q⟩:=h;obtain⟨u,u2,rfl,ru,ru2⟩:=ypy r;cases hv _ ru2;cases (show u=Value.ref a from ru);exact PySem.W.kia_one (zqq Z) I.kIn (I.hok a _ ea).1 e (fun z=>nomatch z) fun tk=>⟨.bl b,H,I.tok _,rfl,q⟩
inductive ClsV(X:Cx)(y:Str):V->Value->Prop where
 |own {a:Addr} (h:X.mg y=some (.ref a)):ClsV X y (.ref a) (.ref a)
 |bt {n:String} (h:X.mg y=none) (hv:bootBuiltins y=some (.type n)) (hn:y ≠ "__name__"):ClsV X y (.ty n) (.type n)
theorem ClsV.pe{y:Str}{vc:V}{cv:Value}{p2:Pos}(h:ClsV X y vc cv)(hg2:Gl X y)(hd2:(y == ("__debug__" : Str))=false):PE X (.Name y p2) (tC vc):=by
 cases h with
 |own h=>exact yak hg2 h rfl hd2
 |bt h hv hn=>exact yag hg2 h hv rfl hn hd2
theorem ClsV.rel{y:Str}{vc:V}{cv:Value}(h:ClsV X y vc cv):∀ u,yqp vc u->u=cv:=by
 cases h with
 |own h=>exact fun u q=>q
 |bt h hv hn=>exact fun u q=>q
theorem yfe{y:Str}{vc:V}{cv:Value}{t:Nat->Option Bool}{e:Expr}{f:Ev->M D}{p p2 pos:Pos}(he:FE T X e f)(hg:Gl X "isinstance")(hm:X.mg "isinstance" = none)(hg2:Gl X y)(hd2:(y == ("__debug__" : Str))=false)(hc:ClsV X y vc cv)
  (ht:∀ c b,t c=some b->ExK X.K (T.ca c)/\PySem.W.kitOne X.K (.ref (T.ca c)) cv=some b)
  (hs:starEach [e,.Name y p2] X.env=(false,eval e X.env)::starEach [.Name y p2] X.env:=by rfl) (hpl:(backTo pos (starEach [.Name y p2] X.env)).any (·.1)=false:=by rfl) :
  FE T X (.Call (.Name "isinstance" p) [e,.Name y p2] [] pos) (eUn (ys3 t) f):=by
 intro pins s st H Q I h;refine zsa (zog hc.rel) hg hm boot_isinstance (yae he (yae (hc.pe hg2 hd2) yil) hs) (by decide) (by decide) hs hpl pins s st H Q I ?_;obtain⟨μ,ρ,σ,hE,hr,hp⟩:=h;refine⟨μ,ρ,σ,hE,hr,hp.bind fun x σ1 μ1 v H1 _ e1 r1 p1 q1=>?_⟩;unfold ys3 at q1;cases x with
 |exn c=>
  dsimp only at q1;cases et:t c with
  |none=>rw[et]at q1;exact q1.elim
  |some b=>
   rw[et]at q1;rw[Rep]at p1;obtain⟨a,dd,rfl,_,h2,_⟩:=p1;obtain⟨z1,z2⟩:=ht c b et;exact⟨a,T.ca c,dd,b,rfl,h2,z1,z2,yqm.here q1 r1 (by rw[Rep])⟩
 |_=>exact q1.elim
end
def yqe(K:PySem.W.Frag)(ca:Nat->Addr)(cv:Value)(l:List (Nat × Bool)):Prop:=∀ p∈l,ExK K (ca p.1)/\PySem.W.kitOne K (.ref (ca p.1)) cv=some p.2
theorem ygi{K:PySem.W.Frag}{ca:Nat->Addr}{cv:Value}:yqe K ca cv []:=fun _ h=>nomatch h
theorem zx3{K:PySem.W.Frag}{ca:Nat->Addr}{cv:Value}{c:Nat}{b:Bool}{l:List (Nat × Bool)}(z:ExK K (ca c))(h:PySem.W.kitOne K (.ref (ca c)) cv=some b)(r:yqe K ca cv l):yqe K ca cv ((c,b)::l):=fun p hp=>by
 rcases List.mem_cons.mp hp with rfl|hp
 ·exact⟨z,h⟩
 ·exact r p hp
theorem ymw{K:PySem.W.Frag}{ca:Nat->Addr}{cv:Value}{l:List (Nat × Bool)}(h:yqe K ca cv l):∀ c b,yr5 l c=some b->ExK K (ca c)/\PySem.W.kitOne K (.ref (ca c)) cv=some b:=fun c b e=>h (c,b) (yg2 e)
section
variable{ρ:Ev}{σ:Sto}
@[simp] theorem yga(t:Nat->Option Bool)(i:Nat)(g:Ev->M Fl)(x:Xn):hit ⟨t,some i,g⟩ ρ x σ=(g (ρ.set i (some (.exn x.cls))) σ).bind (yvn i):=nr rfl
@[simp] theorem yc8(i:Nat):yvn i (.nx ρ) σ=.ok (.nx (ρ.set i none)) σ:=nr rfl
theorem zzv{t:Nat->Option Bool}{c:Nat}{b:Bool}(h:t c=some b):ys3 t (.exn c) σ=.ok (.bl b) σ:=by unfold ys3;dsimp only;rw[h]
end
end L4
namespace L4
open PySem PySem.Spec PySem.Calls PyProof.Rows L2
section
variable{T:Tb}{X:Cx}
end
end L4
namespace HT
open PySem Builtin
open Sem (wp)
end HT
namespace L4
open PySem PySem.Spec PyProof.Rows L2
end L4
namespace HT
open PySem Builtin
open Sem (wp)
theorem zqc:typeLookup (.type "bool") (Str.ofString "__index__")=pure (some (.builtin "int.__index__")):=by rw[typeLookup_type,builtinLookup_eq_fast];kernel_rfl
theorem zic(l:Addr)(items:Array Value)(n:Nat)(x:Value)(hx:items[0]?=some x) :
  Meets (Builtin.«list.__getitem__» ⟨[.ref l,.bool false],[]⟩) (fun _ R s=>s.heap.get? l=some { cls:=.type "list",dict:=none,data:=.seq items n,slots:=#[] }/\R (.ok (.ret x)) s):=
 .of_wp fun prog w A R s h=>by
  obtain⟨hp,gg,d,tk,os⟩:=s;obtain⟨hl,h⟩:=h;have f1:=zqc
  wp_walk
  rw[hx];dsimp only[Option.map]
  wp_walk
  exact⟨_,rfl,h⟩
theorem zid(l:Addr)(items:Array Value)(n:Nat)(x:Value)(hx:items[1]?=some x) :
  Meets (Builtin.«list.__getitem__» ⟨[.ref l,.bool true],[]⟩) (fun _ R s=>s.heap.get? l=some { cls:=.type "list",dict:=none,data:=.seq items n,slots:=#[] }/\R (.ok (.ret x)) s):=
 .of_wp fun prog w A R s h=>by
  obtain⟨hp,gg,d,tk,os⟩:=s;obtain⟨hl,h⟩:=h;have f1:=zqc
  wp_walk
  rw[hx];dsimp only[Option.map]
  wp_walk
  exact⟨_,rfl,h⟩
theorem getItem_bool{prog:Program}{w:World}{A:Around}{E:Value->Shared->Prop}{s:Shared}{l:Addr}{items:Array Value}{n:Nat}{b:Bool}{x:Value}{Q:Value->Shared->Prop}(hl:s.heap.get? l=some { cls:=.type "list",dict:=none,data:=.seq items n,slots:=#[] })
  (hx:items[if b then 1 else 0]?=some x) (h:Q x s):wpAny (model prog w) A (getItem (.ref l) (.bool b)) Q E s:=by
 cases b with
 |false=>exact getItem_meets ⟨_,hl,rfl⟩ (by decide) slot_list_getitem entry_list_getitem (args_list_getitem _ _) (zic l items n x hx) ⟨hl,h⟩
 |true=>exact getItem_meets ⟨_,hl,rfl⟩ (by decide) slot_list_getitem entry_list_getitem (args_list_getitem _ _) (zid l items n x hx) ⟨hl,h⟩
end HT
namespace L4
open PySem PySem.Spec PyProof.Rows L2
section
variable{T:Tb}{X:Cx}
def yt0:R2:=fun x y H Q=>∃ p xs b v,x=.ref p/\y=.bl b/\H p=some (.lst xs)/\xs[if b then 1 else 0]?=some v/\Q v H
theorem zx2:IxR X yt0:=by
 intro value slice pins s st H x y v u Q I rx ry h hs;obtain⟨p,xs,b,z,rfl,rfl,hq,he,q⟩:=h;cases rx;cases ry;obtain⟨its,n,r,ho,_⟩:=I.lst hq;obtain⟨w,ew,rw'⟩:=r.get he;exact subscriptTail_builtinR (x:=w) ⟨_,ho,rfl⟩ slot_list_getitem.lookup (HT.getItem_bool (Q:=fun r s'=>r=w/\EP X pins st Q r s') ho (by simpa using ew) ⟨rfl,⟨z,H,I,rw',q⟩⟩) hs
def ys4(x y:D):M D:=fun σ=>match y with
 | .bl b=>(match ysf σ x with
  |some xs=>(match xs[if b then 1 else 0]? with
   |some d=>.ok d σ
   |none=>.bad)
  |none=>.bad)
 |_=>.bad
theorem ycf:yk0 T yt0 ys4:=by
 intro E μ H σ x y v u Q r p q h;unfold ys4 at h;cases y with
 |bl b=>
  dsimp only at h;cases e:ysf σ x with
  |none=>rw[e]at h;exact h.elim
  |some xs=>
   rw[e]at h;dsimp only at h;cases e2:xs[if b then 1 else 0]? with
   |none=>rw[e2]at h;exact h.elim
   |some d=>
    rw[e2]at h;obtain⟨a,vs,rfl,h1,h2⟩:=r.ls p e;rw[Rep]at q;subst q;obtain⟨w,h3,h4⟩:=zu3 (k:=if b then 1 else 0) h2 (by cases b<;>exact zu2 e2);refine⟨a,vs,b,w,rfl,rfl,h1,?_,yqm.here h r h4⟩;cases b with
    |false=>
     obtain⟨j,z1,z2,_⟩:=zu1 h3;have z:=z1.symm;simp[seqIndex?]at z;rw[z.2]at z2;exact z2
    |true=>
     obtain⟨j,z1,z2,_⟩:=zu1 h3;have z:=z1.symm;simp[seqIndex?]at z;rw[z.2]at z2;exact z2
 |_=>exact h.elim
@[simp] theorem yht(a:D)(r:List D)(σ:Sto):ys4 (.lst (a::r)) (.bl false) σ=.ok a σ:=nr rfl
end
end L4
namespace L2
open PySem PySem.Spec PyProof.Rows
section
variable{κ:Type}[DecidableEq κ]
def yvo(kvs:List (κ × V))(k:κ):Option V:=(kvs.find? fun kv=>decide (kv.1=k)).map (·.2)
def yts(kvs:List (κ × V))(k:κ)(v:V):List (κ × V):=
 if (kvs.any fun kv=>decide (kv.1=k))=true then kvs.map (fun kv=>if kv.1=k then (kv.1,v)else kv)else kvs++[(k,v)]
def ylr(kvs:List (κ × V))(k:κ):List (κ × V):=kvs.filter fun kv=>decide (kv.1≠k)
theorem zui{p:κ × V}{r:List (κ × V)}{k:κ}(e:p.1=k):yvo (p::r) k=some p.2:=by simp[yvo,List.find?_cons,e]
theorem zuh{p:κ × V}{r:List (κ × V)}{k:κ}(e:¬ p.1=k):yvo (p::r) k=yvo r k:=by simp[yvo,List.find?_cons,e]
theorem zug(k:κ):∀ kvs:List (κ × V),(kvs.any fun kv=>decide (kv.1=k))=(yvo kvs k).isSome
 |[]=>rfl
 |p::r=>by
  rw[List.any_cons];by_cases e:p.1=k
  ·simp only[zui e,decide_eq_true e,Bool.true_or,Option.isSome_some]
  ·rw[zuh e,decide_eq_false e,Bool.false_or];exact zug k r
theorem zgi(kvs:List (κ × V))(k:κ)(v:V):(yts kvs k v).length<=kvs.length+1:=by
 unfold yts;split
 ·rw[List.length_map];omega
 ·rw[List.length_append,List.length_cons,List.length_nil];omega
theorem yqo.isSome_eq{o:Option V}{u:Option Value}(r:yqo o u):o.isSome=u.isSome:=by
 cases o with
 |none=>cases u with
  |none=>rfl
  |some _=>exact(show False from r).elim
 |some _=>cases u with
  |none=>exact(show False from r).elim
  |some _=>rfl
theorem yqo.getD{o:Option V}{u:Option Value}{d:V}{d':Value}(r:yqo o u)(rd:yqp d d'):yqp (o.getD d) (u.getD d'):=by
 cases o with
 |none=>cases u with
  |none=>exact rd
  |some _=>exact(show False from r).elim
 |some _=>cases u with
  |none=>exact(show False from r).elim
  |some _=>exact r
theorem KV.val{kvs:List (κ × V)}{vs:List (κ × Value)}(r:KV kvs vs)(k:κ):yqo (yvo kvs k) (valueAt vs k):=by
 unfold KV at r;induction r with
 |nil=>exact True.intro
 |@cons p q ps qs h t ih=>
  obtain⟨h1,h2⟩:=h;by_cases e:p.1=k
  ·have e':q.1=k:=h1.symm.trans e;have b:valueAt (q::qs) k=some q.2:=by simp[valueAt,List.find?_cons,e']
   rw[zui e,b];exact h2
  ·have e':¬ q.1=k:=fun z=>e (h1.trans z);have b:valueAt (q::qs) k=valueAt qs k:=by simp[valueAt,List.find?_cons,e']
   rw[zuh e,b];exact ih
theorem KV.any{kvs:List (κ × V)}{vs:List (κ × Value)}(r:KV kvs vs)(k:κ):(kvs.any fun kv=>decide (kv.1=k))=vs.any fun kv=>decide (kv.1=k):=by
 unfold KV at r;induction r with
 |nil=>rfl
 |cons h t ih=>rw[List.any_cons,List.any_cons,ih,h.1]
theorem KV.repl{kvs:List (κ × V)}{vs:List (κ × Value)}(r:KV kvs vs)(k:κ){y:V}{u:Value}(ry:yqp y u) :
  KV (kvs.map fun kv=>if kv.1=k then (kv.1,y)else kv) (vs.map fun kv=>if kv.1=k then (kv.1,u)else kv):=by
 unfold KV at r ⊢;induction r with
 |nil=>exact .nil
 |@cons p q ps qs h t ih=>
  rw[List.map_cons,List.map_cons];refine .cons ?_ ih;obtain⟨h1,h2⟩:=h;by_cases e:p.1=k
  ·rw[if_pos e,if_pos (h1.symm.trans e)];exact⟨h1,ry⟩
  ·rw[if_neg e,if_neg (fun z=>e (h1.trans z))];exact⟨h1,h2⟩
theorem KV.put{kvs:List (κ × V)}{vs:List (κ × Value)}(r:KV kvs vs)(k:κ){y:V}{u:Value}(ry:yqp y u):KV (yts kvs k y) (stored vs k u):=by
 unfold yts stored;rw[r.any k];by_cases e:(vs.any fun kv=>decide (kv.1=k))=true
 ·rw[if_pos e,if_pos e];exact r.repl k ry
 ·rw[if_neg e,if_neg e];exact Paired.snoc r ⟨rfl,ry⟩
theorem KV.drop{kvs:List (κ × V)}{vs:List (κ × Value)}(r:KV kvs vs)(k:κ):KV (ylr kvs k) (without vs k):=by
 unfold KV at r ⊢;unfold ylr without;induction r with
 |nil=>exact .nil
 |@cons p q ps qs h t ih=>
  obtain⟨h1,h2⟩:=h;rw[List.filter_cons,List.filter_cons];by_cases e:p.1=k
  ·have a:¬ decide (p.1≠k)=true:=by simp[e]
   have b:¬ decide (q.1≠k)=true:=by simp[h1.symm.trans e]
   rw[if_neg a,if_neg b];exact ih
  ·have e':¬ q.1=k:=fun z=>e (h1.trans z);have a:decide (p.1≠k)=true:=by simp[e]
   have b:decide (q.1≠k)=true:=by simp[e']
   rw[if_pos a,if_pos b];exact .cons ⟨h1,h2⟩ ih
theorem KV.keys{kvs:List (κ × V)}{vs:List (κ × Value)}(r:KV kvs vs):kvs.map (·.1)=vs.map (·.1):=by
 unfold KV at r;induction r with
 |nil=>rfl
 |cons h t ih=>rw[List.map_cons,List.map_cons,ih,h.1]
theorem KV.length{kvs:List (κ × V)}{vs:List (κ × Value)}(r:KV kvs vs):kvs.length=vs.length:=Paired.length r
end
theorem ym1{P:Program}{w:World}{k:Key}{u:Value}(r:yqp (kV k) u):(zy2 P w).is k u=true:=by
 cases k with
 |inl i=>obtain⟨t,e⟩:=(show ∃ t,u=Value.int i t from r);subst e;exact zgm P w i t
 |inr x=>obtain⟨t,e⟩:=(show ∃ t,u=Value.str x t from r);subst e;exact zgn P w x t
theorem zlp{P:Program}{w:World}:∀ {ks:List Key} {us:List Value},yqx (ks.map kV) us->ItemsAre (zy2 P w) ks us
 |[],_,r=>by rw[List.map_nil]at r;cases r;exact .nil
 |k::ks,_,r=>by
  rw[List.map_cons]at r;cases r with
  |cons h t=>exact .cons (ym1 h) (zlp t)
abbrev KT(H:Hp):List (List Key × V)->List (List Key × Addr × Value)->Prop:=Paired fun p q=>p.1=q.1/\H q.2.1=some (.tup (p.1.map kV))/\yqp p.2 q.2.2
theorem KT.val{H:Hp}{kvs:List (List Key × V)}{xs:List (List Key × Addr × Value)}(r:KT H kvs xs)(k:List Key):yqo (yvo kvs k) ((atKey xs k).map (·.2)):=by
 induction r with
 |nil=>exact True.intro
 |@cons p q ps qs h t ih=>
  obtain⟨h1,_,h2⟩:=h;by_cases e:p.1=k
  ·have e':q.1=k:=h1.symm.trans e;have b:atKey (q::qs) k=some q.2:=by simp[atKey,List.find?_cons,e']
   rw[zui e,b];exact h2
  ·have e':¬ q.1=k:=fun z=>e (h1.trans z);have b:atKey (q::qs) k=atKey qs k:=by simp[atKey,List.find?_cons,e']
   rw[zuh e,b];exact ih
theorem KT.repl{H:Hp}{kvs:List (List Key × V)}{xs:List (List Key × Addr × Value)}(r:KT H kvs xs)(k:List Key){y:V}{u:Value}(ry:yqp y u) :
  KT H (kvs.map fun kv=>if kv.1=k then (kv.1,y)else kv) (xs.map (putAt k u)):=by
 induction r with
 |nil=>exact .nil
 |@cons p q ps qs h t ih=>
  rw[List.map_cons,List.map_cons];refine .cons ?_ ih;obtain⟨h1,h2,h3⟩:=h;unfold putAt;by_cases e:p.1=k
  ·rw[if_pos e,if_pos (h1.symm.trans e)];exact⟨h1,h2,ry⟩
  ·rw[if_neg e,if_neg (fun z=>e (h1.trans z))];exact⟨h1,h2,h3⟩
theorem KT.put{H:Hp}{kvs:List (List Key × V)}{xs:List (List Key × Addr × Value)}(r:KT H kvs xs)(k:List Key){b:Addr}{y:V}{u:Value}(hb:H b=some (.tup (k.map kV)))(ry:yqp y u) :
  KT H (yts kvs k y) (storedH xs k b u):=by
 have e:(kvs.any fun kv=>decide (kv.1=k))=(atKey xs k).isSome:=by
  rw[zug,(r.val k).isSome_eq,Option.isSome_map]
 unfold yts storedH;rw[e];by_cases q:(atKey xs k).isSome=true
 ·rw[if_pos q,if_pos q];exact r.repl k ry
 ·rw[if_neg q,if_neg q];exact Paired.snoc r ⟨rfl,hb,ry⟩
theorem KT.keeps{H H':Hp}{kvs:List (List Key × V)}{xs:List (List Key × Addr × Value)}(r:KT H kvs xs)(ht:∀ b ys,H b=some (.tup ys)->H' b=some (.tup ys)):KT H' kvs xs:=
 Paired.mapP r fun _ _ z=>⟨z.1,ht _ _ z.2.1,z.2.2⟩
section
variable{P:Program}{w:World}{H:Hp}{h:Heap}{a:Addr}
theorem yoy{u:HO}(ok:HOk P w H h)(e:Rd H a u):ykv P w H h a u:=e.ok ok
theorem ylp{kvs:List (Key × V)}(ok:HOk P w H h)(e:Rd H a (.dK kvs)):kvs.length<=sizeLine/\(a == sysModules)=false/\∃ vs,KV kvs vs/\h.DictOf (zy2 P w) a vs:=
 show ykv P w H h a (.dK kvs)from yoy ok e
theorem ylo{kvs:List (Key × V)}(ok:HOk P w H h)(e:H a=some (.dK kvs)):kvs.length<=sizeLine/\(a == sysModules)=false/\∃ vs,KV kvs vs/\h.DictOf (zy2 P w) a vs:=ylp ok (.inl e)
theorem ygp{ks:List Key}(ok:HOk P w H h)(e:H a=some (.tup (ks.map kV))):(tupleKind (zy2 P w)).is h ks a:=by
 obtain⟨_,its,r,o,h1,h2,n,h3⟩:=(show ykv P w H h a (.tup (ks.map kV))from ok a _ e)
 exact⟨o,its.toArray,n,h1,h2,h3,by simpa using zlp r⟩
theorem ylt{kvs:List (List Key × V)}(ok:HOk P w H h)(e:Rd H a (.dT kvs)):kvs.length<=sizeLine/\(a == sysModules)=false/\
  ∃ xs,KT H kvs xs/\h.DictOfH (tupleKind (zy2 P w)) a xs:=by
 obtain⟨z,y,xs,r,o,es,ep,h1,h2,h3,h4,h5⟩:=(show ykv P w H h a (.dT kvs)from yoy ok e)
 refine⟨z,y,xs,r,o,es,ep,h1,h2,h3,h4,fun x hx=>?_,h5⟩;have all:∀ {l:List (List Key × V)} {m:List (List Key × Addr × Value)},KT H l m->∀ x∈m,(tupleKind (zy2 P w)).is h x.1 x.2.1:=by
  intro l m q;induction q with
  |nil=>intro x hx;exact nomatch hx
  |@cons p q ps qs hq t ih=>
   intro x hx;rcases List.mem_cons.mp hx with e|hx
   ·subst e;exact ygp ok (by rw[<-hq.1];exact hq.2.1)
   ·exact ih x hx
 exact all r x hx
theorem yls{kvs:List (List Key × V)}(ok:HOk P w H h)(e:H a=some (.dT kvs)):kvs.length<=sizeLine/\(a == sysModules)=false/\
  ∃ xs,KT H kvs xs/\h.DictOfH (tupleKind (zy2 P w)) a xs:=ylt ok (.inl e)
end
def yp4(H:Hp)(a:Addr)(y:V)(r:Option V):Prop:=
 (∃ kvs k,Rd H a (.dK kvs)/\y=kV k/\r=yvo kvs k)\/∃ kvs k b,Rd H a (.dT kvs)/\y=.ref b/\H b=some (.tup (k.map kV))/\r=yvo kvs k
def yp5(H:Hp)(a:Addr)(y v:V)(H':Hp):Prop:=
 (∃ kvs k,H a=some (.dK kvs)/\y=kV k/\kvs.length<sizeLine/\H'=upd H a (.dK (yts kvs k v)))\/
 ∃ kvs k b,H a=some (.dT kvs)/\y=.ref b/\H b=some (.tup (k.map kV))/\kvs.length<sizeLine/\H'=upd H a (.dT (yts kvs k v))
theorem yp4.k{H:Hp}{a:Addr}{kvs:List (Key × V)}{k:Key}(e:H a=some (.dK kvs)):yp4 H a (kV k) (yvo kvs k):=.inl ⟨kvs,k,.inl e,rfl,rfl⟩
theorem yp4.t{H:Hp}{a b:Addr}{kvs:List (List Key × V)}{k:List Key}(e:H a=some (.dT kvs))(eb:H b=some (.tup (k.map kV))):yp4 H a (.ref b) (yvo kvs k):=.inr ⟨kvs,k,b,.inl e,rfl,eb,rfl⟩
theorem yp5.k{H:Hp}{a:Addr}{kvs:List (Key × V)}{k:Key}{v:V}(e:H a=some (.dK kvs))(hl:kvs.length<sizeLine):yp5 H a (kV k) v (upd H a (.dK (yts kvs k v))):=.inl ⟨kvs,k,e,rfl,hl,rfl⟩
theorem yp5.t{H:Hp}{a b:Addr}{kvs:List (List Key × V)}{k:List Key}{v:V}(e:H a=some (.dT kvs))(eb:H b=some (.tup (k.map kV)))(hl:kvs.length<sizeLine) :
  yp5 H a (.ref b) v (upd H a (.dT (yts kvs k v))):=.inr ⟨kvs,k,b,e,rfl,eb,hl,rfl⟩
section
variable{X:Cx}{pins:List (Addr × Obj)}{σ:St}{H:Hp}{s:Shared}{a:Addr}{y v:V}{u r:Value}{o:Option V}{A:Around}{E:Value->Shared->Prop}
theorem Inv.big(I:Inv X pins σ H s):sysModules<s.heap.objs.size:=by
 have h:mainGlobals<s.heap.objs.size:=(I.mod.glob.keeps I.bk).lt;exact Nat.lt_trans (by decide) h
theorem zko{Q:Value->Shared->Prop}(hu:A.units+1<cLine)(I:Inv X pins σ H s)(g:yp4 H a y (some v))(ry:yqp y u)(h:∀ w' s',Inv X pins σ H s'->yqp v w'->Q w' s') :
  wpAny (model X.prog X.w) A (getItem (.ref a) u) Q E s:=by
 rcases g with⟨kvs,k,e,ey,l⟩|⟨kvs,k,b,e,ey,eb,l⟩
 ·subst ey;obtain⟨z,hd,vs,rel,dd⟩:=ylp I.hok e;obtain⟨w',hw,rw'⟩:=yqo.some_of (v:=v) (o:=valueAt vs k) (by rw[l];exact rel.val k);exact wpAny_getItem_of (ym1 ry) dd.mapOf hw (h w' _ (I.tok _) rw')
 ·subst ey;cases (show u=Value.ref b from ry);obtain⟨z,hd,xs,rel,dd⟩:=ylt I.hok e;obtain⟨w',hw,rw'⟩:=yqo.some_of (v:=v) (o:=(atKey xs k).map (·.2)) (by rw[l];exact rel.val k);obtain⟨p,hp,hp2⟩:=Option.map_eq_some_iff.mp hw;refine wpAny_getItem_heap (tupleKind_room_in1 hu) (ygp I.hok eb) dd hp ?_;rw[hp2];exact h w' _ (I.tok _) rw'
theorem zvp{Q:Value->Shared->Prop}(hu:A.units+1<cLine)(I:Inv X pins σ H s)(g:yp4 H a y o)(ry:yqp y u)(h:∀ s',Inv X pins σ H s'->Q (.bool (!o.isSome)) s') :
  wpAny (model X.prog X.w) A (compareOp .NotIn u (.ref a)) Q E s:=by
 rcases g with⟨kvs,k,e,ey,l⟩|⟨kvs,k,b,e,ey,eb,l⟩
 ·subst ey;obtain⟨z,hd,vs,rel,dd⟩:=ylp I.hok e;refine wpAny_notIn_of (ym1 ry) hd dd.mapOf ?_;rw[<-(rel.val k).isSome_eq,<-l];exact h _ (I.tok _)
 ·subst ey;cases (show u=Value.ref b from ry);obtain⟨z,hd,xs,rel,dd⟩:=ylt I.hok e;refine wpAny_notIn_heap (tupleKind_room_in1 hu) (ygp I.hok eb) hd dd ?_;have q:=(rel.val k).isSome_eq;rw[Option.isSome_map]at q;rw[<-q,<-l];exact h _ (I.tok _)
theorem zvq{h':Heap}{t':Nat}{ob:HO}(I:Inv X pins σ H s)(mu:Mut (H a))(hs:Heap.SameBut a s.heap h')(he:∃ q,h'.get? a=some q)(new:ykv X.prog X.w (upd H a ob) h' a ob) :
  Inv X pins σ (upd H a ob) { s with heap:=h',toks:=t' }:=
 I.write (x:=a) (e:=a) mu (.inl rfl) (fun b q hb z=>(hs.2 b hb).trans z) he new
theorem yej{P:Program}{w:World}{H':Hp}{h':Heap}{kvs:List (Key × V)}{vs:List (Key × Value)}(z:kvs.length<=sizeLine)(hd:(a == sysModules)=false)(rel:KV kvs vs)(dd:h'.DictOf (zy2 P w) a vs) :
  ykv P w H' h' a (.dK kvs):=⟨z,hd,vs,rel,dd⟩
theorem zkp{H':Hp}{Q:Unit->Shared->Prop}(hu:A.units+1<cLine)(I:Inv X pins σ H s)(g:yp5 H a y v H')(ry:yqp y u)(rv:yqp v r)(h:∀ s',Inv X pins σ H' s'->Q () s') :
  wpAny (model X.prog X.w) A (setItem (.ref a) u r) Q E s:=by
 rcases g with⟨kvs,k,e,ey,l,eH⟩|⟨kvs,k,b,e,ey,eb,l,eH⟩
 ·subst ey eH;obtain⟨z,hd,vs,rel,dd⟩:=ylo I.hok e;have hz:vs.length<=sizeLine:=by rw[<-rel.length];exact z
  have hl:(yts kvs k v).length<=sizeLine:=by have:=zgi kvs k v;omega
  refine wpAny_setItem_pairs (hsz:=hz) (ym1 ry) dd fun h' dd' hs=>h _ ?_;have he:∃ q,h'.get? a=some q:=let ⟨q,_,_,hq,_⟩:=dd';⟨q,hq⟩;exact zvq I (by rw[e];exact True.intro) hs he (yej hl hd (rel.put k rv) dd')
 ·subst ey eH;cases (show u=Value.ref b from ry);obtain⟨z,hd,xs,rel,dd⟩:=yls I.hok e;have hz:xs.length<=sizeLine:=by rw[<-Paired.length rel];exact z
  have hl:(yts kvs k v).length<=sizeLine:=by have:=zgi kvs k v;omega
  refine wpAny_setItem_heap (hsz:=hz) (tupleKind_room_in1 hu) (ygp I.hok eb) dd fun h' dd' hs=>h _ ?_;obtain⟨q,es,ep,hq,h2,h3,h4,_,h5⟩:=dd';refine zvq I (by rw[e];exact True.intro) hs ⟨q,hq⟩ ⟨hl,hd,_,(rel.put k eb rv).keeps fun c ys ec=>?_,q,es,ep,hq,h2,h3,h4,h5⟩;rw[upd_ne (ynr ec e (fun z=>nomatch z))];exact ec
end
section
variable{X:Cx}{pins:List (Addr × Obj)}{σ:St}{H:Hp}{s:Shared}{a:Addr}{kvs:List (Key × V)}{k:Key}{u:Value}{A:Around}{E:Value->Shared->Prop}
end
def yqh(i:Expr):Prop:=∀ ov iv,subscripted i false ov iv=operate [ov,iv] (getItem ov iv)
theorem yc0{prog:Program}{w:World}{A:Around}{E:Value->Shared->Prop}{s:Shared}{env:Env}{value slice:Expr}{pos:Pos}{T id:String}{Q:Value->Shared->Prop}
  (hl:typeLookup (.type T) "__getitem__" = pure (some (.builtin id))) (hs:yqh slice)
  (h:wpAny (model prog w) A (eval value env) (fun o s₁=>wpAny (model prog w) A (eval slice env) (fun i s₂=>s₂.TypeIs o T/\wpAny (model prog w) A (getItem o i) Q E s₂) E s₁) E s) :
  wpAny (model prog w) A (eval (.Subscript value slice pos) env) Q E s:=by
 refine Subscript_ (wpAny_mono h (fun o s₁ h₁=>wpAny_mono h₁ (fun i s₂ h₂=>?_) fun _ _ x=>x) fun _ _ x=>x);obtain⟨hT,h₂⟩:=h₂;unfold subscriptTail;refine wpAny_bind ?_;rw[getitemInPython_of_ne hT.not_modules];refine wpAny_bind (wpAny_specialOf hT hl ?_);have fin:wpAny (model prog w) A (subscripted slice false o i) (fun r s₃=>wpAny (model prog w) A (letTemporaryGo value o r >>= fun _=>pure r) Q E s₃) E s₂:=by
  rw[hs o i];exact wpAny_operating (wpAny_mono h₂ (fun r s₃ h₃=>wpAny_bind (wpAny_letTemporaryGo (wpAny_pure h₃))) fun _ _ x=>x)
 first
  |exact wpAny_pure (wpAny_bind fin)
  |exact wpAny_bind (wpAny_pure (wpAny_bind fin))
  |exact wpAny_bind fin
theorem zf3{X:Cx}{pins:List (Addr × Obj)}{σ:St}{H:Hp}{s:Shared}{a:Addr}{y:V}{o:Option V}(I:Inv X pins σ H s)(g:yp4 H a y o):s.TypeIs (.ref a) "dict":=by
 rcases g with⟨kvs,k,e,_,_⟩|⟨kvs,k,b,e,_,_,_⟩
 ·obtain⟨_,_,vs,_,dd⟩:=ylp I.hok e;exact dd.typeIs
 ·obtain⟨_,_,xs,_,dd⟩:=ylt I.hok e;exact dd.typeIs
def ypk(td ty:TE):TE:=fun σ H Q=>td σ H fun x H1=>ty σ H1 fun y H2=>∃ a v,x=.ref a/\yp4 H2 a y (some v)/\Q v H2
section
variable{X:Cx}{o i e value:Expr}{pos pos' tpos:Pos}{td ty tv:TE}
theorem yai(hu:X.A.units+1<cLine)(ho:PE X o td)(hi:PE X i ty)(hs:yqh i):PE X (.Subscript o i pos) (ypk td ty):=by
 intro pins s σ H Q I h;refine yc0 PySem.F.slot_dict_getitem.lookup hs (thn (ho pins s σ H _ I h) fun u s1 ⟨x,H1,I1,rx,q1⟩=>thn (hi pins s1 σ H1 _ I1 q1) fun iv s2 ⟨y,H2,I2,ry,a,v,ex,g,q2⟩=>?_);subst ex;obtain rfl:u=Value.ref a:=rx;exact⟨zf3 I2 g,zko hu I2 g ry fun w' s3 I3 rw'=>⟨v,H2,I3,rw',q2⟩⟩
end
theorem zou{P:Program}{w:World}{H:Hp}(h:Heap)(hb:sysModules<h.objs.size):ykv P w H (h.push { cls:=.type "dict",data:=.dict #[] }) h.objs.size (.dK []):=
 ⟨Nat.zero_le _,beq_eq_false_iff_ne.mpr (Ne.symm (Nat.ne_of_lt hb)),[],.nil,Heap.DictOf.new h⟩
def yj5:TE:=fun _ H Q=>∀ p,H p=none->Q (.ref p) (upd H p (.dK []))
section
variable{X:Cx}{pos:Pos}
theorem zsc:PE X (.Dict [] [] pos) yj5:=fun pins s σ H Q I h=>
 wpAny_Dict_empty ⟨.ref s.heap.objs.size,_,I.laid (a:=s.heap.objs.size) (o:=.dK []) (t':=s.toks) (fun _ _ q=>Heap.get?_push_of_some _ q) (Nat.le_refl _) (zou s.heap I.big),rfl,h _ (I.hok.fresh (Nat.le_refl _))⟩
end
section
variable{X:Cx}{pins:List (Addr × Obj)}{σ:St}{H:Hp}{s:Shared}{a:Addr}{kvs:List (Key × V)}{A:Around}{E:Value->Shared->Prop}
theorem zor{Q:Value->Shared->Prop}(I:Inv X pins σ H s)(e:Rd H a (.dK kvs))(h:∀ p s',H p=none->Inv X pins σ (upd H p (.dK kvs)) s'->Q (.ref p) s'):wpAny (model X.prog X.w) A (call (.type "dict") [.ref a]) Q E s:=by
 obtain⟨z,hd,vs,rel,dd⟩:=ylp I.hok e;refine kt_call_dict hd dd (by rw[<-rel.length];exact z) fun h' dd' hs=>?_;refine h _ _ (I.hok.fresh (Nat.le_refl _)) (I.laid (a:=s.heap.objs.size) (o:=.dK kvs) (t':=s.toks) (fun b q hq=>?_) (Nat.le_refl _) (yej z (beq_eq_false_iff_ne.mpr (Ne.symm (Nat.ne_of_lt I.big))) rel dd'));exact(hs.2 b (Nat.ne_of_lt (Heap.lt_size hq))).trans (Heap.get?_push_of_some _ hq)
end
end L2
namespace L4
open PySem PySem.Spec PyProof.Rows L2
def ysa:D->Option Key
 | .int i=>some (.inl i)
 | .str x=>some (.inr x)
 |_=>none
def yrj(σ:Sto):D->Option (List (Key × D))
 | .dic ks xs=>if ks.length=xs.length then some (ks.zip xs)else none
 | .ref n=>(match σ[n]? with
  |some (.dic kvs)=>some kvs
  |_=>none)
 |_=>none
def ymb(kvs:List (Key × D))(k:Key):Option D:=(kvs.find? fun kv=>decide (kv.1=k)).map (·.2)
def yok(kvs:List (Key × D))(k:Key)(d:D):List (Key × D):=
 if kvs.any (fun kv=>decide (kv.1=k))then kvs.map fun kv=>if kv.1=k then (kv.1,d)else kv else kvs++[(k,d)]
section
variable{T:Tb}{X:Cx}{μ:List Addr}{H:Hp}
theorem zyb{y:D}{v:V}{k:Key}(h:Rep T μ H y v)(e:ysa y=some k):v=kV k:=by
 cases y<;>simp[ysa]at e<;>subst e<;>rw[Rep]at h<;>exact h
theorem zsx:∀ {ks:List Key} {ds:List D} {kvs:List (Key × V)},kvs.map (·.1)=ks->yqs T μ H ds (kvs.map (·.2))->yqr T μ H (ks.zip ds) kvs
 |ks,[],kvs,h1,h2=>by
  rw[yqs]at h2;have:kvs=[]:=by simpa using h2
  subst this;rw[<-h1];exact .nil
 |ks,d::ds,kvs,h1,h2=>by
  rw[yqs]at h2;obtain⟨v,r,e,q1,q2⟩:=h2;cases kvs with
  |nil=>cases e
  |cons p kvs=>
   rw[List.map_cons]at e h1;cases e;rw[<-h1];exact .cons ⟨rfl,q1⟩ (zsx rfl q2)
theorem yje{σ:Sto}(r:Rel T μ H σ){x:D}{v:V}{kvs:List (Key × D)}(h:Rep T μ H x v)(e:yrj σ x=some kvs):∃ a vs,v=.ref a/\H a=some (.dK vs)/\yqr T μ H kvs vs:=by
 cases x with
 |dic ks xs=>
  rw[Rep]at h;obtain⟨a,vs,rfl,_,h1,h2,h3⟩:=h;unfold yrj at e;dsimp only at e;split at e
  ·cases e;exact⟨a,vs,rfl,h1,zsx h2 h3⟩
  ·cases e
 |ref n=>
  unfold yrj at e;dsimp only at e;cases q:σ[n]? with
  |none=>rw[q]at e;cases e
  |some o=>
   rw[q]at e;cases o with
   |dic kvs'=>
    cases e;obtain⟨a,rfl,_,vs,h1,h2⟩:=r.at h q;exact⟨a,vs,rfl,h1,h2⟩
   |_=>cases e
 |_=>cases e
theorem zpr{kvs:List (Key × D)}{vs:List (Key × V)}(h:yqr T μ H kvs vs)(k:Key):(ymb kvs k=none/\yvo vs k=none)\/∃ d v,ymb kvs k=some d/\yvo vs k=some v/\Rep T μ H d v:=by
 unfold yqr at h;induction h with
 |nil=>exact .inl ⟨rfl,rfl⟩
 |@cons p q ps qs h t ih=>
  obtain⟨h1,h2⟩:=h;by_cases e:p.1=k
  ·have e':q.1=k:=h1.symm.trans e;exact .inr ⟨p.2,q.2,by unfold ymb;rw[List.find?_cons,decide_eq_true e];rfl,zui e',h2⟩
  ·have e':¬ q.1=k:=fun z=>e (h1.trans z);have f:ymb (p::ps) k=ymb ps k:=by unfold ymb;rw[List.find?_cons,decide_eq_false e]
   rw[f,zuh e'];exact ih
theorem zuy{kvs:List (Key × D)}{vs:List (Key × V)}(h:yqr T μ H kvs vs)(k:Key):(kvs.any fun kv=>decide (kv.1=k))=(vs.any fun kv=>decide (kv.1=k)):=by
 unfold yqr at h;induction h with
 |nil=>rfl
 |@cons p q ps qs h t ih=>rw[List.any_cons,List.any_cons,ih,h.1]
theorem ziy{α β:Type}{F:α->β->Prop}{f:α->α}{g:β->β}(hfg:∀ a b,F a b->F (f a) (g b)):∀ {l:List α} {m:List β},Paired F l m->Paired F (l.map f) (m.map g)
 |_,_,.nil=>.nil
 |_,_,.cons h t=>.cons (hfg _ _ h) (ziy hfg t)
theorem zgy{α β:Type}{F:α->β->Prop}{a:α}{b:β}(hab:F a b):∀ {l:List α} {m:List β},Paired F l m->Paired F (l++[a]) (m++[b])
 |_,_,.nil=>.cons hab .nil
 |_,_,.cons h t=>.cons h (zgy hab t)
theorem zow{kvs:List (Key × D)}{vs:List (Key × V)}(h:yqr T μ H kvs vs)(k:Key){d:D}{v:V}(hd:Rep T μ H d v):yqr T μ H (yok kvs k d) (yts vs k v):=by
 unfold yok yts;rw[zuy h k];split
 ·refine ziy (fun p q h=>?_) h;by_cases e:p.1=k
  ·rw[if_pos e,if_pos (h.1.symm.trans e)];exact⟨h.1,hd⟩
  ·rw[if_neg e,if_neg (fun z=>e (h.1.trans z))];exact h
 ·exact zgy ⟨rfl,hd⟩ h
theorem yqr.mono{μ':List Addr}{H':Hp}(e:Ext μ H μ' H'){kvs:List (Key × D)}{vs:List (Key × V)}(h:yqr T μ H kvs vs):yqr T μ' H' kvs vs:=Paired.mapP h fun _ _ z=>⟨z.1,Rep.mono e _ _ z.2⟩
def yny(x y:D):M D:=fun σ=>match ysa y with
 |some k=>(match yrj σ x with
  |some kvs=>(match ymb kvs k with
   |some d=>.ok d σ
   |none=>.bad)
  |none=>.bad)
 |none=>.bad
theorem zwo{o i:Expr}{fo fi:Ev->M D}{pos:Pos}(hu:X.A.units+9<cLine)(ho:FE T X o fo)(hi:FE T X i fi)(hs:yqh i):FE T X (.Subscript o i pos) (yrl yny fo fi):=by
 intro pins s st H Q I h;refine yai (by omega) ho hi hs pins s st H Q I ?_;obtain⟨μ,ρ,σ,hE,hr,hp⟩:=h;refine⟨μ,ρ,σ,hE,hr,hp.bind fun x σ1 μ1 v H1 _ e1 r1 q1 p1=>⟨μ1,ρ,σ1,hE.mono e1,r1,p1.bind fun y σ2 μ2 u H2 _ e2 r2 q2 p2=>?_⟩⟩;unfold yny at p2;cases ek:ysa y with
 |none=>rw[ek]at p2;exact p2.elim
 |some k=>
  rw[ek]at p2;dsimp only at p2;cases ed:yrj σ2 x with
  |none=>rw[ed]at p2;exact p2.elim
  |some kvs=>
   rw[ed]at p2;dsimp only at p2;obtain⟨a,vs,rfl,h1,h2⟩:=yje r2 (Rep.mono e2 _ _ q1) ed;obtain rfl:=zyb q2 ek;rcases zpr h2 k with⟨z1,_⟩|⟨d,w,z1,z2,z3⟩
   ·rw[z1]at p2;exact p2.elim
   ·rw[z1]at p2;exact⟨a,w,rfl,by rw[<-z2];exact yp4.k h1,yqm.here p2 r2 z3⟩
def ysv(y x:D):M D:=fun σ=>match ysa y with
 |some k=>(match yrj σ x with
  |some kvs=>.ok (.bl (ymb kvs k).isSome) σ
  |none=>.bad)
 |none=>.bad
def yoq:yqw:=fun x y v H Q=>∃ a H',x=.ref a/\yp5 H a y v H'/\Q H'
theorem ztk(hu:X.A.units+9<cLine):yqj X yoq:=by
 intro pins s st H o i v ov iv u Q I ro ri rv h;obtain⟨a,H',rfl,g,q⟩:=h;obtain rfl:ov=Value.ref a:=ro;exact zkp (by omega) I g ri rv fun s4 I4=>⟨H',I4,q⟩
def yo8(ρ:Ev)(d x:D)(y:D):M Fl:=fun σ=>match x with
 | .ref n=>(match ysa y with
  |some k=>(match σ[n]? with
   |some (.dic kvs)=>if kvs.length<cap then .ok (.nx ρ) (σ.set n (.dic (yok kvs k d)))else .bad
   |_=>.bad)
  |none=>.bad)
 |_=>.bad
def yo7(ρ:Ev)(fi:Ev->M D)(d x:D):M Fl:=xs ρ (fi ρ) (yo8 ρ d x)
def yo6(ρ:Ev)(fo fi:Ev->M D)(d:D):M Fl:=xs ρ (fo ρ) (yo7 ρ fi d)
def yo1(f fo fi:Ev->M D):Ev->M Fl:=fun ρ=>xs ρ (f ρ) (yo6 ρ fo fi)
theorem zxb{e o i:Expr}{f fo fi:Ev->M D}{pos pos':Pos}(hu:X.A.units+9<cLine)(he:FE T X e f)(ho:FE T X o fo)(hi:FE T X i fi)
  (ha:∀ v,assign (.Subscript o i pos') X.env v=(do
   let ov <-holding [v] (eval o X.env);let iv <-holding [v,ov] (eval i X.env)
   standAt pos'
   holding [v,ov,iv] (setItem ov iv v)
   release [v,ov,iv] []):=by intro _;rfl)
  (hs:swapsWithSole [.Subscript o i pos'] e pos.line X.env=pure false:=by rfl) (hw:swappedStores [.Subscript o i pos'] e X.env=pure none:=by rfl)
  (h1:(assignEach [.Subscript o i pos'] X.env).map (·.2)=[assign (.Subscript o i pos') X.env]:=by rfl):FS T X (.Assign [.Subscript o i pos'] e pos) (yo1 f fo fi):=by
 intro pins s st H D I hq;refine yi1 he (yix ho hi (ztk hu) ha) hs hw h1 pins s st H D I ?_;obtain⟨μ,ρ,σ,hE,hr,hp⟩:=hq;refine⟨μ,ρ,σ,hE,hr,hp.xs hE fun d σ1 μ1 v H1 _ e1 r1 q1 p1=>?_⟩;refine⟨μ1,ρ,σ1,hE.mono e1,r1,p1.xs (hE.mono e1) fun x σ2 μ2 vo H2 _ e2 r2 q2 p2=>?_⟩;refine⟨μ2,ρ,σ2,(hE.mono e1).mono e2,r2,p2.xs ((hE.mono e1).mono e2) fun y σ3 μ3 vi H3 _ e3 r3 q3 p3=>?_⟩;have hd:=Rep.mono e3 _ _ (Rep.mono e2 _ _ q1);have hx:=Rep.mono e3 _ _ q2;unfold yo8 at p3;cases x with
 |ref n=>
  dsimp only at p3;cases ek:ysa y with
  |none=>rw[ek]at p3;exact p3.elim
  |some k=>
   rw[ek]at p3;dsimp only at p3;cases el:σ3[n]? with
   |none=>rw[el]at p3;exact p3.elim
   |some ob=>
    rw[el]at p3;cases ob with
    |dic kvs=>
     dsimp only at p3;by_cases hc:kvs.length<cap
     ·rw[if_pos hc]at p3;obtain⟨a,rfl,hn,vs,g1,g2⟩:=r3.at hx el;obtain rfl:=zyb q3 ek;have wr:=r3.write (o:=.dK (yts vs k v)) (ob:=.dic (yok kvs k d)) hn ⟨_,upd_same,by
       have ex:Ext μ3 H3 μ3 (upd H3 a (.dK (yts vs k v))):=zk1 (List.mem_of_getElem? hn) g1 (fun _ z=>by cases z) (fun _ _ z=>by cases z);exact zow (yqr.mono ex g2) k (Rep.mono ex _ _ hd)⟩
      have hlen:vs.length=kvs.length:=by unfold yqr at g2;exact(Paired.length g2).symm
      exact⟨a,_,rfl,yp5.k g1 (by rw[hlen];exact Nat.lt_of_lt_of_le hc (by decide)),p3 _ (.nx st) _ wr.1 wr.2 (((hE.mono e1).mono e2).mono e3 |>.mono wr.1)⟩
     ·rw[if_neg hc]at p3;exact p3.elim
    |_=>exact p3.elim
 |_=>exact p3.elim
def ylx:Ev->M D:=fun _ σ=>.ok (.ref σ.length) (σ++[.dic []])
theorem zwq{pos:Pos}:FE T X (.Dict [] [] pos) ylx:=by
 intro pins s st H Q I h;obtain⟨μ,ρ,σ,hE,hr,hp⟩:=h;refine zsc pins s st H Q I fun p hn=>?_;exact hp (μ++[p]) (.ref p) _ (zpd hn) (hr.push hn ⟨[],upd_same,.nil⟩) (zsw hr)
def ytv:List V->Hp->VK->Prop:=fun xs H Q=>∃ a kvs,xs=[.ref a]/\H a=some (.dK kvs)/\∀ p,H p=none->Q (.ref p) (upd H p (.dK kvs))
theorem zod:ykp X (.type "dict") ytv:=by
 intro pins s st H xs us Q I r h;obtain⟨a,kvs,rfl,e,q⟩:=h;obtain⟨u,rfl,ru⟩:=ypx r;cases ru;exact zor I (.inl e) fun p s' hn I'=>⟨.ref p,_,I',rfl,q p hn⟩
def ysw(ds:List D):M D:=fun σ=>match ds with
 |[x]=>(match yrj σ x with
  |some kvs=>.ok (.dic (kvs.map (·.1)) (kvs.map (·.2))) σ
  |none=>.bad)
 |_=>.bad
end
section
variable{T:Tb}{X:Cx}
def yhs(x:D)(xs:List D):M D:=fun σ=>match xs with
 |[y]=>(match ysf σ x with
  |some ys=>if (isF y && ys.all isF && decide (ys.length<=900) && decide ((ys.findIdx fun z=>eqF z y)<ys.length))=true then .ok (.int (ys.findIdx fun z=>eqF z y:Nat)) σ else .bad
  |none=>.bad)
 |_=>.bad
structure InK(K:PySem.W.Frag)(C:Addr):Prop where
 cl:L2.Cls K C
 a:PySem.W.findIn K (.ref C) "__class__" = some (some (.builtin "object.__class__"))
 n:PySem.W.specialIn K (.builtin "object.__class__") "__get__" = some (some (.builtin "getset_descriptor.__get__"))
 t:PySem.W.takesIn K (.builtin "object.__class__")=some true
 m:PySem.W.mroIn K C (.type "object")=some true
def yty(K:PySem.W.Frag)(cv:Addr):List V->Hp->VK->Prop:=fun xs H Q=>∃ a C dx fs b,xs=[.ref a,.ref cv]/\H a=some (.ins C dx fs)/\InK K C/\PySem.W.kitOne K (.ref C) (.ref cv)=some b/\Q (.bl b) H
theorem zof{cv:Addr}:ykp X (.builtin "isinstance") (yty X.K cv):=by
 intro pins s st H xs us Q I r h;obtain⟨a,C,dx,fs,b,rfl,ea,Z,e,q⟩:=h;obtain⟨u,u2,rfl,ru,ru2⟩:=ypy r;cases ru2;exact zlo I ru (.ins ea Z.cl Z.a Z.n Z.t Z.m) e fun tk=>⟨.bl b,H,I.tok _,rfl,q⟩
def ys2(t:Nat->Option Bool)(x:D):M D:=fun σ=>match ymv σ x with
 |some (c,_)=>(match t c with|some b=>.ok (.bl b) σ|none=>.bad)
 |none=>.bad
def yqc(K:PySem.W.Frag)(ca:Nat->Addr)(cv:Addr)(l:List (Nat × Bool)):Prop:=∀ p∈l,InK K (ca p.1)/\PySem.W.kitOne K (.ref (ca p.1)) (.ref cv)=some p.2
theorem ygg{K:PySem.W.Frag}{ca:Nat->Addr}{cv:Addr}:yqc K ca cv []:=fun _ h=>nomatch h
theorem zxz{K:PySem.W.Frag}{ca:Nat->Addr}{cv:Addr}{c:Nat}{b:Bool}{l:List (Nat × Bool)}(z:InK K (ca c))(h:PySem.W.kitOne K (.ref (ca c)) (.ref cv)=some b)(r:yqc K ca cv l):yqc K ca cv ((c,b)::l):=fun p hp=>by
 rcases List.mem_cons.mp hp with rfl|hp
 ·exact⟨z,h⟩
 ·exact r p hp
theorem yfd{y:Str}{cv:Addr}{l:List (Nat × Bool)}{e:Expr}{f:Ev->M D}{p p2 pos:Pos}(hK:T.K=X.K)(he:FE T X e f)(hg:Gl X "isinstance")(hm:X.mg "isinstance" = none)(hg2:Gl X y)(hd2:(y == ("__debug__" : Str))=false)(hc:X.mg y=some (.ref cv))
  (ht:yqc X.K T.ca cv l)
  (hs:starEach [e,.Name y p2] X.env=(false,eval e X.env)::starEach [.Name y p2] X.env:=by rfl) (hpl:(backTo pos (starEach [.Name y p2] X.env)).any (·.1)=false:=by rfl) :
  FE T X (.Call (.Name "isinstance" p) [e,.Name y p2] [] pos) (eUn (ys2 (yr5 l)) f):=by
 intro pins s st H Q I h;refine zsa (zof (cv:=cv)) hg hm boot_isinstance (yae he (yae (yak (v:=.ref cv) hg2 hc rfl hd2) yil) hs) (by decide) (by decide) hs hpl pins s st H Q I ?_;obtain⟨μ,ρ,σ,hE,hr,hp⟩:=h;refine⟨μ,ρ,σ,hE,hr,hp.bind fun x σ1 μ1 v H1 _ e1 r1 p1 q1=>?_⟩;unfold ys2 at q1;cases ei:ymv σ1 x with
 |none=>rw[ei]at q1;exact q1.elim
 |some cf=>
  obtain⟨c,fs⟩:=cf;rw[ei]at q1;dsimp only at q1;cases et:yr5 l c with
  |none=>rw[et]at q1;exact q1.elim
  |some b=>
   rw[et]at q1;obtain⟨a,dx,vs,rfl,h1,_⟩:=zxu r1 p1 ei;obtain⟨z1,z2⟩:=ht (c,b) (yg2 et);exact⟨a,T.ca c,dx,vs,b,rfl,h1,z1,z2,yqm.here q1 r1 (by rw[Rep])⟩
theorem zzu{l:List (Nat × Bool)}{x:D}{c:Nat}{fs:List (Str × D)}{b:Bool}{σ:Sto}(h:ymv σ x=some (c,fs))(h2:yr5 l c=some b):ys2 (yr5 l) x σ=.ok (.bl b) σ:=by
 unfold ys2;rw[h];dsimp only;rw[h2]
def ym8:List (Key × D)->List (Key × D)->Bool
 |[],[]=>true
 |(k,.int i)::r,(k',.int j)::r'=>decide (k=k') && (i == j) && ym8 r r'
 |_,_=>false
theorem zif:∀ {l:List (Key × D)},(∀ p∈l,∃ i,p.2=.int i)->ym8 l l=true
 |[],_=>rfl
 |(k,d)::r,h=>by
  obtain⟨i,e⟩:=h (k,d) List.mem_cons_self;dsimp only at e;subst e;unfold ym8;rw[zif fun p hp=>h p (List.mem_cons_of_mem _ hp)];simp
def ytw:R2:=fun x y H Q=>∃ a b ka,x=.ref a/\y=.ref b/\H a=some (.dK ka)/\H b=some (.dK ka)/\(∀ p∈ka,∃ i,p.2=V.int i)/\Q (.bl true) H
theorem zxq{A:Around}{s:Shared}:∀ {ka:List (Key × V)} {va vb:List (Key × Value)},KV ka va->KV ka vb->(∀ p∈ka,∃ i,p.2=V.int i)->∀ (B:List (Key × Value)),(∀ p∈vb,valueAt B p.1=some p.2)->PySem.W.KeqHits A s B va true
 |_,_,_,.nil,.nil,_,B,_=>.nil
 |_,_,_,@Paired.cons _ _ _ p q ps qs h1 t1,@Paired.cons _ _ _ _ q' _ qs' h2 t2,hi,B,hB=>by
  obtain⟨i,ei⟩:=hi p List.mem_cons_self;obtain⟨k1,r1⟩:=h1;obtain⟨k2,r2⟩:=h2;rw[ei]at r1 r2;obtain⟨t,et⟩:=r1;obtain⟨t',et'⟩:=r2;have hv:=hB q' List.mem_cons_self;rw[<-k2,k1,et']at hv;have:=PySem.W.KeqHits.hit (A:=A) (s:=s) (kb:=B) (k:=q.1) (v:=q.2) (r:=qs) hv (by rw[et];exact SeqAt.EqAt.int_int i t i t') (zxq t1 t2 (fun p hp=>hi p (List.mem_cons_of_mem _ hp)) B (fun p hp=>hB p (List.mem_cons_of_mem _ hp)));have eq:q=(q.1,q.2):=rfl;rw[show (i == i)=true by simp]at this;exact this
theorem zhk:∀ {vb:List (Key × Value)},(vb.map (·.1)).Nodup->∀ p∈vb,valueAt vb p.1=some p.2
 |[],_,p,h=>nomatch h
 |q::r,hn,p,h=>by
  rw[List.map_cons,List.nodup_cons]at hn;rcases List.mem_cons.mp h with rfl|h
  ·simp[valueAt,List.find?_cons]
  ·have ne:¬ q.1=p.1:=fun z=>hn.1 (by rw[z];exact List.mem_map_of_mem h);have:=zhk hn.2 p h;simp only[valueAt,List.find?_cons,ne,decide_false]at this ⊢;exact this
theorem yic(hu:X.A.units+9<cLine):OpR X (compareOp .Eq) ytw:=by
 intro pins s st H x y v u Q I rx ry h;obtain⟨a,b,ka,rfl,rfl,ha,hb,hi,q⟩:=h;obtain rfl:v=Value.ref a:=rx;obtain rfl:u=Value.ref b:=ry;obtain⟨_,na,va,ra,da⟩:=ylo I.hok ha;obtain⟨_,nb,vb,rb,db⟩:=ylo I.hok hb;have hl:va.length=vb.length:=by rw[<-ra.length,rb.length]
 obtain⟨_,_,_,_,_,_,_,_,nd⟩:=id db;refine PySem.W.keq_eq na nb da db (by omega) (fun _=>zxq ra rb hi vb (zhk nd)) ⟨.bl true,H,I,?_,q⟩;rw[hl];simp;exact rfl
def ysy(x y:D):M D:=fun σ=>match yrj σ x with
 |some k1=>(match yrj σ y with
  |some k2=>if ym8 k1 k2=true then .ok (.bl true) σ else .bad
  |none=>.bad)
 |none=>.bad
theorem zq0{μ:List Addr}{H:Hp}:∀ {k1 k2:List (Key × D)} {v1 v2:List (Key × V)},yqr T μ H k1 v1->yqr T μ H k2 v2->ym8 k1 k2=true->v1=v2/\∀ p∈v1,∃ i,p.2=V.int i
 |[],[],_,_,.nil,.nil,_=>⟨rfl,fun _ h=>nomatch h⟩
 |[],_::_,_,_,_,_,h=>by simp[ym8]at h
 |(k,d)::r,[],_,_,_,_,h=>by cases d<;>simp[ym8]at h
 |(k,d)::r,(k',d')::r',_,_,@Paired.cons _ _ _ _ q _ qs h1 t1,@Paired.cons _ _ _ _ q' _ qs' h2 t2,h=>by
  cases d<;>cases d'<;>simp only[ym8,Bool.and_eq_true,decide_eq_true_eq,beq_iff_eq,Bool.false_eq_true]at h;obtain⟨⟨rfl,rfl⟩,hr⟩:=h;obtain⟨e,hi⟩:=zq0 t1 t2 hr;subst e;obtain⟨a1,a2⟩:=h1;obtain⟨b1,b2⟩:=h2;dsimp only at a1 a2 b1 b2;rw[Rep]at a2 b2;have eq:q=q':=Prod.ext (a1.symm.trans b1) (a2.trans b2.symm);subst eq;refine⟨rfl,fun p hp=>?_⟩;rcases List.mem_cons.mp hp with rfl|hp
  ·exact⟨_,a2⟩
  ·exact hi p hp
theorem ycd:yk0 T ytw ysy:=by
 intro E μ H σ x y v u Q r p q h;unfold ysy at h;cases e1:yrj σ x with
 |none=>rw[e1]at h;exact h.elim
 |some k1=>
  rw[e1]at h;dsimp only at h;cases e2:yrj σ y with
  |none=>rw[e2]at h;exact h.elim
  |some k2=>
   rw[e2]at h;dsimp only at h;by_cases hc:ym8 k1 k2=true
   ·rw[if_pos hc]at h;obtain⟨a,va,rfl,h1,g1⟩:=yje r p e1;obtain⟨b,vb,rfl,h2,g2⟩:=yje r q e2;obtain⟨rfl,hi⟩:=zq0 g1 g2 hc;exact⟨a,b,va,rfl,rfl,h1,h2,hi,yqm.here h r (by rw[Rep])⟩
   ·rw[if_neg hc]at h;exact h.elim
end
section
variable{T:Tb}{X:Cx}
inductive CDs(X:Cx):List (Option Expr)->List Expr->List (Str × Str)->Prop
 |nil:CDs X [] [] []
 |cons {k v:Expr} {x y:Str} {ks:List (Option Expr)} {vs:List Expr} {l:List (Str × Str)}:PE X k (tC (.str x))->PE X v (tC (.str y))->CDs X ks vs l->CDs X (some k::ks) (v::vs) ((x,y)::l)
theorem CDs.all{ks vs l}(h:CDs X ks vs l):ks.all (·.isSome)=true/\ks.length=vs.length/\ks.length=l.length:=by
 induction h with
 |nil=>exact⟨rfl,rfl,rfl⟩
 |cons _ _ _ ih=>exact⟨by simpa using ih.1,by simpa using ih.2.1,by simpa using ih.2.2⟩
end
section
variable{T:Tb}{X:Cx}{e:Expr}{f:Ev->M D}{pos:Pos}
end
end L4
namespace L4
open PySem PySem.Spec PySem.Calls PyProof.Rows L2
section
variable{T:Tb}{X:Cx}
end
end L4
namespace L4
open PySem PySem.Spec PyProof.Rows L2
def yhc(o:D->List D->M D)(m:M (List D))(x:D):M D:=fun σ=>match yrj σ x with
 |some _=>bnd m (o x) σ
 |none=>.bad
def yeq(o:D->List D->M D)(f:Ev->M D)(fs:Ev->M (List D)):Ev->M D:=fun ρ=>bnd (f ρ) (yhc o (fs ρ))
def ya7:V->List V->Hp->VK->Prop:=fun x vs H Q=>∃ a kvs k d,x=.ref a/\vs=[kV k,d]/\H a=some (.dK kvs)/\kvs.length<sizeLine/\
 (∀ v,yvo kvs k=some v->Q v H)/\(yvo kvs k=none->Q d (upd H a (.dK (yts kvs k d))))
def zz5(x:D)(xs:List D):M D:=fun σ=>match x,xs with
 | .ref n,[y,d]=>(match ysa y with
  |some k=>(match σ[n]? with
   |some (.dic kvs)=>if kvs.length<cap then (match ymb kvs k with
    |some e=>.ok e σ
    |none=>.ok d (σ.set n (.dic (yok kvs k d))))else .bad
   |_=>.bad)
  |none=>.bad)
 |_,_=>.bad
section
variable{T:Tb}{X:Cx}{o e:Expr}{es:List Expr}{f:Ev->M D}{fs:Ev->M (List D)}{name:Str}{apos cpos:Pos}{id:String}{r:V->List V->Hp->VK->Prop}{g:D->List D->M D}
theorem zmg:MtR X "dict.setdefault" ya7:=by
 intro pins s st H x vs v us Q I rx rv h;obtain⟨a,kvs,k,d,rfl,rfl,hH,hl,h1,h2⟩:=h;cases rx;obtain⟨u,r,rfl,ru,rr⟩:=rv.two;obtain⟨z,hd,ws,rel,dd⟩:=ylo I.hok hH;have hz:ws.length<=sizeLine:=by rw[<-rel.length];exact z
 have hlp:(yts kvs k d).length<=sizeLine:=by have:=zgi kvs k d;omega
 refine call_meetsIn PySem.F.slot_dict_setdefault dd.typeIs PySem.F.entry_dict_setdefault (PySem.F.args_dict_setdefault_3 _ _ _) (kt_meets_setdefault (zy2 X.prog X.w) a (ym1 ru) hd r) ⟨ws,dd,hz,fun w hw=>?_,fun hn h' dd' hs=>?_⟩
 ·have q:=rel.val k;rw[hw]at q;cases e:yvo kvs k with
  |none=>rw[e]at q;exact absurd q (by simp[yqo])
  |some x=>rw[e]at q;exact⟨x,H,I.tok _,q,h1 x e⟩
 ·have q:=rel.val k;rw[hn]at q;cases e:yvo kvs k with
  |some x=>rw[e]at q;exact absurd q (by simp[yqo])
  |none=>
   have he:∃ q,h'.get? a=some q:=let ⟨q,_,_,hq,_⟩:=dd';⟨q,hq⟩;exact⟨d,_,zvq I (by rw[hH];exact True.intro) hs he (yej hlp hd (rel.put k rr) dd'),rr,h2 e⟩
theorem zpk(pa:PlainAttrs "dict")(slot:Slot "dict" name id)(hty:typeOf (.builtin id)=pure (.type "method_descriptor"))(hm:MtR X id r)(hs:ykz T r g)(ho:FE T X o f)(ha:FA T X (e::es) fs)
  (hbase:attributeBase o name X.env (eval o X.env)=eval o X.env:=by rfl)
  (hfew:((backTo cpos (starEach (e::es) X.env)).all (fun x=>!x.1) && (backToKw cpos (keywordEach [] X.env)).all (fun x=>x.1.isSome)
   && decide ((e::es).length+([]:List Keyword).length+(if ([]:List Keyword).isEmpty then 0 else 1)<30))=true:=by rfl)
  (hline:(apos.endLine == cpos.line)=true:=by rfl) (hst:starEach (e::es) X.env=(false,eval e X.env)::starEach es X.env:=by rfl) (hplain:(backTo cpos (starEach es X.env)).any (·.1)=false:=by rfl) :
  FE T X (.Call (.Attribute o name apos) (e::es) [] cpos) (yeq g f fs):=by
 intro pins s st H Q I h;refine yoe pa slot hty hm ho ha hbase hfew hline hst hplain pins s st H Q I ?_;obtain⟨μ,ρ,σ,he,hr,hp⟩:=h;refine⟨μ,ρ,σ,he,hr,hp.bind fun x σ1 μ1 v H1 _ e1 r1 p1 q1=>?_⟩;unfold yhc at q1;cases el:yrj σ1 x with
 |none=>rw[el]at q1;exact q1.elim
 |some xs=>
  rw[el]at q1;obtain⟨a,vs,rfl,h1,h2⟩:=yje r1 p1 el;refine⟨.inr (.inr (.inl ⟨rfl,.inl ⟨vs,h1⟩⟩)),μ1,ρ,σ1,he.mono e1,r1,q1.bind fun ds σ2 μ2 ws H2 _ e2 r2 p2 q2=>?_⟩;exact hs _ μ2 H2 σ2 x ds (.ref a) ws Q r2 (Rep.mono e2 _ _ p1) p2 q2
theorem zjn:ykz T ya7 zz5:=by
 intro E μ H σ x xs v vs Q r p q h;cases x with
 |ref n=>
  match xs with
  |[]=>exact h.elim
  |[_]=>exact h.elim
  |[y,d]=>
   rw[yqs]at q;obtain⟨w,z,rfl,q1,q2⟩:=q;rw[yqs]at q2;obtain⟨w2,z2,rfl,q3,q4⟩:=q2;rw[yqs]at q4;subst q4;unfold zz5 at h;cases ek:ysa y with
   |none=>simp only[ek]at h;exact h.elim
   |some k=>
    simp only[ek]at h;cases el:σ[n]? with
    |none=>simp only[el]at h;exact h.elim
    |some ob=>
     cases ob with
     |dic kvs=>
      simp only[el]at h;by_cases hc:kvs.length<cap
      ·rw[if_pos hc]at h;obtain⟨a,rfl,hn,us,g1,g2⟩:=r.at p el;obtain rfl:=zyb q1 ek;have hlen:us.length=kvs.length:=by unfold yqr at g2;exact(Paired.length g2).symm
       refine⟨a,us,k,w2,rfl,rfl,g1,by rw[hlen];exact yd3 hc,fun v e=>?_,fun e=>?_⟩
       ·rcases zpr g2 k with⟨z1,z2⟩|⟨d',v',z1,z2,z3⟩
        ·rw[z2]at e;cases e
        ·rw[z2]at e;cases e;rw[z1]at h;exact yqm.here h r z3
       ·rcases zpr g2 k with⟨z1,z2⟩|⟨d',v',z1,z2,z3⟩
        ·rw[z1]at h;have wr:=r.write (o:=.dK (yts us k w2)) (ob:=.dic (yok kvs k d)) hn ⟨_,upd_same,by
          have ex:Ext μ H μ (upd H a (.dK (yts us k w2))):=zk1 (List.mem_of_getElem? hn) g1 (fun _ z=>by cases z) (fun _ _ z=>by cases z);exact zow (yqr.mono ex g2) k (Rep.mono ex _ _ q3)⟩
         exact h _ _ _ wr.1 wr.2 (Rep.mono wr.1 _ _ q3)
        ·rw[z2]at e;cases e
      ·rw[if_neg hc]at h;exact h.elim
     |lst ys=>simp only[el]at h;exact h.elim
     |ins c fs=>simp only[el]at h;exact h.elim
  |_::_::_::_=>exact h.elim
 |_=>exact h.elim
end
open Classical in
section
variable{T:Tb}{X:Cx}
end
section
variable{T:Tb}{X:Cx}
end
section
variable{T:Tb}{X:Cx}{tg iter:Expr}{f:Ev->M D}
end
section
variable{T:Tb}{X:Cx}{o e:Expr}{es:List Expr}{f:Ev->M D}{fs:Ev->M (List D)}{name:Str}{apos cpos:Pos}{id:String}{r:V->List V->Hp->VK->Prop}{g:D->List D->M D}
end
def yui:Ev->M Fl:=fun _ _=>.bad
theorem yfv{T:Tb}{X:Cx}{e:Stmt}:FS T X e yui:=fun pins s st H D I ⟨μ,ρ,σ,_,_,hp⟩=>hp.elim
section
variable{X:Cx}{pins:List (Addr × Obj)}{σ:St}{H:Hp}{s:Shared}{h':Heap}
theorem zzg{H:Hp}{a b:Addr}{u:HO}(e:H b=some u)(n:H a=none):b≠a:=fun z=>by rw[z,n]at e;cases e
theorem _root_.L2.Inv.turnL{t':Nat}{its:List Addr}{p:Addr}{o:HO}(I:Inv X pins σ H s)(k:∀ b u,b ∉ its->s.heap.get? b=some u->h'.get? b=some u)(hf:∀ b∈its,yp9 X pins H b)(hp:s.heap.objs.size<=p)(new:ykv X.prog X.w (upd H p o) h' p o) :
  Inv X pins σ (upd H p o) { s with heap:=h',toks:=t' }:=by
 have hn:H p=none:=I.hok.fresh hp;have nit:∀ b u,H b=some u->b ∉ its:=fun b u e z=>by rw[(hf b z).1]at e;cases e
 refine I.step (g':=s.gens) (d':=s.drawn) (ch:=its) (fun b hb=>?_) (fun b o _ _ hc e _=>k b o hc e) (fun b o _ _ hc e _=>⟨o.slots,k b o hc e⟩) (fun b u _ q n=>by rw[upd_ne (Nat.ne_of_lt (Nat.lt_of_lt_of_le (Heap.lt_size q) hp))];exact n)
  (fun b o hc e=>⟨o,k b o hc e⟩) (fun b xs q=>by rw[upd_ne (zzg q hn)];exact q) (fun b u xs q=>by rw[upd_ne (zzg q hn)];exact q) (fun b ps q=>⟨#[],by rw[upd_ne (zzg q hn),q];simp⟩) (fun m hm=>?_) (fun b u e=>?_) I.bare
 ·obtain⟨f0,f1,f2,f3,f4,f5⟩:=hf b hb;exact⟨f3,f1,f4,f5⟩
 ·obtain⟨o,es,ep,ho,r⟩:=hm;exact⟨o,es,ep,k _ o (fun z=>(hf _ z).2.1 rfl) ho,r⟩
 ·by_cases hb:b=p
  ·subst hb;rw[upd_same]at e;cases e;exact new
  ·rw[upd_ne hb]at e;refine(I.hok b u e).stay (fun c v hc q=>k c v ?_ q) (fun c q=>by rw[upd_ne (zzg q hn)];exact q) fun c xs q=>by rw[upd_ne (zzg q hn)];exact q
   rcases hc with z|z
   ·rw[z];exact nit b u e
   ·exact nit c _ z
theorem _root_.L2.Inv.turnN{t':Nat}{its:List Addr}(I:Inv X pins σ H s)(k:∀ b u,b ∉ its->s.heap.get? b=some u->h'.get? b=some u)(hf:∀ b∈its,yp9 X pins H b):Inv X pins σ H { s with heap:=h',toks:=t' }:=by
 have nit:∀ b u,H b=some u->b ∉ its:=fun b u e z=>by rw[(hf b z).1]at e;cases e
 refine I.step (g':=s.gens) (d':=s.drawn) (ch:=its) (fun b hb=>?_) (fun b o _ _ hc e _=>k b o hc e) (fun b o _ _ hc e _=>⟨o.slots,k b o hc e⟩) (fun b u _ q n=>n)
  (fun b o hc e=>⟨o,k b o hc e⟩) (fun b xs q=>q) (fun b u xs q=>q) (fun b ps q=>⟨#[],by rw[q];simp⟩) (fun m hm=>?_) (fun b u e=>?_) I.bare
 ·obtain⟨f0,f1,f2,f3,f4,f5⟩:=hf b hb;exact⟨f3,f1,f4,f5⟩
 ·obtain⟨o,es,ep,ho,r⟩:=hm;exact⟨o,es,ep,k _ o (fun z=>(hf _ z).2.1 rfl) ho,r⟩
 ·refine(I.hok b u e).stay (fun c v hc q=>k c v ?_ q) (fun _ q=>q) fun _ _ q=>q;rcases hc with z|z
  ·rw[z];exact nit b u e
  ·exact nit c _ z
end
theorem yef{h:Heap}{a b:Addr}{o o':Obj}{n n':String}(e:h.get? a=some o)(e':h.get? b=some o')(c:o.cls=.type n)(c':o'.cls=.type n')(hn:n≠n'):a≠b:=fun z=>by
 subst z;rw[e]at e';cases e';rw[c]at c';injection c' with q;exact hn q
def Ite(K:PySem.W.Frag)(l:Addr):It:=
 ⟨fun i H=>∃ xs x,SqL K H l xs/\xs[i]?=some x,fun i H v H'=>∃ p x,H p=none/\v=.ref p/\(∀ xs,SqL K H l xs->xs[i]?=some x)/\H'=upd H p (.tup [.int i,x]),fun i H=>∃ xs,SqL K H l xs/\i=xs.length⟩
theorem znv{P:Program}{w:World}{K:PySem.W.Frag}{elts:List Expr}{kk:Nat}{pos:Pos}(l e it:Addr):Turn P w K (.Tuple elts kk pos) (Ite K l) [e,it] e (fun i h=>(∃ old,IsEnum h e it i old)/\h.IsListIter it l i) where
 mem:=by simp
 obj:=fun i h st b hb=>by
  obtain⟨⟨old,s1⟩,o,s2,c,d⟩:=st;simp only[List.mem_cons,List.not_mem_nil,or_false]at hb;rcases hb with rfl|rfl
  ·exact⟨_,s1,fun v z=>by cases z⟩
  ·exact⟨o,s2,fun v z=>by rw[d]at z;cases z⟩
 keep:=fun i h h' st k=>by
  obtain⟨⟨old,s1⟩,s2⟩:=st;exact⟨⟨old,k e (by simp) _ s1⟩,s2.at fun o q=>k it (by simp) o q⟩
 item:=by
  intro X hP hw hK hc i pins s σ H E I hf st hg;subst hP hw hK;obtain⟨xs,x,hq,hx⟩:=hg;obtain⟨its,rv,p,hz⟩:=I.list hq;obtain⟨u,hu,ru⟩:=rv.get hx;obtain⟨⟨old,s1⟩,s2⟩:=st;obtain⟨oa,ea,ca,_⟩:=id p.isList;obtain⟨ob,eb,cb,_⟩:=id s2;have nle:l≠e:=yef ea s1 ca rfl (by decide);have nli:l≠it:=yef ea eb ca cb (by decide);have nei:e≠it:=yef s1 eb rfl cb (by decide);have W:=WalksT.enumerate (prog:=X.prog) (w:=X.w) (A:=X.A) (I.ok.hd hc) e it l nei nle nli its.toArray;have hi:i<its.toArray.size:=by
   have:=(List.getElem?_eq_some_iff.mp hu).1;simpa using this
  refine W.item i s _ E hi ⟨⟨old,s1⟩,s2,p.isList⟩ fun T vals h' tk hPt hT hTup hMid hk=>?_;obtain⟨t,y,hy,rfl⟩:=hPt;have ey:y=u:=by
   have:its.toArray[i]?=some u:=by simpa using hu
   rw[this]at hy;cases hy;rfl
  subst ey;refine⟨.ref T,rfl,W.go elts kk pos i T { s with heap:=h',toks:=tk } _ E hMid fun h2 hS hk2=>?_⟩;have hap:=W.apart i T h' hMid;have hTup2:h2.IsTuple T #[.int i t,y]:=by
   obtain⟨o,e1,c1⟩:=hTup;exact⟨o,hk2 T o hap e1,c1⟩
  have hn:H T=none:=I.hok.fresh hT;refine⟨.ref T,upd H T (.tup [.int i,x]),I.turnL (o:=.tup [.int i,x]) (fun b o hb q=>hk2 b o hb (hk b o hb q)) hf hT ?_,rfl,⟨T,x,hn,rfl,fun ys hy=>by rw[I.list_inj hy hq];exact hx,rfl⟩,⟨hS.1,hS.2.1⟩,fun b hb=>?_⟩
  ·exact⟨(show (2:Nat)<=sizeLine by decide),[.int i t,y],.cons ⟨t,rfl⟩ (.cons ru .nil),hTup2⟩
  ·rw[upd_ne (fun z=>hap (by rw[<-z];exact hb))];exact(hf b hb).1
 done:=by
  intro X hP hw hK hc i pins s σ H E I hf st hg;subst hP hw hK;obtain⟨xs,hq,hx⟩:=hg;obtain⟨its,rv,p,hz⟩:=I.list hq;obtain⟨⟨old,s1⟩,s2⟩:=st;have hl:=rv.length;exact wpAny_pyNext_enum_end (I.ok.hd hc) s1 s2 p.isList (by simp;omega) fun h' eb=>⟨rfl,I.turnN (t':=s.toks) (fun b o hb q=>eb b o (fun z=>hb (by simp[z])) q) hf⟩
 self:=fun A i s Q E st h=>by
  obtain⟨⟨old,s1⟩,s2⟩:=st;exact wpAny_pyIter_enum s1 h
abbrev NX:=Nat->Sto->Option (Option D)
def yqv(T:Tb)(μ0:List Addr)(H0:Hp)(nx:NX)(J:It):Prop:=∀ μ H σ i,Ext μ0 H0 μ H->Rel T μ H σ->match nx i σ with
 |none=>True
 |some none=>J.stop i H
 |some (some d)=>J.go i H/\∀ x H',J.yld i H x H'->Ext μ H μ H'/\Rel T μ H' σ/\Rep T μ H' d x
def tIN(T:Tb)(X:Cx)(f:Ev->M NX):TI:=fun st H R=>∃ μ ρ σ,yp6 T μ H ρ st/\Rel T μ H σ/\yqm T (XE X st) (yqv T) μ H (f ρ σ) R
abbrev FIN(T:Tb)(X:Cx)(tg iter:Expr)(f:Ev->M NX):Prop:=PI X tg iter (tIN T X f)
def ynb(nx:NX)(tg:D->Ev->Option Ev)(body:Ev->M Fl):Nat->Nat->Ev->M Fl
 |0,_,_=>bad
 |k+1,i,ρ=>fun σ=>match nx i σ with
  |none=>.bad
  |some none=>.ok (.nx ρ) σ
  |some (some d)=>match tg d ρ with
   |none=>.bad
   |some ρ1=>bnd (body ρ1) (ym9 (ynb nx tg body k (i+1))) σ
def ymi(tg:D->Ev->Option Ev)(body:Ev->M Fl)(ρ:Ev)(nx:NX):M Fl:=ynb nx tg body 1001 0 ρ
def yo0(src:Ev->M NX)(tg:D->Ev->Option Ev)(body:Ev->M Fl):Ev->M Fl:=fun ρ=>xs ρ (src ρ) (ymi tg body ρ)
section
variable{T:Tb}{X:Cx}{tgt iter:Expr}{body:List Stmt}{src:Ev->M NX}{t:D->Ev->Option Ev}{g:Ev->M Fl}{pos:Pos}
theorem zxa(hp:PassesOwn (model X.prog X.w) X.A X.env X.xe)(hc:X.calm=true)(hi:FIN T X tgt iter src)(hg:FG T X tgt t)(hb:FSs T X body g)
  (hs:∀ x,foldedSetIterable iter X.env x=pure x:=by intro _;rfl):FS T X (.For tgt iter body [] pos) (yo0 src t g):=by
 intro pins s st H D I hq;refine yi3 hp hc hi hg hb hs pins s st H D I ?_;obtain⟨μ,ρ,σ,hE,hr,hp⟩:=hq;refine⟨μ,ρ,σ,hE,hr,hp.xs hE fun nx σ1 μ1 J H1 _ e1 r1 q1 p1=>?_⟩;have p1':yqm T EN (RFl T) μ1 H1 (ynb nx t g 1001 0 ρ σ1) (yp7 X D):=p1;refine⟨fun i m st2 H2=>∃ μ ρ σ,Ext μ1 H1 μ H2/\yp6 T μ H2 ρ st2/\Rel T μ H2 σ/\yqm T EN (RFl T) μ H2 (ynb nx t g m i ρ σ) (yp7 X D),⟨1001,μ1,ρ,σ1,Ext.refl _ _,hE.mono e1,r1,p1'⟩,?_⟩;rintro i m st2 H2 ⟨μ2,ρ2,σ2,ex,hE2,r2,p2⟩;cases m with
 |zero=>exact p2.elim
 |succ m=>
  unfold ynb at p2;have so:=q1 μ2 H2 σ2 i ex r2;cases en:nx i σ2 with
  |none=>simp only[en]at p2;exact p2.elim
  |some o=>
   cases o with
   |none=>
    simp only[en]at p2 so;exact .inl ⟨so,yqm.here (g:=Gl2.nx st2) p2 r2 hE2⟩
   |some d=>
    simp only[en]at p2 so;obtain⟨hgo,hy⟩:=so;refine .inr ⟨hgo,fun st3 H3=>∃ μ ρ σ,Ext μ1 H1 μ H3/\yp6 T μ H3 ρ st3/\Rel T μ H3 σ/\yqm T EN (RFl T) μ H3 (ynb nx t g m (i+1) ρ σ) (yp7 X D),fun st3 H3 h=>⟨m,Nat.lt_succ_self _,h⟩,fun x H3 y=>?_⟩;obtain⟨ex3,r3,hx⟩:=hy x H3 y;cases ht:t d ρ2 with
    |none=>simp only[ht]at p2;exact p2.elim
    |some ρ3=>
     simp only[ht]at p2;exact⟨μ2,σ2,ρ2,d,ρ3,hE2.mono ex3,r3,hx,ht,fun st3 hE3=>⟨μ2,ρ3,σ2,hE3,r3,(yqm.mono ex3 p2).bind fun fl σ4 μ4 gl H4 _ e4 r4 q4 p4=>zud r4 q4 p4 fun ρ5 st5 hE5 p5=>⟨μ4,ρ5,σ4,(ex.trans ex3).trans e4,hE5,r4,p5⟩⟩⟩
end
def nxE(a:D):NX:=fun i σ=>match ysf σ a with
 |some xs=>(match xs[i]? with
  |some x=>some (some (.tup [.int (i:Int),x]))
  |none=>if i=xs.length then some none else none)
 |none=>none
def yl2(d:D):M NX:=fun σ=>match ysf σ d with
 |some _=>.ok (nxE d) σ
 |none=>.bad
def yuz(f:Ev->M D):Ev->M NX:=fun ρ=>bnd (f ρ) yl2
section
variable{T:Tb}{X:Cx}{elts:List Expr}{kk:Nat}{p0 p pos:Pos}{f g:Ev->M D}
theorem zeg:bootBuiltins "enumerate" = some (.type "enumerate"):=by decide +kernel
def ymr(K:PySem.W.Frag)(ta:TA):TI:=fun σ H R=>ta σ H fun vs H1=>∃ l xs,vs=[.ref l]/\SqL K H1 l xs/\R (Ite K l) H1
theorem yao{a:Expr}{ta:TA}(hg:Gl X "enumerate")(hm:X.mg "enumerate" = none)(ha:PA X [a] ta)(hs:starEach [a] X.env=[(false,eval a X.env)]:=by rfl):PI X (.Tuple elts kk p0) (.Call (.Name "enumerate" p) [a] [] pos) (ymr X.K ta):=by
 intro pins s σ H R I h;refine Call_ (ygw I hg hm zeg (PyProof.Rows.callWith_type1 (thn (ha pos pins s σ H _ I h) fun us s1 ⟨vs,H1,I1,r1,q1⟩=>?_) hs rfl));obtain⟨l,xs,e,hq,q⟩:=q1;subst e;cases r1 with
 |cons r rr=>
  cases rr;cases r;obtain⟨its,rv,pl,hz⟩:=I1.list hq;refine call_enumerate_list pl.isList fun h' a1 a2 a3 a4=>wpAny_pyIter_enum a1 ?_;refine⟨s1.heap.objs.size+1,[s1.heap.objs.size+1,s1.heap.objs.size],_,_,H1,rfl,I1.kept (t':=s1.toks) a4,znv l _ _,⟨⟨_,a1⟩,a2⟩,fun b hb=>?_,q⟩;have hb':s1.heap.objs.size<=b:=by simp at hb;rcases hb with rfl|rfl<;>omega
  exact I1.fpOk hb' (I1.hok.fresh hb')
theorem zwx{e:Expr}(hg:Gl X "enumerate")(hm:X.mg "enumerate" = none)(h:FE T X e f)(hs:starEach [e] X.env=[(false,eval e X.env)]:=by rfl):FIN T X (.Tuple elts kk p0) (.Call (.Name "enumerate" p) [e] [] pos) (yuz f):=by
 intro pins s st H R I hw;refine yao hg hm (yae h yil hs) hs pins s st H R I ?_;obtain⟨μ,ρ,σ,hE,hr,hp⟩:=hw;refine⟨μ,ρ,σ,hE,hr,hp.bind fun d σ1 μ1 v H1 _ e1 r1 q1 p1=>?_⟩;unfold yl2 at p1;cases el:ysf σ1 d with
 |none=>rw[el]at p1;exact p1.elim
 |some ds=>
  rw[el]at p1;obtain⟨l,vs,rfl,h1,h2⟩:=r1.ls q1 el;refine⟨l,vs,rfl,SqL.of h1,yqm.here (R:=yqv T) p1 r1 fun μ2 H2 σ2 i ex r2=>?_⟩;unfold nxE;cases el2:ysf σ2 d with
  |none=>trivial
  |some xs=>
   obtain⟨l',ws,e',h3,h4⟩:=r2.ls (Rep.mono ex _ _ q1) el2;cases e';have hq2:SqL X.K H2 l ws:=SqL.of h3;dsimp only;cases ei:xs[i]? with
   |none=>
    dsimp only;by_cases hi:i=xs.length
    ·rw[if_pos hi];exact⟨ws,hq2,by rw[hi];exact h4.length⟩
    ·rw[if_neg hi];trivial
   |some d'=>
    obtain⟨x,hx,rx⟩:=h4.get ei;refine⟨⟨ws,x,hq2,hx⟩,fun z H' y=>?_⟩;obtain⟨q,x',hn',rfl,hall,rfl⟩:=y;have hx':=hall ws hq2;rw[hx]at hx';cases hx';refine⟨zwh hn',r2.fresh hn',?_⟩;rw[Rep];exact⟨q,_,rfl,upd_same,yqs.cons (by rw[Rep]) (yqs.cons (Rep.mono (zwh hn') _ _ rx) yqs.nil)⟩
end
open PySem.Builtin.Str (occurrences partsBetween subAt)
end L4
namespace L4
open PySem PySem.Spec PyProof.Rows L2
section
variable{T:Tb}{X:Cx}{a b c:Expr}{fa fb fc:Ev->M D}{pos:Pos}
end
def ylc(ρ:Ev)(c:Nat)(f:Str)(x:D)(a:Int)(y:D):M Fl:=fun σ=>match y with
 | .int b=>(match x with
  | .ref n=>(match σ[n]? with
   |some (.ins c' fs)=>if (c' == c && decide (fs.length<1000))=true then .ok (.nx ρ) (σ.set n (.ins c (ytp f (.int (a+b)) fs)))else .bad
   |_=>.bad)
  |_=>.bad)
 |_=>.bad
def ylb(ρ:Ev)(cs:List Nat)(f:Str)(fv:Ev->M D)(x:D):M Fl:=fun σ=>match ymv σ x with
 |some (c,fs)=>if cs.contains c=true then (match fs.lookup f with
  |some (.int a)=>xs ρ (fv ρ) (ylc ρ c f x a) σ
  |_=>.bad)else .bad
 |none=>.bad
def yoz(cs:List Nat)(f:Str)(fv fo:Ev->M D):Ev->M Fl:=fun ρ=>xs ρ (fo ρ) (ylb ρ cs f fv)
section
variable{T:Tb}{X:Cx}
theorem zlc{o value:Expr}{f:Str}{fv fo:Ev->M D}{pos tpos:Pos}{cs:List Nat}(hK:T.K=X.K)(hc:ykr T cs f)(ho:FE T X o fo)(hv:FE T X value fv):FS T X (.AugAssign (.Attribute o f tpos) .Add value pos) (yoz cs f fv fo):=by
 intro pins s st H D I hq;refine zmu ho hv ygd pins s st H D I ?_;obtain⟨μ,ρ,σ,hE,hr,hp⟩:=hq;refine⟨μ,ρ,σ,hE,hr,hp.xs hE fun x σ1 μ1 vo H1 _ e1 r1 q1 p1=>?_⟩;unfold ylb at p1;cases ei:ymv σ1 x with
 |none=>rw[ei]at p1;exact p1.elim
 |some p=>
  obtain⟨c,fs⟩:=p;rw[ei]at p1;dsimp only at p1;by_cases hcc:cs.contains c=true
  ·rw[if_pos hcc]at p1;obtain⟨a,dx,vs,rfl,h1,h2⟩:=zxu r1 q1 ei;cases el:fs.lookup f with
   |none=>rw[el]at p1;exact p1.elim
   |some y=>
    rw[el]at p1;cases y with
    |int i=>
     obtain⟨w,h3,h4⟩:=(zq2 h2).1 _ el;obtain⟨k1,k2⟩:=hc c hcc;rw[hK]at k1 k2;refine⟨a,_,dx,vs,w,rfl,h1,k1,k2,h3,μ1,ρ,σ1,hE.mono e1,r1,p1.xs (hE.mono e1) fun z σ2 μ2 vz H2 _ e2 r2 q2 p2=>?_⟩;unfold ylc at p2;cases z with
     |int j=>
      refine⟨i,j,yge h4,yge q2,?_⟩;have q1':=Rep.mono e2 _ _ q1;cases x with
      |ref n=>
       dsimp only at p2;cases el2:σ2[n]? with
       |none=>rw[el2]at p2;exact p2.elim
       |some ob=>
        rw[el2]at p2;cases ob with
        |lst _=>exact p2.elim
        |dic _=>exact p2.elim
        |ins c' fs'=>
         dsimp only at p2;by_cases hc2:(c' == c && decide (fs'.length<1000))=true
         ·rw[if_pos hc2]at p2;rw[Bool.and_eq_true,decide_eq_true_eq,beq_iff_eq]at hc2;obtain⟨hcc',hl⟩:=hc2;subst hcc';obtain⟨a',ea,hn,dx',vs',h1',h2'⟩:=r2.at q1' el2;cases ea;have ex:Ext μ2 H2 μ2 (upd H2 a (.ins (T.ca c') dx' (ytq f (.int (i+j)) vs'))):=zk1 (List.mem_of_getElem? hn) h1' (fun _ z=>by cases z) (fun _ _ z=>by cases z);have wr:=r2.write (o:=.ins (T.ca c') dx' (ytq f (.int (i+j)) vs')) (ob:=.ins c' (ytp f (.int (i+j)) fs')) hn ⟨dx',_,upd_same,ya1 (by rw[Rep]) (yqq.mono ex h2')⟩;exact⟨dx',vs',h1',by rw[<-h2'.length];exact hl,p2 _ (.nx st) _ wr.1 wr.2 ((hE.mono e1).mono e2 |>.mono wr.1)⟩
         ·rw[if_neg hc2]at p2;exact p2.elim
      |_=>exact p2.elim
     |_=>exact p2.elim
    |_=>exact p1.elim
  ·rw[if_neg hcc]at p1;exact p1.elim
def zzp(y x:D):M D:=fun σ=>match ysa y with
 |some k=>(match yrj σ x with
  |some kvs=>.ok (.bl (!(ymb kvs k).isSome)) σ
  |none=>.bad)
 |none=>.bad
def ya5:R2:=fun y x H Q=>∃ a o,x=.ref a/\yp4 H a y o/\Q (.bl (!o.isSome)) H
theorem zmo(hu:X.A.units+9<cLine):OpR X (compareOp .NotIn) ya5:=by
 intro pins s st H y x iv u Q I ry rx h;obtain⟨a,o,rfl,g,q⟩:=h;obtain rfl:u=Value.ref a:=rx;exact zvp (by omega) I g ry fun s3 I3=>⟨.bl (!o.isSome),H,I3,rfl,q⟩
theorem zjm:yk0 T ya5 zzp:=by
 intro E μ H σ y x u v Q r q p h;unfold zzp at h;cases ek:ysa y with
 |none=>rw[ek]at h;exact h.elim
 |some k=>
  rw[ek]at h;dsimp only at h;cases ed:yrj σ x with
  |none=>rw[ed]at h;exact h.elim
  |some kvs=>
   rw[ed]at h;obtain⟨a,vs,rfl,h1,h2⟩:=yje r p ed;obtain rfl:=zyb q ek;refine⟨a,yvo vs k,rfl,yp4.k h1,yqm.here h r ?_⟩;rw[Rep];rcases zpr h2 k with⟨z1,z2⟩|⟨d,w,z1,z2,z3⟩
   ·rw[z1,z2];rfl
   ·rw[z1,z2];rfl
def OkB(T:Tb)(P:Program)(w:World)(mg:Str->Option Value)(base:Heap)(k:Nat)(f:Addr)(ps:List Str)(dv:List Value)(fn:List D->M D):Prop:=
 ∃ fd,yko T.K fd ps []/\yko T.K fd ps dv/\FnOk P w T.K mg base (CXE P w) k f fd ps (spF T ps.length fn)
structure HasMD(K:PySem.W.Frag)(C:Addr)(x qual:Str)(st:Stmt)(ps:List Str)(dv:List Value)(f:Addr):Prop where
 ex:∃ fd,(∃ (oc:Value) (od:Option Addr) (dV kV doc pm:Value) (an:Option Addr) (cdv ct:Value) (osl:Array (Option Value)),
  fd=PySem.W.fnOf x qual (zvu st) (zvv st) (zot st) dV kV doc pm an cdv ct/\K.lookup f=some ⟨oc,od,.func fd,osl⟩/\PySem.W.codeIn K cdv qual=true)/\yko K fd ps []/\yko K fd ps dv
end
section
variable{P:Program}{w:World}{K:PySem.W.Frag}{mg:Str->Option Value}{base:Heap}{ca:Nat->Addr}
theorem yh0{k:Nat}{C f:Addr}{x qual:Str}{st:Stmt}{ps N:List Str}{dv:List Value}{g:Ev->M Fl}(h:HasMD K C x qual st ps dv f)(S:FnScope N ps (zot st))
  (hb:∀ (cdv:Value) (A:Around) (outer:List Env) (s:Shared) (H:Hp) (E:XK),Room k (A.deeper (envOfC qual (zot st) s.heap.objs.size f cdv))->FSs ⟨K,ca⟩ (yrh (CXE P w) P w K mg base N qual (zot st) f cdv A outer s H E) (zvv st) g) :
  OkB ⟨K,ca⟩ P w mg base (k+1) f ps dv (run N.length g):=by
 obtain⟨fd,⟨oc,od,dV,kV,doc,pm,an,cdv,ct,osl,rfl,lk,hcd⟩,b0,b1⟩:=h.ex;exact⟨_,b0,b1,fok lk hcd S (hb cdv)⟩
theorem OkB.hide{T:Tb}{k:Nat}{f:Addr}{ps:List Str}{dv:List Value}{fn:List D->M D}(h:OkB T P w mg base k f ps dv fn):OkB T P w mg base k f ps dv (L4.hide fn):=by rw[zxo];exact h
theorem OkB.frz{T:Tb}{k:Nat}{f:Addr}{ps:List Str}{dv:List Value}{fn:List D->M D}(h:OkB T P w mg base k f ps dv fn):OkB T P w mg base k f ps dv (fun ds=>L4.frz (fn ds)):=by
 obtain⟨fd,h1,h2,h3⟩:=h;exact⟨fd,h1,h2,zw3 h3⟩
theorem ysl{C f t:Addr}{x qual:Str}{st:Stmt}{ps:List Str}{dv:List Value}{oc toc:Value}{od an tod:Option Addr}{osl tsl:Array (Option Value)}{kV doc pm cdv ct:Value}{tn:Nat}
  (hb:∀ (t:Addr) (kV doc pm:Value) (an:Option Addr) (cdv ct:Value) (s:Shared) (o:Obj) (n:Nat) (us:List Value),s.heap.get? t=some o->o.data=.seq dv.toArray n->((us++[]).length=ps.length->BindsTo s (PySem.W.fnOf x qual (zvu st) (zvv st) (zot st) (.ref t) kV doc pm an cdv ct) ⟨us,[]⟩ (ps.zip (us++[])))/\
   ((us++dv).length=ps.length->BindsTo s (PySem.W.fnOf x qual (zvu st) (zvv st) (zot st) (.ref t) kV doc pm an cdv ct) ⟨us,[]⟩ (ps.zip (us++dv))))
  (l:K.lookup f=some ⟨oc,od,.func (PySem.W.fnOf x qual (zvu st) (zvv st) (zot st) (.ref t) kV doc pm an cdv ct),osl⟩)
  (c:PySem.W.codeIn K cdv qual=true) (d:K.lookup t=some ⟨toc,tod,.seq dv.toArray tn,tsl⟩):HasMD K C x qual st ps dv f:=
 ⟨⟨_,⟨oc,od,_,kV,doc,pm,an,cdv,ct,osl,rfl,l,c⟩,fun s us KX hl=>(hb t kV doc pm an cdv ct s _ tn us (KX _ _ d) rfl).1 hl,fun s us KX hl=>(hb t kV doc pm an cdv ct s _ tn us (KX _ _ d) rfl).2 hl⟩⟩
end
section
variable{T:Tb}{X:Cx}
theorem zwu{pl:Sem Bool}{k c:Nat}{fn:List D->M D}{ps:List Str}{dv:List Value}{m:Str}{o e:Expr}{es:List Expr}{f:Ev->M D}{fs:Ev->M (List D)}{pos apos:Pos}{fa:Addr}(hK:T.K=X.K)(he:FE T X o f)(hC:Cls T.K (T.ca c))(hM:Meth T.K (T.ca c) m fa)
  (h:OkB T X.prog X.w X.mg X.base k fa ps dv fn) (hr:Room k X.A) (ha:FA T X (e::es) fs)
  (hst:starEach (e::es) X.env=(false,eval e X.env)::starEach es X.env:=by rfl) (hpl:(backTo pos (starEach es X.env)).any (·.1)=false:=by rfl)
  (ht:eval (.Call (.Attribute o m apos) (e::es) [] pos) X.env=(do
   let ov <-eval o X.env
   standAt apos.atName
   let (f,first) <-holding [ov] (getMethod ov m pl)
   callWith pos f first (backTo pos (starEach (e::es) X.env)) (backToKw pos (keywordEach [] X.env))):=by rfl) :
  FE T X (.Call (.Attribute o m apos) (e::es) [] pos) (yro [(c,fn)] ps.length m f fs):=by
 intro pins s st H Q I hq;obtain⟨μ,ρ,σ,hE,hr',hp⟩:=hq;have hE':=hE;refine PySem.W.methodCall_KW (pl:=pl) (thn (he pins s st H (fun x H1=>∃ a dx vs,x=.ref a/\H1 a=some (.ins (T.ca c) dx vs)/\vs.lookup m=none/\tL T X fs st H1 fun us H2=>spF T ps.length fn (x::(us++[])) H2 Q (XE X st)) I ⟨μ,ρ,σ,hE,hr',hp.bind fun d σ1 μ1 v H1 _ e1 r1 q1 p1=>?_⟩) fun u s1 ⟨x,H1,I1,rx,a,dx,vs,ex,ea,en,q⟩=>?_) ht
 ·unfold ysq at p1;cases ei:ymv σ1 d with
  |none=>rw[ei]at p1;exact p1.elim
  |some z=>
   obtain⟨c',gs⟩:=z;rw[ei]at p1;dsimp only at p1;by_cases hcc:c=c'
   ·subst hcc;have el:lkM [(c,fn)] c=some fn:=by unfold lkM;rw[if_pos (beq_self_eq_true c)]
    cases en:gs.lookup m with
    |some y=>rw[el,en]at p1;exact p1.elim
    |none=>
     rw[el,en]at p1;dsimp only at p1;obtain⟨a,dx,vs,rfl,h1,h2⟩:=zxu r1 q1 ei;refine⟨a,dx,vs,rfl,h1,(zq2 h2).2 en,μ1,ρ,σ1,hE'.mono e1,r1,p1.bind fun ds σ2 μ2 us H2 _ e2 r2 q2 p2=>?_⟩;unfold ynn at p2;by_cases hl:ds.length+1=ps.length
     ·rw[if_pos hl]at p2;exact⟨μ2,σ2,d::ds,yqs.cons (Rep.mono e2 _ _ q1) (by rw[List.append_nil];exact q2),by rw[List.length_cons];exact hl,r2,p2⟩
     ·rw[if_neg hl]at p2;exact p2.elim
   ·have el:lkM [(c,fn)] c'=none:=by unfold lkM;rw[if_neg (by simpa using hcc)];rfl
    rw[el]at p1;exact p1.elim
 ·subst ex;obtain rfl:u=Value.ref a:=rx;obtain⟨fd,hb,_,hF⟩:=h;rw[hK]at hC hM hF hb;refine zia I1 ea hC hM en ?_;refine PySem.W.callWith_K (first:=[.ref a]) (h₀:=X.base) I.ok.mod.kin hM.kp (thn (ha pos pins s1 st H1 _ I1 q) fun us s2 ⟨vs,H2,I2,r,q2⟩=>⟨I2.kIn,?_⟩) hst hpl;exact ybd (us:=.ref a::us) (vs:=.ref a::vs) hF hr hb .nil I2 (.cons rfl r) q2
end
section
variable{T:Tb}{X:Cx}
end
section
variable{X:Cx}{pins:List (Addr × Obj)}{st:St}{H:Hp}{s:Shared}{x z0:Str}{M':List Str}{ix:List Nat}{scope:Scope}{fp:List Addr}
end
section
variable{T:Tb}{X:Cx}
end
def yu2(l:List Int):List Int:=l.mergeSort fun a b=>decide (a<=b)
theorem znn(l:List Int):(yu2 l).Perm l:=List.mergeSort_perm l _
theorem ycx(l:List Int):(yu2 l).Pairwise (·<=·):=by
 have:=List.pairwise_mergeSort (le:=fun a b:Int=>decide (a<=b)) (fun a b c h1 h2=>by simp at *;omega) (fun a b=>by simp;omega) l;exact this.imp fun h=>by simpa using h
theorem ya3:∀ {l m:List Int},l.Perm m->l.Pairwise (·<=·)->m.Pairwise (·<=·)->l=m
 |[],m,h,_,_=>by rw[List.nil_perm]at h;exact h.symm
 |a::l,[],h,_,_=>by have:=h.length_eq;simp at this
 |a::l,b::m,h,h1,h2=>by
  rw[List.pairwise_cons]at h1 h2;have ha:a∈b::m:=h.subset List.mem_cons_self;have hb:b∈a::l:=h.symm.subset List.mem_cons_self;have e:a=b:=by
   rcases List.mem_cons.mp ha with e|ha
   ·exact e
   ·rcases List.mem_cons.mp hb with e|hb
    ·exact e.symm
    ·have:=h1.1 b hb;have:=h2.1 a ha;omega
  subst e;rw[ya3 (List.Perm.cons_inv h) h1.2 h2.2]
def yua(K:PySem.W.Frag):List V->Hp->VK->Prop:=fun xs H Q=>∃ (p:Addr) (is:List Int),xs=[.ref p]/\SqL K H p (is.map V.int)/\is.length<64/\∀ l,H l=none->Q (.ref l) (upd H l (.lst ((yu2 is).map V.int)))
section
variable{T:Tb}{X:Cx}
theorem zoh:ykp X (.builtin "sorted") (yua X.K):=by
 intro pins s σ H xs us Q I r h;obtain⟨p,is,rfl,hq,h64,q⟩:=h;obtain⟨u,rfl,rx⟩:=ypx r;cases rx;obtain⟨its,r',pl,hz⟩:=I.list hq;have hlen:=r'.length;rw[List.length_map]at hlen;refine sorted_ints pl.isList (zib r') (by omega) fun out ns' a1 a2 a3=>?_;obtain⟨e,he⟩:=sortedAll_at s.heap its out;have en:ns'=yu2 is:=ya3 (a2.trans (znn is).symm) a3 (ycx is);subst en;have hl:=(znn is).length_eq;exact⟨.ref (s.heap.objs.size+1),_,I.laid (t':=s.toks) (fun _ _=>sortedAll_old) (Nat.le_succ _) (show ykv X.prog X.w _ _ _ (.lst ((yu2 is).map V.int))from⟨by rw[List.length_map,hl];exact Nat.le_trans (Nat.le_of_lt h64) (by decide),out.toList,e,zny a1,by rw[Array.toArray_toList];exact he⟩),rfl,q _ (I.hok.fresh (Nat.le_succ _))⟩
def zz7(xs:List D):M D:=fun σ=>match xs with
 |[x]=>(match ysf σ x with
  |some ys=>(match ygf ys with
   |some is=>if is.length<64 then ynm ((yu2 is).map D.int) σ else .bad
   |none=>.bad)
  |none=>.bad)
 |_=>.bad
theorem zst{μ:List Addr}{H:Hp}:∀ is:List Int,yqs T μ H (is.map D.int) (is.map V.int)
 |[]=>yqs.nil
 |i::is=>yqs.cons (by rw[Rep]) (zst is)
theorem ycn(hK:T.K=X.K):zuq T (yua X.K) zz7:=by
 intro E μ H σ xs vs Q r p h
 match xs with
 |[]=>exact h.elim
 |[x]=>
  rw[yqs]at p;obtain⟨v,w,rfl,p1,p2⟩:=p;rw[yqs]at p2;subst p2;unfold zz7 at h;cases e:ysf σ x with
  |none=>simp only[e]at h;exact h.elim
  |some ys=>
   simp only[e]at h;cases ei:ygf ys with
   |none=>simp only[ei]at h;exact h.elim
   |some is=>
    simp only[ei]at h;by_cases hc:is.length<64
    ·rw[if_pos hc]at h;obtain⟨b,us,rfl,h1,h2⟩:=r.ls p1 e;obtain rfl:=zqd h2 ei;exact⟨b,is,rfl,SqL.of h1,hc,fun l hl=>zzj h r (zst _) hl⟩
    ·rw[if_neg hc]at h;exact h.elim
 |_::_::_=>exact h.elim
def yso(kvs more:List (Key × V)):List (Key × V):=more.foldl (fun acc kv=>yts acc kv.1 kv.2) kvs
def ysn(kvs more:List (Key × D)):List (Key × D):=more.foldl (fun acc kv=>yok acc kv.1 kv.2) kvs
theorem yhh:∀ {more:List (Key × V)} {rs:List (Key × Value)} {kvs:List (Key × V)} {vs:List (Key × Value)},KV more rs->KV kvs vs->KV (yso kvs more) (merged vs rs):=by
 intro more;induction more with
 |nil=>intro rs kvs vs h1 h2;cases h1;exact h2
 |cons p more ih=>
  intro rs kvs vs h1 h2;cases h1 with
  |cons q h1=>
   obtain⟨q1,q2⟩:=q;have:=ih h1 (h2.put p.1 q2);rw[q1]at this;simpa [yso,merged,q1]using this
theorem zy6:∀ (more kvs:List (Key × V)),(yso kvs more).length<=kvs.length+more.length:=by
 intro more;induction more with
 |nil=>intro kvs;simp[yso]
 |cons p more ih=>
  intro kvs;have h1:=ih (yts kvs p.1 p.2);have h2:=zgi kvs p.1 p.2;have h3:yso kvs (p::more)=yso (yts kvs p.1 p.2) more:=rfl;rw[h3,List.length_cons];omega
def yub:V->List V->Hp->VK->Prop:=fun x vs H Q=>∃ a b kvs more,x=.ref a/\vs=[.ref b]/\a≠b/\H a=some (.dK kvs)/\H b=some (.dK more)/\kvs.length+more.length<=sizeLine/\Q .non (upd H a (.dK (yso kvs more)))
theorem yhj:MtR X "dict.update" yub:=by
 intro pins s st H x vs v us Q I rx rv h;obtain⟨a,b,kvs,more,rfl,rfl,hab,hH,hH2,hl,q⟩:=h;cases rx;obtain⟨u,rfl,ru⟩:=ypx rv;cases ru;obtain⟨z,hd,ws,rel,dd⟩:=ylo I.hok hH;obtain⟨z2,hd2,ws2,rel2,dd2⟩:=ylo I.hok hH2;have e1:kvs.length=ws.length:=by unfold KV at rel;exact Paired.length rel
 have e2:more.length=ws2.length:=by unfold KV at rel2;exact Paired.length rel2
 refine call_meetsIn PySem.F.slot_dict_update dd.typeIs PySem.F.entry_dict_update (PySem.F.args_dict_update_2 _ _) (meets_dict_update (zy2 X.prog X.w) a b hab hd2) ⟨ws,ws2,dd,dd2,by omega,fun h' dd' _ hs=>?_⟩;have he:∃ q,h'.get? a=some q:=let ⟨q,_,_,hq,_⟩:=dd';⟨q,hq⟩;have hm:=zy6 more kvs;exact⟨.non,_,zvq I (by rw[hH];exact True.intro) hs he (yej (by omega) hd (yhh rel2 rel) dd'),rfl,q⟩
def apart(n:Nat):D->Bool
 | .ref m=>!(m == n)
 |_=>true
def yth(x:D)(xs:List D):M D:=fun σ=>match x,xs with
 | .ref n,[y]=>(match σ[n]? with
  |some (.dic kvs)=>(match yrj σ y with
   |some more=>if (apart n y && decide (kvs.length+more.length<=cap))=true then .ok .non (σ.set n (.dic (ysn kvs more)))else .bad
   |none=>.bad)
  |_=>.bad)
 |_,_=>.bad
theorem zy7{μ:List Addr}{H:Hp}:∀ {more:List (Key × D)} {us:List (Key × V)} {kvs:List (Key × D)} {vs:List (Key × V)},yqr T μ H more us->yqr T μ H kvs vs->yqr T μ H (ysn kvs more) (yso vs us):=by
 intro more;induction more with
 |nil=>intro us kvs vs h1 h2;unfold yqr at h1;cases h1;exact h2
 |cons p more ih=>
  intro us kvs vs h1 h2;unfold yqr at h1;cases h1 with
  |cons q h1=>
   have:=ih h1 (zow h2 p.1 q.2);rw[q.1]at this;simpa [ysn,yso,q.1]using this
theorem ycq:ykz T yub yth:=by
 intro E μ H σ x xs v vs Q r p q h;cases x with
 |ref n=>
  match xs with
  |[]=>exact h.elim
  |[y]=>
   rw[yqs]at q;obtain⟨w,z,rfl,q1,q2⟩:=q;rw[yqs]at q2;subst q2;unfold yth at h;cases el:σ[n]? with
   |none=>simp only[el]at h;exact h.elim
   |some ob=>
    cases ob with
    |dic kvs=>
     simp only[el]at h;cases ed:yrj σ y with
     |none=>simp only[ed]at h;exact h.elim
     |some more=>
      simp only[ed]at h;by_cases hc:(apart n y && decide (kvs.length+more.length<=cap))=true
      ·rw[if_pos hc]at h;simp only[Bool.and_eq_true,decide_eq_true_eq]at hc;obtain⟨a,rfl,hn,us,g1,g2⟩:=r.at p el;obtain⟨b,ws,rfl,g3,g4⟩:=yje r q1 ed;have l1:us.length=kvs.length:=by unfold yqr at g2;exact(Paired.length g2).symm
       have l2:ws.length=more.length:=by unfold yqr at g4;exact(Paired.length g4).symm
       have hab:a≠b:=by
        cases y with
        |ref m=>
         rw[Rep]at q1;obtain⟨b',e,hm⟩:=q1;cases e;intro e;subst e;have hmn:m=n:=zrj r.nd hm hn;have:=hc.1;simp[apart,hmn]at this
        |dic ks ds=>
         rw[Rep]at q1;obtain⟨b',kvs',e,hb,_⟩:=q1;cases e;intro e;subst e;exact hb (List.mem_of_getElem? hn)
        |_=>cases ed
       refine⟨a,b,us,ws,rfl,rfl,hab,g1,g3,by rw[l1,l2];exact Nat.le_trans hc.2 (by decide),?_⟩;have wr:=r.write (o:=.dK (yso us ws)) (ob:=.dic (ysn kvs more)) hn ⟨_,upd_same,by
        have ex:Ext μ H μ (upd H a (.dK (yso us ws))):=zk1 (List.mem_of_getElem? hn) g1 (fun _ z=>by cases z) (fun _ _ z=>by cases z);exact zy7 (yqr.mono ex g4) (yqr.mono ex g2)⟩
       exact h _ _ _ wr.1 wr.2 (by rw[Rep])
      ·rw[if_neg hc]at h;exact h.elim
    |lst ys=>simp only[el]at h;exact h.elim
    |ins c fs=>simp only[el]at h;exact h.elim
  |_::_::_=>exact h.elim
 |_=>exact h.elim
end
theorem zfz:bootBuiltins "sorted" = some (.builtin "sorted"):=by decide +kernel
theorem znz:∀ {ks:List Key} {vs:List Value},vs.length=ks.length->(∀ (j:Nat) (v:Value) (k:Key),vs[j]?=some v->ks[j]?=some k->yqp (kV k) v)->yqx (ks.map kV) vs
 |[],[],_,_=>.nil
 |[],_::_,h,_=>by simp at h
 |_::_,[],h,_=>by simp at h
 |k::ks,v::vs,h,hv=>.cons (hv 0 v k rfl rfl) (znz (by simpa using h) fun j v k e1 e2=>hv (j+1) v k e1 e2)
theorem zya{P:Program}{w:World}{k:Key}{v:Value}(h:(zy2 P w).is k v=true):yqp (kV k) v:=by
 rw[zio]at h;rcases zgg h with⟨i,t,rfl,rfl⟩|⟨x,t,rfl,rfl⟩
 ·exact⟨t,rfl⟩
 ·exact⟨t,rfl⟩
theorem zyc:∀ {kvs:List (Key × V)} {ws:List (Key × Value)},KV kvs ws->ws.map (·.1)=kvs.map (·.1)
 |[],_,h=>by cases h;rfl
 |p::kvs,_,h=>by
  cases h with
  |cons q h=>simp only[List.map_cons];rw[zyc h,q.1]
def yjb:List V->Hp->VK->Prop:=fun xs H Q=>∃ (a:Addr) (kvs:List (Key × V)),xs=[.ref a]/\H a=some (.dK kvs)/\∀ l,H l=none->Q (.ref l) (upd H l (.lst (kvs.map fun kv=>kV kv.1)))
section
variable{T:Tb}{X:Cx}
theorem zhr(hc:X.calm=true):ykp X (.type "list") yjb:=by
 intro pins s σ H xs us Q I r h;obtain⟨a,kvs,rfl,hH,q⟩:=h;obtain⟨u,rfl,rx⟩:=ypx r;cases rx;obtain⟨z,hd,ws,rel,dd⟩:=ylo I.hok hH;obtain⟨ep,hat⟩:=dd.dictAt;have hk:=zyc rel;have hl:ws.length=kvs.length:=by have:=congrArg List.length hk;simpa using this
 refine PySem.W.kdl_call (PySem.W.kdl_dict (knd:=zy2 X.prog X.w) (kvs:=ws) (ep:=ep) hd) (I.ok.hd hc) hat (by omega) fun h' tk acc c kp e hacc=>?_;have hv:yqx ((ws.map (·.1)).map kV) acc.toList:=znz (by rw[Array.length_toList,List.length_map];exact hacc.1) fun j v k e1 e2=>by
  obtain⟨k',x,hx,hk'⟩:=hacc.2 j v (by rw[<-Array.getElem?_toList];exact e1);rw[List.getElem?_map,hx]at e2;cases e2;exact zya hk'
 rw[hk,List.map_map]at hv;exact⟨.ref s.heap.objs.size,_,I.laid (t':=tk) kp (Nat.le_refl _) (show ykv X.prog X.w _ h' _ (.lst (kvs.map fun kv=>kV kv.1))from⟨by rw[List.length_map];exact z,acc.toList,c,hv,by rw[Array.toArray_toList];exact e⟩),rfl,q _ (I.hok.fresh (Nat.le_refl _))⟩
def ysc:Key->D
 | .inl i=>.int i
 | .inr x=>.str x
def yhu(xs:List D):M D:=fun σ=>match xs with
 |[x]=>(match yrj σ x with
  |some kvs=>if kvs.length<=cap then ynm (kvs.map fun kv=>ysc kv.1) σ else .bad
  |none=>.bad)
 |_=>.bad
theorem zsv{μ:List Addr}{H:Hp}:∀ {kvs:List (Key × D)} {us:List (Key × V)},yqr T μ H kvs us->yqs T μ H (kvs.map fun kv=>ysc kv.1) (us.map fun kv=>kV kv.1)
 |[],_,h=>by unfold yqr at h;cases h;exact yqs.nil
 |p::kvs,_,h=>by
  unfold yqr at h;cases h with
  |cons q h=>
   refine yqs.cons ?_ (zsv h);dsimp only;rw[<-q.1];cases p.1<;>(unfold ysc kV;rw[Rep])
theorem znm:zuq T yjb yhu:=by
 intro E μ H σ xs vs Q r p h
 match xs with
 |[]=>exact h.elim
 |[x]=>
  rw[yqs]at p;obtain⟨v,w,rfl,p1,p2⟩:=p;rw[yqs]at p2;subst p2;unfold yhu at h;cases e:yrj σ x with
  |none=>simp only[e]at h;exact h.elim
  |some kvs=>
   simp only[e]at h;by_cases hc:kvs.length<=cap
   ·rw[if_pos hc]at h;obtain⟨a,us,rfl,g1,g2⟩:=yje r p1 e;exact⟨a,us,rfl,g1,fun l hl=>zzj h r (zsv g2) hl⟩
   ·rw[if_neg hc]at h;exact h.elim
 |_::_::_=>exact h.elim
end
end L4
namespace L4
open PySem PySem.Spec PySem.Calls PySem.W PyProof.Rows PyProof.V
theorem zek{prog:Program}{w:World}{A:Around}{E:Value->Shared->Prop}{s:Shared}{R:List Value->Shared->Prop}{Ty:String}{r d:Addr}{n:Nat}{P:Nat->Value->Prop}{OK:Heap->Prop}
  (K:KdlSrc prog w Ty r d n P OK) (hh:A.handled=none) (hok:OK s.heap) (hn:n<=sizeLine)
  (fin:∀ (h':Heap) (tk:Nat) (acc:Array Value),(∀ b o,s.heap.get? b=some o->h'.get? b=some o)->s.heap.objs.size<=h'.objs.size->ItemsOf P acc n->R acc.toList { s with heap:=h',toks:=tk }) :
  wpAny (model prog w) A (collect (.ref r)) R E s:=by
 have lt:=K.there _ hok;let S:Addr:=s.heap.objs.size;let Z:Result->Shared->Prop:=fun q s'=>∃ (h':Heap) (tk:Nat) (acc:Array Value) (c:Nat),q=.ok (.ret (.ref S))/\s'={ s with heap:=h',toks:=tk }/\(∀ b o,s.heap.get? b=some o->h'.get? b=some o)/\
  h'.get? S=some { cls:=.type "list",dict:=none,data:=.seq acc c,slots:=#[] }/\ItemsOf P acc n
 have close:∀ {h':Heap} {tk c:Nat} {acc:Array Value},(∀ b o,s.heap.get? b=some o->h'.get? b=some o)->h'.get? S=some { cls:=.type "list",dict:=none,data:=.seq acc c,slots:=#[] }->ItemsOf P acc n->R acc.toList { s with heap:=h',toks:=tk }:=
  fun kp g it=>fin _ _ _ kp (Nat.le_of_lt (Heap.lt_size g)) it
 have at0:(s.heap.push { cls:=.type "list",data:=.seq ([]:List Value).toArray }).get? S=some { cls:=.type "list",data:=.seq #[] }:=Heap.get?_push_size _ rfl;have run:=kdl_extend (A:=A) (s:={ s with heap:=s.heap.push { cls:=.type "list",data:=.seq ([]:List Value).toArray } }) (R:=Z) K hh (K.keep _ _ hok fun b _ o e=>Heap.get?_push_of_some _ e) S (Nat.ne_of_gt lt.1) (Nat.ne_of_gt lt.2) (.ref S) 0 at0
  (fun h' tk acc c kp g it=>⟨h',tk,acc,c,rfl,rfl,fun b o e=>kp b o (Nat.ne_of_lt (Heap.lt_size e)) (Heap.get?_push_of_some _ e),g,it⟩) hn
 unfold collect;refine wpAny_bind (wpAny_runValue (codeAny_builtin entry_proto_collect' ?_));rw[Around.under_plainId PySem.F.plain_proto_collect _];show wpAny _ A.in1 (newList [] >>= fun l=>again (.builtin "list.__iadd__" ⟨[l,.ref r],[]⟩)) _ _ s;refine wpAny_bind (wpAny_newObj_type (wpAny_pure ⟨plainId_quiet PySem.F.plain_list_iadd _,codeAny_builtin entry_list_iadd' ?_⟩));rw[Around.under_plainId PySem.F.plain_list_iadd _];show wpAny _ A.in1 (Builtin.List.listExtendWith (.ref S) (.ref r) (.ref S)) _ _ _;refine wpAny_mono run (fun f s' x=>?_) (fun e s' x=>by obtain⟨_,_,_,_,z,_⟩:=x;cases z);cases f with
 |done f=>
  obtain⟨h',tk,acc,c,e,rfl,kp,g,it⟩:=x;cases e;exact wpAny_bind (wpAny_load g (wpAny_pure (close kp g it)))
 |again c1=>
  refine⟨x.1,codeAny_mono x.2 fun q s2 y=>?_⟩;obtain⟨h',tk,acc,c,rfl,rfl,kp,g,it⟩:=y;exact wpAny_bind (wpAny_load g (wpAny_pure (close kp g it)))
end L4
namespace L4
open PySem PySem.Spec PyProof.Rows L2
def you:List V->Hp->VK->Prop:=fun xs H Q=>∃ (a:Addr) (kvs:List (Key × V)) (is:List Int),xs=[.ref a]/\H a=some (.dK kvs)/\kvs.map (·.1)=is.map Sum.inl/\is.length<64/\∀ l,H l=none->Q (.ref l) (upd H l (.lst ((yu2 is).map V.int)))
theorem zll:∀ {is:List Int} {vs:List Value},yqx ((is.map (Sum.inl:Int->Key)).map kV) vs->IntsAre vs is
 |[],_,h=>by cases h;exact .nil
 |i::is,_,h=>by
  cases h with
  |cons q h=>
   obtain⟨t,rfl⟩:=q;exact .cons i t (zll h)
section
variable{T:Tb}{X:Cx}
theorem zkh(hc:X.calm=true):ykp X (.builtin "sorted") you:=by
 intro pins s σ H xs us Q I r h;obtain⟨a,kvs,is,rfl,hH,hks,h64,q⟩:=h;obtain⟨u,rfl,rx⟩:=ypx r;cases rx;obtain⟨z,hd,ws,rel,dd⟩:=ylo I.hok hH;obtain⟨ep,hat⟩:=dd.dictAt;have hk:=zyc rel;have hlw:ws.length=kvs.length:=by have:=congrArg List.length hk;simpa using this
 have hlk:kvs.length=is.length:=by have:=congrArg List.length hks;simpa using this
 have hn:ws.length<=sizeLine:=by omega
 refine Calls.call_function_entry kind_sorted plain_sorted entry_sorted (args_sorted1 _) ?_;unfold Builtin.«sorted»;refine wpAny_bind (m:=checkCount "sorted" 1 1 _) (wpAny_pure ?_);refine wpAny_bind (zek (A:=X.A.in1) (PySem.W.kdl_dict (knd:=zy2 X.prog X.w) (kvs:=ws) (ep:=ep) hd) (I.ok.hd hc) hat hn fun h' tk acc kp hsz hacc=>?_);have hl:acc.toList.length=ws.length:=by rw[Array.length_toList];exact hacc.1
 have hv:yqx ((ws.map (·.1)).map kV) acc.toList:=znz (by rw[List.length_map];exact hl) fun j v k e1 e2=>by
  obtain⟨k',x,hx,hk'⟩:=hacc.2 j v (by rw[<-Array.getElem?_toList];exact e1);rw[List.getElem?_map,hx]at e2;cases e2;exact zya hk'
 rw[hk,hks]at hv;have hI:=zll hv;refine wpAny_bind (wpAny_newList ?_ (by rw[hl];exact hn));have hoL:(h'.push (seqObj "list" acc.toList.toArray 0)).get? h'.objs.size=some (seqObj "list" acc.toList.toArray 0):=Heap.get?_push_size _ rfl;refine wpAny_bind (wpAny_holding (wpAny_call_entry slot_list_sort ⟨_,hoL,rfl⟩ entry_list_sort (list_sort_tree hoL hI (by omega) fun out ns' a1 a2 a3=>⟨_,rfl,?_⟩) (args_list_sort _)));refine wpAny_pure ⟨_,rfl,?_⟩;have en:ns'=yu2 is:=ya3 (a2.trans (znn is).symm) a3 (ycx is);subst en;have hls:=(znn is).length_eq;obtain⟨e,he⟩:=sortedHeap_at (out:=out) hoL;exact⟨.ref h'.objs.size,_,I.laid (t':=tk) (fun b o eb=>by
  have lt:b<h'.objs.size:=Heap.lt_size (kp b o eb);rw[sortedHeap_old (Nat.ne_of_lt lt) (by rw[size_push'];exact Nat.lt_succ_of_lt lt)];exact Heap.get?_push_of_some _ (kp b o eb)) hsz (show ykv X.prog X.w _ _ _ (.lst ((yu2 is).map V.int))from⟨by rw[List.length_map,hls];exact Nat.le_trans (Nat.le_of_lt h64) (by decide),out.toList,e,zny a1,by rw[Array.toArray_toList];exact he⟩),rfl,q _ (I.hok.fresh hsz)⟩
def ym3:List (Key × D)->Option (List Int)
 |[]=>some []
 |(.inl i,_)::r=>(ym3 r).map (i::·)
 |_::_=>none
theorem zlw{μ:List Addr}{H:Hp}:∀ {kvs:List (Key × D)} {us:List (Key × V)} {is:List Int},yqr T μ H kvs us->ym3 kvs=some is->us.map (·.1)=is.map Sum.inl
 |[],_,is,h,e=>by unfold yqr at h;cases h;cases e;rfl
 |(k,d)::kvs,_,is,h,e=>by
  unfold yqr at h;cases h with
  |cons q h=>
   cases k with
   |inr x=>cases e
   |inl i=>
    unfold ym3 at e;cases ek:ym3 kvs with
    |none=>rw[ek]at e;cases e
    |some js=>
     rw[ek]at e;cases e;simp only[List.map_cons];rw[zlw h ek,<-q.1]
def zr5(xs:List D):M D:=fun σ=>match xs with
 |[x]=>(match yrj σ x with
  |some kvs=>(match ym3 kvs with
   |some is=>if is.length<64 then ynm ((yu2 is).map D.int) σ else .bad
   |none=>.bad)
  |none=>.bad)
 |_=>.bad
theorem zty:zuq T you zr5:=by
 intro E μ H σ xs vs Q r p h
 match xs with
 |[]=>exact h.elim
 |[x]=>
  rw[yqs]at p;obtain⟨v,w,rfl,p1,p2⟩:=p;rw[yqs]at p2;subst p2;unfold zr5 at h;cases e:yrj σ x with
  |none=>simp only[e]at h;exact h.elim
  |some kvs=>
   simp only[e]at h;cases ei:ym3 kvs with
   |none=>simp only[ei]at h;exact h.elim
   |some is=>
    simp only[ei]at h;by_cases hc:is.length<64
    ·rw[if_pos hc]at h;obtain⟨a,us,rfl,g1,g2⟩:=yje r p1 e;exact⟨a,us,is,rfl,g1,zlw g2 ei,hc,fun l hl=>zzj h r (zst _) hl⟩
    ·rw[if_neg hc]at h;exact h.elim
 |_::_::_=>exact h.elim
def yot(K:PySem.W.Frag):List V->Hp->VK->Prop:=fun xs H Q=>yua K xs H Q\/you xs H Q
theorem zkg(hc:X.calm=true):ykp X (.builtin "sorted") (yot X.K):=by
 intro pins s σ H xs us Q I r h;rcases h with h|h
 ·exact zoh pins s σ H xs us Q I r h
 ·exact zkh hc pins s σ H xs us Q I r h
def yn5(xs:List D):M D:=fun σ=>match xs with
 |[x]=>(match ysf σ x with
  |some _=>zz7 [x] σ
  |none=>zr5 [x] σ)
 |_=>.bad
theorem ztx(hK:T.K=X.K):zuq T (yot X.K) yn5:=by
 intro E μ H σ xs vs Q r p h
 match xs with
 |[]=>exact h.elim
 |[x]=>
  unfold yn5 at h;cases e:ysf σ x with
  |some ys=>simp only[e]at h;exact .inl (ycn hK E μ H σ [x] vs Q r p h)
  |none=>simp only[e]at h;exact .inr (zty E μ H σ [x] vs Q r p h)
 |_::_::_=>exact h.elim
end
section
variable{T:Tb}{X:Cx}
theorem zpl{n:Nat}{dds:List D}{dvs:List V}{pl:Sem Bool}{k c:Nat}{fn:List D->M D}{ps:List Str}{dv:List Value}{m:Str}{o e:Expr}{es:List Expr}{f:Ev->M D}{fs:Ev->M (List D)}{pos apos:Pos}{fa:Addr}(hK:T.K=X.K)(he:FE T X o f)(hC:Cls T.K (T.ca c))(hM:Meth T.K (T.ca c) m fa)
  (h:OkB T X.prog X.w X.mg X.base k fa ps dv fn) (hv:yqx dvs dv) (hdd:∀ μ H,yqs T μ H dds dvs) (hn:n+dds.length=ps.length) (hr:Room k X.A) (ha:FA T X (e::es) fs)
  (hst:starEach (e::es) X.env=(false,eval e X.env)::starEach es X.env:=by rfl) (hpl:(backTo pos (starEach es X.env)).any (·.1)=false:=by rfl)
  (ht:eval (.Call (.Attribute o m apos) (e::es) [] pos) X.env=(do
   let ov <-eval o X.env
   standAt apos.atName
   let (f,first) <-holding [ov] (getMethod ov m pl)
   callWith pos f first (backTo pos (starEach (e::es) X.env)) (backToKw pos (keywordEach [] X.env))):=by rfl) :
  FE T X (.Call (.Attribute o m apos) (e::es) [] pos) (yro [(c,fun ds=>fn (ds++dds))] n m f fs):=by
 intro pins s st H Q I hq;obtain⟨μ,ρ,σ,hE,hr',hp⟩:=hq;have hE':=hE;refine PySem.W.methodCall_KW (pl:=pl) (thn (he pins s st H (fun x H1=>∃ a dx vs,x=.ref a/\H1 a=some (.ins (T.ca c) dx vs)/\vs.lookup m=none/\tL T X fs st H1 fun us H2=>spF T ps.length fn (x::(us++dvs)) H2 Q (XE X st)) I ⟨μ,ρ,σ,hE,hr',hp.bind fun d σ1 μ1 v H1 _ e1 r1 q1 p1=>?_⟩) fun u s1 ⟨x,H1,I1,rx,a,dx,vs,ex,ea,en,q⟩=>?_) ht
 ·unfold ysq at p1;cases ei:ymv σ1 d with
  |none=>rw[ei]at p1;exact p1.elim
  |some z=>
   obtain⟨c',gs⟩:=z;rw[ei]at p1;dsimp only at p1;by_cases hcc:c=c'
   ·subst hcc;have el:lkM [(c,fun ds=>fn (ds++dds))] c=some (fun ds=>fn (ds++dds)):=by unfold lkM;rw[if_pos (beq_self_eq_true c)]
    cases en:gs.lookup m with
    |some y=>rw[el,en]at p1;exact p1.elim
    |none=>
     rw[el,en]at p1;dsimp only at p1;obtain⟨a,dx,vs,rfl,h1,h2⟩:=zxu r1 q1 ei;refine⟨a,dx,vs,rfl,h1,(zq2 h2).2 en,μ1,ρ,σ1,hE'.mono e1,r1,p1.bind fun ds σ2 μ2 us H2 _ e2 r2 q2 p2=>?_⟩;unfold ynn at p2;by_cases hl:ds.length+1=n
     ·rw[if_pos hl]at p2;exact⟨μ2,σ2,d::(ds++dds),yqs.cons (Rep.mono e2 _ _ q1) (yqs.append q2 (hdd _ _)),by rw[List.length_cons,List.length_append];omega,r2,p2⟩
     ·rw[if_neg hl]at p2;exact p2.elim
   ·have el:lkM [(c,fun ds=>fn (ds++dds))] c'=none:=by unfold lkM;rw[if_neg (by simpa using hcc)];rfl
    rw[el]at p1;exact p1.elim
 ·subst ex;obtain rfl:u=Value.ref a:=rx;obtain⟨fd,_,hb,hF⟩:=h;rw[hK]at hC hM hF hb;refine zia I1 ea hC hM en ?_;refine PySem.W.callWith_K (first:=[.ref a]) (h₀:=X.base) I.ok.mod.kin hM.kp (thn (ha pos pins s1 st H1 _ I1 q) fun us s2 ⟨vs,H2,I2,r,q2⟩=>⟨I2.kIn,?_⟩) hst hpl;exact ybd (us:=.ref a::us) (vs:=.ref a::vs) hF hr hb hv I2 (.cons rfl r) q2
end
end L4
namespace L2
open PySem PySem.Spec PyProof.Rows
def yj6:List (TE × TE)->St->Hp->(List (V × V)->Hp->Prop)->Prop
 |[],_,H,Q=>Q [] H
 |(tk,tv)::r,σ,H,Q=>tk σ H fun x H1=>tv σ H1 fun y H2=>yj6 r σ H2 fun ps H3=>Q ((x,y)::ps) H3
abbrev VV:List (V × V)->List (Value × Value)->Prop:=Paired fun p q=>yqp p.1 q.1/\yqp p.2 q.2
def PPs(X:Cx)(pos:Pos)(keys:List (Option Expr))(values:List Expr)(trs:List (TE × TE)):Prop:=
 ∀ (pins:List (Addr × Obj)) (s:Shared) (σ:St) (H:Hp) (Q:List (V × V)->Hp->Prop),Inv X pins σ H s->yj6 trs σ H Q->
  wpAny (model X.prog X.w) X.A (evalPairs (pairTrees keys values X.env pos)) (fun vs s'=>∃ ps H',Inv X pins σ H' s'/\VV ps vs/\Q ps H') X.xe s
theorem yau{X:Cx}{pos:Pos}:PPs X pos [] [] []:=fun pins s σ H Q I h=>pairTrees_nil_walk ⟨[],H,I,.nil,h⟩
theorem zsk{X:Cx}{pos:Pos}{k v:Expr}{ks:List (Option Expr)}{vs:List Expr}{tk tv:TE}{trs:List (TE × TE)}(hk:PE X k tk)(hv:PE X v tv)(hr:PPs X pos ks vs trs) :
  PPs X pos (some k::ks) (v::vs) ((tk,tv)::trs):=fun pins s σ H Q I h=>
 pairTrees_cons_walk (thn (hk pins s σ H _ I h) fun u s1 ⟨x,H1,I1,rx,q1⟩=>thn (hv pins s1 σ H1 _ I1 q1) fun w2 s2 ⟨y,H2,I2,ry,q2⟩=>
  thn (hr pins s2 σ H2 _ I2 q2) fun ws s3 ⟨ps,H3,I3,rel,q3⟩=>⟨(x,y)::ps,H3,I3,.cons ⟨rx,ry⟩ rel,q3⟩)
def yhb(kvs more:List (Key × V)):List (Key × V):=more.foldl (fun acc kv=>yts acc kv.1 kv.2) kvs
theorem KV.merge:∀ {more:List (Key × V)} {rs:List (Key × Value)} {kvs:List (Key × V)} {vs:List (Key × Value)},KV more rs->KV kvs vs->KV (yhb kvs more) (merged vs rs):=by
 intro more rs kvs vs r;unfold KV at r;induction r generalizing kvs vs with
 |nil=>intro q;exact q
 |@cons p q ps qs h t ih=>
  intro r0;have e:KV (yts kvs p.1 p.2) (stored vs q.1 q.2):=by
   have:=r0.put p.1 h.2;rw[<-h.1];exact this
  exact ih e
theorem zdi:∀ (more kvs:List (Key × V)),(yhb kvs more).length<=kvs.length+more.length
 |[],kvs=>by show kvs.length<=kvs.length+0;omega
 |p::r,kvs=>by
  have h1:=zdi r (yts kvs p.1 p.2);have h2:=zgi kvs p.1 p.2;show (yhb (yts kvs p.1 p.2) r).length<=_;rw[List.length_cons];omega
theorem zhs{P:Program}{w:World}:∀ {kvs:List (Key × V)} {ws:List (Value × Value)},VV (kvs.map fun kv=>(kV kv.1,kv.2)) ws->∃ rs,Carries (zy2 P w) ws rs/\KV kvs rs
 |[],_,r=>by rw[List.map_nil]at r;cases r;exact⟨[],True.intro,.nil⟩
 |p::kvs,_,r=>by
  rw[List.map_cons]at r;cases r with
  |@cons a b as bs h t=>
   obtain⟨rs,c,q⟩:=zhs (P:=P) (w:=w) t;obtain⟨b1,b2⟩:=b;exact⟨(p.1,b2)::rs,⟨ym1 h.1,rfl,c⟩,.cons ⟨rfl,h.2⟩ q⟩
def ypl(trs:List (TE × TE)):TE:=fun σ H Q=>∀ p,H p=none->yj6 trs σ (upd H p (.dK [])) fun ps H2=>H2 p=some (.dK [])/\∃ kvs:List (Key × V),ps=kvs.map (fun kv=>(kV kv.1,kv.2))/\kvs.length<=15/\Q (.ref p) (upd H2 p (.dK (yhb [] kvs)))
theorem yaj{X:Cx}{pos:Pos}{keys:List (Option Expr)}{values:List Expr}{trs:List (TE × TE)}(h:PPs X pos keys values trs)(hall:keys.all (·.isSome)=true)(hl:keys.length=values.length)(h0:keys≠[])
  (h15:keys.length<=15):PE X (.Dict keys values pos) (ypl trs):=by
 intro pins s σ H Q I q;have hn:=I.hok.fresh (Nat.le_refl s.heap.objs.size);have I1:=I.laid (a:=s.heap.objs.size) (o:=.dK []) (h':=s.heap.push { cls:=.type "dict",data:=.dict #[] }) (t':=s.toks) (fun _ _ q=>Heap.get?_push_of_some _ q) (Nat.le_refl _) (zou s.heap I.big);refine wpAny_Dict_walk (knd:=zy2 X.prog X.w) hall hl h0 h15 (thn (h pins _ σ _ _ I1 (q _ hn)) fun ws s2 ⟨ps,H2,I2,rel,e,kvs,ep,lk,q2⟩=>?_);subst ep;obtain⟨rs,c,rk⟩:=zhs (P:=X.prog) (w:=X.w) rel;obtain⟨z,hd,vs0,r0,dd⟩:=ylo I2.hok e;cases r0;refine⟨rs,c,dd,fun h' dd' hs=>⟨.ref s.heap.objs.size,_,?_,rfl,q2⟩⟩;have hz:(yhb [] kvs).length<=sizeLine:=by
  have h1:=zdi kvs [];rw[List.length_nil]at h1;rw[sizeLine_eq];omega
 have he:∃ q,h'.get? s.heap.objs.size=some q:=let ⟨q,_,_,hq,_⟩:=dd';⟨q,hq⟩;exact zvq I2 (by rw[e];exact True.intro) hs he (yej hz hd (rk.merge .nil) dd')
end L2
namespace L4
open PySem PySem.Spec PyProof.Rows L2
def yln(n:Nat)(ks:List Key)(ds:List D):M D:=fun σ=>match σ[n]? with
 |some (.dic [])=>if ks.length<=15 then .ok (.ref n) (σ.set n (.dic (ysn [] (ks.zip ds))))else .bad
 |_=>.bad
def ylw(ks:List Key)(fs:Ev->M (List D)):Ev->M D:=fun ρ σ=>bnd (fs ρ) (yln σ.length ks) (σ++[.dic []])
section
variable{T:Tb}{X:Cx}
inductive Dsp(T:Tb)(X:Cx):List (Option Expr)->List Expr->List Key->(Ev->M (List D))->Prop
 |nil:Dsp T X [] [] [] yqy
 |cons {k v:Expr} {kk:Key} {f:Ev->M D} {ks:List (Option Expr)} {vs:List Expr} {kks:List Key} {fs:Ev->M (List D)} (hk:FE T X k (eC (ysc kk))) (hv:FE T X v f) (r:Dsp T X ks vs kks fs):Dsp T X (some k::ks) (v::vs) (kk::kks) (yk5 f fs)
theorem zqp{μ:List Addr}{H:Hp}{kk:Key}{v:V}(h:Rep T μ H (ysc kk) v):v=kV kk:=by
 cases kk<;>(unfold ysc at h;rw[Rep]at h;exact h)
theorem Dsp.trs{pos:Pos}{ks:List (Option Expr)}{vs:List Expr}{kks:List Key}{fs:Ev->M (List D)}(h:Dsp T X ks vs kks fs) :
  ∃ trs,PPs X pos ks vs trs/\∀ (st:St) (H:Hp) (Q:List (V × V)->Hp->Prop) (μ:List Addr) (ρ:Ev) (σ:Sto),yp6 T μ H ρ st->Rel T μ H σ->yqm T (XE X st) (yqs T) μ H (fs ρ σ) (fun us H'=>Q ((kks.map kV).zip us) H')->yj6 trs st H Q:=by
 induction h with
 |nil=>exact⟨[],yau,fun st H Q μ ρ σ hE hr hp=>by
  have z:(fun(us:List V) H'=>Q ((([]:List Key).map kV).zip us) H') [] H:=yqm.here (R:=yqs T) (g:=([]:List V)) (Q:=fun(us:List V) H'=>Q ((([]:List Key).map kV).zip us) H') hp hr yqs.nil;exact z⟩
 |@cons k v kk f ks vs kks fs hk hv r ih=>
  obtain⟨trs,h1,h2⟩:=ih;refine⟨_,zsk hk hv h1,fun st H Q μ ρ σ hE hr hp=>?_⟩;refine⟨μ,ρ,σ,hE,hr,fun μ1 g H1 e1 r1 q1=>?_⟩;obtain rfl:=zqp q1;refine⟨μ1,ρ,σ,hE.mono e1,r1,(yqm.mono e1 hp).bind fun d σ2 μ2 v2 H2 _ e2 r2 p2 q2=>?_⟩;exact h2 st H2 _ μ2 ρ σ2 (hE.mono (e1.trans e2)) r2 (q2.bind fun ds σ3 μ3 us H3 _ e3 r3 p3 q3=>by
   have z:(fun(us:List V) H'=>Q (((kk::kks).map kV).zip us) H') (v2::us) H3:=yqm.here (R:=yqs T) (g:=v2::us) (Q:=fun(us:List V) H'=>Q (((kk::kks).map kV).zip us) H') q3 r3 (yqs.cons (Rep.mono e3 _ _ p2) p3);exact z)
theorem ykn:∀ (ks:List Key) (us:List V),(ks.map kV).zip us=(ks.zip us).map fun kv=>(kV kv.1,kv.2)
 |[],_=>by simp
 |_::_,[]=>by simp
 |k::ks,u::us=>by simp[ykn ks us]
theorem ydg{μ:List Addr}{H:Hp}:∀ {ks:List Key} {ds:List D} {us:List V},yqs T μ H ds us->yqr T μ H (ks.zip ds) (ks.zip us)
 |[],_,_,_=>by unfold yqr;simp only[List.zip_nil_left];exact .nil
 |k::ks,[],us,h=>by rw[yqs]at h;subst h;unfold yqr;simp only[List.zip_nil_right];exact .nil
 |k::ks,d::ds,us,h=>by
  rw[yqs]at h;obtain⟨v,r,rfl,h1,h2⟩:=h;have:=ydg (ks:=ks) h2;unfold yqr at this ⊢;simp only[List.zip_cons_cons];exact .cons ⟨rfl,h1⟩ this
theorem zwp{keys:List (Option Expr)}{values:List Expr}{kks:List Key}{fs:Ev->M (List D)}{pos:Pos}(h:Dsp T X keys values kks fs)(hall:keys.all (·.isSome)=true)(hl:keys.length=values.length)(h0:keys≠[])(h15:keys.length<=15) :
  FE T X (.Dict keys values pos) (ylw kks fs):=by
 intro pins s st H Q I hq;obtain⟨trs,hp1,ht⟩:=h.trs (pos:=pos);refine yaj hp1 hall hl h0 h15 pins s st H Q I ?_;obtain⟨μ,ρ,σ,hE,hr,hp⟩:=hq;intro p hn;have ex:Ext μ H (μ++[p]) (upd H p (.dK [])):=zpd hn;have r1:Rel T (μ++[p]) (upd H p (.dK [])) (σ++[.dic []]):=hr.push (p:=p) (o:=.dK []) (ob:=.dic []) hn ⟨[],upd_same,by unfold yqr;exact .nil⟩;have hmu:(μ++[p])[σ.length]?=some p:=by rw[<-hr.len];simp
 refine ht _ _ _ (μ++[p]) ρ (σ++[.dic []]) (hE.mono ex) r1 ((yqm.mono ex hp).bind fun ds σ2 μ2 us H2 _ e2 r2 p2 q2=>?_);have hm2:=e2.get hmu;unfold yln at q2;cases el:σ2[σ.length]? with
 |none=>simp only[el]at q2;exact q2.elim
 |some ob=>
  cases ob with
  |lst ys=>simp only[el]at q2;exact q2.elim
  |ins c fs=>simp only[el]at q2;exact q2.elim
  |dic kvs=>
   cases kvs with
   |cons z zs=>simp only[el]at q2;exact q2.elim
   |nil=>
    simp only[el]at q2;by_cases hc:kks.length<=15
    ·rw[if_pos hc]at q2;obtain⟨a,ea,hn2,ws,g1,g2⟩:=r2.at (show Rep T μ2 H2 (.ref σ.length) (.ref p) by rw[Rep];exact⟨p,rfl,hm2⟩) el;cases ea;unfold yqr at g2;cases g2;refine⟨g1,kks.zip us,ykn kks us,by rw[List.length_zip];omega,?_⟩;have wr:=r2.write (o:=.dK (yso [] (kks.zip us))) (ob:=.dic (ysn [] (kks.zip ds))) hm2 ⟨_,upd_same,by
      have ex2:Ext μ2 H2 μ2 (upd H2 p (.dK (yso [] (kks.zip us)))):=zk1 (List.mem_of_getElem? hm2) g1 (fun _ z=>by cases z) (fun _ _ z=>by cases z);exact zy7 (ydg (p2.mono ex2)) (by unfold yqr;exact .nil)⟩
     exact q2 _ _ _ wr.1 wr.2 (by rw[Rep];exact⟨p,rfl,hm2⟩)
    ·rw[if_neg hc]at q2;exact q2.elim
end
section
variable{T:Tb}{X:Cx}{pins:List (Addr × Obj)}{st:St}{H:Hp}{s:Shared}
variable{N':List Str}{scope:Scope}{cl:List (Str × Addr)}{H3:Hp}{s3:Shared}{fp:List Addr}{xe:Value->Shared->Prop}
end
section
variable{T:Tb}{X:Cx}
end
section
variable{ρ:Ev}{σ:Sto}
end
end L4
namespace L4
open PySem PySem.Spec PyProof.Rows L2 Builtin Builtin.Str
section
variable{T:Tb}{X:Cx}{a b e o:Expr}{fa fb f:Ev->M D}{pos apos cpos:Pos}
end
section
variable{ρ:Ev}{σ:Sto}
end
end L4
namespace L4
open PySem PySem.Spec PyProof.Rows L2
section
variable{T:Tb}{X:Cx}
end
section
variable{ρ:Ev}{σ:Sto}
end
section
variable{prog:Program}{w:World}{A:Around}{E:Value->Shared->Prop}{h:Heap}{g:Array GenState}{d:Drawn}{t:Nat}{os:OsState}
variable{nm qn:Str}{C N:Addr}{bs bm bmB:List Value}{hdct:Bool}{sn:List Str}{sub:List Value}{ab:Bool}{col:Option Bool}{dd:Option Addr}{k0 k1 k2 k3 k5:Option Value}{B newId initId:String}
end
section
variable{T:Tb}{X:Cx}{pins:List (Addr × Obj)}{st:St}{H:Hp}{s:Shared}
end
section
variable{X:Cx}
end
section
variable{prog:Program}{w:World}{A:Around}{E:Value->Shared->Prop}{h:Heap}{g:Array GenState}{d:Drawn}{t:Nat}{os:OsState}{K:PySem.W.Frag}
variable{nm qn:Str}{C N x:Addr}{bs bm bmB:List Value}{sn:List Str}{sub:List Value}{ab:Bool}{col:Option Bool}{dd:Option Addr}{k0 k1 k2 k3 k5:Option Value}{B newId sa owner:String}{name:Str}{v:Value}{o:Obj}{vs:Array Value}
end
section
variable{X:Cx}
end
section
variable{P:Program}{w:World}{K:PySem.W.Frag}{mg:Str->Option Value}{base:Heap}
end
section
variable{M:Model}{A:Around}{E:Value->Shared->Prop}{s:Shared}{env:Env}
variable{nm qn:Str}{C N:Addr}{bs bm:List Value}{hdct:Bool}{sn:List Str}{sub:List Value}{ab:Bool}{col:Option Bool}{dd:Option Addr}{k0 k1 k2 k3 k5:Option Value}{newId:String}
end
section
variable{T:Tb}{X:Cx}
end
end L4
namespace L4
open PySem PySem.Spec PySem.Calls PyProof.Rows PySem.Builtin PySem.Builtin.ObjectAttr L2
section
variable{prog:Program}{w:World}{A:Around}{E:Value->Shared->Prop}{s:Shared}{K:PySem.W.Frag}{C ea dN:Addr}{hp:Heap}{n:Nat}{Mo:Model}
end
section
variable{T:Tb}{X:Cx}
def yt4:R2:=fun x y H Q=>∃ a b ka,x=.ref a/\y=.ref b/\H a=some (.dK ka)/\H b=some (.dK ka)/\(∀ p∈ka,∃ i,p.2=V.int i)/\Q (.bl false) H
theorem yih(hu:X.A.units+9<cLine):OpR X (compareOp .NotEq) yt4:=by
 intro pins s st H x y v u Q I rx ry h;obtain⟨a,b,ka,rfl,rfl,ha,hb,hi,q⟩:=h;obtain rfl:v=Value.ref a:=rx;obtain rfl:u=Value.ref b:=ry;obtain⟨_,na,va,ra,da⟩:=ylo I.hok ha;obtain⟨_,nb,vb,rb,db⟩:=ylo I.hok hb;have hl:va.length=vb.length:=by rw[<-ra.length,rb.length]
 obtain⟨_,_,_,_,_,_,_,_,nd⟩:=id db;refine PySem.W.keq_ne na nb da db (by omega) (fun _=>zxq ra rb hi vb (zhk nd)) ⟨.bl false,H,I,?_,q⟩;rw[hl];simp;exact rfl
def ys9(x y:D):M D:=fun σ=>match yrj σ x with
 |some k1=>(match yrj σ y with
  |some k2=>if ym8 k1 k2=true then .ok (.bl false) σ else .bad
  |none=>.bad)
 |none=>.bad
theorem yck:yk0 T yt4 ys9:=by
 intro E μ H σ x y v u Q r p q h;unfold ys9 at h;cases e1:yrj σ x with
 |none=>rw[e1]at h;exact h.elim
 |some k1=>
  rw[e1]at h;dsimp only at h;cases e2:yrj σ y with
  |none=>rw[e2]at h;exact h.elim
  |some k2=>
   rw[e2]at h;dsimp only at h;by_cases hc:ym8 k1 k2=true
   ·rw[if_pos hc]at h;obtain⟨a,va,rfl,h1,g1⟩:=yje r p e1;obtain⟨b,vb,rfl,h2,g2⟩:=yje r q e2;obtain⟨rfl,hi⟩:=zq0 g1 g2 hc;exact⟨a,b,va,rfl,rfl,h1,h2,hi,yqm.here h r (by rw[Rep])⟩
   ·rw[if_neg hc]at h;exact h.elim
end
section
variable{ρ:Ev}{σ:Sto}
end
end L4
namespace HT
open PySem Builtin
open Sem (wp)
end HT
namespace L4
open PySem PySem.Spec PyProof.Rows L2
end L4
namespace L4
open PySem
def Ris(xs:Array Nat):Prop:=∀ i k:Nat,∀ a b:Nat,i<k->xs[i]?=some a->xs[k]?=some b->a<b
def Cut(xs:Array Nat)(j p:Nat):Prop:=p<=xs.size/\(∀ i a:Nat,i<p->xs[i]?=some a->a<j)/\∀ i a:Nat,p<=i->xs[i]?=some a->j<=a
theorem zoa{xs:Array Nat}(hr:Ris xs)(j:Nat):∀ (fuel lo hi:Nat),hi - lo<=fuel->lo<=hi->hi<=xs.size->(∀ i a:Nat,i<lo->xs[i]?=some a->a<j)->(∀ i a:Nat,hi<=i->xs[i]?=some a->j<=a)->Cut xs j (SetTable.below.go xs j fuel lo hi):=by
 intro fuel;induction fuel with
 |zero=>
  intro lo hi h1 h2 h3 h4 h5;have e:lo=hi:=by omega
  subst e;exact⟨h3,h4,h5⟩
 |succ f ih=>
  intro lo hi h1 h2 h3 h4 h5;unfold SetTable.below.go;by_cases hl:lo<hi
  ·rw[if_pos hl];dsimp only;have hm:(lo+hi) / 2<hi:=by omega
   have hm2:lo<=(lo+hi) / 2:=by omega
   have hs:(lo+hi) / 2<xs.size:=by omega
   have eg:xs[(lo+hi) / 2]?=some xs[(lo+hi) / 2]:=Array.getElem?_eq_getElem hs;have ed:xs.getD ((lo+hi) / 2) j=xs[(lo+hi) / 2]:=by simp[Array.getD,hs]
   rw[ed];by_cases hc:xs[(lo+hi) / 2]<j
   ·rw[if_pos hc];refine ih _ _ (by omega) (by omega) h3 (fun i a hi' ea=>?_) h5;by_cases e:i=(lo+hi) / 2
    ·subst e;rw[eg]at ea;cases ea;exact hc
    ·have:=hr i ((lo+hi) / 2) a _ (by omega) ea eg;omega
   ·rw[if_neg hc];refine ih _ _ (by omega) (by omega) (by omega) h4 (fun i a hi' ea=>?_);by_cases e:i=(lo+hi) / 2
    ·subst e;rw[eg]at ea;cases ea;omega
    ·have:=hr ((lo+hi) / 2) i _ a (by omega) eg ea;omega
  ·rw[if_neg hl];have e:lo=hi:=by omega
   subst e;exact⟨h3,h4,h5⟩
theorem zjz{xs:Array Nat}(hr:Ris xs)(j:Nat):Cut xs j (SetTable.below xs j):=by
 unfold SetTable.below;exact zoa hr j _ _ _ (by omega) (by omega) (Nat.le_refl _) (fun i a h=>by omega) (fun i a h ea=>by
  have:=(Array.getElem?_eq_some_iff.mp ea).1;omega)
theorem zvo{xs:Array Nat}{j p q:Nat}(h1:Cut xs j p)(h2:Cut xs j q):p=q:=by
 rcases Nat.lt_trichotomy p q with h|h|h
 ·have hp:p<xs.size:=Nat.lt_of_lt_of_le h h2.1;have e:xs[p]?=some xs[p]:=Array.getElem?_eq_getElem hp;have a1:=h2.2.1 p _ h e;have a2:=h1.2.2 p _ (Nat.le_refl _) e;omega
 ·exact h
 ·have hq:q<xs.size:=Nat.lt_of_lt_of_le h h1.1;have e:xs[q]?=some xs[q]:=Array.getElem?_eq_getElem hq;have a1:=h1.2.1 q _ h e;have a2:=h2.2.2 q _ (Nat.le_refl _) e;omega
theorem zeu{xs:Array Nat}{p x:Nat}(hp:p<=xs.size)(i:Nat):(SetTable.insertAt xs p x)[i]?=if i<p then xs[i]? else if i=p then some x else xs[i - 1]?:=by
 unfold SetTable.insertAt;have s1:(xs.extract 0 p).size=p:=by simp;omega
 rw[Array.getElem?_append,Array.size_push,s1];by_cases h1:i<p
 ·rw[if_pos (by omega),if_pos h1,Array.getElem?_push,if_neg (by rw[s1];omega),Array.getElem?_extract];simp;omega
 ·rw[if_neg h1];by_cases h2:i=p
  ·subst h2;rw[if_pos (by omega),if_pos rfl,Array.getElem?_push,if_pos (by rw[s1])]
  ·rw[if_neg (by omega),if_neg h2,Array.getElem?_extract];by_cases h3:i - 1<xs.size
   ·rw[if_pos (by omega)];congr 1;omega
   ·rw[if_neg (by omega),Array.getElem?_eq_none (by omega)]
theorem zi4{xs:Array Nat}{p x:Nat}(hr:Ris xs)(hc:Cut xs x p)(hn:¬ xs[p]?=some x):Ris (SetTable.insertAt xs p x):=by
 have ge:∀ i a:Nat,p<=i->xs[i]?=some a->x<a:=fun i a hi ea=>by
  have h1:=hc.2.2 i a hi ea;rcases Nat.lt_or_ge x a with h|h
  ·exact h
  ·have e:a=x:=by omega
   subst e;by_cases hip:i=p
   ·subst hip;exact absurd ea hn
   ·have hl:=(Array.getElem?_eq_some_iff.mp ea).1;have hp:p<xs.size:=by omega
    have e2:xs[p]?=some xs[p]:=Array.getElem?_eq_getElem hp;have:=hr p i _ _ (by omega) e2 ea;have:=hc.2.2 p _ (Nat.le_refl _) e2;omega
 intro i k a b hik ea eb;rw[zeu hc.1]at ea eb;by_cases h1:i<p
 ·rw[if_pos h1]at ea;by_cases h2:k<p
  ·rw[if_pos h2]at eb;exact hr i k a b hik ea eb
  ·rw[if_neg h2]at eb;by_cases h3:k=p
   ·rw[if_pos h3]at eb;cases eb;exact hc.2.1 i a h1 ea
   ·rw[if_neg h3]at eb;exact hr i (k - 1) a b (by omega) ea eb
 ·rw[if_neg h1]at ea;have h2:¬ k<p:=by omega
  rw[if_neg h2,if_neg (by omega)]at eb;by_cases h3:i=p
  ·rw[if_pos h3]at ea;cases ea;exact ge (k - 1) b (by omega) eb
  ·rw[if_neg h3]at ea;exact hr (i - 1) (k - 1) a b (by omega) ea eb
structure TOk(b:Bool)(t:SetTable):Prop where
 led:t.led = !b
 ris:Ris t.place
 dum:t.dummies=#[]
theorem zxl(j:Nat):SetTable.has #[] j=false:=by
 unfold SetTable.has;simp
theorem yb9{b:Bool}{t:SetTable}(h:TOk b t)(j:Nat):t.slot j=.empty/\¬ t.place[SetTable.below t.place j]?=some j\/∃ i,t.slot j=.live i:=by
 unfold SetTable.slot;dsimp only;by_cases e:(t.place[SetTable.below t.place j]? == some j)=true
 ·rw[if_pos e];exact .inr ⟨_,rfl⟩
 ·rw[if_neg e,h.dum,zxl];exact .inl ⟨rfl,by simpa using e⟩
theorem zsl{b:Bool}{t:SetTable}(h:TOk b t)(ha:Nat->Int)(hh:Int):∀ (fuel:Nat) (p:SetTable.Probe) (m:SetTable.Met),p.dummy=none->SetTable.probe.go t ha hh fuel p=some m->(∃ j,m=.empty j none/\¬ t.place[SetTable.below t.place j]?=some j)\/∃ j i nx,m=.candidate j i nx:=by
 intro fuel;induction fuel with
 |zero=>intro p m _ e;unfold SetTable.probe.go at e;cases e
 |succ f ih=>
  intro p m hd e;unfold SetTable.probe.go at e;rcases yb9 h p.j with⟨es,hn⟩|⟨i,es⟩
  ·rw[es]at e;dsimp only at e;cases e;rw[hd];exact .inl ⟨_,rfl,hn⟩
  ·rw[es]at e;dsimp only at e;by_cases hc:(ha i == hh)=true
   ·rw[if_pos hc]at e;cases e;exact .inr ⟨_,_,_,rfl⟩
   ·rw[if_neg hc]at e;refine ih _ m ?_ e;unfold SetTable.advance;split
    ·exact hd
    ·exact hd
theorem zla{b:Bool}{t:SetTable}(h:TOk b t){hh:Int}{j:Nat}{wd:Bool}(e:t.freeSlot hh=some (j,wd)):¬ t.place[SetTable.below t.place j]?=some j:=by
 unfold SetTable.freeSlot SetTable.probe at e;cases ep:SetTable.probe.go t (fun _=>hh+1) hh (10 * SetTable.turns t.mask) (t.probeStart hh)with
 |none=>rw[ep]at e;cases e
 |some m=>
  rw[ep]at e;rcases zsl h _ _ _ _ m rfl ep with⟨j',rfl,hn⟩|⟨j',i,nx,rfl⟩
  ·cases e;exact hn
  ·cases e
theorem TOk.put{b:Bool}{t:SetTable}(h:TOk b t){j:Nat}(hn:¬ t.place[SetTable.below t.place j]?=some j):TOk b (t.put j).1:=by
 unfold SetTable.put;dsimp only;refine⟨h.led,zi4 h.ris (zjz h.ris j) hn,?_⟩;rw[h.dum,zxl];rfl
theorem TOk.plain{b p:Bool}{t:SetTable}(h:TOk b t):TOk b { t with plain:=p }:=⟨h.led,h.ris,h.dum⟩
theorem zmz(n:Nat):Ris (Array.range n):=by
 intro i k a c hik ea ec;have l1:=(Array.getElem?_eq_some_iff.mp ea).1;have l2:=(Array.getElem?_eq_some_iff.mp ec).1;simp only[Array.size_range]at l1 l2;simp[l1]at ea;simp[l2]at ec;omega
theorem TOk.stand{b:Bool}{t:SetTable}(h:TOk b t)(n:Nat):TOk b (t.standIn n):=⟨h.led,zmz n,rfl⟩
theorem TOk.or{b:Bool}{t:SetTable}(h:TOk b t)(n:Nat):TOk b (t.orStandIn n):=by
 unfold SetTable.orStandIn;split
 ·exact h
 ·exact h.stand n
theorem TOk.lay{b:Bool}{t:SetTable}(h:TOk b t)(es:Array (Int × Value))(hh:Int)(x:Value):TOk b (layNew t es hh x).2.1:=by
 unfold layNew;cases e:t.freeSlot hh with
 |none=>exact h.stand _
 |some q=>
  obtain⟨j,wd⟩:=q;dsimp only;exact(h.put (zla h e)).or _
theorem zs2(m:Nat)(f:Nat->Option Nat):Ris ((((List.range m).filterMap fun j=>(f j).map (j,·)).map (·.1)).toArray):=by
 have hp:List.Pairwise (·<·) (((List.range m).filterMap fun j=>(f j).map (j,·)).map (·.1)):=by
  have h1:List.Pairwise (·<·) (List.range m):=List.pairwise_lt_range;have e:((List.range m).filterMap fun j=>(f j).map (j,·)).map (·.1)=(List.range m).filter fun j=>(f j).isSome:=by
   rw[List.map_filterMap];rw[<-List.filterMap_eq_filter];congr 1;funext j;cases hf:f j<;>simp[Option.guard,hf]
  rw[e];exact h1.sublist List.filter_sublist
 intro i k a c hik ea ec;rw[List.getElem?_toArray]at ea ec;obtain⟨l1,e1⟩:=List.getElem?_eq_some_iff.mp ea;obtain⟨l2,e2⟩:=List.getElem?_eq_some_iff.mp ec;rw[<-e1,<-e2];exact List.pairwise_iff_getElem.mp hp i k l1 l2 hik
theorem TOk.relay{b:Bool}{t:SetTable}(h:TOk b t)(es:Array (Int × Value))(wt:Nat):TOk b (relayAll t es wt).2.1:=by
 unfold relayAll;cases e:t.relaid (es.map (·.1)) wt with
 |none=>exact h.stand _
 |some q=>
  obtain⟨t',ord⟩:=q;dsimp only;split
  ·unfold SetTable.relaid SetTable.laid at e;cases eo:SetTable.layClean (SetTable.sizeAbove wt - 1) (es.map (·.1))with
   |none=>rw[eo]at e;cases e
   |some ow=>
    rw[eo]at e;cases e;exact⟨h.led,zs2 _ _,rfl⟩
  ·exact h.stand _
theorem TOk.fresh(b:Bool):TOk b (SetTable.fresh 0 0 (!b)):=⟨rfl,fun i k a c _ ea _=>by simp[SetTable.fresh]at ea,rfl⟩
end L4
namespace L4
open PySem PySem.Spec PyProof.Rows
section
variable{prog:Program}{w:World}{K:Type}[DecidableEq K][BEq K][LawfulBEq K]{knd:KeyKind prog w K}{A:Around}{E:Value->Shared->Prop}{s:Shared}{b:Bool}{a:Addr}{k:K}{x:Value}
def yqu(knd:KeyKind prog w K)(b:Bool)(h:Heap)(a:Addr)(S:K->Bool)(n:Nat):Prop:=
 ∃ o es ep t,h.get? a=some o/\o.ExactSet/\o.data=.set es ep t/\ElemsOf knd es.toList/\(∀ k,S k=true ↔ ∃ e∈es.toList,knd.is k e.2=true)/\es.size<scanBound/\t.fits es.size=true/\es.size=n/\TOk b t
theorem yj1{h:Heap}{o:Obj}{es es':Array (Int × Value)}{ep:Nat}{t t':SetTable}{S':K->Bool}(h1:h.get? a=some o)(h2:o.ExactSet)(h3:o.data=.set es ep t)(h4:ElemsOf knd es'.toList)
  (h5:∀ k,S' k=true ↔ ∃ e∈es'.toList,knd.is k e.2=true) (h6:es'.size<scanBound) (h7:t'.fits es'.size=true) (h8:TOk b t') :
  (h.update a (Obj.putSet es' t')).get? a=some { o with data:=.set es' (ep+1) t' }/\yqu knd b (h.update a (Obj.putSet es' t')) a S' es'.size:=by
 obtain⟨g,_⟩:=SetOf_store (knd:=knd) h1 h2 h3 h4 h5 h6 h7;exact⟨g,_,es',ep+1,t',g,h2,rfl,h4,h5,h6,h7,rfl,h8⟩
theorem zut{g:Bool->Sem Unit}(hg:∀ (c:Bool) (s1:Shared) (Q':Unit->Shared->Prop),Q' () s1->wpAny (model prog w) A (g c) Q' E s1){o:Obj}{es es1:Array (Int × Value)}{ep:Nat}{t t2:SetTable}{S':K->Bool}{wd:Bool}{R:Option Bool->Shared->Prop}
  (h1:s.heap.get? a=some o) (h2:o.ExactSet) (h3:o.data=.set es ep t) (h4:ElemsOf knd es1.toList) (h5:∀ k',S' k'=true ↔ ∃ e∈es1.toList,knd.is k' e.2=true) (h6:es1.size<scanBound) (h7:t2.fits es1.size=true) (h8:TOk b t2)
  (q:∀ h',Heap.SameBut a s.heap h'->yqu knd b h' a S' es1.size->R (some true) { s with heap:=h' }) :
  wpAny (model prog w) A (do
    storeSet a es1 t2
    if (!wd && t2.tooFull)=true then do
      g (relayAll t2 es1 (SetTable.grown es1.size)).2.2
      storeSet a (relayAll t2 es1 (SetTable.grown es1.size)).1 (relayAll t2 es1 (SetTable.grown es1.size)).2.1
      pure (some true)
     else pure (some true)) R E s:=by
 refine wpAny_bind (wpAny_storeSet_of h1 h3 ?_ (fits_of_scanBound h6));obtain⟨g1,T1⟩:=yj1 (knd:=knd) h1 h2 h3 h4 h5 h6 h7 h8;have same:=Heap.SameBut.update s.heap a (Obj.putSet es1 t2);split
 ·have p1:=relayAll_perm t2 es1 (SetTable.grown es1.size);have p2:=relayAll_fits t2 es1 (SetTable.grown es1.size);have p3:=h8.relay es1 (SetTable.grown es1.size);generalize relayAll t2 es1 (SetTable.grown es1.size)=Z at p1 p2 p3 ⊢;obtain⟨es2,t3,gv⟩:=Z;dsimp only at p1 p2 p3 ⊢;have z:es2.size=es1.size:=by rw[<-Array.length_toList,p1.length_eq,Array.length_toList]
  refine wpAny_bind (hg _ _ _ (wpAny_bind (wpAny_storeSet_of g1 rfl ?_ (fits_of_scanBound (by rw[z];exact h6)))));obtain⟨_,T2⟩:=yj1 (knd:=knd) (S':=S') g1 h2 rfl (h4.perm p1) (fun k'=>(h5 k').trans ⟨fun⟨e,he,y⟩=>⟨e,p1.mem_iff.mpr he,y⟩,fun⟨e,he,y⟩=>⟨e,p1.mem_iff.mp he,y⟩⟩) (by rw[z];exact h6) p2 p3;rw[z]at T2;exact wpAny_pure (q _ (same.trans (Heap.SameBut.update _ a _)) T2)
 ·exact wpAny_pure (q _ same T1)
theorem yk6{S:K->Bool}{n:Nat}{Q:Bool->Shared->Prop}(hk:knd.is k x=true)(hx:x.scannable=true)(hS:yqu knd b s.heap a S n)(hn:n+1<scanBound)
  (q:∀ h',Heap.SameBut a s.heap h'->yqu knd b h' a (fun k'=>S k' || decide (k'=k)) (if S k then n else n+1)->Q (!S k) { s with heap:=h' }):wpAny (model prog w) A (setAddHashed a x (knd.hash k)) Q E s:=by
 obtain⟨o,es,ep,t,h1,h2,h3,h4,h5,h6,h7,h8,h9⟩:=hS;unfold setAddHashed setAddHashedIn;refine wpAny_holding (wpAny_bind (wpAny_setState_of h1 h3 h7 ?_));dsimp only;rw[byScan_of hx h6 h4];simp only[↓reduceIte];unfold setAddByScan;refine wpAny_bind (wpAny_bind (wpAny_rule (wpAny_bind (wpAny_setScan_of hk h1 h3 h7 h4 ?_))));cases hr:List.findIdx? (fun e=>knd.is k e.2) es.toList with
 |some j=>
  dsimp only;obtain⟨hj,pj,_⟩:=List.findIdx?_eq_some_iff_getElem.mp hr;have sk:S k=true:=(h5 k).mpr ⟨es.toList[j],List.getElem_mem hj,pj⟩;refine wpAny_pure (wpAny_pure ?_);have z:=q s.heap (Heap.SameBut.refl a s.heap) ⟨o,es,ep,t,h1,h2,h3,h4,fun k'=>by
   rw[Bool.or_eq_true,decide_eq_true_eq,<-h5 k'];exact⟨fun y=>y.elim id fun e=>e ▸ sk,.inl⟩,h6,h7,by rw[sk];exact h8,h9⟩
  rw[sk]at z;obtain⟨hp,gg,dd,tk,os⟩:=s;exact z
 |none=>
  dsimp only;have sk:S k=false:=by
   cases y:S k with
   |false=>rfl
   |true=>obtain⟨e,he,p⟩:=(h5 k).mp y;have:=List.findIdx?_eq_none_iff.mp hr e he;rw[p]at this;cases this
  have gw:∀ (c:Bool) {s1:Shared} {Q':Unit->Shared->Prop},Q' () s1->wpAny (model prog w) A (match c with|true=>rule "set.scan.the-table-gave-way" | false=>pure ()) Q' E s1:=fun c s1 Q' y=>by
   cases c
   ·exact wpAny_pure y
   ·exact wpAny_rule y
  have p1:=layNew_perm t es (knd.hash k) x;have p2:=layNew_fits t es (knd.hash k) x;have p3:=h9.lay es (knd.hash k) x;generalize layNew t es (knd.hash k) x=Z at p1 p2 p3 ⊢;obtain⟨es1,t1,wd,gv⟩:=Z;dsimp only at p1 p2 p3 ⊢;rw[Array.toList_push]at p1;have c1:ElemsOf knd es1.toList:=(h4.push hk hx).perm p1;have c2:∀ k',(S k' || decide (k'=k))=true ↔ ∃ e∈es1.toList,knd.is k' e.2=true:=mem_push_iff hk h5 p1;have c3:es1.size=n+1:=by rw[<-Array.length_toList,p1.length_eq,List.length_append,Array.length_toList,h8];rfl
  have c4:es1.size<scanBound:=by omega
  have fin:∀ h',Heap.SameBut a s.heap h'->yqu knd b h' a (fun k'=>S k' || decide (k'=k)) es1.size->Q true { s with heap:=h' }:=fun h' y1 y2=>by
   have:=q h' y1;rw[sk]at this;rw[c3]at y2;exact this y2
  refine wpAny_bind (gw _ ?_);split
  ·refine wpAny_bind ?_;rw[hashByValue_scannable 8 hx];refine wpAny_pure (zut (b:=b) ?_ h1 h2 h3 c1 c2 c4 ?_ ?_ ?_)
   ·exact fun c s1 Q' y=>gw c y
   ·split
    ·exact p2
    ·exact SetTable.fits_plain_off p2
   ·split
    ·exact p3
    ·exact p3.plain
   ·exact fun h' y1 y2=>wpAny_pure (fin h' y1 y2)
  ·refine wpAny_bind (wpAny_pure ?_);simp only[↓reduceIte];refine zut ?_ h1 h2 h3 c1 c2 c4 p2 p3 ?_
   ·exact fun c s1 Q' y=>gw c y
   ·exact fun h' y1 y2=>wpAny_pure (fin h' y1 y2)
end
def bT(w:World):Bool:=w.params.followText "set-order"
section
variable{prog:Program}{w:World}{A:Around}
theorem zt0{b:Bool}{h:Heap}{a:Addr}{S S':Int->Bool}{n n':Nat}(hS:yqu (intKind prog w) b h a S n)(e:∀ k,S k=S' k)(en:n=n'):yqu (intKind prog w) b h a S' n':=by
 obtain rfl:S=S':=funext e;subst en;exact hS
theorem ycy{b:Bool}{h h':Heap}{a:Addr}{S:Int->Bool}{n:Nat}(hS:yqu (intKind prog w) b h a S n)(k:∀ o,h.get? a=some o->h'.get? a=some o):yqu (intKind prog w) b h' a S n:=by
 obtain⟨o,es,ep,t,ho,r⟩:=hS;exact⟨o,es,ep,t,k o ho,r⟩
theorem znx{R:Result->Shared->Prop}{I:Addr}{fp wr:List Addr}{G:Array GenState->Array GenState->Prop}{n:Nat}{P:Nat->Value->Prop}{St:Nat->Shared->Prop}{b:Bool}(W:WalksS prog w A.in1 I fp wr G n P St)(a:Addr)(ha:a ∉ fp)(f:Nat->Int)(hf:∀ i v,P i v->∃ t,v=.int (f i) t)(hn:n+1<scanBound) :
  ∀ (k i:Nat) (s:Shared),n - i=k->i<=n->St i s->yqu (intKind prog w) b s.heap a (fun y=>(firstMet f i).any (·== y)) (firstMet f i).length->
   (∀ s',Moved (a::wr) G s s'->yqu (intKind prog w) b s'.heap a (fun y=>(firstMet f n).any (·== y)) (firstMet f n).length->R (.ok (.ret .none)) s')->codeAny (model prog w) A (.builtin "set.update.loop" ⟨[.ref a,.ref I],[]⟩) R s:=by
 have aw:a ∉ wr:=fun z=>ha (W.sub _ z);have sub:∀ c∈wr,c∈a::wr:=fun c hc=>List.mem_cons_of_mem _ hc;intro k;induction k with
 |zero=>
  intro i s hk hi st hS q;obtain rfl:i=n:=by omega
  refine codeAny_builtin F.entry_set_update_loop ?_;rw[Around.under_plainId F.plain_set_update_loop _];show wpAny _ A.in1 (pyNext (.ref I) >>= _) _ _ s;refine wpAny_bind (W.done s _ _ st fun s' m=>?_);exact wpAny_pure (q s' (m.mono sub) (ycy hS fun o e=>m.heap a _ aw e))
 |succ k ih=>
  intro i s hk hi st hS q;have lt:i<n:=by omega
  refine codeAny_builtin F.entry_set_update_loop ?_;rw[Around.under_plainId F.plain_set_update_loop _];show wpAny _ A.in1 (pyNext (.ref I) >>= _) _ _ s;refine wpAny_bind (W.item i s _ _ lt st fun v s' hP st' m=>?_);obtain⟨t,rfl⟩:=hf i v hP;have hS':=ycy (h':=s'.heap) hS fun o e=>m.heap a _ aw e;show wpAny _ A.in1 (holding [Value.int (f i) t] (setAdd a (.int (f i) t)) >>= _) _ _ s';unfold setAdd;refine wpAny_bind (wpAny_holding (wpAny_holding (wpAny_bind ((intKind prog w).pyHash (k:=f i) (intKind_is _ _ _ _) ?_))));refine yk6 (knd:=intKind prog w) (s:={ s' with toks:=s'.toks+1 }) (intKind_is _ _ _ _) rfl hS' (by have:=firstMet_length_le f i;omega) fun h' sb S2=>?_;have S3:yqu (intKind prog w) b h' a (fun y=>(firstMet f (i+1)).any (·== y)) (firstMet f (i+1)).length:=zt0 S2 (fun y=>by rw[firstMet_succ,step_any]) (by rw[firstMet_succ,step_length]);refine wpAny_pure ⟨plainId_quiet F.plain_set_update_loop _,ih (i+1) _ (by omega) lt (W.frame _ s' _ _ st' (Nat.le_succ _) fun c hc o e=>?_) S3 fun s2 m2 T2=>?_⟩
  ·rw[sb.2 c (fun z:c=a=>ha (by rw[<-z];exact hc))];exact e
  ·refine q s2 (Moved.trans W.gtrans ((m.mono sub).then_heap (Nat.le_succ _) fun c o hc e=>?_) m2) T2;rw[sb.2 c (fun z:c=a=>hc (by rw[z];exact List.mem_cons_self))];exact e
variable{E:Value->Shared->Prop}{s:Shared}
theorem ztm(x:Value){Q:Value->Shared->Prop}(q:Q (.ref s.heap.objs.size) { s with heap:=s.heap.push { cls:=.type "set",dict:=none,data:=.set #[] 0 (.fresh 0 0 (!bT w)) } }) :
  codeAny (model prog w) A (.call (.builtin "set.__new__") ⟨[.type "set",x],[]⟩) (wants Q E) s:=by
 refine codeAny_of_tree ?_;show wpAny _ A.in1 (do checkBuiltinCall "set.__new__" ⟨[.type "set",x],[]⟩;again (.builtin "set.__new__" ⟨[.type "set",x],[]⟩)) _ _ s;refine wpAny_bind (wpAny_of_eq (PySem.F.newCall_set_1 x) (wpAny_pure ⟨plainId_quiet PySem.F.plain_set_new _,codeAny_builtin PySem.F.entry_set_new ?_⟩));rw[Around.under_plainId PySem.F.plain_set_new _];unfold Builtin.«set.__new__» Builtin.Frozenset.newClass;have sub:=sub_set_self;obtain⟨hp,g,d,tk,os⟩:=s;dsimp only
 wp_walk
 refine wpAny_askSetting (wpAny_pure ?_);dsimp only;simp only[newObj];exact wpAny_bind (wpAny_alloc (wpAny_pure (wpAny_pure q)))
end
section
variable{prog:Program}{w:World}{A:Around}{E:Value->Shared->Prop}{s:Shared}
abbrev zzi(w:World):Obj:={ cls:=.type "set",dict:=none,data:=.set #[] 0 (.fresh 0 0 (!bT w)) }
set_option maxHeartbeats 3200000 in
theorem zkf{l:Addr}{items:Array Value}{ns:List Int}{Q:Value->Shared->Prop}(hh:A.handled=none)(hl:s.heap.IsList l items)(hi:IntsAre items.toList ns)(hb:items.size+1<scanBound)
  (q:∀ (h':Heap) (tk:Nat),yqu (intKind prog w) (bT w) h' s.heap.objs.size (fun y=>(firstMet (fun i=>ns.getD i 0) items.size).any (·== y)) (firstMet (fun i=>ns.getD i 0) items.size).length->
   (∀ b o,b<s.heap.objs.size->s.heap.get? b=some o->h'.get? b=some o)->Q (.ref s.heap.objs.size) { s with heap:=h',toks:=tk }) :
  wpAny (model prog w) A (call (.type "set") [.ref l]) Q E s:=by
 obtain⟨c,tl,hmro⟩:=PySem.F.called_set.mro;have f1:=PySem.F.called_set.made;have f2:=PySem.F.called_set.sub;refine wpAny_call (codeAny_of_tree (show wpAny _ _ (callAny (.type "set") _) _ _ _ from wpAny_pure ⟨Code.quiet_builtin _ (by decide +kernel),codeAny_builtin PySem.F.entry_type_call ?_⟩));rw[Around.under_plain (weight_type_call_type "set" [.ref l] []) rfl];have f3:=PySem.F.called_set.notType;have f4:=PySem.F.called_set.canCreate;have f5:=PySem.F.typeCall_set_1 (.ref l);repeat (any_goals (first|assumption|wp_step))
 refine codeAny_mono (ztm (.ref l) (E:=E) (Q:=fun ob s1=>ob=.ref s.heap.objs.size/\s1={ s with heap:=s.heap.push (zzi w) }) ⟨rfl,rfl⟩) fun r s1 hr=>?_;cases r with
 |error e=>exact hr
 |ok fl=>
  cases fl with
  |ret ob=>
   obtain⟨rfl,rfl⟩:=hr;have gS:(s.heap.push (zzi w)).get? s.heap.objs.size=some (zzi w):=Heap.get?_push_size _ rfl;have tS:Shared.TypeIs { s with heap:=s.heap.push (zzi w) } (.ref s.heap.objs.size) "set":=⟨_,gS,rfl⟩
   have i1:=PySem.F.called_set.init.lookup;have i2:=PySem.F.called_set.init.bind (.ref s.heap.objs.size);repeat (any_goals (first|assumption|wp_step))
   refine codeAny_mono (codeAny_call_builtin (R:=wants (fun r s2=>r=.none/\∃ h' tk,s2={ s with heap:=h',toks:=tk }/\yqu (intKind prog w) (bT w) h' s.heap.objs.size (fun y=>(firstMet (fun i=>ns.getD i 0) items.size).any (·== y)) (firstMet (fun i=>ns.getD i 0) items.size).length/\
     (∀ b o,b<s.heap.objs.size->s.heap.get? b=some o->h'.get? b=some o)) E) PySem.F.called_set.init.plain PySem.F.entry_set_init (check_set_init_1 tS ?_)) fun r2 s2 hr2=>?_
   ·obtain⟨⟨oc,od,odt,osl⟩,gl,hcl,nl,hdl⟩:=hl;simp only at hcl hdl;subst hcl;subst hdl;have gl':(s.heap.push (zzi w)).get? l=some { cls:=.type "list",dict:=od,data:=.seq items nl,slots:=osl }:=Heap.get?_push_of_some _ gl;have g1:=PySem.F.sub_list_set;have g2:=PySem.F.sub_list_frozenset;have g3:(Value.type "list" == Value.type "dict")=false:=by decide
    have hl1:(s.heap.push (zzi w)).IsList l items:=⟨_,gl',rfl,nl,rfl⟩
    unfold Builtin.«set.__init__» noKeywords Builtin.Frozenset.updateFrom;generalize hPI:pyIter=PI
    wp_walk
    subst hPI;refine wpAny_pyIter_list hl1 (wpAny_bind (wpAny_runValue ?_));have ll:l<s.heap.objs.size:=Heap.lt_size gl;have h3:A.in1.in1.in1.handled=none:=by simp[hh]
    have nI:l≠(s.heap.push (zzi w)).objs.size:=by rw[Heap.size_push];exact Nat.ne_of_lt (Nat.lt_succ_of_lt ll)
    have nf:s.heap.objs.size ∉ [(s.heap.push (zzi w)).objs.size,l]:=by
     rw[Heap.size_push];simp only[List.mem_cons,List.not_mem_nil,or_false,not_or];exact⟨Nat.ne_of_lt (Nat.lt_succ_self _),Nat.ne_of_gt ll⟩
    refine znx (b:=bT w) ((Walks.list h3 _ l nI items).toS) s.heap.objs.size nf (fun i=>ns.getD i 0) (fun i v hv=>IntsAre.int_at hi i v (by rw[Array.getElem?_toList];exact hv)) hb (items.size - 0) 0 _ (by omega) (Nat.zero_le _) ⟨⟨_,Heap.get?_push_size _ rfl,rfl,rfl⟩,(hl1.push _)⟩ ?S0 ?RR;case S0=>
     exact⟨zzi w,#[],0,_,Heap.get?_push_of_some _ gS,⟨rfl,rfl,rfl⟩,rfl,fun e he=>by simp at he,fun k=>by simp[firstMet_zero],by decide,by rfl,by simp[firstMet_zero],TOk.fresh _⟩
    case RR=>
     intro s' hm hS';obtain⟨h',g',d',tk',os'⟩:=s';obtain rfl:g'=s.gens:=hm.gens;obtain rfl:d'=s.drawn:=hm.drawn;obtain rfl:os'=s.os:=hm.os;refine wpAny_pure (wpAny_pure ⟨rfl,h',tk',rfl,hS',fun b o lt e=>?_⟩);refine hm.heap b o ?_ (Heap.get?_push_of_some _ (Heap.get?_push_of_some _ e));rw[Heap.size_push];simp only[List.mem_cons,List.not_mem_nil,or_false,not_or];exact⟨Nat.ne_of_lt lt,Nat.ne_of_lt (Nat.lt_succ_of_lt lt)⟩
   ·cases r2 with
    |error e=>exact hr2
    |ok fl2=>
     cases fl2 with
     |ret r=>
      obtain⟨rfl,h',tk,rfl,hS',hk'⟩:=hr2;repeat (any_goals (first|assumption|wp_step))
      exact q _ _ hS' hk'
     |_=>exact hr2
  |_=>exact hr
end
theorem yb8:Slot "set_iterator" "__next__" "set_iterator.__next__":=.of (owner:="set_iterator") (n:="__next__") (by rw[typeLookup_type,builtinLookup_eq_fast];kernel_rfl) (by decide +kernel) (by decide +kernel) (by decide +kernel) (.inl (by decide +kernel)) (by rw[isSubtype_type];kernel_rfl)
theorem zv9:entryFor table "set_iterator.__next__" = some Builtin.«set_iterator.__next__»:=entryFor_of_tree (by kernel_rfl)
theorem zu0(a:Value):argsOk "set_iterator.__next__" ⟨[a],[]⟩:=by unfold argsOk;kernel_rfl
theorem zv8:entryFor table "set.__iter__" = some Builtin.«frozenset.__iter__»:=entryFor_alias (id':="frozenset.__iter__") (by kernel_rfl) (by first|rfl|decide +kernel) (by decide +kernel) (by kernel_rfl)
def yky(h:Heap)(a:Addr)(es:Array (Int × Value))(ep:Nat)(t:SetTable):Prop:=∃ o,h.get? a=some o/\o.ExactSet/\o.data=.set es ep t
def yqd(h:Heap)(I a:Addr)(first:Value)(i n ep:Nat):Prop:=∃ o,h.get? I=some o/\o.cls=.type "set_iterator"/\o.data=.fields #[first,rawInt i,.ref a,rawInt n,rawInt ep]
section
variable{prog:Program}{w:World}{A:Around}{E:Value->Shared->Prop}{s:Shared}{I a:Addr}{es:Array (Int × Value)}{ep:Nat}{t:SetTable}{i:Nat}
theorem yqd.ty{first:Value}{n:Nat}(h:yqd s.heap I a first i n ep):s.TypeIs (.ref I) "set_iterator":=let ⟨o,h1,h2,_⟩:=h;⟨o,h1,h2⟩
theorem zmi{f:Nat}{Q:Option Value->Shared->Prop}{v:Value}{f':Nat}(hI:yqd s.heap I a (rawInt f) i es.size ep)(hS:yky s.heap a es ep t)(hf:t.fits es.size=true)(hne:a≠I)
  (hn:∀ (A:Around) (E:Value->Shared->Prop) (Q:Option (Value × Nat)->Shared->Prop),Q (some (v,f')) s->wpAny (model prog w) A (setNext a f i ep) Q E s)
  (q:∀ h',yqd h' I a (rawInt f') (i+1) es.size ep->Heap.SameBut I s.heap h'->Q (some v) { s with heap:=h' }):wpAny (model prog w) A (pyNext (.ref I)) Q E s:=by
 obtain⟨o,ho,hc,hd⟩:=id hI;obtain⟨oS,gS,xS,dS⟩:=id hS;unfold pyNext;refine wpAny_bind (wpAny_attempt (wpAny_callSpecial?_slot (name:=Str.ofString "__next__") hI.ty yb8 (wpAny_call_entry yb8 hI.ty zv9 ?_ (zu0 _))));unfold Builtin.«set_iterator.__next__»;refine wpAny_bind (wpAny_pure ?_);refine wpAny_bind (wpAny_fieldsOf ho hd ?_);dsimp only[rawInt];refine wpAny_bind (wpAny_setEntries_of gS dS hf ?_);rw[if_neg (by simp)];simp only[Int.toNat_natCast];refine wpAny_bind (hn _ _ _ ?_);dsimp only;refine wpAny_bind (wpAny_setField ho hd (by simp) ?_);have g1:=Heap.get?_update_self (Obj.mapFields (·.setIfInBounds 0 (Value.int (f':Int) 0))) ho (Obj.isFreed_of_fields (Obj.data_mapFields hd _));have d1:=Obj.data_mapFields hd (·.setIfInBounds 0 (Value.int (f':Int) 0));refine wpAny_bind (wpAny_setField g1 d1 (by simp) ?_);have g2:=Heap.get?_update_self (Obj.mapFields (·.setIfInBounds 1 (Value.int ((i:Int)+1) 0))) g1 (Obj.isFreed_of_fields (Obj.data_mapFields d1 _));refine wpAny_pure ⟨_,rfl,wpAny_pure (q _ ⟨_,g2,?_,?_⟩ ((Heap.SameBut.update ..).trans (Heap.SameBut.update ..)))⟩
 ·rw[Obj.cls_mapFields,Obj.cls_mapFields];exact hc
 ·rw[Obj.data_mapFields d1];simp[rawInt]
theorem zt3{Q:Option Value->Shared->Prop}{first:Value}{n:Nat}{h1:Heap}(hh:A.handled=none)(sb:Heap.SameBut I s.heap h1)(q:∀ h',Heap.ExtBut I s.heap h'->Q none { s with heap:=h' }) :
  wpAny (model prog w) A.in1 (do let e <-newExc (.type "StopIteration") [];raiseNew e:Sem PySem.Fin) (fun fin s'=>∃ v,fin=Fin.done (Flow.ret v)/\wpAny (model prog w) A (pure (some v)) Q E s')
   (fun e s'=>wpAny (model prog w) A (do let c <-isInstance e (Value.type "StopIteration");if c=true then pure none else throw e) Q E s') { s with heap:=h1 }:=by
 refine wpAny_bind ?_;simp only[newExc,newTuple];refine wpAny_bind (wpAny_newObj_type (wpAny_bind (m:=firstArgMember _ _) (wpAny_of_eq (a:=Value.none) (by first|rfl|(simp only[firstArgMember];rfl)) (wpAny_newObj_type ?_ (by size_fits)))) (by size_fits));simp only[raiseNew];refine wpAny_bind (wpAny_handled ?_);rw[show A.in1.handled=none from hh];refine wpAny_bind (wpAny_pure (wpAny_throw ?_));refine wpAny_bind (wpAny_isInstance (T:="StopIteration") (b:=true) ⟨_,Heap.get?_push_size _ rfl,rfl⟩ isSubtype_stop ?_);exact wpAny_pure (q _ ((sb.extBut.push _).push _))
theorem zo6{f:Nat}{Q:Option Value->Shared->Prop}(hh:A.handled=none)(hI:yqd s.heap I a (rawInt f) i es.size ep)(hS:yky s.heap a es ep t)(hf:t.fits es.size=true)
  (hn:∀ (A:Around) (E:Value->Shared->Prop) (Q:Option (Value × Nat)->Shared->Prop),Q none s->wpAny (model prog w) A (setNext a f i ep) Q E s)
  (q:∀ h',Heap.ExtBut I s.heap h'->Q none { s with heap:=h' }):wpAny (model prog w) A (pyNext (.ref I)) Q E s:=by
 obtain⟨o,ho,hc,hd⟩:=id hI;obtain⟨oS,gS,xS,dS⟩:=id hS;unfold pyNext;refine wpAny_bind (wpAny_attempt (wpAny_callSpecial?_slot (name:=Str.ofString "__next__") hI.ty yb8 (wpAny_call_entry yb8 hI.ty zv9 ?_ (zu0 _))));unfold Builtin.«set_iterator.__next__»;refine wpAny_bind (wpAny_pure (wpAny_bind (wpAny_fieldsOf ho hd ?_)));dsimp only[rawInt];refine wpAny_bind (wpAny_setEntries_of gS dS hf ?_);rw[if_neg (by simp)];simp only[Int.toNat_natCast];refine wpAny_bind (hn _ _ _ ?_);dsimp only;refine wpAny_bind (wpAny_setField ho hd (by simp) ?_);exact zt3 (first:=.none) (n:=0) hh (Heap.SameBut.update ..) q
end
theorem zhz{α:Type}:∀ (l:List α) (i:Nat) (h:i<l.length),(l[i]::l.eraseIdx i).Perm l
 |x::l,0,_=>.refl _
 |x::l,i+1,h=>by
  have:=zhz l i (by simpa using h);simp only[List.getElem_cons_succ,List.eraseIdx_cons_succ];exact(List.Perm.swap _ _ _).trans (this.cons x)
theorem yap{α:Type}(nx:Nat->Nat):∀ (fuel k:Nat) (left:List α) (out:Array α),left.length=fuel->∃ ys:List α,(pickOrder.go nx fuel k left out).toList=out.toList++ys/\ys.Perm left
 |0,k,left,out,h=>by
  obtain rfl:=List.length_eq_zero_iff.mp h;exact⟨[],by unfold pickOrder.go;simp,.refl _⟩
 |fuel+1,k,left,out,h=>by
  have hl:nx k % left.length<left.length:=Nat.mod_lt _ (by omega);unfold pickOrder.go;rw[List.getElem?_eq_getElem hl];dsimp only;obtain⟨ys,e,p⟩:=yap nx fuel (k+1) (left.eraseIdx (nx k % left.length)) (out.push left[nx k % left.length]) (by rw[List.length_eraseIdx_of_lt hl];omega);refine⟨left[nx k % left.length]::ys,by rw[e];simp,?_⟩;exact(p.cons _).trans (zhz left _ hl)
theorem zms{α:Type}(nx:Nat->Nat)(xs:Array α):(pickOrder nx xs).toList.Perm xs.toList:=by
 obtain⟨ys,e,p⟩:=yap nx xs.size 0 xs.toList #[] (by simp);unfold pickOrder;rw[e];simpa using p
def fB(pl:Array Nat)(i:Nat):Nat:=if i=0 then 0 else pl.getD (i - 1) 0+1
theorem yl3{pl:Array Nat}(hr:Ris pl){i:Nat}(hi:i<=pl.size):SetTable.below pl (fB pl i)=i:=by
 refine zvo (zjz hr _) ⟨hi,fun j a hj ea=>?_,fun j a hj ea=>?_⟩
 ·unfold fB;rw[if_neg (by omega)];have hl:i - 1<pl.size:=by omega
  have e1:pl[i - 1]?=some pl[i - 1]:=Array.getElem?_eq_getElem hl;have ed:pl.getD (i - 1) 0=pl[i - 1]:=by simp[Array.getD,hl]
  rw[ed];by_cases e:j=i - 1
  ·subst e;rw[e1]at ea;cases ea;omega
  ·have:=hr j (i - 1) a _ (by omega) ea e1;omega
 ·unfold fB;by_cases h0:i=0
  ·rw[if_pos h0];omega
  ·rw[if_neg h0];have hl:i - 1<pl.size:=by omega
   have e1:pl[i - 1]?=some pl[i - 1]:=Array.getElem?_eq_getElem hl;have ed:pl.getD (i - 1) 0=pl[i - 1]:=by simp[Array.getD,hl]
   rw[ed];have:=hr (i - 1) j _ a (by omega) e1 ea;omega
section
variable{prog:Program}{w:World}{A:Around}{E:Value->Shared->Prop}{s:Shared}{a:Addr}{es:Array (Int × Value)}{ep:Nat}{t:SetTable}{i:Nat}
theorem zj9{Q:Bool->Shared->Prop}(q:Q (bT w) s):wpAny (model prog w) A setsByText Q E s:=by
 unfold setsByText;exact wpAny_bind (wpAny_askSetting (wpAny_pure q))
theorem yns{Q:Option (Value × Nat)->Shared->Prop}(hb:bT w=true)(hS:yky s.heap a es ep t)(hf:t.fits es.size=true)(q:Q (((pickOrder (w.params.setOrder a ep) es)[i]?).map fun e=>(e.2,0)) s):wpAny (model prog w) A (setNext a 0 i ep) Q E s:=by
 obtain⟨o,g,x,d⟩:=hS;unfold setNext;refine wpAny_bind (wpAny_setState_of g d hf ?_);dsimp only;refine wpAny_bind (zj9 ?_);rw[hb];simp only[if_true,bne_self_eq_false,Bool.false_eq_true,if_false];refine wpAny_bind ?_;unfold setWalk;refine wpAny_bind (wpAny_setState_of g d hf ?_);dsimp only;refine wpAny_bind (zj9 ?_);rw[hb];simp only[if_true];exact wpAny_bind (wpAny_askSetting (wpAny_pure (wpAny_pure q)))
theorem ynt{Q:Option (Value × Nat)->Shared->Prop}(hb:bT w=false)(hT:TOk (bT w) t)(hp:(!t.plain && decide (es.size > 1))=false)(hi:i<=es.size)(hS:yky s.heap a es ep t)(hf:t.fits es.size=true)(q:Q ((es[i]?).map fun e=>(e.2,fB t.place (i+1))) s):wpAny (model prog w) A (setNext a (fB t.place i) i ep) Q E s:=by
 obtain⟨o,g,x,d⟩:=hS;have hz:t.place.size=es.size:=by simp only[SetTable.fits,Bool.and_eq_true,beq_iff_eq]at hf;exact hf.1
 unfold setNext;refine wpAny_bind (wpAny_setState_of g d hf ?_);dsimp only;refine wpAny_bind (zj9 ?_);rw[hb];simp only[Bool.false_eq_true,if_false];refine wpAny_ite_split (fun z=>?_) (fun _=>?_)
 ·have:(!t.plain && decide (es.size > 1))=true:=z;rw[hp]at this;cases this
 ·refine wpAny_bind ?_;refine wpAny_ite_split (fun z=>?_) (fun _=>wpAny_pure ?_)
  ·have:(!t.led && !es.isEmpty)=true:=z;rw[hT.led,hb]at this;cases this
  ·rw[yl3 hT.ris (by rw[hz];exact hi)];refine wpAny_pure ?_;by_cases hl:i<es.size
   ·have e1:es[i]?=some es[i]:=Array.getElem?_eq_getElem hl;have hl2:i<t.place.size:=by rw[hz];exact hl
    have e2:t.place[i]?=some t.place[i]:=Array.getElem?_eq_getElem hl2;rw[e1]at q ⊢;rw[e2];have e3:fB t.place (i+1)=t.place[i]+1:=by unfold fB;simp[Array.getD,hl2]
    rw[e3]at q;exact q
   ·have e1:es[i]?=none:=Array.getElem?_eq_none (by omega);rw[e1]at q ⊢;exact q
end
section
variable{prog:Program}{w:World}{A:Around}{E:Value->Shared->Prop}{s:Shared}{I a p:Addr}{es:Array (Int × Value)}{ep:Nat}{t:SetTable}{i:Nat}
theorem zn1{M:Model}{src:Source}{n:Nat}{Q:Nat->Shared->Prop}(hn:n≠0)(q:∀ i,i<n->∀ d',Q i { s with drawn:=d' }):wpAny M A (choose src n) Q E s:=fun Γ ps _=>⟨hn,q _ (Nat.mod_lt _ (Nat.pos_of_ne_zero hn)) _⟩
theorem zkt{M:Model}{α:Type}:∀ (n:Nat) (xs:List α) (s:Shared) (Q:List α->Shared->Prop),xs.length=n->(∀ ys d',ys.Perm xs->Q ys { s with drawn:=d' })->wpAny M A (drawOrder n xs) Q E s
 |0,xs,s,Q,h,q=>by
  obtain rfl:=List.length_eq_zero_iff.mp h;exact wpAny_pure (q [] s.drawn (.refl _))
 |n+1,[],s,Q,h,q=>by cases h
 |n+1,x::xs,s,Q,h,q=>by
  unfold drawOrder;refine wpAny_bind (zn1 (by simp) fun i hi d'=>?_);rw[List.getElem?_eq_getElem hi];dsimp only;refine wpAny_bind (zkt n _ _ _ (by rw[List.length_eraseIdx_of_lt hi];simpa using h) fun ys d2 p=>wpAny_pure ?_);exact q _ d2 ((p.cons _).trans (zhz (x::xs) i hi))
def yk3(h:Heap)(p:Addr)(ps:List Nat):Prop:=∃ o n,h.get? p=some o/\o.data=.seq (ps.map fun(i:Nat)=>rawInt i).toArray n
theorem zir{ps:List Nat}{j:Nat}{v:Int × Value}{Q:Option Value->Shared->Prop}(hI:yqd s.heap I a (.ref p) i es.size ep)(hS:yky s.heap a es ep t)(hf:t.fits es.size=true)(hT:yk3 s.heap p ps)(hj:ps[i]?=some j)(hv:es[j]?=some v)
  (q:∀ h',yqd h' I a (.ref p) (i+1) es.size ep->Heap.SameBut I s.heap h'->Q (some v.2) { s with heap:=h' }):wpAny (model prog w) A (pyNext (.ref I)) Q E s:=by
 obtain⟨o,ho,hc,hd⟩:=id hI;obtain⟨oS,gS,xS,dS⟩:=id hS;obtain⟨oT,nT,gT,dT⟩:=hT;unfold pyNext;refine wpAny_bind (wpAny_attempt (wpAny_callSpecial?_slot (name:=Str.ofString "__next__") hI.ty yb8 (wpAny_call_entry yb8 hI.ty zv9 ?_ (zu0 _))));unfold Builtin.«set_iterator.__next__»;refine wpAny_bind (wpAny_pure (wpAny_bind (wpAny_fieldsOf ho hd ?_)));dsimp only[rawInt];refine wpAny_bind (wpAny_setEntries_of gS dS hf ?_);rw[if_neg (by simp)];refine wpAny_bind (wpAny_seqItems gT dT ?_);dsimp only;have e:(ps.map fun(i:Nat)=>rawInt i).toArray[(i:Int).toNat]?=some (.int (j:Int) 0):=by
  rw[Int.toNat_natCast,List.getElem?_toArray,List.getElem?_map,hj];rfl
 rw[e];dsimp only;simp only[Int.toNat_natCast];unfold setNextDrawn;refine wpAny_bind (wpAny_bind (wpAny_setState_of gS dS hf ?_));dsimp only;rw[if_neg (by simp)];rw[hv];refine wpAny_pure (wpAny_bind (wpAny_setField ho hd (by simp) ?_));have g1:=Heap.get?_update_self (Obj.mapFields (·.setIfInBounds 1 (Value.int ((i:Int)+1) 0))) ho (Obj.isFreed_of_fields (Obj.data_mapFields hd _));refine wpAny_pure ⟨_,rfl,wpAny_pure (q _ ⟨_,g1,?_,?_⟩ (Heap.SameBut.update ..))⟩
 ·rw[Obj.cls_mapFields];exact hc
 ·rw[Obj.data_mapFields hd];simp[rawInt]
theorem zkx{ps:List Nat}{Q:Option Value->Shared->Prop}(hh:A.handled=none)(hI:yqd s.heap I a (.ref p) i es.size ep)(hS:yky s.heap a es ep t)(hf:t.fits es.size=true)(hT:yk3 s.heap p ps)(hj:ps[i]?=none)
  (q:∀ h',Heap.ExtBut I s.heap h'->Q none { s with heap:=h' }):wpAny (model prog w) A (pyNext (.ref I)) Q E s:=by
 obtain⟨o,ho,hc,hd⟩:=id hI;obtain⟨oS,gS,xS,dS⟩:=id hS;obtain⟨oT,nT,gT,dT⟩:=hT;unfold pyNext;refine wpAny_bind (wpAny_attempt (wpAny_callSpecial?_slot (name:=Str.ofString "__next__") hI.ty yb8 (wpAny_call_entry yb8 hI.ty zv9 ?_ (zu0 _))));unfold Builtin.«set_iterator.__next__»;refine wpAny_bind (wpAny_pure (wpAny_bind (wpAny_fieldsOf ho hd ?_)));dsimp only[rawInt];refine wpAny_bind (wpAny_setEntries_of gS dS hf ?_);rw[if_neg (by simp)];refine wpAny_bind (wpAny_seqItems gT dT ?_);dsimp only;have e:(ps.map fun(i:Nat)=>rawInt i).toArray[(i:Int).toNat]?=none:=by
  rw[Int.toNat_natCast,List.getElem?_toArray,List.getElem?_map,hj];rfl
 rw[e];dsimp only;refine wpAny_bind (wpAny_setField ho hd (by simp) ?_);have g1:=Heap.get?_update_self (Obj.mapFields (·.setIfInBounds 0 (Value.int 0 0))) ho (Obj.isFreed_of_fields (Obj.data_mapFields hd _));have d1:=Obj.data_mapFields hd (·.setIfInBounds 0 (Value.int 0 0));refine wpAny_bind (wpAny_setField g1 d1 (by simp) ?_);exact zt3 (s:=s) (I:=I) (first:=.none) (n:=0) hh ((Heap.SameBut.update ..).trans (Heap.SameBut.update ..)) q
abbrev itO(a:Addr)(first:Value)(n ep:Nat):Obj:={ cls:=.type "set_iterator",data:=.fields #[first,rawInt 0,.ref a,rawInt n,rawInt ep] }
abbrev yvm(ps:List Nat):Obj:={ cls:=.type "tuple",data:=.seq (ps.map fun(i:Nat)=>rawInt i).toArray }
theorem zqi{Q:Value->Shared->Prop}(hS:yky s.heap a es ep t)(hf:t.fits es.size=true)(hz:es.size<scanBound)
  (h1:(!bT w && (!t.plain && decide (es.size > 1)))=false->Q (.ref s.heap.objs.size) { s with heap:=s.heap.push (itO a (rawInt 0) es.size ep) })
  (h2:(!bT w && (!t.plain && decide (es.size > 1)))=true->∀ ps d',ps.Perm (List.range es.size)->Q (.ref (s.heap.objs.size+1)) { s with heap:=(s.heap.push (yvm ps)).push (itO a (.ref s.heap.objs.size) es.size ep),drawn:=d' }) :
  wpAny (model prog w) A (pyIter (.ref a)) Q E s:=by
 obtain⟨o,g,x,d⟩:=id hS;have hT:s.TypeIs (.ref a) "set":=⟨o,g,x.1⟩
 refine wpAny_pyIter_slot hT PySem.F.slot_set_iter (wpAny_call_entry PySem.F.slot_set_iter hT zv8 ?_ (PySem.F.args_set_iter_1 _));unfold Builtin.«frozenset.__iter__»;refine wpAny_bind (wpAny_pure ?_);unfold Builtin.Frozenset.sizeOf;refine wpAny_bind (wpAny_bind (wpAny_setEntries_of g d hf (wpAny_pure ?_)));unfold setDrawn;refine wpAny_bind (wpAny_bind (wpAny_setState_of g d hf ?_));dsimp only;refine wpAny_bind (zj9 (wpAny_pure ?_));refine wpAny_ite_split (fun z=>?_) (fun z=>?_)
 ·have zz:(!bT w && (!t.plain && decide (es.size > 1)))=true:=z;refine wpAny_bind (zkt _ _ _ _ (by simp) fun ps d' pm=>?_);have hl:ps.length=es.size:=by rw[pm.length_eq,List.length_range]
  refine wpAny_bind (wpAny_newTuple ?_ (by rw[List.length_map,hl];exact fits_of_scanBound hz));refine wpAny_bind (wpAny_setEpoch_of (Heap.get?_push_of_some _ g) d hf ?_);unfold newFields;refine wpAny_bind (wpAny_newObj_type (wpAny_pure ⟨_,rfl, "set_iterator",_,⟨_,Heap.get?_push_size _ rfl,rfl⟩,yb8.lookup,?_⟩) (by size_fits));have:=h2 zz ps d' pm;rw[<-Heap.size_push s.heap (yvm ps)]at this;exact this
 ·have zz:(!bT w && (!t.plain && decide (es.size > 1)))=false:=by
   cases y:(!bT w && (!t.plain && decide (es.size > 1)))with
   |false=>rfl
   |true=>exact absurd y z
  refine wpAny_bind (wpAny_pure ?_);refine wpAny_bind (wpAny_setEpoch_of g d hf ?_);unfold newFields;refine wpAny_bind (wpAny_newObj_type (wpAny_pure ⟨_,rfl, "set_iterator",_,⟨_,Heap.get?_push_size _ rfl,rfl⟩,yb8.lookup,?_⟩) (by size_fits));exact h1 zz
end
theorem yb6:Slot "set_iterator" "__iter__" "set_iterator.__iter__":=.of (owner:="set_iterator") (n:="__iter__") (by rw[typeLookup_type,builtinLookup_eq_fast];kernel_rfl) (by decide +kernel) (by decide +kernel) (by decide +kernel) (by first|exact .inl (by decide +kernel)|exact .inr (by decide +kernel)) (by rw[isSubtype_type];kernel_rfl)
theorem zo5:entryFor table "set_iterator.__iter__" = some Builtin.«dict_keyiterator.__iter__»:=entryFor_alias (id':="dict_keyiterator.__iter__") (by kernel_rfl) (by first|rfl|decide +kernel) (by decide +kernel) (by kernel_rfl)
theorem zn6(a:Value):argsOk "set_iterator.__iter__" ⟨[a],[]⟩:=by unfold argsOk;kernel_rfl
section
variable{prog:Program}{w:World}{A:Around}{I a p:Addr}{es:Array (Int × Value)}{ep:Nat}{t:SetTable}
theorem zx0{E:Value->Shared->Prop}{s:Shared}{first:Value}{i n:Nat}{Q:Value->Shared->Prop}(h:yqd s.heap I a first i n ep)(q:Q (.ref I) s):wpAny (model prog w) A (pyIter (.ref I)) Q E s:=by
 refine wpAny_pyIter_slot h.ty yb6 (wpAny_call_entry yb6 h.ty zo5 ?_ (zn6 _));show wpAny _ _ (PySem.ret (Value.ref I)) _ _ s;exact wpAny_pure ⟨_,rfl, "set_iterator",_,h.ty,yb8.lookup,q⟩
theorem yqd.keep{h h':Heap}{first:Value}{i n:Nat}(x:yqd h I a first i n ep)(k:∀ o,h.get? I=some o->h'.get? I=some o):yqd h' I a first i n ep:=let ⟨o,e,r⟩:=x;⟨o,k o e,r⟩
theorem yky.keep{h h':Heap}(x:yky h a es ep t)(k:∀ o,h.get? a=some o->h'.get? a=some o):yky h' a es ep t:=let ⟨o,e,r⟩:=x;⟨o,k o e,r⟩
theorem yk3.keep{h h':Heap}{ps:List Nat}(x:yk3 h p ps)(k:∀ o,h.get? p=some o->h'.get? p=some o):yk3 h' p ps:=let ⟨o,n,e,r⟩:=x;⟨o,n,k o e,r⟩
theorem zju{f:Nat->Nat}{ord:List (Int × Value)}(hh:A.handled=none)(hf:t.fits es.size=true)(hne:a≠I)(hl:ord.length=es.size)
  (hn:∀ (s:Shared) (i:Nat),yky s.heap a es ep t->i<=es.size->∀ (A:Around) (E:Value->Shared->Prop) (Q:Option (Value × Nat)->Shared->Prop),Q ((ord[i]?).map fun e=>(e.2,f (i+1))) s->wpAny (model prog w) A (setNext a (f i) i ep) Q E s) :
  Walks prog w A I [I,a] [I] es.size (fun i v=>(ord[i]?).map (·.2)=some v) (fun i h=>yqd h I a (rawInt (f i)) i es.size ep/\yky h a es ep t) where
 sub:=fun b hb=>by simp at hb;simp[hb]
 frame:=fun _ _ _ st hk=>⟨st.1.keep fun o e=>hk I (by simp) o e,st.2.keep fun o e=>hk a (by simp) o e⟩
 item:=fun i s Q E hi st hQ=>by
  have hi':i<ord.length:=by rw[hl];exact hi
  have eo:ord[i]?=some ord[i]:=List.getElem?_eq_getElem hi';refine zmi st.1 st.2 hf hne (v:=ord[i].2) (f':=f (i+1)) (fun A' E' Q' q'=>hn s i st.2 (Nat.le_of_lt hi) A' E' Q' (by rw[eo];exact q')) fun h' hI sb=>?_;exact hQ _ h' s.toks (by rw[eo];rfl) ⟨hI,st.2.keep fun o e=>by rw[sb.2 a hne];exact e⟩ fun b o hb e=>by rw[sb.2 b (fun z=>hb (by simp[z]))];exact e
 done:=fun s Q E st hQ=>by
  have eo:ord[es.size]?=none:=by rw[<-hl];simp
  exact zo6 hh st.1 st.2 hf (fun A' E' Q' q'=>hn s es.size st.2 (Nat.le_refl _) A' E' Q' (by rw[eo];exact q')) fun h' he=>hQ h' s.toks fun b o hb e=>he b o (fun z=>hb (by simp[z])) e
 self:=fun _ _ _ _ st hQ=>zx0 st.1 hQ
theorem zjt{ps:List Nat}(hh:A.handled=none)(hf:t.fits es.size=true)(hne:a≠I)(hpe:p≠I)(hp:ps.Perm (List.range es.size)) :
  Walks prog w A I [I,a,p] [I] es.size (fun i v=>((ps[i]?).bind fun j=>es[j]?).map (·.2)=some v) (fun i h=>(yqd h I a (.ref p) i es.size ep/\yky h a es ep t)/\yk3 h p ps) where
 sub:=fun b hb=>by simp at hb;simp[hb]
 frame:=fun _ _ _ st hk=>⟨⟨st.1.1.keep fun o e=>hk I (by simp) o e,st.1.2.keep fun o e=>hk a (by simp) o e⟩,st.2.keep fun o e=>hk p (by simp) o e⟩
 item:=fun i s Q E hi st hQ=>by
  have hl:ps.length=es.size:=by rw[hp.length_eq,List.length_range]
  have hi':i<ps.length:=by rw[hl];exact hi
  have eo:ps[i]?=some ps[i]:=List.getElem?_eq_getElem hi';have hj:ps[i]<es.size:=List.mem_range.mp (hp.mem_iff.mp (List.getElem_mem hi'));have ee:es[ps[i]]?=some es[ps[i]]:=Array.getElem?_eq_getElem hj;refine zir st.1.1 st.1.2 hf st.2 eo ee fun h' hI sb=>?_;exact hQ _ h' s.toks (by rw[eo,Option.bind_some,ee];rfl) ⟨⟨hI,st.1.2.keep fun o e=>by rw[sb.2 a hne];exact e⟩,st.2.keep fun o e=>by rw[sb.2 p hpe];exact e⟩ fun b o hb e=>by rw[sb.2 b (fun z=>hb (by simp[z]))];exact e
 done:=fun s Q E st hQ=>by
  have hl:ps.length=es.size:=by rw[hp.length_eq,List.length_range]
  have eo:ps[es.size]?=none:=by rw[<-hl];simp
  exact zkx hh st.1.1 st.1.2 hf st.2 eo fun h' he=>hQ h' s.toks fun b o hb e=>he b o (fun z=>hb (by simp[z])) e
 self:=fun _ _ _ _ st hQ=>zx0 st.1.1 hQ
theorem zqa{E:Value->Shared->Prop}{s:Shared}{Q:Bool->Shared->Prop}(hT:s.TypeIs (.ref a) "set")(h:Q false s):wpAny (model prog w) A (Builtin.List.listLengthHint (.ref a)) Q E s:=by
 unfold Builtin.List.listLengthHint;refine wpAny_bind (wpAny_specialOf hT PySem.F.slot_set_len.lookup ?_);generalize hid:("set.__len__" : String)=id0
 wp_delta
 rw[show splitId id0=some ("set", "__len__")from by subst hid;decide +kernel];subst hid;refine wpAny_bind (wpAny_isInstance (T:="set") (b:=true) hT (by rw[isSubtype_type];kernel_rfl) ?_);refine wpAny_ite_split (fun hab=>absurd hab (by decide)) (fun _=>?_);refine wpAny_ite_split (fun _=>?_) (fun hab=>absurd (by decide +kernel) hab);exact wpAny_bind (wpAny_typeOf hT (wpAny_pure h))
end
end L4
namespace L4
open PySem PySem.Spec PySem.Calls PySem.W PyProof.Rows PyProof.V
section
variable{prog:Program}{w:World}{A:Around}{E:Value->Shared->Prop}{s:Shared}{a:Addr}{es:Array (Int × Value)}{ep:Nat}{t:SetTable}
theorem zs1{cc:Bool}{I S:Addr}{fp:List Addr}{n c0:Nat}{P:Nat->Value->Prop}{St:Nat->Heap->Prop}{R:Result->Shared->Prop}{res:Value}(W:Walks prog w A.in1 I fp [I] n P St)(hn:n<=sizeLine)(hSf:S ∉ fp)(hT:s.TypeIs (.ref a) "set")(st:St 0 s.heap)
  (hS:s.heap.get? S=some { cls:=.type "list",data:=.seq #[] c0 })
  (hR:∀ h' tk acc c,(∀ b o,b≠S->b≠I->s.heap.get? b=some o->h'.get? b=some o)->h'.get? S=some { cls:=.type "list",dict:=none,data:=.seq acc c,slots:=#[] }->ItemsOf P acc n->R (.ok (.ret res)) { s with heap:=h',toks:=tk }) :
  wpAny (model prog w) A.in1 (do
    let room <-holding [Value.ref I] (Builtin.List.listLengthHint (.ref a))
    if (room || cc)=true then do
     rule "list.extend.makes-room"
     Builtin.List.listTouch (.ref S)
     again (.builtin "list.extend.loop" ⟨[.ref S,.ref I,res],[]⟩)
    else again (.builtin "list.extend.loop" ⟨[.ref S,.ref I,res],[]⟩))
   (fun fin s'=>match fin with | .done f=>R (.ok f) s' | .again c'=>c'.quiet=true/\codeAny (model prog w) A c' R s') (fun e s'=>R (.error e) s') s:=by
 have key:∀ (h:Heap) (c1 tk:Nat),St 0 h->(∀ b o,b≠S->s.heap.get? b=some o->h.get? b=some o)->h.get? S=some { cls:=.type "list",data:=.seq #[] c1 }->codeAny (model prog w) A (.builtin "list.extend.loop" ⟨[.ref S,.ref I,res],[]⟩) R { s with heap:=h,toks:=tk }:=by
  intro h c1 tk hst hk gS;refine codeAny_extend_loopS W.toS hn S hSf res n 0 _ #[] c1 rfl (Nat.zero_le _) hst gS (ItemsOf.nil _) fun s' acc c hm g' ha=>?_;rw[Moved.eq_with hm];refine hR s'.heap s'.toks acc c (fun b o hb hI e=>hm.heap b o (fun z=>?_) (hk b o hb e)) g' ha;rcases List.mem_cons.mp z with z|z
  ·exact hb z
  ·exact hI (List.mem_singleton.mp z)
 refine wpAny_bind (wpAny_holding (zqa hT ?_));refine wpAny_ite_split (fun _=>?_) (fun _=>wpAny_pure ⟨plainId_quiet PySem.F.plain_extend_loop _,key _ c0 _ st (fun b o _ e=>e) hS⟩);refine wpAny_bind (wpAny_rule (wpAny_bind ?_));show wpAny _ _ (updateSeq S (·.push .none) >>= fun _=>updateSeq S (·.pop)) _ _ _;refine wpAny_bind (wpAny_updateSeq hS rfl ?_);have g2:=Heap.get?_update_self (Obj.mapSeq (·.push Value.none)) hS rfl;refine wpAny_updateSeq (hz:=by seq_fits) g2 rfl ?_;have g3:=Heap.get?_update_self (Obj.mapSeq (·.pop)) g2 rfl;have oth:∀ b o,b≠S->s.heap.get? b=some o->((s.heap.update S (Obj.mapSeq (·.push Value.none))).update S (Obj.mapSeq (·.pop))).get? b=some o:=fun b o hb e=>(Heap.get?_update_other _ _ (Ne.symm hb)).trans ((Heap.get?_update_other _ _ (Ne.symm hb)).trans e);exact wpAny_pure ⟨plainId_quiet PySem.F.plain_extend_loop _,key _ _ _ (W.frame 0 _ _ st fun b hb o e=>oth b o (fun z=>hSf (z ▸ hb)) e) (fun b o hb e=>oth b o hb e) g3⟩
theorem zpv{α β:Type}{f:α->Option β}{g:α->β}:∀ {l:List α},(∀ j∈l,f j=some (g j))->l.filterMap f=l.map g
 |[],_=>rfl
 |x::l,h=>by rw[List.filterMap_cons,h x List.mem_cons_self,List.map_cons,zpv fun j hj=>h j (List.mem_cons_of_mem _ hj)]
theorem zlq{acc:Array Value}{ord:List (Int × Value)}{n:Nat}(hl:ord.length=n)(h:ItemsOf (fun i v=>(ord[i]?).map (·.2)=some v) acc n):acc.toList=ord.map (·.2):=by
 apply List.ext_getElem?;intro i;rw[Array.getElem?_toList,List.getElem?_map];cases e:acc[i]? with
 |none=>
  have:n<=i:=by have:=Array.getElem?_eq_none_iff.mp e;rw[h.1]at this;exact this
  rw[List.getElem?_eq_none (by omega)];rfl
 |some v=>exact(h.2 i v e).symm
theorem zi2(es:Array (Int × Value)):(List.range es.size).filterMap (fun j=>(es[j]?).map (·.2))=es.toList.map (·.2):=by
 apply List.ext_getElem?;intro i;have e:(List.range es.size).filterMap (fun j=>(es[j]?).map (·.2))=(List.range es.size).map (fun j=>((es[j]?).map (·.2)).getD .none):=by
  refine zpv fun j hj=>?_;have:=List.mem_range.mp hj;simp[this]
 rw[e,List.getElem?_map,List.getElem?_map];by_cases hi:i<es.size
 ·simp[hi]
 ·simp[hi]
theorem zgf{acc:Array Value}{ps:List Nat}(hp:ps.Perm (List.range es.size))(h:ItemsOf (fun i v=>((ps[i]?).bind fun j=>es[j]?).map (·.2)=some v) acc es.size):acc.toList.Perm (es.toList.map (·.2)):=by
 have hl:ps.length=es.size:=by rw[hp.length_eq,List.length_range]
 have e:acc.toList=ps.filterMap (fun j=>(es[j]?).map (·.2)):=by
  have e2:ps.filterMap (fun j=>(es[j]?).map (·.2))=ps.map (fun j=>((es[j]?).map (·.2)).getD .none):=by
   refine zpv fun j hj=>?_;have:=List.mem_range.mp (hp.mem_iff.mp hj);simp[this]
  rw[e2];apply List.ext_getElem?;intro i;rw[Array.getElem?_toList,List.getElem?_map];cases ea:acc[i]? with
  |none=>
   have:es.size<=i:=by have:=Array.getElem?_eq_none_iff.mp ea;rw[h.1]at this;exact this
   rw[List.getElem?_eq_none (by omega)];rfl
  |some v=>
   have this:((ps[i]?).bind fun j=>es[j]?).map (·.2)=some v:=h.2 i v ea;cases ej:ps[i]? with
   |none=>rw[ej]at this;cases this
   |some j=>rw[ej]at this;simp only[Option.bind_some]at this;rw[Option.map_some,this];rfl
 rw[e,<-zi2];exact hp.filterMap _
theorem zf1{R:List Value->Shared->Prop}(hh:A.handled=none)(hA:yky s.heap a es ep t)(hf:t.fits es.size=true)(hk:TOk (bT w) t)(hz:es.size<scanBound)
  (fin:∀ h' tk d' (acc:Array Value),(∀ b o,s.heap.get? b=some o->h'.get? b=some o)->s.heap.objs.size<=h'.objs.size->acc.toList.Perm (es.toList.map (·.2))->R acc.toList { s with heap:=h',toks:=tk,drawn:=d' }) :
  wpAny (model prog w) A (collect (.ref a)) R E s:=by
 have hn:es.size<=sizeLine:=fits_of_scanBound hz;have la:a<s.heap.objs.size:=let ⟨_,g,_⟩:=hA;Heap.lt_size g;let S:Addr:=s.heap.objs.size;let Z:Result->Shared->Prop:=fun q s'=>∃ (h':Heap) (tk:Nat) (d':Drawn) (acc:Array Value) (c:Nat),q=.ok (.ret (.ref S))/\s'={ s with heap:=h',toks:=tk,drawn:=d' }/\(∀ b o,s.heap.get? b=some o->h'.get? b=some o)/\
  h'.get? S=some { cls:=.type "list",dict:=none,data:=.seq acc c,slots:=#[] }/\acc.toList.Perm (es.toList.map (·.2))
 let s1:Shared:={ s with heap:=s.heap.push { cls:=.type "list",data:=.seq ([]:List Value).toArray } }
 have g0:s1.heap.get? S=some { cls:=.type "list",data:=.seq #[] }:=Heap.get?_push_size _ rfl;have hA1:yky s1.heap a es ep t:=hA.keep fun o e=>Heap.get?_push_of_some _ e;have z1:s1.heap.objs.size=S+1:=Heap.size_push ..;have run:wpAny (model prog w) A.in1 (Builtin.List.listExtendWith (.ref S) (.ref a) (.ref S)) (fun fin s'=>match fin with | .done f=>Z (.ok f) s' | .again c'=>c'.quiet=true/\codeAny (model prog w) A c' Z s') (fun e s'=>Z (.error e) s') s1:=by
  have hT1:s1.TypeIs (.ref a) "set":=let ⟨o,g,x,_⟩:=hA1;⟨o,g,x.1⟩;unfold Builtin.List.listExtendWith;refine wpAny_bind (wpAny_typeOf (T:="set") hT1 ?_);have ns:Builtin.List.listSameRef (.ref S) (.ref a)=false:=by simp only[Builtin.List.listSameRef,beq_eq_false_iff_ne];exact Nat.ne_of_gt la
  have n1:(Value.type "set" == Value.type "list")=false:=by decide
  have n2:(Value.type "set" == Value.type "tuple")=false:=by decide
  simp only[ns,n1,n2,Bool.or_false,Bool.false_eq_true,if_false];refine wpAny_bind (zqi hA1 hf hz (fun hc=>?_) (fun hc ps d' hp=>?_))
  ·have hI:yqd (s1.heap.push (itO a (rawInt 0) es.size ep)) s1.heap.objs.size a (rawInt 0) 0 es.size ep:=⟨_,Heap.get?_push_size _ rfl,rfl,rfl⟩
   have hA2:yky (s1.heap.push (itO a (rawInt 0) es.size ep)) a es ep t:=hA1.keep fun o e=>Heap.get?_push_of_some _ e;have hT2:Shared.TypeIs { s1 with heap:=s1.heap.push (itO a (rawInt 0) es.size ep) } (.ref a) "set":=let ⟨o,g,x,_⟩:=hA2;⟨o,g,x.1⟩;have hne:a≠s1.heap.objs.size:=by rw[z1];exact Nat.ne_of_lt (Nat.lt_succ_of_lt la)
   have hSf:S ∉ [s1.heap.objs.size,a]:=by rw[z1];simp only[List.mem_cons,List.not_mem_nil,or_false,not_or];exact⟨Nat.ne_of_lt (Nat.lt_succ_self _),Nat.ne_of_gt la⟩
   have out:∀ (ord:List (Int × Value)),ord.length=es.size->ord.Perm es.toList->∀ h' tk acc c,(∀ b o,b≠S->b≠s1.heap.objs.size->(s1.heap.push (itO a (rawInt 0) es.size ep)).get? b=some o->h'.get? b=some o)->h'.get? S=some { cls:=.type "list",dict:=none,data:=.seq acc c,slots:=#[] }->
     ItemsOf (fun i v=>(ord[i]?).map (·.2)=some v) acc es.size->Z (.ok (.ret (.ref S))) { s1 with heap:=h',toks:=tk }:=fun ord hl hp h' tk acc c k g it=>⟨h',tk,s.drawn,acc,c,rfl,rfl,fun b o e=>by
      have lb:=Heap.lt_size e;exact k b o (Nat.ne_of_lt lb) (by rw[z1];exact Nat.ne_of_lt (Nat.lt_succ_of_lt lb)) (Heap.get?_push_of_some _ (Heap.get?_push_of_some _ e)),g,by rw[zlq hl it];exact hp.map _⟩
   cases hb:bT w with
   |true=>
    have hl:(pickOrder (w.params.setOrder a ep) es).toList.length=es.size:=by rw[(zms _ _).length_eq,Array.length_toList]
    exact zs1 (zju (f:=fun _=>0) (ord:=(pickOrder (w.params.setOrder a ep) es).toList) hh hf hne hl fun s' i hS' _ A' E' Q' q'=>yns hb hS' hf (by rw[<-Array.getElem?_toList];exact q')) hn hSf hT2 ⟨hI,hA2⟩ (Heap.get?_push_of_some _ g0) (out _ hl (zms _ _))
   |false=>
    have hp:(!t.plain && decide (es.size > 1))=false:=by rw[hb]at hc;simpa using hc
    have hl:es.toList.length=es.size:=Array.length_toList;exact zs1 (zju (f:=fB t.place) (ord:=es.toList) hh hf hne hl fun s' i hS' hi A' E' Q' q'=>ynt hb hk hp hi hS' hf (by rw[<-Array.getElem?_toList];exact q')) hn hSf hT2 ⟨hI,hA2⟩ (Heap.get?_push_of_some _ g0) (out _ hl (.refl _))
  ·let h2:Heap:=(s1.heap.push (yvm ps)).push (itO a (.ref s1.heap.objs.size) es.size ep);have k2:∀ b o,s1.heap.get? b=some o->h2.get? b=some o:=fun b o e=>Heap.get?_push_of_some _ (Heap.get?_push_of_some _ e);have z2:(s1.heap.push (yvm ps)).objs.size=s1.heap.objs.size+1:=Heap.size_push ..;have hI:yqd h2 (s1.heap.objs.size+1) a (.ref s1.heap.objs.size) 0 es.size ep:=⟨_,by rw[<-z2];exact Heap.get?_push_size _ rfl,rfl,rfl⟩
   have hA2:yky h2 a es ep t:=hA1.keep fun o e=>k2 a o e;have hTp:yk3 h2 s1.heap.objs.size ps:=⟨_,_,Heap.get?_push_of_some _ (Heap.get?_push_size _ rfl),rfl⟩
   have hT2:Shared.TypeIs { s1 with heap:=h2,drawn:=d' } (.ref a) "set":=let ⟨o,g,x,_⟩:=hA2;⟨o,g,x.1⟩;refine zs1 (s:={ s1 with heap:=h2,drawn:=d' }) (zjt (p:=s1.heap.objs.size) hh hf (by rw[z1];exact Nat.ne_of_lt (Nat.lt_succ_of_lt (Nat.lt_succ_of_lt la))) (Nat.ne_of_lt (Nat.lt_succ_self _)) hp) hn (by rw[z1];simp only[List.mem_cons,List.not_mem_nil,or_false,not_or];exact⟨Nat.ne_of_lt (Nat.lt_succ_of_lt (Nat.lt_succ_self _)),Nat.ne_of_gt la,Nat.ne_of_lt (Nat.lt_succ_self _)⟩) hT2 ⟨⟨hI,hA2⟩,hTp⟩ (k2 _ _ g0) fun h' tk acc c k g it=>⟨h',tk,d',acc,c,rfl,rfl,fun b o e=>?_,g,zgf hp it⟩
   have lb:=Heap.lt_size e;exact k b o (Nat.ne_of_lt lb) (by rw[z1];exact Nat.ne_of_lt (Nat.lt_succ_of_lt (Nat.lt_succ_of_lt lb))) (k2 b o (Heap.get?_push_of_some _ e))
 have close:∀ {h':Heap} {tk c:Nat} {d':Drawn} {acc:Array Value},(∀ b o,s.heap.get? b=some o->h'.get? b=some o)->h'.get? S=some { cls:=.type "list",dict:=none,data:=.seq acc c,slots:=#[] }->acc.toList.Perm (es.toList.map (·.2))->R acc.toList { s with heap:=h',toks:=tk,drawn:=d' }:=fun kp g it=>fin _ _ _ _ kp (Nat.le_of_lt (Heap.lt_size g)) it;unfold collect;refine wpAny_bind (wpAny_runValue (codeAny_builtin entry_proto_collect' ?_));rw[Around.under_plainId PySem.F.plain_proto_collect _];show wpAny _ A.in1 (newList [] >>= fun l=>again (.builtin "list.__iadd__" ⟨[l,.ref a],[]⟩)) _ _ s;refine wpAny_bind (wpAny_newObj_type (wpAny_pure ⟨plainId_quiet PySem.F.plain_list_iadd _,codeAny_builtin entry_list_iadd' ?_⟩));rw[Around.under_plainId PySem.F.plain_list_iadd _];show wpAny _ A.in1 (Builtin.List.listExtendWith (.ref S) (.ref a) (.ref S)) _ _ _;refine wpAny_mono run (fun f s' x=>?_) (fun e s' x=>by obtain⟨_,_,_,_,_,z,_⟩:=x;cases z);cases f with
 |done f=>
  obtain⟨h',tk,d',acc,c,e,rfl,kp,g,it⟩:=x;cases e;exact wpAny_bind (wpAny_load g (wpAny_pure (close kp g it)))
 |again c1=>
  refine⟨x.1,codeAny_mono x.2 fun q s2 y=>?_⟩;obtain⟨h',tk,d',acc,c,rfl,rfl,kp,g,it⟩:=y;exact wpAny_bind (wpAny_load g (wpAny_pure (close kp g it)))
end
end L4
namespace L4
open PySem PySem.Spec PyProof.Rows L2
theorem zkr(ns:List Int):(ddp ns).Nodup:=by
 unfold ddp;have h:∀ (l acc:List Int),acc.Nodup->(l.foldl step_dedup acc).Nodup:=by
  intro l;induction l with
  |nil=>intro acc h;exact h
  |cons x l ih=>
   intro acc h;rw[List.foldl_cons];refine ih _ ?_;unfold step_dedup;split
   ·exact h
   ·rename_i hx
    rw[List.nodup_append];refine⟨h,by simp,fun a ha b hb=>?_⟩;rw[List.mem_singleton]at hb;intro e;subst e;subst hb;exact hx (List.any_eq_true.mpr ⟨_,ha,by simp⟩)
 exact h ns [] List.nodup_nil
theorem yal{α:Type}[DecidableEq α]:∀ {l1 l2:List α},l1.Nodup->(∀ x∈l1,x∈l2)->l2.length<=l1.length->l1.Perm l2
 |[],l2,_,_,h=>by
  have:l2=[]:=List.length_eq_zero_iff.mp (Nat.le_zero.mp h);subst this;exact .refl _
 |x::l1,l2,hn,hs,hl=>by
  rw[List.nodup_cons]at hn;have hx:=hs x List.mem_cons_self;have p:=List.perm_cons_erase hx;have ih:=yal (l1:=l1) (l2:=l2.erase x) hn.2 (fun y hy=>(List.mem_erase_of_ne (show y≠x from fun e=>hn.1 (by rw[<-e];exact hy))).mpr (hs y (List.mem_cons_of_mem _ hy))) (by rw[List.length_erase_of_mem hx];simp at hl;omega);exact(ih.cons x).trans p.symm
theorem zxw:∀ {prog:Program} {w:World} {l:List (Int × Value)},ElemsOf (intKind prog w) l->∃ is,IntsAre (l.map (·.2)) is/\is.length=l.length/\∀ k,k∈is ↔ ∃ e∈l,(intKind prog w).is k e.2=true
 |prog,w,[],_=>⟨[],.nil,rfl,fun k=>by simp⟩
 |prog,w,e::l,h=>by
  obtain⟨is,h1,h2,h3⟩:=zxw (fun x hx=>h x (.tail _ hx):ElemsOf (intKind prog w) l);obtain⟨⟨k,hk,_⟩,_⟩:=h e (.head _);have hk0:=hk;obtain⟨t,et⟩:=Value.isInt_shape hk;refine⟨k::is,by rw[List.map_cons,et];exact .cons k t h1,by simp[h2],fun k'=>?_⟩;rw[List.mem_cons,h3 k'];constructor
  ·rintro (rfl|⟨x,hx,q⟩)
   ·exact⟨e,.head _,hk0⟩
   ·exact⟨x,.tail _ hx,q⟩
  ·rintro ⟨x,hx,q⟩;rcases List.mem_cons.mp hx with rfl|hx
   ·exact .inl ((intKind prog w).inj _ _ _ q hk0)
   ·exact .inr ⟨x,hx,q⟩
theorem zlk{l l':List Value}(p:l'.Perm l):∀ {is:List Int},IntsAre l is->∃ is',IntsAre l' is'/\is'.Perm is:=by
 induction p with
 |nil=>intro is h;exact⟨is,h,.refl _⟩
 |cons x p ih=>
  intro is h;cases h with
  |cons n t h=>obtain⟨is',h1,h2⟩:=ih h;exact⟨n::is',.cons n t h1,h2.cons n⟩
 |swap x y l=>
  intro is h;cases h with
  |cons n t h=>
   cases h with
   |cons m u h=>exact⟨m::n::_,.cons m u (.cons n t h),.swap _ _ _⟩
 |trans p1 p2 ih1 ih2=>
  intro is h;obtain⟨is2,h1,h2⟩:=ih2 h;obtain⟨is3,h3,h4⟩:=ih1 h1;exact⟨is3,h3,h4.trans h2⟩
def StH(P:Program)(w:World)(ns:List Int)(a:Addr):Heap->Prop:=fun h=>yqu (intKind P w) (bT w) h a (fun k=>(ddp ns).any (·== k)) (ddp ns).length
theorem zt2{P:Program}{w:World}{ns:List Int}{a:Addr}:∀ h1 h2:Heap,StH P w ns a h1->(∀ u,h1.get? a=some u->h2.get? a=some u)->StH P w ns a h2:=fun h1 h2 x k=>ycy x k
section
variable{T:Tb}{X:Cx}
def yos(X:Cx):List V->Hp->VK->Prop:=fun xs H Q=>∃ (p:Addr) (ns:List Int),xs=[.ref p]/\SqL X.K H p (ns.map V.int)/\ns.length<64/\∀ l,H l=none->Q (.ref l) (upd H l (.ext (StH X.prog X.w ns l)))
theorem zke(hc:X.calm=true):ykp X (.type "set") (yos X):=by
 intro pins s st H xs us Q I r h;obtain⟨p,ns,rfl,hq,hl,q⟩:=h;obtain⟨u,rfl,ru⟩:=ypx r;cases ru;obtain⟨its,rv,pl,hz⟩:=I.list hq;have el:its.length=ns.length:=by rw[<-rv.length,List.length_map]
 refine zkf (I.ok.hd hc) pl.isList (ns:=ns) (zib rv) (by rw[List.size_toArray,el];exact zoi (Nat.le_trans (Nat.le_of_lt hl) (by decide))) fun h' tk hs hk=>?_;rw[show its.toArray.size=ns.length by rw[List.size_toArray,el],zkq]at hs;refine⟨.ref s.heap.objs.size,_,I.laid (t':=tk) (o:=.ext (StH X.prog X.w ns s.heap.objs.size)) (fun b o e=>hk b o (Heap.lt_size e) e) (Nat.le_refl _) ?_,rfl,q _ (I.hok.fresh (Nat.le_refl _))⟩;exact⟨hs,let ⟨o,_,_,_,g,_⟩:=hs;⟨o,g⟩,zt2⟩
theorem zqe{pins:List (Addr × Obj)}{st:St}{H:Hp}{s:Shared}(I:Inv X pins st H s)(d':Drawn):Inv X pins st H { s with drawn:=d' }:=⟨I.ok,I.os,I.bare,I.base,I.loc,I.cell,I.free,I.freeC,I.pin,I.hok,I.len⟩
def yov(X:Cx):List V->Hp->VK->Prop:=fun xs H Q=>∃ (a:Addr) (ns:List Int),xs=[.ref a]/\H a=some (.ext (StH X.prog X.w ns a))/\ns.length<64/\(ddp ns).length<=ns.length/\∀ l,H l=none->Q (.ref l) (upd H l (.lst ((yu2 (ddp ns)).map V.int)))
theorem zki(hc:X.calm=true):ykp X (.builtin "sorted") (yov X):=by
 intro pins s σ H xs us Q I r h;obtain⟨a,ns,rfl,hH,h64,hdl,q⟩:=h;obtain⟨u,rfl,rx⟩:=ypx r;cases rx;obtain⟨⟨o,es,ep,t,g1,g2,g3,g4,g5,g6,g7,g8,g9⟩,_,_⟩:=I.hok a _ hH;obtain⟨is,i1,i2,i3⟩:=zxw g4;have hp:is.Perm (ddp ns):=(yal (zkr ns) (fun x hx=>(i3 x).mpr ((g5 x).mp (List.any_eq_true.mpr ⟨x,hx,by simp⟩))) (by rw[i2,Array.length_toList,g8];exact Nat.le_refl _)).symm;have he64:es.size<64:=by omega
 have hn:es.size<=sizeLine:=fits_of_scanBound g6;refine Calls.call_function_entry kind_sorted plain_sorted entry_sorted (args_sorted1 _) ?_;unfold Builtin.«sorted»;refine wpAny_bind (m:=checkCount "sorted" 1 1 _) (wpAny_pure ?_);refine wpAny_bind (zf1 (A:=X.A.in1) (I.ok.hd hc) ⟨o,g1,g2,g3⟩ g7 g9 g6 fun h' tk d' acc kp hsz hacc=>?_);obtain⟨is',hI,hp'⟩:=zlk hacc i1;have hl:acc.toList.length=es.size:=by rw[hacc.length_eq,List.length_map,Array.length_toList]
 refine wpAny_bind (wpAny_newList ?_ (by rw[hl];exact hn));have hoL:(h'.push (seqObj "list" acc.toList.toArray 0)).get? h'.objs.size=some (seqObj "list" acc.toList.toArray 0):=Heap.get?_push_size _ rfl;refine wpAny_bind (wpAny_holding (wpAny_call_entry slot_list_sort ⟨_,hoL,rfl⟩ entry_list_sort (list_sort_tree hoL hI (by rw[hl];exact he64) fun out ns' a1 a2 a3=>⟨_,rfl,?_⟩) (args_list_sort _)));refine wpAny_pure ⟨_,rfl,?_⟩;have en:ns'=yu2 (ddp ns):=ya3 (a2.trans (hp'.trans (hp.trans (znn _).symm))) a3 (ycx _);subst en;have hls:=(znn (ddp ns)).length_eq;obtain⟨e,he⟩:=sortedHeap_at (out:=out) hoL;exact⟨.ref h'.objs.size,_,(zqe I d').laid (t':=tk) (fun b o eb=>by
  have lt:b<h'.objs.size:=Heap.lt_size (kp b o eb);rw[sortedHeap_old (Nat.ne_of_lt lt) (by rw[size_push'];exact Nat.lt_succ_of_lt lt)];exact Heap.get?_push_of_some _ (kp b o eb)) hsz (show ykv X.prog X.w _ _ _ (.lst ((yu2 (ddp ns)).map V.int))from⟨by rw[List.length_map,hls];exact Nat.le_trans (show (ddp ns).length<=1000 by omega) (by decide),out.toList,e,zny a1,by rw[Array.toArray_toList];exact he⟩),rfl,q _ (I.hok.fresh hsz)⟩
def zz8(x:D):M D:=fun σ=>match (ysf σ x).bind ygf with
 |some ns=>if ns.length<64 then ynm ((yu2 (ddp ns)).map D.int) σ else .bad
 |none=>.bad
theorem yei(ns:List Int):(ddp ns).length<=ns.length:=by rw[<-zkq];exact firstMet_length_le _ _
theorem zsu{μ:List Addr}{H:Hp}:∀ (is:List Int),yqs T μ H (is.map D.int) (is.map V.int)
 |[]=>yqs.nil
 |i::is=>yqs.cons (by rw[Rep]) (zsu is)
theorem zk7{e:Expr}{f:Ev->M D}{p p2 pos pos2:Pos}(hK:T.K=X.K)(hc:X.calm=true)(hg:Gl X "sorted")(hm:X.mg "sorted" = none)(hg2:Gl X "set")(hm2:X.mg "set" = none)(he:FE T X e f)
  (hs:starEach [e] X.env=(false,eval e X.env)::starEach [] X.env:=by rfl) (hpl:(backTo pos2 (starEach [] X.env)).any (·.1)=false:=by rfl)
  (hs2:starEach [.Call (.Name "set" p2) [e] [] pos2] X.env=(false,eval (.Call (.Name "set" p2) [e] [] pos2) X.env)::starEach [] X.env:=by rfl) (hpl2:(backTo pos (starEach [] X.env)).any (·.1)=false:=by rfl) :
  FE T X (.Call (.Name "sorted" p) [.Call (.Name "set" p2) [e] [] pos2] [] pos) (eUn zz8 f):=by
 intro pins s st H Q I h;refine zsa (zki hc) hg hm L4.zfz (yae (zmq (zke hc) hg2 hm2 rfl (yae he yil hs) (by decide) (by decide) hs hpl) yil hs2) (by decide) (by decide) hs2 hpl2 pins s st H Q I ?_;obtain⟨μ,ρ,σ,hE,hr,hp⟩:=h;refine⟨μ,ρ,σ,hE,hr,hp.bind fun d σ1 μ1 v H1 _ e1 r1 q1 p1=>?_⟩;unfold zz8 at p1;cases e2:(ysf σ1 d).bind ygf with
 |none=>rw[e2]at p1;exact p1.elim
 |some ns=>
  rw[e2]at p1;dsimp only at p1;by_cases hl:ns.length<64
  ·rw[if_pos hl]at p1;obtain⟨ys,e3,e4⟩:=Option.bind_eq_some_iff.mp e2;obtain⟨a,vs,rfl,h1,h2⟩:=r1.ls q1 e3;have ev:=zqd h2 e4;subst ev;refine⟨a,ns,rfl,SqL.of h1,hl,fun l hn=>⟨l,ns,rfl,upd_same,hl,yei ns,fun l2 hn2=>?_⟩⟩;have p2:=yqm.mono (zwh (o:=.ext (StH X.prog X.w ns l)) hn) p1;exact zzj p2 (r1.fresh hn) (zsu _) hn2
  ·rw[if_neg hl]at p1;exact p1.elim
def rClear:V->List V->Hp->VK->Prop:=fun x xs H Q=>∃ (a:Addr) (kvs:List (Key × V)),x=.ref a/\xs=[]/\H a=some (.dK kvs)/\Q .non (upd H a (.dK []))
theorem mt_clear:MtR X "dict.clear" rClear:=by
 intro pins s st H x vs v us Q I rx rv h;obtain⟨a,kvs,rfl,rfl,hH,q⟩:=h;cases rx;cases rv;obtain⟨z,hd,ws,rel,dd⟩:=ylo I.hok hH;have hz:ws.length<=sizeLine:=by rw[<-rel.length];exact z
 refine call_meetsIn PySem.F.slot_dict_clear dd.typeIs PySem.F.entry_dict_clear (PySem.F.args_dict_clear_1 _) (meets_dict_clear (zy2 X.prog X.w) a) ⟨ws,dd,hz,fun h' dd' hs=>?_⟩;have he:∃ q,h'.get? a=some q:=let ⟨q,_,_,hq,_⟩:=dd';⟨q,hq⟩;exact⟨.non,_,zvq I (by rw[hH];exact True.intro) hs he (yej (by simp) hd .nil dd'),rfl,q⟩
def yhp(x:D)(xs:List D):M D:=fun σ=>match x,xs with
 | .ref n,[]=>(match σ[n]? with
  |some (.dic _)=>.ok .non (σ.set n (.dic []))
  |_=>.bad)
 |_,_=>.bad
theorem znl:ykz T rClear yhp:=by
 intro E μ H σ x xs v vs Q r p q h;cases x with
 |ref n=>
  match xs with
  |[]=>
   unfold yhp at h;dsimp only at h;cases es:σ[n]? with
   |none=>rw[es]at h;exact h.elim
   |some ob=>
    rw[es]at h;cases ob with
    |dic kvs=>
     dsimp only at h;obtain⟨a,rfl,hn,h2⟩:=r.at p es;obtain⟨us,h3,h4⟩:=h2;rw[yqs]at q;subst q;have ex:Ext μ H μ (upd H a (.dK [])):=zk1 (List.mem_of_getElem? hn) h3 (fun _ z=>by cases z) (fun _ _ z=>by cases z);have wr:=r.write (o:=.dK []) (ob:=.dic []) hn ⟨[],upd_same,Paired.nil⟩;exact⟨a,us,rfl,rfl,h3,h μ .non _ wr.1 wr.2 (by rw[Rep])⟩
    |lst _=>exact h.elim
    |ins _ _=>exact h.elim
  |_::_=>exact h.elim
 |_=>cases xs<;>exact h.elim
theorem zk6{o:Expr}{f:Ev->M D}{name:Str}{id:String}{r:V->List V->Hp->VK->Prop}{g:D->List D->M D}{apos cpos:Pos}(pa:PlainAttrs "dict")(slot:Slot "dict" name id)(hty:typeOf (.builtin id)=pure (.type "method_descriptor"))(hm:MtR X id r)(hs:ykz T r g)(ho:FE T X o f)
  (hbase:attributeBase o name X.env (eval o X.env)=eval o X.env:=by rfl) (hline:(apos.endLine == cpos.line)=true:=by rfl):FE T X (.Call (.Attribute o name apos) [] [] cpos) (yeq g f yqy):=by
 intro pins s st H Q I h;refine yin pa slot hty hm ho hbase hline pins s st H Q I ?_;obtain⟨μ,ρ,σ,he,hr,hp⟩:=h;refine⟨μ,ρ,σ,he,hr,hp.bind fun x σ1 μ1 v H1 _ e1 r1 p1 q1=>?_⟩;unfold yhc at q1;cases el:yrj σ1 x with
 |none=>rw[el]at q1;exact q1.elim
 |some xs=>
  rw[el]at q1;obtain⟨a,vs,rfl,h1,h2⟩:=yje r1 p1 el;exact⟨.inr (.inr (.inl ⟨rfl,.inl ⟨vs,h1⟩⟩)),hs _ μ1 H1 σ1 x [] (.ref a) [] Q r1 p1 yqs.nil q1⟩
def ynz(ds:List D):M D:=fun σ=>match ds with
 |[x]=>(match yrj σ x with
  |some kvs=>.ok (.ref σ.length) (σ++[.dic kvs])
  |none=>.bad)
 |_=>.bad
theorem ztt:zuq T ytv ynz:=by
 intro E μ H σ ds vs Q r p h
 match ds with
 |[]=>exact h.elim
 |[x]=>
  unfold ynz at h;dsimp only at h;cases ed:yrj σ x with
  |none=>rw[ed]at h;exact h.elim
  |some kvs=>
   rw[ed]at h;rw[yqs]at p;obtain⟨v,r',rfl,q1,q2⟩:=p;rw[yqs]at q2;subst q2;obtain⟨a,ws,rfl,h1,h2⟩:=yje r q1 ed;refine⟨a,ws,rfl,h1,fun l hn=>?_⟩;exact h (μ++[l]) (.ref l) _ (zpd hn) (r.push hn ⟨ws,upd_same,Paired.mapP h2 fun _ _ z=>⟨z.1,Rep.mono (zpd hn) _ _ z.2⟩⟩) (zsw r)
 |_::_::_=>exact h.elim
end
end L4
set_option maxHeartbeats 0
namespace K14
open PySem PySem.Spec PyProof.Rows L2 L4
def top(i:Nat):Stmt:=PySem.Challenge.pw_sidebook_k14_deeds_in_the_book.main.body.getD i (.Pass ⟨0,0,0,0⟩)
structure Txt(K:PySem.W.Frag)(mg:Str->Option Value)(ca:Nat->Addr):Prop where
 f__law_cell_at:yks K mg "_law_cell_at" (top 52) ["_law_script", "_law_k"]
 f__law_mixed:yks K mg "_law_mixed" (top 53) ["_law_cell", "_law_k"]
 f_is_whole:yks K mg "is_whole" (top 8) ["thing"]
 f_is_between:yks K mg "is_between" (top 9) ["thing", "least", "most"]
 f_is_hand:yks K mg "is_hand" (top 11) ["thing"]
 f_makes_a_pot:yks K mg "makes_a_pot" (top 45) ["thing"]
 f_checked_pots:yks K mg "checked_pots" (top 46) ["pots"]
 f_Claim___init__:HasM K (ca 4) "__init__" "Claim.__init__" (yno (top 38) 0) ["self", "whole"] (ca 9)
 f_whole_of:yks K mg "whole_of" (top 47) ["made"]
 f_Book___init__:HasM K (ca 8) "__init__" "Book.__init__" (yno (top 50) 0) ["self", "pots"] (ca 22)
 f__law_struck:yks K mg "_law_struck" (top 56) ["_law_model", "_law_cell"]
 f__law_small_stand:yks K mg "_law_small_stand" (top 54) ["_law_cell", "_law_whole"]
 f__law_laid:yks K mg "_law_laid" (top 55) ["_law_model", "_law_cell"]
 f__law_deed:yks K mg "_law_deed" (top 57) ["_law_model", "_law_cell"]
 f_Book_next_day:HasM K (ca 8) "next_day" "Book.next_day" (yno (top 50) 3) ["self"] (ca 25)
 f_Book_check_pot:HasM K (ca 8) "check_pot" "Book.check_pot" (yno (top 50) 1) ["self", "pot"] (ca 23)
 f_is_word:yks K mg "is_word" (top 12) ["thing"]
 f_Book_show:HasM K (ca 8) "show" "Book.show" (yno (top 50) 4) ["self", "pot", "word"] (ca 26)
 f_is_side:yks K mg "is_side" (top 10) ["thing"]
 f_check_side:yks K mg "check_side" (top 49) ["side"]
 f_Held_may_strike:HasM K (ca 5) "may_strike" "Held.may_strike" (yno (top 39) 2) ["self", "pot", "side", "day", "thing"] (ca 12)
 f_other_side:yks K mg "other_side" (top 17) ["side"]
 f_Laid_waits:HasM K (ca 6) "waits" "Laid.waits" (yno (top 40) 2) ["self", "day"] (ca 15)
 f_is_number:yks K mg "is_number" (top 14) ["thing"]
 f_is_pot:yks K mg "is_pot" (top 16) ["thing"]
 f_is_of_a_side:yks K mg "is_of_a_side" (top 35) ["thing"]
 f_is_day:yks K mg "is_day" (top 13) ["thing"]
 f_is_amount:yks K mg "is_amount" (top 15) ["thing"]
 f_is_tie:yks K mg "is_tie" (top 26) ["thing"]
 f_are_ties:yks K mg "are_ties" (top 28) ["thing"]
 f_are_shares:yks K mg "are_shares" (top 27) ["thing"]
 f_is_stand:yks K mg "is_stand" (top 29) ["thing"]
 f_is_thing:yks K mg "is_thing" (top 36) ["thing"]
 f_Laid_may_strike:HasM K (ca 6) "may_strike" "Laid.may_strike" (yno (top 40) 4) ["self", "pot", "side", "day", "thing"] (ca 17)
 f_Taken_may_strike:HasM K (ca 7) "may_strike" "Taken.may_strike" (yno (top 41) 3) ["self", "pot", "side", "day", "thing"] (ca 21)
 f_Taken___init__:HasM K (ca 7) "__init__" "Taken.__init__" (yno (top 41) 0) ["self", "whole", "side"] (ca 18)
 f_Book_strike:HasM K (ca 8) "strike" "Book.strike" (yno (top 50) 7) ["self", "pot", "side", "thing"] (ca 29)
 f_deals:yks K mg "deals" (top 32) ["one"]
 f_is_stand_of:yks K mg "is_stand_of" (top 33) ["thing", "coin"]
 f_is_agreed:yks K mg "is_agreed" (top 48) ["pot", "side", "stand", "agreement"]
 f_stand:ydi K mg "stand" (top 30) ["number", "shares", "ties"] [.none]
 f_first:yks K mg "first" (top 31) ["left", "right"]
 f_Book_may_lie:HasM K (ca 8) "may_lie" "Book.may_lie" (yno (top 50) 5) ["self", "pot", "side", "stand", "agreement"] (ca 27)
 f_Laid___init__:HasM K (ca 6) "__init__" "Laid.__init__" (yno (top 40) 0) ["self", "whole", "side", "stand", "day", "wait"] (ca 13)
 f_Book_lay:HasMD K (ca 8) "lay" "Book.lay" (yno (top 50) 6) ["self", "pot", "side", "stand", "agreement"] [.none] (ca 28)
 f__law_done:yks K mg "_law_done" (top 60) ["_law_book", "_law_deed_here"]
 f__law_is_stand:yks K mg "_law_is_stand" (top 58) ["_law_one", "_law_whole"]
 f__law_due:yks K mg "_law_due" (top 59) ["_law_model", "_law_deed_here"]
 f_Book_today:HasM K (ca 8) "today" "Book.today" (yno (top 50) 2) ["self"] (ca 24)
 f_Held_told:HasM K (ca 5) "told" "Held.told" (yno (top 39) 0) ["self"] (ca 10)
 f_Laid_told:HasM K (ca 6) "told" "Laid.told" (yno (top 40) 1) ["self"] (ca 14)
 f_Taken_told:HasM K (ca 7) "told" "Taken.told" (yno (top 41) 1) ["self"] (ca 19)
 f_Book_told:HasM K (ca 8) "told" "Book.told" (yno (top 50) 8) ["self", "pot"] (ca 30)
 f_Book_shown_for:HasM K (ca 8) "shown_for" "Book.shown_for" (yno (top 50) 9) ["self", "pot"] (ca 31)
 f_Book_all_shown:HasM K (ca 8) "all_shown" "Book.all_shown" (yno (top 50) 13) ["self"] (ca 35)
 f__law_stands:yks K mg "_law_stands" (top 61) ["_law_book", "_law_model"]
 f_law:yks K mg "law" (top 62) ["_law_script"]
 n_all:mg "all" = none
 n_bool:mg "bool" = none
 n_dict:mg "dict" = none
 n_enumerate:mg "enumerate" = none
 n_int:mg "int" = none
 n_isinstance:mg "isinstance" = none
 n_len:mg "len" = none
 n_list:mg "list" = none
 n_min:mg "min" = none
 n_range:mg "range" = none
 n_set:mg "set" = none
 n_sorted:mg "sorted" = none
 n_str:mg "str" = none
 n_sum:mg "sum" = none
 n_tuple:mg "tuple" = none
 c_MOST_AMOUNT:∃ t,mg "MOST_AMOUNT" = some (.int 1000000000000 t)
 c_MOST_COIN:∃ t,mg "MOST_COIN" = some (.int 1000000000000 t)
 c_MOST_DAY:∃ t,mg "MOST_DAY" = some (.int 1000000 t)
 c_MOST_HAND:∃ t,mg "MOST_HAND" = some (.int 3 t)
 c_MOST_NUMBER:∃ t,mg "MOST_NUMBER" = some (.int 1000000 t)
 c_MOST_POT:∃ t,mg "MOST_POT" = some (.int 2 t)
 c_MOST_SHARE:∃ t,mg "MOST_SHARE" = some (.int 2000000000000 t)
 c_MOST_TIES:∃ t,mg "MOST_TIES" = some (.int 6 t)
 c_MOST_WAIT:∃ t,mg "MOST_WAIT" = some (.int 100 t)
 c_MOST_WORD:∃ t,mg "MOST_WORD" = some (.int 59 t)
 m_BookError:mg "BookError" = some (.ref (ca 0))
 x_BookError:PySem.W.excIn K (ca 0) veB "ValueError.__new__" = true
 m_NoStand:mg "NoStand" = some (.ref (ca 1))
 x_NoStand:PySem.W.excIn K (ca 1) veB "ValueError.__new__" = true
 m_NoDeed:mg "NoDeed" = some (.ref (ca 2))
 x_NoDeed:PySem.W.excIn K (ca 2) veB "ValueError.__new__" = true
 e_BookError_NoDeed:PySem.W.exmOne K (.ref (ca 0)) (.ref (ca 2))=some false
 e_BookError_NoStand:PySem.W.exmOne K (.ref (ca 0)) (.ref (ca 1))=some false
 e_NoDeed_NoDeed:PySem.W.exmOne K (.ref (ca 2)) (.ref (ca 2))=some true
 e_NoDeed_NoStand:PySem.W.exmOne K (.ref (ca 2)) (.ref (ca 1))=some false
 e_NoStand_NoDeed:PySem.W.exmOne K (.ref (ca 1)) (.ref (ca 2))=some false
 e_NoStand_NoStand:PySem.W.exmOne K (.ref (ca 1)) (.ref (ca 1))=some true
 xk_NoDeed:L4.ExK K (ca 2)
 xk_NoStand:L4.ExK K (ca 1)
 xk_BookError:L4.ExK K (ca 0)
 i_BookError_BookError:PySem.W.kitOne K (.ref (ca 0)) (.ref (ca 0))=some true
 i_BookError_NoDeed:PySem.W.kitOne K (.ref (ca 0)) (.ref (ca 2))=some false
 i_BookError_NoStand:PySem.W.kitOne K (.ref (ca 0)) (.ref (ca 1))=some false
 i_NoDeed_BookError:PySem.W.kitOne K (.ref (ca 2)) (.ref (ca 0))=some true
 i_NoDeed_NoDeed:PySem.W.kitOne K (.ref (ca 2)) (.ref (ca 2))=some true
 i_NoDeed_NoStand:PySem.W.kitOne K (.ref (ca 2)) (.ref (ca 1))=some false
 i_NoStand_BookError:PySem.W.kitOne K (.ref (ca 1)) (.ref (ca 0))=some true
 i_NoStand_NoDeed:PySem.W.kitOne K (.ref (ca 1)) (.ref (ca 2))=some false
 i_NoStand_NoStand:PySem.W.kitOne K (.ref (ca 1)) (.ref (ca 1))=some true
 cl_Book:L2.Cls K (ca 8)
 na_Book_pots:L2.ydj K (ca 8) "pots"
 na_Book_day:L2.ydj K (ca 8) "day"
 cl_Laid:L2.Cls K (ca 6)
 na_Laid_day:L2.ydj K (ca 6) "day"
 cl_Taken:L2.Cls K (ca 7)
 na_Taken_whole:L2.ydj K (ca 7) "whole"
 na_Laid_whole:L2.ydj K (ca 6) "whole"
 cl_Held:L2.Cls K (ca 5)
 na_Held_whole:L2.ydj K (ca 5) "whole"
 cl_Claim:L2.Cls K (ca 4)
 na_Claim_whole:L2.ydj K (ca 4) "whole"
 m_Held:mg "Held" = some (.ref (ca 5))
 mk_Held:L2.Mk K (ca 5) (ca 9)
 na_Book_claims:L2.ydj K (ca 8) "claims"
 na_Book_shown:L2.ydj K (ca 8) "shown"
 m_Book:mg "Book" = some (.ref (ca 8))
 mk_Book:L2.Mk K (ca 8) (ca 22)
 me_Book_next_day:L2.Meth K (ca 8) "next_day" (ca 25)
 me_Book_check_pot:L2.Meth K (ca 8) "check_pot" (ca 23)
 me_Book_show:L2.Meth K (ca 8) "show" (ca 26)
 na_Taken_side:L2.ydj K (ca 7) "side"
 na_Laid_side:L2.ydj K (ca 6) "side"
 na_Laid_wait:L2.ydj K (ca 6) "wait"
 me_Laid_waits:L2.Meth K (ca 6) "waits" (ca 15)
 na_Laid_stand:L2.ydj K (ca 6) "stand"
 me_Taken_may_strike:L2.Meth K (ca 7) "may_strike" (ca 21)
 me_Laid_may_strike:L2.Meth K (ca 6) "may_strike" (ca 17)
 me_Held_may_strike:L2.Meth K (ca 5) "may_strike" (ca 12)
 m_Claim:mg "Claim" = some (.ref (ca 4))
 us_Claim___init__:PySem.W.specialIn K (.ref (ca 4)) (Str.ofString "__getattribute__")=some (some (.builtin "type.__getattribute__"))
 ur_Claim___init__:PySem.W.readsIn K (ca 4) (.type "type")=true
 uf_Claim___init__:PySem.W.findCls K (.ref (ca 4)) (.type "type") "__init__" = some (.val (.ref (ca 9)))
 uk_Claim___init__:PySem.W.keepIn K (.ref (ca 9))=true
 m_Taken:mg "Taken" = some (.ref (ca 7))
 mk_Taken:L2.Mk K (ca 7) (ca 18)
 me_Book_strike:L2.Meth K (ca 8) "strike" (ca 29)
 ik_Book:L4.InK K (ca 8)
 io_Book_Held:PySem.W.kitOne K (.ref (ca 8)) (.ref (ca 5))=some false
 ik_Taken:L4.InK K (ca 7)
 io_Taken_Held:PySem.W.kitOne K (.ref (ca 7)) (.ref (ca 5))=some false
 ik_Laid:L4.InK K (ca 6)
 io_Laid_Held:PySem.W.kitOne K (.ref (ca 6)) (.ref (ca 5))=some false
 ik_Held:L4.InK K (ca 5)
 io_Held_Held:PySem.W.kitOne K (.ref (ca 5)) (.ref (ca 5))=some true
 me_Book_may_lie:L2.Meth K (ca 8) "may_lie" (ca 27)
 m_Laid:mg "Laid" = some (.ref (ca 6))
 mk_Laid:L2.Mk K (ca 6) (ca 13)
 me_Book_lay:L2.Meth K (ca 8) "lay" (ca 28)
 me_Book_today:L2.Meth K (ca 8) "today" (ca 24)
 me_Taken_told:L2.Meth K (ca 7) "told" (ca 19)
 me_Laid_told:L2.Meth K (ca 6) "told" (ca 14)
 me_Held_told:L2.Meth K (ca 5) "told" (ca 10)
 me_Book_told:L2.Meth K (ca 8) "told" (ca 30)
 me_Book_shown_for:L2.Meth K (ca 8) "shown_for" (ca 31)
 me_Book_all_shown:L2.Meth K (ca 8) "all_shown" (ca 35)
section
variable{P:Program}{w:World}{K:PySem.W.Frag}{mg:Str->Option Value}{base:Heap}{ca:Nat->Addr}
theorem scD{N P:List Str}{sc:Scope}(a:sc.kind=.function)(b:sc.isCoroutine=false)(c:sc.isGenerator=false)(h:N.Nodup/\N.take P.length=P/\(∀ x∈P,sc.names.lookup x=some .local\/sc.names.lookup x=some .cell)/\∀ y∈sc.names,y.2≠.free):FnScope N P sc:=⟨a,b,c,h.1,h.2.1,h.2.2.1,h.2.2.2⟩
abbrev BD(x q:Str)(s:Stmt)(ps:List Str):Prop:=∀ (kV doc pm:Value) (an:Option Addr) (cdv ct:Value) (us:List Value),us.length=ps.length->bindArgs (PySem.W.fnOf x q (zvu s) (zvv s) (zot s) .none kV doc pm an cdv ct) ⟨us,[]⟩=pure (ps.zip us)
abbrev zcx:Stmt:=top 52
noncomputable def zcn:Ev->M Fl:=
 (yup (sIf (eT (yrl oLt (yrr 1) (ylv ys5 (yk5 (yrr 0) yqy)))) (yuo (yrl oIx (yrr 0) (yrr 1))) yum)
 (yuo (eC (.int 0))))
noncomputable def f__law_cell_at:List D->M D:=hide fun ds=>frz (run 2 zcn ds)
theorem zce:FnScope ["_law_script", "_law_k"] ["_law_script", "_law_k"] (zot zcx):=scD rfl rfl rfl (by decide +kernel)
theorem zbx:BD "_law_cell_at" "_law_cell_at" zcx ["_law_script", "_law_k"]:=
 fun _ _ _ _ _ _ us hl=>match us,hl with|[_,_],_=>rfl
theorem zb6(Xt:Txt K mg ca):OkF ⟨K,ca⟩ P w mg base 1 "_law_cell_at" ["_law_script", "_law_k"] f__law_cell_at:=
 OkF.hide (OkF.frz (yn6 Xt.f__law_cell_at zce fun _ _ _ _ _ _ _ hr=>
  (zp2 (ymj (yf1 yob yjx (yfm 1) (zpe zeh (ycg rfl) rfl Xt.n_len PySem.boot_len (zwm (yfm 0) ye6)) (yhm _)) (zxe (yfy (yl5 yr9 (yjv rfl) (yfm 0) (yfm 1) (fun _ _=>rfl)))) zxd)
  (zxe (yfy yfb)))))
abbrev zfb:Stmt:=top 53
noncomputable def zep:Ev->M Fl:=
 (yup (sIf (eT (yrl oEq (yrl ys7 (yrr 0) (eC (.int 2))) (eC (.int 0)))) (yuo (yrl ynx (yrl yte (yrl ysx (yrr 0) (eC (.int 2))) (yrl ys8 (eC (.int 41)) (yrr 1))) (eC (.int 2199023255551)))) yum)
 (yup (yuq 2 (yrl ys7 (yrl ys8 (yrl yst (yrl yst (yrl ys7 (yrr 0) (eC (.int 2147483647))) (yrl ys8 (eC (.int 7919)) (yrr 1))) (eC (.int 1))) (eC (.int 48271))) (eC (.int 2147483647))))
 (yup (yuq 2 (yrl ys7 (yrl ys8 (yrr 2) (yrl yst (yrl ysx (yrr 2) (eC (.int 1009))) (eC (.int 69621)))) (eC (.int 2147483647))))
 (yuo (yrl ys7 (yrl ys8 (yrr 2) (yrl yst (yrl yst (yrl ysx (yrr 2) (eC (.int 4099))) (eC (.int 16807))) (yrr 1))) (eC (.int 2147483629)))))))
noncomputable def f__law_mixed:List D->M D:=hide fun ds=>frz (run 3 zep ds)
theorem zdz:FnScope ["_law_cell", "_law_k", "_law_number"] ["_law_cell", "_law_k"] (zot zfb):=scD rfl rfl rfl (by decide +kernel)
theorem zc8:BD "_law_mixed" "_law_mixed" zfb ["_law_cell", "_law_k"]:=
 fun _ _ _ _ _ _ us hl=>match us,hl with|[_,_],_=>rfl
theorem zdm(Xt:Txt K mg ca):OkF ⟨K,ca⟩ P w mg base 1 "_law_mixed" ["_law_cell", "_law_k"] f__law_mixed:=
 OkF.hide (OkF.frz (yn6 Xt.f__law_mixed zdz fun _ _ _ _ _ _ _ hr=>
  (zp2 (ymj (yf1 (yib (hu9 hr)) yuy (yl8 yie yci (yfm 0) yfb) yfb (yhm _)) (zxe (yfy (yl8 yh9 zts (yl8 yij ycm (yl8 yac ycc (yfm 0) yfb) (yl8 yif ycj yfb (yfm 1))) yfb))) zxd)
  (zp2 (yfz (i:=2) zdz.nd rfl (Or.inl rfl) (yl8 yie yci (yl8 yif ycj (yl8 (yaa rfl) yuy (yl8 (yaa rfl) yuy (yl8 yie yci (yfm 0) yfb) (yl8 yif ycj yfb (yfm 1))) yfb) yfb) yfb))
  (zp2 (yfz (i:=2) zdz.nd rfl (Or.inl rfl) (yl8 yie yci (yl8 yif ycj (yfm 2) (yl8 (yaa rfl) yuy (yl8 yac ycc (yfm 2) yfb) yfb)) yfb))
  (zxe (yfy (yl8 yie yci (yl8 yif ycj (yfm 2) (yl8 (yaa rfl) yuy (yl8 (yaa rfl) yuy (yl8 yac ycc (yfm 2) yfb) yfb) (yfm 1))) yfb))))))))
abbrev zja:Stmt:=top 8
noncomputable def zh7:Ev->M Fl:=
 (yuo (yrk (eUn (ys0 .int) (yrr 0)) (yrp (eUn (ys0 .bool) (yrr 0)))))
noncomputable def f_is_whole:List D->M D:=hide fun ds=>frz (run 1 zh7 ds)
theorem zhf:FnScope ["thing"] ["thing"] (zot zja):=scD rfl rfl rfl (by decide +kernel)
theorem zfx:BD "is_whole" "is_whole" zja ["thing"]:=
 fun _ _ _ _ _ _ us hl=>match us,hl with|[_],_=>rfl
theorem zgu(Xt:Txt K mg ca):OkF ⟨K,ca⟩ P w mg base 1 "is_whole" ["thing"] f_is_whole:=
 OkF.hide (OkF.frz (yn6 Xt.f_is_whole zhf fun _ _ _ _ _ _ _ hr=>
  (zxe (yfy (ye7 (yfc .int (yfm 0) rfl Xt.n_isinstance rfl Xt.n_int boot_int) (yfj (yfi (yfc .bool (yfm 0) rfl Xt.n_isinstance rfl Xt.n_bool boot_bool))))))))
abbrev zfe:Stmt:=top 9
noncomputable def zes:Ev->M Fl:=
 (yuo (yrk (eFn 1 f_is_whole [] (yk5 (yrr 0) yqy)) (yem oLe oLe (yrr 1) (yrr 0) (yrr 2))))
noncomputable def f_is_between:List D->M D:=hide fun ds=>frz (run 3 zes ds)
theorem zd2:FnScope ["thing", "least", "most"] ["thing", "least", "most"] (zot zfe):=scD rfl rfl rfl (by decide +kernel)
theorem zdb:BD "is_between" "is_between" zfe ["thing", "least", "most"]:=
 fun _ _ _ _ _ _ us hl=>match us,hl with|[_,_,_],_=>rfl
theorem zdp(Xt:Txt K mg ca):OkF ⟨K,ca⟩ P w mg base 2 "is_between" ["thing", "least", "most"] f_is_between:=
 OkF.hide (OkF.frz (yn6 Xt.f_is_between zd2 fun _ _ _ _ _ _ _ hr=>
  (zxe (yfy (ye7 (zpf (zgu Xt) rfl (hr.mono (by decide)) rfl (zwm (yfm 0) ye6)) (yfj (zpg yoa yjw yoa yjw (yfm 1) (yfm 0) (yfm 2))))))))
abbrev zm2:Stmt:=top 11
noncomputable def zld:Ev->M Fl:=
 (yuo (eFn 3 f_is_between [] (yk5 (yrr 0) (yk5 (eC (.int 0)) (yk5 (eC (.int 3)) yqy)))))
noncomputable def f_is_hand:List D->M D:=hide fun ds=>frz (run 1 zld ds)
theorem zjc:FnScope ["thing"] ["thing"] (zot zm2):=scD rfl rfl rfl (by decide +kernel)
theorem zho:BD "is_hand" "is_hand" zm2 ["thing"]:=
 fun _ _ _ _ _ _ us hl=>match us,hl with|[_],_=>rfl
theorem ziu(Xt:Txt K mg ca):OkF ⟨K,ca⟩ P w mg base 3 "is_hand" ["thing"] f_is_hand:=
 OkF.hide (OkF.frz (yn6 Xt.f_is_hand zjc fun _ _ _ _ _ _ _ hr=>
  (zxe (yfy (zpf (zdp Xt) rfl (hr.mono (by decide)) rfl (zwm (yfm 0) (zwm yfb (zwm (zpi (u:=.int 3 (Xt.c_MOST_HAND).choose) rfl (Xt.c_MOST_HAND).choose_spec ⟨_,rfl⟩) ye6))))))))
abbrev zdv:Stmt:=top 45
noncomputable def zdh:Ev->M Fl:=
 (yuo (yrk (eUn (ys0 .tuple) (yrr 0)) (yrk (yrl oEq (ylv ys5 (yk5 (yrr 0) yqy)) (eC (.int 5))) (yrk (eFn 1 f_is_hand [] (yk5 (yrl oIx (yrr 0) (eC (.int 0))) yqy)) (yrk (eFn 1 f_is_hand [] (yk5 (yrl oIx (yrr 0) (eC (.int 1))) yqy)) (yrk (yrl oNe (yrl oIx (yrr 0) (eC (.int 0))) (yrl oIx (yrr 0) (eC (.int 1)))) (yrk (eFn 3 f_is_between [] (yk5 (yrl oIx (yrr 0) (eC (.int 2))) (yk5 (eC (.int 0)) (yk5 (eC (.int 1000000000000)) yqy)))) (yrk (eFn 3 f_is_between [] (yk5 (yrl oIx (yrr 0) (eC (.int 3))) (yk5 (eC (.int 0)) (yk5 (eC (.int 1000000000000)) yqy)))) (eFn 3 f_is_between [] (yk5 (yrl oIx (yrr 0) (eC (.int 4))) (yk5 (eC (.int 1)) (yk5 (eC (.int 100)) yqy))))))))))))
noncomputable def f_makes_a_pot:List D->M D:=hide fun ds=>frz (run 1 zdh ds)
theorem zc4:FnScope ["thing"] ["thing"] (zot zdv):=scD rfl rfl rfl (by decide +kernel)
theorem zcl:BD "makes_a_pot" "makes_a_pot" zdv ["thing"]:=
 fun _ _ _ _ _ _ us hl=>match us,hl with|[_],_=>rfl
theorem zcu(Xt:Txt K mg ca):OkF ⟨K,ca⟩ P w mg base 4 "makes_a_pot" ["thing"] f_makes_a_pot:=
 OkF.hide (OkF.frz (yn6 Xt.f_makes_a_pot zc4 fun _ _ _ _ _ _ _ hr=>
  (zxe (yfy (ye7 (yfc .tuple (yfm 0) rfl Xt.n_isinstance rfl Xt.n_tuple boot_tuple) (ye7 (ye8 (yib (hu9 hr)) yuy (zpe zeh (ycg rfl) rfl Xt.n_len PySem.boot_len (zwm (yfm 0) ye6)) yfb (yhm _)) (ye7 (zpf (ziu Xt) rfl (hr.mono (by decide)) rfl (zwm (yl5 yr9 (yjv rfl) (yfm 0) yfb (fun _ _=>rfl)) ye6)) (ye7 (zpf (ziu Xt) rfl (hr.mono (by decide)) rfl (zwm (yl5 yr9 (yjv rfl) (yfm 0) yfb (fun _ _=>rfl)) ye6)) (ye7 (ye8 (yig (hu9 hr)) yuy (yl5 yr9 (yjv rfl) (yfm 0) yfb (fun _ _=>rfl)) (yl5 yr9 (yjv rfl) (yfm 0) yfb (fun _ _=>rfl)) (yhm _)) (ye7 (zpf (zdp Xt) rfl (hr.mono (by decide)) rfl (zwm (yl5 yr9 (yjv rfl) (yfm 0) yfb (fun _ _=>rfl)) (zwm yfb (zwm (zpi (u:=.int 1000000000000 (Xt.c_MOST_COIN).choose) rfl (Xt.c_MOST_COIN).choose_spec ⟨_,rfl⟩) ye6)))) (ye7 (zpf (zdp Xt) rfl (hr.mono (by decide)) rfl (zwm (yl5 yr9 (yjv rfl) (yfm 0) yfb (fun _ _=>rfl)) (zwm yfb (zwm (zpi (u:=.int 1000000000000 (Xt.c_MOST_COIN).choose) rfl (Xt.c_MOST_COIN).choose_spec ⟨_,rfl⟩) ye6)))) (yfj (zpf (zdp Xt) rfl (hr.mono (by decide)) rfl (zwm (yl5 yr9 (yjv rfl) (yfm 0) yfb (fun _ _=>rfl)) (zwm yfb (zwm (zpi (u:=.int 100 (Xt.c_MOST_WAIT).choose) rfl (Xt.c_MOST_WAIT).choose_spec ⟨_,rfl⟩) ye6))))))))))))))))
abbrev zcy:Stmt:=top 46
noncomputable def zco:Ev->M Fl:=
 (yup (yo0 (yuz (yrr 0)) (tgT 2 (yj7 (tgN 1) (yj7 (tgN 2) ypt))) (sIf (bOr (eT (yrl oGt (yrr 1) (eC (.int 2)))) (yq4 (eT (eFn 1 f_makes_a_pot [] (yk5 (yrr 2) yqy))))) yui yum))
 (yuo (yrm (ylv yn1 (yk5 (yrr 0) yqy)))))
noncomputable def f_checked_pots:List D->M D:=hide fun ds=>frz (run 3 zco ds)
theorem zcf:FnScope ["pots", "number", "made"] ["pots"] (zot zcy):=scD rfl rfl rfl (by decide +kernel)
theorem zby:BD "checked_pots" "checked_pots" zcy ["pots"]:=
 fun _ _ _ _ _ _ us hl=>match us,hl with|[_],_=>rfl
theorem zb7(Xt:Txt K mg ca):OkF ⟨K,ca⟩ P w mg base 5 "checked_pots" ["pots"] f_checked_pots:=
 OkF.hide (OkF.frz (yn6 Xt.f_checked_pots zcf fun _ _ _ _ _ _ _ hr=>
  (zp2 (zxa zmp rfl (zwx rfl Xt.n_enumerate (yfm 0)) (yfn rfl (zpo (zwv (i:=1) zcf.nd rfl (Or.inl rfl)) (zpo (zwv (i:=2) zcf.nd rfl (Or.inl rfl)) zww))) (zxe (ymj (L2.PW.pt (ymk (yf1 yn9 yjt (yfm 1) (zpi (u:=.int 2 (Xt.c_MOST_POT).choose) rfl (Xt.c_MOST_POT).choose_spec ⟨_,rfl⟩) (yhm _)) (yf6 (yf2 (yf3 (zpf (zcu Xt) rfl (hr.mono (by decide)) rfl (zwm (yfm 2) ye6))))))) (zxe yfv) zxd)))
  (zxe (yfy (yfa (zk4 zei (ztu rfl) rfl Xt.n_list boot_list (zwm (yfm 0) ye6))))))))
abbrev zbp:Stmt:=yno (top 38) 0
noncomputable def zbg:Ev->M Fl:=
 (yun [4,5,6,7] "whole" (yrr 1) (yrr 0))
noncomputable def f_Claim___init__:List D->M D:=hide (run 2 zbg)
theorem za7:FnScope ["self", "whole"] ["self", "whole"] (zot zbp):=scD rfl rfl rfl (by decide +kernel)
theorem zat:BD "__init__" "Claim.__init__" zbp ["self", "whole"]:=
 fun _ _ _ _ _ _ us hl=>match us,hl with|[_,_],_=>rfl
theorem za0(Xt:Txt K mg ca):OkA ⟨K,ca⟩ P w mg base 1 (ca 9) ["self", "whole"] f_Claim___init__:=
 OkA.hide (yhz Xt.f_Claim___init__ za7 fun _ _ _ _ _ _ hr=>
  (zxe (yfw rfl (zpu (T:=⟨K,ca⟩) (c:=4) Xt.cl_Claim Xt.na_Claim_whole (zpu (T:=⟨K,ca⟩) (c:=5) Xt.cl_Held Xt.na_Held_whole (zpu (T:=⟨K,ca⟩) (c:=6) Xt.cl_Laid Xt.na_Laid_whole (zpu (T:=⟨K,ca⟩) (c:=7) Xt.cl_Taken Xt.na_Taken_whole zwz)))) (yfm 0) (yfm 1))))
abbrev zjb:Stmt:=top 47
noncomputable def zh8:Ev->M Fl:=
 (yuo (yrl yst (yrl oIx (yrr 0) (eC (.int 2))) (yrl oIx (yrr 0) (eC (.int 3)))))
noncomputable def f_whole_of:List D->M D:=hide fun ds=>frz (run 1 zh8 ds)
theorem zhh:FnScope ["made"] ["made"] (zot zjb):=scD rfl rfl rfl (by decide +kernel)
theorem zfy:BD "whole_of" "whole_of" zjb ["made"]:=
 fun _ _ _ _ _ _ us hl=>match us,hl with|[_],_=>rfl
theorem zgv(Xt:Txt K mg ca):OkF ⟨K,ca⟩ P w mg base 1 "whole_of" ["made"] f_whole_of:=
 OkF.hide (OkF.frz (yn6 Xt.f_whole_of zhh fun _ _ _ _ _ _ _ hr=>
  (zxe (yfy (yl8 (yaa rfl) yuy (yl5 yr9 (yjv rfl) (yfm 0) yfb (fun _ _=>rfl)) (yl5 yr9 (yjv rfl) (yfm 0) yfb (fun _ _=>rfl)))))))
abbrev zb9:Stmt:=yno (top 50) 0
noncomputable def zb0:Ev->M Fl:=
 (yup (yun [8] "pots" (eFn 1 f_checked_pots [] (yk5 (yrr 1) yqy)) (yrr 0))
 (yup (yun [6,8] "day" (eC (.int 0)) (yrr 0))
 (yup (yun [8] "claims" (eLC (yu1 (eUn (ysz [8] "pots") (yrr 0))) [] (tgN 0) yle (yrm (yly 5 2 f_Claim___init__ (yk5 (eFn 1 f_whole_of [] (yk5 (yrr 0) yqy)) yqy)))) (yrr 0))
 (yun [8] "shown" (eLC (yu1 (eUn (ysz [8] "pots") (yrr 0))) [] (tgN 0) yle ylx) (yrr 0)))))
noncomputable def f_Book___init__:List D->M D:=hide (run 2 zb0)
theorem zbr:FnScope ["self", "pots"] ["self", "pots"] (zot zb9):=scD rfl rfl rfl (by decide +kernel)
theorem za9:BD "__init__" "Book.__init__" zb9 ["self", "pots"]:=
 fun _ _ _ _ _ _ us hl=>match us,hl with|[_,_],_=>rfl
theorem zbi(Xt:Txt K mg ca):OkA ⟨K,ca⟩ P w mg base 6 (ca 22) ["self", "pots"] f_Book___init__:=
 OkA.hide (yhz Xt.f_Book___init__ zbr fun _ _ _ _ _ _ hr=>
  (zp2 (yfw rfl (zpu (T:=⟨K,ca⟩) (c:=8) Xt.cl_Book Xt.na_Book_pots zwz) (yfm 0) (zpf (zb7 Xt) rfl (hr.mono (by decide)) rfl (zwm (yfm 1) ye6)))
  (zp2 (yfw rfl (zpu (T:=⟨K,ca⟩) (c:=6) Xt.cl_Laid Xt.na_Laid_day (zpu (T:=⟨K,ca⟩) (c:=8) Xt.cl_Book Xt.na_Book_day zwz)) (yfm 0) yfb)
  (zp2 (yfw rfl (zpu (T:=⟨K,ca⟩) (c:=8) Xt.cl_Book Xt.na_Book_claims zwz) (yfm 0) (yl6 (x:="made") (M':=[]) (ix:=[]) rfl ⟨rfl,rfl,rfl,rfl,rfl,rfl⟩ (yfo rfl (ye9 rfl (zpu (T:=⟨K,ca⟩) (c:=8) Xt.cl_Book Xt.na_Book_pots zwz) (yfm 0))) (fun _ _ _ _ _=>zwv (i:=0) (by show List.Nodup (("made"::[]):List Str);decide +kernel) rfl (Or.inl rfl)) (fun _ _ _ _ _=>zwy) (fun _ _ _ _ _=>(yfa (zwr (c:=5) (ps:=["self", "whole"]) ⟨_,Xt.m_Held,Xt.mk_Held,za0 Xt⟩ rfl (hr.mono (by decide)) rfl (zwm (zpf (zgv Xt) rfl (hr.mono (by decide)) rfl (zwm (yfm 0) ye6)) ye6))))))
  (zxe (yfw rfl (zpu (T:=⟨K,ca⟩) (c:=8) Xt.cl_Book Xt.na_Book_shown zwz) (yfm 0) (yl6 (x:="made") (M':=[]) (ix:=[]) rfl ⟨rfl,rfl,rfl,rfl,rfl,rfl⟩ (yfo rfl (ye9 rfl (zpu (T:=⟨K,ca⟩) (c:=8) Xt.cl_Book Xt.na_Book_pots zwz) (yfm 0))) (fun _ _ _ _ _=>zwv (i:=0) (by show List.Nodup (("made"::[]):List Str);decide +kernel) rfl (Or.inl rfl)) (fun _ _ _ _ _=>zwy) (fun _ _ _ _ _=>zwq))))))))
abbrev zdt:Stmt:=top 56
noncomputable def zdf:Ev->M Fl:=
 (yup (yuq 2 (yrl ys7 (yrl ysx (yrr 1) (eC (.int 5))) (ylv ys5 (yk5 (yrl yny (yrr 0) (eC (.str "pots"))) yqy))))
 (yup (yuq 3 (yrl oIx (yrl yny (yrr 0) (eC (.str "claims"))) (yrr 2)))
 (yup (yuq 4 (yrl ys7 (yrl ysx (yrr 1) (eC (.int 15))) (eC (.int 2))))
 (yup (yuq 5 (eC (.int 0)))
 (yup (sIf (eT (yrl oEq (yrl oIx (yrr 3) (eC (.int 0))) (eC (.str "laid")))) (yup (yuq 4 (yrl oIx (eLv (yk5 (yrl ytf (eC (.int 1)) (yrl oIx (yrr 3) (eC (.int 1)))) (yk5 (yrl ytf (eC (.int 1)) (yrl oIx (yrr 3) (eC (.int 1)))) (yk5 (yrl ytf (eC (.int 1)) (yrl oIx (yrr 3) (eC (.int 1)))) (yk5 (yrl oIx (yrr 3) (eC (.int 1))) yqy))))) (yrl ys7 (yrl ysx (yrr 1) (eC (.int 15))) (eC (.int 4)))))
 (yuq 5 (yrl oIx (yrl oIx (yrr 3) (eC (.int 2))) (eC (.int 0))))) yum)
 (yup (yuq 6 (yrq (yk5 (eC (.str "strike")) (yk5 (yrr 2) (yk5 (yrl ytf (eC (.int 1)) (yrr 4)) (yk5 (yrr 5) yqy))))))
 (yup (yuq 7 (eLv (yk5 (yrr 6) (yk5 (yrr 6) (yk5 (yrr 6) (yk5 (yrq (yk5 (eC (.str "strike")) (yk5 (yrr 2) (yk5 (yrr 4) (yk5 (yrr 5) yqy))))) (yk5 (yrq (yk5 (eC (.str "strike")) (yk5 (yrr 2) (yk5 (yrl ytf (eC (.int 1)) (yrr 4)) (yk5 (yrl yst (yrr 5) (eC (.int 1))) yqy))))) yqy)))))))
 (yup (yuq 7 (yrl yst (yrr 7) (eLv (yk5 (eC .non) (yk5 (yrq (yk5 (eC (.str "word")) (yk5 (eC (.int 3)) yqy))) yqy)))))
 (yup (yuq 2 (yrl oIx (eLv (yk5 (yrr 2) (yk5 (yrr 2) (yk5 (yrr 2) (yk5 (ylv ys5 (yk5 (yrl yny (yrr 0) (eC (.str "pots"))) yqy)) (yk5 (eUn yta (eC (.int 1))) (yk5 (eC (.int 7)) yqy))))))) (yrl ys8 (yrl ys7 (yrl ys7 (yrl ysx (yrr 1) (eC (.int 7))) (eC (.int 31))) (eC (.int 6))) (yrl ysx (yrl ys7 (yrl ysx (yrr 1) (eC (.int 11))) (eC (.int 5))) (eC (.int 4))))))
 (yup (yuq 4 (yrl oIx (eLv (yk5 (yrr 4) (yk5 (yrr 4) (yk5 (eC (.int 2)) (yk5 (eUn yta (eC (.int 1))) yqy))))) (yrl ys8 (yrl ys7 (yrl ys7 (yrl ysx (yrr 1) (eC (.int 13))) (eC (.int 29))) (eC (.int 4))) (yrl ysx (yrl ys7 (yrl ysx (yrr 1) (eC (.int 17))) (eC (.int 5))) (eC (.int 4))))))
 (yuo (yrq (yk5 (eC (.str "strike")) (yk5 (yrr 2) (yk5 (yrr 4) (yk5 (yrl oIx (yrr 7) (yrl ys7 (yrl ysx (yrr 1) (eC (.int 60))) (eC (.int 7)))) yqy))))))))))))))))
noncomputable def f__law_struck:List D->M D:=hide fun ds=>frz (run 8 zdf ds)
theorem zc2:FnScope ["_law_model", "_law_cell", "_law_pot", "_law_claim", "_law_side", "_law_number", "_law_right", "_law_some"] ["_law_model", "_law_cell"] (zot zdt):=scD rfl rfl rfl (by decide +kernel)
theorem zcj:BD "_law_struck" "_law_struck" zdt ["_law_model", "_law_cell"]:=
 fun _ _ _ _ _ _ us hl=>match us,hl with|[_,_],_=>rfl
theorem zcs(Xt:Txt K mg ca):OkF ⟨K,ca⟩ P w mg base 1 "_law_struck" ["_law_model", "_law_cell"] f__law_struck:=
 OkF.hide (OkF.frz (yn6 Xt.f__law_struck zc2 fun _ _ _ _ _ _ _ hr=>
  (zp2 (yfz (i:=2) zc2.nd rfl (Or.inl rfl) (yl8 yie yci (yl8 yac ycc (yfm 1) yfb) (zpe zeh (ycg rfl) rfl Xt.n_len PySem.boot_len (zwm (zwo (hu9 hr) (yfm 0) yfk (fun _ _=>rfl)) ye6))))
  (zp2 (yfz (i:=3) zc2.nd rfl (Or.inl rfl) (yl5 yr9 (yjv rfl) (zwo (hu9 hr) (yfm 0) yfk (fun _ _=>rfl)) (yfm 2) (fun _ _=>rfl)))
  (zp2 (yfz (i:=4) zc2.nd rfl (Or.inl rfl) (yl8 yie yci (yl8 yac ycc (yfm 1) yfb) yfb))
  (zp2 (yfz (i:=5) zc2.nd rfl (Or.inl rfl) yfb)
  (zp2 (ymj (yf1 (yib (hu9 hr)) yuy (yl5 yr9 (yjv rfl) (yfm 3) yfb (fun _ _=>rfl)) yfk (yhm _)) (zp2 (yfz (i:=4) zc2.nd rfl (Or.inl rfl) (yl5 yr9 (yjv rfl) (yl7 (zwm (yl8 yik yco yfb (yl5 yr9 (yjv rfl) (yfm 3) yfb (fun _ _=>rfl))) (zwm (yl8 yik yco yfb (yl5 yr9 (yjv rfl) (yfm 3) yfb (fun _ _=>rfl))) (zwm (yl8 yik yco yfb (yl5 yr9 (yjv rfl) (yfm 3) yfb (fun _ _=>rfl))) (zwm (yl5 yr9 (yjv rfl) (yfm 3) yfb (fun _ _=>rfl)) ye6))))) (yl8 yie yci (yl8 yac ycc (yfm 1) yfb) yfb) (fun _ _=>rfl)))
  (zxe (yfz (i:=5) zc2.nd rfl (Or.inl rfl) (yl5 yr9 (yjv rfl) (yl5 yr9 (yjv rfl) (yfm 3) yfb (fun _ _=>rfl)) yfb (fun _ _=>rfl))))) zxd)
  (zp2 (yfz (i:=6) zc2.nd rfl (Or.inl rfl) (yfl (zwm yfk (zwm (yfm 2) (zwm (yl8 yik yco yfb (yfm 4)) (zwm (yfm 5) ye6))))))
  (zp2 (yfz (i:=7) zc2.nd rfl (Or.inl rfl) (yl7 (zwm (yfm 6) (zwm (yfm 6) (zwm (yfm 6) (zwm (yfl (zwm yfk (zwm (yfm 2) (zwm (yfm 4) (zwm (yfm 5) ye6))))) (zwm (yfl (zwm yfk (zwm (yfm 2) (zwm (yl8 yik yco yfb (yfm 4)) (zwm (yl8 (yaa rfl) yuy (yfm 5) yfb) ye6))))) ye6)))))))
  (zp2 (yfz (i:=7) zc2.nd rfl (Or.inl rfl) (yl8 (yaa rfl) yuy (yfm 7) (yl7 (zwm yfh (zwm (yfl (zwm yfk (zwm yfb ye6))) ye6)))))
  (zp2 (yfz (i:=2) zc2.nd rfl (Or.inl rfl) (yl5 yr9 (yjv rfl) (yl7 (zwm (yfm 2) (zwm (yfm 2) (zwm (yfm 2) (zwm (zpe zeh (ycg rfl) rfl Xt.n_len PySem.boot_len (zwm (zwo (hu9 hr) (yfm 0) yfk (fun _ _=>rfl)) ye6)) (zwm (yma ykk ycl yfb) (zwm yfb ye6))))))) (yl8 yif ycj (yl8 yie yci (yl8 yie yci (yl8 yac ycc (yfm 1) yfb) yfb) yfb) (yl8 yac ycc (yl8 yie yci (yl8 yac ycc (yfm 1) yfb) yfb) yfb)) (fun _ _=>rfl)))
  (zp2 (yfz (i:=4) zc2.nd rfl (Or.inl rfl) (yl5 yr9 (yjv rfl) (yl7 (zwm (yfm 4) (zwm (yfm 4) (zwm yfb (zwm (yma ykk ycl yfb) ye6))))) (yl8 yif ycj (yl8 yie yci (yl8 yie yci (yl8 yac ycc (yfm 1) yfb) yfb) yfb) (yl8 yac ycc (yl8 yie yci (yl8 yac ycc (yfm 1) yfb) yfb) yfb)) (fun _ _=>rfl)))
  (zxe (yfy (yfl (zwm yfk (zwm (yfm 2) (zwm (yfm 4) (zwm (yl5 yr9 (yjv rfl) (yfm 7) (yl8 yie yci (yl8 yac ycc (yfm 1) yfb) yfb) (fun _ _=>rfl)) ye6)))))))))))))))))))
abbrev zan:Stmt:=top 54
noncomputable def zaj:Ev->M Fl:=
 (yup (yuq 2 (yrr 1))
 (yup (yuq 3 (yrq yqy))
 (yup (yuq 4 (yrn yqy))
 (yup (yul (yu0 (yrl ys7 (yrr 0) (eC (.int 7)))) (tgN 5) (yup (yuq 6 (eFn 2 f__law_mixed [] (yk5 (yrl ysx (yrr 0) (eC (.int 7))) (yk5 (yrr 5) yqy))))
 (yup (yuq 7 (ylv yn3 (yk5 (yrr 2) (yk5 (yrl yst (eC (.int 1)) (yrl ys7 (yrl ysx (yrr 6) (eC (.int 7))) (yrl oIx (eLv (yk5 (eC (.int 9)) (yk5 (yrl yst (eC (.int 1)) (yrr 1)) yqy))) (yrl ysx (yrl ys7 (yrr 6) (eC (.int 7))) (eC (.int 6)))))) yqy))))
 (yup (yuq 8 (yrl ys7 (yrl ysx (yrr 6) (eC (.int 70))) (eC (.int 12))))
 (sIf (yq3 (eT (yrl oGt (yrr 7) (eC (.int 0)))) (eT (yrl (oIn true) (yrr 8) (yrr 4)))) (yup (yuj (ylz zzo (yrr 4) (yk5 (yrr 8) yqy)))
 (yup (yuq 2 (yrl ytf (yrr 2) (yrr 7)))
 (yuq 3 (yrl yst (yrr 3) (yrq (yk5 (yrq (yk5 (yrl ys7 (yrl ysx (yrr 6) (eC (.int 840))) (eC (.int 2))) (yk5 (yrr 7) (yk5 (yrr 8) (yk5 (yrl ys7 (yrl ysx (yrr 6) (eC (.int 1680))) (eC (.int 30))) yqy))))) yqy)))))) yum)))))
 (yup (yuq 9 (yrl ys7 (eFn 2 f__law_mixed [] (yk5 (yrl ysx (yrr 0) (eC (.int 7))) (yk5 (eC (.int 9)) yqy))) (yrl yst (yrr 2) (eC (.int 1)))))
 (yuo (yrq (yk5 (yrl ys7 (yrl ysx (yrr 0) (eC (.int 7))) (eC (.int 7))) (yk5 (yrq (yk5 (yrr 9) (yk5 (yrl ytf (yrr 2) (yrr 9)) yqy))) (yk5 (yrr 3) yqy))))))))))
noncomputable def f__law_small_stand:List D->M D:=hide fun ds=>frz (run 10 zaj ds)
theorem zaf:FnScope ["_law_cell", "_law_whole", "_law_left", "_law_ties", "_law_words", "_law_k", "_law_number", "_law_amount", "_law_word", "_law_share"] ["_law_cell", "_law_whole"] (zot zan):=scD rfl rfl rfl (by decide +kernel)
theorem zab:BD "_law_small_stand" "_law_small_stand" zan ["_law_cell", "_law_whole"]:=
 fun _ _ _ _ _ _ us hl=>match us,hl with|[_,_],_=>rfl
theorem zad(Xt:Txt K mg ca):OkF ⟨K,ca⟩ P w mg base 2 "_law_small_stand" ["_law_cell", "_law_whole"] f__law_small_stand:=
 OkF.hide (OkF.frz (yn6 Xt.f__law_small_stand zaf fun _ _ _ _ _ _ _ hr=>
  (zp2 (yfz (i:=2) zaf.nd rfl (Or.inl rfl) (yfm 1))
  (zp2 (yfz (i:=3) zaf.nd rfl (Or.inl rfl) (yfl ye6))
  (zp2 (yfz (i:=4) zaf.nd rfl (Or.inl rfl) (yff ye6))
  (zp2 (yfx zmp rfl (zpp rfl Xt.n_range (yl8 yie yci (yfm 0) yfb)) (zwv (i:=5) zaf.nd rfl (Or.inl rfl)) (zp2 (yfz (i:=6) zaf.nd rfl (Or.inl rfl) (zpf (zdm Xt) rfl (hr.mono (by decide)) rfl (zwm (yl8 yac ycc (yfm 0) yfb) (zwm (yfm 5) ye6))))
  (zp2 (yfz (i:=7) zaf.nd rfl (Or.inl rfl) (zpe (zkb rfl) ztw rfl Xt.n_min boot_min (zwm (yfm 2) (zwm (yl8 (yaa rfl) yuy yfb (yl8 yie yci (yl8 yac ycc (yfm 6) yfb) (yl5 yr9 (yjv rfl) (yl7 (zwm yfb (zwm (yl8 (yaa rfl) yuy yfb (yfm 1)) ye6))) (yl8 yac ycc (yl8 yie yci (yfm 6) yfb) yfb) (fun _ _=>rfl)))) ye6))))
  (zp2 (yfz (i:=8) zaf.nd rfl (Or.inl rfl) (yl8 yie yci (yl8 yac ycc (yfm 6) yfb) yfb))
  (zxe (ymj (L2.PW.pt (yf5 (yf1 yn9 yjt (yfm 7) yfb (yhm _)) (zxf (yf1 ze6 (yju rfl true) (yfm 8) (yfm 4) rfl)))) (zp2 (zw9 (zws PySem.F.plainAttrs_list PySem.F.slot_list_append PySem.F.type_list_append zme zjl (yfm 4) (zwm (yfm 8) ye6)))
  (zp2 (yfz (i:=2) zaf.nd rfl (Or.inl rfl) (yl8 yik yco (yfm 2) (yfm 7)))
  (zxe (yfz (i:=3) zaf.nd rfl (Or.inl rfl) (yl8 (yaa rfl) yuy (yfm 3) (yfl (zwm (yfl (zwm (yl8 yie yci (yl8 yac ycc (yfm 6) yfb) yfb) (zwm (yfm 7) (zwm (yfm 8) (zwm (yl8 yie yci (yl8 yac ycc (yfm 6) yfb) yfb) ye6))))) ye6))))))) zxd))))))
  (zp2 (yfz (i:=9) zaf.nd rfl (Or.inl rfl) (yl8 yie yci (zpf (zdm Xt) rfl (hr.mono (by decide)) rfl (zwm (yl8 yac ycc (yfm 0) yfb) (zwm yfb ye6))) (yl8 (yaa rfl) yuy (yfm 2) yfb)))
  (zxe (yfy (yfl (zwm (yl8 yie yci (yl8 yac ycc (yfm 0) yfb) yfb) (zwm (yfl (zwm (yfm 9) (zwm (yl8 yik yco (yfm 2) (yfm 9)) ye6))) (zwm (yfm 3) ye6)))))))))))))
abbrev zg6:Stmt:=top 55
noncomputable def zgb:Ev->M Fl:=
 (yup (yuq 2 (yrl ys7 (yrl ysx (yrr 1) (eC (.int 5))) (ylv ys5 (yk5 (yrl yny (yrr 0) (eC (.str "pots"))) yqy))))
 (yup (yuq 3 (yrl ys7 (yrl ysx (yrr 1) (eC (.int 15))) (eC (.int 2))))
 (yup (yuq 4 (yrl yst (yrl oIx (yrl oIx (yrl yny (yrr 0) (eC (.str "pots"))) (yrr 2)) (eC (.int 2))) (yrl oIx (yrl oIx (yrl yny (yrr 0) (eC (.str "pots"))) (yrr 2)) (eC (.int 3)))))
 (yup (yuq 5 (yrq (yk5 (eC (.int 0)) (yk5 (yrq (yk5 (yrl oIx (yrl oIx (yrl yny (yrr 0) (eC (.str "pots"))) (yrr 2)) (eC (.int 2))) (yk5 (yrl oIx (yrl oIx (yrl yny (yrr 0) (eC (.str "pots"))) (yrr 2)) (eC (.int 3))) yqy))) (yk5 (yrq yqy) yqy)))))
 (yup (yuq 6 (eFn 2 f__law_small_stand [] (yk5 (yrl ysx (yrr 1) (eC (.int 30))) (yk5 (yrr 4) yqy))))
 (yup (yuq 7 (yrl oIx (eLv (yk5 (yrr 5) (yk5 (yrr 6) (yk5 (yrr 6) (yk5 (eFn 2 f__law_small_stand [] (yk5 (yrl ysx (yrr 1) (eC (.int 30))) (yk5 (yrl yst (yrr 4) (eC (.int 1))) yqy))) yqy))))) (yrl ys7 (yrl ysx (yrr 1) (eC (.int 30))) (eC (.int 4)))))
 (yup (sIf (eT (yrl oEq (yrl ys7 (yrl ysx (yrr 1) (eC (.int 30))) (eC (.int 17))) (eC (.int 3)))) (yuq 7 (yrl oIx (eLv (yk5 (eC .non) (yk5 (yrq (yk5 (eC (.int 1)) (yk5 (yrq (yk5 (yrr 4) (yk5 (eC (.int 0)) yqy))) yqy))) (yk5 (yrq (yk5 (eC (.int 1)) (yk5 (yrq (yk5 (yrr 4) (yk5 (eUn yta (eC (.int 1))) yqy))) (yk5 (yrq (yk5 (yrq (yk5 (eC (.int 0)) (yk5 (eC (.int 1)) (yk5 (eC (.int 1)) (yk5 (eC (.int 1)) yqy))))) yqy)) yqy)))) (yk5 (yrm (ylv yn1 (yk5 (yrr 5) yqy))) yqy))))) (yrl ys7 (yrl ysx (yrr 1) (eC (.int 510))) (eC (.int 4))))) yum)
 (yup (yuq 8 (yrq (yk5 (eC (.str "agree")) (yk5 (yrr 2) (yk5 (yrl ytf (eC (.int 1)) (yrr 3)) (yk5 (yrr 7) yqy))))))
 (yup (yuq 9 (eLv (yk5 (yrr 8) (yk5 (yrr 8) (yk5 (yrr 8) (yk5 (eC .non) (yk5 (yrq (yk5 (eC (.str "agree")) (yk5 (yrr 2) (yk5 (yrr 3) (yk5 (yrr 7) yqy))))) (yk5 (yrq (yk5 (eC (.str "agree")) (yk5 (yrl ys7 (yrl yst (yrr 2) (eC (.int 1))) (eC (.int 3))) (yk5 (yrl ytf (eC (.int 1)) (yrr 3)) (yk5 (yrr 7) yqy))))) yqy))))))))
 (yup (yuq 9 (yrl yst (yrr 9) (eLv (yk5 (yrq (yk5 (eC (.str "strike")) (yk5 (yrr 2) (yk5 (yrl ytf (eC (.int 1)) (yrr 3)) (yk5 (eC (.int 0)) yqy))))) (yk5 (yrq (yk5 (eC (.str "agree")) (yk5 (yrr 2) (yk5 (yrl ytf (eC (.int 1)) (yrr 3)) (yk5 (yrq (yk5 (eC (.int 9)) (yk5 (yrq (yk5 (yrr 4) (yk5 (eC (.int 0)) yqy))) (yk5 (yrq yqy) yqy)))) yqy))))) yqy)))))
 (yup (yuq 2 (yrl oIx (eLv (yk5 (yrr 2) (yk5 (yrr 2) (yk5 (yrr 2) (yk5 (yrr 2) (yk5 (ylv ys5 (yk5 (yrl yny (yrr 0) (eC (.str "pots"))) yqy)) (yk5 (eUn yta (eC (.int 1))) yqy))))))) (yrl ys8 (yrl ys7 (yrl ys7 (yrl ysx (yrr 1) (eC (.int 7))) (eC (.int 31))) (eC (.int 6))) (yrl ysx (yrl ys7 (yrl ysx (yrr 1) (eC (.int 11))) (eC (.int 5))) (eC (.int 4))))))
 (yup (yuq 3 (yrl oIx (eLv (yk5 (yrr 3) (yk5 (yrr 3) (yk5 (yrr 3) (yk5 (eC (.int 2)) (yk5 (eUn yta (eC (.int 1))) yqy)))))) (yrl ys8 (yrl ys7 (yrl ys7 (yrl ysx (yrr 1) (eC (.int 13))) (eC (.int 29))) (eC (.int 5))) (yrl ysx (yrl ys7 (yrl ysx (yrr 1) (eC (.int 17))) (eC (.int 7))) (eC (.int 6))))))
 (yuo (yrq (yk5 (eC (.str "lay")) (yk5 (yrr 2) (yk5 (yrr 3) (yk5 (yrr 7) (yk5 (yrl oIx (yrr 9) (yrl ys7 (yrl ysx (yrr 1) (eC (.int 120))) (eC (.int 8)))) yqy)))))))))))))))))))
noncomputable def f__law_laid:List D->M D:=hide fun ds=>frz (run 10 zgb ds)
theorem zfm:FnScope ["_law_model", "_law_cell", "_law_pot", "_law_side", "_law_whole", "_law_begin", "_law_other", "_law_one", "_law_agree", "_law_some"] ["_law_model", "_law_cell"] (zot zg6):=scD rfl rfl rfl (by decide +kernel)
theorem zec:BD "_law_laid" "_law_laid" zg6 ["_law_model", "_law_cell"]:=
 fun _ _ _ _ _ _ us hl=>match us,hl with|[_,_],_=>rfl
theorem ze2(Xt:Txt K mg ca):OkF ⟨K,ca⟩ P w mg base 3 "_law_laid" ["_law_model", "_law_cell"] f__law_laid:=
 OkF.hide (OkF.frz (yn6 Xt.f__law_laid zfm fun _ _ _ _ _ _ _ hr=>
  (zp2 (yfz (i:=2) zfm.nd rfl (Or.inl rfl) (yl8 yie yci (yl8 yac ycc (yfm 1) yfb) (zpe zeh (ycg rfl) rfl Xt.n_len PySem.boot_len (zwm (zwo (hu9 hr) (yfm 0) yfk (fun _ _=>rfl)) ye6))))
  (zp2 (yfz (i:=3) zfm.nd rfl (Or.inl rfl) (yl8 yie yci (yl8 yac ycc (yfm 1) yfb) yfb))
  (zp2 (yfz (i:=4) zfm.nd rfl (Or.inl rfl) (yl8 (yaa rfl) yuy (yl5 yr9 (yjv rfl) (yl5 yr9 (yjv rfl) (zwo (hu9 hr) (yfm 0) yfk (fun _ _=>rfl)) (yfm 2) (fun _ _=>rfl)) yfb (fun _ _=>rfl)) (yl5 yr9 (yjv rfl) (yl5 yr9 (yjv rfl) (zwo (hu9 hr) (yfm 0) yfk (fun _ _=>rfl)) (yfm 2) (fun _ _=>rfl)) yfb (fun _ _=>rfl))))
  (zp2 (yfz (i:=5) zfm.nd rfl (Or.inl rfl) (yfl (zwm yfb (zwm (yfl (zwm (yl5 yr9 (yjv rfl) (yl5 yr9 (yjv rfl) (zwo (hu9 hr) (yfm 0) yfk (fun _ _=>rfl)) (yfm 2) (fun _ _=>rfl)) yfb (fun _ _=>rfl)) (zwm (yl5 yr9 (yjv rfl) (yl5 yr9 (yjv rfl) (zwo (hu9 hr) (yfm 0) yfk (fun _ _=>rfl)) (yfm 2) (fun _ _=>rfl)) yfb (fun _ _=>rfl)) ye6))) (zwm (yfl ye6) ye6)))))
  (zp2 (yfz (i:=6) zfm.nd rfl (Or.inl rfl) (zpf (zad Xt) rfl (hr.mono (by decide)) rfl (zwm (yl8 yac ycc (yfm 1) yfb) (zwm (yfm 4) ye6))))
  (zp2 (yfz (i:=7) zfm.nd rfl (Or.inl rfl) (yl5 yr9 (yjv rfl) (yl7 (zwm (yfm 5) (zwm (yfm 6) (zwm (yfm 6) (zwm (zpf (zad Xt) rfl (hr.mono (by decide)) rfl (zwm (yl8 yac ycc (yfm 1) yfb) (zwm (yl8 (yaa rfl) yuy (yfm 4) yfb) ye6))) ye6))))) (yl8 yie yci (yl8 yac ycc (yfm 1) yfb) yfb) (fun _ _=>rfl)))
  (zp2 (ymj (yf1 (yib (hu9 hr)) yuy (yl8 yie yci (yl8 yac ycc (yfm 1) yfb) yfb) yfb (yhm _)) (zxe (yfz (i:=7) zfm.nd rfl (Or.inl rfl) (yl5 yr9 (yjv rfl) (yl7 (zwm yfh (zwm (yfl (zwm yfb (zwm (yfl (zwm (yfm 4) (zwm yfb ye6))) ye6))) (zwm (yfl (zwm yfb (zwm (yfl (zwm (yfm 4) (zwm (yma ykk ycl yfb) ye6))) (zwm (yfl (zwm (yfl (zwm yfb (zwm yfb (zwm yfb (zwm yfb ye6))))) ye6)) ye6)))) (zwm (yfa (zk4 zei (ztu rfl) rfl Xt.n_list boot_list (zwm (yfm 5) ye6))) ye6))))) (yl8 yie yci (yl8 yac ycc (yfm 1) yfb) yfb) (fun _ _=>rfl)))) zxd)
  (zp2 (yfz (i:=8) zfm.nd rfl (Or.inl rfl) (yfl (zwm yfk (zwm (yfm 2) (zwm (yl8 yik yco yfb (yfm 3)) (zwm (yfm 7) ye6))))))
  (zp2 (yfz (i:=9) zfm.nd rfl (Or.inl rfl) (yl7 (zwm (yfm 8) (zwm (yfm 8) (zwm (yfm 8) (zwm yfh (zwm (yfl (zwm yfk (zwm (yfm 2) (zwm (yfm 3) (zwm (yfm 7) ye6))))) (zwm (yfl (zwm yfk (zwm (yl8 yie yci (yl8 (yaa rfl) yuy (yfm 2) yfb) yfb) (zwm (yl8 yik yco yfb (yfm 3)) (zwm (yfm 7) ye6))))) ye6))))))))
  (zp2 (yfz (i:=9) zfm.nd rfl (Or.inl rfl) (yl8 (yaa rfl) yuy (yfm 9) (yl7 (zwm (yfl (zwm yfk (zwm (yfm 2) (zwm (yl8 yik yco yfb (yfm 3)) (zwm yfb ye6))))) (zwm (yfl (zwm yfk (zwm (yfm 2) (zwm (yl8 yik yco yfb (yfm 3)) (zwm (yfl (zwm yfb (zwm (yfl (zwm (yfm 4) (zwm yfb ye6))) (zwm (yfl ye6) ye6)))) ye6))))) ye6)))))
  (zp2 (yfz (i:=2) zfm.nd rfl (Or.inl rfl) (yl5 yr9 (yjv rfl) (yl7 (zwm (yfm 2) (zwm (yfm 2) (zwm (yfm 2) (zwm (yfm 2) (zwm (zpe zeh (ycg rfl) rfl Xt.n_len PySem.boot_len (zwm (zwo (hu9 hr) (yfm 0) yfk (fun _ _=>rfl)) ye6)) (zwm (yma ykk ycl yfb) ye6))))))) (yl8 yif ycj (yl8 yie yci (yl8 yie yci (yl8 yac ycc (yfm 1) yfb) yfb) yfb) (yl8 yac ycc (yl8 yie yci (yl8 yac ycc (yfm 1) yfb) yfb) yfb)) (fun _ _=>rfl)))
  (zp2 (yfz (i:=3) zfm.nd rfl (Or.inl rfl) (yl5 yr9 (yjv rfl) (yl7 (zwm (yfm 3) (zwm (yfm 3) (zwm (yfm 3) (zwm yfb (zwm (yma ykk ycl yfb) ye6)))))) (yl8 yif ycj (yl8 yie yci (yl8 yie yci (yl8 yac ycc (yfm 1) yfb) yfb) yfb) (yl8 yac ycc (yl8 yie yci (yl8 yac ycc (yfm 1) yfb) yfb) yfb)) (fun _ _=>rfl)))
  (zxe (yfy (yfl (zwm yfk (zwm (yfm 2) (zwm (yfm 3) (zwm (yfm 7) (zwm (yl5 yr9 (yjv rfl) (yfm 9) (yl8 yie yci (yl8 yac ycc (yfm 1) yfb) yfb) (fun _ _=>rfl)) ye6))))))))))))))))))))))
abbrev zg4:Stmt:=top 57
noncomputable def zf9:Ev->M Fl:=
 (yup (sIf (eT (yrl oEq (yrl ys7 (yrr 1) (eC (.int 5))) (eC (.int 0)))) (yuo (yrq (yk5 (eC (.str "day")) yqy))) yum)
 (yup (sIf (eT (yrl oEq (yrl ys7 (yrr 1) (eC (.int 5))) (eC (.int 1)))) (yup (yuq 2 (yrl oIx (eLv (yk5 (yrl ys7 (yrl ysx (yrr 1) (eC (.int 25))) (eC (.int 12))) (yk5 (yrl ys7 (yrl ysx (yrr 1) (eC (.int 25))) (eC (.int 60))) (yk5 (eC (.int 60)) (yk5 (eUn yta (eC (.int 1))) yqy))))) (yrl ys8 (yrl ysx (yrl ys7 (yrl ysx (yrr 1) (eC (.int 25))) (eC (.int 8))) (eC (.int 2))) (yrl ys7 (yrl ysx (yrr 1) (eC (.int 200))) (eC (.int 2))))))
 (yuo (yrq (yk5 (eC (.str "show")) (yk5 (yrl oIx (eLv (yk5 (yrl ys7 (yrl ysx (yrr 1) (eC (.int 5))) (ylv ys5 (yk5 (yrl yny (yrr 0) (eC (.str "pots"))) yqy))) (yk5 (yrl ytf (yrl ys7 (yrl ysx (yrr 1) (eC (.int 5))) (eC (.int 4))) (eC (.int 1))) yqy))) (yrl ysx (yrl ys7 (yrl ysx (yrr 1) (eC (.int 450))) (eC (.int 5))) (eC (.int 4)))) (yk5 (yrr 2) yqy)))))) yum)
 (yup (sIf (eT (yrl oEq (yrl ys7 (yrr 1) (eC (.int 5))) (eC (.int 2)))) (yuo (eFn 2 f__law_struck [] (yk5 (yrr 0) (yk5 (yrr 1) yqy)))) yum)
 (yuo (eFn 2 f__law_laid [] (yk5 (yrr 0) (yk5 (yrr 1) yqy)))))))
noncomputable def f__law_deed:List D->M D:=hide fun ds=>frz (run 3 zf9 ds)
theorem zfk:FnScope ["_law_model", "_law_cell", "_law_word"] ["_law_model", "_law_cell"] (zot zg4):=scD rfl rfl rfl (by decide +kernel)
theorem zea:BD "_law_deed" "_law_deed" zg4 ["_law_model", "_law_cell"]:=
 fun _ _ _ _ _ _ us hl=>match us,hl with|[_,_],_=>rfl
theorem ze0(Xt:Txt K mg ca):OkF ⟨K,ca⟩ P w mg base 4 "_law_deed" ["_law_model", "_law_cell"] f__law_deed:=
 OkF.hide (OkF.frz (yn6 Xt.f__law_deed zfk fun _ _ _ _ _ _ _ hr=>
  (zp2 (ymj (yf1 (yib (hu9 hr)) yuy (yl8 yie yci (yfm 1) yfb) yfb (yhm _)) (zxe (yfy (yfl (zwm yfk ye6)))) zxd)
  (zp2 (ymj (yf1 (yib (hu9 hr)) yuy (yl8 yie yci (yfm 1) yfb) yfb (yhm _)) (zp2 (yfz (i:=2) zfk.nd rfl (Or.inl rfl) (yl5 yr9 (yjv rfl) (yl7 (zwm (yl8 yie yci (yl8 yac ycc (yfm 1) yfb) yfb) (zwm (yl8 yie yci (yl8 yac ycc (yfm 1) yfb) yfb) (zwm yfb (zwm (yma ykk ycl yfb) ye6))))) (yl8 yif ycj (yl8 yac ycc (yl8 yie yci (yl8 yac ycc (yfm 1) yfb) yfb) yfb) (yl8 yie yci (yl8 yac ycc (yfm 1) yfb) yfb)) (fun _ _=>rfl)))
  (zxe (yfy (yfl (zwm yfk (zwm (yl5 yr9 (yjv rfl) (yl7 (zwm (yl8 yie yci (yl8 yac ycc (yfm 1) yfb) (zpe zeh (ycg rfl) rfl Xt.n_len PySem.boot_len (zwm (zwo (hu9 hr) (yfm 0) yfk (fun _ _=>rfl)) ye6))) (zwm (yl8 yik yco (yl8 yie yci (yl8 yac ycc (yfm 1) yfb) yfb) yfb) ye6))) (yl8 yac ycc (yl8 yie yci (yl8 yac ycc (yfm 1) yfb) yfb) yfb) (fun _ _=>rfl)) (zwm (yfm 2) ye6))))))) zxd)
  (zp2 (ymj (yf1 (yib (hu9 hr)) yuy (yl8 yie yci (yfm 1) yfb) yfb (yhm _)) (zxe (yfy (zpf (zcs Xt) rfl (hr.mono (by decide)) rfl (zwm (yfm 0) (zwm (yfm 1) ye6))))) zxd)
  (zxe (yfy (zpf (ze2 Xt) rfl (hr.mono (by decide)) rfl (zwm (yfm 0) (zwm (yfm 1) ye6))))))))))
abbrev zca:Stmt:=yno (top 50) 3
noncomputable def zb1:Ev->M Fl:=
 (yoz [6,8] "day" (eC (.int 1)) (yrr 0))
noncomputable def f_Book_next_day:List D->M D:=hide (run 1 zb1)
theorem zbs:FnScope ["self"] ["self"] (zot zca):=scD rfl rfl rfl (by decide +kernel)
theorem zba:BD "next_day" "Book.next_day" zca ["self"]:=
 fun _ _ _ _ _ _ us hl=>match us,hl with|[_],_=>rfl
theorem zbj(Xt:Txt K mg ca):OkA ⟨K,ca⟩ P w mg base 1 (ca 25) ["self"] f_Book_next_day:=
 OkA.hide (yhz Xt.f_Book_next_day zbs fun _ _ _ _ _ _ hr=>
  (zxe (zlc rfl (zpu (T:=⟨K,ca⟩) (c:=6) Xt.cl_Laid Xt.na_Laid_day (zpu (T:=⟨K,ca⟩) (c:=8) Xt.cl_Book Xt.na_Book_day zwz)) (yfm 0) yfb)))
abbrev zbn:Stmt:=yno (top 50) 1
noncomputable def zbe:Ev->M Fl:=
 (sIf (yq4 (eT (eFn 3 f_is_between [] (yk5 (yrr 1) (yk5 (eC (.int 0)) (yk5 (yrl ytf (ylv ys5 (yk5 (eUn (ysz [8] "pots") (yrr 0)) yqy)) (eC (.int 1))) yqy)))))) (yjj 2 (yk5 (eC (.str "the book hasn't this pot")) yqy)) yum)
noncomputable def f_Book_check_pot:List D->M D:=hide fun ds=>frz (run 2 zbe ds)
theorem za5:FnScope ["self", "pot"] ["self", "pot"] (zot zbn):=scD rfl rfl rfl (by decide +kernel)
theorem zar:BD "check_pot" "Book.check_pot" zbn ["self", "pot"]:=
 fun _ _ _ _ _ _ us hl=>match us,hl with|[_,_],_=>rfl
theorem zay(Xt:Txt K mg ca):OkA ⟨K,ca⟩ P w mg base 3 (ca 23) ["self", "pot"] f_Book_check_pot:=
 OkA.hide (OkA.frz (yhz Xt.f_Book_check_pot za5 fun _ _ _ _ _ _ hr=>
  (zxe (ymj (yf2 (yf3 (zpf (zdp Xt) rfl (hr.mono (by decide)) rfl (zwm (yfm 1) (zwm yfb (zwm (yl8 yik yco (zpe zeh (ycg rfl) rfl Xt.n_len PySem.boot_len (zwm (ye9 rfl (zpu (T:=⟨K,ca⟩) (c:=8) Xt.cl_Book Xt.na_Book_pots zwz) (yfm 0)) ye6)) yfb) ye6)))))) (zxe (zp1 2 PySem.F.excBase_ValueError rfl Xt.x_NoDeed Xt.m_NoDeed rfl rfl (zwm yfk ye6))) zxd))))
abbrev zm4:Stmt:=top 12
noncomputable def zlf:Ev->M Fl:=
 (yuo (eFn 3 f_is_between [] (yk5 (yrr 0) (yk5 (eC (.int 0)) (yk5 (eC (.int 59)) yqy)))))
noncomputable def f_is_word:List D->M D:=hide fun ds=>frz (run 1 zlf ds)
theorem zje:FnScope ["thing"] ["thing"] (zot zm4):=scD rfl rfl rfl (by decide +kernel)
theorem zhq:BD "is_word" "is_word" zm4 ["thing"]:=
 fun _ _ _ _ _ _ us hl=>match us,hl with|[_],_=>rfl
theorem ziw(Xt:Txt K mg ca):OkF ⟨K,ca⟩ P w mg base 3 "is_word" ["thing"] f_is_word:=
 OkF.hide (OkF.frz (yn6 Xt.f_is_word zje fun _ _ _ _ _ _ _ hr=>
  (zxe (yfy (zpf (zdp Xt) rfl (hr.mono (by decide)) rfl (zwm (yfm 0) (zwm yfb (zwm (zpi (u:=.int 59 (Xt.c_MOST_WORD).choose) rfl (Xt.c_MOST_WORD).choose_spec ⟨_,rfl⟩) ye6))))))))
abbrev zg0:Stmt:=yno (top 50) 4
noncomputable def zf5:Ev->M Fl:=
 (yup (yuj (yro [(8,f_Book_check_pot)] 2 "check_pot" (yrr 0) (yk5 (yrr 1) yqy)))
 (yup (sIf (yq4 (eT (eFn 1 f_is_word [] (yk5 (yrr 2) yqy)))) (yjj 2 (yk5 (eC (.str "there is no such word")) yqy)) yum)
 (sIf (eT (yrl zzp (yrr 2) (yrl oIx (eUn (ysz [8] "shown") (yrr 0)) (yrr 1)))) (yo1 (eUn (ysz [6,8] "day") (yrr 0)) (yrl oIx (eUn (ysz [8] "shown") (yrr 0)) (yrr 1)) (yrr 2)) yum)))
noncomputable def f_Book_show:List D->M D:=hide (run 3 zf5)
theorem zfg:FnScope ["self", "pot", "word"] ["self", "pot", "word"] (zot zg0):=scD rfl rfl rfl (by decide +kernel)
theorem zd6:BD "show" "Book.show" zg0 ["self", "pot", "word"]:=
 fun _ _ _ _ _ _ us hl=>match us,hl with|[_,_,_],_=>rfl
theorem zew(Xt:Txt K mg ca):OkA ⟨K,ca⟩ P w mg base 4 (ca 26) ["self", "pot", "word"] f_Book_show:=
 OkA.hide (yhz Xt.f_Book_show zfg fun _ _ _ _ _ _ hr=>
  (zp2 (zw9 (yfg (k:=3) (ps:=["self", "pot"]) rfl (yfm 0) (zy9 (T:=⟨K,ca⟩) (c:=8) Xt.cl_Book Xt.me_Book_check_pot (zay Xt) (by decide) yhi) (hr.mono (by decide)) (zwm (yfm 1) ye6)))
  (zp2 (ymj (yf2 (yf3 (zpf (ziw Xt) rfl (hr.mono (by decide)) rfl (zwm (yfm 2) ye6)))) (zxe (zp1 2 PySem.F.excBase_ValueError rfl Xt.x_NoDeed Xt.m_NoDeed rfl rfl (zwm yfk ye6))) zxd)
  (zxe (ymj (yf1 (zmo (hu9 hr)) zjm (yfm 2) (yl5 yr9 (yjv rfl) (ye9 rfl (zpu (T:=⟨K,ca⟩) (c:=8) Xt.cl_Book Xt.na_Book_shown zwz) (yfm 0)) (yfm 1) (fun _ _=>rfl)) rfl) (zxe (zxb (hu9 hr) (ye9 rfl (zpu (T:=⟨K,ca⟩) (c:=6) Xt.cl_Laid Xt.na_Laid_day (zpu (T:=⟨K,ca⟩) (c:=8) Xt.cl_Book Xt.na_Book_day zwz)) (yfm 0)) (yl5 yr9 (yjv rfl) (ye9 rfl (zpu (T:=⟨K,ca⟩) (c:=8) Xt.cl_Book Xt.na_Book_shown zwz) (yfm 0)) (yfm 1) (fun _ _=>rfl)) (yfm 2))) zxd)))))
abbrev zm3:Stmt:=top 10
noncomputable def zle:Ev->M Fl:=
 (yuo (eFn 3 f_is_between [] (yk5 (yrr 0) (yk5 (eC (.int 0)) (yk5 (eC (.int 1)) yqy)))))
noncomputable def f_is_side:List D->M D:=hide fun ds=>frz (run 1 zle ds)
theorem zjd:FnScope ["thing"] ["thing"] (zot zm3):=scD rfl rfl rfl (by decide +kernel)
theorem zhp:BD "is_side" "is_side" zm3 ["thing"]:=
 fun _ _ _ _ _ _ us hl=>match us,hl with|[_],_=>rfl
theorem ziv(Xt:Txt K mg ca):OkF ⟨K,ca⟩ P w mg base 3 "is_side" ["thing"] f_is_side:=
 OkF.hide (OkF.frz (yn6 Xt.f_is_side zjd fun _ _ _ _ _ _ _ hr=>
  (zxe (yfy (zpf (zdp Xt) rfl (hr.mono (by decide)) rfl (zwm (yfm 0) (zwm yfb (zwm yfb ye6))))))))
abbrev zfd:Stmt:=top 49
noncomputable def zer:Ev->M Fl:=
 (sIf (yq4 (eT (eFn 1 f_is_side [] (yk5 (yrr 0) yqy)))) (yjj 2 (yk5 (eC (.str "there is no such side")) yqy)) yum)
noncomputable def f_check_side:List D->M D:=hide fun ds=>frz (run 1 zer ds)
theorem zd1:FnScope ["side"] ["side"] (zot zfd):=scD rfl rfl rfl (by decide +kernel)
theorem zda:BD "check_side" "check_side" zfd ["side"]:=
 fun _ _ _ _ _ _ us hl=>match us,hl with|[_],_=>rfl
theorem zdo(Xt:Txt K mg ca):OkF ⟨K,ca⟩ P w mg base 4 "check_side" ["side"] f_check_side:=
 OkF.hide (OkF.frz (yn6 Xt.f_check_side zd1 fun _ _ _ _ _ _ _ hr=>
  (zxe (ymj (yf2 (yf3 (zpf (ziv Xt) rfl (hr.mono (by decide)) rfl (zwm (yfm 0) ye6)))) (zxe (zp1 2 PySem.F.excBase_ValueError rfl Xt.x_NoDeed Xt.m_NoDeed rfl rfl (zwm yfk ye6))) zxd))))
abbrev za2:Stmt:=yno (top 39) 2
noncomputable def zav:Ev->M Fl:=
 (yuo (eC (.bl false)))
noncomputable def f_Held_may_strike:List D->M D:=hide fun ds=>frz (run 5 zav ds)
theorem zao:FnScope ["self", "pot", "side", "day", "thing"] ["self", "pot", "side", "day", "thing"] (zot za2):=scD rfl rfl rfl (by decide +kernel)
theorem zag:BD "may_strike" "Held.may_strike" za2 ["self", "pot", "side", "day", "thing"]:=
 fun _ _ _ _ _ _ us hl=>match us,hl with|[_,_,_,_,_],_=>rfl
theorem zak(Xt:Txt K mg ca):OkA ⟨K,ca⟩ P w mg base 1 (ca 12) ["self", "pot", "side", "day", "thing"] f_Held_may_strike:=
 OkA.hide (OkA.frz (yhz Xt.f_Held_may_strike zao fun _ _ _ _ _ _ hr=>
  (zxe (yfy yl4))))
abbrev zff:Stmt:=top 17
noncomputable def zet:Ev->M Fl:=
 (yuo (yrl ytf (eC (.int 1)) (yrr 0)))
noncomputable def f_other_side:List D->M D:=hide fun ds=>frz (run 1 zet ds)
theorem zd4:FnScope ["side"] ["side"] (zot zff):=scD rfl rfl rfl (by decide +kernel)
theorem zdc:BD "other_side" "other_side" zff ["side"]:=
 fun _ _ _ _ _ _ us hl=>match us,hl with|[_],_=>rfl
theorem zdq(Xt:Txt K mg ca):OkF ⟨K,ca⟩ P w mg base 1 "other_side" ["side"] f_other_side:=
 OkF.hide (OkF.frz (yn6 Xt.f_other_side zd4 fun _ _ _ _ _ _ _ hr=>
  (zxe (yfy (yl8 yik yco yfb (yfm 0))))))
abbrev ze9:Stmt:=yno (top 40) 2
noncomputable def zen:Ev->M Fl:=
 (yuo (yrl oLt (yrr 1) (yrl yst (eUn (ysz [6,8] "day") (yrr 0)) (eUn (ysz [6] "wait") (yrr 0)))))
noncomputable def f_Laid_waits:List D->M D:=hide fun ds=>frz (run 2 zen ds)
theorem zdx:FnScope ["self", "day"] ["self", "day"] (zot ze9):=scD rfl rfl rfl (by decide +kernel)
theorem zc6:BD "waits" "Laid.waits" ze9 ["self", "day"]:=
 fun _ _ _ _ _ _ us hl=>match us,hl with|[_,_],_=>rfl
theorem zdk(Xt:Txt K mg ca):OkA ⟨K,ca⟩ P w mg base 1 (ca 15) ["self", "day"] f_Laid_waits:=
 OkA.hide (OkA.frz (yhz Xt.f_Laid_waits zdx fun _ _ _ _ _ _ hr=>
  (zxe (yfy (ye8 yob yjx (yfm 1) (yl8 (yaa rfl) yuy (ye9 rfl (zpu (T:=⟨K,ca⟩) (c:=6) Xt.cl_Laid Xt.na_Laid_day (zpu (T:=⟨K,ca⟩) (c:=8) Xt.cl_Book Xt.na_Book_day zwz)) (yfm 0)) (ye9 rfl (zpu (T:=⟨K,ca⟩) (c:=6) Xt.cl_Laid Xt.na_Laid_wait zwz) (yfm 0))) (yhm _))))))
abbrev zg9:Stmt:=top 14
noncomputable def zge:Ev->M Fl:=
 (yuo (eFn 3 f_is_between [] (yk5 (yrr 0) (yk5 (eC (.int 0)) (yk5 (eC (.int 1000000)) yqy)))))
noncomputable def f_is_number:List D->M D:=hide fun ds=>frz (run 1 zge ds)
theorem zfp:FnScope ["thing"] ["thing"] (zot zg9):=scD rfl rfl rfl (by decide +kernel)
theorem zef:BD "is_number" "is_number" zg9 ["thing"]:=
 fun _ _ _ _ _ _ us hl=>match us,hl with|[_],_=>rfl
theorem ze5(Xt:Txt K mg ca):OkF ⟨K,ca⟩ P w mg base 3 "is_number" ["thing"] f_is_number:=
 OkF.hide (OkF.frz (yn6 Xt.f_is_number zfp fun _ _ _ _ _ _ _ hr=>
  (zxe (yfy (zpf (zdp Xt) rfl (hr.mono (by decide)) rfl (zwm (yfm 0) (zwm yfb (zwm (zpi (u:=.int 1000000 (Xt.c_MOST_NUMBER).choose) rfl (Xt.c_MOST_NUMBER).choose_spec ⟨_,rfl⟩) ye6))))))))
abbrev zs8:Stmt:=top 16
noncomputable def zp4:Ev->M Fl:=
 (yuo (eFn 3 f_is_between [] (yk5 (yrr 0) (yk5 (eC (.int 0)) (yk5 (eC (.int 2)) yqy)))))
noncomputable def f_is_pot:List D->M D:=hide fun ds=>frz (run 1 zp4 ds)
theorem zm6:FnScope ["thing"] ["thing"] (zot zs8):=scD rfl rfl rfl (by decide +kernel)
theorem zjx:BD "is_pot" "is_pot" zs8 ["thing"]:=
 fun _ _ _ _ _ _ us hl=>match us,hl with|[_],_=>rfl
theorem zmm(Xt:Txt K mg ca):OkF ⟨K,ca⟩ P w mg base 3 "is_pot" ["thing"] f_is_pot:=
 OkF.hide (OkF.frz (yn6 Xt.f_is_pot zm6 fun _ _ _ _ _ _ _ hr=>
  (zxe (yfy (zpf (zdp Xt) rfl (hr.mono (by decide)) rfl (zwm (yfm 0) (zwm yfb (zwm (zpi (u:=.int 2 (Xt.c_MOST_POT).choose) rfl (Xt.c_MOST_POT).choose_spec ⟨_,rfl⟩) ye6))))))))
abbrev zcz:Stmt:=top 35
noncomputable def zcp:Ev->M Fl:=
 (yuo (yrk (yrl oEq (ylv ys5 (yk5 (yrr 0) yqy)) (eC (.int 4))) (yrk (eFn 1 f_is_pot [] (yk5 (yrl oIx (yrr 0) (eC (.int 1))) yqy)) (eFn 1 f_is_side [] (yk5 (yrl oIx (yrr 0) (eC (.int 2))) yqy)))))
noncomputable def f_is_of_a_side:List D->M D:=hide fun ds=>frz (run 1 zcp ds)
theorem zcg:FnScope ["thing"] ["thing"] (zot zcz):=scD rfl rfl rfl (by decide +kernel)
theorem zbz:BD "is_of_a_side" "is_of_a_side" zcz ["thing"]:=
 fun _ _ _ _ _ _ us hl=>match us,hl with|[_],_=>rfl
theorem zb8(Xt:Txt K mg ca):OkF ⟨K,ca⟩ P w mg base 4 "is_of_a_side" ["thing"] f_is_of_a_side:=
 OkF.hide (OkF.frz (yn6 Xt.f_is_of_a_side zcg fun _ _ _ _ _ _ _ hr=>
  (zxe (yfy (ye7 (ye8 (yib (hu9 hr)) yuy (zpe zeh (ycg rfl) rfl Xt.n_len PySem.boot_len (zwm (yfm 0) ye6)) yfb (yhm _)) (ye7 (zpf (zmm Xt) rfl (hr.mono (by decide)) rfl (zwm (yl5 yr9 (yjv rfl) (yfm 0) yfb (fun _ _=>rfl)) ye6)) (yfj (zpf (ziv Xt) rfl (hr.mono (by decide)) rfl (zwm (yl5 yr9 (yjv rfl) (yfm 0) yfb (fun _ _=>rfl)) ye6)))))))))
abbrev zs7:Stmt:=top 13
noncomputable def zp3:Ev->M Fl:=
 (yuo (eFn 3 f_is_between [] (yk5 (yrr 0) (yk5 (eC (.int 0)) (yk5 (eC (.int 1000000)) yqy)))))
noncomputable def f_is_day:List D->M D:=hide fun ds=>frz (run 1 zp3 ds)
theorem zm5:FnScope ["thing"] ["thing"] (zot zs7):=scD rfl rfl rfl (by decide +kernel)
theorem zjw:BD "is_day" "is_day" zs7 ["thing"]:=
 fun _ _ _ _ _ _ us hl=>match us,hl with|[_],_=>rfl
theorem zml(Xt:Txt K mg ca):OkF ⟨K,ca⟩ P w mg base 3 "is_day" ["thing"] f_is_day:=
 OkF.hide (OkF.frz (yn6 Xt.f_is_day zm5 fun _ _ _ _ _ _ _ hr=>
  (zxe (yfy (zpf (zdp Xt) rfl (hr.mono (by decide)) rfl (zwm (yfm 0) (zwm yfb (zwm (zpi (u:=.int 1000000 (Xt.c_MOST_DAY).choose) rfl (Xt.c_MOST_DAY).choose_spec ⟨_,rfl⟩) ye6))))))))
abbrev zg8:Stmt:=top 15
noncomputable def zgd:Ev->M Fl:=
 (yuo (eFn 3 f_is_between [] (yk5 (yrr 0) (yk5 (eC (.int 1)) (yk5 (eC (.int 1000000000000)) yqy)))))
noncomputable def f_is_amount:List D->M D:=hide fun ds=>frz (run 1 zgd ds)
theorem zfo:FnScope ["thing"] ["thing"] (zot zg8):=scD rfl rfl rfl (by decide +kernel)
theorem zee:BD "is_amount" "is_amount" zg8 ["thing"]:=
 fun _ _ _ _ _ _ us hl=>match us,hl with|[_],_=>rfl
theorem ze4(Xt:Txt K mg ca):OkF ⟨K,ca⟩ P w mg base 3 "is_amount" ["thing"] f_is_amount:=
 OkF.hide (OkF.frz (yn6 Xt.f_is_amount zfo fun _ _ _ _ _ _ _ hr=>
  (zxe (yfy (zpf (zdp Xt) rfl (hr.mono (by decide)) rfl (zwm (yfm 0) (zwm yfb (zwm (zpi (u:=.int 1000000000000 (Xt.c_MOST_AMOUNT).choose) rfl (Xt.c_MOST_AMOUNT).choose_spec ⟨_,rfl⟩) ye6))))))))
abbrev zs9:Stmt:=top 26
noncomputable def zp5:Ev->M Fl:=
 (yuo (yrk (eUn (ys0 .tuple) (yrr 0)) (yrk (yrl oEq (ylv ys5 (yk5 (yrr 0) yqy)) (eC (.int 4))) (yrk (eFn 1 f_is_side [] (yk5 (yrl oIx (yrr 0) (eC (.int 0))) yqy)) (yrk (eFn 1 f_is_amount [] (yk5 (yrl oIx (yrr 0) (eC (.int 1))) yqy)) (yrk (eFn 1 f_is_word [] (yk5 (yrl oIx (yrr 0) (eC (.int 2))) yqy)) (eFn 1 f_is_day [] (yk5 (yrl oIx (yrr 0) (eC (.int 3))) yqy))))))))
noncomputable def f_is_tie:List D->M D:=hide fun ds=>frz (run 1 zp5 ds)
theorem zm7:FnScope ["thing"] ["thing"] (zot zs9):=scD rfl rfl rfl (by decide +kernel)
theorem zjy:BD "is_tie" "is_tie" zs9 ["thing"]:=
 fun _ _ _ _ _ _ us hl=>match us,hl with|[_],_=>rfl
theorem zmn(Xt:Txt K mg ca):OkF ⟨K,ca⟩ P w mg base 4 "is_tie" ["thing"] f_is_tie:=
 OkF.hide (OkF.frz (yn6 Xt.f_is_tie zm7 fun _ _ _ _ _ _ _ hr=>
  (zxe (yfy (ye7 (yfc .tuple (yfm 0) rfl Xt.n_isinstance rfl Xt.n_tuple boot_tuple) (ye7 (ye8 (yib (hu9 hr)) yuy (zpe zeh (ycg rfl) rfl Xt.n_len PySem.boot_len (zwm (yfm 0) ye6)) yfb (yhm _)) (ye7 (zpf (ziv Xt) rfl (hr.mono (by decide)) rfl (zwm (yl5 yr9 (yjv rfl) (yfm 0) yfb (fun _ _=>rfl)) ye6)) (ye7 (zpf (ze4 Xt) rfl (hr.mono (by decide)) rfl (zwm (yl5 yr9 (yjv rfl) (yfm 0) yfb (fun _ _=>rfl)) ye6)) (ye7 (zpf (ziw Xt) rfl (hr.mono (by decide)) rfl (zwm (yl5 yr9 (yjv rfl) (yfm 0) yfb (fun _ _=>rfl)) ye6)) (yfj (zpf (zml Xt) rfl (hr.mono (by decide)) rfl (zwm (yl5 yr9 (yjv rfl) (yfm 0) yfb (fun _ _=>rfl)) ye6))))))))))))
abbrev zi7:Stmt:=top 28
noncomputable def zh4:Ev->M Fl:=
 (yup (sIf (bOr (yq4 (eT (eUn (ys0 .tuple) (yrr 0)))) (eT (yrl oGt (ylv ys5 (yk5 (yrr 0) yqy)) (eC (.int 6))))) (yuo (eC (.bl false))) yum)
 (yup (sIf (yq4 (eT (ylv ysu (yk5 (yrm (eLC (yu1 (yrr 0)) [] (tgN 0) yle (eFn 1 f_is_tie [] (yk5 (yrr 0) yqy)))) yqy)))) (yuo (eC (.bl false))) yum)
 (yuo (yrl oEq (eUn zzz (yrm (eLC (yu1 (yrr 0)) [] (tgN 0) yle (yrl oIx (yrr 0) (eC (.int 2)))))) (ylv ys5 (yk5 (yrr 0) yqy))))))
noncomputable def f_are_ties:List D->M D:=hide fun ds=>frz (run 1 zh4 ds)
theorem zhc:FnScope ["thing"] ["thing"] (zot zi7):=scD rfl rfl rfl (by decide +kernel)
theorem zfu:BD "are_ties" "are_ties" zi7 ["thing"]:=
 fun _ _ _ _ _ _ us hl=>match us,hl with|[_],_=>rfl
theorem zgr(Xt:Txt K mg ca):OkF ⟨K,ca⟩ P w mg base 5 "are_ties" ["thing"] f_are_ties:=
 OkF.hide (OkF.frz (yn6 Xt.f_are_ties zhc fun _ _ _ _ _ _ _ hr=>
  (zp2 (ymj (L2.PW.pt (ymk (yf2 (yf3 (yfc .tuple (yfm 0) rfl Xt.n_isinstance rfl Xt.n_tuple boot_tuple))) (yf6 (yf1 yn9 yjt (zpe zeh (ycg rfl) rfl Xt.n_len PySem.boot_len (zwm (yfm 0) ye6)) (zpi (u:=.int 6 (Xt.c_MOST_TIES).choose) rfl (Xt.c_MOST_TIES).choose_spec ⟨_,rfl⟩) (yhm _))))) (zxe (yfy yl4)) zxd)
  (zp2 (ymj (yf2 (yf3 (zpe (zoc rfl) (ycb rfl) rfl Xt.n_all boot_all (zwm (yfa (yl6 (x:="tie") (M':=[]) (ix:=[]) rfl ⟨rfl,rfl,rfl,rfl,rfl,rfl⟩ (yfo rfl (yfm 0)) (fun _ _ _ _ _=>zwv (i:=0) (by show List.Nodup (("tie"::[]):List Str);decide +kernel) rfl (Or.inl rfl)) (fun _ _ _ _ _=>zwy) (fun _ _ _ _ _=>(zpf (zmn Xt) rfl (hr.mono (by decide)) rfl (zwm (yfm 0) ye6))))) ye6)))) (zxe (yfy yl4)) zxd)
  (zxe (yfy (ye8 (yib (hu9 hr)) yuy (zk5 rfl rfl rfl Xt.n_len rfl Xt.n_set (yfa (yl6 (x:="tie") (M':=[]) (ix:=[]) rfl ⟨rfl,rfl,rfl,rfl,rfl,rfl⟩ (yfo rfl (yfm 0)) (fun _ _ _ _ _=>zwv (i:=0) (by show List.Nodup (("tie"::[]):List Str);decide +kernel) rfl (Or.inl rfl)) (fun _ _ _ _ _=>zwy) (fun _ _ _ _ _=>(yl5 yr9 (yjv rfl) (yfm 0) yfb (fun _ _=>rfl)))))) (zpe zeh (ycg rfl) rfl Xt.n_len PySem.boot_len (zwm (yfm 0) ye6)) (yhm _))))))))
abbrev zfc:Stmt:=top 27
noncomputable def zeq:Ev->M Fl:=
 (yuo (yrk (eUn (ys0 .tuple) (yrr 0)) (yrk (yrl oEq (ylv ys5 (yk5 (yrr 0) yqy)) (eC (.int 2))) (yrk (eFn 3 f_is_between [] (yk5 (yrl oIx (yrr 0) (eC (.int 0))) (yk5 (eC (.int 0)) (yk5 (eC (.int 2000000000000)) yqy)))) (eFn 3 f_is_between [] (yk5 (yrl oIx (yrr 0) (eC (.int 1))) (yk5 (eC (.int 0)) (yk5 (eC (.int 2000000000000)) yqy))))))))
noncomputable def f_are_shares:List D->M D:=hide fun ds=>frz (run 1 zeq ds)
theorem zd0:FnScope ["thing"] ["thing"] (zot zfc):=scD rfl rfl rfl (by decide +kernel)
theorem zc9:BD "are_shares" "are_shares" zfc ["thing"]:=
 fun _ _ _ _ _ _ us hl=>match us,hl with|[_],_=>rfl
theorem zdn(Xt:Txt K mg ca):OkF ⟨K,ca⟩ P w mg base 3 "are_shares" ["thing"] f_are_shares:=
 OkF.hide (OkF.frz (yn6 Xt.f_are_shares zd0 fun _ _ _ _ _ _ _ hr=>
  (zxe (yfy (ye7 (yfc .tuple (yfm 0) rfl Xt.n_isinstance rfl Xt.n_tuple boot_tuple) (ye7 (ye8 (yib (hu9 hr)) yuy (zpe zeh (ycg rfl) rfl Xt.n_len PySem.boot_len (zwm (yfm 0) ye6)) yfb (yhm _)) (ye7 (zpf (zdp Xt) rfl (hr.mono (by decide)) rfl (zwm (yl5 yr9 (yjv rfl) (yfm 0) yfb (fun _ _=>rfl)) (zwm yfb (zwm (zpi (u:=.int 2000000000000 (Xt.c_MOST_SHARE).choose) rfl (Xt.c_MOST_SHARE).choose_spec ⟨_,rfl⟩) ye6)))) (yfj (zpf (zdp Xt) rfl (hr.mono (by decide)) rfl (zwm (yl5 yr9 (yjv rfl) (yfm 0) yfb (fun _ _=>rfl)) (zwm yfb (zwm (zpi (u:=.int 2000000000000 (Xt.c_MOST_SHARE).choose) rfl (Xt.c_MOST_SHARE).choose_spec ⟨_,rfl⟩) ye6))))))))))))
abbrev zi8:Stmt:=top 29
noncomputable def zh5:Ev->M Fl:=
 (yuo (yrk (eUn (ys0 .tuple) (yrr 0)) (yrk (yrl oEq (ylv ys5 (yk5 (yrr 0) yqy)) (eC (.int 3))) (yrk (eFn 1 f_is_number [] (yk5 (yrl oIx (yrr 0) (eC (.int 0))) yqy)) (yrk (eFn 1 f_are_shares [] (yk5 (yrl oIx (yrr 0) (eC (.int 1))) yqy)) (eFn 1 f_are_ties [] (yk5 (yrl oIx (yrr 0) (eC (.int 2))) yqy)))))))
noncomputable def f_is_stand:List D->M D:=hide fun ds=>frz (run 1 zh5 ds)
theorem zhd:FnScope ["thing"] ["thing"] (zot zi8):=scD rfl rfl rfl (by decide +kernel)
theorem zfv:BD "is_stand" "is_stand" zi8 ["thing"]:=
 fun _ _ _ _ _ _ us hl=>match us,hl with|[_],_=>rfl
theorem zgs(Xt:Txt K mg ca):OkF ⟨K,ca⟩ P w mg base 6 "is_stand" ["thing"] f_is_stand:=
 OkF.hide (OkF.frz (yn6 Xt.f_is_stand zhd fun _ _ _ _ _ _ _ hr=>
  (zxe (yfy (ye7 (yfc .tuple (yfm 0) rfl Xt.n_isinstance rfl Xt.n_tuple boot_tuple) (ye7 (ye8 (yib (hu9 hr)) yuy (zpe zeh (ycg rfl) rfl Xt.n_len PySem.boot_len (zwm (yfm 0) ye6)) yfb (yhm _)) (ye7 (zpf (ze5 Xt) rfl (hr.mono (by decide)) rfl (zwm (yl5 yr9 (yjv rfl) (yfm 0) yfb (fun _ _=>rfl)) ye6)) (ye7 (zpf (zdn Xt) rfl (hr.mono (by decide)) rfl (zwm (yl5 yr9 (yjv rfl) (yfm 0) yfb (fun _ _=>rfl)) ye6)) (yfj (zpf (zgr Xt) rfl (hr.mono (by decide)) rfl (zwm (yl5 yr9 (yjv rfl) (yfm 0) yfb (fun _ _=>rfl)) ye6)))))))))))
abbrev zi9:Stmt:=top 36
noncomputable def zh6:Ev->M Fl:=
 (yup (sIf (bOr (yq4 (eT (eUn (ys0 .tuple) (yrr 0)))) (bOr (eT (yrl oEq (ylv ys5 (yk5 (yrr 0) yqy)) (eC (.int 0)))) (yq4 (eT (eUn (ys0 .str) (yrl oIx (yrr 0) (eC (.int 0)))))))) (yuo (eC (.bl false))) yum)
 (yup (sIf (eT (yrl oEq (yrl oIx (yrr 0) (eC (.int 0))) (eC (.str "word")))) (yuo (yrk (yrl oEq (ylv ys5 (yk5 (yrr 0) yqy)) (eC (.int 2))) (eFn 1 f_is_word [] (yk5 (yrl oIx (yrr 0) (eC (.int 1))) yqy)))) yum)
 (yup (sIf (eT (yrl oEq (yrl oIx (yrr 0) (eC (.int 0))) (eC (.str "strike")))) (yuo (yrk (eFn 1 f_is_of_a_side [] (yk5 (yrr 0) yqy)) (eFn 1 f_is_number [] (yk5 (yrl oIx (yrr 0) (eC (.int 3))) yqy)))) yum)
 (yup (sIf (eT (yrl oEq (yrl oIx (yrr 0) (eC (.int 0))) (eC (.str "agree")))) (yuo (yrk (eFn 1 f_is_of_a_side [] (yk5 (yrr 0) yqy)) (eFn 1 f_is_stand [] (yk5 (yrl oIx (yrr 0) (eC (.int 3))) yqy)))) yum)
 (yuo (eC (.bl false)))))))
noncomputable def f_is_thing:List D->M D:=hide fun ds=>frz (run 1 zh6 ds)
theorem zhe:FnScope ["thing"] ["thing"] (zot zi9):=scD rfl rfl rfl (by decide +kernel)
theorem zfw:BD "is_thing" "is_thing" zi9 ["thing"]:=
 fun _ _ _ _ _ _ us hl=>match us,hl with|[_],_=>rfl
theorem zgt(Xt:Txt K mg ca):OkF ⟨K,ca⟩ P w mg base 7 "is_thing" ["thing"] f_is_thing:=
 OkF.hide (OkF.frz (yn6 Xt.f_is_thing zhe fun _ _ _ _ _ _ _ hr=>
  (zp2 (ymj (L2.PW.pt (ymk (yf2 (yf3 (yfc .tuple (yfm 0) rfl Xt.n_isinstance rfl Xt.n_tuple boot_tuple))) (ymk (yf1 (yib (hu9 hr)) yuy (zpe zeh (ycg rfl) rfl Xt.n_len PySem.boot_len (zwm (yfm 0) ye6)) yfb (yhm _)) (yf6 (yf2 (yf3 (yfc .str (yl5 yr9 (yjv rfl) (yfm 0) yfb (fun _ _=>rfl)) rfl Xt.n_isinstance rfl Xt.n_str boot_str))))))) (zxe (yfy yl4)) zxd)
  (zp2 (ymj (yf1 (yib (hu9 hr)) yuy (yl5 yr9 (yjv rfl) (yfm 0) yfb (fun _ _=>rfl)) yfk (yhm _)) (zxe (yfy (ye7 (ye8 (yib (hu9 hr)) yuy (zpe zeh (ycg rfl) rfl Xt.n_len PySem.boot_len (zwm (yfm 0) ye6)) yfb (yhm _)) (yfj (zpf (ziw Xt) rfl (hr.mono (by decide)) rfl (zwm (yl5 yr9 (yjv rfl) (yfm 0) yfb (fun _ _=>rfl)) ye6)))))) zxd)
  (zp2 (ymj (yf1 (yib (hu9 hr)) yuy (yl5 yr9 (yjv rfl) (yfm 0) yfb (fun _ _=>rfl)) yfk (yhm _)) (zxe (yfy (ye7 (zpf (zb8 Xt) rfl (hr.mono (by decide)) rfl (zwm (yfm 0) ye6)) (yfj (zpf (ze5 Xt) rfl (hr.mono (by decide)) rfl (zwm (yl5 yr9 (yjv rfl) (yfm 0) yfb (fun _ _=>rfl)) ye6)))))) zxd)
  (zp2 (ymj (yf1 (yib (hu9 hr)) yuy (yl5 yr9 (yjv rfl) (yfm 0) yfb (fun _ _=>rfl)) yfk (yhm _)) (zxe (yfy (ye7 (zpf (zb8 Xt) rfl (hr.mono (by decide)) rfl (zwm (yfm 0) ye6)) (yfj (zpf (zgs Xt) rfl (hr.mono (by decide)) rfl (zwm (yl5 yr9 (yjv rfl) (yfm 0) yfb (fun _ _=>rfl)) ye6)))))) zxd)
  (zxe (yfy yl4))))))))
abbrev za3:Stmt:=yno (top 40) 4
noncomputable def zaw:Ev->M Fl:=
 (yup (sIf (bOr (eT (yrl oNe (yrr 2) (eFn 1 f_other_side [] (yk5 (eUn (ysz [6,7] "side") (yrr 0)) yqy)))) (yq4 (eT (yro [(6,f_Laid_waits)] 2 "waits" (yrr 0) (yk5 (yrr 3) yqy))))) (yuo (eC (.bl false))) yum)
 (yuo (yrk (eFn 1 f_is_thing [] (yk5 (yrr 4) yqy)) (yrl oEq (yrr 4) (yrq (yk5 (eC (.str "strike")) (yk5 (yrr 1) (yk5 (eUn (ysz [6,7] "side") (yrr 0)) (yk5 (yrl oIx (eUn (ysz [6] "stand") (yrr 0)) (eC (.int 0))) yqy)))))))))
noncomputable def f_Laid_may_strike:List D->M D:=hide fun ds=>frz (run 5 zaw ds)
theorem zap:FnScope ["self", "pot", "side", "day", "thing"] ["self", "pot", "side", "day", "thing"] (zot za3):=scD rfl rfl rfl (by decide +kernel)
theorem zah:BD "may_strike" "Laid.may_strike" za3 ["self", "pot", "side", "day", "thing"]:=
 fun _ _ _ _ _ _ us hl=>match us,hl with|[_,_,_,_,_],_=>rfl
theorem zal(Xt:Txt K mg ca):OkA ⟨K,ca⟩ P w mg base 8 (ca 17) ["self", "pot", "side", "day", "thing"] f_Laid_may_strike:=
 OkA.hide (OkA.frz (yhz Xt.f_Laid_may_strike zap fun _ _ _ _ _ _ hr=>
  (zp2 (ymj (L2.PW.pt (ymk (yf1 (yig (hu9 hr)) yuy (yfm 2) (zpf (zdq Xt) rfl (hr.mono (by decide)) rfl (zwm (ye9 rfl (zpu (T:=⟨K,ca⟩) (c:=6) Xt.cl_Laid Xt.na_Laid_side (zpu (T:=⟨K,ca⟩) (c:=7) Xt.cl_Taken Xt.na_Taken_side zwz)) (yfm 0)) ye6)) (yhm _)) (yf6 (yf2 (yf3 (yfg (k:=1) (ps:=["self", "day"]) rfl (yfm 0) (zy9 (T:=⟨K,ca⟩) (c:=6) Xt.cl_Laid Xt.me_Laid_waits (zdk Xt) (by decide) yhi) (hr.mono (by decide)) (zwm (yfm 3) ye6))))))) (zxe (yfy yl4)) zxd)
  (zxe (yfy (ye7 (zpf (zgt Xt) rfl (hr.mono (by decide)) rfl (zwm (yfm 4) ye6)) (yfj (ye8 (yib (hu9 hr)) yuy (yfm 4) (yfl (zwm yfk (zwm (yfm 1) (zwm (ye9 rfl (zpu (T:=⟨K,ca⟩) (c:=6) Xt.cl_Laid Xt.na_Laid_side (zpu (T:=⟨K,ca⟩) (c:=7) Xt.cl_Taken Xt.na_Taken_side zwz)) (yfm 0)) (zwm (yl5 yr9 (yjv rfl) (ye9 rfl (zpu (T:=⟨K,ca⟩) (c:=6) Xt.cl_Laid Xt.na_Laid_stand zwz) (yfm 0)) yfb (fun _ _=>rfl)) ye6))))) (yhm _)))))))))
abbrev zam:Stmt:=yno (top 41) 3
noncomputable def zai:Ev->M Fl:=
 (yuo (eC (.bl false)))
noncomputable def f_Taken_may_strike:List D->M D:=hide fun ds=>frz (run 5 zai ds)
theorem zae:FnScope ["self", "pot", "side", "day", "thing"] ["self", "pot", "side", "day", "thing"] (zot zam):=scD rfl rfl rfl (by decide +kernel)
theorem zaa:BD "may_strike" "Taken.may_strike" zam ["self", "pot", "side", "day", "thing"]:=
 fun _ _ _ _ _ _ us hl=>match us,hl with|[_,_,_,_,_],_=>rfl
theorem zac(Xt:Txt K mg ca):OkA ⟨K,ca⟩ P w mg base 1 (ca 21) ["self", "pot", "side", "day", "thing"] f_Taken_may_strike:=
 OkA.hide (OkA.frz (yhz Xt.f_Taken_may_strike zae fun _ _ _ _ _ _ hr=>
  (zxe (yfy yl4))))
abbrev zbq:Stmt:=yno (top 41) 0
noncomputable def zbh:Ev->M Fl:=
 (yup (yuj (eFn 2 f_Claim___init__ [] (yk5 (yrr 0) (yk5 (yrr 1) yqy))))
 (yun [6,7] "side" (yrr 2) (yrr 0)))
noncomputable def f_Taken___init__:List D->M D:=hide (run 3 zbh)
theorem za8:FnScope ["self", "whole", "side"] ["self", "whole", "side"] (zot zbq):=scD rfl rfl rfl (by decide +kernel)
theorem zau:BD "__init__" "Taken.__init__" zbq ["self", "whole", "side"]:=
 fun _ _ _ _ _ _ us hl=>match us,hl with|[_,_,_],_=>rfl
theorem za1(Xt:Txt K mg ca):OkA ⟨K,ca⟩ P w mg base 3 (ca 18) ["self", "whole", "side"] f_Taken___init__:=
 OkA.hide (yhz Xt.f_Taken___init__ za8 fun _ _ _ _ _ _ hr=>
  (zp2 (zw9 (zpn (c:=4) ⟨Xt.m_Claim,Xt.us_Claim___init__,_,_,Xt.ur_Claim___init__,Xt.uf_Claim___init__,Xt.uk_Claim___init__,za0 Xt⟩ rfl (hr.mono (by decide)) rfl (zwm (yfm 0) (zwm (yfm 1) ye6))))
  (zxe (yfw rfl (zpu (T:=⟨K,ca⟩) (c:=6) Xt.cl_Laid Xt.na_Laid_side (zpu (T:=⟨K,ca⟩) (c:=7) Xt.cl_Taken Xt.na_Taken_side zwz)) (yfm 0) (yfm 2)))))
abbrev zdr:Stmt:=yno (top 50) 7
noncomputable def zdd:Ev->M Fl:=
 (yup (yuj (yro [(8,f_Book_check_pot)] 2 "check_pot" (yrr 0) (yk5 (yrr 1) yqy)))
 (yup (yuj (eFn 1 f_check_side [] (yk5 (yrr 2) yqy)))
 (yup (sIf (yq4 (eT (yro [(5,f_Held_may_strike),(6,f_Laid_may_strike),(7,f_Taken_may_strike)] 5 "may_strike" (yrl oIx (eUn (ysz [8] "claims") (yrr 0)) (yrr 1)) (yk5 (yrr 1) (yk5 (yrr 2) (yk5 (eUn (ysz [6,8] "day") (yrr 0)) (yk5 (yrr 3) yqy))))))) (yjj 2 (yk5 (eC (.str "there is nothing to strike with this")) yqy)) yum)
 (yo2 (yrm (yly 7 3 f_Taken___init__ (yk5 (eFn 1 f_whole_of [] (yk5 (yrl oIx (eUn (ysz [8] "pots") (yrr 0)) (yrr 1)) yqy)) (yk5 (yrr 2) yqy)))) (eUn (ysz [8] "claims") (yrr 0)) (yrr 1)))))
noncomputable def f_Book_strike:List D->M D:=hide (run 4 zdd)
theorem zc0:FnScope ["self", "pot", "side", "thing"] ["self", "pot", "side", "thing"] (zot zdr):=scD rfl rfl rfl (by decide +kernel)
theorem zch:BD "strike" "Book.strike" zdr ["self", "pot", "side", "thing"]:=
 fun _ _ _ _ _ _ us hl=>match us,hl with|[_,_,_,_],_=>rfl
theorem zcq(Xt:Txt K mg ca):OkA ⟨K,ca⟩ P w mg base 9 (ca 29) ["self", "pot", "side", "thing"] f_Book_strike:=
 OkA.hide (yhz Xt.f_Book_strike zc0 fun _ _ _ _ _ _ hr=>
  (zp2 (zw9 (yfg (k:=3) (ps:=["self", "pot"]) rfl (yfm 0) (zy9 (T:=⟨K,ca⟩) (c:=8) Xt.cl_Book Xt.me_Book_check_pot (zay Xt) (by decide) yhi) (hr.mono (by decide)) (zwm (yfm 1) ye6)))
  (zp2 (zw9 (zpf (zdo Xt) rfl (hr.mono (by decide)) rfl (zwm (yfm 2) ye6)))
  (zp2 (ymj (yf2 (yf3 (yfg (k:=8) (ps:=["self", "pot", "side", "day", "thing"]) rfl (yl5 yr9 (yjv rfl) (ye9 rfl (zpu (T:=⟨K,ca⟩) (c:=8) Xt.cl_Book Xt.na_Book_claims zwz) (yfm 0)) (yfm 1) (fun _ _=>rfl)) (zy9 (T:=⟨K,ca⟩) (c:=5) Xt.cl_Held Xt.me_Held_may_strike (zak Xt) (by decide) (zy9 (T:=⟨K,ca⟩) (c:=6) Xt.cl_Laid Xt.me_Laid_may_strike (zal Xt) (by decide) (zy9 (T:=⟨K,ca⟩) (c:=7) Xt.cl_Taken Xt.me_Taken_may_strike (zac Xt) (by decide) yhi))) (hr.mono (by decide)) (zwm (yfm 1) (zwm (yfm 2) (zwm (ye9 rfl (zpu (T:=⟨K,ca⟩) (c:=6) Xt.cl_Laid Xt.na_Laid_day (zpu (T:=⟨K,ca⟩) (c:=8) Xt.cl_Book Xt.na_Book_day zwz)) (yfm 0)) (zwm (yfm 3) ye6))))))) (zxe (zp1 2 PySem.F.excBase_ValueError rfl Xt.x_NoDeed Xt.m_NoDeed rfl rfl (zwm yfk ye6))) zxd)
  (zxe (zxc (yfa (zwr (c:=7) (ps:=["self", "whole", "side"]) ⟨_,Xt.m_Taken,Xt.mk_Taken,za1 Xt⟩ rfl (hr.mono (by decide)) rfl (zwm (zpf (zgv Xt) rfl (hr.mono (by decide)) rfl (zwm (yl5 yr9 (yjv rfl) (ye9 rfl (zpu (T:=⟨K,ca⟩) (c:=8) Xt.cl_Book Xt.na_Book_pots zwz) (yfm 0)) (yfm 1) (fun _ _=>rfl)) ye6)) (zwm (yfm 2) ye6)))) (ye9 rfl (zpu (T:=⟨K,ca⟩) (c:=8) Xt.cl_Book Xt.na_Book_claims zwz) (yfm 0)) (yfm 1)))))))
abbrev ybo:Stmt:=top 32
noncomputable def zxh:Ev->M Fl:=
 (yuo (yrl yst (ylv ytg (yk5 (yrl oIx (yrr 0) (eC (.int 1))) yqy)) (ylv ytg (yk5 (yrm (eLC (yu1 (yrl oIx (yrr 0) (eC (.int 2)))) [] (tgN 0) yle (yrl oIx (yrr 0) (eC (.int 1))))) yqy))))
noncomputable def f_deals:List D->M D:=hide fun ds=>frz (run 1 zxh ds)
theorem zta:FnScope ["one"] ["one"] (zot ybo):=scD rfl rfl rfl (by decide +kernel)
theorem zn7:BD "deals" "deals" ybo ["one"]:=
 fun _ _ _ _ _ _ us hl=>match us,hl with|[_],_=>rfl
theorem zr6(Xt:Txt K mg ca):OkF ⟨K,ca⟩ P w mg base 1 "deals" ["one"] f_deals:=
 OkF.hide (OkF.frz (yn6 Xt.f_deals zta fun _ _ _ _ _ _ _ hr=>
  (zxe (yfy (yl8 (yaa rfl) yuy (zpe (zkj rfl) (ycp rfl) rfl Xt.n_sum boot_sum (zwm (yl5 yr9 (yjv rfl) (yfm 0) yfb (fun _ _=>rfl)) ye6)) (zpe (zkj rfl) (ycp rfl) rfl Xt.n_sum boot_sum (zwm (yfa (yl6 (x:="tie") (M':=[]) (ix:=[]) rfl ⟨rfl,rfl,rfl,rfl,rfl,rfl⟩ (yfo rfl (yl5 yr9 (yjv rfl) (yfm 0) yfb (fun _ _=>rfl))) (fun _ _ _ _ _=>zwv (i:=0) (by show List.Nodup (("tie"::[]):List Str);decide +kernel) rfl (Or.inl rfl)) (fun _ _ _ _ _=>zwy) (fun _ _ _ _ _=>(yl5 yr9 (yjv rfl) (yfm 0) yfb (fun _ _=>rfl))))) ye6)))))))
abbrev zdu:Stmt:=top 33
noncomputable def zdg:Ev->M Fl:=
 (yuo (yrk (eFn 1 f_is_stand [] (yk5 (yrr 0) yqy)) (yrl oEq (eFn 1 f_deals [] (yk5 (yrr 0) yqy)) (yrr 1))))
noncomputable def f_is_stand_of:List D->M D:=hide fun ds=>frz (run 2 zdg ds)
theorem zc3:FnScope ["thing", "coin"] ["thing", "coin"] (zot zdu):=scD rfl rfl rfl (by decide +kernel)
theorem zck:BD "is_stand_of" "is_stand_of" zdu ["thing", "coin"]:=
 fun _ _ _ _ _ _ us hl=>match us,hl with|[_,_],_=>rfl
theorem zct(Xt:Txt K mg ca):OkF ⟨K,ca⟩ P w mg base 7 "is_stand_of" ["thing", "coin"] f_is_stand_of:=
 OkF.hide (OkF.frz (yn6 Xt.f_is_stand_of zc3 fun _ _ _ _ _ _ _ hr=>
  (zxe (yfy (ye7 (zpf (zgs Xt) rfl (hr.mono (by decide)) rfl (zwm (yfm 0) ye6)) (yfj (ye8 (yib (hu9 hr)) yuy (zpf (zr6 Xt) rfl (hr.mono (by decide)) rfl (zwm (yfm 0) ye6)) (yfm 1) (yhm _))))))))
abbrev zg7:Stmt:=top 48
noncomputable def zgc:Ev->M Fl:=
 (yuo (yrk (eFn 1 f_is_thing [] (yk5 (yrr 3) yqy)) (yrl oEq (yrr 3) (yrq (yk5 (eC (.str "agree")) (yk5 (yrr 0) (yk5 (eFn 1 f_other_side [] (yk5 (yrr 1) yqy)) (yk5 (yrr 2) yqy))))))))
noncomputable def f_is_agreed:List D->M D:=hide fun ds=>frz (run 4 zgc ds)
theorem zfn:FnScope ["pot", "side", "stand", "agreement"] ["pot", "side", "stand", "agreement"] (zot zg7):=scD rfl rfl rfl (by decide +kernel)
theorem zed:BD "is_agreed" "is_agreed" zg7 ["pot", "side", "stand", "agreement"]:=
 fun _ _ _ _ _ _ us hl=>match us,hl with|[_,_,_,_],_=>rfl
theorem ze3(Xt:Txt K mg ca):OkF ⟨K,ca⟩ P w mg base 8 "is_agreed" ["pot", "side", "stand", "agreement"] f_is_agreed:=
 OkF.hide (OkF.frz (yn6 Xt.f_is_agreed zfn fun _ _ _ _ _ _ _ hr=>
  (zxe (yfy (ye7 (zpf (zgt Xt) rfl (hr.mono (by decide)) rfl (zwm (yfm 3) ye6)) (yfj (ye8 (yib (hu9 hr)) yuy (yfm 3) (yfl (zwm yfk (zwm (yfm 0) (zwm (zpf (zdq Xt) rfl (hr.mono (by decide)) rfl (zwm (yfm 1) ye6)) (zwm (yfm 2) ye6))))) (yhm _))))))))
abbrev ybq:Stmt:=top 30
noncomputable def zxj:Ev->M Fl:=
 (yup (yuq 3 (yrq (yk5 (yrr 0) (yk5 (yrr 1) (yk5 (eIf (eT (yrl ys1 (yrr 2) (eC .non))) (yrq yqy) (yrr 2)) yqy)))))
 (yup (sIf (yq4 (eT (eFn 1 f_is_stand [] (yk5 (yrr 3) yqy)))) (yjj 1 (yk5 (eC (.str "number, shares and ties make no stand")) yqy)) yum)
 (yuo (yrr 3))))
noncomputable def f_stand:List D->M D:=hide fun ds=>frz (run 4 zxj ds)
theorem ztc:FnScope ["number", "shares", "ties", "made"] ["number", "shares", "ties"] (zot ybq):=scD rfl rfl rfl (by decide +kernel)
theorem zn9(t:Addr)(kV doc pm:Value)(an:Option Addr)(cdv ct:Value)(s:Shared)(o:Obj)(n:Nat)(us:List Value)(h1:s.heap.get? t=some o)(h2:o.data=.seq ([Value.none]:List Value).toArray n) :
  ((us++[]).length=(["number", "shares", "ties"]:List Str).length->BindsTo s (PySem.W.fnOf "stand" "stand" (zvu ybq) (zvv ybq) (zot ybq) (.ref t) kV doc pm an cdv ct) ⟨us,[]⟩ ((["number", "shares", "ties"]:List Str).zip (us++[])))/\
  ((us++[Value.none]).length=(["number", "shares", "ties"]:List Str).length->BindsTo s (PySem.W.fnOf "stand" "stand" (zvu ybq) (zvv ybq) (zot ybq) (.ref t) kV doc pm an cdv ct) ⟨us,[]⟩ ((["number", "shares", "ties"]:List Str).zip (us++[Value.none]))):=
 ⟨fun hl=>match us,(show us.length=3 by simpa using hl)with|[_,_,_],_=>BindsTo.of_defaults rfl h1 h2 rfl rfl,fun hl=>match us,(show us.length=2 by simpa using hl)with|[_,_],_=>BindsTo.of_defaults rfl h1 h2 rfl rfl⟩
theorem zr8(Xt:Txt K mg ca):OkD ⟨K,ca⟩ P w mg base 7 "stand" ["number", "shares", "ties"] [Value.none] f_stand:=
 OkD.hide (OkD.frz (yh2 Xt.f_stand ztc fun _ _ _ _ _ _ _ hr=>
  (zp2 (yfz (i:=3) ztc.nd rfl (Or.inl rfl) (yfl (zwm (yfm 0) (zwm (yfm 1) (zwm (zpj (yf1 yid yce (yfm 2) yfh (yhm _)) (yfl ye6) (yfm 2)) ye6)))))
  (zp2 (ymj (yf2 (yf3 (zpf (zgs Xt) rfl (hr.mono (by decide)) rfl (zwm (yfm 3) ye6)))) (zxe (zp1 1 PySem.F.excBase_ValueError rfl Xt.x_NoStand Xt.m_NoStand rfl rfl (zwm yfk ye6))) zxd)
  (zxe (yfy (yfm 3)))))))
abbrev ybp:Stmt:=top 31
noncomputable def zxi:Ev->M Fl:=
 (yuo (eFn 3 f_stand [.non] (yk5 (eC (.int 0)) (yk5 (yrq (yk5 (yrr 0) (yk5 (yrr 1) yqy))) yqy))))
noncomputable def f_first:List D->M D:=hide fun ds=>frz (run 2 zxi ds)
theorem ztb:FnScope ["left", "right"] ["left", "right"] (zot ybp):=scD rfl rfl rfl (by decide +kernel)
theorem zn8:BD "first" "first" ybp ["left", "right"]:=
 fun _ _ _ _ _ _ us hl=>match us,hl with|[_,_],_=>rfl
theorem zr7(Xt:Txt K mg ca):OkF ⟨K,ca⟩ P w mg base 8 "first" ["left", "right"] f_first:=
 OkF.hide (OkF.frz (yn6 Xt.f_first ztb fun _ _ _ _ _ _ _ hr=>
  (zxe (yfy (zk3 (zr8 Xt) rfl (hr.mono (by decide)) rfl zuk zsz (zwm yfb (zwm (yfl (zwm (yfm 0) (zwm (yfm 1) ye6))) ye6)))))))
abbrev zcw:Stmt:=yno (top 50) 5
noncomputable def zcm:Ev->M Fl:=
 (yup (sIf (yq4 (eT (eUn (ys2 (yr5 [(5,true),(6,false),(7,false),(8,false)])) (yrl oIx (eUn (ysz [8] "claims") (yrr 0)) (yrr 1))))) (yuo (eC (.bl false))) yum)
 (yup (yuq 5 (yrl oIx (eUn (ysz [8] "pots") (yrr 0)) (yrr 1)))
 (yuo (eOr (yrl oEq (yrr 3) (eFn 2 f_first [] (yk5 (yrl oIx (yrr 5) (eC (.int 2))) (yk5 (yrl oIx (yrr 5) (eC (.int 3))) yqy)))) (eFn 4 f_is_agreed [] (yk5 (yrr 1) (yk5 (yrr 2) (yk5 (yrr 3) (yk5 (yrr 4) yqy)))))))))
noncomputable def f_Book_may_lie:List D->M D:=hide fun ds=>frz (run 6 zcm ds)
theorem zcd:FnScope ["self", "pot", "side", "stand", "agreement", "made"] ["self", "pot", "side", "stand", "agreement"] (zot zcw):=scD rfl rfl rfl (by decide +kernel)
theorem zbw:BD "may_lie" "Book.may_lie" zcw ["self", "pot", "side", "stand", "agreement"]:=
 fun _ _ _ _ _ _ us hl=>match us,hl with|[_,_,_,_,_],_=>rfl
theorem zb5(Xt:Txt K mg ca):OkA ⟨K,ca⟩ P w mg base 9 (ca 27) ["self", "pot", "side", "stand", "agreement"] f_Book_may_lie:=
 OkA.hide (OkA.frz (yhz Xt.f_Book_may_lie zcd fun _ _ _ _ _ _ hr=>
  (zp2 (ymj (yf2 (yf3 (yfd (l:=[(5,true),(6,false),(7,false),(8,false)]) rfl (yl5 yr9 (yjv rfl) (ye9 rfl (zpu (T:=⟨K,ca⟩) (c:=8) Xt.cl_Book Xt.na_Book_claims zwz) (yfm 0)) (yfm 1) (fun _ _=>rfl)) rfl Xt.n_isinstance rfl (by decide) Xt.m_Held (zxz Xt.ik_Held Xt.io_Held_Held (zxz Xt.ik_Laid Xt.io_Laid_Held (zxz Xt.ik_Taken Xt.io_Taken_Held (zxz Xt.ik_Book Xt.io_Book_Held ygg))))))) (zxe (yfy yl4)) zxd)
  (zp2 (yfz (i:=5) zcd.nd rfl (Or.inl rfl) (yl5 yr9 (yjv rfl) (ye9 rfl (zpu (T:=⟨K,ca⟩) (c:=8) Xt.cl_Book Xt.na_Book_pots zwz) (yfm 0)) (yfm 1) (fun _ _=>rfl)))
  (zxe (yfy (yl9 (ye8 (yib (hu9 hr)) yuy (yfm 3) (zpf (zr7 Xt) rfl (hr.mono (by decide)) rfl (zwm (yl5 yr9 (yjv rfl) (yfm 5) yfb (fun _ _=>rfl)) (zwm (yl5 yr9 (yjv rfl) (yfm 5) yfb (fun _ _=>rfl)) ye6))) (yhm _)) (yfj (zpf (ze3 Xt) rfl (hr.mono (by decide)) rfl (zwm (yfm 1) (zwm (yfm 2) (zwm (yfm 3) (zwm (yfm 4) ye6)))))))))))))
abbrev zcb:Stmt:=yno (top 40) 0
noncomputable def zb2:Ev->M Fl:=
 (yup (yuj (eFn 2 f_Claim___init__ [] (yk5 (yrr 0) (yk5 (yrr 1) yqy))))
 (yup (yun [6,7] "side" (yrr 2) (yrr 0))
 (yup (yun [6] "stand" (yrr 3) (yrr 0))
 (yup (yun [6,8] "day" (yrr 4) (yrr 0))
 (yun [6] "wait" (yrr 5) (yrr 0))))))
noncomputable def f_Laid___init__:List D->M D:=hide (run 6 zb2)
theorem zbt:FnScope ["self", "whole", "side", "stand", "day", "wait"] ["self", "whole", "side", "stand", "day", "wait"] (zot zcb):=scD rfl rfl rfl (by decide +kernel)
theorem zbb:BD "__init__" "Laid.__init__" zcb ["self", "whole", "side", "stand", "day", "wait"]:=
 fun _ _ _ _ _ _ us hl=>match us,hl with|[_,_,_,_,_,_],_=>rfl
theorem zbk(Xt:Txt K mg ca):OkA ⟨K,ca⟩ P w mg base 3 (ca 13) ["self", "whole", "side", "stand", "day", "wait"] f_Laid___init__:=
 OkA.hide (yhz Xt.f_Laid___init__ zbt fun _ _ _ _ _ _ hr=>
  (zp2 (zw9 (zpn (c:=4) ⟨Xt.m_Claim,Xt.us_Claim___init__,_,_,Xt.ur_Claim___init__,Xt.uf_Claim___init__,Xt.uk_Claim___init__,za0 Xt⟩ rfl (hr.mono (by decide)) rfl (zwm (yfm 0) (zwm (yfm 1) ye6))))
  (zp2 (yfw rfl (zpu (T:=⟨K,ca⟩) (c:=6) Xt.cl_Laid Xt.na_Laid_side (zpu (T:=⟨K,ca⟩) (c:=7) Xt.cl_Taken Xt.na_Taken_side zwz)) (yfm 0) (yfm 2))
  (zp2 (yfw rfl (zpu (T:=⟨K,ca⟩) (c:=6) Xt.cl_Laid Xt.na_Laid_stand zwz) (yfm 0) (yfm 3))
  (zp2 (yfw rfl (zpu (T:=⟨K,ca⟩) (c:=6) Xt.cl_Laid Xt.na_Laid_day (zpu (T:=⟨K,ca⟩) (c:=8) Xt.cl_Book Xt.na_Book_day zwz)) (yfm 0) (yfm 4))
  (zxe (yfw rfl (zpu (T:=⟨K,ca⟩) (c:=6) Xt.cl_Laid Xt.na_Laid_wait zwz) (yfm 0) (yfm 5))))))))
abbrev zi5:Stmt:=yno (top 50) 6
noncomputable def zh2:Ev->M Fl:=
 (yup (yuj (yro [(8,f_Book_check_pot)] 2 "check_pot" (yrr 0) (yk5 (yrr 1) yqy)))
 (yup (yuj (eFn 1 f_check_side [] (yk5 (yrr 2) yqy)))
 (yup (yuq 5 (yrl oIx (eUn (ysz [8] "pots") (yrr 0)) (yrr 1)))
 (yup (sIf (yq4 (eT (eFn 2 f_is_stand_of [] (yk5 (yrr 3) (yk5 (eFn 1 f_whole_of [] (yk5 (yrr 5) yqy)) yqy))))) (yjj 1 (yk5 (eC (.str "this is no stand of the pot")) yqy)) yum)
 (yup (sIf (yq4 (eT (yro [(8,f_Book_may_lie)] 5 "may_lie" (yrr 0) (yk5 (yrr 1) (yk5 (yrr 2) (yk5 (yrr 3) (yk5 (yrr 4) yqy))))))) (yjj 2 (yk5 (eC (.str "this stand may not be laid down")) yqy)) yum)
 (yo2 (yrm (yly 6 6 f_Laid___init__ (yk5 (eFn 1 f_whole_of [] (yk5 (yrr 5) yqy)) (yk5 (yrr 2) (yk5 (yrr 3) (yk5 (eUn (ysz [6,8] "day") (yrr 0)) (yk5 (yrl oIx (yrr 5) (eC (.int 4))) yqy))))))) (eUn (ysz [8] "claims") (yrr 0)) (yrr 1)))))))
noncomputable def f_Book_lay:List D->M D:=hide (run 6 zh2)
theorem zha:FnScope ["self", "pot", "side", "stand", "agreement", "made"] ["self", "pot", "side", "stand", "agreement"] (zot zi5):=scD rfl rfl rfl (by decide +kernel)
theorem zfs(t:Addr)(kV doc pm:Value)(an:Option Addr)(cdv ct:Value)(s:Shared)(o:Obj)(n:Nat)(us:List Value)(h1:s.heap.get? t=some o)(h2:o.data=.seq ([Value.none]:List Value).toArray n) :
  ((us++[]).length=(["self", "pot", "side", "stand", "agreement"]:List Str).length->BindsTo s (PySem.W.fnOf "lay" "Book.lay" (zvu zi5) (zvv zi5) (zot zi5) (.ref t) kV doc pm an cdv ct) ⟨us,[]⟩ ((["self", "pot", "side", "stand", "agreement"]:List Str).zip (us++[])))/\
  ((us++[Value.none]).length=(["self", "pot", "side", "stand", "agreement"]:List Str).length->BindsTo s (PySem.W.fnOf "lay" "Book.lay" (zvu zi5) (zvv zi5) (zot zi5) (.ref t) kV doc pm an cdv ct) ⟨us,[]⟩ ((["self", "pot", "side", "stand", "agreement"]:List Str).zip (us++[Value.none]))):=
 ⟨fun hl=>match us,(show us.length=5 by simpa using hl)with|[_,_,_,_,_],_=>BindsTo.of_defaults rfl h1 h2 rfl rfl,fun hl=>match us,(show us.length=4 by simpa using hl)with|[_,_,_,_],_=>BindsTo.of_defaults rfl h1 h2 rfl rfl⟩
theorem zgp(Xt:Txt K mg ca):OkB ⟨K,ca⟩ P w mg base 10 (ca 28) ["self", "pot", "side", "stand", "agreement"] [Value.none] f_Book_lay:=
 OkB.hide (yh0 Xt.f_Book_lay zha fun _ _ _ _ _ _ hr=>
  (zp2 (zw9 (yfg (k:=3) (ps:=["self", "pot"]) rfl (yfm 0) (zy9 (T:=⟨K,ca⟩) (c:=8) Xt.cl_Book Xt.me_Book_check_pot (zay Xt) (by decide) yhi) (hr.mono (by decide)) (zwm (yfm 1) ye6)))
  (zp2 (zw9 (zpf (zdo Xt) rfl (hr.mono (by decide)) rfl (zwm (yfm 2) ye6)))
  (zp2 (yfz (i:=5) zha.nd rfl (Or.inl rfl) (yl5 yr9 (yjv rfl) (ye9 rfl (zpu (T:=⟨K,ca⟩) (c:=8) Xt.cl_Book Xt.na_Book_pots zwz) (yfm 0)) (yfm 1) (fun _ _=>rfl)))
  (zp2 (ymj (yf2 (yf3 (zpf (zct Xt) rfl (hr.mono (by decide)) rfl (zwm (yfm 3) (zwm (zpf (zgv Xt) rfl (hr.mono (by decide)) rfl (zwm (yfm 5) ye6)) ye6))))) (zxe (zp1 1 PySem.F.excBase_ValueError rfl Xt.x_NoStand Xt.m_NoStand rfl rfl (zwm yfk ye6))) zxd)
  (zp2 (ymj (yf2 (yf3 (yfg (k:=9) (ps:=["self", "pot", "side", "stand", "agreement"]) rfl (yfm 0) (zy9 (T:=⟨K,ca⟩) (c:=8) Xt.cl_Book Xt.me_Book_may_lie (zb5 Xt) (by decide) yhi) (hr.mono (by decide)) (zwm (yfm 1) (zwm (yfm 2) (zwm (yfm 3) (zwm (yfm 4) ye6))))))) (zxe (zp1 2 PySem.F.excBase_ValueError rfl Xt.x_NoDeed Xt.m_NoDeed rfl rfl (zwm yfk ye6))) zxd)
  (zxe (zxc (yfa (zwr (c:=6) (ps:=["self", "whole", "side", "stand", "day", "wait"]) ⟨_,Xt.m_Laid,Xt.mk_Laid,zbk Xt⟩ rfl (hr.mono (by decide)) rfl (zwm (zpf (zgv Xt) rfl (hr.mono (by decide)) rfl (zwm (yfm 5) ye6)) (zwm (yfm 2) (zwm (yfm 3) (zwm (ye9 rfl (zpu (T:=⟨K,ca⟩) (c:=6) Xt.cl_Laid Xt.na_Laid_day (zpu (T:=⟨K,ca⟩) (c:=8) Xt.cl_Book Xt.na_Book_day zwz)) (yfm 0)) (zwm (yl5 yr9 (yjv rfl) (yfm 5) yfb (fun _ _=>rfl)) ye6))))))) (ye9 rfl (zpu (T:=⟨K,ca⟩) (c:=8) Xt.cl_Book Xt.na_Book_claims zwz) (yfm 0)) (yfm 1)))))))))
abbrev zg5:Stmt:=top 60
noncomputable def zga:Ev->M Fl:=
 (yup (yuq 2 (eC (.str "done")))
 (yup (yuq 3 (eC (.bl true)))
 (yup (yur (sIf (eT (yrl oEq (yrl oIx (yrr 1) (eC (.int 0))) (eC (.str "day")))) (yuj (yro [(8,f_Book_next_day)] 1 "next_day" (yrr 0) yqy)) (sIf (eT (yrl oEq (yrl oIx (yrr 1) (eC (.int 0))) (eC (.str "show")))) (yuj (yro [(8,f_Book_show)] 3 "show" (yrr 0) (yk5 (yrl oIx (yrr 1) (eC (.int 1))) (yk5 (yrl oIx (yrr 1) (eC (.int 2))) yqy)))) (sIf (eT (yrl oEq (yrl oIx (yrr 1) (eC (.int 0))) (eC (.str "strike")))) (yuj (yro [(8,f_Book_strike)] 4 "strike" (yrr 0) (yk5 (yrl oIx (yrr 1) (eC (.int 1))) (yk5 (yrl oIx (yrr 1) (eC (.int 2))) (yk5 (yrl oIx (yrr 1) (eC (.int 3))) yqy))))) (sIf (eT (yrl ys1 (yrl oIx (yrr 1) (eC (.int 4))) (eC .non))) (yuj (yro [(8,fun ds=>f_Book_lay (ds++[.non]))] 4 "lay" (yrr 0) (yk5 (yrl oIx (yrr 1) (eC (.int 1))) (yk5 (yrl oIx (yrr 1) (eC (.int 2))) (yk5 (yrl oIx (yrr 1) (eC (.int 3))) yqy))))) (yuj (yro [(8,f_Book_lay)] 5 "lay" (yrr 0) (yk5 (yrl oIx (yrr 1) (eC (.int 1))) (yk5 (yrl oIx (yrr 1) (eC (.int 2))) (yk5 (yrl oIx (yrr 1) (eC (.int 3))) (yk5 (yrl oIx (yrr 1) (eC (.int 4))) yqy)))))))))) (⟨(yr5 [(0,false),(1,false),(2,true)]),some 4,(yup (yuq 2 (eC (.str "deed")))
 (yuq 3 (yrk (eUn (ys3 (yr5 [(0,true),(1,true),(2,true)])) (yrr 4)) (yrp (eUn (ys3 (yr5 [(0,false),(1,true),(2,false)])) (yrr 4))))))⟩::(⟨(yr5 [(0,false),(1,true),(2,false)]),some 4,(yup (yuq 2 (eC (.str "stand")))
 (yuq 3 (yrk (eUn (ys3 (yr5 [(0,true),(1,true),(2,true)])) (yrr 4)) (yrp (eUn (ys3 (yr5 [(0,false),(1,false),(2,true)])) (yrr 4))))))⟩::[])))
 (yuo (yrl ys4 (eLv (yk5 (yrr 2) (yk5 (eC (.str "mixed")) yqy))) (yrp (yrr 3)))))))
noncomputable def f__law_done:List D->M D:=hide (run 5 zga)
theorem zfl:FnScope ["_law_book", "_law_deed_here", "_law_word", "_law_plain", "e"] ["_law_book", "_law_deed_here"] (zot zg5):=scD rfl rfl rfl (by decide +kernel)
theorem zeb:BD "_law_done" "_law_done" zg5 ["_law_book", "_law_deed_here"]:=
 fun _ _ _ _ _ _ us hl=>match us,hl with|[_,_],_=>rfl
theorem ze1(Xt:Txt K mg ca):OkF ⟨K,ca⟩ P w mg base 11 "_law_done" ["_law_book", "_law_deed_here"] f__law_done:=
 OkF.hide (yn6 Xt.f__law_done zfl fun _ _ _ _ _ _ _ hr=>
  (zp2 (yfz (i:=2) zfl.nd rfl (Or.inl rfl) yfk)
  (zp2 (yfz (i:=3) zfl.nd rfl (Or.inl rfl) yl4)
  (zp2 (yf0 rfl rfl (fun _ _ hpo=>(zxe (ymj (yf1 (yib (hu9 hr)) yuy (yl5 yr9 (yjv rfl) (yfm 1) yfb (fun _ _=>rfl)) yfk (yhm _)) (zxe (zw9 (zwt (k:=1) (ps:=["self"]) rfl (yfm 0) (zy9 (T:=⟨K,ca⟩) (c:=8) Xt.cl_Book Xt.me_Book_next_day (zbj Xt) (by decide) yhi) (hr.mono (by decide))))) (zxe (ymj (yf1 (yib (hu9 hr)) yuy (yl5 yr9 (yjv rfl) (yfm 1) yfb (fun _ _=>rfl)) yfk (yhm _)) (zxe (zw9 (yfg (k:=4) (ps:=["self", "pot", "word"]) rfl (yfm 0) (zy9 (T:=⟨K,ca⟩) (c:=8) Xt.cl_Book Xt.me_Book_show (zew Xt) (by decide) yhi) (hr.mono (by decide)) (zwm (yl5 yr9 (yjv rfl) (yfm 1) yfb (fun _ _=>rfl)) (zwm (yl5 yr9 (yjv rfl) (yfm 1) yfb (fun _ _=>rfl)) ye6))))) (zxe (ymj (yf1 (yib (hu9 hr)) yuy (yl5 yr9 (yjv rfl) (yfm 1) yfb (fun _ _=>rfl)) yfk (yhm _)) (zxe (zw9 (yfg (k:=9) (ps:=["self", "pot", "side", "thing"]) rfl (yfm 0) (zy9 (T:=⟨K,ca⟩) (c:=8) Xt.cl_Book Xt.me_Book_strike (zcq Xt) (by decide) yhi) (hr.mono (by decide)) (zwm (yl5 yr9 (yjv rfl) (yfm 1) yfb (fun _ _=>rfl)) (zwm (yl5 yr9 (yjv rfl) (yfm 1) yfb (fun _ _=>rfl)) (zwm (yl5 yr9 (yjv rfl) (yfm 1) yfb (fun _ _=>rfl)) ye6)))))) (zxe (ymj (yf1 yid yce (yl5 yr9 (yjv rfl) (yfm 1) yfb (fun _ _=>rfl)) yfh (yhm _)) (zxe (zw9 (zpl (n:=4) (dds:=[.non]) (dvs:=[.non]) (k:=10) (c:=8) (ps:=["self", "pot", "side", "stand", "agreement"]) rfl (yfm 0) Xt.cl_Book Xt.me_Book_lay (zgp Xt) zuk zsz rfl (hr.mono (by decide)) (zwm (yl5 yr9 (yjv rfl) (yfm 1) yfb (fun _ _=>rfl)) (zwm (yl5 yr9 (yjv rfl) (yfm 1) yfb (fun _ _=>rfl)) (zwm (yl5 yr9 (yjv rfl) (yfm 1) yfb (fun _ _=>rfl)) ye6)))))) (zxe (zw9 (zwu (k:=10) (c:=8) (ps:=["self", "pot", "side", "stand", "agreement"]) rfl (yfm 0) Xt.cl_Book Xt.me_Book_lay (zgp Xt) (hr.mono (by decide)) (zwm (yl5 yr9 (yjv rfl) (yfm 1) yfb (fun _ _=>rfl)) (zwm (yl5 yr9 (yjv rfl) (yfm 1) yfb (fun _ _=>rfl)) (zwm (yl5 yr9 (yjv rfl) (yfm 1) yfb (fun _ _=>rfl)) (zwm (yl5 yr9 (yjv rfl) (yfm 1) yfb (fun _ _=>rfl)) ye6)))))))))))))))) (.consAs (i:=4) rfl (by decide) (.inl Xt.m_NoDeed) (ymq (zxr Xt.e_BookError_NoDeed (zxr Xt.e_NoStand_NoDeed (zxr Xt.e_NoDeed_NoDeed ygc)))) zfl.nd rfl rfl (fun _=>(zp2 (yfz (i:=2) zfl.nd rfl (Or.inl rfl) yfk)
  (zxe (yfz (i:=3) zfl.nd rfl (Or.inl rfl) (ye7 (yfe (t:=yr5 [(0,true),(1,true),(2,true)]) (yfm 4) rfl Xt.n_isinstance rfl (by decide) (.own Xt.m_BookError) (ymw (zx3 Xt.xk_BookError Xt.i_BookError_BookError (zx3 Xt.xk_NoStand Xt.i_NoStand_BookError (zx3 Xt.xk_NoDeed Xt.i_NoDeed_BookError ygi))))) (yfj (yfi (yfe (t:=yr5 [(0,false),(1,true),(2,false)]) (yfm 4) rfl Xt.n_isinstance rfl (by decide) (.own Xt.m_NoStand) (ymw (zx3 Xt.xk_BookError Xt.i_BookError_NoStand (zx3 Xt.xk_NoStand Xt.i_NoStand_NoStand (zx3 Xt.xk_NoDeed Xt.i_NoDeed_NoStand ygi)))))))))))) (.consAs (i:=4) rfl (by decide) (.inl Xt.m_NoStand) (ymq (zxr Xt.e_BookError_NoStand (zxr Xt.e_NoStand_NoStand (zxr Xt.e_NoDeed_NoStand ygc)))) zfl.nd rfl rfl (fun _=>(zp2 (yfz (i:=2) zfl.nd rfl (Or.inl rfl) yfk)
  (zxe (yfz (i:=3) zfl.nd rfl (Or.inl rfl) (ye7 (yfe (t:=yr5 [(0,true),(1,true),(2,true)]) (yfm 4) rfl Xt.n_isinstance rfl (by decide) (.own Xt.m_BookError) (ymw (zx3 Xt.xk_BookError Xt.i_BookError_BookError (zx3 Xt.xk_NoStand Xt.i_NoStand_BookError (zx3 Xt.xk_NoDeed Xt.i_NoDeed_BookError ygi))))) (yfj (yfi (yfe (t:=yr5 [(0,false),(1,false),(2,true)]) (yfm 4) rfl Xt.n_isinstance rfl (by decide) (.own Xt.m_NoDeed) (ymw (zx3 Xt.xk_BookError Xt.i_BookError_NoDeed (zx3 Xt.xk_NoStand Xt.i_NoStand_NoDeed (zx3 Xt.xk_NoDeed Xt.i_NoDeed_NoDeed ygi)))))))))))) .nil)))
  (zxe (yfy (yl5 zx2 ycf (yl7 (zwm (yfm 2) (zwm yfk ye6))) (yfi (yfm 3)) (fun _ _=>rfl))))))))
abbrev zcc:Stmt:=top 58
noncomputable def zb3:Ev->M Fl:=
 (yup (sIf (bOr (yq4 (eT (eUn (ys0 .tuple) (yrr 0)))) (bOr (eT (yrl oNe (ylv ys5 (yk5 (yrr 0) yqy)) (eC (.int 3)))) (eT (yrl oLt (ylv (ys6 mnL) (yk5 (yrl oIx (yrr 0) (eC (.int 1))) yqy)) (eC (.int 0)))))) (yuo (eC (.bl false))) yum)
 (yuo (yrl oEq (yrl yst (ylv ytg (yk5 (yrl oIx (yrr 0) (eC (.int 1))) yqy)) (ylv ytg (yk5 (yrm (eLC (yu1 (yrl oIx (yrr 0) (eC (.int 2)))) [] (tgN 0) yle (yrl oIx (yrr 0) (eC (.int 1))))) yqy))) (yrr 1))))
noncomputable def f__law_is_stand:List D->M D:=hide fun ds=>frz (run 2 zb3 ds)
theorem zbu:FnScope ["_law_one", "_law_whole"] ["_law_one", "_law_whole"] (zot zcc):=scD rfl rfl rfl (by decide +kernel)
theorem zbc:BD "_law_is_stand" "_law_is_stand" zcc ["_law_one", "_law_whole"]:=
 fun _ _ _ _ _ _ us hl=>match us,hl with|[_,_],_=>rfl
theorem zbl(Xt:Txt K mg ca):OkF ⟨K,ca⟩ P w mg base 1 "_law_is_stand" ["_law_one", "_law_whole"] f__law_is_stand:=
 OkF.hide (OkF.frz (yn6 Xt.f__law_is_stand zbu fun _ _ _ _ _ _ _ hr=>
  (zp2 (ymj (L2.PW.pt (ymk (yf2 (yf3 (yfc .tuple (yfm 0) rfl Xt.n_isinstance rfl Xt.n_tuple boot_tuple))) (ymk (yf1 (yig (hu9 hr)) yuy (zpe zeh (ycg rfl) rfl Xt.n_len PySem.boot_len (zwm (yfm 0) ye6)) yfb (yhm _)) (yf6 (yf1 yob yjx (zpe (zkc rfl) (ych rfl) rfl Xt.n_min boot_min (zwm (yl5 yr9 (yjv rfl) (yfm 0) yfb (fun _ _=>rfl)) ye6)) yfb (yhm _)))))) (zxe (yfy yl4)) zxd)
  (zxe (yfy (ye8 (yib (hu9 hr)) yuy (yl8 (yaa rfl) yuy (zpe (zkj rfl) (ycp rfl) rfl Xt.n_sum boot_sum (zwm (yl5 yr9 (yjv rfl) (yfm 0) yfb (fun _ _=>rfl)) ye6)) (zpe (zkj rfl) (ycp rfl) rfl Xt.n_sum boot_sum (zwm (yfa (yl6 (x:="_law_tie") (M':=[]) (ix:=[]) rfl ⟨rfl,rfl,rfl,rfl,rfl,rfl⟩ (yfo rfl (yl5 yr9 (yjv rfl) (yfm 0) yfb (fun _ _=>rfl))) (fun _ _ _ _ _=>zwv (i:=0) (by show List.Nodup (("_law_tie"::[]):List Str);decide +kernel) rfl (Or.inl rfl)) (fun _ _ _ _ _=>zwy) (fun _ _ _ _ _=>(yl5 yr9 (yjv rfl) (yfm 0) yfb (fun _ _=>rfl))))) ye6))) (yfm 1) (yhm _)))))))
abbrev zi6:Stmt:=top 59
noncomputable def zh3:Ev->M Fl:=
 (yup (sIf (eT (yrl oEq (yrl oIx (yrr 1) (eC (.int 0))) (eC (.str "day")))) (yup (yo1 (yrl yst (yrl yny (yrr 0) (eC (.str "day"))) (eC (.int 1))) (yrr 0) (eC (.str "day")))
 (yuo (eC (.str "done")))) yum)
 (yup (yuq 2 (yrl oIx (yrr 1) (eC (.int 1))))
 (yup (sIf (bOr (eT (yrl oLt (yrr 2) (eC (.int 0)))) (eT (yrl oGe (yrr 2) (ylv ys5 (yk5 (yrl yny (yrr 0) (eC (.str "pots"))) yqy))))) (yuo (eC (.str "deed"))) yum)
 (yup (sIf (eT (yrl oEq (yrl oIx (yrr 1) (eC (.int 0))) (eC (.str "show")))) (yup (sIf (bOr (eT (yrl oLt (yrl oIx (yrr 1) (eC (.int 2))) (eC (.int 0)))) (eT (yrl oGt (yrl oIx (yrr 1) (eC (.int 2))) (eC (.int 59))))) (yuo (eC (.str "deed"))) yum)
 (yup (yuj (yeq zz5 (yrl oIx (yrl yny (yrr 0) (eC (.str "shows"))) (yrr 2)) (yk5 (yrl oIx (yrr 1) (eC (.int 2))) (yk5 (yrl yny (yrr 0) (eC (.str "day"))) yqy))))
 (yuo (eC (.str "done"))))) yum)
 (yup (sIf (eT (yrl (oIn true) (yrl oIx (yrr 1) (eC (.int 2))) (eLv (yk5 (eC (.int 0)) (yk5 (eC (.int 1)) yqy))))) (yuo (eC (.str "deed"))) yum)
 (yup (yuq 3 (yrl oIx (yrl yny (yrr 0) (eC (.str "claims"))) (yrr 2)))
 (yup (yuh (yrl oIx (yrl yny (yrr 0) (eC (.str "pots"))) (yrr 2)) (tgT 5 (yj7 (tgN 4) (yj7 (tgN 5) (yj7 (tgN 6) (yj7 (tgN 7) (yj7 (tgN 8) ypt)))))))
 (yup (sIf (eT (yrl oEq (yrl oIx (yrr 1) (eC (.int 0))) (eC (.str "strike")))) (yup (sIf (bOr (eT (yrl oNe (yrl oIx (yrr 3) (eC (.int 0))) (eC (.str "laid")))) (bOr (eT (yrl oEq (yrl oIx (yrr 3) (eC (.int 1))) (yrl oIx (yrr 1) (eC (.int 2))))) (eT (yrl oGe (yrl yny (yrr 0) (eC (.str "day"))) (yrl yst (yrl oIx (yrr 3) (eC (.int 3))) (yrr 8)))))) (yuo (eC (.str "deed"))) yum)
 (yup (sIf (eT (yrl oNe (yrl oIx (yrr 1) (eC (.int 3))) (yrq (yk5 (eC (.str "strike")) (yk5 (yrr 2) (yk5 (yrl oIx (yrr 3) (eC (.int 1))) (yk5 (yrl oIx (yrl oIx (yrr 3) (eC (.int 2))) (eC (.int 0))) yqy))))))) (yuo (eC (.str "deed"))) yum)
 (yup (yo2 (yrq (yk5 (eC (.str "taken")) (yk5 (yrl oIx (yrr 1) (eC (.int 2))) yqy))) (yrl yny (yrr 0) (eC (.str "claims"))) (yrr 2))
 (yuo (eC (.str "done")))))) yum)
 (yup (sIf (yq4 (eT (eFn 2 f__law_is_stand [] (yk5 (yrl oIx (yrr 1) (eC (.int 3))) (yk5 (yrl yst (yrr 6) (yrr 7)) yqy))))) (yuo (eC (.str "stand"))) yum)
 (yup (sIf (bOr (eT (yrl oNe (yrr 3) (yrq (yk5 (eC (.str "held")) yqy)))) (yq3 (eT (yrl oNe (yrl oIx (yrr 1) (eC (.int 3))) (yrq (yk5 (eC (.int 0)) (yk5 (yrq (yk5 (yrr 6) (yk5 (yrr 7) yqy))) (yk5 (yrq yqy) yqy)))))) (eT (yrl oNe (yrl oIx (yrr 1) (eC (.int 4))) (yrq (yk5 (eC (.str "agree")) (yk5 (yrr 2) (yk5 (yrl ytf (eC (.int 1)) (yrl oIx (yrr 1) (eC (.int 2)))) (yk5 (yrl oIx (yrr 1) (eC (.int 3))) yqy))))))))) (yuo (eC (.str "deed"))) yum)
 (yup (yo2 (yrq (yk5 (eC (.str "laid")) (yk5 (yrl oIx (yrr 1) (eC (.int 2))) (yk5 (yrl oIx (yrr 1) (eC (.int 3))) (yk5 (yrl yny (yrr 0) (eC (.str "day"))) yqy))))) (yrl yny (yrr 0) (eC (.str "claims"))) (yrr 2))
 (yuo (eC (.str "done"))))))))))))))
noncomputable def f__law_due:List D->M D:=hide (run 9 zh3)
theorem zhb:FnScope ["_law_model", "_law_deed_here", "_law_pot", "_law_claim", "_law_left", "_law_right", "_law_one", "_law_other", "_law_wait"] ["_law_model", "_law_deed_here"] (zot zi6):=scD rfl rfl rfl (by decide +kernel)
theorem zft:BD "_law_due" "_law_due" zi6 ["_law_model", "_law_deed_here"]:=
 fun _ _ _ _ _ _ us hl=>match us,hl with|[_,_],_=>rfl
theorem zgq(Xt:Txt K mg ca):OkF ⟨K,ca⟩ P w mg base 2 "_law_due" ["_law_model", "_law_deed_here"] f__law_due:=
 OkF.hide (yn6 Xt.f__law_due zhb fun _ _ _ _ _ _ _ hr=>
  (zp2 (ymj (yf1 (yib (hu9 hr)) yuy (yl5 yr9 (yjv rfl) (yfm 1) yfb (fun _ _=>rfl)) yfk (yhm _)) (zp2 (zxb (hu9 hr) (yl8 (yaa rfl) yuy (zwo (hu9 hr) (yfm 0) yfk (fun _ _=>rfl)) yfb) (yfm 0) yfk)
  (zxe (yfy yfk))) zxd)
  (zp2 (yfz (i:=2) zhb.nd rfl (Or.inl rfl) (yl5 yr9 (yjv rfl) (yfm 1) yfb (fun _ _=>rfl)))
  (zp2 (ymj (L2.PW.pt (ymk (yf1 yob yjx (yfm 2) yfb (yhm _)) (yf6 (yf1 yn8 yjs (yfm 2) (zpe zeh (ycg rfl) rfl Xt.n_len PySem.boot_len (zwm (zwo (hu9 hr) (yfm 0) yfk (fun _ _=>rfl)) ye6)) (yhm _))))) (zxe (yfy yfk)) zxd)
  (zp2 (ymj (yf1 (yib (hu9 hr)) yuy (yl5 yr9 (yjv rfl) (yfm 1) yfb (fun _ _=>rfl)) yfk (yhm _)) (zp2 (ymj (L2.PW.pt (ymk (yf1 yob yjx (yl5 yr9 (yjv rfl) (yfm 1) yfb (fun _ _=>rfl)) yfb (yhm _)) (yf6 (yf1 yn9 yjt (yl5 yr9 (yjv rfl) (yfm 1) yfb (fun _ _=>rfl)) yfb (yhm _))))) (zxe (yfy yfk)) zxd)
  (zp2 (zw9 (zpk PySem.F.plainAttrs_dict PySem.F.slot_dict_setdefault PySem.F.type_dict_setdefault zmg zjn (yl5 yr9 (yjv rfl) (zwo (hu9 hr) (yfm 0) yfk (fun _ _=>rfl)) (yfm 2) (fun _ _=>rfl)) (zwm (yl5 yr9 (yjv rfl) (yfm 1) yfb (fun _ _=>rfl)) (zwm (zwo (hu9 hr) (yfm 0) yfk (fun _ _=>rfl)) ye6))))
  (zxe (yfy yfk)))) zxd)
  (zp2 (ymj (yf1 ze6 (yju rfl true) (yl5 yr9 (yjv rfl) (yfm 1) yfb (fun _ _=>rfl)) (yl7 (zwm yfb (zwm yfb ye6))) rfl) (zxe (yfy yfk)) zxd)
  (zp2 (yfz (i:=3) zhb.nd rfl (Or.inl rfl) (yl5 yr9 (yjv rfl) (zwo (hu9 hr) (yfm 0) yfk (fun _ _=>rfl)) (yfm 2) (fun _ _=>rfl)))
  (zp2 (yfu (yl5 yr9 (yjv rfl) (zwo (hu9 hr) (yfm 0) yfk (fun _ _=>rfl)) (yfm 2) (fun _ _=>rfl)) (yfn rfl (zpo (zwv (i:=4) zhb.nd rfl (Or.inl rfl)) (zpo (zwv (i:=5) zhb.nd rfl (Or.inl rfl)) (zpo (zwv (i:=6) zhb.nd rfl (Or.inl rfl)) (zpo (zwv (i:=7) zhb.nd rfl (Or.inl rfl)) (zpo (zwv (i:=8) zhb.nd rfl (Or.inl rfl)) zww)))))))
  (zp2 (ymj (yf1 (yib (hu9 hr)) yuy (yl5 yr9 (yjv rfl) (yfm 1) yfb (fun _ _=>rfl)) yfk (yhm _)) (zp2 (ymj (L2.PW.pt (ymk (yf1 (yig (hu9 hr)) yuy (yl5 yr9 (yjv rfl) (yfm 3) yfb (fun _ _=>rfl)) yfk (yhm _)) (ymk (yf1 (yib (hu9 hr)) yuy (yl5 yr9 (yjv rfl) (yfm 3) yfb (fun _ _=>rfl)) (yl5 yr9 (yjv rfl) (yfm 1) yfb (fun _ _=>rfl)) (yhm _)) (yf6 (yf1 yn8 yjs (zwo (hu9 hr) (yfm 0) yfk (fun _ _=>rfl)) (yl8 (yaa rfl) yuy (yl5 yr9 (yjv rfl) (yfm 3) yfb (fun _ _=>rfl)) (yfm 8)) (yhm _)))))) (zxe (yfy yfk)) zxd)
  (zp2 (ymj (yf1 (yig (hu9 hr)) yuy (yl5 yr9 (yjv rfl) (yfm 1) yfb (fun _ _=>rfl)) (yfl (zwm yfk (zwm (yfm 2) (zwm (yl5 yr9 (yjv rfl) (yfm 3) yfb (fun _ _=>rfl)) (zwm (yl5 yr9 (yjv rfl) (yl5 yr9 (yjv rfl) (yfm 3) yfb (fun _ _=>rfl)) yfb (fun _ _=>rfl)) ye6))))) (yhm _)) (zxe (yfy yfk)) zxd)
  (zp2 (zxc (yfl (zwm yfk (zwm (yl5 yr9 (yjv rfl) (yfm 1) yfb (fun _ _=>rfl)) ye6))) (zwo (hu9 hr) (yfm 0) yfk (fun _ _=>rfl)) (yfm 2))
  (zxe (yfy yfk))))) zxd)
  (zp2 (ymj (yf2 (yf3 (zpf (zbl Xt) rfl (hr.mono (by decide)) rfl (zwm (yl5 yr9 (yjv rfl) (yfm 1) yfb (fun _ _=>rfl)) (zwm (yl8 (yaa rfl) yuy (yfm 6) (yfm 7)) ye6))))) (zxe (yfy yfk)) zxd)
  (zp2 (ymj (L2.PW.pt (ymk (yf1 (yig (hu9 hr)) yuy (yfm 3) (yfl (zwm yfk ye6)) (yhm _)) (yf6 (L2.PW.pt (yf5 (yf1 (yig (hu9 hr)) yuy (yl5 yr9 (yjv rfl) (yfm 1) yfb (fun _ _=>rfl)) (yfl (zwm yfb (zwm (yfl (zwm (yfm 6) (zwm (yfm 7) ye6))) (zwm (yfl ye6) ye6)))) (yhm _)) (zxf (yf1 (yig (hu9 hr)) yuy (yl5 yr9 (yjv rfl) (yfm 1) yfb (fun _ _=>rfl)) (yfl (zwm yfk (zwm (yfm 2) (zwm (yl8 yik yco yfb (yl5 yr9 (yjv rfl) (yfm 1) yfb (fun _ _=>rfl))) (zwm (yl5 yr9 (yjv rfl) (yfm 1) yfb (fun _ _=>rfl)) ye6))))) (yhm _)))))))) (zxe (yfy yfk)) zxd)
  (zp2 (zxc (yfl (zwm yfk (zwm (yl5 yr9 (yjv rfl) (yfm 1) yfb (fun _ _=>rfl)) (zwm (yl5 yr9 (yjv rfl) (yfm 1) yfb (fun _ _=>rfl)) (zwm (zwo (hu9 hr) (yfm 0) yfk (fun _ _=>rfl)) ye6))))) (zwo (hu9 hr) (yfm 0) yfk (fun _ _=>rfl)) (yfm 2))
  (zxe (yfy yfk))))))))))))))
abbrev ze8:Stmt:=yno (top 50) 2
noncomputable def zem:Ev->M Fl:=
 (yuo (eUn (ysz [6,8] "day") (yrr 0)))
noncomputable def f_Book_today:List D->M D:=hide fun ds=>frz (run 1 zem ds)
theorem zdw:FnScope ["self"] ["self"] (zot ze8):=scD rfl rfl rfl (by decide +kernel)
theorem zc5:BD "today" "Book.today" ze8 ["self"]:=
 fun _ _ _ _ _ _ us hl=>match us,hl with|[_],_=>rfl
theorem zdj(Xt:Txt K mg ca):OkA ⟨K,ca⟩ P w mg base 1 (ca 24) ["self"] f_Book_today:=
 OkA.hide (OkA.frz (yhz Xt.f_Book_today zdw fun _ _ _ _ _ _ hr=>
  (zxe (yfy (ye9 rfl (zpu (T:=⟨K,ca⟩) (c:=6) Xt.cl_Laid Xt.na_Laid_day (zpu (T:=⟨K,ca⟩) (c:=8) Xt.cl_Book Xt.na_Book_day zwz)) (yfm 0))))))
abbrev zg2:Stmt:=yno (top 39) 0
noncomputable def zf7:Ev->M Fl:=
 (yuo (yrq (yk5 (eC (.str "held")) yqy)))
noncomputable def f_Held_told:List D->M D:=hide fun ds=>frz (run 1 zf7 ds)
theorem zfi:FnScope ["self"] ["self"] (zot zg2):=scD rfl rfl rfl (by decide +kernel)
theorem zd8:BD "told" "Held.told" zg2 ["self"]:=
 fun _ _ _ _ _ _ us hl=>match us,hl with|[_],_=>rfl
theorem zey(Xt:Txt K mg ca):OkA ⟨K,ca⟩ P w mg base 1 (ca 10) ["self"] f_Held_told:=
 OkA.hide (OkA.frz (yhz Xt.f_Held_told zfi fun _ _ _ _ _ _ hr=>
  (zxe (yfy (yfl (zwm yfk ye6))))))
abbrev zg3:Stmt:=yno (top 40) 1
noncomputable def zf8:Ev->M Fl:=
 (yuo (yrq (yk5 (eC (.str "laid")) (yk5 (eUn (ysz [6,7] "side") (yrr 0)) (yk5 (eUn (ysz [6] "stand") (yrr 0)) (yk5 (eUn (ysz [6,8] "day") (yrr 0)) yqy))))))
noncomputable def f_Laid_told:List D->M D:=hide fun ds=>frz (run 1 zf8 ds)
theorem zfj:FnScope ["self"] ["self"] (zot zg3):=scD rfl rfl rfl (by decide +kernel)
theorem zd9:BD "told" "Laid.told" zg3 ["self"]:=
 fun _ _ _ _ _ _ us hl=>match us,hl with|[_],_=>rfl
theorem zez(Xt:Txt K mg ca):OkA ⟨K,ca⟩ P w mg base 1 (ca 14) ["self"] f_Laid_told:=
 OkA.hide (OkA.frz (yhz Xt.f_Laid_told zfj fun _ _ _ _ _ _ hr=>
  (zxe (yfy (yfl (zwm yfk (zwm (ye9 rfl (zpu (T:=⟨K,ca⟩) (c:=6) Xt.cl_Laid Xt.na_Laid_side (zpu (T:=⟨K,ca⟩) (c:=7) Xt.cl_Taken Xt.na_Taken_side zwz)) (yfm 0)) (zwm (ye9 rfl (zpu (T:=⟨K,ca⟩) (c:=6) Xt.cl_Laid Xt.na_Laid_stand zwz) (yfm 0)) (zwm (ye9 rfl (zpu (T:=⟨K,ca⟩) (c:=6) Xt.cl_Laid Xt.na_Laid_day (zpu (T:=⟨K,ca⟩) (c:=8) Xt.cl_Book Xt.na_Book_day zwz)) (yfm 0)) ye6)))))))))
abbrev zfa:Stmt:=yno (top 41) 1
noncomputable def zeo:Ev->M Fl:=
 (yuo (yrq (yk5 (eC (.str "taken")) (yk5 (eUn (ysz [6,7] "side") (yrr 0)) yqy))))
noncomputable def f_Taken_told:List D->M D:=hide fun ds=>frz (run 1 zeo ds)
theorem zdy:FnScope ["self"] ["self"] (zot zfa):=scD rfl rfl rfl (by decide +kernel)
theorem zc7:BD "told" "Taken.told" zfa ["self"]:=
 fun _ _ _ _ _ _ us hl=>match us,hl with|[_],_=>rfl
theorem zdl(Xt:Txt K mg ca):OkA ⟨K,ca⟩ P w mg base 1 (ca 19) ["self"] f_Taken_told:=
 OkA.hide (OkA.frz (yhz Xt.f_Taken_told zdy fun _ _ _ _ _ _ hr=>
  (zxe (yfy (yfl (zwm yfk (zwm (ye9 rfl (zpu (T:=⟨K,ca⟩) (c:=6) Xt.cl_Laid Xt.na_Laid_side (zpu (T:=⟨K,ca⟩) (c:=7) Xt.cl_Taken Xt.na_Taken_side zwz)) (yfm 0)) ye6)))))))
abbrev zg1:Stmt:=yno (top 50) 8
noncomputable def zf6:Ev->M Fl:=
 (yup (yuj (yro [(8,f_Book_check_pot)] 2 "check_pot" (yrr 0) (yk5 (yrr 1) yqy)))
 (yuo (yro [(5,f_Held_told),(6,f_Laid_told),(7,f_Taken_told)] 1 "told" (yrl oIx (eUn (ysz [8] "claims") (yrr 0)) (yrr 1)) yqy)))
noncomputable def f_Book_told:List D->M D:=hide fun ds=>frz (run 2 zf6 ds)
theorem zfh:FnScope ["self", "pot"] ["self", "pot"] (zot zg1):=scD rfl rfl rfl (by decide +kernel)
theorem zd7:BD "told" "Book.told" zg1 ["self", "pot"]:=
 fun _ _ _ _ _ _ us hl=>match us,hl with|[_,_],_=>rfl
theorem zex(Xt:Txt K mg ca):OkA ⟨K,ca⟩ P w mg base 4 (ca 30) ["self", "pot"] f_Book_told:=
 OkA.hide (OkA.frz (yhz Xt.f_Book_told zfh fun _ _ _ _ _ _ hr=>
  (zp2 (zw9 (yfg (k:=3) (ps:=["self", "pot"]) rfl (yfm 0) (zy9 (T:=⟨K,ca⟩) (c:=8) Xt.cl_Book Xt.me_Book_check_pot (zay Xt) (by decide) yhi) (hr.mono (by decide)) (zwm (yfm 1) ye6)))
  (zxe (yfy (zwt (k:=1) (ps:=["self"]) rfl (yl5 yr9 (yjv rfl) (ye9 rfl (zpu (T:=⟨K,ca⟩) (c:=8) Xt.cl_Book Xt.na_Book_claims zwz) (yfm 0)) (yfm 1) (fun _ _=>rfl)) (zy9 (T:=⟨K,ca⟩) (c:=5) Xt.cl_Held Xt.me_Held_told (zey Xt) (by decide) (zy9 (T:=⟨K,ca⟩) (c:=6) Xt.cl_Laid Xt.me_Laid_told (zez Xt) (by decide) (zy9 (T:=⟨K,ca⟩) (c:=7) Xt.cl_Taken Xt.me_Taken_told (zdl Xt) (by decide) yhi))) (hr.mono (by decide))))))))
abbrev zbo:Stmt:=yno (top 50) 9
noncomputable def zbf:Ev->M Fl:=
 (yup (yuj (yro [(8,f_Book_check_pot)] 2 "check_pot" (yrr 0) (yk5 (yrr 1) yqy)))
 (yuo (ylv ynz (yk5 (yrl oIx (eUn (ysz [8] "shown") (yrr 0)) (yrr 1)) yqy))))
noncomputable def f_Book_shown_for:List D->M D:=hide (run 2 zbf)
theorem za6:FnScope ["self", "pot"] ["self", "pot"] (zot zbo):=scD rfl rfl rfl (by decide +kernel)
theorem zas:BD "shown_for" "Book.shown_for" zbo ["self", "pot"]:=
 fun _ _ _ _ _ _ us hl=>match us,hl with|[_,_],_=>rfl
theorem zaz(Xt:Txt K mg ca):OkA ⟨K,ca⟩ P w mg base 4 (ca 31) ["self", "pot"] f_Book_shown_for:=
 OkA.hide (yhz Xt.f_Book_shown_for za6 fun _ _ _ _ _ _ hr=>
  (zp2 (zw9 (yfg (k:=3) (ps:=["self", "pot"]) rfl (yfm 0) (zy9 (T:=⟨K,ca⟩) (c:=8) Xt.cl_Book Xt.me_Book_check_pot (zay Xt) (by decide) yhi) (hr.mono (by decide)) (zwm (yfm 1) ye6)))
  (zxe (yfy (zk4 zod ztt rfl Xt.n_dict boot_dict (zwm (yl5 yr9 (yjv rfl) (ye9 rfl (zpu (T:=⟨K,ca⟩) (c:=8) Xt.cl_Book Xt.na_Book_shown zwz) (yfm 0)) (yfm 1) (fun _ _=>rfl)) ye6))))))
abbrev zbm:Stmt:=yno (top 50) 13
noncomputable def zbd:Ev->M Fl:=
 (yup (yuq 1 ylx)
 (yup (yul (yu1 (eUn (ysz [8] "shown") (yrr 0))) (tgN 2) (yuj (yeq yth (yrr 1) (yk5 (yrr 2) yqy))))
 (yuo (ylv yn5 (yk5 (yrr 1) yqy)))))
noncomputable def f_Book_all_shown:List D->M D:=hide (run 3 zbd)
theorem za4:FnScope ["self", "words", "shown"] ["self"] (zot zbm):=scD rfl rfl rfl (by decide +kernel)
theorem zaq:BD "all_shown" "Book.all_shown" zbm ["self"]:=
 fun _ _ _ _ _ _ us hl=>match us,hl with|[_],_=>rfl
theorem zax(Xt:Txt K mg ca):OkA ⟨K,ca⟩ P w mg base 1 (ca 35) ["self"] f_Book_all_shown:=
 OkA.hide (yhz Xt.f_Book_all_shown za4 fun _ _ _ _ _ _ hr=>
  (zp2 (yfz (i:=1) za4.nd rfl (Or.inl rfl) zwq)
  (zp2 (yfx zmp rfl (yfo rfl (ye9 rfl (zpu (T:=⟨K,ca⟩) (c:=8) Xt.cl_Book Xt.na_Book_shown zwz) (yfm 0))) (zwv (i:=2) za4.nd rfl (Or.inl rfl)) (zxe (zw9 (zpk PySem.F.plainAttrs_dict PySem.F.slot_dict_update PySem.F.type_dict_update yhj ycq (yfm 1) (zwm (yfm 2) ye6)))))
  (zxe (yfy (zpe (zkg rfl) (ztx rfl) rfl Xt.n_sorted L4.zfz (zwm (yfm 1) ye6)))))))
abbrev zds:Stmt:=top 61
noncomputable def zde:Ev->M Fl:=
 (yup (sIf (eT (yrl oNe (yro [(8,f_Book_today)] 1 "today" (yrr 0) yqy) (yrl yny (yrr 1) (eC (.str "day"))))) (yuo (eC (.bl false))) yum)
 (yup (yuq 2 (eLv yqy))
 (yup (yul (yu0 (ylv ys5 (yk5 (yrl yny (yrr 1) (eC (.str "pots"))) yqy))) (tgN 3) (yup (sIf (bOr (eT (yrl oNe (yro [(8,f_Book_told)] 2 "told" (yrr 0) (yk5 (yrr 3) yqy)) (yrl oIx (yrl yny (yrr 1) (eC (.str "claims"))) (yrr 3)))) (eT (yrl ys9 (yro [(8,f_Book_shown_for)] 2 "shown_for" (yrr 0) (yk5 (yrr 3) yqy)) (yrl oIx (yrl yny (yrr 1) (eC (.str "shows"))) (yrr 3))))) (yuo (eC (.bl false))) yum)
 (yuq 2 (yrl yst (yrr 2) (yrm (ylv yhu (yk5 (yrl oIx (yrl yny (yrr 1) (eC (.str "shows"))) (yrr 3)) yqy)))))))
 (yup (yuj (yeq yhp (yro [(8,f_Book_shown_for)] 2 "shown_for" (yrr 0) (yk5 (eC (.int 0)) yqy)) yqy))
 (yup (yuj (ylz zzo (yro [(8,f_Book_all_shown)] 1 "all_shown" (yrr 0) yqy) (yk5 (eC (.int 99)) yqy)))
 (yuo (yrk (yrl oEq (yro [(8,f_Book_all_shown)] 1 "all_shown" (yrr 0) yqy) (yrm (eUn zz8 (yrr 2)))) (yrl ysy (yro [(8,f_Book_shown_for)] 2 "shown_for" (yrr 0) (yk5 (eC (.int 0)) yqy)) (yrl oIx (yrl yny (yrr 1) (eC (.str "shows"))) (eC (.int 0)))))))))))
noncomputable def f__law_stands:List D->M D:=hide fun ds=>frz (run 4 zde ds)
theorem zc1:FnScope ["_law_book", "_law_model", "_law_words", "_law_pot"] ["_law_book", "_law_model"] (zot zds):=scD rfl rfl rfl (by decide +kernel)
theorem zci:BD "_law_stands" "_law_stands" zds ["_law_book", "_law_model"]:=
 fun _ _ _ _ _ _ us hl=>match us,hl with|[_,_],_=>rfl
theorem zcr(Xt:Txt K mg ca):OkF ⟨K,ca⟩ P w mg base 5 "_law_stands" ["_law_book", "_law_model"] f__law_stands:=
 OkF.hide (OkF.frz (yn6 Xt.f__law_stands zc1 fun _ _ _ _ _ _ _ hr=>
  (zp2 (ymj (yf1 (yig (hu9 hr)) yuy (zwt (k:=1) (ps:=["self"]) rfl (yfm 0) (zy9 (T:=⟨K,ca⟩) (c:=8) Xt.cl_Book Xt.me_Book_today (zdj Xt) (by decide) yhi) (hr.mono (by decide))) (zwo (hu9 hr) (yfm 1) yfk (fun _ _=>rfl)) (yhm _)) (zxe (yfy yl4)) zxd)
  (zp2 (yfz (i:=2) zc1.nd rfl (Or.inl rfl) (yl7 ye6))
  (zp2 (yfx zmp rfl (zpp rfl Xt.n_range (zpe zeh (ycg rfl) rfl Xt.n_len PySem.boot_len (zwm (zwo (hu9 hr) (yfm 1) yfk (fun _ _=>rfl)) ye6))) (zwv (i:=3) zc1.nd rfl (Or.inl rfl)) (zp2 (ymj (L2.PW.pt (ymk (yf1 (yig (hu9 hr)) yuy (yfg (k:=4) (ps:=["self", "pot"]) rfl (yfm 0) (zy9 (T:=⟨K,ca⟩) (c:=8) Xt.cl_Book Xt.me_Book_told (zex Xt) (by decide) yhi) (hr.mono (by decide)) (zwm (yfm 3) ye6)) (yl5 yr9 (yjv rfl) (zwo (hu9 hr) (yfm 1) yfk (fun _ _=>rfl)) (yfm 3) (fun _ _=>rfl)) (yhm _)) (yf6 (yf1 (yih (hu9 hr)) yck (yfg (k:=4) (ps:=["self", "pot"]) rfl (yfm 0) (zy9 (T:=⟨K,ca⟩) (c:=8) Xt.cl_Book Xt.me_Book_shown_for (zaz Xt) (by decide) yhi) (hr.mono (by decide)) (zwm (yfm 3) ye6)) (yl5 yr9 (yjv rfl) (zwo (hu9 hr) (yfm 1) yfk (fun _ _=>rfl)) (yfm 3) (fun _ _=>rfl)) (yhm _))))) (zxe (yfy yl4)) zxd)
  (zxe (yfz (i:=2) zc1.nd rfl (Or.inl rfl) (yl8 (yaa rfl) yuy (yfm 2) (yfa (zk4 (zhr rfl) znm rfl Xt.n_list boot_list (zwm (yl5 yr9 (yjv rfl) (zwo (hu9 hr) (yfm 1) yfk (fun _ _=>rfl)) (yfm 3) (fun _ _=>rfl)) ye6))))))))
  (zp2 (zw9 (zk6 PySem.F.plainAttrs_dict PySem.F.slot_dict_clear PySem.F.type_dict_clear mt_clear znl (yfg (k:=4) (ps:=["self", "pot"]) rfl (yfm 0) (zy9 (T:=⟨K,ca⟩) (c:=8) Xt.cl_Book Xt.me_Book_shown_for (zaz Xt) (by decide) yhi) (hr.mono (by decide)) (zwm yfb ye6))))
  (zp2 (zw9 (zws PySem.F.plainAttrs_list PySem.F.slot_list_append PySem.F.type_list_append zme zjl (zwt (k:=1) (ps:=["self"]) rfl (yfm 0) (zy9 (T:=⟨K,ca⟩) (c:=8) Xt.cl_Book Xt.me_Book_all_shown (zax Xt) (by decide) yhi) (hr.mono (by decide))) (zwm yfb ye6)))
  (zxe (yfy (ye7 (ye8 (yib (hu9 hr)) yuy (zwt (k:=1) (ps:=["self"]) rfl (yfm 0) (zy9 (T:=⟨K,ca⟩) (c:=8) Xt.cl_Book Xt.me_Book_all_shown (zax Xt) (by decide) yhi) (hr.mono (by decide))) (yfa (zk7 rfl rfl rfl Xt.n_sorted rfl Xt.n_set (yfm 2))) (yhm _)) (yfj (ye8 (yic (hu9 hr)) ycd (yfg (k:=4) (ps:=["self", "pot"]) rfl (yfm 0) (zy9 (T:=⟨K,ca⟩) (c:=8) Xt.cl_Book Xt.me_Book_shown_for (zaz Xt) (by decide) yhi) (hr.mono (by decide)) (zwm yfb ye6)) (yl5 yr9 (yjv rfl) (zwo (hu9 hr) (yfm 1) yfk (fun _ _=>rfl)) yfb (fun _ _=>rfl)) (yhm _)))))))))))))
abbrev yo3:Stmt:=top 62
noncomputable def ymo:Ev->M Fl:=
 (yup (yuq 1 (yrn yqy))
 (yup (yul (yu0 (yrl yst (eC (.int 1)) (yrl ys7 (eFn 2 f__law_cell_at [] (yk5 (yrr 0) (yk5 (eC (.int 0)) yqy))) (eC (.int 3))))) (tgN 2) (yup (yuq 3 (eFn 2 f__law_mixed [] (yk5 (eFn 2 f__law_cell_at [] (yk5 (yrr 0) (yk5 (yrl yst (eC (.int 1)) (yrr 2)) yqy))) (yk5 (eC (.int 30)) yqy))))
 (yuj (ylz zzo (yrr 1) (yk5 (yrq (yk5 (yrl ys7 (yrr 3) (eC (.int 2))) (yk5 (yrl yst (eC (.int 2)) (yrl ys7 (yrl ysx (yrr 3) (eC (.int 2))) (eC (.int 2)))) (yk5 (yrl ys7 (yrl ysx (yrr 3) (eC (.int 4))) (eC (.int 41))) (yk5 (yrl ys7 (yrl ysx (yrr 3) (eC (.int 164))) (eC (.int 21))) (yk5 (yrl yst (eC (.int 1)) (yrl ys7 (yrl ysx (yrr 3) (eC (.int 4000))) (eC (.int 6)))) yqy)))))) yqy)))))
 (yup (sIf (eT (yrl oEq (yrl ys7 (yrl ysx (eFn 2 f__law_cell_at [] (yk5 (yrr 0) (yk5 (eC (.int 0)) yqy))) (eC (.int 3))) (eC (.int 4))) (eC (.int 1)))) (yuq 1 (yrl ytd (eSl (yrr 1) none (some (eC (.int 1)))) (ylv ys5 (yk5 (yrr 1) yqy)))) yum)
 (yup (yuq 4 (yly 8 2 f_Book___init__ (yk5 (yrr 1) yqy)))
 (yup (yuq 5 (ylw [.inr "pots",.inr "day",.inr "claims",.inr "shows"] (yk5 (yrr 1) (yk5 (eC (.int 0)) (yk5 (eLC (yu1 (yrr 1)) [] (tgN 0) yle (yrq (yk5 (eC (.str "held")) yqy))) (yk5 (eLC (yu1 (yrr 1)) [] (tgN 0) yle ylx) yqy))))))
 (yup (yul (yu1 (eSl (yrr 0) (some (eC (.int 4))) (some (eC (.int 44))))) (tgN 6) (yup (yuq 7 (eFn 2 f__law_deed [] (yk5 (yrr 5) (yk5 (yrr 6) yqy))))
 (yup (sIf (eT (yrl oNe (eFn 2 f__law_done [] (yk5 (yrr 4) (yk5 (yrr 7) yqy))) (eFn 2 f__law_due [] (yk5 (yrr 5) (yk5 (yrr 7) yqy))))) (yuo (eC (.bl false))) yum)
 (sIf (yq4 (eT (eFn 2 f__law_stands [] (yk5 (yrr 4) (yk5 (yrr 5) yqy))))) (yuo (eC (.bl false))) yum))))
 (yuo (eC (.bl true)))))))))
noncomputable def f_law:List D->M D:=run 8 ymo
theorem yjk:FnScope ["_law_script", "_law_pots", "_law_k", "_law_number", "_law_book", "_law_model", "_law_cell", "_law_deed_here"] ["_law_script"] (zot yo3):=scD rfl rfl rfl (by decide +kernel)
theorem ydr:BD "law" "law" yo3 ["_law_script"]:=
 fun _ _ _ _ _ _ us hl=>match us,hl with|[_],_=>rfl
theorem yh1(Xt:Txt K mg ca):OkL ⟨K,ca⟩ P w mg 12 "law" ["_law_script"] f_law:=
 yh3 Xt.f_law yjk fun _ _ _ _ _ _ _ _ hr=>
  (zp2 (yfz (i:=1) yjk.nd rfl (Or.inl rfl) (yff ye6))
  (zp2 (yfx zmp rfl (zpp rfl Xt.n_range (yl8 (yaa rfl) yuy yfb (yl8 yie yci (zpf (zb6 Xt) rfl (hr.mono (by decide)) rfl (zwm (yfm 0) (zwm yfb ye6))) yfb))) (zwv (i:=2) yjk.nd rfl (Or.inl rfl)) (zp2 (yfz (i:=3) yjk.nd rfl (Or.inl rfl) (zpf (zdm Xt) rfl (hr.mono (by decide)) rfl (zwm (zpf (zb6 Xt) rfl (hr.mono (by decide)) rfl (zwm (yfm 0) (zwm (yl8 (yaa rfl) yuy yfb (yfm 2)) ye6))) (zwm yfb ye6))))
  (zxe (zw9 (zws PySem.F.plainAttrs_list PySem.F.slot_list_append PySem.F.type_list_append zme zjl (yfm 1) (zwm (yfl (zwm (yl8 yie yci (yfm 3) yfb) (zwm (yl8 (yaa rfl) yuy yfb (yl8 yie yci (yl8 yac ycc (yfm 3) yfb) yfb)) (zwm (yl8 yie yci (yl8 yac ycc (yfm 3) yfb) yfb) (zwm (yl8 yie yci (yl8 yac ycc (yfm 3) yfb) yfb) (zwm (yl8 (yaa rfl) yuy yfb (yl8 yie yci (yl8 yac ycc (yfm 3) yfb) yfb)) ye6)))))) ye6))))))
  (zp2 (ymj (yf1 (yib (hu9 hr)) yuy (yl8 yie yci (yl8 yac ycc (zpf (zb6 Xt) rfl (hr.mono (by decide)) rfl (zwm (yfm 0) (zwm yfb ye6))) yfb) yfb) yfb (yhm _)) (zxe (yfz (i:=1) yjk.nd rfl (Or.inl rfl) (yl8 yad yuy (zpm rfl (yfm 1) zw1 (zw2 yfb)) (zpe zeh (ycg rfl) rfl Xt.n_len PySem.boot_len (zwm (yfm 1) ye6))))) zxd)
  (zp2 (yfz (i:=4) yjk.nd rfl (Or.inl rfl) (zwr (c:=8) (ps:=["self", "pots"]) ⟨_,Xt.m_Book,Xt.mk_Book,zbi Xt⟩ rfl (hr.mono (by decide)) rfl (zwm (yfm 1) ye6)))
  (zp2 (yfz (i:=5) yjk.nd rfl (Or.inl rfl) (zwp (Dsp.cons (kk:=.inr "pots") yfk (yfm 1) (Dsp.cons (kk:=.inr "day") yfk yfb (Dsp.cons (kk:=.inr "claims") yfk (yl6 (x:="_law_pot") (M':=[]) (ix:=[]) rfl ⟨rfl,rfl,rfl,rfl,rfl,rfl⟩ (yfo rfl (yfm 1)) (fun _ _ _ _ _=>zwv (i:=0) (by show List.Nodup (("_law_pot"::[]):List Str);decide +kernel) rfl (Or.inl rfl)) (fun _ _ _ _ _=>zwy) (fun _ _ _ _ _=>(yfl (zwm yfk ye6)))) (Dsp.cons (kk:=.inr "shows") yfk (yl6 (x:="_law_pot") (M':=[]) (ix:=[]) rfl ⟨rfl,rfl,rfl,rfl,rfl,rfl⟩ (yfo rfl (yfm 1)) (fun _ _ _ _ _=>zwv (i:=0) (by show List.Nodup (("_law_pot"::[]):List Str);decide +kernel) rfl (Or.inl rfl)) (fun _ _ _ _ _=>zwy) (fun _ _ _ _ _=>zwq)) Dsp.nil)))) rfl rfl (List.cons_ne_nil _ _) (Nat.le_of_ble_eq_true rfl)))
  (zp2 (yfx zmp rfl (yfo rfl (zpm rfl (yfm 0) (zw2 yfb) (zw2 yfb))) (zwv (i:=6) yjk.nd rfl (Or.inl rfl)) (zp2 (yfz (i:=7) yjk.nd rfl (Or.inl rfl) (zpf (ze0 Xt) rfl (hr.mono (by decide)) rfl (zwm (yfm 5) (zwm (yfm 6) ye6))))
  (zp2 (ymj (yf1 (yig (hu9 hr)) yuy (zpf (ze1 Xt) rfl (hr.mono (by decide)) rfl (zwm (yfm 4) (zwm (yfm 7) ye6))) (zpf (zgq Xt) rfl (hr.mono (by decide)) rfl (zwm (yfm 5) (zwm (yfm 7) ye6))) (yhm _)) (zxe (yfy yl4)) zxd)
  (zxe (ymj (yf2 (yf3 (zpf (zcr Xt) rfl (hr.mono (by decide)) rfl (zwm (yfm 4) (zwm (yfm 5) ye6))))) (zxe (yfy yl4)) zxd)))))
  (zxe (yfy yl4))))))))
end
end K14
namespace K14
open PySem L2 L4
set_option maxHeartbeats 4000000
def ylk(ns:List Int)(k:Nat):Int:=ns.getD k 0
theorem zvd(ns:List Int)(k:Int)(hk:0<=k)(σ:Sto):f__law_cell_at [.scr ns,.int k] σ=.ok (.int (ylk ns k.toNat)) σ:=by
 unfold f__law_cell_at zcn ylk;by_cases h:k<ns.length
 ·simp[h,zzx hk h]
 ·have e:ns.length<=k.toNat:=by omega
  simp[h,List.getElem?_eq_none e]
def ysj(c k:Int):Int:=
 if c % 2=0 then Builtin.bitAnd (c / 2 / 2 ^ (41 * k).toNat) 2199023255551
 else ((c % 2147483647+7919 * k+1) * 48271 % 2147483647 * ((c % 2147483647+7919 * k+1) * 48271 % 2147483647 / 1009+69621) % 2147483647) *
  ((c % 2147483647+7919 * k+1) * 48271 % 2147483647 * ((c % 2147483647+7919 * k+1) * 48271 % 2147483647 / 1009+69621) % 2147483647 / 4099+16807+k) % 2147483629
theorem zy3(c k:Int)(hk:0<=k)(σ:Sto):f__law_mixed [.int c,.int k] σ=.ok (.int (ysj c k)) σ:=by
 unfold f__law_mixed zep ysj;by_cases h:c % 2=0
 ·rw[if_pos h];simp[h,zz1 (yd0 (i:=41) (j:=k) (by decide) (by decide)),show 0<=41 * k by omega]
 ·rw[if_neg h];have b1:∀ z y:Int,yra (z % 2147483647) y=true:=fun z y=>yd0 (by omega) (by omega);have b2:∀ z:Int,yra z 48271=true:=fun z=>yd1 (by decide) (by decide);have b3:yra 7919 k=true:=yd0 (by decide) (by decide);have hb:(c % 2 == 0)=false:=by simpa using h
  simp[hb,zz1,b1,b2,b3]
theorem yhe:∃ f:Int->Int->Int,∀ c k:Int,0<=k->∀ σ,f__law_mixed [.int c,.int k] σ=.ok (.int (f c k)) σ:=⟨ysj,zy3⟩
noncomputable def ysi:Int->Int->Int:=yhe.choose
theorem yhd(c k:Int)(hk:0<=k)(σ:Sto):f__law_mixed [.int c,.int k] σ=.ok (.int (ysi c k)) σ:=yhe.choose_spec c k hk σ
structure Ti where
 p:Int
 a:Int
 w:Int
 d:Int
def Ti.D(t:Ti):L4.D:=.tup [.int t.p,.int t.a,.int t.w,.int t.d]
structure Ti.Ok(t:Ti):Prop where
 p1:0<=t.p
 p2:t.p<=1
 a1:1<=t.a
 a2:t.a<=1000000000000
 w1:0<=t.w
 w2:t.w<=59
 d1:0<=t.d
 d2:t.d<=1000000
@[simp] theorem Ti.cl(t:Ti):L4.cl t.D=true:=by simp[Ti.D]
@[simp] theorem Ti.clL(ts:List Ti):L4.clL (ts.map Ti.D)=true:=zvg Ti.cl
structure TsOk(ts:List Ti):Prop where
 ok:∀ t∈ts,t.Ok
 nd:(ts.map (·.w)).Nodup
 len:ts.length<=6
theorem zn0(i:Int)(σ:Sto):f_is_whole [.int i] σ=.ok (.bl true) σ:=by unfold f_is_whole zh7;simp
theorem zvc(i a b:Int)(σ:Sto):f_is_between [.int i,.int a,.int b] σ=.ok (.bl (decide (a<=i) && decide (i<=b))) σ:=by
 unfold f_is_between zes;cases h:decide (a<=i)<;>simp[zn0,h]
theorem zto(i:Int)(σ:Sto):f_is_side [.int i] σ=.ok (.bl (decide (0<=i) && decide (i<=1))) σ:=by unfold f_is_side zle;simp[zvc]
theorem zhm(i:Int)(σ:Sto):f_is_amount [.int i] σ=.ok (.bl (decide (1<=i) && decide (i<=1000000000000))) σ:=by unfold f_is_amount zgd;simp[zvc]
theorem zvr(i:Int)(σ:Sto):f_is_day [.int i] σ=.ok (.bl (decide (0<=i) && decide (i<=1000000))) σ:=by unfold f_is_day zp3;simp[zvc]
theorem zun(i:Int)(σ:Sto):f_is_word [.int i] σ=.ok (.bl (decide (0<=i) && decide (i<=59))) σ:=by unfold f_is_word zlf;simp[zvc]
theorem zit(i:Int)(σ:Sto):f_is_number [.int i] σ=.ok (.bl (decide (0<=i) && decide (i<=1000000))) σ:=by unfold f_is_number zge;simp[zvc]
def yvj(t:Ti):Bool:=(decide (0<=t.p) && decide (t.p<=1)) && ((decide (1<=t.a) && decide (t.a<=1000000000000)) && ((decide (0<=t.w) && decide (t.w<=59)) && (decide (0<=t.d) && decide (t.d<=1000000))))
theorem zt8(t:Ti):yvj t=true ↔ t.Ok:=by
 simp only[yvj,Bool.and_eq_true,decide_eq_true_eq];exact⟨fun h=>⟨h.1.1,h.1.2,h.2.1.1,h.2.1.2,h.2.2.1.1,h.2.2.1.2,h.2.2.2.1,h.2.2.2.2⟩,fun h=>⟨⟨h.p1,h.p2⟩,⟨h.a1,h.a2⟩,⟨h.w1,h.w2⟩,h.d1,h.d2⟩⟩
theorem yj9(t:Ti)(σ:Sto):f_is_tie [t.D] σ=.ok (.bl (yvj t)) σ:=by
 unfold f_is_tie zp5 Ti.D yvj;simp[zto,zhm,zun,zvr];cases h1:(decide (0<=t.p) && decide (t.p<=1))<;>simp[zhm,h1];cases h2:(decide (1<=t.a) && decide (t.a<=1000000000000))<;>simp[zun,h2];cases h3:(decide (0<=t.w) && decide (t.w<=59))<;>simp[zvr,h3]
def ypv(ts:List Ti):Bool:=decide (ts.length<=6) && (ts.all yvj && decide (ts.map (·.w)).Nodup)
theorem znu(ts:List Ti):ypv ts=true ↔ TsOk ts:=by
 simp only[ypv,Bool.and_eq_true,decide_eq_true_eq,List.all_eq_true];exact⟨fun h=>⟨fun t ht=>(zt8 t).mp (h.2.1 t ht),h.2.2,h.1⟩,fun h=>⟨h.len,fun t ht=>(zt8 t).mpr (h.ok t ht),h.nd⟩⟩
theorem zyl{ρ:Ev}{σ:Sto}{i:Nat}{ix:List Nat}{ts:List Ti}(hl:ts.length<=1000)(h:yrr i ρ σ=.ok (.tup (ts.map Ti.D)) σ) :
  yrm (eLC (yu1 (yrr i)) [] (tgN 0) yle (yrl oIx (yrr 0) (eC (.int 2)))) ρ σ=.ok (.lst ((ts.map (·.w)).map D.int)) σ:=by
 have:=ygu (ix:=[]) (fe:=yrl oIx (yrr 0) (eC (.int 2))) (ds:=ts.map Ti.D) (ρ:=ρ) (σ:=σ) (src:=yu1 (yrr i)) (fun d=>match d with | .tup [_,_,w,_]=>w|_=>.non) (by simp[h]) (by simpa using hl) (fun d hd j=>by obtain⟨t,_,rfl⟩:=List.mem_map.mp hd;simp[Ti.D]) (fun d hd=>by obtain⟨t,_,rfl⟩:=List.mem_map.mp hd;simp[Ti.D]);rw[this,List.map_map,List.map_map];rfl
theorem zt9(ts:List Ti)(σ:Sto):f_are_ties [.tup (ts.map Ti.D)] σ=.ok (.bl (ypv ts)) σ:=by
 unfold f_are_ties zh4 ypv;by_cases hl:ts.length<=6
 ·have l1:yrm (eLC (yu1 (yrr 0)) [] (tgN 0) yle (eFn 1 f_is_tie [] (yk5 (yrr 0) yqy))) [some (.tup (ts.map Ti.D))] σ=.ok (.lst (ts.map fun t=>D.bl (yvj t))) σ:=by
   have:=ygu (ix:=[]) (fe:=eFn 1 f_is_tie [] (yk5 (yrr 0) yqy)) (ds:=ts.map Ti.D) (ρ:=[some (.tup (ts.map Ti.D))]) (σ:=σ) (src:=yu1 (yrr 0)) (fun d=>match d with | .tup [.int p,.int a,.int w,.int d]=>.bl (yvj ⟨p,a,w,d⟩)|_=>.non) (by simp) (by simp;omega) (fun d hd j=>by obtain⟨t,_,rfl⟩:=List.mem_map.mp hd;simp[yj9];rfl) (fun d hd=>by obtain⟨t,_,rfl⟩:=List.mem_map.mp hd;simp[Ti.D]);rw[this,List.map_map];rfl
  have l2:=zyl (ρ:=[some (.tup (ts.map Ti.D))]) (σ:=σ) (i:=0) (ix:=[]) (ts:=ts) (by omega) (by simp);have hb:(decide ((ts.length:Int) > 6))=false:=by simp;omega
  have l3:=zev (σ:=σ) (l:=ts.map (·.w)) (by simp;omega);have l4:((ddp (ts.map (·.w))).length:Int)=(ts.length:Int) ↔ (ts.map (·.w)).Nodup:=by
   have:=zvs (ts.map (·.w));rwa [List.length_map]at this
  have l5:(((ddp (ts.map (·.w))).length:Int) == (ts.length:Int))=decide (ts.map (·.w)).Nodup:=by
   rw[Bool.eq_iff_iff];simpa using l4
  have ha:=zrq (σ:=σ) (f:=yvj) (l:=ts);simp only[zxo,yft,yjg,ybl,yjh,ydq,zu6,yl1,yet,zo1,List.map_cons,List.map_nil,List.length_cons,List.length_nil,List.cons_append,List.nil_append,List.replicate,Nat.reduceAdd,Nat.reduceSub,yeu,zu8,zrw,ykb,zzm,Bool.not_true,ymt,zv1,zn2,zus,zjv,zop,zr1,zu7,ylu,ynw,List.length_map,hb,ykm,ybi,ybs,l1,ha];cases h2:ts.all yvj with
  |false=>simp
  |true=>simp[l2,l3,l5,hl,-List.map_map,-zv2]
 ·have hb:(decide ((ts.length:Int) > 6))=true:=by simp;omega
  have hb':decide (ts.length<=6)=false:=by simpa using hl
  have hb2:decide ((6:Int)<(ts.length:Int))=true:=by simp;omega
  simp[hb',hb2]
def stB(n a b:Int)(ts:List Ti):Bool:=(decide (0<=n) && decide (n<=1000000)) && (((decide (0<=a) && decide (a<=2000000000000)) && (decide (0<=b) && decide (b<=2000000000000))) && ypv ts)
def stD(n a b:Int)(ts:List Ti):D:=.tup [.int n,.tup [.int a,.int b],.tup (ts.map Ti.D)]
@[simp] theorem yjz(n a b:Int)(ts:List Ti):cl (stD n a b ts)=true:=by simp[stD]
theorem zjh(a b:Int)(σ:Sto):f_are_shares [.tup [.int a,.int b]] σ=.ok (.bl ((decide (0<=a) && decide (a<=2000000000000)) && (decide (0<=b) && decide (b<=2000000000000)))) σ:=by
 unfold f_are_shares zeq;simp[zvc];cases h1:(decide (0<=a) && decide (a<=2000000000000))<;>simp[zvc,h1]
theorem zt1(n a b:Int)(ts:List Ti)(σ:Sto):f_is_stand [stD n a b ts] σ=.ok (.bl (stB n a b ts)) σ:=by
 unfold f_is_stand zh5 stD stB;simp[zit];cases h1:(decide (0<=n) && decide (n<=1000000))<;>simp[zjh];cases h2:((decide (0<=a) && decide (a<=2000000000000)) && (decide (0<=b) && decide (b<=2000000000000)))<;>simp[zt9]
theorem zr9(i:Int)(σ:Sto):f_other_side [.int i] σ=.ok (.int (1 - i)) σ:=by unfold f_other_side zet;simp
noncomputable abbrev yjq:Ev->M Fl:=(yup (yuq 6 (eFn 2 f__law_mixed [] (yk5 (yrl ysx (yrr 0) (eC (.int 7))) (yk5 (yrr 5) yqy))))
 (yup (yuq 7 (ylv yn3 (yk5 (yrr 2) (yk5 (yrl yst (eC (.int 1)) (yrl ys7 (yrl ysx (yrr 6) (eC (.int 7))) (yrl oIx (eLv (yk5 (eC (.int 9)) (yk5 (yrl yst (eC (.int 1)) (yrr 1)) yqy))) (yrl ysx (yrl ys7 (yrr 6) (eC (.int 7))) (eC (.int 6)))))) yqy))))
 (yup (yuq 8 (yrl ys7 (yrl ysx (yrr 6) (eC (.int 70))) (eC (.int 12))))
 (sIf (yq3 (eT (yrl oGt (yrr 7) (eC (.int 0)))) (eT (yrl (oIn true) (yrr 8) (yrr 4)))) (yup (yuj (ylz zzo (yrr 4) (yk5 (yrr 8) yqy)))
 (yup (yuq 2 (yrl ytf (yrr 2) (yrr 7)))
 (yuq 3 (yrl yst (yrr 3) (yrq (yk5 (yrq (yk5 (yrl ys7 (yrl ysx (yrr 6) (eC (.int 840))) (eC (.int 2))) (yk5 (yrr 7) (yk5 (yrr 8) (yk5 (yrl ys7 (yrl ysx (yrr 6) (eC (.int 1680))) (eC (.int 30))) yqy))))) yqy)))))) yum))))
structure Sm(left whole:Int)(ts:List Ti):Prop where
 l0:0<=left
 l1:left+(ts.map (·.a)).sum=whole
 ok:∀ t∈ts,(0<=t.p/\t.p<=1)/\1<=t.a/\(0<=t.w/\t.w<=11)/\(0<=t.d/\t.d<=29)
 nd:(ts.map (·.w)).Nodup
theorem ysm(m whole:Int)(h:0<=whole)(σ:Sto):∃ z:Int,0<z/\oIx (.lst [.int 9,.int (1+whole)]) (.int (m % 7 / 6)) σ=.ok (.int z) σ:=by
 have h2:m % 7 / 6=0\/m % 7 / 6=1:=by omega
 rcases h2 with h2|h2
 ·exact⟨9,by decide,by rw[h2];exact zzw (show atI _ ((0:Nat):Int)=_ from zu2 rfl)⟩
 ·exact⟨1+whole,by omega,by rw[h2];exact zzw (show atI _ ((1:Nat):Int)=_ from zu2 rfl)⟩
theorem zjk(c whole left k:Int)(ts:List Ti)(σ:Sto)(x6 x7 x8 x9:Option D)(hk:0<=k)(hw:0<=whole)(hS:Sm left whole ts)(hl:ts.length<=100) :
  ∃ left' ts' y6 y7 y8,Sm left' whole ts'/\ts'.length<=ts.length+1/\yjq [some (.int c),some (.int whole),some (.int left),some (.tup (ts.map Ti.D)),some (.ref σ.length),some (.int k),x6,x7,x8,x9] (σ++[.lst ((ts.map (·.w)).map D.int)])
   = .ok (.nx [some (.int c),some (.int whole),some (.int left'),some (.tup (ts'.map Ti.D)),some (.ref σ.length),some (.int k),y6,y7,y8,x9]) (σ++[.lst ((ts'.map (·.w)).map D.int)]):=by
 have m1:=yhd (c / 7) k hk;generalize ysi (c / 7) k=m at m1;obtain⟨z,hz,ez⟩:=ysm m whole hw (σ++[.lst ((ts.map (·.w)).map D.int)]);have om:=zz0 (σ:=σ++[.lst ((ts.map (·.w)).map D.int)]) (m / 7) z hz;have hq:=Int.emod_nonneg (m / 7) (show z≠0 by omega);generalize m / 7 % z=q at *;have e:=zrs (σ:=σ++[.lst ((ts.map (·.w)).map D.int)]) (neg:=true) (w:=m / 70 % 12) (x:=.ref σ.length) (ws:=ts.map (·.w)) (by simp);have a:=zhn (σ:=σ) (xs:=(ts.map (·.w)).map D.int) (d:=.int (m / 70 % 12)) (by simp;omega);have a2:(ts.map (·.w)).map D.int++[D.int (m / 70 % 12)]=((ts++[Ti.mk (m / 840 % 2) (min left (1+q)) (m / 70 % 12) (m / 1680 % 30)]).map (·.w)).map D.int:=by simp
 have ad:∀ σ:Sto,yst (.tup (ts.map Ti.D)) (.tup [.tup [.int (m / 840 % 2),.int (min left (1+q)),.int (m / 70 % 12),.int (m / 1680 % 30)]]) σ=.ok (.tup ((ts++[Ti.mk (m / 840 % 2) (min left (1+q)) (m / 70 % 12) (m / 1680 % 30)]).map Ti.D)) σ:=fun σ=>by
  rw[zrp (by simp[cap];omega),List.map_append];rfl
 rw[a2]at a;have mn:=zr2 (σ:=σ++[.lst ((ts.map (·.w)).map D.int)]) left (1+q);have hl0:=hS.l0;by_cases h1:min left (1+q) > 0
 ·cases h2:(ts.map (·.w)).any (·== m / 70 % 12)
  ·refine⟨left - min left (1+q),ts++[Ti.mk (m / 840 % 2) (min left (1+q)) (m / 70 % 12) (m / 1680 % 30)],some (.int m),some (.int (min left (1+q))),some (.int (m / 70 % 12)),⟨by omega,?_,?_,?_⟩,by simp,?_⟩
   ·have:=hS.l1;simp only[List.map_append,List.map_cons,List.map_nil,List.sum_append,List.sum_cons,List.sum_nil];omega
   ·intro t ht;rcases List.mem_append.mp ht with ht|ht
    ·exact hS.ok t ht
    ·rw[List.mem_singleton.mp ht];dsimp only;omega
   ·rw[List.map_append,List.nodup_append];refine⟨hS.nd,by simp,fun x hx y hy exy=>?_⟩;have hy':y=m / 70 % 12:=by simpa using hy
    have h3:=List.any_eq_false.mp h2 x hx;rw[exy,hy']at h3;simp at h3
   ·rw[h2]at e;have hd:decide (min left (1+q) > 0)=true:=by simpa using h1
    have hd2:decide (0<min left (1+q))=true:=hd;generalize min left (1+q)=am at *;generalize (ts.map (·.w)).map D.int=G at *;generalize ((ts++[Ti.mk (m / 840 % 2) am (m / 70 % 12) (m / 1680 % 30)]).map (·.w)).map D.int=G' at *;generalize (ts++[Ti.mk (m / 840 % 2) am (m / 70 % 12) (m / 1680 % 30)]).map Ti.D=TT at *;simp[m1,ez,om,mn,-zr2,hd2,e,a,ad]
  ·refine⟨left,ts,some (.int m),some (.int (min left (1+q))),some (.int (m / 70 % 12)),hS,by omega,?_⟩;rw[h2]at e;have hd2:decide (0<min left (1+q))=true:=by simpa using h1
   generalize min left (1+q)=am at *;generalize (ts.map (·.w)).map D.int=G at *;simp[m1,ez,om,mn,-zr2,hd2,e]
 ·refine⟨left,ts,some (.int m),some (.int (min left (1+q))),some (.int (m / 70 % 12)),hS,by omega,?_⟩;have hd2:decide (0<min left (1+q))=false:=by simpa using h1
  generalize min left (1+q)=am at *;generalize (ts.map (·.w)).map D.int=G at *;simp[m1,ez,om,mn,-zr2,hd2]
theorem zjj(c whole:Int)(hw:0<=whole)(σ:Sto):∀ (n i:Nat) (left:Int) (ts:List Ti) (x5 x6 x7 x8 x9:Option D),Sm left whole ts->ts.length+n<=100->
  ∃ left' ts' y5 y6 y7 y8,Sm left' whole ts'/\ts'.length<=ts.length+n/\yse (tgN 5) yjq ((List.range' i n).map fun(k:Nat)=>D.int k) [some (.int c),some (.int whole),some (.int left),some (.tup (ts.map Ti.D)),some (.ref σ.length),x5,x6,x7,x8,x9] (σ++[.lst ((ts.map (·.w)).map D.int)])
   = .ok (.nx [some (.int c),some (.int whole),some (.int left'),some (.tup (ts'.map Ti.D)),some (.ref σ.length),y5,y6,y7,y8,x9]) (σ++[.lst ((ts'.map (·.w)).map D.int)]):=by
 intro n;induction n with
 |zero=>intro i left ts x5 x6 x7 x8 x9 h _;exact⟨left,ts,x5,x6,x7,x8,h,by omega,by rw[List.range'_zero,List.map_nil,zq4]⟩
 |succ n ih=>
  intro i left ts x5 x6 x7 x8 x9 h hl;obtain⟨l1,ts1,y6,y7,y8,s1,s2,e1⟩:=zjk c whole left (i:Int) ts σ x6 x7 x8 x9 (by omega) hw h (by omega);obtain⟨l2,ts2,w5,w6,w7,w8,s3,s4,e2⟩:=ih (i+1) l1 ts1 (some (.int i)) y6 y7 y8 x9 s1 (by omega);refine⟨l2,ts2,w5,w6,w7,w8,s3,by omega,?_⟩;rw[List.range'_succ,List.map_cons,zq5,<-e2];simp only[List.set_cons_succ,List.set_cons_zero];rw[e1,zu8,zq3]
theorem ztq(c whole:Int)(hw:0<=whole)(σ:Sto):∃ (a b:Int) (ts:List Ti),(0<=a/\0<=b)/\a+b+(ts.map (·.a)).sum=whole/\ts.length<=6/\(∃ l,Sm l whole ts)/\f__law_small_stand [.int c,.int whole] σ=.ok (stD (c / 7 % 7) a b ts) σ:=by
 have hm:0<=c % 7/\c % 7<7:=by omega
 obtain⟨left,ts,y5,y6,y7,y8,hS,hl,e⟩:=zjj c whole hw σ (c % 7).toNat 0 whole [] none none none none none ⟨hw,by simp,(fun t h=>by cases h),List.nodup_nil⟩ (by simp;omega);simp only[List.map_nil]at e;rw[<-zmx]at e;have h0:=hS.l0;have m9:=fun σ=>yhd (c / 7) 9 (by decide) σ;generalize ysi (c / 7) 9=q at m9;have om:=zz0 (σ:=σ++[.lst ((ts.map (·.w)).map D.int)]) q (left+1) (by omega);have b1:=Int.emod_nonneg q (show left+1≠0 by omega);have b2:=Int.emod_lt_of_pos q (show 0<left+1 by omega);generalize q % (left+1)=sh at *;refine⟨sh,left - sh,ts,by omega,by have:=hS.l1;omega,by simp at hl;omega,⟨left,hS⟩,?_⟩;unfold f__law_small_stand zaj stD;simp only[zxo,yft,yjg,ybl,ybm,zv3,zv7,zus,zu8,yg4,ykd,ykm,ybx,ybs,List.map_cons,List.map_nil,List.length_cons,List.length_nil,List.cons_append,List.nil_append,List.set_cons_succ,List.set_cons_zero,List.replicate,Nat.reduceAdd,Nat.reduceSub,yeu,yev];rw[ybh];have hs:yu0 (yrl ys7 (yrr 0) (eC (.int 7))) [some (.int c),some (.int whole),some (.int whole),some (.tup []),some (.ref σ.length),none,none,none,none,none] (σ++[.lst []])=.ok (.seq (yjd (c % 7).toNat)) (σ++[.lst []]):=by
  simp[ya9 (j:=c % 7) (by omega) (by omega)]
 rw[hs,ykm,zpw,e,zu8,ybs];have hcl:cl (.tup [.int (c / 7 % 7),.tup [.int sh,.int (left - sh)],.tup (ts.map Ti.D)])=true:=by simp
 generalize (ts.map (·.w)).map D.int=G at *;generalize ts.map Ti.D=TT at *;simp[m9,om];exact zpy hcl
@[simp] theorem yes(f:Ev->M D)(lo hi:PF)(ρ:Ev)(σ:Sto):eSl f lo hi ρ σ=(f ρ σ).bind (yuv (yl0 lo ρ) (yl0 hi ρ)):=nr rfl
@[simp] theorem yb4(lo hi:M (Option Int))(x:D)(σ:Sto):yuv lo hi x σ=(lo σ).bind (yuw x hi):=nr rfl
@[simp] theorem yb5(x:D)(hi:M (Option Int))(lo:Option Int)(σ:Sto):yuw x hi lo σ=(hi σ).bind (yux x lo):=nr rfl
@[simp] theorem zv6(f:Ev->M D)(ρ:Ev)(σ:Sto):yl0 (some f) ρ σ=(f ρ σ).bind yoc:=nr rfl
@[simp] theorem yaf(i:Int)(σ:Sto):yoc (.int i) σ=.ok (some i) σ:=nr rfl
theorem zw6{xs:List D}(h:clL xs=true)(σ:Sto):yrz σ (yn1 [.tup xs] σ)=.ok (.lst xs) σ:=by
 have e:yn1 [.tup xs] σ=.ok (.ref σ.length) (σ++[.lst xs]):=nr rfl;rw[e];have:=zp0 (σ:=σ) (j:=[]) (j':=[]) h;simpa using this
@[simp] theorem ygh(s:List D)(σ:Sto):ys0 .tuple (.lst s) σ=.ok (.bl false) σ:=nr rfl
inductive Th where
 |strike (p s n:Int)
 |agree (p s n a b:Int) (ts:List Ti)
 |word (n:Int)
 |none_
def thD:Th->D
 | .strike p s n=>.tup [.str "strike",.int p,.int s,.int n]
 | .agree p s n a b ts=>.tup [.str "agree",.int p,.int s,stD n a b ts]
 | .word n=>.tup [.str "word",.int n]
 | .none_=>.non
def pB3(p s:Int):Bool:=(decide (0<=p) && decide (p<=2)) && (decide (0<=s) && decide (s<=1))
def yr8:Th->Bool
 | .strike p s n=>pB3 p s && (decide (0<=n) && decide (n<=1000000))
 | .agree p s n a b ts=>pB3 p s && stB n a b ts
 | .word n=>decide (0<=n) && decide (n<=59)
 | .none_=>false
theorem yat(i:Int)(σ:Sto):f_is_pot [.int i] σ=.ok (.bl (decide (0<=i) && decide (i<=2))) σ:=by unfold f_is_pot zp4;simp[zvc]
theorem yhy(x:D)(p s:Int)(y:D)(σ:Sto):f_is_of_a_side [.tup [x,.int p,.int s,y]] σ=.ok (.bl (pB3 p s)) σ:=by
 unfold f_is_of_a_side zcp pB3;cases h:(decide (0<=p) && decide (p<=2))<;>simp[yat,zto,h]
theorem sw:(("strike" : Str) == "word")=false:=by decide
theorem aw:(("agree" : Str) == "word")=false:=by decide
theorem as_:(("agree" : Str) == "strike")=false:=by decide
theorem ypu(t:Th)(σ:Sto):f_is_thing [thD t] σ=.ok (.bl (yr8 t)) σ:=by
 unfold f_is_thing zh6;cases t with
 |strike p s n=>
  simp only[thD,yr8];have o:=yhy (.str "strike") p s (.int n) σ;cases h:pB3 p s<;>rw[h]at o<;>simp[sw,o,zit]
 |agree p s n a b ts=>
  simp only[thD,yr8];have o:=yhy (.str "agree") p s (stD n a b ts) σ;have i:=zt1 n a b ts σ;generalize stD n a b ts=S at *;cases h:pB3 p s<;>rw[h]at o<;>simp[aw,as_,o,i]
 |word n=>simp only[thD,yr8];simp[zun]
 |none_=>simp only[thD,yr8];simp
theorem zps{P Q:Int}(hP:0<=P/\P<=2000000000000)(hQ:0<=Q/\Q<=2000000000000)(σ:Sto):f_first [.int P,.int Q] σ=.ok (stD 0 P Q []) σ/\stB 0 P Q []=true:=by
 have hb:stB 0 P Q []=true:=by
  simp only[stB,ypv,Bool.and_eq_true,decide_eq_true_eq];exact⟨by omega,⟨hP,hQ⟩,by simp,by simp,by simp⟩
 refine⟨?_,hb⟩;have is:=zt1 0 P Q [] σ;rw[hb]at is;have s:f_stand [.int 0,.tup [.int P,.int Q],.non] σ=.ok (stD 0 P Q []) σ:=by
  unfold f_stand zxj;unfold stD at is ⊢;simp only[List.map_nil]at is ⊢;simp[is]
 unfold f_first zxi;simp[s]
def tot(ts:List Ti):Int:=(ts.map (·.a)).sum
theorem yhx(a b:Int)(σ:Sto):ytg [.tup [.int a,.int b]] σ=.ok (.int (a+b)) σ:=by
 simp[ytg,ygf]
theorem zmj(l:List Int)(σ:Sto):ytg [.lst (l.map D.int)] σ=.ok (.int l.sum) σ:=by
 simp[ytg]
theorem zos(n a b:Int)(ts:List Ti)(hl:ts.length<=6)(σ:Sto):f_deals [stD n a b ts] σ=.ok (.int (a+b+tot ts)) σ:=by
 have i2:∀ σ,oIx (stD n a b ts) (.int 2) σ=.ok (.tup (ts.map Ti.D)) σ:=fun σ=>by simp[stD]
 have i1:∀ σ,oIx (stD n a b ts) (.int 1) σ=.ok (.tup [.int a,.int b]) σ:=fun σ=>by simp[stD]
 have l:=ygu (ix:=[]) (fe:=yrl oIx (yrr 0) (eC (.int 1))) (ds:=ts.map Ti.D) (ρ:=[some (stD n a b ts)]) (σ:=σ) (src:=yu1 (yrl oIx (yrr 0) (eC (.int 2)))) (fun d=>match d with | .tup [_,a,_,_]=>a|_=>.non) (by simp[i2]) (by simp;omega) (fun d hd j=>by obtain⟨t,_,rfl⟩:=List.mem_map.mp hd;simp[Ti.D]) (fun d hd=>by obtain⟨t,_,rfl⟩:=List.mem_map.mp hd;simp[Ti.D]);have l':yrm (eLC (yu1 (yrl oIx (yrr 0) (eC (.int 2)))) [] (tgN 0) yle (yrl oIx (yrr 0) (eC (.int 1)))) [some (stD n a b ts)] σ=.ok (.lst ((ts.map (·.a)).map D.int)) σ:=by
  rw[l,List.map_map,List.map_map];rfl
 unfold f_deals zxh;generalize stD n a b ts=S at *;have o:=zmj (ts.map (·.a)) σ;generalize (ts.map (·.a)).map D.int=G at *;simp[i1,l',yhx,o,tot,-zv2]
def LD(w s n a b:Int)(ts:List Ti)(d t:Int):D:=.obj 6 ["whole", "side", "stand", "day", "wait"] [.int w,.int s,stD n a b ts,.int d,.int t]
theorem zhu(c:Nat)(hc:[4,5,6,7].contains c=true)(w:D)(σ:Sto):f_Claim___init__ [.ref σ.length,w] (σ++[.ins c []])=.ok .non (σ++[.ins c [("whole",w)]]):=by
 unfold f_Claim___init__ zbg;have:=zmw (ρ:=[some (.ref σ.length),some w]) (σ:=σ) (cs:=[4,5,6,7]) (f:="whole") (d:=w) (c:=c) (fs:=[]) hc (by simp);simp[this,ytp]
theorem zly(w s S d t:D)(σ:Sto):f_Laid___init__ [.ref σ.length,w,s,S,d,t] (σ++[.ins 6 []])=.ok .non (σ++[.ins 6 [("whole",w),("side",s),("stand",S),("day",d),("wait",t)]]):=by
 have c:=zhu 6 rfl w σ;have e:=fun(cs:List Nat) (hc:cs.contains 6=true) (f:Str) (v:D) (fs:List (Str × D)) (hl:fs.length<1000)=>zmw (ρ:=[some (.ref σ.length),some w,some s,some S,some d,some t]) (σ:=σ) (cs:=cs) (f:=f) (d:=v) (c:=6) (fs:=fs) hc hl;have p1:ytp "side" s [("whole",w)]=([("whole",w),("side",s)]:List (Str × D)):=rfl;have p2:ytp "stand" S [("whole",w),("side",s)]=([("whole",w),("side",s),("stand",S)]:List (Str × D)):=rfl;have p3:ytp "day" d [("whole",w),("side",s),("stand",S)]=([("whole",w),("side",s),("stand",S),("day",d)]:List (Str × D)):=rfl;have p4:ytp "wait" t [("whole",w),("side",s),("stand",S),("day",d)]=([("whole",w),("side",s),("stand",S),("day",d),("wait",t)]:List (Str × D)):=rfl;unfold f_Laid___init__ zb2;simp[c,e,p1,p2,p3,p4]
theorem zjo(w s:D)(σ:Sto):f_Taken___init__ [.ref σ.length,w,s] (σ++[.ins 7 []])=.ok .non (σ++[.ins 7 [("whole",w),("side",s)]]):=by
 have c:=zhu 7 rfl w σ;have e:=fun(cs:List Nat) (hc:cs.contains 7=true) (f:Str) (v:D) (fs:List (Str × D)) (hl:fs.length<1000)=>zmw (ρ:=[some (.ref σ.length),some w,some s]) (σ:=σ) (cs:=cs) (f:=f) (d:=v) (c:=7) (fs:=fs) hc hl;have p1:ytp "side" s [("whole",w)]=([("whole",w),("side",s)]:List (Str × D)):=rfl;unfold f_Taken___init__ zbh;simp[c,e,p1]
section
variable(w s n a b:Int)(ts:List Ti)(d t:Int)(σ:Sto)
theorem ygy:ymv σ (LD w s n a b ts d t)=some (6,([("whole",.int w),("side",.int s),("stand",stD n a b ts),("day",.int d),("wait",.int t)]:List (Str × D))):=zlj rfl
theorem zyn:ysz [6,7] "side" (LD w s n a b ts d t) σ=.ok (.int s) σ:=zzt (ygy ..) rfl rfl
theorem zqu:ysz [6] "stand" (LD w s n a b ts d t) σ=.ok (stD n a b ts) σ:=zzt (ygy ..) rfl rfl
theorem ygx:ysz [6,8] "day" (LD w s n a b ts d t) σ=.ok (.int d) σ:=zzt (ygy ..) rfl rfl
theorem zyo:ysz [6] "wait" (LD w s n a b ts d t) σ=.ok (.int t) σ:=zzt (ygy ..) rfl rfl
theorem zqv(y:Int):f_Laid_waits [LD w s n a b ts d t,.int y] σ=.ok (.bl (decide (y<d+t))) σ:=by
 unfold f_Laid_waits zen;have h1:=fun σ=>ygx w s n a b ts d t σ;have h2:=fun σ=>zyo w s n a b ts d t σ;generalize LD w s n a b ts d t=L at *;simp[h1,h2]
theorem zl0(fs:M (List D)):ysq [(6,f_Laid_waits)] 2 "waits" fs (LD w s n a b ts d t) σ=(fs σ).bind (ynn 2 f_Laid_waits (LD w s n a b ts d t)):=zze (ygy ..) rfl rfl
end
theorem zl7(w s n a b:Int)(ts:List Ti)(d t:Int)(σ:Sto):yrz σ (ynj 6 6 f_Laid___init__ [.int w,.int s,stD n a b ts,.int d,.int t] σ)=.ok (LD w s n a b ts d t) σ:=by
 rw[zyy,zly,zrl,zpz (by simp)];rfl
theorem zl6(w:Int)(σ:Sto):yrz σ (ynj 5 2 f_Claim___init__ [.int w] σ)=.ok (.obj 5 ["whole"] [.int w]) σ:=by
 rw[zyw,zhu 5 rfl,zrl,zpz (by simp)];rfl
theorem zik(w s:Int)(σ:Sto):yrz σ (ynj 7 3 f_Taken___init__ [.int w,.int s] σ)=.ok (.obj 7 ["whole", "side"] [.int w,.int s]) σ:=by
 rw[zyx,zjo,zrl,zpz (by simp)];rfl
def kvI(l:List (Int × Int)):List (Key × D):=l.map fun p=>(.inl p.1,.int p.2)
def val(l:List (Int × Int))(w:Int):Option Int:=(l.find? fun p=>decide (p.1=w)).map (·.2)
theorem zpq(w:Int):∀ (l:List (Int × Int)),ymb (kvI l) (.inl w)=(val l w).map D.int
 |[]=>rfl
 |p::l=>by
  have ih:=zpq w l;unfold ymb kvI val at *;rw[List.map_cons,List.find?_cons,List.find?_cons];by_cases e:p.1=w
  ·simp[e]
  ·have e2:¬ (Sum.inl p.1:Key)=Sum.inl w:=fun z=>e (Sum.inl.inj z);simp only[e,e2,decide_false]at ih ⊢;exact ih
def ytr(l:List (Int × Int))(w v:Int):List (Int × Int):=if l.any (fun p=>decide (p.1=w))then l.map fun p=>if p.1=w then (p.1,v)else p else l++[(w,v)]
theorem zsn(l:List (Int × Int))(w v:Int):(ytr l w v).length<=l.length+1:=by unfold ytr;split<;>simp
theorem zmv(l:List (Int × Int))(w v:Int):yok (kvI l) (.inl w) (.int v)=kvI (ytr l w v):=by
 have ha:((kvI l).any fun kv=>decide (kv.1=(Sum.inl w:Key)))=l.any fun p=>decide (p.1=w):=by
  unfold kvI;rw[List.any_map];congr 1;funext p;simp
 unfold yok ytr;rw[ha];split
 ·unfold kvI;rw[List.map_map,List.map_map];congr 1;funext p;simp only[Function.comp];by_cases e:p.1=w
  ·simp[e]
  ·have e2:¬ (Sum.inl p.1:Key)=Sum.inl w:=fun z=>e (Sum.inl.inj z);simp[e]
 ·unfold kvI;rw[List.map_append];rfl
def upA(s a x:Int):Int:=if s=0 then a+x else a
def upB(s b x:Int):Int:=if s=0 then b else b+x
def inT(l:List (Int × Int))(t:Ti):Bool:=match val l t.w with|some v=>decide (v<t.d)|none=>false
def yr3(l:List (Int × Int))(y:Int)(t:Ti):Option Int:=if inT l t then some (1 - t.p)else if y ≥ t.d then some t.p else none
def sA(l:List (Int × Int))(y:Int):List Ti->Int
 |[]=>0
 |t::ts=>(if yr3 l y t=some 0 then t.a else 0)+sA l y ts
def sB(l:List (Int × Int))(y:Int):List Ti->Int
 |[]=>0
 |t::ts=>(match yr3 l y t with|some s=>if s=0 then 0 else t.a|none=>0)+sB l y ts
def sH(l:List (Int × Int))(y:Int):List Ti->Int
 |[]=>0
 |t::ts=>(match yr3 l y t with|some _=>0|none=>t.a)+sH l y ts
section
variable{SD:D}{l:List (Int × Int)}{σ:Sto}(hS:yrj σ SD=some (kvI l))
include hS
end
theorem zlz(w s n a b:Int)(ts:List Ti)(d t:Int)(σ:Sto):f_Laid_told [LD w s n a b ts d t] σ=.ok (.tup [.str "laid",.int s,stD n a b ts,.int d]) σ:=by
 have h1:=fun σ=>zyn w s n a b ts d t σ;have h2:=fun σ=>zqu w s n a b ts d t σ;have h3:=fun σ=>ygx w s n a b ts d t σ;have hc:cl (stD n a b ts)=true:=by simp
 unfold f_Laid_told zf8;generalize LD w s n a b ts d t=L at *;generalize stD n a b ts=S at *;simp[h1,h2,h3,hc]
theorem zlh(x:D)(σ:Sto):f_Held_told [x] σ=.ok (.tup [.str "held"]) σ:=by unfold f_Held_told zf7;simp
theorem zjp(w s:Int)(σ:Sto):f_Taken_told [.obj 7 ["whole", "side"] [.int w,.int s]] σ=.ok (.tup [.str "taken",.int s]) σ:=by
 have h:∀ σ,ysz [6,7] "side" (.obj 7 ["whole", "side"] [.int w,.int s]) σ=.ok (.int s) σ:=fun σ=>zzt (zlj rfl) rfl rfl;unfold f_Taken_told zeo;generalize D.obj 7 ["whole", "side"] [.int w,.int s]=O at *;simp[h]
theorem zwb{f g:D->D->Option Bool}:∀ {xs ys:List D},(∀ x∈xs,∀ y∈ys,∃ b,f x y=some b/\g x y=some b)->∃ b,eqL f xs ys=some b/\eqL g xs ys=some b
 |[],[],_=>⟨_,rfl,rfl⟩
 |[],_::_,_=>⟨_,rfl,rfl⟩
 |_::_,[],_=>⟨_,rfl,rfl⟩
 |x::xs,y::ys,h=>by
  obtain⟨b,h1,h2⟩:=h x List.mem_cons_self y List.mem_cons_self;obtain⟨c,h3,h4⟩:=zwb (f:=f) (g:=g) (xs:=xs) (ys:=ys) fun a ha b hb=>h a (List.mem_cons_of_mem _ ha) b (List.mem_cons_of_mem _ hb);unfold eqL;rw[h1,h2,h3,h4];cases b<;>exact⟨_,rfl,rfl⟩
theorem zwa(σ:Sto):∀ (n:Nat) (x y:D),pl n x=true->pl n y=true->∃ b,eqD σ n x y=some b/\eqD [] n x y=some b:=by
 intro n;induction n with
 |zero=>intro x y hx hy;cases x<;>first|(simp[pl]at hx;done)|(cases y<;>first|exact⟨_,rfl,rfl⟩|(simp[pl]at hy;done))
 |succ n ih=>
  intro x y hx hy;cases x with
  |tup xs=>
   cases y with
   |tup ys=>
    simp only[pl,List.all_eq_true]at hx hy;exact zwb fun a ha b hb=>ih a b (hx a ha) (hy b hb)
   |_=>first|exact⟨_,rfl,rfl⟩|(simp[pl]at hy;done)
  |lst xs=>
   cases y with
   |lst ys=>
    simp only[pl,List.all_eq_true]at hx hy;exact zwb fun a ha b hb=>ih a b (hx a ha) (hy b hb)
   |_=>first|exact⟨_,rfl,rfl⟩|(simp[pl]at hy;done)
  |_=>first|(simp[pl]at hx;done)|(cases y<;>first|exact⟨_,rfl,rfl⟩|(simp[pl]at hy;done))
structure Pt where
 (l r u v t:Int)
def Pt.D(p:Pt):L4.D:=.tup [.int p.l,.int p.r,.int p.u,.int p.v,.int p.t]
def Pt.w(p:Pt):Int:=p.u+p.v
structure Pt.Ok(p:Pt):Prop where
 l:p.l=0\/p.l=1
 r:p.r=2\/p.r=3
 u:0<=p.u/\p.u<=1000000
 v:0<=p.v/\p.v<=1000000
 t:1<=p.t/\p.t<=6
@[simp] theorem Pt.cl(p:Pt):L4.cl p.D=true:=by simp[Pt.D]
theorem Pt.i0(p:Pt)(σ:Sto):oIx p.D (.int 0) σ=.ok (.int p.l) σ:=by unfold Pt.D;simp
theorem Pt.i1(p:Pt)(σ:Sto):oIx p.D (.int 1) σ=.ok (.int p.r) σ:=by unfold Pt.D;simp
theorem Pt.i2(p:Pt)(σ:Sto):oIx p.D (.int 2) σ=.ok (.int p.u) σ:=by unfold Pt.D;simp
theorem Pt.i3(p:Pt)(σ:Sto):oIx p.D (.int 3) σ=.ok (.int p.v) σ:=by unfold Pt.D;simp
theorem Pt.i4(p:Pt)(σ:Sto):oIx p.D (.int 4) σ=.ok (.int p.t) σ:=zzy (show atI _ ((4:Nat):Int)=_ from zu2 rfl)
inductive Cl where
 |held
 |laid (s n a b:Int) (ts:List Ti) (d:Int)
 |taken (s:Int)
def Cl.D(p:Pt):Cl->L4.D
 | .held=>.obj 5 ["whole"] [.int p.w]
 | .laid s n a b ts d=>LD p.w s n a b ts d p.t
 | .taken s=>.obj 7 ["whole", "side"] [.int p.w,.int s]
structure Bs where
 y:Int
 C:Nat->Cl
 S:Nat->List (Int × Int)
 J:Sto
 Z:Ob
def upd{α:Type}(f:Nat->α)(i:Nat)(x:α):Nat->α:=fun j=>if j=i then x else f j
theorem upd_same{α:Type}(f:Nat->α)(i:Nat)(x:α):upd f i x i=x:=by simp[upd]
theorem upd_ne{α:Type}(f:Nat->α){i j:Nat}(x:α)(h:j≠i):upd f i x j=f j:=by simp[upd,h]
theorem zng{α β:Type}(n:Nat)(f:Nat->α)(g:Nat->α->β)(i:Nat)(x:α):((List.range n).map fun j=>g j (f j)).set i (g i x)=(List.range n).map fun j=>g j (upd f i x j):=by
 apply List.ext_getElem?;intro k;rw[List.getElem?_set];by_cases h:i=k
 ·subst h;by_cases hk:i<n
  ·simp[hk,upd_same]
  ·simp[hk]
 ·rw[if_neg h];by_cases hk:k<n
  ·simp[hk,upd_ne f x (fun z=>h z.symm)]
  ·simp[hk]
def ytm(n:Nat)(P:Nat->Pt):D:=.lst ((List.range n).map fun i=>(P i).D)
def flds(n:Nat)(P:Nat->Pt)(y:Int):List (Str × D):=[("pots",ytm n P),("day",.int y),("claims",.ref 2),("shown",.ref 3)]
def bkS(n:Nat)(P:Nat->Pt)(B:Bs):Sto:=
 B.Z::.ins 8 (flds n P B.y)::.lst ((List.range n).map fun i=>(B.C i).D (P i))::.lst ((List.range n).map fun i=>.ref (4+i))::(((List.range n).map fun i=>.dic (kvI (B.S i)))++B.J)
theorem ixR{n i:Nat}(f:Nat->D)(h:i<n):atI ((List.range n).map f) (i:Int)=some (f i):=zu2 (by simp[h])
section
variable(n:Nat)(P:Nat->Pt)(B:Bs)
theorem ydw:ymv (bkS n P B) (.ref 1)=some (8,flds n P B.y):=rfl
theorem zu9:ysz [8] "pots" (.ref 1) (bkS n P B)=.ok (ytm n P) (bkS n P B):=zzt (ydw n P B) rfl rfl
theorem ydu:ysz [6,8] "day" (.ref 1) (bkS n P B)=.ok (.int B.y) (bkS n P B):=zzt (ydw n P B) rfl rfl
theorem zj4:ysz [8] "claims" (.ref 1) (bkS n P B)=.ok (.ref 2) (bkS n P B):=zzt (ydw n P B) rfl rfl
theorem zob:ysz [8] "shown" (.ref 1) (bkS n P B)=.ok (.ref 3) (bkS n P B):=zzt (ydw n P B) rfl rfl
theorem ydy{k:Nat}{m:Str}(f:List D->M D)(fs:M (List D))(h:(flds n P B.y).lookup m=none):ysq [(8,f)] k m fs (.ref 1) (bkS n P B)=(fs (bkS n P B)).bind (ynn k f (.ref 1)):=zze (ydw n P B) rfl h
theorem zqy(σ:Sto):ys5 [ytm n P] σ=.ok (.int n) σ:=by unfold ytm;simp
theorem zx5{i:Nat}(h:i<n)(σ:Sto):oIx (ytm n P) (.int i) σ=.ok (P i).D σ:=zzw (ixR (fun i=>(P i).D) h)
theorem zlr{i:Nat}(h:i<n):oIx (.ref 2) (.int i) (bkS n P B)=.ok ((B.C i).D (P i)) (bkS n P B):=by
 have:=ixR (fun i=>(B.C i).D (P i)) h;simp only[oIx,yo5,bkS,ync,List.getElem?_cons_succ,List.getElem?_cons_zero,this]
theorem zqj{i:Nat}(h:i<n):oIx (.ref 3) (.int i) (bkS n P B)=.ok (.ref (4+i)) (bkS n P B):=by
 have:=ixR (fun i=>D.ref (4+i)) h;simp only[oIx,yo5,bkS,ync,List.getElem?_cons_succ,List.getElem?_cons_zero,this]
theorem ydv{i:Nat}(h:i<n):(bkS n P B)[4+i]?=some (.dic (kvI (B.S i))):=by
 rw[Nat.add_comm];unfold bkS;simp only[List.getElem?_cons_succ];rw[List.getElem?_append_left (by simpa using h)];simp[h]
theorem ylf{i:Nat}(h:i<n):yrj (bkS n P B) (.ref (4+i))=some (kvI (B.S i)):=by
 unfold yrj;simp only[ydv n P B h]
theorem znf(i:Nat)(c:Cl):(bkS n P B).set 2 (.lst (((List.range n).map fun i=>(B.C i).D (P i)).set i (c.D (P i))))=bkS n P { B with C:=upd B.C i c }:=by
 have:=zng n B.C (fun j (c:Cl)=>c.D (P j)) i c;unfold bkS;simp only[List.set_cons_succ,List.set_cons_zero];rw[this]
theorem yby{i:Nat}(hi:i<n)(l:List (Int × Int)):(bkS n P B).set (4+i) (.dic (kvI l))=bkS n P { B with S:=upd B.S i l }:=by
 have:=zng n B.S (fun _ (l:List (Int × Int))=>Ob.dic (kvI l)) i l;rw[Nat.add_comm];unfold bkS;simp only[List.set_cons_succ];rw[List.set_append_left _ _ (by simpa using hi),this]
theorem ydt(j:Sto):bkS n P B++j=bkS n P { B with J:=B.J++j }:=by
 unfold bkS;simp only[List.cons_append,List.append_assoc]
end
theorem zol(n:Nat)(P:Nat->Pt)(B:Bs){i:Nat}(h:i<n):f_Book_check_pot [.ref 1,.int i] (bkS n P B)=.ok .non (bkS n P B):=by
 have h1:=zu9 n P B;have h2:=zqy n P;have hb:decide ((i:Int)<=(n:Int) - 1)=true:=by simp;omega
 unfold f_Book_check_pot zbe;generalize bkS n P B=σ at *;generalize ytm n P=PL at *;simp[h1,h2,zvc,hb]
theorem yg6(n:Nat)(P:Nat->Pt)(B:Bs)(fs:M (List D)):ysq [(8,f_Book_check_pot)] 2 "check_pot" fs (.ref 1) (bkS n P B)=(fs (bkS n P B)).bind (ynn 2 f_Book_check_pot (.ref 1)):=ydy n P B _ _ rfl
def Cl.tl:Cl->L4.D
 | .held=>.tup [.str "held"]
 | .laid s n a b ts d=>.tup [.str "laid",.int s,stD n a b ts,.int d]
 | .taken s=>.tup [.str "taken",.int s]
@[simp] theorem Cl.tl_cl(c:Cl):cl c.tl=true:=by cases c<;>simp[Cl.tl]
theorem Cl.told(c:Cl)(p:Pt)(fs:M (List L4.D))(σ:Sto)(hf:fs σ=.ok [] σ):ysq [(5,f_Held_told),(6,f_Laid_told),(7,f_Taken_told)] 1 "told" fs (c.D p) σ=.ok c.tl σ:=by
 cases c with
 |held=>rw[show Cl.D p .held=.obj 5 ["whole"] [.int p.w]from rfl,zze (zlj rfl) rfl rfl,hf,zu8,zza,zlh];rfl
 |laid s n a b ts d=>rw[show Cl.D p (.laid s n a b ts d)=LD p.w s n a b ts d p.t from rfl,zze (ygy ..) rfl rfl,hf,zu8,zza,zlz];rfl
 |taken s=>rw[show Cl.D p (.taken s)=.obj 7 ["whole", "side"] [.int p.w,.int s]from rfl,zze (zlj rfl) rfl rfl,hf,zu8,zza,zjp];rfl
theorem yc3(n:Nat)(P:Nat->Pt)(B:Bs){i:Nat}(h:i<n):f_Book_told [.ref 1,.int i] (bkS n P B)=.ok (B.C i).tl (bkS n P B):=by
 have h1:=zol n P B h;have h2:=fun fs=>yg6 n P B fs;have h3:=zj4 n P B;have h4:=zlr n P B h;have h5:=fun fs hf=>Cl.told (B.C i) (P i) fs (bkS n P B) hf;have hc:=Cl.tl_cl (B.C i);unfold f_Book_told zf6;generalize bkS n P B=σ at *;generalize (B.C i).D (P i)=CD at *;generalize (B.C i).tl=TL at *;simp[h1,h2,h3,h4,h5,hc]
def duA(p:Pt)(y:Int)(l:List (Int × Int)):Cl->Int
 | .held=>0
 | .laid _ _ a _ ts d=>if y<d+p.t then 0 else a+sA l y ts
 | .taken s=>upA s 0 p.w
def duB(p:Pt)(y:Int)(l:List (Int × Int)):Cl->Int
 | .held=>0
 | .laid _ _ _ b ts d=>if y<d+p.t then 0 else b+sB l y ts
 | .taken s=>upB s 0 p.w
def duH(p:Pt)(y:Int)(l:List (Int × Int)):Cl->Int
 | .held=>p.w
 | .laid _ _ _ _ ts d=>if y<d+p.t then p.w else sH l y ts
 | .taken _=>0
structure LOk(p:Pt)(s n a b:Int)(ts:List Ti):Prop where
 hs:s=0\/s=1
 hn:0<=n/\n<=6
 ha:0<=a
 hb:0<=b
 hw:a+b+(ts.map (·.a)).sum=p.w
 ok:∀ t∈ts,(0<=t.p/\t.p<=1)/\1<=t.a/\(0<=t.d/\t.d<=29)
def Cl.Ok(p:Pt):Cl->Prop
 | .held=>True
 | .laid s n a b ts d=>LOk p s n a b ts
 | .taken s=>s=0\/s=1
def du3(p:Pt)(y:Int)(l:List (Int × Int))(c:Cl):D:=.tup [.int (duA p y l c),.int (duB p y l c),.int (duH p y l c)]
def Bs.du(B:Bs)(P:Nat->Pt)(i:Nat):D:=du3 (P i) B.y (B.S i) (B.C i)
@[simp] theorem zs3(cs:List Nat)(f:Str)(fv fo:Ev->M D)(ρ:Ev)(σ:Sto):yoz cs f fv fo ρ σ=xsO ρ (ylb ρ cs f fv) (fo ρ σ):=yp1 ..
theorem zis(n:Nat)(P:Nat->Pt)(B:Bs):f_Book_next_day [.ref 1] (bkS n P B)=.ok .non (bkS n P { B with y:=B.y+1 }):=by
 have h:∀ ρ:Ev,ylb ρ [6,8] "day" (eC (.int 1)) (.ref 1) (bkS n P B)=.ok (.nx ρ) (bkS n P { B with y:=B.y+1 }):=fun ρ=>rfl;unfold f_Book_next_day zb1;generalize bkS n P B=σ at *;generalize bkS n P { B with y:=B.y+1 }=σ' at *;simp[h]
def shw(l:List (Int × Int))(w y:Int):List (Int × Int):=match val l w with
 |some _=>l
 |none=>ytr l w y
@[simp] theorem zs5(f fo fi:Ev->M D)(ρ:Ev)(σ:Sto):yo1 f fo fi ρ σ=xsO ρ (yo6 ρ fo fi) (f ρ σ):=yp1 ..
@[simp] theorem zte(fo fi:Ev->M D)(d:D)(ρ:Ev)(σ:Sto):yo6 ρ fo fi d σ=xsO ρ (yo7 ρ fi d) (fo ρ σ):=yp1 ..
@[simp] theorem ztf(fi:Ev->M D)(d x:D)(ρ:Ev)(σ:Sto):yo7 ρ fi d x σ=xsO ρ (yo8 ρ d x) (fi ρ σ):=yp1 ..
theorem ztg(n:Nat)(P:Nat->Pt)(B:Bs){i:Nat}(h:i<n)(w v:Int)(hl:(B.S i).length<1000)(ρ:Ev):yo8 ρ (.int v) (.ref (4+i)) (.int w) (bkS n P B)=.ok (.nx ρ) (bkS n P { B with S:=upd B.S i (ytr (B.S i) w v) }):=by
 unfold yo8;simp only[ysa,ydv n P B h];rw[if_pos (show (kvI (B.S i)).length<cap by unfold kvI;simpa [cap]using hl),zmv,yby n P B h]
theorem ylq{SD:D}{l:List (Int × Int)}{σ:Sto}(hS:yrj σ SD=some (kvI l))(w:Int):zzp (.int w) SD σ=.ok (.bl (!(val l w).isSome)) σ:=by
 unfold zzp;simp only[ysa,hS,zpq];cases val l w<;>rfl
theorem zuf{α:Type}(f:Nat->α)(i:Nat):upd f i (f i)=f:=by
 funext j;by_cases h:j=i
 ·rw[h,upd_same]
 ·rw[upd_ne f _ h]
theorem yb2(n:Nat)(P:Nat->Pt)(B:Bs){i:Nat}(h:i<n)(w:Int)(hw:0<=w/\w<=59)(hl:(B.S i).length<1000) :
  f_Book_show [.ref 1,.int i,.int w] (bkS n P B)=.ok .non (bkS n P { B with S:=upd B.S i (shw (B.S i) w B.y) }):=by
 have h1:=zol n P B h;have h2:=fun fs=>yg6 n P B fs;have h6:=ydu n P B;have h7:=zob n P B;have h8:=zqj n P B h;have h9:=ylq (ylf n P B h) w;have hb:decide (0<=w)=true:=by simpa using hw.1
 have hb2:decide (w<=59)=true:=by simpa using hw.2
 have h10:=fun ρ=>ztg n P B h w B.y hl ρ;unfold f_Book_show zf5 shw;cases hv:val (B.S i) w with
 |none=>
  rw[hv]at h9;generalize bkS n P B=σ at *;simp[h1,h2,h6,h7,h8,h9,zun,hb,hb2,h10]
 |some v=>
  rw[hv]at h9;simp only[zuf];rw[show bkS n P { y:=B.y,C:=B.C,S:=B.S,J:=B.J,Z:=B.Z }=bkS n P B from rfl];generalize bkS n P B=σ at *;simp[h1,h2,h6,h7,h8,h9,zun,hb,hb2]
theorem zej(s:Int)(hs:s=0\/s=1)(σ:Sto):f_check_side [.int s] σ=.ok .non σ:=by
 unfold f_check_side zer;rcases hs with rfl|rfl<;>simp[zto]
theorem zum(p:Pt)(σ:Sto):f_whole_of [p.D] σ=.ok (.int p.w) σ:=by
 have h2:=fun σ=>p.i2 σ;have h3:=fun σ=>p.i3 σ;unfold f_whole_of zh8 Pt.w;generalize p.D=D at *;simp[h2,h3]
theorem ztj(n:Nat)(P:Nat->Pt)(B:Bs){i:Nat}(h:i<n)(c:Cl)(ρ:Ev):ypb ρ (c.D (P i)) (.ref 2) (.int i) (bkS n P B)=.ok (.nx ρ) (bkS n P { B with C:=upd B.C i c }):=by
 unfold ypb yn4;have e:ixN ((List.range n).map fun i=>(B.C i).D (P i)).length (i:Int)=some i:=by
  unfold ixN;rw[List.length_map,List.length_range,if_pos (by omega),if_pos (by omega)];simp
 have l:ync (bkS n P B) 2=some ((List.range n).map fun i=>(B.C i).D (P i)):=rfl;simp only[l,e,znf]
theorem ypg(n a b:Int)(ts:List Ti):pl 8 (stD n a b ts)=true:=by simp[pl,stD,Ti.D]
def agD(p s:Int)(S:D):D:=.tup [.str "agree",.int p,.int s,S]
def Cl.ish:Cl->Bool
 | .held=>true
 |_=>false
theorem Cl.isH(c:Cl)(p:Pt)(σ:Sto):ys2 (yr5 [(5,true),(6,false),(7,false),(8,false)]) (c.D p) σ=.ok (.bl c.ish) σ:=by
 cases c with
 |held=>exact zzu (zlj rfl) rfl
 |laid=>exact zzu (ygy ..) rfl
 |taken=>exact zzu (zlj rfl) rfl
theorem zy4(n:Nat)(P:Nat->Pt)(B:Bs)(fs:M (List D)):ysq [(8,f_Book_may_lie)] 5 "may_lie" fs (.ref 1) (bkS n P B)=(fs (bkS n P B)).bind (ynn 5 f_Book_may_lie (.ref 1)):=ydy n P B _ _ rfl
def yu3(p s n:Int):D:=.tup [.str "strike",.int p,.int s,.int n]
section
variable(n:Nat)(P:Nat->Pt)(B:Bs)
theorem yq7(k:Nat):(bkS n P B)[4+n+k]?=B.J[k]?:=by
 unfold bkS;rw[show 4+n+k=(n+k)+1+1+1+1 by omega];simp only[List.getElem?_cons_succ];rw[List.getElem?_append_right (by simp)];simp
theorem ypc(k:Nat)(x:Ob):(bkS n P B).set (4+n+k) x=bkS n P { B with J:=B.J.set k x }:=by
 unfold bkS;rw[show 4+n+k=(n+k)+1+1+1+1 by omega];simp only[List.set_cons_succ];rw[List.set_append_right _ _ (by simp)];simp
def mdl(PV:D)(y:Int)(C:Nat->Cl)(S:Nat->List (Int × Int))(j:Sto):Sto:=
 .dic [(.inr "pots",PV),(.inr "day",.int y),(.inr "claims",.ref (5+n)),(.inr "shows",.ref (6+n))]::.lst ((List.range n).map fun i=>(C i).tl)::.lst ((List.range n).map fun i=>.ref (7+n+i))::(((List.range n).map fun i=>.dic (kvI (S i)))++j)
end
structure Ms where
 y:Int
 C:Nat->Cl
 S:Nat->List (Int × Int)
def fS(n:Nat)(P:Nat->Pt)(PV:D)(Z:Ob)(b m:Ms)(j:Sto):Sto:=bkS n P ⟨b.y,b.C,b.S,mdl n PV m.y m.C m.S j,Z⟩
section
variable(n:Nat)(P:Nat->Pt)(PV:D)(Z:Ob)(b m:Ms)(j:Sto)
theorem yru:(fS n P PV Z b m j)[4+n]?=some (.dic [(.inr "pots",PV),(.inr "day",.int m.y),(.inr "claims",.ref (5+n)),(.inr "shows",.ref (6+n))]):=yq7 n P _ 0
theorem yrv:ync (fS n P PV Z b m j) (5+n)=some ((List.range n).map fun i=>(m.C i).tl):=by
 have:=yq7 n P ⟨b.y,b.C,b.S,mdl n PV m.y m.C m.S j,Z⟩ 1;rw[show 4+n+1=5+n by omega]at this;unfold ync fS;rw[this];rfl
theorem yrw:ync (fS n P PV Z b m j) (6+n)=some ((List.range n).map fun i=>.ref (7+n+i)):=by
 have:=yq7 n P ⟨b.y,b.C,b.S,mdl n PV m.y m.C m.S j,Z⟩ 2;rw[show 4+n+2=6+n by omega]at this;unfold ync fS;rw[this];rfl
theorem yrx{i:Nat}(h:i<n):(fS n P PV Z b m j)[7+n+i]?=some (.dic (kvI (m.S i))):=by
 have:=yq7 n P ⟨b.y,b.C,b.S,mdl n PV m.y m.C m.S j,Z⟩ (3+i);rw[show 4+n+(3+i)=7+n+i by omega]at this;unfold fS;rw[this];show (mdl n PV m.y m.C m.S j)[3+i]?=_;unfold mdl;rw[show 3+i=i+1+1+1 by omega];simp only[List.getElem?_cons_succ];rw[List.getElem?_append_left (by simpa using h)];simp[h]
theorem ynk:yrj (fS n P PV Z b m j) (.ref (4+n))=some [(.inr "pots",PV),(.inr "day",.int m.y),(.inr "claims",.ref (5+n)),(.inr "shows",.ref (6+n))]:=by
 unfold yrj;simp only[yru]
theorem yg9{k:Str}{d:D}(h:ymb [(.inr "pots",PV),(.inr "day",.int m.y),(.inr "claims",.ref (5+n)),(.inr "shows",.ref (6+n))] (.inr k)=some d):yny (.ref (4+n)) (.str k) (fS n P PV Z b m j)=.ok d (fS n P PV Z b m j):=by
 unfold yny ysa;simp only[ynk,h]
theorem zyz:yny (.ref (4+n)) (.str "pots") (fS n P PV Z b m j)=.ok PV (fS n P PV Z b m j):=yg9 n P PV Z b m j rfl
theorem yg8:yny (.ref (4+n)) (.str "day") (fS n P PV Z b m j)=.ok (.int m.y) (fS n P PV Z b m j):=yg9 n P PV Z b m j rfl
theorem zl9:yny (.ref (4+n)) (.str "claims") (fS n P PV Z b m j)=.ok (.ref (5+n)) (fS n P PV Z b m j):=yg9 n P PV Z b m j rfl
theorem zrb:yny (.ref (4+n)) (.str "shows") (fS n P PV Z b m j)=.ok (.ref (6+n)) (fS n P PV Z b m j):=yg9 n P PV Z b m j rfl
theorem zra{i:Nat}(h:i<n):oIx (.ref (5+n)) (.int i) (fS n P PV Z b m j)=.ok (m.C i).tl (fS n P PV Z b m j):=by
 have s:yo5 (fS n P PV Z b m j) (.ref (5+n))=some ((List.range n).map fun i=>(m.C i).tl):=yrv n P PV Z b m j;unfold oIx;simp only[s,ixR (fun i=>(m.C i).tl) h]
theorem zy1{i:Nat}(h:i<n):oIx (.ref (6+n)) (.int i) (fS n P PV Z b m j)=.ok (.ref (7+n+i)) (fS n P PV Z b m j):=by
 have s:yo5 (fS n P PV Z b m j) (.ref (6+n))=some ((List.range n).map fun i=>.ref (7+n+i)):=yrw n P PV Z b m j;unfold oIx;simp only[s,ixR (fun i=>D.ref (7+n+i)) h]
theorem yha{i:Nat}(h:i<n):yrj (fS n P PV Z b m j) (.ref (7+n+i))=some (kvI (m.S i)):=by
 unfold yrj;simp only[yrx n P PV Z b m j h]
theorem yg7(j2:Sto):fS n P PV Z b m j++j2=fS n P PV Z b m (j++j2):=by
 unfold fS;rw[ydt];unfold mdl;simp
theorem zma(y:Int):(fS n P PV Z b m j).set (4+n) (.dic [(.inr "pots",PV),(.inr "day",.int y),(.inr "claims",.ref (5+n)),(.inr "shows",.ref (6+n))])=fS n P PV Z b { m with y:=y } j:=ypc n P _ 0 _
theorem zgl(i:Nat)(c:Cl):(fS n P PV Z b m j).set (5+n) (.lst (((List.range n).map fun i=>(m.C i).tl).set i c.tl))=fS n P PV Z b { m with C:=upd m.C i c } j:=by
 have:=ypc n P ⟨b.y,b.C,b.S,mdl n PV m.y m.C m.S j,Z⟩ 1 (.lst (((List.range n).map fun i=>(m.C i).tl).set i c.tl));rw[show 4+n+1=5+n by omega]at this;unfold fS;rw[this,zng n m.C (fun _ (c:Cl)=>c.tl) i c];rfl
theorem zmb{i:Nat}(hi:i<n)(l:List (Int × Int)):(fS n P PV Z b m j).set (7+n+i) (.dic (kvI l))=fS n P PV Z b { m with S:=upd m.S i l } j:=by
 have:=ypc n P ⟨b.y,b.C,b.S,mdl n PV m.y m.C m.S j,Z⟩ (3+i) (.dic (kvI l));rw[show 4+n+(3+i)=7+n+i by omega]at this;unfold fS;rw[this];congr 2;show (mdl n PV m.y m.C m.S j).set (3+i) (.dic (kvI l))=mdl n PV m.y m.C (upd m.S i l) j;unfold mdl;rw[show 3+i=i+1+1+1 by omega];simp only[List.set_cons_succ];rw[List.set_append_left _ _ (by simpa using hi),zng n m.S (fun _ (l:List (Int × Int))=>Ob.dic (kvI l)) i l]
end
section
variable(n:Nat)(P:Nat->Pt)(PV:D)(Z:Ob)(b m:Ms)(j:Sto)
abbrev yri:D:=.tup [.str "day"]
abbrev ypd(p w:Int):D:=.tup [.str "show",.int p,.int w]
theorem ye5:f_Book_next_day [.ref 1] (fS n P PV Z b m j)=.ok .non (fS n P PV Z { b with y:=b.y+1 } m j):=zis n P _
theorem zwk(fs:M (List D)):ysq [(8,f_Book_next_day)] 1 "next_day" fs (.ref 1) (fS n P PV Z b m j)=(fs (fS n P PV Z b m j)).bind (ynn 1 f_Book_next_day (.ref 1)):=ydy n P _ _ _ rfl
theorem zwl(fs:M (List D)):ysq [(8,f_Book_show)] 3 "show" fs (.ref 1) (fS n P PV Z b m j)=(fs (fS n P PV Z b m j)).bind (ynn 3 f_Book_show (.ref 1)):=ydy n P _ _ _ rfl
theorem zov:f__law_done [.ref 1,yri] (fS n P PV Z b m j)=.ok (.str "done") (fS n P PV Z { b with y:=b.y+1 } m j):=by
 have h1:=ye5 n P PV Z b m j;have h2:=fun fs=>zwk n P PV Z b m j fs;unfold f__law_done zga;generalize fS n P PV Z { b with y:=b.y+1 } m j=σ2 at *;generalize fS n P PV Z b m j=σ at *;simp[h1,h2]
theorem zvy:f__law_due [.ref (4+n),yri] (fS n P PV Z b m j)=.ok (.str "done") (fS n P PV Z b { m with y:=m.y+1 } j):=by
 have h1:=yg8 n P PV Z b m j;have h2:∀ ρ d,yo8 ρ (.int d) (.ref (4+n)) (.str "day") (fS n P PV Z b m j)=.ok (.nx ρ) (fS n P PV Z b { m with y:=d } j):=fun ρ d=>by
  have e:=zma n P PV Z b m j d;have pk:yok [(.inr "pots",PV),(.inr "day",.int m.y),(.inr "claims",.ref (5+n)),(.inr "shows",.ref (6+n))] (.inr "day") (.int d)=[(.inr "pots",PV),(.inr "day",.int d),(.inr "claims",.ref (5+n)),(.inr "shows",.ref (6+n))]:=rfl;unfold yo8;simp only[ysa,yru];rw[if_pos (by simp[cap]),pk,e]
 unfold f__law_due zh3;have h3:=fun ρ=>h2 ρ (m.y+1);generalize hs:fS n P PV Z b m j=σ at *;generalize hs2:fS n P PV Z b { m with y:=m.y+1 } j=σ2 at *;simp[h1,h3]
end
noncomputable abbrev tB:Ev->M Fl:=(sIf (eT (yrl oEq (yrl oIx (yrr 1) (eC (.int 0))) (eC (.str "day")))) (yuj (yro [(8,f_Book_next_day)] 1 "next_day" (yrr 0) yqy)) (sIf (eT (yrl oEq (yrl oIx (yrr 1) (eC (.int 0))) (eC (.str "show")))) (yuj (yro [(8,f_Book_show)] 3 "show" (yrr 0) (yk5 (yrl oIx (yrr 1) (eC (.int 1))) (yk5 (yrl oIx (yrr 1) (eC (.int 2))) yqy)))) (sIf (eT (yrl oEq (yrl oIx (yrr 1) (eC (.int 0))) (eC (.str "strike")))) (yuj (yro [(8,f_Book_strike)] 4 "strike" (yrr 0) (yk5 (yrl oIx (yrr 1) (eC (.int 1))) (yk5 (yrl oIx (yrr 1) (eC (.int 2))) (yk5 (yrl oIx (yrr 1) (eC (.int 3))) yqy))))) (sIf (eT (yrl ys1 (yrl oIx (yrr 1) (eC (.int 4))) (eC .non))) (yuj (yro [(8,fun ds=>f_Book_lay (ds++[.non]))] 4 "lay" (yrr 0) (yk5 (yrl oIx (yrr 1) (eC (.int 1))) (yk5 (yrl oIx (yrr 1) (eC (.int 2))) (yk5 (yrl oIx (yrr 1) (eC (.int 3))) yqy))))) (yuj (yro [(8,f_Book_lay)] 5 "lay" (yrr 0) (yk5 (yrl oIx (yrr 1) (eC (.int 1))) (yk5 (yrl oIx (yrr 1) (eC (.int 2))) (yk5 (yrl oIx (yrr 1) (eC (.int 3))) (yk5 (yrl oIx (yrr 1) (eC (.int 4))) yqy))))))))))
section
variable{x d:D}{σ σ':Sto}
theorem zvx(h:tB [some x,some d,some (.str "done"),some (.bl true),none] σ=.ok (.nx [some x,some d,some (.str "done"),some (.bl true),none]) σ'):f__law_done [x,d] σ=.ok (.str "done") σ':=by
 unfold tB at h;unfold f__law_done zga;rw[zxo,yjg];show yug (yup _ _ [some x,some d,none,none,none] σ)=_;simp only[ybl,ybm,ylu,ykm,ybx,zu8,ybs,List.set_cons_succ,List.set_cons_zero,ybn,h,yc4];simp
theorem yel(h:tB [some x,some d,some (.str "done"),some (.bl true),none] σ=.ok (.xc [some x,some d,some (.str "done"),some (.bl true),none] ⟨2⟩) σ'):f__law_done [x,d] σ=.ok (.str "deed") σ':=by
 unfold tB at h;unfold f__law_done zga;rw[zxo,yjg];show yug (yup _ _ [some x,some d,none,none,none] σ)=_;simp only[ybl,ybm,ylu,ykm,ybx,zu8,ybs,List.set_cons_succ,List.set_cons_zero,ybn,h,yc5];rw[zp8 rfl,yga];have i1:∀ σ,ys3 (yr5 [(0,true),(1,true),(2,true)]) (.exn 2) σ=.ok (.bl true) σ:=fun σ=>zzv rfl;have i2:∀ σ,ys3 (yr5 [(0,false),(1,true),(2,false)]) (.exn 2) σ=.ok (.bl false) σ:=fun σ=>zzv rfl;simp[i1,i2]
theorem yek(h:tB [some x,some d,some (.str "done"),some (.bl true),none] σ=.ok (.xc [some x,some d,some (.str "done"),some (.bl true),none] ⟨1⟩) σ'):f__law_done [x,d] σ=.ok (.str "stand") σ':=by
 unfold tB at h;unfold f__law_done zga;rw[zxo,yjg];show yug (yup _ _ [some x,some d,none,none,none] σ)=_;simp only[ybl,ybm,ylu,ykm,ybx,zu8,ybs,List.set_cons_succ,List.set_cons_zero,ybn,h,yc5];rw[zp7 rfl,zp8 rfl,yga];have i1:∀ σ,ys3 (yr5 [(0,true),(1,true),(2,true)]) (.exn 1) σ=.ok (.bl true) σ:=fun σ=>zzv rfl;have i2:∀ σ,ys3 (yr5 [(0,false),(1,false),(2,true)]) (.exn 1) σ=.ok (.bl false) σ:=fun σ=>zzv rfl;simp[i1,i2]
end
section
variable(n:Nat)(P:Nat->Pt)(B:Bs)
theorem zkn(p:Int)(hp:p<0\/(n:Int)<=p):f_Book_check_pot [.ref 1,.int p] (bkS n P B)=.ex ⟨2⟩ (bkS n P B):=by
 have h1:=zu9 n P B;have h2:=zqy n P;have hb:(decide (0<=p) && decide (p<=(n:Int) - 1))=false:=by
  cases z:(decide (0<=p) && decide (p<=(n:Int) - 1))with
  |false=>rfl
  |true=>simp at z;omega
 unfold f_Book_check_pot zbe;generalize bkS n P B=σ at *;generalize ytm n P=PL at *;simp[h1,h2,zvc,hb]
theorem ztn(s:Int)(hs:s≠0/\s≠1)(σ:Sto):f_check_side [.int s] σ=.ex ⟨2⟩ σ:=by
 have hb:(decide (0<=s) && decide (s<=1))=false:=by
  cases z:(decide (0<=s) && decide (s<=1))with
  |false=>rfl
  |true=>simp at z;omega
 unfold f_check_side zer;simp[zto,hb]
theorem zni(p:Int)(hp:p<0\/(n:Int)<=p)(w:D):f_Book_show [.ref 1,.int p,w] (bkS n P B)=.ex ⟨2⟩ (bkS n P B):=by
 have h1:=zkn n P B p hp;have h2:=fun fs=>yg6 n P B fs;unfold f_Book_show zf5;generalize bkS n P B=σ at *;simp[h1,h2]
theorem znj{i:Nat}(h:i<n)(w:Int)(hw:w<0\/59<w):f_Book_show [.ref 1,.int i,.int w] (bkS n P B)=.ex ⟨2⟩ (bkS n P B):=by
 have h1:=zol n P B h;have h2:=fun fs=>yg6 n P B fs;have hb:(decide (0<=w) && decide (w<=59))=false:=by
  cases z:(decide (0<=w) && decide (w<=59))with
  |false=>rfl
  |true=>simp at z;omega
 unfold f_Book_show zf5;generalize bkS n P B=σ at *;simp[h1,h2,zun,hb]
end
section
variable(n:Nat)(P:Nat->Pt)(PV:D)(Z:Ob)(b m:Ms)(j:Sto)
def yql:Prop:=∀ b m j,yo5 (fS n P PV Z b m j) PV=some ((List.range n).map fun i=>(P i).D)
variable{n P PV Z}
theorem yql.len(h:yql n P PV Z):ys5 [PV] (fS n P PV Z b m j)=.ok (.int n) (fS n P PV Z b m j):=by
 unfold ys5;simp only[h b m j];simp
theorem yql.ix(h:yql n P PV Z){i:Nat}(hi:i<n):oIx PV (.int i) (fS n P PV Z b m j)=.ok (P i).D (fS n P PV Z b m j):=by
 unfold oIx;simp only[h b m j,ixR (fun i=>(P i).D) hi]
theorem zox(h:yql n P PV Z)(k:Str)(hk:(k == ("day" : Str))=false)(p:Int)(hp:p<0\/(n:Int)<=p)(r:List D):f__law_due [.ref (4+n),.tup (.str k::.int p::r)] (fS n P PV Z b m j)=.ok (.str "deed") (fS n P PV Z b m j):=by
 have h1:=zyz n P PV Z b m j;have h2:=h.len b m j;have h3:(decide (p<0))=true\/(decide (p<0)=false/\decide (p ≥ (n:Int))=true):=by
  by_cases h:p<0
  ·exact .inl (by simpa using h)
  ·exact .inr ⟨by simpa using h,by simp;omega⟩
 unfold f__law_due zh3;generalize fS n P PV Z b m j=σ at *;rcases h3 with h3|⟨h3,h4⟩
 ·simp[hk,h1,h2,h3]
 ·have h4':decide ((n:Int)<=p)=true:=by simpa using h4
  simp[hk,h1,h2,h3,h4']
theorem zoz(h:yql n P PV Z){i:Nat}(hi:i<n)(w:Int)(hw:w<0\/59<w):f__law_due [.ref (4+n),ypd i w] (fS n P PV Z b m j)=.ok (.str "deed") (fS n P PV Z b m j):=by
 have h1:=zyz n P PV Z b m j;have h2:=h.len b m j;have b1:decide ((i:Int)<0)=false:=by simp
 have b2:decide ((n:Int)<=(i:Int))=false:=by simp;omega
 have k1:(("show" : Str) == ("day" : Str))=false:=by decide
 have h3:decide (w<0)=true\/(decide (w<0)=false/\decide (59<w)=true):=by
  by_cases h:w<0
  ·exact .inl (by simpa using h)
  ·exact .inr ⟨by simpa using h,by simp;omega⟩
 unfold f__law_due zh3;generalize (i:Int)=p at *;generalize fS n P PV Z b m j=σ at *;rcases h3 with h3|⟨h3,h4⟩
 ·simp[k1,h1,h2,b1,b2,h3]
 ·simp[k1,h1,h2,b1,b2,h3,h4]
theorem znh{i:Nat}(hi:i<n)(w y:Int)(hl:(m.S i).length<1000):∃ d,zz5 (.ref (7+n+i)) [.int w,.int y] (fS n P PV Z b m j)=.ok d (fS n P PV Z b { m with S:=upd m.S i (shw (m.S i) w y) } j):=by
 have hc:(kvI (m.S i)).length<cap:=by unfold kvI;simpa [cap]using hl
 unfold zz5;simp only[ysa,yrx n P PV Z b m j hi];rw[if_pos hc,zpq];unfold shw;cases hv:val (m.S i) w with
 |some v=>exact⟨_,by simp only[Option.map_some,zuf];rfl⟩
 |none=>exact⟨_,by simp only[Option.map_none];rw[zmv,zmb n P PV Z b m j hi]⟩
theorem zo0(h:yql n P PV Z){i:Nat}(hi:i<n)(w:Int)(hw:0<=w/\w<=59)(hl:(m.S i).length<1000):f__law_due [.ref (4+n),ypd i w] (fS n P PV Z b m j)=.ok (.str "done") (fS n P PV Z b { m with S:=upd m.S i (shw (m.S i) w m.y) } j):=by
 have h1:=zyz n P PV Z b m j;have h2:=h.len b m j;have b1:decide ((i:Int)<0)=false:=by simp
 have b2:decide ((n:Int)<=(i:Int))=false:=by simp;omega
 have k1:(("show" : Str) == ("day" : Str))=false:=by decide
 have b3:decide (w<0)=false:=by simp;omega
 have b4:decide (59<w)=false:=by simp;omega
 have h3:=zrb n P PV Z b m j;have h4:=zy1 n P PV Z b m j hi;have h5:=yg8 n P PV Z b m j;obtain⟨d,h6⟩:=znh (P:=P) (PV:=PV) (Z:=Z) b m j hi w m.y hl;have h7:∀ fs,yhc zz5 fs (.ref (7+n+i)) (fS n P PV Z b m j)=(fs (fS n P PV Z b m j)).bind (zz5 (.ref (7+n+i))):=fun fs=>by unfold yhc;rw[yha n P PV Z b m j hi];rfl
 unfold f__law_due zh3;generalize (D.ref (7+n+i))=R at *;generalize (i:Int)=p at *;generalize fS n P PV Z b { m with S:=upd m.S i (shw (m.S i) w m.y) } j=σ2 at *;generalize fS n P PV Z b m j=σ at *;have em:∀ (o:D->List D->M D) (f:Ev->M D) (fs:Ev->M (List D)) (ρ:Ev) (σ:Sto),yeq o f fs ρ σ=(f ρ σ).bind (yhc o (fs ρ)):=fun _ _ _ _ _=>nr rfl;simp[k1,h1,h2,b1,b2,b3,b4,h3,h4,h5,h6,h7,em]
theorem zks{i:Nat}(hi:i<n)(w:Int)(hw:0<=w/\w<=59)(hl:(b.S i).length<1000):f__law_done [.ref 1,ypd i w] (fS n P PV Z b m j)=.ok (.str "done") (fS n P PV Z { b with S:=upd b.S i (shw (b.S i) w b.y) } m j):=by
 have h1:f_Book_show [.ref 1,.int i,.int w] (fS n P PV Z b m j)=.ok .non (fS n P PV Z { b with S:=upd b.S i (shw (b.S i) w b.y) } m j):=yb2 n P _ hi w hw hl;have h2:=fun fs=>zwl n P PV Z b m j fs;have k1:(("show" : Str) == ("day" : Str))=false:=by decide
 refine zvx ?_;unfold tB;generalize (i:Int)=p at *;generalize fS n P PV Z { b with S:=upd b.S i (shw (b.S i) w b.y) } m j=σ2 at *;generalize fS n P PV Z b m j=σ at *;simp[k1,h1,h2]
theorem zel(p w:Int)(hx:f_Book_show [.ref 1,.int p,.int w] (fS n P PV Z b m j)=.ex ⟨2⟩ (fS n P PV Z b m j)):f__law_done [.ref 1,ypd p w] (fS n P PV Z b m j)=.ok (.str "deed") (fS n P PV Z b m j):=by
 have h2:=fun fs=>zwl n P PV Z b m j fs;have k1:(("show" : Str) == ("day" : Str))=false:=by decide
 refine yel ?_;unfold tB;generalize fS n P PV Z b m j=σ at *;simp[k1,hx,h2]
end
theorem eqL_refl{f:D->D->Option Bool}:∀ {xs:List D},(∀ x∈xs,f x x=some true)->eqL f xs xs=some true
 |[],_=>rfl
 |x::xs,h=>by
  unfold eqL;rw[h x List.mem_cons_self,eqL_refl fun y hy=>h y (List.mem_cons_of_mem _ hy)];rfl
theorem eqD_refl(σ:Sto):∀ (k:Nat) (x:D),pl k x=true->eqD σ k x x=some true:=by
 intro k;induction k with
 |zero=>intro x hx;cases x<;>simp_all [pl,eqD,kd,eqK,eqV]
 |succ k ih=>
  intro x hx;cases x with
  |tup xs=>
   show eqL (eqD σ k) xs xs=some true;refine eqL_refl fun y hy=>ih y ?_;simp only[pl,List.all_eq_true]at hx;exact hx y hy
  |lst xs=>
   show eqL (eqD σ k) xs xs=some true;refine eqL_refl fun y hy=>ih y ?_;simp only[pl,List.all_eq_true]at hx;exact hx y hy
  |_=>simp_all [pl,eqD,kd,eqK,eqV]
theorem Cl.plt(c:Cl):L4.pl 8 c.tl=true:=by cases c<;>simp[L4.pl,Cl.tl,stD,Ti.D]
theorem zzh{x:D}(h:pl 8 x=true)(σ:Sto):oNe x x σ=.ok (.bl false) σ:=by
 have:=eqD_refl σ 8 x h;exact yhw this
def kys(l:List (Int × Int)):List Int:=l.map (·.1)
theorem zyg(l:List (Int × Int))(w v:Int):kys (ytr l w v)=PyProof.Rows.step_dedup (kys l) w:=by
 have ea:l.any (fun p=>decide (p.1=w))=(kys l).any (·== w):=by
  unfold kys;rw[List.any_map];congr 1
 unfold ytr PyProof.Rows.step_dedup;rw[ea];cases h:(kys l).any (·== w)with
 |true=>
  simp only[if_true];unfold kys;rw[List.map_map];apply List.map_congr_left;intro p _;simp only[Function.comp];split<;>rfl
 |false=>simp[kys]
theorem zy5:∀ (l2 l:List (Int × Int)),ysn (kvI l) (kvI l2)=kvI (l2.foldl (fun a p=>ytr a p.1 p.2) l)
 |[],l=>rfl
 |(w,v)::l2,l=>by
  have e:ysn (kvI l) (kvI ((w,v)::l2))=ysn (yok (kvI l) (.inl w) (.int v)) (kvI l2):=rfl;rw[e,zmv,zy5 l2 (ytr l w v)];rfl
theorem zyf:∀ (l2 l:List (Int × Int)),kys (l2.foldl (fun a p=>ytr a p.1 p.2) l)=(kys l2).foldl PyProof.Rows.step_dedup (kys l)
 |[],l=>rfl
 |(w,v)::l2,l=>by
  rw[List.foldl_cons,zyf l2 (ytr l w v),zyg];rfl
theorem zlv:∀ (l:List (Int × Int)),ym3 (kvI l)=some (kys l)
 |[]=>rfl
 |(w,v)::l=>by
  show (ym3 (kvI l)).map (w::·)=_;rw[zlv l];rfl
theorem zqz(l:List (Int × Int)):ym8 (kvI l) (kvI l)=true:=zif fun p hp=>by
 unfold kvI at hp;obtain⟨q,_,rfl⟩:=List.mem_map.mp hp;exact⟨q.2,rfl⟩
theorem zmh{x y:D}{σ:Sto}{l:List (Int × Int)}(hx:yrj σ x=some (kvI l))(hy:yrj σ y=some (kvI l)):ys9 x y σ=.ok (.bl false) σ:=by
 unfold ys9;simp only[hx,hy];rw[if_pos (zqz l)]
theorem zky{x y:D}{σ:Sto}{l:List (Int × Int)}(hx:yrj σ x=some (kvI l))(hy:yrj σ y=some (kvI l)):ysy x y σ=.ok (.bl true) σ:=by
 unfold ysy;simp only[hx,hy];rw[if_pos (zqz l)]
theorem yeg(σ:Sto)(kv:List (Key × D)):yrj (σ++[.dic kv]) (.ref σ.length)=some kv:=by unfold yrj;simp
theorem zq1{x:D}{σ:Sto}{l:List (Int × Int)}(hx:yrj σ x=some (kvI l))(hl:l.length<=1000):yrz σ (yhu [x] σ)=.ok (.lst ((kys l).map D.int)) σ:=by
 have e:yhu [x] σ=.ok (.ref σ.length) (σ++[.lst ((kys l).map D.int)]):=by
  unfold yhu;simp only[hx];rw[if_pos (by unfold kvI;simpa [cap]using hl)];have:((kvI l).map fun kv=>ysc kv.1)=(kys l).map D.int:=by unfold kvI kys;rw[List.map_map,List.map_map];rfl
  rw[this];rfl
 rw[e];have:=zp0 (σ:=σ) (j:=[]) (j':=[]) (xs:=(kys l).map D.int) (by simp);simpa using this
section
variable(n:Nat)(P:Nat->Pt)(B:Bs)
theorem yb1{i:Nat}(h:i<n):f_Book_shown_for [.ref 1,.int i] (bkS n P B)=.ok (.ref (bkS n P B).length) (bkS n P B++[.dic (kvI (B.S i))]):=by
 have h1:=zol n P B h;have h2:=fun fs=>yg6 n P B fs;have h3:=zob n P B;have h4:=zqj n P B h;have h5:ynz [.ref (4+i)] (bkS n P B)=.ok (.ref (bkS n P B).length) (bkS n P B++[.dic (kvI (B.S i))]):=by
  unfold ynz;simp only[ylf n P B h]
 unfold f_Book_shown_for zbf;generalize (D.ref (4+i))=R at *;generalize (i:Int)=p at *;generalize bkS n P B=σ at *;simp[h1,h2,h3,h4,h5]
theorem zua:f_Book_today [.ref 1] (bkS n P B)=.ok (.int B.y) (bkS n P B):=by
 have h1:=ydu n P B;unfold f_Book_today zem;generalize bkS n P B=σ at *;simp[h1]
end
def Wd(S:Nat->List (Int × Int))(i k:Nat):List Int:=(List.range' i k).flatMap fun i=>kys (S i)
theorem zur(S:Nat->List (Int × Int))(i k:Nat):Wd S i (k+1)=kys (S i)++Wd S (i+1) k:=by unfold Wd;rw[List.range'_succ,List.flatMap_cons]
def mgK(S:Nat->List (Int × Int)):Nat->Nat->List (Int × Int)->List (Int × Int)
 |0,_,l=>l
 |k+1,i,l=>mgK S k (i+1) ((S i).foldl (fun a p=>ytr a p.1 p.2) l)
theorem zye(S:Nat->List (Int × Int)):∀ (k i:Nat) (l:List (Int × Int)),kys (mgK S k i l)=(Wd S i k).foldl PyProof.Rows.step_dedup (kys l)
 |0,i,l=>rfl
 |k+1,i,l=>by
  rw[zur,List.foldl_append,<-zyf];exact zye S k (i+1) _
theorem yg0:∀ (xs acc:List Int),(xs.foldl PyProof.Rows.step_dedup acc).length<=acc.length+xs.length
 |[],acc=>by simp
 |x::xs,acc=>by
  rw[List.foldl_cons];have:=yg0 xs (PyProof.Rows.step_dedup acc x);have h2:(PyProof.Rows.step_dedup acc x).length<=acc.length+1:=by unfold PyProof.Rows.step_dedup;split<;>simp
  simp only[List.length_cons];omega
theorem zyd(l:List (Int × Int)):(kys l).length=l.length:=by simp[kys]
theorem zig{tg:D->Ev->Option Ev}{body:Ev->M Fl}{n k i:Nat}{ρ ρ1:Ev}{σ:Sto}{xs:List D}{d:D}(h:ync σ n=some xs)(hi:xs[i]?=some d)(ht:tg d ρ=some ρ1):yna tg body n (k+1) i ρ σ=(body ρ1 σ).bind (ym9 (yna tg body n k (i+1))):=by
 rw[yna];simp only[h,hi,ht];rfl
theorem zl2{tg:D->Ev->Option Ev}{body:Ev->M Fl}{n k i:Nat}{ρ:Ev}{σ:Sto}{xs:List D}(h:ync σ n=some xs)(hi:xs[i]?=none):yna tg body n (k+1) i ρ σ=.ok (.nx ρ) σ:=by
 rw[yna];simp only[h,hi]
@[simp] theorem zkw(o:D->List D->M D)(f:Ev->M D)(fs:Ev->M (List D))(ρ:Ev)(σ:Sto):yeq o f fs ρ σ=(f ρ σ).bind (yhc o (fs ρ)):=nr rfl
@[simp] theorem zo2(ρ:Ev)(σ:Sto):ylx ρ σ=.ok (.ref σ.length) (σ++[.dic []]):=nr rfl
noncomputable abbrev wuB:Ev->M Fl:=(yuj (yeq yth (yrr 1) (yk5 (yrr 2) yqy)))
section
variable(n:Nat)(P:Nat->Pt)(B:Bs)
theorem ydx:4+n<=(bkS n P B).length:=by unfold bkS;simp;omega
theorem ydp{i:Nat}(h:i<n)(x:Ob):yrj (bkS n P B++[x]) (.ref (4+i))=some (kvI (B.S i)):=by rw[ydt];exact ylf n P _ h
theorem yde{i:Nat}(h:i<n)(l:List (Int × Int))(hl:l.length+(B.S i).length<64):wuB [some (.ref 1),some (.ref (bkS n P B).length),some (.ref (4+i))] (bkS n P B++[.dic (kvI l)])=.ok (.nx [some (.ref 1),some (.ref (bkS n P B).length),some (.ref (4+i))]) (bkS n P B++[.dic (kvI ((B.S i).foldl (fun a p=>ytr a p.1 p.2) l))]):=by
 have hn:=ydx n P B;have h1:=ydp n P B h (.dic (kvI l));have u:yth (.ref (bkS n P B).length) [.ref (4+i)] (bkS n P B++[.dic (kvI l)])=.ok .non (bkS n P B++[.dic (kvI ((B.S i).foldl (fun a p=>ytr a p.1 p.2) l))]):=by
  have e:(bkS n P B++[Ob.dic (kvI l)])[(bkS n P B).length]?=some (.dic (kvI l)):=by simp
  unfold yth;simp only[e,h1];rw[if_pos (by
   have a:apart (bkS n P B).length (.ref (4+i))=true:=by unfold apart;simp;omega
   rw[a];simp only[Bool.true_and,decide_eq_true_eq];unfold kvI cap;simp;omega)]
  rw[zy5,ybz]
 have m:∀ fs,yhc yth fs (.ref (bkS n P B).length) (bkS n P B++[.dic (kvI l)])=(fs (bkS n P B++[.dic (kvI l)])).bind (yth (.ref (bkS n P B).length)):=fun fs=>by unfold yhc;rw[yeg];rfl
 unfold wuB;rw[ybf,zkw,yev,yeu,zu8,m,zn2,yev,yev,yeu,zu8,zjv,zus,zu8,zop,zu8,u,ykm,zwg]
theorem ydd(hn3:n<=3):∀ (k i f:Nat) (l:List (Int × Int)) (x2:Option D),i+k=n->f=1001 - i->l.length+(Wd B.S i k).length<64->∃ y2,yna (tgN 2) wuB 3 f i [some (.ref 1),some (.ref (bkS n P B).length),x2] (bkS n P B++[.dic (kvI l)])=.ok (.nx [some (.ref 1),some (.ref (bkS n P B).length),y2]) (bkS n P B++[.dic (kvI (mgK B.S k i l))]):=by
 intro k;have hL:∀ x:Ob,ync (bkS n P B++[x]) 3=some ((List.range n).map fun i=>.ref (4+i)):=fun x=>by rw[ydt];rfl
 induction k with
 |zero=>
  intro i f l x2 hik hf _;obtain⟨f',rfl⟩:∃ f',f=f'+1:=⟨f - 1,by omega⟩
  exact⟨x2,zl2 (hL _) (by simp;omega)⟩
 |succ k ih=>
  intro i f l x2 hik hf hl;have hi:i<n:=by omega
  obtain⟨f',rfl⟩:∃ f',f=f'+1:=⟨f - 1,by omega⟩
  rw[zur,List.length_append,zyd]at hl;have st:=yde n P B hi l (by omega);have hl2:((B.S i).foldl (fun a p=>ytr a p.1 p.2) l).length<=l.length+(B.S i).length:=by
   rw[<-zyd,zyf];have:=yg0 (kys (B.S i)) (kys l);rw[zyd,zyd]at this;exact this
  obtain⟨y2,e⟩:=ih (i+1) f' _ (some (.ref (4+i))) (by omega) (by omega) (show ((B.S i).foldl (fun a p=>ytr a p.1 p.2) l).length+(Wd B.S (i+1) k).length<64 by omega);refine⟨y2,?_⟩;rw[zig (hL _) (show ((List.range n).map fun i=>D.ref (4+i))[i]?=some (.ref (4+i)) by simp[hi]) (ρ1:=[some (.ref 1),some (.ref (bkS n P B).length),some (.ref (4+i))]) (nr rfl),st,zu8,zq3,e];rfl
theorem ydo(hn3:n<=3)(hW:(Wd B.S 0 n).length<64):∃ x,f_Book_all_shown [.ref 1] (bkS n P B)=.ok (.ref ((bkS n P B).length+1)) (bkS n P B++[x]++[.lst ((yu2 (ddp (Wd B.S 0 n))).map D.int)]):=by
 obtain⟨y2,e⟩:=ydd n P B hn3 n 0 1001 [] none (by omega) (by omega) (by simpa using hW);have ek:kys (mgK B.S n 0 [])=ddp (Wd B.S 0 n):=zye B.S n 0 [];refine⟨.dic (kvI (mgK B.S n 0 [])),?_⟩;have bs:∀ x:Ob,ysz [8] "shown" (.ref 1) (bkS n P B++[x])=.ok (.ref 3) (bkS n P B++[x]):=fun x=>by rw[ydt];exact zob n P _
 have sk:∀ x:Ob,yo4 (.ref 3) (bkS n P B++[x])=.ok (.lref 3) (bkS n P B++[x]):=fun x=>by rw[ydt];rfl
 have so:yn5 [.ref (bkS n P B).length] (bkS n P B++[.dic (kvI (mgK B.S n 0 []))])=.ok (.ref ((bkS n P B).length+1)) (bkS n P B++[.dic (kvI (mgK B.S n 0 []))]++[.lst ((yu2 (ddp (Wd B.S 0 n))).map D.int)]):=by
  have l:ysf (bkS n P B++[Ob.dic (kvI (mgK B.S n 0 []))]) (.ref (bkS n P B).length)=none:=by unfold ysf ync;simp
  have d:=yeg (bkS n P B) (kvI (mgK B.S n 0 []));unfold yn5;simp only[l];unfold zr5;simp only[d,zlv,ek];have:=yei (Wd B.S 0 n);rw[if_pos (by omega)];unfold ynm;simp
 have fk:∀ (tg:D->Ev->Option Ev) (body:Ev->M Fl) (ρ:Ev) (n:Nat) (σ:Sto),yry tg body ρ (.lref n) σ=yna tg body n 1001 0 ρ σ:=fun _ _ _ _ _=>rfl;have e0:kvI []=[]:=rfl;rw[e0]at e;unfold wuB at e;unfold f_Book_all_shown zbd;generalize (bkS n P B).length+1=N1 at *;simp only[zxo,yjg,ybl,ybm,zo2,zu8,ykm,ybx,ybs,List.map_cons,List.map_nil,List.length_cons,List.length_nil,List.cons_append,List.nil_append,List.set_cons_succ,List.set_cons_zero,Nat.reduceAdd,Nat.reduceSub,List.replicate,ybh,ycv,yet,yeu,bs,sk,fk,e,ybk,zo1,zn2,yev,zjv,zus,zop,so,ya8,ybb]
end
def eqT(x y:D):Bool:=(eqD [] 8 x y).getD false
theorem ye0{x y:D}(hx:pl 8 x=true)(hy:pl 8 y=true)(σ:Sto):eqD σ 8 x y=some (eqT x y):=by
 obtain⟨b,h0,h⟩:=zwa [] 8 x y hx hy;obtain⟨c,h1,h2⟩:=zwa σ 8 x y hx hy;rw[h]at h2;cases h2;rw[h1];unfold eqT;rw[h0];rfl
theorem ye1{x y:D}(hx:pl 8 x=true)(hy:pl 8 y=true)(σ:Sto):oEq x y σ=.ok (.bl (eqT x y)) σ:=yhq (ye0 hx hy σ)
theorem ye2{x y:D}(hx:pl 8 x=true)(hy:pl 8 y=true)(σ:Sto):oNe x y σ=.ok (.bl (!eqT x y)) σ:=yhw (ye0 hx hy σ)
theorem zwc(xs:List D):eqT .non (.tup xs)=false:=by simp[eqT,eqD,kd,eqK]
def Thg(G:D):Prop:=G=.non\/∃ xs,G=.tup xs/\(∀ σ,f_is_thing [.tup xs] σ=.ok (.bl true) σ)/\pl 8 (.tup xs)=true/\cl (.tup xs)=true
theorem Thg.pl{G:D}(h:Thg G):L4.pl 8 G=true:=by
 rcases h with rfl|⟨xs,rfl,_,h⟩
 ·rfl
 ·exact h.1
theorem Thg.cls{G:D}(h:Thg G):L4.cl G=true:=by
 rcases h with rfl|⟨xs,rfl,_,h⟩
 ·simp
 ·exact h.2
theorem Thg.none:Thg .non:=.inl rfl
theorem Thg.th{t:Th}(h:yr8 t=true):Thg (thD t):=by
 have:=fun σ=>ypu t σ;rw[h]at this;cases t with
 |strike p s n=>exact .inr ⟨_,rfl,this,by simp[L4.pl],by simp⟩
 |agree p s n a b ts=>exact .inr ⟨_,rfl,this,by simp[L4.pl,stD,Ti.D],by simp⟩
 |word n=>exact .inr ⟨_,rfl,this,by simp[L4.pl],by simp⟩
 |none_=>exact .inl rfl
theorem thn(σ:Sto):f_is_thing [.non] σ=.ok (.bl false) σ:=ypu .none_ σ
theorem yj2(p s n:Int):pl 8 (yu3 p s n)=true:=by simp[pl,yu3]
theorem zie(w s n a b:Int)(ts:List Ti)(d t y i s':Int){G:D}(hG:Thg G)(σ:Sto) :
  f_Laid_may_strike [LD w s n a b ts d t,.int i,.int s',.int y,G] σ=.ok (.bl ((s' == 1 - s) && (decide (y<d+t) && eqT G (yu3 i s n)))) σ:=by
 have h1:=fun σ=>zyn w s n a b ts d t σ;have h2:=fun σ=>zqu w s n a b ts d t σ;have h3:=fun fs σ=>zl0 w s n a b ts d t σ fs;have h4:=fun σ=>zqv w s n a b ts d t σ y;have i0:∀ σ,oIx (stD n a b ts) (.int 0) σ=.ok (.int n) σ:=fun σ=>by simp[stD]
 have t3:=fun σ=>ye1 hG.pl (yj2 i s n) σ;unfold yu3 at *;unfold f_Laid_may_strike zaw;generalize LD w s n a b ts d t=L at *;generalize stD n a b ts=S at *;generalize decide (y<d+t)=b1 at *;generalize hb2:(s' == 1 - s)=b2 at *;rcases hG with rfl|⟨xs,rfl,th,_⟩
 ·rw[zwc];cases b1<;>cases b2<;>simp[h1,h2,h3,h4,zr9,hb2,i0,thn]
 ·generalize D.tup xs=G at *;cases b1<;>cases b2<;>simp[h1,h2,h3,h4,zr9,hb2,i0,th,t3]
def yuu(p:Pt)(y i s':Int)(G:D):Cl->Bool
 | .laid s m _ _ _ d=>(s' == 1 - s) && (decide (y<d+p.t) && eqT G (yu3 i s m))
 |_=>false
theorem ysp(fn:List D->M D)(x a b c d:D)(σ:Sto):ynn 5 fn x [a,b,c,d] σ=fn [x,a,b,c,d] σ:=zre rfl
theorem zgk(c:Cl)(p:Pt)(y i s':Int){G:D}(hG:Thg G)(σ:Sto):ysq [(5,f_Held_may_strike),(6,f_Laid_may_strike),(7,f_Taken_may_strike)] 5 "may_strike" (fun σ=>.ok [.int i,.int s',.int y,G] σ) (c.D p) σ=.ok (.bl (yuu p y i s' G c)) σ:=by
 cases c with
 |held=>
  rw[show Cl.D p .held=.obj 5 ["whole"] [.int p.w]from rfl,zze (zlj rfl) rfl rfl,zu8];rw[ysp];unfold f_Held_may_strike zav;simp[yuu]
 |laid s m a b ts d=>
  rw[show Cl.D p (.laid s m a b ts d)=LD p.w s m a b ts d p.t from rfl,zze (ygy ..) rfl rfl,zu8,ysp];exact zie p.w s m a b ts d p.t y i s' hG σ
 |taken s=>
  rw[show Cl.D p (.taken s)=.obj 7 ["whole", "side"] [.int p.w,.int s]from rfl,zze (zlj rfl) rfl rfl,zu8];rw[ysp];unfold f_Taken_may_strike zai;simp[yuu]
section
variable(n:Nat)(P:Nat->Pt)(B:Bs)
theorem zt5{i:Nat}(h:i<n)(s':Int)(hs:s'=0\/s'=1){G:D}(hG:Thg G) :
  f_Book_strike [.ref 1,.int i,.int s',G] (bkS n P B)=if yuu (P i) B.y i s' G (B.C i)then .ok .non (bkS n P { B with C:=upd B.C i (.taken s') })else .ex ⟨2⟩ (bkS n P B):=by
 have h1:=zol n P B h;have h2:=fun fs=>yg6 n P B fs;have h3:=zj4 n P B;have h4:=zlr n P B h;have h5:=zu9 n P B;have h6:=zx5 n P h;have h7:=fun σ=>zej s' hs σ;have h8:=fun σ=>zum (P i) σ;have h10:=zgk (B.C i) (P i) B.y i s' hG (bkS n P B);have h11:∀ fs:M (List D),fs (bkS n P B)=.ok [.int i,.int s',.int B.y,G] (bkS n P B)->ysq [(5,f_Held_may_strike),(6,f_Laid_may_strike),(7,f_Taken_may_strike)] 5 "may_strike" fs ((B.C i).D (P i)) (bkS n P B)=.ok (.bl (yuu (P i) B.y i s' G (B.C i))) (bkS n P B):=fun fs hf=>by
  rw[<-h10];cases hc:B.C i with
  |held=>rw[show Cl.D (P i) .held=.obj 5 ["whole"] [.int (P i).w]from rfl,zze (zlj rfl) rfl rfl,zze (zlj rfl) rfl rfl,hf]
  |laid s m a b ts d=>rw[show Cl.D (P i) (.laid s m a b ts d)=LD (P i).w s m a b ts d (P i).t from rfl,zze (ygy ..) rfl rfl,zze (ygy ..) rfl rfl,hf]
  |taken s=>rw[show Cl.D (P i) (.taken s)=.obj 7 ["whole", "side"] [.int (P i).w,.int s]from rfl,zze (zlj rfl) rfl rfl,zze (zlj rfl) rfl rfl,hf]
 have h12:=ydu n P B;have mk:=fun σ=>zik (P i).w s' σ;have st:=fun ρ=>ztj n P B h (.taken s') ρ;rw[show Cl.D (P i) (.taken s')=.obj 7 ["whole", "side"] [.int (P i).w,.int s']from rfl]at st;clear h10;unfold f_Book_strike zdd;generalize bkS n P { B with C:=upd B.C i (.taken s') }=σ' at *;generalize bkS n P B=σ at *;generalize (B.C i).D (P i)=L at *;generalize yuu (P i) B.y i s' G (B.C i)=ok at *;generalize D.obj 7 ["whole", "side"] [.int (P i).w,.int s']=TK at *;generalize (P i).D=PD at *;generalize ytm n P=PL at *;generalize (i:Int)=p at *;cases ok
 ·simp[h1,h2,h3,h4,h7,h11,h12]
 ·simp[h1,h2,h3,h4,h5,h6,h7,h8,h11,h12,mk,st,-zyx]
theorem zhi(p:Int)(hp:p<0\/(n:Int)<=p)(x y:D):f_Book_strike [.ref 1,.int p,x,y] (bkS n P B)=.ex ⟨2⟩ (bkS n P B):=by
 have h1:=zkn n P B p hp;have h2:=fun fs=>yg6 n P B fs;unfold f_Book_strike zdd;generalize bkS n P B=σ at *;simp[h1,h2]
theorem zhj{i:Nat}(h:i<n)(s:Int)(hs:s≠0/\s≠1)(y:D):f_Book_strike [.ref 1,.int i,.int s,y] (bkS n P B)=.ex ⟨2⟩ (bkS n P B):=by
 have h1:=zol n P B h;have h2:=fun fs=>yg6 n P B fs;have h7:=fun σ=>ztn s hs σ;unfold f_Book_strike zdd;generalize bkS n P B=σ at *;generalize (i:Int)=p at *;simp[h1,h2,h7]
end
abbrev yu4(p s:Int)(G:D):D:=.tup [.str "strike",.int p,.int s,G]
def CI:Cl->Prop
 | .laid s m _ _ _ _=>(s=0\/s=1)/\(0<=m/\m<=6)
 |_=>True
theorem zr3(i j:Str)(σ:Sto):oNe (.str i) (.str j) σ=.ok (.bl (!(i == j))) σ:=yhw (by simp[eqD,kd,eqK,eqV])
section
variable{n:Nat}{P:Nat->Pt}{PV:D}{Z:Ob}(b m:Ms)(j:Sto)
theorem zy0{i:Nat}(h:i<n)(c:Cl)(ρ:Ev):ypb ρ c.tl (.ref (5+n)) (.int i) (fS n P PV Z b m j)=.ok (.nx ρ) (fS n P PV Z b { m with C:=upd m.C i c } j):=by
 unfold ypb yn4;have e:ixN ((List.range n).map fun i=>(m.C i).tl).length (i:Int)=some i:=by
  unfold ixN;rw[List.length_map,List.length_range,if_pos (by omega),if_pos (by omega)];simp
 have l:=yrv n P PV Z b m j;simp only[l,e,zgl]
theorem yq0(p:Pt)(x0 x1 x2 x3 x4 x5 x6 x7 x8:Option D)(σ:Sto):yq1 (tgT 5 (yj7 (tgN 4) (yj7 (tgN 5) (yj7 (tgN 6) (yj7 (tgN 7) (yj7 (tgN 8) ypt)))))) [x0,x1,x2,x3,x4,x5,x6,x7,x8] p.D σ=.ok (.nx [x0,x1,x2,x3,some (.int p.l),some (.int p.r),some (.int p.u),some (.int p.v),some (.int p.t)]) σ:=nr rfl
theorem zhy(h:yql n P PV Z){i:Nat}(hi:i<n)(s':Int)(hs:s'=0\/s'=1){G:D}(hG:Thg G)(hC:CI (m.C i)) :
  f__law_due [.ref (4+n),yu4 i s' G] (fS n P PV Z b m j)=if yuu (P i) m.y i s' G (m.C i)then .ok (.str "done") (fS n P PV Z b { m with C:=upd m.C i (.taken s') } j)else .ok (.str "deed") (fS n P PV Z b m j):=by
 have h1:=zyz n P PV Z b m j;have h2:=h.len b m j;have h22:=h.ix b m j hi;have b1:decide ((i:Int)<0)=false:=by simp
 have b2:decide ((n:Int)<=(i:Int))=false:=by simp;omega
 have k1:(("strike" : Str) == ("day" : Str))=false:=by decide
 have k2:(("strike" : Str) == ("show" : Str))=false:=by decide
 have h3:=zl9 n P PV Z b m j;have h4:=zra n P PV Z b m j hi;have h5:=yg8 n P PV Z b m j;have hin:∀ σ,oIn true (.int s') (.lst [.int 0,.int 1]) σ=.ok (.bl false) σ:=fun σ=>by rcases hs with rfl|rfl<;>rfl
 have a5:=fun x0 x1 x2 x3 x4 x5 x6 x7 x8 σ=>yq0 (P i) x0 x1 x2 x3 x4 x5 x6 x7 x8 σ;have st:=fun ρ=>zy0 (P:=P) (PV:=PV) (Z:=Z) b m j hi (.taken s') ρ;rw[show Cl.tl (.taken s')=.tup [.str "taken",.int s']from rfl]at st;unfold f__law_due zh3;cases hc:m.C i with
 |held=>
  rw[hc,show Cl.tl .held=.tup [.str "held"]from rfl]at h4;have w1:(("held" : Str) == "laid")=false:=by decide
  have w2:∀ σ,oNe (.str "held") (.str "laid") σ=.ok (.bl true) σ:=fun σ=>by rw[zr3,show ((("held" : Str) == "laid"))=false by decide];rfl
  rw[show yuu (P i) m.y i s' G .held=false from rfl];generalize (i:Int)=p at *;generalize (P i).D=PD at *;generalize fS n P PV Z b m j=σ at *;simp[h1,h2,h22,b1,b2,k1,k2,h3,h4,hin,a5,w2]
 |taken s=>
  rw[hc,show Cl.tl (.taken s)=.tup [.str "taken",.int s]from rfl]at h4;have w2:∀ σ,oNe (.str "taken") (.str "laid") σ=.ok (.bl true) σ:=fun σ=>by rw[zr3,show ((("taken" : Str) == "laid"))=false by decide];rfl
  rw[show yuu (P i) m.y i s' G (.taken s)=false from rfl];generalize (i:Int)=p at *;generalize (P i).D=PD at *;generalize fS n P PV Z b m j=σ at *;simp[h1,h2,h22,b1,b2,k1,k2,h3,h4,hin,a5,w2]
 |laid s k a b' ts d=>
  rw[hc]at hC;rw[hc,show Cl.tl (.laid s k a b' ts d)=.tup [.str "laid",.int s,stD k a b' ts,.int d]from rfl]at h4;have w2:∀ σ,oNe (.str "laid") (.str "laid") σ=.ok (.bl false) σ:=fun σ=>by rw[zr3,show ((("laid" : Str) == "laid"))=true by decide];rfl
  have i0:∀ σ,oIx (stD k a b' ts) (.int 0) σ=.ok (.int k) σ:=fun σ=>by simp[stD]
  have t3:=fun σ=>ye2 hG.pl (yj2 i s k) σ;have e1:(s == s') = !(s' == 1 - s):=by
   rcases hC.1 with rfl|rfl<;>rcases hs with rfl|rfl<;>rfl
  have e2:decide (d+(P i).t<=m.y) = !decide (m.y<d+(P i).t):=by
   by_cases z:m.y<d+(P i).t
   ·simp[z]
   ·simp[z];omega
  rw[show yuu (P i) m.y i s' G (.laid s k a b' ts d)=((s' == 1 - s) && (decide (m.y<d+(P i).t) && eqT G (yu3 i s k)))from rfl];unfold yu3 at *;generalize (s' == 1 - s)=b4 at *;generalize decide (m.y<d+(P i).t)=b5 at *;generalize hq:eqT G _=b6 at *;generalize stD k a b' ts=S at *;generalize (P i).D=PD at *;generalize (i:Int)=p at *;generalize fS n P PV Z b { m with C:=upd m.C i (.taken s') } j=σ2 at *;generalize fS n P PV Z b m j=σ at *;cases b4<;>cases b5<;>cases b6<;>simp[h1,h2,h22,b1,b2,k1,k2,h3,h4,h5,hin,a5,w2,i0,t3,e1,e2,st]
theorem zoy(h:yql n P PV Z)(k:Str)(hk:(k == ("day" : Str))=false)(hk2:(k == ("show" : Str))=false){i:Nat}(hi:i<n)(s:Int)(hs:s≠0/\s≠1)(r:List D):f__law_due [.ref (4+n),.tup (.str k::.int i::.int s::r)] (fS n P PV Z b m j)=.ok (.str "deed") (fS n P PV Z b m j):=by
 have h1:=zyz n P PV Z b m j;have h2:=h.len b m j;have b1:decide ((i:Int)<0)=false:=by simp
 have b2:decide ((n:Int)<=(i:Int))=false:=by simp;omega
 have hin:∀ σ,oIn true (.int s) (.lst [.int 0,.int 1]) σ=.ok (.bl true) σ:=fun σ=>by
  have e1:(s == 0)=false:=by simpa using hs.1
  have e2:(s == 1)=false:=by simpa using hs.2
  have f1:(0 == s)=false:=by simpa using fun z=>hs.1 z.symm
  have f2:(1 == s)=false:=by simpa using fun z=>hs.2 z.symm
  simp[oIn,isF,eqF,sc,eqV,e1,e2,f1,f2]
 unfold f__law_due zh3;generalize (i:Int)=p at *;generalize fS n P PV Z b m j=σ at *;simp[hk,hk2,h1,h2,b1,b2,hin]
theorem zk2(fs:M (List D)):ysq [(8,f_Book_strike)] 4 "strike" fs (.ref 1) (fS n P PV Z b m j)=(fs (fS n P PV Z b m j)).bind (ynn 4 f_Book_strike (.ref 1)):=ydy n P _ _ _ rfl
theorem zf4(p s:Int)(G:D){b':Ms}{ok:Bool}(hx:f_Book_strike [.ref 1,.int p,.int s,G] (fS n P PV Z b m j)=if ok then .ok .non (fS n P PV Z b' m j)else .ex ⟨2⟩ (fS n P PV Z b m j)) :
  f__law_done [.ref 1,yu4 p s G] (fS n P PV Z b m j)=if ok then .ok (.str "done") (fS n P PV Z b' m j)else .ok (.str "deed") (fS n P PV Z b m j):=by
 have h2:=fun fs=>zk2 (n:=n) (P:=P) (PV:=PV) (Z:=Z) b m j fs;have k1:(("strike" : Str) == ("day" : Str))=false:=by decide
 have k2:(("strike" : Str) == ("show" : Str))=false:=by decide
 have k4:∀ (fn:List D->M D) (x a b c:D) (σ:Sto),ynn 4 fn x [a,b,c] σ=fn [x,a,b,c] σ:=fun fn x a b c σ=>zre rfl;cases ok
 ·refine yel ?_;unfold tB;generalize fS n P PV Z b m j=σ at *;simp at hx;simp[k1,k2,hx,h2,k4]
 ·refine zvx ?_;unfold tB;generalize fS n P PV Z b' m j=σ2 at *;generalize fS n P PV Z b m j=σ at *;simp at hx;simp[k1,k2,hx,h2,k4]
end
abbrev ysd(p s:Int)(O G:D):D:=.tup [.str "lay",.int p,.int s,O,G]
theorem yk7(p s n a b:Int)(ts:List Ti):pl 8 (agD p s (stD n a b ts))=true:=by simp[pl,agD,stD,Ti.D]
theorem zn4(i s n a b:Int)(ts:List Ti){G:D}(hG:Thg G)(σ:Sto):f_is_agreed [.int i,.int s,stD n a b ts,G] σ=.ok (.bl (eqT G (agD i (1 - s) (stD n a b ts)))) σ:=by
 have t3:=fun σ=>ye1 hG.pl (yk7 i (1 - s) n a b ts) σ;unfold f_is_agreed zgc;unfold agD at *;generalize stD n a b ts=S at *;rcases hG with rfl|⟨xs,rfl,th,_⟩
 ·rw[zwc];simp[thn]
 ·generalize D.tup xs=G at *;simp[th,zr9,t3]
def ysh(p:Pt)(i s:Int)(O G:D)(c:Cl):Bool:=c.ish && (eqT O (stD 0 p.u p.v []) || eqT G (agD i (1 - s) O))
section
variable(n:Nat)(P:Nat->Pt)(B:Bs)
theorem zq9{i:Nat}(h:i<n)(hP:(P i).Ok)(s m a b:Int)(ts:List Ti){G:D}(hG:Thg G) :
  f_Book_may_lie [.ref 1,.int i,.int s,stD m a b ts,G] (bkS n P B)=.ok (.bl (ysh (P i) i s (stD m a b ts) G (B.C i))) (bkS n P B):=by
 have h3:=zj4 n P B;have h4:=zlr n P B h;have h5:=zu9 n P B;have h6:=zx5 n P h;have hu:=hP.u;have hv:=hP.v;have f1:=fun σ=>(zps (P:=(P i).u) (Q:=(P i).v) (by omega) (by omega) σ).1;have g1:=fun σ=>zn4 i s m a b ts hG σ;have hq:=fun σ=>ye1 (ypg m a b ts) (ypg 0 (P i).u (P i).v []) σ;have i2:=fun σ=>(P i).i2 σ;have i3:=fun σ=>(P i).i3 σ;have o:=fun σ=>Cl.isH (B.C i) (P i) σ;unfold f_Book_may_lie zcm ysh;generalize bkS n P B=σ at *;generalize (B.C i).D (P i)=CD at *;generalize (eqT G (agD i (1 - s) (stD m a b ts)))=e1 at *;generalize eqT (stD m a b ts) (stD 0 (P i).u (P i).v [])=e2 at *;generalize stD m a b ts=S at *;generalize stD 0 (P i).u (P i).v []=S0 at *;generalize (P i).D=PD at *;generalize ytm n P=PL at *;generalize (B.C i).ish=e0 at *;generalize (i:Int)=p at *;cases e0
 ·simp[h3,h4,o]
 ·cases e2<;>simp[h3,h4,h5,h6,o,i2,i3,f1,hq,g1]
theorem ym4{i:Nat}(h:i<n)(hP:(P i).Ok)(s:Int)(hs:s=0\/s=1)(m a b:Int)(ts:List Ti){G:D}(hG:Thg G)(sd:∀ σ,f_is_stand_of [stD m a b ts,.int (P i).w] σ=.ok (.bl true) σ) :
  f_Book_lay [.ref 1,.int i,.int s,stD m a b ts,G] (bkS n P B)=if ysh (P i) i s (stD m a b ts) G (B.C i)then .ok .non (bkS n P { B with C:=upd B.C i (.laid s m a b ts B.y) })else .ex ⟨2⟩ (bkS n P B):=by
 have h1:=zol n P B h;have h2:=fun fs=>yg6 n P B fs;have h3:=zj4 n P B;have h5:=zu9 n P B;have h6:=zx5 n P h;have h7:=fun σ=>zej s hs σ;have h8:=fun σ=>zum (P i) σ;have h10:=zq9 n P B h hP s m a b ts hG;have h11:=fun fs=>zy4 n P B fs;have h12:=ydu n P B;have i4:=fun σ=>(P i).i4 σ;have mk:=fun σ=>zl7 (P i).w s m a b ts B.y (P i).t σ;have st:=fun ρ=>ztj n P B h (.laid s m a b ts B.y) ρ;rw[show Cl.D (P i) (.laid s m a b ts B.y)=LD (P i).w s m a b ts B.y (P i).t from rfl]at st;unfold f_Book_lay zh2;generalize bkS n P { B with C:=upd B.C i (.laid s m a b ts B.y) }=σ' at *;generalize bkS n P B=σ at *;generalize LD (P i).w s m a b ts B.y (P i).t=L at *;generalize ysh (P i) i s (stD m a b ts) G (B.C i)=e0 at *;generalize stD m a b ts=S at *;generalize (P i).D=PD at *;generalize ytm n P=PL at *;generalize (i:Int)=p at *;cases e0
 ·simp[h1,h2,h5,h6,h7,h8,sd,h10,h11]
 ·simp[h1,h2,h3,h5,h6,h7,h8,sd,h10,h11,h12,i4,mk,st,-zyy]
theorem ygs{i:Nat}(h:i<n)(s:Int)(hs:s=0\/s=1){O G:D}(sd:∀ σ,f_is_stand_of [O,.int (P i).w] σ=.ok (.bl false) σ) :
  f_Book_lay [.ref 1,.int i,.int s,O,G] (bkS n P B)=.ex ⟨1⟩ (bkS n P B):=by
 have h1:=zol n P B h;have h2:=fun fs=>yg6 n P B fs;have h5:=zu9 n P B;have h6:=zx5 n P h;have h7:=fun σ=>zej s hs σ;have h8:=fun σ=>zum (P i) σ;unfold f_Book_lay zh2;generalize bkS n P B=σ at *;generalize (P i).D=PD at *;generalize ytm n P=PL at *;generalize (i:Int)=p at *;simp[h1,h2,h5,h6,h7,h8,sd]
theorem zqs(p:Int)(hp:p<0\/(n:Int)<=p)(x y z:D):f_Book_lay [.ref 1,.int p,x,y,z] (bkS n P B)=.ex ⟨2⟩ (bkS n P B):=by
 have h1:=zkn n P B p hp;have h2:=fun fs=>yg6 n P B fs;unfold f_Book_lay zh2;generalize bkS n P B=σ at *;simp[h1,h2]
theorem zqt{i:Nat}(h:i<n)(s:Int)(hs:s≠0/\s≠1)(y z:D):f_Book_lay [.ref 1,.int i,.int s,y,z] (bkS n P B)=.ex ⟨2⟩ (bkS n P B):=by
 have h1:=zol n P B h;have h2:=fun fs=>yg6 n P B fs;have h7:=fun σ=>ztn s hs σ;unfold f_Book_lay zh2;generalize bkS n P B=σ at *;generalize (i:Int)=p at *;simp[h1,h2,h7]
end
section
variable{n:Nat}{P:Nat->Pt}{PV:D}{Z:Ob}(b m:Ms)(j:Sto)
theorem zwj(fs:M (List D)):ysq [(8,f_Book_lay)] 5 "lay" fs (.ref 1) (fS n P PV Z b m j)=(fs (fS n P PV Z b m j)).bind (ynn 5 f_Book_lay (.ref 1)):=ydy n P _ _ _ rfl
theorem zwi(fs:M (List D)):ysq [(8,fun ds=>f_Book_lay (ds++[.non]))] 4 "lay" fs (.ref 1) (fS n P PV Z b m j)=(fs (fS n P PV Z b m j)).bind (ynn 4 (fun ds=>f_Book_lay (ds++[.non])) (.ref 1)):=ydy n P _ _ _ rfl
def ytk(ρ:Ev):Out D->Out Fl
 | .ok _ σ=>.ok (.nx ρ) σ
 | .ex e σ=>.ok (.xc ρ e) σ
 | .bad=>.bad
theorem yj3(p s:Int)(O:D){G:D}(hG:G=.non\/∃ xs,G=.tup xs)(R:Out D)(hx:f_Book_lay [.ref 1,.int p,.int s,O,G] (fS n P PV Z b m j)=R) :
  tB [some (.ref 1),some (ysd p s O G),some (.str "done"),some (.bl true),none] (fS n P PV Z b m j)=ytk [some (.ref 1),some (ysd p s O G),some (.str "done"),some (.bl true),none] R:=by
 have h4:=fun fs=>zwi (n:=n) (P:=P) (PV:=PV) (Z:=Z) b m j fs;have h5:=fun fs=>zwj (n:=n) (P:=P) (PV:=PV) (Z:=Z) b m j fs;have k1:(("lay" : Str) == ("day" : Str))=false:=by decide
 have k2:(("lay" : Str) == ("show" : Str))=false:=by decide
 have k3:(("lay" : Str) == ("strike" : Str))=false:=by decide
 have k4:∀ (fn:List D->M D) (x a b c:D) (σ:Sto),ynn 4 fn x [a,b,c] σ=fn [x,a,b,c] σ:=fun fn x a b c σ=>zre rfl;have k5:∀ (fn:List D->M D) (x a b c d:D) (σ:Sto),ynn 5 fn x [a,b,c,d] σ=fn [x,a,b,c,d] σ:=fun fn x a b c d σ=>zre rfl;have x4:∀ x a b c d:D,∀ σ,oIx (.tup [x,a,b,c,d]) (.int 4) σ=.ok d σ:=fun x a b c d σ=>zzy (show atI _ ((4:Nat):Int)=_ from zu2 rfl);unfold tB;generalize fS n P PV Z b m j=σ at *;rcases hG with rfl|⟨xs,rfl⟩
 ·cases R<;>simp[k1,k2,k3,k4,h4,x4,hx,ytk]
 ·cases R<;>simp[k1,k2,k3,k5,h5,x4,hx,ytk]
theorem zxn(c:Cl)(σ:Sto):oNe c.tl (.tup [.str "held"]) σ=.ok (.bl (!c.ish)) σ:=by
 cases c<;>refine yhw ?_<;>simp[Cl.tl,Cl.ish,eqD,kd,eqK,eqV,eqL]
theorem zvz(h:yql n P PV Z){i:Nat}(hi:i<n)(s:Int)(hs:s=0\/s=1)(k a b':Int)(ts:List Ti){G:D}(hG:Thg G)(sd:∀ σ,f__law_is_stand [stD k a b' ts,.int (P i).w] σ=.ok (.bl true) σ) :
  f__law_due [.ref (4+n),ysd i s (stD k a b' ts) G] (fS n P PV Z b m j)=if ysh (P i) i s (stD k a b' ts) G (m.C i)then .ok (.str "done") (fS n P PV Z b { m with C:=upd m.C i (.laid s k a b' ts m.y) } j)else .ok (.str "deed") (fS n P PV Z b m j):=by
 have h1:=zyz n P PV Z b m j;have h2:=h.len b m j;have h22:=h.ix b m j hi;have b1:decide ((i:Int)<0)=false:=by simp
 have b2:decide ((n:Int)<=(i:Int))=false:=by simp;omega
 have k1:(("lay" : Str) == ("day" : Str))=false:=by decide
 have k2:(("lay" : Str) == ("show" : Str))=false:=by decide
 have k3:(("lay" : Str) == ("strike" : Str))=false:=by decide
 have x4:∀ x a b c d:D,∀ σ,oIx (.tup [x,a,b,c,d]) (.int 4) σ=.ok d σ:=fun x a b c d σ=>zzy (show atI _ ((4:Nat):Int)=_ from zu2 rfl);have h3:=zl9 n P PV Z b m j;have h4:=zra n P PV Z b m j hi;have h5:=yg8 n P PV Z b m j;have hin:∀ σ,oIn true (.int s) (.lst [.int 0,.int 1]) σ=.ok (.bl false) σ:=fun σ=>by rcases hs with rfl|rfl<;>rfl
 have a5:=fun x0 x1 x2 x3 x4 x5 x6 x7 x8 σ=>yq0 (P i) x0 x1 x2 x3 x4 x5 x6 x7 x8 σ;have st:=fun ρ=>zy0 (P:=P) (PV:=PV) (Z:=Z) b m j hi (.laid s k a b' ts m.y) ρ;rw[show Cl.tl (.laid s k a b' ts m.y)=.tup [.str "laid",.int s,stD k a b' ts,.int m.y]from rfl]at st;have hh:=fun σ=>zxn (m.C i) σ;have e1:=fun σ=>ye2 (ypg k a b' ts) (ypg 0 (P i).u (P i).v []) σ;have e2:=fun σ=>ye2 hG.pl (yk7 i (1 - s) k a b' ts) σ;have s0:stD 0 (P i).u (P i).v []=.tup [.int 0,.tup [.int (P i).u,.int (P i).v],.tup []]:=rfl;unfold Pt.w at sd;unfold ysh;unfold f__law_due zh3;generalize eqT (stD k a b' ts) (stD 0 (P i).u (P i).v [])=q1 at *;generalize eqT G (agD i (1 - s) (stD k a b' ts))=q2 at *;rw[s0]at e1;unfold agD at e2;generalize (m.C i).ish=q0 at *;generalize (m.C i).tl=CT at *;generalize fS n P PV Z b { m with C:=upd m.C i (.laid s k a b' ts m.y) } j=σ2 at *;generalize stD k a b' ts=S at *;generalize (P i).D=PD at *;generalize (i:Int)=p at *;generalize fS n P PV Z b m j=σ at *;cases q0<;>cases q1<;>cases q2<;>simp[h1,h2,h22,b1,b2,k1,k2,k3,x4,h3,h4,h5,hin,a5,st,hh,e1,e2,sd]
theorem zku(h:yql n P PV Z){i:Nat}(hi:i<n)(s:Int)(hs:s=0\/s=1){O G:D}(sd:∀ σ,f__law_is_stand [O,.int (P i).w] σ=.ok (.bl false) σ) :
  f__law_due [.ref (4+n),ysd i s O G] (fS n P PV Z b m j)=.ok (.str "stand") (fS n P PV Z b m j):=by
 have h1:=zyz n P PV Z b m j;have h2:=h.len b m j;have h22:=h.ix b m j hi;have b1:decide ((i:Int)<0)=false:=by simp
 have b2:decide ((n:Int)<=(i:Int))=false:=by simp;omega
 have k1:(("lay" : Str) == ("day" : Str))=false:=by decide
 have k2:(("lay" : Str) == ("show" : Str))=false:=by decide
 have k3:(("lay" : Str) == ("strike" : Str))=false:=by decide
 have h3:=zl9 n P PV Z b m j;have h4:=zra n P PV Z b m j hi;have hin:∀ σ,oIn true (.int s) (.lst [.int 0,.int 1]) σ=.ok (.bl false) σ:=fun σ=>by rcases hs with rfl|rfl<;>rfl
 have a5:=fun x0 x1 x2 x3 x4 x5 x6 x7 x8 σ=>yq0 (P i) x0 x1 x2 x3 x4 x5 x6 x7 x8 σ;unfold Pt.w at sd;unfold f__law_due zh3;generalize (m.C i).tl=CT at *;generalize (P i).D=PD at *;generalize (i:Int)=p at *;generalize fS n P PV Z b m j=σ at *;simp[h1,h2,h22,b1,b2,k1,k2,k3,h3,h4,hin,a5,sd]
end
noncomputable abbrev wdB:Ev->M Fl:=(yup (sIf (bOr (eT (yrl oNe (yro [(8,f_Book_told)] 2 "told" (yrr 0) (yk5 (yrr 3) yqy)) (yrl oIx (yrl yny (yrr 1) (eC (.str "claims"))) (yrr 3)))) (eT (yrl ys9 (yro [(8,f_Book_shown_for)] 2 "shown_for" (yrr 0) (yk5 (yrr 3) yqy)) (yrl oIx (yrl yny (yrr 1) (eC (.str "shows"))) (yrr 3))))) (yuo (eC (.bl false))) yum)
 (yuq 2 (yrl yst (yrr 2) (yrm (ylv yhu (yk5 (yrl oIx (yrl yny (yrr 1) (eC (.str "shows"))) (yrr 3)) yqy))))))
section
variable{n:Nat}{P:Nat->Pt}{PV:D}{Z:Ob}(b m:Ms)(j:Sto)
theorem zwd{σ:Sto}{k:Nat}{xs:List D}(h:ync σ k=some xs)(hp:pl 8 (.lst xs)=true):oEq (.ref k) (.lst xs) σ=.ok (.bl true) σ:=by
 have e:eqD σ 8 (.ref k) (.lst xs)=eqD σ 8 (.lst xs) (.lst xs):=by
  have:kd σ (.ref k)=kd σ (.lst xs):=by simp only[kd,h]
  show eqK (eqD σ 7) (kd σ (.ref k)) _=eqK (eqD σ 7) (kd σ (.lst xs)) _;rw[this]
 exact yhq (e.trans (eqD_refl σ 8 _ hp))
theorem yka{i:Nat}(h:i<n):f_Book_told [.ref 1,.int i] (fS n P PV Z b m j)=.ok (b.C i).tl (fS n P PV Z b m j):=yc3 n P _ h
theorem yjn{i:Nat}(h:i<n):f_Book_shown_for [.ref 1,.int i] (fS n P PV Z b m j)=.ok (.ref (fS n P PV Z b m j).length) (fS n P PV Z b m (j++[.dic (kvI (b.S i))])):=by
 rw[<-yg7];exact yb1 n P _ h
theorem zzf(fs:M (List D)):ysq [(8,f_Book_told)] 2 "told" fs (.ref 1) (fS n P PV Z b m j)=(fs (fS n P PV Z b m j)).bind (ynn 2 f_Book_told (.ref 1)):=ydy n P _ _ _ rfl
theorem zy8(fs:M (List D)):ysq [(8,f_Book_shown_for)] 2 "shown_for" fs (.ref 1) (fS n P PV Z b m j)=(fs (fS n P PV Z b m j)).bind (ynn 2 f_Book_shown_for (.ref 1)):=ydy n P _ _ _ rfl
theorem yg5(fs:M (List D)):ysq [(8,f_Book_all_shown)] 1 "all_shown" fs (.ref 1) (fS n P PV Z b m j)=(fs (fS n P PV Z b m j)).bind (ynn 1 f_Book_all_shown (.ref 1)):=ydy n P _ _ _ rfl
theorem zrf(fs:M (List D)):ysq [(8,f_Book_today)] 1 "today" fs (.ref 1) (fS n P PV Z b m j)=(fs (fS n P PV Z b m j)).bind (ynn 1 f_Book_today (.ref 1)):=ydy n P _ _ _ rfl
theorem yew(kv:List (Key × D)):yrj (fS n P PV Z b m (j++[.dic kv])) (.ref (fS n P PV Z b m j).length)=some kv:=by rw[<-yg7];exact yeg _ _
theorem ydc{i:Nat}(h:i<n)(ws:List Int)(hl:ws.length+(b.S i).length<64) :
  wdB [some (.ref 1),some (.ref (4+n)),some (.lst (ws.map D.int)),some (.int i)] (fS n P PV Z b b j)=.ok (.nx [some (.ref 1),some (.ref (4+n)),some (.lst ((ws++kys (b.S i)).map D.int)),some (.int i)]) (fS n P PV Z b b (j++[.dic (kvI (b.S i))])):=by
 have h1:=yka (P:=P) (PV:=PV) (Z:=Z) b b j h;have h2:=fun fs=>zzf (n:=n) (P:=P) (PV:=PV) (Z:=Z) b b j fs;have h3:=zl9 n P PV Z b b j;have h4:=zra n P PV Z b b j h;have h5:=zzh (b.C i).plt (fS n P PV Z b b j);have h6:=yjn (P:=P) (PV:=PV) (Z:=Z) b b j h;have h7:=fun fs=>zy8 (n:=n) (P:=P) (PV:=PV) (Z:=Z) b b j fs;have h8:=zrb n P PV Z b b (j++[.dic (kvI (b.S i))]);have h9:=zy1 n P PV Z b b (j++[.dic (kvI (b.S i))]) h;have h10:=zmh (yew (n:=n) (P:=P) (PV:=PV) (Z:=Z) b b j (kvI (b.S i))) (yha n P PV Z b b (j++[.dic (kvI (b.S i))]) h);have h11:=zq1 (yha n P PV Z b b (j++[.dic (kvI (b.S i))]) h) (by omega);have h12:∀ σ,yst (.lst (ws.map D.int)) (.lst ((kys (b.S i)).map D.int)) σ=.ok (.lst ((ws++kys (b.S i)).map D.int)) σ:=fun σ=>by
  rw[zro (by simp[cap,zyd];omega),List.map_append]
 unfold wdB;generalize (D.ref (7+n+i))=R7 at *;generalize (D.ref (fS n P PV Z b b j).length)=RL at *;generalize fS n P PV Z b b (j++[.dic (kvI (b.S i))])=σ1 at *;generalize fS n P PV Z b b j=σ at *;generalize (b.C i).tl=CT at *;generalize (ws++kys (b.S i)).map D.int=W2 at *;generalize (kys (b.S i)).map D.int=W1 at *;generalize ws.map D.int=W0 at *;generalize (i:Int)=p at *;generalize (4+n)=N4 at *;generalize (5+n)=N5 at *;generalize (6+n)=N6 at *;simp[h1,h2,h3,h4,h5,h6,h7,h8,h9,h10,h11,h12]
theorem ydb:∀ (k i:Nat) (ws:List Int) (j:Sto) (x3:Option D),i+k=n->ws.length+(Wd b.S i k).length<64->∃ y3 e,
  yse (tgN 3) wdB ((List.range' i k).map fun(k:Nat)=>D.int k) [some (.ref 1),some (.ref (4+n)),some (.lst (ws.map D.int)),x3] (fS n P PV Z b b j)=.ok (.nx [some (.ref 1),some (.ref (4+n)),some (.lst ((ws++Wd b.S i k).map D.int)),y3]) (fS n P PV Z b b (j++e)):=by
 intro k;induction k with
 |zero=>intro i ws j x3 _ _;exact⟨x3,[],by simp[Wd]⟩
 |succ k ih=>
  intro i ws j x3 hik hl;rw[zur,List.length_append,zyd]at hl;have hi:i<n:=by omega
  have st:=ydc (P:=P) (PV:=PV) (Z:=Z) b j hi ws (by omega);obtain⟨y3,e,h⟩:=ih (i+1) (ws++kys (b.S i)) (j++[.dic (kvI (b.S i))]) (some (.int i)) (by omega) (by rw[List.length_append,zyd];omega);refine⟨y3,[.dic (kvI (b.S i))]++e,?_⟩;rw[List.range'_succ,List.map_cons,zq5];simp only[List.set_cons_succ,List.set_cons_zero];rw[st,zu8,zq3,h,zur];simp only[List.append_assoc]
theorem yk8(hn3:n<=3)(hW:(Wd b.S 0 n).length<64):∃ x,f_Book_all_shown [.ref 1] (fS n P PV Z b m j)=.ok (.ref ((fS n P PV Z b m j).length+1)) (fS n P PV Z b m (j++[x]++[.lst ((yu2 (ddp (Wd b.S 0 n))).map D.int)])):=by
 obtain⟨x,h⟩:=ydo n P ⟨b.y,b.C,b.S,mdl n PV m.y m.C m.S j,Z⟩ hn3 hW;refine⟨x,?_⟩;rw[<-yg7,<-yg7];exact h
theorem zvk(kv:List (Key × D)):yhp (.ref (fS n P PV Z b m j).length) [] (fS n P PV Z b m (j++[.dic kv]))=.ok .non (fS n P PV Z b m (j++[.dic []])):=by
 rw[<-yg7,<-yg7];have e:(fS n P PV Z b m j++[Ob.dic kv])[(fS n P PV Z b m j).length]?=some (.dic kv):=by simp
 unfold yhp;simp only[e];rw[ybz]
theorem ynd(x:Ob)(xs:List D):ync (fS n P PV Z b m (j++[x]++[.lst xs])) ((fS n P PV Z b m j).length+1)=some xs:=by
 rw[<-yg7,<-yg7];unfold ync;rw[List.getElem?_append_right (by simp)];simp
theorem zn5(x:Ob)(xs:List D)(y:D)(hl:xs.length<1000):zzo (.ref ((fS n P PV Z b m j).length+1)) [y] (fS n P PV Z b m (j++[x]++[.lst xs]))=.ok .non (fS n P PV Z b m (j++[x]++[.lst (xs++[y])])):=by
 have l:=ynd (n:=n) (P:=P) (PV:=PV) (Z:=Z) b m j x xs;unfold zzo;simp only[l];rw[if_pos (by unfold cap;omega)];rw[<-yg7,<-yg7,<-yg7,<-yg7];have:=ybz (σ:=fS n P PV Z b m j++[x]) (.lst xs) (.lst (xs++[y]));rw[List.length_append]at this;exact congrArg (Out.ok D.non) this
theorem zyq(b:Ms)(hW:(Wd b.S 0 n).length<64):(yu2 (ddp (Wd b.S 0 n))).length<64:=by
 rw[(znn _).length_eq];have:=yei (Wd b.S 0 n);omega
theorem intsOf_map:∀ (ws:List Int),ygf (ws.map D.int)=some ws
 |[]=>rfl
 |w::ws=>by
  show (ygf (ws.map D.int)).map (w::·)=_;rw[intsOf_map ws];rfl
theorem zno(ws:List Int)(hl:ws.length<64)(σ:Sto):yrz σ (zz8 (.lst (ws.map D.int)) σ)=.ok (.lst ((yu2 (ddp ws)).map D.int)) σ:=by
 have e:zz8 (.lst (ws.map D.int)) σ=.ok (.ref σ.length) (σ++[.lst ((yu2 (ddp ws)).map D.int)]):=by
  unfold zz8;rw[show ysf σ (.lst (ws.map D.int))=some (ws.map D.int)from rfl,Option.bind_some,intsOf_map];simp only;rw[if_pos hl];rfl
 rw[e];have:=zp0 (σ:=σ) (j:=[]) (j':=[]) (xs:=(yu2 (ddp ws)).map D.int) (by simp);simpa using this
end
section
variable{n:Nat}{P:Nat->Pt}{PV:D}{Z:Ob}(b:Ms)(j:Sto)
theorem znp(h:yql n P PV Z)(hn1:1<=n)(hn3:n<=3)(hW:(Wd b.S 0 n).length<64):f__law_stands [.ref 1,.ref (4+n)] (fS n P PV Z b b j)=.ok (.bl true) (fS n P PV Z b b j):=by
 have t1:f_Book_today [.ref 1] (fS n P PV Z b b j)=.ok (.int b.y) (fS n P PV Z b b j):=zua n P _;have t2:=fun fs=>zrf (n:=n) (P:=P) (PV:=PV) (Z:=Z) b b j fs;have t3:=yg8 n P PV Z b b j;have t4:=zyz n P PV Z b b j;have t5:=h.len b b j;have rk:∀ σ,yuf (.int (n:Int)) σ=.ok (.seq (yjd n)) σ:=fun σ=>by have:=ya9 (σ:=σ) (j:=(n:Int)) (by omega) (by omega);simpa using this
 obtain⟨y3,e1,lp⟩:=ydb (n:=n) (P:=P) (PV:=PV) (Z:=Z) b n 0 [] j none (by omega) (by simpa using hW);rw[<-zmx,List.nil_append,List.map_nil]at lp;have h0:0<n:=by omega
 have c1:=yjn (P:=P) (PV:=PV) (Z:=Z) b b (j++e1) h0;have c2:=fun fs=>zy8 (n:=n) (P:=P) (PV:=PV) (Z:=Z) b b (j++e1) fs;have c3:∀ fs,yhc yhp fs (.ref (fS n P PV Z b b (j++e1)).length) (fS n P PV Z b b (j++e1++[.dic (kvI (b.S 0))]))=(fs (fS n P PV Z b b (j++e1++[.dic (kvI (b.S 0))]))).bind (yhp (.ref (fS n P PV Z b b (j++e1)).length)):=fun fs=>by unfold yhc;rw[yew];rfl
 have c4:=zvk (n:=n) (P:=P) (PV:=PV) (Z:=Z) b b (j++e1) (kvI (b.S 0));generalize hj2:j++e1++[Ob.dic []]=j2 at *;obtain⟨x,d1⟩:=yk8 (P:=P) (PV:=PV) (Z:=Z) b b j2 hn3 hW;have d2:=fun fs=>yg5 (n:=n) (P:=P) (PV:=PV) (Z:=Z) b b j2 fs;have d3:=zn5 (n:=n) (P:=P) (PV:=PV) (Z:=Z) b b j2 x ((yu2 (ddp (Wd b.S 0 n))).map D.int) (.int 99) (by have:=zyq b hW;simp;omega);have d4:∀ fs,ynl zzo fs (.ref ((fS n P PV Z b b j2).length+1)) (fS n P PV Z b b (j2++[x]++[.lst ((yu2 (ddp (Wd b.S 0 n))).map D.int)]))=(fs (fS n P PV Z b b (j2++[x]++[.lst ((yu2 (ddp (Wd b.S 0 n))).map D.int)]))).bind (zzo (.ref ((fS n P PV Z b b j2).length+1))):=fun fs=>zrd (ynd (n:=n) (P:=P) (PV:=PV) (Z:=Z) b b j2 x _);generalize hj3:j2++[x]++[Ob.lst ((yu2 (ddp (Wd b.S 0 n))).map D.int++[D.int 99])]=j3 at *;obtain⟨x',f1⟩:=yk8 (P:=P) (PV:=PV) (Z:=Z) b b j3 hn3 hW;have f2:=fun fs=>yg5 (n:=n) (P:=P) (PV:=PV) (Z:=Z) b b j3 fs;have f3:=zno (Wd b.S 0 n) hW (fS n P PV Z b b (j3++[x']++[.lst ((yu2 (ddp (Wd b.S 0 n))).map D.int)]));have f4:=zwd (ynd (n:=n) (P:=P) (PV:=PV) (Z:=Z) b b j3 x' ((yu2 (ddp (Wd b.S 0 n))).map D.int)) (by simp[pl]);generalize hj4:j3++[x']++[Ob.lst ((yu2 (ddp (Wd b.S 0 n))).map D.int)]=j4 at *;have g1:=yjn (P:=P) (PV:=PV) (Z:=Z) b b j4 h0;have g2:=fun fs=>zy8 (n:=n) (P:=P) (PV:=PV) (Z:=Z) b b j4 fs;have g3:=zrb n P PV Z b b (j4++[.dic (kvI (b.S 0))]);have g4:=zy1 n P PV Z b b (j4++[.dic (kvI (b.S 0))]) h0;have g5:=zky (yew (n:=n) (P:=P) (PV:=PV) (Z:=Z) b b j4 (kvI (b.S 0))) (yha n P PV Z b b (j4++[.dic (kvI (b.S 0))]) h0);have i0:((0:Nat):Int)=0:=rfl;rw[i0]at c1 g1 g4;have tk:(fS n P PV Z b b (j4++[.dic (kvI (b.S 0))])).take (fS n P PV Z b b j).length=fS n P PV Z b b j:=by
  subst hj4;subst hj3;subst hj2;simp only[List.append_assoc];rw[<-yg7];exact List.take_left
 have em:∀ (o:D->List D->M D) (f:Ev->M D) (fs:Ev->M (List D)) (ρ:Ev) (σ:Sto),yeq o f fs ρ σ=(f ρ σ).bind (yhc o (fs ρ)):=fun _ _ _ _ _=>nr rfl;have key:run 4 zde [.ref 1,.ref (4+n)] (fS n P PV Z b b j)=.ok (.bl true) (fS n P PV Z b b (j4++[.dic (kvI (b.S 0))])):=by
  clear tk hj2 hj3 hj4;unfold wdB at lp;unfold zde;generalize (D.ref (7+n+0))=R7 at *;generalize (D.ref (fS n P PV Z b b (j++e1)).length)=RL1 at *;generalize (D.ref (fS n P PV Z b b j4).length)=RL4 at *;generalize (D.ref ((fS n P PV Z b b j2).length+1))=RL2 at *;generalize (D.ref ((fS n P PV Z b b j3).length+1))=RL3 at *;generalize fS n P PV Z b b (j++e1++[.dic (kvI (b.S 0))])=σ1' at *;generalize fS n P PV Z b b (j4++[.dic (kvI (b.S 0))])=σ4' at *;generalize fS n P PV Z b b (j2++[x]++[.lst ((yu2 (ddp (Wd b.S 0 n))).map D.int)])=σ2' at *;generalize fS n P PV Z b b (j++e1)=σ1 at *;generalize fS n P PV Z b b j4=σ4 at *;generalize fS n P PV Z b b j3=σ3 at *;generalize fS n P PV Z b b j2=σ2 at *;generalize fS n P PV Z b b j=σ at *;generalize (yu2 (ddp (Wd b.S 0 n))).map D.int=SL at *;generalize (Wd b.S 0 n).map D.int=WL at *;generalize yjd n=RG at *;generalize (n:Int)=N0 at *;generalize (4+n)=N4 at *;generalize (6+n)=N6 at *;simp[t1,t2,t3,t4,t5,rk,lp,c1,c2,c3,c4,d1,d2,d3,d4,f1,f2,f3,f4,g1,g2,g3,g4,g5,em]
 unfold f__law_stands;rw[zxo];show yrz _ (run 4 zde [.ref 1,.ref (4+n)] (fS n P PV Z b b j))=_;rw[key];exact zw7 rfl tk
end
theorem ytl(xs:List D)(k:Int)(h0:0<=k)(h1:k<xs.length):∃ x,x∈xs/\∀ σ,oIx (.lst xs) (.int k) σ=.ok x σ:=by
 obtain⟨i,rfl⟩:∃ i:Nat,k=i:=⟨k.toNat,by omega⟩
 have hi:i<xs.length:=by omega
 exact⟨xs[i],List.getElem_mem hi,fun σ=>zzw (zu2 (List.getElem?_eq_getElem hi))⟩
theorem yj0(m a b:Int)(ts:List Ti)(w:Int)(hl:ts.length<=6)(σ:Sto):f_is_stand_of [stD m a b ts,.int w] σ=.ok (.bl (stB m a b ts && (a+b+tot ts == w))) σ:=by
 have h1:=zt1 m a b ts;have h2:=zos m a b ts hl;unfold f_is_stand_of zdg;generalize stD m a b ts=S at *;generalize stB m a b ts=q at *;cases q<;>simp[h1,h2]
theorem mn2(a b:Int)(σ:Sto):ys6 mnL [.tup [.int a,.int b]] σ=.ok (.int (min a b)) σ:=by
 have:mnL [a,b]=min a b:=by simp[mnL]
 simp[ys6,ygf,this]
theorem zyj(m a b:Int)(ts:List Ti)(w:Int)(hl:ts.length<=6)(σ:Sto):f__law_is_stand [stD m a b ts,.int w] σ=.ok (.bl (!decide (min a b<0) && (a+b+tot ts == w))) σ:=by
 have i2:∀ σ,oIx (stD m a b ts) (.int 2) σ=.ok (.tup (ts.map Ti.D)) σ:=fun σ=>by simp[stD]
 have i1:∀ σ,oIx (stD m a b ts) (.int 1) σ=.ok (.tup [.int a,.int b]) σ:=fun σ=>by simp[stD]
 have ib:∀ σ,ys0 .tuple (stD m a b ts) σ=.ok (.bl true) σ:=fun σ=>by simp[stD]
 have ln:∀ σ,ys5 [stD m a b ts] σ=.ok (.int 3) σ:=fun σ=>by simp[stD]
 have l:=ygu (ix:=[]) (fe:=yrl oIx (yrr 0) (eC (.int 1))) (ds:=ts.map Ti.D) (ρ:=[some (stD m a b ts),some (.int w)]) (σ:=σ) (src:=yu1 (yrl oIx (yrr 0) (eC (.int 2)))) (fun d=>match d with | .tup [_,a,_,_]=>a|_=>.non) (by simp[i2]) (by simp;omega) (fun d hd j=>by obtain⟨t,_,rfl⟩:=List.mem_map.mp hd;simp[Ti.D]) (fun d hd=>by obtain⟨t,_,rfl⟩:=List.mem_map.mp hd;simp[Ti.D]);have l':yrm (eLC (yu1 (yrl oIx (yrr 0) (eC (.int 2)))) [] (tgN 0) yle (yrl oIx (yrr 0) (eC (.int 1)))) [some (stD m a b ts),some (.int w)] σ=.ok (.lst ((ts.map (·.a)).map D.int)) σ:=by
  rw[l,List.map_map,List.map_map];rfl
 unfold f__law_is_stand zb3;generalize stD m a b ts=S at *;have o:=zmj (ts.map (·.a)) σ;generalize (ts.map (·.a)).map D.int=G at *;generalize hq:decide (min a b<0)=q at *;cases q<;>simp[i1,ib,ln,l',yhx,o,tot,mn2,hq,-zv2]
def ykt(p:Pt)(O G:D):Prop:=
 (∃ m a b ts,O=stD m a b ts/\(0<=m/\m<=6)/\Thg G/\(∀ σ,f_is_stand_of [O,.int p.w] σ=.ok (.bl true) σ)/\∀ σ,f__law_is_stand [O,.int p.w] σ=.ok (.bl true) σ)
 \/((∀ σ,f_is_stand_of [O,.int p.w] σ=.ok (.bl false) σ)/\∀ σ,f__law_is_stand [O,.int p.w] σ=.ok (.bl false) σ)
def OOk(p:Pt)(O:D):Prop:=
 (∃ m a b ts,O=stD m a b ts/\(0<=m/\m<=6)/\stB m a b ts=true/\(∀ σ,f_is_stand_of [O,.int p.w] σ=.ok (.bl true) σ)/\∀ σ,f__law_is_stand [O,.int p.w] σ=.ok (.bl true) σ)
 \/((∀ σ,f_is_stand_of [O,.int p.w] σ=.ok (.bl false) σ)/\∀ σ,f__law_is_stand [O,.int p.w] σ=.ok (.bl false) σ)
theorem yh7{p:Pt}(m a b:Int)(ts:List Ti)(hm:0<=m/\m<=6)(hst:stB m a b ts=true)(hl:ts.length<=6)(ha:0<=a/\0<=b)(hw:a+b+tot ts=p.w):OOk p (stD m a b ts):=by
 refine .inl ⟨m,a,b,ts,rfl,hm,hst,fun σ=>?_,fun σ=>?_⟩
 ·rw[yj0 _ _ _ _ _ hl,hst,hw];simp
 ·have:decide (min a b<0)=false:=by simp;omega
  rw[zyj _ _ _ _ _ hl,this,hw];simp
theorem yn7{p:Pt}(m a b:Int)(ts:List Ti)(hl:ts.length<=6)(hw:a+b+tot ts≠p.w\/(b<0)):OOk p (stD m a b ts):=by
 refine .inr ⟨fun σ=>?_,fun σ=>?_⟩
 ·rw[yj0 _ _ _ _ _ hl];rcases hw with hw|hw
  ·have:(a+b+tot ts == p.w)=false:=by simpa using hw
   rw[this];simp
  ·have:stB m a b ts=false:=by
    unfold stB;have:decide (0<=b)=false:=by simp;omega
    rw[this];simp
   rw[this];simp
 ·rw[zyj _ _ _ _ _ hl];rcases hw with hw|hw
  ·have:(a+b+tot ts == p.w)=false:=by simpa using hw
   rw[this];simp
  ·have:decide (min a b<0)=true:=by simp;omega
   rw[this];simp
theorem yh5(p:Pt):OOk p .non:=.inr ⟨fun σ=>by unfold f_is_stand_of zdg f_is_stand zh5;simp,fun σ=>by unfold f__law_is_stand zb3;simp⟩
theorem yh6(p:Pt)(x y:D):OOk p (.tup [x,y]):=.inr ⟨fun σ=>by unfold f_is_stand_of zdg f_is_stand zh5;simp,fun σ=>by unfold f__law_is_stand zb3;simp⟩
theorem yh4(p:Pt)(xs:List D):OOk p (.lst xs):=.inr ⟨fun σ=>by unfold f_is_stand_of zdg f_is_stand zh5;simp,fun σ=>by unfold f__law_is_stand zb3;simp⟩
theorem yg3{p:Pt}(hp:p.Ok){s m a b:Int}{ts:List Ti}(h:LOk p s m a b ts)(hl:ts.length<=6)(hnd:(ts.map (·.w)).Nodup)(hw:∀ t∈ts,0<=t.w/\t.w<=11):stB m a b ts=true:=by
 have hu:=hp.u;have hv:=hp.v;have e:=h.hw;unfold Pt.w at e;have hle:∀ (l:List Ti),(∀ t∈l,1<=t.a)->0<=(l.map (·.a)).sum/\∀ t∈l,t.a<=(l.map (·.a)).sum:=by
  intro l;induction l with
  |nil=>intro _;exact⟨by simp,fun t ht=>by cases ht⟩
  |cons x l ih=>
   intro hx;obtain⟨i1,i2⟩:=ih fun t ht=>hx t (List.mem_cons_of_mem _ ht);have x1:=hx x List.mem_cons_self;simp only[List.map_cons,List.sum_cons];refine⟨by omega,fun t ht=>?_⟩;rcases List.mem_cons.mp ht with rfl|ht
   ·omega
   ·have:=i2 t ht;omega
 obtain⟨s0,s1⟩:=hle ts fun t ht=>(h.ok t ht).2.1;have ha:=h.ha;have hb:=h.hb;have hn:=h.hn;unfold stB;have:ypv ts=true:=(znu ts).mpr ⟨fun t ht=>by
  have o:=h.ok t ht;have w:=hw t ht;have:=s1 t ht;exact⟨by omega,by omega,by omega,by omega,by omega,by omega,by omega,by omega⟩,hnd,hl⟩
 rw[this];simp only[Bool.and_true,Bool.and_eq_true,decide_eq_true_eq];omega
theorem ztr{p:Pt}(hp:p.Ok)(c x:Int)(hx:x=p.w\/x=p.w+1)(σ:Sto):∃ O,cl O=true/\OOk p O/\f__law_small_stand [.int c,.int x] σ=.ok O σ:=by
 have hu:=hp.u;have hv:=hp.v;have w0:0<=x:=by unfold Pt.w at hx;omega
 obtain⟨a,b,ts,⟨ha,hb⟩,hsum,hl,⟨lf,hSm⟩,es⟩:=ztq c x w0 σ;refine⟨stD (c / 7 % 7) a b ts,by simp,?_,es⟩;rcases hx with rfl|rfl
 ·have ok:LOk p 0 (c / 7 % 7) a b ts:=⟨.inl rfl,by omega,ha,hb,hsum,fun t ht=>by have:=hSm.ok t ht;omega⟩
  exact yh7 _ _ _ _ (by omega) (yg3 hp ok hl hSm.nd fun t ht=>(hSm.ok t ht).2.2.1) hl ⟨ha,hb⟩ hsum
 ·refine yn7 _ _ _ _ hl (.inl ?_);unfold tot;omega
inductive Dok(n:Nat)(P:Nat->Pt):D->Prop
 |day:Dok n P yri
 |shw (p w:Int):Dok n P (ypd p w)
 |strike (p s:Int) (G:D) (h:Thg G):Dok n P (yu4 p s G)
 |lay (p s:Int) (O G:D) (hG:G=.non\/∃ xs,G=.tup xs) (h:∀ i:Nat,i<n->p=i->ykt (P i) O G):Dok n P (ysd p s O G)
theorem ynp(x y k:Int)(hx:0<=x/\x<k)(hy:y=0\/y=1):0<=x * y/\x * y<k:=by
 rcases hy with rfl|rfl
 ·simp;omega
 ·simp;omega
theorem ysr(i y:Int)(h:0<=y/\y<=1)(σ:Sto):ys8 (.int i) (.int y) σ=.ok (.int (i * y)) σ:=yhv (by omega) (by omega)
theorem yq2(c:Int)(n:Nat)(h1:1<=n):∃ i:Nat,i<n/\c % (n:Int)=i:=by
 have b1:=Int.emod_nonneg c (show (n:Int)≠0 by omega);have b2:=Int.emod_lt_of_pos c (show (0:Int)<n by omega);exact⟨(c % (n:Int)).toNat,by omega,by omega⟩
section
variable{n:Nat}{P:Nat->Pt}{PV:D}{Z:Ob}(b m:Ms)(j:Sto)
theorem zt6(i:Nat)(hi:i<=2)(s k:Int)(hs:s=0\/s=1)(hk:0<=k/\k<=7):Thg (yu3 i s k)/\cl (yu3 i s k)=true:=
 ⟨Thg.th (t:=.strike i s k) (by simp only[yr8,pB3,Bool.and_eq_true,decide_eq_true_eq];omega),by simp[yu3]⟩
theorem zuo:Thg (.tup [.str "word",.int 3]):=Thg.th (t:=.word 3) (by decide)
theorem znt(h:yql n P PV Z)(c:Int)(h1:1<=n)(h3:n<=3)(hC:∀ i,i<n->CI (m.C i)):∃ p s G,Thg G/\f__law_struck [.ref (4+n),.int c] (fS n P PV Z b m j)=.ok (yu4 p s G) (fS n P PV Z b m j):=by
 obtain⟨i,hi,ei⟩:=yq2 (c / 5) n h1;have t1:=zyz n P PV Z b m j;have t2:=h.len b m j;have t3:=zl9 n P PV Z b m j;have t4:=zra n P PV Z b m j hi;have om:=fun σ=>zz0 (σ:=σ) (c / 5) (n:Int) (by omega);rw[ei]at om;have hCi:=hC i hi;obtain⟨px,hpx,hp⟩:=ytl [.int i,.int i,.int i,.int n,.int (-1),.int 7] (c / 7 % 31 % 6 * (c / 11 % 5 / 4)) (ynp _ _ 6 (by omega) (by omega)).1 (ynp _ _ 6 (by omega) (by omega)).2;obtain⟨p,rfl⟩:∃ p,px=.int p:=by simp at hpx;rcases hpx with rfl|rfl|rfl|rfl<;>exact⟨_,rfl⟩
 have yud:∀ s0 k:Int,(s0=0\/s0=1)->(0<=k/\k<=6)->∃ s G,Thg G/\cl G=true/\(∀ σ,oIx (.lst [.int s0,.int s0,.int 2,.int (-1)]) (.int (c / 13 % 29 % 4 * (c / 17 % 5 / 4))) σ=.ok (.int s) σ)/\
   ∀ σ,oIx (.lst [yu3 i (1 - s0) k,yu3 i (1 - s0) k,yu3 i (1 - s0) k,yu3 i s0 k,yu3 i (1 - s0) (k+1),.non,.tup [.str "word",.int 3]]) (.int (c / 60 % 7)) σ=.ok G σ:=fun s0 k hs hk=>by
  obtain⟨sx,hsx,hs1⟩:=ytl [.int s0,.int s0,.int 2,.int (-1)] (c / 13 % 29 % 4 * (c / 17 % 5 / 4)) (ynp _ _ 4 (by omega) (by omega)).1 (ynp _ _ 4 (by omega) (by omega)).2;obtain⟨s,rfl⟩:∃ p,sx=.int p:=by simp at hsx;rcases hsx with rfl|rfl|rfl<;>exact⟨_,rfl⟩
  obtain⟨G,hG,hg⟩:=ytl [yu3 i (1 - s0) k,yu3 i (1 - s0) k,yu3 i (1 - s0) k,yu3 i s0 k,yu3 i (1 - s0) (k+1),.non,.tup [.str "word",.int 3]] (c / 60 % 7) (by omega) (by simp only[List.length_cons,List.length_nil];omega);have a1:=zt6 i (by omega) (1 - s0) k (by omega) (by omega);have a2:=zt6 i (by omega) s0 k (by omega) (by omega);have a3:=zt6 i (by omega) (1 - s0) (k+1) (by omega) (by omega);have:Thg G/\cl G=true:=by
   simp only[List.mem_cons,List.not_mem_nil,or_false]at hG;rcases hG with rfl|rfl|rfl|rfl|rfl|rfl|rfl
   ·exact a1
   ·exact a1
   ·exact a1
   ·exact a2
   ·exact a3
   ·exact⟨.inl rfl,by simp⟩
   ·exact⟨zuo,by simp⟩
  exact⟨s,G,this.1,this.2,hs1,hg⟩
 have mu1:=fun σ=>ysr (c / 7 % 31 % 6) (c / 11 % 5 / 4) (by omega) σ;have mu2:=fun σ=>ysr (c / 13 % 29 % 4) (c / 17 % 5 / 4) (by omega) σ;have ad:∀ x1 x2 x3 x4 x5 x6 x7:D,∀ σ,yst (.lst [x1,x2,x3,x4,x5]) (.lst [x6,x7]) σ=.ok (.lst [x1,x2,x3,x4,x5,x6,x7]) σ:=fun x1 x2 x3 x4 x5 x6 x7 σ=>zro (by simp[cap]);have k1:(("held" : Str) == "laid")=false:=by decide
 have k2:(("taken" : Str) == "laid")=false:=by decide
 unfold f__law_struck zdf;cases hc:m.C i with
 |held=>
  rw[hc,show Cl.tl .held=.tup [.str "held"]from rfl]at t4;obtain⟨s,G,hG,hgc,e1,e2⟩:=yud (c / 15 % 2) 0 (by omega) (by omega);refine⟨p,s,G,hG,?_⟩;unfold yu3 at e2;simp only[Int.zero_add]at e2;generalize fS n P PV Z b m j=σ at *;generalize (i:Int)=q at *;generalize (n:Int)=N at *;generalize (4+n)=N4 at *;generalize (5+n)=N5 at *;simp[mu1,mu2,t1,t2,t3,t4,om,hp,e1,e2,ad,k1,hgc]
 |taken s'=>
  rw[hc,show Cl.tl (.taken s')=.tup [.str "taken",.int s']from rfl]at t4;obtain⟨s,G,hG,hgc,e1,e2⟩:=yud (c / 15 % 2) 0 (by omega) (by omega);refine⟨p,s,G,hG,?_⟩;unfold yu3 at e2;simp only[Int.zero_add]at e2;generalize fS n P PV Z b m j=σ at *;generalize (i:Int)=q at *;generalize (n:Int)=N at *;generalize (4+n)=N4 at *;generalize (5+n)=N5 at *;simp[mu1,mu2,t1,t2,t3,t4,om,hp,e1,e2,ad,k2,hgc]
 |laid s' k a b' ts d=>
  rw[hc]at hCi;obtain⟨hs',hk⟩:=hCi;rw[hc,show Cl.tl (.laid s' k a b' ts d)=.tup [.str "laid",.int s',stD k a b' ts,.int d]from rfl]at t4;obtain⟨sx,hsx,e0⟩:=ytl [.int (1 - s'),.int (1 - s'),.int (1 - s'),.int s'] (c / 15 % 4) (by omega) (by simp only[List.length_cons,List.length_nil];omega);obtain⟨s0,rfl,hs0⟩:∃ s0,sx=.int s0/\(s0=0\/s0=1):=by simp at hsx;rcases hsx with rfl|rfl<;>exact⟨_,rfl,by omega⟩
  obtain⟨s,G,hG,hgc,e1,e2⟩:=yud s0 k hs0 hk;refine⟨p,s,G,hG,?_⟩;have i0:∀ σ,oIx (stD k a b' ts) (.int 0) σ=.ok (.int k) σ:=fun σ=>by simp[stD]
  unfold yu3 at e2;generalize stD k a b' ts=S at *;generalize fS n P PV Z b m j=σ at *;generalize (i:Int)=q at *;generalize (n:Int)=N at *;generalize (4+n)=N4 at *;generalize (5+n)=N5 at *;simp[mu1,mu2,t1,t2,t3,t4,om,hp,e0,e1,e2,ad,i0,hgc]
end
section
variable{n:Nat}{P:Nat->Pt}{PV:D}{Z:Ob}(b m:Ms)(j:Sto)
theorem yds{p:Pt}(hp:p.Ok):OOk p (stD 0 p.u p.v []):=by
 have hu:=hp.u;have hv:=hp.v;have ok:LOk p 0 0 p.u p.v []:=⟨.inl rfl,by omega,hu.1,hv.1,by simp[Pt.w],fun t ht=>by cases ht⟩
 exact yh7 _ _ _ _ (by omega) (yg3 hp ok (by simp) (by simp) fun t ht=>by cases ht) (by simp) ⟨hu.1,hv.1⟩ (by simp[tot,Pt.w])
theorem zuu{p:Pt}{O:D}(hO:OOk p O)(hp:p.Ok)(i s:Int)(hi:0<=i/\i<=2)(hs:s=0\/s=1):(∃ m a b ts,O=stD m a b ts/\(0<=m/\m<=6)/\stB m a b ts=true/\(∀ σ,f_is_stand_of [O,.int p.w] σ=.ok (.bl true) σ)/\∀ σ,f__law_is_stand [O,.int p.w] σ=.ok (.bl true) σ)->Thg (.tup [.str "agree",.int i,.int s,O]):=by
 rintro ⟨m,a,b,ts,rfl,_,hst,_,_⟩;exact Thg.th (t:=.agree i s m a b ts) (by simp only[yr8,pB3,hst,Bool.and_true,Bool.and_eq_true,decide_eq_true_eq];omega)
theorem zrh{p:Pt}(hp:p.Ok)(i s:Int)(hi:0<=i/\i<=2)(hs:s=0\/s=1):Thg (.tup [.str "agree",.int i,.int s,stD 9 p.w 0 []]):=by
 have hu:=hp.u;have hv:=hp.v;have hst:stB 9 p.w 0 []=true:=by
  unfold stB;have:ypv []=true:=(znu []).mpr ⟨fun t ht=>(by cases ht),by simp,by simp⟩;rw[this];unfold Pt.w;simp only[Bool.and_true,Bool.and_eq_true,decide_eq_true_eq];omega
 exact Thg.th (t:=.agree i s 9 p.w 0 []) (by simp only[yr8,pB3,hst,Bool.and_true,Bool.and_eq_true,decide_eq_true_eq];omega)
theorem zyh(h:yql n P PV Z)(hP:∀ i,i<n->(P i).Ok)(c:Int)(h1:1<=n)(h3:n<=3):∃ (p s:Int) (O G:D),(G=.non\/∃ xs,G=.tup xs)/\(∀ i:Nat,i<n->p=i->ykt (P i) O G)/\cl O=true/\cl G=true/\f__law_laid [.ref (4+n),.int c] (fS n P PV Z b m j)=.ok (ysd p s O G) (fS n P PV Z b m j):=by
 obtain⟨i,hi,ei⟩:=yq2 (c / 5) n h1;have hPi:=hP i hi;have t1:=zyz n P PV Z b m j;have t2:=h.len b m j;have t3:=h.ix b m j hi;have om:=fun σ=>zz0 (σ:=σ) (c / 5) (n:Int) (by omega);rw[ei]at om;have i2:=fun σ=>(P i).i2 σ;have i3:=fun σ=>(P i).i3 σ;have ew:(P i).u+(P i).v=(P i).w:=rfl;obtain⟨px,hpx,hp⟩:=ytl [.int i,.int i,.int i,.int i,.int n,.int (-1)] (c / 7 % 31 % 6 * (c / 11 % 5 / 4)) (ynp _ _ 6 (by omega) (by omega)).1 (ynp _ _ 6 (by omega) (by omega)).2;obtain⟨p,rfl,hpi⟩:∃ p,px=.int p/\(p=i\/p=n\/p = -1):=by simp at hpx;rcases hpx with rfl|rfl|rfl<;>exact⟨_,rfl,by simp⟩
 obtain⟨sx,hsx,hs1⟩:=ytl [.int (c / 15 % 2),.int (c / 15 % 2),.int (c / 15 % 2),.int 2,.int (-1)] (c / 13 % 29 % 5 * (c / 17 % 7 / 6)) (ynp _ _ 5 (by omega) (by omega)).1 (ynp _ _ 5 (by omega) (by omega)).2;obtain⟨s,rfl⟩:∃ p,sx=.int p:=by simp at hsx;rcases hsx with rfl|rfl|rfl<;>exact⟨_,rfl⟩
 obtain⟨A,ac,ao,ae⟩:=ztr hPi (c / 30) (P i).w (.inl rfl) (fS n P PV Z b m j);obtain⟨A2,ac2,ao2,ae2⟩:=ztr hPi (c / 30) ((P i).w+1) (.inr rfl) (fS n P PV Z b m j);obtain⟨O1,hO1,ho1⟩:=ytl [stD 0 (P i).u (P i).v [],A,A,A2] (c / 30 % 4) (by omega) (by simp only[List.length_cons,List.length_nil];omega);have o1:OOk (P i) O1/\cl O1=true:=by
  simp only[List.mem_cons,List.not_mem_nil,or_false]at hO1;rcases hO1 with rfl|rfl|rfl|rfl
  ·exact⟨yds hPi,by simp⟩
  ·exact⟨ao,ac⟩
  ·exact⟨ao,ac⟩
  ·exact⟨ao2,ac2⟩
 obtain⟨O2,hO2,ho2⟩:=ytl [.non,.tup [.int 1,.tup [.int (P i).w,.int 0]],.tup [.int 1,.tup [.int (P i).w,.int (-1)],.tup [.tup [.int 0,.int 1,.int 1,.int 1]]],.lst [.int 0,.tup [.int (P i).u,.int (P i).v],.tup []]] (c / 510 % 4) (by omega) (by simp only[List.length_cons,List.length_nil];omega);have o2:OOk (P i) O2/\cl O2=true:=by
  simp only[List.mem_cons,List.not_mem_nil,or_false]at hO2;rcases hO2 with rfl|rfl|rfl|rfl
  ·exact⟨yh5 _,by simp⟩
  ·exact⟨yh6 _ _ _,by simp⟩
  ·exact⟨yn7 1 (P i).w (-1) [⟨0,1,1,1⟩] (by simp) (.inr (by decide)),by simp⟩
  ·exact⟨yh4 _ _,by simp⟩
 have e5:(c / 15 % 2=0\/c / 15 % 2=1):=by omega
 have yud:∀ O,OOk (P i) O->cl O=true->∃ G,(G=.non\/∃ xs,G=.tup xs)/\ykt (P i) O G/\cl G=true/\∀ σ,oIx (.lst [.tup [.str "agree",.int i,.int (1 - c / 15 % 2),O],.tup [.str "agree",.int i,.int (1 - c / 15 % 2),O],.tup [.str "agree",.int i,.int (1 - c / 15 % 2),O],.non,.tup [.str "agree",.int i,.int (c / 15 % 2),O],.tup [.str "agree",.int ((i+1) % 3),.int (1 - c / 15 % 2),O],.tup [.str "strike",.int i,.int (1 - c / 15 % 2),.int 0],.tup [.str "agree",.int i,.int (1 - c / 15 % 2),stD 9 (P i).w 0 []]]) (.int (c / 120 % 8)) σ=.ok G σ:=fun O hO hc=>by
  obtain⟨G,hG,hg⟩:=ytl [.tup [.str "agree",.int i,.int (1 - c / 15 % 2),O],.tup [.str "agree",.int i,.int (1 - c / 15 % 2),O],.tup [.str "agree",.int i,.int (1 - c / 15 % 2),O],.non,.tup [.str "agree",.int i,.int (c / 15 % 2),O],.tup [.str "agree",.int ((i+1) % 3),.int (1 - c / 15 % 2),O],.tup [.str "strike",.int i,.int (1 - c / 15 % 2),.int 0],.tup [.str "agree",.int i,.int (1 - c / 15 % 2),stD 9 (P i).w 0 []]] (c / 120 % 8) (by omega) (by simp only[List.length_cons,List.length_nil];omega);refine⟨G,?_,?_,?_,hg⟩
  ·simp only[List.mem_cons,List.not_mem_nil,or_false]at hG;rcases hG with rfl|rfl|rfl|rfl|rfl|rfl|rfl|rfl<;>first|exact .inl rfl|exact .inr ⟨_,rfl⟩
  ·have hO':=hO;rcases hO with y|y
   ·obtain⟨m',a',b',ts',z1,z2,z3,z4,z5⟩:=id y;refine .inl ⟨m',a',b',ts',z1,z2,?_,z4,z5⟩;simp only[List.mem_cons,List.not_mem_nil,or_false]at hG;rcases hG with rfl|rfl|rfl|rfl|rfl|rfl|rfl|rfl
    ·exact zuu hO' hPi _ _ (by omega) (by omega) y
    ·exact zuu hO' hPi _ _ (by omega) (by omega) y
    ·exact zuu hO' hPi _ _ (by omega) (by omega) y
    ·exact .inl rfl
    ·exact zuu hO' hPi _ _ (by omega) (by omega) y
    ·exact zuu hO' hPi _ _ (by omega) (by omega) y
    ·exact(zt6 i (by omega) (1 - c / 15 % 2) 0 (by omega) (by omega)).1
    ·exact zrh hPi _ _ (by omega) (by omega)
   ·exact .inr y
  ·simp only[List.mem_cons,List.not_mem_nil,or_false]at hG;rcases hG with rfl|rfl|rfl|rfl|rfl|rfl|rfl|rfl<;>simp[hc]
 have mu1:=fun σ=>ysr (c / 7 % 31 % 6) (c / 11 % 5 / 4) (by omega) σ;have mu2:=fun σ=>ysr (c / 13 % 29 % 5) (c / 17 % 7 / 6) (by omega) σ;have ad:∀ x1 x2 x3 x4 x5 x6 x7 x8:D,∀ σ,yst (.lst [x1,x2,x3,x4,x5,x6]) (.lst [x7,x8]) σ=.ok (.lst [x1,x2,x3,x4,x5,x6,x7,x8]) σ:=fun x1 x2 x3 x4 x5 x6 x7 x8 σ=>zro (by simp[cap]);have fl:=fun σ=>zw6 (xs:=[.int 0,.tup [.int (P i).u,.int (P i).v],.tup []]) (by simp) σ;have s9:stD 9 (P i).w 0 []=.tup [.int 9,.tup [.int (P i).w,.int 0],.tup []]:=rfl;have s0:stD 0 (P i).u (P i).v []=.tup [.int 0,.tup [.int (P i).u,.int (P i).v],.tup []]:=rfl;rw[s9]at yud;rw[s0]at ho1;by_cases c3:c / 30 % 17=3
 ·have b3:(c / 30 % 17 == 3)=true:=by simpa using c3
  obtain⟨G,g1,g2,g3,g4⟩:=yud O2 o2.1 o2.2;refine⟨p,s,O2,G,g1,fun i' hi' e=>?_,o2.2,g3,?_⟩
  ·have:i'=i:=by omega
   rw[this];exact g2
  ·have oc:=o2.2;unfold f__law_laid zgb;clear yud;generalize (P i).D=PD at *;generalize fS n P PV Z b m j=σ at *;generalize (i:Int)=q at *;generalize (n:Int)=N at *;generalize (4+n)=N4 at *;simp[mu1,mu2,t1,t2,t3,om,i2,i3,ew,hp,hs1,ae,ae2,ho1,ho2,b3,ad,fl,g4,g3,oc]
 ·have b3:(c / 30 % 17 == 3)=false:=by simpa using c3
  obtain⟨G,g1,g2,g3,g4⟩:=yud O1 o1.1 o1.2;refine⟨p,s,O1,G,g1,fun i' hi' e=>?_,o1.2,g3,?_⟩
  ·have:i'=i:=by omega
   rw[this];exact g2
  ·have oc:=o1.2;unfold f__law_laid zgb;clear yud;generalize (P i).D=PD at *;generalize fS n P PV Z b m j=σ at *;generalize (i:Int)=q at *;generalize (n:Int)=N at *;generalize (4+n)=N4 at *;simp[mu1,mu2,t1,t2,t3,om,i2,i3,ew,hp,hs1,ae,ae2,ho1,b3,ad,g4,g3,oc]
theorem zvt(h:yql n P PV Z)(hP:∀ i,i<n->(P i).Ok)(c:Int)(h1:1<=n)(h3:n<=3)(hC:∀ i,i<n->CI (m.C i)):∃ d,Dok n P d/\f__law_deed [.ref (4+n),.int c] (fS n P PV Z b m j)=.ok d (fS n P PV Z b m j):=by
 have t1:=zyz n P PV Z b m j;have t2:=h.len b m j;by_cases c0:c % 5=0
 ·have b0:(c % 5 == 0)=true:=by simpa using c0
  refine⟨_,.day,?_⟩;unfold f__law_deed zf9;simp[b0]
 have b0:(c % 5 == 0)=false:=by simpa using c0
 by_cases c1:c % 5=1
 ·have b1:(c % 5 == 1)=true:=by simpa using c1
  obtain⟨i,hi,ei⟩:=yq2 (c / 5) n h1;have om:=fun σ=>zz0 (σ:=σ) (c / 5) (n:Int) (by omega);rw[ei]at om;obtain⟨wx,hwx,hw⟩:=ytl [.int (c / 25 % 12),.int (c / 25 % 60),.int 60,.int (-1)] (c / 25 % 8 / 2 * (c / 200 % 2)) (ynp _ _ 4 (by omega) (by omega)).1 (ynp _ _ 4 (by omega) (by omega)).2;obtain⟨w,rfl⟩:∃ p,wx=.int p:=by simp at hwx;rcases hwx with rfl|rfl|rfl|rfl<;>exact⟨_,rfl⟩
  obtain⟨px,hpx,hp⟩:=ytl [.int i,.int (c / 5 % 4 - 1)] (c / 450 % 5 / 4) (by omega) (by simp only[List.length_cons,List.length_nil];omega);obtain⟨p,rfl⟩:∃ p,px=.int p:=by simp at hpx;rcases hpx with rfl|rfl<;>exact⟨_,rfl⟩
  refine⟨_,.shw p w,?_⟩;unfold f__law_deed zf9;generalize fS n P PV Z b m j=σ at *;generalize (i:Int)=q at *;generalize (n:Int)=N at *;generalize (4+n)=N4 at *;have mu:=fun σ=>ysr (c / 25 % 8 / 2) (c / 200 % 2) (by omega) σ;simp[b0,b1,t1,t2,om,hw,hp,mu]
 have b1:(c % 5 == 1)=false:=by simpa using c1
 by_cases c2:c % 5=2
 ·have b2:(c % 5 == 2)=true:=by simpa using c2
  obtain⟨p,s,G,hG,e⟩:=znt (P:=P) (PV:=PV) (Z:=Z) b m j h c h1 h3 hC;refine⟨_,.strike p s G hG,?_⟩;unfold f__law_deed zf9;have hcl:cl G=true:=hG.cls;generalize fS n P PV Z b m j=σ at *;generalize (4+n)=N4 at *;simp[b0,b1,b2,e,hcl]
 have b2:(c % 5 == 2)=false:=by simpa using c2
 obtain⟨p,s,O,G,hG,hO,oc,gc,e⟩:=zyh (P:=P) (PV:=PV) (Z:=Z) b m j h hP c h1 h3;refine⟨_,.lay p s O G hG hO,?_⟩;unfold f__law_deed zf9;generalize fS n P PV Z b m j=σ at *;generalize (4+n)=N4 at *;simp[b0,b1,b2,e,oc,gc]
end
theorem ydm(S:Nat->List (Int × Int))(i:Nat)(l:List (Int × Int)):∀ (k a:Nat),i<a->Wd (upd S i l) a k=Wd S a k
 |0,a,_=>rfl
 |k+1,a,h=>by
  rw[zur,zur,ydm S i l k (a+1) (by omega),upd_ne S l (by omega)]
theorem yk4(S:Nat->List (Int × Int))(i:Nat)(l:List (Int × Int))(hl:l.length<=(S i).length+1):∀ (k a:Nat),(Wd (upd S i l) a k).length<=(Wd S a k).length+1
 |0,a=>by simp[Wd]
 |k+1,a=>by
  rw[zur,zur,List.length_append,List.length_append,zyd,zyd];by_cases h:a=i
  ·subst h;rw[upd_same,ydm S a l k (a+1) (by omega)];omega
  ·have:=yk4 S i l hl k (a+1);rw[upd_ne S l h];omega
theorem ydl(S:Nat->List (Int × Int))(i:Nat):∀ (k a:Nat),a<=i->i<a+k->(S i).length<=(Wd S a k).length
 |0,a,h1,h2=>by omega
 |k+1,a,h1,h2=>by
  rw[zur,List.length_append,zyd];by_cases h:a=i
  ·subst h;omega
  ·have:=ydl S i k (a+1) (by omega) (by omega);omega
theorem yb3(l:List (Int × Int))(w y:Int):(shw l w y).length<=l.length+1:=by
 unfold shw;split
 ·omega
 ·exact zsn l w y
section
variable{n:Nat}{P:Nat->Pt}{PV:D}{Z:Ob}(b:Ms)(j:Sto)
theorem ycz(h:yql n P PV Z)(hP:∀ i,i<n->(P i).Ok){d:D}(hd:Dok n P d)(hC:∀ i,i<n->CI (b.C i))(hW:(Wd b.S 0 n).length<1000) :
  ∃ a b',f__law_done [.ref 1,d] (fS n P PV Z b b j)=.ok (.str a) (fS n P PV Z b' b j)/\f__law_due [.ref (4+n),d] (fS n P PV Z b' b j)=.ok (.str a) (fS n P PV Z b' b' j)/\(∀ i,i<n->CI (b'.C i))/\(Wd b'.S 0 n).length<=(Wd b.S 0 n).length+1:=by
 have inn:∀ p:Int,(p<0\/(n:Int)<=p)\/∃ i:Nat,i<n/\p=i:=fun p=>by
  by_cases z:p<0\/(n:Int)<=p
  ·exact .inl z
  ·exact .inr ⟨p.toNat,by omega,by omega⟩
 have sin:∀ s:Int,(s=0\/s=1)\/(s≠0/\s≠1):=fun s=>by omega
 have updC:∀ (i:Nat) (c:Cl),CI c->∀ k,k<n->CI (upd b.C i c k):=fun i c hc k hk=>by
  by_cases e:k=i
  ·rw[e,upd_same];exact hc
  ·rw[upd_ne b.C c e];exact hC k hk
 cases hd with
 |day=>exact⟨_,{ b with y:=b.y+1 },zov n P PV Z b b j,zvy n P PV Z _ b j,hC,Nat.le_succ _⟩
 |shw p w=>
  rcases inn p with hp|⟨i,hi,rfl⟩
  ·exact⟨_,b,zel b b j p w (zni n P _ p hp _),zox b b j h "show" (by decide) p hp _,hC,Nat.le_succ _⟩
  ·by_cases hw:0<=w/\w<=59
   ·have hl:=ydl b.S i n 0 (by omega) (by omega);exact⟨_,{ b with S:=upd b.S i (shw (b.S i) w b.y) },zks b b j hi w hw (by omega),zo0 _ b j h hi w hw (by omega),hC,yk4 b.S i _ (yb3 _ _ _) n 0⟩
   ·have hw':w<0\/59<w:=by omega
    exact⟨_,b,zel b b j _ w (znj n P _ hi w hw'),zoz b b j h hi w hw',hC,Nat.le_succ _⟩
 |strike p s G hG=>
  rcases inn p with hp|⟨i,hi,rfl⟩
  ·have:=zf4 (P:=P) (PV:=PV) (Z:=Z) b b j p s G (b':=b) (ok:=false) (zhi n P _ p hp _ _);exact⟨_,b,this,zox b b j h "strike" (by decide) p hp _,hC,Nat.le_succ _⟩
  ·rcases sin s with hs|hs
   ·have e1:=zf4 (P:=P) (PV:=PV) (Z:=Z) b b j i s G (b':={ b with C:=upd b.C i (.taken s) }) (zt5 n P _ hi s hs hG);have e2:=fun b0=>zhy (P:=P) (PV:=PV) (Z:=Z) b0 b j h hi s hs hG (hC i hi);cases ok:yuu (P i) b.y i s G (b.C i)with
    |false=>
     rw[ok]at e2;have e1:f__law_done [.ref 1,yu4 i s G] (fS n P PV Z b b j)=if yuu (P i) b.y i s G (b.C i)then _ else _:=e1;rw[ok]at e1;exact⟨_,b,e1,e2 b,hC,Nat.le_succ _⟩
    |true=>
     rw[ok]at e2;have e1:f__law_done [.ref 1,yu4 i s G] (fS n P PV Z b b j)=if yuu (P i) b.y i s G (b.C i)then _ else _:=e1;rw[ok]at e1;exact⟨_,{ b with C:=upd b.C i (.taken s) },e1,e2 _,updC i _ trivial,Nat.le_succ _⟩
   ·have:=zf4 (P:=P) (PV:=PV) (Z:=Z) b b j i s G (b':=b) (ok:=false) (zhj n P _ hi s hs _);exact⟨_,b,this,zoy b b j h "strike" (by decide) (by decide) hi s hs _,hC,Nat.le_succ _⟩
 |lay p s O G hG hO=>
  rcases inn p with hp|⟨i,hi,rfl⟩
  ·have:=yj3 (P:=P) (PV:=PV) (Z:=Z) b b j p s O hG _ (zqs n P _ p hp _ _ _);exact⟨_,b,yel this,zox b b j h "lay" (by decide) p hp _,hC,Nat.le_succ _⟩
  ·rcases sin s with hs|hs
   ·rcases hO i hi rfl with⟨m,a,b',ts,rfl,hm,hT,s1,s2⟩|⟨s1,s2⟩
    ·have e1:=yj3 (P:=P) (PV:=PV) (Z:=Z) b b j i s (stD m a b' ts) hG _ (ym4 n P _ hi (hP i hi) s hs m a b' ts hT s1);have e2:=fun b0=>zvz (P:=P) (PV:=PV) (Z:=Z) b0 b j h hi s hs m a b' ts hT s2;cases ok:ysh (P i) i s (stD m a b' ts) G (b.C i)with
     |false=>
      rw[ok]at e2;have e1:tB _ (fS n P PV Z b b j)=ytk _ (if ysh (P i) i s (stD m a b' ts) G (b.C i)then _ else _):=e1;rw[ok]at e1;exact⟨_,b,yel e1,e2 b,hC,Nat.le_succ _⟩
     |true=>
      rw[ok]at e2;have e1:tB _ (fS n P PV Z b b j)=ytk _ (if ysh (P i) i s (stD m a b' ts) G (b.C i)then _ else _):=e1;rw[ok]at e1;exact⟨_,{ b with C:=upd b.C i (.laid s m a b' ts b.y) },zvx e1,e2 _,updC i _ ⟨hs,hm⟩,Nat.le_succ _⟩
    ·have:=yj3 (P:=P) (PV:=PV) (Z:=Z) b b j i s O hG _ (ygs n P _ hi s hs s1);exact⟨_,b,yek this,zku b b j h hi s hs s2,hC,Nat.le_succ _⟩
   ·have:=yj3 (P:=P) (PV:=PV) (Z:=Z) b b j i s O hG _ (zqt n P _ hi s hs _ _);exact⟨_,b,yel this,zoy b b j h "lay" (by decide) (by decide) hi s hs _,hC,Nat.le_succ _⟩
end
noncomputable abbrev lwB:Ev->M Fl:=(yup (yuq 7 (eFn 2 f__law_deed [] (yk5 (yrr 5) (yk5 (yrr 6) yqy))))
 (yup (sIf (eT (yrl oNe (eFn 2 f__law_done [] (yk5 (yrr 4) (yk5 (yrr 7) yqy))) (eFn 2 f__law_due [] (yk5 (yrr 5) (yk5 (yrr 7) yqy))))) (yuo (eC (.bl false))) yum)
 (sIf (yq4 (eT (eFn 2 f__law_stands [] (yk5 (yrr 4) (yk5 (yrr 5) yqy))))) (yuo (eC (.bl false))) yum)))
theorem zr4(i:Str)(σ:Sto):oNe (.str i) (.str i) σ=.ok (.bl false) σ:=by rw[zr3];simp
section
variable{n:Nat}{P:Nat->Pt}{PV:D}{Z:Ob}
theorem zyv(h:yql n P PV Z)(hP:∀ i,i<n->(P i).Ok)(h1:1<=n)(h3:n<=3)(x0 x1 x2 x3:Option D):∀ (L:List Int) (b:Ms) (x6 x7:Option D),(∀ i,i<n->CI (b.C i))->(Wd b.S 0 n).length+L.length<64->
  ∃ b' y6 y7,yse (tgN 6) lwB (L.map D.int) [x0,x1,x2,x3,some (.ref 1),some (.ref (4+n)),x6,x7] (fS n P PV Z b b [])=.ok (.nx [x0,x1,x2,x3,some (.ref 1),some (.ref (4+n)),y6,y7]) (fS n P PV Z b' b' [])
 |[],b,x6,x7,_,_=>⟨b,x6,x7,by simp⟩
 |c::L,b,x6,x7,hC,hW=>by
  simp only[List.length_cons]at hW;obtain⟨d,hd,e1⟩:=zvt (P:=P) (PV:=PV) (Z:=Z) b b [] h hP c h1 h3 hC;obtain⟨a,b1,e2,e3,hC1,hW1⟩:=ycz (P:=P) (PV:=PV) (Z:=Z) b [] h hP hd hC (by omega);have e4:=znp (P:=P) (PV:=PV) (Z:=Z) b1 [] h h1 h3 (by omega);obtain⟨b2,y6,y7,e⟩:=zyv h hP h1 h3 x0 x1 x2 x3 L b1 (some (.int c)) (some d) hC1 (by omega);refine⟨b2,y6,y7,?_⟩;rw[List.map_cons,zq5];simp only[List.set_cons_succ,List.set_cons_zero];have st:lwB [x0,x1,x2,x3,some (.ref 1),some (.ref (4+n)),some (.int c),x7] (fS n P PV Z b b [])=.ok (.nx [x0,x1,x2,x3,some (.ref 1),some (.ref (4+n)),some (.int c),some d]) (fS n P PV Z b1 b1 []):=by
   have ne:=zr4 a;unfold lwB;generalize fS n P PV Z b1 b1 []=σ1 at *;generalize fS n P PV Z b1 b []=σ' at *;generalize fS n P PV Z b b []=σ at *;generalize (4+n)=N4 at *;simp[e1,e2,e3,e4,ne]
  rw[st,zu8,zq3,e]
end
def mkP(m:Int):Pt:=⟨m % 2,2+m / 2 % 2,m / 4 % 41,m / 164 % 21,1+m / 4000 % 6⟩
theorem yhf(m:Int):(mkP m).Ok:=by
 refine⟨?_,?_,?_,?_,?_⟩<;>simp only[mkP]<;>omega
noncomputable def ytn(ns:List Int)(i:Nat):Pt:=mkP (ysi (ylk ns (1+i)) 30)
noncomputable abbrev ptB:Ev->M Fl:=(yup (yuq 3 (eFn 2 f__law_mixed [] (yk5 (eFn 2 f__law_cell_at [] (yk5 (yrr 0) (yk5 (yrl yst (eC (.int 1)) (yrr 2)) yqy))) (yk5 (eC (.int 30)) yqy))))
 (yuj (ylz zzo (yrr 1) (yk5 (yrq (yk5 (yrl ys7 (yrr 3) (eC (.int 2))) (yk5 (yrl yst (eC (.int 2)) (yrl ys7 (yrl ysx (yrr 3) (eC (.int 2))) (eC (.int 2)))) (yk5 (yrl ys7 (yrl ysx (yrr 3) (eC (.int 4))) (eC (.int 41))) (yk5 (yrl ys7 (yrl ysx (yrr 3) (eC (.int 164))) (eC (.int 21))) (yk5 (yrl yst (eC (.int 1)) (yrl ys7 (yrl ysx (yrr 3) (eC (.int 4000))) (eC (.int 6)))) yqy)))))) yqy))))
theorem ya0(ns:List Int)(i:Nat)(ys:List D)(hy:ys.length<1000)(x3:Option D)(σ:Sto):∃ y3,ptB [some (.scr ns),some (.ref σ.length),some (.int i),x3,none,none,none,none] (σ++[.lst ys])=.ok (.nx [some (.scr ns),some (.ref σ.length),some (.int i),y3,none,none,none,none]) (σ++[.lst (ys++[(ytn ns i).D])]):=by
 have c:=fun σ=>zvd ns (1+(i:Int)) (by omega) σ;rw[show (1+(i:Int)).toNat=1+i by omega]at c;have mx:=fun σ=>yhd (ylk ns (1+i)) 30 (by decide) σ;unfold ytn;generalize ylk ns (1+i)=z at *;generalize ysi z 30=m at *;have ap:=zhn (σ:=σ) (xs:=ys) (d:=(mkP m).D) hy;have eD:(mkP m).D=.tup [.int (m % 2),.int (2+m / 2 % 2),.int (m / 4 % 41),.int (m / 164 % 21),.int (1+m / 4000 % 6)]:=rfl;refine⟨some (.int m),?_⟩;rw[eD]at ap ⊢;unfold ptB;simp[c,mx,ap]
theorem yaz(ns:List Int)(σ:Sto):∀ (k i:Nat) (ys:List D) (x2 x3:Option D),ys.length+k<=1000->∃ y2 y3,yse (tgN 2) ptB ((List.range' i k).map fun(k:Nat)=>D.int k) [some (.scr ns),some (.ref σ.length),x2,x3,none,none,none,none] (σ++[.lst ys])=.ok (.nx [some (.scr ns),some (.ref σ.length),y2,y3,none,none,none,none]) (σ++[.lst (ys++(List.range' i k).map fun i=>(ytn ns i).D)]):=by
 intro k;induction k with
 |zero=>intro i ys x2 x3 _;exact⟨x2,x3,by simp⟩
 |succ k ih=>
  intro i ys x2 x3 h;obtain⟨y3,e⟩:=ya0 ns i ys (by omega) x3 σ;obtain⟨z2,z3,e2⟩:=ih (i+1) (ys++[(ytn ns i).D]) (some (.int i)) y3 (by simp;omega);refine⟨z2,z3,?_⟩;rw[List.range'_succ,List.map_cons,zq5];simp only[List.set_cons_succ,List.set_cons_zero];rw[e,zu8,zq3,e2];simp
theorem yas(n:Nat)(P:Nat->Pt):clL ((List.range n).map fun i=>(P i).D)=true:=zvg fun _=>by simp
theorem zq8(p:Pt)(hp:p.Ok)(σ:Sto):f_makes_a_pot [p.D] σ=.ok (.bl true) σ:=by
 have hd:∀ (z:Int),0<=z/\z<=3->∀ σ,f_is_hand [.int z] σ=.ok (.bl true) σ:=fun z hz σ=>by
  have b1:decide (0<=z)=true:=by simpa using hz.1
  have b2:decide (z<=3)=true:=by simpa using hz.2
  unfold f_is_hand zld;simp[zvc,b1,b2]
 have hl:=hp.l;have hr:=hp.r;have hu:=hp.u;have hv:=hp.v;have ht:=hp.t;have h1:=fun σ=>hd p.l (by omega) σ;have h2:=fun σ=>hd p.r (by omega) σ;have i4:=fun σ=>p.i4 σ;have ne:(p.l == p.r)=false:=by simp;omega
 have bt:∀ (z a b:Int),a<=z/\z<=b->∀ σ,f_is_between [.int z,.int a,.int b] σ=.ok (.bl true) σ:=fun z a b h σ=>by
  have b1:decide (a<=z)=true:=by simpa using h.1
  have b2:decide (z<=b)=true:=by simpa using h.2
  rw[zvc,b1,b2];rfl
 have b3:=fun σ=>bt p.u 0 1000000000000 (by omega) σ;have b4:=fun σ=>bt p.v 0 1000000000000 (by omega) σ;have b5:=fun σ=>bt p.t 1 100 (by omega) σ;unfold Pt.D at i4;unfold f_makes_a_pot zdh Pt.D;generalize p.l=l at *;generalize p.r=r at *;generalize p.u=u at *;generalize p.v=v at *;generalize p.t=t at *;simp[h1,h2,i4,ne,b3,b4,b5]
@[simp] theorem zs4(src:Ev->M NX)(tg:D->Ev->Option Ev)(body:Ev->M Fl)(ρ:Ev)(σ:Sto):yo0 src tg body ρ σ=xsO ρ (ymi tg body ρ) (src ρ σ):=yp1 ..
theorem zih{nx:NX}{tg:D->Ev->Option Ev}{body:Ev->M Fl}{k i:Nat}{ρ ρ1:Ev}{σ:Sto}{d:D}(h:nx i σ=some (some d))(ht:tg d ρ=some ρ1):ynb nx tg body (k+1) i ρ σ=(body ρ1 σ).bind (ym9 (ynb nx tg body k (i+1))):=by
 rw[ynb];simp only[h,ht];rfl
theorem zl3{nx:NX}{tg:D->Ev->Option Ev}{body:Ev->M Fl}{k i:Nat}{ρ:Ev}{σ:Sto}(h:nx i σ=some none):ynb nx tg body (k+1) i ρ σ=.ok (.nx ρ) σ:=by
 rw[ynb];simp only[h]
@[simp] theorem yct(f:Ev->M D)(ρ:Ev)(σ:Sto):yuz f ρ σ=(f ρ σ).bind yl2:=nr rfl
theorem ygv{src:Ev->M Src}{ix:List Nat}{fe:Ev->M D}{ds:List D}{ρ:Ev}{σ:Sto}(y:D->D)(hs:src ρ σ=.ok (.seq ds) σ)(hl:ds.length<=1000)
  (step:∀ d∈ds,∀ j,fe (some d::(ix.map fun i=>(ρ[i]?).getD none)) (σ++j)=.ok (y d) (σ++j)) :
  eLC src ix (tgN 0) yle fe ρ σ=.ok (.ref σ.length) (σ++[.lst (ds.map y)]):=by
 show bnd (src ρ) (lcK (tgN 0) yle fe (ylg ix ρ)) σ=_;rw[ydz,hs,zu8];show bnd (ygt (.seq ds) σ.length (tgN 0) yle fe 1001 0 (none::(ix.map fun i=>(ρ[i]?).getD none))) _ (σ++[.lst []])=_;rw[ydz,ym5 y (fun _=>true) (fun d hd j=>⟨rfl,fun _=>step d hd j⟩) hl 1001 0 none [] (by omega) (by omega) (by simp),zu8];rw[List.drop_zero,show List.filter (fun _=>true) ds=ds from List.filter_eq_self.mpr fun _ _=>rfl];rfl
theorem yho{n i:Nat}(P:Nat->Pt){x:D}{σ:Sto}(hx:ysf σ x=some ((List.range n).map fun i=>(P i).D))(h:i<n):nxE x i σ=some (some (.tup [.int i,(P i).D])):=by
 have:((List.range n).map fun i=>(P i).D)[i]?=some (P i).D:=by simp[h]
 unfold nxE;simp only[hx,this]
theorem zzn{n:Nat}(P:Nat->Pt){x:D}{σ:Sto}(hx:ysf σ x=some ((List.range n).map fun i=>(P i).D)):nxE x n σ=some none:=by
 have:((List.range n).map fun i=>(P i).D)[n]?=none:=by simp
 unfold nxE;simp only[hx,this];simp
noncomputable abbrev ckB:Ev->M Fl:=(sIf (bOr (eT (yrl oGt (yrr 1) (eC (.int 2)))) (yq4 (eT (eFn 1 f_makes_a_pot [] (yk5 (yrr 2) yqy))))) yui yum)
theorem zve(n:Nat)(P:Nat->Pt)(hn:n<=3)(hP:∀ i,i<n->(P i).Ok){x:D}{σ:Sto}(hx:ysf σ x=some ((List.range n).map fun i=>(P i).D)):∀ (k i:Nat) (f:Nat) (x1 x2:Option D),i+k=n->f=1001 - i->∃ y1 y2,
  ynb (nxE x) (tgT 2 (yj7 (tgN 1) (yj7 (tgN 2) ypt))) ckB f i [some x,x1,x2] σ=.ok (.nx [some x,y1,y2]) σ:=by
 intro k;induction k with
 |zero=>
  intro i f x1 x2 hik hf;obtain rfl:i=n:=by omega
  obtain⟨f',rfl⟩:∃ f',f=f'+1:=⟨f - 1,by omega⟩
  exact⟨x1,x2,zl3 (zzn P hx)⟩
 |succ k ih=>
  intro i f x1 x2 hik hf;have hi:i<n:=by omega
  obtain⟨f',rfl⟩:∃ f',f=f'+1:=⟨f - 1,by omega⟩
  obtain⟨z1,z2,e2⟩:=ih (i+1) f' (some (.int i)) (some (P i).D) (by omega) (by omega);refine⟨z1,z2,?_⟩;have mk:=zq8 (P i) (hP i hi) σ;have b:decide ((2:Int)<(i:Int))=false:=by simp;omega
  have e:ckB [some x,some (.int i),some (P i).D] σ=.ok (.nx [some x,some (.int i),some (P i).D]) σ:=by
   unfold ckB;generalize (P i).D=PD at *;generalize (i:Int)=q at *;simp[mk,b]
  rw[zih (yho P hx hi) (ρ1:=[some x,some (.int i),some (P i).D]) (nr rfl),e,zu8,zq3,e2]
theorem zpx{xs:List D}{x:D}{σ:Sto}(hx:yo5 σ x=some xs)(h:clL xs=true):yrz σ (yn1 [x] σ)=.ok (.lst xs) σ:=by
 have e:yn1 [x] σ=.ok (.ref σ.length) (σ++[.lst xs]):=by unfold yn1;simp only[hx];rfl
 rw[e];have:=zp0 (σ:=σ) (j:=[]) (j':=[]) h;simpa using this
theorem zht(n:Nat)(P:Nat->Pt)(hn:n<=3)(hP:∀ i,i<n->(P i).Ok){x:D}{σ:Sto}(hx:ysf σ x=some ((List.range n).map fun i=>(P i).D))(hs:yo5 σ x=some ((List.range n).map fun i=>(P i).D)):f_checked_pots [x] σ=.ok (ytm n P) σ:=by
 obtain⟨y1,y2,e⟩:=zve n P hn hP hx n 0 1001 none none (by omega) (by omega);have ek:yl2 x σ=.ok (nxE x) σ:=by unfold yl2;simp only[hx]
 have fk:∀ (tg:D->Ev->Option Ev) (body:Ev->M Fl) (ρ:Ev) (nx:NX),ymi tg body ρ nx=ynb nx tg body 1001 0 ρ:=fun _ _ _ _=>rfl;have fl:yrz σ (yn1 [x] σ)=.ok (ytm n P) σ:=zpx hs (yas n P);have hc:cl (ytm n P)=true:=by unfold ytm;rw[yd9];exact yas n P
 unfold ckB at e;unfold f_checked_pots zco;generalize ytm n P=PL at *;simp[ek,fk,e,fl,hc,-yjh]
theorem yto(Z:Ob)(ρ:Ev)(cs:List Nat)(f:Str)(d:D)(c:Nat)(fs:List (Str × D))(r:Sto)(hc:cs.contains c=true)(hl:fs.length<1000):yom ρ cs f d (.ref 1) (Z::.ins c fs::r)=.ok (.nx ρ) (Z::.ins c (ytp f d fs)::r):=by
 unfold yom ytc;simp[hc,hl,List.contains_eq_mem]at *;simp[hc,hl]
theorem zxm(Z:Ob)(n:Nat)(P:Nat->Pt)(hn:n<=3)(y:D):eLC (yu1 (eUn (ysz [8] "pots") (yrr 0))) [] (tgN 0) yle (yrm (yly 5 2 f_Claim___init__ (yk5 (eFn 1 f_whole_of [] (yk5 (yrr 0) yqy)) yqy))) [some (.ref 1),some y] [Z,.ins 8 [("pots",ytm n P),("day",.int 0)]]
  = .ok (.ref 2) [Z,.ins 8 [("pots",ytm n P),("day",.int 0)],.lst ((List.range n).map fun i=>Cl.D (P i) .held)]:=by
 have fl:ysz [8] "pots" (.ref 1) [Z,.ins 8 [("pots",ytm n P),("day",.int 0)]]=.ok (ytm n P) [Z,.ins 8 [("pots",ytm n P),("day",.int 0)]]:=zzt (c:=8) rfl rfl rfl;have:=ygv (ix:=[]) (ρ:=[some (.ref 1),some y]) (σ:=[Z,.ins 8 [("pots",ytm n P),("day",.int 0)]]) (src:=yu1 (eUn (ysz [8] "pots") (yrr 0))) (fe:=yrm (yly 5 2 f_Claim___init__ (yk5 (eFn 1 f_whole_of [] (yk5 (yrr 0) yqy)) yqy))) (ds:=(List.range n).map fun i=>(P i).D)
  (fun d=>match d with | .tup [_,_,.int u,.int v,_]=>.obj 5 ["whole"] [.int (u+v)]|_=>.non) (by rw[ycv,yet,yeu,zu8,fl,zu8];rfl) (by simp;omega) (fun d hd j=>by
   obtain⟨i,_,rfl⟩:=List.mem_map.mp hd;have w:=fun σ=>zum (P i) σ;have mk:=fun σ=>zl6 (P i).w σ;show _=Out.ok (D.obj 5 ["whole"] [.int (P i).w]) _;generalize ([Z,Ob.ins 8 [("pots",ytm n P),("day",D.int 0)]]++j:Sto)=σ;generalize (P i).D=PD at *;generalize (P i).w=W at *;generalize D.obj 5 ["whole"] [.int W]=O at *;simp[w,mk,-zyw])
 rw[this,List.map_map];rfl
def B0(Z:Ob):Bs:=⟨0,fun _=>.held,fun _=>[],[],Z⟩
theorem zxs(Z:Ob)(x:D)(n:Nat)(P:Nat->Pt)(h1:1<=n)(h3:n<=3)(hP:∀ i,i<n->(P i).Ok)(hx:∀ r,ysf (Z::r) x=some ((List.range n).map fun i=>(P i).D))(hs:∀ r,yo5 (Z::r) x=some ((List.range n).map fun i=>(P i).D)):f_Book___init__ [.ref 1,x] [Z,.ins 8 []]=.ok .non (bkS n P (B0 Z)):=by
 have ck:=fun r=>zht n P h3 hP (hx r) (hs r);have hl:=zxm Z n P h3 x;have p1:∀ ρ r,yom ρ [8] "pots" (ytm n P) (.ref 1) (Z::.ins 8 []::r)=.ok (.nx ρ) (Z::.ins 8 [("pots",ytm n P)]::r):=fun ρ r=>yto Z ρ _ _ _ 8 [] r rfl (by decide);have p2:∀ ρ r,yom ρ [6,8] "day" (.int 0) (.ref 1) (Z::.ins 8 [("pots",ytm n P)]::r)=.ok (.nx ρ) (Z::.ins 8 [("pots",ytm n P),("day",.int 0)]::r):=fun ρ r=>yto Z ρ _ _ _ 8 _ r rfl (by simp);have p3:∀ ρ r,yom ρ [8] "claims" (.ref 2) (.ref 1) (Z::.ins 8 [("pots",ytm n P),("day",.int 0)]::r)=.ok (.nx ρ) (Z::.ins 8 [("pots",ytm n P),("day",.int 0),("claims",.ref 2)]::r):=fun ρ r=>yto Z ρ _ _ _ 8 _ r rfl (by simp);have p4:∀ ρ r,yom ρ [8] "shown" (.ref 3) (.ref 1) (Z::.ins 8 [("pots",ytm n P),("day",.int 0),("claims",.ref 2)]::r)=.ok (.nx ρ) (Z::.ins 8 [("pots",ytm n P),("day",.int 0),("claims",.ref 2),("shown",.ref 3)]::r):=fun ρ r=>yto Z ρ _ _ _ 8 _ r rfl (by simp);have sh:∀ y c,eLC (yu1 (eUn (ysz [8] "pots") (yrr 0))) [] (tgN 0) yle ylx [some (.ref 1),some y] [Z,.ins 8 [("pots",ytm n P),("day",.int 0),("claims",.ref 2)],c]
   = .ok (.ref 3) (Z::.ins 8 [("pots",ytm n P),("day",.int 0),("claims",.ref 2)]::c::.lst ((List.range n).map fun i=>.ref (4+i))::(((List.range n).map fun i=>.dic [])++[])):=by
  intro y c;have hc:n=1\/n=2\/n=3:=by omega
  rcases hc with rfl|rfl|rfl<;>rfl
 unfold f_Book___init__ zb0;have eB:bkS n P (B0 Z)=Z::.ins 8 [("pots",ytm n P),("day",.int 0),("claims",.ref 2),("shown",.ref 3)]::.lst ((List.range n).map fun i=>Cl.D (P i) .held)::.lst ((List.range n).map fun i=>.ref (4+i))::(((List.range n).map fun i=>.dic [])++[]):=rfl;rw[eB];clear hx hs;generalize Ob.lst ((List.range n).map fun i=>Cl.D (P i) .held)=c at *;generalize ((List.range n).map fun i=>D.ref (4+i))=rs at *;generalize (((List.range n).map fun i=>Ob.dic [])++[])=ds at *;generalize ytm n P=PL at *;simp[ck,p1,p2,p3,p4,hl,sh]
def b0:Ms:=⟨0,fun _=>.held,fun _=>[]⟩
def yqk(n:Nat)(P:Nat->Pt)(PV:D)(Z:Ob):Prop:=(PV=.ref 0/\Z=.lst ((List.range n).map fun i=>(P i).D))\/PV=ytm n P
section
variable{n:Nat}{P:Nat->Pt}{PV:D}{Z:Ob}
theorem yqk.ls(h:yqk n P PV Z)(r:Sto):ysf (Z::r) PV=some ((List.range n).map fun i=>(P i).D):=by
 rcases h with⟨rfl,rfl⟩|rfl<;>rfl
theorem yqk.seq(h:yqk n P PV Z)(r:Sto):yo5 (Z::r) PV=some ((List.range n).map fun i=>(P i).D):=by
 rcases h with⟨rfl,rfl⟩|rfl<;>rfl
theorem yqk.ok(h:yqk n P PV Z):yql n P PV Z:=fun b m j=>h.seq _
theorem zvw(h:yqk n P PV Z)(h1:1<=n)(h3:n<=3)(x0 x2 x3 x4 x5 x6 x7:Option D):ylw [.inr "pots",.inr "day",.inr "claims",.inr "shows"] (yk5 (yrr 1) (yk5 (eC (.int 0)) (yk5 (eLC (yu1 (yrr 1)) [] (tgN 0) yle (yrq (yk5 (eC (.str "held")) yqy))) (yk5 (eLC (yu1 (yrr 1)) [] (tgN 0) yle ylx) yqy)))) [x0,some PV,x2,x3,x4,x5,x6,x7] (bkS n P (B0 Z))=.ok (.ref (4+n)) (fS n P PV Z b0 b0 []):=by
 have hc:n=1\/n=2\/n=3:=by omega
 rcases h with⟨rfl,rfl⟩|rfl
 ·rcases hc with rfl|rfl|rfl<;>rfl
 ·rcases hc with rfl|rfl|rfl<;>rfl
@[simp] theorem ztp(xs:List Int)(lo hi:Option Int)(σ:Sto):yux (.scr xs) lo hi σ=.ok (.lst (yre (xs.map D.int) lo hi)) σ:=nr rfl
theorem zvn(ns:List Int):∃ L:List Int,yre (ns.map D.int) (some 4) (some 44)=L.map D.int/\L.length<=40:=by
 refine⟨(ns.drop (HT.sIx ns.length 0 (some 4))).take (HT.sIx ns.length ns.length (some 44) - HT.sIx ns.length 0 (some 4)),?_,?_⟩
 ·unfold yre;rw[List.length_map,List.map_take,List.map_drop]
 ·simp[HT.sIx];omega
noncomputable abbrev ypr:Ev->M Fl:=(yup (yuq 4 (yly 8 2 f_Book___init__ (yk5 (yrr 1) yqy)))
 (yup (yuq 5 (ylw [.inr "pots",.inr "day",.inr "claims",.inr "shows"] (yk5 (yrr 1) (yk5 (eC (.int 0)) (yk5 (eLC (yu1 (yrr 1)) [] (tgN 0) yle (yrq (yk5 (eC (.str "held")) yqy))) (yk5 (eLC (yu1 (yrr 1)) [] (tgN 0) yle ylx) yqy))))))
 (yup (yul (yu1 (eSl (yrr 0) (some (eC (.int 4))) (some (eC (.int 44))))) (tgN 6) lwB)
 (yuo (eC (.bl true))))))
theorem yc2(h:yqk n P PV Z)(hP:∀ i,i<n->(P i).Ok)(h1:1<=n)(h3:n<=3)(ns:List Int)(x2 x3:Option D):∃ σ',ypr [some (.scr ns),some PV,x2,x3,none,none,none,none] [Z]=.ok (.rt (.bl true)) σ':=by
 have ini:=zxs Z PV n P h1 h3 hP h.ls h.seq;have mkb:ynu 1 (f_Book___init__ [.ref 1,PV] [Z,.ins 8 []])=.ok (.ref 1) (bkS n P (B0 Z)):=by rw[ini];rfl
 have dp:=fun x4 x5 x6 x7=>zvw h h1 h3 (some (.scr ns)) x2 x3 x4 x5 x6 x7;obtain⟨L,eL,hL⟩:=zvn ns;obtain⟨b',y6,y7,e⟩:=zyv h.ok hP h1 h3 (some (.scr ns)) (some PV) x2 x3 L b0 none none (fun i _=>trivial) (by
  have:∀ k a,Wd (b0.S) a k=[]:=fun k=>by
   induction k with
   |zero=>intro a;rfl
   |succ k ih=>intro a;rw[zur,ih];rfl
  rw[this];simp;omega)
 refine⟨fS n P PV Z b' b' [],?_⟩;unfold lwB at e;unfold ypr lwB;clear h ini;generalize fS n P PV Z b' b' []=σ' at *;generalize fS n P PV Z b0 b0 []=σ1 at *;generalize bkS n P (B0 Z)=σ0 at *;generalize L.map D.int=LL at *;generalize (4+n)=N4 at *;have mk1:ynj 8 2 f_Book___init__ [PV] [Z]=.ok (.ref 1) σ0:=by rw[<-mkb];rfl
 simp[mk1,dp,eL,e,-zyw]
end
noncomputable abbrev yuc:Ev->M Fl:=yuq 1 (yrl ytd (eSl (yrr 1) none (some (eC (.int 1)))) (ylv ys5 (yk5 (yrr 1) yqy)))
theorem law_true(ns:List Int)(hns:ns.length<=63):∃ σ,f_law [.scr ns] []=.ok (.bl true) σ:=by
 obtain⟨n,hn⟩:∃ n:Nat,(n:Int)=1+ylk ns 0 % 3:=⟨(1+ylk ns 0 % 3).toNat,by omega⟩
 have h1:1<=n:=by omega
 have h3:n<=3:=by omega
 have c:=fun σ=>zvd ns 0 (by decide) σ;rw[Int.toNat_zero]at c;obtain⟨y2,y3,e⟩:=yaz ns [] n 0 [] none none (by simp;omega);rw[<-zmx]at e;simp only[List.nil_append,List.length_nil]at e;have rk:∀ σ,yuf (.int (1+ylk ns 0 % 3)) σ=.ok (.seq (yjd n)) σ:=fun σ=>by rw[<-hn];have:=ya9 (σ:=σ) (j:=(n:Int)) (by omega) (by omega);simpa using this
 have hP:∀ i,i<n->(ytn ns i).Ok:=fun i _=>yhf _;have eg:ymo=yup (yuq 1 (yrn yqy)) (yup (yul (yu0 (yrl yst (eC (.int 1)) (yrl ys7 (eFn 2 f__law_cell_at [] (yk5 (yrr 0) (yk5 (eC (.int 0)) yqy))) (eC (.int 3))))) (tgN 2) ptB)
  (yup (sIf (eT (yrl oEq (yrl ys7 (yrl ysx (eFn 2 f__law_cell_at [] (yk5 (yrr 0) (yk5 (eC (.int 0)) yqy))) (eC (.int 3))) (eC (.int 4))) (eC (.int 1)))) yuc yum) ypr)):=nr rfl
 unfold ptB at e eg;unfold f_law;rw[eg];rw[<-List.range_eq_range']at e;by_cases ha:ylk ns 0 / 3 % 4=1
 ·have hb:(ylk ns 0 / 3 % 4 == 1)=true:=by simpa using ha
  obtain⟨σ',et⟩:=yc2 (n:=n) (P:=fun _=>ytn ns 0) (PV:=ytm n fun _=>ytn ns 0) (Z:=.lst ((List.range n).map fun i=>(ytn ns i).D)) (.inr rfl) (fun _ _=>yhf _) h1 h3 ns y2 y3;have rp:yuc [some (.scr ns),some (.ref 0),y2,y3,none,none,none,none] [.lst ((List.range n).map fun i=>(ytn ns i).D)]=.ok (.nx [some (.scr ns),some (ytm n fun _=>ytn ns 0),y2,y3,none,none,none,none]) [.lst ((List.range n).map fun i=>(ytn ns i).D)]:=by
   have hc:n=1\/n=2\/n=3:=by omega
   rcases hc with rfl|rfl|rfl<;>rfl
  refine⟨σ',?_⟩;generalize ypr=T at *;generalize yuc=Q at *;generalize (ytm n fun _=>ytn ns 0)=PL at *;generalize (List.range n).map (fun i=>(ytn ns i).D)=G at *;generalize yjd n=R at *;generalize ylk ns 0=z at *;simp[c,rk,e,hb,et,rp]
 ·have hb:(ylk ns 0 / 3 % 4 == 1)=false:=by simpa using ha
  obtain⟨σ',et⟩:=yc2 (n:=n) (P:=ytn ns) (PV:=.ref 0) (Z:=.lst ((List.range n).map fun i=>(ytn ns i).D)) (.inl ⟨rfl,rfl⟩) hP h1 h3 ns y2 y3;refine⟨σ',?_⟩;generalize ypr=T at *;generalize yuc=Q at *;generalize (List.range n).map (fun i=>(ytn ns i).D)=G at *;generalize yjd n=R at *;generalize ylk ns 0=z at *;simp[c,rk,e,hb,et]
end K14
open PySem PySem.W PyProof.Rows
set_option maxRecDepth 100000 in
set_option maxHeartbeats 0 in
theorem PySem.Challenge.cw_sidebook_k14_deeds_in_the_book_holds : PySem.Challenge.rw_sidebook_k14_deeds_in_the_book.Holds := by
 w_on;o_law;k_head;(case hw=>w_witness2)
 k_fill
 refine L4.ypz (l:=PySem.Challenge.rw_sidebook_k14_deeds_in_the_book) (k:=12) (x:="_law_script") (fn:=K14.f_law) rfl rfl ⟨rfl,by decide,by decide⟩ (fun w h Y=>kIn_of Y) ?F K14.law_true;case F=>
  intro w mg h KX G;have h__law_cell_at:L4.yks (L2.KOf KX) mg "_law_cell_at" (K14.top 52) ["_law_script", "_law_k"]:=by
   dsimp only[L2.KOf];refine' L4.mkF KX G K14.zbx ?a ?l ?c ?k;(case a|l|c|k=>k_is)
  have h__law_mixed:L4.yks (L2.KOf KX) mg "_law_mixed" (K14.top 53) ["_law_cell", "_law_k"]:=by
   dsimp only[L2.KOf];refine' L4.mkF KX G K14.zc8 ?a ?l ?c ?k;(case a|l|c|k=>k_is)
  have h_is_whole:L4.yks (L2.KOf KX) mg "is_whole" (K14.top 8) ["thing"]:=by
   dsimp only[L2.KOf];refine' L4.mkF KX G K14.zfx ?a ?l ?c ?k;(case a|l|c|k=>k_is)
  have h_is_between:L4.yks (L2.KOf KX) mg "is_between" (K14.top 9) ["thing", "least", "most"]:=by
   dsimp only[L2.KOf];refine' L4.mkF KX G K14.zdb ?a ?l ?c ?k;(case a|l|c|k=>k_is)
  have h_is_hand:L4.yks (L2.KOf KX) mg "is_hand" (K14.top 11) ["thing"]:=by
   dsimp only[L2.KOf];refine' L4.mkF KX G K14.zho ?a ?l ?c ?k;(case a|l|c|k=>k_is)
  have h_makes_a_pot:L4.yks (L2.KOf KX) mg "makes_a_pot" (K14.top 45) ["thing"]:=by
   dsimp only[L2.KOf];refine' L4.mkF KX G K14.zcl ?a ?l ?c ?k;(case a|l|c|k=>k_is)
  have h_checked_pots:L4.yks (L2.KOf KX) mg "checked_pots" (K14.top 46) ["pots"]:=by
   dsimp only[L2.KOf];refine' L4.mkF KX G K14.zby ?a ?l ?c ?k;(case a|l|c|k=>k_is)
  have h_whole_of:L4.yks (L2.KOf KX) mg "whole_of" (K14.top 47) ["made"]:=by
   dsimp only[L2.KOf];refine' L4.mkF KX G K14.zfy ?a ?l ?c ?k;(case a|l|c|k=>k_is)
  have h__law_struck:L4.yks (L2.KOf KX) mg "_law_struck" (K14.top 56) ["_law_model", "_law_cell"]:=by
   dsimp only[L2.KOf];refine' L4.mkF KX G K14.zcj ?a ?l ?c ?k;(case a|l|c|k=>k_is)
  have h__law_small_stand:L4.yks (L2.KOf KX) mg "_law_small_stand" (K14.top 54) ["_law_cell", "_law_whole"]:=by
   dsimp only[L2.KOf];refine' L4.mkF KX G K14.zab ?a ?l ?c ?k;(case a|l|c|k=>k_is)
  have h__law_laid:L4.yks (L2.KOf KX) mg "_law_laid" (K14.top 55) ["_law_model", "_law_cell"]:=by
   dsimp only[L2.KOf];refine' L4.mkF KX G K14.zec ?a ?l ?c ?k;(case a|l|c|k=>k_is)
  have h__law_deed:L4.yks (L2.KOf KX) mg "_law_deed" (K14.top 57) ["_law_model", "_law_cell"]:=by
   dsimp only[L2.KOf];refine' L4.mkF KX G K14.zea ?a ?l ?c ?k;(case a|l|c|k=>k_is)
  have h_is_word:L4.yks (L2.KOf KX) mg "is_word" (K14.top 12) ["thing"]:=by
   dsimp only[L2.KOf];refine' L4.mkF KX G K14.zhq ?a ?l ?c ?k;(case a|l|c|k=>k_is)
  have h_is_side:L4.yks (L2.KOf KX) mg "is_side" (K14.top 10) ["thing"]:=by
   dsimp only[L2.KOf];refine' L4.mkF KX G K14.zhp ?a ?l ?c ?k;(case a|l|c|k=>k_is)
  have h_check_side:L4.yks (L2.KOf KX) mg "check_side" (K14.top 49) ["side"]:=by
   dsimp only[L2.KOf];refine' L4.mkF KX G K14.zda ?a ?l ?c ?k;(case a|l|c|k=>k_is)
  have h_other_side:L4.yks (L2.KOf KX) mg "other_side" (K14.top 17) ["side"]:=by
   dsimp only[L2.KOf];refine' L4.mkF KX G K14.zdc ?a ?l ?c ?k;(case a|l|c|k=>k_is)
  have h_is_number:L4.yks (L2.KOf KX) mg "is_number" (K14.top 14) ["thing"]:=by
   dsimp only[L2.KOf];refine' L4.mkF KX G K14.zef ?a ?l ?c ?k;(case a|l|c|k=>k_is)
  have h_is_pot:L4.yks (L2.KOf KX) mg "is_pot" (K14.top 16) ["thing"]:=by
   dsimp only[L2.KOf];refine' L4.mkF KX G K14.zjx ?a ?l ?c ?k;(case a|l|c|k=>k_is)
  have h_is_of_a_side:L4.yks (L2.KOf KX) mg "is_of_a_side" (K14.top 35) ["thing"]:=by
   dsimp only[L2.KOf];refine' L4.mkF KX G K14.zbz ?a ?l ?c ?k;(case a|l|c|k=>k_is)
  have h_is_day:L4.yks (L2.KOf KX) mg "is_day" (K14.top 13) ["thing"]:=by
   dsimp only[L2.KOf];refine' L4.mkF KX G K14.zjw ?a ?l ?c ?k;(case a|l|c|k=>k_is)
  have h_is_amount:L4.yks (L2.KOf KX) mg "is_amount" (K14.top 15) ["thing"]:=by
   dsimp only[L2.KOf];refine' L4.mkF KX G K14.zee ?a ?l ?c ?k;(case a|l|c|k=>k_is)
  have h_is_tie:L4.yks (L2.KOf KX) mg "is_tie" (K14.top 26) ["thing"]:=by
   dsimp only[L2.KOf];refine' L4.mkF KX G K14.zjy ?a ?l ?c ?k;(case a|l|c|k=>k_is)
  have h_are_ties:L4.yks (L2.KOf KX) mg "are_ties" (K14.top 28) ["thing"]:=by
   dsimp only[L2.KOf];refine' L4.mkF KX G K14.zfu ?a ?l ?c ?k;(case a|l|c|k=>k_is)
  have h_are_shares:L4.yks (L2.KOf KX) mg "are_shares" (K14.top 27) ["thing"]:=by
   dsimp only[L2.KOf];refine' L4.mkF KX G K14.zc9 ?a ?l ?c ?k;(case a|l|c|k=>k_is)
  have h_is_stand:L4.yks (L2.KOf KX) mg "is_stand" (K14.top 29) ["thing"]:=by
   dsimp only[L2.KOf];refine' L4.mkF KX G K14.zfv ?a ?l ?c ?k;(case a|l|c|k=>k_is)
  have h_is_thing:L4.yks (L2.KOf KX) mg "is_thing" (K14.top 36) ["thing"]:=by
   dsimp only[L2.KOf];refine' L4.mkF KX G K14.zfw ?a ?l ?c ?k;(case a|l|c|k=>k_is)
  have h_deals:L4.yks (L2.KOf KX) mg "deals" (K14.top 32) ["one"]:=by
   dsimp only[L2.KOf];refine' L4.mkF KX G K14.zn7 ?a ?l ?c ?k;(case a|l|c|k=>k_is)
  have h_is_stand_of:L4.yks (L2.KOf KX) mg "is_stand_of" (K14.top 33) ["thing", "coin"]:=by
   dsimp only[L2.KOf];refine' L4.mkF KX G K14.zck ?a ?l ?c ?k;(case a|l|c|k=>k_is)
  have h_is_agreed:L4.yks (L2.KOf KX) mg "is_agreed" (K14.top 48) ["pot", "side", "stand", "agreement"]:=by
   dsimp only[L2.KOf];refine' L4.mkF KX G K14.zed ?a ?l ?c ?k;(case a|l|c|k=>k_is)
  have h_stand:L4.ydi (L2.KOf KX) mg "stand" (K14.top 30) ["number", "shares", "ties"] [Value.none]:=by
   dsimp only[L2.KOf];refine' L4.ysk KX G K14.zn9 ?a ?l ?c ?k ?d;(case a|l|c|k|d=>k_is)
  have h_first:L4.yks (L2.KOf KX) mg "first" (K14.top 31) ["left", "right"]:=by
   dsimp only[L2.KOf];refine' L4.mkF KX G K14.zn8 ?a ?l ?c ?k;(case a|l|c|k=>k_is)
  have h__law_done:L4.yks (L2.KOf KX) mg "_law_done" (K14.top 60) ["_law_book", "_law_deed_here"]:=by
   dsimp only[L2.KOf];refine' L4.mkF KX G K14.zeb ?a ?l ?c ?k;(case a|l|c|k=>k_is)
  have h__law_is_stand:L4.yks (L2.KOf KX) mg "_law_is_stand" (K14.top 58) ["_law_one", "_law_whole"]:=by
   dsimp only[L2.KOf];refine' L4.mkF KX G K14.zbc ?a ?l ?c ?k;(case a|l|c|k=>k_is)
  have h__law_due:L4.yks (L2.KOf KX) mg "_law_due" (K14.top 59) ["_law_model", "_law_deed_here"]:=by
   dsimp only[L2.KOf];refine' L4.mkF KX G K14.zft ?a ?l ?c ?k;(case a|l|c|k=>k_is)
  have h__law_stands:L4.yks (L2.KOf KX) mg "_law_stands" (K14.top 61) ["_law_book", "_law_model"]:=by
   dsimp only[L2.KOf];refine' L4.mkF KX G K14.zci ?a ?l ?c ?k;(case a|l|c|k=>k_is)
  have h_law:L4.yks (L2.KOf KX) mg "law" (K14.top 62) ["_law_script"]:=by
   dsimp only[L2.KOf];refine' L4.mkF KX G K14.ydr ?a ?l ?c ?k;(case a|l|c|k=>k_is)
  have n_all:mg "all" = none:=by
   refine' mg_none_of KX G ?a;(case a=>k_is)
  have n_bool:mg "bool" = none:=by
   refine' mg_none_of KX G ?a;(case a=>k_is)
  have n_dict:mg "dict" = none:=by
   refine' mg_none_of KX G ?a;(case a=>k_is)
  have n_enumerate:mg "enumerate" = none:=by
   refine' mg_none_of KX G ?a;(case a=>k_is)
  have n_int:mg "int" = none:=by
   refine' mg_none_of KX G ?a;(case a=>k_is)
  have n_isinstance:mg "isinstance" = none:=by
   refine' mg_none_of KX G ?a;(case a=>k_is)
  have n_len:mg "len" = none:=by
   refine' mg_none_of KX G ?a;(case a=>k_is)
  have n_list:mg "list" = none:=by
   refine' mg_none_of KX G ?a;(case a=>k_is)
  have n_min:mg "min" = none:=by
   refine' mg_none_of KX G ?a;(case a=>k_is)
  have n_range:mg "range" = none:=by
   refine' mg_none_of KX G ?a;(case a=>k_is)
  have n_set:mg "set" = none:=by
   refine' mg_none_of KX G ?a;(case a=>k_is)
  have n_sorted:mg "sorted" = none:=by
   refine' mg_none_of KX G ?a;(case a=>k_is)
  have n_str:mg "str" = none:=by
   refine' mg_none_of KX G ?a;(case a=>k_is)
  have n_sum:mg "sum" = none:=by
   refine' mg_none_of KX G ?a;(case a=>k_is)
  have n_tuple:mg "tuple" = none:=by
   refine' mg_none_of KX G ?a;(case a=>k_is)
  have c_MOST_AMOUNT:∃ t,mg "MOST_AMOUNT" = some (.int 1000000000000 t):=by
   refine' L4.mkI KX G ?a;(case a=>k_is)
  have c_MOST_COIN:∃ t,mg "MOST_COIN" = some (.int 1000000000000 t):=by
   refine' L4.mkI KX G ?a;(case a=>k_is)
  have c_MOST_DAY:∃ t,mg "MOST_DAY" = some (.int 1000000 t):=by
   refine' L4.mkI KX G ?a;(case a=>k_is)
  have c_MOST_HAND:∃ t,mg "MOST_HAND" = some (.int 3 t):=by
   refine' L4.mkI KX G ?a;(case a=>k_is)
  have c_MOST_NUMBER:∃ t,mg "MOST_NUMBER" = some (.int 1000000 t):=by
   refine' L4.mkI KX G ?a;(case a=>k_is)
  have c_MOST_POT:∃ t,mg "MOST_POT" = some (.int 2 t):=by
   refine' L4.mkI KX G ?a;(case a=>k_is)
  have c_MOST_SHARE:∃ t,mg "MOST_SHARE" = some (.int 2000000000000 t):=by
   refine' L4.mkI KX G ?a;(case a=>k_is)
  have c_MOST_TIES:∃ t,mg "MOST_TIES" = some (.int 6 t):=by
   refine' L4.mkI KX G ?a;(case a=>k_is)
  have c_MOST_WAIT:∃ t,mg "MOST_WAIT" = some (.int 100 t):=by
   refine' L4.mkI KX G ?a;(case a=>k_is)
  have c_MOST_WORD:∃ t,mg "MOST_WORD" = some (.int 59 t):=by
   refine' L4.mkI KX G ?a;(case a=>k_is)
  refine' (have q0:nsIn (L2.KOf KX) mainGlobals "BookError" = some (some (.ref ?C0)):=?p0;?_);(case p0=>dsimp only[L2.KOf];first|k_is|k_exc|rfl);refine' (have q1:excIn (L2.KOf KX) ?C0 L4.veB "ValueError.__new__" = true:=?p1;?_);(case p1=>dsimp only[L2.KOf];first|k_is|k_exc|rfl);refine' (have q2:nsIn (L2.KOf KX) mainGlobals "NoStand" = some (some (.ref ?C1)):=?p2;?_);(case p2=>dsimp only[L2.KOf];first|k_is|k_exc|rfl);refine' (have q3:excIn (L2.KOf KX) ?C1 L4.veB "ValueError.__new__" = true:=?p3;?_);(case p3=>dsimp only[L2.KOf];first|k_is|k_exc|rfl);refine' (have q4:nsIn (L2.KOf KX) mainGlobals "NoDeed" = some (some (.ref ?C2)):=?p4;?_);(case p4=>dsimp only[L2.KOf];first|k_is|k_exc|rfl);refine' (have q5:excIn (L2.KOf KX) ?C2 L4.veB "ValueError.__new__" = true:=?p5;?_);(case p5=>dsimp only[L2.KOf];first|k_is|k_exc|rfl);refine' (have q6:exmOne (L2.KOf KX) (.ref ?C0) (.ref ?C2)=some false:=?p6;?_);(case p6=>dsimp only[L2.KOf];first|k_is|k_exc|rfl);refine' (have q7:exmOne (L2.KOf KX) (.ref ?C0) (.ref ?C1)=some false:=?p7;?_);(case p7=>dsimp only[L2.KOf];first|k_is|k_exc|rfl);refine' (have q8:exmOne (L2.KOf KX) (.ref ?C2) (.ref ?C2)=some true:=?p8;?_);(case p8=>dsimp only[L2.KOf];first|k_is|k_exc|rfl);refine' (have q9:exmOne (L2.KOf KX) (.ref ?C2) (.ref ?C1)=some false:=?p9;?_);(case p9=>dsimp only[L2.KOf];first|k_is|k_exc|rfl);refine' (have q10:exmOne (L2.KOf KX) (.ref ?C1) (.ref ?C2)=some false:=?p10;?_);(case p10=>dsimp only[L2.KOf];first|k_is|k_exc|rfl);refine' (have q11:exmOne (L2.KOf KX) (.ref ?C1) (.ref ?C1)=some true:=?p11;?_);(case p11=>dsimp only[L2.KOf];first|k_is|k_exc|rfl);refine' (have q12:L4.ExK (L2.KOf KX) ?C2:=?p12;?_);(case p12=>dsimp only[L2.KOf];refine' ⟨?a,?b,?c,?d,?e,?f,?g,?h⟩;(case a|b|c|d|e|f|g|h=>k_is));refine' (have q13:L4.ExK (L2.KOf KX) ?C1:=?p13;?_);(case p13=>dsimp only[L2.KOf];refine' ⟨?a,?b,?c,?d,?e,?f,?g,?h⟩;(case a|b|c|d|e|f|g|h=>k_is));refine' (have q14:L4.ExK (L2.KOf KX) ?C0:=?p14;?_);(case p14=>dsimp only[L2.KOf];refine' ⟨?a,?b,?c,?d,?e,?f,?g,?h⟩;(case a|b|c|d|e|f|g|h=>k_is));refine' (have q15:kitOne (L2.KOf KX) (.ref ?C0) (.ref ?C0)=some true:=?p15;?_);(case p15=>dsimp only[L2.KOf];first|k_is|k_exc|rfl);refine' (have q16:kitOne (L2.KOf KX) (.ref ?C0) (.ref ?C2)=some false:=?p16;?_);(case p16=>dsimp only[L2.KOf];first|k_is|k_exc|rfl);refine' (have q17:kitOne (L2.KOf KX) (.ref ?C0) (.ref ?C1)=some false:=?p17;?_);(case p17=>dsimp only[L2.KOf];first|k_is|k_exc|rfl);refine' (have q18:kitOne (L2.KOf KX) (.ref ?C2) (.ref ?C0)=some true:=?p18;?_);(case p18=>dsimp only[L2.KOf];first|k_is|k_exc|rfl);refine' (have q19:kitOne (L2.KOf KX) (.ref ?C2) (.ref ?C2)=some true:=?p19;?_);(case p19=>dsimp only[L2.KOf];first|k_is|k_exc|rfl);refine' (have q20:kitOne (L2.KOf KX) (.ref ?C2) (.ref ?C1)=some false:=?p20;?_);(case p20=>dsimp only[L2.KOf];first|k_is|k_exc|rfl);refine' (have q21:kitOne (L2.KOf KX) (.ref ?C1) (.ref ?C0)=some true:=?p21;?_);(case p21=>dsimp only[L2.KOf];first|k_is|k_exc|rfl);refine' (have q22:kitOne (L2.KOf KX) (.ref ?C1) (.ref ?C2)=some false:=?p22;?_);(case p22=>dsimp only[L2.KOf];first|k_is|k_exc|rfl);refine' (have q23:kitOne (L2.KOf KX) (.ref ?C1) (.ref ?C1)=some true:=?p23;?_);(case p23=>dsimp only[L2.KOf];first|k_is|k_exc|rfl);refine' (have q24:nsIn (L2.KOf KX) mainGlobals "Claim" = some (some (.ref ?C4)):=?p24;?_);(case p24=>dsimp only[L2.KOf];first|k_is|k_exc|rfl);refine' (have q25:nsIn (L2.KOf KX) mainGlobals "Held" = some (some (.ref ?C5)):=?p25;?_);(case p25=>dsimp only[L2.KOf];first|k_is|k_exc|rfl);refine' (have q26:nsIn (L2.KOf KX) mainGlobals "Laid" = some (some (.ref ?C6)):=?p26;?_);(case p26=>dsimp only[L2.KOf];first|k_is|k_exc|rfl);refine' (have q27:nsIn (L2.KOf KX) mainGlobals "Taken" = some (some (.ref ?C7)):=?p27;?_);(case p27=>dsimp only[L2.KOf];first|k_is|k_exc|rfl);refine' (have q28:nsIn (L2.KOf KX) mainGlobals "Book" = some (some (.ref ?C8)):=?p28;?_);(case p28=>dsimp only[L2.KOf];first|k_is|k_exc|rfl);refine' (have q29:findIn (L2.KOf KX) (.ref ?C4) "__init__" = some (some (.ref ?C9)):=?p29;?_);(case p29=>dsimp only[L2.KOf];first|k_is|k_exc|rfl);refine' (have q30:L4.HasM (L2.KOf KX) ?C4 "__init__" "Claim.__init__" (L4.yno (K14.top 38) 0) ["self", "whole"] ?C9:=?p30;?_);(case p30=>dsimp only[L2.KOf];refine' L4.mkM K14.zat ?l ?c ?k;(case l|c|k=>k_is));refine' (have q31:findIn (L2.KOf KX) (.ref ?C8) "__init__" = some (some (.ref ?C22)):=?p31;?_);(case p31=>dsimp only[L2.KOf];first|k_is|k_exc|rfl);refine' (have q32:L4.HasM (L2.KOf KX) ?C8 "__init__" "Book.__init__" (L4.yno (K14.top 50) 0) ["self", "pots"] ?C22:=?p32;?_);(case p32=>dsimp only[L2.KOf];refine' L4.mkM K14.za9 ?l ?c ?k;(case l|c|k=>k_is));refine' (have q33:findIn (L2.KOf KX) (.ref ?C8) "next_day" = some (some (.ref ?C25)):=?p33;?_);(case p33=>dsimp only[L2.KOf];first|k_is|k_exc|rfl);refine' (have q34:L4.HasM (L2.KOf KX) ?C8 "next_day" "Book.next_day" (L4.yno (K14.top 50) 3) ["self"] ?C25:=?p34;?_);(case p34=>dsimp only[L2.KOf];refine' L4.mkM K14.zba ?l ?c ?k;(case l|c|k=>k_is));refine' (have q35:findIn (L2.KOf KX) (.ref ?C8) "check_pot" = some (some (.ref ?C23)):=?p35;?_);(case p35=>dsimp only[L2.KOf];first|k_is|k_exc|rfl);refine' (have q36:L4.HasM (L2.KOf KX) ?C8 "check_pot" "Book.check_pot" (L4.yno (K14.top 50) 1) ["self", "pot"] ?C23:=?p36;?_);(case p36=>dsimp only[L2.KOf];refine' L4.mkM K14.zar ?l ?c ?k;(case l|c|k=>k_is));refine' (have q37:findIn (L2.KOf KX) (.ref ?C8) "show" = some (some (.ref ?C26)):=?p37;?_);(case p37=>dsimp only[L2.KOf];first|k_is|k_exc|rfl);refine' (have q38:L4.HasM (L2.KOf KX) ?C8 "show" "Book.show" (L4.yno (K14.top 50) 4) ["self", "pot", "word"] ?C26:=?p38;?_);(case p38=>dsimp only[L2.KOf];refine' L4.mkM K14.zd6 ?l ?c ?k;(case l|c|k=>k_is));refine' (have q39:findIn (L2.KOf KX) (.ref ?C5) "may_strike" = some (some (.ref ?C12)):=?p39;?_);(case p39=>dsimp only[L2.KOf];first|k_is|k_exc|rfl);refine' (have q40:L4.HasM (L2.KOf KX) ?C5 "may_strike" "Held.may_strike" (L4.yno (K14.top 39) 2) ["self", "pot", "side", "day", "thing"] ?C12:=?p40;?_);(case p40=>dsimp only[L2.KOf];refine' L4.mkM K14.zag ?l ?c ?k;(case l|c|k=>k_is));refine' (have q41:findIn (L2.KOf KX) (.ref ?C6) "waits" = some (some (.ref ?C15)):=?p41;?_);(case p41=>dsimp only[L2.KOf];first|k_is|k_exc|rfl);refine' (have q42:L4.HasM (L2.KOf KX) ?C6 "waits" "Laid.waits" (L4.yno (K14.top 40) 2) ["self", "day"] ?C15:=?p42;?_);(case p42=>dsimp only[L2.KOf];refine' L4.mkM K14.zc6 ?l ?c ?k;(case l|c|k=>k_is));refine' (have q43:findIn (L2.KOf KX) (.ref ?C6) "may_strike" = some (some (.ref ?C17)):=?p43;?_);(case p43=>dsimp only[L2.KOf];first|k_is|k_exc|rfl);refine' (have q44:L4.HasM (L2.KOf KX) ?C6 "may_strike" "Laid.may_strike" (L4.yno (K14.top 40) 4) ["self", "pot", "side", "day", "thing"] ?C17:=?p44;?_);(case p44=>dsimp only[L2.KOf];refine' L4.mkM K14.zah ?l ?c ?k;(case l|c|k=>k_is));refine' (have q45:findIn (L2.KOf KX) (.ref ?C7) "may_strike" = some (some (.ref ?C21)):=?p45;?_);(case p45=>dsimp only[L2.KOf];first|k_is|k_exc|rfl);refine' (have q46:L4.HasM (L2.KOf KX) ?C7 "may_strike" "Taken.may_strike" (L4.yno (K14.top 41) 3) ["self", "pot", "side", "day", "thing"] ?C21:=?p46;?_);(case p46=>dsimp only[L2.KOf];refine' L4.mkM K14.zaa ?l ?c ?k;(case l|c|k=>k_is));refine' (have q47:findIn (L2.KOf KX) (.ref ?C7) "__init__" = some (some (.ref ?C18)):=?p47;?_);(case p47=>dsimp only[L2.KOf];first|k_is|k_exc|rfl);refine' (have q48:L4.HasM (L2.KOf KX) ?C7 "__init__" "Taken.__init__" (L4.yno (K14.top 41) 0) ["self", "whole", "side"] ?C18:=?p48;?_);(case p48=>dsimp only[L2.KOf];refine' L4.mkM K14.zau ?l ?c ?k;(case l|c|k=>k_is));refine' (have q49:findIn (L2.KOf KX) (.ref ?C8) "strike" = some (some (.ref ?C29)):=?p49;?_);(case p49=>dsimp only[L2.KOf];first|k_is|k_exc|rfl);refine' (have q50:L4.HasM (L2.KOf KX) ?C8 "strike" "Book.strike" (L4.yno (K14.top 50) 7) ["self", "pot", "side", "thing"] ?C29:=?p50;?_);(case p50=>dsimp only[L2.KOf];refine' L4.mkM K14.zch ?l ?c ?k;(case l|c|k=>k_is));refine' (have q51:findIn (L2.KOf KX) (.ref ?C8) "may_lie" = some (some (.ref ?C27)):=?p51;?_);(case p51=>dsimp only[L2.KOf];first|k_is|k_exc|rfl);refine' (have q52:L4.HasM (L2.KOf KX) ?C8 "may_lie" "Book.may_lie" (L4.yno (K14.top 50) 5) ["self", "pot", "side", "stand", "agreement"] ?C27:=?p52;?_);(case p52=>dsimp only[L2.KOf];refine' L4.mkM K14.zbw ?l ?c ?k;(case l|c|k=>k_is));refine' (have q53:findIn (L2.KOf KX) (.ref ?C6) "__init__" = some (some (.ref ?C13)):=?p53;?_);(case p53=>dsimp only[L2.KOf];first|k_is|k_exc|rfl);refine' (have q54:L4.HasM (L2.KOf KX) ?C6 "__init__" "Laid.__init__" (L4.yno (K14.top 40) 0) ["self", "whole", "side", "stand", "day", "wait"] ?C13:=?p54;?_);(case p54=>dsimp only[L2.KOf];refine' L4.mkM K14.zbb ?l ?c ?k;(case l|c|k=>k_is));refine' (have q55:findIn (L2.KOf KX) (.ref ?C8) "lay" = some (some (.ref ?C28)):=?p55;?_);(case p55=>dsimp only[L2.KOf];first|k_is|k_exc|rfl);refine' (have q56:L4.HasMD (L2.KOf KX) ?C8 "lay" "Book.lay" (L4.yno (K14.top 50) 6) ["self", "pot", "side", "stand", "agreement"] [.none] ?C28:=?p56;?_);(case p56=>dsimp only[L2.KOf];refine' L4.ysl K14.zfs ?l ?c ?d;(case l|c|d=>k_is));refine' (have q57:findIn (L2.KOf KX) (.ref ?C8) "today" = some (some (.ref ?C24)):=?p57;?_);(case p57=>dsimp only[L2.KOf];first|k_is|k_exc|rfl);refine' (have q58:L4.HasM (L2.KOf KX) ?C8 "today" "Book.today" (L4.yno (K14.top 50) 2) ["self"] ?C24:=?p58;?_);(case p58=>dsimp only[L2.KOf];refine' L4.mkM K14.zc5 ?l ?c ?k;(case l|c|k=>k_is));refine' (have q59:findIn (L2.KOf KX) (.ref ?C5) "told" = some (some (.ref ?C10)):=?p59;?_);(case p59=>dsimp only[L2.KOf];first|k_is|k_exc|rfl);refine' (have q60:L4.HasM (L2.KOf KX) ?C5 "told" "Held.told" (L4.yno (K14.top 39) 0) ["self"] ?C10:=?p60;?_);(case p60=>dsimp only[L2.KOf];refine' L4.mkM K14.zd8 ?l ?c ?k;(case l|c|k=>k_is));refine' (have q61:findIn (L2.KOf KX) (.ref ?C6) "told" = some (some (.ref ?C14)):=?p61;?_);(case p61=>dsimp only[L2.KOf];first|k_is|k_exc|rfl);refine' (have q62:L4.HasM (L2.KOf KX) ?C6 "told" "Laid.told" (L4.yno (K14.top 40) 1) ["self"] ?C14:=?p62;?_);(case p62=>dsimp only[L2.KOf];refine' L4.mkM K14.zd9 ?l ?c ?k;(case l|c|k=>k_is));refine' (have q63:findIn (L2.KOf KX) (.ref ?C7) "told" = some (some (.ref ?C19)):=?p63;?_);(case p63=>dsimp only[L2.KOf];first|k_is|k_exc|rfl);refine' (have q64:L4.HasM (L2.KOf KX) ?C7 "told" "Taken.told" (L4.yno (K14.top 41) 1) ["self"] ?C19:=?p64;?_);(case p64=>dsimp only[L2.KOf];refine' L4.mkM K14.zc7 ?l ?c ?k;(case l|c|k=>k_is));refine' (have q65:findIn (L2.KOf KX) (.ref ?C8) "told" = some (some (.ref ?C30)):=?p65;?_);(case p65=>dsimp only[L2.KOf];first|k_is|k_exc|rfl);refine' (have q66:L4.HasM (L2.KOf KX) ?C8 "told" "Book.told" (L4.yno (K14.top 50) 8) ["self", "pot"] ?C30:=?p66;?_);(case p66=>dsimp only[L2.KOf];refine' L4.mkM K14.zd7 ?l ?c ?k;(case l|c|k=>k_is));refine' (have q67:findIn (L2.KOf KX) (.ref ?C8) "shown_for" = some (some (.ref ?C31)):=?p67;?_);(case p67=>dsimp only[L2.KOf];first|k_is|k_exc|rfl);refine' (have q68:L4.HasM (L2.KOf KX) ?C8 "shown_for" "Book.shown_for" (L4.yno (K14.top 50) 9) ["self", "pot"] ?C31:=?p68;?_);(case p68=>dsimp only[L2.KOf];refine' L4.mkM K14.zas ?l ?c ?k;(case l|c|k=>k_is));refine' (have q69:findIn (L2.KOf KX) (.ref ?C8) "all_shown" = some (some (.ref ?C35)):=?p69;?_);(case p69=>dsimp only[L2.KOf];first|k_is|k_exc|rfl);refine' (have q70:L4.HasM (L2.KOf KX) ?C8 "all_shown" "Book.all_shown" (L4.yno (K14.top 50) 13) ["self"] ?C35:=?p70;?_);(case p70=>dsimp only[L2.KOf];refine' L4.mkM K14.zaq ?l ?c ?k;(case l|c|k=>k_is));refine' (have q71:L2.Cls (L2.KOf KX) ?C8:=?p71;?_);(case p71=>dsimp only[L2.KOf];refine' ⟨?a,?b,?c,?d⟩;(case a|b|c|d=>k_is));refine' (have q72:L2.ydj (L2.KOf KX) ?C8 "pots":=?p72;?_);(case p72=>dsimp only[L2.KOf];first|k_is|k_exc|rfl);refine' (have q73:L2.ydj (L2.KOf KX) ?C8 "day":=?p73;?_);(case p73=>dsimp only[L2.KOf];first|k_is|k_exc|rfl);refine' (have q74:L2.Cls (L2.KOf KX) ?C6:=?p74;?_);(case p74=>dsimp only[L2.KOf];refine' ⟨?a,?b,?c,?d⟩;(case a|b|c|d=>k_is));refine' (have q75:L2.ydj (L2.KOf KX) ?C6 "day":=?p75;?_);(case p75=>dsimp only[L2.KOf];first|k_is|k_exc|rfl);refine' (have q76:L2.Cls (L2.KOf KX) ?C7:=?p76;?_);(case p76=>dsimp only[L2.KOf];refine' ⟨?a,?b,?c,?d⟩;(case a|b|c|d=>k_is));refine' (have q77:L2.ydj (L2.KOf KX) ?C7 "whole":=?p77;?_);(case p77=>dsimp only[L2.KOf];first|k_is|k_exc|rfl);refine' (have q78:L2.ydj (L2.KOf KX) ?C6 "whole":=?p78;?_);(case p78=>dsimp only[L2.KOf];first|k_is|k_exc|rfl);refine' (have q79:L2.Cls (L2.KOf KX) ?C5:=?p79;?_);(case p79=>dsimp only[L2.KOf];refine' ⟨?a,?b,?c,?d⟩;(case a|b|c|d=>k_is));refine' (have q80:L2.ydj (L2.KOf KX) ?C5 "whole":=?p80;?_);(case p80=>dsimp only[L2.KOf];first|k_is|k_exc|rfl);refine' (have q81:L2.Cls (L2.KOf KX) ?C4:=?p81;?_);(case p81=>dsimp only[L2.KOf];refine' ⟨?a,?b,?c,?d⟩;(case a|b|c|d=>k_is));refine' (have q82:L2.ydj (L2.KOf KX) ?C4 "whole":=?p82;?_);(case p82=>dsimp only[L2.KOf];first|k_is|k_exc|rfl);refine' (have q83:L2.Mk (L2.KOf KX) ?C5 ?C9:=?p83;?_);(case p83=>dsimp only[L2.KOf];refine' ⟨?a,?b,?c,?d⟩;(case a|b|c|d=>k_is));refine' (have q84:L2.ydj (L2.KOf KX) ?C8 "claims":=?p84;?_);(case p84=>dsimp only[L2.KOf];first|k_is|k_exc|rfl);refine' (have q85:L2.ydj (L2.KOf KX) ?C8 "shown":=?p85;?_);(case p85=>dsimp only[L2.KOf];first|k_is|k_exc|rfl);refine' (have q86:L2.Mk (L2.KOf KX) ?C8 ?C22:=?p86;?_);(case p86=>dsimp only[L2.KOf];refine' ⟨?a,?b,?c,?d⟩;(case a|b|c|d=>k_is));refine' (have q87:L2.Meth (L2.KOf KX) ?C8 "next_day" ?C25:=?p87;?_);(case p87=>dsimp only[L2.KOf];refine' ⟨?a,?b,?c⟩;(case a|b|c=>k_is));refine' (have q88:L2.Meth (L2.KOf KX) ?C8 "check_pot" ?C23:=?p88;?_);(case p88=>dsimp only[L2.KOf];refine' ⟨?a,?b,?c⟩;(case a|b|c=>k_is));refine' (have q89:L2.Meth (L2.KOf KX) ?C8 "show" ?C26:=?p89;?_);(case p89=>dsimp only[L2.KOf];refine' ⟨?a,?b,?c⟩;(case a|b|c=>k_is));refine' (have q90:L2.ydj (L2.KOf KX) ?C7 "side":=?p90;?_);(case p90=>dsimp only[L2.KOf];first|k_is|k_exc|rfl);refine' (have q91:L2.ydj (L2.KOf KX) ?C6 "side":=?p91;?_);(case p91=>dsimp only[L2.KOf];first|k_is|k_exc|rfl);refine' (have q92:L2.ydj (L2.KOf KX) ?C6 "wait":=?p92;?_);(case p92=>dsimp only[L2.KOf];first|k_is|k_exc|rfl);refine' (have q93:L2.Meth (L2.KOf KX) ?C6 "waits" ?C15:=?p93;?_);(case p93=>dsimp only[L2.KOf];refine' ⟨?a,?b,?c⟩;(case a|b|c=>k_is));refine' (have q94:L2.ydj (L2.KOf KX) ?C6 "stand":=?p94;?_);(case p94=>dsimp only[L2.KOf];first|k_is|k_exc|rfl);refine' (have q95:L2.Meth (L2.KOf KX) ?C7 "may_strike" ?C21:=?p95;?_);(case p95=>dsimp only[L2.KOf];refine' ⟨?a,?b,?c⟩;(case a|b|c=>k_is));refine' (have q96:L2.Meth (L2.KOf KX) ?C6 "may_strike" ?C17:=?p96;?_);(case p96=>dsimp only[L2.KOf];refine' ⟨?a,?b,?c⟩;(case a|b|c=>k_is));refine' (have q97:L2.Meth (L2.KOf KX) ?C5 "may_strike" ?C12:=?p97;?_);(case p97=>dsimp only[L2.KOf];refine' ⟨?a,?b,?c⟩;(case a|b|c=>k_is));refine' (have q98:specialIn (L2.KOf KX) (.ref ?C4) (Str.ofString "__getattribute__")=some (some (.builtin "type.__getattribute__")):=?p98;?_);(case p98=>dsimp only[L2.KOf];first|k_is|k_exc|rfl);refine' (have q99:readsIn (L2.KOf KX) ?C4 (.type "type")=true:=?p99;?_);(case p99=>dsimp only[L2.KOf];first|k_is|k_exc|rfl);refine' (have q100:findCls (L2.KOf KX) (.ref ?C4) (.type "type") "__init__" = some (.val (.ref ?C9)):=?p100;?_);(case p100=>dsimp only[L2.KOf];first|k_is|k_exc|rfl);refine' (have q101:keepIn (L2.KOf KX) (.ref ?C9)=true:=?p101;?_);(case p101=>dsimp only[L2.KOf];first|k_is|k_exc|rfl);refine' (have q102:L2.Mk (L2.KOf KX) ?C7 ?C18:=?p102;?_);(case p102=>dsimp only[L2.KOf];refine' ⟨?a,?b,?c,?d⟩;(case a|b|c|d=>k_is));refine' (have q103:L2.Meth (L2.KOf KX) ?C8 "strike" ?C29:=?p103;?_);(case p103=>dsimp only[L2.KOf];refine' ⟨?a,?b,?c⟩;(case a|b|c=>k_is));refine' (have q104:L4.InK (L2.KOf KX) ?C8:=?p104;?_);(case p104=>dsimp only[L2.KOf];refine' ⟨⟨?a,?b,?c,?d⟩,?e,?f,?g,?h⟩;(case a|b|c|d|e|f|g|h=>k_is));refine' (have q105:kitOne (L2.KOf KX) (.ref ?C8) (.ref ?C5)=some false:=?p105;?_);(case p105=>dsimp only[L2.KOf];first|k_is|k_exc|rfl);refine' (have q106:L4.InK (L2.KOf KX) ?C7:=?p106;?_);(case p106=>dsimp only[L2.KOf];refine' ⟨⟨?a,?b,?c,?d⟩,?e,?f,?g,?h⟩;(case a|b|c|d|e|f|g|h=>k_is));refine' (have q107:kitOne (L2.KOf KX) (.ref ?C7) (.ref ?C5)=some false:=?p107;?_);(case p107=>dsimp only[L2.KOf];first|k_is|k_exc|rfl);refine' (have q108:L4.InK (L2.KOf KX) ?C6:=?p108;?_);(case p108=>dsimp only[L2.KOf];refine' ⟨⟨?a,?b,?c,?d⟩,?e,?f,?g,?h⟩;(case a|b|c|d|e|f|g|h=>k_is));refine' (have q109:kitOne (L2.KOf KX) (.ref ?C6) (.ref ?C5)=some false:=?p109;?_);(case p109=>dsimp only[L2.KOf];first|k_is|k_exc|rfl);refine' (have q110:L4.InK (L2.KOf KX) ?C5:=?p110;?_);(case p110=>dsimp only[L2.KOf];refine' ⟨⟨?a,?b,?c,?d⟩,?e,?f,?g,?h⟩;(case a|b|c|d|e|f|g|h=>k_is));refine' (have q111:kitOne (L2.KOf KX) (.ref ?C5) (.ref ?C5)=some true:=?p111;?_);(case p111=>dsimp only[L2.KOf];first|k_is|k_exc|rfl);refine' (have q112:L2.Meth (L2.KOf KX) ?C8 "may_lie" ?C27:=?p112;?_);(case p112=>dsimp only[L2.KOf];refine' ⟨?a,?b,?c⟩;(case a|b|c=>k_is));refine' (have q113:L2.Mk (L2.KOf KX) ?C6 ?C13:=?p113;?_);(case p113=>dsimp only[L2.KOf];refine' ⟨?a,?b,?c,?d⟩;(case a|b|c|d=>k_is));refine' (have q114:L2.Meth (L2.KOf KX) ?C8 "lay" ?C28:=?p114;?_);(case p114=>dsimp only[L2.KOf];refine' ⟨?a,?b,?c⟩;(case a|b|c=>k_is));refine' (have q115:L2.Meth (L2.KOf KX) ?C8 "today" ?C24:=?p115;?_);(case p115=>dsimp only[L2.KOf];refine' ⟨?a,?b,?c⟩;(case a|b|c=>k_is));refine' (have q116:L2.Meth (L2.KOf KX) ?C7 "told" ?C19:=?p116;?_);(case p116=>dsimp only[L2.KOf];refine' ⟨?a,?b,?c⟩;(case a|b|c=>k_is));refine' (have q117:L2.Meth (L2.KOf KX) ?C6 "told" ?C14:=?p117;?_);(case p117=>dsimp only[L2.KOf];refine' ⟨?a,?b,?c⟩;(case a|b|c=>k_is));refine' (have q118:L2.Meth (L2.KOf KX) ?C5 "told" ?C10:=?p118;?_);(case p118=>dsimp only[L2.KOf];refine' ⟨?a,?b,?c⟩;(case a|b|c=>k_is));refine' (have q119:L2.Meth (L2.KOf KX) ?C8 "told" ?C30:=?p119;?_);(case p119=>dsimp only[L2.KOf];refine' ⟨?a,?b,?c⟩;(case a|b|c=>k_is));refine' (have q120:L2.Meth (L2.KOf KX) ?C8 "shown_for" ?C31:=?p120;?_);(case p120=>dsimp only[L2.KOf];refine' ⟨?a,?b,?c⟩;(case a|b|c=>k_is));refine' (have q121:L2.Meth (L2.KOf KX) ?C8 "all_shown" ?C35:=?p121;?_);(case p121=>dsimp only[L2.KOf];refine' ⟨?a,?b,?c⟩;(case a|b|c=>k_is));refine⟨fun n=>([?C0,?C1,?C2,0,?C4,?C5,?C6,?C7,?C8,?C9,?C10,0,?C12,?C13,?C14,?C15,0,?C17,?C18,?C19,0,?C21,?C22,?C23,?C24,?C25,?C26,?C27,?C28,?C29,?C30,?C31,0,0,0,?C35]:List Addr).getD n 0,?_⟩;exact K14.yh1 ⟨h__law_cell_at,h__law_mixed,h_is_whole,h_is_between,h_is_hand,h_makes_a_pot,h_checked_pots,q30,h_whole_of,q32,h__law_struck,h__law_small_stand,h__law_laid,h__law_deed,q34,q36,h_is_word,q38,h_is_side,h_check_side,q40,h_other_side,q42,h_is_number,h_is_pot,h_is_of_a_side,h_is_day,h_is_amount,h_is_tie,h_are_ties,h_are_shares,h_is_stand,h_is_thing,q44,q46,q48,q50,h_deals,h_is_stand_of,h_is_agreed,h_stand,h_first,q52,q54,q56,h__law_done,h__law_is_stand,h__law_due,q58,q60,q62,q64,q66,q68,q70,h__law_stands,h_law,n_all,n_bool,n_dict,n_enumerate,n_int,n_isinstance,n_len,n_list,n_min,n_range,n_set,n_sorted,n_str,n_sum,n_tuple,c_MOST_AMOUNT,c_MOST_COIN,c_MOST_DAY,c_MOST_HAND,c_MOST_NUMBER,c_MOST_POT,c_MOST_SHARE,c_MOST_TIES,c_MOST_WAIT,c_MOST_WORD,mg_of KX G q0,q1,mg_of KX G q2,q3,mg_of KX G q4,q5,q6,q7,q8,q9,q10,q11,q12,q13,q14,q15,q16,q17,q18,q19,q20,q21,q22,q23,q71,q72,q73,q74,q75,q76,q77,q78,q79,q80,q81,q82,mg_of KX G q25,q83,q84,q85,mg_of KX G q28,q86,q87,q88,q89,q90,q91,q92,q93,q94,q95,q96,q97,mg_of KX G q24,q98,q99,q100,q101,mg_of KX G q27,q102,q103,q104,q105,q106,q107,q108,q109,q110,q111,q112,mg_of KX G q26,q113,q114,q115,q116,q117,q118,q119,q120,q121⟩
