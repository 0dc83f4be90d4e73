import PyProof.Rows.All
import Wide.All
import OpenK.AllK
import Wide.FinOn
import Lean
import PyProof.EqAt
import PyProof.EqKinds
import PyProof.TupleCall
import PyProof.NeKinds
import PyProof.NsDelKeeps
import KE.KTryMore
import PyProof.WalksMore
import PyProof.Rows.SetFrom
import KE.KEqDict
import PyProof.ToksMono
import PyProof.StrCalls6
import PyProof.StrBlock2
import PyProof.SliceStr2
import PyProof.StrLawsTight
import PyProof.InstStoreFacts
import PyProof.Rows.FStr
import PyProof.FactsAll.set
import KE.KDictLaws
import KE.KIntText
import PyProof.Rows.StrWeight2
import PyProof.StrWalks
import PyProof.StrBlockH
import PyProof.WalksEnum
import PyProof.ZipIter
import PyProof.EnumMake
import PyProof.FitsReplace
import PyProof.StrLawsIn
import PyProof.Rows.SortWalk
import PyProof.DictUpdate
import KE.KDictList
import KE.KDictSum
import KE.KPairComp
import PyProof.FactsAll.dict
import KE.KMinKey
import KE.KLam
import PyProof.DictWalks
import PyProof.DictValues
import PySem.Challenge.RW_sidebook_k56_a_hall_is_made
set_option Elab.async false
set_option linter.all false
set_option maxRecDepth 100000
def PySem.W.Fast.tw12265664062215373055:Nat:=0
def PySem.W.Fast.tw8147001895205612617:Nat:=0
def PySem.W.Fast.tw4757137825852463570:Nat:=0
def PySem.W.Fast.tw15075628290341227641:Nat:=0
def PySem.W.Fast.tw10145791963306895909:Nat:=0
def PySem.W.Fast.tw2938839083024747523:Nat:=0
def PySem.W.Fast.tw17062212369932587046:Nat:=0
def PySem.W.Fast.tw7954457055813235414:Nat:=0
def PySem.W.Fast.tw587471673794733951:Nat:=0
def PySem.W.Fast.tw5889798444645118568:Nat:=0
def PySem.W.Fast.tw16444114730857196074:Nat:=0
def PySem.W.Fast.tw15228928856397379808:Nat:=0
def PySem.W.Fast.tw16897240595472349368:Nat:=0
def PySem.W.Fast.tw15250353091434647337:Nat:=0
def PySem.W.Fast.tw10352606818951716636:Nat:=0
def PySem.W.Fast.tw9544472811730444448:Nat:=0
def PySem.W.Fast.tw16065437144970478287:Nat:=0
def PySem.W.Fast.tw2890254289223626786:Nat:=0
def PySem.W.Fast.tw4090591085099682961:Nat:=0
def PySem.W.Fast.tw7199105536647114077:Nat:=0
def PySem.W.Fast.tw10118322637674466487:Nat:=0
def PySem.W.Fast.tw7459283748875767411:Nat:=0
def PySem.W.Fast.tw2462945009434153461:Nat:=0
def PySem.W.Fast.tw9772434584240038821:Nat:=0
def PySem.W.Fast.tw17353540396873291329:Nat:=0
def PySem.W.Fast.tw16186305927309826506:Nat:=0
def PySem.W.Fast.tw18178331197972336048:Nat:=0
def PySem.W.Fast.tw5558135821835182759:Nat:=0
def PySem.W.Fast.tw10442110917971958792:Nat:=0
def PySem.W.Fast.tw4617026887703462943:Nat:=0
namespace L2
open PySem PySem.Spec PyProof.Rows
abbrev Key:=Sum Int Str
def ykk:Key->Value->Bool
 | .inl k,v=>Value.isInt k v
 | .inr x,v=>Value.isStrOf x v
def yqp(w:World):Key->Int
 | .inl k=>hashInt k
 | .inr x=>hashStr w x
theorem zem:∀ {k:Key} {v:Value},ykk k v=true->(∃ i t,k=Sum.inl i/\v=Value.int i t)\/(∃ x t,k=Sum.inr x/\v=Value.str x t)
 | .inl i,v,h=>by
  obtain⟨t,e⟩:=Value.isInt_shape (k:=i) (v:=v) h;exact .inl ⟨i,t,rfl,e⟩
 | .inr x,v,h=>by
  obtain⟨t,e⟩:=Value.isStrOf_shape (x:=x) (v:=v) h;exact .inr ⟨x,t,rfl,e⟩
theorem zjd(i:Int)(t:Tok):ykk (.inl i) (.int i t)=true:=by simp[ykk,Value.isInt]
theorem zje(x:Str)(t:Tok):ykk (.inr x) (.str x t)=true:=by simp[ykk,Value.isStrOf]
theorem ydt(a b:Int):decide ((Sum.inl a:Key)=Sum.inl b)=(a == b):=by
 by_cases e:a=b
 ·subst e;simp
 ·have h:¬ (Sum.inl a:Key)=Sum.inl b:=fun q=>e (Sum.inl.inj q);rw[decide_eq_false h];exact(beq_eq_false_iff_ne.mpr e).symm
theorem ydx(a b:Str):decide ((Sum.inr a:Key)=Sum.inr b)=decide (a=b):=by
 by_cases e:a=b
 ·subst e;simp
 ·have h:¬ (Sum.inr a:Key)=Sum.inr b:=fun q=>e (Sum.inr.inj q);rw[decide_eq_false h,decide_eq_false e]
theorem ydu(a:Int)(b:Str):decide ((Sum.inl a:Key)=Sum.inr b)=false:=decide_eq_false (fun q=>nomatch q)
theorem ydw(a:Str)(b:Int):decide ((Sum.inr a:Key)=Sum.inl b)=false:=decide_eq_false (fun q=>nomatch q)
def zvs(prog:Program)(w:World):PySem.KeyKind prog w Key where
 is:=ykk
 hash:=yqp w
 inj:=fun v a b ha hb=>by
  rcases zem ha with⟨i,t,rfl,rfl⟩|⟨x,t,rfl,rfl⟩
  ·rcases zem hb with⟨j,u,rfl,e⟩|⟨y,u,rfl,e⟩
   ·injection e with e1 _;rw[e1]
   ·exact nomatch e
  ·rcases zem hb with⟨j,u,rfl,e⟩|⟨y,u,rfl,e⟩
   ·exact nomatch e
   ·injection e with e1 _;rw[e1]
 byValue:=fun k v h=>by
  rcases zem h with⟨i,t,rfl,rfl⟩|⟨x,t,rfl,rfl⟩<;>rfl
 pyHash:=fun hv h=>by
  rcases zem hv with⟨i,t,rfl,rfl⟩|⟨x,t,rfl,rfl⟩
  ·exact wpAny_pyHash_int h
  ·exact wpAny_pyHash_str h
 eqBool:=fun hu hv h=>by
  rcases zem hu with⟨i,t,rfl,rfl⟩|⟨x,t,rfl,rfl⟩
  ·rcases zem hv with⟨j,u,rfl,rfl⟩|⟨y,u,rfl,rfl⟩
   ·rw[ydt]at h;exact wpAny_eqBool_int h
   ·rw[ydu]at h;exact SeqAt.EqAt.int_str i t y u _ _ _ _ h
  ·rcases zem hv with⟨j,u,rfl,rfl⟩|⟨y,u,rfl,rfl⟩
   ·rw[ydw]at h;exact SeqAt.EqAt.str_int x t j u _ _ _ _ h
   ·rw[ydx]at h;exact wpAny_eqBool_str h
 «strs»:=fun k x t v h=>by
  rcases zem h with⟨i,u,rfl,e⟩|⟨y,u,rfl,e⟩
  ·exact nomatch e
  ·injection e with e1 _;subst e1;cases v<;>rfl
theorem zgg(prog:Program)(w:World)(k:Key)(v:Value):(zvs prog w).is k v=ykk k v:=rfl
theorem zeq(prog:Program)(w:World)(i:Int)(t:Tok):(zvs prog w).is (.inl i) (.int i t)=true:=zjd i t
theorem zer(prog:Program)(w:World)(x:Str)(t:Tok):(zvs prog w).is (.inr x) (.str x t)=true:=zje x t
inductive V where
 |non|bl (b:Bool)|int (i:Int)|str (x:Str)|byt (b:Array UInt8)|flt (b:UInt64)|ref (a:Addr)|ty (n:String)
 deriving DecidableEq
def yoq:V->Value->Prop
 | .non,u=>u=Value.none
 | .bl b,u=>u=Value.bool b
 | .int i,u=>∃ t,u=Value.int i t
 | .str x,u=>∃ t,u=Value.str x t
 | .byt b,u=>∃ t,u=Value.bytes b t
 | .flt b,u=>∃ t,u=Value.float b t
 | .ref a,u=>u=Value.ref a
 | .ty n,u=>u=Value.type n
abbrev yo0:List V->List Value->Prop:=Paired yoq
theorem yo0.length{xs:List V}{us:List Value}(r:yo0 xs us):xs.length=us.length:=Paired.length r
theorem yo0.get:∀ {xs:List V} {us:List Value} {i:Nat} {x:V},yo0 xs us->xs[i]?=some x->∃ u,us[i]?=some u/\yoq x u
 |_,_,_,_,.nil,e=>by simp at e
 |_,_,0,_,.cons r _,e=>by simp at e;subst e;exact⟨_,rfl,r⟩
 |_,_,i+1,x,.cons _ t,e=>by
  obtain⟨u,h1,h2⟩:=yo0.get (i:=i) (x:=x) t (by simpa using e);exact⟨u,by simpa using h1,h2⟩
theorem yo0.set{x:V}{u:Value}(r:yoq x u):∀ {xs:List V} {us:List Value} (i:Nat),yo0 xs us->yo0 (xs.set i x) (us.set i u)
 |_,_,_,.nil=>.nil
 |_,_,0,.cons _ t=>.cons r t
 |_,_,i+1,.cons q t=>.cons q (yo0.set r i t)
theorem yo0.append:∀ {xs ys:List V} {us ws:List Value},yo0 xs us->yo0 ys ws->yo0 (xs++ys) (us++ws)
 |_,_,_,_,.nil,s=>s
 |_,_,_,_,.cons r t,s=>.cons r (yo0.append t s)
theorem yo0.take:∀ {xs:List V} {us:List Value} (n:Nat),yo0 xs us->yo0 (xs.take n) (us.take n)
 |_,_,0,_=>.nil
 |_,_,_+1,.nil=>.nil
 |_,_,n+1,.cons r t=>.cons r (yo0.take n t)
theorem yo0.drop:∀ {xs:List V} {us:List Value} (n:Nat),yo0 xs us->yo0 (xs.drop n) (us.drop n)
 |_,_,0,r=>r
 |_,_,_+1,.nil=>.nil
 |_,_,n+1,.cons _ t=>yo0.drop n t
theorem yo0.none_of:∀ {xs:List V} {us:List Value} {i:Nat},yo0 xs us->xs[i]?=none->us[i]?=none:=fun {xs us i} r e=>by
 have h1:=r.length;have h2:xs.length<=i:=List.getElem?_eq_none_iff.mp e;exact List.getElem?_eq_none_iff.mpr (by omega)
def yop:Option V->Option Value->Prop
 |some v,some u=>yoq v u
 |none,none=>True
 |_,_=>False
def KV{κ:Type}:List (κ × V)->List (κ × Value)->Prop:=Paired fun(p:κ × V) (q:κ × Value)=>p.1=q.1/\yoq p.2 q.2
def kV:Key->V
 | .inl i=>.int i
 | .inr x=>.str x
inductive HO where
 |lst (xs:List V)
 |tup (xs:List V)
 |dK (kvs:List (Key × V))|dT (kvs:List (List Key × V))
 |set (S:Int->Bool) (n:Nat)
 |ins (C dx:Addr) (fs:List (Str × V))
 |own (x:Addr)
 |xd (fs:List (Str × V))
 |met (f x:Addr)
 |rng (lo hi:Int)
 |frz (o:Obj) (u:HO)
 |tbl (ps:Array Value)
 |ext (φ:Heap->Prop)
abbrev Hp:=Addr->Option HO
def upd(H:Hp)(a:Addr)(o:HO):Hp:=fun b=>if b=a then some o else H b
theorem zre{H:Hp}{a:Addr}{o:HO}:upd H a o a=some o:=by unfold upd;rw[if_pos rfl]
theorem yhv{H:Hp}{a b:Addr}{o:HO}(h:b≠a):upd H a o b=H b:=by unfold upd;rw[if_neg h]
theorem yle{H:Hp}{a b:Addr}{o u:HO}(h:H a=some o)(h':H b=some u)(d:o≠u):a≠b:=by
 intro e;subst e;rw[h]at h';exact d (Option.some.inj h')
theorem zgj{H:Hp}{a b:Addr}{o:HO}(h:H a=some o)(h':H b=none):a≠b:=by
 intro e;subst e;rw[h]at h';cases h'
section
variable(P:Program)(w:World)
def yh5(H:Hp)(h:Heap)(a:Addr):HO->Prop
 | .lst xs=>xs.length<=sizeLine/\∃ (its:List Value) (n:Nat),yo0 xs its/\h.get? a=some { cls:=.type "list",data:=.seq its.toArray n }
 | .tup xs=>xs.length<=sizeLine/\∃ its:List Value,yo0 xs its/\IsTup h a its.toArray
 | .dK kvs=>kvs.length<=sizeLine/\(a == sysModules)=false/\∃ vs,KV kvs vs/\h.DictOf (zvs P w) a vs
 | .dT kvs=>kvs.length<=sizeLine/\(a == sysModules)=false/\∃ xs:List (List Key × Addr × Value),
   Paired (fun(p:List Key × V) (q:List Key × Addr × Value)=>p.1=q.1/\H q.2.1=some (.tup (p.1.map kV))/\yoq p.2 q.2.2) kvs xs/\
   ∃ o es ep,h.get? a=some o/\o.ExactDict/\o.data=.dict es ep/\es.toList=xs.map (entryOfKey (tupleKind (zvs P w)))/\(xs.map (·.1)).Nodup
 | .set S n=>h.SetOf (intKind P w) a S n
 | .ins C dx fs=>H dx=some (.own a)/\fs.length<=1000/\dx≠a/\h.get? a=some (W.instObj C dx)/\
   ∃ mA,h.Ns1 dx mA/\(∀ f,yop (fs.lookup f) (mA f))/\PySem.Within mA (fs.map (·.1))
 | .own _=>∃ o,h.get? a=some o
 | .xd fs=>∃ mA,h.Ns1 a mA/\∀ f,yop (fs.lookup f) (mA f)
 | .rng lo hi=>∃ t u v,h.get? a=some { cls:=.type "range",data:=.fields #[.int lo t,.int hi u,.int 1 v] }
 | .frz o u=>h.get? a=some o/\yh5 H h a u
 | .tbl ps=>h.get? a=some { cls:=.none,data:=.fields ps }
 | .met f x=>h.get? a=some (W.methodObj (.ref f) (.ref x))
 | .ext φ=>φ h/\(∃ o,h.get? a=some o)/\∀ h1 h2:Heap,φ h1->(∀ o,h1.get? a=some o->h2.get? a=some o)->φ h2
def HOk(H:Hp)(h:Heap):Prop:=∀ a o,H a=some o->yh5 P w H h a o
end
section
variable{P:Program}{w:World}{H H':Hp}{h h':Heap}{a:Addr}{o:HO}
theorem yh5.lt(x:yh5 P w H h a o):a<h.objs.size:=by
 cases o with
 |lst xs=>obtain⟨_,_,_,_,e⟩:=x;exact Heap.lt_size e
 |tup xs=>obtain⟨_,_,_,p⟩:=x;exact p.lt
 |dK kvs=>obtain⟨_,_,_,_,o,_,_,e,_⟩:=x;exact Heap.lt_size e
 |dT kvs=>obtain⟨_,_,_,_,o,_,_,e,_⟩:=x;exact Heap.lt_size e
 |set S n=>obtain⟨o,_,_,_,e,_⟩:=x;exact Heap.lt_size e
 |ins C dx fs=>obtain⟨_,_,_,e,_⟩:=x;exact Heap.lt_size e
 |own y=>obtain⟨_,e⟩:=x;exact Heap.lt_size e
 |xd fs=>obtain⟨_,⟨_,_,_,e,_⟩,_⟩:=x;exact Heap.lt_size e
 |rng lo hi=>obtain⟨_,_,_,e⟩:=x;exact Heap.lt_size e
 |frz ob u=>obtain⟨e,_⟩:=x;exact Heap.lt_size e
 |tbl ps=>exact Heap.lt_size (show h.get? a=some _ from x)
 |met f y=>exact Heap.lt_size (show h.get? a=some _ from x)
 |ext φ=>obtain⟨_,⟨_,e⟩,_⟩:=x;exact Heap.lt_size e
theorem Paired.mapP{α β:Type}{F G:α->β->Prop}:∀ {l₁:List α} {l₂:List β},Paired F l₁ l₂->(∀ a b,F a b->G a b)->Paired G l₁ l₂
 |_,_,.nil,_=>.nil
 |_,_,.cons r t,f=>.cons (f _ _ r) (Paired.mapP t f)
theorem yh5.stay(x:yh5 P w H h a o)(k:∀ b u,(b=a\/H b=some (.own a))->h.get? b=some u->h'.get? b=some u)
  (ho:∀ b,H b=some (.own a)->H' b=some (.own a)) (ht:∀ b xs,H b=some (.tup xs)->H' b=some (.tup xs)):yh5 P w H' h' a o:=by
 induction o with
 |lst xs=>obtain⟨z,its,n,r,e⟩:=x;exact⟨z,its,n,r,k _ _ (.inl rfl) e⟩
 |tup xs=>obtain⟨z,its,r,ob,e,c⟩:=x;exact⟨z,its,r,ob,k _ _ (.inl rfl) e,c⟩
 |dK kvs=>obtain⟨z,y,vs,r,ob,es,ep,e,c⟩:=x;exact⟨z,y,vs,r,ob,es,ep,k _ _ (.inl rfl) e,c⟩
 |dT kvs=>
  obtain⟨z,y,xs,r,ob,es,ep,e,c⟩:=x;exact⟨z,y,xs,Paired.mapP r fun p q z=>⟨z.1,ht _ _ z.2.1,z.2.2⟩,ob,es,ep,k _ _ (.inl rfl) e,c⟩
 |set S n=>obtain⟨ob,es,ep,t,e,c⟩:=x;exact⟨ob,es,ep,t,k _ _ (.inl rfl) e,c⟩
 |ins C dx fs=>
  obtain⟨d,z,ne,e,mA,⟨od,es,ep,e2,c⟩,r⟩:=x;exact⟨ho _ d,z,ne,k _ _ (.inl rfl) e,mA,⟨od,es,ep,k _ _ (.inr d) e2,c⟩,r⟩
 |own y=>obtain⟨ob,e⟩:=x;exact⟨ob,k _ _ (.inl rfl) e⟩
 |xd fs=>obtain⟨mA,⟨od,es,ep,e,c⟩,r⟩:=x;exact⟨mA,⟨od,es,ep,k _ _ (.inl rfl) e,c⟩,r⟩
 |rng lo hi=>obtain⟨t,u,v,e⟩:=x;exact⟨t,u,v,k _ _ (.inl rfl) e⟩
 |frz ob u ih=>obtain⟨e,q⟩:=x;exact⟨k _ _ (.inl rfl) e,ih q⟩
 |tbl ps=>
  have e:h.get? a=some { cls:=.none,data:=.fields ps }:=x;show h'.get? a=some { cls:=.none,data:=.fields ps };exact k a _ (.inl rfl) e
 |met f y=>
  have e:h.get? a=some (W.methodObj (.ref f) (.ref y)):=x;show h'.get? a=some (W.methodObj (.ref f) (.ref y));exact k a _ (.inl rfl) e
 |ext φ=>obtain⟨p,⟨o,e⟩,st⟩:=x;exact⟨st _ _ p fun o q=>k _ _ (.inl rfl) q,⟨o,k _ _ (.inl rfl) e⟩,st⟩
theorem HOk.lt(x:HOk P w H h)(e:H a=some o):a<h.objs.size:=(x a o e).lt
theorem HOk.fresh(x:HOk P w H h)(e:h.objs.size<=a):H a=none:=by
 cases q:H a with
 |none=>rfl
 |some u=>exact absurd (Nat.lt_of_lt_of_le (x.lt q) e) (Nat.lt_irrefl _)
theorem HOk.kept(x:HOk P w H h)(k:∀ b u,h.get? b=some u->h'.get? b=some u):HOk P w H h':=fun a o e=>
 (x a o e).stay (fun b u _ q=>k b u q) (fun _ q=>q) fun _ _ q=>q
theorem HOk.laid(x:HOk P w H h)(k:∀ b u,h.get? b=some u->h'.get? b=some u)(hp:h.objs.size<=a)(new:yh5 P w (upd H a o) h' a o):HOk P w (upd H a o) h':=fun b u e=>by
 have hn:=x.fresh hp;by_cases hb:b=a
 ·subst hb;rw[zre]at e;cases e;exact new
 ·rw[yhv hb]at e;exact(x b u e).stay (fun c v _ q=>k c v q) (fun c q=>by rw[yhv (zgj q hn)];exact q) fun c xs q=>by rw[yhv (zgj q hn)];exact q
end
def Rd(H:Hp)(a:Addr)(u:HO):Prop:=H a=some u\/∃ o,H a=some (.frz o u)
theorem Rd.of{H:Hp}{a:Addr}{u:HO}(h:H a=some u):Rd H a u:=.inl h
theorem Rd.ok{P:Program}{w:World}{H:Hp}{h:Heap}{a:Addr}{u:HO}(r:Rd H a u)(x:HOk P w H h):yh5 P w H h a u:=by
 rcases r with r|⟨o,r⟩
 ·exact x a u r
 ·obtain⟨_,q⟩:=x a _ r;exact q
def Mut:Option HO->Prop
 |some (.lst _)=>True
 |some (.dK _)=>True
 |some (.dT _)=>True
 |some (.set _ _)=>True
 |some (.ins _ _ _)=>True
 |some (.ext _)=>True
 |_=>False
section
variable{P:Program}{w:World}{H:Hp}{h h':Heap}{x e:Addr}{o':HO}
theorem HOk.write(ok:HOk P w H h)(mu:Mut (H x))(he:e=x\/H e=some (.own x))(k:∀ b u,b≠e->h.get? b=some u->h'.get? b=some u)(heo:∃ u,h'.get? e=some u)
  (new:yh5 P w (upd H x o') h' x o'):HOk P w (upd H x o') h':=fun b u q=>by
 have nown:∀ c y,H c=some (.own y)->c≠x:=fun c y r z=>by subst z;rw[r]at mu;exact mu
 have ntup:∀ c xs,H c=some (.tup xs)->c≠x:=fun c xs r z=>by subst z;rw[r]at mu;exact mu
 by_cases hb:b=x
 ·subst hb;rw[zre]at q;cases q;exact new
 ·rw[yhv hb]at q;by_cases hbe:b=e
  ·have q':H b=some (.own x):=by
    rcases he with z|z
    ·exact absurd (hbe.trans z) hb
    ·rw[hbe];exact z
   rw[q]at q';cases q';obtain⟨v,hv⟩:=heo;exact⟨v,by rw[hbe];exact hv⟩
  ·refine(ok b u q).stay (fun c v hc r=>k c v ?_ r) (fun c r=>by rw[yhv (nown c b r)];exact r) fun c xs r=>by rw[yhv (ntup c xs r)];exact r
   rcases hc with rfl|hc
   ·exact hbe
   ·rintro rfl;rcases he with z|z
    ·exact nown c b hc z
    ·rw[hc]at z;cases z;exact hb rfl
end
structure Un(fs ex:List Addr)(H H':Hp)(h h':Heap):Prop where
 keep:∀ b o,h.get? b=some o->H b=none->b ∉ fs->b ∉ ex->h'.get? b=some o
 slot:∀ b o,h.get? b=some o->H b=none->b∈fs->b ∉ ex->∃ sl,h'.get? b=some { o with slots:=sl }
 free:∀ b o,h.get? b=some o->H b=none->b ∉ ex->H' b=none
 there:∀ b o,h.get? b=some o->b ∉ ex->∃ o',h'.get? b=some o'
 tups:∀ b xs,H b=some (.tup xs)->H' b=some (.tup xs)
 frzs:∀ b o u,H b=some (.frz o u)->H' b=some (.frz o u)
 tbls:∀ b ps,H b=some (.tbl ps)->∃ more,H' b=some (.tbl (ps++more))
section
variable{fs fs' ex ex':List Addr}{H H1 H2:Hp}{h h1 h2 h':Heap}{a x e:Addr}{o:HO}
theorem Un.any(u:Un fs ex H H1 h h1){b:Addr}{ob:Obj}(q:h.get? b=some ob)(n:H b=none)(hx:b ∉ ex):∃ sl,h1.get? b=some { ob with slots:=sl }:=by
 by_cases hb:b∈fs
 ·exact u.slot b ob q n hb hx
 ·exact⟨ob.slots,u.keep b ob q n hb hx⟩
theorem Un.trans(a:Un fs ex H H1 h h1)(b:Un fs ex H1 H2 h1 h2):Un fs ex H H2 h h2 where
 keep:=fun c ob q n hc hx=>b.keep c ob (a.keep c ob q n hc hx) (a.free c ob q n hx) hc hx
 slot:=fun c ob q n hc hx=>by
  obtain⟨sl,e1⟩:=a.slot c ob q n hc hx;obtain⟨sl',e2⟩:=b.slot c _ e1 (a.free c ob q n hx) hc hx;exact⟨sl',e2⟩
 free:=fun c ob q n hx=>by
  obtain⟨o',e1⟩:=a.there c ob q hx;exact b.free c o' e1 (a.free c ob q n hx) hx
 there:=fun c ob q hx=>by
  obtain⟨o',e1⟩:=a.there c ob q hx;exact b.there c o' e1 hx
 tups:=fun c xs q=>b.tups c xs (a.tups c xs q)
 frzs:=fun c ob xs q=>b.frzs c ob xs (a.frzs c ob xs q)
 tbls:=fun c ps q=>by
  obtain⟨m1,e1⟩:=a.tbls c ps q;obtain⟨m2,e2⟩:=b.tbls c _ e1;exact⟨m1++m2,by rw[e2,Array.append_assoc]⟩
theorem Un.kept(k:∀ b u,h.get? b=some u->h'.get? b=some u):Un fs ex H H h h':=
 ⟨fun b ob q _ _ _=>k b ob q,fun b ob q _ _ _=>⟨ob.slots,k b ob q⟩,fun _ _ _ n _=>n,fun b ob q _=>⟨ob,k b ob q⟩,fun _ _ q=>q,fun _ _ _ q=>q,fun _ ps q=>⟨#[],by rw[q];simp⟩⟩
theorem Un.refl:Un fs ex H H h h:=Un.kept fun _ _ q=>q
theorem Un.laid(k:∀ b u,h.get? b=some u->h'.get? b=some u)(hp:h.objs.size<=a)(hn:H a=none):Un fs ex H (upd H a o) h h' where
 keep:=fun b u q _ _ _=>k b u q
 slot:=fun b u q _ _ _=>⟨u.slots,k b u q⟩
 free:=fun b u q n _=>by rw[yhv (Nat.ne_of_lt (Nat.lt_of_lt_of_le (Heap.lt_size q) hp))];exact n
 there:=fun b u q _=>⟨u,k b u q⟩
 tups:=fun b xs q=>by rw[yhv (zgj q hn)];exact q
 frzs:=fun b u xs q=>by rw[yhv (zgj q hn)];exact q
 tbls:=fun b ps q=>⟨#[],by rw[yhv (zgj q hn),q];simp⟩
theorem Un.write(mu:Mut (H x))(he:e=x\/H e=some (.own x))(k:∀ b u,b≠e->h.get? b=some u->h'.get? b=some u)(heo:∃ u,h'.get? e=some u):Un fs ex H (upd H x o) h h':=by
 have hx:∀ b,H b=none->b≠x:=fun b n z=>by subst z;rw[n]at mu;exact mu
 have hb:∀ b,H b=none->b≠e:=fun b n z=>by
  subst z;rcases he with r|r
  ·exact hx b n r
  ·rw[n]at r;cases r
 have hm:∀ b u,H b=some u->¬ Mut (some u)->b≠x:=fun b u q nm z=>by subst z;rw[q]at mu;exact nm mu
 refine⟨fun b u q n _ _=>k b u (hb b n) q,fun b u q n _ _=>⟨u.slots,k b u (hb b n) q⟩,fun b u q n _=>by rw[yhv (hx b n)];exact n,fun b u q _=>?_,
  fun b xs q=>by rw[yhv (hm b _ q fun z=>z)];exact q,fun b u xs q=>by rw[yhv (hm b _ q fun z=>z)];exact q,fun b ps q=>⟨#[],by rw[yhv (hm b _ q fun z=>z),q];simp⟩⟩
 by_cases hbe:b=e
 ·subst hbe;exact heo
 ·exact⟨u,k b u hbe q⟩
theorem Un.mono(u:Un fs ex H H1 h h1)(hs:∀ b∈fs,b∈fs')(hx:∀ b∈ex,b∈ex'):Un fs' ex' H H1 h h1:=
 ⟨fun b ob q n hb he=>u.keep b ob q n (fun z=>hb (hs b z)) fun z=>he (hx b z),fun _ _ q n _ he=>u.any q n fun z=>he (hx _ z),fun b ob q n he=>u.free b ob q n fun z=>he (hx b z),fun b ob q he=>u.there b ob q fun z=>he (hx b z),u.tups,u.frzs,u.tbls⟩
end
def trk(h:Heap)(H:Hp):List Addr:=(List.range h.objs.size).filter fun a=>(H a).isSome
def yqe(h:Heap)(H:Hp):Heap:=W.hideAll h (trk h H)
theorem zi0(h:Heap)(H:Hp):(yqe h H).objs.size=h.objs.size:=W.hideAll_size _ _
theorem znm{h:Heap}{H:Hp}{b:Addr}{o:Obj}(e:h.get? b=some o)(n:H b=none):(yqe h H).get? b=some o:=
 W.hideAll_get _ e fun hm=>by
  have q:(H b).isSome=true:=(List.mem_filter.mp hm).2;rw[n]at q;simp at q
theorem zws{h:Heap}{H:Hp}{b:Addr}{o:Obj}(e:(yqe h H).get? b=some o):h.get? b=some o/\H b=none:=by
 have e':h.get? b=some o:=W.of_hideAll (trk h H) e;refine⟨e',?_⟩;cases q:H b with
 |none=>rfl
 |some x=>
  have hm:b∈trk h H:=List.mem_filter.mpr ⟨List.mem_range.mpr (Heap.lt_size e'),by simp[q]⟩;have z:(yqe h H).get? b=none:=W.hideAll_none (trk h H) hm;rw[z]at e;cases e
def zrs(g h:Heap)(L:Addr):List (Addr × Obj):=(List.range h.objs.size).filterMap fun a=>if a=L\/(g.get? a).isSome=true then none else (h.get? a).map fun o=>(a,o)
def yr1(g h:Heap)(L d:Addr):List (Addr × Obj):=(zrs g h L).filter fun p=>decide (p.1≠d)
structure Mod(K:W.Frag)(mg:Str->Option Value)(base:Heap):Prop where
 kin:K.In base
 glob:base.Ns mainGlobals mg
 blt:∃ mb,base.Ns builtinsNs mb/\∀ x:Str,x ≠ "__name__"->mb x=bootBuiltins x
 nolimit:base.NoLimit
structure Cx where
 prog:Program
 w:World
 K:W.Frag
 mg:Str->Option Value
 base:Heap
 A:Around
 N:List Str
 s₀:Shared
 H₀:Hp
 env:Env
 outer:List Env
 stack:List Env
 ex:List Addr
 fn:Str->Bool
 calm:Bool
 pn:List (Addr × Obj)
 xe:Value->Shared->Prop
def frs(l:List Env):List Addr:=l.filterMap (·.frame)
abbrev Cx.fs(X:Cx):List Addr:=frs X.outer
def Vis(sc:Scope)(x:Str):Prop:=sc.names.lookup x=some .local\/sc.names.lookup x=some .cell\/sc.names.lookup x=some .free
def Loc(sc:Scope)(x:Str):Prop:=sc.names.lookup x=some .local\/sc.names.lookup x=some .cell
def yog(env:Env)(h:Heap)(m:Str->Option Value)(x:Str)(u:Value):Prop:=
 (env.kindOf x=some .local/\m x=some u)\/((env.kindOf x=some .cell\/env.kindOf x=some .free)/\∃ c,env.cells.lookup x=some c/\h.IsCell c (some u))
structure Cx.Ok(X:Cx):Prop where
 mod:Mod X.K X.mg X.base
 kind:X.env.scope.kind=.function
 glob:X.env.globals=mainGlobals
 blt:X.env.builtins=builtinsNs
 above:X.s₀.heap.objs.size<=X.env.locals
 inj:∀ x y c,X.env.cells.lookup x=some c->X.env.cells.lookup y=some c->x=y
 has:∀ x,(X.env.kindOf x=some .cell\/X.env.kindOf x=some .free)->∃ c,X.env.cells.lookup x=some c
 cab:∀ x c,X.fn x=true->X.env.cells.lookup x=some c->X.s₀.heap.objs.size<=c
 hd:X.calm=true->X.A.handled=none
 frames:X.A.frames=some X.stack
 stk:X.stack=X.outer\/(X.stack=X.env::X.outer/\X.env.frame=some X.env.locals)
 exf:∀ b∈X.ex,b≠X.env.locals/\∀ x c,X.env.cells.lookup x=some c->c≠b
 bs:∀ b o,X.base.get? b=some o->X.s₀.heap.get? b=some o/\X.H₀ b=none
 bsz:X.base.objs.size<=X.s₀.heap.objs.size
 noex:∀ b o,X.base.get? b=some o->b ∉ X.ex
 exfs:∀ b∈X.ex,b ∉ X.fs
 funs:X.s₀.heap.FunFrames X.base X.outer
 frf:∀ b∈X.fs,X.H₀ b=none
structure Inv(X:Cx)(pins:List (Addr × Obj))(σ:List (Option V))(H:Hp)(s:Shared):Prop where
 ok:X.Ok
 os:s.os=X.s₀.os
 bare:AllBare s.gens
 base:Un X.fs X.ex X.H₀ H X.s₀.heap s.heap
 loc:∃ m,s.heap.Ns X.env.locals m/\∀ (i:Nat) (x:Str) (v:V),X.N[i]?=some x->σ[i]?=some (some v)->Vis X.env.scope x->∃ u,yoq v u/\yog X.env s.heap m x u
 cell:∀ x c,X.env.cells.lookup x=some c->∃ v,s.heap.IsCell c v
 free:H X.env.locals=none
 freeC:∀ x c,X.env.cells.lookup x=some c->H c=none
 pin:∀ p∈X.pn++pins,s.heap.get? p.1=some p.2/\H p.1=none/\p.1≠X.env.locals/\p.1 ∉ X.fs/\∀ v,p.2.data≠.cell v
 hok:HOk X.prog X.w H s.heap
 len:σ.length=X.N.length
section
variable{X:Cx}{pins:List (Addr × Obj)}{σ:List (Option V)}{H H':Hp}{s:Shared}{h':Heap}
theorem Cx.Ok.nofr(ok:X.Ok){b:Addr}{o:Obj}(e:X.base.get? b=some o):b ∉ X.fs:=fun hb=>by
 have:=(ok.funs.mem hb).1;rw[e]at this;cases this
theorem Inv.bs(I:Inv X pins σ H s):∀ b o,X.base.get? b=some o->s.heap.get? b=some o/\H b=none:=fun b o e=>
 ⟨I.base.keep b o (I.ok.bs b o e).1 (I.ok.bs b o e).2 (I.ok.nofr e) (I.ok.noex b o e),I.base.free b o (I.ok.bs b o e).1 (I.ok.bs b o e).2 (I.ok.noex b o e)⟩
theorem Inv.bk(I:Inv X pins σ H s):∀ b o,X.base.get? b=some o->s.heap.get? b=some o:=fun b o e=>(I.bs b o e).1
theorem Inv.mod(I:Inv X pins σ H s):Mod X.K X.mg X.base:=I.ok.mod
theorem Inv.kIn(I:Inv X pins σ H s):X.K.In s.heap:=I.ok.mod.kin.keeps I.bk
theorem Inv.nolimit(I:Inv X pins σ H s):s.heap.NoLimit:=I.ok.mod.nolimit.keeps I.bk
theorem Inv.lt(I:Inv X pins σ H s):X.env.locals<s.heap.objs.size:=let ⟨_,hn,_⟩:=I.loc;hn.lt
theorem Inv.sz(I:Inv X pins σ H s):X.s₀.heap.objs.size<=s.heap.objs.size:=Nat.le_trans I.ok.above (Nat.le_of_lt I.lt)
theorem Inv.nofs(I:Inv X pins σ H s){a:Addr}(h:s.heap.objs.size<=a):a ∉ X.fs:=fun hb=>by
 obtain⟨_,o,ho,_⟩:=I.ok.funs.mem hb;exact absurd (Nat.lt_of_lt_of_le (Heap.lt_size ho) (Nat.le_trans I.sz h)) (Nat.lt_irrefl _)
theorem Inv.cne(I:Inv X pins σ H s):∀ x c,X.env.cells.lookup x=some c->c≠X.env.locals:=fun x c e z=>by
 obtain⟨v,o,ho,hd⟩:=I.cell x c e;obtain⟨m,⟨o',es,ep,ho',hd',_⟩,_⟩:=I.loc;rw[z,ho']at ho;cases ho;rw[hd']at hd;cases hd
theorem Inv.funs(I:Inv X pins σ H s):s.heap.FunFrames X.base X.outer:=by
 have all:∀ (l:List Env),(∀ b∈frs l,b∈X.fs)->X.s₀.heap.FunFrames X.base l->s.heap.FunFrames X.base l:=by
  intro l;induction l with
  |nil=>intro _ _;trivial
  |cons env r ih=>
   intro hs hl;obtain⟨hk,⟨L,o,hf,hn,ho,hd⟩,hr⟩:=hl;have hL:L∈X.fs:=hs L (by unfold frs;rw[List.filterMap_cons,hf];exact List.mem_cons_self);obtain⟨sl,e⟩:=I.base.slot L o ho (I.ok.frf L hL) hL fun z=>I.ok.exfs L z hL;exact⟨hk,⟨L,_,hf,hn,e,hd⟩,ih (fun b hb=>hs b (by unfold frs;rw[List.filterMap_cons,hf];exact List.mem_cons_of_mem _ hb)) hr⟩
 exact all X.outer (fun _ hb=>hb) I.ok.funs
theorem Inv.stack(I:Inv X pins σ H s):s.heap.FunFrames X.base X.stack:=by
 rcases I.ok.stk with e|⟨e,hf⟩
 ·rw[e];exact I.funs
 ·rw[e];obtain⟨m,hn,_⟩:=I.loc;refine .cons (by rw[I.ok.kind];decide) hf hn ?_ I.funs;exact Heap.get?_none_of_le (Nat.le_trans I.ok.bsz I.ok.above)
theorem Inv.stkSub(I:Inv X pins σ H s):∀ b∈frs X.stack,b∈X.env.locals::X.fs:=fun b hb=>by
 rcases I.ok.stk with e|⟨e,hf⟩
 ·rw[e]at hb;exact List.mem_cons_of_mem _ hb
 ·rw[e]at hb;unfold frs at hb;rw[List.filterMap_cons,hf]at hb;exact hb
theorem Inv.stkFree(I:Inv X pins σ H s):∀ b∈frs X.stack,H b=none:=fun b hb=>by
 rcases List.mem_cons.mp (I.stkSub b hb)with e|hb
 ·rw[e];exact I.free
 ·obtain⟨_,o,ho,_⟩:=I.ok.funs.mem hb;exact I.base.free b o ho (I.ok.frf b hb) fun z=>I.ok.exfs b z hb
theorem Inv.step{g':Array GenState}{t':Nat}{d':Drawn}{ch:List Addr}(I:Inv X pins σ H s)
  (hch:∀ b∈ch,(b∈X.ex\/X.s₀.heap.objs.size<=b)/\b≠X.env.locals/\(∀ x c,X.env.cells.lookup x=some c->c≠b)/\∀ p∈X.pn++pins,p.1≠b)
  (keep:∀ b o,b≠X.env.locals->b ∉ X.fs->b ∉ ch->s.heap.get? b=some o->H b=none->h'.get? b=some o)
  (slot:∀ b o,b≠X.env.locals->b∈X.fs->b ∉ ch->s.heap.get? b=some o->H b=none->∃ sl,h'.get? b=some { o with slots:=sl }) (free:∀ b o,b ∉ ch->s.heap.get? b=some o->H b=none->H' b=none)
  (there:∀ b o,b ∉ ch->s.heap.get? b=some o->∃ o',h'.get? b=some o')
  (tups:∀ b xs,H b=some (.tup xs)->H' b=some (.tup xs)) (frzs:∀ b o u,H b=some (.frz o u)->H' b=some (.frz o u)) (tbls:∀ b ps,H b=some (.tbl ps)->∃ more,H' b=some (.tbl (ps++more)))
  (ns:∀ m,s.heap.Ns X.env.locals m->h'.Ns X.env.locals m) (hok:HOk X.prog X.w H' h') (hg:AllBare g') :
  Inv X pins σ H' { s with heap:=h',gens:=g',drawn:=d',toks:=t' }:=by
 have neL:∀ b o,X.s₀.heap.get? b=some o->b≠X.env.locals:=fun b o e=>Nat.ne_of_lt (Nat.lt_of_lt_of_le (Heap.lt_size e) I.ok.above);have neC:∀ b o,X.s₀.heap.get? b=some o->b ∉ X.ex->b ∉ ch:=fun b o e hx hb=>by
  rcases(hch b hb).1 with z|z
  ·exact hx z
  ·exact absurd (Nat.lt_of_lt_of_le (Heap.lt_size e) z) (Nat.lt_irrefl _)
 have cellK:∀ x c,X.env.cells.lookup x=some c->∀ v,s.heap.IsCell c v->h'.IsCell c v:=fun x c e v ⟨o,ho,hd⟩=>by
  have nch:c ∉ ch:=fun z=>(hch c z).2.2.1 x c e rfl;by_cases hc:c∈X.fs
  ·obtain⟨sl,q⟩:=slot c o (I.cne x c e) hc nch ho (I.freeC x c e);exact⟨_,q,hd⟩
  ·exact⟨o,keep c o (I.cne x c e) hc nch ho (I.freeC x c e),hd⟩
 refine⟨I.ok,I.os,hg,⟨fun b o e n hb hx=>?_,fun b o e n hb hx=>?_,fun b o e n hx=>?_,fun b o e hx=>?_,fun b xs e=>tups b xs (I.base.tups b xs e),fun b o xs e=>frzs b o xs (I.base.frzs b o xs e),fun b ps e=>?_⟩,?_,fun x c e=>?_,?_,fun x c e=>?_,fun p hp=>?_,hok,I.len⟩
 ·exact keep b o (neL b o e) hb (neC b o e hx) (I.base.keep b o e n hb hx) (I.base.free b o e n hx)
 ·obtain⟨sl,e1⟩:=I.base.slot b o e n hb hx;obtain⟨sl',e2⟩:=slot b _ (neL b o e) hb (neC b o e hx) e1 (I.base.free b o e n hx);exact⟨sl',e2⟩
 ·obtain⟨o',e1⟩:=I.base.there b o e hx;exact free b o' (neC b o e hx) e1 (I.base.free b o e n hx)
 ·obtain⟨o',e1⟩:=I.base.there b o e hx;exact there b o' (neC b o e hx) e1
 ·obtain⟨m1,e1⟩:=I.base.tbls b ps e;obtain⟨m2,e2⟩:=tbls b _ e1;exact⟨m1++m2,by rw[e2,Array.append_assoc]⟩
 ·obtain⟨m,hn,hl⟩:=I.loc;refine⟨m,ns m hn,fun i x v e1 e2 e3=>?_⟩;obtain⟨u,r,l⟩:=hl i x v e1 e2 e3;refine⟨u,r,?_⟩;rcases l with l|⟨k,c,e,z⟩
  ·exact .inl l
  ·exact .inr ⟨k,c,e,cellK x c e _ z⟩
 ·obtain⟨v,z⟩:=I.cell x c e;exact⟨v,cellK x c e v z⟩
 ·obtain⟨m,⟨o,_,_,ho,_⟩,_⟩:=I.loc;exact free _ o (fun z=>(hch _ z).2.1 rfl) ho I.free
 ·obtain⟨v,o,ho,hd⟩:=I.cell x c e;exact free c o (fun z=>(hch c z).2.2.1 x c e rfl) ho (I.freeC x c e)
 ·obtain⟨e,n,ne,nf,d⟩:=I.pin p hp;have nch:p.1 ∉ ch:=fun z=>(hch p.1 z).2.2.2 p hp rfl;exact⟨keep p.1 p.2 ne nf nch e n,free p.1 p.2 nch e n,ne,nf,d⟩
theorem Inv.un{t':Nat}(I:Inv X pins σ H s)(u:Un X.fs [] H H' s.heap h')(hok:HOk X.prog X.w H' h'):Inv X pins σ H' { s with heap:=h',toks:=t' }:=by
 obtain⟨m,⟨o,es,ep,ho,r⟩,_⟩:=id I.loc;obtain⟨sl,hL⟩:=u.any ho I.free (by simp);exact I.step (g':=s.gens) (d':=s.drawn) (ch:=[]) (fun _ z=>nomatch z) (fun b o _ hb _ e n=>u.keep b o e n hb (by simp)) (fun b o _ hb _ e n=>u.slot b o e n hb (by simp)) (fun b o _ e n=>u.free b o e n (by simp)) (fun b o _ e=>u.there b o e (by simp)) u.tups u.frzs u.tbls (fun m' hm=>by
  obtain⟨o',es',ep',ho',r'⟩:=hm;rw[ho]at ho';cases ho';exact⟨_,es',ep',hL,r'⟩) hok I.bare
theorem Inv.call{g':Array GenState}{t':Nat}{d':Drawn}{ch:List Addr}(I:Inv X pins σ H s)(u:Un (frs X.stack) ch H H' s.heap h')(hok:HOk X.prog X.w H' h')(hg:AllBare g')
  (hch:∀ b∈ch,(b∈X.ex\/X.s₀.heap.objs.size<=b)/\b≠X.env.locals/\(∀ x c,X.env.cells.lookup x=some c->c≠b)/\∀ p∈X.pn++pins,p.1≠b) :
  Inv X pins σ H' { s with heap:=h',gens:=g',drawn:=d',toks:=t' }:=by
 obtain⟨m,⟨o,es,ep,ho,r⟩,_⟩:=id I.loc;obtain⟨sl,hL⟩:=u.any ho I.free fun z=>(hch _ z).2.1 rfl;exact I.step (ch:=ch) hch (fun b o hL hb hc e n=>u.keep b o e n (fun z=>(List.mem_cons.mp (I.stkSub b z)).elim hL hb) hc) (fun b o _ _ hc e n=>u.any e n hc) (fun b o hc e n=>u.free b o e n hc) (fun b o hc e=>u.there b o e hc) u.tups u.frzs u.tbls (fun m' hm=>by
  obtain⟨o',es',ep',ho',r'⟩:=hm;rw[ho]at ho';cases ho';exact⟨_,es',ep',hL,r'⟩) hok hg
theorem Inv.turned{t':Nat}{it:Addr}(I:Inv X pins σ H s)(k:∀ b o,b≠it->s.heap.get? b=some o->h'.get? b=some o)(hn:H it=none)(hL:it≠X.env.locals)
  (h1:it∈X.ex\/X.s₀.heap.objs.size<=it) (h2:∀ x c,X.env.cells.lookup x=some c->c≠it) (h3:∀ p∈X.pn++pins,p.1≠it):Inv X pins σ H { s with heap:=h',toks:=t' }:=by
 have nit:∀ b u,H b=some u->b≠it:=fun b u e z=>by rw[z,hn]at e;cases e
 refine I.step (g':=s.gens) (d':=s.drawn) (ch:=[it]) (fun b hb=>?_) (fun b o _ _ hc e _=>k b o (fun z=>hc (by simp[z])) e) (fun b o _ _ hc e _=>⟨o.slots,k b o (fun z=>hc (by simp[z])) e⟩) (fun _ _ _ _ n=>n)
  (fun b o hc e=>⟨o,k b o (fun z=>hc (by simp[z])) e⟩) (fun _ _ e=>e) (fun _ _ _ e=>e) (fun b ps e=>⟨#[],by rw[e];simp⟩) (fun m hm=>?_) (fun b u e=>?_) I.bare
 ·have e:b=it:=by simpa using hb
  subst e;exact⟨h1,hL,h2,h3⟩
 ·obtain⟨o,es,ep,ho,r⟩:=hm;exact⟨o,es,ep,k _ o (Ne.symm hL) ho,r⟩
 ·refine(I.hok b u e).stay (fun c v hc q=>k c v ?_ q) (fun _ q=>q) fun _ _ q=>q;rcases hc with z|z
  ·rw[z];exact nit b u e
  ·exact nit c _ z
theorem Inv.tok(I:Inv X pins σ H s)(t:Nat):Inv X pins σ H { s with toks:=t }:=I.un (h':=s.heap) (t':=t) Un.refl I.hok
theorem Inv.kept{t':Nat}(I:Inv X pins σ H s)(k:∀ b u,s.heap.get? b=some u->h'.get? b=some u):Inv X pins σ H { s with heap:=h',toks:=t' }:=I.un (Un.kept k) (I.hok.kept k)
theorem Inv.laid{a:Addr}{o:HO}{t':Nat}(I:Inv X pins σ H s)(k:∀ b u,s.heap.get? b=some u->h'.get? b=some u)(hp:s.heap.objs.size<=a)(new:yh5 X.prog X.w (upd H a o) h' a o) :
  Inv X pins σ (upd H a o) { s with heap:=h',toks:=t' }:=I.un (Un.laid k hp (I.hok.fresh hp)) (I.hok.laid k hp new)
theorem Inv.write{x e:Addr}{o:HO}{t':Nat}(I:Inv X pins σ H s)(mu:Mut (H x))(he:e=x\/H e=some (.own x))(k:∀ b u,b≠e->s.heap.get? b=some u->h'.get? b=some u)(heo:∃ u,h'.get? e=some u)
  (new:yh5 X.prog X.w (upd H x o) h' x o):Inv X pins σ (upd H x o) { s with heap:=h',toks:=t' }:=I.un (Un.write mu he k heo) (I.hok.write mu he k heo new)
theorem Inv.pins_of{pins':List (Addr × Obj)}(I:Inv X pins σ H s)(h:∀ p∈pins',s.heap.get? p.1=some p.2/\H p.1=none/\p.1≠X.env.locals/\p.1 ∉ X.fs/\∀ v,p.2.data≠.cell v):Inv X pins' σ H s:=
 ⟨I.ok,I.os,I.bare,I.base,I.loc,I.cell,I.free,I.freeC,fun p hp=>(List.mem_append.mp hp).elim (fun z=>I.pin p (List.mem_append_left _ z)) (h p),I.hok,I.len⟩
theorem zow{N:List Str}(hN:N.Nodup){i j:Nat}{x:Str}(a:N[i]?=some x)(b:N[j]?=some x):i=j:=by
 obtain⟨h1,e1⟩:=List.getElem?_eq_some_iff.mp a;obtain⟨h2,e2⟩:=List.getElem?_eq_some_iff.mp b;exact(List.getElem_inj hN).mp (e1.trans e2.symm)
theorem zks{M:Model}{A:Around}{E:Value->Shared->Prop}{i:Nat}{x:Str}{v:V}{u:Value}{Q:Unit->Shared->Prop}(I:Inv X pins σ H s)(hN:X.N.Nodup)(hi:X.N[i]?=some x)(hx:Loc X.env.scope x)(r:yoq v u)
  (h:∀ s',Inv X pins (σ.set i (some v)) H s'->(∃ a,Heap.SameBut a s.heap s'.heap/\(a=X.env.locals\/X.env.cells.lookup x=some a))->Q () s') (hf:X.fn x=true\/X.env.scope.names.lookup x=some .local:=by first|exact .inl rfl|exact .inr rfl|assumption):wpAny M A (storeName X.env x u) Q E s:=by
 obtain⟨m,hn,hl⟩:=id I.loc;have hcls:(X.env.scope.kind == .class || (X.env.scope.kind == .module && X.env.locals != X.env.globals))=false:=by rw[I.ok.kind];rfl
 have hiσ:i<σ.length:=by rw[I.len];exact(List.getElem?_eq_some_iff.mp hi).1
 have cne:=I.cne;have tracked:∀ {a:Addr} {h':Heap},(∃ o,s.heap.get? a=some o/\H a=none)->Heap.SameBut a s.heap h'->HOk X.prog X.w H h':=fun {a h'} ha hs b ob e=>by
  obtain⟨_,_,hfree⟩:=ha;refine(I.hok b ob e).stay (fun c w' hc q=>(hs.2 c ?_).trans q) (fun _ q=>q) fun _ _ q=>q;rintro rfl;rcases hc with rfl|hc
  ·rw[hfree]at e;cases e
  ·rw[hfree]at hc;cases hc
 rcases hx with hk|hk
 ·refine wpAny_storeName_local hk hn (fun h' hn' hs=>?_) hcls;obtain⟨oL,_,_,hoL,_⟩:=id hn;refine h _ ⟨I.ok,I.os,I.bare,⟨fun b o e n hb hx=>?_,fun b o e n hb hx=>?_,I.base.free,fun b o e hx=>?_,I.base.tups,I.base.frzs,I.base.tbls⟩,⟨_,hn',fun j y v' e1 e2 e3=>?_⟩,fun y c e=>?_,I.free,I.freeC,fun p hp=>?_,tracked ⟨oL,hoL,I.free⟩ hs,by simpa using I.len⟩ ⟨_,hs,.inl rfl⟩
  ·exact(hs.2 b (Nat.ne_of_lt (Nat.lt_of_lt_of_le (Heap.lt_size e) I.ok.above))).trans (I.base.keep b o e n hb hx)
  ·obtain⟨sl,e1⟩:=I.base.slot b o e n hb hx;exact⟨sl,(hs.2 b (Nat.ne_of_lt (Nat.lt_of_lt_of_le (Heap.lt_size e) I.ok.above))).trans e1⟩
  ·obtain⟨o',e1⟩:=I.base.there b o e hx;exact⟨o',(hs.2 b (Nat.ne_of_lt (Nat.lt_of_lt_of_le (Heap.lt_size e) I.ok.above))).trans e1⟩
  ·by_cases hj:j=i
   ·subst hj;rw[hi]at e1;cases e1;rw[List.getElem?_set_self hiσ]at e2;cases e2;exact⟨u,r,.inl ⟨hk,by simp⟩⟩
   ·rw[List.getElem?_set_ne (Ne.symm hj)]at e2;obtain⟨u',r',q⟩:=hl j y v' e1 e2 e3;refine⟨u',r',?_⟩;rcases q with⟨k,e⟩|⟨k,c,e,z⟩
    ·refine .inl ⟨k,?_⟩;have:y≠x:=fun e=>hj (zow hN e1 (e ▸ hi));simp[this,e]
    ·exact .inr ⟨k,c,e,z.sameBut hs (cne y c e)⟩
  ·obtain⟨w',z⟩:=I.cell y c e;exact⟨w',z.sameBut hs (cne y c e)⟩
  ·obtain⟨e,n,ne,nf,d⟩:=I.pin p hp;exact⟨(hs.2 p.1 ne).trans e,n,ne,nf,d⟩
 ·have hfn:X.fn x=true:=by
   rcases hf with z|z
   ·exact z
   ·rw[z]at hk;cases hk
  obtain⟨c,hc⟩:=I.ok.has x (.inl hk);obtain⟨w',z⟩:=I.cell x c hc;refine wpAny_storeName_cell I.ok.kind hk hc z (fun h' hc' hs=>?_);obtain⟨oc,hoc,hocd⟩:=id z;refine h { s with heap:=h' } ⟨I.ok,I.os,I.bare,⟨fun b o e n hb hx=>?_,fun b o e n hb hx=>?_,I.base.free,fun b o e hx=>?_,I.base.tups,I.base.frzs,I.base.tbls⟩,⟨m,hn.sameBut hs (Ne.symm (cne x c hc)),fun j y v' e1 e2 e3=>?_⟩,fun y c' e=>?_,I.free,I.freeC,fun p hp=>?_,tracked ⟨oc,hoc,I.freeC x c hc⟩ hs,by simpa using I.len⟩ ⟨c,hs,.inr hc⟩
  ·exact(hs.2 b (Nat.ne_of_lt (Nat.lt_of_lt_of_le (Heap.lt_size e) (I.ok.cab x c hfn hc)))).trans (I.base.keep b o e n hb hx)
  ·obtain⟨sl,e1⟩:=I.base.slot b o e n hb hx;exact⟨sl,(hs.2 b (Nat.ne_of_lt (Nat.lt_of_lt_of_le (Heap.lt_size e) (I.ok.cab x c hfn hc)))).trans e1⟩
  ·obtain⟨o',e1⟩:=I.base.there b o e hx;exact⟨o',(hs.2 b (Nat.ne_of_lt (Nat.lt_of_lt_of_le (Heap.lt_size e) (I.ok.cab x c hfn hc)))).trans e1⟩
  ·by_cases hj:j=i
   ·subst hj;rw[hi]at e1;cases e1;rw[List.getElem?_set_self hiσ]at e2;cases e2;exact⟨u,r,.inr ⟨.inl hk,c,hc,hc'⟩⟩
   ·rw[List.getElem?_set_ne (Ne.symm hj)]at e2;obtain⟨u',r',q⟩:=hl j y v' e1 e2 e3;refine⟨u',r',?_⟩;rcases q with q|⟨k,c',e,z'⟩
    ·exact .inl q
    ·refine .inr ⟨k,c',e,z'.sameBut hs ?_⟩;rintro rfl;exact hj (zow hN e1 (I.ok.inj _ _ _ e hc ▸ hi))
  ·by_cases hcc:c'=c
   ·subst hcc;exact⟨_,hc'⟩
   ·obtain⟨w2,z2⟩:=I.cell y c' e;exact⟨w2,z2.sameBut hs hcc⟩
  ·obtain⟨e,n,ne,nf,d⟩:=I.pin p hp;refine⟨(hs.2 p.1 ?_).trans e,n,ne,nf,d⟩;intro q;rw[q,hoc]at e;have q':oc=p.2:=Option.some.inj e;exact d w' (by rw[<-q'];exact hocd)
theorem zq6{M:Model}{A:Around}{E:Value->Shared->Prop}{i:Nat}{x:Str}{v:V}{u:Value}{Q:Unit->Shared->Prop}(I:Inv X pins σ H s)(hN:X.N.Nodup)(hi:X.N[i]?=some x)(hx:Loc X.env.scope x)(r:yoq v u)
  (h:∀ s',Inv X pins (σ.set i (some v)) H s'->Q () s') (hf:X.fn x=true\/X.env.scope.names.lookup x=some .local:=by first|exact .inl rfl|exact .inr rfl|assumption):wpAny M A (storeName X.env x u) Q E s:=
 zks I hN hi hx r (fun s' I' _=>h s' I') hf
theorem Inv.call'{s':Shared}{ch:List Addr}(I:Inv X pins σ H s)(ho:s'.os=s.os)(u:Un (frs X.stack) ch H H' s.heap s'.heap)(hok:HOk X.prog X.w H' s'.heap)(hg:AllBare s'.gens)
  (hch:∀ b∈ch,(b∈X.ex\/X.s₀.heap.objs.size<=b)/\b≠X.env.locals/\(∀ x c,X.env.cells.lookup x=some c->c≠b)/\∀ p∈X.pn++pins,p.1≠b):Inv X pins σ H' s':=by
 obtain⟨h',g',d',t',o'⟩:=s';have e:o'=s.os:=ho;subst e;exact I.call (g':=g') (t':=t') (d':=d') u hok hg hch
end
abbrev XK:=Value->Option Addr->Hp->Prop
abbrev St:=List (Option V)
abbrev VK:=V->Hp->Prop
abbrev TE:=St->Hp->VK->Prop
abbrev TT:=St->Hp->(Bool->Hp->Prop)->Prop
abbrev TA:=St->Hp->(List V->Hp->Prop)->Prop
structure Ends where
 nx:St->Hp->Prop
 rt:VK
 bk:St->Hp->Prop:=fun _ _=>False
 ct:St->Hp->Prop:=fun _ _=>False
abbrev TS:=Ends->St->Hp->Prop
def EP(X:Cx)(pins:List (Addr × Obj))(σ:St)(Q:VK)(u:Value)(s':Shared):Prop:=∃ v H',Inv X pins σ H' s'/\yoq v u/\Q v H'
def TP(X:Cx)(pins:List (Addr × Obj))(σ:St)(Q:Bool->Hp->Prop)(b:Bool)(s':Shared):Prop:=∃ H',Inv X pins σ H' s'/\Q b H'
def AP(X:Cx)(pins:List (Addr × Obj))(σ:St)(Q:List V->Hp->Prop)(us:List Value)(s':Shared):Prop:=∃ vs H',Inv X pins σ H' s'/\yo0 vs us/\Q vs H'
def SP(X:Cx)(pins:List (Addr × Obj))(D:Ends)(f:Flow)(s':Shared):Prop:=
 match f with
 | .next=>∃ σ' H',Inv X pins σ' H' s'/\D.nx σ' H'
 | .brk=>∃ σ' H',Inv X pins σ' H' s'/\D.bk σ' H'
 | .cont=>∃ σ' H',Inv X pins σ' H' s'/\D.ct σ' H'
 | .ret u=>∃ v σ' H',Inv X pins σ' H' s'/\yoq v u/\D.rt v H'
def PE(X:Cx)(e:Expr)(t:TE):Prop:=
 ∀ (pins:List (Addr × Obj)) (s:Shared) (σ:St) (H:Hp) (Q:VK),Inv X pins σ H s->t σ H Q->wpAny (model X.prog X.w) X.A (eval e X.env) (EP X pins σ Q) X.xe s
def PT(X:Cx)(e:Expr)(t:TT):Prop:=
 ∀ (pins:List (Addr × Obj)) (s:Shared) (σ:St) (H:Hp) (Q:Bool->Hp->Prop),Inv X pins σ H s->t σ H Q->wpAny (model X.prog X.w) X.A (isTrue e X.env (eval e X.env)) (TP X pins σ Q) X.xe s
def PW(X:Cx)(e:Expr)(t:TT):Prop:=
 ∀ (whole:Sem Value) (pins:List (Addr × Obj)) (s:Shared) (σ:St) (H:Hp) (Q:Bool->Hp->Prop),Inv X pins σ H s->t σ H Q->wpAny (model X.prog X.w) X.A (isTrue e X.env whole) (TP X pins σ Q) X.xe s
theorem PW.pt{X:Cx}{e:Expr}{t:TT}(h:PW X e t):PT X e t:=h _
def PA(X:Cx)(es:List Expr)(t:TA):Prop:=
 ∀ (pos:Pos) (pins:List (Addr × Obj)) (s:Shared) (σ:St) (H:Hp) (Q:List V->Hp->Prop),Inv X pins σ H s->t σ H Q->wpAny (model X.prog X.w) X.A (spliced (backTo pos (starEach es X.env))) (AP X pins σ Q) X.xe s
def PS(X:Cx)(st:Stmt)(t:TS):Prop:=
 ∀ (pins:List (Addr × Obj)) (s:Shared) (σ:St) (H:Hp) (D:Ends),Inv X pins σ H s->t D σ H->wpAny (model X.prog X.w) X.A (exec st X.env) (SP X pins D) X.xe s
def PSs(X:Cx)(st:List Stmt)(t:TS):Prop:=
 ∀ (pins:List (Addr × Obj)) (s:Shared) (σ:St) (H:Hp) (D:Ends),Inv X pins σ H s->t D σ H->wpAny (model X.prog X.w) X.A (execs st X.env) (SP X pins D) X.xe s
theorem thn{α:Type}{t:Sem α}{Q Q':α->Shared->Prop}{M:Model}{A:Around}{E:Value->Shared->Prop}{s:Shared}(h:wpAny M A t Q E s)(hQ:∀ a s,Q a s->Q' a s):wpAny M A t Q' E s:=wpAny_mono h hQ fun _ _ x=>x
section
variable{X:Cx}
theorem bin{a b:Expr}{ta tb:TE}(ha:PE X a ta)(hb:PE X b tb){pins:List (Addr × Obj)}{s:Shared}{σ:St}{H:Hp}{R:V->V->Hp->Prop}(I:Inv X pins σ H s)(h:ta σ H fun x H1=>tb σ H1 fun y H2=>R x y H2)
  {α:Type} {Q:α->Shared->Prop} {f:Value->Value->Sem α}
  (hf:∀ v u s2 x y H2,Inv X pins σ H2 s2->yoq x v->yoq y u->R x y H2->wpAny (model X.prog X.w) X.A (f v u) Q X.xe s2) :
  wpAny (model X.prog X.w) X.A (eval a X.env) (fun v s₁=>wpAny (model X.prog X.w) X.A (eval b X.env) (fun u s₂=>wpAny (model X.prog X.w) X.A (f v u) Q X.xe s₂) X.xe s₁) X.xe s:=by
 refine thn (ha pins s σ H _ I h) fun v s1 ⟨x,H1,I1,r1,q1⟩=>?_;refine thn (hb pins s1 σ H1 _ I1 q1) fun u s2 ⟨y,H2,I2,r2,q2⟩=>?_;exact hf v u s2 x y H2 I2 r1 r2 q2
def ys4(i:Nat):TE:=fun σ H Q=>∃ v,σ[i]?=some (some v)/\Q v H
def tC(v:V):TE:=fun _ H Q=>Q v H
theorem yft{i:Nat}{x:Str}{pos:Pos}(hN:X.N[i]?=some x)(hv:Vis X.env.scope x)(hd:(x == ("__debug__" : Str))=false:=by decide)(hcd:(x == ("__classdict__" : Str))=false:=by decide):PE X (.Name x pos) (ys4 i):=by
 intro pins s σ H Q I h;obtain⟨v,e,h⟩:=h;obtain⟨m,hn,hl⟩:=I.loc;obtain⟨u,r,l⟩:=hl i x v hN e hv;have fin:EP X pins σ Q u s:=⟨v,H,I,r,h⟩
 rcases l with⟨hk,hm⟩|⟨hk,c,hc,hcell⟩
 ·exact wpAny_Name (wpAny_loadName_local I.ok.kind hk hn hm fin) hd
 ·rcases hk with hk|hk
  ·exact wpAny_Name (wpAny_loadName_cell I.ok.kind hk hc hcell fin) hd
  ·exact wpAny_Name (wpAny_loadName_free I.ok.kind hk hc hcell fin hcd) hd
theorem yfm{i j pos}:PE X (.Constant (.int i) j pos) (tC (.int i)):=fun _ _ _ H _ I h=>wpAny_Constant_int ⟨.int i,H,I.tok _,⟨_,rfl⟩,h⟩
theorem yl1{b j pos}:PE X (.Constant (.bool b) j pos) (tC (.bl b)):=fun _ _ _ H _ I h=>Constant_bool ⟨.bl b,H,I,rfl,h⟩
theorem yfo{j pos}:PE X (.Constant .none j pos) (tC .non):=fun _ _ _ H _ I h=>Constant_none ⟨.non,H,I,rfl,h⟩
theorem yfr{x j pos}:PE X (.Constant (.str x) j pos) (tC (.str x)):=fun _ _ _ H _ I h=>Calls.Constant_str ⟨.str x,H,I.tok _,⟨_,rfl⟩,h⟩
def Gl(X:Cx)(x:Str):Prop:=X.env.kindOf x=some .globalImplicit
theorem zvi{E:Value->Shared->Prop}{pins:List (Addr × Obj)}{s:Shared}{σ:St}{H:Hp}{x:Str}{u:Value}{pos:Pos}{Q:Value->Shared->Prop}(I:Inv X pins σ H s)(hg:Gl X x)(hm:X.mg x=some u)(h:Q u s)
  (hd:(x == ("__debug__" : Str))=false:=by decide):wpAny (model X.prog X.w) X.A (eval (.Name x pos) X.env) Q E s:=
 Calls.Name_function_global I.ok.kind hg (Calls.loadGlobal_global (by rw[I.ok.glob];exact I.mod.glob.keeps I.bk) hm h) hd
theorem yd8{E:Value->Shared->Prop}{pins:List (Addr × Obj)}{s:Shared}{σ:St}{H:Hp}{x:Str}{u:Value}{pos:Pos}{Q:Value->Shared->Prop}(I:Inv X pins σ H s)(hg:Gl X x)(hm:X.mg x=none)(hv:bootBuiltins x=some u)(h:Q u s)
  (hn:x ≠ "__name__":=by decide) (hd:(x == ("__debug__" : Str))=false:=by decide):wpAny (model X.prog X.w) X.A (eval (.Name x pos) X.env) Q E s:=by
 obtain⟨mb,h1,h2⟩:=I.mod.blt;exact Calls.Name_function_global I.ok.kind hg (Calls.loadGlobal_builtin (by rw[I.ok.glob];exact I.mod.glob.keeps I.bk) hm (by rw[I.ok.blt];exact h1.keeps I.bk) ((h2 x hn).trans hv) h) hd
theorem zw7{x:Str}{v:V}{u:Value}{pos:Pos}(hg:Gl X x)(hm:X.mg x=some u)(r:yoq v u)(hd:(x == ("__debug__" : Str))=false:=by decide):PE X (.Name x pos) (tC v):=
 fun _ _ _ H _ I h=>zvi I hg hm ⟨v,H,I,r,h⟩ hd
theorem zw1{x:Str}{v:V}{u:Value}{pos:Pos}(hg:Gl X x)(hm:X.mg x=none)(hv:bootBuiltins x=some u)(r:yoq v u)(hn:x ≠ "__name__":=by decide)(hd:(x == ("__debug__" : Str))=false:=by decide):PE X (.Name x pos) (tC v):=
 fun _ _ _ H _ I h=>yd8 I hg hm hv ⟨v,H,I,r,h⟩ hn hd
variable{a b:Expr}{ta tb:TE}{pos:Pos}
def PC(X:Cx)(op:CmpOp)(a b:Expr)(t:TE):Prop:=
 ∀ (pins:List (Addr × Obj)) (s:Shared) (σ:St) (H:Hp) (Q:VK),Inv X pins σ H s->t σ H Q->
  wpAny (model X.prog X.w) X.A (eval a X.env) (fun v s₁=>wpAny (model X.prog X.w) X.A (eval b X.env) (fun u s₂=>wpAny (model X.prog X.w) X.A (compareOp op v u) (EP X pins σ Q) X.xe s₂) X.xe s₁) X.xe s
theorem zou(b:Expr){op:CmpOp}(h:op≠.In)(h2:op≠.NotIn):behindInMarks op b=false:=by
 have e1:(op == CmpOp.In)=false:=by cases op<;>first|rfl|exact absurd rfl h
 have e2:(op == CmpOp.NotIn)=false:=by cases op<;>first|rfl|exact absurd rfl h2
 cases b<;>simp[behindInMarks,e1,e2]
def tB(t:TE):TT:=fun σ H Q=>t σ H fun x H1=>∃ c,x=.bl c/\Q c H1
theorem yf6{op:CmpOp}{t:TE}(h:PC X op a b t)(h1:behindInMarks op b=false:=by first|exact zou _ (by decide) (by decide)|rfl):PT X (.Compare a [op] [b] pos) (tB t):=by
 intro pins s σ H Q I hw;refine wpAny_isTrue_Compare1 (thn (h pins s σ H _ I hw) fun v s1 h1=>thn h1 fun u s2 h2=>thn h2 fun c s3 ⟨x,H1,I1,r1,q1⟩=>?_) h1;obtain⟨d,rfl,q⟩:=q1;cases r1;exact wpAny_truthy_bool ⟨H1,I1,q⟩
theorem yf8{e:Expr}{t:TE}(h:PE X e t)(he:∀ whole,isTrue e X.env whole=(do let v <-whole;standAt e.pos;holding [v] (truthy v)):=by intro _;rfl):PT X e (tB t):=by
 intro pins s σ H Q I hw;refine isTrue_plain (thn (h pins s σ H _ I hw) fun v s1 ⟨x,H1,I1,r1,q1⟩=>?_) (he _);obtain⟨d,rfl,q⟩:=q1;cases r1;exact wpAny_truthy_bool ⟨H1,I1,q⟩
variable{tA tB':TT}{yr1:List Expr}
def ysq(t u:TT):TT:=fun σ H Q=>t σ H fun c H1=>if c=true then u σ H1 Q else Q false H1
def tOr(t u:TT):TT:=fun σ H Q=>t σ H fun c H1=>if c=true then Q true H1 else u σ H1 Q
def ysz(t:TT):TT:=fun σ H Q=>t σ H fun c H1=>Q (!c) H1
theorem zxr(ha:PT X a tA):PW X (.BoolOp .And [a] pos) tA:=by
 intro wh pins s σ H Q I h;refine isTrue_and (thn (ha pins s σ H Q I h) fun c s1 e=>?_);cases c with
 |true=>exact isTrue_and_nil e
 |false=>exact e
theorem yga(ha:PT X a tA):PW X (.BoolOp .Or [a] pos) tA:=by
 intro wh pins s σ H Q I h;refine isTrue_or (thn (ha pins s σ H Q I h) fun c s1 e=>?_);cases c with
 |false=>exact isTrue_or_nil e
 |true=>exact e
theorem yf9(ha:PT X a tA)(hb:PW X (.BoolOp .And (b::yr1) pos) tB'):PW X (.BoolOp .And (a::b::yr1) pos) (ysq tA tB'):=by
 intro wh pins s σ H Q I h;refine isTrue_and (thn (ha pins s σ H _ I h) fun c s1 ⟨H1,I1,q1⟩=>?_);cases c with
 |true=>exact hb wh pins s1 σ H1 Q I1 q1
 |false=>exact⟨H1,I1,q1⟩
theorem ymb(ha:PT X a tA)(hb:PW X (.BoolOp .Or (b::yr1) pos) tB'):PW X (.BoolOp .Or (a::b::yr1) pos) (tOr tA tB'):=by
 intro wh pins s σ H Q I h;refine isTrue_or (thn (ha pins s σ H _ I h) fun c s1 ⟨H1,I1,q1⟩=>?_);cases c with
 |true=>exact⟨H1,I1,q1⟩
 |false=>exact hb wh pins s1 σ H1 Q I1 q1
theorem yf7(ha:PT X a tA):PT X (.UnaryOp .Not a pos) (ysz tA):=by
 intro pins s σ H Q I h;exact isTrue_not (ha pins s σ H (fun c H1=>Q (!c) H1) I h)
def ync(ta tb:TE):TE:=fun σ H Q=>ta σ H fun x H1=>∃ c,x=.bl c/\if c=true then tb σ H1 Q else Q (.bl false) H1
def ys0(ta tb:TE):TE:=fun σ H Q=>ta σ H fun x H1=>∃ c,x=.bl c/\if c=true then Q (.bl true) H1 else tb σ H1 Q
def yni(ta:TE):TE:=fun σ H Q=>ta σ H fun x H1=>∃ c,x=.bl c/\Q (.bl (!c)) H1
theorem yfq{op}{t:TE}(h:PE X a t):PE X (.BoolOp op [a] pos) t:=fun pins s σ H Q I hw=>BoolOp_one (h pins s σ H Q I hw)
theorem yfj(ha:PE X a ta)(hb:PE X (.BoolOp .And (b::yr1) pos) tb):PE X (.BoolOp .And (a::b::yr1) pos) (ync ta tb):=by
 intro pins s σ H Q I h;refine BoolOp_and (thn (ha pins s σ H _ I h) fun v s1 ⟨x,H1,I1,r1,q1⟩=>?_);obtain⟨c,rfl,q1⟩:=q1;cases r1;refine wpAny_truthy_bool ?_;cases c with
 |true=>exact hb pins s1 σ H1 Q I1 q1
 |false=>exact⟨.bl false,H1,I1,rfl,q1⟩
theorem yl5(ha:PE X a ta)(hb:PE X (.BoolOp .Or (b::yr1) pos) tb):PE X (.BoolOp .Or (a::b::yr1) pos) (ys0 ta tb):=by
 intro pins s σ H Q I h;refine BoolOp_or (thn (ha pins s σ H _ I h) fun v s1 ⟨x,H1,I1,r1,q1⟩=>?_);obtain⟨c,rfl,q1⟩:=q1;cases r1;refine wpAny_truthy_bool ?_;cases c with
 |false=>exact hb pins s1 σ H1 Q I1 q1
 |true=>exact⟨.bl true,H1,I1,rfl,q1⟩
theorem yfp(ha:PE X a ta):PE X (.UnaryOp .Not a pos) (yni ta):=by
 intro pins s σ H Q I h;refine UnaryOp_ (thn (ha pins s σ H _ I h) fun v s1 ⟨x,H1,I1,r1,q1⟩=>?_);obtain⟨c,rfl,q1⟩:=q1;cases r1;exact not_of (wpAny_truthy_bool ⟨.bl (!c),H1,I1,rfl,q1⟩)
def tIf(t:TT)(ta tb:TE):TE:=fun σ H Q=>t σ H fun c H1=>if c=true then ta σ H1 Q else tb σ H1 Q
theorem zpi{c:Expr}(hc:PT X c tA)(ha:PE X a ta)(hb:PE X b tb):PE X (.IfExp c a b pos) (tIf tA ta tb):=by
 intro pins s σ H Q I h;refine wpAny_IfExp (thn (hc pins s σ H _ I h) fun d s1 ⟨H1,I1,q1⟩=>?_);cases d with
 |true=>exact ha pins s1 σ H1 Q I1 q1
 |false=>exact hb pins s1 σ H1 Q I1 q1
end
def SqL(K:W.Frag)(H:Hp)(a:Addr)(xs:List V):Prop:=
 Rd H a (.lst xs)\/
  ∃ (o:Obj) (its:Array Value) (n:Nat),K.lookup a=some o/\o.cls=.type "list"/\o.dict=none/\o.data=.seq its n/\its.size<=sizeLine/\yo0 xs its.toList
def SqT(K:W.Frag)(H:Hp)(a:Addr)(xs:List V):Prop:=
 Rd H a (.tup xs)\/
  ∃ (o:Obj) (its:Array Value) (n:Nat),K.lookup a=some o/\o.cls=.type "tuple"/\o.data=.seq its n/\its.size<=sizeLine/\yo0 xs its.toList
def yo3:Value->Option V
 | .none=>some .non
 | .bool b=>some (.bl b)
 | .int i _=>some (.int i)
 | .str x _=>some (.str x)
 | .bytes b _=>some (.byt b)
 | .float b _=>some (.flt b)
 | .ref a=>some (.ref a)
 | .type n=>some (.ty n)
 |_=>none
theorem yoq.abs{x:V}{u:Value}(r:yoq x u):yo3 u=some x:=by
 cases x with
 |non=>cases r;rfl
 |bl _=>cases r;rfl
 |int _=>obtain⟨t,rfl⟩:=r;rfl
 |str _=>obtain⟨t,rfl⟩:=r;rfl
 |byt _=>obtain⟨t,rfl⟩:=r;rfl
 |flt _=>obtain⟨t,rfl⟩:=r;rfl
 |ref _=>cases r;rfl
 |ty _=>cases r;rfl
theorem yoq.inj{x y:V}{u:Value}(r:yoq x u)(q:yoq y u):x=y:=Option.some.inj (r.abs.symm.trans q.abs)
theorem yo0.inj:∀ {xs ys:List V} {us:List Value},yo0 xs us->yo0 ys us->xs=ys
 |_,_,_,.nil,.nil=>rfl
 |_,_,_,.cons r t,.cons r' t'=>by rw[r.inj r',yo0.inj t t']
section
variable{X:Cx}{pins:List (Addr × Obj)}{σ:St}{H:Hp}{s:Shared}{a:Addr}{xs ys:List V}
theorem SqL.of{K:W.Frag}(h:H a=some (.lst xs)):SqL K H a xs:=.inl (.inl h)
theorem SqT.of{K:W.Frag}(h:H a=some (.tup xs)):SqT K H a xs:=.inl (.inl h)
theorem Inv.list(I:Inv X pins σ H s)(h:SqL X.K H a xs):∃ its:List Value,yo0 xs its/\PlainL s.heap a its.toArray/\xs.length<=sizeLine:=by
 rcases h with h|⟨o,its,n,hk,hc,hd,hs,hz,r⟩
 ·obtain⟨z,its,n,r,e⟩:=h.ok I.hok;exact⟨its,r,⟨_,n,e,rfl,rfl,rfl⟩,z⟩
 ·refine⟨its.toList,r,⟨o,n,I.kIn a o hk,hc,hd,by simpa using hs⟩,?_⟩;have e:=r.length;simp only[Array.length_toList]at e;omega
theorem Inv.tuple(I:Inv X pins σ H s)(h:SqT X.K H a xs):∃ its:List Value,yo0 xs its/\IsTup s.heap a its.toArray/\xs.length<=sizeLine:=by
 rcases h with h|⟨o,its,n,hk,hc,hs,hz,r⟩
 ·obtain⟨z,its,r,p⟩:=h.ok I.hok;exact⟨its,r,p,z⟩
 ·refine⟨its.toList,r,⟨o,I.kIn a o hk,hc,n,by simpa using hs⟩,?_⟩;have e:=r.length;simp only[Array.length_toList]at e;omega
theorem Inv.list_inj(I:Inv X pins σ H s)(h:SqL X.K H a xs)(h':SqL X.K H a ys):xs=ys:=by
 obtain⟨its,r,⟨o,n,e,_,_,d⟩,_⟩:=I.list h;obtain⟨its',r',⟨o',n',e',_,_,d'⟩,_⟩:=I.list h';rw[e]at e';cases e';rw[d]at d';injection d' with d1 _;have:its=its':=by simpa using congrArg Array.toList d1
 subst this;exact r.inj r'
theorem Inv.tuple_inj(I:Inv X pins σ H s)(h:SqT X.K H a xs)(h':SqT X.K H a ys):xs=ys:=by
 obtain⟨its,r,⟨o,e,_,n,d⟩,_⟩:=I.tuple h;obtain⟨its',r',⟨o',e',_,n',d'⟩,_⟩:=I.tuple h';rw[e]at e';cases e';rw[d]at d';injection d' with d1 _;have:its=its':=by simpa using congrArg Array.toList d1
 subst this;exact r.inj r'
end
abbrev Cx.wish(X:Cx)(E:Value->Shared->Prop):Cx:={ X with xe:=E }
abbrev Cx.nox(X:Cx):Cx:=X.wish fun _ _=>False
theorem Cx.Ok.wish{X:Cx}(ok:X.Ok)(E:Value->Shared->Prop):(X.wish E).Ok:=
 ⟨ok.mod,ok.kind,ok.glob,ok.blt,ok.above,ok.inj,ok.has,ok.cab,ok.hd,ok.frames,ok.stk,ok.exf,ok.bs,ok.bsz,ok.noex,ok.exfs,ok.funs,ok.frf⟩
theorem Cx.Ok.unwish{X:Cx}{E:Value->Shared->Prop}(ok:(X.wish E).Ok):X.Ok:=
 ⟨ok.mod,ok.kind,ok.glob,ok.blt,ok.above,ok.inj,ok.has,ok.cab,ok.hd,ok.frames,ok.stk,ok.exf,ok.bs,ok.bsz,ok.noex,ok.exfs,ok.funs,ok.frf⟩
section
variable{X:Cx}{pins:List (Addr × Obj)}{σ:St}{H:Hp}{s:Shared}{E:Value->Shared->Prop}
theorem Inv.wish(I:Inv X pins σ H s)(E:Value->Shared->Prop):Inv (X.wish E) pins σ H s:=⟨I.ok.wish E,I.os,I.bare,I.base,I.loc,I.cell,I.free,I.freeC,I.pin,I.hok,I.len⟩
theorem Inv.unwish(I:Inv (X.wish E) pins σ H s):Inv X pins σ H s:=⟨I.ok.unwish,I.os,I.bare,I.base,I.loc,I.cell,I.free,I.freeC,I.pin,I.hok,I.len⟩
theorem SP.unwish{D:Ends}{f:Flow}{s':Shared}(h:SP (X.wish E) pins D f s'):SP X pins D f s':=by
 cases f with
 |next=>obtain⟨σ',H',I,q⟩:=h;exact⟨σ',H',I.unwish,q⟩
 |brk=>obtain⟨σ',H',I,q⟩:=h;exact⟨σ',H',I.unwish,q⟩
 |cont=>obtain⟨σ',H',I,q⟩:=h;exact⟨σ',H',I.unwish,q⟩
 |ret u=>obtain⟨v,σ',H',I,r,q⟩:=h;exact⟨v,σ',H',I.unwish,r,q⟩
theorem PE.nox{e:Expr}{t:TE}(h:PE X.nox e t):PE X e t:=fun pins s σ H Q I hw=>
 wpAny_mono (h pins s σ H Q (I.wish _) hw) (fun _ _ ⟨v,H',I',r,q⟩=>⟨v,H',I'.unwish,r,q⟩) fun _ _ z=>False.elim z
theorem PT.nox{e:Expr}{t:TT}(h:PT X.nox e t):PT X e t:=fun pins s σ H Q I hw=>
 wpAny_mono (h pins s σ H Q (I.wish _) hw) (fun _ _ ⟨H',I',q⟩=>⟨H',I'.unwish,q⟩) fun _ _ z=>False.elim z
theorem PSs.nox{st:List Stmt}{t:TS}(h:PSs X.nox st t):PSs X st t:=fun pins s σ H D I hw=>
 wpAny_mono (h pins s σ H D (I.wish _) hw) (fun _ _ q=>q.unwish) fun _ _ z=>False.elim z
end
section
variable{X:Cx}{st:Stmt}{yr1:List Stmt}{t u:TS}{e:Expr}{te:TE}{pos:Pos}
def ynh:TS:=fun D σ H=>D.nx σ H
def ys2(t u:TS):TS:=fun D σ H=>t { D with nx:=u D } σ H
theorem zxk:PSs X [] ynh:=fun _ _ σ H _ I h=>wpAny_execs_nil ⟨σ,H,I,h⟩
theorem zpu(h1:PS X st t)(h2:PSs X yr1 u):PSs X (st::yr1) (ys2 t u):=by
 intro pins s σ H D I h;refine wpAny_execs_cons (thn (h1 pins s σ H { D with nx:=u D } I h) fun f s1 q=>?_);cases f with
 |next=>
  obtain⟨σ',H',I',q⟩:=q;exact h2 pins s1 σ' H' D I' q
 |ret v=>exact q
 |brk=>exact q
 |cont=>exact q
theorem zxl(h1:PS X st t):PSs X [st] t:=by
 intro pins s σ H D I h;refine wpAny_execs_cons (thn (h1 pins s σ H D I h) fun f s1 q=>?_);cases f with
 |next=>exact wpAny_execs_nil q
 |ret v=>exact q
 |brk=>exact q
 |cont=>exact q
theorem Inv.quiet{pins:List (Addr × Obj)}{σ:St}{H:Hp}{s:Shared}(I:Inv X pins σ H s):interactive X.env=false:=by simp[interactive,I.ok.kind]
def yng(te:TE):TS:=fun D σ H=>te σ H fun _ H1=>D.nx σ H1
theorem zxj(he:PE X e te)(hs:swapsWith e none pos.line X.env=pure false:=by rfl):PS X (.Expr e pos) (yng te):=by
 intro pins s σ H D I h;exact wpAny_Expr_any (thn (he pins s σ H _ I h) fun v s1 ⟨x,H1,I1,r1,q1⟩=>⟨σ,H1,I1,q1⟩) I.quiet hs
def ys1(te:TE):TS:=fun D σ H=>te σ H D.rt
theorem yf4(he:PE X e te):PS X (.Return (some e) pos) (ys1 te):=by
 intro pins s σ H D I h;exact wpAny_Return_some (thn (he pins s σ H _ I h) fun v s1 ⟨x,H1,I1,r1,q1⟩=>⟨x,σ,H1,I1,r1,q1⟩)
def ysw(c:TT)(t u:TS):TS:=fun D σ H=>c σ H fun b H1=>if b=true then t D σ H1 else u D σ H1
theorem yl7{c:Expr}{a b:List Stmt}{tc:TT}(hc:PT X c tc)(ha:PSs X a t)(hb:PSs X b u):PS X (.If c a b pos) (ysw tc t u):=by
 intro pins s σ H D I h;refine wpAny_If (thn (hc pins s σ H _ I h) fun d s1 ⟨H1,I1,q1⟩=>?_);cases d with
 |true=>exact ha pins s1 σ H1 D I1 q1
 |false=>exact hb pins s1 σ H1 D I1 q1
end
abbrev TG:=V->St->Hp->(St->Hp->Prop)->Prop
abbrev TGs:=List V->St->Hp->(St->Hp->Prop)->Prop
def PG(X:Cx)(target:Expr)(t:TG):Prop:=
 ∀ (pins:List (Addr × Obj)) (s:Shared) (σ:St) (H:Hp) (v:V) (u:Value) (Q:St->Hp->Prop),Inv X pins σ H s->yoq v u->t v σ H Q->
  wpAny (model X.prog X.w) X.A (assign target X.env u) (fun _ s'=>∃ σ' H',Inv X pins σ' H' s'/\Q σ' H') X.xe s
def PGs(X:Cx)(ts:List Expr)(t:TGs):Prop:=
 ∀ (pins:List (Addr × Obj)) (s:Shared) (σ:St) (H:Hp) (vs:List V) (us:List Value) (Q:St->Hp->Prop),Inv X pins σ H s->yo0 vs us->t vs σ H Q->
  wpAny (model X.prog X.w) X.A (assignInOrder ((assignEach ts X.env).map (·.2)) us) (fun _ s'=>∃ σ' H',Inv X pins σ' H' s'/\Q σ' H') X.xe s
abbrev yox:=V->V->V->Hp->(Hp->Prop)->Prop
def yok(X:Cx)(t:yox):Prop:=
 ∀ (pins:List (Addr × Obj)) (s:Shared) (σ:St) (H:Hp) (o i v:V) (ov iv u:Value) (Q:Hp->Prop),Inv X pins σ H s->yoq o ov->yoq i iv->yoq v u->t o i v H Q->
  wpAny (model X.prog X.w) X.A (setItem ov iv u) (fun _ s'=>∃ H',Inv X pins σ H' s'/\Q H') X.xe s
section
variable{X:Cx}{pos:Pos}
def yju(i:Nat):TG:=fun v σ H Q=>Q (σ.set i (some v)) H
theorem zw9{i:Nat}{x:Str}(hN:X.N.Nodup)(hi:X.N[i]?=some x)(hx:Loc X.env.scope x)(hf:X.fn x=true\/X.env.scope.names.lookup x=some .local:=by first|exact .inl rfl|exact .inr rfl|assumption):PG X (.Name x pos) (yju i):=by
 intro pins s σ H v u Q I r h;exact wpAny_assign_Name (zq6 I hN hi hx r (fun s' I'=>⟨_,H,I',h⟩) hf)
def yqa:TGs:=fun vs σ H Q=>vs=[]/\Q σ H
def yjt(t:TG)(u:TGs):TGs:=fun vs σ H Q=>∃ v r,vs=v::r/\t v σ H fun σ' H'=>u r σ' H' Q
theorem zxa:PGs X [] yqa:=by
 intro pins s σ H vs us Q I r h;obtain⟨e,h⟩:=h;subst e;cases r;exact assignInOrder_nil ⟨σ,H,I,h⟩
theorem zpk{e:Expr}{es:List Expr}{t:TG}{u:TGs}(h1:PG X e t)(h2:PGs X es u)
  (hs:(assignEach (e::es) X.env).map (·.2)=assign e X.env::(assignEach es X.env).map (·.2):=by rfl):PGs X (e::es) (yjt t u):=by
 intro pins s σ H vs us Q I r h;obtain⟨v,vr,e1,h⟩:=h;subst e1;cases r with
 |cons r rr=>
  rw[hs];refine assignInOrder_cons (thn (h1 pins s σ H _ _ _ I r h) fun _ s1 ⟨σ1,H1,I1,q1⟩=>?_);exact h2 pins s1 σ1 H1 _ _ Q I1 rr q1
def yqc(K:W.Frag)(n:Nat)(t:TGs):TG:=fun v σ H Q=>∃ a xs,v=.ref a/\SqT K H a xs/\xs.length=n/\t xs σ H Q
theorem yfv{es:List Expr}{k:Nat}{t:TGs}{n:Nat}(hc:X.calm=true)(h:PGs X es t)
  (hn:(assignEach es X.env).length=n:=by rfl) (hst:(assignEach es X.env).findIdx? (·.1)=none:=by rfl):PG X (.Tuple es k pos) (yqc X.K n t):=by
 intro pins s σ H v u Q I r hw;obtain⟨a,xs,e1,hq,hl,hw⟩:=hw;subst e1;cases r;obtain⟨its,rv,ht,hz⟩:=I.tuple hq;refine assign_Tuple_tuple (I.ok.hd hc) ht (by simp[hn,<-hl,rv.length]) hst fun h' hx=>?_;have I1:Inv X pins σ H { s with heap:=h' }:=I.kept (t':=s.toks) fun b o e=>hx b o (Nat.ne_of_lt (Heap.lt_size e)) e;exact h pins _ σ H xs _ Q I1 (by simpa using rv) hw
def yqb(to ti:TE)(t:yox):TG:=fun v σ H Q=>to σ H fun o H1=>ti σ H1 fun i H2=>t o i v H2 fun H3=>Q σ H3
theorem yfu{o i:Expr}{to ti:TE}{t:yox}(ho:PE X o to)(hi:PE X i ti)(hs:yok X t)
  (ha:∀ v,assign (.Subscript o i pos) X.env v=(do
   let ov <-holding [v] (eval o X.env);let iv <-holding [v,ov] (eval i X.env)
   standAt pos
   holding [v,ov,iv] (setItem ov iv v)
   release [v,ov,iv] []):=by intro _;rfl):PG X (.Subscript o i pos) (yqb to ti t):=by
 intro pins s σ H v u Q I r h;rw[ha];refine wpAny_bind (wpAny_holding (thn (ho pins s σ H _ I h) fun ov s1 ⟨x,H1,I1,r1,q1⟩=>?_));refine wpAny_bind (wpAny_holding (thn (hi pins s1 σ H1 _ I1 q1) fun iv s2 ⟨y,H2,I2,r2,q2⟩=>?_));refine wpAny_bind (wpAny_standAt (wpAny_bind (wpAny_holding (thn (hs pins s2 σ H2 x y v ov iv u _ I2 r1 r2 r q2) fun _ s3 ⟨H3,I3,q3⟩=>?_))));exact wpAny_release ⟨σ,H3,I3,q3⟩
def ysr(te:TE)(g:TG):TS:=fun D σ H=>te σ H fun x H1=>g x σ H1 D.nx
theorem yf0{tg e:Expr}{te:TE}{g:TG}(he:PE X e te)(hg:PG X tg g)(hs:swapsWithSole [tg] e pos.line X.env=pure false:=by rfl)(hw:swappedStores [tg] e X.env=pure none:=by rfl)
  (h1:(assignEach [tg] X.env).map (·.2)=[assign tg X.env]:=by rfl):PS X (.Assign [tg] e pos) (ysr te g):=by
 intro pins s σ H D I h;refine wpAny_Assign_stores (thn (he pins s σ H _ I h) fun v s1 ⟨x,H1,I1,r1,q1⟩=>?_) hs hw;rw[h1];exact thn (hg pins s1 σ H1 x v _ I1 r1 q1) fun _ s2 q=>q
theorem yf5{i:Nat}{x:Str}{e:Expr}{te:TE}{pos':Pos}(hN:X.N.Nodup)(hi:X.N[i]?=some x)(hx:Loc X.env.scope x)(he:PE X e te)(hs:swapsWith e (some (.Name x pos')) pos.line X.env=pure false:=by rfl)(hf:X.fn x=true\/X.env.scope.names.lookup x=some .local:=by first|exact .inl rfl|exact .inr rfl|assumption) :
  PS X (.Assign [.Name x pos'] e pos) (ysr te (yju i)):=by
 intro pins s σ H D I h;refine wpAny_Assign_Name (thn (he pins s σ H _ I h) fun v s1 ⟨y,H1,I1,r1,q1⟩=>?_) hs;exact zq6 I1 hN hi hx r1 (fun s2 I2=>⟨_,H1,I2,q1⟩) hf
end
section
variable{X:Cx}{pos:Pos}
end
structure It where
 go:Nat->Hp->Prop
 yld:Nat->Hp->V->Hp->Prop
 stop:Nat->Hp->Prop
def yoc(X:Cx)(pins:List (Addr × Obj))(H:Hp)(b:Addr):Prop:=
 H b=none/\b≠X.env.locals/\b ∉ X.fs/\(b∈X.ex\/X.s₀.heap.objs.size<=b)/\(∀ x c,X.env.cells.lookup x=some c->c≠b)/\∀ p∈X.pn++pins,p.1≠b
theorem Inv.fpOk{X:Cx}{pins:List (Addr × Obj)}{σ:St}{H H':Hp}{s:Shared}{b:Addr}(I:Inv X pins σ H s)(hb:s.heap.objs.size<=b)(hn:H' b=none):yoc X pins H' b:=by
 refine⟨hn,Nat.ne_of_gt (Nat.lt_of_lt_of_le I.lt hb),I.nofs hb,.inr (Nat.le_trans I.sz hb),fun x c e z=>?_,fun p hp z=>?_⟩
 ·obtain⟨v,q⟩:=I.cell x c e;exact absurd (Nat.lt_of_lt_of_le q.lt (by rw[z];exact hb)) (Nat.lt_irrefl _)
 ·exact absurd (Nat.lt_of_lt_of_le (Heap.lt_size (I.pin p hp).1) (by rw[z];exact hb)) (Nat.lt_irrefl _)
structure Turn(P:Program)(w:World)(K:W.Frag)(tg:Expr)(J:It)(fp:List Addr)(it:Addr)(tn:Nat->Heap->Prop):Prop where
 mem:it∈fp
 obj:∀ i h,tn i h->∀ b∈fp,∃ o,h.get? b=some o/\∀ v,o.data≠.cell v
 keep:∀ i h h',tn i h->(∀ b∈fp,∀ o,h.get? b=some o->h'.get? b=some o)->tn i h'
 item:∀ (X:Cx),X.prog=P->X.w=w->X.K=K->X.calm=true->∀ (i:Nat) (pins:List (Addr × Obj)) (s:Shared) (σ:St) (H:Hp) (E:Value->Shared->Prop),Inv X pins σ H s->(∀ b∈fp,yoc X pins H b)->tn i s.heap->J.go i H->
  wpAny (model P w) X.A (pyNext (.ref it)) (fun r s1=>∃ u,r=some u/\
   wpAny (model P w) X.A (letOwnedTupleGo tg (.ref it) u) (fun _ s2=>∃ x H',Inv X pins σ H' s2/\yoq x u/\J.yld i H x H'/\tn (i+1) s2.heap/\∀ b∈fp,H' b=none) E s1) E s
 done:∀ (X:Cx),X.prog=P->X.w=w->X.K=K->X.calm=true->∀ (i:Nat) (pins:List (Addr × Obj)) (s:Shared) (σ:St) (H:Hp) (E:Value->Shared->Prop),Inv X pins σ H s->(∀ b∈fp,yoc X pins H b)->tn i s.heap->J.stop i H->
  wpAny (model P w) X.A (pyNext (.ref it)) (fun r s1=>r=none/\Inv X pins σ H s1) E s
 self:∀ (A:Around) (i:Nat) (s:Shared) (Q:Value->Shared->Prop) (E:Value->Shared->Prop),tn i s.heap->Q (.ref it) s->wpAny (model P w) A (pyIter (.ref it)) Q E s
abbrev TI:=St->Hp->(It->Hp->Prop)->Prop
def PIE(X:Cx)(pins:List (Addr × Obj))(σ:St)(tg:Expr)(R:It->Hp->Prop)(itv:Value)(s2:Shared):Prop:=
 ∃ (it:Addr) (fp:List Addr) (tn:Nat->Heap->Prop) (J:It) (H':Hp),itv=.ref it/\Inv X pins σ H' s2/\Turn X.prog X.w X.K tg J fp it tn/\tn 0 s2.heap/\(∀ b∈fp,yoc X pins H' b)/\R J H'
def PI(X:Cx)(tg iter:Expr)(wi:TI):Prop:=
 ∀ (pins:List (Addr × Obj)) (s:Shared) (σ:St) (H:Hp) (R:It->Hp->Prop),Inv X pins σ H s->wi σ H R->
  wpAny (model X.prog X.w) X.A (eval iter X.env) (fun v s1=>wpAny (model X.prog X.w) X.A (pyIter v) (PIE X pins σ tg R) X.xe s1) X.xe s
theorem yjw {M : Model} {A : Around} {E : Value -> Shared -> Prop} {s : Shared} {tg : Expr} {it : Addr} {u : Value} {o : Obj} {n : String} {vs : Array Value} {Q : Unit -> Shared -> Prop} (ho : s.heap.get? it = some o) (hc : o.cls = .type n) (hd : o.data = .fields vs)
    (hn : ["enumerate", "zip", "dict_itemiterator", "dict_reverseitemiterator", "odict_iterator", "itertools.zip_longest", "itertools.pairwise"].contains n = false) (hQ : Q () s) : wpAny M A (letOwnedTupleGo tg (.ref it) u) Q E s := by
  unfold letOwnedTupleGo;cases tg <;> first
    | exact wpAny_pure hQ
    | (cases u <;> first
        | exact wpAny_pure hQ
        | (refine wpAny_bind (wpAny_load ho ?_)
           rw [hc, hd];show wpAny M A (if (["enumerate", "zip", "dict_itemiterator", "dict_reverseitemiterator", "odict_iterator", "itertools.zip_longest", "itertools.pairwise"].contains n && vs[0]? == some (rawInt _)) = true then _ else _) Q E s;rw [if_neg (by intro h; rw [hn, Bool.false_and] at h; cases h)];exact wpAny_pure hQ))
def Itl(K:W.Frag)(a:Addr):It:=
 ⟨fun i H=>∃ xs x,SqL K H a xs/\xs[i]?=some x,fun i H x H'=>H'=H/\∀ xs,SqL K H a xs->xs[i]?=some x,fun i H=>∃ xs,SqL K H a xs/\xs.length<=i⟩
def Itt(K:W.Frag)(a:Addr):It:=
 ⟨fun i H=>∃ xs x,SqT K H a xs/\xs[i]?=some x,fun i H x H'=>H'=H/\∀ xs,SqT K H a xs->xs[i]?=some x,fun i H=>∃ xs,SqT K H a xs/\xs.length<=i⟩
def Itr(lo:Int)(n:Nat):It:=⟨fun i _=>i<n,fun i H x H'=>H'=H/\x=.int (lo+i),fun i _=>n<=i⟩
theorem zkx{P:Program}{w:World}{K:W.Frag}{tg:Expr}(a it:Addr):Turn P w K tg (Itl K a) [it] it (fun i h=>h.IsListIter it a i) where
 mem:=by simp
 obj:=fun i h st b hb=>by
  have e:b=it:=by simpa using hb
  subst e;obtain⟨o,e,c,d⟩:=st;exact⟨o,e,fun v z=>by rw[d]at z;cases z⟩
 keep:=fun i h h' st k=>st.at fun o e=>k it (by simp) o e
 item:=by
  intro X hP hw hK hc i pins s σ H E I hf st hg;subst hP hw hK;obtain⟨xs,x,hq,hx⟩:=hg;obtain⟨its,rv,p,hz⟩:=I.list hq;obtain⟨u,hu,ru⟩:=rv.get hx;obtain⟨f0,f1,f2,f3,f4,f5⟩:=hf it (by simp);refine wpAny_pyNext_list_item st p.isList (x:=u) (by simpa using hu) fun h' st' sb=>?_;have I1:Inv X pins σ H { s with heap:=h' }:=I.turned (t':=s.toks) (fun b o hb e=>(sb.2 b hb).trans e) f0 f1 f3 f4 f5;obtain⟨o,e,c,d⟩:=id st';exact⟨u,rfl,yjw (s:={ s with heap:=h' }) e c d (by decide) ⟨x,H,I1,ru,⟨rfl,fun ys hy=>by rw[I.list_inj hy hq];exact hx⟩,st',fun b hb=>(hf b hb).1⟩⟩
 done:=by
  intro X hP hw hK hc i pins s σ H E I hf st hg;subst hP hw hK;obtain⟨xs,hq,hx⟩:=hg;obtain⟨its,rv,p,hz⟩:=I.list hq;obtain⟨f0,f1,f2,f3,f4,f5⟩:=hf it (by simp);have hl:=rv.length;exact wpAny_pyNext_list_end (I.ok.hd hc) st p.isList (by simp;omega) fun h' eb=>⟨rfl,I.turned (t':=s.toks) (fun b o hb e=>eb b o hb e) f0 f1 f3 f4 f5⟩
 self:=fun _ _ _ _ _ st h=>wpAny_pyIter_listiter st h
theorem zhg{P:Program}{w:World}{K:W.Frag}{tg:Expr}(a it:Addr):Turn P w K tg (Itt K a) [it] it (fun i h=>h.IsTupleIter it a i) where
 mem:=by simp
 obj:=fun i h st b hb=>by
  have e:b=it:=by simpa using hb
  subst e;obtain⟨o,e,c,d⟩:=st;exact⟨o,e,fun v z=>by rw[d]at z;cases z⟩
 keep:=fun i h h' st k=>st.at fun o e=>k it (by simp) o e
 item:=by
  intro X hP hw hK hc i pins s σ H E I hf st hg;subst hP hw hK;obtain⟨xs,x,hq,hx⟩:=hg;obtain⟨its,rv,p,hz⟩:=I.tuple hq;obtain⟨u,hu,ru⟩:=rv.get hx;obtain⟨f0,f1,f2,f3,f4,f5⟩:=hf it (by simp);refine wpAny_pyNext_tuple_item st (show s.heap.IsTuple a its.toArray from p) (x:=u) (by simpa using hu) fun h' st' sb=>?_;have I1:Inv X pins σ H { s with heap:=h' }:=I.turned (t':=s.toks) (fun b o hb e=>(sb.2 b hb).trans e) f0 f1 f3 f4 f5;obtain⟨o,e,c,d⟩:=id st';exact⟨u,rfl,yjw (s:={ s with heap:=h' }) e c d (by decide) ⟨x,H,I1,ru,⟨rfl,fun ys hy=>by rw[I.tuple_inj hy hq];exact hx⟩,st',fun b hb=>(hf b hb).1⟩⟩
 done:=by
  intro X hP hw hK hc i pins s σ H E I hf st hg;subst hP hw hK;obtain⟨xs,hq,hx⟩:=hg;obtain⟨its,rv,p,hz⟩:=I.tuple hq;obtain⟨f0,f1,f2,f3,f4,f5⟩:=hf it (by simp);have hl:=rv.length;exact wpAny_pyNext_tuple_end (I.ok.hd hc) st (show s.heap.IsTuple a its.toArray from p) (by simp;omega) fun h' eb=>⟨rfl,I.turned (t':=s.toks) (fun b o hb e=>eb b o hb e) f0 f1 f3 f4 f5⟩
 self:=fun _ _ _ _ _ st h=>wpAny_pyIter_tupleiter st h
theorem zhf{P:Program}{w:World}{K:PySem.W.Frag}{tg:Expr}(it:Addr)(lo:Int)(n:Nat):Turn P w K tg (Itr lo n) [it] it (fun i h=>IsRangeIter h it (lo+(i:Nat) * 1) ((n:Int) - (i:Nat)) 1) where
 mem:=by simp
 obj:=fun i h st b hb=>by
  have e:b=it:=by simpa using hb
  subst e;exact⟨_,st,fun v z=>by
   have z':Data.fields _=Data.cell v:=z;cases z'⟩
 keep:=fun i h h' st k=>k it (by simp) _ st
 item:=by
  intro X hP hw hK hc i pins s σ H E I hf st hg;subst hP hw hK;obtain⟨f0,f1,f2,f3,f4,f5⟩:=hf it (by simp);have W:=Walks.range (prog:=X.prog) (w:=X.w) (I.ok.hd hc) it lo 1 n;refine W.item i s _ _ hg st fun v h' tk hv st' kk=>?_;obtain⟨t,rfl⟩:=hv;have I1:Inv X pins σ H { s with heap:=h',toks:=tk }:=I.turned (fun b o hb e=>kk b o (by simpa using hb) e) f0 f1 f3 f4 f5;refine⟨_,rfl,yjw (s:={ s with heap:=h',toks:=tk }) (n:="range_iterator") st' rfl rfl (by decide) ⟨.int (lo+i),H,I1,⟨t,?_⟩,⟨rfl,rfl⟩,st',fun b hb=>(hf b hb).1⟩⟩;rw[Int.mul_one]
 done:=by
  intro X hP hw hK hc i pins s σ H E I hf st hg;subst hP hw hK;obtain⟨f0,f1,f2,f3,f4,f5⟩:=hf it (by simp);exact wpAny_pyNext_range_end (I.ok.hd hc) st (by have:n<=i:=hg;omega) fun h' eb=>⟨rfl,I.turned (t':=s.toks) (fun b o hb e=>eb b o hb e) f0 f1 f3 f4 f5⟩
 self:=fun _ _ _ _ _ st h=>wpAny_pyIter_rangeiter st h
section
variable{X:Cx}{tg:Expr}
theorem zp0{pins:List (Addr × Obj)}{σ:St}{H:Hp}{s:Shared}{R:It->Hp->Prop}{E:Value->Shared->Prop}{lo hi:Int}{t u v:Tok}{tk:Nat}(I:Inv X pins σ H s)(h1:-(2 ^ 62)<=lo)(h2:lo<2 ^ 62)(h3:-(2 ^ 62)<=hi)(h4:hi<2 ^ 62)
  (q:R (Itr lo (hi - lo).toNat) H):wpAny (model X.prog X.w) X.A (pyIter (.ref s.heap.objs.size)) (PIE X pins σ tg R) E { s with heap:=s.heap.push { cls:=.type "range",data:=.fields #[.int lo t,.int hi u,.int 1 v] },toks:=tk }:=by
 refine wpAny_pyIter_range (IsRange.new ..) (small_one h1 h2 h3 h4) ?_;have I1:Inv X pins σ H { s with heap:=s.heap.push { cls:=.type "range",data:=.fields #[.int lo t,.int hi u,.int 1 v] },toks:=tk }:=I.kept fun b o e=>Heap.get?_push_of_some _ e;refine⟨(s.heap.push { cls:=.type "range",data:=.fields #[.int lo t,.int hi u,.int 1 v] }).objs.size,[(s.heap.push { cls:=.type "range",data:=.fields #[.int lo t,.int hi u,.int 1 v] }).objs.size],_,_,H,rfl,
  I1.kept (t':=tk) fun b o e=>Heap.get?_push_of_some _ e,zhf _ lo (hi - lo).toNat,?_,fun b hb=>?_,q⟩
 ·have e1:lo+((0:Nat):Int) * 1=lo:=by simp
  have e2:(((hi - lo).toNat:Nat):Int) - ((0:Nat):Int)=Builtin.Range.rangeSize lo hi 1:=by rw[rangeSize_one];split<;>omega
  show IsRangeIter _ _ (lo+((0:Nat):Int) * 1) ((((hi - lo).toNat:Nat):Int) - ((0:Nat):Int)) 1;rw[e1,e2];exact Heap.get?_push_size _ rfl
 ·have e:b=(s.heap.push { cls:=.type "range",data:=.fields #[.int lo t,.int hi u,.int 1 v] }).objs.size:=by simpa using hb
  subst e;exact I1.fpOk (Nat.le_refl _) (I1.hok.fresh (Nat.le_refl _))
def yj0(ta:TA):TI:=fun σ H R=>ta σ H fun vs H1=>∃ j:Int,vs=[.int j]/\-(2 ^ 62)<=j/\j<2 ^ 62/\R (Itr 0 j.toNat) H1
theorem zj0{a:Expr}{ta:TA}{p pos:Pos}(hg:Gl X "range")(hm:X.mg "range" = none)(ha:PA X [a] ta)(hs:starEach [a] X.env=[(false,eval a X.env)]:=by rfl):PI X tg (.Call (.Name "range" p) [a] [] pos) (yj0 ta):=by
 intro pins s σ H R I h;refine Call_ (yd8 I hg hm boot_range (PyProof.Rows.callWith_type1 (thn (ha pos pins s σ H _ I h) fun us s1 ⟨vs,H1,I1,r1,q1⟩=>?_) hs rfl));obtain⟨j,e,q1,q2,q⟩:=q1;subst e;cases r1 with
 |cons r rr=>
  cases rr;obtain⟨t,rfl⟩:=r;exact call_range_1 (zp0 I1 (by omega) (by omega) q1 q2 (by simpa using q))
def ysv(wi:TI)(g:TG)(tb:TS):TS:=fun D σ H=>wi σ H fun J H1=>∃ W:Nat->Nat->St->Hp->Prop,(∃ m,W 0 m σ H1)/\∀ i m σ H,W i m σ H->
 (J.stop i H/\D.nx σ H)\/(J.go i H/\∃ N:St->Hp->Prop,(∀ σ' H',N σ' H'->∃ m',m'<m/\W (i+1) m' σ' H')/\∀ x H',J.yld i H x H'->g x σ H' fun σ2 H2=>tb { D with nx:=N,ct:=N,bk:=D.nx } σ2 H2)
def yfx(fp:List Addr)(h:Heap):List (Addr × Obj):=fp.filterMap fun b=>(h.get? b).map fun o=>(b,o)
theorem zgf{fp:List Addr}{h:Heap}{b:Addr}{o:Obj}(hb:b∈fp)(e:h.get? b=some o):(b,o)∈yfx fp h:=List.mem_filterMap.mpr ⟨b,hb,by rw[e];rfl⟩
theorem zjv{fp:List Addr}{h:Heap}{p:Addr × Obj}(hp:p∈yfx fp h):p.1∈fp/\h.get? p.1=some p.2:=by
 obtain⟨b,hb,e⟩:=List.mem_filterMap.mp hp;cases q:h.get? b with
 |none=>rw[q]at e;cases e
 |some o=>
  rw[q]at e;have e':(b,o)=p:=Option.some.inj e;subst e';exact⟨hb,q⟩
theorem Inv.pinned{pins:List (Addr × Obj)}{σ:St}{H:Hp}{s:Shared}{fp:List Addr}(I:Inv X pins σ H s)(hf:∀ b∈fp,yoc X pins H b)(ho:∀ b∈fp,∃ o,s.heap.get? b=some o/\∀ v,o.data≠.cell v):Inv X (pins++yfx fp s.heap) σ H s:=
 I.pins_of fun p hp=>(List.mem_append.mp hp).elim (fun z=>I.pin p (List.mem_append_right _ z)) fun z=>by
  obtain⟨hb,e⟩:=zjv z;obtain⟨f0,f1,f2,_⟩:=hf p.1 hb;obtain⟨o,e',d⟩:=ho p.1 hb;rw[e]at e';cases e';exact⟨e,f0,f1,f2,d⟩
theorem Inv.unpinned{pins pl:List (Addr × Obj)}{σ:St}{H:Hp}{s:Shared}(I:Inv X (pins++pl) σ H s):Inv X pins σ H s:=I.pins_of fun p hp=>I.pin p (List.mem_append_right _ (List.mem_append_left _ hp))
theorem yf2{iter:Expr}{body:List Stmt}{wi:TI}{g:TG}{tb:TS}{pos:Pos}(hp:PassesOwn (model X.prog X.w) X.A X.env X.xe)(hc:X.calm=true)(hi:PI X tg iter wi)(hg:PG X tg g)(hb:PSs X body tb)
  (hs:∀ x,foldedSetIterable iter X.env x=pure x:=by intro _;rfl):PS X (.For tg iter body [] pos) (ysv wi g tb):=by
 intro pins s σ H D I h;refine wpAny_For (thn (hi pins s σ H _ I h) fun v s1 h1=>thn h1 fun itv s2 h2=>?_) hs;obtain⟨it,fp,tn,J,H2,e,I2,T,st2,f2,W,⟨m0,w0⟩,turn⟩:=h2;subst e;have stat:∀ {H':Hp},(∀ b∈fp,H' b=none)->∀ b∈fp,yoc X pins H' b:=fun hn b hb=>⟨hn b hb,(f2 b hb).2⟩
 refine codeAny_forLoop_any (fun n s'=>∃ i σ' H',Inv X pins σ' H' s'/\tn i s'.heap/\(∀ b∈fp,H' b=none)/\W i n σ' H') ?_ m0 ⟨0,σ,H2,I2,st2,fun b hb=>(f2 b hb).1,w0⟩;rintro n s3 ⟨i,σ3,H3,I3,st3,fr3,w3⟩;rcases turn i n σ3 H3 w3 with⟨stop,qn⟩|⟨go,N,hN,step⟩
 ·refine wpAny_passesOwn hp (thn (T.done X rfl rfl rfl hc i pins s3 σ3 H3 X.xe I3 (stat fr3) st3 stop) fun r s4 ⟨hr,I4⟩=>?_);subst hr;exact wpAny_execs_nil ⟨σ3,H3,I4,qn⟩
 ·refine wpAny_passesOwn hp (thn (T.item X rfl rfl rfl hc i pins s3 σ3 H3 X.xe I3 (stat fr3) st3 go) fun r s4 ⟨u,hr,h4⟩=>?_);subst hr;refine wpAny_passesOwn hp (thn h4 fun _ s5 ⟨x,H5,I5,r5,y5,st5,fr5⟩=>?_);have I5':=I5.pinned (stat fr5) (T.obj _ _ st5);refine wpAny_passesOwn hp (thn (hg _ s5 σ3 H5 x u _ I5' r5 (step x H5 y5)) fun _ s6 ⟨σ6,H6,I6,q6⟩=>?_);refine wpAny_passesOwn hp (thn (hb _ s6 σ6 H6 _ I6 q6) fun f s7 q7=>?_);have again:∀ {σ7:St} {H7:Hp},Inv X (pins++yfx fp s5.heap) σ7 H7 s7->N σ7 H7->∃ m,m<n/\∃ i σ' H',Inv X pins σ' H' s7/\tn i s7.heap/\(∀ b∈fp,H' b=none)/\W i m σ' H':=fun {σ7 H7} I7 n7=>by
   obtain⟨m',hm,w7⟩:=hN σ7 H7 n7;refine⟨m',hm,i+1,σ7,H7,I7.unpinned,T.keep _ _ _ st5 fun b hb o e=>(I7.pin (b,o) (List.mem_append_right _ (List.mem_append_right _ (zgf hb e)))).1,fun b hb=>?_,w7⟩;obtain⟨o,e,d⟩:=T.obj _ _ st5 b hb;exact(I7.pin (b,o) (List.mem_append_right _ (List.mem_append_right _ (zgf hb e)))).2.1
  cases f with
  |next=>obtain⟨σ7,H7,I7,n7⟩:=q7;exact again I7 n7
  |cont=>obtain⟨σ7,H7,I7,n7⟩:=q7;exact again I7 n7
  |brk=>obtain⟨σ7,H7,I7,q7⟩:=q7;exact⟨σ7,H7,I7.unpinned,q7⟩
  |ret v=>obtain⟨x7,σ7,H7,I7,r7,q7⟩:=q7;exact⟨x7,σ7,H7,I7.unpinned,r7,q7⟩
end
abbrev R2:=V->V->Hp->VK->Prop
def OpR(X:Cx)(f:Value->Value->Sem Value)(r:R2):Prop:=
 ∀ (pins:List (Addr × Obj)) (s:Shared) (σ:St) (H:Hp) (x y:V) (v u:Value) (Q:VK),Inv X pins σ H s->yoq x v->yoq y u->r x y H Q->
  wpAny (model X.prog X.w) X.A (f v u) (EP X pins σ Q) X.xe s
def UnR(X:Cx)(f:Value->Sem Value)(r:V->Hp->VK->Prop):Prop:=
 ∀ (pins:List (Addr × Obj)) (s:Shared) (σ:St) (H:Hp) (x:V) (v:Value) (Q:VK),Inv X pins σ H s->yoq x v->r x H Q->
  wpAny (model X.prog X.w) X.A (f v) (EP X pins σ Q) X.xe s
def yh0(X:Cx)(f:Value)(r:List V->Hp->VK->Prop):Prop:=
 ∀ (pins:List (Addr × Obj)) (s:Shared) (σ:St) (H:Hp) (xs:List V) (us:List Value) (Q:VK),Inv X pins σ H s->yo0 xs us->r xs H Q->
  wpAny (model X.prog X.w) X.A (call f us) (EP X pins σ Q) X.xe s
def tOp(r:R2)(ta tb:TE):TE:=fun σ H Q=>ta σ H fun x H1=>tb σ H1 fun y H2=>r x y H2 Q
def tUn(r:V->Hp->VK->Prop)(ta:TE):TE:=fun σ H Q=>ta σ H fun x H1=>r x H1 Q
def rI(C:Int->Int->Prop)(g:Int->Int->V):R2:=fun x y H Q=>∃ i j,x=.int i/\y=.int j/\C i j/\Q (g i j) H
def rI0(g:Int->Int->V):R2:=fun x y H Q=>∃ i j,x=.int i/\y=.int j/\Q (g i j) H
def rU(g:Int->V):V->Hp->VK->Prop:=fun x H Q=>∃ i,x=.int i/\Q (g i) H
section
variable{X:Cx}{a b c:Expr}{ta tb tc:TE}{pos:Pos}
theorem ypd(ha:PE X a ta)(hb:PE X b tb){pins:List (Addr × Obj)}{s:Shared}{σ:St}{H:Hp}{R:V->V->Hp->Prop}(I:Inv X pins σ H s)
  (h:ta σ H fun x H1=>tb σ H1 fun y H2=>R x y H2) {Q:Value->Shared->Prop} {f:Value->Value->Sem Value}
  (hf:∀ v u s2 x y H2,Inv X pins σ H2 s2->yoq x v->yoq y u->R x y H2->wpAny (model X.prog X.w) X.A (f v u) Q X.xe s2) :
  wpAny (model X.prog X.w) X.A (eval a X.env) (fun v s₁=>wpAny (model X.prog X.w) X.A (eval b X.env) (fun u s₂=>wpAny (model X.prog X.w) X.A (f v u) Q X.xe s₂) X.xe s₁) X.xe s:=by
 refine thn (ha pins s σ H _ I h) fun v s1 ⟨x,H1,I1,r1,q1⟩=>?_;refine thn (hb pins s1 σ H1 _ I1 q1) fun u s2 ⟨y,H2,I2,r2,q2⟩=>?_;exact hf v u s2 x y H2 I2 r1 r2 q2
theorem yl4{op:Operator}{r:R2}(ho:OpR X (binaryOp op) r)(ha:PE X a ta)(hb:PE X b tb):PE X (.BinOp a op b pos) (tOp r ta tb):=by
 intro pins s σ H Q I h;exact wpAny_BinOp (ypd ha hb I h fun v u s2 x y H2 I2 rx ry q=>ho pins s2 σ H2 x y v u Q I2 rx ry q)
theorem yl6{op:UnaryOp}{r:V->Hp->VK->Prop}(ho:UnR X (unaryOp op) r)(ha:PE X a ta):PE X (.UnaryOp op a pos) (tUn r ta):=by
 intro pins s σ H Q I h;exact UnaryOp_ (thn (ha pins s σ H _ I h) fun v s1 ⟨x,H1,I1,r1,q1⟩=>ho pins s1 σ H1 x v Q I1 r1 q1)
theorem opI{f:Value->Value->Sem Value}{C:Int->Int->Prop}{g:Int->Int->Int}
  (rule:∀ (i j:Int) (t u:Tok) (s:Shared) (Q:Value->Shared->Prop) (E:Value->Shared->Prop),C i j->Q (.int (g i j) s.toks) { s with toks:=s.toks+1 }->wpAny (model X.prog X.w) X.A (f (.int i t) (.int j u)) Q E s) :
  OpR X f (rI C fun i j=>.int (g i j)):=by
 intro pins s σ H x y v u Q I rx ry h;obtain⟨i,j,rfl,rfl,hc,q⟩:=h;obtain⟨t,rfl⟩:=rx;obtain⟨t',rfl⟩:=ry;exact rule i j t t' s _ _ hc ⟨.int (g i j),H,I.tok _,⟨_,rfl⟩,q⟩
theorem yrk{f:Value->Value->Sem Value}{g:Int->Int->Int}
  (rule:∀ (i j:Int) (t u:Tok) (s:Shared) (Q:Value->Shared->Prop) (E:Value->Shared->Prop),Q (.int (g i j) s.toks) { s with toks:=s.toks+1 }->wpAny (model X.prog X.w) X.A (f (.int i t) (.int j u)) Q E s) :
  OpR X f (rI0 fun i j=>.int (g i j)):=by
 intro pins s σ H x y v u Q I rx ry h;obtain⟨i,j,rfl,rfl,q⟩:=h;obtain⟨t,rfl⟩:=rx;obtain⟨t',rfl⟩:=ry;exact rule i j t t' s _ _ ⟨.int (g i j),H,I.tok _,⟨_,rfl⟩,q⟩
theorem yrj{f:Value->Value->Sem Value}{g:Int->Int->Bool}
  (rule:∀ (i j:Int) (t u:Tok) (s:Shared) (Q:Value->Shared->Prop) (E:Value->Shared->Prop),Q (.bool (g i j)) s->wpAny (model X.prog X.w) X.A (f (.int i t) (.int j u)) Q E s) :
  OpR X f (rI0 fun i j=>.bl (g i j)):=by
 intro pins s σ H x y v u Q I rx ry h;obtain⟨i,j,rfl,rfl,q⟩:=h;obtain⟨t,rfl⟩:=rx;obtain⟨t',rfl⟩:=ry;exact rule i j t t' s _ _ ⟨.bl (g i j),H,I,rfl,q⟩
def yn5(i j:Int):Prop:=0<j/\j<1073741824
def yn7(i j:Int):Prop:=0<=j/\j<=1000000/\i.natAbs<2 ^ 64
def yn6(i j:Int):Prop:=(-(2 ^ 64)<i/\i<2 ^ 64)\/(-(2 ^ 64)<j/\j<2 ^ 64)
theorem yn6.ok{i j:Int}(h:yn6 i j):IntMulOk i j:=by
 rcases h with⟨h1,h2⟩|⟨h1,h2⟩
 ·exact .of_left (intBits_le_64 h1 h2)
 ·exact .of_right (intBits_le_64 h1 h2)
theorem zhh(k:Nat):(0:Int)<=2 ^ k:=by
 rw[two_pow_cast];exact Int.natCast_nonneg _
theorem ye7:OpR X (binaryOp .Add) (rI0 fun i j=>.int (i+j)):=yrk fun _ _ _ _ _ _ _ q=>add_int q
theorem yfh:OpR X (binaryOp .Sub) (rI0 fun i j=>.int (i - j)):=yrk fun _ _ _ _ _ _ _ q=>sub_int q
theorem yfd:OpR X (binaryOp .Mult) (rI yn6 fun i j=>.int (i * j)):=opI fun _ _ _ _ _ _ _ hc q=>mul_int q hc.ok
theorem zwv:OpR X (binaryOp .FloorDiv) (rI yn5 fun i j=>.int (i / j)):=opI fun i j _ _ _ _ _ hc q=>by
 have h1:(0:Int)<j:=hc.1;have h2:j<1073741824:=hc.2;exact floordiv_int (by omega) (by rw[Int.fdiv_eq_ediv_of_nonneg i (by omega)];exact q) (.inl (PyProof.noPylong_small (by omega)))
theorem yfc:OpR X (binaryOp .Mod) (rI (fun _ j=>0<j) fun i j=>.int (i % j)):=opI fun i j _ _ _ _ _ hc q=>by
 have h1:(0:Int)<j:=hc;exact mod_int' (by omega) (by rw[Int.fmod_eq_emod_of_nonneg i (by omega)];exact q)
theorem yff:OpR X (binaryOp .Pow) (rI yn7 fun i j=>.int (i ^ j.toNat)):=opI fun _ _ _ _ _ _ _ hc q=>pow_int_small hc.1 hc.2.1 hc.2.2 q
theorem yfg:OpR X (binaryOp .RShift) (rI (fun _ j=>0<=j) fun i j=>.int (i / 2 ^ j.toNat)):=opI fun i j _ _ _ _ _ hc q=>
 rshift_int hc (by rw[Int.fdiv_eq_ediv_of_nonneg i (zhh _)];exact q)
theorem ye8:OpR X (binaryOp .BitAnd) (rI0 fun i j=>.int (Builtin.bitAnd i j)):=yrk fun _ _ _ _ _ _ _ q=>and_int q
theorem unI{f:Value->Sem Value}{g:Int->Int}
  (rule:∀ (i:Int) (t:Tok) (s:Shared) (Q:Value->Shared->Prop) (E:Value->Shared->Prop),Q (.int (g i) s.toks) { s with toks:=s.toks+1 }->wpAny (model X.prog X.w) X.A (f (.int i t)) Q E s) :
  UnR X f (rU fun i=>.int (g i)):=by
 intro pins s σ H x v Q I rx h;obtain⟨i,rfl,q⟩:=h;obtain⟨t,rfl⟩:=rx;exact rule i t s _ _ ⟨.int (g i),H,I.tok _,⟨_,rfl⟩,q⟩
theorem yht:UnR X (unaryOp .USub) (rU fun i=>.int (-i)):=unI fun _ _ _ _ _ q=>neg_int q
end
section
variable{X:Cx}{a b c:Expr}{ta tb tc:TE}{pos:Pos}
theorem ycj{pins:List (Addr × Obj)}{σ:St}{H:Hp}{s:Shared}{Q:VK}{k k':Bool}(I:Inv X pins σ H s)(q:Q (.bl k) H)(e:k=k'):EP X pins σ Q (.bool k') s:=by
 subst e;exact⟨.bl k,H,I,rfl,q⟩
theorem yly:OpR X (compareOp .Lt) (rI0 fun i j=>.bl (decide (i<j))):=yrj fun _ _ _ _ _ _ _ q=>lt_int q
theorem ylx:OpR X (compareOp .LtE) (rI0 fun i j=>.bl (decide (i<=j))):=yrj fun _ _ _ _ _ _ _ q=>le_int q
theorem ylw:OpR X (compareOp .Gt) (rI0 fun i j=>.bl (decide (j<i))):=yrj fun _ _ _ _ _ _ _ q=>gt_int q
theorem yfb:OpR X (compareOp .Is) (fun x y H Q=>y=.non/\Q (.bl (decide (x=.non))) H):=by
 intro pins s σ H x y v u Q I rx ry h;obtain⟨rfl,q⟩:=h;cases ry;refine is_none_gen (ycj I q ?_);cases x<;>first
  |(cases rx;rfl)
  |(obtain⟨t,rfl⟩:=rx;rfl)
theorem OpR.or{f:Value->Value->Sem Value}{r r':R2}(h:OpR X f r)(h':OpR X f r'):OpR X f (fun x y H Q=>r x y H Q\/r' x y H Q):=by
 intro pins s σ H x y v u Q I rx ry q;rcases q with q|q
 ·exact h pins s σ H x y v u Q I rx ry q
 ·exact h' pins s σ H x y v u Q I rx ry q
theorem yes(b:Expr){op:CmpOp}(h:op≠.In:=by decide)(h2:op≠.NotIn:=by decide):behindInMarks op b=false:=by
 have e1:(op == CmpOp.In)=false:=by cases op<;>first|rfl|exact absurd rfl h
 have e2:(op == CmpOp.NotIn)=false:=by cases op<;>first|rfl|exact absurd rfl h2
 cases b<;>simp[behindInMarks,e1,e2]
theorem zw3{op:CmpOp}{r:R2}(ho:OpR X (compareOp op) r)(ha:PE X a ta)(hb:PE X b tb)(hm:behindInMarks op b=false):PE X (.Compare a [op] [b] pos) (tOp r ta tb):=by
 intro pins s σ H Q I h;exact wpAny_Compare1 (ypd ha hb I h fun v u s2 x y H2 I2 rx ry q=>ho pins s2 σ H2 x y v u Q I2 rx ry q) hm
def ynk(t:TE):TT:=fun σ H Q=>t σ H fun x H'=>∃ k,x=.bl k/\Q k H'
theorem zxm{op:CmpOp}{r:R2}(ho:OpR X (compareOp op) r)(ha:PE X a ta)(hb:PE X b tb)(hm:behindInMarks op b=false):PT X (.Compare a [op] [b] pos) (ynk (tOp r ta tb)):=by
 intro pins s σ H Q I h;refine wpAny_isTrue_Compare1 (thn (ha pins s σ H _ I h) fun v s1 ⟨x,H1,I1,r1,q1⟩=>thn (hb pins s1 σ H1 _ I1 q1) fun u s2 ⟨y,H2,I2,r2,q2⟩=>
  thn (ho pins s2 σ H2 x y v u _ I2 r1 r2 q2) fun c s3 ⟨z,H3,I3,r3,k,e,q3⟩=>?_) hm
 subst e;cases r3;exact wpAny_truthy_bool ⟨H3,I3,q3⟩
def yg2(r r':R2)(ta tb tc:TE):TE:=fun σ H Q=>ta σ H fun x H1=>tb σ H1 fun y H2=>r x y H2 fun z H3=>∃ k,z=.bl k/\
 (if k=true then tc σ H3 fun w' H4=>r' y w' H4 Q else Q (.bl false) H3)
theorem zpf{op op':CmpOp}{r r':R2}(ho:OpR X (compareOp op) r)(ho':OpR X (compareOp op') r')(ha:PE X a ta)(hb:PE X b tb)(hc:PE X c tc)
  (hm:lastMarks [op,op'] [b,c]=false:=by with_unfolding_all rfl):PE X (.Compare a [op,op'] [b,c] pos) (yg2 r r' ta tb tc):=by
 intro pins s σ H Q I h;refine Compare_chain (thn (ha pins s σ H _ I h) fun v s1 ⟨x,H1,I1,r1,q1⟩=>chain_link (thn (hb pins s1 σ H1 _ I1 q1) fun u s2 ⟨y,H2,I2,r2,q2⟩=>
  thn (ho pins s2 σ H2 x y v u _ I2 r1 r2 q2) fun d s3 ⟨z,H3,I3,r3,k,e,q3⟩=>?_)) hm
 subst e;cases r3;refine wpAny_truthy_bool ?_;cases k with
 |false=>exact ite_ff ⟨.bl false,H3,I3,rfl,q3⟩
 |true=>exact ite_tt (chain_last (thn (hc pins s3 σ H3 _ I3 q3) fun w' s4 ⟨z',H4,I4,r4,q4⟩=>ho' pins s4 σ H4 y z' u w' Q I4 r2 r4 q4))
theorem yea:(sizeLine:Nat)<2 ^ 63:=by rw[sizeLine_eq];decide
theorem zgo:OpR X (binaryOp .Add) (fun x y H Q=>∃ i j,x=.str i/\y=.str j/\i.length+j.length<=sizeLine/\Q (.str (i++j)) H):=by
 intro pins s σ H x y v u Q I rx ry h;obtain⟨i,j,rfl,rfl,hz,q⟩:=h;obtain⟨t,rfl⟩:=rx;obtain⟨t',rfl⟩:=ry;exact add_str (fun t' tk=>⟨.str (i++j),H,I.tok _,⟨_,rfl⟩,q⟩) hz
theorem yny{x:V}{us:List Value}(r:yo0 [x] us):∃ u,us=[u]/\yoq x u:=by
 cases r with
 |cons r1 r2=>cases r2;exact⟨_,rfl,r1⟩
theorem ynz{x y:V}{us:List Value}(r:yo0 [x,y] us):∃ u w',us=[u,w']/\yoq x u/\yoq y w':=by
 cases r with
 |cons r1 r2=>
  cases r2 with
  |cons r3 r4=>cases r4;exact⟨_,_,rfl,r1,r3⟩
theorem zhu:yh0 X (.type "int") (fun xs H Q=>(∃ i,xs=[.int i]/\Q (.int i) H)\/∃ k,xs=[.bl k]/\Q (.int (if k then 1 else 0)) H):=by
 intro pins s σ H xs us Q I r h;rcases h with⟨i,rfl,q⟩|⟨k,rfl,q⟩
 ·obtain⟨u,rfl,t,rfl⟩:=yny r;exact call_int_int ⟨.int i,H,I,⟨_,rfl⟩,q⟩
 ·obtain⟨u,rfl,r1⟩:=yny r;cases r1;exact call_int_bool ⟨.int (if k then 1 else 0),H,I.tok _,⟨_,rfl⟩,q⟩
end
structure ObjM(h:Heap)(x dx C:Addr)(mA:Str->Option Value):Prop where
 obj:h.get? x=some (W.instObj C dx)
 ns:h.Ns1 dx mA
 ne:dx≠x
theorem zjh{h:Heap}{dx:Addr}{mA:Str->Option Value}(n:h.Ns1 dx mA):∃ od,h.get? dx=some od/\∀ name,W.lookIn name od=some (mA name):=by
 obtain⟨o,es,ep,ho,hd,hk,_,hm⟩:=n;refine⟨o,ho,fun name=>?_⟩;have e:=hm name;unfold nsFind findBy at e;rw[<-Array.find?_toList]at e;unfold W.lookIn;rw[hd];dsimp only;split
 ·rename_i y q
  rw[q]at e;exact congrArg some e
 ·rename_i q
  rw[q]at e;have a:es.toList.any (·.refKey)=false:=by
   rw[List.any_eq_false];intro y hy;obtain⟨z,t,hkey⟩:=hk y (Array.mem_toList_iff.mp hy);simp[DictEntry.refKey,hkey]
  have a':¬ es.toList.any (·.refKey)=true:=by rw[a];exact Bool.false_ne_true
  rw[if_neg a'];exact congrArg some e
theorem ObjM.look{h:Heap}{x dx C:Addr}{mA:Str->Option Value}(I:ObjM h x dx C mA):∃ od,W.InstAt h x (W.instObj C dx) C (some od)/\∀ name,W.lookIn name od=some (mA name):=
 let ⟨od,ho,hl⟩:=zjh I.ns
 ⟨od,⟨I.obj,rfl,rfl,ho⟩,hl⟩
section
variable{prog:Program}{w:World}{A:Around}{E:Value->Shared->Prop}{s:Shared}{K:W.Frag}{x dx C f:Addr}{mA:Str->Option Value}{name:Str}{v:Value}
theorem zuk{expr:Bool}{Q:Value->Shared->Prop}(X:K.In s.heap)(I:ObjM s.heap x dx C mA)(hg:W.plainGet K C name=true)(hh:W.hasDictIn K C=true)
  (ha:W.findIn K (.ref C) name=some none) (hv:mA name=some v) (hv':W.handedIn v=true) (h:Q v { s with toks:=s.toks+1 }) :
  wpAny (model prog w) A (getAttr (.ref x) name expr) Q E s:=by
 obtain⟨od,J,hl⟩:=I.look;exact W.get_value X J (W.plainGet_of hg).1 (W.findObj_own hh ha rfl (by rw[hl,hv])) hv' h
theorem znh{pl:Sem Bool}{Q:Value × List Value->Shared->Prop}(X:K.In s.heap)(I:ObjM s.heap x dx C mA)(hg:W.plainGet K C name=true)
  (hf:W.findIn K (.ref C) name=some (some (.ref f))) (ht:W.isFn K (.ref f)=true) (hv:mA name=none) (h:Q (.ref f,[.ref x]) s) :
  wpAny (model prog w) A (getMethod (.ref x) name pl) Q E s:=by
 obtain⟨od,J,hl⟩:=I.look;exact W.method_fn X J (W.plainGet_of hg).1 (W.plainGet_of hg).2 hf (beq_iff_eq.mp ht) (by show (W.lookIn name od).map (·.isSome)=some false;rw[hl,hv];rfl) h
theorem zyv{ns:List Str}{Q:Unit->Shared->Prop}(X:K.In s.heap)(I:ObjM s.heap x dx C mA)
  (hs:W.findIn K (.ref C) "__setattr__" = some (some (.builtin "object.__setattr__"))) (hp:W.plainOver K C=true) (ht:W.takerIn K C name=some none) (hh:W.hasDictIn K C=true)
  (hw:PySem.Within mA ns) (hsz:ns.length<=sizeLine)
  (h:∀ h',ObjM h' x dx C (fun y=>if y=name then some v else mA y)->Heap.SameBut dx s.heap h'->Q () { s with heap:=h',toks:=s.toks+2 }) :
  wpAny (model prog w) A (setAttr (.ref x) name v) Q E s:=by
 obtain⟨od,J,hl⟩:=I.look;refine W.set_plain X J hs (W.osa_open (s:={ s with toks:=s.toks+1 }) (r:=none) X J hp ht fun b=>?_);obtain⟨cd,hc,hd'⟩:=W.any_some hh;have hx:s.heap.get? x=some ⟨.ref C,some dx,.plain,#[]⟩:=I.obj;refine wpAny_bind (wpAny_pure (wpAny_bind (wpAny_bind (wpAny_loadPart hx (wpAny_bind (W.Looks.here (s:={ s with toks:=s.toks+1 }) (W.looks_clsIn X hc) ?_))))));rw[hd'];refine wpAny_pure (a:=some dx) (wpAny_bind (wpAny_pure (wpAny_bind ?_)));refine wpAny_nsSet1 (s:={ s with toks:=s.toks+1 }) I.ns fun h' hn2 hs2=>?_;obtain⟨oD,esD,epD,hoD,hdD,hcD⟩:=hn2.count (PySem.Within.cons name v hw);refine wpAny_bind (wpAny_lookBehind hoD (by rw[hdD];exact pastItsLine_dict (Nat.le_trans hcD (by rw[List.length_cons];omega))) ?_);exact wpAny_pure (h _ ⟨(hs2.2 _ (Ne.symm I.ne)).trans I.obj,hn2,I.ne⟩ hs2)
theorem zol{R:Result->Shared->Prop}{vs:List Value}{kw:List (Str × Value)}(X:K.In s.heap)(hm:W.makesIn K C=true)
  (hi:W.findIn K (.ref C) "__init__" = some (some (.ref f))) (hf:W.typeIn K (.ref f)=some (.type "function"))
  (h:codeAny (model prog w) (A.under (.builtin "type.__call__" ⟨.ref C::vs,kw⟩)) (.call (.ref f) ⟨.ref (s.heap.objs.size+1)::vs,kw⟩) (W.InitBack (s.heap.objs.size+1) R)
   { s with heap:=(s.heap.push W.emptyDict).push (W.instObj C s.heap.objs.size) }) :
  codeAny (model prog w) A (.call (.ref C) ⟨vs,kw⟩) R s:=by
 obtain⟨hh,g,d,t,os⟩:=s;exact W.make_core (W.makes_of X hm) (W.looks_findIn X hi) (fun self=>W.bind_fn X self hf) (.inl rfl) h
end
def yrn(f:Str)(v:V):List (Str × V)->List (Str × V)
 |[]=>[(f,v)]
 |(g,x)::r=>if g=f then (g,v)::r else (g,x)::yrn f v r
theorem zep(f g:Str)(v:V):∀ fs:List (Str × V),(yrn f v fs).lookup g=if g=f then some v else fs.lookup g
 |[]=>by
  show List.lookup g [(f,v)]=_;by_cases h:g=f
  ·have hb:(g == f)=true:=beq_iff_eq.mpr h;simp only[List.lookup,hb,if_pos h]
  ·have hb:(g == f)=false:=beq_eq_false_iff_ne.mpr h;simp only[List.lookup,hb,if_neg h]
 |(k,x)::r=>by
  have ih:=zep f g v r;rw[show yrn f v ((k,x)::r)=(if k=f then (k,v)::r else (k,x)::yrn f v r)from rfl];by_cases hk:k=f
  ·rw[if_pos hk];by_cases h:g=k
   ·have hb:(g == k)=true:=beq_iff_eq.mpr h;simp only[List.lookup,hb,if_pos (h.trans hk)]
   ·have hb:(g == k)=false:=beq_eq_false_iff_ne.mpr h;simp only[List.lookup,hb,if_neg (fun e:g=f=>h (e.trans hk.symm))]
  ·rw[if_neg hk];by_cases h:g=k
   ·have hb:(g == k)=true:=beq_iff_eq.mpr h;simp only[List.lookup,hb,if_neg (fun e:g=f=>hk (h.symm.trans e))]
   ·have hb:(g == k)=false:=beq_eq_false_iff_ne.mpr h;simp only[List.lookup,hb];exact ih
theorem zjg(f:Str)(v:V):∀ fs:List (Str × V),f∈(yrn f v fs).map (·.1)/\∀ g,g∈fs.map (·.1)->g∈(yrn f v fs).map (·.1)
 |[]=>⟨by simp[yrn],fun g h=>by simp at h⟩
 |(k,x)::r=>by
  obtain⟨i1,i2⟩:=zjg f v r;rw[show yrn f v ((k,x)::r)=(if k=f then (k,v)::r else (k,x)::yrn f v r)from rfl];by_cases hk:k=f
  ·rw[if_pos hk];subst hk;exact⟨by simp,fun g h=>by simpa using h⟩
  ·rw[if_neg hk];refine⟨?_,fun g h=>?_⟩
   ·rw[List.map_cons];exact List.mem_cons_of_mem _ i1
   ·rw[List.map_cons]at h ⊢;rcases List.mem_cons.mp h with e|e
    ·exact List.mem_cons.mpr (.inl e)
    ·exact List.mem_cons_of_mem _ (i2 g e)
theorem zen(f:Str)(v:V):∀ fs:List (Str × V),(yrn f v fs).length<=fs.length+1
 |[]=>by simp[yrn]
 |(k,x)::r=>by
  have ih:=zen f v r;rw[show yrn f v ((k,x)::r)=(if k=f then (k,v)::r else (k,x)::yrn f v r)from rfl];by_cases hk:k=f
  ·rw[if_pos hk,List.length_cons,List.length_cons];omega
  ·rw[if_neg hk,List.length_cons,List.length_cons];omega
theorem yop.some_of{v:V}{o:Option Value}(r:yop (some v) o):∃ u,o=some u/\yoq v u:=by
 cases o with
 |none=>exact(show False from r).elim
 |some u=>exact⟨u,rfl,r⟩
theorem yop.none_of{o:Option Value}(r:yop none o):o=none:=by
 cases o with
 |none=>rfl
 |some u=>exact(show False from r).elim
theorem ziz{v:V}{u:Value}(r:yoq v u):W.handedIn u=true:=by
 cases v with
 |non=>cases (show u=Value.none from r);rfl
 |bl b=>cases (show u=Value.bool b from r);rfl
 |int i=>obtain⟨t,e⟩:=(show ∃ t,u=Value.int i t from r);cases e;rfl
 |str x=>obtain⟨t,e⟩:=(show ∃ t,u=Value.str x t from r);cases e;rfl
 |byt b=>obtain⟨t,e⟩:=(show ∃ t,u=Value.bytes b t from r);cases e;rfl
 |flt b=>obtain⟨t,e⟩:=(show ∃ t,u=Value.float b t from r);cases e;rfl
 |ref a=>cases (show u=Value.ref a from r);rfl
 |ty n=>cases (show u=Value.type n from r);rfl
section
variable{P:Program}{w:World}{H H':Hp}{h h':Heap}{a C dx:Addr}{fs fs':List (Str × V)}
theorem zux(hok:HOk P w H h)(e:H a=some (.ins C dx fs)):∃ mA,ObjM h a dx C mA/\(∀ f,yop (fs.lookup f) (mA f))/\PySem.Within mA (fs.map (·.1))/\fs.length<=1000/\H dx=some (.own a):=by
 obtain⟨d,z,ne,ob,mA,n,r,q⟩:=(show yh5 P w H h a (.ins C dx fs)from hok a _ e)
 exact⟨mA,⟨ob,n,ne⟩,r,q,z,d⟩
end
structure Cls(K:W.Frag)(C:Addr):Prop where
 pg:W.plainGet K C Str.empty=true
 hd:W.hasDictIn K C=true
 po:W.plainOver K C=true
 sa:W.findIn K (.ref C) "__setattr__" = some (some (.builtin "object.__setattr__"))
theorem Cls.get{K:W.Frag}{C:Addr}(c:Cls K C)(f:Str):W.plainGet K C f=true:=c.pg
def yac(K:W.Frag)(C:Addr)(f:Str):Prop:=W.findIn K (.ref C) f=some none
theorem yac.taker{K:W.Frag}{C:Addr}{f:Str}(n:yac K C f):W.takerIn K C f=some none:=by
 unfold W.takerIn;rw[show W.findIn K (.ref C) f=some none from n];rfl
structure Con(K:W.Frag)(C:Addr)(f:Str)(v:V)(u:Value):Prop where
 at_:W.findIn K (.ref C) f=some (some u)
 rel:yoq v u
 get:W.specialIn K u "__get__" = some none
 cp:W.copiedNames.contains f=false
structure Meth(K:W.Frag)(C:Addr)(m:Str)(f:Addr):Prop where
 at_:W.findIn K (.ref C) m=some (some (.ref f))
 fn:W.isFn K (.ref f)=true
 kp:W.keepIn K (.ref f)=true
section
variable{X:Cx}{pins:List (Addr × Obj)}{σ:St}{H:Hp}{s:Shared}{a C dx:Addr}{fs:List (Str × V)}{f:Str}{v:V}{A:Around}{E:Value->Shared->Prop}
theorem zf5{b:Bool}{Q:Value->Shared->Prop}(I:Inv X pins σ H s)(e:H a=some (.ins C dx fs))(c:Cls X.K C)(n:yac X.K C f)(l:fs.lookup f=some v)
  (h:∀ u s',Inv X pins σ H s'->yoq v u->Q u s'):wpAny (model X.prog X.w) A (getAttr (.ref a) f b) Q E s:=by
 obtain⟨mA,O,r,_,_,_⟩:=zux I.hok e;obtain⟨u,hu,ru⟩:=yop.some_of (v:=v) (o:=mA f) (by rw[<-l];exact r f);exact zuk I.kIn O (c.get f) c.hd n hu (ziz ru) (h u _ (I.tok _) ru)
theorem zf6{m:Str}{g:Addr}{pl:Sem Bool}{Q:Value × List Value->Shared->Prop}(I:Inv X pins σ H s)(e:H a=some (.ins C dx fs))(c:Cls X.K C)(k:Meth X.K C m g)(l:fs.lookup m=none)
  (h:Q (.ref g,[.ref a]) s):wpAny (model X.prog X.w) A (getMethod (.ref a) m pl) Q E s:=by
 obtain⟨mA,O,r,_,_,_⟩:=zux I.hok e;have hn:mA m=none:=yop.none_of (by rw[<-l];exact r m);exact znh I.kIn O (c.get m) k.at_ k.fn hn h
theorem zg8{y:V}{u:Value}{Q:Unit->Shared->Prop}(I:Inv X pins σ H s)(e:H a=some (.ins C dx fs))(c:Cls X.K C)(n:yac X.K C f)(hl:fs.length<1000)(ry:yoq y u)
  (h:∀ s',Inv X pins σ (upd H a (.ins C dx (yrn f y fs))) s'->Q () s'):wpAny (model X.prog X.w) A (setAttr (.ref a) f u) Q E s:=by
 obtain⟨mA,O,r,wi,_,ho⟩:=zux I.hok e;have hz:(fs.map (·.1)).length<=sizeLine:=by rw[List.length_map,sizeLine_eq];omega
 refine zyv I.kIn O c.sa c.po n.taker c.hd wi hz fun h' O' sb=>h _ ?_;have hd:∃ o,h'.get? dx=some o:=let ⟨o,_,_,e',_⟩:=O'.ns;⟨o,e'⟩;refine I.write (x:=a) (e:=dx) (by rw[e];exact True.intro) (.inr ho) (fun b q hb z=>(sb.2 b hb).trans z) hd ?_;refine⟨by rw[yhv O.ne];exact ho,?_,O.ne,O'.obj,_,O'.ns,fun g=>?_,fun g hg=>?_⟩
 ·have:=zen f y fs;omega
 ·show yop ((yrn f y fs).lookup g) (if g=f then some u else mA g);rw[zep];by_cases q:g=f
  ·rw[if_pos q,if_pos q];exact ry
  ·rw[if_neg q,if_neg q];exact r g
 ·by_cases q:g=f
  ·rw[q];exact(zjg f y fs).1
  ·refine(zjg f y fs).2 g (wi g fun z=>hg ?_);show (if g=f then some u else mA g)=none;rw[if_neg q];exact z
theorem Inv.made(I:Inv X pins σ H s):Inv X pins σ (upd (upd H s.heap.objs.size (.own (s.heap.objs.size+1))) (s.heap.objs.size+1) (.ins C s.heap.objs.size []))
  { s with heap:=(s.heap.push W.emptyDict).push (W.instObj C s.heap.objs.size) }:=by
 have e1:(s.heap.push W.emptyDict).get? s.heap.objs.size=some W.emptyDict:=Heap.get?_push_size s.heap rfl;have e2:((s.heap.push W.emptyDict).push (W.instObj C s.heap.objs.size)).get? (s.heap.objs.size+1)=some (W.instObj C s.heap.objs.size):=by
  have:=Heap.get?_push_size (s.heap.push W.emptyDict) (o:=W.instObj C s.heap.objs.size) rfl
  rwa [Heap.size_push]at this
 have e3:(s.heap.push W.emptyDict).Ns s.heap.objs.size (fun _=>none):=⟨W.emptyDict,#[],_,e1,rfl,(fun e he=>absurd he (by simp)),fun _=>rfl⟩
 have I1:=I.laid (a:=s.heap.objs.size) (o:=.own (s.heap.objs.size+1)) (h':=s.heap.push W.emptyDict) (t':=s.toks) (fun b u q=>Heap.get?_push_of_some _ q) (Nat.le_refl _) ⟨_,e1⟩;refine I1.laid (a:=s.heap.objs.size+1) (o:=.ins C s.heap.objs.size []) (t':=s.toks) (fun b u q=>Heap.get?_push_of_some _ q) (Nat.le_of_eq (Heap.size_push _ _)) ?_;have ne:s.heap.objs.size≠s.heap.objs.size+1:=Nat.ne_of_lt (Nat.lt_succ_self _);refine⟨by rw[yhv ne,zre],Nat.zero_le _,ne,e2,fun _=>none,(Heap.Ns1.of_empty e3).at fun o q=>Heap.get?_push_of_some _ q,fun _=>True.intro,fun y hy=>absurd rfl hy⟩
theorem zr1{prog:Program}{w:World}{env:Env}{e:Expr}{f:Str}{pos:Pos}{s:Shared}{Q:Value->Shared->Prop}(hb:attributeBase e f env (eval e env)=eval e env)
  (h:wpAny (model prog w) A (eval e env) (fun o s₁=>wpAny (model prog w) A (getAttr o f true) Q E s₁) E s):wpAny (model prog w) A (eval (.Attribute e f pos) env) Q E s:=
 Attribute_any_ h (by rw[arm_eval_Attribute,hb])
end
def ysu(K:W.Frag)(ta:TE)(f:Str):TE:=fun σ H Q=>ta σ H fun x H1=>∃ a C dx fs v,x=.ref a/\H1 a=some (.ins C dx fs)/\Cls K C/\yac K C f/\fs.lookup f=some v/\Q v H1
def yr7(K:W.Frag)(ta tv:TE)(f:Str):TS:=fun D σ H=>tv σ H fun y H1=>ta σ H1 fun x H2=>∃ a C dx fs,x=.ref a/\H2 a=some (.ins C dx fs)/\Cls K C/\yac K C f/\fs.length<1000/\
 D.nx σ (upd H2 a (.ins C dx (yrn f y fs)))
section
variable{X:Cx}{o e value:Expr}{f:Str}{pos pos' tpos:Pos}{ta tv:TE}
theorem yfl(he:PE X e ta)(hb:attributeBase e f X.env (eval e X.env)=eval e X.env):PE X (.Attribute e f pos) (ysu X.K ta f):=by
 intro pins s σ H Q I h;refine zr1 hb (thn (he pins s σ H _ I h) fun u s1 ⟨x,H1,I1,rx,a,C,dx,fs,v,ex,ea,c,n,l,q⟩=>?_);subst ex;obtain rfl:u=Value.ref a:=rx;exact zf5 I1 ea c n l fun u' s2 I2 ru=>⟨v,H1,I2,ru,q⟩
theorem yf1(ha:PE X o ta)(hv:PE X value tv)(hs:swapsWith value (some (.Attribute o f pos')) pos.line X.env=pure false):PS X (.Assign [.Attribute o f pos'] value pos) (yr7 X.K ta tv f):=by
 intro pins s σ H D I h;refine plainObj_wpAny_Assign_Attribute (thn (hv pins s σ H _ I h) fun u s1 ⟨y,H1,I1,ry,q⟩=>thn (ha pins s1 σ H1 _ I1 q) fun ov s2 ⟨x,H2,I2,rx,a,C,dx,fs,ex,ea,c,n,l,q2⟩=>?_) hs;subst ex;obtain rfl:ov=Value.ref a:=rx;exact zg8 I2 ea c n l ry fun s3 I3=>⟨σ,_,I3,q2⟩
end
section
variable{X:Cx}{pins:List (Addr × Obj)}{σ:St}{H:Hp}{s:Shared}{A:Around}{E:Value->Shared->Prop}{Q:Value->Shared->Prop}{c:Value}{b:Bool}
inductive TyOf(K:W.Frag)(H:Hp):V->Value->Prop where
 |non:TyOf K H .non (.type "NoneType")
 |bl (x:Bool):TyOf K H (.bl x) (.type "bool")
 |int (i:Int):TyOf K H (.int i) (.type "int")
 |str (x:Str):TyOf K H (.str x) (.type "str")
 |flt (x:UInt64):TyOf K H (.flt x) (.type "float")
 |lst {a:Addr} {xs:List V} (e:H a=some (.lst xs)):TyOf K H (.ref a) (.type "list")
 |frz {a:Addr} {o:Obj} {xs:List V} (e:H a=some (.frz o (.lst xs))):TyOf K H (.ref a) (.type "list")
 |tup {a:Addr} {xs:List V} (e:H a=some (.tup xs)):TyOf K H (.ref a) (.type "tuple")
 |dK {a:Addr} {kvs:List (Key × V)} (e:H a=some (.dK kvs)):TyOf K H (.ref a) (.type "dict")
 |dT {a:Addr} {kvs:List (List Key × V)} (e:H a=some (.dT kvs)):TyOf K H (.ref a) (.type "dict")
 |ins {a C dx:Addr} {fs:List (Str × V)} (e:H a=some (.ins C dx fs)) (cl:Cls K C) (ha:W.findIn K (.ref C) "__class__" = some (some (.builtin "object.__class__")))
   (hn:W.specialIn K (.builtin "object.__class__") "__get__" = some (some (.builtin "getset_descriptor.__get__"))) (htk:W.takesIn K (.builtin "object.__class__")=some true)
   (hm:W.mroIn K C (.type "object")=some true):TyOf K H (.ref a) (.ref C)
theorem zi8{x:V}{u t:Value}(I:Inv X pins σ H s)(rx:yoq x u)(ty:TyOf X.K H x t)(e:W.kitOne X.K t c=some b)(h:∀ tk,Q (.bool b) { s with toks:=tk }) :
  wpAny (model X.prog X.w) A (call (.builtin "isinstance") [u,c]) Q E s:=by
 cases ty with
 |non=>cases (show u=Value.none from rx);exact W.kia_one W.kitx_none I.kIn True.intro e (fun z=>nomatch z) h
 |bl y=>cases (show u=Value.bool y from rx);exact W.kia_one W.kitx_bool I.kIn True.intro e (fun z=>nomatch z) h
 |int i=>obtain⟨t,q⟩:=(show ∃ t,u=Value.int i t from rx);cases q;exact W.kia_one W.kitx_int I.kIn True.intro e (fun z=>nomatch z) h
 |str y=>obtain⟨t,q⟩:=(show ∃ t,u=Value.str y t from rx);cases q;exact W.kia_one W.kitx_str I.kIn True.intro e (fun z=>nomatch z) h
 |flt y=>obtain⟨t,q⟩:=(show ∃ t,u=Value.float y t from rx);cases q;exact W.kia_one W.kitx_float I.kIn True.intro e (fun z=>nomatch z) h
 |@lst a xs ea=>
  cases (show u=Value.ref a from rx);obtain⟨_,_,n,_,h1⟩:=(show yh5 X.prog X.w H s.heap a (.lst xs)from I.hok a _ ea)
  exact W.kia_one W.kitx_list I.kIn ⟨_,h1,rfl⟩ e (fun z=>nomatch z) h
 |@frz a ob xs ea=>
  cases (show u=Value.ref a from rx);obtain⟨_,_,_,n,_,h1⟩:=(show yh5 X.prog X.w H s.heap a (.frz ob (.lst xs))from I.hok a _ ea)
  exact W.kia_one W.kitx_list I.kIn ⟨_,h1,rfl⟩ e (fun z=>nomatch z) h
 |@tup a xs ea=>
  cases (show u=Value.ref a from rx);obtain⟨_,_,_,p⟩:=(show yh5 X.prog X.w H s.heap a (.tup xs)from I.hok a _ ea)
  obtain⟨o,h1,h2,_⟩:=p;exact W.kia_one W.kitx_tuple I.kIn ⟨o,h1,h2⟩ e (fun z=>nomatch z) h
 |@dK a kvs ea=>
  cases (show u=Value.ref a from rx);obtain⟨_,_,vs,_,p⟩:=(show yh5 X.prog X.w H s.heap a (.dK kvs)from I.hok a _ ea)
  obtain⟨o,es,ep,h1,h2,_⟩:=p;exact W.kia_one W.kitx_dict I.kIn ⟨o,h1,h2.1⟩ e (fun z=>nomatch z) h
 |@dT a kvs ea=>
  cases (show u=Value.ref a from rx);obtain⟨_,_,xs,_,o,es,ep,h1,h2,_⟩:=(show yh5 X.prog X.w H s.heap a (.dT kvs)from I.hok a _ ea)
  exact W.kia_one W.kitx_dict I.kIn ⟨o,h1,h2.1⟩ e (fun z=>nomatch z) h
 |@ins a C dx fs ea cl ha hn htk hm=>
  cases (show u=Value.ref a from rx);obtain⟨mA,O,_⟩:=zux I.hok ea;obtain⟨od,J,_⟩:=O.look;exact W.kia_one (W.kitx_own (cl.get _) cl.hd ha hn htk hm) I.kIn J e (fun z=>nomatch z) h
end
structure Room(k:Nat)(A:Around):Prop where
 hd:A.handled=none
 dp:A.depth+3 * k+5<recursionLimit
 un:A.units+16 * k+200<cLine
theorem Room.mono{j k:Nat}{A:Around}(r:Room k A)(h:j<=k):Room j A:=⟨r.hd,by have:=r.dp;omega,by have:=r.un;omega⟩
theorem Room.deeper{k:Nat}{A:Around}(r:Room (k+1) A)(env:Env):Room k (A.deeper env):=
 ⟨r.hd,by have:=r.dp;show A.depth+1+3 * k+5<_;omega,by have:=r.un;show A.units+3+16 * k+200<_;omega⟩
theorem Room.in1{k:Nat}{A:Around}(r:Room (k+1) A):Room k A.in1:=
 ⟨r.hd,by have:=r.dp;show A.depth+3 * k+5<_;omega,by have:=r.un;show A.units+1+16 * k+200<_;omega⟩
theorem zgc{A:Around}{C:Addr}{us:List Value}{kw:List (Str × Value)}:(A.under (.builtin "type.__call__" ⟨.ref C::us,kw⟩)).depth=A.depth+1:=by
 first|rfl|simp[Around.under,Code.weight,Code.isCreation,Code.isGuard,Code.isCaller,Code.frames,Code.isFrame,guardIds]
theorem zgd{A:Around}{C:Addr}{us:List Value}{kw:List (Str × Value)}:(A.under (.builtin "type.__call__" ⟨.ref C::us,kw⟩)).units=A.units+1:=by
 first|rfl|simp[Around.under,Code.cUnits,Code.frames,Code.isFrame]
theorem Room.make{k:Nat}{A:Around}(r:Room (k+1) A)(C:Addr)(us:List Value)(kw:List (Str × Value)):Room k (A.under (.builtin "type.__call__" ⟨.ref C::us,kw⟩)):=
 ⟨r.hd,by have:=r.dp;rw[zgc];omega,by have:=r.un;rw[zgd];omega⟩
theorem Room.depth{k:Nat}{A:Around}(r:Room k A):A.depth<recursionLimit:=by have:=r.dp;omega
theorem Room.units{k:Nat}{A:Around}(r:Room k A):A.units+64<cLine:=by have:=r.un;omega
def ysy:TA:=fun _ H Q=>Q [] H
def ynd(ta:TE)(tr:TA):TA:=fun σ H Q=>ta σ H fun x H1=>tr σ H1 fun xs H2=>Q (x::xs) H2
section
variable{X:Cx}{e:Expr}{es:List Expr}{te:TE}{t:TA}{pos:Pos}
theorem yfi:PA X [] ysy:=fun _ _ _ _ H Q I h=>Calls.spliced_nil ⟨[],H,I,.nil,h⟩
theorem zwx(ha:PE X e te)(hr:PA X es t)(hs:starEach (e::es) X.env=(false,eval e X.env)::starEach es X.env:=by rfl):PA X (e::es) (ynd te t):=by
 intro pos pins s σ H Q I h;rw[hs];show wpAny _ _ (spliced ((false,eval e X.env)::backTo pos (starEach es X.env))) _ _ s;refine Calls.spliced_cons (thn (ha pins s σ H _ I h) fun u s1 ⟨x,H1,I1,r1,q1⟩=>?_);exact thn (hr pos pins s1 σ H1 _ I1 q1) fun us s2 ⟨xs,H2,I2,r2,q2⟩=>⟨x::xs,H2,I2,.cons r1 r2,q2⟩
def ys3(t:TA):TE:=fun σ H Q=>t σ H fun xs H1=>xs.length<=sizeLine/\∀ p,H1 p=none->Q (.ref p) (upd H1 p (.tup xs))
def ysx(t:TA):TE:=fun σ H Q=>t σ H fun xs H1=>xs.length<=sizeLine/\∀ p,H1 p=none->Q (.ref p) (upd H1 p (.lst xs))
theorem yfs{x1}(h:PA X es t):PE X (.Tuple es x1 pos) (ys3 t):=by
 intro pins s σ H Q I hq;refine wpAny_Tuple_spliced (thn (h pos pins s σ H _ I hq) fun us s1 ⟨xs,H1,I1,r,z,q⟩=>⟨by rw[<-r.length];exact z,?_⟩);have hf:H1 s1.heap.objs.size=none:=I1.hok.fresh (Nat.le_refl _);refine⟨.ref s1.heap.objs.size,upd H1 s1.heap.objs.size (.tup xs),I1.laid (t':=s1.toks) (fun b u e=>Heap.get?_push_of_some _ e) (Nat.le_refl _) ?_,rfl,q _ hf⟩;exact⟨z,us,r,⟨_,Heap.get?_push_size _ rfl,rfl,_,rfl⟩⟩
theorem yfn(h:PA X es t):PE X (.List es pos) (ysx t):=by
 intro pins s σ H Q I hq;refine wpAny_List_spliced (thn (h pos pins s σ H _ I hq) fun us s1 ⟨xs,H1,I1,r,z,q⟩=>⟨by rw[<-r.length];exact z,?_⟩);have hf:H1 s1.heap.objs.size=none:=I1.hok.fresh (Nat.le_refl _);refine⟨.ref s1.heap.objs.size,upd H1 s1.heap.objs.size (.lst xs),I1.laid (t':=s1.toks) (fun b u e=>Heap.get?_push_of_some _ e) (Nat.le_refl _) ?_,rfl,q _ hf⟩;exact⟨z,us,0,r,Heap.get?_push_size _ rfl⟩
end
abbrev Sp:=List V->Hp->VK->XK->Prop
abbrev CXT:=List Env->Hp->Shared->XK->Value->Shared->Prop
structure Env0(P:Program)(w:World)(K:W.Frag)(mg:Str->Option Value)(base:Heap)(A:Around)(outer:List Env)(s:Shared)(H:Hp):Prop where
 frames:A.frames=some outer
 mod:Mod K mg base
 bs:∀ b o,base.get? b=some o->s.heap.get? b=some o/\H b=none
 bsz:base.objs.size<=s.heap.objs.size
 funs:s.heap.FunFrames base outer
 frf:∀ b∈frs outer,H b=none
 hok:HOk P w H s.heap
 bare:AllBare s.gens
def CE(outer:List Env)(P:Program)(w:World)(H:Hp)(s:Shared)(Q:VK)(u:Value)(s':Shared):Prop:=
 ∃ v H',s'.os=s.os/\AllBare s'.gens/\Un (frs outer) [] H H' s.heap s'.heap/\HOk P w H' s'.heap/\yoq v u/\Q v H'
def CR(CX:CXT)(outer:List Env)(P:Program)(w:World)(H:Hp)(s:Shared)(Q:VK)(E:XK)(r:Result)(s':Shared):Prop:=
 match r with
 | .ok (.ret u)=>CE outer P w H s Q u s'
 | .ok _=>False
 | .error e=>CX outer H s E e s'
structure FnOk(P:Program)(w:World)(K:W.Frag)(mg:Str->Option Value)(base:Heap)(CX:CXT)(k:Nat)(f:Addr)(fd:FuncData)(ps:List Str)(sp:Sp):Prop where
 len:∀ vs H Q E,sp vs H Q E->vs.length=ps.length
 run:∀ (A:Around) (outer:List Env) (s:Shared) (H:Hp) (args:Args) (us:List Value) (vs:List V) (Q:VK) (E:XK),Room k A->Env0 P w K mg base A outer s H->BindsTo s fd args (ps.zip us)->yo0 vs us->sp vs H Q E->
  codeAny (model P w) A (.call (.ref f) args) (CR CX outer P w H s Q E) s
theorem FnOk.mono{P:Program}{w:World}{K:W.Frag}{mg:Str->Option Value}{base:Heap}{CX:CXT}{j k:Nat}{f:Addr}{fd:FuncData}{ps:List Str}{sp:Sp}(F:FnOk P w K mg base CX j f fd ps sp)(h:j<=k) :
  FnOk P w K mg base CX k f fd ps sp:=⟨F.len,fun A outer s H args us vs Q E hr=>F.run A outer s H args us vs Q E (hr.mono h)⟩
theorem FnOk.imp{P:Program}{w:World}{K:W.Frag}{mg:Str->Option Value}{base:Heap}{CX:CXT}{k:Nat}{f:Addr}{fd:FuncData}{ps:List Str}{sp sp':Sp}(F:FnOk P w K mg base CX k f fd ps sp)
  (h:∀ vs H Q E,sp' vs H Q E->sp vs H Q E):FnOk P w K mg base CX k f fd ps sp':=
 ⟨fun vs H Q E q=>F.len vs H Q E (h _ _ _ _ q),fun A outer s H args us vs Q E hr he hb hv hs=>F.run A outer s H args us vs Q E hr he hb hv (h _ _ _ _ hs)⟩
theorem Env0.make{P:Program}{w:World}{K:W.Frag}{mg:Str->Option Value}{base:Heap}{A:Around}{outer:List Env}{s:Shared}{H:Hp}(e:Env0 P w K mg base A outer s H)(C:Addr)(us:List Value)(kw:List (Str × Value)) :
  Env0 P w K mg base (A.under (.builtin "type.__call__" ⟨.ref C::us,kw⟩)) outer s H:=⟨by first|exact e.frames|(simpa [Around.under,Code.envs,Code.isFrame,pushEnvs]using e.frames),e.mod,e.bs,e.bsz,e.funs,e.frf,e.hok,e.bare⟩
theorem Env0.in1{P:Program}{w:World}{K:W.Frag}{mg:Str->Option Value}{base:Heap}{A:Around}{outer:List Env}{s:Shared}{H:Hp}(e:Env0 P w K mg base A outer s H) :
  Env0 P w K mg base A.in1 outer s H:=⟨e.frames,e.mod,e.bs,e.bsz,e.funs,e.frf,e.hok,e.bare⟩
section
variable{X:Cx}{pins:List (Addr × Obj)}{σ:St}{H:Hp}{s s':Shared}
theorem Inv.env0(I:Inv X pins σ H s):Env0 X.prog X.w X.K X.mg X.base X.A X.stack s H:=
 ⟨I.ok.frames,I.ok.mod,I.bs,Nat.le_trans I.ok.bsz I.sz,I.stack,I.stkFree,I.hok,I.bare⟩
theorem Inv.after{Q:VK}{u:Value}(I:Inv X pins σ H s)(h:CE X.stack X.prog X.w H s Q u s'):EP X pins σ Q u s':=by
 obtain⟨v,H',os,bare,un,hok,r,q⟩:=h;obtain⟨hh,g,d,t,os'⟩:=s';obtain rfl:os'=s.os:=os;exact⟨v,H',I.call (h':=hh) (g':=g) (d':=d) (t':=t) (ch:=[]) un hok bare (fun b z=>absurd z (by simp)),r,q⟩
end
def yhz(K:W.Frag)(fd:FuncData)(ps:List Str)(ds:List Value):Prop:=
 ∀ (s:Shared) (us:List Value),K.In s.heap->(us++ds).length=ps.length->BindsTo s fd ⟨us,[]⟩ (ps.zip (us++ds))
theorem yhz.all{K:W.Frag}{fd:FuncData}{ps:List Str}(h:∀ us:List Value,us.length=ps.length->bindArgs fd ⟨us,[]⟩=pure (ps.zip us)):yhz K fd ps []:=fun s us _ hl=>by
 rw[List.append_nil]at hl ⊢;exact .of_eq (h us hl)
section
variable{X:Cx}{CX:CXT}{k:Nat}{f C:Addr}{fd:FuncData}{ps:List Str}{sp:Sp}{dvs:List V}{ds:List Value}{E:XK}{x m:Str}{p pos apos:Pos}{e o:Expr}{es:List Expr}{ta:TE}{t:TA}
structure Mk(K:W.Frag)(C f:Addr):Prop where
 makes:W.makesIn K C=true
 init:W.findIn K (.ref C) "__init__" = some (some (.ref f))
 fn:W.isFn K (.ref f)=true
 kp:W.keepIn K (.ref C)=true
end
section
variable{X:Cx}{CX:CXT}{k:Nat}{f C:Addr}{fd:FuncData}{ps ks:List Str}{sp:Sp}{E:XK}{x m:Str}{p pos apos kpos:Pos}{e o:Expr}{es:List Expr}{kws:List Keyword}{te ta:TE}{t tk:TA}{nm:Option Str}
structure KBinds(K:W.Frag)(fd:FuncData)(ps ks:List Str)(g:List Value->List Value->List Value)(gV:List V->List V->List V):Prop where
 to:∀ (s:Shared) (us ws:List Value),K.In s.heap->(g us ws).length=ps.length->BindsTo s fd ⟨us,ks.zip ws⟩ (ps.zip (g us ws))
 rel:∀ {vs:List V} {us:List Value} {zs:List V} {ws:List Value},yo0 vs us->yo0 zs ws->yo0 (gV vs zs) (g us ws)
variable{g:List Value->List Value->List Value}{gV:List V->List V->List V}
end
structure FnScope(N P:List Str)(sc:Scope):Prop where
 kind:sc.kind=.function
 co:sc.isCoroutine=false
 gen:sc.isGenerator=false
 nd:N.Nodup
 pre:N.take P.length=P
 par:∀ x∈P,sc.names.lookup x=some .local\/sc.names.lookup x=some .cell
 nofree:∀ y∈sc.names,y.2≠.free
theorem zhq{kindOf:Str->Option NameKind}{x:Str}:∀ {binds:List (Str × Value)} {m:Str->Option Value},(∀ v,(x,v) ∉ binds)->bindL kindOf binds m x=m x
 |[],_,_=>rfl
 |(n,v)::r,m,h=>by
  unfold bindL;rw[zhq fun w hw=>h w (List.mem_cons_of_mem _ hw)];split
  ·have:x≠n:=by rintro rfl;exact h v List.mem_cons_self
   simp[this]
  ·rfl
theorem zho{kindOf:Str->Option NameKind}{x:Str}:∀ {binds:List (Str × Value)} {m:Str->Option Value},(∀ v,(x,v) ∉ binds)->bindC kindOf binds m x=m x
 |[],_,_=>rfl
 |(n,v)::r,m,h=>by
  unfold bindC;rw[zho fun w hw=>h w (List.mem_cons_of_mem _ hw)];split
  ·rfl
  ·have:x≠n:=by rintro rfl;exact h v List.mem_cons_self
   simp[this]
theorem zhp{kindOf:Str->Option NameKind}{x:Str}{v:Value}:∀ {P:List Str} {vs:List Value} {i:Nat} {m:Str->Option Value},P.Nodup->P[i]?=some x->vs[i]?=some v->kindOf x=some .local->
  bindL kindOf (P.zip vs) m x=some v
 |[],_,_,_,_,h,_,_=>by simp at h
 |_::_,[],_,_,_,_,h,_=>by simp at h
 |p::P,w::vs,0,m,nd,h1,h2,hk=>by
  simp at h1 h2;subst h1;subst h2;show bindL kindOf ((p,w)::P.zip vs) m p=_;unfold bindL;rw[zhq fun v hv=>(List.nodup_cons.mp nd).1 (List.of_mem_zip hv).1,if_pos hk];simp
 |p::P,w::vs,i+1,m,nd,h1,h2,hk=>by
  show bindL kindOf ((p,w)::P.zip vs) m x=_;unfold bindL;exact zhp (i:=i) (List.nodup_cons.mp nd).2 (by simpa using h1) (by simpa using h2) hk
theorem zhn{kindOf:Str->Option NameKind}{x:Str}{v:Value}:∀ {P:List Str} {vs:List Value} {i:Nat} {m:Str->Option Value},P.Nodup->P[i]?=some x->vs[i]?=some v->kindOf x≠some .local->
  bindC kindOf (P.zip vs) m x=some v
 |[],_,_,_,_,h,_,_=>by simp at h
 |_::_,[],_,_,_,_,h,_=>by simp at h
 |p::P,w::vs,0,m,nd,h1,h2,hk=>by
  simp at h1 h2;subst h1;subst h2;show bindC kindOf ((p,w)::P.zip vs) m p=_;unfold bindC;rw[zho fun v hv=>(List.nodup_cons.mp nd).1 (List.of_mem_zip hv).1,if_neg hk];simp
 |p::P,w::vs,i+1,m,nd,h1,h2,hk=>by
  show bindC kindOf ((p,w)::P.zip vs) m x=_;unfold bindC;exact zhn (i:=i) (List.nodup_cons.mp nd).2 (by simpa using h1) (by simpa using h2) hk
def ynb(N:List Str)(vs:List V):St:=vs.map some++List.replicate (N.length - vs.length) none
def ypq(CX:CXT)(P:Program)(w:World)(K:W.Frag)(mg:Str->Option Value)(base:Heap)(N:List Str)(qual:Str)(scope:Scope)(f:Addr)(cd:Value)(A:Around)(outer:List Env)(s:Shared)(H:Hp)(E:XK):Cx where
 prog:=P
 w:=w
 K:=K
 mg:=mg
 base:=base
 A:=A.deeper (envOfC qual scope s.heap.objs.size f cd)
 N:=N
 s₀:=s
 H₀:=H
 env:=envOfC qual scope s.heap.objs.size f cd
 outer:=outer
 stack:=envOfC qual scope s.heap.objs.size f cd::outer
 ex:=[]
 calm:=true
 fn:=fun _=>true
 pn:=[]
 xe:=fun e s'=>wpAny (model P w) (A.deeper (envOfC qual scope s.heap.objs.size f cd)) (leaving (envOfC qual scope s.heap.objs.size f cd) e) (fun _ s''=>CX outer H s E e s'') (fun e' s''=>CX outer H s E e' s'') s'
theorem zlo{sc:Scope}{n:Nat}{x:Str}(h:sc.names.lookup x=some .cell):∃ c,(cellsFrom n sc.names []).lookup x=some c:=by
 have q:=W.cellsFrom_some sc.names n [] (.inl h);exact Option.isSome_iff_exists.mp q
theorem zi5{CX:CXT}{P:Program}{w:World}{K:W.Frag}{mg:Str->Option Value}{base:Heap}{N ps:List Str}{qual:Str}{scope:Scope}{f:Addr}{cd:Value}{A:Around}{outer:List Env}{s s1:Shared}{H:Hp}{E:XK}{us:List Value}{vs:List V}
  (S:FnScope N ps scope) (hd:A.handled=none) (e0:Env0 P w K mg base A outer s H) (hl:vs.length=ps.length) (r:yo0 vs us)
  (x:InCallC s s.heap.objs.size (bindL (envOfC qual scope s.heap.objs.size f cd).kindOf (ps.zip us) fun _=>none) (cellsFrom (s.heap.objs.size+1) scope.names []) (bindC (envOfC qual scope s.heap.objs.size f cd).kindOf (ps.zip us) fun _=>none) s1) :
  Inv (ypq CX P w K mg base N qual scope f cd A outer s H E) [] (ynb N vs) H s1:=by
 have hpl:ps.length<=N.length:=by have:=congrArg List.length S.pre;rw[List.length_take]at this;omega
 obtain⟨h1,tk,rfl,hk⟩:=x.done;have noA:∀ b:Addr,b ∉ (ypq CX P w K mg base N qual scope f cd A outer s H E).ex:=fun b z=>absurd (show b∈([]:List Addr)from z) (by simp);refine⟨⟨e0.mod,S.kind,rfl,rfl,Nat.le_refl _,fun y z c h1 h2=>?_,fun y hy=>?_,fun y c _ h=>?_,fun _=>hd,Around.frames_deeper e0.frames,.inr ⟨rfl,rfl⟩,fun b z=>absurd z (noA b),e0.bs,e0.bsz,fun b _ _=>noA b,fun b z=>absurd z (noA b),e0.funs,e0.frf⟩,
  rfl,e0.bare,Un.kept hk,⟨_,x.toInCall.ns,fun i y v h1 h2 h3=>?_⟩,fun y c h=>⟨_,x.cell y c h⟩,e0.hok.fresh (Nat.le_refl _),fun y c h=>?_,fun p hp=>absurd (show p∈([]:List (Addr × Obj))from hp) (by simp),e0.hok.kept hk,?_⟩
 ·exact name_of_addr x.apart (PySem.mem_of_lookup h1) (PySem.mem_of_lookup h2)
 ·have hy:scope.names.lookup y=some .cell\/scope.names.lookup y=some .free:=hy;rcases hy with hy|hy
  ·exact zlo hy
  ·exact absurd rfl (S.nofree _ (PySem.mem_of_lookup hy))
 ·exact Nat.le_of_lt (x.above y c (PySem.mem_of_lookup h))
 ·have hi:i<vs.length:=by
   unfold ynb at h2;by_cases hi:i<vs.length
   ·exact hi
   ·rw[List.getElem?_append_right (by simpa using hi)]at h2;rw[List.getElem?_replicate]at h2;split at h2<;>cases h2
  have ha:vs[i]?=some v:=by
   unfold ynb at h2;rw[List.getElem?_append_left (by simpa using hi),List.getElem?_map]at h2;cases e:vs[i]? with
   |none=>rw[e]at h2;cases h2
   |some a=>rw[e]at h2;cases h2;rfl
  obtain⟨u,hu,rv⟩:=r.get ha;have hp:ps[i]?=some y:=by
   rw[<-S.pre,List.getElem?_take_of_lt (by omega)];exact h1
  have ndP:ps.Nodup:=by rw[<-S.pre];exact S.nd.sublist (List.take_sublist _ _)
  refine⟨u,rv,?_⟩;rcases S.par y (List.mem_of_getElem? hp)with k|k
  ·exact .inl ⟨k,zhp ndP hp hu k⟩
  ·obtain⟨c,e⟩:=zlo (n:=s.heap.objs.size+1) k;refine .inr ⟨.inl k,c,e,?_⟩;have q:=x.cell y c e;rw[zhn ndP hp hu (by show scope.names.lookup y≠_;rw[k];decide)]at q;exact q
 ·exact e0.hok.fresh (Nat.le_of_lt (x.above y c (PySem.mem_of_lookup h)))
 ·unfold ynb;show _=N.length;rw[List.length_append,List.length_map,List.length_replicate];omega
theorem yjo{CX:CXT}{P:Program}{w:World}{K:W.Frag}{mg:Str->Option Value}{base:Heap}{k:Nat}{f:Addr}{name qual:Str}{params:Arguments}{body:List Stmt}{scope:Scope}{dV kV doc pm cdv ct oc:Value}{an od:Option Addr}
  {osl:Array (Option Value)} {N ps:List Str} {sp:Sp} (lk:K.lookup f=some ⟨oc,od,.func (W.fnOf name qual params body scope dV kV doc pm an cdv ct),osl⟩) (hcd:W.codeIn K cdv qual=true) (S:FnScope N ps scope)
  (len:∀ vs H Q E,sp vs H Q E->vs.length=ps.length)
  (hbody:∀ (A:Around) (outer:List Env) (s:Shared) (H:Hp) (vs:List V) (Q:VK) (E:XK),Room k (A.deeper (envOfC qual scope s.heap.objs.size f cdv))->sp vs H Q E->
   ∃ t,PSs (ypq CX P w K mg base N qual scope f cdv A outer s H E) body t/\t { nx:=fun _ H'=>Q .non H',rt:=Q } (ynb N vs) H) :
  FnOk P w K mg base CX (k+1) f (W.fnOf name qual params body scope dV kV doc pm an cdv ct) ps sp:=by
 refine⟨len,fun A outer s H args us vs Q E hr e0 hb r hsp=>?_⟩;have hl:=len _ _ _ _ hsp;have KX:K.In s.heap:=e0.mod.kin.keeps fun b o e=>(e0.bs b o e).1;have lim:s.heap.NoLimit:=e0.mod.nolimit.keeps fun b o e=>(e0.bs b o e).1;have hkind:∀ y∈ps.zip us,scope.names.lookup y.1=some .local\/(scope.names.lookup y.1=some .cell/\((cellsFrom (s.heap.objs.size+1) scope.names []).lookup y.1).isSome=true):=fun⟨n,v⟩ hy=>by
  rcases S.par n (List.of_mem_zip hy).1 with q|q
  ·exact .inl q
  ·exact .inr ⟨q,W.cellsFrom_some _ _ _ (.inl q)⟩
 refine codeAny_call_function hr.depth (KX _ _ lk) rfl S.co S.gen rfl (W.codeRec_of KX hcd) (hb _ _ _ _ ?_);refine wpAny_newFunctionEnv_cells S.kind hkind fun env he s1 x=>?_;subst he;refine⟨lim.keeps x.toInCall.keep,codeAny_func ?_⟩;obtain⟨t,ht,hq⟩:=hbody A outer s H vs Q E (hr.deeper _) hsp;have I:Inv (ypq CX P w K mg base N qual scope f cdv A outer s H E) [] (ynb N vs) H s1:=zi5 S hr.hd e0 hl r x;refine wpAny_mono (ht [] s1 (ynb N vs) H _ I hq) (fun fl s' hs=>?_) fun e s' hs=>hs;have fin:∀ {σ':St} {H':Hp} {v:V} {u:Value},Inv (ypq CX P w K mg base N qual scope f cdv A outer s H E) [] σ' H' s'->yoq v u->Q v H'->CE outer P w H s Q u s':=
  fun {σ' H' v u} J rv q=>⟨v,H',J.os,J.bare,J.base,J.hok,rv,q⟩
 cases fl with
 |ret u=>
  obtain⟨v,σ',H',J,rv,q⟩:=hs;exact fin J rv q
 |next=>
  obtain⟨σ',H',J,q⟩:=hs;exact fin (v:=V.non) (u:=Value.none) J rfl q
 |brk=>
  obtain⟨_,_,_,q⟩:=hs;exact False.elim q
 |cont=>
  obtain⟨_,_,_,q⟩:=hs;exact False.elim q
section
variable{X:Cx}{x:Str}{p pos:Pos}{e:Expr}{es:List Expr}{t:TA}{id T:String}{r:List V->Hp->VK->Prop}
def tCB(r:List V->Hp->VK->Prop)(t:TA):TE:=fun σ H Q=>t σ H fun vs H1=>r vs H1 Q
theorem zpe(hc:yh0 X (.builtin id) r)(hg:Gl X x)(hm:X.mg x=none)(hv:bootBuiltins x=some (.builtin id))(ha:PA X (e::es) t)(hn:x ≠ "__name__":=by decide)(hdb:(x == ("__debug__" : Str))=false:=by decide)
  (he:starEach (e::es) X.env=(false,eval e X.env)::starEach es X.env:=by rfl) (hpl:(backTo pos (starEach es X.env)).any (·.1)=false:=by rfl):PE X (.Call (.Name x p) (e::es) [] pos) (tCB r t):=by
 intro pins s σ H Q I h;refine wpAny_Call_Name_kw (yd8 I hg hm hv ?_ hn hdb);exact PyProof.Rows.callWith_builtin1 (thn (ha pos pins s σ H _ I h) fun us s1 ⟨vs,H1,I1,r1,q1⟩=>hc pins s1 σ H1 vs us Q I1 r1 q1) he hpl
theorem zjz(hc:yh0 X (.type T) r)(hg:Gl X x)(hm:X.mg x=none)(hv:bootBuiltins x=some (.type T))(ha:PA X (e::es) t)(hn:x ≠ "__name__":=by decide)(hdb:(x == ("__debug__" : Str))=false:=by decide)
  (he:starEach (e::es) X.env=(false,eval e X.env)::starEach es X.env:=by rfl) (hpl:(backTo pos (starEach es X.env)).any (·.1)=false:=by rfl):PE X (.Call (.Name x p) (e::es) [] pos) (tCB r t):=by
 intro pins s σ H Q I h;refine wpAny_Call_Name_kw (yd8 I hg hm hv ?_ hn hdb);exact PyProof.Rows.callWith_type1 (thn (ha pos pins s σ H _ I h) fun us s1 ⟨vs,H1,I1,r1,q1⟩=>hc pins s1 σ H1 vs us Q I1 r1 q1) he hpl
end
end L2
namespace HT
open PySem PyProof.Rows
section
open PySem.SeqAt
open PySem.AutoSeq1 (wpAny_loadPart')
open PySem.MeetsSeq PySem.MeetsSeq2 PySem.MeetsSeq3
end
section
variable{prog:Program}{w:World}{A:Around}{E:Value->Shared->Prop}{s:Shared}
theorem cat_tup{t b:Addr}{vs ws:List Value}{Q:Value->Shared->Prop}(ht:IsTup s.heap t vs.toArray)(hb:IsTup s.heap b ws.toArray)(hv:vs≠[])
  (h1:ws=[]->Q (.ref t) s) (h2:ws≠[]->Q (.ref s.heap.objs.size) { s with heap:=s.heap.push { cls:=.type "tuple",data:=.seq (vs++ws).toArray } })
  (hsz:vs.length+ws.length<=sizeLine):wpAny (model prog w) A (binaryOp .Add (.ref t) (.ref b)) Q E s:=by
 obtain⟨⟨cls,dd,data,sl⟩,ho,hc,n,hd⟩:=id ht;obtain⟨⟨cls2,dd2,data2,sl2⟩,ho2,hc2,n2,hd2⟩:=id hb;simp only at hc hd hc2 hd2;subst hc hd hc2 hd2;have e:vs.toArray++ws.toArray=(vs++ws).toArray:=by simp
 by_cases hw:ws=[]
 ·exact concat_meets ⟨_,ho,rfl⟩ ⟨_,ho2,rfl⟩ noFill_tuple_add seq_tuple_add PySem.F.slot_tuple_add PySem.F.entry_tuple_add (PySem.F.args_tuple_add_2 _ _)
   (tuple_addW1 t b vs.toArray ws.toArray n n2 dd dd2 sl sl2 (by simpa using hv) (by simp[hw])) ⟨ho,ho2,h1 hw⟩
 ·refine concat_meets ⟨_,ho,rfl⟩ ⟨_,ho2,rfl⟩ noFill_tuple_add seq_tuple_add PySem.F.slot_tuple_add PySem.F.entry_tuple_add (PySem.F.args_tuple_add_2 _ _)
   (tuple_addW2 t b vs.toArray ws.toArray n n2 dd dd2 sl sl2 (by simpa using hv) (by simpa using hw) (by rw[List.size_toArray,List.size_toArray];exact hsz)) ⟨ho,ho2,?_⟩
  rw[e];exact h2 hw
def sIx(n d:Nat):Option Int->Nat
 |none=>d
 |some v=>if v<0 then (v+(n:Int)).toNat else min v.toNat n
theorem ygk(n d:Nat)(hd:d<=n)(o:Option Int):sIx n d o<=n:=by
 cases o with
 |none=>exact hd
 |some v=>
  show (if v<0 then (v+(n:Int)).toNat else min v.toNat n)<=n;by_cases hv:v<0
  ·rw[if_pos hv];omega
  ·rw[if_neg hv];exact Nat.min_le_right _ _
theorem zsk(v:Int)(n d:Nat):(if v<0 then max (v+(n:Int)) 0 else min v (n:Int))=((sIx n d (some v):Nat):Int):=by
 show (if v<0 then max (v+(n:Int)) 0 else min v (n:Int))=(((if v<0 then (v+(n:Int)).toNat else min v.toNat n):Nat):Int);by_cases hv:v<0
 ·simp only[if_pos hv];omega
 ·simp only[if_neg hv];omega
theorem zfh(lo hi:Option Int)(n:Nat):Builtin.Slice.sliceAdjust lo hi 1 (n:Int)=(((sIx n 0 lo:Nat):Int),((sIx n n hi:Nat):Int)):=by
 have h1:¬ ((1:Int)<0):=by omega
 unfold Builtin.Slice.sliceAdjust;simp only[h1,if_false];refine Prod.ext ?_ ?_
 ·cases lo with
  |none=>rfl
  |some v=>exact zsk v n 0
 ·cases hi with
  |none=>rfl
  |some v=>exact zsk v n n
theorem zgs(i j:Nat):Builtin.Slice.slicePlaces (i:Int) (j:Int) 1=j - i:=by
 unfold Builtin.Slice.slicePlaces;have h1:(1:Int) > 0:=by omega
 simp only[h1,if_true,Int.ediv_one];split<;>omega
theorem zg9{v:Value}{o:Option Int}{Q:Option Int->Shared->Prop}(p:IsPart v o)(h:Q o s):wpAny (model prog w) A (Builtin.Slice.slicePartIndex v) Q E s:=by
 cases p with
 |none=>exact slicePart_none h
 |int i t=>exact slicePart_int h
theorem zba{sl:Addr}{vl vu:Value}{lo hi:Option Int}{n:Nat}{Q:Int × Int × Nat->Shared->Prop}(hs:s.heap.IsSliceOf sl vl vu .none)(pl:IsPart vl lo)(pu:IsPart vu hi)
  (h:Q (((sIx n 0 lo:Nat):Int),1,sIx n n hi - sIx n 0 lo) s):wpAny (model prog w) A (Builtin.Slice.sliceApplied (.ref sl) (pure (n:Int))) Q E s:=by
 obtain⟨os,hos,hcs,hds⟩:=id hs;unfold Builtin.Slice.sliceApplied Builtin.Slice.sliceFields;refine wpAny_bind (wpAny_bind (wpAny_field hos hds (x:=vl) rfl (wpAny_bind (wpAny_field hos hds (x:=vu) rfl (wpAny_bind (wpAny_field hos hds (x:=.none) rfl (wpAny_pure ?_)))))));refine wpAny_bind (slicePart_none ?_);show wpAny _ _ (if ((1:Int) == 0)=true then _ else _) _ _ s;rw[if_neg (by decide)];refine wpAny_bind (zg9 pl (wpAny_bind (zg9 pu (wpAny_bind (wpAny_pure ?_)))));show wpAny _ _ (match Builtin.Slice.sliceAdjust lo hi 1 (n:Int)with|(lo,hi)=>pure (lo,(1:Int),Builtin.Slice.slicePlaces lo hi 1)) _ _ s;rw[zfh lo hi n];show wpAny _ _ (pure (((sIx n 0 lo:Nat):Int),(1:Int),Builtin.Slice.slicePlaces ((sIx n 0 lo:Nat):Int) ((sIx n n hi:Nat):Int) 1)) _ _ s;rw[zgs];exact wpAny_pure h
theorem zpm(xs:Array Value)(i k:Nat):((List.range k).filterMap fun(m:Nat)=>xs[((i:Int)+(m:Int) * 1).toNat]?).toArray=((xs.toList.drop i).take k).toArray:=by
 have e:(fun(m:Nat)=>xs[((i:Int)+(m:Int) * 1).toNat]?)=fun m=>xs[i+m]?:=by
  funext m;have:((i:Int)+(m:Int) * 1).toNat=i+m:=by omega
  rw[this]
 rw[e];have:=pick_run xs i k;rw[List.filterMap_map]at this;have e2:((fun x=>xs[x]?) ∘ fun x=>i+x)=fun m=>xs[i+m]?:=rfl;rw[e2]at this;rw[this]
theorem getItem_tuple_cut{t sl:Addr}{items:Array Value}{vl vu:Value}{lo hi:Option Int}{Q:Value->Shared->Prop}(ht:IsTup s.heap t items)(hs:s.heap.IsSliceOf sl vl vu .none)(pl:IsPart vl lo)(pu:IsPart vu hi)
  (hw:¬ (sIx items.size 0 lo=0/\sIx items.size items.size hi=items.size))
  (h:Q (.ref s.heap.objs.size) { s with heap:=s.heap.push { cls:=.type "tuple",data:=.seq ((items.toList.drop (sIx items.size 0 lo)).take (sIx items.size items.size hi - sIx items.size 0 lo)).toArray } })
  (hsz:items.size<=sizeLine):wpAny (model prog w) A (getItem (.ref t) (.ref sl)) Q E s:=by
 have htake:sizeOk (.seq ((items.toList.drop (sIx items.size 0 lo)).take (sIx items.size items.size hi - sIx items.size 0 lo)).toArray):=by
  show ((items.toList.drop (sIx items.size 0 lo)).take (sIx items.size items.size hi - sIx items.size 0 lo)).toArray.size<=sizeLine;rw[List.size_toArray,List.length_take,List.length_drop,Array.length_toList];omega
 have hj:sIx items.size items.size hi<=items.size:=ygk _ _ (Nat.le_refl _) hi;obtain⟨os,hos,hcs,hds⟩:=id hs;have hTs:s.TypeIs (.ref sl) "slice":=⟨os,hos,hcs⟩
 unfold getItem;try with_reducible refine wpAny_holding ?_
 first|refine wpAny_bind (wpAny_pure ?_)|skip
 refine wpAny_bind (wpAny_sequenceKey ht.typeIs (by decide) ?_);refine wpAny_bind (wpAny_callSpecial?_slot (name:=Str.ofString "__getitem__") ht.typeIs PyProof.Rows.slot_tuple_getitem
  (wpAny_call_entry PyProof.Rows.slot_tuple_getitem ht.typeIs entry_tuple_getitem ?_ (args_tuple_getitem _ _)))
 show wpAny _ _ (Builtin.Tuple.tupleItemsOf (.ref t) >>= _) _ _ s;refine wpAny_bind (tupleItemsOf_ ht ?_);refine wpAny_bind (wpAny_typeOf hTs ?_);rw[if_pos (by decide)];refine wpAny_bind (zba hs pl pu ?_);have hno:¬ ((((sIx items.size 0 lo:Nat):Int) == 0 && (1:Int) == 1 && (sIx items.size items.size hi - sIx items.size 0 lo) == items.size)=true):=by
  intro q;rw[Bool.and_eq_true,Bool.and_eq_true]at q;have q1:((sIx items.size 0 lo:Nat):Int)=0:=eq_of_beq q.1.1;have q2:sIx items.size items.size hi - sIx items.size 0 lo=items.size:=eq_of_beq q.2;exact hw ⟨by omega,by omega⟩
 show wpAny _ _ (if (((sIx items.size 0 lo:Nat):Int) == 0 && (1:Int) == 1 && (sIx items.size items.size hi - sIx items.size 0 lo) == items.size)=true then _ else _) _ _ s;rw[if_neg hno,zpm];first
  |exact wpAny_bind (m:=Builtin.Tuple.tupleExact _) (wpAny_newObj_type (wpAny_pure ⟨_,rfl,wpAny_pure h⟩) htake)
  |exact wpAny_bind (m:=Builtin.Tuple.tupleExact _) (wpAny_newObj_type (wpAny_bind (wpAny_pure (wpAny_pure ⟨_,rfl,wpAny_pure h⟩))) htake)
  |exact wpAny_bind (wpAny_bind (m:=Builtin.Tuple.tupleExact _) (wpAny_newObj_type (wpAny_pure (wpAny_pure ⟨_,rfl,wpAny_pure h⟩)) htake))
  |exact wpAny_bind (wpAny_bind (m:=Builtin.Tuple.tupleExact _) (wpAny_newObj_type (wpAny_pure ⟨_,rfl,wpAny_pure h⟩) htake))
end
end HT
namespace L2
open PySem PySem.Spec PyProof.Rows
abbrev TO:=St->Hp->(Option Int->Hp->Prop)->Prop
def PO(X:Cx)(e:Option Expr)(t:TO):Prop:=
 ∀ (pins:List (Addr × Obj)) (s:Shared) (σ:St) (H:Hp) (Q:Option Int->Hp->Prop),Inv X pins σ H s->t σ H Q->
  wpAny (model X.prog X.w) X.A (evalPart e X.env) (fun u s'=>∃ o H',Inv X pins σ H' s'/\IsPart u o/\Q o H') X.xe s
def zzt:TO:=fun _ H Q=>Q none H
def ynj(t:TE):TO:=fun σ H Q=>t σ H fun x H1=>∃ i,x=.int i/\Q (some i) H1
theorem zf7{ns:List Int}:∀ {us:List Value},yo0 (ns.map V.int) us->IntsAre us ns:=by
 induction ns with
 |nil=>intro us r;rw[List.map_nil]at r;cases r;exact .nil
 |cons n ns ih=>
  intro us r;rw[List.map_cons]at r;cases r with
  |cons r1 r2=>
   obtain⟨t,e⟩:=r1;subst e;exact .cons n t (ih r2)
section
variable{X:Cx}{e:Expr}{te:TE}{lo hi:Option Expr}{tl th:TO}{pos p2:Pos}
theorem zxd:PO X none zzt:=by
 intro pins s σ H Q I h;rw[evalPart_none];exact wpAny_pure ⟨none,H,I,.none,h⟩
theorem zxe(h:PE X e te):PO X (some e) (ynj te):=by
 intro pins s σ H Q I hw;rw[evalPart_some];refine thn (h pins s σ H _ I hw) fun u s1 ⟨x,H1,I1,r1,q1⟩=>?_;obtain⟨i,rfl,q⟩:=q1;obtain⟨t,rfl⟩:=r1;exact⟨some i,H1,I1,.int i t,q⟩
def SlR(X:Cx)(r:V->Option Int->Option Int->Hp->VK->Prop):Prop:=
 ∀ (pins:List (Addr × Obj)) (s:Shared) (σ:St) (H:Hp) (x:V) (v vl vu:Value) (lo hi:Option Int) (sl:Addr) (Q:VK),Inv X pins σ H s->yoq x v->s.heap.IsSliceOf sl vl vu .none->IsPart vl lo->IsPart vu hi->r x lo hi H Q->
  ∃ T id,typeLookup (.type T) "__getitem__" = pure (some (.builtin id))/\s.TypeIs v T/\wpAny (model X.prog X.w) X.A (getItem v (.ref sl)) (EP X pins σ Q) X.xe s
theorem SlR.or{r r':V->Option Int->Option Int->Hp->VK->Prop}(h:SlR X r)(h':SlR X r'):SlR X (fun x lo hi H Q=>r x lo hi H Q\/r' x lo hi H Q):=by
 intro pins s σ H x v vl vu lo hi sl Q I rx hs pl pu q;rcases q with q|q
 ·exact h pins s σ H x v vl vu lo hi sl Q I rx hs pl pu q
 ·exact h' pins s σ H x v vl vu lo hi sl Q I rx hs pl pu q
def tSl(r:V->Option Int->Option Int->Hp->VK->Prop)(te:TE)(tl th:TO):TE:=fun σ H Q=>te σ H fun x H1=>tl σ H1 fun l H2=>th σ H2 fun u H3=>r x l u H3 Q
theorem zpj{r:V->Option Int->Option Int->Hp->VK->Prop}(hr:SlR X r)(he:PE X e te)(hl:PO X lo tl)(hu:PO X hi th):PE X (.Subscript e (.Slice lo hi none p2) pos) (tSl r te tl th):=by
 intro pins s σ H Q I h;refine Subscript_ (thn (he pins s σ H _ I h) fun v s1 ⟨x,H1,I1,r1,q1⟩=>?_);refine wpAny_Slice (thn (hl pins s1 σ H1 _ I1 q1) fun vl s2 ⟨l,H2,I2,pl,q2⟩=>thn (hu pins s2 σ H2 _ I2 q2) fun vu s3 ⟨u,H3,I3,pu,q3⟩=>?_);rw[evalPart_none];refine wpAny_pure ?_;have I4:Inv X pins σ H3 { s3 with heap:=s3.heap.push { cls:=.type "slice",data:=.fields #[vl,vu,.none] } }:=I3.kept (t':=s3.toks) fun b ob q=>Heap.get?_push_of_some _ q;obtain⟨T,id,hT,ht,hg⟩:=hr pins { s3 with heap:=s3.heap.push { cls:=.type "slice",data:=.fields #[vl,vu,.none] } } σ H3 x v vl vu l u s3.heap.objs.size Q I4 r1 (Heap.IsSliceOf.new ..) pl pu q3;show wpAny (model X.prog X.w) X.A (subscriptTail e (.Slice lo hi none p2) v (.ref s3.heap.objs.size)) (EP X pins σ Q) X.xe { s3 with heap:=s3.heap.push { cls:=.type "slice",data:=.fields #[vl,vu,.none] } };exact tail_any (ops:=[.ref s3.heap.objs.size,v]) ht hT hg (by with_unfolding_all rfl)
def ypp(xs:List V)(lo hi:Option Int):List V:=(xs.drop (HT.sIx xs.length 0 lo)).take (HT.sIx xs.length xs.length hi - HT.sIx xs.length 0 lo)
theorem zee(xs:List V)(lo hi:Option Int):(ypp xs lo hi).length<=xs.length:=by
 unfold ypp;rw[List.length_take,List.length_drop];omega
def yrz(K:W.Frag):V->Option Int->Option Int->Hp->VK->Prop:=fun x lo hi H Q=>∃ a xs,x=.ref a/\SqT K H a xs/\
 ¬ (HT.sIx xs.length 0 lo=0/\HT.sIx xs.length xs.length hi=xs.length)/\∀ p,H p=none->Q (.ref p) (upd H p (.tup (ypp xs lo hi)))
theorem ygr:SlR X (yrz X.K):=by
 intro pins s σ H x v vl vu lo hi sl Q I rx hs pl pu h;obtain⟨a,xs,rfl,hx,hw,q⟩:=h;cases rx;obtain⟨its,r,ht,hz⟩:=I.tuple hx;have hlen:its.toArray.size=xs.length:=by rw[List.size_toArray];exact r.length.symm
 refine⟨"tuple",_,PyProof.Rows.slot_tuple_getitem.lookup,ht.typeIs,?_⟩;refine HT.getItem_tuple_cut ht hs pl pu (by rw[hlen];exact hw) ?_ (by rw[hlen];exact hz);rw[hlen];refine⟨.ref s.heap.objs.size,_,I.laid (t':=s.toks) (o:=.tup (ypp xs lo hi)) (fun b ob q=>Heap.get?_push_of_some _ q) (Nat.le_refl _) ?_,rfl,q _ (I.hok.fresh (Nat.le_refl _))⟩;exact⟨Nat.le_trans (zee xs lo hi) hz,_,(r.drop (HT.sIx xs.length 0 lo)).take (HT.sIx xs.length xs.length hi - HT.sIx xs.length 0 lo),IsTup.new _ _⟩
def ymd(K:W.Frag):R2:=fun x y H Q=>∃ a b xs ys,x=.ref a/\y=.ref b/\SqT K H a xs/\SqT K H b ys/\xs≠[]/\xs.length+ys.length<=sizeLine/\
 (ys=[]->Q (.ref a) H)/\(ys≠[]->∀ p,H p=none->Q (.ref p) (upd H p (.tup (xs++ys))))
theorem yo0.nil_iff{xs:List V}{us:List Value}(r:yo0 xs us):us=[] ↔ xs=[]:=by
 cases r with
 |nil=>simp
 |cons _ _=>simp
theorem zwu:OpR X (binaryOp .Add) (ymd X.K):=by
 intro pins s σ H x y v u Q I rx ry h;obtain⟨a,b,xs,ys,rfl,rfl,ha,hb,hx,hz,q1,q2⟩:=h;cases rx;cases ry;obtain⟨its,r1,p1,_⟩:=I.tuple ha;obtain⟨its2,r2,p2,_⟩:=I.tuple hb;refine HT.cat_tup p1 p2 (fun z=>hx (r1.nil_iff.mp z)) (fun z=>⟨.ref a,H,I,rfl,q1 (r2.nil_iff.mp z)⟩) (fun z=>?_) (by rw[<-r1.length,<-r2.length];exact hz);refine⟨.ref s.heap.objs.size,_,I.laid (t':=s.toks) (o:=.tup (xs++ys)) (fun b ob q=>Heap.get?_push_of_some _ q) (Nat.le_refl _) ?_,rfl,q2 (fun w=>z (r2.nil_iff.mpr w)) _ (I.hok.fresh (Nat.le_refl _))⟩;exact⟨by rw[List.length_append];exact hz,_,r1.append r2,IsTup.new _ _⟩
end
def ixN(n:Nat)(i:Int):Option Nat:=if 0<=i then (if i<n then some i.toNat else none)else if -(n:Int)<=i then some (i+n).toNat else none
def atI{α:Type}(xs:List α)(i:Int):Option α:=(ixN xs.length i).bind fun j=>xs[j]?
theorem zu3{n:Nat}{i:Int}{j:Nat}(h:ixN n i=some j):seqIndex? i n=some j/\j<n/\-(n:Int)<=i/\i<n:=by
 unfold ixN at h;by_cases h0:0<=i
 ·rw[if_pos h0]at h;by_cases h1:i<n
  ·rw[if_pos h1]at h;have e:i.toNat=j:=Option.some.inj h;exact⟨by rw[seqIndex_of h0 h1,e],by omega,by omega,h1⟩
  ·rw[if_neg h1]at h;cases h
 ·rw[if_neg h0]at h;by_cases h1:-(n:Int)<=i
  ·rw[if_pos h1]at h;have e:(i+n).toNat=j:=Option.some.inj h;exact⟨by rw[seqIndex_neg (by omega) h1,e],by omega,h1,by omega⟩
  ·rw[if_neg h1]at h;cases h
theorem zry{α:Type}{xs:List α}{i:Int}{v:α}(h:atI xs i=some v):∃ j,seqIndex? i xs.length=some j/\xs[j]?=some v/\j<xs.length/\-(xs.length:Int)<=i/\i<xs.length:=by
 unfold atI at h;cases e:ixN xs.length i with
 |none=>rw[e]at h;cases h
 |some j=>
  rw[e]at h;obtain⟨h1,h2,h3,h4⟩:=zu3 e;exact⟨j,h1,h,h2,h3,h4⟩
theorem zrz{α:Type}{xs:List α}{j:Nat}{v:α}(h:xs[j]?=some v):atI xs (j:Int)=some v:=by
 have hj:j<xs.length:=(List.getElem?_eq_some_iff.mp h).1;have e:ixN xs.length (j:Int)=some j:=by
  unfold ixN;rw[if_pos (by omega),if_pos (by omega)];simp
 unfold atI;rw[e];exact h
def zrn(b:Expr):Prop:=∀ o i,subscripted b false o i=operate [o,i] (getItem o i)
def IxR(X:Cx)(r:R2):Prop:=
 ∀ (value slice:Expr) (pins:List (Addr × Obj)) (s:Shared) (σ:St) (H:Hp) (x y:V) (v u:Value) (Q:VK),Inv X pins σ H s->yoq x v->yoq y u->r x y H Q->
  subscripted slice false v u=operate [v,u] (getItem v u)->wpAny (model X.prog X.w) X.A (subscriptTail value slice v u) (EP X pins σ Q) X.xe s
def MtR(X:Cx)(id:String)(r:V->List V->Hp->VK->Prop):Prop:=
 ∀ (pins:List (Addr × Obj)) (s:Shared) (σ:St) (H:Hp) (x:V) (xs:List V) (v:Value) (us:List Value) (Q:VK),Inv X pins σ H s->yoq x v->yo0 xs us->r x xs H Q->
  wpAny (model X.prog X.w) X.A (call (.builtin id) (v::us)) (EP X pins σ Q) X.xe s
section
variable{X:Cx}{a b:Expr}{ta tb:TE}{pos:Pos}
theorem IxR.or{r r':R2}(h:IxR X r)(h':IxR X r'):IxR X (fun x y H Q=>r x y H Q\/r' x y H Q):=by
 intro value slice pins s σ H x y v u Q I rx ry q hs;rcases q with q|q
 ·exact h value slice pins s σ H x y v u Q I rx ry q hs
 ·exact h' value slice pins s σ H x y v u Q I rx ry q hs
theorem MtR.or{id:String}{r r':V->List V->Hp->VK->Prop}(h:MtR X id r)(h':MtR X id r'):MtR X id (fun x xs H Q=>r x xs H Q\/r' x xs H Q):=by
 intro pins s σ H x xs v us Q I rx rs q;rcases q with q|q
 ·exact h pins s σ H x xs v us Q I rx rs q
 ·exact h' pins s σ H x xs v us Q I rx rs q
theorem yl3{r:R2}(hr:IxR X r)(ha:PE X a ta)(hb:PE X b tb)(hs:zrn b):PE X (.Subscript a b pos) (tOp r ta tb):=by
 intro pins s σ H Q I h;exact Subscript_ (ypd ha hb I h fun v u s2 x y H2 I2 rx ry q=>hr a b pins s2 σ H2 x y v u Q I2 rx ry q (hs _ _))
def yrt(K:W.Frag):R2:=fun x y H Q=>∃ p xs i v,x=.ref p/\y=.int i/\SqL K H p xs/\atI xs i=some v/\Q v H
def yru(K:W.Frag):R2:=fun x y H Q=>∃ p xs i v,x=.ref p/\y=.int i/\SqT K H p xs/\atI xs i=some v/\Q v H
theorem zu5:IxR X (yrt X.K):=by
 intro value slice pins s σ H x y v u Q I rx ry h hs;obtain⟨p,xs,i,z,rfl,rfl,hq,he,q⟩:=h;cases rx;obtain⟨t,rfl⟩:=ry;obtain⟨its,r,pl,hz⟩:=I.list hq;obtain⟨j,h1,h2,h3,h4,h5⟩:=zry he;obtain⟨w,ew,rw'⟩:=r.get h2;have hl:=r.length;have hn:=yea;have fin:EP X pins σ Q w s:=⟨z,H,I,rw',q⟩
 by_cases h0:0<=i
 ·have hj:i.toNat=j:=by
   rw[seqIndex_of h0 h5]at h1;exact Option.some.inj h1
  exact item_listR pl.isList h0 (by omega) (by rw[hj];simpa using ew) fin hs
 ·have hj:(i+(its.toArray.size:Int)).toNat=j:=by
   rw[seqIndex_neg (by omega) h4]at h1;rw[List.size_toArray,<-hl];exact Option.some.inj h1
  exact subscriptTail_builtinR (x:=w) pl.isList.typeIs slot_list_getitem.lookup
   (wpAny_getItem_list_neg (Q:=fun r s'=>r=w/\EP X pins σ Q r s') pl.isList (by omega) (by rw[List.size_toArray]<;>omega) (by omega) (by rw[hj];simpa using ew) ⟨rfl,fin⟩) hs
theorem ydp:IxR X (yru X.K):=by
 intro value slice pins s σ H x y v u Q I rx ry h hs;obtain⟨p,xs,i,z,rfl,rfl,hq,he,q⟩:=h;cases rx;obtain⟨t,rfl⟩:=ry;obtain⟨its,r,pl,hz⟩:=I.tuple hq;obtain⟨j,h1,h2,h3,h4,h5⟩:=zry he;obtain⟨w,ew,rw'⟩:=r.get h2;have hl:=r.length;have hn:=yea;have fin:EP X pins σ Q w s:=⟨z,H,I,rw',q⟩
 exact subscriptTail_builtinR (x:=w) pl.typeIs slot_tuple_getitem.lookup
  (getItem_tuple (j:=j) (Q:=fun r s'=>r=w/\EP X pins σ Q r s') pl (by omega) (by omega) (by rw[List.size_toArray,<-hl];exact h1) (by simpa using ew) ⟨rfl,fin⟩) hs
theorem zge(its:List Value)(n j:Nat)(u:Value):Obj.mapSeq (·.setIfInBounds j u) { cls:=.type "list",data:=.seq its.toArray n }={ cls:=.type "list",data:=.seq (its.set j u).toArray n }:=by
 simp[Obj.mapSeq]
theorem Inv.lst{pins:List (Addr × Obj)}{σ:St}{H:Hp}{s:Shared}{p:Addr}{xs:List V}(I:Inv X pins σ H s)(h:H p=some (.lst xs)) :
  ∃ (its:List Value) (n:Nat),yo0 xs its/\s.heap.get? p=some { cls:=.type "list",data:=.seq its.toArray n }/\xs.length<=sizeLine:=by
 obtain⟨z,its,n,r,e⟩:=I.hok p _ h;exact⟨its,n,r,e,z⟩
theorem Inv.lstUpd{pins:List (Addr × Obj)}{σ:St}{H:Hp}{s:Shared}{p:Addr}{xs ys:List V}{its its':List Value}{n n':Nat}{f:Obj->Obj}(I:Inv X pins σ H s)(h:H p=some (.lst xs))
  (ho:s.heap.get? p=some { cls:=.type "list",data:=.seq its.toArray n }) (hf:f { cls:=.type "list",data:=.seq its.toArray n }={ cls:=.type "list",data:=.seq its'.toArray n' }) (r:yo0 ys its') (hz:ys.length<=sizeLine) (t:Nat) :
  Inv X pins σ (upd H p (.lst ys)) { s with heap:=s.heap.update p f,toks:=t }:=by
 have e:(s.heap.update p f).get? p=some { cls:=.type "list",data:=.seq its'.toArray n' }:=by
  rw[Heap.get?_update_self f ho (by rw[hf]<;>rfl),hf]
 refine I.write (x:=p) (e:=p) (by rw[h];trivial) (.inl rfl) (fun b u hb q=>(Heap.get?_update_other _ _ (Ne.symm hb)).trans q) ⟨_,e⟩ ?_;exact⟨hz,its',n',r,e⟩
def ymf:V->V->V->Hp->(Hp->Prop)->Prop:=fun o i v H Q=>∃ p xs k j,o=.ref p/\i=.int k/\H p=some (.lst xs)/\ixN xs.length k=some j/\Q (upd H p (.lst (xs.set j v)))
theorem zqs:yok X ymf:=by
 intro pins s σ H o i v ov iv u Q I ro ri rv h;obtain⟨p,xs,k,j,rfl,rfl,hp,hj,q⟩:=h;cases ro;obtain⟨t,rfl⟩:=ri;obtain⟨its,n,r,ho,hz⟩:=I.lst hp;obtain⟨h1,h2,h3,h4⟩:=zu3 hj;have hl:=r.length;have hn:=yea;have I':Inv X pins σ (upd H p (.lst (xs.set j v))) { s with heap:=s.heap.update p (Obj.mapSeq (·.setIfInBounds j u)) }:=
  I.lstUpd hp ho (zge its n j u) (r.set rv j) (by rw[List.length_set];exact hz) s.toks
 by_cases h0:0<=k
 ·have hk:k.toNat=j:=by
   rw[seqIndex_of h0 h4]at h1;exact Option.some.inj h1
  exact W.ki_setAt ho h0 (by omega) (by rw[List.size_toArray,<-hl];exact h4) (by rw[hk];exact⟨_,I',q⟩)
 ·have hk:(k+(its.toArray.size:Int)).toNat=j:=by
   rw[seqIndex_neg (by omega) h3]at h1;rw[List.size_toArray,<-hl];exact Option.some.inj h1
  exact W.ki_setBack ho (by omega) (by rw[List.size_toArray,<-hl];exact h3) (by omega) (by rw[hk];exact⟨_,I',q⟩)
theorem zd2(lo hi:Option Int)(n:Nat):(sliceBounds lo hi none n).1=((HT.sIx n 0 lo:Nat):Int)/\(sliceBounds lo hi none n).2.1=((HT.sIx n n hi:Nat):Int)/\(sliceBounds lo hi none n).2.2=1:=by
 refine⟨?_,?_,rfl⟩
 ·cases lo with
  |none=>simp[sliceBounds,HT.sIx]
  |some i=>
   simp only[sliceBounds,HT.sIx,Option.getD_none,show (1:Int) > 0 by decide,if_true];by_cases h:i<0
   ·simp only[h,if_true]<;>omega
   ·simp only[h,if_false]<;>omega
 ·cases hi with
  |none=>simp[sliceBounds,HT.sIx]
  |some i=>
   simp only[sliceBounds,HT.sIx,Option.getD_none,show (1:Int) > 0 by decide,if_true];by_cases h:i<0
   ·simp only[h,if_true]<;>omega
   ·simp only[h,if_false]<;>omega
theorem zc6(its:List Value)(lo hi:Option Int):slicePick its.toArray lo hi none=((its.drop (HT.sIx its.length 0 lo)).take (HT.sIx its.length its.length hi - HT.sIx its.length 0 lo)).toArray:=by
 obtain⟨h1,h2,h3⟩:=zd2 lo hi its.toArray.size;unfold slicePick;rw[h1,h2,h3];simp only[sliceRange_one,pick_run,List.size_toArray]<;>rfl
def yry(K:W.Frag):V->Option Int->Option Int->Hp->VK->Prop:=fun x lo hi H Q=>∃ a xs,x=.ref a/\SqL K H a xs/\∀ p,H p=none->Q (.ref p) (upd H p (.lst (ypp xs lo hi)))
theorem zy0:SlR X (yry X.K):=by
 intro pins s σ H x v vl vu lo hi sl Q I rx hs pl pu h;obtain⟨a,xs,rfl,hx,q⟩:=h;cases rx;obtain⟨its,r,ht,hz⟩:=I.list hx;have hlen:=r.length;refine⟨"list",_,slot_list_getitem.lookup,ht.isList.typeIs,?_⟩;refine wpAny_getItem_list_slice ht.isList hs pl pu .none (by simp) ?_ (by rw[List.size_toArray]<;>omega);rw[zc6,<-hlen];refine⟨.ref s.heap.objs.size,_,I.laid (t':=s.toks) (o:=.lst (ypp xs lo hi)) (fun b ob q=>Heap.get?_push_of_some _ q) (Nat.le_refl _) ?_,rfl,q _ (I.hok.fresh (Nat.le_refl _))⟩;exact⟨Nat.le_trans (zee xs lo hi) hz,_,0,(r.drop (HT.sIx xs.length 0 lo)).take (HT.sIx xs.length xs.length hi - HT.sIx xs.length 0 lo),Heap.get?_push_size _ rfl⟩
def yjj:V->Bool
 | .non=>true
 | .bl _=>true
 | .int _=>true
 | .str _=>true
 |_=>false
def eqV:V->V->Bool
 | .non,.non=>true
 | .bl a,.bl b=>a == b
 | .bl a,.int b=>(if a then 1 else 0) == b
 | .int a,.bl b=>a == (if b then 1 else 0)
 | .int a,.int b=>a == b
 | .str a,.str b=>a == b
 |_,_=>false
theorem ybq{A:Around}{s:Shared}{y x:V}{u v:Value}(ry:yoq y u)(rx:yoq x v)(fy:yjj y=true)(fx:yjj x=true):SeqAt.EqAt A s u v (eqV y x):=by
 cases y with
 |non=>
  cases ry;cases x with
  |non=>cases rx;exact SeqAt.EqAt.same _
  |bl b=>cases rx;exact SeqAt.EqAt.none_bool b
  |int b=>obtain⟨t,rfl⟩:=rx;exact SeqAt.EqAt.none_int b t
  |str b=>obtain⟨t,rfl⟩:=rx;exact SeqAt.EqAt.none_str b t
  |_=>exact absurd (show false=true from fx) Bool.false_ne_true
 |bl a=>
  cases ry;cases x with
  |non=>cases rx;exact SeqAt.EqAt.bool_none a
  |bl b=>cases rx;exact SeqAt.EqAt.bool_bool a b
  |int b=>obtain⟨t,rfl⟩:=rx;exact SeqAt.EqAt.bool_int a b t
  |str b=>obtain⟨t,rfl⟩:=rx;exact SeqAt.EqAt.bool_str a b t
  |_=>exact absurd (show false=true from fx) Bool.false_ne_true
 |int a=>
  obtain⟨t',rfl⟩:=ry;cases x with
  |non=>cases rx;exact SeqAt.EqAt.int_none a t'
  |bl b=>cases rx;exact SeqAt.EqAt.int_bool a t' b
  |int b=>obtain⟨t,rfl⟩:=rx;exact SeqAt.EqAt.int_int a t' b t
  |str b=>obtain⟨t,rfl⟩:=rx;exact SeqAt.EqAt.int_str a t' b t
  |_=>exact absurd (show false=true from fx) Bool.false_ne_true
 |str a=>
  obtain⟨t',rfl⟩:=ry;cases x with
  |non=>cases rx;exact SeqAt.EqAt.str_none a t'
  |bl b=>cases rx;exact SeqAt.EqAt.str_bool a t' b
  |int b=>obtain⟨t,rfl⟩:=rx;exact SeqAt.EqAt.str_int a t' b t
  |str b=>obtain⟨t,rfl⟩:=rx;exact SeqAt.EqAt.str_str a t' b t
  |_=>exact absurd (show false=true from fx) Bool.false_ne_true
 |_=>exact absurd (show false=true from fy) Bool.false_ne_true
def eqU(x:V)(u:Value):Bool:=match u with
 | .none=>eqV .non x
 | .bool b=>eqV (.bl b) x
 | .int i _=>eqV (.int i) x
 | .str z _=>eqV (.str z) x
 |_=>false
theorem ybt{x y:V}{u:Value}(r:yoq y u)(f:yjj y=true):eqU x u=eqV y x:=by
 cases y with
 |non=>cases r;rfl
 |bl b=>cases r;rfl
 |int i=>obtain⟨t,rfl⟩:=r;rfl
 |str z=>obtain⟨t,rfl⟩:=r;rfl
 |_=>exact absurd (show false=true from f) Bool.false_ne_true
theorem zru{x:V}:∀ {xs:List V} {us:List Value},yo0 xs us->xs.all yjj=true->us.any (eqU x)=xs.any fun y=>eqV y x
 |_,_,.nil,_=>rfl
 |y::xs,u::us,.cons r t,f=>by
  rw[List.all_cons,Bool.and_eq_true]at f;rw[List.any_cons,List.any_cons,ybt r f.1,zru t f.2]
theorem zom{A:Around}{s:Shared}{x:V}{v:Value}(rx:yoq x v)(fx:yjj x=true):∀ {xs:List V} {us:List Value},yo0 xs us->xs.all yjj=true->∀ u∈us,SeqAt.EqAt A s u v (eqU x u)
 |_,_,.nil,_=>fun u hu=>by cases hu
 |y::xs,u::us,.cons r t,f=>fun u' hu=>by
  rw[List.all_cons,Bool.and_eq_true]at f;rcases List.mem_cons.mp hu with rfl|hu
  ·rw[ybt r f.1];exact ybq r rx f.1 fx
  ·exact zom rx fx t f.2 u' hu
def inV(x:V)(xs:List V):Bool:=xs.any fun y=>eqV y x
def rIn(K:W.Frag)(neg:Bool):R2:=fun x y H Q=>∃ p xs,y=.ref p/\(SqL K H p xs\/SqT K H p xs)/\yjj x=true/\xs.all yjj=true/\Q (.bl (if neg then !inV x xs else inV x xs)) H
theorem zjx:OpR X (compareOp .In) (rIn X.K false):=by
 intro pins s σ H x y v u Q I rx ry h;obtain⟨p,xs,rfl,hq,fx,fs,q⟩:=h;cases ry;rcases hq with hq|hq
 ·obtain⟨its,r,pl,hz⟩:=I.list hq;refine SeqAt.in_listAt (eqU x) pl.isList (fun w hw=>zom rx fx r fs w (by simpa using hw)) ⟨.bl _,H,I,rfl,?_⟩;rw[show its.toArray.any (eqU x)=its.any (eqU x) by simp,zru r fs];exact q
 ·obtain⟨its,r,pl,hz⟩:=I.tuple hq;refine SeqAt.in_tupleAt (eqU x) pl (fun w hw=>zom rx fx r fs w (by simpa using hw)) ⟨.bl _,H,I,rfl,?_⟩;rw[show its.toArray.any (eqU x)=its.any (eqU x) by simp,zru r fs];exact q
theorem zdr:OpR X (compareOp .NotIn) (rIn X.K true):=by
 intro pins s σ H x y v u Q I rx ry h;obtain⟨p,xs,rfl,hq,fx,fs,q⟩:=h;cases ry;rcases hq with hq|hq
 ·obtain⟨its,r,pl,hz⟩:=I.list hq;refine SeqAt.notIn_listAt (eqU x) pl.isList (fun w hw=>zom rx fx r fs w (by simpa using hw)) ⟨.bl _,H,I,rfl,?_⟩;rw[show its.toArray.any (eqU x)=its.any (eqU x) by simp,zru r fs];exact q
 ·obtain⟨its,r,pl,hz⟩:=I.tuple hq;refine SeqAt.notIn_tupleAt (eqU x) pl (fun w hw=>zom rx fx r fs w (by simpa using hw)) ⟨.bl _,H,I,rfl,?_⟩;rw[show its.toArray.any (eqU x)=its.any (eqU x) by simp,zru r fs];exact q
theorem zdc:yh0 X (.builtin "len") (fun xs H Q=>∃ p ys,xs=[.ref p]/\(SqL X.K H p ys\/SqT X.K H p ys)/\Q (.int ys.length) H):=by
 intro pins s σ H xs us Q I r h;obtain⟨p,ys,rfl,hq,q⟩:=h;obtain⟨u,rfl,rx⟩:=yny r;cases rx;have hn:=yea;rcases hq with hq|hq
 ·obtain⟨its,r',pl,hz⟩:=I.list hq;have hlen:=r'.length;exact Calls.call_len_list pl.isList (by simp only[List.size_toArray]<;>omega) ⟨.int ys.length,H,I.tok _,⟨s.toks+1,by rw[List.size_toArray,hlen]⟩,q⟩
 ·obtain⟨its,r',pl,hz⟩:=I.tuple hq;have hlen:=r'.length;exact len_tuple pl (by simp only[List.size_toArray]<;>omega) ⟨.int ys.length,H,I.tok _,⟨s.toks+1,by rw[List.size_toArray,hlen]⟩,q⟩
theorem yh0.or{f:Value}{r r':List V->Hp->VK->Prop}(h:yh0 X f r)(h':yh0 X f r'):yh0 X f (fun xs H Q=>r xs H Q\/r' xs H Q):=by
 intro pins s σ H xs us Q I rs q;rcases q with q|q
 ·exact h pins s σ H xs us Q I rs q
 ·exact h' pins s σ H xs us Q I rs q
theorem zdd:yh0 X (.type "list") (fun xs H Q=>∃ p ys,xs=[.ref p]/\(SqL X.K H p ys\/SqT X.K H p ys)/\∀ l,H l=none->Q (.ref l) (upd H l (.lst ys))):=by
 intro pins s σ H xs us Q I r h;obtain⟨p,ys,rfl,hq,q⟩:=h;obtain⟨u,rfl,rx⟩:=yny r;cases rx;have fin:∀ (its:List Value),yo0 ys its->ys.length<=sizeLine->∀ (h':Heap) (c':Nat),(∀ b o',s.heap.get? b=some o'->h'.get? b=some o')->
   h'.get? s.heap.objs.size=some { cls:=.type "list",dict:=none,data:=.seq its.toArray c',slots:=#[] }->EP X pins σ Q (.ref s.heap.objs.size) { s with heap:=h' }:=fun its r' hz h' c' kp e=>
  ⟨.ref s.heap.objs.size,_,I.laid (t':=s.toks) kp (Nat.le_refl _) (show yh5 X.prog X.w _ h' _ (.lst ys)from⟨hz,its,c',r',e⟩),rfl,q _ (I.hok.fresh (Nat.le_refl _))⟩
 rcases hq with hq|hq
 ·obtain⟨its,r',pl,hz⟩:=I.list hq;have hlen:=r'.length;obtain⟨o,ho,hc,n,hd⟩:=pl.isList;exact call_list_seq p (.inl rfl) ho hc hd (fun h' c' kp e=>fin its r' hz h' c' kp e) (by simp only[List.size_toArray]<;>omega)
 ·obtain⟨its,r',pl,hz⟩:=I.tuple hq;have hlen:=r'.length;obtain⟨o,ho,hc,n,hd⟩:=pl;exact call_list_seq p (.inr rfl) ho hc hd (fun h' c' kp e=>fin its r' hz h' c' kp e) (by simp only[List.size_toArray]<;>omega)
theorem zcp:yh0 X (.type "tuple") (fun xs H Q=>∃ p ys,xs=[.ref p]/\((SqL X.K H p ys/\∀ l,H l=none->Q (.ref l) (upd H l (.tup ys)))\/(SqT X.K H p ys/\Q (.ref p) H))):=by
 intro pins s σ H xs us Q I r h;obtain⟨p,ys,rfl,h⟩:=h;obtain⟨u,rfl,rx⟩:=yny r;cases rx;rcases h with⟨hq,q⟩|⟨hq,q⟩
 ·obtain⟨its,r',pl,hz⟩:=I.list hq;have hlen:=r'.length;refine call_tuple_list pl.isList (fun h' kp=>?_) (by simp only[List.size_toArray]<;>omega);have I1:Inv X pins σ H { s with heap:=h' }:=I.kept (t':=s.toks) kp;have I2:Inv X pins σ (upd H h'.objs.size (.tup ys)) { s with heap:=h'.push { cls:=.type "tuple",data:=.seq its.toArray } }:=
   I1.laid (t':=s.toks) (fun b o e=>Heap.get?_push_of_some _ e) (Nat.le_refl _) (show yh5 X.prog X.w _ _ _ (.tup ys)from⟨hz,its,r',IsTup.new _ _⟩)
  exact⟨.ref h'.objs.size,_,I2,rfl,q _ (I1.hok.fresh (Nat.le_refl _))⟩
 ·obtain⟨its,r',pl,hz⟩:=I.tuple hq;exact call_tuple_same pl ⟨.ref p,H,I,rfl,q⟩
def tyV(K:W.Frag)(T:String)(x:V)(H:Hp):Prop:=match x with
 | .str _=>T = "str"
 | .int _=>T = "int"
 | .ref p=>(T = "list"/\∃ xs,SqL K H p xs)\/(T = "tuple"/\∃ o,K.lookup p=some o/\o.cls=.type "tuple"/\o.dict=none)\/
   (T = "dict"/\((∃ kvs,H p=some (.dK kvs))\/∃ kvs,H p=some (.dT kvs)))\/(T = "set"/\∃ S n,H p=some (.set S n))
 |_=>False
theorem yhh{pins:List (Addr × Obj)}{σ:St}{H:Hp}{s:Shared}{T:String}{x:V}{v:Value}(I:Inv X pins σ H s)(r:yoq x v)(ty:tyV X.K T x H) :
  s.TypeIs v T/\∀ a,v=.ref a->∃ ob,s.heap.get? a=some ob/\ob.dict=none:=by
 cases x with
 |str z=>
  obtain⟨t,rfl⟩:=r;cases (show T = "str" from ty);exact⟨typeIs_str s z t,fun _ e=>nomatch e⟩
 |int i=>
  obtain⟨t,rfl⟩:=r;cases (show T = "int" from ty);exact⟨typeIs_int s i t,fun _ e=>nomatch e⟩
 |ref p=>
  cases r;rcases ty with⟨rfl,xs,hq⟩|⟨rfl,o,hk,hc,hd⟩|⟨rfl,hk⟩|⟨rfl,S,n,hk⟩
  ·obtain⟨its,_,pl,_⟩:=I.list hq;refine⟨pl.isList.typeIs,fun a e=>?_⟩;cases e;obtain⟨o,n,e,c,hd,_⟩:=pl;exact⟨o,e,hd⟩
  ·refine⟨⟨o,I.kIn p o hk,hc⟩,fun a e=>?_⟩;cases e;exact⟨o,I.kIn _ o hk,hd⟩
  ·have z:∃ o,s.heap.get? p=some o/\o.ExactDict:=by
    rcases hk with⟨kvs,hk⟩|⟨kvs,hk⟩
    ·obtain⟨_,_,_,_,o,_,_,e,ex,_⟩:=I.hok p _ hk;exact⟨o,e,ex⟩
    ·obtain⟨_,_,_,_,o,_,_,e,ex,_⟩:=I.hok p _ hk;exact⟨o,e,ex⟩
   obtain⟨o,e,ex⟩:=z;refine⟨⟨o,e,ex.1⟩,fun a e2=>?_⟩;cases e2;exact⟨o,e,ex.2.1⟩
  ·obtain⟨o,_,_,_,e,ex,_⟩:=I.hok p _ hk;refine⟨⟨o,e,ex.1⟩,fun a e2=>?_⟩;cases e2;exact⟨o,e,ex.2.1⟩
 |_=>exact False.elim ty
def yst(K:W.Frag)(T:String)(r:V->List V->Hp->VK->Prop)(to:TE):TE:=fun σ H Q=>to σ H fun x H1=>tyV K T x H1/\r x [] H1 Q
def tBM(K:W.Frag)(T:String)(r:V->List V->Hp->VK->Prop)(to:TE)(t:TA):TE:=fun σ H Q=>to σ H fun x H1=>tyV K T x H1/\t σ H1 fun xs H2=>r x xs H2 Q
variable{o e:Expr}{es:List Expr}{to:TE}{t:TA}{name:Str}{apos cpos:Pos}{T id:String}{r:V->List V->Hp->VK->Prop}
theorem yfk(pa:PlainAttrs T)(slot:Slot T name id)(hty:typeOf (.builtin id)=pure (.type "method_descriptor"))(hm:MtR X id r)(ho:PE X o to)
  (hbase:attributeBase o name X.env (eval o X.env)=eval o X.env:=by rfl) (hline:(apos.endLine == cpos.line)=true:=by rfl):PE X (.Call (.Attribute o name apos) [] [] cpos) (yst X.K T r to):=by
 intro pins s σ H Q I h;refine wpAny_Call_method0_late hbase hline (thn (ho pins s σ H _ I h) fun v s1 ⟨x,H1,I1,r1,ty,q1⟩=>?_);obtain⟨h1,h2⟩:=yhh I1 r1 ty;exact⟨T,id,pa,slot,hty,h1,h2,Calls.callWith_builtin rfl (PySem.evalArgs_none (hm pins s1 σ H1 x [] v [] Q I1 r1 .nil q1))⟩
theorem yl2(pa:PlainAttrs T)(slot:Slot T name id)(hty:typeOf (.builtin id)=pure (.type "method_descriptor"))(hm:MtR X id r)(ho:PE X o to)(ha:PA X (e::es) t)
  (hbase:attributeBase o name X.env (eval o X.env)=eval o X.env:=by rfl)
  (hfew:((backTo cpos (starEach (e::es) X.env)).all (fun x=>!x.1) && (backToKw cpos (keywordEach [] X.env)).all (fun x=>x.1.isSome)
   && decide ((e::es).length+([]:List Keyword).length+(if ([]:List Keyword).isEmpty then 0 else 1)<30))=true:=by rfl)
  (hline:(apos.endLine == cpos.line)=true:=by rfl) (hs:starEach (e::es) X.env=(false,eval e X.env)::starEach es X.env:=by rfl) (hplain:(backTo cpos (starEach es X.env)).any (·.1)=false:=by rfl) :
  PE X (.Call (.Attribute o name apos) (e::es) [] cpos) (tBM X.K T r to t):=by
 intro pins s σ H Q I h;refine wpAny_Call_method_late hbase hfew hline rfl (thn (ho pins s σ H _ I h) fun v s1 ⟨x,H1,I1,r1,ty,q1⟩=>?_);obtain⟨h1,h2⟩:=yhh I1 r1 ty;refine⟨T,id,pa,slot,hty,h1,h2,?_⟩;have hA:=ha cpos pins s1 σ H1 _ I1 q1;rw[hs]at hA ⊢;refine Calls.callWith_builtin (by show (false || (backTo cpos (starEach es X.env)).any (·.1))=false;rw[hplain]<;>rfl) (Calls.evalArgs_plain ?_);exact thn hA fun us s2 ⟨vs,H2,I2,r2,q2⟩=>hm pins s2 σ H2 x vs v us Q I2 r1 r2 q2
end
def MtM(X:Cx)(id:String)(r:V->List V->Hp->VK->Prop):Prop:=
 ∀ (pins:List (Addr × Obj)) (s:Shared) (σ:St) (H:Hp) (x:V) (xs:List V) (v:Value) (us:List Value) (Q:VK),Inv X pins σ H s->yoq x v->yo0 xs us->r x xs H Q->
  wpAny (model X.prog X.w) X.A (call (.builtin id) (v::us)) (EP X pins σ Q) X.xe s
theorem yo0.one:∀ {x:V} {us:List Value},yo0 [x] us->∃ u,us=[u]/\yoq x u
 |_,_,.cons r .nil=>⟨_,rfl,r⟩
theorem yo0.two:∀ {x y:V} {us:List Value},yo0 [x,y] us->∃ u v,us=[u,v]/\yoq x u/\yoq y v
 |_,_,_,.cons r (.cons q .nil)=>⟨_,_,rfl,r,q⟩
theorem yo0.zero:∀ {us:List Value},yo0 [] us->us=[]
 |_,.nil=>rfl
theorem yo0.dropLast{xs:List V}{us:List Value}(h:yo0 xs us):yo0 xs.dropLast us.dropLast:=by
 induction h with
 |nil=>exact .nil
 |cons r t ih=>
  cases t with
  |nil=>exact .nil
  |cons q t'=>exact .cons r ih
theorem yo0.eraseIdx:∀ {xs:List V} {us:List Value} (i:Nat),yo0 xs us->yo0 (xs.eraseIdx i) (us.eraseIdx i)
 |_,_,_,.nil=>.nil
 |_,_,0,.cons _ t=>t
 |_,_,i+1,.cons r t=>.cons r (yo0.eraseIdx i t)
theorem yo0.reverse{xs:List V}{us:List Value}(h:yo0 xs us):yo0 xs.reverse us.reverse:=by
 induction h with
 |nil=>exact .nil
 |cons r t ih=>rw[List.reverse_cons,List.reverse_cons];exact yo0.append ih (.cons r .nil)
theorem zfs{α:Type}(l:List α):l.eraseIdx (l.length - 1)=l.dropLast:=by
 induction l with
 |nil=>rfl
 |cons a r ih=>
  cases r with
  |nil=>rfl
  |cons b r=>
   have e:(a::b::r).length - 1=((b::r).length - 1)+1:=by
    have h1:(a::b::r).length=r.length+2:=rfl;have h2:(b::r).length=r.length+1:=rfl;omega
   rw[e,List.eraseIdx_cons_succ,ih];all_goals rfl
section
variable{X:Cx}{pins:List (Addr × Obj)}{σ:St}{H:Hp}{s:Shared}{l b:Addr}{xs ys zs:List V}
theorem Inv.lset{its its':List Value}{n:Nat}{f:Array Value->Array Value}{t':Nat}(I:Inv X pins σ H s)(hH:H l=some (.lst xs))
  (e:s.heap.get? l=some { cls:=.type "list",data:=.seq its.toArray n }) (hf:f its.toArray=its'.toArray) (hv:yo0 ys its') (hz:ys.length<=sizeLine) :
  Inv X pins σ (upd H l (.lst ys)) { s with heap:=s.heap.update l (Obj.mapSeq f),toks:=t' }:=by
 have q:=PySem.IsL.update e f;rw[hf]at q;refine I.write (x:=l) (e:=l) (by rw[hH];exact trivial) (.inl rfl) (fun b' u hb hu=>(Heap.get?_update_other s.heap (Obj.mapSeq f) (Ne.symm hb)).trans hu) ⟨_,q⟩ ?_;exact⟨hz,its',_,hv,q⟩
theorem Inv.lnew{its:List Value}{t':Nat}(I:Inv X pins σ H s)(hv:yo0 ys its)(hz:ys.length<=sizeLine) :
  Inv X pins σ (upd H s.heap.objs.size (.lst ys)) { s with heap:=s.heap.push { cls:=.type "list",data:=.seq its.toArray },toks:=t' }:=
 I.laid (fun _ _ q=>Heap.get?_push_of_some _ q) (Nat.le_refl _) ⟨hz,its,0,hv,Heap.get?_push_size _ rfl⟩
theorem Inv.fresh(I:Inv X pins σ H s):H s.heap.objs.size=none:=I.hok.fresh (Nat.le_refl _)
theorem Inv.lstM(I:Inv X pins σ H s)(hH:H l=some (.lst xs)):xs.length<=sizeLine/\∃ (its:List Value) (n:Nat),yo0 xs its/\xs.length=its.length/\s.heap.get? l=some { cls:=.type "list",data:=.seq its.toArray n }:=by
 obtain⟨z,its,n,r,e⟩:=I.hok l _ hH;exact⟨z,its,n,r,r.length,e⟩
theorem zoz{n:Nat}(h:n<=sizeLine):Builtin.List.listTooLong n=false:=by
 unfold Builtin.List.listTooLong;exact decide_eq_false (by omega)
end
section
variable{X:Cx}
def zxu:V->List V->Hp->VK->Prop:=fun x vs H Q=>∃ l xs y,x=.ref l/\vs=[y]/\H l=some (.lst xs)/\xs.length<sizeLine/\Q .non (upd H l (.lst (xs++[y])))
theorem zjs:MtM X "list.append" zxu:=by
 intro pins s σ H x vs v us Q I rx rv h;obtain⟨l,xs,y,rfl,rfl,hH,hz,q⟩:=h;cases rx;obtain⟨u,rfl,ru⟩:=rv.one;obtain⟨z,its,n,r,hl,e⟩:=I.lstM hH;refine call_meets F.slot_list_append ⟨_,e,rfl⟩ F.entry_list_append (F.args_list_append_2 _ _) (PySem.list_append l its.toArray n u (by rw[List.size_toArray];omega)) ⟨e,?_⟩;refine⟨.non,_,I.lset (its':=its++[u]) hH e (by simp) (r.append (.cons ru .nil)) ?_,rfl,q⟩;rw[List.length_append,List.length_singleton];omega
def zxw:V->List V->Hp->VK->Prop:=fun x vs H Q=>∃ l b xs zs,x=.ref l/\vs=[.ref b]/\H l=some (.lst xs)/\H b=some (.lst zs)/\xs.length+zs.length<=sizeLine/\Q .non (upd H l (.lst (xs++zs)))
theorem zjt:MtM X "list.extend" zxw:=by
 intro pins s σ H x vs v us Q I rx rv h;obtain⟨l,b,xs,zs,rfl,rfl,hH,hB,hz,q⟩:=h;cases rx;obtain⟨u,rfl,ru⟩:=rv.one;cases ru;obtain⟨z,its,n,r,hl,e⟩:=I.lstM hH;obtain⟨z2,its2,n2,r2,hl2,e2⟩:=I.lstM hB;have hsz:its.toArray.size+its2.toArray.size<=sizeLine:=by rw[List.size_toArray,List.size_toArray];omega
 have hlong:¬ (!its.toArray.isEmpty && Builtin.List.listTooLong (its.toArray.size+its2.toArray.size))=true:=by
  rw[zoz hsz,Bool.and_false];exact Bool.false_ne_true
 refine call_meets F.slot_list_extend ⟨_,e,rfl⟩ F.entry_list_extend (F.args_list_extend_2 _ _)
  (AutoSeq1.list_extend_list_list_0 l its.toArray n b its2.toArray n2 hlong (by rw[List.size_toArray];omega) (by omega)) ⟨e,e2,?_⟩
 refine⟨.non,_,I.lset (its':=its++its2) hH e (by simp) (r.append r2) ?_,rfl,q⟩;rw[List.length_append];omega
def yrv:V->List V->Hp->VK->Prop:=fun x vs H Q=>∃ l xs y,x=.ref l/\vs=[]/\H l=some (.lst xs)/\xs[xs.length - 1]?=some y/\Q y (upd H l (.lst xs.dropLast))
theorem yel:MtM X "list.pop" yrv:=by
 intro pins s σ H x vs v us Q I rx rv h;obtain⟨l,xs,y,rfl,rfl,hH,hy,q⟩:=h;cases rx;have hus:=rv.zero;subst hus;obtain⟨z,its,n,r,hl,e⟩:=I.lstM hH;obtain⟨u,hu,ru⟩:=r.get hy;have hy':its.toArray[its.toArray.size - 1]?=some u:=by
  show its.toArray[its.length - 1]?=some u;rw[<-Array.getElem?_toList,<-hl];exact hu
 refine call_meets F.slot_list_pop ⟨_,e,rfl⟩ F.entry_list_pop (F.args_list_pop_1 _) (MeetsSeq.list_pop_last l its.toArray n u hy' (by rw[List.size_toArray];omega)) ⟨e,?_⟩;refine⟨y,_,I.lset (its':=its.dropLast) hH e ?_ r.dropLast ?_,ru,q⟩
 ·show its.toArray.eraseIdxIfInBounds (its.toArray.size - 1)=its.dropLast.toArray;rw[List.size_toArray,List.eraseIdxIfInBounds_toArray,zfs]
 ·rw[List.length_dropLast];omega
def rClear:V->List V->Hp->VK->Prop:=fun x vs H Q=>∃ l xs,x=.ref l/\vs=[]/\H l=some (.lst xs)/\Q .non (upd H l (.lst []))
theorem mt_clear:MtM X "list.clear" rClear:=by
 intro pins s σ H x vs v us Q I rx rv h;obtain⟨l,xs,rfl,rfl,hH,q⟩:=h;cases rx;have hus:=rv.zero;subst hus;obtain⟨z,its,n,r,hl,e⟩:=I.lstM hH;refine call_meets F.slot_list_clear ⟨_,e,rfl⟩ F.entry_list_clear (F.args_list_clear_1 _) (AutoSeq1.list_clear_list_0 l its.toArray n (by rw[List.size_toArray];omega)) ⟨e,?_⟩;exact⟨.non,_,I.lset (its':=[]) (ys:=[]) hH e rfl .nil (Nat.zero_le _),rfl,q⟩
def yrq:R2:=fun x y H Q=>∃ l b xs zs,x=.ref l/\y=.ref b/\H l=some (.lst xs)/\H b=some (.lst zs)/\xs.length+zs.length<=sizeLine/\∀ p,H p=none->Q (.ref p) (upd H p (.lst (xs++zs)))
theorem ye9:OpR X (binaryOp .Add) yrq:=by
 intro pins s σ H x y v u Q I rx ry h;obtain⟨l,b,xs,zs,rfl,rfl,hH,hB,hz,q⟩:=h;cases rx;cases ry;obtain⟨z,its,n,r,hl,e⟩:=I.lstM hH;obtain⟨z2,its2,n2,r2,hl2,e2⟩:=I.lstM hB;refine PySem.P.add_list e e2 ?_ (by rw[List.size_toArray,List.size_toArray];omega);have ea:its.toArray++its2.toArray=(its++its2).toArray:=by simp
 rw[ea];exact⟨.ref _,_,I.lnew (t':=s.toks) (r.append r2) (by rw[List.length_append];omega),rfl,q _ I.fresh⟩
end
section
variable{prog:Program}{w:World}{A:Around}{E:Value->Shared->Prop}{s:Shared}
set_option maxRecDepth 100000 in
end
section
variable{X:Cx}
end
end L2
namespace Att
open PySem PySem.W PySem.Calls PyProof.Rows
theorem zbk{P:Params}{h:Heap}:∀ (ns:List Int) (vs:List Value),WellAll P h vs (ns.map WData.int)->IntsAre vs ns:=by
 intro ns;induction ns with
 |nil=>
  intro vs w;rw[List.map_nil]at w;cases w;exact .nil
 |cons n ns ih=>
  intro vs w;rw[List.map_cons]at w;cases w with
  |cons a b=>
   cases a;exact .cons _ _ (ih _ b)
theorem zkh{l:OpenLaw}{n:Nat}(hn:l.most=some n){P:Params}{h:Heap}{args:List WData}{vals:List Value}
  (hpre:l.row.toRowW.claim.pre args=true) (hwl:WellAll P h vals args) :
  ∃ a vs ns,vals=[Value.ref a]/\args=[WData.list (ns.map WData.int)]/\h.get? a=some { cls:=.type "list",data:=.seq vs.toArray }/\IntsAre vs ns/\ns.length<=n:=by
 have hsh:WShape.hasAll [] args [.list .int]=true:=(pre_splitW hpre).1;have hc:l.pre.holds [] { args:=args }=true:=(pre_splitW hpre).2;obtain⟨d,r,rfl,h1,h2⟩:=hasAllW_cons hsh;obtain rfl:=hasAllW_nil h2;obtain⟨xs,rfl,h3⟩:=hasW_list h1;obtain⟨ns,rfl⟩:=items_int h3;have hlen:ns.length<=n:=by
  unfold OpenLaw.pre at hc;have h4:(WTm.not (.lt (.lit (.int (n:Int))) (.len (.arg 0)))).holds [] { args:=[.list (ns.map .int)] }=true:=by
   have h4:=(holds_andW hc).1;rw[hn]at h4;exact h4
  have h5:=condW_of h4 (w_not (w_lt w_lit (w_len_list (w_arg rfl))));rw[List.length_map]at h5;refine Nat.le_of_not_lt fun q=>?_;have q':(n:Int)<((ns.length:Nat):Int):=by omega
  first
   |(rw[decide_eq_true q']at h5;exact absurd h5 (by decide))
   |(simp at h5;omega)
 cases hwl with
 |cons w1 w2=>
  cases w2;cases w1 with
  |list ho hall=>exact⟨_,_,ns,rfl,rfl,ho,zbk ns _ hall,hlen⟩
theorem zj2(l:OpenLaw)(args:List WData):l.row.toRowW.claim.post args (.bool true) args=true:=
 postW_of (r:=l.row.toRowW) (X:=(true == true))
  (show WShape.has [] (.bool true) .bool=true by first|rfl|decide|simp[WShape.has,WShape.arms,WShape.armsAll])
  (show (WTm.eq .res (.lit (.bool true))).value [] { args:=args,res:=some (.bool true),after:=args }=some (.bool (true == true))from w_eq_bool (w_res rfl) w_lit) rfl
theorem attach_call{l:OpenLaw}{n:Nat}{q:Program}{loose:List Str}{XP:(Str->Option Value)->Heap->Prop}{YP:World->Heap->Prop}{d:DefRec}
  (hn:l.most=some n) (hdf:d.params.defaults=[])
  (call:∀ (w:World) (s₀ s₁:Shared) (mg mb:Str->Option Value) (fa:Addr) (o:Obj) (pm cd doc:Value) (a:Addr) (vs:List Value) (ns:List Int),
   Ground q loose [] XP w s₀ mg mb s₁.heap->YP w s₁.heap->
   s₁.heap.get? fa=some o->o.data=.func (docDef d.name d.params d.body d.scope pm cd doc)->s₁.heap.CodeRec cd d.name->mg d.name=some (.ref fa)->
   s₁.heap.get? a=some { cls:=.type "list",data:=.seq vs.toArray }->IntsAre vs ns->ns.length<=n->s₁.gens=#[]->
   codeAny (model l.prog w) callerA (.call (.ref fa) ⟨[.ref a],[]⟩) (fun r s'=>r=.ok (.ret (.bool true))/\OldK s₁.heap s'.heap/\s'.os=s₁.os/\AllBare s'.gens) s₁) :
  WalkO q loose XP YP l.row.toRowW d [] (fun f vs=>PySem.call f vs):=by
 intro w s₀ s₁ mg mb G Y fa o pm cd doc dV kV ho hd hcd hD hmg hg args vals as hpre hlay hrd hwl hlo;obtain rfl:dV=.none:=Dflts.none hD hdf;obtain rfl:kV=.none:=Dflts.noKw hD;obtain⟨a,vs,ns,rfl,rfl,hobj,hints,hlen⟩:=zkh hn hpre hwl;refine enter_call (codeAny_mono (call w s₀ s₁ mg mb fa o pm cd doc a vs ns G Y ho (fd_plain hd) hcd hmg hobj hints hlen hg) fun r s' hq=>?_);obtain⟨rfl,h2,h3,h4⟩:=hq;exact⟨.inl ⟨.bool true,.bool true,[],rfl,fun _=>rfl,.bool true,zj2 l _,fun _=>⟨List.Pairwise.nil,fun _ hm=>(nomatch hm)⟩⟩,h2,h3,h4⟩
section
variable{prog:Program}{w:World}{A:Around}{E:Value->Shared->Prop}{s:Shared}{K:Frag}
def yd9(h:Heap)(L d:Addr):List (Addr × Obj):=(List.range h.objs.size).filterMap fun a=>if a=L\/a=d then none else (h.get? a).map fun o=>(a,o)
end
end Att
namespace L2
open PySem PySem.Spec PyProof.Rows
theorem zkz:∀ {vs:List Value} {ns:List Int},IntsAre vs ns->yo0 (ns.map V.int) vs
 |_,_,.nil=>.nil
 |_,_,.cons n t h=>.cons ⟨t,rfl⟩ (zkz h)
def yoj(H:Hp):Prop:=∀ b,H b=none\/∃ o xs,H b=some (.frz o (.lst xs))
theorem zoa{P:Program}{w:World}{K:W.Frag}{mg mb:Str->Option Value}{CX:CXT}{k:Nat}{fa a:Addr}{fd:FuncData}{x:Str}{sp:Sp}{s₁:Shared}{vs:List Value}{ns:List Int}
  (KX:K.In s₁.heap) (hns:s₁.heap.Ns mainGlobals mg) (hb:s₁.heap.Ns builtinsNs mb) (hbb:∀ x:Str,x ≠ "__name__"->mb x=bootBuiltins x) (hlim:s₁.heap.NoLimit) (hg:s₁.gens=#[])
  (ha:s₁.heap.get? a=some { cls:=.type "list",data:=.seq vs.toArray }) (hi:IntsAre vs ns) (hl:ns.length<=sizeLine) (hr:Room k callerA)
  (F:∀ base:Heap,K.In base->base.Ns mainGlobals mg->FnOk P w K mg base CX k fa fd [x] sp) (hbind:∀ (s:Shared) (u:Value),BindsTo s fd ⟨[u],[]⟩ [(x,u)])
  (hsp:∀ H:Hp,yoj H->SqL K H a (ns.map V.int)->sp [.ref a] H (fun v _=>v=.bl true) fun _ _ _=>False)
  (hCX:∀ H e s',CX [] H s₁ (fun _ _ _=>False) e s'->False) :
  codeAny (model P w) callerA (.call (.ref fa) ⟨[.ref a],[]⟩) (fun r s'=>r=.ok (.ret (.bool true))/\OldK s₁.heap s'.heap/\s'.os=s₁.os/\AllBare s'.gens) s₁:=by
 have rv:=zkz hi;have lenV:=hi.length;have core:∀ H:Hp,yoj H->SqL K H a (ns.map V.int)->HOk P w H s₁.heap->(∀ b,H b≠none->b=a)->(H a≠none->K.lookup a=none)->
   codeAny (model P w) callerA (.call (.ref fa) ⟨[.ref a],[]⟩) (fun r s'=>r=.ok (.ret (.bool true))/\OldK s₁.heap s'.heap/\s'.os=s₁.os/\AllBare s'.gens) s₁:=by
  intro H hO hS hok hA hK;have base_of:∀ {b:Addr} {o:Obj},s₁.heap.get? b=some o->H b=none->(yqe s₁.heap H).get? b=some o:=fun e n=>znm e n;have noA:∀ {b:Addr} {o:Obj} {es:Array DictEntry} {ep:Nat},s₁.heap.get? b=some o->o.data=.dict es ep->H b=none:=fun {b o es ep} e d=>by
   cases q:H b with
   |none=>rfl
   |some u=>
    have e':b=a:=hA b (by rw[q];simp);subst e';rw[ha]at e;cases e;have d':Data.seq vs.toArray _=Data.dict es ep:=d;cases d'
  have nsK:∀ {b:Addr} {m:Str->Option Value},s₁.heap.Ns b m->(yqe s₁.heap H).Ns b m:=fun {b m} ⟨o,es,ep,e,d,r⟩=>⟨o,es,ep,base_of e (noA e d),d,r⟩
  have hKb:K.In (yqe s₁.heap H):=fun b o e=>base_of (KX b o e) (by
   cases q:H b with
   |none=>rfl
   |some u=>
    have e':b=a:=hA b (by rw[q];simp);subst e';rw[hK (by rw[q];simp)]at e;cases e)
  have hM:Mod K mg (yqe s₁.heap H):=⟨hKb,nsK hns,⟨mb,nsK hb,hbb⟩,let ⟨mc,h1,h2⟩:=hlim;⟨mc,nsK h1,h2⟩⟩
  have e0:Env0 P w K mg (yqe s₁.heap H) callerA [] s₁ H:=⟨rfl,hM,fun b o e=>zws e,Nat.le_of_eq (zi0 _ _),trivial,fun b hb=>absurd (show b∈([]:List Addr)from hb) (by simp),hok,.of_eq hg⟩
  refine codeAny_mono ((F _ hKb (nsK hns)).run callerA [] s₁ H ⟨[.ref a],[]⟩ [.ref a] [.ref a] _ _ hr e0 (hbind s₁ (.ref a)) (.cons rfl .nil) (hsp H hO hS)) fun r s' h=>?_;cases r with
  |error e=>exact(hCX H e s' h).elim
  |ok fl=>
   cases fl with
   |next=>exact False.elim h
   |brk=>exact False.elim h
   |cont=>exact False.elim h
   |ret u=>
    obtain⟨v,H',os,bare,un,hok',r',q⟩:=h;have q':v=.bl true:=q;subst q';obtain rfl:u=Value.bool true:=r';refine⟨rfl,OldK.of_keep fun b o e=>?_,os,bare⟩;cases q:H b with
    |none=>exact un.keep b o e q (by intro z;exact absurd (show b∈([]:List Addr)from z) (by simp)) (by simp)
    |some u=>
     rcases hO b with z|⟨ob,xs,z⟩
     ·rw[q]at z;cases z
     ·have z2:=un.frzs b ob _ z;obtain⟨e1,_⟩:=hok b _ z;obtain⟨e2,_⟩:=hok' b _ z2;rw[e]at e1;cases e1;exact e2
 cases hk:K.lookup a with
 |some o=>
  have e:=KX a o hk;rw[ha]at e;cases e;refine core (fun _=>none) (fun _=>.inl rfl) (.inr ⟨_,vs.toArray,_,hk,rfl,rfl,rfl,by rw[List.size_toArray,lenV];exact hl,by simpa using rv⟩) (fun b u z=>by have z':(none:Option HO)=some u:=z;cases z') (fun b z=>absurd rfl z) fun z=>absurd rfl z
 |none=>
  refine core (fun b=>if b=a then some (.frz { cls:=.type "list",data:=.seq vs.toArray } (.lst (ns.map V.int)))else none) (fun b=>?_) (.inl (.inr ⟨{ cls:=.type "list",data:=.seq vs.toArray },if_pos rfl⟩)) (fun b u z=>?_) (fun b z=>?_) fun _=>hk
  ·by_cases hb:b=a
   ·exact .inr ⟨_,_,if_pos hb⟩
   ·exact .inl (if_neg hb)
  ·by_cases hb:b=a
   ·have z':=(if_pos hb).symm.trans z;cases z';subst hb;exact⟨ha,by rw[List.length_map];exact hl,vs,_,rv,ha⟩
   ·have z':=(if_neg hb).symm.trans z;cases z'
  ·by_cases hb:b=a
   ·exact hb
   ·exact absurd (if_neg hb) z
abbrev KOf{K:W.Frag}{h:Heap}(_:K.In h):W.Frag:=K
theorem zz7{l:W.OpenLaw}{n k:Nat}{q:Program}{loose:List Str}{XP:(Str->Option Value)->Heap->Prop}{YP:World->Heap->Prop}{d:DefRec}{K:Params->W.Frag}{CX:World->CXT}{sp:World->Sp}{x:Str}
  (hn:l.most=some n) (hn2:n<=sizeLine) (hdf:d.params.defaults=[]) (hr:Room k callerA)
  (hY:∀ (w:World) (h:Heap),YP w h->(K w.params).In h)
  (F:∀ (w:World) (mg:Str->Option Value) (fa:Addr) (h:Heap),(K w.params).In h->h.Ns mainGlobals mg->mg d.name=some (.ref fa)->
   ∃ fd:FuncData,(∀ (s:Shared) (u:Value),BindsTo s fd ⟨[u],[]⟩ [(x,u)])/\
    ∀ base:Heap,(K w.params).In base->base.Ns mainGlobals mg->FnOk l.prog w (K w.params) mg base (CX w) k fa fd [x] (sp w))
  (hsp:∀ (w:World) (H:Hp) (a:Addr) (ns:List Int),ns.length<=n->yoj H->SqL (K w.params) H a (ns.map V.int)->sp w [.ref a] H (fun v _=>v=.bl true) fun _ _ _=>False)
  (hCX:∀ (w:World) (H:Hp) (s:Shared) (e:Value) (s':Shared),CX w [] H s (fun _ _ _=>False) e s'->False) :
  W.WalkO q loose XP YP l.row.toRowW d [] (fun f vs=>PySem.call f vs):=by
 refine Att.attach_call hn hdf fun w s₀ s₁ mg mb fa o pm cd doc a vs ns G Y ho hd hcd hmg hobj hints hlen hg=>?_;have KX:=hY w _ Y;obtain⟨fd,hb,hF⟩:=F w mg fa _ KX G.T.g hmg;exact zoa KX G.T.g G.T.b G.T.builtins G.T.nolimit hg hobj hints (Nat.le_trans hlen hn2) hr hF hb (fun H hO hS=>hsp w H a ns hlen hO hS) fun H e s'=>hCX w H s₁ e s'
def zsq(s:Stmt):Arguments:=match s with
 | .FunctionDef _ a _ _ _ _ _ _ _ _=>a
 |_=>{ posonlyargs:=[],args:=[],vararg:=none,kwonlyargs:=[],kw_defaults:=[],kwarg:=none,defaults:=[] }
def zsr(s:Stmt):List Stmt:=match s with
 | .FunctionDef _ _ b _ _ _ _ _ _ _=>b
 |_=>[]
def zlv(s:Stmt):Scope:=match s with
 | .FunctionDef _ _ _ _ _ _ sc _ _ _=>sc
 |_=>{ kind:=.function,names:=[],isGenerator:=false,isCoroutine:=false }
abbrev CX0:CXT:=fun _ _ _ _ _ _=>False
abbrev E0:XK:=fun _ _ _=>False
structure Fun(K:W.Frag)(x qual:Str)(st:Stmt)(f:Addr)(fd:FuncData):Prop where
 ex:∃ (oc:Value) (od:Option Addr) (kV doc pm:Value) (an:Option Addr) (cdv ct:Value) (osl:Array (Option Value)),
  fd=W.fnOf x qual (zsq st) (zsr st) (zlv st) .none kV doc pm an cdv ct/\K.lookup f=some ⟨oc,od,.func fd,osl⟩/\W.codeIn K cdv qual=true
 kp:W.keepIn K (.ref f)=true
section
variable{P:Program}{w:World}{K:W.Frag}{mg:Str->Option Value}{base:Heap}
theorem Fun.ok{x qual:Str}{st:Stmt}{f:Addr}{fd:FuncData}{N ps:List Str}{k:Nat}{sp:Sp}(F:Fun K x qual st f fd)(S:FnScope N ps (zlv st))(len:∀ vs H Q E,sp vs H Q E->vs.length=ps.length)
  (hbody:∀ (cdv:Value) (A:Around) (outer:List Env) (s:Shared) (H:Hp) (vs:List V) (Q:VK) (E:XK),Room k (A.deeper (envOfC qual (zlv st) s.heap.objs.size f cdv))->sp vs H Q E->
   ∃ t,PSs (ypq CX0 P w K mg base N qual (zlv st) f cdv A outer s H E).nox (zsr st) t/\t { nx:=fun _ H'=>Q .non H',rt:=Q } (ynb N vs) H):FnOk P w K mg base CX0 (k+1) f fd ps sp:=by
 obtain⟨oc,od,kV,doc,pm,an,cdv,ct,osl,rfl,lk,hcd⟩:=F.ex;refine yjo lk hcd S len fun A outer s H vs Q E hr hsp=>?_;obtain⟨t,h,q⟩:=hbody cdv A outer s H vs Q E hr hsp;exact⟨t,h.nox,q⟩
theorem Fun.binds{x qual:Str}{st:Stmt}{f:Addr}{fd:FuncData}{ps:List Str}(F:Fun K x qual st f fd)
  (h:∀ (kV doc pm:Value) (an:Option Addr) (cdv ct:Value) (us:List Value),us.length=ps.length->bindArgs (W.fnOf x qual (zsq st) (zsr st) (zlv st) .none kV doc pm an cdv ct) ⟨us,[]⟩=pure (ps.zip us)):yhz K fd ps []:=by
 obtain⟨oc,od,kV,doc,pm,an,cdv,ct,osl,rfl,lk,hcd⟩:=F.ex;exact .all (h kV doc pm an cdv ct)
theorem yc1{x qual:Str}{st:Stmt}{f:Addr}{oc:Value}{od an:Option Addr}{osl:Array (Option Value)}{kV doc pm cdv ct:Value}(l:K.lookup f=some ⟨oc,od,.func (W.fnOf x qual (zsq st) (zsr st) (zlv st) .none kV doc pm an cdv ct),osl⟩)
  (c:W.codeIn K cdv qual=true) (k:W.keepIn K (.ref f)=true):Fun K x qual st f (W.fnOf x qual (zsq st) (zsr st) (zlv st) .none kV doc pm an cdv ct):=⟨⟨oc,od,kV,doc,pm,an,cdv,ct,osl,rfl,l,c⟩,k⟩
end
theorem zkn{n:Nat}(h:n<=1000):n<sizeLine:=Nat.lt_of_le_of_lt h (by decide)
section
variable{X:Cx}
theorem pv(i:Nat){x:Str}{pos:Pos}(hN:X.N[i]?=some x:=by rfl)(hv:Vis X.env.scope x:=by first|exact Or.inl rfl|exact Or.inr (Or.inl rfl)|exact Or.inr (Or.inr rfl))(hd:(x == ("__debug__" : Str))=false:=by decide)
  (hcd:(x == ("__classdict__" : Str))=false:=by decide):PE X (.Name x pos) (ys4 i):=yft hN hv hd hcd
end
def you(H H':Hp):Prop:=∀ b o,H b=some o->H' b=some o
theorem you.refl(H:Hp):you H H:=fun _ _ h=>h
theorem you.trans{H H1 H2:Hp}(a:you H H1)(b:you H1 H2):you H H2:=fun c o h=>b c o (a c o h)
theorem you.free{H H':Hp}(e:you H H'){l:Addr}(h:H' l=Option.none):H l=Option.none:=by
 cases q:H l with
 |none=>rfl
 |some o=>
  rw[e l o q]at h;cases h
theorem you.seq{K:W.Frag}{H H':Hp}{a:Addr}{xs:List V}(e:you H H')(h:SqL K H a xs):SqL K H' a xs:=by
 rcases h with(h|⟨o,h⟩)|h
 ·exact .inl (.inl (e _ _ h))
 ·exact .inl (.inr ⟨o,e _ _ h⟩)
 ·exact .inr h
end L2
namespace L4
open PySem PySem.Spec PyProof.Rows L2
theorem zus{α:Type}(a:α):∃ b,b=a:=⟨a,rfl⟩
noncomputable def hide{α:Type}(a:α):α:=Classical.choose (zus a)
@[simp] theorem zur{α:Type}(a:α):hide a=a:=Classical.choose_spec (zus a)
inductive D where
 |non|bl (b:Bool)|int (i:Int)|str (x:Str)|tup (xs:List D)|scr (ns:List Int)|ref (n:Nat)
 |lst (xs:List D)|dic (ks:List Key) (xs:List D)|obj (c:Nat) (ns:List Str) (xs:List D)|exn (c:Nat)|gt (ss:List Str)
inductive Ob where
 |lst (xs:List D)
 |dic (kvs:List (Key × D))
 |ins (c:Nat) (fs:List (Str × D))
 |fdic (kvs:List (Key × D))
 |tdic (ks:List (List Key))
abbrev Sto:=List Ob
abbrev St:=L2.St
abbrev Ev:=List (Option D)
structure Xn where
 cls:Nat
inductive Out(α:Type) where
 |ok (a:α) (σ:Sto)
 |ex (x:Xn) (σ:Sto)
 |bad
abbrev M(α:Type):=Sto->Out α
def ret{α:Type}(a:α):M α:=fun σ=>.ok a σ
def bad{α:Type}:M α:=fun _=>.bad
def Out.bind{α β:Type}(o:Out α)(k:α->M β):Out β:=match o with
 | .ok a σ'=>k a σ'
 | .ex x σ'=>.ex x σ'
 | .bad=>.bad
def bnd{α β:Type}(m:M α)(k:α->M β):M β:=fun σ=>(m σ).bind k
inductive Fl where
 |nx (ρ:Ev)|rt (d:D)|bk (ρ:Ev)|ct (ρ:Ev)|xc (ρ:Ev) (x:Xn)
structure Tab where
 P:Addr
 line:Int
 col:Int
 qual:Str
structure Tx where
 tbs:List Tab
 bm:Addr
structure Tb where
 K:W.Frag
 ca:Nat->Addr
 tx:Tx
def zz9(q:Str)(c:Addr):Heap->Prop:=fun h=>∃ o vs t,h.get? c=some o/\o.data=.fields vs/\vs[1]?=some (.str q t)
def yn4(bm:Addr):Heap->Prop:=fun h=>∃ o,h.get? bm=some o/\o.cls=.type "module"/\o.dict=some builtinsNs/\o.data=.plain
def yoy(T:Tb)(μ:List Addr)(H:Hp):Prop:=∀ t∈T.tx.tbs,(T.tx.bm ∉ μ/\∃ ob,H T.tx.bm=some (.frz ob (.ext (yn4 T.tx.bm))))/\t.P ∉ μ/\∃ ps,H t.P=some (.tbl ps)/\(ps=#[]\/∃ c,ps=#[rawInt t.line,rawInt t.col,.ref c]/\c ∉ μ/\H c=some (.ext (zz9 t.qual c)))
theorem yoy.grow{T:Tb}{μ:List Addr}{H H':Hp}(h:yoy T μ H)(k:∀ b u,H b=some u->H' b=some u):yoy T μ H':=fun t ht=>by
 obtain⟨⟨a1,ob,a2⟩,a3,ps,a4,a5⟩:=h t ht;exact⟨⟨a1,ob,k _ _ a2⟩,a3,ps,k _ _ a4,a5.imp id fun⟨c,e,n,z⟩=>⟨c,e,n,k _ _ z⟩⟩
theorem yoy.sub{T:Tb}{μ μ':List Addr}{H:Hp}(h:yoy T μ' H)(k:∀ b∈μ,b∈μ'):yoy T μ H:=fun t ht=>by
 obtain⟨⟨a1,a2⟩,a3,ps,a4,a5⟩:=h t ht;exact⟨⟨fun z=>a1 (k _ z),a2⟩,fun z=>a3 (k _ z),ps,a4,a5.imp id fun⟨c,e,n,z⟩=>⟨c,e,fun y=>n (k _ y),z⟩⟩
theorem yoy.more{T:Tb}{μ:List Addr}{H:Hp}{p:Addr}(h:yoy T μ H)(hp:H p=none):yoy T (μ++[p]) H:=fun t ht=>by
 obtain⟨⟨a1,ob,a2⟩,a3,ps,a4,a5⟩:=h t ht;have ne:∀ {b:Addr} {u:HO},H b=some u->b ∉ μ->b ∉ μ++[p]:=fun {b u} e n z=>(List.mem_append.mp z).elim n fun y=>by
  have y':b=p:=by simpa using y
  subst y';rw[hp]at e;cases e
 exact⟨⟨ne a2 a1,ob,a2⟩,ne a4 a3,ps,a4,a5.imp id fun⟨c,e,n,z⟩=>⟨c,e,ne z n,z⟩⟩
theorem yoy.out{T:Tb}{μ:List Addr}{H H':Hp}{a:Addr}(h:yoy T μ H)(hk:∀ b,b≠a->H' b=H b)(ha:a∈μ\/∃ kvs,H a=some (.dK kvs)):yoy T μ H':=fun t ht=>by
 obtain⟨⟨a1,ob,a2⟩,a3,ps,a4,a5⟩:=h t ht;have ne:∀ {b:Addr} {u:HO},H b=some u->b ∉ μ->(∀ kvs,u≠.dK kvs)->H' b=some u:=fun {b u} e n d=>by
  rw[hk b (fun z=>by
   subst z;rcases ha with y|⟨kvs,y⟩
   ·exact n y
   ·rw[e]at y;cases y;exact d kvs rfl)]
  exact e
 exact⟨⟨a1,ob,ne a2 a1 (fun _ z=>by cases z)⟩,a3,ps,ne a4 a3 (fun _ z=>by cases z),a5.imp id fun⟨c,e,n,z⟩=>⟨c,e,n,ne z n (fun _ y=>by cases y)⟩⟩
def Tb.cv(T:Tb)(x:Xn):Value:=.ref (T.ca x.cls)
def fdN(c:Nat):Option Nat:=if c<100 then none else some (c / 100 - 1)
def yh1(C a:Addr):Heap->Prop:=fun h=>∃ o,h.get? a=some o/\o.cls=.ref C
def yaa(C:Addr)(dd:Option Addr)(a:Addr):Heap->Prop:=fun h=>∃ o,h.get? a=some o/\o.cls=.ref C/\∀ dN,dd=some dN->o.dict=some dN/\∃ vs,o.data=.fields vs
def yh6(dN:Addr)(n:Nat):Heap->Prop:=fun h=>∃ o,h.get? dN=some o/\∃ es ep t,o.data=.dict es ep/\StrKeys es/\nsFind es "pot" = some (.int n t)
def Scr(K:W.Frag)(H:Hp)(a:Addr)(ns:List Int):Prop:=
 (∃ o,H a=some (.frz o (.lst (ns.map V.int))))\/
  ∃ (o:Obj) (its:Array Value) (n:Nat),K.lookup a=some o/\o.cls=.type "list"/\o.dict=none/\o.data=.seq its n/\its.size<=sizeLine/\yo0 (ns.map V.int) its.toList
theorem Scr.seq{K:W.Frag}{H:Hp}{a:Addr}{ns:List Int}(h:Scr K H a ns):SqL K H a (ns.map V.int):=by
 rcases h with⟨o,h⟩|h
 ·exact .inl (.inr ⟨o,h⟩)
 ·exact .inr h
def yoz(K:W.Frag)(a:Addr)(ss:List Str):Prop:=∃ (o:Obj) (its:Array Value) (n:Nat),K.lookup a=some o/\o.cls=.type "tuple"/\o.data=.seq its n/\its.size<=sizeLine/\yo0 (ss.map V.str) its.toList
mutual
def Rep(T:Tb)(μ:List Addr)(H:Hp):D->V->Prop
 | .non,v=>v=.non
 | .bl b,v=>v=.bl b
 | .int i,v=>v=.int i
 | .str x,v=>v=.str x
 | .tup ds,v=>∃ p vs,v=.ref p/\H p=some (.tup vs)/\yot T μ H ds vs
 | .scr ns,v=>∃ a,v=.ref a/\Scr T.K H a ns
 | .ref n,v=>∃ a,v=.ref a/\μ[n]?=some a
 | .lst ds,v=>∃ a vs,v=.ref a/\a ∉ μ/\H a=some (.lst vs)/\yot T μ H ds vs
 | .dic ks ds,v=>∃ a kvs,v=.ref a/\a ∉ μ/\Rd H a (.dK kvs)/\kvs.map (·.1)=ks/\yot T μ H ds (kvs.map (·.2))
 | .obj c ns ds,v=>∃ a dx fs,v=.ref a/\a ∉ μ/\H a=some (.ins (T.ca c) dx fs)/\fs.map (·.1)=ns/\yot T μ H ds (fs.map (·.2))
 | .exn c,v=>∃ a dd,v=.ref a/\a ∉ μ/\H a=some (.ext (yaa (T.ca c) dd a))/\∀ n,fdN c=some n->∃ dN,dd=some dN/\dN ∉ μ/\H dN=some (.ext (yh6 dN n))
 | .gt ss,v=>∃ a,v=.ref a/\yoz T.K a ss
def yot(T:Tb)(μ:List Addr)(H:Hp):List D->List V->Prop
 |[],vs=>vs=[]
 |d::ds,vs=>∃ v r,vs=v::r/\Rep T μ H d v/\yot T μ H ds r
end
def Kp(o o':HO):Prop:=o'=o\/(∃ ob kvs,o=.dK kvs/\o'=.frz ob (.dK kvs))\/∃ ps ps',o=.tbl ps/\o'=.tbl ps'
theorem Kp.trans{a b c:HO}(x:Kp a b)(y:Kp b c):Kp a c:=by
 rcases x with rfl|⟨ob,kvs,rfl,rfl⟩|⟨ps,ps',rfl,rfl⟩
 ·exact y
 ·rcases y with rfl|⟨_,_,z,_⟩|⟨_,_,z,_⟩
  ·exact .inr (.inl ⟨ob,kvs,rfl,rfl⟩)
  ·cases z
  ·cases z
 ·rcases y with rfl|⟨_,_,z,_⟩|⟨_,ps2,_,rfl⟩
  ·exact .inr (.inr ⟨ps,ps',rfl,rfl⟩)
  ·cases z
  ·exact .inr (.inr ⟨ps,ps2,rfl,rfl⟩)
structure Ext(μ:List Addr)(H:Hp)(μ':List Addr)(H':Hp):Prop where
 pre:∃ r,μ'=μ++r
 tup:∀ p xs,H p=some (.tup xs)->H' p=some (.tup xs)
 frz:∀ p o u,H p=some (.frz o u)->H' p=some (.frz o u)
 keep:∀ p o,H p=some o->p ∉ μ->(∃ o',H' p=some o'/\Kp o o')/\p ∉ μ'
theorem Ext.refl(μ:List Addr)(H:Hp):Ext μ H μ H:=⟨⟨[],by simp⟩,fun _ _ h=>h,fun _ _ _ h=>h,fun _ _ h n=>⟨⟨_,h,.inl rfl⟩,n⟩⟩
theorem Ext.trans{μ μ1 μ2:List Addr}{H H1 H2:Hp}(a:Ext μ H μ1 H1)(b:Ext μ1 H1 μ2 H2):Ext μ H μ2 H2:=by
 obtain⟨⟨r,rfl⟩,t1,f1,k1⟩:=a;obtain⟨⟨r',rfl⟩,t2,f2,k2⟩:=b;exact⟨⟨r++r',by simp⟩,fun p xs h=>t2 p xs (t1 p xs h),fun p o u h=>f2 p o u (f1 p o u h),fun p o h n=>let ⟨⟨o1,h1,c1⟩,n1⟩:=k1 p o h n;let ⟨⟨o2,h2,c2⟩,n2⟩:=k2 p o1 h1 n1;⟨⟨o2,h2,c1.trans c2⟩,n2⟩⟩
theorem Ext.keepN{μ μ':List Addr}{H H':Hp}(e:Ext μ H μ' H')(p:Addr)(o:HO)(h:H p=some o)(n:p ∉ μ)(hd:(∀ kvs,o≠.dK kvs)/\∀ ps,o≠.tbl ps:=by exact⟨(fun _ z=>by cases z),(fun _ z=>by cases z)⟩):H' p=some o/\p ∉ μ':=by
 obtain⟨⟨o',h1,c⟩,n'⟩:=e.keep p o h n;rcases c with rfl|⟨_,kvs,z,_⟩|⟨ps,_,z,_⟩
 ·exact⟨h1,n'⟩
 ·exact absurd z (hd.1 kvs)
 ·exact absurd z (hd.2 ps)
theorem Ext.rd{μ μ':List Addr}{H H':Hp}(e:Ext μ H μ' H')(p:Addr)(kvs:List (Key × V))(h:Rd H p (.dK kvs))(n:p ∉ μ):Rd H' p (.dK kvs)/\p ∉ μ':=by
 rcases h with h|⟨ob,h⟩
 ·obtain⟨⟨o',h1,c⟩,n'⟩:=e.keep p _ h n;rcases c with rfl|⟨ob,kvs',z,rfl⟩|⟨_,_,z,_⟩
  ·exact⟨.inl h1,n'⟩
  ·cases z;exact⟨.inr ⟨ob,h1⟩,n'⟩
  ·cases z
 ·exact⟨.inr ⟨ob,e.frz _ _ _ h⟩,(e.keep p _ h n).2⟩
theorem Ext.get{μ μ':List Addr}{H H':Hp}(e:Ext μ H μ' H'){n:Nat}{a:Addr}(h:μ[n]?=some a):μ'[n]?=some a:=by
 obtain⟨⟨r,rfl⟩,_,_⟩:=e;rw[List.getElem?_append_left (List.getElem?_eq_some_iff.mp h).1];exact h
mutual
theorem Rep.mono{T:Tb}{μ μ':List Addr}{H H':Hp}(e:Ext μ H μ' H'):∀ (d:D) (v:V),Rep T μ H d v->Rep T μ' H' d v
 | .non,v,h=>by simpa [Rep]using h
 | .bl b,v,h=>by simpa [Rep]using h
 | .int i,v,h=>by simpa [Rep]using h
 | .str x,v,h=>by simpa [Rep]using h
 | .tup ds,v,h=>by
  rw[Rep]at h ⊢;obtain⟨p,vs,h1,h2,h3⟩:=h;exact⟨p,vs,h1,e.tup _ _ h2,yot.mono e ds vs h3⟩
 | .scr ns,v,h=>by
  rw[Rep]at h ⊢;obtain⟨a,h1,h2⟩:=h;refine⟨a,h1,?_⟩;rcases h2 with⟨o,h2⟩|h2
  ·exact .inl ⟨o,e.frz _ _ _ h2⟩
  ·exact .inr h2
 | .ref n,v,h=>by
  rw[Rep]at h ⊢;obtain⟨a,h1,h2⟩:=h;exact⟨a,h1,e.get h2⟩
 | .lst ds,v,h=>by
  rw[Rep]at h ⊢;obtain⟨a,vs,h1,h2,h3,h4⟩:=h;exact⟨a,vs,h1,(e.keepN _ _ h3 h2).2,(e.keepN _ _ h3 h2).1,yot.mono e ds vs h4⟩
 | .dic ks ds,v,h=>by
  rw[Rep]at h ⊢;obtain⟨a,vs,h1,h2,h3,h5,h4⟩:=h;exact⟨a,vs,h1,(e.rd _ _ h3 h2).2,(e.rd _ _ h3 h2).1,h5,yot.mono e ds _ h4⟩
 | .obj c ns ds,v,h=>by
  rw[Rep]at h ⊢;obtain⟨a,dx,vs,h1,h2,h3,h5,h4⟩:=h;exact⟨a,dx,vs,h1,(e.keepN _ _ h3 h2).2,(e.keepN _ _ h3 h2).1,h5,yot.mono e ds _ h4⟩
 | .exn c,v,h=>by
  rw[Rep]at h ⊢;obtain⟨a,dd,h1,h2,h3,h4⟩:=h;exact⟨a,dd,h1,(e.keepN _ _ h3 h2).2,(e.keepN _ _ h3 h2).1,fun n q=>let ⟨dN,q1,q2,q3⟩:=h4 n q;⟨dN,q1,(e.keepN _ _ q3 q2).2,(e.keepN _ _ q3 q2).1⟩⟩
 | .gt ss,v,h=>by rw[Rep]at h ⊢;exact h
theorem yot.mono{T:Tb}{μ μ':List Addr}{H H':Hp}(e:Ext μ H μ' H'):∀ (ds:List D) (vs:List V),yot T μ H ds vs->yot T μ' H' ds vs
 |[],vs,h=>by simpa [yot]using h
 |d::ds,vs,h=>by
  rw[yot]at h ⊢;obtain⟨v,r,h1,h2,h3⟩:=h;exact⟨v,r,h1,Rep.mono e d v h2,yot.mono e ds r h3⟩
end
theorem yot.nil{T:Tb}{μ:List Addr}{H:Hp}:yot T μ H [] []:=by rw[yot]
theorem yot.cons{T:Tb}{μ:List Addr}{H:Hp}{d:D}{v:V}{ds:List D}{vs:List V}(h1:Rep T μ H d v)(h2:yot T μ H ds vs):yot T μ H (d::ds) (v::vs):=by
 rw[yot];exact⟨v,vs,rfl,h1,h2⟩
theorem yot.length{T:Tb}{μ:List Addr}{H:Hp}:∀ {ds:List D} {vs:List V},yot T μ H ds vs->ds.length=vs.length
 |[],vs,h=>by rw[yot]at h;subst h;rfl
 |d::ds,vs,h=>by
  rw[yot]at h;obtain⟨v,r,rfl,_,h3⟩:=h;simp[yot.length h3]
theorem yot.get{T:Tb}{μ:List Addr}{H:Hp}:∀ {ds:List D} {vs:List V} {i:Nat} {d:D},yot T μ H ds vs->ds[i]?=some d->∃ v,vs[i]?=some v/\Rep T μ H d v
 |[],vs,i,d,h,e=>by simp at e
 |d::ds,vs,0,x,h,e=>by
  rw[yot]at h;obtain⟨v,r,rfl,h2,h3⟩:=h;simp at e;subst e;exact⟨v,rfl,h2⟩
 |d::ds,vs,i+1,x,h,e=>by
  rw[yot]at h;obtain⟨v,r,rfl,h2,h3⟩:=h;simpa using yot.get (i:=i) h3 (by simpa using e)
theorem yot.append{T:Tb}{μ:List Addr}{H:Hp}:∀ {ds es:List D} {vs us:List V},yot T μ H ds vs->yot T μ H es us->yot T μ H (ds++es) (vs++us)
 |[],es,vs,us,h,h'=>by rw[yot]at h;subst h;simpa using h'
 |d::ds,es,vs,us,h,h'=>by
  rw[yot]at h;obtain⟨v,r,rfl,h2,h3⟩:=h;exact yot.cons h2 (yot.append h3 h')
theorem yot.set{T:Tb}{μ:List Addr}{H:Hp}{d:D}{v:V}(hd:Rep T μ H d v):∀ {ds:List D} {vs:List V} (i:Nat),yot T μ H ds vs->yot T μ H (ds.set i d) (vs.set i v)
 |[],vs,i,h=>by rw[yot]at h;subst h;simpa using yot.nil
 |x::ds,vs,0,h=>by
  rw[yot]at h;obtain⟨w,r,rfl,h2,h3⟩:=h;exact yot.cons hd h3
 |x::ds,vs,i+1,h=>by
  rw[yot]at h;obtain⟨w,r,rfl,h2,h3⟩:=h;exact yot.cons h2 (yot.set hd i h3)
theorem yot.drop{T:Tb}{μ:List Addr}{H:Hp}:∀ {ds:List D} {vs:List V} (n:Nat),yot T μ H ds vs->yot T μ H (ds.drop n) (vs.drop n)
 |ds,vs,0,h=>by simpa using h
 |[],vs,n+1,h=>by rw[yot]at h;subst h;simpa using yot.nil
 |x::ds,vs,n+1,h=>by
  rw[yot]at h;obtain⟨w,r,rfl,h2,h3⟩:=h;simpa using yot.drop n h3
theorem yot.take{T:Tb}{μ:List Addr}{H:Hp}:∀ {ds:List D} {vs:List V} (n:Nat),yot T μ H ds vs->yot T μ H (ds.take n) (vs.take n)
 |ds,vs,0,h=>by simpa using yot.nil
 |[],vs,n+1,h=>by rw[yot]at h;subst h;simpa using yot.nil
 |x::ds,vs,n+1,h=>by
  rw[yot]at h;obtain⟨w,r,rfl,h2,h3⟩:=h;exact yot.cons h2 (yot.take n h3)
def yor(T:Tb)(μ:List Addr)(H:Hp):List (Str × D)->List (Str × V)->Prop:=Paired fun p q=>p.1=q.1/\Rep T μ H p.2 q.2
def yos(T:Tb)(μ:List Addr)(H:Hp):List (Key × D)->List (Key × V)->Prop:=Paired fun p q=>p.1=q.1/\Rep T μ H p.2 q.2
def ObR(T:Tb)(μ:List Addr)(H:Hp)(a:Addr):Ob->Prop
 | .lst ds=>∃ vs,H a=some (.lst vs)/\yot T μ H ds vs
 | .dic kvs=>∃ vs,H a=some (.dK vs)/\yos T μ H kvs vs
 | .ins c fs=>∃ dx vs,H a=some (.ins (T.ca c) dx vs)/\yor T μ H fs vs
 | .fdic kvs=>∃ ob vs,H a=some (.frz ob (.dK vs))/\yos T μ H kvs vs
 | .tdic ks=>∃ vs,H a=some (.dT vs)/\vs.map (·.1)=ks
structure Rel(T:Tb)(μ:List Addr)(H:Hp)(σ:Sto):Prop where
 len:μ.length=σ.length
 nd:μ.Nodup
 obs:∀ (n:Nat) (o:Ob),σ[n]?=some o->∃ a,μ[n]?=some a/\ObR T μ H a o
 tb:yoy T μ H
def yn9(T:Tb)(μ:List Addr)(H:Hp)(ρ:Ev)(st:St):Prop:=ρ.length=st.length/\∀ (i:Nat) (d:D),ρ[i]?=some (some d)->∃ v,st[i]?=some (some v)/\Rep T μ H d v
theorem yn9.mono{T:Tb}{μ μ':List Addr}{H H':Hp}{ρ:Ev}{st:St}(e:Ext μ H μ' H')(h:yn9 T μ H ρ st):yn9 T μ' H' ρ st:=
 ⟨h.1,fun i d q=>let ⟨v,h1,h2⟩:=h.2 i d q;⟨v,h1,Rep.mono e d v h2⟩⟩
theorem yn9.set{T:Tb}{μ:List Addr}{H:Hp}{ρ:Ev}{st:St}{d:D}{v:V}(h:yn9 T μ H ρ st)(i:Nat)(r:Rep T μ H d v):yn9 T μ H (ρ.set i (some d)) (st.set i (some v)):=by
 refine⟨by simpa using h.1,fun j x q=>?_⟩;rw[List.getElem?_set]at q;by_cases hj:i=j
 ·subst hj;rw[if_pos rfl]at q;split at q
  ·rename_i hl
   cases q;exact⟨v,by rw[List.getElem?_set,if_pos rfl,if_pos (by rw[<-h.1];exact hl)],r⟩
  ·cases q
 ·rw[if_neg hj]at q;obtain⟨w,h1,h2⟩:=h.2 j x q;exact⟨w,by rw[List.getElem?_set,if_neg hj];exact h1,h2⟩
def Unt(e:Addr)(cls a0:Value)(h:Heap):Prop:=∃ oe vs,h.get? e=some oe/\oe.cls=cls/\oe.data=.fields vs/\1<vs.size/\vs[0]?=some a0/\vs[1]?=some .none
def yob(B:Heap)(l:List Env)(e:Addr)(cls a0:Value)(h:Heap):Prop:=B.StaysIn h/\B.get? e=none/\h.FunFrames B l/\((∃ fl,h.TracedAtW B e cls a0 fl)\/Unt e cls a0 h)
def yom(o:Obj)(n:Nat):Prop:=∃ es ep t,o.data=.dict es ep/\StrKeys es/\nsFind es "pot" = some (.int n t)
def FdH(fd:Option Nat)(e:Addr)(B h h0:Heap)(H':Hp):Prop:=∀ n,fd=some n->∃ dN oD oe,h.get? e=some oe/\oe.dict=some dN/\B.get? dN=some oD/\yom oD n/\H' dN=none/\h0.get? dN=none
structure Fly(P:Program)(w:World)(outer:List Env)(H:Hp)(s:Shared)(cls:Value)(fd:Option Nat)(H':Hp)(e:Value)(s':Shared):Prop where
 ex:∃ (ea:Addr) (a0:Value) (B:Heap),e=.ref ea/\yob B outer ea cls a0 s'.heap/\H' ea=none/\s.heap.get? ea=none/\
  (∀ b o,H' b=some o->∃ ob,B.get? b=some ob)/\(∀ b o,s.heap.get? b=some o->H b=none->b ∉ frs outer->B.get? b=some o)/\(∀ b o,s.heap.get? b=some o->b ∉ frs outer->∃ o',B.get? b=some o')/\FdH fd ea B s'.heap s.heap H'
 os:s'.os=s.os
 bare:AllBare s'.gens
 un:Un (frs outer) [] H H' s.heap s'.heap
 hok:HOk P w H' s'.heap
def CXE(P:Program)(w:World):CXT:=fun outer H s E e s'=>∃ cls fd H',Fly P w outer H s cls fd H' e s'/\E cls fd H'
structure Thr(X:Cx)(st:St)(cls:Value)(fd:Option Nat)(H':Hp):Prop where
 fly:∀ (pins:List (Addr × Obj)) (H:Hp) (s:Shared) (e:Value) (s':Shared),Inv X pins st H s->Fly X.prog X.w X.stack H s cls fd H' e s'->X.xe e s'
abbrev XE(X:Cx)(st:St):XK:=fun cls fd H'=>Thr X st cls fd H'
def yol{α γ:Type}(T:Tb)(E:XK)(R:List Addr->Hp->α->γ->Prop)(μ:List Addr)(H:Hp)(o:Out α)(Q:γ->Hp->Prop):Prop:=match o with
 | .ok a σ=>∀ μ' g H',Ext μ H μ' H'->Rel T μ' H' σ->R μ' H' a g->Q g H'
 | .ex x σ=>∀ μ' H',Ext μ H μ' H'->Rel T μ' H' σ->E (T.cv x) (fdN x.cls) H'
 | .bad=>False
theorem yol.mono{α γ:Type}{T:Tb}{E:XK}{R:List Addr->Hp->α->γ->Prop}{μ μ1:List Addr}{H H1:Hp}{o:Out α}{Q:γ->Hp->Prop}(e:Ext μ H μ1 H1)(h:yol T E R μ H o Q):yol T E R μ1 H1 o Q:=by
 cases o with
 |ok a σ=>exact fun μ' g H' e' r q=>h μ' g H' (e.trans e') r q
 |ex x σ=>exact fun μ' H' e' r=>h μ' H' (e.trans e') r
 |bad=>exact h
theorem yol.imp{α γ:Type}{T:Tb}{E:XK}{R:List Addr->Hp->α->γ->Prop}{μ:List Addr}{H:Hp}{o:Out α}{Q Q':γ->Hp->Prop}(h:yol T E R μ H o Q)(k:∀ g H',Q g H'->Q' g H'):yol T E R μ H o Q':=by
 cases o with
 |ok a σ=>exact fun μ' g H' e' r q=>k _ _ (h μ' g H' e' r q)
 |ex x σ=>exact h
 |bad=>exact h
theorem yol.bind{α β γ δ:Type}{T:Tb}{E:XK}{R:List Addr->Hp->α->γ->Prop}{R':List Addr->Hp->β->δ->Prop}{μ:List Addr}{H:Hp}{m:M α}{k:α->M β}{σ:Sto}{Q:δ->Hp->Prop}{Q1:γ->Hp->Prop}
  (h:yol T E R' μ H (bnd m k σ) Q) (f:∀ a σ1 μ1 g H1,m σ=.ok a σ1->Ext μ H μ1 H1->Rel T μ1 H1 σ1->R μ1 H1 a g->yol T E R' μ1 H1 (k a σ1) Q->Q1 g H1):yol T E R μ H (m σ) Q1:=by
 unfold bnd at h;cases e:m σ with
 |ok a σ1=>
  rw[e]at h;exact fun μ' g H' e' r q=>f a σ1 μ' g H' e e' r q (h.mono e')
 |ex x σ1=>rw[e]at h;exact h
 |bad=>rw[e]at h;exact h
theorem yol.here{T:Tb}{E:XK}{α γ:Type}{R:List Addr->Hp->α->γ->Prop}{μ:List Addr}{H:Hp}{d:α}{σ:Sto}{g:γ}{Q:γ->Hp->Prop}(h:yol T E R μ H (.ok d σ) Q)(r:Rel T μ H σ)(p:R μ H d g):Q g H:=h μ g H (Ext.refl _ _) r p
section
variable(T:Tb)(X:Cx)
def tF(f:Ev->M D):TE:=fun st H Q=>∃ μ ρ σ,yn9 T μ H ρ st/\Rel T μ H σ/\yol T (XE X st) (Rep T) μ H (f ρ σ) Q
def yh7:List Addr->Hp->Bool->Bool->Prop:=fun _ _ a b=>b=a
def tT(f:Ev->M Bool):TT:=fun st H Q=>∃ μ ρ σ,yn9 T μ H ρ st/\Rel T μ H σ/\yol T (XE X st) yh7 μ H (f ρ σ) Q
def tL(f:Ev->M (List D)):TA:=fun st H Q=>∃ μ ρ σ,yn9 T μ H ρ st/\Rel T μ H σ/\yol T (XE X st) (yot T) μ H (f ρ σ) Q
inductive Gl2 where
 |nx (st:St)|rt (v:V)|bk (st:St)|ct (st:St)|xc (st:St) (cls:Value) (fd:Option Nat)
def RFl(T:Tb)(μ:List Addr)(H:Hp):Fl->Gl2->Prop
 | .nx ρ,.nx st=>yn9 T μ H ρ st
 | .rt d,.rt v=>Rep T μ H d v
 | .bk ρ,.bk st=>yn9 T μ H ρ st
 | .ct ρ,.ct st=>yn9 T μ H ρ st
 | .xc ρ x,.xc st cls fd=>yn9 T μ H ρ st/\cls=T.cv x/\fd=fdN x.cls
 |_,_=>False
def yoa(X:Cx)(D:Ends):Gl2->Hp->Prop
 | .nx st,H=>D.nx st H
 | .rt v,H=>D.rt v H
 | .bk st,H=>D.bk st H
 | .ct st,H=>D.ct st H
 | .xc st cls fd,H=>Thr X st cls fd H
abbrev EN:XK:=fun _ _ _=>False
def tS(g:Ev->M Fl):TS:=fun D st H=>∃ μ ρ σ,yn9 T μ H ρ st/\Rel T μ H σ/\yol T EN (RFl T) μ H (g ρ σ) (yoa X D)
end
def xs{α:Type}(ρ:Ev)(m:M α)(k:α->M Fl):M Fl:=fun σ=>match m σ with
 | .ok a σ'=>k a σ'
 | .ex x σ'=>.ok (.xc ρ x) σ'
 | .bad=>.bad
theorem yol.xs{α γ:Type}{T:Tb}{X:Cx}{D:Ends}{R:List Addr->Hp->α->γ->Prop}{μ:List Addr}{H:Hp}{ρ:Ev}{st:St}{m:M α}{k:α->M Fl}{σ:Sto}{Q1:γ->Hp->Prop}(hE:yn9 T μ H ρ st)
  (h:yol T EN (RFl T) μ H (L4.xs ρ m k σ) (yoa X D)) (f:∀ a σ1 μ1 g H1,m σ=.ok a σ1->Ext μ H μ1 H1->Rel T μ1 H1 σ1->R μ1 H1 a g->yol T EN (RFl T) μ1 H1 (k a σ1) (yoa X D)->Q1 g H1):yol T (XE X st) R μ H (m σ) Q1:=by
 unfold L4.xs at h;cases e:m σ with
 |ok a σ1=>
  rw[e]at h;exact fun μ' g H' e' r q=>f a σ1 μ' g H' e e' r q (h.mono e')
 |ex x σ1=>
  rw[e]at h;intro μ' H' e' r;exact h μ' (.xc st (T.cv x) (fdN x.cls)) H' e' r ⟨hE.mono e',rfl,rfl⟩
 |bad=>rw[e]at h;exact h
abbrev FE(T:Tb)(X:Cx)(e:Expr)(f:Ev->M D):Prop:=PE X e (tF T X f)
abbrev FT(T:Tb)(X:Cx)(e:Expr)(f:Ev->M Bool):Prop:=PT X e (tT T X f)
abbrev FW(T:Tb)(X:Cx)(e:Expr)(f:Ev->M Bool):Prop:=PW X e (tT T X f)
abbrev FA(T:Tb)(X:Cx)(es:List Expr)(f:Ev->M (List D)):Prop:=PA X es (tL T X f)
abbrev FS(T:Tb)(X:Cx)(st:Stmt)(g:Ev->M Fl):Prop:=PS X st (tS T X g)
abbrev FSs(T:Tb)(X:Cx)(st:List Stmt)(g:Ev->M Fl):Prop:=PSs X st (tS T X g)
end L4
namespace L4
open PySem PySem.Spec PyProof.Rows L2
def cap:Nat:=1000
theorem yar{n:Nat}(h:n<=cap):n<=sizeLine:=Nat.le_of_lt (zkn h)
theorem yas{n:Nat}(h:n<cap):n<sizeLine:=zkn (Nat.le_of_lt h)
theorem zov{α:Type}{l:List α}(h:l.Nodup){i j:Nat}{a:α}(hi:l[i]?=some a)(hj:l[j]?=some a):i=j:=by
 obtain⟨q1,q2⟩:=List.getElem?_eq_some_iff.mp hi;obtain⟨q3,q4⟩:=List.getElem?_eq_some_iff.mp hj;have hp:=List.pairwise_iff_getElem.mp h;rcases Nat.lt_trichotomy i j with z|z|z
 ·exact absurd (q2.trans q4.symm) (hp i j q1 q3 z)
 ·exact z
 ·exact absurd (q4.trans q2.symm) (hp j i q3 q1 z)
section
variable{T:Tb}{μ μ':List Addr}{H H':Hp}{σ:Sto}
theorem ze2{α:Type}(e:Ext μ H μ' H'){xs:List (α × D)}{ys:List (α × V)}(h:Paired (fun(p:α × D) (q:α × V)=>p.1=q.1/\Rep T μ H p.2 q.2) xs ys) :
  Paired (fun(p:α × D) (q:α × V)=>p.1=q.1/\Rep T μ' H' p.2 q.2) xs ys:=L2.Paired.mapP h fun p q z=>⟨z.1,Rep.mono e _ _ z.2⟩
theorem ObR.mono(e:Ext μ H μ' H'){a:Addr}(ha:H' a=H a):∀ {o:Ob},ObR T μ H a o->ObR T μ' H' a o
 | .lst ds,⟨vs,h,r⟩=>⟨vs,ha.trans h,yot.mono e _ _ r⟩
 | .dic kvs,⟨vs,h,r⟩=>⟨vs,ha.trans h,ze2 e r⟩
 | .ins c fs,⟨dx,vs,h,r⟩=>⟨dx,vs,ha.trans h,ze2 e r⟩
 | .fdic kvs,⟨ob,vs,h,r⟩=>⟨ob,vs,ha.trans h,ze2 e r⟩
 | .tdic ks,⟨vs,h,r⟩=>⟨vs,ha.trans h,r⟩
theorem ObR.some{a:Addr}:∀ {o:Ob},ObR T μ H a o->∃ u,H a=Option.some u/\(∀ xs,u≠.tup xs)
 | .lst ds,⟨vs,h,r⟩=>⟨_,h,(fun _ z=>by cases z)⟩
 | .dic kvs,⟨vs,h,r⟩=>⟨_,h,(fun _ z=>by cases z)⟩
 | .ins c fs,⟨dx,vs,h,r⟩=>⟨_,h,(fun _ z=>by cases z)⟩
 | .fdic kvs,⟨ob,vs,h,r⟩=>⟨_,h,(fun _ z=>by cases z)⟩
 | .tdic ks,⟨vs,h,r⟩=>⟨_,h,(fun _ z=>by cases z)⟩
theorem ObR.somew{a:Addr}:∀ {o:Ob},(∀ kvs,o≠.fdic kvs)->ObR T μ H a o->∃ u,H a=Option.some u/\(∀ xs,u≠.tup xs)/\(∀ ob w,u≠.frz ob w)
 | .lst ds,_,⟨vs,h,r⟩=>⟨_,h,(fun _ z=>by cases z),(fun _ _ z=>by cases z)⟩
 | .dic kvs,_,⟨vs,h,r⟩=>⟨_,h,(fun _ z=>by cases z),(fun _ _ z=>by cases z)⟩
 | .ins c fs,_,⟨dx,vs,h,r⟩=>⟨_,h,(fun _ z=>by cases z),(fun _ _ z=>by cases z)⟩
 | .fdic kvs,n,_=>absurd rfl (n kvs)
 | .tdic ks,_,⟨vs,h,r⟩=>⟨_,h,(fun _ z=>by cases z),(fun _ _ z=>by cases z)⟩
theorem Rel.keep(r:Rel T μ H σ)(e:Ext μ H μ H')(k:∀ a∈μ,H' a=H a)(t:yoy T μ H'):Rel T μ H' σ:=
 ⟨r.len,r.nd,fun n o h=>let ⟨a,h1,h2⟩:=r.obs n o h;⟨a,h1,h2.mono e (k a (List.mem_of_getElem? h1))⟩,t⟩
theorem Rel.mem(r:Rel T μ H σ){a:Addr}(h:a∈μ):∃ u,H a=some u/\(∀ xs,u≠.tup xs):=by
 obtain⟨n,hn⟩:=List.getElem?_of_mem h;have hl:n<σ.length:=by rw[<-r.len];exact(List.getElem?_eq_some_iff.mp hn).1
 obtain⟨a',h1,h2⟩:=r.obs n σ[n] (by simp[hl]);rw[hn]at h1;cases h1;exact h2.some
theorem zs8{p:Addr}{o:HO}(hp:H p=none):Ext μ H μ (upd H p o):=
 ⟨⟨[],by simp⟩,fun q xs h=>by rw[yhv (zgj h hp)];exact h,fun q ob u h=>by rw[yhv (zgj h hp)];exact h,fun q ob h n=>⟨⟨ob,by rw[yhv (zgj h hp)];exact h,.inl rfl⟩,n⟩⟩
theorem Rel.fresh(r:Rel T μ H σ){p:Addr}{o:HO}(hp:H p=none):Rel T μ (upd H p o) σ:=
 r.keep (zs8 hp) (fun a ha=>by obtain⟨u,h,_⟩:=r.mem ha;rw[yhv (zgj h hp)]) (r.tb.grow fun b u h=>by rw[yhv (zgj h hp)];exact h)
theorem zme{p:Addr}{o:HO}(hp:H p=none):Ext μ H (μ++[p]) (upd H p o):=
 ⟨⟨[p],rfl⟩,(zs8 (μ:=μ) hp).tup,(zs8 (μ:=μ) hp).frz,fun q ob h n=>⟨((zs8 (μ:=μ) hp).keep q ob h n).1,fun z=>(List.mem_append.mp z).elim n fun z=>zgj h hp (by simpa using z)⟩⟩
theorem Rel.push(r:Rel T μ H σ){p:Addr}{o:HO}{ob:Ob}(hp:H p=none)(ho:ObR T (μ++[p]) (upd H p o) p ob):Rel T (μ++[p]) (upd H p o) (σ++[ob]):=by
 refine⟨by simp[r.len],?_,fun n x h=>?_,(r.tb.more hp).grow fun b u h=>by rw[yhv (zgj h hp)];exact h⟩
 ·rw[List.nodup_append];refine⟨r.nd,by simp,fun a ha b hb e=>?_⟩;have eb:b=p:=by simpa using hb
  subst eb;subst e;obtain⟨u,h,_⟩:=r.mem ha;rw[hp]at h;cases h
 ·by_cases hn:n<σ.length
  ·rw[List.getElem?_append_left hn]at h;obtain⟨a,h1,h2⟩:=r.obs n x h;obtain⟨u,hu,_⟩:=h2.some;exact⟨a,by rw[List.getElem?_append_left (by rw[r.len];exact hn)];exact h1,h2.mono (zme hp) (yhv (zgj hu hp))⟩
  ·rw[List.getElem?_append_right (by omega)]at h;have e0:n - σ.length=0:=by
    have:=(List.getElem?_eq_some_iff.mp h).1;simp at this;omega
   rw[e0]at h;simp at h;subst h;have en:n=μ.length:=by rw[r.len];omega
   subst en;exact⟨p,by simp,ho⟩
theorem zp5{p:Addr}{o:HO}(r:Rel T μ H σ):Rep T (μ++[p]) (upd H p o) (.ref σ.length) (.ref p):=by
 rw[Rep];exact⟨p,rfl,by rw[<-r.len];simp⟩
theorem zif{a:Addr}{u o:HO}(hm:a∈μ)(ha:H a=some u)(h1:∀ xs,u≠.tup xs)(h2:∀ ob w,u≠.frz ob w):Ext μ H μ (upd H a o):=
 ⟨⟨[],by simp⟩,fun q xs h=>by rw[yhv (yle h ha (fun z=>h1 xs z.symm))];exact h,fun q ob w h=>by rw[yhv (yle h ha (fun z=>h2 ob w z.symm))];exact h,fun q ob h n=>⟨⟨ob,by rw[yhv (fun z=>n (by rw[z];exact hm))];exact h,.inl rfl⟩,n⟩⟩
theorem Rel.write(r:Rel T μ H σ){n:Nat}{a:Addr}{o:HO}{ob:Ob}(hn:μ[n]?=some a)(ho:ObR T μ (upd H a o) a ob)(hw:∀ kvs,σ[n]?≠some (.fdic kvs):=by intro kvs z;simp_all [ykw]):Ext μ H μ (upd H a o)/\Rel T μ (upd H a o) (σ.set n ob):=by
 obtain⟨u,hu,h1,h2⟩:∃ u,H a=some u/\(∀ xs,u≠.tup xs)/\(∀ ob w,u≠.frz ob w):=by
  have hl:n<σ.length:=by rw[<-r.len];exact(List.getElem?_eq_some_iff.mp hn).1
  obtain⟨a',h1,h2⟩:=r.obs n σ[n] (by simp[hl]);rw[hn]at h1;cases h1;exact h2.somew fun kvs z=>hw kvs (by rw[List.getElem?_eq_getElem hl,z])
 have e:Ext μ H μ (upd H a o):=zif (List.mem_of_getElem? hn) hu h1 h2;refine⟨e,by simp[r.len],r.nd,fun m x h=>?_,r.tb.out (fun b hb=>yhv hb) (.inl (List.mem_of_getElem? hn))⟩;rw[List.getElem?_set]at h;by_cases hm:n=m
 ·subst hm;rw[if_pos rfl]at h;split at h
  ·cases h;exact⟨a,hn,ho⟩
  ·cases h
 ·rw[if_neg hm]at h;obtain⟨b,h3,h4⟩:=r.obs m x h;refine⟨b,h3,h4.mono e (yhv fun z=>hm ?_)⟩;subst z;exact zov r.nd hn h3
theorem Rel.at(r:Rel T μ H σ){n:Nat}{v:V}{o:Ob}(h:Rep T μ H (.ref n) v)(e:σ[n]?=some o):∃ a,v=.ref a/\μ[n]?=some a/\ObR T μ H a o:=by
 rw[Rep]at h;obtain⟨a,rfl,ha⟩:=h;obtain⟨a',h1,h2⟩:=r.obs n o e;rw[ha]at h1;cases h1;exact⟨a,rfl,ha,h2⟩
end
def yp2(i:Nat):Ev->M D:=fun ρ σ=>match ρ[i]? with
 |some (some d)=>.ok d σ
 |_=>.bad
def eC(d:D):Ev->M D:=fun _=>ret d
def ypc(o:D->D->M D)(m:M D)(x:D):M D:=bnd m (o x)
def ypu(o:D->D->M D)(a b:Ev->M D):Ev->M D:=fun ρ=>bnd (a ρ) (ypc o (b ρ))
def eUn(o:D->M D)(a:Ev->M D):Ev->M D:=fun ρ=>bnd (a ρ) o
def tst(d:D):M Bool:=match d with
 | .bl b=>ret b
 |_=>bad
def ifK{α:Type}(p q:M α)(c:Bool):M α:=if c=true then p else q
def yq1(c:Bool):M Bool:=ret (!c)
def ynl{α:Type}(k:Bool->M α)(d:D):M α:=bnd (tst d) k
def eT(f:Ev->M D):Ev->M Bool:=fun ρ=>bnd (f ρ) tst
def yo8(a b:Ev->M Bool):Ev->M Bool:=fun ρ=>bnd (a ρ) (ifK (b ρ) (ret false))
def bOr(a b:Ev->M Bool):Ev->M Bool:=fun ρ=>bnd (a ρ) (ifK (ret true) (b ρ))
def yo9(a:Ev->M Bool):Ev->M Bool:=fun ρ=>bnd (a ρ) yq1
def yps(a b:Ev->M D):Ev->M D:=fun ρ=>bnd (a ρ) (ynl (ifK (b ρ) (ret (.bl false))))
def eOr(a b:Ev->M D):Ev->M D:=fun ρ=>bnd (a ρ) (ynl (ifK (ret (.bl true)) (b ρ)))
def yla(c:Bool):M D:=ret (.bl (!c))
def ypz(a:Ev->M D):Ev->M D:=fun ρ=>bnd (a ρ) (ynl yla)
def eIf(t:Ev->M Bool)(a b:Ev->M D):Ev->M D:=fun ρ=>bnd (t ρ) (ifK (a ρ) (b ρ))
def yo2:Ev->M (List D):=fun _=>ret []
def yiq(x:D)(xs:List D):M (List D):=ret (x::xs)
def yaf(m:M (List D))(x:D):M (List D):=bnd m (yiq x)
def yie(e:Ev->M D)(r:Ev->M (List D)):Ev->M (List D):=fun ρ=>bnd (e ρ) (yaf (r ρ))
def ys7(ds:List D):M D:=if ds.length<=cap then ret (.tup ds)else bad
def yp1(a:Ev->M (List D)):Ev->M D:=fun ρ=>bnd (a ρ) ys7
def yk6(ds:List D):M D:=fun σ=>.ok (.ref σ.length) (σ++[.lst ds])
def yqu(ds:List D):M D:=if ds.length<=cap then yk6 ds else bad
def ypx(a:Ev->M (List D)):Ev->M D:=fun ρ=>bnd (a ρ) yqu
def lvK(ds:List D):M D:=if ds.length<=cap then ret (.lst ds)else bad
def eLv(a:Ev->M (List D)):Ev->M D:=fun ρ=>bnd (a ρ) lvK
def yia(T:Tb)(r:R2)(o:D->D->M D):Prop:=∀ (E:XK) μ H σ x y v u Q,Rel T μ H σ->Rep T μ H x v->Rep T μ H y u->yol T E (Rep T) μ H (o x y σ) Q->r v u H Q
def yib(T:Tb)(r:V->Hp->VK->Prop)(o:D->M D):Prop:=∀ (E:XK) μ H σ x v Q,Rel T μ H σ->Rep T μ H x v->yol T E (Rep T) μ H (o x σ) Q->r v H Q
def zro(T:Tb)(r:List V->Hp->VK->Prop)(o:List D->M D):Prop:=∀ (E:XK) μ H σ xs vs Q,Rel T μ H σ->yot T μ H xs vs->yol T E (Rep T) μ H (o xs σ) Q->r vs H Q
section
variable{T:Tb}{X:Cx}{a b c:Expr}{fa fb:Ev->M D}{ta tb:Ev->M Bool}{pos:Pos}
theorem ycf(i:Nat){x:Str}(hN:X.N[i]?=some x:=by rfl)(hv:Vis X.env.scope x:=by first|exact Or.inl rfl|exact Or.inr (Or.inl rfl)|exact Or.inr (Or.inr rfl))(hd:(x == ("__debug__" : Str))=false:=by decide)
  (hcd:(x == ("__classdict__" : Str))=false:=by decide):FE T X (.Name x pos) (yp2 i):=by
 intro pins s st H Q I h;obtain⟨μ,ρ,σ,he,hr,hp⟩:=h;refine yft hN hv hd hcd pins s st H Q I ?_;unfold yp2 at hp;cases e:ρ[i]? with
 |none=>rw[e]at hp;exact hp.elim
 |some o=>
  cases o with
  |none=>rw[e]at hp;exact hp.elim
  |some d=>
   rw[e]at hp;obtain⟨v,h1,h2⟩:=he.2 i d e;exact⟨v,h1,hp.here hr h2⟩
theorem zmj{e:Expr}{v:V}{d:D}(h:PE X e (tC v))(r:∀ μ H,Rep T μ H d v):FE T X e (eC d):=by
 intro pins s st H Q I hq;obtain⟨μ,ρ,σ,he,hr,hp⟩:=hq;exact h pins s st H Q I (yol.here hp hr (r _ _))
theorem yb3{i:Int}{j}:FE T X (.Constant (.int i) j pos) (eC (.int i)):=zmj yfm fun _ _=>by rw[Rep]
theorem yjc{i:Bool}{j}:FE T X (.Constant (.bool i) j pos) (eC (.bl i)):=zmj yl1 fun _ _=>by rw[Rep]
theorem yb9{j}:FE T X (.Constant .none j pos) (eC .non):=zmj yfo fun _ _=>by rw[Rep]
theorem ycd{i:Str}{j}:FE T X (.Constant (.str i) j pos) (eC (.str i)):=zmj yfr fun _ _=>by rw[Rep]
theorem zml{x:Str}{u:Value}{i:Int}(hg:Gl X x)(hm:X.mg x=some u)(r:yoq (.int i) u)(hd:(x == ("__debug__" : Str))=false:=by decide):FE T X (.Name x pos) (eC (.int i)):=zmj (zw7 hg hm r hd) fun _ _=>by rw[Rep]
theorem two{r:R2}{o:D->D->M D}(hs:yia T r o){st:St}{H:Hp}{Q:VK}(h:tF T X (ypu o fa fb) st H Q):tOp r (tF T X fa) (tF T X fb) st H Q:=by
 obtain⟨μ,ρ,σ,he,hr,hp⟩:=h;exact⟨μ,ρ,σ,he,hr,hp.bind fun x σ1 μ1 v H1 _ e1 r1 p1 q1=>⟨μ1,ρ,σ1,he.mono e1,r1,q1.bind fun y σ2 μ2 u H2 _ e2 r2 p2 q2=>hs _ μ2 H2 σ2 x y v u Q r2 (Rep.mono e2 _ _ p1) p2 q2⟩⟩
theorem yjf{op:Operator}{r:R2}{o:D->D->M D}(ho:OpR X (binaryOp op) r)(hs:yia T r o)(ha:FE T X a fa)(hb:FE T X b fb):FE T X (.BinOp a op b pos) (ypu o fa fb):=
 fun pins s st H Q I h=>yl4 ho ha hb pins s st H Q I (two hs h)
theorem yb0{op:CmpOp}{r:R2}{o:D->D->M D}(ho:OpR X (compareOp op) r)(hs:yia T r o)(ha:FE T X a fa)(hb:FE T X b fb)(hm:behindInMarks op b=false):FE T X (.Compare a [op] [b] pos) (ypu o fa fb):=
 fun pins s st H Q I h=>zw3 ho ha hb hm pins s st H Q I (two hs h)
theorem yjd{r:R2}{o:D->D->M D}(ho:IxR X r)(hs:yia T r o)(ha:FE T X a fa)(hb:FE T X b fb)(hp:zrn b):FE T X (.Subscript a b pos) (ypu o fa fb):=
 fun pins s st H Q I h=>yl3 ho ha hb hp pins s st H Q I (two hs h)
theorem yjh{op:UnaryOp}{r:V->Hp->VK->Prop}{o:D->M D}(ho:UnR X (unaryOp op) r)(hs:yib T r o)(ha:FE T X a fa):FE T X (.UnaryOp op a pos) (eUn o fa):=by
 intro pins s st H Q I h;refine yl6 ho ha pins s st H Q I ?_;obtain⟨μ,ρ,σ,he,hr,hp⟩:=h;exact⟨μ,ρ,σ,he,hr,hp.bind fun x σ1 μ1 v H1 _ e1 r1 p1 q1=>hs _ μ1 H1 σ1 x v Q r1 p1 q1⟩
theorem yhc{E:XK}{d:D}{σ:Sto}{μ:List Addr}{H:Hp}{v:V}{β δ:Type}{R':List Addr->Hp->β->δ->Prop}{k:Bool->M β}{Q:δ->Hp->Prop}(r:Rep T μ H d v)(h:yol T E R' μ H (bnd (tst d) k σ) Q):∃ c,d=.bl c/\v=.bl c/\yol T E R' μ H (k c σ) Q:=by
 cases d with
 |bl c=>rw[Rep]at r;exact⟨c,rfl,r,h⟩
 |_=>exact h.elim
theorem zzy{E:XK}{d:D}{σ:Sto}{μ:List Addr}{H:Hp}{v:V}{Q:Bool->Hp->Prop}(r:Rep T μ H d v)(h:yol T E yh7 μ H (tst d σ) Q):∃ c,v=.bl c/\yol T E yh7 μ H (.ok c σ) Q:=by
 cases d with
 |bl c=>rw[Rep]at r;exact⟨c,r,h⟩
 |_=>exact h.elim
theorem ycy{op:CmpOp}{r:R2}{o:D->D->M D}(ho:OpR X (compareOp op) r)(hs:yia T r o)(ha:FE T X a fa)(hb:FE T X b fb)(hm:behindInMarks op b=false):FT T X (.Compare a [op] [b] pos) (eT (ypu o fa fb)):=by
 intro pins s st H Q I h;refine zxm ho ha hb hm pins s st H Q I ?_;refine two (o:=o) hs ?_;obtain⟨μ,ρ,σ,he,hr,hp⟩:=h;refine⟨μ,ρ,σ,he,hr,hp.bind fun d σ1 μ1 v H1 _ e1 r1 p1 q1=>?_⟩;obtain⟨k,ev,q⟩:=zzy p1 q1;exact⟨k,ev,q.here r1 rfl⟩
theorem yc0{e:Expr}{f:Ev->M D}(h:FE T X e f)(he:∀ whole,isTrue e X.env whole=(do let v <-whole;standAt e.pos;holding [v] (truthy v)):=by intro _;rfl):FT T X e (eT f):=by
 intro pins s st H Q I hw;refine yf8 h he pins s st H Q I ?_;obtain⟨μ,ρ,σ,hE,hr,hp⟩:=hw;refine⟨μ,ρ,σ,hE,hr,hp.bind fun d σ1 μ1 v H1 _ e1 r1 p1 q1=>?_⟩;obtain⟨k,ev,q⟩:=zzy p1 q1;exact⟨k,ev,q.here r1 rfl⟩
theorem ycz(h:FT T X a ta):FT T X (.UnaryOp .Not a pos) (yo9 ta):=by
 intro pins s st H Q I hw;refine yf7 h pins s st H Q I ?_;obtain⟨μ,ρ,σ,hE,hr,hp⟩:=hw;exact⟨μ,ρ,σ,hE,hr,hp.bind fun c σ1 μ1 v H1 _ e1 r1 p1 q1=>by cases p1;exact q1.here r1 rfl⟩
variable{yr1:List Expr}
theorem zuf(h:FT T X a ta):FW T X (.BoolOp .And [a] pos) ta:=zxr h
theorem yc3(h:FT T X a ta):FW T X (.BoolOp .Or [a] pos) ta:=yga h
theorem yc2(h:FT T X a ta)(hb:FW T X (.BoolOp .And (b::yr1) pos) tb):FW T X (.BoolOp .And (a::b::yr1) pos) (yo8 ta tb):=by
 intro wh pins s st H Q I hw;refine yf9 h hb wh pins s st H Q I ?_;obtain⟨μ,ρ,σ,hE,hr,hp⟩:=hw;refine⟨μ,ρ,σ,hE,hr,hp.bind fun c σ1 μ1 v H1 _ e1 r1 p1 q1=>?_⟩;cases p1;cases c with
 |true=>unfold ifK at q1;rw[if_pos rfl]at q1 ⊢;exact⟨μ1,ρ,σ1,hE.mono e1,r1,q1⟩
 |false=>unfold ifK at q1;rw[if_neg Bool.false_ne_true]at q1 ⊢;exact q1.here r1 rfl
theorem yjr(h:FT T X a ta)(hb:FW T X (.BoolOp .Or (b::yr1) pos) tb):FW T X (.BoolOp .Or (a::b::yr1) pos) (bOr ta tb):=by
 intro wh pins s st H Q I hw;refine ymb h hb wh pins s st H Q I ?_;obtain⟨μ,ρ,σ,hE,hr,hp⟩:=hw;refine⟨μ,ρ,σ,hE,hr,hp.bind fun c σ1 μ1 v H1 _ e1 r1 p1 q1=>?_⟩;cases p1;cases c with
 |true=>unfold ifK at q1;rw[if_pos rfl]at q1 ⊢;exact q1.here r1 rfl
 |false=>unfold ifK at q1;rw[if_neg Bool.false_ne_true]at q1 ⊢;exact⟨μ1,ρ,σ1,hE.mono e1,r1,q1⟩
theorem ycb{op}(h:FE T X a fa):FE T X (.BoolOp op [a] pos) fa:=yfq h
theorem yby(h:FE T X a fa)(hb:FE T X (.BoolOp .And (b::yr1) pos) fb):FE T X (.BoolOp .And (a::b::yr1) pos) (yps fa fb):=by
 intro pins s st H Q I hw;refine yfj h hb pins s st H Q I ?_;obtain⟨μ,ρ,σ,hE,hr,hp⟩:=hw;refine⟨μ,ρ,σ,hE,hr,hp.bind fun d σ1 μ1 v H1 _ e1 r1 p1 q1=>?_⟩;obtain⟨c,rfl,ev,q⟩:=yhc p1 q1;refine⟨c,ev,?_⟩;cases c with
 |true=>unfold ifK at q;rw[if_pos rfl]at q ⊢;exact⟨μ1,ρ,σ1,hE.mono e1,r1,q⟩
 |false=>unfold ifK at q;rw[if_neg Bool.false_ne_true]at q ⊢;exact yol.here q r1 (by rw[Rep])
theorem yjg(h:FE T X a fa)(hb:FE T X (.BoolOp .Or (b::yr1) pos) fb):FE T X (.BoolOp .Or (a::b::yr1) pos) (eOr fa fb):=by
 intro pins s st H Q I hw;refine yl5 h hb pins s st H Q I ?_;obtain⟨μ,ρ,σ,hE,hr,hp⟩:=hw;refine⟨μ,ρ,σ,hE,hr,hp.bind fun d σ1 μ1 v H1 _ e1 r1 p1 q1=>?_⟩;obtain⟨c,rfl,ev,q⟩:=yhc p1 q1;refine⟨c,ev,?_⟩;cases c with
 |true=>unfold ifK at q;rw[if_pos rfl]at q ⊢;exact yol.here q r1 (by rw[Rep])
 |false=>unfold ifK at q;rw[if_neg Bool.false_ne_true]at q ⊢;exact⟨μ1,ρ,σ1,hE.mono e1,r1,q⟩
theorem yca(h:FE T X a fa):FE T X (.UnaryOp .Not a pos) (ypz fa):=by
 intro pins s st H Q I hw;refine yfp h pins s st H Q I ?_;obtain⟨μ,ρ,σ,hE,hr,hp⟩:=hw;refine⟨μ,ρ,σ,hE,hr,hp.bind fun d σ1 μ1 v H1 _ e1 r1 p1 q1=>?_⟩;obtain⟨c,rfl,ev,q⟩:=yhc p1 q1;exact⟨c,ev,yol.here q r1 (by rw[Rep])⟩
theorem zmn(hc:FT T X c ta)(ha:FE T X a fa)(hb:FE T X b fb):FE T X (.IfExp c a b pos) (eIf ta fa fb):=by
 intro pins s st H Q I hw;refine zpi hc ha hb pins s st H Q I ?_;obtain⟨μ,ρ,σ,hE,hr,hp⟩:=hw;refine⟨μ,ρ,σ,hE,hr,hp.bind fun d σ1 μ1 v H1 _ e1 r1 p1 q1=>?_⟩;cases p1;cases d with
 |true=>unfold ifK at q1;rw[if_pos rfl]at q1 ⊢;exact⟨μ1,ρ,σ1,hE.mono e1,r1,q1⟩
 |false=>unfold ifK at q1;rw[if_neg Bool.false_ne_true]at q1 ⊢;exact⟨μ1,ρ,σ1,hE.mono e1,r1,q1⟩
variable{e:Expr}{es:List Expr}{fe:Ev->M D}{fs:Ev->M (List D)}
theorem ybw:FA T X [] yo2:=by
 intro pos pins s st H Q I hw;refine yfi pos pins s st H Q I ?_;obtain⟨μ,ρ,σ,hE,hr,hp⟩:=hw;exact yol.here hp hr yot.nil
theorem zs9(ha:FE T X e fe)(hr:FA T X es fs)(hs:starEach (e::es) X.env=(false,eval e X.env)::starEach es X.env:=by rfl):FA T X (e::es) (yie fe fs):=by
 intro pos pins s st H Q I hw;refine zwx ha hr hs pos pins s st H Q I ?_;obtain⟨μ,ρ,σ,hE,hr,hp⟩:=hw;exact⟨μ,ρ,σ,hE,hr,hp.bind fun d σ1 μ1 v H1 _ e1 r1 p1 q1=>⟨μ1,ρ,σ1,hE.mono e1,r1,q1.bind fun ds σ2 μ2 vs H2 _ e2 r2 p2 q2=>yol.here q2 r2 (yot.cons (Rep.mono e2 _ _ p1) p2)⟩⟩
theorem zv3{E:XK}{μ:List Addr}{H:Hp}{σ:Sto}{ds:List D}{vs:List V}{Q:VK}{p:Addr}(h:yol T E (Rep T) μ H (.ok (.tup ds) σ) Q)(r:Rel T μ H σ)(q:yot T μ H ds vs)(hp:H p=none):Q (.ref p) (upd H p (.tup vs)):=
 h μ (.ref p) _ (zs8 hp) (r.fresh hp) (by rw[Rep];exact⟨p,vs,rfl,zre,yot.mono (zs8 hp) _ _ q⟩)
theorem zv2{E:XK}{μ:List Addr}{H:Hp}{σ:Sto}{ds:List D}{vs:List V}{Q:VK}{p:Addr}(h:yol T E (Rep T) μ H (yk6 ds σ) Q)(r:Rel T μ H σ)(q:yot T μ H ds vs)(hp:H p=none):Q (.ref p) (upd H p (.lst vs)):=
 h (μ++[p]) (.ref p) _ (zme hp) (r.push hp ⟨vs,zre,yot.mono (zme hp) _ _ q⟩) (zp5 r)
theorem yce{x1}(h:FA T X es fs):FE T X (.Tuple es x1 pos) (yp1 fs):=by
 intro pins s st H Q I hw;refine yfs h pins s st H Q I ?_;obtain⟨μ,ρ,σ,hE,hr,hp⟩:=hw;refine⟨μ,ρ,σ,hE,hr,hp.bind fun ds σ1 μ1 vs H1 _ e1 r1 p1 q1=>?_⟩;unfold ys7 at q1;by_cases hl:ds.length<=cap
 ·rw[if_pos hl]at q1;exact⟨by rw[<-p1.length];exact yar hl,fun p hp=>zv3 q1 r1 p1 hp⟩
 ·rw[if_neg hl]at q1;exact q1.elim
theorem yb7(h:FA T X es fs):FE T X (.List es pos) (ypx fs):=by
 intro pins s st H Q I hw;refine yfn h pins s st H Q I ?_;obtain⟨μ,ρ,σ,hE,hr,hp⟩:=hw;refine⟨μ,ρ,σ,hE,hr,hp.bind fun ds σ1 μ1 vs H1 _ e1 r1 p1 q1=>?_⟩;unfold yqu at q1;by_cases hl:ds.length<=cap
 ·rw[if_pos hl]at q1;exact⟨by rw[<-p1.length];exact yar hl,fun p hp=>zv2 q1 r1 p1 hp⟩
 ·rw[if_neg hl]at q1;exact q1.elim
theorem yeo{E:XK}{μ:List Addr}{H:Hp}{σ:Sto}{ds:List D}{vs:List V}{Q:VK}{p:Addr}(h:yol T E (Rep T) μ H (.ok (.lst ds) σ) Q)(r:Rel T μ H σ)(q:yot T μ H ds vs)(hp:H p=none):Q (.ref p) (upd H p (.lst vs)):=
 h μ (.ref p) _ (zs8 hp) (r.fresh hp) (by rw[Rep];exact⟨p,vs,rfl,fun hm=>(by obtain⟨u,hu,_⟩:=r.mem hm;rw[hp]at hu;cases hu),zre,yot.mono (zs8 hp) _ _ q⟩)
theorem yje(h:FA T X es fs):FE T X (.List es pos) (eLv fs):=by
 intro pins s st H Q I hw;refine yfn h pins s st H Q I ?_;obtain⟨μ,ρ,σ,hE,hr,hp⟩:=hw;refine⟨μ,ρ,σ,hE,hr,hp.bind fun ds σ1 μ1 vs H1 _ e1 r1 p1 q1=>?_⟩;unfold lvK at q1;by_cases hl:ds.length<=cap
 ·rw[if_pos hl]at q1;exact⟨by rw[<-p1.length];exact yar hl,fun p hp=>yeo q1 r1 p1 hp⟩
 ·rw[if_neg hl]at q1;exact q1.elim
end
def oI(g:Int->Int->Int):D->D->M D
 | .int i,.int j=>ret (.int (g i j))
 |_,_=>bad
def oB(g:Int->Int->Bool):D->D->M D
 | .int i,.int j=>ret (.bl (g i j))
 |_,_=>bad
def oIC(C:Int->Int->Bool)(g:Int->Int->Int):D->D->M D
 | .int i,.int j=>if C i j=true then ret (.int (g i j))else bad
 |_,_=>bad
noncomputable def yph(i j:Int):Bool:=hide ((decide (-(2 ^ 64)<i) && decide (i<2 ^ 64)) || (decide (-(2 ^ 64)<j) && decide (j<2 ^ 64)))
noncomputable def ypf(_ j:Int):Bool:=hide (decide (0<j) && decide (j<1073741824))
noncomputable def ypg(_ j:Int):Bool:=hide (decide (0<j))
noncomputable def ypi(i j:Int):Bool:=hide (decide (0<=j) && decide (j<=1000000) && decide (i.natAbs<2 ^ 64))
noncomputable def ypj(_ j:Int):Bool:=hide (decide (0<=j))
abbrev yrg:=oI (fun i j=>i - j)
noncomputable abbrev yrb:=oIC yph (fun i j=>i * j)
noncomputable abbrev yq4:=oIC ypf (fun i j=>i / j)
noncomputable abbrev yra:=oIC ypg (fun i j=>i % j)
noncomputable abbrev yrd:=oIC ypi (fun i j=>i ^ j.toNat)
noncomputable abbrev yrf:=oIC ypj (fun i j=>i / 2 ^ j.toNat)
abbrev yln:=oI (fun i j=>Builtin.bitAnd i j)
abbrev oLt:=oB (fun i j=>decide (i<j))
abbrev oLe:=oB (fun i j=>decide (i<=j))
abbrev oGt:=oB (fun i j=>decide (j<i))
def yrc:D->M D
 | .int i=>ret (.int (-i))
 |_=>bad
def rD(T:Tb)(o:D->D->M D):R2:=fun v u H Q=>∃ (E:XK) (μ:List Addr) (σ:Sto) (x y:D),Rel T μ H σ/\Rep T μ H x v/\Rep T μ H y u/\yol T E (Rep T) μ H (o x y σ) Q
theorem ysl{T:Tb}{o:D->D->M D}:yia T (rD T o) o:=fun E μ H σ x y v u Q r p q h=>⟨E,μ,σ,x,y,r,p,q,h⟩
section
variable{T:Tb}{X:Cx}
theorem ydl{μ:List Addr}{H:Hp}{i:Int}{v:V}(h:Rep T μ H (.int i) v):v=.int i:=by simpa [Rep]using h
theorem ym9{g:Int->Int->Int}:yia T (rI0 fun i j=>.int (g i j)) (oI g):=by
 intro E μ H σ x y v u Q r p q h;cases x with
 |int i=>
  cases y with
  |int j=>exact⟨i,j,ydl p,ydl q,yol.here h r (by rw[Rep])⟩
  |_=>exact h.elim
 |_=>exact h.elim
theorem ym8{g:Int->Int->Bool}:yia T (rI0 fun i j=>.bl (g i j)) (oB g):=by
 intro E μ H σ x y v u Q r p q h;cases x with
 |int i=>
  cases y with
  |int j=>exact⟨i,j,ydl p,ydl q,yol.here h r (by rw[Rep])⟩
  |_=>exact h.elim
 |_=>exact h.elim
theorem ygs{C:Int->Int->Bool}{C':Int->Int->Prop}{g:Int->Int->Int}(hC:∀ i j,C i j=true->C' i j):yia T (rI C' fun i j=>.int (g i j)) (oIC C g):=by
 intro E μ H σ x y v u Q r p q h;cases x with
 |int i=>
  cases y with
  |int j=>
   by_cases hc:C i j=true
   ·have h':yol T E (Rep T) μ H (ret (.int (g i j)) σ) Q:=by
     have e:oIC C g (.int i) (.int j)=ret (.int (g i j)):=by show (if C i j=true then _ else _)=_;rw[if_pos hc]
     rw[e]at h;exact h
    exact⟨i,j,ydl p,ydl q,hC i j hc,yol.here h' r (by rw[Rep])⟩
   ·have e:oIC C g (.int i) (.int j)=bad:=by show (if C i j=true then _ else _)=_;rw[if_neg hc]
    rw[e]at h;exact h.elim
  |_=>exact h.elim
 |_=>exact h.elim
theorem zze:yia T (rI0 fun i j=>.int (i - j)) yrg:=ym9
theorem zy9:yia T (rI yn6 fun i j=>.int (i * j)) yrb:=ygs fun i j h=>by
 simp only[yph,zur,Bool.or_eq_true,Bool.and_eq_true,decide_eq_true_eq]at h;exact h
theorem zy5:yia T (rI yn5 fun i j=>.int (i / j)) yq4:=ygs fun i j h=>by
 simp only[ypf,zur,Bool.and_eq_true,decide_eq_true_eq]at h;exact h
theorem zy8:yia T (rI (fun _ j=>0<j) fun i j=>.int (i % j)) yra:=ygs fun i j h=>by
 simp only[ypg,zur,decide_eq_true_eq]at h;exact h
theorem zzb:yia T (rI yn7 fun i j=>.int (i ^ j.toNat)) yrd:=ygs fun i j h=>by
 simp only[ypi,zur,Bool.and_eq_true,decide_eq_true_eq]at h;exact⟨h.1.1,h.1.2,h.2⟩
theorem zzc:yia T (rI (fun _ j=>0<=j) fun i j=>.int (i / 2 ^ j.toNat)) yrf:=ygs fun i j h=>by
 simp only[ypj,zur,decide_eq_true_eq]at h;exact h
theorem zqw:yia T (rI0 fun i j=>.int (Builtin.bitAnd i j)) yln:=ym9
theorem ygx:yia T (rI0 fun i j=>.bl (decide (i<j))) oLt:=ym8
theorem ygw:yia T (rI0 fun i j=>.bl (decide (i<=j))) oLe:=ym8
theorem ygt:yia T (rI0 fun i j=>.bl (decide (j<i))) oGt:=ym8
theorem zza:yib T (rU fun i=>.int (-i)) yrc:=by
 intro E μ H σ x v Q r p h;cases x with
 |int i=>exact⟨i,ydl p,yol.here h r (by rw[Rep])⟩
 |_=>exact h.elim
end
def sc:D->Option V
 | .non=>some .non
 | .bl b=>some (.bl b)
 | .int i=>some (.int i)
 | .str x=>some (.str x)
 |_=>none
def ykw(σ:Sto)(n:Nat):Option (List D):=match σ[n]? with
 |some (.lst xs)=>some xs
 |_=>none
theorem zgb{σ:Sto}{n:Nat}{xs:List D}(h:ykw σ n=some xs):σ[n]?=some (.lst xs):=by
 unfold ykw at h;cases e:σ[n]? with
 |none=>rw[e]at h;cases h
 |some o=>rw[e]at h;cases o<;>simp at h;subst h;rfl
inductive Kd where
 |s (v:V)|t (xs:List D)|l (xs:List D)|o
def kd(σ:Sto):D->Kd
 | .non=>.s .non
 | .bl b=>.s (.bl b)
 | .int i=>.s (.int i)
 | .str x=>.s (.str x)
 | .tup xs=>.t xs
 | .lst xs=>.l xs
 | .ref n=>match ykw σ n with
  |some xs=>.l xs
  |none=>.o
 |_=>.o
def eqL(f:D->D->Option Bool):List D->List D->Option Bool
 |[],[]=>some true
 |[],_::_=>some false
 |_::_,[]=>some false
 |x::xs,y::ys=>match f x y,eqL f xs ys with
  |some b,some c=>some (b && c)
  |_,_=>none
def eqK(f:D->D->Option Bool):Kd->Kd->Option Bool
 | .s a,.s b=>some (eqV a b)
 | .t xs,.t ys=>eqL f xs ys
 | .l xs,.l ys=>eqL f xs ys
 | .s _,.t _=>some false
 | .t _,.s _=>some false
 | .s _,.l _=>some false
 | .l _,.s _=>some false
 | .t _,.l _=>some false
 | .l _,.t _=>some false
 |_,_=>none
def eqD(σ:Sto):Nat->D->D->Option Bool
 |0,x,y=>eqK (fun _ _=>none) (kd σ x) (kd σ y)
 |n+1,x,y=>eqK (eqD σ n) (kd σ x) (kd σ y)
def eAt(f:D->D->Option Bool)(xs ys:List D)(j:Nat):Bool:=match xs[j]?,ys[j]? with
 |some a,some b=>(f a b).getD false
 |_,_=>false
theorem zma(f:D->D->Option Bool):∀ (xs ys:List D) (b:Bool),eqL f xs ys=some b->
  (∀ (j:Nat) (a c:D),xs[j]?=some a->ys[j]?=some c->∃ k,f a c=some k)/\b=((List.range (min xs.length ys.length)).all (eAt f xs ys) && xs.length == ys.length)
 |[],[],b,h=>by simp[eqL]at h;subst h;simp
 |[],y::ys,b,h=>by simp[eqL]at h;subst h;simp
 |x::xs,[],b,h=>by simp[eqL]at h;subst h;simp
 |x::xs,y::ys,b,h=>by
  unfold eqL at h;cases e1:f x y with
  |none=>rw[e1]at h;cases h
  |some b1=>
   cases e2:eqL f xs ys with
   |none=>rw[e1,e2]at h;cases h
   |some b2=>
    rw[e1,e2]at h;cases h;obtain⟨h1,h2⟩:=zma f xs ys b2 e2;refine⟨fun j a c ha hc=>?_,?_⟩
    ·cases j with
     |zero=>simp at ha hc;subst ha;subst hc;exact⟨b1,e1⟩
     |succ j=>exact h1 j a c (by simpa using ha) (by simpa using hc)
    ·have e3:min (x::xs).length (y::ys).length=min xs.length ys.length+1:=by simp[Nat.succ_min_succ]
     have e4:∀ j,eAt f (x::xs) (y::ys) (j+1)=eAt f xs ys j:=fun j=>by simp[eAt]
     have e5:eAt f (x::xs) (y::ys) 0=b1:=by simp[eAt,e1]
     rw[e3,List.range_succ_eq_map,List.all_cons,List.all_map,e5,h2];have e6:(eAt f (x::xs) (y::ys) ∘ Nat.succ)=eAt f xs ys:=funext fun j=>e4 j;have e7:((x::xs).length == (y::ys).length)=(xs.length == ys.length):=by simp
     rw[e6,e7,Bool.and_assoc]
section
variable{T:Tb}{μ:List Addr}{H:Hp}{σ:Sto}
theorem Rel.lst(r:Rel T μ H σ){n:Nat}{v:V}{xs:List D}(h:Rep T μ H (.ref n) v)(e:ykw σ n=some xs):∃ a vs,v=.ref a/\μ[n]?=some a/\H a=some (.lst vs)/\yot T μ H xs vs:=by
 obtain⟨a,rfl,h1,vs,h2,h3⟩:=r.at h (zgb e);exact⟨a,vs,rfl,h1,h2,h3⟩
theorem ygn{d:D}{v a:V}(h:Rep T μ H d v)(e:sc d=some a):v=a:=by
 cases d<;>simp[sc]at e<;>subst e<;>simpa [Rep]using h
theorem zyg{d:D}{a:V}(e:sc d=some a):yjj a=true:=by
 cases d<;>simp[sc]at e<;>subst e<;>rfl
theorem zmb{a:V}(h:yjj a=true):eqV a a=true:=by cases a<;>simp[yjj,eqV]at h ⊢
theorem ydr(r:Rel T μ H σ){d:D}{v:V}(h:Rep T μ H d v):match kd σ d with
  | .s a=>v=a/\yjj a=true
  | .t xs=>∃ p vs,v=.ref p/\H p=some (.tup vs)/\yot T μ H xs vs
  | .l xs=>∃ p vs,v=.ref p/\H p=some (.lst vs)/\yot T μ H xs vs
  | .o=>True:=by
 cases d with
 |non=>exact⟨by simpa [Rep]using h,rfl⟩
 |bl b=>exact⟨by simpa [Rep]using h,rfl⟩
 |int b=>exact⟨by simpa [Rep]using h,rfl⟩
 |str b=>exact⟨by simpa [Rep]using h,rfl⟩
 |tup xs=>rw[Rep]at h;exact h
 |lst xs=>rw[Rep]at h;obtain⟨a,vs,h1,_,h2,h3⟩:=h;exact⟨a,vs,h1,h2,h3⟩
 |ref n=>
  unfold kd;dsimp only;cases e:ykw σ n with
  |none=>trivial
  |some xs=>obtain⟨a,vs,h1,_,h2,h3⟩:=r.lst h e;exact⟨a,vs,h1,h2,h3⟩
 |_=>trivial
theorem zl8{f:D->D->Option Bool}(hf:∀ (x y:D) (v:V) (b:Bool),Rep T μ H x v->Rep T μ H y v->f x y=some b->b=true):∀ (xs ys:List D) (vs:List V) (b:Bool),yot T μ H xs vs->yot T μ H ys vs->eqL f xs ys=some b->b=true
 |[],ys,vs,b,r1,r2,h=>by
  rw[yot]at r1;subst r1;cases ys with
  |nil=>simp[eqL]at h;exact h
  |cons y ys=>rw[yot]at r2;obtain⟨_,_,z,_⟩:=r2;cases z
 |x::xs,ys,vs,b,r1,r2,h=>by
  rw[yot]at r1;obtain⟨v,r,rfl,p1,q1⟩:=r1;cases ys with
  |nil=>rw[yot]at r2;cases r2
  |cons y ys=>
   rw[yot]at r2;obtain⟨v',r',z,p2,q2⟩:=r2;cases z;unfold eqL at h;cases e1:f x y with
   |none=>rw[e1]at h;cases h
   |some b1=>
    cases e2:eqL f xs ys with
    |none=>rw[e1,e2]at h;cases h
    |some b2=>
     rw[e1,e2]at h;cases h;rw[hf x y v b1 p1 p2 e1,zl8 hf xs ys r b2 q1 q2 e2];rfl
theorem zl7(r:Rel T μ H σ){f:D->D->Option Bool}(hf:∀ (x y:D) (v:V) (b:Bool),Rep T μ H x v->Rep T μ H y v->f x y=some b->b=true){x y:D}{v:V}{b:Bool}(hx:Rep T μ H x v)(hy:Rep T μ H y v)(h:eqK f (kd σ x) (kd σ y)=some b):b=true:=by
 have kx:=ydr r hx;have ky:=ydr r hy;generalize kd σ x=k1 at h kx;generalize kd σ y=k2 at h ky;cases k1 with
 |s a=>
  obtain⟨rfl,fa⟩:=kx;cases k2 with
  |s c=>obtain⟨rfl,_⟩:=ky;cases h;exact zmb fa
  |t xs=>obtain⟨p,vs,rfl,_⟩:=ky;simp[yjj]at fa
  |l xs=>obtain⟨p,vs,rfl,_⟩:=ky;simp[yjj]at fa
  |o=>cases h
 |t xs=>
  obtain⟨p,vs,rfl,h1,r1⟩:=kx;cases k2 with
  |s c=>obtain⟨e,fa⟩:=ky;rw[<-e]at fa;simp[yjj]at fa
  |t ys=>
   obtain⟨q,ws,e,h2,r2⟩:=ky;cases e;rw[h1]at h2;cases h2;exact zl8 hf xs ys vs b r1 r2 h
  |l ys=>obtain⟨q,ws,e,h2,r2⟩:=ky;cases e;rw[h1]at h2;cases h2
  |o=>cases h
 |l xs=>
  obtain⟨p,vs,rfl,h1,r1⟩:=kx;cases k2 with
  |s c=>obtain⟨e,fa⟩:=ky;rw[<-e]at fa;simp[yjj]at fa
  |t ys=>obtain⟨q,ws,e,h2,r2⟩:=ky;cases e;rw[h1]at h2;cases h2
  |l ys=>
   obtain⟨q,ws,e,h2,r2⟩:=ky;cases e;rw[h1]at h2;cases h2;exact zl8 hf xs ys vs b r1 r2 h
  |o=>cases h
 |o=>cases h
theorem zl6(r:Rel T μ H σ):∀ (n:Nat) (x y:D) (v:V) (b:Bool),Rep T μ H x v->Rep T μ H y v->eqD σ n x y=some b->b=true
 |0,x,y,v,b,hx,hy,h=>zl7 r (fun _ _ _ _ _ _ z=>by cases z) hx hy h
 |n+1,x,y,v,b,hx,hy,h=>zl7 r (fun x y v b a1 a2 a3=>zl6 r n x y v b a1 a2 a3) hx hy h
end
section
variable{T:Tb}{X:Cx}{pins:List (Addr × Obj)}{st:St}{μ:List Addr}{H:Hp}{s:Shared}{σ:Sto}
theorem zfd{A:Around}{a:V}{u:Value}{p:Addr}{its:Array Value}(fa:yjj a=true)(r:yoq a u)(hp:s.heap.IsTuple p its)(hu:A.units<cLine):SeqAt.EqAt A s u (.ref p) false/\SeqAt.EqAt A s (.ref p) u false/\SeqAt.RcAt A s u (.ref p) false/\SeqAt.RcAt A s (.ref p) u false/\SeqAt.RcNeAt A s u (.ref p) true/\SeqAt.RcNeAt A s (.ref p) u true:=by
 cases a with
 |non=>cases r;exact⟨.none_tuple hp hu,.tuple_none hp hu,.none_tuple hp hu,.tuple_none hp hu,.none_tuple hp hu,.tuple_none hp hu⟩
 |bl b=>cases r;exact⟨.bool_tuple b hp hu,.tuple_bool b hp hu,.bool_tuple b hp hu,.tuple_bool b hp hu,.bool_tuple b hp hu,.tuple_bool b hp hu⟩
 |int b=>obtain⟨t,rfl⟩:=r;exact⟨.int_tuple b t hp hu,.tuple_int b t hp hu,.int_tuple b t hp hu,.tuple_int b t hp hu,.int_tuple b t hp hu,.tuple_int b t hp hu⟩
 |str b=>obtain⟨t,rfl⟩:=r;exact⟨.str_tuple b t hp hu,.tuple_str b t hp hu,.str_tuple b t hp hu,.tuple_str b t hp hu,.str_tuple b t hp hu,.tuple_str b t hp hu⟩
 |_=>simp[yjj]at fa
theorem zg7{A:Around}{a:V}{u:Value}{p:Addr}{its:Array Value}(fa:yjj a=true)(r:yoq a u)(hp:s.heap.IsList p its)(hu:A.units<cLine):SeqAt.RcAt A s u (.ref p) false/\SeqAt.RcAt A s (.ref p) u false/\SeqAt.RcNeAt A s u (.ref p) true/\SeqAt.RcNeAt A s (.ref p) u true:=by
 cases a with
 |non=>cases r;exact⟨.none_list hp hu,.list_none hp hu,.none_list hp hu,.list_none hp hu⟩
 |bl b=>cases r;exact⟨.bool_list b hp hu,.list_bool b hp hu,.bool_list b hp hu,.list_bool b hp hu⟩
 |int b=>obtain⟨t,rfl⟩:=r;exact⟨.int_list b t hp hu,.list_int b t hp hu,.int_list b t hp hu,.list_int b t hp hu⟩
 |str b=>obtain⟨t,rfl⟩:=r;exact⟨.str_list b t hp hu,.list_str b t hp hu,.str_list b t hp hu,.list_str b t hp hu⟩
 |_=>simp[yjj]at fa
theorem zd1{A:Around}{a:V}{u:Value}{p:Addr}{its:Array Value}(fa:yjj a=true)(r:yoq a u)(hp:s.heap.IsList p its)(hu:A.units<cLine):SeqAt.EqAt A s u (.ref p) false:=by
 cases a with
 |non=>cases r;exact .none_list hp hu
 |bl b=>cases r;exact .bool_list b hp hu
 |int b=>obtain⟨t,rfl⟩:=r;exact .int_list b t hp hu
 |str b=>obtain⟨t,rfl⟩:=r;exact .str_list b t hp hu
 |_=>simp[yjj]at fa
theorem zc5{A:Around}{a:V}{u:Value}{p:Addr}{its:Array Value}(fa:yjj a=true)(r:yoq a u)(hp:s.heap.IsList p its)(hu:A.units<cLine):SeqAt.EqAt A s (.ref p) u false:=by
 cases a with
 |non=>cases r;exact .list_none hp hu
 |bl b=>cases r;exact .list_bool b hp hu
 |int b=>obtain⟨t,rfl⟩:=r;exact .list_int b t hp hu
 |str b=>obtain⟨t,rfl⟩:=r;exact .list_str b t hp hu
 |_=>simp[yjj]at fa
theorem ymk{A:Around}{a b:V}{u w:Value}(ra:yoq a u)(rb:yoq b w)(fa:yjj a=true)(fb:yjj b=true):SeqAt.RcAt A s u w (eqV a b)/\SeqAt.RcNeAt A s u w (!eqV a b):=by
 cases a with
 |non=>
  cases ra;cases b with
  |non=>cases rb;exact⟨.none_none,.none_none⟩
  |bl y=>cases rb;exact⟨.none_bool y,.none_bool y⟩
  |int y=>obtain⟨t,rfl⟩:=rb;exact⟨.none_int y t,.none_int y t⟩
  |str y=>obtain⟨t,rfl⟩:=rb;exact⟨.none_str y t,.none_str y t⟩
  |_=>simp[yjj]at fb
 |bl x=>
  cases ra;cases b with
  |non=>cases rb;exact⟨.bool_none x,.bool_none x⟩
  |bl y=>cases rb;exact⟨.bool_bool x y,.bool_bool x y⟩
  |int y=>obtain⟨t,rfl⟩:=rb;exact⟨.bool_int x y t,.bool_int x y t⟩
  |str y=>obtain⟨t,rfl⟩:=rb;exact⟨.bool_str x y t,.bool_str x y t⟩
  |_=>simp[yjj]at fb
 |int x=>
  obtain⟨t',rfl⟩:=ra;cases b with
  |non=>cases rb;exact⟨.int_none x t',.int_none x t'⟩
  |bl y=>cases rb;exact⟨.int_bool x t' y,.int_bool x t' y⟩
  |int y=>obtain⟨t,rfl⟩:=rb;exact⟨.int_int x t' y t,.int_int x t' y t⟩
  |str y=>obtain⟨t,rfl⟩:=rb;exact⟨.int_str x t' y t,.int_str x t' y t⟩
  |_=>simp[yjj]at fb
 |str x=>
  obtain⟨t',rfl⟩:=ra;cases b with
  |non=>cases rb;exact⟨.str_none x t',.str_none x t'⟩
  |bl y=>cases rb;exact⟨.str_bool x t' y,.str_bool x t' y⟩
  |int y=>obtain⟨t,rfl⟩:=rb;exact⟨.str_int x t' y t,.str_int x t' y t⟩
  |str y=>obtain⟨t,rfl⟩:=rb;exact⟨.str_str x t' y t,.str_str x t' y t⟩
  |_=>simp[yjj]at fb
 |_=>simp[yjj]at fa
theorem zri{xs:List V}{us:List Value}{i:Nat}{u:Value}(r:yo0 xs us)(h:us[i]?=some u):∃ x,xs[i]?=some x/\yoq x u:=by
 have hl:=r.length;have hi:=(List.getElem?_eq_some_iff.mp h).1;obtain⟨u',h1,h2⟩:=r.get (i:=i) (x:=xs[i]'(by omega)) (by simp);rw[h]at h1;cases h1;exact⟨_,by simp,h2⟩
theorem zp8{ds:List D}{vs:List V}{i:Nat}{v:V}(r:yot T μ H ds vs)(h:vs[i]?=some v):∃ d,ds[i]?=some d/\Rep T μ H d v:=by
 have hl:=r.length;have hi:=(List.getElem?_eq_some_iff.mp h).1;obtain⟨v',h1,h2⟩:=r.get (i:=i) (d:=ds[i]'(by omega)) (by simp);rw[h]at h1;cases h1;exact⟨_,by simp,h2⟩
theorem znv{A:Around}{f:D->D->Option Bool}(hf:∀ (x y:D) (v w:V) (v' w':Value) (b:Bool),Rep T μ H x v->Rep T μ H y w->yoq v v'->yoq w w'->f x y=some b->SeqAt.EqAt A s v' w' b)
  {xs ys:List D} {vs ws:List V} {us zs:List Value} {b:Bool} (r1:yot T μ H xs vs) (r2:yot T μ H ys ws) (q1:yo0 vs us) (q2:yo0 ws zs) (h:eqL f xs ys=some b) :
  (∀ j (h1:j<us.toArray.size) (h2:j<zs.toArray.size),SeqAt.EqAt A s us.toArray[j] zs.toArray[j] (eAt f xs ys j))/\b=((List.range (min us.toArray.size zs.toArray.size)).all (eAt f xs ys) && us.toArray.size == zs.toArray.size):=by
 obtain⟨h1,h2⟩:=zma f xs ys b h;have l1:=r1.length;have l2:=r2.length;have l3:=q1.length;have l4:=q2.length;refine⟨fun j g1 g2=>?_,?_⟩
 ·obtain⟨v,e1,rv⟩:=zri (i:=j) (u:=us.toArray[j]) q1 (by simp);obtain⟨w,e2,rw'⟩:=zri (i:=j) (u:=zs.toArray[j]) q2 (by simp);obtain⟨x,e3,p3⟩:=zp8 r1 e1;obtain⟨y,e4,p4⟩:=zp8 r2 e2;obtain⟨k,ek⟩:=h1 j x y e3 e4;have e5:eAt f xs ys j=k:=by simp[eAt,e3,e4,ek]
  rw[e5];exact hf x y v w _ _ k p3 p4 rv rw' ek
 ·simp only[List.size_toArray];rw[h2,l1,l2,l3,l4]
abbrev yad(A:Around)(s:Shared)(v w:Value)(b:Bool):Prop:=SeqAt.RcAt A s v w b/\SeqAt.RcNeAt A s v w (!b)
theorem rcK{A:Around}(I:Inv X pins st H s)(r:Rel T μ H σ)(hu:A.units+1<cLine){f:D->D->Option Bool}
  (hf:∀ (x y:D) (v w:V) (v' w':Value) (b:Bool),Rep T μ H x v->Rep T μ H y w->yoq v v'->yoq w w'->f x y=some b->SeqAt.EqAt A.in1 s v' w' b)
  {x y:D} {v w:V} {v' w':Value} {b:Bool} (hx:Rep T μ H x v) (hy:Rep T μ H y w) (rv:yoq v v') (rw':yoq w w') (h:eqK f (kd σ x) (kd σ y)=some b):yad A s v' w' b:=by
 have hu0:A.units<cLine:=by omega
 have kx:=ydr r hx;have ky:=ydr r hy;generalize kd σ x=k1 at h kx;generalize kd σ y=k2 at h ky;cases k1 with
 |o=>cases h
 |s a=>
  obtain⟨rfl,fa⟩:=kx;cases k2 with
  |o=>cases h
  |s c=>obtain⟨rfl,fc⟩:=ky;cases h;exact ymk rv rw' fa fc
  |t ys=>
   obtain⟨q,ws,rfl,h2,r2⟩:=ky;cases h;cases rw';obtain⟨its,_,hq,_⟩:=L2.Inv.tuple I (SqT.of (K:=X.K) h2);obtain⟨_,_,a1,a2,a3,a4⟩:=zfd fa rv hq hu0;exact⟨a1,a3⟩
  |l ys=>
   obtain⟨q,ws,rfl,h2,r2⟩:=ky;cases h;cases rw';obtain⟨its,_,pl,_⟩:=L2.Inv.list I (SqL.of (K:=X.K) h2);obtain⟨a1,a2,a3,a4⟩:=zg7 fa rv pl.isList hu0;exact⟨a1,a3⟩
 |t xs=>
  obtain⟨p,vs,rfl,h1,r1⟩:=kx;cases rv;obtain⟨its,q1,hp,_⟩:=L2.Inv.tuple I (SqT.of (K:=X.K) h1);cases k2 with
  |o=>cases h
  |s c=>
   obtain⟨rfl,fc⟩:=ky;cases h;obtain⟨_,_,a1,a2,a3,a4⟩:=zfd fc rw' hp hu0;exact⟨a2,a4⟩
  |t ys=>
   obtain⟨q,ws,rfl,h2,r2⟩:=ky;cases rw';obtain⟨its2,q2,hq,_⟩:=L2.Inv.tuple I (SqT.of (K:=X.K) h2);obtain⟨g1,g2⟩:=znv (A:=A.in1) hf r1 r2 q1 q2 h;rw[g2];exact⟨.tuples hp hq (by omega) g1,.tuples hp hq (by omega) g1⟩
  |l ys=>
   obtain⟨q,ws,rfl,h2,r2⟩:=ky;cases h;cases rw';obtain⟨its2,_,pl,_⟩:=L2.Inv.list I (SqL.of (K:=X.K) h2);exact⟨.tuple_list hp pl.isList hu0,.tuple_list hp pl.isList hu0⟩
 |l xs=>
  obtain⟨p,vs,rfl,h1,r1⟩:=kx;cases rv;obtain⟨its,q1,pl,_⟩:=L2.Inv.list I (SqL.of (K:=X.K) h1);cases k2 with
  |o=>cases h
  |s c=>
   obtain⟨rfl,fc⟩:=ky;cases h;obtain⟨a1,a2,a3,a4⟩:=zg7 fc rw' pl.isList hu0;exact⟨a2,a4⟩
  |t ys=>
   obtain⟨q,ws,rfl,h2,r2⟩:=ky;cases h;cases rw';obtain⟨its2,_,hq,_⟩:=L2.Inv.tuple I (SqT.of (K:=X.K) h2);exact⟨.list_tuple pl.isList hq hu0,.list_tuple pl.isList hq hu0⟩
  |l ys=>
   obtain⟨q,ws,rfl,h2,r2⟩:=ky;cases rw';obtain⟨its2,q2,pl2,_⟩:=L2.Inv.list I (SqL.of (K:=X.K) h2);obtain⟨g1,g2⟩:=znv (A:=A.in1) hf r1 r2 q1 q2 h;by_cases hz:its.toArray.size=its2.toArray.size
   ·have e:b=(List.range its.toArray.size).all (eAt f xs ys):=by rw[g2,<-hz];simp
    rw[e];exact⟨.lists pl.isList pl2.isList hz (by omega) g1,.lists pl.isList pl2.isList hz (by omega) g1⟩
   ·have e:b=false:=by rw[g2,beq_eq_false_iff_ne.mpr hz,Bool.and_false]
    rw[e];exact⟨.lists_lengths pl.isList pl2.isList (by simpa using hz) (by omega),.lists_lengths pl.isList pl2.isList (by simpa using hz) (by omega)⟩
theorem ybs{A:Around}(I:Inv X pins st H s)(r:Rel T μ H σ)(hu:A.units+1<cLine){f:D->D->Option Bool}
  (hf:∀ (x y:D) (v w:V) (v' w':Value) (b:Bool),Rep T μ H x v->Rep T μ H y w->yoq v v'->yoq w w'->f x y=some b->SeqAt.EqAt A.in1 s v' w' b)
  (hs:∀ (x y:D) (v:V) (b:Bool),Rep T μ H x v->Rep T μ H y v->f x y=some b->b=true)
  {x y:D} {v w:V} {v' w':Value} {b:Bool} (hx:Rep T μ H x v) (hy:Rep T μ H y w) (rv:yoq v v') (rw':yoq w w') (h:eqK f (kd σ x) (kd σ y)=some b):SeqAt.EqAt A s v' w' b:=by
 have hu0:A.units<cLine:=by omega
 have rc:=(rcK I r hu hf hx hy rv rw' h).1;by_cases hvw:v=w
 ·subst hvw;have hb:=zl7 r hs hx hy h;have kx:=ydr r hx;have ky:=ydr r hy;generalize kd σ x=k1 at h kx;generalize kd σ y=k2 at h ky;cases k1 with
  |o=>cases h
  |s a=>
   obtain⟨rfl,fa⟩:=kx;cases k2 with
   |o=>cases h
   |s c=>obtain⟨rfl,fc⟩:=ky;cases h;exact ybq rv rw' fa fc
   |t ys=>obtain⟨q,ws,e,_⟩:=ky;rw[e]at fa;simp[yjj]at fa
   |l ys=>obtain⟨q,ws,e,_⟩:=ky;rw[e]at fa;simp[yjj]at fa
  |t xs=>
   obtain⟨p,vs,rfl,_⟩:=kx;cases rv;cases rw';rw[hb];exact SeqAt.EqAt.same _
  |l xs=>
   obtain⟨p,vs,rfl,_⟩:=kx;cases rv;cases rw';rw[hb];exact SeqAt.EqAt.same _
 ·have kx:=ydr r hx;have ky:=ydr r hy;generalize kd σ x=k1 at h kx;generalize kd σ y=k2 at h ky;cases k1 with
  |o=>cases h
  |s a=>
   obtain⟨rfl,fa⟩:=kx;cases k2 with
   |o=>cases h
   |s c=>obtain⟨rfl,fc⟩:=ky;cases h;exact ybq rv rw' fa fc
   |t ys=>
    obtain⟨q,ws,rfl,h2,r2⟩:=ky;cases h;cases rw';obtain⟨its,_,hq,_⟩:=L2.Inv.tuple I (SqT.of (K:=X.K) h2);exact(zfd fa rv hq hu0).1
   |l ys=>
    obtain⟨q,ws,rfl,h2,r2⟩:=ky;cases h;cases rw';obtain⟨its,_,pl,_⟩:=L2.Inv.list I (SqL.of (K:=X.K) h2);exact zd1 fa rv pl.isList hu0
  |t xs=>
   obtain⟨p,vs,rfl,h1,r1⟩:=kx;cases rv;cases k2 with
   |o=>cases h
   |s c=>
    obtain⟨rfl,fc⟩:=ky;cases h;obtain⟨its,_,hp,_⟩:=L2.Inv.tuple I (SqT.of (K:=X.K) h1);exact(zfd fc rw' hp hu0).2.1
   |t ys=>obtain⟨q,ws,rfl,_⟩:=ky;cases rw';exact .of_refs (fun e=>hvw (by rw[e])) rc
   |l ys=>obtain⟨q,ws,rfl,_⟩:=ky;cases rw';exact .of_refs (fun e=>hvw (by rw[e])) rc
  |l xs=>
   obtain⟨p,vs,rfl,h1,r1⟩:=kx;cases rv;cases k2 with
   |o=>cases h
   |s c=>
    obtain⟨rfl,fc⟩:=ky;cases h;obtain⟨its,_,pl,_⟩:=L2.Inv.list I (SqL.of (K:=X.K) h1);exact zc5 fc rw' pl.isList hu0
   |t ys=>obtain⟨q,ws,rfl,_⟩:=ky;cases rw';exact .of_refs (fun e=>hvw (by rw[e])) rc
   |l ys=>obtain⟨q,ws,rfl,_⟩:=ky;cases rw';exact .of_refs (fun e=>hvw (by rw[e])) rc
theorem ybr(I:Inv X pins st H s)(r:Rel T μ H σ):∀ (n:Nat) (A:Around) (x y:D) (v w:V) (v' w':Value) (b:Bool),A.units+n+1<cLine->Rep T μ H x v->Rep T μ H y w->yoq v v'->yoq w w'->eqD σ n x y=some b->SeqAt.EqAt A s v' w' b
 |0,A,x,y,v,w,v',w',b,hu,hx,hy,rv,rw',h=>ybs I r (by omega) (fun _ _ _ _ _ _ _ _ _ _ _ z=>by cases z) (fun _ _ _ _ _ _ z=>by cases z) hx hy rv rw' h
 |n+1,A,x,y,v,w,v',w',b,hu,hx,hy,rv,rw',h=>ybs I r (by omega) (fun x y v w v' w' b a1 a2 a3 a4 a5=>ybr I r n A.in1 x y v w v' w' b (by show A.units+1+n+1<cLine;omega) a1 a2 a3 a4 a5) (fun x y v b a1 a2 a3=>zl6 r n x y v b a1 a2 a3) hx hy rv rw' h
theorem rcD{A:Around}(I:Inv X pins st H s)(r:Rel T μ H σ)(n:Nat)(hu:A.units+n+1<cLine){x y:D}{v w:V}{v' w':Value}{b:Bool}(hx:Rep T μ H x v)(hy:Rep T μ H y w)(rv:yoq v v')(rw':yoq w w')(h:eqD σ n x y=some b):yad A s v' w' b:=by
 cases n with
 |zero=>exact rcK I r (by omega) (fun _ _ _ _ _ _ _ _ _ _ _ z=>by cases z) hx hy rv rw' h
 |succ n=>exact rcK I r (by omega) (fun x y v w v' w' b a1 a2 a3 a4 a5=>ybr I r n A.in1 x y v w v' w' b (by show A.units+1+n+1<cLine;omega) a1 a2 a3 a4 a5) hx hy rv rw' h
end
section
variable{T:Tb}{X:Cx}{pins:List (Addr × Obj)}{st:St}{μ:List Addr}{H:Hp}{s:Shared}{σ:Sto}
def oEq(x y:D):M D:=fun σ=>match eqD σ 8 x y with
 |some b=>.ok (.bl b) σ
 |none=>.bad
def oNe(x y:D):M D:=fun σ=>match eqD σ 8 x y with
 |some b=>.ok (.bl (!b)) σ
 |none=>.bad
theorem yfa(hu:X.A.units+9<cLine):OpR X (compareOp .Eq) (rD T oEq):=by
 intro pins s st H v u v' u' Q I rv ru h;obtain⟨E,μ,σ,x,y,r,hx,hy,hp⟩:=h;unfold oEq at hp;cases e:eqD σ 8 x y with
 |none=>rw[e]at hp;exact hp.elim
 |some b=>
  rw[e]at hp;have:=(rcD I r 8 (by omega) hx hy rv ru e).1 X.prog X.w X.xe (EP X pins st Q) ⟨.bl b,H,I,rfl,yol.here hp r (by rw[Rep])⟩;exact this
theorem yfe(hu:X.A.units+9<cLine):OpR X (compareOp .NotEq) (rD T oNe):=by
 intro pins s st H v u v' u' Q I rv ru h;obtain⟨E,μ,σ,x,y,r,hx,hy,hp⟩:=h;unfold oNe at hp;cases e:eqD σ 8 x y with
 |none=>rw[e]at hp;exact hp.elim
 |some b=>
  rw[e]at hp;have:=(rcD I r 8 (by omega) hx hy rv ru e).2 X.prog X.w X.xe (EP X pins st Q) ⟨.bl (!b),H,I,rfl,yol.here hp r (by rw[Rep])⟩;exact this
def yq7(x y:D):M D:=fun σ=>match y with
 | .non=>(match x with
  | .non=>.ok (.bl true) σ
  |_=>.ok (.bl false) σ)
 |_=>.bad
theorem zv5{x:D}{v:V}(h:Rep T μ H x v):decide (v=.non)=(match x with | .non=>true|_=>false):=by
 cases x with
 |non=>rw[Rep]at h;subst h;rfl
 |tup ds=>rw[Rep]at h;obtain⟨p,_,rfl,_⟩:=h;simp
 |scr ds=>rw[Rep]at h;obtain⟨p,rfl,_⟩:=h;simp
 |ref ds=>rw[Rep]at h;obtain⟨p,rfl,_⟩:=h;simp
 |lst ds=>rw[Rep]at h;obtain⟨p,_,rfl,_⟩:=h;simp
 |dic ks ds=>rw[Rep]at h;obtain⟨p,_,rfl,_⟩:=h;simp
 |obj c ks ds=>rw[Rep]at h;obtain⟨p,_,_,rfl,_⟩:=h;simp
 |exn c=>rw[Rep]at h;obtain⟨p,_,rfl,_⟩:=h;simp
 |gt ds=>rw[Rep]at h;obtain⟨p,rfl,_⟩:=h;simp
 |_=>rw[Rep]at h;subst h;simp
theorem zy6:yia T (fun x y H Q=>y=.non/\Q (.bl (decide (x=.non))) H) yq7:=by
 intro E μ H σ x y v u Q r p q h;cases y with
 |non=>
  refine⟨by rw[Rep]at q;exact q,?_⟩;rw[zv5 p];cases x<;>exact yol.here h r (by rw[Rep])
 |_=>exact h.elim
theorem zr0{ds:List D}{vs:List V}{k:Int}{d:D}(r:yot T μ H ds vs)(h:atI ds k=some d):∃ v,atI vs k=some v/\Rep T μ H d v:=by
 unfold atI at h ⊢;rw[<-r.length];cases e:ixN ds.length k with
 |none=>rw[e]at h;cases h
 |some j=>rw[e]at h;exact r.get h
theorem zkb:∀ (ns:List Int),yot T μ H (ns.map D.int) (ns.map V.int)
 |[]=>yot.nil
 |n::ns=>yot.cons (by rw[Rep]) (zkb ns)
def ymy(σ:Sto):D->Option (List D)
 | .tup xs=>some xs
 | .scr ns=>some (ns.map D.int)
 | .ref n=>ykw σ n
 | .lst xs=>some xs
 | .gt ss=>some (ss.map D.str)
 |_=>none
def oIx(x i:D):M D:=fun σ=>match i with
 | .int k=>(match ymy σ x with
  |some xs=>(match atI xs k with
   |some d=>.ok d σ
   |none=>.bad)
  |none=>.bad)
 |_=>.bad
theorem zkc:∀ (ss:List Str),yot T μ H (ss.map D.str) (ss.map V.str)
 |[]=>yot.nil
 |n::ns=>yot.cons (by rw[Rep]) (zkc ns)
theorem zym(r:Rel T μ H σ){x:D}{v:V}{xs:List D}(h:Rep T μ H x v)(e:ymy σ x=some xs):∃ p vs,v=.ref p/\yot T μ H xs vs/\(SqL T.K H p vs\/SqT T.K H p vs):=by
 cases x with
 |tup ds=>cases e;rw[Rep]at h;obtain⟨p,vs,rfl,h1,h2⟩:=h;exact⟨p,vs,rfl,h2,.inr (SqT.of h1)⟩
 |scr ns=>cases e;rw[Rep]at h;obtain⟨p,rfl,h1⟩:=h;exact⟨p,_,rfl,zkb ns,.inl h1.seq⟩
 |ref n=>obtain⟨a,vs,rfl,_,h1,h2⟩:=r.lst h e;exact⟨a,vs,rfl,h2,.inl (SqL.of h1)⟩
 |lst ds=>cases e;rw[Rep]at h;obtain⟨p,vs,rfl,_,h1,h2⟩:=h;exact⟨p,vs,rfl,h2,.inl (SqL.of h1)⟩
 |gt ss=>cases e;rw[Rep]at h;obtain⟨p,rfl,h1⟩:=h;exact⟨p,_,rfl,zkc ss,.inr (.inr h1)⟩
 |_=>cases e
theorem ygv(hK:T.K=X.K):yia T (fun x y H Q=>yrt X.K x y H Q\/yru X.K x y H Q) oIx:=by
 intro E μ H σ x y v u Q r p q h;cases y with
 |int k=>
  unfold oIx at h;cases e:ymy σ x with
  |none=>simp only[e]at h;exact h.elim
  |some xs=>
   simp only[e]at h;cases e2:atI xs k with
   |none=>rw[e2]at h;exact h.elim
   |some d=>
    rw[e2]at h;obtain⟨a,vs,rfl,h1,h2⟩:=zym r p e;obtain⟨w,h3,h4⟩:=zr0 h1 e2;rw[hK]at h2;rcases h2 with h2|h2
    ·exact .inl ⟨a,vs,k,w,rfl,ydl q,h2,h3,yol.here h r h4⟩
    ·exact .inr ⟨a,vs,k,w,rfl,ydl q,h2,h3,yol.here h r h4⟩
 |_=>exact h.elim
theorem yqn:IxR X (fun x y H Q=>yrt X.K x y H Q\/yru X.K x y H Q):=zu5.or ydp
def isF(d:D):Bool:=(sc d).isSome
def eqF(x y:D):Bool:=match sc x,sc y with
 |some a,some b=>eqV a b
 |_,_=>false
def oIn(neg:Bool)(x y:D):M D:=fun σ=>match ymy σ y with
 |some xs=>if (isF x && xs.all isF)=true then .ok (.bl (if neg then !(xs.any fun z=>eqF z x)else xs.any fun z=>eqF z x)) σ else .bad
 |none=>.bad
theorem zmy:∀ {ds:List D} {vs:List V},yot T μ H ds vs->ds.all isF=true->vs.all yjj=true
 |[],vs,h,_=>by rw[yot]at h;subst h;rfl
 |d::ds,vs,h,e=>by
  rw[yot]at h;obtain⟨v,r,rfl,h1,h2⟩:=h;rw[List.all_cons,Bool.and_eq_true]at e ⊢;obtain⟨a,ea⟩:=Option.isSome_iff_exists.mp e.1;exact⟨by rw[ygn h1 ea];exact zyg ea,zmy h2 e.2⟩
theorem zrt{x:D}{a:V}(ex:sc x=some a):∀ {ds:List D} {vs:List V},yot T μ H ds vs->ds.all isF=true->(ds.any fun z=>eqF z x)=vs.any fun y=>eqV y a
 |[],vs,h,_=>by rw[yot]at h;subst h;rfl
 |d::ds,vs,h,e=>by
  rw[yot]at h;obtain⟨v,r,rfl,h1,h2⟩:=h;rw[List.all_cons,Bool.and_eq_true]at e;obtain⟨c,ec⟩:=Option.isSome_iff_exists.mp e.1;rw[List.any_cons,List.any_cons,zrt ex h2 e.2];have:eqF d x=eqV v a:=by unfold eqF;rw[ec,ex,ygn h1 ec]
  rw[this]
theorem ygu(hK:T.K=X.K)(neg:Bool):yia T (rIn X.K neg) (oIn neg):=by
 intro E μ H σ x y v u Q r p q h;unfold oIn at h;cases e:ymy σ y with
 |none=>rw[e]at h;exact h.elim
 |some xs=>
  rw[e]at h;by_cases hc:(isF x && xs.all isF)=true
  ·simp only[hc,if_true]at h;rw[Bool.and_eq_true]at hc;obtain⟨a,ea⟩:=Option.isSome_iff_exists.mp hc.1;obtain⟨b,vs,rfl,h1,h2⟩:=zym r q e;rw[hK]at h2;refine⟨b,vs,rfl,h2,by rw[ygn p ea];exact zyg ea,zmy h1 hc.2,?_⟩;have e3:inV v vs=xs.any fun z=>eqF z x:=by unfold inV;rw[zrt ea h1 hc.2,ygn p ea]
   rw[e3];exact yol.here h r (by rw[Rep])
  ·simp only[hc]at h;exact h.elim
def yq9(xs:List D):M D:=fun σ=>match xs with
 |[x]=>(match ymy σ x with
  |some ys=>.ok (.int ys.length) σ
  |none=>.bad)
 |_=>.bad
theorem zy7(hK:T.K=X.K):zro T (fun xs H Q=>∃ p ys,xs=[.ref p]/\(SqL X.K H p ys\/SqT X.K H p ys)/\Q (.int ys.length) H) yq9:=by
 intro E μ H σ xs vs Q r p h
 match xs with
 |[]=>exact h.elim
 |[x]=>
  rw[yot]at p;obtain⟨v,w,rfl,p1,p2⟩:=p;rw[yot]at p2;subst p2;unfold yq9 at h;cases e:ymy σ x with
  |none=>simp only[e]at h;exact h.elim
  |some ys=>
   simp only[e]at h;obtain⟨b,vs,rfl,h1,h2⟩:=zym r p1 e;rw[hK]at h2;exact⟨b,vs,rfl,h2,by rw[<-h1.length];exact yol.here h r (by rw[Rep])⟩
 |_::_::_=>exact h.elim
def ylr(xs:List D):M D:=fun σ=>match xs with
 |[x]=>(match ymy σ x with
  |some ys=>yk6 ys σ
  |none=>.bad)
 |_=>.bad
theorem zqy(hK:T.K=X.K):zro T (fun xs H Q=>∃ p ys,xs=[.ref p]/\(SqL X.K H p ys\/SqT X.K H p ys)/\∀ l,H l=none->Q (.ref l) (upd H l (.lst ys))) ylr:=by
 intro E μ H σ xs vs Q r p h
 match xs with
 |[]=>exact h.elim
 |[x]=>
  rw[yot]at p;obtain⟨v,w,rfl,p1,p2⟩:=p;rw[yot]at p2;subst p2;unfold ylr at h;cases e:ymy σ x with
  |none=>simp only[e]at h;exact h.elim
  |some ys=>
   simp only[e]at h;obtain⟨b,vs,rfl,h1,h2⟩:=zym r p1 e;rw[hK]at h2;exact⟨b,vs,rfl,h2,fun l hl=>zv2 h r h1 hl⟩
 |_::_::_=>exact h.elim
def yqm:D->Bool
 | .gt _=>true
 |_=>false
def yez(xs:List D):M D:=fun σ=>match xs with
 |[x]=>(match ymy σ x with
  |some ys=>if yqm x=true then .bad else .ok (.tup ys) σ
  |none=>.bad)
 |_=>.bad
theorem zkp(hK:T.K=X.K):zro T (fun xs H Q=>∃ p ys,xs=[.ref p]/\((SqL X.K H p ys/\∀ l,H l=none->Q (.ref l) (upd H l (.tup ys)))\/(SqT X.K H p ys/\Q (.ref p) H))) yez:=by
 intro E μ H σ xs vs Q r p h
 match xs with
 |[]=>exact h.elim
 |[x]=>
  rw[yot]at p;obtain⟨v,w,rfl,p1,p2⟩:=p;rw[yot]at p2;subst p2;have h:yol T E (Rep T) μ H (match ymy σ x with|some ys=>if yqm x=true then .bad else .ok (.tup ys) σ|none=>.bad) Q:=h;cases e:ymy σ x with
  |none=>simp only[e]at h;exact h.elim
  |some ys=>
   simp only[e]at h;cases x with
   |gt ss=>exact h.elim
   |tup ds=>
    cases e;have p0:=p1;rw[Rep]at p1;obtain⟨b,vs,rfl,h1,h2⟩:=p1;exact⟨b,vs,rfl,.inr ⟨SqT.of h1,yol.here h r p0⟩⟩
   |scr ns=>
    cases e;rw[Rep]at p1;obtain⟨b,rfl,h1⟩:=p1;exact⟨b,_,rfl,.inl ⟨by rw[<-hK];exact h1.seq,fun l hl=>zv3 h r (zkb ns) hl⟩⟩
   |ref n=>
    obtain⟨a,vs,rfl,_,h1,h2⟩:=r.lst p1 e;exact⟨a,vs,rfl,.inl ⟨SqL.of h1,fun l hl=>zv3 h r h2 hl⟩⟩
   |lst ds=>
    cases e;rw[Rep]at p1;obtain⟨b,vs,rfl,_,h1,h2⟩:=p1;exact⟨b,vs,rfl,.inl ⟨SqL.of h1,fun l hl=>zv3 h r h2 hl⟩⟩
   |_=>cases e
 |_::_::_=>exact h.elim
end
def yiy(o:List D->M D)(fs:Ev->M (List D)):Ev->M D:=fun ρ=>bnd (fs ρ) o
section
variable{T:Tb}{X:Cx}{x:Str}{p pos:Pos}{e:Expr}{es:List Expr}{fs:Ev->M (List D)}{id ty:String}{r:List V->Hp->VK->Prop}{o:List D->M D}
theorem yin(hs:zro T r o){st:St}{H:Hp}{Q:VK}(h:tF T X (yiy o fs) st H Q):tCB r (tL T X fs) st H Q:=by
 obtain⟨μ,ρ,σ,he,hr,hp⟩:=h;exact⟨μ,ρ,σ,he,hr,hp.bind fun ds σ1 μ1 vs H1 _ e1 r1 p1 q1=>hs _ μ1 H1 σ1 ds vs Q r1 p1 q1⟩
theorem zmf(hc:yh0 X (.builtin id) r)(hs:zro T r o)(hg:Gl X x)(hm:X.mg x=none)(hv:bootBuiltins x=some (.builtin id))(ha:FA T X (e::es) fs)(hn:x ≠ "__name__":=by decide)(hdb:(x == ("__debug__" : Str))=false:=by decide)
  (he:starEach (e::es) X.env=(false,eval e X.env)::starEach es X.env:=by rfl) (hpl:(backTo pos (starEach es X.env)).any (·.1)=false:=by rfl):FE T X (.Call (.Name x p) (e::es) [] pos) (yiy o fs):=
 fun pins s st H Q I h=>zpe hc hg hm hv ha hn hdb he hpl pins s st H Q I (yin hs h)
theorem zih(hc:yh0 X (.type ty) r)(hs:zro T r o)(hg:Gl X x)(hm:X.mg x=none)(hv:bootBuiltins x=some (.type ty))(ha:FA T X (e::es) fs)(hn:x ≠ "__name__":=by decide)(hdb:(x == ("__debug__" : Str))=false:=by decide)
  (he:starEach (e::es) X.env=(false,eval e X.env)::starEach es X.env:=by rfl) (hpl:(backTo pos (starEach es X.env)).any (·.1)=false:=by rfl):FE T X (.Call (.Name x p) (e::es) [] pos) (yiy o fs):=
 fun pins s st H Q I h=>zjz hc hg hm hv ha hn hdb he hpl pins s st H Q I (yin hs h)
end
def yqt(σ:Sto):D->Option (List D)
 | .ref n=>ykw σ n
 | .lst xs=>some xs
 |_=>none
theorem Rel.ls{T:Tb}{μ:List Addr}{H:Hp}{σ:Sto}(r:Rel T μ H σ){x:D}{v:V}{xs:List D}(h:Rep T μ H x v)(e:yqt σ x=some xs):∃ a vs,v=.ref a/\H a=some (.lst vs)/\yot T μ H xs vs:=by
 cases x with
 |ref n=>obtain⟨a,vs,h1,_,h2,h3⟩:=r.lst h e;exact⟨a,vs,h1,h2,h3⟩
 |lst ys=>cases e;rw[Rep]at h;obtain⟨a,vs,h1,_,h2,h3⟩:=h;exact⟨a,vs,h1,h2,h3⟩
 |_=>cases e
def yk5(o:D->List D->M D)(m:M (List D))(x:D):M D:=fun σ=>match yqt σ x with
 |some _=>bnd m (o x) σ
 |none=>.bad
def yi2(o:D->List D->M D)(f:Ev->M D)(fs:Ev->M (List D)):Ev->M D:=fun ρ=>bnd (f ρ) (yk5 o (fs ρ))
def yh9(T:Tb)(r:V->List V->Hp->VK->Prop)(o:D->List D->M D):Prop:=∀ (E:XK) μ H σ x xs v vs Q,Rel T μ H σ->Rep T μ H x v->yot T μ H xs vs->yol T E (Rep T) μ H (o x xs σ) Q->r v vs H Q
def zv8(x:D)(xs:List D):M D:=fun σ=>match x,xs with
 | .ref n,[y]=>(match ykw σ n with
  |some ys=>if ys.length<cap then .ok .non (σ.set n (.lst (ys++[y])))else .bad
  |none=>.bad)
 |_,_=>.bad
section
variable{T:Tb}{X:Cx}{o e:Expr}{es:List Expr}{f:Ev->M D}{fs:Ev->M (List D)}{name:Str}{apos cpos:Pos}{id:String}{r:V->List V->Hp->VK->Prop}{g:D->List D->M D}
theorem ztg(pa:PlainAttrs "list")(slot:Slot "list" name id)(hty:typeOf (.builtin id)=pure (.type "method_descriptor"))(hm:MtR X id r)(hs:yh9 T r g)(ho:FE T X o f)(ha:FA T X (e::es) fs)
  (hbase:attributeBase o name X.env (eval o X.env)=eval o X.env:=by rfl)
  (hfew:((backTo cpos (starEach (e::es) X.env)).all (fun x=>!x.1) && (backToKw cpos (keywordEach [] X.env)).all (fun x=>x.1.isSome)
   && decide ((e::es).length+([]:List Keyword).length+(if ([]:List Keyword).isEmpty then 0 else 1)<30))=true:=by rfl)
  (hline:(apos.endLine == cpos.line)=true:=by rfl) (hst:starEach (e::es) X.env=(false,eval e X.env)::starEach es X.env:=by rfl) (hplain:(backTo cpos (starEach es X.env)).any (·.1)=false:=by rfl) :
  FE T X (.Call (.Attribute o name apos) (e::es) [] cpos) (yi2 g f fs):=by
 intro pins s st H Q I h;refine yl2 pa slot hty hm ho ha hbase hfew hline hst hplain pins s st H Q I ?_;obtain⟨μ,ρ,σ,he,hr,hp⟩:=h;refine⟨μ,ρ,σ,he,hr,hp.bind fun x σ1 μ1 v H1 _ e1 r1 p1 q1=>?_⟩;unfold yk5 at q1;cases el:yqt σ1 x with
 |none=>rw[el]at q1;exact q1.elim
 |some xs=>
  rw[el]at q1;obtain⟨a,vs,rfl,h1,h2⟩:=r1.ls p1 el;refine⟨.inl ⟨rfl,vs,SqL.of h1⟩,μ1,ρ,σ1,he.mono e1,r1,q1.bind fun ds σ2 μ2 ws H2 _ e2 r2 p2 q2=>?_⟩;exact hs _ μ2 H2 σ2 x ds (.ref a) ws Q r2 (Rep.mono e2 _ _ p1) p2 q2
theorem zha:yh9 T zxu zv8:=by
 intro E μ H σ x xs v vs Q r p q h;cases x with
 |ref n=>
  match xs with
  |[]=>exact h.elim
  |[y]=>
   rw[yot]at q;obtain⟨w,z,rfl,q1,q2⟩:=q;rw[yot]at q2;subst q2;unfold zv8 at h;cases el:ykw σ n with
   |none=>simp only[el]at h;exact h.elim
   |some ys=>
    simp only[el]at h;by_cases hc:ys.length<cap
    ·rw[if_pos hc]at h;obtain⟨a,vs,rfl,hn,h1,h2⟩:=r.lst p el;have wr:=r.write (o:=.lst (vs++[w])) (ob:=.lst (ys++[y])) hn ⟨_,zre,by
      have ex:Ext μ H μ (upd H a (.lst (vs++[w]))):=zif (List.mem_of_getElem? hn) h1 (fun _ z=>by cases z) (fun _ _ z=>by cases z);exact yot.append (yot.mono ex _ _ h2) (yot.cons (Rep.mono ex _ _ q1) yot.nil)⟩
     exact⟨a,vs,w,rfl,rfl,h1,by rw[<-h2.length];exact yas hc,h _ _ _ wr.1 wr.2 (by rw[Rep])⟩
    ·rw[if_neg hc]at h;exact h.elim
  |_::_::_=>exact h.elim
 |_=>exact h.elim
end
inductive BT where
 |int|bool|str|tuple|list|dict
def BT.nm:BT->String
 | .int=>"int" | .bool=>"bool" | .str=>"str" | .tuple=>"tuple" | .list=>"list" | .dict=>"dict"
def yql(σ:Sto)(c:BT):D->Option Bool
 | .non=>some false
 | .bl _=>some (match c with | .int=>true | .bool=>true|_=>false)
 | .int _=>some (match c with | .int=>true|_=>false)
 | .str _=>some (match c with | .str=>true|_=>false)
 | .tup _=>some (match c with | .tuple=>true|_=>false)
 | .scr _=>none
 | .lst _=>some (match c with | .list=>true|_=>false)
 | .dic _ _=>some (match c with | .dict=>true|_=>false)
 | .obj _ _ _=>none
 | .exn _=>none
 | .gt _=>none
 | .ref n=>match σ[n]? with
  |some (.lst _)=>some (match c with | .list=>true|_=>false)
  |some (.dic _)=>some (match c with | .dict=>true|_=>false)
  |_=>none
def yq6(c:BT)(x:D):M D:=fun σ=>match yql σ c x with
 |some b=>.ok (.bl b) σ
 |none=>.bad
section
variable{T:Tb}{X:Cx}
def TyR(K:W.Frag)(H:Hp)(x:V)(t:Value):Prop:=TyOf K H x t\/∃ a kvs,x=.ref a/\Rd H a (.dK kvs)/\t=.type "dict"
def yrr(K:W.Frag)(c:String):List V->Hp->VK->Prop:=fun xs H Q=>∃ x t b,xs=[x,.ty c]/\TyR K H x t/\W.kitOne K t (.type c)=some b/\Q (.bl b) H
theorem zli(c:String):yh0 X (.builtin "isinstance") (yrr X.K c):=by
 intro pins s st H xs us Q I r h;obtain⟨x,t,b,rfl,ty,e,q⟩:=h;obtain⟨u,u2,rfl,ru,ru2⟩:=ynz r;cases ru2;rcases ty with ty|⟨a,kvs,rfl,rd,rfl⟩
 ·exact zi8 I ru ty e fun tk=>⟨.bl b,H,I.tok _,rfl,q⟩
 ·cases (show u=Value.ref a from ru);obtain⟨_,_,vs,_,p⟩:=(show yh5 X.prog X.w H s.heap a (.dK kvs)from rd.ok I.hok)
  obtain⟨o,es,ep,h1,h2,_⟩:=p;exact W.kia_one W.kitx_dict I.kIn ⟨o,h1,h2.1⟩ e (fun z=>nomatch z) fun tk=>⟨.bl b,H,I.tok _,rfl,q⟩
theorem ynq{μ:List Addr}{H:Hp}{σ:Sto}{x:D}{v:V}{c:BT}{b:Bool}(r:Rel T μ H σ)(p:Rep T μ H x v)(h:yql σ c x=some b):∃ t,TyR X.K H v t/\W.kitOne X.K t (.type c.nm)=some b:=by
 cases x with
 |non=>rw[Rep]at p;subst p;refine⟨_,.inl (.non),?_⟩;cases c<;>cases h<;>rfl
 |bl i=>rw[Rep]at p;subst p;refine⟨_,.inl (.bl i),?_⟩;cases c<;>cases h<;>rfl
 |int i=>rw[Rep]at p;subst p;refine⟨_,.inl (.int i),?_⟩;cases c<;>cases h<;>rfl
 |str i=>rw[Rep]at p;subst p;refine⟨_,.inl (.str i),?_⟩;cases c<;>cases h<;>rfl
 |tup ds=>rw[Rep]at p;obtain⟨q,vs,rfl,h1,_⟩:=p;refine⟨_,.inl (.tup h1),?_⟩;cases c<;>cases h<;>rfl
 |scr ns=>cases h
 |lst ds=>rw[Rep]at p;obtain⟨q,vs,rfl,_,h1,_⟩:=p;refine⟨_,.inl (.lst h1),?_⟩;cases c<;>cases h<;>rfl
 |dic ks ds=>rw[Rep]at p;obtain⟨q,vs,rfl,_,h1,_⟩:=p;refine⟨_,.inr ⟨q,_,rfl,h1,rfl⟩,?_⟩;cases c<;>cases h<;>rfl
 |obj c' ks ds=>cases h
 |exn c'=>cases h
 |gt ss=>cases h
 |ref n=>
  unfold yql at h;dsimp only at h;cases e:σ[n]? with
  |none=>rw[e]at h;cases h
  |some o=>
   rw[e]at h;obtain⟨a,rfl,_,h2⟩:=r.at p e;cases o with
   |lst xs=>obtain⟨vs,h3,_⟩:=h2;refine⟨_,.inl (.lst h3),?_⟩;cases c<;>cases h<;>rfl
   |dic xs=>obtain⟨vs,h3,_⟩:=h2;refine⟨_,.inl (.dK h3),?_⟩;cases c<;>cases h<;>rfl
   |ins c' fs=>cases h
   |fdic xs=>cases h
   |tdic _=>cases h
theorem yb4(c:BT){tn:Str}{e:Expr}{f:Ev->M D}{p p2 pos:Pos}(he:FE T X e f)(hg:Gl X "isinstance")(hm:X.mg "isinstance" = none)(hg2:Gl X tn)(hm2:X.mg tn=none)(hv2:bootBuiltins tn=some (.type c.nm))(hn2:tn ≠ "__name__":=by decide)(hd2:(tn == ("__debug__" : Str))=false:=by decide)
  (hs:starEach [e,.Name tn p2] X.env=(false,eval e X.env)::starEach [.Name tn p2] X.env:=by rfl) (hpl:(backTo pos (starEach [.Name tn p2] X.env)).any (·.1)=false:=by rfl) :
  FE T X (.Call (.Name "isinstance" p) [e,.Name tn p2] [] pos) (eUn (yq6 c) f):=by
 intro pins s st H Q I h;refine zpe (zli c.nm) hg hm boot_isinstance (zwx he (zwx (zw1 hg2 hm2 hv2 (v:=.ty c.nm) rfl hn2 hd2) yfi) hs) (by decide) (by decide) hs hpl pins s st H Q I ?_;obtain⟨μ,ρ,σ,hE,hr,hp⟩:=h;refine⟨μ,ρ,σ,hE,hr,hp.bind fun x σ1 μ1 v H1 _ e1 r1 p1 q1=>?_⟩;unfold yq6 at q1;cases eb:yql σ1 c x with
 |none=>rw[eb]at q1;exact q1.elim
 |some b=>
  rw[eb]at q1;obtain⟨t,h1,h2⟩:=ynq (X:=X) r1 p1 eb;exact⟨v,t,b,rfl,h1,h2,yol.here q1 r1 (by rw[Rep])⟩
end
def yr9:Ev->M Fl:=fun ρ=>ret (.nx ρ)
def ysf(h:Ev->M Fl):Fl->M Fl
 | .nx ρ'=>h ρ'
 | .rt d=>ret (.rt d)
 | .bk ρ'=>ret (.bk ρ')
 | .ct ρ'=>ret (.ct ρ')
 | .xc ρ' x=>ret (.xc ρ' x)
def ysc(g h:Ev->M Fl):Ev->M Fl:=fun ρ=>bnd (g ρ) (ysf h)
def yr2:D->M Fl:=fun d=>ret (.rt d)
def ysb(f:Ev->M D):Ev->M Fl:=fun ρ=>xs ρ (f ρ) yr2
def yp4(ρ:Ev):D->M Fl:=fun _=>ret (.nx ρ)
def yr6(f:Ev->M D):Ev->M Fl:=fun ρ=>xs ρ (f ρ) (yp4 ρ)
def ysh(i:Nat)(ρ:Ev):D->M Fl:=fun d=>ret (.nx (ρ.set i (some d)))
def ysd(i:Nat)(f:Ev->M D):Ev->M Fl:=fun ρ=>xs ρ (f ρ) (ysh i ρ)
def sIf(t:Ev->M Bool)(a b:Ev->M Fl):Ev->M Fl:=fun ρ=>xs ρ (t ρ) (ifK (a ρ) (b ρ))
section
variable{T:Tb}{X:Cx}{st':Stmt}{yr1:List Stmt}{g h:Ev->M Fl}{e:Expr}{f:Ev->M D}{pos:Pos}
theorem zud:FSs T X [] yr9:=by
 intro pins s st H D I hw;obtain⟨μ,ρ,σ,hE,hr,hp⟩:=hw;exact zxk pins s st H D I (yol.here (g:=Gl2.nx st) hp hr hE)
theorem zyl{μ:List Addr}{H:Hp}{σ:Sto}{fl:Fl}{gl:Gl2}{D:Ends}{N:St->Hp->Prop}(r:Rel T μ H σ)(q:RFl T μ H fl gl)(k:Fl->M Fl)
  (hn:∀ ρ,fl=.nx ρ->∀ st,gl=.nx st->yn9 T μ H ρ st->N st H) (ho:(∀ ρ,fl≠.nx ρ)->yol T EN (RFl T) μ H (.ok fl σ) (yoa X D)):yoa X { D with nx:=N } gl H:=by
 cases fl with
 |nx ρ=>cases gl with
  |nx st=>exact hn ρ rfl st rfl q
  |_=>exact q.elim
 |rt d=>cases gl with
  |rt v=>have z:=yol.here (g:=Gl2.rt v) (ho fun _ z=>by cases z) r q;exact z
  |_=>exact q.elim
 |bk ρ=>cases gl with
  |bk v=>have z:=yol.here (g:=Gl2.bk v) (ho fun _ z=>by cases z) r q;exact z
  |_=>exact q.elim
 |ct ρ=>cases gl with
  |ct v=>have z:=yol.here (g:=Gl2.ct v) (ho fun _ z=>by cases z) r q;exact z
  |_=>exact q.elim
 |xc ρ x=>cases gl with
  |xc v c fd=>have z:=yol.here (g:=Gl2.xc v c fd) (ho fun _ z=>by cases z) r q;exact z
  |_=>exact q.elim
theorem znf(h1:FS T X st' g)(h2:FSs T X yr1 h):FSs T X (st'::yr1) (ysc g h):=by
 intro pins s st H D I hw;refine zpu h1 h2 pins s st H D I ?_;obtain⟨μ,ρ,σ,hE,hr,hp⟩:=hw;refine⟨μ,ρ,σ,hE,hr,hp.bind fun fl σ1 μ1 gl H1 _ e1 r1 q1 p1=>?_⟩;refine zyl (X:=X) r1 q1 (fun _=>bad) (fun ρ' ef st1 eg he=>?_) (fun hn=>?_)
 ·subst ef;exact⟨μ1,ρ',σ1,he,r1,p1⟩
 ·cases fl with
  |nx ρ'=>exact(hn ρ' rfl).elim
  |_=>exact p1
theorem zue(h1:FS T X st' g):FSs T X [st'] g:=zxl h1
theorem ycv(he:FE T X e f):FS T X (.Return (some e) pos) (ysb f):=by
 intro pins s st H D I hw;refine yf4 he pins s st H D I ?_;obtain⟨μ,ρ,σ,hE,hr,hp⟩:=hw;exact⟨μ,ρ,σ,hE,hr,hp.xs hE fun d σ1 μ1 v H1 _ e1 r1 q1 p1=>yol.here (g:=Gl2.rt v) p1 r1 q1⟩
theorem zt6(he:FE T X e f)(hs:swapsWith e none pos.line X.env=pure false:=by rfl):FS T X (.Expr e pos) (yr6 f):=by
 intro pins s st H D I hw;refine zxj he hs pins s st H D I ?_;obtain⟨μ,ρ,σ,hE,hr,hp⟩:=hw;exact⟨μ,ρ,σ,hE,hr,hp.xs hE fun d σ1 μ1 v H1 _ e1 r1 q1 p1=>yol.here (g:=Gl2.nx st) p1 r1 (hE.mono e1)⟩
theorem ycw{i:Nat}{x:Str}{pos':Pos}(hN:X.N.Nodup)(hi:X.N[i]?=some x)(hx:Loc X.env.scope x)(he:FE T X e f)(hs:swapsWith e (some (.Name x pos')) pos.line X.env=pure false:=by rfl)(hf:X.fn x=true\/X.env.scope.names.lookup x=some .local:=by first|exact .inl rfl|exact .inr rfl|assumption) :
  FS T X (.Assign [.Name x pos'] e pos) (ysd i f):=by
 intro pins s st H D I hw;refine yf5 hN hi hx he hs hf pins s st H D I ?_;obtain⟨μ,ρ,σ,hE,hr,hp⟩:=hw;exact⟨μ,ρ,σ,hE,hr,hp.xs hE fun d σ1 μ1 v H1 _ e1 r1 q1 p1=>yol.here (g:=Gl2.nx (st.set i (some v))) p1 r1 ((hE.mono e1).set i q1)⟩
theorem yjq{c:Expr}{a b:List Stmt}{tc:Ev->M Bool}{ga gb:Ev->M Fl}(hc:FT T X c tc)(ha:FSs T X a ga)(hb:FSs T X b gb):FS T X (.If c a b pos) (sIf tc ga gb):=by
 intro pins s st H D I hw;refine yl7 hc ha hb pins s st H D I ?_;obtain⟨μ,ρ,σ,hE,hr,hp⟩:=hw;refine⟨μ,ρ,σ,hE,hr,hp.xs hE fun c σ1 μ1 v H1 _ e1 r1 q1 p1=>?_⟩;cases q1;cases c with
 |true=>unfold ifK at p1;rw[if_pos rfl]at p1 ⊢;exact⟨μ1,ρ,σ1,hE.mono e1,r1,p1⟩
 |false=>unfold ifK at p1;rw[if_neg Bool.false_ne_true]at p1 ⊢;exact⟨μ1,ρ,σ1,hE.mono e1,r1,p1⟩
def gD(T:Tb)(tg:D->Ev->Option Ev):TG:=fun v st H Q=>∃ μ σ ρ d ρ',yn9 T μ H ρ st/\Rel T μ H σ/\Rep T μ H d v/\tg d ρ=some ρ'/\∀ st',yn9 T μ H ρ' st'->Q st' H
def gsD(T:Tb)(tg:List D->Ev->Option Ev):TGs:=fun vs st H Q=>∃ μ σ ρ ds ρ',yn9 T μ H ρ st/\Rel T μ H σ/\yot T μ H ds vs/\tg ds ρ=some ρ'/\∀ st',yn9 T μ H ρ' st'->Q st' H
abbrev FG(T:Tb)(X:Cx)(t:Expr)(tg:D->Ev->Option Ev):Prop:=PG X t (gD T tg)
abbrev FGs(T:Tb)(X:Cx)(ts:List Expr)(tg:List D->Ev->Option Ev):Prop:=PGs X ts (gsD T tg)
def tgN(i:Nat):D->Ev->Option Ev:=fun d ρ=>some (ρ.set i (some d))
def ynm:List D->Ev->Option Ev
 |[],ρ=>some ρ
 |_::_,_=>none
def yg6(t:D->Ev->Option Ev)(u:List D->Ev->Option Ev):List D->Ev->Option Ev
 |[],_=>none
 |d::ds,ρ=>(t d ρ).bind fun ρ'=>u ds ρ'
def tgT(n:Nat)(t:List D->Ev->Option Ev):D->Ev->Option Ev
 | .tup ds,ρ=>if ds.length=n then t ds ρ else none
 |_,_=>none
theorem ztk{i:Nat}{x:Str}(hN:X.N.Nodup)(hi:X.N[i]?=some x)(hx:Loc X.env.scope x)(hf:X.fn x=true\/X.env.scope.names.lookup x=some .local:=by first|exact .inl rfl|exact .inr rfl|assumption):FG T X (.Name x pos) (tgN i):=by
 intro pins s st H v u Q I r h;obtain⟨μ,σ,ρ,d,ρ',hE,hr,hd,ht,hq⟩:=h;cases ht;exact zw9 hN hi hx hf pins s st H v u Q I r (hq _ (hE.set i hd))
theorem ztl:FGs T X [] ynm:=by
 intro pins s st H vs us Q I r h;obtain⟨μ,σ,ρ,ds,ρ',hE,hr,hd,ht,hq⟩:=h;cases ds with
 |nil=>cases ht;rw[yot]at hd;subst hd;exact zxa pins s st H [] us Q I r ⟨rfl,hq _ hE⟩
 |cons d ds=>cases ht
theorem zms{es:List Expr}{t:D->Ev->Option Ev}{u:List D->Ev->Option Ev}(h1:FG T X e t)(h2:FGs T X es u)
  (hs:(assignEach (e::es) X.env).map (·.2)=assign e X.env::(assignEach es X.env).map (·.2):=by rfl):FGs T X (e::es) (yg6 t u):=by
 intro pins s st H vs us Q I r h;obtain⟨μ,σ,ρ,ds,ρ',hE,hr,hd,ht,hq⟩:=h;cases ds with
 |nil=>cases ht
 |cons d ds=>
  rw[yot]at hd;obtain⟨v,w,rfl,hd1,hd2⟩:=hd;obtain⟨ρ1,e1,e2⟩:=Option.bind_eq_some_iff.mp ht;refine zpk h1 h2 hs pins s st H (v::w) us Q I r ⟨v,w,rfl,μ,σ,ρ,d,ρ1,hE,hr,hd1,e1,fun st1 hE1=>?_⟩;exact⟨μ,σ,ρ1,ds,ρ',hE1,hr,hd2,e2,hq⟩
theorem ycg{es:List Expr}{k:Nat}{t:List D->Ev->Option Ev}{n:Nat}(hc:X.calm=true)(h:FGs T X es t)
  (hn:(assignEach es X.env).length=n:=by rfl) (hst:(assignEach es X.env).findIdx? (·.1)=none:=by rfl):FG T X (.Tuple es k pos) (tgT n t):=by
 intro pins s st H v u Q I r hw;obtain⟨μ,σ,ρ,d,ρ',hE,hr,hd,ht,hq⟩:=hw;cases d with
 |tup ds=>
  have hd0:=hd;rw[Rep]at hd;obtain⟨p,vs,rfl,h1,h2⟩:=hd;unfold tgT at ht;dsimp only at ht;by_cases hl:ds.length=n
  ·rw[if_pos hl]at ht;exact yfv hc h hn hst pins s st H (.ref p) u Q I r ⟨p,vs,rfl,SqT.of h1,by rw[<-h2.length];exact hl,μ,σ,ρ,ds,ρ',hE,hr,h2,ht,hq⟩
  ·rw[if_neg hl]at ht;cases ht
 |_=>cases ht
def ylt(x i d:D):M Unit:=fun σ=>match x,i with
 | .ref n,.int k=>(match ykw σ n with
  |some xs=>(match ixN xs.length k with
   |some j=>.ok () (σ.set n (.lst (xs.set j d)))
   |none=>.bad)
  |none=>.bad)
 |_,_=>.bad
def ym4(ρ:Ev)(d x i:D):M Fl:=fun σ=>match ylt x i d σ with
 | .ok _ σ'=>.ok (.nx ρ) σ'
 |_=>.bad
def ym3(ρ:Ev)(fi:Ev->M D)(d x:D):M Fl:=xs ρ (fi ρ) (ym4 ρ d x)
def ym2(ρ:Ev)(fo fi:Ev->M D)(d:D):M Fl:=xs ρ (fo ρ) (ym3 ρ fi d)
def ymr(f fo fi:Ev->M D):Ev->M Fl:=fun ρ=>xs ρ (f ρ) (ym2 ρ fo fi)
theorem zua{o i:Expr}{fo fi:Ev->M D}{pos':Pos}(he:FE T X e f)(ho:FE T X o fo)(hi:FE T X i fi)
  (ha:∀ v,assign (.Subscript o i pos') X.env v=(do
   let ov <-holding [v] (eval o X.env);let iv <-holding [v,ov] (eval i X.env)
   standAt pos'
   holding [v,ov,iv] (setItem ov iv v)
   release [v,ov,iv] []):=by intro _;rfl)
  (hs:swapsWithSole [.Subscript o i pos'] e pos.line X.env=pure false:=by rfl) (hw:swappedStores [.Subscript o i pos'] e X.env=pure none:=by rfl)
  (h1:(assignEach [.Subscript o i pos'] X.env).map (·.2)=[assign (.Subscript o i pos') X.env]:=by rfl):FS T X (.Assign [.Subscript o i pos'] e pos) (ymr f fo fi):=by
 intro pins s st H D I hq;refine yf0 he (yfu ho hi zqs ha) hs hw h1 pins s st H D I ?_;obtain⟨μ,ρ,σ,hE,hr,hp⟩:=hq;refine⟨μ,ρ,σ,hE,hr,hp.xs hE fun d σ1 μ1 v H1 _ e1 r1 q1 p1=>?_⟩;refine⟨μ1,ρ,σ1,hE.mono e1,r1,p1.xs (hE.mono e1) fun x σ2 μ2 vo H2 _ e2 r2 q2 p2=>?_⟩;refine⟨μ2,ρ,σ2,(hE.mono e1).mono e2,r2,p2.xs ((hE.mono e1).mono e2) fun k σ3 μ3 vi H3 _ e3 r3 q3 p3=>?_⟩;have hd:=Rep.mono e3 _ _ (Rep.mono e2 _ _ q1);have hx:=Rep.mono e3 _ _ q2;unfold ym4 ylt at p3;cases x with
 |ref n=>
  cases k with
  |int k=>
   dsimp only at p3;cases el:ykw σ3 n with
   |none=>rw[el]at p3;exact p3.elim
   |some xs=>
    rw[el]at p3;dsimp only at p3;cases ej:ixN xs.length k with
    |none=>rw[ej]at p3;exact p3.elim
    |some j=>
     rw[ej]at p3;obtain⟨a,vs,rfl,hn,h1,h2⟩:=r3.lst hx el;have wr:=r3.write (o:=.lst (vs.set j v)) (ob:=.lst (xs.set j d)) hn ⟨_,zre,by
      have ex:Ext μ3 H3 μ3 (upd H3 a (.lst (vs.set j v))):=zif (List.mem_of_getElem? hn) h1 (fun _ z=>by cases z) (fun _ _ z=>by cases z);exact yot.set (Rep.mono ex _ _ hd) j (yot.mono ex _ _ h2)⟩
     exact⟨a,vs,k,j,rfl,ydl q3,h1,by rw[<-h2.length];exact ej,p3 _ (.nx st) _ wr.1 wr.2 (((hE.mono e1).mono e2).mono e3 |>.mono wr.1)⟩
  |_=>exact p3.elim
 |_=>exact p3.elim
end
inductive Src where
 |seq (ds:List D)
 |lref (n:Nat)
def Src.nx:Src->Nat->Sto->Option (Option D)
 | .seq ds,i,_=>some ds[i]?
 | .lref n,i,σ=>(ykw σ n).map fun xs=>xs[i]?
def yic(T:Tb)(μ0:List Addr)(H0:Hp)(src:Src)(J:It):Prop:=∀ μ H σ i,Ext μ0 H0 μ H->Rel T μ H σ->match src.nx i σ with
 |none=>True
 |some none=>J.stop i H
 |some (some d)=>J.go i H/\∀ x H',J.yld i H x H'->H'=H/\Rep T μ H d x
def tI(T:Tb)(X:Cx)(f:Ev->M Src):TI:=fun st H R=>∃ μ ρ σ,yn9 T μ H ρ st/\Rel T μ H σ/\yol T (XE X st) (yic T) μ H (f ρ σ) R
abbrev FI(T:Tb)(X:Cx)(tg iter:Expr)(f:Ev->M Src):Prop:=PI X tg iter (tI T X f)
def yge(n:Nat):List D:=(List.range n).map fun(i:Nat)=>D.int (i:Int)
def ymx(d:D):M Src:=fun σ=>match d with
 | .tup ds=>.ok (.seq ds) σ
 | .lst ds=>.ok (.seq ds) σ
 | .scr ns=>.ok (.seq (ns.map D.int)) σ
 | .ref n=>(match ykw σ n with
  |some _=>.ok (.lref n) σ
  |none=>.bad)
 |_=>.bad
def yso(f:Ev->M D):Ev->M Src:=fun ρ=>bnd (f ρ) ymx
noncomputable def zy3(j:Int):Bool:=hide (decide (-(2 ^ 62)<=j) && decide (j<2 ^ 62))
noncomputable def yr4(d:D):M Src:=fun σ=>match d with
 | .int j=>if zy3 j=true then .ok (.seq (yge j.toNat)) σ else .bad
 |_=>.bad
noncomputable def ysn(f:Ev->M D):Ev->M Src:=fun ρ=>bnd (f ρ) yr4
section
variable{T:Tb}{X:Cx}{tg iter:Expr}{f:Ev->M D}
def yqk(K:W.Frag)(tl:TE):TI:=fun σ H R=>tl σ H fun x H1=>∃ a,x=.ref a/\(((∃ xs,SqL K H1 a xs)/\R (Itl K a) H1)\/((∃ xs,SqT K H1 a xs)/\R (Itt K a) H1))
theorem yfw{l:Expr}{tl:TE}(hl:PE X l tl):PI X tg l (yqk X.K tl):=by
 intro pins s σ H R I h;refine thn (hl pins s σ H _ I h) fun v s1 ⟨x,H1,I1,r1,q1⟩=>?_;obtain⟨a,e,q1⟩:=q1;subst e;cases r1;rcases q1 with⟨⟨xs,hq⟩,q⟩|⟨⟨xs,hq⟩,q⟩
 ·obtain⟨its,rv,p,hz⟩:=I1.list hq;refine wpAny_pyIter_list p.isList ?_;refine⟨s1.heap.objs.size,[s1.heap.objs.size],_,_,H1,rfl,I1.kept (t':=s1.toks) fun b o e=>Heap.get?_push_of_some _ e,zkx a _,⟨_,Heap.get?_push_size _ rfl,rfl,rfl⟩,fun b hb=>?_,q⟩;have e:b=s1.heap.objs.size:=by simpa using hb
  subst e;exact I1.fpOk (Nat.le_refl _) (I1.hok.fresh (Nat.le_refl _))
 ·obtain⟨its,rv,p,hz⟩:=I1.tuple hq;refine wpAny_pyIter_tuple (show s1.heap.IsTuple a its.toArray from p) ?_;refine⟨s1.heap.objs.size,[s1.heap.objs.size],_,_,H1,rfl,I1.kept (t':=s1.toks) fun b o e=>Heap.get?_push_of_some _ e,zhg a _,⟨_,Heap.get?_push_size _ rfl,rfl,rfl⟩,fun b hb=>?_,q⟩;have e:b=s1.heap.objs.size:=by simpa using hb
  subst e;exact I1.fpOk (Nat.le_refl _) (I1.hok.fresh (Nat.le_refl _))
theorem zq2{μ1:List Addr}{H1:Hp}{a:Addr}{ds:List D}{K:W.Frag}(h:∀ μ2 H2,Ext μ1 H1 μ2 H2->∃ vs,SqL K H2 a vs/\yot T μ2 H2 ds vs):yic T μ1 H1 (.seq ds) (Itl K a):=by
 intro μ2 H2 σ2 i ex r2;obtain⟨vs,h3,h4⟩:=h μ2 H2 ex;show match some ds[i]? with|none=>True|some none=>_|some (some d)=>_
 cases e:ds[i]? with
 |none=>exact⟨vs,h3,by rw[<-h4.length];exact List.getElem?_eq_none_iff.mp e⟩
 |some d=>
  obtain⟨v,hv1,hv2⟩:=h4.get e;refine⟨⟨vs,v,h3,hv1⟩,fun x H' y=>?_⟩;obtain⟨rfl,y⟩:=y;have:=y vs h3;rw[hv1]at this;cases this;exact⟨rfl,hv2⟩
theorem zzo{μ1:List Addr}{H1:Hp}{a:Addr}{ds:List D}{K:W.Frag}(h:∀ μ2 H2,Ext μ1 H1 μ2 H2->∃ vs,SqT K H2 a vs/\yot T μ2 H2 ds vs):yic T μ1 H1 (.seq ds) (Itt K a):=by
 intro μ2 H2 σ2 i ex r2;obtain⟨vs,h3,h4⟩:=h μ2 H2 ex;show match some ds[i]? with|none=>True|some none=>_|some (some d)=>_
 cases e:ds[i]? with
 |none=>exact⟨vs,h3,by rw[<-h4.length];exact List.getElem?_eq_none_iff.mp e⟩
 |some d=>
  obtain⟨v,hv1,hv2⟩:=h4.get e;refine⟨⟨vs,v,h3,hv1⟩,fun x H' y=>?_⟩;obtain⟨rfl,y⟩:=y;have:=y vs h3;rw[hv1]at this;cases this;exact⟨rfl,hv2⟩
theorem ych(hK:T.K=X.K)(h:FE T X iter f):FI T X tg iter (yso f):=by
 intro pins s st H R I hw;refine yfw h pins s st H R I ?_;obtain⟨μ,ρ,σ,hE,hr,hp⟩:=hw;refine⟨μ,ρ,σ,hE,hr,hp.bind fun d σ1 μ1 v H1 _ e1 r1 q1 p1=>?_⟩;cases d with
 |tup ds=>
  rw[Rep]at q1;obtain⟨p,vs,rfl,h1,h2⟩:=q1;exact⟨p,rfl,.inr ⟨⟨vs,SqT.of h1⟩,yol.here (R:=yic T) p1 r1 (zzo fun μ2 H2 ex=>⟨vs,SqT.of (ex.tup _ _ h1),yot.mono ex _ _ h2⟩)⟩⟩
 |lst ds=>
  rw[Rep]at q1;obtain⟨p,vs,rfl,hn,h1,h2⟩:=q1;exact⟨p,rfl,.inl ⟨⟨vs,SqL.of h1⟩,yol.here (R:=yic T) p1 r1 (zq2 fun μ2 H2 ex=>⟨vs,SqL.of (ex.keepN _ _ h1 hn).1,yot.mono ex _ _ h2⟩)⟩⟩
 |scr ns=>
  rw[Rep]at q1;obtain⟨p,rfl,h1⟩:=q1;have hsc:∀ μ2 H2,Ext μ1 H1 μ2 H2->SqL X.K H2 p (ns.map V.int):=fun μ2 H2 ex=>by
   have h2:Rep T μ2 H2 (.scr ns) (.ref p):=Rep.mono ex _ _ (by rw[Rep];exact⟨p,rfl,h1⟩);rw[Rep]at h2;obtain⟨p',e',h3⟩:=h2;cases e';rw[<-hK];exact h3.seq
  exact⟨p,rfl,.inl ⟨⟨_,hsc _ _ (Ext.refl _ _)⟩,yol.here (R:=yic T) p1 r1 (zq2 fun μ2 H2 ex=>⟨_,hsc μ2 H2 ex,zkb ns⟩)⟩⟩
 |ref n=>
  unfold ymx at p1;dsimp only at p1;cases el0:ykw σ1 n with
  |none=>rw[el0]at p1;exact p1.elim
  |some xs=>
   rw[el0]at p1;obtain⟨a,vs,rfl,_,h1,h2⟩:=r1.lst q1 el0;refine⟨a,rfl,.inl ⟨⟨vs,SqL.of h1⟩,yol.here (R:=yic T) p1 r1 fun μ2 H2 σ2 i ex r2=>?_⟩⟩;show match (ykw σ2 n).map (fun xs=>xs[i]?)with|none=>True|some none=>_|some (some d)=>_
   cases el:ykw σ2 n with
   |none=>trivial
   |some ys=>
    obtain⟨a',ws,ea,_,h3,h4⟩:=r2.lst (Rep.mono ex _ _ q1) el;cases ea;show match some (ys[i]?)with|none=>True|some none=>_|some (some d)=>_
    cases e:ys[i]? with
    |none=>exact⟨ws,SqL.of h3,by rw[<-h4.length];exact List.getElem?_eq_none_iff.mp e⟩
    |some d=>
     obtain⟨v,hv1,hv2⟩:=h4.get e;refine⟨⟨ws,v,SqL.of h3,hv1⟩,fun x H' y=>?_⟩;obtain⟨rfl,y⟩:=y;have:=y ws (SqL.of h3);rw[hv1]at this;cases this;exact⟨rfl,hv2⟩
 |_=>exact p1.elim
theorem zgu{n i:Nat}(h:i<n):(yge n)[i]?=some (.int i):=by simp[yge,h]
theorem zgv(n:Nat):(yge n).length=n:=by simp[yge]
theorem zmt{a:Expr}{p pos:Pos}(hgl:Gl X "range")(hm:X.mg "range" = none)(ha:FE T X a f)(hst:starEach [a] X.env=[(false,eval a X.env)]:=by rfl):FI T X tg (.Call (.Name "range" p) [a] [] pos) (ysn f):=by
 intro pins s st H R I hw;refine zj0 hgl hm (zwx ha yfi hst) hst pins s st H R I ?_;obtain⟨μ,ρ,σ,hE,hr,hp⟩:=hw;refine⟨μ,ρ,σ,hE,hr,hp.bind fun d σ1 μ1 v H1 _ e1 r1 q1 p1=>?_⟩;cases d with
 |int j=>
  rw[Rep]at q1;subst q1;unfold yr4 at p1;dsimp only at p1;by_cases hj:zy3 j=true
  ·rw[if_pos hj]at p1;simp only[zy3,zur,Bool.and_eq_true,decide_eq_true_eq]at hj;refine⟨j,rfl,hj.1,hj.2,yol.here (R:=yic T) p1 r1 fun μ2 H2 σ2 i ex r2=>?_⟩;show match some (yge j.toNat)[i]? with|none=>True|some none=>_|some (some d)=>_
   by_cases hi:i<j.toNat
   ·rw[zgu hi];refine⟨hi,fun x H' y=>?_⟩;obtain⟨rfl,rfl⟩:=y;exact⟨rfl,by rw[Rep,Int.zero_add]⟩
   ·rw[List.getElem?_eq_none_iff.mpr (by rw[zgv];omega)];exact Nat.not_lt.mp hi
  ·rw[if_neg hj]at p1;exact p1.elim
 |_=>exact p1.elim
end
def ykt(k:Ev->M Fl):Fl->M Fl
 | .nx ρ2=>k ρ2
 | .ct ρ2=>k ρ2
 | .bk ρ2=>ret (.nx ρ2)
 | .rt d=>ret (.rt d)
 | .xc ρ x=>ret (.xc ρ x)
def yqs(tg:D->Ev->Option Ev)(body:Ev->M Fl):List D->Ev->M Fl
 |[],ρ=>ret (.nx ρ)
 |d::ds,ρ=>match tg d ρ with
  |none=>bad
  |some ρ1=>bnd (body ρ1) (ykt (yqs tg body ds))
def yku(tg:D->Ev->Option Ev)(body:Ev->M Fl)(n:Nat):Nat->Nat->Ev->M Fl
 |0,_,_=>bad
 |k+1,i,ρ=>fun σ=>match ykw σ n with
  |none=>.bad
  |some xs=>match xs[i]? with
   |none=>.ok (.nx ρ) σ
   |some d=>match tg d ρ with
    |none=>.bad
    |some ρ1=>bnd (body ρ1) (ykt (yku tg body n k (i+1))) σ
def yp8(tg:D->Ev->Option Ev)(body:Ev->M Fl)(ρ:Ev):Src->M Fl
 | .seq ds=>yqs tg body ds ρ
 | .lref n=>yku tg body n 1001 0 ρ
def yr8(src:Ev->M Src)(tg:D->Ev->Option Ev)(body:Ev->M Fl):Ev->M Fl:=fun ρ=>xs ρ (src ρ) (yp8 tg body ρ)
section
variable{T:Tb}{X:Cx}
theorem zrd{μ1:List Addr}{H1:Hp}{σ1:Sto}{fl:Fl}{gl:Gl2}{D:Ends}{k:Ev->M Fl}{N:St->Hp->Prop}(r1:Rel T μ1 H1 σ1)(q1:RFl T μ1 H1 fl gl)(p1:yol T EN (RFl T) μ1 H1 (ykt k fl σ1) (yoa X D))
  (hN:∀ ρ2 st2,yn9 T μ1 H1 ρ2 st2->yol T EN (RFl T) μ1 H1 (k ρ2 σ1) (yoa X D)->N st2 H1):yoa X { D with nx:=N,ct:=N,bk:=D.nx } gl H1:=by
 cases fl with
 |nx ρ2=>cases gl with
  |nx st2=>exact hN ρ2 st2 q1 p1
  |_=>exact q1.elim
 |ct ρ2=>cases gl with
  |ct st2=>exact hN ρ2 st2 q1 p1
  |_=>exact q1.elim
 |bk ρ2=>cases gl with
  |bk st2=>have z:yoa X D (Gl2.nx st2) H1:=yol.here (g:=Gl2.nx st2) (d:=Fl.nx ρ2) p1 r1 q1;exact z
  |_=>exact q1.elim
 |rt d2=>cases gl with
  |rt v2=>have z:yoa X D (Gl2.rt v2) H1:=yol.here (g:=Gl2.rt v2) (d:=Fl.rt d2) p1 r1 q1;exact z
  |_=>exact q1.elim
 |xc ρ2 x=>cases gl with
  |xc st2 c fd2=>have z:yoa X D (Gl2.xc st2 c fd2) H1:=yol.here (g:=Gl2.xc st2 c fd2) (d:=Fl.xc ρ2 x) p1 r1 q1;exact z
  |_=>exact q1.elim
variable{tgt iter:Expr}{body:List Stmt}{src:Ev->M Src}{t:D->Ev->Option Ev}{g:Ev->M Fl}{pos:Pos}
theorem ycu(hp:PassesOwn (model X.prog X.w) X.A X.env X.xe)(hc:X.calm=true)(hi:FI T X tgt iter src)(hg:FG T X tgt t)(hb:FSs T X body g)
  (hs:∀ x,foldedSetIterable iter X.env x=pure x:=by intro _;rfl):FS T X (.For tgt iter body [] pos) (yr8 src t g):=by
 intro pins s st H D I hq;refine yf2 hp hc hi hg hb hs pins s st H D I ?_;obtain⟨μ,ρ,σ,hE,hr,hp⟩:=hq;refine⟨μ,ρ,σ,hE,hr,hp.xs hE fun src σ1 μ1 J H1 _ e1 r1 q1 p1=>?_⟩;cases src with
 |seq ds=>
  have p1':yol T EN (RFl T) μ1 H1 (yqs t g ds ρ σ1) (yoa X D):=p1;refine⟨fun i m st2 H2=>m=ds.length - i/\∃ μ ρ σ,Ext μ1 H1 μ H2/\yn9 T μ H2 ρ st2/\Rel T μ H2 σ/\yol T EN (RFl T) μ H2 (yqs t g (ds.drop i) ρ σ) (yoa X D),⟨ds.length,by simp,μ1,ρ,σ1,Ext.refl _ _,hE.mono e1,r1,by simpa using p1'⟩,?_⟩;rintro i m st2 H2 ⟨rfl,μ2,ρ2,σ2,ex,hE2,r2,p2⟩;have so:=q1 μ2 H2 σ2 i ex r2;have so':match (some ds[i]?:Option (Option L4.D))with|none=>True|some none=>J.stop i H2|some (some d)=>J.go i H2/\∀ x H',J.yld i H2 x H'->H'=H2/\Rep T μ2 H2 d x:=so
  cases ei:ds[i]? with
  |none=>
   rw[ei]at so';rw[List.drop_eq_nil_of_le (List.getElem?_eq_none_iff.mp ei)]at p2;exact .inl ⟨so',yol.here (g:=Gl2.nx st2) p2 r2 hE2⟩
  |some d=>
   rw[ei]at so';obtain⟨hl,ed⟩:=List.getElem?_eq_some_iff.mp ei;have hd:ds.drop i=d::ds.drop (i+1):=by rw[<-ed];exact(List.drop_eq_getElem_cons hl)
   rw[hd]at p2;unfold yqs at p2;refine .inr ⟨so'.1,fun st3 H3=>∃ μ ρ σ,Ext μ1 H1 μ H3/\yn9 T μ H3 ρ st3/\Rel T μ H3 σ/\yol T EN (RFl T) μ H3 (yqs t g (ds.drop (i+1)) ρ σ) (yoa X D),fun st3 H3 h=>⟨ds.length - (i+1),by omega,rfl,h⟩,fun x H3 y=>?_⟩;obtain⟨rfl,hx⟩:=so'.2 x H3 y;cases ht:t d ρ2 with
   |none=>rw[ht]at p2;exact p2.elim
   |some ρ3=>
    rw[ht]at p2;exact⟨μ2,σ2,ρ2,d,ρ3,hE2,r2,hx,ht,fun st3 hE3=>⟨μ2,ρ3,σ2,hE3,r2,p2.bind fun fl σ4 μ4 gl H4 _ e4 r4 q4 p4=>zrd r4 q4 p4 fun ρ5 st5 hE5 p5=>⟨μ4,ρ5,σ4,ex.trans e4,hE5,r4,p5⟩⟩⟩
 |lref n=>
  have p1':yol T EN (RFl T) μ1 H1 (yku t g n 1001 0 ρ σ1) (yoa X D):=p1;refine⟨fun i m st2 H2=>∃ μ ρ σ,Ext μ1 H1 μ H2/\yn9 T μ H2 ρ st2/\Rel T μ H2 σ/\yol T EN (RFl T) μ H2 (yku t g n m i ρ σ) (yoa X D),⟨1001,μ1,ρ,σ1,Ext.refl _ _,hE.mono e1,r1,p1'⟩,?_⟩;rintro i m st2 H2 ⟨μ2,ρ2,σ2,ex,hE2,r2,p2⟩;cases m with
  |zero=>exact p2.elim
  |succ m=>
   unfold yku at p2;have so:=q1 μ2 H2 σ2 i ex r2;have so':match ((ykw σ2 n).map fun xs=>xs[i]?:Option (Option L4.D))with|none=>True|some none=>J.stop i H2|some (some d)=>J.go i H2/\∀ x H',J.yld i H2 x H'->H'=H2/\Rep T μ2 H2 d x:=so
   cases el:ykw σ2 n with
   |none=>simp only[el]at p2;exact p2.elim
   |some xs=>
    simp only[el]at p2 so';cases ei:xs[i]? with
    |none=>
     simp only[ei,Option.map_some]at p2 so';exact .inl ⟨so',yol.here (g:=Gl2.nx st2) p2 r2 hE2⟩
    |some d=>
     simp only[ei,Option.map_some]at p2 so';refine .inr ⟨so'.1,fun st3 H3=>∃ μ ρ σ,Ext μ1 H1 μ H3/\yn9 T μ H3 ρ st3/\Rel T μ H3 σ/\yol T EN (RFl T) μ H3 (yku t g n m (i+1) ρ σ) (yoa X D),fun st3 H3 h=>⟨m,Nat.lt_succ_self _,h⟩,fun x H3 y=>?_⟩;obtain⟨rfl,hx⟩:=so'.2 x H3 y;cases ht:t d ρ2 with
     |none=>simp only[ht]at p2;exact p2.elim
     |some ρ3=>
      simp only[ht]at p2;exact⟨μ2,σ2,ρ2,d,ρ3,hE2,r2,hx,ht,fun st3 hE3=>⟨μ2,ρ3,σ2,hE3,r2,p2.bind fun fl σ4 μ4 gl H4 _ e4 r4 q4 p4=>zrd r4 q4 p4 fun ρ5 st5 hE5 p5=>⟨μ4,ρ5,σ4,ex.trans e4,hE5,r4,p5⟩⟩⟩
end
mutual
def cl:D->Bool
 | .tup xs=>clL xs
 | .lst xs=>clL xs
 | .dic _ xs=>clL xs
 | .obj _ _ xs=>clL xs
 | .ref _=>false
 | .non=>true
 | .bl _=>true
 | .int _=>true
 | .str _=>true
 | .scr _=>true
 | .exn _=>true
 | .gt _=>true
def clL:List D->Bool
 |[]=>true
 |d::ds=>cl d && clL ds
end
def fzL(f:D->Option D):List D->Option (List D)
 |[]=>some []
 |d::ds=>match f d,fzL f ds with
  |some x,some xs=>some (x::xs)
  |_,_=>none
def fz(k:Nat)(σ:Sto):Nat->D->Option D
 |0,d=>if cl d=true then some d else match d with
  | .ref n=>if n<k then some (.ref n)else none
  |_=>none
 |m+1,d=>if cl d=true then some d else match d with
  | .ref n=>if n<k then some (.ref n)else match σ[n]? with
   |some (.lst xs)=>(fzL (fz k σ m) xs).map .lst
   |some (.dic kvs)=>(fzL (fz k σ m) (kvs.map (·.2))).map (.dic (kvs.map (·.1)))
   |some (.ins c fs)=>(fzL (fz k σ m) (fs.map (·.2))).map (.obj c (fs.map (·.1)))
   |some (.fdic _)=>none
   |some (.tdic _)=>none
   |none=>none
  | .tup xs=>(fzL (fz k σ m) xs).map .tup
  | .lst xs=>(fzL (fz k σ m) xs).map .lst
  | .dic ks xs=>(fzL (fz k σ m) xs).map (.dic ks)
  | .obj c ns xs=>(fzL (fz k σ m) xs).map (.obj c ns)
  |_=>none
open Classical in
noncomputable def yp9(σ:Sto):Out D->Out D
 | .ok d σ'=>if σ'.take σ.length=σ then (match fz σ.length σ' 6 d with
  |some d'=>.ok d' σ
  |none=>.bad)else .bad
 | .ex x σ'=>if σ'.take σ.length=σ then .ex x σ else .bad
 | .bad=>.bad
noncomputable def frz(f:M D):M D:=fun σ=>yp9 σ (f σ)
section
variable{T:Tb}{μ μ':List Addr}{H H':Hp}{σ σ':Sto}
mutual
theorem zsg(e:∃ r,μ'=μ++r):∀ (d:D) (v:V),cl d=true->Rep T μ' H d v->Rep T μ H d v
 | .non,v,_,h=>by simpa [Rep]using h
 | .bl b,v,_,h=>by simpa [Rep]using h
 | .int i,v,_,h=>by simpa [Rep]using h
 | .str x,v,_,h=>by simpa [Rep]using h
 | .tup ds,v,c,h=>by
  rw[Rep]at h ⊢;obtain⟨p,vs,h1,h2,h3⟩:=h;exact⟨p,vs,h1,h2,zlq e ds vs (by simpa [cl]using c) h3⟩
 | .scr ns,v,_,h=>by rw[Rep]at h ⊢;exact h
 | .ref n,v,c,h=>by simp[cl]at c
 | .lst ds,v,c,h=>by
  rw[Rep]at h ⊢;obtain⟨a,vs,h1,h2,h3,h4⟩:=h;exact⟨a,vs,h1,fun z=>h2 (by obtain⟨r,rfl⟩:=e;exact List.mem_append_left _ z),h3,zlq e ds vs (by simpa [cl]using c) h4⟩
 | .dic ks ds,v,c,h=>by
  rw[Rep]at h ⊢;obtain⟨a,vs,h1,h2,h3,h5,h4⟩:=h;exact⟨a,vs,h1,fun z=>h2 (by obtain⟨r,rfl⟩:=e;exact List.mem_append_left _ z),h3,h5,zlq e ds _ (by simpa [cl]using c) h4⟩
 | .obj k ns ds,v,c,h=>by
  rw[Rep]at h ⊢;obtain⟨a,dx,vs,h1,h2,h3,h5,h4⟩:=h;exact⟨a,dx,vs,h1,fun z=>h2 (by obtain⟨r,rfl⟩:=e;exact List.mem_append_left _ z),h3,h5,zlq e ds _ (by simpa [cl]using c) h4⟩
 | .exn k,v,_,h=>by
  rw[Rep]at h ⊢;obtain⟨a,dd,h1,h2,h3,h4⟩:=h;exact⟨a,dd,h1,fun z=>h2 (by obtain⟨r,rfl⟩:=e;exact List.mem_append_left _ z),h3,fun n q=>let ⟨dN,q1,q2,q3⟩:=h4 n q;⟨dN,q1,fun z=>q2 (by obtain⟨r,rfl⟩:=e;exact List.mem_append_left _ z),q3⟩⟩
 | .gt ss,v,_,h=>by rw[Rep]at h ⊢;exact h
theorem zlq(e:∃ r,μ'=μ++r):∀ (ds:List D) (vs:List V),clL ds=true->yot T μ' H ds vs->yot T μ H ds vs
 |[],vs,_,h=>by simpa [yot]using h
 |d::ds,vs,c,h=>by
  rw[yot]at h ⊢;obtain⟨v,r,h1,h2,h3⟩:=h;have c':cl d=true/\clL ds=true:=by simpa [clL,Bool.and_eq_true]using c
  exact⟨v,r,h1,zsg e d v c'.1 h2,zlq e ds r c'.2 h3⟩
end
mutual
theorem Rep.down(e:∃ r,μ'=μ++r):∀ (d:D) (v0 v:V),Rep T μ H d v0->Rep T μ' H' d v->Rep T μ H' d v
 | .non,v0,v,_,h=>by simpa [Rep]using h
 | .bl b,v0,v,_,h=>by simpa [Rep]using h
 | .int i,v0,v,_,h=>by simpa [Rep]using h
 | .str x,v0,v,_,h=>by simpa [Rep]using h
 | .tup ds,v0,v,c,h=>by
  rw[Rep]at h c ⊢;obtain⟨p,vs,h1,h2,h3⟩:=h;obtain⟨p0,vs0,_,_,c3⟩:=c;exact⟨p,vs,h1,h2,yot.down e ds vs0 vs c3 h3⟩
 | .scr ns,v0,v,_,h=>by rw[Rep]at h ⊢;exact h
 | .ref n,v0,v,c,h=>by
  rw[Rep]at h c ⊢;obtain⟨a,h1,h2⟩:=h;obtain⟨b,_,c2⟩:=c;refine⟨a,h1,?_⟩;obtain⟨r,rfl⟩:=e;rw[List.getElem?_append_left (List.getElem?_eq_some_iff.mp c2).1]at h2;exact h2
 | .lst ds,v0,v,c,h=>by
  rw[Rep]at h c ⊢;obtain⟨a,vs,h1,h2,h3,h4⟩:=h;obtain⟨_,vs0,_,_,_,c4⟩:=c;exact⟨a,vs,h1,fun z=>h2 (by obtain⟨r,rfl⟩:=e;exact List.mem_append_left _ z),h3,yot.down e ds vs0 vs c4 h4⟩
 | .dic ks ds,v0,v,c,h=>by
  rw[Rep]at h c ⊢;obtain⟨a,vs,h1,h2,h3,h5,h4⟩:=h;obtain⟨_,vs0,_,_,_,_,c4⟩:=c;exact⟨a,vs,h1,fun z=>h2 (by obtain⟨r,rfl⟩:=e;exact List.mem_append_left _ z),h3,h5,yot.down e ds _ _ c4 h4⟩
 | .obj k ns ds,v0,v,c,h=>by
  rw[Rep]at h c ⊢;obtain⟨a,dx,vs,h1,h2,h3,h5,h4⟩:=h;obtain⟨_,_,vs0,_,_,_,_,c4⟩:=c;exact⟨a,dx,vs,h1,fun z=>h2 (by obtain⟨r,rfl⟩:=e;exact List.mem_append_left _ z),h3,h5,yot.down e ds _ _ c4 h4⟩
 | .exn k,v0,v,_,h=>by
  rw[Rep]at h ⊢;obtain⟨a,dd,h1,h2,h3,h4⟩:=h;exact⟨a,dd,h1,fun z=>h2 (by obtain⟨r,rfl⟩:=e;exact List.mem_append_left _ z),h3,fun n q=>let ⟨dN,q1,q2,q3⟩:=h4 n q;⟨dN,q1,fun z=>q2 (by obtain⟨r,rfl⟩:=e;exact List.mem_append_left _ z),q3⟩⟩
 | .gt ss,v0,v,_,h=>by rw[Rep]at h ⊢;exact h
theorem yot.down(e:∃ r,μ'=μ++r):∀ (ds:List D) (vs0 vs:List V),yot T μ H ds vs0->yot T μ' H' ds vs->yot T μ H' ds vs
 |[],vs0,vs,_,h=>by simpa [yot]using h
 |d::ds,vs0,vs,c,h=>by
  rw[yot]at h c ⊢;obtain⟨v,r,h1,h2,h3⟩:=h;obtain⟨v0,r0,_,c2,c3⟩:=c;exact⟨v,r,h1,Rep.down e d v0 v c2 h2,yot.down e ds r0 r c3 h3⟩
end
theorem ze1{α:Type}(e:∃ r,μ'=μ++r):∀ {xs:List (α × D)} {ys zs:List (α × V)},Paired (fun(p:α × D) (q:α × V)=>p.1=q.1/\Rep T μ H p.2 q.2) xs zs->Paired (fun(p:α × D) (q:α × V)=>p.1=q.1/\Rep T μ' H' p.2 q.2) xs ys->Paired (fun(p:α × D) (q:α × V)=>p.1=q.1/\Rep T μ H' p.2 q.2) xs ys
 |_,_,_,.nil,.nil=>.nil
 |_,_,_,.cons a b,.cons c d=>.cons ⟨c.1,Rep.down e _ _ _ a.2 c.2⟩ (ze1 e b d)
theorem ObR.down(e:∃ r,μ'=μ++r){a:Addr}:∀ {o:Ob},ObR T μ H a o->ObR T μ' H' a o->ObR T μ H' a o
 | .lst ds,⟨_,_,c⟩,⟨vs,h,r⟩=>⟨vs,h,yot.down e _ _ _ c r⟩
 | .dic kvs,⟨_,_,c⟩,⟨vs,h,r⟩=>⟨vs,h,ze1 e c r⟩
 | .ins c fs,⟨_,_,_,c'⟩,⟨dx,vs,h,r⟩=>⟨dx,vs,h,ze1 e c' r⟩
 | .fdic kvs,⟨_,_,_,c'⟩,⟨ob,vs,h,r⟩=>⟨ob,vs,h,ze1 e c' r⟩
 | .tdic ks,_,⟨vs,h,r⟩=>⟨vs,h,r⟩
theorem Rel.down(r0:Rel T μ H σ)(r:Rel T μ' H' σ')(e:Ext μ H μ' H')(ht:σ'.take σ.length=σ):Rel T μ H' σ/\Ext μ H μ H':=by
 refine⟨⟨r0.len,r0.nd,fun n o h=>?_,r.tb.sub fun b hb=>by obtain⟨z,rfl⟩:=e.pre;exact List.mem_append_left _ hb⟩,⟨⟨[],by simp⟩,e.tup,e.frz,fun p o h n=>⟨(e.keep p o h n).1,n⟩⟩⟩;obtain⟨a,h1,h2⟩:=r0.obs n o h;have h':σ'[n]?=some o:=by
  have hl:=(List.getElem?_eq_some_iff.mp h).1;rw[<-ht,List.getElem?_take_of_lt hl]at h;exact h
 obtain⟨b,h3,h4⟩:=r.obs n o h';have eb:=e.get h1;rw[h3]at eb;cases eb;exact⟨a,h1,h2.down e.pre h4⟩
theorem zgx{α:Type}:∀ {xs:List (α × D)} {ys:List (α × V)},Paired (fun(p:α × D) (q:α × V)=>p.1=q.1/\Rep T μ H p.2 q.2) xs ys->ys.map (·.1)=xs.map (·.1)/\yot T μ H (xs.map (·.2)) (ys.map (·.2))
 |_,_,.nil=>⟨rfl,yot.nil⟩
 |_,_,.cons a b=>by
  obtain⟨h1,h2⟩:=zgx b;exact⟨by simp[h1,a.1],yot.cons a.2 h2⟩
theorem zug{f:D->Option D}(hf:∀ d d' v,f d=some d'->Rep T μ' H d v->Rep T μ H d' v):∀ (ds ds':List D) (vs:List V),fzL f ds=some ds'->yot T μ' H ds vs->yot T μ H ds' vs
 |[],ds',vs,h,r=>by cases h;simpa [yot]using r
 |d::ds,ds',vs,h,r=>by
  unfold fzL at h;cases e1:f d with
  |none=>rw[e1]at h;cases h
  |some x=>
   cases e2:fzL f ds with
   |none=>rw[e1,e2]at h;cases h
   |some xs=>
    rw[e1,e2]at h;cases h;rw[yot]at r;obtain⟨v,w,rfl,h2,h3⟩:=r;exact yot.cons (hf d x v e1 h2) (zug hf ds xs w e2 h3)
theorem yc6(e:∃ r,μ'=μ++r)(r:Rel T μ' H σ'):∀ (m:Nat) (d d':D) (v:V),fz μ.length σ' m d=some d'->Rep T μ' H d v->Rep T μ H d' v:=by
 have old:∀ n v,n<μ.length->Rep T μ' H (.ref n) v->Rep T μ H (.ref n) v:=fun n v hn h=>by
  rw[Rep]at h ⊢;obtain⟨a,h1,h2⟩:=h;obtain⟨q,rfl⟩:=e;rw[List.getElem?_append_left hn]at h2;exact⟨a,h1,h2⟩
 intro m;induction m with
 |zero=>
  intro d d' v h hr;unfold fz at h;by_cases hc:cl d=true
  ·rw[if_pos hc]at h;cases h;exact zsg e _ _ hc hr
  ·rw[if_neg hc]at h;cases d with
   |ref n=>
    dsimp only at h;by_cases hn:n<μ.length
    ·rw[if_pos hn]at h;cases h;exact old n v hn hr
    ·rw[if_neg hn]at h;cases h
   |_=>cases h
 |succ m ih=>
  intro d d' v h hr;unfold fz at h;by_cases hc:cl d=true
  ·rw[if_pos hc]at h;cases h;exact zsg e _ _ hc hr
  ·rw[if_neg hc]at h;have go:=zug (T:=T) (μ:=μ) (μ':=μ') (H:=H) (f:=fz μ.length σ' m) (fun d d' v a b=>ih d d' v a b);cases d with
   |ref n=>
    dsimp only at h;by_cases hn:n<μ.length
    ·rw[if_pos hn]at h;cases h;exact old n v hn hr
    ·rw[if_neg hn]at h;cases es:σ'[n]? with
     |none=>rw[es]at h;cases h
     |some o=>
      rw[es]at h;obtain⟨a,rfl,ha,hob⟩:=r.at hr es;have out:a ∉ μ:=fun z=>by
       obtain⟨i,hi⟩:=List.getElem?_of_mem z;obtain⟨q,rfl⟩:=e;have hl:=(List.getElem?_eq_some_iff.mp hi).1;have:=zov r.nd (i:=i) (j:=n) (by rw[List.getElem?_append_left hl];exact hi) ha;omega
      cases o with
      |lst xs=>
       obtain⟨ys,h1,h2⟩:=Option.map_eq_some_iff.mp h;subst h2;obtain⟨vs,h3,h4⟩:=hob;rw[Rep];exact⟨a,vs,rfl,out,h3,go xs ys vs h1 h4⟩
      |dic kvs=>
       obtain⟨ys,h1,h2⟩:=Option.map_eq_some_iff.mp h;subst h2;obtain⟨vs,h3,h4⟩:=hob;obtain⟨h5,h6⟩:=zgx h4;rw[Rep];exact⟨a,vs,rfl,out,(.inl h3),h5,go _ ys _ h1 h6⟩
      |ins c fs=>
       obtain⟨ys,h1,h2⟩:=Option.map_eq_some_iff.mp h;subst h2;obtain⟨dx,vs,h3,h4⟩:=hob;obtain⟨h5,h6⟩:=zgx h4;rw[Rep];exact⟨a,dx,vs,rfl,out,h3,h5,go _ ys _ h1 h6⟩
      |fdic kvs=>cases h
      |tdic _=>cases h
   |tup xs=>
    obtain⟨ys,h1,h2⟩:=Option.map_eq_some_iff.mp h;subst h2;rw[Rep]at hr ⊢;obtain⟨p,vs,e1,e2,e3⟩:=hr;exact⟨p,vs,e1,e2,go xs ys vs h1 e3⟩
   |lst xs=>
    obtain⟨ys,h1,h2⟩:=Option.map_eq_some_iff.mp h;subst h2;rw[Rep]at hr ⊢;obtain⟨p,vs,e1,e0,e2,e3⟩:=hr;exact⟨p,vs,e1,fun z=>e0 (by obtain⟨r,rfl⟩:=e;exact List.mem_append_left _ z),e2,go xs ys vs h1 e3⟩
   |dic ks xs=>
    obtain⟨ys,h1,h2⟩:=Option.map_eq_some_iff.mp h;subst h2;rw[Rep]at hr ⊢;obtain⟨p,vs,e1,e0,e2,e4,e3⟩:=hr;exact⟨p,vs,e1,fun z=>e0 (by obtain⟨r,rfl⟩:=e;exact List.mem_append_left _ z),e2,e4,go xs ys _ h1 e3⟩
   |obj c ks xs=>
    obtain⟨ys,h1,h2⟩:=Option.map_eq_some_iff.mp h;subst h2;rw[Rep]at hr ⊢;obtain⟨p,dx,vs,e1,e0,e2,e4,e3⟩:=hr;exact⟨p,dx,vs,e1,fun z=>e0 (by obtain⟨r,rfl⟩:=e;exact List.mem_append_left _ z),e2,e4,go xs ys _ h1 e3⟩
   |_=>cases h
theorem yol.frz{E:XK}{f:M D}{Q:V->Hp->Prop}(r:Rel T μ H σ)(h:yol T E (Rep T) μ H (frz f σ) Q):yol T E (Rep T) μ H (f σ) Q:=by
 unfold L4.frz at h;cases e:f σ with
 |bad=>rw[e]at h;exact h
 |ex x σ1=>
  rw[e]at h;unfold yp9 at h;dsimp only at h;by_cases ht:σ1.take σ.length=σ
  ·rw[if_pos ht]at h;intro μ1 H1 e1 r1;obtain⟨r2,e2⟩:=Rel.down r r1 e1 ht;exact h μ H1 e2 r2
  ·rw[if_neg ht]at h;exact h.elim
 |ok d σ1=>
  rw[e]at h;unfold yp9 at h;dsimp only at h;by_cases ht:σ1.take σ.length=σ
  ·rw[if_pos ht]at h;cases ef:fz σ.length σ1 6 d with
   |none=>rw[ef]at h;exact h.elim
   |some d'=>
    rw[ef]at h;intro μ1 v H1 e1 r1 p1;obtain⟨r2,e2⟩:=Rel.down r r1 e1 ht;exact h μ v H1 e2 r2 (yc6 e1.pre r1 6 d d' v (by rw[r.len];exact ef) p1)
  ·rw[if_neg ht]at h;exact h.elim
end
noncomputable def ypv(f:Ev->M D):Ev->M D:=fun ρ=>frz (f ρ)
theorem yb2{T:Tb}{X:Cx}{e:Expr}{f:Ev->M D}(h:FE T X e f):FE T X e (ypv f):=by
 intro pins s st H Q I hw;obtain⟨μ,ρ,σ,hE,hr,hp⟩:=hw;exact h pins s st H Q I ⟨μ,ρ,σ,hE,hr,yol.frz hr hp⟩
end L4
namespace L4
open PySem PySem.Spec PyProof.Rows L2
def DK(h h':Heap):Prop:=∀ (a:Nat) o,h.objs[a]?=some o->∃ o':Obj,h'.objs[a]?=some o'/\o'.dict=o.dict
theorem DK.refl(h:Heap):DK h h:=fun _ o e=>⟨o,e,rfl⟩
theorem DK.trans{h1 h2 h3:Heap}(x:DK h1 h2)(y:DK h2 h3):DK h1 h3:=fun a o e=>by
 obtain⟨o',e',q⟩:=x a o e;obtain⟨o'',e'',q'⟩:=y a o' e';exact⟨o'',e'',q'.trans q⟩
theorem DK.push(h:Heap)(o:Obj):DK h (h.push o):=fun a u e=>by
 obtain⟨objs,l⟩:=h;have e:objs[a]?=some u:=e;have hl:=(Array.getElem?_eq_some_iff.mp e).1;refine⟨u,?_,rfl⟩;show (objs.push o)[a]?=some u;rw[Array.getElem?_push_lt hl];exact(Array.getElem?_eq_getElem hl).symm.trans e
theorem DK.update(h:Heap)(b:Addr){f:Obj->Obj}(hf:∀ o,(f o).dict=o.dict):DK h (h.update b f):=fun a u e=>by
 obtain⟨objs,l⟩:=h;have e:objs[a]?=some u:=e;show ∃ o':Obj,(objs.modify b f)[a]?=some o'/\_;rw[Array.getElem?_modify];by_cases hb:b=a
 ·rw[if_pos hb,e];exact⟨f u,rfl,hf u⟩
 ·rw[if_neg hb];exact⟨u,e,rfl⟩
theorem DK.get{h h':Heap}(x:DK h h'){a:Addr}{o o':Obj}(e:h.get? a=some o)(e':h'.get? a=some o'):o'.dict=o.dict:=by
 obtain⟨u,q1,q2⟩:=x a o ((Heap.get?_eq_some _ _ _).1 e).1;have:=((Heap.get?_eq_some _ _ _).1 e').1;have z:some u=some o':=q1.symm.trans this;cases z;exact q2
structure KD{α:Type}(t:Sem α):Prop where
 out:∀ (M:Model) (Γ:PySem.Ctx) (Q:α->Pos->Shared->Prop) (E:Value->Pos->Shared->Prop) (p:Pos) (s:Shared),Sem.wp M Γ t Q E p s->Sem.wp M Γ t (fun a p' s'=>Q a p' s'/\DK s.heap s'.heap) (fun e p' s'=>E e p' s'/\DK s.heap s'.heap) p s
namespace KD
variable{α β:Type}
theorem pur(a:α):KD (Pure.pure a:Sem α):=⟨fun _ _ _ _ _ s h=>⟨h,.refl _⟩⟩
theorem uns(w:String):KD (PySem.unsupported w:Sem α):=⟨fun _ _ _ _ _ _ h=>h⟩
theorem bnd{m:Sem α}{f:α->Sem β}(hm:KD m)(hf:∀ a,KD (f a)):KD (m >>= f):=⟨fun M Γ Q E p s h=>by
 rw[Sem.wp_bind']at h ⊢;refine Sem.wp_mono M Γ m (fun a p' s' z=>?_) (fun _ _ _ z=>z) p s (hm.out M Γ _ _ p s h);exact Sem.wp_mono M Γ (f a) (fun _ _ _ q=>⟨q.1,z.2.trans q.2⟩) (fun _ _ _ q=>⟨q.1,z.2.trans q.2⟩) p' s' ((hf a).out M Γ _ _ p' s' z.1)⟩
theorem ite'{c:Prop}[Decidable c]{t u:Sem α}(ht:KD t)(hu:KD u):KD (if c then t else u):=by split<;>assumption
theorem ld(a:Addr):KD (PySem.load a):=⟨fun _ _ _ _ _ _ h=>by obtain⟨o,ho,h⟩:=h;exact⟨o,ho,h,.refl _⟩⟩
theorem upd(a:Addr){f:Obj->Obj}(hf:∀ o,(f o).dict=o.dict):KD (PySem.update a f):=⟨fun _ _ _ _ _ _ h=>⟨h.1,h.2,.update _ _ hf⟩⟩
theorem stk:KD PySem.stack:=⟨fun M Γ Q E p s h=>by
 unfold PySem.stack at h ⊢;rw[Sem.wp_stack]at h ⊢;exact⟨h,.refl _⟩⟩
theorem alc(o:Obj):KD (PySem.alloc o):=⟨fun _ _ _ _ _ _ h=>⟨h,.push _ _⟩⟩
theorem fld(v:Value)(i:Nat):KD (PySem.field v i):=⟨fun _ Γ Q E p s h=>by
 rw[wp_field_iff]at h ⊢;obtain⟨a,o,vs,x,e1,e2,e3,e4,h⟩:=h;exact⟨a,o,vs,x,e1,e2,e3,e4,h,.refl _⟩⟩
theorem set(v:Value)(i:Nat)(x:Value):KD (PySem.setField v i x):=⟨fun _ Γ Q E p s h=>by
 rw[wp_setField_iff]at h ⊢;obtain⟨a,o,vs,e1,e2,e3,e4,h⟩:=h;exact⟨a,o,vs,e1,e2,e3,e4,h,.update _ _ fun o=>by obtain⟨c,d,dt,sl⟩:=o;cases dt<;>rfl⟩⟩
end KD
theorem ydq(env:Env)(l:List Env):KD (behindIsImport env l):=by unfold behindIsImport;(repeat' with_reducible first|assumption|exact KD.pur _|exact KD.uns _|exact KD.fld _ _|exact KD.set _ _ _|exact KD.ld _|exact KD.upd _ (fun _=>rfl)|exact KD.stk|exact KD.alc _|apply KD.ite'|apply KD.bnd|intro _|split)
theorem yds:KD underTheClaimsCaller:=by unfold underTheClaimsCaller;(repeat' with_reducible first|assumption|exact KD.pur _|exact KD.uns _|exact KD.fld _ _|exact KD.set _ _ _|exact KD.ld _|exact KD.upd _ (fun _=>rfl)|exact KD.stk|exact KD.alc _|apply KD.ite'|apply KD.bnd|intro _|split)
theorem zu6(env:Env)(i:Bool)(l:List Env):KD (keptBack env i l):=by
 have:=yds;cases l<;>unfold keptBack<;>(repeat' with_reducible first|assumption|exact KD.pur _|exact KD.uns _|exact KD.fld _ _|exact KD.set _ _ _|exact KD.ld _|exact KD.upd _ (fun _=>rfl)|exact KD.stk|exact KD.alc _|apply KD.ite'|apply KD.bnd|intro _|split)
theorem zn1:∀ l:List Env,KD (readyFrames l)
 |[]=>KD.pur _
 |env::l=>by
  have ih:=zn1 l;have h1:=ydq env l;have h2:=fun i=>zu6 env i l;unfold readyFrames
  (repeat' with_reducible first|assumption|exact KD.pur _|exact KD.uns _|exact KD.fld _ _|exact KD.set _ _ _|exact KD.ld _|exact KD.upd _ (fun _=>rfl)|exact KD.stk|exact KD.alc _|apply KD.ite'|apply KD.bnd|intro _|split)
  all_goals first|exact h2 _|skip
theorem zu8(l:List Env):KD (frameObject l):=by
 cases l with
 |nil=>exact KD.pur _
 |cons env l=>
  have:=zn1 (env::l);unfold frameObject
  (repeat' with_reducible first|assumption|exact KD.pur _|exact KD.uns _|exact KD.fld _ _|exact KD.set _ _ _|exact KD.ld _|exact KD.upd _ (fun _=>rfl)|exact KD.stk|exact KD.alc _|apply KD.ite'|apply KD.bnd|intro _|split)
theorem zu7:KD frameEnvs:=by unfold frameEnvs;(repeat' with_reducible first|assumption|exact KD.pur _|exact KD.uns _|exact KD.fld _ _|exact KD.set _ _ _|exact KD.ld _|exact KD.upd _ (fun _=>rfl)|exact KD.stk|exact KD.alc _|apply KD.ite'|apply KD.bnd|intro _|split)
theorem znz(env:Env):KD (PySem.frameOf env):=by
 have h1:=zu7;have h2:=zu8;unfold PySem.frameOf
 (repeat' with_reducible first|assumption|exact KD.pur _|exact KD.uns _|exact KD.fld _ _|exact KD.set _ _ _|exact KD.ld _|exact KD.upd _ (fun _=>rfl)|exact KD.stk|exact KD.alc _|apply KD.ite'|apply KD.bnd|intro _|split)
 all_goals first|exact h2 _|skip
theorem zn0(f:Addr)(b:Bool):KD (entryPlaceOf f b):=by unfold entryPlaceOf;(repeat' with_reducible first|assumption|exact KD.pur _|exact KD.uns _|exact KD.fld _ _|exact KD.set _ _ _|exact KD.ld _|exact KD.upd _ (fun _=>rfl)|exact KD.stk|exact KD.alc _|apply KD.ite'|apply KD.bnd|intro _|split)
theorem zny(a b c d e:Value)(l:List Value):KD (EntryCells.newEntry a b c d e l):=by
 unfold EntryCells.newEntry newFields newObj newObjAsIs;dsimp only
 (repeat' with_reducible first|assumption|exact KD.pur _|exact KD.uns _|exact KD.fld _ _|exact KD.set _ _ _|exact KD.ld _|exact KD.upd _ (fun _=>rfl)|exact KD.stk|exact KD.alc _|apply KD.ite'|apply KD.bnd|intro _|split)
theorem zu9(e:Value)(env:Env):KD (noteFrame e env):=by
 have h1:=znz env;have h2:=zn0;have h3:=zny;unfold noteFrame
 (repeat' with_reducible first|assumption|exact KD.pur _|exact KD.uns _|exact KD.fld _ _|exact KD.set _ _ _|exact KD.ld _|exact KD.upd _ (fun _=>rfl)|exact KD.stk|exact KD.alc _|apply KD.ite'|apply KD.bnd|intro _|split)
 all_goals first|exact h2 _ _|exact h3 _ _ _ _ _ _|skip
theorem zjb(e:Value)(f:Option Addr):KD (setFlight e f):=by unfold setFlight;(repeat' with_reducible first|assumption|exact KD.pur _|exact KD.uns _|exact KD.fld _ _|exact KD.set _ _ _|exact KD.ld _|exact KD.upd _ (fun _=>rfl)|exact KD.stk|exact KD.alc _|apply KD.ite'|apply KD.bnd|intro _|split)
theorem yn2{α:Type}{M:Model}{A:Around}{t:Sem α}{Q:α->Shared->Prop}{E:Value->Shared->Prop}{s:Shared}(k:KD t)(h:wpAny M A t Q E s):wpAny M A t (fun a s'=>Q a s'/\DK s.heap s'.heap) E s:=
 fun Γ p hΓ=>Sem.wp_mono M Γ t (fun _ _ _ z=>z) (fun _ _ _ z=>z.1) p s (k.out M Γ _ _ p s (h Γ p hΓ))
section
variable{P:Program}{w:World}{H H':Hp}{h h':Heap}{a:Addr}{o:HO}
theorem zeu(x:yh5 P w H h a o):∃ u,h.get? a=some u:=by
 cases o with
 |lst xs=>obtain⟨_,_,_,_,e⟩:=x;exact⟨_,e⟩
 |tup xs=>obtain⟨_,_,_,ob,e,_⟩:=x;exact⟨_,e⟩
 |dK kvs=>obtain⟨_,_,_,_,o,_,_,e,_⟩:=x;exact⟨_,e⟩
 |dT kvs=>obtain⟨_,_,_,_,o,_,_,e,_⟩:=x;exact⟨_,e⟩
 |set S n=>obtain⟨o,_,_,_,e,_⟩:=x;exact⟨_,e⟩
 |ins C dx fs=>obtain⟨_,_,_,e,_⟩:=x;exact⟨_,e⟩
 |own y=>obtain⟨_,e⟩:=x;exact⟨_,e⟩
 |xd fs=>obtain⟨_,⟨_,_,_,e,_⟩,_⟩:=x;exact⟨_,e⟩
 |rng lo hi=>obtain⟨_,_,_,e⟩:=x;exact⟨_,e⟩
 |frz ob u=>obtain⟨e,_⟩:=x;exact⟨_,e⟩
 |tbl ps=>exact⟨_,x⟩
 |met f y=>exact⟨_,x⟩
 |ext φ=>obtain⟨_,⟨_,e⟩,_⟩:=x;exact⟨_,e⟩
theorem ydi(x:HOk P w H h)(k:∀ b o u,H b=some o->h.get? b=some u->h'.get? b=some u):HOk P w H h':=fun b o e=>
 (x b o e).stay (fun c v hc q=>by
  rcases hc with rfl|hc
  ·exact k _ _ _ e q
  ·exact k _ _ _ hc q) (fun _ q=>q) fun _ _ q=>q
end
section
variable{X:Cx}{pins:List (Addr × Obj)}{st:St}{H H':Hp}{s s':Shared}{cls:Value}{h':Heap}{ea:Addr}{args:List Value}{M:Model}{E:Value->Shared->Prop}{Q:Unit->Shared->Prop}
theorem zts{B:Heap}{l:List Env}{a0:Value}{h:Heap}(x:Heap.FlyingW B l ea cls a0 h):yob B l ea cls a0 h:=⟨x.1,x.2.1,x.2.2.1,.inl ⟨.none,x.2.2.2.at⟩⟩
theorem yob.there{B:Heap}{l:List Env}{a0:Value}{h:Heap}(x:yob B l ea cls a0 h):∃ ob,h.get? ea=some ob/\ob.cls=cls:=by
 obtain⟨_,_,_,⟨fl,q⟩|⟨oe,vs,q1,q2,_⟩⟩:=x
 ·exact q.there
 ·exact⟨oe,q1,q2⟩
theorem yob.flds{B:Heap}{l:List Env}{a0:Value}{h:Heap}{o:Obj}(x:yob B l ea cls a0 h)(ho:h.get? ea=some o):∃ vs,o.data=.fields vs:=by
 obtain⟨_,_,_,⟨fl,oe,vs,T,oT,ts,he,hcls,hd,_⟩|⟨oe,vs,q1,q2,q3,_⟩⟩:=x
 ·cases he.symm.trans ho;exact⟨vs,hd⟩
 ·cases q1.symm.trans ho;exact⟨vs,q3⟩
theorem FdH.next{fd:Option Nat}{B h h' h0:Heap}{H':Hp}(x:FdH fd ea B h h0 H')(k:DK h h')(e:∃ o,h'.get? ea=some o):FdH fd ea B h' h0 H':=fun n q=>by
 obtain⟨dN,oD,oe,q1,q2,q3⟩:=x n q;obtain⟨o,e⟩:=e;exact⟨dN,oD,o,e,(k.get q1 e).trans q2,q3⟩
theorem zvf{A:Around}{B:Heap}{l:List Env}{a0:Value}(x:yob B l ea cls a0 s.heap)(hQ:∀ h1,yob B l ea cls a0 h1->s.heap.UpToSlots h1->DK s.heap h1->Q () { s with heap:=h1 }):wpAny M A (setFlight (.ref ea) none) Q E s:=by
 obtain⟨f1,f2,f3,⟨fl,f4⟩|f4⟩:=x
 ·have k:wpAny M A (setFlight (.ref ea) none) (fun _ s'=>∃ h1,s'={ s with heap:=h1 }/\yob B l ea cls a0 h1/\s.heap.UpToSlots h1) E s:=
   wpAny_setFlight_noneW f1 f3 f4 fun h1 k1 k2 k3 k4=>⟨h1,rfl,zts ⟨k1,f2,k2,k3⟩,fun b o e n=>⟨o.slots,k4 b o e n⟩⟩
  exact wpAny_mono (yn2 (zjb _ _) k) (fun _ _ ⟨⟨h1,e,q1,q2⟩,q3⟩=>by subst e;exact hQ h1 q1 q2 q3) fun _ _ z=>z
 ·obtain⟨oe,vs,he,hc,hd,hz,h0,h1⟩:=id f4;unfold setFlight;refine wpAny_bind (wpAny_field he hd h1 ?_);rw[if_neg (show ¬ ((Value.none != Value.none)=true)from by decide)];exact wpAny_pure (hQ s.heap ⟨f1,f2,f3,.inr f4⟩ (.refl _) (.refl _))
theorem zvm{A:Around}{B:Heap}{env:Env}{outer:List Env}{L:Addr}{a0:Value}(hfr:A.frames=some (env::outer))(hf:env.frame=some L)(x:yob B (env::outer) ea cls a0 s.heap)
  (hQ:∀ h1,Heap.HeldW B (env::outer) ea cls a0 L h1->s.heap.UpToSlots h1->Q () { s with heap:=h1 }):wpAny M A (noteFrame (.ref ea) env) Q E s:=by
 obtain⟨f1,f2,f3,⟨fl,f4⟩|f4⟩:=x
 ·by_cases hm:fl=rawInt L
  ·subst hm;exact wpAny_noteFrame_againW hf f4 (hQ s.heap ⟨f1,f2,f3,f4⟩ (.refl _))
  ·obtain⟨oe,vs,T,oT,ts,he,hc,hd,h1,hnT,hTe,hT,hdT,h3⟩:=f4;have sz:3<ts.size:=(Array.getElem?_eq_some_iff.mp h3).1;have oth:∀ b,b≠T->(s.heap.update T (Obj.mapFields (·.setIfInBounds 3 Value.none))).get? b=s.heap.get? b:=fun b hb=>Heap.get?_update_other _ _ (Ne.symm hb);have nr:∀ b o,s.heap.get? b=some o->(∀ v,o.data≠.fields v)->b≠T:=fun b o hb hn q=>by
    rw[q,hT]at hb;cases hb;exact hn ts hdT
   have selfT:=Heap.get?_update_self (Obj.mapFields (·.setIfInBounds 3 Value.none)) hT (Obj.isFreed_of_fields (Obj.data_mapFields hdT _));have up:s.heap.UpToSlots (s.heap.update T (Obj.mapFields (·.setIfInBounds 3 Value.none))):=fun b o e n=>⟨o.slots,(oth b (nr b o e n)).trans e⟩
   have F0:Heap.FlyingW B (env::outer) ea cls a0 (s.heap.update T (Obj.mapFields (·.setIfInBounds 3 Value.none))):=
    ⟨fun b o e=>(oth b fun q=>by rw[q,hnT]at e;cases e).trans (f1 b o e),f2,f3.of_keeps fun b o e n=>⟨o,(oth b (nr b o e n)).trans e,rfl⟩,
     oe,vs,T,_,_,(oth ea (Ne.symm hTe)).trans he,hc,hd,h1,hnT,hTe,selfT,Obj.data_mapFields hdT _,by simp[sz]⟩
   have key:=wpAny_looks_onW (M:=M) (E:=E) (Q:=Q) (s:={ s with heap:=s.heap.update T (Obj.mapFields (·.setIfInBounds 3 Value.none)) }) hfr hf F0 fun h2 q1 q2=>hQ h2 q1 (up.trans q2);intro Γ p hΓ;have k:=key Γ p hΓ;unfold noteFrame at k ⊢;simp only[hf]at k ⊢;rw[Sem.wp_bind',wp_field_iff]at k ⊢;obtain⟨a1,o1,v1,x1,e1,g1,d1,i1,k⟩:=k;cases e1;have g1':s.heap.get? ea=some o1:=(oth ea (Ne.symm hTe)).symm.trans g1;have o1e:o1=oe:=by rw[he]at g1';cases g1';rfl
   subst o1e;rw[hd]at d1;cases d1;rw[h1]at i1;cases i1;refine⟨ea,o1,vs,.ref T,rfl,he,hd,h1,?_⟩;have nn:(Value.ref T != Value.none)=true:=by simp
   simp only[nn,if_true]at k ⊢;rw[Sem.wp_bind',wp_field_iff]at k ⊢;obtain⟨a2,o2,v2,x2,e2,g2,d2,i2,k⟩:=k;cases e2;have g2':=selfT.symm.trans g2;cases g2';have d2':=(Obj.data_mapFields hdT (·.setIfInBounds 3 Value.none)).symm.trans d2;cases d2';have x2e:x2=Value.none:=by
    have:(ts.setIfInBounds 3 Value.none)[3]?=some Value.none:=by simp[sz]
    rw[this]at i2;cases i2;rfl
   subst x2e;refine⟨T,oT,ts,fl,rfl,hT,hdT,h3,?_⟩;have n1:(Value.none == rawInt L)=false:=by simp[rawInt]
   have n2:(fl == rawInt L)=false:=by
    cases q:fl == rawInt L with
    |false=>rfl
    |true=>exact absurd (beq_iff_eq.mp q) hm
   simp only[n1,n2,Bool.false_eq_true,if_false]at k ⊢;rw[Sem.wp_bind',wp_setField_iff]at k ⊢;obtain⟨a3,o3,v3,e3,g3,d3,i3,k⟩:=k;cases e3;refine⟨T,oT,ts,rfl,hT,hdT,sz,?_⟩;simp only[Heap.update_setField_twice]at k;exact k
 ·obtain⟨oe,vs,he,hc,hd,hz,h0,h1⟩:=f4;unfold noteFrame;simp only[hf];refine wpAny_bind (wpAny_field he hd h1 ?_);rw[if_neg (by decide)];refine wpAny_entryW (base:=B) (outer:=outer) (a0:=a0) hfr f3 hf he f1 f2 hd hz h0 fun h4 hN=>?_;obtain⟨k1,k2,k3,k4⟩:=hN;rw[hc]at k3;exact hQ h4 ⟨k1,f2,k2,k3⟩ k4
theorem zvn{A:Around}{B:Heap}{env:Env}{outer:List Env}{L:Addr}{a0:Value}(hfr:A.frames=some (env::outer))(hf:env.frame=some L)(x:yob B (env::outer) ea cls a0 s.heap)
  (hQ:∀ h1,Heap.HeldW B (env::outer) ea cls a0 L h1->s.heap.UpToSlots h1->DK s.heap h1->Q () { s with heap:=h1 }):wpAny M A (noteFrame (.ref ea) env) Q E s:=by
 have k:wpAny M A (noteFrame (.ref ea) env) (fun _ s'=>∃ h1,s'={ s with heap:=h1 }/\Heap.HeldW B (env::outer) ea cls a0 L h1/\s.heap.UpToSlots h1) E s:=zvm hfr hf x fun h1 q1 q2=>⟨h1,rfl,q1,q2⟩
 exact wpAny_mono (yn2 (zu9 _ _) k) (fun _ _ ⟨⟨h1,e,q1,q2⟩,q3⟩=>by subst e;exact hQ h1 q1 q2 q3) fun _ _ z=>z
theorem yc9{B:Heap}{l:List Env}{a0:Value}{L:Addr}{h:Heap}(x:Heap.HeldW B l ea cls a0 L h):yob B l ea cls a0 h:=⟨x.1,x.2.1,x.2.2.1,.inl ⟨_,x.2.2.2⟩⟩
theorem zoe{A:Around}{B:Heap}{env:Env}{outer:List Env}{L:Addr}{a0:Value}(hfr:A.frames=some (env::outer))(hf:env.frame=some L)(x:yob B (env::outer) ea cls a0 s.heap)
  (hQ:∀ h1,yob B outer ea cls a0 h1->s.heap.UpToSlots h1->DK s.heap h1->Q () { s with heap:=h1 }):wpAny M A (leaving env (.ref ea)) Q E s:=by
 unfold leaving;refine wpAny_bind (zvn hfr hf x fun h1 q1 q2 q3=>?_);refine zvf (yc9 q1) fun h2 q4 q5 q6=>?_;obtain⟨k1,k2,⟨_,_,k3⟩,k4⟩:=q4;exact hQ h2 ⟨k1,k2,k3,k4⟩ (q2.trans q5) (q3.trans q6)
theorem zt3(hs:X.stack=X.env::X.outer)(hf:X.env.frame=some X.env.locals){b:Addr}:b∈frs X.stack ↔ b=X.env.locals\/b∈frs X.outer:=by
 rw[hs];unfold frs;rw[List.filterMap_cons,hf];exact List.mem_cons
theorem yck(I:Inv X pins st H s)(hs:X.stack=X.env::X.outer)(hf:X.env.frame=some X.env.locals)(hx:X.ex=[]){h'':Heap}(un:Un (frs X.stack) [] H H' s.heap h''):Un (frs X.outer) [] X.H₀ H' X.s₀.heap h'':=by
 have nex:∀ b,b ∉ X.ex:=fun b z=>by rw[hx]at z;cases z
 have neL:∀ b o,X.s₀.heap.get? b=some o->b≠X.env.locals:=fun b o e=>Nat.ne_of_lt (Nat.lt_of_lt_of_le (Heap.lt_size e) I.ok.above);refine⟨fun b o e n hb _=>?_,fun b o e n hb _=>?_,fun b o e n _=>?_,fun b o e _=>?_,fun b xs e=>un.tups b xs (I.base.tups b xs e),fun b o u e=>un.frzs b o u (I.base.frzs b o u e),fun b ps e=>?_⟩
 ·exact un.keep b o (I.base.keep b o e n hb (nex b)) (I.base.free b o e n (nex b)) (fun z=>((zt3 hs hf).mp z).elim (neL b o e) hb) (by simp)
 ·obtain⟨sl,e1⟩:=I.base.slot b o e n hb (nex b);obtain⟨sl',e2⟩:=un.slot b _ e1 (I.base.free b o e n (nex b)) ((zt3 hs hf).mpr (.inr hb)) (by simp);exact⟨sl',e2⟩
 ·obtain⟨o',e1⟩:=I.base.there b o e (nex b);exact un.free b o' e1 (I.base.free b o e n (nex b)) (by simp)
 ·obtain⟨o',e1⟩:=I.base.there b o e (nex b);exact un.there b o' e1 (by simp)
 ·obtain⟨m1,e1⟩:=I.base.tbls b ps e;obtain⟨m2,e2⟩:=un.tbls b _ e1;exact⟨m1++m2,by rw[e2,Array.append_assoc]⟩
theorem ycl{P:Program}{w:World}{outer:List Env}{e:Value}{fd:Option Nat}(F:Fly P w outer H s cls fd H' e s'){h6:Heap}{B:Heap}(hB:∀ b o,s.heap.get? b=some o->H b=none->b ∉ frs outer->B.get? b=some o)(hT:∀ b o,H' b=some o->∃ ob,B.get? b=some ob)
  (hA:∀ b o,s.heap.get? b=some o->b ∉ frs outer->∃ o',B.get? b=some o') (hb0:∀ b o,B.get? b=some o->s'.heap.get? b=some o) (hb6:∀ b o,B.get? b=some o->h6.get? b=some o) (hsl:s'.heap.UpToSlots h6) (hfr:∀ b∈frs outer,∃ o,s.heap.get? b=some o/\(∀ vs,o.data≠.fields vs)/\H b=none) :
  Un (frs outer) [] H H' s.heap h6/\HOk P w H' h6:=by
 refine⟨⟨fun b o e n hb _=>hb6 b o (hB b o e n hb),fun b o e n hb hx=>?_,F.un.free,fun b o e hx=>?_,F.un.tups,F.un.frzs,F.un.tbls⟩,ydi F.hok fun b o u e q=>?_⟩
 ·obtain⟨sl,e1⟩:=F.un.slot b o e n hb hx;obtain⟨o',e',hd,_⟩:=hfr b hb;rw[e]at e';cases e';obtain⟨sl',e2⟩:=hsl b _ e1 hd;exact⟨sl',e2⟩
 ·by_cases hb:b∈frs outer
  ·obtain⟨o',e',hd,hn⟩:=hfr b hb;rw[e]at e';cases e';obtain⟨sl,e1⟩:=F.un.slot b o e hn hb hx;obtain⟨sl',e2⟩:=hsl b _ e1 hd;exact⟨_,e2⟩
  ·obtain⟨o',e1⟩:=hA b o e hb;exact⟨o',hb6 b o' e1⟩
 ·obtain⟨ob,e1⟩:=hT b o e;have:=hb0 b ob e1;rw[q]at this;cases this;exact hb6 b _ e1
theorem zfw(I:Inv X pins st H s):∀ b∈frs X.stack,∃ o,s.heap.get? b=some o/\(∀ vs,o.data≠.fields vs)/\H b=none:=fun b hb=>by
 obtain⟨_,o,e,hd⟩:=I.stack.mem hb;exact⟨o,e,hd,I.stkFree b hb⟩
theorem zod(I:Inv X pins st H s)(hs:X.stack=X.env::X.outer)(hf:X.env.frame=some X.env.locals)(hex:X.ex=[]){e:Value}{fd:Option Nat}(F:Fly X.prog X.w X.stack H s cls fd H' e s')
  (hQ:∀ s'',Fly X.prog X.w X.outer X.H₀ X.s₀ cls fd H' e s''->Q () s''):wpAny M X.A (leaving X.env e) Q E s':=by
 obtain⟨ea,a0,B,rfl,fl,hn,hnew,hT,hB,hA,hF⟩:=F.ex;have fl':yob B (X.env::X.outer) ea cls a0 s'.heap:=by rw[<-hs];exact fl
 refine zoe (by rw[<-hs];exact I.ok.frames) hf fl' fun h'' x1 x2 x3=>hQ _ ?_;obtain⟨un,hok⟩:=ycl F hB hT hA fl.1 x1.1 x2 (zfw I);have nex:∀ b,b ∉ X.ex:=fun b z=>by rw[hex]at z;cases z
 have neL:∀ b o,X.s₀.heap.get? b=some o->b≠X.env.locals:=fun b o e=>Nat.ne_of_lt (Nat.lt_of_lt_of_le (Heap.lt_size e) I.ok.above);have new0:∀ b,s.heap.get? b=none->X.s₀.heap.get? b=none:=fun b e=>by
  cases q:X.s₀.heap.get? b with
  |none=>rfl
  |some u=>obtain⟨v,e'⟩:=I.base.there _ _ q (nex _);rw[e]at e';cases e'
 have hF':FdH fd ea B h'' X.s₀.heap H':=fun n q=>by
  obtain⟨dN,oD,oe,z1,z2,z3,z4,z5,z6⟩:=hF.next x3 (let ⟨o,e,_⟩:=x1.there;⟨o,e⟩) n q;exact⟨dN,oD,oe,z1,z2,z3,z4,z5,new0 _ z6⟩
 refine⟨⟨ea,a0,B,rfl,x1,hn,?_,hT,fun b o e n hb=>?_,fun b o e hb=>?_,hF'⟩,F.os.trans I.os,F.bare,yck I hs hf hex un,hok⟩
 ·cases q:X.s₀.heap.get? ea with
  |none=>rfl
  |some u=>obtain⟨v,e⟩:=I.base.there _ _ q (nex _);rw[hnew]at e;cases e
 ·exact hB b o (I.base.keep b o e n hb (nex b)) (I.base.free b o e n (nex b)) fun z=>((zt3 hs hf).mp z).elim (neL b o e) hb
 ·obtain⟨o',q⟩:=I.base.there b o e (nex b);exact hA b o' q fun z=>((zt3 hs hf).mp z).elim (neL b o e) hb
end
theorem yha{P:Program}{w:World}{K:W.Frag}{mg:Str->Option Value}{base:Heap}{N:List Str}{qual:Str}{scope:Scope}{f:Addr}{cd:Value}{A:Around}{outer:List Env}{s:Shared}{H:Hp}{E:XK}{st:St}{cls:Value}{fd:Option Nat}{H':Hp}
  (h:E cls fd H'):Thr (ypq (CXE P w) P w K mg base N qual scope f cd A outer s H E) st cls fd H' where
 fly:=fun pins H1 s1 e s' I F=>zod I rfl rfl rfl F fun s'' G=>⟨cls,fd,H',G,h⟩
theorem Thr.made{X:Cx}{pins:List (Addr × Obj)}{st:St}{H':Hp}{s:Shared}{cls:Value}{ea:Addr}{h':Heap}{args:List Value}(t:Thr X st cls none H')(I:Inv X pins st H' s)(hx:Heap.MadeExcOf s.heap h' ea cls args):X.xe (.ref ea) { s with heap:=h' }:=by
 have ff:s.heap.FunFrames (W.hideAll s.heap (frs X.stack)) X.stack:=W.funFrames_hide (as:=frs X.stack) I.stack (fun env he a ha=>List.mem_filterMap.mpr ⟨env,he,ha⟩);have hid:∀ b o,s.heap.get? b=some o->b ∉ frs X.stack->(W.hideAll s.heap (frs X.stack)).get? b=some o:=fun b o e n=>W.hideAll_get _ e n;obtain⟨t0,he,htn,ht⟩:=hx.there;have nst:∀ b o,H' b=some o->b ∉ frs X.stack:=fun b o e z=>by rw[I.stkFree b z]at e;cases e
 have hn:H' ea=none:=by
  cases q:H' ea with
  |none=>rfl
  |some u=>obtain⟨v,e⟩:=zeu (I.hok _ _ q);rw[hx.new]at e;cases e
 refine t.fly pins H' s (.ref ea) _ I ⟨⟨ea,.ref t0,W.hideAll s.heap (frs X.stack),rfl,⟨fun b o q=>hx.keeps b o (W.of_hideAll _ q),?_,ff.of_keeps fun b o e _=>⟨o,hx.keeps b o e,rfl⟩,.inr ⟨_,_,he,rfl,rfl,by simp,rfl,rfl⟩⟩,hn,hx.new,fun b o e=>?_,fun b o e n hb=>hid b o e hb,fun b o e hb=>⟨o,hid b o e hb⟩,fun n q=>by cases q⟩,rfl,I.bare,⟨fun b o e n hb _=>hx.keeps b o e,fun b o e n hb _=>⟨o.slots,hx.keeps b o e⟩,fun b o e n _=>n,fun b o e _=>⟨o,hx.keeps b o e⟩,fun _ _ e=>e,fun _ _ _ e=>e,fun b ps e=>⟨#[],by rw[e];simp⟩⟩,ydi I.hok fun b o u e q=>hx.keeps b u q⟩
 ·cases q:(W.hideAll s.heap (frs X.stack)).get? ea with
  |none=>rfl
  |some u=>have:=W.of_hideAll _ q;rw[hx.new]at this;cases this
 ·obtain⟨u,q⟩:=zeu (I.hok _ _ e);exact⟨u,hid b u q (nst b o e)⟩
theorem zjy{P:Program}{w:World}{K:W.Frag}{mg:Str->Option Value}{base:Heap}{N:List Str}{qual:Str}{scope:Scope}{f:Addr}{cd:Value}{A:Around}{outer:List Env}{s:Shared}{H:Hp}{E:XK} :
  PassesOwn (model P w) (ypq (CXE P w) P w K mg base N qual scope f cd A outer s H E).A (ypq (CXE P w) P w K mg base N qual scope f cd A outer s H E).env (ypq (CXE P w) P w K mg base N qual scope f cd A outer s H E).xe:=PassesOwn.leaving
def yp3:Fl->M D
 | .nx _=>ret .non
 | .rt d=>ret d
 | .xc _ x=>fun σ=>.ex x σ
 |_=>bad
def yr5:Out Fl->Out D
 | .ok fl σ=>yp3 fl σ
 |_=>.bad
def run(n:Nat)(g:Ev->M Fl)(ds:List D):M D:=fun σ=>yr5 (g (ds.map some++List.replicate (n - ds.length) none) σ)
def spF(T:Tb)(n:Nat)(f:List D->M D):Sp:=fun vs H Q E=>∃ μ σ ds,yot T μ H ds vs/\ds.length=n/\Rel T μ H σ/\yol T E (Rep T) μ H (f ds σ) Q
def fnK(n:Nat)(f:List D->M D)(dds:List D)(ds:List D):M D:=if (ds++dds).length=n then f (ds++dds)else bad
def eFn(n:Nat)(f:List D->M D)(dds:List D)(fs:Ev->M (List D)):Ev->M D:=fun ρ=>bnd (fs ρ) (fnK n f dds)
section
variable{T:Tb}{X:Cx}
theorem zkr{μ:List Addr}{H:Hp}{ds:List D}{vs:List V}{N:List Str}(h:yot T μ H ds vs):yn9 T μ H (ds.map some++List.replicate (N.length - ds.length) none) (L2.ynb N vs):=by
 have hl:=h.length;refine⟨by simp[L2.ynb,hl],fun i d e=>?_⟩;by_cases hi:i<ds.length
 ·rw[List.getElem?_append_left (by simpa using hi),List.getElem?_map]at e;cases e2:ds[i]? with
  |none=>rw[e2]at e;cases e
  |some x=>
   rw[e2]at e;cases e;obtain⟨v,h1,h2⟩:=h.get e2;refine⟨v,?_,h2⟩;unfold L2.ynb;rw[List.getElem?_append_left (by simpa [<-hl]using hi),List.getElem?_map,h1];rfl
 ·rw[List.getElem?_append_right (by simpa using hi),List.getElem?_replicate]at e;split at e<;>cases e
variable{k:Nat}{f C:Addr}{fd:FuncData}{ps:List Str}{dvs:List V}{dval:List Value}{dds:List D}{x:Str}{p pos:Pos}{e:Expr}{es:List Expr}{fn:List D->M D}{fs:Ev->M (List D)}{sp:Sp}{t:TA}
theorem zx4{pins:List (Addr × Obj)}{st:St}{H:Hp}{s:Shared}{Q:VK}{us:List Value}{vs:List V}(F:FnOk X.prog X.w X.K X.mg X.base (CXE X.prog X.w) k f fd ps sp)(hr:Room k X.A)(hb:yhz X.K fd ps dval)(hd:yo0 dvs dval)
  (I:Inv X pins st H s) (r:yo0 vs us) (h:sp (vs++dvs) H Q (XE X st)):wpAny (model X.prog X.w) X.A (call (.ref f) us) (EP X pins st Q) X.xe s:=by
 have r2:yo0 (vs++dvs) (us++dval):=r.append hd;have hl:(us++dval).length=ps.length:=by rw[<-r2.length];exact F.len _ _ _ _ h
 refine wpAny_call (codeAny_mono (F.run X.A X.stack s H ⟨us,[]⟩ (us++dval) (vs++dvs) Q (XE X st) hr I.env0 (hb s us I.kIn hl) r2 h) fun r s' hq=>?_);cases r with
 |error e=>obtain⟨cls,fd,H',hfly,ht⟩:=hq;exact ht.fly pins H s e s' I hfly
 |ok fl=>
  cases fl with
  |ret u=>exact I.after hq
  |next=>exact False.elim hq
  |brk=>exact False.elim hq
  |cont=>exact False.elim hq
theorem zta(F:FnOk X.prog X.w X.K X.mg X.base (CXE X.prog X.w) k f fd ps (spF T ps.length fn))(hr:Room k X.A)(hg:Gl X x)(hm:X.mg x=some (.ref f))(hk:W.keepIn X.K (.ref f)=true)(hb:yhz X.K fd ps dval)(hd:yo0 dvs dval)(hdd:∀ μ H,yot T μ H dds dvs)
  (ha:FA T X (e::es) fs) (hdb:(x == ("__debug__" : Str))=false:=by decide) (he:starEach (e::es) X.env=(false,eval e X.env)::starEach es X.env:=by rfl) (hpl:(backTo pos (starEach es X.env)).any (·.1)=false:=by rfl) :
  FE T X (.Call (.Name x p) (e::es) [] pos) (eFn ps.length fn dds fs):=by
 intro pins s st H Q I h;refine wpAny_Call_Name_kw (zvi I hg hm ?_ hdb);obtain⟨μ,ρ,σ,hE,hr',hp⟩:=h;refine W.callWith_K (h₀:=X.base) I.ok.mod.kin hk (thn (ha pos pins s st H (fun vs H1=>spF T ps.length fn (vs++dvs) H1 Q (XE X st)) I ⟨μ,ρ,σ,hE,hr',hp.bind fun ds σ1 μ1 vs H1 _ e1 r1 p1 q1=>?_⟩) fun us s1 ⟨vs,H1,I1,r,q⟩=>⟨I1.kIn,?_⟩) he hpl
 ·unfold fnK at q1;by_cases hl:(ds++dds).length=ps.length
  ·rw[if_pos hl]at q1;exact⟨μ1,σ1,ds++dds,p1.append (hdd _ _),hl,r1,q1⟩
  ·rw[if_neg hl]at q1;exact q1.elim
 ·exact zx4 F hr hb hd I1 r q
variable{P:Program}{w:World}{K:W.Frag}{mg:Str->Option Value}{base:Heap}
theorem fok{x qual:Str}{st:Stmt}{N:List Str}{g:Ev->M Fl}{params:Arguments}{dV kV doc pm cdv ct oc:Value}{an od:Option Addr}{osl:Array (Option Value)}
  (lk:K.lookup f=some ⟨oc,od,.func (W.fnOf x qual params (zsr st) (zlv st) dV kV doc pm an cdv ct),osl⟩) (hcd:W.codeIn K cdv qual=true) (S:FnScope N ps (zlv st))
  (hb:∀ (A:Around) (outer:List Env) (s:Shared) (H:Hp) (E:XK),Room k (A.deeper (envOfC qual (zlv st) s.heap.objs.size f cdv))->FSs T (ypq (CXE P w) P w K mg base N qual (zlv st) f cdv A outer s H E) (zsr st) g) :
  FnOk P w K mg base (CXE P w) (k+1) f (W.fnOf x qual params (zsr st) (zlv st) dV kV doc pm an cdv ct) ps (spF T ps.length (run N.length g)):=by
 refine yjo lk hcd S (fun vs H Q E h=>?_) (fun A outer s H vs Q E hr h=>?_)
 ·obtain⟨μ,σ,ds,h1,h2,_⟩:=h;rw[<-h1.length];exact h2
 ·obtain⟨μ,σ,ds,h1,h2,h3,h4⟩:=h;refine⟨_,hb A outer s H E hr,μ,_,σ,zkr h1,h3,?_⟩;unfold run at h4;cases eg:g (ds.map some++List.replicate (N.length - ds.length) none) σ with
  |bad=>rw[eg]at h4;exact h4
  |ex x σ1=>rw[eg]at h4;exact h4.elim
  |ok fl σ1=>
   rw[eg]at h4;intro μ1 gl H1 e1 r1 q1;have p1:=h4.mono e1;cases fl with
   |nx ρ2=>cases gl with
    |nx st2=>have z:Q V.non H1:=yol.here (d:=D.non) p1 r1 (by rw[Rep]);exact z
    |_=>exact q1.elim
   |rt d2=>cases gl with
    |rt v2=>have z:Q v2 H1:=yol.here (d:=d2) p1 r1 q1;exact z
    |_=>exact q1.elim
   |xc ρ2 x2=>cases gl with
    |xc st2 c2 fd2=>
     obtain⟨_,rfl,rfl⟩:=q1;exact yha (p1 μ1 H1 (Ext.refl _ _) r1)
    |_=>exact q1.elim
   |_=>exact p1.elim
theorem zt1(F:FnOk P w K mg base (CXE P w) k f fd ps (spF T ps.length fn)):FnOk P w K mg base (CXE P w) k f fd ps (spF T ps.length (fun ds=>frz (fn ds))):=
 F.imp fun vs H Q E h=>by
  obtain⟨μ,σ,ds,h1,h2,h3,h4⟩:=h;exact⟨μ,σ,ds,h1,h2,h3,yol.frz h3 h4⟩
end
def ypk(env:Env)(names:List (Str × NameKind))(acc:List (Str × Addr)):List (Str × Addr):=
 names.foldl (fun cs y=>if (y.2 == .free)=true then (match env.cells.lookup y.1 with|some c=>(y.1,c)::cs|none=>cs)else cs) acc
theorem zfp(env:Env):∀ (names:List (Str × NameKind)) (acc:List (Str × Addr)),(∀ y∈names,y.2=.free->∃ c,env.cells.lookup y.1=some c)->
  (forIn names acc (fun x (cs:List (Str × Addr))=>match x with|(name,kind)=>if (kind == .free)=true then (do let a <-cellOf env name;pure (ForInStep.yield ((name,a)::cs)))else pure (ForInStep.yield cs)):Sem (List (Str × Addr)))=pure (ypk env names acc)
 |[],acc,_=>rfl
 |(n,k)::r,acc,h=>by
  rw[List.forIn_cons];by_cases hk:(k == NameKind.free)=true
  ·obtain⟨c,hc⟩:=h (n,k) List.mem_cons_self (by simpa using hk);have e1:cellOf env n=pure c:=by unfold cellOf;rw[hc]
   simp only[hk,if_true,e1];show (forIn r ((n,c)::acc) _:Sem (List (Str × Addr)))=_;rw[zfp env r ((n,c)::acc) fun y hy=>h y (List.mem_cons_of_mem _ hy)];have e2:ypk env ((n,k)::r) acc=ypk env r ((n,c)::acc):=by
    unfold ypk;rw[List.foldl_cons];simp only[hk,if_true,hc]
   rw[e2]
  ·simp only[hk];show (forIn r acc _:Sem (List (Str × Addr)))=_;rw[zfp env r acc fun y hy=>h y (List.mem_cons_of_mem _ hy)];have e2:ypk env ((n,k)::r) acc=ypk env r acc:=by
    unfold ypk;rw[List.foldl_cons];simp only[hk];rfl
   rw[e2]
theorem zfq(env:Env)(scope:Scope)(h:∀ y∈scope.names,y.2=.free->∃ c,env.cells.lookup y.1=some c):closureFor scope env=pure (ypk env scope.names []):=by
 have e:=zfp env scope.names [] h;unfold closureFor;simp only[bind_pure];exact e
theorem ya8(env:Env):∀ (names:List (Str × NameKind)) (acc:List (Str × Addr)) (n:Str) (c:Addr),(∀ n c,acc.lookup n=some c->env.cells.lookup n=some c)->(ypk env names acc).lookup n=some c->env.cells.lookup n=some c
 |[],acc,n,c,h,e=>h n c e
 |(y,k)::r,acc,n,c,h,e=>by
  unfold ypk at e;rw[List.foldl_cons]at e;refine ya8 env r _ n c (fun n c q=>?_) e;by_cases hk:(k == NameKind.free)=true
  ·simp only[hk,if_true]at q;cases hc:env.cells.lookup y with
   |none=>rw[hc]at q;exact h n c q
   |some c'=>
    rw[hc]at q;rw[List.lookup_cons]at q;cases hn:(n == y)with
    |true=>rw[hn]at q;cases q;rw[eq_of_beq hn];exact hc
    |false=>rw[hn]at q;exact h n c q
  ·simp only[hk]at q;exact h n c q
theorem zsi(env:Env):∀ (names:List (Str × NameKind)) (acc:List (Str × Addr)) (n:Str),(∃ c,acc.lookup n=some c)->∃ c,(ypk env names acc).lookup n=some c
 |[],acc,n,h=>h
 |(y,k)::r,acc,n,h=>by
  unfold ypk;rw[List.foldl_cons];refine zsi env r _ n ?_;by_cases hk:(k == NameKind.free)=true
  ·simp only[hk,if_true];cases hc:env.cells.lookup y with
   |none=>exact h
   |some c'=>
    show ∃ c,List.lookup n ((y,c')::acc)=some c;rw[List.lookup_cons];cases hn:(n == y)with
    |true=>exact⟨c',rfl⟩
    |false=>exact h
  ·simp only[hk];exact h
theorem yay(env:Env):∀ (names:List (Str × NameKind)) (acc:List (Str × Addr)) (n:Str),(n,NameKind.free)∈names->(∃ c,env.cells.lookup n=some c)->∃ c,(ypk env names acc).lookup n=some c
 |[],acc,n,h,_=>nomatch h
 |(y,k)::r,acc,n,h,hc=>by
  unfold ypk;rw[List.foldl_cons];rcases List.mem_cons.mp h with e|e
  ·cases e;refine zsi env r _ _ ?_;obtain⟨c,hc⟩:=hc;refine⟨c,?_⟩;simp[hc]
  ·exact yay env r _ n e hc
theorem zcc{env:Env}:∀ {names:List (Str × NameKind)} {x:Str} {k:NameKind},
  (names.map fun(n,k)=>if (k == NameKind.free && env.scope.kind == .function && env.kindOf n == some .cell)then (n,NameKind.cell)else (n,k)).lookup x=some k->∃ k0,names.lookup x=some k0/\(k=k0\/(k0=.free/\k=.cell))
 |[],_,_,h=>by simp at h
 |(n,k0)::r,x,k,h=>by
  have ih:=@zcc env r x k;have h':List.lookup x ((if (k0 == NameKind.free && env.scope.kind == .function && env.kindOf n == some .cell)=true then (n,NameKind.cell)else (n,k0))::(r.map fun(n,k)=>if (k == NameKind.free && env.scope.kind == .function && env.kindOf n == some .cell)then (n,NameKind.cell)else (n,k)))=some k:=h;cases hx:x == n with
  |true=>
   by_cases hc:(k0 == NameKind.free && env.scope.kind == .function && env.kindOf n == some .cell)=true
   ·rw[if_pos hc]at h';simp only[List.lookup_cons,hx]at h' ⊢;cases h';simp only[Bool.and_eq_true]at hc;exact⟨k0,rfl,.inr ⟨by simpa using hc.1.1,rfl⟩⟩
   ·rw[if_neg hc]at h';simp only[List.lookup_cons,hx]at h' ⊢;cases h';exact⟨k0,rfl,.inl rfl⟩
  |false=>
   by_cases hc:(k0 == NameKind.free && env.scope.kind == .function && env.kindOf n == some .cell)=true
   ·rw[if_pos hc]at h';simp only[List.lookup_cons,hx]at h' ⊢;exact ih h'
   ·rw[if_neg hc]at h';simp only[List.lookup_cons,hx]at h' ⊢;exact ih h'
theorem zds{env:Env}:∀ {names:List (Str × NameKind)} {x:Str},names.lookup x=some .free->
  (names.map fun(n,k)=>if (k == NameKind.free && env.scope.kind == .function && env.kindOf n == some .cell)then (n,NameKind.cell)else (n,k)).lookup x=some .cell\/
  (names.map fun(n,k)=>if (k == NameKind.free && env.scope.kind == .function && env.kindOf n == some .cell)then (n,NameKind.cell)else (n,k)).lookup x=some .free
 |[],_,h=>by simp at h
 |(n,k)::r,x,h=>by
  have ih:=@zds env r x;have goal:∀ z,List.lookup x ((if (k == NameKind.free && env.scope.kind == .function && env.kindOf n == some .cell)=true then (n,NameKind.cell)else (n,k))::(r.map fun(n,k)=>if (k == NameKind.free && env.scope.kind == .function && env.kindOf n == some .cell)then (n,NameKind.cell)else (n,k)))=z->
   (List.map (fun(n,k)=>if (k == NameKind.free && env.scope.kind == .function && env.kindOf n == some .cell)then (n,NameKind.cell)else (n,k)) ((n,k)::r)).lookup x=z:=fun z e=>e
  cases hx:x == n with
  |true=>
   simp only[List.lookup_cons,hx]at h;cases h;by_cases hc:(NameKind.free == NameKind.free && env.scope.kind == .function && env.kindOf n == some .cell)=true
   ·exact .inl (goal _ (by rw[if_pos hc];simp only[List.lookup_cons,hx]))
   ·exact .inr (goal _ (by rw[if_neg hc];simp only[List.lookup_cons,hx]))
  |false=>
   simp only[List.lookup_cons,hx]at h;have e:List.lookup x ((if (k == NameKind.free && env.scope.kind == .function && env.kindOf n == some .cell)=true then (n,NameKind.cell)else (n,k))::(r.map fun(n,k)=>if (k == NameKind.free && env.scope.kind == .function && env.kindOf n == some .cell)then (n,NameKind.cell)else (n,k))) =
     (r.map fun(n,k)=>if (k == NameKind.free && env.scope.kind == .function && env.kindOf n == some .cell)then (n,NameKind.cell)else (n,k)).lookup x:=by
    by_cases hc:(k == NameKind.free && env.scope.kind == .function && env.kindOf n == some .cell)=true
    ·rw[if_pos hc];simp only[List.lookup_cons,hx]
    ·rw[if_neg hc];simp only[List.lookup_cons,hx]
   rcases ih h with q|q
   ·exact .inl (goal _ (e.trans q))
   ·exact .inr (goal _ (e.trans q))
theorem zjo{names:List (Str × NameKind)}{x:Str}{k:NameKind}(h:names.lookup x=some k):(x,k)∈names:=PySem.mem_of_lookup h
def blk(X:Cx)(N':List Str)(scope:Scope)(cl:List (Str × Addr))(C:Addr)(s₀:Shared)(H₀:Hp)(ex:List Addr):Cx:=
 { X with N:=N',s₀:=s₀,H₀:=H₀,env:=compEnvC scope cl C X.env,outer:=X.stack,stack:=X.stack,ex:=ex,fn:=fun _=>false,pn:=[],xe:=fun _ _=>False }
structure LcOk(X:Cx)(x:Str)(M':List Str)(ix:List Nat)(scope:Scope):Prop where
 kind:scope.kind=.function
 cell:(scope.names.all fun y=>!(y.2 == .cell))=true
 names:(scope.names.all fun y=>!(y.2 == .local) || scope.names.lookup y.1 == some .local)=true
 free:(scope.names.all fun y=>!(y.2 == .free) || (X.env.scope.names.lookup y.1 == some .cell || X.env.scope.names.lookup y.1 == some .free))=true
 at_:ix.map (fun i=>X.N[i]?)=M'.map some
 vis:(M'.all fun y=>(X.env.scope.names.lookup y == some .cell || X.env.scope.names.lookup y == some .free) && scope.names.lookup y == some .free)=true
def yik(ix:List Nat)(ρ:Ev):Ev:=none::ix.map fun i=>(ρ[i]?).getD none
def yil(ix:List Nat)(st:St):St:=none::ix.map fun i=>(st[i]?).getD none
theorem zr6{T:Tb}{μ:List Addr}{H:Hp}{ρ:Ev}{st:St}(ix:List Nat)(h:yn9 T μ H ρ st):yn9 T μ H (yik ix ρ) (yil ix st):=by
 refine⟨by simp[yik,yil],fun i d e=>?_⟩;cases i with
 |zero=>simp[yik]at e
 |succ j=>
  have e':(ix.map fun i=>(ρ[i]?).getD none)[j]?=some (some d):=e;rw[List.getElem?_map]at e';cases ej:ix[j]? with
  |none=>rw[ej]at e';cases e'
  |some i0=>
   rw[ej]at e';have e2:(ρ[i0]?).getD none=some d:=Option.some.inj e';have e3:ρ[i0]?=some (some d):=by
    cases q:ρ[i0]? with
    |none=>rw[q]at e2;cases e2
    |some o=>rw[q]at e2;exact congrArg some e2
   obtain⟨v,h1,h2⟩:=h.2 i0 d e3;refine⟨v,?_,h2⟩;show (ix.map fun i=>(st[i]?).getD none)[j]?=_;rw[List.getElem?_map,ej];show some ((st[i0]?).getD none)=_;rw[h1];rfl
section
variable{X:Cx}{pins:List (Addr × Obj)}{st:St}{H:Hp}{s:Shared}{x:Str}{M':List Str}{ix:List Nat}{scope:Scope}{fp:List Addr}
theorem zt2(L:LcOk X x M' ix scope)(y:Str × NameKind)(hy:y∈scope.names)(e:y.2=.free):X.env.kindOf y.1=some .cell\/X.env.kindOf y.1=some .free:=by
 have q:=List.all_eq_true.mp L.free y hy;rw[e]at q;simp only[beq_self_eq_true,Bool.not_true,Bool.false_or,Bool.or_eq_true]at q;rcases q with q|q
 ·exact .inl (eq_of_beq q)
 ·exact .inr (eq_of_beq q)
theorem zsl(I:Inv X pins st H s)(L:LcOk X x M' ix scope):∀ y∈scope.names,y.2=.free->∃ c,X.env.cells.lookup y.1=some c:=fun y hy e=>I.ok.has y.1 (zt2 L y hy e)
theorem yer(L:LcOk X x M' ix scope):∀ y∈scope.names,y.2≠.cell:=fun y hy e=>by
 have q:=List.all_eq_true.mp L.cell y hy;rw[e]at q;simp at q
end
def nox{α:Type}(m:M α):M α:=fun σ=>match m σ with
 | .ex _ _=>.bad
 |o=>o
theorem yol.bind0{α β γ δ:Type}{T:Tb}{E E0:XK}{R:List Addr->Hp->α->γ->Prop}{R':List Addr->Hp->β->δ->Prop}{μ:List Addr}{H:Hp}{m:M α}{k:α->M β}{σ:Sto}{Q:δ->Hp->Prop}{Q1:γ->Hp->Prop}
  (h:yol T E R' μ H (bnd (nox m) k σ) Q) (f:∀ a σ1 μ1 g H1,m σ=.ok a σ1->Ext μ H μ1 H1->Rel T μ1 H1 σ1->R μ1 H1 a g->yol T E R' μ1 H1 (k a σ1) Q->Q1 g H1):yol T E0 R μ H (m σ) Q1:=by
 unfold bnd nox at h;cases e:m σ with
 |ok a σ1=>
  simp only[e]at h;exact fun μ' g H' e' r q=>f a σ1 μ' g H' e e' r q (h.mono e')
 |ex x σ1=>simp only[e]at h;exact h.elim
 |bad=>simp only[e]at h;exact h
def FIf(T:Tb)(X:Cx)(ifs:List Expr)(f:Ev->M Bool):Prop:=
 ∀ (pins:List (Addr × Obj)) (s:Shared) (st:St) (H:Hp) (Q:Bool->Hp->Prop),Inv X pins st H s->tT T X f st H Q->
  wpAny (model X.prog X.w) X.A (forIn ifs true fun c r=>if r=true then do let ok <-isTrue c X.env (eval c X.env);pure (ForInStep.yield ok)else pure (ForInStep.yield r)) (TP X pins st Q) X.xe s
def yii:Ev->M Bool:=fun _=>ret true
section
variable{T:Tb}{X:Cx}
theorem zto:FIf T X [] yii:=by
 intro pins s st H Q I h;obtain⟨μ,ρ,σ,hE,hr,hp⟩:=h;exact wpAny_tests_nil ⟨H,I,yol.here hp hr rfl⟩
theorem ztp{c:Expr}{f:Ev->M Bool}(h:FT T X c f):FIf T X [c] f:=fun pins s st H Q I hw=>wpAny_tests_one (h pins s st H Q I hw)
theorem zz3{fs ex:List Addr}{H H':Hp}{h h1 h2:Heap}{C:Addr}(u:Un fs ex H H' h h1)(hs:Heap.SameBut C h1 h2)(hC:h.objs.size<=C):Un fs ex H H' h h2:=by
 have ne:∀ b o,h.get? b=some o->b≠C:=fun b o e=>Nat.ne_of_lt (Nat.lt_of_lt_of_le (Heap.lt_size e) hC);refine⟨fun b o e n hb hx=>(hs.2 b (ne b o e)).trans (u.keep b o e n hb hx),fun b o e n hb hx=>?_,u.free,fun b o e hx=>?_,u.tups,u.frzs,u.tbls⟩
 ·obtain⟨sl,q⟩:=u.slot b o e n hb hx;exact⟨sl,(hs.2 b (ne b o e)).trans q⟩
 ·obtain⟨o',q⟩:=u.there b o e hx;exact⟨o',(hs.2 b (ne b o e)).trans q⟩
theorem zno{P:Program}{w:World}{H:Hp}{h1 h2:Heap}{C:Addr}(ok:HOk P w H h1)(hs:Heap.SameBut C h1 h2)(hC:H C=none):HOk P w H h2:=fun b ob e=>by
 refine(ok b ob e).stay (fun c w' hc q=>(hs.2 c ?_).trans q) (fun _ q=>q) fun _ _ q=>q;rintro rfl;rcases hc with rfl|hc
 ·rw[hC]at e;cases e
 ·rw[hC]at hc;cases hc
theorem zrw{E:XK}{μ:List Addr}{H:Hp}{σ:Sto}{n:Nat}{a:Addr}{y:D}{v:V}{Q:VK}(r:Rel T μ H σ)(hn:μ[n]?=some a)(hy:Rep T μ H y v)(h:yol T E (Rep T) μ H (zv8 (.ref n) [y] σ) Q):zxu (.ref a) [v] H Q:=
 zha E μ H σ (.ref n) [y] (.ref a) [v] Q r (by rw[Rep];exact⟨a,rfl,hn⟩) (yot.cons hy yot.nil) h
theorem zhs{α β:Type}{m m':M α}{k:α->M β}{σ:Sto}(h:m σ=m' σ):bnd m k σ=bnd m' k σ:=by unfold bnd;rw[h]
theorem zhr{α β γ:Type}{m:M α}{k:α->M β}{l:β->M γ}:bnd (bnd m k) l=bnd m fun a=>bnd (k a) l:=by
 funext σ;unfold bnd;cases m σ<;>rfl
end
def yll(x y:D):M D:=fun σ=>match yqt σ x,yqt σ y with
 |some xs,some ys=>if xs.length+ys.length<=cap then .ok (.lst (xs++ys)) σ else .bad
 |_,_=>.bad
def yq2(x y:D):M D:=match x,y with
 | .int i,.int j=>ret (.int (i+j))
 | .tup xs,.tup ys=>if xs.length+ys.length<=cap then ret (.tup (xs++ys))else bad
 | .str a,.str b=>if a.length+b.length<=100000 then ret (.str (a++b))else bad
 |x,y=>yll x y
theorem zkt{n:Nat}(h:n<=100000):n<=sizeLine:=Nat.le_trans h (by decide)
section
variable{T:Tb}{X:Cx}{a b c:Expr}{fa fb fc:Ev->M D}{pos:Pos}
theorem zln{prog:Program}{w:World}{A:Around}{F:Value->Shared->Prop}{s:Shared}{t b:Addr}{ws:List Value}{Q:Value->Shared->Prop}(ht:IsTup s.heap t (#[]:Array Value))(hb:IsTup s.heap b ws.toArray)(h1:Q (.ref b) s):wpAny (model prog w) A (binaryOp .Add (.ref t) (.ref b)) Q F s:=by
 obtain⟨⟨cls,dd,data,sl⟩,ho,hc,n,hd⟩:=id ht;obtain⟨⟨cls2,dd2,data2,sl2⟩,ho2,hc2,n2,hd2⟩:=id hb;simp only at hc hd hc2 hd2;subst hc hd hc2 hd2;exact concat_meets ⟨_,ho,rfl⟩ ⟨_,ho2,rfl⟩ noFill_tuple_add seq_tuple_add PySem.F.slot_tuple_add PySem.F.entry_tuple_add (PySem.F.args_tuple_add_2 _ _)
  (tuple_addW0 t b #[] ws.toArray n n2 dd dd2 sl sl2 rfl) ⟨ho,ho2,h1⟩
theorem zk9{E:XK}{μ:List Addr}{H:Hp}{σ:Sto}{x y:D}{v u:V}{v' u':Value}{Q:VK}{pins:List (Addr × Obj)}{s:Shared}{st:St}(I:Inv X pins st H s)(rv:yoq v v')(ru:yoq u u')(r:Rel T μ H σ)(hx:Rep T μ H x v)(hy:Rep T μ H y u)(hp:yol T E (Rep T) μ H (yll x y σ) Q) :
  wpAny (model X.prog X.w) X.A (binaryOp .Add v' u') (EP X pins st Q) X.xe s:=by
 unfold yll at hp;cases e1:yqt σ x with
 |none=>rw[e1]at hp;exact hp.elim
 |some xs=>
  cases e2:yqt σ y with
  |none=>rw[e1,e2]at hp;exact hp.elim
  |some ys=>
   rw[e1,e2]at hp;dsimp only at hp;by_cases hc:xs.length+ys.length<=cap
   ·rw[if_pos hc]at hp;obtain⟨p,vs,rfl,h1,h2⟩:=r.ls hx e1;obtain⟨q,ws,rfl,h3,h4⟩:=r.ls hy e2;exact ye9 pins s st H _ _ v' u' Q I rv ru ⟨p,q,vs,ws,rfl,rfl,h1,h3,by rw[<-h2.length,<-h4.length];exact yar hc,fun l hl=>yeo hp r (yot.append h2 h4) hl⟩
   ·rw[if_neg hc]at hp;exact hp.elim
theorem zwt(hK:T.K=X.K):OpR X (binaryOp .Add) (rD T yq2):=by
 intro pins s st H v u v' u' Q I rv ru h;obtain⟨E,μ,σ,x,y,r,hx,hy,hp⟩:=h;cases x with
 |int i=>
  cases y with
  |int j=>exact ye7 pins s st H v u v' u' Q I rv ru ⟨i,j,ydl hx,ydl hy,yol.here hp r (by rw[Rep])⟩
  |_=>exact zk9 I rv ru r hx hy hp
 |str a=>
  cases y with
  |str b=>
   unfold yq2 at hp;dsimp only at hp;by_cases hc:a.length+b.length<=100000
   ·rw[if_pos hc]at hp;exact zgo pins s st H v u v' u' Q I rv ru ⟨a,b,by simpa [Rep]using hx,by simpa [Rep]using hy,zkt hc,yol.here hp r (by rw[Rep])⟩
   ·rw[if_neg hc]at hp;exact hp.elim
  |_=>exact zk9 I rv ru r hx hy hp
 |tup xs=>
  cases y with
  |tup ys=>
   unfold yq2 at hp;dsimp only at hp;by_cases hc:xs.length+ys.length<=cap
   ·rw[if_pos hc]at hp;have hx0:=hx;have hy0:=hy;rw[Rep]at hx hy;obtain⟨p,vs,rfl,h1,h2⟩:=hx;obtain⟨q,ws,rfl,h3,h4⟩:=hy;cases vs with
    |nil=>
     have e0:xs=[]:=by have:=h2.length;simpa using this
     subst e0;cases rv;cases ru;obtain⟨its,q1,t1,_⟩:=L2.Inv.tuple I (SqT.of (K:=X.K) h1);obtain⟨its2,q2,t2,_⟩:=L2.Inv.tuple I (SqT.of (K:=X.K) h3);cases q1;exact zln t1 t2 ⟨.ref q,H,I,rfl,yol.here hp r (by simpa using hy0)⟩
    |cons v0 vr=>
     refine zwu pins s st H _ _ v' u' Q I rv ru ⟨p,q,_,ws,rfl,rfl,SqT.of h1,SqT.of h3,by simp,?_,fun e=>?_,fun e l hl=>?_⟩
     ·rw[<-h2.length,<-h4.length];exact yar hc
     ·subst e;have e0:ys=[]:=by have:=h4.length;simpa using this
      subst e0;exact yol.here hp r (by simpa using hx0)
     ·exact zv3 hp r (yot.append h2 h4) hl
   ·rw[if_neg hc]at hp;exact hp.elim
  |_=>exact zk9 I rv ru r hx hy hp
 |_=>exact zk9 I rv ru r hx hy hp
def yau(o':D->D->M D)(c:M D)(y:D):D->M D:=ynl (ifK (bnd c (o' y)) (ret (.bl false)))
def yav(o o':D->D->M D)(c:M D)(x y:D):M D:=bnd (o x y) (yau o' c y)
def yat(o o':D->D->M D)(b c:M D)(x:D):M D:=bnd b (yav o o' c x)
def ybf(o o':D->D->M D)(a b c:Ev->M D):Ev->M D:=fun ρ=>bnd (a ρ) (yat o o' (b ρ) (c ρ))
theorem zmi{op op':CmpOp}{r r':R2}{o o':D->D->M D}(ho:OpR X (compareOp op) r)(hs:yia T r o)(ho':OpR X (compareOp op') r')(hs':yia T r' o')(ha:FE T X a fa)(hb:FE T X b fb)(hc:FE T X c fc)
  (hm:lastMarks [op,op'] [b,c]=false:=by with_unfolding_all rfl):FE T X (.Compare a [op,op'] [b,c] pos) (ybf o o' fa fb fc):=by
 intro pins s st H Q I h;refine zpf ho ho' ha hb hc hm pins s st H Q I ?_;obtain⟨μ,ρ,σ,hE,hr,hp⟩:=h;refine⟨μ,ρ,σ,hE,hr,hp.bind fun x σ1 μ1 v H1 _ e1 r1 q1 p1=>⟨μ1,ρ,σ1,hE.mono e1,r1,p1.bind fun y σ2 μ2 w H2 _ e2 r2 q2 p2=>?_⟩⟩;refine hs _ μ2 H2 σ2 x y v w _ r2 (Rep.mono e2 _ _ q1) q2 (p2.bind fun z σ3 μ3 u H3 _ e3 r3 q3 p3=>?_);obtain⟨k,rfl,ev,p4⟩:=yhc q3 p3;refine⟨k,ev,?_⟩;cases k with
 |true=>
  unfold ifK at p4;rw[if_pos rfl]at p4 ⊢;exact⟨μ3,ρ,σ3,((hE.mono e1).mono e2).mono e3,r3,p4.bind fun z σ5 μ5 u5 H5 _ e5 r5 q5 p5=>hs' _ μ5 H5 σ5 y z w u5 Q r5 (Rep.mono e5 _ _ (Rep.mono e3 _ _ q2)) q5 p5⟩
 |false=>unfold ifK at p4;rw[if_neg Bool.false_ne_true]at p4 ⊢;exact yol.here p4 r3 (by rw[Rep])
theorem hu9{k:Nat}{A:Around}(hr:Room k A):A.units+9<cLine:=by have:=hr.un;omega
end
def yh3(K:W.Frag)(mg:Str->Option Value)(x:Str)(st:Stmt)(ps:List Str):Prop:=
 ∃ f fd,mg x=some (.ref f)/\Fun K x x st f fd/\∀ us:List Value,us.length=ps.length->bindArgs fd ⟨us,[]⟩=pure (ps.zip us)
def OkF(T:Tb)(P:Program)(w:World)(mg:Str->Option Value)(base:Heap)(k:Nat)(x:Str)(ps:List Str)(fn:List D->M D):Prop:=
 ∃ f fd,mg x=some (.ref f)/\W.keepIn T.K (.ref f)=true/\(∀ us:List Value,us.length=ps.length->bindArgs fd ⟨us,[]⟩=pure (ps.zip us))/\FnOk P w T.K mg base (CXE P w) k f fd ps (spF T ps.length fn)
section
variable{T:Tb}{X:Cx}
theorem zmh{k:Nat}{ps:List Str}{fn:List D->M D}{x:Str}{p pos:Pos}{e:Expr}{es:List Expr}{fs:Ev->M (List D)}(h:OkF T X.prog X.w X.mg X.base k x ps fn)(hK:T.K=X.K)(hr:Room k X.A)(hg:Gl X x)
  (ha:FA T X (e::es) fs) (hdb:(x == ("__debug__" : Str))=false:=by decide) (he:starEach (e::es) X.env=(false,eval e X.env)::starEach es X.env:=by rfl) (hpl:(backTo pos (starEach es X.env)).any (·.1)=false:=by rfl) :
  FE T X (.Call (.Name x p) (e::es) [] pos) (eFn ps.length fn [] fs):=by
 obtain⟨f,fd,hm,hk,hb,hF⟩:=h;rw[hK]at hk hF;exact zta (dds:=[]) (dvs:=[]) hF hr hg hm hk (.all hb) .nil (fun _ _=>yot.nil) ha hdb he hpl
variable{P:Program}{w:World}{K:W.Frag}{mg:Str->Option Value}{base:Heap}{ca:Nat->Addr}{tx:Tx}
theorem ylv{k:Nat}{x:Str}{st:Stmt}{ps N:List Str}{g:Ev->M Fl}(h:yh3 K mg x st ps)(S:FnScope N ps (zlv st))
  (hb:∀ (f:Addr) (cdv:Value) (A:Around) (outer:List Env) (s:Shared) (H:Hp) (E:XK),Room k (A.deeper (envOfC x (zlv st) s.heap.objs.size f cdv))->FSs ⟨K,ca,tx⟩ (ypq (CXE P w) P w K mg base N x (zlv st) f cdv A outer s H E) (zsr st) g) :
  OkF ⟨K,ca,tx⟩ P w mg base (k+1) x ps (run N.length g):=by
 obtain⟨f,fd,hm,F,hbd⟩:=h;obtain⟨oc,od,kV,doc,pm,an,cdv,ct,osl,rfl,lk,hcd⟩:=F.ex;exact⟨f,_,hm,F.kp,hbd,fok lk hcd S (hb f cdv)⟩
theorem OkF.frz{k:Nat}{x:Str}{ps:List Str}{fn:List D->M D}(h:OkF T P w mg base k x ps fn):OkF T P w mg base k x ps (fun ds=>L4.frz (fn ds)):=by
 obtain⟨f,fd,h1,h2,h3,h4⟩:=h;exact⟨f,fd,h1,h2,h3,zt1 h4⟩
theorem mkF{h:Heap}{x:Str}{st:Stmt}{ps:List Str}{f:Addr}{oc:Value}{od an:Option Addr}{osl:Array (Option Value)}{kV doc pm cdv ct:Value}(X:K.In h)(G:h.Ns mainGlobals mg)
  (hb:∀ (kV doc pm:Value) (an:Option Addr) (cdv ct:Value) (us:List Value),us.length=ps.length->bindArgs (W.fnOf x x (zsq st) (zsr st) (zlv st) .none kV doc pm an cdv ct) ⟨us,[]⟩=pure (ps.zip us))
  (a:W.nsIn K mainGlobals x=some (some (.ref f))) (l:K.lookup f=some ⟨oc,od,.func (W.fnOf x x (zsq st) (zsr st) (zlv st) .none kV doc pm an cdv ct),osl⟩)
  (c:W.codeIn K cdv x=true) (k:W.keepIn K (.ref f)=true):yh3 K mg x st ps:=
 ⟨f,_,W.mg_of X G a,yc1 l c k,hb kV doc pm an cdv ct⟩
theorem mkI{h:Heap}{x:Str}{i:Int}{t:Tok}(X:K.In h)(G:h.Ns mainGlobals mg)(a:W.nsIn K mainGlobals x=some (some (.int i t))):∃ t,mg x=some (.int i t):=⟨t,W.mg_of X G a⟩
end
theorem ygo{K:W.Frag}{H:Hp}{a:Addr}{ns:List Int}(hO:yoj H)(h:SqL K H a (ns.map V.int)):Scr K H a ns:=by
 rcases h with(h|⟨o,h⟩)|h
 ·rcases hO a with z|⟨o,xs,z⟩
  ·rw[z]at h;cases h
  ·rw[z]at h;cases h
 ·exact .inl ⟨o,h⟩
 ·exact .inr h
def sp0(K:W.Frag):Sp:=fun vs H Q E=>∃ (a:Addr) (ns:List Int),vs=[.ref a]/\ns.length<=63/\yoj H/\SqL K H a (ns.map V.int)/\∀ v H',v=.bl true->Q v H'
theorem ygy{K:W.Frag}{ca:Nat->Addr}{fn:List D->M D}(tr:∀ ns:List Int,ns.length<=63->∃ σ,fn [.scr ns] []=.ok (.bl true) σ){vs:List V}{H:Hp}{Q:VK}{E:XK}(h:sp0 K vs H Q E):spF ⟨K,ca,⟨[],0⟩⟩ 1 fn vs H Q E:=by
 obtain⟨a,ns,rfl,hl,hO,hS,hq⟩:=h;obtain⟨σ,e⟩:=tr ns hl;refine⟨[],[],[.scr ns],yot.cons (by rw[Rep];exact⟨a,rfl,ygo hO hS⟩) yot.nil,rfl,⟨rfl,List.nodup_nil,fun n o q=>by simp at q,fun t ht=>by cases ht⟩,?_⟩;rw[e];intro μ' v H' _ _ r;rw[Rep]at r;exact hq v H' r
def OkL(T:Tb)(P:Program)(w:World)(mg:Str->Option Value)(k:Nat)(x:Str)(ps:List Str)(fn:List D->M D):Prop:=
 ∃ f fd,mg x=some (.ref f)/\(∀ us:List Value,us.length=ps.length->bindArgs fd ⟨us,[]⟩=pure (ps.zip us))/\∀ base:Heap,FnOk P w T.K mg base (CXE P w) k f fd ps (spF T ps.length fn)
theorem ye6{P:Program}{w:World}{K:W.Frag}{mg:Str->Option Value}{ca:Nat->Addr}{tx:Tx}{k:Nat}{x:Str}{st:Stmt}{ps N:List Str}{g:Ev->M Fl}(h:yh3 K mg x st ps)(S:FnScope N ps (zlv st))
  (hb:∀ (base:Heap) (f:Addr) (cdv:Value) (A:Around) (outer:List Env) (s:Shared) (H:Hp) (E:XK),Room k (A.deeper (envOfC x (zlv st) s.heap.objs.size f cdv))->FSs ⟨K,ca,tx⟩ (ypq (CXE P w) P w K mg base N x (zlv st) f cdv A outer s H E) (zsr st) g) :
  OkL ⟨K,ca,tx⟩ P w mg (k+1) x ps (run N.length g):=by
 obtain⟨f,fd,hm,F,hbd⟩:=h;obtain⟨oc,od,kV,doc,pm,an,cdv,ct,osl,rfl,lk,hcd⟩:=F.ex;exact⟨f,_,hm,hbd,fun base=>fok lk hcd S (hb base f cdv)⟩
theorem yn0{l:W.OpenLaw}{q:Program}{loose:List Str}{XP:(Str->Option Value)->Heap->Prop}{YP:World->Heap->Prop}{d:DefRec}{K:Params->W.Frag}{k:Nat}{x:Str}{fn:List D->M D}
  (hn:l.most=some 63) (hdf:d.params.defaults=[]) (hr:Room k callerA) (hY:∀ (w:World) (h:Heap),YP w h->(K w.params).In h)
  (F:∀ (w:World) (mg:Str->Option Value) (h:Heap),(K w.params).In h->h.Ns mainGlobals mg->∃ ca,OkL ⟨K w.params,ca,⟨[],0⟩⟩ l.prog w mg k d.name [x] fn)
  (tr:∀ ns:List Int,ns.length<=63->∃ σ,fn [.scr ns] []=.ok (.bl true) σ) :
  W.WalkO q loose XP YP l.row.toRowW d [] (fun f vs=>PySem.call f vs):=by
 refine L2.zz7 (n:=63) (k:=k) (x:=x) (CX:=fun w=>CXE l.prog w) (sp:=fun w=>sp0 (K w.params)) hn (by decide) hdf hr hY (fun w mg fa h KX G hmg=>?_) (fun w H a ns hl hO hS=>⟨a,ns,rfl,hl,hO,hS,fun _ _ e=>e⟩) (fun w H s e s' z=>?_)
 ·obtain⟨ca,f0,fd0,g1,g3,g4⟩:=F w mg h KX G;rw[hmg]at g1;cases g1;exact⟨fd0,fun s u=>.of_eq (g3 [u] rfl),fun base hb hg=>(g4 base).imp fun vs H Q E z=>ygy tr z⟩
 ·obtain⟨cls,fd,H',_,z⟩:=z;exact z
theorem zs5{K:W.Frag}{h:Heap}{C:Addr}{bmB:List Value}{newId:String}(KX:K.In h)(hq:W.excIn K C bmB newId=true) :
  ∃ bm N nm qn bs hdct sn sub ab col dd k0 k1 k2 k3 k5 mN,h.get? C=some (excClassObj nm qn C N bs bm hdct sn sub ab col dd k0 k1 k2 k3 k5 newId)/\h.Ns N mN/\mN "__init__" = none/\OwnTail h bmB bm:=by
 unfold W.excIn at hq;split at hq
 ·rename_i dd data sl lk
  split at hq
  ·rename_i C2 bm k0 k1 k2 k3 nid k5 emro esl
   have hq1:((((C2=C/\nid=newId)/\data.hasDel=false)/\W.tailIn K bmB bm=true)/\W.nsOkIn K data.ns=true)/\W.nsIn K data.ns "__init__" = some none:=by
    simpa [Bool.and_eq_true,Bool.not_eq_true']using hq
   obtain⟨⟨⟨⟨⟨c1,c2⟩,c3⟩,c4⟩,c5⟩,c6⟩:=hq1;subst c1;subst c2;obtain⟨nm,bs,mro,ns,qn,hd,sn,sub,ab,col,del⟩:=data;cases emro;cases c3;obtain⟨l⟩:=sl;cases esl;exact⟨bm,ns,nm,qn,bs,hd,sn,sub,ab,col,dd,k0,k1,k2,k3,k5,_,KX _ _ lk,.of_isNs (W.isNs_of_in KX c5),W.nsMap_none_of_in KX c5 c6,W.tail_of_in KX c4⟩
  ·cases hq
 ·cases hq
def ygd(c:Nat)(ρ:Ev)(ds:List D):M Fl:=if ds.length<=cap then ret (.xc ρ ⟨c⟩)else bad
def ygl(c:Nat)(fs:Ev->M (List D)):Ev->M Fl:=fun ρ=>xs ρ (fs ρ) (ygd c ρ)
section
variable{T:Tb}{X:Cx}
theorem zne(c:Nat){x:Str}{B newId initId:String}{bmB:List Value}{np cpos pos:Pos}{e:Expr}{es:List Expr}{fs:Ev->M (List D)}(FB:ExcBaseFacts B newId initId bmB)(hK:T.K=X.K)(hq:W.excIn T.K (T.ca c) bmB newId=true)(hm:X.mg x=some (.ref (T.ca c)))
  (hg:Gl X x) (hc:X.calm=true) (ha:FA T X (e::es) fs) (hdb:(x == ("__debug__" : Str))=false:=by decide) (he:starEach (e::es) X.env=(false,eval e X.env)::starEach es X.env:=by rfl)
  (hpl:(backTo cpos (starEach es X.env)).any (·.1)=false:=by rfl) (hfd:fdN c=none:=by rfl):FS T X (.Raise (some (.Call (.Name x np) (e::es) [] cpos)) none pos) (ygl c fs):=by
 intro pins s st H D I hw;obtain⟨μ,ρ,σ,hE,hr,hp⟩:=hw;rw[hK]at hq;obtain⟨bm,N,nm,qn,bs,hdct,sn,sub,ab,col,dd,k0,k1,k2,k3,k5,mN,hC,hN,hni,tl⟩:=zs5 I.ok.mod.kin hq;have hpl':(backTo cpos (starEach (e::es) X.env)).any (·.1)=false:=by
  rw[he];show (false || (backTo cpos (starEach es X.env)).any (·.1))=false;rw[hpl];rfl
 refine wpAny_Raise_call_subT (nm:=nm) (q:=qn) (N:=N) (bs:=bs) (bm:=bm) (hdct:=hdct) (sn:=sn) (sub:=sub) (ab:=ab) (col:=col) (dd:=dd) (k0:=k0) (k1:=k1) (k2:=k2) (k3:=k3) (k5:=k5) FB (mN:=mN) (tl.hasType FB.hasBase) (I.ok.hd hc) hpl' hni (zvi I hg hm ⟨rfl,?_⟩ hdb);have step:=ha cpos pins s st H (fun vs H1=>vs.length<=cap/\Thr X st (T.cv ⟨c⟩) none H1) I ⟨μ,ρ,σ,hE,hr,hp.xs hE fun ds σ1 μ1 vs H1 _ e1 r1 q1 p1=>by
  unfold ygd at p1;by_cases hl:ds.length<=cap
  ·rw[if_pos hl]at p1;exact⟨by rw[<-q1.length];exact hl,yol.here (g:=Gl2.xc st (T.cv ⟨c⟩) none) p1 r1 ⟨hE.mono e1,rfl,hfd.symm⟩⟩
  ·rw[if_neg hl]at p1;exact p1.elim⟩
 rw[he]at step ⊢;refine Calls.evalArgs_plain (thn step fun us s1 ⟨vs,H1,I1,r,hl,thr⟩=>?_);exact⟨rfl,by rw[<-r.length];exact yar hl,I1.bk _ _ hC,hN.keeps I1.bk,tl.keeps I1.bk,fun h' ea hx=>thr.made I1 hx⟩
end
structure Hd where
 t:Nat->Option Bool
 nm:Option Nat
 g:Ev->M Fl
def ys9(i:Nat):Fl->M Fl
 | .nx ρ=>ret (.nx (ρ.set i none))
 | .rt d=>ret (.rt d)
 | .bk ρ=>ret (.bk (ρ.set i none))
 | .ct ρ=>ret (.ct (ρ.set i none))
 | .xc _ _=>bad
def noF:Fl->M Fl
 | .nx ρ=>ret (.nx ρ)
 | .rt d=>ret (.rt d)
 | .bk ρ=>ret (.bk ρ)
 | .ct ρ=>ret (.ct ρ)
 | .xc _ _=>bad
def hit(h:Hd)(ρ:Ev)(x:Xn):M Fl:=match h.nm with
 |none=>bnd (h.g ρ) noF
 |some i=>bnd (h.g (ρ.set i (some (.exn x.cls)))) (ys9 i)
def yc7(ρ:Ev)(x:Xn):List Hd->M Fl
 |[]=>bad
 |h::r=>match h.t x.cls with
  |some true=>hit h ρ x
  |some false=>yc7 ρ x r
  |none=>bad
def ys6(hs:List Hd):Fl->M Fl
 | .xc ρ x=>yc7 ρ x hs
 | .nx ρ=>ret (.nx ρ)
 | .rt d=>ret (.rt d)
 | .bk ρ=>ret (.bk ρ)
 | .ct ρ=>ret (.ct ρ)
def yse(g:Ev->M Fl)(hs:List Hd):Ev->M Fl:=fun ρ=>bnd (g ρ) (ys6 hs)
abbrev Cx.inH(X:Cx)(e:Value):Cx:={ X with A:=X.A.mark (some e),calm:=false,xe:=fun _ _=>False }
abbrev Cx.inT(X:Cx)(pins:List (Addr × Obj))(xe:Value->Shared->Prop):Cx:={ X with xe:=xe,pn:=X.pn++pins }
section
variable{T:Tb}{X:Cx}{pins:List (Addr × Obj)}{st:St}{H:Hp}{s:Shared}{e:Value}{xe:Value->Shared->Prop}
theorem zu1(I:Inv X pins st H s):Inv (Cx.inT X pins xe) [] st H s:=
 ⟨⟨I.ok.mod,I.ok.kind,I.ok.glob,I.ok.blt,I.ok.above,I.ok.inj,I.ok.has,I.ok.cab,I.ok.hd,I.ok.frames,I.ok.stk,I.ok.exf,I.ok.bs,I.ok.bsz,I.ok.noex,I.ok.exfs,I.ok.funs,I.ok.frf⟩,I.os,I.bare,I.base,I.loc,I.cell,I.free,I.freeC,fun p hp=>I.pin p (by simpa using hp),I.hok,I.len⟩
theorem znu{p1:List (Addr × Obj)}(I:Inv (Cx.inT X pins xe) p1 st H s):Inv X pins st H s:=
 ⟨⟨I.ok.mod,I.ok.kind,I.ok.glob,I.ok.blt,I.ok.above,I.ok.inj,I.ok.has,I.ok.cab,I.ok.hd,I.ok.frames,I.ok.stk,I.ok.exf,I.ok.bs,I.ok.bsz,I.ok.noex,I.ok.exfs,I.ok.funs,I.ok.frf⟩,I.os,I.bare,I.base,I.loc,I.cell,I.free,I.freeC,fun p hp=>I.pin p (List.mem_append_left _ hp),I.hok,I.len⟩
theorem zu0(I:Inv X pins st H s):Inv (Cx.inH X e) pins st H s:=
 ⟨⟨I.ok.mod,I.ok.kind,I.ok.glob,I.ok.blt,I.ok.above,I.ok.inj,I.ok.has,I.ok.cab,fun z=>(by cases z),I.ok.frames,I.ok.stk,I.ok.exf,I.ok.bs,I.ok.bsz,I.ok.noex,I.ok.exfs,I.ok.funs,I.ok.frf⟩,I.os,I.bare,I.base,I.loc,I.cell,I.free,I.freeC,I.pin,I.hok,I.len⟩
theorem znt(ok:X.Ok)(I:Inv (Cx.inH X e) pins st H s):Inv X pins st H s:=
 ⟨ok,I.os,I.bare,I.base,I.loc,I.cell,I.free,I.freeC,I.pin,I.hok,I.len⟩
theorem zzh{D:Ends}{f:Flow}{s':Shared}(h:SP (Cx.inT X pins xe) [] D f s'):SP X pins D f s':=by
 cases f with
 |next=>obtain⟨σ',H',I,q⟩:=h;exact⟨σ',H',znu I,q⟩
 |brk=>obtain⟨σ',H',I,q⟩:=h;exact⟨σ',H',znu I,q⟩
 |cont=>obtain⟨σ',H',I,q⟩:=h;exact⟨σ',H',znu I,q⟩
 |ret u=>obtain⟨v,σ',H',I,r,q⟩:=h;exact⟨v,σ',H',znu I,r,q⟩
theorem zzg(ok:X.Ok){D:Ends}{f:Flow}{s':Shared}(h:SP (Cx.inH X e) pins D f s'):SP X pins D f s':=by
 cases f with
 |next=>obtain⟨σ',H',I,q⟩:=h;exact⟨σ',H',znt ok I,q⟩
 |brk=>obtain⟨σ',H',I,q⟩:=h;exact⟨σ',H',znt ok I,q⟩
 |cont=>obtain⟨σ',H',I,q⟩:=h;exact⟨σ',H',znt ok I,q⟩
 |ret u=>obtain⟨v,σ',H',I,r,q⟩:=h;exact⟨v,σ',H',znt ok I,r,q⟩
end
def Lnd(X:Cx)(pins:List (Addr × Obj))(st:St)(H:Hp)(s:Shared)(ea:Addr)(cls:Value)(fd:Option Nat):Prop:=∃ H0 s0,Inv X pins st H0 s0/\Fly X.prog X.w X.stack H0 s0 cls fd H (.ref ea) s
section
variable{T:Tb}{X:Cx}{pins:List (Addr × Obj)}{st:St}{H:Hp}{s:Shared}{ea:Addr}{cls:Value}{fd:Option Nat}
theorem Lnd.inv(L:Lnd X pins st H s ea cls fd):Inv X pins st H s:=by
 obtain⟨H0,s0,I,F⟩:=L;exact L2.Inv.call' (ch:=[]) I F.os F.un F.hok F.bare fun b z=>absurd z (by simp)
theorem Lnd.next(L:Lnd X pins st H s ea cls fd){M:Model}{A:Around}{E:Value->Shared->Prop}{Q:Unit->Shared->Prop}(h:∀ s',Lnd X pins st H s' ea cls fd->Q () s'):wpAny M A (setFlight (.ref ea) none) Q E s:=by
 obtain⟨H0,s0,I,F⟩:=L;obtain⟨ea',a0,B,e,fl,hn,hnew,hT,hB,hA,hF⟩:=F.ex;cases e;refine zvf fl fun h6 fl6 sl6 dk6=>h _ ?_;obtain⟨un,hok⟩:=ycl F hB hT hA fl.1 fl6.1 sl6 (zfw I);exact⟨H0,s0,I,⟨ea,a0,B,rfl,fl6,hn,hnew,hT,hB,hA,hF.next dk6 (let ⟨o,e,_⟩:=fl6.there;⟨o,e⟩)⟩,F.os,F.bare,un,hok⟩
theorem Lnd.obj(L:Lnd X pins st H s ea cls fd):H ea=none/\(∃ o,s.heap.get? ea=some o/\o.cls=cls)/\∃ s0:Shared,s0.heap.get? ea=none/\∃ H0,Inv X pins st H0 s0:=by
 obtain⟨H0,s0,I,F⟩:=L;obtain⟨ea',a0,B,e,fl,hn,hnew,hT,hB,hA,hF⟩:=F.ex;cases e;exact⟨hn,fl.there,s0,hnew,H0,I⟩
theorem zrb{H0:Hp}{s0:Shared}{a:Addr}{o:Obj}{φ:Heap->Prop}(I:Inv X pins st H s)(I0:Inv X pins st H0 s0)(hnew:s0.heap.get? a=none)(hn:H a=none)(ho:s.heap.get? a=some o)(hφ:φ s.heap)
  (hs:∀ h1 h2:Heap,φ h1->(∀ u,h1.get? a=some u->h2.get? a=some u)->φ h2):Inv X pins st (upd H a (.ext φ)) s:=by
 have ne:∀ b u,s0.heap.get? b=some u->b≠a:=fun b u e z=>by rw[z,hnew]at e;cases e
 have nt:∀ b u,H b=some u->b≠a:=fun b u e z=>by rw[z,hn]at e;cases e
 have n0:∀ b u,X.s₀.heap.get? b=some u->b ∉ X.ex->b≠a:=fun b u e hx=>by obtain⟨u',e'⟩:=I0.base.there b u e hx;exact ne b u' e'
 refine⟨I.ok,I.os,I.bare,⟨I.base.keep,I.base.slot,fun b u e n hx=>?_,I.base.there,fun b xs e=>?_,fun b ob u e=>?_,fun b ps e=>?_⟩,I.loc,I.cell,?_,fun x c e=>?_,fun p hp=>?_,fun b u e=>?_,I.len⟩
 ·rw[yhv (n0 b u e hx)];exact I.base.free b u e n hx
 ·have q:=I.base.tups b xs e;rw[yhv (nt b _ q)];exact q
 ·have q:=I.base.frzs b ob u e;rw[yhv (nt b _ q)];exact q
 ·obtain⟨more,q⟩:=I.base.tbls b ps e;exact⟨more,by rw[yhv (nt b _ q)];exact q⟩
 ·obtain⟨m,⟨u,_,_,hu,_⟩,_⟩:=I0.loc;rw[yhv (ne _ u hu)];exact I.free
 ·obtain⟨v,u,hu,_⟩:=I0.cell x c e;rw[yhv (ne _ u hu)];exact I.freeC x c e
 ·obtain⟨p1,p2,p3⟩:=I.pin p hp;refine⟨p1,?_,p3⟩;rw[yhv (ne _ _ (I0.pin p hp).1)];exact p2
 ·by_cases hb:b=a
  ·subst hb;rw[zre]at e;cases e;exact⟨hφ,⟨o,ho⟩,hs⟩
  ·rw[yhv hb]at e;exact(I.hok b u e).stay (fun c v _ q=>q) (fun c q=>by rw[yhv (nt c _ q)];exact q) fun c xs q=>by rw[yhv (nt c _ q)];exact q
theorem zid{C a:Addr}{dd:Option Addr}:∀ h1 h2:Heap,yaa C dd a h1->(∀ u,h1.get? a=some u->h2.get? a=some u)->yaa C dd a h2:=fun h1 h2 ⟨u,hu,q⟩ k=>⟨u,k u hu,q⟩
theorem zpr{dN:Addr}{n:Nat}:∀ h1 h2:Heap,yh6 dN n h1->(∀ u,h1.get? dN=some u->h2.get? dN=some u)->yh6 dN n h2:=fun h1 h2 ⟨u,hu,q⟩ k=>⟨u,k u hu,q⟩
theorem Lnd.track(L:Lnd X pins st H s ea (.ref C) fd):∃ dd H1,Inv X pins st H1 s/\H1 ea=some (.ext (yaa C dd ea))/\(∀ n,fd=some n->∃ dN,dd=some dN/\H dN=none/\H1 dN=some (.ext (yh6 dN n)))/\(∀ b u,H b=some u->H1 b=some u)/\∀ b u,H1 b=some u->H b=some u\/H b=none:=by
 have I:=L.inv;obtain⟨H0,s0,I0,F⟩:=L;obtain⟨ea',a0,B,e,fl,hn,hnew,hT,hB,hA,hF⟩:=F.ex;cases e;obtain⟨o,ho,hc⟩:=fl.there;cases hfd:fd with
 |none=>
  have I1:=zrb (φ:=yaa C none ea) I I0 hnew hn ho ⟨o,ho,hc,fun _ z=>by cases z⟩ zid;refine⟨none,_,I1,zre,(fun n q=>by cases q),fun b u e=>?_,fun b u e=>?_⟩
  ·rw[yhv (fun z=>by rw[z,hn]at e;cases e)];exact e
  ·by_cases hb:b=ea
   ·rw[hb];exact .inr hn
   ·rw[yhv hb]at e;exact .inl e
 |some n=>
  obtain⟨dN,oD,oe,q1,q2,q3,q4,q5,q6⟩:=hF n hfd;have oe':oe=o:=by rw[ho]at q1;cases q1;rfl
  subst oe';have hdN:=fl.1 dN oD q3;have ned:dN≠ea:=fun z=>by
   have:=fl.2.1;rw[<-z,q3]at this;cases this
  have I1:=zrb (φ:=yaa C (some dN) ea) I I0 hnew hn ho ⟨oe,ho,hc,fun _ z=>by cases z;exact⟨q2,fl.flds ho⟩⟩ zid;have I2:=zrb (φ:=yh6 dN n) I1 I0 q6 (by rw[yhv ned];exact q5) hdN ⟨oD,hdN,q4⟩ zpr;refine⟨some dN,_,I2,by rw[yhv (Ne.symm ned)];exact zre,fun m q=>?_,fun b u e=>?_,fun b u e=>?_⟩
  ·cases q;exact⟨dN,rfl,q5,zre⟩
  ·rw[yhv (fun z=>by rw[z,q5]at e;cases e),yhv (fun z=>by rw[z,hn]at e;cases e)];exact e
  ·by_cases hd:b=dN
   ·rw[hd];exact .inr q5
   ·rw[yhv hd]at e;by_cases hb:b=ea
    ·rw[hb];exact .inr hn
    ·rw[yhv hb]at e;exact .inl e
theorem zvl(I:Inv X pins st H s)(hs:X.stack=X.env::X.outer)(hf:X.env.frame=some X.env.locals){s':Shared}{H':Hp}{e:Value}(F:Fly X.prog X.w X.stack H s cls fd H' e s'){M:Model}{E:Value->Shared->Prop}{Q:Value->Shared->Prop}
  (h:∀ ea s'',e=.ref ea->Lnd X pins st H' s'' ea cls fd->Q e s''):wpAny M X.A (noteFrame e X.env) (fun _ s2=>wpAny M X.A (setFlight e none) (fun _ s3=>Q e s3) E s2) E s':=by
 obtain⟨ea,a0,B,rfl,fl,hn,hnew,hT,hB,hA,hF⟩:=F.ex;have fl':yob B (X.env::X.outer) ea cls a0 s'.heap:=by rw[<-hs];exact fl
 refine zvn (by rw[<-hs];exact I.ok.frames) hf fl' fun h4 held4 sm4 dk4=>?_;refine zvf (yc9 held4) fun h5 fl5 sm5 dk5=>h ea _ rfl ?_;have fl5':yob B X.stack ea cls a0 h5:=by rw[hs];exact fl5
 obtain⟨un,hok⟩:=ycl F hB hT hA fl.1 fl5'.1 (sm4.trans sm5) (zfw I);exact⟨H,s,I,⟨ea,a0,B,rfl,fl5',hn,hnew,hT,hB,hA,hF.next (dk4.trans dk5) (let ⟨o,e,_⟩:=fl5'.there;⟨o,e⟩)⟩,F.os,F.bare,un,hok⟩
end
def yh4(X:Cx)(x:Str)(cv:Value):Prop:=X.mg x=some cv\/(X.mg x=none/\bootBuiltins x=some cv/\x ≠ "__name__")
inductive FHs(T:Tb)(X:Cx):List ExceptHandler->List Hd->Prop where
 |nil:FHs T X [] []
 |cons {x:Str} {np pos:Pos} {cv:Value} {b₀:Stmt} {suite:List Stmt} {t:Nat->Option Bool} {g:Ev->M Fl} {r:List ExceptHandler} {hs:List Hd} (hg:Gl X x) (hd:(x == ("__debug__" : Str))=false) (hm:yh4 X x cv) (ht:∀ c b,t c=some b->W.exmOne X.K (.ref (T.ca c)) cv=some b)
   (hb:∀ e,FSs T (Cx.inH X e) (b₀::suite) g) (hr:FHs T X r hs):FHs T X (.ExceptHandler (some (.Name x np)) none (b₀::suite) pos::r) (⟨t,none,g⟩::hs)
 |consAs {x n:Str} {i:Nat} {np pos:Pos} {cv:Value} {b₀:Stmt} {suite:List Stmt} {t:Nat->Option Bool} {g:Ev->M Fl} {r:List ExceptHandler} {hs:List Hd} (hg:Gl X x) (hd:(x == ("__debug__" : Str))=false) (hm:yh4 X x cv) (ht:∀ c b,t c=some b->W.exmOne X.K (.ref (T.ca c)) cv=some b)
   (hN:X.N.Nodup) (hi:X.N[i]?=some n) (hl:X.env.scope.names.lookup n=some .local)
   (hb:∀ e,FSs T (Cx.inH X e) (b₀::suite) g) (hr:FHs T X r hs):FHs T X (.ExceptHandler (some (.Name x np)) (some n) (b₀::suite) pos::r) (⟨t,some i,g⟩::hs)
section
variable{T:Tb}{X:Cx}
theorem yks{pins:List (Addr × Obj)}{st:St}{H:Hp}{s:Shared}{x:Str}{cv:Value}{pos:Pos}{E:Value->Shared->Prop}{Q:Value->Shared->Prop}(I:Inv X pins st H s)(hg:Gl X x)(hd:(x == ("__debug__" : Str))=false)(hm:yh4 X x cv)(h:Q cv s):wpAny (model X.prog X.w) X.A (eval (.Name x pos) X.env) Q E s:=by
 rcases hm with hm|⟨hm,hv,hn⟩
 ·exact zvi I hg hm h hd
 ·exact yd8 I hg hm hv h hn hd
theorem zpo{e:Value}{μ:List Addr}{H:Hp}{o:Out Fl}{D:Ends}(hp:yol T EN (RFl T) μ H (o.bind noF) (yoa X D)):yol T EN (RFl T) μ H o (yoa (Cx.inH X e) D):=by
 cases o with
 |bad=>exact hp
 |ex x σ=>exact hp
 |ok fl σ=>
  intro μ1 gl H1 e1 r1 q1;cases fl with
  |nx ρ=>cases gl with
   |nx st=>exact hp μ1 (.nx st) H1 e1 r1 q1
   |_=>exact q1.elim
  |rt ρ=>cases gl with
   |rt st=>exact hp μ1 (.rt st) H1 e1 r1 q1
   |_=>exact q1.elim
  |bk ρ=>cases gl with
   |bk st=>exact hp μ1 (.bk st) H1 e1 r1 q1
   |_=>exact q1.elim
  |ct ρ=>cases gl with
   |ct st=>exact hp μ1 (.ct st) H1 e1 r1 q1
   |_=>exact q1.elim
  |xc ρ x=>exact hp.elim
theorem zfu{μ:List Addr}{H:Hp}{ρ:Ev}{st:St}(h:yn9 T μ H ρ st)(i:Nat):yn9 T μ H (ρ.set i none) (st.set i none):=by
 refine⟨by simpa using h.1,fun j d q=>?_⟩;rw[List.getElem?_set]at q;by_cases hj:i=j
 ·subst hj;rw[if_pos rfl]at q;split at q<;>cases q
 ·rw[if_neg hj]at q;obtain⟨v,h1,h2⟩:=h.2 j d q;exact⟨v,by rw[List.getElem?_set,if_neg hj];exact h1,h2⟩
theorem zpp{e:Value}{μ:List Addr}{H:Hp}{o:Out Fl}{D:Ends}{i:Nat}(hp:yol T EN (RFl T) μ H (o.bind (ys9 i)) (yoa X D)):yol T EN (RFl T) μ H o (yoa (Cx.inH X e) ⟨fun st H=>D.nx (st.set i none) H,D.rt,fun st H=>D.bk (st.set i none) H,fun st H=>D.ct (st.set i none) H⟩):=by
 cases o with
 |bad=>exact hp
 |ex x σ=>exact hp
 |ok fl σ=>
  intro μ1 gl H1 e1 r1 q1;cases fl with
  |nx ρ=>cases gl with
   |nx st=>exact hp μ1 (.nx (st.set i none)) H1 e1 r1 (zfu q1 i)
   |_=>exact q1.elim
  |rt ρ=>cases gl with
   |rt st=>exact hp μ1 (.rt st) H1 e1 r1 q1
   |_=>exact q1.elim
  |bk ρ=>cases gl with
   |bk st=>exact hp μ1 (.bk (st.set i none)) H1 e1 r1 (zfu q1 i)
   |_=>exact q1.elim
  |ct ρ=>cases gl with
   |ct st=>exact hp μ1 (.ct (st.set i none)) H1 e1 r1 (zfu q1 i)
   |_=>exact q1.elim
  |xc ρ x=>exact hp.elim
theorem zi6{pins:List (Addr × Obj)}{st:St}{H:Hp}{s:Shared}{n:Str}{i t:Nat}{h':Heap}{m:Str->Option Value}(I:Inv X pins st H s)(hN:X.N.Nodup)(hi:X.N[i]?=some n)(hl:X.env.scope.names.lookup n=some .local)(hn:s.heap.Ns X.env.locals m){w:Option Value}(hn':h'.Ns X.env.locals fun y=>if y=n then w else m y)(hs:Heap.SameBut X.env.locals s.heap h'):Inv X pins (st.set i none) H { s with heap:=h',toks:=t }:=by
 have neL:∀ b o,X.s₀.heap.get? b=some o->b≠X.env.locals:=fun b o e=>Nat.ne_of_lt (Nat.lt_of_lt_of_le (Heap.lt_size e) I.ok.above);obtain⟨m0,hm0,hloc⟩:=I.loc;have em:m0=m:=by
  obtain⟨o,es,ep,ho,hd,hk,hf⟩:=hm0;obtain⟨o',es',ep',ho',hd',hk',hf'⟩:=hn;rw[ho]at ho';cases ho';rw[hd]at hd';cases hd';funext y;rw[<-hf y,<-hf' y]
 subst em;refine⟨I.ok,I.os,I.bare,⟨fun b o e n hb hx=>(hs.2 b (neL b o e)).trans (I.base.keep b o e n hb hx),fun b o e n hb hx=>?_,I.base.free,fun b o e hx=>?_,I.base.tups,I.base.frzs,I.base.tbls⟩,⟨_,hn',fun j y v e1 e2 e3=>?_⟩,fun y c e=>?_,I.free,I.freeC,fun p hp=>?_,ydi I.hok fun b o u e q=>?_,by simpa using I.len⟩
 ·obtain⟨sl,q⟩:=I.base.slot b o e n hb hx;exact⟨sl,(hs.2 b (neL b o e)).trans q⟩
 ·obtain⟨o',q⟩:=I.base.there b o e hx;exact⟨o',(hs.2 b (neL b o e)).trans q⟩
 ·rw[List.getElem?_set]at e2;by_cases hj:i=j
  ·subst hj;rw[if_pos rfl]at e2;split at e2<;>cases e2
  ·rw[if_neg hj]at e2;obtain⟨u,r,lk⟩:=hloc j y v e1 e2 e3;refine⟨u,r,?_⟩;have hy:y≠n:=fun z=>hj (zow hN hi (z ▸ e1));rcases lk with⟨k,q⟩|⟨k,c,q,z⟩
   ·exact .inl ⟨k,by show (if y=n then w else m0 y)=some u;rw[if_neg hy];exact q⟩
   ·exact .inr ⟨k,c,q,z.sameBut hs (I.cne y c q)⟩
 ·obtain⟨v,z⟩:=I.cell y c e;exact⟨v,z.sameBut hs (I.cne y c e)⟩
 ·obtain⟨q1,q2,q3,q4⟩:=I.pin p hp;exact⟨(hs.2 p.1 q3).trans q1,q2,q3,q4⟩
 ·exact(hs.2 b fun z=>by rw[z,I.free]at e;cases e).trans q
theorem zeb{D:Ends}{pins:List (Addr × Obj)}{st:St}{H:Hp}{ea:Addr}{x:Xn}{μ:List Addr}{ρ:Ev}{σ:Sto}{hds:List ExceptHandler}{hs:List Hd}(h:FHs T X hds hs)(hE:yn9 T μ H ρ st)(hr:Rel T μ H σ)(hp:yol T EN (RFl T) μ H (yc7 ρ x hs σ) (yoa X D)) :
  ∀ s,Lnd X pins st H s ea (T.cv x) (fdN x.cls)->wpAny (model X.prog X.w) X.A (handleBy (.ref ea) X.env hds) (SP X pins D) X.xe s:=by
 induction h with
 |nil=>exact hp.elim
 |@cons y np pos cv b₀ suite t g r hs hg hd hm ht hb hrest ih=>
  intro s L;have I:=L.inv;obtain⟨_,⟨o,ho,hc⟩,_⟩:=L.obj;refine wpAny_handleBy_cons (codeAny_handlers_test (yks (X:=Cx.inH X (.ref ea)) (zu0 I) hg hd hm ?_)) (by intro q;cases q);unfold yc7 at hp;dsimp only at hp;cases et:t x.cls with
  |none=>rw[et]at hp;exact hp.elim
  |some b=>
   rw[et]at hp;have LT:W.Looks (model X.prog X.w) s.heap (typeOf (.ref ea)) (T.cv x):=by rw[<-hc];exact(W.Looks.ld ho).andThen .now
   refine(W.exm_one I.kIn LT (ht x.cls b et)).here ?_;cases b with
   |false=>exact ih hp s L
   |true=>
    refine codeAny_handlers_suite (L.next fun s' L'=>?_);exact wpAny_mono (hb (.ref ea) pins s' st H D (zu0 L'.inv) ⟨μ,ρ,σ,hE,hr,zpo hp⟩) (fun f s2 q=>zzg I.ok q) fun _ _ z=>z.elim
 |@consAs y n i np pos cv b₀ suite t g r hs hg hd hm ht hN hi hl hb hrest ih=>
  intro s L;have I:=L.inv;obtain⟨_,⟨o,ho,hc⟩,_⟩:=L.obj;refine wpAny_handleBy_cons (codeAny_handlers_test (yks (X:=Cx.inH X (.ref ea)) (zu0 I) hg hd hm ?_)) (by intro q;cases q);unfold yc7 at hp;dsimp only at hp;cases et:t x.cls with
  |none=>rw[et]at hp;exact hp.elim
  |some b=>
   rw[et]at hp;have LT:W.Looks (model X.prog X.w) s.heap (typeOf (.ref ea)) (T.cv x):=by rw[<-hc];exact(W.Looks.ld ho).andThen .now
   refine(W.exm_one I.kIn LT (ht x.cls b et)).here ?_;cases b with
   |false=>exact ih hp s L
   |true=>
    refine codeAny_handlers_suite_as (L.next fun s' L'=>?_);have hn:H ea=none:=L'.obj.1;obtain⟨dd,H1,I1,hea,hdd,up1,dn1⟩:=Lnd.track L';have oldN:∀ b,b∈μ->∃ u,H b=some u:=fun b z=>by obtain⟨u,hu,_⟩:=hr.mem z;exact⟨u,hu⟩
    have ex1:Ext μ H μ H1:=⟨⟨[],by simp⟩,fun p xs e=>up1 _ _ e,fun p o u e=>up1 _ _ e,fun p o e n=>⟨⟨o,up1 _ _ e,.inl rfl⟩,n⟩⟩
    have out:ea ∉ μ:=fun z=>by obtain⟨u,hu⟩:=oldN _ z;rw[hn]at hu;cases hu
    have rp:Rep T μ H1 (.exn x.cls) (.ref ea):=by
     rw[Rep];refine⟨ea,dd,rfl,out,hea,fun n q=>?_⟩;obtain⟨dN,z1,z2,z3⟩:=hdd n q;exact⟨dN,z1,fun z=>(by obtain⟨u,hu⟩:=oldN _ z;rw[z2]at hu;cases hu),z3⟩
    refine zq6 (X:=Cx.inH X (.ref ea)) (v:=.ref ea) (zu0 I1) hN hi (.inl hl) rfl (fun s2 I2=>?_) (.inr hl);refine wpAny_mono (hb (.ref ea) pins s2 _ _ ⟨fun st H=>D.nx (st.set i none) H,D.rt,fun st H=>D.bk (st.set i none) H,fun st H=>D.ct (st.set i none) H⟩ I2 ⟨μ,ρ.set i (some (.exn x.cls)),σ,(hE.mono ex1).set i rp,hr.keep ex1 (fun a ha=>by obtain⟨u,hu⟩:=oldN a ha;rw[up1 _ _ hu,hu]) (hr.tb.grow up1),zpp (yol.mono ex1 hp)⟩) (fun f s3 q=>?_) fun _ _ z=>z.elim;have cls0:(X.env.scope.kind == .class || (X.env.scope.kind == .module && X.env.locals != X.env.globals))=false:=by rw[I.ok.kind];rfl
    have go:∀ {st3:St} {H3:Hp},Inv (Cx.inH X (.ref ea)) pins st3 H3 s3->(∀ s4,Inv X pins (st3.set i none) H3 s4->SP X pins D f s4)->wpAny (model X.prog X.w) X.A (do bindName X.env n .none;unbindBehindTheSuite X.env n pos) (fun _ s₃=>SP X pins D f s₃) X.xe s3:=fun {st3 H3} I3 k=>by
     have J:=znt I.ok I3;obtain⟨m,hm3,_⟩:=id J.loc;exact wpAny_nameGoes_keeps hl hm3 cls0 fun h4 v4 hn4 sb4=>k _ (zi6 J hN hi hl hm3 hn4 sb4)
    cases f with
    |next=>obtain⟨st3,H3,I3,q3⟩:=q;exact go I3 fun s4 I4=>⟨_,_,I4,q3⟩
    |brk=>obtain⟨st3,H3,I3,q3⟩:=q;exact go I3 fun s4 I4=>⟨_,_,I4,q3⟩
    |cont=>obtain⟨st3,H3,I3,q3⟩:=q;exact go I3 fun s4 I4=>⟨_,_,I4,q3⟩
    |ret u=>obtain⟨v,st3,H3,I3,r3,q3⟩:=q;exact go I3 fun s4 I4=>⟨v,_,_,I4,r3,q3⟩
theorem ycx{body:List Stmt}{h₀:ExceptHandler}{hds:List ExceptHandler}{hs:List Hd}{g:Ev->M Fl}{pos:Pos}(hst:X.stack=X.env::X.outer)(hf:X.env.frame=some X.env.locals)
  (hb:∀ pins xe,PassesOwn (model X.prog X.w) X.A X.env xe->FSs T (Cx.inT X pins xe) body g) (hh:FHs T X (h₀::hds) hs):FS T X (.Try body (h₀::hds) [] [] pos) (yse g hs):=by
 intro pins s st H D I hw;obtain⟨μ,ρ,σ,hE,hr,hp⟩:=hw;refine wpAny_Try_except ?_;refine wpAny_mono (hb pins (fun e s₁=>wpAny (model X.prog X.w) X.A (noteFrame e X.env) (fun _ s₂=>wpAny (model X.prog X.w) X.A (setFlight e none) (fun _ s₃=>wpAny (model X.prog X.w) X.A (handleBy e X.env (h₀::hds)) (SP X pins D) X.xe s₃) X.xe s₂) X.xe s₁) PassesOwn.looking [] s st H D (zu1 I)
  ⟨μ,ρ,σ,hE,hr,?_⟩) (fun f s1 q=>?_) fun _ _ z=>z
 ·have hp':yol T EN (RFl T) μ H ((g ρ σ).bind (ys6 hs)) (yoa X D):=hp;cases eo:g ρ σ with
  |bad=>rw[eo]at hp';exact hp'
  |ex x σ1=>rw[eo]at hp';exact hp'
  |ok fl σ1=>
   rw[eo]at hp';intro μ1 gl H1 e1 r1 q1;have p1:=hp'.mono e1;cases fl with
   |nx ρ=>cases gl with
    |nx st=>exact p1 μ1 (.nx st) H1 (Ext.refl _ _) r1 q1
    |_=>exact q1.elim
   |rt ρ=>cases gl with
    |rt st=>exact p1 μ1 (.rt st) H1 (Ext.refl _ _) r1 q1
    |_=>exact q1.elim
   |bk ρ=>cases gl with
    |bk st=>exact p1 μ1 (.bk st) H1 (Ext.refl _ _) r1 q1
    |_=>exact q1.elim
   |ct ρ=>cases gl with
    |ct st=>exact p1 μ1 (.ct st) H1 (Ext.refl _ _) r1 q1
    |_=>exact q1.elim
   |xc ρ1 x=>cases gl with
    |xc st1 cls fd=>
     obtain⟨hE1,rfl,rfl⟩:=q1;refine⟨fun p0 H0 s0 e s' I0 F=>?_⟩;exact zvl (znu I0) hst hf F (Q:=fun e s₃=>wpAny (model X.prog X.w) X.A (handleBy e X.env (h₀::hds)) (SP X pins D) X.xe s₃) fun ea s'' ee L=>by subst ee;exact zeb hh hE1 r1 p1 s'' L
    |_=>exact q1.elim
 ·have q':=zzh q;cases f with
  |next=>exact wpAny_execs_nil q'
  |brk=>exact q'
  |cont=>exact q'
  |ret u=>exact q'
end
theorem zt9{T:Tb}{X:Cx}{stm:Stmt}{i:Nat}{f:Ev->M D}(h:FS T X stm (ysd i f)):FS T X stm (ysd i (ypv f)):=by
 intro pins s st H D I hw;obtain⟨μ,ρ,σ,hE,hr,hp⟩:=hw;refine h pins s st H D I ⟨μ,ρ,σ,hE,hr,?_⟩;have hp':yol T EN (RFl T) μ H (xs ρ (frz (f ρ)) (ysh i ρ) σ) (yoa X D):=hp;show yol T EN (RFl T) μ H (xs ρ (f ρ) (ysh i ρ) σ) (yoa X D);unfold xs frz at hp';unfold xs;cases e:f ρ σ with
 |bad=>rw[e]at hp';exact hp'
 |ex x σ1=>
  rw[e]at hp';unfold yp9 at hp';dsimp only at hp' ⊢;by_cases ht:σ1.take σ.length=σ
  ·rw[if_pos ht]at hp';intro μ1 gl H1 e1 r1 q1;cases gl with
   |xc st1 c1 fd1=>
    obtain⟨r2,e2⟩:=Rel.down hr r1 e1 ht;obtain⟨qE,qc⟩:=q1;refine hp' μ (.xc st1 c1 fd1) H1 e2 r2 ⟨⟨qE.1,fun j d ej=>?_⟩,qc⟩;obtain⟨v,h1,h2⟩:=qE.2 j d ej;obtain⟨v0,_,h4⟩:=hE.2 j d ej;exact⟨v,h1,Rep.down e1.pre d v0 v h4 h2⟩
   |_=>exact q1.elim
  ·rw[if_neg ht]at hp';exact hp'.elim
 |ok d σ1=>
  rw[e]at hp';unfold yp9 at hp';dsimp only at hp' ⊢;by_cases ht:σ1.take σ.length=σ
  ·rw[if_pos ht]at hp';cases ef:fz σ.length σ1 6 d with
   |none=>rw[ef]at hp';exact hp'.elim
   |some d'=>
    rw[ef]at hp';intro μ1 gl H1 e1 r1 q1;cases gl with
    |nx st1=>
     obtain⟨r2,e2⟩:=Rel.down hr r1 e1 ht;have q1':yn9 T μ1 H1 (ρ.set i (some d)) st1:=q1;refine hp' μ (.nx st1) H1 e2 r2 ⟨by simpa using q1'.1,fun j x ej=>?_⟩;rw[List.getElem?_set]at ej;by_cases hj:i=j
     ·subst hj;rw[if_pos rfl]at ej;split at ej
      ·rename_i hl
       cases ej;obtain⟨v,h1,h2⟩:=q1'.2 i d (by rw[List.getElem?_set,if_pos rfl,if_pos hl]);exact⟨v,h1,yc6 e1.pre r1 6 d d' v (by rw[hr.len];exact ef) h2⟩
      ·cases ej
     ·rw[if_neg hj]at ej;obtain⟨v,h1,h2⟩:=q1'.2 j x (by rw[List.getElem?_set,if_neg hj];exact ej);obtain⟨v0,_,h4⟩:=hE.2 j x ej;exact⟨v,h1,Rep.down e1.pre x v0 v h4 h2⟩
    |_=>exact q1.elim
  ·rw[if_neg ht]at hp';exact hp'.elim
def yim:List D->Option (List Bool)
 |[]=>some []
 | .bl b::r=>(yim r).map (b::·)
 |_::_=>none
def ydm:List D->Option (List Int)
 |[]=>some []
 | .int b::r=>(ydm r).map (b::·)
 |_::_=>none
theorem zr7{T:Tb}{μ:List Addr}{H:Hp}:∀ {ds:List D} {vs:List V} {bs:List Bool},yot T μ H ds vs->yim ds=some bs->vs=bs.map V.bl
 |[],vs,bs,r,h=>by cases h;rw[yot]at r;exact r
 |d::ds,vs,bs,r,h=>by
  rw[yot]at r;obtain⟨v,w,rfl,h1,h2⟩:=r;cases d with
  |bl b=>
   obtain⟨cs,e1,e2⟩:=Option.map_eq_some_iff.mp h;subst e2;rw[Rep]at h1;subst h1;rw[zr7 h2 e1];rfl
  |_=>cases h
theorem znr{T:Tb}{μ:List Addr}{H:Hp}:∀ {ds:List D} {vs:List V} {bs:List Int},yot T μ H ds vs->ydm ds=some bs->vs=bs.map V.int
 |[],vs,bs,r,h=>by cases h;rw[yot]at r;exact r
 |d::ds,vs,bs,r,h=>by
  rw[yot]at r;obtain⟨v,w,rfl,h1,h2⟩:=r;cases d with
  |int b=>
   obtain⟨cs,e1,e2⟩:=Option.map_eq_some_iff.mp h;subst e2;rw[Rep]at h1;subst h1;rw[znr h2 e1];rfl
  |_=>cases h
def yq3(xs:List D):M D:=fun σ=>match xs with
 |[x]=>(match (ymy σ x).bind yim with
  |some bs=>.ok (.bl (bs.all id)) σ
  |none=>.bad)
 |_=>.bad
def yrh(xs:List D):M D:=fun σ=>match xs with
 |[x]=>(match (ymy σ x).bind ydm with
  |some bs=>.ok (.int bs.sum) σ
  |none=>.bad)
 |_=>.bad
section
variable{T:Tb}{X:Cx}
def ymc(K:W.Frag)(g:List Bool->Bool):List V->Hp->VK->Prop:=fun xs H Q=>∃ p bs,xs=[.ref p]/\(SqL K H p (bs.map V.bl)\/SqT K H p (bs.map V.bl))/\Q (.bl (g bs)) H
theorem zz6:∀ {bs:List Bool} {us:List Value},yo0 (bs.map V.bl) us->us=bs.map Value.bool
 |[],us,h=>by cases h;rfl
 |b::bs,us,h=>by
  cases h with
  |cons r t=>cases r;rw[zz6 t];rfl
theorem zpz{α:Type}(g:α->Bool)(d:α):∀ (bs:List α),(List.range bs.length).all (fun i=>g (bs.getD i d))=bs.all g
 |[]=>rfl
 |b::bs=>by
  rw[List.length_cons,List.range_succ_eq_map,List.all_cons,List.all_map,List.all_cons];congr 1;rw[<-zpz g d bs];congr 1
theorem zrc{prog:Program}{w:World}{A:Around}(bs:List Bool):TruthOf prog w A (fun i v=>(bs.map Value.bool).toArray[i]?=some v) (fun i=>bs.getD i false):=by
 intro i v s Q E hP hQ;simp only[List.getElem?_toArray,List.getElem?_map]at hP;cases e:bs[i]? with
 |none=>rw[e]at hP;cases hP
 |some b=>
  rw[e]at hP;cases hP;have hQ':Q (bs.getD i false) s:=hQ;rw[List.getD_eq_getElem?_getD,e]at hQ';exact wpAny_truthy_bool hQ'
theorem zn2{s:Shared}{o:Obj}{h':Heap}(k:∀ b u,b ∉ [s.heap.objs.size]->(s.heap.push o).get? b=some u->h'.get? b=some u):∀ b u,s.heap.get? b=some u->h'.get? b=some u:=fun b u e=>
 k b u (fun z=>absurd (Heap.lt_size e) (by rw[List.mem_singleton.mp z];exact Nat.lt_irrefl _)) (Heap.get?_push_of_some _ e)
theorem zrk{pins:List (Addr × Obj)}{s:Shared}{st:St}{H:Hp}{p:Addr}{vs:List V}{E:Value->Shared->Prop}{Q:Value->Shared->Prop}(hh:X.A.handled=none)(I:Inv X pins st H s)(hq:SqL X.K H p vs\/SqT X.K H p vs)
  (h:∀ (its:List Value) (It:Addr) (fp:List Addr) (St:Nat->Heap->Prop) (s2:Shared),yo0 vs its->Walks X.prog X.w X.A.in1 It fp [It] its.toArray.size (fun i v=>its.toArray[i]?=some v) St->St 0 s2.heap->(∀ b∈fp,b<s2.heap.objs.size)->
   (∀ h' tk,(∀ b o,b ∉ [It]->s2.heap.get? b=some o->h'.get? b=some o)->Inv X pins st H { s2 with heap:=h',toks:=tk })->Q (.ref It) s2):wpAny (model X.prog X.w) X.A.in1 (pyIter (.ref p)) Q E s:=by
 rcases hq with hq|hq
 ·obtain⟨its,rv,pl,hz⟩:=I.list hq;have hlt:p<s.heap.objs.size:=by obtain⟨_,e,_⟩:=pl.isList;exact Heap.lt_size e
  refine wpAny_pyIter_list pl.isList (h its s.heap.objs.size [s.heap.objs.size,p] _ _ rv (Walks.list (A:=X.A.in1) hh _ p (Nat.ne_of_lt hlt) its.toArray) ⟨⟨_,Heap.get?_push_size _ rfl,rfl,rfl⟩,pl.isList.push _⟩ (fun b hb=>?_) (fun h' tk hk=>I.kept (zn2 hk)));show b<(s.heap.push _).objs.size;rw[Heap.size_push];simp only[List.mem_cons,List.not_mem_nil,or_false]at hb;rcases hb with rfl|rfl
  ·exact Nat.lt_succ_self _
  ·exact Nat.lt_succ_of_lt hlt
 ·obtain⟨its,rv,pl,hz⟩:=I.tuple hq;have hlt:p<s.heap.objs.size:=pl.lt;refine wpAny_pyIter_tuple (show s.heap.IsTuple p _ from pl) (h its s.heap.objs.size [s.heap.objs.size,p] _ _ rv (Walks.tuple (A:=X.A.in1) hh _ p (Nat.ne_of_lt hlt) its.toArray) ⟨⟨_,Heap.get?_push_size _ rfl,rfl,rfl⟩,Heap.IsTuple.push (show s.heap.IsTuple p _ from pl) _⟩ (fun b hb=>?_) (fun h' tk hk=>I.kept (zn2 hk)));show b<(s.heap.push _).objs.size;rw[Heap.size_push];simp only[List.mem_cons,List.not_mem_nil,or_false]at hb;rcases hb with rfl|rfl
  ·exact Nat.lt_succ_self _
  ·exact Nat.lt_succ_of_lt hlt
theorem zlh(hc:X.calm=true):yh0 X (.builtin "all") (ymc X.K fun bs=>bs.all id):=by
 intro pins s st H xs us Q I r h;obtain⟨p,bs,rfl,hq,q⟩:=h;obtain⟨u,rfl,ru⟩:=yny r;cases ru;refine call_all_walk (zrk (I.ok.hd hc) I hq fun its It fp St s2 rv W h0 hf hI=>?_);have ei:=zz6 rv;subst ei;refine⟨_,_,_,_,_,_,fun i=>bs.getD i false,rfl,W,h0,zrc bs,fun h' tk hk=>⟨.bl (bs.all id),H,hI h' tk hk,?_,q⟩⟩;show Value.bool _=Value.bool _;rw[List.size_toArray,List.length_map];exact congrArg Value.bool (zpz id false bs)
theorem zqi{α:Type}{σ:Sto}{x:D}{g:List D->Option α}{bs:α}(h:(ymy σ x).bind g=some bs):∃ ys,ymy σ x=some ys/\g ys=some bs:=Option.bind_eq_some_iff.mp h
theorem zy4(hK:T.K=X.K):zro T (ymc X.K fun bs=>bs.all id) yq3:=by
 intro E μ H σ xs vs Q r p h
 match xs with
 |[]=>exact h.elim
 |[x]=>
  rw[yot]at p;obtain⟨v,w,rfl,p1,p2⟩:=p;rw[yot]at p2;subst p2;unfold yq3 at h;cases e:(ymy σ x).bind yim with
  |none=>simp only[e]at h;exact h.elim
  |some bs=>
   simp only[e]at h;obtain⟨ys,e1,e2⟩:=zqi e;obtain⟨b,vs,rfl,h1,h2⟩:=zym r p1 e1;rw[hK,zr7 h1 e2]at h2;exact⟨b,bs,rfl,h2,yol.here h r (by rw[Rep])⟩
 |_::_::_=>exact h.elim
def ddp(ns:List Int):List Int:=ns.foldl step_dedup []
theorem zh7(ns:List Int):firstMet (fun i=>ns.getD i 0) ns.length=ddp ns:=by
 unfold firstMet ddp;congr 1;apply List.ext_getElem?;intro i;by_cases h:i<ns.length
 ·simp[h]
 ·simp[h]
def zwj(x:D):M D:=fun σ=>match (yqt σ x).bind ydm with
 |some ns=>if ns.length<=cap then .ok (.int (ddp ns).length) σ else .bad
 |none=>.bad
def yrw(K:W.Frag):List V->Hp->VK->Prop:=fun xs H Q=>∃ (p:Addr) (ns:List Int),xs=[.ref p]/\SqL K H p (ns.map V.int)/\ns.length<=cap/\∀ l,H l=none->Q (.ref l) (upd H l (.set (fun k=>(ddp ns).any (·== k)) (ddp ns).length))
theorem zlm{n:Nat}(h:n<=cap):n+1<scanBound:=Nat.lt_of_le_of_lt (Nat.succ_le_succ h) (by decide)
theorem zhw(hc:X.calm=true):yh0 X (.type "set") (yrw X.K):=by
 intro pins s st H xs us Q I r h;obtain⟨p,ns,rfl,hq,hl,q⟩:=h;obtain⟨u,rfl,ru⟩:=yny r;cases ru;obtain⟨its,rv,pl,hz⟩:=I.list hq;have el:its.length=ns.length:=by rw[<-rv.length,List.length_map]
 refine call_set_list (I.ok.hd hc) pl.isList (ns:=ns) (zf7 rv) (by rw[List.size_toArray,el];exact zlm hl) fun h' tk hs hk=>?_;rw[show its.toArray.size=ns.length by rw[List.size_toArray,el],zh7]at hs;refine⟨.ref s.heap.objs.size,_,I.laid (t':=tk) (o:=.set (fun k=>(ddp ns).any (·== k)) (ddp ns).length) (fun b o e=>hk b o (Heap.lt_size e) e) (Nat.le_refl _) ?_,rfl,q _ (I.hok.fresh (Nat.le_refl _))⟩;exact hs
theorem zhv : yh0 X (.builtin "len") (fun xs H Q => ∃ (p : Addr) (S : Int -> Bool) (n : Nat), xs = [.ref p] /\ H p = some (.set S n) /\ Q (.int n) H) := by
  intro pins s st H xs us Q I r h;obtain ⟨p, S, n, rfl, hp, q⟩ := h;obtain ⟨u, rfl, ru⟩ := yny r;cases ru;obtain ⟨o, es, ep, t, h1, h2, h3, h4, h5, h6, h7, h8⟩ := (show yh5 X.prog X.w H s.heap p (.set S n) from I.hok p _ hp)
  refine call_len_set h1 h2 h3 h7 (by have : scanBound <= 2 ^ 62 := by decide
                                      omega) ⟨.int n, H, I.tok _, ⟨_, by rw [h8]⟩, q⟩
theorem zii{e:Expr}{f:Ev->M D}{p p2 pos pos2:Pos}(hK:T.K=X.K)(hc:X.calm=true)(hg:Gl X "len")(hm:X.mg "len" = none)(hg2:Gl X "set")(hm2:X.mg "set" = none)(he:FE T X e f)
  (hs:starEach [e] X.env=(false,eval e X.env)::starEach [] X.env:=by rfl) (hpl:(backTo pos2 (starEach [] X.env)).any (·.1)=false:=by rfl)
  (hs2:starEach [.Call (.Name "set" p2) [e] [] pos2] X.env=(false,eval (.Call (.Name "set" p2) [e] [] pos2) X.env)::starEach [] X.env:=by rfl) (hpl2:(backTo pos (starEach [] X.env)).any (·.1)=false:=by rfl) :
  FE T X (.Call (.Name "len" p) [.Call (.Name "set" p2) [e] [] pos2] [] pos) (eUn zwj f):=by
 intro pins s st H Q I h;refine zpe zhv hg hm PySem.boot_len (zwx (zjz (zhw hc) hg2 hm2 rfl (zwx he yfi hs) (by decide) (by decide) hs hpl) yfi hs2) (by decide) (by decide) hs2 hpl2 pins s st H Q I ?_;obtain⟨μ,ρ,σ,hE,hr,hp⟩:=h;refine⟨μ,ρ,σ,hE,hr,hp.bind fun d σ1 μ1 v H1 _ e1 r1 q1 p1=>?_⟩;unfold zwj at p1;cases e2:(yqt σ1 d).bind ydm with
 |none=>rw[e2]at p1;exact p1.elim
 |some ns=>
  rw[e2]at p1;dsimp only at p1;by_cases hl:ns.length<=cap
  ·rw[if_pos hl]at p1;obtain⟨ys,e3,e4⟩:=Option.bind_eq_some_iff.mp e2;obtain⟨a,vs,rfl,h1,h2⟩:=r1.ls q1 e3;have ev:=znr h2 e4;subst ev;refine⟨a,ns,rfl,SqL.of h1,hl,fun l hn=>?_⟩;exact⟨l,_,_,rfl,zre,p1 μ1 (.int (ddp ns).length) _ (zs8 hn) (r1.fresh hn) (by rw[Rep])⟩
  ·rw[if_neg hl]at p1;exact p1.elim
def ypn(xs:List D)(lo hi:Option Int):List D:=(xs.drop (HT.sIx xs.length 0 lo)).take (HT.sIx xs.length xs.length hi - HT.sIx xs.length 0 lo)
theorem zfr{xs:List D}{lo hi:Option Int}(h:HT.sIx xs.length 0 lo=0/\HT.sIx xs.length xs.length hi=xs.length):ypn xs lo hi=xs:=by
 unfold ypn;rw[h.1,h.2];simp
theorem zlu{μ:List Addr}{H:Hp}{xs:List D}{vs:List V}(r:yot T μ H xs vs)(lo hi:Option Int):yot T μ H (ypn xs lo hi) (ypp vs lo hi):=by
 unfold ypn ypp;rw[r.length];exact yot.take _ (yot.drop _ r)
end
end L4
namespace HT
open PySem PySem.Spec PyProof.Rows
variable{prog:Program}{w:World}{A:Around}{E:Value->Shared->Prop}{s:Shared}
theorem getItem_tuple_all{t sl:Addr}{items:Array Value}{vl vu:Value}{lo hi:Option Int}{Q:Value->Shared->Prop}(ht:IsTup s.heap t items)(hs:s.heap.IsSliceOf sl vl vu .none)(pl:IsPart vl lo)(pu:IsPart vu hi)
  (hw:sIx items.size 0 lo=0/\sIx items.size items.size hi=items.size) (h:Q (.ref t) s):wpAny (model prog w) A (getItem (.ref t) (.ref sl)) Q E s:=by
 obtain⟨os,hos,hcs,hds⟩:=id hs;have hTs:s.TypeIs (.ref sl) "slice":=⟨os,hos,hcs⟩
 unfold getItem;try with_reducible refine wpAny_holding ?_
 first|refine wpAny_bind (wpAny_pure ?_)|skip
 refine wpAny_bind (wpAny_sequenceKey ht.typeIs (by decide) ?_);refine wpAny_bind (wpAny_callSpecial?_slot (name:=Str.ofString "__getitem__") ht.typeIs PyProof.Rows.slot_tuple_getitem
  (wpAny_call_entry PyProof.Rows.slot_tuple_getitem ht.typeIs entry_tuple_getitem ?_ (args_tuple_getitem _ _)))
 show wpAny _ _ (Builtin.Tuple.tupleItemsOf (.ref t) >>= _) _ _ s;refine wpAny_bind (tupleItemsOf_ ht ?_);refine wpAny_bind (wpAny_typeOf hTs ?_);rw[if_pos (by decide)];refine wpAny_bind (zba hs pl pu ?_);have hyes:(((sIx items.size 0 lo:Nat):Int) == 0 && (1:Int) == 1 && (sIx items.size items.size hi - sIx items.size 0 lo) == items.size)=true:=by
  rw[hw.1,hw.2];simp
 show wpAny _ _ (if (((sIx items.size 0 lo:Nat):Int) == 0 && (1:Int) == 1 && (sIx items.size items.size hi - sIx items.size 0 lo) == items.size)=true then _ else _) _ _ s;rw[if_pos hyes];obtain⟨o,ho,hc,hr⟩:=id ht;unfold Builtin.Tuple.tupleIsExact;refine wpAny_bind (wpAny_bind (wpAny_typeOf ht.typeIs ?_));refine wpAny_pure ?_;rw[if_pos (by decide)];refine wpAny_bind (wpAny_rule ?_);first
  |exact wpAny_pure ⟨_,rfl,wpAny_pure h⟩
  |exact wpAny_pure (wpAny_pure ⟨_,rfl,wpAny_pure h⟩)
  |exact wpAny_bind (wpAny_pure (wpAny_pure ⟨_,rfl,wpAny_pure h⟩))
end HT
namespace L4
open PySem PySem.Spec PyProof.Rows L2
section
variable{T:Tb}{X:Cx}
def yrx(K:W.Frag):V->Option Int->Option Int->Hp->VK->Prop:=fun x lo hi H Q=>∃ a xs,x=.ref a/\SqT K H a xs/\(HT.sIx xs.length 0 lo=0/\HT.sIx xs.length xs.length hi=xs.length)/\Q (.ref a) H
theorem ygp:SlR X (yrx X.K):=by
 intro pins s st H x v vl vu lo hi sl Q I rx hs pl pu h;obtain⟨a,xs,rfl,hx,hw,q⟩:=h;cases rx;obtain⟨its,r,ht,hz⟩:=I.tuple hx;have hlen:its.toArray.size=xs.length:=by rw[List.size_toArray];exact r.length.symm
 exact⟨"tuple",_,PyProof.Rows.slot_tuple_getitem.lookup,ht.typeIs,HT.getItem_tuple_all ht hs pl pu (by rw[hlen];exact hw) ⟨.ref a,H,I,rfl,q⟩⟩
abbrev PF:=Option (Ev->M D)
def yl0(d:D):M (Option Int):=match d with
 | .int i=>ret (some i)
 |_=>bad
def yi3(p:PF):Ev->M (Option Int):=match p with
 |none=>fun _=>ret none
 |some f=>fun ρ=>bnd (f ρ) yl0
def tP(T:Tb)(X:Cx)(f:Ev->M (Option Int)):TO:=fun st H Q=>∃ μ ρ σ,yn9 T μ H ρ st/\Rel T μ H σ/\yol T (XE X st) (fun _ _ a b=>b=a) μ H (f ρ σ) Q
abbrev FO(T:Tb)(X:Cx)(e:Option Expr)(p:PF):Prop:=PO X e (tP T X (yi3 p))
theorem ztw:FO T X none none:=by
 intro pins s st H Q I h;obtain⟨μ,ρ,σ,hE,hr,hp⟩:=h;exact zxd pins s st H Q I (yol.here hp hr rfl)
theorem zt0{e:Expr}{f:Ev->M D}(he:FE T X e f):FO T X (some e) (some f):=by
 intro pins s st H Q I h;refine zxe he pins s st H Q I ?_;obtain⟨μ,ρ,σ,hE,hr,hp⟩:=h;refine⟨μ,ρ,σ,hE,hr,yol.bind hp fun d σ1 μ1 v H1 _ e1 r1 q1 p1=>?_⟩;cases d with
 |int i=>exact⟨i,ydl q1,yol.here p1 r1 rfl⟩
 |_=>exact p1.elim
def ypo(x:D)(lo hi:Option Int):M D:=fun σ=>match x with
 | .tup xs=>.ok (.tup (ypn xs lo hi)) σ
 | .scr ns=>.ok (.lst (ypn (ns.map D.int) lo hi)) σ
 |x=>(match yqt σ x with
  |some xs=>.ok (.lst (ypn xs lo hi)) σ
  |none=>.bad)
def ysk(x:D)(lo:Option Int)(hi:Option Int):M D:=ypo x lo hi
def ysj(x:D)(hi:M (Option Int))(lo:Option Int):M D:=bnd hi (ysk x lo)
def ysi(lo hi:M (Option Int))(x:D):M D:=bnd lo (ysj x hi)
def eSl(f:Ev->M D)(lo hi:PF):Ev->M D:=fun ρ=>bnd (f ρ) (ysi (yi3 lo ρ) (yi3 hi ρ))
theorem zmr{e:Expr}{lo hi:Option Expr}{f:Ev->M D}{pl ph:PF}{pos p2:Pos}(hK:T.K=X.K)(he:FE T X e f)(hl:FO T X lo pl)(hh:FO T X hi ph):FE T X (.Subscript e (.Slice lo hi none p2) pos) (eSl f pl ph):=by
 intro pins s st H Q I h;refine zpj (SlR.or ygr (SlR.or ygp zy0)) he hl hh pins s st H Q I ?_;obtain⟨μ,ρ,σ,hE,hr,hp⟩:=h;refine⟨μ,ρ,σ,hE,hr,hp.bind fun d σ1 μ1 v H1 _ e1 r1 q1 p1=>⟨μ1,ρ,σ1,hE.mono e1,r1,p1.bind fun l σ2 μ2 l' H2 _ e2 r2 q2 p2=>⟨μ2,ρ,σ2,(hE.mono e1).mono e2,r2,p2.bind fun u σ3 μ3 u' H3 _ e3 r3 q3 p3=>?_⟩⟩⟩;have q2':l'=l:=q2;have q3':u'=u:=q3;subst q2';subst q3';have rd:Rep T μ3 H3 d v:=Rep.mono e3 _ _ (Rep.mono e2 _ _ q1);have lists:∀ ys,yqt σ3 d=some ys->yol T (XE X st) (Rep T) μ3 H3 (.ok (.lst (ypn ys l' u')) σ3) Q->yrz X.K v l' u' H3 Q\/yrx X.K v l' u' H3 Q\/yry X.K v l' u' H3 Q:=fun ys ey p4=>by
  obtain⟨a,vs,rfl,h1,h2⟩:=r3.ls rd ey;exact .inr (.inr ⟨a,vs,rfl,SqL.of h1,fun p hn=>yeo p4 r3 (zlu h2 l' u') hn⟩)
 cases d with
 |tup xs=>
  have rd0:=rd;rw[Rep]at rd;obtain⟨p,vs,rfl,h1,h2⟩:=rd;by_cases hw:HT.sIx vs.length 0 l'=0/\HT.sIx vs.length vs.length u'=vs.length
  ·refine .inr (.inl ⟨p,vs,rfl,SqT.of h1,hw,yol.here (d:=D.tup (ypn xs l' u')) p3 r3 ?_⟩);rw[zfr (by rw[h2.length];exact hw)];exact rd0
  ·exact .inl ⟨p,vs,rfl,SqT.of h1,hw,fun q hn=>zv3 p3 r3 (zlu h2 l' u') hn⟩
 |ref n=>
  unfold ysk ypo at p3;dsimp only at p3;cases ey:yqt σ3 (.ref n)with
  |none=>rw[ey]at p3;exact p3.elim
  |some ys=>rw[ey]at p3;exact lists ys ey p3
 |lst ys=>exact lists ys rfl p3
 |scr ns=>
  rw[Rep]at rd;obtain⟨p,rfl,h1⟩:=rd;have h2:=h1.seq;rw[hK]at h2;exact .inr (.inr ⟨p,_,rfl,h2,fun p hn=>yeo p3 r3 (zlu (zkb ns) l' u') hn⟩)
 |_=>exact p3.elim
end
def yab(K:W.Frag)(mg:Str->Option Value)(x:Str)(st:Stmt)(ps:List Str)(dv:List Value):Prop:=
 ∃ f fd,mg x=some (.ref f)/\W.keepIn K (.ref f)=true/\(∃ (oc:Value) (od:Option Addr) (dV kV doc pm:Value) (an:Option Addr) (cdv ct:Value) (osl:Array (Option Value)),
  fd=W.fnOf x x (zsq st) (zsr st) (zlv st) dV kV doc pm an cdv ct/\K.lookup f=some ⟨oc,od,.func fd,osl⟩/\W.codeIn K cdv x=true)/\yhz K fd ps []/\yhz K fd ps dv
def OkD(T:Tb)(P:Program)(w:World)(mg:Str->Option Value)(base:Heap)(k:Nat)(x:Str)(ps:List Str)(dv:List Value)(fn:List D->M D):Prop:=
 ∃ f fd,mg x=some (.ref f)/\W.keepIn T.K (.ref f)=true/\yhz T.K fd ps []/\yhz T.K fd ps dv/\FnOk P w T.K mg base (CXE P w) k f fd ps (spF T ps.length fn)
section
variable{T:Tb}{X:Cx}
theorem zig{k:Nat}{ps:List Str}{dv:List Value}{dds:List D}{dvs:List V}{fn:List D->M D}{x:Str}{p pos:Pos}{e:Expr}{es:List Expr}{fs:Ev->M (List D)}(h:OkD T X.prog X.w X.mg X.base k x ps dv fn)(hK:T.K=X.K)(hr:Room k X.A)(hg:Gl X x)(hv:yo0 dvs dv)(hdd:∀ μ H,yot T μ H dds dvs)
  (ha:FA T X (e::es) fs) (hdb:(x == ("__debug__" : Str))=false:=by decide) (he:starEach (e::es) X.env=(false,eval e X.env)::starEach es X.env:=by rfl) (hpl:(backTo pos (starEach es X.env)).any (·.1)=false:=by rfl) :
  FE T X (.Call (.Name x p) (e::es) [] pos) (eFn ps.length fn dds fs):=by
 obtain⟨f,fd,hm,hk,_,hb,hF⟩:=h;rw[hK]at hk hF hb;exact zta (dds:=dds) (dvs:=dvs) hF hr hg hm hk hb hv hdd ha hdb he hpl
theorem zrj:yo0 [V.non] [Value.none]:=.cons rfl .nil
theorem zp9{T:Tb}(μ:List Addr)(H:Hp):yot T μ H [D.non] [V.non]:=yot.cons (by rw[Rep]) yot.nil
variable{P:Program}{w:World}{K:W.Frag}{mg:Str->Option Value}{base:Heap}{ca:Nat->Addr}{tx:Tx}
theorem ye5{k:Nat}{x:Str}{st:Stmt}{ps N:List Str}{dv:List Value}{g:Ev->M Fl}(h:yab K mg x st ps dv)(S:FnScope N ps (zlv st))
  (hb:∀ (f:Addr) (cdv:Value) (A:Around) (outer:List Env) (s:Shared) (H:Hp) (E:XK),Room k (A.deeper (envOfC x (zlv st) s.heap.objs.size f cdv))->FSs ⟨K,ca,tx⟩ (ypq (CXE P w) P w K mg base N x (zlv st) f cdv A outer s H E) (zsr st) g) :
  OkD ⟨K,ca,tx⟩ P w mg base (k+1) x ps dv (run N.length g):=by
 obtain⟨f,fd,hm,hk,⟨oc,od,dV,kV,doc,pm,an,cdv,ct,osl,rfl,lk,hcd⟩,b0,b1⟩:=h;exact⟨f,_,hm,hk,b0,b1,fok lk hcd S (hb f cdv)⟩
theorem OkD.frz{k:Nat}{x:Str}{ps:List Str}{dv:List Value}{fn:List D->M D}(h:OkD T P w mg base k x ps dv fn):OkD T P w mg base k x ps dv (fun ds=>L4.frz (fn ds)):=by
 obtain⟨f,fd,h1,h2,h3,h4,h5⟩:=h;exact⟨f,fd,h1,h2,h3,h4,zt1 h5⟩
theorem yqv{h:Heap}{x:Str}{st:Stmt}{ps:List Str}{f t:Addr}{dv:List Value}{oc toc:Value}{od an tod:Option Addr}{osl tsl:Array (Option Value)}{kV doc pm cdv ct:Value}{tn:Nat}(X:K.In h)(G:h.Ns mainGlobals mg)
  (hb:∀ (t:Addr) (kV doc pm:Value) (an:Option Addr) (cdv ct:Value) (s:Shared) (o:Obj) (n:Nat) (us:List Value),s.heap.get? t=some o->o.data=.seq dv.toArray n->((us++[]).length=ps.length->BindsTo s (W.fnOf x x (zsq st) (zsr st) (zlv st) (.ref t) kV doc pm an cdv ct) ⟨us,[]⟩ (ps.zip (us++[])))/\
   ((us++dv).length=ps.length->BindsTo s (W.fnOf x x (zsq st) (zsr st) (zlv st) (.ref t) kV doc pm an cdv ct) ⟨us,[]⟩ (ps.zip (us++dv))))
  (a:W.nsIn K mainGlobals x=some (some (.ref f))) (l:K.lookup f=some ⟨oc,od,.func (W.fnOf x x (zsq st) (zsr st) (zlv st) (.ref t) kV doc pm an cdv ct),osl⟩)
  (c:W.codeIn K cdv x=true) (k:W.keepIn K (.ref f)=true) (d:K.lookup t=some ⟨toc,tod,.seq dv.toArray tn,tsl⟩):yab K mg x st ps dv:=
 ⟨f,_,W.mg_of X G a,k,⟨oc,od,_,kV,doc,pm,an,cdv,ct,osl,rfl,l,c⟩,fun s us KX hl=>(hb t kV doc pm an cdv ct s _ tn us (KX _ _ d) rfl).1 hl,fun s us KX hl=>(hb t kV doc pm an cdv ct s _ tn us (KX _ _ d) rfl).2 hl⟩
end
def yqg(l:List (Nat × Bool)):Nat->Option Bool:=fun c=>l.lookup c
abbrev veB:List Value:=[.type "ValueError",.type "Exception",.type "BaseException",.type "object"]
def yod(K:W.Frag)(ca:Nat->Addr)(cv:Value)(l:List (Nat × Bool)):Prop:=∀ p∈l,W.exmOne K (.ref (ca p.1)) cv=some p.2
theorem ydj{K:W.Frag}{ca:Nat->Addr}{cv:Value}:yod K ca cv []:=fun _ h=>nomatch h
theorem zuv{K:W.Frag}{ca:Nat->Addr}{cv:Value}{c:Nat}{b:Bool}{l:List (Nat × Bool)}(h:W.exmOne K (.ref (ca c)) cv=some b)(r:yod K ca cv l):yod K ca cv ((c,b)::l):=fun p hp=>by
 rcases List.mem_cons.mp hp with rfl|hp
 ·exact h
 ·exact r p hp
theorem yeb:∀ {l:List (Nat × Bool)} {c:Nat} {b:Bool},l.lookup c=some b->(c,b)∈l
 |[],_,_,h=>by simp at h
 |(n,d)::r,c,b,h=>by
  rw[List.lookup_cons]at h;cases e:c == n with
  |true=>rw[e]at h;cases h;rw[eq_of_beq e];exact List.mem_cons_self
  |false=>rw[e]at h;exact List.mem_cons_of_mem _ (yeb h)
theorem yjy{K:W.Frag}{ca:Nat->Addr}{cv:Value}{l:List (Nat × Bool)}(h:yod K ca cv l):∀ c b,yqg l c=some b->W.exmOne K (.ref (ca c)) cv=some b:=fun c b e=>h (c,b) (yeb e)
theorem OkF.hide{T:Tb}{P:Program}{w:World}{mg:Str->Option Value}{base:Heap}{k:Nat}{x:Str}{ps:List Str}{fn:List D->M D}(h:OkF T P w mg base k x ps fn):OkF T P w mg base k x ps (L4.hide fn):=by rw[zur];exact h
theorem OkD.hide{T:Tb}{P:Program}{w:World}{mg:Str->Option Value}{base:Heap}{k:Nat}{x:Str}{ps:List Str}{dv:List Value}{fn:List D->M D}(h:OkD T P w mg base k x ps dv fn):OkD T P w mg base k x ps dv (L4.hide fn):=by rw[zur];exact h
section
variable{T:Tb}{X:Cx}{μ:List Addr}{H:Hp}{σ:Sto}
def yj3(σ:Sto):D->Option (Nat × List (Str × D))
 | .obj c ns ds=>if ns.length=ds.length then some (c,ns.zip ds)else none
 | .ref n=>match σ[n]? with
  |some (.ins c fs)=>some (c,fs)
  |_=>none
 |_=>none
theorem zp2:∀ {ns:List Str} {ds:List D} {fs:List (Str × V)},fs.map (·.1)=ns->yot T μ H ds (fs.map (·.2))->yor T μ H (ns.zip ds) fs
 |[],ds,[],_,h=>by
  rw[List.map_nil]at h;cases ds with
  |nil=>exact Paired.nil
  |cons d ds=>have:=h.length;simp at this
 |[],ds,f::fs,e,_=>by simp at e
 |n::ns,ds,[],e,_=>by simp at e
 |n::ns,[],f::fs,e,h=>by have:=h.length;simp at this
 |n::ns,d::ds,f::fs,e,h=>by
  simp only[List.map_cons,List.cons.injEq]at e;rw[List.map_cons,yot]at h;obtain⟨v,r,e2,h1,h2⟩:=h;simp only[List.cons.injEq]at e2;obtain⟨e3,e4⟩:=e2;subst e4;exact Paired.cons ⟨e.1.symm,by rw[e3];exact h1⟩ (zp2 e.2 h2)
theorem zuy(r:Rel T μ H σ){d:D}{v:V}{c:Nat}{fs:List (Str × D)}(h:Rep T μ H d v)(e:yj3 σ d=some (c,fs)):∃ a dx vs,v=.ref a/\H a=some (.ins (T.ca c) dx vs)/\yor T μ H fs vs:=by
 cases d with
 |obj c' ns ds=>
  unfold yj3 at e;by_cases hl:ns.length=ds.length
  ·simp only[hl,if_true,Option.some.injEq,Prod.mk.injEq]at e;obtain⟨rfl,rfl⟩:=e;rw[Rep]at h;obtain⟨a,dx,vs,rfl,_,h3,h4,h5⟩:=h;exact⟨a,dx,vs,rfl,h3,zp2 h4 h5⟩
  ·simp[hl]at e
 |ref n=>
  unfold yj3 at e;dsimp only at e;cases es:σ[n]? with
  |none=>rw[es]at e;cases e
  |some o=>
   rw[es]at e;obtain⟨a,rfl,_,h2⟩:=r.at h es;cases o with
   |ins c' fs'=>cases e;obtain⟨dx,vs,h3,h4⟩:=h2;exact⟨a,dx,vs,rfl,h3,h4⟩
   |lst _=>cases e
   |dic _=>cases e
   |fdic _=>cases e
   |tdic _=>cases e
 |_=>cases e
theorem zof{f:Str}:∀ {fs:List (Str × D)} {vs:List (Str × V)},yor T μ H fs vs->(∀ d,fs.lookup f=some d->∃ v,vs.lookup f=some v/\Rep T μ H d v)/\(fs.lookup f=none->vs.lookup f=none)
 |_,_,.nil=>⟨fun d e=>by simp at e,fun _=>rfl⟩
 |(g,x)::fs,(g',v)::vs,.cons ⟨e,h⟩ t=>by
  have e':g=g':=e;subst e';obtain⟨h1,h2⟩:=zof t;by_cases hg:(f == g)=true
  ·refine⟨fun d q=>?_,fun q=>?_⟩
   ·rw[List.lookup_cons,hg]at q;cases q;exact⟨v,by rw[List.lookup_cons,hg],h⟩
   ·rw[List.lookup_cons,hg]at q;cases q
  ·have hg':(f == g)=false:=by simpa using hg
   refine⟨fun d q=>?_,fun q=>?_⟩
   ·rw[List.lookup_cons,hg']at q;obtain⟨w,q1,q2⟩:=h1 d q;exact⟨w,by rw[List.lookup_cons,hg'];exact q1,q2⟩
   ·rw[List.lookup_cons,hg']at q;rw[List.lookup_cons,hg'];exact h2 q
def yh2(T:Tb)(cs:List Nat)(f:Str):Prop:=∀ c,cs.contains c=true->Cls T.K (T.ca c)/\yac T.K (T.ca c) f
theorem ztr{f:Str}:yh2 T [] f:=fun c h=>by simp at h
theorem zmz{f:Str}{c:Nat}{cs:List Nat}(h1:Cls T.K (T.ca c))(h2:yac T.K (T.ca c) f)(h:yh2 T cs f):yh2 T (c::cs) f:=fun d hd=>by
 rw[List.contains_cons,Bool.or_eq_true,beq_iff_eq]at hd;rcases hd with rfl|hd
 ·exact⟨h1,h2⟩
 ·exact h d hd
def yq5(cs:List Nat)(f:Str)(x:D):M D:=fun σ=>match yj3 σ x with
 |some (c,fs)=>if cs.contains c=true then (match fs.lookup f with
  |some d=>.ok d σ
  |none=>.bad)else .bad
 |none=>.bad
theorem yb1{e:Expr}{f:Str}{g:Ev->M D}{pos:Pos}{cs:List Nat}(hK:T.K=X.K)(hc:yh2 T cs f)(he:FE T X e g)
  (hb:attributeBase e f X.env (eval e X.env)=eval e X.env:=by rfl):FE T X (.Attribute e f pos) (eUn (yq5 cs f) g):=by
 intro pins s st H Q I h;refine yfl he hb pins s st H Q I ?_;obtain⟨μ,ρ,σ,hE,hr,hp⟩:=h;refine⟨μ,ρ,σ,hE,hr,yol.bind hp fun d σ1 μ1 v H1 _ e1 r1 q1 p1=>?_⟩;unfold yq5 at p1;cases ei:yj3 σ1 d with
 |none=>rw[ei]at p1;exact p1.elim
 |some p=>
  obtain⟨c,fs⟩:=p;rw[ei]at p1;dsimp only at p1;by_cases hcc:cs.contains c=true
  ·rw[if_pos hcc]at p1;obtain⟨a,dx,vs,rfl,h1,h2⟩:=zuy r1 q1 ei;cases el:fs.lookup f with
   |none=>rw[el]at p1;exact p1.elim
   |some y=>
    rw[el]at p1;obtain⟨w,h3,h4⟩:=(zof h2).1 y el;obtain⟨k1,k2⟩:=hc c hcc;rw[hK]at k1 k2;exact⟨a,_,dx,vs,w,rfl,h1,k1,k2,h3,yol.here p1 r1 h4⟩
  ·rw[if_neg hcc]at p1;exact p1.elim
def yrm(f:Str)(v:D):List (Str × D)->List (Str × D)
 |[]=>[(f,v)]
 |(g,x)::r=>if g=f then (g,v)::r else (g,x)::yrm f v r
theorem zxp{f:Str}{d:D}{v:V}(hd:Rep T μ H d v):∀ {fs:List (Str × D)} {vs:List (Str × V)},yor T μ H fs vs->yor T μ H (yrm f d fs) (yrn f v vs)
 |_,_,.nil=>Paired.cons ⟨rfl,hd⟩ Paired.nil
 |(g,x)::fs,(g',w)::vs,.cons ⟨e,h⟩ t=>by
  have e':g=g':=e;subst e';unfold yrm yrn;by_cases hg:g=f
  ·rw[if_pos hg,if_pos hg];exact Paired.cons ⟨rfl,hd⟩ t
  ·rw[if_neg hg,if_neg hg];exact Paired.cons ⟨rfl,h⟩ (zxp hd t)
theorem yor.mono{μ':List Addr}{H':Hp}(e:Ext μ H μ' H'){fs:List (Str × D)}{vs:List (Str × V)}(h:yor T μ H fs vs):yor T μ' H' fs vs:=Paired.mapP h fun _ _ q=>⟨q.1,Rep.mono e _ _ q.2⟩
theorem yor.length{fs:List (Str × D)}{vs:List (Str × V)}(h:yor T μ H fs vs):fs.length=vs.length:=Paired.length h
def yre(cs:List Nat)(f:Str)(d x:D):M Unit:=fun σ=>match x with
 | .ref n=>(match σ[n]? with
  |some (.ins c fs)=>if (cs.contains c && decide (fs.length<1000))=true then .ok () (σ.set n (.ins c (yrm f d fs)))else .bad
  |_=>.bad)
 |_=>.bad
def yma(ρ:Ev)(cs:List Nat)(f:Str)(d x:D):M Fl:=fun σ=>match yre cs f d x σ with
 | .ok _ σ'=>.ok (.nx ρ) σ'
 |_=>.bad
def yl9(ρ:Ev)(cs:List Nat)(f:Str)(fo:Ev->M D)(d:D):M Fl:=xs ρ (fo ρ) (yma ρ cs f d)
def ysa(cs:List Nat)(f:Str)(fv fo:Ev->M D):Ev->M Fl:=fun ρ=>xs ρ (fv ρ) (yl9 ρ cs f fo)
theorem yct{o value:Expr}{f:Str}{fv fo:Ev->M D}{pos pos':Pos}{cs:List Nat}(hK:T.K=X.K)(hc:yh2 T cs f)(ho:FE T X o fo)(hv:FE T X value fv)
  (hs:swapsWith value (some (.Attribute o f pos')) pos.line X.env=pure false:=by rfl):FS T X (.Assign [.Attribute o f pos'] value pos) (ysa cs f fv fo):=by
 intro pins s st H D I hq;refine yf1 ho hv hs pins s st H D I ?_;obtain⟨μ,ρ,σ,hE,hr,hp⟩:=hq;refine⟨μ,ρ,σ,hE,hr,hp.xs hE fun d σ1 μ1 v H1 _ e1 r1 q1 p1=>?_⟩;refine⟨μ1,ρ,σ1,hE.mono e1,r1,p1.xs (hE.mono e1) fun x σ2 μ2 vo H2 _ e2 r2 q2 p2=>?_⟩;have hd:=Rep.mono e2 _ _ q1;unfold yma yre at p2;cases x with
 |ref n=>
  dsimp only at p2;cases el:σ2[n]? with
  |none=>rw[el]at p2;exact p2.elim
  |some ob=>
   rw[el]at p2;cases ob with
   |lst _=>exact p2.elim
   |dic _=>exact p2.elim
   |fdic _=>exact p2.elim
   |tdic _=>exact p2.elim
   |ins c fs=>
    dsimp only at p2;by_cases hcc:(cs.contains c && decide (fs.length<1000))=true
    ·rw[if_pos hcc]at p2;rw[Bool.and_eq_true,decide_eq_true_eq]at hcc;obtain⟨a,rfl,hn,dx,vs,h1,h2⟩:=r2.at q2 el;have ex:Ext μ2 H2 μ2 (upd H2 a (.ins (T.ca c) dx (yrn f v vs))):=zif (List.mem_of_getElem? hn) h1 (fun _ z=>by cases z) (fun _ _ z=>by cases z);have wr:=r2.write (o:=.ins (T.ca c) dx (yrn f v vs)) (ob:=.ins c (yrm f d fs)) hn ⟨dx,_,zre,zxp (Rep.mono ex _ _ hd) (yor.mono ex h2)⟩;obtain⟨k1,k2⟩:=hc c hcc.1;rw[hK]at k1 k2;exact⟨a,_,dx,vs,rfl,h1,k1,k2,by rw[<-h2.length];exact hcc.2,p2 _ (.nx st) _ wr.1 wr.2 ((hE.mono e1).mono e2 |>.mono wr.1)⟩
    ·rw[if_neg hcc]at p2;exact p2.elim
 |_=>exact p2.elim
def yli(n:Nat):Out D->Out D
 | .ok .non σ'=>.ok (.ref n) σ'
 | .ok _ _=>.bad
 | .ex x σ'=>.ex x σ'
 | .bad=>.bad
def yk1(c n:Nat)(fn:List D->M D)(ds:List D):M D:=fun σ=>if ds.length+1=n then yli σ.length (fn (.ref σ.length::ds) (σ++[.ins c []]))else .bad
def yi1(c n:Nat)(fn:List D->M D)(fs:Ev->M (List D)):Ev->M D:=fun ρ=>bnd (fs ρ) (yk1 c n fn)
def OkA(T:Tb)(P:Program)(w:World)(mg:Str->Option Value)(base:Heap)(k:Nat)(f:Addr)(ps:List Str)(fn:List D->M D):Prop:=
 ∃ fd,(∀ us:List Value,us.length=ps.length->bindArgs fd ⟨us,[]⟩=pure (ps.zip us))/\FnOk P w T.K mg base (CXE P w) k f fd ps (spF T ps.length fn)
def OkC(T:Tb)(P:Program)(w:World)(mg:Str->Option Value)(base:Heap)(k:Nat)(x:Str)(c:Nat)(ps:List Str)(fn:List D->M D):Prop:=
 ∃ f,mg x=some (.ref (T.ca c))/\Mk T.K (T.ca c) f/\OkA T P w mg base k f ps fn
theorem zjn{E:XK}{c:Nat}{ps:List Str}{fn:List D->M D}{ds:List D}{vs:List V}{Q:VK}(r:Rel T μ H σ)(q:yot T μ H ds vs)(p:yol T E (Rep T) μ H (yk1 c ps.length fn ds σ) Q) :
  ∀ x dx,H x=none->H dx=none->dx≠x->spF T ps.length fn (.ref x::(vs++[])) (upd (upd H dx (.own x)) x (.ins (T.ca c) dx [])) (fun v H2=>v=.non/\Q (.ref x) H2) E:=by
 intro x dx hx hdx hne;unfold yk1 at p;by_cases hl:ds.length+1=ps.length
 ·rw[if_pos hl]at p;have ex1:Ext μ H μ (upd H dx (.own x)):=zs8 hdx;have r1:Rel T μ (upd H dx (.own x)) σ:=r.fresh hdx;have hx1:upd H dx (.own x) x=none:=by unfold upd;rw[if_neg (Ne.symm hne)];exact hx
  have ex2:Ext μ (upd H dx (.own x)) (μ++[x]) (upd (upd H dx (.own x)) x (.ins (T.ca c) dx [])):=zme hx1;have r2:Rel T (μ++[x]) (upd (upd H dx (.own x)) x (.ins (T.ca c) dx [])) (σ++[.ins c []]):=r1.push hx1 ⟨dx,[],zre,Paired.nil⟩;refine⟨μ++[x],σ++[.ins c []],.ref σ.length::ds,yot.cons (zp5 r1) (by rw[List.append_nil];exact yot.mono (ex1.trans ex2) _ _ q),by rw[List.length_cons];exact hl,r2,?_⟩;cases e:fn (.ref σ.length::ds) (σ++[.ins c []])with
  |bad=>rw[e]at p;exact p.elim
  |ex y σ'=>rw[e]at p;exact fun μ' H' e' r'=>p μ' H' ((ex1.trans ex2).trans e') r'
  |ok d σ'=>
   rw[e]at p;intro μ' v H' e' r' q';have hv:d=.non:=by cases d<;>first|rfl|exact p.elim
   subst hv;rw[Rep]at q';refine⟨q',p μ' (.ref x) H' ((ex1.trans ex2).trans e') r' ?_⟩;exact Rep.mono e' _ _ (zp5 r1)
 ·rw[if_neg hl]at p;exact p.elim
theorem zke{k:Nat}{C f:Addr}{fd:FuncData}{ps:List Str}{sp:Sp}{dvs:List V}{ds:List Value}{pins:List (Addr × Obj)}{st:St}{H:Hp}{s:Shared}{Q:VK}{us:List Value}{vs:List V}(M:Mk X.K C f)(F:FnOk X.prog X.w X.K X.mg X.base (CXE X.prog X.w) k f fd ps sp)(hr:Room (k+1) X.A)(hb:yhz X.K fd ps ds)(hd:yo0 dvs ds)
  (I:Inv X pins st H s) (r:yo0 vs us)
  (h:∀ x dx,H x=none->H dx=none->dx≠x->sp (.ref x::(vs++dvs)) (upd (upd H dx (.own x)) x (.ins C dx [])) (fun v H2=>v=.non/\Q (.ref x) H2) (XE X st)) :
  wpAny (model X.prog X.w) X.A (call (.ref C) us) (EP X pins st Q) X.xe s:=by
 have hq:=h (s.heap.objs.size+1) s.heap.objs.size (I.hok.fresh (Nat.le_succ _)) (I.hok.fresh (Nat.le_refl _)) (Nat.ne_of_lt (Nat.lt_succ_self _));have I2:=Inv.made (C:=C) I;have r2:yo0 (V.ref (s.heap.objs.size+1)::(vs++dvs)) (Value.ref (s.heap.objs.size+1)::(us++ds)):=.cons rfl (r.append hd);have hl:(Value.ref (s.heap.objs.size+1)::us++ds).length=ps.length:=by
  have e:=r2.length;rw[F.len _ _ _ _ hq]at e;exact e.symm
 refine wpAny_call (zol (f:=f) I.kIn M.makes M.init (beq_iff_eq.mp M.fn) (codeAny_mono (F.run _ X.stack _ _ ⟨Value.ref (s.heap.objs.size+1)::us,[]⟩ (Value.ref (s.heap.objs.size+1)::(us++ds)) _ _ (XE X st) (hr.make C us [])
  (I2.env0.make C us []) (hb _ (Value.ref (s.heap.objs.size+1)::us) I2.kIn hl) r2 hq) fun r s' hq'=>?_))
 cases r with
 |error e=>obtain⟨cls,fd,H',hfly,ht⟩:=hq';exact ht.fly pins _ _ e s' I2 hfly
 |ok fl=>
  cases fl with
  |ret u=>
   obtain⟨v,H',I3,rv,ev,q3⟩:=I2.after hq';subst ev;exact⟨rv,⟨V.ref (s.heap.objs.size+1),H',I3,rfl,q3⟩⟩
  |next=>exact False.elim hq'
  |brk=>exact False.elim hq'
  |cont=>exact False.elim hq'
theorem ztf{k c:Nat}{ps:List Str}{fn:List D->M D}{x:Str}{p pos:Pos}{e:Expr}{es:List Expr}{fs:Ev->M (List D)}(h:OkC T X.prog X.w X.mg X.base k x c ps fn)(hK:T.K=X.K)(hr:Room (k+1) X.A)(hg:Gl X x)
  (ha:FA T X (e::es) fs) (hdb:(x == ("__debug__" : Str))=false:=by decide) (he:starEach (e::es) X.env=(false,eval e X.env)::starEach es X.env:=by rfl) (hpl:(backTo pos (starEach es X.env)).any (·.1)=false:=by rfl) :
  FE T X (.Call (.Name x p) (e::es) [] pos) (yi1 c ps.length fn fs):=by
 obtain⟨f,hm,hM,fd,hb,hF⟩:=h;rw[hK]at hM hF;intro pins s st H Q I hq;obtain⟨μ,ρ,σ,hE,hr',hp⟩:=hq;refine wpAny_Call_Name_kw (zvi I hg hm ?_ hdb);refine W.callWith_K (h₀:=X.base) I.ok.mod.kin hM.kp (thn (ha pos pins s st H (fun vs H1=>∀ x dx,H1 x=none->H1 dx=none->dx≠x->spF T ps.length fn (.ref x::(vs++[])) (upd (upd H1 dx (.own x)) x (.ins (T.ca c) dx [])) (fun v H2=>v=.non/\Q (.ref x) H2) (XE X st)) I ⟨μ,ρ,σ,hE,hr',hp.bind fun ds σ1 μ1 vs H1 _ e1 r1 p1 q1=>zjn r1 p1 q1⟩) fun us s1 ⟨vs,H1,I1,r,q⟩=>⟨I1.kIn,?_⟩) he hpl;exact zke (ds:=[]) (dvs:=[]) hM hF hr (.all hb) .nil I1 r q
structure OkM(T:Tb)(P:Program)(w:World)(mg:Str->Option Value)(base:Heap)(k:Nat)(m:Str)(c:Nat)(ps:List Str)(fn:List D->M D):Prop where
 cl:Cls T.K (T.ca c)
 ex:∃ f,Meth T.K (T.ca c) m f/\OkA T P w mg base k f ps fn
abbrev Mt:=List (Nat × (List D->M D))
def lkM:Mt->Nat->Option (List D->M D)
 |[],_=>none
 |(c,fn)::r,d=>if c == d then some fn else lkM r d
def yk8(n:Nat)(fn:List D->M D)(x:D)(ds:List D):M D:=if ds.length+1=n then fn (x::ds)else bad
def yqz(tb:Mt)(n:Nat)(m:Str)(fs:M (List D))(x:D):M D:=fun σ=>match yj3 σ x with
 |some (c,gs)=>(match lkM tb c,gs.lookup m with
  |some fn,none=>bnd fs (yk8 n fn x) σ
  |_,_=>.bad)
 |none=>.bad
def ypy(tb:Mt)(n:Nat)(m:Str)(f:Ev->M D)(fs:Ev->M (List D)):Ev->M D:=fun ρ=>bnd (f ρ) (yqz tb n m (fs ρ))
theorem zvj:∀ {tb:Mt} {c:Nat} {fn:List D->M D},lkM tb c=some fn->(c,fn)∈tb
 |[],_,_,h=>by cases h
 |(d,g)::r,c,fn,h=>by
  unfold lkM at h;by_cases e:(d == c)=true
  ·rw[if_pos e]at h;cases h;rw[beq_iff_eq.mp e];exact List.mem_cons_self
  ·rw[if_neg e]at h;exact List.mem_cons_of_mem _ (zvj h)
theorem yb8{pl:Sem Bool}{k:Nat}{tb:Mt}{ps:List Str}{m:Str}{o e:Expr}{es:List Expr}{f:Ev->M D}{fs:Ev->M (List D)}{pos apos:Pos}(hK:T.K=X.K)(he:FE T X o f)(h:∀ q∈tb,OkM T X.prog X.w X.mg X.base k m q.1 ps q.2)(hr:Room k X.A)(ha:FA T X (e::es) fs)
  (hst:starEach (e::es) X.env=(false,eval e X.env)::starEach es X.env:=by rfl) (hpl:(backTo pos (starEach es X.env)).any (·.1)=false:=by rfl)
  (ht:eval (.Call (.Attribute o m apos) (e::es) [] pos) X.env=(do
   let ov <-eval o X.env
   standAt apos.atName
   let (f,first) <-holding [ov] (getMethod ov m pl)
   callWith pos f first (backTo pos (starEach (e::es) X.env)) (backToKw pos (keywordEach [] X.env))):=by rfl) :
  FE T X (.Call (.Attribute o m apos) (e::es) [] pos) (ypy tb ps.length m f fs):=by
 intro pins s st H Q I hq;obtain⟨μ,ρ,σ,hE,hr',hp⟩:=hq;have hE':=hE;refine W.methodCall_KW (pl:=pl) (thn (he pins s st H (fun x H1=>∃ a c dx vs fn,x=.ref a/\H1 a=some (.ins (T.ca c) dx vs)/\lkM tb c=some fn/\vs.lookup m=none/\tL T X fs st H1 fun us H2=>spF T ps.length fn (x::(us++[])) H2 Q (XE X st)) I ⟨μ,ρ,σ,hE,hr',hp.bind fun d σ1 μ1 v H1 _ e1 r1 q1 p1=>?_⟩) fun u s1 ⟨x,H1,I1,rx,a,c,dx,vs,fn,ex,ea,el,en,q⟩=>?_) ht
 ·unfold yqz at p1;cases ei:yj3 σ1 d with
  |none=>rw[ei]at p1;exact p1.elim
  |some z=>
   obtain⟨c,gs⟩:=z;rw[ei]at p1;dsimp only at p1;cases el:lkM tb c with
   |none=>rw[el]at p1;exact p1.elim
   |some fn=>
    cases en:gs.lookup m with
    |some y=>rw[el,en]at p1;exact p1.elim
    |none=>
     rw[el,en]at p1;dsimp only at p1;obtain⟨a,dx,vs,rfl,h1,h2⟩:=zuy r1 q1 ei;refine⟨a,c,dx,vs,fn,rfl,h1,el,(zof h2).2 en,μ1,ρ,σ1,hE'.mono e1,r1,p1.bind fun ds σ2 μ2 us H2 _ e2 r2 q2 p2=>?_⟩;unfold yk8 at p2;by_cases hl:ds.length+1=ps.length
     ·rw[if_pos hl]at p2;exact⟨μ2,σ2,d::ds,yot.cons (Rep.mono e2 _ _ q1) (by rw[List.append_nil];exact q2),by rw[List.length_cons];exact hl,r2,p2⟩
     ·rw[if_neg hl]at p2;exact p2.elim
 ·subst ex;obtain rfl:u=Value.ref a:=rx;obtain⟨hC,f',hM,fd,hb,hF⟩:=h _ (zvj el);rw[hK]at hC hM hF;refine zf6 I1 ea hC hM en ?_;refine W.callWith_K (first:=[.ref a]) (h₀:=X.base) I.ok.mod.kin hM.kp (thn (ha pos pins s1 st H1 _ I1 q) fun us s2 ⟨vs,H2,I2,r,q2⟩=>⟨I2.kIn,?_⟩) hst hpl;exact zx4 (us:=.ref a::us) (vs:=.ref a::vs) hF hr (.all hb) .nil I2 (.cons rfl r) q2
theorem zth{pl:Sem Bool}{k:Nat}{tb:Mt}{ps:List Str}{m:Str}{o:Expr}{f:Ev->M D}{pos apos:Pos}(hK:T.K=X.K)(he:FE T X o f)(h:∀ q∈tb,OkM T X.prog X.w X.mg X.base k m q.1 ps q.2)(hr:Room k X.A)
  (ht:eval (.Call (.Attribute o m apos) [] [] pos) X.env=(do
   let ov <-eval o X.env
   standAt apos.atName
   let (f,first) <-holding [ov] (getMethod ov m pl)
   callWith pos f first (backTo pos (starEach [] X.env)) (backToKw pos (keywordEach [] X.env))):=by rfl) :
  FE T X (.Call (.Attribute o m apos) [] [] pos) (ypy tb ps.length m f yo2):=by
 intro pins s st H Q I hq;obtain⟨μ,ρ,σ,hE,hr',hp⟩:=hq;refine W.methodCall_KW (pl:=pl) (thn (he pins s st H (fun x H1=>∃ a c dx vs fn,x=.ref a/\H1 a=some (.ins (T.ca c) dx vs)/\lkM tb c=some fn/\vs.lookup m=none/\spF T ps.length fn (x::([]++[])) H1 Q (XE X st)) I ⟨μ,ρ,σ,hE,hr',hp.bind fun d σ1 μ1 v H1 _ e1 r1 q1 p1=>?_⟩) fun u s1 ⟨x,H1,I1,rx,a,c,dx,vs,fn,ex,ea,el,en,q⟩=>?_) ht
 ·unfold yqz at p1;cases ei:yj3 σ1 d with
  |none=>rw[ei]at p1;exact p1.elim
  |some z=>
   obtain⟨c,gs⟩:=z;rw[ei]at p1;dsimp only at p1;cases el:lkM tb c with
   |none=>rw[el]at p1;exact p1.elim
   |some fn=>
    cases en:gs.lookup m with
    |some y=>rw[el,en]at p1;exact p1.elim
    |none=>
     rw[el,en]at p1;dsimp only at p1;obtain⟨a,dx,vs,rfl,h1,h2⟩:=zuy r1 q1 ei;have p2:yol T (XE X st) (Rep T) μ1 H1 (yk8 ps.length fn d [] σ1) Q:=p1;unfold yk8 at p2;by_cases hl:([]:List D).length+1=ps.length
     ·rw[if_pos hl]at p2;exact⟨a,c,dx,vs,fn,rfl,h1,el,(zof h2).2 en,μ1,σ1,[d],yot.cons q1 yot.nil,hl,r1,p2⟩
     ·rw[if_neg hl]at p2;exact p2.elim
 ·subst ex;obtain rfl:u=Value.ref a:=rx;obtain⟨hC,f',hM,fd,hb,hF⟩:=h _ (zvj el);rw[hK]at hC hM hF;refine zf6 I1 ea hC hM en ?_;exact W.callWith_K0 (first:=[.ref a]) I1.kIn hM.kp (zx4 (us:=[.ref a]) (vs:=[.ref a]) hF hr (.all hb) .nil I1 (.cons rfl .nil) q)
structure OkU(T:Tb)(P:Program)(w:World)(mg:Str->Option Value)(base:Heap)(k:Nat)(x m:Str)(c:Nat)(ps:List Str)(fn:List D->M D):Prop where
 gl:mg x=some (.ref (T.ca c))
 sp:W.specialIn T.K (.ref (T.ca c)) (Str.ofString "__getattribute__")=some (some (.builtin "type.__getattribute__"))
 ex:∃ f mc,W.readsIn T.K (T.ca c) mc=true/\W.findCls T.K (.ref (T.ca c)) mc m=some (.val (.ref f))/\W.keepIn T.K (.ref f)=true/\OkA T P w mg base k f ps fn
end
structure HasM(K:W.Frag)(C:Addr)(x qual:Str)(st:Stmt)(ps:List Str)(f:Addr):Prop where
 ex:∃ fd,Fun K x qual st f fd/\∀ us:List Value,us.length=ps.length->bindArgs fd ⟨us,[]⟩=pure (ps.zip us)
section
variable{P:Program}{w:World}{K:W.Frag}{mg:Str->Option Value}{base:Heap}{ca:Nat->Addr}{tx:Tx}
theorem ye0{k:Nat}{C f:Addr}{x qual:Str}{st:Stmt}{ps N:List Str}{g:Ev->M Fl}(h:HasM K C x qual st ps f)(S:FnScope N ps (zlv st))
  (hb:∀ (cdv:Value) (A:Around) (outer:List Env) (s:Shared) (H:Hp) (E:XK),Room k (A.deeper (envOfC qual (zlv st) s.heap.objs.size f cdv))->FSs ⟨K,ca,tx⟩ (ypq (CXE P w) P w K mg base N qual (zlv st) f cdv A outer s H E) (zsr st) g) :
  OkA ⟨K,ca,tx⟩ P w mg base (k+1) f ps (run N.length g):=by
 obtain⟨fd,F,hbd⟩:=h.ex;obtain⟨oc,od,kV,doc,pm,an,cdv,ct,osl,rfl,lk,hcd⟩:=F.ex;exact⟨_,hbd,fok lk hcd S (hb cdv)⟩
theorem OkA.frz{T:Tb}{k:Nat}{f:Addr}{ps:List Str}{fn:List D->M D}(h:OkA T P w mg base k f ps fn):OkA T P w mg base k f ps (fun ds=>L4.frz (fn ds)):=by
 obtain⟨fd,h3,h4⟩:=h;exact⟨fd,h3,zt1 h4⟩
theorem OkA.hide{T:Tb}{k:Nat}{f:Addr}{ps:List Str}{fn:List D->M D}(h:OkA T P w mg base k f ps fn):OkA T P w mg base k f ps (L4.hide fn):=by rw[zur];exact h
end
def yk9(s:Stmt)(j:Nat):Stmt:=match s with
 | .ClassDef _ _ _ b _ _ _ _ _ _ _=>b.getD j (.Pass ⟨0,0,0,0⟩)
 |s=>s
theorem mkM{K:W.Frag}{C f:Addr}{x qual:Str}{st:Stmt}{ps:List Str}{oc:Value}{od an:Option Addr}{osl:Array (Option Value)}{kV doc pm cdv ct:Value}
  (hb:∀ (kV doc pm:Value) (an:Option Addr) (cdv ct:Value) (us:List Value),us.length=ps.length->bindArgs (W.fnOf x qual (zsq st) (zsr st) (zlv st) .none kV doc pm an cdv ct) ⟨us,[]⟩=pure (ps.zip us))
  (l:K.lookup f=some ⟨oc,od,.func (W.fnOf x qual (zsq st) (zsr st) (zlv st) .none kV doc pm an cdv ct),osl⟩)
  (c:W.codeIn K cdv qual=true) (k:W.keepIn K (.ref f)=true):HasM K C x qual st ps f:=⟨⟨_,yc1 l c k,hb kV doc pm an cdv ct⟩⟩
section
variable{T:Tb}{P:Program}{w:World}{mg:Str->Option Value}{base:Heap}
def yoh(T:Tb)(P:Program)(w:World)(mg:Str->Option Value)(base:Heap)(k:Nat)(m:Str)(ps:List Str)(tb:Mt):Prop:=∀ q∈tb,OkM T P w mg base k m q.1 ps q.2
theorem yek{k:Nat}{m:Str}{ps:List Str}:yoh T P w mg base k m ps []:=fun q h=>nomatch h
theorem zvv{j k:Nat}{m:Str}{ps:List Str}{tb:Mt}{c:Nat}{f:Addr}{fn:List D->M D}(h1:Cls T.K (T.ca c))(h2:Meth T.K (T.ca c) m f)(h3:OkA T P w mg base j f ps fn)(hj:j<=k)(h:yoh T P w mg base k m ps tb):yoh T P w mg base k m ps ((c,fn)::tb):=fun q hq=>by
 rcases List.mem_cons.mp hq with rfl|hq
 ·obtain⟨fd,a,b⟩:=h3;exact⟨h1,f,h2,fd,a,b.mono hj⟩
 ·exact h q hq
end
section
variable{T:Tb}{X:Cx}
end
end L4
namespace L4
open PySem L2
theorem nr{α:Type}{a b:α}(h:a=b):a=b:=h
section
variable{α β:Type}{ρ:Ev}{σ:Sto}
@[simp] theorem zr5(a:α)(σ:Sto)(k:α->M β):(Out.ok a σ).bind k=k a σ:=nr rfl
@[simp] theorem ygg(a:α)(σ:Sto):ret a σ=.ok a σ:=nr rfl
@[simp] theorem yao(m:M α)(k:α->M β)(σ:Sto):bnd m k σ=(m σ).bind k:=nr rfl
@[simp] theorem yix(d:D):eC d ρ σ=.ok d σ:=nr rfl
@[simp] theorem ybo(d:D)(r:Ev):yp2 0 (some d::r) σ=.ok d σ:=nr rfl
@[simp] theorem ybp(i:Nat)(o:Option D)(r:Ev):yp2 (i+1) (o::r) σ=yp2 i r σ:=nr rfl
@[simp] theorem zsu(o:D->D->M D)(a b:Ev->M D):ypu o a b ρ σ=(a ρ σ).bind (ypc o (b ρ)):=nr rfl
@[simp] theorem zr4(o:D->D->M D)(m:M D)(x:D):ypc o m x σ=(m σ).bind (o x):=nr rfl
@[simp] theorem ybn(o:D->M D)(a:Ev->M D):eUn o a ρ σ=(a ρ σ).bind o:=nr rfl
@[simp] theorem yhb(b:Bool):tst (.bl b) σ=.ok b σ:=nr rfl
@[simp] theorem yj2(p q:M α):ifK p q true σ=p σ:=nr rfl
@[simp] theorem yj1(p q:M α):ifK p q false σ=q σ:=nr rfl
@[simp] theorem zv6(c:Bool):yq1 c σ=.ok (!c) σ:=nr rfl
@[simp] theorem zq7(k:Bool->M α)(b:Bool):ynl k (.bl b) σ=k b σ:=nr rfl
@[simp] theorem zot(c:Bool):yla c σ=.ok (.bl (!c)) σ:=nr rfl
@[simp] theorem yi4(f:Ev->M D):eT f ρ σ=(f ρ σ).bind tst:=nr rfl
@[simp] theorem zr2(a b:Ev->M Bool):yo8 a b ρ σ=(a ρ σ).bind (ifK (b ρ) (ret false)):=nr rfl
@[simp] theorem yai(a b:Ev->M Bool):bOr a b ρ σ=(a ρ σ).bind (ifK (ret true) (b ρ)):=nr rfl
@[simp] theorem zr3(a:Ev->M Bool):yo9 a ρ σ=(a ρ σ).bind yq1:=nr rfl
@[simp] theorem zst(a b:Ev->M D):yps a b ρ σ=(a ρ σ).bind (ynl (ifK (b ρ) (ret (.bl false)))):=nr rfl
@[simp] theorem ybl(a b:Ev->M D):eOr a b ρ σ=(a ρ σ).bind (ynl (ifK (ret (.bl true)) (b ρ))):=nr rfl
@[simp] theorem zsy(a:Ev->M D):ypz a ρ σ=(a ρ σ).bind (ynl yla):=nr rfl
@[simp] theorem ybi(t:Ev->M Bool)(a b:Ev->M D):eIf t a b ρ σ=(t ρ σ).bind (ifK (a ρ) (b ρ)):=nr rfl
@[simp] theorem zrp:yo2 ρ σ=.ok [] σ:=nr rfl
@[simp] theorem zk7(e:Ev->M D)(r:Ev->M (List D)):yie e r ρ σ=(e ρ σ).bind (yaf (r ρ)):=nr rfl
@[simp] theorem zhk(m:M (List D))(x:D):yaf m x σ=(m σ).bind (yiq x):=nr rfl
@[simp] theorem zlt(x:D)(xs:List D):yiq x xs σ=.ok (x::xs) σ:=nr rfl
@[simp] theorem zs1(a:Ev->M (List D)):yp1 a ρ σ=(a ρ σ).bind ys7:=nr rfl
@[simp] theorem yhd:ys7 [] σ=.ok (.tup []) σ:=nr rfl
@[simp] theorem yhe(a b:D):ys7 [a,b] σ=.ok (.tup [a,b]) σ:=nr rfl
@[simp] theorem yhf(a b c:D):ys7 [a,b,c] σ=.ok (.tup [a,b,c]) σ:=nr rfl
@[simp] theorem yhg(a b c d e:D):ys7 [a,b,c,d,e] σ=.ok (.tup [a,b,c,d,e]) σ:=nr rfl
@[simp] theorem ybj(a:Ev->M (List D)):eLv a ρ σ=(a ρ σ).bind lvK:=nr rfl
@[simp] theorem zsw(a:Ev->M (List D)):ypx a ρ σ=(a ρ σ).bind yqu:=nr rfl
@[simp] theorem yee:yqu [] σ=.ok (.ref σ.length) (σ++[.lst []]):=nr rfl
@[simp] theorem ylp(g:Int->Int->Int)(i j:Int):oI g (.int i) (.int j) σ=.ok (.int (g i j)) σ:=nr rfl
@[simp] theorem ylm(g:Int->Int->Bool)(i j:Int):oB g (.int i) (.int j) σ=.ok (.bl (g i j)) σ:=nr rfl
theorem yex{C:Int->Int->Bool}{g:Int->Int->Int}{i j:Int}(h:C i j=true):oIC C g (.int i) (.int j) σ=.ok (.int (g i j)) σ:=by
 show (if C i j=true then ret _ else bad) σ=_;rw[if_pos h];rfl
@[simp] theorem zwb(i j:Int)(h:0<j)(h2:j<1073741824):yq4 (.int i) (.int j) σ=.ok (.int (i / j)) σ:=yex (by simp[ypf,h,h2])
@[simp] theorem zwk(i j:Int)(h:0<j):yra (.int i) (.int j) σ=.ok (.int (i % j)) σ:=yex (by simp[ypg,h])
@[simp] theorem zwp(i j:Int)(h:0<=j):yrf (.int i) (.int j) σ=.ok (.int (i / 2 ^ j.toNat)) σ:=yex (by simp[ypj,h])
theorem zwo{i j:Int}(h:ypi i j=true):yrd (.int i) (.int j) σ=.ok (.int (i ^ j.toNat)) σ:=yex h
@[simp] theorem p12:yrd (.int 10) (.int 12) σ=.ok (.int 1000000000000) σ:=zwo (by simp[ypi])
@[simp] theorem p6:yrd (.int 10) (.int 6) σ=.ok (.int 1000000) σ:=zwo (by simp[ypi])
@[simp] theorem p4:yrd (.int 10) (.int 4) σ=.ok (.int 10000) σ:=zwo (by simp[ypi])
@[simp] theorem p40:yrd (.int 10) (.int 40) σ=.ok (.int (10 ^ 40)) σ:=zwo (by simp[ypi])
@[simp] theorem zwn(i:Int):yrc (.int i) σ=.ok (.int (-i)) σ:=nr rfl
@[simp] theorem zo0(i j:Int):yq2 (.int i) (.int j) σ=.ok (.int (i+j)) σ:=nr rfl
@[simp] theorem zo6(σ:Sto):yq7 .non .non σ=.ok (.bl true) σ:=nr rfl
@[simp] theorem zo5(b:List D):yq7 (.lst b) .non σ=.ok (.bl false) σ:=nr rfl
theorem yew{x y:D}{b:Bool}(h:eqD σ 8 x y=some b):oEq x y σ=.ok (.bl b) σ:=by unfold oEq;rw[h]
theorem yey{x y:D}{b:Bool}(h:eqD σ 8 x y=some b):oNe x y σ=.ok (.bl (!b)) σ:=by unfold oNe;rw[h]
@[simp] theorem zwc(i j:Int):oEq (.int i) (.int j) σ=.ok (.bl (i == j)) σ:=yew (by simp[eqD,kd,eqK,eqV])
@[simp] theorem zwm(i j:Int):oNe (.int i) (.int j) σ=.ok (.bl (!(i == j))) σ:=yey (by simp[eqD,kd,eqK,eqV])
theorem zwi{xs:List D}{k:Int}{d:D}(h:atI xs k=some d):oIx (.tup xs) (.int k) σ=.ok d σ:=by simp[oIx,ymy,h]
theorem zwg{xs:List D}{k:Int}{d:D}(h:atI xs k=some d):oIx (.lst xs) (.int k) σ=.ok d σ:=by simp[oIx,ymy,h]
@[simp] theorem yke(a:D)(r:List D):oIx (.tup (a::r)) (.int 0) σ=.ok a σ:=zwi (show atI _ ((0:Nat):Int)=_ from zrz rfl)
@[simp] theorem ykf(a b:D)(r:List D):oIx (.tup (a::b::r)) (.int 1) σ=.ok b σ:=zwi (show atI _ ((1:Nat):Int)=_ from zrz rfl)
@[simp] theorem ykg(a b c:D)(r:List D):oIx (.tup (a::b::c::r)) (.int 2) σ=.ok c σ:=zwi (show atI _ ((2:Nat):Int)=_ from zrz rfl)
@[simp] theorem ykh(a b c d:D)(r:List D):oIx (.tup (a::b::c::d::r)) (.int 3) σ=.ok d σ:=zwi (show atI _ ((3:Nat):Int)=_ from zrz rfl)
@[simp] theorem zo8(xs:List D):yq9 [.tup xs] σ=.ok (.int xs.length) σ:=nr rfl
@[simp] theorem zo7(xs:List Int):yq9 [.scr xs] σ=.ok (.int xs.length) σ:=by simp[yq9,ymy]
@[simp] theorem zgm(xs:List D):yez [.lst xs] σ=.ok (.tup xs) σ:=nr rfl
@[simp] theorem zlz(o:List D->M D)(fs:Ev->M (List D)):yiy o fs ρ σ=(fs ρ σ).bind o:=nr rfl
@[simp] theorem ybh(n:Nat)(f:List D->M D)(dds:List D)(fs:Ev->M (List D)):eFn n f dds fs ρ σ=(fs ρ σ).bind (fnK n f dds):=nr rfl
@[simp] theorem yjk(f:List D->M D)(a:D):fnK 1 f [] [a] σ=f [a] σ:=by unfold fnK;rw[if_pos (by simp)];simp
@[simp] theorem yjl(f:List D->M D)(a b:D):fnK 2 f [] [a,b] σ=f [a,b] σ:=by unfold fnK;rw[if_pos (by simp)];simp
@[simp] theorem yjm(f:List D->M D)(a b c:D):fnK 3 f [] [a,b,c] σ=f [a,b,c] σ:=by unfold fnK;rw[if_pos (by simp)];simp
@[simp] theorem ycm(f:List D->M D)(a b c:D):fnK 3 f [c] [a,b] σ=f [a,b,c] σ:=by unfold fnK;rw[if_pos (by simp)];simp
@[simp] theorem yjn(f:List D->M D)(a b c d:D):fnK 4 f [] [a,b,c,d] σ=f [a,b,c,d] σ:=by unfold fnK;rw[if_pos (by simp)];simp
@[simp] theorem zx7:yr9 ρ σ=.ok (.nx ρ) σ:=nr rfl
@[simp] theorem zyb(g h:Ev->M Fl):ysc g h ρ σ=(g ρ σ).bind (ysf h):=nr rfl
@[simp] theorem zyi(h:Ev->M Fl)(ρ:Ev):ysf h (.nx ρ) σ=h ρ σ:=nr rfl
@[simp] theorem zyj(h:Ev->M Fl)(d:D):ysf h (.rt d) σ=.ok (.rt d) σ:=nr rfl
@[simp] theorem zyk(h:Ev->M Fl)(ρ:Ev)(x:Xn):ysf h (.xc ρ x) σ=.ok (.xc ρ x) σ:=nr rfl
def xsO(ρ:Ev)(k:α->M Fl):Out α->Out Fl
 | .ok a σ'=>k a σ'
 | .ex x σ'=>.ok (.xc ρ x) σ'
 | .bad=>.bad
@[simp] theorem yn3(ρ:Ev)(m:M α)(k:α->M Fl):xs ρ m k σ=xsO ρ k (m σ):=by unfold xs xsO;cases m σ<;>rfl
@[simp] theorem yhx(ρ:Ev)(k:α->M Fl)(a:α):xsO ρ k (.ok a σ)=k a σ:=nr rfl
@[simp] theorem yhw(ρ:Ev)(k:α->M Fl)(x:Xn):xsO ρ k (.ex x σ)=.ok (.xc ρ x) σ:=nr rfl
@[simp] theorem zya(f:Ev->M D):ysb f ρ σ=xsO ρ yr2 (f ρ σ):=yn3 ..
@[simp] theorem zxy(d:D):yr2 d σ=.ok (.rt d) σ:=nr rfl
@[simp] theorem zx5(f:Ev->M D):yr6 f ρ σ=xsO ρ (yp4 ρ) (f ρ σ):=yn3 ..
@[simp] theorem zs6(d:D):yp4 ρ d σ=.ok (.nx ρ) σ:=nr rfl
@[simp] theorem zyc(i:Nat)(f:Ev->M D):ysd i f ρ σ=xsO ρ (ysh i ρ) (f ρ σ):=yn3 ..
@[simp] theorem zyn(i:Nat)(d:D):ysh i ρ d σ=.ok (.nx (ρ.set i (some d))) σ:=nr rfl
@[simp] theorem ygj(t:Ev->M Bool)(a b:Ev->M Fl):sIf t a b ρ σ=xsO ρ (ifK (a ρ) (b ρ)) (t ρ σ):=yn3 ..
@[simp] theorem zkf(c:Nat)(fs:Ev->M (List D)):ygl c fs ρ σ=xsO ρ (ygd c ρ) (fs ρ σ):=yn3 ..
@[simp] theorem zpy(c:Nat)(d:D):ygd c ρ [d] σ=.ok (.xc ρ ⟨c⟩) σ:=nr rfl
@[simp] theorem zyd(g:Ev->M Fl)(hs:List Hd):yse g hs ρ σ=(g ρ σ).bind (ys6 hs):=nr rfl
@[simp] theorem zzw(hs:List Hd):ys6 hs (.nx ρ) σ=.ok (.nx ρ) σ:=nr rfl
@[simp] theorem zzx(hs:List Hd)(x:Xn):ys6 hs (.xc ρ x) σ=yc7 ρ x hs σ:=nr rfl
theorem znk{h:Hd}{r:List Hd}{x:Xn}(e:h.t x.cls=some true):yc7 ρ x (h::r) σ=hit h ρ x σ:=by unfold yc7;rw[e]
@[simp] theorem yda(t:Nat->Option Bool)(g:Ev->M Fl)(x:Xn):hit ⟨t,none,g⟩ ρ x σ=(g ρ σ).bind noF:=nr rfl
@[simp] theorem yep:noF (.nx ρ) σ=.ok (.nx ρ) σ:=nr rfl
@[simp] theorem ygi(n:Nat)(g:Ev->M Fl)(ds:List D):run n g ds σ=yr5 (g (ds.map some++List.replicate (n - ds.length) none) σ):=nr rfl
@[simp] theorem zx2(d:D):yr5 (.ok (.rt d) σ)=.ok d σ:=nr rfl
@[simp] theorem zx1:yr5 (.ok (.nx ρ) σ)=.ok .non σ:=nr rfl
@[simp] theorem zx3(x:Xn):yr5 (.ok (.xc ρ x) σ)=.ex x σ:=nr rfl
@[simp] theorem ycq(f:M D):frz f σ=yp9 σ (f σ):=nr rfl
@[simp] theorem zsv(f:Ev->M D):ypv f ρ σ=yp9 σ (f ρ σ):=nr rfl
theorem yjs{k m:Nat}{σ:Sto}{d:D}(h:cl d=true):fz k σ m d=some d:=by cases m<;>(unfold fz;rw[if_pos h])
theorem zt4{σ':Sto}{d:D}(h:cl d=true)(ht:σ'.take σ.length=σ):yp9 σ (.ok d σ')=.ok d σ:=by
 unfold yp9;dsimp only;rw[if_pos ht,yjs h]
@[simp] theorem zt5:yp9 σ (.ex x σ)=.ex x σ:=by unfold yp9;dsimp only;rw[if_pos List.take_length]
@[simp] theorem zit{d:D}(h:cl d=true):yp9 σ (.ok d σ)=.ok d σ:=zt4 h List.take_length
theorem znc{j j':Sto}{xs:List D}(h:clL xs=true):yp9 σ (.ok (.ref σ.length) (σ++[.lst xs]++j))=.ok (.lst xs) σ:=by
 unfold yp9;dsimp only;rw[if_pos (by simp)];have e:fz σ.length (σ++[.lst xs]++j) 6 (.ref σ.length)=some (.lst xs):=by
  unfold fz;rw[if_neg (by simp[cl])];dsimp only;rw[if_neg (Nat.lt_irrefl _)];have:(σ++[Ob.lst xs]++j)[σ.length]?=some (.lst xs):=by simp
  rw[this];dsimp only;have hl:∀ (ys:List D) (m:Nat),clL ys=true->fzL (fz σ.length (σ++[.lst xs]++j) m) ys=some ys:=by
   intro ys m;induction ys with
   |nil=>intro _;rfl
   |cons y ys ih=>
    intro hc;have hc':cl y=true/\clL ys=true:=by simpa [clL,Bool.and_eq_true]using hc
    unfold fzL;rw[yjs hc'.1,ih hc'.2]
  rw[hl xs 5 h];rfl
 rw[e]
@[simp] theorem ya0(i:Int):cl (.int i)=true:=by simp[cl]
@[simp] theorem yip(i:Bool):cl (.bl i)=true:=by simp[cl]
@[simp] theorem ya7(i:Str):cl (.str i)=true:=by simp[cl]
@[simp] theorem ya3:cl .non=true:=by simp[cl]
@[simp] theorem ya9(xs:List D):cl (.tup xs)=clL xs:=by simp[cl]
@[simp] theorem ya2(xs:List D):cl (.lst xs)=clL xs:=by simp[cl]
@[simp] theorem ya5(n:Nat):cl (.ref n)=false:=by simp[cl]
@[simp] theorem zse:clL []=true:=by simp[clL]
@[simp] theorem zlp(d:D)(ds:List D):clL (d::ds)=(cl d && clL ds):=by simp[clL]
theorem zsa:∀ {ds:List D},(∀ d∈ds,cl d=true)->clL ds=true
 |[],_=>by simp
 |d::ds,h=>by rw[zlp,h d List.mem_cons_self,zsa fun x hx=>h x (List.mem_cons_of_mem _ hx)];rfl
theorem zsd:∀ {ds:List D},clL ds=true->∀ d∈ds,cl d=true
 |[],_,d,h=>nomatch h
 |x::ds,h,d,hd=>by
  rw[zlp,Bool.and_eq_true]at h;rcases List.mem_cons.mp hd with rfl|hd
  ·exact h.1
  ·exact zsd h.2 d hd
theorem zsc{γ:Type}{f:γ->D}{l:List γ}(h:∀ x,cl (f x)=true):clL (l.map f)=true:=zsa fun d hd=>by obtain⟨x,_,rfl⟩:=List.mem_map.mp hd;exact h x
@[simp] theorem zlr(l:List Int):clL (l.map D.int)=true:=zsc ya0
@[simp] theorem zsb(xs ys:List D):clL (xs++ys)=(clL xs && clL ys):=by
 induction xs with
 |nil=>simp
 |cons x xs ih=>simp[ih,Bool.and_assoc]
theorem zwl{i j:Int}(h:yph i j=true):yrb (.int i) (.int j) σ=.ok (.int (i * j)) σ:=yex h
theorem yaq{i j:Int}(h:-(2 ^ 64)<i)(h2:i<2 ^ 64):yph i j=true:=by simp only[yph,zur,Bool.or_eq_true,Bool.and_eq_true,decide_eq_true_eq];exact .inl ⟨h,h2⟩
theorem yig{xs:List D}{k:Int}(h0:0<=k)(h:k<xs.length):atI xs k=some (xs.getD k.toNat .non):=by
 obtain⟨n,rfl⟩:=Int.eq_ofNat_of_zero_le h0;have hn:n<xs.length:=by omega
 refine zrz ?_;show xs[n]?=some (xs.getD n .non);rw[List.getD_eq_getElem?_getD,List.getElem?_eq_getElem hn];rfl
theorem yih{is:List Int}{k:Int}(h0:0<=k)(h:k<is.length):atI (is.map D.int) k=some (.int (is.getD k.toNat 0)):=by
 rw[yig h0 (by simpa using h)];have hn:k.toNat<is.length:=by omega
 simp[hn]
@[simp] theorem yky(a:D):lvK [a] σ=.ok (.lst [a]) σ:=nr rfl
@[simp] theorem ykx:lvK [] σ=.ok (.lst []) σ:=nr rfl
@[simp] theorem ykz(a b:D):lvK [a,b] σ=.ok (.lst [a,b]) σ:=nr rfl
@[simp] theorem yk0(a b c d e f g h i:D):lvK [a,b,c,d,e,f,g,h,i] σ=.ok (.lst [a,b,c,d,e,f,g,h,i]) σ:=nr rfl
@[simp] theorem zjl(xs:List D):ykw (σ++[.lst xs]) σ.length=some xs:=by simp[ykw]
@[simp] theorem zyu(a b:Ob):(σ++[a]).set σ.length b=σ++[b]:=by
 rw[List.set_append_right _ _ (Nat.le_refl _)];simp
@[simp] theorem zl2(o:D->List D->M D)(f:Ev->M D)(fs:Ev->M (List D)):yi2 o f fs ρ σ=(f ρ σ).bind (yk5 o (fs ρ)):=nr rfl
theorem zon{o:D->List D->M D}{m:M (List D)}{x:D}{xs:List D}(h:yqt σ x=some xs):yk5 o m x σ=(m σ).bind (o x):=by unfold yk5;rw[h];rfl
theorem zfi{xs:List D}{d:D}(h:xs.length<1000):zv8 (.ref σ.length) [d] (σ++[.lst xs])=.ok .non (σ++[.lst (xs++[d])]):=by
 unfold zv8;simp only[zjl];rw[if_pos (show xs.length<cap from h),zyu]
theorem zo1{neg:Bool}{w:Int}{x:D}{ws:List Int}(h:ymy σ x=some (ws.map D.int)):oIn neg (.int w) x σ=.ok (.bl (if neg then !(ws.any (·== w))else ws.any (·== w))) σ:=by
 have h1:∀ l:List Int,(l.map D.int).all isF=true:=fun l=>by simp[isF,sc]
 have h2:∀ l:List Int,((l.map D.int).any fun z=>eqF z (.int w))=l.any (·== w):=fun l=>by simp[eqF,sc,eqV,List.any_map,Function.comp_def]
 unfold oIn;rw[h];simp only[h1,h2,show isF (.int w)=true from rfl,Bool.and_self,if_true]
@[simp] theorem zkk(xs:List D):ymy (σ++[.lst xs]) (.ref σ.length)=some xs:=zjl xs
@[simp] theorem zkl(xs:List D):ymy σ (.lst xs)=some xs:=nr rfl
@[simp] theorem zzn(f:Ev->M D):yso f ρ σ=(f ρ σ).bind ymx:=nr rfl
@[simp] theorem zkj(ds:List D):ymx (.tup ds) σ=.ok (.seq ds) σ:=nr rfl
@[simp] theorem zki(ds:List D):ymx (.lst ds) σ=.ok (.seq ds) σ:=nr rfl
@[simp] theorem zzm(f:Ev->M D):ysn f ρ σ=(f ρ σ).bind yr4:=nr rfl
theorem zx0{j:Int}(h:-(2 ^ 62)<=j)(h2:j<2 ^ 62):yr4 (.int j) σ=.ok (.seq (yge j.toNat)) σ:=by
 unfold yr4;dsimp only;rw[if_pos (by simp only[zy3,zur,Bool.and_eq_true,decide_eq_true_eq];exact⟨h,h2⟩)]
@[simp] theorem zx6(src:Ev->M Src)(tg:D->Ev->Option Ev)(body:Ev->M Fl):yr8 src tg body ρ σ=xsO ρ (yp8 tg body ρ) (src ρ σ):=yn3 ..
@[simp] theorem zm7(tg:D->Ev->Option Ev)(body:Ev->M Fl)(ds:List D):yp8 tg body ρ (.seq ds) σ=yqs tg body ds ρ σ:=nr rfl
@[simp] theorem zoi(tg:D->Ev->Option Ev)(body:Ev->M Fl):yqs tg body [] ρ σ=.ok (.nx ρ) σ:=nr rfl
theorem zjk{tg:D->Ev->Option Ev}{body:Ev->M Fl}{d:D}{ds:List D}{ρ1:Ev}(h:tg d ρ=some ρ1):yqs tg body (d::ds) ρ σ=(body ρ1 σ).bind (ykt (yqs tg body ds)):=by
 show (match tg d ρ with|none=>bad|some ρ1=>bnd (body ρ1) (ykt (yqs tg body ds))) σ=_;rw[h];rfl
@[simp] theorem zoj(i:Nat)(body:Ev->M Fl)(d:D)(ds:List D):yqs (tgN i) body (d::ds) ρ σ=(body (ρ.set i (some d)) σ).bind (ykt (yqs (tgN i) body ds)):=zjk rfl
@[simp] theorem zog(k:Ev->M Fl):ykt k (.nx ρ) σ=k ρ σ:=nr rfl
@[simp] theorem zoh(k:Ev->M Fl)(x:Xn):ykt k (.xc ρ x) σ=.ok (.xc ρ x) σ:=nr rfl
theorem zka(n:Nat):yge n=(List.range' 0 n).map fun(k:Nat)=>D.int k:=by unfold yge;rw[List.range_eq_range']
theorem yet{m:M α}{a:α}{σ':Sto}(h:m σ=.ok a σ'):nox m σ=.ok a σ':=by unfold nox;rw[h]
end
section
variable{α β:Type}{ρ:Ev}{σ:Sto}
@[simp] theorem zkm(ns:List Int):ymy σ (.scr ns)=some (ns.map D.int):=nr rfl
theorem zwh{ns:List Int}{k:Int}(h0:0<=k)(h:k<ns.length):oIx (.scr ns) (.int k) σ=.ok (.int (ns.getD k.toNat 0)) σ:=by
 simp only[oIx,zkm,yih h0 h]
@[simp] theorem zo2(c:BT)(i:Int):yq6 c (.int i) σ=.ok (.bl (match c with | .int=>true|_=>false)) σ:=nr rfl
@[simp] theorem zwe(c:BT)(i:Bool):yq6 c (.bl i) σ=.ok (.bl (match c with | .int=>true | .bool=>true|_=>false)) σ:=nr rfl
@[simp] theorem zo4(xs:List D):yq6 .tuple (.tup xs) σ=.ok (.bl true) σ:=nr rfl
@[simp] theorem zia(o o':D->D->M D)(a b c:Ev->M D):ybf o o' a b c ρ σ=(a ρ σ).bind (yat o o' (b ρ) (c ρ)):=nr rfl
def pl:Nat->D->Bool
 |_,.non=>true
 |_,.bl _=>true
 |_,.int _=>true
 |_,.str _=>true
 |n+1,.tup xs=>xs.all (pl n)
 |n+1,.lst xs=>xs.all (pl n)
 |_,_=>false
@[simp] theorem zqe(f fo fi:Ev->M D):ymr f fo fi ρ σ=xsO ρ (ym2 ρ fo fi) (f ρ σ):=yn3 ..
@[simp] theorem zh2(o o':D->D->M D)(b c:M D)(x:D):yat o o' b c x σ=(b σ).bind (yav o o' c x):=nr rfl
@[simp] theorem zh4(o o':D->D->M D)(c:M D)(x y:D):yav o o' c x y σ=(o x y σ).bind (yau o' c y):=nr rfl
@[simp] theorem zh3(o':D->D->M D)(c:M D)(y:D)(b:Bool):yau o' c y (.bl b) σ=ifK (bnd c (o' y)) (ret (.bl false)) b σ:=nr rfl
@[simp] theorem zqm(fo fi:Ev->M D)(d:D):ym2 ρ fo fi d σ=xsO ρ (ym3 ρ fi d) (fo ρ σ):=yn3 ..
@[simp] theorem zqn(fi:Ev->M D)(d x:D):ym3 ρ fi d x σ=xsO ρ (ym4 ρ d x) (fi ρ σ):=yn3 ..
@[simp] theorem zyo(d a:D)(r:List D):ym4 ρ d (.ref σ.length) (.int 0) (σ++[.lst (a::r)])=.ok (.nx ρ) (σ++[.lst (d::r)]):=by
 have:ylt (.ref σ.length) (.int 0) d (σ++[.lst (a::r)])=.ok () (σ++[.lst (d::r)]):=by
  simp only[ylt,zjl];rw[show ixN (a::r).length 0=some 0 by simp[ixN]];simp
 unfold ym4;rw[this]
@[simp] theorem zyp(d a b:D)(r:List D):ym4 ρ d (.ref σ.length) (.int 1) (σ++[.lst (a::b::r)])=.ok (.nx ρ) (σ++[.lst (a::d::r)]):=by
 have:ylt (.ref σ.length) (.int 1) d (σ++[.lst (a::b::r)])=.ok () (σ++[.lst (a::d::r)]):=by
  simp only[ylt,zjl];rw[show ixN (a::b::r).length 1=some 1 by simp[ixN];omega];simp
 unfold ym4;rw[this]
@[simp] theorem zf8(l:List Int):ydm (l.map D.int)=some l:=by
 induction l with
 |nil=>rfl
 |cons x l ih=>simp[ydm,ih]
theorem zdm{l:List Int}(h:l.length<=1000):zwj (.lst (l.map D.int)) σ=.ok (.int (ddp l).length) σ:=by
 simp only[zwj,yqt,Option.bind_some,zf8];rw[if_pos (show l.length<=cap from h)]
end
section
variable{ρ:Ev}{σ:Sto}
@[simp] theorem zl1(c n:Nat)(fn:List D->M D)(fs:Ev->M (List D)):yi1 c n fn fs ρ σ=(fs ρ σ).bind (yk1 c n fn):=nr rfl
theorem zok{c n:Nat}{fn:List D->M D}{ds:List D}(h:ds.length+1=n):yk1 c n fn ds σ=yli σ.length (fn (.ref σ.length::ds) (σ++[.ins c []])):=by unfold yk1;rw[if_pos h]
@[simp] theorem zvp(c:Nat)(fn:List D->M D)(a:D):yk1 c 2 fn [a] σ=yli σ.length (fn [.ref σ.length,a] (σ++[.ins c []])):=zok rfl
@[simp] theorem zoy(n:Nat):yli n (.ok .non σ)=.ok (.ref n) σ:=nr rfl
@[simp] theorem zx8(cs:List Nat)(f:Str)(fv fo:Ev->M D):ysa cs f fv fo ρ σ=xsO ρ (yl9 ρ cs f fo) (fv ρ σ):=yn3 ..
@[simp] theorem zpv(cs:List Nat)(f:Str)(fo:Ev->M D)(d:D):yl9 ρ cs f fo d σ=xsO ρ (yma ρ cs f d) (fo ρ σ):=yn3 ..
theorem zj5{cs:List Nat}{f:Str}{d:D}{c:Nat}{fs:List (Str × D)}(h:cs.contains c=true)(hl:fs.length<1000):yma ρ cs f d (.ref σ.length) (σ++[.ins c fs])=.ok (.nx ρ) (σ++[.ins c (yrm f d fs)]):=by
 have e:yre cs f d (.ref σ.length) (σ++[.ins c fs])=.ok () (σ++[.ins c (yrm f d fs)]):=by
  have:(σ++[Ob.ins c fs])[σ.length]?=some (.ins c fs):=by simp
  unfold yre;simp only[this];rw[if_pos (by rw[h];simpa using hl)];simp
 unfold yma;rw[e]
theorem zi2{c:Nat}{ns:List Str}{ds:List D}(h:ns.length=ds.length):yj3 σ (.obj c ns ds)=some (c,ns.zip ds):=by unfold yj3;dsimp only;rw[if_pos h]
theorem zwd{cs:List Nat}{f:Str}{x d:D}{c:Nat}{fs:List (Str × D)}(h:yj3 σ x=some (c,fs))(hc:cs.contains c=true)(hl:fs.lookup f=some d):yq5 cs f x σ=.ok d σ:=by
 unfold yq5;rw[h];dsimp only;rw[if_pos hc,hl]
@[simp] theorem zsx(tb:Mt)(n:Nat)(m:Str)(f:Ev->M D)(fs:Ev->M (List D)):ypy tb n m f fs ρ σ=(f ρ σ).bind (yqz tb n m (fs ρ)):=nr rfl
theorem zvz{tb:Mt}{n:Nat}{m:Str}{fs:M (List D)}{x:D}{c:Nat}{gs:List (Str × D)}{fn:List D->M D}(h:yj3 σ x=some (c,gs))(ht:lkM tb c=some fn)(hl:gs.lookup m=none):yqz tb n m fs x σ=(fs σ).bind (yk8 n fn x):=by
 unfold yqz;rw[h];dsimp only;rw[ht,hl];rfl
theorem zos{n:Nat}{fn:List D->M D}{x:D}{ds:List D}(h:ds.length+1=n):yk8 n fn x ds σ=fn (x::ds) σ:=by unfold yk8;rw[if_pos h]
@[simp] theorem zvw(fn:List D->M D)(x:D):yk8 1 fn x [] σ=fn [x] σ:=zos rfl
@[simp] theorem zvx(fn:List D->M D)(x a:D):yk8 2 fn x [a] σ=fn [x,a] σ:=zos rfl
theorem znb{c:Nat}{fs:List (Str × D)}(h:clL (fs.map (·.2))=true):yp9 σ (.ok (.ref σ.length) (σ++[.ins c fs]))=.ok (.obj c (fs.map (·.1)) (fs.map (·.2))) σ:=by
 unfold yp9;dsimp only;rw[if_pos (by simp)];have e:fz σ.length (σ++[.ins c fs]) 6 (.ref σ.length)=some (.obj c (fs.map (·.1)) (fs.map (·.2))):=by
  unfold fz;rw[if_neg (by simp)];dsimp only;rw[if_neg (Nat.lt_irrefl _)];have:(σ++[Ob.ins c fs])[σ.length]?=some (.ins c fs):=by simp
  rw[this];dsimp only;have hl:∀ (ys:List D) (m:Nat),clL ys=true->fzL (fz σ.length (σ++[.ins c fs]) m) ys=some ys:=by
   intro ys m;induction ys with
   |nil=>intro _;rfl
   |cons y ys ih=>
    intro hc;have hc':cl y=true/\clL ys=true:=by simpa [clL,Bool.and_eq_true]using hc
    unfold fzL;rw[yjs hc'.1,ih hc'.2]
  rw[hl _ 5 h];rfl
 rw[e]
@[simp] theorem ya4(c:Nat)(ns:List Str)(ds:List D):cl (.obj c ns ds)=clL ds:=by simp[cl]
@[simp] theorem zo3(c:BT):yq6 c .non σ=.ok (.bl false) σ:=by cases c<;>rfl
end
end L4
namespace L4
open PySem PySem.Spec PySem.Calls PyProof.Rows PySem.Builtin PySem.Builtin.ObjectAttr PySem.Builtin.Getset_descriptor L2
structure ExK(K:W.Frag)(C:Addr):Prop where
 g:W.findIn K (.ref C) "__getattribute__" = some (some (.builtin "BaseException.__getattribute__"))
 g2:W.findIn K (.ref C) "__getattr__" = some none
 mb:W.mroIn K C (.type "BaseException")=some true
 d:W.hasDictIn K C=true
 a:W.findIn K (.ref C) "__class__" = some (some (.builtin "object.__class__"))
 n:W.specialIn K (.builtin "object.__class__") "__get__" = some (some (.builtin "getset_descriptor.__get__"))
 t:W.takesIn K (.builtin "object.__class__")=some true
 m:W.mroIn K C (.type "object")=some true
section
variable{prog:Program}{w:World}{A:Around}{E:Value->Shared->Prop}{s:Shared}{K:W.Frag}{C ea:Addr}{hp:Heap}{Mo:Model}
theorem ybv(p:yh1 C ea hp):W.Looks Mo hp (typeOf (.ref ea)) (.ref C):=by
 obtain⟨o,h1,h2⟩:=p;rw[<-h2];exact(W.Looks.ld h1).andThen .now
theorem zmc(Z:ExK K C)(X:K.In hp):W.Looks Mo hp (find (.ref ea) (.ref C) "__class__") (.bind (.builtin "getset_descriptor.__get__") (.builtin "object.__class__")):=by
 have l3:W.Looks Mo hp (dataDescriptor? (some (.builtin "object.__class__")) (some (.builtin "getset_descriptor.__get__"))) (some (.builtin "getset_descriptor.__get__",.builtin "object.__class__")):=(W.looks_takesIn X Z.t).andThen .now;exact(W.looks_findIn X Z.a).andThen ((W.looks_specialIn X Z.n).andThen (l3.andThen (W.Looks.tag .now)))
theorem zs4{tp:Value}{R:Result->Shared->Prop}(Z:ExK K C)(X:K.In s.heap)(p:yh1 C ea s.heap)(h:R (.ok (.ret (.ref C))) s):codeAny (model prog w) A (.call (.builtin "getset_descriptor.__get__") ⟨[.builtin "object.__class__",.ref ea,tp],[]⟩) R s:=by
 obtain⟨hh,gl,dr,tt,os⟩:=s;have l0:=ybv (Mo:=model prog w) p;have l1:=W.looks_mroIn (M:=model prog w) X Z.m;refine codeAny_call_builtin W.KF.slot_gs.plain W.KF.entry_gs (W.KF.slot_gs.check _ _ _ _ _ _ _ _ W.KF.type_class (W.KF.args_gs _ _ _) ?_);unfold Builtin.«getset_descriptor.__get__» descrGet;rw[W.dga_obj];refine wpAny_bind (wpAny_pure ?_);unfold descrGetter descrCheckInstance descrNameAndClass isInstance;simp only[W.KF.owner_class];repeat lk
 refine⟨Code.quiet_builtin _ (by decide +kernel),codeAny_builtin W.KF.entry_class ?_⟩;unfold Builtin.«object.__class__» shownTypeOf;repeat lk
 exact h
theorem zie{Q:Option Value->Shared->Prop}(Z:ExK K C)(X:K.In s.heap)(p:yh1 C ea s.heap)(h:Q (some (.ref C)) { s with toks:=s.toks+1 }):wpAny (model prog w) A (getAttr? (.ref ea) "__class__") Q E s:=by
 obtain⟨hh,gl,dr,tt,os⟩:=s;have l0:=ybv (Mo:=model prog w) p;have l1:=W.looks_findIn (M:=model prog w) X Z.g;have l2:=W.looks_findIn (M:=model prog w) X Z.g2;have l3:=zmc (ea:=ea) (Mo:=model prog w) Z X;have l4:=W.looks_mroIn (M:=model prog w) X Z.mb;have f3:=PySem.F.excAttr_ValueError.ga.bind (.ref ea);unfold getAttr? getAttrBy? getAttrBy;refine wpAny_bind (wpAny_mkText (wpAny_bind (wpAny_attempt (wpAny_holding (wpAny_bind (l0.at (wpAny_bind (l1.at ?_))))))));show wpAny _ _ (getAttrByItsOwn _ _ _ _ _ _) _ _ _;unfold getAttrByItsOwn hookBefore callGetattribute;repeat (any_goals (first|assumption|(with_reducible refine W.Looks.at (by assumption) ?_)|wp_step))
 refine codeAny_call_builtin PySem.F.excAttr_ValueError.ga.plain PySem.F.entry_bexc_ga ?_;have hknd:builtinKind "BaseException.__getattribute__" = some .slot:=by decide +kernel
 have hsp:splitId "BaseException.__getattribute__" = some ("BaseException", "__getattribute__"):=by decide +kernel
 have ha:=PySem.F.args_bexc_ga (.ref ea) (.str "__class__" tt);simp only[List.cons_append,List.nil_append,checkBuiltinCall,hknd,hsp];refine wpAny_bind ?_;unfold isInstance;repeat (any_goals (first|assumption|(with_reducible refine W.Looks.at (by assumption) ?_)|wp_step))
 refine zs4 Z X p ?_;exact wpAny_pure (W.handed_on rfl (wpAny_pure h))
theorem yaa.plain{dd:Option Addr}(p:yaa C dd ea hp):yh1 C ea hp:=let ⟨o,h1,h2,_⟩:=p;⟨o,h1,h2⟩
theorem zn7{dd:Option Addr}(Z:ExK K C):W.KitX K (.ref ea) (.ref C) (yaa C dd ea) where
 ty:=fun _ _ _ p=>ybv p.plain
 it:=fun _ _ X _=>by
  obtain⟨cd,hcd,_⟩:=W.any_some Z.d;unfold W.clsIn at hcd;split at hcd
  ·rename_i ho
   intro A' Q' E' s' k q;unfold isType loadHead;exact wpAny_bind (wpAny_loadPart (k _ _ (X _ _ ho)) (wpAny_pure q))
  ·cases hcd
 ne:=fun h tp dd its n sl X htp=>by
  obtain⟨cd,hcd,_⟩:=W.any_some Z.d;refine Bool.eq_false_iff.mpr fun q=>?_;have e:C=tp:=Value.ref.inj (beq_iff_eq.mp q);subst e;unfold W.clsIn at hcd;split at hcd
  ·rename_i ho;have z:=(X _ _ ho).symm.trans htp;cases z
  ·cases hcd
 ca:=fun X p k=>zie Z X p.plain k
end
def yq8(t:Nat->Option Bool)(x:D):M D:=fun σ=>match x with
 | .exn c=>(match t c with|some b=>.ok (.bl b) σ|none=>.bad)
 |_=>.bad
section
variable{T:Tb}{X:Cx}
def yrs(K:W.Frag)(vc:V)(cv:Value):List V->Hp->VK->Prop:=fun xs H Q=>∃ a C dd b,xs=[.ref a,vc]/\H a=some (.ext (yaa C dd a))/\ExK K C/\W.kitOne K (.ref C) cv=some b/\Q (.bl b) H
theorem zlj{vc:V}{cv:Value}(hv:∀ u,yoq vc u->u=cv):yh0 X (.builtin "isinstance") (yrs X.K vc cv):=by
 intro pins s st H xs us Q I r h;obtain⟨a,C,dd,b,rfl,ea,Z,e,q⟩:=h;obtain⟨u,u2,rfl,ru,ru2⟩:=ynz r;cases hv _ ru2;cases (show u=Value.ref a from ru);exact W.kia_one (zn7 Z) I.kIn (I.hok a _ ea).1 e (fun z=>nomatch z) fun tk=>⟨.bl b,H,I.tok _,rfl,q⟩
inductive ClsV(X:Cx)(y:Str):V->Value->Prop where
 |own {a:Addr} (h:X.mg y=some (.ref a)):ClsV X y (.ref a) (.ref a)
 |bt {n:String} (h:X.mg y=none) (hv:bootBuiltins y=some (.type n)) (hn:y ≠ "__name__"):ClsV X y (.ty n) (.type n)
theorem ClsV.pe{y:Str}{vc:V}{cv:Value}{p2:Pos}(h:ClsV X y vc cv)(hg2:Gl X y)(hd2:(y == ("__debug__" : Str))=false):PE X (.Name y p2) (tC vc):=by
 cases h with
 |own h=>exact zw7 hg2 h rfl hd2
 |bt h hv hn=>exact zw1 hg2 h hv rfl hn hd2
theorem ClsV.rel{y:Str}{vc:V}{cv:Value}(h:ClsV X y vc cv):∀ u,yoq vc u->u=cv:=by
 cases h with
 |own h=>exact fun u q=>q
 |bt h hv hn=>exact fun u q=>q
theorem yb5{y:Str}{vc:V}{cv:Value}{t:Nat->Option Bool}{e:Expr}{f:Ev->M D}{p p2 pos:Pos}(he:FE T X e f)(hg:Gl X "isinstance")(hm:X.mg "isinstance" = none)(hg2:Gl X y)(hd2:(y == ("__debug__" : Str))=false)(hc:ClsV X y vc cv)
  (ht:∀ c b,t c=some b->ExK X.K (T.ca c)/\W.kitOne X.K (.ref (T.ca c)) cv=some b)
  (hs:starEach [e,.Name y p2] X.env=(false,eval e X.env)::starEach [.Name y p2] X.env:=by rfl) (hpl:(backTo pos (starEach [.Name y p2] X.env)).any (·.1)=false:=by rfl) :
  FE T X (.Call (.Name "isinstance" p) [e,.Name y p2] [] pos) (eUn (yq8 t) f):=by
 intro pins s st H Q I h;refine zpe (zlj hc.rel) hg hm boot_isinstance (zwx he (zwx (hc.pe hg2 hd2) yfi) hs) (by decide) (by decide) hs hpl pins s st H Q I ?_;obtain⟨μ,ρ,σ,hE,hr,hp⟩:=h;refine⟨μ,ρ,σ,hE,hr,hp.bind fun x σ1 μ1 v H1 _ e1 r1 p1 q1=>?_⟩;unfold yq8 at q1;cases x with
 |exn c=>
  dsimp only at q1;cases et:t c with
  |none=>rw[et]at q1;exact q1.elim
  |some b=>
   rw[et]at q1;rw[Rep]at p1;obtain⟨a,dd,rfl,_,h2,_⟩:=p1;obtain⟨z1,z2⟩:=ht c b et;exact⟨a,T.ca c,dd,b,rfl,h2,z1,z2,yol.here q1 r1 (by rw[Rep])⟩
 |_=>exact q1.elim
end
def yof(K:W.Frag)(ca:Nat->Addr)(cv:Value)(l:List (Nat × Bool)):Prop:=∀ p∈l,ExK K (ca p.1)/\W.kitOne K (.ref (ca p.1)) cv=some p.2
theorem ydo{K:W.Frag}{ca:Nat->Addr}{cv:Value}:yof K ca cv []:=fun _ h=>nomatch h
theorem zu4{K:W.Frag}{ca:Nat->Addr}{cv:Value}{c:Nat}{b:Bool}{l:List (Nat × Bool)}(z:ExK K (ca c))(h:W.kitOne K (.ref (ca c)) cv=some b)(r:yof K ca cv l):yof K ca cv ((c,b)::l):=fun p hp=>by
 rcases List.mem_cons.mp hp with rfl|hp
 ·exact⟨z,h⟩
 ·exact r p hp
theorem ykd{K:W.Frag}{ca:Nat->Addr}{cv:Value}{l:List (Nat × Bool)}(h:yof K ca cv l):∀ c b,yqg l c=some b->ExK K (ca c)/\W.kitOne K (.ref (ca c)) cv=some b:=fun c b e=>h (c,b) (yeb e)
section
variable{ρ:Ev}{σ:Sto}
@[simp] theorem ydb(t:Nat->Option Bool)(i:Nat)(g:Ev->M Fl)(x:Xn):hit ⟨t,some i,g⟩ ρ x σ=(g (ρ.set i (some (.exn x.cls))) σ).bind (ys9 i):=nr rfl
@[simp] theorem zz4(i:Nat):ys9 i (.nx ρ) σ=.ok (.nx (ρ.set i none)) σ:=nr rfl
theorem zwf{t:Nat->Option Bool}{c:Nat}{b:Bool}(h:t c=some b):yq8 t (.exn c) σ=.ok (.bl b) σ:=by unfold yq8;dsimp only;rw[h]
end
end L4
namespace L4
open PySem PySem.Spec PySem.Calls PyProof.Rows L2
section
variable{T:Tb}{X:Cx}
end
end L4
namespace HT
open PySem Builtin
open Sem (wp)
end HT
namespace L4
open PySem PySem.Spec PyProof.Rows L2
end L4
namespace HT
open PySem Builtin
open Sem (wp)
end HT
namespace L4
open PySem PySem.Spec PyProof.Rows L2
section
variable{T:Tb}{X:Cx}
end
end L4
namespace L2
open PySem PySem.Spec PyProof.Rows
section
variable{κ:Type}[DecidableEq κ]
def yta(kvs:List (κ × V))(k:κ):Option V:=(kvs.find? fun kv=>decide (kv.1=k)).map (·.2)
def yro(kvs:List (κ × V))(k:κ)(v:V):List (κ × V):=
 if (kvs.any fun kv=>decide (kv.1=k))=true then kvs.map (fun kv=>if kv.1=k then (kv.1,v)else kv)else kvs++[(k,v)]
def yiu(kvs:List (κ × V))(k:κ):List (κ × V):=kvs.filter fun kv=>decide (kv.1≠k)
theorem zrh{p:κ × V}{r:List (κ × V)}{k:κ}(e:p.1=k):yta (p::r) k=some p.2:=by simp[yta,List.find?_cons,e]
theorem zrg{p:κ × V}{r:List (κ × V)}{k:κ}(e:¬ p.1=k):yta (p::r) k=yta r k:=by simp[yta,List.find?_cons,e]
theorem zrf(k:κ):∀ kvs:List (κ × V),(kvs.any fun kv=>decide (kv.1=k))=(yta kvs k).isSome
 |[]=>rfl
 |p::r=>by
  rw[List.any_cons];by_cases e:p.1=k
  ·simp only[zrh e,decide_eq_true e,Bool.true_or,Option.isSome_some]
  ·rw[zrg e,decide_eq_false e,Bool.false_or];exact zrf k r
theorem zeo(kvs:List (κ × V))(k:κ)(v:V):(yro kvs k v).length<=kvs.length+1:=by
 unfold yro;split
 ·rw[List.length_map];omega
 ·rw[List.length_append,List.length_cons,List.length_nil];omega
theorem yop.isSome_eq{o:Option V}{u:Option Value}(r:yop o u):o.isSome=u.isSome:=by
 cases o with
 |none=>cases u with
  |none=>rfl
  |some _=>exact(show False from r).elim
 |some _=>cases u with
  |none=>exact(show False from r).elim
  |some _=>rfl
theorem yop.getD{o:Option V}{u:Option Value}{d:V}{d':Value}(r:yop o u)(rd:yoq d d'):yoq (o.getD d) (u.getD d'):=by
 cases o with
 |none=>cases u with
  |none=>exact rd
  |some _=>exact(show False from r).elim
 |some _=>cases u with
  |none=>exact(show False from r).elim
  |some _=>exact r
theorem KV.val{kvs:List (κ × V)}{vs:List (κ × Value)}(r:KV kvs vs)(k:κ):yop (yta kvs k) (valueAt vs k):=by
 unfold KV at r;induction r with
 |nil=>exact True.intro
 |@cons p q ps qs h t ih=>
  obtain⟨h1,h2⟩:=h;by_cases e:p.1=k
  ·have e':q.1=k:=h1.symm.trans e;have b:valueAt (q::qs) k=some q.2:=by simp[valueAt,List.find?_cons,e']
   rw[zrh e,b];exact h2
  ·have e':¬ q.1=k:=fun z=>e (h1.trans z);have b:valueAt (q::qs) k=valueAt qs k:=by simp[valueAt,List.find?_cons,e']
   rw[zrg e,b];exact ih
theorem KV.any{kvs:List (κ × V)}{vs:List (κ × Value)}(r:KV kvs vs)(k:κ):(kvs.any fun kv=>decide (kv.1=k))=vs.any fun kv=>decide (kv.1=k):=by
 unfold KV at r;induction r with
 |nil=>rfl
 |cons h t ih=>rw[List.any_cons,List.any_cons,ih,h.1]
theorem KV.repl{kvs:List (κ × V)}{vs:List (κ × Value)}(r:KV kvs vs)(k:κ){y:V}{u:Value}(ry:yoq y u) :
  KV (kvs.map fun kv=>if kv.1=k then (kv.1,y)else kv) (vs.map fun kv=>if kv.1=k then (kv.1,u)else kv):=by
 unfold KV at r ⊢;induction r with
 |nil=>exact .nil
 |@cons p q ps qs h t ih=>
  rw[List.map_cons,List.map_cons];refine .cons ?_ ih;obtain⟨h1,h2⟩:=h;by_cases e:p.1=k
  ·rw[if_pos e,if_pos (h1.symm.trans e)];exact⟨h1,ry⟩
  ·rw[if_neg e,if_neg (fun z=>e (h1.trans z))];exact⟨h1,h2⟩
theorem KV.put{kvs:List (κ × V)}{vs:List (κ × Value)}(r:KV kvs vs)(k:κ){y:V}{u:Value}(ry:yoq y u):KV (yro kvs k y) (stored vs k u):=by
 unfold yro stored;rw[r.any k];by_cases e:(vs.any fun kv=>decide (kv.1=k))=true
 ·rw[if_pos e,if_pos e];exact r.repl k ry
 ·rw[if_neg e,if_neg e];exact Paired.snoc r ⟨rfl,ry⟩
theorem KV.drop{kvs:List (κ × V)}{vs:List (κ × Value)}(r:KV kvs vs)(k:κ):KV (yiu kvs k) (without vs k):=by
 unfold KV at r ⊢;unfold yiu without;induction r with
 |nil=>exact .nil
 |@cons p q ps qs h t ih=>
  obtain⟨h1,h2⟩:=h;rw[List.filter_cons,List.filter_cons];by_cases e:p.1=k
  ·have a:¬ decide (p.1≠k)=true:=by simp[e]
   have b:¬ decide (q.1≠k)=true:=by simp[h1.symm.trans e]
   rw[if_neg a,if_neg b];exact ih
  ·have e':¬ q.1=k:=fun z=>e (h1.trans z);have a:decide (p.1≠k)=true:=by simp[e]
   have b:decide (q.1≠k)=true:=by simp[e']
   rw[if_pos a,if_pos b];exact .cons ⟨h1,h2⟩ ih
theorem KV.keys{kvs:List (κ × V)}{vs:List (κ × Value)}(r:KV kvs vs):kvs.map (·.1)=vs.map (·.1):=by
 unfold KV at r;induction r with
 |nil=>rfl
 |cons h t ih=>rw[List.map_cons,List.map_cons,ih,h.1]
theorem KV.length{kvs:List (κ × V)}{vs:List (κ × Value)}(r:KV kvs vs):kvs.length=vs.length:=Paired.length r
end
theorem ykj{P:Program}{w:World}{k:Key}{u:Value}(r:yoq (kV k) u):(zvs P w).is k u=true:=by
 cases k with
 |inl i=>obtain⟨t,e⟩:=(show ∃ t,u=Value.int i t from r);subst e;exact zeq P w i t
 |inr x=>obtain⟨t,e⟩:=(show ∃ t,u=Value.str x t from r);subst e;exact zer P w x t
theorem zi9{P:Program}{w:World}:∀ {ks:List Key} {us:List Value},yo0 (ks.map kV) us->ItemsAre (zvs P w) ks us
 |[],_,r=>by rw[List.map_nil]at r;cases r;exact .nil
 |k::ks,_,r=>by
  rw[List.map_cons]at r;cases r with
  |cons h t=>exact .cons (ykj h) (zi9 t)
abbrev KT(H:Hp):List (List Key × V)->List (List Key × Addr × Value)->Prop:=Paired fun p q=>p.1=q.1/\H q.2.1=some (.tup (p.1.map kV))/\yoq p.2 q.2.2
theorem KT.val{H:Hp}{kvs:List (List Key × V)}{xs:List (List Key × Addr × Value)}(r:KT H kvs xs)(k:List Key):yop (yta kvs k) ((atKey xs k).map (·.2)):=by
 induction r with
 |nil=>exact True.intro
 |@cons p q ps qs h t ih=>
  obtain⟨h1,_,h2⟩:=h;by_cases e:p.1=k
  ·have e':q.1=k:=h1.symm.trans e;have b:atKey (q::qs) k=some q.2:=by simp[atKey,List.find?_cons,e']
   rw[zrh e,b];exact h2
  ·have e':¬ q.1=k:=fun z=>e (h1.trans z);have b:atKey (q::qs) k=atKey qs k:=by simp[atKey,List.find?_cons,e']
   rw[zrg e,b];exact ih
theorem KT.repl{H:Hp}{kvs:List (List Key × V)}{xs:List (List Key × Addr × Value)}(r:KT H kvs xs)(k:List Key){y:V}{u:Value}(ry:yoq y u) :
  KT H (kvs.map fun kv=>if kv.1=k then (kv.1,y)else kv) (xs.map (putAt k u)):=by
 induction r with
 |nil=>exact .nil
 |@cons p q ps qs h t ih=>
  rw[List.map_cons,List.map_cons];refine .cons ?_ ih;obtain⟨h1,h2,h3⟩:=h;unfold putAt;by_cases e:p.1=k
  ·rw[if_pos e,if_pos (h1.symm.trans e)];exact⟨h1,h2,ry⟩
  ·rw[if_neg e,if_neg (fun z=>e (h1.trans z))];exact⟨h1,h2,h3⟩
theorem KT.put{H:Hp}{kvs:List (List Key × V)}{xs:List (List Key × Addr × Value)}(r:KT H kvs xs)(k:List Key){b:Addr}{y:V}{u:Value}(hb:H b=some (.tup (k.map kV)))(ry:yoq y u) :
  KT H (yro kvs k y) (storedH xs k b u):=by
 have e:(kvs.any fun kv=>decide (kv.1=k))=(atKey xs k).isSome:=by
  rw[zrf,(r.val k).isSome_eq,Option.isSome_map]
 unfold yro storedH;rw[e];by_cases q:(atKey xs k).isSome=true
 ·rw[if_pos q,if_pos q];exact r.repl k ry
 ·rw[if_neg q,if_neg q];exact Paired.snoc r ⟨rfl,hb,ry⟩
theorem KT.keeps{H H':Hp}{kvs:List (List Key × V)}{xs:List (List Key × Addr × Value)}(r:KT H kvs xs)(ht:∀ b ys,H b=some (.tup ys)->H' b=some (.tup ys)):KT H' kvs xs:=
 Paired.mapP r fun _ _ z=>⟨z.1,ht _ _ z.2.1,z.2.2⟩
section
variable{P:Program}{w:World}{H:Hp}{h:Heap}{a:Addr}
theorem yml{u:HO}(ok:HOk P w H h)(e:Rd H a u):yh5 P w H h a u:=e.ok ok
theorem yit{kvs:List (Key × V)}(ok:HOk P w H h)(e:Rd H a (.dK kvs)):kvs.length<=sizeLine/\(a == sysModules)=false/\∃ vs,KV kvs vs/\h.DictOf (zvs P w) a vs:=
 show yh5 P w H h a (.dK kvs)from yml ok e
theorem yis{kvs:List (Key × V)}(ok:HOk P w H h)(e:H a=some (.dK kvs)):kvs.length<=sizeLine/\(a == sysModules)=false/\∃ vs,KV kvs vs/\h.DictOf (zvs P w) a vs:=yit ok (.inl e)
theorem ydv{ks:List Key}(ok:HOk P w H h)(e:H a=some (.tup (ks.map kV))):(tupleKind (zvs P w)).is h ks a:=by
 obtain⟨_,its,r,o,h1,h2,n,h3⟩:=(show yh5 P w H h a (.tup (ks.map kV))from ok a _ e)
 exact⟨o,its.toArray,n,h1,h2,h3,by simpa using zi9 r⟩
theorem yiw{kvs:List (List Key × V)}(ok:HOk P w H h)(e:Rd H a (.dT kvs)):kvs.length<=sizeLine/\(a == sysModules)=false/\
  ∃ xs,KT H kvs xs/\h.DictOfH (tupleKind (zvs P w)) a xs:=by
 obtain⟨z,y,xs,r,o,es,ep,h1,h2,h3,h4,h5⟩:=(show yh5 P w H h a (.dT kvs)from yml ok e)
 refine⟨z,y,xs,r,o,es,ep,h1,h2,h3,h4,fun x hx=>?_,h5⟩;have all:∀ {l:List (List Key × V)} {m:List (List Key × Addr × Value)},KT H l m->∀ x∈m,(tupleKind (zvs P w)).is h x.1 x.2.1:=by
  intro l m q;induction q with
  |nil=>intro x hx;exact nomatch hx
  |@cons p q ps qs hq t ih=>
   intro x hx;rcases List.mem_cons.mp hx with e|hx
   ·subst e;exact ydv ok (by rw[<-hq.1];exact hq.2.1)
   ·exact ih x hx
 exact all r x hx
theorem yiv{kvs:List (List Key × V)}(ok:HOk P w H h)(e:H a=some (.dT kvs)):kvs.length<=sizeLine/\(a == sysModules)=false/\
  ∃ xs,KT H kvs xs/\h.DictOfH (tupleKind (zvs P w)) a xs:=yiw ok (.inl e)
end
def DGet(H:Hp)(a:Addr)(y:V)(r:Option V):Prop:=
 (∃ kvs k,Rd H a (.dK kvs)/\y=kV k/\r=yta kvs k)\/∃ kvs k b,Rd H a (.dT kvs)/\y=.ref b/\H b=some (.tup (k.map kV))/\r=yta kvs k
def yn8(H:Hp)(a:Addr)(y v:V)(H':Hp):Prop:=
 (∃ kvs k,H a=some (.dK kvs)/\y=kV k/\kvs.length<sizeLine/\H'=upd H a (.dK (yro kvs k v)))\/
 ∃ kvs k b,H a=some (.dT kvs)/\y=.ref b/\H b=some (.tup (k.map kV))/\kvs.length<sizeLine/\H'=upd H a (.dT (yro kvs k v))
theorem DGet.k{H:Hp}{a:Addr}{kvs:List (Key × V)}{k:Key}(e:H a=some (.dK kvs)):DGet H a (kV k) (yta kvs k):=.inl ⟨kvs,k,.inl e,rfl,rfl⟩
theorem DGet.t{H:Hp}{a b:Addr}{kvs:List (List Key × V)}{k:List Key}(e:H a=some (.dT kvs))(eb:H b=some (.tup (k.map kV))):DGet H a (.ref b) (yta kvs k):=.inr ⟨kvs,k,b,.inl e,rfl,eb,rfl⟩
theorem yn8.k{H:Hp}{a:Addr}{kvs:List (Key × V)}{k:Key}{v:V}(e:H a=some (.dK kvs))(hl:kvs.length<sizeLine):yn8 H a (kV k) v (upd H a (.dK (yro kvs k v))):=.inl ⟨kvs,k,e,rfl,hl,rfl⟩
theorem yn8.t{H:Hp}{a b:Addr}{kvs:List (List Key × V)}{k:List Key}{v:V}(e:H a=some (.dT kvs))(eb:H b=some (.tup (k.map kV)))(hl:kvs.length<sizeLine) :
  yn8 H a (.ref b) v (upd H a (.dT (yro kvs k v))):=.inr ⟨kvs,k,b,e,rfl,eb,hl,rfl⟩
section
variable{X:Cx}{pins:List (Addr × Obj)}{σ:St}{H:Hp}{s:Shared}{a:Addr}{y v:V}{u r:Value}{o:Option V}{A:Around}{E:Value->Shared->Prop}
theorem Inv.big(I:Inv X pins σ H s):sysModules<s.heap.objs.size:=by
 have h:mainGlobals<s.heap.objs.size:=(I.mod.glob.keeps I.bk).lt;exact Nat.lt_trans (by decide) h
theorem zh5{Q:Value->Shared->Prop}(hu:A.units+1<cLine)(I:Inv X pins σ H s)(g:DGet H a y (some v))(ry:yoq y u)(h:∀ w' s',Inv X pins σ H s'->yoq v w'->Q w' s') :
  wpAny (model X.prog X.w) A (getItem (.ref a) u) Q E s:=by
 rcases g with⟨kvs,k,e,ey,l⟩|⟨kvs,k,b,e,ey,eb,l⟩
 ·subst ey;obtain⟨z,hd,vs,rel,dd⟩:=yit I.hok e;obtain⟨w',hw,rw'⟩:=yop.some_of (v:=v) (o:=valueAt vs k) (by rw[l];exact rel.val k);exact wpAny_getItem_of (ykj ry) dd.mapOf hw (h w' _ (I.tok _) rw')
 ·subst ey;cases (show u=Value.ref b from ry);obtain⟨z,hd,xs,rel,dd⟩:=yiw I.hok e;obtain⟨w',hw,rw'⟩:=yop.some_of (v:=v) (o:=(atKey xs k).map (·.2)) (by rw[l];exact rel.val k);obtain⟨p,hp,hp2⟩:=Option.map_eq_some_iff.mp hw;refine wpAny_getItem_heap (tupleKind_room_in1 hu) (ydv I.hok eb) dd hp ?_;rw[hp2];exact h w' _ (I.tok _) rw'
theorem zso{Q:Value->Shared->Prop}(hu:A.units+1<cLine)(I:Inv X pins σ H s)(g:DGet H a y o)(ry:yoq y u)(h:∀ s',Inv X pins σ H s'->Q (.bool (!o.isSome)) s') :
  wpAny (model X.prog X.w) A (compareOp .NotIn u (.ref a)) Q E s:=by
 rcases g with⟨kvs,k,e,ey,l⟩|⟨kvs,k,b,e,ey,eb,l⟩
 ·subst ey;obtain⟨z,hd,vs,rel,dd⟩:=yit I.hok e;refine wpAny_notIn_of (ykj ry) hd dd.mapOf ?_;rw[<-(rel.val k).isSome_eq,<-l];exact h _ (I.tok _)
 ·subst ey;cases (show u=Value.ref b from ry);obtain⟨z,hd,xs,rel,dd⟩:=yiw I.hok e;refine wpAny_notIn_heap (tupleKind_room_in1 hu) (ydv I.hok eb) hd dd ?_;have q:=(rel.val k).isSome_eq;rw[Option.isSome_map]at q;rw[<-q,<-l];exact h _ (I.tok _)
theorem zsp{h':Heap}{t':Nat}{ob:HO}(I:Inv X pins σ H s)(mu:Mut (H a))(hs:Heap.SameBut a s.heap h')(he:∃ q,h'.get? a=some q)(new:yh5 X.prog X.w (upd H a ob) h' a ob) :
  Inv X pins σ (upd H a ob) { s with heap:=h',toks:=t' }:=
 I.write (x:=a) (e:=a) mu (.inl rfl) (fun b q hb z=>(hs.2 b hb).trans z) he new
theorem ybd{P:Program}{w:World}{H':Hp}{h':Heap}{kvs:List (Key × V)}{vs:List (Key × Value)}(z:kvs.length<=sizeLine)(hd:(a == sysModules)=false)(rel:KV kvs vs)(dd:h'.DictOf (zvs P w) a vs) :
  yh5 P w H' h' a (.dK kvs):=⟨z,hd,vs,rel,dd⟩
theorem zh6{H':Hp}{Q:Unit->Shared->Prop}(hu:A.units+1<cLine)(I:Inv X pins σ H s)(g:yn8 H a y v H')(ry:yoq y u)(rv:yoq v r)(h:∀ s',Inv X pins σ H' s'->Q () s') :
  wpAny (model X.prog X.w) A (setItem (.ref a) u r) Q E s:=by
 rcases g with⟨kvs,k,e,ey,l,eH⟩|⟨kvs,k,b,e,ey,eb,l,eH⟩
 ·subst ey eH;obtain⟨z,hd,vs,rel,dd⟩:=yis I.hok e;have hz:vs.length<=sizeLine:=by rw[<-rel.length];exact z
  have hl:(yro kvs k v).length<=sizeLine:=by have:=zeo kvs k v;omega
  refine wpAny_setItem_pairs (hsz:=hz) (ykj ry) dd fun h' dd' hs=>h _ ?_;have he:∃ q,h'.get? a=some q:=let ⟨q,_,_,hq,_⟩:=dd';⟨q,hq⟩;exact zsp I (by rw[e];exact True.intro) hs he (ybd hl hd (rel.put k rv) dd')
 ·subst ey eH;cases (show u=Value.ref b from ry);obtain⟨z,hd,xs,rel,dd⟩:=yiv I.hok e;have hz:xs.length<=sizeLine:=by rw[<-Paired.length rel];exact z
  have hl:(yro kvs k v).length<=sizeLine:=by have:=zeo kvs k v;omega
  refine wpAny_setItem_heap (hsz:=hz) (tupleKind_room_in1 hu) (ydv I.hok eb) dd fun h' dd' hs=>h _ ?_;obtain⟨q,es,ep,hq,h2,h3,h4,_,h5⟩:=dd';refine zsp I (by rw[e];exact True.intro) hs ⟨q,hq⟩ ⟨hl,hd,_,(rel.put k eb rv).keeps fun c ys ec=>?_,q,es,ep,hq,h2,h3,h4,h5⟩;rw[yhv (yle ec e (fun z=>nomatch z))];exact ec
end
section
variable{X:Cx}{pins:List (Addr × Obj)}{σ:St}{H:Hp}{s:Shared}{a:Addr}{kvs:List (Key × V)}{k:Key}{u:Value}{A:Around}{E:Value->Shared->Prop}
end
def yoi(i:Expr):Prop:=∀ ov iv,subscripted i false ov iv=operate [ov,iv] (getItem ov iv)
theorem zzs{prog:Program}{w:World}{A:Around}{E:Value->Shared->Prop}{s:Shared}{env:Env}{value slice:Expr}{pos:Pos}{T id:String}{Q:Value->Shared->Prop}
  (hl:typeLookup (.type T) "__getitem__" = pure (some (.builtin id))) (hs:yoi slice)
  (h:wpAny (model prog w) A (eval value env) (fun o s₁=>wpAny (model prog w) A (eval slice env) (fun i s₂=>s₂.TypeIs o T/\wpAny (model prog w) A (getItem o i) Q E s₂) E s₁) E s) :
  wpAny (model prog w) A (eval (.Subscript value slice pos) env) Q E s:=by
 refine Subscript_ (wpAny_mono h (fun o s₁ h₁=>wpAny_mono h₁ (fun i s₂ h₂=>?_) fun _ _ x=>x) fun _ _ x=>x);obtain⟨hT,h₂⟩:=h₂;unfold subscriptTail;refine wpAny_bind ?_;rw[getitemInPython_of_ne hT.not_modules];refine wpAny_bind (wpAny_specialOf hT hl ?_);have fin:wpAny (model prog w) A (subscripted slice false o i) (fun r s₃=>wpAny (model prog w) A (letTemporaryGo value o r >>= fun _=>pure r) Q E s₃) E s₂:=by
  rw[hs o i];exact wpAny_operating (wpAny_mono h₂ (fun r s₃ h₃=>wpAny_bind (wpAny_letTemporaryGo (wpAny_pure h₃))) fun _ _ x=>x)
 first
  |exact wpAny_pure (wpAny_bind fin)
  |exact wpAny_bind (wpAny_pure (wpAny_bind fin))
  |exact wpAny_bind fin
theorem zef{X:Cx}{pins:List (Addr × Obj)}{σ:St}{H:Hp}{s:Shared}{a:Addr}{y:V}{o:Option V}(I:Inv X pins σ H s)(g:DGet H a y o):s.TypeIs (.ref a) "dict":=by
 rcases g with⟨kvs,k,e,_,_⟩|⟨kvs,k,b,e,_,_,_⟩
 ·obtain⟨_,_,vs,_,dd⟩:=yit I.hok e;exact dd.typeIs
 ·obtain⟨_,_,xs,_,dd⟩:=yiw I.hok e;exact dd.typeIs
def yne(td ty:TE):TE:=fun σ H Q=>td σ H fun x H1=>ty σ H1 fun y H2=>∃ a v,x=.ref a/\DGet H2 a y (some v)/\Q v H2
section
variable{X:Cx}{o i e value:Expr}{pos pos' tpos:Pos}{td ty tv:TE}
theorem zw4(hu:X.A.units+1<cLine)(ho:PE X o td)(hi:PE X i ty)(hs:yoi i):PE X (.Subscript o i pos) (yne td ty):=by
 intro pins s σ H Q I h;refine zzs PySem.F.slot_dict_getitem.lookup hs (thn (ho pins s σ H _ I h) fun u s1 ⟨x,H1,I1,rx,q1⟩=>thn (hi pins s1 σ H1 _ I1 q1) fun iv s2 ⟨y,H2,I2,ry,a,v,ex,g,q2⟩=>?_);subst ex;obtain rfl:u=Value.ref a:=rx;exact⟨zef I2 g,zh5 hu I2 g ry fun w' s3 I3 rw'=>⟨v,H2,I3,rw',q2⟩⟩
end
theorem zlw{P:Program}{w:World}{H:Hp}(h:Heap)(hb:sysModules<h.objs.size):yh5 P w H (h.push { cls:=.type "dict",data:=.dict #[] }) h.objs.size (.dK []):=
 ⟨Nat.zero_le _,beq_eq_false_iff_ne.mpr (Ne.symm (Nat.ne_of_lt hb)),[],.nil,Heap.DictOf.new h⟩
theorem zly{P:Program}{w:World}{H:Hp}(h:Heap)(hb:sysModules<h.objs.size):yh5 P w H (h.push { cls:=.type "dict",data:=.dict #[] }) h.objs.size (.dT []):=
 ⟨Nat.zero_le _,beq_eq_false_iff_ne.mpr (Ne.symm (Nat.ne_of_lt hb)),[],.nil,_,#[],0,Heap.get?_push_size _ rfl,⟨rfl,rfl,rfl⟩,rfl,rfl,List.nodup_nil⟩
def yg3:TE:=fun _ H Q=>∀ p,H p=none->Q (.ref p) (upd H p (.dK []))
def yg4:TE:=fun _ H Q=>∀ p,H p=none->Q (.ref p) (upd H p (.dT []))
section
variable{X:Cx}{pos:Pos}
theorem zpg:PE X (.Dict [] [] pos) yg3:=fun pins s σ H Q I h=>
 wpAny_Dict_empty ⟨.ref s.heap.objs.size,_,I.laid (a:=s.heap.objs.size) (o:=.dK []) (t':=s.toks) (fun _ _ q=>Heap.get?_push_of_some _ q) (Nat.le_refl _) (zlw s.heap I.big),rfl,h _ (I.hok.fresh (Nat.le_refl _))⟩
theorem zph:PE X (.Dict [] [] pos) yg4:=fun pins s σ H Q I h=>
 wpAny_Dict_empty ⟨.ref s.heap.objs.size,_,I.laid (a:=s.heap.objs.size) (o:=.dT []) (t':=s.toks) (fun _ _ q=>Heap.get?_push_of_some _ q) (Nat.le_refl _) (zly s.heap I.big),rfl,h _ (I.hok.fresh (Nat.le_refl _))⟩
end
section
variable{X:Cx}{pins:List (Addr × Obj)}{σ:St}{H:Hp}{s:Shared}{a:Addr}{kvs:List (Key × V)}{A:Around}{E:Value->Shared->Prop}
end
end L2
namespace L4
open PySem PySem.Spec PyProof.Rows L2
def yqo:D->Option Key
 | .int i=>some (.inl i)
 | .str x=>some (.inr x)
 |_=>none
def ypr(σ:Sto):D->Option (List (Key × D))
 | .dic ks xs=>if ks.length=xs.length then some (ks.zip xs)else none
 | .ref n=>(match σ[n]? with
  |some (.dic kvs)=>some kvs
  |some (.fdic kvs)=>some kvs
  |_=>none)
 |_=>none
def yji(kvs:List (Key × D))(k:Key):Option D:=(kvs.find? fun kv=>decide (kv.1=k)).map (·.2)
def yl8(kvs:List (Key × D))(k:Key)(d:D):List (Key × D):=
 if kvs.any (fun kv=>decide (kv.1=k))then kvs.map fun kv=>if kv.1=k then (kv.1,d)else kv else kvs++[(k,d)]
section
variable{T:Tb}{X:Cx}{μ:List Addr}{H:Hp}
theorem zvc{y:D}{v:V}{k:Key}(h:Rep T μ H y v)(e:yqo y=some k):v=kV k:=by
 cases y<;>simp[yqo]at e<;>subst e<;>rw[Rep]at h<;>exact h
theorem zp7:∀ {ks:List Key} {ds:List D} {kvs:List (Key × V)},kvs.map (·.1)=ks->yot T μ H ds (kvs.map (·.2))->yos T μ H (ks.zip ds) kvs
 |ks,[],kvs,h1,h2=>by
  rw[yot]at h2;have:kvs=[]:=by simpa using h2
  subst this;rw[<-h1];exact .nil
 |ks,d::ds,kvs,h1,h2=>by
  rw[yot]at h2;obtain⟨v,r,e,q1,q2⟩:=h2;cases kvs with
  |nil=>cases e
  |cons p kvs=>
   rw[List.map_cons]at e h1;cases e;rw[<-h1];exact .cons ⟨rfl,q1⟩ (zp7 rfl q2)
theorem ygf{σ:Sto}(r:Rel T μ H σ){x:D}{v:V}{kvs:List (Key × D)}(h:Rep T μ H x v)(e:ypr σ x=some kvs):∃ a vs,v=.ref a/\Rd H a (.dK vs)/\yos T μ H kvs vs:=by
 cases x with
 |dic ks xs=>
  rw[Rep]at h;obtain⟨a,vs,rfl,_,h1,h2,h3⟩:=h;unfold ypr at e;dsimp only at e;split at e
  ·cases e;exact⟨a,vs,rfl,h1,zp7 h2 h3⟩
  ·cases e
 |ref n=>
  unfold ypr at e;dsimp only at e;cases q:σ[n]? with
  |none=>rw[q]at e;cases e
  |some o=>
   rw[q]at e;cases o with
   |dic kvs'=>
    cases e;obtain⟨a,rfl,_,vs,h1,h2⟩:=r.at h q;exact⟨a,vs,rfl,.inl h1,h2⟩
   |fdic kvs'=>
    cases e;obtain⟨a,rfl,_,ob,vs,h1,h2⟩:=r.at h q;exact⟨a,vs,rfl,.inr ⟨ob,h1⟩,h2⟩
   |_=>cases e
 |_=>cases e
theorem zmw{kvs:List (Key × D)}{vs:List (Key × V)}(h:yos T μ H kvs vs)(k:Key):(yji kvs k=none/\yta vs k=none)\/∃ d v,yji kvs k=some d/\yta vs k=some v/\Rep T μ H d v:=by
 unfold yos at h;induction h with
 |nil=>exact .inl ⟨rfl,rfl⟩
 |@cons p q ps qs h t ih=>
  obtain⟨h1,h2⟩:=h;by_cases e:p.1=k
  ·have e':q.1=k:=h1.symm.trans e;exact .inr ⟨p.2,q.2,by unfold yji;rw[List.find?_cons,decide_eq_true e];rfl,zrh e',h2⟩
  ·have e':¬ q.1=k:=fun z=>e (h1.trans z);have f:yji (p::ps) k=yji ps k:=by unfold yji;rw[List.find?_cons,decide_eq_false e]
   rw[f,zrg e'];exact ih
theorem zrv{kvs:List (Key × D)}{vs:List (Key × V)}(h:yos T μ H kvs vs)(k:Key):(kvs.any fun kv=>decide (kv.1=k))=(vs.any fun kv=>decide (kv.1=k)):=by
 unfold yos at h;induction h with
 |nil=>rfl
 |@cons p q ps qs h t ih=>rw[List.any_cons,List.any_cons,ih,h.1]
theorem zgr{α β:Type}{F:α->β->Prop}{f:α->α}{g:β->β}(hfg:∀ a b,F a b->F (f a) (g b)):∀ {l:List α} {m:List β},Paired F l m->Paired F (l.map f) (m.map g)
 |_,_,.nil=>.nil
 |_,_,.cons h t=>.cons (hfg _ _ h) (zgr hfg t)
theorem ze3{α β:Type}{F:α->β->Prop}{a:α}{b:β}(hab:F a b):∀ {l:List α} {m:List β},Paired F l m->Paired F (l++[a]) (m++[b])
 |_,_,.nil=>.cons hab .nil
 |_,_,.cons h t=>.cons h (ze3 hab t)
theorem zlx{kvs:List (Key × D)}{vs:List (Key × V)}(h:yos T μ H kvs vs)(k:Key){d:D}{v:V}(hd:Rep T μ H d v):yos T μ H (yl8 kvs k d) (yro vs k v):=by
 unfold yl8 yro;rw[zrv h k];split
 ·refine zgr (fun p q h=>?_) h;by_cases e:p.1=k
  ·rw[if_pos e,if_pos (h.1.symm.trans e)];exact⟨h.1,hd⟩
  ·rw[if_neg e,if_neg (fun z=>e (h.1.trans z))];exact h
 ·exact ze3 ⟨rfl,hd⟩ h
theorem yos.mono{μ':List Addr}{H':Hp}(e:Ext μ H μ' H'){kvs:List (Key × D)}{vs:List (Key × V)}(h:yos T μ H kvs vs):yos T μ' H' kvs vs:=Paired.mapP h fun _ _ z=>⟨z.1,Rep.mono e _ _ z.2⟩
theorem _root_.L2.DGet.kr{H:Hp}{a:Addr}{kvs:List (Key × V)}{k:Key}(e:Rd H a (.dK kvs)):DGet H a (kV k) (yta kvs k):=.inl ⟨kvs,k,e,rfl,rfl⟩
def ylo(x y:D):M D:=fun σ=>match yqo y with
 |some k=>(match ypr σ x with
  |some kvs=>(match yji kvs k with
   |some d=>.ok d σ
   |none=>.bad)
  |none=>.bad)
 |none=>.bad
theorem ztb{o i:Expr}{fo fi:Ev->M D}{pos:Pos}(hu:X.A.units+9<cLine)(ho:FE T X o fo)(hi:FE T X i fi)(hs:yoi i):FE T X (.Subscript o i pos) (ypu ylo fo fi):=by
 intro pins s st H Q I h;refine zw4 (by omega) ho hi hs pins s st H Q I ?_;obtain⟨μ,ρ,σ,hE,hr,hp⟩:=h;refine⟨μ,ρ,σ,hE,hr,hp.bind fun x σ1 μ1 v H1 _ e1 r1 q1 p1=>⟨μ1,ρ,σ1,hE.mono e1,r1,p1.bind fun y σ2 μ2 u H2 _ e2 r2 q2 p2=>?_⟩⟩;unfold ylo at p2;cases ek:yqo y with
 |none=>rw[ek]at p2;exact p2.elim
 |some k=>
  rw[ek]at p2;dsimp only at p2;cases ed:ypr σ2 x with
  |none=>rw[ed]at p2;exact p2.elim
  |some kvs=>
   rw[ed]at p2;dsimp only at p2;obtain⟨a,vs,rfl,h1,h2⟩:=ygf r2 (Rep.mono e2 _ _ q1) ed;obtain rfl:=zvc q2 ek;rcases zmw h2 k with⟨z1,_⟩|⟨d,w,z1,z2,z3⟩
   ·rw[z1]at p2;exact p2.elim
   ·rw[z1]at p2;exact⟨a,w,rfl,by rw[<-z2];exact DGet.kr h1,yol.here p2 r2 z3⟩
def yme:yox:=fun x y v H Q=>∃ a H',x=.ref a/\yn8 H a y v H'/\Q H'
theorem zqr(hu:X.A.units+9<cLine):yok X yme:=by
 intro pins s st H o i v ov iv u Q I ro ri rv h;obtain⟨a,H',rfl,g,q⟩:=h;obtain rfl:ov=Value.ref a:=ro;exact zh6 (by omega) I g ri rv fun s4 I4=>⟨H',I4,q⟩
def ym1(ρ:Ev)(d x:D)(y:D):M Fl:=fun σ=>match x with
 | .ref n=>(match yqo y with
  |some k=>(match σ[n]? with
   |some (.dic kvs)=>if kvs.length<cap then .ok (.nx ρ) (σ.set n (.dic (yl8 kvs k d)))else .bad
   |_=>.bad)
  |none=>.bad)
 |_=>.bad
def ym0(ρ:Ev)(fi:Ev->M D)(d x:D):M Fl:=xs ρ (fi ρ) (ym1 ρ d x)
def ymz(ρ:Ev)(fo fi:Ev->M D)(d:D):M Fl:=xs ρ (fo ρ) (ym0 ρ fi d)
def ymq(f fo fi:Ev->M D):Ev->M Fl:=fun ρ=>xs ρ (f ρ) (ymz ρ fo fi)
theorem zt8{e o i:Expr}{f fo fi:Ev->M D}{pos pos':Pos}(hu:X.A.units+9<cLine)(he:FE T X e f)(ho:FE T X o fo)(hi:FE T X i fi)
  (ha:∀ v,assign (.Subscript o i pos') X.env v=(do
   let ov <-holding [v] (eval o X.env);let iv <-holding [v,ov] (eval i X.env)
   standAt pos'
   holding [v,ov,iv] (setItem ov iv v)
   release [v,ov,iv] []):=by intro _;rfl)
  (hs:swapsWithSole [.Subscript o i pos'] e pos.line X.env=pure false:=by rfl) (hw:swappedStores [.Subscript o i pos'] e X.env=pure none:=by rfl)
  (h1:(assignEach [.Subscript o i pos'] X.env).map (·.2)=[assign (.Subscript o i pos') X.env]:=by rfl):FS T X (.Assign [.Subscript o i pos'] e pos) (ymq f fo fi):=by
 intro pins s st H D I hq;refine yf0 he (yfu ho hi (zqr hu) ha) hs hw h1 pins s st H D I ?_;obtain⟨μ,ρ,σ,hE,hr,hp⟩:=hq;refine⟨μ,ρ,σ,hE,hr,hp.xs hE fun d σ1 μ1 v H1 _ e1 r1 q1 p1=>?_⟩;refine⟨μ1,ρ,σ1,hE.mono e1,r1,p1.xs (hE.mono e1) fun x σ2 μ2 vo H2 _ e2 r2 q2 p2=>?_⟩;refine⟨μ2,ρ,σ2,(hE.mono e1).mono e2,r2,p2.xs ((hE.mono e1).mono e2) fun y σ3 μ3 vi H3 _ e3 r3 q3 p3=>?_⟩;have hd:=Rep.mono e3 _ _ (Rep.mono e2 _ _ q1);have hx:=Rep.mono e3 _ _ q2;unfold ym1 at p3;cases x with
 |ref n=>
  dsimp only at p3;cases ek:yqo y with
  |none=>rw[ek]at p3;exact p3.elim
  |some k=>
   rw[ek]at p3;dsimp only at p3;cases el:σ3[n]? with
   |none=>rw[el]at p3;exact p3.elim
   |some ob=>
    rw[el]at p3;cases ob with
    |dic kvs=>
     dsimp only at p3;by_cases hc:kvs.length<cap
     ·rw[if_pos hc]at p3;obtain⟨a,rfl,hn,vs,g1,g2⟩:=r3.at hx el;obtain rfl:=zvc q3 ek;have wr:=r3.write (o:=.dK (yro vs k v)) (ob:=.dic (yl8 kvs k d)) hn ⟨_,zre,by
       have ex:Ext μ3 H3 μ3 (upd H3 a (.dK (yro vs k v))):=zif (List.mem_of_getElem? hn) g1 (fun _ z=>by cases z) (fun _ _ z=>by cases z);exact zlx (yos.mono ex g2) k (Rep.mono ex _ _ hd)⟩
      have hlen:vs.length=kvs.length:=by unfold yos at g2;exact(Paired.length g2).symm
      exact⟨a,_,rfl,yn8.k g1 (by rw[hlen];exact Nat.lt_of_lt_of_le hc (by decide)),p3 _ (.nx st) _ wr.1 wr.2 (((hE.mono e1).mono e2).mono e3 |>.mono wr.1)⟩
     ·rw[if_neg hc]at p3;exact p3.elim
    |_=>exact p3.elim
 |_=>exact p3.elim
def yi0:Ev->M D:=fun _ σ=>.ok (.ref σ.length) (σ++[.dic []])
theorem ztd{pos:Pos}:FE T X (.Dict [] [] pos) yi0:=by
 intro pins s st H Q I h;obtain⟨μ,ρ,σ,hE,hr,hp⟩:=h;refine zpg pins s st H Q I fun p hn=>?_;exact hp (μ++[p]) (.ref p) _ (zme hn) (hr.push hn ⟨[],zre,.nil⟩) (zp5 hr)
theorem zte{pos:Pos}:FE T X (.Dict [] [] pos) (eC (.dic [] [])):=by
 intro pins s st H Q I h;obtain⟨μ,ρ,σ,hE,hr,hp⟩:=h;refine zpg pins s st H Q I fun p hn=>?_;exact hp μ (.ref p) _ (zs8 hn) (hr.fresh hn) (by rw[Rep];exact⟨p,[],rfl,fun hm=>(by obtain⟨u,hu,_⟩:=hr.mem hm;rw[hn]at hu;cases hu),(.inl zre),rfl,yot.nil⟩)
end
section
variable{T:Tb}{X:Cx}
structure InK(K:W.Frag)(C:Addr):Prop where
 cl:L2.Cls K C
 a:W.findIn K (.ref C) "__class__" = some (some (.builtin "object.__class__"))
 n:W.specialIn K (.builtin "object.__class__") "__get__" = some (some (.builtin "getset_descriptor.__get__"))
 t:W.takesIn K (.builtin "object.__class__")=some true
 m:W.mroIn K C (.type "object")=some true
end
section
variable{T:Tb}{X:Cx}
def ylq(ds:List D):M D:=fun σ=>match ds with
 |[x]=>(match x with
  | .int i=>.ok (.int i) σ
  | .bl k=>.ok (.int (if k then 1 else 0)) σ
  |_=>.bad)
 |_=>.bad
theorem zqx:zro T (fun xs H Q=>(∃ i,xs=[.int i]/\Q (.int i) H)\/∃ k,xs=[.bl k]/\Q (.int (if k then 1 else 0)) H) ylq:=by
 intro E μ H σ xs vs Q r p h
 match xs with
 |[]=>exact h.elim
 |[x]=>
  rw[yot]at p;obtain⟨v,w,rfl,p1,p2⟩:=p;rw[yot]at p2;subst p2;cases x with
  |int i=>rw[Rep]at p1;subst p1;exact .inl ⟨i,rfl,yol.here h r (by rw[Rep])⟩
  |bl k=>rw[Rep]at p1;subst p1;exact .inr ⟨k,rfl,yol.here h r (by rw[Rep])⟩
  |_=>exact h.elim
 |_::_::_=>exact h.elim
inductive CDs(X:Cx):List (Option Expr)->List Expr->List (Str × Str)->Prop
 |nil:CDs X [] [] []
 |cons {k v:Expr} {x y:Str} {ks:List (Option Expr)} {vs:List Expr} {l:List (Str × Str)}:PE X k (tC (.str x))->PE X v (tC (.str y))->CDs X ks vs l->CDs X (some k::ks) (v::vs) ((x,y)::l)
theorem CDs.all{ks vs l}(h:CDs X ks vs l):ks.all (·.isSome)=true/\ks.length=vs.length/\ks.length=l.length:=by
 induction h with
 |nil=>exact⟨rfl,rfl,rfl⟩
 |cons _ _ _ ih=>exact⟨by simpa using ih.1,by simpa using ih.2.1,by simpa using ih.2.2⟩
end
section
variable{T:Tb}{X:Cx}{e:Expr}{f:Ev->M D}{pos:Pos}
end
end L4
namespace L4
open PySem PySem.Spec PySem.Calls PyProof.Rows L2
section
variable{T:Tb}{X:Cx}
end
end L4
namespace L4
open PySem PySem.Spec PyProof.Rows L2
def yei(o:D->List D->M D)(m:M (List D))(x:D):M D:=fun σ=>match ypr σ x with
 |some _=>bnd m (o x) σ
 |none=>.bad
def ybk(o:D->List D->M D)(f:Ev->M D)(fs:Ev->M (List D)):Ev->M D:=fun ρ=>bnd (f ρ) (yei o (fs ρ))
section
variable{T:Tb}{X:Cx}{o e:Expr}{es:List Expr}{f:Ev->M D}{fs:Ev->M (List D)}{name:Str}{apos cpos:Pos}{id:String}{r:V->List V->Hp->VK->Prop}{g:D->List D->M D}
theorem ybe{p:Addr}{kvs:List (Key × V)}{pins:List (Addr × Obj)}{σ:St}{H:Hp}{s:Shared}(I:Inv X pins σ H s)(hk:Rd H p (.dK kvs)):s.TypeIs (.ref p) "dict"/\∀ a,Value.ref p=.ref a->∃ ob,s.heap.get? a=some ob/\ob.dict=none:=by
 obtain⟨_,_,_,_,o,_,_,e,ex,_⟩:=yit I.hok hk;refine⟨⟨o,e,ex.1⟩,fun a e2=>?_⟩;cases e2;exact⟨o,e,ex.2.1⟩
def yss(r:V->List V->Hp->VK->Prop)(to:TE):TE:=fun σ H Q=>to σ H fun x H1=>(∃ a kvs,x=.ref a/\Rd H1 a (.dK kvs))/\r x [] H1 Q
theorem zw2{to:TE}(pa:PlainAttrs "dict")(slot:Slot "dict" name id)(hty:typeOf (.builtin id)=pure (.type "method_descriptor"))(hm:MtR X id r)(ho:PE X o to)
  (hbase:attributeBase o name X.env (eval o X.env)=eval o X.env:=by rfl) (hline:(apos.endLine == cpos.line)=true:=by rfl):PE X (.Call (.Attribute o name apos) [] [] cpos) (yss r to):=by
 intro pins s σ H Q I h;refine wpAny_Call_method0_late hbase hline (thn (ho pins s σ H _ I h) fun v s1 ⟨x,H1,I1,r1,ty,q1⟩=>?_);obtain⟨a,kvs,rfl,hk⟩:=ty;cases r1;obtain⟨h1,h2⟩:=ybe I1 hk;exact⟨"dict",id,pa,slot,hty,h1,h2,Calls.callWith_builtin rfl (PySem.evalArgs_none (hm pins s1 σ H1 (.ref a) [] (.ref a) [] Q I1 rfl .nil q1))⟩
end
open Classical in
section
variable{T:Tb}{X:Cx}
end
section
variable{T:Tb}{X:Cx}
end
section
variable{T:Tb}{X:Cx}{tg iter:Expr}{f:Ev->M D}
end
section
variable{T:Tb}{X:Cx}{o e:Expr}{es:List Expr}{f:Ev->M D}{fs:Ev->M (List D)}{name:Str}{apos cpos:Pos}{id:String}{r:V->List V->Hp->VK->Prop}{g:D->List D->M D}
end
def ypt:Ev->M D:=fun _ _=>.bad
theorem ybz{T:Tb}{X:Cx}{e:Expr}:FE T X e ypt:=fun pins s st H Q I ⟨μ,ρ,σ,_,_,hp⟩=>hp.elim
section
variable{X:Cx}{pins:List (Addr × Obj)}{σ:St}{H:Hp}{s:Shared}{h':Heap}
theorem zv0{H:Hp}{a b:Addr}{u:HO}(e:H b=some u)(n:H a=none):b≠a:=fun z=>by rw[z,n]at e;cases e
theorem _root_.L2.Inv.turnL{t':Nat}{its:List Addr}{p:Addr}{o:HO}(I:Inv X pins σ H s)(k:∀ b u,b ∉ its->s.heap.get? b=some u->h'.get? b=some u)(hf:∀ b∈its,yoc X pins H b)(hp:s.heap.objs.size<=p)(new:yh5 X.prog X.w (upd H p o) h' p o) :
  Inv X pins σ (upd H p o) { s with heap:=h',toks:=t' }:=by
 have hn:H p=none:=I.hok.fresh hp;have nit:∀ b u,H b=some u->b ∉ its:=fun b u e z=>by rw[(hf b z).1]at e;cases e
 refine I.step (g':=s.gens) (d':=s.drawn) (ch:=its) (fun b hb=>?_) (fun b o _ _ hc e _=>k b o hc e) (fun b o _ _ hc e _=>⟨o.slots,k b o hc e⟩) (fun b u _ q n=>by rw[yhv (Nat.ne_of_lt (Nat.lt_of_lt_of_le (Heap.lt_size q) hp))];exact n)
  (fun b o hc e=>⟨o,k b o hc e⟩) (fun b xs q=>by rw[yhv (zv0 q hn)];exact q) (fun b u xs q=>by rw[yhv (zv0 q hn)];exact q) (fun b ps q=>⟨#[],by rw[yhv (zv0 q hn),q];simp⟩) (fun m hm=>?_) (fun b u e=>?_) I.bare
 ·obtain⟨f0,f1,f2,f3,f4,f5⟩:=hf b hb;exact⟨f3,f1,f4,f5⟩
 ·obtain⟨o,es,ep,ho,r⟩:=hm;exact⟨o,es,ep,k _ o (fun z=>(hf _ z).2.1 rfl) ho,r⟩
 ·by_cases hb:b=p
  ·subst hb;rw[zre]at e;cases e;exact new
  ·rw[yhv hb]at e;refine(I.hok b u e).stay (fun c v hc q=>k c v ?_ q) (fun c q=>by rw[yhv (zv0 q hn)];exact q) fun c xs q=>by rw[yhv (zv0 q hn)];exact q
   rcases hc with z|z
   ·rw[z];exact nit b u e
   ·exact nit c _ z
theorem _root_.L2.Inv.turnN{t':Nat}{its:List Addr}(I:Inv X pins σ H s)(k:∀ b u,b ∉ its->s.heap.get? b=some u->h'.get? b=some u)(hf:∀ b∈its,yoc X pins H b):Inv X pins σ H { s with heap:=h',toks:=t' }:=by
 have nit:∀ b u,H b=some u->b ∉ its:=fun b u e z=>by rw[(hf b z).1]at e;cases e
 refine I.step (g':=s.gens) (d':=s.drawn) (ch:=its) (fun b hb=>?_) (fun b o _ _ hc e _=>k b o hc e) (fun b o _ _ hc e _=>⟨o.slots,k b o hc e⟩) (fun b u _ q n=>n)
  (fun b o hc e=>⟨o,k b o hc e⟩) (fun b xs q=>q) (fun b u xs q=>q) (fun b ps q=>⟨#[],by rw[q];simp⟩) (fun m hm=>?_) (fun b u e=>?_) I.bare
 ·obtain⟨f0,f1,f2,f3,f4,f5⟩:=hf b hb;exact⟨f3,f1,f4,f5⟩
 ·obtain⟨o,es,ep,ho,r⟩:=hm;exact⟨o,es,ep,k _ o (fun z=>(hf _ z).2.1 rfl) ho,r⟩
 ·refine(I.hok b u e).stay (fun c v hc q=>k c v ?_ q) (fun _ q=>q) fun _ _ q=>q;rcases hc with z|z
  ·rw[z];exact nit b u e
  ·exact nit c _ z
end
theorem yba{h:Heap}{a b:Addr}{o o':Obj}{n n':String}(e:h.get? a=some o)(e':h.get? b=some o')(c:o.cls=.type n)(c':o'.cls=.type n')(hn:n≠n'):a≠b:=fun z=>by
 subst z;rw[e]at e';cases e';rw[c]at c';injection c' with q;exact hn q
def Ite(K:W.Frag)(l:Addr):It:=
 ⟨fun i H=>∃ xs x,SqL K H l xs/\xs[i]?=some x,fun i H v H'=>∃ p x,H p=none/\v=.ref p/\(∀ xs,SqL K H l xs->xs[i]?=some x)/\H'=upd H p (.tup [.int i,x]),fun i H=>∃ xs,SqL K H l xs/\i=xs.length⟩
theorem zkw{P:Program}{w:World}{K:PySem.W.Frag}{elts:List Expr}{kk:Nat}{pos:Pos}(l e it:Addr):Turn P w K (.Tuple elts kk pos) (Ite K l) [e,it] e (fun i h=>(∃ old,IsEnum h e it i old)/\h.IsListIter it l i) where
 mem:=by simp
 obj:=fun i h st b hb=>by
  obtain⟨⟨old,s1⟩,o,s2,c,d⟩:=st;simp only[List.mem_cons,List.not_mem_nil,or_false]at hb;rcases hb with rfl|rfl
  ·exact⟨_,s1,fun v z=>by cases z⟩
  ·exact⟨o,s2,fun v z=>by rw[d]at z;cases z⟩
 keep:=fun i h h' st k=>by
  obtain⟨⟨old,s1⟩,s2⟩:=st;exact⟨⟨old,k e (by simp) _ s1⟩,s2.at fun o q=>k it (by simp) o q⟩
 item:=by
  intro X hP hw hK hc i pins s σ H E I hf st hg;subst hP hw hK;obtain⟨xs,x,hq,hx⟩:=hg;obtain⟨its,rv,p,hz⟩:=I.list hq;obtain⟨u,hu,ru⟩:=rv.get hx;obtain⟨⟨old,s1⟩,s2⟩:=st;obtain⟨oa,ea,ca,_⟩:=id p.isList;obtain⟨ob,eb,cb,_⟩:=id s2;have nle:l≠e:=yba ea s1 ca rfl (by decide);have nli:l≠it:=yba ea eb ca cb (by decide);have nei:e≠it:=yba s1 eb rfl cb (by decide);have W:=WalksT.enumerate (prog:=X.prog) (w:=X.w) (A:=X.A) (I.ok.hd hc) e it l nei nle nli its.toArray;have hi:i<its.toArray.size:=by
   have:=(List.getElem?_eq_some_iff.mp hu).1;simpa using this
  refine W.item i s _ E hi ⟨⟨old,s1⟩,s2,p.isList⟩ fun T vals h' tk hPt hT hTup hMid hk=>?_;obtain⟨t,y,hy,rfl⟩:=hPt;have ey:y=u:=by
   have:its.toArray[i]?=some u:=by simpa using hu
   rw[this]at hy;cases hy;rfl
  subst ey;refine⟨.ref T,rfl,W.go elts kk pos i T { s with heap:=h',toks:=tk } _ E hMid fun h2 hS hk2=>?_⟩;have hap:=W.apart i T h' hMid;have hTup2:h2.IsTuple T #[.int i t,y]:=by
   obtain⟨o,e1,c1⟩:=hTup;exact⟨o,hk2 T o hap e1,c1⟩
  have hn:H T=none:=I.hok.fresh hT;refine⟨.ref T,upd H T (.tup [.int i,x]),I.turnL (o:=.tup [.int i,x]) (fun b o hb q=>hk2 b o hb (hk b o hb q)) hf hT ?_,rfl,⟨T,x,hn,rfl,fun ys hy=>by rw[I.list_inj hy hq];exact hx,rfl⟩,⟨hS.1,hS.2.1⟩,fun b hb=>?_⟩
  ·exact⟨(show (2:Nat)<=sizeLine by decide),[.int i t,y],.cons ⟨t,rfl⟩ (.cons ru .nil),hTup2⟩
  ·rw[yhv (fun z=>hap (by rw[<-z];exact hb))];exact(hf b hb).1
 done:=by
  intro X hP hw hK hc i pins s σ H E I hf st hg;subst hP hw hK;obtain⟨xs,hq,hx⟩:=hg;obtain⟨its,rv,p,hz⟩:=I.list hq;obtain⟨⟨old,s1⟩,s2⟩:=st;have hl:=rv.length;exact wpAny_pyNext_enum_end (I.ok.hd hc) s1 s2 p.isList (by simp;omega) fun h' eb=>⟨rfl,I.turnN (t':=s.toks) (fun b o hb q=>eb b o (fun z=>hb (by simp[z])) q) hf⟩
 self:=fun A i s Q E st h=>by
  obtain⟨⟨old,s1⟩,s2⟩:=st;exact wpAny_pyIter_enum s1 h
abbrev NX:=Nat->Sto->Option (Option D)
def yow(T:Tb)(μ0:List Addr)(H0:Hp)(nx:NX)(J:It):Prop:=∀ μ H σ i,Ext μ0 H0 μ H->Rel T μ H σ->match nx i σ with
 |none=>True
 |some none=>J.stop i H
 |some (some d)=>J.go i H/\∀ x H',J.yld i H x H'->Ext μ H μ H'/\Rel T μ H' σ/\Rep T μ H' d x
def tIN(T:Tb)(X:Cx)(f:Ev->M NX):TI:=fun st H R=>∃ μ ρ σ,yn9 T μ H ρ st/\Rel T μ H σ/\yol T (XE X st) (yow T) μ H (f ρ σ) R
abbrev FIN(T:Tb)(X:Cx)(tg iter:Expr)(f:Ev->M NX):Prop:=PI X tg iter (tIN T X f)
def ykv(nx:NX)(tg:D->Ev->Option Ev)(body:Ev->M Fl):Nat->Nat->Ev->M Fl
 |0,_,_=>bad
 |k+1,i,ρ=>fun σ=>match nx i σ with
  |none=>.bad
  |some none=>.ok (.nx ρ) σ
  |some (some d)=>match tg d ρ with
   |none=>.bad
   |some ρ1=>bnd (body ρ1) (ykt (ykv nx tg body k (i+1))) σ
def yjp(tg:D->Ev->Option Ev)(body:Ev->M Fl)(ρ:Ev)(nx:NX):M Fl:=ykv nx tg body 1001 0 ρ
def ymp(src:Ev->M NX)(tg:D->Ev->Option Ev)(body:Ev->M Fl):Ev->M Fl:=fun ρ=>xs ρ (src ρ) (yjp tg body ρ)
section
variable{T:Tb}{X:Cx}{tgt iter:Expr}{body:List Stmt}{src:Ev->M NX}{t:D->Ev->Option Ev}{g:Ev->M Fl}{pos:Pos}
theorem zt7(hp:PassesOwn (model X.prog X.w) X.A X.env X.xe)(hc:X.calm=true)(hi:FIN T X tgt iter src)(hg:FG T X tgt t)(hb:FSs T X body g)
  (hs:∀ x,foldedSetIterable iter X.env x=pure x:=by intro _;rfl):FS T X (.For tgt iter body [] pos) (ymp src t g):=by
 intro pins s st H D I hq;refine yf2 hp hc hi hg hb hs pins s st H D I ?_;obtain⟨μ,ρ,σ,hE,hr,hp⟩:=hq;refine⟨μ,ρ,σ,hE,hr,hp.xs hE fun nx σ1 μ1 J H1 _ e1 r1 q1 p1=>?_⟩;have p1':yol T EN (RFl T) μ1 H1 (ykv nx t g 1001 0 ρ σ1) (yoa X D):=p1;refine⟨fun i m st2 H2=>∃ μ ρ σ,Ext μ1 H1 μ H2/\yn9 T μ H2 ρ st2/\Rel T μ H2 σ/\yol T EN (RFl T) μ H2 (ykv nx t g m i ρ σ) (yoa X D),⟨1001,μ1,ρ,σ1,Ext.refl _ _,hE.mono e1,r1,p1'⟩,?_⟩;rintro i m st2 H2 ⟨μ2,ρ2,σ2,ex,hE2,r2,p2⟩;cases m with
 |zero=>exact p2.elim
 |succ m=>
  unfold ykv at p2;have so:=q1 μ2 H2 σ2 i ex r2;cases en:nx i σ2 with
  |none=>simp only[en]at p2;exact p2.elim
  |some o=>
   cases o with
   |none=>
    simp only[en]at p2 so;exact .inl ⟨so,yol.here (g:=Gl2.nx st2) p2 r2 hE2⟩
   |some d=>
    simp only[en]at p2 so;obtain⟨hgo,hy⟩:=so;refine .inr ⟨hgo,fun st3 H3=>∃ μ ρ σ,Ext μ1 H1 μ H3/\yn9 T μ H3 ρ st3/\Rel T μ H3 σ/\yol T EN (RFl T) μ H3 (ykv nx t g m (i+1) ρ σ) (yoa X D),fun st3 H3 h=>⟨m,Nat.lt_succ_self _,h⟩,fun x H3 y=>?_⟩;obtain⟨ex3,r3,hx⟩:=hy x H3 y;cases ht:t d ρ2 with
    |none=>simp only[ht]at p2;exact p2.elim
    |some ρ3=>
     simp only[ht]at p2;exact⟨μ2,σ2,ρ2,d,ρ3,hE2.mono ex3,r3,hx,ht,fun st3 hE3=>⟨μ2,ρ3,σ2,hE3,r3,(yol.mono ex3 p2).bind fun fl σ4 μ4 gl H4 _ e4 r4 q4 p4=>zrd r4 q4 p4 fun ρ5 st5 hE5 p5=>⟨μ4,ρ5,σ4,(ex.trans ex3).trans e4,hE5,r4,p5⟩⟩⟩
end
def nxE(a:D):NX:=fun i σ=>match yqt σ a with
 |some xs=>(match xs[i]? with
  |some x=>some (some (.tup [.int (i:Int),x]))
  |none=>if i=xs.length then some none else none)
 |none=>none
def yi6(d:D):M NX:=fun σ=>match yqt σ d with
 |some _=>.ok (nxE d) σ
 |none=>.bad
def ysm(f:Ev->M D):Ev->M NX:=fun ρ=>bnd (f ρ) yi6
section
variable{T:Tb}{X:Cx}{elts:List Expr}{kk:Nat}{p0 p pos:Pos}{f g:Ev->M D}
theorem zdb:bootBuiltins "enumerate" = some (.type "enumerate"):=by decide +kernel
def yjz(K:W.Frag)(ta:TA):TI:=fun σ H R=>ta σ H fun vs H1=>∃ l xs,vs=[.ref l]/\SqL K H1 l xs/\R (Ite K l) H1
theorem zxb{a:Expr}{ta:TA}(hg:Gl X "enumerate")(hm:X.mg "enumerate" = none)(ha:PA X [a] ta)(hs:starEach [a] X.env=[(false,eval a X.env)]:=by rfl):PI X (.Tuple elts kk p0) (.Call (.Name "enumerate" p) [a] [] pos) (yjz X.K ta):=by
 intro pins s σ H R I h;refine Call_ (yd8 I hg hm zdb (PyProof.Rows.callWith_type1 (thn (ha pos pins s σ H _ I h) fun us s1 ⟨vs,H1,I1,r1,q1⟩=>?_) hs rfl));obtain⟨l,xs,e,hq,q⟩:=q1;subst e;cases r1 with
 |cons r rr=>
  cases rr;cases r;obtain⟨its,rv,pl,hz⟩:=I1.list hq;refine call_enumerate_list pl.isList fun h' a1 a2 a3 a4=>wpAny_pyIter_enum a1 ?_;refine⟨s1.heap.objs.size+1,[s1.heap.objs.size+1,s1.heap.objs.size],_,_,H1,rfl,I1.kept (t':=s1.toks) a4,zkw l _ _,⟨⟨_,a1⟩,a2⟩,fun b hb=>?_,q⟩;have hb':s1.heap.objs.size<=b:=by simp at hb;rcases hb with rfl|rfl<;>omega
  exact I1.fpOk hb' (I1.hok.fresh hb')
theorem ztm{e:Expr}(hg:Gl X "enumerate")(hm:X.mg "enumerate" = none)(h:FE T X e f)(hs:starEach [e] X.env=[(false,eval e X.env)]:=by rfl):FIN T X (.Tuple elts kk p0) (.Call (.Name "enumerate" p) [e] [] pos) (ysm f):=by
 intro pins s st H R I hw;refine zxb hg hm (zwx h yfi hs) hs pins s st H R I ?_;obtain⟨μ,ρ,σ,hE,hr,hp⟩:=hw;refine⟨μ,ρ,σ,hE,hr,hp.bind fun d σ1 μ1 v H1 _ e1 r1 q1 p1=>?_⟩;unfold yi6 at p1;cases el:yqt σ1 d with
 |none=>rw[el]at p1;exact p1.elim
 |some ds=>
  rw[el]at p1;obtain⟨l,vs,rfl,h1,h2⟩:=r1.ls q1 el;refine⟨l,vs,rfl,SqL.of h1,yol.here (R:=yow T) p1 r1 fun μ2 H2 σ2 i ex r2=>?_⟩;unfold nxE;cases el2:yqt σ2 d with
  |none=>trivial
  |some xs=>
   obtain⟨l',ws,e',h3,h4⟩:=r2.ls (Rep.mono ex _ _ q1) el2;cases e';have hq2:SqL X.K H2 l ws:=SqL.of h3;dsimp only;cases ei:xs[i]? with
   |none=>
    dsimp only;by_cases hi:i=xs.length
    ·rw[if_pos hi];exact⟨ws,hq2,by rw[hi];exact h4.length⟩
    ·rw[if_neg hi];trivial
   |some d'=>
    obtain⟨x,hx,rx⟩:=h4.get ei;refine⟨⟨ws,x,hq2,hx⟩,fun z H' y=>?_⟩;obtain⟨q,x',hn',rfl,hall,rfl⟩:=y;have hx':=hall ws hq2;rw[hx]at hx';cases hx';refine⟨zs8 hn',r2.fresh hn',?_⟩;rw[Rep];exact⟨q,_,rfl,zre,yot.cons (by rw[Rep]) (yot.cons (Rep.mono (zs8 hn') _ _ rx) yot.nil)⟩
end
open PySem.Builtin.Str (occurrences partsBetween subAt)
end L4
namespace L4
open PySem PySem.Spec PyProof.Rows L2
section
variable{T:Tb}{X:Cx}{a b c:Expr}{fa fb fc:Ev->M D}{pos:Pos}
end
section
variable{T:Tb}{X:Cx}
def zwa(y x:D):M D:=fun σ=>match yqo y with
 |some k=>(match ypr σ x with
  |some kvs=>.ok (.bl (!(yji kvs k).isSome)) σ
  |none=>.bad)
 |none=>.bad
def zxv:R2:=fun y x H Q=>∃ a o,x=.ref a/\DGet H a y o/\Q (.bl (!o.isSome)) H
theorem zjw(hu:X.A.units+9<cLine):OpR X (compareOp .NotIn) zxv:=by
 intro pins s st H y x iv u Q I ry rx h;obtain⟨a,o,rfl,g,q⟩:=h;obtain rfl:u=Value.ref a:=rx;exact zso (by omega) I g ry fun s3 I3=>⟨.bl (!o.isSome),H,I3,rfl,q⟩
theorem zhc:yia T zxv zwa:=by
 intro E μ H σ y x u v Q r q p h;unfold zwa at h;cases ek:yqo y with
 |none=>rw[ek]at h;exact h.elim
 |some k=>
  rw[ek]at h;dsimp only at h;cases ed:ypr σ x with
  |none=>rw[ed]at h;exact h.elim
  |some kvs=>
   rw[ed]at h;obtain⟨a,vs,rfl,h1,h2⟩:=ygf r p ed;obtain rfl:=zvc q ek;refine⟨a,yta vs k,rfl,DGet.kr h1,yol.here h r ?_⟩;rw[Rep];rcases zmw h2 k with⟨z1,z2⟩|⟨d,w,z1,z2,z3⟩
   ·rw[z1,z2];rfl
   ·rw[z1,z2];rfl
def OkB(T:Tb)(P:Program)(w:World)(mg:Str->Option Value)(base:Heap)(k:Nat)(f:Addr)(ps:List Str)(dv:List Value)(fn:List D->M D):Prop:=
 ∃ fd,yhz T.K fd ps []/\yhz T.K fd ps dv/\FnOk P w T.K mg base (CXE P w) k f fd ps (spF T ps.length fn)
structure HasMD(K:W.Frag)(C:Addr)(x qual:Str)(st:Stmt)(ps:List Str)(dv:List Value)(f:Addr):Prop where
 ex:∃ fd,(∃ (oc:Value) (od:Option Addr) (dV kV doc pm:Value) (an:Option Addr) (cdv ct:Value) (osl:Array (Option Value)),
  fd=W.fnOf x qual (zsq st) (zsr st) (zlv st) dV kV doc pm an cdv ct/\K.lookup f=some ⟨oc,od,.func fd,osl⟩/\W.codeIn K cdv qual=true)/\yhz K fd ps []/\yhz K fd ps dv
end
section
variable{P:Program}{w:World}{K:W.Frag}{mg:Str->Option Value}{base:Heap}{ca:Nat->Addr}{tx:Tx}
theorem ye1{k:Nat}{C f:Addr}{x qual:Str}{st:Stmt}{ps N:List Str}{dv:List Value}{g:Ev->M Fl}(h:HasMD K C x qual st ps dv f)(S:FnScope N ps (zlv st))
  (hb:∀ (cdv:Value) (A:Around) (outer:List Env) (s:Shared) (H:Hp) (E:XK),Room k (A.deeper (envOfC qual (zlv st) s.heap.objs.size f cdv))->FSs ⟨K,ca,tx⟩ (ypq (CXE P w) P w K mg base N qual (zlv st) f cdv A outer s H E) (zsr st) g) :
  OkB ⟨K,ca,tx⟩ P w mg base (k+1) f ps dv (run N.length g):=by
 obtain⟨fd,⟨oc,od,dV,kV,doc,pm,an,cdv,ct,osl,rfl,lk,hcd⟩,b0,b1⟩:=h.ex;exact⟨_,b0,b1,fok lk hcd S (hb cdv)⟩
theorem OkB.hide{T:Tb}{k:Nat}{f:Addr}{ps:List Str}{dv:List Value}{fn:List D->M D}(h:OkB T P w mg base k f ps dv fn):OkB T P w mg base k f ps dv (L4.hide fn):=by rw[zur];exact h
theorem OkB.frz{T:Tb}{k:Nat}{f:Addr}{ps:List Str}{dv:List Value}{fn:List D->M D}(h:OkB T P w mg base k f ps dv fn):OkB T P w mg base k f ps dv (fun ds=>L4.frz (fn ds)):=by
 obtain⟨fd,h1,h2,h3⟩:=h;exact⟨fd,h1,h2,zt1 h3⟩
theorem yqw{C f t:Addr}{x qual:Str}{st:Stmt}{ps:List Str}{dv:List Value}{oc toc:Value}{od an tod:Option Addr}{osl tsl:Array (Option Value)}{kV doc pm cdv ct:Value}{tn:Nat}
  (hb:∀ (t:Addr) (kV doc pm:Value) (an:Option Addr) (cdv ct:Value) (s:Shared) (o:Obj) (n:Nat) (us:List Value),s.heap.get? t=some o->o.data=.seq dv.toArray n->((us++[]).length=ps.length->BindsTo s (W.fnOf x qual (zsq st) (zsr st) (zlv st) (.ref t) kV doc pm an cdv ct) ⟨us,[]⟩ (ps.zip (us++[])))/\
   ((us++dv).length=ps.length->BindsTo s (W.fnOf x qual (zsq st) (zsr st) (zlv st) (.ref t) kV doc pm an cdv ct) ⟨us,[]⟩ (ps.zip (us++dv))))
  (l:K.lookup f=some ⟨oc,od,.func (W.fnOf x qual (zsq st) (zsr st) (zlv st) (.ref t) kV doc pm an cdv ct),osl⟩)
  (c:W.codeIn K cdv qual=true) (d:K.lookup t=some ⟨toc,tod,.seq dv.toArray tn,tsl⟩):HasMD K C x qual st ps dv f:=
 ⟨⟨_,⟨oc,od,_,kV,doc,pm,an,cdv,ct,osl,rfl,l,c⟩,fun s us KX hl=>(hb t kV doc pm an cdv ct s _ tn us (KX _ _ d) rfl).1 hl,fun s us KX hl=>(hb t kV doc pm an cdv ct s _ tn us (KX _ _ d) rfl).2 hl⟩⟩
end
section
variable{T:Tb}{X:Cx}
end
section
variable{T:Tb}{X:Cx}
end
def yam(ix:List Nat)(ρ:Ev):Ev:=none::none::ix.map fun i=>(ρ[i]?).getD none
def yan(ix:List Nat)(st:St):St:=none::none::ix.map fun i=>(st[i]?).getD none
theorem zlg{T:Tb}{μ:List Addr}{H:Hp}{ρ:Ev}{st:St}(ix:List Nat)(h:yn9 T μ H ρ st):yn9 T μ H (yam ix ρ) (yan ix st):=by
 have q:=zr6 ix h;refine⟨by simp[yam,yan],fun i d e=>?_⟩;cases i with
 |zero=>simp[yam]at e
 |succ j=>exact q.2 j d e
section
variable{X:Cx}{pins:List (Addr × Obj)}{st:St}{H:Hp}{s:Shared}{x z0:Str}{M':List Str}{ix:List Nat}{scope:Scope}{fp:List Addr}
theorem zfk(I:Inv X pins st H s)(L:LcOk X x M' ix scope)(hfp:∀ b∈fp,yoc X pins H b/\b<s.heap.objs.size){h':Heap}{t':Nat}{m:Str->Option Value}(hns:h'.Ns s.heap.objs.size m)
  (hk:∀ b o,s.heap.get? b=some o->h'.get? b=some o) :
  Inv (blk X (x::z0::M') scope (ypk X.env scope.names []) s.heap.objs.size s H fp) [] (yan ix st) H { s with heap:=h',toks:=t' }:=by
 have sub:∀ n c,(ypk X.env scope.names []).lookup n=some c->X.env.cells.lookup n=some c:=fun n c e=>ya8 X.env scope.names [] n c (fun _ _ q=>by simp at q) e;have cellLt:∀ n c,X.env.cells.lookup n=some c->c<s.heap.objs.size:=fun n c e=>by obtain⟨v,z⟩:=I.cell n c e;exact z.lt
 have fresh:H s.heap.objs.size=none:=I.hok.fresh (Nat.le_refl _);refine⟨⟨I.ok.mod,L.kind,I.ok.glob,I.ok.blt,Nat.le_refl _,fun a b c h1 h2=>I.ok.inj a b c (sub a c h1) (sub b c h2),fun a ha=>?_,fun a c h=>(by cases h),I.ok.hd,I.ok.frames,.inl rfl,fun b hb=>⟨Nat.ne_of_lt (hfp b hb).2,fun a c e=>?_⟩,fun b o e=>I.bs b o e,Nat.le_trans I.ok.bsz I.sz,fun b o e hb=>?_,fun b hb z=>?_,I.stack,I.stkFree⟩,
  rfl,I.bare,Un.kept hk,⟨m,hns,fun i y v e1 e2 e3=>?_⟩,fun a c e=>?_,fresh,fun a c e=>I.freeC a c (sub a c e),fun p hp=>absurd (show p∈([]:List (Addr × Obj))from hp) (by simp),I.hok.kept hk,?_⟩
 ·
  have ha':(scope.names.map fun(n,k)=>if (k == NameKind.free && X.env.scope.kind == .function && X.env.kindOf n == some .cell)then (n,NameKind.cell)else (n,k)).lookup a=some .cell\/(scope.names.map fun(n,k)=>if (k == NameKind.free && X.env.scope.kind == .function && X.env.kindOf n == some .cell)then (n,NameKind.cell)else (n,k)).lookup a=some .free:=ha;have hf:scope.names.lookup a=some .free:=by
   rcases ha' with z|z
   ·obtain⟨k0,h1,h2⟩:=zcc z;rcases h2 with h2|⟨h2,_⟩
    ·subst h2;exact absurd rfl (yer L _ (zjo h1))
    ·rw[h2]at h1;exact h1
   ·obtain⟨k0,h1,h2⟩:=zcc z;rcases h2 with h2|⟨_,h2⟩
    ·rw[<-h2]at h1;exact h1
    ·cases h2
  exact yay X.env scope.names [] a (zjo hf) (zsl I L _ (zjo hf) rfl)
 ·exact(hfp b hb).1.2.2.2.2.1 a c (sub a c e)
 ·rcases(hfp b hb).1.2.2.2.1 with z|z
  ·exact I.ok.noex b o e z
  ·exact absurd (Nat.lt_of_lt_of_le (Heap.lt_size e) (Nat.le_trans I.ok.bsz z)) (Nat.lt_irrefl _)
 ·rcases List.mem_cons.mp (I.stkSub b z)with q|q
  ·exact(hfp b hb).1.2.1 q
  ·exact(hfp b hb).1.2.2.1 q
 ·
  cases i with
  |zero=>simp[yan]at e2
  |succ i=>
  cases i with
  |zero=>simp[yan]at e2
  |succ j=>
   have e1':M'[j]?=some y:=e1;have e2':(ix.map fun i=>(st[i]?).getD none)[j]?=some (some v):=e2;rw[List.getElem?_map]at e2';cases ej:ix[j]? with
   |none=>rw[ej]at e2';cases e2'
   |some i0=>
    rw[ej]at e2';have e4:(st[i0]?).getD none=some v:=Option.some.inj e2';have e5:st[i0]?=some (some v):=by
     cases q:st[i0]? with
     |none=>rw[q]at e4;cases e4
     |some o=>rw[q]at e4;exact congrArg some e4
    have e6:X.N[i0]?=some y:=by
     have z:=congrArg (fun l=>l[j]?) L.at_;simp only[List.getElem?_map,ej,e1',Option.map_some]at z;exact Option.some.inj z
    have q:=List.all_eq_true.mp L.vis y (List.mem_of_getElem? e1');simp only[Bool.and_eq_true,Bool.or_eq_true]at q;have kx:X.env.scope.names.lookup y=some .cell\/X.env.scope.names.lookup y=some .free:=by
     rcases q.1 with z|z
     ·exact .inl (eq_of_beq z)
     ·exact .inr (eq_of_beq z)
    have ky:scope.names.lookup y=some .free:=eq_of_beq q.2;obtain⟨m0,hn0,hl0⟩:=I.loc;obtain⟨u,ru,lu⟩:=hl0 i0 y v e6 e5 (by rcases kx with z|z;exact .inr (.inl z);exact .inr (.inr z));refine⟨u,ru,.inr ⟨zds (env:=X.env) ky,?_⟩⟩;rcases lu with⟨z,_⟩|⟨_,c,ec,zc⟩
    ·rcases kx with k|k
     ·rw[show X.env.kindOf y=X.env.scope.names.lookup y from rfl,k]at z;cases z
     ·rw[show X.env.kindOf y=X.env.scope.names.lookup y from rfl,k]at z;cases z
    ·obtain⟨c',hc'⟩:=yay X.env scope.names [] y (zjo ky) (zsl I L _ (zjo ky) rfl);have e7:=sub y c' hc';rw[ec]at e7;cases e7;obtain⟨o,ho,hd⟩:=zc;exact⟨c,hc',o,hk _ _ ho,hd⟩
 ·obtain⟨v,o,ho,hd⟩:=I.cell a c (sub a c e);exact⟨v,o,hk _ _ ho,hd⟩
 ·simp[yan,blk];have z:=congrArg List.length L.at_;simpa using z
end
section
variable{T:Tb}{X:Cx}
end
def ysp(l:List Int):List Int:=l.mergeSort fun a b=>decide (a<=b)
theorem zkq(l:List Int):(ysp l).Perm l:=List.mergeSort_perm l _
theorem zzp(l:List Int):(ysp l).Pairwise (·<=·):=by
 have:=List.pairwise_mergeSort (le:=fun a b:Int=>decide (a<=b)) (fun a b c h1 h2=>by simp at *;omega) (fun a b=>by simp;omega) l;exact this.imp fun h=>by simpa using h
theorem zxs:∀ {l m:List Int},l.Perm m->l.Pairwise (·<=·)->m.Pairwise (·<=·)->l=m
 |[],m,h,_,_=>by rw[List.nil_perm]at h;exact h.symm
 |a::l,[],h,_,_=>by have:=h.length_eq;simp at this
 |a::l,b::m,h,h1,h2=>by
  rw[List.pairwise_cons]at h1 h2;have ha:a∈b::m:=h.subset List.mem_cons_self;have hb:b∈a::l:=h.symm.subset List.mem_cons_self;have e:a=b:=by
   rcases List.mem_cons.mp ha with e|ha
   ·exact e
   ·rcases List.mem_cons.mp hb with e|hb
    ·exact e.symm
    ·have:=h1.1 b hb;have:=h2.1 a ha;omega
  subst e;rw[zxs (List.Perm.cons_inv h) h1.2 h2.2]
def yr0(K:W.Frag):List V->Hp->VK->Prop:=fun xs H Q=>∃ (p:Addr) (is:List Int),xs=[.ref p]/\SqL K H p (is.map V.int)/\is.length<64/\∀ l,H l=none->Q (.ref l) (upd H l (.lst ((ysp is).map V.int)))
section
variable{T:Tb}{X:Cx}
theorem zll:yh0 X (.builtin "sorted") (yr0 X.K):=by
 intro pins s σ H xs us Q I r h;obtain⟨p,is,rfl,hq,h64,q⟩:=h;obtain⟨u,rfl,rx⟩:=yny r;cases rx;obtain⟨its,r',pl,hz⟩:=I.list hq;have hlen:=r'.length;rw[List.length_map]at hlen;refine sorted_ints pl.isList (zf7 r') (by omega) fun out ns' a1 a2 a3=>?_;obtain⟨e,he⟩:=sortedAll_at s.heap its out;have en:ns'=ysp is:=zxs (a2.trans (zkq is).symm) a3 (zzp is);subst en;have hl:=(zkq is).length_eq;exact⟨.ref (s.heap.objs.size+1),_,I.laid (t':=s.toks) (fun _ _=>sortedAll_old) (Nat.le_succ _) (show yh5 X.prog X.w _ _ _ (.lst ((ysp is).map V.int))from⟨by rw[List.length_map,hl];exact Nat.le_trans (Nat.le_of_lt h64) (by decide),out.toList,e,zkz a1,by rw[Array.toArray_toList];exact he⟩),rfl,q _ (I.hok.fresh (Nat.le_succ _))⟩
def zwq(xs:List D):M D:=fun σ=>match xs with
 |[x]=>(match yqt σ x with
  |some ys=>(match ydm ys with
   |some is=>if is.length<64 then yk6 ((ysp is).map D.int) σ else .bad
   |none=>.bad)
  |none=>.bad)
 |_=>.bad
theorem zp3{μ:List Addr}{H:Hp}:∀ is:List Int,yot T μ H (is.map D.int) (is.map V.int)
 |[]=>yot.nil
 |i::is=>yot.cons (by rw[Rep]) (zp3 is)
theorem zzd(hK:T.K=X.K):zro T (yr0 X.K) zwq:=by
 intro E μ H σ xs vs Q r p h
 match xs with
 |[]=>exact h.elim
 |[x]=>
  rw[yot]at p;obtain⟨v,w,rfl,p1,p2⟩:=p;rw[yot]at p2;subst p2;unfold zwq at h;cases e:yqt σ x with
  |none=>simp only[e]at h;exact h.elim
  |some ys=>
   simp only[e]at h;cases ei:ydm ys with
   |none=>simp only[ei]at h;exact h.elim
   |some is=>
    simp only[ei]at h;by_cases hc:is.length<64
    ·rw[if_pos hc]at h;obtain⟨b,us,rfl,h1,h2⟩:=r.ls p1 e;obtain rfl:=znr h2 ei;exact⟨b,is,rfl,SqL.of h1,hc,fun l hl=>zv2 h r (zp3 _) hl⟩
    ·rw[if_neg hc]at h;exact h.elim
 |_::_::_=>exact h.elim
def yqy(kvs more:List (Key × V)):List (Key × V):=more.foldl (fun acc kv=>yro acc kv.1 kv.2) kvs
def yqx(kvs more:List (Key × D)):List (Key × D):=more.foldl (fun acc kv=>yl8 acc kv.1 kv.2) kvs
def apart(n:Nat):D->Bool
 | .ref m=>!(m == n)
 |_=>true
theorem zvu{μ:List Addr}{H:Hp}:∀ {more:List (Key × D)} {us:List (Key × V)} {kvs:List (Key × D)} {vs:List (Key × V)},yos T μ H more us->yos T μ H kvs vs->yos T μ H (yqx kvs more) (yqy vs us):=by
 intro more;induction more with
 |nil=>intro us kvs vs h1 h2;unfold yos at h1;cases h1;exact h2
 |cons p more ih=>
  intro us kvs vs h1 h2;unfold yos at h1;cases h1 with
  |cons q h1=>
   have:=ih h1 (zlx h2 p.1 q.2);rw[q.1]at this;simpa [yqx,yqy,q.1]using this
end
theorem zea:bootBuiltins "sorted" = some (.builtin "sorted"):=by decide +kernel
theorem zk0:∀ {ks:List Key} {vs:List Value},vs.length=ks.length->(∀ (j:Nat) (v:Value) (k:Key),vs[j]?=some v->ks[j]?=some k->yoq (kV k) v)->yo0 (ks.map kV) vs
 |[],[],_,_=>.nil
 |[],_::_,h,_=>by simp at h
 |_::_,[],h,_=>by simp at h
 |k::ks,v::vs,h,hv=>.cons (hv 0 v k rfl rfl) (zk0 (by simpa using h) fun j v k e1 e2=>hv (j+1) v k e1 e2)
theorem zvb{P:Program}{w:World}{k:Key}{v:Value}(h:(zvs P w).is k v=true):yoq (kV k) v:=by
 rw[zgg]at h;rcases zem h with⟨i,t,rfl,rfl⟩|⟨x,t,rfl,rfl⟩
 ·exact⟨t,rfl⟩
 ·exact⟨t,rfl⟩
theorem zve:∀ {kvs:List (Key × V)} {ws:List (Key × Value)},KV kvs ws->ws.map (·.1)=kvs.map (·.1)
 |[],_,h=>by cases h;rfl
 |p::kvs,_,h=>by
  cases h with
  |cons q h=>simp only[List.map_cons];rw[zve h,q.1]
section
variable{T:Tb}{X:Cx}
def yqq:Key->D
 | .inl i=>.int i
 | .inr x=>.str x
end
end L4
namespace L4
open PySem PySem.Spec PySem.Calls PySem.W PyProof.Rows PyProof.V
theorem zde{prog:Program}{w:World}{A:Around}{E:Value->Shared->Prop}{s:Shared}{R:List Value->Shared->Prop}{Ty:String}{r d:Addr}{n:Nat}{P:Nat->Value->Prop}{OK:Heap->Prop}
  (K:KdlSrc prog w Ty r d n P OK) (hh:A.handled=none) (hok:OK s.heap) (hn:n<=sizeLine)
  (fin:∀ (h':Heap) (tk:Nat) (acc:Array Value),(∀ b o,s.heap.get? b=some o->h'.get? b=some o)->s.heap.objs.size<=h'.objs.size->ItemsOf P acc n->R acc.toList { s with heap:=h',toks:=tk }) :
  wpAny (model prog w) A (collect (.ref r)) R E s:=by
 have lt:=K.there _ hok;let S:Addr:=s.heap.objs.size;let Z:Result->Shared->Prop:=fun q s'=>∃ (h':Heap) (tk:Nat) (acc:Array Value) (c:Nat),q=.ok (.ret (.ref S))/\s'={ s with heap:=h',toks:=tk }/\(∀ b o,s.heap.get? b=some o->h'.get? b=some o)/\
  h'.get? S=some { cls:=.type "list",dict:=none,data:=.seq acc c,slots:=#[] }/\ItemsOf P acc n
 have close:∀ {h':Heap} {tk c:Nat} {acc:Array Value},(∀ b o,s.heap.get? b=some o->h'.get? b=some o)->h'.get? S=some { cls:=.type "list",dict:=none,data:=.seq acc c,slots:=#[] }->ItemsOf P acc n->R acc.toList { s with heap:=h',toks:=tk }:=
  fun kp g it=>fin _ _ _ kp (Nat.le_of_lt (Heap.lt_size g)) it
 have at0:(s.heap.push { cls:=.type "list",data:=.seq ([]:List Value).toArray }).get? S=some { cls:=.type "list",data:=.seq #[] }:=Heap.get?_push_size _ rfl;have run:=kdl_extend (A:=A) (s:={ s with heap:=s.heap.push { cls:=.type "list",data:=.seq ([]:List Value).toArray } }) (R:=Z) K hh (K.keep _ _ hok fun b _ o e=>Heap.get?_push_of_some _ e) S (Nat.ne_of_gt lt.1) (Nat.ne_of_gt lt.2) (.ref S) 0 at0
  (fun h' tk acc c kp g it=>⟨h',tk,acc,c,rfl,rfl,fun b o e=>kp b o (Nat.ne_of_lt (Heap.lt_size e)) (Heap.get?_push_of_some _ e),g,it⟩) hn
 unfold collect;refine wpAny_bind (wpAny_runValue (codeAny_builtin entry_proto_collect' ?_));rw[Around.under_plainId PySem.F.plain_proto_collect _];show wpAny _ A.in1 (newList [] >>= fun l=>again (.builtin "list.__iadd__" ⟨[l,.ref r],[]⟩)) _ _ s;refine wpAny_bind (wpAny_newObj_type (wpAny_pure ⟨plainId_quiet PySem.F.plain_list_iadd _,codeAny_builtin entry_list_iadd' ?_⟩));rw[Around.under_plainId PySem.F.plain_list_iadd _];show wpAny _ A.in1 (Builtin.List.listExtendWith (.ref S) (.ref r) (.ref S)) _ _ _;refine wpAny_mono run (fun f s' x=>?_) (fun e s' x=>by obtain⟨_,_,_,_,z,_⟩:=x;cases z);cases f with
 |done f=>
  obtain⟨h',tk,acc,c,e,rfl,kp,g,it⟩:=x;cases e;exact wpAny_bind (wpAny_load g (wpAny_pure (close kp g it)))
 |again c1=>
  refine⟨x.1,codeAny_mono x.2 fun q s2 y=>?_⟩;obtain⟨h',tk,acc,c,rfl,rfl,kp,g,it⟩:=y;exact wpAny_bind (wpAny_load g (wpAny_pure (close kp g it)))
end L4
namespace L4
open PySem PySem.Spec PyProof.Rows L2
def ymi:List V->Hp->VK->Prop:=fun xs H Q=>∃ (a:Addr) (kvs:List (Key × V)) (is:List Int),xs=[.ref a]/\Rd H a (.dK kvs)/\kvs.map (·.1)=is.map Sum.inl/\is.length<64/\∀ l,H l=none->Q (.ref l) (upd H l (.lst ((ysp is).map V.int)))
theorem zi4:∀ {is:List Int} {vs:List Value},yo0 ((is.map (Sum.inl:Int->Key)).map kV) vs->IntsAre vs is
 |[],_,h=>by cases h;exact .nil
 |i::is,_,h=>by
  cases h with
  |cons q h=>
   obtain⟨t,rfl⟩:=q;exact .cons i t (zi4 h)
section
variable{T:Tb}{X:Cx}
theorem zh0(hc:X.calm=true):yh0 X (.builtin "sorted") ymi:=by
 intro pins s σ H xs us Q I r h;obtain⟨a,kvs,is,rfl,hH,hks,h64,q⟩:=h;obtain⟨u,rfl,rx⟩:=yny r;cases rx;obtain⟨z,hd,ws,rel,dd⟩:=yit I.hok hH;obtain⟨ep,hat⟩:=dd.dictAt;have hk:=zve rel;have hlw:ws.length=kvs.length:=by have:=congrArg List.length hk;simpa using this
 have hlk:kvs.length=is.length:=by have:=congrArg List.length hks;simpa using this
 have hn:ws.length<=sizeLine:=by omega
 refine Calls.call_function_entry kind_sorted plain_sorted entry_sorted (args_sorted1 _) ?_;unfold Builtin.«sorted»;refine wpAny_bind (m:=checkCount "sorted" 1 1 _) (wpAny_pure ?_);refine wpAny_bind (zde (A:=X.A.in1) (W.kdl_dict (knd:=zvs X.prog X.w) (kvs:=ws) (ep:=ep) hd) (I.ok.hd hc) hat hn fun h' tk acc kp hsz hacc=>?_);have hl:acc.toList.length=ws.length:=by rw[Array.length_toList];exact hacc.1
 have hv:yo0 ((ws.map (·.1)).map kV) acc.toList:=zk0 (by rw[List.length_map];exact hl) fun j v k e1 e2=>by
  obtain⟨k',x,hx,hk'⟩:=hacc.2 j v (by rw[<-Array.getElem?_toList];exact e1);rw[List.getElem?_map,hx]at e2;cases e2;exact zvb hk'
 rw[hk,hks]at hv;have hI:=zi4 hv;refine wpAny_bind (wpAny_newList ?_ (by rw[hl];exact hn));have hoL:(h'.push (seqObj "list" acc.toList.toArray 0)).get? h'.objs.size=some (seqObj "list" acc.toList.toArray 0):=Heap.get?_push_size _ rfl;refine wpAny_bind (wpAny_holding (wpAny_call_entry slot_list_sort ⟨_,hoL,rfl⟩ entry_list_sort (list_sort_tree hoL hI (by omega) fun out ns' a1 a2 a3=>⟨_,rfl,?_⟩) (args_list_sort _)));refine wpAny_pure ⟨_,rfl,?_⟩;have en:ns'=ysp is:=zxs (a2.trans (zkq is).symm) a3 (zzp is);subst en;have hls:=(zkq is).length_eq;obtain⟨e,he⟩:=sortedHeap_at (out:=out) hoL;exact⟨.ref h'.objs.size,_,I.laid (t':=tk) (fun b o eb=>by
  have lt:b<h'.objs.size:=Heap.lt_size (kp b o eb);rw[sortedHeap_old (Nat.ne_of_lt lt) (by rw[size_push'];exact Nat.lt_succ_of_lt lt)];exact Heap.get?_push_of_some _ (kp b o eb)) hsz (show yh5 X.prog X.w _ _ _ (.lst ((ysp is).map V.int))from⟨by rw[List.length_map,hls];exact Nat.le_trans (Nat.le_of_lt h64) (by decide),out.toList,e,zkz a1,by rw[Array.toArray_toList];exact he⟩),rfl,q _ (I.hok.fresh hsz)⟩
def ykm:List (Key × D)->Option (List Int)
 |[]=>some []
 |(.inl i,_)::r=>(ykm r).map (i::·)
 |_::_=>none
theorem zjf{μ:List Addr}{H:Hp}:∀ {kvs:List (Key × D)} {us:List (Key × V)} {is:List Int},yos T μ H kvs us->ykm kvs=some is->us.map (·.1)=is.map Sum.inl
 |[],_,is,h,e=>by unfold yos at h;cases h;cases e;rfl
 |(k,d)::kvs,_,is,h,e=>by
  unfold yos at h;cases h with
  |cons q h=>
   cases k with
   |inr x=>cases e
   |inl i=>
    unfold ykm at e;cases ek:ykm kvs with
    |none=>rw[ek]at e;cases e
    |some js=>
     rw[ek]at e;cases e;simp only[List.map_cons];rw[zjf h ek,<-q.1]
def zpa(xs:List D):M D:=fun σ=>match xs with
 |[x]=>(match ypr σ x with
  |some kvs=>(match ykm kvs with
   |some is=>if is.length<64 then yk6 ((ysp is).map D.int) σ else .bad
   |none=>.bad)
  |none=>.bad)
 |_=>.bad
theorem zq0:zro T ymi zpa:=by
 intro E μ H σ xs vs Q r p h
 match xs with
 |[]=>exact h.elim
 |[x]=>
  rw[yot]at p;obtain⟨v,w,rfl,p1,p2⟩:=p;rw[yot]at p2;subst p2;unfold zpa at h;cases e:ypr σ x with
  |none=>simp only[e]at h;exact h.elim
  |some kvs=>
   simp only[e]at h;cases ei:ykm kvs with
   |none=>simp only[ei]at h;exact h.elim
   |some is=>
    simp only[ei]at h;by_cases hc:is.length<64
    ·rw[if_pos hc]at h;obtain⟨a,us,rfl,g1,g2⟩:=ygf r p1 e;exact⟨a,us,is,rfl,g1,zjf g2 ei,hc,fun l hl=>zv2 h r (zp3 _) hl⟩
    ·rw[if_neg hc]at h;exact h.elim
 |_::_::_=>exact h.elim
def ymh(K:W.Frag):List V->Hp->VK->Prop:=fun xs H Q=>yr0 K xs H Q\/ymi xs H Q
theorem zhz(hc:X.calm=true):yh0 X (.builtin "sorted") (ymh X.K):=by
 intro pins s σ H xs us Q I r h;rcases h with h|h
 ·exact zll pins s σ H xs us Q I r h
 ·exact zh0 hc pins s σ H xs us Q I r h
def ylu(xs:List D):M D:=fun σ=>match xs with
 |[x]=>(match yqt σ x with
  |some _=>zwq [x] σ
  |none=>zpa [x] σ)
 |_=>.bad
theorem zqz(hK:T.K=X.K):zro T (ymh X.K) ylu:=by
 intro E μ H σ xs vs Q r p h
 match xs with
 |[]=>exact h.elim
 |[x]=>
  unfold ylu at h;cases e:yqt σ x with
  |some ys=>simp only[e]at h;exact .inl (zzd hK E μ H σ [x] vs Q r p h)
  |none=>simp only[e]at h;exact .inr (zq0 E μ H σ [x] vs Q r p h)
 |_::_::_=>exact h.elim
end
section
variable{T:Tb}{X:Cx}
end
end L4
namespace L2
open PySem PySem.Spec PyProof.Rows
def yg5:List (TE × TE)->St->Hp->(List (V × V)->Hp->Prop)->Prop
 |[],_,H,Q=>Q [] H
 |(tk,tv)::r,σ,H,Q=>tk σ H fun x H1=>tv σ H1 fun y H2=>yg5 r σ H2 fun ps H3=>Q ((x,y)::ps) H3
abbrev VV:List (V × V)->List (Value × Value)->Prop:=Paired fun p q=>yoq p.1 q.1/\yoq p.2 q.2
def PPs(X:Cx)(pos:Pos)(keys:List (Option Expr))(values:List Expr)(trs:List (TE × TE)):Prop:=
 ∀ (pins:List (Addr × Obj)) (s:Shared) (σ:St) (H:Hp) (Q:List (V × V)->Hp->Prop),Inv X pins σ H s->yg5 trs σ H Q->
  wpAny (model X.prog X.w) X.A (evalPairs (pairTrees keys values X.env pos)) (fun vs s'=>∃ ps H',Inv X pins σ H' s'/\VV ps vs/\Q ps H') X.xe s
theorem zxi{X:Cx}{pos:Pos}:PPs X pos [] [] []:=fun pins s σ H Q I h=>pairTrees_nil_walk ⟨[],H,I,.nil,h⟩
theorem zps{X:Cx}{pos:Pos}{k v:Expr}{ks:List (Option Expr)}{vs:List Expr}{tk tv:TE}{trs:List (TE × TE)}(hk:PE X k tk)(hv:PE X v tv)(hr:PPs X pos ks vs trs) :
  PPs X pos (some k::ks) (v::vs) ((tk,tv)::trs):=fun pins s σ H Q I h=>
 pairTrees_cons_walk (thn (hk pins s σ H _ I h) fun u s1 ⟨x,H1,I1,rx,q1⟩=>thn (hv pins s1 σ H1 _ I1 q1) fun w2 s2 ⟨y,H2,I2,ry,q2⟩=>
  thn (hr pins s2 σ H2 _ I2 q2) fun ws s3 ⟨ps,H3,I3,rel,q3⟩=>⟨(x,y)::ps,H3,I3,.cons ⟨rx,ry⟩ rel,q3⟩)
def yeh(kvs more:List (Key × V)):List (Key × V):=more.foldl (fun acc kv=>yro acc kv.1 kv.2) kvs
theorem KV.merge:∀ {more:List (Key × V)} {rs:List (Key × Value)} {kvs:List (Key × V)} {vs:List (Key × Value)},KV more rs->KV kvs vs->KV (yeh kvs more) (merged vs rs):=by
 intro more rs kvs vs r;unfold KV at r;induction r generalizing kvs vs with
 |nil=>intro q;exact q
 |@cons p q ps qs h t ih=>
  intro r0;have e:KV (yro kvs p.1 p.2) (stored vs q.1 q.2):=by
   have:=r0.put p.1 h.2;rw[<-h.1];exact this
  exact ih e
theorem zcu:∀ (more kvs:List (Key × V)),(yeh kvs more).length<=kvs.length+more.length
 |[],kvs=>by show kvs.length<=kvs.length+0;omega
 |p::r,kvs=>by
  have h1:=zcu r (yro kvs p.1 p.2);have h2:=zeo kvs p.1 p.2;show (yeh (yro kvs p.1 p.2) r).length<=_;rw[List.length_cons];omega
theorem zfl{P:Program}{w:World}:∀ {kvs:List (Key × V)} {ws:List (Value × Value)},VV (kvs.map fun kv=>(kV kv.1,kv.2)) ws->∃ rs,Carries (zvs P w) ws rs/\KV kvs rs
 |[],_,r=>by rw[List.map_nil]at r;cases r;exact⟨[],True.intro,.nil⟩
 |p::kvs,_,r=>by
  rw[List.map_cons]at r;cases r with
  |@cons a b as bs h t=>
   obtain⟨rs,c,q⟩:=zfl (P:=P) (w:=w) t;obtain⟨b1,b2⟩:=b;exact⟨(p.1,b2)::rs,⟨ykj h.1,rfl,c⟩,.cons ⟨rfl,h.2⟩ q⟩
def ynf(trs:List (TE × TE)):TE:=fun σ H Q=>∀ p,H p=none->yg5 trs σ (upd H p (.dK [])) fun ps H2=>H2 p=some (.dK [])/\∃ kvs:List (Key × V),ps=kvs.map (fun kv=>(kV kv.1,kv.2))/\kvs.length<=15/\Q (.ref p) (upd H2 p (.dK (yeh [] kvs)))
theorem zw5{X:Cx}{pos:Pos}{keys:List (Option Expr)}{values:List Expr}{trs:List (TE × TE)}(h:PPs X pos keys values trs)(hall:keys.all (·.isSome)=true)(hl:keys.length=values.length)(h0:keys≠[])
  (h15:keys.length<=15):PE X (.Dict keys values pos) (ynf trs):=by
 intro pins s σ H Q I q;have hn:=I.hok.fresh (Nat.le_refl s.heap.objs.size);have I1:=I.laid (a:=s.heap.objs.size) (o:=.dK []) (h':=s.heap.push { cls:=.type "dict",data:=.dict #[] }) (t':=s.toks) (fun _ _ q=>Heap.get?_push_of_some _ q) (Nat.le_refl _) (zlw s.heap I.big);refine wpAny_Dict_walk (knd:=zvs X.prog X.w) hall hl h0 h15 (thn (h pins _ σ _ _ I1 (q _ hn)) fun ws s2 ⟨ps,H2,I2,rel,e,kvs,ep,lk,q2⟩=>?_);subst ep;obtain⟨rs,c,rk⟩:=zfl (P:=X.prog) (w:=X.w) rel;obtain⟨z,hd,vs0,r0,dd⟩:=yis I2.hok e;cases r0;refine⟨rs,c,dd,fun h' dd' hs=>⟨.ref s.heap.objs.size,_,?_,rfl,q2⟩⟩;have hz:(yeh [] kvs).length<=sizeLine:=by
  have h1:=zcu kvs [];rw[List.length_nil]at h1;rw[sizeLine_eq];omega
 have he:∃ q,h'.get? s.heap.objs.size=some q:=let ⟨q,_,_,hq,_⟩:=dd';⟨q,hq⟩;exact zsp I2 (by rw[e];exact True.intro) hs he (ybd hz hd (rk.merge .nil) dd')
end L2
namespace L4
open PySem PySem.Spec PyProof.Rows L2
def yir(n:Nat)(ks:List Key)(ds:List D):M D:=fun σ=>match σ[n]? with
 |some (.dic [])=>if ks.length<=15 then .ok (.ref n) (σ.set n (.dic (yqx [] (ks.zip ds))))else .bad
 |_=>.bad
def yiz(ks:List Key)(fs:Ev->M (List D)):Ev->M D:=fun ρ σ=>bnd (fs ρ) (yir σ.length ks) (σ++[.dic []])
section
variable{T:Tb}{X:Cx}
inductive Dsp(T:Tb)(X:Cx):List (Option Expr)->List Expr->List Key->(Ev->M (List D))->Prop
 |nil:Dsp T X [] [] [] yo2
 |cons {k v:Expr} {kk:Key} {f:Ev->M D} {ks:List (Option Expr)} {vs:List Expr} {kks:List Key} {fs:Ev->M (List D)} (hk:FE T X k (eC (yqq kk))) (hv:FE T X v f) (r:Dsp T X ks vs kks fs):Dsp T X (some k::ks) (v::vs) (kk::kks) (yie f fs)
theorem zn3{μ:List Addr}{H:Hp}{kk:Key}{v:V}(h:Rep T μ H (yqq kk) v):v=kV kk:=by
 cases kk<;>(unfold yqq at h;rw[Rep]at h;exact h)
theorem Dsp.trs{pos:Pos}{ks:List (Option Expr)}{vs:List Expr}{kks:List Key}{fs:Ev->M (List D)}(h:Dsp T X ks vs kks fs) :
  ∃ trs,PPs X pos ks vs trs/\∀ (st:St) (H:Hp) (Q:List (V × V)->Hp->Prop) (μ:List Addr) (ρ:Ev) (σ:Sto),yn9 T μ H ρ st->Rel T μ H σ->yol T (XE X st) (yot T) μ H (fs ρ σ) (fun us H'=>Q ((kks.map kV).zip us) H')->yg5 trs st H Q:=by
 induction h with
 |nil=>exact⟨[],zxi,fun st H Q μ ρ σ hE hr hp=>by
  have z:(fun(us:List V) H'=>Q ((([]:List Key).map kV).zip us) H') [] H:=yol.here (R:=yot T) (g:=([]:List V)) (Q:=fun(us:List V) H'=>Q ((([]:List Key).map kV).zip us) H') hp hr yot.nil;exact z⟩
 |@cons k v kk f ks vs kks fs hk hv r ih=>
  obtain⟨trs,h1,h2⟩:=ih;refine⟨_,zps hk hv h1,fun st H Q μ ρ σ hE hr hp=>?_⟩;refine⟨μ,ρ,σ,hE,hr,fun μ1 g H1 e1 r1 q1=>?_⟩;obtain rfl:=zn3 q1;refine⟨μ1,ρ,σ,hE.mono e1,r1,(yol.mono e1 hp).bind fun d σ2 μ2 v2 H2 _ e2 r2 p2 q2=>?_⟩;exact h2 st H2 _ μ2 ρ σ2 (hE.mono (e1.trans e2)) r2 (q2.bind fun ds σ3 μ3 us H3 _ e3 r3 p3 q3=>by
   have z:(fun(us:List V) H'=>Q (((kk::kks).map kV).zip us) H') (v2::us) H3:=yol.here (R:=yot T) (g:=v2::us) (Q:=fun(us:List V) H'=>Q (((kk::kks).map kV).zip us) H') q3 r3 (yot.cons (Rep.mono e3 _ _ p2) p3);exact z)
theorem yhy:∀ (ks:List Key) (us:List V),(ks.map kV).zip us=(ks.zip us).map fun kv=>(kV kv.1,kv.2)
 |[],_=>by simp
 |_::_,[]=>by simp
 |k::ks,u::us=>by simp[yhy ks us]
theorem zz8{μ:List Addr}{H:Hp}:∀ {ks:List Key} {ds:List D} {us:List V},yot T μ H ds us->yos T μ H (ks.zip ds) (ks.zip us)
 |[],_,_,_=>by unfold yos;simp only[List.zip_nil_left];exact .nil
 |k::ks,[],us,h=>by rw[yot]at h;subst h;unfold yos;simp only[List.zip_nil_right];exact .nil
 |k::ks,d::ds,us,h=>by
  rw[yot]at h;obtain⟨v,r,rfl,h1,h2⟩:=h;have:=zz8 (ks:=ks) h2;unfold yos at this ⊢;simp only[List.zip_cons_cons];exact .cons ⟨rfl,h1⟩ this
theorem ztc{keys:List (Option Expr)}{values:List Expr}{kks:List Key}{fs:Ev->M (List D)}{pos:Pos}(h:Dsp T X keys values kks fs)(hall:keys.all (·.isSome)=true)(hl:keys.length=values.length)(h0:keys≠[])(h15:keys.length<=15) :
  FE T X (.Dict keys values pos) (yiz kks fs):=by
 intro pins s st H Q I hq;obtain⟨trs,hp1,ht⟩:=h.trs (pos:=pos);refine zw5 hp1 hall hl h0 h15 pins s st H Q I ?_;obtain⟨μ,ρ,σ,hE,hr,hp⟩:=hq;intro p hn;have ex:Ext μ H (μ++[p]) (upd H p (.dK [])):=zme hn;have r1:Rel T (μ++[p]) (upd H p (.dK [])) (σ++[.dic []]):=hr.push (p:=p) (o:=.dK []) (ob:=.dic []) hn ⟨[],zre,by unfold yos;exact .nil⟩;have hmu:(μ++[p])[σ.length]?=some p:=by rw[<-hr.len];simp
 refine ht _ _ _ (μ++[p]) ρ (σ++[.dic []]) (hE.mono ex) r1 ((yol.mono ex hp).bind fun ds σ2 μ2 us H2 _ e2 r2 p2 q2=>?_);have hm2:=e2.get hmu;unfold yir at q2;cases el:σ2[σ.length]? with
 |none=>simp only[el]at q2;exact q2.elim
 |some ob=>
  cases ob with
  |lst ys=>simp only[el]at q2;exact q2.elim
  |ins c fs=>simp only[el]at q2;exact q2.elim
  |fdic _=>simp only[el]at q2;exact q2.elim
  |tdic _=>simp only[el]at q2;exact q2.elim
  |dic kvs=>
   cases kvs with
   |cons z zs=>simp only[el]at q2;exact q2.elim
   |nil=>
    simp only[el]at q2;by_cases hc:kks.length<=15
    ·rw[if_pos hc]at q2;obtain⟨a,ea,hn2,ws,g1,g2⟩:=r2.at (show Rep T μ2 H2 (.ref σ.length) (.ref p) by rw[Rep];exact⟨p,rfl,hm2⟩) el;cases ea;unfold yos at g2;cases g2;refine⟨g1,kks.zip us,yhy kks us,by rw[List.length_zip];omega,?_⟩;have wr:=r2.write (o:=.dK (yqy [] (kks.zip us))) (ob:=.dic (yqx [] (kks.zip ds))) hm2 ⟨_,zre,by
      have ex2:Ext μ2 H2 μ2 (upd H2 p (.dK (yqy [] (kks.zip us)))):=zif (List.mem_of_getElem? hm2) g1 (fun _ z=>by cases z) (fun _ _ z=>by cases z);exact zvu (zz8 (p2.mono ex2)) (by unfold yos;exact .nil)⟩
     exact q2 _ _ _ wr.1 wr.2 (by rw[Rep];exact⟨p,rfl,hm2⟩)
    ·rw[if_neg hc]at q2;exact q2.elim
end
section
variable{T:Tb}{X:Cx}{pins:List (Addr × Obj)}{st:St}{H:Hp}{s:Shared}
variable{N':List Str}{scope:Scope}{cl:List (Str × Addr)}{H3:Hp}{s3:Shared}{fp:List Addr}{xe:Value->Shared->Prop}
end
section
variable{T:Tb}{X:Cx}
end
section
variable{ρ:Ev}{σ:Sto}
end
end L4
namespace L4
open PySem PySem.Spec PyProof.Rows L2 Builtin Builtin.Str
section
variable{T:Tb}{X:Cx}{a b e o:Expr}{fa fb f:Ev->M D}{pos apos cpos:Pos}
end
section
variable{ρ:Ev}{σ:Sto}
end
end L4
namespace L4
open PySem PySem.Spec PyProof.Rows L2
section
variable{T:Tb}{X:Cx}
end
section
variable{ρ:Ev}{σ:Sto}
end
def yja(K:W.Frag)(C:Addr)(bmB:List Value)(newId:String)(fI:Addr):Bool:=match K.lookup C with
 |some ⟨.type "type",_,.cls cd,sl⟩=>(match cd.mro,sl.toList with
  | .ref D::bm,[_,_,_,_,some (.builtin n),_]=>((D == C && n == newId) && (!cd.hasDel && cd.hasDict)) && ((W.tailIn K bmB bm && W.nsOkIn K cd.ns) && W.nsIn K cd.ns "__init__" == some (some (.ref fI)))
  |_,_=>false)
 |_=>false
theorem ylj{K:W.Frag}{h:Heap}{N:Addr}{x:Str}{v:Value}{m:Str->Option Value}(X:K.In h)(G:h.Ns N m)(e:W.nsIn K N x=some (some v)):m x=some v:=by
 obtain⟨u,is,ip,hu,hd,_,hf⟩:=G;unfold W.nsIn at e;split at e
 ·rename_i c1 d1 es1 n1 sl1 q1
  have z:=(X _ _ q1).symm.trans hu;cases z;cases hd;split at e
  ·rename_i en he
   cases e;rw[<-hf];unfold nsFind findBy;rw[<-Array.find?_toList,he];rfl
  ·split at e<;>cases e
 ·cases e
theorem zmd{K:W.Frag}{h:Heap}{C fI:Addr}{bmB:List Value}{newId:String}(KX:K.In h)(hq:yja K C bmB newId fI=true) :
  ∃ bm N nm qn bs sn sub ab col dd k0 k1 k2 k3 k5 mN,h.get? C=some (excClassObj nm qn C N bs bm true sn sub ab col dd k0 k1 k2 k3 k5 newId)/\h.Ns N mN/\mN "__init__" = some (.ref fI)/\OwnTail h bmB bm:=by
 unfold yja at hq;split at hq
 ·rename_i dd data sl lk
  split at hq
  ·rename_i C2 bm k0 k1 k2 k3 nid k5 emro esl
   have hq1:(((C2=C/\nid=newId)/\(data.hasDel=false/\data.hasDict=true))/\((W.tailIn K bmB bm=true/\W.nsOkIn K data.ns=true)/\W.nsIn K data.ns "__init__" = some (some (.ref fI)))):=by
    simpa [Bool.and_eq_true,Bool.not_eq_true']using hq
   obtain⟨⟨⟨c1,c2⟩,c3,c7⟩,⟨c4,c5⟩,c6⟩:=hq1;subst c1;subst c2;obtain⟨nm,bs,mro,ns,qn,hd,sn,sub,ab,col,del⟩:=data;cases emro;cases c3;cases c7;obtain⟨l⟩:=sl;cases esl;exact⟨bm,ns,nm,qn,bs,sn,sub,ab,col,dd,k0,k1,k2,k3,k5,_,KX _ _ lk,.of_isNs (W.isNs_of_in KX c5),ylj KX (.of_isNs (W.isNs_of_in KX c5)) c6,W.tail_of_in KX c4⟩
  ·cases hq
 ·cases hq
section
variable{prog:Program}{w:World}{A:Around}{E:Value->Shared->Prop}{h:Heap}{g:Array GenState}{d:Drawn}{t:Nat}{os:OsState}
variable{nm qn:Str}{C N:Addr}{bs bm bmB:List Value}{hdct:Bool}{sn:List Str}{sub:List Value}{ab:Bool}{col:Option Bool}{dd:Option Addr}{k0 k1 k2 k3 k5:Option Value}{B newId initId:String}
theorem zku(F:ExcBaseFacts B newId initId bmB)(T:OwnTail h bmB bm){mN:Str->Option Value}{us:List Value}{fI:Addr}{oI:Obj}{Q:PySem.Fin->Shared->Prop}
  (hC:h.get? C=some (excClassObj nm qn C N bs bm hdct sn sub ab col dd k0 k1 k2 k3 k5 newId)) (hn:h.Ns N mN) (hi:mN "__init__" = some (.ref fI)) (hfI:h.get? fI=some oI) (hfc:oI.cls=.type "function") (hl:us.length<=sizeLine)
  (hq:∀ h' e,Heap.MadeExcOf h h' e (.ref C) us->wpAny (model prog w) A (call (.ref fI) (.ref e::us)) (fun r s'=>r=.none/\Q (.done (.ret (.ref e))) s') E ⟨h',g,d,t,os⟩) :
  wpAny (model prog w) A (Builtin.«type.__call__» ⟨.ref C::us,[]⟩) Q E ⟨h,g,d,t,os⟩:=by
 repeat (first|with_reducible refine wpAny_madeBy_exc hC ?_|with_reducible refine wpAny_loadPart_at hC ?_|wp_step)
 refine codeAny_call_builtin_code (Code.quiet_builtin _ F.quiet) (wpAny_check_new_subT F T hC (codeAny_exc_new_subT F T hC ?_ hl));show wpAny _ _ _ _ _ _;let oT:Obj:={ cls:=.type "tuple",data:=.seq us.toArray }
 let oE:Obj:={ cls:=.ref C,data:=.fields #[.ref h.objs.size,.none,.none,.none,.bool false,.none] }
 have kp:∀ b o,h.get? b=some o->((h.push oT).push oE).get? b=some o:=fun b o e=>Heap.get?_push_of_some _ (Heap.get?_push_of_some _ e);have gE:((h.push oT).push oE).get? (h.objs.size+1)=some oE:=by heap_get
 have gC:=kp _ _ hC;have nsC:((h.push oT).push oE).Ns N mN:=let ⟨o,es,ep,e,r⟩:=hn;⟨o,es,ep,kp _ _ e,r⟩;have cc:(Value.ref C::bm).contains (.ref C)=true:=by simp
 unfold isInstance;repeat (first|with_reducible refine wpAny_loadPart_at gE ?_|(with_reducible refine wpAny_isSubtype_exc gC ?_;rw[cc])|wp_step)
 show wpAny _ _ (typeLookup (.ref C) _) _ _ _;refine wpAny_typeLookup_tail gC nsC (T.keeps kp) F.mroIs F.init.lookup ?_;rw[hi];refine wpAny_holding (wpAny_bind ?_);unfold bindSpecial;refine wpAny_bind (wpAny_typeOf (T:="function") ⟨_,kp _ _ hfI,hfc⟩ ?_);rw[if_pos (by decide)];have made:Heap.MadeExcOf h ((h.push oT).push oE) (h.objs.size+1) (.ref C) us:=⟨kp,Heap.get?_none_of_le (Nat.le_succ _),h.objs.size,gE,Heap.get?_none_of_le (Nat.le_refl _),Heap.get?_push_of_some _ (Heap.get?_push_at rfl rfl)⟩
 refine wpAny_pure (wpAny_bind (wpAny_mono (hq _ (h.objs.size+1) made) (fun r s' hr=>?_) fun _ _ z=>z));obtain⟨rfl,hQ⟩:=hr
 wp_walk
 exact hQ
theorem zlk(F:ExcBaseFacts B newId initId bmB)(T:OwnTail h bmB bm){mN:Str->Option Value}{us:List Value}{fI:Addr}{oI:Obj}{Q:Value->Shared->Prop}
  (hC:h.get? C=some (excClassObj nm qn C N bs bm hdct sn sub ab col dd k0 k1 k2 k3 k5 newId)) (hn:h.Ns N mN) (hi:mN "__init__" = some (.ref fI)) (hfI:h.get? fI=some oI) (hfc:oI.cls=.type "function") (hl:us.length<=sizeLine)
  (hq:∀ h' e,Heap.MadeExcOf h h' e (.ref C) us->wpAny (model prog w) (A.under (.builtin "type.__call__" ⟨.ref C::us,[]⟩)) (call (.ref fI) (.ref e::us)) (fun r s'=>r=.none/\Q (.ref e) s') E ⟨h',g,d,t,os⟩) :
  wpAny (model prog w) A (call (.ref C) us) Q E ⟨h,g,d,t,os⟩:=by
 have f1:=tc_lookup;have f2:=tc_bind (.ref C);have hT:(⟨h,g,d,t,os⟩:Shared).TypeIs (.ref C) "type":=⟨_,hC,rfl⟩
 refine wpAny_call (codeAny_of_tree (show wpAny _ _ (callAny (.ref C) _) _ _ _ from ?_));repeat (any_goals (first|assumption|wp_step|with_reducible refine wpAny_loadPart_at hC ?_))
 exact⟨rfl,codeAny_call_builtin_at (Code.quiet_builtin _ (by decide +kernel)) entry_typeCall (wpAny_check_type_call_sub hC (zku F T hC hn hi hfI hfc hl fun h' e hm=>hq h' e hm))⟩
end
def yoo(C ea:Addr)(dd:Option Addr):Heap->Prop:=fun h=>∃ oe vs a0,h.get? ea=some oe/\oe.cls=.ref C/\oe.dict=dd/\oe.data=.fields vs/\1<vs.size/\vs[0]?=some a0/\vs[1]?=some .none
theorem zp1{C a:Addr}{dd:Option Addr}:∀ h1 h2:Heap,yoo C a dd h1->(∀ u,h1.get? a=some u->h2.get? a=some u)->yoo C a dd h2:=fun h1 h2 ⟨u,vs,a0,hu,q⟩ k=>⟨u,vs,a0,k u hu,q⟩
section
variable{T:Tb}{X:Cx}{pins:List (Addr × Obj)}{st:St}{H:Hp}{s:Shared}
theorem zxz{ea:Addr}{φ φ':Heap->Prop}{h':Heap}{t':Nat}{o':Obj}(I:Inv X pins st H s)(hH:H ea=some (.ext φ))(k:∀ b o,b≠ea->s.heap.get? b=some o->h'.get? b=some o)(ho:h'.get? ea=some o')(hφ:φ' h')
  (hs:∀ h1 h2:Heap,φ' h1->(∀ u,h1.get? ea=some u->h2.get? ea=some u)->φ' h2):Inv X pins st (upd H ea (.ext φ')) { s with heap:=h',toks:=t' }:=by
 have n0:∀ b,H b=none->b≠ea:=fun b e z=>by rw[z,hH]at e;cases e
 have nt:∀ b u,H b=some u->(∀ ψ,u≠.ext ψ)->b≠ea:=fun b u e n z=>by rw[z,hH]at e;cases e;exact n _ rfl
 refine⟨I.ok,I.os,I.bare,⟨fun b o e n hb hx=>?_,fun b o e n hb hx=>?_,fun b o e n hx=>?_,fun b o e hx=>?_,fun b xs e=>?_,fun b ob u e=>?_,fun b ps e=>?_⟩,?_,fun x c e=>?_,?_,fun x c e=>?_,fun p hp=>?_,fun b u e=>?_,I.len⟩
 ·exact k _ _ (n0 _ (I.base.free b o e n hx)) (I.base.keep b o e n hb hx)
 ·obtain⟨sl,q⟩:=I.base.slot b o e n hb hx;exact⟨sl,k _ _ (n0 _ (I.base.free b o e n hx)) q⟩
 ·have q:=I.base.free b o e n hx;rw[yhv (n0 _ q)];exact q
 ·obtain⟨o2,q⟩:=I.base.there b o e hx;by_cases hb:b=ea
  ·exact⟨o',by rw[hb];exact ho⟩
  ·exact⟨o2,k _ _ hb q⟩
 ·have q:=I.base.tups b xs e;rw[yhv (nt b _ q (fun _ z=>by cases z))];exact q
 ·have q:=I.base.frzs b ob u e;rw[yhv (nt b _ q (fun _ z=>by cases z))];exact q
 ·obtain⟨more,q⟩:=I.base.tbls b ps e;exact⟨more,by rw[yhv (nt b _ q (fun _ z=>by cases z))];exact q⟩
 ·obtain⟨m,⟨o,es,ep,e1,e2⟩,hl⟩:=I.loc;refine⟨m,⟨o,es,ep,k _ _ (n0 _ I.free) e1,e2⟩,fun i x v h1 h2 h3=>?_⟩;obtain⟨u,r,lk⟩:=hl i x v h1 h2 h3;refine⟨u,r,?_⟩;rcases lk with q|⟨q1,c,q2,o2,q3,q4⟩
  ·exact .inl q
  ·exact .inr ⟨q1,c,q2,o2,k _ _ (n0 _ (I.freeC _ _ q2)) q3,q4⟩
 ·obtain⟨v,o2,q3,q4⟩:=I.cell x c e;exact⟨v,o2,k _ _ (n0 _ (I.freeC _ _ e)) q3,q4⟩
 ·rw[yhv (n0 _ I.free)];exact I.free
 ·rw[yhv (n0 _ (I.freeC _ _ e))];exact I.freeC _ _ e
 ·obtain⟨p1,p2,p3⟩:=I.pin p hp;exact⟨k _ _ (n0 _ p2) p1,by rw[yhv (n0 _ p2)];exact p2,p3⟩
 ·by_cases hb:b=ea
  ·subst hb;rw[zre]at e;cases e;exact⟨hφ,⟨o',ho⟩,hs⟩
  ·rw[yhv hb]at e;refine(I.hok b u e).stay (fun c v hc q=>k _ _ ?_ q) (fun c q=>?_) fun c xs q=>?_
   ·rcases hc with rfl|hc
    ·exact hb
    ·exact nt c _ hc (fun _ z=>by cases z)
   ·rw[yhv (nt c _ q (fun _ z=>by cases z))];exact q
   ·rw[yhv (nt c _ q (fun _ z=>by cases z))];exact q
end
section
variable{X:Cx}
theorem yhu{H:Hp}{a:Addr}{u:HO}(h:H a=some u):upd H a u=H:=by
 funext b;unfold upd;by_cases hb:b=a
 ·rw[if_pos hb,hb,h]
 ·rw[if_neg hb]
def tFp(i:Nat):TE:=fun st H Q=>∃ n:Nat,st[i]?=some (some (.int n))/\n<10/\∀ y,Q (.str y) H
theorem yec{n:Nat}(h:n<10):(n:Int).natAbs.log2<1920:=by
 match n,h with
 |0,_|1,_|2,_|3,_|4,_|5,_|6,_|7,_|8,_|9,_=>decide
theorem zw6{i k1 k2:Nat}{x a1 a2:Str}{p q1 q2 q3 q4:Pos}(hN:X.N[i]?=some x)(hv:Vis X.env.scope x)
  (hz:∀ n:Nat,n<10->(Str.empty++a1).length<=sizeLine/\(Str.empty++a1++Str.ofString (toString (n:Int))).length<=sizeLine/\(Str.empty++a1++Str.ofString (toString (n:Int))++a2).length<=sizeLine)
  (hd:(x == ("__debug__" : Str))=false:=by decide) (hcd:(x == ("__classdict__" : Str))=false:=by decide) :
  PE X (.JoinedStr [.Constant (.str a1) k1 q1,.FormattedValue (.Name x p) (-1) none q2,.Constant (.str a2) k2 q3] q4) (tFp i):=by
 intro pins s st H Q I h;obtain⟨n,hn,h10,q⟩:=h;obtain⟨z1,z2,z3⟩:=hz n h10;refine JoinedStr_many (joinParts_cons (wpAny_Constant_str ⟨z1,joinParts_cons (FormattedValue_plain (thn (yft hN hv hd hcd pins _ st H (fun v H1=>v=.int n/\H1=H) (I.tok _) ⟨_,hn,rfl,rfl⟩) fun u s2 ⟨v,H2,I2,r2,ev,eH⟩=>?_))⟩));subst ev;subst eH;obtain⟨t,rfl⟩:=r2;refine formatField_int_small (yec h10) ⟨z2,joinParts_cons (wpAny_Constant_str ⟨z3,joinParts_nil ?_ z3⟩)⟩;exact⟨.str _,H2,I2.tok _,⟨_,rfl⟩,q _⟩
def tBi(C:Addr):TE:=fun st H Q=>∃ (ea:Addr) (n:Nat),st[0]?=some (some (.ref ea))/\st[1]?=some (some (.int n))/\n<10/\H ea=some (.ext (yoo C ea none))/\Q .non H
theorem zpd{pl:Sem Bool}{C BE fI:Addr}{mc:Value}{xb xs xp a1 a2:Str}{k1 k2:Nat}{p1 p3 apos pos p q1 q2 q3 q4:Pos}{bmB:List Value}{newId:String}{B initId:String}(F:ExcBaseFacts B newId initId bmB)(hq:yja X.K C bmB newId fI=true)
  (hg:Gl X xb) (hm:X.mg xb=some (.ref BE)) (hsp:W.specialIn X.K (.ref BE) (Str.ofString "__getattribute__")=some (some (.builtin "type.__getattribute__")))
  (h1:W.readsIn X.K BE mc=true) (h2:W.findCls X.K (.ref BE) mc "__init__" = some (.val (.builtin initId))) (hh:W.handedIn (.builtin initId)=true)
  (hN0:X.N[0]?=some xs) (hv0:Vis X.env.scope xs) (hN1:X.N[1]?=some xp) (hv1:Vis X.env.scope xp)
  (hz:∀ n:Nat,n<10->(Str.empty++a1).length<=sizeLine/\(Str.empty++a1++Str.ofString (toString (n:Int))).length<=sizeLine/\(Str.empty++a1++Str.ofString (toString (n:Int))++a2).length<=sizeLine)
  (hdb:(xb == ("__debug__" : Str))=false:=by decide) (hds:(xs == ("__debug__" : Str))=false:=by decide) (hcs:(xs == ("__classdict__" : Str))=false:=by decide) (hdp:(xp == ("__debug__" : Str))=false:=by decide) (hcp:(xp == ("__classdict__" : Str))=false:=by decide)
  (ht:eval (.Call (.Attribute (.Name xb p1) "__init__" apos) [.Name xs p3,.JoinedStr [.Constant (.str a1) k1 q1,.FormattedValue (.Name xp p) (-1) none q2,.Constant (.str a2) k2 q3] q4] [] pos) X.env=(do
   let ov <-eval (.Name xb p1) X.env
   standAt apos.atName
   let (f,first) <-holding [ov] (getMethod ov "__init__" pl)
   callWith pos f first (backTo pos (starEach [.Name xs p3,.JoinedStr [.Constant (.str a1) k1 q1,.FormattedValue (.Name xp p) (-1) none q2,.Constant (.str a2) k2 q3] q4] X.env)) (backToKw pos (keywordEach [] X.env))):=by rfl) :
  PE X (.Call (.Attribute (.Name xb p1) "__init__" apos) [.Name xs p3,.JoinedStr [.Constant (.str a1) k1 q1,.FormattedValue (.Name xp p) (-1) none q2,.Constant (.str a2) k2 q3] q4] [] pos) (tBi C):=by
 intro pins s st H Q I h;obtain⟨ea,n,e0,e1,h10,hH,q⟩:=h;refine W.methodCall_KW (pl:=pl) (zvi I hg hm ?_ hdb) ht;refine W.method_cls I.kIn hsp (W.cls_value I.kIn h1 h2 hh ?_);have I1:=I.tok (s.toks+1);have hP:PA X [.Name xs p3,.JoinedStr [.Constant (.str a1) k1 q1,.FormattedValue (.Name xp p) (-1) none q2,.Constant (.str a2) k2 q3] q4] _:=zwx (yft (pos:=p3) hN0 hv0 hds hcs) (zwx (zw6 hN1 hv1 hz hdp hcp) yfi);have hA:=hP pos pins _ st H (fun vs H1=>∃ y,vs=[.ref ea,.str y]/\H1=H) I1 ⟨_,e0,n,e1,h10,fun y=>⟨y,rfl,rfl⟩⟩;refine Calls.callWith_builtin rfl (Calls.evalArgs_plain (thn hA fun us s2 ⟨vs,H2,I2,r,y,ev,eH⟩=>?_));subst ev;subst eH;obtain⟨u1,u2,rfl,r1,r2⟩:=ynz r;cases (show u1=Value.ref ea from r1);obtain⟨t,rfl⟩:=r2;obtain⟨⟨oe,vs,a0,he,hc,hdn,hdt,hsz,hv0',hv1'⟩,_,_⟩:=I2.hok ea _ hH;obtain⟨bm,N,nm,qn,bs,sn,sub,ab,col,dd,k0,k1',k2',k3,k5,mN,hC,hNs,hni,tl⟩:=zmd I2.kIn hq;obtain⟨hh2,g2,d2,t2,os2⟩:=s2;refine wpAny_call (codeAny_call_builtin F.init.plain F.initEntry (wpAny_check_init_subT F tl hC he hc ?_));unfold Builtin.«BaseException.__init__»;show wpAny _ _ (newTuple [.str y t] >>= fun v=>Builtin.BaseException.bexcPut (.ref ea) 0 v >>= fun _=>PySem.ret .none) _ _ _;refine wpAny_bind (wpAny_newTuple ?_ (show (1:Nat)<=sizeLine by decide));have he1:(hh2.push { cls:=.type "tuple",data:=.seq [Value.str y t].toArray }).get? ea=some oe:=Heap.get?_push_of_some _ he;have s0:0<vs.size:=by omega
 have put:wpAny (model X.prog X.w) X.A.in1 (Builtin.BaseException.bexcPut (.ref ea) 0 (.ref hh2.objs.size)) (fun _ s3=>EP X pins st Q .none s3) X.xe ⟨hh2.push { cls:=.type "tuple",data:=.seq [Value.str y t].toArray },g2,d2,t2,os2⟩:=by
  unfold Builtin.BaseException.bexcPut;refine wpAny_bind (wpAny_field he1 hdt hv0' (wpAny_bind (wpAny_setField he1 hdt s0 ?_)));have fin:EP X pins st Q .none ⟨(hh2.push { cls:=.type "tuple",data:=.seq [Value.str y t].toArray }).update ea (Obj.mapFields (·.setIfInBounds 0 (.ref hh2.objs.size))),g2,d2,t2,os2⟩:=by
   have slf:=Heap.get?_update_self (Obj.mapFields (·.setIfInBounds 0 (Value.ref hh2.objs.size))) he1 (Obj.isFreed_of_fields (Obj.data_mapFields hdt _));have J:=zxz (φ':=yoo C ea none) (t':=t2) I2 hH (fun b o nb e=>(Heap.get?_update_other _ _ (Ne.symm nb)).trans (Heap.get?_push_of_some _ e)) slf
    ⟨_,_,.ref hh2.objs.size,slf,(Obj.cls_mapFields _ _).trans hc,?_,Obj.data_mapFields hdt _,by simpa using hsz,by simp[s0],by rw[Array.getElem?_setIfInBounds_ne (by decide)];exact hv1'⟩ zp1
   ·rw[yhu hH]at J;exact⟨.non,H2,J,rfl,q⟩
   ·obtain⟨oc,od,odt,osl⟩:=oe;cases hdt;exact hdn
  cases a0<;>first|exact wpAny_letGo fin|exact wpAny_pure fin
 exact wpAny_bind (wpAny_mono put (fun _ s3 z=>wpAny_pure z) fun _ _ z=>z)
end
theorem ze4{h:Heap}{bmB tl:List Value}(self:Value)(what:Str)(T:OwnTail h bmB tl):refuseLoop self what tl=refuseLoop self what bmB:=by
 induction T with
 |base=>rfl
 |own _ _ _ _ ih=>rw[refuseLoop_ref];exact ih
section
variable{prog:Program}{w:World}{A:Around}{E:Value->Shared->Prop}{h:Heap}{g:Array GenState}{d:Drawn}{t:Nat}{os:OsState}{K:W.Frag}
variable{nm qn:Str}{C N x:Addr}{bs bm bmB:List Value}{sn:List Str}{sub:List Value}{ab:Bool}{col:Option Bool}{dd:Option Addr}{k0 k1 k2 k3 k5:Option Value}{B newId sa owner:String}{name:Str}{v:Value}{o:Obj}{vs:Array Value}
theorem zyw{Q:Unit->Shared->Prop}(KX:K.In h)(SF:StoreFacts B bmB sa owner)(T:OwnTail h bmB bm)(hC:h.get? C=some (excClassObj nm qn C N bs bm true sn sub ab col dd k0 k1 k2 k3 k5 newId))
  (hsa:W.findIn K (.ref C) "__setattr__" = some (some (.builtin sa))) (hna:W.findIn K (.ref C) name=some none) (hmo:W.mroIn K C (.type owner)=some true) (hx:h.get? x=some o) (hc:o.cls=.ref C) (hdn:o.dict=none) (hdt:o.data=.fields vs)
  (hq:∀ h' dN tk,h.get? dN=none->h'.get? x=some { o with dict:=some dN }->(∀ b u,b≠x->h.get? b=some u->h'.get? b=some u)->h'.Ns dN (fun y=>if y=name then some v else none)->Q () ⟨h',g,d,tk,os⟩) :
  wpAny (model prog w) A (setAttr (.ref x) name v) Q E ⟨h,g,d,t,os⟩:=by
 have l0:W.Looks (model prog w) h (typeOf (.ref x)) (.ref C):=by rw[<-hc];exact(W.Looks.ld hx).andThen .now
 have l1:=W.looks_findIn (M:=model prog w) KX hsa;have l2:=W.looks_findIn (M:=model prog w) KX hna;have l3:=W.looks_mroIn (M:=model prog w) KX hmo;have f3:=SF.slot.bind (.ref x);unfold setAttr callSpecial? specialOf;repeat (any_goals (first|assumption|(with_reducible refine W.Looks.at (by assumption) ?_)|wp_step))
 refine codeAny_call_builtin SF.slot.plain SF.entry ?_;have hk:=SF.kind;have hsp:=SF.split;simp only[List.cons_append,List.nil_append,checkBuiltinCall,hk,hsp];refine wpAny_bind ?_;have body:wpAny (model prog w) A.in1 (Builtin.«object.__setattr__» ⟨[.ref x,.str name t,v],[]⟩) (fun fin s'=>match fin with | .done f=>(match f with | .ret r=>Q () s'|_=>False) | .again c'=>False) E ⟨h,g,d,t+1,os⟩:=by
  have hpass:=(ze4 (.ref x) "__setattr__" T).trans (SF.passes (.ref x));unfold Builtin.«object.__setattr__»;repeat (first|rw[refuse_eq]|(rw[refuseLoop_ref,hpass])|with_reducible refine wpAny_mroOf_exc hC ?_|(with_reducible refine W.Looks.at l0 ?_)|(with_reducible refine W.Looks.at l2 ?_)|(with_reducible refine wpAny_loadPart_at hx ?_;rw[hc])|wp_step)
  rw[hdn];dsimp only;rw[if_neg (show ¬ ((!true || !typeHasDict (Value.ref C))=true) by simp[typeHasDict]),hdt];dsimp only;let hd1:Heap:=h.push { cls:=.type "dict",data:=.dict #[] };have x1:hd1.get? x=some o:=Heap.get?_push_of_some _ hx;have nx:h.objs.size≠x:=Nat.ne_of_gt (Heap.lt_size hx);refine wpAny_bind (wpAny_alloc' (wpAny_bind (wpAny_update' x1 (wpAny_pure ?_))));let hd2:Heap:=hd1.update x fun o=>{ cls:=o.cls,dict:=some h.objs.size,data:=o.data,slots:=o.slots }
  have gd:hd2.get? h.objs.size=some { cls:=.type "dict",data:=.dict #[] }:=(Heap.get?_update_ne _ _ _ _ nx).trans (Heap.get?_push_at rfl rfl);have nd:hd2.Ns h.objs.size (fun _=>none):=⟨_,#[],_,gd,rfl,fun e he=>absurd he (by simp),fun _=>rfl⟩
  show wpAny _ _ (Builtin.ObjectAttr.storeInDict h.objs.size (.str name t) name v) _ _ ⟨hd2,g,d,t+1,os⟩;unfold Builtin.ObjectAttr.storeInDict Builtin.ObjectAttr.newKeyGuard;refine wpAny_bind (wpAny_pure (wpAny_bind (wpAny_nsSet1 (Heap.Ns1.of_empty nd) fun h' n1 sb=>?_)));obtain⟨oD,eD,pD,hoD,hdD,hcD⟩:=n1.count (Within.cons name v Within.nil);refine wpAny_bind (wpAny_lookBehind hoD (by rw[hdD];exact pastItsLine_dict (Nat.le_trans hcD (by rw[List.length_cons,List.length_nil,sizeLine_eq];omega))) ?_)
  wp_walk
  have xs:h'.get? x=some { o with dict:=some h.objs.size }:=by
   refine(sb.2 x (Ne.symm nx)).trans ((Heap.get?_update_self _ x1 ?_).trans rfl);obtain⟨oc,od,odt,osl⟩:=o;cases hdt;rfl
  exact hq h' h.objs.size _ (Heap.get?_none_of_le (Nat.le_refl _)) xs (fun b u nb e=>(sb.2 b (Nat.ne_of_lt (Heap.lt_size e))).trans ((Heap.get?_update_ne _ _ _ _ nb).trans (Heap.get?_push_of_some _ e))) n1.ns
 unfold isInstance;repeat (any_goals (first|assumption|(with_reducible refine W.Looks.at (by assumption) ?_)|wp_step))
 have ha:=SF.args (.ref x) (.str name t) v;have ok:∀ {R:Unit->Shared->Prop} {E2:Value->Shared->Prop} {s2:Shared},R () s2->wpAny (model prog w) A.in1 (match Manifest.signature? sa with|some sig=>Bind.checkArgs sa sig ⟨[.ref x,.str name t,v],[]⟩|_=>pure ()) R E2 s2:=fun {R E2 s2} r=>by
  unfold argsOk at ha;cases hsig:Manifest.signature? sa with
  |none=>exact wpAny_pure r
  |some sig=>
   rw[hsig]at ha;have z:Bind.checkArgs sa sig ⟨[.ref x,.str name t,v],[]⟩=pure ():=ha;show wpAny _ _ (Bind.checkArgs sa sig ⟨[.ref x,.str name t,v],[]⟩) R E2 s2;rw[z];exact wpAny_pure r
 refine ok (wpAny_mono body (fun fin s' z=>?_) fun _ _ z=>z);cases fin with
 |done f=>
  cases f with
  |ret r=>exact wpAny_pure (wpAny_pure z)
  |_=>exact z.elim
 |again c'=>exact z.elim
end
section
variable{X:Cx}
def tPs(C:Addr):TS:=fun D st H=>∃ (ea:Addr) (n:Nat),st[0]?=some (some (.ref ea))/\st[1]?=some (some (.int n))/\H ea=some (.ext (yoo C ea none))/\
 ∀ dN,H dN=none->dN≠ea->D.nx st (upd (upd H ea (.ext (yoo C ea (some dN)))) dN (.ext (yh6 dN n)))
theorem yf3{C fI:Addr}{B newId sa owner:String}{bmB:List Value}{xs xp:Str}{p1 p2 p3 pos:Pos}(SF:StoreFacts B bmB sa owner)(hq:yja X.K C bmB newId fI=true)
  (hsa:W.findIn X.K (.ref C) "__setattr__" = some (some (.builtin sa))) (hna:W.findIn X.K (.ref C) "pot" = some none) (hmo:W.mroIn X.K C (.type owner)=some true)
  (hN0:X.N[0]?=some xs) (hv0:Vis X.env.scope xs) (hN1:X.N[1]?=some xp) (hv1:Vis X.env.scope xp)
  (hds:(xs == ("__debug__" : Str))=false:=by decide) (hcs:(xs == ("__classdict__" : Str))=false:=by decide) (hdp:(xp == ("__debug__" : Str))=false:=by decide) (hcp:(xp == ("__classdict__" : Str))=false:=by decide)
  (hsw:swapsWith (.Name xp p3) (some (.Attribute (.Name xs p1) "pot" p2)) pos.line X.env=pure false:=by rfl) :
  PS X (.Assign [.Attribute (.Name xs p1) "pot" p2] (.Name xp p3) pos) (tPs C):=by
 intro pins s st H D I h;obtain⟨ea,n,e0,e1,hH,q⟩:=h;refine plainObj_wpAny_Assign_Attribute (thn (yft hN1 hv1 hdp hcp pins s st H (fun v H1=>v=.int n/\H1=H) I ⟨_,e1,rfl,rfl⟩) fun u s1 ⟨y,H1,I1,ry,ey,eH⟩=>thn (yft hN0 hv0 hds hcs pins s1 st H1 (fun v H2=>v=.ref ea/\H2=H1) I1 ⟨_,e0,rfl,rfl⟩) fun ov s2 ⟨x,H2,I2,rx,ex,eH2⟩=>?_) hsw;subst ey;subst ex;subst eH2;subst eH;obtain⟨t,rfl⟩:=ry;obtain rfl:ov=Value.ref ea:=rx;obtain⟨⟨oe,vs,a0,he,hc,hdn,hdt,hsz,hv0',hv1'⟩,_,_⟩:=I2.hok ea _ hH;obtain⟨bm,N,nm,qn,bs,sn,sub,ab,col,dd,k0,k1,k2,k3,k5,mN,hC,hNs,hni,tl⟩:=zmd I2.kIn hq;obtain⟨hh2,g2,d2,t2,os2⟩:=s2;refine zyw I2.kIn SF tl hC hsa hna hmo he hc hdn hdt fun h' dN tk hnew hx' keep ns=>?_;have ned:dN≠ea:=fun z=>by rw[z]at hnew;exact absurd (hnew.symm.trans he) (by simp)
 have hnd:H2 dN=none:=by
  cases z:H2 dN with
  |none=>rfl
  |some u=>obtain⟨v,e⟩:=zeu (I2.hok _ _ z);exact absurd (hnew.symm.trans e) (by simp)
 have J1:=zxz (φ':=yoo C ea (some dN)) (t':=tk) I2 hH keep hx' ⟨_,vs,a0,hx',hc,rfl,hdt,hsz,hv0',hv1'⟩ zp1;obtain⟨oD,es,ep,hoD,hdD,hsk,hfn⟩:=ns;have J2:=zrb (φ:=yh6 dN n) J1 I2 hnew (by rw[yhv ned];exact hnd) hoD ⟨oD,hoD,es,ep,t,hdD,hsk,by rw[hfn];simp⟩ zpr;exact⟨st,_,J2,q dN hnd ned⟩
def spI(C:Addr):Sp:=fun vs H Q _=>∃ (ea:Addr) (n:Nat),vs=[.ref ea,.int n]/\n<10/\H ea=some (.ext (yoo C ea none))/\
 ∀ dN,H dN=none->dN≠ea->Q .non (upd (upd H ea (.ext (yoo C ea (some dN)))) dN (.ext (yh6 dN n)))
end
def OkI(K:W.Frag)(P:Program)(w:World)(mg:Str->Option Value)(base:Heap)(k:Nat)(C f:Addr)(ps:List Str):Prop:=
 ∃ fd,(∀ us:List Value,us.length=ps.length->bindArgs fd ⟨us,[]⟩=pure (ps.zip us))/\FnOk P w K mg base (CXE P w) k f fd ps (spI C)/\∃ oI,K.lookup f=some oI/\oI.cls=.type "function"
section
variable{P:Program}{w:World}{K:W.Frag}{mg:Str->Option Value}{base:Heap}
theorem ye3{k:Nat}{C f:Addr}{x qual xs xp:Str}{st:Stmt}(h:HasM K C x qual st [xs,xp] f)(S:FnScope [xs,xp] [xs,xp] (zlv st))(hfc:(K.lookup f).any (fun o=>o.cls == .type "function")=true)
  (hb:∀ (cdv:Value) (A:Around) (outer:List Env) (s:Shared) (H:Hp) (E:XK),Room k (A.deeper (envOfC qual (zlv st) s.heap.objs.size f cdv))->PSs (ypq (CXE P w) P w K mg base [xs,xp] qual (zlv st) f cdv A outer s H E) (zsr st) (ys2 (yng (tBi C)) (tPs C))) :
  OkI K P w mg base (k+1) C f [xs,xp]:=by
 obtain⟨fd,F,hbd⟩:=h.ex;obtain⟨oc,od,kV,doc,pm,an,cdv,ct,osl,rfl,lk,hcd⟩:=F.ex;refine⟨_,hbd,yjo lk hcd S (fun vs H Q E hsp=>?_) (fun A outer s H vs Q E hr hsp=>?_),_,lk,?_⟩
 ·obtain⟨ea,n,rfl,_⟩:=hsp;rfl
 ·obtain⟨ea,n,rfl,h10,hH,q⟩:=hsp;exact⟨_,hb cdv A outer s H E hr,ea,n,rfl,rfl,h10,hH,ea,n,rfl,rfl,hH,fun dN h1 h2=>q dN h1 h2⟩
 ·rw[lk]at hfc;simpa using hfc
end
section
variable{M:Model}{A:Around}{E:Value->Shared->Prop}{s:Shared}{env:Env}
variable{nm qn:Str}{C N:Addr}{bs bm:List Value}{hdct:Bool}{sn:List Str}{sub:List Value}{ab:Bool}{col:Option Bool}{dd:Option Addr}{k0 k1 k2 k3 k5:Option Value}{newId:String}
theorem zj9{x:Sem Value}{Q:Flow->Shared->Prop}(hh:A.handled=none)
  (h:wpAny M A x (fun v s1=>∃ e nm qn N bs bm hdct sn sub ab col dd k0 k1 k2 k3 k5 oe vs,v=.ref e/\bm.contains (.type "BaseException")=true/\s1.heap.get? C=some (excClassObj nm qn C N bs bm hdct sn sub ab col dd k0 k1 k2 k3 k5 newId)/\
   s1.heap.get? e=some oe/\oe.cls=.ref C/\oe.data=.fields vs/\vs[1]?=some .none/\E (.ref e) s1) E s):wpAny M A (raiseStmt env (some x) none) Q E s:=by
 unfold raiseStmt;refine wpAny_bind (wpAny_mono h (fun v s1 z=>?_) fun _ _ z=>z);obtain⟨e,nm,qn,N,bs,bm,hdct,sn,sub,ab,col,dd,k0,k1,k2,k3,k5,oe,vs,rfl,hb,hC,he,hc,hd,h1,hE⟩:=z;have hB:(Value.ref C::bm).contains (.type "BaseException")=true:=by rw[List.contains_cons,hb,Bool.or_true]
 obtain⟨hp,g,d,tk,os⟩:=s1;repeat (first|(with_reducible refine wpAny_loadPart_at he ?_;rw[hc])|with_reducible refine wpAny_loadPart_at hC ?_|(with_reducible refine wpAny_isSubtype_exc hC ?_;rw[hB])|wp_step)
 rw[hd];refine wpAny_pure ?_;rw[h1];refine wpAny_pure ?_;rw[if_neg (by decide)];exact wpAny_pure (wpAny_raiseNew_none hh hE)
end
def zxx(c:Nat)(ρ:Ev)(d:D):M Fl:=match d with
 | .int i=>if 0<=i/\i<10 then ret (.xc ρ ⟨c+100 * (i.toNat+1)⟩)else bad
 |_=>bad
def zx9(c:Nat)(f:Ev->M D):Ev->M Fl:=fun ρ=>xs ρ (f ρ) (zxx c ρ)
theorem ybx{c n:Nat}(h:c<100):fdN (c+100 * (n+1))=some n:=by
 unfold fdN;rw[if_neg (by omega)];congr 1;omega
section
variable{T:Tb}{X:Cx}
theorem zww{pins:List (Addr × Obj)}{st:St}{H1:Hp}{s1 s3:Shared}{h':Heap}{ea C:Addr}{us:List Value}{n:Nat}{H':Hp}{dN:Addr}{cls:Value}{hx:cls=.ref C}
  (I1:Inv X pins st H1 s1) (hm:Heap.MadeExcOf s1.heap h' ea (.ref C) us) (os3:s3.os=s1.os) (b3:AllBare s3.gens) (U:Un (frs X.stack) [] (upd H1 ea (.ext (yoo C ea none))) H' h' s3.heap) (hok3:HOk X.prog X.w H' s3.heap)
  (eH:H'=upd (upd (upd H1 ea (.ext (yoo C ea none))) ea (.ext (yoo C ea (some dN)))) dN (.ext (yh6 dN n))) (hdn:upd H1 ea (.ext (yoo C ea none)) dN=none) (ned:dN≠ea) (ff:s3.heap.FunFrames X.base X.stack) (thr:Thr X st cls (some n) H1):X.xe (.ref ea) s3:=by
 subst hx;have e1:H1 ea=none:=by
  cases q:H1 ea with
  |none=>rfl
  |some u=>obtain⟨v,e⟩:=zeu (I1.hok _ _ q);rw[hm.new]at e;cases e
 have d1:H1 dN=none:=by rw[yhv ned]at hdn;exact hdn
 have hea:H' ea=some (.ext (yoo C ea (some dN))):=by rw[eH,yhv (Ne.symm ned)];exact zre
 have hdN:H' dN=some (.ext (yh6 dN n)):=by rw[eH];exact zre
 have up:∀ b u,H1 b=some u->H' b=some u:=fun b u e=>by
  have nb:b≠ea:=fun z=>by rw[z,e1]at e;cases e
  have nd:b≠dN:=fun z=>by rw[z,d1]at e;cases e
  rw[eH,yhv nd,yhv nb,yhv nb];exact e
 have dn:∀ b u,H' b=some u->(∀ ψ,u≠.ext ψ)->H1 b=some u:=fun b u e ne=>by
  have nb:b≠ea:=fun z=>by rw[z,hea]at e;cases e;exact ne _ rfl
  have nd:b≠dN:=fun z=>by rw[z,hdN]at e;cases e;exact ne _ rfl
  rw[eH,yhv nd,yhv nb,yhv nb]at e;exact e
 have sne:∀ b o,s1.heap.get? b=some o->b≠ea:=fun b o e z=>by rw[z,hm.new]at e;cases e
 have h2n:∀ b,b≠ea->H1 b=none->upd H1 ea (.ext (yoo C ea none)) b=none:=fun b nb e=>by rw[yhv nb];exact e
 have un:Un (frs X.stack) [] H1 H1 s1.heap s3.heap:=⟨fun b o e ne hb _=>U.keep b o (hm.keeps b o e) (h2n b (sne b o e) ne) hb (by simp),fun b o e ne hb _=>U.slot b o (hm.keeps b o e) (h2n b (sne b o e) ne) hb (by simp),fun b o e ne _=>ne,fun b o e _=>U.there b o (hm.keeps b o e) (by simp),fun _ _ e=>e,fun _ _ _ e=>e,fun b ps e=>⟨#[],by rw[e];simp⟩⟩
 have hok1:HOk X.prog X.w H1 s3.heap:=fun b o e=>(hok3 b o (up b o e)).stay (fun c v _ q=>q) (fun c q=>dn c _ q fun _ z=>by cases z) fun c xs q=>dn c _ q fun _ z=>by cases z
 obtain⟨⟨oe,vs,a0,he,hc,hdd,hdt,hsz,h0,h1⟩,_,_⟩:=hok3 ea _ hea;obtain⟨⟨oD,hoD,es,ep,t,q1,q2,q3⟩,_,_⟩:=hok3 dN _ hdN;have nfr:∀ b u,H' b=some u->b ∉ frs X.stack:=fun b u e z=>by
  obtain⟨o,ho,_,hn1⟩:=zfw I1 b z;have nb:=sne b o ho;have:=U.free b o (hm.keeps b o ho) (h2n b nb hn1) (by simp);rw[this]at e;cases e
 have new_d:s1.heap.get? dN=none:=by
  cases q:s1.heap.get? dN with
  |none=>rfl
  |some u=>have:=U.free dN u (hm.keeps _ _ q) hdn (by simp);rw[hdN]at this;cases this
 have hid:∀ b o,s3.heap.get? b=some o->b ∉ frs X.stack->b≠ea->(W.hideAll s3.heap (frs X.stack++[ea])).get? b=some o:=fun b o e nf nb=>W.hideAll_get _ e (by simp only[List.mem_append,List.mem_singleton,not_or];exact⟨nf,nb⟩);refine thr.fly pins H1 s1 (.ref ea) s3 I1 ⟨⟨ea,a0,W.hideAll s3.heap (frs X.stack++[ea]),rfl,⟨fun b o q=>W.of_hideAll _ q,W.hideAll_none _ (by simp),W.funFrames_hide ff (fun env he a ha=>List.mem_append_left _ (List.mem_filterMap.mpr ⟨env,he,ha⟩)),.inr ⟨oe,vs,he,hc,hdt,hsz,h0,h1⟩⟩,e1,hm.new,fun b o e=>?_,fun b o e ne hb=>?_,fun b o e hb=>?_,fun m q=>?_⟩,os3,b3,un,hok1⟩
 ·obtain⟨u,q⟩:=zeu (hok1 b o e);exact⟨u,hid b u q (nfr b o (up b o e)) fun z=>by rw[z,e1]at e;cases e⟩
 ·exact hid b o (un.keep b o e ne hb (by simp)) hb (sne b o e)
 ·obtain⟨o',q⟩:=un.there b o e (by simp);exact⟨o',hid b o' q hb (sne b o e)⟩
 ·cases q;exact⟨dN,oD,oe,he,hdd,hid dN oD hoD (nfr dN _ hdN) ned,⟨es,ep,t,q1,q2,q3⟩,d1,new_d⟩
theorem ziu(c:Nat){k:Nat}{fI:Addr}{x:Str}{ps:List Str}{B newId initId:String}{bmB:List Value}{np cpos pos:Pos}{e:Expr}{f:Ev->M D}(FB:ExcBaseFacts B newId initId bmB)(hK:T.K=X.K)(hq:yja X.K (T.ca c) bmB newId fI=true)(hkp:W.keepIn X.K (.ref (T.ca c))=true)
  (hm:X.mg x=some (.ref (T.ca c))) (hO:OkI X.K X.prog X.w X.mg X.base k (T.ca c) fI ps) (hps:ps.length=2) (hca:∀ n,n<10->T.ca (c+100 * (n+1))=T.ca c) (hc9:c<100) (hr:Room (k+1) X.A) (hg:Gl X x) (hc:X.calm=true) (he:FE T X e f)
  (hdb:(x == ("__debug__" : Str))=false:=by decide) (hst:starEach [e] X.env=(false,eval e X.env)::starEach [] X.env:=by rfl) (hpl:(backTo cpos (starEach [] X.env)).any (·.1)=false:=by rfl) :
  FS T X (.Raise (some (.Call (.Name x np) [e] [] cpos)) none pos) (zx9 c f):=by
 intro pins s st H D I hw;obtain⟨μ,ρ,σ,hE,hr',hp⟩:=hw;obtain⟨fd,hbd,hF,oI,lkI,hfc⟩:=hO;have step:=he pins s st H (fun v H1=>∃ n:Nat,n<10/\v=.int n/\Thr X st (.ref (T.ca c)) (some n) H1) I ⟨μ,ρ,σ,hE,hr',hp.xs hE fun d σ1 μ1 v H1 _ e1 r1 q1 p1=>by
  unfold zxx at p1;cases d with
  |int i=>
   dsimp only at p1;by_cases hi:0<=i/\i<10
   ·rw[if_pos hi]at p1;obtain⟨n,rfl⟩:=Int.eq_ofNat_of_zero_le hi.1;have hn:n<10:=by omega
    refine⟨n,hn,ydl q1,?_⟩;have z:=yol.here (g:=Gl2.xc st (.ref (T.ca c)) (some n)) p1 r1 ⟨hE.mono e1,?_,?_⟩
    ·exact z
    ·show Value.ref (T.ca c)=Value.ref (T.ca (c+100 * ((n:Int).toNat+1)));rw[Int.toNat_natCast,hca n hn]
    ·show some n=fdN (c+100 * ((n:Int).toNat+1));rw[Int.toNat_natCast,ybx hc9]
   ·rw[if_neg hi]at p1;exact p1.elim
  |_=>exact p1.elim⟩
 rw[arm_exec_Raise];refine wpAny_bind (wpAny_standAt (zj9 (C:=T.ca c) (newId:=newId) (I.ok.hd hc) ?_));show wpAny _ _ (eval (.Call (.Name x np) [e] [] cpos) X.env >>= fun v=>standAt pos >>= fun _=>pure v) _ _ s;refine wpAny_bind (wpAny_Call_Name_kw (zvi I hg hm ?_ hdb));refine W.callWith_K (h₀:=X.base) I.ok.mod.kin hkp ?_ hst hpl;rw[hst];show wpAny _ _ (spliced [(false,eval e X.env)]) _ _ s;refine Calls.spliced_cons (thn step fun u s1 ⟨v,H1,I1,rv,n,hn,ev,thr⟩=>wpAny_pure ⟨I1.kIn,?_⟩);subst ev;obtain⟨t,rfl⟩:=rv;obtain⟨bm,N,nm,qn,bs,sn,sub,ab,col,dd,k0,k1,k2,k3,k5,mN,hC,hNs,hni,tl⟩:=zmd I1.kIn hq;obtain⟨hh1,g1,d1,t1,os1⟩:=s1;refine zlk FB tl hC hNs hni (I1.kIn _ _ lkI) hfc (show (1:Nat)<=sizeLine by decide) fun h' ea hmade=>?_;obtain⟨t0,hex,_,_⟩:=hmade.there;have e1:H1 ea=none:=by
  cases q:H1 ea with
  |none=>rfl
  |some u=>obtain⟨v,e⟩:=zeu (I1.hok _ _ q);exact absurd (hmade.new.symm.trans e) (by simp)
 have I2:Inv X pins st (upd H1 ea (.ext (yoo (T.ca c) ea none))) ⟨h',g1,d1,t1,os1⟩:=zrb (I1.kept (t':=t1) hmade.keeps) I1 hmade.new e1 hex ⟨_,_,.ref t0,hex,rfl,rfl,rfl,by simp,rfl,rfl⟩ zp1;have hsp:spI (T.ca c) [.ref ea,.int n] (upd H1 ea (.ext (yoo (T.ca c) ea none))) (fun v H'=>v=.non/\∃ dN,upd H1 ea (.ext (yoo (T.ca c) ea none)) dN=none/\dN≠ea/\H'=upd (upd (upd H1 ea (.ext (yoo (T.ca c) ea none))) ea (.ext (yoo (T.ca c) ea (some dN)))) dN (.ext (yh6 dN n))) (fun _ _ _=>False):=
  ⟨ea,n,rfl,hn,zre,fun dN h1 h2=>⟨rfl,dN,h1,h2,rfl⟩⟩
 refine wpAny_call (codeAny_mono (hF.run _ X.stack _ _ ⟨[.ref ea,.int n t],[]⟩ [.ref ea,.int n t] [.ref ea,.int n] _ _ (hr.make (T.ca c) [.int n t] []) (I2.env0.make (T.ca c) [.int n t] []) (.of_eq (hbd _ (by rw[hps];rfl))) (.cons rfl (.cons ⟨_,rfl⟩ .nil)) hsp) fun r s3 hq'=>?_);cases r with
 |error er=>obtain⟨_,_,_,_,z⟩:=hq';exact z.elim
 |ok fl=>
  cases fl with
  |ret u=>
   have I3:=(I2.after hq')
   obtain⟨v3,H3,os3,b3,U,hok3,rv3,ev3,dN,z1,z2,eH⟩:=hq';obtain⟨_,_,J3,_⟩:=I3;subst ev3;cases (show u=Value.none from rv3);have hea:H3 ea=some (.ext (yoo (T.ca c) ea (some dN))):=by rw[eH,yhv (Ne.symm z2)];exact zre
   obtain⟨⟨oe,vs,a0,he3,hc3,hdd,hdt,hsz,h0,h1⟩,_,_⟩:=hok3 ea _ hea;obtain⟨bm',N',nm',qn',bs',sn',sub',ab',col',dd',k0',k1',k2',k3',k5',mN',hC',_,_,tl'⟩:=zmd J3.kIn hq;refine⟨rfl,wpAny_bind (wpAny_standAt (wpAny_pure ⟨ea,nm',qn',N',bs',bm',true,sn',sub',ab',col',dd',k0',k1',k2',k3',k5',oe,vs,rfl,tl'.hasType FB.hasBase,hC',he3,hc3,hdt,h1,?_⟩))⟩;exact zww (hx:=rfl) I1 hmade os3 b3 U hok3 eH z1 z2 J3.stack thr
  |next=>exact False.elim hq'
  |brk=>exact False.elim hq'
  |cont=>exact False.elim hq'
end
end L4
namespace L4
open PySem PySem.Spec PySem.Calls PyProof.Rows PySem.Builtin PySem.Builtin.ObjectAttr L2
section
variable{prog:Program}{w:World}{A:Around}{E:Value->Shared->Prop}{s:Shared}{K:W.Frag}{C ea dN:Addr}{hp:Heap}{n:Nat}{Mo:Model}
theorem zsm(Z:ExK K C)(X:K.In hp):∃ (o:Obj) (cd:ClassData),hp.get? C=some o/\o.data=.cls cd/\cd.hasDict=true:=by
 obtain⟨cd,hcd,hd⟩:=W.any_some Z.d;unfold W.clsIn at hcd;split at hcd
 ·rename_i ho
  cases hcd;exact⟨_,_,X _ _ ho,rfl,hd⟩
 ·cases hcd
theorem yfz(p:yh6 dN n hp):∃ m t,hp.Ns dN m/\m "pot" = some (.int n t):=by
 obtain⟨o,ho,es,ep,t,h1,h2,h3⟩:=p;exact⟨fun x=>nsFind es x,t,⟨o,es,ep,ho,h1,h2,fun _=>rfl⟩,h3⟩
theorem zpq{Q:Found->Shared->Prop}(Z:ExK K C)(hna:W.findIn K (.ref C) "pot" = some none)(X:K.In s.heap)(p:yaa C (some dN) ea s.heap)(p2:yh6 dN n s.heap)(h:∀ t,Q (.value (.int n t)) s):wpAny (model prog w) A (find (.ref ea) (.ref C) "pot") Q E s:=by
 obtain⟨hh,gl,dr,tt,os⟩:=s;have l2:=W.looks_findIn (M:=model prog w) X hna;obtain⟨oC,cd,hC,hcd,hdi⟩:=zsm Z X;obtain⟨o,ho,hc,hd⟩:=p;obtain⟨hd1,vs,hd2⟩:=hd _ rfl;obtain⟨m,t,hns,hm⟩:=yfz p2;unfold find;refine wpAny_bind (l2.at ?_);unfold getOf dataDescriptor? ownThenClass inOwnDict ownDict instanceDict;repeat (any_goals (first|(with_reducible refine wpAny_loadPart_at ho ?_)|(with_reducible refine wpAny_loadPart_at hC ?_)|(with_reducible refine wpAny_nsGet hns ?_;rw[hm])|wp_step))
 obtain⟨oc,od,odt,osl⟩:=o;dsimp only at hc hd1 hd2;subst hc;subst hd1;subst hd2;obtain⟨cc,c2,cdt,csl⟩:=oC;dsimp only at hcd;subst hcd;dsimp only;unfold classData;repeat (any_goals (first|(with_reducible refine wpAny_loadPart_at ho ?_)|(with_reducible refine wpAny_loadPart_at hC ?_)|(with_reducible refine wpAny_nsGet hns ?_;rw[hm])|wp_step))
 exact h t
theorem zxh{expr:Bool}{Q:Value->Shared->Prop}(Z:ExK K C)(hna:W.findIn K (.ref C) "pot" = some none)(X:K.In s.heap)(p:yaa C (some dN) ea s.heap)(p2:yh6 dN n s.heap)(h:∀ t,Q (.int n t) { s with toks:=s.toks+1 }):wpAny (model prog w) A (getAttr (.ref ea) "pot" expr) Q E s:=by
 obtain⟨hh,gl,dr,tt,os⟩:=s;have l0:=ybv (Mo:=model prog w) p.plain;have l1:=W.looks_findIn (M:=model prog w) X Z.g;have l2:=W.looks_findIn (M:=model prog w) X Z.g2;have l4:=W.looks_mroIn (M:=model prog w) X Z.mb;have f3:=PySem.F.excAttr_ValueError.ga.bind (.ref ea);have hx0:(expr && onTheHeap (Value.builtin "BaseException.__getattribute__"))=false:=by cases expr<;>rfl
 unfold getAttr getAttrBy;refine wpAny_bind (wpAny_mkText (wpAny_holding (wpAny_bind (l0.at (wpAny_bind (l1.at ?_))))));show wpAny _ _ (getAttrByItsOwn _ _ _ _ _ _) _ _ _;unfold getAttrByItsOwn hookBefore callGetattribute;rw[hx0];repeat (any_goals (first|assumption|(with_reducible refine W.Looks.at (by assumption) ?_)|wp_step))
 refine codeAny_call_builtin PySem.F.excAttr_ValueError.ga.plain PySem.F.entry_bexc_ga ?_;have hknd:builtinKind "BaseException.__getattribute__" = some .slot:=by decide +kernel
 have hsp:splitId "BaseException.__getattribute__" = some ("BaseException", "__getattribute__"):=by decide +kernel
 have ha:=PySem.F.args_bexc_ga (.ref ea) (.str "pot" tt);simp only[List.cons_append,List.nil_append,checkBuiltinCall,hknd,hsp];refine wpAny_bind ?_;unfold isInstance;repeat (any_goals (first|assumption|(with_reducible refine W.Looks.at (by assumption) ?_)|(with_reducible refine zpq Z hna X p p2 fun t=>?_)|wp_step))
 exact h t
end
def yls(cs:List Nat)(x:D):M D:=fun σ=>match x with
 | .exn c=>(match cs.contains c,fdN c with
  |true,some n=>.ok (.int n) σ
  |_,_=>.bad)
 |_=>.bad
def yon(T:Tb)(cs:List Nat):Prop:=∀ c,cs.contains c=true->ExK T.K (T.ca c)/\W.findIn T.K (.ref (T.ca c)) "pot" = some none
theorem ygb{T:Tb}:yon T []:=fun c h=>by simp at h
theorem zxt{T:Tb}{c:Nat}{cs:List Nat}(h1:ExK T.K (T.ca c))(h2:W.findIn T.K (.ref (T.ca c)) "pot" = some none)(h:yon T cs):yon T (c::cs):=fun d hd=>by
 rw[List.contains_cons,Bool.or_eq_true,beq_iff_eq]at hd;rcases hd with rfl|hd
 ·exact⟨h1,h2⟩
 ·exact h d hd
section
variable{T:Tb}{X:Cx}
theorem zti{e:Expr}{g:Ev->M D}{pos:Pos}{cs:List Nat}(hK:T.K=X.K)(hc:yon T cs)(he:FE T X e g)
  (hb:attributeBase e "pot" X.env (eval e X.env)=eval e X.env:=by rfl):FE T X (.Attribute e "pot" pos) (eUn (yls cs) g):=by
 intro pins s st H Q I h;obtain⟨μ,ρ,σ,hE,hr,hp⟩:=h;refine zr1 hb (thn (he pins s st H (fun v H1=>∃ (a dN:Addr) (c n:Nat),v=.ref a/\cs.contains c=true/\H1 a=some (.ext (yaa (T.ca c) (some dN) a))/\H1 dN=some (.ext (yh6 dN n))/\Q (.int n) H1) I ⟨μ,ρ,σ,hE,hr,hp.bind fun x σ1 μ1 v H1 _ e1 r1 p1 q1=>?_⟩) fun u s1 ⟨v,H1,I1,rv,a,dN,c,n,ev,hcc,h1,h2,q⟩=>?_)
 ·unfold yls at q1;cases x with
  |exn c=>
   dsimp only at q1;cases hcc:cs.contains c with
   |false=>rw[hcc]at q1;exact q1.elim
   |true=>
    cases hf:fdN c with
    |none=>rw[hcc,hf]at q1;exact q1.elim
    |some n=>
     rw[hcc,hf]at q1;rw[Rep]at p1;obtain⟨a,dd,rfl,_,h2,h3⟩:=p1;obtain⟨dN,rfl,_,h4⟩:=h3 n hf;exact⟨a,dN,c,n,rfl,hcc,h2,h4,yol.here q1 r1 (by rw[Rep])⟩
  |_=>exact q1.elim
 ·subst ev;obtain rfl:u=Value.ref a:=rv;obtain⟨k1,k2⟩:=hc c hcc;rw[hK]at k1 k2;exact zxh k1 k2 I1.kIn (I1.hok a _ h1).1 (I1.hok dN _ h2).1 fun t=>⟨.int n,H1,I1.tok _,⟨t,rfl⟩,q⟩
end
theorem yc8{ca:Nat->Addr}(h:∀ c,c<100->∀ n,n<10->ca (c+100 * (n+1))=ca c)(c n:Nat)(hc:c<100)(hn:n<10):ca (c+100 * (n+1))=ca c:=h c hc n hn
theorem zls(l:List Addr)(c n:Nat)(h:c<100):l.getD ((c+100 * (n+1)) % 100) 0=l.getD (c % 100) 0:=by
 congr 1;omega
theorem zuw:∀ n:Nat,n<10->(Str.empty++("pot " : Str)).length<=sizeLine/\(Str.empty++("pot " : Str)++Str.ofString (toString (n:Int))).length<=sizeLine/\(Str.empty++("pot " : Str)++Str.ofString (toString (n:Int))++(" is none" : Str)).length<=sizeLine:=by
 decide +kernel
section
variable{ρ:Ev}{σ:Sto}
theorem zo9{cs:List Nat}{c n:Nat}(h:cs.contains c=true)(h2:fdN c=some n):yls cs (.exn c) σ=.ok (.int n) σ:=by unfold yls;dsimp only;rw[h,h2]
theorem zgt{c n:Nat}(h:n<10):zxx c ρ (.int n) σ=.ok (.xc ρ ⟨c+100 * (n+1)⟩) σ:=by
 unfold zxx;dsimp only;rw[if_pos ⟨by omega,by omega⟩,Int.toNat_natCast];rfl
end
end L4
namespace HT
open PySem Builtin
open Sem (wp)
end HT
namespace L4
open PySem PySem.Spec PyProof.Rows L2
theorem znq{K:W.Frag}{ca:Nat->Addr}{cv:Value}{c cd:Nat}{b:Bool}{l:List (Nat × Bool)}(e:ca cd=ca c)(h:W.exmOne K (.ref (ca c)) cv=some b)(r:yod K ca cv l):yod K ca cv ((cd,b)::l):=zuv (by rw[e];exact h) r
theorem znx{K:W.Frag}{ca:Nat->Addr}{cv:Value}{c cd:Nat}{b:Bool}{l:List (Nat × Bool)}(e:ca cd=ca c)(z:ExK K (ca c))(h:W.kitOne K (.ref (ca c)) cv=some b)(r:yof K ca cv l):yof K ca cv ((cd,b)::l):=zu4 (by rw[e];exact z) (by rw[e];exact h) r
theorem zpx{T:Tb}{c cd:Nat}{cs:List Nat}(e:T.ca cd=T.ca c)(h1:ExK T.K (T.ca c))(h2:W.findIn T.K (.ref (T.ca c)) "pot" = some none)(h:yon T cs):yon T (cd::cs):=zxt (by rw[e];exact h1) (by rw[e];exact h2) h
end L4
namespace L4
open PySem
def Ris(xs:Array Nat):Prop:=∀ i k:Nat,∀ a b:Nat,i<k->xs[i]?=some a->xs[k]?=some b->a<b
def Cut(xs:Array Nat)(j p:Nat):Prop:=p<=xs.size/\(∀ i a:Nat,i<p->xs[i]?=some a->a<j)/\∀ i a:Nat,p<=i->xs[i]?=some a->j<=a
theorem zlf{xs:Array Nat}(hr:Ris xs)(j:Nat):∀ (fuel lo hi:Nat),hi - lo<=fuel->lo<=hi->hi<=xs.size->(∀ i a:Nat,i<lo->xs[i]?=some a->a<j)->(∀ i a:Nat,hi<=i->xs[i]?=some a->j<=a)->Cut xs j (SetTable.below.go xs j fuel lo hi):=by
 intro fuel;induction fuel with
 |zero=>
  intro lo hi h1 h2 h3 h4 h5;have e:lo=hi:=by omega
  subst e;exact⟨h3,h4,h5⟩
 |succ f ih=>
  intro lo hi h1 h2 h3 h4 h5;unfold SetTable.below.go;by_cases hl:lo<hi
  ·rw[if_pos hl];dsimp only;have hm:(lo+hi) / 2<hi:=by omega
   have hm2:lo<=(lo+hi) / 2:=by omega
   have hs:(lo+hi) / 2<xs.size:=by omega
   have eg:xs[(lo+hi) / 2]?=some xs[(lo+hi) / 2]:=Array.getElem?_eq_getElem hs;have ed:xs.getD ((lo+hi) / 2) j=xs[(lo+hi) / 2]:=by simp[Array.getD,hs]
   rw[ed];by_cases hc:xs[(lo+hi) / 2]<j
   ·rw[if_pos hc];refine ih _ _ (by omega) (by omega) h3 (fun i a hi' ea=>?_) h5;by_cases e:i=(lo+hi) / 2
    ·subst e;rw[eg]at ea;cases ea;exact hc
    ·have:=hr i ((lo+hi) / 2) a _ (by omega) ea eg;omega
   ·rw[if_neg hc];refine ih _ _ (by omega) (by omega) (by omega) h4 (fun i a hi' ea=>?_);by_cases e:i=(lo+hi) / 2
    ·subst e;rw[eg]at ea;cases ea;omega
    ·have:=hr ((lo+hi) / 2) i _ a (by omega) eg ea;omega
  ·rw[if_neg hl];have e:lo=hi:=by omega
   subst e;exact⟨h3,h4,h5⟩
theorem zhm{xs:Array Nat}(hr:Ris xs)(j:Nat):Cut xs j (SetTable.below xs j):=by
 unfold SetTable.below;exact zlf hr j _ _ _ (by omega) (by omega) (Nat.le_refl _) (fun i a h=>by omega) (fun i a h ea=>by
  have:=(Array.getElem?_eq_some_iff.mp ea).1;omega)
theorem zsn{xs:Array Nat}{j p q:Nat}(h1:Cut xs j p)(h2:Cut xs j q):p=q:=by
 rcases Nat.lt_trichotomy p q with h|h|h
 ·have hp:p<xs.size:=Nat.lt_of_lt_of_le h h2.1;have e:xs[p]?=some xs[p]:=Array.getElem?_eq_getElem hp;have a1:=h2.2.1 p _ h e;have a2:=h1.2.2 p _ (Nat.le_refl _) e;omega
 ·exact h
 ·have hq:q<xs.size:=Nat.lt_of_lt_of_le h h1.1;have e:xs[q]?=some xs[q]:=Array.getElem?_eq_getElem hq;have a1:=h1.2.1 q _ h e;have a2:=h2.2.2 q _ (Nat.le_refl _) e;omega
theorem zdl{xs:Array Nat}{p x:Nat}(hp:p<=xs.size)(i:Nat):(SetTable.insertAt xs p x)[i]?=if i<p then xs[i]? else if i=p then some x else xs[i - 1]?:=by
 unfold SetTable.insertAt;have s1:(xs.extract 0 p).size=p:=by simp;omega
 rw[Array.getElem?_append,Array.size_push,s1];by_cases h1:i<p
 ·rw[if_pos (by omega),if_pos h1,Array.getElem?_push,if_neg (by rw[s1];omega),Array.getElem?_extract];simp;omega
 ·rw[if_neg h1];by_cases h2:i=p
  ·subst h2;rw[if_pos (by omega),if_pos rfl,Array.getElem?_push,if_pos (by rw[s1])]
  ·rw[if_neg (by omega),if_neg h2,Array.getElem?_extract];by_cases h3:i - 1<xs.size
   ·rw[if_pos (by omega)];congr 1;omega
   ·rw[if_neg (by omega),Array.getElem?_eq_none (by omega)]
theorem zgy{xs:Array Nat}{p x:Nat}(hr:Ris xs)(hc:Cut xs x p)(hn:¬ xs[p]?=some x):Ris (SetTable.insertAt xs p x):=by
 have ge:∀ i a:Nat,p<=i->xs[i]?=some a->x<a:=fun i a hi ea=>by
  have h1:=hc.2.2 i a hi ea;rcases Nat.lt_or_ge x a with h|h
  ·exact h
  ·have e:a=x:=by omega
   subst e;by_cases hip:i=p
   ·subst hip;exact absurd ea hn
   ·have hl:=(Array.getElem?_eq_some_iff.mp ea).1;have hp:p<xs.size:=by omega
    have e2:xs[p]?=some xs[p]:=Array.getElem?_eq_getElem hp;have:=hr p i _ _ (by omega) e2 ea;have:=hc.2.2 p _ (Nat.le_refl _) e2;omega
 intro i k a b hik ea eb;rw[zdl hc.1]at ea eb;by_cases h1:i<p
 ·rw[if_pos h1]at ea;by_cases h2:k<p
  ·rw[if_pos h2]at eb;exact hr i k a b hik ea eb
  ·rw[if_neg h2]at eb;by_cases h3:k=p
   ·rw[if_pos h3]at eb;cases eb;exact hc.2.1 i a h1 ea
   ·rw[if_neg h3]at eb;exact hr i (k - 1) a b (by omega) ea eb
 ·rw[if_neg h1]at ea;have h2:¬ k<p:=by omega
  rw[if_neg h2,if_neg (by omega)]at eb;by_cases h3:i=p
  ·rw[if_pos h3]at ea;cases ea;exact ge (k - 1) b (by omega) eb
  ·rw[if_neg h3]at ea;exact hr (i - 1) (k - 1) a b (by omega) ea eb
structure TOk(b:Bool)(t:SetTable):Prop where
 led:t.led = !b
 ris:Ris t.place
 dum:t.dummies=#[]
theorem zup(j:Nat):SetTable.has #[] j=false:=by
 unfold SetTable.has;simp
theorem zy2{b:Bool}{t:SetTable}(h:TOk b t)(j:Nat):t.slot j=.empty/\¬ t.place[SetTable.below t.place j]?=some j\/∃ i,t.slot j=.live i:=by
 unfold SetTable.slot;dsimp only;by_cases e:(t.place[SetTable.below t.place j]? == some j)=true
 ·rw[if_pos e];exact .inr ⟨_,rfl⟩
 ·rw[if_neg e,h.dum,zup];exact .inl ⟨rfl,by simpa using e⟩
theorem zpt{b:Bool}{t:SetTable}(h:TOk b t)(ha:Nat->Int)(hh:Int):∀ (fuel:Nat) (p:SetTable.Probe) (m:SetTable.Met),p.dummy=none->SetTable.probe.go t ha hh fuel p=some m->(∃ j,m=.empty j none/\¬ t.place[SetTable.below t.place j]?=some j)\/∃ j i nx,m=.candidate j i nx:=by
 intro fuel;induction fuel with
 |zero=>intro p m _ e;unfold SetTable.probe.go at e;cases e
 |succ f ih=>
  intro p m hd e;unfold SetTable.probe.go at e;rcases zy2 h p.j with⟨es,hn⟩|⟨i,es⟩
  ·rw[es]at e;dsimp only at e;cases e;rw[hd];exact .inl ⟨_,rfl,hn⟩
  ·rw[es]at e;dsimp only at e;by_cases hc:(ha i == hh)=true
   ·rw[if_pos hc]at e;cases e;exact .inr ⟨_,_,_,rfl⟩
   ·rw[if_neg hc]at e;refine ih _ m ?_ e;unfold SetTable.advance;split
    ·exact hd
    ·exact hd
theorem zis{b:Bool}{t:SetTable}(h:TOk b t){hh:Int}{j:Nat}{wd:Bool}(e:t.freeSlot hh=some (j,wd)):¬ t.place[SetTable.below t.place j]?=some j:=by
 unfold SetTable.freeSlot SetTable.probe at e;cases ep:SetTable.probe.go t (fun _=>hh+1) hh (10 * SetTable.turns t.mask) (t.probeStart hh)with
 |none=>rw[ep]at e;cases e
 |some m=>
  rw[ep]at e;rcases zpt h _ _ _ _ m rfl ep with⟨j',rfl,hn⟩|⟨j',i,nx,rfl⟩
  ·cases e;exact hn
  ·cases e
theorem TOk.put{b:Bool}{t:SetTable}(h:TOk b t){j:Nat}(hn:¬ t.place[SetTable.below t.place j]?=some j):TOk b (t.put j).1:=by
 unfold SetTable.put;dsimp only;refine⟨h.led,zgy h.ris (zhm h.ris j) hn,?_⟩;rw[h.dum,zup];rfl
theorem TOk.plain{b p:Bool}{t:SetTable}(h:TOk b t):TOk b { t with plain:=p }:=⟨h.led,h.ris,h.dum⟩
theorem zkd(n:Nat):Ris (Array.range n):=by
 intro i k a c hik ea ec;have l1:=(Array.getElem?_eq_some_iff.mp ea).1;have l2:=(Array.getElem?_eq_some_iff.mp ec).1;simp only[Array.size_range]at l1 l2;simp[l1]at ea;simp[l2]at ec;omega
theorem TOk.stand{b:Bool}{t:SetTable}(h:TOk b t)(n:Nat):TOk b (t.standIn n):=⟨h.led,zkd n,rfl⟩
theorem TOk.or{b:Bool}{t:SetTable}(h:TOk b t)(n:Nat):TOk b (t.orStandIn n):=by
 unfold SetTable.orStandIn;split
 ·exact h
 ·exact h.stand n
theorem TOk.lay{b:Bool}{t:SetTable}(h:TOk b t)(es:Array (Int × Value))(hh:Int)(x:Value):TOk b (layNew t es hh x).2.1:=by
 unfold layNew;cases e:t.freeSlot hh with
 |none=>exact h.stand _
 |some q=>
  obtain⟨j,wd⟩:=q;dsimp only;exact(h.put (zis h e)).or _
theorem zqb(m:Nat)(f:Nat->Option Nat):Ris ((((List.range m).filterMap fun j=>(f j).map (j,·)).map (·.1)).toArray):=by
 have hp:List.Pairwise (·<·) (((List.range m).filterMap fun j=>(f j).map (j,·)).map (·.1)):=by
  have h1:List.Pairwise (·<·) (List.range m):=List.pairwise_lt_range;have e:((List.range m).filterMap fun j=>(f j).map (j,·)).map (·.1)=(List.range m).filter fun j=>(f j).isSome:=by
   rw[List.map_filterMap];rw[<-List.filterMap_eq_filter];congr 1;funext j;cases hf:f j<;>simp[Option.guard,hf]
  rw[e];exact h1.sublist List.filter_sublist
 intro i k a c hik ea ec;rw[List.getElem?_toArray]at ea ec;obtain⟨l1,e1⟩:=List.getElem?_eq_some_iff.mp ea;obtain⟨l2,e2⟩:=List.getElem?_eq_some_iff.mp ec;rw[<-e1,<-e2];exact List.pairwise_iff_getElem.mp hp i k l1 l2 hik
theorem TOk.relay{b:Bool}{t:SetTable}(h:TOk b t)(es:Array (Int × Value))(wt:Nat):TOk b (relayAll t es wt).2.1:=by
 unfold relayAll;cases e:t.relaid (es.map (·.1)) wt with
 |none=>exact h.stand _
 |some q=>
  obtain⟨t',ord⟩:=q;dsimp only;split
  ·unfold SetTable.relaid SetTable.laid at e;cases eo:SetTable.layClean (SetTable.sizeAbove wt - 1) (es.map (·.1))with
   |none=>rw[eo]at e;cases e
   |some ow=>
    rw[eo]at e;cases e;exact⟨h.led,zqb _ _,rfl⟩
  ·exact h.stand _
theorem TOk.fresh(b:Bool):TOk b (SetTable.fresh 0 0 (!b)):=⟨rfl,fun i k a c _ ea _=>by simp[SetTable.fresh]at ea,rfl⟩
end L4
namespace L4
open PySem PySem.Spec PyProof.Rows
section
variable{prog:Program}{w:World}{K:Type}[DecidableEq K][BEq K][LawfulBEq K]{knd:KeyKind prog w K}{A:Around}{E:Value->Shared->Prop}{s:Shared}{b:Bool}{a:Addr}{k:K}{x:Value}
def yov(knd:KeyKind prog w K)(b:Bool)(h:Heap)(a:Addr)(S:K->Bool)(n:Nat):Prop:=
 ∃ o es ep t,h.get? a=some o/\o.ExactSet/\o.data=.set es ep t/\ElemsOf knd es.toList/\(∀ k,S k=true ↔ ∃ e∈es.toList,knd.is k e.2=true)/\es.size<scanBound/\t.fits es.size=true/\es.size=n/\TOk b t
theorem yg0{h:Heap}{o:Obj}{es es':Array (Int × Value)}{ep:Nat}{t t':SetTable}{S':K->Bool}(h1:h.get? a=some o)(h2:o.ExactSet)(h3:o.data=.set es ep t)(h4:ElemsOf knd es'.toList)
  (h5:∀ k,S' k=true ↔ ∃ e∈es'.toList,knd.is k e.2=true) (h6:es'.size<scanBound) (h7:t'.fits es'.size=true) (h8:TOk b t') :
  (h.update a (Obj.putSet es' t')).get? a=some { o with data:=.set es' (ep+1) t' }/\yov knd b (h.update a (Obj.putSet es' t')) a S' es'.size:=by
 obtain⟨g,_⟩:=SetOf_store (knd:=knd) h1 h2 h3 h4 h5 h6 h7;exact⟨g,_,es',ep+1,t',g,h2,rfl,h4,h5,h6,h7,rfl,h8⟩
theorem zrr{g:Bool->Sem Unit}(hg:∀ (c:Bool) (s1:Shared) (Q':Unit->Shared->Prop),Q' () s1->wpAny (model prog w) A (g c) Q' E s1){o:Obj}{es es1:Array (Int × Value)}{ep:Nat}{t t2:SetTable}{S':K->Bool}{wd:Bool}{R:Option Bool->Shared->Prop}
  (h1:s.heap.get? a=some o) (h2:o.ExactSet) (h3:o.data=.set es ep t) (h4:ElemsOf knd es1.toList) (h5:∀ k',S' k'=true ↔ ∃ e∈es1.toList,knd.is k' e.2=true) (h6:es1.size<scanBound) (h7:t2.fits es1.size=true) (h8:TOk b t2)
  (q:∀ h',Heap.SameBut a s.heap h'->yov knd b h' a S' es1.size->R (some true) { s with heap:=h' }) :
  wpAny (model prog w) A (do
    storeSet a es1 t2
    if (!wd && t2.tooFull)=true then do
      g (relayAll t2 es1 (SetTable.grown es1.size)).2.2
      storeSet a (relayAll t2 es1 (SetTable.grown es1.size)).1 (relayAll t2 es1 (SetTable.grown es1.size)).2.1
      pure (some true)
     else pure (some true)) R E s:=by
 refine wpAny_bind (wpAny_storeSet_of h1 h3 ?_ (fits_of_scanBound h6));obtain⟨g1,T1⟩:=yg0 (knd:=knd) h1 h2 h3 h4 h5 h6 h7 h8;have same:=Heap.SameBut.update s.heap a (Obj.putSet es1 t2);split
 ·have p1:=relayAll_perm t2 es1 (SetTable.grown es1.size);have p2:=relayAll_fits t2 es1 (SetTable.grown es1.size);have p3:=h8.relay es1 (SetTable.grown es1.size);generalize relayAll t2 es1 (SetTable.grown es1.size)=Z at p1 p2 p3 ⊢;obtain⟨es2,t3,gv⟩:=Z;dsimp only at p1 p2 p3 ⊢;have z:es2.size=es1.size:=by rw[<-Array.length_toList,p1.length_eq,Array.length_toList]
  refine wpAny_bind (hg _ _ _ (wpAny_bind (wpAny_storeSet_of g1 rfl ?_ (fits_of_scanBound (by rw[z];exact h6)))));obtain⟨_,T2⟩:=yg0 (knd:=knd) (S':=S') g1 h2 rfl (h4.perm p1) (fun k'=>(h5 k').trans ⟨fun⟨e,he,y⟩=>⟨e,p1.mem_iff.mpr he,y⟩,fun⟨e,he,y⟩=>⟨e,p1.mem_iff.mp he,y⟩⟩) (by rw[z];exact h6) p2 p3;rw[z]at T2;exact wpAny_pure (q _ (same.trans (Heap.SameBut.update _ a _)) T2)
 ·exact wpAny_pure (q _ same T1)
theorem yif{S:K->Bool}{n:Nat}{Q:Bool->Shared->Prop}(hk:knd.is k x=true)(hx:x.scannable=true)(hS:yov knd b s.heap a S n)(hn:n+1<scanBound)
  (q:∀ h',Heap.SameBut a s.heap h'->yov knd b h' a (fun k'=>S k' || decide (k'=k)) (if S k then n else n+1)->Q (!S k) { s with heap:=h' }):wpAny (model prog w) A (setAddHashed a x (knd.hash k)) Q E s:=by
 obtain⟨o,es,ep,t,h1,h2,h3,h4,h5,h6,h7,h8,h9⟩:=hS;unfold setAddHashed setAddHashedIn;refine wpAny_holding (wpAny_bind (wpAny_setState_of h1 h3 h7 ?_));dsimp only;rw[byScan_of hx h6 h4];simp only[↓reduceIte];unfold setAddByScan;refine wpAny_bind (wpAny_bind (wpAny_rule (wpAny_bind (wpAny_setScan_of hk h1 h3 h7 h4 ?_))));cases hr:List.findIdx? (fun e=>knd.is k e.2) es.toList with
 |some j=>
  dsimp only;obtain⟨hj,pj,_⟩:=List.findIdx?_eq_some_iff_getElem.mp hr;have sk:S k=true:=(h5 k).mpr ⟨es.toList[j],List.getElem_mem hj,pj⟩;refine wpAny_pure (wpAny_pure ?_);have z:=q s.heap (Heap.SameBut.refl a s.heap) ⟨o,es,ep,t,h1,h2,h3,h4,fun k'=>by
   rw[Bool.or_eq_true,decide_eq_true_eq,<-h5 k'];exact⟨fun y=>y.elim id fun e=>e ▸ sk,.inl⟩,h6,h7,by rw[sk];exact h8,h9⟩
  rw[sk]at z;obtain⟨hp,gg,dd,tk,os⟩:=s;exact z
 |none=>
  dsimp only;have sk:S k=false:=by
   cases y:S k with
   |false=>rfl
   |true=>obtain⟨e,he,p⟩:=(h5 k).mp y;have:=List.findIdx?_eq_none_iff.mp hr e he;rw[p]at this;cases this
  have gw:∀ (c:Bool) {s1:Shared} {Q':Unit->Shared->Prop},Q' () s1->wpAny (model prog w) A (match c with|true=>rule "set.scan.the-table-gave-way" | false=>pure ()) Q' E s1:=fun c s1 Q' y=>by
   cases c
   ·exact wpAny_pure y
   ·exact wpAny_rule y
  have p1:=layNew_perm t es (knd.hash k) x;have p2:=layNew_fits t es (knd.hash k) x;have p3:=h9.lay es (knd.hash k) x;generalize layNew t es (knd.hash k) x=Z at p1 p2 p3 ⊢;obtain⟨es1,t1,wd,gv⟩:=Z;dsimp only at p1 p2 p3 ⊢;rw[Array.toList_push]at p1;have c1:ElemsOf knd es1.toList:=(h4.push hk hx).perm p1;have c2:∀ k',(S k' || decide (k'=k))=true ↔ ∃ e∈es1.toList,knd.is k' e.2=true:=mem_push_iff hk h5 p1;have c3:es1.size=n+1:=by rw[<-Array.length_toList,p1.length_eq,List.length_append,Array.length_toList,h8];rfl
  have c4:es1.size<scanBound:=by omega
  have fin:∀ h',Heap.SameBut a s.heap h'->yov knd b h' a (fun k'=>S k' || decide (k'=k)) es1.size->Q true { s with heap:=h' }:=fun h' y1 y2=>by
   have:=q h' y1;rw[sk]at this;rw[c3]at y2;exact this y2
  refine wpAny_bind (gw _ ?_);split
  ·refine wpAny_bind ?_;rw[hashByValue_scannable 8 hx];refine wpAny_pure (zrr (b:=b) ?_ h1 h2 h3 c1 c2 c4 ?_ ?_ ?_)
   ·exact fun c s1 Q' y=>gw c y
   ·split
    ·exact p2
    ·exact SetTable.fits_plain_off p2
   ·split
    ·exact p3
    ·exact p3.plain
   ·exact fun h' y1 y2=>wpAny_pure (fin h' y1 y2)
  ·refine wpAny_bind (wpAny_pure ?_);simp only[↓reduceIte];refine zrr ?_ h1 h2 h3 c1 c2 c4 p2 p3 ?_
   ·exact fun c s1 Q' y=>gw c y
   ·exact fun h' y1 y2=>wpAny_pure (fin h' y1 y2)
end
def bT(w:World):Bool:=w.params.followText "set-order"
section
variable{prog:Program}{w:World}{A:Around}
theorem zq3{b:Bool}{h:Heap}{a:Addr}{S S':Int->Bool}{n n':Nat}(hS:yov (intKind prog w) b h a S n)(e:∀ k,S k=S' k)(en:n=n'):yov (intKind prog w) b h a S' n':=by
 obtain rfl:S=S':=funext e;subst en;exact hS
theorem zzr{b:Bool}{h h':Heap}{a:Addr}{S:Int->Bool}{n:Nat}(hS:yov (intKind prog w) b h a S n)(k:∀ o,h.get? a=some o->h'.get? a=some o):yov (intKind prog w) b h' a S n:=by
 obtain⟨o,es,ep,t,ho,r⟩:=hS;exact⟨o,es,ep,t,k o ho,r⟩
theorem zky{R:Result->Shared->Prop}{I:Addr}{fp wr:List Addr}{G:Array GenState->Array GenState->Prop}{n:Nat}{P:Nat->Value->Prop}{St:Nat->Shared->Prop}{b:Bool}(W:WalksS prog w A.in1 I fp wr G n P St)(a:Addr)(ha:a ∉ fp)(f:Nat->Int)(hf:∀ i v,P i v->∃ t,v=.int (f i) t)(hn:n+1<scanBound) :
  ∀ (k i:Nat) (s:Shared),n - i=k->i<=n->St i s->yov (intKind prog w) b s.heap a (fun y=>(firstMet f i).any (·== y)) (firstMet f i).length->
   (∀ s',Moved (a::wr) G s s'->yov (intKind prog w) b s'.heap a (fun y=>(firstMet f n).any (·== y)) (firstMet f n).length->R (.ok (.ret .none)) s')->codeAny (model prog w) A (.builtin "set.update.loop" ⟨[.ref a,.ref I],[]⟩) R s:=by
 have aw:a ∉ wr:=fun z=>ha (W.sub _ z);have sub:∀ c∈wr,c∈a::wr:=fun c hc=>List.mem_cons_of_mem _ hc;intro k;induction k with
 |zero=>
  intro i s hk hi st hS q;obtain rfl:i=n:=by omega
  refine codeAny_builtin F.entry_set_update_loop ?_;rw[Around.under_plainId F.plain_set_update_loop _];show wpAny _ A.in1 (pyNext (.ref I) >>= _) _ _ s;refine wpAny_bind (W.done s _ _ st fun s' m=>?_);exact wpAny_pure (q s' (m.mono sub) (zzr hS fun o e=>m.heap a _ aw e))
 |succ k ih=>
  intro i s hk hi st hS q;have lt:i<n:=by omega
  refine codeAny_builtin F.entry_set_update_loop ?_;rw[Around.under_plainId F.plain_set_update_loop _];show wpAny _ A.in1 (pyNext (.ref I) >>= _) _ _ s;refine wpAny_bind (W.item i s _ _ lt st fun v s' hP st' m=>?_);obtain⟨t,rfl⟩:=hf i v hP;have hS':=zzr (h':=s'.heap) hS fun o e=>m.heap a _ aw e;show wpAny _ A.in1 (holding [Value.int (f i) t] (setAdd a (.int (f i) t)) >>= _) _ _ s';unfold setAdd;refine wpAny_bind (wpAny_holding (wpAny_holding (wpAny_bind ((intKind prog w).pyHash (k:=f i) (intKind_is _ _ _ _) ?_))));refine yif (knd:=intKind prog w) (s:={ s' with toks:=s'.toks+1 }) (intKind_is _ _ _ _) rfl hS' (by have:=firstMet_length_le f i;omega) fun h' sb S2=>?_;have S3:yov (intKind prog w) b h' a (fun y=>(firstMet f (i+1)).any (·== y)) (firstMet f (i+1)).length:=zq3 S2 (fun y=>by rw[firstMet_succ,step_any]) (by rw[firstMet_succ,step_length]);refine wpAny_pure ⟨plainId_quiet F.plain_set_update_loop _,ih (i+1) _ (by omega) lt (W.frame _ s' _ _ st' (Nat.le_succ _) fun c hc o e=>?_) S3 fun s2 m2 T2=>?_⟩
  ·rw[sb.2 c (fun z:c=a=>ha (by rw[<-z];exact hc))];exact e
  ·refine q s2 (Moved.trans W.gtrans ((m.mono sub).then_heap (Nat.le_succ _) fun c o hc e=>?_) m2) T2;rw[sb.2 c (fun z:c=a=>hc (by rw[z];exact List.mem_cons_self))];exact e
variable{E:Value->Shared->Prop}{s:Shared}
theorem zqt(x:Value){Q:Value->Shared->Prop}(q:Q (.ref s.heap.objs.size) { s with heap:=s.heap.push { cls:=.type "set",dict:=none,data:=.set #[] 0 (.fresh 0 0 (!bT w)) } }) :
  codeAny (model prog w) A (.call (.builtin "set.__new__") ⟨[.type "set",x],[]⟩) (wants Q E) s:=by
 refine codeAny_of_tree ?_;show wpAny _ A.in1 (do checkBuiltinCall "set.__new__" ⟨[.type "set",x],[]⟩;again (.builtin "set.__new__" ⟨[.type "set",x],[]⟩)) _ _ s;refine wpAny_bind (wpAny_of_eq (PySem.F.newCall_set_1 x) (wpAny_pure ⟨plainId_quiet PySem.F.plain_set_new _,codeAny_builtin PySem.F.entry_set_new ?_⟩));rw[Around.under_plainId PySem.F.plain_set_new _];unfold Builtin.«set.__new__» Builtin.Frozenset.newClass;have sub:=sub_set_self;obtain⟨hp,g,d,tk,os⟩:=s;dsimp only
 wp_walk
 refine wpAny_askSetting (wpAny_pure ?_);dsimp only;simp only[newObj];exact wpAny_bind (wpAny_alloc (wpAny_pure (wpAny_pure q)))
end
section
variable{prog:Program}{w:World}{A:Around}{E:Value->Shared->Prop}{s:Shared}
abbrev zv1(w:World):Obj:={ cls:=.type "set",dict:=none,data:=.set #[] 0 (.fresh 0 0 (!bT w)) }
set_option maxHeartbeats 3200000 in
theorem zhy{l:Addr}{items:Array Value}{ns:List Int}{Q:Value->Shared->Prop}(hh:A.handled=none)(hl:s.heap.IsList l items)(hi:IntsAre items.toList ns)(hb:items.size+1<scanBound)
  (q:∀ (h':Heap) (tk:Nat),yov (intKind prog w) (bT w) h' s.heap.objs.size (fun y=>(firstMet (fun i=>ns.getD i 0) items.size).any (·== y)) (firstMet (fun i=>ns.getD i 0) items.size).length->
   (∀ b o,b<s.heap.objs.size->s.heap.get? b=some o->h'.get? b=some o)->Q (.ref s.heap.objs.size) { s with heap:=h',toks:=tk }) :
  wpAny (model prog w) A (call (.type "set") [.ref l]) Q E s:=by
 obtain⟨c,tl,hmro⟩:=PySem.F.called_set.mro;have f1:=PySem.F.called_set.made;have f2:=PySem.F.called_set.sub;refine wpAny_call (codeAny_of_tree (show wpAny _ _ (callAny (.type "set") _) _ _ _ from wpAny_pure ⟨Code.quiet_builtin _ (by decide +kernel),codeAny_builtin PySem.F.entry_type_call ?_⟩));rw[Around.under_plain (weight_type_call_type "set" [.ref l] []) rfl];have f3:=PySem.F.called_set.notType;have f4:=PySem.F.called_set.canCreate;have f5:=PySem.F.typeCall_set_1 (.ref l);repeat (any_goals (first|assumption|wp_step))
 refine codeAny_mono (zqt (.ref l) (E:=E) (Q:=fun ob s1=>ob=.ref s.heap.objs.size/\s1={ s with heap:=s.heap.push (zv1 w) }) ⟨rfl,rfl⟩) fun r s1 hr=>?_;cases r with
 |error e=>exact hr
 |ok fl=>
  cases fl with
  |ret ob=>
   obtain⟨rfl,rfl⟩:=hr;have gS:(s.heap.push (zv1 w)).get? s.heap.objs.size=some (zv1 w):=Heap.get?_push_size _ rfl;have tS:Shared.TypeIs { s with heap:=s.heap.push (zv1 w) } (.ref s.heap.objs.size) "set":=⟨_,gS,rfl⟩
   have i1:=PySem.F.called_set.init.lookup;have i2:=PySem.F.called_set.init.bind (.ref s.heap.objs.size);repeat (any_goals (first|assumption|wp_step))
   refine codeAny_mono (codeAny_call_builtin (R:=wants (fun r s2=>r=.none/\∃ h' tk,s2={ s with heap:=h',toks:=tk }/\yov (intKind prog w) (bT w) h' s.heap.objs.size (fun y=>(firstMet (fun i=>ns.getD i 0) items.size).any (·== y)) (firstMet (fun i=>ns.getD i 0) items.size).length/\
     (∀ b o,b<s.heap.objs.size->s.heap.get? b=some o->h'.get? b=some o)) E) PySem.F.called_set.init.plain PySem.F.entry_set_init (check_set_init_1 tS ?_)) fun r2 s2 hr2=>?_
   ·obtain⟨⟨oc,od,odt,osl⟩,gl,hcl,nl,hdl⟩:=hl;simp only at hcl hdl;subst hcl;subst hdl;have gl':(s.heap.push (zv1 w)).get? l=some { cls:=.type "list",dict:=od,data:=.seq items nl,slots:=osl }:=Heap.get?_push_of_some _ gl;have g1:=PySem.F.sub_list_set;have g2:=PySem.F.sub_list_frozenset;have g3:(Value.type "list" == Value.type "dict")=false:=by decide
    have hl1:(s.heap.push (zv1 w)).IsList l items:=⟨_,gl',rfl,nl,rfl⟩
    unfold Builtin.«set.__init__» noKeywords Builtin.Frozenset.updateFrom;generalize hPI:pyIter=PI
    wp_walk
    subst hPI;refine wpAny_pyIter_list hl1 (wpAny_bind (wpAny_runValue ?_));have ll:l<s.heap.objs.size:=Heap.lt_size gl;have h3:A.in1.in1.in1.handled=none:=by simp[hh]
    have nI:l≠(s.heap.push (zv1 w)).objs.size:=by rw[Heap.size_push];exact Nat.ne_of_lt (Nat.lt_succ_of_lt ll)
    have nf:s.heap.objs.size ∉ [(s.heap.push (zv1 w)).objs.size,l]:=by
     rw[Heap.size_push];simp only[List.mem_cons,List.not_mem_nil,or_false,not_or];exact⟨Nat.ne_of_lt (Nat.lt_succ_self _),Nat.ne_of_gt ll⟩
    refine zky (b:=bT w) ((Walks.list h3 _ l nI items).toS) s.heap.objs.size nf (fun i=>ns.getD i 0) (fun i v hv=>IntsAre.int_at hi i v (by rw[Array.getElem?_toList];exact hv)) hb (items.size - 0) 0 _ (by omega) (Nat.zero_le _) ⟨⟨_,Heap.get?_push_size _ rfl,rfl,rfl⟩,(hl1.push _)⟩ ?S0 ?RR;case S0=>
     exact⟨zv1 w,#[],0,_,Heap.get?_push_of_some _ gS,⟨rfl,rfl,rfl⟩,rfl,fun e he=>by simp at he,fun k=>by simp[firstMet_zero],by decide,by rfl,by simp[firstMet_zero],TOk.fresh _⟩
    case RR=>
     intro s' hm hS';obtain⟨h',g',d',tk',os'⟩:=s';obtain rfl:g'=s.gens:=hm.gens;obtain rfl:d'=s.drawn:=hm.drawn;obtain rfl:os'=s.os:=hm.os;refine wpAny_pure (wpAny_pure ⟨rfl,h',tk',rfl,hS',fun b o lt e=>?_⟩);refine hm.heap b o ?_ (Heap.get?_push_of_some _ (Heap.get?_push_of_some _ e));rw[Heap.size_push];simp only[List.mem_cons,List.not_mem_nil,or_false,not_or];exact⟨Nat.ne_of_lt lt,Nat.ne_of_lt (Nat.lt_succ_of_lt lt)⟩
   ·cases r2 with
    |error e=>exact hr2
    |ok fl2=>
     cases fl2 with
     |ret r=>
      obtain⟨rfl,h',tk,rfl,hS',hk'⟩:=hr2;repeat (any_goals (first|assumption|wp_step))
      exact q _ _ hS' hk'
     |_=>exact hr2
  |_=>exact hr
end
theorem zy1:Slot "set_iterator" "__next__" "set_iterator.__next__":=.of (owner:="set_iterator") (n:="__next__") (by rw[typeLookup_type,builtinLookup_eq_fast];kernel_rfl) (by decide +kernel) (by decide +kernel) (by decide +kernel) (.inl (by decide +kernel)) (by rw[isSubtype_type];kernel_rfl)
theorem zs3:entryFor table "set_iterator.__next__" = some Builtin.«set_iterator.__next__»:=entryFor_of_tree (by kernel_rfl)
theorem zrx(a:Value):argsOk "set_iterator.__next__" ⟨[a],[]⟩:=by unfold argsOk;kernel_rfl
theorem zs2:entryFor table "set.__iter__" = some Builtin.«frozenset.__iter__»:=entryFor_alias (id':="frozenset.__iter__") (by kernel_rfl) (by first|rfl|decide +kernel) (by decide +kernel) (by kernel_rfl)
def yh8(h:Heap)(a:Addr)(es:Array (Int × Value))(ep:Nat)(t:SetTable):Prop:=∃ o,h.get? a=some o/\o.ExactSet/\o.data=.set es ep t
def yoe(h:Heap)(I a:Addr)(first:Value)(i n ep:Nat):Prop:=∃ o,h.get? I=some o/\o.cls=.type "set_iterator"/\o.data=.fields #[first,rawInt i,.ref a,rawInt n,rawInt ep]
section
variable{prog:Program}{w:World}{A:Around}{E:Value->Shared->Prop}{s:Shared}{I a:Addr}{es:Array (Int × Value)}{ep:Nat}{t:SetTable}{i:Nat}
theorem yoe.ty{first:Value}{n:Nat}(h:yoe s.heap I a first i n ep):s.TypeIs (.ref I) "set_iterator":=let ⟨o,h1,h2,_⟩:=h;⟨o,h1,h2⟩
theorem zju{f:Nat}{Q:Option Value->Shared->Prop}{v:Value}{f':Nat}(hI:yoe s.heap I a (rawInt f) i es.size ep)(hS:yh8 s.heap a es ep t)(hf:t.fits es.size=true)(hne:a≠I)
  (hn:∀ (A:Around) (E:Value->Shared->Prop) (Q:Option (Value × Nat)->Shared->Prop),Q (some (v,f')) s->wpAny (model prog w) A (setNext a f i ep) Q E s)
  (q:∀ h',yoe h' I a (rawInt f') (i+1) es.size ep->Heap.SameBut I s.heap h'->Q (some v) { s with heap:=h' }):wpAny (model prog w) A (pyNext (.ref I)) Q E s:=by
 obtain⟨o,ho,hc,hd⟩:=id hI;obtain⟨oS,gS,xS,dS⟩:=id hS;unfold pyNext;refine wpAny_bind (wpAny_attempt (wpAny_callSpecial?_slot (name:=Str.ofString "__next__") hI.ty zy1 (wpAny_call_entry zy1 hI.ty zs3 ?_ (zrx _))));unfold Builtin.«set_iterator.__next__»;refine wpAny_bind (wpAny_pure ?_);refine wpAny_bind (wpAny_fieldsOf ho hd ?_);dsimp only[rawInt];refine wpAny_bind (wpAny_setEntries_of gS dS hf ?_);rw[if_neg (by simp)];simp only[Int.toNat_natCast];refine wpAny_bind (hn _ _ _ ?_);dsimp only;refine wpAny_bind (wpAny_setField ho hd (by simp) ?_);have g1:=Heap.get?_update_self (Obj.mapFields (·.setIfInBounds 0 (Value.int (f':Int) 0))) ho (Obj.isFreed_of_fields (Obj.data_mapFields hd _));have d1:=Obj.data_mapFields hd (·.setIfInBounds 0 (Value.int (f':Int) 0));refine wpAny_bind (wpAny_setField g1 d1 (by simp) ?_);have g2:=Heap.get?_update_self (Obj.mapFields (·.setIfInBounds 1 (Value.int ((i:Int)+1) 0))) g1 (Obj.isFreed_of_fields (Obj.data_mapFields d1 _));refine wpAny_pure ⟨_,rfl,wpAny_pure (q _ ⟨_,g2,?_,?_⟩ ((Heap.SameBut.update ..).trans (Heap.SameBut.update ..)))⟩
 ·rw[Obj.cls_mapFields,Obj.cls_mapFields];exact hc
 ·rw[Obj.data_mapFields d1];simp[rawInt]
theorem zq5{Q:Option Value->Shared->Prop}{first:Value}{n:Nat}{h1:Heap}(hh:A.handled=none)(sb:Heap.SameBut I s.heap h1)(q:∀ h',Heap.ExtBut I s.heap h'->Q none { s with heap:=h' }) :
  wpAny (model prog w) A.in1 (do let e <-newExc (.type "StopIteration") [];raiseNew e:Sem PySem.Fin) (fun fin s'=>∃ v,fin=Fin.done (Flow.ret v)/\wpAny (model prog w) A (pure (some v)) Q E s')
   (fun e s'=>wpAny (model prog w) A (do let c <-isInstance e (Value.type "StopIteration");if c=true then pure none else throw e) Q E s') { s with heap:=h1 }:=by
 refine wpAny_bind ?_;simp only[newExc,newTuple];refine wpAny_bind (wpAny_newObj_type (wpAny_bind (m:=firstArgMember _ _) (wpAny_of_eq (a:=Value.none) (by first|rfl|(simp only[firstArgMember];rfl)) (wpAny_newObj_type ?_ (by size_fits)))) (by size_fits));simp only[raiseNew];refine wpAny_bind (wpAny_handled ?_);rw[show A.in1.handled=none from hh];refine wpAny_bind (wpAny_pure (wpAny_throw ?_));refine wpAny_bind (wpAny_isInstance (T:="StopIteration") (b:=true) ⟨_,Heap.get?_push_size _ rfl,rfl⟩ isSubtype_stop ?_);exact wpAny_pure (q _ ((sb.extBut.push _).push _))
theorem zl4{f:Nat}{Q:Option Value->Shared->Prop}(hh:A.handled=none)(hI:yoe s.heap I a (rawInt f) i es.size ep)(hS:yh8 s.heap a es ep t)(hf:t.fits es.size=true)
  (hn:∀ (A:Around) (E:Value->Shared->Prop) (Q:Option (Value × Nat)->Shared->Prop),Q none s->wpAny (model prog w) A (setNext a f i ep) Q E s)
  (q:∀ h',Heap.ExtBut I s.heap h'->Q none { s with heap:=h' }):wpAny (model prog w) A (pyNext (.ref I)) Q E s:=by
 obtain⟨o,ho,hc,hd⟩:=id hI;obtain⟨oS,gS,xS,dS⟩:=id hS;unfold pyNext;refine wpAny_bind (wpAny_attempt (wpAny_callSpecial?_slot (name:=Str.ofString "__next__") hI.ty zy1 (wpAny_call_entry zy1 hI.ty zs3 ?_ (zrx _))));unfold Builtin.«set_iterator.__next__»;refine wpAny_bind (wpAny_pure (wpAny_bind (wpAny_fieldsOf ho hd ?_)));dsimp only[rawInt];refine wpAny_bind (wpAny_setEntries_of gS dS hf ?_);rw[if_neg (by simp)];simp only[Int.toNat_natCast];refine wpAny_bind (hn _ _ _ ?_);dsimp only;refine wpAny_bind (wpAny_setField ho hd (by simp) ?_);exact zq5 (first:=.none) (n:=0) hh (Heap.SameBut.update ..) q
end
theorem zft{α:Type}:∀ (l:List α) (i:Nat) (h:i<l.length),(l[i]::l.eraseIdx i).Perm l
 |x::l,0,_=>.refl _
 |x::l,i+1,h=>by
  have:=zft l i (by simpa using h);simp only[List.getElem_cons_succ,List.eraseIdx_cons_succ];exact(List.Perm.swap _ _ _).trans (this.cons x)
theorem zxc{α:Type}(nx:Nat->Nat):∀ (fuel k:Nat) (left:List α) (out:Array α),left.length=fuel->∃ ys:List α,(pickOrder.go nx fuel k left out).toList=out.toList++ys/\ys.Perm left
 |0,k,left,out,h=>by
  obtain rfl:=List.length_eq_zero_iff.mp h;exact⟨[],by unfold pickOrder.go;simp,.refl _⟩
 |fuel+1,k,left,out,h=>by
  have hl:nx k % left.length<left.length:=Nat.mod_lt _ (by omega);unfold pickOrder.go;rw[List.getElem?_eq_getElem hl];dsimp only;obtain⟨ys,e,p⟩:=zxc nx fuel (k+1) (left.eraseIdx (nx k % left.length)) (out.push left[nx k % left.length]) (by rw[List.length_eraseIdx_of_lt hl];omega);refine⟨left[nx k % left.length]::ys,by rw[e];simp,?_⟩;exact(p.cons _).trans (zft left _ hl)
theorem zj1{α:Type}(nx:Nat->Nat)(xs:Array α):(pickOrder nx xs).toList.Perm xs.toList:=by
 obtain⟨ys,e,p⟩:=zxc nx xs.size 0 xs.toList #[] (by simp);unfold pickOrder;rw[e];simpa using p
def fB(pl:Array Nat)(i:Nat):Nat:=if i=0 then 0 else pl.getD (i - 1) 0+1
theorem yjb{pl:Array Nat}(hr:Ris pl){i:Nat}(hi:i<=pl.size):SetTable.below pl (fB pl i)=i:=by
 refine zsn (zhm hr _) ⟨hi,fun j a hj ea=>?_,fun j a hj ea=>?_⟩
 ·unfold fB;rw[if_neg (by omega)];have hl:i - 1<pl.size:=by omega
  have e1:pl[i - 1]?=some pl[i - 1]:=Array.getElem?_eq_getElem hl;have ed:pl.getD (i - 1) 0=pl[i - 1]:=by simp[Array.getD,hl]
  rw[ed];by_cases e:j=i - 1
  ·subst e;rw[e1]at ea;cases ea;omega
  ·have:=hr j (i - 1) a _ (by omega) ea e1;omega
 ·unfold fB;by_cases h0:i=0
  ·rw[if_pos h0];omega
  ·rw[if_neg h0];have hl:i - 1<pl.size:=by omega
   have e1:pl[i - 1]?=some pl[i - 1]:=Array.getElem?_eq_getElem hl;have ed:pl.getD (i - 1) 0=pl[i - 1]:=by simp[Array.getD,hl]
   rw[ed];have:=hr (i - 1) j _ a (by omega) e1 ea;omega
section
variable{prog:Program}{w:World}{A:Around}{E:Value->Shared->Prop}{s:Shared}{a:Addr}{es:Array (Int × Value)}{ep:Nat}{t:SetTable}{i:Nat}
theorem zht{Q:Bool->Shared->Prop}(q:Q (bT w) s):wpAny (model prog w) A setsByText Q E s:=by
 unfold setsByText;exact wpAny_bind (wpAny_askSetting (wpAny_pure q))
theorem ylg{Q:Option (Value × Nat)->Shared->Prop}(hb:bT w=true)(hS:yh8 s.heap a es ep t)(hf:t.fits es.size=true)(q:Q (((pickOrder (w.params.setOrder a ep) es)[i]?).map fun e=>(e.2,0)) s):wpAny (model prog w) A (setNext a 0 i ep) Q E s:=by
 obtain⟨o,g,x,d⟩:=hS;unfold setNext;refine wpAny_bind (wpAny_setState_of g d hf ?_);dsimp only;refine wpAny_bind (zht ?_);rw[hb];simp only[if_true,bne_self_eq_false,Bool.false_eq_true,if_false];refine wpAny_bind ?_;unfold setWalk;refine wpAny_bind (wpAny_setState_of g d hf ?_);dsimp only;refine wpAny_bind (zht ?_);rw[hb];simp only[if_true];exact wpAny_bind (wpAny_askSetting (wpAny_pure (wpAny_pure q)))
theorem ylh{Q:Option (Value × Nat)->Shared->Prop}(hb:bT w=false)(hT:TOk (bT w) t)(hp:(!t.plain && decide (es.size > 1))=false)(hi:i<=es.size)(hS:yh8 s.heap a es ep t)(hf:t.fits es.size=true)(q:Q ((es[i]?).map fun e=>(e.2,fB t.place (i+1))) s):wpAny (model prog w) A (setNext a (fB t.place i) i ep) Q E s:=by
 obtain⟨o,g,x,d⟩:=hS;have hz:t.place.size=es.size:=by simp only[SetTable.fits,Bool.and_eq_true,beq_iff_eq]at hf;exact hf.1
 unfold setNext;refine wpAny_bind (wpAny_setState_of g d hf ?_);dsimp only;refine wpAny_bind (zht ?_);rw[hb];simp only[Bool.false_eq_true,if_false];refine wpAny_ite_split (fun z=>?_) (fun _=>?_)
 ·have:(!t.plain && decide (es.size > 1))=true:=z;rw[hp]at this;cases this
 ·refine wpAny_bind ?_;refine wpAny_ite_split (fun z=>?_) (fun _=>wpAny_pure ?_)
  ·have:(!t.led && !es.isEmpty)=true:=z;rw[hT.led,hb]at this;cases this
  ·rw[yjb hT.ris (by rw[hz];exact hi)];refine wpAny_pure ?_;by_cases hl:i<es.size
   ·have e1:es[i]?=some es[i]:=Array.getElem?_eq_getElem hl;have hl2:i<t.place.size:=by rw[hz];exact hl
    have e2:t.place[i]?=some t.place[i]:=Array.getElem?_eq_getElem hl2;rw[e1]at q ⊢;rw[e2];have e3:fB t.place (i+1)=t.place[i]+1:=by unfold fB;simp[Array.getD,hl2]
    rw[e3]at q;exact q
   ·have e1:es[i]?=none:=Array.getElem?_eq_none (by omega);rw[e1]at q ⊢;exact q
end
section
variable{prog:Program}{w:World}{A:Around}{E:Value->Shared->Prop}{s:Shared}{I a p:Addr}{es:Array (Int × Value)}{ep:Nat}{t:SetTable}{i:Nat}
theorem zk6{M:Model}{src:Source}{n:Nat}{Q:Nat->Shared->Prop}(hn:n≠0)(q:∀ i,i<n->∀ d',Q i { s with drawn:=d' }):wpAny M A (choose src n) Q E s:=fun Γ ps _=>⟨hn,q _ (Nat.mod_lt _ (Nat.pos_of_ne_zero hn)) _⟩
theorem zh9{M:Model}{α:Type}:∀ (n:Nat) (xs:List α) (s:Shared) (Q:List α->Shared->Prop),xs.length=n->(∀ ys d',ys.Perm xs->Q ys { s with drawn:=d' })->wpAny M A (drawOrder n xs) Q E s
 |0,xs,s,Q,h,q=>by
  obtain rfl:=List.length_eq_zero_iff.mp h;exact wpAny_pure (q [] s.drawn (.refl _))
 |n+1,[],s,Q,h,q=>by cases h
 |n+1,x::xs,s,Q,h,q=>by
  unfold drawOrder;refine wpAny_bind (zk6 (by simp) fun i hi d'=>?_);rw[List.getElem?_eq_getElem hi];dsimp only;refine wpAny_bind (zh9 n _ _ _ (by rw[List.length_eraseIdx_of_lt hi];simpa using h) fun ys d2 p=>wpAny_pure ?_);exact q _ d2 ((p.cons _).trans (zft (x::xs) i hi))
def yid(h:Heap)(p:Addr)(ps:List Nat):Prop:=∃ o n,h.get? p=some o/\o.data=.seq (ps.map fun(i:Nat)=>rawInt i).toArray n
theorem zgk{ps:List Nat}{j:Nat}{v:Int × Value}{Q:Option Value->Shared->Prop}(hI:yoe s.heap I a (.ref p) i es.size ep)(hS:yh8 s.heap a es ep t)(hf:t.fits es.size=true)(hT:yid s.heap p ps)(hj:ps[i]?=some j)(hv:es[j]?=some v)
  (q:∀ h',yoe h' I a (.ref p) (i+1) es.size ep->Heap.SameBut I s.heap h'->Q (some v.2) { s with heap:=h' }):wpAny (model prog w) A (pyNext (.ref I)) Q E s:=by
 obtain⟨o,ho,hc,hd⟩:=id hI;obtain⟨oS,gS,xS,dS⟩:=id hS;obtain⟨oT,nT,gT,dT⟩:=hT;unfold pyNext;refine wpAny_bind (wpAny_attempt (wpAny_callSpecial?_slot (name:=Str.ofString "__next__") hI.ty zy1 (wpAny_call_entry zy1 hI.ty zs3 ?_ (zrx _))));unfold Builtin.«set_iterator.__next__»;refine wpAny_bind (wpAny_pure (wpAny_bind (wpAny_fieldsOf ho hd ?_)));dsimp only[rawInt];refine wpAny_bind (wpAny_setEntries_of gS dS hf ?_);rw[if_neg (by simp)];refine wpAny_bind (wpAny_seqItems gT dT ?_);dsimp only;have e:(ps.map fun(i:Nat)=>rawInt i).toArray[(i:Int).toNat]?=some (.int (j:Int) 0):=by
  rw[Int.toNat_natCast,List.getElem?_toArray,List.getElem?_map,hj];rfl
 rw[e];dsimp only;simp only[Int.toNat_natCast];unfold setNextDrawn;refine wpAny_bind (wpAny_bind (wpAny_setState_of gS dS hf ?_));dsimp only;rw[if_neg (by simp)];rw[hv];refine wpAny_pure (wpAny_bind (wpAny_setField ho hd (by simp) ?_));have g1:=Heap.get?_update_self (Obj.mapFields (·.setIfInBounds 1 (Value.int ((i:Int)+1) 0))) ho (Obj.isFreed_of_fields (Obj.data_mapFields hd _));refine wpAny_pure ⟨_,rfl,wpAny_pure (q _ ⟨_,g1,?_,?_⟩ (Heap.SameBut.update ..))⟩
 ·rw[Obj.cls_mapFields];exact hc
 ·rw[Obj.data_mapFields hd];simp[rawInt]
theorem zic{ps:List Nat}{Q:Option Value->Shared->Prop}(hh:A.handled=none)(hI:yoe s.heap I a (.ref p) i es.size ep)(hS:yh8 s.heap a es ep t)(hf:t.fits es.size=true)(hT:yid s.heap p ps)(hj:ps[i]?=none)
  (q:∀ h',Heap.ExtBut I s.heap h'->Q none { s with heap:=h' }):wpAny (model prog w) A (pyNext (.ref I)) Q E s:=by
 obtain⟨o,ho,hc,hd⟩:=id hI;obtain⟨oS,gS,xS,dS⟩:=id hS;obtain⟨oT,nT,gT,dT⟩:=hT;unfold pyNext;refine wpAny_bind (wpAny_attempt (wpAny_callSpecial?_slot (name:=Str.ofString "__next__") hI.ty zy1 (wpAny_call_entry zy1 hI.ty zs3 ?_ (zrx _))));unfold Builtin.«set_iterator.__next__»;refine wpAny_bind (wpAny_pure (wpAny_bind (wpAny_fieldsOf ho hd ?_)));dsimp only[rawInt];refine wpAny_bind (wpAny_setEntries_of gS dS hf ?_);rw[if_neg (by simp)];refine wpAny_bind (wpAny_seqItems gT dT ?_);dsimp only;have e:(ps.map fun(i:Nat)=>rawInt i).toArray[(i:Int).toNat]?=none:=by
  rw[Int.toNat_natCast,List.getElem?_toArray,List.getElem?_map,hj];rfl
 rw[e];dsimp only;refine wpAny_bind (wpAny_setField ho hd (by simp) ?_);have g1:=Heap.get?_update_self (Obj.mapFields (·.setIfInBounds 0 (Value.int 0 0))) ho (Obj.isFreed_of_fields (Obj.data_mapFields hd _));have d1:=Obj.data_mapFields hd (·.setIfInBounds 0 (Value.int 0 0));refine wpAny_bind (wpAny_setField g1 d1 (by simp) ?_);exact zq5 (s:=s) (I:=I) (first:=.none) (n:=0) hh ((Heap.SameBut.update ..).trans (Heap.SameBut.update ..)) q
abbrev itO(a:Addr)(first:Value)(n ep:Nat):Obj:={ cls:=.type "set_iterator",data:=.fields #[first,rawInt 0,.ref a,rawInt n,rawInt ep] }
abbrev ys8(ps:List Nat):Obj:={ cls:=.type "tuple",data:=.seq (ps.map fun(i:Nat)=>rawInt i).toArray }
theorem znw{Q:Value->Shared->Prop}(hS:yh8 s.heap a es ep t)(hf:t.fits es.size=true)(hz:es.size<scanBound)
  (h1:(!bT w && (!t.plain && decide (es.size > 1)))=false->Q (.ref s.heap.objs.size) { s with heap:=s.heap.push (itO a (rawInt 0) es.size ep) })
  (h2:(!bT w && (!t.plain && decide (es.size > 1)))=true->∀ ps d',ps.Perm (List.range es.size)->Q (.ref (s.heap.objs.size+1)) { s with heap:=(s.heap.push (ys8 ps)).push (itO a (.ref s.heap.objs.size) es.size ep),drawn:=d' }) :
  wpAny (model prog w) A (pyIter (.ref a)) Q E s:=by
 obtain⟨o,g,x,d⟩:=id hS;have hT:s.TypeIs (.ref a) "set":=⟨o,g,x.1⟩
 refine wpAny_pyIter_slot hT PySem.F.slot_set_iter (wpAny_call_entry PySem.F.slot_set_iter hT zs2 ?_ (PySem.F.args_set_iter_1 _));unfold Builtin.«frozenset.__iter__»;refine wpAny_bind (wpAny_pure ?_);unfold Builtin.Frozenset.sizeOf;refine wpAny_bind (wpAny_bind (wpAny_setEntries_of g d hf (wpAny_pure ?_)));unfold setDrawn;refine wpAny_bind (wpAny_bind (wpAny_setState_of g d hf ?_));dsimp only;refine wpAny_bind (zht (wpAny_pure ?_));refine wpAny_ite_split (fun z=>?_) (fun z=>?_)
 ·have zz:(!bT w && (!t.plain && decide (es.size > 1)))=true:=z;refine wpAny_bind (zh9 _ _ _ _ (by simp) fun ps d' pm=>?_);have hl:ps.length=es.size:=by rw[pm.length_eq,List.length_range]
  refine wpAny_bind (wpAny_newTuple ?_ (by rw[List.length_map,hl];exact fits_of_scanBound hz));refine wpAny_bind (wpAny_setEpoch_of (Heap.get?_push_of_some _ g) d hf ?_);unfold newFields;refine wpAny_bind (wpAny_newObj_type (wpAny_pure ⟨_,rfl, "set_iterator",_,⟨_,Heap.get?_push_size _ rfl,rfl⟩,zy1.lookup,?_⟩) (by size_fits));have:=h2 zz ps d' pm;rw[<-Heap.size_push s.heap (ys8 ps)]at this;exact this
 ·have zz:(!bT w && (!t.plain && decide (es.size > 1)))=false:=by
   cases y:(!bT w && (!t.plain && decide (es.size > 1)))with
   |false=>rfl
   |true=>exact absurd y z
  refine wpAny_bind (wpAny_pure ?_);refine wpAny_bind (wpAny_setEpoch_of g d hf ?_);unfold newFields;refine wpAny_bind (wpAny_newObj_type (wpAny_pure ⟨_,rfl, "set_iterator",_,⟨_,Heap.get?_push_size _ rfl,rfl⟩,zy1.lookup,?_⟩) (by size_fits));exact h1 zz
end
theorem zyz:Slot "set_iterator" "__iter__" "set_iterator.__iter__":=.of (owner:="set_iterator") (n:="__iter__") (by rw[typeLookup_type,builtinLookup_eq_fast];kernel_rfl) (by decide +kernel) (by decide +kernel) (by decide +kernel) (by first|exact .inl (by decide +kernel)|exact .inr (by decide +kernel)) (by rw[isSubtype_type];kernel_rfl)
theorem zl3:entryFor table "set_iterator.__iter__" = some Builtin.«dict_keyiterator.__iter__»:=entryFor_alias (id':="dict_keyiterator.__iter__") (by kernel_rfl) (by first|rfl|decide +kernel) (by decide +kernel) (by kernel_rfl)
theorem zlb(a:Value):argsOk "set_iterator.__iter__" ⟨[a],[]⟩:=by unfold argsOk;kernel_rfl
section
variable{prog:Program}{w:World}{A:Around}{I a p:Addr}{es:Array (Int × Value)}{ep:Nat}{t:SetTable}
theorem zu2{E:Value->Shared->Prop}{s:Shared}{first:Value}{i n:Nat}{Q:Value->Shared->Prop}(h:yoe s.heap I a first i n ep)(q:Q (.ref I) s):wpAny (model prog w) A (pyIter (.ref I)) Q E s:=by
 refine wpAny_pyIter_slot h.ty zyz (wpAny_call_entry zyz h.ty zl3 ?_ (zlb _));show wpAny _ _ (PySem.ret (Value.ref I)) _ _ s;exact wpAny_pure ⟨_,rfl, "set_iterator",_,h.ty,zy1.lookup,q⟩
theorem yoe.keep{h h':Heap}{first:Value}{i n:Nat}(x:yoe h I a first i n ep)(k:∀ o,h.get? I=some o->h'.get? I=some o):yoe h' I a first i n ep:=let ⟨o,e,r⟩:=x;⟨o,k o e,r⟩
theorem yh8.keep{h h':Heap}(x:yh8 h a es ep t)(k:∀ o,h.get? a=some o->h'.get? a=some o):yh8 h' a es ep t:=let ⟨o,e,r⟩:=x;⟨o,k o e,r⟩
theorem yid.keep{h h':Heap}{ps:List Nat}(x:yid h p ps)(k:∀ o,h.get? p=some o->h'.get? p=some o):yid h' p ps:=let ⟨o,n,e,r⟩:=x;⟨o,n,k o e,r⟩
theorem zhj{f:Nat->Nat}{ord:List (Int × Value)}(hh:A.handled=none)(hf:t.fits es.size=true)(hne:a≠I)(hl:ord.length=es.size)
  (hn:∀ (s:Shared) (i:Nat),yh8 s.heap a es ep t->i<=es.size->∀ (A:Around) (E:Value->Shared->Prop) (Q:Option (Value × Nat)->Shared->Prop),Q ((ord[i]?).map fun e=>(e.2,f (i+1))) s->wpAny (model prog w) A (setNext a (f i) i ep) Q E s) :
  Walks prog w A I [I,a] [I] es.size (fun i v=>(ord[i]?).map (·.2)=some v) (fun i h=>yoe h I a (rawInt (f i)) i es.size ep/\yh8 h a es ep t) where
 sub:=fun b hb=>by simp at hb;simp[hb]
 frame:=fun _ _ _ st hk=>⟨st.1.keep fun o e=>hk I (by simp) o e,st.2.keep fun o e=>hk a (by simp) o e⟩
 item:=fun i s Q E hi st hQ=>by
  have hi':i<ord.length:=by rw[hl];exact hi
  have eo:ord[i]?=some ord[i]:=List.getElem?_eq_getElem hi';refine zju st.1 st.2 hf hne (v:=ord[i].2) (f':=f (i+1)) (fun A' E' Q' q'=>hn s i st.2 (Nat.le_of_lt hi) A' E' Q' (by rw[eo];exact q')) fun h' hI sb=>?_;exact hQ _ h' s.toks (by rw[eo];rfl) ⟨hI,st.2.keep fun o e=>by rw[sb.2 a hne];exact e⟩ fun b o hb e=>by rw[sb.2 b (fun z=>hb (by simp[z]))];exact e
 done:=fun s Q E st hQ=>by
  have eo:ord[es.size]?=none:=by rw[<-hl];simp
  exact zl4 hh st.1 st.2 hf (fun A' E' Q' q'=>hn s es.size st.2 (Nat.le_refl _) A' E' Q' (by rw[eo];exact q')) fun h' he=>hQ h' s.toks fun b o hb e=>he b o (fun z=>hb (by simp[z])) e
 self:=fun _ _ _ _ st hQ=>zu2 st.1 hQ
theorem zhi{ps:List Nat}(hh:A.handled=none)(hf:t.fits es.size=true)(hne:a≠I)(hpe:p≠I)(hp:ps.Perm (List.range es.size)) :
  Walks prog w A I [I,a,p] [I] es.size (fun i v=>((ps[i]?).bind fun j=>es[j]?).map (·.2)=some v) (fun i h=>(yoe h I a (.ref p) i es.size ep/\yh8 h a es ep t)/\yid h p ps) where
 sub:=fun b hb=>by simp at hb;simp[hb]
 frame:=fun _ _ _ st hk=>⟨⟨st.1.1.keep fun o e=>hk I (by simp) o e,st.1.2.keep fun o e=>hk a (by simp) o e⟩,st.2.keep fun o e=>hk p (by simp) o e⟩
 item:=fun i s Q E hi st hQ=>by
  have hl:ps.length=es.size:=by rw[hp.length_eq,List.length_range]
  have hi':i<ps.length:=by rw[hl];exact hi
  have eo:ps[i]?=some ps[i]:=List.getElem?_eq_getElem hi';have hj:ps[i]<es.size:=List.mem_range.mp (hp.mem_iff.mp (List.getElem_mem hi'));have ee:es[ps[i]]?=some es[ps[i]]:=Array.getElem?_eq_getElem hj;refine zgk st.1.1 st.1.2 hf st.2 eo ee fun h' hI sb=>?_;exact hQ _ h' s.toks (by rw[eo,Option.bind_some,ee];rfl) ⟨⟨hI,st.1.2.keep fun o e=>by rw[sb.2 a hne];exact e⟩,st.2.keep fun o e=>by rw[sb.2 p hpe];exact e⟩ fun b o hb e=>by rw[sb.2 b (fun z=>hb (by simp[z]))];exact e
 done:=fun s Q E st hQ=>by
  have hl:ps.length=es.size:=by rw[hp.length_eq,List.length_range]
  have eo:ps[es.size]?=none:=by rw[<-hl];simp
  exact zic hh st.1.1 st.1.2 hf st.2 eo fun h' he=>hQ h' s.toks fun b o hb e=>he b o (fun z=>hb (by simp[z])) e
 self:=fun _ _ _ _ st hQ=>zu2 st.1.1 hQ
theorem znn{E:Value->Shared->Prop}{s:Shared}{Q:Bool->Shared->Prop}(hT:s.TypeIs (.ref a) "set")(h:Q false s):wpAny (model prog w) A (Builtin.List.listLengthHint (.ref a)) Q E s:=by
 unfold Builtin.List.listLengthHint;refine wpAny_bind (wpAny_specialOf hT PySem.F.slot_set_len.lookup ?_);generalize hid:("set.__len__" : String)=id0
 wp_delta
 rw[show splitId id0=some ("set", "__len__")from by subst hid;decide +kernel];subst hid;refine wpAny_bind (wpAny_isInstance (T:="set") (b:=true) hT (by rw[isSubtype_type];kernel_rfl) ?_);refine wpAny_ite_split (fun hab=>absurd hab (by decide)) (fun _=>?_);refine wpAny_ite_split (fun _=>?_) (fun hab=>absurd (by decide +kernel) hab);exact wpAny_bind (wpAny_typeOf hT (wpAny_pure h))
end
end L4
namespace L4
open PySem PySem.Spec PySem.Calls PySem.W PyProof.Rows PyProof.V
section
variable{prog:Program}{w:World}{A:Around}{E:Value->Shared->Prop}{s:Shared}{a:Addr}{es:Array (Int × Value)}{ep:Nat}{t:SetTable}
theorem zqa{cc:Bool}{I S:Addr}{fp:List Addr}{n c0:Nat}{P:Nat->Value->Prop}{St:Nat->Heap->Prop}{R:Result->Shared->Prop}{res:Value}(W:Walks prog w A.in1 I fp [I] n P St)(hn:n<=sizeLine)(hSf:S ∉ fp)(hT:s.TypeIs (.ref a) "set")(st:St 0 s.heap)
  (hS:s.heap.get? S=some { cls:=.type "list",data:=.seq #[] c0 })
  (hR:∀ h' tk acc c,(∀ b o,b≠S->b≠I->s.heap.get? b=some o->h'.get? b=some o)->h'.get? S=some { cls:=.type "list",dict:=none,data:=.seq acc c,slots:=#[] }->ItemsOf P acc n->R (.ok (.ret res)) { s with heap:=h',toks:=tk }) :
  wpAny (model prog w) A.in1 (do
    let room <-holding [Value.ref I] (Builtin.List.listLengthHint (.ref a))
    if (room || cc)=true then do
     rule "list.extend.makes-room"
     Builtin.List.listTouch (.ref S)
     again (.builtin "list.extend.loop" ⟨[.ref S,.ref I,res],[]⟩)
    else again (.builtin "list.extend.loop" ⟨[.ref S,.ref I,res],[]⟩))
   (fun fin s'=>match fin with | .done f=>R (.ok f) s' | .again c'=>c'.quiet=true/\codeAny (model prog w) A c' R s') (fun e s'=>R (.error e) s') s:=by
 have key:∀ (h:Heap) (c1 tk:Nat),St 0 h->(∀ b o,b≠S->s.heap.get? b=some o->h.get? b=some o)->h.get? S=some { cls:=.type "list",data:=.seq #[] c1 }->codeAny (model prog w) A (.builtin "list.extend.loop" ⟨[.ref S,.ref I,res],[]⟩) R { s with heap:=h,toks:=tk }:=by
  intro h c1 tk hst hk gS;refine codeAny_extend_loopS W.toS hn S hSf res n 0 _ #[] c1 rfl (Nat.zero_le _) hst gS (ItemsOf.nil _) fun s' acc c hm g' ha=>?_;rw[Moved.eq_with hm];refine hR s'.heap s'.toks acc c (fun b o hb hI e=>hm.heap b o (fun z=>?_) (hk b o hb e)) g' ha;rcases List.mem_cons.mp z with z|z
  ·exact hb z
  ·exact hI (List.mem_singleton.mp z)
 refine wpAny_bind (wpAny_holding (znn hT ?_));refine wpAny_ite_split (fun _=>?_) (fun _=>wpAny_pure ⟨plainId_quiet PySem.F.plain_extend_loop _,key _ c0 _ st (fun b o _ e=>e) hS⟩);refine wpAny_bind (wpAny_rule (wpAny_bind ?_));show wpAny _ _ (updateSeq S (·.push .none) >>= fun _=>updateSeq S (·.pop)) _ _ _;refine wpAny_bind (wpAny_updateSeq hS rfl ?_);have g2:=Heap.get?_update_self (Obj.mapSeq (·.push Value.none)) hS rfl;refine wpAny_updateSeq (hz:=by seq_fits) g2 rfl ?_;have g3:=Heap.get?_update_self (Obj.mapSeq (·.pop)) g2 rfl;have oth:∀ b o,b≠S->s.heap.get? b=some o->((s.heap.update S (Obj.mapSeq (·.push Value.none))).update S (Obj.mapSeq (·.pop))).get? b=some o:=fun b o hb e=>(Heap.get?_update_other _ _ (Ne.symm hb)).trans ((Heap.get?_update_other _ _ (Ne.symm hb)).trans e);exact wpAny_pure ⟨plainId_quiet PySem.F.plain_extend_loop _,key _ _ _ (W.frame 0 _ _ st fun b hb o e=>oth b o (fun z=>hSf (z ▸ hb)) e) (fun b o hb e=>oth b o hb e) g3⟩
theorem zm0{α β:Type}{f:α->Option β}{g:α->β}:∀ {l:List α},(∀ j∈l,f j=some (g j))->l.filterMap f=l.map g
 |[],_=>rfl
 |x::l,h=>by rw[List.filterMap_cons,h x List.mem_cons_self,List.map_cons,zm0 fun j hj=>h j (List.mem_cons_of_mem _ hj)]
theorem zja{acc:Array Value}{ord:List (Int × Value)}{n:Nat}(hl:ord.length=n)(h:ItemsOf (fun i v=>(ord[i]?).map (·.2)=some v) acc n):acc.toList=ord.map (·.2):=by
 apply List.ext_getElem?;intro i;rw[Array.getElem?_toList,List.getElem?_map];cases e:acc[i]? with
 |none=>
  have:n<=i:=by have:=Array.getElem?_eq_none_iff.mp e;rw[h.1]at this;exact this
  rw[List.getElem?_eq_none (by omega)];rfl
 |some v=>exact(h.2 i v e).symm
theorem zgw(es:Array (Int × Value)):(List.range es.size).filterMap (fun j=>(es[j]?).map (·.2))=es.toList.map (·.2):=by
 apply List.ext_getElem?;intro i;have e:(List.range es.size).filterMap (fun j=>(es[j]?).map (·.2))=(List.range es.size).map (fun j=>((es[j]?).map (·.2)).getD .none):=by
  refine zm0 fun j hj=>?_;have:=List.mem_range.mp hj;simp[this]
 rw[e,List.getElem?_map,List.getElem?_map];by_cases hi:i<es.size
 ·simp[hi]
 ·simp[hi]
theorem zel{acc:Array Value}{ps:List Nat}(hp:ps.Perm (List.range es.size))(h:ItemsOf (fun i v=>((ps[i]?).bind fun j=>es[j]?).map (·.2)=some v) acc es.size):acc.toList.Perm (es.toList.map (·.2)):=by
 have hl:ps.length=es.size:=by rw[hp.length_eq,List.length_range]
 have e:acc.toList=ps.filterMap (fun j=>(es[j]?).map (·.2)):=by
  have e2:ps.filterMap (fun j=>(es[j]?).map (·.2))=ps.map (fun j=>((es[j]?).map (·.2)).getD .none):=by
   refine zm0 fun j hj=>?_;have:=List.mem_range.mp (hp.mem_iff.mp hj);simp[this]
  rw[e2];apply List.ext_getElem?;intro i;rw[Array.getElem?_toList,List.getElem?_map];cases ea:acc[i]? with
  |none=>
   have:es.size<=i:=by have:=Array.getElem?_eq_none_iff.mp ea;rw[h.1]at this;exact this
   rw[List.getElem?_eq_none (by omega)];rfl
  |some v=>
   have this:((ps[i]?).bind fun j=>es[j]?).map (·.2)=some v:=h.2 i v ea;cases ej:ps[i]? with
   |none=>rw[ej]at this;cases this
   |some j=>rw[ej]at this;simp only[Option.bind_some]at this;rw[Option.map_some,this];rfl
 rw[e,<-zgw];exact hp.filterMap _
theorem zed{R:List Value->Shared->Prop}(hh:A.handled=none)(hA:yh8 s.heap a es ep t)(hf:t.fits es.size=true)(hk:TOk (bT w) t)(hz:es.size<scanBound)
  (fin:∀ h' tk d' (acc:Array Value),(∀ b o,s.heap.get? b=some o->h'.get? b=some o)->s.heap.objs.size<=h'.objs.size->acc.toList.Perm (es.toList.map (·.2))->R acc.toList { s with heap:=h',toks:=tk,drawn:=d' }) :
  wpAny (model prog w) A (collect (.ref a)) R E s:=by
 have hn:es.size<=sizeLine:=fits_of_scanBound hz;have la:a<s.heap.objs.size:=let ⟨_,g,_⟩:=hA;Heap.lt_size g;let S:Addr:=s.heap.objs.size;let Z:Result->Shared->Prop:=fun q s'=>∃ (h':Heap) (tk:Nat) (d':Drawn) (acc:Array Value) (c:Nat),q=.ok (.ret (.ref S))/\s'={ s with heap:=h',toks:=tk,drawn:=d' }/\(∀ b o,s.heap.get? b=some o->h'.get? b=some o)/\
  h'.get? S=some { cls:=.type "list",dict:=none,data:=.seq acc c,slots:=#[] }/\acc.toList.Perm (es.toList.map (·.2))
 let s1:Shared:={ s with heap:=s.heap.push { cls:=.type "list",data:=.seq ([]:List Value).toArray } }
 have g0:s1.heap.get? S=some { cls:=.type "list",data:=.seq #[] }:=Heap.get?_push_size _ rfl;have hA1:yh8 s1.heap a es ep t:=hA.keep fun o e=>Heap.get?_push_of_some _ e;have z1:s1.heap.objs.size=S+1:=Heap.size_push ..;have run:wpAny (model prog w) A.in1 (Builtin.List.listExtendWith (.ref S) (.ref a) (.ref S)) (fun fin s'=>match fin with | .done f=>Z (.ok f) s' | .again c'=>c'.quiet=true/\codeAny (model prog w) A c' Z s') (fun e s'=>Z (.error e) s') s1:=by
  have hT1:s1.TypeIs (.ref a) "set":=let ⟨o,g,x,_⟩:=hA1;⟨o,g,x.1⟩;unfold Builtin.List.listExtendWith;refine wpAny_bind (wpAny_typeOf (T:="set") hT1 ?_);have ns:Builtin.List.listSameRef (.ref S) (.ref a)=false:=by simp only[Builtin.List.listSameRef,beq_eq_false_iff_ne];exact Nat.ne_of_gt la
  have n1:(Value.type "set" == Value.type "list")=false:=by decide
  have n2:(Value.type "set" == Value.type "tuple")=false:=by decide
  simp only[ns,n1,n2,Bool.or_false,Bool.false_eq_true,if_false];refine wpAny_bind (znw hA1 hf hz (fun hc=>?_) (fun hc ps d' hp=>?_))
  ·have hI:yoe (s1.heap.push (itO a (rawInt 0) es.size ep)) s1.heap.objs.size a (rawInt 0) 0 es.size ep:=⟨_,Heap.get?_push_size _ rfl,rfl,rfl⟩
   have hA2:yh8 (s1.heap.push (itO a (rawInt 0) es.size ep)) a es ep t:=hA1.keep fun o e=>Heap.get?_push_of_some _ e;have hT2:Shared.TypeIs { s1 with heap:=s1.heap.push (itO a (rawInt 0) es.size ep) } (.ref a) "set":=let ⟨o,g,x,_⟩:=hA2;⟨o,g,x.1⟩;have hne:a≠s1.heap.objs.size:=by rw[z1];exact Nat.ne_of_lt (Nat.lt_succ_of_lt la)
   have hSf:S ∉ [s1.heap.objs.size,a]:=by rw[z1];simp only[List.mem_cons,List.not_mem_nil,or_false,not_or];exact⟨Nat.ne_of_lt (Nat.lt_succ_self _),Nat.ne_of_gt la⟩
   have out:∀ (ord:List (Int × Value)),ord.length=es.size->ord.Perm es.toList->∀ h' tk acc c,(∀ b o,b≠S->b≠s1.heap.objs.size->(s1.heap.push (itO a (rawInt 0) es.size ep)).get? b=some o->h'.get? b=some o)->h'.get? S=some { cls:=.type "list",dict:=none,data:=.seq acc c,slots:=#[] }->
     ItemsOf (fun i v=>(ord[i]?).map (·.2)=some v) acc es.size->Z (.ok (.ret (.ref S))) { s1 with heap:=h',toks:=tk }:=fun ord hl hp h' tk acc c k g it=>⟨h',tk,s.drawn,acc,c,rfl,rfl,fun b o e=>by
      have lb:=Heap.lt_size e;exact k b o (Nat.ne_of_lt lb) (by rw[z1];exact Nat.ne_of_lt (Nat.lt_succ_of_lt lb)) (Heap.get?_push_of_some _ (Heap.get?_push_of_some _ e)),g,by rw[zja hl it];exact hp.map _⟩
   cases hb:bT w with
   |true=>
    have hl:(pickOrder (w.params.setOrder a ep) es).toList.length=es.size:=by rw[(zj1 _ _).length_eq,Array.length_toList]
    exact zqa (zhj (f:=fun _=>0) (ord:=(pickOrder (w.params.setOrder a ep) es).toList) hh hf hne hl fun s' i hS' _ A' E' Q' q'=>ylg hb hS' hf (by rw[<-Array.getElem?_toList];exact q')) hn hSf hT2 ⟨hI,hA2⟩ (Heap.get?_push_of_some _ g0) (out _ hl (zj1 _ _))
   |false=>
    have hp:(!t.plain && decide (es.size > 1))=false:=by rw[hb]at hc;simpa using hc
    have hl:es.toList.length=es.size:=Array.length_toList;exact zqa (zhj (f:=fB t.place) (ord:=es.toList) hh hf hne hl fun s' i hS' hi A' E' Q' q'=>ylh hb hk hp hi hS' hf (by rw[<-Array.getElem?_toList];exact q')) hn hSf hT2 ⟨hI,hA2⟩ (Heap.get?_push_of_some _ g0) (out _ hl (.refl _))
  ·let h2:Heap:=(s1.heap.push (ys8 ps)).push (itO a (.ref s1.heap.objs.size) es.size ep);have k2:∀ b o,s1.heap.get? b=some o->h2.get? b=some o:=fun b o e=>Heap.get?_push_of_some _ (Heap.get?_push_of_some _ e);have z2:(s1.heap.push (ys8 ps)).objs.size=s1.heap.objs.size+1:=Heap.size_push ..;have hI:yoe h2 (s1.heap.objs.size+1) a (.ref s1.heap.objs.size) 0 es.size ep:=⟨_,by rw[<-z2];exact Heap.get?_push_size _ rfl,rfl,rfl⟩
   have hA2:yh8 h2 a es ep t:=hA1.keep fun o e=>k2 a o e;have hTp:yid h2 s1.heap.objs.size ps:=⟨_,_,Heap.get?_push_of_some _ (Heap.get?_push_size _ rfl),rfl⟩
   have hT2:Shared.TypeIs { s1 with heap:=h2,drawn:=d' } (.ref a) "set":=let ⟨o,g,x,_⟩:=hA2;⟨o,g,x.1⟩;refine zqa (s:={ s1 with heap:=h2,drawn:=d' }) (zhi (p:=s1.heap.objs.size) hh hf (by rw[z1];exact Nat.ne_of_lt (Nat.lt_succ_of_lt (Nat.lt_succ_of_lt la))) (Nat.ne_of_lt (Nat.lt_succ_self _)) hp) hn (by rw[z1];simp only[List.mem_cons,List.not_mem_nil,or_false,not_or];exact⟨Nat.ne_of_lt (Nat.lt_succ_of_lt (Nat.lt_succ_self _)),Nat.ne_of_gt la,Nat.ne_of_lt (Nat.lt_succ_self _)⟩) hT2 ⟨⟨hI,hA2⟩,hTp⟩ (k2 _ _ g0) fun h' tk acc c k g it=>⟨h',tk,d',acc,c,rfl,rfl,fun b o e=>?_,g,zel hp it⟩
   have lb:=Heap.lt_size e;exact k b o (Nat.ne_of_lt lb) (by rw[z1];exact Nat.ne_of_lt (Nat.lt_succ_of_lt (Nat.lt_succ_of_lt lb))) (k2 b o (Heap.get?_push_of_some _ e))
 have close:∀ {h':Heap} {tk c:Nat} {d':Drawn} {acc:Array Value},(∀ b o,s.heap.get? b=some o->h'.get? b=some o)->h'.get? S=some { cls:=.type "list",dict:=none,data:=.seq acc c,slots:=#[] }->acc.toList.Perm (es.toList.map (·.2))->R acc.toList { s with heap:=h',toks:=tk,drawn:=d' }:=fun kp g it=>fin _ _ _ _ kp (Nat.le_of_lt (Heap.lt_size g)) it;unfold collect;refine wpAny_bind (wpAny_runValue (codeAny_builtin entry_proto_collect' ?_));rw[Around.under_plainId PySem.F.plain_proto_collect _];show wpAny _ A.in1 (newList [] >>= fun l=>again (.builtin "list.__iadd__" ⟨[l,.ref a],[]⟩)) _ _ s;refine wpAny_bind (wpAny_newObj_type (wpAny_pure ⟨plainId_quiet PySem.F.plain_list_iadd _,codeAny_builtin entry_list_iadd' ?_⟩));rw[Around.under_plainId PySem.F.plain_list_iadd _];show wpAny _ A.in1 (Builtin.List.listExtendWith (.ref S) (.ref a) (.ref S)) _ _ _;refine wpAny_mono run (fun f s' x=>?_) (fun e s' x=>by obtain⟨_,_,_,_,_,z,_⟩:=x;cases z);cases f with
 |done f=>
  obtain⟨h',tk,d',acc,c,e,rfl,kp,g,it⟩:=x;cases e;exact wpAny_bind (wpAny_load g (wpAny_pure (close kp g it)))
 |again c1=>
  refine⟨x.1,codeAny_mono x.2 fun q s2 y=>?_⟩;obtain⟨h',tk,d',acc,c,rfl,rfl,kp,g,it⟩:=y;exact wpAny_bind (wpAny_load g (wpAny_pure (close kp g it)))
end
end L4
namespace L4
open PySem PySem.Spec PyProof.Rows L2
theorem zh8(ns:List Int):(ddp ns).Nodup:=by
 unfold ddp;have h:∀ (l acc:List Int),acc.Nodup->(l.foldl step_dedup acc).Nodup:=by
  intro l;induction l with
  |nil=>intro acc h;exact h
  |cons x l ih=>
   intro acc h;rw[List.foldl_cons];refine ih _ ?_;unfold step_dedup;split
   ·exact h
   ·rename_i hx
    rw[List.nodup_append];refine⟨h,by simp,fun a ha b hb=>?_⟩;rw[List.mem_singleton]at hb;intro e;subst e;subst hb;exact hx (List.any_eq_true.mpr ⟨_,ha,by simp⟩)
 exact h ns [] List.nodup_nil
theorem zw8{α:Type}[DecidableEq α]:∀ {l1 l2:List α},l1.Nodup->(∀ x∈l1,x∈l2)->l2.length<=l1.length->l1.Perm l2
 |[],l2,_,_,h=>by
  have:l2=[]:=List.length_eq_zero_iff.mp (Nat.le_zero.mp h);subst this;exact .refl _
 |x::l1,l2,hn,hs,hl=>by
  rw[List.nodup_cons]at hn;have hx:=hs x List.mem_cons_self;have p:=List.perm_cons_erase hx;have ih:=zw8 (l1:=l1) (l2:=l2.erase x) hn.2 (fun y hy=>(List.mem_erase_of_ne (show y≠x from fun e=>hn.1 (by rw[<-e];exact hy))).mpr (hs y (List.mem_cons_of_mem _ hy))) (by rw[List.length_erase_of_mem hx];simp at hl;omega);exact(ih.cons x).trans p.symm
theorem zuz:∀ {prog:Program} {w:World} {l:List (Int × Value)},ElemsOf (intKind prog w) l->∃ is,IntsAre (l.map (·.2)) is/\is.length=l.length/\∀ k,k∈is ↔ ∃ e∈l,(intKind prog w).is k e.2=true
 |prog,w,[],_=>⟨[],.nil,rfl,fun k=>by simp⟩
 |prog,w,e::l,h=>by
  obtain⟨is,h1,h2,h3⟩:=zuz (fun x hx=>h x (.tail _ hx):ElemsOf (intKind prog w) l);obtain⟨⟨k,hk,_⟩,_⟩:=h e (.head _);have hk0:=hk;obtain⟨t,et⟩:=Value.isInt_shape hk;refine⟨k::is,by rw[List.map_cons,et];exact .cons k t h1,by simp[h2],fun k'=>?_⟩;rw[List.mem_cons,h3 k'];constructor
  ·rintro (rfl|⟨x,hx,q⟩)
   ·exact⟨e,.head _,hk0⟩
   ·exact⟨x,.tail _ hx,q⟩
  ·rintro ⟨x,hx,q⟩;rcases List.mem_cons.mp hx with rfl|hx
   ·exact .inl ((intKind prog w).inj _ _ _ q hk0)
   ·exact .inr ⟨x,hx,q⟩
theorem zi3{l l':List Value}(p:l'.Perm l):∀ {is:List Int},IntsAre l is->∃ is',IntsAre l' is'/\is'.Perm is:=by
 induction p with
 |nil=>intro is h;exact⟨is,h,.refl _⟩
 |cons x p ih=>
  intro is h;cases h with
  |cons n t h=>obtain⟨is',h1,h2⟩:=ih h;exact⟨n::is',.cons n t h1,h2.cons n⟩
 |swap x y l=>
  intro is h;cases h with
  |cons n t h=>
   cases h with
   |cons m u h=>exact⟨m::n::_,.cons m u (.cons n t h),.swap _ _ _⟩
 |trans p1 p2 ih1 ih2=>
  intro is h;obtain⟨is2,h1,h2⟩:=ih2 h;obtain⟨is3,h3,h4⟩:=ih1 h1;exact⟨is3,h3,h4.trans h2⟩
def StH(P:Program)(w:World)(ns:List Int)(a:Addr):Heap->Prop:=fun h=>yov (intKind P w) (bT w) h a (fun k=>(ddp ns).any (·== k)) (ddp ns).length
theorem zq4{P:Program}{w:World}{ns:List Int}{a:Addr}:∀ h1 h2:Heap,StH P w ns a h1->(∀ u,h1.get? a=some u->h2.get? a=some u)->StH P w ns a h2:=fun h1 h2 x k=>zzr x k
section
variable{T:Tb}{X:Cx}
def ymg(X:Cx):List V->Hp->VK->Prop:=fun xs H Q=>∃ (p:Addr) (ns:List Int),xs=[.ref p]/\SqL X.K H p (ns.map V.int)/\ns.length<64/\∀ l,H l=none->Q (.ref l) (upd H l (.ext (StH X.prog X.w ns l)))
theorem zhx(hc:X.calm=true):yh0 X (.type "set") (ymg X):=by
 intro pins s st H xs us Q I r h;obtain⟨p,ns,rfl,hq,hl,q⟩:=h;obtain⟨u,rfl,ru⟩:=yny r;cases ru;obtain⟨its,rv,pl,hz⟩:=I.list hq;have el:its.length=ns.length:=by rw[<-rv.length,List.length_map]
 refine zhy (I.ok.hd hc) pl.isList (ns:=ns) (zf7 rv) (by rw[List.size_toArray,el];exact zlm (Nat.le_trans (Nat.le_of_lt hl) (by decide))) fun h' tk hs hk=>?_;rw[show its.toArray.size=ns.length by rw[List.size_toArray,el],zh7]at hs;refine⟨.ref s.heap.objs.size,_,I.laid (t':=tk) (o:=.ext (StH X.prog X.w ns s.heap.objs.size)) (fun b o e=>hk b o (Heap.lt_size e) e) (Nat.le_refl _) ?_,rfl,q _ (I.hok.fresh (Nat.le_refl _))⟩;exact⟨hs,let ⟨o,_,_,_,g,_⟩:=hs;⟨o,g⟩,zq4⟩
theorem zns{pins:List (Addr × Obj)}{st:St}{H:Hp}{s:Shared}(I:Inv X pins st H s)(d':Drawn):Inv X pins st H { s with drawn:=d' }:=⟨I.ok,I.os,I.bare,I.base,I.loc,I.cell,I.free,I.freeC,I.pin,I.hok,I.len⟩
def ymj(X:Cx):List V->Hp->VK->Prop:=fun xs H Q=>∃ (a:Addr) (ns:List Int),xs=[.ref a]/\H a=some (.ext (StH X.prog X.w ns a))/\ns.length<64/\(ddp ns).length<=ns.length/\∀ l,H l=none->Q (.ref l) (upd H l (.lst ((ysp (ddp ns)).map V.int)))
theorem zh1(hc:X.calm=true):yh0 X (.builtin "sorted") (ymj X):=by
 intro pins s σ H xs us Q I r h;obtain⟨a,ns,rfl,hH,h64,hdl,q⟩:=h;obtain⟨u,rfl,rx⟩:=yny r;cases rx;obtain⟨⟨o,es,ep,t,g1,g2,g3,g4,g5,g6,g7,g8,g9⟩,_,_⟩:=I.hok a _ hH;obtain⟨is,i1,i2,i3⟩:=zuz g4;have hp:is.Perm (ddp ns):=(zw8 (zh8 ns) (fun x hx=>(i3 x).mpr ((g5 x).mp (List.any_eq_true.mpr ⟨x,hx,by simp⟩))) (by rw[i2,Array.length_toList,g8];exact Nat.le_refl _)).symm;have he64:es.size<64:=by omega
 have hn:es.size<=sizeLine:=fits_of_scanBound g6;refine Calls.call_function_entry kind_sorted plain_sorted entry_sorted (args_sorted1 _) ?_;unfold Builtin.«sorted»;refine wpAny_bind (m:=checkCount "sorted" 1 1 _) (wpAny_pure ?_);refine wpAny_bind (zed (A:=X.A.in1) (I.ok.hd hc) ⟨o,g1,g2,g3⟩ g7 g9 g6 fun h' tk d' acc kp hsz hacc=>?_);obtain⟨is',hI,hp'⟩:=zi3 hacc i1;have hl:acc.toList.length=es.size:=by rw[hacc.length_eq,List.length_map,Array.length_toList]
 refine wpAny_bind (wpAny_newList ?_ (by rw[hl];exact hn));have hoL:(h'.push (seqObj "list" acc.toList.toArray 0)).get? h'.objs.size=some (seqObj "list" acc.toList.toArray 0):=Heap.get?_push_size _ rfl;refine wpAny_bind (wpAny_holding (wpAny_call_entry slot_list_sort ⟨_,hoL,rfl⟩ entry_list_sort (list_sort_tree hoL hI (by rw[hl];exact he64) fun out ns' a1 a2 a3=>⟨_,rfl,?_⟩) (args_list_sort _)));refine wpAny_pure ⟨_,rfl,?_⟩;have en:ns'=ysp (ddp ns):=zxs (a2.trans (hp'.trans (hp.trans (zkq _).symm))) a3 (zzp _);subst en;have hls:=(zkq (ddp ns)).length_eq;obtain⟨e,he⟩:=sortedHeap_at (out:=out) hoL;exact⟨.ref h'.objs.size,_,(zns I d').laid (t':=tk) (fun b o eb=>by
  have lt:b<h'.objs.size:=Heap.lt_size (kp b o eb);rw[sortedHeap_old (Nat.ne_of_lt lt) (by rw[size_push'];exact Nat.lt_succ_of_lt lt)];exact Heap.get?_push_of_some _ (kp b o eb)) hsz (show yh5 X.prog X.w _ _ _ (.lst ((ysp (ddp ns)).map V.int))from⟨by rw[List.length_map,hls];exact Nat.le_trans (show (ddp ns).length<=1000 by omega) (by decide),out.toList,e,zkz a1,by rw[Array.toArray_toList];exact he⟩),rfl,q _ (I.hok.fresh hsz)⟩
def zwr(x:D):M D:=fun σ=>match (yqt σ x).bind ydm with
 |some ns=>if ns.length<64 then yk6 ((ysp (ddp ns)).map D.int) σ else .bad
 |none=>.bad
theorem ybb(ns:List Int):(ddp ns).length<=ns.length:=by rw[<-zh7];exact firstMet_length_le _ _
theorem zp4{μ:List Addr}{H:Hp}:∀ (is:List Int),yot T μ H (is.map D.int) (is.map V.int)
 |[]=>yot.nil
 |i::is=>yot.cons (by rw[Rep]) (zp4 is)
theorem zik{e:Expr}{f:Ev->M D}{p p2 pos pos2:Pos}(hK:T.K=X.K)(hc:X.calm=true)(hg:Gl X "sorted")(hm:X.mg "sorted" = none)(hg2:Gl X "set")(hm2:X.mg "set" = none)(he:FE T X e f)
  (hs:starEach [e] X.env=(false,eval e X.env)::starEach [] X.env:=by rfl) (hpl:(backTo pos2 (starEach [] X.env)).any (·.1)=false:=by rfl)
  (hs2:starEach [.Call (.Name "set" p2) [e] [] pos2] X.env=(false,eval (.Call (.Name "set" p2) [e] [] pos2) X.env)::starEach [] X.env:=by rfl) (hpl2:(backTo pos (starEach [] X.env)).any (·.1)=false:=by rfl) :
  FE T X (.Call (.Name "sorted" p) [.Call (.Name "set" p2) [e] [] pos2] [] pos) (eUn zwr f):=by
 intro pins s st H Q I h;refine zpe (zh1 hc) hg hm L4.zea (zwx (zjz (zhx hc) hg2 hm2 rfl (zwx he yfi hs) (by decide) (by decide) hs hpl) yfi hs2) (by decide) (by decide) hs2 hpl2 pins s st H Q I ?_;obtain⟨μ,ρ,σ,hE,hr,hp⟩:=h;refine⟨μ,ρ,σ,hE,hr,hp.bind fun d σ1 μ1 v H1 _ e1 r1 q1 p1=>?_⟩;unfold zwr at p1;cases e2:(yqt σ1 d).bind ydm with
 |none=>rw[e2]at p1;exact p1.elim
 |some ns=>
  rw[e2]at p1;dsimp only at p1;by_cases hl:ns.length<64
  ·rw[if_pos hl]at p1;obtain⟨ys,e3,e4⟩:=Option.bind_eq_some_iff.mp e2;obtain⟨a,vs,rfl,h1,h2⟩:=r1.ls q1 e3;have ev:=znr h2 e4;subst ev;refine⟨a,ns,rfl,SqL.of h1,hl,fun l hn=>⟨l,ns,rfl,zre,hl,ybb ns,fun l2 hn2=>?_⟩⟩;have p2:=yol.mono (zs8 (o:=.ext (StH X.prog X.w ns l)) hn) p1;exact zv2 p2 (r1.fresh hn) (zp4 _) hn2
  ·rw[if_neg hl]at p1;exact p1.elim
def rClear:V->List V->Hp->VK->Prop:=fun x xs H Q=>∃ (a:Addr) (kvs:List (Key × V)),x=.ref a/\xs=[]/\H a=some (.dK kvs)/\Q .non (upd H a (.dK []))
theorem mt_clear:MtR X "dict.clear" rClear:=by
 intro pins s st H x vs v us Q I rx rv h;obtain⟨a,kvs,rfl,rfl,hH,q⟩:=h;cases rx;cases rv;obtain⟨z,hd,ws,rel,dd⟩:=yis I.hok hH;have hz:ws.length<=sizeLine:=by rw[<-rel.length];exact z
 refine call_meetsIn PySem.F.slot_dict_clear dd.typeIs PySem.F.entry_dict_clear (PySem.F.args_dict_clear_1 _) (meets_dict_clear (zvs X.prog X.w) a) ⟨ws,dd,hz,fun h' dd' hs=>?_⟩;have he:∃ q,h'.get? a=some q:=let ⟨q,_,_,hq,_⟩:=dd';⟨q,hq⟩;exact⟨.non,_,zsp I (by rw[hH];exact True.intro) hs he (ybd (by simp) hd .nil dd'),rfl,q⟩
def yev(x:D)(xs:List D):M D:=fun σ=>match x,xs with
 | .ref n,[]=>(match σ[n]? with
  |some (.dic _)=>.ok .non (σ.set n (.dic []))
  |_=>.bad)
 |_,_=>.bad
theorem zko:yh9 T rClear yev:=by
 intro E μ H σ x xs v vs Q r p q h;cases x with
 |ref n=>
  match xs with
  |[]=>
   unfold yev at h;dsimp only at h;cases es:σ[n]? with
   |none=>rw[es]at h;exact h.elim
   |some ob=>
    rw[es]at h;cases ob with
    |dic kvs=>
     dsimp only at h;obtain⟨a,rfl,hn,h2⟩:=r.at p es;obtain⟨us,h3,h4⟩:=h2;rw[yot]at q;subst q;have ex:Ext μ H μ (upd H a (.dK [])):=zif (List.mem_of_getElem? hn) h3 (fun _ z=>by cases z) (fun _ _ z=>by cases z);have wr:=r.write (o:=.dK []) (ob:=.dic []) hn ⟨[],zre,Paired.nil⟩;exact⟨a,us,rfl,rfl,h3,h μ .non _ wr.1 wr.2 (by rw[Rep])⟩
    |lst _=>exact h.elim
    |ins _ _=>exact h.elim
    |fdic _=>exact h.elim
    |tdic _=>exact h.elim
  |_::_=>exact h.elim
 |_=>cases xs<;>exact h.elim
theorem zij{o:Expr}{f:Ev->M D}{name:Str}{id:String}{r:V->List V->Hp->VK->Prop}{g:D->List D->M D}{apos cpos:Pos}(pa:PlainAttrs "dict")(slot:Slot "dict" name id)(hty:typeOf (.builtin id)=pure (.type "method_descriptor"))(hm:MtR X id r)(hs:yh9 T r g)(ho:FE T X o f)
  (hbase:attributeBase o name X.env (eval o X.env)=eval o X.env:=by rfl) (hline:(apos.endLine == cpos.line)=true:=by rfl):FE T X (.Call (.Attribute o name apos) [] [] cpos) (ybk g f yo2):=by
 intro pins s st H Q I h;refine zw2 pa slot hty hm ho hbase hline pins s st H Q I ?_;obtain⟨μ,ρ,σ,he,hr,hp⟩:=h;refine⟨μ,ρ,σ,he,hr,hp.bind fun x σ1 μ1 v H1 _ e1 r1 p1 q1=>?_⟩;unfold yei at q1;cases el:ypr σ1 x with
 |none=>rw[el]at q1;exact q1.elim
 |some xs=>
  rw[el]at q1;obtain⟨a,vs,rfl,h1,h2⟩:=ygf r1 p1 el;exact⟨⟨a,vs,rfl,h1⟩,hs _ μ1 H1 σ1 x [] (.ref a) [] Q r1 p1 yot.nil q1⟩
end
section
variable{X:Cx}{pins:List (Addr × Obj)}{σ:St}{H:Hp}{s:Shared}
theorem _root_.L2.Inv.freeze{a:Addr}{kvs:List (Key × V)}{od:Obj}(I:Inv X pins σ H s)(hd:H a=some (.dK kvs))(e:s.heap.get? a=some od):Inv X pins σ (upd H a (.frz od (.dK kvs))) s:=by
 have ne:∀ b u,H b=some u->u≠.dK kvs->b≠a:=fun b u q n z=>by rw[z,hd]at q;exact n (Option.some.inj q).symm
 refine I.step (g':=s.gens) (d':=s.drawn) (t':=s.toks) (h':=s.heap) (ch:=[]) (fun _ z=>nomatch z) (fun b o _ _ _ q _=>q) (fun b o _ _ _ q _=>⟨o.slots,q⟩) (fun b o _ q n=>?_) (fun b o _ q=>⟨o,q⟩)
  (fun b xs q=>by rw[yhv (ne b _ q (fun z=>by cases z))];exact q) (fun b u xs q=>by rw[yhv (ne b _ q (fun z=>by cases z))];exact q) (fun b ps q=>⟨#[],by rw[yhv (ne b _ q (fun z=>by cases z)),q];simp⟩) (fun m hm=>hm) (fun b u q=>?_) I.bare
 ·rw[yhv (fun z=>by rw[z,hd]at n;cases n)];exact n
 ·by_cases hb:b=a
  ·subst hb;rw[zre]at q;cases q;exact⟨e,I.hok b _ hd⟩
  ·rw[yhv hb]at q;exact(I.hok b u q).stay (fun c v _ z=>z) (fun c z=>by rw[yhv (ne c _ z (fun y=>by cases y))];exact z) fun c xs z=>by rw[yhv (ne c _ z (fun y=>by cases y))];exact z
theorem ycr{a:Addr}{kvs:List (Key × V)}{od:Obj}(I:Inv X pins σ H s)(hd:H a=some (.frz od (.dK kvs))):∃ vs es ep,KV kvs vs/\od.data=.dict es ep/\s.heap.DictAt (zvs X.prog X.w) a vs ep:=by
 obtain⟨e,_,_,vs,rel,o,es,ep,e2,ex,dt,r⟩:=I.hok a _ hd;rw[e]at e2;cases e2;exact⟨vs,es,ep,rel,dt,od,es,e,ex,dt,r⟩
end
def Itm(d:Addr)(od:Obj)(kvs:List (Key × V)):It:=
 ⟨fun i H=>H d=some (.frz od (.dK kvs))/\∃ x,kvs[i]?=some x,fun i H v H'=>∃ p k x,H p=none/\v=.ref p/\kvs[i]?=some (k,x)/\H'=upd H p (.tup [kV k,x]),fun i H=>H d=some (.frz od (.dK kvs))/\i=kvs.length⟩
theorem yd4{κ:Type}:∀ {kvs:List (κ × V)} {vs:List (κ × Value)} (r:KV kvs vs) (i:Nat) {k:κ} {x:V},kvs[i]?=some (k,x)->∃ u,vs[i]?=some (k,u)/\yoq x u
 |_,_,.nil,i,_,_,h=>by simp at h
 |_,_,.cons (b:=q) a b,0,k,x,h=>by
  simp only[List.getElem?_cons_zero,Option.some.injEq]at h;obtain⟨a1,a2⟩:=a;rw[h]at a1 a2;exact⟨q.2,by simp only[List.getElem?_cons_zero,Option.some.injEq];exact Prod.ext a1.symm rfl,a2⟩
 |_,_,.cons a b,i+1,k,x,h=>by
  simp only[List.getElem?_cons_succ]at h ⊢;exact yd4 b i h
theorem zn9{P:Program}{w:World}{k:Key}{v:Value}(h:(zvs P w).is k v=true):yoq (kV k) v:=by
 rcases zem (k:=k) (v:=v) h with⟨i,t,rfl,rfl⟩|⟨x,t,rfl,rfl⟩
 ·exact⟨t,rfl⟩
 ·exact⟨t,rfl⟩
theorem zhe{P:Program}{w:World}{K:W.Frag}{elts:List Expr}{kk:Nat}{pos:Pos}(d it:Addr)(od:Obj)(kvs:List (Key × V))(hne:d≠it){es:Array DictEntry}{ep:Nat}(hod:od.data=.dict es ep) :
  Turn P w K (.Tuple elts kk pos) (Itm d od kvs) [it] it (fun i h=>∃ ok ov,IsItemIter h it d i kvs.length ep ok ov) where
 mem:=by simp
 obj:=fun i h st b hb=>by
  obtain⟨ok,ov,s1⟩:=st;obtain rfl:b=it:=by simpa using hb
  exact⟨_,s1,fun v z=>by cases z⟩
 keep:=fun i h h' st k=>by
  obtain⟨ok,ov,s1⟩:=st;exact⟨ok,ov,k it (by simp) _ s1⟩
 item:=by
  intro X hP hw hK hc i pins s σ H E I hf st hg;subst hP hw hK;obtain⟨hd,⟨k,x⟩,hx⟩:=hg;obtain⟨vs,es',ep',rel,dt,hm⟩:=ycr I hd;rw[hod]at dt;cases dt;obtain⟨u,hu,ru⟩:=yd4 rel i hx;obtain⟨ok,ov,s1⟩:=st;rw[rel.length]at s1;refine wpAny_pyNext_items_item s1 hm hu fun key h' hkey ho hT hsz hk=>?_;have hTn:s.heap.objs.size≠it:=Nat.ne_of_gt (Heap.lt_size s1);refine⟨.ref s.heap.objs.size,rfl,wpAny_letOwnedTupleGo_items ho fun h2 hi2 hs2=>?_⟩;have hn:H s.heap.objs.size=none:=I.hok.fresh (Nat.le_refl _);have hT2:h2.get? s.heap.objs.size=some { cls:=.type "tuple",data:=.seq #[key,u] }:=hs2.extBut _ _ hTn hT;refine⟨.ref s.heap.objs.size,upd H s.heap.objs.size (.tup [kV k,x]),I.turnL (t':=s.toks) (o:=.tup [kV k,x]) (its:=[it]) (fun b o hb q=>hs2.extBut b o (fun z=>hb (by simp[z])) (hk b o (fun z=>hb (by simp[z])) q)) hf (Nat.le_refl _) ?_,rfl,⟨_,k,x,hn,rfl,hx,rfl⟩,⟨key,u,by rw[rel.length];exact hi2⟩,fun b hb=>?_⟩
  ·exact⟨(show (2:Nat)<=sizeLine by decide),[key,u],.cons (zn9 hkey) (.cons ru .nil),⟨_,hT2,rfl,_,rfl⟩⟩
  ·obtain rfl:b=it:=by simpa using hb
   rw[yhv (fun z=>hTn z.symm)];exact(hf b hb).1
 done:=by
  intro X hP hw hK hc i pins s σ H E I hf st hg;subst hP hw hK;obtain⟨hd,hi⟩:=hg;obtain⟨vs,es',ep',rel,dt,hm⟩:=ycr I hd;rw[hod]at dt;cases dt;obtain⟨ok,ov,s1⟩:=st;rw[rel.length]at s1 hi;exact wpAny_pyNext_items_end (I.ok.hd hc) s1 hm (by rw[hi];simp) fun h' eb=>⟨rfl,I.turnN (t':=s.toks) (its:=[it]) (fun b o hb q=>eb b o (fun z=>hb (by simp[z])) q) hf⟩
 self:=fun A i s Q E st h=>by
  obtain⟨ok,ov,s1⟩:=st;exact W.kcp_self s1 h
def yo1(l a:Addr):Heap->Prop:=fun h=>h.IsItemsView l a
def ygc:V->List V->Hp->VK->Prop:=fun x xs H Q=>∃ a kvs,x=.ref a/\xs=[]/\Rd H a (.dK kvs)/\∀ l,H l=none->Q (.ref l) (upd H l (.ext (yo1 l a)))
theorem zz5{H:Hp}{a:Addr}{o:HO}(h:H a=some o):upd H a o=H:=by
 funext b;unfold upd;split
 ·next e=>rw[e,h]
 ·rfl
theorem zni(h:Heap)(o:Obj)(hf:o.data≠.freed):(h.push o).get? h.objs.size=some o:=by
 obtain⟨c,d,x,sl⟩:=o;simp[Heap.get?,Heap.push];cases x<;>first|rfl|exact absurd rfl hf
section
variable{T:Tb}{X:Cx}{elts:List Expr}{kk:Nat}{p0:Pos}
theorem zor:MtR X "dict.items" ygc:=by
 intro pins s st H x vs v us Q I rx rv h;obtain⟨a,kvs,rfl,rfl,hH,q⟩:=h;cases rx;cases rv;obtain⟨z,hd,ws,rel,dd⟩:=yit I.hok hH;refine call_meetsIn PySem.F.slot_dict_items dd.typeIs PySem.F.entry_dict_items (PySem.F.args_dict_items_1 _) (meets_dict_items (zvs X.prog X.w) a hd) ⟨⟨ws,dd⟩,?_⟩;refine⟨.ref s.heap.objs.size,_,I.laid (t':=s.toks) (o:=.ext (yo1 s.heap.objs.size a)) (fun b o e=>Heap.get?_push_of_some _ e) (Nat.le_refl _) ?_,rfl,q _ (I.hok.fresh (Nat.le_refl _))⟩;refine⟨⟨_,zni _ _ (fun z=>by cases z),rfl,rfl⟩,⟨_,zni _ _ (fun z=>by cases z)⟩,fun h1 h2 p k=>?_⟩;obtain⟨o,e,c⟩:=p;exact⟨o,k o e,c⟩
def ydk(te:TE):TI:=fun σ H R=>te σ H fun v H1=>∃ l a kvs,v=.ref l/\H1 l=some (.ext (yo1 l a))/\Rd H1 a (.dK kvs)/\∀ od,H1 a=some (.dK kvs)\/H1 a=some (.frz od (.dK kvs))->R (Itm a od kvs) (upd H1 a (.frz od (.dK kvs)))
theorem zpl{iter:Expr}{te:TE}(he:PE X iter te):PI X (.Tuple elts kk p0) iter (ydk te):=by
 intro pins s σ H R I h;refine thn (he pins s σ H _ I h) fun v s1 ⟨x,H1,I1,r1,q1⟩=>?_;obtain⟨l,a,kvs,rfl,hl,hk,q⟩:=q1;cases r1;obtain⟨od,hod,I2⟩:∃ od,(H1 a=some (.dK kvs)\/H1 a=some (.frz od (.dK kvs)))/\Inv X pins σ (upd H1 a (.frz od (.dK kvs))) s1:=by
  rcases hk with hk|⟨od,hk⟩
  ·obtain⟨_,_,vs,rel,o,es,ep,e,_⟩:=I1.hok a _ hk;exact⟨o,.inl hk,I1.freeze hk e⟩
  ·exact⟨od,.inr hk,by rw[zz5 hk];exact I1⟩
 obtain⟨vs,es,ep,rel,dt,hm⟩:=ycr I2 zre;have hv:s1.heap.IsItemsView l a:=(I1.hok l _ hl).1;have hne:a≠s1.heap.objs.size:=Nat.ne_of_lt hm.lt_size;refine wpAny_pyIter_items hv hm ?_;refine⟨s1.heap.objs.size,[s1.heap.objs.size],_,Itm a od kvs,_,rfl,I2.kept (t':=s1.toks) (fun b o e=>Heap.get?_push_of_some _ e),zhe a _ od kvs hne dt,⟨.none,.none,by rw[rel.length];exact zni _ _ (fun z=>by cases z)⟩,fun b hb=>?_,q od hod⟩;obtain rfl:b=s1.heap.objs.size:=by simpa using hb
 exact I2.fpOk (Nat.le_refl _) (I2.hok.fresh (Nat.le_refl _))
def nxI(kv:List (Key × D)):NX:=fun i _=>match kv[i]? with
 |some p=>some (some (.tup [yqq p.1,p.2]))
 |none=>if i=kv.length then some none else none
theorem zva{μ:List Addr}{H:Hp}(k:Key):Rep T μ H (yqq k) (kV k):=by
 cases k<;>(unfold yqq kV;rw[Rep])
theorem zs7{μ:List Addr}{H:Hp}{a:Addr}{od:Obj}{kvs:List (Key × V)}(hk:H a=some (.dK kvs)):Ext μ H μ (upd H a (.frz od (.dK kvs))):=by
 have ne:∀ b u,H b=some u->u≠.dK kvs->b≠a:=fun b u q n z=>by rw[z,hk]at q;exact n (Option.some.inj q).symm
 refine⟨⟨[],by simp⟩,fun p xs h=>by rw[yhv (ne p _ h (fun z=>by cases z))];exact h,fun p o u h=>by rw[yhv (ne p _ h (fun z=>by cases z))];exact h,fun p o h n=>⟨?_,n⟩⟩;by_cases e:p=a
 ·subst e;rw[hk]at h;cases h;exact⟨_,zre,.inr (.inl ⟨od,kvs,rfl,rfl⟩)⟩
 ·exact⟨o,by rw[yhv e];exact h,.inl rfl⟩
theorem zgq{α β:Type}{R:α->β->Prop}:∀ {xs:List α} {ys:List β},Paired R xs ys->∀ (i:Nat) {x:α},xs[i]?=some x->∃ y,ys[i]?=some y/\R x y
 |_,_,.nil,i,_,h=>by simp at h
 |_,_,.cons a b,0,x,h=>by
  simp only[List.getElem?_cons_zero,Option.some.injEq]at h ⊢;subst h;exact⟨_,rfl,a⟩
 |_,_,.cons a b,i+1,x,h=>by
  simp only[List.getElem?_cons_succ]at h ⊢;exact zgq b i h
end
def zvg(nx:NX)(n:Nat)(tg:D->Ev->Option Ev)(fi:Ev->M Bool)(fe:Ev->M D):Nat->Nat->Ev->M Unit
 |0,_,_=>bad
 |k+1,i,ρ=>fun σ=>match nx i σ with
  |none=>.bad
  |some none=>.ok () σ
  |some (some d)=>match tg d ρ with
   |none=>.bad
   |some ρ1=>bnd (nox (fi ρ1)) (fun c=>if c=true then bnd (nox (fe ρ1)) fun y=>bnd (zv8 (.ref n) [y]) fun _=>zvg nx n tg fi fe k (i+1) ρ1 else zvg nx n tg fi fe k (i+1) ρ1) σ
def yqr(tg:D->Ev->Option Ev)(fi:Ev->M Bool)(fe:Ev->M D)(ρ:Ev)(nx:NX):M D:=fun σ=>
 bnd (zvg nx σ.length tg fi fe 1001 0 ρ) (fun _=>ret (.ref σ.length)) (σ++[.lst []])
def ypw(src:Ev->M NX)(ix:List Nat)(tg:D->Ev->Option Ev)(fi:Ev->M Bool)(fe:Ev->M D):Ev->M D:=fun ρ=>bnd (src ρ) (yqr tg fi fe (yam ix ρ))
section
variable{T:Tb}{X:Cx}
theorem zob{E:XK}{elt iter tgt:Expr}{ifs:List Expr}{scope:Scope}{pos:Pos}{x z0:Str}{M':List Str}{ix:List Nat}{tg:D->Ev->Option Ev}{fi:Ev->M Bool}{fe:Ev->M D}
  {pins:List (Addr × Obj)} {st:St} {H3:Hp} {s3:Shared} {h₁:Heap} {t':Nat} {m:Str->Option Value} {fp:List Addr} {it D0:Addr} {tn:Nat->Heap->Prop} {J:It} {nx:NX} {μ3:List Addr} {σ3:Sto} {ρ:Ev} {n:Nat} {Q:VK}
  (hc:X.calm=true) (L:LcOk X x M' ix scope)
  (htg:∀ cl C s₀ H₀ ex,FG T (blk X (x::z0::M') scope cl C s₀ H₀ ex) tgt tg)
  (hif:∀ cl C s₀ H₀ ex,FIf T (blk X (x::z0::M') scope cl C s₀ H₀ ex) ifs fi)
  (helt:∀ cl C s₀ H₀ ex,FE T (blk X (x::z0::M') scope cl C s₀ H₀ ex) elt fe)
  (I3:Inv X pins st H3 s3) (hfp:∀ b∈fp,yoc X pins H3 b/\b<s3.heap.objs.size) (hns:h₁.Ns s3.heap.objs.size m) (kp:∀ b o,s3.heap.get? b=some o->h₁.get? b=some o)
  (TT:Turn X.prog X.w X.K tgt J fp it tn) (hst4:tn 0 h₁) (so:yow T μ3 H3 nx J) (hE:yn9 T μ3 H3 ρ st) (r3:Rel T μ3 H3 σ3) (hn:μ3[n]?=some D0)
  (p3:yol T E (Rep T) μ3 H3 (bnd (zvg nx n tg fi fe 1001 0 (yam ix ρ)) (fun _=>ret (.ref n)) σ3) Q) {RR:Result->Shared->Prop}
  (fin:∀ (s6:Shared) (H':Hp) (m6:Str->Option Value),s6.heap.Ns s3.heap.objs.size m6->H' s3.heap.objs.size=none->Un (frs X.stack) fp H3 H' s3.heap s6.heap->s6.os=s3.os->HOk X.prog X.w H' s6.heap->AllBare s6.gens->Q (.ref D0) H'->RR (.ok .next) s6) :
  codeAny (model X.prog X.w) X.A (.compStart (.ListComp elt [⟨tgt,iter,ifs,0⟩] scope pos) 0 (.ref it) (.ref D0) (compEnvC scope (ypk X.env scope.names []) s3.heap.objs.size X.env))
   RR { s3 with heap:=h₁,toks:=t' }:=by
 have I4:=zfk (z0:=z0) (h':=h₁) (t':=t') I3 L hfp hns kp;let Y:Cx:=blk X (x::z0::M') scope (ypk X.env scope.names []) s3.heap.objs.size s3 H3 fp;have stat:∀ {H':Hp},(∀ b∈fp,H' b=none)->∀ b∈fp,yoc Y [] H' b:=fun {H'} hn b hb=>⟨hn b hb,(I4.ok.exf b hb).1,I4.ok.exfs b hb,.inl hb,(I4.ok.exf b hb).2,fun p hp=>absurd (show p∈([]:List (Addr × Obj))from hp) (by simp)⟩
 have yqs:codeAny (model X.prog X.w) X.A (.compLoop (.ListComp elt [⟨tgt,iter,ifs,0⟩] scope pos) 0 (.ref it) (.ref D0) Y.env) RR { s3 with heap:=h₁,toks:=t' }:=by
  refine codeAny_loop rfl (fun k s'=>∃ i μ' H' σ' ρ' st',Inv Y [] st' H' s'/\tn i s'.heap/\(∀ b∈fp,H' b=none)/\Ext μ3 H3 μ' H'/\yn9 T μ' H' ρ' st'/\Rel T μ' H' σ'/\
   yol T E (Rep T) μ' H' (bnd (zvg nx n tg fi fe k i ρ') (fun _=>ret (.ref n)) σ') Q) ?_ 1001 ⟨0,μ3,H3,σ3,yam ix ρ,yan ix st,I4,hst4,fun b hb=>(hfp b hb).1.1,Ext.refl _ _,zlg ix hE,r3,p3⟩
  rintro k s' ⟨i,μ',H',σ',ρ',st',I',tn',fr',ex',hE',r',p'⟩;show wpAny _ X.A ((compTurn (.ListComp elt [⟨tgt,iter,ifs,0⟩] scope pos) 0 (.ref it) (.ref D0) Y.env).onRaise (fun x=>do noteFrame x Y.env;theTreesLotGoes x)) _ _ s';refine wpAny_noted ?_;rw[compTurn_list];refine wpAny_mono (E:=fun _ _=>False) ?_ (fun _ _ z=>z) (fun _ _ z=>z.elim);refine wpAny_bind (wpAny_standAt ?_);cases k with
  |zero=>exact p'.elim
  |succ k=>
   have so':=so μ' H' σ' i ex' r';cases en:nx i σ' with
   |none=>
    have e1:zvg nx n tg fi fe (k+1) i ρ' σ'=.bad:=by unfold zvg;simp only[en]
    rw[zhs (m':=bad) e1]at p';exact p'.elim
   |some od=>
    rw[en]at so';cases od with
    |none=>
     have e1:zvg nx n tg fi fe (k+1) i ρ' σ'=.ok () σ':=by unfold zvg;simp only[en]
     rw[zhs (m':=ret ()) e1]at p';refine wpAny_bind (thn (TT.done Y rfl rfl rfl hc i [] s' st' H' (fun _ _=>False) I' (stat fr') tn' so') fun r s6 ⟨er,I6⟩=>?_);subst er;refine wpAny_pure ?_;obtain⟨m6,hm6,_⟩:=I6.loc;exact fin s6 H' m6 hm6 I6.free I6.base I6.os I6.hok I6.bare (yol.here p' r' (by rw[Rep];exact⟨_,rfl,ex'.get hn⟩))
    |some d=>
     refine wpAny_bind (thn (TT.item Y rfl rfl rfl hc i [] s' st' H' (fun _ _=>False) I' (stat fr') tn' so'.1) fun r s6 ⟨u,er,h6⟩=>?_);subst er;refine wpAny_bind (thn h6 fun _ s7 ⟨xv,H7,I7,r7,y7,tn7,fr7⟩=>?_);obtain⟨ex7,rr7,hd⟩:=so'.2 xv H7 y7;replace p':=yol.mono ex7 p';replace hE':=hE'.mono ex7;replace ex':=ex'.trans ex7;replace r':=rr7;cases et:tg d ρ' with
     |none=>
      have e1:zvg nx n tg fi fe (k+1) i ρ' σ'=.bad:=by unfold zvg;simp only[en,et]
      rw[zhs (m':=bad) e1]at p';exact p'.elim
     |some ρ1=>
      have e1:zvg nx n tg fi fe (k+1) i ρ' σ'=bnd (nox (fi ρ1)) (fun c=>if c=true then bnd (nox (fe ρ1)) fun y=>bnd (zv8 (.ref n) [y]) fun _=>zvg nx n tg fi fe k (i+1) ρ1 else zvg nx n tg fi fe k (i+1) ρ1) σ':=by
       conv=>lhs;unfold zvg
       simp only[en,et]
      rw[zhs e1,zhr]at p';have I7':=I7.pinned (stat fr7) (TT.obj _ _ tn7);refine wpAny_bind (thn (htg _ _ _ _ _ _ s7 st' H7 xv u (fun st8 H8=>H8=H7/\yn9 T μ' H7 ρ1 st8) I7' r7 ⟨μ',σ',ρ',d,ρ1,hE',r',hd,et,fun st8 hE8=>⟨rfl,hE8⟩⟩) fun _ s8 ⟨st8,H8,I8,eH8,hE8⟩=>?_);subst eH8;refine wpAny_bind (thn (hif _ _ _ _ _ _ s8 st8 H8 (fun c H9=>∃ μ9 σ9,Ext μ' H8 μ9 H9/\Rel T μ9 H9 σ9/\yol T E (Rep T) μ9 H9 (bnd (if c=true then bnd (nox (fe ρ1)) fun y=>bnd (zv8 (.ref n) [y]) fun _=>zvg nx n tg fi fe k (i+1) ρ1 else zvg nx n tg fi fe k (i+1) ρ1) (fun _=>ret (.ref n)) σ9) Q) I8
       ⟨μ',ρ1,σ',hE8,r',p'.bind0 fun c σ9 μ9 c' H9 _ e9 r9 q9 p9=>by cases q9;exact⟨μ9,σ9,e9,r9,p9⟩⟩) fun c s9 ⟨H9,I9,μ9,σ9,e9,r9,p9⟩=>?_)
      have again:∀ {s11:Shared} {H11:Hp} {μ11:List Addr} {σ11:Sto},Inv Y ([]++yfx fp s7.heap) st8 H11 s11->Ext μ' H8 μ11 H11->Rel T μ11 H11 σ11->yol T E (Rep T) μ11 H11 (bnd (zvg nx n tg fi fe k (i+1) ρ1) (fun _=>ret (.ref n)) σ11) Q->
        ∃ m,m<k+1/\∃ i μ' H' σ' ρ' st',Inv Y [] st' H' s11/\tn i s11.heap/\(∀ b∈fp,H' b=none)/\Ext μ3 H3 μ' H'/\yn9 T μ' H' ρ' st'/\Rel T μ' H' σ'/\yol T E (Rep T) μ' H' (bnd (zvg nx n tg fi fe m i ρ') (fun _=>ret (.ref n)) σ') Q:=by
       intro s11 H11 μ11 σ11 I11 e11 r11 p11;refine⟨k,Nat.lt_succ_self _,i+1,μ11,H11,σ11,ρ1,st8,I11.unpinned,TT.keep _ _ _ tn7 (fun b hb o e=>(I11.pin (b,o) (List.mem_append_right _ (List.mem_append_right _ (zgf hb e)))).1),fun b hb=>?_,ex'.trans e11,hE8.mono e11,r11,p11⟩;obtain⟨o,e,_⟩:=TT.obj _ _ tn7 b hb;exact(I11.pin (b,o) (List.mem_append_right _ (List.mem_append_right _ (zgf hb e)))).2.1
      cases c with
      |false=>
       rw[if_neg Bool.false_ne_true]at p9;exact wpAny_pure ⟨rfl,again I9 e9 r9 p9⟩
      |true=>
       rw[if_pos rfl,zhr]at p9;refine wpAny_bind (wpAny_bind (thn (helt _ _ _ _ _ _ s9 st8 H9 (fun v H10=>∃ y μ10 σ10,Ext μ' H8 μ10 H10/\Rel T μ10 H10 σ10/\Rep T μ10 H10 y v/\yol T E (Rep T) μ10 H10 (bnd (zv8 (.ref n) [y]) (fun _=>bnd (zvg nx n tg fi fe k (i+1) ρ1) (fun _=>ret (.ref n))) σ10) Q) I9
        ⟨μ9,ρ1,σ9,hE8.mono e9,r9,p9.bind0 fun y σ10 μ10 v H10 _ e10 r10 q10 p10=>⟨y,μ10,σ10,e9.trans e10,r10,q10,by rw[zhr]at p10;exact p10⟩⟩) fun w s10 ⟨v,H10,I10,rw10,y,μ10,σ10,e10,r10,q10,p10⟩=>?_))
       have happ:=zrw (Q:=fun _ H11=>∃ μ11 σ11,Ext μ' H8 μ11 H11/\Rel T μ11 H11 σ11/\yol T E (Rep T) μ11 H11 (bnd (zvg nx n tg fi fe k (i+1) ρ1) (fun _=>ret (.ref n)) σ11) Q) r10 ((ex'.trans e10).get hn) q10
        (p10.bind fun _ σ11 μ11 v11 H11 _ e11 r11 q11 p11=>⟨μ11,σ11,e10.trans e11,r11,p11⟩)
       refine wpAny_bind (thn (zjs (X:=Y) _ s10 st8 H10 (.ref D0) [v] (.ref D0) [w] _ I10 rfl (.cons rw10 .nil) happ) fun _ s11 ⟨v11,H11,I11,_,μ11,σ11,e11,r11,p11⟩=>?_);exact wpAny_pure (wpAny_pure ⟨rfl,again I11 e11 r11 p11⟩)
 exact codeAny_compStart_list yqs (TT.self X.A 0 _ _ _ hst4 yqs)
theorem yb6{elt iter tgt:Expr}{ifs:List Expr}{scope:Scope}{pos:Pos}{x z0:Str}{M':List Str}{ix:List Nat}{src:Ev->M NX}{tg:D->Ev->Option Ev}{fi:Ev->M Bool}{fe:Ev->M D}
  (hc:X.calm=true) (L:LcOk X x M' ix scope) (hsrc:FIN T X tgt iter src)
  (htg:∀ cl C s₀ H₀ ex,FG T (blk X (x::z0::M') scope cl C s₀ H₀ ex) tgt tg)
  (hif:∀ cl C s₀ H₀ ex,FIf T (blk X (x::z0::M') scope cl C s₀ H₀ ex) ifs fi)
  (helt:∀ cl C s₀ H₀ ex,FE T (blk X (x::z0::M') scope cl C s₀ H₀ ex) elt fe)
  (hs:∀ y,foldedSetIterable iter X.env y=pure y:=by intro _;rfl) :
  FE T X (.ListComp elt [⟨tgt,iter,ifs,0⟩] scope pos) (ypw src ix tg fi fe):=by
 intro pins s st H Q I h;obtain⟨μ,ρ,σ,hE,hr,hp⟩:=h;rw[eval_ListComp];refine wpAny_comprehension_free (use:=none) rfl hs (zfq X.env scope (zsl I L)) L.kind (fun y hy e=>?_) ?_
 ·have q:=List.all_eq_true.mp L.names y hy;rw[e]at q;simp only[beq_self_eq_true,Bool.not_true,Bool.false_or]at q;exact eq_of_beq q
 have h1:=hsrc pins s st H (fun J H2=>∃ nx μ2 σ2,Ext μ H μ2 H2/\Rel T μ2 H2 σ2/\yow T μ2 H2 nx J/\yol T (XE X st) (Rep T) μ2 H2 (bnd (zvg nx σ2.length tg fi fe 1001 0 (yam ix ρ)) (fun _=>ret (.ref σ2.length)) (σ2++[Ob.lst []])) Q) I
  ⟨μ,ρ,σ,hE,hr,hp.bind fun nx σ1 μ1 J H1 _ e1 r1 q1 p1=>⟨nx,μ1,σ1,e1,r1,q1,p1⟩⟩
 refine thn h1 fun v s1 h2=>thn h2 fun itv s2 h3=>?_;obtain⟨it,fp,tn,J,H2,rfl,I2,TT,st2,f2,nx,μ2,σ2,ex2,r2,so,p2⟩:=h3;refine wpAny_newObj_type (wpAny_newFunctionEnv (yer L) (by intro y hy;simp at hy) (fun h₁ hns₁ hsb₁=>?_) L.kind);have I3:=I2.lnew (ys:=[]) (its:=[]) (t':=s2.toks) .nil (by simp);have fr2:H2 s2.heap.objs.size=none:=I2.hok.fresh (Nat.le_refl _);have r3:=r2.push (p:=s2.heap.objs.size) (o:=.lst []) (ob:=.lst []) fr2 ⟨[],zre,yot.nil⟩;have ex3:Ext μ2 H2 (μ2++[s2.heap.objs.size]) (upd H2 s2.heap.objs.size (.lst [])):=zme fr2;have hsz:s2.heap.objs.size<(s2.heap.push { cls:=.type "list",data:=.seq ([]:List Value).toArray }).objs.size:=by rw[Heap.size_push];exact Nat.lt_succ_self _
 have kp:∀ b o,(s2.heap.push { cls:=.type "list",data:=.seq ([]:List Value).toArray }).get? b=some o->h₁.get? b=some o:=fun b o e=>hsb₁.extBut b o (Nat.ne_of_lt (Heap.lt_size e)) (Heap.get?_push_of_some _ e);have hfp:∀ b∈fp,yoc X pins (upd H2 s2.heap.objs.size (.lst [])) b/\b<(s2.heap.push { cls:=.type "list",data:=.seq ([]:List Value).toArray }).objs.size:=fun b hb=>by
  obtain⟨o,e,_⟩:=TT.obj 0 _ st2 b hb;have lt:=Heap.lt_size e;exact⟨⟨by rw[yhv (Nat.ne_of_lt lt)];exact(f2 b hb).1,(f2 b hb).2⟩,Nat.lt_trans lt hsz⟩
 refine zob (s3:={ s2 with heap:=s2.heap.push { cls:=.type "list",data:=.seq ([]:List Value).toArray },toks:=s2.toks }) (n:=σ2.length) (D0:=s2.heap.objs.size) hc L htg hif helt I3 hfp hns₁ kp TT (TT.keep 0 _ _ st2 fun b hb o e=>kp b o (Heap.get?_push_of_some _ e))
  (fun μ H σ i ex r=>so μ H σ i (ex3.trans ex) r) ((hE.mono ex2).mono ex3) r3 (by rw[<-r2.len];simp) (p2.mono ex3) (fun s6 H' m6 hm6 hC' hu0 hos hok6 hb6 hq=>⟨m6,hm6,fun h7 hs7=>?_⟩)
 have hu:=zz3 hu0 hs7 (Nat.le_refl _);have I7:=L2.Inv.call' (s':={ s6 with heap:=h7 }) (ch:=fp) I3 hos hu (zno hok6 hs7 hC') hb6 (fun b hb=>⟨(hfp b hb).1.2.2.2.1,(hfp b hb).1.2.1,(hfp b hb).1.2.2.2.2.1,(hfp b hb).1.2.2.2.2.2⟩);exact⟨.ref s2.heap.objs.size,H',I7,rfl,hq⟩
end
def GlT(K:W.Frag)(mg:Str->Option Value)(x:Str)(ss:List Str):Prop:=∃ a,mg x=some (.ref a)/\yoz K a ss
def yg1:List Value->List Str->Bool
 |[],[]=>true
 | .str y _::vs,x::ss=>(y == x) && yg1 vs ss
 |_,_=>false
def ynp(K:W.Frag)(a:Addr)(ss:List Str):Bool:=match K.lookup a with
 |some o=>(o.cls == .type "tuple") && (match o.data with
  | .seq its _=>decide (its.size<=sizeLine) && yg1 its.toList ss
  |_=>false)
 |none=>false
theorem zfg:∀ {vs:List Value} {ss:List Str},yg1 vs ss=true->yo0 (ss.map V.str) vs
 |[],[],_=>.nil
 |[],_::_,h=>by simp[yg1]at h
 |v::vs,[],h=>by cases v<;>simp[yg1]at h
 |v::vs,x::ss,h=>by
  cases v with
  |str y t=>
   simp only[yg1,Bool.and_eq_true]at h;obtain rfl:=eq_of_beq h.1;exact .cons ⟨t,rfl⟩ (zfg h.2)
  |_=>simp[yg1]at h
theorem yoz.of{K:W.Frag}{a:Addr}{ss:List Str}(h:ynp K a ss=true):yoz K a ss:=by
 unfold ynp at h;cases e:K.lookup a with
 |none=>rw[e]at h;cases h
 |some o=>
  rw[e]at h;simp only[Bool.and_eq_true]at h;obtain⟨h1,h2⟩:=h;cases ed:o.data with
  |seq its n=>
   rw[ed]at h2;simp only[Bool.and_eq_true,decide_eq_true_eq]at h2;exact⟨o,its,n,e,eq_of_beq h1,ed,h2.1,zfg h2.2⟩
  |_=>rw[ed]at h2;cases h2
section
variable{T:Tb}{X:Cx}{e:Expr}{f:Ev->M D}{x:Str}{p pos:Pos}{ss:List Str}
end
section
variable{T:Tb}{X:Cx}
end
theorem mkT{K:W.Frag}{mg:Str->Option Value}{h:Heap}{x:Str}{C:Addr}{ss:List Str}(X:K.In h)(G:h.Ns mainGlobals mg)(a:W.nsIn K mainGlobals x=some (some (.ref C)))(b:ynp K C ss=true):GlT K mg x ss:=⟨C,W.mg_of X G a,yoz.of b⟩
section
variable{T:Tb}{X:Cx}
end
section
variable{T:Tb}{X:Cx}
end
section
variable{prog:Program}{w:World}{A:Around}{E:Value->Shared->Prop}{l q I S:Addr}{n:Nat}{P:Nat->Value->Prop}{R:Result->Shared->Prop}{Q:Value->Shared->Prop}
end
section
variable{X:Cx}{pins:List (Addr × Obj)}{st:St}{H:Hp}{s:Shared}{x:Str}{M':List Str}{ix:List Nat}{scope:Scope}{A:Around}{qual:Str}{q:Addr}{cd:Value}{v:V}{u:Value}
end
def yqd(K:W.Frag)(c P:Addr):Bool:=match K.lookup c with
 |some o=>(match o.cls,o.data with
  | .type n,.fields vs=>n == "code" && (match (vs[11]?:Option Value)with|some (.ref p)=>p == P|_=>false) && (match vs.getD 11 .none with | .ref p=>p == P|_=>false) && (match vs.getD 18 .none with | .str _ _=>true|_=>false) &&
   (match vs.getD 7 .none with | .int _ _=>true|_=>false) && (match vs.getD 9 .none with | .bool _=>true|_=>false) && (match vs.getD 10 .none with | .int _ _=>true|_=>false) && (c != P)
  |_,_=>false)
 |none=>false
section
variable{T:Tb}{X:Cx}{pins:List (Addr × Obj)}{st:St}{H:Hp}{s:Shared}{μ:List Addr}{σ:Sto}{x:Str}{M':List Str}{ix:List Nat}{scope:Scope}{params:Arguments}{body:Expr}{pos:Pos}{c:Addr}{t:Tab}
structure LamOk(T:Tb)(X:Cx)(t:Tab)(c:Addr)(pos:Pos):Prop where
 mem:t∈T.tx.tbs
 inj:∀ t'∈T.tx.tbs,t'.P=t.P->t'=t
 code:X.env.code=.ref c
 hd:yqd X.K c t.P=true
 line:t.line=pos.line
 col:t.col=pos.col
 qual:t.qual=X.env.qual++"<lambda>"
 bm:X.mg "__builtins__" = some (.ref T.tx.bm)
 bb:T.tx.bm≠builtinsNs
end
section
variable{T:Tb}{X:Cx}
end
def cOf(K:W.Frag)(x:Str):Addr:=((W.tabIn K x).getD (0,0)).1
def POf(K:W.Frag)(x:Str):Addr:=((W.tabIn K x).getD (0,0)).2
def ype(K:W.Frag):Addr:=match W.nsIn K mainGlobals "__builtins__" with
 |some (some (.ref a))=>a
 |_=>0
structure Tabs(K:W.Frag)(xs:List Str):Prop where
 no:W.noTabs K=true
 bm:W.nsIn K mainGlobals "__builtins__" = some (some (.ref (ype K)))
 bk:K.lookup (ype K)=none
 bb:ype K≠builtinsNs
 tab:∀ x∈xs,W.tabIn K x=some (cOf K x,POf K x)
 hd:∀ x∈xs,yqd K (cOf K x) (POf K x)=true
section
variable{T:Tb}
end
section
variable{T:Tb}{X:Cx}
def zv9(x:D)(xs:List D):M D:=fun σ=>match x,xs with
 | .ref n,[]=>(match ykw σ n with
  |some _=>.ok .non (σ.set n (.lst []))
  |none=>.bad)
 |_,_=>.bad
theorem zhb:yh9 T L2.rClear zv9:=by
 intro E μ H σ x xs v vs Q r p q h;cases x with
 |ref n=>
  match xs with
  |[]=>
   rw[yot]at q;subst q;unfold zv9 at h;cases el:ykw σ n with
   |none=>simp only[el]at h;exact h.elim
   |some ys=>
    simp only[el]at h;obtain⟨a,vs,rfl,hn,h1,h2⟩:=r.lst p el;have wr:=r.write (o:=.lst []) (ob:=.lst []) hn ⟨_,zre,yot.nil⟩;exact⟨a,vs,rfl,rfl,h1,h _ _ _ wr.1 wr.2 (by rw[Rep])⟩
  |_::_=>exact h.elim
 |_=>cases xs<;>exact h.elim
theorem zmq{o:Expr}{f:Ev->M D}{name:Str}{id:String}{r:V->List V->Hp->VK->Prop}{g:D->List D->M D}{apos cpos:Pos}(pa:PlainAttrs "list")(slot:Slot "list" name id)(hty:typeOf (.builtin id)=pure (.type "method_descriptor"))(hm:MtR X id r)(hs:yh9 T r g)(ho:FE T X o f)
  (hbase:attributeBase o name X.env (eval o X.env)=eval o X.env:=by rfl) (hline:(apos.endLine == cpos.line)=true:=by rfl):FE T X (.Call (.Attribute o name apos) [] [] cpos) (yi2 g f yo2):=by
 intro pins s st H Q I h;refine yfk pa slot hty hm ho hbase hline pins s st H Q I ?_;obtain⟨μ,ρ,σ,he,hr,hp⟩:=h;refine⟨μ,ρ,σ,he,hr,hp.bind fun x σ1 μ1 v H1 _ e1 r1 p1 q1=>?_⟩;unfold yk5 at q1;cases el:yqt σ1 x with
 |none=>rw[el]at q1;exact q1.elim
 |some xs=>
  rw[el]at q1;obtain⟨a,vs,rfl,h1,h2⟩:=r1.ls p1 el;exact⟨.inl ⟨rfl,vs,SqL.of h1⟩,hs _ μ1 H1 σ1 x [] (.ref a) [] Q r1 p1 yot.nil q1⟩
end
section
variable{X:Cx}{pins:List (Addr × Obj)}{st:St}{H:Hp}{s:Shared}{x z0 z1:Str}{M':List Str}{ix:List Nat}{scope:Scope}{fp:List Addr}
end
section
variable{T:Tb}{X:Cx}
end
section
variable{T:Tb}{X:Cx}{pins:List (Addr × Obj)}{st:St}{H:Hp}{s:Shared}{μ:List Addr}{σ:Sto}
end
section
variable{T:Tb}{X:Cx}
end
section
variable{T:Tb}{X:Cx}{x y:Str}{p pos:Pos}{ss:List Str}
theorem zmm(hg:Gl X x)(hG:GlT T.K X.mg x ss)(hd:(x == ("__debug__" : Str))=false:=by decide):FE T X (.Name x p) (eC (.gt ss)):=by
 obtain⟨a,hm,hT⟩:=hG;exact zmj (zw7 hg hm (v:=.ref a) rfl hd) fun _ _=>by rw[Rep];exact⟨a,rfl,hT⟩
end
section
variable{T:Tb}{μ μ':List Addr}{H H':Hp}{σ:Sto}{a:Addr}
mutual
theorem Rep.chg(hk:∀ b,b≠a->H' b=H b)(ha:a∈μ)(h1:∀ xs,H a≠some (.tup xs))(h2:∀ o xs,H a≠some (.frz o (.lst xs))):∀ (d:D) (v:V),Rep T μ H d v->Rep T μ H' d v
 | .non,v,h=>by simpa [Rep]using h
 | .bl b,v,h=>by simpa [Rep]using h
 | .int i,v,h=>by simpa [Rep]using h
 | .str x,v,h=>by simpa [Rep]using h
 | .tup ds,v,h=>by
  rw[Rep]at h ⊢;obtain⟨p,vs,e1,e2,e3⟩:=h;exact⟨p,vs,e1,by rw[hk p (fun z=>h1 _ (by rw[<-z];exact e2))];exact e2,yot.chg hk ha h1 h2 ds vs e3⟩
 | .scr ns,v,h=>by
  rw[Rep]at h ⊢;obtain⟨p,e1,e2⟩:=h;refine⟨p,e1,?_⟩;rcases e2 with⟨o,e2⟩|e2
  ·exact .inl ⟨o,by rw[hk p (fun z=>h2 _ _ (by rw[<-z];exact e2))];exact e2⟩
  ·exact .inr e2
 | .ref n,v,h=>by rw[Rep]at h ⊢;exact h
 | .lst ds,v,h=>by
  rw[Rep]at h ⊢;obtain⟨p,vs,e1,e0,e2,e3⟩:=h;exact⟨p,vs,e1,e0,by rw[hk p (fun z=>e0 (by rw[z];exact ha))];exact e2,yot.chg hk ha h1 h2 ds vs e3⟩
 | .dic ks ds,v,h=>by
  rw[Rep]at h ⊢;obtain⟨p,vs,e1,e0,e2,e4,e3⟩:=h;exact⟨p,vs,e1,e0,by unfold Rd at e2 ⊢;rw[hk p (fun z=>e0 (by rw[z];exact ha))];exact e2,e4,yot.chg hk ha h1 h2 ds _ e3⟩
 | .obj c ns ds,v,h=>by
  rw[Rep]at h ⊢;obtain⟨p,dx,vs,e1,e0,e2,e4,e3⟩:=h;exact⟨p,dx,vs,e1,e0,by rw[hk p (fun z=>e0 (by rw[z];exact ha))];exact e2,e4,yot.chg hk ha h1 h2 ds _ e3⟩
 | .exn c,v,h=>by
  rw[Rep]at h ⊢;obtain⟨p,dd,e1,e0,e2,e3⟩:=h;refine⟨p,dd,e1,e0,by rw[hk p (fun z=>e0 (by rw[z];exact ha))];exact e2,fun n q=>?_⟩;obtain⟨dN,q1,q2,q3⟩:=e3 n q;exact⟨dN,q1,q2,by rw[hk dN (fun z=>q2 (by rw[z];exact ha))];exact q3⟩
 | .gt ss,v,h=>by rw[Rep]at h ⊢;exact h
theorem yot.chg(hk:∀ b,b≠a->H' b=H b)(ha:a∈μ)(h1:∀ xs,H a≠some (.tup xs))(h2:∀ o xs,H a≠some (.frz o (.lst xs))):∀ (ds:List D) (vs:List V),yot T μ H ds vs->yot T μ H' ds vs
 |[],vs,h=>by simpa [yot]using h
 |d::ds,vs,h=>by
  rw[yot]at h ⊢;obtain⟨v,r,e1,e2,e3⟩:=h;exact⟨v,r,e1,Rep.chg hk ha h1 h2 d v e2,yot.chg hk ha h1 h2 ds r e3⟩
end
theorem zgp{α:Type}(hk:∀ b,b≠a->H' b=H b)(ha:a∈μ)(h1:∀ xs,H a≠some (.tup xs))(h2:∀ o xs,H a≠some (.frz o (.lst xs))){xs:List (α × D)}{ys:List (α × V)}(h:Paired (fun(p:α × D) (q:α × V)=>p.1=q.1/\Rep T μ H p.2 q.2) xs ys) :
  Paired (fun(p:α × D) (q:α × V)=>p.1=q.1/\Rep T μ H' p.2 q.2) xs ys:=L2.Paired.mapP h fun p q z=>⟨z.1,Rep.chg hk ha h1 h2 _ _ z.2⟩
theorem ObR.chg(hk:∀ b,b≠a->H' b=H b)(ha:a∈μ)(h1:∀ xs,H a≠Option.some (.tup xs))(h2:∀ o xs,H a≠Option.some (.frz o (.lst xs))){b:Addr}(hb:b≠a):∀ {o:Ob},ObR T μ H b o->ObR T μ H' b o
 | .lst ds,⟨vs,h,r⟩=>⟨vs,(hk b hb).trans h,yot.chg hk ha h1 h2 _ _ r⟩
 | .dic kvs,⟨vs,h,r⟩=>⟨vs,(hk b hb).trans h,zgp hk ha h1 h2 r⟩
 | .ins c fs,⟨dx,vs,h,r⟩=>⟨dx,vs,(hk b hb).trans h,zgp hk ha h1 h2 r⟩
 | .fdic kvs,⟨ob,vs,h,r⟩=>⟨ob,vs,(hk b hb).trans h,zgp hk ha h1 h2 r⟩
 | .tdic ks,⟨vs,h,r⟩=>⟨vs,(hk b hb).trans h,r⟩
theorem Rel.chg(r:Rel T μ H σ)(hk:∀ b,b≠a->H' b=H b){n:Nat}(hn:μ[n]?=some a)(h1:∀ xs,H a≠some (.tup xs))(h2:∀ o xs,H a≠some (.frz o (.lst xs))){ob:Ob}(ho:ObR T μ H' a ob):Rel T μ H' (σ.set n ob):=by
 have ha:=List.mem_of_getElem? hn;refine⟨by simp[r.len],r.nd,fun m x h=>?_,r.tb.out hk (.inl ha)⟩;rw[List.getElem?_set]at h;by_cases hm:n=m
 ·subst hm;rw[if_pos rfl]at h;split at h
  ·cases h;exact⟨a,hn,ho⟩
  ·cases h
 ·rw[if_neg hm]at h;obtain⟨b,h3,h4⟩:=r.obs m x h;exact⟨b,h3,h4.chg hk ha h1 h2 (fun z=>hm (by subst z;exact zov r.nd hn h3))⟩
end
theorem _root_.L2.Inv.thaw{X:Cx}{pins:List (Addr × Obj)}{st:St}{H:Hp}{s:Shared}{a:Addr}{od:Obj}{kvs:List (Key × V)}(I:Inv X pins st H s)(hd:H a=some (.frz od (.dK kvs)))(h0:∀ o u,X.H₀ a≠some (.frz o u)):Inv X pins st (upd H a (.dK kvs)) s:=by
 have ne:∀ b u,H b=some u->(∀ o w,u≠.frz o w)->b≠a:=fun b u q n z=>by rw[z,hd]at q;exact n _ _ (Option.some.inj q).symm
 refine⟨I.ok,I.os,I.bare,⟨I.base.keep,I.base.slot,fun b o e n hx=>?_,I.base.there,fun b xs e=>?_,fun b o u e=>?_,fun b ps e=>?_⟩,I.loc,I.cell,?_,fun x c e=>?_,fun p hp=>?_,fun b u e=>?_,I.len⟩
 ·have:=I.base.free b o e n hx;rw[yhv (fun z=>by rw[z,hd]at this;cases this)];exact this
 ·have:=I.base.tups b xs e;rw[yhv (ne b _ this (fun _ _ z=>by cases z))];exact this
 ·have:=I.base.frzs b o u e;rw[yhv (fun z=>h0 o u (by rw[<-z];exact e))];exact this
 ·obtain⟨more,this⟩:=I.base.tbls b ps e;exact⟨more,by rw[yhv (ne b _ this (fun _ _ z=>by cases z))];exact this⟩
 ·rw[yhv (fun z=>by have:=I.free;rw[z,hd]at this;cases this)];exact I.free
 ·have:=I.freeC x c e;rw[yhv (fun z=>by rw[z,hd]at this;cases this)];exact this
 ·obtain⟨q1,q2,q3⟩:=I.pin p hp;exact⟨q1,by rw[yhv (fun z=>by rw[z,hd]at q2;cases q2)];exact q2,q3⟩
 ·by_cases hb:b=a
  ·subst hb;rw[zre]at e;cases e;exact(I.hok b _ hd).2
  ·rw[yhv hb]at e;refine(I.hok b u e).stay (fun c v _ z=>z) (fun c z=>?_) fun c xs z=>?_
   ·rw[yhv (ne c _ z (fun _ _ y=>by cases y))];exact z
   ·rw[yhv (ne c _ z (fun _ _ y=>by cases y))];exact z
section
variable{T:Tb}{X:Cx}{elts:List Expr}{kk:Nat}{p0:Pos}
theorem zhd{μ:List Addr}{H:Hp}{a:Addr}{od:Obj}{kvs:List (Key × V)}{kv:List (Key × D)}(h3:H a=some (.frz od (.dK kvs)))(hr:yos T μ H kv kvs):yow T μ H (nxI kv) (Itm a od kvs):=by
 intro μ2 H2 σ2 i ex r2;have hf:H2 a=some (.frz od (.dK kvs)):=ex.frz _ _ _ h3;have hrk:yos T μ2 H2 kv kvs:=yos.mono ex hr;unfold nxI;cases ei:kv[i]? with
 |none=>
  dsimp only;by_cases hi:i=kv.length
  ·rw[if_pos hi];exact⟨hf,by rw[hi];exact Paired.length hrk⟩
  ·rw[if_neg hi];trivial
 |some p=>
  obtain⟨q,hq,hpq,rx⟩:=zgq hrk i ei;refine⟨⟨hf,q,hq⟩,fun z H' y=>?_⟩;obtain⟨r,k',x',hn',rfl,hkx,rfl⟩:=y;rw[hq]at hkx;cases hkx;dsimp only at hpq rx;refine⟨zs8 hn',r2.fresh hn',?_⟩;rw[Rep,hpq];exact⟨r,_,rfl,zre,yot.cons (zva _) (yot.cons (Rep.mono (zs8 hn') _ _ rx) yot.nil)⟩
def ydn(d:D):M NX:=fun σ=>match d with
 | .dic ks xs=>if ks.length=xs.length then .ok (nxI (ks.zip xs)) σ else .bad
 | .ref n=>(match σ[n]? with
  |some (.dic kvs)=>.ok (nxI kvs) (σ.set n (.fdic kvs))
  |some (.fdic kvs)=>.ok (nxI kvs) σ
  |_=>.bad)
 |_=>.bad
def yna(f:Ev->M D):Ev->M NX:=fun ρ=>bnd (f ρ) ydn
theorem zil{e:Expr}{f:Ev->M D}{apos cpos:Pos}(h:FE T X e f)(hbase:attributeBase e "items" X.env (eval e X.env)=eval e X.env:=by rfl)(hline:(apos.endLine == cpos.line)=true:=by rfl) :
  FIN T X (.Tuple elts kk p0) (.Call (.Attribute e "items" apos) [] [] cpos) (yna f):=by
 intro pins s st H R I hw;refine zpl (zw2 PySem.F.plainAttrs_dict PySem.F.slot_dict_items PySem.F.type_dict_items zor h hbase hline) pins s st H R I ?_;obtain⟨μ,ρ,σ,hE,hr,hp⟩:=hw;refine⟨μ,ρ,σ,hE,hr,hp.bind fun d σ1 μ1 v H1 _ e1 r1 q1 p1=>?_⟩;unfold ydn at p1;cases d with
 |dic ks xs=>
  dsimp only at p1;by_cases hl:ks.length=xs.length
  ·rw[if_pos hl]at p1;rw[Rep]at q1;obtain⟨a,kvs,rfl,hn,hk,hks,hxs⟩:=q1;refine⟨⟨a,kvs,rfl,hk⟩,a,kvs,rfl,rfl,hk,fun l hln=>?_⟩;have nal:a≠l:=by rcases hk with hk|⟨_,hk⟩<;>exact zgj hk hln
   have hk1:Rd (upd H1 l (.ext (yo1 l a))) a (.dK kvs):=by unfold Rd;rw[yhv nal];exact hk
   refine⟨l,a,kvs,rfl,zre,hk1,fun od ho=>?_⟩;have x1:Ext μ1 H1 μ1 (upd H1 l (.ext (yo1 l a))):=zs8 hln;have rr1:Rel T μ1 (upd H1 l (.ext (yo1 l a))) σ1:=r1.fresh hln;obtain⟨x2,rr2⟩:Ext μ1 H1 μ1 (upd (upd H1 l (.ext (yo1 l a))) a (.frz od (.dK kvs)))/\Rel T μ1 (upd (upd H1 l (.ext (yo1 l a))) a (.frz od (.dK kvs))) σ1:=by
    rcases ho with ho|ho
    ·have y:=zs7 (μ:=μ1) (od:=od) ho;exact⟨x1.trans y,rr1.keep y (fun b hb=>yhv (fun z=>hn (by rw[<-z];exact hb))) (rr1.tb.out (fun b hb=>yhv hb) (.inr ⟨_,ho⟩))⟩
    ·rw[zz5 ho];exact⟨x1,rr1⟩
   exact yol.here (R:=yow T) (yol.mono x2 p1) rr2 (zhd zre (yos.mono x2 (zp7 hks hxs)))
  ·rw[if_neg hl]at p1;exact p1.elim
 |ref n=>
  dsimp only at p1;cases es:σ1[n]? with
  |none=>rw[es]at p1;exact p1.elim
  |some o=>
   rw[es]at p1;obtain⟨a,rfl,hn,hob⟩:=r1.at q1 es;cases o with
   |dic kvs=>
    obtain⟨vs,ha,hrk⟩:=hob;have hk:Rd H1 a (.dK vs):=.inl ha;refine⟨⟨a,vs,rfl,hk⟩,a,vs,rfl,rfl,hk,fun l hln=>?_⟩;have nal:a≠l:=zgj ha hln;have ha1:upd H1 l (.ext (yo1 l a)) a=some (.dK vs):=by rw[yhv nal];exact ha
    refine⟨l,a,vs,rfl,zre,.inl ha1,fun od _=>?_⟩;have x1:Ext μ1 H1 μ1 (upd H1 l (.ext (yo1 l a))):=zs8 hln;have rr1:Rel T μ1 (upd H1 l (.ext (yo1 l a))) σ1:=r1.fresh hln;have ex2:Ext μ1 (upd H1 l (.ext (yo1 l a))) μ1 (upd (upd H1 l (.ext (yo1 l a))) a (.frz od (.dK vs))):=zif (List.mem_of_getElem? hn) ha1 (fun _ z=>by cases z) (fun _ _ z=>by cases z);have hrk2:yos T μ1 (upd (upd H1 l (.ext (yo1 l a))) a (.frz od (.dK vs))) kvs vs:=yos.mono (x1.trans ex2) hrk;have wr:=rr1.write (o:=.frz od (.dK vs)) (ob:=.fdic kvs) hn ⟨od,vs,zre,hrk2⟩ (fun kv z=>by rw[es]at z;cases z);exact yol.here (R:=yow T) (yol.mono (x1.trans ex2) p1) wr.2 (zhd zre hrk2)
   |fdic kvs=>
    obtain⟨od0,vs,ha,hrk⟩:=hob;have hk:Rd H1 a (.dK vs):=.inr ⟨od0,ha⟩;refine⟨⟨a,vs,rfl,hk⟩,a,vs,rfl,rfl,hk,fun l hln=>?_⟩;have nal:a≠l:=zgj ha hln;have ha1:upd H1 l (.ext (yo1 l a)) a=some (.frz od0 (.dK vs)):=by rw[yhv nal];exact ha
    refine⟨l,a,vs,rfl,zre,.inr ⟨od0,ha1⟩,fun od ho=>?_⟩;have x1:Ext μ1 H1 μ1 (upd H1 l (.ext (yo1 l a))):=zs8 hln;have rr1:Rel T μ1 (upd H1 l (.ext (yo1 l a))) σ1:=r1.fresh hln;rcases ho with ho|ho
    ·rw[ha1]at ho;cases ho
    ·rw[zz5 ho];exact yol.here (R:=yow T) (yol.mono x1 p1) rr1 (zhd ho (yos.mono x1 hrk))
   |_=>exact p1.elim
 |_=>exact p1.elim
def ynn{α:Type}(ok:α->Bool)(n:Nat):Out α->Out α
 | .ok a σ=>if ok a=true then (match σ[n]? with
  |some (.fdic kvs)=>.ok a (σ.set n (.dic kvs))
  |_=>.bad)else .bad
 |_=>.bad
def thw{α:Type}(ok:α->Bool)(m:M D)(g:M α):M α:=fun σ=>match m σ with
 | .ok (.ref n) _=>(match σ[n]? with
  |some (.dic _)=>ynn ok n (g σ)
  |_=>g σ)
 |_=>g σ
def yri:Fl->Bool
 | .xc _ _=>false
 |_=>true
def ymt(f:Ev->M D)(g:Ev->M Fl):Ev->M Fl:=fun ρ=>thw yri (f ρ) (g ρ)
def yi5(f:Ev->M D)(g:Ev->M D):Ev->M D:=fun ρ=>thw (fun _=>true) (f ρ) (g ρ)
theorem zq9{μ μ':List Addr}{H H':Hp}{a:Addr}{vs0 vs:List (Key × V)}{od:Obj}(ex:Ext μ H μ' H')(ham:a∈μ)(ha:H a=some (.dK vs0))(hz:H' a=some (.frz od (.dK vs))):Ext μ H μ' (upd H' a (.dK vs)):=by
 refine⟨ex.pre,fun p xs h=>?_,fun p o u h=>?_,fun p o h n=>?_⟩
 ·rw[yhv (fun z=>by rw[z,ha]at h;cases h)];exact ex.tup p xs h
 ·rw[yhv (fun z=>by rw[z,ha]at h;cases h)];exact ex.frz p o u h
 ·rw[yhv (fun z=>n (by rw[z];exact ham))];exact ex.keep p o h n
theorem zkv{α γ:Type}{E:XK}{R:List Addr->Hp->α->γ->Prop}{ok:α->Bool}{μ:List Addr}{H:Hp}{n:Nat}{a:Addr}{vs0:List (Key × V)}{o:Out α}{Q:γ->Hp->Prop}(hn:μ[n]?=some a)(ha:H a=some (.dK vs0))
  (hR:∀ (μ':List Addr) (H':Hp) (d:α) (g:γ) (od:Obj) (vs:List (Key × V)),a∈μ'->H' a=some (.frz od (.dK vs))->ok d=true->R μ' H' d g->R μ' (upd H' a (.dK vs)) d g) (h:yol T E R μ H (ynn ok n o) Q) :
  yol T E R μ H o (fun g H'=>∃ od vs,H' a=some (.frz od (.dK vs))/\Q g (upd H' a (.dK vs))/\∃ μ' d,ok d=true/\R μ' H' d g):=by
 cases o with
 |bad=>exact h
 |ex x σ'=>exact h.elim
 |ok d σ'=>
  unfold ynn at h;dsimp only at h;by_cases hok:ok d=true
  ·rw[if_pos hok]at h;cases es:σ'[n]? with
   |none=>rw[es]at h;exact h.elim
   |some ob=>
    rw[es]at h;cases ob with
    |fdic kvs=>
     intro μ' g H' ex r rf;obtain⟨a',hn',od,vs,hz,hrk⟩:=r.obs n _ es;have hna:=ex.get hn;rw[hna]at hn';cases hn';have ham:a∈μ':=List.mem_of_getElem? hna;have hk:∀ b,b≠a->upd H' a (.dK vs) b=H' b:=fun b hb=>yhv hb;have g1:∀ xs,H' a≠some (.tup xs):=fun xs z=>by rw[hz]at z;cases z
     have g2:∀ o xs,H' a≠some (.frz o (.lst xs)):=fun o xs z=>by rw[hz]at z;cases z
     exact⟨od,vs,hz,h μ' g _ (zq9 ex (List.mem_of_getElem? hn) ha hz) (r.chg hk hna g1 g2 ⟨vs,zre,zgp hk ham g1 g2 hrk⟩) (hR μ' H' d g od vs ham hz hok rf),μ',d,hok,rf⟩
    |_=>exact h.elim
  ·rw[if_neg hok]at h;exact h.elim
theorem zp6{μ':List Addr}{H':Hp}{a:Addr}{od:Obj}{vs:List (Key × V)}(ham:a∈μ')(hz:H' a=some (.frz od (.dK vs)))(d:D)(v:V)(h:Rep T μ' H' d v):Rep T μ' (upd H' a (.dK vs)) d v:=
 Rep.chg (fun b hb=>yhv hb) ham (fun xs z=>by rw[hz]at z;cases z) (fun o xs z=>by rw[hz]at z;cases z) d v h
theorem zuc{s:Stmt}{f:Ev->M D}{g:Ev->M Fl}(h:FS T X s g):FS T X s (ymt f g):=by
 intro pins sh st H D I hq;obtain⟨μ,ρ,σ,hE,hr,hp⟩:=hq;have plain:yol T EN (RFl T) μ H (g ρ σ) (yoa X D)->wpAny (model X.prog X.w) X.A (exec s X.env) (SP X pins D) X.xe sh:=fun q=>h pins sh st H D I ⟨μ,ρ,σ,hE,hr,q⟩;unfold ymt thw at hp;split at hp
 ·rename_i n _ _
  split at hp
  ·rename_i kv0 es
   obtain⟨a,hn,vs0,ha,_⟩:=hr.obs n _ es;have h0:∀ o u,X.H₀ a≠some (.frz o u):=fun o u z=>by have:=I.base.frzs a o u z;rw[ha]at this;cases this
   have q:=zkv hn ha (fun μ' H' d gl od vs ham hz hok rf=>by
    cases d with
    |xc _ _=>cases hok
    |nx ρ2=>cases gl<;>first|exact rf.elim|exact⟨rf.1,fun i d q=>let ⟨v,w1,w2⟩:=rf.2 i d q;⟨v,w1,zp6 ham hz _ _ w2⟩⟩
    |bk ρ2=>cases gl<;>first|exact rf.elim|exact⟨rf.1,fun i d q=>let ⟨v,w1,w2⟩:=rf.2 i d q;⟨v,w1,zp6 ham hz _ _ w2⟩⟩
    |ct ρ2=>cases gl<;>first|exact rf.elim|exact⟨rf.1,fun i d q=>let ⟨v,w1,w2⟩:=rf.2 i d q;⟨v,w1,zp6 ham hz _ _ w2⟩⟩
    |rt d2=>cases gl<;>first|exact rf.elim|exact zp6 ham hz _ _ rf) hp
   refine wpAny_mono (h pins sh st H ⟨fun st' H'=>∃ od vs,H' a=some (.frz od (.dK vs))/\D.nx st' (upd H' a (.dK vs)),fun v H'=>∃ od vs,H' a=some (.frz od (.dK vs))/\D.rt v (upd H' a (.dK vs)),fun st' H'=>∃ od vs,H' a=some (.frz od (.dK vs))/\D.bk st' (upd H' a (.dK vs)),fun st' H'=>∃ od vs,H' a=some (.frz od (.dK vs))/\D.ct st' (upd H' a (.dK vs))⟩ I ⟨μ,ρ,σ,hE,hr,q.imp fun gl H' z=>?_⟩) (fun fl s' z=>?_) fun _ _ z=>z
   ·obtain⟨od,vs,hz,hq,μ',d,hok,rf⟩:=z;cases gl with
    |nx st'=>exact⟨od,vs,hz,hq⟩
    |rt v=>exact⟨od,vs,hz,hq⟩
    |bk st'=>exact⟨od,vs,hz,hq⟩
    |ct st'=>exact⟨od,vs,hz,hq⟩
    |xc st' cls fd=>cases d<;>first|exact rf.elim|cases hok
   ·cases fl with
    |next=>obtain⟨st',H',I',od,vs,hz,hq⟩:=z;exact⟨st',_,I'.thaw hz h0,hq⟩
    |brk=>obtain⟨st',H',I',od,vs,hz,hq⟩:=z;exact⟨st',_,I'.thaw hz h0,hq⟩
    |cont=>obtain⟨st',H',I',od,vs,hz,hq⟩:=z;exact⟨st',_,I'.thaw hz h0,hq⟩
    |ret u=>obtain⟨v,st',H',I',rv,od,vs,hz,hq⟩:=z;exact⟨v,st',_,I'.thaw hz h0,rv,hq⟩
  ·exact plain hp
 ·exact plain hp
theorem ztj{e:Expr}{f g:Ev->M D}(h:FE T X e g):FE T X e (yi5 f g):=by
 intro pins sh st H Q I hq;obtain⟨μ,ρ,σ,hE,hr,hp⟩:=hq;have plain:yol T (XE X st) (Rep T) μ H (g ρ σ) Q->wpAny (model X.prog X.w) X.A (eval e X.env) (EP X pins st Q) X.xe sh:=fun q=>h pins sh st H Q I ⟨μ,ρ,σ,hE,hr,q⟩;unfold yi5 thw at hp;split at hp
 ·rename_i n _ _
  split at hp
  ·rename_i kv0 es
   obtain⟨a,hn,vs0,ha,_⟩:=hr.obs n _ es;have h0:∀ o u,X.H₀ a≠some (.frz o u):=fun o u z=>by have:=I.base.frzs a o u z;rw[ha]at this;cases this
   have q:=zkv hn ha (fun μ' H' d v od vs ham hz _ rf=>zp6 ham hz d v rf) hp;refine wpAny_mono (h pins sh st H _ I ⟨μ,ρ,σ,hE,hr,q⟩) (fun u s' z=>?_) fun _ _ z=>z;obtain⟨v,H',I',rv,od,vs,hz,hq,_⟩:=z;exact⟨v,_,I'.thaw hz h0,rv,hq⟩
  ·exact plain hp
 ·exact plain hp
end
end L4
namespace L4
open PySem PySem.Spec PyProof.Rows L2
section
variable{T:Tb}{X:Cx}{tg:Expr}
end
section
variable{T:Tb}{X:Cx}
end
open Classical in
def DnJ(μ μ' μ2:List Addr):Prop:=(∃ r,μ'=μ++r)/\(∀ (n:Nat) (a:Addr),μ[n]?=some a->μ2[n]?=some a)/\∀ a∈μ2,a∈μ'
section
variable{T:Tb}{μ μ' μ2:List Addr}{H H':Hp}{σ σ':Sto}
mutual
theorem RepJ.down(e:DnJ μ μ' μ2):∀ (d:D) (v0 v:V),Rep T μ H d v0->Rep T μ' H' d v->Rep T μ2 H' d v
 | .non,v0,v,_,h=>by simpa [Rep]using h
 | .bl b,v0,v,_,h=>by simpa [Rep]using h
 | .int i,v0,v,_,h=>by simpa [Rep]using h
 | .str x,v0,v,_,h=>by simpa [Rep]using h
 | .tup ds,v0,v,c,h=>by
  rw[Rep]at h c ⊢;obtain⟨p,vs,h1,h2,h3⟩:=h;obtain⟨p0,vs0,_,_,c3⟩:=c;exact⟨p,vs,h1,h2,RepJL.down e ds vs0 vs c3 h3⟩
 | .scr ns,v0,v,_,h=>by rw[Rep]at h ⊢;exact h
 | .ref n,v0,v,c,h=>by
  rw[Rep]at h c ⊢;obtain⟨a,h1,h2⟩:=h;obtain⟨b,_,c2⟩:=c;refine⟨a,h1,?_⟩;have h3:=e.2.1 _ _ c2;obtain⟨⟨r,rfl⟩,_⟩:=e;rw[List.getElem?_append_left (List.getElem?_eq_some_iff.mp c2).1]at h2;rw[c2]at h2;cases h2;exact h3
 | .lst ds,v0,v,c,h=>by
  rw[Rep]at h c ⊢;obtain⟨a,vs,h1,h2,h3,h4⟩:=h;obtain⟨_,vs0,_,_,_,c4⟩:=c;exact⟨a,vs,h1,fun z=>h2 (e.2.2 _ z),h3,RepJL.down e ds vs0 vs c4 h4⟩
 | .dic ks ds,v0,v,c,h=>by
  rw[Rep]at h c ⊢;obtain⟨a,vs,h1,h2,h3,h5,h4⟩:=h;obtain⟨_,vs0,_,_,_,_,c4⟩:=c;exact⟨a,vs,h1,fun z=>h2 (e.2.2 _ z),h3,h5,RepJL.down e ds _ _ c4 h4⟩
 | .obj k ns ds,v0,v,c,h=>by
  rw[Rep]at h c ⊢;obtain⟨a,dx,vs,h1,h2,h3,h5,h4⟩:=h;obtain⟨_,_,vs0,_,_,_,_,c4⟩:=c;exact⟨a,dx,vs,h1,fun z=>h2 (e.2.2 _ z),h3,h5,RepJL.down e ds _ _ c4 h4⟩
 | .exn k,v0,v,_,h=>by
  rw[Rep]at h ⊢;obtain⟨a,dd,h1,h2,h3,h4⟩:=h;exact⟨a,dd,h1,fun z=>h2 (e.2.2 _ z),h3,fun n q=>let ⟨dN,q1,q2,q3⟩:=h4 n q;⟨dN,q1,fun z=>q2 (e.2.2 _ z),q3⟩⟩
 | .gt ss,v0,v,_,h=>by rw[Rep]at h ⊢;exact h
theorem RepJL.down(e:DnJ μ μ' μ2):∀ (ds:List D) (vs0 vs:List V),yot T μ H ds vs0->yot T μ' H' ds vs->yot T μ2 H' ds vs
 |[],vs0,vs,_,h=>by simpa [yot]using h
 |d::ds,vs0,vs,c,h=>by
  rw[yot]at h c ⊢;obtain⟨v,r,h1,h2,h3⟩:=h;obtain⟨v0,r0,_,c2,c3⟩:=c;exact⟨v,r,h1,RepJ.down e d v0 v c2 h2,RepJL.down e ds r0 r c3 h3⟩
end
end
end L4
namespace L4
open PySem PySem.Spec PyProof.Rows L2
section
variable{P:Program}{w:World}{K:W.Frag}{mg:Str->Option Value}{base:Heap}{T:Tb}
end
section
variable{T:Tb}{X:Cx}
end
section
variable{T:Tb}{X:Cx}{tg:Expr}
end
section
variable{T:Tb}{X:Cx}
end
def dfK(dds ds:List D):M (List D):=ret (ds++dds)
def aDf(dds:List D)(fs:Ev->M (List D)):Ev->M (List D):=fun ρ=>bnd (fs ρ) (dfK dds)
section
variable{T:Tb}{X:Cx}
theorem zmp{k c:Nat}{ps:List Str}{dval:List Value}{dvs:List V}{dds:List D}{fn:List D->M D}{x:Str}{p pos:Pos}{e:Expr}{es:List Expr}{fs:Ev->M (List D)}{f:Addr}{fd:FuncData}(hm:X.mg x=some (.ref (T.ca c)))(hM:Mk T.K (T.ca c) f)(hb:yhz T.K fd ps dval)
  (hF:FnOk X.prog X.w T.K X.mg X.base (CXE X.prog X.w) k f fd ps (spF T ps.length fn)) (hv:yo0 dvs dval) (hdd:∀ μ H,yot T μ H dds dvs) (hK:T.K=X.K) (hr:Room (k+1) X.A) (hg:Gl X x)
  (ha:FA T X (e::es) fs) (hdb:(x == ("__debug__" : Str))=false:=by decide) (he:starEach (e::es) X.env=(false,eval e X.env)::starEach es X.env:=by rfl) (hpl:(backTo pos (starEach es X.env)).any (·.1)=false:=by rfl) :
  FE T X (.Call (.Name x p) (e::es) [] pos) (yi1 c ps.length fn (aDf dds fs)):=by
 rw[hK]at hM hF hb;intro pins s st H Q I hq;obtain⟨μ,ρ,σ,hE,hr',hp⟩:=hq;have hp':yol T (XE X st) (Rep T) μ H (bnd (fs ρ) (fun ds=>yk1 c ps.length fn (ds++dds)) σ) Q:=by
  have:yi1 c ps.length fn (aDf dds fs) ρ σ=bnd (fs ρ) (fun ds=>yk1 c ps.length fn (ds++dds)) σ:=by
   unfold yi1 aDf dfK bnd;cases fs ρ σ<;>rfl
  rw[<-this];exact hp
 refine wpAny_Call_Name_kw (zvi I hg hm ?_ hdb);refine W.callWith_K (h₀:=X.base) I.ok.mod.kin hM.kp (thn (ha pos pins s st H (fun vs H1=>∀ x dx,H1 x=none->H1 dx=none->dx≠x->spF T ps.length fn (.ref x::(vs++dvs)) (upd (upd H1 dx (.own x)) x (.ins (T.ca c) dx [])) (fun v H2=>v=.non/\Q (.ref x) H2) (XE X st)) I ⟨μ,ρ,σ,hE,hr',hp'.bind fun ds σ1 μ1 vs H1 _ e1 r1 p1 q1=>?_⟩) fun us s1 ⟨vs,H1,I1,r,q⟩=>⟨I1.kIn,?_⟩) he hpl
 ·have:=zjn r1 (yot.append p1 (hdd _ _)) q1;rw[List.append_nil]at this;exact this
 ·exact zke (ds:=dval) (dvs:=dvs) hM hF hr hb hv I1 r q
theorem zmo{k c:Nat}{ps:List Str}{dv dval:List Value}{dvs:List V}{dds:List D}{fn:List D->M D}{x:Str}{p pos:Pos}{e:Expr}{es:List Expr}{fs:Ev->M (List D)}{f:Addr}(hm:X.mg x=some (.ref (T.ca c)))(hM:Mk T.K (T.ca c) f)(h:OkB T X.prog X.w X.mg X.base k f ps dv fn)(hd:dval=[]\/dval=dv)(hv:yo0 dvs dval)(hdd:∀ μ H,yot T μ H dds dvs)(hK:T.K=X.K)(hr:Room (k+1) X.A)(hg:Gl X x)
  (ha:FA T X (e::es) fs) (hdb:(x == ("__debug__" : Str))=false:=by decide) (he:starEach (e::es) X.env=(false,eval e X.env)::starEach es X.env:=by rfl) (hpl:(backTo pos (starEach es X.env)).any (·.1)=false:=by rfl) :
  FE T X (.Call (.Name x p) (e::es) [] pos) (yi1 c ps.length fn (aDf dds fs)):=by
 obtain⟨fd,hb,hb1,hF⟩:=h;exact zmp hm hM (by rcases hd with rfl|rfl<;>assumption) hF hv hdd hK hr hg ha hdb he hpl
end
def yq0:Out D->Out D
 | .ok d σ=>.ok d σ
 |_=>.bad
def noX(m:M D):M D:=fun σ=>yq0 (m σ)
structure FnOkH(P:Program)(w:World)(K:W.Frag)(mg:Str->Option Value)(base:Heap)(k:Nat)(f:Addr)(fd:FuncData)(ps:List Str)(sp:Sp):Prop where
 len:∀ vs H Q E,sp vs H Q E->vs.length=ps.length
 run:∀ (A:Around) (outer:List Env) (s:Shared) (H:Hp) (args:Args) (us:List Value) (vs:List V) (Q:VK) (E:XK),Room k { A with handled:=none }->Env0 P w K mg base A outer s H->BindsTo s fd args (ps.zip us)->yo0 vs us->sp vs H Q E->
  codeAny (model P w) A (.call (.ref f) args) (CR (CXE P w) outer P w H s Q E) s
def cxH(P:Program)(w:World)(K:W.Frag)(mg:Str->Option Value)(base:Heap)(N:List Str)(qual:Str)(scope:Scope)(f:Addr)(cd:Value)(A:Around)(outer:List Env)(s:Shared)(H:Hp)(E:XK):Cx:=
 { ypq (CXE P w) P w K mg base N qual scope f cd A outer s H E with calm:=false }
section
variable{P:Program}{w:World}{K:W.Frag}{mg:Str->Option Value}{base:Heap}{ca:Nat->Addr}{tx:Tx}{T:Tb}{k:Nat}{f:Addr}{ps:List Str}
theorem yp7{x qual:Str}{st:Stmt}{N:List Str}{g:Ev->M Fl}{params:Arguments}{dV kV doc pm cdv ct oc:Value}{an od:Option Addr}{osl:Array (Option Value)}
  (lk:K.lookup f=some ⟨oc,od,.func (W.fnOf x qual params (zsr st) (zlv st) dV kV doc pm an cdv ct),osl⟩) (hcd:W.codeIn K cdv qual=true) (S:FnScope N ps (zlv st))
  (hb:∀ (A:Around) (outer:List Env) (s:Shared) (H:Hp) (E:XK),Room k { (A.deeper (envOfC qual (zlv st) s.heap.objs.size f cdv))with handled:=none }->FSs T (cxH P w K mg base N qual (zlv st) f cdv A outer s H E) (zsr st) g) :
  FnOkH P w K mg base (k+1) f (W.fnOf x qual params (zsr st) (zlv st) dV kV doc pm an cdv ct) ps (spF T ps.length (fun ds=>noX (run N.length g ds))):=by
 have len:∀ vs H Q E,spF T ps.length (fun ds=>noX (run N.length g ds)) vs H Q E->vs.length=ps.length:=fun vs H Q E h=>by
  obtain⟨μ,σ,ds,h1,h2,_⟩:=h;rw[<-h1.length];exact h2
 refine⟨len,fun A outer s H args us vs Q E hr e0 hb' r hsp=>?_⟩;have hl:=len _ _ _ _ hsp;have KX:K.In s.heap:=e0.mod.kin.keeps fun b o e=>(e0.bs b o e).1;have lim:s.heap.NoLimit:=e0.mod.nolimit.keeps fun b o e=>(e0.bs b o e).1;have hkind:∀ y∈ps.zip us,(zlv st).names.lookup y.1=some .local\/((zlv st).names.lookup y.1=some .cell/\((cellsFrom (s.heap.objs.size+1) (zlv st).names []).lookup y.1).isSome=true):=fun⟨n,v⟩ hy=>by
  rcases S.par n (List.of_mem_zip hy).1 with q|q
  ·exact .inl q
  ·exact .inr ⟨q,W.cellsFrom_some _ _ _ (.inl q)⟩
 have hdp:A.depth<recursionLimit:=hr.depth;refine codeAny_call_function hdp (KX _ _ lk) rfl S.co S.gen rfl (W.codeRec_of KX hcd) (hb' _ _ _ _ ?_);refine wpAny_newFunctionEnv_cells S.kind hkind fun env he s1 x1=>?_;subst he;refine⟨lim.keeps x1.toInCall.keep,codeAny_func ?_⟩;have e0':Env0 P w K mg base { A with handled:=none } outer s H:=⟨e0.frames,e0.mod,e0.bs,e0.bsz,e0.funs,e0.frf,e0.hok,e0.bare⟩
 have I0:Inv (ypq (CXE P w) P w K mg base N qual (zlv st) f cdv { A with handled:=none } outer s H E) [] (ynb N vs) H s1:=zi5 S rfl e0' hl r x1;have I:Inv (cxH P w K mg base N qual (zlv st) f cdv A outer s H E) [] (ynb N vs) H s1:=
  ⟨⟨I0.ok.mod,I0.ok.kind,I0.ok.glob,I0.ok.blt,I0.ok.above,I0.ok.inj,I0.ok.has,I0.ok.cab,fun z=>(by cases z),I0.ok.frames,I0.ok.stk,I0.ok.exf,I0.ok.bs,I0.ok.bsz,I0.ok.noex,I0.ok.exfs,I0.ok.funs,I0.ok.frf⟩,I0.os,I0.bare,I0.base,I0.loc,I0.cell,I0.free,I0.freeC,I0.pin,I0.hok,I0.len⟩
 obtain⟨μ,σ,ds,h1,h2,h3,h4⟩:=hsp;have hrd:Room k { (A.deeper (envOfC qual (zlv st) s.heap.objs.size f cdv))with handled:=none }:=hr.deeper _;refine wpAny_mono (hb A outer s H E hrd [] s1 (ynb N vs) H { nx:=fun _ H'=>Q .non H',rt:=Q } I ⟨μ,_,σ,zkr h1,h3,?_⟩) (fun fl s' hs=>?_) fun e s' hs=>hs
 ·have h4':yol T E (Rep T) μ H (yq0 (run N.length g ds σ)) Q:=h4;unfold run at h4';cases eg:g (ds.map some++List.replicate (N.length - ds.length) none) σ with
  |bad=>rw[eg]at h4';exact h4'
  |ex x σ1=>rw[eg]at h4';exact h4'.elim
  |ok fl σ1=>
   rw[eg]at h4';intro μ1 gl H1 e1 r1 q1;have p1:=h4'.mono e1;cases fl with
   |nx ρ2=>cases gl with
    |nx st2=>have z:Q V.non H1:=yol.here (d:=D.non) p1 r1 (by rw[Rep]);exact z
    |_=>exact q1.elim
   |rt d2=>cases gl with
    |rt v2=>have z:Q v2 H1:=yol.here (d:=d2) p1 r1 q1;exact z
    |_=>exact q1.elim
   |xc ρ2 x2=>exact p1.elim
   |_=>exact p1.elim
 ·have fin:∀ {σ':St} {H':Hp} {v:V} {u:Value},Inv (cxH P w K mg base N qual (zlv st) f cdv A outer s H E) [] σ' H' s'->yoq v u->Q v H'->CE outer P w H s Q u s':=
   fun {σ' H' v u} J rv q=>⟨v,H',J.os,J.bare,J.base,J.hok,rv,q⟩
  cases fl with
  |ret u=>
   obtain⟨v,σ',H',J,rv,q⟩:=hs;exact fin J rv q
  |next=>
   obtain⟨σ',H',J,q⟩:=hs;exact fin (v:=V.non) (u:=Value.none) J rfl q
  |brk=>
   obtain⟨_,_,_,q⟩:=hs;exact False.elim q
  |cont=>
   obtain⟨_,_,_,q⟩:=hs;exact False.elim q
def OkH(T:Tb)(P:Program)(w:World)(mg:Str->Option Value)(base:Heap)(k:Nat)(x:Str)(ps:List Str)(fn:List D->M D):Prop:=
 ∃ f fd,mg x=some (.ref f)/\W.keepIn T.K (.ref f)=true/\(∀ us:List Value,us.length=ps.length->bindArgs fd ⟨us,[]⟩=pure (ps.zip us))/\FnOkH P w T.K mg base k f fd ps (spF T ps.length fn)
theorem OkH.hide{k:Nat}{x:Str}{ps:List Str}{fn:List D->M D}(h:OkH T P w mg base k x ps fn):OkH T P w mg base k x ps (L4.hide fn):=by rw[zur];exact h
theorem ye2{k:Nat}{x:Str}{st:Stmt}{ps N:List Str}{g:Ev->M Fl}(h:yh3 K mg x st ps)(S:FnScope N ps (zlv st))
  (hb:∀ (f:Addr) (cdv:Value) (A:Around) (outer:List Env) (s:Shared) (H:Hp) (E:XK),Room k { (A.deeper (envOfC x (zlv st) s.heap.objs.size f cdv))with handled:=none }->FSs ⟨K,ca,tx⟩ (cxH P w K mg base N x (zlv st) f cdv A outer s H E) (zsr st) g) :
  OkH ⟨K,ca,tx⟩ P w mg base (k+1) x ps (fun ds=>noX (run N.length g ds)):=by
 obtain⟨f,fd,hm,F,hbd⟩:=h;obtain⟨oc,od,kV,doc,pm,an,cdv,ct,osl,rfl,lk,hcd⟩:=F.ex;exact⟨f,_,hm,F.kp,hbd,yp7 lk hcd S (hb f cdv)⟩
end
theorem ymm{k:Nat}{A:Around}{v:Option Value}(r:Room k A):Room k { (A.mark v)with handled:=none }:=⟨rfl,r.dp,r.un⟩
section
variable{T:Tb}{X:Cx}
theorem zmg{k:Nat}{ps:List Str}{fn:List D->M D}{x:Str}{p pos:Pos}{e:Expr}{es:List Expr}{fs:Ev->M (List D)}(h:OkH T X.prog X.w X.mg X.base k x ps fn)(hK:T.K=X.K)(hr:Room k { X.A with handled:=none })(hg:Gl X x)
  (ha:FA T X (e::es) fs) (hdb:(x == ("__debug__" : Str))=false:=by decide) (he:starEach (e::es) X.env=(false,eval e X.env)::starEach es X.env:=by rfl) (hpl:(backTo pos (starEach es X.env)).any (·.1)=false:=by rfl) :
  FE T X (.Call (.Name x p) (e::es) [] pos) (eFn ps.length fn [] fs):=by
 obtain⟨f,fd,hm,hk,hb,F⟩:=h;rw[hK]at hk F;intro pins s st H Q I h;refine wpAny_Call_Name_kw (zvi I hg hm ?_ hdb);obtain⟨μ,ρ,σ,hE,hr',hp⟩:=h;refine W.callWith_K (h₀:=X.base) I.ok.mod.kin hk (thn (ha pos pins s st H (fun vs H1=>spF T ps.length fn (vs++[]) H1 Q (XE X st)) I ⟨μ,ρ,σ,hE,hr',hp.bind fun ds σ1 μ1 vs H1 _ e1 r1 p1 q1=>?_⟩) fun us s1 ⟨vs,H1,I1,r,q⟩=>⟨I1.kIn,?_⟩) he hpl
 ·unfold fnK at q1;by_cases hl:(ds++[]).length=ps.length
  ·rw[if_pos hl]at q1;exact⟨μ1,σ1,ds++[],p1.append yot.nil,hl,r1,q1⟩
  ·rw[if_neg hl]at q1;exact q1.elim
 ·have r2:yo0 (vs++[]) (us++[]):=r.append .nil;have hl:(us++[]).length=ps.length:=by rw[<-r2.length];exact F.len _ _ _ _ q
  refine wpAny_call (codeAny_mono (F.run X.A X.stack s1 H1 ⟨us,[]⟩ (us++[]) (vs++[]) Q (XE X st) hr I1.env0 (yhz.all hb s1 us I1.kIn hl) r2 q) fun r s' hq=>?_);cases r with
  |error e=>obtain⟨cls,fd,H',hfly,ht⟩:=hq;exact ht.fly pins H1 s1 e s' I1 hfly
  |ok fl=>
   cases fl with
   |ret u=>exact I1.after hq
   |next=>exact False.elim hq
   |brk=>exact False.elim hq
   |cont=>exact False.elim hq
theorem zpn:∀ its:List Value,its.length<=4->slicePick its.toArray none none (some (-1))=its.reverse.toArray
 |[],_=>by with_unfolding_all rfl
 |[_],_=>by with_unfolding_all rfl
 |[_,_],_=>by with_unfolding_all rfl
 |[_,_,_],_=>by with_unfolding_all rfl
 |[_,_,_,_],_=>by with_unfolding_all rfl
 |_::_::_::_::_::_,h=>by simp at h
def yr3(x:D)(o:Option Int):M D:=fun σ=>match x with
 | .lst xs=>if o=some (-1)/\xs.length<=4 then yk6 xs.reverse σ else .bad
 |_=>.bad
def yp0(f:Ev->M D)(p:PF):Ev->M D:=fun ρ=>bnd (f ρ) fun x=>bnd (yi3 p ρ) (yr3 x)
theorem zdt{μ:List Addr}{H:Hp}:∀ {ds:List D} {vs:List V},yot T μ H ds vs->yot T μ H ds.reverse vs.reverse
 |[],vs,h=>by rw[yot]at h;subst h;exact yot.nil
 |d::ds,vs,h=>by
  rw[yot]at h;obtain⟨v,r,rfl,h1,h2⟩:=h;rw[List.reverse_cons,List.reverse_cons];exact yot.append (zdt h2) (yot.cons h1 yot.nil)
theorem zd3:∀ {vs:List V} {us:List Value},yo0 vs us->yo0 vs.reverse us.reverse
 |_,_,.nil=>.nil
 |_,_,.cons h t=>by
  rw[List.reverse_cons,List.reverse_cons];exact(zd3 t).append (.cons h .nil)
theorem ycc{e st:Expr}{f:Ev->M D}{ps:PF}{pos p2:Pos}(he:FE T X e f)(hs:FO T X (some st) ps):FE T X (.Subscript e (.Slice none none (some st) p2) pos) (yp0 f ps):=by
 intro pins s stt H Q I h;obtain⟨μ,ρ,σ,hE,hr,hp⟩:=h;refine Subscript_ (thn (he pins s stt H (fun v H1=>tP T X (yi3 ps) stt H1 fun o H2=>o=some (-1)/\∃ a xs,v=.ref a/\xs.length<=4/\SqL X.K H2 a xs/\∀ p,H2 p=none->Q (.ref p) (upd H2 p (.lst xs.reverse))) I ⟨μ,ρ,σ,hE,hr,hp.bind fun d σ1 μ1 v H1 _ e1 r1 q1 p1=>⟨μ1,ρ,σ1,hE.mono e1,r1,p1.bind fun o σ2 μ2 o' H2 _ e2 r2 q2 p2=>?_⟩⟩) fun v s1 ⟨x,H1,I1,rx,q1⟩=>?_)
 ·have q2':o'=o:=q2;subst q2';unfold yr3 at p2;cases d with
  |lst xs=>
   dsimp only at p2;by_cases ho:o'=some (-1)/\xs.length<=4
   ·rw[if_pos ho]at p2;have q1':=Rep.mono e2 _ _ q1;rw[Rep]at q1';obtain⟨a,vs,rfl,_,h3,h4⟩:=q1';exact⟨ho.1,a,vs,rfl,by rw[<-h4.length];exact ho.2,SqL.of h3,fun p hn=>zv2 p2 r2 (zdt h4) hn⟩
   ·rw[if_neg ho]at p2;exact p2.elim
  |_=>exact p2.elim
 ·refine wpAny_Slice ?_;rw[evalPart_none];refine wpAny_pure (wpAny_pure (thn (hs pins s1 stt H1 _ I1 q1) fun vst s3 ⟨o,H3,I3,po,ho,a,xs,ex,hl4,hx,q3⟩=>?_));subst ho;subst ex;cases rx;have I4:Inv X pins stt H3 { s3 with heap:=s3.heap.push { cls:=.type "slice",data:=.fields #[.none,.none,vst] } }:=I3.kept (t':=s3.toks) fun b ob q=>Heap.get?_push_of_some _ q;obtain⟨its,r,ht,hz⟩:=I4.list hx;have hlen:=r.length;show wpAny (model X.prog X.w) X.A (subscriptTail e (.Slice none none (some st) p2) (.ref a) (.ref s3.heap.objs.size)) (EP X pins stt Q) X.xe { s3 with heap:=s3.heap.push { cls:=.type "slice",data:=.fields #[.none,.none,vst] } };refine tail_any (ops:=[.ref a,.ref s3.heap.objs.size]) ht.isList.typeIs slot_list_getitem.lookup (wpAny_getItem_list_slice ht.isList (Heap.IsSliceOf.new ..) .none .none po (by simp) ?_ (by rw[List.size_toArray]<;>omega)) (by with_unfolding_all rfl);rw[zpn _ (by rw[<-hlen];exact hl4)];refine⟨.ref _,_,I4.laid (t':=s3.toks) (o:=.lst xs.reverse) (fun b ob q=>Heap.get?_push_of_some _ q) (Nat.le_refl _) ?_,rfl,q3 _ (I4.hok.fresh (Nat.le_refl _))⟩;exact⟨by rw[List.length_reverse];exact hz,_,0,zd3 r,Heap.get?_push_size _ rfl⟩
def ykl:List D->Option (List Key)
 |[]=>some []
 |d::ds=>match yqo d,ykl ds with
  |some k,some ks=>some (k::ks)
  |_,_=>none
theorem zn4{μ:List Addr}{H:Hp}:∀ {ds:List D} {vs:List V} {ks:List Key},yot T μ H ds vs->ykl ds=some ks->vs=ks.map kV
 |[],vs,ks,h,e=>by rw[yot]at h;cases e;exact h
 |d::ds,vs,ks,h,e=>by
  rw[yot]at h;obtain⟨v,r,rfl,h1,h2⟩:=h;unfold ykl at e;cases e1:yqo d with
  |none=>rw[e1]at e;cases e
  |some k=>
   cases e2:ykl ds with
   |none=>rw[e1,e2]at e;cases e
   |some ks'=>
    rw[e1,e2]at e;cases e;rw[zvc h1 e1,zn4 h2 e2];rfl
def ybg:Ev->M D:=fun _ σ=>.ok (.ref σ.length) (σ++[.tdic []])
theorem zmk{pos:Pos}:FE T X (.Dict [] [] pos) ybg:=by
 intro pins s st H Q I h;obtain⟨μ,ρ,σ,hE,hr,hp⟩:=h;refine zph pins s st H Q I fun p hn=>?_;exact hp (μ++[p]) (.ref p) _ (zme hn) (hr.push hn ⟨[],zre,rfl⟩) (zp5 hr)
open Classical in
noncomputable def yrp(ks:List (List Key))(k:List Key):List (List Key):=if k∈ks then ks else ks++[k]
open Classical in
theorem zj7(kvs:List (List Key × V))(k:List Key)(v:V):(yro kvs k v).map (·.1)=if k∈kvs.map (·.1)then kvs.map (·.1)else kvs.map (·.1)++[k]:=by
 unfold yro;by_cases h:k∈kvs.map (·.1)
 ·have:(kvs.any fun kv=>decide (kv.1=k))=true:=by
   obtain⟨p,hp,e⟩:=List.mem_map.mp h;exact List.any_eq_true.mpr ⟨p,hp,by simpa using e⟩
  rw[if_pos this,if_pos h,List.map_map];refine List.map_congr_left fun p hp=>?_;show (if p.1=k then (p.1,v)else p).1=p.1;split<;>rfl
 ·have:¬ (kvs.any fun kv=>decide (kv.1=k))=true:=fun z=>by
   obtain⟨p,hp,e⟩:=List.any_eq_true.mp z;exact h (List.mem_map.mpr ⟨p,hp,by simpa using e⟩)
  rw[if_neg this,if_neg h,List.map_append];rfl
noncomputable def ym7(ρ:Ev)(x y:D):M Fl:=fun σ=>match x,y with
 | .ref n,.tup ys=>(match ykl ys,σ[n]? with
  |some k,some (.tdic ks)=>if ks.length<cap then .ok (.nx ρ) (σ.set n (.tdic (yrp ks k)))else .bad
  |_,_=>.bad)
 |_,_=>.bad
noncomputable def ym6(ρ:Ev)(fi:Ev->M D)(x:D):M Fl:=xs ρ (fi ρ) (ym7 ρ x)
noncomputable def ym5(ρ:Ev)(fo fi:Ev->M D)(_:D):M Fl:=xs ρ (fo ρ) (ym6 ρ fi)
noncomputable def yms(f fo fi:Ev->M D):Ev->M Fl:=fun ρ=>xs ρ (f ρ) (ym5 ρ fo fi)
theorem zub{e o i:Expr}{f fo fi:Ev->M D}{pos pos':Pos}(hu:X.A.units+9<cLine)(he:FE T X e f)(ho:FE T X o fo)(hi:FE T X i fi)
  (ha:∀ v,assign (.Subscript o i pos') X.env v=(do
   let ov <-holding [v] (eval o X.env);let iv <-holding [v,ov] (eval i X.env)
   standAt pos'
   holding [v,ov,iv] (setItem ov iv v)
   release [v,ov,iv] []):=by intro _;rfl)
  (hs:swapsWithSole [.Subscript o i pos'] e pos.line X.env=pure false:=by rfl) (hw:swappedStores [.Subscript o i pos'] e X.env=pure none:=by rfl)
  (h1:(assignEach [.Subscript o i pos'] X.env).map (·.2)=[assign (.Subscript o i pos') X.env]:=by rfl):FS T X (.Assign [.Subscript o i pos'] e pos) (yms f fo fi):=by
 intro pins s st H D I hq;refine yf0 he (yfu ho hi (zqr hu) ha) hs hw h1 pins s st H D I ?_;obtain⟨μ,ρ,σ,hE,hr,hp⟩:=hq;refine⟨μ,ρ,σ,hE,hr,hp.xs hE fun d σ1 μ1 v H1 _ e1 r1 q1 p1=>?_⟩;refine⟨μ1,ρ,σ1,hE.mono e1,r1,p1.xs (hE.mono e1) fun x σ2 μ2 vo H2 _ e2 r2 q2 p2=>?_⟩;refine⟨μ2,ρ,σ2,(hE.mono e1).mono e2,r2,p2.xs ((hE.mono e1).mono e2) fun y σ3 μ3 vi H3 _ e3 r3 q3 p3=>?_⟩;have hd:Rep T μ3 H3 d v:=Rep.mono e3 _ _ (Rep.mono e2 _ _ q1);have hx:Rep T μ3 H3 x vo:=Rep.mono e3 _ _ q2;unfold ym7 at p3;cases x with
 |ref n=>
  cases y with
  |tup ys=>
   dsimp only at p3;cases ek:ykl ys with
   |none=>rw[ek]at p3;exact p3.elim
   |some k=>
    rw[ek]at p3;cases el:σ3[n]? with
    |none=>rw[el]at p3;exact p3.elim
    |some ob=>
     rw[el]at p3;cases ob with
     |tdic ks=>
      dsimp only at p3;by_cases hc:ks.length<cap
      ·rw[if_pos hc]at p3;obtain⟨a,rfl,hn,vs,g1,g2⟩:=r3.at hx el;rw[Rep]at q3;obtain⟨b,ws,rfl,hb,hws⟩:=q3;have ek2:=zn4 hws ek;subst ek2;have wr:=r3.write (o:=.dT (yro vs k v)) (ob:=.tdic (yrp ks k)) hn ⟨_,zre,by
        subst g2;rw[zj7];rfl⟩ (fun kv z=>by rw[el]at z;cases z)
       have hlen:vs.length=ks.length:=by rw[<-g2,List.length_map]
       exact⟨a,_,rfl,yn8.t g1 hb (by rw[hlen];exact Nat.lt_of_lt_of_le hc (by decide)),p3 _ (.nx st) _ wr.1 wr.2 (((hE.mono e1).mono e2).mono e3 |>.mono wr.1)⟩
      ·rw[if_neg hc]at p3;exact p3.elim
     |_=>exact p3.elim
  |_=>exact p3.elim
 |_=>exact p3.elim
end
section
variable{T:Tb}{X:Cx}
open Classical in
theorem zzl{μ0:List Addr}{H0:Hp}{src:Src}{J:It}(h:yic T μ0 H0 src J):yow T μ0 H0 src.nx J:=fun μ H σ i ex r=>by
 have q:=h μ H σ i ex r;cases e:src.nx i σ with
 |none=>trivial
 |some o=>
  rw[e]at q;cases o with
  |none=>exact q
  |some d=>exact⟨q.1,fun x H' y=>let ⟨a,b⟩:=q.2 x H' y;by subst a;exact⟨Ext.refl _ _,r,b⟩⟩
def nxR(s:Src):M NX:=ret s.nx
def toN(f:Ev->M Src):Ev->M NX:=fun ρ=>bnd (f ρ) nxR
theorem yp6{tg iter:Expr}{f:Ev->M Src}(h:FI T X tg iter f):FIN T X tg iter (toN f):=by
 intro pins s st H R I hw;obtain⟨μ,ρ,σ,hE,hr,hp⟩:=hw;exact h pins s st H R I ⟨μ,ρ,σ,hE,hr,hp.bind fun src σ1 μ1 J H1 _ e1 r1 q1 p1=>yol.here p1 r1 (zzl q1)⟩
theorem ziv{elt iter tgt:Expr}{ifs:List Expr}{scope:Scope}{pos spos py:Pos}{x y z0:Str}{i:Nat}{M':List Str}{ix:List Nat}{src:Ev->M NX}{tg:D->Ev->Option Ev}{fi:Ev->M Bool}{fe:Ev->M D}
  (hN:X.N.Nodup) (hi:X.N[i]?=some y) (hx:Loc X.env.scope y)
  (hc:X.calm=true) (L:LcOk X x M' ix scope) (hsrc:FIN T X tgt iter src)
  (htg:∀ cl C s₀ H₀ ex,FG T (blk X (x::z0::M') scope cl C s₀ H₀ ex) tgt tg)
  (hif:∀ cl C s₀ H₀ ex,FIf T (blk X (x::z0::M') scope cl C s₀ H₀ ex) ifs fi)
  (helt:∀ cl C s₀ H₀ ex,FE T (blk X (x::z0::M') scope cl C s₀ H₀ ex) elt fe)
  (hs:∀ y,foldedSetIterable iter X.env y=pure y:=by intro _;rfl)
  (hsw:swapsWith (.ListComp elt [⟨tgt,iter,ifs,0⟩] scope pos) (some (.Name y py)) spos.line X.env=pure true:=by rfl)
  (hf:X.fn y=true\/X.env.scope.names.lookup y=some .local:=by first|exact .inl rfl|exact .inr rfl|assumption) :
  FS T X (.Assign [.Name y py] (.ListComp elt [⟨tgt,iter,ifs,0⟩] scope pos) spos) (ysd i (ypw src ix tg fi fe)):=by
 intro pins s st H D I h;obtain⟨μ,ρ,σ,hE,hr,hp0⟩:=h;have hp:yol T (XE X st) (Rep T) μ H (ypw src ix tg fi fe ρ σ) (fun v H1=>D.nx (st.set i (some v)) H1):=hp0.xs hE fun d σ1 μ1 v H1 _ e1 r1 q1 p1=>yol.here (g:=Gl2.nx (st.set i (some v))) p1 r1 ((hE.mono e1).set i q1);rw[exec_Assign_Name_used _ _ _ _ hsw];refine wpAny_bind (wpAny_standAt (wpAny_bind ?_));show wpAny _ X.A (do let _ <-comprehension (.ListComp elt [⟨tgt,iter,ifs,0⟩] scope pos) scope X.env _ (newList []) false (eval iter X.env) (some (assign (.Name y py) X.env))) _ _ s;refine wpAny_bind (wpAny_mono (wpAny_comprehension_free (use:=some (assign (.Name y py) X.env)) (Q:=fun _ s'=>SP X pins D .next s') rfl hs (zfq X.env scope (zsl I L)) L.kind (fun y hy e=>?_)
  ?_) (fun _ s' hq=>wpAny_pure (wpAny_pure hq)) fun _ _ e=>e)
 ·have q:=List.all_eq_true.mp L.names y hy;rw[e]at q;simp only[beq_self_eq_true,Bool.not_true,Bool.false_or]at q;exact eq_of_beq q
 have h1:=hsrc pins s st H (fun J H2=>∃ nx μ2 σ2,Ext μ H μ2 H2/\Rel T μ2 H2 σ2/\yow T μ2 H2 nx J/\yol T (XE X st) (Rep T) μ2 H2 (bnd (zvg nx σ2.length tg fi fe 1001 0 (yam ix ρ)) (fun _=>ret (.ref σ2.length)) (σ2++[Ob.lst []])) (fun v H1=>D.nx (st.set i (some v)) H1)) I
  ⟨μ,ρ,σ,hE,hr,hp.bind fun nx σ1 μ1 J H1 _ e1 r1 q1 p1=>⟨nx,μ1,σ1,e1,r1,q1,p1⟩⟩
 refine thn h1 fun v s1 h2=>thn h2 fun itv s2 h3=>?_;obtain⟨it,fp,tn,J,H2,rfl,I2,TT,st2,f2,nx,μ2,σ2,ex2,r2,so,p2⟩:=h3;refine wpAny_newObj_type (wpAny_newFunctionEnv (yer L) (by intro y hy;simp at hy) (fun h₁ hns₁ hsb₁=>?_) L.kind);have I3:=I2.lnew (ys:=[]) (its:=[]) (t':=s2.toks) .nil (by simp);have fr2:H2 s2.heap.objs.size=none:=I2.hok.fresh (Nat.le_refl _);have r3:=r2.push (p:=s2.heap.objs.size) (o:=.lst []) (ob:=.lst []) fr2 ⟨[],zre,yot.nil⟩;have ex3:Ext μ2 H2 (μ2++[s2.heap.objs.size]) (upd H2 s2.heap.objs.size (.lst [])):=zme fr2;have hsz:s2.heap.objs.size<(s2.heap.push { cls:=.type "list",data:=.seq ([]:List Value).toArray }).objs.size:=by rw[Heap.size_push];exact Nat.lt_succ_self _
 have kp:∀ b o,(s2.heap.push { cls:=.type "list",data:=.seq ([]:List Value).toArray }).get? b=some o->h₁.get? b=some o:=fun b o e=>hsb₁.extBut b o (Nat.ne_of_lt (Heap.lt_size e)) (Heap.get?_push_of_some _ e);have hfp:∀ b∈fp,yoc X pins (upd H2 s2.heap.objs.size (.lst [])) b/\b<(s2.heap.push { cls:=.type "list",data:=.seq ([]:List Value).toArray }).objs.size:=fun b hb=>by
  obtain⟨o,e,_⟩:=TT.obj 0 _ st2 b hb;have lt:=Heap.lt_size e;exact⟨⟨by rw[yhv (Nat.ne_of_lt lt)];exact(f2 b hb).1,(f2 b hb).2⟩,Nat.lt_trans lt hsz⟩
 refine zob (s3:={ s2 with heap:=s2.heap.push { cls:=.type "list",data:=.seq ([]:List Value).toArray },toks:=s2.toks }) (n:=σ2.length) (D0:=s2.heap.objs.size) hc L htg hif helt I3 hfp hns₁ kp TT (TT.keep 0 _ _ st2 fun b hb o e=>kp b o (Heap.get?_push_of_some _ e))
  (fun μ H σ i ex r=>so μ H σ i (ex3.trans ex) r) ((hE.mono ex2).mono ex3) r3 (by rw[<-r2.len];simp) (p2.mono ex3) (fun s6 H' m6 hm6 hC' hu0 hos hok6 hb6 hq=>?_)
 have I6:=L2.Inv.call' (s':=s6) (ch:=fp) I3 hos hu0 hok6 hb6 (fun b hb=>⟨(hfp b hb).1.2.2.2.1,(hfp b hb).1.2.1,(hfp b hb).1.2.2.2.2.1,(hfp b hb).1.2.2.2.2.2⟩);have ltL:X.env.locals<(s2.heap.push { cls:=.type "list",data:=.seq ([]:List Value).toArray }).objs.size:=I3.lt;have ltC:∀ z c,X.env.cells.lookup z=some c->c<(s2.heap.push { cls:=.type "list",data:=.seq ([]:List Value).toArray }).objs.size:=fun z c e=>by
  obtain⟨v,q⟩:=I3.cell z c e;exact q.lt
 show wpAny _ X.A (assign (.Name y py) X.env (.ref s2.heap.objs.size)) _ _ s6;refine wpAny_assign_Name (zks (v:=.ref s2.heap.objs.size) I6 hN hi hx rfl (fun s7 I7 ⟨a,sb,ha⟩=>?_) hf);have neC:a≠(s2.heap.push { cls:=.type "list",data:=.seq ([]:List Value).toArray }).objs.size:=by
  rcases ha with rfl|ha
  ·exact Nat.ne_of_lt ltL
  ·exact Nat.ne_of_lt (ltC _ _ ha)
 refine⟨m6,hm6.sameBut sb (Ne.symm neC),fun h8 hs8=>?_⟩;refine⟨st.set i (some (.ref s2.heap.objs.size)),H',?_,hq⟩;exact I7.turned (t':=s7.toks) (it:=(s2.heap.push { cls:=.type "list",data:=.seq ([]:List Value).toArray }).objs.size) (fun b o hb e=>(hs8.2 b hb).trans e) hC' (Nat.ne_of_gt ltL) (.inr (Nat.le_trans I3.sz (Nat.le_refl _))) (fun z c e=>Nat.ne_of_lt (ltC z c e)) (fun p hp=>Nat.ne_of_lt (Heap.lt_size (I3.pin p hp).1))
end
end L4
set_option maxHeartbeats 0
namespace K56
open PySem PySem.Spec PyProof.Rows L2 L4
def top(i:Nat):Stmt:=PySem.Challenge.pw_sidebook_k56_a_hall_is_made.main.body.getD i (.Pass ⟨0,0,0,0⟩)
def tx(K:W.Frag):Tx:=⟨[],0⟩
structure Txt(K:W.Frag)(mg:Str->Option Value)(ca:Nat->Addr):Prop where
 f__law_cell_at:yh3 K mg "_law_cell_at" (top 56) ["_law_script", "_law_k"]
 f__law_pot:yh3 K mg "_law_pot" (top 57) ["_law_cell", "_law_beside", "_law_fault"]
 f_is_whole:yh3 K mg "is_whole" (top 8) ["thing"]
 f_is_between:yh3 K mg "is_between" (top 9) ["thing", "least", "most"]
 f_is_hand:yh3 K mg "is_hand" (top 11) ["thing"]
 f_makes_a_pot:yh3 K mg "makes_a_pot" (top 37) ["thing"]
 f_checked_pots:yh3 K mg "checked_pots" (top 38) ["pots"]
 zi13:HasM K (ca 5) "__init__" "Claim.__init__" (yk9 (top 32) 0) ["self", "whole"] (ca 12)
 f_whole_of:yh3 K mg "whole_of" (top 39) ["made"]
 zi15:HasM K (ca 7) "__init__" "Book.__init__" (yk9 (top 40) 0) ["self", "pots"] (ca 16)
 f_Book_made_of:HasM K (ca 7) "made_of" "Book.made_of" (yk9 (top 40) 14) ["self"] (ca 30)
 f_check_span:yh3 K mg "check_span" (top 50) ["hand", "every", "pots"]
 f_Keeper_learn:HasM K (ca 10) "learn" "Keeper.learn" (yk9 (top 51) 2) ["self", "words"] (ca 38)
 f_Keeper_hold:HasM K (ca 10) "hold" "Keeper.hold" (yk9 (top 51) 1) ["self", "account", "claim", "seen"] (ca 37)
 f_are_ties:yh3 K mg "are_ties" (top 27) ["thing"]
 f_are_shares:yh3 K mg "are_shares" (top 26) ["thing"]
 f_is_number:yh3 K mg "is_number" (top 14) ["thing"]
 f_is_stand:yh3 K mg "is_stand" (top 28) ["thing"]
 f_stand:yab K mg "stand" (top 29) ["number", "shares", "ties"] [.none]
 f_first:yh3 K mg "first" (top 30) ["left", "right"]
 zi10:HasM K (ca 8) "__init__" "Account.__init__" (yk9 (top 44) 0) ["self", "pot", "side", "mine", "grant", "may", "strikes"] (ca 31)
 f_first_account:yh3 K mg "first_account" (top 46) ["pot", "side", "left", "right"]
 zi11:HasMD K (ca 10) "__init__" "Keeper.__init__" (yk9 (top 51) 0) ["self", "hand", "every", "pots", "words"] [.none] (ca 36)
 f_words_of:yh3 K mg "words_of" (top 53) ["hand", "words"]
 zi14:HasMD K (ca 11) "__init__" "Hall.__init__" (yk9 (top 54) 0) ["self", "pots", "keeps", "every", "words"] [.none] (ca 60)
 f__law_caught:yh3 K mg "_law_caught" (top 58) ["_law_e"]
 f__law_told:yh3 K mg "_law_told" (top 59) ["_law_pots", "_law_keeps", "_law_every"]
 f_Hall_book:HasM K (ca 11) "book" "Hall.book" (yk9 (top 54) 1) ["self"] (ca 61)
 f_Hall_road:HasM K (ca 11) "road" "Hall.road" (yk9 (top 54) 3) ["self"] (ca 63)
 f_Hall_keeper:HasM K (ca 11) "keeper" "Hall.keeper" (yk9 (top 54) 2) ["self", "hand"] (ca 62)
 f_Keeper_words:HasM K (ca 10) "words" "Keeper.words" (yk9 (top 51) 3) ["self"] (ca 39)
 f_Keeper_looked:HasM K (ca 10) "looked" "Keeper.looked" (yk9 (top 51) 4) ["self"] (ca 40)
 f__law_no_keeper:yh3 K mg "_law_no_keeper" (top 60) ["_law_hall", "_law_hand"]
 f_law:yh3 K mg "law" (top 61) ["_law_script"]
 n_all:mg "all" = none
 n_bool:mg "bool" = none
 n_enumerate:mg "enumerate" = none
 n_int:mg "int" = none
 n_isinstance:mg "isinstance" = none
 n_len:mg "len" = none
 n_list:mg "list" = none
 n_range:mg "range" = none
 n_set:mg "set" = none
 n_sorted:mg "sorted" = none
 n_tuple:mg "tuple" = none
 c_HELD:GlT K mg "HELD" ["held"]
 c_MOST_COIN:∃ t,mg "MOST_COIN" = some (.int 1000000000000 t)
 c_MOST_EVERY:∃ t,mg "MOST_EVERY" = some (.int 50 t)
 c_MOST_HAND:∃ t,mg "MOST_HAND" = some (.int 3 t)
 c_MOST_NUMBER:∃ t,mg "MOST_NUMBER" = some (.int 1000000 t)
 c_MOST_POT:∃ t,mg "MOST_POT" = some (.int 2 t)
 c_MOST_SHARE:∃ t,mg "MOST_SHARE" = some (.int 2000000000000 t)
 c_MOST_TIES:∃ t,mg "MOST_TIES" = some (.int 6 t)
 c_MOST_WAIT:∃ t,mg "MOST_WAIT" = some (.int 100 t)
 hca:∀ c,c<100->∀ n,n<10->ca (c+100 * (n+1))=ca c
 zi12:HasM K (ca 3) "__init__" "NoPot.__init__" (yk9 (top 20) 0) ["self", "pot"] (ca 83)
 ii_NoPot:L4.yja K (ca 3) L4.veB "ValueError.__new__" (ca 83)=true
 fc_NoPot:(K.lookup (ca 83)).any (fun o=>o.cls == .type "function")=true
 kp_NoPot:W.keepIn K (.ref (ca 3))=true
 sa_NoPot:W.findIn K (.ref (ca 3)) "__setattr__" = some (some (.builtin "object.__setattr__"))
 np_NoPot:W.findIn K (.ref (ca 3)) "pot" = some none
 mo_NoPot:W.mroIn K (ca 3) (.type "object")=some true
 bs_NoPot:W.specialIn K (.ref (ca 0)) (Str.ofString "__getattribute__")=some (some (.builtin "type.__getattribute__"))
 br_NoPot:W.readsIn K (ca 0) (.type "type")=true
 bf_NoPot:W.findCls K (.ref (ca 0)) (.type "type") "__init__" = some (.val (.builtin "ValueError.__init__"))
 m_BookError:mg "BookError" = some (.ref (ca 0))
 x_BookError:W.excIn K (ca 0) veB "ValueError.__new__" = true
 m_NoStand:mg "NoStand" = some (.ref (ca 1))
 x_NoStand:W.excIn K (ca 1) veB "ValueError.__new__" = true
 m_NoDeed:mg "NoDeed" = some (.ref (ca 2))
 x_NoDeed:W.excIn K (ca 2) veB "ValueError.__new__" = true
 m_NoPot:mg "NoPot" = some (.ref (ca 3))
 m_NoSpan:mg "NoSpan" = some (.ref (ca 4))
 x_NoSpan:W.excIn K (ca 4) veB "ValueError.__new__" = true
 e_NoDeed_BookError:W.exmOne K (.ref (ca 2)) (.ref (ca 0))=some true
 e_NoDeed_NoDeed:W.exmOne K (.ref (ca 2)) (.ref (ca 2))=some true
 e_NoPot_BookError:W.exmOne K (.ref (ca 3)) (.ref (ca 0))=some true
 e_NoPot_NoDeed:W.exmOne K (.ref (ca 3)) (.ref (ca 2))=some false
 e_NoSpan_BookError:W.exmOne K (.ref (ca 4)) (.ref (ca 0))=some true
 e_NoSpan_NoDeed:W.exmOne K (.ref (ca 4)) (.ref (ca 2))=some false
 xk_NoSpan:L4.ExK K (ca 4)
 xk_NoPot:L4.ExK K (ca 3)
 xk_NoDeed:L4.ExK K (ca 2)
 i_NoDeed_NoPot:W.kitOne K (.ref (ca 2)) (.ref (ca 3))=some false
 i_NoDeed_NoSpan:W.kitOne K (.ref (ca 2)) (.ref (ca 4))=some false
 i_NoPot_NoPot:W.kitOne K (.ref (ca 3)) (.ref (ca 3))=some true
 i_NoPot_NoSpan:W.kitOne K (.ref (ca 3)) (.ref (ca 4))=some false
 i_NoSpan_NoPot:W.kitOne K (.ref (ca 4)) (.ref (ca 3))=some false
 i_NoSpan_NoSpan:W.kitOne K (.ref (ca 4)) (.ref (ca 4))=some true
 cl_Hall:L2.Cls K (ca 11)
 na_Hall_pots:L2.yac K (ca 11) "pots"
 cl_Book:L2.Cls K (ca 7)
 na_Book_pots:L2.yac K (ca 7) "pots"
 na_Book_day:L2.yac K (ca 7) "day"
 cl_Held:L2.Cls K (ca 6)
 na_Held_whole:L2.yac K (ca 6) "whole"
 cl_Claim:L2.Cls K (ca 5)
 na_Claim_whole:L2.yac K (ca 5) "whole"
 m_Held:mg "Held" = some (.ref (ca 6))
 mk_Held:L2.Mk K (ca 6) (ca 12)
 cl_Keeper:L2.Cls K (ca 10)
 na_Keeper_claims:L2.yac K (ca 10) "claims"
 na_Book_claims:L2.yac K (ca 7) "claims"
 na_Book_shown:L2.yac K (ca 7) "shown"
 m_Book:mg "Book" = some (.ref (ca 7))
 mk_Book:L2.Mk K (ca 7) (ca 16)
 na_Hall_public:L2.yac K (ca 11) "public"
 me_Book_made_of:L2.Meth K (ca 7) "made_of" (ca 30)
 na_Hall_every:L2.yac K (ca 11) "every"
 na_Keeper_every:L2.yac K (ca 10) "every"
 na_Hall_keepers:L2.yac K (ca 11) "keepers"
 na_Hall_under_way:L2.yac K (ca 11) "under_way"
 na_Hall_things:L2.yac K (ca 11) "things"
 na_Keeper_hand:L2.yac K (ca 10) "hand"
 na_Keeper_last_look:L2.yac K (ca 10) "last_look"
 na_Keeper_gave:L2.yac K (ca 10) "gave"
 na_Keeper_known:L2.yac K (ca 10) "known"
 na_Keeper_accounts:L2.yac K (ca 10) "accounts"
 na_Keeper_seen:L2.yac K (ca 10) "seen"
 na_Keeper_asked:L2.yac K (ca 10) "asked"
 na_Keeper_finishing:L2.yac K (ca 10) "finishing"
 me_Keeper_learn:L2.Meth K (ca 10) "learn" (ca 38)
 cl_Calm:L2.Cls K (ca 9)
 na_Calm_pot:L2.yac K (ca 9) "pot"
 cl_Account:L2.Cls K (ca 8)
 na_Account_pot:L2.yac K (ca 8) "pot"
 me_Keeper_hold:L2.Meth K (ca 10) "hold" (ca 37)
 na_Calm_side:L2.yac K (ca 9) "side"
 na_Account_side:L2.yac K (ca 8) "side"
 na_Calm_mine:L2.yac K (ca 9) "mine"
 na_Account_mine:L2.yac K (ca 8) "mine"
 na_Calm_grant:L2.yac K (ca 9) "grant"
 na_Account_grant:L2.yac K (ca 8) "grant"
 na_Calm_may:L2.yac K (ca 9) "may"
 na_Account_may:L2.yac K (ca 8) "may"
 na_Calm_strikes:L2.yac K (ca 9) "strikes"
 na_Account_strikes:L2.yac K (ca 8) "strikes"
 m_Calm:mg "Calm" = some (.ref (ca 9))
 mk_Calm:L2.Mk K (ca 9) (ca 31)
 m_Keeper:mg "Keeper" = some (.ref (ca 10))
 mk_Keeper:L2.Mk K (ca 10) (ca 36)
 m_Hall:mg "Hall" = some (.ref (ca 11))
 mk_Hall:L2.Mk K (ca 11) (ca 60)
 me_Hall_book:L2.Meth K (ca 11) "book" (ca 61)
 me_Hall_road:L2.Meth K (ca 11) "road" (ca 63)
 me_Hall_keeper:L2.Meth K (ca 11) "keeper" (ca 62)
 me_Keeper_words:L2.Meth K (ca 10) "words" (ca 39)
 me_Keeper_looked:L2.Meth K (ca 10) "looked" (ca 40)
section
variable{P:Program}{w:World}{K:W.Frag}{mg:Str->Option Value}{base:Heap}{ca:Nat->Addr}
theorem scD{N P:List Str}{sc:Scope}(a:sc.kind=.function)(b:sc.isCoroutine=false)(c:sc.isGenerator=false)(h:N.Nodup/\N.take P.length=P/\(∀ x∈P,sc.names.lookup x=some .local\/sc.names.lookup x=some .cell)/\∀ y∈sc.names,y.2≠.free):FnScope N P sc:=⟨a,b,c,h.1,h.2.1,h.2.2.1,h.2.2.2⟩
abbrev BD(x q:Str)(s:Stmt)(ps:List Str):Prop:=∀ (kV doc pm:Value) (an:Option Addr) (cdv ct:Value) (us:List Value),us.length=ps.length->bindArgs (W.fnOf x q (zsq s) (zsr s) (zlv s) .none kV doc pm an cdv ct) ⟨us,[]⟩=pure (ps.zip us)
abbrev zcg:Stmt:=top 56
noncomputable def zb6:Ev->M Fl:=
 (ysc (sIf (eT (ypu oLt (yp2 1) (yiy yq9 (yie (yp2 0) yo2)))) (ysb (ypu oIx (yp2 0) (yp2 1))) yr9) (ysb (eC (.int 0))))
noncomputable def f__law_cell_at:List D->M D:=hide fun ds=>frz (run 2 zb6 ds)
theorem zbx:FnScope ["_law_script", "_law_k"] ["_law_script", "_law_k"] (zlv zcg):=scD rfl rfl rfl (by decide +kernel)
theorem zbe:BD "_law_cell_at" "_law_cell_at" zcg ["_law_script", "_law_k"]:=
 fun _ _ _ _ _ _ us hl=>match us,hl with|[_,_],_=>rfl
theorem zbo(Xt:Txt K mg ca):OkF ⟨K,ca,tx K⟩ P w mg base 1 "_law_cell_at" ["_law_script", "_law_k"] f__law_cell_at:=
 OkF.hide (OkF.frz (ylv Xt.f__law_cell_at zbx fun _ _ _ _ _ _ _ hr=>
  (znf (yjq (ycy yly ygx (ycf 1) (zmf zdc (zy7 rfl) rfl Xt.n_len PySem.boot_len (zs9 (ycf 0) ybw)) (yes _)) (zue (ycv (yjd yqn (ygv rfl) (ycf 0) (ycf 1) (fun _ _=>rfl)))) zud)
  (zue (ycv yb3)))))
abbrev zg0:Stmt:=top 57
noncomputable abbrev poT:Ev->M Fl:=(ysc (sIf (eT (ypu oGt (yp2 2) (eC (.int 9)))) (ysb (yiy yez (yie (yp2 5) yo2))) yr9) (ysc (sIf (eT (ypu oEq (yp2 2) (eC (.int 9)))) (ysb (yiy yez (yie (eSl (yp2 5) none (some (eC (.int 4)))) yo2))) yr9) (ysc (ysd 7 (ypu oIx (eLv (yie (eC (.int 0)) (yie (eC (.int 1)) (yie (eC (.int 1)) (yie (eC (.int 2)) (yie (eC (.int 3)) (yie (eC (.int 2)) (yie (eC (.int 4)) (yie (eC (.int 4)) (yie (eC (.int 3)) yo2)))))))))) (yp2 2))) (ysc (ymr (ypu oIx (eLv (yie (ypu yq2 (eC (.int 3)) (yp2 6)) (yie (eUn yrc (yp2 6)) (yie (yp2 3) (yie (ypu yq2 (ypu yrd (eC (.int 10)) (eC (.int 12))) (yp2 6)) (yie (eUn yrc (yp2 6)) (yie (eC (.bl true)) (yie (eC (.int 0)) (yie (ypu yq2 (eC (.int 100)) (yp2 6)) (yie (eC .non) yo2)))))))))) (yp2 2)) (yp2 5) (yp2 7)) (ysb (yiy yez (yie (yp2 5) yo2)))))))
noncomputable def zfz:Ev->M Fl:=
 (ysc (ysd 3 (ypu yra (yp2 0) (eC (.int 4)))) (ysc (ysd 4 (ypu yra (ypu yq2 (ypu yq2 (yp2 3) (eC (.int 1))) (ypu yra (ypu yq4 (yp2 0) (eC (.int 4))) (eC (.int 3)))) (eC (.int 4)))) (ysc (ysd 5 (ypx (yie (yp2 3) (yie (yp2 4) (yie (ypu yra (yp2 1) (ypu yq2 (ypu yrd (eC (.int 10)) (eC (.int 12))) (eC (.int 1)))) (yie (ypu yra (ypu yq4 (yp2 1) (eC (.int 7))) (ypu yq2 (ypu yrd (eC (.int 10)) (eC (.int 12))) (eC (.int 1)))) (yie (ypu yq2 (eC (.int 1)) (ypu yra (ypu yq4 (yp2 0) (eC (.int 12))) (eC (.int 100)))) yo2))))))) (ysc (ysd 6 (ypu yq2 (eC (.int 1)) (ypu yra (yp2 1) (ypu yrd (eC (.int 10)) (eC (.int 20)))))) poT))))
noncomputable def f__law_pot:List D->M D:=hide fun ds=>frz (run 8 zfz ds)
theorem ze9:FnScope ["_law_cell", "_law_beside", "_law_fault", "_law_left", "_law_right", "_law_pot_here", "_law_far", "_law_at"] ["_law_cell", "_law_beside", "_law_fault"] (zlv zg0):=scD rfl rfl rfl (by decide +kernel)
theorem zd4:BD "_law_pot" "_law_pot" zg0 ["_law_cell", "_law_beside", "_law_fault"]:=
 fun _ _ _ _ _ _ us hl=>match us,hl with|[_,_,_],_=>rfl
theorem zev(Xt:Txt K mg ca):OkF ⟨K,ca,tx K⟩ P w mg base 1 "_law_pot" ["_law_cell", "_law_beside", "_law_fault"] f__law_pot:=
 OkF.hide (OkF.frz (ylv Xt.f__law_pot ze9 fun _ _ _ _ _ _ _ hr=>
  (znf (ycw (i:=3) ze9.nd rfl (Or.inl rfl) (yjf yfc zy8 (ycf 0) yb3))
  (znf (ycw (i:=4) ze9.nd rfl (Or.inl rfl) (yjf yfc zy8 (yjf (zwt rfl) ysl (yjf (zwt rfl) ysl (ycf 3) yb3) (yjf yfc zy8 (yjf zwv zy5 (ycf 0) yb3) yb3)) yb3))
  (znf (ycw (i:=5) ze9.nd rfl (Or.inl rfl) (yb7 (zs9 (ycf 3) (zs9 (ycf 4) (zs9 (yjf yfc zy8 (ycf 1) (yjf (zwt rfl) ysl (yjf yff zzb yb3 yb3) yb3)) (zs9 (yjf yfc zy8 (yjf zwv zy5 (ycf 1) yb3) (yjf (zwt rfl) ysl (yjf yff zzb yb3 yb3) yb3)) (zs9 (yjf (zwt rfl) ysl yb3 (yjf yfc zy8 (yjf zwv zy5 (ycf 0) yb3) yb3)) ybw)))))))
  (znf (ycw (i:=6) ze9.nd rfl (Or.inl rfl) (yjf (zwt rfl) ysl yb3 (yjf yfc zy8 (ycf 1) (yjf yff zzb yb3 yb3))))
  (znf (yjq (ycy ylw ygt (ycf 2) yb3 (yes _)) (zue (ycv (zih zcp (zkp rfl) rfl Xt.n_tuple boot_tuple (zs9 (ycf 5) ybw)))) zud)
  (znf (yjq (ycy (yfa (hu9 hr)) ysl (ycf 2) yb3 (yes _)) (zue (ycv (zih zcp (zkp rfl) rfl Xt.n_tuple boot_tuple (zs9 (zmr rfl (ycf 5) ztw (zt0 yb3)) ybw)))) zud)
  (znf (ycw (i:=7) ze9.nd rfl (Or.inl rfl) (yjd yqn (ygv rfl) (yje (zs9 yb3 (zs9 yb3 (zs9 yb3 (zs9 yb3 (zs9 yb3 (zs9 yb3 (zs9 yb3 (zs9 yb3 (zs9 yb3 ybw)))))))))) (ycf 2) (fun _ _=>rfl)))
  (znf (zua (yjd yqn (ygv rfl) (yje (zs9 (yjf (zwt rfl) ysl yb3 (ycf 6)) (zs9 (yjh yht zza (ycf 6)) (zs9 (ycf 3) (zs9 (yjf (zwt rfl) ysl (yjf yff zzb yb3 yb3) (ycf 6)) (zs9 (yjh yht zza (ycf 6)) (zs9 yjc (zs9 yb3 (zs9 (yjf (zwt rfl) ysl yb3 (ycf 6)) (zs9 yb9 ybw)))))))))) (ycf 2) (fun _ _=>rfl)) (ycf 5) (ycf 7))
  (zue (ycv (zih zcp (zkp rfl) rfl Xt.n_tuple boot_tuple (zs9 (ycf 5) ybw))))))))))))))
abbrev zg3:Stmt:=top 8
noncomputable def zf2:Ev->M Fl:=
 (ysb (yps (eUn (yq6 .int) (yp2 0)) (ypz (eUn (yq6 .bool) (yp2 0)))))
noncomputable def f_is_whole:List D->M D:=hide fun ds=>frz (run 1 zf2 ds)
theorem zfc:FnScope ["thing"] ["thing"] (zlv zg3):=scD rfl rfl rfl (by decide +kernel)
theorem zd7:BD "is_whole" "is_whole" zg3 ["thing"]:=
 fun _ _ _ _ _ _ us hl=>match us,hl with|[_],_=>rfl
theorem zey(Xt:Txt K mg ca):OkF ⟨K,ca,tx K⟩ P w mg base 1 "is_whole" ["thing"] f_is_whole:=
 OkF.hide (OkF.frz (ylv Xt.f_is_whole zfc fun _ _ _ _ _ _ _ hr=>
  (zue (ycv (yby (yb4 .int (ycf 0) rfl Xt.n_isinstance rfl Xt.n_int boot_int) (ycb (yca (yb4 .bool (ycf 0) rfl Xt.n_isinstance rfl Xt.n_bool boot_bool))))))))
abbrev zdw:Stmt:=top 9
noncomputable def zdk:Ev->M Fl:=
 (ysb (yps (eFn 1 f_is_whole [] (yie (yp2 0) yo2)) (ybf oLe oLe (yp2 1) (yp2 0) (yp2 2))))
noncomputable def f_is_between:List D->M D:=hide fun ds=>frz (run 3 zdk ds)
theorem zc4:FnScope ["thing", "least", "most"] ["thing", "least", "most"] (zlv zdw):=scD rfl rfl rfl (by decide +kernel)
theorem zco:BD "is_between" "is_between" zdw ["thing", "least", "most"]:=
 fun _ _ _ _ _ _ us hl=>match us,hl with|[_,_,_],_=>rfl
theorem zcx(Xt:Txt K mg ca):OkF ⟨K,ca,tx K⟩ P w mg base 2 "is_between" ["thing", "least", "most"] f_is_between:=
 OkF.hide (OkF.frz (ylv Xt.f_is_between zc4 fun _ _ _ _ _ _ _ hr=>
  (zue (ycv (yby (zmh (zey Xt) rfl (hr.mono (by decide)) rfl (zs9 (ycf 0) ybw)) (ycb (zmi ylx ygw ylx ygw (ycf 1) (ycf 0) (ycf 2))))))))
abbrev zkg:Stmt:=top 11
noncomputable def ziw:Ev->M Fl:=
 (ysb (eFn 3 f_is_between [] (yie (yp2 0) (yie (eC (.int 0)) (yie (eC (.int 3)) yo2)))))
noncomputable def f_is_hand:List D->M D:=hide fun ds=>frz (run 1 ziw ds)
theorem zg6:FnScope ["thing"] ["thing"] (zlv zkg):=scD rfl rfl rfl (by decide +kernel)
theorem zfj:BD "is_hand" "is_hand" zkg ["thing"]:=
 fun _ _ _ _ _ _ us hl=>match us,hl with|[_],_=>rfl
theorem zgn(Xt:Txt K mg ca):OkF ⟨K,ca,tx K⟩ P w mg base 3 "is_hand" ["thing"] f_is_hand:=
 OkF.hide (OkF.frz (ylv Xt.f_is_hand zg6 fun _ _ _ _ _ _ _ hr=>
  (zue (ycv (zmh (zcx Xt) rfl (hr.mono (by decide)) rfl (zs9 (ycf 0) (zs9 yb3 (zs9 (zml (u:=.int 3 (Xt.c_MOST_HAND).choose) rfl (Xt.c_MOST_HAND).choose_spec ⟨_,rfl⟩) ybw))))))))
abbrev zc1:Stmt:=top 37
noncomputable def zct:Ev->M Fl:=
 (ysb (yps (eUn (yq6 .tuple) (yp2 0)) (yps (ypu oEq (yiy yq9 (yie (yp2 0) yo2)) (eC (.int 5))) (yps (eFn 1 f_is_hand [] (yie (ypu oIx (yp2 0) (eC (.int 0))) yo2)) (yps (eFn 1 f_is_hand [] (yie (ypu oIx (yp2 0) (eC (.int 1))) yo2)) (yps (ypu oNe (ypu oIx (yp2 0) (eC (.int 0))) (ypu oIx (yp2 0) (eC (.int 1)))) (yps (eFn 3 f_is_between [] (yie (ypu oIx (yp2 0) (eC (.int 2))) (yie (eC (.int 0)) (yie (eC (.int 1000000000000)) yo2)))) (yps (eFn 3 f_is_between [] (yie (ypu oIx (yp2 0) (eC (.int 3))) (yie (eC (.int 0)) (yie (eC (.int 1000000000000)) yo2)))) (eFn 3 f_is_between [] (yie (ypu oIx (yp2 0) (eC (.int 4))) (yie (eC (.int 1)) (yie (eC (.int 100)) yo2))))))))))))
noncomputable def f_makes_a_pot:List D->M D:=hide fun ds=>frz (run 1 zct ds)
theorem zcl:FnScope ["thing"] ["thing"] (zlv zc1):=scD rfl rfl rfl (by decide +kernel)
theorem zb2:BD "makes_a_pot" "makes_a_pot" zc1 ["thing"]:=
 fun _ _ _ _ _ _ us hl=>match us,hl with|[_],_=>rfl
theorem zcb(Xt:Txt K mg ca):OkF ⟨K,ca,tx K⟩ P w mg base 4 "makes_a_pot" ["thing"] f_makes_a_pot:=
 OkF.hide (OkF.frz (ylv Xt.f_makes_a_pot zcl fun _ _ _ _ _ _ _ hr=>
  (zue (ycv (yby (yb4 .tuple (ycf 0) rfl Xt.n_isinstance rfl Xt.n_tuple boot_tuple) (yby (yb0 (yfa (hu9 hr)) ysl (zmf zdc (zy7 rfl) rfl Xt.n_len PySem.boot_len (zs9 (ycf 0) ybw)) yb3 (yes _)) (yby (zmh (zgn Xt) rfl (hr.mono (by decide)) rfl (zs9 (yjd yqn (ygv rfl) (ycf 0) yb3 (fun _ _=>rfl)) ybw)) (yby (zmh (zgn Xt) rfl (hr.mono (by decide)) rfl (zs9 (yjd yqn (ygv rfl) (ycf 0) yb3 (fun _ _=>rfl)) ybw)) (yby (yb0 (yfe (hu9 hr)) ysl (yjd yqn (ygv rfl) (ycf 0) yb3 (fun _ _=>rfl)) (yjd yqn (ygv rfl) (ycf 0) yb3 (fun _ _=>rfl)) (yes _)) (yby (zmh (zcx Xt) rfl (hr.mono (by decide)) rfl (zs9 (yjd yqn (ygv rfl) (ycf 0) yb3 (fun _ _=>rfl)) (zs9 yb3 (zs9 (zml (u:=.int 1000000000000 (Xt.c_MOST_COIN).choose) rfl (Xt.c_MOST_COIN).choose_spec ⟨_,rfl⟩) ybw)))) (yby (zmh (zcx Xt) rfl (hr.mono (by decide)) rfl (zs9 (yjd yqn (ygv rfl) (ycf 0) yb3 (fun _ _=>rfl)) (zs9 yb3 (zs9 (zml (u:=.int 1000000000000 (Xt.c_MOST_COIN).choose) rfl (Xt.c_MOST_COIN).choose_spec ⟨_,rfl⟩) ybw)))) (ycb (zmh (zcx Xt) rfl (hr.mono (by decide)) rfl (zs9 (yjd yqn (ygv rfl) (ycf 0) yb3 (fun _ _=>rfl)) (zs9 yb3 (zs9 (zml (u:=.int 100 (Xt.c_MOST_WAIT).choose) rfl (Xt.c_MOST_WAIT).choose_spec ⟨_,rfl⟩) ybw))))))))))))))))
abbrev za4:Stmt:=yk9 (top 20) 0
theorem zar:FnScope ["self", "pot"] ["self", "pot"] (zlv za4):=scD rfl rfl rfl (by decide +kernel)
theorem zaj:BD "__init__" "NoPot.__init__" za4 ["self", "pot"]:=
 fun _ _ _ _ _ _ us hl=>match us,hl with|[_,_],_=>rfl
theorem zan(Xt:Txt K mg ca):OkI K P w mg base 1 (ca 3) (ca 83) ["self", "pot"]:=
 ye3 Xt.zi12 zar Xt.fc_NoPot fun _ _ _ _ _ _ _=>
  zpu (zxj (zpd (C:=ca 3) (BE:=ca 0) (fI:=ca 83) (bmB:=veB) (mc:=.type "type") PySem.F.excBase_ValueError Xt.ii_NoPot rfl Xt.m_BookError Xt.bs_NoPot Xt.br_NoPot Xt.bf_NoPot (by rfl) rfl (Or.inl rfl) rfl (Or.inl rfl) zuw))
   (zxl (yf3 (C:=ca 3) (fI:=ca 83) (newId:="ValueError.__new__") PySem.F.store_ValueError Xt.ii_NoPot Xt.sa_NoPot Xt.np_NoPot Xt.mo_NoPot rfl (Or.inl rfl) rfl (Or.inl rfl)))
abbrev zch:Stmt:=top 38
noncomputable abbrev ckB:Ev->M Fl:=(sIf (bOr (eT (ypu oGt (yp2 1) (eC (.int 2)))) (yo9 (eT (eFn 1 f_makes_a_pot [] (yie (yp2 2) yo2))))) (zx9 3 (yp2 1)) yr9)
noncomputable def zb7:Ev->M Fl:=
 (ysc (ymp (ysm (yp2 0)) (tgT 2 (yg6 (tgN 1) (yg6 (tgN 2) ynm))) ckB) (ysb (ypv (yiy ylr (yie (yp2 0) yo2)))))
noncomputable def f_checked_pots:List D->M D:=hide fun ds=>frz (run 3 zb7 ds)
theorem zby:FnScope ["pots", "number", "made"] ["pots"] (zlv zch):=scD rfl rfl rfl (by decide +kernel)
theorem zbf:BD "checked_pots" "checked_pots" zch ["pots"]:=
 fun _ _ _ _ _ _ us hl=>match us,hl with|[_],_=>rfl
theorem zbp(Xt:Txt K mg ca):OkF ⟨K,ca,tx K⟩ P w mg base 5 "checked_pots" ["pots"] f_checked_pots:=
 OkF.hide (OkF.frz (ylv Xt.f_checked_pots zby fun _ _ _ _ _ _ _ hr=>
  (znf (zt7 zjy rfl (ztm rfl Xt.n_enumerate (ycf 0)) (ycg rfl (zms (ztk (i:=1) zby.nd rfl (Or.inl rfl)) (zms (ztk (i:=2) zby.nd rfl (Or.inl rfl)) ztl))) (zue (yjq (L2.PW.pt (yjr (ycy ylw ygt (ycf 1) (zml (u:=.int 2 (Xt.c_MOST_POT).choose) rfl (Xt.c_MOST_POT).choose_spec ⟨_,rfl⟩) (yes _)) (yc3 (ycz (yc0 (zmh (zcb Xt) rfl (hr.mono (by decide)) rfl (zs9 (ycf 2) ybw))))))) (zue (ziu (k:=1) 3 PySem.F.excBase_ValueError rfl Xt.ii_NoPot Xt.kp_NoPot Xt.m_NoPot (zan Xt) rfl (Xt.hca 3 (by decide)) (by decide) (hr.mono (by decide)) rfl rfl (ycf 1))) zud)))
  (zue (ycv (yb2 (zih zdd (zqy rfl) rfl Xt.n_list boot_list (zs9 (ycf 0) ybw))))))))
theorem ztx(Xt:Txt K mg ca):yh2 ⟨K,ca,tx K⟩ [7,11] "pots":=(zmz (T:=⟨K,ca,tx K⟩) (c:=7) Xt.cl_Book Xt.na_Book_pots (zmz (T:=⟨K,ca,tx K⟩) (c:=11) Xt.cl_Hall Xt.na_Hall_pots ztr))
theorem ycn(Xt:Txt K mg ca):yh2 ⟨K,ca,tx K⟩ [7] "day":=(zmz (T:=⟨K,ca,tx K⟩) (c:=7) Xt.cl_Book Xt.na_Book_day ztr)
theorem zm6(Xt:Txt K mg ca):yh2 ⟨K,ca,tx K⟩ [5,6] "whole":=(zmz (T:=⟨K,ca,tx K⟩) (c:=5) Xt.cl_Claim Xt.na_Claim_whole (zmz (T:=⟨K,ca,tx K⟩) (c:=6) Xt.cl_Held Xt.na_Held_whole ztr))
abbrev za3:Stmt:=yk9 (top 32) 0
noncomputable def zax:Ev->M Fl:=
 (ysa [5,6] "whole" (yp2 1) (yp2 0))
noncomputable def zi13:List D->M D:=hide (run 2 zax)
theorem zaq:FnScope ["self", "whole"] ["self", "whole"] (zlv za3):=scD rfl rfl rfl (by decide +kernel)
theorem zai:BD "__init__" "Claim.__init__" za3 ["self", "whole"]:=
 fun _ _ _ _ _ _ us hl=>match us,hl with|[_,_],_=>rfl
theorem zam(Xt:Txt K mg ca):OkA ⟨K,ca,tx K⟩ P w mg base 1 (ca 12) ["self", "whole"] zi13:=
 OkA.hide (ye0 Xt.zi13 zaq fun _ _ _ _ _ _ hr=>
  (zue (yct rfl (zm6 Xt) (ycf 0) (ycf 1))))
abbrev zg4:Stmt:=top 39
noncomputable def zf3:Ev->M Fl:=
 (ysb (ypu yq2 (ypu oIx (yp2 0) (eC (.int 2))) (ypu oIx (yp2 0) (eC (.int 3)))))
noncomputable def f_whole_of:List D->M D:=hide fun ds=>frz (run 1 zf3 ds)
theorem zfe:FnScope ["made"] ["made"] (zlv zg4):=scD rfl rfl rfl (by decide +kernel)
theorem zd8:BD "whole_of" "whole_of" zg4 ["made"]:=
 fun _ _ _ _ _ _ us hl=>match us,hl with|[_],_=>rfl
theorem zez(Xt:Txt K mg ca):OkF ⟨K,ca,tx K⟩ P w mg base 1 "whole_of" ["made"] f_whole_of:=
 OkF.hide (OkF.frz (ylv Xt.f_whole_of zfe fun _ _ _ _ _ _ _ hr=>
  (zue (ycv (yjf (zwt rfl) ysl (yjd yqn (ygv rfl) (ycf 0) yb3 (fun _ _=>rfl)) (yjd yqn (ygv rfl) (ycf 0) yb3 (fun _ _=>rfl)))))))
theorem zio(Xt:Txt K mg ca):yh2 ⟨K,ca,tx K⟩ [7,10] "claims":=(zmz (T:=⟨K,ca,tx K⟩) (c:=7) Xt.cl_Book Xt.na_Book_claims (zmz (T:=⟨K,ca,tx K⟩) (c:=10) Xt.cl_Keeper Xt.na_Keeper_claims ztr))
theorem zm5(Xt:Txt K mg ca):yh2 ⟨K,ca,tx K⟩ [7] "shown":=(zmz (T:=⟨K,ca,tx K⟩) (c:=7) Xt.cl_Book Xt.na_Book_shown ztr)
abbrev zbq:Stmt:=yk9 (top 40) 0
noncomputable def zbg:Ev->M Fl:=
 (ysc (ysa [7,11] "pots" (eFn 1 f_checked_pots [] (yie (yp2 1) yo2)) (yp2 0)) (ysc (ysa [7] "day" (eC (.int 0)) (yp2 0)) (ysc (ysa [7,10] "claims" (ypv (ypw (toN (yso (eUn (yq5 [7,11] "pots") (yp2 0)))) [] (tgN 0) yii (ypv (yi1 6 2 zi13 (yie (eFn 1 f_whole_of [] (yie (yp2 0) yo2)) yo2))))) (yp2 0)) (ysa [7] "shown" (ypv (ypw (toN (yso (eUn (yq5 [7,11] "pots") (yp2 0)))) [] (tgN 0) yii (eC (.dic [] [])))) (yp2 0)))))
noncomputable def zi15:List D->M D:=hide (run 2 zbg)
theorem za6:FnScope ["self", "pots"] ["self", "pots"] (zlv zbq):=scD rfl rfl rfl (by decide +kernel)
theorem zat:BD "__init__" "Book.__init__" zbq ["self", "pots"]:=
 fun _ _ _ _ _ _ us hl=>match us,hl with|[_,_],_=>rfl
theorem zaz(Xt:Txt K mg ca):OkA ⟨K,ca,tx K⟩ P w mg base 6 (ca 16) ["self", "pots"] zi15:=
 OkA.hide (ye0 Xt.zi15 za6 fun _ _ _ _ _ _ hr=>
  (znf (yct rfl (ztx Xt) (ycf 0) (zmh (zbp Xt) rfl (hr.mono (by decide)) rfl (zs9 (ycf 1) ybw)))
  (znf (yct rfl (ycn Xt) (ycf 0) yb3)
  (znf (yct rfl (zio Xt) (ycf 0) (yb2 (yb6 (x:="made") (z0:="0") (M':=[]) (ix:=[]) rfl ⟨rfl,rfl,rfl,rfl,rfl,rfl⟩ (yp6 (ych rfl (yb1 rfl (ztx Xt) (ycf 0)))) (fun _ _ _ _ _=>ztk (i:=0) (by show List.Nodup (("made"::"0"::[]):List Str);decide +kernel) rfl (Or.inl rfl)) (fun _ _ _ _ _=>zto) (fun _ _ _ _ _=>(yb2 (ztf (c:=6) (ps:=["self", "whole"]) ⟨_,Xt.m_Held,Xt.mk_Held,zam Xt⟩ rfl (hr.mono (by decide)) rfl (zs9 (zmh (zez Xt) rfl (hr.mono (by decide)) rfl (zs9 (ycf 0) ybw)) ybw)))))))
  (zue (yct rfl (zm5 Xt) (ycf 0) (yb2 (yb6 (x:="made") (z0:="0") (M':=[]) (ix:=[]) rfl ⟨rfl,rfl,rfl,rfl,rfl,rfl⟩ (yp6 (ych rfl (yb1 rfl (ztx Xt) (ycf 0)))) (fun _ _ _ _ _=>ztk (i:=0) (by show List.Nodup (("made"::"0"::[]):List Str);decide +kernel) rfl (Or.inl rfl)) (fun _ _ _ _ _=>zto) (fun _ _ _ _ _=>zte)))))))))
theorem ziq(Xt:Txt K mg ca):yh2 ⟨K,ca,tx K⟩ [11] "public":=(zmz (T:=⟨K,ca,tx K⟩) (c:=11) Xt.cl_Hall Xt.na_Hall_public ztr)
abbrev zcd:Stmt:=yk9 (top 40) 14
noncomputable def zb3:Ev->M Fl:=
 (ysb (ypv (yiy ylr (yie (eUn (yq5 [7,11] "pots") (yp2 0)) yo2))))
noncomputable def f_Book_made_of:List D->M D:=hide fun ds=>frz (run 1 zb3 ds)
theorem zbu:FnScope ["self"] ["self"] (zlv zcd):=scD rfl rfl rfl (by decide +kernel)
theorem zbb:BD "made_of" "Book.made_of" zcd ["self"]:=
 fun _ _ _ _ _ _ us hl=>match us,hl with|[_],_=>rfl
theorem zbl(Xt:Txt K mg ca):OkA ⟨K,ca,tx K⟩ P w mg base 1 (ca 30) ["self"] f_Book_made_of:=
 OkA.hide (OkA.frz (ye0 Xt.f_Book_made_of zbu fun _ _ _ _ _ _ hr=>
  (zue (ycv (yb2 (zih zdd (zqy rfl) rfl Xt.n_list boot_list (zs9 (yb1 rfl (ztx Xt) (ycf 0)) ybw)))))))
theorem zes(Xt:Txt K mg ca):yoh ⟨K,ca,tx K⟩ P w mg base 1 "made_of" ["self"] [(7,f_Book_made_of)]:=(zvv (T:=⟨K,ca,tx K⟩) (c:=7) Xt.cl_Book Xt.me_Book_made_of (zbl Xt) (by decide) yek)
theorem zm2(Xt:Txt K mg ca):yh2 ⟨K,ca,tx K⟩ [10,11] "every":=(zmz (T:=⟨K,ca,tx K⟩) (c:=10) Xt.cl_Keeper Xt.na_Keeper_every (zmz (T:=⟨K,ca,tx K⟩) (c:=11) Xt.cl_Hall Xt.na_Hall_every ztr))
theorem zfx(Xt:Txt K mg ca):yh2 ⟨K,ca,tx K⟩ [11] "keepers":=(zmz (T:=⟨K,ca,tx K⟩) (c:=11) Xt.cl_Hall Xt.na_Hall_keepers ztr)
theorem zdh(Xt:Txt K mg ca):yh2 ⟨K,ca,tx K⟩ [11] "under_way":=(zmz (T:=⟨K,ca,tx K⟩) (c:=11) Xt.cl_Hall Xt.na_Hall_under_way ztr)
theorem zir(Xt:Txt K mg ca):yh2 ⟨K,ca,tx K⟩ [11] "things":=(zmz (T:=⟨K,ca,tx K⟩) (c:=11) Xt.cl_Hall Xt.na_Hall_things ztr)
abbrev zdv:Stmt:=top 50
noncomputable abbrev spC:Ev->M Fl:=(sIf (yo8 (eT (ypu (oIn false) (yp2 0) (eSl (yp2 3) none (some (eC (.int 2)))))) (eT (ypu oLt (ypu oIx (yp2 3) (eC (.int 4))) (ypu yq2 (yp2 1) (eC (.int 1)))))) (ygl 4 (yie (eC (.str "a pot waits too short for this hand")) yo2)) yr9)
noncomputable def zdj:Ev->M Fl:=
 (ysc (sIf (yo9 (eT (eFn 3 f_is_between [] (yie (yp2 1) (yie (eC (.int 1)) (yie (eC (.int 50)) yo2)))))) (ygl 4 (yie (eC (.str "no hand looks each so many days")) yo2)) yr9) (yr8 (yso (yp2 2)) (tgN 3) spC))
noncomputable def f_check_span:List D->M D:=hide fun ds=>frz (run 4 zdj ds)
theorem zc3:FnScope ["hand", "every", "pots", "made"] ["hand", "every", "pots"] (zlv zdv):=scD rfl rfl rfl (by decide +kernel)
theorem zcn:BD "check_span" "check_span" zdv ["hand", "every", "pots"]:=
 fun _ _ _ _ _ _ us hl=>match us,hl with|[_,_,_],_=>rfl
theorem zcw(Xt:Txt K mg ca):OkF ⟨K,ca,tx K⟩ P w mg base 3 "check_span" ["hand", "every", "pots"] f_check_span:=
 OkF.hide (OkF.frz (ylv Xt.f_check_span zc3 fun _ _ _ _ _ _ _ hr=>
  (znf (yjq (ycz (yc0 (zmh (zcx Xt) rfl (hr.mono (by decide)) rfl (zs9 (ycf 1) (zs9 yb3 (zs9 (zml (u:=.int 50 (Xt.c_MOST_EVERY).choose) rfl (Xt.c_MOST_EVERY).choose_spec ⟨_,rfl⟩) ybw)))))) (zue (zne 4 PySem.F.excBase_ValueError rfl Xt.x_NoSpan Xt.m_NoSpan rfl rfl (zs9 ycd ybw))) zud)
  (zue (ycu zjy rfl (ych rfl (ycf 2)) (ztk (i:=3) zc3.nd rfl (Or.inl rfl)) (zue (yjq (L2.PW.pt (yc2 (ycy zjx (ygu rfl false) (ycf 0) (zmr rfl (ycf 3) ztw (zt0 yb3)) rfl) (zuf (ycy yly ygx (yjd yqn (ygv rfl) (ycf 3) yb3 (fun _ _=>rfl)) (yjf (zwt rfl) ysl (ycf 1) yb3) (yes _))))) (zue (zne 4 PySem.F.excBase_ValueError rfl Xt.x_NoSpan Xt.m_NoSpan rfl rfl (zs9 ycd ybw))) zud)))))))
theorem ztu(Xt:Txt K mg ca):yh2 ⟨K,ca,tx K⟩ [10] "hand":=(zmz (T:=⟨K,ca,tx K⟩) (c:=10) Xt.cl_Keeper Xt.na_Keeper_hand ztr)
theorem zdg(Xt:Txt K mg ca):yh2 ⟨K,ca,tx K⟩ [10] "last_look":=(zmz (T:=⟨K,ca,tx K⟩) (c:=10) Xt.cl_Keeper Xt.na_Keeper_last_look ztr)
theorem ztt(Xt:Txt K mg ca):yh2 ⟨K,ca,tx K⟩ [10] "gave":=(zmz (T:=⟨K,ca,tx K⟩) (c:=10) Xt.cl_Keeper Xt.na_Keeper_gave ztr)
theorem zm4(Xt:Txt K mg ca):yh2 ⟨K,ca,tx K⟩ [10] "known":=(zmz (T:=⟨K,ca,tx K⟩) (c:=10) Xt.cl_Keeper Xt.na_Keeper_known ztr)
theorem zeg(Xt:Txt K mg ca):yh2 ⟨K,ca,tx K⟩ [10] "accounts":=(zmz (T:=⟨K,ca,tx K⟩) (c:=10) Xt.cl_Keeper Xt.na_Keeper_accounts ztr)
theorem zty(Xt:Txt K mg ca):yh2 ⟨K,ca,tx K⟩ [10] "seen":=(zmz (T:=⟨K,ca,tx K⟩) (c:=10) Xt.cl_Keeper Xt.na_Keeper_seen ztr)
theorem zm1(Xt:Txt K mg ca):yh2 ⟨K,ca,tx K⟩ [10] "asked":=(zmz (T:=⟨K,ca,tx K⟩) (c:=10) Xt.cl_Keeper Xt.na_Keeper_asked ztr)
theorem zdf(Xt:Txt K mg ca):yh2 ⟨K,ca,tx K⟩ [10] "finishing":=(zmz (T:=⟨K,ca,tx K⟩) (c:=10) Xt.cl_Keeper Xt.na_Keeper_finishing ztr)
abbrev zce:Stmt:=yk9 (top 51) 2
noncomputable abbrev lnB:Ev->M Fl:=(ymq (eC (.bl true)) (eUn (yq5 [10] "known") (yp2 0)) (yp2 2))
noncomputable def zb4:Ev->M Fl:=
 (yr8 (yso (yp2 1)) (tgN 2) lnB)
noncomputable def f_Keeper_learn:List D->M D:=hide (run 3 zb4)
theorem zbv:FnScope ["self", "words", "word"] ["self", "words"] (zlv zce):=scD rfl rfl rfl (by decide +kernel)
theorem zbc:BD "learn" "Keeper.learn" zce ["self", "words"]:=
 fun _ _ _ _ _ _ us hl=>match us,hl with|[_,_],_=>rfl
theorem zbm(Xt:Txt K mg ca):OkA ⟨K,ca,tx K⟩ P w mg base 1 (ca 38) ["self", "words"] f_Keeper_learn:=
 OkA.hide (ye0 Xt.f_Keeper_learn zbv fun _ _ _ _ _ _ hr=>
  (zue (ycu zjy rfl (ych rfl (ycf 1)) (ztk (i:=2) zbv.nd rfl (Or.inl rfl)) (zue (zt8 (hu9 hr) yjc (yb1 rfl (zm4 Xt) (ycf 0)) (ycf 2))))))
theorem zjq(Xt:Txt K mg ca):yoh ⟨K,ca,tx K⟩ P w mg base 1 "learn" ["self", "words"] [(10,f_Keeper_learn)]:=(zvv (T:=⟨K,ca,tx K⟩) (c:=10) Xt.cl_Keeper Xt.me_Keeper_learn (zbm Xt) (by decide) yek)
theorem ycp(Xt:Txt K mg ca):yh2 ⟨K,ca,tx K⟩ [8,9] "pot":=(zmz (T:=⟨K,ca,tx K⟩) (c:=8) Xt.cl_Account Xt.na_Account_pot (zmz (T:=⟨K,ca,tx K⟩) (c:=9) Xt.cl_Calm Xt.na_Calm_pot ztr))
abbrev zcz:Stmt:=yk9 (top 51) 1
noncomputable def zcr:Ev->M Fl:=
 (ysc (ymq (yp2 1) (eUn (yq5 [10] "accounts") (yp2 0)) (eUn (yq5 [8,9] "pot") (yp2 1))) (ysc (ymq (yp2 2) (eUn (yq5 [7,10] "claims") (yp2 0)) (eUn (yq5 [8,9] "pot") (yp2 1))) (ymq (yp2 3) (eUn (yq5 [10] "seen") (yp2 0)) (eUn (yq5 [8,9] "pot") (yp2 1)))))
noncomputable def f_Keeper_hold:List D->M D:=hide (run 4 zcr)
theorem zcj:FnScope ["self", "account", "claim", "seen"] ["self", "account", "claim", "seen"] (zlv zcz):=scD rfl rfl rfl (by decide +kernel)
theorem zb0:BD "hold" "Keeper.hold" zcz ["self", "account", "claim", "seen"]:=
 fun _ _ _ _ _ _ us hl=>match us,hl with|[_,_,_,_],_=>rfl
theorem zb9(Xt:Txt K mg ca):OkA ⟨K,ca,tx K⟩ P w mg base 1 (ca 37) ["self", "account", "claim", "seen"] f_Keeper_hold:=
 OkA.hide (ye0 Xt.f_Keeper_hold zcj fun _ _ _ _ _ _ hr=>
  (znf (zt8 (hu9 hr) (ycf 1) (yb1 rfl (zeg Xt) (ycf 0)) (yb1 rfl (ycp Xt) (ycf 1)))
  (znf (zt8 (hu9 hr) (ycf 2) (yb1 rfl (zio Xt) (ycf 0)) (yb1 rfl (ycp Xt) (ycf 1)))
  (zue (zt8 (hu9 hr) (ycf 3) (yb1 rfl (zty Xt) (ycf 0)) (yb1 rfl (ycp Xt) (ycf 1)))))))
theorem zoo(Xt:Txt K mg ca):yoh ⟨K,ca,tx K⟩ P w mg base 1 "hold" ["self", "account", "claim", "seen"] [(10,f_Keeper_hold)]:=(zvv (T:=⟨K,ca,tx K⟩) (c:=10) Xt.cl_Keeper Xt.me_Keeper_hold (zb9 Xt) (by decide) yek)
abbrev zg1:Stmt:=top 27
noncomputable def zf0:Ev->M Fl:=
 (ysc (sIf (bOr (yo9 (eT (eUn (yq6 .tuple) (yp2 0)))) (eT (ypu oGt (yiy yq9 (yie (yp2 0) yo2)) (eC (.int 6))))) (ysb (eC (.bl false))) yr9) (ysc (sIf (yo9 (eT (yiy yq3 (yie (ypv (ypw (toN (yso (yp2 0))) [] (tgN 0) yii ypt)) yo2)))) (ysb (eC (.bl false))) yr9) (ysb (ypu oEq (eUn zwj (ypv (ypw (toN (yso (yp2 0))) [] (tgN 0) yii ypt))) (yiy yq9 (yie (yp2 0) yo2))))))
noncomputable def f_are_ties:List D->M D:=hide fun ds=>frz (run 1 zf0 ds)
theorem zfa:FnScope ["thing"] ["thing"] (zlv zg1):=scD rfl rfl rfl (by decide +kernel)
theorem zd5:BD "are_ties" "are_ties" zg1 ["thing"]:=
 fun _ _ _ _ _ _ us hl=>match us,hl with|[_],_=>rfl
theorem zew(Xt:Txt K mg ca):OkF ⟨K,ca,tx K⟩ P w mg base 1 "are_ties" ["thing"] f_are_ties:=
 OkF.hide (OkF.frz (ylv Xt.f_are_ties zfa fun _ _ _ _ _ _ _ hr=>
  (znf (yjq (L2.PW.pt (yjr (ycz (yc0 (yb4 .tuple (ycf 0) rfl Xt.n_isinstance rfl Xt.n_tuple boot_tuple))) (yc3 (ycy ylw ygt (zmf zdc (zy7 rfl) rfl Xt.n_len PySem.boot_len (zs9 (ycf 0) ybw)) (zml (u:=.int 6 (Xt.c_MOST_TIES).choose) rfl (Xt.c_MOST_TIES).choose_spec ⟨_,rfl⟩) (yes _))))) (zue (ycv yjc)) zud)
  (znf (yjq (ycz (yc0 (zmf (zlh rfl) (zy4 rfl) rfl Xt.n_all boot_all (zs9 (yb2 (yb6 (x:="tie") (z0:="0") (M':=[]) (ix:=[]) rfl ⟨rfl,rfl,rfl,rfl,rfl,rfl⟩ (yp6 (ych rfl (ycf 0))) (fun _ _ _ _ _=>ztk (i:=0) (by show List.Nodup (("tie"::"0"::[]):List Str);decide +kernel) rfl (Or.inl rfl)) (fun _ _ _ _ _=>zto) (fun _ _ _ _ _=>ybz))) ybw)))) (zue (ycv yjc)) zud)
  (zue (ycv (yb0 (yfa (hu9 hr)) ysl (zii rfl rfl rfl Xt.n_len rfl Xt.n_set (yb2 (yb6 (x:="tie") (z0:="0") (M':=[]) (ix:=[]) rfl ⟨rfl,rfl,rfl,rfl,rfl,rfl⟩ (yp6 (ych rfl (ycf 0))) (fun _ _ _ _ _=>ztk (i:=0) (by show List.Nodup (("tie"::"0"::[]):List Str);decide +kernel) rfl (Or.inl rfl)) (fun _ _ _ _ _=>zto) (fun _ _ _ _ _=>ybz)))) (zmf zdc (zy7 rfl) rfl Xt.n_len PySem.boot_len (zs9 (ycf 0) ybw)) (yes _))))))))
abbrev zdu:Stmt:=top 26
noncomputable def zdi:Ev->M Fl:=
 (ysb (yps (eUn (yq6 .tuple) (yp2 0)) (yps (ypu oEq (yiy yq9 (yie (yp2 0) yo2)) (eC (.int 2))) (yps (eFn 3 f_is_between [] (yie (ypu oIx (yp2 0) (eC (.int 0))) (yie (eC (.int 0)) (yie (eC (.int 2000000000000)) yo2)))) (eFn 3 f_is_between [] (yie (ypu oIx (yp2 0) (eC (.int 1))) (yie (eC (.int 0)) (yie (eC (.int 2000000000000)) yo2))))))))
noncomputable def f_are_shares:List D->M D:=hide fun ds=>frz (run 1 zdi ds)
theorem zc2:FnScope ["thing"] ["thing"] (zlv zdu):=scD rfl rfl rfl (by decide +kernel)
theorem zcm:BD "are_shares" "are_shares" zdu ["thing"]:=
 fun _ _ _ _ _ _ us hl=>match us,hl with|[_],_=>rfl
theorem zcv(Xt:Txt K mg ca):OkF ⟨K,ca,tx K⟩ P w mg base 3 "are_shares" ["thing"] f_are_shares:=
 OkF.hide (OkF.frz (ylv Xt.f_are_shares zc2 fun _ _ _ _ _ _ _ hr=>
  (zue (ycv (yby (yb4 .tuple (ycf 0) rfl Xt.n_isinstance rfl Xt.n_tuple boot_tuple) (yby (yb0 (yfa (hu9 hr)) ysl (zmf zdc (zy7 rfl) rfl Xt.n_len PySem.boot_len (zs9 (ycf 0) ybw)) yb3 (yes _)) (yby (zmh (zcx Xt) rfl (hr.mono (by decide)) rfl (zs9 (yjd yqn (ygv rfl) (ycf 0) yb3 (fun _ _=>rfl)) (zs9 yb3 (zs9 (zml (u:=.int 2000000000000 (Xt.c_MOST_SHARE).choose) rfl (Xt.c_MOST_SHARE).choose_spec ⟨_,rfl⟩) ybw)))) (ycb (zmh (zcx Xt) rfl (hr.mono (by decide)) rfl (zs9 (yjd yqn (ygv rfl) (ycf 0) yb3 (fun _ _=>rfl)) (zs9 yb3 (zs9 (zml (u:=.int 2000000000000 (Xt.c_MOST_SHARE).choose) rfl (Xt.c_MOST_SHARE).choose_spec ⟨_,rfl⟩) ybw))))))))))))
abbrev ze8:Stmt:=top 14
noncomputable def zek:Ev->M Fl:=
 (ysb (eFn 3 f_is_between [] (yie (yp2 0) (yie (eC (.int 0)) (yie (eC (.int 1000000)) yo2)))))
noncomputable def f_is_number:List D->M D:=hide fun ds=>frz (run 1 zek ds)
theorem zd0:FnScope ["thing"] ["thing"] (zlv ze8):=scD rfl rfl rfl (by decide +kernel)
theorem zda:BD "is_number" "is_number" ze8 ["thing"]:=
 fun _ _ _ _ _ _ us hl=>match us,hl with|[_],_=>rfl
theorem zdq(Xt:Txt K mg ca):OkF ⟨K,ca,tx K⟩ P w mg base 3 "is_number" ["thing"] f_is_number:=
 OkF.hide (OkF.frz (ylv Xt.f_is_number zd0 fun _ _ _ _ _ _ _ hr=>
  (zue (ycv (zmh (zcx Xt) rfl (hr.mono (by decide)) rfl (zs9 (ycf 0) (zs9 yb3 (zs9 (zml (u:=.int 1000000 (Xt.c_MOST_NUMBER).choose) rfl (Xt.c_MOST_NUMBER).choose_spec ⟨_,rfl⟩) ybw))))))))
abbrev zg2:Stmt:=top 28
noncomputable def zf1:Ev->M Fl:=
 (ysb (yps (eUn (yq6 .tuple) (yp2 0)) (yps (ypu oEq (yiy yq9 (yie (yp2 0) yo2)) (eC (.int 3))) (yps (eFn 1 f_is_number [] (yie (ypu oIx (yp2 0) (eC (.int 0))) yo2)) (yps (eFn 1 f_are_shares [] (yie (ypu oIx (yp2 0) (eC (.int 1))) yo2)) (eFn 1 f_are_ties [] (yie (ypu oIx (yp2 0) (eC (.int 2))) yo2)))))))
noncomputable def f_is_stand:List D->M D:=hide fun ds=>frz (run 1 zf1 ds)
theorem zfb:FnScope ["thing"] ["thing"] (zlv zg2):=scD rfl rfl rfl (by decide +kernel)
theorem zd6:BD "is_stand" "is_stand" zg2 ["thing"]:=
 fun _ _ _ _ _ _ us hl=>match us,hl with|[_],_=>rfl
theorem zex(Xt:Txt K mg ca):OkF ⟨K,ca,tx K⟩ P w mg base 4 "is_stand" ["thing"] f_is_stand:=
 OkF.hide (OkF.frz (ylv Xt.f_is_stand zfb fun _ _ _ _ _ _ _ hr=>
  (zue (ycv (yby (yb4 .tuple (ycf 0) rfl Xt.n_isinstance rfl Xt.n_tuple boot_tuple) (yby (yb0 (yfa (hu9 hr)) ysl (zmf zdc (zy7 rfl) rfl Xt.n_len PySem.boot_len (zs9 (ycf 0) ybw)) yb3 (yes _)) (yby (zmh (zdq Xt) rfl (hr.mono (by decide)) rfl (zs9 (yjd yqn (ygv rfl) (ycf 0) yb3 (fun _ _=>rfl)) ybw)) (yby (zmh (zcv Xt) rfl (hr.mono (by decide)) rfl (zs9 (yjd yqn (ygv rfl) (ycf 0) yb3 (fun _ _=>rfl)) ybw)) (ycb (zmh (zew Xt) rfl (hr.mono (by decide)) rfl (zs9 (yjd yqn (ygv rfl) (ycf 0) yb3 (fun _ _=>rfl)) ybw)))))))))))
abbrev zyf:Stmt:=top 29
noncomputable def zui:Ev->M Fl:=
 (ysc (ysd 3 (yp1 (yie (yp2 0) (yie (yp2 1) (yie (eIf (eT (ypu yq7 (yp2 2) (eC .non))) (yp1 yo2) (yp2 2)) yo2))))) (ysc (sIf (yo9 (eT (eFn 1 f_is_stand [] (yie (yp2 3) yo2)))) (ygl 1 (yie (eC (.str "number, shares and ties make no stand")) yo2)) yr9) (ysb (yp2 3))))
noncomputable def f_stand:List D->M D:=hide fun ds=>frz (run 4 zui ds)
theorem zqh:FnScope ["number", "shares", "ties", "made"] ["number", "shares", "ties"] (zlv zyf):=scD rfl rfl rfl (by decide +kernel)
theorem zle(t:Addr)(kV doc pm:Value)(an:Option Addr)(cdv ct:Value)(s:Shared)(o:Obj)(n:Nat)(us:List Value)(h1:s.heap.get? t=some o)(h2:o.data=.seq ([Value.none]:List Value).toArray n) :
  ((us++[]).length=(["number", "shares", "ties"]:List Str).length->BindsTo s (W.fnOf "stand" "stand" (zsq zyf) (zsr zyf) (zlv zyf) (.ref t) kV doc pm an cdv ct) ⟨us,[]⟩ ((["number", "shares", "ties"]:List Str).zip (us++[])))/\
  ((us++[Value.none]).length=(["number", "shares", "ties"]:List Str).length->BindsTo s (W.fnOf "stand" "stand" (zsq zyf) (zsr zyf) (zlv zyf) (.ref t) kV doc pm an cdv ct) ⟨us,[]⟩ ((["number", "shares", "ties"]:List Str).zip (us++[Value.none]))):=
 ⟨fun hl=>match us,(show us.length=3 by simpa using hl)with|[_,_,_],_=>BindsTo.of_defaults rfl h1 h2 rfl rfl,fun hl=>match us,(show us.length=2 by simpa using hl)with|[_,_],_=>BindsTo.of_defaults rfl h1 h2 rfl rfl⟩
theorem zpc(Xt:Txt K mg ca):OkD ⟨K,ca,tx K⟩ P w mg base 5 "stand" ["number", "shares", "ties"] [Value.none] f_stand:=
 OkD.hide (OkD.frz (ye5 Xt.f_stand zqh fun _ _ _ _ _ _ _ hr=>
  (znf (ycw (i:=3) zqh.nd rfl (Or.inl rfl) (yce (zs9 (ycf 0) (zs9 (ycf 1) (zs9 (zmn (ycy yfb zy6 (ycf 2) yb9 (yes _)) (yce ybw) (ycf 2)) ybw)))))
  (znf (yjq (ycz (yc0 (zmh (zex Xt) rfl (hr.mono (by decide)) rfl (zs9 (ycf 3) ybw)))) (zue (zne 1 PySem.F.excBase_ValueError rfl Xt.x_NoStand Xt.m_NoStand rfl rfl (zs9 ycd ybw))) zud)
  (zue (ycv (ycf 3)))))))
abbrev zye:Stmt:=top 30
noncomputable def zuh:Ev->M Fl:=
 (ysb (eFn 3 f_stand [.non] (yie (eC (.int 0)) (yie (yp1 (yie (yp2 0) (yie (yp2 1) yo2))) yo2))))
noncomputable def f_first:List D->M D:=hide fun ds=>frz (run 2 zuh ds)
theorem zqg:FnScope ["left", "right"] ["left", "right"] (zlv zye):=scD rfl rfl rfl (by decide +kernel)
theorem zld:BD "first" "first" zye ["left", "right"]:=
 fun _ _ _ _ _ _ us hl=>match us,hl with|[_,_],_=>rfl
theorem zpb(Xt:Txt K mg ca):OkF ⟨K,ca,tx K⟩ P w mg base 6 "first" ["left", "right"] f_first:=
 OkF.hide (OkF.frz (ylv Xt.f_first zqg fun _ _ _ _ _ _ _ hr=>
  (zue (ycv (zig (zpc Xt) rfl (hr.mono (by decide)) rfl zrj zp9 (zs9 yb3 (zs9 (yce (zs9 (ycf 0) (zs9 (ycf 1) ybw))) ybw)))))))
theorem ztz(Xt:Txt K mg ca):yh2 ⟨K,ca,tx K⟩ [8,9] "side":=(zmz (T:=⟨K,ca,tx K⟩) (c:=8) Xt.cl_Account Xt.na_Account_side (zmz (T:=⟨K,ca,tx K⟩) (c:=9) Xt.cl_Calm Xt.na_Calm_side ztr))
theorem ztv(Xt:Txt K mg ca):yh2 ⟨K,ca,tx K⟩ [8,9] "mine":=(zmz (T:=⟨K,ca,tx K⟩) (c:=8) Xt.cl_Account Xt.na_Account_mine (zmz (T:=⟨K,ca,tx K⟩) (c:=9) Xt.cl_Calm Xt.na_Calm_mine ztr))
theorem zm3(Xt:Txt K mg ca):yh2 ⟨K,ca,tx K⟩ [8,9] "grant":=(zmz (T:=⟨K,ca,tx K⟩) (c:=8) Xt.cl_Account Xt.na_Account_grant (zmz (T:=⟨K,ca,tx K⟩) (c:=9) Xt.cl_Calm Xt.na_Calm_grant ztr))
theorem yco(Xt:Txt K mg ca):yh2 ⟨K,ca,tx K⟩ [8,9] "may":=(zmz (T:=⟨K,ca,tx K⟩) (c:=8) Xt.cl_Account Xt.na_Account_may (zmz (T:=⟨K,ca,tx K⟩) (c:=9) Xt.cl_Calm Xt.na_Calm_may ztr))
theorem zfy(Xt:Txt K mg ca):yh2 ⟨K,ca,tx K⟩ [8,9] "strikes":=(zmz (T:=⟨K,ca,tx K⟩) (c:=8) Xt.cl_Account Xt.na_Account_strikes (zmz (T:=⟨K,ca,tx K⟩) (c:=9) Xt.cl_Calm Xt.na_Calm_strikes ztr))
abbrev zag:Stmt:=yk9 (top 44) 0
noncomputable def zae:Ev->M Fl:=
 (ysc (ysa [8,9] "pot" (yp2 1) (yp2 0)) (ysc (ysa [8,9] "side" (yp2 2) (yp2 0)) (ysc (ysa [8,9] "mine" (yp2 3) (yp2 0)) (ysc (ysa [8,9] "grant" (yp2 4) (yp2 0)) (ysc (ysa [8,9] "may" (ypv (yiy ylr (yie (yp2 5) yo2))) (yp2 0)) (ysa [8,9] "strikes" (ypv (yiy ylr (yie (yp2 6) yo2))) (yp2 0)))))))
noncomputable def zi10:List D->M D:=hide (run 7 zae)
theorem zac:FnScope ["self", "pot", "side", "mine", "grant", "may", "strikes"] ["self", "pot", "side", "mine", "grant", "may", "strikes"] (zlv zag):=scD rfl rfl rfl (by decide +kernel)
theorem zaa:BD "__init__" "Account.__init__" zag ["self", "pot", "side", "mine", "grant", "may", "strikes"]:=
 fun _ _ _ _ _ _ us hl=>match us,hl with|[_,_,_,_,_,_,_],_=>rfl
theorem zab(Xt:Txt K mg ca):OkA ⟨K,ca,tx K⟩ P w mg base 1 (ca 31) ["self", "pot", "side", "mine", "grant", "may", "strikes"] zi10:=
 OkA.hide (ye0 Xt.zi10 zac fun _ _ _ _ _ _ hr=>
  (znf (yct rfl (ycp Xt) (ycf 0) (ycf 1))
  (znf (yct rfl (ztz Xt) (ycf 0) (ycf 2))
  (znf (yct rfl (ztv Xt) (ycf 0) (ycf 3))
  (znf (yct rfl (zm3 Xt) (ycf 0) (ycf 4))
  (znf (yct rfl (yco Xt) (ycf 0) (yb2 (zih zdd (zqy rfl) rfl Xt.n_list boot_list (zs9 (ycf 5) ybw))))
  (zue (yct rfl (zfy Xt) (ycf 0) (yb2 (zih zdd (zqy rfl) rfl Xt.n_list boot_list (zs9 (ycf 6) ybw)))))))))))
abbrev zbt:Stmt:=top 46
noncomputable def zbj:Ev->M Fl:=
 (ysc (ysd 4 (eFn 2 f_first [] (yie (yp2 2) (yie (yp2 3) yo2)))) (ysb (ypv (yi1 9 7 zi10 (yie (yp2 0) (yie (yp2 1) (yie (yp2 4) (yie (eC .non) (yie (eLv (yie (yp2 4) yo2)) (yie (eLv yo2) yo2))))))))))
noncomputable def f_first_account:List D->M D:=hide fun ds=>frz (run 5 zbj ds)
theorem za9:FnScope ["pot", "side", "left", "right", "mine"] ["pot", "side", "left", "right"] (zlv zbt):=scD rfl rfl rfl (by decide +kernel)
theorem zaw:BD "first_account" "first_account" zbt ["pot", "side", "left", "right"]:=
 fun _ _ _ _ _ _ us hl=>match us,hl with|[_,_,_,_],_=>rfl
theorem za2(Xt:Txt K mg ca):OkF ⟨K,ca,tx K⟩ P w mg base 7 "first_account" ["pot", "side", "left", "right"] f_first_account:=
 OkF.hide (OkF.frz (ylv Xt.f_first_account za9 fun _ _ _ _ _ _ _ hr=>
  (znf (ycw (i:=4) za9.nd rfl (Or.inl rfl) (zmh (zpb Xt) rfl (hr.mono (by decide)) rfl (zs9 (ycf 2) (zs9 (ycf 3) ybw))))
  (zue (ycv (yb2 (ztf (c:=9) (ps:=["self", "pot", "side", "mine", "grant", "may", "strikes"]) ⟨_,Xt.m_Calm,Xt.mk_Calm,zab Xt⟩ rfl (hr.mono (by decide)) rfl (zs9 (ycf 0) (zs9 (ycf 1) (zs9 (ycf 4) (zs9 yb9 (zs9 (yje (zs9 (ycf 4) ybw)) (zs9 (yje ybw) ybw)))))))))))))
abbrev zap:Stmt:=yk9 (top 51) 0
noncomputable abbrev sdB:Ev->M Fl:=(sIf (eT (ypu oEq (ypu oIx (yp2 6) (yp2 7)) (yp2 1))) (yr6 (ypy [(10,f_Keeper_hold)] 4 "hold" (yp2 0) (yie (eFn 4 f_first_account [] (yie (yp2 5) (yie (yp2 7) (yie (ypu oIx (yp2 6) (eC (.int 2))) (yie (ypu oIx (yp2 6) (eC (.int 3))) yo2))))) (yie (eC (.gt ["held"])) (yie (eC (.dic [] [])) yo2))))) yr9)
noncomputable abbrev ptB:Ev->M Fl:=(yr8 (yso (yp1 (yie (eC (.int 0)) (yie (eC (.int 1)) yo2)))) (tgN 7) sdB)
noncomputable def zal:Ev->M Fl:=
 (ysc (yr6 (eFn 3 f_check_span [] (yie (yp2 1) (yie (yp2 2) (yie (yp2 3) yo2))))) (ysc (ysa [10] "hand" (yp2 1) (yp2 0)) (ysc (ysa [10,11] "every" (yp2 2) (yp2 0)) (ysc (ysa [10] "last_look" (eC (.int 0)) (yp2 0)) (ysc (ysa [10] "gave" (eC (.int 0)) (yp2 0)) (ysc (ysa [10] "known" yi0 (yp2 0)) (ysc (ysa [10] "accounts" yi0 (yp2 0)) (ysc (ysa [7,10] "claims" yi0 (yp2 0)) (ysc (ysa [10] "seen" yi0 (yp2 0)) (ysc (ysa [10] "asked" yi0 (yp2 0)) (ysc (ysa [10] "finishing" yi0 (yp2 0)) (ysc (yr6 (ypy [(10,f_Keeper_learn)] 2 "learn" (yp2 0) (yie (eIf (eT (ypu yq7 (yp2 4) (eC .non))) (eLv yo2) (yp2 4)) yo2))) (ymp (ysm (yp2 3)) (tgT 2 (yg6 (tgN 5) (yg6 (tgN 6) ynm))) ptB)))))))))))))
noncomputable def zi11:List D->M D:=hide (run 8 zal)
theorem zah:FnScope ["self", "hand", "every", "pots", "words", "pot", "made", "side"] ["self", "hand", "every", "pots", "words"] (zlv zap):=scD rfl rfl rfl (by decide +kernel)
theorem zad(t:Addr)(kV doc pm:Value)(an:Option Addr)(cdv ct:Value)(s:Shared)(o:Obj)(n:Nat)(us:List Value)(h1:s.heap.get? t=some o)(h2:o.data=.seq ([Value.none]:List Value).toArray n) :
  ((us++[]).length=(["self", "hand", "every", "pots", "words"]:List Str).length->BindsTo s (W.fnOf "__init__" "Keeper.__init__" (zsq zap) (zsr zap) (zlv zap) (.ref t) kV doc pm an cdv ct) ⟨us,[]⟩ ((["self", "hand", "every", "pots", "words"]:List Str).zip (us++[])))/\
  ((us++[Value.none]).length=(["self", "hand", "every", "pots", "words"]:List Str).length->BindsTo s (W.fnOf "__init__" "Keeper.__init__" (zsq zap) (zsr zap) (zlv zap) (.ref t) kV doc pm an cdv ct) ⟨us,[]⟩ ((["self", "hand", "every", "pots", "words"]:List Str).zip (us++[Value.none]))):=
 ⟨fun hl=>match us,(show us.length=5 by simpa using hl)with|[_,_,_,_,_],_=>BindsTo.of_defaults rfl h1 h2 rfl rfl,fun hl=>match us,(show us.length=4 by simpa using hl)with|[_,_,_,_],_=>BindsTo.of_defaults rfl h1 h2 rfl rfl⟩
theorem zaf(Xt:Txt K mg ca):OkB ⟨K,ca,tx K⟩ P w mg base 8 (ca 36) ["self", "hand", "every", "pots", "words"] [Value.none] zi11:=
 OkB.hide (ye1 Xt.zi11 zah fun _ _ _ _ _ _ hr=>
  (znf (zt6 (zmh (zcw Xt) rfl (hr.mono (by decide)) rfl (zs9 (ycf 1) (zs9 (ycf 2) (zs9 (ycf 3) ybw)))))
  (znf (yct rfl (ztu Xt) (ycf 0) (ycf 1))
  (znf (yct rfl (zm2 Xt) (ycf 0) (ycf 2))
  (znf (yct rfl (zdg Xt) (ycf 0) yb3)
  (znf (yct rfl (ztt Xt) (ycf 0) yb3)
  (znf (yct rfl (zm4 Xt) (ycf 0) ztd)
  (znf (yct rfl (zeg Xt) (ycf 0) ztd)
  (znf (yct rfl (zio Xt) (ycf 0) ztd)
  (znf (yct rfl (zty Xt) (ycf 0) ztd)
  (znf (yct rfl (zm1 Xt) (ycf 0) ztd)
  (znf (yct rfl (zdf Xt) (ycf 0) ztd)
  (znf (zt6 (yb8 (k:=1) (ps:=["self", "words"]) rfl (ycf 0) (zjq Xt) (hr.mono (by decide)) (zs9 (zmn (ycy yfb zy6 (ycf 4) yb9 (yes _)) (yje ybw) (ycf 4)) ybw)))
  (zue (zt7 zjy rfl (ztm rfl Xt.n_enumerate (ycf 3)) (ycg rfl (zms (ztk (i:=5) zah.nd rfl (Or.inl rfl)) (zms (ztk (i:=6) zah.nd rfl (Or.inl rfl)) ztl))) (zue (ycu zjy rfl (ych rfl (yce (zs9 yb3 (zs9 yb3 ybw)))) (ztk (i:=7) zah.nd rfl (Or.inl rfl)) (zue (yjq (ycy (yfa (hu9 hr)) ysl (yjd yqn (ygv rfl) (ycf 6) (ycf 7) (fun _ _=>rfl)) (ycf 1) (yes _)) (zue (zt6 (yb8 (k:=1) (ps:=["self", "account", "claim", "seen"]) rfl (ycf 0) (zoo Xt) (hr.mono (by decide)) (zs9 (zmh (za2 Xt) rfl (hr.mono (by decide)) rfl (zs9 (ycf 5) (zs9 (ycf 7) (zs9 (yjd yqn (ygv rfl) (ycf 6) yb3 (fun _ _=>rfl)) (zs9 (yjd yqn (ygv rfl) (ycf 6) yb3 (fun _ _=>rfl)) ybw))))) (zs9 (zmm (ss:=["held"]) rfl Xt.c_HELD) (zs9 zte ybw)))))) zud)))))))))))))))))))
abbrev zg5:Stmt:=top 53
noncomputable def zf4:Ev->M Fl:=
 (ysb (ypv (yi5 (yp2 1) (ypw (yna (yp2 1)) [0] (tgT 2 (yg6 (tgN 0) (yg6 (tgN 1) ynm))) (eT (ypu oEq (yp2 1) (yp2 2))) (yp2 0)))))
noncomputable def f_words_of:List D->M D:=hide fun ds=>frz (run 2 zf4 ds)
theorem zff:FnScope ["hand", "words"] ["hand", "words"] (zlv zg5):=scD rfl rfl rfl (by decide +kernel)
theorem zd9:BD "words_of" "words_of" zg5 ["hand", "words"]:=
 fun _ _ _ _ _ _ us hl=>match us,hl with|[_,_],_=>rfl
theorem ze0(Xt:Txt K mg ca):OkF ⟨K,ca,tx K⟩ P w mg base 1 "words_of" ["hand", "words"] f_words_of:=
 OkF.hide (OkF.frz (ylv Xt.f_words_of zff fun _ _ _ _ _ _ _ hr=>
  (zue (ycv (yb2 (ztj (yb6 (x:="word") (z0:="owner") (M':=["hand"]) (ix:=[0]) rfl ⟨rfl,rfl,rfl,rfl,rfl,rfl⟩ (zil (ycf 1)) (fun _ _ _ _ _=>ycg rfl (zms (ztk (i:=0) (by show List.Nodup (("word"::"owner"::["hand"]):List Str);decide +kernel) rfl (Or.inl rfl)) (zms (ztk (i:=1) (by show List.Nodup (("word"::"owner"::["hand"]):List Str);decide +kernel) rfl (Or.inl rfl)) ztl))) (fun _ _ _ _ _=>ztp (ycy (yfa (hu9 hr)) ysl (ycf 1) (ycf 2) (yes _))) (fun _ _ _ _ _=>(ycf 0)))))))))
abbrev zbr:Stmt:=yk9 (top 54) 0
noncomputable abbrev haB:Ev->M Fl:=(ymq (ypv (yi1 10 5 zi11 (aDf [] (yie (yp2 6) (yie (yp2 3) (yie (eUn (yq5 [7,11] "pots") (yp2 0)) (yie (eFn 2 f_words_of [] (yie (yp2 6) (yie (yp2 5) yo2))) yo2))))))) (eUn (yq5 [11] "keepers") (yp2 0)) (yp2 6))
noncomputable abbrev tzB:Ev->M Fl:=(sIf (eT (ypu zwa (yp2 8) (eUn (yq5 [11] "keepers") (yp2 0)))) (yms (eC (.bl true)) (eUn (yq5 [11] "things") (yp2 0)) (yp1 (yie (eC (.str "word")) (yie (yp2 7) yo2)))) yr9)
noncomputable abbrev tzS:Ev->M Fl:=(ymt (yp2 5) (ymp (yna (yp2 5)) (tgT 2 (yg6 (tgN 7) (yg6 (tgN 8) ynm))) tzB))
noncomputable def zbh:Ev->M Fl:=
 (ysc (ysa [11] "public" (ypv (yi1 7 2 zi15 (yie (yp2 1) yo2))) (yp2 0)) (ysc (ysa [7,11] "pots" (ypy [(7,f_Book_made_of)] 1 "made_of" (eUn (yq5 [11] "public") (yp2 0)) yo2) (yp2 0)) (ysc (ysa [10,11] "every" (yp2 3) (yp2 0)) (ysc (ysa [11] "keepers" yi0 (yp2 0)) (ysc (ysa [11] "under_way" (eLv yo2) (yp2 0)) (ysc (ysa [11] "things" ybg (yp2 0)) (ysc (ysd 5 (eIf (eT (ypu yq7 (yp2 4) (eC .non))) (eC (.dic [] [])) (yp2 4))) (ysc (yr8 (yso (ypv (eUn zwr (yp2 2)))) (tgN 6) haB) tzS))))))))
noncomputable def zi14:List D->M D:=hide (run 9 zbh)
theorem za7:FnScope ["self", "pots", "keeps", "every", "words", "owners", "hand", "word", "owner"] ["self", "pots", "keeps", "every", "words"] (zlv zbr):=scD rfl rfl rfl (by decide +kernel)
theorem zau(t:Addr)(kV doc pm:Value)(an:Option Addr)(cdv ct:Value)(s:Shared)(o:Obj)(n:Nat)(us:List Value)(h1:s.heap.get? t=some o)(h2:o.data=.seq ([Value.none]:List Value).toArray n) :
  ((us++[]).length=(["self", "pots", "keeps", "every", "words"]:List Str).length->BindsTo s (W.fnOf "__init__" "Hall.__init__" (zsq zbr) (zsr zbr) (zlv zbr) (.ref t) kV doc pm an cdv ct) ⟨us,[]⟩ ((["self", "pots", "keeps", "every", "words"]:List Str).zip (us++[])))/\
  ((us++[Value.none]).length=(["self", "pots", "keeps", "every", "words"]:List Str).length->BindsTo s (W.fnOf "__init__" "Hall.__init__" (zsq zbr) (zsr zbr) (zlv zbr) (.ref t) kV doc pm an cdv ct) ⟨us,[]⟩ ((["self", "pots", "keeps", "every", "words"]:List Str).zip (us++[Value.none]))):=
 ⟨fun hl=>match us,(show us.length=5 by simpa using hl)with|[_,_,_,_,_],_=>BindsTo.of_defaults rfl h1 h2 rfl rfl,fun hl=>match us,(show us.length=4 by simpa using hl)with|[_,_,_,_],_=>BindsTo.of_defaults rfl h1 h2 rfl rfl⟩
theorem za0(Xt:Txt K mg ca):OkB ⟨K,ca,tx K⟩ P w mg base 10 (ca 60) ["self", "pots", "keeps", "every", "words"] [Value.none] zi14:=
 OkB.hide (ye1 Xt.zi14 za7 fun _ _ _ _ _ _ hr=>
  (znf (yct rfl (ziq Xt) (ycf 0) (yb2 (ztf (c:=7) (ps:=["self", "pots"]) ⟨_,Xt.m_Book,Xt.mk_Book,zaz Xt⟩ rfl (hr.mono (by decide)) rfl (zs9 (ycf 1) ybw))))
  (znf (yct rfl (ztx Xt) (ycf 0) (zth (k:=1) (ps:=["self"]) rfl (yb1 rfl (ziq Xt) (ycf 0)) (zes Xt) (hr.mono (by decide))))
  (znf (yct rfl (zm2 Xt) (ycf 0) (ycf 3))
  (znf (yct rfl (zfx Xt) (ycf 0) ztd)
  (znf (yct rfl (zdh Xt) (ycf 0) (yje ybw))
  (znf (yct rfl (zir Xt) (ycf 0) zmk)
  (znf (ycw (i:=5) za7.nd rfl (Or.inl rfl) (zmn (ycy yfb zy6 (ycf 4) yb9 (yes _)) zte (ycf 4)))
  (znf (ycu zjy rfl (ych rfl (yb2 (zik rfl rfl rfl Xt.n_sorted rfl Xt.n_set (ycf 2)))) (ztk (i:=6) za7.nd rfl (Or.inl rfl)) (zue (zt8 (hu9 hr) (yb2 (zmo (c:=10) (ps:=["self", "hand", "every", "pots", "words"]) Xt.m_Keeper Xt.mk_Keeper (zaf Xt) (.inl rfl) .nil (fun _ _=>yot.nil) rfl (hr.mono (by decide)) rfl (zs9 (ycf 6) (zs9 (ycf 3) (zs9 (yb1 rfl (ztx Xt) (ycf 0)) (zs9 (zmh (ze0 Xt) rfl (hr.mono (by decide)) rfl (zs9 (ycf 6) (zs9 (ycf 5) ybw))) ybw)))))) (yb1 rfl (zfx Xt) (ycf 0)) (ycf 6))))
  (zue (zuc (zt7 zjy rfl (zil (ycf 5)) (ycg rfl (zms (ztk (i:=7) za7.nd rfl (Or.inl rfl)) (zms (ztk (i:=8) za7.nd rfl (Or.inl rfl)) ztl))) (zue (yjq (ycy (zjw (hu9 hr)) zhc (ycf 8) (yb1 rfl (zfx Xt) (ycf 0)) rfl) (zue (zub (hu9 hr) yjc (yb1 rfl (zir Xt) (ycf 0)) (yce (zs9 ycd (zs9 (ycf 7) ybw))))) zud))))))))))))))
abbrev zc0:Stmt:=top 58
noncomputable def zcs:Ev->M Fl:=
 (ysc (sIf (yo8 (eT (eUn (yq8 (yqg [(2,false),(103,true),(203,true),(303,true),(403,true),(4,false)])) (yp2 0))) (yo9 (eT (eUn (yq8 (yqg [(2,false),(103,false),(203,false),(303,false),(403,false),(4,true)])) (yp2 0))))) (ysb (yp1 (yie (eC (.str "pot")) (yie (eUn (yls [103,203,303,403]) (yp2 0)) yo2)))) yr9) (ysc (sIf (yo8 (eT (eUn (yq8 (yqg [(2,false),(103,false),(203,false),(303,false),(403,false),(4,true)])) (yp2 0))) (yo9 (eT (eUn (yq8 (yqg [(2,false),(103,true),(203,true),(303,true),(403,true),(4,false)])) (yp2 0))))) (ysb (yp1 (yie (eC (.str "span")) (yie (eC (.int 0)) yo2)))) yr9) (ysb (yp1 (yie (eC (.str "other")) (yie (eC (.int 0)) yo2))))))
noncomputable def f__law_caught:List D->M D:=hide fun ds=>noX (run 1 zcs ds)
theorem zck:FnScope ["_law_e"] ["_law_e"] (zlv zc0):=scD rfl rfl rfl (by decide +kernel)
theorem zb1:BD "_law_caught" "_law_caught" zc0 ["_law_e"]:=
 fun _ _ _ _ _ _ us hl=>match us,hl with|[_],_=>rfl
theorem zca(Xt:Txt K mg ca):OkH ⟨K,ca,tx K⟩ P w mg base 1 "_law_caught" ["_law_e"] f__law_caught:=
 OkH.hide (ye2 Xt.f__law_caught zck fun _ _ _ _ _ _ _ hr=>
  (znf (yjq (L2.PW.pt (yc2 (yc0 (yb5 (t:=yqg [(2,false),(103,true),(203,true),(303,true),(403,true),(4,false)]) (ycf 0) rfl Xt.n_isinstance rfl (by decide) (.own Xt.m_NoPot) (ykd (zu4 Xt.xk_NoDeed Xt.i_NoDeed_NoPot (znx (yc8 Xt.hca 3 0 (by decide) (by decide)) Xt.xk_NoPot Xt.i_NoPot_NoPot (znx (yc8 Xt.hca 3 1 (by decide) (by decide)) Xt.xk_NoPot Xt.i_NoPot_NoPot (znx (yc8 Xt.hca 3 2 (by decide) (by decide)) Xt.xk_NoPot Xt.i_NoPot_NoPot (znx (yc8 Xt.hca 3 3 (by decide) (by decide)) Xt.xk_NoPot Xt.i_NoPot_NoPot (zu4 Xt.xk_NoSpan Xt.i_NoSpan_NoPot ydo))))))))) (zuf (ycz (yc0 (yb5 (t:=yqg [(2,false),(103,false),(203,false),(303,false),(403,false),(4,true)]) (ycf 0) rfl Xt.n_isinstance rfl (by decide) (.own Xt.m_NoSpan) (ykd (zu4 Xt.xk_NoDeed Xt.i_NoDeed_NoSpan (znx (yc8 Xt.hca 3 0 (by decide) (by decide)) Xt.xk_NoPot Xt.i_NoPot_NoSpan (znx (yc8 Xt.hca 3 1 (by decide) (by decide)) Xt.xk_NoPot Xt.i_NoPot_NoSpan (znx (yc8 Xt.hca 3 2 (by decide) (by decide)) Xt.xk_NoPot Xt.i_NoPot_NoSpan (znx (yc8 Xt.hca 3 3 (by decide) (by decide)) Xt.xk_NoPot Xt.i_NoPot_NoSpan (zu4 Xt.xk_NoSpan Xt.i_NoSpan_NoSpan ydo))))))))))))) (zue (ycv (yce (zs9 ycd (zs9 (zti rfl (zpx (yc8 Xt.hca 3 0 (by decide) (by decide)) Xt.xk_NoPot Xt.np_NoPot (zpx (yc8 Xt.hca 3 1 (by decide) (by decide)) Xt.xk_NoPot Xt.np_NoPot (zpx (yc8 Xt.hca 3 2 (by decide) (by decide)) Xt.xk_NoPot Xt.np_NoPot (zpx (yc8 Xt.hca 3 3 (by decide) (by decide)) Xt.xk_NoPot Xt.np_NoPot ygb)))) (ycf 0)) ybw))))) zud)
  (znf (yjq (L2.PW.pt (yc2 (yc0 (yb5 (t:=yqg [(2,false),(103,false),(203,false),(303,false),(403,false),(4,true)]) (ycf 0) rfl Xt.n_isinstance rfl (by decide) (.own Xt.m_NoSpan) (ykd (zu4 Xt.xk_NoDeed Xt.i_NoDeed_NoSpan (znx (yc8 Xt.hca 3 0 (by decide) (by decide)) Xt.xk_NoPot Xt.i_NoPot_NoSpan (znx (yc8 Xt.hca 3 1 (by decide) (by decide)) Xt.xk_NoPot Xt.i_NoPot_NoSpan (znx (yc8 Xt.hca 3 2 (by decide) (by decide)) Xt.xk_NoPot Xt.i_NoPot_NoSpan (znx (yc8 Xt.hca 3 3 (by decide) (by decide)) Xt.xk_NoPot Xt.i_NoPot_NoSpan (zu4 Xt.xk_NoSpan Xt.i_NoSpan_NoSpan ydo))))))))) (zuf (ycz (yc0 (yb5 (t:=yqg [(2,false),(103,true),(203,true),(303,true),(403,true),(4,false)]) (ycf 0) rfl Xt.n_isinstance rfl (by decide) (.own Xt.m_NoPot) (ykd (zu4 Xt.xk_NoDeed Xt.i_NoDeed_NoPot (znx (yc8 Xt.hca 3 0 (by decide) (by decide)) Xt.xk_NoPot Xt.i_NoPot_NoPot (znx (yc8 Xt.hca 3 1 (by decide) (by decide)) Xt.xk_NoPot Xt.i_NoPot_NoPot (znx (yc8 Xt.hca 3 2 (by decide) (by decide)) Xt.xk_NoPot Xt.i_NoPot_NoPot (znx (yc8 Xt.hca 3 3 (by decide) (by decide)) Xt.xk_NoPot Xt.i_NoPot_NoPot (zu4 Xt.xk_NoSpan Xt.i_NoSpan_NoPot ydo))))))))))))) (zue (ycv (yce (zs9 ycd (zs9 yb3 ybw))))) zud)
  (zue (ycv (yce (zs9 ycd (zs9 yb3 ybw))))))))
abbrev ze7:Stmt:=top 59
noncomputable def zej:Ev->M Fl:=
 (ysc (ysd 3 (yp1 (yie (eC (.str "made")) (yie (eC (.int 0)) yo2)))) (ysc (yse (yr6 (yi1 11 5 zi14 (aDf [.non] (yie (yp2 0) (yie (yp2 1) (yie (yp2 2) yo2)))))) (⟨(yqg [(2,true),(103,true),(203,true),(303,true),(403,true),(4,true)]),some 4,(ysd 3 (eFn 1 f__law_caught [] (yie (yp2 4) yo2)))⟩::[])) (ysb (yp2 3))))
noncomputable def f__law_told:List D->M D:=hide fun ds=>frz (run 5 zej ds)
theorem zdz:FnScope ["_law_pots", "_law_keeps", "_law_every", "_law_told_here", "_law_e"] ["_law_pots", "_law_keeps", "_law_every"] (zlv ze7):=scD rfl rfl rfl (by decide +kernel)
theorem zc9:BD "_law_told" "_law_told" ze7 ["_law_pots", "_law_keeps", "_law_every"]:=
 fun _ _ _ _ _ _ us hl=>match us,hl with|[_,_,_],_=>rfl
theorem zdp(Xt:Txt K mg ca):OkF ⟨K,ca,tx K⟩ P w mg base 12 "_law_told" ["_law_pots", "_law_keeps", "_law_every"] f__law_told:=
 OkF.hide (OkF.frz (ylv Xt.f__law_told zdz fun _ _ _ _ _ _ _ hr=>
  (znf (ycw (i:=3) zdz.nd rfl (Or.inl rfl) (yce (zs9 ycd (zs9 yb3 ybw))))
  (znf (ycx rfl rfl (fun _ _ hpo=>(zue (zt6 (zmo (c:=11) (ps:=["self", "pots", "keeps", "every", "words"]) Xt.m_Hall Xt.mk_Hall (za0 Xt) (.inr rfl) zrj zp9 rfl (hr.mono (by decide)) rfl (zs9 (ycf 0) (zs9 (ycf 1) (zs9 (ycf 2) ybw))))))) (.consAs (i:=4) rfl (by decide) (.inl Xt.m_BookError) (yjy (zuv Xt.e_NoDeed_BookError (znq (yc8 Xt.hca 3 0 (by decide) (by decide)) Xt.e_NoPot_BookError (znq (yc8 Xt.hca 3 1 (by decide) (by decide)) Xt.e_NoPot_BookError (znq (yc8 Xt.hca 3 2 (by decide) (by decide)) Xt.e_NoPot_BookError (znq (yc8 Xt.hca 3 3 (by decide) (by decide)) Xt.e_NoPot_BookError (zuv Xt.e_NoSpan_BookError ydj))))))) zdz.nd rfl rfl (fun _=>(zue (ycw (i:=3) zdz.nd rfl (Or.inl rfl) (zmg (zca Xt) rfl (ymm (hr.mono (by decide))) rfl (zs9 (ycf 4) ybw))))) .nil))
  (zue (ycv (ycf 3)))))))
abbrev ze5:Stmt:=yk9 (top 54) 1
noncomputable def zeh:Ev->M Fl:=
 (ysb (eUn (yq5 [11] "public") (yp2 0)))
noncomputable def f_Hall_book:List D->M D:=hide fun ds=>frz (run 1 zeh ds)
theorem zdx:FnScope ["self"] ["self"] (zlv ze5):=scD rfl rfl rfl (by decide +kernel)
theorem zc7:BD "book" "Hall.book" ze5 ["self"]:=
 fun _ _ _ _ _ _ us hl=>match us,hl with|[_],_=>rfl
theorem zdn(Xt:Txt K mg ca):OkA ⟨K,ca,tx K⟩ P w mg base 1 (ca 61) ["self"] f_Hall_book:=
 OkA.hide (OkA.frz (ye0 Xt.f_Hall_book zdx fun _ _ _ _ _ _ hr=>
  (zue (ycv (yb1 rfl (ziq Xt) (ycf 0))))))
theorem zop(Xt:Txt K mg ca):yoh ⟨K,ca,tx K⟩ P w mg base 1 "book" ["self"] [(11,f_Hall_book)]:=(zvv (T:=⟨K,ca,tx K⟩) (c:=11) Xt.cl_Hall Xt.me_Hall_book (zdn Xt) (by decide) yek)
abbrev ze6:Stmt:=yk9 (top 54) 3
noncomputable def zei:Ev->M Fl:=
 (ysb (ypv (yiy ylr (yie (eUn (yq5 [11] "under_way") (yp2 0)) yo2))))
noncomputable def f_Hall_road:List D->M D:=hide fun ds=>frz (run 1 zei ds)
theorem zdy:FnScope ["self"] ["self"] (zlv ze6):=scD rfl rfl rfl (by decide +kernel)
theorem zc8:BD "road" "Hall.road" ze6 ["self"]:=
 fun _ _ _ _ _ _ us hl=>match us,hl with|[_],_=>rfl
theorem zdo(Xt:Txt K mg ca):OkA ⟨K,ca,tx K⟩ P w mg base 1 (ca 63) ["self"] f_Hall_road:=
 OkA.hide (OkA.frz (ye0 Xt.f_Hall_road zdy fun _ _ _ _ _ _ hr=>
  (zue (ycv (yb2 (zih zdd (zqy rfl) rfl Xt.n_list boot_list (zs9 (yb1 rfl (zdh Xt) (ycf 0)) ybw)))))))
theorem zoq(Xt:Txt K mg ca):yoh ⟨K,ca,tx K⟩ P w mg base 1 "road" ["self"] [(11,f_Hall_road)]:=(zvv (T:=⟨K,ca,tx K⟩) (c:=11) Xt.cl_Hall Xt.me_Hall_road (zdo Xt) (by decide) yek)
abbrev zcy:Stmt:=yk9 (top 54) 2
noncomputable def zcq:Ev->M Fl:=
 (ysc (sIf (eT (ypu zwa (yp2 1) (eUn (yq5 [11] "keepers") (yp2 0)))) (ygl 2 (yie (eC (.str "this hand doesn't keep")) yo2)) yr9) (ysb (ypu ylo (eUn (yq5 [11] "keepers") (yp2 0)) (yp2 1))))
noncomputable def f_Hall_keeper:List D->M D:=hide fun ds=>frz (run 2 zcq ds)
theorem zci:FnScope ["self", "hand"] ["self", "hand"] (zlv zcy):=scD rfl rfl rfl (by decide +kernel)
theorem zbz:BD "keeper" "Hall.keeper" zcy ["self", "hand"]:=
 fun _ _ _ _ _ _ us hl=>match us,hl with|[_,_],_=>rfl
theorem zb8(Xt:Txt K mg ca):OkA ⟨K,ca,tx K⟩ P w mg base 1 (ca 62) ["self", "hand"] f_Hall_keeper:=
 OkA.hide (OkA.frz (ye0 Xt.f_Hall_keeper zci fun _ _ _ _ _ _ hr=>
  (znf (yjq (ycy (zjw (hu9 hr)) zhc (ycf 1) (yb1 rfl (zfx Xt) (ycf 0)) rfl) (zue (zne 2 PySem.F.excBase_ValueError rfl Xt.x_NoDeed Xt.m_NoDeed rfl rfl (zs9 ycd ybw))) zud)
  (zue (ycv (ztb (hu9 hr) (yb1 rfl (zfx Xt) (ycf 0)) (ycf 1) (fun _ _=>rfl)))))))
theorem zgh(Xt:Txt K mg ca):yoh ⟨K,ca,tx K⟩ P w mg base 1 "keeper" ["self", "hand"] [(11,f_Hall_keeper)]:=(zvv (T:=⟨K,ca,tx K⟩) (c:=11) Xt.cl_Hall Xt.me_Hall_keeper (zb8 Xt) (by decide) yek)
abbrev zcf:Stmt:=yk9 (top 51) 3
noncomputable def zb5:Ev->M Fl:=
 (ysb (ypv (yiy ylu (yie (eUn (yq5 [10] "known") (yp2 0)) yo2))))
noncomputable def f_Keeper_words:List D->M D:=hide fun ds=>frz (run 1 zb5 ds)
theorem zbw:FnScope ["self"] ["self"] (zlv zcf):=scD rfl rfl rfl (by decide +kernel)
theorem zbd:BD "words" "Keeper.words" zcf ["self"]:=
 fun _ _ _ _ _ _ us hl=>match us,hl with|[_],_=>rfl
theorem zbn(Xt:Txt K mg ca):OkA ⟨K,ca,tx K⟩ P w mg base 1 (ca 39) ["self"] f_Keeper_words:=
 OkA.hide (OkA.frz (ye0 Xt.f_Keeper_words zbw fun _ _ _ _ _ _ hr=>
  (zue (ycv (yb2 (zmf (zhz rfl) (zqz rfl) rfl Xt.n_sorted L4.zea (zs9 (yb1 rfl (zm4 Xt) (ycf 0)) ybw)))))))
theorem zjr(Xt:Txt K mg ca):yoh ⟨K,ca,tx K⟩ P w mg base 1 "words" ["self"] [(10,f_Keeper_words)]:=(zvv (T:=⟨K,ca,tx K⟩) (c:=10) Xt.cl_Keeper Xt.me_Keeper_words (zbn Xt) (by decide) yek)
abbrev zbs:Stmt:=yk9 (top 51) 4
noncomputable def zbi:Ev->M Fl:=
 (ysb (eUn (yq5 [10] "last_look") (yp2 0)))
noncomputable def f_Keeper_looked:List D->M D:=hide fun ds=>frz (run 1 zbi ds)
theorem za8:FnScope ["self"] ["self"] (zlv zbs):=scD rfl rfl rfl (by decide +kernel)
theorem zav:BD "looked" "Keeper.looked" zbs ["self"]:=
 fun _ _ _ _ _ _ us hl=>match us,hl with|[_],_=>rfl
theorem za1(Xt:Txt K mg ca):OkA ⟨K,ca,tx K⟩ P w mg base 1 (ca 40) ["self"] f_Keeper_looked:=
 OkA.hide (OkA.frz (ye0 Xt.f_Keeper_looked za8 fun _ _ _ _ _ _ hr=>
  (zue (ycv (yb1 rfl (zdg Xt) (ycf 0))))))
theorem zgi(Xt:Txt K mg ca):yoh ⟨K,ca,tx K⟩ P w mg base 1 "looked" ["self"] [(10,f_Keeper_looked)]:=(zvv (T:=⟨K,ca,tx K⟩) (c:=10) Xt.cl_Keeper Xt.me_Keeper_looked (za1 Xt) (by decide) yek)
abbrev za5:Stmt:=top 60
noncomputable def zay:Ev->M Fl:=
 (ysc (ysd 2 (eC (.bl false))) (ysc (yse (yr6 (ypy [(11,f_Hall_keeper)] 2 "keeper" (yp2 0) (yie (yp2 1) yo2))) (⟨(yqg [(2,true),(103,false),(203,false),(303,false),(403,false),(4,false)]),none,(ysd 2 (eC (.bl true)))⟩::[])) (ysb (yp2 2))))
noncomputable def f__law_no_keeper:List D->M D:=hide fun ds=>frz (run 3 zay ds)
theorem zas:FnScope ["_law_hall", "_law_hand", "_law_refused"] ["_law_hall", "_law_hand"] (zlv za5):=scD rfl rfl rfl (by decide +kernel)
theorem zak:BD "_law_no_keeper" "_law_no_keeper" za5 ["_law_hall", "_law_hand"]:=
 fun _ _ _ _ _ _ us hl=>match us,hl with|[_,_],_=>rfl
theorem zao(Xt:Txt K mg ca):OkF ⟨K,ca,tx K⟩ P w mg base 2 "_law_no_keeper" ["_law_hall", "_law_hand"] f__law_no_keeper:=
 OkF.hide (OkF.frz (ylv Xt.f__law_no_keeper zas fun _ _ _ _ _ _ _ hr=>
  (znf (ycw (i:=2) zas.nd rfl (Or.inl rfl) yjc)
  (znf (ycx rfl rfl (fun _ _ hpo=>(zue (zt6 (yb8 (k:=1) (ps:=["self", "hand"]) rfl (ycf 0) (zgh Xt) (hr.mono (by decide)) (zs9 (ycf 1) ybw))))) (.cons rfl (by decide) (.inl Xt.m_NoDeed) (yjy (zuv Xt.e_NoDeed_NoDeed (znq (yc8 Xt.hca 3 0 (by decide) (by decide)) Xt.e_NoPot_NoDeed (znq (yc8 Xt.hca 3 1 (by decide) (by decide)) Xt.e_NoPot_NoDeed (znq (yc8 Xt.hca 3 2 (by decide) (by decide)) Xt.e_NoPot_NoDeed (znq (yc8 Xt.hca 3 3 (by decide) (by decide)) Xt.e_NoPot_NoDeed (zuv Xt.e_NoSpan_NoDeed ydj))))))) (fun _=>(zue (ycw (i:=2) zas.nd rfl (Or.inl rfl) yjc))) .nil))
  (zue (ycv (ycf 2)))))))
abbrev ymu:Stmt:=top 61
noncomputable abbrev u1:Ev->M Fl:=(ysd 1 (ypu yra (eFn 2 f__law_cell_at [] (yie (yp2 0) (yie (eC (.int 0)) yo2))) (eC (.int 5))))
noncomputable abbrev u2:Ev->M Fl:=(ysd 2 (ypv (ypw (toN (ysn (eC (.int 4)))) [0] (tgN 0) (eT (ypu oEq (ypu yln (ypu yrf (eFn 2 f__law_cell_at [] (yie (yp2 2) (yie (eC (.int 1)) yo2))) (yp2 0)) (eC (.int 1))) (eC (.int 1)))) (yp2 0))))
noncomputable abbrev u3:Ev->M Fl:=(ysd 3 (ypu yrg (ypu yra (eFn 2 f__law_cell_at [] (yie (yp2 0) (yie (eC (.int 2)) yo2))) (eC (.int 56))) (eC (.int 2))))
noncomputable abbrev u4:Ev->M Fl:=(ysd 4 (ypx yo2))
noncomputable abbrev u5:Ev->M Fl:=(ysd 5 (ypx yo2))
noncomputable abbrev pbB:Ev->M Fl:=(ysc (ysd 7 (ypu yra (eFn 2 f__law_cell_at [] (yie (yp2 0) (yie (ypu yq2 (eC (.int 3)) (ypu yrb (eC (.int 3)) (yp2 6))) yo2))) (eC (.int 40)))) (ysc (yr6 (yi2 zv8 (yp2 4) (yie (eFn 3 f__law_pot [] (yie (eFn 2 f__law_cell_at [] (yie (yp2 0) (yie (ypu yq2 (eC (.int 4)) (ypu yrb (eC (.int 3)) (yp2 6))) yo2))) (yie (eFn 2 f__law_cell_at [] (yie (yp2 0) (yie (ypu yq2 (eC (.int 5)) (ypu yrb (eC (.int 3)) (yp2 6))) yo2))) (yie (yp2 7) yo2)))) yo2))) (sIf (bOr (eT (ypu oLt (yp2 7) (eC (.int 10)))) (eT (ypu oEq (yp2 6) (eC (.int 3))))) (yr6 (yi2 zv8 (yp2 5) (yie (yp2 6) yo2))) yr9)))
noncomputable abbrev u6:Ev->M Fl:=(yr8 (ysn (yp2 1)) (tgN 6) pbB)
noncomputable abbrev u7:Ev->M Fl:=(ysd 8 (eFn 3 f__law_told [] (yie (yp2 4) (yie (yp2 2) (yie (yp2 3) yo2)))))
noncomputable abbrev u8:Ev->M Fl:=(sIf (eT (ypu oNe (yp2 5) (eLv yo2))) (ysb (ypu oEq (yp2 8) (yp1 (yie (eC (.str "pot")) (yie (ypu oIx (yp2 5) (eC (.int 0))) yo2))))) yr9)
noncomputable abbrev u9:Ev->M Fl:=(ysd 9 (ypv (ypw (toN (yso (yp2 4))) [2,3] (tgN 0) (yo8 (bOr (eT (ypu (oIn false) (ypu oIx (yp2 0) (eC (.int 0))) (yp2 2))) (eT (ypu (oIn false) (ypu oIx (yp2 0) (eC (.int 1))) (yp2 2)))) (eT (ypu oLt (ypu oIx (yp2 0) (eC (.int 4))) (ypu yq2 (yp2 3) (eC (.int 1)))))) (yp2 0))))
noncomputable abbrev u10:Ev->M Fl:=(sIf (yo8 (eT (ypu oNe (yp2 2) (eLv yo2))) (bOr (eT (ypu oLt (yp2 3) (eC (.int 1)))) (bOr (eT (ypu oGt (yp2 3) (eC (.int 50)))) (eT (ypu oNe (yp2 9) (eLv yo2)))))) (ysb (ypu oEq (yp2 8) (yp1 (yie (eC (.str "span")) (yie (eC (.int 0)) yo2))))) yr9)
noncomputable abbrev u11:Ev->M Fl:=(sIf (eT (ypu oEq (yp2 2) (eLv yo2))) (ysb (eOr (ypu oEq (yp2 8) (yp1 (yie (eC (.str "made")) (yie (eC (.int 0)) yo2)))) (eOr (ypu oLt (yp2 3) (eC (.int 1))) (ypu oGt (yp2 3) (eC (.int 50)))))) yr9)
noncomputable abbrev u12:Ev->M Fl:=(ysd 10 (ypx (yie (yiy ylr (yie (yp2 4) yo2)) (yie (yp0 (yp2 2) (some (eUn yrc (eC (.int 1))))) (yie (yiz [.inl 5,.inl 6] (yie (eC (.int 3)) (yie (ypu oIx (yp2 2) (eC (.int 0))) yo2))) yo2)))))
noncomputable abbrev u13:Ev->M Fl:=(ysd 11 (yi1 11 5 zi14 (aDf [] (yie (ypu oIx (yp2 10) (eC (.int 0))) (yie (ypu oIx (yp2 10) (eC (.int 1))) (yie (yp2 3) (yie (ypu oIx (yp2 10) (eC (.int 2))) yo2)))))))
noncomputable abbrev u14:Ev->M Fl:=(yr6 (yi2 zv8 (ypu oIx (yp2 10) (eC (.int 0))) (yie (yp1 (yie (eC (.int 0)) (yie (eC (.int 1)) (yie (eC (.int 5)) (yie (eC (.int 5)) (yie (eC (.int 60)) yo2)))))) yo2)))
noncomputable abbrev u15:Ev->M Fl:=(yr6 (yi2 zv9 (ypu oIx (yp2 10) (eC (.int 1))) yo2))
noncomputable abbrev u16:Ev->M Fl:=(yr6 (ybk yev (ypu oIx (yp2 10) (eC (.int 2))) yo2))
noncomputable abbrev u17:Ev->M Fl:=(ymq (ypu oIx (yp2 2) (eC (.int 0))) (ypu oIx (yp2 10) (eC (.int 2))) (eC (.int 7)))
noncomputable abbrev u18:Ev->M Fl:=(sIf (bOr (eT (ypu oNe (yp2 8) (yp1 (yie (eC (.str "made")) (yie (eC (.int 0)) yo2))))) (bOr (eT (ypu oNe (ypy [(7,f_Book_made_of)] 1 "made_of" (ypy [(11,f_Hall_book)] 1 "book" (yp2 11) yo2) yo2) (yp2 4))) (eT (ypu oNe (ypy [(11,f_Hall_road)] 1 "road" (yp2 11) yo2) (eLv yo2))))) (ysb (eC (.bl false))) yr9)
noncomputable abbrev u19:Ev->M Fl:=(sIf (eT (ypu oNe (ypy [(10,f_Keeper_words)] 1 "words" (ypy [(11,f_Hall_keeper)] 2 "keeper" (yp2 11) (yie (ypu oIx (yp2 2) (eC (.int 0))) yo2)) yo2) (eSl (eLv (yie (eC (.int 5)) (yie (eC (.int 6)) yo2))) (some (yiy ylq (yie (eOr (ypu (oIn true) (eC (.int 3)) (yp2 2)) (ypu oNe (ypu oIx (yp2 2) (eC (.int 0))) (eC (.int 3)))) yo2))) none))) (ysb (eC (.bl false))) yr9)
noncomputable abbrev fiB:Ev->M Fl:=(sIf (bOr (yo8 (eT (ypu (oIn false) (yp2 12) (yp2 2))) (eT (ypu oNe (ypy [(10,f_Keeper_looked)] 1 "looked" (ypy [(11,f_Hall_keeper)] 2 "keeper" (yp2 11) (yie (yp2 12) yo2)) yo2) (eC (.int 0))))) (yo8 (eT (ypu (oIn true) (yp2 12) (yp2 2))) (yo9 (eT (eFn 2 f__law_no_keeper [] (yie (yp2 11) (yie (yp2 12) yo2))))))) (ysb (eC (.bl false))) yr9)
noncomputable abbrev u20:Ev->M Fl:=(yr8 (ysn (eC (.int 4))) (tgN 12) fiB)
noncomputable abbrev u21:Ev->M Fl:=(ysb (eC (.bl true)))
noncomputable def yjv:Ev->M Fl:=
 (ysc u1 (ysc u2 (ysc u3 (ysc u4 (ysc u5 (ysc u6 (ysc u7 (ysc u8 (ysc u9 (ysc u10 (ysc u11 (ysc u12 (ysc u13 (ysc u14 (ysc u15 (ysc u16 (ysc u17 (ysc u18 (ysc u19 (ysc u20 u21))))))))))))))))))))
noncomputable def f_law:List D->M D:=run 13 yjv
theorem ygm:FnScope ["_law_script", "_law_many", "_law_keeps", "_law_every", "_law_pots", "_law_bad", "_law_k", "_law_fault", "_law_told_here", "_law_short", "_law_handed", "_law_hall", "_law_hand"] ["_law_script"] (zlv ymu):=scD rfl rfl rfl (by decide +kernel)
theorem yak:BD "law" "law" ymu ["_law_script"]:=
 fun _ _ _ _ _ _ us hl=>match us,hl with|[_],_=>rfl
theorem ye4(Xt:Txt K mg ca):OkL ⟨K,ca,tx K⟩ P w mg 13 "law" ["_law_script"] f_law:=
 ye6 Xt.f_law ygm fun _ _ _ _ _ _ _ _ hr=>
  (znf (ycw (i:=1) ygm.nd rfl (Or.inl rfl) (yjf yfc zy8 (zmh (zbo Xt) rfl (hr.mono (by decide)) rfl (zs9 (ycf 0) (zs9 yb3 ybw))) yb3))
  (znf (zt9 (ycw (i:=2) ygm.nd rfl (Or.inr rfl) (yb6 (x:="_law_hand") (z0:="0") (M':=["_law_script"]) (ix:=[0]) rfl ⟨rfl,rfl,rfl,rfl,rfl,rfl⟩ (yp6 (zmt rfl Xt.n_range yb3)) (fun _ _ _ _ _=>ztk (i:=0) (by show List.Nodup (("_law_hand"::"0"::["_law_script"]):List Str);decide +kernel) rfl (Or.inl rfl)) (fun _ _ _ _ _=>ztp (ycy (yfa (hu9 hr)) ysl (yjf ye8 zqw (yjf yfg zzc (zmh (zbo Xt) rfl (hr.mono (by decide)) rfl (zs9 (ycf 2) (zs9 yb3 ybw))) (ycf 0)) yb3) yb3 (yes _))) (fun _ _ _ _ _=>(ycf 0)))))
  (znf (ycw (i:=3) ygm.nd rfl (Or.inr rfl) (yjf yfh zze (yjf yfc zy8 (zmh (zbo Xt) rfl (hr.mono (by decide)) rfl (zs9 (ycf 0) (zs9 yb3 ybw))) yb3) yb3))
  (znf (ycw (i:=4) ygm.nd rfl (Or.inl rfl) (yb7 ybw))
  (znf (ycw (i:=5) ygm.nd rfl (Or.inl rfl) (yb7 ybw))
  (znf (ycu zjy rfl (zmt rfl Xt.n_range (ycf 1)) (ztk (i:=6) ygm.nd rfl (Or.inl rfl)) (znf (ycw (i:=7) ygm.nd rfl (Or.inl rfl) (yjf yfc zy8 (zmh (zbo Xt) rfl (hr.mono (by decide)) rfl (zs9 (ycf 0) (zs9 (yjf (zwt rfl) ysl yb3 (yjf yfd zy9 yb3 (ycf 6))) ybw))) yb3))
  (znf (zt6 (ztg PySem.F.plainAttrs_list PySem.F.slot_list_append PySem.F.type_list_append zjs zha (ycf 4) (zs9 (zmh (zev Xt) rfl (hr.mono (by decide)) rfl (zs9 (zmh (zbo Xt) rfl (hr.mono (by decide)) rfl (zs9 (ycf 0) (zs9 (yjf (zwt rfl) ysl yb3 (yjf yfd zy9 yb3 (ycf 6))) ybw))) (zs9 (zmh (zbo Xt) rfl (hr.mono (by decide)) rfl (zs9 (ycf 0) (zs9 (yjf (zwt rfl) ysl yb3 (yjf yfd zy9 yb3 (ycf 6))) ybw))) (zs9 (ycf 7) ybw)))) ybw)))
  (zue (yjq (L2.PW.pt (yjr (ycy yly ygx (ycf 7) yb3 (yes _)) (yc3 (ycy (yfa (hu9 hr)) ysl (ycf 6) yb3 (yes _))))) (zue (zt6 (ztg PySem.F.plainAttrs_list PySem.F.slot_list_append PySem.F.type_list_append zjs zha (ycf 5) (zs9 (ycf 6) ybw)))) zud)))))
  (znf (ycw (i:=8) ygm.nd rfl (Or.inl rfl) (zmh (zdp Xt) rfl (hr.mono (by decide)) rfl (zs9 (ycf 4) (zs9 (ycf 2) (zs9 (ycf 3) ybw)))))
  (znf (yjq (ycy (yfe (hu9 hr)) ysl (ycf 5) (yje ybw) (yes _)) (zue (ycv (yb0 (yfa (hu9 hr)) ysl (ycf 8) (yce (zs9 ycd (zs9 (yjd yqn (ygv rfl) (ycf 5) yb3 (fun _ _=>rfl)) ybw))) (yes _)))) zud)
  (znf (zt9 (ziv (i:=9) ygm.nd rfl (Or.inl rfl) (x:="_law_pot_here") (z0:="0") (M':=["_law_keeps", "_law_every"]) (ix:=[2,3]) rfl ⟨rfl,rfl,rfl,rfl,rfl,rfl⟩ (yp6 (ych rfl (ycf 4))) (fun _ _ _ _ _=>ztk (i:=0) (by show List.Nodup (("_law_pot_here"::"0"::["_law_keeps", "_law_every"]):List Str);decide +kernel) rfl (Or.inl rfl)) (fun _ _ _ _ _=>ztp (L2.PW.pt (yc2 (L2.PW.pt (yjr (ycy zjx (ygu rfl false) (yjd yqn (ygv rfl) (ycf 0) yb3 (fun _ _=>rfl)) (ycf 2) rfl) (yc3 (ycy zjx (ygu rfl false) (yjd yqn (ygv rfl) (ycf 0) yb3 (fun _ _=>rfl)) (ycf 2) rfl)))) (zuf (ycy yly ygx (yjd yqn (ygv rfl) (ycf 0) yb3 (fun _ _=>rfl)) (yjf (zwt rfl) ysl (ycf 3) yb3) (yes _)))))) (fun _ _ _ _ _=>(ycf 0))))
  (znf (yjq (L2.PW.pt (yc2 (ycy (yfe (hu9 hr)) ysl (ycf 2) (yje ybw) (yes _)) (zuf (L2.PW.pt (yjr (ycy yly ygx (ycf 3) yb3 (yes _)) (yjr (ycy ylw ygt (ycf 3) yb3 (yes _)) (yc3 (ycy (yfe (hu9 hr)) ysl (ycf 9) (yje ybw) (yes _))))))))) (zue (ycv (yb0 (yfa (hu9 hr)) ysl (ycf 8) (yce (zs9 ycd (zs9 yb3 ybw))) (yes _)))) zud)
  (znf (yjq (ycy (yfa (hu9 hr)) ysl (ycf 2) (yje ybw) (yes _)) (zue (ycv (yjg (yb0 (yfa (hu9 hr)) ysl (ycf 8) (yce (zs9 ycd (zs9 yb3 ybw))) (yes _)) (yjg (yb0 yly ygx (ycf 3) yb3 (yes _)) (ycb (yb0 ylw ygt (ycf 3) yb3 (yes _))))))) zud)
  (znf (ycw (i:=10) ygm.nd rfl (Or.inl rfl) (yb7 (zs9 (zih zdd (zqy rfl) rfl Xt.n_list boot_list (zs9 (ycf 4) ybw)) (zs9 (ycc (ycf 2) (zt0 (yjh yht zza yb3))) (zs9 (ztc (Dsp.cons (kk:=.inl 5) yb3 yb3 (Dsp.cons (kk:=.inl 6) yb3 (yjd yqn (ygv rfl) (ycf 2) yb3 (fun _ _=>rfl)) Dsp.nil)) rfl rfl (List.cons_ne_nil _ _) (Nat.le_of_ble_eq_true rfl)) ybw)))))
  (znf (ycw (i:=11) ygm.nd rfl (Or.inl rfl) (zmo (c:=11) (ps:=["self", "pots", "keeps", "every", "words"]) Xt.m_Hall Xt.mk_Hall (za0 Xt) (.inl rfl) .nil (fun _ _=>yot.nil) rfl (hr.mono (by decide)) rfl (zs9 (yjd yqn (ygv rfl) (ycf 10) yb3 (fun _ _=>rfl)) (zs9 (yjd yqn (ygv rfl) (ycf 10) yb3 (fun _ _=>rfl)) (zs9 (ycf 3) (zs9 (yjd yqn (ygv rfl) (ycf 10) yb3 (fun _ _=>rfl)) ybw))))))
  (znf (zt6 (ztg PySem.F.plainAttrs_list PySem.F.slot_list_append PySem.F.type_list_append zjs zha (yjd yqn (ygv rfl) (ycf 10) yb3 (fun _ _=>rfl)) (zs9 (yce (zs9 yb3 (zs9 yb3 (zs9 yb3 (zs9 yb3 (zs9 yb3 ybw)))))) ybw)))
  (znf (zt6 (zmq PySem.F.plainAttrs_list PySem.F.slot_list_clear PySem.F.type_list_clear L2.mt_clear zhb (yjd yqn (ygv rfl) (ycf 10) yb3 (fun _ _=>rfl))))
  (znf (zt6 (zij PySem.F.plainAttrs_dict PySem.F.slot_dict_clear PySem.F.type_dict_clear mt_clear zko (yjd yqn (ygv rfl) (ycf 10) yb3 (fun _ _=>rfl))))
  (znf (zt8 (hu9 hr) (yjd yqn (ygv rfl) (ycf 2) yb3 (fun _ _=>rfl)) (yjd yqn (ygv rfl) (ycf 10) yb3 (fun _ _=>rfl)) yb3)
  (znf (yjq (L2.PW.pt (yjr (ycy (yfe (hu9 hr)) ysl (ycf 8) (yce (zs9 ycd (zs9 yb3 ybw))) (yes _)) (yjr (ycy (yfe (hu9 hr)) ysl (zth (k:=1) (ps:=["self"]) rfl (zth (k:=1) (ps:=["self"]) rfl (ycf 11) (zop Xt) (hr.mono (by decide))) (zes Xt) (hr.mono (by decide))) (ycf 4) (yes _)) (yc3 (ycy (yfe (hu9 hr)) ysl (zth (k:=1) (ps:=["self"]) rfl (ycf 11) (zoq Xt) (hr.mono (by decide))) (yje ybw) (yes _)))))) (zue (ycv yjc)) zud)
  (znf (yjq (ycy (yfe (hu9 hr)) ysl (zth (k:=1) (ps:=["self"]) rfl (yb8 (k:=1) (ps:=["self", "hand"]) rfl (ycf 11) (zgh Xt) (hr.mono (by decide)) (zs9 (yjd yqn (ygv rfl) (ycf 2) yb3 (fun _ _=>rfl)) ybw)) (zjr Xt) (hr.mono (by decide))) (zmr rfl (yje (zs9 yb3 (zs9 yb3 ybw))) (zt0 (zih zhu zqx rfl Xt.n_int boot_int (zs9 (yjg (yb0 zdr (ygu rfl true) yb3 (ycf 2) rfl) (ycb (yb0 (yfe (hu9 hr)) ysl (yjd yqn (ygv rfl) (ycf 2) yb3 (fun _ _=>rfl)) yb3 (yes _)))) ybw))) ztw) (yes _)) (zue (ycv yjc)) zud)
  (znf (ycu zjy rfl (zmt rfl Xt.n_range yb3) (ztk (i:=12) ygm.nd rfl (Or.inl rfl)) (zue (yjq (L2.PW.pt (yjr (L2.PW.pt (yc2 (ycy zjx (ygu rfl false) (ycf 12) (ycf 2) rfl) (zuf (ycy (yfe (hu9 hr)) ysl (zth (k:=1) (ps:=["self"]) rfl (yb8 (k:=1) (ps:=["self", "hand"]) rfl (ycf 11) (zgh Xt) (hr.mono (by decide)) (zs9 (ycf 12) ybw)) (zgi Xt) (hr.mono (by decide))) yb3 (yes _))))) (yc3 (L2.PW.pt (yc2 (ycy zdr (ygu rfl true) (ycf 12) (ycf 2) rfl) (zuf (ycz (yc0 (zmh (zao Xt) rfl (hr.mono (by decide)) rfl (zs9 (ycf 11) (zs9 (ycf 12) ybw))))))))))) (zue (ycv yjc)) zud)))
  (zue (ycv yjc))))))))))))))))))))))
end
end K56
namespace K56
open PySem L2 L4
set_option maxHeartbeats 4000000
section
variable{α:Type}{xs:List α}{σ:Sto}{fi:Ev->M Bool}{fe:Ev->M D}{tg:D->Ev->Option Ev}{nx:NX}{yr1:Ev}
theorem yd5(O:Option D->Prop)(v a:α->D)(b:α->Option D)(p:α->Bool)(y:α->D)(hn:∀ i j,i<=xs.length->nx i (σ++j)=some ((xs[i]?).map v))(ht:∀ x o o',O o'->tg (v x) (o::o'::yr1)=some (some (a x)::b x::yr1)/\O (b x))
  (step:∀ x∈xs,∀ j,fi (some (a x)::b x::yr1) (σ++j)=.ok (p x) (σ++j)/\(p x=true->fe (some (a x)::b x::yr1) (σ++j)=.ok (y x) (σ++j))) (hl:xs.length<=1000) :
  ∀ (k i:Nat) (o o':Option D) (ys:List D),O o'->xs.length<k+i->i<=xs.length->ys.length<=i->
   zvg nx σ.length tg fi fe k i (o::o'::yr1) (σ++[.lst ys])=.ok () (σ++[.lst (ys++((xs.drop i).filter p).map y)]):=by
 intro k;induction k with
 |zero=>intro i o o' ys _ h1 h2;omega
 |succ k ih=>
  intro i o o' ys hO h1 h2 hy;unfold zvg;rw[hn i _ h2];cases e:xs[i]? with
  |none=>
   have hi:xs.length<=i:=List.getElem?_eq_none_iff.mp e;rw[List.drop_eq_nil_of_le hi];simp
  |some d=>
   obtain⟨hi,ed⟩:=List.getElem?_eq_some_iff.mp e;have hd:xs.drop i=d::xs.drop (i+1):=by rw[<-ed];exact List.drop_eq_getElem_cons hi
   obtain⟨s1,s2⟩:=step d (by rw[<-ed];exact List.getElem_mem hi) [.lst ys];obtain⟨t1,t2⟩:=ht d o o' hO;simp only[Option.map_some,t1];rw[yao,yet s1,zr5];by_cases hp:p d=true
   ·rw[hp,if_pos rfl,yao,yet (s2 hp),zr5,yao,zfi (by omega),zr5,ih (i+1) _ _ (ys++[y d]) t2 (by omega) (by omega) (by simp;omega),hd,List.filter_cons,if_pos hp];simp
   ·rw[if_neg hp,ih (i+1) _ _ ys t2 (by omega) (by omega) (by omega),hd,List.filter_cons,if_neg hp]
end
theorem znd{σ:Sto}{xs:List D}(h:clL xs=true):yp9 σ (.ok (.ref σ.length) (σ++[.lst xs]))=.ok (.lst xs) σ:=by
 have:=znc (σ:=σ) (j:=[]) (j':=[]) h;simpa using this
theorem yd6{src:Ev->M Src}{s:Src}{ix:List Nat}{fi:Ev->M Bool}{fe:Ev->M D}{ds:List D}{ρ:Ev}{σ:Sto}(y:D->D)(p:D->Bool)(hs:src ρ σ=.ok s σ)(hn:∀ i j,s.nx i (σ++j)=some ds[i]?)(hl:ds.length<=1000)
  (step:∀ d∈ds,∀ j,fi (some d::none::(ix.map fun i=>(ρ[i]?).getD none)) (σ++j)=.ok (p d) (σ++j)/\(p d=true->fe (some d::none::(ix.map fun i=>(ρ[i]?).getD none)) (σ++j)=.ok (y d) (σ++j))) (hc:∀ d∈ds,p d=true->cl (y d)=true) :
  ypv (ypw (toN src) ix (tgN 0) fi fe) ρ σ=.ok (.lst ((ds.filter p).map y)) σ:=by
 show yp9 σ (bnd (bnd (src ρ) nxR) (yqr (tgN 0) fi fe (yam ix ρ)) σ)=_;rw[yao,yao,hs,zr5];show yp9 σ (bnd (zvg s.nx σ.length (tgN 0) fi fe 1001 0 (none::none::(ix.map fun i=>(ρ[i]?).getD none))) _ (σ++[.lst []]))=_;rw[yao,yd5 (fun o=>o=none) (fun d=>d) (fun d=>d) (fun _=>none) p y (fun i j _=>by rw[hn];cases ds[i]?<;>rfl) (fun x o o' h=>by subst h;exact⟨rfl,rfl⟩) step hl 1001 0 none none [] rfl (by omega) (by omega) (by simp),zr5];refine Eq.trans (congrArg (yp9 σ) ?_) (znd (xs:=(ds.filter p).map y) (zsa fun d hd=>by obtain⟨x,hx,rfl⟩:=List.mem_map.mp hd;obtain⟨hx1,hx2⟩:=List.mem_filter.mp hx;exact hc x hx1 hx2));simp
theorem zvh{src:Ev->M Src}{s:Src}{ix:List Nat}{fe:Ev->M D}{ds:List D}{ρ:Ev}{σ:Sto}(y:D->D)(hs:src ρ σ=.ok s σ)(hn:∀ i j,s.nx i (σ++j)=some ds[i]?)(hl:ds.length<=1000)
  (step:∀ d∈ds,∀ j,fe (some d::none::(ix.map fun i=>(ρ[i]?).getD none)) (σ++j)=.ok (y d) (σ++j)) (hc:∀ d∈ds,cl (y d)=true) :
  ypv (ypw (toN src) ix (tgN 0) yii fe) ρ σ=.ok (.lst (ds.map y)) σ:=by
 have:=yd6 (p:=fun _=>true) y (ix:=ix) (fi:=yii) hs hn hl (fun d hd j=>⟨rfl,fun _=>step d hd j⟩) (fun d hd _=>hc d hd);rw[show List.filter (fun _=>true) ds=ds from List.filter_eq_self.mpr fun _ _=>rfl]at this;exact this
structure Pt where
 (l r u v t:Int)
def Pt.D(p:Pt):L4.D:=.tup [.int p.l,.int p.r,.int p.u,.int p.v,.int p.t]
structure Pt.Ok(p:Pt):Prop where
 l:0<=p.l/\p.l<=3
 r:0<=p.r/\p.r<=3
 lr:p.l≠p.r
 u:0<=p.u/\p.u<=1000000000000
 v:0<=p.v/\p.v<=1000000000000
 t:1<=p.t/\p.t<=100
def Sc:D->Bool
 | .int _=>true
 | .non=>true
 | .bl _=>true
 | .str _=>true
 |_=>false
def bd(d:D)(a b:Int):Bool:=match d with
 | .int i=>decide (a<=i) && decide (i<=b)
 |_=>false
theorem zi7(x:Str)(σ:Sto):yq6 .int (.str x) σ=.ok (.bl false) σ:=nr rfl
theorem zk1{d:D}(h:Sc d=true)(σ:Sto):f_is_whole [d] σ=.ok (.bl (match d with | .int _=>true|_=>false)) σ:=by
 unfold f_is_whole zf2;cases d with
 |int i=>simp
 |non=>simp
 |bl b=>simp
 |str x=>simp[zi7]
 |_=>cases h
theorem yap{d:D}(h:Sc d=true)(a b:Int)(σ:Sto):f_is_between [d,.int a,.int b] σ=.ok (.bl (bd d a b)) σ:=by
 have w:=fun σ=>zk1 h σ;unfold f_is_between zdk;cases d with
 |int i=>cases h2:decide (a<=i)<;>simp[bd,h2,w]
 |non=>simp[bd,w]
 |bl b=>simp[bd,w]
 |str x=>simp[bd,w]
 |_=>cases h
theorem zuo{d:D}(h:Sc d=true)(σ:Sto):f_is_hand [d] σ=.ok (.bl (bd d 0 3)) σ:=by
 have w:=fun σ=>yap h 0 3 σ;unfold f_is_hand ziw;generalize bd d 0 3=b at *;simp[w]
def neI(a b:D):Bool:=match a,b with
 | .int i,.int j=>!(i == j)
 |_,_=>true
def gd5(a b c d e:D):Bool:=bd a 0 3 && (bd b 0 3 && (neI a b && (bd c 0 1000000000000 && (bd d 0 1000000000000 && bd e 1 100))))
theorem yaj{d:D}{a b:Int}(h:bd d a b=true):∃ i,d=.int i/\a<=i/\i<=b:=by
 cases d with
 |int i=>simp[bd]at h;exact⟨i,rfl,h.1,h.2⟩
 |_=>simp[bd]at h
theorem yki(a b c d e:D)(r:List D)(σ:Sto):oIx (.tup (a::b::c::d::e::r)) (.int 4) σ=.ok e σ:=zwi (show atI _ ((4:Nat):Int)=_ from zrz rfl)
theorem yem{a b:D}(ha:bd a 0 3=true)(hb:bd b 0 3=true)(σ:Sto):oNe a b σ=.ok (.bl (neI a b)) σ/\oEq a b σ=.ok (.bl (!neI a b)) σ:=by
 obtain⟨i,rfl,_⟩:=yaj ha;obtain⟨j,rfl,_⟩:=yaj hb;simp[neI]
theorem yeg{a b c d e:D}(ha:Sc a=true)(hb:Sc b=true)(hc:Sc c=true)(hd:Sc d=true)(he:Sc e=true)(σ:Sto):f_makes_a_pot [.tup [a,b,c,d,e]] σ=.ok (.bl (gd5 a b c d e)) σ:=by
 have h1:=fun σ=>zuo ha σ;have h2:=fun σ=>zuo hb σ;have h3:=fun σ=>yap hc 0 1000000000000 σ;have h4:=fun σ=>yap hd 0 1000000000000 σ;have h5:=fun σ=>yap he 1 100 σ;have hn:bd a 0 3=true->bd b 0 3=true->∀ σ,oNe a b σ=.ok (.bl (neI a b)) σ:=fun x y σ=>(yem x y σ).1;have i4:=fun σ=>yki a b c d e [] σ;unfold f_makes_a_pot zct gd5;generalize bd a 0 3=x1 at *;generalize bd b 0 3=x2 at *;generalize bd c 0 1000000000000=x3 at *;generalize bd d 0 1000000000000=x4 at *;generalize bd e 1 100=x5 at *;generalize neI a b=x6 at *;cases x1
 ·simp[h1]
 ·cases x2
  ·simp[h1,h2]
  ·have hn:=hn rfl rfl;cases x6
   ·simp[h1,h2,hn]
   ·cases x3
    ·simp[h1,h2,hn,h3]
    ·cases x4
     ·simp[h1,h2,hn,h3,h4]
     ·simp[h1,h2,hn,h3,h4,i4,h5]
@[simp] theorem ybm(f:Ev->M D)(lo hi:PF)(ρ:Ev)(σ:Sto):eSl f lo hi ρ σ=(f ρ σ).bind (ysi (yi3 lo ρ) (yi3 hi ρ)):=nr rfl
@[simp] theorem zyx(lo hi:M (Option Int))(x:D)(σ:Sto):ysi lo hi x σ=(lo σ).bind (ysj x hi):=nr rfl
@[simp] theorem zyy(x:D)(hi:M (Option Int))(lo:Option Int)(σ:Sto):ysj x hi lo σ=(hi σ).bind (ysk x lo):=nr rfl
@[simp] theorem zsz(ρ:Ev)(σ:Sto):yi3 none ρ σ=.ok none σ:=nr rfl
@[simp] theorem zs0(f:Ev->M D)(ρ:Ev)(σ:Sto):yi3 (some f) ρ σ=(f ρ σ).bind yl0:=nr rfl
@[simp] theorem zwy(i:Int)(σ:Sto):yl0 (.int i) σ=.ok (some i) σ:=nr rfl
@[simp] theorem zqv(xs:List D)(lo hi:Option Int)(σ:Sto):ysk (.tup xs) lo hi σ=.ok (.tup (ypn xs lo hi)) σ:=nr rfl
theorem ymv{d:D}(h:Sc d=true):cl d=true:=by cases d<;>first|(cases h;done)|simp
theorem ymw{d:D}(h:Sc d=true)(n:Nat)(σ:Sto):eqD σ n d d=some true:=by
 cases n<;>cases d<;>first|(simp[eqD,kd,eqK,eqV];done)|cases h
theorem zl9{f:D->D->Option Bool}:∀ {xs:List D},(∀ x∈xs,f x x=some true)->eqL f xs xs=some true
 |[],_=>rfl
 |x::xs,h=>by
  unfold eqL;rw[h x List.mem_cons_self,zl9 fun y hy=>h y (List.mem_cons_of_mem _ hy)];rfl
theorem yaw{xs:List D}(h:∀ x∈xs,Sc x=true):clL xs=true:=zsa fun d hd=>ymv (h d hd)
structure Th(d:D)(b:Bool):Prop where
 makes:∀ σ,f_makes_a_pot [d] σ=.ok (.bl b) σ
 cl:L4.cl d=true
 eq:∀ σ,eqD σ 7 d d=some true
 pot:b=true->∃ p:Pt,p.Ok/\d=p.D
theorem ybu{xs:List D}(h:∀ x∈xs,Sc x=true)(σ:Sto):eqD σ 7 (.tup xs) (.tup xs)=some true:=by
 show eqL (eqD σ 6) xs xs=some true;exact zl9 fun x hx=>ymw (h x hx) 6 σ
theorem th5{a b c d e:D}(h:∀ x∈[a,b,c,d,e],Sc x=true):Th (.tup [a,b,c,d,e]) (gd5 a b c d e) where
 makes:=fun σ=>yeg (h a (by simp)) (h b (by simp)) (h c (by simp)) (h d (by simp)) (h e (by simp)) σ
 cl:=by rw[ya9];exact yaw h
 eq:=ybu h
 pot:=fun q=>by
  unfold gd5 at q;simp only[Bool.and_eq_true]at q;obtain⟨q1,q2,q3,q4,q5,q6⟩:=q;obtain⟨i1,rfl,a1⟩:=yaj q1;obtain⟨i2,rfl,a2⟩:=yaj q2;obtain⟨i3,rfl,a3⟩:=yaj q4;obtain⟨i4,rfl,a4⟩:=yaj q5;obtain⟨i5,rfl,a5⟩:=yaj q6;exact⟨⟨i1,i2,i3,i4,i5⟩,⟨a1,a2,by simpa [neI]using q3,a3,a4,a5⟩,rfl⟩
theorem yg9{xs:List D}(h:∀ x∈xs,Sc x=true)(hl:xs.length≠5):Th (.tup xs) false where
 makes:=fun σ=>by
  have b:((xs.length:Int) == 5)=false:=by simp;omega
  unfold f_makes_a_pot zct;simp[b]
 cl:=by rw[ya9];exact yaw h
 eq:=ybu h
 pot:=fun q=>by cases q
theorem yg8{p:Pt}(h:p.Ok):Th p.D true:=by
 have t:=th5 (a:=.int p.l) (b:=.int p.r) (c:=.int p.u) (d:=.int p.v) (e:=.int p.t) (by intro x hx;simp at hx;rcases hx with rfl|rfl|rfl|rfl|rfl<;>rfl);have e:gd5 (.int p.l) (.int p.r) (.int p.u) (.int p.v) (.int p.t)=true:=by
  have:=h.l;have:=h.r;have:=h.lr;have:=h.u;have:=h.v;have:=h.t;simp[gd5,bd,neI];refine⟨⟨?_,?_⟩,⟨?_,?_⟩,?_,⟨?_,?_⟩,⟨?_,?_⟩,?_,?_⟩<;>first|omega|assumption
 rw[e]at t;exact t
@[simp] theorem yj4(a:D)(r:List D)(σ:Sto):oIx (.lst (a::r)) (.int 0) σ=.ok a σ:=zwg (show atI _ ((0:Nat):Int)=_ from zrz rfl)
@[simp] theorem yj5(a b:D)(r:List D)(σ:Sto):oIx (.lst (a::b::r)) (.int 1) σ=.ok b σ:=zwg (show atI _ ((1:Nat):Int)=_ from zrz rfl)
@[simp] theorem yj6(a b c:D)(r:List D)(σ:Sto):oIx (.lst (a::b::c::r)) (.int 2) σ=.ok c σ:=zwg (show atI _ ((2:Nat):Int)=_ from zrz rfl)
@[simp] theorem yj7(a b c d:D)(r:List D)(σ:Sto):oIx (.lst (a::b::c::d::r)) (.int 3) σ=.ok d σ:=zwg (show atI _ ((3:Nat):Int)=_ from zrz rfl)
@[simp] theorem yj8(a b c d e:D)(r:List D)(σ:Sto):oIx (.lst (a::b::c::d::e::r)) (.int 4) σ=.ok e σ:=zwg (show atI _ ((4:Nat):Int)=_ from zrz rfl)
theorem zga{nx:NX}{tg:D->Ev->Option Ev}{body:Ev->M Fl}{k i:Nat}{ρ ρ1:Ev}{σ:Sto}{d:D}(h:nx i σ=some (some d))(ht:tg d ρ=some ρ1):ykv nx tg body (k+1) i ρ σ=(body ρ1 σ).bind (ykt (ykv nx tg body k (i+1))):=by
 rw[ykv];simp only[h,ht];rfl
theorem zjj{nx:NX}{tg:D->Ev->Option Ev}{body:Ev->M Fl}{k i:Nat}{ρ:Ev}{σ:Sto}(h:nx i σ=some none):ykv nx tg body (k+1) i ρ σ=.ok (.nx ρ) σ:=by
 rw[ykv];simp only[h]
@[simp] theorem zzk(f:Ev->M D)(ρ:Ev)(σ:Sto):ysm f ρ σ=(f ρ σ).bind yi6:=nr rfl
@[simp] theorem zqc(src:Ev->M NX)(tg:D->Ev->Option Ev)(body:Ev->M Fl)(ρ:Ev)(σ:Sto):ymp src tg body ρ σ=xsO ρ (yjp tg body ρ) (src ρ σ):=yn3 ..
@[simp] theorem zgz(c:Nat)(f:Ev->M D)(ρ:Ev)(σ:Sto):zx9 c f ρ σ=xsO ρ (zxx c ρ) (f ρ σ):=yn3 ..
section
variable{σ:Sto}{x:D}{xs:List D}
theorem zl5(h:yqt σ x=some xs):yi6 x σ=.ok (nxE x) σ:=by unfold yi6;rw[h]
theorem yeu{i:Nat}{d:D}(h:yqt σ x=some xs)(hi:xs[i]?=some d):nxE x i σ=some (some (.tup [.int i,d])):=by unfold nxE;rw[h];simp only[hi]
theorem zv7(h:yqt σ x=some xs):nxE x xs.length σ=some none:=by unfold nxE;rw[h];simp
end
structure Ths(n:Nat)(F:Nat->D)(g:Nat->Bool):Prop where
 le:n<=4
 th:∀ i,i<n->Th (F i) (g i)
def thL(n:Nat)(F:Nat->D):List D:=(List.range n).map F
theorem yg7{n i:Nat}(F:Nat->D)(h:i<n):(thL n F)[i]?=some (F i):=by simp[thL,h]
theorem zzu(n:Nat)(F:Nat->D):(thL n F).length=n:=by simp[thL]
theorem Ths.cl{n:Nat}{F:Nat->D}{g:Nat->Bool}(h:Ths n F g):clL (thL n F)=true:=zsa fun d hd=>by
 obtain⟨i,hi,rfl⟩:=List.mem_map.mp hd;exact(h.th i (List.mem_range.mp hi)).cl
def bdI(g:Nat->Bool)(i:Nat):Bool:=decide (2<i) || !g i
def fb(g:Nat->Bool):Nat->Nat->Option Nat
 |0,_=>none
 |k+1,i=>if bdI g i=true then some i else fb g k (i+1)
theorem zr9{n:Nat}{F:Nat->D}{g:Nat->Bool}(T:Ths n F g){σ:Sto}{x:D}(hx:yqt σ x=some (thL n F)):∀ (k i f:Nat) (x1 x2:Option D),i+k=n->f=1001 - i->∃ y1 y2,
  ykv (nxE x) (tgT 2 (yg6 (tgN 1) (yg6 (tgN 2) ynm))) ckB f i [some x,x1,x2] σ=.ok (match fb g k i with|none=>.nx [some x,y1,y2]|some j=>.xc [some x,y1,y2] ⟨3+100 * (j+1)⟩) σ:=by
 intro k;induction k with
 |zero=>
  intro i f x1 x2 hik hf;obtain rfl:i=n:=by omega
  have:=T.le;obtain⟨f',rfl⟩:∃ f',f=f'+1:=⟨f - 1,by omega⟩
  have e:=zv7 hx;rw[zzu]at e;exact⟨x1,x2,zjj e⟩
 |succ k ih=>
  intro i f x1 x2 hik hf;have hi:i<n:=by omega
  have h4:=T.le;obtain⟨f',rfl⟩:∃ f',f=f'+1:=⟨f - 1,by omega⟩
  have th:=T.th i hi;have mk:=fun σ=>th.makes σ;have st:ckB [some x,some (.int i),some (F i)] σ=.ok (if bdI g i=true then .xc [some x,some (.int i),some (F i)] ⟨3+100 * (i+1)⟩else .nx [some x,some (.int i),some (F i)]) σ:=by
   have rp:zxx 3 [some x,some (.int i),some (F i)] (.int i) σ=.ok (.xc [some x,some (.int i),some (F i)] ⟨3+100 * (i+1)⟩) σ:=zgt (by omega);have b:decide ((2:Int)<(i:Int))=decide (2<i):=by rw[Bool.eq_iff_iff];simp;omega
   unfold ckB bdI;generalize F i=Fi at *;generalize g i=gi at *;cases b2:decide (2<i)
   ·rw[b2]at b;cases gi
    ·simp[mk,b,rp]
    ·simp[mk,b]
   ·rw[b2]at b;simp[b,rp]
  have nx:=yeu hx (yg7 F hi);unfold fb;rw[zga nx (ρ1:=[some x,some (.int i),some (F i)]) (nr rfl),st,zr5];cases hb:bdI g i with
  |true=>exact⟨some (.int i),some (F i),by simp⟩
  |false=>
   obtain⟨z1,z2,e2⟩:=ih (i+1) f' (some (.int i)) (some (F i)) (by omega) (by omega);refine⟨z1,z2,?_⟩;simp only[Bool.false_eq_true,if_false,zog];exact e2
theorem zm8{xs:List D}{x:D}{σ:Sto}(hx:ymy σ x=some xs)(h:clL xs=true):yp9 σ (ylr [x] σ)=.ok (.lst xs) σ:=by
 have e:ylr [x] σ=.ok (.ref σ.length) (σ++[.lst xs]):=by unfold ylr;simp only[hx];rfl
 rw[e];have:=znc (σ:=σ) (j:=[]) (j':=[]) h;simpa using this
theorem zfn{n:Nat}{F:Nat->D}{g:Nat->Bool}(T:Ths n F g){σ:Sto}{x:D}(hx:yqt σ x=some (thL n F))(hs:ymy σ x=some (thL n F)):f_checked_pots [x] σ=match fb g n 0 with|none=>.ok (.lst (thL n F)) σ|some j=>.ex ⟨3+100 * (j+1)⟩ σ:=by
 obtain⟨y1,y2,e⟩:=zr9 T hx n 0 1001 none none (by omega) (by omega);have ek:=zl5 hx;have fk:∀ (tg:D->Ev->Option Ev) (body:Ev->M Fl) (ρ:Ev) (nx:NX),yjp tg body ρ nx=ykv nx tg body 1001 0 ρ:=fun _ _ _ _=>rfl;have fl:=zm8 hs T.cl;have hc:cl (.lst (thL n F))=true:=by rw[ya2];exact T.cl
 unfold f_checked_pots zb7;generalize D.lst (thL n F)=PL at *;cases hb:fb g n 0 with
 |none=>rw[hb]at e;simp[ek,fk,e,fl,hc,-ygj]
 |some j=>rw[hb]at e;simp[ek,fk,e,-ygj]
def Pt.w(p:Pt):Int:=p.u+p.v
def hdD(p:Pt):D:=.obj 6 ["whole"] [.int p.w]
def yrl(n:Nat)(P:Nat->Pt):D:=.lst (thL n fun i=>(P i).D)
def hdL(n:Nat)(P:Nat->Pt):D:=.lst ((List.range n).map fun i=>hdD (P i))
def shL(n:Nat):D:=.lst ((List.range n).map fun _=>D.dic [] [])
def bkD(n:Nat)(P:Nat->Pt):D:=.obj 7 ["pots", "day", "claims", "shown"] [yrl n P,.int 0,hdL n P,shL n]
@[simp] theorem zsj(n:Nat)(P:Nat->Pt):cl (yrl n P)=true:=by
 unfold yrl;rw[ya2];exact zsa fun d hd=>by
  obtain⟨i,_,rfl⟩:=List.mem_map.mp hd;simp[Pt.D]
@[simp] theorem yaz(n:Nat)(P:Nat->Pt):cl (hdL n P)=true:=by
 unfold hdL;rw[ya2];exact zsa fun d hd=>by
  obtain⟨i,_,rfl⟩:=List.mem_map.mp hd;simp[hdD]
theorem zsf:cl (.dic [] [])=true:=by simp[cl]
@[simp] theorem ya6(n:Nat):cl (shL n)=true:=by
 unfold shL;rw[ya2];exact zsa fun d hd=>by
  obtain⟨i,_,rfl⟩:=List.mem_map.mp hd;exact zsf
theorem zrl(p:Pt)(σ:Sto):f_whole_of [p.D] σ=.ok (.int p.w) σ:=by
 unfold f_whole_of zf3 Pt.D Pt.w;simp
theorem zfo(y:D)(σ:Sto):zi13 [.ref σ.length,y] (σ++[.ins 6 []])=.ok .non (σ++[.ins 6 [("whole",y)]]):=by
 have p:∀ ρ,yma ρ [5,6] "whole" y (.ref σ.length) (σ++[.ins 6 []])=.ok (.nx ρ) (σ++[.ins 6 [("whole",y)]]):=fun ρ=>zj5 rfl (by decide);unfold zi13 zax;simp[p]
theorem zjm(w:Int)(σ:Sto):yp9 σ (yk1 6 2 zi13 [.int w] σ)=.ok (.obj 6 ["whole"] [.int w]) σ:=by
 rw[zvp,zfo,zoy,znb (by simp)];rfl
section
variable{σ:Sto}{fs:List (Str × D)}
theorem ztq{f:Str}{d:D}(h:fs.lookup f=some d):yq5 [7,11] f (.ref σ.length) (σ++[.ins 7 fs])=.ok d (σ++[.ins 7 fs]):=zwd (c:=7) (by unfold yj3;simp) rfl h
theorem zuq(n:Nat)(P:Nat->Pt)(hn:n<=4)(x:D)(h:fs.lookup ("pots" : Str)=some (yrl n P)) :
  ypv (ypw (toN (yso (eUn (yq5 [7,11] "pots") (yp2 0)))) [] (tgN 0) yii (ypv (yi1 6 2 zi13 (yie (eFn 1 f_whole_of [] (yie (yp2 0) yo2)) yo2)))) [some (.ref σ.length),some x] (σ++[.ins 7 fs])=.ok (hdL n P) (σ++[.ins 7 fs]):=by
 have fl:=ztq (σ:=σ) h;have:=zvh (s:=.seq (thL n fun i=>(P i).D)) (ix:=[]) (ρ:=[some (.ref σ.length),some x]) (σ:=σ++[.ins 7 fs]) (src:=yso (eUn (yq5 [7,11] "pots") (yp2 0))) (fe:=ypv (yi1 6 2 zi13 (yie (eFn 1 f_whole_of [] (yie (yp2 0) yo2)) yo2))) (ds:=thL n fun i=>(P i).D)
  (fun d=>match d with | .tup [_,_,.int u,.int v,_]=>.obj 6 ["whole"] [.int (u+v)]|_=>.non) (by rw[zzn,ybn,ybo,zr5,fl,zr5];rfl) (fun _ _=>rfl) (by rw[zzu];omega) (fun d hd j=>by
   obtain⟨i,_,rfl⟩:=List.mem_map.mp hd;have w:=fun σ=>zrl (P i) σ;have mk:=fun σ=>zjm (P i).w σ;show _=Out.ok (D.obj 6 ["whole"] [.int (P i).w]) _;generalize (σ++[Ob.ins 7 fs]++j:Sto)=σ;generalize (P i).D=PD at *;generalize (P i).w=W at *;generalize D.obj 6 ["whole"] [.int W]=O at *;simp[w,mk,-zvp]) (fun d hd=>by obtain⟨i,_,rfl⟩:=List.mem_map.mp hd;simp[Pt.D])
 rw[this];unfold hdL thL;rw[List.map_map];rfl
theorem zqu(n:Nat)(P:Nat->Pt)(hn:n<=4)(x:D)(h:fs.lookup ("pots" : Str)=some (yrl n P)) :
  ypv (ypw (toN (yso (eUn (yq5 [7,11] "pots") (yp2 0)))) [] (tgN 0) yii (eC (.dic [] []))) [some (.ref σ.length),some x] (σ++[.ins 7 fs])=.ok (shL n) (σ++[.ins 7 fs]):=by
 have fl:=ztq (σ:=σ) h;have:=zvh (s:=.seq (thL n fun i=>(P i).D)) (ix:=[]) (ρ:=[some (.ref σ.length),some x]) (σ:=σ++[.ins 7 fs]) (src:=yso (eUn (yq5 [7,11] "pots") (yp2 0))) (fe:=eC (.dic [] [])) (ds:=thL n fun i=>(P i).D)
  (fun d=>.dic [] []) (by rw[zzn,ybn,ybo,zr5,fl,zr5];rfl) (fun _ _=>rfl) (by rw[zzu];omega) (fun d hd j=>yix ..) (fun d hd=>zsf)
 rw[this];unfold shL thL;rw[List.map_map];rfl
theorem zox(n:Nat)(x:Xn)(σ:Sto):yli n (.ex x σ)=.ex x σ:=nr rfl
theorem zna(x:Xn)(a:Ob)(σ:Sto):yp9 σ (.ex x (σ++[a]))=.ex x σ:=by unfold yp9;dsimp only;rw[if_pos (by simp)]
theorem zvt{n:Nat}{F:Nat->D}{g:Nat->Bool}(T:Ths n F g){σ:Sto}{x:D}(hx:yqt (σ++[.ins 7 []]) x=some (thL n F))(hs:ymy (σ++[.ins 7 []]) x=some (thL n F))(P:Nat->Pt)(hP:fb g n 0=none->thL n F=thL n fun i=>(P i).D) :
  yp9 σ (yk1 7 2 zi15 [x] σ)=match fb g n 0 with|none=>.ok (bkD n P) σ|some j=>.ex ⟨3+100 * (j+1)⟩ σ:=by
 have ck:=zfn T hx hs;rw[zvp];cases hb:fb g n 0 with
 |some j=>
  rw[hb]at ck;have e:zi15 [.ref σ.length,x] (σ++[.ins 7 []])=.ex ⟨3+100 * (j+1)⟩ (σ++[.ins 7 []]):=by
   unfold zi15 zbg;simp[ck,-ygj]
  rw[e,zox,zna]
 |none=>
  rw[hb]at ck;rw[hP hb]at ck;have ck':f_checked_pots [x] (σ++[.ins 7 []])=.ok (yrl n P) (σ++[.ins 7 []]):=ck;have p1:∀ ρ d,yma ρ [7,11] "pots" d (.ref σ.length) (σ++[.ins 7 []])=.ok (.nx ρ) (σ++[.ins 7 [("pots",d)]]):=fun ρ d=>zj5 rfl (by decide);have p2:∀ ρ d d0,yma ρ [7] "day" d (.ref σ.length) (σ++[.ins 7 [("pots",d0)]])=.ok (.nx ρ) (σ++[.ins 7 [("pots",d0),("day",d)]]):=fun ρ d d0=>zj5 rfl (by simp);have p3:∀ ρ d d0 d1,yma ρ [7,10] "claims" d (.ref σ.length) (σ++[.ins 7 [("pots",d0),("day",d1)]])=.ok (.nx ρ) (σ++[.ins 7 [("pots",d0),("day",d1),("claims",d)]]):=fun ρ d d0 d1=>zj5 rfl (by simp);have p4:∀ ρ d d0 d1 d2,yma ρ [7] "shown" d (.ref σ.length) (σ++[.ins 7 [("pots",d0),("day",d1),("claims",d2)]])=.ok (.nx ρ) (σ++[.ins 7 [("pots",d0),("day",d1),("claims",d2),("shown",d)]]):=fun ρ d d0 d1 d2=>zj5 rfl (by simp);have h1:=zuq (σ:=σ) (fs:=[("pots",yrl n P),("day",.int 0)]) n P T.le x rfl;have h2:=zqu (σ:=σ) (fs:=[("pots",yrl n P),("day",.int 0),("claims",hdL n P)]) n P T.le x rfl;have e:zi15 [.ref σ.length,x] (σ++[.ins 7 []])=.ok .non (σ++[.ins 7 [("pots",yrl n P),("day",.int 0),("claims",hdL n P),("shown",shL n)]]):=by
   unfold zi15 zbg;generalize yrl n P=PL at *;generalize hdL n P=HL at *;generalize shL n=SL at *;simp[ck',p1,p2,p3,p4,h1,h2,-zsv,-ygj]
  rw[e,zoy,znb (by simp)];rfl
end
theorem zm9{xs:List D}(h:clL xs=true)(σ:Sto):yp9 σ (ylr [.lst xs] σ)=.ok (.lst xs) σ:=zm8 (x:=.lst xs) (zkl xs) h
def st0(u v:Int):D:=.tup [.int 0,.tup [.int u,.int v],.tup []]
theorem yd7(fe:Ev->M D)(σ:Sto):ypv (ypw (toN (yso (yp2 0))) [] (tgN 0) yii fe) [some (.tup [])] σ=.ok (.lst []) σ:=
 zvh (s:=.seq []) (ix:=[]) (ds:=[]) (fun d=>d) (by simp) (fun _ _=>rfl) (by simp) (fun d hd=>nomatch hd) (fun d hd=>nomatch hd)
theorem yno(σ:Sto):f_are_ties [.tup []] σ=.ok (.bl true) σ:=by
 have l1:=fun fe σ=>yd7 fe σ;have s0:∀ σ:Sto,zwj (.lst []) σ=.ok (.int 0) σ:=fun σ=>zdm (σ:=σ) (l:=[]) (by simp);have a0:∀ σ:Sto,yq3 [.lst []] σ=.ok (.bl true) σ:=fun σ=>nr rfl;unfold f_are_ties zf0;simp[l1,s0,a0,-zsv]
theorem zmx{u v:Int}(hu:0<=u/\u<=1000000000000)(hv:0<=v/\v<=1000000000000)(σ:Sto):f_first [.int u,.int v] σ=.ok (st0 u v) σ:=by
 have b1:∀ σ,f_is_number [.int 0] σ=.ok (.bl true) σ:=fun σ=>by
  have w:=fun σ=>yap (d:=.int 0) rfl 0 1000000 σ;have e:bd (.int 0) 0 1000000=true:=by simp[bd]
  rw[e]at w;unfold f_is_number zek;simp[w]
 have b2:∀ σ,f_are_shares [.tup [.int u,.int v]] σ=.ok (.bl true) σ:=fun σ=>by
  have w:=fun σ=>yap (d:=.int u) rfl 0 2000000000000 σ;have w2:=fun σ=>yap (d:=.int v) rfl 0 2000000000000 σ;have e:bd (.int u) 0 2000000000000=true:=by simp[bd];omega
  have e2:bd (.int v) 0 2000000000000=true:=by simp[bd];omega
  rw[e]at w;rw[e2]at w2;unfold f_are_shares zdi;simp[w,w2]
 have b3:∀ σ,f_is_stand [st0 u v] σ=.ok (.bl true) σ:=fun σ=>by
  have t:=fun σ=>yno σ;unfold st0 f_is_stand zf1;simp[b1,b2,t]
 have b4:∀ σ,f_stand [.int 0,.tup [.int u,.int v],.non] σ=.ok (st0 u v) σ:=fun σ=>by
  unfold st0 at b3 ⊢;unfold f_stand zui;simp[b3]
 have hc:cl (st0 u v)=true:=by unfold st0;simp
 unfold f_first zuh;generalize st0 u v=S at *;simp[b4,hc]
theorem zvr(c:Nat)(fn:List D->M D)(a b d e f g:D)(σ:Sto):yk1 c 7 fn [a,b,d,e,f,g] σ=yli σ.length (fn [.ref σ.length,a,b,d,e,f,g] (σ++[.ins c []])):=zok rfl
def yo4(p s u v:Int):D:=.obj 9 ["pot", "side", "mine", "grant", "may", "strikes"] [.int p,.int s,st0 u v,.non,.lst [st0 u v],.lst []]
theorem zk8(p s m:D)(y:List D)(hy:clL y=true)(σ:Sto):zi10 [.ref σ.length,p,s,m,.non,.lst y,.lst []] (σ++[.ins 9 []])=.ok .non (σ++[.ins 9 [("pot",p),("side",s),("mine",m),("grant",.non),("may",.lst y),("strikes",.lst [])]]):=by
 have e:=fun(f:Str) (v:D) (fs:List (Str × D)) (hl:fs.length<1000)=>zj5 (ρ:=[some (.ref σ.length),some p,some s,some m,some .non,some (.lst y),some (.lst [])]) (σ:=σ) (cs:=[8,9]) (f:=f) (d:=v) (c:=9) (fs:=fs) rfl hl;have p0:yrm "pot" p []=([("pot",p)]:List (Str × D)):=rfl;have p1:yrm "side" s [("pot",p)]=([("pot",p),("side",s)]:List (Str × D)):=rfl;have p2:yrm "mine" m [("pot",p),("side",s)]=([("pot",p),("side",s),("mine",m)]:List (Str × D)):=rfl;have p3:yrm "grant" .non [("pot",p),("side",s),("mine",m)]=([("pot",p),("side",s),("mine",m),("grant",.non)]:List (Str × D)):=rfl;have p4:yrm "may" (.lst y) [("pot",p),("side",s),("mine",m),("grant",.non)]=([("pot",p),("side",s),("mine",m),("grant",.non),("may",.lst y)]:List (Str × D)):=rfl;have p5:yrm "strikes" (.lst []) [("pot",p),("side",s),("mine",m),("grant",.non),("may",.lst y)]=([("pot",p),("side",s),("mine",m),("grant",.non),("may",.lst y),("strikes",.lst [])]:List (Str × D)):=rfl;have fy:=fun σ=>zm9 hy σ;have fz:=fun σ=>zm9 (xs:=[]) rfl σ;unfold zi10 zae;simp[e,p0,p1,p2,p3,p4,p5,fy,fz]
theorem yah{u v:Int}(hu:0<=u/\u<=1000000000000)(hv:0<=v/\v<=1000000000000)(p s:Int)(σ:Sto):f_first_account [.int p,.int s,.int u,.int v] σ=.ok (yo4 p s u v) σ:=by
 have f1:=fun σ=>zmx hu hv σ;have hc:cl (st0 u v)=true:=by unfold st0;simp
 have hm:∀ σ,yp9 σ (yk1 9 7 zi10 [.int p,.int s,st0 u v,.non,.lst [st0 u v],.lst []] σ)=.ok (yo4 p s u v) σ:=fun σ=>by
  rw[zvr,zk8 _ _ _ _ (by simp[hc]),zoy,znb (by simp[hc])];rfl
 have hA:cl (yo4 p s u v)=true:=by unfold yo4;simp[cl,hc]
 unfold f_first_account zbj;generalize yo4 p s u v=A at *;generalize st0 u v=S at *;simp[f1,hm,hA]
theorem zrq(p s u v:Int)(σ:Sto):yq5 [8,9] "pot" (yo4 p s u v) σ=.ok (.int p) σ:=zwd (zi2 rfl) rfl rfl
theorem yax(p s u v:Int):cl (yo4 p s u v)=true:=by unfold yo4 st0;simp[cl]
theorem pi0(p:Pt)(σ:Sto):oIx p.D (.int 0) σ=.ok (.int p.l) σ:=by unfold Pt.D;simp
theorem pi1(p:Pt)(σ:Sto):oIx p.D (.int 1) σ=.ok (.int p.r) σ:=by unfold Pt.D;simp
theorem pi2(p:Pt)(σ:Sto):oIx p.D (.int 2) σ=.ok (.int p.u) σ:=by unfold Pt.D;simp
theorem pi3(p:Pt)(σ:Sto):oIx p.D (.int 3) σ=.ok (.int p.v) σ:=by unfold Pt.D;simp
theorem pi4(p:Pt)(σ:Sto):oIx p.D (.int 4) σ=.ok (.int p.t) σ:=yki ..
def ypa(h e:Int)(p:Pt):Bool:=([p.l,p.r].any (·== h)) && decide (p.t<e+1)
theorem zzi(h e:Int)(p:Pt)(PL:Option D)(σ:Sto):spC [some (.int h),some (.int e),PL,some p.D] σ=.ok (if ypa h e p=true then .xc [some (.int h),some (.int e),PL,some p.D] ⟨4⟩else .nx [some (.int h),some (.int e),PL,some p.D]) σ:=by
 have s:ysk p.D none (some 2) σ=.ok (.tup ([p.l,p.r].map D.int)) σ:=by unfold Pt.D;rw[zqv];rfl
 have i:=zo1 (σ:=σ) (neg:=false) (w:=h) (x:=.tup ([p.l,p.r].map D.int)) (ws:=[p.l,p.r]) rfl;have i4:=pi4 p σ;unfold spC ypa;generalize [p.l,p.r].map D.int=LR at *;generalize p.D=PD at *;generalize [p.l,p.r].any (·== h)=b1 at *;cases b1
 ·simp[s,i]
 ·cases b2:decide (p.t<e+1)
  ·simp[s,i,i4,b2]
  ·simp[s,i,i4,b2]
theorem zzf(h e:Int)(PL:Option D)(σ:Sto):∀ (ps:List Pt) (x3:Option D),∃ y3,yqs (tgN 3) spC (ps.map Pt.D) [some (.int h),some (.int e),PL,x3] σ=.ok (if ps.any (ypa h e)=true then .xc [some (.int h),some (.int e),PL,y3] ⟨4⟩else .nx [some (.int h),some (.int e),PL,y3]) σ
 |[],x3=>⟨x3,by simp⟩
 |p::ps,x3=>by
  have st:=zzi h e p PL σ;obtain⟨y3,r⟩:=zzf h e PL σ ps (some p.D);rw[List.map_cons,zoj];simp only[List.set_cons_succ,List.set_cons_zero];rw[st,zr5,List.any_cons];cases b:ypa h e p
  ·refine⟨y3,?_⟩;simp only[Bool.false_eq_true,if_false,zog,Bool.false_or];exact r
  ·exact⟨some p.D,by simp⟩
def spB(h e:Int)(n:Nat)(P:Nat->Pt):Bool:=bd (.int e) 1 50 && !((List.range n).map P).any (ypa h e)
theorem zxg(n:Nat)(P:Nat->Pt):yrl n P=.lst (((List.range n).map P).map Pt.D):=by unfold yrl thL;rw[List.map_map];rfl
theorem zzj(h e:Int)(n:Nat)(P:Nat->Pt)(σ:Sto):f_check_span [.int h,.int e,yrl n P] σ=if spB h e n P=true then .ok .non σ else .ex ⟨4⟩ σ:=by
 have b:=fun σ=>yap (d:=.int e) rfl 1 50 σ;obtain⟨y3,l⟩:=zzf h e (some (yrl n P)) σ ((List.range n).map P) none;have sq:ymx (yrl n P) σ=.ok (.seq (((List.range n).map P).map Pt.D)) σ:=by rw[zxg];exact zki _
 unfold f_check_span zdj spB;generalize yrl n P=PL at *;generalize ((List.range n).map P).map Pt.D=ds at *;generalize ((List.range n).map P).any (ypa h e)=bb at *;generalize bd (.int e) 1 50=b1 at *;cases b1
 ·simp[b]
 ·cases bb
  ·simp only[Bool.false_eq_true,if_false]at l;rw[zur,ycq,ygi];show yp9 σ (yr5 (ysc _ _ [some (.int h),some (.int e),some PL,none] σ))=_;rw[zyb];simp only[ygj,zr3,yi4,ybh,zk7,ybp,ybo,zr5,zhk,yix,zrp,zlt,yjm,b,yhb,zv6,Bool.not_true,yhx,yj1,zx7,zyi];simp[-ygj,sq,l]
  ·simp only[if_true]at l;rw[zur,ycq,ygi];show yp9 σ (yr5 (ysc _ _ [some (.int h),some (.int e),some PL,none] σ))=_;rw[zyb];simp only[ygj,zr3,yi4,ybh,zk7,ybp,ybo,zr5,zhk,yix,zrp,zlt,yjm,b,yhb,zv6,Bool.not_true,yhx,yj1,zx7,zyi];simp[-ygj,sq,l]
theorem zyt(τ l:Sto)(k:Nat)(o:Ob):(τ++l).set (τ.length+k) o=τ++l.set k o:=by rw[List.set_append_right _ _ (by omega)];simp
theorem zuj(τ l:Sto)(k:Nat):(τ++l)[τ.length+k]?=l[k]?:=by rw[List.getElem?_append_right (by omega)];simp
theorem zj6{ρ:Ev}{τ r:Sto}{cs:List Nat}{f:Str}{d:D}{c:Nat}{fs:List (Str × D)}(h:cs.contains c=true)(hl:fs.length<1000):yma ρ cs f d (.ref τ.length) (τ++.ins c fs::r)=.ok (.nx ρ) (τ++.ins c (yrm f d fs)::r):=by
 have e:yre cs f d (.ref τ.length) (τ++.ins c fs::r)=.ok () (τ++.ins c (yrm f d fs)::r):=by
  have:(τ++Ob.ins c fs::r)[τ.length]?=some (.ins c fs):=by simp
  unfold yre;simp only[this];rw[if_pos (by rw[h];simpa using hl)];simp
 unfold yma;rw[e]
theorem zi1{τ r:Sto}{c:Nat}{fs:List (Str × D)}:yj3 (τ++.ins c fs::r) (.ref τ.length)=some (c,fs):=by
 unfold yj3;simp
theorem zql{ρ:Ev}{σ:Sto}{d:D}{n:Nat}{w:Int}{kvs:List (Key × D)}(h:σ[n]?=some (.dic kvs))(hl:kvs.length<1000):ym1 ρ d (.ref n) (.int w) σ=.ok (.nx ρ) (σ.set n (.dic (yl8 kvs (.inl w) d))):=by
 unfold ym1;simp only[yqo,h];rw[if_pos (show kvs.length<cap from hl)]
@[simp] theorem zqd(f fo fi:Ev->M D)(ρ:Ev)(σ:Sto):ymq f fo fi ρ σ=xsO ρ (ymz ρ fo fi) (f ρ σ):=yn3 ..
@[simp] theorem zqj(fo fi:Ev->M D)(d:D)(ρ:Ev)(σ:Sto):ymz ρ fo fi d σ=xsO ρ (ym0 ρ fi d) (fo ρ σ):=yn3 ..
@[simp] theorem zqk(fi:Ev->M D)(d x:D)(ρ:Ev)(σ:Sto):ym0 ρ fi d x σ=xsO ρ (ym1 ρ d x) (fi ρ σ):=yn3 ..
@[simp] theorem zl0(ρ:Ev)(σ:Sto):yi0 ρ σ=.ok (.ref σ.length) (σ++[.dic []]):=nr rfl
abbrev Kv:=List (Key × D)
def kfs(n:Nat)(h e:Int):List (Str × D):=[("hand",.int h),("every",.int e),("last_look",.int 0),("gave",.int 0),("known",.ref (n+1)),("accounts",.ref (n+2)),("claims",.ref (n+3)),("seen",.ref (n+4)),("asked",.ref (n+5)),("finishing",.ref (n+6))]
def kpS(τ:Sto)(h e:Int)(K A C S:Kv):Sto:=τ++.ins 10 (kfs τ.length h e)::[.dic K,.dic A,.dic C,.dic S,.dic [],.dic []]
section
variable(τ:Sto)(h e:Int)(K A C S:Kv)
theorem yd0:yj3 (kpS τ h e K A C S) (.ref τ.length)=some (10,kfs τ.length h e):=zi1
theorem zn8:yq5 [10] "known" (.ref τ.length) (kpS τ h e K A C S)=.ok (.ref (τ.length+1)) (kpS τ h e K A C S):=zwd (yd0 ..) rfl rfl
theorem ydy:yq5 [10] "accounts" (.ref τ.length) (kpS τ h e K A C S)=.ok (.ref (τ.length+2)) (kpS τ h e K A C S):=zwd (yd0 ..) rfl rfl
theorem ydz:yq5 [7,10] "claims" (.ref τ.length) (kpS τ h e K A C S)=.ok (.ref (τ.length+3)) (kpS τ h e K A C S):=zwd (yd0 ..) rfl rfl
theorem zvd:yq5 [10] "seen" (.ref τ.length) (kpS τ h e K A C S)=.ok (.ref (τ.length+4)) (kpS τ h e K A C S):=zwd (yd0 ..) rfl rfl
variable{K A C S}
theorem ykp(ρ:Ev)(w:Int)(d:D)(hl:K.length<1000):ym1 ρ d (.ref (τ.length+1)) (.int w) (kpS τ h e K A C S)=.ok (.nx ρ) (kpS τ h e (yl8 K (.inl w) d) A C S):=by
 rw[zql (kvs:=K) (by unfold kpS;rw[zuj];rfl) hl];unfold kpS;rw[zyt];rfl
theorem ykn(ρ:Ev)(w:Int)(d:D)(hl:A.length<1000):ym1 ρ d (.ref (τ.length+2)) (.int w) (kpS τ h e K A C S)=.ok (.nx ρ) (kpS τ h e K (yl8 A (.inl w) d) C S):=by
 rw[zql (kvs:=A) (by unfold kpS;rw[zuj];rfl) hl];unfold kpS;rw[zyt];rfl
theorem yko(ρ:Ev)(w:Int)(d:D)(hl:C.length<1000):ym1 ρ d (.ref (τ.length+3)) (.int w) (kpS τ h e K A C S)=.ok (.nx ρ) (kpS τ h e K A (yl8 C (.inl w) d) S):=by
 rw[zql (kvs:=C) (by unfold kpS;rw[zuj];rfl) hl];unfold kpS;rw[zyt];rfl
theorem ykq(ρ:Ev)(w:Int)(d:D)(hl:S.length<1000):ym1 ρ d (.ref (τ.length+4)) (.int w) (kpS τ h e K A C S)=.ok (.nx ρ) (kpS τ h e K A C (yl8 S (.inl w) d)):=by
 rw[zql (kvs:=S) (by unfold kpS;rw[zuj];rfl) hl];unfold kpS;rw[zyt];rfl
end
structure Small(k:Nat)(l:Kv):Prop where
 le:l.length<=k
 cl:clL (l.map (·.2))=true
theorem zj4(l:Kv)(k:Key)(d:D):(yl8 l k d).length<=l.length+1:=by
 unfold yl8;split<;>simp
theorem Small.put{k:Nat}{l:Kv}(s:Small k l)(q:Key){d:D}(hd:L4.cl d=true):Small (k+1) (yl8 l q d) where
 le:=Nat.le_trans (zj4 l q d) (by have:=s.le;omega)
 cl:=by
  have hc:=s.cl;unfold yl8;split
  ·rw[List.map_map];refine zsa fun x hx=>?_;obtain⟨p,hp,rfl⟩:=List.mem_map.mp hx;show L4.cl (if p.1=q then (p.1,d)else p).2=true;split
   ·exact hd
   ·exact zsd hc _ (List.mem_map_of_mem hp)
  ·rw[List.map_append,zsb,hc];simp[hd]
theorem Small.nil:Small 0 []:=⟨by simp,by simp⟩
theorem Small.mono{j k:Nat}{l:Kv}(s:Small j l)(h:j<=k):Small k l:=⟨Nat.le_trans s.le h,s.cl⟩
def lrn(K:Kv)(ws:List Int):Kv:=ws.foldl (fun K w=>yl8 K (.inl w) (.bl true)) K
theorem zvk(τ:Sto)(h e:Int)(A C S:Kv)(W:Option D):∀ (ws:List Int) (K:Kv) (x2:Option D),K.length+ws.length<1000->∃ y2,yqs (tgN 2) lnB (ws.map D.int) [some (.ref τ.length),W,x2] (kpS τ h e K A C S)=.ok (.nx [some (.ref τ.length),W,y2]) (kpS τ h e (lrn K ws) A C S)
 |[],K,x2,_=>⟨x2,by simp[lrn]⟩
 |w::ws,K,x2,hl=>by
  rw[List.length_cons]at hl;have st:lnB [some (.ref τ.length),W,some (.int w)] (kpS τ h e K A C S)=.ok (.nx [some (.ref τ.length),W,some (.int w)]) (kpS τ h e (yl8 K (.inl w) (.bl true)) A C S):=by
   have k1:=zn8 τ h e K A C S;have k2:=fun ρ=>ykp (A:=A) (C:=C) (S:=S) τ h e ρ w (.bl true) (K:=K) (by omega);unfold lnB;simp[k1,k2]
  have pl:=zj4 K (.inl w) (.bl true);obtain⟨y2,r⟩:=zvk τ h e A C S W ws (yl8 K (.inl w) (.bl true)) (some (.int w)) (by omega);refine⟨y2,?_⟩;rw[List.map_cons,zoj];simp only[List.set_cons_succ,List.set_cons_zero];rw[st,zr5,zog,r];rfl
theorem zoc(τ:Sto)(h e:Int)(K A C S:Kv)(ws:List Int)(hl:K.length+ws.length<1000):f_Keeper_learn [.ref τ.length,.lst (ws.map D.int)] (kpS τ h e K A C S)=.ok .non (kpS τ h e (lrn K ws) A C S):=by
 obtain⟨y2,r⟩:=zvk τ h e A C S (some (.lst (ws.map D.int))) ws K none hl;have sq:=fun σ=>zki (σ:=σ) (ws.map D.int);unfold f_Keeper_learn zb4;generalize ws.map D.int=WS at *;generalize kpS τ h e K A C S=σ1 at *;generalize kpS τ h e (lrn K ws) A C S=σ2 at *;simp[r,-zqd]
theorem zuu(τ:Sto)(h e:Int)(K A C S:Kv)(p s u v:Int)(x:D)(hA:A.length<1000)(hC:C.length<1000)(hS:S.length<1000) :
  f_Keeper_hold [.ref τ.length,yo4 p s u v,x,.dic [] []] (kpS τ h e K A C S)=.ok .non (kpS τ h e K (yl8 A (.inl p) (yo4 p s u v)) (yl8 C (.inl p) x) (yl8 S (.inl p) (.dic [] []))):=by
 have ap:=fun σ=>zrq p s u v σ;have k1:=ydy τ h e K A C S;have k2:=fun ρ d=>ykn (K:=K) (C:=C) (S:=S) τ h e ρ p d hA;have k3:=fun A=>ydz τ h e K A C S;have k4:=fun ρ A d=>yko (K:=K) (A:=A) (S:=S) τ h e ρ p d hC;have k5:=fun A C=>zvd τ h e K A C S;have k6:=fun ρ A C d=>ykq (K:=K) (A:=A) (C:=C) τ h e ρ p d hS;unfold f_Keeper_hold zcr;generalize yo4 p s u v=AC at *;simp[ap,k1,k2,k3,k4,k5,k6]
@[simp] theorem zvy{σ:Sto}(fn:List D->M D)(x a b c:D):yk8 4 fn x [a,b,c] σ=fn [x,a,b,c] σ:=zos rfl
theorem zpw{cs:List Nat}{f:Str}{c:Nat}{fs:List (Str × D)}(hc:cs.contains c=true)(hl:Nat.ble (fs.length+1) 1000=true)(σ ds:Sto)(r:Ev):ysa cs f yi0 (yp2 0) (some (.ref σ.length)::r) (σ++.ins c fs::ds)=.ok (.nx (some (.ref σ.length)::r)) (σ++.ins c (yrm f (.ref (σ.length+1+ds.length)) fs)::(ds++[.dic []])):=by
 have e1:(σ++.ins c fs::ds)++[Ob.dic []]=σ++.ins c fs::(ds++[.dic []]):=by simp
 have e2:(σ++Ob.ins c fs::ds).length=σ.length+1+ds.length:=by simp;omega
 rw[zx8,zl0,yhx,zpv,ybo,yhx,e1,e2,zj6 hc (Nat.le_of_ble_eq_true hl)]
theorem zxq{cs:List Nat}{f:Str}{c:Nat}{fs:List (Str × D)}{fv:Ev->M D}{d:D}(hc:cs.contains c=true)(hl:Nat.ble (fs.length+1) 1000=true)(σ ds:Sto)(r:Ev)(hv:fv (some (.ref σ.length)::r) (σ++.ins c fs::ds)=.ok d (σ++.ins c fs::ds)):ysa cs f fv (yp2 0) (some (.ref σ.length)::r) (σ++.ins c fs::ds)=.ok (.nx (some (.ref σ.length)::r)) (σ++.ins c (yrm f d fs)::ds):=by
 rw[zx8,hv,yhx,zpv,ybo,yhx,zj6 hc (Nat.le_of_ble_eq_true hl)]
structure Sm3(k:Nat)(A C S:Kv):Prop where
 a:Small k A
 c:Small k C
 s:Small k S
theorem zsh:cl (.gt ["held"])=true:=by simp[cl]
theorem zyh(τ:Sto)(h e:Int)(K:Kv){A C S:Kv}{k:Nat}(s3:Sm3 k A C S)(hk:k<900)(x3 x4:Option D)(i:Int){p:Pt}(ok:p.Ok)(s z:Int)(hz:∀ σ,oIx p.D (.int s) σ=.ok (.int z) σ) :
  ∃ A' C' S',Sm3 (k+1) A' C' S'/\sdB [some (.ref τ.length),some (.int h),some (.int e),x3,x4,some (.int i),some p.D,some (.int s)] (kpS τ h e K A C S)=.ok (.nx [some (.ref τ.length),some (.int h),some (.int e),x3,x4,some (.int i),some p.D,some (.int s)]) (kpS τ h e K A' C' S'):=by
 have i2:=fun σ=>pi2 p σ;have i3:=fun σ=>pi3 p σ;have fa:=fun σ=>yah ok.u ok.v i s σ;have la:=s3.a.le;have lc:=s3.c.le;have ls:=s3.s.le;have ho:=zuu τ h e K A C S i s p.u p.v (.gt ["held"]) (by omega) (by omega) (by omega);have mt:∀ fs,yqz [(10,f_Keeper_hold)] 4 "hold" fs (.ref τ.length) (kpS τ h e K A C S)=(fs (kpS τ h e K A C S)).bind (yk8 4 f_Keeper_hold (.ref τ.length)):=fun fs=>zvz (yd0 ..) rfl rfl;unfold sdB;cases b:(z == h)
 ·refine⟨A,C,S,⟨s3.a.mono (by omega),s3.c.mono (by omega),s3.s.mono (by omega)⟩,?_⟩;generalize p.D=PD at *;generalize kpS τ h e K A C S=σ1 at *;simp[hz,b]
 ·refine⟨_,_,_,⟨s3.a.put (.inl i) (yax i s p.u p.v),s3.c.put (.inl i) zsh,s3.s.put (.inl i) zsf⟩,?_⟩;generalize kpS τ h e K (yl8 A (.inl i) (yo4 i s p.u p.v)) (yl8 C (.inl i) (.gt ["held"])) (yl8 S (.inl i) (.dic [] []))=σ2 at *;generalize yo4 i s p.u p.v=AC at *;generalize p.D=PD at *;generalize kpS τ h e K A C S=σ1 at *;simp[hz,b,mt,fa,i2,i3,ho]
theorem zxo(τ:Sto)(h e:Int)(K:Kv){A C S:Kv}{k:Nat}(s3:Sm3 k A C S)(hk:k<800)(x3 x4 x7:Option D)(i:Int){p:Pt}(ok:p.Ok) :
  ∃ A' C' S' y7,Sm3 (k+2) A' C' S'/\ptB [some (.ref τ.length),some (.int h),some (.int e),x3,x4,some (.int i),some p.D,x7] (kpS τ h e K A C S)=.ok (.nx [some (.ref τ.length),some (.int h),some (.int e),x3,x4,some (.int i),some p.D,y7]) (kpS τ h e K A' C' S'):=by
 obtain⟨A1,C1,S1,s1,e1⟩:=zyh τ h e K s3 (by omega) x3 x4 i ok 0 p.l (fun σ=>pi0 p σ);obtain⟨A2,C2,S2,s2,e2⟩:=zyh τ h e K s1 (by omega) x3 x4 i ok 1 p.r (fun σ=>pi1 p σ);refine⟨A2,C2,S2,some (.int 1),s2,?_⟩;unfold ptB;rw[zx6];simp only[zzn,zs1,zk7,yix,zr5,zhk,zrp,zlt,yhe,zkj,yhx,zm7];rw[zoj];simp only[List.set_cons_succ,List.set_cons_zero];rw[e1,zr5,zog,zoj];simp only[List.set_cons_succ,List.set_cons_zero];rw[e2,zr5,zog,zoi]
theorem zxn(τ:Sto)(h e:Int)(K:Kv)(n:Nat)(P:Nat->Pt)(hn:n<=4)(hP:∀ i,i<n->(P i).Ok)(x4:Option D):∀ (j i f:Nat) (A C S:Kv) (x5 x6 x7:Option D),i+j=n->f=1001 - i->Sm3 (2 * i) A C S->∃ A' C' S' y5 y6 y7,Sm3 (2 * n) A' C' S'/\
  ykv (nxE (yrl n P)) (tgT 2 (yg6 (tgN 5) (yg6 (tgN 6) ynm))) ptB f i [some (.ref τ.length),some (.int h),some (.int e),some (yrl n P),x4,x5,x6,x7] (kpS τ h e K A C S)=.ok (.nx [some (.ref τ.length),some (.int h),some (.int e),some (yrl n P),x4,y5,y6,y7]) (kpS τ h e K A' C' S'):=by
 have hx:∀ σ,yqt σ (yrl n P)=some (thL n fun i=>(P i).D):=fun σ=>rfl;intro j;induction j with
 |zero=>
  intro i f A C S x5 x6 x7 hij hf s3;obtain rfl:i=n:=by omega
  obtain⟨f',rfl⟩:∃ f',f=f'+1:=⟨f - 1,by omega⟩
  have e0:=zv7 (hx (kpS τ h e K A C S));rw[zzu]at e0;exact⟨A,C,S,x5,x6,x7,s3,zjj e0⟩
 |succ j ih=>
  intro i f A C S x5 x6 x7 hij hf s3;have hi:i<n:=by omega
  obtain⟨f',rfl⟩:∃ f',f=f'+1:=⟨f - 1,by omega⟩
  obtain⟨A1,C1,S1,y7,s1,e1⟩:=zxo τ h e K s3 (by omega) (some (yrl n P)) x4 x7 (i:Int) (hP i hi);obtain⟨A2,C2,S2,z5,z6,z7,s2,e2⟩:=ih (i+1) f' A1 C1 S1 (some (.int i)) (some (P i).D) y7 (by omega) (by omega) ⟨s1.a.mono (by omega),s1.c.mono (by omega),s1.s.mono (by omega)⟩;refine⟨A2,C2,S2,z5,z6,z7,s2,?_⟩;rw[zga (yeu (hx _) (yg7 _ hi)) (ρ1:=[some (.ref τ.length),some (.int h),some (.int e),some (yrl n P),x4,some (.int i),some (P i).D,x7]) (nr rfl),e1,zr5,zog,e2]
def kvD(l:Kv):D:=.dic (l.map (·.1)) (l.map (·.2))
structure IsKp(ws:List Int)(x:D):Prop where
 ex:∃ (h e:Int) (A C S:D),x=.obj 10 ["hand", "every", "last_look", "gave", "known", "accounts", "claims", "seen", "asked", "finishing"] [.int h,.int e,.int 0,.int 0,kvD (lrn [] ws),A,C,S,.dic [] [],.dic [] []]
 cl:L4.cl x=true
theorem yc4{k m:Nat}{σ:Sto}:∀ {ys:List D},clL ys=true->fzL (fz k σ m) ys=some ys
 |[],_=>rfl
 |y::ys,hc=>by
  have hc':cl y=true/\clL ys=true:=by simpa [clL,Bool.and_eq_true]using hc
  unfold fzL;rw[yjs hc'.1,yc4 hc'.2]
theorem yc5{k m n:Nat}{σ:Sto}{l:Kv}(hk:k<=n)(h:σ[n]?=some (.dic l))(hc:clL (l.map (·.2))=true):fz k σ (m+1) (.ref n)=some (kvD l):=by
 unfold fz;rw[if_neg (by simp)];dsimp only;rw[if_neg (by omega),h];dsimp only;rw[yc4 hc];rfl
theorem ya1{l:Kv}(hc:clL (l.map (·.2))=true):cl (kvD l)=true:=by unfold kvD;simpa [cl]using hc
theorem yed:∀ (ws:List Int) (K:Kv),clL (K.map (·.2))=true->clL ((lrn K ws).map (·.2))=true
 |[],K,h=>h
 |w::ws,K,h=>yed ws (yl8 K (.inl w) (.bl true)) ((Small.put (k:=K.length) ⟨Nat.le_refl _,h⟩ (.inl w) (by simp)).cl)
theorem ycs(τ:Sto)(h e:Int)(ws:List Int){A C S:Kv}{k:Nat}(s3:Sm3 k A C S):∃ x,IsKp ws x/\yp9 τ (.ok (.ref τ.length) (kpS τ h e (lrn [] ws) A C S))=.ok x τ:=by
 have hK:=yed ws [] rfl;have cx:L4.cl (.obj 10 ["hand", "every", "last_look", "gave", "known", "accounts", "claims", "seen", "asked", "finishing"] [.int h,.int e,.int 0,.int 0,kvD (lrn [] ws),kvD A,kvD C,kvD S,.dic [] [],.dic [] []])=true:=by
  have c1:=ya1 hK;have c2:=ya1 s3.a.cl;have c3:=ya1 s3.c.cl;have c4:=ya1 s3.s.cl;have c5:=zsf;generalize kvD (lrn [] ws)=x1 at *;generalize kvD A=x2 at *;generalize kvD C=x3 at *;generalize kvD S=x4 at *;rw[cl];simp[c1,c2,c3,c4,c5]
 refine⟨_,⟨⟨h,e,kvD A,kvD C,kvD S,rfl⟩,cx⟩,?_⟩;unfold yp9;dsimp only;rw[if_pos (by unfold kpS;simp)];have g:∀ j,(kpS τ h e (lrn [] ws) A C S)[τ.length+1+j]?=([.dic (lrn [] ws),.dic A,.dic C,.dic S,.dic [],.dic []]:Sto)[j]?:=fun j=>by
  unfold kpS;rw[Nat.add_assoc,zuj,Nat.add_comm 1 j];rfl
 have e1:fz τ.length (kpS τ h e (lrn [] ws) A C S) 5 (.ref (τ.length+1))=some (kvD (lrn [] ws)):=yc5 (by omega) (g 0) hK;have e2:fz τ.length (kpS τ h e (lrn [] ws) A C S) 5 (.ref (τ.length+2))=some (kvD A):=yc5 (by omega) (g 1) s3.a.cl;have e3:fz τ.length (kpS τ h e (lrn [] ws) A C S) 5 (.ref (τ.length+3))=some (kvD C):=yc5 (by omega) (g 2) s3.c.cl;have e4:fz τ.length (kpS τ h e (lrn [] ws) A C S) 5 (.ref (τ.length+4))=some (kvD S):=yc5 (by omega) (g 3) s3.s.cl;have e5:fz τ.length (kpS τ h e (lrn [] ws) A C S) 5 (.ref (τ.length+5))=some (.dic [] []):=yc5 (by omega) (g 4) rfl;have e6:fz τ.length (kpS τ h e (lrn [] ws) A C S) 5 (.ref (τ.length+6))=some (.dic [] []):=yc5 (by omega) (g 5) rfl;have eI:∀ i:Int,fz τ.length (kpS τ h e (lrn [] ws) A C S) 5 (.int i)=some (.int i):=fun i=>yjs (by simp);have ea:(kpS τ h e (lrn [] ws) A C S)[τ.length]?=some (.ins 10 (kfs τ.length h e)):=by unfold kpS;simp
 have fin:fz τ.length (kpS τ h e (lrn [] ws) A C S) 6 (.ref τ.length)=some (.obj 10 ["hand", "every", "last_look", "gave", "known", "accounts", "claims", "seen", "asked", "finishing"] [.int h,.int e,.int 0,.int 0,kvD (lrn [] ws),kvD A,kvD C,kvD S,.dic [] [],.dic [] []]):=by
  rw[fz,if_neg (by simp)];try dsimp only
  rw[if_neg (Nat.lt_irrefl _),ea];try dsimp only
  have:(kfs τ.length h e).map (·.2)=[.int h,.int e,.int 0,.int 0,.ref (τ.length+1),.ref (τ.length+2),.ref (τ.length+3),.ref (τ.length+4),.ref (τ.length+5),.ref (τ.length+6)]:=rfl;rw[this];simp only[fzL,eI,e1,e2,e3,e4,e5,e6];rfl
 rw[fin]
theorem zvq(c:Nat)(fn:List D->M D)(a b d e:D)(σ:Sto):yk1 c 5 fn [a,b,d,e] σ=yli σ.length (fn [.ref σ.length,a,b,d,e] (σ++[.ins c []])):=zok rfl
theorem zn5{h e:Int}{n:Nat}{P:Nat->Pt}(sp:spB h e n P=false)(W:D)(σ:Sto):zi11 [.ref σ.length,.int h,.int e,yrl n P,W] (σ++[.ins 10 []])=.ex ⟨4⟩ (σ++[.ins 10 []]):=by
 have s:=fun σ=>zzj h e n P σ;simp only[sp,Bool.false_eq_true,if_false]at s;unfold zi11 zal;rw[zur,ygi];show yr5 (ysc _ _ [some (.ref σ.length),some (.int h),some (.int e),some (yrl n P),some W,none,none,none] (σ++[.ins 10 []]))=_;generalize yrl n P=PL at *;rw[zyb];simp only[zx5,ybh,zk7,ybp,ybo,zr5,zhk,zrp,zlt,yjm,s,yhw,zyk,zx3]
theorem zn6{h e:Int}{n:Nat}{P:Nat->Pt}(hn:n<=4)(hP:∀ i,i<n->(P i).Ok)(sp:spB h e n P=true)(ws:List Int)(hw:ws.length<=900)(σ:Sto) :
  ∃ A C S,Sm3 (2 * n) A C S/\zi11 [.ref σ.length,.int h,.int e,yrl n P,.lst (ws.map D.int)] (σ++[.ins 10 []])=.ok .non (kpS σ h e (lrn [] ws) A C S):=by
 have s:=fun σ=>zzj h e n P σ;simp only[sp,if_true]at s;obtain⟨A,C,S,y5,y6,y7,s3,lp⟩:=zxn σ h e (lrn [] ws) n P hn hP (some (.lst (ws.map D.int))) n 0 1001 [] [] [] none none none (by omega) (by omega) ⟨Small.nil,Small.nil,Small.nil⟩;refine⟨A,C,S,s3,?_⟩;have ln:=zoc σ h e [] [] [] [] ws (by simp;omega);have mt:∀ fs,yqz [(10,f_Keeper_learn)] 2 "learn" fs (.ref σ.length) (kpS σ h e [] [] [] [])=(fs (kpS σ h e [] [] [] [])).bind (yk8 2 f_Keeper_learn (.ref σ.length)):=fun fs=>zvz (yd0 ..) rfl rfl;have ek:∀ σ,yi6 (yrl n P) σ=.ok (nxE (yrl n P)) σ:=fun σ=>zl5 (xs:=thL n fun i=>(P i).D) rfl;have fk:∀ (tg:D->Ev->Option Ev) (body:Ev->M Fl) (ρ:Ev) (nx:NX),yjp tg body ρ nx=ykv nx tg body 1001 0 ρ:=fun _ _ _ _=>rfl;unfold zi11 zal;rw[zur,ygi];show yr5 (ysc _ _ [some (.ref σ.length),some (.int h),some (.int e),some (yrl n P),some (.lst (ws.map D.int)),none,none,none] (σ++[.ins 10 []]))=_;generalize hPL:yrl n P=PL at *;generalize hWS:ws.map D.int=WS at *;rw[zyb];simp only[zx5,ybh,zk7,ybp,ybo,zr5,zhk,zrp,zlt,yjm,s,yhx,zs6,zyi];rw[zyb,zxq (d:=.int h) rfl rfl σ [] _ (by simp),zr5,zyi];rw[zyb,zxq (d:=.int e) rfl rfl σ [] _ (by simp),zr5,zyi];rw[zyb,zxq (d:=.int 0) rfl rfl σ [] _ (by simp),zr5,zyi];rw[zyb,zxq (d:=.int 0) rfl rfl σ [] _ (by simp),zr5,zyi];rw[zyb,zpw rfl rfl σ [],zr5,zyi];rw[zyb,zpw rfl rfl σ _,zr5,zyi];rw[zyb,zpw rfl rfl σ _,zr5,zyi];rw[zyb,zpw rfl rfl σ _,zr5,zyi];rw[zyb,zpw rfl rfl σ _,zr5,zyi];rw[zyb,zpw rfl rfl σ _,zr5,zyi];show yr5 (ysc _ _ [some (.ref σ.length),some (.int h),some (.int e),some PL,some (.lst WS),none,none,none] (kpS σ h e [] [] [] []))=_;rw[zyb];simp only[zx5,zsx,ybp,ybo,zr5,mt,zk7,ybi,yi4,zsu,yix,zr4,zo5,yhb,yj1,zhk,zrp,zlt,zvx,ln,yhx,zs6,zyi];rw[zqc];simp only[zzk,ybp,ybo,zr5,ek,yhx,fk];rw[lp,zx1]
theorem zjp{h e:Int}{n:Nat}{P:Nat->Pt}(hn:n<=4)(hP:∀ i,i<n->(P i).Ok)(ws:List Int)(hw:ws.length<=900)(σ:Sto) :
  (spB h e n P=false->yp9 σ (yk1 10 5 zi11 [.int h,.int e,yrl n P,.lst (ws.map D.int)] σ)=.ex ⟨4⟩ σ)/\
  (spB h e n P=true->∃ x,IsKp ws x/\yp9 σ (yk1 10 5 zi11 [.int h,.int e,yrl n P,.lst (ws.map D.int)] σ)=.ok x σ):=by
 rw[zvq];constructor
 ·intro sp;rw[zn5 sp,zox,zna]
 ·intro sp;obtain⟨A,C,S,s3,e1⟩:=zn6 hn hP sp ws hw σ;rw[e1,zoy];exact ycs σ h e ws s3
theorem zim(k:Key):yji [] k=none:=rfl
theorem zfv(kv:Key × D)(r:List (Key × D))(j:Key):yji (kv::r) j=if kv.1=j then some kv.2 else yji r j:=by
 unfold yji;rw[List.find?_cons];by_cases h:kv.1=j
 ·rw[decide_eq_true h,if_pos h];rfl
 ·rw[decide_eq_false h,if_neg h]
theorem zla(k:Key):∀ r:List (Key × D),(r.any fun kv=>decide (kv.1=k))=(yji r k).isSome
 |[]=>rfl
 |kv::r=>by
  rw[List.any_cons,zfv,zla k r];by_cases h:kv.1=k
  ·rw[decide_eq_true h,if_pos h];rfl
  ·rw[decide_eq_false h,if_neg h,Bool.false_or]
theorem zin(k j:Key)(d:D):∀ r:List (Key × D),yji r k=none->yji (r++[(k,d)]) j=if j=k then some d else yji r j
 |[],_=>by
  rw[List.nil_append,zfv,zim];by_cases h:j=k
  ·rw[if_pos h,if_pos h.symm]
  ·rw[if_neg h,if_neg fun z=>h z.symm]
 |kv::r,h=>by
  rw[zfv]at h;by_cases h1:kv.1=k
  ·rw[if_pos h1]at h;cases h
  ·rw[if_neg h1]at h;rw[List.cons_append,zfv,zfv,zin k j d r h];by_cases h2:kv.1=j
   ·rw[if_pos h2,if_pos h2,if_neg fun z=>h1 (h2.trans z)]
   ·rw[if_neg h2,if_neg h2]
theorem zmu(k j:Key)(d:D):∀ l:Kv,yji (l.map fun kv=>if kv.1=k then (kv.1,d)else kv) j=if j=k then (yji l k).map (fun _=>d)else yji l j
 |[]=>by simp[zim]
 |kv::r=>by
  rw[List.map_cons,zfv,zmu k j d r,zfv,zfv];by_cases h1:kv.1=k
  ·rw[if_pos h1,if_pos h1];dsimp only;by_cases h2:j=k
   ·rw[if_pos (h1.trans h2.symm),if_pos h2];rfl
   ·rw[if_neg (fun z=>h2 (z.symm.trans h1)),if_neg h2,if_neg h2,if_neg (fun z=>h2 (z.symm.trans h1))]
  ·rw[if_neg h1,if_neg h1];by_cases h2:j=k
   ·rw[if_pos h2,if_pos h2,if_neg (fun z=>h1 (z.trans h2))]
   ·rw[if_neg h2,if_neg h2]
theorem zmv(l:Kv)(k j:Key)(d:D):yji (yl8 l k d) j=if j=k then some d else yji l j:=by
 unfold yl8;rw[zla];cases e:yji l k with
 |none=>
  simp only[Option.isSome_none,Bool.false_eq_true,if_false];exact zin k j d l e
 |some x=>
  simp only[Option.isSome_some,if_true];rw[zmu,e];rfl
structure Kps(ws:Int->List Int)(hs:List Int)(kd:Kv):Prop where
 le:kd.length<=hs.length
 inn:∀ h∈hs,∃ x,yji kd (.inl h)=some x/\IsKp (ws h) x
 out:∀ h,h ∉ hs->yji kd (.inl h)=none
theorem Kps.nil(ws:Int->List Int):Kps ws [] []:=⟨by simp,fun h z=>(by cases z),fun h _=>rfl⟩
theorem Kps.add{ws:Int->List Int}{hs:List Int}{kd:Kv}(k:Kps ws hs kd){h:Int}{x:D}(hx:IsKp (ws h) x):Kps ws (hs++[h]) (yl8 kd (.inl h) x) where
 le:=by rw[List.length_append];exact Nat.le_trans (zj4 ..) (Nat.add_le_add_right k.le 1)
 inn:=fun g hg=>by
  rw[zmv];by_cases e:g=h
  ·subst e;exact⟨x,by simp,hx⟩
  ·rw[if_neg (fun z=>e (by injection z))];refine k.inn g ?_;rcases List.mem_append.mp hg with z|z
   ·exact z
   ·exact absurd (by simpa using z) e
 out:=fun g hg=>by
  rw[zmv,if_neg (fun z=>hg (by injection z with z;subst z;simp))];exact k.out g fun z=>hg (List.mem_append_left _ z)
def hfs(n:Nat)(B PL:D)(e:Int):List (Str × D):=[("public",B),("pots",PL),("every",.int e),("keepers",.ref (n+1)),("under_way",.lst []),("things",.ref (n+2))]
def hlS(σ:Sto)(B PL:D)(e:Int)(kd:Kv)(ts:List (List Key)):Sto:=σ++.ins 11 (hfs σ.length B PL e)::[.dic kd,.tdic ts]
section
variable(σ:Sto)(B PL:D)(e:Int)(kd:Kv)(ts:List (List Key))
theorem yde:yj3 (hlS σ B PL e kd ts) (.ref σ.length)=some (11,hfs σ.length B PL e):=zi1
theorem zut:yq5 [7,11] "pots" (.ref σ.length) (hlS σ B PL e kd ts)=.ok PL (hlS σ B PL e kd ts):=zwd (yde ..) rfl rfl
theorem ydf:yq5 [11] "keepers" (.ref σ.length) (hlS σ B PL e kd ts)=.ok (.ref (σ.length+1)) (hlS σ B PL e kd ts):=zwd (yde ..) rfl rfl
theorem ydh:yq5 [11] "things" (.ref σ.length) (hlS σ B PL e kd ts)=.ok (.ref (σ.length+2)) (hlS σ B PL e kd ts):=zwd (yde ..) rfl rfl
theorem ydc:(hlS σ B PL e kd ts)[σ.length+1]?=some (.dic kd):=by unfold hlS;rw[zuj];rfl
theorem ydd:(hlS σ B PL e kd ts)[σ.length+2]?=some (.tdic ts):=by unfold hlS;rw[zuj];rfl
theorem ydg(ρ:Ev)(w:Int)(d:D)(hl:kd.length<1000):ym1 ρ d (.ref (σ.length+1)) (.int w) (hlS σ B PL e kd ts)=.ok (.nx ρ) (hlS σ B PL e (yl8 kd (.inl w) d) ts):=by
 rw[zql (ydc ..) hl];unfold hlS;rw[zyt];rfl
end
@[simp] theorem yag(dds:List D)(fs:Ev->M (List D))(ρ:Ev)(σ:Sto):aDf dds fs ρ σ=(fs ρ σ).bind (dfK dds):=nr rfl
@[simp] theorem ybc(dds ds:List D)(σ:Sto):dfK dds ds σ=.ok (ds++dds) σ:=nr rfl
section
variable{σ:Sto}{n:Nat}{P:Nat->Pt}(hn:n<=4)(hP:∀ i,i<n->(P i).Ok){ow:D}{ws:Int->List Int}(hw:∀ h τ,f_words_of [.int h,ow] (σ++τ)=.ok (.lst ((ws h).map D.int)) (σ++τ))(hws:∀ h,(ws h).length<=900)(B:D)(e:Int)
include hn hP hw hws
theorem zum(kd:Kv)(ts:List (List Key))(hk:kd.length<900)(x1 x2 x4 x7 x8:Option D)(h:Int) :
  (spB h e n P=false->haB [some (.ref σ.length),x1,x2,some (.int e),x4,some ow,some (.int h),x7,x8] (hlS σ B (yrl n P) e kd ts)=.ok (.xc [some (.ref σ.length),x1,x2,some (.int e),x4,some ow,some (.int h),x7,x8] ⟨4⟩) (hlS σ B (yrl n P) e kd ts))/\
  (spB h e n P=true->∃ x,IsKp (ws h) x/\haB [some (.ref σ.length),x1,x2,some (.int e),x4,some ow,some (.int h),x7,x8] (hlS σ B (yrl n P) e kd ts)=.ok (.nx [some (.ref σ.length),x1,x2,some (.int e),x4,some ow,some (.int h),x7,x8]) (hlS σ B (yrl n P) e (yl8 kd (.inl h) x) ts)):=by
 have f1:=zut σ B (yrl n P) e kd ts;have f2:=ydf σ B (yrl n P) e kd ts;have f3:=fun ρ d=>ydg σ B (yrl n P) e kd ts ρ h d (by omega);have w:f_words_of [.int h,ow] (hlS σ B (yrl n P) e kd ts)=.ok (.lst ((ws h).map D.int)) (hlS σ B (yrl n P) e kd ts):=hw h _;obtain⟨m1,m2⟩:=zjp (h:=h) (e:=e) hn hP (ws h) (hws h) (hlS σ B (yrl n P) e kd ts);unfold haB;constructor
 ·intro sp;have m:=m1 sp;generalize hlS σ B (yrl n P) e kd ts=S at *;generalize yrl n P=PL at *;generalize (ws h).map D.int=WS at *;simp[f1,w,m]
 ·intro sp;obtain⟨x,hx,m⟩:=m2 sp;refine⟨x,hx,?_⟩;have g3:=fun ρ=>f3 ρ x;clear f3;generalize hlS σ B (yrl n P) e (yl8 kd (.inl h) x) ts=S2 at *;generalize hlS σ B (yrl n P) e kd ts=S at *;generalize yrl n P=PL at *;generalize (ws h).map D.int=WS at *;simp[f1,f2,g3,w,m]
theorem zul(ts:List (List Key))(x1 x2 x4 x7 x8:Option D):∀ (hs done:List Int) (kd:Kv) (x6:Option D),Kps ws done kd->done.length+hs.length<900->
  (hs.all (fun h=>spB h e n P)=false->∃ kd' y6,yqs (tgN 6) haB (hs.map D.int) [some (.ref σ.length),x1,x2,some (.int e),x4,some ow,x6,x7,x8] (hlS σ B (yrl n P) e kd ts)=.ok (.xc [some (.ref σ.length),x1,x2,some (.int e),x4,some ow,y6,x7,x8] ⟨4⟩) (hlS σ B (yrl n P) e kd' ts))/\
  (hs.all (fun h=>spB h e n P)=true->∃ kd' y6,Kps ws (done++hs) kd'/\yqs (tgN 6) haB (hs.map D.int) [some (.ref σ.length),x1,x2,some (.int e),x4,some ow,x6,x7,x8] (hlS σ B (yrl n P) e kd ts)=.ok (.nx [some (.ref σ.length),x1,x2,some (.int e),x4,some ow,y6,x7,x8]) (hlS σ B (yrl n P) e kd' ts))
 |[],done,kd,x6,k,_=>⟨fun z=>by simp at z,fun _=>⟨kd,x6,by simpa using k,by simp⟩⟩
 |h::hs,done,kd,x6,k,hl=>by
  rw[List.length_cons]at hl;have hk:=k.le;obtain⟨s1,s2⟩:=zum hn hP hw hws B e kd ts (by omega) x1 x2 x4 x7 x8 h;rw[List.all_cons,List.map_cons,zoj];simp only[List.set_cons_succ,List.set_cons_zero];cases b:spB h e n P with
  |false=>
   rw[s1 b,zr5,zoh];exact⟨fun _=>⟨kd,some (.int h),rfl⟩,fun z=>by simp at z⟩
  |true=>
   obtain⟨x,hx,s⟩:=s2 b;rw[s,zr5,zog,Bool.true_and];obtain⟨r1,r2⟩:=zul ts x1 x2 x4 x7 x8 hs (done++[h]) (yl8 kd (.inl h) x) (some (.int h)) (k.add hx) (by rw[List.length_append];simp;omega);refine⟨r1,fun z=>?_⟩;obtain⟨kd',y6,q1,q2⟩:=r2 z;exact⟨kd',y6,by simpa using q1,q2⟩
end
def owK(l:List (Int × Int)):Kv:=l.map fun p=>(.inl p.1,.int p.2)
def wOf(l:List (Int × Int))(h:Int):List Int:=(l.filter fun p=>p.2 == h).map (·.1)
theorem ylk(l:List (Int × Int))(σ:Sto)(i:Nat)(hi:i<=l.length):nxI (owK l) i σ=some ((l[i]?).map fun p=>.tup [.int p.1,.int p.2]):=by
 unfold nxI owK;rw[List.getElem?_map,List.length_map];cases e:l[i]? with
 |some p=>rfl
 |none=>
  have:=List.getElem?_eq_none_iff.mp e;simp;omega
noncomputable abbrev woE(s:Ev->M NX):Ev->M D:=ypw s [0] (tgT 2 (yg6 (tgN 0) (yg6 (tgN 1) ynm))) (eT (ypu oEq (yp2 1) (yp2 2))) (yp2 0)
theorem yn1(l:List (Int × Int))(hl:l.length<=1000)(h:Int)(x1:Option D){σ σ':Sto}{s:Ev->M NX}(hs:s [some (.int h),x1] σ=.ok (nxI (owK l)) σ'):woE s [some (.int h),x1] σ=.ok (.ref σ'.length) (σ'++[.lst ((wOf l h).map D.int)]):=by
 show bnd (s [some (.int h),x1]) (yqr _ (eT (ypu oEq (yp2 1) (yp2 2))) (yp2 0) (yam [0] [some (.int h),x1])) σ=_;rw[yao,hs,zr5];show bnd (zvg (nxI (owK l)) σ'.length _ _ (yp2 0) 1001 0 (none::none::[some (.int h)])) _ (σ'++[.lst []])=_;rw[yao,yd5 (fun _=>True) (fun p=>.tup [.int p.1,.int p.2]) (fun p=>D.int p.1) (fun p=>some (D.int p.2)) (fun p=>p.2 == h) (fun p=>D.int p.1) (fun i j hi=>ylk l _ i hi) (fun x o o' _=>⟨rfl,trivial⟩) (fun p _ j=>⟨by simp,fun _=>by simp⟩) hl 1001 0 none none [] trivial (by omega) (by omega) (by simp),zr5];unfold wOf;simp[List.map_map,Function.comp_def]
theorem zk2{ow:D}{h:Int}{ws:List Int}{σ:Sto}(e:yi5 (yp2 1) (woE (yna (yp2 1))) [some (.int h),some ow] σ=.ok (.ref σ.length) (σ++[.lst (ws.map D.int)])):f_words_of [.int h,ow] σ=.ok (.lst (ws.map D.int)) σ:=by
 unfold woE at e;unfold f_words_of zf4;have fz:=znd (σ:=σ) (xs:=ws.map D.int) (by simp);have hc:cl (.lst (ws.map D.int))=true:=by simp
 generalize ws.map D.int=WS at *;rw[zur,ycq,ygi];show yp9 σ (yr5 (ysb _ [some (.int h),some ow] σ))=_;rw[zya,zsv,e,fz,yhx,zxy,zx2,zit hc]
theorem zk3(h:Int)(σ:Sto):f_words_of [.int h,.dic [] []] σ=.ok (.lst []) σ:=by
 refine zk2 (ws:=[]) ?_;have w:=yn1 [] (by simp) h (some (.dic [] [])) (σ:=σ) (σ':=σ) (s:=yna (yp2 1)) (by
  show bnd (yp2 1 _) ydn σ=_;rw[yao,ybp,ybo,zr5];rfl)
 have e:wOf [] h=[]:=rfl;rw[e]at w;show thw (fun _=>true) (yp2 1 [some (.int h),some (.dic [] [])]) (woE (yna (yp2 1)) [some (.int h),some (.dic [] [])]) σ=_;unfold thw;rw[ybp,ybo];exact w
theorem zqq{σ:Sto}{n:Nat}{a b:Ob}(h:σ[n]?=some a)(j:Sto):((σ.set n b)++j).set n a=σ++j:=by
 have hl:=(List.getElem?_eq_some_iff.mp h).1;rw[List.set_append_left _ _ (by simpa using hl),List.set_set];congr 1;apply List.ext_getElem?;intro i;rw[List.getElem?_set];by_cases e:n=i
 ·subst e;rw[if_pos rfl,if_pos hl,h]
 ·rw[if_neg e]
theorem zk5(l:List (Int × Int))(hl:l.length<=1000)(h:Int){σ:Sto}{k:Nat}(hk:σ[k]?=some (.dic (owK l))):f_words_of [.int h,.ref k] σ=.ok (.lst ((wOf l h).map D.int)) σ:=by
 refine zk2 ?_;have w:=yn1 l hl h (some (.ref k)) (σ:=σ) (σ':=σ.set k (.fdic (owK l))) (s:=yna (yp2 1)) (by
  show bnd (yp2 1 _) ydn σ=_;rw[yao,ybp,ybo,zr5];unfold ydn;simp only[hk])
 have hb:=(List.getElem?_eq_some_iff.mp hk).1;have hS:((σ.set k (.fdic (owK l)))++[.lst ((wOf l h).map D.int)])[k]?=some (.fdic (owK l)):=by
  rw[List.getElem?_append_left (by simpa using hb),List.getElem?_set,if_pos rfl,if_pos hb]
 have sb:=zqq (b:=.fdic (owK l)) hk [.lst ((wOf l h).map D.int)];show thw (fun _=>true) (yp2 1 [some (.int h),some (.ref k)]) (woE (yna (yp2 1)) [some (.int h),some (.ref k)]) σ=_;unfold thw;rw[ybp,ybo];dsimp only;rw[hk];dsimp only;rw[w];unfold ynn;simp only[if_true,hS];rw[sb,List.length_set]
@[simp] theorem zqf(f fo fi:Ev->M D)(ρ:Ev)(σ:Sto):yms f fo fi ρ σ=xsO ρ (ym5 ρ fo fi) (f ρ σ):=yn3 ..
@[simp] theorem zqo(fo fi:Ev->M D)(d:D)(ρ:Ev)(σ:Sto):ym5 ρ fo fi d σ=xsO ρ (ym6 ρ fi) (fo ρ σ):=yn3 ..
@[simp] theorem zqp(fi:Ev->M D)(x:D)(ρ:Ev)(σ:Sto):ym6 ρ fi x σ=xsO ρ (ym7 ρ x) (fi ρ σ):=yn3 ..
theorem yhi(m:Nat)(x1 x2 x3 x4 x6 x7 x8:Option D)(σ:Sto):tzS [some (.ref m),x1,x2,x3,x4,some (.dic [] []),x6,x7,x8] σ=.ok (.nx [some (.ref m),x1,x2,x3,x4,some (.dic [] []),x6,x7,x8]) σ:=by
 show thw yri (yp2 5 [some (.ref m),x1,x2,x3,x4,some (.dic [] []),x6,x7,x8]) (ymp (yna (yp2 5)) _ tzB [some (.ref m),x1,x2,x3,x4,some (.dic [] []),x6,x7,x8]) σ=_;unfold thw;simp only[ybp,ybo];rw[zqc];have s:yna (yp2 5) [some (.ref m),x1,x2,x3,x4,some (.dic [] []),x6,x7,x8] σ=.ok (nxI []) σ:=by
  show bnd (yp2 5 _) ydn σ=_;rw[yao];simp only[ybp,ybo,zr5];rfl
 rw[s,yhx];show ykv (nxI []) _ _ 1001 0 _ σ=_;exact zjj rfl
theorem zz0(σ:Sto)(B PL:D)(e:Int){kd:Kv}{ts:List (List Key)}(ht:ts.length<900)(x1 x2 x3 x4 x5 x6:Option D)(w o:Int):∃ ts',ts'.length<=ts.length+1/\
  tzB [some (.ref σ.length),x1,x2,x3,x4,x5,x6,some (.int w),some (.int o)] (hlS σ B PL e kd ts)=.ok (.nx [some (.ref σ.length),x1,x2,x3,x4,x5,x6,some (.int w),some (.int o)]) (hlS σ B PL e kd ts'):=by
 have f1:=ydf σ B PL e kd ts;have f2:=ydh σ B PL e kd ts;have nt:zwa (.int o) (.ref (σ.length+1)) (hlS σ B PL e kd ts)=.ok (.bl (!(yji kd (.inl o)).isSome)) (hlS σ B PL e kd ts):=by
  unfold zwa ypr;simp only[yqo,ydc]
 have st:∀ ρ,ym7 ρ (.ref (σ.length+2)) (.tup [.str "word",.int w]) (hlS σ B PL e kd ts)=.ok (.nx ρ) (hlS σ B PL e kd (yrp ts [.inr "word",.inl w])):=fun ρ=>by
  unfold ym7;have k:ykl [.str "word",.int w]=some [.inr "word",.inl w]:=rfl;simp only[k,ydd];rw[if_pos (show ts.length<cap from Nat.lt_trans ht (by decide))];unfold hlS;rw[zyt];rfl
 unfold tzB;cases b:(yji kd (.inl o)).isSome
 ·refine⟨yrp ts [.inr "word",.inl w],by unfold yrp;split<;>simp,?_⟩;rw[b]at nt;generalize hlS σ B PL e kd (yrp ts [.inr "word",.inl w])=S2 at *;generalize hlS σ B PL e kd ts=S at *;simp[f1,f2,nt,st]
 ·refine⟨ts,by omega,?_⟩;rw[b]at nt;generalize hlS σ B PL e kd ts=S at *;simp[f1,nt]
theorem zzz(σ:Sto)(B PL:D)(e:Int)(kd:Kv)(l:List (Int × Int))(hl:l.length<=100)(x1 x2 x3 x4 x5 x6:Option D):∀ (j i f:Nat) (ts:List (List Key)) (x7 x8:Option D),i+j=l.length->f=1001 - i->ts.length<=i->∃ ts' y7 y8,
  ykv (nxI (owK l)) (tgT 2 (yg6 (tgN 7) (yg6 (tgN 8) ynm))) tzB f i [some (.ref σ.length),x1,x2,x3,x4,x5,x6,x7,x8] (hlS σ B PL e kd ts)=.ok (.nx [some (.ref σ.length),x1,x2,x3,x4,x5,x6,y7,y8]) (hlS σ B PL e kd ts'):=by
 intro j;induction j with
 |zero=>
  intro i f ts x7 x8 hij hf ht;obtain⟨f',rfl⟩:∃ f',f=f'+1:=⟨f - 1,by omega⟩
  refine⟨ts,x7,x8,zjj ?_⟩;rw[ylk l _ i (by omega),List.getElem?_eq_none (by omega)];rfl
 |succ j ih=>
  intro i f ts x7 x8 hij hf ht;obtain⟨f',rfl⟩:∃ f',f=f'+1:=⟨f - 1,by omega⟩
  have hi:i<l.length:=by omega
  have nx:=ylk l (hlS σ B PL e kd ts) i (by omega);rw[List.getElem?_eq_getElem hi]at nx;obtain⟨ts1,h1,e1⟩:=zz0 σ B PL e (kd:=kd) (ts:=ts) (by omega) x1 x2 x3 x4 x5 x6 l[i].1 l[i].2;obtain⟨ts2,y7,y8,e2⟩:=ih (i+1) f' ts1 (some (.int l[i].1)) (some (.int l[i].2)) (by omega) (by omega) (by omega);refine⟨ts2,y7,y8,?_⟩;rw[zga nx (ρ1:=[some (.ref σ.length),x1,x2,x3,x4,x5,x6,some (.int l[i].1),some (.int l[i].2)]) (nr rfl),e1,zr5,zog,e2]
theorem yhj(σ:Sto)(B PL:D)(e:Int)(kd:Kv)(l:List (Int × Int))(hl:l.length<=100){k:Nat}(hk:σ[k]?=some (.dic (owK l)))(x1 x2 x3 x4 x6 x7 x8:Option D):∃ ts ρ,tzS [some (.ref σ.length),x1,x2,x3,x4,some (.ref k),x6,x7,x8] (hlS σ B PL e kd [])=.ok (.nx ρ) (hlS σ B PL e kd ts):=by
 have hb:=(List.getElem?_eq_some_iff.mp hk).1;have len:(σ.set k (.fdic (owK l))).length=σ.length:=List.length_set;have e0:∀ ts,(hlS σ B PL e kd ts).set k (.fdic (owK l))=hlS (σ.set k (.fdic (owK l))) B PL e kd ts:=fun ts=>by
  unfold hlS;rw[List.set_append_left _ _ hb,len]
 have e1:∀ ts,(hlS (σ.set k (.fdic (owK l))) B PL e kd ts)[k]?=some (.fdic (owK l)):=fun ts=>by
  unfold hlS;rw[List.getElem?_append_left (by rw[len];exact hb),List.getElem?_set,if_pos rfl,if_pos hb]
 have e2:∀ ts,(hlS (σ.set k (.fdic (owK l))) B PL e kd ts).set k (.dic (owK l))=hlS σ B PL e kd ts:=fun ts=>by
  unfold hlS;rw[zqq hk,len]
 have e3:(hlS σ B PL e kd [])[k]?=some (.dic (owK l)):=by unfold hlS;rw[List.getElem?_append_left hb];exact hk
 obtain⟨ts,y7,y8,lp⟩:=zzz (σ.set k (.fdic (owK l))) B PL e kd l hl x1 x2 x3 x4 (some (.ref k)) x6 l.length 0 1001 [] x7 x8 (by omega) (by omega) (by simp);rw[len]at lp;refine⟨ts,[some (.ref σ.length),x1,x2,x3,x4,some (.ref k),x6,y7,y8],?_⟩;show thw yri (yp2 5 [some (.ref σ.length),x1,x2,x3,x4,some (.ref k),x6,x7,x8]) (ymp (yna (yp2 5)) _ tzB [some (.ref σ.length),x1,x2,x3,x4,some (.ref k),x6,x7,x8]) (hlS σ B PL e kd [])=_;unfold thw;simp only[ybp,ybo];rw[e3];dsimp only;rw[zqc];have s:yna (yp2 5) [some (.ref σ.length),x1,x2,x3,x4,some (.ref k),x6,x7,x8] (hlS σ B PL e kd [])=.ok (nxI (owK l)) (hlS (σ.set k (.fdic (owK l))) B PL e kd []):=by
  show bnd (yp2 5 _) ydn _=_;rw[yao];simp only[ybp,ybo,zr5];unfold ydn;simp only[e3];rw[e0]
 rw[s,yhx];have fk:yjp (tgT 2 (yg6 (tgN 7) (yg6 (tgN 8) ynm))) tzB [some (.ref σ.length),x1,x2,x3,x4,some (.ref k),x6,x7,x8] (nxI (owK l)) (hlS (σ.set k (.fdic (owK l))) B PL e kd [])=_:=lp;rw[fk];unfold ynn;simp only[yri,if_true,e1,e2]
theorem zj8{cs:List Nat}{f:Str}{c:Nat}{fs:List (Str × D)}(hc:cs.contains c=true)(hl:Nat.ble (fs.length+1) 1000=true)(σ ds:Sto)(r:Ev):ysa cs f ybg (yp2 0) (some (.ref σ.length)::r) (σ++.ins c fs::ds)=.ok (.nx (some (.ref σ.length)::r)) (σ++.ins c (yrm f (.ref (σ.length+1+ds.length)) fs)::(ds++[.tdic []])):=by
 have e1:(σ++.ins c fs::ds)++[Ob.tdic []]=σ++.ins c fs::(ds++[.tdic []]):=by simp
 have e2:(σ++Ob.ins c fs::ds).length=σ.length+1+ds.length:=by simp;omega
 have e0:∀ ρ τ,ybg ρ τ=.ok (.ref τ.length) (τ++[.tdic []]):=fun ρ τ=>nr rfl;rw[zx8,e0,yhx,zpv,ybo,yhx,e1,e2,zj6 hc (Nat.le_of_ble_eq_true hl)]
theorem yal(n:Nat)(P:Nat->Pt)(σ:Sto):yj3 σ (bkD n P)=some (7,([("pots",yrl n P),("day",.int 0),("claims",hdL n P),("shown",shL n)]:List (Str × D))):=zi2 rfl
theorem zvo(n:Nat)(P:Nat->Pt)(σ:Sto):f_Book_made_of [bkD n P] σ=.ok (yrl n P) σ:=by
 have h7:∀ σ,yq5 [7,11] "pots" (bkD n P) σ=.ok (yrl n P) σ:=fun σ=>zwd (yal ..) rfl rfl;have h8:∀ σ,yp9 σ (ylr [yrl n P] σ)=.ok (yrl n P) σ:=fun σ=>by
  have:=zsj n P;unfold yrl at this ⊢;exact zm9 (by simpa using this) σ
 have hc:=zsj n P;unfold f_Book_made_of zb3;generalize bkD n P=B at *;generalize yrl n P=PL at *;simp[h7,h8,hc]
theorem yk7(n:Nat)(P:Nat->Pt)(fs:M (List D))(σ:Sto):yqz [(7,f_Book_made_of)] 1 "made_of" fs (bkD n P) σ=(fs σ).bind (yk8 1 f_Book_made_of (bkD n P)):=zvz (yal ..) rfl rfl
section
variable{n:Nat}{F:Nat->D}{g:Nat->Bool}(T:Ths n F g){σ:Sto}{x:D}(hx:∀ j,yqt (σ++j) x=some (thL n F))(hs:∀ j,ymy (σ++j) x=some (thL n F))(P:Nat->Pt)(hP:fb g n 0=none->thL n F=thL n fun i=>(P i).D)
include T hx hs hP
theorem zix:yp9 (σ++[.ins 11 []]) (yk1 7 2 zi15 [x] (σ++[.ins 11 []]))=match fb g n 0 with|none=>.ok (bkD n P) (σ++[.ins 11 []])|some j=>.ex ⟨3+100 * (j+1)⟩ (σ++[.ins 11 []]):=
 zvt T (σ:=σ++[.ins 11 []]) (by rw[List.append_assoc];exact hx _) (by rw[List.append_assoc];exact hs _) P hP
theorem znj{j:Nat}(hb:fb g n 0=some j)(KS E W:D):zi14 [.ref σ.length,x,KS,E,W] (σ++[.ins 11 []])=.ex ⟨3+100 * (j+1)⟩ (σ++[.ins 11 []]):=by
 have b:=zix T hx hs P hP;rw[hb]at b;dsimp only at b;unfold zi14 zbh;rw[zur,ygi];show yr5 (ysc _ _ [some (.ref σ.length),some x,some KS,some E,some W,none,none,none,none] (σ++[.ins 11 []]))=_;rw[zyb];generalize σ++[.ins 11 []]=S at *;simp only[zx8,zsv,zl1,zk7,ybp,ybo,zr5,zhk,zrp,zlt,b,yhw,zyk,zx3]
theorem ziy(hb:fb g n 0=none)(hPo:∀ i,i<n->(P i).Ok){KS:D}{ks:List Int}(hks:ks.length<800)(hk:∀ j,yp9 (σ++j) (zwr KS (σ++j))=.ok (.lst (ks.map D.int)) (σ++j))(e:Int){W ow:D}(how:∀ j,eIf (eT (ypu yq7 (yp2 4) (eC .non))) (eC (.dic [] [])) (yp2 4) [some (.ref σ.length),some x,some KS,some (.int e),some W,none,none,none,none] (σ++j)=.ok ow (σ++j))
  {ws:Int->List Int} (hw:∀ h τ,f_words_of [.int h,ow] (σ++τ)=.ok (.lst ((ws h).map D.int)) (σ++τ)) (hws:∀ h,(ws h).length<=900)
  (hz:∀ kd y6,∃ ts ρ,tzS [some (.ref σ.length),some x,some KS,some (.int e),some W,some ow,y6,none,none] (hlS σ (bkD n P) (yrl n P) e kd [])=.ok (.nx ρ) (hlS σ (bkD n P) (yrl n P) e kd ts)) :
  (ks.all (fun h=>spB h e n P)=false->∃ j,zi14 [.ref σ.length,x,KS,.int e,W] (σ++[.ins 11 []])=.ex ⟨4⟩ (σ++j))/\
  (ks.all (fun h=>spB h e n P)=true->∃ kd ts,Kps ws ks kd/\zi14 [.ref σ.length,x,KS,.int e,W] (σ++[.ins 11 []])=.ok .non (hlS σ (bkD n P) (yrl n P) e kd ts)):=by
 have b:=zix T hx hs P hP;rw[hb]at b;dsimp only at b;have lp:=zul T.le hPo hw hws (bkD n P) e [] (some x) (some KS) (some W) none none ks [] [] none (Kps.nil ws) (by simp;omega);have key:zi14 [.ref σ.length,x,KS,.int e,W] (σ++[.ins 11 []])=yr5 ((yqs (tgN 6) haB (ks.map D.int) [some (.ref σ.length),some x,some KS,some (.int e),some W,some ow,none,none,none] (hlS σ (bkD n P) (yrl n P) e [] [])).bind (ysf tzS)):=by
  have m1:=fun fs σ=>yk7 n P fs σ;have m2:=fun σ=>zvo n P σ;unfold zi14 zbh;rw[zur,ygi];show yr5 (ysc _ _ [some (.ref σ.length),some x,some KS,some (.int e),some W,none,none,none,none] (σ++[.ins 11 []]))=_;generalize bkD n P=B at *;generalize yrl n P=PL at *;rw[zyb,zxq (d:=B) rfl rfl σ [] _ (by
   generalize σ++[.ins 11 []]=S at *;simp only[zsv,zl1,zk7,ybp,ybo,zr5,zhk,zrp,zlt,b]),zr5,zyi]
  have f1:yq5 [11] "public" (.ref σ.length) (σ++[.ins 11 (yrm "public" B [])])=.ok B (σ++[.ins 11 (yrm "public" B [])]):=zwd zi1 rfl rfl;rw[zyb,zxq (d:=PL) rfl rfl σ [] _ (by
   generalize σ++[.ins 11 (yrm "public" B [])]=S at *;simp only[zsx,ybn,ybo,zr5,f1,m1,zrp,zvw,m2]),zr5,zyi]
  rw[zyb,zxq (d:=.int e) rfl rfl σ [] _ (by simp),zr5,zyi];rw[zyb,zpw rfl rfl σ [],zr5,zyi];rw[zyb,zxq (d:=.lst []) rfl rfl σ _ _ (by simp),zr5,zyi];rw[zyb,zj8 rfl rfl σ _,zr5,zyi];show yr5 (ysc _ _ [some (.ref σ.length),some x,some KS,some (.int e),some W,none,none,none,none] (hlS σ B PL e [] []))=_;have hO:eIf (eT (ypu yq7 (yp2 4) (eC .non))) (eC (.dic [] [])) (yp2 4) [some (.ref σ.length),some x,some KS,some (.int e),some W,none,none,none,none] (hlS σ B PL e [] [])=.ok ow (hlS σ B PL e [] []):=how _;have hS:yp9 (hlS σ B PL e [] []) (zwr KS (hlS σ B PL e [] []))=.ok (.lst (ks.map D.int)) (hlS σ B PL e [] []):=hk _;generalize hlS σ B PL e [] []=S at *;rw[zyb,zyc,hO,yhx,zyn,zr5,zyi];show yr5 (ysc _ _ [some (.ref σ.length),some x,some KS,some (.int e),some W,some ow,none,none,none] S)=_;rw[zyb,zx6,zzn,zsv,ybn];simp only[ybp,ybo,zr5,hS,zki,yhx,zm7]
 rw[key];constructor
 ·intro sp;obtain⟨kd,y6,q⟩:=lp.1 sp;rw[q,zr5,zyk,zx3];exact⟨_,rfl⟩
 ·intro sp;obtain⟨kd,y6,q1,q⟩:=lp.2 sp;obtain⟨ts,ρ,z⟩:=hz kd y6;rw[q,zr5,zyi,z,zx1];exact⟨kd,ts,by simpa using q1,rfl⟩
end
def ypb(g:Nat->Bool)(n:Nat):List Int:=((List.range n).filter (bdI g)).map fun(i:Nat)=>(i:Int)
theorem yci(g:Nat->Bool):∀ (k i:Nat),match fb g k i with|none=>(List.range' i k).filter (bdI g)=[]/\∀ j,i<=j->j<i+k->bdI g j=false|some j=>i<=j/\j<i+k/\∃ r,(List.range' i k).filter (bdI g)=j::r
 |0,i=>by unfold fb;exact⟨rfl,fun j h1 h2=>by omega⟩
 |k+1,i=>by
  unfold fb;have ih:=yci g k (i+1);cases hb:bdI g i with
  |true=>
   simp only[if_true];exact⟨Nat.le_refl _,by omega,_,by rw[List.range'_succ,List.filter_cons,if_pos hb]⟩
  |false=>
   simp only[Bool.false_eq_true,if_false];cases hf:fb g k (i+1)with
   |none=>
    rw[hf]at ih;refine⟨by rw[List.range'_succ,List.filter_cons,if_neg (by rw[hb];decide)];exact ih.1,fun j h1 h2=>?_⟩;by_cases e:j=i
    ·rw[e];exact hb
    ·exact ih.2 j (by omega) (by omega)
   |some j=>
    rw[hf]at ih;obtain⟨h1,h2,r,h3⟩:=ih;exact⟨by omega,by omega,r,by rw[List.range'_succ,List.filter_cons,if_neg (by rw[hb];decide)];exact h3⟩
theorem zzq{σ:Sto}{x:D}{ns ks:List Int}(hx:yqt σ x=some (ns.map D.int))(hl:ns.length<64)(hs:ysp (ddp ns)=ks):yp9 σ (zwr x σ)=.ok (.lst (ks.map D.int)) σ:=by
 have e:zwr x σ=.ok (.ref σ.length) (σ++[.lst (ks.map D.int)]):=by
  unfold zwr;rw[hx];simp only[Option.bind_some,zf8];rw[if_pos hl,hs];rfl
 rw[e];exact znd (by simp)
abbrev tbP:List (Nat × Bool):=[(2,false),(103,true),(203,true),(303,true),(403,true),(4,false)]
abbrev tbS:List (Nat × Bool):=[(2,false),(103,false),(203,false),(303,false),(403,false),(4,true)]
abbrev tbA:List (Nat × Bool):=[(2,true),(103,true),(203,true),(303,true),(403,true),(4,true)]
theorem xh(j:Nat)(hj:j<=3):(∀ σ,yls [103,203,303,403] (.exn (3+100 * (j+1))) σ=.ok (.int j) σ)/\(∀ σ,yq8 (yqg tbP) (.exn (3+100 * (j+1))) σ=.ok (.bl true) σ)/\(∀ σ,yq8 (yqg tbS) (.exn (3+100 * (j+1))) σ=.ok (.bl false) σ)/\yqg tbA (3+100 * (j+1))=some true:=by
 have h:j=0\/j=1\/j=2\/j=3:=by omega
 rcases h with rfl|rfl|rfl|rfl<;>exact⟨fun σ=>zo9 rfl rfl,fun σ=>zwf rfl,fun σ=>zwf rfl,rfl⟩
theorem yeq(m:M D)(σ:Sto):noX m σ=yq0 (m σ):=nr rfl
theorem zv4(d:D)(σ:Sto):yq0 (.ok d σ)=.ok d σ:=nr rfl
theorem zfm(j:Nat)(hj:j<=3)(σ:Sto):f__law_caught [.exn (3+100 * (j+1))] σ=.ok (.tup [.str "pot",.int j]) σ:=by
 obtain⟨x1,x2,x3,_⟩:=xh j hj;unfold tbP at x2;unfold tbS at x3;unfold f__law_caught zcs;generalize 3+100 * (j+1)=c at *;simp[yeq,zv4,x1,x2,x3]
theorem zec(σ:Sto):f__law_caught [.exn 4] σ=.ok (.tup [.str "span",.int 0]) σ:=by
 have x2:∀ σ,yq8 (yqg tbP) (.exn 4) σ=.ok (.bl false) σ:=fun σ=>zwf rfl;have x3:∀ σ,yq8 (yqg tbS) (.exn 4) σ=.ok (.bl true) σ:=fun σ=>zwf rfl;unfold tbP at x2;unfold tbS at x3;unfold f__law_caught zcs;simp[yeq,zv4,x2,x3]
noncomputable def ys5(n:Nat)(g:Nat->Bool)(P:Nat->Pt)(ks:List Int)(e:Int):D:=match fb g n 0 with
 |some j=>.tup [.str "pot",.int j]
 |none=>if ks.all (fun h=>spB h e n P)=true then .tup [.str "made",.int 0]else .tup [.str "span",.int 0]
theorem zra{X KS:D}{e:Int}{σ σ':Sto}{t:D}(hc:cl t=true)(ht:σ'.take σ.length=σ)(h:yse (yr6 (yi1 11 5 zi14 (aDf [.non] (yie (yp2 0) (yie (yp2 1) (yie (yp2 2) yo2)))))) (⟨yqg tbA,some 4,(ysd 3 (eFn 1 f__law_caught [] (yie (yp2 4) yo2)))⟩::[]) [some X,some KS,some (.int e),some (.tup [.str "made",.int 0]),none] σ=.ok (.nx [some X,some KS,some (.int e),some t,none]) σ'):f__law_told [X,KS,.int e] σ=.ok t σ:=by
 unfold tbA at h;unfold f__law_told zej;rw[zur,ycq,ygi];show yp9 σ (yr5 (ysc _ _ [some X,some KS,some (.int e),none,none] σ))=_;rw[zyb];simp only[zyc,zs1,zk7,yix,zr5,zhk,zrp,zlt,yhe,yhx,zyn,zyi];show yp9 σ (yr5 (ysc _ _ [some X,some KS,some (.int e),some (.tup [.str "made",.int 0]),none] σ))=_;rw[zyb,h,zr5,zyi,zya];simp only[ybp,ybo,yhx,zxy,zx2];exact zt4 hc ht
section
variable{n:Nat}{F:Nat->D}{g:Nat->Bool}(T:Ths n F g){σ:Sto}{x:D}(hx:∀ j,yqt (σ++j) x=some (thL n F))(hs:∀ j,ymy (σ++j) x=some (thL n F))(P:Nat->Pt)(hP:fb g n 0=none->thL n F=thL n fun i=>(P i).D)(hPo:fb g n 0=none->∀ i,i<n->(P i).Ok)
include T hx hs hP hPo
theorem zzv{ks:List Int}(hk:ks.length<64)(hsr:ysp (ddp ks)=ks)(e:Int):f__law_told [x,.lst (ks.map D.int),.int e] σ=.ok (ys5 n g P ks e) σ:=by
 have mk:yk1 11 5 zi14 [x,.lst (ks.map D.int),.int e,.non] σ=yli σ.length (zi14 [.ref σ.length,x,.lst (ks.map D.int),.int e,.non] (σ++[.ins 11 []])):=zvq ..;have fl:=yci g n 0;have h4:=T.le;cases hb:fb g n 0 with
 |some j=>
  have et:ys5 n g P ks e=.tup [.str "pot",.int j]:=by unfold ys5;rw[hb]
  rw[et];rw[hb]at fl;obtain⟨_,hj,_⟩:=fl;have hbad:=znj T hx hs P hP hb (.lst (ks.map D.int)) (.int e) .non;rw[hbad,zox]at mk;obtain⟨_,_,_,x4⟩:=xh j (by omega);have cp:=fun σ=>zfm j (by omega) σ;refine zra (σ':=σ++[.ins 11 []]) (by simp) (by simp) ?_;generalize 3+100 * (j+1)=c at *;generalize σ++[.ins 11 []]=S at *;generalize ks.map D.int=KL at *;have hh:=znk (ρ:=[some x,some (.lst KL),some (.int e),some (.tup [.str "made",.int 0]),none]) (σ:=S) (h:=⟨yqg tbA,some 4,(ysd 3 (eFn 1 f__law_caught [] (yie (yp2 4) yo2)))⟩) (r:=[]) (x:=⟨c⟩) x4;simp[mk,hh,cp]
 |none=>
  have hg:=ziy T hx hs P hP hb (hPo hb) (KS:=.lst (ks.map D.int)) (ks:=ks) (by omega) (fun j=>zzq rfl hk hsr) e (W:=.non) (ow:=.dic [] []) (fun j=>by simp) (ws:=fun _=>[]) (fun h τ=>zk3 h _) (fun h=>by simp) (fun kd y6=>⟨[],_,yhi ..⟩);cases hsp:ks.all (fun h=>spB h e n P)with
  |true=>
   have et:ys5 n g P ks e=.tup [.str "made",.int 0]:=by unfold ys5;rw[hb];dsimp only;rw[if_pos hsp]
   rw[et];obtain⟨kd,ts,_,q⟩:=hg.2 hsp;rw[q,zoy]at mk;refine zra (σ':=hlS σ (bkD n P) (yrl n P) e kd ts) (by simp) (by unfold hlS;simp) ?_;generalize hlS σ (bkD n P) (yrl n P) e kd ts=S at *;generalize ks.map D.int=KL at *;simp[mk]
  |false=>
   have et:ys5 n g P ks e=.tup [.str "span",.int 0]:=by unfold ys5;rw[hb];dsimp only;rw[if_neg (by rw[hsp];decide)]
   rw[et];obtain⟨j,q⟩:=hg.1 hsp;rw[q,zox]at mk;have cp:=fun σ=>zec σ;refine zra (σ':=σ++j) (by simp) (by simp) ?_;generalize σ++j=S at *;generalize ks.map D.int=KL at *;have hh:=znk (ρ:=[some x,some (.lst KL),some (.int e),some (.tup [.str "made",.int 0]),none]) (σ:=S) (h:=⟨yqg tbA,some 4,(ysd 3 (eFn 1 f__law_caught [] (yie (yp2 4) yo2)))⟩) (r:=[]) (x:=⟨4⟩) rfl;simp[mk,hh,cp]
end
@[simp] theorem yj9(a b c d e f:D)(r:List D)(σ:Sto):oIx (.lst (a::b::c::d::e::f::r)) (.int 5) σ=.ok f σ:=zwg (show atI _ ((5:Nat):Int)=_ from zrz rfl)
@[simp] theorem yka(a b c d e f g:D)(r:List D)(σ:Sto):oIx (.lst (a::b::c::d::e::f::g::r)) (.int 6) σ=.ok g σ:=zwg (show atI _ ((6:Nat):Int)=_ from zrz rfl)
@[simp] theorem ykb(a b c d e f g h:D)(r:List D)(σ:Sto):oIx (.lst (a::b::c::d::e::f::g::h::r)) (.int 7) σ=.ok h σ:=zwg (show atI _ ((7:Nat):Int)=_ from zrz rfl)
@[simp] theorem ykc(a b c d e f g h i:D)(r:List D)(σ:Sto):oIx (.lst (a::b::c::d::e::f::g::h::i::r)) (.int 8) σ=.ok i σ:=zwg (show atI _ ((8:Nat):Int)=_ from zrz rfl)
@[simp] theorem zyq{ρ:Ev}{σ:Sto}(d a b c:D)(r:List D):ym4 ρ d (.ref σ.length) (.int 2) (σ++[.lst (a::b::c::r)])=.ok (.nx ρ) (σ++[.lst (a::b::d::r)]):=by
 have:ylt (.ref σ.length) (.int 2) d (σ++[.lst (a::b::c::r)])=.ok () (σ++[.lst (a::b::d::r)]):=by
  simp only[ylt,zjl];rw[show ixN (a::b::c::r).length 2=some 2 by simp[ixN];omega];simp
 unfold ym4;rw[this]
@[simp] theorem zyr{ρ:Ev}{σ:Sto}(x a b c d:D)(r:List D):ym4 ρ x (.ref σ.length) (.int 3) (σ++[.lst (a::b::c::d::r)])=.ok (.nx ρ) (σ++[.lst (a::b::c::x::r)]):=by
 have:ylt (.ref σ.length) (.int 3) x (σ++[.lst (a::b::c::d::r)])=.ok () (σ++[.lst (a::b::c::x::r)]):=by
  simp only[ylt,zjl];rw[show ixN (a::b::c::d::r).length 3=some 3 by simp[ixN];omega];simp
 unfold ym4;rw[this]
@[simp] theorem zys{ρ:Ev}{σ:Sto}(x a b c d e:D)(r:List D):ym4 ρ x (.ref σ.length) (.int 4) (σ++[.lst (a::b::c::d::e::r)])=.ok (.nx ρ) (σ++[.lst (a::b::c::d::x::r)]):=by
 have:ylt (.ref σ.length) (.int 4) x (σ++[.lst (a::b::c::d::e::r)])=.ok () (σ++[.lst (a::b::c::d::x::r)]):=by
  simp only[ylt,zjl];rw[show ixN (a::b::c::d::e::r).length 4=some 4 by simp[ixN];omega];simp
 unfold ym4;rw[this]
def yio(ns:List Int)(k:Nat):Int:=ns.getD k 0
theorem zr8(ns:List Int)(k:Int)(hk:0<=k)(σ:Sto):f__law_cell_at [.scr ns,.int k] σ=.ok (.int (yio ns k.toNat)) σ:=by
 unfold f__law_cell_at zb6 yio;by_cases h:k<ns.length
 ·simp[h,zwh hk h]
 ·have e:ns.length<=k.toNat:=by omega
  simp[h,List.getElem?_eq_none e]
def mkP(c b:Int):Pt:=⟨c % 4,(c % 4+1+c / 4 % 3) % 4,b % 1000000000001,b / 7 % 1000000000001,1+c / 12 % 100⟩
theorem yej(c b:Int):(mkP c b).Ok:=by
 refine⟨?_,?_,?_,?_,?_,?_⟩<;>simp only[mkP]<;>omega
theorem zgl(xs:List D)(σ:Sto):yez [.ref σ.length] (σ++[.lst xs])=.ok (.tup xs) (σ++[.lst xs]):=by
 unfold yez;simp only[zkk];rfl
theorem ygq(xs:List D)(lo hi:Option Int)(σ:Sto):ysk (.ref σ.length) lo hi (σ++[.lst xs])=.ok (.lst (ypn xs lo hi)) (σ++[.lst xs]):=by
 have h:yqt (σ++[.lst xs]) (.ref σ.length)=some xs:=by simp[yqt]
 unfold ysk ypo;dsimp only;rw[h]
theorem p20(σ:Sto):yrd (.int 10) (.int 20) σ=.ok (.int 100000000000000000000) σ:=zwo (by simp[ypi])
theorem zxf(c b f l w:Int)(p:Pt)(hw:1<=w)(hl:p.l=l)(hp:p.Ok)(hf:0<=f):∃ d,Th d (decide (9<f))/\(9<f->d=p.D)/\∀ (σ:Sto) (x4:Option D),∃ L,poT [some (.int c),some (.int b),some (.int f),some (.int l),x4,some (.ref σ.length),some (.int w),none] (σ++[.lst [.int p.l,.int p.r,.int p.u,.int p.v,.int p.t]])=.ok (.rt d) (σ++[.lst L]):=by
 have th:=yg8 hp;unfold poT;by_cases h9:9<f
 ·have b9:decide (f > 9)=true:=by simpa using h9
  rw[show decide (9<f)=true by simpa using h9];refine⟨p.D,th,fun _=>rfl,fun σ x4=>⟨[.int p.l,.int p.r,.int p.u,.int p.v,.int p.t],?_⟩⟩;have o:=zgl [.int p.l,.int p.r,.int p.u,.int p.v,.int p.t] σ;unfold Pt.D;generalize ([.int p.l,.int p.r,.int p.u,.int p.v,.int p.t]:List D)=L at *;simp[h9,o]
 ·have b9:decide (9<f)=false:=by simpa using h9
  rw[b9];obtain⟨pl,pr,pu,pv,pt⟩:=p;dsimp only at hl;subst hl;dsimp only;have sc:∀ (a b c d e:D),Sc a=true->Sc b=true->Sc c=true->Sc d=true->Sc e=true->gd5 a b c d e=false->Th (.tup [a,b,c,d,e]) false:=fun a b c d e h1 h2 h3 h4 h5 hg=>by
   have:=th5 (a:=a) (b:=b) (c:=c) (d:=d) (e:=e) (by intro x hx;simp at hx;rcases hx with rfl|rfl|rfl|rfl|rfl<;>assumption);rw[hg]at this;exact this
  have ot:=fun xs σ=>zgl xs σ;have hc:f=0\/f=1\/f=2\/f=3\/f=4\/f=5\/f=6\/f=7\/f=8\/f=9:=by omega
  rcases hc with rfl|rfl|rfl|rfl|rfl|rfl|rfl|rfl|rfl|rfl
  ·refine⟨.tup [.int (3+w),.int pr,.int pu,.int pv,.int pt],sc _ _ _ _ _ rfl rfl rfl rfl rfl ?_,fun z=>by omega,fun σ x4=>⟨[.int (3+w),.int pr,.int pu,.int pv,.int pt],?_⟩⟩
   ·have:bd (.int (3+w)) 0 3=false:=by simp[bd];omega
    simp[gd5,this]
   ·simp[ot]
  ·refine⟨.tup [.int pl,.int (-w),.int pu,.int pv,.int pt],sc _ _ _ _ _ rfl rfl rfl rfl rfl ?_,fun z=>by omega,fun σ x4=>⟨[.int pl,.int (-w),.int pu,.int pv,.int pt],?_⟩⟩
   ·have:bd (.int (-w)) 0 3=false:=by simp[bd];omega
    simp[gd5,this]
   ·simp[ot]
  ·refine⟨.tup [.int pl,.int pl,.int pu,.int pv,.int pt],sc _ _ _ _ _ rfl rfl rfl rfl rfl ?_,fun z=>by omega,fun σ x4=>⟨[.int pl,.int pl,.int pu,.int pv,.int pt],?_⟩⟩
   ·simp[gd5,neI]
   ·simp[ot]
  ·refine⟨.tup [.int pl,.int pr,.int (1000000000000+w),.int pv,.int pt],sc _ _ _ _ _ rfl rfl rfl rfl rfl ?_,fun z=>by omega,fun σ x4=>⟨[.int pl,.int pr,.int (1000000000000+w),.int pv,.int pt],?_⟩⟩
   ·have:bd (.int (1000000000000+w)) 0 1000000000000=false:=by simp[bd];omega
    simp[gd5,this]
   ·simp[ot]
  ·refine⟨.tup [.int pl,.int pr,.int pu,.int (-w),.int pt],sc _ _ _ _ _ rfl rfl rfl rfl rfl ?_,fun z=>by omega,fun σ x4=>⟨[.int pl,.int pr,.int pu,.int (-w),.int pt],?_⟩⟩
   ·have:bd (.int (-w)) 0 1000000000000=false:=by simp[bd];omega
    simp[gd5,this]
   ·simp[ot]
  ·refine⟨.tup [.int pl,.int pr,.bl true,.int pv,.int pt],sc _ _ _ _ _ rfl rfl rfl rfl rfl ?_,fun z=>by omega,fun σ x4=>⟨[.int pl,.int pr,.bl true,.int pv,.int pt],?_⟩⟩
   ·simp[gd5,bd]
   ·simp[ot]
  ·refine⟨.tup [.int pl,.int pr,.int pu,.int pv,.int 0],sc _ _ _ _ _ rfl rfl rfl rfl rfl ?_,fun z=>by omega,fun σ x4=>⟨[.int pl,.int pr,.int pu,.int pv,.int 0],?_⟩⟩
   ·simp[gd5,bd]
   ·simp[ot]
  ·refine⟨.tup [.int pl,.int pr,.int pu,.int pv,.int (100+w)],sc _ _ _ _ _ rfl rfl rfl rfl rfl ?_,fun z=>by omega,fun σ x4=>⟨[.int pl,.int pr,.int pu,.int pv,.int (100+w)],?_⟩⟩
   ·have:bd (.int (100+w)) 1 100=false:=by simp[bd];omega
    simp[gd5,this]
   ·simp[ot]
  ·refine⟨.tup [.int pl,.int pr,.int pu,.non,.int pt],sc _ _ _ _ _ rfl rfl rfl rfl rfl ?_,fun z=>by omega,fun σ x4=>⟨[.int pl,.int pr,.int pu,.non,.int pt],?_⟩⟩
   ·simp[gd5,bd]
   ·simp[ot]
  ·refine⟨.tup [.int pl,.int pr,.int pu,.int pv],yg9 (by intro x hx;simp at hx;rcases hx with rfl|rfl|rfl|rfl<;>rfl) (by simp),fun z=>by omega,fun σ x4=>⟨[.int pl,.int pr,.int pu,.int pv,.int pt],?_⟩⟩;have s:=ygq [.int pl,.int pr,.int pu,.int pv,.int pt] none (some 4) σ;have q:ypn [D.int pl,.int pr,.int pu,.int pv,.int pt] none (some 4)=[.int pl,.int pr,.int pu,.int pv]:=rfl;rw[q]at s;simp[s]
theorem yef(a b c d e:D)(σ:Sto):yqu [a,b,c,d,e] σ=.ok (.ref σ.length) (σ++[.lst [a,b,c,d,e]]):=nr rfl
theorem yfy(c b f:Int)(hf:0<=f):∃ d,Th d (decide (9<f))/\(9<f->d=(mkP c b).D)/\∀ σ,f__law_pot [.int c,.int b,.int f] σ=.ok d σ:=by
 obtain⟨d,h1,h2,h3⟩:=zxf c b f (c % 4) (1+b % 100000000000000000000) (mkP c b) (by omega) rfl (yej c b) hf;refine⟨d,h1,h2,fun σ=>?_⟩;obtain⟨L,e⟩:=h3 σ (some (.int ((c % 4+1+c / 4 % 3) % 4)));have hc:=h1.cl;have l5:=fun a b c d e σ=>yef a b c d e σ;have q:=fun σ=>p20 σ;unfold mkP at e;dsimp only at e;unfold f__law_pot zfz;rw[zur,ycq,ygi];show yp9 σ (yr5 (ysc _ _ [some (.int c),some (.int b),some (.int f),none,none,none,none,none] σ))=_;have fz:yp9 σ (yr5 (.ok (.rt d) (σ++[.lst L])))=.ok d σ:=by rw[zx2];exact zt4 hc (by simp)
 have m4:=fun(i:Int) (σ:Sto)=>zwk (σ:=σ) i 4 (by decide);have m3:=fun(i:Int) (σ:Sto)=>zwk (σ:=σ) i 3 (by decide);have m100:=fun(i:Int) (σ:Sto)=>zwk (σ:=σ) i 100 (by decide);have mc:=fun(i:Int) (σ:Sto)=>zwk (σ:=σ) i 1000000000001 (by decide);have mf:=fun(i:Int) (σ:Sto)=>zwk (σ:=σ) i 100000000000000000000 (by decide);have d4:=fun(i:Int) (σ:Sto)=>zwb (σ:=σ) i 4 (by decide) (by decide);have d7:=fun(i:Int) (σ:Sto)=>zwb (σ:=σ) i 7 (by decide) (by decide);have d12:=fun(i:Int) (σ:Sto)=>zwb (σ:=σ) i 12 (by decide) (by decide);have a1:(1000000000000:Int)+1=1000000000001:=by decide
 have step:∀ (i:Nat) (f:Ev->M D) (g:Ev->M Fl) (ρ:Ev) (σ:Sto),ysc (ysd i f) g ρ σ=(xsO ρ (ysh i ρ) (f ρ σ)).bind (ysf g):=fun i f g ρ σ=>by rw[zyb,zyc]
 rw[step];simp only[zsu,ybp,ybo,zr5,zr4,yix,m4,yhx,zyn,zyi,List.set_cons_zero,List.set_cons_succ];rw[step];simp only[zsu,ybp,ybo,zr5,zr4,yix,m4,m3,d4,zo0,yhx,zyn,zyi,List.set_cons_zero,List.set_cons_succ];rw[step];simp only[zsw,zk7,zhk,zrp,zlt,zsu,ybp,ybo,zr5,zr4,yix,p12,a1,mc,d7,d12,m100,l5,zo0,yhx,zyn,zyi,List.set_cons_zero,List.set_cons_succ];rw[step];simp only[zsu,ybp,ybo,zr5,zr4,yix,q,mf,zo0,yhx,zyn,zyi,List.set_cons_zero,List.set_cons_succ];rw[e,fz]
theorem zng:yjv=(ysc u1 (ysc u2 (ysc u3 (ysc u4 (ysc u5 (ysc u6 (ysc u7 (ysc u8 (ysc u9 (ysc u10 (ysc u11 (ysc u12 (ysc u13 (ysc u14 (ysc u15 (ysc u16 (ysc u17 (ysc u18 (ysc u19 (ysc u20 u21)))))))))))))))))))):=nr rfl
def evL(ns:List Int)(x1 x2 x3 x4 x5 x6 x7 x8 x9 x10 x11 x12:Option D):Ev:=[some (.scr ns),x1,x2,x3,x4,x5,x6,x7,x8,x9,x10,x11,x12]
def kpQ(z:Int)(i:Int):Bool:=Builtin.bitAnd (z / 2 ^ i.toNat) 1 == 1
def ksV(z:Int):List Int:=[0,1,2,3].filter (kpQ z)
theorem yns(ns:List Int)(x1:Option D):u2 (evL ns x1 none none none none none none none none none none none) []=.ok (.nx (evL ns x1 (some (.lst ((ksV (yio ns 1)).map D.int))) none none none none none none none none none none)) []:=by
 have rk:∀ σ,yr4 (.int 4) σ=.ok (.seq (yge 4)) σ:=fun σ=>by have:=zx0 (σ:=σ) (j:=(4:Int)) (by omega) (by omega);simpa using this
 have c:=fun σ=>zr8 ns 1 (by decide) σ;have lc:=yd6 (s:=.seq (yge 4)) (ix:=[0]) (ρ:=evL ns x1 none none none none none none none none none none none) (σ:=[]) (src:=ysn (eC (.int 4))) (fi:=(eT (ypu oEq (ypu yln (ypu yrf (eFn 2 f__law_cell_at [] (yie (yp2 2) (yie (eC (.int 1)) yo2))) (yp2 0)) (eC (.int 1))) (eC (.int 1))))) (fe:=yp2 0) (ds:=yge 4)
  (fun d=>d) (fun d=>match d with | .int i=>kpQ (yio ns 1) i|_=>false) (by simp[rk]) (fun _ _=>rfl) (by simp[yge]) (fun d hd j=>by
   unfold yge at hd;obtain⟨i,hi,rfl⟩:=List.mem_map.mp hd;refine⟨?_,fun _=>by simp⟩;have c':∀ σ,f__law_cell_at [.scr ns,.int 1] σ=.ok (.int (yio ns 1)) σ:=c;unfold kpQ evL;generalize yio ns 1=z at *;generalize ([]++j:Sto)=σ;simp[c']) (fun d hd _=>by unfold yge at hd;obtain⟨i,hi,rfl⟩:=List.mem_map.mp hd;simp)
 have e:((yge 4).filter (fun d=>match d with | .int i=>kpQ (yio ns 1) i|_=>false)).map (fun d=>d)=(ksV (yio ns 1)).map D.int:=by
  unfold ksV;have:yge 4=([0,1,2,3]:List Int).map D.int:=rfl;rw[this,List.filter_map,List.map_map];rfl
 rw[e]at lc;unfold u2;rw[zyc,lc,yhx,zyn];rfl
theorem yd3(z:Int):∃ b0 b1 b2 b3:Bool,ksV z=(if b0 then [0]else [])++(if b1 then [1]else [])++(if b2 then [2]else [])++(if b3 then [3]else []):=by
 refine⟨kpQ z 0,kpQ z 1,kpQ z 2,kpQ z 3,?_⟩;unfold ksV;simp only[List.filter_cons,List.filter_nil];cases kpQ z 0<;>cases kpQ z 1<;>cases kpQ z 2<;>cases kpQ z 3<;>rfl
structure KsOk(ks:List Int):Prop where
 len:ks.length<=4
 srt:ysp (ddp ks)=ks
 srtr:ysp (ddp ks.reverse)=ks
theorem ygz{l ks:List Int}(h:l.Perm ks)(s:ks.Pairwise (·<=·)):ysp l=ks:=zxs ((zkq l).trans h) (zzp l) s
theorem ykr(z:Int):KsOk (ksV z):=by
 obtain⟨b0,b1,b2,b3,e⟩:=yd3 z;rw[e];refine⟨?_,ygz ?_ ?_,ygz ?_ ?_⟩
 ·cases b0<;>cases b1<;>cases b2<;>cases b3<;>decide
 ·cases b0<;>cases b1<;>cases b2<;>cases b3<;>decide
 ·cases b0<;>cases b1<;>cases b2<;>cases b3<;>decide
 ·cases b0<;>cases b1<;>cases b2<;>cases b3<;>decide
 ·cases b0<;>cases b1<;>cases b2<;>cases b3<;>decide
theorem ynr(ns:List Int){n:Nat}(hn:(n:Int)=yio ns 0 % 5):u1 (evL ns none none none none none none none none none none none none) []=.ok (.nx (evL ns (some (.int n)) none none none none none none none none none none none)) []:=by
 have c:∀ σ,f__law_cell_at [.scr ns,.int 0] σ=.ok (.int (yio ns 0)) σ:=fun σ=>zr8 ns 0 (by decide) σ;unfold u1 evL;generalize yio ns 0=z at *;rw[hn];simp[c]
def evV(ns:List Int):Int:=yio ns 2 % 56 - 2
theorem ynt(ns:List Int)(x1 x2:Option D):u3 (evL ns x1 x2 none none none none none none none none none none) []=.ok (.nx (evL ns x1 x2 (some (.int (evV ns))) none none none none none none none none none)) []:=by
 have c:∀ σ,f__law_cell_at [.scr ns,.int 2] σ=.ok (.int (yio ns 2)) σ:=fun σ=>zr8 ns 2 (by decide) σ;unfold u3 evL evV;generalize yio ns 2=z at *;simp[c]
theorem yhr(ns:List Int)(x1 x2 x3:Option D):ysc u4 u5 (evL ns x1 x2 x3 none none none none none none none none none) []=.ok (.nx (evL ns x1 x2 x3 (some (.ref 0)) (some (.ref 1)) none none none none none none none)) [.lst [],.lst []]:=by
 have l0:∀ σ:Sto,yqu [] σ=.ok (.ref σ.length) (σ++[.lst []]):=fun σ=>yee;unfold u4 u5 evL;simp[l0]
def fV(ns:List Int)(i:Nat):Int:=yio ns (3+3 * i) % 40
theorem yp5(ns:List Int)(i:Nat):0<=fV ns i:=by unfold fV;omega
def gV(ns:List Int)(i:Nat):Bool:=decide (9<fV ns i)
def pP(ns:List Int)(i:Nat):Pt:=mkP (yio ns (4+3 * i)) (yio ns (5+3 * i))
noncomputable def pF(ns:List Int)(i:Nat):D:=(yfy (yio ns (4+3 * i)) (yio ns (5+3 * i)) (fV ns i) (yp5 ns i)).choose
theorem ylz(ns:List Int)(i:Nat):Th (pF ns i) (gV ns i)/\(gV ns i=true->pF ns i=(pP ns i).D)/\∀ σ,f__law_pot [.int (yio ns (4+3 * i)),.int (yio ns (5+3 * i)),.int (fV ns i)] σ=.ok (pF ns i) σ:=by
 obtain⟨h1,h2,h3⟩:=(yfy (yio ns (4+3 * i)) (yio ns (5+3 * i)) (fV ns i) (yp5 ns i)).choose_spec;exact⟨h1,fun q=>h2 (by simpa [gV]using q),h3⟩
theorem ths(ns:List Int){n:Nat}(hn:n<=4):Ths n (pF ns) (gV ns):=⟨hn,fun i _=>(ylz ns i).1⟩
theorem zj3(ns:List Int){n:Nat}(hb:fb (gV ns) n 0=none):thL n (pF ns)=thL n fun i=>(pP ns i).D:=by
 have fl:=yci (gV ns) n 0;rw[hb]at fl;unfold thL;refine List.map_congr_left fun i hi=>?_;have:=fl.2 i (by omega) (by have:=List.mem_range.mp hi;omega);unfold bdI at this;simp only[Bool.or_eq_false_iff,Bool.not_eq_false']at this;exact(ylz ns i).2.1 this.2
theorem zq8(n:Nat)(F:Nat->D):thL (n+1) F=thL n F++[F n]:=by unfold thL;rw[List.range_succ,List.map_append];rfl
theorem zhl(g:Nat->Bool)(n:Nat):ypb g (n+1)=ypb g n++(if bdI g n=true then [(n:Int)]else []):=by
 unfold ypb;rw[List.range_succ,List.filter_append,List.map_append];congr 1;rw[List.filter_cons,List.filter_nil];split<;>rfl
noncomputable def s2(ns:List Int)(i:Nat):Sto:=[.lst (thL i (pF ns)),.lst ((ypb (gV ns) i).map D.int)]
theorem zlc(g:Nat->Bool)(n:Nat):(ypb g n).length<=n:=by
 unfold ypb;rw[List.length_map];exact Nat.le_trans (List.length_filter_le _ _) (by simp)
theorem yo5{A B:List D}(d:D)(h:A.length<1000):zv8 (.ref 0) [d] [.lst A,.lst B]=.ok .non [.lst (A++[d]),.lst B]:=by
 unfold zv8;have:ykw [.lst A,.lst B] 0=some A:=rfl;simp only[this];rw[if_pos (show A.length<cap from h)];rfl
theorem yo6{A B:List D}(d:D)(h:B.length<1000):zv8 (.ref 1) [d] [.lst A,.lst B]=.ok .non [.lst A,.lst (B++[d])]:=by
 unfold zv8;have:ykw [.lst A,.lst B] 1=some B:=rfl;simp only[this];rw[if_pos (show B.length<cap from h)];rfl
theorem zw0(ns:List Int)(i:Nat)(hi:i<4)(x1 x2 x3 x7:Option D):∃ y7,pbB (evL ns x1 x2 x3 (some (.ref 0)) (some (.ref 1)) (some (.int i)) x7 none none none none none) (s2 ns i)=.ok (.nx (evL ns x1 x2 x3 (some (.ref 0)) (some (.ref 1)) (some (.int i)) y7 none none none none none)) (s2 ns (i+1)):=by
 have c3:∀ σ,f__law_cell_at [.scr ns,.int (3+3 * (i:Int))] σ=.ok (.int (yio ns (3+3 * i))) σ:=fun σ=>by
  have:=zr8 ns (3+3 * (i:Int)) (by omega) σ
  rwa [show (3+3 * (i:Int)).toNat=3+3 * i by omega]at this
 have c4:∀ σ,f__law_cell_at [.scr ns,.int (4+3 * (i:Int))] σ=.ok (.int (yio ns (4+3 * i))) σ:=fun σ=>by
  have:=zr8 ns (4+3 * (i:Int)) (by omega) σ
  rwa [show (4+3 * (i:Int)).toNat=4+3 * i by omega]at this
 have c5:∀ σ,f__law_cell_at [.scr ns,.int (5+3 * (i:Int))] σ=.ok (.int (yio ns (5+3 * i))) σ:=fun σ=>by
  have:=zr8 ns (5+3 * (i:Int)) (by omega) σ
  rwa [show (5+3 * (i:Int)).toNat=5+3 * i by omega]at this
 have hm:∀ (z:Int) σ,yrb (.int 3) (.int z) σ=.ok (.int (3 * z)) σ:=fun z σ=>zwl (yaq (by decide) (by decide));have hp:=(ylz ns i).2.2;have a0:zv8 (.ref 0) [pF ns i] (s2 ns i)=.ok .non [.lst (thL (i+1) (pF ns)),.lst ((ypb (gV ns) i).map D.int)]:=by
  rw[zq8];exact yo5 _ (by rw[zzu];omega)
 have m0:∀ fs,yk5 zv8 fs (.ref 0) (s2 ns i)=(fs (s2 ns i)).bind (zv8 (.ref 0)):=fun fs=>zon (xs:=thL i (pF ns)) rfl;have a1:zv8 (.ref 1) [.int i] [.lst (thL (i+1) (pF ns)),.lst ((ypb (gV ns) i).map D.int)]=.ok .non [.lst (thL (i+1) (pF ns)),.lst ((ypb (gV ns) i++[(i:Int)]).map D.int)]:=by
  rw[List.map_append];exact yo6 _ (by rw[List.length_map];have:=zlc (gV ns) i;omega)
 have m1:∀ fs,yk5 zv8 fs (.ref 1) [.lst (thL (i+1) (pF ns)),.lst ((ypb (gV ns) i).map D.int)]=(fs [.lst (thL (i+1) (pF ns)),.lst ((ypb (gV ns) i).map D.int)]).bind (zv8 (.ref 1)):=fun fs=>zon (xs:=(ypb (gV ns) i).map D.int) rfl;have e2:s2 ns (i+1)=[.lst (thL (i+1) (pF ns)),.lst ((ypb (gV ns) i++(if bdI (gV ns) i=true then [(i:Int)]else [])).map D.int)]:=by unfold s2;rw[zhl]
 refine⟨some (.int (fV ns i)),?_⟩;rw[e2];have hb:bdI (gV ns) i=(decide (fV ns i<10) || ((i:Int) == 3)):=by
  unfold bdI gV;rw[Bool.eq_iff_iff];simp only[Bool.or_eq_true,decide_eq_true_eq,Bool.not_eq_true',decide_eq_false_iff_not,beq_iff_eq];omega
 rw[hb];have hf:fV ns i=yio ns (3+3 * i) % 40:=rfl;unfold pbB evL;rw[hf]at hp ⊢;generalize yio ns (3+3 * i)=z3 at *;generalize yio ns (4+3 * i)=z4 at *;generalize yio ns (5+3 * i)=z5 at *;generalize pF ns i=PD at *;generalize hA:((ypb (gV ns) i++[(i:Int)]).map D.int)=B1 at *;generalize hS:s2 ns i=S at *;generalize thL (i+1) (pF ns)=L1 at *;cases b1:decide (z3 % 40<10)
 ·cases b2:((i:Int) == 3)
  ·simp[c3,c4,c5,hm,hp,m0,a0,b1,b2]
  ·simp[c3,c4,c5,hm,hp,m0,a0,b1,b2,m1,a1];rw[<-hA];simp
 ·simp[c3,c4,c5,hm,hp,m0,a0,b1,m1,a1];rw[<-hA];simp
theorem zwz(ns:List Int)(x1 x2 x3:Option D):∀ (k i:Nat) (x6 x7:Option D),i+k<=4->∃ y6 y7,yqs (tgN 6) pbB ((List.range' i k).map fun(k:Nat)=>D.int k) (evL ns x1 x2 x3 (some (.ref 0)) (some (.ref 1)) x6 x7 none none none none none) (s2 ns i)=.ok (.nx (evL ns x1 x2 x3 (some (.ref 0)) (some (.ref 1)) y6 y7 none none none none none)) (s2 ns (i+k))
 |0,i,x6,x7,_=>⟨x6,x7,by simp⟩
 |k+1,i,x6,x7,h=>by
  obtain⟨z7,st⟩:=zw0 ns i (by omega) x1 x2 x3 x7;obtain⟨y6,y7,r⟩:=zwz ns x1 x2 x3 k (i+1) (some (.int i)) z7 (by omega);refine⟨y6,y7,?_⟩;rw[List.range'_succ,List.map_cons,zoj];show (pbB (evL ns x1 x2 x3 (some (.ref 0)) (some (.ref 1)) (some (.int i)) x7 none none none none none) _).bind _=_;rw[st,zr5,zog,r];congr 2;omega
theorem ynu(ns:List Int){n:Nat}(hn:n<=4)(x2 x3:Option D):∃ y6 y7,u6 (evL ns (some (.int n)) x2 x3 (some (.ref 0)) (some (.ref 1)) none none none none none none none) [.lst [],.lst []]=.ok (.nx (evL ns (some (.int n)) x2 x3 (some (.ref 0)) (some (.ref 1)) y6 y7 none none none none none)) (s2 ns n):=by
 obtain⟨y6,y7,r⟩:=zwz ns (some (.int n)) x2 x3 n 0 none none (by omega);refine⟨y6,y7,?_⟩;rw[<-zka,Nat.zero_add]at r;have rk:∀ σ,yr4 (.int (n:Int)) σ=.ok (.seq (yge n)) σ:=fun σ=>by have:=zx0 (σ:=σ) (j:=(n:Int)) (by omega) (by omega);simpa using this
 unfold u6;have v:∀ σ,yp2 1 (evL ns (some (.int n)) x2 x3 (some (.ref 0)) (some (.ref 1)) none none none none none none none) σ=.ok (.int n) σ:=fun σ=>by unfold evL;simp
 rw[zx6,zzm,v,zr5,rk,yhx,zm7];exact r
theorem ymn(ns:List Int)(n:Nat)(j:Sto):yqt (s2 ns n++j) (.ref 0)=some (thL n (pF ns)):=rfl
theorem ymo(ns:List Int)(n:Nat)(j:Sto):ymy (s2 ns n++j) (.ref 0)=some (thL n (pF ns)):=rfl
noncomputable abbrev tdV(ns:List Int)(n:Nat):D:=ys5 n (gV ns) (pP ns) (ksV (yio ns 1)) (evV ns)
theorem ynv(ns:List Int){n:Nat}(hn:n<=4)(x1 x6 x7:Option D):u7 (evL ns x1 (some (.lst ((ksV (yio ns 1)).map D.int))) (some (.int (evV ns))) (some (.ref 0)) (some (.ref 1)) x6 x7 none none none none none) (s2 ns n)=.ok (.nx (evL ns x1 (some (.lst ((ksV (yio ns 1)).map D.int))) (some (.int (evV ns))) (some (.ref 0)) (some (.ref 1)) x6 x7 (some (tdV ns n)) none none none none)) (s2 ns n):=by
 have k:=ykr (yio ns 1);have t:=zzv (ths ns hn) (σ:=s2 ns n) (x:=.ref 0) (ymn ns n) (ymo ns n) (pP ns) (zj3 ns) (fun _ i _=>yej ..) (by have:=k.len;omega) k.srt (evV ns);unfold u7 evL tdV;generalize ys5 n (gV ns) (pP ns) (ksV (yio ns 1)) (evV ns)=TD at *;generalize (ksV (yio ns 1)).map D.int=KL at *;generalize s2 ns n=S at *;simp[t]
theorem yi8{xs:List D}(h:∀ x∈xs,Sc x=true)(σ:Sto):oEq (.tup xs) (.tup xs) σ=.ok (.bl true) σ/\oNe (.tup xs) (.tup xs) σ=.ok (.bl false) σ:=by
 have:eqD σ 8 (.tup xs) (.tup xs)=some true:=by
  show eqL (eqD σ 7) _ _=some true;exact zl9 fun x hx=>ymw (h x hx) 7 σ
 exact⟨yew this,yey this⟩
theorem yi9(s:Str)(i:Int)(σ:Sto):oEq (.tup [.str s,.int i]) (.tup [.str s,.int i]) σ=.ok (.bl true) σ/\oNe (.tup [.str s,.int i]) (.tup [.str s,.int i]) σ=.ok (.bl false) σ:=
 yi8 (by intro x hx;simp at hx;rcases hx with rfl|rfl<;>rfl) σ
theorem ylb(l:List Int)(σ:Sto):oNe (.lst (l.map D.int)) (.lst []) σ=.ok (.bl (!l.isEmpty)) σ:=by
 have:eqD σ 8 (.lst (l.map D.int)) (.lst [])=some l.isEmpty:=by cases l<;>rfl
 exact yey this
theorem yi7(l:List Int)(σ:Sto):oEq (.lst (l.map D.int)) (.lst []) σ=.ok (.bl l.isEmpty) σ:=by
 have:eqD σ 8 (.lst (l.map D.int)) (.lst [])=some l.isEmpty:=by cases l<;>rfl
 exact yew this
theorem ylf(A:List D)(l:List Int):oNe (.ref 1) (.lst []) [.lst A,.lst (l.map D.int)]=.ok (.bl (!l.isEmpty)) [.lst A,.lst (l.map D.int)]:=by
 have:eqD [.lst A,.lst (l.map D.int)] 8 (.ref 1) (.lst [])=some l.isEmpty:=by cases l<;>rfl
 exact yey this
theorem yhs(ns:List Int){n j:Nat}{r:List Int}(hb:ypb (gV ns) n=(j:Int)::r)(x1 x2 x3 x6 x7:Option D):u8 (evL ns x1 x2 x3 (some (.ref 0)) (some (.ref 1)) x6 x7 (some (.tup [.str "pot",.int j])) none none none none) (s2 ns n)=.ok (.rt (.bl true)) (s2 ns n):=by
 have ne:oNe (.ref 1) (.lst []) (s2 ns n)=.ok (.bl true) (s2 ns n):=by unfold s2;rw[hb];exact ylf _ _
 have ix:oIx (.ref 1) (.int 0) (s2 ns n)=.ok (.int j) (s2 ns n):=by
  have s:ymy (s2 ns n) (.ref 1)=some ((j:Int)::r |>.map D.int):=by unfold s2;rw[hb];rfl
  unfold oIx;simp only[s,List.map_cons];rw[show atI (D.int (j:Int)::r.map D.int) (0:Int)=some (.int j)from(show atI _ ((0:Nat):Int)=_ from zrz rfl)]
 have eq:=(yi9 "pot" j (s2 ns n)).1;unfold u8 evL;generalize s2 ns n=S at *;simp[ne,ix,eq]
theorem ynw(ns:List Int){n:Nat}(hb:ypb (gV ns) n=[])(x1 x2 x3 x6 x7 x8:Option D):u8 (evL ns x1 x2 x3 (some (.ref 0)) (some (.ref 1)) x6 x7 x8 none none none none) (s2 ns n)=.ok (.nx (evL ns x1 x2 x3 (some (.ref 0)) (some (.ref 1)) x6 x7 x8 none none none none)) (s2 ns n):=by
 have ne:oNe (.ref 1) (.lst []) (s2 ns n)=.ok (.bl false) (s2 ns n):=by unfold s2;rw[hb];exact ylf _ []
 unfold u8 evL;generalize s2 ns n=S at *;simp[ne]
def shB(ks:List Int)(e:Int)(p:Pt):Bool:=(ks.any (·== p.l) || ks.any (·== p.r)) && decide (p.t<e+1)
def shP(ks:List Int)(e:Int)(n:Nat)(P:Nat->Pt):List Pt:=((List.range n).map P).filter (shB ks e)
theorem ynx(ns:List Int){n:Nat}(hn:n<=4)(hF:thL n (pF ns)=thL n fun i=>(pP ns i).D)(ks:List Int)(e:Int)(x1 x6 x7 x8:Option D):u9 (evL ns x1 (some (.lst (ks.map D.int))) (some (.int e)) (some (.ref 0)) (some (.ref 1)) x6 x7 x8 none none none none) (s2 ns n)=.ok (.nx (evL ns x1 (some (.lst (ks.map D.int))) (some (.int e)) (some (.ref 0)) (some (.ref 1)) x6 x7 x8 (some (.lst ((shP ks e n (pP ns)).map Pt.D))) none none none)) (s2 ns n):=by
 have hl:ykw (s2 ns n) 0=some (((List.range n).map (pP ns)).map Pt.D):=by
  show some (thL n (pF ns))=_;rw[hF];unfold thL;rw[List.map_map];rfl
 have lc:=yd6 (s:=.lref 0) (ix:=[2,3]) (ρ:=evL ns x1 (some (.lst (ks.map D.int))) (some (.int e)) (some (.ref 0)) (some (.ref 1)) x6 x7 x8 none none none none) (σ:=s2 ns n) (src:=yso (yp2 4))
  (fi:=(yo8 (bOr (eT (ypu (oIn false) (ypu oIx (yp2 0) (eC (.int 0))) (yp2 2))) (eT (ypu (oIn false) (ypu oIx (yp2 0) (eC (.int 1))) (yp2 2)))) (eT (ypu oLt (ypu oIx (yp2 0) (eC (.int 4))) (ypu yq2 (yp2 3) (eC (.int 1))))))) (fe:=yp2 0) (ds:=((List.range n).map (pP ns)).map Pt.D)
  (fun d=>d) (fun d=>match d with | .tup [.int l,.int r,.int u,.int v,.int t]=>shB ks e ⟨l,r,u,v,t⟩|_=>false) (by unfold evL;simp[ymx,hl]) (fun i j=>by unfold Src.nx;dsimp only;rw[show ykw (s2 ns n++j) 0=some (((List.range n).map (pP ns)).map Pt.D)from hl];rfl) (by simp;omega) (fun d hd j=>by
   obtain⟨p,hp,rfl⟩:=List.mem_map.mp hd;refine⟨?_,fun _=>by simp⟩;have i0:=fun σ=>pi0 p σ;have i1:=fun σ=>pi1 p σ;have i4:=fun σ=>pi4 p σ;have in1:=fun(w:Int) (σ:Sto)=>zo1 (σ:=σ) (neg:=false) (w:=w) (x:=.lst (ks.map D.int)) (ws:=ks) rfl;have e0:(match p.D with | .tup [.int l,.int r,.int u,.int v,.int t]=>shB ks e ⟨l,r,u,v,t⟩|_=>false)=shB ks e p:=rfl;rw[e0];unfold evL shB;generalize (s2 ns n++j:Sto)=σ;generalize p.D=PD at *;generalize ks.map D.int=KL at *;simp only[List.map_cons,List.map_nil,List.getElem?_cons_succ,List.getElem?_cons_zero,Option.getD_some];cases b1l:ks.any (·== p.l)<;>cases b2l:ks.any (·== p.r)<;>cases b3:decide (p.t<e+1)<;>simp[i0,i1,i4,in1,b1l,b2l,b3]) (fun d hd _=>by obtain⟨p,hp,rfl⟩:=List.mem_map.mp hd;simp[Pt.D])
 have e0:((((List.range n).map (pP ns)).map Pt.D).filter (fun d=>match d with | .tup [.int l,.int r,.int u,.int v,.int t]=>shB ks e ⟨l,r,u,v,t⟩|_=>false)).map (fun d=>d)=(shP ks e n (pP ns)).map Pt.D:=by
  unfold shP;rw[List.filter_map,List.map_map];rfl
 rw[e0]at lc;unfold u9;rw[zyc,lc,yhx,zyn];rfl
theorem yen(l:List Pt)(σ:Sto):oNe (.lst (l.map Pt.D)) (.lst []) σ=.ok (.bl (!l.isEmpty)) σ:=by
 have:eqD σ 8 (.lst (l.map Pt.D)) (.lst [])=some l.isEmpty:=by cases l<;>rfl
 exact yey this
theorem zq1{ks:List Int}{e:Int}{n:Nat}{P:Nat->Pt}(hk:ks.isEmpty=false):ks.all (fun h=>spB h e n P) = !(decide (e<1) || (decide (e > 50) || !(shP ks e n P).isEmpty)):=by
 have key:(shP ks e n P).isEmpty=false ↔ ∃ h∈ks,((List.range n).map P).any (ypa h e)=true:=by
  unfold shP;constructor
  ·intro q;obtain⟨p,hp⟩:∃ p,p∈((List.range n).map P).filter (shB ks e):=by
    cases hl:((List.range n).map P).filter (shB ks e)with
    |nil=>rw[hl]at q;cases q
    |cons p r=>exact⟨p,by simp⟩
   obtain⟨h1,h2⟩:=List.mem_filter.mp hp;unfold shB at h2;simp only[Bool.and_eq_true,Bool.or_eq_true,List.any_eq_true,beq_iff_eq,decide_eq_true_eq]at h2;obtain⟨h3,h4⟩:=h2;rcases h3 with⟨h,a,b⟩|⟨h,a,b⟩
   ·refine⟨h,a,List.any_eq_true.mpr ⟨p,h1,?_⟩⟩;unfold ypa;simp[b,h4]
   ·refine⟨h,a,List.any_eq_true.mpr ⟨p,h1,?_⟩⟩;unfold ypa;simp[b,h4]
  ·rintro ⟨h,a,b⟩;obtain⟨p,h1,h2⟩:=List.any_eq_true.mp b;unfold ypa at h2;simp only[Bool.and_eq_true,List.any_cons,List.any_nil,Bool.or_false,Bool.or_eq_true,beq_iff_eq,decide_eq_true_eq]at h2;have hm:p∈((List.range n).map P).filter (shB ks e):=by
    refine List.mem_filter.mpr ⟨h1,?_⟩;unfold shB;simp only[Bool.and_eq_true,Bool.or_eq_true,List.any_eq_true,beq_iff_eq,decide_eq_true_eq];refine⟨?_,h2.2⟩;rcases h2.1 with z|z
    ·exact .inl ⟨h,a,z.symm⟩
    ·exact .inr ⟨h,a,z.symm⟩
   cases hl:((List.range n).map P).filter (shB ks e)with
   |nil=>rw[hl]at hm;cases hm
   |cons p r=>rfl
 obtain⟨h0,hh0⟩:∃ h,h∈ks:=by
  cases ks with
  |nil=>cases hk
  |cons h r=>exact⟨h,by simp⟩
 rw[Bool.eq_iff_iff];simp only[List.all_eq_true,Bool.not_eq_true',Bool.or_eq_false_iff,decide_eq_false_iff_not];unfold spB;simp only[bd,Bool.and_eq_true,decide_eq_true_eq,Bool.not_eq_true'];constructor
 ·intro q;have q0:=q h0 hh0;refine⟨by omega,by omega,?_⟩;cases hs:(shP ks e n P).isEmpty with
  |true=>rfl
  |false=>
   obtain⟨h,a,b⟩:=key.mp hs;rw[(q h a).2]at b;cases b
 ·rintro ⟨q1,q2,q3⟩ h hh;refine⟨⟨by omega,by omega⟩,?_⟩;cases hb:((List.range n).map P).any (ypa h e)with
  |false=>rfl
  |true=>
   have:=key.mpr ⟨h,hh,hb⟩;rw[this]at q3;cases q3
theorem zz1(ns:List Int){ks:List Int}{e:Int}{l:List Pt}(hk:ks.isEmpty=false)(hc:(decide (e<1) || (decide (e > 50) || !l.isEmpty))=true)(x1 x4 x5 x6 x7:Option D)(σ:Sto):u10 (evL ns x1 (some (.lst (ks.map D.int))) (some (.int e)) x4 x5 x6 x7 (some (.tup [.str "span",.int 0])) (some (.lst (l.map Pt.D))) none none none) σ=.ok (.rt (.bl true)) σ:=by
 have n1:=ylb ks σ;have n2:=yen l σ;have eq:=(yi9 "span" 0 σ).1;rw[hk]at n1;unfold u10 evL;generalize ks.map D.int=KL at *;generalize l.map Pt.D=PL at *;generalize l.isEmpty=b3 at *;cases b1:decide (e<1)<;>cases b2:decide (e > 50)<;>cases b3<;>first|(simp[n1,n2,b1,b2,eq];done)|(rw[b1,b2]at hc;cases hc)
theorem yhk(ns:List Int){ks:List Int}{e:Int}{l:List Pt}(hc:ks.isEmpty=false->(decide (e<1) || (decide (e > 50) || !l.isEmpty))=false)(x1 x4 x5 x6 x7 x8:Option D)(σ:Sto):u10 (evL ns x1 (some (.lst (ks.map D.int))) (some (.int e)) x4 x5 x6 x7 x8 (some (.lst (l.map Pt.D))) none none none) σ=.ok (.nx (evL ns x1 (some (.lst (ks.map D.int))) (some (.int e)) x4 x5 x6 x7 x8 (some (.lst (l.map Pt.D))) none none none)) σ:=by
 have n1:=ylb ks σ;have n2:=yen l σ;unfold u10 evL;generalize ks.map D.int=KL at *;generalize l.map Pt.D=PL at *;generalize l.isEmpty=b3 at *;generalize ks.isEmpty=b0 at *;cases b0
 ·have hc:=hc rfl;cases b1:decide (e<1)<;>cases b2:decide (e > 50)<;>cases b3<;>first|(simp[n1,n2,b1,b2];done)|(rw[b1,b2]at hc;cases hc)
 ·simp[n1]
theorem zz2(ns:List Int)(e:Int)(x1 x4 x5 x6 x7 x9:Option D)(σ:Sto):u11 (evL ns x1 (some (.lst [])) (some (.int e)) x4 x5 x6 x7 (some (.tup [.str "made",.int 0])) x9 none none none) σ=.ok (.rt (.bl true)) σ:=by
 have n1:=yi7 [] σ;have eq:=(yi9 "made" 0 σ).1;unfold u11 evL;simp at n1;simp[n1,eq]
theorem yhl(ns:List Int){ks:List Int}(hk:ks.isEmpty=false)(x1 x3 x4 x5 x6 x7 x8 x9:Option D)(σ:Sto):u11 (evL ns x1 (some (.lst (ks.map D.int))) x3 x4 x5 x6 x7 x8 x9 none none none) σ=.ok (.nx (evL ns x1 (some (.lst (ks.map D.int))) x3 x4 x5 x6 x7 x8 x9 none none none)) σ:=by
 have n1:=yi7 ks σ;rw[hk]at n1;unfold u11 evL;generalize ks.map D.int=KL at *;simp[n1]
def owV(k0:Int):List (Int × Int):=[(5,3),(6,k0)]
def S6(L:List D)(ks:List Int)(k0:Int):Sto:=[.lst L,.lst [],.lst L,.lst (ks.reverse.map D.int),.dic (owK (owV k0)),.lst [.ref 2,.ref 3,.ref 4]]
theorem ygh{KL:List D}{ρ:Ev}{σ:Sto}(h4:KL.length<=4)(hv:yp2 2 ρ σ=.ok (.lst KL) σ):yp0 (yp2 2) (some (eUn yrc (eC (.int 1)))) ρ σ=.ok (.ref σ.length) (σ++[.lst KL.reverse]):=by
 show bnd (yp2 2 ρ) _ σ=_;rw[yao,hv,zr5];show bnd (yi3 (some (eUn yrc (eC (.int 1)))) ρ) (yr3 (.lst KL)) σ=_;rw[yao,zs0,ybn,yix,zr5,zwn,zr5,zwy,zr5];unfold yr3;dsimp only;rw[if_pos ⟨rfl,h4⟩];rfl
theorem zss{k0:Int}{fs:Ev->M (List D)}{ρ:Ev}{σ:Sto}(h:fs ρ (σ++[.dic []])=.ok [.int 3,.int k0] (σ++[.dic []])):yiz [.inl 5,.inl 6] fs ρ σ=.ok (.ref σ.length) (σ++[.dic (owK (owV k0))]):=by
 show bnd (fs ρ) (yir σ.length [.inl 5,.inl 6]) (σ++[.dic []])=_;rw[yao,h,zr5];unfold yir;have:(σ++[Ob.dic []])[σ.length]?=some (.dic []):=by simp
 simp only[this];rw[if_pos (by decide),zyu];rfl
theorem yhm(ns:List Int)(L:List D)(k0:Int)(r:List Int)(h4:(k0::r).length<=4)(x1 x3 x5 x6 x7 x8 x9:Option D):u12 (evL ns x1 (some (.lst ((k0::r).map D.int))) x3 (some (.ref 0)) x5 x6 x7 x8 x9 none none none) [.lst L,.lst []]=.ok (.nx (evL ns x1 (some (.lst ((k0::r).map D.int))) x3 (some (.ref 0)) x5 x6 x7 x8 x9 (some (.ref 5)) none none)) (S6 L (k0::r) k0):=by
 have a:ylr [.ref 0] [.lst L,.lst []]=.ok (.ref 2) [.lst L,.lst [],.lst L]:=rfl;have b:=ygh (KL:=(k0::r).map D.int) (ρ:=evL ns x1 (some (.lst ((k0::r).map D.int))) x3 (some (.ref 0)) x5 x6 x7 x8 x9 none none none) (σ:=[.lst L,.lst [],.lst L]) (by rw[List.length_map];exact h4) (by unfold evL;simp);have i0:∀ σ,oIx (.lst ((k0::r).map D.int)) (.int 0) σ=.ok (.int k0) σ:=fun σ=>yj4 ..;have c:=fun σ=>zss (k0:=k0) (fs:=(yie (eC (.int 3)) (yie (ypu oIx (yp2 2) (eC (.int 0))) yo2))) (ρ:=evL ns x1 (some (.lst ((k0::r).map D.int))) x3 (some (.ref 0)) x5 x6 x7 x8 x9 none none none) (σ:=σ) (by
  unfold evL;generalize (k0::r).map D.int=KL at *;simp[i0])
 have l3:∀ (a b c:D) (σ:Sto),yqu [a,b,c] σ=.ok (.ref σ.length) (σ++[.lst [a,b,c]]):=fun a b c σ=>nr rfl;have v:∀ σ,yp2 4 (evL ns x1 (some (.lst ((k0::r).map D.int))) x3 (some (.ref 0)) x5 x6 x7 x8 x9 none none none) σ=.ok (.ref 0) σ:=fun σ=>by unfold evL;simp
 have rv:((k0::r).map D.int).reverse=(k0::r).reverse.map D.int:=by rw[List.map_reverse]
 rw[rv]at b;unfold u12 S6;simp only[zyc,zsw,zk7,zlz,v,zr5,zhk,zrp,zlt,a,b,c,l3,yhx,zyn];rfl
section
variable{ns:List Int}{n:Nat}(hn:n<=4)(hb:fb (gV ns) n 0=none){ks:List Int}(hk:KsOk ks){e:Int}(hsp:ks.all (fun h=>spB h e n (pP ns))=true)(k0:Int)
include hn hb hk hsp
theorem zun:∃ kd ts,Kps (wOf (owV k0)) ks kd/\yk1 11 5 zi14 [.ref 2,.ref 3,.int e,.ref 4] (S6 (thL n (pF ns)) ks k0)=.ok (.ref 6) (hlS (S6 (thL n (pF ns)) ks k0) (bkD n (pP ns)) (yrl n (pP ns)) e kd ts):=by
 have h4:∀ j,(S6 (thL n (pF ns)) ks k0++j)[4]?=some (.dic (owK (owV k0))):=fun j=>rfl;have hg:=ziy (ths ns hn) (σ:=S6 (thL n (pF ns)) ks k0) (x:=.ref 2) (fun j=>rfl) (fun j=>rfl) (pP ns) (zj3 ns) hb (fun i _=>yej ..) (KS:=.ref 3) (ks:=ks) (by have:=hk.len;omega) (fun j=>zzq (ns:=ks.reverse) rfl (by rw[List.length_reverse];have:=hk.len;omega) hk.srtr) e (W:=.ref 4) (ow:=.ref 4)
  (fun j=>by
   have o:∀ σ,yq7 (.ref 4) .non σ=.ok (.bl false) σ:=fun σ=>nr rfl;simp[o]) (ws:=wOf (owV k0)) (fun h τ=>zk5 (owV k0) (by simp[owV]) h (h4 τ)) (fun h=>by unfold wOf;rw[List.length_map];exact Nat.le_trans (List.length_filter_le _ _) (by simp[owV])) (fun kd y6=>yhj _ _ _ _ kd (owV k0) (by simp[owV]) (k:=4) (by rfl) ..)
 obtain⟨kd,ts,h1,h2⟩:=hg.2 hsp;refine⟨kd,ts,h1,?_⟩;have l6:(S6 (thL n (pF ns)) ks k0).length=6:=rfl;rw[zvq,h2,zoy,l6]
end
def S9(L A2 A3:List D)(D4:Kv)(B PL:D)(e:Int)(kd:Kv)(ts:List (List Key)):Sto:=[.lst L,.lst [],.lst A2,.lst A3,.dic D4,.lst [.ref 2,.ref 3,.ref 4],.ins 11 (hfs 6 B PL e),.dic kd,.tdic ts]
theorem yjx(L:List D)(ks:List Int)(k0:Int)(B PL:D)(e:Int)(kd:Kv)(ts:List (List Key)):hlS (S6 L ks k0) B PL e kd ts=S9 L L (ks.reverse.map D.int) (owK (owV k0)) B PL e kd ts:=rfl
section
variable(L A2 A3:List D)(D4:Kv)(B PL:D)(e:Int)(kd:Kv)(ts:List (List Key))
theorem yqh:oIx (.ref 5) (.int 0) (S9 L A2 A3 D4 B PL e kd ts)=.ok (.ref 2) (S9 L A2 A3 D4 B PL e kd ts):=nr rfl
theorem yqi:oIx (.ref 5) (.int 1) (S9 L A2 A3 D4 B PL e kd ts)=.ok (.ref 3) (S9 L A2 A3 D4 B PL e kd ts):=nr rfl
theorem yqj:oIx (.ref 5) (.int 2) (S9 L A2 A3 D4 B PL e kd ts)=.ok (.ref 4) (S9 L A2 A3 D4 B PL e kd ts):=nr rfl
theorem yo7(d:D)(h:A2.length<1000):zv8 (.ref 2) [d] (S9 L A2 A3 D4 B PL e kd ts)=.ok .non (S9 L (A2++[d]) A3 D4 B PL e kd ts):=by
 unfold zv8;have:ykw (S9 L A2 A3 D4 B PL e kd ts) 2=some A2:=rfl;simp only[this];rw[if_pos (show A2.length<cap from h)];rfl
theorem yk2(fs:M (List D)):yk5 zv8 fs (.ref 2) (S9 L A2 A3 D4 B PL e kd ts)=(fs (S9 L A2 A3 D4 B PL e kd ts)).bind (zv8 (.ref 2)):=zon (xs:=A2) rfl
theorem ypl:zv9 (.ref 3) [] (S9 L A2 A3 D4 B PL e kd ts)=.ok .non (S9 L A2 [] D4 B PL e kd ts):=nr rfl
theorem yk3(fs:M (List D)):yk5 zv9 fs (.ref 3) (S9 L A2 A3 D4 B PL e kd ts)=(fs (S9 L A2 A3 D4 B PL e kd ts)).bind (zv9 (.ref 3)):=zon (xs:=A3) rfl
theorem ypm:yev (.ref 4) [] (S9 L A2 A3 D4 B PL e kd ts)=.ok .non (S9 L A2 A3 [] B PL e kd ts):=nr rfl
theorem yk4(fs:M (List D)):yei yev fs (.ref 4) (S9 L A2 A3 D4 B PL e kd ts)=(fs (S9 L A2 A3 D4 B PL e kd ts)).bind (yev (.ref 4)):=nr rfl
theorem ysg(ρ:Ev)(d:D):ym1 ρ d (.ref 4) (.int 7) (S9 L A2 A3 [] B PL e kd ts)=.ok (.nx ρ) (S9 L A2 A3 [(.inl 7,d)] B PL e kd ts):=by
 rw[zql (kvs:=[]) rfl (by simp)];rfl
theorem yae:yj3 (S9 L A2 A3 D4 B PL e kd ts) (.ref 6)=some (11,hfs 6 B PL e):=rfl
end
@[simp] theorem zib(o:D->List D->M D)(f:Ev->M D)(fs:Ev->M (List D))(ρ:Ev)(σ:Sto):ybk o f fs ρ σ=(f ρ σ).bind (yei o (fs ρ)):=nr rfl
theorem yhn(ns:List Int)(L A2 A3:List D)(hA:A2.length<900)(D4:Kv)(B PL:D)(e:Int)(kd:Kv)(ts:List (List Key))(k0:Int)(r:List Int)(x1 x3 x4 x5 x6 x7 x8 x9 x11:Option D):∃ A2' D4',ysc u14 (ysc u15 (ysc u16 u17)) (evL ns x1 (some (.lst ((k0::r).map D.int))) x3 x4 x5 x6 x7 x8 x9 (some (.ref 5)) x11 none) (S9 L A2 A3 D4 B PL e kd ts)=.ok (.nx (evL ns x1 (some (.lst ((k0::r).map D.int))) x3 x4 x5 x6 x7 x8 x9 (some (.ref 5)) x11 none)) (S9 L A2' [] D4' B PL e kd ts):=by
 have i0:∀ σ,oIx (.lst ((k0::r).map D.int)) (.int 0) σ=.ok (.int k0) σ:=fun σ=>yj4 ..;have a1:=fun A2 A3 D4=>yqh L A2 A3 D4 B PL e kd ts;have a2:=fun A2 A3 D4=>yqi L A2 A3 D4 B PL e kd ts;have a3:=fun A2 A3 D4=>yqj L A2 A3 D4 B PL e kd ts;have b1:=fun d=>yo7 L A2 A3 D4 B PL e kd ts d (by omega);have b2:=fun fs=>yk2 L A2 A3 D4 B PL e kd ts fs;have c1:=fun A2=>ypl L A2 A3 D4 B PL e kd ts;have c2:=fun A2 fs=>yk3 L A2 A3 D4 B PL e kd ts fs;have d1:=fun A2=>ypm L A2 [] D4 B PL e kd ts;have d2:=fun A2 fs=>yk4 L A2 [] D4 B PL e kd ts fs;have s7:=fun A2 ρ d=>ysg L A2 [] B PL e kd ts ρ d;refine⟨A2++[.tup [.int 0,.int 1,.int 5,.int 5,.int 60]],[(.inl 7,.int k0)],?_⟩;unfold u14 u15 u16 u17 evL;generalize (k0::r).map D.int=KL at *;simp[i0,a1,a2,a3,b1,b2,c1,c2,d1,d2,s7]
section
variable{L A2 A3:List D}{D4:Kv}{n:Nat}{P:Nat->Pt}{e:Int}{kd:Kv}{ts:List (List Key)}
abbrev S9'(L A2 A3:List D)(D4:Kv)(n:Nat)(P:Nat->Pt)(e:Int)(kd:Kv)(ts:List (List Key)):Sto:=S9 L A2 A3 D4 (bkD n P) (yrl n P) e kd ts
theorem yij(n:Nat)(P:Nat->Pt):cl (bkD n P)=true:=by
 have h1:=zsj n P;have h2:=yaz n P;have h3:=ya6 n;unfold bkD;generalize yrl n P=a at *;generalize hdL n P=b at *;generalize shL n=c at *;rw[cl];simp[h1,h2,h3]
theorem znl(L A2 A3:List D)(D4:Kv)(n:Nat)(P:Nat->Pt)(e:Int)(kd:Kv)(ts:List (List Key)):f_Hall_book [.ref 6] (S9' L A2 A3 D4 n P e kd ts)=.ok (bkD n P) (S9' L A2 A3 D4 n P e kd ts):=by
 have f:yq5 [11] "public" (.ref 6) (S9' L A2 A3 D4 n P e kd ts)=.ok (bkD n P) (S9' L A2 A3 D4 n P e kd ts):=zwd (yae ..) rfl rfl;have hc:=yij n P;unfold f_Hall_book zeh;generalize bkD n P=B at *;generalize S9' L A2 A3 D4 n P e kd ts=S at *;simp[f,hc]
theorem znp(L A2 A3:List D)(D4:Kv)(n:Nat)(P:Nat->Pt)(e:Int)(kd:Kv)(ts:List (List Key)):f_Hall_road [.ref 6] (S9' L A2 A3 D4 n P e kd ts)=.ok (.lst []) (S9' L A2 A3 D4 n P e kd ts):=by
 have f:yq5 [11] "under_way" (.ref 6) (S9' L A2 A3 D4 n P e kd ts)=.ok (.lst []) (S9' L A2 A3 D4 n P e kd ts):=zwd (yae ..) rfl rfl;have fl:=fun σ=>zm9 (xs:=[]) rfl σ;unfold f_Hall_road zei;generalize S9' L A2 A3 D4 n P e kd ts=S at *;simp[f,fl]
theorem yqf(m:Str)(k:Nat)(fn:List D->M D)(fs:M (List D))(B PL:D)(hm:(hfs 6 B PL e).lookup m=none):yqz [(11,fn)] k m fs (.ref 6) (S9 L A2 A3 D4 B PL e kd ts)=(fs (S9 L A2 A3 D4 B PL e kd ts)).bind (yk8 k fn (.ref 6)):=zvz (yae ..) rfl hm
theorem ylc{σ:Sto}{M:List D}(h0:ykw σ 0=some M)(he:eqL (eqD σ 7) M M=some true):oNe (.lst M) (.ref 0) σ=.ok (.bl false) σ:=by
 have:eqD σ 8 (.lst M) (.ref 0)=some true:=by
  show eqK (eqD σ 7) (kd σ (.lst M)) (kd σ (.ref 0))=_;have e1:kd σ (.lst M)=.l M:=rfl;have e2:kd σ (.ref 0)=.l M:=by unfold kd;dsimp only;rw[h0]
  rw[e1,e2];exact he
 exact yey this
theorem yho(ns:List Int)(hP:∀ i,i<n->(P i).Ok)(hL:L=thL n fun i=>(P i).D)(x1 x2 x3 x5 x6 x7 x9 x10:Option D):u18 (evL ns x1 x2 x3 (some (.ref 0)) x5 x6 x7 (some (.tup [.str "made",.int 0])) x9 x10 (some (.ref 6)) none) (S9' L A2 A3 D4 n P e kd ts)=.ok (.nx (evL ns x1 x2 x3 (some (.ref 0)) x5 x6 x7 (some (.tup [.str "made",.int 0])) x9 x10 (some (.ref 6)) none)) (S9' L A2 A3 D4 n P e kd ts):=by
 have ne:=(yi9 "made" 0 (S9' L A2 A3 D4 n P e kd ts)).2;have hb:=znl L A2 A3 D4 n P e kd ts;have hr:=znp L A2 A3 D4 n P e kd ts;have m1:=fun fs=>yqf (L:=L) (A2:=A2) (A3:=A3) (D4:=D4) (e:=e) (kd:=kd) (ts:=ts) "book" 1 f_Hall_book fs (bkD n P) (yrl n P) rfl;have m2:=fun fs=>yqf (L:=L) (A2:=A2) (A3:=A3) (D4:=D4) (e:=e) (kd:=kd) (ts:=ts) "road" 1 f_Hall_road fs (bkD n P) (yrl n P) rfl;have mm:=fun fs σ=>yk7 n P fs σ;have ma:=fun σ=>zvo n P σ;have np:oNe (yrl n P) (.ref 0) (S9' L A2 A3 D4 n P e kd ts)=.ok (.bl false) (S9' L A2 A3 D4 n P e kd ts):=by
  unfold yrl;refine ylc (by rw[hL];rfl) (zl9 fun x hx=>?_);obtain⟨i,hi,rfl⟩:=List.mem_map.mp hx;exact(yg8 (hP i (List.mem_range.mp hi))).eq _
 have nn:∀ σ,oNe (.lst []) (.lst []) σ=.ok (.bl false) σ:=fun σ=>ylb [] σ;unfold u18 evL;unfold S9' at *;generalize S9 L A2 A3 D4 (bkD n P) (yrl n P) e kd ts=S at *;generalize bkD n P=B at *;generalize yrl n P=PL at *;simp[ne,hb,hr,m1,m2,mm,ma,np,nn]
variable{ws:Int->List Int}{ks:List Int}(k:Kps ws ks kd)
include k
theorem zjc{h:Int}(hh:h∈ks):∃ x,IsKp (ws h) x/\f_Hall_keeper [.ref 6,.int h] (S9' L A2 A3 D4 n P e kd ts)=.ok x (S9' L A2 A3 D4 n P e kd ts):=by
 obtain⟨x,h1,h2⟩:=k.inn h hh;refine⟨x,h2,?_⟩;have f:yq5 [11] "keepers" (.ref 6) (S9' L A2 A3 D4 n P e kd ts)=.ok (.ref 7) (S9' L A2 A3 D4 n P e kd ts):=zwd (yae ..) rfl rfl;have d:ypr (S9' L A2 A3 D4 n P e kd ts) (.ref 7)=some kd:=rfl;have o1:zwa (.int h) (.ref 7) (S9' L A2 A3 D4 n P e kd ts)=.ok (.bl false) (S9' L A2 A3 D4 n P e kd ts):=by
  unfold zwa;simp only[yqo,d,h1];rfl
 have o2:ylo (.ref 7) (.int h) (S9' L A2 A3 D4 n P e kd ts)=.ok x (S9' L A2 A3 D4 n P e kd ts):=by
  unfold ylo;simp only[yqo,d,h1]
 have hc:=h2.cl;unfold f_Hall_keeper zcq;generalize S9' L A2 A3 D4 n P e kd ts=S at *;simp[f,o1,o2,hc]
theorem zf9{h:Int}(hh:h ∉ ks):f_Hall_keeper [.ref 6,.int h] (S9' L A2 A3 D4 n P e kd ts)=.ex ⟨2⟩ (S9' L A2 A3 D4 n P e kd ts):=by
 have h1:=k.out h hh;have f:yq5 [11] "keepers" (.ref 6) (S9' L A2 A3 D4 n P e kd ts)=.ok (.ref 7) (S9' L A2 A3 D4 n P e kd ts):=zwd (yae ..) rfl rfl;have d:ypr (S9' L A2 A3 D4 n P e kd ts) (.ref 7)=some kd:=rfl;have o1:zwa (.int h) (.ref 7) (S9' L A2 A3 D4 n P e kd ts)=.ok (.bl true) (S9' L A2 A3 D4 n P e kd ts):=by
  unfold zwa;simp only[yqo,d,h1];rfl
 unfold f_Hall_keeper zcq;generalize S9' L A2 A3 D4 n P e kd ts=S at *;simp[f,o1]
theorem zet{h:Int}(hh:h ∉ ks):f__law_no_keeper [.ref 6,.int h] (S9' L A2 A3 D4 n P e kd ts)=.ok (.bl true) (S9' L A2 A3 D4 n P e kd ts):=by
 have ko:=zf9 (L:=L) (A2:=A2) (A3:=A3) (D4:=D4) (n:=n) (P:=P) (e:=e) (ts:=ts) k hh;have m1:=fun fs=>yqf (L:=L) (A2:=A2) (A3:=A3) (D4:=D4) (e:=e) (kd:=kd) (ts:=ts) "keeper" 2 f_Hall_keeper fs (bkD n P) (yrl n P) rfl;unfold f__law_no_keeper zay;unfold S9' at *;generalize S9 L A2 A3 D4 (bkD n P) (yrl n P) e kd ts=S at *;have hh2:=fun(ρ:Ev) (g:Ev->M Fl)=>znk (ρ:=ρ) (σ:=S) (h:=⟨yqg [(2,true),(103,false),(203,false),(303,false),(403,false),(4,false)],none,g⟩) (r:=[]) (x:=⟨2⟩) rfl;simp[m1,ko,hh2]
end
section
variable{ws:List Int}{x:D}(h:IsKp ws x)
include h
theorem yd2(σ:Sto):∃ A C S E G:D,yj3 σ x=some (10,([("hand",E),("every",G),("last_look",.int 0),("gave",.int 0),("known",kvD (lrn [] ws)),("accounts",A),("claims",C),("seen",S),("asked",.dic [] []),("finishing",.dic [] [])]:List (Str × D))):=by
 obtain⟨h1,e1,A,C,S,rfl⟩:=h.ex;exact⟨A,C,S,.int h1,.int e1,zi2 rfl⟩
theorem zji(σ:Sto):f_Keeper_looked [x] σ=.ok (.int 0) σ:=by
 obtain⟨A,C,S,E,G,i⟩:=yd2 h σ;have f:yq5 [10] "last_look" x σ=.ok (.int 0) σ:=zwd i rfl rfl;unfold f_Keeper_looked zbi;simp[f]
theorem yd1(m:Str)(k:Nat)(fn:List D->M D)(fs:M (List D))(σ:Sto)(hm:∀ A C S E G:D,([("hand",E),("every",G),("last_look",.int 0),("gave",.int 0),("known",kvD (lrn [] ws)),("accounts",A),("claims",C),("seen",S),("asked",.dic [] []),("finishing",.dic [] [])]:List (Str × D)).lookup m=none):yqz [(10,fn)] k m fs x σ=(fs σ).bind (yk8 k fn x):=by
 obtain⟨A,C,S,E,G,i⟩:=yd2 h σ;exact zvz i rfl (hm A C S E G)
theorem zrm{vs:List Int}(hk:ykm (lrn [] ws)=some vs)(hl:vs.length<64)(hs:ysp vs=vs)(σ:Sto):f_Keeper_words [x] σ=.ok (.lst (vs.map D.int)) σ:=by
 obtain⟨A,C,S,E,G,i⟩:=yd2 h σ;have f:yq5 [10] "known" x σ=.ok (kvD (lrn [] ws)) σ:=zwd i rfl rfl;have d:ypr σ (kvD (lrn [] ws))=some (lrn [] ws):=by
  unfold kvD ypr;dsimp only;rw[if_pos (by simp)];congr 1;exact(List.zip_of_prod rfl rfl).symm
 have o:ylu [kvD (lrn [] ws)] σ=.ok (.ref σ.length) (σ++[.lst (vs.map D.int)]):=by
  have ln:yqt σ (kvD (lrn [] ws))=none:=rfl;unfold ylu;simp only[ln];unfold zpa;simp only[d,hk];rw[if_pos hl,hs];rfl
 have fz:yp9 σ (ylu [kvD (lrn [] ws)] σ)=.ok (.lst (vs.map D.int)) σ:=by rw[o];exact znd (by simp)
 have hc:cl (.lst (vs.map D.int))=true:=by simp
 unfold f_Keeper_words zb5;generalize kvD (lrn [] ws)=K at *;generalize vs.map D.int=V at *;simp[f,fz,hc]
end
theorem zk4{k0:Int}{x:D}(h:IsKp (wOf (owV k0) k0) x)(σ:Sto):f_Keeper_words [x] σ=.ok (.lst ((if k0=3 then [5,6]else [6]:List Int).map D.int)) σ:=by
 by_cases e:k0=3
 ·have w:wOf (owV k0) k0=[5,6]:=by subst e;rfl
  rw[w]at h;rw[if_pos e];exact zrm h (vs:=[5,6]) rfl (by decide) (ygz (List.Perm.refl _) (by decide)) σ
 ·have w:wOf (owV k0) k0=[6]:=by
   have b:((3:Int) == k0)=false:=by simp;omega
   unfold wOf owV;simp[List.filter_cons,b]
  rw[w]at h;rw[if_neg e];exact zrm h (vs:=[6]) rfl (by decide) (ygz (List.Perm.refl _) (by decide)) σ
section
variable{L A2 A3:List D}{D4:Kv}{n:Nat}{P:Nat->Pt}{e:Int}{kd:Kv}{ts:List (List Key)}{k0:Int}{r:List Int}(k:Kps (wOf (owV k0)) (k0::r) kd)
include k
theorem yhp(ns:List Int)(x1 x3 x4 x5 x6 x7 x8 x9 x10:Option D):u19 (evL ns x1 (some (.lst ((k0::r).map D.int))) x3 x4 x5 x6 x7 x8 x9 x10 (some (.ref 6)) none) (S9' L A2 A3 D4 n P e kd ts)=.ok (.nx (evL ns x1 (some (.lst ((k0::r).map D.int))) x3 x4 x5 x6 x7 x8 x9 x10 (some (.ref 6)) none)) (S9' L A2 A3 D4 n P e kd ts):=by
 obtain⟨x,hx,ke⟩:=zjc (L:=L) (A2:=A2) (A3:=A3) (D4:=D4) (n:=n) (P:=P) (e:=e) (ts:=ts) k (h:=k0) (by simp);have m1:=fun fs=>yqf (L:=L) (A2:=A2) (A3:=A3) (D4:=D4) (e:=e) (kd:=kd) (ts:=ts) "keeper" 2 f_Hall_keeper fs (bkD n P) (yrl n P) rfl;have m2:=fun fs σ=>yd1 hx "words" 1 f_Keeper_words fs σ (fun _ _ _ _ _=>rfl);have w:=fun σ=>zk4 hx σ;have i0:∀ σ,oIx (.lst ((k0::r).map D.int)) (.int 0) σ=.ok (.int k0) σ:=fun σ=>yj4 ..;have inn:=fun(σ:Sto)=>zo1 (σ:=σ) (neg:=true) (w:=3) (x:=.lst ((k0::r).map D.int)) (ws:=k0::r) rfl;simp only[if_true]at inn;have t1:∀ σ,ylq [.bl true] σ=.ok (.int 1) σ:=fun σ=>nr rfl;have t0:∀ σ,ylq [.bl false] σ=.ok (.int 0) σ:=fun σ=>nr rfl;have sl:∀ lo σ,ysk (.lst [.int 5,.int 6]) lo none σ=.ok (.lst (ypn [.int 5,.int 6] lo none)) σ:=fun lo σ=>nr rfl;have c1:ypn [D.int 5,.int 6] (some 1) none=[.int 6]:=rfl;have c0:ypn [D.int 5,.int 6] (some 0) none=[.int 5,.int 6]:=rfl;have n6:∀ σ,oNe (.lst [.int 6]) (.lst [.int 6]) σ=.ok (.bl false) σ:=fun σ=>yey (b:=true) rfl;have n56:∀ σ,oNe (.lst [.int 5,.int 6]) (.lst [.int 5,.int 6]) σ=.ok (.bl false) σ:=fun σ=>yey (b:=true) rfl;unfold u19 evL;unfold S9' at *;generalize S9 L A2 A3 D4 (bkD n P) (yrl n P) e kd ts=S at *;by_cases h3:k0=3
 ·subst h3;have a:((3:Int)::r).any (·== 3)=true:=by simp
  rw[a]at inn;simp only[if_true,Bool.not_true]at inn w;generalize ((3:Int)::r).map D.int=KL at *;simp[ke,m1,m2,w,i0,inn,t0,sl,c0,n56]
 ·have b3:(k0 == 3)=false:=by simpa using h3
  rw[if_neg h3]at w;generalize ((k0::r).any (·== 3))=a at *;generalize (k0::r).map D.int=KL at *;cases a<;>simp[ke,m1,m2,w,i0,inn,t1,sl,c1,n6,b3]
theorem ztn(ns:List Int)(x1 x3 x4 x5 x6 x7 x8 x9 x10:Option D)(h:Int):fiB (evL ns x1 (some (.lst ((k0::r).map D.int))) x3 x4 x5 x6 x7 x8 x9 x10 (some (.ref 6)) (some (.int h))) (S9' L A2 A3 D4 n P e kd ts)=.ok (.nx (evL ns x1 (some (.lst ((k0::r).map D.int))) x3 x4 x5 x6 x7 x8 x9 x10 (some (.ref 6)) (some (.int h)))) (S9' L A2 A3 D4 n P e kd ts):=by
 have m1:=fun fs=>yqf (L:=L) (A2:=A2) (A3:=A3) (D4:=D4) (e:=e) (kd:=kd) (ts:=ts) "keeper" 2 f_Hall_keeper fs (bkD n P) (yrl n P) rfl;have in1:=fun(σ:Sto)=>zo1 (σ:=σ) (neg:=false) (w:=h) (x:=.lst ((k0::r).map D.int)) (ws:=k0::r) rfl;have in2:=fun(σ:Sto)=>zo1 (σ:=σ) (neg:=true) (w:=h) (x:=.lst ((k0::r).map D.int)) (ws:=k0::r) rfl;simp only[if_true,Bool.false_eq_true,if_false]at in1 in2;by_cases hh:h∈k0::r
 ·obtain⟨x,hx,ke⟩:=zjc (L:=L) (A2:=A2) (A3:=A3) (D4:=D4) (n:=n) (P:=P) (e:=e) (ts:=ts) k hh;have m2:=fun fs σ=>yd1 hx "looked" 1 f_Keeper_looked fs σ (fun _ _ _ _ _=>rfl);have lk:=fun σ=>zji hx σ;have a:(k0::r).any (·== h)=true:=List.any_eq_true.mpr ⟨h,hh,by simp⟩;rw[a]at in1 in2;unfold fiB evL;unfold S9' at *;generalize S9 L A2 A3 D4 (bkD n P) (yrl n P) e kd ts=S at *;generalize (k0::r).map D.int=KL at *;simp[m1,ke,m2,lk,in1,in2]
 ·have nk:=zet (L:=L) (A2:=A2) (A3:=A3) (D4:=D4) (n:=n) (P:=P) (e:=e) (ts:=ts) k hh;have a:(k0::r).any (·== h)=false:=by
   cases q:(k0::r).any (·== h)with
   |false=>rfl
   |true=>
    obtain⟨y,hy,z⟩:=List.any_eq_true.mp q;rw[beq_iff_eq]at z;subst z;exact absurd hy hh
  rw[a]at in1 in2;unfold fiB evL;unfold S9' at *;generalize S9 L A2 A3 D4 (bkD n P) (yrl n P) e kd ts=S at *;generalize (k0::r).map D.int=KL at *;simp[m1,nk,in1,in2]
theorem yhq(ns:List Int)(x1 x3 x4 x5 x6 x7 x8 x9 x10:Option D):∃ y,u20 (evL ns x1 (some (.lst ((k0::r).map D.int))) x3 x4 x5 x6 x7 x8 x9 x10 (some (.ref 6)) none) (S9' L A2 A3 D4 n P e kd ts)=.ok (.nx (evL ns x1 (some (.lst ((k0::r).map D.int))) x3 x4 x5 x6 x7 x8 x9 x10 (some (.ref 6)) y)) (S9' L A2 A3 D4 n P e kd ts):=by
 have st:=fun h=>ztn (L:=L) (A2:=A2) (A3:=A3) (D4:=D4) (n:=n) (P:=P) (e:=e) (ts:=ts) k ns x1 x3 x4 x5 x6 x7 x8 x9 x10 h;have rk:∀ σ,yr4 (.int 4) σ=.ok (.seq (yge 4)) σ:=fun σ=>by have:=zx0 (σ:=σ) (j:=(4:Int)) (by omega) (by omega);simpa using this
 refine⟨some (.int 3),?_⟩;generalize S9' L A2 A3 D4 n P e kd ts=S at *;have lp:∀ (hs:List Int) (y:Option D),∃ y',(hs=[]->y'=y)/\(∀ h,hs.getLast?=some h->y'=some (.int h))/\yqs (tgN 12) fiB (hs.map D.int) (evL ns x1 (some (.lst ((k0::r).map D.int))) x3 x4 x5 x6 x7 x8 x9 x10 (some (.ref 6)) y) S=.ok (.nx (evL ns x1 (some (.lst ((k0::r).map D.int))) x3 x4 x5 x6 x7 x8 x9 x10 (some (.ref 6)) y')) S:=by
  intro hs;induction hs with
  |nil=>intro y;exact⟨y,fun _=>rfl,fun h q=>by simp at q,by simp⟩
  |cons a hs ih=>
   intro y;obtain⟨y',q1,q2,q3⟩:=ih (some (.int a));refine⟨y',(fun z=>by cases z),fun h q=>?_,?_⟩
   ·cases hs with
    |nil=>simp at q;rw[q1 rfl,q]
    |cons b hs=>exact q2 h (by simpa using q)
   ·rw[List.map_cons,zoj];show (fiB (evL ns x1 (some (.lst ((k0::r).map D.int))) x3 x4 x5 x6 x7 x8 x9 x10 (some (.ref 6)) (some (.int a))) S).bind _=_;rw[st a,zr5,zog,q3]
 obtain⟨y',_,q2,q3⟩:=lp [0,1,2,3] none;rw[q2 3 rfl]at q3;unfold u20;have rd:yge 4=([0,1,2,3]:List Int).map D.int:=rfl;rw[zx6,zzm,yix,zr5,rk,yhx,zm7,rd];exact q3
end
theorem law_true(ns:List Int)(hns:ns.length<=63):∃ σ,f_law [.scr ns] []=.ok (.bl true) σ:=by
 obtain⟨n,hn⟩:∃ n:Nat,(n:Int)=yio ns 0 % 5:=⟨(yio ns 0 % 5).toNat,by omega⟩
 have h4:n<=4:=by omega
 have e1:=ynr ns hn;have e2:=yns ns (some (.int n));have e3:=ynt ns (some (.int n)) (some (.lst ((ksV (yio ns 1)).map D.int)));have e45:=yhr ns (some (.int n)) (some (.lst ((ksV (yio ns 1)).map D.int))) (some (.int (evV ns)));obtain⟨y6,y7,e6⟩:=ynu ns h4 (some (.lst ((ksV (yio ns 1)).map D.int))) (some (.int (evV ns)));have e7:=ynv ns h4 (some (.int n)) y6 y7;have kok:=ykr (yio ns 1);unfold f_law;rw[zng,ygi];show ∃ σ,yr5 (ysc _ _ (evL ns none none none none none none none none none none none none) [])=.ok (.bl true) σ;rw[zyb,e1,zr5,zyi,zyb,e2,zr5,zyi,zyb,e3,zr5,zyi];have e4:∀ g:Ev->M Fl,ysc u4 (ysc u5 g) (evL ns (some (.int n)) (some (.lst ((ksV (yio ns 1)).map D.int))) (some (.int (evV ns))) none none none none none none none none none) []=g (evL ns (some (.int n)) (some (.lst ((ksV (yio ns 1)).map D.int))) (some (.int (evV ns))) (some (.ref 0)) (some (.ref 1)) none none none none none none none) [.lst [],.lst []]:=fun g=>by
  rw[zyb]at e45 ⊢;cases q:u4 (evL ns (some (.int n)) (some (.lst ((ksV (yio ns 1)).map D.int))) (some (.int (evV ns))) none none none none none none none none none) []with
  |bad=>rw[q]at e45;cases e45
  |ex x σ=>rw[q]at e45;cases e45
  |ok fl σ=>
   rw[q,zr5]at e45;rw[zr5];cases fl with
   |nx ρ=>rw[zyi]at e45 ⊢;rw[zyb,e45,zr5,zyi]
   |_=>cases e45
 rw[e4,zyb,e6,zr5,zyi,zyb,e7,zr5,zyi,zyb];have fl:=yci (gV ns) n 0;cases hb:fb (gV ns) n 0 with
 |some j=>
  rw[hb]at fl;obtain⟨_,_,r,hr⟩:=fl;have eb:ypb (gV ns) n=(j:Int)::r.map fun(i:Nat)=>(i:Int):=by unfold ypb;rw[List.range_eq_range',hr];rfl
  have et:tdV ns n=.tup [.str "pot",.int j]:=by unfold tdV ys5;rw[hb]
  rw[et,yhs ns eb,zr5,zyj,zx2];exact⟨_,rfl⟩
 |none=>
  rw[hb]at fl;have eb:ypb (gV ns) n=[]:=by unfold ypb;rw[List.range_eq_range',fl.1];rfl
  have hF:=zj3 ns hb;rw[ynw ns eb,zr5,zyi,zyb,ynx ns h4 hF,zr5,zyi,zyb];have et:tdV ns n=if (ksV (yio ns 1)).all (fun h=>spB h (evV ns) n (pP ns))=true then .tup [.str "made",.int 0]else .tup [.str "span",.int 0]:=by unfold tdV ys5;rw[hb]
  rw[et];have S2:s2 ns n=[.lst (thL n (pF ns)),.lst []]:=by unfold s2;rw[eb];rfl
  rw[S2];generalize ksV (yio ns 1)=ks at *;generalize evV ns=e at *;cases hk:ks with
  |nil=>
   simp only[List.all_nil,if_true,List.map_nil];have u:=yhk ns (ks:=[]) (e:=e) (l:=shP [] e n (pP ns)) (fun z=>by cases z) (some (.int n)) (some (.ref 0)) (some (.ref 1)) y6 y7 (some (.tup [.str "made",.int 0])) [.lst (thL n (pF ns)),.lst []];rw[List.map_nil]at u;rw[u,zr5,zyi,zyb,zz2,zr5,zyj,zx2];exact⟨_,rfl⟩
  |cons k0 r=>
   have he:(k0::r).isEmpty=false:=rfl;rw[hk]at kok;have sp:=zq1 (e:=e) (n:=n) (P:=pP ns) he;cases hsp:(k0::r).all (fun h=>spB h e n (pP ns))with
   |false=>
    rw[hsp]at sp;simp only[Bool.false_eq_true,if_false];rw[zz1 ns he (by
     cases q:(decide (e<1) || (decide (e > 50) || !(shP (k0::r) e n (pP ns)).isEmpty))with
     |true=>rfl
     |false=>rw[q]at sp;cases sp),zr5,zyj,zx2]
    exact⟨_,rfl⟩
   |true=>
    rw[hsp]at sp;simp only[if_true];rw[yhk ns (fun _=>by
     cases q:(decide (e<1) || (decide (e > 50) || !(shP (k0::r) e n (pP ns)).isEmpty))with
     |false=>rfl
     |true=>rw[q]at sp;cases sp),zr5,zyi,zyb,yhl ns he,zr5,zyi,zyb,yhm (h4:=kok.len),zr5,zyi]
    obtain⟨kd,ts,kp,hm⟩:=zun (ns:=ns) h4 hb kok hsp k0;have u13e:u13 (evL ns (some (.int n)) (some (.lst ((k0::r).map D.int))) (some (.int e)) (some (.ref 0)) (some (.ref 1)) y6 y7 (some (.tup [.str "made",.int 0])) (some (.lst ((shP (k0::r) e n (pP ns)).map Pt.D))) (some (.ref 5)) none none) (S6 (thL n (pF ns)) (k0::r) k0)=.ok (.nx (evL ns (some (.int n)) (some (.lst ((k0::r).map D.int))) (some (.int e)) (some (.ref 0)) (some (.ref 1)) y6 y7 (some (.tup [.str "made",.int 0])) (some (.lst ((shP (k0::r) e n (pP ns)).map Pt.D))) (some (.ref 5)) (some (.ref 6)) none)) (hlS (S6 (thL n (pF ns)) (k0::r) k0) (bkD n (pP ns)) (yrl n (pP ns)) e kd ts):=by
     have i0:oIx (.ref 5) (.int 0) (S6 (thL n (pF ns)) (k0::r) k0)=.ok (.ref 2) (S6 (thL n (pF ns)) (k0::r) k0):=nr rfl;have i1:oIx (.ref 5) (.int 1) (S6 (thL n (pF ns)) (k0::r) k0)=.ok (.ref 3) (S6 (thL n (pF ns)) (k0::r) k0):=nr rfl;have i2:oIx (.ref 5) (.int 2) (S6 (thL n (pF ns)) (k0::r) k0)=.ok (.ref 4) (S6 (thL n (pF ns)) (k0::r) k0):=nr rfl;unfold u13 evL;generalize hlS (S6 (thL n (pF ns)) (k0::r) k0) (bkD n (pP ns)) (yrl n (pP ns)) e kd ts=S2 at *;generalize S6 (thL n (pF ns)) (k0::r) k0=S at *;simp[i0,i1,i2,hm]
    rw[zyb,u13e,zr5,zyi,yjx];obtain⟨A2,D4,ue⟩:=yhn ns (thL n (pF ns)) (thL n (pF ns)) ((k0::r).reverse.map D.int) (by rw[zzu];omega) (owK (owV k0)) (bkD n (pP ns)) (yrl n (pP ns)) e kd ts k0 r (some (.int n)) (some (.int e)) (some (.ref 0)) (some (.ref 1)) y6 y7 (some (.tup [.str "made",.int 0])) (some (.lst ((shP (k0::r) e n (pP ns)).map Pt.D))) (some (.ref 6));have assoc:∀ (a b c d g:Ev->M Fl) (ρ ρ':Ev) (σ σ':Sto),ysc a (ysc b (ysc c d)) ρ σ=.ok (.nx ρ') σ'->ysc a (ysc b (ysc c (ysc d g))) ρ σ=g ρ' σ':=fun a b c d g ρ ρ' σ σ' hq=>by
     have as2:∀ (a b g:Ev->M Fl) (ρ:Ev) (σ:Sto),ysc (ysc a b) g ρ σ=ysc a (ysc b g) ρ σ:=fun a b g ρ σ=>by
      simp only[zyb];cases a ρ σ with
      |bad=>rfl
      |ex x s=>rfl
      |ok fl s=>cases fl<;>rfl
     have e1:ysc a (ysc b (ysc c (ysc d g))) ρ σ=ysc (ysc a (ysc b (ysc c d))) g ρ σ:=by
      rw[as2 a,zyb,zyb];congr 1;funext fl s;cases fl with
      |nx ρ1=>
       rw[zyi,zyi,as2 b,zyb,zyb];congr 1;funext fl s;cases fl with
       |nx ρ2=>rw[zyi,zyi,as2 c]
       |_=>rfl
      |_=>rfl
     rw[e1,zyb,hq,zr5,zyi]
    rw[assoc _ _ _ _ _ _ _ _ _ ue,zyb,yho (P:=pP ns) ns (fun i _=>yej ..) hF,zr5,zyi,zyb,yhp kp,zr5,zyi,zyb];obtain⟨y,ue20⟩:=yhq (L:=thL n (pF ns)) (A2:=A2) (A3:=[]) (D4:=D4) (n:=n) (P:=pP ns) (e:=e) (ts:=ts) kp ns (some (.int n)) (some (.int e)) (some (.ref 0)) (some (.ref 1)) y6 y7 (some (.tup [.str "made",.int 0])) (some (.lst ((shP (k0::r) e n (pP ns)).map Pt.D))) (some (.ref 5));rw[ue20,zr5,zyi];unfold u21;simp
end K56
open PySem PySem.W PyProof.Rows
set_option maxRecDepth 100000 in
set_option maxHeartbeats 0 in
theorem PySem.Challenge.cw_sidebook_k56_a_hall_is_made_holds : PySem.Challenge.rw_sidebook_k56_a_hall_is_made.Holds := by
 w_on;o_law;k_head;(case hw=>w_witness2)
 k_fill
 refine L4.yn0 (l:=PySem.Challenge.rw_sidebook_k56_a_hall_is_made) (k:=13) (x:="_law_script") (fn:=K56.f_law) rfl rfl ⟨rfl,by decide,by decide⟩ (fun w h Y=>kIn_of Y) ?F K56.law_true;case F=>
  intro w mg h KX G;have h__law_cell_at:L4.yh3 (L2.KOf KX) mg "_law_cell_at" (K56.top 56) ["_law_script", "_law_k"]:=by
   dsimp only[L2.KOf];refine' L4.mkF KX G K56.zbe ?a ?l ?c ?k;(case a|l|c|k=>k_is)
  have h__law_pot:L4.yh3 (L2.KOf KX) mg "_law_pot" (K56.top 57) ["_law_cell", "_law_beside", "_law_fault"]:=by
   dsimp only[L2.KOf];refine' L4.mkF KX G K56.zd4 ?a ?l ?c ?k;(case a|l|c|k=>k_is)
  have h_is_whole:L4.yh3 (L2.KOf KX) mg "is_whole" (K56.top 8) ["thing"]:=by
   dsimp only[L2.KOf];refine' L4.mkF KX G K56.zd7 ?a ?l ?c ?k;(case a|l|c|k=>k_is)
  have h_is_between:L4.yh3 (L2.KOf KX) mg "is_between" (K56.top 9) ["thing", "least", "most"]:=by
   dsimp only[L2.KOf];refine' L4.mkF KX G K56.zco ?a ?l ?c ?k;(case a|l|c|k=>k_is)
  have h_is_hand:L4.yh3 (L2.KOf KX) mg "is_hand" (K56.top 11) ["thing"]:=by
   dsimp only[L2.KOf];refine' L4.mkF KX G K56.zfj ?a ?l ?c ?k;(case a|l|c|k=>k_is)
  have h_makes_a_pot:L4.yh3 (L2.KOf KX) mg "makes_a_pot" (K56.top 37) ["thing"]:=by
   dsimp only[L2.KOf];refine' L4.mkF KX G K56.zb2 ?a ?l ?c ?k;(case a|l|c|k=>k_is)
  have h_checked_pots:L4.yh3 (L2.KOf KX) mg "checked_pots" (K56.top 38) ["pots"]:=by
   dsimp only[L2.KOf];refine' L4.mkF KX G K56.zbf ?a ?l ?c ?k;(case a|l|c|k=>k_is)
  have h_whole_of:L4.yh3 (L2.KOf KX) mg "whole_of" (K56.top 39) ["made"]:=by
   dsimp only[L2.KOf];refine' L4.mkF KX G K56.zd8 ?a ?l ?c ?k;(case a|l|c|k=>k_is)
  have h_check_span:L4.yh3 (L2.KOf KX) mg "check_span" (K56.top 50) ["hand", "every", "pots"]:=by
   dsimp only[L2.KOf];refine' L4.mkF KX G K56.zcn ?a ?l ?c ?k;(case a|l|c|k=>k_is)
  have h_are_ties:L4.yh3 (L2.KOf KX) mg "are_ties" (K56.top 27) ["thing"]:=by
   dsimp only[L2.KOf];refine' L4.mkF KX G K56.zd5 ?a ?l ?c ?k;(case a|l|c|k=>k_is)
  have h_are_shares:L4.yh3 (L2.KOf KX) mg "are_shares" (K56.top 26) ["thing"]:=by
   dsimp only[L2.KOf];refine' L4.mkF KX G K56.zcm ?a ?l ?c ?k;(case a|l|c|k=>k_is)
  have h_is_number:L4.yh3 (L2.KOf KX) mg "is_number" (K56.top 14) ["thing"]:=by
   dsimp only[L2.KOf];refine' L4.mkF KX G K56.zda ?a ?l ?c ?k;(case a|l|c|k=>k_is)
  have h_is_stand:L4.yh3 (L2.KOf KX) mg "is_stand" (K56.top 28) ["thing"]:=by
   dsimp only[L2.KOf];refine' L4.mkF KX G K56.zd6 ?a ?l ?c ?k;(case a|l|c|k=>k_is)
  have h_stand:L4.yab (L2.KOf KX) mg "stand" (K56.top 29) ["number", "shares", "ties"] [Value.none]:=by
   dsimp only[L2.KOf];refine' L4.yqv KX G K56.zle ?a ?l ?c ?k ?d;(case a|l|c|k|d=>k_is)
  have h_first:L4.yh3 (L2.KOf KX) mg "first" (K56.top 30) ["left", "right"]:=by
   dsimp only[L2.KOf];refine' L4.mkF KX G K56.zld ?a ?l ?c ?k;(case a|l|c|k=>k_is)
  have h_first_account:L4.yh3 (L2.KOf KX) mg "first_account" (K56.top 46) ["pot", "side", "left", "right"]:=by
   dsimp only[L2.KOf];refine' L4.mkF KX G K56.zaw ?a ?l ?c ?k;(case a|l|c|k=>k_is)
  have h_words_of:L4.yh3 (L2.KOf KX) mg "words_of" (K56.top 53) ["hand", "words"]:=by
   dsimp only[L2.KOf];refine' L4.mkF KX G K56.zd9 ?a ?l ?c ?k;(case a|l|c|k=>k_is)
  have h__law_caught:L4.yh3 (L2.KOf KX) mg "_law_caught" (K56.top 58) ["_law_e"]:=by
   dsimp only[L2.KOf];refine' L4.mkF KX G K56.zb1 ?a ?l ?c ?k;(case a|l|c|k=>k_is)
  have h__law_told:L4.yh3 (L2.KOf KX) mg "_law_told" (K56.top 59) ["_law_pots", "_law_keeps", "_law_every"]:=by
   dsimp only[L2.KOf];refine' L4.mkF KX G K56.zc9 ?a ?l ?c ?k;(case a|l|c|k=>k_is)
  have h__law_no_keeper:L4.yh3 (L2.KOf KX) mg "_law_no_keeper" (K56.top 60) ["_law_hall", "_law_hand"]:=by
   dsimp only[L2.KOf];refine' L4.mkF KX G K56.zak ?a ?l ?c ?k;(case a|l|c|k=>k_is)
  have h_law:L4.yh3 (L2.KOf KX) mg "law" (K56.top 61) ["_law_script"]:=by
   dsimp only[L2.KOf];refine' L4.mkF KX G K56.yak ?a ?l ?c ?k;(case a|l|c|k=>k_is)
  have n_all:mg "all" = none:=by
   refine' mg_none_of KX G ?a;(case a=>k_is)
  have n_bool:mg "bool" = none:=by
   refine' mg_none_of KX G ?a;(case a=>k_is)
  have n_enumerate:mg "enumerate" = none:=by
   refine' mg_none_of KX G ?a;(case a=>k_is)
  have n_int:mg "int" = none:=by
   refine' mg_none_of KX G ?a;(case a=>k_is)
  have n_isinstance:mg "isinstance" = none:=by
   refine' mg_none_of KX G ?a;(case a=>k_is)
  have n_len:mg "len" = none:=by
   refine' mg_none_of KX G ?a;(case a=>k_is)
  have n_list:mg "list" = none:=by
   refine' mg_none_of KX G ?a;(case a=>k_is)
  have n_range:mg "range" = none:=by
   refine' mg_none_of KX G ?a;(case a=>k_is)
  have n_set:mg "set" = none:=by
   refine' mg_none_of KX G ?a;(case a=>k_is)
  have n_sorted:mg "sorted" = none:=by
   refine' mg_none_of KX G ?a;(case a=>k_is)
  have n_tuple:mg "tuple" = none:=by
   refine' mg_none_of KX G ?a;(case a=>k_is)
  have c_HELD:L4.GlT (L2.KOf KX) mg "HELD" ["held"]:=by
   dsimp only[L2.KOf];refine' L4.mkT KX G ?a ?b;(case a=>k_is);(case b=>kernel_rfl)
  have c_MOST_COIN:∃ t,mg "MOST_COIN" = some (.int 1000000000000 t):=by
   refine' L4.mkI KX G ?a;(case a=>k_is)
  have c_MOST_EVERY:∃ t,mg "MOST_EVERY" = some (.int 50 t):=by
   refine' L4.mkI KX G ?a;(case a=>k_is)
  have c_MOST_HAND:∃ t,mg "MOST_HAND" = some (.int 3 t):=by
   refine' L4.mkI KX G ?a;(case a=>k_is)
  have c_MOST_NUMBER:∃ t,mg "MOST_NUMBER" = some (.int 1000000 t):=by
   refine' L4.mkI KX G ?a;(case a=>k_is)
  have c_MOST_POT:∃ t,mg "MOST_POT" = some (.int 2 t):=by
   refine' L4.mkI KX G ?a;(case a=>k_is)
  have c_MOST_SHARE:∃ t,mg "MOST_SHARE" = some (.int 2000000000000 t):=by
   refine' L4.mkI KX G ?a;(case a=>k_is)
  have c_MOST_TIES:∃ t,mg "MOST_TIES" = some (.int 6 t):=by
   refine' L4.mkI KX G ?a;(case a=>k_is)
  have c_MOST_WAIT:∃ t,mg "MOST_WAIT" = some (.int 100 t):=by
   refine' L4.mkI KX G ?a;(case a=>k_is)
  refine' (have q0:nsIn (L2.KOf KX) mainGlobals "BookError" = some (some (.ref ?C0)):=?p0;have q1:excIn (L2.KOf KX) ?C0 L4.veB "ValueError.__new__" = true:=?p1;have q2:nsIn (L2.KOf KX) mainGlobals "NoStand" = some (some (.ref ?C1)):=?p2;have q3:excIn (L2.KOf KX) ?C1 L4.veB "ValueError.__new__" = true:=?p3;have q4:nsIn (L2.KOf KX) mainGlobals "NoDeed" = some (some (.ref ?C2)):=?p4;have q5:excIn (L2.KOf KX) ?C2 L4.veB "ValueError.__new__" = true:=?p5;have q6:nsIn (L2.KOf KX) mainGlobals "NoPot" = some (some (.ref ?C3)):=?p6;have q7:nsIn (L2.KOf KX) mainGlobals "NoSpan" = some (some (.ref ?C4)):=?p7;have q8:excIn (L2.KOf KX) ?C4 L4.veB "ValueError.__new__" = true:=?p8;have q9:findIn (L2.KOf KX) (.ref ?C3) "__init__" = some (some (.ref ?C83)):=?p9;?_);(case p0|p1|p2|p3|p4|p5|p6|p7|p8|p9=>dsimp only[L2.KOf];first|k_is|k_exc|rfl)
  refine' (have q10:L4.HasM (L2.KOf KX) ?C3 "__init__" "NoPot.__init__" (L4.yk9 (K56.top 20) 0) ["self", "pot"] ?C83:=?p10;have q11:L4.yja (L2.KOf KX) ?C3 L4.veB "ValueError.__new__" ?C83=true:=?p11;have q12:((L2.KOf KX).lookup ?C83).any (fun o=>o.cls == .type "function")=true:=?p12;have q13:keepIn (L2.KOf KX) (.ref ?C3)=true:=?p13;have q14:findIn (L2.KOf KX) (.ref ?C3) "__setattr__" = some (some (.builtin "object.__setattr__")):=?p14;have q15:findIn (L2.KOf KX) (.ref ?C3) "pot" = some none:=?p15;have q16:mroIn (L2.KOf KX) ?C3 (.type "object")=some true:=?p16;have q17:specialIn (L2.KOf KX) (.ref ?C0) (Str.ofString "__getattribute__")=some (some (.builtin "type.__getattribute__")):=?p17;have q18:readsIn (L2.KOf KX) ?C0 (.type "type")=true:=?p18;have q19:findCls (L2.KOf KX) (.ref ?C0) (.type "type") "__init__" = some (.val (.builtin "ValueError.__init__")):=?p19;?_);(case p10=>dsimp only[L2.KOf];refine' L4.mkM K56.zaj ?l ?c ?k;(case l|c|k=>k_is));(case p11|p12=>dsimp only[L2.KOf];kernel_rfl);(case p13|p14|p15|p16|p17|p18|p19=>dsimp only[L2.KOf];first|k_is|k_exc|rfl)
  refine' (have q20:exmOne (L2.KOf KX) (.ref ?C2) (.ref ?C0)=some true:=?p20;have q21:exmOne (L2.KOf KX) (.ref ?C2) (.ref ?C2)=some true:=?p21;have q22:exmOne (L2.KOf KX) (.ref ?C3) (.ref ?C0)=some true:=?p22;have q23:exmOne (L2.KOf KX) (.ref ?C3) (.ref ?C2)=some false:=?p23;have q24:exmOne (L2.KOf KX) (.ref ?C4) (.ref ?C0)=some true:=?p24;have q25:exmOne (L2.KOf KX) (.ref ?C4) (.ref ?C2)=some false:=?p25;have q26:L4.ExK (L2.KOf KX) ?C4:=?p26;have q27:L4.ExK (L2.KOf KX) ?C3:=?p27;have q28:L4.ExK (L2.KOf KX) ?C2:=?p28;have q29:kitOne (L2.KOf KX) (.ref ?C2) (.ref ?C3)=some false:=?p29;?_);(case p20|p21|p22|p23|p24|p25=>dsimp only[L2.KOf];first|k_is|k_exc|rfl);(case p26|p27|p28=>dsimp only[L2.KOf];refine' ⟨?a,?b,?c,?d,?e,?f,?g,?h⟩;(case a|b|c|d|e|f|g|h=>k_is));(case p29=>dsimp only[L2.KOf];first|k_is|k_exc|rfl)
  refine' (have q30:kitOne (L2.KOf KX) (.ref ?C2) (.ref ?C4)=some false:=?p30;have q31:kitOne (L2.KOf KX) (.ref ?C3) (.ref ?C3)=some true:=?p31;have q32:kitOne (L2.KOf KX) (.ref ?C3) (.ref ?C4)=some false:=?p32;have q33:kitOne (L2.KOf KX) (.ref ?C4) (.ref ?C3)=some false:=?p33;have q34:kitOne (L2.KOf KX) (.ref ?C4) (.ref ?C4)=some true:=?p34;have q35:nsIn (L2.KOf KX) mainGlobals "Claim" = some (some (.ref ?C5)):=?p35;have q36:nsIn (L2.KOf KX) mainGlobals "Held" = some (some (.ref ?C6)):=?p36;have q37:nsIn (L2.KOf KX) mainGlobals "Book" = some (some (.ref ?C7)):=?p37;have q38:nsIn (L2.KOf KX) mainGlobals "Account" = some (some (.ref ?C8)):=?p38;have q39:nsIn (L2.KOf KX) mainGlobals "Calm" = some (some (.ref ?C9)):=?p39;?_);(case p30|p31|p32|p33|p34|p35|p36|p37|p38|p39=>dsimp only[L2.KOf];first|k_is|k_exc|rfl)
  refine' (have q40:nsIn (L2.KOf KX) mainGlobals "Keeper" = some (some (.ref ?C10)):=?p40;have q41:nsIn (L2.KOf KX) mainGlobals "Hall" = some (some (.ref ?C11)):=?p41;have q42:findIn (L2.KOf KX) (.ref ?C5) "__init__" = some (some (.ref ?C12)):=?p42;have q43:L4.HasM (L2.KOf KX) ?C5 "__init__" "Claim.__init__" (L4.yk9 (K56.top 32) 0) ["self", "whole"] ?C12:=?p43;have q44:findIn (L2.KOf KX) (.ref ?C7) "__init__" = some (some (.ref ?C16)):=?p44;have q45:L4.HasM (L2.KOf KX) ?C7 "__init__" "Book.__init__" (L4.yk9 (K56.top 40) 0) ["self", "pots"] ?C16:=?p45;have q46:findIn (L2.KOf KX) (.ref ?C7) "made_of" = some (some (.ref ?C30)):=?p46;have q47:L4.HasM (L2.KOf KX) ?C7 "made_of" "Book.made_of" (L4.yk9 (K56.top 40) 14) ["self"] ?C30:=?p47;have q48:findIn (L2.KOf KX) (.ref ?C10) "learn" = some (some (.ref ?C38)):=?p48;have q49:L4.HasM (L2.KOf KX) ?C10 "learn" "Keeper.learn" (L4.yk9 (K56.top 51) 2) ["self", "words"] ?C38:=?p49;?_);(case p40|p41|p42=>dsimp only[L2.KOf];first|k_is|k_exc|rfl);(case p43=>dsimp only[L2.KOf];refine' L4.mkM K56.zai ?l ?c ?k;(case l|c|k=>k_is));(case p44=>dsimp only[L2.KOf];first|k_is|k_exc|rfl);(case p45=>dsimp only[L2.KOf];refine' L4.mkM K56.zat ?l ?c ?k;(case l|c|k=>k_is));(case p46=>dsimp only[L2.KOf];first|k_is|k_exc|rfl);(case p47=>dsimp only[L2.KOf];refine' L4.mkM K56.zbb ?l ?c ?k;(case l|c|k=>k_is));(case p48=>dsimp only[L2.KOf];first|k_is|k_exc|rfl);(case p49=>dsimp only[L2.KOf];refine' L4.mkM K56.zbc ?l ?c ?k;(case l|c|k=>k_is))
  refine' (have q50:findIn (L2.KOf KX) (.ref ?C10) "hold" = some (some (.ref ?C37)):=?p50;have q51:L4.HasM (L2.KOf KX) ?C10 "hold" "Keeper.hold" (L4.yk9 (K56.top 51) 1) ["self", "account", "claim", "seen"] ?C37:=?p51;have q52:findIn (L2.KOf KX) (.ref ?C8) "__init__" = some (some (.ref ?C31)):=?p52;have q53:L4.HasM (L2.KOf KX) ?C8 "__init__" "Account.__init__" (L4.yk9 (K56.top 44) 0) ["self", "pot", "side", "mine", "grant", "may", "strikes"] ?C31:=?p53;have q54:findIn (L2.KOf KX) (.ref ?C10) "__init__" = some (some (.ref ?C36)):=?p54;have q55:L4.HasMD (L2.KOf KX) ?C10 "__init__" "Keeper.__init__" (L4.yk9 (K56.top 51) 0) ["self", "hand", "every", "pots", "words"] [.none] ?C36:=?p55;have q56:findIn (L2.KOf KX) (.ref ?C11) "__init__" = some (some (.ref ?C60)):=?p56;have q57:L4.HasMD (L2.KOf KX) ?C11 "__init__" "Hall.__init__" (L4.yk9 (K56.top 54) 0) ["self", "pots", "keeps", "every", "words"] [.none] ?C60:=?p57;have q58:findIn (L2.KOf KX) (.ref ?C11) "book" = some (some (.ref ?C61)):=?p58;have q59:L4.HasM (L2.KOf KX) ?C11 "book" "Hall.book" (L4.yk9 (K56.top 54) 1) ["self"] ?C61:=?p59;?_);(case p50=>dsimp only[L2.KOf];first|k_is|k_exc|rfl);(case p51=>dsimp only[L2.KOf];refine' L4.mkM K56.zb0 ?l ?c ?k;(case l|c|k=>k_is));(case p52=>dsimp only[L2.KOf];first|k_is|k_exc|rfl);(case p53=>dsimp only[L2.KOf];refine' L4.mkM K56.zaa ?l ?c ?k;(case l|c|k=>k_is));(case p54=>dsimp only[L2.KOf];first|k_is|k_exc|rfl);(case p55=>dsimp only[L2.KOf];refine' L4.yqw K56.zad ?l ?c ?d;(case l|c|d=>k_is));(case p56=>dsimp only[L2.KOf];first|k_is|k_exc|rfl);(case p57=>dsimp only[L2.KOf];refine' L4.yqw K56.zau ?l ?c ?d;(case l|c|d=>k_is));(case p58=>dsimp only[L2.KOf];first|k_is|k_exc|rfl);(case p59=>dsimp only[L2.KOf];refine' L4.mkM K56.zc7 ?l ?c ?k;(case l|c|k=>k_is))
  refine' (have q60:findIn (L2.KOf KX) (.ref ?C11) "road" = some (some (.ref ?C63)):=?p60;have q61:L4.HasM (L2.KOf KX) ?C11 "road" "Hall.road" (L4.yk9 (K56.top 54) 3) ["self"] ?C63:=?p61;have q62:findIn (L2.KOf KX) (.ref ?C11) "keeper" = some (some (.ref ?C62)):=?p62;have q63:L4.HasM (L2.KOf KX) ?C11 "keeper" "Hall.keeper" (L4.yk9 (K56.top 54) 2) ["self", "hand"] ?C62:=?p63;have q64:findIn (L2.KOf KX) (.ref ?C10) "words" = some (some (.ref ?C39)):=?p64;have q65:L4.HasM (L2.KOf KX) ?C10 "words" "Keeper.words" (L4.yk9 (K56.top 51) 3) ["self"] ?C39:=?p65;have q66:findIn (L2.KOf KX) (.ref ?C10) "looked" = some (some (.ref ?C40)):=?p66;have q67:L4.HasM (L2.KOf KX) ?C10 "looked" "Keeper.looked" (L4.yk9 (K56.top 51) 4) ["self"] ?C40:=?p67;have q68:L2.Cls (L2.KOf KX) ?C11:=?p68;have q69:L2.yac (L2.KOf KX) ?C11 "pots":=?p69;?_);(case p60=>dsimp only[L2.KOf];first|k_is|k_exc|rfl);(case p61=>dsimp only[L2.KOf];refine' L4.mkM K56.zc8 ?l ?c ?k;(case l|c|k=>k_is));(case p62=>dsimp only[L2.KOf];first|k_is|k_exc|rfl);(case p63=>dsimp only[L2.KOf];refine' L4.mkM K56.zbz ?l ?c ?k;(case l|c|k=>k_is));(case p64=>dsimp only[L2.KOf];first|k_is|k_exc|rfl);(case p65=>dsimp only[L2.KOf];refine' L4.mkM K56.zbd ?l ?c ?k;(case l|c|k=>k_is));(case p66=>dsimp only[L2.KOf];first|k_is|k_exc|rfl);(case p67=>dsimp only[L2.KOf];refine' L4.mkM K56.zav ?l ?c ?k;(case l|c|k=>k_is));(case p68=>dsimp only[L2.KOf];refine' ⟨?a,?b,?c,?d⟩;(case a|b|c|d=>k_is));(case p69=>dsimp only[L2.KOf];first|k_is|k_exc|rfl)
  refine' (have q70:L2.Cls (L2.KOf KX) ?C7:=?p70;have q71:L2.yac (L2.KOf KX) ?C7 "pots":=?p71;have q72:L2.yac (L2.KOf KX) ?C7 "day":=?p72;have q73:L2.Cls (L2.KOf KX) ?C6:=?p73;have q74:L2.yac (L2.KOf KX) ?C6 "whole":=?p74;have q75:L2.Cls (L2.KOf KX) ?C5:=?p75;have q76:L2.yac (L2.KOf KX) ?C5 "whole":=?p76;have q77:L2.Mk (L2.KOf KX) ?C6 ?C12:=?p77;have q78:L2.Cls (L2.KOf KX) ?C10:=?p78;have q79:L2.yac (L2.KOf KX) ?C10 "claims":=?p79;?_);(case p70=>dsimp only[L2.KOf];refine' ⟨?a,?b,?c,?d⟩;(case a|b|c|d=>k_is));(case p71|p72=>dsimp only[L2.KOf];first|k_is|k_exc|rfl);(case p73=>dsimp only[L2.KOf];refine' ⟨?a,?b,?c,?d⟩;(case a|b|c|d=>k_is));(case p74=>dsimp only[L2.KOf];first|k_is|k_exc|rfl);(case p75=>dsimp only[L2.KOf];refine' ⟨?a,?b,?c,?d⟩;(case a|b|c|d=>k_is));(case p76=>dsimp only[L2.KOf];first|k_is|k_exc|rfl);(case p77|p78=>dsimp only[L2.KOf];refine' ⟨?a,?b,?c,?d⟩;(case a|b|c|d=>k_is));(case p79=>dsimp only[L2.KOf];first|k_is|k_exc|rfl)
  refine' (have q80:L2.yac (L2.KOf KX) ?C7 "claims":=?p80;have q81:L2.yac (L2.KOf KX) ?C7 "shown":=?p81;have q82:L2.Mk (L2.KOf KX) ?C7 ?C16:=?p82;have q83:L2.yac (L2.KOf KX) ?C11 "public":=?p83;have q84:L2.Meth (L2.KOf KX) ?C7 "made_of" ?C30:=?p84;have q85:L2.yac (L2.KOf KX) ?C11 "every":=?p85;have q86:L2.yac (L2.KOf KX) ?C10 "every":=?p86;have q87:L2.yac (L2.KOf KX) ?C11 "keepers":=?p87;have q88:L2.yac (L2.KOf KX) ?C11 "under_way":=?p88;have q89:L2.yac (L2.KOf KX) ?C11 "things":=?p89;?_);(case p80|p81=>dsimp only[L2.KOf];first|k_is|k_exc|rfl);(case p82=>dsimp only[L2.KOf];refine' ⟨?a,?b,?c,?d⟩;(case a|b|c|d=>k_is));(case p83=>dsimp only[L2.KOf];first|k_is|k_exc|rfl);(case p84=>dsimp only[L2.KOf];refine' ⟨?a,?b,?c⟩;(case a|b|c=>k_is));(case p85|p86|p87|p88|p89=>dsimp only[L2.KOf];first|k_is|k_exc|rfl)
  refine' (have q90:L2.yac (L2.KOf KX) ?C10 "hand":=?p90;have q91:L2.yac (L2.KOf KX) ?C10 "last_look":=?p91;have q92:L2.yac (L2.KOf KX) ?C10 "gave":=?p92;have q93:L2.yac (L2.KOf KX) ?C10 "known":=?p93;have q94:L2.yac (L2.KOf KX) ?C10 "accounts":=?p94;have q95:L2.yac (L2.KOf KX) ?C10 "seen":=?p95;have q96:L2.yac (L2.KOf KX) ?C10 "asked":=?p96;have q97:L2.yac (L2.KOf KX) ?C10 "finishing":=?p97;have q98:L2.Meth (L2.KOf KX) ?C10 "learn" ?C38:=?p98;have q99:L2.Cls (L2.KOf KX) ?C9:=?p99;?_);(case p90|p91|p92|p93|p94|p95|p96|p97=>dsimp only[L2.KOf];first|k_is|k_exc|rfl);(case p98=>dsimp only[L2.KOf];refine' ⟨?a,?b,?c⟩;(case a|b|c=>k_is));(case p99=>dsimp only[L2.KOf];refine' ⟨?a,?b,?c,?d⟩;(case a|b|c|d=>k_is))
  refine' (have q100:L2.yac (L2.KOf KX) ?C9 "pot":=?p100;have q101:L2.Cls (L2.KOf KX) ?C8:=?p101;have q102:L2.yac (L2.KOf KX) ?C8 "pot":=?p102;have q103:L2.Meth (L2.KOf KX) ?C10 "hold" ?C37:=?p103;have q104:L2.yac (L2.KOf KX) ?C9 "side":=?p104;have q105:L2.yac (L2.KOf KX) ?C8 "side":=?p105;have q106:L2.yac (L2.KOf KX) ?C9 "mine":=?p106;have q107:L2.yac (L2.KOf KX) ?C8 "mine":=?p107;have q108:L2.yac (L2.KOf KX) ?C9 "grant":=?p108;have q109:L2.yac (L2.KOf KX) ?C8 "grant":=?p109;?_);(case p100=>dsimp only[L2.KOf];first|k_is|k_exc|rfl);(case p101=>dsimp only[L2.KOf];refine' ⟨?a,?b,?c,?d⟩;(case a|b|c|d=>k_is));(case p102=>dsimp only[L2.KOf];first|k_is|k_exc|rfl);(case p103=>dsimp only[L2.KOf];refine' ⟨?a,?b,?c⟩;(case a|b|c=>k_is));(case p104|p105|p106|p107|p108|p109=>dsimp only[L2.KOf];first|k_is|k_exc|rfl)
  refine' (have q110:L2.yac (L2.KOf KX) ?C9 "may":=?p110;have q111:L2.yac (L2.KOf KX) ?C8 "may":=?p111;have q112:L2.yac (L2.KOf KX) ?C9 "strikes":=?p112;have q113:L2.yac (L2.KOf KX) ?C8 "strikes":=?p113;have q114:L2.Mk (L2.KOf KX) ?C9 ?C31:=?p114;have q115:L2.Mk (L2.KOf KX) ?C10 ?C36:=?p115;have q116:L2.Mk (L2.KOf KX) ?C11 ?C60:=?p116;have q117:L2.Meth (L2.KOf KX) ?C11 "book" ?C61:=?p117;have q118:L2.Meth (L2.KOf KX) ?C11 "road" ?C63:=?p118;have q119:L2.Meth (L2.KOf KX) ?C11 "keeper" ?C62:=?p119;?_);(case p110|p111|p112|p113=>dsimp only[L2.KOf];first|k_is|k_exc|rfl);(case p114|p115|p116=>dsimp only[L2.KOf];refine' ⟨?a,?b,?c,?d⟩;(case a|b|c|d=>k_is));(case p117|p118|p119=>dsimp only[L2.KOf];refine' ⟨?a,?b,?c⟩;(case a|b|c=>k_is))
  refine' (have q120:L2.Meth (L2.KOf KX) ?C10 "words" ?C39:=?p120;have q121:L2.Meth (L2.KOf KX) ?C10 "looked" ?C40:=?p121;?_);(case p120|p121=>dsimp only[L2.KOf];refine' ⟨?a,?b,?c⟩;(case a|b|c=>k_is));refine⟨fun n=>([?C0,?C1,?C2,?C3,?C4,?C5,?C6,?C7,?C8,?C9,?C10,?C11,?C12,0,0,0,?C16,0,0,0,0,0,0,0,0,0,0,0,0,0,?C30,?C31,0,0,0,0,?C36,?C37,?C38,?C39,?C40,0,0,0,0,0,0,0,0,0,0,0,0,0,0,0,0,0,0,0,?C60,?C61,?C62,?C63,0,0,0,0,0,0,0,0,0,0,0,0,0,0,0,0,0,0,0,?C83]:List Addr).getD (n % 100) 0,?_⟩;exact K56.ye4 ⟨h__law_cell_at,h__law_pot,h_is_whole,h_is_between,h_is_hand,h_makes_a_pot,h_checked_pots,q43,h_whole_of,q45,q47,h_check_span,q49,q51,h_are_ties,h_are_shares,h_is_number,h_is_stand,h_stand,h_first,q53,h_first_account,q55,h_words_of,q57,h__law_caught,h__law_told,q59,q61,q63,q65,q67,h__law_no_keeper,h_law,n_all,n_bool,n_enumerate,n_int,n_isinstance,n_len,n_list,n_range,n_set,n_sorted,n_tuple,c_HELD,c_MOST_COIN,c_MOST_EVERY,c_MOST_HAND,c_MOST_NUMBER,c_MOST_POT,c_MOST_SHARE,c_MOST_TIES,c_MOST_WAIT,fun c hc n _=>L4.zls _ c n hc,q10,q11,q12,q13,q14,q15,q16,q17,q18,q19,mg_of KX G q0,q1,mg_of KX G q2,q3,mg_of KX G q4,q5,mg_of KX G q6,mg_of KX G q7,q8,q20,q21,q22,q23,q24,q25,q26,q27,q28,q29,q30,q31,q32,q33,q34,q68,q69,q70,q71,q72,q73,q74,q75,q76,mg_of KX G q36,q77,q78,q79,q80,q81,mg_of KX G q37,q82,q83,q84,q85,q86,q87,q88,q89,q90,q91,q92,q93,q94,q95,q96,q97,q98,q99,q100,q101,q102,q103,q104,q105,q106,q107,q108,q109,q110,q111,q112,q113,mg_of KX G q39,q114,mg_of KX G q40,q115,mg_of KX G q41,q116,q117,q118,q119,q120,q121⟩
