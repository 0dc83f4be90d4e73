import PyProof.Rows.All
import Wide.All
import OpenK.AllK
import Wide.FinOn
import Lean
import PyProof.EqAt
import PyProof.EqKinds
import PyProof.TupleCall
import PyProof.NeKinds
import PyProof.NsDelKeeps
import KE.KTryMore
import PyProof.WalksMore
import PyProof.Rows.SetFrom
import KE.KEqDict
import PyProof.ToksMono
import PyProof.StrCalls6
import PyProof.StrBlock2
import PyProof.SliceStr2
import PyProof.StrLawsTight
import PyProof.InstStoreFacts
import PyProof.Rows.FStr
import PyProof.FactsAll.set
import KE.KDictLaws
import KE.KIntText
import PyProof.Rows.StrWeight2
import PyProof.StrWalks
import PyProof.StrBlockH
import PyProof.WalksEnum
import PyProof.ZipIter
import PyProof.EnumMake
import PyProof.FitsReplace
import PyProof.StrLawsIn
import PyProof.Rows.SortWalk
import PyProof.DictUpdate
import KE.KDictList
import KE.KDictSum
import KE.KPairComp
import PyProof.FactsAll.dict
import KE.KMinKey
import KE.KLam
import PySem.Challenge.RW_sidebook_k34_whole_a_look_loses_nothing
set_option Elab.async false
set_option linter.all false
set_option maxRecDepth 100000
def PySem.W.Fast.tw8304663838439968480:Nat:=0
def PySem.W.Fast.tw15016105575901173974:Nat:=0
def PySem.W.Fast.tw18162730392384793007:Nat:=0
def PySem.W.Fast.tw9916599035332531237:Nat:=0
def PySem.W.Fast.tw718847924804781752:Nat:=0
def PySem.W.Fast.tw4018730126787238296:Nat:=0
def PySem.W.Fast.tw1491931674597204972:Nat:=0
def PySem.W.Fast.tw9857845125709269681:Nat:=0
def PySem.W.Fast.tw8690510256829077078:Nat:=0
def PySem.W.Fast.tw3556145320787746486:Nat:=0
def PySem.W.Fast.tw15490280460597949897:Nat:=0
def PySem.W.Fast.tw2817179924777030091:Nat:=0
namespace L2
open PySem PySem.Spec PyProof.Rows
abbrev Key:=Sum Int Str
def yeb:Key->Value->Bool
 | .inl k,v=>Value.isInt k v
 | .inr x,v=>Value.isStrOf x v
def yi5(w:World):Key->Int
 | .inl k=>hashInt k
 | .inr x=>hashStr w x
theorem zdn:∀ {k:Key} {v:Value},yeb k v=true->(∃ i t,k=Sum.inl i/\v=Value.int i t)\/(∃ x t,k=Sum.inr x/\v=Value.str x t)
 | .inl i,v,h=>by
  obtain⟨t,e⟩:=Value.isInt_shape (k:=i) (v:=v) h;exact .inl ⟨i,t,rfl,e⟩
 | .inr x,v,h=>by
  obtain⟨t,e⟩:=Value.isStrOf_shape (x:=x) (v:=v) h;exact .inr ⟨x,t,rfl,e⟩
theorem zgl(i:Int)(t:Tok):yeb (.inl i) (.int i t)=true:=by simp[yeb,Value.isInt]
theorem zgm(x:Str)(t:Tok):yeb (.inr x) (.str x t)=true:=by simp[yeb,Value.isStrOf]
theorem zyi(a b:Int):decide ((Sum.inl a:Key)=Sum.inl b)=(a == b):=by
 by_cases e:a=b
 ·subst e;simp
 ·have h:¬ (Sum.inl a:Key)=Sum.inl b:=fun q=>e (Sum.inl.inj q);rw[decide_eq_false h];exact(beq_eq_false_iff_ne.mpr e).symm
theorem zym(a b:Str):decide ((Sum.inr a:Key)=Sum.inr b)=decide (a=b):=by
 by_cases e:a=b
 ·subst e;simp
 ·have h:¬ (Sum.inr a:Key)=Sum.inr b:=fun q=>e (Sum.inr.inj q);rw[decide_eq_false h,decide_eq_false e]
theorem zyj(a:Int)(b:Str):decide ((Sum.inl a:Key)=Sum.inr b)=false:=decide_eq_false (fun q=>nomatch q)
theorem zyl(a:Str)(b:Int):decide ((Sum.inr a:Key)=Sum.inl b)=false:=decide_eq_false (fun q=>nomatch q)
def zrr(prog:Program)(w:World):PySem.KeyKind prog w Key where
 is:=yeb
 hash:=yi5 w
 inj:=fun v a b ha hb=>by
  rcases zdn ha with⟨i,t,rfl,rfl⟩|⟨x,t,rfl,rfl⟩
  ·rcases zdn hb with⟨j,u,rfl,e⟩|⟨y,u,rfl,e⟩
   ·injection e with e1 _;rw[e1]
   ·exact nomatch e
  ·rcases zdn hb with⟨j,u,rfl,e⟩|⟨y,u,rfl,e⟩
   ·exact nomatch e
   ·injection e with e1 _;rw[e1]
 byValue:=fun k v h=>by
  rcases zdn h with⟨i,t,rfl,rfl⟩|⟨x,t,rfl,rfl⟩<;>rfl
 pyHash:=fun hv h=>by
  rcases zdn hv with⟨i,t,rfl,rfl⟩|⟨x,t,rfl,rfl⟩
  ·exact wpAny_pyHash_int h
  ·exact wpAny_pyHash_str h
 eqBool:=fun hu hv h=>by
  rcases zdn hu with⟨i,t,rfl,rfl⟩|⟨x,t,rfl,rfl⟩
  ·rcases zdn hv with⟨j,u,rfl,rfl⟩|⟨y,u,rfl,rfl⟩
   ·rw[zyi]at h;exact wpAny_eqBool_int h
   ·rw[zyj]at h;exact SeqAt.EqAt.int_str i t y u _ _ _ _ h
  ·rcases zdn hv with⟨j,u,rfl,rfl⟩|⟨y,u,rfl,rfl⟩
   ·rw[zyl]at h;exact SeqAt.EqAt.str_int x t j u _ _ _ _ h
   ·rw[zym]at h;exact wpAny_eqBool_str h
 «strs»:=fun k x t v h=>by
  rcases zdn h with⟨i,u,rfl,e⟩|⟨y,u,rfl,e⟩
  ·exact nomatch e
  ·injection e with e1 _;subst e1;cases v<;>rfl
theorem zdr(prog:Program)(w:World)(i:Int)(t:Tok):(zrr prog w).is (.inl i) (.int i t)=true:=zgl i t
theorem zds(prog:Program)(w:World)(x:Str)(t:Tok):(zrr prog w).is (.inr x) (.str x t)=true:=zgm x t
end L2
namespace L2
open PySem PySem.Spec PyProof.Rows
inductive V where
 |non|bl (b:Bool)|int (i:Int)|str (x:Str)|byt (b:Array UInt8)|flt (b:UInt64)|ref (a:Addr)|ty (n:String)
 deriving DecidableEq
def yhe:V->Value->Prop
 | .non,u=>u=Value.none
 | .bl b,u=>u=Value.bool b
 | .int i,u=>∃ t,u=Value.int i t
 | .str x,u=>∃ t,u=Value.str x t
 | .byt b,u=>∃ t,u=Value.bytes b t
 | .flt b,u=>∃ t,u=Value.float b t
 | .ref a,u=>u=Value.ref a
 | .ty n,u=>u=Value.type n
abbrev yho:List V->List Value->Prop:=Paired yhe
theorem yho.length{xs:List V}{us:List Value}(r:yho xs us):xs.length=us.length:=Paired.length r
theorem yho.get:∀ {xs:List V} {us:List Value} {i:Nat} {x:V},yho xs us->xs[i]?=some x->∃ u,us[i]?=some u/\yhe x u
 |_,_,_,_,.nil,e=>by simp at e
 |_,_,0,_,.cons r _,e=>by simp at e;subst e;exact⟨_,rfl,r⟩
 |_,_,i+1,x,.cons _ t,e=>by
  obtain⟨u,h1,h2⟩:=yho.get (i:=i) (x:=x) t (by simpa using e);exact⟨u,by simpa using h1,h2⟩
theorem yho.set{x:V}{u:Value}(r:yhe x u):∀ {xs:List V} {us:List Value} (i:Nat),yho xs us->yho (xs.set i x) (us.set i u)
 |_,_,_,.nil=>.nil
 |_,_,0,.cons _ t=>.cons r t
 |_,_,i+1,.cons q t=>.cons q (yho.set r i t)
theorem yho.append:∀ {xs ys:List V} {us ws:List Value},yho xs us->yho ys ws->yho (xs++ys) (us++ws)
 |_,_,_,_,.nil,s=>s
 |_,_,_,_,.cons r t,s=>.cons r (yho.append t s)
theorem yho.take:∀ {xs:List V} {us:List Value} (n:Nat),yho xs us->yho (xs.take n) (us.take n)
 |_,_,0,_=>.nil
 |_,_,_+1,.nil=>.nil
 |_,_,n+1,.cons r t=>.cons r (yho.take n t)
theorem yho.drop:∀ {xs:List V} {us:List Value} (n:Nat),yho xs us->yho (xs.drop n) (us.drop n)
 |_,_,0,r=>r
 |_,_,_+1,.nil=>.nil
 |_,_,n+1,.cons _ t=>yho.drop n t
def yhd:Option V->Option Value->Prop
 |some v,some u=>yhe v u
 |none,none=>True
 |_,_=>False
def KV{κ:Type}:List (κ × V)->List (κ × Value)->Prop:=Paired fun(p:κ × V) (q:κ × Value)=>p.1=q.1/\yhe p.2 q.2
def kV:Key->V
 | .inl i=>.int i
 | .inr x=>.str x
inductive HO where
 |lst (xs:List V)
 |tup (xs:List V)
 |dK (kvs:List (Key × V))|dT (kvs:List (List Key × V))
 |set (S:Int->Bool) (n:Nat)
 |ins (C dx:Addr) (fs:List (Str × V))
 |own (x:Addr)
 |xd (fs:List (Str × V))
 |met (f x:Addr)
 |rng (lo hi:Int)
 |frz (o:Obj) (u:HO)
 |tbl (ps:Array Value)
 |ext (φ:Heap->Prop)
abbrev Hp:=Addr->Option HO
def upd(H:Hp)(a:Addr)(o:HO):Hp:=fun b=>if b=a then some o else H b
theorem zne{H:Hp}{a:Addr}{o:HO}:upd H a o a=some o:=by unfold upd;rw[if_pos rfl]
theorem yby{H:Hp}{a b:Addr}{o:HO}(h:b≠a):upd H a o b=H b:=by unfold upd;rw[if_neg h]
theorem yev{H:Hp}{a b:Addr}{o u:HO}(h:H a=some o)(h':H b=some u)(d:o≠u):a≠b:=by
 intro e;subst e;rw[h]at h';exact d (Option.some.inj h')
theorem zev{H:Hp}{a b:Addr}{o:HO}(h:H a=some o)(h':H b=none):a≠b:=by
 intro e;subst e;rw[h]at h';cases h'
section
variable(P:Program)(w:World)
def yb8(H:Hp)(h:Heap)(a:Addr):HO->Prop
 | .lst xs=>xs.length<=sizeLine/\∃ (its:List Value) (n:Nat),yho xs its/\h.get? a=some { cls:=.type "list",data:=.seq its.toArray n }
 | .tup xs=>xs.length<=sizeLine/\∃ its:List Value,yho xs its/\IsTup h a its.toArray
 | .dK kvs=>kvs.length<=sizeLine/\(a == sysModules)=false/\∃ vs,KV kvs vs/\h.DictOf (zrr P w) a vs
 | .dT kvs=>kvs.length<=sizeLine/\(a == sysModules)=false/\∃ xs:List (List Key × Addr × Value),
   Paired (fun(p:List Key × V) (q:List Key × Addr × Value)=>p.1=q.1/\H q.2.1=some (.tup (p.1.map kV))/\yhe p.2 q.2.2) kvs xs/\
   ∃ o es ep,h.get? a=some o/\o.ExactDict/\o.data=.dict es ep/\es.toList=xs.map (entryOfKey (tupleKind (zrr P w)))/\(xs.map (·.1)).Nodup
 | .set S n=>h.SetOf (intKind P w) a S n
 | .ins C dx fs=>H dx=some (.own a)/\fs.length<=1000/\dx≠a/\h.get? a=some (PySem.W.instObj C dx)/\
   ∃ mA,h.Ns1 dx mA/\(∀ f,yhd (fs.lookup f) (mA f))/\PySem.Within mA (fs.map (·.1))
 | .own _=>∃ o,h.get? a=some o
 | .xd fs=>∃ mA,h.Ns1 a mA/\∀ f,yhd (fs.lookup f) (mA f)
 | .rng lo hi=>∃ t u v,h.get? a=some { cls:=.type "range",data:=.fields #[.int lo t,.int hi u,.int 1 v] }
 | .frz o u=>h.get? a=some o/\yb8 H h a u
 | .tbl ps=>h.get? a=some { cls:=.none,data:=.fields ps }
 | .met f x=>h.get? a=some (PySem.W.methodObj (.ref f) (.ref x))
 | .ext φ=>φ h/\(∃ o,h.get? a=some o)/\∀ h1 h2:Heap,φ h1->(∀ o,h1.get? a=some o->h2.get? a=some o)->φ h2
def HOk(H:Hp)(h:Heap):Prop:=∀ a o,H a=some o->yb8 P w H h a o
end
section
variable{P:Program}{w:World}{H H':Hp}{h h':Heap}{a:Addr}{o:HO}
theorem yb8.lt(x:yb8 P w H h a o):a<h.objs.size:=by
 cases o with
 |lst xs=>obtain⟨_,_,_,_,e⟩:=x;exact Heap.lt_size e
 |tup xs=>obtain⟨_,_,_,p⟩:=x;exact p.lt
 |dK kvs=>obtain⟨_,_,_,_,o,_,_,e,_⟩:=x;exact Heap.lt_size e
 |dT kvs=>obtain⟨_,_,_,_,o,_,_,e,_⟩:=x;exact Heap.lt_size e
 |set S n=>obtain⟨o,_,_,_,e,_⟩:=x;exact Heap.lt_size e
 |ins C dx fs=>obtain⟨_,_,_,e,_⟩:=x;exact Heap.lt_size e
 |own y=>obtain⟨_,e⟩:=x;exact Heap.lt_size e
 |xd fs=>obtain⟨_,⟨_,_,_,e,_⟩,_⟩:=x;exact Heap.lt_size e
 |rng lo hi=>obtain⟨_,_,_,e⟩:=x;exact Heap.lt_size e
 |frz ob u=>obtain⟨e,_⟩:=x;exact Heap.lt_size e
 |tbl ps=>exact Heap.lt_size (show h.get? a=some _ from x)
 |met f y=>exact Heap.lt_size (show h.get? a=some _ from x)
 |ext φ=>obtain⟨_,⟨_,e⟩,_⟩:=x;exact Heap.lt_size e
theorem Paired.mapP{α β:Type}{F G:α->β->Prop}:∀ {l₁:List α} {l₂:List β},Paired F l₁ l₂->(∀ a b,F a b->G a b)->Paired G l₁ l₂
 |_,_,.nil,_=>.nil
 |_,_,.cons r t,f=>.cons (f _ _ r) (Paired.mapP t f)
theorem yb8.stay(x:yb8 P w H h a o)(k:∀ b u,(b=a\/H b=some (.own a))->h.get? b=some u->h'.get? b=some u)
  (ho:∀ b,H b=some (.own a)->H' b=some (.own a)) (ht:∀ b xs,H b=some (.tup xs)->H' b=some (.tup xs)):yb8 P w H' h' a o:=by
 induction o with
 |lst xs=>obtain⟨z,its,n,r,e⟩:=x;exact⟨z,its,n,r,k _ _ (.inl rfl) e⟩
 |tup xs=>obtain⟨z,its,r,ob,e,c⟩:=x;exact⟨z,its,r,ob,k _ _ (.inl rfl) e,c⟩
 |dK kvs=>obtain⟨z,y,vs,r,ob,es,ep,e,c⟩:=x;exact⟨z,y,vs,r,ob,es,ep,k _ _ (.inl rfl) e,c⟩
 |dT kvs=>
  obtain⟨z,y,xs,r,ob,es,ep,e,c⟩:=x;exact⟨z,y,xs,Paired.mapP r fun p q z=>⟨z.1,ht _ _ z.2.1,z.2.2⟩,ob,es,ep,k _ _ (.inl rfl) e,c⟩
 |set S n=>obtain⟨ob,es,ep,t,e,c⟩:=x;exact⟨ob,es,ep,t,k _ _ (.inl rfl) e,c⟩
 |ins C dx fs=>
  obtain⟨d,z,ne,e,mA,⟨od,es,ep,e2,c⟩,r⟩:=x;exact⟨ho _ d,z,ne,k _ _ (.inl rfl) e,mA,⟨od,es,ep,k _ _ (.inr d) e2,c⟩,r⟩
 |own y=>obtain⟨ob,e⟩:=x;exact⟨ob,k _ _ (.inl rfl) e⟩
 |xd fs=>obtain⟨mA,⟨od,es,ep,e,c⟩,r⟩:=x;exact⟨mA,⟨od,es,ep,k _ _ (.inl rfl) e,c⟩,r⟩
 |rng lo hi=>obtain⟨t,u,v,e⟩:=x;exact⟨t,u,v,k _ _ (.inl rfl) e⟩
 |frz ob u ih=>obtain⟨e,q⟩:=x;exact⟨k _ _ (.inl rfl) e,ih q⟩
 |tbl ps=>
  have e:h.get? a=some { cls:=.none,data:=.fields ps }:=x;show h'.get? a=some { cls:=.none,data:=.fields ps };exact k a _ (.inl rfl) e
 |met f y=>
  have e:h.get? a=some (PySem.W.methodObj (.ref f) (.ref y)):=x;show h'.get? a=some (PySem.W.methodObj (.ref f) (.ref y));exact k a _ (.inl rfl) e
 |ext φ=>obtain⟨p,⟨o,e⟩,st⟩:=x;exact⟨st _ _ p fun o q=>k _ _ (.inl rfl) q,⟨o,k _ _ (.inl rfl) e⟩,st⟩
theorem HOk.lt(x:HOk P w H h)(e:H a=some o):a<h.objs.size:=(x a o e).lt
theorem HOk.fresh(x:HOk P w H h)(e:h.objs.size<=a):H a=none:=by
 cases q:H a with
 |none=>rfl
 |some u=>exact absurd (Nat.lt_of_lt_of_le (x.lt q) e) (Nat.lt_irrefl _)
theorem HOk.kept(x:HOk P w H h)(k:∀ b u,h.get? b=some u->h'.get? b=some u):HOk P w H h':=fun a o e=>
 (x a o e).stay (fun b u _ q=>k b u q) (fun _ q=>q) fun _ _ q=>q
theorem HOk.laid(x:HOk P w H h)(k:∀ b u,h.get? b=some u->h'.get? b=some u)(hp:h.objs.size<=a)(new:yb8 P w (upd H a o) h' a o):HOk P w (upd H a o) h':=fun b u e=>by
 have hn:=x.fresh hp;by_cases hb:b=a
 ·subst hb;rw[zne]at e;cases e;exact new
 ·rw[yby hb]at e;exact(x b u e).stay (fun c v _ q=>k c v q) (fun c q=>by rw[yby (zev q hn)];exact q) fun c xs q=>by rw[yby (zev q hn)];exact q
end
def Rd(H:Hp)(a:Addr)(u:HO):Prop:=H a=some u\/∃ o,H a=some (.frz o u)
theorem Rd.of{H:Hp}{a:Addr}{u:HO}(h:H a=some u):Rd H a u:=.inl h
theorem Rd.ok{P:Program}{w:World}{H:Hp}{h:Heap}{a:Addr}{u:HO}(r:Rd H a u)(x:HOk P w H h):yb8 P w H h a u:=by
 rcases r with r|⟨o,r⟩
 ·exact x a u r
 ·obtain⟨_,q⟩:=x a _ r;exact q
def Mut:Option HO->Prop
 |some (.lst _)=>True
 |some (.dK _)=>True
 |some (.dT _)=>True
 |some (.set _ _)=>True
 |some (.ins _ _ _)=>True
 |some (.ext _)=>True
 |_=>False
section
variable{P:Program}{w:World}{H:Hp}{h h':Heap}{x e:Addr}{o':HO}
theorem HOk.write(ok:HOk P w H h)(mu:Mut (H x))(he:e=x\/H e=some (.own x))(k:∀ b u,b≠e->h.get? b=some u->h'.get? b=some u)(heo:∃ u,h'.get? e=some u)
  (new:yb8 P w (upd H x o') h' x o'):HOk P w (upd H x o') h':=fun b u q=>by
 have nown:∀ c y,H c=some (.own y)->c≠x:=fun c y r z=>by subst z;rw[r]at mu;exact mu
 have ntup:∀ c xs,H c=some (.tup xs)->c≠x:=fun c xs r z=>by subst z;rw[r]at mu;exact mu
 by_cases hb:b=x
 ·subst hb;rw[zne]at q;cases q;exact new
 ·rw[yby hb]at q;by_cases hbe:b=e
  ·have q':H b=some (.own x):=by
    rcases he with z|z
    ·exact absurd (hbe.trans z) hb
    ·rw[hbe];exact z
   rw[q]at q';cases q';obtain⟨v,hv⟩:=heo;exact⟨v,by rw[hbe];exact hv⟩
  ·refine(ok b u q).stay (fun c v hc r=>k c v ?_ r) (fun c r=>by rw[yby (nown c b r)];exact r) fun c xs r=>by rw[yby (ntup c xs r)];exact r
   rcases hc with rfl|hc
   ·exact hbe
   ·rintro rfl;rcases he with z|z
    ·exact nown c b hc z
    ·rw[hc]at z;cases z;exact hb rfl
end
structure Un(fs ex:List Addr)(H H':Hp)(h h':Heap):Prop where
 keep:∀ b o,h.get? b=some o->H b=none->b ∉ fs->b ∉ ex->h'.get? b=some o
 slot:∀ b o,h.get? b=some o->H b=none->b∈fs->b ∉ ex->∃ sl,h'.get? b=some { o with slots:=sl }
 free:∀ b o,h.get? b=some o->H b=none->b ∉ ex->H' b=none
 there:∀ b o,h.get? b=some o->b ∉ ex->∃ o',h'.get? b=some o'
 tups:∀ b xs,H b=some (.tup xs)->H' b=some (.tup xs)
 frzs:∀ b o u,H b=some (.frz o u)->H' b=some (.frz o u)
 tbls:∀ b ps,H b=some (.tbl ps)->∃ more,H' b=some (.tbl (ps++more))
section
variable{fs fs' ex ex':List Addr}{H H1 H2:Hp}{h h1 h2 h':Heap}{a x e:Addr}{o:HO}
theorem Un.any(u:Un fs ex H H1 h h1){b:Addr}{ob:Obj}(q:h.get? b=some ob)(n:H b=none)(hx:b ∉ ex):∃ sl,h1.get? b=some { ob with slots:=sl }:=by
 by_cases hb:b∈fs
 ·exact u.slot b ob q n hb hx
 ·exact⟨ob.slots,u.keep b ob q n hb hx⟩
theorem Un.trans(a:Un fs ex H H1 h h1)(b:Un fs ex H1 H2 h1 h2):Un fs ex H H2 h h2 where
 keep:=fun c ob q n hc hx=>b.keep c ob (a.keep c ob q n hc hx) (a.free c ob q n hx) hc hx
 slot:=fun c ob q n hc hx=>by
  obtain⟨sl,e1⟩:=a.slot c ob q n hc hx;obtain⟨sl',e2⟩:=b.slot c _ e1 (a.free c ob q n hx) hc hx;exact⟨sl',e2⟩
 free:=fun c ob q n hx=>by
  obtain⟨o',e1⟩:=a.there c ob q hx;exact b.free c o' e1 (a.free c ob q n hx) hx
 there:=fun c ob q hx=>by
  obtain⟨o',e1⟩:=a.there c ob q hx;exact b.there c o' e1 hx
 tups:=fun c xs q=>b.tups c xs (a.tups c xs q)
 frzs:=fun c ob xs q=>b.frzs c ob xs (a.frzs c ob xs q)
 tbls:=fun c ps q=>by
  obtain⟨m1,e1⟩:=a.tbls c ps q;obtain⟨m2,e2⟩:=b.tbls c _ e1;exact⟨m1++m2,by rw[e2,Array.append_assoc]⟩
theorem Un.kept(k:∀ b u,h.get? b=some u->h'.get? b=some u):Un fs ex H H h h':=
 ⟨fun b ob q _ _ _=>k b ob q,fun b ob q _ _ _=>⟨ob.slots,k b ob q⟩,fun _ _ _ n _=>n,fun b ob q _=>⟨ob,k b ob q⟩,fun _ _ q=>q,fun _ _ _ q=>q,fun _ ps q=>⟨#[],by rw[q];simp⟩⟩
theorem Un.refl:Un fs ex H H h h:=Un.kept fun _ _ q=>q
theorem Un.laid(k:∀ b u,h.get? b=some u->h'.get? b=some u)(hp:h.objs.size<=a)(hn:H a=none):Un fs ex H (upd H a o) h h' where
 keep:=fun b u q _ _ _=>k b u q
 slot:=fun b u q _ _ _=>⟨u.slots,k b u q⟩
 free:=fun b u q n _=>by rw[yby (Nat.ne_of_lt (Nat.lt_of_lt_of_le (Heap.lt_size q) hp))];exact n
 there:=fun b u q _=>⟨u,k b u q⟩
 tups:=fun b xs q=>by rw[yby (zev q hn)];exact q
 frzs:=fun b u xs q=>by rw[yby (zev q hn)];exact q
 tbls:=fun b ps q=>⟨#[],by rw[yby (zev q hn),q];simp⟩
theorem Un.write(mu:Mut (H x))(he:e=x\/H e=some (.own x))(k:∀ b u,b≠e->h.get? b=some u->h'.get? b=some u)(heo:∃ u,h'.get? e=some u):Un fs ex H (upd H x o) h h':=by
 have hx:∀ b,H b=none->b≠x:=fun b n z=>by subst z;rw[n]at mu;exact mu
 have hb:∀ b,H b=none->b≠e:=fun b n z=>by
  subst z;rcases he with r|r
  ·exact hx b n r
  ·rw[n]at r;cases r
 have hm:∀ b u,H b=some u->¬ Mut (some u)->b≠x:=fun b u q nm z=>by subst z;rw[q]at mu;exact nm mu
 refine⟨fun b u q n _ _=>k b u (hb b n) q,fun b u q n _ _=>⟨u.slots,k b u (hb b n) q⟩,fun b u q n _=>by rw[yby (hx b n)];exact n,fun b u q _=>?_,
  fun b xs q=>by rw[yby (hm b _ q fun z=>z)];exact q,fun b u xs q=>by rw[yby (hm b _ q fun z=>z)];exact q,fun b ps q=>⟨#[],by rw[yby (hm b _ q fun z=>z),q];simp⟩⟩
 by_cases hbe:b=e
 ·subst hbe;exact heo
 ·exact⟨u,k b u hbe q⟩
theorem Un.mono(u:Un fs ex H H1 h h1)(hs:∀ b∈fs,b∈fs')(hx:∀ b∈ex,b∈ex'):Un fs' ex' H H1 h h1:=
 ⟨fun b ob q n hb he=>u.keep b ob q n (fun z=>hb (hs b z)) fun z=>he (hx b z),fun _ _ q n _ he=>u.any q n fun z=>he (hx _ z),fun b ob q n he=>u.free b ob q n fun z=>he (hx b z),fun b ob q he=>u.there b ob q fun z=>he (hx b z),u.tups,u.frzs,u.tbls⟩
end
def trk(h:Heap)(H:Hp):List Addr:=(List.range h.objs.size).filter fun a=>(H a).isSome
def yiz(h:Heap)(H:Hp):Heap:=PySem.W.hideAll h (trk h H)
theorem zgg(h:Heap)(H:Hp):(yiz h H).objs.size=h.objs.size:=PySem.W.hideAll_size _ _
theorem zkf{h:Heap}{H:Hp}{b:Addr}{o:Obj}(e:h.get? b=some o)(n:H b=none):(yiz h H).get? b=some o:=
 PySem.W.hideAll_get _ e fun hm=>by
  have q:(H b).isSome=true:=(List.mem_filter.mp hm).2;rw[n]at q;simp at q
theorem zsd{h:Heap}{H:Hp}{b:Addr}{o:Obj}(e:(yiz h H).get? b=some o):h.get? b=some o/\H b=none:=by
 have e':h.get? b=some o:=PySem.W.of_hideAll (trk h H) e;refine⟨e',?_⟩;cases q:H b with
 |none=>rfl
 |some x=>
  have hm:b∈trk h H:=List.mem_filter.mpr ⟨List.mem_range.mpr (Heap.lt_size e'),by simp[q]⟩;have z:(yiz h H).get? b=none:=PySem.W.hideAll_none (trk h H) hm;rw[z]at e;cases e
def znz(g h:Heap)(L:Addr):List (Addr × Obj):=(List.range h.objs.size).filterMap fun a=>if a=L\/(g.get? a).isSome=true then none else (h.get? a).map fun o=>(a,o)
def rest(g h:Heap)(L d:Addr):List (Addr × Obj):=(znz g h L).filter fun p=>decide (p.1≠d)
end L2
namespace L2
open PySem PySem.Spec PyProof.Rows
structure Mod(K:PySem.W.Frag)(mg:Str->Option Value)(base:Heap):Prop where
 kin:K.In base
 glob:base.Ns mainGlobals mg
 blt:∃ mb,base.Ns builtinsNs mb/\∀ x:Str,x ≠ "__name__"->mb x=bootBuiltins x
 nolimit:base.NoLimit
structure Cx where
 prog:Program
 w:World
 K:PySem.W.Frag
 mg:Str->Option Value
 base:Heap
 A:Around
 N:List Str
 s₀:Shared
 H₀:Hp
 env:Env
 outer:List Env
 stack:List Env
 ex:List Addr
 fn:Str->Bool
 calm:Bool
 pn:List (Addr × Obj)
 xe:Value->Shared->Prop
def frs(l:List Env):List Addr:=l.filterMap (·.frame)
abbrev Cx.fs(X:Cx):List Addr:=frs X.outer
def Vis(sc:Scope)(x:Str):Prop:=sc.names.lookup x=some .local\/sc.names.lookup x=some .cell\/sc.names.lookup x=some .free
def Loc(sc:Scope)(x:Str):Prop:=sc.names.lookup x=some .local\/sc.names.lookup x=some .cell
def yg6(env:Env)(h:Heap)(m:Str->Option Value)(x:Str)(u:Value):Prop:=
 (env.kindOf x=some .local/\m x=some u)\/((env.kindOf x=some .cell\/env.kindOf x=some .free)/\∃ c,env.cells.lookup x=some c/\h.IsCell c (some u))
structure Cx.Ok(X:Cx):Prop where
 mod:Mod X.K X.mg X.base
 kind:X.env.scope.kind=.function
 glob:X.env.globals=mainGlobals
 blt:X.env.builtins=builtinsNs
 above:X.s₀.heap.objs.size<=X.env.locals
 inj:∀ x y c,X.env.cells.lookup x=some c->X.env.cells.lookup y=some c->x=y
 has:∀ x,(X.env.kindOf x=some .cell\/X.env.kindOf x=some .free)->∃ c,X.env.cells.lookup x=some c
 cab:∀ x c,X.fn x=true->X.env.cells.lookup x=some c->X.s₀.heap.objs.size<=c
 hd:X.calm=true->X.A.handled=none
 frames:X.A.frames=some X.stack
 stk:X.stack=X.outer\/(X.stack=X.env::X.outer/\X.env.frame=some X.env.locals)
 exf:∀ b∈X.ex,b≠X.env.locals/\∀ x c,X.env.cells.lookup x=some c->c≠b
 bs:∀ b o,X.base.get? b=some o->X.s₀.heap.get? b=some o/\X.H₀ b=none
 bsz:X.base.objs.size<=X.s₀.heap.objs.size
 noex:∀ b o,X.base.get? b=some o->b ∉ X.ex
 exfs:∀ b∈X.ex,b ∉ X.fs
 funs:X.s₀.heap.FunFrames X.base X.outer
 frf:∀ b∈X.fs,X.H₀ b=none
structure Inv(X:Cx)(pins:List (Addr × Obj))(σ:List (Option V))(H:Hp)(s:Shared):Prop where
 ok:X.Ok
 os:s.os=X.s₀.os
 bare:AllBare s.gens
 base:Un X.fs X.ex X.H₀ H X.s₀.heap s.heap
 loc:∃ m,s.heap.Ns X.env.locals m/\∀ (i:Nat) (x:Str) (v:V),X.N[i]?=some x->σ[i]?=some (some v)->Vis X.env.scope x->∃ u,yhe v u/\yg6 X.env s.heap m x u
 cell:∀ x c,X.env.cells.lookup x=some c->∃ v,s.heap.IsCell c v
 free:H X.env.locals=none
 freeC:∀ x c,X.env.cells.lookup x=some c->H c=none
 pin:∀ p∈X.pn++pins,s.heap.get? p.1=some p.2/\H p.1=none/\p.1≠X.env.locals/\p.1 ∉ X.fs/\∀ v,p.2.data≠.cell v
 hok:HOk X.prog X.w H s.heap
 len:σ.length=X.N.length
section
variable{X:Cx}{pins:List (Addr × Obj)}{σ:List (Option V)}{H H':Hp}{s:Shared}{h':Heap}
theorem Cx.Ok.nofr(ok:X.Ok){b:Addr}{o:Obj}(e:X.base.get? b=some o):b ∉ X.fs:=fun hb=>by
 have:=(ok.funs.mem hb).1;rw[e]at this;cases this
theorem Inv.bs(I:Inv X pins σ H s):∀ b o,X.base.get? b=some o->s.heap.get? b=some o/\H b=none:=fun b o e=>
 ⟨I.base.keep b o (I.ok.bs b o e).1 (I.ok.bs b o e).2 (I.ok.nofr e) (I.ok.noex b o e),I.base.free b o (I.ok.bs b o e).1 (I.ok.bs b o e).2 (I.ok.noex b o e)⟩
theorem Inv.bk(I:Inv X pins σ H s):∀ b o,X.base.get? b=some o->s.heap.get? b=some o:=fun b o e=>(I.bs b o e).1
theorem Inv.mod(I:Inv X pins σ H s):Mod X.K X.mg X.base:=I.ok.mod
theorem Inv.kIn(I:Inv X pins σ H s):X.K.In s.heap:=I.ok.mod.kin.keeps I.bk
theorem Inv.nolimit(I:Inv X pins σ H s):s.heap.NoLimit:=I.ok.mod.nolimit.keeps I.bk
theorem Inv.lt(I:Inv X pins σ H s):X.env.locals<s.heap.objs.size:=let ⟨_,hn,_⟩:=I.loc;hn.lt
theorem Inv.sz(I:Inv X pins σ H s):X.s₀.heap.objs.size<=s.heap.objs.size:=Nat.le_trans I.ok.above (Nat.le_of_lt I.lt)
theorem Inv.nofs(I:Inv X pins σ H s){a:Addr}(h:s.heap.objs.size<=a):a ∉ X.fs:=fun hb=>by
 obtain⟨_,o,ho,_⟩:=I.ok.funs.mem hb;exact absurd (Nat.lt_of_lt_of_le (Heap.lt_size ho) (Nat.le_trans I.sz h)) (Nat.lt_irrefl _)
theorem Inv.cne(I:Inv X pins σ H s):∀ x c,X.env.cells.lookup x=some c->c≠X.env.locals:=fun x c e z=>by
 obtain⟨v,o,ho,hd⟩:=I.cell x c e;obtain⟨m,⟨o',es,ep,ho',hd',_⟩,_⟩:=I.loc;rw[z,ho']at ho;cases ho;rw[hd']at hd;cases hd
theorem Inv.funs(I:Inv X pins σ H s):s.heap.FunFrames X.base X.outer:=by
 have all:∀ (l:List Env),(∀ b∈frs l,b∈X.fs)->X.s₀.heap.FunFrames X.base l->s.heap.FunFrames X.base l:=by
  intro l;induction l with
  |nil=>intro _ _;trivial
  |cons env r ih=>
   intro hs hl;obtain⟨hk,⟨L,o,hf,hn,ho,hd⟩,hr⟩:=hl;have hL:L∈X.fs:=hs L (by unfold frs;rw[List.filterMap_cons,hf];exact List.mem_cons_self);obtain⟨sl,e⟩:=I.base.slot L o ho (I.ok.frf L hL) hL fun z=>I.ok.exfs L z hL;exact⟨hk,⟨L,_,hf,hn,e,hd⟩,ih (fun b hb=>hs b (by unfold frs;rw[List.filterMap_cons,hf];exact List.mem_cons_of_mem _ hb)) hr⟩
 exact all X.outer (fun _ hb=>hb) I.ok.funs
theorem Inv.stack(I:Inv X pins σ H s):s.heap.FunFrames X.base X.stack:=by
 rcases I.ok.stk with e|⟨e,hf⟩
 ·rw[e];exact I.funs
 ·rw[e];obtain⟨m,hn,_⟩:=I.loc;refine .cons (by rw[I.ok.kind];decide) hf hn ?_ I.funs;exact Heap.get?_none_of_le (Nat.le_trans I.ok.bsz I.ok.above)
theorem Inv.stkSub(I:Inv X pins σ H s):∀ b∈frs X.stack,b∈X.env.locals::X.fs:=fun b hb=>by
 rcases I.ok.stk with e|⟨e,hf⟩
 ·rw[e]at hb;exact List.mem_cons_of_mem _ hb
 ·rw[e]at hb;unfold frs at hb;rw[List.filterMap_cons,hf]at hb;exact hb
theorem Inv.stkFree(I:Inv X pins σ H s):∀ b∈frs X.stack,H b=none:=fun b hb=>by
 rcases List.mem_cons.mp (I.stkSub b hb)with e|hb
 ·rw[e];exact I.free
 ·obtain⟨_,o,ho,_⟩:=I.ok.funs.mem hb;exact I.base.free b o ho (I.ok.frf b hb) fun z=>I.ok.exfs b z hb
theorem Inv.step{g':Array GenState}{t':Nat}{d':Drawn}{ch:List Addr}(I:Inv X pins σ H s)
  (hch:∀ b∈ch,(b∈X.ex\/X.s₀.heap.objs.size<=b)/\b≠X.env.locals/\(∀ x c,X.env.cells.lookup x=some c->c≠b)/\∀ p∈X.pn++pins,p.1≠b)
  (keep:∀ b o,b≠X.env.locals->b ∉ X.fs->b ∉ ch->s.heap.get? b=some o->H b=none->h'.get? b=some o)
  (slot:∀ b o,b≠X.env.locals->b∈X.fs->b ∉ ch->s.heap.get? b=some o->H b=none->∃ sl,h'.get? b=some { o with slots:=sl }) (free:∀ b o,b ∉ ch->s.heap.get? b=some o->H b=none->H' b=none)
  (there:∀ b o,b ∉ ch->s.heap.get? b=some o->∃ o',h'.get? b=some o')
  (tups:∀ b xs,H b=some (.tup xs)->H' b=some (.tup xs)) (frzs:∀ b o u,H b=some (.frz o u)->H' b=some (.frz o u)) (tbls:∀ b ps,H b=some (.tbl ps)->∃ more,H' b=some (.tbl (ps++more)))
  (ns:∀ m,s.heap.Ns X.env.locals m->h'.Ns X.env.locals m) (hok:HOk X.prog X.w H' h') (hg:AllBare g') :
  Inv X pins σ H' { s with heap:=h',gens:=g',drawn:=d',toks:=t' }:=by
 have neL:∀ b o,X.s₀.heap.get? b=some o->b≠X.env.locals:=fun b o e=>Nat.ne_of_lt (Nat.lt_of_lt_of_le (Heap.lt_size e) I.ok.above);have neC:∀ b o,X.s₀.heap.get? b=some o->b ∉ X.ex->b ∉ ch:=fun b o e hx hb=>by
  rcases(hch b hb).1 with z|z
  ·exact hx z
  ·exact absurd (Nat.lt_of_lt_of_le (Heap.lt_size e) z) (Nat.lt_irrefl _)
 have cellK:∀ x c,X.env.cells.lookup x=some c->∀ v,s.heap.IsCell c v->h'.IsCell c v:=fun x c e v ⟨o,ho,hd⟩=>by
  have nch:c ∉ ch:=fun z=>(hch c z).2.2.1 x c e rfl;by_cases hc:c∈X.fs
  ·obtain⟨sl,q⟩:=slot c o (I.cne x c e) hc nch ho (I.freeC x c e);exact⟨_,q,hd⟩
  ·exact⟨o,keep c o (I.cne x c e) hc nch ho (I.freeC x c e),hd⟩
 refine⟨I.ok,I.os,hg,⟨fun b o e n hb hx=>?_,fun b o e n hb hx=>?_,fun b o e n hx=>?_,fun b o e hx=>?_,fun b xs e=>tups b xs (I.base.tups b xs e),fun b o xs e=>frzs b o xs (I.base.frzs b o xs e),fun b ps e=>?_⟩,?_,fun x c e=>?_,?_,fun x c e=>?_,fun p hp=>?_,hok,I.len⟩
 ·exact keep b o (neL b o e) hb (neC b o e hx) (I.base.keep b o e n hb hx) (I.base.free b o e n hx)
 ·obtain⟨sl,e1⟩:=I.base.slot b o e n hb hx;obtain⟨sl',e2⟩:=slot b _ (neL b o e) hb (neC b o e hx) e1 (I.base.free b o e n hx);exact⟨sl',e2⟩
 ·obtain⟨o',e1⟩:=I.base.there b o e hx;exact free b o' (neC b o e hx) e1 (I.base.free b o e n hx)
 ·obtain⟨o',e1⟩:=I.base.there b o e hx;exact there b o' (neC b o e hx) e1
 ·obtain⟨m1,e1⟩:=I.base.tbls b ps e;obtain⟨m2,e2⟩:=tbls b _ e1;exact⟨m1++m2,by rw[e2,Array.append_assoc]⟩
 ·obtain⟨m,hn,hl⟩:=I.loc;refine⟨m,ns m hn,fun i x v e1 e2 e3=>?_⟩;obtain⟨u,r,l⟩:=hl i x v e1 e2 e3;refine⟨u,r,?_⟩;rcases l with l|⟨k,c,e,z⟩
  ·exact .inl l
  ·exact .inr ⟨k,c,e,cellK x c e _ z⟩
 ·obtain⟨v,z⟩:=I.cell x c e;exact⟨v,cellK x c e v z⟩
 ·obtain⟨m,⟨o,_,_,ho,_⟩,_⟩:=I.loc;exact free _ o (fun z=>(hch _ z).2.1 rfl) ho I.free
 ·obtain⟨v,o,ho,hd⟩:=I.cell x c e;exact free c o (fun z=>(hch c z).2.2.1 x c e rfl) ho (I.freeC x c e)
 ·obtain⟨e,n,ne,nf,d⟩:=I.pin p hp;have nch:p.1 ∉ ch:=fun z=>(hch p.1 z).2.2.2 p hp rfl;exact⟨keep p.1 p.2 ne nf nch e n,free p.1 p.2 nch e n,ne,nf,d⟩
theorem Inv.un{t':Nat}(I:Inv X pins σ H s)(u:Un X.fs [] H H' s.heap h')(hok:HOk X.prog X.w H' h'):Inv X pins σ H' { s with heap:=h',toks:=t' }:=by
 obtain⟨m,⟨o,es,ep,ho,r⟩,_⟩:=id I.loc;obtain⟨sl,hL⟩:=u.any ho I.free (by simp);exact I.step (g':=s.gens) (d':=s.drawn) (ch:=[]) (fun _ z=>nomatch z) (fun b o _ hb _ e n=>u.keep b o e n hb (by simp)) (fun b o _ hb _ e n=>u.slot b o e n hb (by simp)) (fun b o _ e n=>u.free b o e n (by simp)) (fun b o _ e=>u.there b o e (by simp)) u.tups u.frzs u.tbls (fun m' hm=>by
  obtain⟨o',es',ep',ho',r'⟩:=hm;rw[ho]at ho';cases ho';exact⟨_,es',ep',hL,r'⟩) hok I.bare
theorem Inv.call{g':Array GenState}{t':Nat}{d':Drawn}{ch:List Addr}(I:Inv X pins σ H s)(u:Un (frs X.stack) ch H H' s.heap h')(hok:HOk X.prog X.w H' h')(hg:AllBare g')
  (hch:∀ b∈ch,(b∈X.ex\/X.s₀.heap.objs.size<=b)/\b≠X.env.locals/\(∀ x c,X.env.cells.lookup x=some c->c≠b)/\∀ p∈X.pn++pins,p.1≠b) :
  Inv X pins σ H' { s with heap:=h',gens:=g',drawn:=d',toks:=t' }:=by
 obtain⟨m,⟨o,es,ep,ho,r⟩,_⟩:=id I.loc;obtain⟨sl,hL⟩:=u.any ho I.free fun z=>(hch _ z).2.1 rfl;exact I.step (ch:=ch) hch (fun b o hL hb hc e n=>u.keep b o e n (fun z=>(List.mem_cons.mp (I.stkSub b z)).elim hL hb) hc) (fun b o _ _ hc e n=>u.any e n hc) (fun b o hc e n=>u.free b o e n hc) (fun b o hc e=>u.there b o e hc) u.tups u.frzs u.tbls (fun m' hm=>by
  obtain⟨o',es',ep',ho',r'⟩:=hm;rw[ho]at ho';cases ho';exact⟨_,es',ep',hL,r'⟩) hok hg
theorem Inv.turned{t':Nat}{it:Addr}(I:Inv X pins σ H s)(k:∀ b o,b≠it->s.heap.get? b=some o->h'.get? b=some o)(hn:H it=none)(hL:it≠X.env.locals)
  (h1:it∈X.ex\/X.s₀.heap.objs.size<=it) (h2:∀ x c,X.env.cells.lookup x=some c->c≠it) (h3:∀ p∈X.pn++pins,p.1≠it):Inv X pins σ H { s with heap:=h',toks:=t' }:=by
 have nit:∀ b u,H b=some u->b≠it:=fun b u e z=>by rw[z,hn]at e;cases e
 refine I.step (g':=s.gens) (d':=s.drawn) (ch:=[it]) (fun b hb=>?_) (fun b o _ _ hc e _=>k b o (fun z=>hc (by simp[z])) e) (fun b o _ _ hc e _=>⟨o.slots,k b o (fun z=>hc (by simp[z])) e⟩) (fun _ _ _ _ n=>n)
  (fun b o hc e=>⟨o,k b o (fun z=>hc (by simp[z])) e⟩) (fun _ _ e=>e) (fun _ _ _ e=>e) (fun b ps e=>⟨#[],by rw[e];simp⟩) (fun m hm=>?_) (fun b u e=>?_) I.bare
 ·have e:b=it:=by simpa using hb
  subst e;exact⟨h1,hL,h2,h3⟩
 ·obtain⟨o,es,ep,ho,r⟩:=hm;exact⟨o,es,ep,k _ o (Ne.symm hL) ho,r⟩
 ·refine(I.hok b u e).stay (fun c v hc q=>k c v ?_ q) (fun _ q=>q) fun _ _ q=>q;rcases hc with z|z
  ·rw[z];exact nit b u e
  ·exact nit c _ z
theorem Inv.tok(I:Inv X pins σ H s)(t:Nat):Inv X pins σ H { s with toks:=t }:=I.un (h':=s.heap) (t':=t) Un.refl I.hok
theorem Inv.kept{t':Nat}(I:Inv X pins σ H s)(k:∀ b u,s.heap.get? b=some u->h'.get? b=some u):Inv X pins σ H { s with heap:=h',toks:=t' }:=I.un (Un.kept k) (I.hok.kept k)
theorem Inv.laid{a:Addr}{o:HO}{t':Nat}(I:Inv X pins σ H s)(k:∀ b u,s.heap.get? b=some u->h'.get? b=some u)(hp:s.heap.objs.size<=a)(new:yb8 X.prog X.w (upd H a o) h' a o) :
  Inv X pins σ (upd H a o) { s with heap:=h',toks:=t' }:=I.un (Un.laid k hp (I.hok.fresh hp)) (I.hok.laid k hp new)
theorem Inv.write{x e:Addr}{o:HO}{t':Nat}(I:Inv X pins σ H s)(mu:Mut (H x))(he:e=x\/H e=some (.own x))(k:∀ b u,b≠e->s.heap.get? b=some u->h'.get? b=some u)(heo:∃ u,h'.get? e=some u)
  (new:yb8 X.prog X.w (upd H x o) h' x o):Inv X pins σ (upd H x o) { s with heap:=h',toks:=t' }:=I.un (Un.write mu he k heo) (I.hok.write mu he k heo new)
theorem Inv.pins_of{pins':List (Addr × Obj)}(I:Inv X pins σ H s)(h:∀ p∈pins',s.heap.get? p.1=some p.2/\H p.1=none/\p.1≠X.env.locals/\p.1 ∉ X.fs/\∀ v,p.2.data≠.cell v):Inv X pins' σ H s:=
 ⟨I.ok,I.os,I.bare,I.base,I.loc,I.cell,I.free,I.freeC,fun p hp=>(List.mem_append.mp hp).elim (fun z=>I.pin p (List.mem_append_left _ z)) (h p),I.hok,I.len⟩
theorem zlf{N:List Str}(hN:N.Nodup){i j:Nat}{x:Str}(a:N[i]?=some x)(b:N[j]?=some x):i=j:=by
 obtain⟨h1,e1⟩:=List.getElem?_eq_some_iff.mp a;obtain⟨h2,e2⟩:=List.getElem?_eq_some_iff.mp b;exact(List.getElem_inj hN).mp (e1.trans e2.symm)
theorem zhy{M:Model}{A:Around}{E:Value->Shared->Prop}{i:Nat}{x:Str}{v:V}{u:Value}{Q:Unit->Shared->Prop}(I:Inv X pins σ H s)(hN:X.N.Nodup)(hi:X.N[i]?=some x)(hx:Loc X.env.scope x)(r:yhe v u)
  (h:∀ s',Inv X pins (σ.set i (some v)) H s'->(∃ a,Heap.SameBut a s.heap s'.heap/\(a=X.env.locals\/X.env.cells.lookup x=some a))->Q () s') (hf:X.fn x=true\/X.env.scope.names.lookup x=some .local:=by first|exact .inl rfl|exact .inr rfl|assumption):wpAny M A (storeName X.env x u) Q E s:=by
 obtain⟨m,hn,hl⟩:=id I.loc;have hcls:(X.env.scope.kind == .class || (X.env.scope.kind == .module && X.env.locals != X.env.globals))=false:=by rw[I.ok.kind];rfl
 have hiσ:i<σ.length:=by rw[I.len];exact(List.getElem?_eq_some_iff.mp hi).1
 have cne:=I.cne;have tracked:∀ {a:Addr} {h':Heap},(∃ o,s.heap.get? a=some o/\H a=none)->Heap.SameBut a s.heap h'->HOk X.prog X.w H h':=fun {a h'} ha hs b ob e=>by
  obtain⟨_,_,hfree⟩:=ha;refine(I.hok b ob e).stay (fun c w' hc q=>(hs.2 c ?_).trans q) (fun _ q=>q) fun _ _ q=>q;rintro rfl;rcases hc with rfl|hc
  ·rw[hfree]at e;cases e
  ·rw[hfree]at hc;cases hc
 rcases hx with hk|hk
 ·refine wpAny_storeName_local hk hn (fun h' hn' hs=>?_) hcls;obtain⟨oL,_,_,hoL,_⟩:=id hn;refine h _ ⟨I.ok,I.os,I.bare,⟨fun b o e n hb hx=>?_,fun b o e n hb hx=>?_,I.base.free,fun b o e hx=>?_,I.base.tups,I.base.frzs,I.base.tbls⟩,⟨_,hn',fun j y v' e1 e2 e3=>?_⟩,fun y c e=>?_,I.free,I.freeC,fun p hp=>?_,tracked ⟨oL,hoL,I.free⟩ hs,by simpa using I.len⟩ ⟨_,hs,.inl rfl⟩
  ·exact(hs.2 b (Nat.ne_of_lt (Nat.lt_of_lt_of_le (Heap.lt_size e) I.ok.above))).trans (I.base.keep b o e n hb hx)
  ·obtain⟨sl,e1⟩:=I.base.slot b o e n hb hx;exact⟨sl,(hs.2 b (Nat.ne_of_lt (Nat.lt_of_lt_of_le (Heap.lt_size e) I.ok.above))).trans e1⟩
  ·obtain⟨o',e1⟩:=I.base.there b o e hx;exact⟨o',(hs.2 b (Nat.ne_of_lt (Nat.lt_of_lt_of_le (Heap.lt_size e) I.ok.above))).trans e1⟩
  ·by_cases hj:j=i
   ·subst hj;rw[hi]at e1;cases e1;rw[List.getElem?_set_self hiσ]at e2;cases e2;exact⟨u,r,.inl ⟨hk,by simp⟩⟩
   ·rw[List.getElem?_set_ne (Ne.symm hj)]at e2;obtain⟨u',r',q⟩:=hl j y v' e1 e2 e3;refine⟨u',r',?_⟩;rcases q with⟨k,e⟩|⟨k,c,e,z⟩
    ·refine .inl ⟨k,?_⟩;have:y≠x:=fun e=>hj (zlf hN e1 (e ▸ hi));simp[this,e]
    ·exact .inr ⟨k,c,e,z.sameBut hs (cne y c e)⟩
  ·obtain⟨w',z⟩:=I.cell y c e;exact⟨w',z.sameBut hs (cne y c e)⟩
  ·obtain⟨e,n,ne,nf,d⟩:=I.pin p hp;exact⟨(hs.2 p.1 ne).trans e,n,ne,nf,d⟩
 ·have hfn:X.fn x=true:=by
   rcases hf with z|z
   ·exact z
   ·rw[z]at hk;cases hk
  obtain⟨c,hc⟩:=I.ok.has x (.inl hk);obtain⟨w',z⟩:=I.cell x c hc;refine wpAny_storeName_cell I.ok.kind hk hc z (fun h' hc' hs=>?_);obtain⟨oc,hoc,hocd⟩:=id z;refine h { s with heap:=h' } ⟨I.ok,I.os,I.bare,⟨fun b o e n hb hx=>?_,fun b o e n hb hx=>?_,I.base.free,fun b o e hx=>?_,I.base.tups,I.base.frzs,I.base.tbls⟩,⟨m,hn.sameBut hs (Ne.symm (cne x c hc)),fun j y v' e1 e2 e3=>?_⟩,fun y c' e=>?_,I.free,I.freeC,fun p hp=>?_,tracked ⟨oc,hoc,I.freeC x c hc⟩ hs,by simpa using I.len⟩ ⟨c,hs,.inr hc⟩
  ·exact(hs.2 b (Nat.ne_of_lt (Nat.lt_of_lt_of_le (Heap.lt_size e) (I.ok.cab x c hfn hc)))).trans (I.base.keep b o e n hb hx)
  ·obtain⟨sl,e1⟩:=I.base.slot b o e n hb hx;exact⟨sl,(hs.2 b (Nat.ne_of_lt (Nat.lt_of_lt_of_le (Heap.lt_size e) (I.ok.cab x c hfn hc)))).trans e1⟩
  ·obtain⟨o',e1⟩:=I.base.there b o e hx;exact⟨o',(hs.2 b (Nat.ne_of_lt (Nat.lt_of_lt_of_le (Heap.lt_size e) (I.ok.cab x c hfn hc)))).trans e1⟩
  ·by_cases hj:j=i
   ·subst hj;rw[hi]at e1;cases e1;rw[List.getElem?_set_self hiσ]at e2;cases e2;exact⟨u,r,.inr ⟨.inl hk,c,hc,hc'⟩⟩
   ·rw[List.getElem?_set_ne (Ne.symm hj)]at e2;obtain⟨u',r',q⟩:=hl j y v' e1 e2 e3;refine⟨u',r',?_⟩;rcases q with q|⟨k,c',e,z'⟩
    ·exact .inl q
    ·refine .inr ⟨k,c',e,z'.sameBut hs ?_⟩;rintro rfl;exact hj (zlf hN e1 (I.ok.inj _ _ _ e hc ▸ hi))
  ·by_cases hcc:c'=c
   ·subst hcc;exact⟨_,hc'⟩
   ·obtain⟨w2,z2⟩:=I.cell y c' e;exact⟨w2,z2.sameBut hs hcc⟩
  ·obtain⟨e,n,ne,nf,d⟩:=I.pin p hp;refine⟨(hs.2 p.1 ?_).trans e,n,ne,nf,d⟩;intro q;rw[q,hoc]at e;have q':oc=p.2:=Option.some.inj e;exact d w' (by rw[<-q'];exact hocd)
theorem zm7{M:Model}{A:Around}{E:Value->Shared->Prop}{i:Nat}{x:Str}{v:V}{u:Value}{Q:Unit->Shared->Prop}(I:Inv X pins σ H s)(hN:X.N.Nodup)(hi:X.N[i]?=some x)(hx:Loc X.env.scope x)(r:yhe v u)
  (h:∀ s',Inv X pins (σ.set i (some v)) H s'->Q () s') (hf:X.fn x=true\/X.env.scope.names.lookup x=some .local:=by first|exact .inl rfl|exact .inr rfl|assumption):wpAny M A (storeName X.env x u) Q E s:=
 zhy I hN hi hx r (fun s' I' _=>h s' I') hf
theorem Inv.call'{s':Shared}{ch:List Addr}(I:Inv X pins σ H s)(ho:s'.os=s.os)(u:Un (frs X.stack) ch H H' s.heap s'.heap)(hok:HOk X.prog X.w H' s'.heap)(hg:AllBare s'.gens)
  (hch:∀ b∈ch,(b∈X.ex\/X.s₀.heap.objs.size<=b)/\b≠X.env.locals/\(∀ x c,X.env.cells.lookup x=some c->c≠b)/\∀ p∈X.pn++pins,p.1≠b):Inv X pins σ H' s':=by
 obtain⟨h',g',d',t',o'⟩:=s';have e:o'=s.os:=ho;subst e;exact I.call (g':=g') (t':=t') (d':=d') u hok hg hch
end
abbrev XK:=Value->Option Addr->Hp->Prop
abbrev St:=List (Option V)
abbrev VK:=V->Hp->Prop
abbrev TE:=St->Hp->VK->Prop
abbrev TT:=St->Hp->(Bool->Hp->Prop)->Prop
abbrev TA:=St->Hp->(List V->Hp->Prop)->Prop
structure Ends where
 nx:St->Hp->Prop
 rt:VK
 bk:St->Hp->Prop:=fun _ _=>False
 ct:St->Hp->Prop:=fun _ _=>False
abbrev TS:=Ends->St->Hp->Prop
def EP(X:Cx)(pins:List (Addr × Obj))(σ:St)(Q:VK)(u:Value)(s':Shared):Prop:=∃ v H',Inv X pins σ H' s'/\yhe v u/\Q v H'
def TP(X:Cx)(pins:List (Addr × Obj))(σ:St)(Q:Bool->Hp->Prop)(b:Bool)(s':Shared):Prop:=∃ H',Inv X pins σ H' s'/\Q b H'
def AP(X:Cx)(pins:List (Addr × Obj))(σ:St)(Q:List V->Hp->Prop)(us:List Value)(s':Shared):Prop:=∃ vs H',Inv X pins σ H' s'/\yho vs us/\Q vs H'
def SP(X:Cx)(pins:List (Addr × Obj))(D:Ends)(f:Flow)(s':Shared):Prop:=
 match f with
 | .next=>∃ σ' H',Inv X pins σ' H' s'/\D.nx σ' H'
 | .brk=>∃ σ' H',Inv X pins σ' H' s'/\D.bk σ' H'
 | .cont=>∃ σ' H',Inv X pins σ' H' s'/\D.ct σ' H'
 | .ret u=>∃ v σ' H',Inv X pins σ' H' s'/\yhe v u/\D.rt v H'
def PE(X:Cx)(e:Expr)(t:TE):Prop:=
 ∀ (pins:List (Addr × Obj)) (s:Shared) (σ:St) (H:Hp) (Q:VK),Inv X pins σ H s->t σ H Q->wpAny (model X.prog X.w) X.A (eval e X.env) (EP X pins σ Q) X.xe s
def PT(X:Cx)(e:Expr)(t:TT):Prop:=
 ∀ (pins:List (Addr × Obj)) (s:Shared) (σ:St) (H:Hp) (Q:Bool->Hp->Prop),Inv X pins σ H s->t σ H Q->wpAny (model X.prog X.w) X.A (isTrue e X.env (eval e X.env)) (TP X pins σ Q) X.xe s
def PW(X:Cx)(e:Expr)(t:TT):Prop:=
 ∀ (whole:Sem Value) (pins:List (Addr × Obj)) (s:Shared) (σ:St) (H:Hp) (Q:Bool->Hp->Prop),Inv X pins σ H s->t σ H Q->wpAny (model X.prog X.w) X.A (isTrue e X.env whole) (TP X pins σ Q) X.xe s
theorem PW.pt{X:Cx}{e:Expr}{t:TT}(h:PW X e t):PT X e t:=h _
def PA(X:Cx)(es:List Expr)(t:TA):Prop:=
 ∀ (pos:Pos) (pins:List (Addr × Obj)) (s:Shared) (σ:St) (H:Hp) (Q:List V->Hp->Prop),Inv X pins σ H s->t σ H Q->wpAny (model X.prog X.w) X.A (spliced (backTo pos (starEach es X.env))) (AP X pins σ Q) X.xe s
def PS(X:Cx)(st:Stmt)(t:TS):Prop:=
 ∀ (pins:List (Addr × Obj)) (s:Shared) (σ:St) (H:Hp) (D:Ends),Inv X pins σ H s->t D σ H->wpAny (model X.prog X.w) X.A (exec st X.env) (SP X pins D) X.xe s
def PSs(X:Cx)(st:List Stmt)(t:TS):Prop:=
 ∀ (pins:List (Addr × Obj)) (s:Shared) (σ:St) (H:Hp) (D:Ends),Inv X pins σ H s->t D σ H->wpAny (model X.prog X.w) X.A (execs st X.env) (SP X pins D) X.xe s
theorem thn{α:Type}{t:Sem α}{Q Q':α->Shared->Prop}{M:Model}{A:Around}{E:Value->Shared->Prop}{s:Shared}(h:wpAny M A t Q E s)(hQ:∀ a s,Q a s->Q' a s):wpAny M A t Q' E s:=wpAny_mono h hQ fun _ _ x=>x
end L2
namespace L2
open PySem PySem.Spec PyProof.Rows
section
variable{X:Cx}
theorem bin{a b:Expr}{ta tb:TE}(ha:PE X a ta)(hb:PE X b tb){pins:List (Addr × Obj)}{s:Shared}{σ:St}{H:Hp}{R:V->V->Hp->Prop}(I:Inv X pins σ H s)(h:ta σ H fun x H1=>tb σ H1 fun y H2=>R x y H2)
  {α:Type} {Q:α->Shared->Prop} {f:Value->Value->Sem α}
  (hf:∀ v u s2 x y H2,Inv X pins σ H2 s2->yhe x v->yhe y u->R x y H2->wpAny (model X.prog X.w) X.A (f v u) Q X.xe s2) :
  wpAny (model X.prog X.w) X.A (eval a X.env) (fun v s₁=>wpAny (model X.prog X.w) X.A (eval b X.env) (fun u s₂=>wpAny (model X.prog X.w) X.A (f v u) Q X.xe s₂) X.xe s₁) X.xe s:=by
 refine thn (ha pins s σ H _ I h) fun v s1 ⟨x,H1,I1,r1,q1⟩=>?_;refine thn (hb pins s1 σ H1 _ I1 q1) fun u s2 ⟨y,H2,I2,r2,q2⟩=>?_;exact hf v u s2 x y H2 I2 r1 r2 q2
def ylg(i:Nat):TE:=fun σ H Q=>∃ v,σ[i]?=some (some v)/\Q v H
def tC(v:V):TE:=fun _ H Q=>Q v H
theorem zz4{i:Nat}{x:Str}{pos:Pos}(hN:X.N[i]?=some x)(hv:Vis X.env.scope x)(hd:(x == ("__debug__" : Str))=false:=by decide)(hcd:(x == ("__classdict__" : Str))=false:=by decide):PE X (.Name x pos) (ylg i):=by
 intro pins s σ H Q I h;obtain⟨v,e,h⟩:=h;obtain⟨m,hn,hl⟩:=I.loc;obtain⟨u,r,l⟩:=hl i x v hN e hv;have fin:EP X pins σ Q u s:=⟨v,H,I,r,h⟩
 rcases l with⟨hk,hm⟩|⟨hk,c,hc,hcell⟩
 ·exact wpAny_Name (wpAny_loadName_local I.ok.kind hk hn hm fin) hd
 ·rcases hk with hk|hk
  ·exact wpAny_Name (wpAny_loadName_cell I.ok.kind hk hc hcell fin) hd
  ·exact wpAny_Name (wpAny_loadName_free I.ok.kind hk hc hcell fin hcd) hd
theorem zzy{i j pos}:PE X (.Constant (.int i) j pos) (tC (.int i)):=fun _ _ _ H _ I h=>wpAny_Constant_int ⟨.int i,H,I.tok _,⟨_,rfl⟩,h⟩
theorem zz0{j pos}:PE X (.Constant .none j pos) (tC .non):=fun _ _ _ H _ I h=>Constant_none ⟨.non,H,I,rfl,h⟩
theorem zz2{x j pos}:PE X (.Constant (.str x) j pos) (tC (.str x)):=fun _ _ _ H _ I h=>Calls.Constant_str ⟨.str x,H,I.tok _,⟨_,rfl⟩,h⟩
def Gl(X:Cx)(x:Str):Prop:=X.env.kindOf x=some .globalImplicit
theorem zrc{E:Value->Shared->Prop}{pins:List (Addr × Obj)}{s:Shared}{σ:St}{H:Hp}{x:Str}{u:Value}{pos:Pos}{Q:Value->Shared->Prop}(I:Inv X pins σ H s)(hg:Gl X x)(hm:X.mg x=some u)(h:Q u s)
  (hd:(x == ("__debug__" : Str))=false:=by decide):wpAny (model X.prog X.w) X.A (eval (.Name x pos) X.env) Q E s:=
 Calls.Name_function_global I.ok.kind hg (Calls.loadGlobal_global (by rw[I.ok.glob];exact I.mod.glob.keeps I.bk) hm h) hd
theorem zyt{E:Value->Shared->Prop}{pins:List (Addr × Obj)}{s:Shared}{σ:St}{H:Hp}{x:Str}{u:Value}{pos:Pos}{Q:Value->Shared->Prop}(I:Inv X pins σ H s)(hg:Gl X x)(hm:X.mg x=none)(hv:bootBuiltins x=some u)(h:Q u s)
  (hn:x ≠ "__name__":=by decide) (hd:(x == ("__debug__" : Str))=false:=by decide):wpAny (model X.prog X.w) X.A (eval (.Name x pos) X.env) Q E s:=by
 obtain⟨mb,h1,h2⟩:=I.mod.blt;exact Calls.Name_function_global I.ok.kind hg (Calls.loadGlobal_builtin (by rw[I.ok.glob];exact I.mod.glob.keeps I.bk) hm (by rw[I.ok.blt];exact h1.keeps I.bk) ((h2 x hn).trans hv) h) hd
theorem zsn{x:Str}{v:V}{u:Value}{pos:Pos}(hg:Gl X x)(hm:X.mg x=some u)(r:yhe v u)(hd:(x == ("__debug__" : Str))=false:=by decide):PE X (.Name x pos) (tC v):=
 fun _ _ _ H _ I h=>zrc I hg hm ⟨v,H,I,r,h⟩ hd
variable{a b:Expr}{ta tb:TE}{pos:Pos}
def PC(X:Cx)(op:CmpOp)(a b:Expr)(t:TE):Prop:=
 ∀ (pins:List (Addr × Obj)) (s:Shared) (σ:St) (H:Hp) (Q:VK),Inv X pins σ H s->t σ H Q->
  wpAny (model X.prog X.w) X.A (eval a X.env) (fun v s₁=>wpAny (model X.prog X.w) X.A (eval b X.env) (fun u s₂=>wpAny (model X.prog X.w) X.A (compareOp op v u) (EP X pins σ Q) X.xe s₂) X.xe s₁) X.xe s
theorem zld(b:Expr){op:CmpOp}(h:op≠.In)(h2:op≠.NotIn):behindInMarks op b=false:=by
 have e1:(op == CmpOp.In)=false:=by cases op<;>first|rfl|exact absurd rfl h
 have e2:(op == CmpOp.NotIn)=false:=by cases op<;>first|rfl|exact absurd rfl h2
 cases b<;>simp[behindInMarks,e1,e2]
def tB(t:TE):TT:=fun σ H Q=>t σ H fun x H1=>∃ c,x=.bl c/\Q c H1
theorem yaj{op:CmpOp}{t:TE}(h:PC X op a b t)(h1:behindInMarks op b=false:=by first|exact zld _ (by decide) (by decide)|rfl):PT X (.Compare a [op] [b] pos) (tB t):=by
 intro pins s σ H Q I hw;refine wpAny_isTrue_Compare1 (thn (h pins s σ H _ I hw) fun v s1 h1=>thn h1 fun u s2 h2=>thn h2 fun c s3 ⟨x,H1,I1,r1,q1⟩=>?_) h1;obtain⟨d,rfl,q⟩:=q1;cases r1;exact wpAny_truthy_bool ⟨H1,I1,q⟩
theorem yak{e:Expr}{t:TE}(h:PE X e t)(he:∀ whole,isTrue e X.env whole=(do let v <-whole;standAt e.pos;holding [v] (truthy v)):=by intro _;rfl):PT X e (tB t):=by
 intro pins s σ H Q I hw;refine isTrue_plain (thn (h pins s σ H _ I hw) fun v s1 ⟨x,H1,I1,r1,q1⟩=>?_) (he _);obtain⟨d,rfl,q⟩:=q1;cases r1;exact wpAny_truthy_bool ⟨H1,I1,q⟩
variable{tA tB':TT}{rest:List Expr}
def yk2(t u:TT):TT:=fun σ H Q=>t σ H fun c H1=>if c=true then u σ H1 Q else Q false H1
def tOr(t u:TT):TT:=fun σ H Q=>t σ H fun c H1=>if c=true then Q true H1 else u σ H1 Q
theorem zs0(ha:PT X a tA):PW X (.BoolOp .And [a] pos) tA:=by
 intro wh pins s σ H Q I h;refine isTrue_and (thn (ha pins s σ H Q I h) fun c s1 e=>?_);cases c with
 |true=>exact isTrue_and_nil e
 |false=>exact e
theorem yam(ha:PT X a tA):PW X (.BoolOp .Or [a] pos) tA:=by
 intro wh pins s σ H Q I h;refine isTrue_or (thn (ha pins s σ H Q I h) fun c s1 e=>?_);cases c with
 |false=>exact isTrue_or_nil e
 |true=>exact e
theorem yal(ha:PT X a tA)(hb:PW X (.BoolOp .And (b::rest) pos) tB'):PW X (.BoolOp .And (a::b::rest) pos) (yk2 tA tB'):=by
 intro wh pins s σ H Q I h;refine isTrue_and (thn (ha pins s σ H _ I h) fun c s1 ⟨H1,I1,q1⟩=>?_);cases c with
 |true=>exact hb wh pins s1 σ H1 Q I1 q1
 |false=>exact⟨H1,I1,q1⟩
theorem yfp(ha:PT X a tA)(hb:PW X (.BoolOp .Or (b::rest) pos) tB'):PW X (.BoolOp .Or (a::b::rest) pos) (tOr tA tB'):=by
 intro wh pins s σ H Q I h;refine isTrue_or (thn (ha pins s σ H _ I h) fun c s1 ⟨H1,I1,q1⟩=>?_);cases c with
 |true=>exact⟨H1,I1,q1⟩
 |false=>exact hb wh pins s1 σ H1 Q I1 q1
def yf9(ta tb:TE):TE:=fun σ H Q=>ta σ H fun x H1=>∃ c,x=.bl c/\if c=true then tb σ H1 Q else Q (.bl false) H1
def ylb(ta tb:TE):TE:=fun σ H Q=>ta σ H fun x H1=>∃ c,x=.bl c/\if c=true then Q (.bl true) H1 else tb σ H1 Q
theorem zz1{op}{t:TE}(h:PE X a t):PE X (.BoolOp op [a] pos) t:=fun pins s σ H Q I hw=>BoolOp_one (h pins s σ H Q I hw)
theorem zzv(ha:PE X a ta)(hb:PE X (.BoolOp .And (b::rest) pos) tb):PE X (.BoolOp .And (a::b::rest) pos) (yf9 ta tb):=by
 intro pins s σ H Q I h;refine BoolOp_and (thn (ha pins s σ H _ I h) fun v s1 ⟨x,H1,I1,r1,q1⟩=>?_);obtain⟨c,rfl,q1⟩:=q1;cases r1;refine wpAny_truthy_bool ?_;cases c with
 |true=>exact hb pins s1 σ H1 Q I1 q1
 |false=>exact⟨.bl false,H1,I1,rfl,q1⟩
theorem yfk(ha:PE X a ta)(hb:PE X (.BoolOp .Or (b::rest) pos) tb):PE X (.BoolOp .Or (a::b::rest) pos) (ylb ta tb):=by
 intro pins s σ H Q I h;refine BoolOp_or (thn (ha pins s σ H _ I h) fun v s1 ⟨x,H1,I1,r1,q1⟩=>?_);obtain⟨c,rfl,q1⟩:=q1;cases r1;refine wpAny_truthy_bool ?_;cases c with
 |false=>exact hb pins s1 σ H1 Q I1 q1
 |true=>exact⟨.bl true,H1,I1,rfl,q1⟩
end
end L2
namespace L2
open PySem PySem.Spec PyProof.Rows
def SqL(K:PySem.W.Frag)(H:Hp)(a:Addr)(xs:List V):Prop:=
 Rd H a (.lst xs)\/
  ∃ (o:Obj) (its:Array Value) (n:Nat),K.lookup a=some o/\o.cls=.type "list"/\o.dict=none/\o.data=.seq its n/\its.size<=sizeLine/\yho xs its.toList
def SqT(K:PySem.W.Frag)(H:Hp)(a:Addr)(xs:List V):Prop:=
 Rd H a (.tup xs)\/
  ∃ (o:Obj) (its:Array Value) (n:Nat),K.lookup a=some o/\o.cls=.type "tuple"/\o.data=.seq its n/\its.size<=sizeLine/\yho xs its.toList
def yhs:Value->Option V
 | .none=>some .non
 | .bool b=>some (.bl b)
 | .int i _=>some (.int i)
 | .str x _=>some (.str x)
 | .bytes b _=>some (.byt b)
 | .float b _=>some (.flt b)
 | .ref a=>some (.ref a)
 | .type n=>some (.ty n)
 |_=>none
theorem yhe.abs{x:V}{u:Value}(r:yhe x u):yhs u=some x:=by
 cases x with
 |non=>cases r;rfl
 |bl _=>cases r;rfl
 |int _=>obtain⟨t,rfl⟩:=r;rfl
 |str _=>obtain⟨t,rfl⟩:=r;rfl
 |byt _=>obtain⟨t,rfl⟩:=r;rfl
 |flt _=>obtain⟨t,rfl⟩:=r;rfl
 |ref _=>cases r;rfl
 |ty _=>cases r;rfl
theorem yhe.inj{x y:V}{u:Value}(r:yhe x u)(q:yhe y u):x=y:=Option.some.inj (r.abs.symm.trans q.abs)
theorem yho.inj:∀ {xs ys:List V} {us:List Value},yho xs us->yho ys us->xs=ys
 |_,_,_,.nil,.nil=>rfl
 |_,_,_,.cons r t,.cons r' t'=>by rw[r.inj r',yho.inj t t']
section
variable{X:Cx}{pins:List (Addr × Obj)}{σ:St}{H:Hp}{s:Shared}{a:Addr}{xs ys:List V}
theorem SqL.of{K:PySem.W.Frag}(h:H a=some (.lst xs)):SqL K H a xs:=.inl (.inl h)
theorem SqT.of{K:PySem.W.Frag}(h:H a=some (.tup xs)):SqT K H a xs:=.inl (.inl h)
theorem Inv.list(I:Inv X pins σ H s)(h:SqL X.K H a xs):∃ its:List Value,yho xs its/\PlainL s.heap a its.toArray/\xs.length<=sizeLine:=by
 rcases h with h|⟨o,its,n,hk,hc,hd,hs,hz,r⟩
 ·obtain⟨z,its,n,r,e⟩:=h.ok I.hok;exact⟨its,r,⟨_,n,e,rfl,rfl,rfl⟩,z⟩
 ·refine⟨its.toList,r,⟨o,n,I.kIn a o hk,hc,hd,by simpa using hs⟩,?_⟩;have e:=r.length;simp only[Array.length_toList]at e;omega
theorem Inv.tuple(I:Inv X pins σ H s)(h:SqT X.K H a xs):∃ its:List Value,yho xs its/\IsTup s.heap a its.toArray/\xs.length<=sizeLine:=by
 rcases h with h|⟨o,its,n,hk,hc,hs,hz,r⟩
 ·obtain⟨z,its,r,p⟩:=h.ok I.hok;exact⟨its,r,p,z⟩
 ·refine⟨its.toList,r,⟨o,I.kIn a o hk,hc,n,by simpa using hs⟩,?_⟩;have e:=r.length;simp only[Array.length_toList]at e;omega
theorem Inv.list_inj(I:Inv X pins σ H s)(h:SqL X.K H a xs)(h':SqL X.K H a ys):xs=ys:=by
 obtain⟨its,r,⟨o,n,e,_,_,d⟩,_⟩:=I.list h;obtain⟨its',r',⟨o',n',e',_,_,d'⟩,_⟩:=I.list h';rw[e]at e';cases e';rw[d]at d';injection d' with d1 _;have:its=its':=by simpa using congrArg Array.toList d1
 subst this;exact r.inj r'
theorem Inv.tuple_inj(I:Inv X pins σ H s)(h:SqT X.K H a xs)(h':SqT X.K H a ys):xs=ys:=by
 obtain⟨its,r,⟨o,e,_,n,d⟩,_⟩:=I.tuple h;obtain⟨its',r',⟨o',e',_,n',d'⟩,_⟩:=I.tuple h';rw[e]at e';cases e';rw[d]at d';injection d' with d1 _;have:its=its':=by simpa using congrArg Array.toList d1
 subst this;exact r.inj r'
end
abbrev Cx.wish(X:Cx)(E:Value->Shared->Prop):Cx:={ X with xe:=E }
abbrev Cx.nox(X:Cx):Cx:=X.wish fun _ _=>False
theorem Cx.Ok.wish{X:Cx}(ok:X.Ok)(E:Value->Shared->Prop):(X.wish E).Ok:=
 ⟨ok.mod,ok.kind,ok.glob,ok.blt,ok.above,ok.inj,ok.has,ok.cab,ok.hd,ok.frames,ok.stk,ok.exf,ok.bs,ok.bsz,ok.noex,ok.exfs,ok.funs,ok.frf⟩
theorem Cx.Ok.unwish{X:Cx}{E:Value->Shared->Prop}(ok:(X.wish E).Ok):X.Ok:=
 ⟨ok.mod,ok.kind,ok.glob,ok.blt,ok.above,ok.inj,ok.has,ok.cab,ok.hd,ok.frames,ok.stk,ok.exf,ok.bs,ok.bsz,ok.noex,ok.exfs,ok.funs,ok.frf⟩
section
variable{X:Cx}{pins:List (Addr × Obj)}{σ:St}{H:Hp}{s:Shared}{E:Value->Shared->Prop}
theorem Inv.wish(I:Inv X pins σ H s)(E:Value->Shared->Prop):Inv (X.wish E) pins σ H s:=⟨I.ok.wish E,I.os,I.bare,I.base,I.loc,I.cell,I.free,I.freeC,I.pin,I.hok,I.len⟩
theorem Inv.unwish(I:Inv (X.wish E) pins σ H s):Inv X pins σ H s:=⟨I.ok.unwish,I.os,I.bare,I.base,I.loc,I.cell,I.free,I.freeC,I.pin,I.hok,I.len⟩
theorem SP.unwish{D:Ends}{f:Flow}{s':Shared}(h:SP (X.wish E) pins D f s'):SP X pins D f s':=by
 cases f with
 |next=>obtain⟨σ',H',I,q⟩:=h;exact⟨σ',H',I.unwish,q⟩
 |brk=>obtain⟨σ',H',I,q⟩:=h;exact⟨σ',H',I.unwish,q⟩
 |cont=>obtain⟨σ',H',I,q⟩:=h;exact⟨σ',H',I.unwish,q⟩
 |ret u=>obtain⟨v,σ',H',I,r,q⟩:=h;exact⟨v,σ',H',I.unwish,r,q⟩
theorem PE.nox{e:Expr}{t:TE}(h:PE X.nox e t):PE X e t:=fun pins s σ H Q I hw=>
 wpAny_mono (h pins s σ H Q (I.wish _) hw) (fun _ _ ⟨v,H',I',r,q⟩=>⟨v,H',I'.unwish,r,q⟩) fun _ _ z=>False.elim z
theorem PT.nox{e:Expr}{t:TT}(h:PT X.nox e t):PT X e t:=fun pins s σ H Q I hw=>
 wpAny_mono (h pins s σ H Q (I.wish _) hw) (fun _ _ ⟨H',I',q⟩=>⟨H',I'.unwish,q⟩) fun _ _ z=>False.elim z
theorem PSs.nox{st:List Stmt}{t:TS}(h:PSs X.nox st t):PSs X st t:=fun pins s σ H D I hw=>
 wpAny_mono (h pins s σ H D (I.wish _) hw) (fun _ _ q=>q.unwish) fun _ _ z=>False.elim z
end
section
variable{X:Cx}{st:Stmt}{rest:List Stmt}{t u:TS}{e:Expr}{te:TE}{pos:Pos}
def ygd:TS:=fun D σ H=>D.nx σ H
def yle(t u:TS):TS:=fun D σ H=>t { D with nx:=u D } σ H
theorem zsv:PSs X [] ygd:=fun _ _ σ H _ I h=>wpAny_execs_nil ⟨σ,H,I,h⟩
theorem zl4(h1:PS X st t)(h2:PSs X rest u):PSs X (st::rest) (yle t u):=by
 intro pins s σ H D I h;refine wpAny_execs_cons (thn (h1 pins s σ H { D with nx:=u D } I h) fun f s1 q=>?_);cases f with
 |next=>
  obtain⟨σ',H',I',q⟩:=q;exact h2 pins s1 σ' H' D I' q
 |ret v=>exact q
 |brk=>exact q
 |cont=>exact q
theorem zsw(h1:PS X st t):PSs X [st] t:=by
 intro pins s σ H D I h;refine wpAny_execs_cons (thn (h1 pins s σ H D I h) fun f s1 q=>?_);cases f with
 |next=>exact wpAny_execs_nil q
 |ret v=>exact q
 |brk=>exact q
 |cont=>exact q
theorem Inv.quiet{pins:List (Addr × Obj)}{σ:St}{H:Hp}{s:Shared}(I:Inv X pins σ H s):interactive X.env=false:=by simp[interactive,I.ok.kind]
def ygc(te:TE):TS:=fun D σ H=>te σ H fun _ H1=>D.nx σ H1
theorem zsu(he:PE X e te)(hs:swapsWith e none pos.line X.env=pure false:=by rfl):PS X (.Expr e pos) (ygc te):=by
 intro pins s σ H D I h;exact wpAny_Expr_any (thn (he pins s σ H _ I h) fun v s1 ⟨x,H1,I1,r1,q1⟩=>⟨σ,H1,I1,q1⟩) I.quiet hs
def ylc(te:TE):TS:=fun D σ H=>te σ H D.rt
theorem yah(he:PE X e te):PS X (.Return (some e) pos) (ylc te):=by
 intro pins s σ H D I h;exact wpAny_Return_some (thn (he pins s σ H _ I h) fun v s1 ⟨x,H1,I1,r1,q1⟩=>⟨x,σ,H1,I1,r1,q1⟩)
def yk8(c:TT)(t u:TS):TS:=fun D σ H=>c σ H fun b H1=>if b=true then t D σ H1 else u D σ H1
theorem yfl{c:Expr}{a b:List Stmt}{tc:TT}(hc:PT X c tc)(ha:PSs X a t)(hb:PSs X b u):PS X (.If c a b pos) (yk8 tc t u):=by
 intro pins s σ H D I h;refine wpAny_If (thn (hc pins s σ H _ I h) fun d s1 ⟨H1,I1,q1⟩=>?_);cases d with
 |true=>exact ha pins s1 σ H1 D I1 q1
 |false=>exact hb pins s1 σ H1 D I1 q1
end
abbrev TG:=V->St->Hp->(St->Hp->Prop)->Prop
abbrev TGs:=List V->St->Hp->(St->Hp->Prop)->Prop
def PG(X:Cx)(target:Expr)(t:TG):Prop:=
 ∀ (pins:List (Addr × Obj)) (s:Shared) (σ:St) (H:Hp) (v:V) (u:Value) (Q:St->Hp->Prop),Inv X pins σ H s->yhe v u->t v σ H Q->
  wpAny (model X.prog X.w) X.A (assign target X.env u) (fun _ s'=>∃ σ' H',Inv X pins σ' H' s'/\Q σ' H') X.xe s
def PGs(X:Cx)(ts:List Expr)(t:TGs):Prop:=
 ∀ (pins:List (Addr × Obj)) (s:Shared) (σ:St) (H:Hp) (vs:List V) (us:List Value) (Q:St->Hp->Prop),Inv X pins σ H s->yho vs us->t vs σ H Q->
  wpAny (model X.prog X.w) X.A (assignInOrder ((assignEach ts X.env).map (·.2)) us) (fun _ s'=>∃ σ' H',Inv X pins σ' H' s'/\Q σ' H') X.xe s
abbrev yhk:=V->V->V->Hp->(Hp->Prop)->Prop
def yha(X:Cx)(t:yhk):Prop:=
 ∀ (pins:List (Addr × Obj)) (s:Shared) (σ:St) (H:Hp) (o i v:V) (ov iv u:Value) (Q:Hp->Prop),Inv X pins σ H s->yhe o ov->yhe i iv->yhe v u->t o i v H Q->
  wpAny (model X.prog X.w) X.A (setItem ov iv u) (fun _ s'=>∃ H',Inv X pins σ H' s'/\Q H') X.xe s
abbrev TIp:=V->V->Hp->VK->Prop
def PIp(X:Cx)(op:Operator)(t:TIp):Prop:=
 ∀ (pins:List (Addr × Obj)) (s:Shared) (σ:St) (H:Hp) (x y:V) (v u:Value) (Q:VK),Inv X pins σ H s->yhe x v->yhe y u->t x y H Q->
  wpAny (model X.prog X.w) X.A (inplaceOp op v u) (EP X pins σ Q) X.xe s
section
variable{X:Cx}{pos:Pos}
def ydw(i:Nat):TG:=fun v σ H Q=>Q (σ.set i (some v)) H
theorem zso{i:Nat}{x:Str}(hN:X.N.Nodup)(hi:X.N[i]?=some x)(hx:Loc X.env.scope x)(hf:X.fn x=true\/X.env.scope.names.lookup x=some .local:=by first|exact .inl rfl|exact .inr rfl|assumption):PG X (.Name x pos) (ydw i):=by
 intro pins s σ H v u Q I r h;exact wpAny_assign_Name (zm7 I hN hi hx r (fun s' I'=>⟨_,H,I',h⟩) hf)
def yit:TGs:=fun vs σ H Q=>vs=[]/\Q σ H
def ydv(t:TG)(u:TGs):TGs:=fun vs σ H Q=>∃ v r,vs=v::r/\t v σ H fun σ' H'=>u r σ' H' Q
theorem zsp:PGs X [] yit:=by
 intro pins s σ H vs us Q I r h;obtain⟨e,h⟩:=h;subst e;cases r;exact assignInOrder_nil ⟨σ,H,I,h⟩
theorem zl0{e:Expr}{es:List Expr}{t:TG}{u:TGs}(h1:PG X e t)(h2:PGs X es u)
  (hs:(assignEach (e::es) X.env).map (·.2)=assign e X.env::(assignEach es X.env).map (·.2):=by rfl):PGs X (e::es) (ydv t u):=by
 intro pins s σ H vs us Q I r h;obtain⟨v,vr,e1,h⟩:=h;subst e1;cases r with
 |cons r rr=>
  rw[hs];refine assignInOrder_cons (thn (h1 pins s σ H _ _ _ I r h) fun _ s1 ⟨σ1,H1,I1,q1⟩=>?_);exact h2 pins s1 σ1 H1 _ _ Q I1 rr q1
def yiv(K:PySem.W.Frag)(n:Nat)(t:TGs):TG:=fun v σ H Q=>∃ a xs,v=.ref a/\SqT K H a xs/\xs.length=n/\t xs σ H Q
theorem zz6{es:List Expr}{k:Nat}{t:TGs}{n:Nat}(hc:X.calm=true)(h:PGs X es t)
  (hn:(assignEach es X.env).length=n:=by rfl) (hst:(assignEach es X.env).findIdx? (·.1)=none:=by rfl):PG X (.Tuple es k pos) (yiv X.K n t):=by
 intro pins s σ H v u Q I r hw;obtain⟨a,xs,e1,hq,hl,hw⟩:=hw;subst e1;cases r;obtain⟨its,rv,ht,hz⟩:=I.tuple hq;refine assign_Tuple_tuple (I.ok.hd hc) ht (by simp[hn,<-hl,rv.length]) hst fun h' hx=>?_;have I1:Inv X pins σ H { s with heap:=h' }:=I.kept (t':=s.toks) fun b o e=>hx b o (Nat.ne_of_lt (Heap.lt_size e)) e;exact h pins _ σ H xs _ Q I1 (by simpa using rv) hw
def yiu(to ti:TE)(t:yhk):TG:=fun v σ H Q=>to σ H fun o H1=>ti σ H1 fun i H2=>t o i v H2 fun H3=>Q σ H3
theorem zz5{o i:Expr}{to ti:TE}{t:yhk}(ho:PE X o to)(hi:PE X i ti)(hs:yha X t)
  (ha:∀ v,assign (.Subscript o i pos) X.env v=(do
   let ov <-holding [v] (eval o X.env);let iv <-holding [v,ov] (eval i X.env)
   standAt pos
   holding [v,ov,iv] (setItem ov iv v)
   release [v,ov,iv] []):=by intro _;rfl):PG X (.Subscript o i pos) (yiu to ti t):=by
 intro pins s σ H v u Q I r h;rw[ha];refine wpAny_bind (wpAny_holding (thn (ho pins s σ H _ I h) fun ov s1 ⟨x,H1,I1,r1,q1⟩=>?_));refine wpAny_bind (wpAny_holding (thn (hi pins s1 σ H1 _ I1 q1) fun iv s2 ⟨y,H2,I2,r2,q2⟩=>?_));refine wpAny_bind (wpAny_standAt (wpAny_bind (wpAny_holding (thn (hs pins s2 σ H2 x y v ov iv u _ I2 r1 r2 r q2) fun _ s3 ⟨H3,I3,q3⟩=>?_))));exact wpAny_release ⟨σ,H3,I3,q3⟩
def yk3(te:TE)(g:TG):TS:=fun D σ H=>te σ H fun x H1=>g x σ H1 D.nx
theorem yad{tg e:Expr}{te:TE}{g:TG}(he:PE X e te)(hg:PG X tg g)(hs:swapsWithSole [tg] e pos.line X.env=pure false:=by rfl)(hw:swappedStores [tg] e X.env=pure none:=by rfl)
  (h1:(assignEach [tg] X.env).map (·.2)=[assign tg X.env]:=by rfl):PS X (.Assign [tg] e pos) (yk3 te g):=by
 intro pins s σ H D I h;refine wpAny_Assign_stores (thn (he pins s σ H _ I h) fun v s1 ⟨x,H1,I1,r1,q1⟩=>?_) hs hw;rw[h1];exact thn (hg pins s1 σ H1 x v _ I1 r1 q1) fun _ s2 q=>q
theorem yai{i:Nat}{x:Str}{e:Expr}{te:TE}{pos':Pos}(hN:X.N.Nodup)(hi:X.N[i]?=some x)(hx:Loc X.env.scope x)(he:PE X e te)(hs:swapsWith e (some (.Name x pos')) pos.line X.env=pure false:=by rfl)(hf:X.fn x=true\/X.env.scope.names.lookup x=some .local:=by first|exact .inl rfl|exact .inr rfl|assumption) :
  PS X (.Assign [.Name x pos'] e pos) (yk3 te (ydw i)):=by
 intro pins s σ H D I h;refine wpAny_Assign_Name (thn (he pins s σ H _ I h) fun v s1 ⟨y,H1,I1,r1,q1⟩=>?_) hs;exact zm7 I1 hN hi hx r1 (fun s2 I2=>⟨_,H1,I2,q1⟩) hf
def yk4(i:Nat)(te:TE)(ti:TIp):TS:=fun D σ H=>∃ x,σ[i]?=some (some x)/\te σ H fun y H1=>ti x y H1 fun z H2=>D.nx (σ.set i (some z)) H2
theorem yae{i:Nat}{x:Str}{e:Expr}{te:TE}{op:Operator}{ti:TIp}{pos':Pos}(hN:X.N.Nodup)(hi:X.N[i]?=some x)(hx:Loc X.env.scope x)(he:PE X e te)(ho:PIp X op ti)(hf:X.fn x=true\/X.env.scope.names.lookup x=some .local:=by first|exact .inl rfl|exact .inr rfl|assumption) :
  PS X (.AugAssign (.Name x pos') op e pos) (yk4 i te ti):=by
 intro pins s σ H D I h;obtain⟨v,e1,h⟩:=h;obtain⟨m,hn,hl⟩:=I.loc;have vis:Vis X.env.scope x:=by rcases hx with k|k;exact .inl k;exact .inr (.inl k)
 obtain⟨u,r,l⟩:=hl i x v hi e1 vis;refine wpAny_AugAssign_Name ?_;have go:wpAny (model X.prog X.w) X.A (eval e X.env) (fun w s₂=>wpAny (model X.prog X.w) X.A (inplaceOp op u w) (fun r s₃=>wpAny (model X.prog X.w) X.A (storeName X.env x r) (fun _=>SP X pins D .next) X.xe s₃) X.xe s₂) X.xe s:=by
  refine thn (he pins s σ H _ I h) fun w s1 ⟨y,H1,I1,r1,q1⟩=>?_;refine thn (ho pins s1 σ H1 v y u w _ I1 r r1 q1) fun z s2 ⟨zv,H2,I2,r2,q2⟩=>?_;exact zm7 I2 hN hi hx r2 (fun s3 I3=>⟨_,H2,I3,q2⟩) hf
 rcases l with⟨hk,hm⟩|⟨hk,c,hc,hcell⟩
 ·exact wpAny_loadName_local I.ok.kind hk hn hm go
 ·rcases hk with hk|hk
  ·exact wpAny_loadName_cell I.ok.kind hk hc hcell go
  ·rcases hx with k|k
   ·have:X.env.scope.names.lookup x=some .free:=hk;rw[k]at this;cases this
   ·have:X.env.scope.names.lookup x=some .free:=hk;rw[k]at this;cases this
def ipI(f:Int->Int->Int):TIp:=fun x y H Q=>∃ i j,x=.int i/\y=.int j/\Q (.int (f i j)) H
theorem zyd:PIp X .Add (ipI fun i j=>i+j):=by
 intro pins s σ H x y v u Q I r1 r2 h;obtain⟨i,j,e1,e2,q⟩:=h;subst e1;subst e2;obtain⟨t,rfl⟩:=r1;obtain⟨t',rfl⟩:=r2;exact iadd_int ⟨.int _,H,I.tok _,⟨_,rfl⟩,q⟩
end
section
variable{X:Cx}{pos:Pos}
end
structure It where
 go:Nat->Hp->Prop
 yld:Nat->Hp->V->Hp->Prop
 stop:Nat->Hp->Prop
def yg2(X:Cx)(pins:List (Addr × Obj))(H:Hp)(b:Addr):Prop:=
 H b=none/\b≠X.env.locals/\b ∉ X.fs/\(b∈X.ex\/X.s₀.heap.objs.size<=b)/\(∀ x c,X.env.cells.lookup x=some c->c≠b)/\∀ p∈X.pn++pins,p.1≠b
theorem Inv.fpOk{X:Cx}{pins:List (Addr × Obj)}{σ:St}{H H':Hp}{s:Shared}{b:Addr}(I:Inv X pins σ H s)(hb:s.heap.objs.size<=b)(hn:H' b=none):yg2 X pins H' b:=by
 refine⟨hn,Nat.ne_of_gt (Nat.lt_of_lt_of_le I.lt hb),I.nofs hb,.inr (Nat.le_trans I.sz hb),fun x c e z=>?_,fun p hp z=>?_⟩
 ·obtain⟨v,q⟩:=I.cell x c e;exact absurd (Nat.lt_of_lt_of_le q.lt (by rw[z];exact hb)) (Nat.lt_irrefl _)
 ·exact absurd (Nat.lt_of_lt_of_le (Heap.lt_size (I.pin p hp).1) (by rw[z];exact hb)) (Nat.lt_irrefl _)
structure Turn(P:Program)(w:World)(K:PySem.W.Frag)(tg:Expr)(J:It)(fp:List Addr)(it:Addr)(tn:Nat->Heap->Prop):Prop where
 mem:it∈fp
 obj:∀ i h,tn i h->∀ b∈fp,∃ o,h.get? b=some o/\∀ v,o.data≠.cell v
 keep:∀ i h h',tn i h->(∀ b∈fp,∀ o,h.get? b=some o->h'.get? b=some o)->tn i h'
 item:∀ (X:Cx),X.prog=P->X.w=w->X.K=K->X.calm=true->∀ (i:Nat) (pins:List (Addr × Obj)) (s:Shared) (σ:St) (H:Hp) (E:Value->Shared->Prop),Inv X pins σ H s->(∀ b∈fp,yg2 X pins H b)->tn i s.heap->J.go i H->
  wpAny (model P w) X.A (pyNext (.ref it)) (fun r s1=>∃ u,r=some u/\
   wpAny (model P w) X.A (letOwnedTupleGo tg (.ref it) u) (fun _ s2=>∃ x H',Inv X pins σ H' s2/\yhe x u/\J.yld i H x H'/\tn (i+1) s2.heap/\∀ b∈fp,H' b=none) E s1) E s
 done:∀ (X:Cx),X.prog=P->X.w=w->X.K=K->X.calm=true->∀ (i:Nat) (pins:List (Addr × Obj)) (s:Shared) (σ:St) (H:Hp) (E:Value->Shared->Prop),Inv X pins σ H s->(∀ b∈fp,yg2 X pins H b)->tn i s.heap->J.stop i H->
  wpAny (model P w) X.A (pyNext (.ref it)) (fun r s1=>r=none/\Inv X pins σ H s1) E s
 self:∀ (A:Around) (i:Nat) (s:Shared) (Q:Value->Shared->Prop) (E:Value->Shared->Prop),tn i s.heap->Q (.ref it) s->wpAny (model P w) A (pyIter (.ref it)) Q E s
abbrev TI:=St->Hp->(It->Hp->Prop)->Prop
def PIE(X:Cx)(pins:List (Addr × Obj))(σ:St)(tg:Expr)(R:It->Hp->Prop)(itv:Value)(s2:Shared):Prop:=
 ∃ (it:Addr) (fp:List Addr) (tn:Nat->Heap->Prop) (J:It) (H':Hp),itv=.ref it/\Inv X pins σ H' s2/\Turn X.prog X.w X.K tg J fp it tn/\tn 0 s2.heap/\(∀ b∈fp,yg2 X pins H' b)/\R J H'
def PI(X:Cx)(tg iter:Expr)(wi:TI):Prop:=
 ∀ (pins:List (Addr × Obj)) (s:Shared) (σ:St) (H:Hp) (R:It->Hp->Prop),Inv X pins σ H s->wi σ H R->
  wpAny (model X.prog X.w) X.A (eval iter X.env) (fun v s1=>wpAny (model X.prog X.w) X.A (pyIter v) (PIE X pins σ tg R) X.xe s1) X.xe s
theorem ydy {M : Model} {A : Around} {E : Value -> Shared -> Prop} {s : Shared} {tg : Expr} {it : Addr} {u : Value} {o : Obj} {n : String} {vs : Array Value} {Q : Unit -> Shared -> Prop} (ho : s.heap.get? it = some o) (hc : o.cls = .type n) (hd : o.data = .fields vs)
    (hn : ["enumerate", "zip", "dict_itemiterator", "dict_reverseitemiterator", "odict_iterator", "itertools.zip_longest", "itertools.pairwise"].contains n = false) (hQ : Q () s) : wpAny M A (letOwnedTupleGo tg (.ref it) u) Q E s := by
  unfold letOwnedTupleGo;cases tg <;> first
    | exact wpAny_pure hQ
    | (cases u <;> first
        | exact wpAny_pure hQ
        | (refine wpAny_bind (wpAny_load ho ?_)
           rw [hc, hd];show wpAny M A (if (["enumerate", "zip", "dict_itemiterator", "dict_reverseitemiterator", "odict_iterator", "itertools.zip_longest", "itertools.pairwise"].contains n && vs[0]? == some (rawInt _)) = true then _ else _) Q E s;rw [if_neg (by intro h; rw [hn, Bool.false_and] at h; cases h)];exact wpAny_pure hQ))
def Itl(K:PySem.W.Frag)(a:Addr):It:=
 ⟨fun i H=>∃ xs x,SqL K H a xs/\xs[i]?=some x,fun i H x H'=>H'=H/\∀ xs,SqL K H a xs->xs[i]?=some x,fun i H=>∃ xs,SqL K H a xs/\xs.length<=i⟩
def Itt(K:PySem.W.Frag)(a:Addr):It:=
 ⟨fun i H=>∃ xs x,SqT K H a xs/\xs[i]?=some x,fun i H x H'=>H'=H/\∀ xs,SqT K H a xs->xs[i]?=some x,fun i H=>∃ xs,SqT K H a xs/\xs.length<=i⟩
def Itr(lo:Int)(n:Nat):It:=⟨fun i _=>i<n,fun i H x H'=>H'=H/\x=.int (lo+i),fun i _=>n<=i⟩
theorem zh3{P:Program}{w:World}{K:PySem.W.Frag}{tg:Expr}(a it:Addr):Turn P w K tg (Itl K a) [it] it (fun i h=>h.IsListIter it a i) where
 mem:=by simp
 obj:=fun i h st b hb=>by
  have e:b=it:=by simpa using hb
  subst e;obtain⟨o,e,c,d⟩:=st;exact⟨o,e,fun v z=>by rw[d]at z;cases z⟩
 keep:=fun i h h' st k=>st.at fun o e=>k it (by simp) o e
 item:=by
  intro X hP hw hK hc i pins s σ H E I hf st hg;subst hP hw hK;obtain⟨xs,x,hq,hx⟩:=hg;obtain⟨its,rv,p,hz⟩:=I.list hq;obtain⟨u,hu,ru⟩:=rv.get hx;obtain⟨f0,f1,f2,f3,f4,f5⟩:=hf it (by simp);refine wpAny_pyNext_list_item st p.isList (x:=u) (by simpa using hu) fun h' st' sb=>?_;have I1:Inv X pins σ H { s with heap:=h' }:=I.turned (t':=s.toks) (fun b o hb e=>(sb.2 b hb).trans e) f0 f1 f3 f4 f5;obtain⟨o,e,c,d⟩:=id st';exact⟨u,rfl,ydy (s:={ s with heap:=h' }) e c d (by decide) ⟨x,H,I1,ru,⟨rfl,fun ys hy=>by rw[I.list_inj hy hq];exact hx⟩,st',fun b hb=>(hf b hb).1⟩⟩
 done:=by
  intro X hP hw hK hc i pins s σ H E I hf st hg;subst hP hw hK;obtain⟨xs,hq,hx⟩:=hg;obtain⟨its,rv,p,hz⟩:=I.list hq;obtain⟨f0,f1,f2,f3,f4,f5⟩:=hf it (by simp);have hl:=rv.length;exact wpAny_pyNext_list_end (I.ok.hd hc) st p.isList (by simp;omega) fun h' eb=>⟨rfl,I.turned (t':=s.toks) (fun b o hb e=>eb b o hb e) f0 f1 f3 f4 f5⟩
 self:=fun _ _ _ _ _ st h=>wpAny_pyIter_listiter st h
theorem zfh{P:Program}{w:World}{K:PySem.W.Frag}{tg:Expr}(a it:Addr):Turn P w K tg (Itt K a) [it] it (fun i h=>h.IsTupleIter it a i) where
 mem:=by simp
 obj:=fun i h st b hb=>by
  have e:b=it:=by simpa using hb
  subst e;obtain⟨o,e,c,d⟩:=st;exact⟨o,e,fun v z=>by rw[d]at z;cases z⟩
 keep:=fun i h h' st k=>st.at fun o e=>k it (by simp) o e
 item:=by
  intro X hP hw hK hc i pins s σ H E I hf st hg;subst hP hw hK;obtain⟨xs,x,hq,hx⟩:=hg;obtain⟨its,rv,p,hz⟩:=I.tuple hq;obtain⟨u,hu,ru⟩:=rv.get hx;obtain⟨f0,f1,f2,f3,f4,f5⟩:=hf it (by simp);refine wpAny_pyNext_tuple_item st (show s.heap.IsTuple a its.toArray from p) (x:=u) (by simpa using hu) fun h' st' sb=>?_;have I1:Inv X pins σ H { s with heap:=h' }:=I.turned (t':=s.toks) (fun b o hb e=>(sb.2 b hb).trans e) f0 f1 f3 f4 f5;obtain⟨o,e,c,d⟩:=id st';exact⟨u,rfl,ydy (s:={ s with heap:=h' }) e c d (by decide) ⟨x,H,I1,ru,⟨rfl,fun ys hy=>by rw[I.tuple_inj hy hq];exact hx⟩,st',fun b hb=>(hf b hb).1⟩⟩
 done:=by
  intro X hP hw hK hc i pins s σ H E I hf st hg;subst hP hw hK;obtain⟨xs,hq,hx⟩:=hg;obtain⟨its,rv,p,hz⟩:=I.tuple hq;obtain⟨f0,f1,f2,f3,f4,f5⟩:=hf it (by simp);have hl:=rv.length;exact wpAny_pyNext_tuple_end (I.ok.hd hc) st (show s.heap.IsTuple a its.toArray from p) (by simp;omega) fun h' eb=>⟨rfl,I.turned (t':=s.toks) (fun b o hb e=>eb b o hb e) f0 f1 f3 f4 f5⟩
 self:=fun _ _ _ _ _ st h=>wpAny_pyIter_tupleiter st h
theorem zfg{P:Program}{w:World}{K:PySem.W.Frag}{tg:Expr}(it:Addr)(lo:Int)(n:Nat):Turn P w K tg (Itr lo n) [it] it (fun i h=>IsRangeIter h it (lo+(i:Nat) * 1) ((n:Int) - (i:Nat)) 1) where
 mem:=by simp
 obj:=fun i h st b hb=>by
  have e:b=it:=by simpa using hb
  subst e;exact⟨_,st,fun v z=>by
   have z':Data.fields _=Data.cell v:=z;cases z'⟩
 keep:=fun i h h' st k=>k it (by simp) _ st
 item:=by
  intro X hP hw hK hc i pins s σ H E I hf st hg;subst hP hw hK;obtain⟨f0,f1,f2,f3,f4,f5⟩:=hf it (by simp);have W:=Walks.range (prog:=X.prog) (w:=X.w) (I.ok.hd hc) it lo 1 n;refine W.item i s _ _ hg st fun v h' tk hv st' kk=>?_;obtain⟨t,rfl⟩:=hv;have I1:Inv X pins σ H { s with heap:=h',toks:=tk }:=I.turned (fun b o hb e=>kk b o (by simpa using hb) e) f0 f1 f3 f4 f5;refine⟨_,rfl,ydy (s:={ s with heap:=h',toks:=tk }) (n:="range_iterator") st' rfl rfl (by decide) ⟨.int (lo+i),H,I1,⟨t,?_⟩,⟨rfl,rfl⟩,st',fun b hb=>(hf b hb).1⟩⟩;rw[Int.mul_one]
 done:=by
  intro X hP hw hK hc i pins s σ H E I hf st hg;subst hP hw hK;obtain⟨f0,f1,f2,f3,f4,f5⟩:=hf it (by simp);exact wpAny_pyNext_range_end (I.ok.hd hc) st (by have:n<=i:=hg;omega) fun h' eb=>⟨rfl,I.turned (t':=s.toks) (fun b o hb e=>eb b o hb e) f0 f1 f3 f4 f5⟩
 self:=fun _ _ _ _ _ st h=>wpAny_pyIter_rangeiter st h
end L2
namespace L2
open PySem PySem.Spec PyProof.Rows
section
variable{X:Cx}{tg:Expr}
theorem zl9{pins:List (Addr × Obj)}{σ:St}{H:Hp}{s:Shared}{R:It->Hp->Prop}{E:Value->Shared->Prop}{lo hi:Int}{t u v:Tok}{tk:Nat}(I:Inv X pins σ H s)(h1:-(2 ^ 62)<=lo)(h2:lo<2 ^ 62)(h3:-(2 ^ 62)<=hi)(h4:hi<2 ^ 62)
  (q:R (Itr lo (hi - lo).toNat) H):wpAny (model X.prog X.w) X.A (pyIter (.ref s.heap.objs.size)) (PIE X pins σ tg R) E { s with heap:=s.heap.push { cls:=.type "range",data:=.fields #[.int lo t,.int hi u,.int 1 v] },toks:=tk }:=by
 refine wpAny_pyIter_range (IsRange.new ..) (small_one h1 h2 h3 h4) ?_;have I1:Inv X pins σ H { s with heap:=s.heap.push { cls:=.type "range",data:=.fields #[.int lo t,.int hi u,.int 1 v] },toks:=tk }:=I.kept fun b o e=>Heap.get?_push_of_some _ e;refine⟨(s.heap.push { cls:=.type "range",data:=.fields #[.int lo t,.int hi u,.int 1 v] }).objs.size,[(s.heap.push { cls:=.type "range",data:=.fields #[.int lo t,.int hi u,.int 1 v] }).objs.size],_,_,H,rfl,
  I1.kept (t':=tk) fun b o e=>Heap.get?_push_of_some _ e,zfg _ lo (hi - lo).toNat,?_,fun b hb=>?_,q⟩
 ·have e1:lo+((0:Nat):Int) * 1=lo:=by simp
  have e2:(((hi - lo).toNat:Nat):Int) - ((0:Nat):Int)=Builtin.Range.rangeSize lo hi 1:=by rw[rangeSize_one];split<;>omega
  show IsRangeIter _ _ (lo+((0:Nat):Int) * 1) ((((hi - lo).toNat:Nat):Int) - ((0:Nat):Int)) 1;rw[e1,e2];exact Heap.get?_push_size _ rfl
 ·have e:b=(s.heap.push { cls:=.type "range",data:=.fields #[.int lo t,.int hi u,.int 1 v] }).objs.size:=by simpa using hb
  subst e;exact I1.fpOk (Nat.le_refl _) (I1.hok.fresh (Nat.le_refl _))
def yd1(ta:TA):TI:=fun σ H R=>ta σ H fun vs H1=>∃ j:Int,vs=[.int j]/\-(2 ^ 62)<=j/\j<2 ^ 62/\R (Itr 0 j.toNat) H1
theorem zhe{a:Expr}{ta:TA}{p pos:Pos}(hg:Gl X "range")(hm:X.mg "range" = none)(ha:PA X [a] ta)(hs:starEach [a] X.env=[(false,eval a X.env)]:=by rfl):PI X tg (.Call (.Name "range" p) [a] [] pos) (yd1 ta):=by
 intro pins s σ H R I h;refine Call_ (zyt I hg hm boot_range (PyProof.Rows.callWith_type1 (thn (ha pos pins s σ H _ I h) fun us s1 ⟨vs,H1,I1,r1,q1⟩=>?_) hs rfl));obtain⟨j,e,q1,q2,q⟩:=q1;subst e;cases r1 with
 |cons r rr=>
  cases rr;obtain⟨t,rfl⟩:=r;exact call_range_1 (zl9 I1 (by omega) (by omega) q1 q2 (by simpa using q))
def yk7(wi:TI)(g:TG)(tb:TS):TS:=fun D σ H=>wi σ H fun J H1=>∃ W:Nat->Nat->St->Hp->Prop,(∃ m,W 0 m σ H1)/\∀ i m σ H,W i m σ H->
 (J.stop i H/\D.nx σ H)\/(J.go i H/\∃ N:St->Hp->Prop,(∀ σ' H',N σ' H'->∃ m',m'<m/\W (i+1) m' σ' H')/\∀ x H',J.yld i H x H'->g x σ H' fun σ2 H2=>tb { D with nx:=N,ct:=N,bk:=D.nx } σ2 H2)
def zz9(fp:List Addr)(h:Heap):List (Addr × Obj):=fp.filterMap fun b=>(h.get? b).map fun o=>(b,o)
theorem zeu{fp:List Addr}{h:Heap}{b:Addr}{o:Obj}(hb:b∈fp)(e:h.get? b=some o):(b,o)∈zz9 fp h:=List.mem_filterMap.mpr ⟨b,hb,by rw[e];rfl⟩
theorem zg7{fp:List Addr}{h:Heap}{p:Addr × Obj}(hp:p∈zz9 fp h):p.1∈fp/\h.get? p.1=some p.2:=by
 obtain⟨b,hb,e⟩:=List.mem_filterMap.mp hp;cases q:h.get? b with
 |none=>rw[q]at e;cases e
 |some o=>
  rw[q]at e;have e':(b,o)=p:=Option.some.inj e;subst e';exact⟨hb,q⟩
theorem Inv.pinned{pins:List (Addr × Obj)}{σ:St}{H:Hp}{s:Shared}{fp:List Addr}(I:Inv X pins σ H s)(hf:∀ b∈fp,yg2 X pins H b)(ho:∀ b∈fp,∃ o,s.heap.get? b=some o/\∀ v,o.data≠.cell v):Inv X (pins++zz9 fp s.heap) σ H s:=
 I.pins_of fun p hp=>(List.mem_append.mp hp).elim (fun z=>I.pin p (List.mem_append_right _ z)) fun z=>by
  obtain⟨hb,e⟩:=zg7 z;obtain⟨f0,f1,f2,_⟩:=hf p.1 hb;obtain⟨o,e',d⟩:=ho p.1 hb;rw[e]at e';cases e';exact⟨e,f0,f1,f2,d⟩
theorem Inv.unpinned{pins pl:List (Addr × Obj)}{σ:St}{H:Hp}{s:Shared}(I:Inv X (pins++pl) σ H s):Inv X pins σ H s:=I.pins_of fun p hp=>I.pin p (List.mem_append_right _ (List.mem_append_left _ hp))
theorem yag{iter:Expr}{body:List Stmt}{wi:TI}{g:TG}{tb:TS}{pos:Pos}(hp:PassesOwn (model X.prog X.w) X.A X.env X.xe)(hc:X.calm=true)(hi:PI X tg iter wi)(hg:PG X tg g)(hb:PSs X body tb)
  (hs:∀ x,foldedSetIterable iter X.env x=pure x:=by intro _;rfl):PS X (.For tg iter body [] pos) (yk7 wi g tb):=by
 intro pins s σ H D I h;refine wpAny_For (thn (hi pins s σ H _ I h) fun v s1 h1=>thn h1 fun itv s2 h2=>?_) hs;obtain⟨it,fp,tn,J,H2,e,I2,T,st2,f2,W,⟨m0,w0⟩,turn⟩:=h2;subst e;have stat:∀ {H':Hp},(∀ b∈fp,H' b=none)->∀ b∈fp,yg2 X pins H' b:=fun hn b hb=>⟨hn b hb,(f2 b hb).2⟩
 refine codeAny_forLoop_any (fun n s'=>∃ i σ' H',Inv X pins σ' H' s'/\tn i s'.heap/\(∀ b∈fp,H' b=none)/\W i n σ' H') ?_ m0 ⟨0,σ,H2,I2,st2,fun b hb=>(f2 b hb).1,w0⟩;rintro n s3 ⟨i,σ3,H3,I3,st3,fr3,w3⟩;rcases turn i n σ3 H3 w3 with⟨stop,qn⟩|⟨go,N,hN,step⟩
 ·refine wpAny_passesOwn hp (thn (T.done X rfl rfl rfl hc i pins s3 σ3 H3 X.xe I3 (stat fr3) st3 stop) fun r s4 ⟨hr,I4⟩=>?_);subst hr;exact wpAny_execs_nil ⟨σ3,H3,I4,qn⟩
 ·refine wpAny_passesOwn hp (thn (T.item X rfl rfl rfl hc i pins s3 σ3 H3 X.xe I3 (stat fr3) st3 go) fun r s4 ⟨u,hr,h4⟩=>?_);subst hr;refine wpAny_passesOwn hp (thn h4 fun _ s5 ⟨x,H5,I5,r5,y5,st5,fr5⟩=>?_);have I5':=I5.pinned (stat fr5) (T.obj _ _ st5);refine wpAny_passesOwn hp (thn (hg _ s5 σ3 H5 x u _ I5' r5 (step x H5 y5)) fun _ s6 ⟨σ6,H6,I6,q6⟩=>?_);refine wpAny_passesOwn hp (thn (hb _ s6 σ6 H6 _ I6 q6) fun f s7 q7=>?_);have again:∀ {σ7:St} {H7:Hp},Inv X (pins++zz9 fp s5.heap) σ7 H7 s7->N σ7 H7->∃ m,m<n/\∃ i σ' H',Inv X pins σ' H' s7/\tn i s7.heap/\(∀ b∈fp,H' b=none)/\W i m σ' H':=fun {σ7 H7} I7 n7=>by
   obtain⟨m',hm,w7⟩:=hN σ7 H7 n7;refine⟨m',hm,i+1,σ7,H7,I7.unpinned,T.keep _ _ _ st5 fun b hb o e=>(I7.pin (b,o) (List.mem_append_right _ (List.mem_append_right _ (zeu hb e)))).1,fun b hb=>?_,w7⟩;obtain⟨o,e,d⟩:=T.obj _ _ st5 b hb;exact(I7.pin (b,o) (List.mem_append_right _ (List.mem_append_right _ (zeu hb e)))).2.1
  cases f with
  |next=>obtain⟨σ7,H7,I7,n7⟩:=q7;exact again I7 n7
  |cont=>obtain⟨σ7,H7,I7,n7⟩:=q7;exact again I7 n7
  |brk=>obtain⟨σ7,H7,I7,q7⟩:=q7;exact⟨σ7,H7,I7.unpinned,q7⟩
  |ret v=>obtain⟨x7,σ7,H7,I7,r7,q7⟩:=q7;exact⟨x7,σ7,H7,I7.unpinned,r7,q7⟩
end
end L2
namespace L2
open PySem PySem.Spec PyProof.Rows
abbrev R2:=V->V->Hp->VK->Prop
def OpR(X:Cx)(f:Value->Value->Sem Value)(r:R2):Prop:=
 ∀ (pins:List (Addr × Obj)) (s:Shared) (σ:St) (H:Hp) (x y:V) (v u:Value) (Q:VK),Inv X pins σ H s->yhe x v->yhe y u->r x y H Q->
  wpAny (model X.prog X.w) X.A (f v u) (EP X pins σ Q) X.xe s
def yb3(X:Cx)(f:Value)(r:List V->Hp->VK->Prop):Prop:=
 ∀ (pins:List (Addr × Obj)) (s:Shared) (σ:St) (H:Hp) (xs:List V) (us:List Value) (Q:VK),Inv X pins σ H s->yho xs us->r xs H Q->
  wpAny (model X.prog X.w) X.A (call f us) (EP X pins σ Q) X.xe s
def tOp(r:R2)(ta tb:TE):TE:=fun σ H Q=>ta σ H fun x H1=>tb σ H1 fun y H2=>r x y H2 Q
def rI(C:Int->Int->Prop)(g:Int->Int->V):R2:=fun x y H Q=>∃ i j,x=.int i/\y=.int j/\C i j/\Q (g i j) H
def rI0(g:Int->Int->V):R2:=fun x y H Q=>∃ i j,x=.int i/\y=.int j/\Q (g i j) H
section
variable{X:Cx}{a b c:Expr}{ta tb tc:TE}{pos:Pos}
theorem yhz(ha:PE X a ta)(hb:PE X b tb){pins:List (Addr × Obj)}{s:Shared}{σ:St}{H:Hp}{R:V->V->Hp->Prop}(I:Inv X pins σ H s)
  (h:ta σ H fun x H1=>tb σ H1 fun y H2=>R x y H2) {Q:Value->Shared->Prop} {f:Value->Value->Sem Value}
  (hf:∀ v u s2 x y H2,Inv X pins σ H2 s2->yhe x v->yhe y u->R x y H2->wpAny (model X.prog X.w) X.A (f v u) Q X.xe s2) :
  wpAny (model X.prog X.w) X.A (eval a X.env) (fun v s₁=>wpAny (model X.prog X.w) X.A (eval b X.env) (fun u s₂=>wpAny (model X.prog X.w) X.A (f v u) Q X.xe s₂) X.xe s₁) X.xe s:=by
 refine thn (ha pins s σ H _ I h) fun v s1 ⟨x,H1,I1,r1,q1⟩=>?_;refine thn (hb pins s1 σ H1 _ I1 q1) fun u s2 ⟨y,H2,I2,r2,q2⟩=>?_;exact hf v u s2 x y H2 I2 r1 r2 q2
theorem yfj{op:Operator}{r:R2}(ho:OpR X (binaryOp op) r)(ha:PE X a ta)(hb:PE X b tb):PE X (.BinOp a op b pos) (tOp r ta tb):=by
 intro pins s σ H Q I h;exact wpAny_BinOp (yhz ha hb I h fun v u s2 x y H2 I2 rx ry q=>ho pins s2 σ H2 x y v u Q I2 rx ry q)
theorem opI{f:Value->Value->Sem Value}{C:Int->Int->Prop}{g:Int->Int->Int}
  (rule:∀ (i j:Int) (t u:Tok) (s:Shared) (Q:Value->Shared->Prop) (E:Value->Shared->Prop),C i j->Q (.int (g i j) s.toks) { s with toks:=s.toks+1 }->wpAny (model X.prog X.w) X.A (f (.int i t) (.int j u)) Q E s) :
  OpR X f (rI C fun i j=>.int (g i j)):=by
 intro pins s σ H x y v u Q I rx ry h;obtain⟨i,j,rfl,rfl,hc,q⟩:=h;obtain⟨t,rfl⟩:=rx;obtain⟨t',rfl⟩:=ry;exact rule i j t t' s _ _ hc ⟨.int (g i j),H,I.tok _,⟨_,rfl⟩,q⟩
theorem yjy{f:Value->Value->Sem Value}{g:Int->Int->Int}
  (rule:∀ (i j:Int) (t u:Tok) (s:Shared) (Q:Value->Shared->Prop) (E:Value->Shared->Prop),Q (.int (g i j) s.toks) { s with toks:=s.toks+1 }->wpAny (model X.prog X.w) X.A (f (.int i t) (.int j u)) Q E s) :
  OpR X f (rI0 fun i j=>.int (g i j)):=by
 intro pins s σ H x y v u Q I rx ry h;obtain⟨i,j,rfl,rfl,q⟩:=h;obtain⟨t,rfl⟩:=rx;obtain⟨t',rfl⟩:=ry;exact rule i j t t' s _ _ ⟨.int (g i j),H,I.tok _,⟨_,rfl⟩,q⟩
theorem yjx{f:Value->Value->Sem Value}{g:Int->Int->Bool}
  (rule:∀ (i j:Int) (t u:Tok) (s:Shared) (Q:Value->Shared->Prop) (E:Value->Shared->Prop),Q (.bool (g i j)) s->wpAny (model X.prog X.w) X.A (f (.int i t) (.int j u)) Q E s) :
  OpR X f (rI0 fun i j=>.bl (g i j)):=by
 intro pins s σ H x y v u Q I rx ry h;obtain⟨i,j,rfl,rfl,q⟩:=h;obtain⟨t,rfl⟩:=rx;obtain⟨t',rfl⟩:=ry;exact rule i j t t' s _ _ ⟨.bl (g i j),H,I,rfl,q⟩
def ygu(i j:Int):Prop:=0<j/\j<1073741824
def ygw(i j:Int):Prop:=0<=j/\j<=1000000/\i.natAbs<2 ^ 64
def ygv(i j:Int):Prop:=(-(2 ^ 64)<i/\i<2 ^ 64)\/(-(2 ^ 64)<j/\j<2 ^ 64)
theorem ygv.ok{i j:Int}(h:ygv i j):IntMulOk i j:=by
 rcases h with⟨h1,h2⟩|⟨h1,h2⟩
 ·exact .of_left (intBits_le_64 h1 h2)
 ·exact .of_right (intBits_le_64 h1 h2)
theorem zzj:OpR X (binaryOp .Add) (rI0 fun i j=>.int (i+j)):=yjy fun _ _ _ _ _ _ _ q=>add_int q
theorem zzt:OpR X (binaryOp .Sub) (rI0 fun i j=>.int (i - j)):=yjy fun _ _ _ _ _ _ _ q=>sub_int q
theorem zzq:OpR X (binaryOp .Mult) (rI ygv fun i j=>.int (i * j)):=opI fun _ _ _ _ _ _ _ hc q=>mul_int q hc.ok
theorem zsg:OpR X (binaryOp .FloorDiv) (rI ygu fun i j=>.int (i / j)):=opI fun i j _ _ _ _ _ hc q=>by
 have h1:(0:Int)<j:=hc.1;have h2:j<1073741824:=hc.2;exact floordiv_int (by omega) (by rw[Int.fdiv_eq_ediv_of_nonneg i (by omega)];exact q) (.inl (PyProof.noPylong_small (by omega)))
theorem zzp:OpR X (binaryOp .Mod) (rI (fun _ j=>0<j) fun i j=>.int (i % j)):=opI fun i j _ _ _ _ _ hc q=>by
 have h1:(0:Int)<j:=hc;exact mod_int' (by omega) (by rw[Int.fmod_eq_emod_of_nonneg i (by omega)];exact q)
theorem zzs:OpR X (binaryOp .Pow) (rI ygw fun i j=>.int (i ^ j.toNat)):=opI fun _ _ _ _ _ _ _ hc q=>pow_int_small hc.1 hc.2.1 hc.2.2 q
end
section
variable{X:Cx}{a b c:Expr}{ta tb tc:TE}{pos:Pos}
theorem zxi{pins:List (Addr × Obj)}{σ:St}{H:Hp}{s:Shared}{Q:VK}{k k':Bool}(I:Inv X pins σ H s)(q:Q (.bl k) H)(e:k=k'):EP X pins σ Q (.bool k') s:=by
 subst e;exact⟨.bl k,H,I,rfl,q⟩
theorem yfe:OpR X (compareOp .Lt) (rI0 fun i j=>.bl (decide (i<j))):=yjx fun _ _ _ _ _ _ _ q=>lt_int q
theorem yfd:OpR X (compareOp .LtE) (rI0 fun i j=>.bl (decide (i<=j))):=yjx fun _ _ _ _ _ _ _ q=>le_int q
theorem yfc:OpR X (compareOp .Gt) (rI0 fun i j=>.bl (decide (j<i))):=yjx fun _ _ _ _ _ _ _ q=>gt_int q
theorem yfb:OpR X (compareOp .GtE) (rI0 fun i j=>.bl (decide (j<=i))):=yjx fun _ _ _ _ _ _ _ q=>ge_int q
theorem zzo:OpR X (compareOp .Is) (fun x y H Q=>y=.non/\Q (.bl (decide (x=.non))) H):=by
 intro pins s σ H x y v u Q I rx ry h;obtain⟨rfl,q⟩:=h;cases ry;refine is_none_gen (zxi I q ?_);cases x<;>first
  |(cases rx;rfl)
  |(obtain⟨t,rfl⟩:=rx;rfl)
theorem zsh:OpR X (compareOp .IsNot) (fun x y H Q=>y=.non/\Q (.bl (!decide (x=.non))) H):=by
 intro pins s σ H x y v u Q I rx ry h;obtain⟨rfl,q⟩:=h;cases ry;refine isnot_none_gen (zxi I q ?_);cases x<;>first
  |(cases rx;rfl)
  |(obtain⟨t,rfl⟩:=rx;rfl)
theorem OpR.or{f:Value->Value->Sem Value}{r r':R2}(h:OpR X f r)(h':OpR X f r'):OpR X f (fun x y H Q=>r x y H Q\/r' x y H Q):=by
 intro pins s σ H x y v u Q I rx ry q;rcases q with q|q
 ·exact h pins s σ H x y v u Q I rx ry q
 ·exact h' pins s σ H x y v u Q I rx ry q
theorem zy5(b:Expr){op:CmpOp}(h:op≠.In:=by decide)(h2:op≠.NotIn:=by decide):behindInMarks op b=false:=by
 have e1:(op == CmpOp.In)=false:=by cases op<;>first|rfl|exact absurd rfl h
 have e2:(op == CmpOp.NotIn)=false:=by cases op<;>first|rfl|exact absurd rfl h2
 cases b<;>simp[behindInMarks,e1,e2]
theorem zsl{op:CmpOp}{r:R2}(ho:OpR X (compareOp op) r)(ha:PE X a ta)(hb:PE X b tb)(hm:behindInMarks op b=false):PE X (.Compare a [op] [b] pos) (tOp r ta tb):=by
 intro pins s σ H Q I h;exact wpAny_Compare1 (yhz ha hb I h fun v u s2 x y H2 I2 rx ry q=>ho pins s2 σ H2 x y v u Q I2 rx ry q) hm
def ygf(t:TE):TT:=fun σ H Q=>t σ H fun x H'=>∃ k,x=.bl k/\Q k H'
theorem zsx{op:CmpOp}{r:R2}(ho:OpR X (compareOp op) r)(ha:PE X a ta)(hb:PE X b tb)(hm:behindInMarks op b=false):PT X (.Compare a [op] [b] pos) (ygf (tOp r ta tb)):=by
 intro pins s σ H Q I h;refine wpAny_isTrue_Compare1 (thn (ha pins s σ H _ I h) fun v s1 ⟨x,H1,I1,r1,q1⟩=>thn (hb pins s1 σ H1 _ I1 q1) fun u s2 ⟨y,H2,I2,r2,q2⟩=>
  thn (ho pins s2 σ H2 x y v u _ I2 r1 r2 q2) fun c s3 ⟨z,H3,I3,r3,k,e,q3⟩=>?_) hm
 subst e;cases r3;exact wpAny_truthy_bool ⟨H3,I3,q3⟩
def ybj(r r':R2)(ta tb tc:TE):TE:=fun σ H Q=>ta σ H fun x H1=>tb σ H1 fun y H2=>r x y H2 fun z H3=>∃ k,z=.bl k/\
 (if k=true then tc σ H3 fun w' H4=>r' y w' H4 Q else Q (.bl false) H3)
theorem zl5{op op':CmpOp}{r r':R2}(ho:OpR X (compareOp op) r)(ho':OpR X (compareOp op') r')(ha:PE X a ta)(hb:PE X b tb)(hc:PE X c tc)
  (hm:lastMarks [op,op'] [b,c]=false:=by with_unfolding_all rfl):PT X (.Compare a [op,op'] [b,c] pos) (ygf (ybj r r' ta tb tc)):=by
 intro pins s σ H Q I h;refine isTrue_chain (thn (ha pins s σ H _ I h) fun v s1 ⟨x,H1,I1,r1,q1⟩=>test_link (thn (hb pins s1 σ H1 _ I1 q1) fun u s2 ⟨y,H2,I2,r2,q2⟩=>
  thn (ho pins s2 σ H2 x y v u _ I2 r1 r2 q2) fun d s3 ⟨z,H3,I3,r3,k,e,q3⟩=>?_)) hm
 subst e;cases r3;refine wpAny_truthy_bool ?_;cases k with
 |false=>
  obtain⟨k',e',q'⟩:=q3;cases e';exact ite_ff ⟨H3,I3,q'⟩
 |true=>
  refine ite_tt (test_last (thn (hc pins s3 σ H3 _ I3 q3) fun w' s4 ⟨z',H4,I4,r4,q4⟩=>thn (ho' pins s4 σ H4 y z' u w' _ I4 r2 r4 q4) fun d' s5 ⟨z2,H5,I5,r5,k2,e2,q5⟩=>?_));subst e2;cases r5;exact wpAny_truthy_bool ⟨H5,I5,q5⟩
theorem zyw:(sizeLine:Nat)<2 ^ 63:=by rw[sizeLine_eq];decide
theorem zew:OpR X (binaryOp .Add) (fun x y H Q=>∃ i j,x=.str i/\y=.str j/\i.length+j.length<=sizeLine/\Q (.str (i++j)) H):=by
 intro pins s σ H x y v u Q I rx ry h;obtain⟨i,j,rfl,rfl,hz,q⟩:=h;obtain⟨t,rfl⟩:=rx;obtain⟨t',rfl⟩:=ry;exact add_str (fun t' tk=>⟨.str (i++j),H,I.tok _,⟨_,rfl⟩,q⟩) hz
theorem ygm{x:V}{us:List Value}(r:yho [x] us):∃ u,us=[u]/\yhe x u:=by
 cases r with
 |cons r1 r2=>cases r2;exact⟨_,rfl,r1⟩
theorem ygn{x y:V}{us:List Value}(r:yho [x,y] us):∃ u w',us=[u,w']/\yhe x u/\yhe y w':=by
 cases r with
 |cons r1 r2=>
  cases r2 with
  |cons r3 r4=>cases r4;exact⟨_,_,rfl,r1,r3⟩
theorem zfx(hc:X.calm=true):yb3 X (.builtin "max") (fun xs H Q=>∃ i j,xs=[.int i,.int j]/\Q (.int (if j > i then j else i)) H):=by
 intro pins s σ H xs us Q I r h;obtain⟨i,j,rfl,q⟩:=h;obtain⟨u,w',rfl,⟨t,rfl⟩,⟨t',rfl⟩⟩:=ygn r;refine max_two_ints (I.ok.hd hc) fun h' tk k=>⟨_,H,I.kept k,?_,q⟩
 by_cases hj:j > i
 ·rw[if_pos hj,if_pos hj];exact⟨_,rfl⟩
 ·rw[if_neg hj,if_neg hj];exact⟨_,rfl⟩
theorem zfw:yb3 X (.type "int") (fun xs H Q=>(∃ i,xs=[.int i]/\Q (.int i) H)\/∃ k,xs=[.bl k]/\Q (.int (if k then 1 else 0)) H):=by
 intro pins s σ H xs us Q I r h;rcases h with⟨i,rfl,q⟩|⟨k,rfl,q⟩
 ·obtain⟨u,rfl,t,rfl⟩:=ygm r;exact call_int_int ⟨.int i,H,I,⟨_,rfl⟩,q⟩
 ·obtain⟨u,rfl,r1⟩:=ygm r;cases r1;exact call_int_bool ⟨.int (if k then 1 else 0),H,I.tok _,⟨_,rfl⟩,q⟩
end
end L2
namespace L2
open PySem PySem.Spec PyProof.Rows
structure ObjM(h:Heap)(x dx C:Addr)(mA:Str->Option Value):Prop where
 obj:h.get? x=some (PySem.W.instObj C dx)
 ns:h.Ns1 dx mA
 ne:dx≠x
theorem zgq{h:Heap}{dx:Addr}{mA:Str->Option Value}(n:h.Ns1 dx mA):∃ od,h.get? dx=some od/\∀ name,PySem.W.lookIn name od=some (mA name):=by
 obtain⟨o,es,ep,ho,hd,hk,_,hm⟩:=n;refine⟨o,ho,fun name=>?_⟩;have e:=hm name;unfold nsFind findBy at e;rw[<-Array.find?_toList]at e;unfold PySem.W.lookIn;rw[hd];dsimp only;split
 ·rename_i y q
  rw[q]at e;exact congrArg some e
 ·rename_i q
  rw[q]at e;have a:es.toList.any (·.refKey)=false:=by
   rw[List.any_eq_false];intro y hy;obtain⟨z,t,hkey⟩:=hk y (Array.mem_toList_iff.mp hy);simp[DictEntry.refKey,hkey]
  have a':¬ es.toList.any (·.refKey)=true:=by rw[a];exact Bool.false_ne_true
  rw[if_neg a'];exact congrArg some e
theorem ObjM.look{h:Heap}{x dx C:Addr}{mA:Str->Option Value}(I:ObjM h x dx C mA):∃ od,PySem.W.InstAt h x (PySem.W.instObj C dx) C (some od)/\∀ name,PySem.W.lookIn name od=some (mA name):=
 let ⟨od,ho,hl⟩:=zgq I.ns
 ⟨od,⟨I.obj,rfl,rfl,ho⟩,hl⟩
section
variable{prog:Program}{w:World}{A:Around}{E:Value->Shared->Prop}{s:Shared}{K:PySem.W.Frag}{x dx C f:Addr}{mA:Str->Option Value}{name:Str}{v:Value}
theorem zqh{expr:Bool}{Q:Value->Shared->Prop}(X:K.In s.heap)(I:ObjM s.heap x dx C mA)(hg:PySem.W.plainGet K C name=true)(hh:PySem.W.hasDictIn K C=true)
  (ha:PySem.W.findIn K (.ref C) name=some none) (hv:mA name=some v) (hv':PySem.W.handedIn v=true) (h:Q v { s with toks:=s.toks+1 }) :
  wpAny (model prog w) A (getAttr (.ref x) name expr) Q E s:=by
 obtain⟨od,J,hl⟩:=I.look;exact PySem.W.get_value X J (PySem.W.plainGet_of hg).1 (PySem.W.findObj_own hh ha rfl (by rw[hl,hv])) hv' h
theorem zt3{ns:List Str}{Q:Unit->Shared->Prop}(X:K.In s.heap)(I:ObjM s.heap x dx C mA)
  (hs:PySem.W.findIn K (.ref C) "__setattr__" = some (some (.builtin "object.__setattr__"))) (hp:PySem.W.plainOver K C=true) (ht:PySem.W.takerIn K C name=some none) (hh:PySem.W.hasDictIn K C=true)
  (hw:PySem.Within mA ns) (hsz:ns.length<=sizeLine)
  (h:∀ h',ObjM h' x dx C (fun y=>if y=name then some v else mA y)->Heap.SameBut dx s.heap h'->Q () { s with heap:=h',toks:=s.toks+2 }) :
  wpAny (model prog w) A (setAttr (.ref x) name v) Q E s:=by
 obtain⟨od,J,hl⟩:=I.look;refine PySem.W.set_plain X J hs (PySem.W.osa_open (s:={ s with toks:=s.toks+1 }) (r:=none) X J hp ht fun b=>?_);obtain⟨cd,hc,hd'⟩:=PySem.W.any_some hh;have hx:s.heap.get? x=some ⟨.ref C,some dx,.plain,#[]⟩:=I.obj;refine wpAny_bind (wpAny_pure (wpAny_bind (wpAny_bind (wpAny_loadPart hx (wpAny_bind (PySem.W.Looks.here (s:={ s with toks:=s.toks+1 }) (PySem.W.looks_clsIn X hc) ?_))))));rw[hd'];refine wpAny_pure (a:=some dx) (wpAny_bind (wpAny_pure (wpAny_bind ?_)));refine wpAny_nsSet1 (s:={ s with toks:=s.toks+1 }) I.ns fun h' hn2 hs2=>?_;obtain⟨oD,esD,epD,hoD,hdD,hcD⟩:=hn2.count (PySem.Within.cons name v hw);refine wpAny_bind (wpAny_lookBehind hoD (by rw[hdD];exact pastItsLine_dict (Nat.le_trans hcD (by rw[List.length_cons];omega))) ?_);exact wpAny_pure (h _ ⟨(hs2.2 _ (Ne.symm I.ne)).trans I.obj,hn2,I.ne⟩ hs2)
theorem zk8{R:Result->Shared->Prop}{vs:List Value}{kw:List (Str × Value)}(X:K.In s.heap)(hm:PySem.W.makesIn K C=true)
  (hi:PySem.W.findIn K (.ref C) "__init__" = some (some (.ref f))) (hf:PySem.W.typeIn K (.ref f)=some (.type "function"))
  (h:codeAny (model prog w) (A.under (.builtin "type.__call__" ⟨.ref C::vs,kw⟩)) (.call (.ref f) ⟨.ref (s.heap.objs.size+1)::vs,kw⟩) (PySem.W.InitBack (s.heap.objs.size+1) R)
   { s with heap:=(s.heap.push PySem.W.emptyDict).push (PySem.W.instObj C s.heap.objs.size) }) :
  codeAny (model prog w) A (.call (.ref C) ⟨vs,kw⟩) R s:=by
 obtain⟨hh,g,d,t,os⟩:=s;exact PySem.W.make_core (PySem.W.makes_of X hm) (PySem.W.looks_findIn X hi) (fun self=>PySem.W.bind_fn X self hf) (.inl rfl) h
end
def putF(f:Str)(v:V):List (Str × V)->List (Str × V)
 |[]=>[(f,v)]
 |(g,x)::r=>if g=f then (g,v)::r else (g,x)::putF f v r
theorem zdq(f g:Str)(v:V):∀ fs:List (Str × V),(putF f v fs).lookup g=if g=f then some v else fs.lookup g
 |[]=>by
  show List.lookup g [(f,v)]=_;by_cases h:g=f
  ·have hb:(g == f)=true:=beq_iff_eq.mpr h;simp only[List.lookup,hb,if_pos h]
  ·have hb:(g == f)=false:=beq_eq_false_iff_ne.mpr h;simp only[List.lookup,hb,if_neg h]
 |(k,x)::r=>by
  have ih:=zdq f g v r;rw[show putF f v ((k,x)::r)=(if k=f then (k,v)::r else (k,x)::putF f v r)from rfl];by_cases hk:k=f
  ·rw[if_pos hk];by_cases h:g=k
   ·have hb:(g == k)=true:=beq_iff_eq.mpr h;simp only[List.lookup,hb,if_pos (h.trans hk)]
   ·have hb:(g == k)=false:=beq_eq_false_iff_ne.mpr h;simp only[List.lookup,hb,if_neg (fun e:g=f=>h (e.trans hk.symm))]
  ·rw[if_neg hk];by_cases h:g=k
   ·have hb:(g == k)=true:=beq_iff_eq.mpr h;simp only[List.lookup,hb,if_neg (fun e:g=f=>hk (h.symm.trans e))]
   ·have hb:(g == k)=false:=beq_eq_false_iff_ne.mpr h;simp only[List.lookup,hb];exact ih
theorem zgn(f:Str)(v:V):∀ fs:List (Str × V),f∈(putF f v fs).map (·.1)/\∀ g,g∈fs.map (·.1)->g∈(putF f v fs).map (·.1)
 |[]=>⟨by simp[putF],fun g h=>by simp at h⟩
 |(k,x)::r=>by
  obtain⟨i1,i2⟩:=zgn f v r;rw[show putF f v ((k,x)::r)=(if k=f then (k,v)::r else (k,x)::putF f v r)from rfl];by_cases hk:k=f
  ·rw[if_pos hk];subst hk;exact⟨by simp,fun g h=>by simpa using h⟩
  ·rw[if_neg hk];refine⟨?_,fun g h=>?_⟩
   ·rw[List.map_cons];exact List.mem_cons_of_mem _ i1
   ·rw[List.map_cons]at h ⊢;rcases List.mem_cons.mp h with e|e
    ·exact List.mem_cons.mpr (.inl e)
    ·exact List.mem_cons_of_mem _ (i2 g e)
theorem zdo(f:Str)(v:V):∀ fs:List (Str × V),(putF f v fs).length<=fs.length+1
 |[]=>by simp[putF]
 |(k,x)::r=>by
  have ih:=zdo f v r;rw[show putF f v ((k,x)::r)=(if k=f then (k,v)::r else (k,x)::putF f v r)from rfl];by_cases hk:k=f
  ·rw[if_pos hk,List.length_cons,List.length_cons];omega
  ·rw[if_neg hk,List.length_cons,List.length_cons];omega
theorem yhd.some_of{v:V}{o:Option Value}(r:yhd (some v) o):∃ u,o=some u/\yhe v u:=by
 cases o with
 |none=>exact(show False from r).elim
 |some u=>exact⟨u,rfl,r⟩
theorem zgf{v:V}{u:Value}(r:yhe v u):PySem.W.handedIn u=true:=by
 cases v with
 |non=>cases (show u=Value.none from r);rfl
 |bl b=>cases (show u=Value.bool b from r);rfl
 |int i=>obtain⟨t,e⟩:=(show ∃ t,u=Value.int i t from r);cases e;rfl
 |str x=>obtain⟨t,e⟩:=(show ∃ t,u=Value.str x t from r);cases e;rfl
 |byt b=>obtain⟨t,e⟩:=(show ∃ t,u=Value.bytes b t from r);cases e;rfl
 |flt b=>obtain⟨t,e⟩:=(show ∃ t,u=Value.float b t from r);cases e;rfl
 |ref a=>cases (show u=Value.ref a from r);rfl
 |ty n=>cases (show u=Value.type n from r);rfl
section
variable{P:Program}{w:World}{H H':Hp}{h h':Heap}{a C dx:Addr}{fs fs':List (Str × V)}
theorem zqv(hok:HOk P w H h)(e:H a=some (.ins C dx fs)):∃ mA,ObjM h a dx C mA/\(∀ f,yhd (fs.lookup f) (mA f))/\PySem.Within mA (fs.map (·.1))/\fs.length<=1000/\H dx=some (.own a):=by
 obtain⟨d,z,ne,ob,mA,n,r,q⟩:=(show yb8 P w H h a (.ins C dx fs)from hok a _ e)
 exact⟨mA,⟨ob,n,ne⟩,r,q,z,d⟩
end
structure Cls(K:PySem.W.Frag)(C:Addr):Prop where
 pg:PySem.W.plainGet K C Str.empty=true
 hd:PySem.W.hasDictIn K C=true
 po:PySem.W.plainOver K C=true
 sa:PySem.W.findIn K (.ref C) "__setattr__" = some (some (.builtin "object.__setattr__"))
theorem Cls.get{K:PySem.W.Frag}{C:Addr}(c:Cls K C)(f:Str):PySem.W.plainGet K C f=true:=c.pg
def zvg(K:PySem.W.Frag)(C:Addr)(f:Str):Prop:=PySem.W.findIn K (.ref C) f=some none
theorem zvg.taker{K:PySem.W.Frag}{C:Addr}{f:Str}(n:zvg K C f):PySem.W.takerIn K C f=some none:=by
 unfold PySem.W.takerIn;rw[show PySem.W.findIn K (.ref C) f=some none from n];rfl
structure Con(K:PySem.W.Frag)(C:Addr)(f:Str)(v:V)(u:Value):Prop where
 at_:PySem.W.findIn K (.ref C) f=some (some u)
 rel:yhe v u
 get:PySem.W.specialIn K u "__get__" = some none
 cp:PySem.W.copiedNames.contains f=false
structure Meth(K:PySem.W.Frag)(C:Addr)(m:Str)(f:Addr):Prop where
 at_:PySem.W.findIn K (.ref C) m=some (some (.ref f))
 fn:PySem.W.isFn K (.ref f)=true
 kp:PySem.W.keepIn K (.ref f)=true
section
variable{X:Cx}{pins:List (Addr × Obj)}{σ:St}{H:Hp}{s:Shared}{a C dx:Addr}{fs:List (Str × V)}{f:Str}{v:V}{A:Around}{E:Value->Shared->Prop}
theorem zem{b:Bool}{Q:Value->Shared->Prop}(I:Inv X pins σ H s)(e:H a=some (.ins C dx fs))(c:Cls X.K C)(n:zvg X.K C f)(l:fs.lookup f=some v)
  (h:∀ u s',Inv X pins σ H s'->yhe v u->Q u s'):wpAny (model X.prog X.w) A (getAttr (.ref a) f b) Q E s:=by
 obtain⟨mA,O,r,_,_,_⟩:=zqv I.hok e;obtain⟨u,hu,ru⟩:=yhd.some_of (v:=v) (o:=mA f) (by rw[<-l];exact r f);exact zqh I.kIn O (c.get f) c.hd n hu (zgf ru) (h u _ (I.tok _) ru)
theorem ze8{y:V}{u:Value}{Q:Unit->Shared->Prop}(I:Inv X pins σ H s)(e:H a=some (.ins C dx fs))(c:Cls X.K C)(n:zvg X.K C f)(hl:fs.length<1000)(ry:yhe y u)
  (h:∀ s',Inv X pins σ (upd H a (.ins C dx (putF f y fs))) s'->Q () s'):wpAny (model X.prog X.w) A (setAttr (.ref a) f u) Q E s:=by
 obtain⟨mA,O,r,wi,_,ho⟩:=zqv I.hok e;have hz:(fs.map (·.1)).length<=sizeLine:=by rw[List.length_map,sizeLine_eq];omega
 refine zt3 I.kIn O c.sa c.po n.taker c.hd wi hz fun h' O' sb=>h _ ?_;have hd:∃ o,h'.get? dx=some o:=let ⟨o,_,_,e',_⟩:=O'.ns;⟨o,e'⟩;refine I.write (x:=a) (e:=dx) (by rw[e];exact True.intro) (.inr ho) (fun b q hb z=>(sb.2 b hb).trans z) hd ?_;refine⟨by rw[yby O.ne];exact ho,?_,O.ne,O'.obj,_,O'.ns,fun g=>?_,fun g hg=>?_⟩
 ·have:=zdo f y fs;omega
 ·show yhd ((putF f y fs).lookup g) (if g=f then some u else mA g);rw[zdq];by_cases q:g=f
  ·rw[if_pos q,if_pos q];exact ry
  ·rw[if_neg q,if_neg q];exact r g
 ·by_cases q:g=f
  ·rw[q];exact(zgn f y fs).1
  ·refine(zgn f y fs).2 g (wi g fun z=>hg ?_);show (if g=f then some u else mA g)=none;rw[if_neg q];exact z
theorem Inv.made(I:Inv X pins σ H s):Inv X pins σ (upd (upd H s.heap.objs.size (.own (s.heap.objs.size+1))) (s.heap.objs.size+1) (.ins C s.heap.objs.size []))
  { s with heap:=(s.heap.push PySem.W.emptyDict).push (PySem.W.instObj C s.heap.objs.size) }:=by
 have e1:(s.heap.push PySem.W.emptyDict).get? s.heap.objs.size=some PySem.W.emptyDict:=Heap.get?_push_size s.heap rfl;have e2:((s.heap.push PySem.W.emptyDict).push (PySem.W.instObj C s.heap.objs.size)).get? (s.heap.objs.size+1)=some (PySem.W.instObj C s.heap.objs.size):=by
  have:=Heap.get?_push_size (s.heap.push PySem.W.emptyDict) (o:=PySem.W.instObj C s.heap.objs.size) rfl
  rwa [Heap.size_push]at this
 have e3:(s.heap.push PySem.W.emptyDict).Ns s.heap.objs.size (fun _=>none):=⟨PySem.W.emptyDict,#[],_,e1,rfl,(fun e he=>absurd he (by simp)),fun _=>rfl⟩
 have I1:=I.laid (a:=s.heap.objs.size) (o:=.own (s.heap.objs.size+1)) (h':=s.heap.push PySem.W.emptyDict) (t':=s.toks) (fun b u q=>Heap.get?_push_of_some _ q) (Nat.le_refl _) ⟨_,e1⟩;refine I1.laid (a:=s.heap.objs.size+1) (o:=.ins C s.heap.objs.size []) (t':=s.toks) (fun b u q=>Heap.get?_push_of_some _ q) (Nat.le_of_eq (Heap.size_push _ _)) ?_;have ne:s.heap.objs.size≠s.heap.objs.size+1:=Nat.ne_of_lt (Nat.lt_succ_self _);refine⟨by rw[yby ne,zne],Nat.zero_le _,ne,e2,fun _=>none,(Heap.Ns1.of_empty e3).at fun o q=>Heap.get?_push_of_some _ q,fun _=>True.intro,fun y hy=>absurd rfl hy⟩
theorem zn8{prog:Program}{w:World}{env:Env}{e:Expr}{f:Str}{pos:Pos}{s:Shared}{Q:Value->Shared->Prop}(hb:attributeBase e f env (eval e env)=eval e env)
  (h:wpAny (model prog w) A (eval e env) (fun o s₁=>wpAny (model prog w) A (getAttr o f true) Q E s₁) E s):wpAny (model prog w) A (eval (.Attribute e f pos) env) Q E s:=
 Attribute_any_ h (by rw[arm_eval_Attribute,hb])
end
def yk6(K:PySem.W.Frag)(ta:TE)(f:Str):TE:=fun σ H Q=>ta σ H fun x H1=>∃ a C dx fs v,x=.ref a/\H1 a=some (.ins C dx fs)/\Cls K C/\zvg K C f/\fs.lookup f=some v/\Q v H1
def ykl(K:PySem.W.Frag)(ta tv:TE)(f:Str):TS:=fun D σ H=>tv σ H fun y H1=>ta σ H1 fun x H2=>∃ a C dx fs,x=.ref a/\H2 a=some (.ins C dx fs)/\Cls K C/\zvg K C f/\fs.length<1000/\
 D.nx σ (upd H2 a (.ins C dx (putF f y fs)))
section
variable{X:Cx}{o e value:Expr}{f:Str}{pos pos' tpos:Pos}{ta tv:TE}
theorem zzx(he:PE X e ta)(hb:attributeBase e f X.env (eval e X.env)=eval e X.env):PE X (.Attribute e f pos) (yk6 X.K ta f):=by
 intro pins s σ H Q I h;refine zn8 hb (thn (he pins s σ H _ I h) fun u s1 ⟨x,H1,I1,rx,a,C,dx,fs,v,ex,ea,c,n,l,q⟩=>?_);subst ex;obtain rfl:u=Value.ref a:=rx;exact zem I1 ea c n l fun u' s2 I2 ru=>⟨v,H1,I2,ru,q⟩
theorem yaf(ha:PE X o ta)(hv:PE X value tv)(hs:swapsWith value (some (.Attribute o f pos')) pos.line X.env=pure false):PS X (.Assign [.Attribute o f pos'] value pos) (ykl X.K ta tv f):=by
 intro pins s σ H D I h;refine plainObj_wpAny_Assign_Attribute (thn (hv pins s σ H _ I h) fun u s1 ⟨y,H1,I1,ry,q⟩=>thn (ha pins s1 σ H1 _ I1 q) fun ov s2 ⟨x,H2,I2,rx,a,C,dx,fs,ex,ea,c,n,l,q2⟩=>?_) hs;subst ex;obtain rfl:ov=Value.ref a:=rx;exact ze8 I2 ea c n l ry fun s3 I3=>⟨σ,_,I3,q2⟩
end
section
variable{X:Cx}{pins:List (Addr × Obj)}{σ:St}{H:Hp}{s:Shared}{A:Around}{E:Value->Shared->Prop}{Q:Value->Shared->Prop}{c:Value}{b:Bool}
inductive TyOf(K:PySem.W.Frag)(H:Hp):V->Value->Prop where
 |non:TyOf K H .non (.type "NoneType")
 |bl (x:Bool):TyOf K H (.bl x) (.type "bool")
 |int (i:Int):TyOf K H (.int i) (.type "int")
 |str (x:Str):TyOf K H (.str x) (.type "str")
 |flt (x:UInt64):TyOf K H (.flt x) (.type "float")
 |lst {a:Addr} {xs:List V} (e:H a=some (.lst xs)):TyOf K H (.ref a) (.type "list")
 |frz {a:Addr} {o:Obj} {xs:List V} (e:H a=some (.frz o (.lst xs))):TyOf K H (.ref a) (.type "list")
 |tup {a:Addr} {xs:List V} (e:H a=some (.tup xs)):TyOf K H (.ref a) (.type "tuple")
 |dK {a:Addr} {kvs:List (Key × V)} (e:H a=some (.dK kvs)):TyOf K H (.ref a) (.type "dict")
 |dT {a:Addr} {kvs:List (List Key × V)} (e:H a=some (.dT kvs)):TyOf K H (.ref a) (.type "dict")
 |ins {a C dx:Addr} {fs:List (Str × V)} (e:H a=some (.ins C dx fs)) (cl:Cls K C) (ha:PySem.W.findIn K (.ref C) "__class__" = some (some (.builtin "object.__class__")))
   (hn:PySem.W.specialIn K (.builtin "object.__class__") "__get__" = some (some (.builtin "getset_descriptor.__get__"))) (htk:PySem.W.takesIn K (.builtin "object.__class__")=some true)
   (hm:PySem.W.mroIn K C (.type "object")=some true):TyOf K H (.ref a) (.ref C)
end
end L2
namespace L2
open PySem PySem.Spec PyProof.Rows
structure Room(k:Nat)(A:Around):Prop where
 hd:A.handled=none
 dp:A.depth+3 * k+5<recursionLimit
 un:A.units+16 * k+200<cLine
theorem Room.mono{j k:Nat}{A:Around}(r:Room k A)(h:j<=k):Room j A:=⟨r.hd,by have:=r.dp;omega,by have:=r.un;omega⟩
theorem Room.deeper{k:Nat}{A:Around}(r:Room (k+1) A)(env:Env):Room k (A.deeper env):=
 ⟨r.hd,by have:=r.dp;show A.depth+1+3 * k+5<_;omega,by have:=r.un;show A.units+3+16 * k+200<_;omega⟩
theorem Room.in1{k:Nat}{A:Around}(r:Room (k+1) A):Room k A.in1:=
 ⟨r.hd,by have:=r.dp;show A.depth+3 * k+5<_;omega,by have:=r.un;show A.units+1+16 * k+200<_;omega⟩
theorem zes{A:Around}{C:Addr}{us:List Value}{kw:List (Str × Value)}:(A.under (.builtin "type.__call__" ⟨.ref C::us,kw⟩)).depth=A.depth+1:=by
 first|rfl|simp[Around.under,Code.weight,Code.isCreation,Code.isGuard,Code.isCaller,Code.frames,Code.isFrame,guardIds]
theorem zet{A:Around}{C:Addr}{us:List Value}{kw:List (Str × Value)}:(A.under (.builtin "type.__call__" ⟨.ref C::us,kw⟩)).units=A.units+1:=by
 first|rfl|simp[Around.under,Code.cUnits,Code.frames,Code.isFrame]
theorem Room.make{k:Nat}{A:Around}(r:Room (k+1) A)(C:Addr)(us:List Value)(kw:List (Str × Value)):Room k (A.under (.builtin "type.__call__" ⟨.ref C::us,kw⟩)):=
 ⟨r.hd,by have:=r.dp;rw[zes];omega,by have:=r.un;rw[zet];omega⟩
theorem Room.depth{k:Nat}{A:Around}(r:Room k A):A.depth<recursionLimit:=by have:=r.dp;omega
theorem Room.units{k:Nat}{A:Around}(r:Room k A):A.units+64<cLine:=by have:=r.un;omega
def yla:TA:=fun _ H Q=>Q [] H
def yga(ta:TE)(tr:TA):TA:=fun σ H Q=>ta σ H fun x H1=>tr σ H1 fun xs H2=>Q (x::xs) H2
section
variable{X:Cx}{e:Expr}{es:List Expr}{te:TE}{t:TA}{pos:Pos}
theorem zzu:PA X [] yla:=fun _ _ _ _ H Q I h=>Calls.spliced_nil ⟨[],H,I,.nil,h⟩
theorem zsi(ha:PE X e te)(hr:PA X es t)(hs:starEach (e::es) X.env=(false,eval e X.env)::starEach es X.env:=by rfl):PA X (e::es) (yga te t):=by
 intro pos pins s σ H Q I h;rw[hs];show wpAny _ _ (spliced ((false,eval e X.env)::backTo pos (starEach es X.env))) _ _ s;refine Calls.spliced_cons (thn (ha pins s σ H _ I h) fun u s1 ⟨x,H1,I1,r1,q1⟩=>?_);exact thn (hr pos pins s1 σ H1 _ I1 q1) fun us s2 ⟨xs,H2,I2,r2,q2⟩=>⟨x::xs,H2,I2,.cons r1 r2,q2⟩
def ylf(t:TA):TE:=fun σ H Q=>t σ H fun xs H1=>xs.length<=sizeLine/\∀ p,H1 p=none->Q (.ref p) (upd H1 p (.tup xs))
def yk9(t:TA):TE:=fun σ H Q=>t σ H fun xs H1=>xs.length<=sizeLine/\∀ p,H1 p=none->Q (.ref p) (upd H1 p (.lst xs))
theorem zz3{x1}(h:PA X es t):PE X (.Tuple es x1 pos) (ylf t):=by
 intro pins s σ H Q I hq;refine wpAny_Tuple_spliced (thn (h pos pins s σ H _ I hq) fun us s1 ⟨xs,H1,I1,r,z,q⟩=>⟨by rw[<-r.length];exact z,?_⟩);have hf:H1 s1.heap.objs.size=none:=I1.hok.fresh (Nat.le_refl _);refine⟨.ref s1.heap.objs.size,upd H1 s1.heap.objs.size (.tup xs),I1.laid (t':=s1.toks) (fun b u e=>Heap.get?_push_of_some _ e) (Nat.le_refl _) ?_,rfl,q _ hf⟩;exact⟨z,us,r,⟨_,Heap.get?_push_size _ rfl,rfl,_,rfl⟩⟩
theorem zzz(h:PA X es t):PE X (.List es pos) (yk9 t):=by
 intro pins s σ H Q I hq;refine wpAny_List_spliced (thn (h pos pins s σ H _ I hq) fun us s1 ⟨xs,H1,I1,r,z,q⟩=>⟨by rw[<-r.length];exact z,?_⟩);have hf:H1 s1.heap.objs.size=none:=I1.hok.fresh (Nat.le_refl _);refine⟨.ref s1.heap.objs.size,upd H1 s1.heap.objs.size (.lst xs),I1.laid (t':=s1.toks) (fun b u e=>Heap.get?_push_of_some _ e) (Nat.le_refl _) ?_,rfl,q _ hf⟩;exact⟨z,us,0,r,Heap.get?_push_size _ rfl⟩
end
abbrev Sp:=List V->Hp->VK->XK->Prop
abbrev CXT:=List Env->Hp->Shared->XK->Value->Shared->Prop
structure Env0(P:Program)(w:World)(K:PySem.W.Frag)(mg:Str->Option Value)(base:Heap)(A:Around)(outer:List Env)(s:Shared)(H:Hp):Prop where
 frames:A.frames=some outer
 mod:Mod K mg base
 bs:∀ b o,base.get? b=some o->s.heap.get? b=some o/\H b=none
 bsz:base.objs.size<=s.heap.objs.size
 funs:s.heap.FunFrames base outer
 frf:∀ b∈frs outer,H b=none
 hok:HOk P w H s.heap
 bare:AllBare s.gens
def CE(outer:List Env)(P:Program)(w:World)(H:Hp)(s:Shared)(Q:VK)(u:Value)(s':Shared):Prop:=
 ∃ v H',s'.os=s.os/\AllBare s'.gens/\Un (frs outer) [] H H' s.heap s'.heap/\HOk P w H' s'.heap/\yhe v u/\Q v H'
def CR(CX:CXT)(outer:List Env)(P:Program)(w:World)(H:Hp)(s:Shared)(Q:VK)(E:XK)(r:Result)(s':Shared):Prop:=
 match r with
 | .ok (.ret u)=>CE outer P w H s Q u s'
 | .ok _=>False
 | .error e=>CX outer H s E e s'
structure FnOk(P:Program)(w:World)(K:PySem.W.Frag)(mg:Str->Option Value)(base:Heap)(CX:CXT)(k:Nat)(f:Addr)(fd:FuncData)(ps:List Str)(sp:Sp):Prop where
 len:∀ vs H Q E,sp vs H Q E->vs.length=ps.length
 run:∀ (A:Around) (outer:List Env) (s:Shared) (H:Hp) (args:Args) (us:List Value) (vs:List V) (Q:VK) (E:XK),Room k A->Env0 P w K mg base A outer s H->BindsTo s fd args (ps.zip us)->yho vs us->sp vs H Q E->
  codeAny (model P w) A (.call (.ref f) args) (CR CX outer P w H s Q E) s
theorem FnOk.mono{P:Program}{w:World}{K:PySem.W.Frag}{mg:Str->Option Value}{base:Heap}{CX:CXT}{j k:Nat}{f:Addr}{fd:FuncData}{ps:List Str}{sp:Sp}(F:FnOk P w K mg base CX j f fd ps sp)(h:j<=k) :
  FnOk P w K mg base CX k f fd ps sp:=⟨F.len,fun A outer s H args us vs Q E hr=>F.run A outer s H args us vs Q E (hr.mono h)⟩
theorem FnOk.imp{P:Program}{w:World}{K:PySem.W.Frag}{mg:Str->Option Value}{base:Heap}{CX:CXT}{k:Nat}{f:Addr}{fd:FuncData}{ps:List Str}{sp sp':Sp}(F:FnOk P w K mg base CX k f fd ps sp)
  (h:∀ vs H Q E,sp' vs H Q E->sp vs H Q E):FnOk P w K mg base CX k f fd ps sp':=
 ⟨fun vs H Q E q=>F.len vs H Q E (h _ _ _ _ q),fun A outer s H args us vs Q E hr he hb hv hs=>F.run A outer s H args us vs Q E hr he hb hv (h _ _ _ _ hs)⟩
theorem Env0.make{P:Program}{w:World}{K:PySem.W.Frag}{mg:Str->Option Value}{base:Heap}{A:Around}{outer:List Env}{s:Shared}{H:Hp}(e:Env0 P w K mg base A outer s H)(C:Addr)(us:List Value)(kw:List (Str × Value)) :
  Env0 P w K mg base (A.under (.builtin "type.__call__" ⟨.ref C::us,kw⟩)) outer s H:=⟨by first|exact e.frames|(simpa [Around.under,Code.envs,Code.isFrame,pushEnvs]using e.frames),e.mod,e.bs,e.bsz,e.funs,e.frf,e.hok,e.bare⟩
theorem Env0.in1{P:Program}{w:World}{K:PySem.W.Frag}{mg:Str->Option Value}{base:Heap}{A:Around}{outer:List Env}{s:Shared}{H:Hp}(e:Env0 P w K mg base A outer s H) :
  Env0 P w K mg base A.in1 outer s H:=⟨e.frames,e.mod,e.bs,e.bsz,e.funs,e.frf,e.hok,e.bare⟩
section
variable{X:Cx}{pins:List (Addr × Obj)}{σ:St}{H:Hp}{s s':Shared}
theorem Inv.env0(I:Inv X pins σ H s):Env0 X.prog X.w X.K X.mg X.base X.A X.stack s H:=
 ⟨I.ok.frames,I.ok.mod,I.bs,Nat.le_trans I.ok.bsz I.sz,I.stack,I.stkFree,I.hok,I.bare⟩
theorem Inv.after{Q:VK}{u:Value}(I:Inv X pins σ H s)(h:CE X.stack X.prog X.w H s Q u s'):EP X pins σ Q u s':=by
 obtain⟨v,H',os,bare,un,hok,r,q⟩:=h;obtain⟨hh,g,d,t,os'⟩:=s';obtain rfl:os'=s.os:=os;exact⟨v,H',I.call (h':=hh) (g':=g) (d':=d) (t':=t) (ch:=[]) un hok bare (fun b z=>absurd z (by simp)),r,q⟩
end
def yb1(K:PySem.W.Frag)(fd:FuncData)(ps:List Str)(ds:List Value):Prop:=
 ∀ (s:Shared) (us:List Value),K.In s.heap->(us++ds).length=ps.length->BindsTo s fd ⟨us,[]⟩ (ps.zip (us++ds))
theorem yb1.all{K:PySem.W.Frag}{fd:FuncData}{ps:List Str}(h:∀ us:List Value,us.length=ps.length->bindArgs fd ⟨us,[]⟩=pure (ps.zip us)):yb1 K fd ps []:=fun s us _ hl=>by
 rw[List.append_nil]at hl ⊢;exact .of_eq (h us hl)
section
variable{X:Cx}{CX:CXT}{k:Nat}{f C:Addr}{fd:FuncData}{ps:List Str}{sp:Sp}{dvs:List V}{ds:List Value}{E:XK}{x m:Str}{p pos apos:Pos}{e o:Expr}{es:List Expr}{ta:TE}{t:TA}
structure Mk(K:PySem.W.Frag)(C f:Addr):Prop where
 makes:PySem.W.makesIn K C=true
 init:PySem.W.findIn K (.ref C) "__init__" = some (some (.ref f))
 fn:PySem.W.isFn K (.ref f)=true
 kp:PySem.W.keepIn K (.ref C)=true
end
section
variable{X:Cx}{CX:CXT}{k:Nat}{f C:Addr}{fd:FuncData}{ps ks:List Str}{sp:Sp}{E:XK}{x m:Str}{p pos apos kpos:Pos}{e o:Expr}{es:List Expr}{kws:List Keyword}{te ta:TE}{t tk:TA}{nm:Option Str}
structure KBinds(K:PySem.W.Frag)(fd:FuncData)(ps ks:List Str)(g:List Value->List Value->List Value)(gV:List V->List V->List V):Prop where
 to:∀ (s:Shared) (us ws:List Value),K.In s.heap->(g us ws).length=ps.length->BindsTo s fd ⟨us,ks.zip ws⟩ (ps.zip (g us ws))
 rel:∀ {vs:List V} {us:List Value} {zs:List V} {ws:List Value},yho vs us->yho zs ws->yho (gV vs zs) (g us ws)
variable{g:List Value->List Value->List Value}{gV:List V->List V->List V}
end
structure FnScope(N P:List Str)(sc:Scope):Prop where
 kind:sc.kind=.function
 co:sc.isCoroutine=false
 gen:sc.isGenerator=false
 nd:N.Nodup
 pre:N.take P.length=P
 par:∀ x∈P,sc.names.lookup x=some .local\/sc.names.lookup x=some .cell
 nofree:∀ y∈sc.names,y.2≠.free
theorem zfs{kindOf:Str->Option NameKind}{x:Str}:∀ {binds:List (Str × Value)} {m:Str->Option Value},(∀ v,(x,v) ∉ binds)->bindL kindOf binds m x=m x
 |[],_,_=>rfl
 |(n,v)::r,m,h=>by
  unfold bindL;rw[zfs fun w hw=>h w (List.mem_cons_of_mem _ hw)];split
  ·have:x≠n:=by rintro rfl;exact h v List.mem_cons_self
   simp[this]
  ·rfl
theorem zfq{kindOf:Str->Option NameKind}{x:Str}:∀ {binds:List (Str × Value)} {m:Str->Option Value},(∀ v,(x,v) ∉ binds)->bindC kindOf binds m x=m x
 |[],_,_=>rfl
 |(n,v)::r,m,h=>by
  unfold bindC;rw[zfq fun w hw=>h w (List.mem_cons_of_mem _ hw)];split
  ·rfl
  ·have:x≠n:=by rintro rfl;exact h v List.mem_cons_self
   simp[this]
theorem zfr{kindOf:Str->Option NameKind}{x:Str}{v:Value}:∀ {P:List Str} {vs:List Value} {i:Nat} {m:Str->Option Value},P.Nodup->P[i]?=some x->vs[i]?=some v->kindOf x=some .local->
  bindL kindOf (P.zip vs) m x=some v
 |[],_,_,_,_,h,_,_=>by simp at h
 |_::_,[],_,_,_,_,h,_=>by simp at h
 |p::P,w::vs,0,m,nd,h1,h2,hk=>by
  simp at h1 h2;subst h1;subst h2;show bindL kindOf ((p,w)::P.zip vs) m p=_;unfold bindL;rw[zfs fun v hv=>(List.nodup_cons.mp nd).1 (List.of_mem_zip hv).1,if_pos hk];simp
 |p::P,w::vs,i+1,m,nd,h1,h2,hk=>by
  show bindL kindOf ((p,w)::P.zip vs) m x=_;unfold bindL;exact zfr (i:=i) (List.nodup_cons.mp nd).2 (by simpa using h1) (by simpa using h2) hk
theorem zfp{kindOf:Str->Option NameKind}{x:Str}{v:Value}:∀ {P:List Str} {vs:List Value} {i:Nat} {m:Str->Option Value},P.Nodup->P[i]?=some x->vs[i]?=some v->kindOf x≠some .local->
  bindC kindOf (P.zip vs) m x=some v
 |[],_,_,_,_,h,_,_=>by simp at h
 |_::_,[],_,_,_,_,h,_=>by simp at h
 |p::P,w::vs,0,m,nd,h1,h2,hk=>by
  simp at h1 h2;subst h1;subst h2;show bindC kindOf ((p,w)::P.zip vs) m p=_;unfold bindC;rw[zfq fun v hv=>(List.nodup_cons.mp nd).1 (List.of_mem_zip hv).1,if_neg hk];simp
 |p::P,w::vs,i+1,m,nd,h1,h2,hk=>by
  show bindC kindOf ((p,w)::P.zip vs) m x=_;unfold bindC;exact zfp (i:=i) (List.nodup_cons.mp nd).2 (by simpa using h1) (by simpa using h2) hk
def yf8(N:List Str)(vs:List V):St:=vs.map some++List.replicate (N.length - vs.length) none
def yh9(CX:CXT)(P:Program)(w:World)(K:PySem.W.Frag)(mg:Str->Option Value)(base:Heap)(N:List Str)(qual:Str)(scope:Scope)(f:Addr)(cd:Value)(A:Around)(outer:List Env)(s:Shared)(H:Hp)(E:XK):Cx where
 prog:=P
 w:=w
 K:=K
 mg:=mg
 base:=base
 A:=A.deeper (envOfC qual scope s.heap.objs.size f cd)
 N:=N
 s₀:=s
 H₀:=H
 env:=envOfC qual scope s.heap.objs.size f cd
 outer:=outer
 stack:=envOfC qual scope s.heap.objs.size f cd::outer
 ex:=[]
 calm:=true
 fn:=fun _=>true
 pn:=[]
 xe:=fun e s'=>wpAny (model P w) (A.deeper (envOfC qual scope s.heap.objs.size f cd)) (leaving (envOfC qual scope s.heap.objs.size f cd) e) (fun _ s''=>CX outer H s E e s'') (fun e' s''=>CX outer H s E e' s'') s'
theorem zin{sc:Scope}{n:Nat}{x:Str}(h:sc.names.lookup x=some .cell):∃ c,(cellsFrom n sc.names []).lookup x=some c:=by
 have q:=PySem.W.cellsFrom_some sc.names n [] (.inl h);exact Option.isSome_iff_exists.mp q
theorem zgi{CX:CXT}{P:Program}{w:World}{K:PySem.W.Frag}{mg:Str->Option Value}{base:Heap}{N ps:List Str}{qual:Str}{scope:Scope}{f:Addr}{cd:Value}{A:Around}{outer:List Env}{s s1:Shared}{H:Hp}{E:XK}{us:List Value}{vs:List V}
  (S:FnScope N ps scope) (hd:A.handled=none) (e0:Env0 P w K mg base A outer s H) (hl:vs.length=ps.length) (r:yho vs us)
  (x:InCallC s s.heap.objs.size (bindL (envOfC qual scope s.heap.objs.size f cd).kindOf (ps.zip us) fun _=>none) (cellsFrom (s.heap.objs.size+1) scope.names []) (bindC (envOfC qual scope s.heap.objs.size f cd).kindOf (ps.zip us) fun _=>none) s1) :
  Inv (yh9 CX P w K mg base N qual scope f cd A outer s H E) [] (yf8 N vs) H s1:=by
 have hpl:ps.length<=N.length:=by have:=congrArg List.length S.pre;rw[List.length_take]at this;omega
 obtain⟨h1,tk,rfl,hk⟩:=x.done;have noA:∀ b:Addr,b ∉ (yh9 CX P w K mg base N qual scope f cd A outer s H E).ex:=fun b z=>absurd (show b∈([]:List Addr)from z) (by simp);refine⟨⟨e0.mod,S.kind,rfl,rfl,Nat.le_refl _,fun y z c h1 h2=>?_,fun y hy=>?_,fun y c _ h=>?_,fun _=>hd,Around.frames_deeper e0.frames,.inr ⟨rfl,rfl⟩,fun b z=>absurd z (noA b),e0.bs,e0.bsz,fun b _ _=>noA b,fun b z=>absurd z (noA b),e0.funs,e0.frf⟩,
  rfl,e0.bare,Un.kept hk,⟨_,x.toInCall.ns,fun i y v h1 h2 h3=>?_⟩,fun y c h=>⟨_,x.cell y c h⟩,e0.hok.fresh (Nat.le_refl _),fun y c h=>?_,fun p hp=>absurd (show p∈([]:List (Addr × Obj))from hp) (by simp),e0.hok.kept hk,?_⟩
 ·exact name_of_addr x.apart (PySem.mem_of_lookup h1) (PySem.mem_of_lookup h2)
 ·have hy:scope.names.lookup y=some .cell\/scope.names.lookup y=some .free:=hy;rcases hy with hy|hy
  ·exact zin hy
  ·exact absurd rfl (S.nofree _ (PySem.mem_of_lookup hy))
 ·exact Nat.le_of_lt (x.above y c (PySem.mem_of_lookup h))
 ·have hi:i<vs.length:=by
   unfold yf8 at h2;by_cases hi:i<vs.length
   ·exact hi
   ·rw[List.getElem?_append_right (by simpa using hi)]at h2;rw[List.getElem?_replicate]at h2;split at h2<;>cases h2
  have ha:vs[i]?=some v:=by
   unfold yf8 at h2;rw[List.getElem?_append_left (by simpa using hi),List.getElem?_map]at h2;cases e:vs[i]? with
   |none=>rw[e]at h2;cases h2
   |some a=>rw[e]at h2;cases h2;rfl
  obtain⟨u,hu,rv⟩:=r.get ha;have hp:ps[i]?=some y:=by
   rw[<-S.pre,List.getElem?_take_of_lt (by omega)];exact h1
  have ndP:ps.Nodup:=by rw[<-S.pre];exact S.nd.sublist (List.take_sublist _ _)
  refine⟨u,rv,?_⟩;rcases S.par y (List.mem_of_getElem? hp)with k|k
  ·exact .inl ⟨k,zfr ndP hp hu k⟩
  ·obtain⟨c,e⟩:=zin (n:=s.heap.objs.size+1) k;refine .inr ⟨.inl k,c,e,?_⟩;have q:=x.cell y c e;rw[zfp ndP hp hu (by show scope.names.lookup y≠_;rw[k];decide)]at q;exact q
 ·exact e0.hok.fresh (Nat.le_of_lt (x.above y c (PySem.mem_of_lookup h)))
 ·unfold yf8;show _=N.length;rw[List.length_append,List.length_map,List.length_replicate];omega
theorem ydq{CX:CXT}{P:Program}{w:World}{K:PySem.W.Frag}{mg:Str->Option Value}{base:Heap}{k:Nat}{f:Addr}{name qual:Str}{params:Arguments}{body:List Stmt}{scope:Scope}{dV kV doc pm cdv ct oc:Value}{an od:Option Addr}
  {osl:Array (Option Value)} {N ps:List Str} {sp:Sp} (lk:K.lookup f=some ⟨oc,od,.func (PySem.W.fnOf name qual params body scope dV kV doc pm an cdv ct),osl⟩) (hcd:PySem.W.codeIn K cdv qual=true) (S:FnScope N ps scope)
  (len:∀ vs H Q E,sp vs H Q E->vs.length=ps.length)
  (hbody:∀ (A:Around) (outer:List Env) (s:Shared) (H:Hp) (vs:List V) (Q:VK) (E:XK),Room k (A.deeper (envOfC qual scope s.heap.objs.size f cdv))->sp vs H Q E->
   ∃ t,PSs (yh9 CX P w K mg base N qual scope f cdv A outer s H E) body t/\t { nx:=fun _ H'=>Q .non H',rt:=Q } (yf8 N vs) H) :
  FnOk P w K mg base CX (k+1) f (PySem.W.fnOf name qual params body scope dV kV doc pm an cdv ct) ps sp:=by
 refine⟨len,fun A outer s H args us vs Q E hr e0 hb r hsp=>?_⟩;have hl:=len _ _ _ _ hsp;have KX:K.In s.heap:=e0.mod.kin.keeps fun b o e=>(e0.bs b o e).1;have lim:s.heap.NoLimit:=e0.mod.nolimit.keeps fun b o e=>(e0.bs b o e).1;have hkind:∀ y∈ps.zip us,scope.names.lookup y.1=some .local\/(scope.names.lookup y.1=some .cell/\((cellsFrom (s.heap.objs.size+1) scope.names []).lookup y.1).isSome=true):=fun⟨n,v⟩ hy=>by
  rcases S.par n (List.of_mem_zip hy).1 with q|q
  ·exact .inl q
  ·exact .inr ⟨q,PySem.W.cellsFrom_some _ _ _ (.inl q)⟩
 refine codeAny_call_function hr.depth (KX _ _ lk) rfl S.co S.gen rfl (PySem.W.codeRec_of KX hcd) (hb _ _ _ _ ?_);refine wpAny_newFunctionEnv_cells S.kind hkind fun env he s1 x=>?_;subst he;refine⟨lim.keeps x.toInCall.keep,codeAny_func ?_⟩;obtain⟨t,ht,hq⟩:=hbody A outer s H vs Q E (hr.deeper _) hsp;have I:Inv (yh9 CX P w K mg base N qual scope f cdv A outer s H E) [] (yf8 N vs) H s1:=zgi S hr.hd e0 hl r x;refine wpAny_mono (ht [] s1 (yf8 N vs) H _ I hq) (fun fl s' hs=>?_) fun e s' hs=>hs;have fin:∀ {σ':St} {H':Hp} {v:V} {u:Value},Inv (yh9 CX P w K mg base N qual scope f cdv A outer s H E) [] σ' H' s'->yhe v u->Q v H'->CE outer P w H s Q u s':=
  fun {σ' H' v u} J rv q=>⟨v,H',J.os,J.bare,J.base,J.hok,rv,q⟩
 cases fl with
 |ret u=>
  obtain⟨v,σ',H',J,rv,q⟩:=hs;exact fin J rv q
 |next=>
  obtain⟨σ',H',J,q⟩:=hs;exact fin (v:=V.non) (u:=Value.none) J rfl q
 |brk=>
  obtain⟨_,_,_,q⟩:=hs;exact False.elim q
 |cont=>
  obtain⟨_,_,_,q⟩:=hs;exact False.elim q
end L2
namespace L2
open PySem PySem.Spec PyProof.Rows
section
variable{X:Cx}{x:Str}{p pos:Pos}{e:Expr}{es:List Expr}{t:TA}{id T:String}{r:List V->Hp->VK->Prop}
def tCB(r:List V->Hp->VK->Prop)(t:TA):TE:=fun σ H Q=>t σ H fun vs H1=>r vs H1 Q
theorem zlx(hc:yb3 X (.builtin id) r)(hg:Gl X x)(hm:X.mg x=none)(hv:bootBuiltins x=some (.builtin id))(ha:PA X (e::es) t)(hn:x ≠ "__name__":=by decide)(hdb:(x == ("__debug__" : Str))=false:=by decide)
  (he:starEach (e::es) X.env=(false,eval e X.env)::starEach es X.env:=by rfl) (hpl:(backTo pos (starEach es X.env)).any (·.1)=false:=by rfl):PE X (.Call (.Name x p) (e::es) [] pos) (tCB r t):=by
 intro pins s σ H Q I h;refine wpAny_Call_Name_kw (zyt I hg hm hv ?_ hn hdb);exact PyProof.Rows.callWith_builtin1 (thn (ha pos pins s σ H _ I h) fun us s1 ⟨vs,H1,I1,r1,q1⟩=>hc pins s1 σ H1 vs us Q I1 r1 q1) he hpl
theorem zhd(hc:yb3 X (.type T) r)(hg:Gl X x)(hm:X.mg x=none)(hv:bootBuiltins x=some (.type T))(ha:PA X (e::es) t)(hn:x ≠ "__name__":=by decide)(hdb:(x == ("__debug__" : Str))=false:=by decide)
  (he:starEach (e::es) X.env=(false,eval e X.env)::starEach es X.env:=by rfl) (hpl:(backTo pos (starEach es X.env)).any (·.1)=false:=by rfl):PE X (.Call (.Name x p) (e::es) [] pos) (tCB r t):=by
 intro pins s σ H Q I h;refine wpAny_Call_Name_kw (zyt I hg hm hv ?_ hn hdb);exact PyProof.Rows.callWith_type1 (thn (ha pos pins s σ H _ I h) fun us s1 ⟨vs,H1,I1,r1,q1⟩=>hc pins s1 σ H1 vs us Q I1 r1 q1) he hpl
end
end L2
namespace HT
open PySem PyProof.Rows
section
open PySem.SeqAt
open PySem.AutoSeq1 (wpAny_loadPart')
open PySem.MeetsSeq PySem.MeetsSeq2 PySem.MeetsSeq3
end
section
variable{prog:Program}{w:World}{A:Around}{E:Value->Shared->Prop}{s:Shared}
theorem cat_tup{t b:Addr}{vs ws:List Value}{Q:Value->Shared->Prop}(ht:IsTup s.heap t vs.toArray)(hb:IsTup s.heap b ws.toArray)(hv:vs≠[])
  (h1:ws=[]->Q (.ref t) s) (h2:ws≠[]->Q (.ref s.heap.objs.size) { s with heap:=s.heap.push { cls:=.type "tuple",data:=.seq (vs++ws).toArray } })
  (hsz:vs.length+ws.length<=sizeLine):wpAny (model prog w) A (binaryOp .Add (.ref t) (.ref b)) Q E s:=by
 obtain⟨⟨cls,dd,data,sl⟩,ho,hc,n,hd⟩:=id ht;obtain⟨⟨cls2,dd2,data2,sl2⟩,ho2,hc2,n2,hd2⟩:=id hb;simp only at hc hd hc2 hd2;subst hc hd hc2 hd2;have e:vs.toArray++ws.toArray=(vs++ws).toArray:=by simp
 by_cases hw:ws=[]
 ·exact concat_meets ⟨_,ho,rfl⟩ ⟨_,ho2,rfl⟩ noFill_tuple_add seq_tuple_add PySem.F.slot_tuple_add PySem.F.entry_tuple_add (PySem.F.args_tuple_add_2 _ _)
   (tuple_addW1 t b vs.toArray ws.toArray n n2 dd dd2 sl sl2 (by simpa using hv) (by simp[hw])) ⟨ho,ho2,h1 hw⟩
 ·refine concat_meets ⟨_,ho,rfl⟩ ⟨_,ho2,rfl⟩ noFill_tuple_add seq_tuple_add PySem.F.slot_tuple_add PySem.F.entry_tuple_add (PySem.F.args_tuple_add_2 _ _)
   (tuple_addW2 t b vs.toArray ws.toArray n n2 dd dd2 sl sl2 (by simpa using hv) (by simpa using hw) (by rw[List.size_toArray,List.size_toArray];exact hsz)) ⟨ho,ho2,?_⟩
  rw[e];exact h2 hw
def sIx(n d:Nat):Option Int->Nat
 |none=>d
 |some v=>if v<0 then (v+(n:Int)).toNat else min v.toNat n
theorem sIx_nat(n d k:Nat):sIx n d (some (k:Int))=min k n:=by
 show (if (k:Int)<0 then ((k:Int)+(n:Int)).toNat else min (k:Int).toNat n)=min k n;rw[if_neg (by omega),Int.toNat_natCast]
theorem yay(n d:Nat)(hd:d<=n)(o:Option Int):sIx n d o<=n:=by
 cases o with
 |none=>exact hd
 |some v=>
  show (if v<0 then (v+(n:Int)).toNat else min v.toNat n)<=n;by_cases hv:v<0
  ·rw[if_pos hv];omega
  ·rw[if_neg hv];exact Nat.min_le_right _ _
theorem zoq(v:Int)(n d:Nat):(if v<0 then max (v+(n:Int)) 0 else min v (n:Int))=((sIx n d (some v):Nat):Int):=by
 show (if v<0 then max (v+(n:Int)) 0 else min v (n:Int))=(((if v<0 then (v+(n:Int)).toNat else min v.toNat n):Nat):Int);by_cases hv:v<0
 ·simp only[if_pos hv];omega
 ·simp only[if_neg hv];omega
theorem zd8(lo hi:Option Int)(n:Nat):Builtin.Slice.sliceAdjust lo hi 1 (n:Int)=(((sIx n 0 lo:Nat):Int),((sIx n n hi:Nat):Int)):=by
 have h1:¬ ((1:Int)<0):=by omega
 unfold Builtin.Slice.sliceAdjust;simp only[h1,if_false];refine Prod.ext ?_ ?_
 ·cases lo with
  |none=>rfl
  |some v=>exact zoq v n 0
 ·cases hi with
  |none=>rfl
  |some v=>exact zoq v n n
theorem zez(i j:Nat):Builtin.Slice.slicePlaces (i:Int) (j:Int) 1=j - i:=by
 unfold Builtin.Slice.slicePlaces;have h1:(1:Int) > 0:=by omega
 simp only[h1,if_true,Int.ediv_one];split<;>omega
theorem ze9{v:Value}{o:Option Int}{Q:Option Int->Shared->Prop}(p:IsPart v o)(h:Q o s):wpAny (model prog w) A (Builtin.Slice.slicePartIndex v) Q E s:=by
 cases p with
 |none=>exact slicePart_none h
 |int i t=>exact slicePart_int h
theorem zat{sl:Addr}{vl vu:Value}{lo hi:Option Int}{n:Nat}{Q:Int × Int × Nat->Shared->Prop}(hs:s.heap.IsSliceOf sl vl vu .none)(pl:IsPart vl lo)(pu:IsPart vu hi)
  (h:Q (((sIx n 0 lo:Nat):Int),1,sIx n n hi - sIx n 0 lo) s):wpAny (model prog w) A (Builtin.Slice.sliceApplied (.ref sl) (pure (n:Int))) Q E s:=by
 obtain⟨os,hos,hcs,hds⟩:=id hs;unfold Builtin.Slice.sliceApplied Builtin.Slice.sliceFields;refine wpAny_bind (wpAny_bind (wpAny_field hos hds (x:=vl) rfl (wpAny_bind (wpAny_field hos hds (x:=vu) rfl (wpAny_bind (wpAny_field hos hds (x:=.none) rfl (wpAny_pure ?_)))))));refine wpAny_bind (slicePart_none ?_);show wpAny _ _ (if ((1:Int) == 0)=true then _ else _) _ _ s;rw[if_neg (by decide)];refine wpAny_bind (ze9 pl (wpAny_bind (ze9 pu (wpAny_bind (wpAny_pure ?_)))));show wpAny _ _ (match Builtin.Slice.sliceAdjust lo hi 1 (n:Int)with|(lo,hi)=>pure (lo,(1:Int),Builtin.Slice.slicePlaces lo hi 1)) _ _ s;rw[zd8 lo hi n];show wpAny _ _ (pure (((sIx n 0 lo:Nat):Int),(1:Int),Builtin.Slice.slicePlaces ((sIx n 0 lo:Nat):Int) ((sIx n n hi:Nat):Int) 1)) _ _ s;rw[zez];exact wpAny_pure h
theorem zl2(xs:Array Value)(i k:Nat):((List.range k).filterMap fun(m:Nat)=>xs[((i:Int)+(m:Int) * 1).toNat]?).toArray=((xs.toList.drop i).take k).toArray:=by
 have e:(fun(m:Nat)=>xs[((i:Int)+(m:Int) * 1).toNat]?)=fun m=>xs[i+m]?:=by
  funext m;have:((i:Int)+(m:Int) * 1).toNat=i+m:=by omega
  rw[this]
 rw[e];have:=pick_run xs i k;rw[List.filterMap_map]at this;have e2:((fun x=>xs[x]?) ∘ fun x=>i+x)=fun m=>xs[i+m]?:=rfl;rw[e2]at this;rw[this]
theorem getItem_tuple_cut{t sl:Addr}{items:Array Value}{vl vu:Value}{lo hi:Option Int}{Q:Value->Shared->Prop}(ht:IsTup s.heap t items)(hs:s.heap.IsSliceOf sl vl vu .none)(pl:IsPart vl lo)(pu:IsPart vu hi)
  (hw:¬ (sIx items.size 0 lo=0/\sIx items.size items.size hi=items.size))
  (h:Q (.ref s.heap.objs.size) { s with heap:=s.heap.push { cls:=.type "tuple",data:=.seq ((items.toList.drop (sIx items.size 0 lo)).take (sIx items.size items.size hi - sIx items.size 0 lo)).toArray } })
  (hsz:items.size<=sizeLine):wpAny (model prog w) A (getItem (.ref t) (.ref sl)) Q E s:=by
 have htake:sizeOk (.seq ((items.toList.drop (sIx items.size 0 lo)).take (sIx items.size items.size hi - sIx items.size 0 lo)).toArray):=by
  show ((items.toList.drop (sIx items.size 0 lo)).take (sIx items.size items.size hi - sIx items.size 0 lo)).toArray.size<=sizeLine;rw[List.size_toArray,List.length_take,List.length_drop,Array.length_toList];omega
 have hj:sIx items.size items.size hi<=items.size:=yay _ _ (Nat.le_refl _) hi;obtain⟨os,hos,hcs,hds⟩:=id hs;have hTs:s.TypeIs (.ref sl) "slice":=⟨os,hos,hcs⟩
 unfold getItem;try with_reducible refine wpAny_holding ?_
 first|refine wpAny_bind (wpAny_pure ?_)|skip
 refine wpAny_bind (wpAny_sequenceKey ht.typeIs (by decide) ?_);refine wpAny_bind (wpAny_callSpecial?_slot (name:=Str.ofString "__getitem__") ht.typeIs PyProof.Rows.slot_tuple_getitem
  (wpAny_call_entry PyProof.Rows.slot_tuple_getitem ht.typeIs entry_tuple_getitem ?_ (args_tuple_getitem _ _)))
 show wpAny _ _ (Builtin.Tuple.tupleItemsOf (.ref t) >>= _) _ _ s;refine wpAny_bind (tupleItemsOf_ ht ?_);refine wpAny_bind (wpAny_typeOf hTs ?_);rw[if_pos (by decide)];refine wpAny_bind (zat hs pl pu ?_);have hno:¬ ((((sIx items.size 0 lo:Nat):Int) == 0 && (1:Int) == 1 && (sIx items.size items.size hi - sIx items.size 0 lo) == items.size)=true):=by
  intro q;rw[Bool.and_eq_true,Bool.and_eq_true]at q;have q1:((sIx items.size 0 lo:Nat):Int)=0:=eq_of_beq q.1.1;have q2:sIx items.size items.size hi - sIx items.size 0 lo=items.size:=eq_of_beq q.2;exact hw ⟨by omega,by omega⟩
 show wpAny _ _ (if (((sIx items.size 0 lo:Nat):Int) == 0 && (1:Int) == 1 && (sIx items.size items.size hi - sIx items.size 0 lo) == items.size)=true then _ else _) _ _ s;rw[if_neg hno,zl2];first
  |exact wpAny_bind (m:=Builtin.Tuple.tupleExact _) (wpAny_newObj_type (wpAny_pure ⟨_,rfl,wpAny_pure h⟩) htake)
  |exact wpAny_bind (m:=Builtin.Tuple.tupleExact _) (wpAny_newObj_type (wpAny_bind (wpAny_pure (wpAny_pure ⟨_,rfl,wpAny_pure h⟩))) htake)
  |exact wpAny_bind (wpAny_bind (m:=Builtin.Tuple.tupleExact _) (wpAny_newObj_type (wpAny_pure (wpAny_pure ⟨_,rfl,wpAny_pure h⟩)) htake))
  |exact wpAny_bind (wpAny_bind (m:=Builtin.Tuple.tupleExact _) (wpAny_newObj_type (wpAny_pure ⟨_,rfl,wpAny_pure h⟩) htake))
end
end HT
namespace L2
open PySem PySem.Spec PyProof.Rows
abbrev TO:=St->Hp->(Option Int->Hp->Prop)->Prop
def PO(X:Cx)(e:Option Expr)(t:TO):Prop:=
 ∀ (pins:List (Addr × Obj)) (s:Shared) (σ:St) (H:Hp) (Q:Option Int->Hp->Prop),Inv X pins σ H s->t σ H Q->
  wpAny (model X.prog X.w) X.A (evalPart e X.env) (fun u s'=>∃ o H',Inv X pins σ H' s'/\IsPart u o/\Q o H') X.xe s
def zux:TO:=fun _ H Q=>Q none H
def yge(t:TE):TO:=fun σ H Q=>t σ H fun x H1=>∃ i,x=.int i/\Q (some i) H1
section
variable{X:Cx}{e:Expr}{te:TE}{lo hi:Option Expr}{tl th:TO}{pos p2:Pos}
theorem zsr:PO X none zux:=by
 intro pins s σ H Q I h;rw[evalPart_none];exact wpAny_pure ⟨none,H,I,.none,h⟩
theorem zss(h:PE X e te):PO X (some e) (yge te):=by
 intro pins s σ H Q I hw;rw[evalPart_some];refine thn (h pins s σ H _ I hw) fun u s1 ⟨x,H1,I1,r1,q1⟩=>?_;obtain⟨i,rfl,q⟩:=q1;obtain⟨t,rfl⟩:=r1;exact⟨some i,H1,I1,.int i t,q⟩
def SlR(X:Cx)(r:V->Option Int->Option Int->Hp->VK->Prop):Prop:=
 ∀ (pins:List (Addr × Obj)) (s:Shared) (σ:St) (H:Hp) (x:V) (v vl vu:Value) (lo hi:Option Int) (sl:Addr) (Q:VK),Inv X pins σ H s->yhe x v->s.heap.IsSliceOf sl vl vu .none->IsPart vl lo->IsPart vu hi->r x lo hi H Q->
  ∃ T id,typeLookup (.type T) "__getitem__" = pure (some (.builtin id))/\s.TypeIs v T/\wpAny (model X.prog X.w) X.A (getItem v (.ref sl)) (EP X pins σ Q) X.xe s
theorem SlR.or{r r':V->Option Int->Option Int->Hp->VK->Prop}(h:SlR X r)(h':SlR X r'):SlR X (fun x lo hi H Q=>r x lo hi H Q\/r' x lo hi H Q):=by
 intro pins s σ H x v vl vu lo hi sl Q I rx hs pl pu q;rcases q with q|q
 ·exact h pins s σ H x v vl vu lo hi sl Q I rx hs pl pu q
 ·exact h' pins s σ H x v vl vu lo hi sl Q I rx hs pl pu q
def tSl(r:V->Option Int->Option Int->Hp->VK->Prop)(te:TE)(tl th:TO):TE:=fun σ H Q=>te σ H fun x H1=>tl σ H1 fun l H2=>th σ H2 fun u H3=>r x l u H3 Q
theorem zlz{r:V->Option Int->Option Int->Hp->VK->Prop}(hr:SlR X r)(he:PE X e te)(hl:PO X lo tl)(hu:PO X hi th):PE X (.Subscript e (.Slice lo hi none p2) pos) (tSl r te tl th):=by
 intro pins s σ H Q I h;refine Subscript_ (thn (he pins s σ H _ I h) fun v s1 ⟨x,H1,I1,r1,q1⟩=>?_);refine wpAny_Slice (thn (hl pins s1 σ H1 _ I1 q1) fun vl s2 ⟨l,H2,I2,pl,q2⟩=>thn (hu pins s2 σ H2 _ I2 q2) fun vu s3 ⟨u,H3,I3,pu,q3⟩=>?_);rw[evalPart_none];refine wpAny_pure ?_;have I4:Inv X pins σ H3 { s3 with heap:=s3.heap.push { cls:=.type "slice",data:=.fields #[vl,vu,.none] } }:=I3.kept (t':=s3.toks) fun b ob q=>Heap.get?_push_of_some _ q;obtain⟨T,id,hT,ht,hg⟩:=hr pins { s3 with heap:=s3.heap.push { cls:=.type "slice",data:=.fields #[vl,vu,.none] } } σ H3 x v vl vu l u s3.heap.objs.size Q I4 r1 (Heap.IsSliceOf.new ..) pl pu q3;show wpAny (model X.prog X.w) X.A (subscriptTail e (.Slice lo hi none p2) v (.ref s3.heap.objs.size)) (EP X pins σ Q) X.xe { s3 with heap:=s3.heap.push { cls:=.type "slice",data:=.fields #[vl,vu,.none] } };exact tail_any (ops:=[.ref s3.heap.objs.size,v]) ht hT hg (by with_unfolding_all rfl)
def yh8(xs:List V)(lo hi:Option Int):List V:=(xs.drop (HT.sIx xs.length 0 lo)).take (HT.sIx xs.length xs.length hi - HT.sIx xs.length 0 lo)
theorem zdi(xs:List V)(lo hi:Option Int):(yh8 xs lo hi).length<=xs.length:=by
 unfold yh8;rw[List.length_take,List.length_drop];omega
def ykb(K:PySem.W.Frag):V->Option Int->Option Int->Hp->VK->Prop:=fun x lo hi H Q=>∃ a xs,x=.ref a/\SqT K H a xs/\
 ¬ (HT.sIx xs.length 0 lo=0/\HT.sIx xs.length xs.length hi=xs.length)/\∀ p,H p=none->Q (.ref p) (upd H p (.tup (yh8 xs lo hi)))
theorem ya7:SlR X (ykb X.K):=by
 intro pins s σ H x v vl vu lo hi sl Q I rx hs pl pu h;obtain⟨a,xs,rfl,hx,hw,q⟩:=h;cases rx;obtain⟨its,r,ht,hz⟩:=I.tuple hx;have hlen:its.toArray.size=xs.length:=by rw[List.size_toArray];exact r.length.symm
 refine⟨"tuple",_,PyProof.Rows.slot_tuple_getitem.lookup,ht.typeIs,?_⟩;refine HT.getItem_tuple_cut ht hs pl pu (by rw[hlen];exact hw) ?_ (by rw[hlen];exact hz);rw[hlen];refine⟨.ref s.heap.objs.size,_,I.laid (t':=s.toks) (o:=.tup (yh8 xs lo hi)) (fun b ob q=>Heap.get?_push_of_some _ q) (Nat.le_refl _) ?_,rfl,q _ (I.hok.fresh (Nat.le_refl _))⟩;exact⟨Nat.le_trans (zdi xs lo hi) hz,_,(r.drop (HT.sIx xs.length 0 lo)).take (HT.sIx xs.length xs.length hi - HT.sIx xs.length 0 lo),IsTup.new _ _⟩
def yfq(K:PySem.W.Frag):R2:=fun x y H Q=>∃ a b xs ys,x=.ref a/\y=.ref b/\SqT K H a xs/\SqT K H b ys/\xs≠[]/\xs.length+ys.length<=sizeLine/\
 (ys=[]->Q (.ref a) H)/\(ys≠[]->∀ p,H p=none->Q (.ref p) (upd H p (.tup (xs++ys))))
theorem yho.nil_iff{xs:List V}{us:List Value}(r:yho xs us):us=[] ↔ xs=[]:=by
 cases r with
 |nil=>simp
 |cons _ _=>simp
theorem zsf:OpR X (binaryOp .Add) (yfq X.K):=by
 intro pins s σ H x y v u Q I rx ry h;obtain⟨a,b,xs,ys,rfl,rfl,ha,hb,hx,hz,q1,q2⟩:=h;cases rx;cases ry;obtain⟨its,r1,p1,_⟩:=I.tuple ha;obtain⟨its2,r2,p2,_⟩:=I.tuple hb;refine HT.cat_tup p1 p2 (fun z=>hx (r1.nil_iff.mp z)) (fun z=>⟨.ref a,H,I,rfl,q1 (r2.nil_iff.mp z)⟩) (fun z=>?_) (by rw[<-r1.length,<-r2.length];exact hz);refine⟨.ref s.heap.objs.size,_,I.laid (t':=s.toks) (o:=.tup (xs++ys)) (fun b ob q=>Heap.get?_push_of_some _ q) (Nat.le_refl _) ?_,rfl,q2 (fun w=>z (r2.nil_iff.mpr w)) _ (I.hok.fresh (Nat.le_refl _))⟩;exact⟨by rw[List.length_append];exact hz,_,r1.append r2,IsTup.new _ _⟩
end
end L2
namespace L2
open PySem PySem.Spec PyProof.Rows
def ixN(n:Nat)(i:Int):Option Nat:=if 0<=i then (if i<n then some i.toNat else none)else if -(n:Int)<=i then some (i+n).toNat else none
def atI{α:Type}(xs:List α)(i:Int):Option α:=(ixN xs.length i).bind fun j=>xs[j]?
theorem zqy{n:Nat}{i:Int}{j:Nat}(h:ixN n i=some j):seqIndex? i n=some j/\j<n/\-(n:Int)<=i/\i<n:=by
 unfold ixN at h;by_cases h0:0<=i
 ·rw[if_pos h0]at h;by_cases h1:i<n
  ·rw[if_pos h1]at h;have e:i.toNat=j:=Option.some.inj h;exact⟨by rw[seqIndex_of h0 h1,e],by omega,by omega,h1⟩
  ·rw[if_neg h1]at h;cases h
 ·rw[if_neg h0]at h;by_cases h1:-(n:Int)<=i
  ·rw[if_pos h1]at h;have e:(i+n).toNat=j:=Option.some.inj h;exact⟨by rw[seqIndex_neg (by omega) h1,e],by omega,h1,by omega⟩
  ·rw[if_neg h1]at h;cases h
theorem zn5{α:Type}{xs:List α}{i:Int}{v:α}(h:atI xs i=some v):∃ j,seqIndex? i xs.length=some j/\xs[j]?=some v/\j<xs.length/\-(xs.length:Int)<=i/\i<xs.length:=by
 unfold atI at h;cases e:ixN xs.length i with
 |none=>rw[e]at h;cases h
 |some j=>
  rw[e]at h;obtain⟨h1,h2,h3,h4⟩:=zqy e;exact⟨j,h1,h,h2,h3,h4⟩
theorem zn6{α:Type}{xs:List α}{j:Nat}{v:α}(h:xs[j]?=some v):atI xs (j:Int)=some v:=by
 have hj:j<xs.length:=(List.getElem?_eq_some_iff.mp h).1;have e:ixN xs.length (j:Int)=some j:=by
  unfold ixN;rw[if_pos (by omega),if_pos (by omega)];simp
 unfold atI;rw[e];exact h
def znq(b:Expr):Prop:=∀ o i,subscripted b false o i=operate [o,i] (getItem o i)
def IxR(X:Cx)(r:R2):Prop:=
 ∀ (value slice:Expr) (pins:List (Addr × Obj)) (s:Shared) (σ:St) (H:Hp) (x y:V) (v u:Value) (Q:VK),Inv X pins σ H s->yhe x v->yhe y u->r x y H Q->
  subscripted slice false v u=operate [v,u] (getItem v u)->wpAny (model X.prog X.w) X.A (subscriptTail value slice v u) (EP X pins σ Q) X.xe s
def MtR(X:Cx)(id:String)(r:V->List V->Hp->VK->Prop):Prop:=
 ∀ (pins:List (Addr × Obj)) (s:Shared) (σ:St) (H:Hp) (x:V) (xs:List V) (v:Value) (us:List Value) (Q:VK),Inv X pins σ H s->yhe x v->yho xs us->r x xs H Q->
  wpAny (model X.prog X.w) X.A (call (.builtin id) (v::us)) (EP X pins σ Q) X.xe s
section
variable{X:Cx}{a b:Expr}{ta tb:TE}{pos:Pos}
theorem IxR.or{r r':R2}(h:IxR X r)(h':IxR X r'):IxR X (fun x y H Q=>r x y H Q\/r' x y H Q):=by
 intro value slice pins s σ H x y v u Q I rx ry q hs;rcases q with q|q
 ·exact h value slice pins s σ H x y v u Q I rx ry q hs
 ·exact h' value slice pins s σ H x y v u Q I rx ry q hs
theorem MtR.or{id:String}{r r':V->List V->Hp->VK->Prop}(h:MtR X id r)(h':MtR X id r'):MtR X id (fun x xs H Q=>r x xs H Q\/r' x xs H Q):=by
 intro pins s σ H x xs v us Q I rx rs q;rcases q with q|q
 ·exact h pins s σ H x xs v us Q I rx rs q
 ·exact h' pins s σ H x xs v us Q I rx rs q
theorem yfi{r:R2}(hr:IxR X r)(ha:PE X a ta)(hb:PE X b tb)(hs:znq b):PE X (.Subscript a b pos) (tOp r ta tb):=by
 intro pins s σ H Q I h;exact Subscript_ (yhz ha hb I h fun v u s2 x y H2 I2 rx ry q=>hr a b pins s2 σ H2 x y v u Q I2 rx ry q (hs _ _))
def yj7(K:PySem.W.Frag):R2:=fun x y H Q=>∃ p xs i v,x=.ref p/\y=.int i/\SqL K H p xs/\atI xs i=some v/\Q v H
def yj8(K:PySem.W.Frag):R2:=fun x y H Q=>∃ p xs i v,x=.ref p/\y=.int i/\SqT K H p xs/\atI xs i=some v/\Q v H
theorem zqz:IxR X (yj7 X.K):=by
 intro value slice pins s σ H x y v u Q I rx ry h hs;obtain⟨p,xs,i,z,rfl,rfl,hq,he,q⟩:=h;cases rx;obtain⟨t,rfl⟩:=ry;obtain⟨its,r,pl,hz⟩:=I.list hq;obtain⟨j,h1,h2,h3,h4,h5⟩:=zn5 he;obtain⟨w,ew,rw'⟩:=r.get h2;have hl:=r.length;have hn:=zyw;have fin:EP X pins σ Q w s:=⟨z,H,I,rw',q⟩
 by_cases h0:0<=i
 ·have hj:i.toNat=j:=by
   rw[seqIndex_of h0 h5]at h1;exact Option.some.inj h1
  exact item_listR pl.isList h0 (by omega) (by rw[hj];simpa using ew) fin hs
 ·have hj:(i+(its.toArray.size:Int)).toNat=j:=by
   rw[seqIndex_neg (by omega) h4]at h1;rw[List.size_toArray,<-hl];exact Option.some.inj h1
  exact subscriptTail_builtinR (x:=w) pl.isList.typeIs slot_list_getitem.lookup
   (wpAny_getItem_list_neg (Q:=fun r s'=>r=w/\EP X pins σ Q r s') pl.isList (by omega) (by rw[List.size_toArray]<;>omega) (by omega) (by rw[hj];simpa using ew) ⟨rfl,fin⟩) hs
theorem zye:IxR X (yj8 X.K):=by
 intro value slice pins s σ H x y v u Q I rx ry h hs;obtain⟨p,xs,i,z,rfl,rfl,hq,he,q⟩:=h;cases rx;obtain⟨t,rfl⟩:=ry;obtain⟨its,r,pl,hz⟩:=I.tuple hq;obtain⟨j,h1,h2,h3,h4,h5⟩:=zn5 he;obtain⟨w,ew,rw'⟩:=r.get h2;have hl:=r.length;have hn:=zyw;have fin:EP X pins σ Q w s:=⟨z,H,I,rw',q⟩
 exact subscriptTail_builtinR (x:=w) pl.typeIs slot_tuple_getitem.lookup
  (getItem_tuple (j:=j) (Q:=fun r s'=>r=w/\EP X pins σ Q r s') pl (by omega) (by omega) (by rw[List.size_toArray,<-hl];exact h1) (by simpa using ew) ⟨rfl,fin⟩) hs
theorem Inv.lst{pins:List (Addr × Obj)}{σ:St}{H:Hp}{s:Shared}{p:Addr}{xs:List V}(I:Inv X pins σ H s)(h:H p=some (.lst xs)) :
  ∃ (its:List Value) (n:Nat),yho xs its/\s.heap.get? p=some { cls:=.type "list",data:=.seq its.toArray n }/\xs.length<=sizeLine:=by
 obtain⟨z,its,n,r,e⟩:=I.hok p _ h;exact⟨its,n,r,e,z⟩
theorem zde(lo hi:Option Int)(n:Nat):(sliceBounds lo hi none n).1=((HT.sIx n 0 lo:Nat):Int)/\(sliceBounds lo hi none n).2.1=((HT.sIx n n hi:Nat):Int)/\(sliceBounds lo hi none n).2.2=1:=by
 refine⟨?_,?_,rfl⟩
 ·cases lo with
  |none=>simp[sliceBounds,HT.sIx]
  |some i=>
   simp only[sliceBounds,HT.sIx,Option.getD_none,show (1:Int) > 0 by decide,if_true];by_cases h:i<0
   ·simp only[h,if_true]<;>omega
   ·simp only[h,if_false]<;>omega
 ·cases hi with
  |none=>simp[sliceBounds,HT.sIx]
  |some i=>
   simp only[sliceBounds,HT.sIx,Option.getD_none,show (1:Int) > 0 by decide,if_true];by_cases h:i<0
   ·simp only[h,if_true]<;>omega
   ·simp only[h,if_false]<;>omega
theorem zco(its:List Value)(lo hi:Option Int):slicePick its.toArray lo hi none=((its.drop (HT.sIx its.length 0 lo)).take (HT.sIx its.length its.length hi - HT.sIx its.length 0 lo)).toArray:=by
 obtain⟨h1,h2,h3⟩:=zde lo hi its.toArray.size;unfold slicePick;rw[h1,h2,h3];simp only[sliceRange_one,pick_run,List.size_toArray]<;>rfl
def yka(K:PySem.W.Frag):V->Option Int->Option Int->Hp->VK->Prop:=fun x lo hi H Q=>∃ a xs,x=.ref a/\SqL K H a xs/\∀ p,H p=none->Q (.ref p) (upd H p (.lst (yh8 xs lo hi)))
theorem zt8:SlR X (yka X.K):=by
 intro pins s σ H x v vl vu lo hi sl Q I rx hs pl pu h;obtain⟨a,xs,rfl,hx,q⟩:=h;cases rx;obtain⟨its,r,ht,hz⟩:=I.list hx;have hlen:=r.length;refine⟨"list",_,slot_list_getitem.lookup,ht.isList.typeIs,?_⟩;refine wpAny_getItem_list_slice ht.isList hs pl pu .none (by simp) ?_ (by rw[List.size_toArray]<;>omega);rw[zco,<-hlen];refine⟨.ref s.heap.objs.size,_,I.laid (t':=s.toks) (o:=.lst (yh8 xs lo hi)) (fun b ob q=>Heap.get?_push_of_some _ q) (Nat.le_refl _) ?_,rfl,q _ (I.hok.fresh (Nat.le_refl _))⟩;exact⟨Nat.le_trans (zdi xs lo hi) hz,_,0,(r.drop (HT.sIx xs.length 0 lo)).take (HT.sIx xs.length xs.length hi - HT.sIx xs.length 0 lo),Heap.get?_push_size _ rfl⟩
def ydl:V->Bool
 | .non=>true
 | .bl _=>true
 | .int _=>true
 | .str _=>true
 |_=>false
def eqV:V->V->Bool
 | .non,.non=>true
 | .bl a,.bl b=>a == b
 | .bl a,.int b=>(if a then 1 else 0) == b
 | .int a,.bl b=>a == (if b then 1 else 0)
 | .int a,.int b=>a == b
 | .str a,.str b=>a == b
 |_,_=>false
theorem zww{A:Around}{s:Shared}{y x:V}{u v:Value}(ry:yhe y u)(rx:yhe x v)(fy:ydl y=true)(fx:ydl x=true):SeqAt.EqAt A s u v (eqV y x):=by
 cases y with
 |non=>
  cases ry;cases x with
  |non=>cases rx;exact SeqAt.EqAt.same _
  |bl b=>cases rx;exact SeqAt.EqAt.none_bool b
  |int b=>obtain⟨t,rfl⟩:=rx;exact SeqAt.EqAt.none_int b t
  |str b=>obtain⟨t,rfl⟩:=rx;exact SeqAt.EqAt.none_str b t
  |_=>exact absurd (show false=true from fx) Bool.false_ne_true
 |bl a=>
  cases ry;cases x with
  |non=>cases rx;exact SeqAt.EqAt.bool_none a
  |bl b=>cases rx;exact SeqAt.EqAt.bool_bool a b
  |int b=>obtain⟨t,rfl⟩:=rx;exact SeqAt.EqAt.bool_int a b t
  |str b=>obtain⟨t,rfl⟩:=rx;exact SeqAt.EqAt.bool_str a b t
  |_=>exact absurd (show false=true from fx) Bool.false_ne_true
 |int a=>
  obtain⟨t',rfl⟩:=ry;cases x with
  |non=>cases rx;exact SeqAt.EqAt.int_none a t'
  |bl b=>cases rx;exact SeqAt.EqAt.int_bool a t' b
  |int b=>obtain⟨t,rfl⟩:=rx;exact SeqAt.EqAt.int_int a t' b t
  |str b=>obtain⟨t,rfl⟩:=rx;exact SeqAt.EqAt.int_str a t' b t
  |_=>exact absurd (show false=true from fx) Bool.false_ne_true
 |str a=>
  obtain⟨t',rfl⟩:=ry;cases x with
  |non=>cases rx;exact SeqAt.EqAt.str_none a t'
  |bl b=>cases rx;exact SeqAt.EqAt.str_bool a t' b
  |int b=>obtain⟨t,rfl⟩:=rx;exact SeqAt.EqAt.str_int a t' b t
  |str b=>obtain⟨t,rfl⟩:=rx;exact SeqAt.EqAt.str_str a t' b t
  |_=>exact absurd (show false=true from fx) Bool.false_ne_true
 |_=>exact absurd (show false=true from fy) Bool.false_ne_true
def eqU(x:V)(u:Value):Bool:=match u with
 | .none=>eqV .non x
 | .bool b=>eqV (.bl b) x
 | .int i _=>eqV (.int i) x
 | .str z _=>eqV (.str z) x
 |_=>false
theorem zwz{x y:V}{u:Value}(r:yhe y u)(f:ydl y=true):eqU x u=eqV y x:=by
 cases y with
 |non=>cases r;rfl
 |bl b=>cases r;rfl
 |int i=>obtain⟨t,rfl⟩:=r;rfl
 |str z=>obtain⟨t,rfl⟩:=r;rfl
 |_=>exact absurd (show false=true from f) Bool.false_ne_true
theorem zn1{x:V}:∀ {xs:List V} {us:List Value},yho xs us->xs.all ydl=true->us.any (eqU x)=xs.any fun y=>eqV y x
 |_,_,.nil,_=>rfl
 |y::xs,u::us,.cons r t,f=>by
  rw[List.all_cons,Bool.and_eq_true]at f;rw[List.any_cons,List.any_cons,zwz r f.1,zn1 t f.2]
theorem zk9{A:Around}{s:Shared}{x:V}{v:Value}(rx:yhe x v)(fx:ydl x=true):∀ {xs:List V} {us:List Value},yho xs us->xs.all ydl=true->∀ u∈us,SeqAt.EqAt A s u v (eqU x u)
 |_,_,.nil,_=>fun u hu=>by cases hu
 |y::xs,u::us,.cons r t,f=>fun u' hu=>by
  rw[List.all_cons,Bool.and_eq_true]at f;rcases List.mem_cons.mp hu with rfl|hu
  ·rw[zwz r f.1];exact zww r rx f.1 fx
  ·exact zk9 rx fx t f.2 u' hu
def inV(x:V)(xs:List V):Bool:=xs.any fun y=>eqV y x
def rIn(K:PySem.W.Frag)(neg:Bool):R2:=fun x y H Q=>∃ p xs,y=.ref p/\(SqL K H p xs\/SqT K H p xs)/\ydl x=true/\xs.all ydl=true/\Q (.bl (if neg then !inV x xs else inV x xs)) H
theorem zhb:OpR X (compareOp .In) (rIn X.K false):=by
 intro pins s σ H x y v u Q I rx ry h;obtain⟨p,xs,rfl,hq,fx,fs,q⟩:=h;cases ry;rcases hq with hq|hq
 ·obtain⟨its,r,pl,hz⟩:=I.list hq;refine SeqAt.in_listAt (eqU x) pl.isList (fun w hw=>zk9 rx fx r fs w (by simpa using hw)) ⟨.bl _,H,I,rfl,?_⟩;rw[show its.toArray.any (eqU x)=its.any (eqU x) by simp,zn1 r fs];exact q
 ·obtain⟨its,r,pl,hz⟩:=I.tuple hq;refine SeqAt.in_tupleAt (eqU x) pl (fun w hw=>zk9 rx fx r fs w (by simpa using hw)) ⟨.bl _,H,I,rfl,?_⟩;rw[show its.toArray.any (eqU x)=its.any (eqU x) by simp,zn1 r fs];exact q
theorem zcr:yb3 X (.builtin "len") (fun xs H Q=>∃ p ys,xs=[.ref p]/\(SqL X.K H p ys\/SqT X.K H p ys)/\Q (.int ys.length) H):=by
 intro pins s σ H xs us Q I r h;obtain⟨p,ys,rfl,hq,q⟩:=h;obtain⟨u,rfl,rx⟩:=ygm r;cases rx;have hn:=zyw;rcases hq with hq|hq
 ·obtain⟨its,r',pl,hz⟩:=I.list hq;have hlen:=r'.length;exact Calls.call_len_list pl.isList (by simp only[List.size_toArray]<;>omega) ⟨.int ys.length,H,I.tok _,⟨s.toks+1,by rw[List.size_toArray,hlen]⟩,q⟩
 ·obtain⟨its,r',pl,hz⟩:=I.tuple hq;have hlen:=r'.length;exact len_tuple pl (by simp only[List.size_toArray]<;>omega) ⟨.int ys.length,H,I.tok _,⟨s.toks+1,by rw[List.size_toArray,hlen]⟩,q⟩
theorem yb3.or{f:Value}{r r':List V->Hp->VK->Prop}(h:yb3 X f r)(h':yb3 X f r'):yb3 X f (fun xs H Q=>r xs H Q\/r' xs H Q):=by
 intro pins s σ H xs us Q I rs q;rcases q with q|q
 ·exact h pins s σ H xs us Q I rs q
 ·exact h' pins s σ H xs us Q I rs q
theorem zcs:yb3 X (.type "list") (fun xs H Q=>∃ p ys,xs=[.ref p]/\(SqL X.K H p ys\/SqT X.K H p ys)/\∀ l,H l=none->Q (.ref l) (upd H l (.lst ys))):=by
 intro pins s σ H xs us Q I r h;obtain⟨p,ys,rfl,hq,q⟩:=h;obtain⟨u,rfl,rx⟩:=ygm r;cases rx;have fin:∀ (its:List Value),yho ys its->ys.length<=sizeLine->∀ (h':Heap) (c':Nat),(∀ b o',s.heap.get? b=some o'->h'.get? b=some o')->
   h'.get? s.heap.objs.size=some { cls:=.type "list",dict:=none,data:=.seq its.toArray c',slots:=#[] }->EP X pins σ Q (.ref s.heap.objs.size) { s with heap:=h' }:=fun its r' hz h' c' kp e=>
  ⟨.ref s.heap.objs.size,_,I.laid (t':=s.toks) kp (Nat.le_refl _) (show yb8 X.prog X.w _ h' _ (.lst ys)from⟨hz,its,c',r',e⟩),rfl,q _ (I.hok.fresh (Nat.le_refl _))⟩
 rcases hq with hq|hq
 ·obtain⟨its,r',pl,hz⟩:=I.list hq;have hlen:=r'.length;obtain⟨o,ho,hc,n,hd⟩:=pl.isList;exact call_list_seq p (.inl rfl) ho hc hd (fun h' c' kp e=>fin its r' hz h' c' kp e) (by simp only[List.size_toArray]<;>omega)
 ·obtain⟨its,r',pl,hz⟩:=I.tuple hq;have hlen:=r'.length;obtain⟨o,ho,hc,n,hd⟩:=pl;exact call_list_seq p (.inr rfl) ho hc hd (fun h' c' kp e=>fin its r' hz h' c' kp e) (by simp only[List.size_toArray]<;>omega)
theorem zby:yb3 X (.type "tuple") (fun xs H Q=>∃ p ys,xs=[.ref p]/\((SqL X.K H p ys/\∀ l,H l=none->Q (.ref l) (upd H l (.tup ys)))\/(SqT X.K H p ys/\Q (.ref p) H))):=by
 intro pins s σ H xs us Q I r h;obtain⟨p,ys,rfl,h⟩:=h;obtain⟨u,rfl,rx⟩:=ygm r;cases rx;rcases h with⟨hq,q⟩|⟨hq,q⟩
 ·obtain⟨its,r',pl,hz⟩:=I.list hq;have hlen:=r'.length;refine call_tuple_list pl.isList (fun h' kp=>?_) (by simp only[List.size_toArray]<;>omega);have I1:Inv X pins σ H { s with heap:=h' }:=I.kept (t':=s.toks) kp;have I2:Inv X pins σ (upd H h'.objs.size (.tup ys)) { s with heap:=h'.push { cls:=.type "tuple",data:=.seq its.toArray } }:=
   I1.laid (t':=s.toks) (fun b o e=>Heap.get?_push_of_some _ e) (Nat.le_refl _) (show yb8 X.prog X.w _ _ _ (.tup ys)from⟨hz,its,r',IsTup.new _ _⟩)
  exact⟨.ref h'.objs.size,_,I2,rfl,q _ (I1.hok.fresh (Nat.le_refl _))⟩
 ·obtain⟨its,r',pl,hz⟩:=I.tuple hq;exact call_tuple_same pl ⟨.ref p,H,I,rfl,q⟩
def tyV(K:PySem.W.Frag)(T:String)(x:V)(H:Hp):Prop:=match x with
 | .str _=>T = "str"
 | .int _=>T = "int"
 | .ref p=>(T = "list"/\∃ xs,SqL K H p xs)\/(T = "tuple"/\∃ o,K.lookup p=some o/\o.cls=.type "tuple"/\o.dict=none)\/
   (T = "dict"/\((∃ kvs,H p=some (.dK kvs))\/∃ kvs,H p=some (.dT kvs)))\/(T = "set"/\∃ S n,H p=some (.set S n))
 |_=>False
theorem ybx{pins:List (Addr × Obj)}{σ:St}{H:Hp}{s:Shared}{T:String}{x:V}{v:Value}(I:Inv X pins σ H s)(r:yhe x v)(ty:tyV X.K T x H) :
  s.TypeIs v T/\∀ a,v=.ref a->∃ ob,s.heap.get? a=some ob/\ob.dict=none:=by
 cases x with
 |str z=>
  obtain⟨t,rfl⟩:=r;cases (show T = "str" from ty);exact⟨typeIs_str s z t,fun _ e=>nomatch e⟩
 |int i=>
  obtain⟨t,rfl⟩:=r;cases (show T = "int" from ty);exact⟨typeIs_int s i t,fun _ e=>nomatch e⟩
 |ref p=>
  cases r;rcases ty with⟨rfl,xs,hq⟩|⟨rfl,o,hk,hc,hd⟩|⟨rfl,hk⟩|⟨rfl,S,n,hk⟩
  ·obtain⟨its,_,pl,_⟩:=I.list hq;refine⟨pl.isList.typeIs,fun a e=>?_⟩;cases e;obtain⟨o,n,e,c,hd,_⟩:=pl;exact⟨o,e,hd⟩
  ·refine⟨⟨o,I.kIn p o hk,hc⟩,fun a e=>?_⟩;cases e;exact⟨o,I.kIn _ o hk,hd⟩
  ·have z:∃ o,s.heap.get? p=some o/\o.ExactDict:=by
    rcases hk with⟨kvs,hk⟩|⟨kvs,hk⟩
    ·obtain⟨_,_,_,_,o,_,_,e,ex,_⟩:=I.hok p _ hk;exact⟨o,e,ex⟩
    ·obtain⟨_,_,_,_,o,_,_,e,ex,_⟩:=I.hok p _ hk;exact⟨o,e,ex⟩
   obtain⟨o,e,ex⟩:=z;refine⟨⟨o,e,ex.1⟩,fun a e2=>?_⟩;cases e2;exact⟨o,e,ex.2.1⟩
  ·obtain⟨o,_,_,_,e,ex,_⟩:=I.hok p _ hk;refine⟨⟨o,e,ex.1⟩,fun a e2=>?_⟩;cases e2;exact⟨o,e,ex.2.1⟩
 |_=>exact False.elim ty
def tBM(K:PySem.W.Frag)(T:String)(r:V->List V->Hp->VK->Prop)(to:TE)(t:TA):TE:=fun σ H Q=>to σ H fun x H1=>tyV K T x H1/\t σ H1 fun xs H2=>r x xs H2 Q
variable{o e:Expr}{es:List Expr}{to:TE}{t:TA}{name:Str}{apos cpos:Pos}{T id:String}{r:V->List V->Hp->VK->Prop}
theorem yfh(pa:PlainAttrs T)(slot:Slot T name id)(hty:typeOf (.builtin id)=pure (.type "method_descriptor"))(hm:MtR X id r)(ho:PE X o to)(ha:PA X (e::es) t)
  (hbase:attributeBase o name X.env (eval o X.env)=eval o X.env:=by rfl)
  (hfew:((backTo cpos (starEach (e::es) X.env)).all (fun x=>!x.1) && (backToKw cpos (keywordEach [] X.env)).all (fun x=>x.1.isSome)
   && decide ((e::es).length+([]:List Keyword).length+(if ([]:List Keyword).isEmpty then 0 else 1)<30))=true:=by rfl)
  (hline:(apos.endLine == cpos.line)=true:=by rfl) (hs:starEach (e::es) X.env=(false,eval e X.env)::starEach es X.env:=by rfl) (hplain:(backTo cpos (starEach es X.env)).any (·.1)=false:=by rfl) :
  PE X (.Call (.Attribute o name apos) (e::es) [] cpos) (tBM X.K T r to t):=by
 intro pins s σ H Q I h;refine wpAny_Call_method_late hbase hfew hline rfl (thn (ho pins s σ H _ I h) fun v s1 ⟨x,H1,I1,r1,ty,q1⟩=>?_);obtain⟨h1,h2⟩:=ybx I1 r1 ty;refine⟨T,id,pa,slot,hty,h1,h2,?_⟩;have hA:=ha cpos pins s1 σ H1 _ I1 q1;rw[hs]at hA ⊢;refine Calls.callWith_builtin (by show (false || (backTo cpos (starEach es X.env)).any (·.1))=false;rw[hplain]<;>rfl) (Calls.evalArgs_plain ?_);exact thn hA fun us s2 ⟨vs,H2,I2,r2,q2⟩=>hm pins s2 σ H2 x vs v us Q I2 r1 r2 q2
end
end L2
namespace L2
open PySem PySem.Spec PyProof.Rows
def MtM(X:Cx)(id:String)(r:V->List V->Hp->VK->Prop):Prop:=
 ∀ (pins:List (Addr × Obj)) (s:Shared) (σ:St) (H:Hp) (x:V) (xs:List V) (v:Value) (us:List Value) (Q:VK),Inv X pins σ H s->yhe x v->yho xs us->r x xs H Q->
  wpAny (model X.prog X.w) X.A (call (.builtin id) (v::us)) (EP X pins σ Q) X.xe s
theorem yho.one:∀ {x:V} {us:List Value},yho [x] us->∃ u,us=[u]/\yhe x u
 |_,_,.cons r .nil=>⟨_,rfl,r⟩
theorem yho.two:∀ {x y:V} {us:List Value},yho [x,y] us->∃ u v,us=[u,v]/\yhe x u/\yhe y v
 |_,_,_,.cons r (.cons q .nil)=>⟨_,_,rfl,r,q⟩
theorem yho.zero:∀ {us:List Value},yho [] us->us=[]
 |_,.nil=>rfl
section
variable{X:Cx}{pins:List (Addr × Obj)}{σ:St}{H:Hp}{s:Shared}{l b:Addr}{xs ys zs:List V}
theorem Inv.lset{its its':List Value}{n:Nat}{f:Array Value->Array Value}{t':Nat}(I:Inv X pins σ H s)(hH:H l=some (.lst xs))
  (e:s.heap.get? l=some { cls:=.type "list",data:=.seq its.toArray n }) (hf:f its.toArray=its'.toArray) (hv:yho ys its') (hz:ys.length<=sizeLine) :
  Inv X pins σ (upd H l (.lst ys)) { s with heap:=s.heap.update l (Obj.mapSeq f),toks:=t' }:=by
 have q:=PySem.IsL.update e f;rw[hf]at q;refine I.write (x:=l) (e:=l) (by rw[hH];exact trivial) (.inl rfl) (fun b' u hb hu=>(Heap.get?_update_other s.heap (Obj.mapSeq f) (Ne.symm hb)).trans hu) ⟨_,q⟩ ?_;exact⟨hz,its',_,hv,q⟩
theorem Inv.lnew{its:List Value}{t':Nat}(I:Inv X pins σ H s)(hv:yho ys its)(hz:ys.length<=sizeLine) :
  Inv X pins σ (upd H s.heap.objs.size (.lst ys)) { s with heap:=s.heap.push { cls:=.type "list",data:=.seq its.toArray },toks:=t' }:=
 I.laid (fun _ _ q=>Heap.get?_push_of_some _ q) (Nat.le_refl _) ⟨hz,its,0,hv,Heap.get?_push_size _ rfl⟩
theorem Inv.fresh(I:Inv X pins σ H s):H s.heap.objs.size=none:=I.hok.fresh (Nat.le_refl _)
theorem Inv.lstM(I:Inv X pins σ H s)(hH:H l=some (.lst xs)):xs.length<=sizeLine/\∃ (its:List Value) (n:Nat),yho xs its/\xs.length=its.length/\s.heap.get? l=some { cls:=.type "list",data:=.seq its.toArray n }:=by
 obtain⟨z,its,n,r,e⟩:=I.hok l _ hH;exact⟨z,its,n,r,r.length,e⟩
theorem zlh{n:Nat}(h:n<=sizeLine):Builtin.List.listTooLong n=false:=by
 unfold Builtin.List.listTooLong;exact decide_eq_false (by omega)
end
section
variable{X:Cx}
def zs1:V->List V->Hp->VK->Prop:=fun x vs H Q=>∃ l xs y,x=.ref l/\vs=[y]/\H l=some (.lst xs)/\xs.length<sizeLine/\Q .non (upd H l (.lst (xs++[y])))
theorem zg1:MtM X "list.append" zs1:=by
 intro pins s σ H x vs v us Q I rx rv h;obtain⟨l,xs,y,rfl,rfl,hH,hz,q⟩:=h;cases rx;obtain⟨u,rfl,ru⟩:=rv.one;obtain⟨z,its,n,r,hl,e⟩:=I.lstM hH;refine call_meets F.slot_list_append ⟨_,e,rfl⟩ F.entry_list_append (F.args_list_append_2 _ _) (PySem.list_append l its.toArray n u (by rw[List.size_toArray];omega)) ⟨e,?_⟩;refine⟨.non,_,I.lset (its':=its++[u]) hH e (by simp) (r.append (.cons ru .nil)) ?_,rfl,q⟩;rw[List.length_append,List.length_singleton];omega
def zs3:V->List V->Hp->VK->Prop:=fun x vs H Q=>∃ l b xs zs,x=.ref l/\vs=[.ref b]/\H l=some (.lst xs)/\H b=some (.lst zs)/\xs.length+zs.length<=sizeLine/\Q .non (upd H l (.lst (xs++zs)))
theorem zg2:MtM X "list.extend" zs3:=by
 intro pins s σ H x vs v us Q I rx rv h;obtain⟨l,b,xs,zs,rfl,rfl,hH,hB,hz,q⟩:=h;cases rx;obtain⟨u,rfl,ru⟩:=rv.one;cases ru;obtain⟨z,its,n,r,hl,e⟩:=I.lstM hH;obtain⟨z2,its2,n2,r2,hl2,e2⟩:=I.lstM hB;have hsz:its.toArray.size+its2.toArray.size<=sizeLine:=by rw[List.size_toArray,List.size_toArray];omega
 have hlong:¬ (!its.toArray.isEmpty && Builtin.List.listTooLong (its.toArray.size+its2.toArray.size))=true:=by
  rw[zlh hsz,Bool.and_false];exact Bool.false_ne_true
 refine call_meets F.slot_list_extend ⟨_,e,rfl⟩ F.entry_list_extend (F.args_list_extend_2 _ _)
  (AutoSeq1.list_extend_list_list_0 l its.toArray n b its2.toArray n2 hlong (by rw[List.size_toArray];omega) (by omega)) ⟨e,e2,?_⟩
 refine⟨.non,_,I.lset (its':=its++its2) hH e (by simp) (r.append r2) ?_,rfl,q⟩;rw[List.length_append];omega
def yj4:R2:=fun x y H Q=>∃ l b xs zs,x=.ref l/\y=.ref b/\H l=some (.lst xs)/\H b=some (.lst zs)/\xs.length+zs.length<=sizeLine/\∀ p,H p=none->Q (.ref p) (upd H p (.lst (xs++zs)))
theorem zzk:OpR X (binaryOp .Add) yj4:=by
 intro pins s σ H x y v u Q I rx ry h;obtain⟨l,b,xs,zs,rfl,rfl,hH,hB,hz,q⟩:=h;cases rx;cases ry;obtain⟨z,its,n,r,hl,e⟩:=I.lstM hH;obtain⟨z2,its2,n2,r2,hl2,e2⟩:=I.lstM hB;refine PySem.P.add_list e e2 ?_ (by rw[List.size_toArray,List.size_toArray];omega);have ea:its.toArray++its2.toArray=(its++its2).toArray:=by simp
 rw[ea];exact⟨.ref _,_,I.lnew (t':=s.toks) (r.append r2) (by rw[List.length_append];omega),rfl,q _ I.fresh⟩
end
section
variable{prog:Program}{w:World}{A:Around}{E:Value->Shared->Prop}{s:Shared}
set_option maxRecDepth 100000 in
end
section
variable{X:Cx}
end
end L2
namespace Att
open PySem PySem.W PySem.Calls PyProof.Rows
theorem zaz{P:Params}{h:Heap}:∀ (ns:List Int) (vs:List Value),WellAll P h vs (ns.map WData.int)->IntsAre vs ns:=by
 intro ns;induction ns with
 |nil=>
  intro vs w;rw[List.map_nil]at w;cases w;exact .nil
 |cons n ns ih=>
  intro vs w;rw[List.map_cons]at w;cases w with
  |cons a b=>
   cases a;exact .cons _ _ (ih _ b)
theorem zhq{l:OpenLaw}{n:Nat}(hn:l.most=some n){P:Params}{h:Heap}{args:List WData}{vals:List Value}
  (hpre:l.row.toRowW.claim.pre args=true) (hwl:WellAll P h vals args) :
  ∃ a vs ns,vals=[Value.ref a]/\args=[WData.list (ns.map WData.int)]/\h.get? a=some { cls:=.type "list",data:=.seq vs.toArray }/\IntsAre vs ns/\ns.length<=n:=by
 have hsh:WShape.hasAll [] args [.list .int]=true:=(pre_splitW hpre).1;have hc:l.pre.holds [] { args:=args }=true:=(pre_splitW hpre).2;obtain⟨d,r,rfl,h1,h2⟩:=hasAllW_cons hsh;obtain rfl:=hasAllW_nil h2;obtain⟨xs,rfl,h3⟩:=hasW_list h1;obtain⟨ns,rfl⟩:=items_int h3;have hlen:ns.length<=n:=by
  unfold OpenLaw.pre at hc;have h4:(WTm.not (.lt (.lit (.int (n:Int))) (.len (.arg 0)))).holds [] { args:=[.list (ns.map .int)] }=true:=by
   have h4:=(holds_andW hc).1;rw[hn]at h4;exact h4
  have h5:=condW_of h4 (w_not (w_lt w_lit (w_len_list (w_arg rfl))));rw[List.length_map]at h5;refine Nat.le_of_not_lt fun q=>?_;have q':(n:Int)<((ns.length:Nat):Int):=by omega
  first
   |(rw[decide_eq_true q']at h5;exact absurd h5 (by decide))
   |(simp at h5;omega)
 cases hwl with
 |cons w1 w2=>
  cases w2;cases w1 with
  |list ho hall=>exact⟨_,_,ns,rfl,rfl,ho,zaz ns _ hall,hlen⟩
theorem zhf(l:OpenLaw)(args:List WData):l.row.toRowW.claim.post args (.bool true) args=true:=
 postW_of (r:=l.row.toRowW) (X:=(true == true))
  (show WShape.has [] (.bool true) .bool=true by first|rfl|decide|simp[WShape.has,WShape.arms,WShape.armsAll])
  (show (WTm.eq .res (.lit (.bool true))).value [] { args:=args,res:=some (.bool true),after:=args }=some (.bool (true == true))from w_eq_bool (w_res rfl) w_lit) rfl
theorem attach_call{l:OpenLaw}{n:Nat}{q:Program}{loose:List Str}{XP:(Str->Option Value)->Heap->Prop}{YP:World->Heap->Prop}{d:DefRec}
  (hn:l.most=some n) (hdf:d.params.defaults=[])
  (call:∀ (w:World) (s₀ s₁:Shared) (mg mb:Str->Option Value) (fa:Addr) (o:Obj) (pm cd doc:Value) (a:Addr) (vs:List Value) (ns:List Int),
   Ground q loose [] XP w s₀ mg mb s₁.heap->YP w s₁.heap->
   s₁.heap.get? fa=some o->o.data=.func (docDef d.name d.params d.body d.scope pm cd doc)->s₁.heap.CodeRec cd d.name->mg d.name=some (.ref fa)->
   s₁.heap.get? a=some { cls:=.type "list",data:=.seq vs.toArray }->IntsAre vs ns->ns.length<=n->s₁.gens=#[]->
   codeAny (model l.prog w) callerA (.call (.ref fa) ⟨[.ref a],[]⟩) (fun r s'=>r=.ok (.ret (.bool true))/\OldK s₁.heap s'.heap/\s'.os=s₁.os/\AllBare s'.gens) s₁) :
  WalkO q loose XP YP l.row.toRowW d [] (fun f vs=>PySem.call f vs):=by
 intro w s₀ s₁ mg mb G Y fa o pm cd doc dV kV ho hd hcd hD hmg hg args vals as hpre hlay hrd hwl hlo;obtain rfl:dV=.none:=Dflts.none hD hdf;obtain rfl:kV=.none:=Dflts.noKw hD;obtain⟨a,vs,ns,rfl,rfl,hobj,hints,hlen⟩:=zhq hn hpre hwl;refine enter_call (codeAny_mono (call w s₀ s₁ mg mb fa o pm cd doc a vs ns G Y ho (fd_plain hd) hcd hmg hobj hints hlen hg) fun r s' hq=>?_);obtain⟨rfl,h2,h3,h4⟩:=hq;exact⟨.inl ⟨.bool true,.bool true,[],rfl,fun _=>rfl,.bool true,zhf l _,fun _=>⟨List.Pairwise.nil,fun _ hm=>(nomatch hm)⟩⟩,h2,h3,h4⟩
section
variable{prog:Program}{w:World}{A:Around}{E:Value->Shared->Prop}{s:Shared}{K:Frag}
def zyu(h:Heap)(L d:Addr):List (Addr × Obj):=(List.range h.objs.size).filterMap fun a=>if a=L\/a=d then none else (h.get? a).map fun o=>(a,o)
end
end Att
namespace L2
open PySem PySem.Spec PyProof.Rows
theorem zh4:∀ {vs:List Value} {ns:List Int},IntsAre vs ns->yho (ns.map V.int) vs
 |_,_,.nil=>.nil
 |_,_,.cons n t h=>.cons ⟨t,rfl⟩ (zh4 h)
def yg9(H:Hp):Prop:=∀ b,H b=none\/∃ o xs,H b=some (.frz o (.lst xs))
theorem zku{P:Program}{w:World}{K:PySem.W.Frag}{mg mb:Str->Option Value}{CX:CXT}{k:Nat}{fa a:Addr}{fd:FuncData}{x:Str}{sp:Sp}{s₁:Shared}{vs:List Value}{ns:List Int}
  (KX:K.In s₁.heap) (hns:s₁.heap.Ns mainGlobals mg) (hb:s₁.heap.Ns builtinsNs mb) (hbb:∀ x:Str,x ≠ "__name__"->mb x=bootBuiltins x) (hlim:s₁.heap.NoLimit) (hg:s₁.gens=#[])
  (ha:s₁.heap.get? a=some { cls:=.type "list",data:=.seq vs.toArray }) (hi:IntsAre vs ns) (hl:ns.length<=sizeLine) (hr:Room k callerA)
  (F:∀ base:Heap,K.In base->base.Ns mainGlobals mg->FnOk P w K mg base CX k fa fd [x] sp) (hbind:∀ (s:Shared) (u:Value),BindsTo s fd ⟨[u],[]⟩ [(x,u)])
  (hsp:∀ H:Hp,yg9 H->SqL K H a (ns.map V.int)->sp [.ref a] H (fun v _=>v=.bl true) fun _ _ _=>False)
  (hCX:∀ H e s',CX [] H s₁ (fun _ _ _=>False) e s'->False) :
  codeAny (model P w) callerA (.call (.ref fa) ⟨[.ref a],[]⟩) (fun r s'=>r=.ok (.ret (.bool true))/\OldK s₁.heap s'.heap/\s'.os=s₁.os/\AllBare s'.gens) s₁:=by
 have rv:=zh4 hi;have lenV:=hi.length;have core:∀ H:Hp,yg9 H->SqL K H a (ns.map V.int)->HOk P w H s₁.heap->(∀ b,H b≠none->b=a)->(H a≠none->K.lookup a=none)->
   codeAny (model P w) callerA (.call (.ref fa) ⟨[.ref a],[]⟩) (fun r s'=>r=.ok (.ret (.bool true))/\OldK s₁.heap s'.heap/\s'.os=s₁.os/\AllBare s'.gens) s₁:=by
  intro H hO hS hok hA hK;have base_of:∀ {b:Addr} {o:Obj},s₁.heap.get? b=some o->H b=none->(yiz s₁.heap H).get? b=some o:=fun e n=>zkf e n;have noA:∀ {b:Addr} {o:Obj} {es:Array DictEntry} {ep:Nat},s₁.heap.get? b=some o->o.data=.dict es ep->H b=none:=fun {b o es ep} e d=>by
   cases q:H b with
   |none=>rfl
   |some u=>
    have e':b=a:=hA b (by rw[q];simp);subst e';rw[ha]at e;cases e;have d':Data.seq vs.toArray _=Data.dict es ep:=d;cases d'
  have nsK:∀ {b:Addr} {m:Str->Option Value},s₁.heap.Ns b m->(yiz s₁.heap H).Ns b m:=fun {b m} ⟨o,es,ep,e,d,r⟩=>⟨o,es,ep,base_of e (noA e d),d,r⟩
  have hKb:K.In (yiz s₁.heap H):=fun b o e=>base_of (KX b o e) (by
   cases q:H b with
   |none=>rfl
   |some u=>
    have e':b=a:=hA b (by rw[q];simp);subst e';rw[hK (by rw[q];simp)]at e;cases e)
  have hM:Mod K mg (yiz s₁.heap H):=⟨hKb,nsK hns,⟨mb,nsK hb,hbb⟩,let ⟨mc,h1,h2⟩:=hlim;⟨mc,nsK h1,h2⟩⟩
  have e0:Env0 P w K mg (yiz s₁.heap H) callerA [] s₁ H:=⟨rfl,hM,fun b o e=>zsd e,Nat.le_of_eq (zgg _ _),trivial,fun b hb=>absurd (show b∈([]:List Addr)from hb) (by simp),hok,.of_eq hg⟩
  refine codeAny_mono ((F _ hKb (nsK hns)).run callerA [] s₁ H ⟨[.ref a],[]⟩ [.ref a] [.ref a] _ _ hr e0 (hbind s₁ (.ref a)) (.cons rfl .nil) (hsp H hO hS)) fun r s' h=>?_;cases r with
  |error e=>exact(hCX H e s' h).elim
  |ok fl=>
   cases fl with
   |next=>exact False.elim h
   |brk=>exact False.elim h
   |cont=>exact False.elim h
   |ret u=>
    obtain⟨v,H',os,bare,un,hok',r',q⟩:=h;have q':v=.bl true:=q;subst q';obtain rfl:u=Value.bool true:=r';refine⟨rfl,OldK.of_keep fun b o e=>?_,os,bare⟩;cases q:H b with
    |none=>exact un.keep b o e q (by intro z;exact absurd (show b∈([]:List Addr)from z) (by simp)) (by simp)
    |some u=>
     rcases hO b with z|⟨ob,xs,z⟩
     ·rw[q]at z;cases z
     ·have z2:=un.frzs b ob _ z;obtain⟨e1,_⟩:=hok b _ z;obtain⟨e2,_⟩:=hok' b _ z2;rw[e]at e1;cases e1;exact e2
 cases hk:K.lookup a with
 |some o=>
  have e:=KX a o hk;rw[ha]at e;cases e;refine core (fun _=>none) (fun _=>.inl rfl) (.inr ⟨_,vs.toArray,_,hk,rfl,rfl,rfl,by rw[List.size_toArray,lenV];exact hl,by simpa using rv⟩) (fun b u z=>by have z':(none:Option HO)=some u:=z;cases z') (fun b z=>absurd rfl z) fun z=>absurd rfl z
 |none=>
  refine core (fun b=>if b=a then some (.frz { cls:=.type "list",data:=.seq vs.toArray } (.lst (ns.map V.int)))else none) (fun b=>?_) (.inl (.inr ⟨{ cls:=.type "list",data:=.seq vs.toArray },if_pos rfl⟩)) (fun b u z=>?_) (fun b z=>?_) fun _=>hk
  ·by_cases hb:b=a
   ·exact .inr ⟨_,_,if_pos hb⟩
   ·exact .inl (if_neg hb)
  ·by_cases hb:b=a
   ·have z':=(if_pos hb).symm.trans z;cases z';subst hb;exact⟨ha,by rw[List.length_map];exact hl,vs,_,rv,ha⟩
   ·have z':=(if_neg hb).symm.trans z;cases z'
  ·by_cases hb:b=a
   ·exact hb
   ·exact absurd (if_neg hb) z
end L2
namespace L2
open PySem PySem.Spec PyProof.Rows
abbrev KOf{K:PySem.W.Frag}{h:Heap}(_:K.In h):PySem.W.Frag:=K
theorem zu7{l:PySem.W.OpenLaw}{n k:Nat}{q:Program}{loose:List Str}{XP:(Str->Option Value)->Heap->Prop}{YP:World->Heap->Prop}{d:DefRec}{K:Params->PySem.W.Frag}{CX:World->CXT}{sp:World->Sp}{x:Str}
  (hn:l.most=some n) (hn2:n<=sizeLine) (hdf:d.params.defaults=[]) (hr:Room k callerA)
  (hY:∀ (w:World) (h:Heap),YP w h->(K w.params).In h)
  (F:∀ (w:World) (mg:Str->Option Value) (fa:Addr) (h:Heap),(K w.params).In h->h.Ns mainGlobals mg->mg d.name=some (.ref fa)->
   ∃ fd:FuncData,(∀ (s:Shared) (u:Value),BindsTo s fd ⟨[u],[]⟩ [(x,u)])/\
    ∀ base:Heap,(K w.params).In base->base.Ns mainGlobals mg->FnOk l.prog w (K w.params) mg base (CX w) k fa fd [x] (sp w))
  (hsp:∀ (w:World) (H:Hp) (a:Addr) (ns:List Int),ns.length<=n->yg9 H->SqL (K w.params) H a (ns.map V.int)->sp w [.ref a] H (fun v _=>v=.bl true) fun _ _ _=>False)
  (hCX:∀ (w:World) (H:Hp) (s:Shared) (e:Value) (s':Shared),CX w [] H s (fun _ _ _=>False) e s'->False) :
  PySem.W.WalkO q loose XP YP l.row.toRowW d [] (fun f vs=>PySem.call f vs):=by
 refine Att.attach_call hn hdf fun w s₀ s₁ mg mb fa o pm cd doc a vs ns G Y ho hd hcd hmg hobj hints hlen hg=>?_;have KX:=hY w _ Y;obtain⟨fd,hb,hF⟩:=F w mg fa _ KX G.T.g hmg;exact zku KX G.T.g G.T.b G.T.builtins G.T.nolimit hg hobj hints (Nat.le_trans hlen hn2) hr hF hb (fun H hO hS=>hsp w H a ns hlen hO hS) fun H e s'=>hCX w H s₁ e s'
end L2
namespace L2
open PySem PySem.Spec PyProof.Rows
def zo3(s:Stmt):Arguments:=match s with
 | .FunctionDef _ a _ _ _ _ _ _ _ _=>a
 |_=>{ posonlyargs:=[],args:=[],vararg:=none,kwonlyargs:=[],kw_defaults:=[],kwarg:=none,defaults:=[] }
def zo4(s:Stmt):List Stmt:=match s with
 | .FunctionDef _ _ b _ _ _ _ _ _ _=>b
 |_=>[]
def ziy(s:Stmt):Scope:=match s with
 | .FunctionDef _ _ _ _ _ _ sc _ _ _=>sc
 |_=>{ kind:=.function,names:=[],isGenerator:=false,isCoroutine:=false }
abbrev CX0:CXT:=fun _ _ _ _ _ _=>False
abbrev E0:XK:=fun _ _ _=>False
structure Fun(K:PySem.W.Frag)(x qual:Str)(st:Stmt)(f:Addr)(fd:FuncData):Prop where
 ex:∃ (oc:Value) (od:Option Addr) (kV doc pm:Value) (an:Option Addr) (cdv ct:Value) (osl:Array (Option Value)),
  fd=PySem.W.fnOf x qual (zo3 st) (zo4 st) (ziy st) .none kV doc pm an cdv ct/\K.lookup f=some ⟨oc,od,.func fd,osl⟩/\PySem.W.codeIn K cdv qual=true
 kp:PySem.W.keepIn K (.ref f)=true
section
variable{P:Program}{w:World}{K:PySem.W.Frag}{mg:Str->Option Value}{base:Heap}
theorem Fun.ok{x qual:Str}{st:Stmt}{f:Addr}{fd:FuncData}{N ps:List Str}{k:Nat}{sp:Sp}(F:Fun K x qual st f fd)(S:FnScope N ps (ziy st))(len:∀ vs H Q E,sp vs H Q E->vs.length=ps.length)
  (hbody:∀ (cdv:Value) (A:Around) (outer:List Env) (s:Shared) (H:Hp) (vs:List V) (Q:VK) (E:XK),Room k (A.deeper (envOfC qual (ziy st) s.heap.objs.size f cdv))->sp vs H Q E->
   ∃ t,PSs (yh9 CX0 P w K mg base N qual (ziy st) f cdv A outer s H E).nox (zo4 st) t/\t { nx:=fun _ H'=>Q .non H',rt:=Q } (yf8 N vs) H):FnOk P w K mg base CX0 (k+1) f fd ps sp:=by
 obtain⟨oc,od,kV,doc,pm,an,cdv,ct,osl,rfl,lk,hcd⟩:=F.ex;refine ydq lk hcd S len fun A outer s H vs Q E hr hsp=>?_;obtain⟨t,h,q⟩:=hbody cdv A outer s H vs Q E hr hsp;exact⟨t,h.nox,q⟩
theorem Fun.binds{x qual:Str}{st:Stmt}{f:Addr}{fd:FuncData}{ps:List Str}(F:Fun K x qual st f fd)
  (h:∀ (kV doc pm:Value) (an:Option Addr) (cdv ct:Value) (us:List Value),us.length=ps.length->bindArgs (PySem.W.fnOf x qual (zo3 st) (zo4 st) (ziy st) .none kV doc pm an cdv ct) ⟨us,[]⟩=pure (ps.zip us)):yb1 K fd ps []:=by
 obtain⟨oc,od,kV,doc,pm,an,cdv,ct,osl,rfl,lk,hcd⟩:=F.ex;exact .all (h kV doc pm an cdv ct)
theorem zxz{x qual:Str}{st:Stmt}{f:Addr}{oc:Value}{od an:Option Addr}{osl:Array (Option Value)}{kV doc pm cdv ct:Value}(l:K.lookup f=some ⟨oc,od,.func (PySem.W.fnOf x qual (zo3 st) (zo4 st) (ziy st) .none kV doc pm an cdv ct),osl⟩)
  (c:PySem.W.codeIn K cdv qual=true) (k:PySem.W.keepIn K (.ref f)=true):Fun K x qual st f (PySem.W.fnOf x qual (zo3 st) (zo4 st) (ziy st) .none kV doc pm an cdv ct):=⟨⟨oc,od,kV,doc,pm,an,cdv,ct,osl,rfl,l,c⟩,k⟩
end
theorem zhv{n:Nat}(h:n<=1000):n<sizeLine:=Nat.lt_of_le_of_lt h (by decide)
section
variable{X:Cx}
end
def yhi(H H':Hp):Prop:=∀ b o,H b=some o->H' b=some o
theorem yhi.refl(H:Hp):yhi H H:=fun _ _ h=>h
theorem yhi.trans{H H1 H2:Hp}(a:yhi H H1)(b:yhi H1 H2):yhi H H2:=fun c o h=>b c o (a c o h)
theorem yhi.free{H H':Hp}(e:yhi H H'){l:Addr}(h:H' l=Option.none):H l=Option.none:=by
 cases q:H l with
 |none=>rfl
 |some o=>
  rw[e l o q]at h;cases h
theorem yhi.seq{K:PySem.W.Frag}{H H':Hp}{a:Addr}{xs:List V}(e:yhi H H')(h:SqL K H a xs):SqL K H' a xs:=by
 rcases h with(h|⟨o,h⟩)|h
 ·exact .inl (.inl (e _ _ h))
 ·exact .inl (.inr ⟨o,e _ _ h⟩)
 ·exact .inr h
end L2
namespace L4
open PySem PySem.Spec PyProof.Rows L2
theorem zqp{α:Type}(a:α):∃ b,b=a:=⟨a,rfl⟩
noncomputable def hide{α:Type}(a:α):α:=Classical.choose (zqp a)
@[simp] theorem zqo{α:Type}(a:α):hide a=a:=Classical.choose_spec (zqp a)
inductive D where
 |non|bl (b:Bool)|int (i:Int)|str (x:Str)|tup (xs:List D)|scr (ns:List Int)|ref (n:Nat)
 |lst (xs:List D)|dic (ks:List Key) (xs:List D)|obj (c:Nat) (ns:List Str) (xs:List D)|exn (c:Nat)
inductive Ob where
 |lst (xs:List D)
 |dic (kvs:List (Key × D))
 |ins (c:Nat) (fs:List (Str × D))
abbrev Sto:=List Ob
abbrev St:=L2.St
abbrev Ev:=List (Option D)
structure Xn where
 cls:Nat
inductive Out(α:Type) where
 |ok (a:α) (σ:Sto)
 |ex (x:Xn) (σ:Sto)
 |bad
abbrev M(α:Type):=Sto->Out α
def ret{α:Type}(a:α):M α:=fun σ=>.ok a σ
def bad{α:Type}:M α:=fun _=>.bad
def Out.bind{α β:Type}(o:Out α)(k:α->M β):Out β:=match o with
 | .ok a σ'=>k a σ'
 | .ex x σ'=>.ex x σ'
 | .bad=>.bad
def bnd{α β:Type}(m:M α)(k:α->M β):M β:=fun σ=>(m σ).bind k
inductive Fl where
 |nx (ρ:Ev)|rt (d:D)|bk (ρ:Ev)|ct (ρ:Ev)|xc (ρ:Ev) (x:Xn)
structure Tab where
 P:Addr
 line:Int
 col:Int
 qual:Str
structure Tx where
 tbs:List Tab
 bm:Addr
structure Tb where
 K:PySem.W.Frag
 ca:Nat->Addr
 tx:Tx
def zvb(q:Str)(c:Addr):Heap->Prop:=fun h=>∃ o vs t,h.get? c=some o/\o.data=.fields vs/\vs[1]?=some (.str q t)
def ygt(bm:Addr):Heap->Prop:=fun h=>∃ o,h.get? bm=some o/\o.cls=.type "module"/\o.dict=some builtinsNs/\o.data=.plain
def yhl(T:Tb)(μ:List Addr)(H:Hp):Prop:=∀ t∈T.tx.tbs,(T.tx.bm ∉ μ/\∃ ob,H T.tx.bm=some (.frz ob (.ext (ygt T.tx.bm))))/\t.P ∉ μ/\∃ ps,H t.P=some (.tbl ps)/\(ps=#[]\/∃ c,ps=#[rawInt t.line,rawInt t.col,.ref c]/\c ∉ μ/\H c=some (.ext (zvb t.qual c)))
theorem yhl.grow{T:Tb}{μ:List Addr}{H H':Hp}(h:yhl T μ H)(k:∀ b u,H b=some u->H' b=some u):yhl T μ H':=fun t ht=>by
 obtain⟨⟨a1,ob,a2⟩,a3,ps,a4,a5⟩:=h t ht;exact⟨⟨a1,ob,k _ _ a2⟩,a3,ps,k _ _ a4,a5.imp id fun⟨c,e,n,z⟩=>⟨c,e,n,k _ _ z⟩⟩
theorem yhl.sub{T:Tb}{μ μ':List Addr}{H:Hp}(h:yhl T μ' H)(k:∀ b∈μ,b∈μ'):yhl T μ H:=fun t ht=>by
 obtain⟨⟨a1,a2⟩,a3,ps,a4,a5⟩:=h t ht;exact⟨⟨fun z=>a1 (k _ z),a2⟩,fun z=>a3 (k _ z),ps,a4,a5.imp id fun⟨c,e,n,z⟩=>⟨c,e,fun y=>n (k _ y),z⟩⟩
theorem yhl.more{T:Tb}{μ:List Addr}{H:Hp}{p:Addr}(h:yhl T μ H)(hp:H p=none):yhl T (μ++[p]) H:=fun t ht=>by
 obtain⟨⟨a1,ob,a2⟩,a3,ps,a4,a5⟩:=h t ht;have ne:∀ {b:Addr} {u:HO},H b=some u->b ∉ μ->b ∉ μ++[p]:=fun {b u} e n z=>(List.mem_append.mp z).elim n fun y=>by
  have y':b=p:=by simpa using y
  subst y';rw[hp]at e;cases e
 exact⟨⟨ne a2 a1,ob,a2⟩,ne a4 a3,ps,a4,a5.imp id fun⟨c,e,n,z⟩=>⟨c,e,ne z n,z⟩⟩
theorem yhl.out{T:Tb}{μ:List Addr}{H H':Hp}{a:Addr}(h:yhl T μ H)(hk:∀ b,b≠a->H' b=H b)(ha:a∈μ\/∃ kvs,H a=some (.dK kvs)):yhl T μ H':=fun t ht=>by
 obtain⟨⟨a1,ob,a2⟩,a3,ps,a4,a5⟩:=h t ht;have ne:∀ {b:Addr} {u:HO},H b=some u->b ∉ μ->(∀ kvs,u≠.dK kvs)->H' b=some u:=fun {b u} e n d=>by
  rw[hk b (fun z=>by
   subst z;rcases ha with y|⟨kvs,y⟩
   ·exact n y
   ·rw[e]at y;cases y;exact d kvs rfl)]
  exact e
 exact⟨⟨a1,ob,ne a2 a1 (fun _ z=>by cases z)⟩,a3,ps,ne a4 a3 (fun _ z=>by cases z),a5.imp id fun⟨c,e,n,z⟩=>⟨c,e,n,ne z n (fun _ y=>by cases y)⟩⟩
def Tb.cv(T:Tb)(x:Xn):Value:=.ref (T.ca x.cls)
def fdN(c:Nat):Option Nat:=if c<100 then none else some (c / 100 - 1)
def yb4(C a:Addr):Heap->Prop:=fun h=>∃ o,h.get? a=some o/\o.cls=.ref C
def zvc(C:Addr)(dd:Option Addr)(a:Addr):Heap->Prop:=fun h=>∃ o,h.get? a=some o/\o.cls=.ref C/\∀ dN,dd=some dN->o.dict=some dN/\∃ vs,o.data=.fields vs
def yb9(dN:Addr)(n:Nat):Heap->Prop:=fun h=>∃ o,h.get? dN=some o/\∃ es ep t,o.data=.dict es ep/\StrKeys es/\nsFind es "pot" = some (.int n t)
def Scr(K:PySem.W.Frag)(H:Hp)(a:Addr)(ns:List Int):Prop:=
 (∃ o,H a=some (.frz o (.lst (ns.map V.int))))\/
  ∃ (o:Obj) (its:Array Value) (n:Nat),K.lookup a=some o/\o.cls=.type "list"/\o.dict=none/\o.data=.seq its n/\its.size<=sizeLine/\yho (ns.map V.int) its.toList
theorem Scr.seq{K:PySem.W.Frag}{H:Hp}{a:Addr}{ns:List Int}(h:Scr K H a ns):SqL K H a (ns.map V.int):=by
 rcases h with⟨o,h⟩|h
 ·exact .inl (.inr ⟨o,h⟩)
 ·exact .inr h
mutual
def Rep(T:Tb)(μ:List Addr)(H:Hp):D->V->Prop
 | .non,v=>v=.non
 | .bl b,v=>v=.bl b
 | .int i,v=>v=.int i
 | .str x,v=>v=.str x
 | .tup ds,v=>∃ p vs,v=.ref p/\H p=some (.tup vs)/\yhh T μ H ds vs
 | .scr ns,v=>∃ a,v=.ref a/\Scr T.K H a ns
 | .ref n,v=>∃ a,v=.ref a/\μ[n]?=some a
 | .lst ds,v=>∃ a vs,v=.ref a/\a ∉ μ/\H a=some (.lst vs)/\yhh T μ H ds vs
 | .dic ks ds,v=>∃ a kvs,v=.ref a/\a ∉ μ/\Rd H a (.dK kvs)/\kvs.map (·.1)=ks/\yhh T μ H ds (kvs.map (·.2))
 | .obj c ns ds,v=>∃ a dx fs,v=.ref a/\a ∉ μ/\H a=some (.ins (T.ca c) dx fs)/\fs.map (·.1)=ns/\yhh T μ H ds (fs.map (·.2))
 | .exn c,v=>∃ a dd,v=.ref a/\a ∉ μ/\H a=some (.ext (zvc (T.ca c) dd a))/\∀ n,fdN c=some n->∃ dN,dd=some dN/\dN ∉ μ/\H dN=some (.ext (yb9 dN n))
def yhh(T:Tb)(μ:List Addr)(H:Hp):List D->List V->Prop
 |[],vs=>vs=[]
 |d::ds,vs=>∃ v r,vs=v::r/\Rep T μ H d v/\yhh T μ H ds r
end
def Kp(o o':HO):Prop:=o'=o\/(∃ ob kvs,o=.dK kvs/\o'=.frz ob (.dK kvs))\/∃ ps ps',o=.tbl ps/\o'=.tbl ps'
theorem Kp.trans{a b c:HO}(x:Kp a b)(y:Kp b c):Kp a c:=by
 rcases x with rfl|⟨ob,kvs,rfl,rfl⟩|⟨ps,ps',rfl,rfl⟩
 ·exact y
 ·rcases y with rfl|⟨_,_,z,_⟩|⟨_,_,z,_⟩
  ·exact .inr (.inl ⟨ob,kvs,rfl,rfl⟩)
  ·cases z
  ·cases z
 ·rcases y with rfl|⟨_,_,z,_⟩|⟨_,ps2,_,rfl⟩
  ·exact .inr (.inr ⟨ps,ps',rfl,rfl⟩)
  ·cases z
  ·exact .inr (.inr ⟨ps,ps2,rfl,rfl⟩)
structure Ext(μ:List Addr)(H:Hp)(μ':List Addr)(H':Hp):Prop where
 pre:∃ r,μ'=μ++r
 tup:∀ p xs,H p=some (.tup xs)->H' p=some (.tup xs)
 frz:∀ p o u,H p=some (.frz o u)->H' p=some (.frz o u)
 keep:∀ p o,H p=some o->p ∉ μ->(∃ o',H' p=some o'/\Kp o o')/\p ∉ μ'
theorem Ext.refl(μ:List Addr)(H:Hp):Ext μ H μ H:=⟨⟨[],by simp⟩,fun _ _ h=>h,fun _ _ _ h=>h,fun _ _ h n=>⟨⟨_,h,.inl rfl⟩,n⟩⟩
theorem Ext.trans{μ μ1 μ2:List Addr}{H H1 H2:Hp}(a:Ext μ H μ1 H1)(b:Ext μ1 H1 μ2 H2):Ext μ H μ2 H2:=by
 obtain⟨⟨r,rfl⟩,t1,f1,k1⟩:=a;obtain⟨⟨r',rfl⟩,t2,f2,k2⟩:=b;exact⟨⟨r++r',by simp⟩,fun p xs h=>t2 p xs (t1 p xs h),fun p o u h=>f2 p o u (f1 p o u h),fun p o h n=>let ⟨⟨o1,h1,c1⟩,n1⟩:=k1 p o h n;let ⟨⟨o2,h2,c2⟩,n2⟩:=k2 p o1 h1 n1;⟨⟨o2,h2,c1.trans c2⟩,n2⟩⟩
theorem Ext.keepN{μ μ':List Addr}{H H':Hp}(e:Ext μ H μ' H')(p:Addr)(o:HO)(h:H p=some o)(n:p ∉ μ)(hd:(∀ kvs,o≠.dK kvs)/\∀ ps,o≠.tbl ps:=by exact⟨(fun _ z=>by cases z),(fun _ z=>by cases z)⟩):H' p=some o/\p ∉ μ':=by
 obtain⟨⟨o',h1,c⟩,n'⟩:=e.keep p o h n;rcases c with rfl|⟨_,kvs,z,_⟩|⟨ps,_,z,_⟩
 ·exact⟨h1,n'⟩
 ·exact absurd z (hd.1 kvs)
 ·exact absurd z (hd.2 ps)
theorem Ext.rd{μ μ':List Addr}{H H':Hp}(e:Ext μ H μ' H')(p:Addr)(kvs:List (Key × V))(h:Rd H p (.dK kvs))(n:p ∉ μ):Rd H' p (.dK kvs)/\p ∉ μ':=by
 rcases h with h|⟨ob,h⟩
 ·obtain⟨⟨o',h1,c⟩,n'⟩:=e.keep p _ h n;rcases c with rfl|⟨ob,kvs',z,rfl⟩|⟨_,_,z,_⟩
  ·exact⟨.inl h1,n'⟩
  ·cases z;exact⟨.inr ⟨ob,h1⟩,n'⟩
  ·cases z
 ·exact⟨.inr ⟨ob,e.frz _ _ _ h⟩,(e.keep p _ h n).2⟩
theorem Ext.get{μ μ':List Addr}{H H':Hp}(e:Ext μ H μ' H'){n:Nat}{a:Addr}(h:μ[n]?=some a):μ'[n]?=some a:=by
 obtain⟨⟨r,rfl⟩,_,_⟩:=e;rw[List.getElem?_append_left (List.getElem?_eq_some_iff.mp h).1];exact h
mutual
theorem Rep.mono{T:Tb}{μ μ':List Addr}{H H':Hp}(e:Ext μ H μ' H'):∀ (d:D) (v:V),Rep T μ H d v->Rep T μ' H' d v
 | .non,v,h=>by simpa [Rep]using h
 | .bl b,v,h=>by simpa [Rep]using h
 | .int i,v,h=>by simpa [Rep]using h
 | .str x,v,h=>by simpa [Rep]using h
 | .tup ds,v,h=>by
  rw[Rep]at h ⊢;obtain⟨p,vs,h1,h2,h3⟩:=h;exact⟨p,vs,h1,e.tup _ _ h2,yhh.mono e ds vs h3⟩
 | .scr ns,v,h=>by
  rw[Rep]at h ⊢;obtain⟨a,h1,h2⟩:=h;refine⟨a,h1,?_⟩;rcases h2 with⟨o,h2⟩|h2
  ·exact .inl ⟨o,e.frz _ _ _ h2⟩
  ·exact .inr h2
 | .ref n,v,h=>by
  rw[Rep]at h ⊢;obtain⟨a,h1,h2⟩:=h;exact⟨a,h1,e.get h2⟩
 | .lst ds,v,h=>by
  rw[Rep]at h ⊢;obtain⟨a,vs,h1,h2,h3,h4⟩:=h;exact⟨a,vs,h1,(e.keepN _ _ h3 h2).2,(e.keepN _ _ h3 h2).1,yhh.mono e ds vs h4⟩
 | .dic ks ds,v,h=>by
  rw[Rep]at h ⊢;obtain⟨a,vs,h1,h2,h3,h5,h4⟩:=h;exact⟨a,vs,h1,(e.rd _ _ h3 h2).2,(e.rd _ _ h3 h2).1,h5,yhh.mono e ds _ h4⟩
 | .obj c ns ds,v,h=>by
  rw[Rep]at h ⊢;obtain⟨a,dx,vs,h1,h2,h3,h5,h4⟩:=h;exact⟨a,dx,vs,h1,(e.keepN _ _ h3 h2).2,(e.keepN _ _ h3 h2).1,h5,yhh.mono e ds _ h4⟩
 | .exn c,v,h=>by
  rw[Rep]at h ⊢;obtain⟨a,dd,h1,h2,h3,h4⟩:=h;exact⟨a,dd,h1,(e.keepN _ _ h3 h2).2,(e.keepN _ _ h3 h2).1,fun n q=>let ⟨dN,q1,q2,q3⟩:=h4 n q;⟨dN,q1,(e.keepN _ _ q3 q2).2,(e.keepN _ _ q3 q2).1⟩⟩
theorem yhh.mono{T:Tb}{μ μ':List Addr}{H H':Hp}(e:Ext μ H μ' H'):∀ (ds:List D) (vs:List V),yhh T μ H ds vs->yhh T μ' H' ds vs
 |[],vs,h=>by simpa [yhh]using h
 |d::ds,vs,h=>by
  rw[yhh]at h ⊢;obtain⟨v,r,h1,h2,h3⟩:=h;exact⟨v,r,h1,Rep.mono e d v h2,yhh.mono e ds r h3⟩
end
theorem yhh.nil{T:Tb}{μ:List Addr}{H:Hp}:yhh T μ H [] []:=by rw[yhh]
theorem yhh.cons{T:Tb}{μ:List Addr}{H:Hp}{d:D}{v:V}{ds:List D}{vs:List V}(h1:Rep T μ H d v)(h2:yhh T μ H ds vs):yhh T μ H (d::ds) (v::vs):=by
 rw[yhh];exact⟨v,vs,rfl,h1,h2⟩
theorem yhh.length{T:Tb}{μ:List Addr}{H:Hp}:∀ {ds:List D} {vs:List V},yhh T μ H ds vs->ds.length=vs.length
 |[],vs,h=>by rw[yhh]at h;subst h;rfl
 |d::ds,vs,h=>by
  rw[yhh]at h;obtain⟨v,r,rfl,_,h3⟩:=h;simp[yhh.length h3]
theorem yhh.get{T:Tb}{μ:List Addr}{H:Hp}:∀ {ds:List D} {vs:List V} {i:Nat} {d:D},yhh T μ H ds vs->ds[i]?=some d->∃ v,vs[i]?=some v/\Rep T μ H d v
 |[],vs,i,d,h,e=>by simp at e
 |d::ds,vs,0,x,h,e=>by
  rw[yhh]at h;obtain⟨v,r,rfl,h2,h3⟩:=h;simp at e;subst e;exact⟨v,rfl,h2⟩
 |d::ds,vs,i+1,x,h,e=>by
  rw[yhh]at h;obtain⟨v,r,rfl,h2,h3⟩:=h;simpa using yhh.get (i:=i) h3 (by simpa using e)
theorem yhh.append{T:Tb}{μ:List Addr}{H:Hp}:∀ {ds es:List D} {vs us:List V},yhh T μ H ds vs->yhh T μ H es us->yhh T μ H (ds++es) (vs++us)
 |[],es,vs,us,h,h'=>by rw[yhh]at h;subst h;simpa using h'
 |d::ds,es,vs,us,h,h'=>by
  rw[yhh]at h;obtain⟨v,r,rfl,h2,h3⟩:=h;exact yhh.cons h2 (yhh.append h3 h')
theorem yhh.set{T:Tb}{μ:List Addr}{H:Hp}{d:D}{v:V}(hd:Rep T μ H d v):∀ {ds:List D} {vs:List V} (i:Nat),yhh T μ H ds vs->yhh T μ H (ds.set i d) (vs.set i v)
 |[],vs,i,h=>by rw[yhh]at h;subst h;simpa using yhh.nil
 |x::ds,vs,0,h=>by
  rw[yhh]at h;obtain⟨w,r,rfl,h2,h3⟩:=h;exact yhh.cons hd h3
 |x::ds,vs,i+1,h=>by
  rw[yhh]at h;obtain⟨w,r,rfl,h2,h3⟩:=h;exact yhh.cons h2 (yhh.set hd i h3)
theorem yhh.drop{T:Tb}{μ:List Addr}{H:Hp}:∀ {ds:List D} {vs:List V} (n:Nat),yhh T μ H ds vs->yhh T μ H (ds.drop n) (vs.drop n)
 |ds,vs,0,h=>by simpa using h
 |[],vs,n+1,h=>by rw[yhh]at h;subst h;simpa using yhh.nil
 |x::ds,vs,n+1,h=>by
  rw[yhh]at h;obtain⟨w,r,rfl,h2,h3⟩:=h;simpa using yhh.drop n h3
theorem yhh.take{T:Tb}{μ:List Addr}{H:Hp}:∀ {ds:List D} {vs:List V} (n:Nat),yhh T μ H ds vs->yhh T μ H (ds.take n) (vs.take n)
 |ds,vs,0,h=>by simpa using yhh.nil
 |[],vs,n+1,h=>by rw[yhh]at h;subst h;simpa using yhh.nil
 |x::ds,vs,n+1,h=>by
  rw[yhh]at h;obtain⟨w,r,rfl,h2,h3⟩:=h;exact yhh.cons h2 (yhh.take n h3)
def yhf(T:Tb)(μ:List Addr)(H:Hp):List (Str × D)->List (Str × V)->Prop:=Paired fun p q=>p.1=q.1/\Rep T μ H p.2 q.2
def yhg(T:Tb)(μ:List Addr)(H:Hp):List (Key × D)->List (Key × V)->Prop:=Paired fun p q=>p.1=q.1/\Rep T μ H p.2 q.2
def ObR(T:Tb)(μ:List Addr)(H:Hp)(a:Addr):Ob->Prop
 | .lst ds=>∃ vs,H a=some (.lst vs)/\yhh T μ H ds vs
 | .dic kvs=>∃ vs,H a=some (.dK vs)/\yhg T μ H kvs vs
 | .ins c fs=>∃ dx vs,H a=some (.ins (T.ca c) dx vs)/\yhf T μ H fs vs
structure Rel(T:Tb)(μ:List Addr)(H:Hp)(σ:Sto):Prop where
 len:μ.length=σ.length
 nd:μ.Nodup
 obs:∀ (n:Nat) (o:Ob),σ[n]?=some o->∃ a,μ[n]?=some a/\ObR T μ H a o
 tb:yhl T μ H
def ygy(T:Tb)(μ:List Addr)(H:Hp)(ρ:Ev)(st:St):Prop:=ρ.length=st.length/\∀ (i:Nat) (d:D),ρ[i]?=some (some d)->∃ v,st[i]?=some (some v)/\Rep T μ H d v
theorem ygy.mono{T:Tb}{μ μ':List Addr}{H H':Hp}{ρ:Ev}{st:St}(e:Ext μ H μ' H')(h:ygy T μ H ρ st):ygy T μ' H' ρ st:=
 ⟨h.1,fun i d q=>let ⟨v,h1,h2⟩:=h.2 i d q;⟨v,h1,Rep.mono e d v h2⟩⟩
theorem ygy.set{T:Tb}{μ:List Addr}{H:Hp}{ρ:Ev}{st:St}{d:D}{v:V}(h:ygy T μ H ρ st)(i:Nat)(r:Rep T μ H d v):ygy T μ H (ρ.set i (some d)) (st.set i (some v)):=by
 refine⟨by simpa using h.1,fun j x q=>?_⟩;rw[List.getElem?_set]at q;by_cases hj:i=j
 ·subst hj;rw[if_pos rfl]at q;split at q
  ·rename_i hl
   cases q;exact⟨v,by rw[List.getElem?_set,if_pos rfl,if_pos (by rw[<-h.1];exact hl)],r⟩
  ·cases q
 ·rw[if_neg hj]at q;obtain⟨w,h1,h2⟩:=h.2 j x q;exact⟨w,by rw[List.getElem?_set,if_neg hj];exact h1,h2⟩
def Unt(e:Addr)(cls a0:Value)(h:Heap):Prop:=∃ oe vs,h.get? e=some oe/\oe.cls=cls/\oe.data=.fields vs/\1<vs.size/\vs[0]?=some a0/\vs[1]?=some .none
def yg1(B:Heap)(l:List Env)(e:Addr)(cls a0:Value)(h:Heap):Prop:=B.StaysIn h/\B.get? e=none/\h.FunFrames B l/\((∃ fl,h.TracedAtW B e cls a0 fl)\/Unt e cls a0 h)
def yhc(o:Obj)(n:Nat):Prop:=∃ es ep t,o.data=.dict es ep/\StrKeys es/\nsFind es "pot" = some (.int n t)
def FdH(fd:Option Nat)(e:Addr)(B h h0:Heap)(H':Hp):Prop:=∀ n,fd=some n->∃ dN oD oe,h.get? e=some oe/\oe.dict=some dN/\B.get? dN=some oD/\yhc oD n/\H' dN=none/\h0.get? dN=none
structure Fly(P:Program)(w:World)(outer:List Env)(H:Hp)(s:Shared)(cls:Value)(fd:Option Nat)(H':Hp)(e:Value)(s':Shared):Prop where
 ex:∃ (ea:Addr) (a0:Value) (B:Heap),e=.ref ea/\yg1 B outer ea cls a0 s'.heap/\H' ea=none/\s.heap.get? ea=none/\
  (∀ b o,H' b=some o->∃ ob,B.get? b=some ob)/\(∀ b o,s.heap.get? b=some o->H b=none->b ∉ frs outer->B.get? b=some o)/\(∀ b o,s.heap.get? b=some o->b ∉ frs outer->∃ o',B.get? b=some o')/\FdH fd ea B s'.heap s.heap H'
 os:s'.os=s.os
 bare:AllBare s'.gens
 un:Un (frs outer) [] H H' s.heap s'.heap
 hok:HOk P w H' s'.heap
def CXE(P:Program)(w:World):CXT:=fun outer H s E e s'=>∃ cls fd H',Fly P w outer H s cls fd H' e s'/\E cls fd H'
structure Thr(X:Cx)(st:St)(cls:Value)(fd:Option Nat)(H':Hp):Prop where
 fly:∀ (pins:List (Addr × Obj)) (H:Hp) (s:Shared) (e:Value) (s':Shared),Inv X pins st H s->Fly X.prog X.w X.stack H s cls fd H' e s'->X.xe e s'
abbrev XE(X:Cx)(st:St):XK:=fun cls fd H'=>Thr X st cls fd H'
def yhb{α γ:Type}(T:Tb)(E:XK)(R:List Addr->Hp->α->γ->Prop)(μ:List Addr)(H:Hp)(o:Out α)(Q:γ->Hp->Prop):Prop:=match o with
 | .ok a σ=>∀ μ' g H',Ext μ H μ' H'->Rel T μ' H' σ->R μ' H' a g->Q g H'
 | .ex x σ=>∀ μ' H',Ext μ H μ' H'->Rel T μ' H' σ->E (T.cv x) (fdN x.cls) H'
 | .bad=>False
theorem yhb.mono{α γ:Type}{T:Tb}{E:XK}{R:List Addr->Hp->α->γ->Prop}{μ μ1:List Addr}{H H1:Hp}{o:Out α}{Q:γ->Hp->Prop}(e:Ext μ H μ1 H1)(h:yhb T E R μ H o Q):yhb T E R μ1 H1 o Q:=by
 cases o with
 |ok a σ=>exact fun μ' g H' e' r q=>h μ' g H' (e.trans e') r q
 |ex x σ=>exact fun μ' H' e' r=>h μ' H' (e.trans e') r
 |bad=>exact h
theorem yhb.imp{α γ:Type}{T:Tb}{E:XK}{R:List Addr->Hp->α->γ->Prop}{μ:List Addr}{H:Hp}{o:Out α}{Q Q':γ->Hp->Prop}(h:yhb T E R μ H o Q)(k:∀ g H',Q g H'->Q' g H'):yhb T E R μ H o Q':=by
 cases o with
 |ok a σ=>exact fun μ' g H' e' r q=>k _ _ (h μ' g H' e' r q)
 |ex x σ=>exact h
 |bad=>exact h
theorem yhb.bind{α β γ δ:Type}{T:Tb}{E:XK}{R:List Addr->Hp->α->γ->Prop}{R':List Addr->Hp->β->δ->Prop}{μ:List Addr}{H:Hp}{m:M α}{k:α->M β}{σ:Sto}{Q:δ->Hp->Prop}{Q1:γ->Hp->Prop}
  (h:yhb T E R' μ H (bnd m k σ) Q) (f:∀ a σ1 μ1 g H1,m σ=.ok a σ1->Ext μ H μ1 H1->Rel T μ1 H1 σ1->R μ1 H1 a g->yhb T E R' μ1 H1 (k a σ1) Q->Q1 g H1):yhb T E R μ H (m σ) Q1:=by
 unfold bnd at h;cases e:m σ with
 |ok a σ1=>
  rw[e]at h;exact fun μ' g H' e' r q=>f a σ1 μ' g H' e e' r q (h.mono e')
 |ex x σ1=>rw[e]at h;exact h
 |bad=>rw[e]at h;exact h
theorem yhb.here{T:Tb}{E:XK}{α γ:Type}{R:List Addr->Hp->α->γ->Prop}{μ:List Addr}{H:Hp}{d:α}{σ:Sto}{g:γ}{Q:γ->Hp->Prop}(h:yhb T E R μ H (.ok d σ) Q)(r:Rel T μ H σ)(p:R μ H d g):Q g H:=h μ g H (Ext.refl _ _) r p
section
variable(T:Tb)(X:Cx)
def tF(f:Ev->M D):TE:=fun st H Q=>∃ μ ρ σ,ygy T μ H ρ st/\Rel T μ H σ/\yhb T (XE X st) (Rep T) μ H (f ρ σ) Q
def yca:List Addr->Hp->Bool->Bool->Prop:=fun _ _ a b=>b=a
def tT(f:Ev->M Bool):TT:=fun st H Q=>∃ μ ρ σ,ygy T μ H ρ st/\Rel T μ H σ/\yhb T (XE X st) yca μ H (f ρ σ) Q
def tL(f:Ev->M (List D)):TA:=fun st H Q=>∃ μ ρ σ,ygy T μ H ρ st/\Rel T μ H σ/\yhb T (XE X st) (yhh T) μ H (f ρ σ) Q
inductive Gl2 where
 |nx (st:St)|rt (v:V)|bk (st:St)|ct (st:St)|xc (st:St) (cls:Value) (fd:Option Nat)
def RFl(T:Tb)(μ:List Addr)(H:Hp):Fl->Gl2->Prop
 | .nx ρ,.nx st=>ygy T μ H ρ st
 | .rt d,.rt v=>Rep T μ H d v
 | .bk ρ,.bk st=>ygy T μ H ρ st
 | .ct ρ,.ct st=>ygy T μ H ρ st
 | .xc ρ x,.xc st cls fd=>ygy T μ H ρ st/\cls=T.cv x/\fd=fdN x.cls
 |_,_=>False
def ygz(X:Cx)(D:Ends):Gl2->Hp->Prop
 | .nx st,H=>D.nx st H
 | .rt v,H=>D.rt v H
 | .bk st,H=>D.bk st H
 | .ct st,H=>D.ct st H
 | .xc st cls fd,H=>Thr X st cls fd H
abbrev EN:XK:=fun _ _ _=>False
def tS(g:Ev->M Fl):TS:=fun D st H=>∃ μ ρ σ,ygy T μ H ρ st/\Rel T μ H σ/\yhb T EN (RFl T) μ H (g ρ σ) (ygz X D)
end
def xs{α:Type}(ρ:Ev)(m:M α)(k:α->M Fl):M Fl:=fun σ=>match m σ with
 | .ok a σ'=>k a σ'
 | .ex x σ'=>.ok (.xc ρ x) σ'
 | .bad=>.bad
theorem yhb.xs{α γ:Type}{T:Tb}{X:Cx}{D:Ends}{R:List Addr->Hp->α->γ->Prop}{μ:List Addr}{H:Hp}{ρ:Ev}{st:St}{m:M α}{k:α->M Fl}{σ:Sto}{Q1:γ->Hp->Prop}(hE:ygy T μ H ρ st)
  (h:yhb T EN (RFl T) μ H (L4.xs ρ m k σ) (ygz X D)) (f:∀ a σ1 μ1 g H1,m σ=.ok a σ1->Ext μ H μ1 H1->Rel T μ1 H1 σ1->R μ1 H1 a g->yhb T EN (RFl T) μ1 H1 (k a σ1) (ygz X D)->Q1 g H1):yhb T (XE X st) R μ H (m σ) Q1:=by
 unfold L4.xs at h;cases e:m σ with
 |ok a σ1=>
  rw[e]at h;exact fun μ' g H' e' r q=>f a σ1 μ' g H' e e' r q (h.mono e')
 |ex x σ1=>
  rw[e]at h;intro μ' H' e' r;exact h μ' (.xc st (T.cv x) (fdN x.cls)) H' e' r ⟨hE.mono e',rfl,rfl⟩
 |bad=>rw[e]at h;exact h
abbrev FE(T:Tb)(X:Cx)(e:Expr)(f:Ev->M D):Prop:=PE X e (tF T X f)
abbrev FT(T:Tb)(X:Cx)(e:Expr)(f:Ev->M Bool):Prop:=PT X e (tT T X f)
abbrev FW(T:Tb)(X:Cx)(e:Expr)(f:Ev->M Bool):Prop:=PW X e (tT T X f)
abbrev FA(T:Tb)(X:Cx)(es:List Expr)(f:Ev->M (List D)):Prop:=PA X es (tL T X f)
abbrev FS(T:Tb)(X:Cx)(st:Stmt)(g:Ev->M Fl):Prop:=PS X st (tS T X g)
abbrev FSs(T:Tb)(X:Cx)(st:List Stmt)(g:Ev->M Fl):Prop:=PSs X st (tS T X g)
end L4
namespace L4
open PySem PySem.Spec PyProof.Rows L2
def cap:Nat:=1000
theorem zv1{n:Nat}(h:n<=cap):n<=sizeLine:=Nat.le_of_lt (zhv h)
theorem zv2{n:Nat}(h:n<cap):n<sizeLine:=zhv (Nat.le_of_lt h)
theorem zle{α:Type}{l:List α}(h:l.Nodup){i j:Nat}{a:α}(hi:l[i]?=some a)(hj:l[j]?=some a):i=j:=by
 obtain⟨q1,q2⟩:=List.getElem?_eq_some_iff.mp hi;obtain⟨q3,q4⟩:=List.getElem?_eq_some_iff.mp hj;have hp:=List.pairwise_iff_getElem.mp h;rcases Nat.lt_trichotomy i j with z|z|z
 ·exact absurd (q2.trans q4.symm) (hp i j q1 q3 z)
 ·exact z
 ·exact absurd (q4.trans q2.symm) (hp j i q3 q1 z)
section
variable{T:Tb}{μ μ':List Addr}{H H':Hp}{σ:Sto}
theorem zdy{α:Type}(e:Ext μ H μ' H'){xs:List (α × D)}{ys:List (α × V)}(h:Paired (fun(p:α × D) (q:α × V)=>p.1=q.1/\Rep T μ H p.2 q.2) xs ys) :
  Paired (fun(p:α × D) (q:α × V)=>p.1=q.1/\Rep T μ' H' p.2 q.2) xs ys:=L2.Paired.mapP h fun p q z=>⟨z.1,Rep.mono e _ _ z.2⟩
theorem ObR.mono(e:Ext μ H μ' H'){a:Addr}(ha:H' a=H a):∀ {o:Ob},ObR T μ H a o->ObR T μ' H' a o
 | .lst ds,⟨vs,h,r⟩=>⟨vs,ha.trans h,yhh.mono e _ _ r⟩
 | .dic kvs,⟨vs,h,r⟩=>⟨vs,ha.trans h,zdy e r⟩
 | .ins c fs,⟨dx,vs,h,r⟩=>⟨dx,vs,ha.trans h,zdy e r⟩
theorem ObR.some{a:Addr}:∀ {o:Ob},ObR T μ H a o->∃ u,H a=Option.some u/\(∀ xs,u≠.tup xs)/\(∀ ob w,u≠.frz ob w)
 | .lst ds,⟨vs,h,r⟩=>⟨_,h,(fun _ z=>by cases z),(fun _ _ z=>by cases z)⟩
 | .dic kvs,⟨vs,h,r⟩=>⟨_,h,(fun _ z=>by cases z),(fun _ _ z=>by cases z)⟩
 | .ins c fs,⟨dx,vs,h,r⟩=>⟨_,h,(fun _ z=>by cases z),(fun _ _ z=>by cases z)⟩
theorem Rel.keep(r:Rel T μ H σ)(e:Ext μ H μ H')(k:∀ a∈μ,H' a=H a)(t:yhl T μ H'):Rel T μ H' σ:=
 ⟨r.len,r.nd,fun n o h=>let ⟨a,h1,h2⟩:=r.obs n o h;⟨a,h1,h2.mono e (k a (List.mem_of_getElem? h1))⟩,t⟩
theorem Rel.mem(r:Rel T μ H σ){a:Addr}(h:a∈μ):∃ u,H a=some u/\(∀ xs,u≠.tup xs)/\(∀ ob w,u≠.frz ob w):=by
 obtain⟨n,hn⟩:=List.getElem?_of_mem h;have hl:n<σ.length:=by rw[<-r.len];exact(List.getElem?_eq_some_iff.mp hn).1
 obtain⟨a',h1,h2⟩:=r.obs n σ[n] (by simp[hl]);rw[hn]at h1;cases h1;exact h2.some
theorem zpg{p:Addr}{o:HO}(hp:H p=none):Ext μ H μ (upd H p o):=
 ⟨⟨[],by simp⟩,fun q xs h=>by rw[yby (zev h hp)];exact h,fun q ob u h=>by rw[yby (zev h hp)];exact h,fun q ob h n=>⟨⟨ob,by rw[yby (zev h hp)];exact h,.inl rfl⟩,n⟩⟩
theorem Rel.fresh(r:Rel T μ H σ){p:Addr}{o:HO}(hp:H p=none):Rel T μ (upd H p o) σ:=
 r.keep (zpg hp) (fun a ha=>by obtain⟨u,h,_⟩:=r.mem ha;rw[yby (zev h hp)]) (r.tb.grow fun b u h=>by rw[yby (zev h hp)];exact h)
theorem zje{p:Addr}{o:HO}(hp:H p=none):Ext μ H (μ++[p]) (upd H p o):=
 ⟨⟨[p],rfl⟩,(zpg (μ:=μ) hp).tup,(zpg (μ:=μ) hp).frz,fun q ob h n=>⟨((zpg (μ:=μ) hp).keep q ob h n).1,fun z=>(List.mem_append.mp z).elim n fun z=>zev h hp (by simpa using z)⟩⟩
theorem Rel.push(r:Rel T μ H σ){p:Addr}{o:HO}{ob:Ob}(hp:H p=none)(ho:ObR T (μ++[p]) (upd H p o) p ob):Rel T (μ++[p]) (upd H p o) (σ++[ob]):=by
 refine⟨by simp[r.len],?_,fun n x h=>?_,(r.tb.more hp).grow fun b u h=>by rw[yby (zev h hp)];exact h⟩
 ·rw[List.nodup_append];refine⟨r.nd,by simp,fun a ha b hb e=>?_⟩;have eb:b=p:=by simpa using hb
  subst eb;subst e;obtain⟨u,h,_⟩:=r.mem ha;rw[hp]at h;cases h
 ·by_cases hn:n<σ.length
  ·rw[List.getElem?_append_left hn]at h;obtain⟨a,h1,h2⟩:=r.obs n x h;obtain⟨u,hu,_⟩:=h2.some;exact⟨a,by rw[List.getElem?_append_left (by rw[r.len];exact hn)];exact h1,h2.mono (zje hp) (yby (zev hu hp))⟩
  ·rw[List.getElem?_append_right (by omega)]at h;have e0:n - σ.length=0:=by
    have:=(List.getElem?_eq_some_iff.mp h).1;simp at this;omega
   rw[e0]at h;simp at h;subst h;have en:n=μ.length:=by rw[r.len];omega
   subst en;exact⟨p,by simp,ho⟩
theorem zmb{p:Addr}{o:HO}(r:Rel T μ H σ):Rep T (μ++[p]) (upd H p o) (.ref σ.length) (.ref p):=by
 rw[Rep];exact⟨p,rfl,by rw[<-r.len];simp⟩
theorem zf9{a:Addr}{u o:HO}(hm:a∈μ)(ha:H a=some u)(h1:∀ xs,u≠.tup xs)(h2:∀ ob w,u≠.frz ob w):Ext μ H μ (upd H a o):=
 ⟨⟨[],by simp⟩,fun q xs h=>by rw[yby (yev h ha (fun z=>h1 xs z.symm))];exact h,fun q ob w h=>by rw[yby (yev h ha (fun z=>h2 ob w z.symm))];exact h,fun q ob h n=>⟨⟨ob,by rw[yby (fun z=>n (by rw[z];exact hm))];exact h,.inl rfl⟩,n⟩⟩
theorem Rel.write(r:Rel T μ H σ){n:Nat}{a:Addr}{o:HO}{ob:Ob}(hn:μ[n]?=some a)(ho:ObR T μ (upd H a o) a ob):Ext μ H μ (upd H a o)/\Rel T μ (upd H a o) (σ.set n ob):=by
 obtain⟨u,hu,h1,h2⟩:=r.mem (List.mem_of_getElem? hn);have e:Ext μ H μ (upd H a o):=zf9 (List.mem_of_getElem? hn) hu h1 h2;refine⟨e,by simp[r.len],r.nd,fun m x h=>?_,r.tb.out (fun b hb=>yby hb) (.inl (List.mem_of_getElem? hn))⟩;rw[List.getElem?_set]at h;by_cases hm:n=m
 ·subst hm;rw[if_pos rfl]at h;split at h
  ·cases h;exact⟨a,hn,ho⟩
  ·cases h
 ·rw[if_neg hm]at h;obtain⟨b,h3,h4⟩:=r.obs m x h;refine⟨b,h3,h4.mono e (yby fun z=>hm ?_)⟩;subst z;exact zle r.nd hn h3
theorem Rel.at(r:Rel T μ H σ){n:Nat}{v:V}{o:Ob}(h:Rep T μ H (.ref n) v)(e:σ[n]?=some o):∃ a,v=.ref a/\μ[n]?=some a/\ObR T μ H a o:=by
 rw[Rep]at h;obtain⟨a,rfl,ha⟩:=h;obtain⟨a',h1,h2⟩:=r.obs n o e;rw[ha]at h1;cases h1;exact⟨a,rfl,ha,h2⟩
end
def yij(i:Nat):Ev->M D:=fun ρ σ=>match ρ[i]? with
 |some (some d)=>.ok d σ
 |_=>.bad
def eC(d:D):Ev->M D:=fun _=>ret d
def yhy(o:D->D->M D)(m:M D)(x:D):M D:=bnd m (o x)
def yid(o:D->D->M D)(a b:Ev->M D):Ev->M D:=fun ρ=>bnd (a ρ) (yhy o (b ρ))
def eUn(o:D->M D)(a:Ev->M D):Ev->M D:=fun ρ=>bnd (a ρ) o
def tst(d:D):M Bool:=match d with
 | .bl b=>ret b
 |_=>bad
def ifK{α:Type}(p q:M α)(c:Bool):M α:=if c=true then p else q
def ygh{α:Type}(k:Bool->M α)(d:D):M α:=bnd (tst d) k
def eT(f:Ev->M D):Ev->M Bool:=fun ρ=>bnd (f ρ) tst
def yhx(a b:Ev->M Bool):Ev->M Bool:=fun ρ=>bnd (a ρ) (ifK (b ρ) (ret false))
def bOr(a b:Ev->M Bool):Ev->M Bool:=fun ρ=>bnd (a ρ) (ifK (ret true) (b ρ))
def yic(a b:Ev->M D):Ev->M D:=fun ρ=>bnd (a ρ) (ygh (ifK (b ρ) (ret (.bl false))))
def eOr(a b:Ev->M D):Ev->M D:=fun ρ=>bnd (a ρ) (ygh (ifK (ret (.bl true)) (b ρ)))
def yhr:Ev->M (List D):=fun _=>ret []
def ycw(x:D)(xs:List D):M (List D):=ret (x::xs)
def zvo(m:M (List D))(x:D):M (List D):=bnd m (ycw x)
def yci(e:Ev->M D)(r:Ev->M (List D)):Ev->M (List D):=fun ρ=>bnd (e ρ) (zvo (r ρ))
def ylj(ds:List D):M D:=if ds.length<=cap then ret (.tup ds)else bad
def yii(a:Ev->M (List D)):Ev->M D:=fun ρ=>bnd (a ρ) ylj
def yet(ds:List D):M D:=fun σ=>.ok (.ref σ.length) (σ++[.lst ds])
def yjb(ds:List D):M D:=if ds.length<=cap then yet ds else bad
def yih(a:Ev->M (List D)):Ev->M D:=fun ρ=>bnd (a ρ) yjb
def lvK(ds:List D):M D:=if ds.length<=cap then ret (.lst ds)else bad
def eLv(a:Ev->M (List D)):Ev->M D:=fun ρ=>bnd (a ρ) lvK
def ycd(T:Tb)(r:R2)(o:D->D->M D):Prop:=∀ (E:XK) μ H σ x y v u Q,Rel T μ H σ->Rep T μ H x v->Rep T μ H y u->yhb T E (Rep T) μ H (o x y σ) Q->r v u H Q
def znt(T:Tb)(r:List V->Hp->VK->Prop)(o:List D->M D):Prop:=∀ (E:XK) μ H σ xs vs Q,Rel T μ H σ->yhh T μ H xs vs->yhb T E (Rep T) μ H (o xs σ) Q->r vs H Q
section
variable{T:Tb}{X:Cx}{a b c:Expr}{fa fb:Ev->M D}{ta tb:Ev->M Bool}{pos:Pos}
theorem zxe(i:Nat){x:Str}(hN:X.N[i]?=some x:=by rfl)(hv:Vis X.env.scope x:=by first|exact Or.inl rfl|exact Or.inr (Or.inl rfl)|exact Or.inr (Or.inr rfl))(hd:(x == ("__debug__" : Str))=false:=by decide)
  (hcd:(x == ("__classdict__" : Str))=false:=by decide):FE T X (.Name x pos) (yij i):=by
 intro pins s st H Q I h;obtain⟨μ,ρ,σ,he,hr,hp⟩:=h;refine zz4 hN hv hd hcd pins s st H Q I ?_;unfold yij at hp;cases e:ρ[i]? with
 |none=>rw[e]at hp;exact hp.elim
 |some o=>
  cases o with
  |none=>rw[e]at hp;exact hp.elim
  |some d=>
   rw[e]at hp;obtain⟨v,h1,h2⟩:=he.2 i d e;exact⟨v,h1,hp.here hr h2⟩
theorem zjh{e:Expr}{v:V}{d:D}(h:PE X e (tC v))(r:∀ μ H,Rep T μ H d v):FE T X e (eC d):=by
 intro pins s st H Q I hq;obtain⟨μ,ρ,σ,he,hr,hp⟩:=hq;exact h pins s st H Q I (yhb.here hp hr (r _ _))
theorem zw7{i:Int}{j}:FE T X (.Constant (.int i) j pos) (eC (.int i)):=zjh zzy fun _ _=>by rw[Rep]
theorem zxa{j}:FE T X (.Constant .none j pos) (eC .non):=zjh zz0 fun _ _=>by rw[Rep]
theorem zxc{i:Str}{j}:FE T X (.Constant (.str i) j pos) (eC (.str i)):=zjh zz2 fun _ _=>by rw[Rep]
theorem two{r:R2}{o:D->D->M D}(hs:ycd T r o){st:St}{H:Hp}{Q:VK}(h:tF T X (yid o fa fb) st H Q):tOp r (tF T X fa) (tF T X fb) st H Q:=by
 obtain⟨μ,ρ,σ,he,hr,hp⟩:=h;exact⟨μ,ρ,σ,he,hr,hp.bind fun x σ1 μ1 v H1 _ e1 r1 p1 q1=>⟨μ1,ρ,σ1,he.mono e1,r1,q1.bind fun y σ2 μ2 u H2 _ e2 r2 p2 q2=>hs _ μ2 H2 σ2 x y v u Q r2 (Rep.mono e2 _ _ p1) p2 q2⟩⟩
theorem ydh{op:Operator}{r:R2}{o:D->D->M D}(ho:OpR X (binaryOp op) r)(hs:ycd T r o)(ha:FE T X a fa)(hb:FE T X b fb):FE T X (.BinOp a op b pos) (yid o fa fb):=
 fun pins s st H Q I h=>yfj ho ha hb pins s st H Q I (two hs h)
theorem zw4{op:CmpOp}{r:R2}{o:D->D->M D}(ho:OpR X (compareOp op) r)(hs:ycd T r o)(ha:FE T X a fa)(hb:FE T X b fb)(hm:behindInMarks op b=false):FE T X (.Compare a [op] [b] pos) (yid o fa fb):=
 fun pins s st H Q I h=>zsl ho ha hb hm pins s st H Q I (two hs h)
theorem yde{r:R2}{o:D->D->M D}(ho:IxR X r)(hs:ycd T r o)(ha:FE T X a fa)(hb:FE T X b fb)(hp:znq b):FE T X (.Subscript a b pos) (yid o fa fb):=
 fun pins s st H Q I h=>yfi ho ha hb hp pins s st H Q I (two hs h)
theorem ybt{E:XK}{d:D}{σ:Sto}{μ:List Addr}{H:Hp}{v:V}{β δ:Type}{R':List Addr->Hp->β->δ->Prop}{k:Bool->M β}{Q:δ->Hp->Prop}(r:Rep T μ H d v)(h:yhb T E R' μ H (bnd (tst d) k σ) Q):∃ c,d=.bl c/\v=.bl c/\yhb T E R' μ H (k c σ) Q:=by
 cases d with
 |bl c=>rw[Rep]at r;exact⟨c,rfl,r,h⟩
 |_=>exact h.elim
theorem zuz{E:XK}{d:D}{σ:Sto}{μ:List Addr}{H:Hp}{v:V}{Q:Bool->Hp->Prop}(r:Rep T μ H d v)(h:yhb T E yca μ H (tst d σ) Q):∃ c,v=.bl c/\yhb T E yca μ H (.ok c σ) Q:=by
 cases d with
 |bl c=>rw[Rep]at r;exact⟨c,r,h⟩
 |_=>exact h.elim
theorem zxw{op:CmpOp}{r:R2}{o:D->D->M D}(ho:OpR X (compareOp op) r)(hs:ycd T r o)(ha:FE T X a fa)(hb:FE T X b fb)(hm:behindInMarks op b=false):FT T X (.Compare a [op] [b] pos) (eT (yid o fa fb)):=by
 intro pins s st H Q I h;refine zsx ho ha hb hm pins s st H Q I ?_;refine two (o:=o) hs ?_;obtain⟨μ,ρ,σ,he,hr,hp⟩:=h;refine⟨μ,ρ,σ,he,hr,hp.bind fun d σ1 μ1 v H1 _ e1 r1 p1 q1=>?_⟩;obtain⟨k,ev,q⟩:=zuz p1 q1;exact⟨k,ev,q.here r1 rfl⟩
theorem zxy{e:Expr}{f:Ev->M D}(h:FE T X e f)(he:∀ whole,isTrue e X.env whole=(do let v <-whole;standAt e.pos;holding [v] (truthy v)):=by intro _;rfl):FT T X e (eT f):=by
 intro pins s st H Q I hw;refine yak h he pins s st H Q I ?_;obtain⟨μ,ρ,σ,hE,hr,hp⟩:=hw;refine⟨μ,ρ,σ,hE,hr,hp.bind fun d σ1 μ1 v H1 _ e1 r1 p1 q1=>?_⟩;obtain⟨k,ev,q⟩:=zuz p1 q1;exact⟨k,ev,q.here r1 rfl⟩
variable{rest:List Expr}
theorem zqc(h:FT T X a ta):FW T X (.BoolOp .And [a] pos) ta:=zs0 h
theorem zx1(h:FT T X a ta):FW T X (.BoolOp .Or [a] pos) ta:=yam h
theorem zx0(h:FT T X a ta)(hb:FW T X (.BoolOp .And (b::rest) pos) tb):FW T X (.BoolOp .And (a::b::rest) pos) (yhx ta tb):=by
 intro wh pins s st H Q I hw;refine yal h hb wh pins s st H Q I ?_;obtain⟨μ,ρ,σ,hE,hr,hp⟩:=hw;refine⟨μ,ρ,σ,hE,hr,hp.bind fun c σ1 μ1 v H1 _ e1 r1 p1 q1=>?_⟩;cases p1;cases c with
 |true=>unfold ifK at q1;rw[if_pos rfl]at q1 ⊢;exact⟨μ1,ρ,σ1,hE.mono e1,r1,q1⟩
 |false=>unfold ifK at q1;rw[if_neg Bool.false_ne_true]at q1 ⊢;exact q1.here r1 rfl
theorem ydt(h:FT T X a ta)(hb:FW T X (.BoolOp .Or (b::rest) pos) tb):FW T X (.BoolOp .Or (a::b::rest) pos) (bOr ta tb):=by
 intro wh pins s st H Q I hw;refine yfp h hb wh pins s st H Q I ?_;obtain⟨μ,ρ,σ,hE,hr,hp⟩:=hw;refine⟨μ,ρ,σ,hE,hr,hp.bind fun c σ1 μ1 v H1 _ e1 r1 p1 q1=>?_⟩;cases p1;cases c with
 |true=>unfold ifK at q1;rw[if_pos rfl]at q1 ⊢;exact q1.here r1 rfl
 |false=>unfold ifK at q1;rw[if_neg Bool.false_ne_true]at q1 ⊢;exact⟨μ1,ρ,σ1,hE.mono e1,r1,q1⟩
theorem zxb{op}(h:FE T X a fa):FE T X (.BoolOp op [a] pos) fa:=zz1 h
theorem zw3(h:FE T X a fa)(hb:FE T X (.BoolOp .And (b::rest) pos) fb):FE T X (.BoolOp .And (a::b::rest) pos) (yic fa fb):=by
 intro pins s st H Q I hw;refine zzv h hb pins s st H Q I ?_;obtain⟨μ,ρ,σ,hE,hr,hp⟩:=hw;refine⟨μ,ρ,σ,hE,hr,hp.bind fun d σ1 μ1 v H1 _ e1 r1 p1 q1=>?_⟩;obtain⟨c,rfl,ev,q⟩:=ybt p1 q1;refine⟨c,ev,?_⟩;cases c with
 |true=>unfold ifK at q;rw[if_pos rfl]at q ⊢;exact⟨μ1,ρ,σ1,hE.mono e1,r1,q⟩
 |false=>unfold ifK at q;rw[if_neg Bool.false_ne_true]at q ⊢;exact yhb.here q r1 (by rw[Rep])
theorem ydi(h:FE T X a fa)(hb:FE T X (.BoolOp .Or (b::rest) pos) fb):FE T X (.BoolOp .Or (a::b::rest) pos) (eOr fa fb):=by
 intro pins s st H Q I hw;refine yfk h hb pins s st H Q I ?_;obtain⟨μ,ρ,σ,hE,hr,hp⟩:=hw;refine⟨μ,ρ,σ,hE,hr,hp.bind fun d σ1 μ1 v H1 _ e1 r1 p1 q1=>?_⟩;obtain⟨c,rfl,ev,q⟩:=ybt p1 q1;refine⟨c,ev,?_⟩;cases c with
 |true=>unfold ifK at q;rw[if_pos rfl]at q ⊢;exact yhb.here q r1 (by rw[Rep])
 |false=>unfold ifK at q;rw[if_neg Bool.false_ne_true]at q ⊢;exact⟨μ1,ρ,σ1,hE.mono e1,r1,q⟩
variable{e:Expr}{es:List Expr}{fe:Ev->M D}{fs:Ev->M (List D)}
theorem zw2:FA T X [] yhr:=by
 intro pos pins s st H Q I hw;refine zzu pos pins s st H Q I ?_;obtain⟨μ,ρ,σ,hE,hr,hp⟩:=hw;exact yhb.here hp hr yhh.nil
theorem zph(ha:FE T X e fe)(hr:FA T X es fs)(hs:starEach (e::es) X.env=(false,eval e X.env)::starEach es X.env:=by rfl):FA T X (e::es) (yci fe fs):=by
 intro pos pins s st H Q I hw;refine zsi ha hr hs pos pins s st H Q I ?_;obtain⟨μ,ρ,σ,hE,hr,hp⟩:=hw;exact⟨μ,ρ,σ,hE,hr,hp.bind fun d σ1 μ1 v H1 _ e1 r1 p1 q1=>⟨μ1,ρ,σ1,hE.mono e1,r1,q1.bind fun ds σ2 μ2 vs H2 _ e2 r2 p2 q2=>yhb.here q2 r2 (yhh.cons (Rep.mono e2 _ _ p1) p2)⟩⟩
theorem zrx{E:XK}{μ:List Addr}{H:Hp}{σ:Sto}{ds:List D}{vs:List V}{Q:VK}{p:Addr}(h:yhb T E (Rep T) μ H (.ok (.tup ds) σ) Q)(r:Rel T μ H σ)(q:yhh T μ H ds vs)(hp:H p=none):Q (.ref p) (upd H p (.tup vs)):=
 h μ (.ref p) _ (zpg hp) (r.fresh hp) (by rw[Rep];exact⟨p,vs,rfl,zne,yhh.mono (zpg hp) _ _ q⟩)
theorem zrw{E:XK}{μ:List Addr}{H:Hp}{σ:Sto}{ds:List D}{vs:List V}{Q:VK}{p:Addr}(h:yhb T E (Rep T) μ H (yet ds σ) Q)(r:Rel T μ H σ)(q:yhh T μ H ds vs)(hp:H p=none):Q (.ref p) (upd H p (.lst vs)):=
 h (μ++[p]) (.ref p) _ (zje hp) (r.push hp ⟨vs,zne,yhh.mono (zje hp) _ _ q⟩) (zmb r)
theorem zxd{x1}(h:FA T X es fs):FE T X (.Tuple es x1 pos) (yii fs):=by
 intro pins s st H Q I hw;refine zz3 h pins s st H Q I ?_;obtain⟨μ,ρ,σ,hE,hr,hp⟩:=hw;refine⟨μ,ρ,σ,hE,hr,hp.bind fun ds σ1 μ1 vs H1 _ e1 r1 p1 q1=>?_⟩;unfold ylj at q1;by_cases hl:ds.length<=cap
 ·rw[if_pos hl]at q1;exact⟨by rw[<-p1.length];exact zv1 hl,fun p hp=>zrx q1 r1 p1 hp⟩
 ·rw[if_neg hl]at q1;exact q1.elim
theorem zw9(h:FA T X es fs):FE T X (.List es pos) (yih fs):=by
 intro pins s st H Q I hw;refine zzz h pins s st H Q I ?_;obtain⟨μ,ρ,σ,hE,hr,hp⟩:=hw;refine⟨μ,ρ,σ,hE,hr,hp.bind fun ds σ1 μ1 vs H1 _ e1 r1 p1 q1=>?_⟩;unfold yjb at q1;by_cases hl:ds.length<=cap
 ·rw[if_pos hl]at q1;exact⟨by rw[<-p1.length];exact zv1 hl,fun p hp=>zrw q1 r1 p1 hp⟩
 ·rw[if_neg hl]at q1;exact q1.elim
theorem zy3{E:XK}{μ:List Addr}{H:Hp}{σ:Sto}{ds:List D}{vs:List V}{Q:VK}{p:Addr}(h:yhb T E (Rep T) μ H (.ok (.lst ds) σ) Q)(r:Rel T μ H σ)(q:yhh T μ H ds vs)(hp:H p=none):Q (.ref p) (upd H p (.lst vs)):=
 h μ (.ref p) _ (zpg hp) (r.fresh hp) (by rw[Rep];exact⟨p,vs,rfl,fun hm=>(by obtain⟨u,hu,_⟩:=r.mem hm;rw[hp]at hu;cases hu),zne,yhh.mono (zpg hp) _ _ q⟩)
theorem ydg(h:FA T X es fs):FE T X (.List es pos) (eLv fs):=by
 intro pins s st H Q I hw;refine zzz h pins s st H Q I ?_;obtain⟨μ,ρ,σ,hE,hr,hp⟩:=hw;refine⟨μ,ρ,σ,hE,hr,hp.bind fun ds σ1 μ1 vs H1 _ e1 r1 p1 q1=>?_⟩;unfold lvK at q1;by_cases hl:ds.length<=cap
 ·rw[if_pos hl]at q1;exact⟨by rw[<-p1.length];exact zv1 hl,fun p hp=>zy3 q1 r1 p1 hp⟩
 ·rw[if_neg hl]at q1;exact q1.elim
end
def oI(g:Int->Int->Int):D->D->M D
 | .int i,.int j=>ret (.int (g i j))
 |_,_=>bad
def oB(g:Int->Int->Bool):D->D->M D
 | .int i,.int j=>ret (.bl (g i j))
 |_,_=>bad
def oIC(C:Int->Int->Bool)(g:Int->Int->Int):D->D->M D
 | .int i,.int j=>if C i j=true then ret (.int (g i j))else bad
 |_,_=>bad
noncomputable def yh3(i j:Int):Bool:=hide ((decide (-(2 ^ 64)<i) && decide (i<2 ^ 64)) || (decide (-(2 ^ 64)<j) && decide (j<2 ^ 64)))
noncomputable def yh1(_ j:Int):Bool:=hide (decide (0<j) && decide (j<1073741824))
noncomputable def yh2(_ j:Int):Bool:=hide (decide (0<j))
noncomputable def yh4(i j:Int):Bool:=hide (decide (0<=j) && decide (j<=1000000) && decide (i.natAbs<2 ^ 64))
abbrev yjv:=oI (fun i j=>i - j)
noncomputable abbrev yjs:=oIC yh3 (fun i j=>i * j)
noncomputable abbrev yjk:=oIC yh1 (fun i j=>i / j)
noncomputable abbrev yjr:=oIC yh2 (fun i j=>i % j)
noncomputable abbrev yjt:=oIC yh4 (fun i j=>i ^ j.toNat)
abbrev oLt:=oB (fun i j=>decide (i<j))
abbrev oLe:=oB (fun i j=>decide (i<=j))
abbrev oGt:=oB (fun i j=>decide (j<i))
abbrev oGe:=oB (fun i j=>decide (j<=i))
def rD(T:Tb)(o:D->D->M D):R2:=fun v u H Q=>∃ (E:XK) (μ:List Addr) (σ:Sto) (x y:D),Rel T μ H σ/\Rep T μ H x v/\Rep T μ H y u/\yhb T E (Rep T) μ H (o x y σ) Q
theorem ykx{T:Tb}{o:D->D->M D}:ycd T (rD T o) o:=fun E μ H σ x y v u Q r p q h=>⟨E,μ,σ,x,y,r,p,q,h⟩
section
variable{T:Tb}{X:Cx}
theorem zyb{μ:List Addr}{H:Hp}{i:Int}{v:V}(h:Rep T μ H (.int i) v):v=.int i:=by simpa [Rep]using h
theorem yf7{g:Int->Int->Int}:ycd T (rI0 fun i j=>.int (g i j)) (oI g):=by
 intro E μ H σ x y v u Q r p q h;cases x with
 |int i=>
  cases y with
  |int j=>exact⟨i,j,zyb p,zyb q,yhb.here h r (by rw[Rep])⟩
  |_=>exact h.elim
 |_=>exact h.elim
theorem yf6{g:Int->Int->Bool}:ycd T (rI0 fun i j=>.bl (g i j)) (oB g):=by
 intro E μ H σ x y v u Q r p q h;cases x with
 |int i=>
  cases y with
  |int j=>exact⟨i,j,zyb p,zyb q,yhb.here h r (by rw[Rep])⟩
  |_=>exact h.elim
 |_=>exact h.elim
theorem ya8{C:Int->Int->Bool}{C':Int->Int->Prop}{g:Int->Int->Int}(hC:∀ i j,C i j=true->C' i j):ycd T (rI C' fun i j=>.int (g i j)) (oIC C g):=by
 intro E μ H σ x y v u Q r p q h;cases x with
 |int i=>
  cases y with
  |int j=>
   by_cases hc:C i j=true
   ·have h':yhb T E (Rep T) μ H (ret (.int (g i j)) σ) Q:=by
     have e:oIC C g (.int i) (.int j)=ret (.int (g i j)):=by show (if C i j=true then _ else _)=_;rw[if_pos hc]
     rw[e]at h;exact h
    exact⟨i,j,zyb p,zyb q,hC i j hc,yhb.here h' r (by rw[Rep])⟩
   ·have e:oIC C g (.int i) (.int j)=bad:=by show (if C i j=true then _ else _)=_;rw[if_neg hc]
    rw[e]at h;exact h.elim
  |_=>exact h.elim
 |_=>exact h.elim
theorem zuo:ycd T (rI0 fun i j=>.int (i - j)) yjv:=yf7
theorem zum:ycd T (rI ygv fun i j=>.int (i * j)) yjs:=ya8 fun i j h=>by
 simp only[yh3,zqo,Bool.or_eq_true,Bool.and_eq_true,decide_eq_true_eq]at h;exact h
theorem zui:ycd T (rI ygu fun i j=>.int (i / j)) yjk:=ya8 fun i j h=>by
 simp only[yh1,zqo,Bool.and_eq_true,decide_eq_true_eq]at h;exact h
theorem zul:ycd T (rI (fun _ j=>0<j) fun i j=>.int (i % j)) yjr:=ya8 fun i j h=>by
 simp only[yh2,zqo,decide_eq_true_eq]at h;exact h
theorem zun:ycd T (rI ygw fun i j=>.int (i ^ j.toNat)) yjt:=ya8 fun i j h=>by
 simp only[yh4,zqo,Bool.and_eq_true,decide_eq_true_eq]at h;exact⟨h.1.1,h.1.2,h.2⟩
theorem ybe:ycd T (rI0 fun i j=>.bl (decide (i<j))) oLt:=yf6
theorem ybd:ycd T (rI0 fun i j=>.bl (decide (i<=j))) oLe:=yf6
theorem yba:ycd T (rI0 fun i j=>.bl (decide (j<i))) oGt:=yf6
theorem ya9:ycd T (rI0 fun i j=>.bl (decide (j<=i))) oGe:=yf6
end
def sc:D->Option V
 | .non=>some .non
 | .bl b=>some (.bl b)
 | .int i=>some (.int i)
 | .str x=>some (.str x)
 |_=>none
def yej(σ:Sto)(n:Nat):Option (List D):=match σ[n]? with
 |some (.lst xs)=>some xs
 |_=>none
theorem zer{σ:Sto}{n:Nat}{xs:List D}(h:yej σ n=some xs):σ[n]?=some (.lst xs):=by
 unfold yej at h;cases e:σ[n]? with
 |none=>rw[e]at h;cases h
 |some o=>rw[e]at h;cases o<;>simp at h;subst h;rfl
inductive Kd where
 |s (v:V)|t (xs:List D)|l (xs:List D)|o
def kd(σ:Sto):D->Kd
 | .non=>.s .non
 | .bl b=>.s (.bl b)
 | .int i=>.s (.int i)
 | .str x=>.s (.str x)
 | .tup xs=>.t xs
 | .lst xs=>.l xs
 | .ref n=>match yej σ n with
  |some xs=>.l xs
  |none=>.o
 |_=>.o
def eqL(f:D->D->Option Bool):List D->List D->Option Bool
 |[],[]=>some true
 |[],_::_=>some false
 |_::_,[]=>some false
 |x::xs,y::ys=>match f x y,eqL f xs ys with
  |some b,some c=>some (b && c)
  |_,_=>none
def eqK(f:D->D->Option Bool):Kd->Kd->Option Bool
 | .s a,.s b=>some (eqV a b)
 | .t xs,.t ys=>eqL f xs ys
 | .l xs,.l ys=>eqL f xs ys
 | .s _,.t _=>some false
 | .t _,.s _=>some false
 | .s _,.l _=>some false
 | .l _,.s _=>some false
 | .t _,.l _=>some false
 | .l _,.t _=>some false
 |_,_=>none
def eqD(σ:Sto):Nat->D->D->Option Bool
 |0,x,y=>eqK (fun _ _=>none) (kd σ x) (kd σ y)
 |n+1,x,y=>eqK (eqD σ n) (kd σ x) (kd σ y)
def eAt(f:D->D->Option Bool)(xs ys:List D)(j:Nat):Bool:=match xs[j]?,ys[j]? with
 |some a,some b=>(f a b).getD false
 |_,_=>false
theorem zja(f:D->D->Option Bool):∀ (xs ys:List D) (b:Bool),eqL f xs ys=some b->
  (∀ (j:Nat) (a c:D),xs[j]?=some a->ys[j]?=some c->∃ k,f a c=some k)/\b=((List.range (min xs.length ys.length)).all (eAt f xs ys) && xs.length == ys.length)
 |[],[],b,h=>by simp[eqL]at h;subst h;simp
 |[],y::ys,b,h=>by simp[eqL]at h;subst h;simp
 |x::xs,[],b,h=>by simp[eqL]at h;subst h;simp
 |x::xs,y::ys,b,h=>by
  unfold eqL at h;cases e1:f x y with
  |none=>rw[e1]at h;cases h
  |some b1=>
   cases e2:eqL f xs ys with
   |none=>rw[e1,e2]at h;cases h
   |some b2=>
    rw[e1,e2]at h;cases h;obtain⟨h1,h2⟩:=zja f xs ys b2 e2;refine⟨fun j a c ha hc=>?_,?_⟩
    ·cases j with
     |zero=>simp at ha hc;subst ha;subst hc;exact⟨b1,e1⟩
     |succ j=>exact h1 j a c (by simpa using ha) (by simpa using hc)
    ·have e3:min (x::xs).length (y::ys).length=min xs.length ys.length+1:=by simp[Nat.succ_min_succ]
     have e4:∀ j,eAt f (x::xs) (y::ys) (j+1)=eAt f xs ys j:=fun j=>by simp[eAt]
     have e5:eAt f (x::xs) (y::ys) 0=b1:=by simp[eAt,e1]
     rw[e3,List.range_succ_eq_map,List.all_cons,List.all_map,e5,h2];have e6:(eAt f (x::xs) (y::ys) ∘ Nat.succ)=eAt f xs ys:=funext fun j=>e4 j;have e7:((x::xs).length == (y::ys).length)=(xs.length == ys.length):=by simp
     rw[e6,e7,Bool.and_assoc]
section
variable{T:Tb}{μ:List Addr}{H:Hp}{σ:Sto}
theorem Rel.lst(r:Rel T μ H σ){n:Nat}{v:V}{xs:List D}(h:Rep T μ H (.ref n) v)(e:yej σ n=some xs):∃ a vs,v=.ref a/\μ[n]?=some a/\H a=some (.lst vs)/\yhh T μ H xs vs:=by
 obtain⟨a,rfl,h1,vs,h2,h3⟩:=r.at h (zer e);exact⟨a,vs,rfl,h1,h2,h3⟩
theorem ya1{d:D}{v a:V}(h:Rep T μ H d v)(e:sc d=some a):v=a:=by
 cases d<;>simp[sc]at e<;>subst e<;>simpa [Rep]using h
theorem ztr{d:D}{a:V}(e:sc d=some a):ydl a=true:=by
 cases d<;>simp[sc]at e<;>subst e<;>rfl
theorem zjb{a:V}(h:ydl a=true):eqV a a=true:=by cases a<;>simp[ydl,eqV]at h ⊢
theorem zyg(r:Rel T μ H σ){d:D}{v:V}(h:Rep T μ H d v):match kd σ d with
  | .s a=>v=a/\ydl a=true
  | .t xs=>∃ p vs,v=.ref p/\H p=some (.tup vs)/\yhh T μ H xs vs
  | .l xs=>∃ p vs,v=.ref p/\H p=some (.lst vs)/\yhh T μ H xs vs
  | .o=>True:=by
 cases d with
 |non=>exact⟨by simpa [Rep]using h,rfl⟩
 |bl b=>exact⟨by simpa [Rep]using h,rfl⟩
 |int b=>exact⟨by simpa [Rep]using h,rfl⟩
 |str b=>exact⟨by simpa [Rep]using h,rfl⟩
 |tup xs=>rw[Rep]at h;exact h
 |lst xs=>rw[Rep]at h;obtain⟨a,vs,h1,_,h2,h3⟩:=h;exact⟨a,vs,h1,h2,h3⟩
 |ref n=>
  unfold kd;dsimp only;cases e:yej σ n with
  |none=>trivial
  |some xs=>obtain⟨a,vs,h1,_,h2,h3⟩:=r.lst h e;exact⟨a,vs,h1,h2,h3⟩
 |_=>trivial
theorem zi9{f:D->D->Option Bool}(hf:∀ (x y:D) (v:V) (b:Bool),Rep T μ H x v->Rep T μ H y v->f x y=some b->b=true):∀ (xs ys:List D) (vs:List V) (b:Bool),yhh T μ H xs vs->yhh T μ H ys vs->eqL f xs ys=some b->b=true
 |[],ys,vs,b,r1,r2,h=>by
  rw[yhh]at r1;subst r1;cases ys with
  |nil=>simp[eqL]at h;exact h
  |cons y ys=>rw[yhh]at r2;obtain⟨_,_,z,_⟩:=r2;cases z
 |x::xs,ys,vs,b,r1,r2,h=>by
  rw[yhh]at r1;obtain⟨v,r,rfl,p1,q1⟩:=r1;cases ys with
  |nil=>rw[yhh]at r2;cases r2
  |cons y ys=>
   rw[yhh]at r2;obtain⟨v',r',z,p2,q2⟩:=r2;cases z;unfold eqL at h;cases e1:f x y with
   |none=>rw[e1]at h;cases h
   |some b1=>
    cases e2:eqL f xs ys with
    |none=>rw[e1,e2]at h;cases h
    |some b2=>
     rw[e1,e2]at h;cases h;rw[hf x y v b1 p1 p2 e1,zi9 hf xs ys r b2 q1 q2 e2];rfl
theorem zi8(r:Rel T μ H σ){f:D->D->Option Bool}(hf:∀ (x y:D) (v:V) (b:Bool),Rep T μ H x v->Rep T μ H y v->f x y=some b->b=true){x y:D}{v:V}{b:Bool}(hx:Rep T μ H x v)(hy:Rep T μ H y v)(h:eqK f (kd σ x) (kd σ y)=some b):b=true:=by
 have kx:=zyg r hx;have ky:=zyg r hy;generalize kd σ x=k1 at h kx;generalize kd σ y=k2 at h ky;cases k1 with
 |s a=>
  obtain⟨rfl,fa⟩:=kx;cases k2 with
  |s c=>obtain⟨rfl,_⟩:=ky;cases h;exact zjb fa
  |t xs=>obtain⟨p,vs,rfl,_⟩:=ky;simp[ydl]at fa
  |l xs=>obtain⟨p,vs,rfl,_⟩:=ky;simp[ydl]at fa
  |o=>cases h
 |t xs=>
  obtain⟨p,vs,rfl,h1,r1⟩:=kx;cases k2 with
  |s c=>obtain⟨e,fa⟩:=ky;rw[<-e]at fa;simp[ydl]at fa
  |t ys=>
   obtain⟨q,ws,e,h2,r2⟩:=ky;cases e;rw[h1]at h2;cases h2;exact zi9 hf xs ys vs b r1 r2 h
  |l ys=>obtain⟨q,ws,e,h2,r2⟩:=ky;cases e;rw[h1]at h2;cases h2
  |o=>cases h
 |l xs=>
  obtain⟨p,vs,rfl,h1,r1⟩:=kx;cases k2 with
  |s c=>obtain⟨e,fa⟩:=ky;rw[<-e]at fa;simp[ydl]at fa
  |t ys=>obtain⟨q,ws,e,h2,r2⟩:=ky;cases e;rw[h1]at h2;cases h2
  |l ys=>
   obtain⟨q,ws,e,h2,r2⟩:=ky;cases e;rw[h1]at h2;cases h2;exact zi9 hf xs ys vs b r1 r2 h
  |o=>cases h
 |o=>cases h
theorem zi7(r:Rel T μ H σ):∀ (n:Nat) (x y:D) (v:V) (b:Bool),Rep T μ H x v->Rep T μ H y v->eqD σ n x y=some b->b=true
 |0,x,y,v,b,hx,hy,h=>zi8 r (fun _ _ _ _ _ _ z=>by cases z) hx hy h
 |n+1,x,y,v,b,hx,hy,h=>zi8 r (fun x y v b a1 a2 a3=>zi7 r n x y v b a1 a2 a3) hx hy h
end
section
variable{T:Tb}{X:Cx}{pins:List (Addr × Obj)}{st:St}{μ:List Addr}{H:Hp}{s:Shared}{σ:Sto}
theorem zd6{A:Around}{a:V}{u:Value}{p:Addr}{its:Array Value}(fa:ydl a=true)(r:yhe a u)(hp:s.heap.IsTuple p its)(hu:A.units<cLine):SeqAt.EqAt A s u (.ref p) false/\SeqAt.EqAt A s (.ref p) u false/\SeqAt.RcAt A s u (.ref p) false/\SeqAt.RcAt A s (.ref p) u false/\SeqAt.RcNeAt A s u (.ref p) true/\SeqAt.RcNeAt A s (.ref p) u true:=by
 cases a with
 |non=>cases r;exact⟨.none_tuple hp hu,.tuple_none hp hu,.none_tuple hp hu,.tuple_none hp hu,.none_tuple hp hu,.tuple_none hp hu⟩
 |bl b=>cases r;exact⟨.bool_tuple b hp hu,.tuple_bool b hp hu,.bool_tuple b hp hu,.tuple_bool b hp hu,.bool_tuple b hp hu,.tuple_bool b hp hu⟩
 |int b=>obtain⟨t,rfl⟩:=r;exact⟨.int_tuple b t hp hu,.tuple_int b t hp hu,.int_tuple b t hp hu,.tuple_int b t hp hu,.int_tuple b t hp hu,.tuple_int b t hp hu⟩
 |str b=>obtain⟨t,rfl⟩:=r;exact⟨.str_tuple b t hp hu,.tuple_str b t hp hu,.str_tuple b t hp hu,.tuple_str b t hp hu,.str_tuple b t hp hu,.tuple_str b t hp hu⟩
 |_=>simp[ydl]at fa
theorem ze7{A:Around}{a:V}{u:Value}{p:Addr}{its:Array Value}(fa:ydl a=true)(r:yhe a u)(hp:s.heap.IsList p its)(hu:A.units<cLine):SeqAt.RcAt A s u (.ref p) false/\SeqAt.RcAt A s (.ref p) u false/\SeqAt.RcNeAt A s u (.ref p) true/\SeqAt.RcNeAt A s (.ref p) u true:=by
 cases a with
 |non=>cases r;exact⟨.none_list hp hu,.list_none hp hu,.none_list hp hu,.list_none hp hu⟩
 |bl b=>cases r;exact⟨.bool_list b hp hu,.list_bool b hp hu,.bool_list b hp hu,.list_bool b hp hu⟩
 |int b=>obtain⟨t,rfl⟩:=r;exact⟨.int_list b t hp hu,.list_int b t hp hu,.int_list b t hp hu,.list_int b t hp hu⟩
 |str b=>obtain⟨t,rfl⟩:=r;exact⟨.str_list b t hp hu,.list_str b t hp hu,.str_list b t hp hu,.list_str b t hp hu⟩
 |_=>simp[ydl]at fa
theorem zdc{A:Around}{a:V}{u:Value}{p:Addr}{its:Array Value}(fa:ydl a=true)(r:yhe a u)(hp:s.heap.IsList p its)(hu:A.units<cLine):SeqAt.EqAt A s u (.ref p) false:=by
 cases a with
 |non=>cases r;exact .none_list hp hu
 |bl b=>cases r;exact .bool_list b hp hu
 |int b=>obtain⟨t,rfl⟩:=r;exact .int_list b t hp hu
 |str b=>obtain⟨t,rfl⟩:=r;exact .str_list b t hp hu
 |_=>simp[ydl]at fa
theorem zcl{A:Around}{a:V}{u:Value}{p:Addr}{its:Array Value}(fa:ydl a=true)(r:yhe a u)(hp:s.heap.IsList p its)(hu:A.units<cLine):SeqAt.EqAt A s (.ref p) u false:=by
 cases a with
 |non=>cases r;exact .list_none hp hu
 |bl b=>cases r;exact .list_bool b hp hu
 |int b=>obtain⟨t,rfl⟩:=r;exact .list_int b t hp hu
 |str b=>obtain⟨t,rfl⟩:=r;exact .list_str b t hp hu
 |_=>simp[ydl]at fa
theorem yft{A:Around}{a b:V}{u w:Value}(ra:yhe a u)(rb:yhe b w)(fa:ydl a=true)(fb:ydl b=true):SeqAt.RcAt A s u w (eqV a b)/\SeqAt.RcNeAt A s u w (!eqV a b):=by
 cases a with
 |non=>
  cases ra;cases b with
  |non=>cases rb;exact⟨.none_none,.none_none⟩
  |bl y=>cases rb;exact⟨.none_bool y,.none_bool y⟩
  |int y=>obtain⟨t,rfl⟩:=rb;exact⟨.none_int y t,.none_int y t⟩
  |str y=>obtain⟨t,rfl⟩:=rb;exact⟨.none_str y t,.none_str y t⟩
  |_=>simp[ydl]at fb
 |bl x=>
  cases ra;cases b with
  |non=>cases rb;exact⟨.bool_none x,.bool_none x⟩
  |bl y=>cases rb;exact⟨.bool_bool x y,.bool_bool x y⟩
  |int y=>obtain⟨t,rfl⟩:=rb;exact⟨.bool_int x y t,.bool_int x y t⟩
  |str y=>obtain⟨t,rfl⟩:=rb;exact⟨.bool_str x y t,.bool_str x y t⟩
  |_=>simp[ydl]at fb
 |int x=>
  obtain⟨t',rfl⟩:=ra;cases b with
  |non=>cases rb;exact⟨.int_none x t',.int_none x t'⟩
  |bl y=>cases rb;exact⟨.int_bool x t' y,.int_bool x t' y⟩
  |int y=>obtain⟨t,rfl⟩:=rb;exact⟨.int_int x t' y t,.int_int x t' y t⟩
  |str y=>obtain⟨t,rfl⟩:=rb;exact⟨.int_str x t' y t,.int_str x t' y t⟩
  |_=>simp[ydl]at fb
 |str x=>
  obtain⟨t',rfl⟩:=ra;cases b with
  |non=>cases rb;exact⟨.str_none x t',.str_none x t'⟩
  |bl y=>cases rb;exact⟨.str_bool x t' y,.str_bool x t' y⟩
  |int y=>obtain⟨t,rfl⟩:=rb;exact⟨.str_int x t' y t,.str_int x t' y t⟩
  |str y=>obtain⟨t,rfl⟩:=rb;exact⟨.str_str x t' y t,.str_str x t' y t⟩
  |_=>simp[ydl]at fb
 |_=>simp[ydl]at fa
theorem zni{xs:List V}{us:List Value}{i:Nat}{u:Value}(r:yho xs us)(h:us[i]?=some u):∃ x,xs[i]?=some x/\yhe x u:=by
 have hl:=r.length;have hi:=(List.getElem?_eq_some_iff.mp h).1;obtain⟨u',h1,h2⟩:=r.get (i:=i) (x:=xs[i]'(by omega)) (by simp);rw[h]at h1;cases h1;exact⟨_,by simp,h2⟩
theorem zmd{ds:List D}{vs:List V}{i:Nat}{v:V}(r:yhh T μ H ds vs)(h:vs[i]?=some v):∃ d,ds[i]?=some d/\Rep T μ H d v:=by
 have hl:=r.length;have hi:=(List.getElem?_eq_some_iff.mp h).1;obtain⟨v',h1,h2⟩:=r.get (i:=i) (d:=ds[i]'(by omega)) (by simp);rw[h]at h1;cases h1;exact⟨_,by simp,h2⟩
theorem zkl{A:Around}{f:D->D->Option Bool}(hf:∀ (x y:D) (v w:V) (v' w':Value) (b:Bool),Rep T μ H x v->Rep T μ H y w->yhe v v'->yhe w w'->f x y=some b->SeqAt.EqAt A s v' w' b)
  {xs ys:List D} {vs ws:List V} {us zs:List Value} {b:Bool} (r1:yhh T μ H xs vs) (r2:yhh T μ H ys ws) (q1:yho vs us) (q2:yho ws zs) (h:eqL f xs ys=some b) :
  (∀ j (h1:j<us.toArray.size) (h2:j<zs.toArray.size),SeqAt.EqAt A s us.toArray[j] zs.toArray[j] (eAt f xs ys j))/\b=((List.range (min us.toArray.size zs.toArray.size)).all (eAt f xs ys) && us.toArray.size == zs.toArray.size):=by
 obtain⟨h1,h2⟩:=zja f xs ys b h;have l1:=r1.length;have l2:=r2.length;have l3:=q1.length;have l4:=q2.length;refine⟨fun j g1 g2=>?_,?_⟩
 ·obtain⟨v,e1,rv⟩:=zni (i:=j) (u:=us.toArray[j]) q1 (by simp);obtain⟨w,e2,rw'⟩:=zni (i:=j) (u:=zs.toArray[j]) q2 (by simp);obtain⟨x,e3,p3⟩:=zmd r1 e1;obtain⟨y,e4,p4⟩:=zmd r2 e2;obtain⟨k,ek⟩:=h1 j x y e3 e4;have e5:eAt f xs ys j=k:=by simp[eAt,e3,e4,ek]
  rw[e5];exact hf x y v w _ _ k p3 p4 rv rw' ek
 ·simp only[List.size_toArray];rw[h2,l1,l2,l3,l4]
abbrev zvj(A:Around)(s:Shared)(v w:Value)(b:Bool):Prop:=SeqAt.RcAt A s v w b/\SeqAt.RcNeAt A s v w (!b)
theorem rcK{A:Around}(I:Inv X pins st H s)(r:Rel T μ H σ)(hu:A.units+1<cLine){f:D->D->Option Bool}
  (hf:∀ (x y:D) (v w:V) (v' w':Value) (b:Bool),Rep T μ H x v->Rep T μ H y w->yhe v v'->yhe w w'->f x y=some b->SeqAt.EqAt A.in1 s v' w' b)
  {x y:D} {v w:V} {v' w':Value} {b:Bool} (hx:Rep T μ H x v) (hy:Rep T μ H y w) (rv:yhe v v') (rw':yhe w w') (h:eqK f (kd σ x) (kd σ y)=some b):zvj A s v' w' b:=by
 have hu0:A.units<cLine:=by omega
 have kx:=zyg r hx;have ky:=zyg r hy;generalize kd σ x=k1 at h kx;generalize kd σ y=k2 at h ky;cases k1 with
 |o=>cases h
 |s a=>
  obtain⟨rfl,fa⟩:=kx;cases k2 with
  |o=>cases h
  |s c=>obtain⟨rfl,fc⟩:=ky;cases h;exact yft rv rw' fa fc
  |t ys=>
   obtain⟨q,ws,rfl,h2,r2⟩:=ky;cases h;cases rw';obtain⟨its,_,hq,_⟩:=L2.Inv.tuple I (SqT.of (K:=X.K) h2);obtain⟨_,_,a1,a2,a3,a4⟩:=zd6 fa rv hq hu0;exact⟨a1,a3⟩
  |l ys=>
   obtain⟨q,ws,rfl,h2,r2⟩:=ky;cases h;cases rw';obtain⟨its,_,pl,_⟩:=L2.Inv.list I (SqL.of (K:=X.K) h2);obtain⟨a1,a2,a3,a4⟩:=ze7 fa rv pl.isList hu0;exact⟨a1,a3⟩
 |t xs=>
  obtain⟨p,vs,rfl,h1,r1⟩:=kx;cases rv;obtain⟨its,q1,hp,_⟩:=L2.Inv.tuple I (SqT.of (K:=X.K) h1);cases k2 with
  |o=>cases h
  |s c=>
   obtain⟨rfl,fc⟩:=ky;cases h;obtain⟨_,_,a1,a2,a3,a4⟩:=zd6 fc rw' hp hu0;exact⟨a2,a4⟩
  |t ys=>
   obtain⟨q,ws,rfl,h2,r2⟩:=ky;cases rw';obtain⟨its2,q2,hq,_⟩:=L2.Inv.tuple I (SqT.of (K:=X.K) h2);obtain⟨g1,g2⟩:=zkl (A:=A.in1) hf r1 r2 q1 q2 h;rw[g2];exact⟨.tuples hp hq (by omega) g1,.tuples hp hq (by omega) g1⟩
  |l ys=>
   obtain⟨q,ws,rfl,h2,r2⟩:=ky;cases h;cases rw';obtain⟨its2,_,pl,_⟩:=L2.Inv.list I (SqL.of (K:=X.K) h2);exact⟨.tuple_list hp pl.isList hu0,.tuple_list hp pl.isList hu0⟩
 |l xs=>
  obtain⟨p,vs,rfl,h1,r1⟩:=kx;cases rv;obtain⟨its,q1,pl,_⟩:=L2.Inv.list I (SqL.of (K:=X.K) h1);cases k2 with
  |o=>cases h
  |s c=>
   obtain⟨rfl,fc⟩:=ky;cases h;obtain⟨a1,a2,a3,a4⟩:=ze7 fc rw' pl.isList hu0;exact⟨a2,a4⟩
  |t ys=>
   obtain⟨q,ws,rfl,h2,r2⟩:=ky;cases h;cases rw';obtain⟨its2,_,hq,_⟩:=L2.Inv.tuple I (SqT.of (K:=X.K) h2);exact⟨.list_tuple pl.isList hq hu0,.list_tuple pl.isList hq hu0⟩
  |l ys=>
   obtain⟨q,ws,rfl,h2,r2⟩:=ky;cases rw';obtain⟨its2,q2,pl2,_⟩:=L2.Inv.list I (SqL.of (K:=X.K) h2);obtain⟨g1,g2⟩:=zkl (A:=A.in1) hf r1 r2 q1 q2 h;by_cases hz:its.toArray.size=its2.toArray.size
   ·have e:b=(List.range its.toArray.size).all (eAt f xs ys):=by rw[g2,<-hz];simp
    rw[e];exact⟨.lists pl.isList pl2.isList hz (by omega) g1,.lists pl.isList pl2.isList hz (by omega) g1⟩
   ·have e:b=false:=by rw[g2,beq_eq_false_iff_ne.mpr hz,Bool.and_false]
    rw[e];exact⟨.lists_lengths pl.isList pl2.isList (by simpa using hz) (by omega),.lists_lengths pl.isList pl2.isList (by simpa using hz) (by omega)⟩
theorem zwy{A:Around}(I:Inv X pins st H s)(r:Rel T μ H σ)(hu:A.units+1<cLine){f:D->D->Option Bool}
  (hf:∀ (x y:D) (v w:V) (v' w':Value) (b:Bool),Rep T μ H x v->Rep T μ H y w->yhe v v'->yhe w w'->f x y=some b->SeqAt.EqAt A.in1 s v' w' b)
  (hs:∀ (x y:D) (v:V) (b:Bool),Rep T μ H x v->Rep T μ H y v->f x y=some b->b=true)
  {x y:D} {v w:V} {v' w':Value} {b:Bool} (hx:Rep T μ H x v) (hy:Rep T μ H y w) (rv:yhe v v') (rw':yhe w w') (h:eqK f (kd σ x) (kd σ y)=some b):SeqAt.EqAt A s v' w' b:=by
 have hu0:A.units<cLine:=by omega
 have rc:=(rcK I r hu hf hx hy rv rw' h).1;by_cases hvw:v=w
 ·subst hvw;have hb:=zi8 r hs hx hy h;have kx:=zyg r hx;have ky:=zyg r hy;generalize kd σ x=k1 at h kx;generalize kd σ y=k2 at h ky;cases k1 with
  |o=>cases h
  |s a=>
   obtain⟨rfl,fa⟩:=kx;cases k2 with
   |o=>cases h
   |s c=>obtain⟨rfl,fc⟩:=ky;cases h;exact zww rv rw' fa fc
   |t ys=>obtain⟨q,ws,e,_⟩:=ky;rw[e]at fa;simp[ydl]at fa
   |l ys=>obtain⟨q,ws,e,_⟩:=ky;rw[e]at fa;simp[ydl]at fa
  |t xs=>
   obtain⟨p,vs,rfl,_⟩:=kx;cases rv;cases rw';rw[hb];exact SeqAt.EqAt.same _
  |l xs=>
   obtain⟨p,vs,rfl,_⟩:=kx;cases rv;cases rw';rw[hb];exact SeqAt.EqAt.same _
 ·have kx:=zyg r hx;have ky:=zyg r hy;generalize kd σ x=k1 at h kx;generalize kd σ y=k2 at h ky;cases k1 with
  |o=>cases h
  |s a=>
   obtain⟨rfl,fa⟩:=kx;cases k2 with
   |o=>cases h
   |s c=>obtain⟨rfl,fc⟩:=ky;cases h;exact zww rv rw' fa fc
   |t ys=>
    obtain⟨q,ws,rfl,h2,r2⟩:=ky;cases h;cases rw';obtain⟨its,_,hq,_⟩:=L2.Inv.tuple I (SqT.of (K:=X.K) h2);exact(zd6 fa rv hq hu0).1
   |l ys=>
    obtain⟨q,ws,rfl,h2,r2⟩:=ky;cases h;cases rw';obtain⟨its,_,pl,_⟩:=L2.Inv.list I (SqL.of (K:=X.K) h2);exact zdc fa rv pl.isList hu0
  |t xs=>
   obtain⟨p,vs,rfl,h1,r1⟩:=kx;cases rv;cases k2 with
   |o=>cases h
   |s c=>
    obtain⟨rfl,fc⟩:=ky;cases h;obtain⟨its,_,hp,_⟩:=L2.Inv.tuple I (SqT.of (K:=X.K) h1);exact(zd6 fc rw' hp hu0).2.1
   |t ys=>obtain⟨q,ws,rfl,_⟩:=ky;cases rw';exact .of_refs (fun e=>hvw (by rw[e])) rc
   |l ys=>obtain⟨q,ws,rfl,_⟩:=ky;cases rw';exact .of_refs (fun e=>hvw (by rw[e])) rc
  |l xs=>
   obtain⟨p,vs,rfl,h1,r1⟩:=kx;cases rv;cases k2 with
   |o=>cases h
   |s c=>
    obtain⟨rfl,fc⟩:=ky;cases h;obtain⟨its,_,pl,_⟩:=L2.Inv.list I (SqL.of (K:=X.K) h1);exact zcl fc rw' pl.isList hu0
   |t ys=>obtain⟨q,ws,rfl,_⟩:=ky;cases rw';exact .of_refs (fun e=>hvw (by rw[e])) rc
   |l ys=>obtain⟨q,ws,rfl,_⟩:=ky;cases rw';exact .of_refs (fun e=>hvw (by rw[e])) rc
theorem zwx(I:Inv X pins st H s)(r:Rel T μ H σ):∀ (n:Nat) (A:Around) (x y:D) (v w:V) (v' w':Value) (b:Bool),A.units+n+1<cLine->Rep T μ H x v->Rep T μ H y w->yhe v v'->yhe w w'->eqD σ n x y=some b->SeqAt.EqAt A s v' w' b
 |0,A,x,y,v,w,v',w',b,hu,hx,hy,rv,rw',h=>zwy I r (by omega) (fun _ _ _ _ _ _ _ _ _ _ _ z=>by cases z) (fun _ _ _ _ _ _ z=>by cases z) hx hy rv rw' h
 |n+1,A,x,y,v,w,v',w',b,hu,hx,hy,rv,rw',h=>zwy I r (by omega) (fun x y v w v' w' b a1 a2 a3 a4 a5=>zwx I r n A.in1 x y v w v' w' b (by show A.units+1+n+1<cLine;omega) a1 a2 a3 a4 a5) (fun x y v b a1 a2 a3=>zi7 r n x y v b a1 a2 a3) hx hy rv rw' h
theorem rcD{A:Around}(I:Inv X pins st H s)(r:Rel T μ H σ)(n:Nat)(hu:A.units+n+1<cLine){x y:D}{v w:V}{v' w':Value}{b:Bool}(hx:Rep T μ H x v)(hy:Rep T μ H y w)(rv:yhe v v')(rw':yhe w w')(h:eqD σ n x y=some b):zvj A s v' w' b:=by
 cases n with
 |zero=>exact rcK I r (by omega) (fun _ _ _ _ _ _ _ _ _ _ _ z=>by cases z) hx hy rv rw' h
 |succ n=>exact rcK I r (by omega) (fun x y v w v' w' b a1 a2 a3 a4 a5=>zwx I r n A.in1 x y v w v' w' b (by show A.units+1+n+1<cLine;omega) a1 a2 a3 a4 a5) hx hy rv rw' h
end
section
variable{T:Tb}{X:Cx}{pins:List (Addr × Obj)}{st:St}{μ:List Addr}{H:Hp}{s:Shared}{σ:Sto}
def oEq(x y:D):M D:=fun σ=>match eqD σ 8 x y with
 |some b=>.ok (.bl b) σ
 |none=>.bad
def oNe(x y:D):M D:=fun σ=>match eqD σ 8 x y with
 |some b=>.ok (.bl (!b)) σ
 |none=>.bad
theorem zzm(hu:X.A.units+9<cLine):OpR X (compareOp .Eq) (rD T oEq):=by
 intro pins s st H v u v' u' Q I rv ru h;obtain⟨E,μ,σ,x,y,r,hx,hy,hp⟩:=h;unfold oEq at hp;cases e:eqD σ 8 x y with
 |none=>rw[e]at hp;exact hp.elim
 |some b=>
  rw[e]at hp;have:=(rcD I r 8 (by omega) hx hy rv ru e).1 X.prog X.w X.xe (EP X pins st Q) ⟨.bl b,H,I,rfl,yhb.here hp r (by rw[Rep])⟩;exact this
theorem zzr(hu:X.A.units+9<cLine):OpR X (compareOp .NotEq) (rD T oNe):=by
 intro pins s st H v u v' u' Q I rv ru h;obtain⟨E,μ,σ,x,y,r,hx,hy,hp⟩:=h;unfold oNe at hp;cases e:eqD σ 8 x y with
 |none=>rw[e]at hp;exact hp.elim
 |some b=>
  rw[e]at hp;have:=(rcD I r 8 (by omega) hx hy rv ru e).2 X.prog X.w X.xe (EP X pins st Q) ⟨.bl (!b),H,I,rfl,yhb.here hp r (by rw[Rep])⟩;exact this
def yjp(x y:D):M D:=fun σ=>match y with
 | .non=>(match x with
  | .non=>.ok (.bl true) σ
  |_=>.ok (.bl false) σ)
 |_=>.bad
def ye9(x y:D):M D:=fun σ=>match y with
 | .non=>(match x with
  | .non=>.ok (.bl false) σ
  |_=>.ok (.bl true) σ)
 |_=>.bad
theorem zry{x:D}{v:V}(h:Rep T μ H x v):decide (v=.non)=(match x with | .non=>true|_=>false):=by
 cases x with
 |non=>rw[Rep]at h;subst h;rfl
 |tup ds=>rw[Rep]at h;obtain⟨p,_,rfl,_⟩:=h;simp
 |scr ds=>rw[Rep]at h;obtain⟨p,rfl,_⟩:=h;simp
 |ref ds=>rw[Rep]at h;obtain⟨p,rfl,_⟩:=h;simp
 |lst ds=>rw[Rep]at h;obtain⟨p,_,rfl,_⟩:=h;simp
 |dic ks ds=>rw[Rep]at h;obtain⟨p,_,rfl,_⟩:=h;simp
 |obj c ks ds=>rw[Rep]at h;obtain⟨p,_,_,rfl,_⟩:=h;simp
 |exn c=>rw[Rep]at h;obtain⟨p,_,rfl,_⟩:=h;simp
 |_=>rw[Rep]at h;subst h;simp
theorem zuj:ycd T (fun x y H Q=>y=.non/\Q (.bl (decide (x=.non))) H) yjp:=by
 intro E μ H σ x y v u Q r p q h;cases y with
 |non=>
  refine⟨by rw[Rep]at q;exact q,?_⟩;rw[zry p];cases x<;>exact yhb.here h r (by rw[Rep])
 |_=>exact h.elim
theorem zm2:ycd T (fun x y H Q=>y=.non/\Q (.bl (!decide (x=.non))) H) ye9:=by
 intro E μ H σ x y v u Q r p q h;cases y with
 |non=>
  refine⟨by rw[Rep]at q;exact q,?_⟩;rw[zry p];cases x<;>exact yhb.here h r (by rw[Rep]<;>rfl)
 |_=>exact h.elim
theorem zn7{ds:List D}{vs:List V}{k:Int}{d:D}(r:yhh T μ H ds vs)(h:atI ds k=some d):∃ v,atI vs k=some v/\Rep T μ H d v:=by
 unfold atI at h ⊢;rw[<-r.length];cases e:ixN ds.length k with
 |none=>rw[e]at h;cases h
 |some j=>rw[e]at h;exact r.get h
theorem zhk:∀ (ns:List Int),yhh T μ H (ns.map D.int) (ns.map V.int)
 |[]=>yhh.nil
 |n::ns=>yhh.cons (by rw[Rep]) (zhk ns)
def yf1(σ:Sto):D->Option (List D)
 | .tup xs=>some xs
 | .scr ns=>some (ns.map D.int)
 | .ref n=>yej σ n
 | .lst xs=>some xs
 |_=>none
def oIx(x i:D):M D:=fun σ=>match i with
 | .int k=>(match yf1 σ x with
  |some xs=>(match atI xs k with
   |some d=>.ok d σ
   |none=>.bad)
  |none=>.bad)
 |_=>.bad
theorem ztx(r:Rel T μ H σ){x:D}{v:V}{xs:List D}(h:Rep T μ H x v)(e:yf1 σ x=some xs):∃ p vs,v=.ref p/\yhh T μ H xs vs/\(SqL T.K H p vs\/SqT T.K H p vs):=by
 cases x with
 |tup ds=>cases e;rw[Rep]at h;obtain⟨p,vs,rfl,h1,h2⟩:=h;exact⟨p,vs,rfl,h2,.inr (SqT.of h1)⟩
 |scr ns=>cases e;rw[Rep]at h;obtain⟨p,rfl,h1⟩:=h;exact⟨p,_,rfl,zhk ns,.inl h1.seq⟩
 |ref n=>obtain⟨a,vs,rfl,_,h1,h2⟩:=r.lst h e;exact⟨a,vs,rfl,h2,.inl (SqL.of h1)⟩
 |lst ds=>cases e;rw[Rep]at h;obtain⟨p,vs,rfl,_,h1,h2⟩:=h;exact⟨p,vs,rfl,h2,.inl (SqL.of h1)⟩
 |_=>cases e
theorem ybc(hK:T.K=X.K):ycd T (fun x y H Q=>yj7 X.K x y H Q\/yj8 X.K x y H Q) oIx:=by
 intro E μ H σ x y v u Q r p q h;cases y with
 |int k=>
  unfold oIx at h;cases e:yf1 σ x with
  |none=>simp only[e]at h;exact h.elim
  |some xs=>
   simp only[e]at h;cases e2:atI xs k with
   |none=>rw[e2]at h;exact h.elim
   |some d=>
    rw[e2]at h;obtain⟨a,vs,rfl,h1,h2⟩:=ztx r p e;obtain⟨w,h3,h4⟩:=zn7 h1 e2;rw[hK]at h2;rcases h2 with h2|h2
    ·exact .inl ⟨a,vs,k,w,rfl,zyb q,h2,h3,yhb.here h r h4⟩
    ·exact .inr ⟨a,vs,k,w,rfl,zyb q,h2,h3,yhb.here h r h4⟩
 |_=>exact h.elim
theorem yi3:IxR X (fun x y H Q=>yj7 X.K x y H Q\/yj8 X.K x y H Q):=zqz.or zye
def isF(d:D):Bool:=(sc d).isSome
def eqF(x y:D):Bool:=match sc x,sc y with
 |some a,some b=>eqV a b
 |_,_=>false
def oIn(neg:Bool)(x y:D):M D:=fun σ=>match yf1 σ y with
 |some xs=>if (isF x && xs.all isF)=true then .ok (.bl (if neg then !(xs.any fun z=>eqF z x)else xs.any fun z=>eqF z x)) σ else .bad
 |none=>.bad
theorem zjr:∀ {ds:List D} {vs:List V},yhh T μ H ds vs->ds.all isF=true->vs.all ydl=true
 |[],vs,h,_=>by rw[yhh]at h;subst h;rfl
 |d::ds,vs,h,e=>by
  rw[yhh]at h;obtain⟨v,r,rfl,h1,h2⟩:=h;rw[List.all_cons,Bool.and_eq_true]at e ⊢;obtain⟨a,ea⟩:=Option.isSome_iff_exists.mp e.1;exact⟨by rw[ya1 h1 ea];exact ztr ea,zjr h2 e.2⟩
theorem zn0{x:D}{a:V}(ex:sc x=some a):∀ {ds:List D} {vs:List V},yhh T μ H ds vs->ds.all isF=true->(ds.any fun z=>eqF z x)=vs.any fun y=>eqV y a
 |[],vs,h,_=>by rw[yhh]at h;subst h;rfl
 |d::ds,vs,h,e=>by
  rw[yhh]at h;obtain⟨v,r,rfl,h1,h2⟩:=h;rw[List.all_cons,Bool.and_eq_true]at e;obtain⟨c,ec⟩:=Option.isSome_iff_exists.mp e.1;rw[List.any_cons,List.any_cons,zn0 ex h2 e.2];have:eqF d x=eqV v a:=by unfold eqF;rw[ec,ex,ya1 h1 ec]
  rw[this]
theorem ybb(hK:T.K=X.K)(neg:Bool):ycd T (rIn X.K neg) (oIn neg):=by
 intro E μ H σ x y v u Q r p q h;unfold oIn at h;cases e:yf1 σ y with
 |none=>rw[e]at h;exact h.elim
 |some xs=>
  rw[e]at h;by_cases hc:(isF x && xs.all isF)=true
  ·simp only[hc,if_true]at h;rw[Bool.and_eq_true]at hc;obtain⟨a,ea⟩:=Option.isSome_iff_exists.mp hc.1;obtain⟨b,vs,rfl,h1,h2⟩:=ztx r q e;rw[hK]at h2;refine⟨b,vs,rfl,h2,by rw[ya1 p ea];exact ztr ea,zjr h1 hc.2,?_⟩;have e3:inV v vs=xs.any fun z=>eqF z x:=by unfold inV;rw[zn0 ea h1 hc.2,ya1 p ea]
   rw[e3];exact yhb.here h r (by rw[Rep])
  ·simp only[hc]at h;exact h.elim
def yjq(xs:List D):M D:=fun σ=>match xs with
 |[x]=>(match yf1 σ x with
  |some ys=>.ok (.int ys.length) σ
  |none=>.bad)
 |_=>.bad
theorem zuk(hK:T.K=X.K):znt T (fun xs H Q=>∃ p ys,xs=[.ref p]/\(SqL X.K H p ys\/SqT X.K H p ys)/\Q (.int ys.length) H) yjq:=by
 intro E μ H σ xs vs Q r p h
 match xs with
 |[]=>exact h.elim
 |[x]=>
  rw[yhh]at p;obtain⟨v,w,rfl,p1,p2⟩:=p;rw[yhh]at p2;subst p2;unfold yjq at h;cases e:yf1 σ x with
  |none=>simp only[e]at h;exact h.elim
  |some ys=>
   simp only[e]at h;obtain⟨b,vs,rfl,h1,h2⟩:=ztx r p1 e;rw[hK]at h2;exact⟨b,vs,rfl,h2,by rw[<-h1.length];exact yhb.here h r (by rw[Rep])⟩
 |_::_::_=>exact h.elim
def ye7(xs:List D):M D:=fun σ=>match xs with
 |[x]=>(match yf1 σ x with
  |some ys=>yet ys σ
  |none=>.bad)
 |_=>.bad
theorem zm0(hK:T.K=X.K):znt T (fun xs H Q=>∃ p ys,xs=[.ref p]/\(SqL X.K H p ys\/SqT X.K H p ys)/\∀ l,H l=none->Q (.ref l) (upd H l (.lst ys))) ye7:=by
 intro E μ H σ xs vs Q r p h
 match xs with
 |[]=>exact h.elim
 |[x]=>
  rw[yhh]at p;obtain⟨v,w,rfl,p1,p2⟩:=p;rw[yhh]at p2;subst p2;unfold ye7 at h;cases e:yf1 σ x with
  |none=>simp only[e]at h;exact h.elim
  |some ys=>
   simp only[e]at h;obtain⟨b,vs,rfl,h1,h2⟩:=ztx r p1 e;rw[hK]at h2;exact⟨b,vs,rfl,h2,fun l hl=>zrw h r h1 hl⟩
 |_::_::_=>exact h.elim
def zze(xs:List D):M D:=fun σ=>match xs with
 |[x]=>(match yf1 σ x with
  |some ys=>.ok (.tup ys) σ
  |none=>.bad)
 |_=>.bad
theorem zhw(hK:T.K=X.K):znt T (fun xs H Q=>∃ p ys,xs=[.ref p]/\((SqL X.K H p ys/\∀ l,H l=none->Q (.ref l) (upd H l (.tup ys)))\/(SqT X.K H p ys/\Q (.ref p) H))) zze:=by
 intro E μ H σ xs vs Q r p h
 match xs with
 |[]=>exact h.elim
 |[x]=>
  rw[yhh]at p;obtain⟨v,w,rfl,p1,p2⟩:=p;rw[yhh]at p2;subst p2;unfold zze at h;cases e:yf1 σ x with
  |none=>simp only[e]at h;exact h.elim
  |some ys=>
   simp only[e]at h;cases x with
   |tup ds=>
    cases e;have p0:=p1;rw[Rep]at p1;obtain⟨b,vs,rfl,h1,h2⟩:=p1;exact⟨b,vs,rfl,.inr ⟨SqT.of h1,yhb.here h r p0⟩⟩
   |scr ns=>
    cases e;rw[Rep]at p1;obtain⟨b,rfl,h1⟩:=p1;exact⟨b,_,rfl,.inl ⟨by rw[<-hK];exact h1.seq,fun l hl=>zrx h r (zhk ns) hl⟩⟩
   |ref n=>
    obtain⟨a,vs,rfl,_,h1,h2⟩:=r.lst p1 e;exact⟨a,vs,rfl,.inl ⟨SqL.of h1,fun l hl=>zrx h r h2 hl⟩⟩
   |lst ds=>
    cases e;rw[Rep]at p1;obtain⟨b,vs,rfl,_,h1,h2⟩:=p1;exact⟨b,vs,rfl,.inl ⟨SqL.of h1,fun l hl=>zrx h r h2 hl⟩⟩
   |_=>cases e
 |_::_::_=>exact h.elim
end
def yc6(o:List D->M D)(fs:Ev->M (List D)):Ev->M D:=fun ρ=>bnd (fs ρ) o
section
variable{T:Tb}{X:Cx}{x:Str}{p pos:Pos}{e:Expr}{es:List Expr}{fs:Ev->M (List D)}{id ty:String}{r:List V->Hp->VK->Prop}{o:List D->M D}
theorem ycs(hs:znt T r o){st:St}{H:Hp}{Q:VK}(h:tF T X (yc6 o fs) st H Q):tCB r (tL T X fs) st H Q:=by
 obtain⟨μ,ρ,σ,he,hr,hp⟩:=h;exact⟨μ,ρ,σ,he,hr,hp.bind fun ds σ1 μ1 vs H1 _ e1 r1 p1 q1=>hs _ μ1 H1 σ1 ds vs Q r1 p1 q1⟩
theorem zjf(hc:yb3 X (.builtin id) r)(hs:znt T r o)(hg:Gl X x)(hm:X.mg x=none)(hv:bootBuiltins x=some (.builtin id))(ha:FA T X (e::es) fs)(hn:x ≠ "__name__":=by decide)(hdb:(x == ("__debug__" : Str))=false:=by decide)
  (he:starEach (e::es) X.env=(false,eval e X.env)::starEach es X.env:=by rfl) (hpl:(backTo pos (starEach es X.env)).any (·.1)=false:=by rfl):FE T X (.Call (.Name x p) (e::es) [] pos) (yc6 o fs):=
 fun pins s st H Q I h=>zlx hc hg hm hv ha hn hdb he hpl pins s st H Q I (ycs hs h)
theorem zga(hc:yb3 X (.type ty) r)(hs:znt T r o)(hg:Gl X x)(hm:X.mg x=none)(hv:bootBuiltins x=some (.type ty))(ha:FA T X (e::es) fs)(hn:x ≠ "__name__":=by decide)(hdb:(x == ("__debug__" : Str))=false:=by decide)
  (he:starEach (e::es) X.env=(false,eval e X.env)::starEach es X.env:=by rfl) (hpl:(backTo pos (starEach es X.env)).any (·.1)=false:=by rfl):FE T X (.Call (.Name x p) (e::es) [] pos) (yc6 o fs):=
 fun pins s st H Q I h=>zhd hc hg hm hv ha hn hdb he hpl pins s st H Q I (ycs hs h)
end
def yja(σ:Sto):D->Option (List D)
 | .ref n=>yej σ n
 | .lst xs=>some xs
 |_=>none
theorem Rel.ls{T:Tb}{μ:List Addr}{H:Hp}{σ:Sto}(r:Rel T μ H σ){x:D}{v:V}{xs:List D}(h:Rep T μ H x v)(e:yja σ x=some xs):∃ a vs,v=.ref a/\H a=some (.lst vs)/\yhh T μ H xs vs:=by
 cases x with
 |ref n=>obtain⟨a,vs,h1,_,h2,h3⟩:=r.lst h e;exact⟨a,vs,h1,h2,h3⟩
 |lst ys=>cases e;rw[Rep]at h;obtain⟨a,vs,h1,_,h2,h3⟩:=h;exact⟨a,vs,h1,h2,h3⟩
 |_=>cases e
def yeq(o:D->List D->M D)(m:M (List D))(x:D):M D:=fun σ=>match yja σ x with
 |some _=>bnd m (o x) σ
 |none=>.bad
def yc9(o:D->List D->M D)(f:Ev->M D)(fs:Ev->M (List D)):Ev->M D:=fun ρ=>bnd (f ρ) (yeq o (fs ρ))
def ycc(T:Tb)(r:V->List V->Hp->VK->Prop)(o:D->List D->M D):Prop:=∀ (E:XK) μ H σ x xs v vs Q,Rel T μ H σ->Rep T μ H x v->yhh T μ H xs vs->yhb T E (Rep T) μ H (o x xs σ) Q->r v vs H Q
def zrz(x:D)(xs:List D):M D:=fun σ=>match x,xs with
 | .ref n,[y]=>(match yej σ n with
  |some ys=>if ys.length<cap then .ok .non (σ.set n (.lst (ys++[y])))else .bad
  |none=>.bad)
 |_,_=>.bad
section
variable{T:Tb}{X:Cx}{o e:Expr}{es:List Expr}{f:Ev->M D}{fs:Ev->M (List D)}{name:Str}{apos cpos:Pos}{id:String}{r:V->List V->Hp->VK->Prop}{g:D->List D->M D}
theorem zpm(pa:PlainAttrs "list")(slot:Slot "list" name id)(hty:typeOf (.builtin id)=pure (.type "method_descriptor"))(hm:MtR X id r)(hs:ycc T r g)(ho:FE T X o f)(ha:FA T X (e::es) fs)
  (hbase:attributeBase o name X.env (eval o X.env)=eval o X.env:=by rfl)
  (hfew:((backTo cpos (starEach (e::es) X.env)).all (fun x=>!x.1) && (backToKw cpos (keywordEach [] X.env)).all (fun x=>x.1.isSome)
   && decide ((e::es).length+([]:List Keyword).length+(if ([]:List Keyword).isEmpty then 0 else 1)<30))=true:=by rfl)
  (hline:(apos.endLine == cpos.line)=true:=by rfl) (hst:starEach (e::es) X.env=(false,eval e X.env)::starEach es X.env:=by rfl) (hplain:(backTo cpos (starEach es X.env)).any (·.1)=false:=by rfl) :
  FE T X (.Call (.Attribute o name apos) (e::es) [] cpos) (yc9 g f fs):=by
 intro pins s st H Q I h;refine yfh pa slot hty hm ho ha hbase hfew hline hst hplain pins s st H Q I ?_;obtain⟨μ,ρ,σ,he,hr,hp⟩:=h;refine⟨μ,ρ,σ,he,hr,hp.bind fun x σ1 μ1 v H1 _ e1 r1 p1 q1=>?_⟩;unfold yeq at q1;cases el:yja σ1 x with
 |none=>rw[el]at q1;exact q1.elim
 |some xs=>
  rw[el]at q1;obtain⟨a,vs,rfl,h1,h2⟩:=r1.ls p1 el;refine⟨.inl ⟨rfl,vs,SqL.of h1⟩,μ1,ρ,σ1,he.mono e1,r1,q1.bind fun ds σ2 μ2 ws H2 _ e2 r2 p2 q2=>?_⟩;exact hs _ μ2 H2 σ2 x ds (.ref a) ws Q r2 (Rep.mono e2 _ _ p1) p2 q2
theorem zfa:ycc T zs1 zrz:=by
 intro E μ H σ x xs v vs Q r p q h;cases x with
 |ref n=>
  match xs with
  |[]=>exact h.elim
  |[y]=>
   rw[yhh]at q;obtain⟨w,z,rfl,q1,q2⟩:=q;rw[yhh]at q2;subst q2;unfold zrz at h;cases el:yej σ n with
   |none=>simp only[el]at h;exact h.elim
   |some ys=>
    simp only[el]at h;by_cases hc:ys.length<cap
    ·rw[if_pos hc]at h;obtain⟨a,vs,rfl,hn,h1,h2⟩:=r.lst p el;have wr:=r.write (o:=.lst (vs++[w])) (ob:=.lst (ys++[y])) hn ⟨_,zne,by
      have ex:Ext μ H μ (upd H a (.lst (vs++[w]))):=zf9 (List.mem_of_getElem? hn) h1 (fun _ z=>by cases z) (fun _ _ z=>by cases z);exact yhh.append (yhh.mono ex _ _ h2) (yhh.cons (Rep.mono ex _ _ q1) yhh.nil)⟩
     exact⟨a,vs,w,rfl,rfl,h1,by rw[<-h2.length];exact zv2 hc,h _ _ _ wr.1 wr.2 (by rw[Rep])⟩
    ·rw[if_neg hc]at h;exact h.elim
  |_::_::_=>exact h.elim
 |_=>exact h.elim
end
inductive BT where
 |int|bool|str|tuple|list|dict
def BT.nm:BT->String
 | .int=>"int" | .bool=>"bool" | .str=>"str" | .tuple=>"tuple" | .list=>"list" | .dict=>"dict"
section
variable{T:Tb}{X:Cx}
end
def ykn:Ev->M Fl:=fun ρ=>ret (.nx ρ)
def yks(h:Ev->M Fl):Fl->M Fl
 | .nx ρ'=>h ρ'
 | .rt d=>ret (.rt d)
 | .bk ρ'=>ret (.bk ρ')
 | .ct ρ'=>ret (.ct ρ')
 | .xc ρ' x=>ret (.xc ρ' x)
def ykq(g h:Ev->M Fl):Ev->M Fl:=fun ρ=>bnd (g ρ) (yks h)
def ykd:D->M Fl:=fun d=>ret (.rt d)
def ykp(f:Ev->M D):Ev->M Fl:=fun ρ=>xs ρ (f ρ) ykd
def yim(ρ:Ev):D->M Fl:=fun _=>ret (.nx ρ)
def ykk(f:Ev->M D):Ev->M Fl:=fun ρ=>xs ρ (f ρ) (yim ρ)
def ykt(i:Nat)(ρ:Ev):D->M Fl:=fun d=>ret (.nx (ρ.set i (some d)))
def ykr(i:Nat)(f:Ev->M D):Ev->M Fl:=fun ρ=>xs ρ (f ρ) (ykt i ρ)
def sIf(t:Ev->M Bool)(a b:Ev->M Fl):Ev->M Fl:=fun ρ=>xs ρ (t ρ) (ifK (a ρ) (b ρ))
section
variable{T:Tb}{X:Cx}{st':Stmt}{rest:List Stmt}{g h:Ev->M Fl}{e:Expr}{f:Ev->M D}{pos:Pos}
theorem zp9:FSs T X [] ykn:=by
 intro pins s st H D I hw;obtain⟨μ,ρ,σ,hE,hr,hp⟩:=hw;exact zsv pins s st H D I (yhb.here (g:=Gl2.nx st) hp hr hE)
theorem ztw{μ:List Addr}{H:Hp}{σ:Sto}{fl:Fl}{gl:Gl2}{D:Ends}{N:St->Hp->Prop}(r:Rel T μ H σ)(q:RFl T μ H fl gl)(k:Fl->M Fl)
  (hn:∀ ρ,fl=.nx ρ->∀ st,gl=.nx st->ygy T μ H ρ st->N st H) (ho:(∀ ρ,fl≠.nx ρ)->yhb T EN (RFl T) μ H (.ok fl σ) (ygz X D)):ygz X { D with nx:=N } gl H:=by
 cases fl with
 |nx ρ=>cases gl with
  |nx st=>exact hn ρ rfl st rfl q
  |_=>exact q.elim
 |rt d=>cases gl with
  |rt v=>have z:=yhb.here (g:=Gl2.rt v) (ho fun _ z=>by cases z) r q;exact z
  |_=>exact q.elim
 |bk ρ=>cases gl with
  |bk v=>have z:=yhb.here (g:=Gl2.bk v) (ho fun _ z=>by cases z) r q;exact z
  |_=>exact q.elim
 |ct ρ=>cases gl with
  |ct v=>have z:=yhb.here (g:=Gl2.ct v) (ho fun _ z=>by cases z) r q;exact z
  |_=>exact q.elim
 |xc ρ x=>cases gl with
  |xc v c fd=>have z:=yhb.here (g:=Gl2.xc v c fd) (ho fun _ z=>by cases z) r q;exact z
  |_=>exact q.elim
theorem zj3(h1:FS T X st' g)(h2:FSs T X rest h):FSs T X (st'::rest) (ykq g h):=by
 intro pins s st H D I hw;refine zl4 h1 h2 pins s st H D I ?_;obtain⟨μ,ρ,σ,hE,hr,hp⟩:=hw;refine⟨μ,ρ,σ,hE,hr,hp.bind fun fl σ1 μ1 gl H1 _ e1 r1 q1 p1=>?_⟩;refine ztw (X:=X) r1 q1 (fun _=>bad) (fun ρ' ef st1 eg he=>?_) (fun hn=>?_)
 ·subst ef;exact⟨μ1,ρ',σ1,he,r1,p1⟩
 ·cases fl with
  |nx ρ'=>exact(hn ρ' rfl).elim
  |_=>exact p1
theorem zqa(h1:FS T X st' g):FSs T X [st'] g:=zsw h1
theorem zxu(he:FE T X e f):FS T X (.Return (some e) pos) (ykp f):=by
 intro pins s st H D I hw;refine yah he pins s st H D I ?_;obtain⟨μ,ρ,σ,hE,hr,hp⟩:=hw;exact⟨μ,ρ,σ,hE,hr,hp.xs hE fun d σ1 μ1 v H1 _ e1 r1 q1 p1=>yhb.here (g:=Gl2.rt v) p1 r1 q1⟩
theorem zp5(he:FE T X e f)(hs:swapsWith e none pos.line X.env=pure false:=by rfl):FS T X (.Expr e pos) (ykk f):=by
 intro pins s st H D I hw;refine zsu he hs pins s st H D I ?_;obtain⟨μ,ρ,σ,hE,hr,hp⟩:=hw;exact⟨μ,ρ,σ,hE,hr,hp.xs hE fun d σ1 μ1 v H1 _ e1 r1 q1 p1=>yhb.here (g:=Gl2.nx st) p1 r1 (hE.mono e1)⟩
theorem zxv{i:Nat}{x:Str}{pos':Pos}(hN:X.N.Nodup)(hi:X.N[i]?=some x)(hx:Loc X.env.scope x)(he:FE T X e f)(hs:swapsWith e (some (.Name x pos')) pos.line X.env=pure false:=by rfl)(hf:X.fn x=true\/X.env.scope.names.lookup x=some .local:=by first|exact .inl rfl|exact .inr rfl|assumption) :
  FS T X (.Assign [.Name x pos'] e pos) (ykr i f):=by
 intro pins s st H D I hw;refine yai hN hi hx he hs hf pins s st H D I ?_;obtain⟨μ,ρ,σ,hE,hr,hp⟩:=hw;exact⟨μ,ρ,σ,hE,hr,hp.xs hE fun d σ1 μ1 v H1 _ e1 r1 q1 p1=>yhb.here (g:=Gl2.nx (st.set i (some v))) p1 r1 ((hE.mono e1).set i q1)⟩
theorem yds{c:Expr}{a b:List Stmt}{tc:Ev->M Bool}{ga gb:Ev->M Fl}(hc:FT T X c tc)(ha:FSs T X a ga)(hb:FSs T X b gb):FS T X (.If c a b pos) (sIf tc ga gb):=by
 intro pins s st H D I hw;refine yfl hc ha hb pins s st H D I ?_;obtain⟨μ,ρ,σ,hE,hr,hp⟩:=hw;refine⟨μ,ρ,σ,hE,hr,hp.xs hE fun c σ1 μ1 v H1 _ e1 r1 q1 p1=>?_⟩;cases q1;cases c with
 |true=>unfold ifK at p1;rw[if_pos rfl]at p1 ⊢;exact⟨μ1,ρ,σ1,hE.mono e1,r1,p1⟩
 |false=>unfold ifK at p1;rw[if_neg Bool.false_ne_true]at p1 ⊢;exact⟨μ1,ρ,σ1,hE.mono e1,r1,p1⟩
def gD(T:Tb)(tg:D->Ev->Option Ev):TG:=fun v st H Q=>∃ μ σ ρ d ρ',ygy T μ H ρ st/\Rel T μ H σ/\Rep T μ H d v/\tg d ρ=some ρ'/\∀ st',ygy T μ H ρ' st'->Q st' H
def gsD(T:Tb)(tg:List D->Ev->Option Ev):TGs:=fun vs st H Q=>∃ μ σ ρ ds ρ',ygy T μ H ρ st/\Rel T μ H σ/\yhh T μ H ds vs/\tg ds ρ=some ρ'/\∀ st',ygy T μ H ρ' st'->Q st' H
abbrev FG(T:Tb)(X:Cx)(t:Expr)(tg:D->Ev->Option Ev):Prop:=PG X t (gD T tg)
abbrev FGs(T:Tb)(X:Cx)(ts:List Expr)(tg:List D->Ev->Option Ev):Prop:=PGs X ts (gsD T tg)
def tgN(i:Nat):D->Ev->Option Ev:=fun d ρ=>some (ρ.set i (some d))
def ygi:List D->Ev->Option Ev
 |[],ρ=>some ρ
 |_::_,_=>none
def ybn(t:D->Ev->Option Ev)(u:List D->Ev->Option Ev):List D->Ev->Option Ev
 |[],_=>none
 |d::ds,ρ=>(t d ρ).bind fun ρ'=>u ds ρ'
def tgT(n:Nat)(t:List D->Ev->Option Ev):D->Ev->Option Ev
 | .tup ds,ρ=>if ds.length=n then t ds ρ else none
 |_,_=>none
theorem zpo{i:Nat}{x:Str}(hN:X.N.Nodup)(hi:X.N[i]?=some x)(hx:Loc X.env.scope x)(hf:X.fn x=true\/X.env.scope.names.lookup x=some .local:=by first|exact .inl rfl|exact .inr rfl|assumption):FG T X (.Name x pos) (tgN i):=by
 intro pins s st H v u Q I r h;obtain⟨μ,σ,ρ,d,ρ',hE,hr,hd,ht,hq⟩:=h;cases ht;exact zso hN hi hx hf pins s st H v u Q I r (hq _ (hE.set i hd))
theorem zpp:FGs T X [] ygi:=by
 intro pins s st H vs us Q I r h;obtain⟨μ,σ,ρ,ds,ρ',hE,hr,hd,ht,hq⟩:=h;cases ds with
 |nil=>cases ht;rw[yhh]at hd;subst hd;exact zsp pins s st H [] us Q I r ⟨rfl,hq _ hE⟩
 |cons d ds=>cases ht
theorem zjl{es:List Expr}{t:D->Ev->Option Ev}{u:List D->Ev->Option Ev}(h1:FG T X e t)(h2:FGs T X es u)
  (hs:(assignEach (e::es) X.env).map (·.2)=assign e X.env::(assignEach es X.env).map (·.2):=by rfl):FGs T X (e::es) (ybn t u):=by
 intro pins s st H vs us Q I r h;obtain⟨μ,σ,ρ,ds,ρ',hE,hr,hd,ht,hq⟩:=h;cases ds with
 |nil=>cases ht
 |cons d ds=>
  rw[yhh]at hd;obtain⟨v,w,rfl,hd1,hd2⟩:=hd;obtain⟨ρ1,e1,e2⟩:=Option.bind_eq_some_iff.mp ht;refine zl0 h1 h2 hs pins s st H (v::w) us Q I r ⟨v,w,rfl,μ,σ,ρ,d,ρ1,hE,hr,hd1,e1,fun st1 hE1=>?_⟩;exact⟨μ,σ,ρ1,ds,ρ',hE1,hr,hd2,e2,hq⟩
theorem zxf{es:List Expr}{k:Nat}{t:List D->Ev->Option Ev}{n:Nat}(hc:X.calm=true)(h:FGs T X es t)
  (hn:(assignEach es X.env).length=n:=by rfl) (hst:(assignEach es X.env).findIdx? (·.1)=none:=by rfl):FG T X (.Tuple es k pos) (tgT n t):=by
 intro pins s st H v u Q I r hw;obtain⟨μ,σ,ρ,d,ρ',hE,hr,hd,ht,hq⟩:=hw;cases d with
 |tup ds=>
  have hd0:=hd;rw[Rep]at hd;obtain⟨p,vs,rfl,h1,h2⟩:=hd;unfold tgT at ht;dsimp only at ht;by_cases hl:ds.length=n
  ·rw[if_pos hl]at ht;exact zz6 hc h hn hst pins s st H (.ref p) u Q I r ⟨p,vs,rfl,SqT.of h1,by rw[<-h2.length];exact hl,μ,σ,ρ,ds,ρ',hE,hr,h2,ht,hq⟩
  ·rw[if_neg hl]at ht;cases ht
 |_=>cases ht
def yhv(tg:D->Ev->Option Ev)(ρ:Ev)(d:D):M Fl:=match tg d ρ with
 |some ρ'=>ret (.nx ρ')
 |none=>bad
def yki(f:Ev->M D)(tg:D->Ev->Option Ev):Ev->M Fl:=fun ρ=>xs ρ (f ρ) (yhv tg ρ)
theorem zxq{tg:Expr}{t:D->Ev->Option Ev}(he:FE T X e f)(hg:FG T X tg t)(hs:swapsWithSole [tg] e pos.line X.env=pure false:=by rfl)(hw:swappedStores [tg] e X.env=pure none:=by rfl)
  (h1:(assignEach [tg] X.env).map (·.2)=[assign tg X.env]:=by rfl):FS T X (.Assign [tg] e pos) (yki f t):=by
 intro pins s st H D I hq;refine yad he hg hs hw h1 pins s st H D I ?_;obtain⟨μ,ρ,σ,hE,hr,hp⟩:=hq;refine⟨μ,ρ,σ,hE,hr,hp.xs hE fun d σ1 μ1 v H1 _ e1 r1 q1 p1=>?_⟩;unfold yhv at p1;cases ht:t d ρ with
 |none=>simp only[ht]at p1;exact p1.elim
 |some ρ'=>simp only[ht]at p1;exact⟨μ1,σ1,ρ,d,ρ',hE.mono e1,r1,q1,ht,fun st1 hE1=>yhb.here (g:=Gl2.nx st1) p1 r1 hE1⟩
end
inductive Src where
 |seq (ds:List D)
 |lref (n:Nat)
def Src.nx:Src->Nat->Sto->Option (Option D)
 | .seq ds,i,_=>some ds[i]?
 | .lref n,i,σ=>(yej σ n).map fun xs=>xs[i]?
def ycf(T:Tb)(μ0:List Addr)(H0:Hp)(src:Src)(J:It):Prop:=∀ μ H σ i,Ext μ0 H0 μ H->Rel T μ H σ->match src.nx i σ with
 |none=>True
 |some none=>J.stop i H
 |some (some d)=>J.go i H/\∀ x H',J.yld i H x H'->H'=H/\Rep T μ H d x
def tI(T:Tb)(X:Cx)(f:Ev->M Src):TI:=fun st H R=>∃ μ ρ σ,ygy T μ H ρ st/\Rel T μ H σ/\yhb T (XE X st) (ycf T) μ H (f ρ σ) R
abbrev FI(T:Tb)(X:Cx)(tg iter:Expr)(f:Ev->M Src):Prop:=PI X tg iter (tI T X f)
def yao(n:Nat):List D:=(List.range n).map fun(i:Nat)=>D.int (i:Int)
def yf0(d:D):M Src:=fun σ=>match d with
 | .tup ds=>.ok (.seq ds) σ
 | .lst ds=>.ok (.seq ds) σ
 | .scr ns=>.ok (.seq (ns.map D.int)) σ
 | .ref n=>(match yej σ n with
  |some _=>.ok (.lref n) σ
  |none=>.bad)
 |_=>.bad
def yk0(f:Ev->M D):Ev->M Src:=fun ρ=>bnd (f ρ) yf0
noncomputable def zuc(j:Int):Bool:=hide (decide (-(2 ^ 62)<=j) && decide (j<2 ^ 62))
noncomputable def yke(d:D):M Src:=fun σ=>match d with
 | .int j=>if zuc j=true then .ok (.seq (yao j.toNat)) σ else .bad
 |_=>.bad
noncomputable def ykz(f:Ev->M D):Ev->M Src:=fun ρ=>bnd (f ρ) yke
section
variable{T:Tb}{X:Cx}{tg iter:Expr}{f:Ev->M D}
def yi1(K:PySem.W.Frag)(tl:TE):TI:=fun σ H R=>tl σ H fun x H1=>∃ a,x=.ref a/\(((∃ xs,SqL K H1 a xs)/\R (Itl K a) H1)\/((∃ xs,SqT K H1 a xs)/\R (Itt K a) H1))
theorem zz7{l:Expr}{tl:TE}(hl:PE X l tl):PI X tg l (yi1 X.K tl):=by
 intro pins s σ H R I h;refine thn (hl pins s σ H _ I h) fun v s1 ⟨x,H1,I1,r1,q1⟩=>?_;obtain⟨a,e,q1⟩:=q1;subst e;cases r1;rcases q1 with⟨⟨xs,hq⟩,q⟩|⟨⟨xs,hq⟩,q⟩
 ·obtain⟨its,rv,p,hz⟩:=I1.list hq;refine wpAny_pyIter_list p.isList ?_;refine⟨s1.heap.objs.size,[s1.heap.objs.size],_,_,H1,rfl,I1.kept (t':=s1.toks) fun b o e=>Heap.get?_push_of_some _ e,zh3 a _,⟨_,Heap.get?_push_size _ rfl,rfl,rfl⟩,fun b hb=>?_,q⟩;have e:b=s1.heap.objs.size:=by simpa using hb
  subst e;exact I1.fpOk (Nat.le_refl _) (I1.hok.fresh (Nat.le_refl _))
 ·obtain⟨its,rv,p,hz⟩:=I1.tuple hq;refine wpAny_pyIter_tuple (show s1.heap.IsTuple a its.toArray from p) ?_;refine⟨s1.heap.objs.size,[s1.heap.objs.size],_,_,H1,rfl,I1.kept (t':=s1.toks) fun b o e=>Heap.get?_push_of_some _ e,zfh a _,⟨_,Heap.get?_push_size _ rfl,rfl,rfl⟩,fun b hb=>?_,q⟩;have e:b=s1.heap.objs.size:=by simpa using hb
  subst e;exact I1.fpOk (Nat.le_refl _) (I1.hok.fresh (Nat.le_refl _))
theorem zm5{μ1:List Addr}{H1:Hp}{a:Addr}{ds:List D}{K:PySem.W.Frag}(h:∀ μ2 H2,Ext μ1 H1 μ2 H2->∃ vs,SqL K H2 a vs/\yhh T μ2 H2 ds vs):ycf T μ1 H1 (.seq ds) (Itl K a):=by
 intro μ2 H2 σ2 i ex r2;obtain⟨vs,h3,h4⟩:=h μ2 H2 ex;show match some ds[i]? with|none=>True|some none=>_|some (some d)=>_
 cases e:ds[i]? with
 |none=>exact⟨vs,h3,by rw[<-h4.length];exact List.getElem?_eq_none_iff.mp e⟩
 |some d=>
  obtain⟨v,hv1,hv2⟩:=h4.get e;refine⟨⟨vs,v,h3,hv1⟩,fun x H' y=>?_⟩;obtain⟨rfl,y⟩:=y;have:=y vs h3;rw[hv1]at this;cases this;exact⟨rfl,hv2⟩
theorem zuu{μ1:List Addr}{H1:Hp}{a:Addr}{ds:List D}{K:PySem.W.Frag}(h:∀ μ2 H2,Ext μ1 H1 μ2 H2->∃ vs,SqT K H2 a vs/\yhh T μ2 H2 ds vs):ycf T μ1 H1 (.seq ds) (Itt K a):=by
 intro μ2 H2 σ2 i ex r2;obtain⟨vs,h3,h4⟩:=h μ2 H2 ex;show match some ds[i]? with|none=>True|some none=>_|some (some d)=>_
 cases e:ds[i]? with
 |none=>exact⟨vs,h3,by rw[<-h4.length];exact List.getElem?_eq_none_iff.mp e⟩
 |some d=>
  obtain⟨v,hv1,hv2⟩:=h4.get e;refine⟨⟨vs,v,h3,hv1⟩,fun x H' y=>?_⟩;obtain⟨rfl,y⟩:=y;have:=y vs h3;rw[hv1]at this;cases this;exact⟨rfl,hv2⟩
theorem zxg(hK:T.K=X.K)(h:FE T X iter f):FI T X tg iter (yk0 f):=by
 intro pins s st H R I hw;refine zz7 h pins s st H R I ?_;obtain⟨μ,ρ,σ,hE,hr,hp⟩:=hw;refine⟨μ,ρ,σ,hE,hr,hp.bind fun d σ1 μ1 v H1 _ e1 r1 q1 p1=>?_⟩;cases d with
 |tup ds=>
  rw[Rep]at q1;obtain⟨p,vs,rfl,h1,h2⟩:=q1;exact⟨p,rfl,.inr ⟨⟨vs,SqT.of h1⟩,yhb.here (R:=ycf T) p1 r1 (zuu fun μ2 H2 ex=>⟨vs,SqT.of (ex.tup _ _ h1),yhh.mono ex _ _ h2⟩)⟩⟩
 |lst ds=>
  rw[Rep]at q1;obtain⟨p,vs,rfl,hn,h1,h2⟩:=q1;exact⟨p,rfl,.inl ⟨⟨vs,SqL.of h1⟩,yhb.here (R:=ycf T) p1 r1 (zm5 fun μ2 H2 ex=>⟨vs,SqL.of (ex.keepN _ _ h1 hn).1,yhh.mono ex _ _ h2⟩)⟩⟩
 |scr ns=>
  rw[Rep]at q1;obtain⟨p,rfl,h1⟩:=q1;have hsc:∀ μ2 H2,Ext μ1 H1 μ2 H2->SqL X.K H2 p (ns.map V.int):=fun μ2 H2 ex=>by
   have h2:Rep T μ2 H2 (.scr ns) (.ref p):=Rep.mono ex _ _ (by rw[Rep];exact⟨p,rfl,h1⟩);rw[Rep]at h2;obtain⟨p',e',h3⟩:=h2;cases e';rw[<-hK];exact h3.seq
  exact⟨p,rfl,.inl ⟨⟨_,hsc _ _ (Ext.refl _ _)⟩,yhb.here (R:=ycf T) p1 r1 (zm5 fun μ2 H2 ex=>⟨_,hsc μ2 H2 ex,zhk ns⟩)⟩⟩
 |ref n=>
  unfold yf0 at p1;dsimp only at p1;cases el0:yej σ1 n with
  |none=>rw[el0]at p1;exact p1.elim
  |some xs=>
   rw[el0]at p1;obtain⟨a,vs,rfl,_,h1,h2⟩:=r1.lst q1 el0;refine⟨a,rfl,.inl ⟨⟨vs,SqL.of h1⟩,yhb.here (R:=ycf T) p1 r1 fun μ2 H2 σ2 i ex r2=>?_⟩⟩;show match (yej σ2 n).map (fun xs=>xs[i]?)with|none=>True|some none=>_|some (some d)=>_
   cases el:yej σ2 n with
   |none=>trivial
   |some ys=>
    obtain⟨a',ws,ea,_,h3,h4⟩:=r2.lst (Rep.mono ex _ _ q1) el;cases ea;show match some (ys[i]?)with|none=>True|some none=>_|some (some d)=>_
    cases e:ys[i]? with
    |none=>exact⟨ws,SqL.of h3,by rw[<-h4.length];exact List.getElem?_eq_none_iff.mp e⟩
    |some d=>
     obtain⟨v,hv1,hv2⟩:=h4.get e;refine⟨⟨ws,v,SqL.of h3,hv1⟩,fun x H' y=>?_⟩;obtain⟨rfl,y⟩:=y;have:=y ws (SqL.of h3);rw[hv1]at this;cases this;exact⟨rfl,hv2⟩
 |_=>exact p1.elim
theorem ze0{n i:Nat}(h:i<n):(yao n)[i]?=some (.int i):=by simp[yao,h]
theorem ze1(n:Nat):(yao n).length=n:=by simp[yao]
theorem zjn{a:Expr}{p pos:Pos}(hgl:Gl X "range")(hm:X.mg "range" = none)(ha:FE T X a f)(hst:starEach [a] X.env=[(false,eval a X.env)]:=by rfl):FI T X tg (.Call (.Name "range" p) [a] [] pos) (ykz f):=by
 intro pins s st H R I hw;refine zhe hgl hm (zsi ha zzu hst) hst pins s st H R I ?_;obtain⟨μ,ρ,σ,hE,hr,hp⟩:=hw;refine⟨μ,ρ,σ,hE,hr,hp.bind fun d σ1 μ1 v H1 _ e1 r1 q1 p1=>?_⟩;cases d with
 |int j=>
  rw[Rep]at q1;subst q1;unfold yke at p1;dsimp only at p1;by_cases hj:zuc j=true
  ·rw[if_pos hj]at p1;simp only[zuc,zqo,Bool.and_eq_true,decide_eq_true_eq]at hj;refine⟨j,rfl,hj.1,hj.2,yhb.here (R:=ycf T) p1 r1 fun μ2 H2 σ2 i ex r2=>?_⟩;show match some (yao j.toNat)[i]? with|none=>True|some none=>_|some (some d)=>_
   by_cases hi:i<j.toNat
   ·rw[ze0 hi];refine⟨hi,fun x H' y=>?_⟩;obtain⟨rfl,rfl⟩:=y;exact⟨rfl,by rw[Rep,Int.zero_add]⟩
   ·rw[List.getElem?_eq_none_iff.mpr (by rw[ze1];omega)];exact Nat.not_lt.mp hi
  ·rw[if_neg hj]at p1;exact p1.elim
 |_=>exact p1.elim
end
def yeg(k:Ev->M Fl):Fl->M Fl
 | .nx ρ2=>k ρ2
 | .ct ρ2=>k ρ2
 | .bk ρ2=>ret (.nx ρ2)
 | .rt d=>ret (.rt d)
 | .xc ρ x=>ret (.xc ρ x)
def yi9(tg:D->Ev->Option Ev)(body:Ev->M Fl):List D->Ev->M Fl
 |[],ρ=>ret (.nx ρ)
 |d::ds,ρ=>match tg d ρ with
  |none=>bad
  |some ρ1=>bnd (body ρ1) (yeg (yi9 tg body ds))
def yeh(tg:D->Ev->Option Ev)(body:Ev->M Fl)(n:Nat):Nat->Nat->Ev->M Fl
 |0,_,_=>bad
 |k+1,i,ρ=>fun σ=>match yej σ n with
  |none=>.bad
  |some xs=>match xs[i]? with
   |none=>.ok (.nx ρ) σ
   |some d=>match tg d ρ with
    |none=>.bad
    |some ρ1=>bnd (body ρ1) (yeg (yeh tg body n k (i+1))) σ
def yip(tg:D->Ev->Option Ev)(body:Ev->M Fl)(ρ:Ev):Src->M Fl
 | .seq ds=>yi9 tg body ds ρ
 | .lref n=>yeh tg body n 1001 0 ρ
def ykm(src:Ev->M Src)(tg:D->Ev->Option Ev)(body:Ev->M Fl):Ev->M Fl:=fun ρ=>xs ρ (src ρ) (yip tg body ρ)
section
variable{T:Tb}{X:Cx}
theorem znb{μ1:List Addr}{H1:Hp}{σ1:Sto}{fl:Fl}{gl:Gl2}{D:Ends}{k:Ev->M Fl}{N:St->Hp->Prop}(r1:Rel T μ1 H1 σ1)(q1:RFl T μ1 H1 fl gl)(p1:yhb T EN (RFl T) μ1 H1 (yeg k fl σ1) (ygz X D))
  (hN:∀ ρ2 st2,ygy T μ1 H1 ρ2 st2->yhb T EN (RFl T) μ1 H1 (k ρ2 σ1) (ygz X D)->N st2 H1):ygz X { D with nx:=N,ct:=N,bk:=D.nx } gl H1:=by
 cases fl with
 |nx ρ2=>cases gl with
  |nx st2=>exact hN ρ2 st2 q1 p1
  |_=>exact q1.elim
 |ct ρ2=>cases gl with
  |ct st2=>exact hN ρ2 st2 q1 p1
  |_=>exact q1.elim
 |bk ρ2=>cases gl with
  |bk st2=>have z:ygz X D (Gl2.nx st2) H1:=yhb.here (g:=Gl2.nx st2) (d:=Fl.nx ρ2) p1 r1 q1;exact z
  |_=>exact q1.elim
 |rt d2=>cases gl with
  |rt v2=>have z:ygz X D (Gl2.rt v2) H1:=yhb.here (g:=Gl2.rt v2) (d:=Fl.rt d2) p1 r1 q1;exact z
  |_=>exact q1.elim
 |xc ρ2 x=>cases gl with
  |xc st2 c fd2=>have z:ygz X D (Gl2.xc st2 c fd2) H1:=yhb.here (g:=Gl2.xc st2 c fd2) (d:=Fl.xc ρ2 x) p1 r1 q1;exact z
  |_=>exact q1.elim
variable{tgt iter:Expr}{body:List Stmt}{src:Ev->M Src}{t:D->Ev->Option Ev}{g:Ev->M Fl}{pos:Pos}
theorem zxt(hp:PassesOwn (model X.prog X.w) X.A X.env X.xe)(hc:X.calm=true)(hi:FI T X tgt iter src)(hg:FG T X tgt t)(hb:FSs T X body g)
  (hs:∀ x,foldedSetIterable iter X.env x=pure x:=by intro _;rfl):FS T X (.For tgt iter body [] pos) (ykm src t g):=by
 intro pins s st H D I hq;refine yag hp hc hi hg hb hs pins s st H D I ?_;obtain⟨μ,ρ,σ,hE,hr,hp⟩:=hq;refine⟨μ,ρ,σ,hE,hr,hp.xs hE fun src σ1 μ1 J H1 _ e1 r1 q1 p1=>?_⟩;cases src with
 |seq ds=>
  have p1':yhb T EN (RFl T) μ1 H1 (yi9 t g ds ρ σ1) (ygz X D):=p1;refine⟨fun i m st2 H2=>m=ds.length - i/\∃ μ ρ σ,Ext μ1 H1 μ H2/\ygy T μ H2 ρ st2/\Rel T μ H2 σ/\yhb T EN (RFl T) μ H2 (yi9 t g (ds.drop i) ρ σ) (ygz X D),⟨ds.length,by simp,μ1,ρ,σ1,Ext.refl _ _,hE.mono e1,r1,by simpa using p1'⟩,?_⟩;rintro i m st2 H2 ⟨rfl,μ2,ρ2,σ2,ex,hE2,r2,p2⟩;have so:=q1 μ2 H2 σ2 i ex r2;have so':match (some ds[i]?:Option (Option L4.D))with|none=>True|some none=>J.stop i H2|some (some d)=>J.go i H2/\∀ x H',J.yld i H2 x H'->H'=H2/\Rep T μ2 H2 d x:=so
  cases ei:ds[i]? with
  |none=>
   rw[ei]at so';rw[List.drop_eq_nil_of_le (List.getElem?_eq_none_iff.mp ei)]at p2;exact .inl ⟨so',yhb.here (g:=Gl2.nx st2) p2 r2 hE2⟩
  |some d=>
   rw[ei]at so';obtain⟨hl,ed⟩:=List.getElem?_eq_some_iff.mp ei;have hd:ds.drop i=d::ds.drop (i+1):=by rw[<-ed];exact(List.drop_eq_getElem_cons hl)
   rw[hd]at p2;unfold yi9 at p2;refine .inr ⟨so'.1,fun st3 H3=>∃ μ ρ σ,Ext μ1 H1 μ H3/\ygy T μ H3 ρ st3/\Rel T μ H3 σ/\yhb T EN (RFl T) μ H3 (yi9 t g (ds.drop (i+1)) ρ σ) (ygz X D),fun st3 H3 h=>⟨ds.length - (i+1),by omega,rfl,h⟩,fun x H3 y=>?_⟩;obtain⟨rfl,hx⟩:=so'.2 x H3 y;cases ht:t d ρ2 with
   |none=>rw[ht]at p2;exact p2.elim
   |some ρ3=>
    rw[ht]at p2;exact⟨μ2,σ2,ρ2,d,ρ3,hE2,r2,hx,ht,fun st3 hE3=>⟨μ2,ρ3,σ2,hE3,r2,p2.bind fun fl σ4 μ4 gl H4 _ e4 r4 q4 p4=>znb r4 q4 p4 fun ρ5 st5 hE5 p5=>⟨μ4,ρ5,σ4,ex.trans e4,hE5,r4,p5⟩⟩⟩
 |lref n=>
  have p1':yhb T EN (RFl T) μ1 H1 (yeh t g n 1001 0 ρ σ1) (ygz X D):=p1;refine⟨fun i m st2 H2=>∃ μ ρ σ,Ext μ1 H1 μ H2/\ygy T μ H2 ρ st2/\Rel T μ H2 σ/\yhb T EN (RFl T) μ H2 (yeh t g n m i ρ σ) (ygz X D),⟨1001,μ1,ρ,σ1,Ext.refl _ _,hE.mono e1,r1,p1'⟩,?_⟩;rintro i m st2 H2 ⟨μ2,ρ2,σ2,ex,hE2,r2,p2⟩;cases m with
  |zero=>exact p2.elim
  |succ m=>
   unfold yeh at p2;have so:=q1 μ2 H2 σ2 i ex r2;have so':match ((yej σ2 n).map fun xs=>xs[i]?:Option (Option L4.D))with|none=>True|some none=>J.stop i H2|some (some d)=>J.go i H2/\∀ x H',J.yld i H2 x H'->H'=H2/\Rep T μ2 H2 d x:=so
   cases el:yej σ2 n with
   |none=>simp only[el]at p2;exact p2.elim
   |some xs=>
    simp only[el]at p2 so';cases ei:xs[i]? with
    |none=>
     simp only[ei,Option.map_some]at p2 so';exact .inl ⟨so',yhb.here (g:=Gl2.nx st2) p2 r2 hE2⟩
    |some d=>
     simp only[ei,Option.map_some]at p2 so';refine .inr ⟨so'.1,fun st3 H3=>∃ μ ρ σ,Ext μ1 H1 μ H3/\ygy T μ H3 ρ st3/\Rel T μ H3 σ/\yhb T EN (RFl T) μ H3 (yeh t g n m (i+1) ρ σ) (ygz X D),fun st3 H3 h=>⟨m,Nat.lt_succ_self _,h⟩,fun x H3 y=>?_⟩;obtain⟨rfl,hx⟩:=so'.2 x H3 y;cases ht:t d ρ2 with
     |none=>simp only[ht]at p2;exact p2.elim
     |some ρ3=>
      simp only[ht]at p2;exact⟨μ2,σ2,ρ2,d,ρ3,hE2,r2,hx,ht,fun st3 hE3=>⟨μ2,ρ3,σ2,hE3,r2,p2.bind fun fl σ4 μ4 gl H4 _ e4 r4 q4 p4=>znb r4 q4 p4 fun ρ5 st5 hE5 p5=>⟨μ4,ρ5,σ4,ex.trans e4,hE5,r4,p5⟩⟩⟩
end
mutual
def cl:D->Bool
 | .tup xs=>clL xs
 | .lst xs=>clL xs
 | .dic _ xs=>clL xs
 | .obj _ _ xs=>clL xs
 | .ref _=>false
 | .non=>true
 | .bl _=>true
 | .int _=>true
 | .str _=>true
 | .scr _=>true
 | .exn _=>true
def clL:List D->Bool
 |[]=>true
 |d::ds=>cl d && clL ds
end
def fzL(f:D->Option D):List D->Option (List D)
 |[]=>some []
 |d::ds=>match f d,fzL f ds with
  |some x,some xs=>some (x::xs)
  |_,_=>none
def fz(k:Nat)(σ:Sto):Nat->D->Option D
 |0,d=>if cl d=true then some d else match d with
  | .ref n=>if n<k then some (.ref n)else none
  |_=>none
 |m+1,d=>if cl d=true then some d else match d with
  | .ref n=>if n<k then some (.ref n)else match σ[n]? with
   |some (.lst xs)=>(fzL (fz k σ m) xs).map .lst
   |some (.dic kvs)=>(fzL (fz k σ m) (kvs.map (·.2))).map (.dic (kvs.map (·.1)))
   |some (.ins c fs)=>(fzL (fz k σ m) (fs.map (·.2))).map (.obj c (fs.map (·.1)))
   |none=>none
  | .tup xs=>(fzL (fz k σ m) xs).map .tup
  | .lst xs=>(fzL (fz k σ m) xs).map .lst
  | .dic ks xs=>(fzL (fz k σ m) xs).map (.dic ks)
  | .obj c ns xs=>(fzL (fz k σ m) xs).map (.obj c ns)
  |_=>none
open Classical in
noncomputable def yir(σ:Sto):Out D->Out D
 | .ok d σ'=>if σ'.take σ.length=σ then (match fz σ.length σ' 6 d with
  |some d'=>.ok d' σ
  |none=>.bad)else .bad
 | .ex x σ'=>if σ'.take σ.length=σ then .ex x σ else .bad
 | .bad=>.bad
noncomputable def frz(f:M D):M D:=fun σ=>yir σ (f σ)
section
variable{T:Tb}{μ μ':List Addr}{H H':Hp}{σ σ':Sto}
mutual
theorem zoo(e:∃ r,μ'=μ++r):∀ (d:D) (v:V),cl d=true->Rep T μ' H d v->Rep T μ H d v
 | .non,v,_,h=>by simpa [Rep]using h
 | .bl b,v,_,h=>by simpa [Rep]using h
 | .int i,v,_,h=>by simpa [Rep]using h
 | .str x,v,_,h=>by simpa [Rep]using h
 | .tup ds,v,c,h=>by
  rw[Rep]at h ⊢;obtain⟨p,vs,h1,h2,h3⟩:=h;exact⟨p,vs,h1,h2,ziq e ds vs (by simpa [cl]using c) h3⟩
 | .scr ns,v,_,h=>by rw[Rep]at h ⊢;exact h
 | .ref n,v,c,h=>by simp[cl]at c
 | .lst ds,v,c,h=>by
  rw[Rep]at h ⊢;obtain⟨a,vs,h1,h2,h3,h4⟩:=h;exact⟨a,vs,h1,fun z=>h2 (by obtain⟨r,rfl⟩:=e;exact List.mem_append_left _ z),h3,ziq e ds vs (by simpa [cl]using c) h4⟩
 | .dic ks ds,v,c,h=>by
  rw[Rep]at h ⊢;obtain⟨a,vs,h1,h2,h3,h5,h4⟩:=h;exact⟨a,vs,h1,fun z=>h2 (by obtain⟨r,rfl⟩:=e;exact List.mem_append_left _ z),h3,h5,ziq e ds _ (by simpa [cl]using c) h4⟩
 | .obj k ns ds,v,c,h=>by
  rw[Rep]at h ⊢;obtain⟨a,dx,vs,h1,h2,h3,h5,h4⟩:=h;exact⟨a,dx,vs,h1,fun z=>h2 (by obtain⟨r,rfl⟩:=e;exact List.mem_append_left _ z),h3,h5,ziq e ds _ (by simpa [cl]using c) h4⟩
 | .exn k,v,_,h=>by
  rw[Rep]at h ⊢;obtain⟨a,dd,h1,h2,h3,h4⟩:=h;exact⟨a,dd,h1,fun z=>h2 (by obtain⟨r,rfl⟩:=e;exact List.mem_append_left _ z),h3,fun n q=>let ⟨dN,q1,q2,q3⟩:=h4 n q;⟨dN,q1,fun z=>q2 (by obtain⟨r,rfl⟩:=e;exact List.mem_append_left _ z),q3⟩⟩
theorem ziq(e:∃ r,μ'=μ++r):∀ (ds:List D) (vs:List V),clL ds=true->yhh T μ' H ds vs->yhh T μ H ds vs
 |[],vs,_,h=>by simpa [yhh]using h
 |d::ds,vs,c,h=>by
  rw[yhh]at h ⊢;obtain⟨v,r,h1,h2,h3⟩:=h;have c':cl d=true/\clL ds=true:=by simpa [clL,Bool.and_eq_true]using c
  exact⟨v,r,h1,zoo e d v c'.1 h2,ziq e ds r c'.2 h3⟩
end
mutual
theorem Rep.down(e:∃ r,μ'=μ++r):∀ (d:D) (v0 v:V),Rep T μ H d v0->Rep T μ' H' d v->Rep T μ H' d v
 | .non,v0,v,_,h=>by simpa [Rep]using h
 | .bl b,v0,v,_,h=>by simpa [Rep]using h
 | .int i,v0,v,_,h=>by simpa [Rep]using h
 | .str x,v0,v,_,h=>by simpa [Rep]using h
 | .tup ds,v0,v,c,h=>by
  rw[Rep]at h c ⊢;obtain⟨p,vs,h1,h2,h3⟩:=h;obtain⟨p0,vs0,_,_,c3⟩:=c;exact⟨p,vs,h1,h2,yhh.down e ds vs0 vs c3 h3⟩
 | .scr ns,v0,v,_,h=>by rw[Rep]at h ⊢;exact h
 | .ref n,v0,v,c,h=>by
  rw[Rep]at h c ⊢;obtain⟨a,h1,h2⟩:=h;obtain⟨b,_,c2⟩:=c;refine⟨a,h1,?_⟩;obtain⟨r,rfl⟩:=e;rw[List.getElem?_append_left (List.getElem?_eq_some_iff.mp c2).1]at h2;exact h2
 | .lst ds,v0,v,c,h=>by
  rw[Rep]at h c ⊢;obtain⟨a,vs,h1,h2,h3,h4⟩:=h;obtain⟨_,vs0,_,_,_,c4⟩:=c;exact⟨a,vs,h1,fun z=>h2 (by obtain⟨r,rfl⟩:=e;exact List.mem_append_left _ z),h3,yhh.down e ds vs0 vs c4 h4⟩
 | .dic ks ds,v0,v,c,h=>by
  rw[Rep]at h c ⊢;obtain⟨a,vs,h1,h2,h3,h5,h4⟩:=h;obtain⟨_,vs0,_,_,_,_,c4⟩:=c;exact⟨a,vs,h1,fun z=>h2 (by obtain⟨r,rfl⟩:=e;exact List.mem_append_left _ z),h3,h5,yhh.down e ds _ _ c4 h4⟩
 | .obj k ns ds,v0,v,c,h=>by
  rw[Rep]at h c ⊢;obtain⟨a,dx,vs,h1,h2,h3,h5,h4⟩:=h;obtain⟨_,_,vs0,_,_,_,_,c4⟩:=c;exact⟨a,dx,vs,h1,fun z=>h2 (by obtain⟨r,rfl⟩:=e;exact List.mem_append_left _ z),h3,h5,yhh.down e ds _ _ c4 h4⟩
 | .exn k,v0,v,_,h=>by
  rw[Rep]at h ⊢;obtain⟨a,dd,h1,h2,h3,h4⟩:=h;exact⟨a,dd,h1,fun z=>h2 (by obtain⟨r,rfl⟩:=e;exact List.mem_append_left _ z),h3,fun n q=>let ⟨dN,q1,q2,q3⟩:=h4 n q;⟨dN,q1,fun z=>q2 (by obtain⟨r,rfl⟩:=e;exact List.mem_append_left _ z),q3⟩⟩
theorem yhh.down(e:∃ r,μ'=μ++r):∀ (ds:List D) (vs0 vs:List V),yhh T μ H ds vs0->yhh T μ' H' ds vs->yhh T μ H' ds vs
 |[],vs0,vs,_,h=>by simpa [yhh]using h
 |d::ds,vs0,vs,c,h=>by
  rw[yhh]at h c ⊢;obtain⟨v,r,h1,h2,h3⟩:=h;obtain⟨v0,r0,_,c2,c3⟩:=c;exact⟨v,r,h1,Rep.down e d v0 v c2 h2,yhh.down e ds r0 r c3 h3⟩
end
theorem zdx{α:Type}(e:∃ r,μ'=μ++r):∀ {xs:List (α × D)} {ys zs:List (α × V)},Paired (fun(p:α × D) (q:α × V)=>p.1=q.1/\Rep T μ H p.2 q.2) xs zs->Paired (fun(p:α × D) (q:α × V)=>p.1=q.1/\Rep T μ' H' p.2 q.2) xs ys->Paired (fun(p:α × D) (q:α × V)=>p.1=q.1/\Rep T μ H' p.2 q.2) xs ys
 |_,_,_,.nil,.nil=>.nil
 |_,_,_,.cons a b,.cons c d=>.cons ⟨c.1,Rep.down e _ _ _ a.2 c.2⟩ (zdx e b d)
theorem ObR.down(e:∃ r,μ'=μ++r){a:Addr}:∀ {o:Ob},ObR T μ H a o->ObR T μ' H' a o->ObR T μ H' a o
 | .lst ds,⟨_,_,c⟩,⟨vs,h,r⟩=>⟨vs,h,yhh.down e _ _ _ c r⟩
 | .dic kvs,⟨_,_,c⟩,⟨vs,h,r⟩=>⟨vs,h,zdx e c r⟩
 | .ins c fs,⟨_,_,_,c'⟩,⟨dx,vs,h,r⟩=>⟨dx,vs,h,zdx e c' r⟩
theorem Rel.down(r0:Rel T μ H σ)(r:Rel T μ' H' σ')(e:Ext μ H μ' H')(ht:σ'.take σ.length=σ):Rel T μ H' σ/\Ext μ H μ H':=by
 refine⟨⟨r0.len,r0.nd,fun n o h=>?_,r.tb.sub fun b hb=>by obtain⟨z,rfl⟩:=e.pre;exact List.mem_append_left _ hb⟩,⟨⟨[],by simp⟩,e.tup,e.frz,fun p o h n=>⟨(e.keep p o h n).1,n⟩⟩⟩;obtain⟨a,h1,h2⟩:=r0.obs n o h;have h':σ'[n]?=some o:=by
  have hl:=(List.getElem?_eq_some_iff.mp h).1;rw[<-ht,List.getElem?_take_of_lt hl]at h;exact h
 obtain⟨b,h3,h4⟩:=r.obs n o h';have eb:=e.get h1;rw[h3]at eb;cases eb;exact⟨a,h1,h2.down e.pre h4⟩
theorem ze2{α:Type}:∀ {xs:List (α × D)} {ys:List (α × V)},Paired (fun(p:α × D) (q:α × V)=>p.1=q.1/\Rep T μ H p.2 q.2) xs ys->ys.map (·.1)=xs.map (·.1)/\yhh T μ H (xs.map (·.2)) (ys.map (·.2))
 |_,_,.nil=>⟨rfl,yhh.nil⟩
 |_,_,.cons a b=>by
  obtain⟨h1,h2⟩:=ze2 b;exact⟨by simp[h1,a.1],yhh.cons a.2 h2⟩
theorem zqe{f:D->Option D}(hf:∀ d d' v,f d=some d'->Rep T μ' H d v->Rep T μ H d' v):∀ (ds ds':List D) (vs:List V),fzL f ds=some ds'->yhh T μ' H ds vs->yhh T μ H ds' vs
 |[],ds',vs,h,r=>by cases h;simpa [yhh]using r
 |d::ds,ds',vs,h,r=>by
  unfold fzL at h;cases e1:f d with
  |none=>rw[e1]at h;cases h
  |some x=>
   cases e2:fzL f ds with
   |none=>rw[e1,e2]at h;cases h
   |some xs=>
    rw[e1,e2]at h;cases h;rw[yhh]at r;obtain⟨v,w,rfl,h2,h3⟩:=r;exact yhh.cons (hf d x v e1 h2) (zqe hf ds xs w e2 h3)
theorem zx2(e:∃ r,μ'=μ++r)(r:Rel T μ' H σ'):∀ (m:Nat) (d d':D) (v:V),fz μ.length σ' m d=some d'->Rep T μ' H d v->Rep T μ H d' v:=by
 have old:∀ n v,n<μ.length->Rep T μ' H (.ref n) v->Rep T μ H (.ref n) v:=fun n v hn h=>by
  rw[Rep]at h ⊢;obtain⟨a,h1,h2⟩:=h;obtain⟨q,rfl⟩:=e;rw[List.getElem?_append_left hn]at h2;exact⟨a,h1,h2⟩
 intro m;induction m with
 |zero=>
  intro d d' v h hr;unfold fz at h;by_cases hc:cl d=true
  ·rw[if_pos hc]at h;cases h;exact zoo e _ _ hc hr
  ·rw[if_neg hc]at h;cases d with
   |ref n=>
    dsimp only at h;by_cases hn:n<μ.length
    ·rw[if_pos hn]at h;cases h;exact old n v hn hr
    ·rw[if_neg hn]at h;cases h
   |_=>cases h
 |succ m ih=>
  intro d d' v h hr;unfold fz at h;by_cases hc:cl d=true
  ·rw[if_pos hc]at h;cases h;exact zoo e _ _ hc hr
  ·rw[if_neg hc]at h;have go:=zqe (T:=T) (μ:=μ) (μ':=μ') (H:=H) (f:=fz μ.length σ' m) (fun d d' v a b=>ih d d' v a b);cases d with
   |ref n=>
    dsimp only at h;by_cases hn:n<μ.length
    ·rw[if_pos hn]at h;cases h;exact old n v hn hr
    ·rw[if_neg hn]at h;cases es:σ'[n]? with
     |none=>rw[es]at h;cases h
     |some o=>
      rw[es]at h;obtain⟨a,rfl,ha,hob⟩:=r.at hr es;have out:a ∉ μ:=fun z=>by
       obtain⟨i,hi⟩:=List.getElem?_of_mem z;obtain⟨q,rfl⟩:=e;have hl:=(List.getElem?_eq_some_iff.mp hi).1;have:=zle r.nd (i:=i) (j:=n) (by rw[List.getElem?_append_left hl];exact hi) ha;omega
      cases o with
      |lst xs=>
       obtain⟨ys,h1,h2⟩:=Option.map_eq_some_iff.mp h;subst h2;obtain⟨vs,h3,h4⟩:=hob;rw[Rep];exact⟨a,vs,rfl,out,h3,go xs ys vs h1 h4⟩
      |dic kvs=>
       obtain⟨ys,h1,h2⟩:=Option.map_eq_some_iff.mp h;subst h2;obtain⟨vs,h3,h4⟩:=hob;obtain⟨h5,h6⟩:=ze2 h4;rw[Rep];exact⟨a,vs,rfl,out,(.inl h3),h5,go _ ys _ h1 h6⟩
      |ins c fs=>
       obtain⟨ys,h1,h2⟩:=Option.map_eq_some_iff.mp h;subst h2;obtain⟨dx,vs,h3,h4⟩:=hob;obtain⟨h5,h6⟩:=ze2 h4;rw[Rep];exact⟨a,dx,vs,rfl,out,h3,h5,go _ ys _ h1 h6⟩
   |tup xs=>
    obtain⟨ys,h1,h2⟩:=Option.map_eq_some_iff.mp h;subst h2;rw[Rep]at hr ⊢;obtain⟨p,vs,e1,e2,e3⟩:=hr;exact⟨p,vs,e1,e2,go xs ys vs h1 e3⟩
   |lst xs=>
    obtain⟨ys,h1,h2⟩:=Option.map_eq_some_iff.mp h;subst h2;rw[Rep]at hr ⊢;obtain⟨p,vs,e1,e0,e2,e3⟩:=hr;exact⟨p,vs,e1,fun z=>e0 (by obtain⟨r,rfl⟩:=e;exact List.mem_append_left _ z),e2,go xs ys vs h1 e3⟩
   |dic ks xs=>
    obtain⟨ys,h1,h2⟩:=Option.map_eq_some_iff.mp h;subst h2;rw[Rep]at hr ⊢;obtain⟨p,vs,e1,e0,e2,e4,e3⟩:=hr;exact⟨p,vs,e1,fun z=>e0 (by obtain⟨r,rfl⟩:=e;exact List.mem_append_left _ z),e2,e4,go xs ys _ h1 e3⟩
   |obj c ks xs=>
    obtain⟨ys,h1,h2⟩:=Option.map_eq_some_iff.mp h;subst h2;rw[Rep]at hr ⊢;obtain⟨p,dx,vs,e1,e0,e2,e4,e3⟩:=hr;exact⟨p,dx,vs,e1,fun z=>e0 (by obtain⟨r,rfl⟩:=e;exact List.mem_append_left _ z),e2,e4,go xs ys _ h1 e3⟩
   |_=>cases h
theorem yhb.frz{E:XK}{f:M D}{Q:V->Hp->Prop}(r:Rel T μ H σ)(h:yhb T E (Rep T) μ H (frz f σ) Q):yhb T E (Rep T) μ H (f σ) Q:=by
 unfold L4.frz at h;cases e:f σ with
 |bad=>rw[e]at h;exact h
 |ex x σ1=>
  rw[e]at h;unfold yir at h;dsimp only at h;by_cases ht:σ1.take σ.length=σ
  ·rw[if_pos ht]at h;intro μ1 H1 e1 r1;obtain⟨r2,e2⟩:=Rel.down r r1 e1 ht;exact h μ H1 e2 r2
  ·rw[if_neg ht]at h;exact h.elim
 |ok d σ1=>
  rw[e]at h;unfold yir at h;dsimp only at h;by_cases ht:σ1.take σ.length=σ
  ·rw[if_pos ht]at h;cases ef:fz σ.length σ1 6 d with
   |none=>rw[ef]at h;exact h.elim
   |some d'=>
    rw[ef]at h;intro μ1 v H1 e1 r1 p1;obtain⟨r2,e2⟩:=Rel.down r r1 e1 ht;exact h μ v H1 e2 r2 (zx2 e1.pre r1 6 d d' v (by rw[r.len];exact ef) p1)
  ·rw[if_neg ht]at h;exact h.elim
end
noncomputable def yie(f:Ev->M D):Ev->M D:=fun ρ=>frz (f ρ)
theorem zw6{T:Tb}{X:Cx}{e:Expr}{f:Ev->M D}(h:FE T X e f):FE T X e (yie f):=by
 intro pins s st H Q I hw;obtain⟨μ,ρ,σ,hE,hr,hp⟩:=hw;exact h pins s st H Q I ⟨μ,ρ,σ,hE,hr,yhb.frz hr hp⟩
end L4
namespace L4
open PySem PySem.Spec PyProof.Rows L2
def DK(h h':Heap):Prop:=∀ (a:Nat) o,h.objs[a]?=some o->∃ o':Obj,h'.objs[a]?=some o'/\o'.dict=o.dict
theorem DK.refl(h:Heap):DK h h:=fun _ o e=>⟨o,e,rfl⟩
theorem DK.trans{h1 h2 h3:Heap}(x:DK h1 h2)(y:DK h2 h3):DK h1 h3:=fun a o e=>by
 obtain⟨o',e',q⟩:=x a o e;obtain⟨o'',e'',q'⟩:=y a o' e';exact⟨o'',e'',q'.trans q⟩
theorem DK.push(h:Heap)(o:Obj):DK h (h.push o):=fun a u e=>by
 obtain⟨objs,l⟩:=h;have e:objs[a]?=some u:=e;have hl:=(Array.getElem?_eq_some_iff.mp e).1;refine⟨u,?_,rfl⟩;show (objs.push o)[a]?=some u;rw[Array.getElem?_push_lt hl];exact(Array.getElem?_eq_getElem hl).symm.trans e
theorem DK.update(h:Heap)(b:Addr){f:Obj->Obj}(hf:∀ o,(f o).dict=o.dict):DK h (h.update b f):=fun a u e=>by
 obtain⟨objs,l⟩:=h;have e:objs[a]?=some u:=e;show ∃ o':Obj,(objs.modify b f)[a]?=some o'/\_;rw[Array.getElem?_modify];by_cases hb:b=a
 ·rw[if_pos hb,e];exact⟨f u,rfl,hf u⟩
 ·rw[if_neg hb];exact⟨u,e,rfl⟩
theorem DK.get{h h':Heap}(x:DK h h'){a:Addr}{o o':Obj}(e:h.get? a=some o)(e':h'.get? a=some o'):o'.dict=o.dict:=by
 obtain⟨u,q1,q2⟩:=x a o ((Heap.get?_eq_some _ _ _).1 e).1;have:=((Heap.get?_eq_some _ _ _).1 e').1;have z:some u=some o':=q1.symm.trans this;cases z;exact q2
structure KD{α:Type}(t:Sem α):Prop where
 out:∀ (M:Model) (Γ:PySem.Ctx) (Q:α->Pos->Shared->Prop) (E:Value->Pos->Shared->Prop) (p:Pos) (s:Shared),Sem.wp M Γ t Q E p s->Sem.wp M Γ t (fun a p' s'=>Q a p' s'/\DK s.heap s'.heap) (fun e p' s'=>E e p' s'/\DK s.heap s'.heap) p s
namespace KD
variable{α β:Type}
theorem pur(a:α):KD (Pure.pure a:Sem α):=⟨fun _ _ _ _ _ s h=>⟨h,.refl _⟩⟩
theorem uns(w:String):KD (PySem.unsupported w:Sem α):=⟨fun _ _ _ _ _ _ h=>h⟩
theorem bnd{m:Sem α}{f:α->Sem β}(hm:KD m)(hf:∀ a,KD (f a)):KD (m >>= f):=⟨fun M Γ Q E p s h=>by
 rw[Sem.wp_bind']at h ⊢;refine Sem.wp_mono M Γ m (fun a p' s' z=>?_) (fun _ _ _ z=>z) p s (hm.out M Γ _ _ p s h);exact Sem.wp_mono M Γ (f a) (fun _ _ _ q=>⟨q.1,z.2.trans q.2⟩) (fun _ _ _ q=>⟨q.1,z.2.trans q.2⟩) p' s' ((hf a).out M Γ _ _ p' s' z.1)⟩
theorem ite'{c:Prop}[Decidable c]{t u:Sem α}(ht:KD t)(hu:KD u):KD (if c then t else u):=by split<;>assumption
theorem ld(a:Addr):KD (PySem.load a):=⟨fun _ _ _ _ _ _ h=>by obtain⟨o,ho,h⟩:=h;exact⟨o,ho,h,.refl _⟩⟩
theorem upd(a:Addr){f:Obj->Obj}(hf:∀ o,(f o).dict=o.dict):KD (PySem.update a f):=⟨fun _ _ _ _ _ _ h=>⟨h.1,h.2,.update _ _ hf⟩⟩
theorem stk:KD PySem.stack:=⟨fun M Γ Q E p s h=>by
 unfold PySem.stack at h ⊢;rw[Sem.wp_stack]at h ⊢;exact⟨h,.refl _⟩⟩
theorem alc(o:Obj):KD (PySem.alloc o):=⟨fun _ _ _ _ _ _ h=>⟨h,.push _ _⟩⟩
theorem fld(v:Value)(i:Nat):KD (PySem.field v i):=⟨fun _ Γ Q E p s h=>by
 rw[wp_field_iff]at h ⊢;obtain⟨a,o,vs,x,e1,e2,e3,e4,h⟩:=h;exact⟨a,o,vs,x,e1,e2,e3,e4,h,.refl _⟩⟩
theorem set(v:Value)(i:Nat)(x:Value):KD (PySem.setField v i x):=⟨fun _ Γ Q E p s h=>by
 rw[wp_setField_iff]at h ⊢;obtain⟨a,o,vs,e1,e2,e3,e4,h⟩:=h;exact⟨a,o,vs,e1,e2,e3,e4,h,.update _ _ fun o=>by obtain⟨c,d,dt,sl⟩:=o;cases dt<;>rfl⟩⟩
end KD
theorem zyf(env:Env)(l:List Env):KD (behindIsImport env l):=by unfold behindIsImport;(repeat' with_reducible first|assumption|exact KD.pur _|exact KD.uns _|exact KD.fld _ _|exact KD.set _ _ _|exact KD.ld _|exact KD.upd _ (fun _=>rfl)|exact KD.stk|exact KD.alc _|apply KD.ite'|apply KD.bnd|intro _|split)
theorem zyh:KD underTheClaimsCaller:=by unfold underTheClaimsCaller;(repeat' with_reducible first|assumption|exact KD.pur _|exact KD.uns _|exact KD.fld _ _|exact KD.set _ _ _|exact KD.ld _|exact KD.upd _ (fun _=>rfl)|exact KD.stk|exact KD.alc _|apply KD.ite'|apply KD.bnd|intro _|split)
theorem zq0(env:Env)(i:Bool)(l:List Env):KD (keptBack env i l):=by
 have:=zyh;cases l<;>unfold keptBack<;>(repeat' with_reducible first|assumption|exact KD.pur _|exact KD.uns _|exact KD.fld _ _|exact KD.set _ _ _|exact KD.ld _|exact KD.upd _ (fun _=>rfl)|exact KD.stk|exact KD.alc _|apply KD.ite'|apply KD.bnd|intro _|split)
theorem zkp:∀ l:List Env,KD (readyFrames l)
 |[]=>KD.pur _
 |env::l=>by
  have ih:=zkp l;have h1:=zyf env l;have h2:=fun i=>zq0 env i l;unfold readyFrames
  (repeat' with_reducible first|assumption|exact KD.pur _|exact KD.uns _|exact KD.fld _ _|exact KD.set _ _ _|exact KD.ld _|exact KD.upd _ (fun _=>rfl)|exact KD.stk|exact KD.alc _|apply KD.ite'|apply KD.bnd|intro _|split)
  all_goals first|exact h2 _|skip
theorem zq2(l:List Env):KD (frameObject l):=by
 cases l with
 |nil=>exact KD.pur _
 |cons env l=>
  have:=zkp (env::l);unfold frameObject
  (repeat' with_reducible first|assumption|exact KD.pur _|exact KD.uns _|exact KD.fld _ _|exact KD.set _ _ _|exact KD.ld _|exact KD.upd _ (fun _=>rfl)|exact KD.stk|exact KD.alc _|apply KD.ite'|apply KD.bnd|intro _|split)
theorem zq1:KD frameEnvs:=by unfold frameEnvs;(repeat' with_reducible first|assumption|exact KD.pur _|exact KD.uns _|exact KD.fld _ _|exact KD.set _ _ _|exact KD.ld _|exact KD.upd _ (fun _=>rfl)|exact KD.stk|exact KD.alc _|apply KD.ite'|apply KD.bnd|intro _|split)
theorem zkn(env:Env):KD (PySem.frameOf env):=by
 have h1:=zq1;have h2:=zq2;unfold PySem.frameOf
 (repeat' with_reducible first|assumption|exact KD.pur _|exact KD.uns _|exact KD.fld _ _|exact KD.set _ _ _|exact KD.ld _|exact KD.upd _ (fun _=>rfl)|exact KD.stk|exact KD.alc _|apply KD.ite'|apply KD.bnd|intro _|split)
 all_goals first|exact h2 _|skip
theorem zko(f:Addr)(b:Bool):KD (entryPlaceOf f b):=by unfold entryPlaceOf;(repeat' with_reducible first|assumption|exact KD.pur _|exact KD.uns _|exact KD.fld _ _|exact KD.set _ _ _|exact KD.ld _|exact KD.upd _ (fun _=>rfl)|exact KD.stk|exact KD.alc _|apply KD.ite'|apply KD.bnd|intro _|split)
theorem zkm(a b c d e:Value)(l:List Value):KD (EntryCells.newEntry a b c d e l):=by
 unfold EntryCells.newEntry newFields newObj newObjAsIs;dsimp only
 (repeat' with_reducible first|assumption|exact KD.pur _|exact KD.uns _|exact KD.fld _ _|exact KD.set _ _ _|exact KD.ld _|exact KD.upd _ (fun _=>rfl)|exact KD.stk|exact KD.alc _|apply KD.ite'|apply KD.bnd|intro _|split)
theorem zq3(e:Value)(env:Env):KD (noteFrame e env):=by
 have h1:=zkn env;have h2:=zko;have h3:=zkm;unfold noteFrame
 (repeat' with_reducible first|assumption|exact KD.pur _|exact KD.uns _|exact KD.fld _ _|exact KD.set _ _ _|exact KD.ld _|exact KD.upd _ (fun _=>rfl)|exact KD.stk|exact KD.alc _|apply KD.ite'|apply KD.bnd|intro _|split)
 all_goals first|exact h2 _ _|exact h3 _ _ _ _ _ _|skip
theorem zgk(e:Value)(f:Option Addr):KD (setFlight e f):=by unfold setFlight;(repeat' with_reducible first|assumption|exact KD.pur _|exact KD.uns _|exact KD.fld _ _|exact KD.set _ _ _|exact KD.ld _|exact KD.upd _ (fun _=>rfl)|exact KD.stk|exact KD.alc _|apply KD.ite'|apply KD.bnd|intro _|split)
theorem ygp{α:Type}{M:Model}{A:Around}{t:Sem α}{Q:α->Shared->Prop}{E:Value->Shared->Prop}{s:Shared}(k:KD t)(h:wpAny M A t Q E s):wpAny M A t (fun a s'=>Q a s'/\DK s.heap s'.heap) E s:=
 fun Γ p hΓ=>Sem.wp_mono M Γ t (fun _ _ _ z=>z) (fun _ _ _ z=>z.1) p s (k.out M Γ _ _ p s (h Γ p hΓ))
section
variable{P:Program}{w:World}{H H':Hp}{h h':Heap}{a:Addr}{o:HO}
theorem zdt(x:yb8 P w H h a o):∃ u,h.get? a=some u:=by
 cases o with
 |lst xs=>obtain⟨_,_,_,_,e⟩:=x;exact⟨_,e⟩
 |tup xs=>obtain⟨_,_,_,ob,e,_⟩:=x;exact⟨_,e⟩
 |dK kvs=>obtain⟨_,_,_,_,o,_,_,e,_⟩:=x;exact⟨_,e⟩
 |dT kvs=>obtain⟨_,_,_,_,o,_,_,e,_⟩:=x;exact⟨_,e⟩
 |set S n=>obtain⟨o,_,_,_,e,_⟩:=x;exact⟨_,e⟩
 |ins C dx fs=>obtain⟨_,_,_,e,_⟩:=x;exact⟨_,e⟩
 |own y=>obtain⟨_,e⟩:=x;exact⟨_,e⟩
 |xd fs=>obtain⟨_,⟨_,_,_,e,_⟩,_⟩:=x;exact⟨_,e⟩
 |rng lo hi=>obtain⟨_,_,_,e⟩:=x;exact⟨_,e⟩
 |frz ob u=>obtain⟨e,_⟩:=x;exact⟨_,e⟩
 |tbl ps=>exact⟨_,x⟩
 |met f y=>exact⟨_,x⟩
 |ext φ=>obtain⟨_,⟨_,e⟩,_⟩:=x;exact⟨_,e⟩
theorem zx5(x:HOk P w H h)(k:∀ b o u,H b=some o->h.get? b=some u->h'.get? b=some u):HOk P w H h':=fun b o e=>
 (x b o e).stay (fun c v hc q=>by
  rcases hc with rfl|hc
  ·exact k _ _ _ e q
  ·exact k _ _ _ hc q) (fun _ q=>q) fun _ _ q=>q
end
section
variable{X:Cx}{pins:List (Addr × Obj)}{st:St}{H H':Hp}{s s':Shared}{cls:Value}{h':Heap}{ea:Addr}{args:List Value}{M:Model}{E:Value->Shared->Prop}{Q:Unit->Shared->Prop}
theorem zpt{B:Heap}{l:List Env}{a0:Value}{h:Heap}(x:Heap.FlyingW B l ea cls a0 h):yg1 B l ea cls a0 h:=⟨x.1,x.2.1,x.2.2.1,.inl ⟨.none,x.2.2.2.at⟩⟩
theorem yg1.there{B:Heap}{l:List Env}{a0:Value}{h:Heap}(x:yg1 B l ea cls a0 h):∃ ob,h.get? ea=some ob/\ob.cls=cls:=by
 obtain⟨_,_,_,⟨fl,q⟩|⟨oe,vs,q1,q2,_⟩⟩:=x
 ·exact q.there
 ·exact⟨oe,q1,q2⟩
theorem FdH.next{fd:Option Nat}{B h h' h0:Heap}{H':Hp}(x:FdH fd ea B h h0 H')(k:DK h h')(e:∃ o,h'.get? ea=some o):FdH fd ea B h' h0 H':=fun n q=>by
 obtain⟨dN,oD,oe,q1,q2,q3⟩:=x n q;obtain⟨o,e⟩:=e;exact⟨dN,oD,o,e,(k.get q1 e).trans q2,q3⟩
theorem zq8{A:Around}{B:Heap}{l:List Env}{a0:Value}(x:yg1 B l ea cls a0 s.heap)(hQ:∀ h1,yg1 B l ea cls a0 h1->s.heap.UpToSlots h1->DK s.heap h1->Q () { s with heap:=h1 }):wpAny M A (setFlight (.ref ea) none) Q E s:=by
 obtain⟨f1,f2,f3,⟨fl,f4⟩|f4⟩:=x
 ·have k:wpAny M A (setFlight (.ref ea) none) (fun _ s'=>∃ h1,s'={ s with heap:=h1 }/\yg1 B l ea cls a0 h1/\s.heap.UpToSlots h1) E s:=
   wpAny_setFlight_noneW f1 f3 f4 fun h1 k1 k2 k3 k4=>⟨h1,rfl,zpt ⟨k1,f2,k2,k3⟩,fun b o e n=>⟨o.slots,k4 b o e n⟩⟩
  exact wpAny_mono (ygp (zgk _ _) k) (fun _ _ ⟨⟨h1,e,q1,q2⟩,q3⟩=>by subst e;exact hQ h1 q1 q2 q3) fun _ _ z=>z
 ·obtain⟨oe,vs,he,hc,hd,hz,h0,h1⟩:=id f4;unfold setFlight;refine wpAny_bind (wpAny_field he hd h1 ?_);rw[if_neg (show ¬ ((Value.none != Value.none)=true)from by decide)];exact wpAny_pure (hQ s.heap ⟨f1,f2,f3,.inr f4⟩ (.refl _) (.refl _))
theorem zrf{A:Around}{B:Heap}{env:Env}{outer:List Env}{L:Addr}{a0:Value}(hfr:A.frames=some (env::outer))(hf:env.frame=some L)(x:yg1 B (env::outer) ea cls a0 s.heap)
  (hQ:∀ h1,Heap.HeldW B (env::outer) ea cls a0 L h1->s.heap.UpToSlots h1->Q () { s with heap:=h1 }):wpAny M A (noteFrame (.ref ea) env) Q E s:=by
 obtain⟨f1,f2,f3,⟨fl,f4⟩|f4⟩:=x
 ·by_cases hm:fl=rawInt L
  ·subst hm;exact wpAny_noteFrame_againW hf f4 (hQ s.heap ⟨f1,f2,f3,f4⟩ (.refl _))
  ·obtain⟨oe,vs,T,oT,ts,he,hc,hd,h1,hnT,hTe,hT,hdT,h3⟩:=f4;have sz:3<ts.size:=(Array.getElem?_eq_some_iff.mp h3).1;have oth:∀ b,b≠T->(s.heap.update T (Obj.mapFields (·.setIfInBounds 3 Value.none))).get? b=s.heap.get? b:=fun b hb=>Heap.get?_update_other _ _ (Ne.symm hb);have nr:∀ b o,s.heap.get? b=some o->(∀ v,o.data≠.fields v)->b≠T:=fun b o hb hn q=>by
    rw[q,hT]at hb;cases hb;exact hn ts hdT
   have selfT:=Heap.get?_update_self (Obj.mapFields (·.setIfInBounds 3 Value.none)) hT (Obj.isFreed_of_fields (Obj.data_mapFields hdT _));have up:s.heap.UpToSlots (s.heap.update T (Obj.mapFields (·.setIfInBounds 3 Value.none))):=fun b o e n=>⟨o.slots,(oth b (nr b o e n)).trans e⟩
   have F0:Heap.FlyingW B (env::outer) ea cls a0 (s.heap.update T (Obj.mapFields (·.setIfInBounds 3 Value.none))):=
    ⟨fun b o e=>(oth b fun q=>by rw[q,hnT]at e;cases e).trans (f1 b o e),f2,f3.of_keeps fun b o e n=>⟨o,(oth b (nr b o e n)).trans e,rfl⟩,
     oe,vs,T,_,_,(oth ea (Ne.symm hTe)).trans he,hc,hd,h1,hnT,hTe,selfT,Obj.data_mapFields hdT _,by simp[sz]⟩
   have key:=wpAny_looks_onW (M:=M) (E:=E) (Q:=Q) (s:={ s with heap:=s.heap.update T (Obj.mapFields (·.setIfInBounds 3 Value.none)) }) hfr hf F0 fun h2 q1 q2=>hQ h2 q1 (up.trans q2);intro Γ p hΓ;have k:=key Γ p hΓ;unfold noteFrame at k ⊢;simp only[hf]at k ⊢;rw[Sem.wp_bind',wp_field_iff]at k ⊢;obtain⟨a1,o1,v1,x1,e1,g1,d1,i1,k⟩:=k;cases e1;have g1':s.heap.get? ea=some o1:=(oth ea (Ne.symm hTe)).symm.trans g1;have o1e:o1=oe:=by rw[he]at g1';cases g1';rfl
   subst o1e;rw[hd]at d1;cases d1;rw[h1]at i1;cases i1;refine⟨ea,o1,vs,.ref T,rfl,he,hd,h1,?_⟩;have nn:(Value.ref T != Value.none)=true:=by simp
   simp only[nn,if_true]at k ⊢;rw[Sem.wp_bind',wp_field_iff]at k ⊢;obtain⟨a2,o2,v2,x2,e2,g2,d2,i2,k⟩:=k;cases e2;have g2':=selfT.symm.trans g2;cases g2';have d2':=(Obj.data_mapFields hdT (·.setIfInBounds 3 Value.none)).symm.trans d2;cases d2';have x2e:x2=Value.none:=by
    have:(ts.setIfInBounds 3 Value.none)[3]?=some Value.none:=by simp[sz]
    rw[this]at i2;cases i2;rfl
   subst x2e;refine⟨T,oT,ts,fl,rfl,hT,hdT,h3,?_⟩;have n1:(Value.none == rawInt L)=false:=by simp[rawInt]
   have n2:(fl == rawInt L)=false:=by
    cases q:fl == rawInt L with
    |false=>rfl
    |true=>exact absurd (beq_iff_eq.mp q) hm
   simp only[n1,n2,Bool.false_eq_true,if_false]at k ⊢;rw[Sem.wp_bind',wp_setField_iff]at k ⊢;obtain⟨a3,o3,v3,e3,g3,d3,i3,k⟩:=k;cases e3;refine⟨T,oT,ts,rfl,hT,hdT,sz,?_⟩;simp only[Heap.update_setField_twice]at k;exact k
 ·obtain⟨oe,vs,he,hc,hd,hz,h0,h1⟩:=f4;unfold noteFrame;simp only[hf];refine wpAny_bind (wpAny_field he hd h1 ?_);rw[if_neg (by decide)];refine wpAny_entryW (base:=B) (outer:=outer) (a0:=a0) hfr f3 hf he f1 f2 hd hz h0 fun h4 hN=>?_;obtain⟨k1,k2,k3,k4⟩:=hN;rw[hc]at k3;exact hQ h4 ⟨k1,f2,k2,k3⟩ k4
theorem zrg{A:Around}{B:Heap}{env:Env}{outer:List Env}{L:Addr}{a0:Value}(hfr:A.frames=some (env::outer))(hf:env.frame=some L)(x:yg1 B (env::outer) ea cls a0 s.heap)
  (hQ:∀ h1,Heap.HeldW B (env::outer) ea cls a0 L h1->s.heap.UpToSlots h1->DK s.heap h1->Q () { s with heap:=h1 }):wpAny M A (noteFrame (.ref ea) env) Q E s:=by
 have k:wpAny M A (noteFrame (.ref ea) env) (fun _ s'=>∃ h1,s'={ s with heap:=h1 }/\Heap.HeldW B (env::outer) ea cls a0 L h1/\s.heap.UpToSlots h1) E s:=zrf hfr hf x fun h1 q1 q2=>⟨h1,rfl,q1,q2⟩
 exact wpAny_mono (ygp (zq3 _ _) k) (fun _ _ ⟨⟨h1,e,q1,q2⟩,q3⟩=>by subst e;exact hQ h1 q1 q2 q3) fun _ _ z=>z
theorem zx4{B:Heap}{l:List Env}{a0:Value}{L:Addr}{h:Heap}(x:Heap.HeldW B l ea cls a0 L h):yg1 B l ea cls a0 h:=⟨x.1,x.2.1,x.2.2.1,.inl ⟨_,x.2.2.2⟩⟩
theorem zky{A:Around}{B:Heap}{env:Env}{outer:List Env}{L:Addr}{a0:Value}(hfr:A.frames=some (env::outer))(hf:env.frame=some L)(x:yg1 B (env::outer) ea cls a0 s.heap)
  (hQ:∀ h1,yg1 B outer ea cls a0 h1->s.heap.UpToSlots h1->DK s.heap h1->Q () { s with heap:=h1 }):wpAny M A (leaving env (.ref ea)) Q E s:=by
 unfold leaving;refine wpAny_bind (zrg hfr hf x fun h1 q1 q2 q3=>?_);refine zq8 (zx4 q1) fun h2 q4 q5 q6=>?_;obtain⟨k1,k2,⟨_,_,k3⟩,k4⟩:=q4;exact hQ h2 ⟨k1,k2,k3,k4⟩ (q2.trans q5) (q3.trans q6)
theorem zp0(hs:X.stack=X.env::X.outer)(hf:X.env.frame=some X.env.locals){b:Addr}:b∈frs X.stack ↔ b=X.env.locals\/b∈frs X.outer:=by
 rw[hs];unfold frs;rw[List.filterMap_cons,hf];exact List.mem_cons
theorem zxj(I:Inv X pins st H s)(hs:X.stack=X.env::X.outer)(hf:X.env.frame=some X.env.locals)(hx:X.ex=[]){h'':Heap}(un:Un (frs X.stack) [] H H' s.heap h''):Un (frs X.outer) [] X.H₀ H' X.s₀.heap h'':=by
 have nex:∀ b,b ∉ X.ex:=fun b z=>by rw[hx]at z;cases z
 have neL:∀ b o,X.s₀.heap.get? b=some o->b≠X.env.locals:=fun b o e=>Nat.ne_of_lt (Nat.lt_of_lt_of_le (Heap.lt_size e) I.ok.above);refine⟨fun b o e n hb _=>?_,fun b o e n hb _=>?_,fun b o e n _=>?_,fun b o e _=>?_,fun b xs e=>un.tups b xs (I.base.tups b xs e),fun b o u e=>un.frzs b o u (I.base.frzs b o u e),fun b ps e=>?_⟩
 ·exact un.keep b o (I.base.keep b o e n hb (nex b)) (I.base.free b o e n (nex b)) (fun z=>((zp0 hs hf).mp z).elim (neL b o e) hb) (by simp)
 ·obtain⟨sl,e1⟩:=I.base.slot b o e n hb (nex b);obtain⟨sl',e2⟩:=un.slot b _ e1 (I.base.free b o e n (nex b)) ((zp0 hs hf).mpr (.inr hb)) (by simp);exact⟨sl',e2⟩
 ·obtain⟨o',e1⟩:=I.base.there b o e (nex b);exact un.free b o' e1 (I.base.free b o e n (nex b)) (by simp)
 ·obtain⟨o',e1⟩:=I.base.there b o e (nex b);exact un.there b o' e1 (by simp)
 ·obtain⟨m1,e1⟩:=I.base.tbls b ps e;obtain⟨m2,e2⟩:=un.tbls b _ e1;exact⟨m1++m2,by rw[e2,Array.append_assoc]⟩
theorem zxk{P:Program}{w:World}{outer:List Env}{e:Value}{fd:Option Nat}(F:Fly P w outer H s cls fd H' e s'){h6:Heap}{B:Heap}(hB:∀ b o,s.heap.get? b=some o->H b=none->b ∉ frs outer->B.get? b=some o)(hT:∀ b o,H' b=some o->∃ ob,B.get? b=some ob)
  (hA:∀ b o,s.heap.get? b=some o->b ∉ frs outer->∃ o',B.get? b=some o') (hb0:∀ b o,B.get? b=some o->s'.heap.get? b=some o) (hb6:∀ b o,B.get? b=some o->h6.get? b=some o) (hsl:s'.heap.UpToSlots h6) (hfr:∀ b∈frs outer,∃ o,s.heap.get? b=some o/\(∀ vs,o.data≠.fields vs)/\H b=none) :
  Un (frs outer) [] H H' s.heap h6/\HOk P w H' h6:=by
 refine⟨⟨fun b o e n hb _=>hb6 b o (hB b o e n hb),fun b o e n hb hx=>?_,F.un.free,fun b o e hx=>?_,F.un.tups,F.un.frzs,F.un.tbls⟩,zx5 F.hok fun b o u e q=>?_⟩
 ·obtain⟨sl,e1⟩:=F.un.slot b o e n hb hx;obtain⟨o',e',hd,_⟩:=hfr b hb;rw[e]at e';cases e';obtain⟨sl',e2⟩:=hsl b _ e1 hd;exact⟨sl',e2⟩
 ·by_cases hb:b∈frs outer
  ·obtain⟨o',e',hd,hn⟩:=hfr b hb;rw[e]at e';cases e';obtain⟨sl,e1⟩:=F.un.slot b o e hn hb hx;obtain⟨sl',e2⟩:=hsl b _ e1 hd;exact⟨_,e2⟩
  ·obtain⟨o',e1⟩:=hA b o e hb;exact⟨o',hb6 b o' e1⟩
 ·obtain⟨ob,e1⟩:=hT b o e;have:=hb0 b ob e1;rw[q]at this;cases this;exact hb6 b _ e1
theorem zei(I:Inv X pins st H s):∀ b∈frs X.stack,∃ o,s.heap.get? b=some o/\(∀ vs,o.data≠.fields vs)/\H b=none:=fun b hb=>by
 obtain⟨_,o,e,hd⟩:=I.stack.mem hb;exact⟨o,e,hd,I.stkFree b hb⟩
theorem zkx(I:Inv X pins st H s)(hs:X.stack=X.env::X.outer)(hf:X.env.frame=some X.env.locals)(hex:X.ex=[]){e:Value}{fd:Option Nat}(F:Fly X.prog X.w X.stack H s cls fd H' e s')
  (hQ:∀ s'',Fly X.prog X.w X.outer X.H₀ X.s₀ cls fd H' e s''->Q () s''):wpAny M X.A (leaving X.env e) Q E s':=by
 obtain⟨ea,a0,B,rfl,fl,hn,hnew,hT,hB,hA,hF⟩:=F.ex;have fl':yg1 B (X.env::X.outer) ea cls a0 s'.heap:=by rw[<-hs];exact fl
 refine zky (by rw[<-hs];exact I.ok.frames) hf fl' fun h'' x1 x2 x3=>hQ _ ?_;obtain⟨un,hok⟩:=zxk F hB hT hA fl.1 x1.1 x2 (zei I);have nex:∀ b,b ∉ X.ex:=fun b z=>by rw[hex]at z;cases z
 have neL:∀ b o,X.s₀.heap.get? b=some o->b≠X.env.locals:=fun b o e=>Nat.ne_of_lt (Nat.lt_of_lt_of_le (Heap.lt_size e) I.ok.above);have new0:∀ b,s.heap.get? b=none->X.s₀.heap.get? b=none:=fun b e=>by
  cases q:X.s₀.heap.get? b with
  |none=>rfl
  |some u=>obtain⟨v,e'⟩:=I.base.there _ _ q (nex _);rw[e]at e';cases e'
 have hF':FdH fd ea B h'' X.s₀.heap H':=fun n q=>by
  obtain⟨dN,oD,oe,z1,z2,z3,z4,z5,z6⟩:=hF.next x3 (let ⟨o,e,_⟩:=x1.there;⟨o,e⟩) n q;exact⟨dN,oD,oe,z1,z2,z3,z4,z5,new0 _ z6⟩
 refine⟨⟨ea,a0,B,rfl,x1,hn,?_,hT,fun b o e n hb=>?_,fun b o e hb=>?_,hF'⟩,F.os.trans I.os,F.bare,zxj I hs hf hex un,hok⟩
 ·cases q:X.s₀.heap.get? ea with
  |none=>rfl
  |some u=>obtain⟨v,e⟩:=I.base.there _ _ q (nex _);rw[hnew]at e;cases e
 ·exact hB b o (I.base.keep b o e n hb (nex b)) (I.base.free b o e n (nex b)) fun z=>((zp0 hs hf).mp z).elim (neL b o e) hb
 ·obtain⟨o',q⟩:=I.base.there b o e (nex b);exact hA b o' q fun z=>((zp0 hs hf).mp z).elim (neL b o e) hb
end
theorem ybo{P:Program}{w:World}{K:PySem.W.Frag}{mg:Str->Option Value}{base:Heap}{N:List Str}{qual:Str}{scope:Scope}{f:Addr}{cd:Value}{A:Around}{outer:List Env}{s:Shared}{H:Hp}{E:XK}{st:St}{cls:Value}{fd:Option Nat}{H':Hp}
  (h:E cls fd H'):Thr (yh9 (CXE P w) P w K mg base N qual scope f cd A outer s H E) st cls fd H' where
 fly:=fun pins H1 s1 e s' I F=>zkx I rfl rfl rfl F fun s'' G=>⟨cls,fd,H',G,h⟩
theorem Thr.made{X:Cx}{pins:List (Addr × Obj)}{st:St}{H':Hp}{s:Shared}{cls:Value}{ea:Addr}{h':Heap}{args:List Value}(t:Thr X st cls none H')(I:Inv X pins st H' s)(hx:Heap.MadeExcOf s.heap h' ea cls args):X.xe (.ref ea) { s with heap:=h' }:=by
 have ff:s.heap.FunFrames (PySem.W.hideAll s.heap (frs X.stack)) X.stack:=PySem.W.funFrames_hide (as:=frs X.stack) I.stack (fun env he a ha=>List.mem_filterMap.mpr ⟨env,he,ha⟩);have hid:∀ b o,s.heap.get? b=some o->b ∉ frs X.stack->(PySem.W.hideAll s.heap (frs X.stack)).get? b=some o:=fun b o e n=>PySem.W.hideAll_get _ e n;obtain⟨t0,he,htn,ht⟩:=hx.there;have nst:∀ b o,H' b=some o->b ∉ frs X.stack:=fun b o e z=>by rw[I.stkFree b z]at e;cases e
 have hn:H' ea=none:=by
  cases q:H' ea with
  |none=>rfl
  |some u=>obtain⟨v,e⟩:=zdt (I.hok _ _ q);rw[hx.new]at e;cases e
 refine t.fly pins H' s (.ref ea) _ I ⟨⟨ea,.ref t0,PySem.W.hideAll s.heap (frs X.stack),rfl,⟨fun b o q=>hx.keeps b o (PySem.W.of_hideAll _ q),?_,ff.of_keeps fun b o e _=>⟨o,hx.keeps b o e,rfl⟩,.inr ⟨_,_,he,rfl,rfl,by simp,rfl,rfl⟩⟩,hn,hx.new,fun b o e=>?_,fun b o e n hb=>hid b o e hb,fun b o e hb=>⟨o,hid b o e hb⟩,fun n q=>by cases q⟩,rfl,I.bare,⟨fun b o e n hb _=>hx.keeps b o e,fun b o e n hb _=>⟨o.slots,hx.keeps b o e⟩,fun b o e n _=>n,fun b o e _=>⟨o,hx.keeps b o e⟩,fun _ _ e=>e,fun _ _ _ e=>e,fun b ps e=>⟨#[],by rw[e];simp⟩⟩,zx5 I.hok fun b o u e q=>hx.keeps b u q⟩
 ·cases q:(PySem.W.hideAll s.heap (frs X.stack)).get? ea with
  |none=>rfl
  |some u=>have:=PySem.W.of_hideAll _ q;rw[hx.new]at this;cases this
 ·obtain⟨u,q⟩:=zdt (I.hok _ _ e);exact⟨u,hid b u q (nst b o e)⟩
theorem zhc{P:Program}{w:World}{K:PySem.W.Frag}{mg:Str->Option Value}{base:Heap}{N:List Str}{qual:Str}{scope:Scope}{f:Addr}{cd:Value}{A:Around}{outer:List Env}{s:Shared}{H:Hp}{E:XK} :
  PassesOwn (model P w) (yh9 (CXE P w) P w K mg base N qual scope f cd A outer s H E).A (yh9 (CXE P w) P w K mg base N qual scope f cd A outer s H E).env (yh9 (CXE P w) P w K mg base N qual scope f cd A outer s H E).xe:=PassesOwn.leaving
def yik:Fl->M D
 | .nx _=>ret .non
 | .rt d=>ret d
 | .xc _ x=>fun σ=>.ex x σ
 |_=>bad
def ykh:Out Fl->Out D
 | .ok fl σ=>yik fl σ
 |_=>.bad
def run(n:Nat)(g:Ev->M Fl)(ds:List D):M D:=fun σ=>ykh (g (ds.map some++List.replicate (n - ds.length) none) σ)
def spF(T:Tb)(n:Nat)(f:List D->M D):Sp:=fun vs H Q E=>∃ μ σ ds,yhh T μ H ds vs/\ds.length=n/\Rel T μ H σ/\yhb T E (Rep T) μ H (f ds σ) Q
def fnK(n:Nat)(f:List D->M D)(dds:List D)(ds:List D):M D:=if (ds++dds).length=n then f (ds++dds)else bad
def eFn(n:Nat)(f:List D->M D)(dds:List D)(fs:Ev->M (List D)):Ev->M D:=fun ρ=>bnd (fs ρ) (fnK n f dds)
section
variable{T:Tb}{X:Cx}
theorem zhx{μ:List Addr}{H:Hp}{ds:List D}{vs:List V}{N:List Str}(h:yhh T μ H ds vs):ygy T μ H (ds.map some++List.replicate (N.length - ds.length) none) (L2.yf8 N vs):=by
 have hl:=h.length;refine⟨by simp[L2.yf8,hl],fun i d e=>?_⟩;by_cases hi:i<ds.length
 ·rw[List.getElem?_append_left (by simpa using hi),List.getElem?_map]at e;cases e2:ds[i]? with
  |none=>rw[e2]at e;cases e
  |some x=>
   rw[e2]at e;cases e;obtain⟨v,h1,h2⟩:=h.get e2;refine⟨v,?_,h2⟩;unfold L2.yf8;rw[List.getElem?_append_left (by simpa [<-hl]using hi),List.getElem?_map,h1];rfl
 ·rw[List.getElem?_append_right (by simpa using hi),List.getElem?_replicate]at e;split at e<;>cases e
variable{k:Nat}{f C:Addr}{fd:FuncData}{ps:List Str}{dvs:List V}{dval:List Value}{dds:List D}{x:Str}{p pos:Pos}{e:Expr}{es:List Expr}{fn:List D->M D}{fs:Ev->M (List D)}{sp:Sp}{t:TA}
theorem zte{pins:List (Addr × Obj)}{st:St}{H:Hp}{s:Shared}{Q:VK}{us:List Value}{vs:List V}(F:FnOk X.prog X.w X.K X.mg X.base (CXE X.prog X.w) k f fd ps sp)(hr:Room k X.A)(hb:yb1 X.K fd ps dval)(hd:yho dvs dval)
  (I:Inv X pins st H s) (r:yho vs us) (h:sp (vs++dvs) H Q (XE X st)):wpAny (model X.prog X.w) X.A (call (.ref f) us) (EP X pins st Q) X.xe s:=by
 have r2:yho (vs++dvs) (us++dval):=r.append hd;have hl:(us++dval).length=ps.length:=by rw[<-r2.length];exact F.len _ _ _ _ h
 refine wpAny_call (codeAny_mono (F.run X.A X.stack s H ⟨us,[]⟩ (us++dval) (vs++dvs) Q (XE X st) hr I.env0 (hb s us I.kIn hl) r2 h) fun r s' hq=>?_);cases r with
 |error e=>obtain⟨cls,fd,H',hfly,ht⟩:=hq;exact ht.fly pins H s e s' I hfly
 |ok fl=>
  cases fl with
  |ret u=>exact I.after hq
  |next=>exact False.elim hq
  |brk=>exact False.elim hq
  |cont=>exact False.elim hq
theorem zpi(F:FnOk X.prog X.w X.K X.mg X.base (CXE X.prog X.w) k f fd ps (spF T ps.length fn))(hr:Room k X.A)(hg:Gl X x)(hm:X.mg x=some (.ref f))(hk:PySem.W.keepIn X.K (.ref f)=true)(hb:yb1 X.K fd ps dval)(hd:yho dvs dval)(hdd:∀ μ H,yhh T μ H dds dvs)
  (ha:FA T X (e::es) fs) (hdb:(x == ("__debug__" : Str))=false:=by decide) (he:starEach (e::es) X.env=(false,eval e X.env)::starEach es X.env:=by rfl) (hpl:(backTo pos (starEach es X.env)).any (·.1)=false:=by rfl) :
  FE T X (.Call (.Name x p) (e::es) [] pos) (eFn ps.length fn dds fs):=by
 intro pins s st H Q I h;refine wpAny_Call_Name_kw (zrc I hg hm ?_ hdb);obtain⟨μ,ρ,σ,hE,hr',hp⟩:=h;refine PySem.W.callWith_K (h₀:=X.base) I.ok.mod.kin hk (thn (ha pos pins s st H (fun vs H1=>spF T ps.length fn (vs++dvs) H1 Q (XE X st)) I ⟨μ,ρ,σ,hE,hr',hp.bind fun ds σ1 μ1 vs H1 _ e1 r1 p1 q1=>?_⟩) fun us s1 ⟨vs,H1,I1,r,q⟩=>⟨I1.kIn,?_⟩) he hpl
 ·unfold fnK at q1;by_cases hl:(ds++dds).length=ps.length
  ·rw[if_pos hl]at q1;exact⟨μ1,σ1,ds++dds,p1.append (hdd _ _),hl,r1,q1⟩
  ·rw[if_neg hl]at q1;exact q1.elim
 ·exact zte F hr hb hd I1 r q
variable{P:Program}{w:World}{K:PySem.W.Frag}{mg:Str->Option Value}{base:Heap}
theorem fok{x qual:Str}{st:Stmt}{N:List Str}{g:Ev->M Fl}{params:Arguments}{dV kV doc pm cdv ct oc:Value}{an od:Option Addr}{osl:Array (Option Value)}
  (lk:K.lookup f=some ⟨oc,od,.func (PySem.W.fnOf x qual params (zo4 st) (ziy st) dV kV doc pm an cdv ct),osl⟩) (hcd:PySem.W.codeIn K cdv qual=true) (S:FnScope N ps (ziy st))
  (hb:∀ (A:Around) (outer:List Env) (s:Shared) (H:Hp) (E:XK),Room k (A.deeper (envOfC qual (ziy st) s.heap.objs.size f cdv))->FSs T (yh9 (CXE P w) P w K mg base N qual (ziy st) f cdv A outer s H E) (zo4 st) g) :
  FnOk P w K mg base (CXE P w) (k+1) f (PySem.W.fnOf x qual params (zo4 st) (ziy st) dV kV doc pm an cdv ct) ps (spF T ps.length (run N.length g)):=by
 refine ydq lk hcd S (fun vs H Q E h=>?_) (fun A outer s H vs Q E hr h=>?_)
 ·obtain⟨μ,σ,ds,h1,h2,_⟩:=h;rw[<-h1.length];exact h2
 ·obtain⟨μ,σ,ds,h1,h2,h3,h4⟩:=h;refine⟨_,hb A outer s H E hr,μ,_,σ,zhx h1,h3,?_⟩;unfold run at h4;cases eg:g (ds.map some++List.replicate (N.length - ds.length) none) σ with
  |bad=>rw[eg]at h4;exact h4
  |ex x σ1=>rw[eg]at h4;exact h4.elim
  |ok fl σ1=>
   rw[eg]at h4;intro μ1 gl H1 e1 r1 q1;have p1:=h4.mono e1;cases fl with
   |nx ρ2=>cases gl with
    |nx st2=>have z:Q V.non H1:=yhb.here (d:=D.non) p1 r1 (by rw[Rep]);exact z
    |_=>exact q1.elim
   |rt d2=>cases gl with
    |rt v2=>have z:Q v2 H1:=yhb.here (d:=d2) p1 r1 q1;exact z
    |_=>exact q1.elim
   |xc ρ2 x2=>cases gl with
    |xc st2 c2 fd2=>
     obtain⟨_,rfl,rfl⟩:=q1;exact ybo (p1 μ1 H1 (Ext.refl _ _) r1)
    |_=>exact q1.elim
   |_=>exact p1.elim
theorem zpx(F:FnOk P w K mg base (CXE P w) k f fd ps (spF T ps.length fn)):FnOk P w K mg base (CXE P w) k f fd ps (spF T ps.length (fun ds=>frz (fn ds))):=
 F.imp fun vs H Q E h=>by
  obtain⟨μ,σ,ds,h1,h2,h3,h4⟩:=h;exact⟨μ,σ,ds,h1,h2,h3,yhb.frz h3 h4⟩
end
def yh5(env:Env)(names:List (Str × NameKind))(acc:List (Str × Addr)):List (Str × Addr):=
 names.foldl (fun cs y=>if (y.2 == .free)=true then (match env.cells.lookup y.1 with|some c=>(y.1,c)::cs|none=>cs)else cs) acc
theorem zed(env:Env):∀ (names:List (Str × NameKind)) (acc:List (Str × Addr)),(∀ y∈names,y.2=.free->∃ c,env.cells.lookup y.1=some c)->
  (forIn names acc (fun x (cs:List (Str × Addr))=>match x with|(name,kind)=>if (kind == .free)=true then (do let a <-cellOf env name;pure (ForInStep.yield ((name,a)::cs)))else pure (ForInStep.yield cs)):Sem (List (Str × Addr)))=pure (yh5 env names acc)
 |[],acc,_=>rfl
 |(n,k)::r,acc,h=>by
  rw[List.forIn_cons];by_cases hk:(k == NameKind.free)=true
  ·obtain⟨c,hc⟩:=h (n,k) List.mem_cons_self (by simpa using hk);have e1:cellOf env n=pure c:=by unfold cellOf;rw[hc]
   simp only[hk,if_true,e1];show (forIn r ((n,c)::acc) _:Sem (List (Str × Addr)))=_;rw[zed env r ((n,c)::acc) fun y hy=>h y (List.mem_cons_of_mem _ hy)];have e2:yh5 env ((n,k)::r) acc=yh5 env r ((n,c)::acc):=by
    unfold yh5;rw[List.foldl_cons];simp only[hk,if_true,hc]
   rw[e2]
  ·simp only[hk];show (forIn r acc _:Sem (List (Str × Addr)))=_;rw[zed env r acc fun y hy=>h y (List.mem_cons_of_mem _ hy)];have e2:yh5 env ((n,k)::r) acc=yh5 env r acc:=by
    unfold yh5;rw[List.foldl_cons];simp only[hk];rfl
   rw[e2]
theorem zee(env:Env)(scope:Scope)(h:∀ y∈scope.names,y.2=.free->∃ c,env.cells.lookup y.1=some c):closureFor scope env=pure (yh5 env scope.names []):=by
 have e:=zed env scope.names [] h;unfold closureFor;simp only[bind_pure];exact e
theorem zwc(env:Env):∀ (names:List (Str × NameKind)) (acc:List (Str × Addr)) (n:Str) (c:Addr),(∀ n c,acc.lookup n=some c->env.cells.lookup n=some c)->(yh5 env names acc).lookup n=some c->env.cells.lookup n=some c
 |[],acc,n,c,h,e=>h n c e
 |(y,k)::r,acc,n,c,h,e=>by
  unfold yh5 at e;rw[List.foldl_cons]at e;refine zwc env r _ n c (fun n c q=>?_) e;by_cases hk:(k == NameKind.free)=true
  ·simp only[hk,if_true]at q;cases hc:env.cells.lookup y with
   |none=>rw[hc]at q;exact h n c q
   |some c'=>
    rw[hc]at q;rw[List.lookup_cons]at q;cases hn:(n == y)with
    |true=>rw[hn]at q;cases q;rw[eq_of_beq hn];exact hc
    |false=>rw[hn]at q;exact h n c q
  ·simp only[hk]at q;exact h n c q
theorem zop(env:Env):∀ (names:List (Str × NameKind)) (acc:List (Str × Addr)) (n:Str),(∃ c,acc.lookup n=some c)->∃ c,(yh5 env names acc).lookup n=some c
 |[],acc,n,h=>h
 |(y,k)::r,acc,n,h=>by
  unfold yh5;rw[List.foldl_cons];refine zop env r _ n ?_;by_cases hk:(k == NameKind.free)=true
  ·simp only[hk,if_true];cases hc:env.cells.lookup y with
   |none=>exact h
   |some c'=>
    show ∃ c,List.lookup n ((y,c')::acc)=some c;rw[List.lookup_cons];cases hn:(n == y)with
    |true=>exact⟨c',rfl⟩
    |false=>exact h
  ·simp only[hk];exact h
theorem zv6(env:Env):∀ (names:List (Str × NameKind)) (acc:List (Str × Addr)) (n:Str),(n,NameKind.free)∈names->(∃ c,env.cells.lookup n=some c)->∃ c,(yh5 env names acc).lookup n=some c
 |[],acc,n,h,_=>nomatch h
 |(y,k)::r,acc,n,h,hc=>by
  unfold yh5;rw[List.foldl_cons];rcases List.mem_cons.mp h with e|e
  ·cases e;refine zop env r _ _ ?_;obtain⟨c,hc⟩:=hc;refine⟨c,?_⟩;simp[hc]
  ·exact zv6 env r _ n e hc
theorem zbj{env:Env}:∀ {names:List (Str × NameKind)} {x:Str} {k:NameKind},
  (names.map fun(n,k)=>if (k == NameKind.free && env.scope.kind == .function && env.kindOf n == some .cell)then (n,NameKind.cell)else (n,k)).lookup x=some k->∃ k0,names.lookup x=some k0/\(k=k0\/(k0=.free/\k=.cell))
 |[],_,_,h=>by simp at h
 |(n,k0)::r,x,k,h=>by
  have ih:=@zbj env r x k;have h':List.lookup x ((if (k0 == NameKind.free && env.scope.kind == .function && env.kindOf n == some .cell)=true then (n,NameKind.cell)else (n,k0))::(r.map fun(n,k)=>if (k == NameKind.free && env.scope.kind == .function && env.kindOf n == some .cell)then (n,NameKind.cell)else (n,k)))=some k:=h;cases hx:x == n with
  |true=>
   by_cases hc:(k0 == NameKind.free && env.scope.kind == .function && env.kindOf n == some .cell)=true
   ·rw[if_pos hc]at h';simp only[List.lookup_cons,hx]at h' ⊢;cases h';simp only[Bool.and_eq_true]at hc;exact⟨k0,rfl,.inr ⟨by simpa using hc.1.1,rfl⟩⟩
   ·rw[if_neg hc]at h';simp only[List.lookup_cons,hx]at h' ⊢;cases h';exact⟨k0,rfl,.inl rfl⟩
  |false=>
   by_cases hc:(k0 == NameKind.free && env.scope.kind == .function && env.kindOf n == some .cell)=true
   ·rw[if_pos hc]at h';simp only[List.lookup_cons,hx]at h' ⊢;exact ih h'
   ·rw[if_neg hc]at h';simp only[List.lookup_cons,hx]at h' ⊢;exact ih h'
theorem zc3{env:Env}:∀ {names:List (Str × NameKind)} {x:Str},names.lookup x=some .free->
  (names.map fun(n,k)=>if (k == NameKind.free && env.scope.kind == .function && env.kindOf n == some .cell)then (n,NameKind.cell)else (n,k)).lookup x=some .cell\/
  (names.map fun(n,k)=>if (k == NameKind.free && env.scope.kind == .function && env.kindOf n == some .cell)then (n,NameKind.cell)else (n,k)).lookup x=some .free
 |[],_,h=>by simp at h
 |(n,k)::r,x,h=>by
  have ih:=@zc3 env r x;have goal:∀ z,List.lookup x ((if (k == NameKind.free && env.scope.kind == .function && env.kindOf n == some .cell)=true then (n,NameKind.cell)else (n,k))::(r.map fun(n,k)=>if (k == NameKind.free && env.scope.kind == .function && env.kindOf n == some .cell)then (n,NameKind.cell)else (n,k)))=z->
   (List.map (fun(n,k)=>if (k == NameKind.free && env.scope.kind == .function && env.kindOf n == some .cell)then (n,NameKind.cell)else (n,k)) ((n,k)::r)).lookup x=z:=fun z e=>e
  cases hx:x == n with
  |true=>
   simp only[List.lookup_cons,hx]at h;cases h;by_cases hc:(NameKind.free == NameKind.free && env.scope.kind == .function && env.kindOf n == some .cell)=true
   ·exact .inl (goal _ (by rw[if_pos hc];simp only[List.lookup_cons,hx]))
   ·exact .inr (goal _ (by rw[if_neg hc];simp only[List.lookup_cons,hx]))
  |false=>
   simp only[List.lookup_cons,hx]at h;have e:List.lookup x ((if (k == NameKind.free && env.scope.kind == .function && env.kindOf n == some .cell)=true then (n,NameKind.cell)else (n,k))::(r.map fun(n,k)=>if (k == NameKind.free && env.scope.kind == .function && env.kindOf n == some .cell)then (n,NameKind.cell)else (n,k))) =
     (r.map fun(n,k)=>if (k == NameKind.free && env.scope.kind == .function && env.kindOf n == some .cell)then (n,NameKind.cell)else (n,k)).lookup x:=by
    by_cases hc:(k == NameKind.free && env.scope.kind == .function && env.kindOf n == some .cell)=true
    ·rw[if_pos hc];simp only[List.lookup_cons,hx]
    ·rw[if_neg hc];simp only[List.lookup_cons,hx]
   rcases ih h with q|q
   ·exact .inl (goal _ (e.trans q))
   ·exact .inr (goal _ (e.trans q))
theorem zgy{names:List (Str × NameKind)}{x:Str}{k:NameKind}(h:names.lookup x=some k):(x,k)∈names:=PySem.mem_of_lookup h
def blk(X:Cx)(N':List Str)(scope:Scope)(cl:List (Str × Addr))(C:Addr)(s₀:Shared)(H₀:Hp)(ex:List Addr):Cx:=
 { X with N:=N',s₀:=s₀,H₀:=H₀,env:=compEnvC scope cl C X.env,outer:=X.stack,stack:=X.stack,ex:=ex,fn:=fun _=>false,pn:=[],xe:=fun _ _=>False }
structure LcOk(X:Cx)(x:Str)(M':List Str)(ix:List Nat)(scope:Scope):Prop where
 kind:scope.kind=.function
 cell:(scope.names.all fun y=>!(y.2 == .cell))=true
 names:(scope.names.all fun y=>!(y.2 == .local) || scope.names.lookup y.1 == some .local)=true
 free:(scope.names.all fun y=>!(y.2 == .free) || (X.env.scope.names.lookup y.1 == some .cell || X.env.scope.names.lookup y.1 == some .free))=true
 at_:ix.map (fun i=>X.N[i]?)=M'.map some
 vis:(M'.all fun y=>(X.env.scope.names.lookup y == some .cell || X.env.scope.names.lookup y == some .free) && scope.names.lookup y == some .free)=true
def ycm(ix:List Nat)(ρ:Ev):Ev:=none::ix.map fun i=>(ρ[i]?).getD none
def ycn(ix:List Nat)(st:St):St:=none::ix.map fun i=>(st[i]?).getD none
theorem zoe{T:Tb}{μ:List Addr}{H:Hp}{ρ:Ev}{st:St}(ix:List Nat)(h:ygy T μ H ρ st):ygy T μ H (ycm ix ρ) (ycn ix st):=by
 refine⟨by simp[ycm,ycn],fun i d e=>?_⟩;cases i with
 |zero=>simp[ycm]at e
 |succ j=>
  have e':(ix.map fun i=>(ρ[i]?).getD none)[j]?=some (some d):=e;rw[List.getElem?_map]at e';cases ej:ix[j]? with
  |none=>rw[ej]at e';cases e'
  |some i0=>
   rw[ej]at e';have e2:(ρ[i0]?).getD none=some d:=Option.some.inj e';have e3:ρ[i0]?=some (some d):=by
    cases q:ρ[i0]? with
    |none=>rw[q]at e2;cases e2
    |some o=>rw[q]at e2;exact congrArg some e2
   obtain⟨v,h1,h2⟩:=h.2 i0 d e3;refine⟨v,?_,h2⟩;show (ix.map fun i=>(st[i]?).getD none)[j]?=_;rw[List.getElem?_map,ej];show some ((st[i0]?).getD none)=_;rw[h1];rfl
section
variable{X:Cx}{pins:List (Addr × Obj)}{st:St}{H:Hp}{s:Shared}{x:Str}{M':List Str}{ix:List Nat}{scope:Scope}{fp:List Addr}
theorem zpy(L:LcOk X x M' ix scope)(y:Str × NameKind)(hy:y∈scope.names)(e:y.2=.free):X.env.kindOf y.1=some .cell\/X.env.kindOf y.1=some .free:=by
 have q:=List.all_eq_true.mp L.free y hy;rw[e]at q;simp only[beq_self_eq_true,Bool.not_true,Bool.false_or,Bool.or_eq_true]at q;rcases q with q|q
 ·exact .inl (eq_of_beq q)
 ·exact .inr (eq_of_beq q)
theorem zor(I:Inv X pins st H s)(L:LcOk X x M' ix scope):∀ y∈scope.names,y.2=.free->∃ c,X.env.cells.lookup y.1=some c:=fun y hy e=>I.ok.has y.1 (zpy L y hy e)
theorem zy4(L:LcOk X x M' ix scope):∀ y∈scope.names,y.2≠.cell:=fun y hy e=>by
 have q:=List.all_eq_true.mp L.cell y hy;rw[e]at q;simp at q
theorem zft(I:Inv X pins st H s)(L:LcOk X x M' ix scope)(hfp:∀ b∈fp,yg2 X pins H b/\b<s.heap.objs.size){h':Heap}{t':Nat}{m:Str->Option Value}(hns:h'.Ns s.heap.objs.size m)
  (hk:∀ b o,s.heap.get? b=some o->h'.get? b=some o) :
  Inv (blk X (x::M') scope (yh5 X.env scope.names []) s.heap.objs.size s H fp) [] (ycn ix st) H { s with heap:=h',toks:=t' }:=by
 have sub:∀ n c,(yh5 X.env scope.names []).lookup n=some c->X.env.cells.lookup n=some c:=fun n c e=>zwc X.env scope.names [] n c (fun _ _ q=>by simp at q) e;have cellLt:∀ n c,X.env.cells.lookup n=some c->c<s.heap.objs.size:=fun n c e=>by obtain⟨v,z⟩:=I.cell n c e;exact z.lt
 have fresh:H s.heap.objs.size=none:=I.hok.fresh (Nat.le_refl _);refine⟨⟨I.ok.mod,L.kind,I.ok.glob,I.ok.blt,Nat.le_refl _,fun a b c h1 h2=>I.ok.inj a b c (sub a c h1) (sub b c h2),fun a ha=>?_,fun a c h=>(by cases h),I.ok.hd,I.ok.frames,.inl rfl,fun b hb=>⟨Nat.ne_of_lt (hfp b hb).2,fun a c e=>?_⟩,fun b o e=>I.bs b o e,Nat.le_trans I.ok.bsz I.sz,fun b o e hb=>?_,fun b hb z=>?_,I.stack,I.stkFree⟩,
  rfl,I.bare,Un.kept hk,⟨m,hns,fun i y v e1 e2 e3=>?_⟩,fun a c e=>?_,fresh,fun a c e=>I.freeC a c (sub a c e),fun p hp=>absurd (show p∈([]:List (Addr × Obj))from hp) (by simp),I.hok.kept hk,?_⟩
 ·
  have ha':(scope.names.map fun(n,k)=>if (k == NameKind.free && X.env.scope.kind == .function && X.env.kindOf n == some .cell)then (n,NameKind.cell)else (n,k)).lookup a=some .cell\/(scope.names.map fun(n,k)=>if (k == NameKind.free && X.env.scope.kind == .function && X.env.kindOf n == some .cell)then (n,NameKind.cell)else (n,k)).lookup a=some .free:=ha;have hf:scope.names.lookup a=some .free:=by
   rcases ha' with z|z
   ·obtain⟨k0,h1,h2⟩:=zbj z;rcases h2 with h2|⟨h2,_⟩
    ·subst h2;exact absurd rfl (zy4 L _ (zgy h1))
    ·rw[h2]at h1;exact h1
   ·obtain⟨k0,h1,h2⟩:=zbj z;rcases h2 with h2|⟨_,h2⟩
    ·rw[<-h2]at h1;exact h1
    ·cases h2
  exact zv6 X.env scope.names [] a (zgy hf) (zor I L _ (zgy hf) rfl)
 ·exact(hfp b hb).1.2.2.2.2.1 a c (sub a c e)
 ·rcases(hfp b hb).1.2.2.2.1 with z|z
  ·exact I.ok.noex b o e z
  ·exact absurd (Nat.lt_of_lt_of_le (Heap.lt_size e) (Nat.le_trans I.ok.bsz z)) (Nat.lt_irrefl _)
 ·rcases List.mem_cons.mp (I.stkSub b z)with q|q
  ·exact(hfp b hb).1.2.1 q
  ·exact(hfp b hb).1.2.2.1 q
 ·
  cases i with
  |zero=>simp[ycn]at e2
  |succ j=>
   have e1':M'[j]?=some y:=e1;have e2':(ix.map fun i=>(st[i]?).getD none)[j]?=some (some v):=e2;rw[List.getElem?_map]at e2';cases ej:ix[j]? with
   |none=>rw[ej]at e2';cases e2'
   |some i0=>
    rw[ej]at e2';have e4:(st[i0]?).getD none=some v:=Option.some.inj e2';have e5:st[i0]?=some (some v):=by
     cases q:st[i0]? with
     |none=>rw[q]at e4;cases e4
     |some o=>rw[q]at e4;exact congrArg some e4
    have e6:X.N[i0]?=some y:=by
     have z:=congrArg (fun l=>l[j]?) L.at_;simp only[List.getElem?_map,ej,e1',Option.map_some]at z;exact Option.some.inj z
    have q:=List.all_eq_true.mp L.vis y (List.mem_of_getElem? e1');simp only[Bool.and_eq_true,Bool.or_eq_true]at q;have kx:X.env.scope.names.lookup y=some .cell\/X.env.scope.names.lookup y=some .free:=by
     rcases q.1 with z|z
     ·exact .inl (eq_of_beq z)
     ·exact .inr (eq_of_beq z)
    have ky:scope.names.lookup y=some .free:=eq_of_beq q.2;obtain⟨m0,hn0,hl0⟩:=I.loc;obtain⟨u,ru,lu⟩:=hl0 i0 y v e6 e5 (by rcases kx with z|z;exact .inr (.inl z);exact .inr (.inr z));refine⟨u,ru,.inr ⟨zc3 (env:=X.env) ky,?_⟩⟩;rcases lu with⟨z,_⟩|⟨_,c,ec,zc⟩
    ·rcases kx with k|k
     ·rw[show X.env.kindOf y=X.env.scope.names.lookup y from rfl,k]at z;cases z
     ·rw[show X.env.kindOf y=X.env.scope.names.lookup y from rfl,k]at z;cases z
    ·obtain⟨c',hc'⟩:=zv6 X.env scope.names [] y (zgy ky) (zor I L _ (zgy ky) rfl);have e7:=sub y c' hc';rw[ec]at e7;cases e7;obtain⟨o,ho,hd⟩:=zc;exact⟨c,hc',o,hk _ _ ho,hd⟩
 ·obtain⟨v,o,ho,hd⟩:=I.cell a c (sub a c e);exact⟨v,o,hk _ _ ho,hd⟩
 ·simp[ycn,blk];have z:=congrArg List.length L.at_;simpa using z
end
def nox{α:Type}(m:M α):M α:=fun σ=>match m σ with
 | .ex _ _=>.bad
 |o=>o
theorem yhb.bind0{α β γ δ:Type}{T:Tb}{E E0:XK}{R:List Addr->Hp->α->γ->Prop}{R':List Addr->Hp->β->δ->Prop}{μ:List Addr}{H:Hp}{m:M α}{k:α->M β}{σ:Sto}{Q:δ->Hp->Prop}{Q1:γ->Hp->Prop}
  (h:yhb T E R' μ H (bnd (nox m) k σ) Q) (f:∀ a σ1 μ1 g H1,m σ=.ok a σ1->Ext μ H μ1 H1->Rel T μ1 H1 σ1->R μ1 H1 a g->yhb T E R' μ1 H1 (k a σ1) Q->Q1 g H1):yhb T E0 R μ H (m σ) Q1:=by
 unfold bnd nox at h;cases e:m σ with
 |ok a σ1=>
  simp only[e]at h;exact fun μ' g H' e' r q=>f a σ1 μ' g H' e e' r q (h.mono e')
 |ex x σ1=>simp only[e]at h;exact h.elim
 |bad=>simp only[e]at h;exact h
def zyr(nx:Src)(n:Nat)(tg:D->Ev->Option Ev)(fi:Ev->M Bool)(fe:Ev->M D):Nat->Nat->Ev->M Unit
 |0,_,_=>bad
 |k+1,i,ρ=>fun σ=>match nx.nx i σ with
  |none=>.bad
  |some none=>.ok () σ
  |some (some d)=>match tg d ρ with
   |none=>.bad
   |some ρ1=>bnd (nox (fi ρ1)) (fun c=>if c=true then bnd (nox (fe ρ1)) fun y=>bnd (zrz (.ref n) [y]) fun _=>zyr nx n tg fi fe k (i+1) ρ1 else zyr nx n tg fi fe k (i+1) ρ1) σ
def lcK(tg:D->Ev->Option Ev)(fi:Ev->M Bool)(fe:Ev->M D)(ρ:Ev)(nx:Src):M D:=fun σ=>
 bnd (zyr nx σ.length tg fi fe 1001 0 ρ) (fun _=>ret (.ref σ.length)) (σ++[.lst []])
def eLC(src:Ev->M Src)(ix:List Nat)(tg:D->Ev->Option Ev)(fi:Ev->M Bool)(fe:Ev->M D):Ev->M D:=fun ρ=>bnd (src ρ) (lcK tg fi fe (ycm ix ρ))
def FIf(T:Tb)(X:Cx)(ifs:List Expr)(f:Ev->M Bool):Prop:=
 ∀ (pins:List (Addr × Obj)) (s:Shared) (st:St) (H:Hp) (Q:Bool->Hp->Prop),Inv X pins st H s->tT T X f st H Q->
  wpAny (model X.prog X.w) X.A (forIn ifs true fun c r=>if r=true then do let ok <-isTrue c X.env (eval c X.env);pure (ForInStep.yield ok)else pure (ForInStep.yield r)) (TP X pins st Q) X.xe s
def ycl:Ev->M Bool:=fun _=>ret true
section
variable{T:Tb}{X:Cx}
theorem zpq:FIf T X [] ycl:=by
 intro pins s st H Q I h;obtain⟨μ,ρ,σ,hE,hr,hp⟩:=h;exact wpAny_tests_nil ⟨H,I,yhb.here hp hr rfl⟩
theorem zpr{c:Expr}{f:Ev->M Bool}(h:FT T X c f):FIf T X [c] f:=fun pins s st H Q I hw=>wpAny_tests_one (h pins s st H Q I hw)
theorem zu1{fs ex:List Addr}{H H':Hp}{h h1 h2:Heap}{C:Addr}(u:Un fs ex H H' h h1)(hs:Heap.SameBut C h1 h2)(hC:h.objs.size<=C):Un fs ex H H' h h2:=by
 have ne:∀ b o,h.get? b=some o->b≠C:=fun b o e=>Nat.ne_of_lt (Nat.lt_of_lt_of_le (Heap.lt_size e) hC);refine⟨fun b o e n hb hx=>(hs.2 b (ne b o e)).trans (u.keep b o e n hb hx),fun b o e n hb hx=>?_,u.free,fun b o e hx=>?_,u.tups,u.frzs,u.tbls⟩
 ·obtain⟨sl,q⟩:=u.slot b o e n hb hx;exact⟨sl,(hs.2 b (ne b o e)).trans q⟩
 ·obtain⟨o',q⟩:=u.there b o e hx;exact⟨o',(hs.2 b (ne b o e)).trans q⟩
theorem zkg{P:Program}{w:World}{H:Hp}{h1 h2:Heap}{C:Addr}(ok:HOk P w H h1)(hs:Heap.SameBut C h1 h2)(hC:H C=none):HOk P w H h2:=fun b ob e=>by
 refine(ok b ob e).stay (fun c w' hc q=>(hs.2 c ?_).trans q) (fun _ q=>q) fun _ _ q=>q;rintro rfl;rcases hc with rfl|hc
 ·rw[hC]at e;cases e
 ·rw[hC]at hc;cases hc
theorem zn3{E:XK}{μ:List Addr}{H:Hp}{σ:Sto}{n:Nat}{a:Addr}{y:D}{v:V}{Q:VK}(r:Rel T μ H σ)(hn:μ[n]?=some a)(hy:Rep T μ H y v)(h:yhb T E (Rep T) μ H (zrz (.ref n) [y] σ) Q):zs1 (.ref a) [v] H Q:=
 zfa E μ H σ (.ref n) [y] (.ref a) [v] Q r (by rw[Rep];exact⟨a,rfl,hn⟩) (yhh.cons hy yhh.nil) h
theorem zfv{α β:Type}{m m':M α}{k:α->M β}{σ:Sto}(h:m σ=m' σ):bnd m k σ=bnd m' k σ:=by unfold bnd;rw[h]
theorem zfu{α β γ:Type}{m:M α}{k:α->M β}{l:β->M γ}:bnd (bnd m k) l=bnd m fun a=>bnd (k a) l:=by
 funext σ;unfold bnd;cases m σ<;>rfl
theorem zrb{E:XK}{elt iter tgt:Expr}{ifs:List Expr}{scope:Scope}{pos:Pos}{x:Str}{M':List Str}{ix:List Nat}{tg:D->Ev->Option Ev}{fi:Ev->M Bool}{fe:Ev->M D}
  {pins:List (Addr × Obj)} {st:St} {H3:Hp} {s3:Shared} {h₁:Heap} {t':Nat} {m:Str->Option Value} {fp:List Addr} {it D0:Addr} {tn:Nat->Heap->Prop} {J:It} {nx:Src} {μ3:List Addr} {σ3:Sto} {ρ:Ev} {n:Nat} {Q:VK}
  (hc:X.calm=true) (L:LcOk X x M' ix scope)
  (htg:∀ cl C s₀ H₀ ex,FG T (blk X (x::M') scope cl C s₀ H₀ ex) tgt tg)
  (hif:∀ cl C s₀ H₀ ex,FIf T (blk X (x::M') scope cl C s₀ H₀ ex) ifs fi)
  (helt:∀ cl C s₀ H₀ ex,FE T (blk X (x::M') scope cl C s₀ H₀ ex) elt fe)
  (I3:Inv X pins st H3 s3) (hfp:∀ b∈fp,yg2 X pins H3 b/\b<s3.heap.objs.size) (hns:h₁.Ns s3.heap.objs.size m) (kp:∀ b o,s3.heap.get? b=some o->h₁.get? b=some o)
  (TT:Turn X.prog X.w X.K tgt J fp it tn) (hst4:tn 0 h₁) (so:ycf T μ3 H3 nx J) (hE:ygy T μ3 H3 ρ st) (r3:Rel T μ3 H3 σ3) (hn:μ3[n]?=some D0)
  (p3:yhb T E (Rep T) μ3 H3 (bnd (zyr nx n tg fi fe 1001 0 (ycm ix ρ)) (fun _=>ret (.ref n)) σ3) Q) {RR:Result->Shared->Prop}
  (fin:∀ (s6:Shared) (H':Hp) (m6:Str->Option Value),s6.heap.Ns s3.heap.objs.size m6->H' s3.heap.objs.size=none->Un (frs X.stack) fp H3 H' s3.heap s6.heap->s6.os=s3.os->HOk X.prog X.w H' s6.heap->AllBare s6.gens->Q (.ref D0) H'->RR (.ok .next) s6) :
  codeAny (model X.prog X.w) X.A (.compStart (.ListComp elt [⟨tgt,iter,ifs,0⟩] scope pos) 0 (.ref it) (.ref D0) (compEnvC scope (yh5 X.env scope.names []) s3.heap.objs.size X.env))
   RR { s3 with heap:=h₁,toks:=t' }:=by
 have I4:=zft (h':=h₁) (t':=t') I3 L hfp hns kp;let Y:Cx:=blk X (x::M') scope (yh5 X.env scope.names []) s3.heap.objs.size s3 H3 fp;have stat:∀ {H':Hp},(∀ b∈fp,H' b=none)->∀ b∈fp,yg2 Y [] H' b:=fun {H'} hn b hb=>⟨hn b hb,(I4.ok.exf b hb).1,I4.ok.exfs b hb,.inl hb,(I4.ok.exf b hb).2,fun p hp=>absurd (show p∈([]:List (Addr × Obj))from hp) (by simp)⟩
 have yi9:codeAny (model X.prog X.w) X.A (.compLoop (.ListComp elt [⟨tgt,iter,ifs,0⟩] scope pos) 0 (.ref it) (.ref D0) Y.env) RR { s3 with heap:=h₁,toks:=t' }:=by
  refine codeAny_loop rfl (fun k s'=>∃ i μ' H' σ' ρ' st',Inv Y [] st' H' s'/\tn i s'.heap/\(∀ b∈fp,H' b=none)/\Ext μ3 H3 μ' H'/\ygy T μ' H' ρ' st'/\Rel T μ' H' σ'/\
   yhb T E (Rep T) μ' H' (bnd (zyr nx n tg fi fe k i ρ') (fun _=>ret (.ref n)) σ') Q) ?_ 1001 ⟨0,μ3,H3,σ3,ycm ix ρ,ycn ix st,I4,hst4,fun b hb=>(hfp b hb).1.1,Ext.refl _ _,zoe ix hE,r3,p3⟩
  rintro k s' ⟨i,μ',H',σ',ρ',st',I',tn',fr',ex',hE',r',p'⟩;show wpAny _ X.A ((compTurn (.ListComp elt [⟨tgt,iter,ifs,0⟩] scope pos) 0 (.ref it) (.ref D0) Y.env).onRaise (fun x=>do noteFrame x Y.env;theTreesLotGoes x)) _ _ s';refine wpAny_noted ?_;rw[compTurn_list];refine wpAny_mono (E:=fun _ _=>False) ?_ (fun _ _ z=>z) (fun _ _ z=>z.elim);refine wpAny_bind (wpAny_standAt ?_);cases k with
  |zero=>exact p'.elim
  |succ k=>
   have so':=so μ' H' σ' i ex' r';cases en:nx.nx i σ' with
   |none=>
    have e1:zyr nx n tg fi fe (k+1) i ρ' σ'=.bad:=by unfold zyr;simp only[en]
    rw[zfv (m':=bad) e1]at p';exact p'.elim
   |some od=>
    rw[en]at so';cases od with
    |none=>
     have e1:zyr nx n tg fi fe (k+1) i ρ' σ'=.ok () σ':=by unfold zyr;simp only[en]
     rw[zfv (m':=ret ()) e1]at p';refine wpAny_bind (thn (TT.done Y rfl rfl rfl hc i [] s' st' H' (fun _ _=>False) I' (stat fr') tn' so') fun r s6 ⟨er,I6⟩=>?_);subst er;refine wpAny_pure ?_;obtain⟨m6,hm6,_⟩:=I6.loc;exact fin s6 H' m6 hm6 I6.free I6.base I6.os I6.hok I6.bare (yhb.here p' r' (by rw[Rep];exact⟨_,rfl,ex'.get hn⟩))
    |some d=>
     refine wpAny_bind (thn (TT.item Y rfl rfl rfl hc i [] s' st' H' (fun _ _=>False) I' (stat fr') tn' so'.1) fun r s6 ⟨u,er,h6⟩=>?_);subst er;refine wpAny_bind (thn h6 fun _ s7 ⟨xv,H7,I7,r7,y7,tn7,fr7⟩=>?_);obtain⟨eH,hd⟩:=so'.2 xv H7 y7;subst eH;cases et:tg d ρ' with
     |none=>
      have e1:zyr nx n tg fi fe (k+1) i ρ' σ'=.bad:=by unfold zyr;simp only[en,et]
      rw[zfv (m':=bad) e1]at p';exact p'.elim
     |some ρ1=>
      have e1:zyr nx n tg fi fe (k+1) i ρ' σ'=bnd (nox (fi ρ1)) (fun c=>if c=true then bnd (nox (fe ρ1)) fun y=>bnd (zrz (.ref n) [y]) fun _=>zyr nx n tg fi fe k (i+1) ρ1 else zyr nx n tg fi fe k (i+1) ρ1) σ':=by
       conv=>lhs;unfold zyr
       simp only[en,et]
      rw[zfv e1,zfu]at p';have I7':=I7.pinned (stat fr7) (TT.obj _ _ tn7);refine wpAny_bind (thn (htg _ _ _ _ _ _ s7 st' H7 xv u (fun st8 H8=>H8=H7/\ygy T μ' H7 ρ1 st8) I7' r7 ⟨μ',σ',ρ',d,ρ1,hE',r',hd,et,fun st8 hE8=>⟨rfl,hE8⟩⟩) fun _ s8 ⟨st8,H8,I8,eH8,hE8⟩=>?_);subst eH8;refine wpAny_bind (thn (hif _ _ _ _ _ _ s8 st8 H8 (fun c H9=>∃ μ9 σ9,Ext μ' H8 μ9 H9/\Rel T μ9 H9 σ9/\yhb T E (Rep T) μ9 H9 (bnd (if c=true then bnd (nox (fe ρ1)) fun y=>bnd (zrz (.ref n) [y]) fun _=>zyr nx n tg fi fe k (i+1) ρ1 else zyr nx n tg fi fe k (i+1) ρ1) (fun _=>ret (.ref n)) σ9) Q) I8
       ⟨μ',ρ1,σ',hE8,r',p'.bind0 fun c σ9 μ9 c' H9 _ e9 r9 q9 p9=>by cases q9;exact⟨μ9,σ9,e9,r9,p9⟩⟩) fun c s9 ⟨H9,I9,μ9,σ9,e9,r9,p9⟩=>?_)
      have again:∀ {s11:Shared} {H11:Hp} {μ11:List Addr} {σ11:Sto},Inv Y ([]++zz9 fp s7.heap) st8 H11 s11->Ext μ' H8 μ11 H11->Rel T μ11 H11 σ11->yhb T E (Rep T) μ11 H11 (bnd (zyr nx n tg fi fe k (i+1) ρ1) (fun _=>ret (.ref n)) σ11) Q->
        ∃ m,m<k+1/\∃ i μ' H' σ' ρ' st',Inv Y [] st' H' s11/\tn i s11.heap/\(∀ b∈fp,H' b=none)/\Ext μ3 H3 μ' H'/\ygy T μ' H' ρ' st'/\Rel T μ' H' σ'/\yhb T E (Rep T) μ' H' (bnd (zyr nx n tg fi fe m i ρ') (fun _=>ret (.ref n)) σ') Q:=by
       intro s11 H11 μ11 σ11 I11 e11 r11 p11;refine⟨k,Nat.lt_succ_self _,i+1,μ11,H11,σ11,ρ1,st8,I11.unpinned,TT.keep _ _ _ tn7 (fun b hb o e=>(I11.pin (b,o) (List.mem_append_right _ (List.mem_append_right _ (zeu hb e)))).1),fun b hb=>?_,ex'.trans e11,hE8.mono e11,r11,p11⟩;obtain⟨o,e,_⟩:=TT.obj _ _ tn7 b hb;exact(I11.pin (b,o) (List.mem_append_right _ (List.mem_append_right _ (zeu hb e)))).2.1
      cases c with
      |false=>
       rw[if_neg Bool.false_ne_true]at p9;exact wpAny_pure ⟨rfl,again I9 e9 r9 p9⟩
      |true=>
       rw[if_pos rfl,zfu]at p9;refine wpAny_bind (wpAny_bind (thn (helt _ _ _ _ _ _ s9 st8 H9 (fun v H10=>∃ y μ10 σ10,Ext μ' H8 μ10 H10/\Rel T μ10 H10 σ10/\Rep T μ10 H10 y v/\yhb T E (Rep T) μ10 H10 (bnd (zrz (.ref n) [y]) (fun _=>bnd (zyr nx n tg fi fe k (i+1) ρ1) (fun _=>ret (.ref n))) σ10) Q) I9
        ⟨μ9,ρ1,σ9,hE8.mono e9,r9,p9.bind0 fun y σ10 μ10 v H10 _ e10 r10 q10 p10=>⟨y,μ10,σ10,e9.trans e10,r10,q10,by rw[zfu]at p10;exact p10⟩⟩) fun w s10 ⟨v,H10,I10,rw10,y,μ10,σ10,e10,r10,q10,p10⟩=>?_))
       have happ:=zn3 (Q:=fun _ H11=>∃ μ11 σ11,Ext μ' H8 μ11 H11/\Rel T μ11 H11 σ11/\yhb T E (Rep T) μ11 H11 (bnd (zyr nx n tg fi fe k (i+1) ρ1) (fun _=>ret (.ref n)) σ11) Q) r10 ((ex'.trans e10).get hn) q10
        (p10.bind fun _ σ11 μ11 v11 H11 _ e11 r11 q11 p11=>⟨μ11,σ11,e10.trans e11,r11,p11⟩)
       refine wpAny_bind (thn (zg1 (X:=Y) _ s10 st8 H10 (.ref D0) [v] (.ref D0) [w] _ I10 rfl (.cons rw10 .nil) happ) fun _ s11 ⟨v11,H11,I11,_,μ11,σ11,e11,r11,p11⟩=>?_);exact wpAny_pure (wpAny_pure ⟨rfl,again I11 e11 r11 p11⟩)
 exact codeAny_compStart_list yi9 (TT.self X.A 0 _ _ _ hst4 yi9)
theorem ydf{elt iter tgt:Expr}{ifs:List Expr}{scope:Scope}{pos:Pos}{x:Str}{M':List Str}{ix:List Nat}{src:Ev->M Src}{tg:D->Ev->Option Ev}{fi:Ev->M Bool}{fe:Ev->M D}
  (hc:X.calm=true) (L:LcOk X x M' ix scope) (hsrc:FI T X tgt iter src)
  (htg:∀ cl C s₀ H₀ ex,FG T (blk X (x::M') scope cl C s₀ H₀ ex) tgt tg)
  (hif:∀ cl C s₀ H₀ ex,FIf T (blk X (x::M') scope cl C s₀ H₀ ex) ifs fi)
  (helt:∀ cl C s₀ H₀ ex,FE T (blk X (x::M') scope cl C s₀ H₀ ex) elt fe)
  (hs:∀ y,foldedSetIterable iter X.env y=pure y:=by intro _;rfl) :
  FE T X (.ListComp elt [⟨tgt,iter,ifs,0⟩] scope pos) (eLC src ix tg fi fe):=by
 intro pins s st H Q I h;obtain⟨μ,ρ,σ,hE,hr,hp⟩:=h;rw[eval_ListComp];refine wpAny_comprehension_free (use:=none) rfl hs (zee X.env scope (zor I L)) L.kind (fun y hy e=>?_) ?_
 ·have q:=List.all_eq_true.mp L.names y hy;rw[e]at q;simp only[beq_self_eq_true,Bool.not_true,Bool.false_or]at q;exact eq_of_beq q
 have h1:=hsrc pins s st H (fun J H2=>∃ nx μ2 σ2,Ext μ H μ2 H2/\Rel T μ2 H2 σ2/\ycf T μ2 H2 nx J/\yhb T (XE X st) (Rep T) μ2 H2 (bnd (zyr nx σ2.length tg fi fe 1001 0 (ycm ix ρ)) (fun _=>ret (.ref σ2.length)) (σ2++[Ob.lst []])) Q) I
  ⟨μ,ρ,σ,hE,hr,hp.bind fun nx σ1 μ1 J H1 _ e1 r1 q1 p1=>⟨nx,μ1,σ1,e1,r1,q1,p1⟩⟩
 refine thn h1 fun v s1 h2=>thn h2 fun itv s2 h3=>?_;obtain⟨it,fp,tn,J,H2,rfl,I2,TT,st2,f2,nx,μ2,σ2,ex2,r2,so,p2⟩:=h3;refine wpAny_newObj_type (wpAny_newFunctionEnv (zy4 L) (by intro y hy;simp at hy) (fun h₁ hns₁ hsb₁=>?_) L.kind);have I3:=I2.lnew (ys:=[]) (its:=[]) (t':=s2.toks) .nil (by simp);have fr2:H2 s2.heap.objs.size=none:=I2.hok.fresh (Nat.le_refl _);have r3:=r2.push (p:=s2.heap.objs.size) (o:=.lst []) (ob:=.lst []) fr2 ⟨[],zne,yhh.nil⟩;have ex3:Ext μ2 H2 (μ2++[s2.heap.objs.size]) (upd H2 s2.heap.objs.size (.lst [])):=zje fr2;have hsz:s2.heap.objs.size<(s2.heap.push { cls:=.type "list",data:=.seq ([]:List Value).toArray }).objs.size:=by rw[Heap.size_push];exact Nat.lt_succ_self _
 have kp:∀ b o,(s2.heap.push { cls:=.type "list",data:=.seq ([]:List Value).toArray }).get? b=some o->h₁.get? b=some o:=fun b o e=>hsb₁.extBut b o (Nat.ne_of_lt (Heap.lt_size e)) (Heap.get?_push_of_some _ e);have hfp:∀ b∈fp,yg2 X pins (upd H2 s2.heap.objs.size (.lst [])) b/\b<(s2.heap.push { cls:=.type "list",data:=.seq ([]:List Value).toArray }).objs.size:=fun b hb=>by
  obtain⟨o,e,_⟩:=TT.obj 0 _ st2 b hb;have lt:=Heap.lt_size e;exact⟨⟨by rw[yby (Nat.ne_of_lt lt)];exact(f2 b hb).1,(f2 b hb).2⟩,Nat.lt_trans lt hsz⟩
 refine zrb (s3:={ s2 with heap:=s2.heap.push { cls:=.type "list",data:=.seq ([]:List Value).toArray },toks:=s2.toks }) (n:=σ2.length) (D0:=s2.heap.objs.size) hc L htg hif helt I3 hfp hns₁ kp TT (TT.keep 0 _ _ st2 fun b hb o e=>kp b o (Heap.get?_push_of_some _ e))
  (fun μ H σ i ex r=>so μ H σ i (ex3.trans ex) r) ((hE.mono ex2).mono ex3) r3 (by rw[<-r2.len];simp) (p2.mono ex3) (fun s6 H' m6 hm6 hC' hu0 hos hok6 hb6 hq=>⟨m6,hm6,fun h7 hs7=>?_⟩)
 have hu:=zu1 hu0 hs7 (Nat.le_refl _);have I7:=L2.Inv.call' (s':={ s6 with heap:=h7 }) (ch:=fp) I3 hos hu (zkg hok6 hs7 hC') hb6 (fun b hb=>⟨(hfp b hb).1.2.2.2.1,(hfp b hb).1.2.1,(hfp b hb).1.2.2.2.2.1,(hfp b hb).1.2.2.2.2.2⟩);exact⟨.ref s2.heap.objs.size,H',I7,rfl,hq⟩
theorem zj2{elt iter tgt:Expr}{ifs:List Expr}{scope:Scope}{pos spos py:Pos}{x y:Str}{i:Nat}{M':List Str}{ix:List Nat}{src:Ev->M Src}{tg:D->Ev->Option Ev}{fi:Ev->M Bool}{fe:Ev->M D}
  (hN:X.N.Nodup) (hi:X.N[i]?=some y) (hx:Loc X.env.scope y)
  (hc:X.calm=true) (L:LcOk X x M' ix scope) (hsrc:FI T X tgt iter src)
  (htg:∀ cl C s₀ H₀ ex,FG T (blk X (x::M') scope cl C s₀ H₀ ex) tgt tg)
  (hif:∀ cl C s₀ H₀ ex,FIf T (blk X (x::M') scope cl C s₀ H₀ ex) ifs fi)
  (helt:∀ cl C s₀ H₀ ex,FE T (blk X (x::M') scope cl C s₀ H₀ ex) elt fe)
  (hs:∀ y,foldedSetIterable iter X.env y=pure y:=by intro _;rfl)
  (hsw:swapsWith (.ListComp elt [⟨tgt,iter,ifs,0⟩] scope pos) (some (.Name y py)) spos.line X.env=pure true:=by rfl)
  (hf:X.fn y=true\/X.env.scope.names.lookup y=some .local:=by first|exact .inl rfl|exact .inr rfl|assumption) :
  FS T X (.Assign [.Name y py] (.ListComp elt [⟨tgt,iter,ifs,0⟩] scope pos) spos) (ykr i (eLC src ix tg fi fe)):=by
 intro pins s st H D I h;obtain⟨μ,ρ,σ,hE,hr,hp0⟩:=h;have hp:yhb T (XE X st) (Rep T) μ H (eLC src ix tg fi fe ρ σ) (fun v H1=>D.nx (st.set i (some v)) H1):=hp0.xs hE fun d σ1 μ1 v H1 _ e1 r1 q1 p1=>yhb.here (g:=Gl2.nx (st.set i (some v))) p1 r1 ((hE.mono e1).set i q1);rw[exec_Assign_Name_used _ _ _ _ hsw];refine wpAny_bind (wpAny_standAt (wpAny_bind ?_));show wpAny _ X.A (do let _ <-comprehension (.ListComp elt [⟨tgt,iter,ifs,0⟩] scope pos) scope X.env _ (newList []) false (eval iter X.env) (some (assign (.Name y py) X.env))) _ _ s;refine wpAny_bind (wpAny_mono (wpAny_comprehension_free (use:=some (assign (.Name y py) X.env)) (Q:=fun _ s'=>SP X pins D .next s') rfl hs (zee X.env scope (zor I L)) L.kind (fun y hy e=>?_)
  ?_) (fun _ s' hq=>wpAny_pure (wpAny_pure hq)) fun _ _ e=>e)
 ·have q:=List.all_eq_true.mp L.names y hy;rw[e]at q;simp only[beq_self_eq_true,Bool.not_true,Bool.false_or]at q;exact eq_of_beq q
 have h1:=hsrc pins s st H (fun J H2=>∃ nx μ2 σ2,Ext μ H μ2 H2/\Rel T μ2 H2 σ2/\ycf T μ2 H2 nx J/\yhb T (XE X st) (Rep T) μ2 H2 (bnd (zyr nx σ2.length tg fi fe 1001 0 (ycm ix ρ)) (fun _=>ret (.ref σ2.length)) (σ2++[Ob.lst []])) (fun v H1=>D.nx (st.set i (some v)) H1)) I
  ⟨μ,ρ,σ,hE,hr,hp.bind fun nx σ1 μ1 J H1 _ e1 r1 q1 p1=>⟨nx,μ1,σ1,e1,r1,q1,p1⟩⟩
 refine thn h1 fun v s1 h2=>thn h2 fun itv s2 h3=>?_;obtain⟨it,fp,tn,J,H2,rfl,I2,TT,st2,f2,nx,μ2,σ2,ex2,r2,so,p2⟩:=h3;refine wpAny_newObj_type (wpAny_newFunctionEnv (zy4 L) (by intro y hy;simp at hy) (fun h₁ hns₁ hsb₁=>?_) L.kind);have I3:=I2.lnew (ys:=[]) (its:=[]) (t':=s2.toks) .nil (by simp);have fr2:H2 s2.heap.objs.size=none:=I2.hok.fresh (Nat.le_refl _);have r3:=r2.push (p:=s2.heap.objs.size) (o:=.lst []) (ob:=.lst []) fr2 ⟨[],zne,yhh.nil⟩;have ex3:Ext μ2 H2 (μ2++[s2.heap.objs.size]) (upd H2 s2.heap.objs.size (.lst [])):=zje fr2;have hsz:s2.heap.objs.size<(s2.heap.push { cls:=.type "list",data:=.seq ([]:List Value).toArray }).objs.size:=by rw[Heap.size_push];exact Nat.lt_succ_self _
 have kp:∀ b o,(s2.heap.push { cls:=.type "list",data:=.seq ([]:List Value).toArray }).get? b=some o->h₁.get? b=some o:=fun b o e=>hsb₁.extBut b o (Nat.ne_of_lt (Heap.lt_size e)) (Heap.get?_push_of_some _ e);have hfp:∀ b∈fp,yg2 X pins (upd H2 s2.heap.objs.size (.lst [])) b/\b<(s2.heap.push { cls:=.type "list",data:=.seq ([]:List Value).toArray }).objs.size:=fun b hb=>by
  obtain⟨o,e,_⟩:=TT.obj 0 _ st2 b hb;have lt:=Heap.lt_size e;exact⟨⟨by rw[yby (Nat.ne_of_lt lt)];exact(f2 b hb).1,(f2 b hb).2⟩,Nat.lt_trans lt hsz⟩
 refine zrb (s3:={ s2 with heap:=s2.heap.push { cls:=.type "list",data:=.seq ([]:List Value).toArray },toks:=s2.toks }) (n:=σ2.length) (D0:=s2.heap.objs.size) hc L htg hif helt I3 hfp hns₁ kp TT (TT.keep 0 _ _ st2 fun b hb o e=>kp b o (Heap.get?_push_of_some _ e))
  (fun μ H σ i ex r=>so μ H σ i (ex3.trans ex) r) ((hE.mono ex2).mono ex3) r3 (by rw[<-r2.len];simp) (p2.mono ex3) (fun s6 H' m6 hm6 hC' hu0 hos hok6 hb6 hq=>?_)
 have I6:=L2.Inv.call' (s':=s6) (ch:=fp) I3 hos hu0 hok6 hb6 (fun b hb=>⟨(hfp b hb).1.2.2.2.1,(hfp b hb).1.2.1,(hfp b hb).1.2.2.2.2.1,(hfp b hb).1.2.2.2.2.2⟩);have ltL:X.env.locals<(s2.heap.push { cls:=.type "list",data:=.seq ([]:List Value).toArray }).objs.size:=I3.lt;have ltC:∀ z c,X.env.cells.lookup z=some c->c<(s2.heap.push { cls:=.type "list",data:=.seq ([]:List Value).toArray }).objs.size:=fun z c e=>by
  obtain⟨v,q⟩:=I3.cell z c e;exact q.lt
 show wpAny _ X.A (assign (.Name y py) X.env (.ref s2.heap.objs.size)) _ _ s6;refine wpAny_assign_Name (zhy (v:=.ref s2.heap.objs.size) I6 hN hi hx rfl (fun s7 I7 ⟨a,sb,ha⟩=>?_) hf);have neC:a≠(s2.heap.push { cls:=.type "list",data:=.seq ([]:List Value).toArray }).objs.size:=by
  rcases ha with rfl|ha
  ·exact Nat.ne_of_lt ltL
  ·exact Nat.ne_of_lt (ltC _ _ ha)
 refine⟨m6,hm6.sameBut sb (Ne.symm neC),fun h8 hs8=>?_⟩;refine⟨st.set i (some (.ref s2.heap.objs.size)),H',?_,hq⟩;exact I7.turned (t':=s7.toks) (it:=(s2.heap.push { cls:=.type "list",data:=.seq ([]:List Value).toArray }).objs.size) (fun b o hb e=>(hs8.2 b hb).trans e) hC' (Nat.ne_of_gt ltL) (.inr (Nat.le_trans I3.sz (Nat.le_refl _))) (fun z c e=>Nat.ne_of_lt (ltC z c e)) (fun p hp=>Nat.ne_of_lt (Heap.lt_size (I3.pin p hp).1))
end
def yex(x y:D):M D:=fun σ=>match yja σ x,yja σ y with
 |some xs,some ys=>if xs.length+ys.length<=cap then .ok (.lst (xs++ys)) σ else .bad
 |_,_=>.bad
def yjg(x y:D):M D:=match x,y with
 | .int i,.int j=>ret (.int (i+j))
 | .tup xs,.tup ys=>if xs.length+ys.length<=cap then ret (.tup (xs++ys))else bad
 | .str a,.str b=>if a.length+b.length<=100000 then ret (.str (a++b))else bad
 |x,y=>yex x y
theorem zhz{n:Nat}(h:n<=100000):n<=sizeLine:=Nat.le_trans h (by decide)
section
variable{T:Tb}{X:Cx}{a b c:Expr}{fa fb fc:Ev->M D}{pos:Pos}
theorem zim{prog:Program}{w:World}{A:Around}{F:Value->Shared->Prop}{s:Shared}{t b:Addr}{ws:List Value}{Q:Value->Shared->Prop}(ht:IsTup s.heap t (#[]:Array Value))(hb:IsTup s.heap b ws.toArray)(h1:Q (.ref b) s):wpAny (model prog w) A (binaryOp .Add (.ref t) (.ref b)) Q F s:=by
 obtain⟨⟨cls,dd,data,sl⟩,ho,hc,n,hd⟩:=id ht;obtain⟨⟨cls2,dd2,data2,sl2⟩,ho2,hc2,n2,hd2⟩:=id hb;simp only at hc hd hc2 hd2;subst hc hd hc2 hd2;exact concat_meets ⟨_,ho,rfl⟩ ⟨_,ho2,rfl⟩ noFill_tuple_add seq_tuple_add PySem.F.slot_tuple_add PySem.F.entry_tuple_add (PySem.F.args_tuple_add_2 _ _)
  (tuple_addW0 t b #[] ws.toArray n n2 dd dd2 sl sl2 rfl) ⟨ho,ho2,h1⟩
theorem zid{E:XK}{μ:List Addr}{H:Hp}{σ:Sto}{x y:D}{v u:V}{v' u':Value}{Q:VK}{pins:List (Addr × Obj)}{s:Shared}{st:St}(I:Inv X pins st H s)(rv:yhe v v')(ru:yhe u u')(r:Rel T μ H σ)(hx:Rep T μ H x v)(hy:Rep T μ H y u)(hp:yhb T E (Rep T) μ H (yex x y σ) Q) :
  wpAny (model X.prog X.w) X.A (binaryOp .Add v' u') (EP X pins st Q) X.xe s:=by
 unfold yex at hp;cases e1:yja σ x with
 |none=>rw[e1]at hp;exact hp.elim
 |some xs=>
  cases e2:yja σ y with
  |none=>rw[e1,e2]at hp;exact hp.elim
  |some ys=>
   rw[e1,e2]at hp;dsimp only at hp;by_cases hc:xs.length+ys.length<=cap
   ·rw[if_pos hc]at hp;obtain⟨p,vs,rfl,h1,h2⟩:=r.ls hx e1;obtain⟨q,ws,rfl,h3,h4⟩:=r.ls hy e2;exact zzk pins s st H _ _ v' u' Q I rv ru ⟨p,q,vs,ws,rfl,rfl,h1,h3,by rw[<-h2.length,<-h4.length];exact zv1 hc,fun l hl=>zy3 hp r (yhh.append h2 h4) hl⟩
   ·rw[if_neg hc]at hp;exact hp.elim
theorem zse(hK:T.K=X.K):OpR X (binaryOp .Add) (rD T yjg):=by
 intro pins s st H v u v' u' Q I rv ru h;obtain⟨E,μ,σ,x,y,r,hx,hy,hp⟩:=h;cases x with
 |int i=>
  cases y with
  |int j=>exact zzj pins s st H v u v' u' Q I rv ru ⟨i,j,zyb hx,zyb hy,yhb.here hp r (by rw[Rep])⟩
  |_=>exact zid I rv ru r hx hy hp
 |str a=>
  cases y with
  |str b=>
   unfold yjg at hp;dsimp only at hp;by_cases hc:a.length+b.length<=100000
   ·rw[if_pos hc]at hp;exact zew pins s st H v u v' u' Q I rv ru ⟨a,b,by simpa [Rep]using hx,by simpa [Rep]using hy,zhz hc,yhb.here hp r (by rw[Rep])⟩
   ·rw[if_neg hc]at hp;exact hp.elim
  |_=>exact zid I rv ru r hx hy hp
 |tup xs=>
  cases y with
  |tup ys=>
   unfold yjg at hp;dsimp only at hp;by_cases hc:xs.length+ys.length<=cap
   ·rw[if_pos hc]at hp;have hx0:=hx;have hy0:=hy;rw[Rep]at hx hy;obtain⟨p,vs,rfl,h1,h2⟩:=hx;obtain⟨q,ws,rfl,h3,h4⟩:=hy;cases vs with
    |nil=>
     have e0:xs=[]:=by have:=h2.length;simpa using this
     subst e0;cases rv;cases ru;obtain⟨its,q1,t1,_⟩:=L2.Inv.tuple I (SqT.of (K:=X.K) h1);obtain⟨its2,q2,t2,_⟩:=L2.Inv.tuple I (SqT.of (K:=X.K) h3);cases q1;exact zim t1 t2 ⟨.ref q,H,I,rfl,yhb.here hp r (by simpa using hy0)⟩
    |cons v0 vr=>
     refine zsf pins s st H _ _ v' u' Q I rv ru ⟨p,q,_,ws,rfl,rfl,SqT.of h1,SqT.of h3,by simp,?_,fun e=>?_,fun e l hl=>?_⟩
     ·rw[<-h2.length,<-h4.length];exact zv1 hc
     ·subst e;have e0:ys=[]:=by have:=h4.length;simpa using this
      subst e0;exact yhb.here hp r (by simpa using hx0)
     ·exact zrx hp r (yhh.append h2 h4) hl
   ·rw[if_neg hc]at hp;exact hp.elim
  |_=>exact zid I rv ru r hx hy hp
 |_=>exact zid I rv ru r hx hy hp
def zv4(o':D->D->M D)(c:M D)(y:D):D->M D:=ygh (ifK (bnd c (o' y)) (ret (.bl false)))
def zv5(o o':D->D->M D)(c:M D)(x y:D):M D:=bnd (o x y) (zv4 o' c y)
def zv3(o o':D->D->M D)(b c:M D)(x:D):M D:=bnd b (zv5 o o' c x)
def zwn(o o':D->D->M D)(a b c:Ev->M D):Ev->M D:=fun ρ=>bnd (a ρ) (zv3 o o' (b ρ) (c ρ))
theorem hu9{k:Nat}{A:Around}(hr:Room k A):A.units+9<cLine:=by have:=hr.un;omega
end
def yb6(K:PySem.W.Frag)(mg:Str->Option Value)(x:Str)(st:Stmt)(ps:List Str):Prop:=
 ∃ f fd,mg x=some (.ref f)/\Fun K x x st f fd/\∀ us:List Value,us.length=ps.length->bindArgs fd ⟨us,[]⟩=pure (ps.zip us)
def OkF(T:Tb)(P:Program)(w:World)(mg:Str->Option Value)(base:Heap)(k:Nat)(x:Str)(ps:List Str)(fn:List D->M D):Prop:=
 ∃ f fd,mg x=some (.ref f)/\PySem.W.keepIn T.K (.ref f)=true/\(∀ us:List Value,us.length=ps.length->bindArgs fd ⟨us,[]⟩=pure (ps.zip us))/\FnOk P w T.K mg base (CXE P w) k f fd ps (spF T ps.length fn)
section
variable{T:Tb}{X:Cx}
theorem zjg{k:Nat}{ps:List Str}{fn:List D->M D}{x:Str}{p pos:Pos}{e:Expr}{es:List Expr}{fs:Ev->M (List D)}(h:OkF T X.prog X.w X.mg X.base k x ps fn)(hK:T.K=X.K)(hr:Room k X.A)(hg:Gl X x)
  (ha:FA T X (e::es) fs) (hdb:(x == ("__debug__" : Str))=false:=by decide) (he:starEach (e::es) X.env=(false,eval e X.env)::starEach es X.env:=by rfl) (hpl:(backTo pos (starEach es X.env)).any (·.1)=false:=by rfl) :
  FE T X (.Call (.Name x p) (e::es) [] pos) (eFn ps.length fn [] fs):=by
 obtain⟨f,fd,hm,hk,hb,hF⟩:=h;rw[hK]at hk hF;exact zpi (dds:=[]) (dvs:=[]) hF hr hg hm hk (.all hb) .nil (fun _ _=>yhh.nil) ha hdb he hpl
variable{P:Program}{w:World}{K:PySem.W.Frag}{mg:Str->Option Value}{base:Heap}{ca:Nat->Addr}{tx:Tx}
theorem yfa{k:Nat}{x:Str}{st:Stmt}{ps N:List Str}{g:Ev->M Fl}(h:yb6 K mg x st ps)(S:FnScope N ps (ziy st))
  (hb:∀ (f:Addr) (cdv:Value) (A:Around) (outer:List Env) (s:Shared) (H:Hp) (E:XK),Room k (A.deeper (envOfC x (ziy st) s.heap.objs.size f cdv))->FSs ⟨K,ca,tx⟩ (yh9 (CXE P w) P w K mg base N x (ziy st) f cdv A outer s H E) (zo4 st) g) :
  OkF ⟨K,ca,tx⟩ P w mg base (k+1) x ps (run N.length g):=by
 obtain⟨f,fd,hm,F,hbd⟩:=h;obtain⟨oc,od,kV,doc,pm,an,cdv,ct,osl,rfl,lk,hcd⟩:=F.ex;exact⟨f,_,hm,F.kp,hbd,fok lk hcd S (hb f cdv)⟩
theorem OkF.frz{k:Nat}{x:Str}{ps:List Str}{fn:List D->M D}(h:OkF T P w mg base k x ps fn):OkF T P w mg base k x ps (fun ds=>L4.frz (fn ds)):=by
 obtain⟨f,fd,h1,h2,h3,h4⟩:=h;exact⟨f,fd,h1,h2,h3,zpx h4⟩
theorem mkF{h:Heap}{x:Str}{st:Stmt}{ps:List Str}{f:Addr}{oc:Value}{od an:Option Addr}{osl:Array (Option Value)}{kV doc pm cdv ct:Value}(X:K.In h)(G:h.Ns mainGlobals mg)
  (hb:∀ (kV doc pm:Value) (an:Option Addr) (cdv ct:Value) (us:List Value),us.length=ps.length->bindArgs (PySem.W.fnOf x x (zo3 st) (zo4 st) (ziy st) .none kV doc pm an cdv ct) ⟨us,[]⟩=pure (ps.zip us))
  (a:PySem.W.nsIn K mainGlobals x=some (some (.ref f))) (l:K.lookup f=some ⟨oc,od,.func (PySem.W.fnOf x x (zo3 st) (zo4 st) (ziy st) .none kV doc pm an cdv ct),osl⟩)
  (c:PySem.W.codeIn K cdv x=true) (k:PySem.W.keepIn K (.ref f)=true):yb6 K mg x st ps:=
 ⟨f,_,PySem.W.mg_of X G a,zxz l c k,hb kV doc pm an cdv ct⟩
end
def OkL(T:Tb)(P:Program)(w:World)(mg:Str->Option Value)(k:Nat)(x:Str)(ps:List Str)(fn:List D->M D):Prop:=
 ∃ f fd,mg x=some (.ref f)/\(∀ us:List Value,us.length=ps.length->bindArgs fd ⟨us,[]⟩=pure (ps.zip us))/\∀ base:Heap,FnOk P w T.K mg base (CXE P w) k f fd ps (spF T ps.length fn)
theorem zzi{P:Program}{w:World}{K:PySem.W.Frag}{mg:Str->Option Value}{ca:Nat->Addr}{tx:Tx}{k:Nat}{x:Str}{st:Stmt}{ps N:List Str}{g:Ev->M Fl}(h:yb6 K mg x st ps)(S:FnScope N ps (ziy st))
  (hb:∀ (base:Heap) (f:Addr) (cdv:Value) (A:Around) (outer:List Env) (s:Shared) (H:Hp) (E:XK),Room k (A.deeper (envOfC x (ziy st) s.heap.objs.size f cdv))->FSs ⟨K,ca,tx⟩ (yh9 (CXE P w) P w K mg base N x (ziy st) f cdv A outer s H E) (zo4 st) g) :
  OkL ⟨K,ca,tx⟩ P w mg (k+1) x ps (run N.length g):=by
 obtain⟨f,fd,hm,F,hbd⟩:=h;obtain⟨oc,od,kV,doc,pm,an,cdv,ct,osl,rfl,lk,hcd⟩:=F.ex;exact⟨f,_,hm,hbd,fun base=>fok lk hcd S (hb base f cdv)⟩
section
variable{T:Tb}{X:Cx}
end
structure Hd where
 t:Nat->Option Bool
 nm:Option Nat
 g:Ev->M Fl
def ylk(i:Nat):Fl->M Fl
 | .nx ρ=>ret (.nx (ρ.set i none))
 | .rt d=>ret (.rt d)
 | .bk ρ=>ret (.bk (ρ.set i none))
 | .ct ρ=>ret (.ct (ρ.set i none))
 | .xc _ _=>bad
def noF:Fl->M Fl
 | .nx ρ=>ret (.nx ρ)
 | .rt d=>ret (.rt d)
 | .bk ρ=>ret (.bk ρ)
 | .ct ρ=>ret (.ct ρ)
 | .xc _ _=>bad
def hit(h:Hd)(ρ:Ev)(x:Xn):M Fl:=match h.nm with
 |none=>bnd (h.g ρ) noF
 |some i=>bnd (h.g (ρ.set i (some (.exn x.cls)))) (ylk i)
abbrev Cx.inH(X:Cx)(e:Value):Cx:={ X with A:=X.A.mark (some e),calm:=false,xe:=fun _ _=>False }
abbrev Cx.inT(X:Cx)(pins:List (Addr × Obj))(xe:Value->Shared->Prop):Cx:={ X with xe:=xe,pn:=X.pn++pins }
section
variable{T:Tb}{X:Cx}{pins:List (Addr × Obj)}{st:St}{H:Hp}{s:Shared}{e:Value}{xe:Value->Shared->Prop}
end
def Lnd(X:Cx)(pins:List (Addr × Obj))(st:St)(H:Hp)(s:Shared)(ea:Addr)(cls:Value)(fd:Option Nat):Prop:=∃ H0 s0,Inv X pins st H0 s0/\Fly X.prog X.w X.stack H0 s0 cls fd H (.ref ea) s
section
variable{T:Tb}{X:Cx}{pins:List (Addr × Obj)}{st:St}{H:Hp}{s:Shared}{ea:Addr}{cls:Value}{fd:Option Nat}
theorem Lnd.next(L:Lnd X pins st H s ea cls fd){M:Model}{A:Around}{E:Value->Shared->Prop}{Q:Unit->Shared->Prop}(h:∀ s',Lnd X pins st H s' ea cls fd->Q () s'):wpAny M A (setFlight (.ref ea) none) Q E s:=by
 obtain⟨H0,s0,I,F⟩:=L;obtain⟨ea',a0,B,e,fl,hn,hnew,hT,hB,hA,hF⟩:=F.ex;cases e;refine zq8 fl fun h6 fl6 sl6 dk6=>h _ ?_;obtain⟨un,hok⟩:=zxk F hB hT hA fl.1 fl6.1 sl6 (zei I);exact⟨H0,s0,I,⟨ea,a0,B,rfl,fl6,hn,hnew,hT,hB,hA,hF.next dk6 (let ⟨o,e,_⟩:=fl6.there;⟨o,e⟩)⟩,F.os,F.bare,un,hok⟩
theorem Lnd.obj(L:Lnd X pins st H s ea cls fd):H ea=none/\(∃ o,s.heap.get? ea=some o/\o.cls=cls)/\∃ s0:Shared,s0.heap.get? ea=none/\∃ H0,Inv X pins st H0 s0:=by
 obtain⟨H0,s0,I,F⟩:=L;obtain⟨ea',a0,B,e,fl,hn,hnew,hT,hB,hA,hF⟩:=F.ex;cases e;exact⟨hn,fl.there,s0,hnew,H0,I⟩
end
def yb7(X:Cx)(x:Str)(cv:Value):Prop:=X.mg x=some cv\/(X.mg x=none/\bootBuiltins x=some cv/\x ≠ "__name__")
inductive FHs(T:Tb)(X:Cx):List ExceptHandler->List Hd->Prop where
 |nil:FHs T X [] []
 |cons {x:Str} {np pos:Pos} {cv:Value} {b₀:Stmt} {suite:List Stmt} {t:Nat->Option Bool} {g:Ev->M Fl} {r:List ExceptHandler} {hs:List Hd} (hg:Gl X x) (hd:(x == ("__debug__" : Str))=false) (hm:yb7 X x cv) (ht:∀ c b,t c=some b->PySem.W.exmOne X.K (.ref (T.ca c)) cv=some b)
   (hb:∀ e,FSs T (Cx.inH X e) (b₀::suite) g) (hr:FHs T X r hs):FHs T X (.ExceptHandler (some (.Name x np)) none (b₀::suite) pos::r) (⟨t,none,g⟩::hs)
 |consAs {x n:Str} {i:Nat} {np pos:Pos} {cv:Value} {b₀:Stmt} {suite:List Stmt} {t:Nat->Option Bool} {g:Ev->M Fl} {r:List ExceptHandler} {hs:List Hd} (hg:Gl X x) (hd:(x == ("__debug__" : Str))=false) (hm:yb7 X x cv) (ht:∀ c b,t c=some b->PySem.W.exmOne X.K (.ref (T.ca c)) cv=some b)
   (hN:X.N.Nodup) (hi:X.N[i]?=some n) (hl:X.env.scope.names.lookup n=some .local)
   (hb:∀ e,FSs T (Cx.inH X e) (b₀::suite) g) (hr:FHs T X r hs):FHs T X (.ExceptHandler (some (.Name x np)) (some n) (b₀::suite) pos::r) (⟨t,some i,g⟩::hs)
section
variable{T:Tb}{X:Cx}
end
theorem zp8{T:Tb}{X:Cx}{stm:Stmt}{i:Nat}{f:Ev->M D}(h:FS T X stm (ykr i f)):FS T X stm (ykr i (yie f)):=by
 intro pins s st H D I hw;obtain⟨μ,ρ,σ,hE,hr,hp⟩:=hw;refine h pins s st H D I ⟨μ,ρ,σ,hE,hr,?_⟩;have hp':yhb T EN (RFl T) μ H (xs ρ (frz (f ρ)) (ykt i ρ) σ) (ygz X D):=hp;show yhb T EN (RFl T) μ H (xs ρ (f ρ) (ykt i ρ) σ) (ygz X D);unfold xs frz at hp';unfold xs;cases e:f ρ σ with
 |bad=>rw[e]at hp';exact hp'
 |ex x σ1=>
  rw[e]at hp';unfold yir at hp';dsimp only at hp' ⊢;by_cases ht:σ1.take σ.length=σ
  ·rw[if_pos ht]at hp';intro μ1 gl H1 e1 r1 q1;cases gl with
   |xc st1 c1 fd1=>
    obtain⟨r2,e2⟩:=Rel.down hr r1 e1 ht;obtain⟨qE,qc⟩:=q1;refine hp' μ (.xc st1 c1 fd1) H1 e2 r2 ⟨⟨qE.1,fun j d ej=>?_⟩,qc⟩;obtain⟨v,h1,h2⟩:=qE.2 j d ej;obtain⟨v0,_,h4⟩:=hE.2 j d ej;exact⟨v,h1,Rep.down e1.pre d v0 v h4 h2⟩
   |_=>exact q1.elim
  ·rw[if_neg ht]at hp';exact hp'.elim
 |ok d σ1=>
  rw[e]at hp';unfold yir at hp';dsimp only at hp' ⊢;by_cases ht:σ1.take σ.length=σ
  ·rw[if_pos ht]at hp';cases ef:fz σ.length σ1 6 d with
   |none=>rw[ef]at hp';exact hp'.elim
   |some d'=>
    rw[ef]at hp';intro μ1 gl H1 e1 r1 q1;cases gl with
    |nx st1=>
     obtain⟨r2,e2⟩:=Rel.down hr r1 e1 ht;have q1':ygy T μ1 H1 (ρ.set i (some d)) st1:=q1;refine hp' μ (.nx st1) H1 e2 r2 ⟨by simpa using q1'.1,fun j x ej=>?_⟩;rw[List.getElem?_set]at ej;by_cases hj:i=j
     ·subst hj;rw[if_pos rfl]at ej;split at ej
      ·rename_i hl
       cases ej;obtain⟨v,h1,h2⟩:=q1'.2 i d (by rw[List.getElem?_set,if_pos rfl,if_pos hl]);exact⟨v,h1,zx2 e1.pre r1 6 d d' v (by rw[hr.len];exact ef) h2⟩
      ·cases ej
     ·rw[if_neg hj]at ej;obtain⟨v,h1,h2⟩:=q1'.2 j x (by rw[List.getElem?_set,if_neg hj];exact ej);obtain⟨v0,_,h4⟩:=hE.2 j x ej;exact⟨v,h1,Rep.down e1.pre x v0 v h4 h2⟩
    |_=>exact q1.elim
  ·rw[if_neg ht]at hp';exact hp'.elim
def yco:List D->Option (List Bool)
 |[]=>some []
 | .bl b::r=>(yco r).map (b::·)
 |_::_=>none
def zyc:List D->Option (List Int)
 |[]=>some []
 | .int b::r=>(zyc r).map (b::·)
 |_::_=>none
theorem zkk{T:Tb}{μ:List Addr}{H:Hp}:∀ {ds:List D} {vs:List V} {bs:List Int},yhh T μ H ds vs->zyc ds=some bs->vs=bs.map V.int
 |[],vs,bs,r,h=>by cases h;rw[yhh]at r;exact r
 |d::ds,vs,bs,r,h=>by
  rw[yhh]at r;obtain⟨v,w,rfl,h1,h2⟩:=r;cases d with
  |int b=>
   obtain⟨cs,e1,e2⟩:=Option.map_eq_some_iff.mp h;subst e2;rw[Rep]at h1;subst h1;rw[zkk h2 e1];rfl
  |_=>cases h
def yjh(xs:List D):M D:=fun σ=>match xs with
 |[x]=>(match (yf1 σ x).bind yco with
  |some bs=>.ok (.bl (bs.all id)) σ
  |none=>.bad)
 |_=>.bad
def yjw(xs:List D):M D:=fun σ=>match xs with
 |[x]=>(match (yf1 σ x).bind zyc with
  |some bs=>.ok (.int bs.sum) σ
  |none=>.bad)
 |_=>.bad
section
variable{T:Tb}{X:Cx}
def yfs(K:PySem.W.Frag):List V->Hp->VK->Prop:=fun xs H Q=>∃ (p:Addr) (bs:List Int),xs=[.ref p]/\(SqL K H p (bs.map V.int)\/SqT K H p (bs.map V.int))/\Q (.int bs.sum) H
theorem zkq{s:Shared}{o:Obj}{h':Heap}(k:∀ b u,b ∉ [s.heap.objs.size]->(s.heap.push o).get? b=some u->h'.get? b=some u):∀ b u,s.heap.get? b=some u->h'.get? b=some u:=fun b u e=>
 k b u (fun z=>absurd (Heap.lt_size e) (by rw[List.mem_singleton.mp z];exact Nat.lt_irrefl _)) (Heap.get?_push_of_some _ e)
theorem znl{pins:List (Addr × Obj)}{s:Shared}{st:St}{H:Hp}{p:Addr}{vs:List V}{E:Value->Shared->Prop}{Q:Value->Shared->Prop}(hh:X.A.handled=none)(I:Inv X pins st H s)(hq:SqL X.K H p vs\/SqT X.K H p vs)
  (h:∀ (its:List Value) (It:Addr) (fp:List Addr) (St:Nat->Heap->Prop) (s2:Shared),yho vs its->Walks X.prog X.w X.A.in1 It fp [It] its.toArray.size (fun i v=>its.toArray[i]?=some v) St->St 0 s2.heap->(∀ b∈fp,b<s2.heap.objs.size)->
   (∀ h' tk,(∀ b o,b ∉ [It]->s2.heap.get? b=some o->h'.get? b=some o)->Inv X pins st H { s2 with heap:=h',toks:=tk })->Q (.ref It) s2):wpAny (model X.prog X.w) X.A.in1 (pyIter (.ref p)) Q E s:=by
 rcases hq with hq|hq
 ·obtain⟨its,rv,pl,hz⟩:=I.list hq;have hlt:p<s.heap.objs.size:=by obtain⟨_,e,_⟩:=pl.isList;exact Heap.lt_size e
  refine wpAny_pyIter_list pl.isList (h its s.heap.objs.size [s.heap.objs.size,p] _ _ rv (Walks.list (A:=X.A.in1) hh _ p (Nat.ne_of_lt hlt) its.toArray) ⟨⟨_,Heap.get?_push_size _ rfl,rfl,rfl⟩,pl.isList.push _⟩ (fun b hb=>?_) (fun h' tk hk=>I.kept (zkq hk)));show b<(s.heap.push _).objs.size;rw[Heap.size_push];simp only[List.mem_cons,List.not_mem_nil,or_false]at hb;rcases hb with rfl|rfl
  ·exact Nat.lt_succ_self _
  ·exact Nat.lt_succ_of_lt hlt
 ·obtain⟨its,rv,pl,hz⟩:=I.tuple hq;have hlt:p<s.heap.objs.size:=pl.lt;refine wpAny_pyIter_tuple (show s.heap.IsTuple p _ from pl) (h its s.heap.objs.size [s.heap.objs.size,p] _ _ rv (Walks.tuple (A:=X.A.in1) hh _ p (Nat.ne_of_lt hlt) its.toArray) ⟨⟨_,Heap.get?_push_size _ rfl,rfl,rfl⟩,Heap.IsTuple.push (show s.heap.IsTuple p _ from pl) _⟩ (fun b hb=>?_) (fun h' tk hk=>I.kept (zkq hk)));show b<(s.heap.push _).objs.size;rw[Heap.size_push];simp only[List.mem_cons,List.not_mem_nil,or_false]at hb;rcases hb with rfl|rfl
  ·exact Nat.lt_succ_self _
  ·exact Nat.lt_succ_of_lt hlt
theorem zd0:∀ (bs:List Int) (n:Nat),n<=bs.length->preSum (fun i=>bs.getD i 0) n=(bs.take n).sum
 |bs,0,_=>by simp[preSum]
 |bs,n+1,h=>by
  rw[preSum,zd0 bs n (by omega),List.take_succ_eq_append_getElem (by omega),List.sum_append];simp[List.getD_eq_getElem?_getD,show n<bs.length by omega]
theorem zfy(hc:X.calm=true):yb3 X (.builtin "sum") (yfs X.K):=by
 intro pins s st H xs us Q I r h;obtain⟨p,bs,rfl,hq,q⟩:=h;obtain⟨u,rfl,ru⟩:=ygm r;cases ru;refine call_sum_walkG (znl (I.ok.hd hc) I hq fun its It fp St s2 rv W h0 hf hI=>?_);refine⟨_,_,_,_,_,_,fun i=>bs.getD i 0,rfl,W,h0,hf,fun i v hv=>?_,fun h' tk t' hk=>⟨.int bs.sum,H,hI h' tk hk,⟨t',?_⟩,q⟩⟩
 ·simp only[List.getElem?_toArray]at hv;obtain⟨x,h1,h2⟩:=zni rv hv;rw[List.getElem?_map]at h1;cases e:bs[i]? with
  |none=>rw[e]at h1;cases h1
  |some b=>
   rw[e]at h1;cases h1;obtain⟨t,rfl⟩:=h2;exact⟨t,by show Value.int b t=Value.int (bs.getD i 0) t;rw[List.getD_eq_getElem?_getD,e];rfl⟩
 ·have el:its.toArray.size=bs.length:=by rw[List.size_toArray,<-rv.length,List.length_map]
  rw[el,zd0 bs _ (Nat.le_refl _),List.take_length]
theorem zmm{α:Type}{σ:Sto}{x:D}{g:List D->Option α}{bs:α}(h:(yf1 σ x).bind g=some bs):∃ ys,yf1 σ x=some ys/\g ys=some bs:=Option.bind_eq_some_iff.mp h
theorem zup(hK:T.K=X.K):znt T (yfs X.K) yjw:=by
 intro E μ H σ xs vs Q r p h
 match xs with
 |[]=>exact h.elim
 |[x]=>
  rw[yhh]at p;obtain⟨v,w,rfl,p1,p2⟩:=p;rw[yhh]at p2;subst p2;unfold yjw at h;cases e:(yf1 σ x).bind zyc with
  |none=>simp only[e]at h;exact h.elim
  |some bs=>
   simp only[e]at h;obtain⟨ys,e1,e2⟩:=zmm e;obtain⟨b,vs,rfl,h1,h2⟩:=ztx r p1 e1;rw[hK,zkk h1 e2]at h2;exact⟨b,bs,rfl,h2,yhb.here h r (by rw[Rep])⟩
 |_::_::_=>exact h.elim
def ye8(xs:List D):M D:=match xs with
 |[.int i,.int j]=>ret (.int (max i j))
 |_=>bad
theorem znd{μ:List Addr}{H:Hp}{x y:D}{vs:List V}(p:yhh T μ H [x,y] vs):∃ v u,vs=[v,u]/\Rep T μ H x v/\Rep T μ H y u:=by
 rw[yhh]at p;obtain⟨v,w,rfl,p1,p2⟩:=p;rw[yhh]at p2;obtain⟨u,w',rfl,p3,p4⟩:=p2;rw[yhh]at p4;subst p4;exact⟨v,u,rfl,p1,p3⟩
theorem zm1:znt T (fun xs H Q=>∃ i j,xs=[.int i,.int j]/\Q (.int (if j > i then j else i)) H) ye8:=by
 intro E μ H σ xs vs Q r p h;unfold ye8 at h;split at h
 ·rename_i i j
  obtain⟨v,u,rfl,p1,p2⟩:=znd p;refine⟨i,j,by rw[zyb p1,zyb p2],?_⟩;have e:(if j > i then j else i)=max i j:=by rw[Int.max_def];split<;>split<;>omega
  rw[e];exact yhb.here h r (by rw[Rep])
 ·exact h.elim
def ddp(ns:List Int):List Int:=ns.foldl step_dedup []
theorem zf5(ns:List Int):firstMet (fun i=>ns.getD i 0) ns.length=ddp ns:=by
 unfold firstMet ddp;congr 1;apply List.ext_getElem?;intro i;by_cases h:i<ns.length
 ·simp[h]
 ·simp[h]
def yh6(xs:List D)(lo hi:Option Int):List D:=(xs.drop (HT.sIx xs.length 0 lo)).take (HT.sIx xs.length xs.length hi - HT.sIx xs.length 0 lo)
theorem zef{xs:List D}{lo hi:Option Int}(h:HT.sIx xs.length 0 lo=0/\HT.sIx xs.length xs.length hi=xs.length):yh6 xs lo hi=xs:=by
 unfold yh6;rw[h.1,h.2];simp
theorem ziv{μ:List Addr}{H:Hp}{xs:List D}{vs:List V}(r:yhh T μ H xs vs)(lo hi:Option Int):yhh T μ H (yh6 xs lo hi) (yh8 vs lo hi):=by
 unfold yh6 yh8;rw[r.length];exact yhh.take _ (yhh.drop _ r)
end
end L4
namespace HT
open PySem PySem.Spec PyProof.Rows
variable{prog:Program}{w:World}{A:Around}{E:Value->Shared->Prop}{s:Shared}
theorem getItem_tuple_all{t sl:Addr}{items:Array Value}{vl vu:Value}{lo hi:Option Int}{Q:Value->Shared->Prop}(ht:IsTup s.heap t items)(hs:s.heap.IsSliceOf sl vl vu .none)(pl:IsPart vl lo)(pu:IsPart vu hi)
  (hw:sIx items.size 0 lo=0/\sIx items.size items.size hi=items.size) (h:Q (.ref t) s):wpAny (model prog w) A (getItem (.ref t) (.ref sl)) Q E s:=by
 obtain⟨os,hos,hcs,hds⟩:=id hs;have hTs:s.TypeIs (.ref sl) "slice":=⟨os,hos,hcs⟩
 unfold getItem;try with_reducible refine wpAny_holding ?_
 first|refine wpAny_bind (wpAny_pure ?_)|skip
 refine wpAny_bind (wpAny_sequenceKey ht.typeIs (by decide) ?_);refine wpAny_bind (wpAny_callSpecial?_slot (name:=Str.ofString "__getitem__") ht.typeIs PyProof.Rows.slot_tuple_getitem
  (wpAny_call_entry PyProof.Rows.slot_tuple_getitem ht.typeIs entry_tuple_getitem ?_ (args_tuple_getitem _ _)))
 show wpAny _ _ (Builtin.Tuple.tupleItemsOf (.ref t) >>= _) _ _ s;refine wpAny_bind (tupleItemsOf_ ht ?_);refine wpAny_bind (wpAny_typeOf hTs ?_);rw[if_pos (by decide)];refine wpAny_bind (zat hs pl pu ?_);have hyes:(((sIx items.size 0 lo:Nat):Int) == 0 && (1:Int) == 1 && (sIx items.size items.size hi - sIx items.size 0 lo) == items.size)=true:=by
  rw[hw.1,hw.2];simp
 show wpAny _ _ (if (((sIx items.size 0 lo:Nat):Int) == 0 && (1:Int) == 1 && (sIx items.size items.size hi - sIx items.size 0 lo) == items.size)=true then _ else _) _ _ s;rw[if_pos hyes];obtain⟨o,ho,hc,hr⟩:=id ht;unfold Builtin.Tuple.tupleIsExact;refine wpAny_bind (wpAny_bind (wpAny_typeOf ht.typeIs ?_));refine wpAny_pure ?_;rw[if_pos (by decide)];refine wpAny_bind (wpAny_rule ?_);first
  |exact wpAny_pure ⟨_,rfl,wpAny_pure h⟩
  |exact wpAny_pure (wpAny_pure ⟨_,rfl,wpAny_pure h⟩)
  |exact wpAny_bind (wpAny_pure (wpAny_pure ⟨_,rfl,wpAny_pure h⟩))
end HT
namespace L4
open PySem PySem.Spec PyProof.Rows L2
section
variable{T:Tb}{X:Cx}
def yj9(K:PySem.W.Frag):V->Option Int->Option Int->Hp->VK->Prop:=fun x lo hi H Q=>∃ a xs,x=.ref a/\SqT K H a xs/\(HT.sIx xs.length 0 lo=0/\HT.sIx xs.length xs.length hi=xs.length)/\Q (.ref a) H
theorem ya6:SlR X (yj9 X.K):=by
 intro pins s st H x v vl vu lo hi sl Q I rx hs pl pu h;obtain⟨a,xs,rfl,hx,hw,q⟩:=h;cases rx;obtain⟨its,r,ht,hz⟩:=I.tuple hx;have hlen:its.toArray.size=xs.length:=by rw[List.size_toArray];exact r.length.symm
 exact⟨"tuple",_,PyProof.Rows.slot_tuple_getitem.lookup,ht.typeIs,HT.getItem_tuple_all ht hs pl pu (by rw[hlen];exact hw) ⟨.ref a,H,I,rfl,q⟩⟩
abbrev PF:=Option (Ev->M D)
def yfg(d:D):M (Option Int):=match d with
 | .int i=>ret (some i)
 |_=>bad
def ydb(p:PF):Ev->M (Option Int):=match p with
 |none=>fun _=>ret none
 |some f=>fun ρ=>bnd (f ρ) yfg
def tP(T:Tb)(X:Cx)(f:Ev->M (Option Int)):TO:=fun st H Q=>∃ μ ρ σ,ygy T μ H ρ st/\Rel T μ H σ/\yhb T (XE X st) (fun _ _ a b=>b=a) μ H (f ρ σ) Q
abbrev FO(T:Tb)(X:Cx)(e:Option Expr)(p:PF):Prop:=PO X e (tP T X (ydb p))
theorem zpu:FO T X none none:=by
 intro pins s st H Q I h;obtain⟨μ,ρ,σ,hE,hr,hp⟩:=h;exact zsr pins s st H Q I (yhb.here hp hr rfl)
theorem zpv{e:Expr}{f:Ev->M D}(he:FE T X e f):FO T X (some e) (some f):=by
 intro pins s st H Q I h;refine zss he pins s st H Q I ?_;obtain⟨μ,ρ,σ,hE,hr,hp⟩:=h;refine⟨μ,ρ,σ,hE,hr,yhb.bind hp fun d σ1 μ1 v H1 _ e1 r1 q1 p1=>?_⟩;cases d with
 |int i=>exact⟨i,zyb q1,yhb.here p1 r1 rfl⟩
 |_=>exact p1.elim
def yh7(x:D)(lo hi:Option Int):M D:=fun σ=>match x with
 | .tup xs=>.ok (.tup (yh6 xs lo hi)) σ
 | .scr ns=>.ok (.lst (yh6 (ns.map D.int) lo hi)) σ
 |x=>(match yja σ x with
  |some xs=>.ok (.lst (yh6 xs lo hi)) σ
  |none=>.bad)
def ykw(x:D)(lo:Option Int)(hi:Option Int):M D:=yh7 x lo hi
def ykv(x:D)(hi:M (Option Int))(lo:Option Int):M D:=bnd hi (ykw x lo)
def yku(lo hi:M (Option Int))(x:D):M D:=bnd lo (ykv x hi)
def eSl(f:Ev->M D)(lo hi:PF):Ev->M D:=fun ρ=>bnd (f ρ) (yku (ydb lo ρ) (ydb hi ρ))
theorem zjj{e:Expr}{lo hi:Option Expr}{f:Ev->M D}{pl ph:PF}{pos p2:Pos}(hK:T.K=X.K)(he:FE T X e f)(hl:FO T X lo pl)(hh:FO T X hi ph):FE T X (.Subscript e (.Slice lo hi none p2) pos) (eSl f pl ph):=by
 intro pins s st H Q I h;refine zlz (SlR.or ya7 (SlR.or ya6 zt8)) he hl hh pins s st H Q I ?_;obtain⟨μ,ρ,σ,hE,hr,hp⟩:=h;refine⟨μ,ρ,σ,hE,hr,hp.bind fun d σ1 μ1 v H1 _ e1 r1 q1 p1=>⟨μ1,ρ,σ1,hE.mono e1,r1,p1.bind fun l σ2 μ2 l' H2 _ e2 r2 q2 p2=>⟨μ2,ρ,σ2,(hE.mono e1).mono e2,r2,p2.bind fun u σ3 μ3 u' H3 _ e3 r3 q3 p3=>?_⟩⟩⟩;have q2':l'=l:=q2;have q3':u'=u:=q3;subst q2';subst q3';have rd:Rep T μ3 H3 d v:=Rep.mono e3 _ _ (Rep.mono e2 _ _ q1);have lists:∀ ys,yja σ3 d=some ys->yhb T (XE X st) (Rep T) μ3 H3 (.ok (.lst (yh6 ys l' u')) σ3) Q->ykb X.K v l' u' H3 Q\/yj9 X.K v l' u' H3 Q\/yka X.K v l' u' H3 Q:=fun ys ey p4=>by
  obtain⟨a,vs,rfl,h1,h2⟩:=r3.ls rd ey;exact .inr (.inr ⟨a,vs,rfl,SqL.of h1,fun p hn=>zy3 p4 r3 (ziv h2 l' u') hn⟩)
 cases d with
 |tup xs=>
  have rd0:=rd;rw[Rep]at rd;obtain⟨p,vs,rfl,h1,h2⟩:=rd;by_cases hw:HT.sIx vs.length 0 l'=0/\HT.sIx vs.length vs.length u'=vs.length
  ·refine .inr (.inl ⟨p,vs,rfl,SqT.of h1,hw,yhb.here (d:=D.tup (yh6 xs l' u')) p3 r3 ?_⟩);rw[zef (by rw[h2.length];exact hw)];exact rd0
  ·exact .inl ⟨p,vs,rfl,SqT.of h1,hw,fun q hn=>zrx p3 r3 (ziv h2 l' u') hn⟩
 |ref n=>
  unfold ykw yh7 at p3;dsimp only at p3;cases ey:yja σ3 (.ref n)with
  |none=>rw[ey]at p3;exact p3.elim
  |some ys=>rw[ey]at p3;exact lists ys ey p3
 |lst ys=>exact lists ys rfl p3
 |scr ns=>
  rw[Rep]at rd;obtain⟨p,rfl,h1⟩:=rd;have h2:=h1.seq;rw[hK]at h2;exact .inr (.inr ⟨p,_,rfl,h2,fun p hn=>zy3 p3 r3 (ziv (zhk ns) l' u') hn⟩)
 |_=>exact p3.elim
end
def OkD(T:Tb)(P:Program)(w:World)(mg:Str->Option Value)(base:Heap)(k:Nat)(x:Str)(ps:List Str)(dv:List Value)(fn:List D->M D):Prop:=
 ∃ f fd,mg x=some (.ref f)/\PySem.W.keepIn T.K (.ref f)=true/\yb1 T.K fd ps []/\yb1 T.K fd ps dv/\FnOk P w T.K mg base (CXE P w) k f fd ps (spF T ps.length fn)
section
variable{T:Tb}{X:Cx}
variable{P:Program}{w:World}{K:PySem.W.Frag}{mg:Str->Option Value}{base:Heap}{ca:Nat->Addr}{tx:Tx}
theorem OkD.frz{k:Nat}{x:Str}{ps:List Str}{dv:List Value}{fn:List D->M D}(h:OkD T P w mg base k x ps dv fn):OkD T P w mg base k x ps dv (fun ds=>L4.frz (fn ds)):=by
 obtain⟨f,fd,h1,h2,h3,h4,h5⟩:=h;exact⟨f,fd,h1,h2,h3,h4,zpx h5⟩
end
theorem OkF.hide{T:Tb}{P:Program}{w:World}{mg:Str->Option Value}{base:Heap}{k:Nat}{x:Str}{ps:List Str}{fn:List D->M D}(h:OkF T P w mg base k x ps fn):OkF T P w mg base k x ps (L4.hide fn):=by rw[zqo];exact h
theorem OkD.hide{T:Tb}{P:Program}{w:World}{mg:Str->Option Value}{base:Heap}{k:Nat}{x:Str}{ps:List Str}{dv:List Value}{fn:List D->M D}(h:OkD T P w mg base k x ps dv fn):OkD T P w mg base k x ps dv (L4.hide fn):=by rw[zqo];exact h
section
variable{T:Tb}{X:Cx}{μ:List Addr}{H:Hp}{σ:Sto}
def yd4(σ:Sto):D->Option (Nat × List (Str × D))
 | .obj c ns ds=>if ns.length=ds.length then some (c,ns.zip ds)else none
 | .ref n=>match σ[n]? with
  |some (.ins c fs)=>some (c,fs)
  |_=>none
 |_=>none
theorem zma:∀ {ns:List Str} {ds:List D} {fs:List (Str × V)},fs.map (·.1)=ns->yhh T μ H ds (fs.map (·.2))->yhf T μ H (ns.zip ds) fs
 |[],ds,[],_,h=>by
  rw[List.map_nil]at h;cases ds with
  |nil=>exact Paired.nil
  |cons d ds=>have:=h.length;simp at this
 |[],ds,f::fs,e,_=>by simp at e
 |n::ns,ds,[],e,_=>by simp at e
 |n::ns,[],f::fs,e,h=>by have:=h.length;simp at this
 |n::ns,d::ds,f::fs,e,h=>by
  simp only[List.map_cons,List.cons.injEq]at e;rw[List.map_cons,yhh]at h;obtain⟨v,r,e2,h1,h2⟩:=h;simp only[List.cons.injEq]at e2;obtain⟨e3,e4⟩:=e2;subst e4;exact Paired.cons ⟨e.1.symm,by rw[e3];exact h1⟩ (zma e.2 h2)
theorem zqw(r:Rel T μ H σ){d:D}{v:V}{c:Nat}{fs:List (Str × D)}(h:Rep T μ H d v)(e:yd4 σ d=some (c,fs)):∃ a dx vs,v=.ref a/\H a=some (.ins (T.ca c) dx vs)/\yhf T μ H fs vs:=by
 cases d with
 |obj c' ns ds=>
  unfold yd4 at e;by_cases hl:ns.length=ds.length
  ·simp only[hl,if_true,Option.some.injEq,Prod.mk.injEq]at e;obtain⟨rfl,rfl⟩:=e;rw[Rep]at h;obtain⟨a,dx,vs,rfl,_,h3,h4,h5⟩:=h;exact⟨a,dx,vs,rfl,h3,zma h4 h5⟩
  ·simp[hl]at e
 |ref n=>
  unfold yd4 at e;dsimp only at e;cases es:σ[n]? with
  |none=>rw[es]at e;cases e
  |some o=>
   rw[es]at e;obtain⟨a,rfl,_,h2⟩:=r.at h es;cases o with
   |ins c' fs'=>cases e;obtain⟨dx,vs,h3,h4⟩:=h2;exact⟨a,dx,vs,rfl,h3,h4⟩
   |lst _=>cases e
   |dic _=>cases e
 |_=>cases e
theorem zk1{f:Str}:∀ {fs:List (Str × D)} {vs:List (Str × V)},yhf T μ H fs vs->(∀ d,fs.lookup f=some d->∃ v,vs.lookup f=some v/\Rep T μ H d v)/\(fs.lookup f=none->vs.lookup f=none)
 |_,_,.nil=>⟨fun d e=>by simp at e,fun _=>rfl⟩
 |(g,x)::fs,(g',v)::vs,.cons ⟨e,h⟩ t=>by
  have e':g=g':=e;subst e';obtain⟨h1,h2⟩:=zk1 t;by_cases hg:(f == g)=true
  ·refine⟨fun d q=>?_,fun q=>?_⟩
   ·rw[List.lookup_cons,hg]at q;cases q;exact⟨v,by rw[List.lookup_cons,hg],h⟩
   ·rw[List.lookup_cons,hg]at q;cases q
  ·have hg':(f == g)=false:=by simpa using hg
   refine⟨fun d q=>?_,fun q=>?_⟩
   ·rw[List.lookup_cons,hg']at q;obtain⟨w,q1,q2⟩:=h1 d q;exact⟨w,by rw[List.lookup_cons,hg'];exact q1,q2⟩
   ·rw[List.lookup_cons,hg']at q;rw[List.lookup_cons,hg'];exact h2 q
def yb5(T:Tb)(cs:List Nat)(f:Str):Prop:=∀ c,cs.contains c=true->Cls T.K (T.ca c)/\zvg T.K (T.ca c) f
theorem zps{f:Str}:yb5 T [] f:=fun c h=>by simp at h
theorem zjt{f:Str}{c:Nat}{cs:List Nat}(h1:Cls T.K (T.ca c))(h2:zvg T.K (T.ca c) f)(h:yb5 T cs f):yb5 T (c::cs) f:=fun d hd=>by
 rw[List.contains_cons,Bool.or_eq_true,beq_iff_eq]at hd;rcases hd with rfl|hd
 ·exact⟨h1,h2⟩
 ·exact h d hd
def yjm(cs:List Nat)(f:Str)(x:D):M D:=fun σ=>match yd4 σ x with
 |some (c,fs)=>if cs.contains c=true then (match fs.lookup f with
  |some d=>.ok d σ
  |none=>.bad)else .bad
 |none=>.bad
theorem zw5{e:Expr}{f:Str}{g:Ev->M D}{pos:Pos}{cs:List Nat}(hK:T.K=X.K)(hc:yb5 T cs f)(he:FE T X e g)
  (hb:attributeBase e f X.env (eval e X.env)=eval e X.env:=by rfl):FE T X (.Attribute e f pos) (eUn (yjm cs f) g):=by
 intro pins s st H Q I h;refine zzx he hb pins s st H Q I ?_;obtain⟨μ,ρ,σ,hE,hr,hp⟩:=h;refine⟨μ,ρ,σ,hE,hr,yhb.bind hp fun d σ1 μ1 v H1 _ e1 r1 q1 p1=>?_⟩;unfold yjm at p1;cases ei:yd4 σ1 d with
 |none=>rw[ei]at p1;exact p1.elim
 |some p=>
  obtain⟨c,fs⟩:=p;rw[ei]at p1;dsimp only at p1;by_cases hcc:cs.contains c=true
  ·rw[if_pos hcc]at p1;obtain⟨a,dx,vs,rfl,h1,h2⟩:=zqw r1 q1 ei;cases el:fs.lookup f with
   |none=>rw[el]at p1;exact p1.elim
   |some y=>
    rw[el]at p1;obtain⟨w,h3,h4⟩:=(zk1 h2).1 y el;obtain⟨k1,k2⟩:=hc c hcc;rw[hK]at k1 k2;exact⟨a,_,dx,vs,w,rfl,h1,k1,k2,h3,yhb.here p1 r1 h4⟩
  ·rw[if_neg hcc]at p1;exact p1.elim
def yj1(f:Str)(v:D):List (Str × D)->List (Str × D)
 |[]=>[(f,v)]
 |(g,x)::r=>if g=f then (g,v)::r else (g,x)::yj1 f v r
theorem zsz{f:Str}{d:D}{v:V}(hd:Rep T μ H d v):∀ {fs:List (Str × D)} {vs:List (Str × V)},yhf T μ H fs vs->yhf T μ H (yj1 f d fs) (putF f v vs)
 |_,_,.nil=>Paired.cons ⟨rfl,hd⟩ Paired.nil
 |(g,x)::fs,(g',w)::vs,.cons ⟨e,h⟩ t=>by
  have e':g=g':=e;subst e';unfold yj1 putF;by_cases hg:g=f
  ·rw[if_pos hg,if_pos hg];exact Paired.cons ⟨rfl,hd⟩ t
  ·rw[if_neg hg,if_neg hg];exact Paired.cons ⟨rfl,h⟩ (zsz hd t)
theorem yhf.mono{μ':List Addr}{H':Hp}(e:Ext μ H μ' H'){fs:List (Str × D)}{vs:List (Str × V)}(h:yhf T μ H fs vs):yhf T μ' H' fs vs:=Paired.mapP h fun _ _ q=>⟨q.1,Rep.mono e _ _ q.2⟩
theorem yhf.length{fs:List (Str × D)}{vs:List (Str × V)}(h:yhf T μ H fs vs):fs.length=vs.length:=Paired.length h
def yju(cs:List Nat)(f:Str)(d x:D):M Unit:=fun σ=>match x with
 | .ref n=>(match σ[n]? with
  |some (.ins c fs)=>if (cs.contains c && decide (fs.length<1000))=true then .ok () (σ.set n (.ins c (yj1 f d fs)))else .bad
  |_=>.bad)
 |_=>.bad
def yfo(ρ:Ev)(cs:List Nat)(f:Str)(d x:D):M Fl:=fun σ=>match yju cs f d x σ with
 | .ok _ σ'=>.ok (.nx ρ) σ'
 |_=>.bad
def yfn(ρ:Ev)(cs:List Nat)(f:Str)(fo:Ev->M D)(d:D):M Fl:=xs ρ (fo ρ) (yfo ρ cs f d)
def yko(cs:List Nat)(f:Str)(fv fo:Ev->M D):Ev->M Fl:=fun ρ=>xs ρ (fv ρ) (yfn ρ cs f fo)
theorem zxs{o value:Expr}{f:Str}{fv fo:Ev->M D}{pos pos':Pos}{cs:List Nat}(hK:T.K=X.K)(hc:yb5 T cs f)(ho:FE T X o fo)(hv:FE T X value fv)
  (hs:swapsWith value (some (.Attribute o f pos')) pos.line X.env=pure false:=by rfl):FS T X (.Assign [.Attribute o f pos'] value pos) (yko cs f fv fo):=by
 intro pins s st H D I hq;refine yaf ho hv hs pins s st H D I ?_;obtain⟨μ,ρ,σ,hE,hr,hp⟩:=hq;refine⟨μ,ρ,σ,hE,hr,hp.xs hE fun d σ1 μ1 v H1 _ e1 r1 q1 p1=>?_⟩;refine⟨μ1,ρ,σ1,hE.mono e1,r1,p1.xs (hE.mono e1) fun x σ2 μ2 vo H2 _ e2 r2 q2 p2=>?_⟩;have hd:=Rep.mono e2 _ _ q1;unfold yfo yju at p2;cases x with
 |ref n=>
  dsimp only at p2;cases el:σ2[n]? with
  |none=>rw[el]at p2;exact p2.elim
  |some ob=>
   rw[el]at p2;cases ob with
   |lst _=>exact p2.elim
   |dic _=>exact p2.elim
   |ins c fs=>
    dsimp only at p2;by_cases hcc:(cs.contains c && decide (fs.length<1000))=true
    ·rw[if_pos hcc]at p2;rw[Bool.and_eq_true,decide_eq_true_eq]at hcc;obtain⟨a,rfl,hn,dx,vs,h1,h2⟩:=r2.at q2 el;have ex:Ext μ2 H2 μ2 (upd H2 a (.ins (T.ca c) dx (putF f v vs))):=zf9 (List.mem_of_getElem? hn) h1 (fun _ z=>by cases z) (fun _ _ z=>by cases z);have wr:=r2.write (o:=.ins (T.ca c) dx (putF f v vs)) (ob:=.ins c (yj1 f d fs)) hn ⟨dx,_,zne,zsz (Rep.mono ex _ _ hd) (yhf.mono ex h2)⟩;obtain⟨k1,k2⟩:=hc c hcc.1;rw[hK]at k1 k2;exact⟨a,_,dx,vs,rfl,h1,k1,k2,by rw[<-h2.length];exact hcc.2,p2 _ (.nx st) _ wr.1 wr.2 ((hE.mono e1).mono e2 |>.mono wr.1)⟩
    ·rw[if_neg hcc]at p2;exact p2.elim
 |_=>exact p2.elim
def yew(n:Nat):Out D->Out D
 | .ok .non σ'=>.ok (.ref n) σ'
 | .ok _ _=>.bad
 | .ex x σ'=>.ex x σ'
 | .bad=>.bad
def yep(c n:Nat)(fn:List D->M D)(ds:List D):M D:=fun σ=>if ds.length+1=n then yew σ.length (fn (.ref σ.length::ds) (σ++[.ins c []]))else .bad
def yc8(c n:Nat)(fn:List D->M D)(fs:Ev->M (List D)):Ev->M D:=fun ρ=>bnd (fs ρ) (yep c n fn)
def OkA(T:Tb)(P:Program)(w:World)(mg:Str->Option Value)(base:Heap)(k:Nat)(f:Addr)(ps:List Str)(fn:List D->M D):Prop:=
 ∃ fd,(∀ us:List Value,us.length=ps.length->bindArgs fd ⟨us,[]⟩=pure (ps.zip us))/\FnOk P w T.K mg base (CXE P w) k f fd ps (spF T ps.length fn)
def OkC(T:Tb)(P:Program)(w:World)(mg:Str->Option Value)(base:Heap)(k:Nat)(x:Str)(c:Nat)(ps:List Str)(fn:List D->M D):Prop:=
 ∃ f,mg x=some (.ref (T.ca c))/\Mk T.K (T.ca c) f/\OkA T P w mg base k f ps fn
theorem zgx{E:XK}{c:Nat}{ps:List Str}{fn:List D->M D}{ds:List D}{vs:List V}{Q:VK}(r:Rel T μ H σ)(q:yhh T μ H ds vs)(p:yhb T E (Rep T) μ H (yep c ps.length fn ds σ) Q) :
  ∀ x dx,H x=none->H dx=none->dx≠x->spF T ps.length fn (.ref x::(vs++[])) (upd (upd H dx (.own x)) x (.ins (T.ca c) dx [])) (fun v H2=>v=.non/\Q (.ref x) H2) E:=by
 intro x dx hx hdx hne;unfold yep at p;by_cases hl:ds.length+1=ps.length
 ·rw[if_pos hl]at p;have ex1:Ext μ H μ (upd H dx (.own x)):=zpg hdx;have r1:Rel T μ (upd H dx (.own x)) σ:=r.fresh hdx;have hx1:upd H dx (.own x) x=none:=by unfold upd;rw[if_neg (Ne.symm hne)];exact hx
  have ex2:Ext μ (upd H dx (.own x)) (μ++[x]) (upd (upd H dx (.own x)) x (.ins (T.ca c) dx [])):=zje hx1;have r2:Rel T (μ++[x]) (upd (upd H dx (.own x)) x (.ins (T.ca c) dx [])) (σ++[.ins c []]):=r1.push hx1 ⟨dx,[],zne,Paired.nil⟩;refine⟨μ++[x],σ++[.ins c []],.ref σ.length::ds,yhh.cons (zmb r1) (by rw[List.append_nil];exact yhh.mono (ex1.trans ex2) _ _ q),by rw[List.length_cons];exact hl,r2,?_⟩;cases e:fn (.ref σ.length::ds) (σ++[.ins c []])with
  |bad=>rw[e]at p;exact p.elim
  |ex y σ'=>rw[e]at p;exact fun μ' H' e' r'=>p μ' H' ((ex1.trans ex2).trans e') r'
  |ok d σ'=>
   rw[e]at p;intro μ' v H' e' r' q';have hv:d=.non:=by cases d<;>first|rfl|exact p.elim
   subst hv;rw[Rep]at q';refine⟨q',p μ' (.ref x) H' ((ex1.trans ex2).trans e') r' ?_⟩;exact Rep.mono e' _ _ (zmb r1)
 ·rw[if_neg hl]at p;exact p.elim
theorem zhn{k:Nat}{C f:Addr}{fd:FuncData}{ps:List Str}{sp:Sp}{dvs:List V}{ds:List Value}{pins:List (Addr × Obj)}{st:St}{H:Hp}{s:Shared}{Q:VK}{us:List Value}{vs:List V}(M:Mk X.K C f)(F:FnOk X.prog X.w X.K X.mg X.base (CXE X.prog X.w) k f fd ps sp)(hr:Room (k+1) X.A)(hb:yb1 X.K fd ps ds)(hd:yho dvs ds)
  (I:Inv X pins st H s) (r:yho vs us)
  (h:∀ x dx,H x=none->H dx=none->dx≠x->sp (.ref x::(vs++dvs)) (upd (upd H dx (.own x)) x (.ins C dx [])) (fun v H2=>v=.non/\Q (.ref x) H2) (XE X st)) :
  wpAny (model X.prog X.w) X.A (call (.ref C) us) (EP X pins st Q) X.xe s:=by
 have hq:=h (s.heap.objs.size+1) s.heap.objs.size (I.hok.fresh (Nat.le_succ _)) (I.hok.fresh (Nat.le_refl _)) (Nat.ne_of_lt (Nat.lt_succ_self _));have I2:=Inv.made (C:=C) I;have r2:yho (V.ref (s.heap.objs.size+1)::(vs++dvs)) (Value.ref (s.heap.objs.size+1)::(us++ds)):=.cons rfl (r.append hd);have hl:(Value.ref (s.heap.objs.size+1)::us++ds).length=ps.length:=by
  have e:=r2.length;rw[F.len _ _ _ _ hq]at e;exact e.symm
 refine wpAny_call (zk8 (f:=f) I.kIn M.makes M.init (beq_iff_eq.mp M.fn) (codeAny_mono (F.run _ X.stack _ _ ⟨Value.ref (s.heap.objs.size+1)::us,[]⟩ (Value.ref (s.heap.objs.size+1)::(us++ds)) _ _ (XE X st) (hr.make C us [])
  (I2.env0.make C us []) (hb _ (Value.ref (s.heap.objs.size+1)::us) I2.kIn hl) r2 hq) fun r s' hq'=>?_))
 cases r with
 |error e=>obtain⟨cls,fd,H',hfly,ht⟩:=hq';exact ht.fly pins _ _ e s' I2 hfly
 |ok fl=>
  cases fl with
  |ret u=>
   obtain⟨v,H',I3,rv,ev,q3⟩:=I2.after hq';subst ev;exact⟨rv,⟨V.ref (s.heap.objs.size+1),H',I3,rfl,q3⟩⟩
  |next=>exact False.elim hq'
  |brk=>exact False.elim hq'
  |cont=>exact False.elim hq'
theorem zpl{k c:Nat}{ps:List Str}{fn:List D->M D}{x:Str}{p pos:Pos}{e:Expr}{es:List Expr}{fs:Ev->M (List D)}(h:OkC T X.prog X.w X.mg X.base k x c ps fn)(hK:T.K=X.K)(hr:Room (k+1) X.A)(hg:Gl X x)
  (ha:FA T X (e::es) fs) (hdb:(x == ("__debug__" : Str))=false:=by decide) (he:starEach (e::es) X.env=(false,eval e X.env)::starEach es X.env:=by rfl) (hpl:(backTo pos (starEach es X.env)).any (·.1)=false:=by rfl) :
  FE T X (.Call (.Name x p) (e::es) [] pos) (yc8 c ps.length fn fs):=by
 obtain⟨f,hm,hM,fd,hb,hF⟩:=h;rw[hK]at hM hF;intro pins s st H Q I hq;obtain⟨μ,ρ,σ,hE,hr',hp⟩:=hq;refine wpAny_Call_Name_kw (zrc I hg hm ?_ hdb);refine PySem.W.callWith_K (h₀:=X.base) I.ok.mod.kin hM.kp (thn (ha pos pins s st H (fun vs H1=>∀ x dx,H1 x=none->H1 dx=none->dx≠x->spF T ps.length fn (.ref x::(vs++[])) (upd (upd H1 dx (.own x)) x (.ins (T.ca c) dx [])) (fun v H2=>v=.non/\Q (.ref x) H2) (XE X st)) I ⟨μ,ρ,σ,hE,hr',hp.bind fun ds σ1 μ1 vs H1 _ e1 r1 p1 q1=>zgx r1 p1 q1⟩) fun us s1 ⟨vs,H1,I1,r,q⟩=>⟨I1.kIn,?_⟩) he hpl;exact zhn (ds:=[]) (dvs:=[]) hM hF hr (.all hb) .nil I1 r q
structure OkM(T:Tb)(P:Program)(w:World)(mg:Str->Option Value)(base:Heap)(k:Nat)(m:Str)(c:Nat)(ps:List Str)(fn:List D->M D):Prop where
 cl:Cls T.K (T.ca c)
 ex:∃ f,Meth T.K (T.ca c) m f/\OkA T P w mg base k f ps fn
structure OkU(T:Tb)(P:Program)(w:World)(mg:Str->Option Value)(base:Heap)(k:Nat)(x m:Str)(c:Nat)(ps:List Str)(fn:List D->M D):Prop where
 gl:mg x=some (.ref (T.ca c))
 sp:PySem.W.specialIn T.K (.ref (T.ca c)) (Str.ofString "__getattribute__")=some (some (.builtin "type.__getattribute__"))
 ex:∃ f mc,PySem.W.readsIn T.K (T.ca c) mc=true/\PySem.W.findCls T.K (.ref (T.ca c)) mc m=some (.val (.ref f))/\PySem.W.keepIn T.K (.ref f)=true/\OkA T P w mg base k f ps fn
end
structure HasM(K:PySem.W.Frag)(C:Addr)(x qual:Str)(st:Stmt)(ps:List Str)(f:Addr):Prop where
 ex:∃ fd,Fun K x qual st f fd/\∀ us:List Value,us.length=ps.length->bindArgs fd ⟨us,[]⟩=pure (ps.zip us)
section
variable{P:Program}{w:World}{K:PySem.W.Frag}{mg:Str->Option Value}{base:Heap}{ca:Nat->Addr}{tx:Tx}
theorem zzf{k:Nat}{C f:Addr}{x qual:Str}{st:Stmt}{ps N:List Str}{g:Ev->M Fl}(h:HasM K C x qual st ps f)(S:FnScope N ps (ziy st))
  (hb:∀ (cdv:Value) (A:Around) (outer:List Env) (s:Shared) (H:Hp) (E:XK),Room k (A.deeper (envOfC qual (ziy st) s.heap.objs.size f cdv))->FSs ⟨K,ca,tx⟩ (yh9 (CXE P w) P w K mg base N qual (ziy st) f cdv A outer s H E) (zo4 st) g) :
  OkA ⟨K,ca,tx⟩ P w mg base (k+1) f ps (run N.length g):=by
 obtain⟨fd,F,hbd⟩:=h.ex;obtain⟨oc,od,kV,doc,pm,an,cdv,ct,osl,rfl,lk,hcd⟩:=F.ex;exact⟨_,hbd,fok lk hcd S (hb cdv)⟩
theorem OkA.frz{T:Tb}{k:Nat}{f:Addr}{ps:List Str}{fn:List D->M D}(h:OkA T P w mg base k f ps fn):OkA T P w mg base k f ps (fun ds=>L4.frz (fn ds)):=by
 obtain⟨fd,h3,h4⟩:=h;exact⟨fd,h3,zpx h4⟩
theorem OkA.hide{T:Tb}{k:Nat}{f:Addr}{ps:List Str}{fn:List D->M D}(h:OkA T P w mg base k f ps fn):OkA T P w mg base k f ps (L4.hide fn):=by rw[zqo];exact h
end
def yeu(s:Stmt)(j:Nat):Stmt:=match s with
 | .ClassDef _ _ _ b _ _ _ _ _ _ _=>b.getD j (.Pass ⟨0,0,0,0⟩)
 |s=>s
theorem mkM{K:PySem.W.Frag}{C f:Addr}{x qual:Str}{st:Stmt}{ps:List Str}{oc:Value}{od an:Option Addr}{osl:Array (Option Value)}{kV doc pm cdv ct:Value}
  (hb:∀ (kV doc pm:Value) (an:Option Addr) (cdv ct:Value) (us:List Value),us.length=ps.length->bindArgs (PySem.W.fnOf x qual (zo3 st) (zo4 st) (ziy st) .none kV doc pm an cdv ct) ⟨us,[]⟩=pure (ps.zip us))
  (l:K.lookup f=some ⟨oc,od,.func (PySem.W.fnOf x qual (zo3 st) (zo4 st) (ziy st) .none kV doc pm an cdv ct),osl⟩)
  (c:PySem.W.codeIn K cdv qual=true) (k:PySem.W.keepIn K (.ref f)=true):HasM K C x qual st ps f:=⟨⟨_,zxz l c k,hb kV doc pm an cdv ct⟩⟩
section
variable{T:Tb}{P:Program}{w:World}{mg:Str->Option Value}{base:Heap}
end
section
variable{T:Tb}{X:Cx}
end
end L4
namespace L4
open PySem L2
theorem nr{α:Type}{a b:α}(h:a=b):a=b:=h
section
variable{α β:Type}{ρ:Ev}{σ:Sto}
@[simp] theorem zod(a:α)(σ:Sto)(k:α->M β):(Out.ok a σ).bind k=k a σ:=nr rfl
@[simp] theorem yas(a:α)(σ:Sto):ret a σ=.ok a σ:=nr rfl
@[simp] theorem zvv(m:M α)(k:α->M β)(σ:Sto):bnd m k σ=(m σ).bind k:=nr rfl
@[simp] theorem yc5(d:D):eC d ρ σ=.ok d σ:=nr rfl
@[simp] theorem zwu(d:D)(r:Ev):yij 0 (some d::r) σ=.ok d σ:=nr rfl
@[simp] theorem zwv(i:Nat)(o:Option D)(r:Ev):yij (i+1) (o::r) σ=yij i r σ:=nr rfl
@[simp] theorem zo8(o:D->D->M D)(a b:Ev->M D):yid o a b ρ σ=(a ρ σ).bind (yhy o (b ρ)):=nr rfl
@[simp] theorem zoc(o:D->D->M D)(m:M D)(x:D):yhy o m x σ=(m σ).bind (o x):=nr rfl
@[simp] theorem zwt(o:D->M D)(a:Ev->M D):eUn o a ρ σ=(a ρ σ).bind o:=nr rfl
@[simp] theorem ybs(b:Bool):tst (.bl b) σ=.ok b σ:=nr rfl
@[simp] theorem yd3(p q:M α):ifK p q true σ=p σ:=nr rfl
@[simp] theorem yd2(p q:M α):ifK p q false σ=q σ:=nr rfl
@[simp] theorem zna(k:Bool->M α)(b:Bool):ygh k (.bl b) σ=k b σ:=nr rfl
@[simp] theorem ydc(f:Ev->M D):eT f ρ σ=(f ρ σ).bind tst:=nr rfl
@[simp] theorem zoa(a b:Ev->M Bool):yhx a b ρ σ=(a ρ σ).bind (ifK (b ρ) (ret false)):=nr rfl
@[simp] theorem zvq(a b:Ev->M Bool):bOr a b ρ σ=(a ρ σ).bind (ifK (ret true) (b ρ)):=nr rfl
@[simp] theorem zo7(a b:Ev->M D):yic a b ρ σ=(a ρ σ).bind (ygh (ifK (b ρ) (ret (.bl false)))):=nr rfl
@[simp] theorem zws(a b:Ev->M D):eOr a b ρ σ=(a ρ σ).bind (ygh (ifK (ret (.bl true)) (b ρ))):=nr rfl
@[simp] theorem znw:yhr ρ σ=.ok [] σ:=nr rfl
@[simp] theorem zib(e:Ev->M D)(r:Ev->M (List D)):yci e r ρ σ=(e ρ σ).bind (zvo (r ρ)):=nr rfl
@[simp] theorem zfk(m:M (List D))(x:D):zvo m x σ=(m σ).bind (ycw x):=nr rfl
@[simp] theorem ziu(x:D)(xs:List D):ycw x xs σ=.ok (x::xs) σ:=nr rfl
@[simp] theorem zpd(a:Ev->M (List D)):yii a ρ σ=(a ρ σ).bind ylj:=nr rfl
@[simp] theorem ybu(a b:D):ylj [a,b] σ=.ok (.tup [a,b]) σ:=nr rfl
@[simp] theorem ybv(a b c:D):ylj [a,b,c] σ=.ok (.tup [a,b,c]) σ:=nr rfl
@[simp] theorem ybw(a b c d:D):ylj [a,b,c,d] σ=.ok (.tup [a,b,c,d]) σ:=nr rfl
@[simp] theorem zwp(a:Ev->M (List D)):eLv a ρ σ=(a ρ σ).bind lvK:=nr rfl
@[simp] theorem zpa(a:Ev->M (List D)):yih a ρ σ=(a ρ σ).bind yjb:=nr rfl
@[simp] theorem zyy:yjb [] σ=.ok (.ref σ.length) (σ++[.lst []]):=nr rfl
@[simp] theorem ye4(g:Int->Int->Int)(i j:Int):oI g (.int i) (.int j) σ=.ok (.int (g i j)) σ:=nr rfl
@[simp] theorem yey(g:Int->Int->Bool)(i j:Int):oB g (.int i) (.int j) σ=.ok (.bl (g i j)) σ:=nr rfl
theorem zza{C:Int->Int->Bool}{g:Int->Int->Int}{i j:Int}(h:C i j=true):oIC C g (.int i) (.int j) σ=.ok (.int (g i j)) σ:=by
 show (if C i j=true then ret _ else bad) σ=_;rw[if_pos h];rfl
@[simp] theorem zr1(i j:Int)(h:0<j)(h2:j<1073741824):yjk (.int i) (.int j) σ=.ok (.int (i / j)) σ:=zza (by simp[yh1,h,h2])
@[simp] theorem zr9(i j:Int)(h:0<j):yjr (.int i) (.int j) σ=.ok (.int (i % j)) σ:=zza (by simp[yh2,h])
theorem zzb{i j:Int}(h:-(2 ^ 64)<i)(h2:i<2 ^ 64):yjs (.int i) (.int j) σ=.ok (.int (i * j)) σ:=zza (by simp only[yh3,zqo,Bool.or_eq_true,Bool.and_eq_true,decide_eq_true_eq];exact .inl ⟨h,h2⟩)
theorem zzc{i j:Int}(h:-(2 ^ 64)<j)(h2:j<2 ^ 64):yjs (.int i) (.int j) σ=.ok (.int (i * j)) σ:=zza (by simp only[yh3,zqo,Bool.or_eq_true,Bool.and_eq_true,decide_eq_true_eq];exact .inr ⟨h,h2⟩)
theorem zsb{i j:Int}(h:yh4 i j=true):yjt (.int i) (.int j) σ=.ok (.int (i ^ j.toNat)) σ:=zza h
@[simp] theorem p12:yjt (.int 10) (.int 12) σ=.ok (.int 1000000000000) σ:=zsb (by simp[yh4])
@[simp] theorem p6:yjt (.int 10) (.int 6) σ=.ok (.int 1000000) σ:=zsb (by simp[yh4])
@[simp] theorem p4:yjt (.int 10) (.int 4) σ=.ok (.int 10000) σ:=zsb (by simp[yh4])
@[simp] theorem zlj(i j:Int):yjg (.int i) (.int j) σ=.ok (.int (i+j)) σ:=nr rfl
theorem zlk{xs ys:List D}(h:xs.length+ys.length<=cap):yjg (.lst xs) (.lst ys) σ=.ok (.lst (xs++ys)) σ:=by
 show yex (.lst xs) (.lst ys) σ=_;unfold yex;simp only[yja];rw[if_pos h]
@[simp] theorem zlo(σ:Sto):yjp .non .non σ=.ok (.bl true) σ:=nr rfl
@[simp] theorem zln(b:Int):yjp (.int b) .non σ=.ok (.bl false) σ:=nr rfl
@[simp] theorem zg6(σ:Sto):ye9 .non .non σ=.ok (.bl false) σ:=nr rfl
@[simp] theorem zg5(b:Int):ye9 (.int b) .non σ=.ok (.bl true) σ:=nr rfl
theorem zy9{x y:D}{b:Bool}(h:eqD σ 8 x y=some b):oEq x y σ=.ok (.bl b) σ:=by unfold oEq;rw[h]
theorem zzd{x y:D}{b:Bool}(h:eqD σ 8 x y=some b):oNe x y σ=.ok (.bl (!b)) σ:=by unfold oNe;rw[h]
@[simp] theorem zr2(i j:Int):oEq (.int i) (.int j) σ=.ok (.bl (i == j)) σ:=zy9 (by simp[eqD,kd,eqK,eqV])
@[simp] theorem zsa(i j:Int):oNe (.int i) (.int j) σ=.ok (.bl (!(i == j))) σ:=zzd (by simp[eqD,kd,eqK,eqV])
@[simp] theorem zr3(i j:Str):oEq (.str i) (.str j) σ=.ok (.bl (i == j)) σ:=zy9 (by simp[eqD,kd,eqK,eqV])
theorem zr8{xs:List D}{k:Int}{d:D}(h:atI xs k=some d):oIx (.tup xs) (.int k) σ=.ok d σ:=by simp[oIx,yf1,h]
theorem zr6{xs:List D}{k:Int}{d:D}(h:atI xs k=some d):oIx (.lst xs) (.int k) σ=.ok d σ:=by simp[oIx,yf1,h]
@[simp] theorem yd6(a:D)(r:List D):oIx (.tup (a::r)) (.int 0) σ=.ok a σ:=zr8 (show atI _ ((0:Nat):Int)=_ from zn6 rfl)
@[simp] theorem yd7(a b:D)(r:List D):oIx (.tup (a::b::r)) (.int 1) σ=.ok b σ:=zr8 (show atI _ ((1:Nat):Int)=_ from zn6 rfl)
@[simp] theorem yd8(a b c:D)(r:List D):oIx (.tup (a::b::c::r)) (.int 2) σ=.ok c σ:=zr8 (show atI _ ((2:Nat):Int)=_ from zn6 rfl)
@[simp] theorem yd9(a b c d:D)(r:List D):oIx (.tup (a::b::c::d::r)) (.int 3) σ=.ok d σ:=zr8 (show atI _ ((3:Nat):Int)=_ from zn6 rfl)
@[simp] theorem zlp(xs:List D):yjq [.lst xs] σ=.ok (.int xs.length) σ:=nr rfl
@[simp] theorem zlq(xs:List Int):yjq [.scr xs] σ=.ok (.int xs.length) σ:=by simp[yjq,yf1]
@[simp] theorem zi3(o:List D->M D)(fs:Ev->M (List D)):yc6 o fs ρ σ=(fs ρ σ).bind o:=nr rfl
@[simp] theorem zwo(n:Nat)(f:List D->M D)(dds:List D)(fs:Ev->M (List D)):eFn n f dds fs ρ σ=(fs ρ σ).bind (fnK n f dds):=nr rfl
@[simp] theorem ydm(f:List D->M D)(a:D):fnK 1 f [] [a] σ=f [a] σ:=by unfold fnK;rw[if_pos (by simp)];simp
@[simp] theorem ydn(f:List D->M D)(a b:D):fnK 2 f [] [a,b] σ=f [a,b] σ:=by unfold fnK;rw[if_pos (by simp)];simp
@[simp] theorem ydo(f:List D->M D)(a b c:D):fnK 3 f [] [a,b,c] σ=f [a,b,c] σ:=by unfold fnK;rw[if_pos (by simp)];simp
@[simp] theorem ydp(f:List D->M D)(a b c d:D):fnK 4 f [] [a,b,c,d] σ=f [a,b,c,d] σ:=by unfold fnK;rw[if_pos (by simp)];simp
@[simp] theorem ztk:ykn ρ σ=.ok (.nx ρ) σ:=nr rfl
@[simp] theorem ztn(g h:Ev->M Fl):ykq g h ρ σ=(g ρ σ).bind (yks h):=nr rfl
@[simp] theorem ztu(h:Ev->M Fl)(ρ:Ev):yks h (.nx ρ) σ=h ρ σ:=nr rfl
@[simp] theorem ztv(h:Ev->M Fl)(d:D):yks h (.rt d) σ=.ok (.rt d) σ:=nr rfl
def xsO(ρ:Ev)(k:α->M Fl):Out α->Out Fl
 | .ok a σ'=>k a σ'
 | .ex x σ'=>.ok (.xc ρ x) σ'
 | .bad=>.bad
@[simp] theorem ygq(ρ:Ev)(m:M α)(k:α->M Fl):xs ρ m k σ=xsO ρ k (m σ):=by unfold xs xsO;cases m σ<;>rfl
@[simp] theorem yb0(ρ:Ev)(k:α->M Fl)(a:α):xsO ρ k (.ok a σ)=k a σ:=nr rfl
@[simp] theorem ztm(f:Ev->M D):ykp f ρ σ=xsO ρ ykd (f ρ σ):=ygq ..
@[simp] theorem zs6(d:D):ykd d σ=.ok (.rt d) σ:=nr rfl
@[simp] theorem zti(f:Ev->M D):ykk f ρ σ=xsO ρ (yim ρ) (f ρ σ):=ygq ..
@[simp] theorem zpe(d:D):yim ρ d σ=.ok (.nx ρ) σ:=nr rfl
@[simp] theorem zto(i:Nat)(f:Ev->M D):ykr i f ρ σ=xsO ρ (ykt i ρ) (f ρ σ):=ygq ..
@[simp] theorem ztz(i:Nat)(d:D):ykt i ρ d σ=.ok (.nx (ρ.set i (some d))) σ:=nr rfl
@[simp] theorem yax(t:Ev->M Bool)(a b:Ev->M Fl):sIf t a b ρ σ=xsO ρ (ifK (a ρ) (b ρ)) (t ρ σ):=ygq ..
@[simp] theorem ztg(f:Ev->M D)(tg:D->Ev->Option Ev):yki f tg ρ σ=xsO ρ (yhv tg ρ) (f ρ σ):=ygq ..
@[simp] theorem yau(n:Nat)(g:Ev->M Fl)(ds:List D):run n g ds σ=ykh (g (ds.map some++List.replicate (n - ds.length) none) σ):=nr rfl
@[simp] theorem ztd(d:D):ykh (.ok (.rt d) σ)=.ok d σ:=nr rfl
@[simp] theorem ztc:ykh (.ok (.nx ρ) σ)=.ok .non σ:=nr rfl
@[simp] theorem zxn(f:M D):frz f σ=yir σ (f σ):=nr rfl
@[simp] theorem zo9(f:Ev->M D):yie f ρ σ=yir σ (f ρ σ):=nr rfl
theorem ydu{k m:Nat}{σ:Sto}{d:D}(h:cl d=true):fz k σ m d=some d:=by cases m<;>(unfold fz;rw[if_pos h])
theorem zp1{σ':Sto}{d:D}(h:cl d=true)(ht:σ'.take σ.length=σ):yir σ (.ok d σ')=.ok d σ:=by
 unfold yir;dsimp only;rw[if_pos ht,ydu h]
@[simp] theorem zgd{d:D}(h:cl d=true):yir σ (.ok d σ)=.ok d σ:=zp1 h List.take_length
theorem zj0{j j':Sto}{xs:List D}(h:clL xs=true):yir σ (.ok (.ref σ.length) (σ++[.lst xs]++j))=.ok (.lst xs) σ:=by
 unfold yir;dsimp only;rw[if_pos (by simp)];have e:fz σ.length (σ++[.lst xs]++j) 6 (.ref σ.length)=some (.lst xs):=by
  unfold fz;rw[if_neg (by simp[cl])];dsimp only;rw[if_neg (Nat.lt_irrefl _)];have:(σ++[Ob.lst xs]++j)[σ.length]?=some (.lst xs):=by simp
  rw[this];dsimp only;have hl:∀ (ys:List D) (m:Nat),clL ys=true->fzL (fz σ.length (σ++[.lst xs]++j) m) ys=some ys:=by
   intro ys m;induction ys with
   |nil=>intro _;rfl
   |cons y ys ih=>
    intro hc;have hc':cl y=true/\clL ys=true:=by simpa [clL,Bool.and_eq_true]using hc
    unfold fzL;rw[ydu hc'.1,ih hc'.2]
  rw[hl xs 5 h];rfl
 rw[e]
@[simp] theorem zv7(i:Int):cl (.int i)=true:=by simp[cl]
@[simp] theorem ycu(i:Bool):cl (.bl i)=true:=by simp[cl]
@[simp] theorem zwb(i:Str):cl (.str i)=true:=by simp[cl]
@[simp] theorem zv9:cl .non=true:=by simp[cl]
@[simp] theorem zwd(xs:List D):cl (.tup xs)=clL xs:=by simp[cl]
@[simp] theorem zv8(xs:List D):cl (.lst xs)=clL xs:=by simp[cl]
@[simp] theorem zwa(n:Nat):cl (.ref n)=false:=by simp[cl]
@[simp] theorem zon:clL []=true:=by simp[clL]
@[simp] theorem zio(d:D)(ds:List D):clL (d::ds)=(cl d && clL ds):=by simp[clL]
theorem zol:∀ {ds:List D},(∀ d∈ds,cl d=true)->clL ds=true
 |[],_=>by simp
 |d::ds,h=>by rw[zio,h d List.mem_cons_self,zol fun x hx=>h x (List.mem_cons_of_mem _ hx)];rfl
theorem zom{γ:Type}{f:γ->D}{l:List γ}(h:∀ x,cl (f x)=true):clL (l.map f)=true:=zol fun d hd=>by obtain⟨x,_,rfl⟩:=List.mem_map.mp hd;exact h x
@[simp] theorem zir(l:List Int):clL (l.map D.int)=true:=zom zv7
theorem ycj{xs:List D}{k:Int}(h0:0<=k)(h:k<xs.length):atI xs k=some (xs.getD k.toNat .non):=by
 obtain⟨n,rfl⟩:=Int.eq_ofNat_of_zero_le h0;have hn:n<xs.length:=by omega
 refine zn6 ?_;show xs[n]?=some (xs.getD n .non);rw[List.getD_eq_getElem?_getD,List.getElem?_eq_getElem hn];rfl
theorem yck{is:List Int}{k:Int}(h0:0<=k)(h:k<is.length):atI (is.map D.int) k=some (.int (is.getD k.toNat 0)):=by
 rw[ycj h0 (by simpa using h)];have hn:k.toNat<is.length:=by omega
 simp[hn]
@[simp] theorem yel(a:D):lvK [a] σ=.ok (.lst [a]) σ:=nr rfl
@[simp] theorem yek:lvK [] σ=.ok (.lst []) σ:=nr rfl
@[simp] theorem yem(a b:D):lvK [a,b] σ=.ok (.lst [a,b]) σ:=nr rfl
@[simp] theorem yen(a b c d:D):lvK [a,b,c,d] σ=.ok (.lst [a,b,c,d]) σ:=nr rfl
@[simp] theorem zgw(xs:List D):yej (σ++[.lst xs]) σ.length=some xs:=by simp[yej]
@[simp] theorem zt1(a b:Ob):(σ++[a]).set σ.length b=σ++[b]:=by
 rw[List.set_append_right _ _ (Nat.le_refl _)];simp
@[simp] theorem zi5(o:D->List D->M D)(f:Ev->M D)(fs:Ev->M (List D)):yc9 o f fs ρ σ=(f ρ σ).bind (yeq o (fs ρ)):=nr rfl
theorem zla{o:D->List D->M D}{m:M (List D)}{x:D}{xs:List D}(h:yja σ x=some xs):yeq o m x σ=(m σ).bind (o x):=by unfold yeq;rw[h];rfl
@[simp] theorem zgz(o:D->List D->M D)(m:M (List D))(xs:List D):yeq o m (.ref σ.length) (σ++[.lst xs])=(m (σ++[.lst xs])).bind (o (.ref σ.length)):=zla (xs:=xs) (by simp[yja])
theorem zd9{xs:List D}{d:D}(h:xs.length<1000):zrz (.ref σ.length) [d] (σ++[.lst xs])=.ok .non (σ++[.lst (xs++[d])]):=by
 unfold zrz;simp only[zgw];rw[if_pos (show xs.length<cap from h),zt1]
theorem zlm{neg:Bool}{w:Int}{x:D}{ws:List Int}(h:yf1 σ x=some (ws.map D.int)):oIn neg (.int w) x σ=.ok (.bl (if neg then !(ws.any (·== w))else ws.any (·== w))) σ:=by
 have h1:∀ l:List Int,(l.map D.int).all isF=true:=fun l=>by simp[isF,sc]
 have h2:∀ l:List Int,((l.map D.int).any fun z=>eqF z (.int w))=l.any (·== w):=fun l=>by simp[eqF,sc,eqV,List.any_map,Function.comp_def]
 unfold oIn;rw[h];simp only[h1,h2,show isF (.int w)=true from rfl,Bool.and_self,if_true]
@[simp] theorem zht(xs:List D):yf1 σ (.lst xs)=some xs:=nr rfl
@[simp] theorem zut(f:Ev->M D):yk0 f ρ σ=(f ρ σ).bind yf0:=nr rfl
@[simp] theorem zhs(ds:List D):yf0 (.tup ds) σ=.ok (.seq ds) σ:=nr rfl
@[simp] theorem zhr(ds:List D):yf0 (.lst ds) σ=.ok (.seq ds) σ:=nr rfl
@[simp] theorem zus(f:Ev->M D):ykz f ρ σ=(f ρ σ).bind yke:=nr rfl
theorem zs7{j:Int}(h:-(2 ^ 62)<=j)(h2:j<2 ^ 62):yke (.int j) σ=.ok (.seq (yao j.toNat)) σ:=by
 unfold yke;dsimp only;rw[if_pos (by simp only[zuc,zqo,Bool.and_eq_true,decide_eq_true_eq];exact⟨h,h2⟩)]
@[simp] theorem ztj(src:Ev->M Src)(tg:D->Ev->Option Ev)(body:Ev->M Fl):ykm src tg body ρ σ=xsO ρ (yip tg body ρ) (src ρ σ):=ygq ..
@[simp] theorem zjx(tg:D->Ev->Option Ev)(body:Ev->M Fl)(ds:List D):yip tg body ρ (.seq ds) σ=yi9 tg body ds ρ σ:=nr rfl
@[simp] theorem zk3(tg:D->Ev->Option Ev)(body:Ev->M Fl):yi9 tg body [] ρ σ=.ok (.nx ρ) σ:=nr rfl
theorem zgt{tg:D->Ev->Option Ev}{body:Ev->M Fl}{d:D}{ds:List D}{ρ1:Ev}(h:tg d ρ=some ρ1):yi9 tg body (d::ds) ρ σ=(body ρ1 σ).bind (yeg (yi9 tg body ds)):=by
 show (match tg d ρ with|none=>bad|some ρ1=>bnd (body ρ1) (yeg (yi9 tg body ds))) σ=_;rw[h];rfl
@[simp] theorem zk4(i:Nat)(body:Ev->M Fl)(d:D)(ds:List D):yi9 (tgN i) body (d::ds) ρ σ=(body (ρ.set i (some d)) σ).bind (yeg (yi9 (tgN i) body ds)):=zgt rfl
@[simp] theorem zk2(k:Ev->M Fl):yeg k (.nx ρ) σ=k ρ σ:=nr rfl
theorem zhj(n:Nat):yao n=(List.range' 0 n).map fun(k:Nat)=>D.int k:=by unfold yao;rw[List.range_eq_range']
theorem zy6{m:M α}{a:α}{σ':Sto}(h:m σ=.ok a σ'):nox m σ=.ok a σ':=by unfold nox;rw[h]
end
section
variable{α β:Type}{ρ:Ev}{σ:Sto}
@[simp] theorem zhu(ns:List Int):yf1 σ (.scr ns)=some (ns.map D.int):=nr rfl
theorem zr7{ns:List Int}{k:Int}(h0:0<=k)(h:k<ns.length):oIx (.scr ns) (.int k) σ=.ok (.int (ns.getD k.toNat 0)) σ:=by
 simp only[oIx,zhu,yck h0 h]
@[simp] theorem zf7(o o':D->D->M D)(a b c:Ev->M D):zwn o o' a b c ρ σ=(a ρ σ).bind (zv3 o o' (b ρ) (c ρ)):=nr rfl
def pl:Nat->D->Bool
 |_,.non=>true
 |_,.bl _=>true
 |_,.int _=>true
 |_,.str _=>true
 |n+1,.tup xs=>xs.all (pl n)
 |n+1,.lst xs=>xs.all (pl n)
 |_,_=>false
@[simp] theorem zfz(o o':D->D->M D)(b c:M D)(x:D):zv3 o o' b c x σ=(b σ).bind (zv5 o o' c x):=nr rfl
@[simp] theorem zf1(o o':D->D->M D)(c:M D)(x y:D):zv5 o o' c x y σ=(o x y σ).bind (zv4 o' c y):=nr rfl
@[simp] theorem zf0(o':D->D->M D)(c:M D)(y:D)(b:Bool):zv4 o' c y (.bl b) σ=ifK (bnd c (o' y)) (ret (.bl false)) b σ:=nr rfl
theorem zjy{a:Ob}{d:D}(h:cl d=true):yir σ (.ok d (σ++[a]))=.ok d σ:=zp1 h (by simp)
@[simp] theorem zen(l:List Int):zyc (l.map D.int)=some l:=by
 induction l with
 |nil=>rfl
 |cons x l ih=>simp[zyc,ih]
end
section
variable{ρ:Ev}{σ:Sto}
theorem zk7{c n:Nat}{fn:List D->M D}{ds:List D}(h:ds.length+1=n):yep c n fn ds σ=yew σ.length (fn (.ref σ.length::ds) (σ++[.ins c []])):=by unfold yep;rw[if_pos h]
@[simp] theorem zlg(n:Nat):yew n (.ok .non σ)=.ok (.ref n) σ:=nr rfl
@[simp] theorem ztl(cs:List Nat)(f:Str)(fv fo:Ev->M D):yko cs f fv fo ρ σ=xsO ρ (yfn ρ cs f fo) (fv ρ σ):=ygq ..
@[simp] theorem zl8(cs:List Nat)(f:Str)(fo:Ev->M D)(d:D):yfn ρ cs f fo d σ=xsO ρ (yfo ρ cs f d) (fo ρ σ):=ygq ..
theorem zhi{cs:List Nat}{f:Str}{d:D}{c:Nat}{fs:List (Str × D)}(h:cs.contains c=true)(hl:fs.length<1000):yfo ρ cs f d (.ref σ.length) (σ++[.ins c fs])=.ok (.nx ρ) (σ++[.ins c (yj1 f d fs)]):=by
 have e:yju cs f d (.ref σ.length) (σ++[.ins c fs])=.ok () (σ++[.ins c (yj1 f d fs)]):=by
  have:(σ++[Ob.ins c fs])[σ.length]?=some (.ins c fs):=by simp
  unfold yju;simp only[this];rw[if_pos (by rw[h];simpa using hl)];simp
 unfold yfo;rw[e]
theorem zgh{c:Nat}{ns:List Str}{ds:List D}(h:ns.length=ds.length):yd4 σ (.obj c ns ds)=some (c,ns.zip ds):=by unfold yd4;dsimp only;rw[if_pos h]
theorem zr5{cs:List Nat}{f:Str}{x d:D}{c:Nat}{fs:List (Str × D)}(h:yd4 σ x=some (c,fs))(hc:cs.contains c=true)(hl:fs.lookup f=some d):yjm cs f x σ=.ok d σ:=by
 unfold yjm;rw[h];dsimp only;rw[if_pos hc,hl]
theorem zjz{c:Nat}{fs:List (Str × D)}(h:clL (fs.map (·.2))=true):yir σ (.ok (.ref σ.length) (σ++[.ins c fs]))=.ok (.obj c (fs.map (·.1)) (fs.map (·.2))) σ:=by
 unfold yir;dsimp only;rw[if_pos (by simp)];have e:fz σ.length (σ++[.ins c fs]) 6 (.ref σ.length)=some (.obj c (fs.map (·.1)) (fs.map (·.2))):=by
  unfold fz;rw[if_neg (by simp)];dsimp only;rw[if_neg (Nat.lt_irrefl _)];have:(σ++[Ob.ins c fs])[σ.length]?=some (.ins c fs):=by simp
  rw[this];dsimp only;have hl:∀ (ys:List D) (m:Nat),clL ys=true->fzL (fz σ.length (σ++[.ins c fs]) m) ys=some ys:=by
   intro ys m;induction ys with
   |nil=>intro _;rfl
   |cons y ys ih=>
    intro hc;have hc':cl y=true/\clL ys=true:=by simpa [clL,Bool.and_eq_true]using hc
    unfold fzL;rw[ydu hc'.1,ih hc'.2]
  rw[hl _ 5 h];rfl
 rw[e]
@[simp] theorem zlr(i j:Int):ye8 [.int i,.int j] σ=.ok (.int (max i j)) σ:=nr rfl
end
end L4
namespace L4
open PySem PySem.Spec PySem.Calls PyProof.Rows PySem.Builtin PySem.Builtin.ObjectAttr PySem.Builtin.Getset_descriptor L2
structure ExK(K:PySem.W.Frag)(C:Addr):Prop where
 g:PySem.W.findIn K (.ref C) "__getattribute__" = some (some (.builtin "BaseException.__getattribute__"))
 g2:PySem.W.findIn K (.ref C) "__getattr__" = some none
 mb:PySem.W.mroIn K C (.type "BaseException")=some true
 d:PySem.W.hasDictIn K C=true
 a:PySem.W.findIn K (.ref C) "__class__" = some (some (.builtin "object.__class__"))
 n:PySem.W.specialIn K (.builtin "object.__class__") "__get__" = some (some (.builtin "getset_descriptor.__get__"))
 t:PySem.W.takesIn K (.builtin "object.__class__")=some true
 m:PySem.W.mroIn K C (.type "object")=some true
section
variable{prog:Program}{w:World}{A:Around}{E:Value->Shared->Prop}{s:Shared}{K:PySem.W.Frag}{C ea:Addr}{hp:Heap}{Mo:Model}
theorem zvc.plain{dd:Option Addr}(p:zvc C dd ea hp):yb4 C ea hp:=let ⟨o,h1,h2,_⟩:=p;⟨o,h1,h2⟩
end
section
variable{T:Tb}{X:Cx}
inductive ClsV(X:Cx)(y:Str):V->Value->Prop where
 |own {a:Addr} (h:X.mg y=some (.ref a)):ClsV X y (.ref a) (.ref a)
 |bt {n:String} (h:X.mg y=none) (hv:bootBuiltins y=some (.type n)) (hn:y ≠ "__name__"):ClsV X y (.ty n) (.type n)
theorem ClsV.rel{y:Str}{vc:V}{cv:Value}(h:ClsV X y vc cv):∀ u,yhe vc u->u=cv:=by
 cases h with
 |own h=>exact fun u q=>q
 |bt h hv hn=>exact fun u q=>q
end
section
variable{ρ:Ev}{σ:Sto}
end
end L4
namespace L4
open PySem PySem.Spec PySem.Calls PyProof.Rows L2
section
variable{T:Tb}{X:Cx}
end
end L4
namespace HT
open PySem Builtin
open Sem (wp)
end HT
namespace L4
open PySem PySem.Spec PyProof.Rows L2
end L4
namespace HT
open PySem Builtin
open Sem (wp)
end HT
namespace L4
open PySem PySem.Spec PyProof.Rows L2
section
variable{T:Tb}{X:Cx}
end
end L4
namespace L2
open PySem PySem.Spec PyProof.Rows
section
variable{κ:Type}[DecidableEq κ]
def yll(kvs:List (κ × V))(k:κ):Option V:=(kvs.find? fun kv=>decide (kv.1=k)).map (·.2)
def yj3(kvs:List (κ × V))(k:κ)(v:V):List (κ × V):=
 if (kvs.any fun kv=>decide (kv.1=k))=true then kvs.map (fun kv=>if kv.1=k then (kv.1,v)else kv)else kvs++[(k,v)]
def yc2(kvs:List (κ × V))(k:κ):List (κ × V):=kvs.filter fun kv=>decide (kv.1≠k)
theorem znh{p:κ × V}{r:List (κ × V)}{k:κ}(e:p.1=k):yll (p::r) k=some p.2:=by simp[yll,List.find?_cons,e]
theorem zng{p:κ × V}{r:List (κ × V)}{k:κ}(e:¬ p.1=k):yll (p::r) k=yll r k:=by simp[yll,List.find?_cons,e]
theorem znf(k:κ):∀ kvs:List (κ × V),(kvs.any fun kv=>decide (kv.1=k))=(yll kvs k).isSome
 |[]=>rfl
 |p::r=>by
  rw[List.any_cons];by_cases e:p.1=k
  ·simp only[znh e,decide_eq_true e,Bool.true_or,Option.isSome_some]
  ·rw[zng e,decide_eq_false e,Bool.false_or];exact znf k r
theorem zdp(kvs:List (κ × V))(k:κ)(v:V):(yj3 kvs k v).length<=kvs.length+1:=by
 unfold yj3;split
 ·rw[List.length_map];omega
 ·rw[List.length_append,List.length_cons,List.length_nil];omega
theorem yhd.isSome_eq{o:Option V}{u:Option Value}(r:yhd o u):o.isSome=u.isSome:=by
 cases o with
 |none=>cases u with
  |none=>rfl
  |some _=>exact(show False from r).elim
 |some _=>cases u with
  |none=>exact(show False from r).elim
  |some _=>rfl
theorem yhd.getD{o:Option V}{u:Option Value}{d:V}{d':Value}(r:yhd o u)(rd:yhe d d'):yhe (o.getD d) (u.getD d'):=by
 cases o with
 |none=>cases u with
  |none=>exact rd
  |some _=>exact(show False from r).elim
 |some _=>cases u with
  |none=>exact(show False from r).elim
  |some _=>exact r
theorem KV.val{kvs:List (κ × V)}{vs:List (κ × Value)}(r:KV kvs vs)(k:κ):yhd (yll kvs k) (valueAt vs k):=by
 unfold KV at r;induction r with
 |nil=>exact True.intro
 |@cons p q ps qs h t ih=>
  obtain⟨h1,h2⟩:=h;by_cases e:p.1=k
  ·have e':q.1=k:=h1.symm.trans e;have b:valueAt (q::qs) k=some q.2:=by simp[valueAt,List.find?_cons,e']
   rw[znh e,b];exact h2
  ·have e':¬ q.1=k:=fun z=>e (h1.trans z);have b:valueAt (q::qs) k=valueAt qs k:=by simp[valueAt,List.find?_cons,e']
   rw[zng e,b];exact ih
theorem KV.any{kvs:List (κ × V)}{vs:List (κ × Value)}(r:KV kvs vs)(k:κ):(kvs.any fun kv=>decide (kv.1=k))=vs.any fun kv=>decide (kv.1=k):=by
 unfold KV at r;induction r with
 |nil=>rfl
 |cons h t ih=>rw[List.any_cons,List.any_cons,ih,h.1]
theorem KV.repl{kvs:List (κ × V)}{vs:List (κ × Value)}(r:KV kvs vs)(k:κ){y:V}{u:Value}(ry:yhe y u) :
  KV (kvs.map fun kv=>if kv.1=k then (kv.1,y)else kv) (vs.map fun kv=>if kv.1=k then (kv.1,u)else kv):=by
 unfold KV at r ⊢;induction r with
 |nil=>exact .nil
 |@cons p q ps qs h t ih=>
  rw[List.map_cons,List.map_cons];refine .cons ?_ ih;obtain⟨h1,h2⟩:=h;by_cases e:p.1=k
  ·rw[if_pos e,if_pos (h1.symm.trans e)];exact⟨h1,ry⟩
  ·rw[if_neg e,if_neg (fun z=>e (h1.trans z))];exact⟨h1,h2⟩
theorem KV.put{kvs:List (κ × V)}{vs:List (κ × Value)}(r:KV kvs vs)(k:κ){y:V}{u:Value}(ry:yhe y u):KV (yj3 kvs k y) (stored vs k u):=by
 unfold yj3 stored;rw[r.any k];by_cases e:(vs.any fun kv=>decide (kv.1=k))=true
 ·rw[if_pos e,if_pos e];exact r.repl k ry
 ·rw[if_neg e,if_neg e];exact Paired.snoc r ⟨rfl,ry⟩
theorem KV.drop{kvs:List (κ × V)}{vs:List (κ × Value)}(r:KV kvs vs)(k:κ):KV (yc2 kvs k) (without vs k):=by
 unfold KV at r ⊢;unfold yc2 without;induction r with
 |nil=>exact .nil
 |@cons p q ps qs h t ih=>
  obtain⟨h1,h2⟩:=h;rw[List.filter_cons,List.filter_cons];by_cases e:p.1=k
  ·have a:¬ decide (p.1≠k)=true:=by simp[e]
   have b:¬ decide (q.1≠k)=true:=by simp[h1.symm.trans e]
   rw[if_neg a,if_neg b];exact ih
  ·have e':¬ q.1=k:=fun z=>e (h1.trans z);have a:decide (p.1≠k)=true:=by simp[e]
   have b:decide (q.1≠k)=true:=by simp[e']
   rw[if_pos a,if_pos b];exact .cons ⟨h1,h2⟩ ih
theorem KV.keys{kvs:List (κ × V)}{vs:List (κ × Value)}(r:KV kvs vs):kvs.map (·.1)=vs.map (·.1):=by
 unfold KV at r;induction r with
 |nil=>rfl
 |cons h t ih=>rw[List.map_cons,List.map_cons,ih,h.1]
theorem KV.length{kvs:List (κ × V)}{vs:List (κ × Value)}(r:KV kvs vs):kvs.length=vs.length:=Paired.length r
end
theorem yea{P:Program}{w:World}{k:Key}{u:Value}(r:yhe (kV k) u):(zrr P w).is k u=true:=by
 cases k with
 |inl i=>obtain⟨t,e⟩:=(show ∃ t,u=Value.int i t from r);subst e;exact zdr P w i t
 |inr x=>obtain⟨t,e⟩:=(show ∃ t,u=Value.str x t from r);subst e;exact zds P w x t
theorem zgj{P:Program}{w:World}:∀ {ks:List Key} {us:List Value},yho (ks.map kV) us->ItemsAre (zrr P w) ks us
 |[],_,r=>by rw[List.map_nil]at r;cases r;exact .nil
 |k::ks,_,r=>by
  rw[List.map_cons]at r;cases r with
  |cons h t=>exact .cons (yea h) (zgj t)
abbrev KT(H:Hp):List (List Key × V)->List (List Key × Addr × Value)->Prop:=Paired fun p q=>p.1=q.1/\H q.2.1=some (.tup (p.1.map kV))/\yhe p.2 q.2.2
theorem KT.val{H:Hp}{kvs:List (List Key × V)}{xs:List (List Key × Addr × Value)}(r:KT H kvs xs)(k:List Key):yhd (yll kvs k) ((atKey xs k).map (·.2)):=by
 induction r with
 |nil=>exact True.intro
 |@cons p q ps qs h t ih=>
  obtain⟨h1,_,h2⟩:=h;by_cases e:p.1=k
  ·have e':q.1=k:=h1.symm.trans e;have b:atKey (q::qs) k=some q.2:=by simp[atKey,List.find?_cons,e']
   rw[znh e,b];exact h2
  ·have e':¬ q.1=k:=fun z=>e (h1.trans z);have b:atKey (q::qs) k=atKey qs k:=by simp[atKey,List.find?_cons,e']
   rw[zng e,b];exact ih
theorem KT.repl{H:Hp}{kvs:List (List Key × V)}{xs:List (List Key × Addr × Value)}(r:KT H kvs xs)(k:List Key){y:V}{u:Value}(ry:yhe y u) :
  KT H (kvs.map fun kv=>if kv.1=k then (kv.1,y)else kv) (xs.map (putAt k u)):=by
 induction r with
 |nil=>exact .nil
 |@cons p q ps qs h t ih=>
  rw[List.map_cons,List.map_cons];refine .cons ?_ ih;obtain⟨h1,h2,h3⟩:=h;unfold putAt;by_cases e:p.1=k
  ·rw[if_pos e,if_pos (h1.symm.trans e)];exact⟨h1,h2,ry⟩
  ·rw[if_neg e,if_neg (fun z=>e (h1.trans z))];exact⟨h1,h2,h3⟩
theorem KT.put{H:Hp}{kvs:List (List Key × V)}{xs:List (List Key × Addr × Value)}(r:KT H kvs xs)(k:List Key){b:Addr}{y:V}{u:Value}(hb:H b=some (.tup (k.map kV)))(ry:yhe y u) :
  KT H (yj3 kvs k y) (storedH xs k b u):=by
 have e:(kvs.any fun kv=>decide (kv.1=k))=(atKey xs k).isSome:=by
  rw[znf,(r.val k).isSome_eq,Option.isSome_map]
 unfold yj3 storedH;rw[e];by_cases q:(atKey xs k).isSome=true
 ·rw[if_pos q,if_pos q];exact r.repl k ry
 ·rw[if_neg q,if_neg q];exact Paired.snoc r ⟨rfl,hb,ry⟩
theorem KT.keeps{H H':Hp}{kvs:List (List Key × V)}{xs:List (List Key × Addr × Value)}(r:KT H kvs xs)(ht:∀ b ys,H b=some (.tup ys)->H' b=some (.tup ys)):KT H' kvs xs:=
 Paired.mapP r fun _ _ z=>⟨z.1,ht _ _ z.2.1,z.2.2⟩
section
variable{P:Program}{w:World}{H:Hp}{h:Heap}{a:Addr}
theorem yfu{u:HO}(ok:HOk P w H h)(e:Rd H a u):yb8 P w H h a u:=e.ok ok
theorem yc1{kvs:List (Key × V)}(ok:HOk P w H h)(e:Rd H a (.dK kvs)):kvs.length<=sizeLine/\(a == sysModules)=false/\∃ vs,KV kvs vs/\h.DictOf (zrr P w) a vs:=
 show yb8 P w H h a (.dK kvs)from yfu ok e
theorem yc0{kvs:List (Key × V)}(ok:HOk P w H h)(e:H a=some (.dK kvs)):kvs.length<=sizeLine/\(a == sysModules)=false/\∃ vs,KV kvs vs/\h.DictOf (zrr P w) a vs:=yc1 ok (.inl e)
theorem zyk{ks:List Key}(ok:HOk P w H h)(e:H a=some (.tup (ks.map kV))):(tupleKind (zrr P w)).is h ks a:=by
 obtain⟨_,its,r,o,h1,h2,n,h3⟩:=(show yb8 P w H h a (.tup (ks.map kV))from ok a _ e)
 exact⟨o,its.toArray,n,h1,h2,h3,by simpa using zgj r⟩
theorem yc4{kvs:List (List Key × V)}(ok:HOk P w H h)(e:Rd H a (.dT kvs)):kvs.length<=sizeLine/\(a == sysModules)=false/\
  ∃ xs,KT H kvs xs/\h.DictOfH (tupleKind (zrr P w)) a xs:=by
 obtain⟨z,y,xs,r,o,es,ep,h1,h2,h3,h4,h5⟩:=(show yb8 P w H h a (.dT kvs)from yfu ok e)
 refine⟨z,y,xs,r,o,es,ep,h1,h2,h3,h4,fun x hx=>?_,h5⟩;have all:∀ {l:List (List Key × V)} {m:List (List Key × Addr × Value)},KT H l m->∀ x∈m,(tupleKind (zrr P w)).is h x.1 x.2.1:=by
  intro l m q;induction q with
  |nil=>intro x hx;exact nomatch hx
  |@cons p q ps qs hq t ih=>
   intro x hx;rcases List.mem_cons.mp hx with e|hx
   ·subst e;exact zyk ok (by rw[<-hq.1];exact hq.2.1)
   ·exact ih x hx
 exact all r x hx
theorem yc3{kvs:List (List Key × V)}(ok:HOk P w H h)(e:H a=some (.dT kvs)):kvs.length<=sizeLine/\(a == sysModules)=false/\
  ∃ xs,KT H kvs xs/\h.DictOfH (tupleKind (zrr P w)) a xs:=yc4 ok (.inl e)
end
def DGet(H:Hp)(a:Addr)(y:V)(r:Option V):Prop:=
 (∃ kvs k,Rd H a (.dK kvs)/\y=kV k/\r=yll kvs k)\/∃ kvs k b,Rd H a (.dT kvs)/\y=.ref b/\H b=some (.tup (k.map kV))/\r=yll kvs k
def ygx(H:Hp)(a:Addr)(y v:V)(H':Hp):Prop:=
 (∃ kvs k,H a=some (.dK kvs)/\y=kV k/\kvs.length<sizeLine/\H'=upd H a (.dK (yj3 kvs k v)))\/
 ∃ kvs k b,H a=some (.dT kvs)/\y=.ref b/\H b=some (.tup (k.map kV))/\kvs.length<sizeLine/\H'=upd H a (.dT (yj3 kvs k v))
theorem DGet.k{H:Hp}{a:Addr}{kvs:List (Key × V)}{k:Key}(e:H a=some (.dK kvs)):DGet H a (kV k) (yll kvs k):=.inl ⟨kvs,k,.inl e,rfl,rfl⟩
theorem DGet.t{H:Hp}{a b:Addr}{kvs:List (List Key × V)}{k:List Key}(e:H a=some (.dT kvs))(eb:H b=some (.tup (k.map kV))):DGet H a (.ref b) (yll kvs k):=.inr ⟨kvs,k,b,.inl e,rfl,eb,rfl⟩
theorem ygx.k{H:Hp}{a:Addr}{kvs:List (Key × V)}{k:Key}{v:V}(e:H a=some (.dK kvs))(hl:kvs.length<sizeLine):ygx H a (kV k) v (upd H a (.dK (yj3 kvs k v))):=.inl ⟨kvs,k,e,rfl,hl,rfl⟩
theorem ygx.t{H:Hp}{a b:Addr}{kvs:List (List Key × V)}{k:List Key}{v:V}(e:H a=some (.dT kvs))(eb:H b=some (.tup (k.map kV)))(hl:kvs.length<sizeLine) :
  ygx H a (.ref b) v (upd H a (.dT (yj3 kvs k v))):=.inr ⟨kvs,k,b,e,rfl,eb,hl,rfl⟩
section
variable{X:Cx}{pins:List (Addr × Obj)}{σ:St}{H:Hp}{s:Shared}{a:Addr}{y v:V}{u r:Value}{o:Option V}{A:Around}{E:Value->Shared->Prop}
theorem Inv.big(I:Inv X pins σ H s):sysModules<s.heap.objs.size:=by
 have h:mainGlobals<s.heap.objs.size:=(I.mod.glob.keeps I.bk).lt;exact Nat.lt_trans (by decide) h
theorem zf3{Q:Value->Shared->Prop}(hu:A.units+1<cLine)(I:Inv X pins σ H s)(g:DGet H a y (some v))(ry:yhe y u)(h:∀ w' s',Inv X pins σ H s'->yhe v w'->Q w' s') :
  wpAny (model X.prog X.w) A (getItem (.ref a) u) Q E s:=by
 rcases g with⟨kvs,k,e,ey,l⟩|⟨kvs,k,b,e,ey,eb,l⟩
 ·subst ey;obtain⟨z,hd,vs,rel,dd⟩:=yc1 I.hok e;obtain⟨w',hw,rw'⟩:=yhd.some_of (v:=v) (o:=valueAt vs k) (by rw[l];exact rel.val k);exact wpAny_getItem_of (yea ry) dd.mapOf hw (h w' _ (I.tok _) rw')
 ·subst ey;cases (show u=Value.ref b from ry);obtain⟨z,hd,xs,rel,dd⟩:=yc4 I.hok e;obtain⟨w',hw,rw'⟩:=yhd.some_of (v:=v) (o:=(atKey xs k).map (·.2)) (by rw[l];exact rel.val k);obtain⟨p,hp,hp2⟩:=Option.map_eq_some_iff.mp hw;refine wpAny_getItem_heap (tupleKind_room_in1 hu) (zyk I.hok eb) dd hp ?_;rw[hp2];exact h w' _ (I.tok _) rw'
theorem yia{Q:Value->Shared->Prop}(hu:A.units+1<cLine)(I:Inv X pins σ H s)(g:DGet H a y o)(ry:yhe y u)(h:∀ s',Inv X pins σ H s'->Q (.bool o.isSome) s') :
  wpAny (model X.prog X.w) A (compareOp .In u (.ref a)) Q E s:=by
 rcases g with⟨kvs,k,e,ey,l⟩|⟨kvs,k,b,e,ey,eb,l⟩
 ·subst ey;obtain⟨z,hd,vs,rel,dd⟩:=yc1 I.hok e;refine wpAny_in_of (yea ry) hd dd.mapOf ?_;rw[<-(rel.val k).isSome_eq,<-l];exact h _ (I.tok _)
 ·subst ey;cases (show u=Value.ref b from ry);obtain⟨z,hd,xs,rel,dd⟩:=yc4 I.hok e;refine wpAny_in_heap (tupleKind_room_in1 hu) (zyk I.hok eb) hd dd ?_;have q:=(rel.val k).isSome_eq;rw[Option.isSome_map]at q;rw[<-q,<-l];exact h _ (I.tok _)
theorem zoy{Q:Value->Shared->Prop}(hu:A.units+1<cLine)(I:Inv X pins σ H s)(g:DGet H a y o)(ry:yhe y u)(h:∀ s',Inv X pins σ H s'->Q (.bool (!o.isSome)) s') :
  wpAny (model X.prog X.w) A (compareOp .NotIn u (.ref a)) Q E s:=by
 rcases g with⟨kvs,k,e,ey,l⟩|⟨kvs,k,b,e,ey,eb,l⟩
 ·subst ey;obtain⟨z,hd,vs,rel,dd⟩:=yc1 I.hok e;refine wpAny_notIn_of (yea ry) hd dd.mapOf ?_;rw[<-(rel.val k).isSome_eq,<-l];exact h _ (I.tok _)
 ·subst ey;cases (show u=Value.ref b from ry);obtain⟨z,hd,xs,rel,dd⟩:=yc4 I.hok e;refine wpAny_notIn_heap (tupleKind_room_in1 hu) (zyk I.hok eb) hd dd ?_;have q:=(rel.val k).isSome_eq;rw[Option.isSome_map]at q;rw[<-q,<-l];exact h _ (I.tok _)
theorem zoz{h':Heap}{t':Nat}{ob:HO}(I:Inv X pins σ H s)(mu:Mut (H a))(hs:Heap.SameBut a s.heap h')(he:∃ q,h'.get? a=some q)(new:yb8 X.prog X.w (upd H a ob) h' a ob) :
  Inv X pins σ (upd H a ob) { s with heap:=h',toks:=t' }:=
 I.write (x:=a) (e:=a) mu (.inl rfl) (fun b q hb z=>(hs.2 b hb).trans z) he new
theorem zwk{P:Program}{w:World}{H':Hp}{h':Heap}{kvs:List (Key × V)}{vs:List (Key × Value)}(z:kvs.length<=sizeLine)(hd:(a == sysModules)=false)(rel:KV kvs vs)(dd:h'.DictOf (zrr P w) a vs) :
  yb8 P w H' h' a (.dK kvs):=⟨z,hd,vs,rel,dd⟩
theorem zf4{H':Hp}{Q:Unit->Shared->Prop}(hu:A.units+1<cLine)(I:Inv X pins σ H s)(g:ygx H a y v H')(ry:yhe y u)(rv:yhe v r)(h:∀ s',Inv X pins σ H' s'->Q () s') :
  wpAny (model X.prog X.w) A (setItem (.ref a) u r) Q E s:=by
 rcases g with⟨kvs,k,e,ey,l,eH⟩|⟨kvs,k,b,e,ey,eb,l,eH⟩
 ·subst ey eH;obtain⟨z,hd,vs,rel,dd⟩:=yc0 I.hok e;have hz:vs.length<=sizeLine:=by rw[<-rel.length];exact z
  have hl:(yj3 kvs k v).length<=sizeLine:=by have:=zdp kvs k v;omega
  refine wpAny_setItem_pairs (hsz:=hz) (yea ry) dd fun h' dd' hs=>h _ ?_;have he:∃ q,h'.get? a=some q:=let ⟨q,_,_,hq,_⟩:=dd';⟨q,hq⟩;exact zoz I (by rw[e];exact True.intro) hs he (zwk hl hd (rel.put k rv) dd')
 ·subst ey eH;cases (show u=Value.ref b from ry);obtain⟨z,hd,xs,rel,dd⟩:=yc3 I.hok e;have hz:xs.length<=sizeLine:=by rw[<-Paired.length rel];exact z
  have hl:(yj3 kvs k v).length<=sizeLine:=by have:=zdp kvs k v;omega
  refine wpAny_setItem_heap (hsz:=hz) (tupleKind_room_in1 hu) (zyk I.hok eb) dd fun h' dd' hs=>h _ ?_;obtain⟨q,es,ep,hq,h2,h3,h4,_,h5⟩:=dd';refine zoz I (by rw[e];exact True.intro) hs ⟨q,hq⟩ ⟨hl,hd,_,(rel.put k eb rv).keeps fun c ys ec=>?_,q,es,ep,hq,h2,h3,h4,h5⟩;rw[yby (yev ec e (fun z=>nomatch z))];exact ec
end
section
variable{X:Cx}{pins:List (Addr × Obj)}{σ:St}{H:Hp}{s:Shared}{a:Addr}{kvs:List (Key × V)}{k:Key}{u:Value}{A:Around}{E:Value->Shared->Prop}
end
def yg7(i:Expr):Prop:=∀ ov iv,subscripted i false ov iv=operate [ov,iv] (getItem ov iv)
theorem zuw{prog:Program}{w:World}{A:Around}{E:Value->Shared->Prop}{s:Shared}{env:Env}{value slice:Expr}{pos:Pos}{T id:String}{Q:Value->Shared->Prop}
  (hl:typeLookup (.type T) "__getitem__" = pure (some (.builtin id))) (hs:yg7 slice)
  (h:wpAny (model prog w) A (eval value env) (fun o s₁=>wpAny (model prog w) A (eval slice env) (fun i s₂=>s₂.TypeIs o T/\wpAny (model prog w) A (getItem o i) Q E s₂) E s₁) E s) :
  wpAny (model prog w) A (eval (.Subscript value slice pos) env) Q E s:=by
 refine Subscript_ (wpAny_mono h (fun o s₁ h₁=>wpAny_mono h₁ (fun i s₂ h₂=>?_) fun _ _ x=>x) fun _ _ x=>x);obtain⟨hT,h₂⟩:=h₂;unfold subscriptTail;refine wpAny_bind ?_;rw[getitemInPython_of_ne hT.not_modules];refine wpAny_bind (wpAny_specialOf hT hl ?_);have fin:wpAny (model prog w) A (subscripted slice false o i) (fun r s₃=>wpAny (model prog w) A (letTemporaryGo value o r >>= fun _=>pure r) Q E s₃) E s₂:=by
  rw[hs o i];exact wpAny_operating (wpAny_mono h₂ (fun r s₃ h₃=>wpAny_bind (wpAny_letTemporaryGo (wpAny_pure h₃))) fun _ _ x=>x)
 first
  |exact wpAny_pure (wpAny_bind fin)
  |exact wpAny_bind (wpAny_pure (wpAny_bind fin))
  |exact wpAny_bind fin
theorem zdj{X:Cx}{pins:List (Addr × Obj)}{σ:St}{H:Hp}{s:Shared}{a:Addr}{y:V}{o:Option V}(I:Inv X pins σ H s)(g:DGet H a y o):s.TypeIs (.ref a) "dict":=by
 rcases g with⟨kvs,k,e,_,_⟩|⟨kvs,k,b,e,_,_,_⟩
 ·obtain⟨_,_,vs,_,dd⟩:=yc1 I.hok e;exact dd.typeIs
 ·obtain⟨_,_,xs,_,dd⟩:=yc4 I.hok e;exact dd.typeIs
def ygb(td ty:TE):TE:=fun σ H Q=>td σ H fun x H1=>ty σ H1 fun y H2=>∃ a v,x=.ref a/\DGet H2 a y (some v)/\Q v H2
section
variable{X:Cx}{o i e value:Expr}{pos pos' tpos:Pos}{td ty tv:TE}
theorem zsm(hu:X.A.units+1<cLine)(ho:PE X o td)(hi:PE X i ty)(hs:yg7 i):PE X (.Subscript o i pos) (ygb td ty):=by
 intro pins s σ H Q I h;refine zuw PySem.F.slot_dict_getitem.lookup hs (thn (ho pins s σ H _ I h) fun u s1 ⟨x,H1,I1,rx,q1⟩=>thn (hi pins s1 σ H1 _ I1 q1) fun iv s2 ⟨y,H2,I2,ry,a,v,ex,g,q2⟩=>?_);subst ex;obtain rfl:u=Value.ref a:=rx;exact⟨zdj I2 g,zf3 hu I2 g ry fun w' s3 I3 rw'=>⟨v,H2,I3,rw',q2⟩⟩
end
theorem ziz{P:Program}{w:World}{H:Hp}(h:Heap)(hb:sysModules<h.objs.size):yb8 P w H (h.push { cls:=.type "dict",data:=.dict #[] }) h.objs.size (.dK []):=
 ⟨Nat.zero_le _,beq_eq_false_iff_ne.mpr (Ne.symm (Nat.ne_of_lt hb)),[],.nil,Heap.DictOf.new h⟩
def ybk:TE:=fun _ H Q=>∀ p,H p=none->Q (.ref p) (upd H p (.dK []))
section
variable{X:Cx}{pos:Pos}
theorem zly:PE X (.Dict [] [] pos) ybk:=fun pins s σ H Q I h=>
 wpAny_Dict_empty ⟨.ref s.heap.objs.size,_,I.laid (a:=s.heap.objs.size) (o:=.dK []) (t':=s.toks) (fun _ _ q=>Heap.get?_push_of_some _ q) (Nat.le_refl _) (ziz s.heap I.big),rfl,h _ (I.hok.fresh (Nat.le_refl _))⟩
end
section
variable{X:Cx}{pins:List (Addr × Obj)}{σ:St}{H:Hp}{s:Shared}{a:Addr}{kvs:List (Key × V)}{A:Around}{E:Value->Shared->Prop}
theorem ziw{Q:Value->Shared->Prop}(I:Inv X pins σ H s)(e:Rd H a (.dK kvs))(h:∀ p s',H p=none->Inv X pins σ (upd H p (.dK kvs)) s'->Q (.ref p) s'):wpAny (model X.prog X.w) A (call (.type "dict") [.ref a]) Q E s:=by
 obtain⟨z,hd,vs,rel,dd⟩:=yc1 I.hok e;refine kt_call_dict hd dd (by rw[<-rel.length];exact z) fun h' dd' hs=>?_;refine h _ _ (I.hok.fresh (Nat.le_refl _)) (I.laid (a:=s.heap.objs.size) (o:=.dK kvs) (t':=s.toks) (fun b q hq=>?_) (Nat.le_refl _) (zwk z (beq_eq_false_iff_ne.mpr (Ne.symm (Nat.ne_of_lt I.big))) rel dd'));exact(hs.2 b (Nat.ne_of_lt (Heap.lt_size hq))).trans (Heap.get?_push_of_some _ hq)
end
end L2
namespace L4
open PySem PySem.Spec PyProof.Rows L2
def yi4:D->Option Key
 | .int i=>some (.inl i)
 | .str x=>some (.inr x)
 |_=>none
def yib(σ:Sto):D->Option (List (Key × D))
 | .dic ks xs=>if ks.length=xs.length then some (ks.zip xs)else none
 | .ref n=>(match σ[n]? with
  |some (.dic kvs)=>some kvs
  |_=>none)
 |_=>none
def ydj(kvs:List (Key × D))(k:Key):Option D:=(kvs.find? fun kv=>decide (kv.1=k)).map (·.2)
def yfm(kvs:List (Key × D))(k:Key)(d:D):List (Key × D):=
 if kvs.any (fun kv=>decide (kv.1=k))then kvs.map fun kv=>if kv.1=k then (kv.1,d)else kv else kvs++[(k,d)]
section
variable{T:Tb}{X:Cx}{μ:List Addr}{H:Hp}
theorem zq5{y:D}{v:V}{k:Key}(h:Rep T μ H y v)(e:yi4 y=some k):v=kV k:=by
 cases y<;>simp[yi4]at e<;>subst e<;>rw[Rep]at h<;>exact h
theorem zmc:∀ {ks:List Key} {ds:List D} {kvs:List (Key × V)},kvs.map (·.1)=ks->yhh T μ H ds (kvs.map (·.2))->yhg T μ H (ks.zip ds) kvs
 |ks,[],kvs,h1,h2=>by
  rw[yhh]at h2;have:kvs=[]:=by simpa using h2
  subst this;rw[<-h1];exact .nil
 |ks,d::ds,kvs,h1,h2=>by
  rw[yhh]at h2;obtain⟨v,r,e,q1,q2⟩:=h2;cases kvs with
  |nil=>cases e
  |cons p kvs=>
   rw[List.map_cons]at e h1;cases e;rw[<-h1];exact .cons ⟨rfl,q1⟩ (zmc rfl q2)
theorem yar{σ:Sto}(r:Rel T μ H σ){x:D}{v:V}{kvs:List (Key × D)}(h:Rep T μ H x v)(e:yib σ x=some kvs):∃ a vs,v=.ref a/\Rd H a (.dK vs)/\yhg T μ H kvs vs:=by
 cases x with
 |dic ks xs=>
  rw[Rep]at h;obtain⟨a,vs,rfl,_,h1,h2,h3⟩:=h;unfold yib at e;dsimp only at e;split at e
  ·cases e;exact⟨a,vs,rfl,h1,zmc h2 h3⟩
  ·cases e
 |ref n=>
  unfold yib at e;dsimp only at e;cases q:σ[n]? with
  |none=>rw[q]at e;cases e
  |some o=>
   rw[q]at e;cases o with
   |dic kvs'=>
    cases e;obtain⟨a,rfl,_,vs,h1,h2⟩:=r.at h q;exact⟨a,vs,rfl,.inl h1,h2⟩
   |_=>cases e
 |_=>cases e
theorem zjq{kvs:List (Key × D)}{vs:List (Key × V)}(h:yhg T μ H kvs vs)(k:Key):(ydj kvs k=none/\yll vs k=none)\/∃ d v,ydj kvs k=some d/\yll vs k=some v/\Rep T μ H d v:=by
 unfold yhg at h;induction h with
 |nil=>exact .inl ⟨rfl,rfl⟩
 |@cons p q ps qs h t ih=>
  obtain⟨h1,h2⟩:=h;by_cases e:p.1=k
  ·have e':q.1=k:=h1.symm.trans e;exact .inr ⟨p.2,q.2,by unfold ydj;rw[List.find?_cons,decide_eq_true e];rfl,znh e',h2⟩
  ·have e':¬ q.1=k:=fun z=>e (h1.trans z);have f:ydj (p::ps) k=ydj ps k:=by unfold ydj;rw[List.find?_cons,decide_eq_false e]
   rw[f,zng e'];exact ih
theorem zn2{kvs:List (Key × D)}{vs:List (Key × V)}(h:yhg T μ H kvs vs)(k:Key):(kvs.any fun kv=>decide (kv.1=k))=(vs.any fun kv=>decide (kv.1=k)):=by
 unfold yhg at h;induction h with
 |nil=>rfl
 |@cons p q ps qs h t ih=>rw[List.any_cons,List.any_cons,ih,h.1]
theorem zey{α β:Type}{F:α->β->Prop}{f:α->α}{g:β->β}(hfg:∀ a b,F a b->F (f a) (g b)):∀ {l:List α} {m:List β},Paired F l m->Paired F (l.map f) (m.map g)
 |_,_,.nil=>.nil
 |_,_,.cons h t=>.cons (hfg _ _ h) (zey hfg t)
theorem zdz{α β:Type}{F:α->β->Prop}{a:α}{b:β}(hab:F a b):∀ {l:List α} {m:List β},Paired F l m->Paired F (l++[a]) (m++[b])
 |_,_,.nil=>.cons hab .nil
 |_,_,.cons h t=>.cons h (zdz hab t)
theorem zi0{kvs:List (Key × D)}{vs:List (Key × V)}(h:yhg T μ H kvs vs)(k:Key){d:D}{v:V}(hd:Rep T μ H d v):yhg T μ H (yfm kvs k d) (yj3 vs k v):=by
 unfold yfm yj3;rw[zn2 h k];split
 ·refine zey (fun p q h=>?_) h;by_cases e:p.1=k
  ·rw[if_pos e,if_pos (h.1.symm.trans e)];exact⟨h.1,hd⟩
  ·rw[if_neg e,if_neg (fun z=>e (h.1.trans z))];exact h
 ·exact zdz ⟨rfl,hd⟩ h
theorem yhg.mono{μ':List Addr}{H':Hp}(e:Ext μ H μ' H'){kvs:List (Key × D)}{vs:List (Key × V)}(h:yhg T μ H kvs vs):yhg T μ' H' kvs vs:=Paired.mapP h fun _ _ z=>⟨z.1,Rep.mono e _ _ z.2⟩
theorem _root_.L2.DGet.kr{H:Hp}{a:Addr}{kvs:List (Key × V)}{k:Key}(e:Rd H a (.dK kvs)):DGet H a (kV k) (yll kvs k):=.inl ⟨kvs,k,e,rfl,rfl⟩
def yez(x y:D):M D:=fun σ=>match yi4 y with
 |some k=>(match yib σ x with
  |some kvs=>(match ydj kvs k with
   |some d=>.ok d σ
   |none=>.bad)
  |none=>.bad)
 |none=>.bad
theorem zpj{o i:Expr}{fo fi:Ev->M D}{pos:Pos}(hu:X.A.units+9<cLine)(ho:FE T X o fo)(hi:FE T X i fi)(hs:yg7 i):FE T X (.Subscript o i pos) (yid yez fo fi):=by
 intro pins s st H Q I h;refine zsm (by omega) ho hi hs pins s st H Q I ?_;obtain⟨μ,ρ,σ,hE,hr,hp⟩:=h;refine⟨μ,ρ,σ,hE,hr,hp.bind fun x σ1 μ1 v H1 _ e1 r1 q1 p1=>⟨μ1,ρ,σ1,hE.mono e1,r1,p1.bind fun y σ2 μ2 u H2 _ e2 r2 q2 p2=>?_⟩⟩;unfold yez at p2;cases ek:yi4 y with
 |none=>rw[ek]at p2;exact p2.elim
 |some k=>
  rw[ek]at p2;dsimp only at p2;cases ed:yib σ2 x with
  |none=>rw[ed]at p2;exact p2.elim
  |some kvs=>
   rw[ed]at p2;dsimp only at p2;obtain⟨a,vs,rfl,h1,h2⟩:=yar r2 (Rep.mono e2 _ _ q1) ed;obtain rfl:=zq5 q2 ek;rcases zjq h2 k with⟨z1,_⟩|⟨d,w,z1,z2,z3⟩
   ·rw[z1]at p2;exact p2.elim
   ·rw[z1]at p2;exact⟨a,w,rfl,by rw[<-z2];exact DGet.kr h1,yhb.here p2 r2 z3⟩
def yj5:R2:=fun y x H Q=>∃ a o,x=.ref a/\DGet H a y o/\Q (.bl o.isSome) H
theorem zzl(hu:X.A.units+9<cLine):OpR X (compareOp .In) yj5:=by
 intro pins s st H y x iv u Q I ry rx h;obtain⟨a,o,rfl,g,q⟩:=h;obtain rfl:u=Value.ref a:=rx;exact yia (by omega) I g ry fun s3 I3=>⟨.bl o.isSome,H,I3,rfl,q⟩
def yji(y x:D):M D:=fun σ=>match yi4 y with
 |some k=>(match yib σ x with
  |some kvs=>.ok (.bl (ydj kvs k).isSome) σ
  |none=>.bad)
 |none=>.bad
theorem zuh:ycd T yj5 yji:=by
 intro E μ H σ y x u v Q r q p h;unfold yji at h;cases ek:yi4 y with
 |none=>rw[ek]at h;exact h.elim
 |some k=>
  rw[ek]at h;dsimp only at h;cases ed:yib σ x with
  |none=>rw[ed]at h;exact h.elim
  |some kvs=>
   rw[ed]at h;obtain⟨a,vs,rfl,h1,h2⟩:=yar r p ed;obtain rfl:=zq5 q ek;refine⟨a,yll vs k,rfl,DGet.kr h1,yhb.here h r ?_⟩;rw[Rep];rcases zjq h2 k with⟨z1,z2⟩|⟨d,w,z1,z2,z3⟩
   ·rw[z1,z2];rfl
   ·rw[z1,z2];rfl
def yfr:yhk:=fun x y v H Q=>∃ a H',x=.ref a/\ygx H a y v H'/\Q H'
theorem zmr(hu:X.A.units+9<cLine):yha X yfr:=by
 intro pins s st H o i v ov iv u Q I ro ri rv h;obtain⟨a,H',rfl,g,q⟩:=h;obtain rfl:ov=Value.ref a:=ro;exact zf4 (by omega) I g ri rv fun s4 I4=>⟨H',I4,q⟩
def yf4(ρ:Ev)(d x:D)(y:D):M Fl:=fun σ=>match x with
 | .ref n=>(match yi4 y with
  |some k=>(match σ[n]? with
   |some (.dic kvs)=>if kvs.length<cap then .ok (.nx ρ) (σ.set n (.dic (yfm kvs k d)))else .bad
   |_=>.bad)
  |none=>.bad)
 |_=>.bad
def yf3(ρ:Ev)(fi:Ev->M D)(d x:D):M Fl:=xs ρ (fi ρ) (yf4 ρ d x)
def yf2(ρ:Ev)(fo fi:Ev->M D)(d:D):M Fl:=xs ρ (fo ρ) (yf3 ρ fi d)
def yfx(f fo fi:Ev->M D):Ev->M Fl:=fun ρ=>xs ρ (f ρ) (yf2 ρ fo fi)
theorem zp7{e o i:Expr}{f fo fi:Ev->M D}{pos pos':Pos}(hu:X.A.units+9<cLine)(he:FE T X e f)(ho:FE T X o fo)(hi:FE T X i fi)
  (ha:∀ v,assign (.Subscript o i pos') X.env v=(do
   let ov <-holding [v] (eval o X.env);let iv <-holding [v,ov] (eval i X.env)
   standAt pos'
   holding [v,ov,iv] (setItem ov iv v)
   release [v,ov,iv] []):=by intro _;rfl)
  (hs:swapsWithSole [.Subscript o i pos'] e pos.line X.env=pure false:=by rfl) (hw:swappedStores [.Subscript o i pos'] e X.env=pure none:=by rfl)
  (h1:(assignEach [.Subscript o i pos'] X.env).map (·.2)=[assign (.Subscript o i pos') X.env]:=by rfl):FS T X (.Assign [.Subscript o i pos'] e pos) (yfx f fo fi):=by
 intro pins s st H D I hq;refine yad he (zz5 ho hi (zmr hu) ha) hs hw h1 pins s st H D I ?_;obtain⟨μ,ρ,σ,hE,hr,hp⟩:=hq;refine⟨μ,ρ,σ,hE,hr,hp.xs hE fun d σ1 μ1 v H1 _ e1 r1 q1 p1=>?_⟩;refine⟨μ1,ρ,σ1,hE.mono e1,r1,p1.xs (hE.mono e1) fun x σ2 μ2 vo H2 _ e2 r2 q2 p2=>?_⟩;refine⟨μ2,ρ,σ2,(hE.mono e1).mono e2,r2,p2.xs ((hE.mono e1).mono e2) fun y σ3 μ3 vi H3 _ e3 r3 q3 p3=>?_⟩;have hd:=Rep.mono e3 _ _ (Rep.mono e2 _ _ q1);have hx:=Rep.mono e3 _ _ q2;unfold yf4 at p3;cases x with
 |ref n=>
  dsimp only at p3;cases ek:yi4 y with
  |none=>rw[ek]at p3;exact p3.elim
  |some k=>
   rw[ek]at p3;dsimp only at p3;cases el:σ3[n]? with
   |none=>rw[el]at p3;exact p3.elim
   |some ob=>
    rw[el]at p3;cases ob with
    |dic kvs=>
     dsimp only at p3;by_cases hc:kvs.length<cap
     ·rw[if_pos hc]at p3;obtain⟨a,rfl,hn,vs,g1,g2⟩:=r3.at hx el;obtain rfl:=zq5 q3 ek;have wr:=r3.write (o:=.dK (yj3 vs k v)) (ob:=.dic (yfm kvs k d)) hn ⟨_,zne,by
       have ex:Ext μ3 H3 μ3 (upd H3 a (.dK (yj3 vs k v))):=zf9 (List.mem_of_getElem? hn) g1 (fun _ z=>by cases z) (fun _ _ z=>by cases z);exact zi0 (yhg.mono ex g2) k (Rep.mono ex _ _ hd)⟩
      have hlen:vs.length=kvs.length:=by unfold yhg at g2;exact(Paired.length g2).symm
      exact⟨a,_,rfl,ygx.k g1 (by rw[hlen];exact Nat.lt_of_lt_of_le hc (by decide)),p3 _ (.nx st) _ wr.1 wr.2 (((hE.mono e1).mono e2).mono e3 |>.mono wr.1)⟩
     ·rw[if_neg hc]at p3;exact p3.elim
    |_=>exact p3.elim
 |_=>exact p3.elim
def yc7:Ev->M D:=fun _ σ=>.ok (.ref σ.length) (σ++[.dic []])
theorem zpk{pos:Pos}:FE T X (.Dict [] [] pos) yc7:=by
 intro pins s st H Q I h;obtain⟨μ,ρ,σ,hE,hr,hp⟩:=h;refine zly pins s st H Q I fun p hn=>?_;exact hp (μ++[p]) (.ref p) _ (zje hn) (hr.push hn ⟨[],zne,.nil⟩) (zmb hr)
def yj6:List V->Hp->VK->Prop:=fun xs H Q=>∃ a kvs,xs=[.ref a]/\Rd H a (.dK kvs)/\∀ p,H p=none->Q (.ref p) (upd H p (.dK kvs))
theorem zil:yb3 X (.type "dict") yj6:=by
 intro pins s st H xs us Q I r h;obtain⟨a,kvs,rfl,e,q⟩:=h;obtain⟨u,rfl,ru⟩:=ygm r;cases ru;exact ziw I e fun p s' hn I'=>⟨.ref p,_,I',rfl,q p hn⟩
def yjj(ds:List D):M D:=fun σ=>match ds with
 |[x]=>(match yib σ x with
  |some kvs=>.ok (.dic (kvs.map (·.1)) (kvs.map (·.2))) σ
  |none=>.bad)
 |_=>.bad
theorem zs5:∀ {kvs:List (Key × D)} {vs:List (Key × V)},yhg T μ H kvs vs->vs.map (·.1)=kvs.map (·.1)/\yhh T μ H (kvs.map (·.2)) (vs.map (·.2))
 |_,_,.nil=>⟨rfl,yhh.nil⟩
 |_,_,.cons h t=>by
  obtain⟨z1,z2⟩:=zs5 t;exact⟨by rw[List.map_cons,List.map_cons,z1,h.1],yhh.cons h.2 z2⟩
theorem zug:znt T yj6 yjj:=by
 intro E μ H σ ds vs Q r p h
 match ds with
 |[]=>exact h.elim
 |[x]=>
  unfold yjj at h;dsimp only at h;cases ed:yib σ x with
  |none=>rw[ed]at h;exact h.elim
  |some kvs=>
   rw[ed]at h;rw[yhh]at p;obtain⟨v,r',rfl,q1,q2⟩:=p;rw[yhh]at q2;subst q2;obtain⟨a,ws,rfl,h1,h2⟩:=yar r q1 ed;refine⟨a,ws,rfl,h1,fun l hn=>?_⟩;obtain⟨z1,z2⟩:=zs5 h2;exact h μ (.ref l) _ (zpg hn) (r.fresh hn) (by rw[Rep];exact⟨l,ws,rfl,fun hm=>(by obtain⟨u,hu,_⟩:=r.mem hm;rw[hn]at hu;cases hu),(.inl zne),z1,yhh.mono (zpg hn) _ _ z2⟩)
 |_::_::_=>exact h.elim
end
section
variable{T:Tb}{X:Cx}
structure InK(K:PySem.W.Frag)(C:Addr):Prop where
 cl:L2.Cls K C
 a:PySem.W.findIn K (.ref C) "__class__" = some (some (.builtin "object.__class__"))
 n:PySem.W.specialIn K (.builtin "object.__class__") "__get__" = some (some (.builtin "getset_descriptor.__get__"))
 t:PySem.W.takesIn K (.builtin "object.__class__")=some true
 m:PySem.W.mroIn K C (.type "object")=some true
def yef:List (Key × D)->List (Key × D)->Bool
 |[],[]=>true
 |(k,.int i)::r,(k',.int j)::r'=>decide (k=k') && (i == j) && yef r r'
 |_,_=>false
theorem zeo:∀ {l:List (Key × D)},(∀ p∈l,∃ i,p.2=.int i)->yef l l=true
 |[],_=>rfl
 |(k,d)::r,h=>by
  obtain⟨i,e⟩:=h (k,d) List.mem_cons_self;dsimp only at e;subst e;unfold yef;rw[zeo fun p hp=>h p (List.mem_cons_of_mem _ hp)];simp
def yjl(x y:D):M D:=fun σ=>match yib σ x with
 |some k1=>(match yib σ y with
  |some k2=>if yef k1 k2=true then .ok (.bl true) σ else .bad
  |none=>.bad)
 |none=>.bad
end
section
variable{T:Tb}{X:Cx}
def ye5(ds:List D):M D:=fun σ=>match ds with
 |[x]=>(match x with
  | .int i=>.ok (.int i) σ
  | .bl k=>.ok (.int (if k then 1 else 0)) σ
  |_=>.bad)
 |_=>.bad
theorem zmz:znt T (fun xs H Q=>(∃ i,xs=[.int i]/\Q (.int i) H)\/∃ k,xs=[.bl k]/\Q (.int (if k then 1 else 0)) H) ye5:=by
 intro E μ H σ xs vs Q r p h
 match xs with
 |[]=>exact h.elim
 |[x]=>
  rw[yhh]at p;obtain⟨v,w,rfl,p1,p2⟩:=p;rw[yhh]at p2;subst p2;cases x with
  |int i=>rw[Rep]at p1;subst p1;exact .inl ⟨i,rfl,yhb.here h r (by rw[Rep])⟩
  |bl k=>rw[Rep]at p1;subst p1;exact .inr ⟨k,rfl,yhb.here h r (by rw[Rep])⟩
  |_=>exact h.elim
 |_::_::_=>exact h.elim
inductive CDs(X:Cx):List (Option Expr)->List Expr->List (Str × Str)->Prop
 |nil:CDs X [] [] []
 |cons {k v:Expr} {x y:Str} {ks:List (Option Expr)} {vs:List Expr} {l:List (Str × Str)}:PE X k (tC (.str x))->PE X v (tC (.str y))->CDs X ks vs l->CDs X (some k::ks) (v::vs) ((x,y)::l)
theorem CDs.all{ks vs l}(h:CDs X ks vs l):ks.all (·.isSome)=true/\ks.length=vs.length/\ks.length=l.length:=by
 induction h with
 |nil=>exact⟨rfl,rfl,rfl⟩
 |cons _ _ _ ih=>exact⟨by simpa using ih.1,by simpa using ih.2.1,by simpa using ih.2.2⟩
theorem put_new{kvs:List (Key × V)}{k:Key}{v:V}(h:k ∉ kvs.map (·.1)):yj3 kvs k v=kvs++[(k,v)]:=by
 unfold yj3;rw[if_neg];intro z;rw[List.any_eq_true]at z;obtain⟨x,hx,e⟩:=z;exact h (List.mem_map.mpr ⟨x,hx,of_decide_eq_true e⟩)
end
def yhw(o:Int->Int->Int)(i:Nat)(ρ:Ev)(x d:D):M Fl:=fun σ=>match x,d with
 | .int a,.int b=>.ok (.nx (ρ.set i (some (.int (o a b))))) σ
 |_,_=>.bad
def ykj(o:Int->Int->Int)(i:Nat)(f:Ev->M D):Ev->M Fl:=fun ρ=>match ρ[i]? with
 |some (some x)=>xs ρ (f ρ) (yhw o i ρ x)
 |_=>fun _=>.bad
theorem zth{o:Int->Int->Int}{i:Nat}{f:Ev->M D}{ρ:Ev}{σ:Sto}{x:D}(h:ρ[i]?=some (some x)):ykj o i f ρ σ=xsO ρ (yhw o i ρ x) (f ρ σ):=by
 unfold ykj;rw[h];exact ygq ..
@[simp] theorem zn9(o:Int->Int->Int)(i:Nat)(ρ:Ev)(a b:Int)(σ:Sto):yhw o i ρ (.int a) (.int b) σ=.ok (.nx (ρ.set i (some (.int (o a b))))) σ:=nr rfl
section
variable{T:Tb}{X:Cx}{e:Expr}{f:Ev->M D}{pos:Pos}
theorem zxr{i:Nat}{x:Str}{pos':Pos}{op:Operator}{o:Int->Int->Int}(ho:PIp X op (ipI o))(hN:X.N.Nodup)(hi:X.N[i]?=some x)(hx:Loc X.env.scope x)(he:FE T X e f)(hf:X.fn x=true\/X.env.scope.names.lookup x=some .local:=by first|exact .inl rfl|exact .inr rfl|assumption) :
  FS T X (.AugAssign (.Name x pos') op e pos) (ykj o i f):=by
 intro pins s st H D I hw;refine yae hN hi hx he ho hf pins s st H D I ?_;obtain⟨μ,ρ,σ,hE,hr,hp⟩:=hw;unfold ykj at hp;cases e0:ρ[i]? with
 |none=>rw[e0]at hp;exact hp.elim
 |some q=>
  cases q with
  |none=>rw[e0]at hp;exact hp.elim
  |some d=>
   rw[e0]at hp;obtain⟨v,h1,h2⟩:=hE.2 i d e0;refine⟨v,h1,μ,ρ,σ,hE,hr,hp.xs hE fun y σ1 μ1 vy H1 _ e1 r1 q1 p1=>?_⟩;cases d with
   |int a=>
    cases y with
    |int b=>
     rw[Rep]at h2 q1;subst h2 q1;exact⟨a,b,rfl,rfl,yhb.here (g:=Gl2.nx (st.set i (some (.int (o a b))))) p1 r1 ((hE.mono e1).set i (by rw[Rep]))⟩
    |_=>exact p1.elim
   |_=>exact p1.elim
end
end L4
namespace L4
open PySem PySem.Spec PySem.Calls PyProof.Rows L2
section
variable{T:Tb}{X:Cx}
end
end L4
namespace L4
open PySem PySem.Spec PyProof.Rows L2
def zy0(o:D->List D->M D)(m:M (List D))(x:D):M D:=fun σ=>match yib σ x with
 |some _=>bnd m (o x) σ
 |none=>.bad
def zwq(o:D->List D->M D)(f:Ev->M D)(fs:Ev->M (List D)):Ev->M D:=fun ρ=>bnd (f ρ) (zy0 o (fs ρ))
def zs4:V->List V->Hp->VK->Prop:=fun x vs H Q=>∃ a kvs k d,x=.ref a/\vs=[kV k,d]/\H a=some (.dK kvs)/\kvs.length<sizeLine/\
 (∀ v,yll kvs k=some v->Q v H)/\(yll kvs k=none->Q d (upd H a (.dK (yj3 kvs k d))))
def zsc(x:D)(xs:List D):M D:=fun σ=>match x,xs with
 | .ref n,[y,d]=>(match yi4 y with
  |some k=>(match σ[n]? with
   |some (.dic kvs)=>if kvs.length<cap then (match ydj kvs k with
    |some e=>.ok e σ
    |none=>.ok d (σ.set n (.dic (yfm kvs k d))))else .bad
   |_=>.bad)
  |none=>.bad)
 |_,_=>.bad
section
variable{T:Tb}{X:Cx}{o e:Expr}{es:List Expr}{f:Ev->M D}{fs:Ev->M (List D)}{name:Str}{apos cpos:Pos}{id:String}{r:V->List V->Hp->VK->Prop}{g:D->List D->M D}
theorem zg3:MtR X "dict.setdefault" zs4:=by
 intro pins s st H x vs v us Q I rx rv h;obtain⟨a,kvs,k,d,rfl,rfl,hH,hl,h1,h2⟩:=h;cases rx;obtain⟨u,r,rfl,ru,rr⟩:=rv.two;obtain⟨z,hd,ws,rel,dd⟩:=yc0 I.hok hH;have hz:ws.length<=sizeLine:=by rw[<-rel.length];exact z
 have hlp:(yj3 kvs k d).length<=sizeLine:=by have:=zdp kvs k d;omega
 refine call_meetsIn PySem.F.slot_dict_setdefault dd.typeIs PySem.F.entry_dict_setdefault (PySem.F.args_dict_setdefault_3 _ _ _) (kt_meets_setdefault (zrr X.prog X.w) a (yea ru) hd r) ⟨ws,dd,hz,fun w hw=>?_,fun hn h' dd' hs=>?_⟩
 ·have q:=rel.val k;rw[hw]at q;cases e:yll kvs k with
  |none=>rw[e]at q;exact absurd q (by simp[yhd])
  |some x=>rw[e]at q;exact⟨x,H,I.tok _,q,h1 x e⟩
 ·have q:=rel.val k;rw[hn]at q;cases e:yll kvs k with
  |some x=>rw[e]at q;exact absurd q (by simp[yhd])
  |none=>
   have he:∃ q,h'.get? a=some q:=let ⟨q,_,_,hq,_⟩:=dd';⟨q,hq⟩;exact⟨d,_,zoz I (by rw[hH];exact True.intro) hs he (zwk hlp hd (rel.put k rr) dd'),rr,h2 e⟩
theorem zwl{p:Addr}{kvs:List (Key × V)}{pins:List (Addr × Obj)}{σ:St}{H:Hp}{s:Shared}(I:Inv X pins σ H s)(hk:Rd H p (.dK kvs)):s.TypeIs (.ref p) "dict"/\∀ a,Value.ref p=.ref a->∃ ob,s.heap.get? a=some ob/\ob.dict=none:=by
 obtain⟨_,_,_,_,o,_,_,e,ex,_⟩:=yc1 I.hok hk;refine⟨⟨o,e,ex.1⟩,fun a e2=>?_⟩;cases e2;exact⟨o,e,ex.2.1⟩
def yk5(r:V->List V->Hp->VK->Prop)(to:TE):TE:=fun σ H Q=>to σ H fun x H1=>(∃ a kvs,x=.ref a/\Rd H1 a (.dK kvs))/\r x [] H1 Q
def tBD(r:V->List V->Hp->VK->Prop)(to:TE)(t:TA):TE:=fun σ H Q=>to σ H fun x H1=>(∃ a kvs,x=.ref a/\Rd H1 a (.dK kvs))/\t σ H1 fun xs H2=>r x xs H2 Q
theorem zsk{to:TE}(pa:PlainAttrs "dict")(slot:Slot "dict" name id)(hty:typeOf (.builtin id)=pure (.type "method_descriptor"))(hm:MtR X id r)(ho:PE X o to)
  (hbase:attributeBase o name X.env (eval o X.env)=eval o X.env:=by rfl) (hline:(apos.endLine == cpos.line)=true:=by rfl):PE X (.Call (.Attribute o name apos) [] [] cpos) (yk5 r to):=by
 intro pins s σ H Q I h;refine wpAny_Call_method0_late hbase hline (thn (ho pins s σ H _ I h) fun v s1 ⟨x,H1,I1,r1,ty,q1⟩=>?_);obtain⟨a,kvs,rfl,hk⟩:=ty;cases r1;obtain⟨h1,h2⟩:=zwl I1 hk;exact⟨"dict",id,pa,slot,hty,h1,h2,Calls.callWith_builtin rfl (PySem.evalArgs_none (hm pins s1 σ H1 (.ref a) [] (.ref a) [] Q I1 rfl .nil q1))⟩
theorem zzw{to:TE}{t:TA}(pa:PlainAttrs "dict")(slot:Slot "dict" name id)(hty:typeOf (.builtin id)=pure (.type "method_descriptor"))(hm:MtR X id r)(ho:PE X o to)(ha:PA X (e::es) t)
  (hbase:attributeBase o name X.env (eval o X.env)=eval o X.env:=by rfl)
  (hfew:((backTo cpos (starEach (e::es) X.env)).all (fun x=>!x.1) && (backToKw cpos (keywordEach [] X.env)).all (fun x=>x.1.isSome)
   && decide ((e::es).length+([]:List Keyword).length+(if ([]:List Keyword).isEmpty then 0 else 1)<30))=true:=by rfl)
  (hline:(apos.endLine == cpos.line)=true:=by rfl) (hs:starEach (e::es) X.env=(false,eval e X.env)::starEach es X.env:=by rfl) (hplain:(backTo cpos (starEach es X.env)).any (·.1)=false:=by rfl) :
  PE X (.Call (.Attribute o name apos) (e::es) [] cpos) (tBD r to t):=by
 intro pins s σ H Q I h;refine wpAny_Call_method_late hbase hfew hline rfl (thn (ho pins s σ H _ I h) fun v s1 ⟨x,H1,I1,r1,ty,q1⟩=>?_);obtain⟨a,kvs,rfl,hk⟩:=ty;cases r1;obtain⟨h1,h2⟩:=zwl I1 hk;refine⟨"dict",id,pa,slot,hty,h1,h2,?_⟩;have hA:=ha cpos pins s1 σ H1 _ I1 q1;rw[hs]at hA ⊢;refine Calls.callWith_builtin (by show (false || (backTo cpos (starEach es X.env)).any (·.1))=false;rw[hplain]<;>rfl) (Calls.evalArgs_plain ?_);exact thn hA fun us s2 ⟨vs,H2,I2,r2,q2⟩=>hm pins s2 σ H2 (.ref a) vs (.ref a) us Q I2 rfl r2 q2
theorem zji(pa:PlainAttrs "dict")(slot:Slot "dict" name id)(hty:typeOf (.builtin id)=pure (.type "method_descriptor"))(hm:MtR X id r)(hs:ycc T r g)(ho:FE T X o f)(ha:FA T X (e::es) fs)
  (hbase:attributeBase o name X.env (eval o X.env)=eval o X.env:=by rfl)
  (hfew:((backTo cpos (starEach (e::es) X.env)).all (fun x=>!x.1) && (backToKw cpos (keywordEach [] X.env)).all (fun x=>x.1.isSome)
   && decide ((e::es).length+([]:List Keyword).length+(if ([]:List Keyword).isEmpty then 0 else 1)<30))=true:=by rfl)
  (hline:(apos.endLine == cpos.line)=true:=by rfl) (hst:starEach (e::es) X.env=(false,eval e X.env)::starEach es X.env:=by rfl) (hplain:(backTo cpos (starEach es X.env)).any (·.1)=false:=by rfl) :
  FE T X (.Call (.Attribute o name apos) (e::es) [] cpos) (zwq g f fs):=by
 intro pins s st H Q I h;refine zzw pa slot hty hm ho ha hbase hfew hline hst hplain pins s st H Q I ?_;obtain⟨μ,ρ,σ,he,hr,hp⟩:=h;refine⟨μ,ρ,σ,he,hr,hp.bind fun x σ1 μ1 v H1 _ e1 r1 p1 q1=>?_⟩;unfold zy0 at q1;cases el:yib σ1 x with
 |none=>rw[el]at q1;exact q1.elim
 |some xs=>
  rw[el]at q1;obtain⟨a,vs,rfl,h1,h2⟩:=yar r1 p1 el;refine⟨⟨a,vs,rfl,h1⟩,μ1,ρ,σ1,he.mono e1,r1,q1.bind fun ds σ2 μ2 ws H2 _ e2 r2 p2 q2=>?_⟩;exact hs _ μ2 H2 σ2 x ds (.ref a) ws Q r2 (Rep.mono e2 _ _ p1) p2 q2
theorem zfd:ycc T zs4 zsc:=by
 intro E μ H σ x xs v vs Q r p q h;cases x with
 |ref n=>
  match xs with
  |[]=>exact h.elim
  |[_]=>exact h.elim
  |[y,d]=>
   rw[yhh]at q;obtain⟨w,z,rfl,q1,q2⟩:=q;rw[yhh]at q2;obtain⟨w2,z2,rfl,q3,q4⟩:=q2;rw[yhh]at q4;subst q4;unfold zsc at h;cases ek:yi4 y with
   |none=>simp only[ek]at h;exact h.elim
   |some k=>
    simp only[ek]at h;cases el:σ[n]? with
    |none=>simp only[el]at h;exact h.elim
    |some ob=>
     cases ob with
     |dic kvs=>
      simp only[el]at h;by_cases hc:kvs.length<cap
      ·rw[if_pos hc]at h;obtain⟨a,rfl,hn,us,g1,g2⟩:=r.at p el;obtain rfl:=zq5 q1 ek;have hlen:us.length=kvs.length:=by unfold yhg at g2;exact(Paired.length g2).symm
       refine⟨a,us,k,w2,rfl,rfl,g1,by rw[hlen];exact zv2 hc,fun v e=>?_,fun e=>?_⟩
       ·rcases zjq g2 k with⟨z1,z2⟩|⟨d',v',z1,z2,z3⟩
        ·rw[z2]at e;cases e
        ·rw[z2]at e;cases e;rw[z1]at h;exact yhb.here h r z3
       ·rcases zjq g2 k with⟨z1,z2⟩|⟨d',v',z1,z2,z3⟩
        ·rw[z1]at h;have wr:=r.write (o:=.dK (yj3 us k w2)) (ob:=.dic (yfm kvs k d)) hn ⟨_,zne,by
          have ex:Ext μ H μ (upd H a (.dK (yj3 us k w2))):=zf9 (List.mem_of_getElem? hn) g1 (fun _ z=>by cases z) (fun _ _ z=>by cases z);exact zi0 (yhg.mono ex g2) k (Rep.mono ex _ _ q3)⟩
         exact h _ _ _ wr.1 wr.2 (Rep.mono wr.1 _ _ q3)
        ·rw[z2]at e;cases e
      ·rw[if_neg hc]at h;exact h.elim
     |lst ys=>simp only[el]at h;exact h.elim
     |ins c fs=>simp only[el]at h;exact h.elim
  |_::_::_::_=>exact h.elim
 |_=>exact h.elim
end
def yil(σ:Sto)(x:D):List D->Option (List Bool)
 |[]=>some []
 |y::ys=>match eqD σ 7 y x,yil σ x ys with
  |some b,some bs=>some (b::bs)
  |_,_=>none
def yjn(neg:Bool)(x y:D):M D:=fun σ=>match yf1 σ y with
 |some xs=>(match yil σ x xs with
  |some bs=>.ok (.bl (if neg then !(bs.any id)else bs.any id)) σ
  |none=>.bad)
 |none=>.bad
theorem zjc{σ:Sto}{x:D}:∀ {xs:List D} {bs:List Bool},yil σ x xs=some bs->bs.length=xs.length/\∀ (j:Nat) (d:D) (b:Bool),xs[j]?=some d->bs[j]?=some b->eqD σ 7 d x=some b
 |[],bs,h=>by cases h;exact⟨rfl,fun j d b h=>by simp at h⟩
 |y::ys,bs,h=>by
  unfold yil at h;cases e1:eqD σ 7 y x with
  |none=>rw[e1]at h;cases h
  |some b1=>
   cases e2:yil σ x ys with
   |none=>rw[e1,e2]at h;cases h
   |some bs1=>
    rw[e1,e2]at h;cases h;obtain⟨h1,h2⟩:=zjc e2;refine⟨by simp[h1],fun j d b hd hb=>?_⟩;cases j with
    |zero=>simp at hd hb;subst hd;subst hb;exact e1
    |succ j=>exact h2 j d b (by simpa using hd) (by simpa using hb)
open Classical in
noncomputable def eOf(its:List Value)(bs:List Bool)(u:Value):Bool:=decide (∃ j:Nat,its[j]?=some u/\bs[j]?=some true)
theorem zpc{its:List Value}{bs:List Bool}{u:Value}:eOf its bs u=true ↔ ∃ j:Nat,its[j]?=some u/\bs[j]?=some true:=by unfold eOf;exact @decide_eq_true_iff _ (Classical.propDecidable _)
theorem zpb{its:List Value}{bs:List Bool}(hl:bs.length=its.length):its.toArray.any (eOf its bs)=bs.any id:=by
 rw[show its.toArray.any (eOf its bs)=its.any (eOf its bs) by simp,Bool.eq_iff_iff,List.any_eq_true,List.any_eq_true];constructor
 ·rintro ⟨u,_,hu⟩;obtain⟨j,_,h⟩:=zpc.mp hu;exact⟨true,List.mem_of_getElem? h,rfl⟩
 ·rintro ⟨b,hb,ht⟩;cases (show b=true from ht);obtain⟨j,hj,h⟩:=List.getElem_of_mem hb;have hi:j<its.length:=by omega
  exact⟨its[j],List.getElem_mem hi,zpc.mpr ⟨j,by simp[hi],by simp[hj,h]⟩⟩
theorem zwr{A:Around}{s:Shared}{x:Value}{its:List Value}{bs:List Bool}(hl:bs.length=its.length)(h:∀ (j:Nat) (u:Value) (b:Bool),its[j]?=some u->bs[j]?=some b->SeqAt.EqAt A s u x b)(w:Value)(hw:w∈its):SeqAt.EqAt A s w x (eOf its bs w):=by
 cases e:eOf its bs w with
 |true=>obtain⟨j,h1,h2⟩:=zpc.mp e;exact h j w true h1 h2
 |false=>
  obtain⟨j,hj,rfl⟩:=List.getElem_of_mem hw;have hb:j<bs.length:=by omega
  have hf:bs[j]=false:=by
   cases q:bs[j]with
   |false=>rfl
   |true=>exact absurd (zpc.mpr ⟨j,List.getElem?_eq_getElem hj,by rw[List.getElem?_eq_getElem hb,q]⟩) (by rw[e];decide)
  exact h j _ false (List.getElem?_eq_getElem hj) (by rw[List.getElem?_eq_getElem hb,hf])
section
variable{T:Tb}{X:Cx}
theorem zqq(hK:T.K=X.K)(hu:X.A.units+9<cLine){pins:List (Addr × Obj)}{s:Shared}{st:St}{H:Hp}{μ:List Addr}{σ:Sto}(I:Inv X pins st H s)(r:Rel T μ H σ){x y:D}{v u:V}{v' u':Value}(hx:Rep T μ H x v)(hy:Rep T μ H y u)(rv:yhe v v')(ru:yhe u u')
  {xs:List D} {bs:List Bool} (e:yf1 σ y=some xs) (eb:yil σ x xs=some bs) {Q:Value->Shared->Prop} :
  (Q (.bool (bs.any id)) s->wpAny (model X.prog X.w) X.A (compareOp .In v' u') Q X.xe s)/\(Q (.bool (!bs.any id)) s->wpAny (model X.prog X.w) X.A (compareOp .NotIn v' u') Q X.xe s):=by
 obtain⟨p,vs,rfl,h1,h2⟩:=ztx r hy e;rw[hK]at h2;obtain⟨lb,hb⟩:=zjc eb;cases ru;have key:∀ {its:List Value},yho vs its->(bs.length=its.length/\∀ w∈its,SeqAt.EqAt X.A.in1 s w v' (eOf its bs w)):=fun {its} q=>by
  have l1:=h1.length;have l2:=q.length;have hl:bs.length=its.length:=by omega
  refine⟨hl,zwr hl fun j w b hw hbj=>?_⟩;obtain⟨z,e1,rz⟩:=zni q hw;obtain⟨d,e2,rd⟩:=zmd h1 e1;exact zwx I r 7 X.A.in1 d x z v w v' b (by show X.A.units+1+7+1<cLine;omega) rd hx rz rv (hb j d b e2 hbj)
 rcases h2 with h2|h2
 ·obtain⟨its,q,pl,_⟩:=L2.Inv.list I h2;obtain⟨hl,k⟩:=key q;refine⟨fun hq=>SeqAt.in_listAt (eOf its bs) pl.isList (fun w hw=>k w (by simpa using hw)) ?_,fun hq=>SeqAt.notIn_listAt (eOf its bs) pl.isList (fun w hw=>k w (by simpa using hw)) ?_⟩<;>rw[zpb hl]<;>exact hq
 ·obtain⟨its,q,pl,_⟩:=L2.Inv.tuple I h2;obtain⟨hl,k⟩:=key q;refine⟨fun hq=>SeqAt.in_tupleAt (eOf its bs) pl (fun w hw=>k w (by simpa using hw)) ?_,fun hq=>SeqAt.notIn_tupleAt (eOf its bs) pl (fun w hw=>k w (by simpa using hw)) ?_⟩<;>rw[zpb hl]<;>exact hq
theorem zzn(hK:T.K=X.K)(hu:X.A.units+9<cLine):OpR X (compareOp .In) (rD T (yjn false)):=by
 intro pins s st H v u v' u' Q I rv ru h;obtain⟨E,μ,σ,x,y,r,hx,hy,hp⟩:=h;unfold yjn at hp;cases e:yf1 σ y with
 |none=>rw[e]at hp;exact hp.elim
 |some xs=>
  rw[e]at hp;dsimp only at hp;cases eb:yil σ x xs with
  |none=>rw[eb]at hp;exact hp.elim
  |some bs=>
   rw[eb]at hp;exact(zqq hK hu I r hx hy rv ru e eb).1 ⟨.bl (bs.any id),H,I,rfl,yhb.here hp r (by rw[Rep];rfl)⟩
end
section
variable{T:Tb}{X:Cx}
end
section
variable{T:Tb}{X:Cx}{tg iter:Expr}{f:Ev->M D}
end
section
variable{T:Tb}{X:Cx}{o e:Expr}{es:List Expr}{f:Ev->M D}{fs:Ev->M (List D)}{name:Str}{apos cpos:Pos}{id:String}{r:V->List V->Hp->VK->Prop}{g:D->List D->M D}
end
section
variable{X:Cx}{pins:List (Addr × Obj)}{σ:St}{H:Hp}{s:Shared}{h':Heap}
theorem zrv{H:Hp}{a b:Addr}{u:HO}(e:H b=some u)(n:H a=none):b≠a:=fun z=>by rw[z,n]at e;cases e
theorem _root_.L2.Inv.turnL{t':Nat}{its:List Addr}{p:Addr}{o:HO}(I:Inv X pins σ H s)(k:∀ b u,b ∉ its->s.heap.get? b=some u->h'.get? b=some u)(hf:∀ b∈its,yg2 X pins H b)(hp:s.heap.objs.size<=p)(new:yb8 X.prog X.w (upd H p o) h' p o) :
  Inv X pins σ (upd H p o) { s with heap:=h',toks:=t' }:=by
 have hn:H p=none:=I.hok.fresh hp;have nit:∀ b u,H b=some u->b ∉ its:=fun b u e z=>by rw[(hf b z).1]at e;cases e
 refine I.step (g':=s.gens) (d':=s.drawn) (ch:=its) (fun b hb=>?_) (fun b o _ _ hc e _=>k b o hc e) (fun b o _ _ hc e _=>⟨o.slots,k b o hc e⟩) (fun b u _ q n=>by rw[yby (Nat.ne_of_lt (Nat.lt_of_lt_of_le (Heap.lt_size q) hp))];exact n)
  (fun b o hc e=>⟨o,k b o hc e⟩) (fun b xs q=>by rw[yby (zrv q hn)];exact q) (fun b u xs q=>by rw[yby (zrv q hn)];exact q) (fun b ps q=>⟨#[],by rw[yby (zrv q hn),q];simp⟩) (fun m hm=>?_) (fun b u e=>?_) I.bare
 ·obtain⟨f0,f1,f2,f3,f4,f5⟩:=hf b hb;exact⟨f3,f1,f4,f5⟩
 ·obtain⟨o,es,ep,ho,r⟩:=hm;exact⟨o,es,ep,k _ o (fun z=>(hf _ z).2.1 rfl) ho,r⟩
 ·by_cases hb:b=p
  ·subst hb;rw[zne]at e;cases e;exact new
  ·rw[yby hb]at e;refine(I.hok b u e).stay (fun c v hc q=>k c v ?_ q) (fun c q=>by rw[yby (zrv q hn)];exact q) fun c xs q=>by rw[yby (zrv q hn)];exact q
   rcases hc with z|z
   ·rw[z];exact nit b u e
   ·exact nit c _ z
theorem _root_.L2.Inv.turnN{t':Nat}{its:List Addr}(I:Inv X pins σ H s)(k:∀ b u,b ∉ its->s.heap.get? b=some u->h'.get? b=some u)(hf:∀ b∈its,yg2 X pins H b):Inv X pins σ H { s with heap:=h',toks:=t' }:=by
 have nit:∀ b u,H b=some u->b ∉ its:=fun b u e z=>by rw[(hf b z).1]at e;cases e
 refine I.step (g':=s.gens) (d':=s.drawn) (ch:=its) (fun b hb=>?_) (fun b o _ _ hc e _=>k b o hc e) (fun b o _ _ hc e _=>⟨o.slots,k b o hc e⟩) (fun b u _ q n=>n)
  (fun b o hc e=>⟨o,k b o hc e⟩) (fun b xs q=>q) (fun b u xs q=>q) (fun b ps q=>⟨#[],by rw[q];simp⟩) (fun m hm=>?_) (fun b u e=>?_) I.bare
 ·obtain⟨f0,f1,f2,f3,f4,f5⟩:=hf b hb;exact⟨f3,f1,f4,f5⟩
 ·obtain⟨o,es,ep,ho,r⟩:=hm;exact⟨o,es,ep,k _ o (fun z=>(hf _ z).2.1 rfl) ho,r⟩
 ·refine(I.hok b u e).stay (fun c v hc q=>k c v ?_ q) (fun _ q=>q) fun _ _ q=>q;rcases hc with z|z
  ·rw[z];exact nit b u e
  ·exact nit c _ z
end
theorem zwe{h:Heap}{a b:Addr}{o o':Obj}{n n':String}(e:h.get? a=some o)(e':h.get? b=some o')(c:o.cls=.type n)(c':o'.cls=.type n')(hn:n≠n'):a≠b:=fun z=>by
 subst z;rw[e]at e';cases e';rw[c]at c';injection c' with q;exact hn q
def Ite(K:PySem.W.Frag)(l:Addr):It:=
 ⟨fun i H=>∃ xs x,SqL K H l xs/\xs[i]?=some x,fun i H v H'=>∃ p x,H p=none/\v=.ref p/\(∀ xs,SqL K H l xs->xs[i]?=some x)/\H'=upd H p (.tup [.int i,x]),fun i H=>∃ xs,SqL K H l xs/\i=xs.length⟩
def Itz(K:PySem.W.Frag)(l m:Addr):It:=
 ⟨fun i H=>∃ xs ys x y,SqL K H l xs/\SqL K H m ys/\xs[i]?=some x/\ys[i]?=some y,fun i H v H'=>∃ p x y,H p=none/\v=.ref p/\(∀ xs,SqL K H l xs->xs[i]?=some x)/\(∀ ys,SqL K H m ys->ys[i]?=some y)/\H'=upd H p (.tup [x,y]),
  fun i H=>∃ xs ys,SqL K H l xs/\SqL K H m ys/\i=min xs.length ys.length⟩
theorem zh2{P:Program}{w:World}{K:PySem.W.Frag}{elts:List Expr}{kk:Nat}{pos:Pos}(l e it:Addr):Turn P w K (.Tuple elts kk pos) (Ite K l) [e,it] e (fun i h=>(∃ old,IsEnum h e it i old)/\h.IsListIter it l i) where
 mem:=by simp
 obj:=fun i h st b hb=>by
  obtain⟨⟨old,s1⟩,o,s2,c,d⟩:=st;simp only[List.mem_cons,List.not_mem_nil,or_false]at hb;rcases hb with rfl|rfl
  ·exact⟨_,s1,fun v z=>by cases z⟩
  ·exact⟨o,s2,fun v z=>by rw[d]at z;cases z⟩
 keep:=fun i h h' st k=>by
  obtain⟨⟨old,s1⟩,s2⟩:=st;exact⟨⟨old,k e (by simp) _ s1⟩,s2.at fun o q=>k it (by simp) o q⟩
 item:=by
  intro X hP hw hK hc i pins s σ H E I hf st hg;subst hP hw hK;obtain⟨xs,x,hq,hx⟩:=hg;obtain⟨its,rv,p,hz⟩:=I.list hq;obtain⟨u,hu,ru⟩:=rv.get hx;obtain⟨⟨old,s1⟩,s2⟩:=st;obtain⟨oa,ea,ca,_⟩:=id p.isList;obtain⟨ob,eb,cb,_⟩:=id s2;have nle:l≠e:=zwe ea s1 ca rfl (by decide);have nli:l≠it:=zwe ea eb ca cb (by decide);have nei:e≠it:=zwe s1 eb rfl cb (by decide);have W:=WalksT.enumerate (prog:=X.prog) (w:=X.w) (A:=X.A) (I.ok.hd hc) e it l nei nle nli its.toArray;have hi:i<its.toArray.size:=by
   have:=(List.getElem?_eq_some_iff.mp hu).1;simpa using this
  refine W.item i s _ E hi ⟨⟨old,s1⟩,s2,p.isList⟩ fun T vals h' tk hPt hT hTup hMid hk=>?_;obtain⟨t,y,hy,rfl⟩:=hPt;have ey:y=u:=by
   have:its.toArray[i]?=some u:=by simpa using hu
   rw[this]at hy;cases hy;rfl
  subst ey;refine⟨.ref T,rfl,W.go elts kk pos i T { s with heap:=h',toks:=tk } _ E hMid fun h2 hS hk2=>?_⟩;have hap:=W.apart i T h' hMid;have hTup2:h2.IsTuple T #[.int i t,y]:=by
   obtain⟨o,e1,c1⟩:=hTup;exact⟨o,hk2 T o hap e1,c1⟩
  have hn:H T=none:=I.hok.fresh hT;refine⟨.ref T,upd H T (.tup [.int i,x]),I.turnL (o:=.tup [.int i,x]) (fun b o hb q=>hk2 b o hb (hk b o hb q)) hf hT ?_,rfl,⟨T,x,hn,rfl,fun ys hy=>by rw[I.list_inj hy hq];exact hx,rfl⟩,⟨hS.1,hS.2.1⟩,fun b hb=>?_⟩
  ·exact⟨(show (2:Nat)<=sizeLine by decide),[.int i t,y],.cons ⟨t,rfl⟩ (.cons ru .nil),hTup2⟩
  ·rw[yby (fun z=>hap (by rw[<-z];exact hb))];exact(hf b hb).1
 done:=by
  intro X hP hw hK hc i pins s σ H E I hf st hg;subst hP hw hK;obtain⟨xs,hq,hx⟩:=hg;obtain⟨its,rv,p,hz⟩:=I.list hq;obtain⟨⟨old,s1⟩,s2⟩:=st;have hl:=rv.length;exact wpAny_pyNext_enum_end (I.ok.hd hc) s1 s2 p.isList (by simp;omega) fun h' eb=>⟨rfl,I.turnN (t':=s.toks) (fun b o hb q=>eb b o (fun z=>hb (by simp[z])) q) hf⟩
 self:=fun A i s Q E st h=>by
  obtain⟨⟨old,s1⟩,s2⟩:=st;exact wpAny_pyIter_enum s1 h
theorem zh8{h:Heap}{l m z TI TO i1 i2:Addr}{k1 k2:Nat}{xs ys:Array Value}{a b c d:Value}{f:Value}(d1:TI≠TO)(d2:i1≠i2)(p1:h.IsList l xs)(p2:h.IsList m ys)(s1:IsZip h z TI TO f)(s2:IsPair h TI a b)(s3:IsPair h TO c d)(s4:h.IsListIter i1 l k1)(s5:h.IsListIter i2 m k2):ZipApart z TI TO i1 i2 l m:=by
 obtain⟨o1,e1,c1,_⟩:=p1;obtain⟨o2,e2,c2,_⟩:=p2;obtain⟨o4,e4,c4,_⟩:=s4;obtain⟨o5,e5,c5,_⟩:=s5;exact⟨zwe s2 s1 rfl rfl (by decide),zwe s3 s1 rfl rfl (by decide),zwe e4 s1 c4 rfl (by decide),zwe e5 s1 c5 rfl (by decide),d1,zwe s2 e4 rfl c4 (by decide),zwe s2 e5 rfl c5 (by decide),zwe s3 e4 rfl c4 (by decide),zwe s3 e5 rfl c5 (by decide),d2,
  zwe e1 s1 c1 rfl (by decide),zwe e1 s3 c1 rfl (by decide),zwe e1 e4 c1 c4 (by decide),zwe e1 e5 c1 c5 (by decide),zwe e2 s1 c2 rfl (by decide),zwe e2 s3 c2 rfl (by decide),zwe e2 e4 c2 c4 (by decide),zwe e2 e5 c2 c5 (by decide)⟩
theorem znc{P:Program}{w:World}{K:PySem.W.Frag}{elts:List Expr}{kk:Nat}{pos:Pos}(l m z TI TO i1 i2:Addr)(d1:TI≠TO)(d2:i1≠i2) :
  Turn P w K (.Tuple elts kk pos) (Itz K l m) [z,TI,TO,i1,i2] z (fun i h=>IsZip h z TI TO .none/\IsPair h TI (.ref i1) (.ref i2)/\(∃ a b,IsPair h TO a b)/\h.IsListIter i1 l i/\h.IsListIter i2 m i) where
 mem:=by simp
 obj:=fun i h st b hb=>by
  obtain⟨s1,s2,⟨a,c,s3⟩,⟨o4,s4,c4,d4⟩,⟨o5,s5,c5,d5⟩⟩:=st;simp only[List.mem_cons,List.not_mem_nil,or_false]at hb;rcases hb with rfl|rfl|rfl|rfl|rfl
  ·exact⟨_,s1,fun v z=>by cases z⟩
  ·exact⟨_,s2,fun v z=>by cases z⟩
  ·exact⟨_,s3,fun v z=>by cases z⟩
  ·exact⟨o4,s4,fun v z=>by rw[d4]at z;cases z⟩
  ·exact⟨o5,s5,fun v z=>by rw[d5]at z;cases z⟩
 keep:=fun i h h' st k=>by
  obtain⟨s1,s2,⟨a,c,s3⟩,s4,s5⟩:=st;exact⟨k z (by simp) _ s1,k TI (by simp) _ s2,⟨a,c,k TO (by simp) _ s3⟩,s4.at fun o q=>k i1 (by simp) o q,s5.at fun o q=>k i2 (by simp) o q⟩
 item:=by
  intro X hP hw hK hc i pins s σ H E I hf st hg;subst hP hw hK;obtain⟨xs,ys,x,y,hq,hq2,hx,hy⟩:=hg;obtain⟨its,rv,p,hz⟩:=I.list hq;obtain⟨its2,rv2,p2,hz2⟩:=I.list hq2;obtain⟨u,hu,ru⟩:=rv.get hx;obtain⟨u2,hu2,ru2⟩:=rv2.get hy;obtain⟨s1,s2,⟨a,c,s3⟩,s4,s5⟩:=st;have D:=zh8 d1 d2 p.isList p2.isList s1 s2 s3 s4 s5;have W:=WalksT.zip2 (prog:=X.prog) (w:=X.w) (A:=X.A) (I.ok.hd hc) z TI TO i1 i2 l m D its.toArray its2.toArray;have hi:i<min its.toArray.size its2.toArray.size:=by
   have h1:=(List.getElem?_eq_some_iff.mp hu).1;have h2:=(List.getElem?_eq_some_iff.mp hu2).1;simp;omega
  refine W.item i s _ E hi ⟨s1,s2,⟨a,c,s3⟩,s4,s5,p.isList,p2.isList⟩ fun T vals h' tk hPt hT hTup hMid hk=>?_;obtain⟨v1,v2,hv1,hv2,rfl⟩:=hPt;have e1:v1=u:=by
   have:its.toArray[i]?=some u:=by simpa using hu
   rw[this]at hv1;cases hv1;rfl
  have e2:v2=u2:=by
   have:its2.toArray[i]?=some u2:=by simpa using hu2
   rw[this]at hv2;cases hv2;rfl
  subst e1;subst e2;refine⟨.ref T,rfl,W.go elts kk pos i T { s with heap:=h',toks:=tk } _ E hMid fun h2 hS hk2=>?_⟩;have hap:=W.apart i T h' hMid;have hTup2:h2.IsTuple T #[v1,v2]:=by
   obtain⟨o,e1,c1⟩:=hTup;exact⟨o,hk2 T o hap e1,c1⟩
  have hn:H T=none:=I.hok.fresh hT;have sub:∀ b,b ∉ [z,TI,TO,i1,i2]->b ∉ [z,TO,i1,i2]:=fun b hb hm=>hb (by simp at hm ⊢;rcases hm with h|h|h|h<;>simp[h]);have ltT:∀ b∈[z,TI,TO,i1,i2],b<s.heap.objs.size:=fun b hb=>by
   simp only[List.mem_cons,List.not_mem_nil,or_false]at hb;rcases hb with rfl|rfl|rfl|rfl|rfl
   ·exact Heap.lt_size s1
   ·exact Heap.lt_size s2
   ·exact Heap.lt_size s3
   ·obtain⟨o,q,_⟩:=s4;exact Heap.lt_size q
   ·obtain⟨o,q,_⟩:=s5;exact Heap.lt_size q
  refine⟨.ref T,upd H T (.tup [x,y]),I.turnL (o:=.tup [x,y]) (fun b o hb q=>hk2 b o (sub b hb) (hk b o (sub b hb) q)) hf hT ?_,rfl,⟨T,x,y,hn,rfl,fun zs hz=>by rw[I.list_inj hz hq];exact hx,fun zs hz=>by rw[I.list_inj hz hq2];exact hy,rfl⟩,⟨hS.1,hS.2.1,hS.2.2.1,hS.2.2.2.1,hS.2.2.2.2.1⟩,fun b hb=>?_⟩
  ·exact⟨(show (2:Nat)<=sizeLine by decide),[v1,v2],.cons ru (.cons ru2 .nil),hTup2⟩
  ·rw[yby (Nat.ne_of_lt (Nat.lt_of_lt_of_le (ltT b hb) hT))];exact(hf b hb).1
 done:=by
  intro X hP hw hK hc i pins s σ H E I hf st hg;subst hP hw hK;obtain⟨xs,ys,hq,hq2,hx⟩:=hg;obtain⟨its,rv,p,hz⟩:=I.list hq;obtain⟨its2,rv2,p2,hz2⟩:=I.list hq2;obtain⟨s1,s2,⟨a,c,s3⟩,s4,s5⟩:=st;have D:=zh8 d1 d2 p.isList p2.isList s1 s2 s3 s4 s5;have W:=WalksT.zip2 (prog:=X.prog) (w:=X.w) (A:=X.A) (I.ok.hd hc) z TI TO i1 i2 l m D its.toArray its2.toArray;have hl:=rv.length;have hl2:=rv2.length;have ei:i=min its.toArray.size its2.toArray.size:=by simp;omega
  subst ei;have sub:∀ b,b ∉ [z,TI,TO,i1,i2]->b ∉ [z,TO,i1,i2]:=fun b hb hm=>hb (by simp at hm ⊢;rcases hm with h|h|h|h<;>simp[h]);exact W.done s _ E ⟨s1,s2,⟨a,c,s3⟩,s4,s5,p.isList,p2.isList⟩ fun h' tk hk=>⟨rfl,I.turnN (t':=tk) (fun b o hb q=>hk b o (sub b hb) q) hf⟩
 self:=fun A i s Q E st h=>wpAny_pyIter_zip st.1 h
abbrev NX:=Nat->Sto->Option (Option D)
def yhj(T:Tb)(μ0:List Addr)(H0:Hp)(nx:NX)(J:It):Prop:=∀ μ H σ i,Ext μ0 H0 μ H->Rel T μ H σ->match nx i σ with
 |none=>True
 |some none=>J.stop i H
 |some (some d)=>J.go i H/\∀ x H',J.yld i H x H'->Ext μ H μ H'/\Rel T μ H' σ/\Rep T μ H' d x
def tIN(T:Tb)(X:Cx)(f:Ev->M NX):TI:=fun st H R=>∃ μ ρ σ,ygy T μ H ρ st/\Rel T μ H σ/\yhb T (XE X st) (yhj T) μ H (f ρ σ) R
abbrev FIN(T:Tb)(X:Cx)(tg iter:Expr)(f:Ev->M NX):Prop:=PI X tg iter (tIN T X f)
def yei(nx:NX)(tg:D->Ev->Option Ev)(body:Ev->M Fl):Nat->Nat->Ev->M Fl
 |0,_,_=>bad
 |k+1,i,ρ=>fun σ=>match nx i σ with
  |none=>.bad
  |some none=>.ok (.nx ρ) σ
  |some (some d)=>match tg d ρ with
   |none=>.bad
   |some ρ1=>bnd (body ρ1) (yeg (yei nx tg body k (i+1))) σ
def ydr(tg:D->Ev->Option Ev)(body:Ev->M Fl)(ρ:Ev)(nx:NX):M Fl:=yei nx tg body 1001 0 ρ
def yfw(src:Ev->M NX)(tg:D->Ev->Option Ev)(body:Ev->M Fl):Ev->M Fl:=fun ρ=>xs ρ (src ρ) (ydr tg body ρ)
section
variable{T:Tb}{X:Cx}{tgt iter:Expr}{body:List Stmt}{src:Ev->M NX}{t:D->Ev->Option Ev}{g:Ev->M Fl}{pos:Pos}
theorem zp6(hp:PassesOwn (model X.prog X.w) X.A X.env X.xe)(hc:X.calm=true)(hi:FIN T X tgt iter src)(hg:FG T X tgt t)(hb:FSs T X body g)
  (hs:∀ x,foldedSetIterable iter X.env x=pure x:=by intro _;rfl):FS T X (.For tgt iter body [] pos) (yfw src t g):=by
 intro pins s st H D I hq;refine yag hp hc hi hg hb hs pins s st H D I ?_;obtain⟨μ,ρ,σ,hE,hr,hp⟩:=hq;refine⟨μ,ρ,σ,hE,hr,hp.xs hE fun nx σ1 μ1 J H1 _ e1 r1 q1 p1=>?_⟩;have p1':yhb T EN (RFl T) μ1 H1 (yei nx t g 1001 0 ρ σ1) (ygz X D):=p1;refine⟨fun i m st2 H2=>∃ μ ρ σ,Ext μ1 H1 μ H2/\ygy T μ H2 ρ st2/\Rel T μ H2 σ/\yhb T EN (RFl T) μ H2 (yei nx t g m i ρ σ) (ygz X D),⟨1001,μ1,ρ,σ1,Ext.refl _ _,hE.mono e1,r1,p1'⟩,?_⟩;rintro i m st2 H2 ⟨μ2,ρ2,σ2,ex,hE2,r2,p2⟩;cases m with
 |zero=>exact p2.elim
 |succ m=>
  unfold yei at p2;have so:=q1 μ2 H2 σ2 i ex r2;cases en:nx i σ2 with
  |none=>simp only[en]at p2;exact p2.elim
  |some o=>
   cases o with
   |none=>
    simp only[en]at p2 so;exact .inl ⟨so,yhb.here (g:=Gl2.nx st2) p2 r2 hE2⟩
   |some d=>
    simp only[en]at p2 so;obtain⟨hgo,hy⟩:=so;refine .inr ⟨hgo,fun st3 H3=>∃ μ ρ σ,Ext μ1 H1 μ H3/\ygy T μ H3 ρ st3/\Rel T μ H3 σ/\yhb T EN (RFl T) μ H3 (yei nx t g m (i+1) ρ σ) (ygz X D),fun st3 H3 h=>⟨m,Nat.lt_succ_self _,h⟩,fun x H3 y=>?_⟩;obtain⟨ex3,r3,hx⟩:=hy x H3 y;cases ht:t d ρ2 with
    |none=>simp only[ht]at p2;exact p2.elim
    |some ρ3=>
     simp only[ht]at p2;exact⟨μ2,σ2,ρ2,d,ρ3,hE2.mono ex3,r3,hx,ht,fun st3 hE3=>⟨μ2,ρ3,σ2,hE3,r3,(yhb.mono ex3 p2).bind fun fl σ4 μ4 gl H4 _ e4 r4 q4 p4=>znb r4 q4 p4 fun ρ5 st5 hE5 p5=>⟨μ4,ρ5,σ4,(ex.trans ex3).trans e4,hE5,r4,p5⟩⟩⟩
end
def nxE(a:D):NX:=fun i σ=>match yja σ a with
 |some xs=>(match xs[i]? with
  |some x=>some (some (.tup [.int (i:Int),x]))
  |none=>if i=xs.length then some none else none)
 |none=>none
def nxZ(a b:D):NX:=fun i σ=>match yja σ a with
 |some xs=>(match yja σ b with
  |some ys=>(match xs[i]? with
   |some x=>(match ys[i]? with
    |some y=>some (some (.tup [x,y]))
    |none=>if i=min xs.length ys.length then some none else none)
   |none=>if i=min xs.length ys.length then some none else none)
  |none=>none)
 |none=>none
def ygs(a b:D):M NX:=fun σ=>match yja σ a with
 |some _=>(match yja σ b with
  |some _=>.ok (nxZ a b) σ
  |none=>.bad)
 |none=>.bad
def ygr(m:M D)(a:D):M NX:=bnd m (ygs a)
def yk1(f g:Ev->M D):Ev->M NX:=fun ρ=>bnd (f ρ) (ygr (g ρ))
section
variable{T:Tb}{X:Cx}{elts:List Expr}{kk:Nat}{p0 p pos:Pos}{f g:Ev->M D}
theorem zvx:bootBuiltins "zip" = some (.type "zip"):=by decide +kernel
def yi2(K:PySem.W.Frag)(ta:TA):TI:=fun σ H R=>ta σ H fun vs H1=>∃ l m xs ys,vs=[.ref l,.ref m]/\SqL K H1 l xs/\SqL K H1 m ys/\R (Itz K l m) H1
theorem zz8{a b:Expr}{ta:TA}(hg:Gl X "zip")(hm:X.mg "zip" = none)(ha:PA X [a,b] ta)(hs:starEach [a,b] X.env=[(false,eval a X.env),(false,eval b X.env)]:=by rfl)(hs2:starEach [b] X.env=[(false,eval b X.env)]:=by rfl):PI X (.Tuple elts kk p0) (.Call (.Name "zip" p) [a,b] [] pos) (yi2 X.K ta):=by
 intro pins s σ H R I h;refine Call_ (zyt I hg hm zvx (PyProof.Rows.callWith_type1 (thn (ha pos pins s σ H _ I h) fun us s1 ⟨vs,H1,I1,r1,q1⟩=>?_) (by rw[hs,hs2]) (by rw[hs2];rfl)));obtain⟨l,m,xs,ys,e,hq,hq2,q⟩:=q1;subst e;cases r1 with
 |cons r rr=>
  cases rr with
  |cons r' rr=>
   cases rr;cases r;cases r';obtain⟨its,rv,pl,hz⟩:=I1.list hq;obtain⟨its2,rv2,pl2,hz2⟩:=I1.list hq2;refine call_zip_2 pl.isList pl2.isList fun h' a1 a2 a3 a4 a5 a6 a7=>wpAny_pyIter_zip a1 ?_;refine⟨s1.heap.objs.size+4,[s1.heap.objs.size+4,s1.heap.objs.size+2,s1.heap.objs.size+3,s1.heap.objs.size,s1.heap.objs.size+1],_,_,H1,rfl,I1.kept (t':=s1.toks) a7,znc l m (s1.heap.objs.size+4) (s1.heap.objs.size+2) (s1.heap.objs.size+3) s1.heap.objs.size (s1.heap.objs.size+1) (show (s1.heap.objs.size+2:Nat)≠s1.heap.objs.size+3 by omega) (show (s1.heap.objs.size:Nat)≠s1.heap.objs.size+1 by omega),⟨a1,a2,⟨_,_,a3⟩,a4,a5⟩,fun b hb=>?_,q⟩;have hb':s1.heap.objs.size<=b:=by simp at hb;rcases hb with rfl|rfl|rfl|rfl|rfl<;>omega
   exact I1.fpOk hb' (I1.hok.fresh hb')
theorem zxh{e e':Expr}(hg:Gl X "zip")(hm:X.mg "zip" = none)(h:FE T X e f)(h':FE T X e' g)(hs:starEach [e,e'] X.env=[(false,eval e X.env),(false,eval e' X.env)]:=by rfl)(hs2:starEach [e'] X.env=[(false,eval e' X.env)]:=by rfl) :
  FIN T X (.Tuple elts kk p0) (.Call (.Name "zip" p) [e,e'] [] pos) (yk1 f g):=by
 intro pins s st H R I hw;refine zz8 hg hm (zsi h (zsi h' zzu hs2) (by rw[hs,hs2])) hs hs2 pins s st H R I ?_;obtain⟨μ,ρ,σ,hE,hr,hp⟩:=hw;refine⟨μ,ρ,σ,hE,hr,hp.bind fun d σ1 μ1 v H1 _ e1 r1 q1 p1=>⟨μ1,ρ,σ1,hE.mono e1,r1,p1.bind fun d2 σ2 μ2 v2 H2 _ e2 r2 q2 p2=>?_⟩⟩;unfold ygs at p2;cases el:yja σ2 d with
 |none=>rw[el]at p2;exact p2.elim
 |some ds=>
  rw[el]at p2;dsimp only at p2;cases el2:yja σ2 d2 with
  |none=>rw[el2]at p2;exact p2.elim
  |some ds2=>
   rw[el2]at p2;have q1':=Rep.mono e2 _ _ q1;obtain⟨l,vs,rfl,h1,h2⟩:=r2.ls q1' el;obtain⟨m,ws,rfl,h3,h4⟩:=r2.ls q2 el2;refine⟨l,m,vs,ws,rfl,SqL.of h1,SqL.of h3,yhb.here (R:=yhj T) p2 r2 fun μ3 H3 σ3 i ex r3=>?_⟩;unfold nxZ;cases fl:yja σ3 d with
   |none=>trivial
   |some xs=>
    obtain⟨l',us,e',h5,h6⟩:=r3.ls (Rep.mono ex _ _ q1') fl;cases e';dsimp only;cases fl2:yja σ3 d2 with
    |none=>trivial
    |some ys=>
     obtain⟨m',us2,e',h7,h8⟩:=r3.ls (Rep.mono ex _ _ q2) fl2;cases e';have hq1:SqL X.K H3 l us:=SqL.of h5;have hq2:SqL X.K H3 m us2:=SqL.of h7;have l1:=h6.length;have l2:=h8.length;dsimp only;cases ei:xs[i]? with
     |none=>
      dsimp only;by_cases hi:i=min xs.length ys.length
      ·rw[if_pos hi];exact⟨us,us2,hq1,hq2,by rw[hi,l1,l2]⟩
      ·rw[if_neg hi];trivial
     |some d'=>
      dsimp only;cases ei2:ys[i]? with
      |none=>
       dsimp only;by_cases hi:i=min xs.length ys.length
       ·rw[if_pos hi];exact⟨us,us2,hq1,hq2,by rw[hi,l1,l2]⟩
       ·rw[if_neg hi];trivial
      |some d2'=>
       obtain⟨x,hx,rx⟩:=h6.get ei;obtain⟨y,hy,ry⟩:=h8.get ei2;refine⟨⟨us,us2,x,y,hq1,hq2,hx,hy⟩,fun z H' yy=>?_⟩;obtain⟨q,x',y',hn',rfl,hall,hall2,rfl⟩:=yy;have hx':=hall us hq1;rw[hx]at hx';cases hx';have hy':=hall2 us2 hq2;rw[hy]at hy';cases hy';refine⟨zpg hn',r3.fresh hn',?_⟩;rw[Rep];exact⟨q,_,rfl,zne,yhh.cons (Rep.mono (zpg hn') _ _ rx) (yhh.cons (Rep.mono (zpg hn') _ _ ry) yhh.nil)⟩
end
open PySem.Builtin.Str (occurrences partsBetween subAt)
def jl(g:List Nat):List (List Nat)->List Nat
 |[]=>[]
 |p::r=>p++r.flatMap fun q=>g++q
end L4
namespace L4
open PySem PySem.Spec PyProof.Rows L2
section
variable{T:Tb}{X:Cx}{a b c:Expr}{fa fb fc:Ev->M D}{pos:Pos}
theorem zj4{op op':CmpOp}{r r':R2}{o o':D->D->M D}(ho:OpR X (compareOp op) r)(hs:ycd T r o)(ho':OpR X (compareOp op') r')(hs':ycd T r' o')(ha:FE T X a fa)(hb:FE T X b fb)(hc:FE T X c fc)
  (hm:lastMarks [op,op'] [b,c]=false:=by with_unfolding_all rfl):FT T X (.Compare a [op,op'] [b,c] pos) (eT (zwn o o' fa fb fc)):=by
 intro pins s st H Q I h;refine zl5 ho ho' ha hb hc hm pins s st H Q I ?_;obtain⟨μ,ρ,σ,hE,hr,hp0⟩:=h;have hp:yhb T (XE X st) (Rep T) μ H (zwn o o' fa fb fc ρ σ) (fun x H'=>∃ k,x=.bl k/\Q k H'):=hp0.bind fun d σ1 μ1 v H1 _ e1 r1 p1 q1=>by
  obtain⟨k,ev,q⟩:=zuz p1 q1;exact⟨k,ev,q.here r1 rfl⟩
 refine⟨μ,ρ,σ,hE,hr,hp.bind fun x σ1 μ1 v H1 _ e1 r1 q1 p1=>⟨μ1,ρ,σ1,hE.mono e1,r1,p1.bind fun y σ2 μ2 w H2 _ e2 r2 q2 p2=>?_⟩⟩;refine hs _ μ2 H2 σ2 x y v w _ r2 (Rep.mono e2 _ _ q1) q2 (p2.bind fun z σ3 μ3 u H3 _ e3 r3 q3 p3=>?_);obtain⟨k,rfl,ev,p4⟩:=ybt q3 p3;refine⟨k,ev,?_⟩;cases k with
 |true=>
  unfold ifK at p4;rw[if_pos rfl]at p4 ⊢;exact⟨μ3,ρ,σ3,((hE.mono e1).mono e2).mono e3,r3,p4.bind fun z σ5 μ5 u5 H5 _ e5 r5 q5 p5=>hs' _ μ5 H5 σ5 y z w u5 _ r5 (Rep.mono e5 _ _ (Rep.mono e3 _ _ q2)) q5 p5⟩
 |false=>unfold ifK at p4;rw[if_neg Bool.false_ne_true]at p4 ⊢;exact yhb.here p4 r3 (by rw[Rep])
end
section
variable{T:Tb}{X:Cx}
def zr0(y x:D):M D:=fun σ=>match yi4 y with
 |some k=>(match yib σ x with
  |some kvs=>.ok (.bl (!(ydj kvs k).isSome)) σ
  |none=>.bad)
 |none=>.bad
def zs2:R2:=fun y x H Q=>∃ a o,x=.ref a/\DGet H a y o/\Q (.bl (!o.isSome)) H
theorem zha(hu:X.A.units+9<cLine):OpR X (compareOp .NotIn) zs2:=by
 intro pins s st H y x iv u Q I ry rx h;obtain⟨a,o,rfl,g,q⟩:=h;obtain rfl:u=Value.ref a:=rx;exact zoy (by omega) I g ry fun s3 I3=>⟨.bl (!o.isSome),H,I3,rfl,q⟩
theorem zfb:ycd T zs2 zr0:=by
 intro E μ H σ y x u v Q r q p h;unfold zr0 at h;cases ek:yi4 y with
 |none=>rw[ek]at h;exact h.elim
 |some k=>
  rw[ek]at h;dsimp only at h;cases ed:yib σ x with
  |none=>rw[ed]at h;exact h.elim
  |some kvs=>
   rw[ed]at h;obtain⟨a,vs,rfl,h1,h2⟩:=yar r p ed;obtain rfl:=zq5 q ek;refine⟨a,yll vs k,rfl,DGet.kr h1,yhb.here h r ?_⟩;rw[Rep];rcases zjq h2 k with⟨z1,z2⟩|⟨d,w,z1,z2,z3⟩
   ·rw[z1,z2];rfl
   ·rw[z1,z2];rfl
def OkB(T:Tb)(P:Program)(w:World)(mg:Str->Option Value)(base:Heap)(k:Nat)(f:Addr)(ps:List Str)(dv:List Value)(fn:List D->M D):Prop:=
 ∃ fd,yb1 T.K fd ps []/\yb1 T.K fd ps dv/\FnOk P w T.K mg base (CXE P w) k f fd ps (spF T ps.length fn)
structure HasMD(K:PySem.W.Frag)(C:Addr)(x qual:Str)(st:Stmt)(ps:List Str)(dv:List Value)(f:Addr):Prop where
 ex:∃ fd,(∃ (oc:Value) (od:Option Addr) (dV kV doc pm:Value) (an:Option Addr) (cdv ct:Value) (osl:Array (Option Value)),
  fd=PySem.W.fnOf x qual (zo3 st) (zo4 st) (ziy st) dV kV doc pm an cdv ct/\K.lookup f=some ⟨oc,od,.func fd,osl⟩/\PySem.W.codeIn K cdv qual=true)/\yb1 K fd ps []/\yb1 K fd ps dv
end
section
variable{P:Program}{w:World}{K:PySem.W.Frag}{mg:Str->Option Value}{base:Heap}{ca:Nat->Addr}{tx:Tx}
theorem OkB.hide{T:Tb}{k:Nat}{f:Addr}{ps:List Str}{dv:List Value}{fn:List D->M D}(h:OkB T P w mg base k f ps dv fn):OkB T P w mg base k f ps dv (L4.hide fn):=by rw[zqo];exact h
theorem OkB.frz{T:Tb}{k:Nat}{f:Addr}{ps:List Str}{dv:List Value}{fn:List D->M D}(h:OkB T P w mg base k f ps dv fn):OkB T P w mg base k f ps dv (fun ds=>L4.frz (fn ds)):=by
 obtain⟨fd,h1,h2,h3⟩:=h;exact⟨fd,h1,h2,zpx h3⟩
end
section
variable{T:Tb}{X:Cx}
end
section
variable{T:Tb}{X:Cx}
end
def zvt(ix:List Nat)(ρ:Ev):Ev:=none::none::ix.map fun i=>(ρ[i]?).getD none
def zvu(ix:List Nat)(st:St):St:=none::none::ix.map fun i=>(st[i]?).getD none
def yif(src:Ev->M Src)(ix:List Nat)(tg:D->Ev->Option Ev)(fi:Ev->M Bool)(fe:Ev->M D):Ev->M D:=fun ρ=>bnd (src ρ) (lcK tg fi fe (zvt ix ρ))
theorem zij{T:Tb}{μ:List Addr}{H:Hp}{ρ:Ev}{st:St}(ix:List Nat)(h:ygy T μ H ρ st):ygy T μ H (zvt ix ρ) (zvu ix st):=by
 have q:=zoe ix h;refine⟨by simp[zvt,zvu],fun i d e=>?_⟩;cases i with
 |zero=>simp[zvt]at e
 |succ j=>exact q.2 j d e
section
variable{X:Cx}{pins:List (Addr × Obj)}{st:St}{H:Hp}{s:Shared}{x z0:Str}{M':List Str}{ix:List Nat}{scope:Scope}{fp:List Addr}
theorem zea(I:Inv X pins st H s)(L:LcOk X x M' ix scope)(hfp:∀ b∈fp,yg2 X pins H b/\b<s.heap.objs.size){h':Heap}{t':Nat}{m:Str->Option Value}(hns:h'.Ns s.heap.objs.size m)
  (hk:∀ b o,s.heap.get? b=some o->h'.get? b=some o) :
  Inv (blk X (x::z0::M') scope (yh5 X.env scope.names []) s.heap.objs.size s H fp) [] (zvu ix st) H { s with heap:=h',toks:=t' }:=by
 have sub:∀ n c,(yh5 X.env scope.names []).lookup n=some c->X.env.cells.lookup n=some c:=fun n c e=>zwc X.env scope.names [] n c (fun _ _ q=>by simp at q) e;have cellLt:∀ n c,X.env.cells.lookup n=some c->c<s.heap.objs.size:=fun n c e=>by obtain⟨v,z⟩:=I.cell n c e;exact z.lt
 have fresh:H s.heap.objs.size=none:=I.hok.fresh (Nat.le_refl _);refine⟨⟨I.ok.mod,L.kind,I.ok.glob,I.ok.blt,Nat.le_refl _,fun a b c h1 h2=>I.ok.inj a b c (sub a c h1) (sub b c h2),fun a ha=>?_,fun a c h=>(by cases h),I.ok.hd,I.ok.frames,.inl rfl,fun b hb=>⟨Nat.ne_of_lt (hfp b hb).2,fun a c e=>?_⟩,fun b o e=>I.bs b o e,Nat.le_trans I.ok.bsz I.sz,fun b o e hb=>?_,fun b hb z=>?_,I.stack,I.stkFree⟩,
  rfl,I.bare,Un.kept hk,⟨m,hns,fun i y v e1 e2 e3=>?_⟩,fun a c e=>?_,fresh,fun a c e=>I.freeC a c (sub a c e),fun p hp=>absurd (show p∈([]:List (Addr × Obj))from hp) (by simp),I.hok.kept hk,?_⟩
 ·
  have ha':(scope.names.map fun(n,k)=>if (k == NameKind.free && X.env.scope.kind == .function && X.env.kindOf n == some .cell)then (n,NameKind.cell)else (n,k)).lookup a=some .cell\/(scope.names.map fun(n,k)=>if (k == NameKind.free && X.env.scope.kind == .function && X.env.kindOf n == some .cell)then (n,NameKind.cell)else (n,k)).lookup a=some .free:=ha;have hf:scope.names.lookup a=some .free:=by
   rcases ha' with z|z
   ·obtain⟨k0,h1,h2⟩:=zbj z;rcases h2 with h2|⟨h2,_⟩
    ·subst h2;exact absurd rfl (zy4 L _ (zgy h1))
    ·rw[h2]at h1;exact h1
   ·obtain⟨k0,h1,h2⟩:=zbj z;rcases h2 with h2|⟨_,h2⟩
    ·rw[<-h2]at h1;exact h1
    ·cases h2
  exact zv6 X.env scope.names [] a (zgy hf) (zor I L _ (zgy hf) rfl)
 ·exact(hfp b hb).1.2.2.2.2.1 a c (sub a c e)
 ·rcases(hfp b hb).1.2.2.2.1 with z|z
  ·exact I.ok.noex b o e z
  ·exact absurd (Nat.lt_of_lt_of_le (Heap.lt_size e) (Nat.le_trans I.ok.bsz z)) (Nat.lt_irrefl _)
 ·rcases List.mem_cons.mp (I.stkSub b z)with q|q
  ·exact(hfp b hb).1.2.1 q
  ·exact(hfp b hb).1.2.2.1 q
 ·
  cases i with
  |zero=>simp[zvu]at e2
  |succ i=>
  cases i with
  |zero=>simp[zvu]at e2
  |succ j=>
   have e1':M'[j]?=some y:=e1;have e2':(ix.map fun i=>(st[i]?).getD none)[j]?=some (some v):=e2;rw[List.getElem?_map]at e2';cases ej:ix[j]? with
   |none=>rw[ej]at e2';cases e2'
   |some i0=>
    rw[ej]at e2';have e4:(st[i0]?).getD none=some v:=Option.some.inj e2';have e5:st[i0]?=some (some v):=by
     cases q:st[i0]? with
     |none=>rw[q]at e4;cases e4
     |some o=>rw[q]at e4;exact congrArg some e4
    have e6:X.N[i0]?=some y:=by
     have z:=congrArg (fun l=>l[j]?) L.at_;simp only[List.getElem?_map,ej,e1',Option.map_some]at z;exact Option.some.inj z
    have q:=List.all_eq_true.mp L.vis y (List.mem_of_getElem? e1');simp only[Bool.and_eq_true,Bool.or_eq_true]at q;have kx:X.env.scope.names.lookup y=some .cell\/X.env.scope.names.lookup y=some .free:=by
     rcases q.1 with z|z
     ·exact .inl (eq_of_beq z)
     ·exact .inr (eq_of_beq z)
    have ky:scope.names.lookup y=some .free:=eq_of_beq q.2;obtain⟨m0,hn0,hl0⟩:=I.loc;obtain⟨u,ru,lu⟩:=hl0 i0 y v e6 e5 (by rcases kx with z|z;exact .inr (.inl z);exact .inr (.inr z));refine⟨u,ru,.inr ⟨zc3 (env:=X.env) ky,?_⟩⟩;rcases lu with⟨z,_⟩|⟨_,c,ec,zc⟩
    ·rcases kx with k|k
     ·rw[show X.env.kindOf y=X.env.scope.names.lookup y from rfl,k]at z;cases z
     ·rw[show X.env.kindOf y=X.env.scope.names.lookup y from rfl,k]at z;cases z
    ·obtain⟨c',hc'⟩:=zv6 X.env scope.names [] y (zgy ky) (zor I L _ (zgy ky) rfl);have e7:=sub y c' hc';rw[ec]at e7;cases e7;obtain⟨o,ho,hd⟩:=zc;exact⟨c,hc',o,hk _ _ ho,hd⟩
 ·obtain⟨v,o,ho,hd⟩:=I.cell a c (sub a c e);exact⟨v,o,hk _ _ ho,hd⟩
 ·simp[zvu,blk];have z:=congrArg List.length L.at_;simpa using z
end
section
variable{T:Tb}{X:Cx}
end
section
variable{T:Tb}{X:Cx}
def apart(n:Nat):D->Bool
 | .ref m=>!(m == n)
 |_=>true
end
section
variable{T:Tb}{X:Cx}
def yi6:Key->D
 | .inl i=>.int i
 | .inr x=>.str x
end
end L4
namespace L4
open PySem PySem.Spec PySem.Calls PySem.W PyProof.Rows PyProof.V
end L4
namespace L4
open PySem PySem.Spec PyProof.Rows L2
section
variable{T:Tb}{X:Cx}
end
section
variable{T:Tb}{X:Cx}
end
end L4
namespace L2
open PySem PySem.Spec PyProof.Rows
end L2
namespace L4
open PySem PySem.Spec PyProof.Rows L2
section
variable{T:Tb}{X:Cx}
inductive Dsp(T:Tb)(X:Cx):List (Option Expr)->List Expr->List Key->(Ev->M (List D))->Prop
 |nil:Dsp T X [] [] [] yhr
 |cons {k v:Expr} {kk:Key} {f:Ev->M D} {ks:List (Option Expr)} {vs:List Expr} {kks:List Key} {fs:Ev->M (List D)} (hk:FE T X k (eC (yi6 kk))) (hv:FE T X v f) (r:Dsp T X ks vs kks fs):Dsp T X (some k::ks) (v::vs) (kk::kks) (yci f fs)
end
section
variable{T:Tb}{X:Cx}{pins:List (Addr × Obj)}{st:St}{H:Hp}{s:Shared}
variable{N':List Str}{scope:Scope}{cl:List (Str × Addr)}{H3:Hp}{s3:Shared}{fp:List Addr}{xe:Value->Shared->Prop}
end
section
variable{T:Tb}{X:Cx}
end
section
variable{ρ:Ev}{σ:Sto}
end
end L4
namespace L4
open PySem PySem.Spec PyProof.Rows L2 Builtin Builtin.Str
section
variable{T:Tb}{X:Cx}{a b e o:Expr}{fa fb f:Ev->M D}{pos apos cpos:Pos}
end
section
variable{ρ:Ev}{σ:Sto}
end
end L4
namespace L4
open PySem PySem.Spec PyProof.Rows L2
section
variable{T:Tb}{X:Cx}
end
section
variable{ρ:Ev}{σ:Sto}
end
section
variable{prog:Program}{w:World}{A:Around}{E:Value->Shared->Prop}{h:Heap}{g:Array GenState}{d:Drawn}{t:Nat}{os:OsState}
variable{nm qn:Str}{C N:Addr}{bs bm bmB:List Value}{hdct:Bool}{sn:List Str}{sub:List Value}{ab:Bool}{col:Option Bool}{dd:Option Addr}{k0 k1 k2 k3 k5:Option Value}{B newId initId:String}
end
section
variable{T:Tb}{X:Cx}{pins:List (Addr × Obj)}{st:St}{H:Hp}{s:Shared}
end
section
variable{X:Cx}
end
section
variable{prog:Program}{w:World}{A:Around}{E:Value->Shared->Prop}{h:Heap}{g:Array GenState}{d:Drawn}{t:Nat}{os:OsState}{K:PySem.W.Frag}
variable{nm qn:Str}{C N x:Addr}{bs bm bmB:List Value}{sn:List Str}{sub:List Value}{ab:Bool}{col:Option Bool}{dd:Option Addr}{k0 k1 k2 k3 k5:Option Value}{B newId sa owner:String}{name:Str}{v:Value}{o:Obj}{vs:Array Value}
end
section
variable{X:Cx}
end
section
variable{P:Program}{w:World}{K:PySem.W.Frag}{mg:Str->Option Value}{base:Heap}
end
section
variable{M:Model}{A:Around}{E:Value->Shared->Prop}{s:Shared}{env:Env}
variable{nm qn:Str}{C N:Addr}{bs bm:List Value}{hdct:Bool}{sn:List Str}{sub:List Value}{ab:Bool}{col:Option Bool}{dd:Option Addr}{k0 k1 k2 k3 k5:Option Value}{newId:String}
end
section
variable{T:Tb}{X:Cx}
end
end L4
namespace L4
open PySem PySem.Spec PySem.Calls PyProof.Rows PySem.Builtin PySem.Builtin.ObjectAttr L2
section
variable{prog:Program}{w:World}{A:Around}{E:Value->Shared->Prop}{s:Shared}{K:PySem.W.Frag}{C ea dN:Addr}{hp:Heap}{n:Nat}{Mo:Model}
end
section
variable{T:Tb}{X:Cx}
end
section
variable{ρ:Ev}{σ:Sto}
end
end L4
namespace HT
open PySem Builtin
open Sem (wp)
end HT
namespace L4
open PySem PySem.Spec PyProof.Rows L2
end L4
namespace L4
open PySem
def Ris(xs:Array Nat):Prop:=∀ i k:Nat,∀ a b:Nat,i<k->xs[i]?=some a->xs[k]?=some b->a<b
def Cut(xs:Array Nat)(j p:Nat):Prop:=p<=xs.size/\(∀ i a:Nat,i<p->xs[i]?=some a->a<j)/\∀ i a:Nat,p<=i->xs[i]?=some a->j<=a
theorem zih{xs:Array Nat}(hr:Ris xs)(j:Nat):∀ (fuel lo hi:Nat),hi - lo<=fuel->lo<=hi->hi<=xs.size->(∀ i a:Nat,i<lo->xs[i]?=some a->a<j)->(∀ i a:Nat,hi<=i->xs[i]?=some a->j<=a)->Cut xs j (SetTable.below.go xs j fuel lo hi):=by
 intro fuel;induction fuel with
 |zero=>
  intro lo hi h1 h2 h3 h4 h5;have e:lo=hi:=by omega
  subst e;exact⟨h3,h4,h5⟩
 |succ f ih=>
  intro lo hi h1 h2 h3 h4 h5;unfold SetTable.below.go;by_cases hl:lo<hi
  ·rw[if_pos hl];dsimp only;have hm:(lo+hi) / 2<hi:=by omega
   have hm2:lo<=(lo+hi) / 2:=by omega
   have hs:(lo+hi) / 2<xs.size:=by omega
   have eg:xs[(lo+hi) / 2]?=some xs[(lo+hi) / 2]:=Array.getElem?_eq_getElem hs;have ed:xs.getD ((lo+hi) / 2) j=xs[(lo+hi) / 2]:=by simp[Array.getD,hs]
   rw[ed];by_cases hc:xs[(lo+hi) / 2]<j
   ·rw[if_pos hc];refine ih _ _ (by omega) (by omega) h3 (fun i a hi' ea=>?_) h5;by_cases e:i=(lo+hi) / 2
    ·subst e;rw[eg]at ea;cases ea;exact hc
    ·have:=hr i ((lo+hi) / 2) a _ (by omega) ea eg;omega
   ·rw[if_neg hc];refine ih _ _ (by omega) (by omega) (by omega) h4 (fun i a hi' ea=>?_);by_cases e:i=(lo+hi) / 2
    ·subst e;rw[eg]at ea;cases ea;omega
    ·have:=hr ((lo+hi) / 2) i _ a (by omega) eg ea;omega
  ·rw[if_neg hl];have e:lo=hi:=by omega
   subst e;exact⟨h3,h4,h5⟩
theorem zfo{xs:Array Nat}(hr:Ris xs)(j:Nat):Cut xs j (SetTable.below xs j):=by
 unfold SetTable.below;exact zih hr j _ _ _ (by omega) (by omega) (Nat.le_refl _) (fun i a h=>by omega) (fun i a h ea=>by
  have:=(Array.getElem?_eq_some_iff.mp ea).1;omega)
theorem zc0{xs:Array Nat}{p x:Nat}(hp:p<=xs.size)(i:Nat):(SetTable.insertAt xs p x)[i]?=if i<p then xs[i]? else if i=p then some x else xs[i - 1]?:=by
 unfold SetTable.insertAt;have s1:(xs.extract 0 p).size=p:=by simp;omega
 rw[Array.getElem?_append,Array.size_push,s1];by_cases h1:i<p
 ·rw[if_pos (by omega),if_pos h1,Array.getElem?_push,if_neg (by rw[s1];omega),Array.getElem?_extract];simp;omega
 ·rw[if_neg h1];by_cases h2:i=p
  ·subst h2;rw[if_pos (by omega),if_pos rfl,Array.getElem?_push,if_pos (by rw[s1])]
  ·rw[if_neg (by omega),if_neg h2,Array.getElem?_extract];by_cases h3:i - 1<xs.size
   ·rw[if_pos (by omega)];congr 1;omega
   ·rw[if_neg (by omega),Array.getElem?_eq_none (by omega)]
theorem ze3{xs:Array Nat}{p x:Nat}(hr:Ris xs)(hc:Cut xs x p)(hn:¬ xs[p]?=some x):Ris (SetTable.insertAt xs p x):=by
 have ge:∀ i a:Nat,p<=i->xs[i]?=some a->x<a:=fun i a hi ea=>by
  have h1:=hc.2.2 i a hi ea;rcases Nat.lt_or_ge x a with h|h
  ·exact h
  ·have e:a=x:=by omega
   subst e;by_cases hip:i=p
   ·subst hip;exact absurd ea hn
   ·have hl:=(Array.getElem?_eq_some_iff.mp ea).1;have hp:p<xs.size:=by omega
    have e2:xs[p]?=some xs[p]:=Array.getElem?_eq_getElem hp;have:=hr p i _ _ (by omega) e2 ea;have:=hc.2.2 p _ (Nat.le_refl _) e2;omega
 intro i k a b hik ea eb;rw[zc0 hc.1]at ea eb;by_cases h1:i<p
 ·rw[if_pos h1]at ea;by_cases h2:k<p
  ·rw[if_pos h2]at eb;exact hr i k a b hik ea eb
  ·rw[if_neg h2]at eb;by_cases h3:k=p
   ·rw[if_pos h3]at eb;cases eb;exact hc.2.1 i a h1 ea
   ·rw[if_neg h3]at eb;exact hr i (k - 1) a b (by omega) ea eb
 ·rw[if_neg h1]at ea;have h2:¬ k<p:=by omega
  rw[if_neg h2,if_neg (by omega)]at eb;by_cases h3:i=p
  ·rw[if_pos h3]at ea;cases ea;exact ge (k - 1) b (by omega) eb
  ·rw[if_neg h3]at ea;exact hr (i - 1) (k - 1) a b (by omega) ea eb
structure TOk(b:Bool)(t:SetTable):Prop where
 led:t.led = !b
 ris:Ris t.place
 dum:t.dummies=#[]
theorem zqk(j:Nat):SetTable.has #[] j=false:=by
 unfold SetTable.has;simp
theorem TOk.put{b:Bool}{t:SetTable}(h:TOk b t){j:Nat}(hn:¬ t.place[SetTable.below t.place j]?=some j):TOk b (t.put j).1:=by
 unfold SetTable.put;dsimp only;refine⟨h.led,ze3 h.ris (zfo h.ris j) hn,?_⟩;rw[h.dum,zqk];rfl
theorem TOk.plain{b p:Bool}{t:SetTable}(h:TOk b t):TOk b { t with plain:=p }:=⟨h.led,h.ris,h.dum⟩
theorem zhl(n:Nat):Ris (Array.range n):=by
 intro i k a c hik ea ec;have l1:=(Array.getElem?_eq_some_iff.mp ea).1;have l2:=(Array.getElem?_eq_some_iff.mp ec).1;simp only[Array.size_range]at l1 l2;simp[l1]at ea;simp[l2]at ec;omega
theorem TOk.stand{b:Bool}{t:SetTable}(h:TOk b t)(n:Nat):TOk b (t.standIn n):=⟨h.led,zhl n,rfl⟩
theorem TOk.or{b:Bool}{t:SetTable}(h:TOk b t)(n:Nat):TOk b (t.orStandIn n):=by
 unfold SetTable.orStandIn;split
 ·exact h
 ·exact h.stand n
theorem TOk.fresh(b:Bool):TOk b (SetTable.fresh 0 0 (!b)):=⟨rfl,fun i k a c _ ea _=>by simp[SetTable.fresh]at ea,rfl⟩
end L4
namespace L4
open PySem PySem.Spec PyProof.Rows
section
variable{prog:Program}{w:World}{K:Type}[DecidableEq K][BEq K][LawfulBEq K]{knd:KeyKind prog w K}{A:Around}{E:Value->Shared->Prop}{s:Shared}{b:Bool}{a:Addr}{k:K}{x:Value}
end
section
variable{prog:Program}{w:World}{A:Around}
variable{E:Value->Shared->Prop}{s:Shared}
end
section
variable{prog:Program}{w:World}{A:Around}{E:Value->Shared->Prop}{s:Shared}
set_option maxHeartbeats 3200000 in
end
def ycb(h:Heap)(a:Addr)(es:Array (Int × Value))(ep:Nat)(t:SetTable):Prop:=∃ o,h.get? a=some o/\o.ExactSet/\o.data=.set es ep t
def yg3(h:Heap)(I a:Addr)(first:Value)(i n ep:Nat):Prop:=∃ o,h.get? I=some o/\o.cls=.type "set_iterator"/\o.data=.fields #[first,rawInt i,.ref a,rawInt n,rawInt ep]
section
variable{prog:Program}{w:World}{A:Around}{E:Value->Shared->Prop}{s:Shared}{I a:Addr}{es:Array (Int × Value)}{ep:Nat}{t:SetTable}{i:Nat}
theorem yg3.ty{first:Value}{n:Nat}(h:yg3 s.heap I a first i n ep):s.TypeIs (.ref I) "set_iterator":=let ⟨o,h1,h2,_⟩:=h;⟨o,h1,h2⟩
end
section
variable{prog:Program}{w:World}{A:Around}{E:Value->Shared->Prop}{s:Shared}{a:Addr}{es:Array (Int × Value)}{ep:Nat}{t:SetTable}{i:Nat}
end
section
variable{prog:Program}{w:World}{A:Around}{E:Value->Shared->Prop}{s:Shared}{I a p:Addr}{es:Array (Int × Value)}{ep:Nat}{t:SetTable}{i:Nat}
def ycg(h:Heap)(p:Addr)(ps:List Nat):Prop:=∃ o n,h.get? p=some o/\o.data=.seq (ps.map fun(i:Nat)=>rawInt i).toArray n
end
section
variable{prog:Program}{w:World}{A:Around}{I a p:Addr}{es:Array (Int × Value)}{ep:Nat}{t:SetTable}
theorem yg3.keep{h h':Heap}{first:Value}{i n:Nat}(x:yg3 h I a first i n ep)(k:∀ o,h.get? I=some o->h'.get? I=some o):yg3 h' I a first i n ep:=let ⟨o,e,r⟩:=x;⟨o,k o e,r⟩
theorem ycb.keep{h h':Heap}(x:ycb h a es ep t)(k:∀ o,h.get? a=some o->h'.get? a=some o):ycb h' a es ep t:=let ⟨o,e,r⟩:=x;⟨o,k o e,r⟩
theorem ycg.keep{h h':Heap}{ps:List Nat}(x:ycg h p ps)(k:∀ o,h.get? p=some o->h'.get? p=some o):ycg h' p ps:=let ⟨o,n,e,r⟩:=x;⟨o,n,k o e,r⟩
end
end L4
namespace L4
open PySem PySem.Spec PySem.Calls PySem.W PyProof.Rows PyProof.V
section
variable{prog:Program}{w:World}{A:Around}{E:Value->Shared->Prop}{s:Shared}{a:Addr}{es:Array (Int × Value)}{ep:Nat}{t:SetTable}
end
end L4
namespace L4
open PySem PySem.Spec PyProof.Rows L2
theorem zf6(ns:List Int):(ddp ns).Nodup:=by
 unfold ddp;have h:∀ (l acc:List Int),acc.Nodup->(l.foldl step_dedup acc).Nodup:=by
  intro l;induction l with
  |nil=>intro acc h;exact h
  |cons x l ih=>
   intro acc h;rw[List.foldl_cons];refine ih _ ?_;unfold step_dedup;split
   ·exact h
   ·rename_i hx
    rw[List.nodup_append];refine⟨h,by simp,fun a ha b hb=>?_⟩;rw[List.mem_singleton]at hb;intro e;subst e;subst hb;exact hx (List.any_eq_true.mpr ⟨_,ha,by simp⟩)
 exact h ns [] List.nodup_nil
section
variable{T:Tb}{X:Cx}
theorem zwi(ns:List Int):(ddp ns).length<=ns.length:=by rw[<-zf5];exact firstMet_length_le _ _
def zy8(x:D)(xs:List D):M D:=fun σ=>match x,xs with
 | .ref n,[]=>(match σ[n]? with
  |some (.dic _)=>.ok .non (σ.set n (.dic []))
  |_=>.bad)
 |_,_=>.bad
def ye1(ds:List D):M D:=fun σ=>match ds with
 |[x]=>(match yib σ x with
  |some kvs=>.ok (.ref σ.length) (σ++[.dic kvs])
  |none=>.bad)
 |_=>.bad
theorem zmx:znt T yj6 ye1:=by
 intro E μ H σ ds vs Q r p h
 match ds with
 |[]=>exact h.elim
 |[x]=>
  unfold ye1 at h;dsimp only at h;cases ed:yib σ x with
  |none=>rw[ed]at h;exact h.elim
  |some kvs=>
   rw[ed]at h;rw[yhh]at p;obtain⟨v,r',rfl,q1,q2⟩:=p;rw[yhh]at q2;subst q2;obtain⟨a,ws,rfl,h1,h2⟩:=yar r q1 ed;refine⟨a,ws,rfl,h1,fun l hn=>?_⟩;exact h (μ++[l]) (.ref l) _ (zje hn) (r.push hn ⟨ws,zne,Paired.mapP h2 fun _ _ z=>⟨z.1,Rep.mono (zje hn) _ _ z.2⟩⟩) (zmb r)
 |_::_::_=>exact h.elim
end
section
variable{X:Cx}{pins:List (Addr × Obj)}{σ:St}{H:Hp}{s:Shared}
theorem _root_.L2.Inv.freeze{a:Addr}{kvs:List (Key × V)}{od:Obj}(I:Inv X pins σ H s)(hd:H a=some (.dK kvs))(e:s.heap.get? a=some od):Inv X pins σ (upd H a (.frz od (.dK kvs))) s:=by
 have ne:∀ b u,H b=some u->u≠.dK kvs->b≠a:=fun b u q n z=>by rw[z,hd]at q;exact n (Option.some.inj q).symm
 refine I.step (g':=s.gens) (d':=s.drawn) (t':=s.toks) (h':=s.heap) (ch:=[]) (fun _ z=>nomatch z) (fun b o _ _ _ q _=>q) (fun b o _ _ _ q _=>⟨o.slots,q⟩) (fun b o _ q n=>?_) (fun b o _ q=>⟨o,q⟩)
  (fun b xs q=>by rw[yby (ne b _ q (fun z=>by cases z))];exact q) (fun b u xs q=>by rw[yby (ne b _ q (fun z=>by cases z))];exact q) (fun b ps q=>⟨#[],by rw[yby (ne b _ q (fun z=>by cases z)),q];simp⟩) (fun m hm=>hm) (fun b u q=>?_) I.bare
 ·rw[yby (fun z=>by rw[z,hd]at n;cases n)];exact n
 ·by_cases hb:b=a
  ·subst hb;rw[zne]at q;cases q;exact⟨e,I.hok b _ hd⟩
  ·rw[yby hb]at q;exact(I.hok b u q).stay (fun c v _ z=>z) (fun c z=>by rw[yby (ne c _ z (fun y=>by cases y))];exact z) fun c xs z=>by rw[yby (ne c _ z (fun y=>by cases y))];exact z
theorem zxo{a:Addr}{kvs:List (Key × V)}{od:Obj}(I:Inv X pins σ H s)(hd:H a=some (.frz od (.dK kvs))):∃ vs es ep,KV kvs vs/\od.data=.dict es ep/\s.heap.DictAt (zrr X.prog X.w) a vs ep:=by
 obtain⟨e,_,_,vs,rel,o,es,ep,e2,ex,dt,r⟩:=I.hok a _ hd;rw[e]at e2;cases e2;exact⟨vs,es,ep,rel,dt,od,es,e,ex,dt,r⟩
end
def Itm(d:Addr)(od:Obj)(kvs:List (Key × V)):It:=
 ⟨fun i H=>H d=some (.frz od (.dK kvs))/\∃ x,kvs[i]?=some x,fun i H v H'=>∃ p k x,H p=none/\v=.ref p/\kvs[i]?=some (k,x)/\H'=upd H p (.tup [kV k,x]),fun i H=>H d=some (.frz od (.dK kvs))/\i=kvs.length⟩
theorem zyn{κ:Type}:∀ {kvs:List (κ × V)} {vs:List (κ × Value)} (r:KV kvs vs) (i:Nat) {k:κ} {x:V},kvs[i]?=some (k,x)->∃ u,vs[i]?=some (k,u)/\yhe x u
 |_,_,.nil,i,_,_,h=>by simp at h
 |_,_,.cons (b:=q) a b,0,k,x,h=>by
  simp only[List.getElem?_cons_zero,Option.some.injEq]at h;obtain⟨a1,a2⟩:=a;rw[h]at a1 a2;exact⟨q.2,by simp only[List.getElem?_cons_zero,Option.some.injEq];exact Prod.ext a1.symm rfl,a2⟩
 |_,_,.cons a b,i+1,k,x,h=>by
  simp only[List.getElem?_cons_succ]at h ⊢;exact zyn b i h
theorem zkr{P:Program}{w:World}{k:Key}{v:Value}(h:(zrr P w).is k v=true):yhe (kV k) v:=by
 rcases zdn (k:=k) (v:=v) h with⟨i,t,rfl,rfl⟩|⟨x,t,rfl,rfl⟩
 ·exact⟨t,rfl⟩
 ·exact⟨t,rfl⟩
theorem zff{P:Program}{w:World}{K:PySem.W.Frag}{elts:List Expr}{kk:Nat}{pos:Pos}(d it:Addr)(od:Obj)(kvs:List (Key × V))(hne:d≠it){es:Array DictEntry}{ep:Nat}(hod:od.data=.dict es ep) :
  Turn P w K (.Tuple elts kk pos) (Itm d od kvs) [it] it (fun i h=>∃ ok ov,IsItemIter h it d i kvs.length ep ok ov) where
 mem:=by simp
 obj:=fun i h st b hb=>by
  obtain⟨ok,ov,s1⟩:=st;obtain rfl:b=it:=by simpa using hb
  exact⟨_,s1,fun v z=>by cases z⟩
 keep:=fun i h h' st k=>by
  obtain⟨ok,ov,s1⟩:=st;exact⟨ok,ov,k it (by simp) _ s1⟩
 item:=by
  intro X hP hw hK hc i pins s σ H E I hf st hg;subst hP hw hK;obtain⟨hd,⟨k,x⟩,hx⟩:=hg;obtain⟨vs,es',ep',rel,dt,hm⟩:=zxo I hd;rw[hod]at dt;cases dt;obtain⟨u,hu,ru⟩:=zyn rel i hx;obtain⟨ok,ov,s1⟩:=st;rw[rel.length]at s1;refine wpAny_pyNext_items_item s1 hm hu fun key h' hkey ho hT hsz hk=>?_;have hTn:s.heap.objs.size≠it:=Nat.ne_of_gt (Heap.lt_size s1);refine⟨.ref s.heap.objs.size,rfl,wpAny_letOwnedTupleGo_items ho fun h2 hi2 hs2=>?_⟩;have hn:H s.heap.objs.size=none:=I.hok.fresh (Nat.le_refl _);have hT2:h2.get? s.heap.objs.size=some { cls:=.type "tuple",data:=.seq #[key,u] }:=hs2.extBut _ _ hTn hT;refine⟨.ref s.heap.objs.size,upd H s.heap.objs.size (.tup [kV k,x]),I.turnL (t':=s.toks) (o:=.tup [kV k,x]) (its:=[it]) (fun b o hb q=>hs2.extBut b o (fun z=>hb (by simp[z])) (hk b o (fun z=>hb (by simp[z])) q)) hf (Nat.le_refl _) ?_,rfl,⟨_,k,x,hn,rfl,hx,rfl⟩,⟨key,u,by rw[rel.length];exact hi2⟩,fun b hb=>?_⟩
  ·exact⟨(show (2:Nat)<=sizeLine by decide),[key,u],.cons (zkr hkey) (.cons ru .nil),⟨_,hT2,rfl,_,rfl⟩⟩
  ·obtain rfl:b=it:=by simpa using hb
   rw[yby (fun z=>hTn z.symm)];exact(hf b hb).1
 done:=by
  intro X hP hw hK hc i pins s σ H E I hf st hg;subst hP hw hK;obtain⟨hd,hi⟩:=hg;obtain⟨vs,es',ep',rel,dt,hm⟩:=zxo I hd;rw[hod]at dt;cases dt;obtain⟨ok,ov,s1⟩:=st;rw[rel.length]at s1 hi;exact wpAny_pyNext_items_end (I.ok.hd hc) s1 hm (by rw[hi];simp) fun h' eb=>⟨rfl,I.turnN (t':=s.toks) (its:=[it]) (fun b o hb q=>eb b o (fun z=>hb (by simp[z])) q) hf⟩
 self:=fun A i s Q E st h=>by
  obtain⟨ok,ov,s1⟩:=st;exact PySem.W.kcp_self s1 h
def yhp(l a:Addr):Heap->Prop:=fun h=>h.IsItemsView l a
def yan:V->List V->Hp->VK->Prop:=fun x xs H Q=>∃ a kvs,x=.ref a/\xs=[]/\Rd H a (.dK kvs)/\∀ l,H l=none->Q (.ref l) (upd H l (.ext (yhp l a)))
theorem zu2{H:Hp}{a:Addr}{o:HO}(h:H a=some o):upd H a o=H:=by
 funext b;unfold upd;split
 ·next e=>rw[e,h]
 ·rfl
theorem zj9(h:Heap)(o:Obj)(hf:o.data≠.freed):(h.push o).get? h.objs.size=some o:=by
 obtain⟨c,d,x,sl⟩:=o;simp[Heap.get?,Heap.push];cases x<;>first|rfl|exact absurd rfl hf
section
variable{T:Tb}{X:Cx}{elts:List Expr}{kk:Nat}{p0:Pos}
theorem zlc:MtR X "dict.items" yan:=by
 intro pins s st H x vs v us Q I rx rv h;obtain⟨a,kvs,rfl,rfl,hH,q⟩:=h;cases rx;cases rv;obtain⟨z,hd,ws,rel,dd⟩:=yc1 I.hok hH;refine call_meetsIn PySem.F.slot_dict_items dd.typeIs PySem.F.entry_dict_items (PySem.F.args_dict_items_1 _) (meets_dict_items (zrr X.prog X.w) a hd) ⟨⟨ws,dd⟩,?_⟩;refine⟨.ref s.heap.objs.size,_,I.laid (t':=s.toks) (o:=.ext (yhp s.heap.objs.size a)) (fun b o e=>Heap.get?_push_of_some _ e) (Nat.le_refl _) ?_,rfl,q _ (I.hok.fresh (Nat.le_refl _))⟩;refine⟨⟨_,zj9 _ _ (fun z=>by cases z),rfl,rfl⟩,⟨_,zj9 _ _ (fun z=>by cases z)⟩,fun h1 h2 p k=>?_⟩;obtain⟨o,e,c⟩:=p;exact⟨o,k o e,c⟩
def zx6(te:TE):TI:=fun σ H R=>te σ H fun v H1=>∃ l a kvs,v=.ref l/\H1 l=some (.ext (yhp l a))/\Rd H1 a (.dK kvs)/\∀ od,H1 a=some (.dK kvs)\/H1 a=some (.frz od (.dK kvs))->R (Itm a od kvs) (upd H1 a (.frz od (.dK kvs)))
theorem zl1{iter:Expr}{te:TE}(he:PE X iter te):PI X (.Tuple elts kk p0) iter (zx6 te):=by
 intro pins s σ H R I h;refine thn (he pins s σ H _ I h) fun v s1 ⟨x,H1,I1,r1,q1⟩=>?_;obtain⟨l,a,kvs,rfl,hl,hk,q⟩:=q1;cases r1;obtain⟨od,hod,I2⟩:∃ od,(H1 a=some (.dK kvs)\/H1 a=some (.frz od (.dK kvs)))/\Inv X pins σ (upd H1 a (.frz od (.dK kvs))) s1:=by
  rcases hk with hk|⟨od,hk⟩
  ·obtain⟨_,_,vs,rel,o,es,ep,e,_⟩:=I1.hok a _ hk;exact⟨o,.inl hk,I1.freeze hk e⟩
  ·exact⟨od,.inr hk,by rw[zu2 hk];exact I1⟩
 obtain⟨vs,es,ep,rel,dt,hm⟩:=zxo I2 zne;have hv:s1.heap.IsItemsView l a:=(I1.hok l _ hl).1;have hne:a≠s1.heap.objs.size:=Nat.ne_of_lt hm.lt_size;refine wpAny_pyIter_items hv hm ?_;refine⟨s1.heap.objs.size,[s1.heap.objs.size],_,Itm a od kvs,_,rfl,I2.kept (t':=s1.toks) (fun b o e=>Heap.get?_push_of_some _ e),zff a _ od kvs hne dt,⟨.none,.none,by rw[rel.length];exact zj9 _ _ (fun z=>by cases z)⟩,fun b hb=>?_,q od hod⟩;obtain rfl:b=s1.heap.objs.size:=by simpa using hb
 exact I2.fpOk (Nat.le_refl _) (I2.hok.fresh (Nat.le_refl _))
def nxI(kv:List (Key × D)):NX:=fun i _=>match kv[i]? with
 |some p=>some (some (.tup [yi6 p.1,p.2]))
 |none=>if i=kv.length then some none else none
def yd5(d:D):M NX:=fun σ=>match d with
 | .dic ks xs=>if ks.length=xs.length then .ok (nxI (ks.zip xs)) σ else .bad
 |_=>.bad
def yky(f:Ev->M D):Ev->M NX:=fun ρ=>bnd (f ρ) yd5
theorem zq4{μ:List Addr}{H:Hp}(k:Key):Rep T μ H (yi6 k) (kV k):=by
 cases k<;>(unfold yi6 kV;rw[Rep])
theorem zpf{μ:List Addr}{H:Hp}{a:Addr}{od:Obj}{kvs:List (Key × V)}(hk:H a=some (.dK kvs)):Ext μ H μ (upd H a (.frz od (.dK kvs))):=by
 have ne:∀ b u,H b=some u->u≠.dK kvs->b≠a:=fun b u q n z=>by rw[z,hk]at q;exact n (Option.some.inj q).symm
 refine⟨⟨[],by simp⟩,fun p xs h=>by rw[yby (ne p _ h (fun z=>by cases z))];exact h,fun p o u h=>by rw[yby (ne p _ h (fun z=>by cases z))];exact h,fun p o h n=>⟨?_,n⟩⟩;by_cases e:p=a
 ·subst e;rw[hk]at h;cases h;exact⟨_,zne,.inr (.inl ⟨od,kvs,rfl,rfl⟩)⟩
 ·exact⟨o,by rw[yby e];exact h,.inl rfl⟩
theorem zex{α β:Type}{R:α->β->Prop}:∀ {xs:List α} {ys:List β},Paired R xs ys->∀ (i:Nat) {x:α},xs[i]?=some x->∃ y,ys[i]?=some y/\R x y
 |_,_,.nil,i,_,h=>by simp at h
 |_,_,.cons a b,0,x,h=>by
  simp only[List.getElem?_cons_zero,Option.some.injEq]at h ⊢;subst h;exact⟨_,rfl,a⟩
 |_,_,.cons a b,i+1,x,h=>by
  simp only[List.getElem?_cons_succ]at h ⊢;exact zex b i h
theorem zjm{e:Expr}{f:Ev->M D}{apos cpos:Pos}(h:FE T X e f)(hbase:attributeBase e "items" X.env (eval e X.env)=eval e X.env:=by rfl)(hline:(apos.endLine == cpos.line)=true:=by rfl) :
  FIN T X (.Tuple elts kk p0) (.Call (.Attribute e "items" apos) [] [] cpos) (yky f):=by
 intro pins s st H R I hw;refine zl1 (zsk PySem.F.plainAttrs_dict PySem.F.slot_dict_items PySem.F.type_dict_items zlc h hbase hline) pins s st H R I ?_;obtain⟨μ,ρ,σ,hE,hr,hp⟩:=hw;refine⟨μ,ρ,σ,hE,hr,hp.bind fun d σ1 μ1 v H1 _ e1 r1 q1 p1=>?_⟩;unfold yd5 at p1;cases d with
 |dic ks xs=>
  dsimp only at p1;by_cases hl:ks.length=xs.length
  ·rw[if_pos hl]at p1;rw[Rep]at q1;obtain⟨a,kvs,rfl,hn,hk,hks,hxs⟩:=q1;refine⟨⟨a,kvs,rfl,hk⟩,a,kvs,rfl,rfl,hk,fun l hln=>?_⟩;have nal:a≠l:=by rcases hk with hk|⟨_,hk⟩<;>exact zev hk hln
   have hk1:Rd (upd H1 l (.ext (yhp l a))) a (.dK kvs):=by unfold Rd;rw[yby nal];exact hk
   refine⟨l,a,kvs,rfl,zne,hk1,fun od ho=>?_⟩;have x1:Ext μ1 H1 μ1 (upd H1 l (.ext (yhp l a))):=zpg hln;have rr1:Rel T μ1 (upd H1 l (.ext (yhp l a))) σ1:=r1.fresh hln;obtain⟨x2,rr2⟩:Ext μ1 H1 μ1 (upd (upd H1 l (.ext (yhp l a))) a (.frz od (.dK kvs)))/\Rel T μ1 (upd (upd H1 l (.ext (yhp l a))) a (.frz od (.dK kvs))) σ1:=by
    rcases ho with ho|ho
    ·have y:=zpf (μ:=μ1) (od:=od) ho;exact⟨x1.trans y,rr1.keep y (fun b hb=>yby (fun z=>hn (by rw[<-z];exact hb))) (rr1.tb.out (fun b hb=>yby hb) (.inr ⟨_,ho⟩))⟩
    ·rw[zu2 ho];exact⟨x1,rr1⟩
   have h3:upd (upd H1 l (.ext (yhp l a))) a (.frz od (.dK kvs)) a=some (.frz od (.dK kvs)):=zne;generalize upd (upd H1 l (.ext (yhp l a))) a (.frz od (.dK kvs))=H3 at *;refine yhb.here (R:=yhj T) (yhb.mono x2 p1) rr2 fun μ2 H2 σ2 i ex r2=>?_;have hf:H2 a=some (.frz od (.dK kvs)):=ex.frz _ _ _ h3;have hrk:yhg T μ2 H2 (ks.zip xs) kvs:=yhg.mono (x2.trans ex) (zmc hks hxs);unfold nxI;cases ei:(ks.zip xs)[i]? with
   |none=>
    dsimp only;by_cases hi:i=(ks.zip xs).length
    ·rw[if_pos hi];exact⟨hf,by rw[hi];exact Paired.length hrk⟩
    ·rw[if_neg hi];trivial
   |some p=>
    obtain⟨q,hq,hpq,rx⟩:=zex hrk i ei;refine⟨⟨hf,q,hq⟩,fun z H' y=>?_⟩;obtain⟨r,k',x',hn',rfl,hkx,rfl⟩:=y;rw[hq]at hkx;cases hkx;dsimp only at hpq rx;refine⟨zpg hn',r2.fresh hn',?_⟩;rw[Rep,hpq];exact⟨r,_,rfl,zne,yhh.cons (zq4 _) (yhh.cons (Rep.mono (zpg hn') _ _ rx) yhh.nil)⟩
  ·rw[if_neg hl]at p1;exact p1.elim
 |_=>exact p1.elim
end
def zra(nx:NX)(n:Nat)(tg:D->Ev->Option Ev)(fi:Ev->M Bool)(fe:Ev->M D):Nat->Nat->Ev->M Unit
 |0,_,_=>bad
 |k+1,i,ρ=>fun σ=>match nx i σ with
  |none=>.bad
  |some none=>.ok () σ
  |some (some d)=>match tg d ρ with
   |none=>.bad
   |some ρ1=>bnd (nox (fi ρ1)) (fun c=>if c=true then bnd (nox (fe ρ1)) fun y=>bnd (zrz (.ref n) [y]) fun _=>zra nx n tg fi fe k (i+1) ρ1 else zra nx n tg fi fe k (i+1) ρ1) σ
def yi8(tg:D->Ev->Option Ev)(fi:Ev->M Bool)(fe:Ev->M D)(ρ:Ev)(nx:NX):M D:=fun σ=>
 bnd (zra nx σ.length tg fi fe 1001 0 ρ) (fun _=>ret (.ref σ.length)) (σ++[.lst []])
def yig(src:Ev->M NX)(ix:List Nat)(tg:D->Ev->Option Ev)(fi:Ev->M Bool)(fe:Ev->M D):Ev->M D:=fun ρ=>bnd (src ρ) (yi8 tg fi fe (zvt ix ρ))
section
variable{T:Tb}{X:Cx}
theorem zkw{E:XK}{elt iter tgt:Expr}{ifs:List Expr}{scope:Scope}{pos:Pos}{x z0:Str}{M':List Str}{ix:List Nat}{tg:D->Ev->Option Ev}{fi:Ev->M Bool}{fe:Ev->M D}
  {pins:List (Addr × Obj)} {st:St} {H3:Hp} {s3:Shared} {h₁:Heap} {t':Nat} {m:Str->Option Value} {fp:List Addr} {it D0:Addr} {tn:Nat->Heap->Prop} {J:It} {nx:NX} {μ3:List Addr} {σ3:Sto} {ρ:Ev} {n:Nat} {Q:VK}
  (hc:X.calm=true) (L:LcOk X x M' ix scope)
  (htg:∀ cl C s₀ H₀ ex,FG T (blk X (x::z0::M') scope cl C s₀ H₀ ex) tgt tg)
  (hif:∀ cl C s₀ H₀ ex,FIf T (blk X (x::z0::M') scope cl C s₀ H₀ ex) ifs fi)
  (helt:∀ cl C s₀ H₀ ex,FE T (blk X (x::z0::M') scope cl C s₀ H₀ ex) elt fe)
  (I3:Inv X pins st H3 s3) (hfp:∀ b∈fp,yg2 X pins H3 b/\b<s3.heap.objs.size) (hns:h₁.Ns s3.heap.objs.size m) (kp:∀ b o,s3.heap.get? b=some o->h₁.get? b=some o)
  (TT:Turn X.prog X.w X.K tgt J fp it tn) (hst4:tn 0 h₁) (so:yhj T μ3 H3 nx J) (hE:ygy T μ3 H3 ρ st) (r3:Rel T μ3 H3 σ3) (hn:μ3[n]?=some D0)
  (p3:yhb T E (Rep T) μ3 H3 (bnd (zra nx n tg fi fe 1001 0 (zvt ix ρ)) (fun _=>ret (.ref n)) σ3) Q) {RR:Result->Shared->Prop}
  (fin:∀ (s6:Shared) (H':Hp) (m6:Str->Option Value),s6.heap.Ns s3.heap.objs.size m6->H' s3.heap.objs.size=none->Un (frs X.stack) fp H3 H' s3.heap s6.heap->s6.os=s3.os->HOk X.prog X.w H' s6.heap->AllBare s6.gens->Q (.ref D0) H'->RR (.ok .next) s6) :
  codeAny (model X.prog X.w) X.A (.compStart (.ListComp elt [⟨tgt,iter,ifs,0⟩] scope pos) 0 (.ref it) (.ref D0) (compEnvC scope (yh5 X.env scope.names []) s3.heap.objs.size X.env))
   RR { s3 with heap:=h₁,toks:=t' }:=by
 have I4:=zea (z0:=z0) (h':=h₁) (t':=t') I3 L hfp hns kp;let Y:Cx:=blk X (x::z0::M') scope (yh5 X.env scope.names []) s3.heap.objs.size s3 H3 fp;have stat:∀ {H':Hp},(∀ b∈fp,H' b=none)->∀ b∈fp,yg2 Y [] H' b:=fun {H'} hn b hb=>⟨hn b hb,(I4.ok.exf b hb).1,I4.ok.exfs b hb,.inl hb,(I4.ok.exf b hb).2,fun p hp=>absurd (show p∈([]:List (Addr × Obj))from hp) (by simp)⟩
 have yi9:codeAny (model X.prog X.w) X.A (.compLoop (.ListComp elt [⟨tgt,iter,ifs,0⟩] scope pos) 0 (.ref it) (.ref D0) Y.env) RR { s3 with heap:=h₁,toks:=t' }:=by
  refine codeAny_loop rfl (fun k s'=>∃ i μ' H' σ' ρ' st',Inv Y [] st' H' s'/\tn i s'.heap/\(∀ b∈fp,H' b=none)/\Ext μ3 H3 μ' H'/\ygy T μ' H' ρ' st'/\Rel T μ' H' σ'/\
   yhb T E (Rep T) μ' H' (bnd (zra nx n tg fi fe k i ρ') (fun _=>ret (.ref n)) σ') Q) ?_ 1001 ⟨0,μ3,H3,σ3,zvt ix ρ,zvu ix st,I4,hst4,fun b hb=>(hfp b hb).1.1,Ext.refl _ _,zij ix hE,r3,p3⟩
  rintro k s' ⟨i,μ',H',σ',ρ',st',I',tn',fr',ex',hE',r',p'⟩;show wpAny _ X.A ((compTurn (.ListComp elt [⟨tgt,iter,ifs,0⟩] scope pos) 0 (.ref it) (.ref D0) Y.env).onRaise (fun x=>do noteFrame x Y.env;theTreesLotGoes x)) _ _ s';refine wpAny_noted ?_;rw[compTurn_list];refine wpAny_mono (E:=fun _ _=>False) ?_ (fun _ _ z=>z) (fun _ _ z=>z.elim);refine wpAny_bind (wpAny_standAt ?_);cases k with
  |zero=>exact p'.elim
  |succ k=>
   have so':=so μ' H' σ' i ex' r';cases en:nx i σ' with
   |none=>
    have e1:zra nx n tg fi fe (k+1) i ρ' σ'=.bad:=by unfold zra;simp only[en]
    rw[zfv (m':=bad) e1]at p';exact p'.elim
   |some od=>
    rw[en]at so';cases od with
    |none=>
     have e1:zra nx n tg fi fe (k+1) i ρ' σ'=.ok () σ':=by unfold zra;simp only[en]
     rw[zfv (m':=ret ()) e1]at p';refine wpAny_bind (thn (TT.done Y rfl rfl rfl hc i [] s' st' H' (fun _ _=>False) I' (stat fr') tn' so') fun r s6 ⟨er,I6⟩=>?_);subst er;refine wpAny_pure ?_;obtain⟨m6,hm6,_⟩:=I6.loc;exact fin s6 H' m6 hm6 I6.free I6.base I6.os I6.hok I6.bare (yhb.here p' r' (by rw[Rep];exact⟨_,rfl,ex'.get hn⟩))
    |some d=>
     refine wpAny_bind (thn (TT.item Y rfl rfl rfl hc i [] s' st' H' (fun _ _=>False) I' (stat fr') tn' so'.1) fun r s6 ⟨u,er,h6⟩=>?_);subst er;refine wpAny_bind (thn h6 fun _ s7 ⟨xv,H7,I7,r7,y7,tn7,fr7⟩=>?_);obtain⟨ex7,rr7,hd⟩:=so'.2 xv H7 y7;replace p':=yhb.mono ex7 p';replace hE':=hE'.mono ex7;replace ex':=ex'.trans ex7;replace r':=rr7;cases et:tg d ρ' with
     |none=>
      have e1:zra nx n tg fi fe (k+1) i ρ' σ'=.bad:=by unfold zra;simp only[en,et]
      rw[zfv (m':=bad) e1]at p';exact p'.elim
     |some ρ1=>
      have e1:zra nx n tg fi fe (k+1) i ρ' σ'=bnd (nox (fi ρ1)) (fun c=>if c=true then bnd (nox (fe ρ1)) fun y=>bnd (zrz (.ref n) [y]) fun _=>zra nx n tg fi fe k (i+1) ρ1 else zra nx n tg fi fe k (i+1) ρ1) σ':=by
       conv=>lhs;unfold zra
       simp only[en,et]
      rw[zfv e1,zfu]at p';have I7':=I7.pinned (stat fr7) (TT.obj _ _ tn7);refine wpAny_bind (thn (htg _ _ _ _ _ _ s7 st' H7 xv u (fun st8 H8=>H8=H7/\ygy T μ' H7 ρ1 st8) I7' r7 ⟨μ',σ',ρ',d,ρ1,hE',r',hd,et,fun st8 hE8=>⟨rfl,hE8⟩⟩) fun _ s8 ⟨st8,H8,I8,eH8,hE8⟩=>?_);subst eH8;refine wpAny_bind (thn (hif _ _ _ _ _ _ s8 st8 H8 (fun c H9=>∃ μ9 σ9,Ext μ' H8 μ9 H9/\Rel T μ9 H9 σ9/\yhb T E (Rep T) μ9 H9 (bnd (if c=true then bnd (nox (fe ρ1)) fun y=>bnd (zrz (.ref n) [y]) fun _=>zra nx n tg fi fe k (i+1) ρ1 else zra nx n tg fi fe k (i+1) ρ1) (fun _=>ret (.ref n)) σ9) Q) I8
       ⟨μ',ρ1,σ',hE8,r',p'.bind0 fun c σ9 μ9 c' H9 _ e9 r9 q9 p9=>by cases q9;exact⟨μ9,σ9,e9,r9,p9⟩⟩) fun c s9 ⟨H9,I9,μ9,σ9,e9,r9,p9⟩=>?_)
      have again:∀ {s11:Shared} {H11:Hp} {μ11:List Addr} {σ11:Sto},Inv Y ([]++zz9 fp s7.heap) st8 H11 s11->Ext μ' H8 μ11 H11->Rel T μ11 H11 σ11->yhb T E (Rep T) μ11 H11 (bnd (zra nx n tg fi fe k (i+1) ρ1) (fun _=>ret (.ref n)) σ11) Q->
        ∃ m,m<k+1/\∃ i μ' H' σ' ρ' st',Inv Y [] st' H' s11/\tn i s11.heap/\(∀ b∈fp,H' b=none)/\Ext μ3 H3 μ' H'/\ygy T μ' H' ρ' st'/\Rel T μ' H' σ'/\yhb T E (Rep T) μ' H' (bnd (zra nx n tg fi fe m i ρ') (fun _=>ret (.ref n)) σ') Q:=by
       intro s11 H11 μ11 σ11 I11 e11 r11 p11;refine⟨k,Nat.lt_succ_self _,i+1,μ11,H11,σ11,ρ1,st8,I11.unpinned,TT.keep _ _ _ tn7 (fun b hb o e=>(I11.pin (b,o) (List.mem_append_right _ (List.mem_append_right _ (zeu hb e)))).1),fun b hb=>?_,ex'.trans e11,hE8.mono e11,r11,p11⟩;obtain⟨o,e,_⟩:=TT.obj _ _ tn7 b hb;exact(I11.pin (b,o) (List.mem_append_right _ (List.mem_append_right _ (zeu hb e)))).2.1
      cases c with
      |false=>
       rw[if_neg Bool.false_ne_true]at p9;exact wpAny_pure ⟨rfl,again I9 e9 r9 p9⟩
      |true=>
       rw[if_pos rfl,zfu]at p9;refine wpAny_bind (wpAny_bind (thn (helt _ _ _ _ _ _ s9 st8 H9 (fun v H10=>∃ y μ10 σ10,Ext μ' H8 μ10 H10/\Rel T μ10 H10 σ10/\Rep T μ10 H10 y v/\yhb T E (Rep T) μ10 H10 (bnd (zrz (.ref n) [y]) (fun _=>bnd (zra nx n tg fi fe k (i+1) ρ1) (fun _=>ret (.ref n))) σ10) Q) I9
        ⟨μ9,ρ1,σ9,hE8.mono e9,r9,p9.bind0 fun y σ10 μ10 v H10 _ e10 r10 q10 p10=>⟨y,μ10,σ10,e9.trans e10,r10,q10,by rw[zfu]at p10;exact p10⟩⟩) fun w s10 ⟨v,H10,I10,rw10,y,μ10,σ10,e10,r10,q10,p10⟩=>?_))
       have happ:=zn3 (Q:=fun _ H11=>∃ μ11 σ11,Ext μ' H8 μ11 H11/\Rel T μ11 H11 σ11/\yhb T E (Rep T) μ11 H11 (bnd (zra nx n tg fi fe k (i+1) ρ1) (fun _=>ret (.ref n)) σ11) Q) r10 ((ex'.trans e10).get hn) q10
        (p10.bind fun _ σ11 μ11 v11 H11 _ e11 r11 q11 p11=>⟨μ11,σ11,e10.trans e11,r11,p11⟩)
       refine wpAny_bind (thn (zg1 (X:=Y) _ s10 st8 H10 (.ref D0) [v] (.ref D0) [w] _ I10 rfl (.cons rw10 .nil) happ) fun _ s11 ⟨v11,H11,I11,_,μ11,σ11,e11,r11,p11⟩=>?_);exact wpAny_pure (wpAny_pure ⟨rfl,again I11 e11 r11 p11⟩)
 exact codeAny_compStart_list yi9 (TT.self X.A 0 _ _ _ hst4 yi9)
theorem zw8{elt iter tgt:Expr}{ifs:List Expr}{scope:Scope}{pos:Pos}{x z0:Str}{M':List Str}{ix:List Nat}{src:Ev->M NX}{tg:D->Ev->Option Ev}{fi:Ev->M Bool}{fe:Ev->M D}
  (hc:X.calm=true) (L:LcOk X x M' ix scope) (hsrc:FIN T X tgt iter src)
  (htg:∀ cl C s₀ H₀ ex,FG T (blk X (x::z0::M') scope cl C s₀ H₀ ex) tgt tg)
  (hif:∀ cl C s₀ H₀ ex,FIf T (blk X (x::z0::M') scope cl C s₀ H₀ ex) ifs fi)
  (helt:∀ cl C s₀ H₀ ex,FE T (blk X (x::z0::M') scope cl C s₀ H₀ ex) elt fe)
  (hs:∀ y,foldedSetIterable iter X.env y=pure y:=by intro _;rfl) :
  FE T X (.ListComp elt [⟨tgt,iter,ifs,0⟩] scope pos) (yig src ix tg fi fe):=by
 intro pins s st H Q I h;obtain⟨μ,ρ,σ,hE,hr,hp⟩:=h;rw[eval_ListComp];refine wpAny_comprehension_free (use:=none) rfl hs (zee X.env scope (zor I L)) L.kind (fun y hy e=>?_) ?_
 ·have q:=List.all_eq_true.mp L.names y hy;rw[e]at q;simp only[beq_self_eq_true,Bool.not_true,Bool.false_or]at q;exact eq_of_beq q
 have h1:=hsrc pins s st H (fun J H2=>∃ nx μ2 σ2,Ext μ H μ2 H2/\Rel T μ2 H2 σ2/\yhj T μ2 H2 nx J/\yhb T (XE X st) (Rep T) μ2 H2 (bnd (zra nx σ2.length tg fi fe 1001 0 (zvt ix ρ)) (fun _=>ret (.ref σ2.length)) (σ2++[Ob.lst []])) Q) I
  ⟨μ,ρ,σ,hE,hr,hp.bind fun nx σ1 μ1 J H1 _ e1 r1 q1 p1=>⟨nx,μ1,σ1,e1,r1,q1,p1⟩⟩
 refine thn h1 fun v s1 h2=>thn h2 fun itv s2 h3=>?_;obtain⟨it,fp,tn,J,H2,rfl,I2,TT,st2,f2,nx,μ2,σ2,ex2,r2,so,p2⟩:=h3;refine wpAny_newObj_type (wpAny_newFunctionEnv (zy4 L) (by intro y hy;simp at hy) (fun h₁ hns₁ hsb₁=>?_) L.kind);have I3:=I2.lnew (ys:=[]) (its:=[]) (t':=s2.toks) .nil (by simp);have fr2:H2 s2.heap.objs.size=none:=I2.hok.fresh (Nat.le_refl _);have r3:=r2.push (p:=s2.heap.objs.size) (o:=.lst []) (ob:=.lst []) fr2 ⟨[],zne,yhh.nil⟩;have ex3:Ext μ2 H2 (μ2++[s2.heap.objs.size]) (upd H2 s2.heap.objs.size (.lst [])):=zje fr2;have hsz:s2.heap.objs.size<(s2.heap.push { cls:=.type "list",data:=.seq ([]:List Value).toArray }).objs.size:=by rw[Heap.size_push];exact Nat.lt_succ_self _
 have kp:∀ b o,(s2.heap.push { cls:=.type "list",data:=.seq ([]:List Value).toArray }).get? b=some o->h₁.get? b=some o:=fun b o e=>hsb₁.extBut b o (Nat.ne_of_lt (Heap.lt_size e)) (Heap.get?_push_of_some _ e);have hfp:∀ b∈fp,yg2 X pins (upd H2 s2.heap.objs.size (.lst [])) b/\b<(s2.heap.push { cls:=.type "list",data:=.seq ([]:List Value).toArray }).objs.size:=fun b hb=>by
  obtain⟨o,e,_⟩:=TT.obj 0 _ st2 b hb;have lt:=Heap.lt_size e;exact⟨⟨by rw[yby (Nat.ne_of_lt lt)];exact(f2 b hb).1,(f2 b hb).2⟩,Nat.lt_trans lt hsz⟩
 refine zkw (s3:={ s2 with heap:=s2.heap.push { cls:=.type "list",data:=.seq ([]:List Value).toArray },toks:=s2.toks }) (n:=σ2.length) (D0:=s2.heap.objs.size) hc L htg hif helt I3 hfp hns₁ kp TT (TT.keep 0 _ _ st2 fun b hb o e=>kp b o (Heap.get?_push_of_some _ e))
  (fun μ H σ i ex r=>so μ H σ i (ex3.trans ex) r) ((hE.mono ex2).mono ex3) r3 (by rw[<-r2.len];simp) (p2.mono ex3) (fun s6 H' m6 hm6 hC' hu0 hos hok6 hb6 hq=>⟨m6,hm6,fun h7 hs7=>?_⟩)
 have hu:=zu1 hu0 hs7 (Nat.le_refl _);have I7:=L2.Inv.call' (s':={ s6 with heap:=h7 }) (ch:=fp) I3 hos hu (zkg hok6 hs7 hC') hb6 (fun b hb=>⟨(hfp b hb).1.2.2.2.1,(hfp b hb).1.2.1,(hfp b hb).1.2.2.2.2.1,(hfp b hb).1.2.2.2.2.2⟩);exact⟨.ref s2.heap.objs.size,H',I7,rfl,hq⟩
end
def yhm(K:PySem.W.Frag)(a:Addr)(ss:List Str):Prop:=∃ (o:Obj) (its:Array Value) (n:Nat),K.lookup a=some o/\o.cls=.type "tuple"/\o.data=.seq its n/\its.size<=sizeLine/\yho (ss.map V.str) its.toList
def GlT(K:PySem.W.Frag)(mg:Str->Option Value)(x:Str)(ss:List Str):Prop:=∃ a,mg x=some (.ref a)/\yhm K a ss
def ybh:List Value->List Str->Bool
 |[],[]=>true
 | .str y _::vs,x::ss=>(y == x) && ybh vs ss
 |_,_=>false
def ygl(K:PySem.W.Frag)(a:Addr)(ss:List Str):Bool:=match K.lookup a with
 |some o=>(o.cls == .type "tuple") && (match o.data with
  | .seq its _=>decide (its.size<=sizeLine) && ybh its.toList ss
  |_=>false)
 |none=>false
theorem zd7:∀ {vs:List Value} {ss:List Str},ybh vs ss=true->yho (ss.map V.str) vs
 |[],[],_=>.nil
 |[],_::_,h=>by simp[ybh]at h
 |v::vs,[],h=>by cases v<;>simp[ybh]at h
 |v::vs,x::ss,h=>by
  cases v with
  |str y t=>
   simp only[ybh,Bool.and_eq_true]at h;obtain rfl:=eq_of_beq h.1;exact .cons ⟨t,rfl⟩ (zd7 h.2)
  |_=>simp[ybh]at h
theorem yhm.of{K:PySem.W.Frag}{a:Addr}{ss:List Str}(h:ygl K a ss=true):yhm K a ss:=by
 unfold ygl at h;cases e:K.lookup a with
 |none=>rw[e]at h;cases h
 |some o=>
  rw[e]at h;simp only[Bool.and_eq_true]at h;obtain⟨h1,h2⟩:=h;cases ed:o.data with
  |seq its n=>
   rw[ed]at h2;simp only[Bool.and_eq_true,decide_eq_true_eq]at h2;exact⟨o,its,n,e,eq_of_beq h1,ed,h2.1,zd7 h2.2⟩
  |_=>rw[ed]at h2;cases h2
def yjo(neg:Bool)(ss:List Str)(x:D):M D:=fun σ=>match x with
 | .str z=>.ok (.bl (if neg then !inV (.str z) (ss.map V.str)else inV (.str z) (ss.map V.str))) σ
 |_=>.bad
section
variable{T:Tb}{X:Cx}{e:Expr}{f:Ev->M D}{x:Str}{p pos:Pos}{ss:List Str}
theorem zgc(ss:List Str):(ss.map V.str).all ydl=true:=by simp[ydl]
theorem zu0{a:Addr}(hT:yhm X.K a ss){neg:Bool}{st:St}{H:Hp}{Q:VK}(h:tF T X (eUn (yjo neg ss) f) st H Q):tOp (rIn X.K neg) (tF T X f) (tC (.ref a)) st H Q:=by
 obtain⟨μ,ρ,σ,hE,hr,hp⟩:=h;refine⟨μ,ρ,σ,hE,hr,hp.bind fun d σ1 μ1 v H1 _ e1 r1 q1 p1=>?_⟩;show rIn X.K neg v (.ref a) H1 Q;cases d with
 |str z=>rw[Rep]at q1;subst q1;exact⟨a,ss.map V.str,rfl,.inr (.inr hT),rfl,zgc ss,yhb.here p1 r1 (by rw[Rep])⟩
 |_=>exact p1.elim
theorem zxx(hg:Gl X x)(hG:GlT X.K X.mg x ss)(he:FE T X e f)(hd:(x == ("__debug__" : Str))=false:=by decide):FT T X (.Compare e [.In] [.Name x p] pos) (eT (eUn (yjo false ss) f)):=by
 obtain⟨a,hm,hT⟩:=hG;intro pins s st H Q I h;refine zsx zhb he (zsn hg hm (v:=.ref a) rfl hd) rfl pins s st H Q I ?_;refine zu0 hT ?_;obtain⟨μ,ρ,σ,he,hr,hp⟩:=h;refine⟨μ,ρ,σ,he,hr,hp.bind fun d σ1 μ1 v H1 _ e1 r1 p1 q1=>?_⟩;obtain⟨k,ev,q⟩:=zuz p1 q1;exact⟨k,ev,q.here r1 rfl⟩
def ye3(x:D)(xs:List D):M D:=fun σ=>match xs with
 |[y]=>(match yi4 y with
  |some k=>(match yib σ x with
   |some kvs=>.ok ((ydj kvs k).getD .non) σ
   |none=>.bad)
  |none=>.bad)
 |_=>.bad
end
section
variable{T:Tb}{X:Cx}
end
theorem mkT{K:PySem.W.Frag}{mg:Str->Option Value}{h:Heap}{x:Str}{C:Addr}{ss:List Str}(X:K.In h)(G:h.Ns mainGlobals mg)(a:PySem.W.nsIn K mainGlobals x=some (some (.ref C)))(b:ygl K C ss=true):GlT K mg x ss:=⟨C,PySem.W.mg_of X G a,yhm.of b⟩
section
variable{T:Tb}{X:Cx}
end
section
variable{T:Tb}{X:Cx}
def yb2(i j:Int):Prop:=0<j/\j<2 ^ 60
theorem zlu:OpR X (binaryOp .FloorDiv) (rI yb2 fun i j=>.int (i / j)):=opI fun i j _ _ _ _ _ hc q=>by
 have h1:(0:Int)<j:=hc.1;have h2:j<2 ^ 60:=hc.2;refine floordiv_int (by omega) (by rw[Int.fdiv_eq_ediv_of_nonneg i (by omega)];exact q) (.inl (PyProof.noPylong_of_log2 ?_));have h0:j.natAbs≠0:=by omega
 have:j.natAbs.log2<60:=(Nat.log2_lt h0).mpr (by omega);omega
noncomputable def ycr(_ j:Int):Bool:=hide (decide (0<j) && decide (j<2 ^ 60))
noncomputable abbrev ye2:=oIC ycr (fun i j=>i / j)
theorem zmy:ycd T (rI yb2 fun i j=>.int (i / j)) ye2:=ya8 fun i j h=>by
 simp only[ycr,zqo,Bool.and_eq_true,decide_eq_true_eq]at h;exact h
theorem zll(i j:Int)(h:0<j)(h2:j<2 ^ 60)(σ:Sto):ye2 (.int i) (.int j) σ=.ok (.int (i / j)) σ:=zza (by simp only[ycr,zqo,Bool.and_eq_true,decide_eq_true_eq];exact⟨h,h2⟩)
def ye6(xs:List D):M D:=fun σ=>match xs with
 |[x]=>(match yib σ x with
  |some kvs=>.ok (.int kvs.length) σ
  |none=>.bad)
 |_=>.bad
end
section
variable{prog:Program}{w:World}{A:Around}{E:Value->Shared->Prop}{l q I S:Addr}{n:Nat}{P:Nat->Value->Prop}{R:Result->Shared->Prop}{Q:Value->Shared->Prop}
theorem zg0(G:Nat->Value->Int->Shared->Prop)(hh:A.handled=none)(hlI:l≠I)(hSI:S≠I)(hlS:l≠S)
  (hl:∀ j vb kb s,G j vb kb s->∃ vs:List Value,vs.length=n/\(∀ (j:Nat) v,vs[j]?=some v->P j v)/\s.heap.IsList l vs.toArray)
  (hmv:∀ j vb kb s h' tk,G j vb kb s->(∀ b o,b≠I->b≠S->s.heap.get? b=some o->h'.get? b=some o)->G j vb kb { s with heap:=h',toks:=tk })
  (turn:∀ j vb kb s v oI oS,G j vb kb s->P j v->s.heap.get? I=some oI->s.heap.get? S=some oS->(∀ v,oI.data≠.cell v)->(∀ v,oS.data≠.cell v)->
   wpAny (model prog w) A.in1 (call (.ref q) [v]) (fun x s'=>∃ k t,x=.int k t/\s'.heap.get? I=some oI/\s'.heap.get? S=some oS/\G (j+1) (if k<kb then v else vb) (if k<kb then k else kb) s') (fun _ _=>False) s)
  (hR:∀ vb kb s,G n vb kb s->R (.ok (.ret vb)) s) :
  ∀ (r j:Nat) (s:Shared) (vb:Value) (kb:Int) (tb:Tok) (c:Nat),n - j=r->j<=n->G j vb kb s->s.heap.get? S=some (seqObj "list" #[vb,.int kb tb] c)->s.heap.IsListIter I l j->
   codeAny (model prog w) A (.builtin "min.loop" ⟨[.ref I,.ref q,.ref S],[]⟩) R s:=by
 have hname:(toString "min"++toString ".loop" : String) = "min.loop":=by decide
 intro r;induction r with
 |zero=>
  intro j s vb kb tb c hr hj g hS hit;have hin:j=n:=by omega
  obtain⟨vs,hvn,hvP,hli⟩:=hl j vb kb s g;have W:=Walks.list (prog:=prog) (w:=w) (A:=A.in1) hh I l hlI vs.toArray;have hsz:vs.toArray.size=n:=(List.size_toArray ..).trans hvn;refine codeAny_builtin PySem.F.entry_min_loop ?_;rw[Around.under_plainId PySem.F.plain_min_loop _];show wpAny _ A.in1 (seqItems? (.ref S) >>= _) _ _ _;refine wpAny_bind (wpAny_seqItems hS rfl ?_);show wpAny _ A.in1 (tryCatch (pyNext (.ref I)) _ >>= _) _ _ _;refine wpAny_bind (wpAny_tryCatch (W.done _ _ _ ⟨by rw[hsz,<-hin];exact hit,hli⟩ fun h' tk' hk'=>?_));have hk2:∀ b o,b≠I->s.heap.get? b=some o->h'.get? b=some o:=fun b o n e=>hk' b o (by simpa using n) e;have hS':=hk2 S _ hSI hS;have s1:=Heap.SameBut.update h' S (Obj.mapSeq fun _=>(#[]:Array Value));show wpAny _ A.in1 (updateSeq S (fun _=>#[]) >>= _) _ _ _;refine wpAny_bind ?_;refine wpAny_updateSeq hS' rfl (wpAny_bind (wpAny_letGo (wpAny_pure ?_)));subst hin;exact hR vb kb _ (hmv _ _ _ s _ _ g fun b o n1 n2 e=>by rw[s1.2 b n2];exact hk2 b o n1 e)
 |succ r ih=>
  intro j s vb kb tb c hr hj g hS hit;have hlt:j<n:=by omega
  obtain⟨vs,hvn,hvP,hli⟩:=hl j vb kb s g;have W:=Walks.list (prog:=prog) (w:=w) (A:=A.in1) hh I l hlI vs.toArray;have hsz:vs.toArray.size=n:=(List.size_toArray ..).trans hvn;refine codeAny_builtin PySem.F.entry_min_loop ?_;rw[Around.under_plainId PySem.F.plain_min_loop _];show wpAny _ A.in1 (seqItems? (.ref S) >>= _) _ _ _;refine wpAny_bind (wpAny_seqItems hS rfl ?_);show wpAny _ A.in1 (tryCatch (pyNext (.ref I)) _ >>= _) _ _ _;refine wpAny_bind (wpAny_tryCatch (W.item j _ _ _ (by rw[hsz];exact hlt) ⟨hit,hli⟩ fun v h' tk' hP hst' hk'=>?_));have hk2:∀ b o,b≠I->s.heap.get? b=some o->h'.get? b=some o:=fun b o n e=>hk' b o (by simpa using n) e;have hv:P j v:=hvP j v (by simpa using hP);obtain⟨oI',hoI',hoc,hod⟩:=id hst'.1;have g1:=hmv _ _ _ s h' tk' g fun b o n1 n2 e=>hk2 b o n1 e;have hS':=hk2 S _ hSI hS;show wpAny _ A.in1 (tryCatch (holding [v] (call (.ref q) [v])) _ >>= _) _ _ _;refine wpAny_bind (wpAny_tryCatch (wpAny_holding (wpAny_mono (turn j vb kb _ v oI' _ g1 hv hoI' hS' (fun v z=>by rw[hod]at z;cases z) (fun v z=>by cases z)) (fun x s'' he=>?_) fun _ _ hF=>hF.elim)));obtain⟨k2,t2,rfl,hI2,hS2,g2⟩:=he;have hit2:s''.heap.IsListIter I l (j+1):=⟨oI',hI2,hoc,hod⟩
  show wpAny _ A.in1 (tryCatch (holding [v,.int k2 t2] (richCompare .Lt (.int k2 t2) (.int kb tb) >>= _)) _ >>= _) _ _ _;refine wpAny_bind (wpAny_tryCatch (wpAny_holding (wpAny_bind (CmpOf.ints_lt (prog:=prog) (w:=w) (A:=A.in1) (P:=fun(i:Nat) v=>∃ t,v=.int (if i=0 then k2 else kb) t) (fun i=>if i=0 then k2 else kb) (fun i v h=>h) 0 1 _ _ _ _ _ ⟨t2,rfl⟩ ⟨tb,rfl⟩ ?_))));refine wpAny_bind (wpAny_holding (wpAny_truthy_bool ?_));refine wpAny_bind (wpAny_letGo (wpAny_pure ?_));show wpAny _ _ _ _ _ _;by_cases hb':k2<kb
  ·have s1:=Heap.SameBut.update s''.heap S (Obj.mapSeq fun _=>#[v,.int k2 t2]);obtain⟨c2,hc2⟩:∃ c2,(s''.heap.update S (Obj.mapSeq fun _=>#[v,.int k2 t2])).get? S=some (seqObj "list" #[v,.int k2 t2] c2):=⟨_,get?_update_seq hS2 fun _=>#[v,.int k2 t2]⟩
   rw[if_pos hb',if_pos hb']at g2;simp only[hb',decide_true,if_true,Nat.one_ne_zero,if_false];refine wpAny_bind ?_;refine wpAny_updateSeq hS2 rfl (wpAny_bind (wpAny_letGo ?_));rw[hname];refine wpAny_pure ⟨plainId_quiet PySem.F.plain_min_loop _,ih (j+1) _ v k2 t2 c2 (by omega) hlt (hmv _ _ _ s'' _ _ g2 fun b o n1 n2 e=>by rw[s1.2 b n2];exact e) hc2 ⟨oI',(s1.2 I hSI.symm).trans hI2,hoc,hod⟩⟩
  ·rw[if_neg hb',if_neg hb']at g2;simp only[hb',decide_false,Bool.false_eq_true,if_false,if_true,Nat.one_ne_zero];refine wpAny_bind (wpAny_letGo ?_);rw[hname];exact wpAny_pure ⟨plainId_quiet PySem.F.plain_min_loop _,ih (j+1) _ vb kb tb c (by omega) hlt (hmv _ _ _ s'' _ _ g2 fun b o _ _ e=>e) hS2 hit2⟩
theorem zlb(G0:Shared->Prop)(G:Addr->Addr->Nat->Value->Int->Shared->Prop){s:Shared}(hh:A.handled=none)(g0:G0 s){vs:List Value}(hvn:vs.length=n)(hvP:∀ (j:Nat) v,vs[j]?=some v->P j v)(hls:s.heap.IsList l vs.toArray)(hne:0<n)
  (hG0:∀ s h' tk,G0 s->(∀ b o,s.heap.get? b=some o->h'.get? b=some o)->G0 { s with heap:=h',toks:=tk })
  (first:∀ (I S:Addr) (s1:Shared) v oI oS,s.heap.objs.size<=I->s.heap.objs.size<=S->S≠I->(∃ s0,G0 s0/\(∀ b o,b≠I->s0.heap.get? b=some o->s1.heap.get? b=some o)/\(s1={ s0 with heap:=s1.heap,toks:=s1.toks }))->P 0 v->s1.heap.get? I=some oI->s1.heap.get? S=some oS->(∀ v,oI.data≠.cell v)->(∀ v,oS.data≠.cell v)->
   wpAny (model prog w) A.in1 (call (.ref q) [v]) (fun x s'=>∃ k t,x=.int k t/\s'.heap.get? I=some oI/\s'.heap.get? S=some oS/\G I S 1 v k s') (fun _ _=>False) s1)
  (hl:∀ I S j vb kb s,G I S j vb kb s->∃ vs:List Value,vs.length=n/\(∀ (j:Nat) v,vs[j]?=some v->P j v)/\s.heap.IsList l vs.toArray)
  (hmv:∀ I S j vb kb s h' tk,G I S j vb kb s->(∀ b o,b≠I->b≠S->s.heap.get? b=some o->h'.get? b=some o)->G I S j vb kb { s with heap:=h',toks:=tk })
  (turn:∀ I S j vb kb s v oI oS,G I S j vb kb s->P j v->s.heap.get? I=some oI->s.heap.get? S=some oS->(∀ v,oI.data≠.cell v)->(∀ v,oS.data≠.cell v)->
   wpAny (model prog w) A.in1 (call (.ref q) [v]) (fun x s'=>∃ k t,x=.int k t/\s'.heap.get? I=some oI/\s'.heap.get? S=some oS/\G I S (j+1) (if k<kb then v else vb) (if k<kb then k else kb) s') (fun _ _=>False) s)
  (hQ:∀ I S vb kb s,G I S n vb kb s->Q vb s) :
  wpAny (model prog w) A (call (.builtin "min") [.ref l] [(Str.ofString "key",.ref q)]) Q E s:=by
 have hname:(toString "min"++toString ".loop" : String) = "min.loop":=by decide
 obtain⟨ol,hol,_⟩:=id hls;have hll:l<s.heap.objs.size:=Heap.lt_size hol;refine kmk_tree PySem.F.kind_min PySem.F.plain_min PySem.F.entry_min (kmk_min_key _ _) ?_;show wpAny _ A.in1 (Builtin.Builtins.bindParams "min" ["key", "default"] 0 ⟨[],[(Str.ofString "key",.ref q)]⟩ >>= _) _ _ s;refine wpAny_bind (wpAny_of_eq (show Builtin.Builtins.bindParams "min" ["key", "default"] 0 ⟨[],[(Str.ofString "key",.ref q)]⟩=pure [some (.ref q),none]from rfl) ?_);refine wpAny_bind (wpAny_pure ?_);refine wpAny_bind (wpAny_pyIter_list hls ?_);refine wpAny_bind (wpAny_newList ?_ (Nat.zero_le _));rw[hname];have hS:(s.heap.push { cls:=.type "list_iterator",data:=.fields #[.ref l,.int 0 0] }).objs.size=s.heap.objs.size+1:=size_push' ..;have hlI:l≠s.heap.objs.size:=Nat.ne_of_lt hll;have hSI:(s.heap.push { cls:=.type "list_iterator",data:=.fields #[.ref l,.int 0 0] }).objs.size≠s.heap.objs.size:=by rw[hS];exact Nat.ne_of_gt (Nat.lt_succ_self _)
 have hlS:l≠(s.heap.push { cls:=.type "list_iterator",data:=.fields #[.ref l,.int 0 0] }).objs.size:=by rw[hS];exact Nat.ne_of_lt (Nat.lt_succ_of_lt hll)
 have hSge:s.heap.objs.size<=(s.heap.push { cls:=.type "list_iterator",data:=.fields #[.ref l,.int 0 0] }).objs.size:=by rw[hS];exact Nat.le_succ _
 refine wpAny_pure ⟨plainId_quiet PySem.F.plain_min_loop _,?_⟩;have gI:((s.heap.push { cls:=.type "list_iterator",data:=.fields #[.ref l,.int 0 0] }).push (seqObj "list" #[] 0)).get? s.heap.objs.size=some { cls:=.type "list_iterator",data:=.fields #[.ref l,.int 0 0] }:=
  Heap.get?_push_of_some _ (Heap.get?_push_size _ rfl)
 have gS:((s.heap.push { cls:=.type "list_iterator",data:=.fields #[.ref l,.int 0 0] }).push (seqObj "list" #[] 0)).get? (s.heap.push { cls:=.type "list_iterator",data:=.fields #[.ref l,.int 0 0] }).objs.size=some (seqObj "list" #[] 0):=Heap.get?_push_size _ rfl;have hkk:∀ b o,s.heap.get? b=some o->((s.heap.push { cls:=.type "list_iterator",data:=.fields #[.ref l,.int 0 0] }).push (seqObj "list" #[] 0)).get? b=some o:=fun b o e=>Heap.get?_push_of_some _ (Heap.get?_push_of_some _ e);generalize (s.heap.push { cls:=.type "list_iterator",data:=.fields #[.ref l,.int 0 0] }).objs.size=S at *;generalize ((s.heap.push { cls:=.type "list_iterator",data:=.fields #[.ref l,.int 0 0] }).push (seqObj "list" #[] 0))=hp at *;have W:=Walks.list (prog:=prog) (w:=w) (A:=A.in1) hh s.heap.objs.size l hlI vs.toArray;have hsz:vs.toArray.size=n:=(List.size_toArray ..).trans hvn;refine codeAny_builtin PySem.F.entry_min_loop ?_;rw[Around.under_plainId PySem.F.plain_min_loop _];show wpAny _ A.in1 (seqItems? (.ref _) >>= _) _ _ _;refine wpAny_bind (wpAny_seqItems gS rfl ?_);show wpAny _ A.in1 (tryCatch (pyNext (.ref s.heap.objs.size)) _ >>= _) _ _ _;refine wpAny_bind (wpAny_tryCatch (W.item 0 _ _ _ (by rw[hsz];exact hne) ⟨⟨_,gI,rfl,rfl⟩,hls.at fun o e=>hkk _ _ e⟩ fun v h' tk' hP hst' hk'=>?_));have hk2:∀ b o,b≠s.heap.objs.size->hp.get? b=some o->h'.get? b=some o:=fun b o n e=>hk' b o (by simpa using n) e;have hv:P 0 v:=hvP 0 v (by simpa using hP);obtain⟨oI',hoI',hoc,hod⟩:=id hst'.1;have hS':=hk2 S _ hSI gS;show wpAny _ A.in1 (tryCatch (holding [v] (call (.ref q) [v])) _ >>= _) _ _ _;refine wpAny_bind (wpAny_tryCatch (wpAny_holding (wpAny_mono (first s.heap.objs.size S _ v oI' _ (Nat.le_refl _) hSge hSI ⟨{ s with heap:=hp,toks:=s.toks },hG0 s hp _ g0 hkk,fun b o n e=>hk2 b o n e,rfl⟩ hv hoI' hS' (fun v z=>by rw[hod]at z;cases z) (fun v z=>by cases z)) (fun x s'' he=>?_) fun _ _ hF=>hF.elim)));obtain⟨k2,t2,rfl,hI2,hS2,g2⟩:=he;have s1:=Heap.SameBut.update s''.heap S (Obj.mapSeq fun _=>#[v,.int k2 t2]);obtain⟨c2,hc2⟩:∃ c2,(s''.heap.update S (Obj.mapSeq fun _=>#[v,.int k2 t2])).get? S=some (seqObj "list" #[v,.int k2 t2] c2):=⟨_,get?_update_seq hS2 fun _=>#[v,.int k2 t2]⟩
 show wpAny _ A.in1 (updateSeq S (fun _=>#[v,.int k2 t2]) >>= _) _ _ _;refine wpAny_bind ?_;refine wpAny_updateSeq hS2 rfl ?_;rw[hname];exact wpAny_pure ⟨plainId_quiet PySem.F.plain_min_loop _,zg0 (G _ _) hh hlI hSI hlS (hl _ _) (hmv _ _) (turn _ _) (fun vb kb s g=>hQ _ _ vb kb s g) _ 1 _ v k2 t2 c2 rfl hne (hmv _ _ _ _ _ s'' _ _ g2 fun b o n1 n2 e=>by rw[s1.2 b n2];exact e) hc2 ⟨oI',(s1.2 _ hSI.symm).trans hI2,hoc,hod⟩⟩
end
def ycz(X:Cx)(A:Around)(N':List Str)(qual:Str)(scope:Scope)(q:Addr)(cd:Value)(cl:List (Str × Addr))(s₀:Shared)(H₀:Hp):Cx:=
 { X with A:=A.deeper (PySem.W.envX qual scope s₀.heap.objs.size q cd cl),N:=N',s₀:=s₀,H₀:=H₀,env:=PySem.W.envX qual scope s₀.heap.objs.size q cd cl,outer:=X.stack,stack:=PySem.W.envX qual scope s₀.heap.objs.size q cd cl::X.stack,ex:=[],fn:=fun _=>false,calm:=true,pn:=[],xe:=fun _ _=>False }
def yed(ix:List Nat)(d:D)(ρ:Ev):Ev:=some d::ix.map fun i=>(ρ[i]?).getD none
def yee(ix:List Nat)(v:V)(st:St):St:=some v::ix.map fun i=>(st[i]?).getD none
theorem zq7{T:Tb}{μ:List Addr}{H:Hp}{ρ:Ev}{st:St}{d:D}{v:V}(ix:List Nat)(h:ygy T μ H ρ st)(hd:Rep T μ H d v):ygy T μ H (yed ix d ρ) (yee ix v st):=by
 have z:=(zoe ix h).set 0 hd;exact z
section
variable{X:Cx}{pins:List (Addr × Obj)}{st:St}{H:Hp}{s:Shared}{x:Str}{M':List Str}{ix:List Nat}{scope:Scope}{A:Around}{qual:Str}{q:Addr}{cd:Value}{v:V}{u:Value}
theorem zgo(I:Inv X pins st H s)(L:LcOk X x M' ix scope)(hx:scope.names.lookup x=some .local)(hA:A.frames=some X.stack)(hhd:A.handled=none)(rv:yhe v u){h':Heap}{t':Nat}{m:Str->Option Value}(hns:h'.Ns s.heap.objs.size m)(hm:m x=some u)
  (hk:∀ b o,s.heap.get? b=some o->h'.get? b=some o) :
  Inv (ycz X A (x::M') qual scope q cd (yh5 X.env scope.names []) s H) [] (yee ix v st) H { s with heap:=h',toks:=t' }:=by
 have sub:∀ n c,(yh5 X.env scope.names []).lookup n=some c->X.env.cells.lookup n=some c:=fun n c e=>zwc X.env scope.names [] n c (fun _ _ q=>by simp at q) e;have fresh:H s.heap.objs.size=none:=I.hok.fresh (Nat.le_refl _);have noA:∀ b:Addr,b ∉ (ycz X A (x::M') qual scope q cd (yh5 X.env scope.names []) s H).ex:=fun b z=>absurd (show b∈([]:List Addr)from z) (by simp);refine⟨⟨I.ok.mod,L.kind,rfl,rfl,Nat.le_refl _,fun a b c h1 h2=>I.ok.inj a b c (sub a c h1) (sub b c h2),fun a ha=>?_,fun a c h=>(by cases h),fun _=>hhd,Around.frames_deeper hA,.inr ⟨rfl,rfl⟩,fun b hb=>absurd hb (noA b),fun b o e=>I.bs b o e,Nat.le_trans I.ok.bsz I.sz,fun b o e=>noA b,fun b hb=>absurd hb (noA b),I.stack,I.stkFree⟩,
  rfl,I.bare,Un.kept hk,⟨m,hns,fun i y v' e1 e2 e3=>?_⟩,fun a c e=>?_,fresh,fun a c e=>I.freeC a c (sub a c e),fun p hp=>absurd (show p∈([]:List (Addr × Obj))from hp) (by simp),I.hok.kept hk,?_⟩
 ·have ha':scope.names.lookup a=some .cell\/scope.names.lookup a=some .free:=ha;rcases ha' with z|z
  ·exact absurd rfl (zy4 L _ (zgy z))
  ·exact zv6 X.env scope.names [] a (zgy z) (zor I L _ (zgy z) rfl)
 ·cases i with
  |zero=>
   have e1':some x=some y:=e1;have e2':some (some v)=some (some v'):=e2;cases e1';cases e2';exact⟨u,rv,.inl ⟨hx,hm⟩⟩
  |succ j=>
   have e1':M'[j]?=some y:=e1;have e2':(ix.map fun i=>(st[i]?).getD none)[j]?=some (some v'):=e2;rw[List.getElem?_map]at e2';cases ej:ix[j]? with
   |none=>rw[ej]at e2';cases e2'
   |some i0=>
    rw[ej]at e2';have e4:(st[i0]?).getD none=some v':=Option.some.inj e2';have e5:st[i0]?=some (some v'):=by
     cases q:st[i0]? with
     |none=>rw[q]at e4;cases e4
     |some o=>rw[q]at e4;exact congrArg some e4
    have e6:X.N[i0]?=some y:=by
     have z:=congrArg (fun l=>l[j]?) L.at_;simp only[List.getElem?_map,ej,e1',Option.map_some]at z;exact Option.some.inj z
    have q:=List.all_eq_true.mp L.vis y (List.mem_of_getElem? e1');simp only[Bool.and_eq_true,Bool.or_eq_true]at q;have kx:X.env.scope.names.lookup y=some .cell\/X.env.scope.names.lookup y=some .free:=by
     rcases q.1 with z|z
     ·exact .inl (eq_of_beq z)
     ·exact .inr (eq_of_beq z)
    have ky:scope.names.lookup y=some .free:=eq_of_beq q.2;obtain⟨m0,hn0,hl0⟩:=I.loc;obtain⟨u2,ru,lu⟩:=hl0 i0 y v' e6 e5 (by rcases kx with z|z;exact .inr (.inl z);exact .inr (.inr z));refine⟨u2,ru,.inr ⟨.inr ky,?_⟩⟩;rcases lu with⟨z,_⟩|⟨_,c,ec,zc⟩
    ·rcases kx with k|k
     ·rw[show X.env.kindOf y=X.env.scope.names.lookup y from rfl,k]at z;cases z
     ·rw[show X.env.kindOf y=X.env.scope.names.lookup y from rfl,k]at z;cases z
    ·obtain⟨c',hc'⟩:=zv6 X.env scope.names [] y (zgy ky) (zor I L _ (zgy ky) rfl);have e7:=sub y c' hc';rw[ec]at e7;cases e7;obtain⟨o,ho,hd⟩:=zc;exact⟨c,hc',o,hk _ _ ho,hd⟩
 ·obtain⟨v,o,ho,hd⟩:=I.cell a c (sub a c e);exact⟨v,o,hk _ _ ho,hd⟩
 ·have z:=congrArg List.length L.at_;simp[yee,ycz];simpa using z
theorem zks{name:Str}{params:Arguments}{body:Expr}{pm ctv:Value}{c':Addr}{t:TE}{Q:VK}(I:Inv X pins st H s)(L:LcOk X x M' ix scope)(hx:scope.names.lookup x=some .local)(hA:A.frames=some X.stack)(hhd:A.handled=none)(hdp:A.depth<recursionLimit)
  (ho:s.heap.get? q=some (PySem.W.kla_obj name qual params body scope (yh5 X.env scope.names []) pm c' ctv)) (hcd:s.heap.CodeRec (.ref c') qual)
  (hbind:bindArgs (PySem.W.kla_fn name qual params body scope (yh5 X.env scope.names []) pm (.ref c') ctv) ⟨[u],[]⟩=pure [(x,u)]) (hco:scope.isCoroutine=false) (hgen:scope.isGenerator=false) (rv:yhe v u)
  (hb:PE (ycz X A (x::M') qual scope q (.ref c') (yh5 X.env scope.names []) s H) body t) (ht:t (yee ix v st) H Q) :
  wpAny (model X.prog X.w) A (call (.ref q) [u]) (fun r s'=>CE X.stack X.prog X.w H s Q r s') (fun _ _=>False) s:=by
 refine wpAny_call (PySem.W.kla_callFunE (o:=PySem.W.kla_obj name qual params body scope (yh5 X.env scope.names []) pm c' ctv) hdp ho rfl hco hgen rfl hcd ?_);rw[hbind];refine wpAny_pure (wpAny_newFunctionEnv (zy4 L) (fun y hy=>?_) (fun h₁ hns hsb=>⟨?_,?_⟩) L.kind)
 ·have e:y=(x,u):=by simpa using hy
  subst e;exact hx
 ·exact(I.nolimit).fresh _ hsb
 ·have hk₁:∀ b o,s.heap.get? b=some o->h₁.get? b=some o:=fun b o e=>hsb.extBut b o (Nat.ne_of_lt (Heap.lt_size e)) (Heap.get?_push_of_some _ e);show codeAny _ _ (.expr body (PySem.W.envX qual scope s.heap.objs.size q (.ref c') (yh5 X.env scope.names []))) _ _;refine PySem.W.kla_codeExpr ?_;have IY:=zgo (A:=A) (qual:=qual) (q:=q) (cd:=.ref c') (t':=s.toks+1) I L hx hA hhd rv hns (by simp) hk₁;refine wpAny_mono (hb [] _ (yee ix v st) H Q IY ht) (fun u' s' z=>?_) fun _ _ z=>z.elim;obtain⟨v',H',J,rv',hq⟩:=z;exact⟨v',H',J.os,J.bare,J.base,J.hok,rv',hq⟩
end
def yiy(K:PySem.W.Frag)(c P:Addr):Bool:=match K.lookup c with
 |some o=>(match o.cls,o.data with
  | .type n,.fields vs=>n == "code" && (match (vs[11]?:Option Value)with|some (.ref p)=>p == P|_=>false) && (match vs.getD 11 .none with | .ref p=>p == P|_=>false) && (match vs.getD 18 .none with | .str _ _=>true|_=>false) &&
   (match vs.getD 7 .none with | .int _ _=>true|_=>false) && (match vs.getD 9 .none with | .bool _=>true|_=>false) && (match vs.getD 10 .none with | .int _ _=>true|_=>false) && (c != P)
  |_,_=>false)
 |none=>false
theorem ydz{K:PySem.W.Frag}{h:Heap}{c P:Addr}(X:K.In h)(e:yiy K c P=true):PySem.W.CodeHd h c P:=by
 unfold yiy at e;split at e
 ·next o ho=>
  split at e
  ·next n vs hc hd=>
   simp only[Bool.and_eq_true]at e;obtain⟨⟨⟨⟨⟨⟨⟨e1,e2⟩,e3⟩,e4⟩,e5⟩,e6⟩,e7⟩,e8⟩:=e;split at e2;case h_2=>cases e2
   next p2 h2=>
   split at e3;case h_2=>cases e3
   next p3 h3=>
   split at e4;case h_2=>cases e4
   next s4 t4 h4=>
   split at e5;case h_2=>cases e5
   next s5 t5 h5=>
   split at e6;case h_2=>cases e6
   next s6 h6=>
   split at e7;case h_2=>cases e7
   next s7 t7 h7=>
   have q2:=eq_of_beq e2;have q3:=eq_of_beq e3;subst q2;subst q3;have q1:=eq_of_beq e1;subst q1;exact⟨o,vs,s4,t4,s5,t5,s6,s7,t7,X _ _ ho,hc,hd,h2,h3,h4,h5,h6,h7,by simpa using e8⟩
  ·cases e
 ·cases e
theorem zqx{X:Cx}{pins:List (Addr × Obj)}{st:St}{H:Hp}{s:Shared}{P c':Addr}{ps more:Array Value}{qual:Str}{h':Heap}{tk:Nat}(I:Inv X pins st H s)(hP:H P=some (.tbl ps))(hx:Heap.ExtBut P s.heap h')(hge:s.heap.objs.size<=c')(hlt:c'<h'.objs.size)
  (hrec:zvb qual c' h') (htb:h'.get? P=some (PySem.W.tabObj (ps++more))) :
  Inv X pins st (upd (upd H P (.tbl (ps++more))) c' (.ext (zvb qual c'))) { s with heap:=h',toks:=tk }:=by
 have hc0:H c'=none:=I.hok.fresh hge;have ncP:c'≠P:=fun z=>by rw[z,hP]at hc0;cases hc0
 have nP:∀ b,H b=none->b≠P:=fun b n z=>by rw[z,hP]at n;cases n
 have up:∀ b u,H b=some u->b≠P->upd (upd H P (.tbl (ps++more))) c' (.ext (zvb qual c')) b=some u:=fun b u e n=>by
  rw[yby (zev e hc0),yby n];exact e
 have uP:upd (upd H P (.tbl (ps++more))) c' (.ext (zvb qual c')) P=some (.tbl (ps++more)):=by rw[yby ncP.symm,zne]
 refine I.un (h':=h') (t':=tk) ⟨fun b o e n _ _=>hx b o (nP b n) e,fun b o e n _ _=>⟨o.slots,hx b o (nP b n) e⟩,fun b o e n _=>?_,fun b o e _=>?_,fun b xs e=>up b _ e (fun z=>by rw[z,hP]at e;cases e),fun b o u e=>up b _ e (fun z=>by rw[z,hP]at e;cases e),fun b qs e=>?_⟩ fun b u e=>?_
 ·have:b≠c':=fun z=>by subst z;exact absurd (Heap.lt_size e) (Nat.not_lt.mpr hge)
  rw[yby this,yby (nP b n)];exact n
 ·by_cases hb:b=P
  ·subst hb;exact⟨_,htb⟩
  ·exact⟨o,hx b o hb e⟩
 ·by_cases hb:b=P
  ·subst hb;rw[hP]at e;cases e;exact⟨more,uP⟩
  ·exact⟨#[],by rw[Array.append_empty];exact up b _ e hb⟩
 ·by_cases hbc:b=c'
  ·subst hbc;rw[zne]at e;cases e;obtain⟨o,vs,t,h1,h2,h3⟩:=hrec;exact⟨⟨o,vs,t,h1,h2,h3⟩,⟨o,h1⟩,fun a1 a2 ⟨o',vs',t',e1,e2,e3⟩ k=>⟨o',vs',t',k _ e1,e2,e3⟩⟩
  ·rw[yby hbc]at e;by_cases hb:b=P
   ·subst hb;rw[zne]at e;cases e;exact htb
   ·rw[yby hb]at e;refine(I.hok b u e).stay (fun c v hc q=>hx c v ?_ q) (fun c q=>up c _ q (fun z=>by rw[z,hP]at q;cases q)) fun c xs q=>up c _ q (fun z=>by rw[z,hP]at q;cases q);rcases hc with z|z
    ·rw[z];exact hb
    ·intro y;rw[y,hP]at z;cases z
section
variable{T:Tb}{X:Cx}{pins:List (Addr × Obj)}{st:St}{H:Hp}{s:Shared}{μ:List Addr}{σ:Sto}{x:Str}{M':List Str}{ix:List Nat}{scope:Scope}{params:Arguments}{body:Expr}{pos:Pos}{c:Addr}{t:Tab}
structure LamOk(T:Tb)(X:Cx)(t:Tab)(c:Addr)(pos:Pos):Prop where
 mem:t∈T.tx.tbs
 inj:∀ t'∈T.tx.tbs,t'.P=t.P->t'=t
 code:X.env.code=.ref c
 hd:yiy X.K c t.P=true
 line:t.line=pos.line
 col:t.col=pos.col
 qual:t.qual=X.env.qual++"<lambda>"
 bm:X.mg "__builtins__" = some (.ref T.tx.bm)
 bb:T.tx.bm≠builtinsNs
theorem zkt(I:Inv X pins st H s)(L:LcOk X x M' ix scope)(r:Rel T μ H σ)(Lm:LamOk T X t c pos)(hdef:defaultsOf params X.env=([],[])) :
  wpAny (model X.prog X.w) X.A (eval (.Lambda params body scope pos) X.env) (fun v s'=>∃ q c' ctv H',v=.ref q/\Inv X ((q,PySem.W.kla_obj "<lambda>" t.qual params body scope (yh5 X.env scope.names []) ((X.mg "__name__").getD .none) c' ctv)::pins) st H' s'/\Ext μ H μ H'/\Rel T μ H' σ/\c' ∉ μ/\H' c'=some (.ext (zvb t.qual c'))) X.xe s:=by
 obtain⟨⟨hb1,obm,hb2⟩,hP1,ps,hP,hps⟩:=r.tb t Lm.mem;have hPo:s.heap.get? t.P=some (PySem.W.tabObj ps):=I.hok _ _ hP;have hgs:s.heap.Ns mainGlobals X.mg:=I.ok.mod.glob.keeps I.bk;have hgP:mainGlobals≠t.P:=fun z=>by
  obtain⟨o,es,ep,e,hd,_⟩:=hgs;rw[z,hPo]at e;cases e;cases hd
 obtain⟨_,⟨ob,o1,o2,o3,o4⟩,_⟩:=I.hok _ _ hb2;have hbP:T.tx.bm≠t.P:=fun z=>by rw[z,hPo]at o1;cases o1;cases o2
 have hbG:T.tx.bm≠mainGlobals:=fun z=>by
  obtain⟨o,es,ep,e,hd,_⟩:=hgs;rw[z,e]at o1;cases o1;rw[hd]at o4;cases o4
 have hB:s.heap.BuiltinsAt X.mg t.P:=⟨T.tx.bm,ob,Lm.bm,Lm.bb,hbG,hbP,o1,o2,o3,o4⟩
 have hcl:=zee X.env scope (zor I L);have C:PySem.W.CodeHd s.heap c t.P:=(ydz I.ok.mod.kin Lm.hd).keeps I.bk;have pinned:∀ {h':Heap} {tk:Nat} {H':Hp} {o:Obj},Inv X pins st H' { s with heap:=h',toks:=tk }->o.isFreed=false->(∀ v,o.data≠.cell v)->Inv X ((h'.objs.size,o)::pins) st H' { s with heap:=h'.push o,toks:=tk }:=fun {h' tk H' o} J hf hc=>by
  have J2:=J.kept (h':=h'.push o) (t':=tk) fun b u e=>Heap.get?_push_of_some _ e;refine J2.pins_of fun p hp=>?_;rcases List.mem_cons.mp hp with rfl|hp
  ·exact⟨Heap.get?_push_size _ hf,J.hok.fresh (Nat.le_refl _),Nat.ne_of_gt J.lt,J.nofs (Nat.le_refl _),hc⟩
  ·exact J2.pin p (List.mem_append_right _ hp)
 refine PySem.W.kla_eval hdef ?_;rw[<-Lm.qual];rcases hps with rfl|⟨c1,rfl,hc1,hc2⟩
 ·refine PySem.W.kla_makeFunction (mg:=X.mg) hcl I.ok.glob hgs Lm.code C hPo trivial rfl hgP hB fun c' ctv h' tk hx hge hlt hrec htb=>?_;have hce:zvb t.qual c' h':=by
   obtain⟨c2,o,vs,tt,e,h1,h2,h3⟩:=hrec;cases e;exact⟨o,vs,tt,h1,h2,h3⟩
  have J:=zqx (tk:=tk) I hP hx hge hlt hce htb;have hc0:H c'=none:=I.hok.fresh hge;have ncP:c'≠t.P:=fun z=>by rw[z,hP]at hc0;cases hc0
  have ncμ:c' ∉ μ:=fun z=>by obtain⟨u,hu,_⟩:=r.mem z;rw[hc0]at hu;cases hu
  have up:∀ b u,H b=some u->b≠t.P->upd (upd H t.P (.tbl (#[]++#[rawInt pos.line,rawInt pos.col,.ref c']))) c' (.ext (zvb t.qual c')) b=some u:=fun b u e n=>by
   rw[yby (zev e hc0),yby n];exact e
  have uP:upd (upd H t.P (.tbl (#[]++#[rawInt pos.line,rawInt pos.col,.ref c']))) c' (.ext (zvb t.qual c')) t.P=some (.tbl (#[]++#[rawInt pos.line,rawInt pos.col,.ref c'])):=by rw[yby ncP.symm,zne]
  have uc:upd (upd H t.P (.tbl (#[]++#[rawInt pos.line,rawInt pos.col,.ref c']))) c' (.ext (zvb t.qual c')) c'=some (.ext (zvb t.qual c')):=zne;have e:Ext μ H μ (upd (upd H t.P (.tbl (#[]++#[rawInt pos.line,rawInt pos.col,.ref c']))) c' (.ext (zvb t.qual c'))):=by
   refine⟨⟨[],by simp⟩,fun p xs h=>up p _ h (fun z=>by rw[z,hP]at h;cases h),fun p o u h=>up p _ h (fun z=>by rw[z,hP]at h;cases h),fun p o h n=>⟨?_,n⟩⟩;by_cases hp:p=t.P
   ·subst hp;rw[hP]at h;cases h;exact⟨_,uP,.inr (.inr ⟨_,_,rfl,rfl⟩)⟩
   ·exact⟨o,up p o h hp,.inl rfl⟩
  refine⟨_,c',ctv,_,rfl,pinned J rfl (fun v z=>by cases z),e,r.keep e (fun a ha=>?_) fun t' ht'=>?_,ncμ,uc⟩
  ·obtain⟨u,hu,_⟩:=r.mem ha;rw[hu];exact up a u hu fun z=>hP1 (by rw[<-z];exact ha)
  ·obtain⟨⟨a1,ob2,a2⟩,a3,qs,a4,a5⟩:=r.tb t' ht';refine⟨⟨a1,ob2,up _ _ a2 hbP⟩,a3,?_⟩;by_cases hp:t'.P=t.P
   ·have et:=Lm.inj t' ht' hp;subst et;exact⟨_,uP,.inr ⟨c',by rw[Lm.line,Lm.col];rfl,ncμ,uc⟩⟩
   ·refine⟨qs,up _ _ a4 hp,a5.imp id fun⟨c3,z1,z2,z3⟩=>⟨c3,z1,z2,up _ _ z3 (fun z=>by rw[z,hP]at z3;cases z3)⟩⟩
 ·refine PySem.W.kla_makeFunctionHit (mg:=X.mg) (cv:=.ref c1) hcl I.ok.glob hgs Lm.code C hPo ?_ ?_ hB fun ctv h' tk hk hsz=>?_
  ·exact trivial
  ·rw[Lm.line,Lm.col];show codeAmong pos [rawInt pos.line,rawInt pos.col,.ref c1]=_;simp[codeAmong,rawInt]
  ·have J:=I.kept (h':=h') (t':=tk) hk;exact⟨_,c1,ctv,H,rfl,pinned J rfl (fun v z=>by cases z),Ext.refl _ _,r,hc1,hc2⟩
end
def yje(fe:Ev->M D)(rest:Ev):List D->D->Int->M D
 |[],b,_=>ret b
 |d::ds,b,kb=>bnd (nox (fe (some d::rest))) fun k=>match k with
  | .int k=>if k<kb then yje fe rest ds d k else yje fe rest ds b kb
  |_=>bad
def yjd(fe:Ev->M D)(rest:Ev)(ds:List D):M D:=match ds with
 |[.lst (x::xs)]=>bnd (nox (fe (some x::rest))) fun k=>match k with
  | .int k=>yje fe rest xs x k
  |_=>bad
 |_=>bad
def yda(ix:List Nat)(fe:Ev->M D)(fs:Ev->M (List D)):Ev->M D:=fun ρ=>bnd (fs ρ) (yjd fe (ix.map fun i=>(ρ[i]?).getD none))
theorem zdm{X:Cx}{pins:List (Addr × Obj)}{st:St}{H:Hp}{s:Shared}{h':Heap}{t':Nat}{i j:Addr}(I:Inv X pins st H s)(k:∀ b o,b≠i->b≠j->s.heap.get? b=some o->h'.get? b=some o)(hi:yg2 X pins H i)(hj:yg2 X pins H j):Inv X pins st H { s with heap:=h',toks:=t' }:=by
 have nit:∀ b u,H b=some u->b≠i/\b≠j:=fun b u e=>⟨(fun z=>by rw[z,hi.1]at e;cases e),(fun z=>by rw[z,hj.1]at e;cases e)⟩
 have nc:∀ {b:Addr},b ∉ [i,j]->b≠i/\b≠j:=fun {b} h=>⟨fun z=>h (by simp[z]),fun z=>h (by simp[z])⟩
 refine I.step (g':=s.gens) (d':=s.drawn) (ch:=[i,j]) (fun b hb=>?_) (fun b o _ _ hc e _=>k b o (nc hc).1 (nc hc).2 e) (fun b o _ _ hc e _=>⟨o.slots,k b o (nc hc).1 (nc hc).2 e⟩) (fun _ _ _ _ n=>n)
  (fun b o hc e=>⟨o,k b o (nc hc).1 (nc hc).2 e⟩) (fun _ _ e=>e) (fun _ _ _ e=>e) (fun b ps e=>⟨#[],by rw[e];simp⟩) (fun m hm=>?_) (fun b u e=>?_) I.bare
 ·have e:b=i\/b=j:=by simpa using hb
  rcases e with rfl|rfl
  ·exact⟨hi.2.2.2.1,hi.2.1,hi.2.2.2.2.1,hi.2.2.2.2.2⟩
  ·exact⟨hj.2.2.2.1,hj.2.1,hj.2.2.2.2.1,hj.2.2.2.2.2⟩
 ·obtain⟨o,es,ep,ho,r⟩:=hm;exact⟨o,es,ep,k _ o (Ne.symm hi.2.1) (Ne.symm hj.2.1) ho,r⟩
 ·refine(I.hok b u e).stay (fun c v hc q=>?_) (fun _ q=>q) fun _ _ q=>q;rcases hc with z|z
  ·rw[z]at q ⊢;exact k b v (nit b u e).1 (nit b u e).2 q
  ·exact k c v (nit c _ z).1 (nit c _ z).2 q
section
variable{T:Tb}{X:Cx}
theorem zpn{e body:Expr}{params:Arguments}{scope:Scope}{lpos pos kp p:Pos}{x:Str}{M':List Str}{ix:List Nat}{fs:Ev->M (List D)}{fe:Ev->M D}{t:Tab}{c:Addr}{k:Nat}
  (hroom:Room (k+2) X.A) (L:LcOk X x M' ix scope) (hx:scope.names.lookup x=some .local) (Lm:LamOk T X t c lpos) (hg:Gl X "min") (hm:X.mg "min" = none)
  (hdef:defaultsOf params X.env=([],[])) (hco:scope.isCoroutine=false) (hgen:scope.isGenerator=false)
  (hbind:∀ (cl:List (Str × Addr)) (pm cd ctv u:Value),bindArgs (PySem.W.kla_fn "<lambda>" t.qual params body scope cl pm cd ctv) ⟨[u],[]⟩=pure [(x,u)])
  (ha:FA T X [e] fs)
  (hb:∀ (A:Around) (q:Addr) (cd:Value) (s₀:Shared) (H₀:Hp),Room k (A.deeper (PySem.W.envX t.qual scope s₀.heap.objs.size q cd (yh5 X.env scope.names [])))->FE T (ycz X A (x::M') t.qual scope q cd (yh5 X.env scope.names []) s₀ H₀) body fe)
  (he:backTo pos (starEach [e] X.env)=(false,eval e X.env)::backTo pos (starEach [] X.env):=by rfl)
  (hplain:(backTo pos (starEach [e] X.env)).any (·.1)=false:=by rfl) :
  FE T X (.Call (.Name "min" p) [e] [⟨some "key",.Lambda params body scope lpos,kp⟩] pos) (yda ix fe fs):=by
 intro pins s st H Q I h;refine wpAny_Call_Name_kw (zyt I hg hm (show bootBuiltins "min" = some (.builtin "min")from rfl) ?_);obtain⟨μ,ρ,σ,hE,hr,hp⟩:=h;refine callWith_kw (thn (ha pos pins s st H (fun vs H1=>∃ μ1 σ1 ds,Ext μ H μ1 H1/\Rel T μ1 H1 σ1/\yhh T μ1 H1 ds vs/\yhb T (XE X st) (Rep T) μ1 H1 (yjd fe (ix.map fun i=>(ρ[i]?).getD none) ds σ1) Q) I ⟨μ,ρ,σ,hE,hr,hp.bind fun ds σ1 μ1 vs H1 _ e1 r1 q1 p1=>⟨μ1,σ1,ds,e1,r1,q1,p1⟩⟩) fun us s1 ⟨vs,H1,I1,rv,μ1,σ1,ds,e1,r1,q1,p1⟩=>kws_cons (thn (zkt I1 L r1 Lm hdef) fun lv s2 ⟨q,c',ctv,H2,elv,I2,e2,r2,hc1,hc2⟩=>kws_nil ?_)) he hplain;subst elv;show wpAny _ _ (call (.builtin "min") us [(Str.ofString "key",.ref q)]) _ _ _;have hE2:ygy T μ1 H2 ρ st:=(hE.mono e1).mono e2;generalize hrest:(ix.map fun i=>(ρ[i]?).getD none)=rest at *;obtain⟨x0,xs,rfl⟩:∃ x0 xs,ds=[.lst (x0::xs)]:=by
  unfold yjd at p1;split at p1
  ·exact⟨_,_,rfl⟩
  ·exact p1.elim
 rw[yhh]at q1;obtain⟨v0,rr,rfl,q2,q3⟩:=q1;rw[yhh]at q3;subst q3;rw[Rep]at q2;obtain⟨a,ws,rfl,han,haH,hws⟩:=q2;obtain⟨u0,rfl,ru0⟩:=yho.one rv;obtain rfl:u0=.ref a:=ru0;have p2:=yhb.mono e2 p1;have haH2:H2 a=some (.lst ws):=(e2.keepN _ _ haH han).1;have hws2:yhh T μ1 H2 (x0::xs) ws:=yhh.mono e2 _ _ hws;have hlen:(x0::xs).length=ws.length:=hws2.length;have lst:∀ {H':Hp} {s':Shared} {pn:List (Addr × Obj)},Inv X pn st H' s'->H' a=some (.lst ws)->∃ its:List Value,its.length=ws.length/\(∀ (j:Nat) v,its[j]?=some v->∃ w,ws[j]?=some w/\yhe w v)/\s'.heap.IsList a its.toArray:=fun {H' s' pn} J z=>by
  obtain⟨_,its,n,rv,ho⟩:=J.hok _ _ z;refine⟨its,rv.length.symm,fun j v hv=>?_,⟨_,ho,rfl,⟨_,rfl⟩⟩⟩;have hj:j<ws.length:=by rw[rv.length];exact(List.getElem?_eq_some_iff.mp hv).1
  obtain⟨u,hu,ru⟩:=rv.get (i:=j) (x:=ws[j]) (by simp[hj]);rw[hv]at hu;cases hu;exact⟨ws[j],by simp[hj],ru⟩
 have one:∀ {μ':List Addr} {H':Hp} {σ':Sto} {s':Shared} {d:D} {w:V} {v:Value} {I S:Addr} {oI oS:Obj} {kk:Int->M D},Inv X ((q,PySem.W.kla_obj "<lambda>" t.qual params body scope (yh5 X.env scope.names []) ((X.mg "__name__").getD .none) c' ctv)::pins) st H' s'->Ext μ1 H2 μ' H'->Rel T μ' H' σ'->Rep T μ' H' d w->yhe w v->
   yg2 X ((q,PySem.W.kla_obj "<lambda>" t.qual params body scope (yh5 X.env scope.names []) ((X.mg "__name__").getD .none) c' ctv)::pins) H' I->yg2 X ((q,PySem.W.kla_obj "<lambda>" t.qual params body scope (yh5 X.env scope.names []) ((X.mg "__name__").getD .none) c' ctv)::pins) H' S->
   s'.heap.get? I=some oI->s'.heap.get? S=some oS->(∀ v,oI.data≠.cell v)->(∀ v,oS.data≠.cell v)->
   yhb T (XE X st) (Rep T) μ' H' (bnd (nox (fe (some d::rest))) (fun k=>match k with | .int k=>kk k|_=>bad) σ') Q->
   wpAny (model X.prog X.w) X.A.in1 (call (.ref q) [v]) (fun y s''=>∃ k t',y=.int k t'/\s''.heap.get? I=some oI/\s''.heap.get? S=some oS/\∃ μ'' H'' σ'',Inv X ((q,PySem.W.kla_obj "<lambda>" t.qual params body scope (yh5 X.env scope.names []) ((X.mg "__name__").getD .none) c' ctv)::pins) st H'' s''/\Ext μ' H' μ'' H''/\Rel T μ'' H'' σ''/\
    yg2 X ((q,PySem.W.kla_obj "<lambda>" t.qual params body scope (yh5 X.env scope.names []) ((X.mg "__name__").getD .none) c' ctv)::pins) H'' I/\yg2 X ((q,PySem.W.kla_obj "<lambda>" t.qual params body scope (yh5 X.env scope.names []) ((X.mg "__name__").getD .none) c' ctv)::pins) H'' S/\yhb T (XE X st) (Rep T) μ'' H'' (kk k σ'') Q) (fun _ _=>False) s':=by
  intro μ' H' σ' s' d w v I S oI oS kk J ex r' rd rw0 fI fS gI gS cI cS po;generalize hob:PySem.W.kla_obj "<lambda>" t.qual params body scope (yh5 X.env scope.names []) ((X.mg "__name__").getD .none) c' ctv=ob at *;have hcode:s'.heap.CodeRec (.ref c') t.qual:=by
   obtain⟨⟨o,vs',tt,h1,h2,h3⟩,_⟩:=J.hok _ _ (ex.keepN _ _ hc2 hc1).1;exact⟨c',o,vs',tt,rfl,h1,h2,h3⟩
  have hq:=(J.pin (q,ob) (List.mem_append_right _ (.head _))).1;have J2:Inv X ((I,oI)::(S,oS)::(q,ob)::pins) st H' s':=J.pins_of fun p hp=>by
   rcases List.mem_cons.mp hp with rfl|hp
   ·exact⟨gI,fI.1,fI.2.1,fI.2.2.1,cI⟩
   ·rcases List.mem_cons.mp hp with rfl|hp
    ·exact⟨gS,fS.1,fS.2.1,fS.2.2.1,cS⟩
    ·exact J.pin p (List.mem_append_right _ hp)
  have hd:X.A.in1.handled=none:=hroom.hd;refine wpAny_mono (zks (A:=X.A.in1) (t:=tF T _ fe) (v:=w) (Q:=fun y H''=>∃ k μ'' σ'',y=.int k/\Ext μ' H' μ'' H''/\Rel T μ'' H'' σ''/\yhb T (XE X st) (Rep T) μ'' H'' (kk k σ'') Q) J2 L hx J.ok.frames hd (Room.in1 hroom).depth (by rw[<-hob]at hq;exact hq) hcode (hbind _ _ _ _ _) hco hgen rw0 (hb _ _ _ _ _ ((Room.in1 hroom).deeper _)) ⟨μ',yed ix d ρ,σ',zq7 ix (hE2.mono ex) rd,r',?_⟩) (fun y s'' hce=>?_) fun _ _ z=>z
  ·unfold yed;rw[hrest];refine po.bind0 fun y σ'' μ'' g H'' _ e'' r'' q'' p''=>?_;cases y with
   |int k=>
    rw[Rep]at q'';exact⟨k,μ'',σ'',q'',e'',r'',p''⟩
   |_=>exact p''.elim
  ·obtain⟨yv,H'',J3,ry,k,μ'',σ'',rfl,e'',r'',p''⟩:=J2.after hce;obtain⟨t',rfl⟩:=ry;have pI:=J3.pin (I,oI) (List.mem_append_right _ (.head _));have pS:=J3.pin (S,oS) (List.mem_append_right _ (.tail _ (.head _)));have J4:Inv X ((q,ob)::pins) st H'' s'':=J3.pins_of fun p hp=>J3.pin p (List.mem_append_right _ (.tail _ (.tail _ hp)));exact⟨k,t',rfl,pI.1,pS.1,μ'',H'',σ'',J4,e'',r'',⟨pI.2.1,fI.2⟩,⟨pS.2.1,fS.2⟩,p''⟩
 obtain⟨its,hn,hP,hli⟩:=lst I2 haH2;generalize hob:PySem.W.kla_obj "<lambda>" t.qual params body scope (yh5 X.env scope.names []) ((X.mg "__name__").getD .none) c' ctv=ob at *;refine zlb (n:=ws.length) (P:=fun j v=>∃ w,ws[j]?=some w/\yhe w v) (fun s'=>Inv X ((q,ob)::pins) st H2 s')
  (fun I S j vb kb s'=>yg2 X ((q,ob)::pins) H2 I/\yg2 X ((q,ob)::pins) H2 S/\∃ μ' H' σ' b wb,Inv X ((q,ob)::pins) st H' s'/\Ext μ1 H2 μ' H'/\Rel T μ' H' σ'/\Rep T μ' H' b wb/\yhe wb vb/\yg2 X ((q,ob)::pins) H' I/\yg2 X ((q,ob)::pins) H' S/\yhb T (XE X st) (Rep T) μ' H' (yje fe rest ((x0::xs).drop j) b kb σ') Q)
  hroom.hd I2 hn hP hli (by rw[<-hlen];simp) (fun s0 h' tk g k=>g.kept k) ?_ ?_ ?_ ?_ ?_
 ·
  intro I S s3 v oI oS hI hS hSI ⟨s0,g0,hk,es⟩ ⟨w,hw,rw1⟩ gI gS cI cS;have fI:yg2 X ((q,ob)::pins) H2 I:=I2.fpOk hI (I2.hok.fresh hI);have fS:yg2 X ((q,ob)::pins) H2 S:=I2.fpOk hS (I2.hok.fresh hS);have J:Inv X ((q,ob)::pins) st H2 s3:=by
   rw[es];exact zdm g0 (fun b o n _ e=>hk b o n e) fI fS
  have rd:∃ w',ws[0]?=some w'/\Rep T μ1 H2 x0 w':=hws2.get (i:=0) rfl;obtain⟨w',hw',rd⟩:=rd;rw[hw]at hw';cases hw';refine wpAny_mono (one (kk:=fun k=>yje fe rest xs x0 k) J (Ext.refl _ _) r2 rd rw1 fI fS gI gS cI cS p2) (fun y s4 z=>?_) fun _ _ z=>z;obtain⟨k,t',rfl,hI4,hS4,μ'',H'',σ'',J4,e4,r4,f1,f2,p4⟩:=z;exact⟨k,t',rfl,hI4,hS4,fI,fS,μ'',H'',σ'',x0,w,J4,e4,r4,Rep.mono e4 _ _ rd,rw1,f1,f2,p4⟩
 ·intro I S j vb kb s' ⟨_,_,μ',H',σ',b,wb,J,ex,r',rb,rvb,f1,f2,p'⟩;exact lst J (ex.keepN _ _ haH2 han).1
 ·intro I S j vb kb s' h' tk ⟨a1,a2,μ',H',σ',b,wb,J,ex,r',rb,rvb,f1,f2,p'⟩ k;exact⟨a1,a2,μ',H',σ',b,wb,zdm J k f1 f2,ex,r',rb,rvb,f1,f2,p'⟩
 ·intro I S j vb kb s' v oI oS ⟨a1,a2,μ',H',σ',b,wb,J,ex,r',rb,rvb,f1,f2,p'⟩ ⟨w,hw,rw1⟩ gI gS cI cS;have hj:j<(x0::xs).length:=by rw[hlen];exact(List.getElem?_eq_some_iff.mp hw).1
  obtain⟨w',hw',rd⟩:=hws2.get (i:=j) (d:=(x0::xs)[j]) (by rw[List.getElem?_eq_getElem hj]);rw[hw]at hw';cases hw';rw[List.drop_eq_getElem_cons hj]at p';generalize (x0::xs)[j]=d at *;generalize hds:(x0::xs).drop (j+1)=ds' at *;unfold yje at p';refine wpAny_mono (one (kk:=fun k=>if k<kb then yje fe rest ds' d k else yje fe rest ds' b kb) J ex r' (Rep.mono ex _ _ rd) rw1 f1 f2 gI gS cI cS p') (fun y s4 z=>?_) fun _ _ z=>z;obtain⟨k,t',rfl,hI4,hS4,μ'',H'',σ'',J4,e4,r4,f3,f4,p4⟩:=z;refine⟨k,t',rfl,hI4,hS4,a1,a2,μ'',H'',σ'',?_⟩;by_cases hk:k<kb
  ·rw[if_pos hk]at p4;rw[if_pos hk,if_pos hk];exact⟨d,w,J4,ex.trans e4,r4,Rep.mono (ex.trans e4) _ _ rd,rw1,f3,f4,p4⟩
  ·rw[if_neg hk]at p4;rw[if_neg hk,if_neg hk];exact⟨b,wb,J4,ex.trans e4,r4,Rep.mono e4 _ _ rb,rvb,f3,f4,p4⟩
 ·intro I S vb kb s' ⟨_,_,μ',H',σ',b,wb,J,ex,r',rb,rvb,f1,f2,p'⟩;rw[<-hlen,List.drop_length]at p';have q':Q wb H':=yhb.here (R:=Rep T) p' r' rb;exact⟨wb,H',J.pins_of (fun p hp=>J.pin p (List.mem_append_right _ (.tail _ hp))),rvb,q'⟩
end
def cOf(K:PySem.W.Frag)(x:Str):Addr:=((PySem.W.tabIn K x).getD (0,0)).1
def POf(K:PySem.W.Frag)(x:Str):Addr:=((PySem.W.tabIn K x).getD (0,0)).2
def yh0(K:PySem.W.Frag):Addr:=match PySem.W.nsIn K mainGlobals "__builtins__" with
 |some (some (.ref a))=>a
 |_=>0
theorem ybl{K:PySem.W.Frag}{x:Str}(h:(PySem.W.tabIn K x).isSome=true):PySem.W.tabIn K x=some (cOf K x,POf K x):=by
 unfold cOf POf;cases e:PySem.W.tabIn K x with
 |none=>rw[e]at h;cases h
 |some p=>rfl
def ybm(K:PySem.W.Frag)(xs:List Str):Bool:=
 PySem.W.noTabs K && (match PySem.W.nsIn K mainGlobals "__builtins__" with
  |some (some (.ref a))=>(K.lookup a).isNone && (a != builtinsNs)
  |_=>false) && xs.all fun x=>(PySem.W.tabIn K x).isSome && yiy K (cOf K x) (POf K x)
structure Tabs(K:PySem.W.Frag)(xs:List Str):Prop where
 no:PySem.W.noTabs K=true
 bm:PySem.W.nsIn K mainGlobals "__builtins__" = some (some (.ref (yh0 K)))
 bk:K.lookup (yh0 K)=none
 bb:yh0 K≠builtinsNs
 tab:∀ x∈xs,PySem.W.tabIn K x=some (cOf K x,POf K x)
 hd:∀ x∈xs,yiy K (cOf K x) (POf K x)=true
theorem zuy{K:PySem.W.Frag}{xs:List Str}(h:ybm K xs=true):Tabs K xs:=by
 unfold ybm at h;rw[Bool.and_eq_true,Bool.and_eq_true]at h;obtain⟨⟨h1,h2⟩,h3⟩:=h;split at h2
 ·next a ha=>
  have eb:yh0 K=a:=by unfold yh0;rw[ha]
  rw[Bool.and_eq_true]at h2;refine⟨h1,by rw[eb];exact ha,by rw[eb];exact Option.isNone_iff_eq_none.mp h2.1,by rw[eb];simpa using h2.2,fun x hx=>?_,fun x hx=>?_⟩
  ·have z:=List.all_eq_true.mp h3 x hx;rw[Bool.and_eq_true]at z;exact ybl z.1
  ·have z:=List.all_eq_true.mp h3 x hx;rw[Bool.and_eq_true]at z;exact z.2
 ·cases h2
def zvd(K:PySem.W.Frag)(mg:Str->Option Value)(x:Str)(st:Stmt)(ps:List Str):Prop:=
 ∃ f fd,mg x=some (.ref f)/\Fun K x x st f fd/\(∀ us:List Value,us.length=ps.length->bindArgs fd ⟨us,[]⟩=pure (ps.zip us))/\fd.code=.ref (cOf K x)
theorem mkC{K:PySem.W.Frag}{mg:Str->Option Value}{h:Heap}{x:Str}{st:Stmt}{ps xs:List Str}(X:K.In h)(G:h.Ns mainGlobals mg)(hF:yb6 K mg x st ps)(ht:Tabs K xs)(hx:x∈xs):zvd K mg x st ps:=by
 obtain⟨f,fd,hm,F,hb⟩:=hF;obtain⟨oc,od,kV,doc,pm,an,cdv,ct,osl,rfl,lk,hcd⟩:=F.ex;exact⟨f,_,hm,F,hb,PySem.W.law_code X G (ht.tab x hx) hm (X _ _ lk) rfl⟩
theorem zzh{P:Program}{w:World}{K:PySem.W.Frag}{mg:Str->Option Value}{base:Heap}{ca:Nat->Addr}{tx:Tx}{k:Nat}{x:Str}{st:Stmt}{ps N:List Str}{g:Ev->M Fl}(h:zvd K mg x st ps)(S:FnScope N ps (ziy st))
  (hb:∀ (f:Addr) (A:Around) (outer:List Env) (s:Shared) (H:Hp) (E:XK),Room k (A.deeper (envOfC x (ziy st) s.heap.objs.size f (.ref (cOf K x))))->FSs ⟨K,ca,tx⟩ (yh9 (CXE P w) P w K mg base N x (ziy st) f (.ref (cOf K x)) A outer s H E) (zo4 st) g) :
  OkF ⟨K,ca,tx⟩ P w mg base (k+1) x ps (run N.length g):=by
 obtain⟨f,fd,hm,F,hbd,hc⟩:=h;obtain⟨oc,od,kV,doc,pm,an,cdv,ct,osl,rfl,lk,hcd⟩:=F.ex;have e:cdv=.ref (cOf K x):=hc;subst e;exact⟨f,_,hm,F.kp,hbd,fok lk hcd S (hb f)⟩
theorem zgp{P:Program}{w:World}{K:PySem.W.Frag}{mg mb:Str->Option Value}{k:Nat}{fa a:Addr}{fd:FuncData}{x:Str}{s₁:Shared}{vs:List Value}{ns:List Int}{ca:Nat->Addr}{tx:Tx}{fn:List D->M D}{ob:Obj}
  (KX:K.In s₁.heap) (hns:s₁.heap.Ns mainGlobals mg) (hb:s₁.heap.Ns builtinsNs mb) (hbb:∀ x:Str,x ≠ "__name__"->mb x=bootBuiltins x) (hlim:s₁.heap.NoLimit) (hg:s₁.gens=#[])
  (ha:s₁.heap.get? a=some { cls:=.type "list",data:=.seq vs.toArray }) (hi:IntsAre vs ns) (hl:ns.length<=63) (hr:Room k callerA)
  (hK:PySem.W.noTabs K=true) (hbo:s₁.heap.get? tx.bm=some ob) (hbc:ob.cls=.type "module") (hbd:ob.dict=some builtinsNs) (hbp:ob.data=.plain) (hbK:K.lookup tx.bm=none)
  (hT:∀ t∈tx.tbs,∃ c,PySem.W.CodeHd s₁.heap c t.P/\s₁.heap.get? t.P=some (PySem.W.tabObj #[]))
  (F:∀ base:Heap,FnOk P w K mg base (CXE P w) k fa fd [x] (spF ⟨K,ca,tx⟩ 1 fn)) (hbind:∀ (s:Shared) (u:Value),BindsTo s fd ⟨[u],[]⟩ [(x,u)])
  (tr:∀ ns:List Int,ns.length<=63->∃ σ,fn [.scr ns] []=.ok (.bl true) σ) :
  codeAny (model P w) callerA (.call (.ref fa) ⟨[.ref a],[]⟩) (fun r s'=>r=.ok (.ret (.bool true))/\OldK s₁.heap s'.heap/\s'.os=s₁.os/\AllBare s'.gens) s₁:=by
 have rv:=zh4 hi;have lenV:=hi.length;have hl2:ns.length<=sizeLine:=Nat.le_trans hl (by decide);have core:∀ fl:Bool,(fl=true->K.lookup a=none)->(fl=false->K.lookup a=some { cls:=.type "list",data:=.seq vs.toArray })->
   codeAny (model P w) callerA (.call (.ref fa) ⟨[.ref a],[]⟩) (fun r s'=>r=.ok (.ret (.bool true))/\OldK s₁.heap s'.heap/\s'.os=s₁.os/\AllBare s'.gens) s₁:=by
  intro fl hf1 hf2;obtain⟨H,c1,c2,c3,c4⟩:∃ H:Hp,(∀ t∈tx.tbs,H t.P=some (.tbl #[]))/\(H tx.bm=some (.frz ob (.ext (ygt tx.bm))))/\(fl=true->H a=some (.frz { cls:=.type "list",data:=.seq vs.toArray } (.lst (ns.map V.int))))/\
    ∀ b u,H b=some u->(u=.tbl #[]/\∃ t∈tx.tbs,b=t.P)\/(b=tx.bm/\u=.frz ob (.ext (ygt tx.bm)))\/(b=a/\fl=true/\u=.frz { cls:=.type "list",data:=.seq vs.toArray } (.lst (ns.map V.int))):=by
   refine⟨fun b=>if b=tx.bm then some (.frz ob (.ext (ygt tx.bm)))else if b=a then (if fl=true then some (.frz { cls:=.type "list",data:=.seq vs.toArray } (.lst (ns.map V.int)))else none)else if b∈tx.tbs.map (·.P)then some (.tbl #[])else none,fun t ht=>?_,if_pos rfl,fun h=>?_,fun b u e=>?_⟩
   ·obtain⟨c,_,hP⟩:=hT t ht;have n1:t.P≠tx.bm:=fun z=>by rw[z,hbo]at hP;cases hP;cases hbc
    have n2:t.P≠a:=fun z=>by rw[z,ha]at hP;cases hP
    dsimp only;rw[if_neg n1,if_neg n2,if_pos (List.mem_map.mpr ⟨t,ht,rfl⟩)]
   ·have n1:a≠tx.bm:=fun z=>by rw[z,hbo]at ha;cases ha;cases hbp
    dsimp only;rw[if_neg n1,if_pos rfl,if_pos h]
   ·dsimp only at e;split at e
    ·next hb1=>cases e;exact .inr (.inl ⟨hb1,rfl⟩)
    ·split at e
     ·next hb2=>
      split at e
      ·next h=>cases e;exact .inr (.inr ⟨hb2,h,rfl⟩)
      ·cases e
     ·split at e
      ·next hm=>cases e;obtain⟨t,ht,rfl⟩:=List.mem_map.mp hm;exact .inl ⟨rfl,t,ht,rfl⟩
      ·cases e
  have hok:HOk P w H s₁.heap:=fun b u e=>by
   rcases c4 b u e with⟨rfl,t,ht,rfl⟩|⟨rfl,rfl⟩|⟨rfl,_,rfl⟩
   ·obtain⟨c,_,hP⟩:=hT t ht;exact hP
   ·exact⟨hbo,⟨ob,hbo,hbc,hbd,hbp⟩,⟨ob,hbo⟩,fun h1 h2 ⟨o,e1,e2⟩ k=>⟨o,k _ e1,e2⟩⟩
   ·exact⟨ha,by rw[List.length_map];exact hl2,vs,_,rv,ha⟩
  have base_of:∀ {b:Addr} {o:Obj},s₁.heap.get? b=some o->H b=none->(yiz s₁.heap H).get? b=some o:=fun e n=>zkf e n;have noA:∀ {b:Addr} {o:Obj} {es:Array DictEntry} {ep:Nat},s₁.heap.get? b=some o->o.data=.dict es ep->H b=none:=fun {b o es ep} e d=>by
   cases q:H b with
   |none=>rfl
   |some u=>
    rcases c4 b u q with⟨_,t,ht,rfl⟩|⟨rfl,_⟩|⟨rfl,_,_⟩
    ·obtain⟨c,_,hP⟩:=hT t ht;rw[hP]at e;cases e;cases d
    ·rw[hbo]at e;cases e;rw[hbp]at d;cases d
    ·rw[ha]at e;cases e;cases d
  have nsK:∀ {b:Addr} {m:Str->Option Value},s₁.heap.Ns b m->(yiz s₁.heap H).Ns b m:=fun {b m} ⟨o,es,ep,e,d,r⟩=>⟨o,es,ep,base_of e (noA e d),d,r⟩
  have hKb:K.In (yiz s₁.heap H):=fun b o e=>base_of (KX b o e) (by
   cases q:H b with
   |none=>rfl
   |some u=>
    rcases c4 b u q with⟨_,t,ht,rfl⟩|⟨rfl,_⟩|⟨rfl,h,_⟩
    ·obtain⟨c,_,hP⟩:=hT t ht;have e2:=KX _ _ e;rw[hP]at e2;cases e2;have h2:=List.all_eq_true.mp hK (t.P,_) (PySem.W.mem_of_lookupK e);exact absurd (show false=true from h2) Bool.false_ne_true
    ·rw[hbK]at e;cases e
    ·rw[hf1 h]at e;cases e)
  have hM:Mod K mg (yiz s₁.heap H):=⟨hKb,nsK hns,⟨mb,nsK hb,hbb⟩,let ⟨mc,h1,h2⟩:=hlim;⟨mc,nsK h1,h2⟩⟩
  have e0:Env0 P w K mg (yiz s₁.heap H) callerA [] s₁ H:=⟨rfl,hM,fun b o e=>zsd e,Nat.le_of_eq (zgg _ _),trivial,fun b hb=>absurd (show b∈([]:List Addr)from hb) (by simp),hok,.of_eq hg⟩
  have hS:Scr K H a ns:=by
   cases fl with
   |true=>exact .inl ⟨_,c3 rfl⟩
   |false=>exact .inr ⟨_,vs.toArray,_,hf2 rfl,rfl,rfl,rfl,by rw[List.size_toArray,lenV];exact hl2,by simpa using rv⟩
  obtain⟨σ,ef⟩:=tr ns hl;have hsp:spF ⟨K,ca,tx⟩ 1 fn [.ref a] H (fun v _=>v=.bl true) fun _ _ _=>False:=by
   refine⟨[],[],[.scr ns],yhh.cons (by rw[Rep];exact⟨a,rfl,hS⟩) yhh.nil,rfl,⟨rfl,List.nodup_nil,fun n o q=>by simp at q,fun t ht=>⟨⟨by simp,ob,c2⟩,by simp,#[],c1 t ht,.inl rfl⟩⟩,?_⟩;rw[ef];intro μ' v H' _ _ r;rw[Rep]at r;exact r
  refine codeAny_mono ((F _).run callerA [] s₁ H ⟨[.ref a],[]⟩ [.ref a] [.ref a] _ _ hr e0 (hbind s₁ (.ref a)) (.cons rfl .nil) hsp) fun r s' h=>?_;cases r with
  |error e=>obtain⟨_,_,_,_,z⟩:=h;exact z.elim
  |ok f2=>
   cases f2 with
   |next=>exact False.elim h
   |brk=>exact False.elim h
   |cont=>exact False.elim h
   |ret u=>
    obtain⟨v,H',os,bare,un,hok',r',q⟩:=h;have q':v=.bl true:=q;subst q';obtain rfl:u=Value.bool true:=r';have same:∀ b o,s₁.heap.get? b=some o->(¬ ∃ t∈tx.tbs,b=t.P)->s'.heap.get? b=some o:=fun b o e n=>by
     cases q:H b with
     |none=>exact un.keep b o e q (by intro z;exact absurd (show b∈([]:List Addr)from z) (by simp)) (by simp)
     |some u=>
      rcases c4 b u q with⟨_,z⟩|⟨rfl,rfl⟩|⟨rfl,_,rfl⟩
      ·exact absurd z n
      ·obtain⟨e2,_⟩:=hok' _ _ (un.frzs _ _ _ q);rw[hbo]at e;cases e;exact e2
      ·obtain⟨e2,_⟩:=hok' _ _ (un.frzs _ _ _ q);rw[ha]at e;cases e;exact e2
    have grown:∀ t∈tx.tbs,∃ ps,s'.heap.get? t.P=some (PySem.W.tabObj ps):=fun t ht=>by
     obtain⟨more,z⟩:=un.tbls _ _ (c1 t ht);exact⟨_,hok' _ _ z⟩
    refine⟨rfl,⟨fun b o e=>?_,fun b o e=>?_⟩,os,bare⟩
    ·by_cases hb:∃ t∈tx.tbs,b=t.P
     ·obtain⟨t,ht,rfl⟩:=hb;obtain⟨c,hc,hP⟩:=hT t ht;obtain⟨ps,hps⟩:=grown t ht;rw[hP]at e;cases e;exact .inr (.inl ⟨(hc.tab hP).isCodeTable,rfl,#[],ps,rfl,by rw[Array.empty_append];exact hps⟩)
     ·exact .inl (same b o e hb)
    ·by_cases hb:∃ t∈tx.tbs,b=t.P
     ·obtain⟨t,ht,rfl⟩:=hb;obtain⟨ps,hps⟩:=grown t ht;exact⟨_,hps⟩
     ·exact⟨o,same b o e hb⟩
 cases hk:K.lookup a with
 |some o=>
  have e:=KX a o hk;rw[ha]at e;cases e;exact core false (fun h=>by cases h) fun _=>hk
 |none=>exact core true (fun _=>hk) fun h=>by cases h
theorem ygo{l:PySem.W.OpenLaw}{q:Program}{loose:List Str}{XP:(Str->Option Value)->Heap->Prop}{YP:World->Heap->Prop}{d:DefRec}{K:Params->PySem.W.Frag}{k:Nat}{x:Str}{fn:List D->M D}(xs:List Str)
  (hn:l.most=some 63) (hdf:d.params.defaults=[]) (hr:Room k callerA) (hY:∀ (w:World) (h:Heap),YP w h->(K w.params).In h)
  (hK:∀ w:World,ybm (K w.params) xs=true) (hrec:(xs.all fun x=>((recsOf q).find? fun e=>e.name == x).isSome)=true)
  (F:∀ (w:World) (mg:Str->Option Value) (h:Heap),(K w.params).In h->h.Ns mainGlobals mg->Tabs (K w.params) xs->∃ ca tbs,(∀ t∈tbs,∃ x∈xs,t.P=POf (K w.params) x)/\OkL ⟨K w.params,ca,⟨tbs,yh0 (K w.params)⟩⟩ l.prog w mg k d.name [x] fn)
  (tr:∀ ns:List Int,ns.length<=63->∃ σ,fn [.scr ns] []=.ok (.bl true) σ) :
  PySem.W.WalkO q loose XP YP l.row.toRowW d [] (fun f vs=>PySem.call f vs):=by
 refine Att.attach_call hn hdf fun w s₀ s₁ mg mb fa o pm cd doc a vs ns G Y ho hd hcd hmg hobj hints hlen hg=>?_;have KX:=hY w _ Y;have TT:=zuy (hK w);obtain⟨ca,tbs,hP,f0,fd0,g1,g3,g4⟩:=F w mg _ KX G.T.g TT;rw[hmg]at g1;cases g1;obtain⟨bm,ob,b1,b2,b3,b4,b5,b6⟩:=G.T.bmain;have eb:=PySem.W.mg_of KX G.T.g TT.bm;rw[b1]at eb;cases eb;refine zgp (tx:=⟨tbs,yh0 (K w.params)⟩) (ca:=ca) (ob:=ob) KX G.T.g G.T.b G.T.builtins G.T.nolimit hg hobj hints hlen hr TT.no b3 b4 b5 b6 TT.bk (fun t ht=>?_) g4 (fun s u=>.of_eq (g3 [u] rfl)) tr;obtain⟨y,hy,e⟩:=hP t ht;have z:=List.all_eq_true.mp hrec y hy;obtain⟨d',hd'⟩:=Option.isSome_iff_exists.mp z;have:=PySem.W.tab_of G.T KX hd' (TT.tab y hy);rw[e];exact⟨_,this.1,this.2⟩
theorem ygj{a b:Tab}{bm:Addr}(h:(a.P == b.P)=false):∀ t∈(⟨[a,b],bm⟩:Tx).tbs,∀ t'∈(⟨[a,b],bm⟩:Tx).tbs,t'.P=t.P->t'=t:=by
 have n:a.P≠b.P:=by simpa using h
 intro t ht t' ht' e;simp only[List.mem_cons,List.not_mem_nil,or_false]at ht ht';rcases ht with rfl|rfl<;>rcases ht' with rfl|rfl
 ·rfl
 ·exact absurd e.symm n
 ·exact absurd e n
 ·rfl
def zr4(x:D)(xs:List D):M D:=fun σ=>match x,xs with
 | .ref n,[y]=>(match yej σ n with
  |some ys=>(match yja σ y with
   |some zs=>if ys.length+zs.length<=cap then .ok .non (σ.set n (.lst (ys++zs)))else .bad
   |none=>.bad)
  |none=>.bad)
 |_,_=>.bad
section
variable{T:Tb}
theorem zfc:ycc T zs3 zr4:=by
 intro E μ H σ x xs v vs Q r p q h;cases x with
 |ref n=>
  match xs with
  |[]=>exact h.elim
  |[y]=>
   rw[yhh]at q;obtain⟨w,z,rfl,q1,q2⟩:=q;rw[yhh]at q2;subst q2;unfold zr4 at h;cases el:yej σ n with
   |none=>simp only[el]at h;exact h.elim
   |some ys=>
    simp only[el]at h;cases em:yja σ y with
    |none=>simp only[em]at h;exact h.elim
    |some zs=>
     simp only[em]at h;by_cases hc:ys.length+zs.length<=cap
     ·rw[if_pos hc]at h;obtain⟨a,vs,rfl,hn,h1,h2⟩:=r.lst p el;obtain⟨b,us,rfl,h3,h4⟩:=r.ls q1 em;have wr:=r.write (o:=.lst (vs++us)) (ob:=.lst (ys++zs)) hn ⟨_,zne,by
       have ex:Ext μ H μ (upd H a (.lst (vs++us))):=zf9 (List.mem_of_getElem? hn) h1 (fun _ z=>by cases z) (fun _ _ z=>by cases z);exact yhh.append (yhh.mono ex _ _ h2) (yhh.mono ex _ _ h4)⟩
      exact⟨a,b,vs,us,rfl,rfl,h1,h3,by rw[<-h2.length,<-h4.length];exact zv1 hc,h _ _ _ wr.1 wr.2 (by rw[Rep])⟩
     ·rw[if_neg hc]at h;exact h.elim
  |_::_::_=>exact h.elim
 |_=>exact h.elim
end
end L4
set_option maxHeartbeats 0
namespace K34
open PySem PySem.Spec PyProof.Rows L2 L4
def top(i:Nat):Stmt:=PySem.Challenge.pw_sidebook_k34_whole_a_look_loses_nothing.main.body.getD i (.Pass ⟨0,0,0,0⟩)
def tx0(K:PySem.W.Frag):Tab:=⟨POf K "least_fate",70,35, "least_fate.<locals>.<lambda>"⟩
def tx1(K:PySem.W.Frag):Tab:=⟨POf K "paper",85,27, "paper.<locals>.<lambda>"⟩
def tx(K:PySem.W.Frag):Tx:=⟨[tx0 K,tx1 K],yh0 K⟩
theorem zrn(K:PySem.W.Frag):tx0 K∈(tx K).tbs:=(.head _)
theorem zro(K:PySem.W.Frag):tx1 K∈(tx K).tbs:=(.tail _ (.head _))
theorem ygg(K:PySem.W.Frag):∀ t∈(tx K).tbs,∃ x∈[("least_fate" : Str),("paper" : Str)],t.P=POf K x:=by
 intro t ht;have h:t∈[tx0 K,tx1 K]:=ht;simp only[List.mem_cons,List.not_mem_nil,or_false]at h;rcases h with rfl|rfl
 ·exact⟨"least_fate",by simp,rfl⟩
 ·exact⟨"paper",by simp,rfl⟩
structure Txt(K:PySem.W.Frag)(mg:Str->Option Value)(ca:Nat->Addr):Prop where
 f__law_cell_at:yb6 K mg "_law_cell_at" (top 22) ["_law_script", "_law_k"]
 f__law_mixed:yb6 K mg "_law_mixed" (top 23) ["_law_cell", "_law_k"]
 f__law_amount:yb6 K mg "_law_amount" (top 24) ["_law_number"]
 f__law_tie:yb6 K mg "_law_tie" (top 25) ["_law_number", "_law_word", "_law_at"]
 f__law_stand:yb6 K mg "_law_stand" (top 26) ["_law_cell", "_law_number", "_law_at"]
 f__law_pot:yb6 K mg "_law_pot" (top 27) ["_law_cell", "_law_at", "_law_k_pot"]
 f__law_view:yb6 K mg "_law_view" (top 28) ["_law_script"]
 f_shown_in_time:yb6 K mg "shown_in_time" (top 1) ["tie", "shown"]
 f_lot_of_paid:yb6 K mg "lot_of_paid" (top 5) ["view", "seen", "tie"]
 f_lot_of_due:yb6 K mg "lot_of_due" (top 6) ["view", "seen", "tie"]
 f_lot_of:yb6 K mg "lot_of" (top 7) ["view", "pot", "tie"]
 f_read_stand:yb6 K mg "read_stand" (top 8) ["view", "pot", "one"]
 f_read_pots:yb6 K mg "read_pots" (top 9) ["view"]
 f_all_choices:yb6 K mg "all_choices" (top 10) ["readings"]
 f_lots_by_word:yb6 K mg "lots_by_word" (top 12) ["reads"]
 f_fates_of:yb6 K mg "fates_of" (top 13) ["lots"]
 f_comes_by_fate:yb6 K mg "comes_by_fate" (top 14) ["lot", "fate", "every"]
 f_sum_by_fate:yb6 K mg "sum_by_fate" (top 15) ["lots", "fate", "every"]
 f_least_fate:zvd K mg "least_fate" (top 16) ["lots", "every"]
 f_sum_of:yb6 K mg "sum_of" (top 17) ["reads", "by_word", "fates", "every"]
 f_least_paper:yb6 K mg "least_paper" (top 18) ["reads", "chosen", "every"]
 f_chosen_readings:yb6 K mg "chosen_readings" (top 11) ["readings", "chosen"]
 f_paper:zvd K mg "paper" (top 19) ["view"]
 f_worth:yb6 K mg "worth" (top 20) ["view"]
 f_View___init__:HasM K (ca 0) "__init__" "View.__init__" (yeu (top 4) 0) ["self", "every", "look", "words", "pots"] (ca 1)
 f__law_seen_more:yb6 K mg "_law_seen_more" (top 29) ["_law_pot_here", "_law_cell", "_law_at", "_law_late"]
 f__law_fewer:yb6 K mg "_law_fewer" (top 31) ["_law_pot_here", "_law_cell"]
 f__law_shows:yb6 K mg "_law_shows" (top 30) ["_law_pot_here", "_law_words", "_law_late", "_law_every"]
 f_law:yb6 K mg "law" (top 32) ["_law_script"]
 n_dict:mg "dict" = none
 n_int:mg "int" = none
 n_len:mg "len" = none
 n_list:mg "list" = none
 n_max:mg "max" = none
 n_min:mg "min" = none
 n_range:mg "range" = none
 n_sum:mg "sum" = none
 n_tuple:mg "tuple" = none
 n_zip:mg "zip" = none
 c_FIRM:GlT K mg "FIRM" ["won", "sure", "back"]
 cl_View:L2.Cls K (ca 0)
 na_View_pots:L2.zvg K (ca 0) "pots"
 na_View_last_look:L2.zvg K (ca 0) "last_look"
 na_View_known:L2.zvg K (ca 0) "known"
 na_View_every:L2.zvg K (ca 0) "every"
 m_View:mg "View" = some (.ref (ca 0))
 mk_View:L2.Mk K (ca 0) (ca 1)
 tb:Tabs K ["least_fate", "paper"]
 bmg:mg "__builtins__" = some (.ref (yh0 K))
 tinj:∀ t∈(tx K).tbs,∀ t'∈(tx K).tbs,t'.P=t.P->t'=t
section
variable{P:Program}{w:World}{K:PySem.W.Frag}{mg:Str->Option Value}{base:Heap}{ca:Nat->Addr}
theorem scD{N P:List Str}{sc:Scope}(a:sc.kind=.function)(b:sc.isCoroutine=false)(c:sc.isGenerator=false)(h:N.Nodup/\N.take P.length=P/\(∀ x∈P,sc.names.lookup x=some .local\/sc.names.lookup x=some .cell)/\∀ y∈sc.names,y.2≠.free):FnScope N P sc:=⟨a,b,c,h.1,h.2.1,h.2.2.1,h.2.2.2⟩
abbrev BD(x q:Str)(s:Stmt)(ps:List Str):Prop:=∀ (kV doc pm:Value) (an:Option Addr) (cdv ct:Value) (us:List Value),us.length=ps.length->bindArgs (PySem.W.fnOf x q (zo3 s) (zo4 s) (ziy s) .none kV doc pm an cdv ct) ⟨us,[]⟩=pure (ps.zip us)
abbrev zbk:Stmt:=top 22
noncomputable def zbc:Ev->M Fl:=
 (ykq (sIf (eT (yid oLt (yij 1) (yc6 yjq (yci (yij 0) yhr)))) (ykp (yid oIx (yij 0) (yij 1))) ykn)
 (ykp (eC (.int 0))))
noncomputable def f__law_cell_at:List D->M D:=hide fun ds=>frz (run 2 zbc ds)
theorem za5:FnScope ["_law_script", "_law_k"] ["_law_script", "_law_k"] (ziy zbk):=scD rfl rfl rfl (by decide +kernel)
theorem zau:BD "_law_cell_at" "_law_cell_at" zbk ["_law_script", "_law_k"]:=
 fun _ _ _ _ _ _ us hl=>match us,hl with|[_,_],_=>rfl
theorem za0(Xt:Txt K mg ca):OkF ⟨K,ca,tx K⟩ P w mg base 1 "_law_cell_at" ["_law_script", "_law_k"] f__law_cell_at:=
 OkF.hide (OkF.frz (yfa Xt.f__law_cell_at za5 fun _ _ _ _ _ _ _ hr=>
  (zj3 (yds (zxw yfe ybe (zxe 1) (zjf zcr (zuk rfl) rfl Xt.n_len PySem.boot_len (zph (zxe 0) zw2)) (zy5 _)) (zqa (zxu (yde yi3 (ybc rfl) (zxe 0) (zxe 1) (fun _ _=>rfl)))) zp9)
  (zqa (zxu zw7)))))
abbrev zc5:Stmt:=top 23
noncomputable def zcu:Ev->M Fl:=
 (ykq (sIf (eT (yid oEq (yid yjr (yij 0) (eC (.int 2))) (eC (.int 0)))) (ykq (ykr 2 (yid yjk (yij 0) (eC (.int 2))))
 (ykq (ykm (ykz (yij 1)) (tgN 3) (ykr 2 (yid ye2 (yij 2) (eC (.int 2147483647)))))
 (sIf (bOr (eT (yid oEq (yij 1) (eC (.int 0)))) (eT (yid oGt (yij 2) (eC (.int 0))))) (ykp (yid yjr (yij 2) (eC (.int 2147483647)))) ykn))) ykn)
 (ykq (ykr 4 (yid yjr (yid yjs (yid yjg (yid yjg (yij 0) (yid yjs (eC (.int 7919)) (yij 1))) (eC (.int 1))) (eC (.int 48271))) (eC (.int 2147483647))))
 (ykq (ykr 4 (yid yjr (yid yjs (yij 4) (yid yjg (yid yjk (yij 4) (eC (.int 1009))) (eC (.int 69621)))) (eC (.int 2147483647))))
 (ykp (yid yjr (yid yjs (yij 4) (yid yjg (yid yjk (yij 4) (eC (.int 2003))) (eC (.int 40692)))) (eC (.int 2147483629)))))))
noncomputable def f__law_mixed:List D->M D:=hide fun ds=>frz (run 5 zcu ds)
theorem zch:FnScope ["_law_cell", "_law_k", "_law_left", "_law_j", "_law_number"] ["_law_cell", "_law_k"] (ziy zc5):=scD rfl rfl rfl (by decide +kernel)
theorem zbs:BD "_law_mixed" "_law_mixed" zc5 ["_law_cell", "_law_k"]:=
 fun _ _ _ _ _ _ us hl=>match us,hl with|[_,_],_=>rfl
theorem zb5(Xt:Txt K mg ca):OkF ⟨K,ca,tx K⟩ P w mg base 1 "_law_mixed" ["_law_cell", "_law_k"] f__law_mixed:=
 OkF.hide (OkF.frz (yfa Xt.f__law_mixed zch fun _ _ _ _ _ _ _ hr=>
  (zj3 (yds (zxw (zzm (hu9 hr)) ykx (ydh zzp zul (zxe 0) zw7) zw7 (zy5 _)) (zj3 (zxv (i:=2) zch.nd rfl (Or.inl rfl) (ydh zsg zui (zxe 0) zw7))
  (zj3 (zxt zhc rfl (zjn rfl Xt.n_range (zxe 1)) (zpo (i:=3) zch.nd rfl (Or.inl rfl)) (zqa (zxv (i:=2) zch.nd rfl (Or.inl rfl) (ydh zlu zmy (zxe 2) zw7))))
  (zqa (yds (L2.PW.pt (ydt (zxw (zzm (hu9 hr)) ykx (zxe 1) zw7 (zy5 _)) (zx1 (zxw yfc yba (zxe 2) zw7 (zy5 _))))) (zqa (zxu (ydh zzp zul (zxe 2) zw7))) zp9)))) zp9)
  (zj3 (zxv (i:=4) zch.nd rfl (Or.inl rfl) (ydh zzp zul (ydh zzq zum (ydh (zse rfl) ykx (ydh (zse rfl) ykx (zxe 0) (ydh zzq zum zw7 (zxe 1))) zw7) zw7) zw7))
  (zj3 (zxv (i:=4) zch.nd rfl (Or.inl rfl) (ydh zzp zul (ydh zzq zum (zxe 4) (ydh (zse rfl) ykx (ydh zsg zui (zxe 4) zw7) zw7)) zw7))
  (zqa (zxu (ydh zzp zul (ydh zzq zum (zxe 4) (ydh (zse rfl) ykx (ydh zsg zui (zxe 4) zw7) zw7)) zw7))))))))
abbrev zcb:Stmt:=top 24
noncomputable def zbz:Ev->M Fl:=
 (ykq (sIf (eT (yid oEq (yid yjr (yij 0) (eC (.int 3))) (eC (.int 0)))) (ykp (yid yjg (eC (.int 1)) (yid yjr (yid yjk (yij 0) (eC (.int 3))) (eC (.int 9))))) ykn)
 (ykp (yid yjg (eC (.int 1)) (yid yjr (yij 0) (yid yjt (eC (.int 10)) (eC (.int 12)))))))
noncomputable def f__law_amount:List D->M D:=hide fun ds=>frz (run 1 zbz ds)
theorem zbm:FnScope ["_law_number"] ["_law_number"] (ziy zcb):=scD rfl rfl rfl (by decide +kernel)
theorem za7:BD "_law_amount" "_law_amount" zcb ["_law_number"]:=
 fun _ _ _ _ _ _ us hl=>match us,hl with|[_],_=>rfl
theorem zbe(Xt:Txt K mg ca):OkF ⟨K,ca,tx K⟩ P w mg base 1 "_law_amount" ["_law_number"] f__law_amount:=
 OkF.hide (OkF.frz (yfa Xt.f__law_amount zbm fun _ _ _ _ _ _ _ hr=>
  (zj3 (yds (zxw (zzm (hu9 hr)) ykx (ydh zzp zul (zxe 0) zw7) zw7 (zy5 _)) (zqa (zxu (ydh (zse rfl) ykx zw7 (ydh zzp zul (ydh zsg zui (zxe 0) zw7) zw7)))) zp9)
  (zqa (zxu (ydh (zse rfl) ykx zw7 (ydh zzp zul (zxe 0) (ydh zzs zun zw7 zw7))))))))
abbrev ze5:Stmt:=top 25
noncomputable def zek:Ev->M Fl:=
 (ykp (yii (yci (yid yjr (yij 0) (eC (.int 2))) (yci (eFn 1 f__law_amount [] (yci (yid yjk (yij 0) (eC (.int 2))) yhr)) (yci (yij 1) (yci (yc6 ye8 (yci (eC (.int 0)) (yci (yid yjv (yid yjg (yij 2) (yid yjr (yid yjk (yij 0) (eC (.int 7))) (eC (.int 13)))) (eC (.int 4))) yhr))) yhr))))))
noncomputable def f__law_tie:List D->M D:=hide fun ds=>frz (run 3 zek ds)
theorem zd4:FnScope ["_law_number", "_law_word", "_law_at"] ["_law_number", "_law_word", "_law_at"] (ziy ze5):=scD rfl rfl rfl (by decide +kernel)
theorem zdg:BD "_law_tie" "_law_tie" ze5 ["_law_number", "_law_word", "_law_at"]:=
 fun _ _ _ _ _ _ us hl=>match us,hl with|[_,_,_],_=>rfl
theorem zdv(Xt:Txt K mg ca):OkF ⟨K,ca,tx K⟩ P w mg base 2 "_law_tie" ["_law_number", "_law_word", "_law_at"] f__law_tie:=
 OkF.hide (OkF.frz (yfa Xt.f__law_tie zd4 fun _ _ _ _ _ _ _ hr=>
  (zqa (zxu (zxd (zph (ydh zzp zul (zxe 0) zw7) (zph (zjg (zbe Xt) rfl (hr.mono (by decide)) rfl (zph (ydh zsg zui (zxe 0) zw7) zw2)) (zph (zxe 1) (zph (zjf (zfx rfl) zm1 rfl Xt.n_max boot_max (zph zw7 (zph (ydh zzt zuo (ydh (zse rfl) ykx (zxe 2) (ydh zzp zul (ydh zsg zui (zxe 0) zw7) zw7)) zw7) zw2))) zw2)))))))))
abbrev zc7:Stmt:=top 26
noncomputable def zcw:Ev->M Fl:=
 (ykq (ykr 3 (yih yhr))
 (ykq (ykr 4 (yid oEq (yid yjr (yid yjk (yij 0) (eC (.int 4))) (eC (.int 8))) (eC (.int 3))))
 (ykq (ykm (ykz (yid oIx (eLv (yci (yid yjr (yij 0) (eC (.int 4))) (yci (eC (.int 8)) yhr))) (yc6 ye5 (yci (yij 4) yhr)))) (tgN 5) (ykq (ykr 6 (eFn 2 f__law_mixed [] (yci (yid yjk (yij 0) (eC (.int 4))) (yci (yij 5) yhr))))
 (ykq (ykr 7 (yid yjr (yij 6) (yid oIx (eLv (yci (eC (.int 4)) (yci (eC (.int 7)) yhr))) (yc6 ye5 (yci (yij 4) yhr)))))
 (sIf (yhx (eT (yid oLt (yc6 yjq (yci (yij 3) yhr)) (eC (.int 6)))) (eT (yid oEq (yie (eLC (yk0 (yij 3)) [7] (tgN 0) (eT (yid oEq (yid oIx (yij 0) (eC (.int 2))) (yij 1))) (yij 0))) (eLv yhr)))) (ykk (yc9 zrz (yij 3) (yci (eFn 3 f__law_tie [] (yci (yid yjk (yij 6) (eC (.int 4))) (yci (yij 7) (yci (yij 2) yhr)))) yhr))) ykn))))
 (ykq (ykr 6 (eFn 2 f__law_mixed [] (yci (yid yjk (yij 0) (eC (.int 4))) (yci (eC (.int 9)) yhr))))
 (ykp (yii (yci (yij 1) (yci (yii (yci (yid yjs (yid yjr (yij 6) (eC (.int 3))) (yid yjr (yid yjk (yij 6) (eC (.int 3))) (yid yjt (eC (.int 10)) (eC (.int 12))))) (yci (yid yjr (yid yjk (yij 6) (eC (.int 7))) (yid yjt (eC (.int 10)) (eC (.int 12)))) yhr))) (yci (yc6 zze (yci (yij 3) yhr)) yhr)))))))))
noncomputable def f__law_stand:List D->M D:=hide fun ds=>frz (run 8 zcw ds)
theorem zcj:FnScope ["_law_cell", "_law_number", "_law_at", "_law_ties", "_law_many", "_law_k", "_law_part", "_law_word"] ["_law_cell", "_law_number", "_law_at"] (ziy zc7):=scD rfl rfl rfl (by decide +kernel)
theorem zbu:BD "_law_stand" "_law_stand" zc7 ["_law_cell", "_law_number", "_law_at"]:=
 fun _ _ _ _ _ _ us hl=>match us,hl with|[_,_,_],_=>rfl
theorem zb7(Xt:Txt K mg ca):OkF ⟨K,ca,tx K⟩ P w mg base 3 "_law_stand" ["_law_cell", "_law_number", "_law_at"] f__law_stand:=
 OkF.hide (OkF.frz (yfa Xt.f__law_stand zcj fun _ _ _ _ _ _ _ hr=>
  (zj3 (zxv (i:=3) zcj.nd rfl (Or.inl rfl) (zw9 zw2))
  (zj3 (zxv (i:=4) zcj.nd rfl (Or.inl rfl) (zw4 (zzm (hu9 hr)) ykx (ydh zzp zul (ydh zsg zui (zxe 0) zw7) zw7) zw7 (zy5 _)))
  (zj3 (zxt zhc rfl (zjn rfl Xt.n_range (yde yi3 (ybc rfl) (ydg (zph (ydh zzp zul (zxe 0) zw7) (zph zw7 zw2))) (zga zfw zmz rfl Xt.n_int boot_int (zph (zxe 4) zw2)) (fun _ _=>rfl))) (zpo (i:=5) zcj.nd rfl (Or.inl rfl)) (zj3 (zxv (i:=6) zcj.nd rfl (Or.inl rfl) (zjg (zb5 Xt) rfl (hr.mono (by decide)) rfl (zph (ydh zsg zui (zxe 0) zw7) (zph (zxe 5) zw2))))
  (zj3 (zxv (i:=7) zcj.nd rfl (Or.inr rfl) (ydh zzp zul (zxe 6) (yde yi3 (ybc rfl) (ydg (zph zw7 (zph zw7 zw2))) (zga zfw zmz rfl Xt.n_int boot_int (zph (zxe 4) zw2)) (fun _ _=>rfl))))
  (zqa (yds (L2.PW.pt (zx0 (zxw yfe ybe (zjf zcr (zuk rfl) rfl Xt.n_len PySem.boot_len (zph (zxe 3) zw2)) zw7 (zy5 _)) (zqc (zxw (zzm (hu9 hr)) ykx (zw6 (ydf (x:="_law_tie_here") (M':=["_law_word"]) (ix:=[7]) rfl ⟨rfl,rfl,rfl,rfl,rfl,rfl⟩ (zxg rfl (zxe 3)) (fun _ _ _ _ _=>zpo (i:=0) (by show List.Nodup (("_law_tie_here"::["_law_word"]):List Str);decide +kernel) rfl (Or.inl rfl)) (fun _ _ _ _ _=>zpr (zxw (zzm (hu9 hr)) ykx (yde yi3 (ybc rfl) (zxe 0) zw7 (fun _ _=>rfl)) (zxe 1) (zy5 _))) (fun _ _ _ _ _=>(zxe 0)))) (ydg zw2) (zy5 _))))) (zqa (zp5 (zpm PySem.F.plainAttrs_list PySem.F.slot_list_append PySem.F.type_list_append zg1 zfa (zxe 3) (zph (zjg (zdv Xt) rfl (hr.mono (by decide)) rfl (zph (ydh zsg zui (zxe 6) zw7) (zph (zxe 7) (zph (zxe 2) zw2)))) zw2)))) zp9)))))
  (zj3 (zxv (i:=6) zcj.nd rfl (Or.inl rfl) (zjg (zb5 Xt) rfl (hr.mono (by decide)) rfl (zph (ydh zsg zui (zxe 0) zw7) (zph zw7 zw2))))
  (zqa (zxu (zxd (zph (zxe 1) (zph (zxd (zph (ydh zzq zum (ydh zzp zul (zxe 6) zw7) (ydh zzp zul (ydh zsg zui (zxe 6) zw7) (ydh zzs zun zw7 zw7))) (zph (ydh zzp zul (ydh zsg zui (zxe 6) zw7) (ydh zzs zun zw7 zw7)) zw2))) (zph (zga zby (zhw rfl) rfl Xt.n_tuple boot_tuple (zph (zxe 3) zw2)) zw2))))))))))))
abbrev ze4:Stmt:=top 27
noncomputable def zej:Ev->M Fl:=
 (ykq (ykr 3 (yih (yci (eFn 3 f__law_stand [] (yci (yid yjk (yij 0) (eC (.int 4))) (yci (eC (.int 3)) (yci (yij 1) yhr)))) yhr)))
 (ykq (ykm (ykz (yid yjg (yid oIx (eLv (yci (eC (.int 0)) (yci (eC (.int 1)) (yci (eC (.int 0)) (yci (eC (.int 2)) yhr))))) (yid yjr (yij 0) (eC (.int 4)))) (yid yjs (eC (.int 7)) (yc6 ye5 (yci (yic (yid oEq (yij 2) (eC (.int 0))) (yid oEq (yid yjr (yid yjk (yij 0) (eC (.int 4))) (eC (.int 16))) (eC (.int 5)))) yhr))))) (tgN 4) (ykk (yc9 zrz (yij 3) (yci (eFn 3 f__law_stand [] (yci (yid yjg (yid yjk (yij 0) (yid yjg (eC (.int 4)) (yid yjs (eC (.int 7)) (yij 4)))) (eC (.int 77))) (yci (yid yjg (eC (.int 4)) (yij 4)) (yci (yij 1) yhr)))) yhr))))
 (ykq (ykr 5 yc7)
 (ykq (ykr 6 (eFn 2 f__law_mixed [] (yci (yij 0) (yci (eC (.int 5)) yhr))))
 (ykq (ykm (ykz (eC (.int 7))) (tgN 7) (sIf (eT (yid oEq (yid yjr (yid yjk (yij 6) (yid yjg (eC (.int 1)) (yid yjs (eC (.int 11)) (yij 7)))) (eC (.int 5))) (eC (.int 0)))) (yfx (yc6 ye8 (yci (eC (.int 0)) (yci (yid yjv (yij 1) (yid yjr (yid yjk (yij 6) (eC (.int 3))) (eC (.int 6)))) yhr))) (yij 5) (yij 7)) ykn))
 (ykp (yii (yci (yid yjr (yij 6) (eC (.int 2))) (yci (yij 3) (yci (yij 5) yhr))))))))))
noncomputable def f__law_pot:List D->M D:=hide fun ds=>frz (run 8 zej ds)
theorem zd3:FnScope ["_law_cell", "_law_at", "_law_k_pot", "_law_stands", "_law_k", "_law_seen", "_law_part", "_law_word"] ["_law_cell", "_law_at", "_law_k_pot"] (ziy ze4):=scD rfl rfl rfl (by decide +kernel)
theorem zdf:BD "_law_pot" "_law_pot" ze4 ["_law_cell", "_law_at", "_law_k_pot"]:=
 fun _ _ _ _ _ _ us hl=>match us,hl with|[_,_,_],_=>rfl
theorem zdu(Xt:Txt K mg ca):OkF ⟨K,ca,tx K⟩ P w mg base 4 "_law_pot" ["_law_cell", "_law_at", "_law_k_pot"] f__law_pot:=
 OkF.hide (OkF.frz (yfa Xt.f__law_pot zd3 fun _ _ _ _ _ _ _ hr=>
  (zj3 (zxv (i:=3) zd3.nd rfl (Or.inl rfl) (zw9 (zph (zjg (zb7 Xt) rfl (hr.mono (by decide)) rfl (zph (ydh zsg zui (zxe 0) zw7) (zph zw7 (zph (zxe 1) zw2)))) zw2)))
  (zj3 (zxt zhc rfl (zjn rfl Xt.n_range (ydh (zse rfl) ykx (yde yi3 (ybc rfl) (ydg (zph zw7 (zph zw7 (zph zw7 (zph zw7 zw2))))) (ydh zzp zul (zxe 0) zw7) (fun _ _=>rfl)) (ydh zzq zum zw7 (zga zfw zmz rfl Xt.n_int boot_int (zph (zw3 (zw4 (zzm (hu9 hr)) ykx (zxe 2) zw7 (zy5 _)) (zxb (zw4 (zzm (hu9 hr)) ykx (ydh zzp zul (ydh zsg zui (zxe 0) zw7) zw7) zw7 (zy5 _)))) zw2))))) (zpo (i:=4) zd3.nd rfl (Or.inl rfl)) (zqa (zp5 (zpm PySem.F.plainAttrs_list PySem.F.slot_list_append PySem.F.type_list_append zg1 zfa (zxe 3) (zph (zjg (zb7 Xt) rfl (hr.mono (by decide)) rfl (zph (ydh (zse rfl) ykx (ydh zsg zui (zxe 0) (ydh (zse rfl) ykx zw7 (ydh zzq zum zw7 (zxe 4)))) zw7) (zph (ydh (zse rfl) ykx zw7 (zxe 4)) (zph (zxe 1) zw2)))) zw2)))))
  (zj3 (zxv (i:=5) zd3.nd rfl (Or.inl rfl) zpk)
  (zj3 (zxv (i:=6) zd3.nd rfl (Or.inl rfl) (zjg (zb5 Xt) rfl (hr.mono (by decide)) rfl (zph (zxe 0) (zph zw7 zw2))))
  (zj3 (zxt zhc rfl (zjn rfl Xt.n_range zw7) (zpo (i:=7) zd3.nd rfl (Or.inl rfl)) (zqa (yds (zxw (zzm (hu9 hr)) ykx (ydh zzp zul (ydh zsg zui (zxe 6) (ydh (zse rfl) ykx zw7 (ydh zzq zum zw7 (zxe 7)))) zw7) zw7 (zy5 _)) (zqa (zp7 (hu9 hr) (zjf (zfx rfl) zm1 rfl Xt.n_max boot_max (zph zw7 (zph (ydh zzt zuo (zxe 1) (ydh zzp zul (ydh zsg zui (zxe 6) zw7) zw7)) zw2))) (zxe 5) (zxe 7))) zp9)))
  (zqa (zxu (zxd (zph (ydh zzp zul (zxe 6) zw7) (zph (zxe 3) (zph (zxe 5) zw2)))))))))))))
abbrev zd1:Stmt:=top 28
noncomputable def zdk:Ev->M Fl:=
 (ykq (ykr 1 (yid yjg (eC (.int 1)) (yid yjr (eFn 2 f__law_cell_at [] (yci (yij 0) (yci (eC (.int 0)) yhr))) (eC (.int 6)))))
 (ykq (ykr 2 (yid yjg (eC (.int 4)) (yid yjr (yid yjk (eFn 2 f__law_cell_at [] (yci (yij 0) (yci (eC (.int 0)) yhr))) (eC (.int 6))) (eC (.int 60)))))
 (ykq (ykr 3 (yie (eLC (ykz (eC (.int 7))) [0] (tgN 0) (eT (yid oEq (yid yjr (eFn 2 f__law_mixed [] (yci (eFn 2 f__law_cell_at [] (yci (yij 1) (yci (eC (.int 1)) yhr))) (yci (yij 0) yhr))) (eC (.int 3))) (eC (.int 0)))) (yij 0))))
 (ykq (ykr 4 (yie (eLC (ykz (yid yjr (eFn 2 f__law_cell_at [] (yci (yij 0) (yci (eC (.int 1)) yhr))) (eC (.int 4)))) [2,0] (tgN 0) ycl (eFn 3 f__law_pot [] (yci (eFn 2 f__law_cell_at [] (yci (yij 2) (yci (yid yjg (eC (.int 2)) (yij 0)) yhr))) (yci (yij 1) (yci (yij 0) yhr)))))))
 (ykp (yii (yci (yij 1) (yci (yij 2) (yci (yij 3) (yci (yij 4) yhr))))))))))
noncomputable def f__law_view:List D->M D:=hide fun ds=>frz (run 5 zdk ds)
theorem zdb:FnScope ["_law_script", "_law_every", "_law_at", "_law_words", "_law_pots"] ["_law_script"] (ziy zd1):=scD rfl rfl rfl (by decide +kernel)
theorem zcp:BD "_law_view" "_law_view" zd1 ["_law_script"]:=
 fun _ _ _ _ _ _ us hl=>match us,hl with|[_],_=>rfl
theorem zc1(Xt:Txt K mg ca):OkF ⟨K,ca,tx K⟩ P w mg base 5 "_law_view" ["_law_script"] f__law_view:=
 OkF.hide (OkF.frz (yfa Xt.f__law_view zdb fun _ _ _ _ _ _ _ hr=>
  (zj3 (zxv (i:=1) zdb.nd rfl (Or.inl rfl) (ydh (zse rfl) ykx zw7 (ydh zzp zul (zjg (za0 Xt) rfl (hr.mono (by decide)) rfl (zph (zxe 0) (zph zw7 zw2))) zw7)))
  (zj3 (zxv (i:=2) zdb.nd rfl (Or.inr rfl) (ydh (zse rfl) ykx zw7 (ydh zzp zul (ydh zsg zui (zjg (za0 Xt) rfl (hr.mono (by decide)) rfl (zph (zxe 0) (zph zw7 zw2))) zw7) zw7)))
  (zj3 (zp8 (zj2 (i:=3) zdb.nd rfl (Or.inl rfl) (x:="_law_word") (M':=["_law_script"]) (ix:=[0]) rfl ⟨rfl,rfl,rfl,rfl,rfl,rfl⟩ (zjn rfl Xt.n_range zw7) (fun _ _ _ _ _=>zpo (i:=0) (by show List.Nodup (("_law_word"::["_law_script"]):List Str);decide +kernel) rfl (Or.inl rfl)) (fun _ _ _ _ _=>zpr (zxw (zzm (hu9 hr)) ykx (ydh zzp zul (zjg (zb5 Xt) rfl (hr.mono (by decide)) rfl (zph (zjg (za0 Xt) rfl (hr.mono (by decide)) rfl (zph (zxe 1) (zph zw7 zw2))) (zph (zxe 0) zw2))) zw7) zw7 (zy5 _))) (fun _ _ _ _ _=>(zxe 0))))
  (zj3 (zp8 (zj2 (i:=4) zdb.nd rfl (Or.inl rfl) (x:="_law_k") (M':=["_law_at", "_law_script"]) (ix:=[2,0]) rfl ⟨rfl,rfl,rfl,rfl,rfl,rfl⟩ (zjn rfl Xt.n_range (ydh zzp zul (zjg (za0 Xt) rfl (hr.mono (by decide)) rfl (zph (zxe 0) (zph zw7 zw2))) zw7)) (fun _ _ _ _ _=>zpo (i:=0) (by show List.Nodup (("_law_k"::["_law_at", "_law_script"]):List Str);decide +kernel) rfl (Or.inl rfl)) (fun _ _ _ _ _=>zpq) (fun _ _ _ _ _=>(zjg (zdu Xt) rfl (hr.mono (by decide)) rfl (zph (zjg (za0 Xt) rfl (hr.mono (by decide)) rfl (zph (zxe 2) (zph (ydh (zse rfl) ykx zw7 (zxe 0)) zw2))) (zph (zxe 1) (zph (zxe 0) zw2)))))))
  (zqa (zxu (zxd (zph (zxe 1) (zph (zxe 2) (zph (zxe 3) (zph (zxe 4) zw2)))))))))))))
abbrev za4:Stmt:=top 1
noncomputable def zay:Ev->M Fl:=
 (ykp (yic (yid yji (yid oIx (yij 0) (eC (.int 2))) (yij 1)) (yid oLt (yid yez (yij 1) (yid oIx (yij 0) (eC (.int 2)))) (yid oIx (yij 0) (eC (.int 3))))))
noncomputable def f_shown_in_time:List D->M D:=hide fun ds=>frz (run 2 zay ds)
theorem zas:FnScope ["tie", "shown"] ["tie", "shown"] (ziy za4):=scD rfl rfl rfl (by decide +kernel)
theorem zak:BD "shown_in_time" "shown_in_time" za4 ["tie", "shown"]:=
 fun _ _ _ _ _ _ us hl=>match us,hl with|[_,_],_=>rfl
theorem zao(Xt:Txt K mg ca):OkF ⟨K,ca,tx K⟩ P w mg base 1 "shown_in_time" ["tie", "shown"] f_shown_in_time:=
 OkF.hide (OkF.frz (yfa Xt.f_shown_in_time zas fun _ _ _ _ _ _ _ hr=>
  (zqa (zxu (zw3 (zw4 (zzl (hu9 hr)) zuh (yde yi3 (ybc rfl) (zxe 0) zw7 (fun _ _=>rfl)) (zxe 1) rfl) (zxb (zw4 yfe ybe (zpj (hu9 hr) (zxe 1) (yde yi3 (ybc rfl) (zxe 0) zw7 (fun _ _=>rfl)) (fun _ _=>rfl)) (yde yi3 (ybc rfl) (zxe 0) zw7 (fun _ _=>rfl)) (zy5 _))))))))
abbrev zce:Stmt:=top 5
noncomputable def zb2:Ev->M Fl:=
 (ykq (sIf (eT (eFn 2 f_shown_in_time [] (yci (yij 2) (yci (yij 1) yhr)))) (ykp (eC (.str "lost"))) ykn)
 (ykq (sIf (eT (yid oGe (eUn (yjm [0] "last_look") (yij 0)) (yid oIx (yij 2) (eC (.int 3))))) (ykp (eC (.str "back"))) ykn)
 (ykp (eC (.str "open")))))
noncomputable def f_lot_of_paid:List D->M D:=hide fun ds=>frz (run 3 zb2 ds)
theorem zbp:FnScope ["view", "seen", "tie"] ["view", "seen", "tie"] (ziy zce):=scD rfl rfl rfl (by decide +kernel)
theorem zba:BD "lot_of_paid" "lot_of_paid" zce ["view", "seen", "tie"]:=
 fun _ _ _ _ _ _ us hl=>match us,hl with|[_,_,_],_=>rfl
theorem zbh(Xt:Txt K mg ca):OkF ⟨K,ca,tx K⟩ P w mg base 2 "lot_of_paid" ["view", "seen", "tie"] f_lot_of_paid:=
 OkF.hide (OkF.frz (yfa Xt.f_lot_of_paid zbp fun _ _ _ _ _ _ _ hr=>
  (zj3 (yds (zxy (zjg (zao Xt) rfl (hr.mono (by decide)) rfl (zph (zxe 2) (zph (zxe 1) zw2)))) (zqa (zxu zxc)) zp9)
  (zj3 (yds (zxw yfb ya9 (zw5 rfl (zjt (T:=⟨K,ca,tx K⟩) (c:=0) Xt.cl_View Xt.na_View_last_look zps) (zxe 0)) (yde yi3 (ybc rfl) (zxe 2) zw7 (fun _ _=>rfl)) (zy5 _)) (zqa (zxu zxc)) zp9)
  (zqa (zxu zxc))))))
abbrev zc9:Stmt:=top 6
noncomputable def zcy:Ev->M Fl:=
 (ykq (sIf (eT (eFn 2 f_shown_in_time [] (yci (yij 2) (yci (yij 1) yhr)))) (ykp (eC (.str "won"))) ykn)
 (ykq (sIf (eT (yid oGe (eUn (yjm [0] "last_look") (yij 0)) (yid oIx (yij 2) (eC (.int 3))))) (ykp (eC (.str "gone"))) ykn)
 (ykq (sIf (yhx (eT (yid (yjn false) (yid oIx (yij 2) (eC (.int 2))) (eUn (yjm [0] "known") (yij 0)))) (eT (yid oLt (yid yjg (eUn (yjm [0] "last_look") (yij 0)) (eUn (yjm [0] "every") (yij 0))) (yid oIx (yij 2) (eC (.int 3)))))) (ykp (eC (.str "sure"))) ykn)
 (ykp (eC (.str "hangs"))))))
noncomputable def f_lot_of_due:List D->M D:=hide fun ds=>frz (run 3 zcy ds)
theorem zcm:FnScope ["view", "seen", "tie"] ["view", "seen", "tie"] (ziy zc9):=scD rfl rfl rfl (by decide +kernel)
theorem zbw:BD "lot_of_due" "lot_of_due" zc9 ["view", "seen", "tie"]:=
 fun _ _ _ _ _ _ us hl=>match us,hl with|[_,_,_],_=>rfl
theorem zb9(Xt:Txt K mg ca):OkF ⟨K,ca,tx K⟩ P w mg base 2 "lot_of_due" ["view", "seen", "tie"] f_lot_of_due:=
 OkF.hide (OkF.frz (yfa Xt.f_lot_of_due zcm fun _ _ _ _ _ _ _ hr=>
  (zj3 (yds (zxy (zjg (zao Xt) rfl (hr.mono (by decide)) rfl (zph (zxe 2) (zph (zxe 1) zw2)))) (zqa (zxu zxc)) zp9)
  (zj3 (yds (zxw yfb ya9 (zw5 rfl (zjt (T:=⟨K,ca,tx K⟩) (c:=0) Xt.cl_View Xt.na_View_last_look zps) (zxe 0)) (yde yi3 (ybc rfl) (zxe 2) zw7 (fun _ _=>rfl)) (zy5 _)) (zqa (zxu zxc)) zp9)
  (zj3 (yds (L2.PW.pt (zx0 (zxw (zzn rfl (hu9 hr)) ykx (yde yi3 (ybc rfl) (zxe 2) zw7 (fun _ _=>rfl)) (zw5 rfl (zjt (T:=⟨K,ca,tx K⟩) (c:=0) Xt.cl_View Xt.na_View_known zps) (zxe 0)) rfl) (zqc (zxw yfe ybe (ydh (zse rfl) ykx (zw5 rfl (zjt (T:=⟨K,ca,tx K⟩) (c:=0) Xt.cl_View Xt.na_View_last_look zps) (zxe 0)) (zw5 rfl (zjt (T:=⟨K,ca,tx K⟩) (c:=0) Xt.cl_View Xt.na_View_every zps) (zxe 0))) (yde yi3 (ybc rfl) (zxe 2) zw7 (fun _ _=>rfl)) (zy5 _))))) (zqa (zxu zxc)) zp9)
  (zqa (zxu zxc)))))))
abbrev zmi:Stmt:=top 7
noncomputable def zj5:Ev->M Fl:=
 (ykq (sIf (eT (yid oEq (yid oIx (yij 2) (eC (.int 0))) (yid oIx (yij 1) (eC (.int 0))))) (ykp (eFn 3 f_lot_of_paid [] (yci (yij 0) (yci (yid oIx (yij 1) (eC (.int 2))) (yci (yij 2) yhr))))) ykn)
 (ykp (eFn 3 f_lot_of_due [] (yci (yij 0) (yci (yid oIx (yij 1) (eC (.int 2))) (yci (yij 2) yhr))))))
noncomputable def f_lot_of:List D->M D:=hide fun ds=>frz (run 3 zj5 ds)
theorem zho:FnScope ["view", "pot", "tie"] ["view", "pot", "tie"] (ziy zmi):=scD rfl rfl rfl (by decide +kernel)
theorem zfm:BD "lot_of" "lot_of" zmi ["view", "pot", "tie"]:=
 fun _ _ _ _ _ _ us hl=>match us,hl with|[_,_,_],_=>rfl
theorem zg8(Xt:Txt K mg ca):OkF ⟨K,ca,tx K⟩ P w mg base 3 "lot_of" ["view", "pot", "tie"] f_lot_of:=
 OkF.hide (OkF.frz (yfa Xt.f_lot_of zho fun _ _ _ _ _ _ _ hr=>
  (zj3 (yds (zxw (zzm (hu9 hr)) ykx (yde yi3 (ybc rfl) (zxe 2) zw7 (fun _ _=>rfl)) (yde yi3 (ybc rfl) (zxe 1) zw7 (fun _ _=>rfl)) (zy5 _)) (zqa (zxu (zjg (zbh Xt) rfl (hr.mono (by decide)) rfl (zph (zxe 0) (zph (yde yi3 (ybc rfl) (zxe 1) zw7 (fun _ _=>rfl)) (zph (zxe 2) zw2)))))) zp9)
  (zqa (zxu (zjg (zb9 Xt) rfl (hr.mono (by decide)) rfl (zph (zxe 0) (zph (yde yi3 (ybc rfl) (zxe 1) zw7 (fun _ _=>rfl)) (zph (zxe 2) zw2)))))))))
abbrev zda:Stmt:=top 8
noncomputable def zcz:Ev->M Fl:=
 (ykq (ykr 3 (yid oIx (yid oIx (yij 2) (eC (.int 1))) (yid oIx (yij 1) (eC (.int 0)))))
 (ykq (ykr 4 yc7)
 (ykq (ykm (yk0 (yid oIx (yij 2) (eC (.int 2)))) (tgN 5) (ykq (ykr 6 (eFn 3 f_lot_of [] (yci (yij 0) (yci (yij 1) (yci (yij 5) yhr)))))
 (ykq (yfx (yii (yci (yij 6) (yci (yid oIx (yij 5) (eC (.int 1))) (yci (yid oIx (yij 5) (eC (.int 3))) yhr)))) (yij 4) (yid oIx (yij 5) (eC (.int 2))))
 (sIf (eT (eUn (yjo false ["won", "sure", "back"]) (yij 6))) (ykj (fun a b=>a+b) 3 (yid oIx (yij 5) (eC (.int 1)))) ykn))))
 (ykp (yii (yci (yij 3) (yci (yij 4) yhr)))))))
noncomputable def f_read_stand:List D->M D:=hide fun ds=>frz (run 7 zcz ds)
theorem zcn:FnScope ["view", "pot", "one", "firm", "lots", "tie", "lot"] ["view", "pot", "one"] (ziy zda):=scD rfl rfl rfl (by decide +kernel)
theorem zbx:BD "read_stand" "read_stand" zda ["view", "pot", "one"]:=
 fun _ _ _ _ _ _ us hl=>match us,hl with|[_,_,_],_=>rfl
theorem zca(Xt:Txt K mg ca):OkF ⟨K,ca,tx K⟩ P w mg base 4 "read_stand" ["view", "pot", "one"] f_read_stand:=
 OkF.hide (OkF.frz (yfa Xt.f_read_stand zcn fun _ _ _ _ _ _ _ hr=>
  (zj3 (zxv (i:=3) zcn.nd rfl (Or.inl rfl) (yde yi3 (ybc rfl) (yde yi3 (ybc rfl) (zxe 2) zw7 (fun _ _=>rfl)) (yde yi3 (ybc rfl) (zxe 1) zw7 (fun _ _=>rfl)) (fun _ _=>rfl)))
  (zj3 (zxv (i:=4) zcn.nd rfl (Or.inl rfl) zpk)
  (zj3 (zxt zhc rfl (zxg rfl (yde yi3 (ybc rfl) (zxe 2) zw7 (fun _ _=>rfl))) (zpo (i:=5) zcn.nd rfl (Or.inl rfl)) (zj3 (zxv (i:=6) zcn.nd rfl (Or.inl rfl) (zjg (zg8 Xt) rfl (hr.mono (by decide)) rfl (zph (zxe 0) (zph (zxe 1) (zph (zxe 5) zw2)))))
  (zj3 (zp7 (hu9 hr) (zxd (zph (zxe 6) (zph (yde yi3 (ybc rfl) (zxe 5) zw7 (fun _ _=>rfl)) (zph (yde yi3 (ybc rfl) (zxe 5) zw7 (fun _ _=>rfl)) zw2)))) (zxe 4) (yde yi3 (ybc rfl) (zxe 5) zw7 (fun _ _=>rfl)))
  (zqa (yds (zxx (ss:=["won", "sure", "back"]) rfl Xt.c_FIRM (zxe 6)) (zqa (zxr (i:=3) zyd zcn.nd rfl (Or.inl rfl) (yde yi3 (ybc rfl) (zxe 5) zw7 (fun _ _=>rfl)))) zp9)))))
  (zqa (zxu (zxd (zph (zxe 3) (zph (zxe 4) zw2))))))))))
abbrev zd2:Stmt:=top 9
noncomputable def zdl:Ev->M Fl:=
 (ykq (ykr 1 (yih yhr))
 (ykq (ykm (yk0 (eUn (yjm [0] "pots") (yij 0))) (tgN 2) (ykk (yc9 zrz (yij 1) (yci (yie (eLC (yk0 (yid oIx (yij 2) (eC (.int 1)))) [0,2] (tgN 0) ycl (eFn 3 f_read_stand [] (yci (yij 1) (yci (yij 2) (yci (yij 0) yhr)))))) yhr))))
 (ykp (yij 1))))
noncomputable def f_read_pots:List D->M D:=hide fun ds=>frz (run 3 zdl ds)
theorem zdd:FnScope ["view", "readings", "pot"] ["view"] (ziy zd2):=scD rfl rfl rfl (by decide +kernel)
theorem zcq:BD "read_pots" "read_pots" zd2 ["view"]:=
 fun _ _ _ _ _ _ us hl=>match us,hl with|[_],_=>rfl
theorem zc2(Xt:Txt K mg ca):OkF ⟨K,ca,tx K⟩ P w mg base 5 "read_pots" ["view"] f_read_pots:=
 OkF.hide (OkF.frz (yfa Xt.f_read_pots zdd fun _ _ _ _ _ _ _ hr=>
  (zj3 (zxv (i:=1) zdd.nd rfl (Or.inl rfl) (zw9 zw2))
  (zj3 (zxt zhc rfl (zxg rfl (zw5 rfl (zjt (T:=⟨K,ca,tx K⟩) (c:=0) Xt.cl_View Xt.na_View_pots zps) (zxe 0))) (zpo (i:=2) zdd.nd rfl (Or.inr rfl)) (zqa (zp5 (zpm PySem.F.plainAttrs_list PySem.F.slot_list_append PySem.F.type_list_append zg1 zfa (zxe 1) (zph (zw6 (ydf (x:="one") (M':=["view", "pot"]) (ix:=[0,2]) rfl ⟨rfl,rfl,rfl,rfl,rfl,rfl⟩ (zxg rfl (yde yi3 (ybc rfl) (zxe 2) zw7 (fun _ _=>rfl))) (fun _ _ _ _ _=>zpo (i:=0) (by show List.Nodup (("one"::["view", "pot"]):List Str);decide +kernel) rfl (Or.inl rfl)) (fun _ _ _ _ _=>zpq) (fun _ _ _ _ _=>(zjg (zca Xt) rfl (hr.mono (by decide)) rfl (zph (zxe 1) (zph (zxe 2) (zph (zxe 0) zw2))))))) zw2)))))
  (zqa (zxu (zxe 1)))))))
abbrev zcc:Stmt:=top 10
noncomputable def zb0:Ev->M Fl:=
 (ykq (ykr 1 (eLv (yci (eLv yhr) yhr)))
 (ykq (ykm (yk0 (yij 0)) (tgN 2) (ykq (ykr 3 (yih yhr))
 (ykq (ykm (yk0 (yij 1)) (tgN 4) (ykk (yc9 zr4 (yij 3) (yci (yie (eLC (ykz (yc6 yjq (yci (yij 2) yhr))) [4] (tgN 0) ycl (yid yjg (yij 1) (eLv (yci (yij 0) yhr))))) yhr))))
 (ykr 1 (yij 3)))))
 (ykp (yij 1))))
noncomputable def f_all_choices:List D->M D:=hide fun ds=>frz (run 5 zb0 ds)
theorem zbn:FnScope ["readings", "choices", "stands", "longer", "chosen"] ["readings"] (ziy zcc):=scD rfl rfl rfl (by decide +kernel)
theorem za8:BD "all_choices" "all_choices" zcc ["readings"]:=
 fun _ _ _ _ _ _ us hl=>match us,hl with|[_],_=>rfl
theorem zbf(Xt:Txt K mg ca):OkF ⟨K,ca,tx K⟩ P w mg base 1 "all_choices" ["readings"] f_all_choices:=
 OkF.hide (OkF.frz (yfa Xt.f_all_choices zbn fun _ _ _ _ _ _ _ hr=>
  (zj3 (zxv (i:=1) zbn.nd rfl (Or.inl rfl) (ydg (zph (ydg zw2) zw2)))
  (zj3 (zxt zhc rfl (zxg rfl (zxe 0)) (zpo (i:=2) zbn.nd rfl (Or.inl rfl)) (zj3 (zxv (i:=3) zbn.nd rfl (Or.inl rfl) (zw9 zw2))
  (zj3 (zxt zhc rfl (zxg rfl (zxe 1)) (zpo (i:=4) zbn.nd rfl (Or.inr rfl)) (zqa (zp5 (zpm PySem.F.plainAttrs_list PySem.F.slot_list_extend PySem.F.type_list_extend zg2 zfc (zxe 3) (zph (zw6 (ydf (x:="place") (M':=["chosen"]) (ix:=[4]) rfl ⟨rfl,rfl,rfl,rfl,rfl,rfl⟩ (zjn rfl Xt.n_range (zjf zcr (zuk rfl) rfl Xt.n_len PySem.boot_len (zph (zxe 2) zw2))) (fun _ _ _ _ _=>zpo (i:=0) (by show List.Nodup (("place"::["chosen"]):List Str);decide +kernel) rfl (Or.inl rfl)) (fun _ _ _ _ _=>zpq) (fun _ _ _ _ _=>(ydh (zse rfl) ykx (zxe 1) (ydg (zph (zxe 0) zw2)))))) zw2)))))
  (zqa (zxv (i:=1) zbn.nd rfl (Or.inl rfl) (zxe 3))))))
  (zqa (zxu (zxe 1)))))))
abbrev zbl:Stmt:=top 12
noncomputable def zbd:Ev->M Fl:=
 (ykq (ykr 1 yc7)
 (ykq (ykm (yk0 (yij 0)) (tgN 2) (yfw (yky (yid oIx (yij 2) (eC (.int 1)))) (tgT 2 (ybn (tgN 3) (ybn (tgN 4) ygi))) (ykk (yc9 zrz (zwq zsc (yij 1) (yci (yij 3) (yci (yih yhr) yhr))) (yci (yij 4) yhr)))))
 (ykp (yij 1))))
noncomputable def f_lots_by_word:List D->M D:=hide fun ds=>frz (run 5 zbd ds)
theorem za6:FnScope ["reads", "by_word", "read", "word", "lot"] ["reads"] (ziy zbl):=scD rfl rfl rfl (by decide +kernel)
theorem zav:BD "lots_by_word" "lots_by_word" zbl ["reads"]:=
 fun _ _ _ _ _ _ us hl=>match us,hl with|[_],_=>rfl
theorem za1(Xt:Txt K mg ca):OkF ⟨K,ca,tx K⟩ P w mg base 1 "lots_by_word" ["reads"] f_lots_by_word:=
 OkF.hide (OkF.frz (yfa Xt.f_lots_by_word za6 fun _ _ _ _ _ _ _ hr=>
  (zj3 (zxv (i:=1) za6.nd rfl (Or.inl rfl) zpk)
  (zj3 (zxt zhc rfl (zxg rfl (zxe 0)) (zpo (i:=2) za6.nd rfl (Or.inl rfl)) (zqa (zp6 zhc rfl (zjm (yde yi3 (ybc rfl) (zxe 2) zw7 (fun _ _=>rfl))) (zxf rfl (zjl (zpo (i:=3) za6.nd rfl (Or.inl rfl)) (zjl (zpo (i:=4) za6.nd rfl (Or.inl rfl)) zpp))) (zqa (zp5 (zpm PySem.F.plainAttrs_list PySem.F.slot_list_append PySem.F.type_list_append zg1 zfa (zji PySem.F.plainAttrs_dict PySem.F.slot_dict_setdefault PySem.F.type_dict_setdefault zg3 zfd (zxe 1) (zph (zxe 3) (zph (zw9 zw2) zw2))) (zph (zxe 4) zw2)))))))
  (zqa (zxu (zxe 1)))))))
abbrev ze6:Stmt:=top 13
noncomputable def zel:Ev->M Fl:=
 (ykp (yid yjg (eLv (yci (eC .non) yhr)) (yie (eLC (yk0 (yij 0)) [] (tgN 0) (eT (yid oEq (yid oIx (yij 0) (eC (.int 0))) (eC (.str "open")))) (yid oIx (yij 0) (eC (.int 2)))))))
noncomputable def f_fates_of:List D->M D:=hide fun ds=>frz (run 1 zel ds)
theorem zd5:FnScope ["lots"] ["lots"] (ziy ze6):=scD rfl rfl rfl (by decide +kernel)
theorem zdh:BD "fates_of" "fates_of" ze6 ["lots"]:=
 fun _ _ _ _ _ _ us hl=>match us,hl with|[_],_=>rfl
theorem zdw(Xt:Txt K mg ca):OkF ⟨K,ca,tx K⟩ P w mg base 1 "fates_of" ["lots"] f_fates_of:=
 OkF.hide (OkF.frz (yfa Xt.f_fates_of zd5 fun _ _ _ _ _ _ _ hr=>
  (zqa (zxu (ydh (zse rfl) ykx (ydg (zph zxa zw2)) (zw6 (ydf (x:="lot") (M':=[]) (ix:=[]) rfl ⟨rfl,rfl,rfl,rfl,rfl,rfl⟩ (zxg rfl (zxe 0)) (fun _ _ _ _ _=>zpo (i:=0) (by show List.Nodup (("lot"::[]):List Str);decide +kernel) rfl (Or.inl rfl)) (fun _ _ _ _ _=>zpr (zxw (zzm (hu9 hr)) ykx (yde yi3 (ybc rfl) (zxe 0) zw7 (fun _ _=>rfl)) zxc (zy5 _))) (fun _ _ _ _ _=>(yde yi3 (ybc rfl) (zxe 0) zw7 (fun _ _=>rfl))))))))))
abbrev za3:Stmt:=top 14
noncomputable def zax:Ev->M Fl:=
 (ykq (sIf (eT (yid oEq (yid oIx (yij 0) (eC (.int 0))) (eC (.str "open")))) (ykp (eOr (yid yjp (yij 1) (eC .non)) (yid oGt (yij 1) (yid oIx (yij 0) (eC (.int 2)))))) ykn)
 (ykp (yic (yid oEq (yid oIx (yij 0) (eC (.int 0))) (eC (.str "hangs"))) (yic (yid ye9 (yij 1) (eC .non)) (yid oLt (yid yjg (yid yjv (yij 1) (eC (.int 1))) (yij 2)) (yid oIx (yij 0) (eC (.int 2))))))))
noncomputable def f_comes_by_fate:List D->M D:=hide fun ds=>frz (run 3 zax ds)
theorem zar:FnScope ["lot", "fate", "every"] ["lot", "fate", "every"] (ziy za3):=scD rfl rfl rfl (by decide +kernel)
theorem zaj:BD "comes_by_fate" "comes_by_fate" za3 ["lot", "fate", "every"]:=
 fun _ _ _ _ _ _ us hl=>match us,hl with|[_,_,_],_=>rfl
theorem zan(Xt:Txt K mg ca):OkF ⟨K,ca,tx K⟩ P w mg base 1 "comes_by_fate" ["lot", "fate", "every"] f_comes_by_fate:=
 OkF.hide (OkF.frz (yfa Xt.f_comes_by_fate zar fun _ _ _ _ _ _ _ hr=>
  (zj3 (yds (zxw (zzm (hu9 hr)) ykx (yde yi3 (ybc rfl) (zxe 0) zw7 (fun _ _=>rfl)) zxc (zy5 _)) (zqa (zxu (ydi (zw4 zzo zuj (zxe 1) zxa (zy5 _)) (zxb (zw4 yfc yba (zxe 1) (yde yi3 (ybc rfl) (zxe 0) zw7 (fun _ _=>rfl)) (zy5 _)))))) zp9)
  (zqa (zxu (zw3 (zw4 (zzm (hu9 hr)) ykx (yde yi3 (ybc rfl) (zxe 0) zw7 (fun _ _=>rfl)) zxc (zy5 _)) (zw3 (zw4 zsh zm2 (zxe 1) zxa (zy5 _)) (zxb (zw4 yfe ybe (ydh (zse rfl) ykx (ydh zzt zuo (zxe 1) zw7) (zxe 2)) (yde yi3 (ybc rfl) (zxe 0) zw7 (fun _ _=>rfl)) (zy5 _))))))))))
abbrev zcf:Stmt:=top 15
noncomputable def zb3:Ev->M Fl:=
 (ykp (yc6 yjw (yci (yie (eLC (yk0 (yij 0)) [1,2] (tgN 0) (eT (eFn 3 f_comes_by_fate [] (yci (yij 0) (yci (yij 1) (yci (yij 2) yhr))))) (yid oIx (yij 0) (eC (.int 1))))) yhr)))
noncomputable def f_sum_by_fate:List D->M D:=hide fun ds=>frz (run 3 zb3 ds)
theorem zbq:FnScope ["lots", "fate", "every"] ["lots", "fate", "every"] (ziy zcf):=scD rfl rfl rfl (by decide +kernel)
theorem zbb:BD "sum_by_fate" "sum_by_fate" zcf ["lots", "fate", "every"]:=
 fun _ _ _ _ _ _ us hl=>match us,hl with|[_,_,_],_=>rfl
theorem zbi(Xt:Txt K mg ca):OkF ⟨K,ca,tx K⟩ P w mg base 2 "sum_by_fate" ["lots", "fate", "every"] f_sum_by_fate:=
 OkF.hide (OkF.frz (yfa Xt.f_sum_by_fate zbq fun _ _ _ _ _ _ _ hr=>
  (zqa (zxu (zjf (zfy rfl) (zup rfl) rfl Xt.n_sum boot_sum (zph (zw6 (ydf (x:="lot") (M':=["fate", "every"]) (ix:=[1,2]) rfl ⟨rfl,rfl,rfl,rfl,rfl,rfl⟩ (zxg rfl (zxe 0)) (fun _ _ _ _ _=>zpo (i:=0) (by show List.Nodup (("lot"::["fate", "every"]):List Str);decide +kernel) rfl (Or.inl rfl)) (fun _ _ _ _ _=>zpr (zxy (zjg (zan Xt) rfl (hr.mono (by decide)) rfl (zph (zxe 0) (zph (zxe 1) (zph (zxe 2) zw2)))))) (fun _ _ _ _ _=>(yde yi3 (ybc rfl) (zxe 0) zw7 (fun _ _=>rfl))))) zw2))))))
abbrev zc8:Stmt:=top 16
noncomputable def zcx:Ev->M Fl:=
 (ykp (yda [0,1] (eFn 3 f_sum_by_fate [] (yci (yij 1) (yci (yij 0) (yci (yij 2) yhr)))) (yci (eFn 1 f_fates_of [] (yci (yij 0) yhr)) yhr)))
noncomputable def f_least_fate:List D->M D:=hide fun ds=>frz (run 2 zcx ds)
theorem zck:FnScope ["lots", "every"] ["lots", "every"] (ziy zc8):=scD rfl rfl rfl (by decide +kernel)
theorem zbv:BD "least_fate" "least_fate" zc8 ["lots", "every"]:=
 fun _ _ _ _ _ _ us hl=>match us,hl with|[_,_],_=>rfl
theorem zb8(Xt:Txt K mg ca):OkF ⟨K,ca,tx K⟩ P w mg base 5 "least_fate" ["lots", "every"] f_least_fate:=
 OkF.hide (OkF.frz (zzh Xt.f_least_fate zck fun _ _ _ _ _ _ hr=>
  (zqa (zxu (zpn (x:="fate") (M':=["lots", "every"]) (ix:=[0,1]) (t:=tx0 K) (k:=2) (hr.mono (by decide)) ⟨rfl,rfl,rfl,rfl,rfl,rfl⟩ rfl ⟨(zrn K),fun t' ht'=>Xt.tinj _ (zrn K) t' ht',rfl,Xt.tb.hd _ (by decide),rfl,rfl,rfl,Xt.bmg,Xt.tb.bb⟩ rfl Xt.n_min rfl rfl rfl (fun _ _ _ _ _=>rfl) (zph (zjg (zdw Xt) rfl (hr.mono (by decide)) rfl (zph (zxe 0) zw2)) zw2) (fun _ _ _ _ _ hr=>(zjg (zbi Xt) rfl (hr.mono (by decide)) rfl (zph (zxe 1) (zph (zxe 0) (zph (zxe 2) zw2))))))))))
abbrev zmj:Stmt:=top 17
noncomputable def zj6:Ev->M Fl:=
 (ykq (ykr 4 (yc6 yjw (yci (yie (eLC (yk0 (yij 0)) [] (tgN 0) ycl (yid oIx (yij 0) (eC (.int 0))))) yhr)))
 (ykq (yfw (yky (yij 1)) (tgT 2 (ybn (tgN 5) (ybn (tgN 6) ygi))) (ykj (fun a b=>a+b) 4 (eFn 3 f_sum_by_fate [] (yci (yij 6) (yci (yid yez (yij 2) (yij 5)) (yci (yij 3) yhr))))))
 (ykp (yij 4))))
noncomputable def f_sum_of:List D->M D:=hide fun ds=>frz (run 7 zj6 ds)
theorem zhp:FnScope ["reads", "by_word", "fates", "every", "total", "word", "lots"] ["reads", "by_word", "fates", "every"] (ziy zmj):=scD rfl rfl rfl (by decide +kernel)
theorem zfn:BD "sum_of" "sum_of" zmj ["reads", "by_word", "fates", "every"]:=
 fun _ _ _ _ _ _ us hl=>match us,hl with|[_,_,_,_],_=>rfl
theorem zg9(Xt:Txt K mg ca):OkF ⟨K,ca,tx K⟩ P w mg base 3 "sum_of" ["reads", "by_word", "fates", "every"] f_sum_of:=
 OkF.hide (OkF.frz (yfa Xt.f_sum_of zhp fun _ _ _ _ _ _ _ hr=>
  (zj3 (zxv (i:=4) zhp.nd rfl (Or.inl rfl) (zjf (zfy rfl) (zup rfl) rfl Xt.n_sum boot_sum (zph (zw6 (ydf (x:="read") (M':=[]) (ix:=[]) rfl ⟨rfl,rfl,rfl,rfl,rfl,rfl⟩ (zxg rfl (zxe 0)) (fun _ _ _ _ _=>zpo (i:=0) (by show List.Nodup (("read"::[]):List Str);decide +kernel) rfl (Or.inl rfl)) (fun _ _ _ _ _=>zpq) (fun _ _ _ _ _=>(yde yi3 (ybc rfl) (zxe 0) zw7 (fun _ _=>rfl))))) zw2)))
  (zj3 (zp6 zhc rfl (zjm (zxe 1)) (zxf rfl (zjl (zpo (i:=5) zhp.nd rfl (Or.inl rfl)) (zjl (zpo (i:=6) zhp.nd rfl (Or.inl rfl)) zpp))) (zqa (zxr (i:=4) zyd zhp.nd rfl (Or.inl rfl) (zjg (zbi Xt) rfl (hr.mono (by decide)) rfl (zph (zxe 6) (zph (zpj (hu9 hr) (zxe 2) (zxe 5) (fun _ _=>rfl)) (zph (zxe 3) zw2)))))))
  (zqa (zxu (zxe 4)))))))
abbrev zcd:Stmt:=top 18
noncomputable def zb1:Ev->M Fl:=
 (ykq (ykr 3 (eFn 1 f_lots_by_word [] (yci (yij 0) yhr)))
 (ykq (ykr 4 yc7)
 (ykq (yfw (yky (yij 3)) (tgT 2 (ybn (tgN 5) (ybn (tgN 6) ygi))) (yfx (eFn 2 f_least_fate [] (yci (yij 6) (yci (yij 2) yhr))) (yij 4) (yij 5)))
 (ykp (yii (yci (eFn 4 f_sum_of [] (yci (yij 0) (yci (yij 3) (yci (yij 4) (yci (yij 2) yhr))))) (yci (yij 1) (yci (yij 4) yhr))))))))
noncomputable def f_least_paper:List D->M D:=hide fun ds=>frz (run 7 zb1 ds)
theorem zbo:FnScope ["reads", "chosen", "every", "by_word", "fates", "word", "lots"] ["reads", "chosen", "every"] (ziy zcd):=scD rfl rfl rfl (by decide +kernel)
theorem za9:BD "least_paper" "least_paper" zcd ["reads", "chosen", "every"]:=
 fun _ _ _ _ _ _ us hl=>match us,hl with|[_,_,_],_=>rfl
theorem zbg(Xt:Txt K mg ca):OkF ⟨K,ca,tx K⟩ P w mg base 6 "least_paper" ["reads", "chosen", "every"] f_least_paper:=
 OkF.hide (OkF.frz (yfa Xt.f_least_paper zbo fun _ _ _ _ _ _ _ hr=>
  (zj3 (zxv (i:=3) zbo.nd rfl (Or.inl rfl) (zjg (za1 Xt) rfl (hr.mono (by decide)) rfl (zph (zxe 0) zw2)))
  (zj3 (zxv (i:=4) zbo.nd rfl (Or.inl rfl) zpk)
  (zj3 (zp6 zhc rfl (zjm (zxe 3)) (zxf rfl (zjl (zpo (i:=5) zbo.nd rfl (Or.inl rfl)) (zjl (zpo (i:=6) zbo.nd rfl (Or.inl rfl)) zpp))) (zqa (zp7 (hu9 hr) (zjg (zb8 Xt) rfl (hr.mono (by decide)) rfl (zph (zxe 6) (zph (zxe 2) zw2))) (zxe 4) (zxe 5))))
  (zqa (zxu (zxd (zph (zjg (zg9 Xt) rfl (hr.mono (by decide)) rfl (zph (zxe 0) (zph (zxe 3) (zph (zxe 4) (zph (zxe 2) zw2))))) (zph (zxe 1) (zph (zxe 4) zw2)))))))))))
abbrev zag:Stmt:=top 11
noncomputable def zae:Ev->M Fl:=
 (ykp (yie (yig (yk1 (yij 0) (yij 1)) [] (tgT 2 (ybn (tgN 0) (ybn (tgN 1) ygi))) ycl (yid oIx (yij 0) (yij 1)))))
noncomputable def f_chosen_readings:List D->M D:=hide fun ds=>frz (run 2 zae ds)
theorem zac:FnScope ["readings", "chosen"] ["readings", "chosen"] (ziy zag):=scD rfl rfl rfl (by decide +kernel)
theorem zaa:BD "chosen_readings" "chosen_readings" zag ["readings", "chosen"]:=
 fun _ _ _ _ _ _ us hl=>match us,hl with|[_,_],_=>rfl
theorem zab(Xt:Txt K mg ca):OkF ⟨K,ca,tx K⟩ P w mg base 1 "chosen_readings" ["readings", "chosen"] f_chosen_readings:=
 OkF.hide (OkF.frz (yfa Xt.f_chosen_readings zac fun _ _ _ _ _ _ _ hr=>
  (zqa (zxu (zw6 (zw8 (x:="stands") (z0:="place") (M':=[]) (ix:=[]) rfl ⟨rfl,rfl,rfl,rfl,rfl,rfl⟩ (zxh rfl Xt.n_zip (zxe 0) (zxe 1)) (fun _ _ _ _ _=>zxf rfl (zjl (zpo (i:=0) (by show List.Nodup (("stands"::"place"::[]):List Str);decide +kernel) rfl (Or.inl rfl)) (zjl (zpo (i:=1) (by show List.Nodup (("stands"::"place"::[]):List Str);decide +kernel) rfl (Or.inl rfl)) zpp))) (fun _ _ _ _ _=>zpq) (fun _ _ _ _ _=>(yde yi3 (ybc rfl) (zxe 0) (zxe 1) (fun _ _=>rfl)))))))))
abbrev ztp:Stmt:=top 19
noncomputable def zqf:Ev->M Fl:=
 (ykq (ykr 1 (eFn 1 f_read_pots [] (yci (yij 0) yhr)))
 (ykq (ykr 2 (yie (eLC (yk0 (eFn 1 f_all_choices [] (yci (yij 1) yhr))) [1,0] (tgN 0) ycl (eFn 3 f_least_paper [] (yci (eFn 2 f_chosen_readings [] (yci (yij 1) (yci (yij 0) yhr))) (yci (yij 0) (yci (eUn (yjm [0] "every") (yij 2)) yhr)))))))
 (ykp (yda [] (yid oIx (yij 0) (eC (.int 0))) (yci (yij 2) yhr)))))
noncomputable def f_paper:List D->M D:=hide fun ds=>frz (run 3 zqf ds)
theorem zmk:FnScope ["view", "readings", "papers"] ["view"] (ziy ztp):=scD rfl rfl rfl (by decide +kernel)
theorem zif:BD "paper" "paper" ztp ["view"]:=
 fun _ _ _ _ _ _ us hl=>match us,hl with|[_],_=>rfl
theorem zls(Xt:Txt K mg ca):OkF ⟨K,ca,tx K⟩ P w mg base 7 "paper" ["view"] f_paper:=
 OkF.hide (OkF.frz (zzh Xt.f_paper zmk fun _ _ _ _ _ _ hr=>
  (zj3 (zxv (i:=1) zmk.nd rfl (Or.inr rfl) (zjg (zc2 Xt) rfl (hr.mono (by decide)) rfl (zph (zxe 0) zw2)))
  (zj3 (zp8 (zj2 (i:=2) zmk.nd rfl (Or.inl rfl) (x:="chosen") (M':=["readings", "view"]) (ix:=[1,0]) rfl ⟨rfl,rfl,rfl,rfl,rfl,rfl⟩ (zxg rfl (zjg (zbf Xt) rfl (hr.mono (by decide)) rfl (zph (zxe 1) zw2))) (fun _ _ _ _ _=>zpo (i:=0) (by show List.Nodup (("chosen"::["readings", "view"]):List Str);decide +kernel) rfl (Or.inl rfl)) (fun _ _ _ _ _=>zpq) (fun _ _ _ _ _=>(zjg (zbg Xt) rfl (hr.mono (by decide)) rfl (zph (zjg (zab Xt) rfl (hr.mono (by decide)) rfl (zph (zxe 1) (zph (zxe 0) zw2))) (zph (zxe 0) (zph (zw5 rfl (zjt (T:=⟨K,ca,tx K⟩) (c:=0) Xt.cl_View Xt.na_View_every zps) (zxe 2)) zw2)))))))
  (zqa (zxu (zpn (x:="told") (M':=[]) (ix:=[]) (t:=tx1 K) (k:=0) (hr.mono (by decide)) ⟨rfl,rfl,rfl,rfl,rfl,rfl⟩ rfl ⟨(zro K),fun t' ht'=>Xt.tinj _ (zro K) t' ht',rfl,Xt.tb.hd _ (by decide),rfl,rfl,rfl,Xt.bmg,Xt.tb.bb⟩ rfl Xt.n_min rfl rfl rfl (fun _ _ _ _ _=>rfl) (zph (zxe 2) zw2) (fun _ _ _ _ _ hr=>(yde yi3 (ybc rfl) (zxe 0) zw7 (fun _ _=>rfl))))))))))
abbrev ztq:Stmt:=top 20
noncomputable def zqg:Ev->M Fl:=
 (ykp (yid oIx (eFn 1 f_paper [] (yci (yij 0) yhr)) (eC (.int 0))))
noncomputable def f_worth:List D->M D:=hide fun ds=>frz (run 1 zqg ds)
theorem zml:FnScope ["view"] ["view"] (ziy ztq):=scD rfl rfl rfl (by decide +kernel)
theorem zig:BD "worth" "worth" ztq ["view"]:=
 fun _ _ _ _ _ _ us hl=>match us,hl with|[_],_=>rfl
theorem zlt(Xt:Txt K mg ca):OkF ⟨K,ca,tx K⟩ P w mg base 8 "worth" ["view"] f_worth:=
 OkF.hide (OkF.frz (yfa Xt.f_worth zml fun _ _ _ _ _ _ _ hr=>
  (zqa (zxu (yde yi3 (ybc rfl) (zjg (zls Xt) rfl (hr.mono (by decide)) rfl (zph (zxe 0) zw2)) zw7 (fun _ _=>rfl))))))
abbrev za2:Stmt:=yeu (top 4) 0
noncomputable def zaw:Ev->M Fl:=
 (ykq (yko [0] "every" (yij 1) (yij 0))
 (ykq (yko [0] "last_look" (yij 2) (yij 0))
 (ykq (yko [0] "known" (yie (yc6 ye7 (yci (yij 3) yhr))) (yij 0))
 (yko [0] "pots" (yie (eLC (yk0 (yij 4)) [] (tgN 0) ycl (yii (yci (yid oIx (yij 0) (eC (.int 0))) (yci (yie (yc6 ye7 (yci (yid oIx (yij 0) (eC (.int 1))) yhr))) (yci (yc6 yjj (yci (yid oIx (yij 0) (eC (.int 2))) yhr)) yhr)))))) (yij 0)))))
noncomputable def f_View___init__:List D->M D:=hide (run 5 zaw)
theorem zaq:FnScope ["self", "every", "look", "words", "pots"] ["self", "every", "look", "words", "pots"] (ziy za2):=scD rfl rfl rfl (by decide +kernel)
theorem zai:BD "__init__" "View.__init__" za2 ["self", "every", "look", "words", "pots"]:=
 fun _ _ _ _ _ _ us hl=>match us,hl with|[_,_,_,_,_],_=>rfl
theorem zam(Xt:Txt K mg ca):OkA ⟨K,ca,tx K⟩ P w mg base 1 (ca 1) ["self", "every", "look", "words", "pots"] f_View___init__:=
 OkA.hide (zzf Xt.f_View___init__ zaq fun _ _ _ _ _ _ hr=>
  (zj3 (zxs rfl (zjt (T:=⟨K,ca,tx K⟩) (c:=0) Xt.cl_View Xt.na_View_every zps) (zxe 0) (zxe 1))
  (zj3 (zxs rfl (zjt (T:=⟨K,ca,tx K⟩) (c:=0) Xt.cl_View Xt.na_View_last_look zps) (zxe 0) (zxe 2))
  (zj3 (zxs rfl (zjt (T:=⟨K,ca,tx K⟩) (c:=0) Xt.cl_View Xt.na_View_known zps) (zxe 0) (zw6 (zga zcs (zm0 rfl) rfl Xt.n_list boot_list (zph (zxe 3) zw2))))
  (zqa (zxs rfl (zjt (T:=⟨K,ca,tx K⟩) (c:=0) Xt.cl_View Xt.na_View_pots zps) (zxe 0) (zw6 (ydf (x:="pot") (M':=[]) (ix:=[]) rfl ⟨rfl,rfl,rfl,rfl,rfl,rfl⟩ (zxg rfl (zxe 4)) (fun _ _ _ _ _=>zpo (i:=0) (by show List.Nodup (("pot"::[]):List Str);decide +kernel) rfl (Or.inl rfl)) (fun _ _ _ _ _=>zpq) (fun _ _ _ _ _=>(zxd (zph (yde yi3 (ybc rfl) (zxe 0) zw7 (fun _ _=>rfl)) (zph (zw6 (zga zcs (zm0 rfl) rfl Xt.n_list boot_list (zph (yde yi3 (ybc rfl) (zxe 0) zw7 (fun _ _=>rfl)) zw2))) (zph (zga zil zug rfl Xt.n_dict boot_dict (zph (yde yi3 (ybc rfl) (zxe 0) zw7 (fun _ _=>rfl)) zw2)) zw2)))))))))))))
abbrev zap:Stmt:=top 29
noncomputable def zal:Ev->M Fl:=
 (ykq (yki (yij 0) (tgT 3 (ybn (tgN 4) (ybn (tgN 5) (ybn (tgN 6) ygi)))))
 (ykq (ykr 7 (yc6 ye1 (yci (yij 6) yhr)))
 (ykq (ykm (ykz (eC (.int 7))) (tgN 8) (ykq (ykr 9 (eFn 2 f__law_mixed [] (yci (yij 1) (yci (yid yjg (eC (.int 20)) (yij 8)) yhr))))
 (sIf (yhx (eT (yid zr0 (yij 8) (yij 7))) (eT (yid oEq (yid yjr (yij 9) (eC (.int 3))) (eC (.int 0))))) (yfx (yid yjg (yij 2) (yid yjr (yid yjk (yij 9) (eC (.int 3))) (yid yjg (yid yjv (yij 3) (yij 2)) (eC (.int 1))))) (yij 7) (yij 8)) ykn)))
 (ykp (yii (yci (yij 4) (yci (yie (yc6 ye7 (yci (yij 5) yhr))) (yci (yij 7) yhr))))))))
noncomputable def f__law_seen_more:List D->M D:=hide (run 10 zal)
theorem zah:FnScope ["_law_pot_here", "_law_cell", "_law_at", "_law_late", "_law_side", "_law_stands", "_law_seen", "_law_found", "_law_word", "_law_part"] ["_law_pot_here", "_law_cell", "_law_at", "_law_late"] (ziy zap):=scD rfl rfl rfl (by decide +kernel)
theorem zad:BD "_law_seen_more" "_law_seen_more" zap ["_law_pot_here", "_law_cell", "_law_at", "_law_late"]:=
 fun _ _ _ _ _ _ us hl=>match us,hl with|[_,_,_,_],_=>rfl
theorem zaf(Xt:Txt K mg ca):OkF ⟨K,ca,tx K⟩ P w mg base 2 "_law_seen_more" ["_law_pot_here", "_law_cell", "_law_at", "_law_late"] f__law_seen_more:=
 OkF.hide (yfa Xt.f__law_seen_more zah fun _ _ _ _ _ _ _ hr=>
  (zj3 (zxq (zxe 0) (zxf rfl (zjl (zpo (i:=4) zah.nd rfl (Or.inl rfl)) (zjl (zpo (i:=5) zah.nd rfl (Or.inl rfl)) (zjl (zpo (i:=6) zah.nd rfl (Or.inl rfl)) zpp)))))
  (zj3 (zxv (i:=7) zah.nd rfl (Or.inl rfl) (zga zil zmx rfl Xt.n_dict boot_dict (zph (zxe 6) zw2)))
  (zj3 (zxt zhc rfl (zjn rfl Xt.n_range zw7) (zpo (i:=8) zah.nd rfl (Or.inl rfl)) (zj3 (zxv (i:=9) zah.nd rfl (Or.inl rfl) (zjg (zb5 Xt) rfl (hr.mono (by decide)) rfl (zph (zxe 1) (zph (ydh (zse rfl) ykx zw7 (zxe 8)) zw2))))
  (zqa (yds (L2.PW.pt (zx0 (zxw (zha (hu9 hr)) zfb (zxe 8) (zxe 7) rfl) (zqc (zxw (zzm (hu9 hr)) ykx (ydh zzp zul (zxe 9) zw7) zw7 (zy5 _))))) (zqa (zp7 (hu9 hr) (ydh (zse rfl) ykx (zxe 2) (ydh zzp zul (ydh zsg zui (zxe 9) zw7) (ydh (zse rfl) ykx (ydh zzt zuo (zxe 3) (zxe 2)) zw7))) (zxe 7) (zxe 8))) zp9))))
  (zqa (zxu (zxd (zph (zxe 4) (zph (zw6 (zga zcs (zm0 rfl) rfl Xt.n_list boot_list (zph (zxe 5) zw2))) (zph (zxe 7) zw2))))))))))
abbrev zc4:Stmt:=top 31
noncomputable def zct:Ev->M Fl:=
 (ykq (yki (yij 0) (tgT 3 (ybn (tgN 2) (ybn (tgN 3) (ybn (tgN 4) ygi)))))
 (ykq (sIf (yhx (eT (yid oGt (yc6 yjq (yci (yij 3) yhr)) (eC (.int 1)))) (eT (yid oGt (yid yjr (yij 1) (eC (.int 3))) (eC (.int 0))))) (ykq (ykr 5 (yid yjr (yid yjk (yij 1) (eC (.int 3))) (yc6 yjq (yci (yij 3) yhr))))
 (ykp (yii (yci (yij 2) (yci (yid oIx (eLv (yci (eSl (yij 3) (some (yij 5)) none) (yci (eSl (yij 3) (some (yij 5)) (some (yid yjg (yij 5) (eC (.int 1))))) yhr))) (yid yjr (yij 1) (eC (.int 2)))) (yci (yij 4) yhr)))))) ykn)
 (ykp (yij 0))))
noncomputable def f__law_fewer:List D->M D:=hide (run 6 zct)
theorem zcg:FnScope ["_law_pot_here", "_law_cell", "_law_side", "_law_stands", "_law_seen", "_law_at"] ["_law_pot_here", "_law_cell"] (ziy zc4):=scD rfl rfl rfl (by decide +kernel)
theorem zbr:BD "_law_fewer" "_law_fewer" zc4 ["_law_pot_here", "_law_cell"]:=
 fun _ _ _ _ _ _ us hl=>match us,hl with|[_,_],_=>rfl
theorem zb4(Xt:Txt K mg ca):OkF ⟨K,ca,tx K⟩ P w mg base 1 "_law_fewer" ["_law_pot_here", "_law_cell"] f__law_fewer:=
 OkF.hide (yfa Xt.f__law_fewer zcg fun _ _ _ _ _ _ _ hr=>
  (zj3 (zxq (zxe 0) (zxf rfl (zjl (zpo (i:=2) zcg.nd rfl (Or.inl rfl)) (zjl (zpo (i:=3) zcg.nd rfl (Or.inl rfl)) (zjl (zpo (i:=4) zcg.nd rfl (Or.inl rfl)) zpp)))))
  (zj3 (yds (L2.PW.pt (zx0 (zxw yfc yba (zjf zcr (zuk rfl) rfl Xt.n_len PySem.boot_len (zph (zxe 3) zw2)) zw7 (zy5 _)) (zqc (zxw yfc yba (ydh zzp zul (zxe 1) zw7) zw7 (zy5 _))))) (zj3 (zxv (i:=5) zcg.nd rfl (Or.inl rfl) (ydh zzp zul (ydh zsg zui (zxe 1) zw7) (zjf zcr (zuk rfl) rfl Xt.n_len PySem.boot_len (zph (zxe 3) zw2))))
  (zqa (zxu (zxd (zph (zxe 2) (zph (yde yi3 (ybc rfl) (ydg (zph (zjj rfl (zxe 3) (zpv (zxe 5)) zpu) (zph (zjj rfl (zxe 3) (zpv (zxe 5)) (zpv (ydh (zse rfl) ykx (zxe 5) zw7))) zw2))) (ydh zzp zul (zxe 1) zw7) (fun _ _=>rfl)) (zph (zxe 4) zw2))))))) zp9)
  (zqa (zxu (zxe 0))))))
abbrev zc6:Stmt:=top 30
noncomputable def zcv:Ev->M Fl:=
 (ykq (yki (yij 0) (tgT 3 (ybn (tgN 4) (ybn (tgN 5) (ybn (tgN 6) ygi)))))
 (ykm (yk0 (yij 5)) (tgT 3 (ybn (tgN 7) (ybn (tgN 8) (ybn (tgN 9) ygi)))) (ykm (yk0 (yij 9)) (tgT 4 (ybn (tgN 10) (ybn (tgN 11) (ybn (tgN 12) (ybn (tgN 13) ygi))))) (sIf (yhx (eT (yid oNe (yij 10) (yij 4))) (yhx (eT (yid (oIn false) (yij 12) (yij 1))) (yhx (eT (yid zr0 (yij 12) (yij 6))) (eT (zwn oLt oLe (yij 2) (yij 13) (yid yjg (yij 2) (yij 3))))))) (yfx (yij 2) (yij 6) (yij 12)) ykn))))
noncomputable def f__law_shows:List D->M D:=hide (run 14 zcv)
theorem zci:FnScope ["_law_pot_here", "_law_words", "_law_late", "_law_every", "_law_side", "_law_stands", "_law_seen", "_law_number", "_law_shares", "_law_ties", "_law_payer", "_law_amount_here", "_law_word", "_law_day"] ["_law_pot_here", "_law_words", "_law_late", "_law_every"] (ziy zc6):=scD rfl rfl rfl (by decide +kernel)
theorem zbt:BD "_law_shows" "_law_shows" zc6 ["_law_pot_here", "_law_words", "_law_late", "_law_every"]:=
 fun _ _ _ _ _ _ us hl=>match us,hl with|[_,_,_,_],_=>rfl
theorem zb6(Xt:Txt K mg ca):OkF ⟨K,ca,tx K⟩ P w mg base 1 "_law_shows" ["_law_pot_here", "_law_words", "_law_late", "_law_every"] f__law_shows:=
 OkF.hide (yfa Xt.f__law_shows zci fun _ _ _ _ _ _ _ hr=>
  (zj3 (zxq (zxe 0) (zxf rfl (zjl (zpo (i:=4) zci.nd rfl (Or.inl rfl)) (zjl (zpo (i:=5) zci.nd rfl (Or.inl rfl)) (zjl (zpo (i:=6) zci.nd rfl (Or.inl rfl)) zpp)))))
  (zqa (zxt zhc rfl (zxg rfl (zxe 5)) (zxf rfl (zjl (zpo (i:=7) zci.nd rfl (Or.inl rfl)) (zjl (zpo (i:=8) zci.nd rfl (Or.inl rfl)) (zjl (zpo (i:=9) zci.nd rfl (Or.inl rfl)) zpp)))) (zqa (zxt zhc rfl (zxg rfl (zxe 9)) (zxf rfl (zjl (zpo (i:=10) zci.nd rfl (Or.inl rfl)) (zjl (zpo (i:=11) zci.nd rfl (Or.inl rfl)) (zjl (zpo (i:=12) zci.nd rfl (Or.inl rfl)) (zjl (zpo (i:=13) zci.nd rfl (Or.inl rfl)) zpp))))) (zqa (yds (L2.PW.pt (zx0 (zxw (zzr (hu9 hr)) ykx (zxe 10) (zxe 4) (zy5 _)) (zx0 (zxw zhb (ybb rfl false) (zxe 12) (zxe 1) rfl) (zx0 (zxw (zha (hu9 hr)) zfb (zxe 12) (zxe 6) rfl) (zqc (zj4 yfe ybe yfd ybd (zxe 2) (zxe 13) (ydh (zse rfl) ykx (zxe 2) (zxe 3)))))))) (zqa (zp7 (hu9 hr) (zxe 2) (zxe 6) (zxe 12))) zp9))))))))
abbrev yfy:Stmt:=top 32
noncomputable def ydx:Ev->M Fl:=
 (ykq (yki (eFn 1 f__law_view [] (yci (yij 0) yhr)) (tgT 4 (ybn (tgN 1) (ybn (tgN 2) (ybn (tgN 3) (ybn (tgN 4) ygi))))))
 (ykq (ykr 5 (eFn 1 f_worth [] (yci (yie (yc8 0 5 f_View___init__ (yci (yij 1) (yci (yij 2) (yci (yij 3) (yci (yij 4) yhr)))))) yhr)))
 (ykq (ykr 6 (yid yjg (yij 2) (yid yjr (eFn 2 f__law_cell_at [] (yci (yij 0) (yci (eC (.int 7)) yhr))) (yid yjg (yij 1) (eC (.int 1))))))
 (ykq (ykr 7 (yih yhr))
 (ykq (ykm (ykz (yc6 yjq (yci (yij 4) yhr))) (tgN 8) (ykq (ykr 9 (eFn 4 f__law_seen_more [] (yci (yid oIx (yij 4) (yij 8)) (yci (eFn 2 f__law_cell_at [] (yci (yij 0) (yci (yid yjg (eC (.int 8)) (yij 8)) yhr))) (yci (yij 2) (yci (yij 6) yhr))))))
 (ykk (yc9 zrz (yij 7) (yci (eFn 2 f__law_fewer [] (yci (yij 9) (yci (eFn 2 f__law_cell_at [] (yci (yij 0) (yci (yid yjg (eC (.int 11)) (yij 8)) yhr))) yhr))) yhr)))))
 (ykq (ykr 10 (yc6 ye7 (yci (yij 3) yhr)))
 (ykq (ykm (ykz (eC (.int 7))) (tgN 11) (ykq (sIf (eT (yid oEq (yid yjr (eFn 2 f__law_mixed [] (yci (eFn 2 f__law_cell_at [] (yci (yij 0) (yci (eC (.int 14)) yhr))) (yci (yij 11) yhr))) (eC (.int 4))) (eC (.int 0)))) (ykk (yc9 zrz (yij 10) (yci (yij 11) yhr))) ykn)
 (ykm (yk0 (yij 7)) (tgT 3 (ybn (tgN 12) (ybn (tgN 13) (ybn (tgN 14) ygi)))) (sIf (eT (yid yji (yij 11) (yij 14))) (ykk (yc9 zrz (yij 10) (yci (yij 11) yhr))) ykn))))
 (ykq (ykm (yk0 (yij 7)) (tgN 15) (ykk (eFn 4 f__law_shows [] (yci (yij 15) (yci (yij 10) (yci (yij 6) (yci (yij 1) yhr)))))))
 (ykp (yid oGe (eFn 1 f_worth [] (yci (yie (yc8 0 5 f_View___init__ (yci (yij 1) (yci (yij 6) (yci (yij 10) (yci (yij 7) yhr)))))) yhr)) (yij 5)))))))))))
noncomputable def f_law:List D->M D:=run 16 ydx
theorem ya0:FnScope ["_law_script", "_law_every", "_law_at", "_law_words", "_law_pots", "_law_ahead", "_law_late", "_law_later", "_law_k", "_law_more", "_law_had", "_law_word", "_law_side", "_law_stands", "_law_seen", "_law_pot_here"] ["_law_script"] (ziy yfy):=scD rfl rfl rfl (by decide +kernel)
theorem zvr:BD "law" "law" yfy ["_law_script"]:=
 fun _ _ _ _ _ _ us hl=>match us,hl with|[_],_=>rfl
theorem zzg(Xt:Txt K mg ca):OkL ⟨K,ca,tx K⟩ P w mg 9 "law" ["_law_script"] f_law:=
 zzi Xt.f_law ya0 fun _ _ _ _ _ _ _ _ hr=>
  (zj3 (zxq (zjg (zc1 Xt) rfl (hr.mono (by decide)) rfl (zph (zxe 0) zw2)) (zxf rfl (zjl (zpo (i:=1) ya0.nd rfl (Or.inl rfl)) (zjl (zpo (i:=2) ya0.nd rfl (Or.inl rfl)) (zjl (zpo (i:=3) ya0.nd rfl (Or.inl rfl)) (zjl (zpo (i:=4) ya0.nd rfl (Or.inl rfl)) zpp))))))
  (zj3 (zxv (i:=5) ya0.nd rfl (Or.inl rfl) (zjg (zlt Xt) rfl (hr.mono (by decide)) rfl (zph (zw6 (zpl (c:=0) (ps:=["self", "every", "look", "words", "pots"]) ⟨_,Xt.m_View,Xt.mk_View,zam Xt⟩ rfl (hr.mono (by decide)) rfl (zph (zxe 1) (zph (zxe 2) (zph (zxe 3) (zph (zxe 4) zw2)))))) zw2)))
  (zj3 (zxv (i:=6) ya0.nd rfl (Or.inl rfl) (ydh (zse rfl) ykx (zxe 2) (ydh zzp zul (zjg (za0 Xt) rfl (hr.mono (by decide)) rfl (zph (zxe 0) (zph zw7 zw2))) (ydh (zse rfl) ykx (zxe 1) zw7))))
  (zj3 (zxv (i:=7) ya0.nd rfl (Or.inl rfl) (zw9 zw2))
  (zj3 (zxt zhc rfl (zjn rfl Xt.n_range (zjf zcr (zuk rfl) rfl Xt.n_len PySem.boot_len (zph (zxe 4) zw2))) (zpo (i:=8) ya0.nd rfl (Or.inl rfl)) (zj3 (zxv (i:=9) ya0.nd rfl (Or.inl rfl) (zjg (zaf Xt) rfl (hr.mono (by decide)) rfl (zph (yde yi3 (ybc rfl) (zxe 4) (zxe 8) (fun _ _=>rfl)) (zph (zjg (za0 Xt) rfl (hr.mono (by decide)) rfl (zph (zxe 0) (zph (ydh (zse rfl) ykx zw7 (zxe 8)) zw2))) (zph (zxe 2) (zph (zxe 6) zw2))))))
  (zqa (zp5 (zpm PySem.F.plainAttrs_list PySem.F.slot_list_append PySem.F.type_list_append zg1 zfa (zxe 7) (zph (zjg (zb4 Xt) rfl (hr.mono (by decide)) rfl (zph (zxe 9) (zph (zjg (za0 Xt) rfl (hr.mono (by decide)) rfl (zph (zxe 0) (zph (ydh (zse rfl) ykx zw7 (zxe 8)) zw2))) zw2))) zw2))))))
  (zj3 (zxv (i:=10) ya0.nd rfl (Or.inl rfl) (zga zcs (zm0 rfl) rfl Xt.n_list boot_list (zph (zxe 3) zw2)))
  (zj3 (zxt zhc rfl (zjn rfl Xt.n_range zw7) (zpo (i:=11) ya0.nd rfl (Or.inl rfl)) (zj3 (yds (zxw (zzm (hu9 hr)) ykx (ydh zzp zul (zjg (zb5 Xt) rfl (hr.mono (by decide)) rfl (zph (zjg (za0 Xt) rfl (hr.mono (by decide)) rfl (zph (zxe 0) (zph zw7 zw2))) (zph (zxe 11) zw2))) zw7) zw7 (zy5 _)) (zqa (zp5 (zpm PySem.F.plainAttrs_list PySem.F.slot_list_append PySem.F.type_list_append zg1 zfa (zxe 10) (zph (zxe 11) zw2)))) zp9)
  (zqa (zxt zhc rfl (zxg rfl (zxe 7)) (zxf rfl (zjl (zpo (i:=12) ya0.nd rfl (Or.inl rfl)) (zjl (zpo (i:=13) ya0.nd rfl (Or.inl rfl)) (zjl (zpo (i:=14) ya0.nd rfl (Or.inl rfl)) zpp)))) (zqa (yds (zxw (zzl (hu9 hr)) zuh (zxe 11) (zxe 14) rfl) (zqa (zp5 (zpm PySem.F.plainAttrs_list PySem.F.slot_list_append PySem.F.type_list_append zg1 zfa (zxe 10) (zph (zxe 11) zw2)))) zp9))))))
  (zj3 (zxt zhc rfl (zxg rfl (zxe 7)) (zpo (i:=15) ya0.nd rfl (Or.inl rfl)) (zqa (zp5 (zjg (zb6 Xt) rfl (hr.mono (by decide)) rfl (zph (zxe 15) (zph (zxe 10) (zph (zxe 6) (zph (zxe 1) zw2))))))))
  (zqa (zxu (zw4 yfb ya9 (zjg (zlt Xt) rfl (hr.mono (by decide)) rfl (zph (zw6 (zpl (c:=0) (ps:=["self", "every", "look", "words", "pots"]) ⟨_,Xt.m_View,Xt.mk_View,zam Xt⟩ rfl (hr.mono (by decide)) rfl (zph (zxe 1) (zph (zxe 6) (zph (zxe 10) (zph (zxe 7) zw2)))))) zw2)) (zxe 5) (zy5 _))))))))))))
end
end K34
namespace K34
open PySem L2 L4
set_option maxHeartbeats 4000000
def yct(ns:List Int)(k:Nat):Int:=ns.getD k 0
theorem zoi(ns:List Int)(k:Int)(hk:0<=k)(σ:Sto):f__law_cell_at [.scr ns,.int k] σ=.ok (.int (yct ns k.toNat)) σ:=by
 unfold f__law_cell_at zbc yct;by_cases h:k<ns.length
 ·simp[h,zr7 hk h]
 ·have e:ns.length<=k.toNat:=by omega
  simp[h,List.getElem?_eq_none e]
structure Ti where
 p:Int
 a:Int
 w:Int
 d:Int
def Ti.D(t:Ti):L4.D:=.tup [.int t.p,.int t.a,.int t.w,.int t.d]
structure Ti.Ok(t:Ti):Prop where
 p1:0<=t.p
 p2:t.p<=1
 a1:1<=t.a
 a2:t.a<=1000000000000
 w1:0<=t.w
 w2:t.w<=59
 d1:0<=t.d
 d2:t.d<=1000000
@[simp] theorem Ti.cl(t:Ti):L4.cl t.D=true:=by simp[Ti.D]
@[simp] theorem Ti.clL(ts:List Ti):L4.clL (ts.map Ti.D)=true:=zom Ti.cl
structure TsOk(ts:List Ti):Prop where
 ok:∀ t∈ts,t.Ok
 nd:(ts.map (·.w)).Nodup
 len:ts.length<=6
section
variable{α:Type}{xs:List α}{σ:Sto}{ρ:Ev}{ix:List Nat}{fi:Ev->M Bool}{fe:Ev->M D}
theorem zyp{rest:Ev}(f:α->D)(p:α->Bool)(y:α->D)(step:∀ x∈xs,∀ j,fi (some (f x)::rest) (σ++j)=.ok (p x) (σ++j)/\(p x=true->fe (some (f x)::rest) (σ++j)=.ok (y x) (σ++j)))(hl:xs.length<=1000) :
  ∀ (k i:Nat) (o:Option D) (ys:List D),xs.length<k+i->i<=xs.length->ys.length<=i->
   zyr (.seq (xs.map f)) σ.length (tgN 0) fi fe k i (o::rest) (σ++[.lst ys])=.ok () (σ++[.lst (ys++((xs.drop i).filter p).map y)]):=by
 intro k;induction k with
 |zero=>intro i o ys h1 h2;omega
 |succ k ih=>
  intro i o ys h1 h2 hy;unfold zyr;show (match some (xs.map f)[i]? with|none=>_|some none=>_|some (some d)=>_)=_;rw[List.getElem?_map];cases e:xs[i]? with
  |none=>
   have hi:xs.length<=i:=List.getElem?_eq_none_iff.mp e;rw[List.drop_eq_nil_of_le hi];simp
  |some d=>
   obtain⟨hi,ed⟩:=List.getElem?_eq_some_iff.mp e;have hd:xs.drop i=d::xs.drop (i+1):=by rw[<-ed];exact List.drop_eq_getElem_cons hi
   obtain⟨s1,s2⟩:=step d (by rw[<-ed];exact List.getElem_mem hi) [.lst ys];show bnd (nox (fi (some (f d)::rest))) _ _=_;rw[zvv,zy6 s1,zod];dsimp only[List.set];by_cases hp:p d=true
   ·rw[hp,if_pos rfl,zvv,zy6 (s2 hp),zod,zvv,zd9 (by omega),zod,ih (i+1) (some (f d)) (ys++[y d]) (by omega) (by omega) (by simp;omega),hd,List.filter_cons,if_pos hp];simp
   ·rw[if_neg hp,ih (i+1) (some (f d)) ys (by omega) (by omega) (by omega),hd,List.filter_cons,if_neg hp]
theorem zyo{src:Ev->M Src}(f:α->D)(p:α->Bool)(y:α->D)(hs:src ρ σ=.ok (.seq (xs.map f)) σ)(hl:xs.length<=1000)
  (step:∀ x∈xs,∀ j,fi (some (f x)::(ix.map fun i=>(ρ[i]?).getD none)) (σ++j)=.ok (p x) (σ++j)/\(p x=true->fe (some (f x)::(ix.map fun i=>(ρ[i]?).getD none)) (σ++j)=.ok (y x) (σ++j))) :
  eLC src ix (tgN 0) fi fe ρ σ=.ok (.ref σ.length) (σ++[.lst ((xs.filter p).map y)]):=by
 show bnd (src ρ) (lcK (tgN 0) fi fe (ycm ix ρ)) σ=_;rw[zvv,hs,zod];show bnd (zyr (.seq (xs.map f)) σ.length (tgN 0) fi fe 1001 0 (none::(ix.map fun i=>(ρ[i]?).getD none))) _ (σ++[.lst []])=_;rw[zvv,zyp f p y step hl 1001 0 none [] (by omega) (by omega) (by simp),zod];simp
theorem zp2{zs:List D}(h:clL zs=true):yir σ (.ok (.ref σ.length) (σ++[.lst zs]))=.ok (.lst zs) σ:=by
 have:=zj0 (σ:=σ) (j:=[]) (j':=[]) h;simpa using this
theorem ycv(p:α->Bool)(y:α->D)(hc:∀ x∈xs,cl (y x)=true):clL ((xs.filter p).map y)=true:=
 zol fun d hd=>by obtain⟨x,hx,rfl⟩:=List.mem_map.mp hd;exact hc x (List.mem_filter.mp hx).1
theorem lcA{src:Ev->M Src}(f:α->D)(p:α->Bool)(y:α->D)(hs:src ρ σ=.ok (.seq (xs.map f)) σ)(hl:xs.length<=1000)
  (step:∀ x∈xs,∀ j,fi (some (f x)::(ix.map fun i=>(ρ[i]?).getD none)) (σ++j)=.ok (p x) (σ++j)/\(p x=true->fe (some (f x)::(ix.map fun i=>(ρ[i]?).getD none)) (σ++j)=.ok (y x) (σ++j))) (hc:∀ x∈xs,cl (y x)=true) :
  yie (eLC src ix (tgN 0) fi fe) ρ σ=.ok (.lst ((xs.filter p).map y)) σ:=by
 show yir σ (eLC src ix (tgN 0) fi fe ρ σ)=_;rw[zyo f p y hs hl step,zp2 (ycv p y hc)]
theorem yi7{src:Ev->M Src}(f y:α->D)(hs:src ρ σ=.ok (.seq (xs.map f)) σ)(hl:xs.length<=1000)
  (step:∀ x∈xs,∀ j,fe (some (f x)::(ix.map fun i=>(ρ[i]?).getD none)) (σ++j)=.ok (y x) (σ++j)) (hc:∀ x∈xs,cl (y x)=true) :
  yie (eLC src ix (tgN 0) ycl fe) ρ σ=.ok (.lst (xs.map y)) σ:=by
 have:=lcA f (fun _=>true) y (ix:=ix) (fi:=ycl) hs hl (fun d hd j=>⟨rfl,fun _=>step d hd j⟩) hc;rw[show List.filter (fun _=>true) xs=xs from List.filter_eq_self.mpr fun _ _=>rfl]at this;exact this
def yg8(nx:NX)(xs:List α)(f g:α->D):Prop:=∀ i σ,nx i σ=match xs[i]? with
 |some x=>some (some (.tup [f x,g x]))
 |none=>if i=xs.length then some none else none
theorem zyq{nx:NX}{rest:Ev}(f g:α->D)(p:α->Bool)(y:α->D)(hn:yg8 nx xs f g)(step:∀ x∈xs,∀ j,fi (some (f x)::some (g x)::rest) (σ++j)=.ok (p x) (σ++j)/\(p x=true->fe (some (f x)::some (g x)::rest) (σ++j)=.ok (y x) (σ++j)))(hl:xs.length<=1000) :
  ∀ (k i:Nat) (o o':Option D) (ys:List D),xs.length<k+i->i<=xs.length->ys.length<=i->
   zra nx σ.length (tgT 2 (ybn (tgN 0) (ybn (tgN 1) ygi))) fi fe k i (o::o'::rest) (σ++[.lst ys])=.ok () (σ++[.lst (ys++((xs.drop i).filter p).map y)]):=by
 intro k;induction k with
 |zero=>intro i o o' ys h1 h2;omega
 |succ k ih=>
  intro i o o' ys h1 h2 hy;unfold zra;rw[hn];cases e:xs[i]? with
  |none=>
   have hi:xs.length<=i:=List.getElem?_eq_none_iff.mp e;have hi2:i=xs.length:=by omega
   dsimp only;rw[if_pos hi2,List.drop_eq_nil_of_le hi];simp
  |some d=>
   obtain⟨hi,ed⟩:=List.getElem?_eq_some_iff.mp e;have hd:xs.drop i=d::xs.drop (i+1):=by rw[<-ed];exact List.drop_eq_getElem_cons hi
   obtain⟨s1,s2⟩:=step d (by rw[<-ed];exact List.getElem_mem hi) [.lst ys];show bnd (nox (fi (some (f d)::some (g d)::rest))) _ _=_;rw[zvv,zy6 s1,zod];by_cases hp:p d=true
   ·rw[hp,if_pos rfl];show bnd (nox (fe (some (f d)::some (g d)::rest))) _ _=_;rw[zvv,zy6 (s2 hp),zod,zvv,zd9 (by omega),zod];show zra _ _ _ _ _ k (i+1) (some (f d)::some (g d)::rest) _=_;rw[ih (i+1) (some (f d)) (some (g d)) (ys++[y d]) (by omega) (by omega) (by simp;omega),hd,List.filter_cons,if_pos hp];simp
   ·rw[if_neg hp];show zra _ _ _ _ _ k (i+1) (some (f d)::some (g d)::rest) _=_;rw[ih (i+1) (some (f d)) (some (g d)) ys (by omega) (by omega) (by omega),hd,List.filter_cons,if_neg hp]
theorem lcC{src:Ev->M NX}{nx:NX}(f g:α->D)(y:α->D)(hs:src ρ σ=.ok nx σ)(hn:yg8 nx xs f g)(hl:xs.length<=1000)
  (step:∀ x∈xs,∀ j,fe (some (f x)::some (g x)::(ix.map fun i=>(ρ[i]?).getD none)) (σ++j)=.ok (y x) (σ++j)) (hc:∀ x∈xs,cl (y x)=true) :
  yie (yig src ix (tgT 2 (ybn (tgN 0) (ybn (tgN 1) ygi))) ycl fe) ρ σ=.ok (.lst (xs.map y)) σ:=by
 show yir σ (yig src ix (tgT 2 (ybn (tgN 0) (ybn (tgN 1) ygi))) ycl fe ρ σ)=_;have ft:xs.filter (fun _=>true)=xs:=List.filter_eq_self.mpr fun _ _=>rfl;have e:yig src ix (tgT 2 (ybn (tgN 0) (ybn (tgN 1) ygi))) ycl fe ρ σ=.ok (.ref σ.length) (σ++[.lst (xs.map y)]):=by
  show bnd (src ρ) (yi8 _ ycl fe (zvt ix ρ)) σ=_;rw[zvv,hs,zod];show bnd (zra nx σ.length _ ycl fe 1001 0 (none::none::(ix.map fun i=>(ρ[i]?).getD none))) _ (σ++[.lst []])=_;rw[zvv,zyq f g (fun _=>true) y hn (fun d hd j=>⟨rfl,fun _=>step d hd j⟩) hl 1001 0 none none [] (by omega) (by omega) (by simp),zod];simp[ft]
 rw[e];have:=ycv (xs:=xs) (fun _=>true) y hc;rw[ft]at this;exact zp2 this
theorem zli(kv:List α)(k:α->Key)(v:α->D):yg8 (nxI ((kv.map k).zip (kv.map v))) kv (fun x=>yi6 (k x)) v:=fun i σ=>by
 have e:(kv.map k).zip (kv.map v)=kv.map fun x=>(k x,v x):=by
  induction kv with
  |nil=>rfl
  |cons x kv ih=>simp only[List.map_cons,List.zip_cons_cons,ih]
 unfold nxI;rw[e,List.getElem?_map,List.length_map];cases kv[i]?<;>rfl
theorem zy7{β:Type}(xs:List α)(ys:List β)(f:α->D)(g:β->D):yg8 (nxZ (.lst (xs.map f)) (.lst (ys.map g))) (xs.zip ys) (fun p=>f p.1) (fun p=>g p.2):=fun i σ=>by
 unfold nxZ;have h1:yja σ (.lst (xs.map f))=some (xs.map f):=rfl;have h2:yja σ (.lst (ys.map g))=some (ys.map g):=rfl;simp only[h1,h2,List.getElem?_map,List.length_map,List.length_zip];cases e1:xs[i]? with
 |none=>
  have:(xs.zip ys)[i]?=none:=by
   rw[List.getElem?_eq_none_iff]at e1 ⊢;rw[List.length_zip];omega
  rw[this];rfl
 |some a=>
  cases e2:ys[i]? with
  |none=>
   have:(xs.zip ys)[i]?=none:=by
    rw[List.getElem?_eq_none_iff]at e2 ⊢;rw[List.length_zip];omega
   rw[this];rfl
  |some b=>
   have:(xs.zip ys)[i]?=some (a,b):=by
    rw[List.getElem?_zip_eq_some];exact⟨e1,e2⟩
   rw[this];rfl
end
def shD(l:List (Int × Int)):D:=.dic (l.map fun p=>.inl p.1) (l.map fun p=>.int p.2)
def kvI(l:List (Int × Int)):List (Key × D):=l.map fun p=>(.inl p.1,.int p.2)
@[simp] theorem ya5(l:List (Int × Int)):cl (shD l)=true:=by unfold shD cl;exact zom fun _=>by simp
theorem zo0(l:List (Int × Int))(σ:Sto):yib σ (shD l)=some (kvI l):=by
 unfold yib shD kvI;dsimp only;rw[if_pos (by simp)];congr 1;induction l with
 |nil=>rfl
 |cons p l ih=>simp only[List.map_cons,List.zip_cons_cons,ih]
def val(l:List (Int × Int))(w:Int):Option Int:=(l.find? fun p=>decide (p.1=w)).map (·.2)
theorem zjp(w:Int):∀ (l:List (Int × Int)),ydj (kvI l) (.inl w)=(val l w).map D.int
 |[]=>rfl
 |p::l=>by
  have ih:=zjp w l;unfold ydj kvI val at *;rw[List.map_cons,List.find?_cons,List.find?_cons];by_cases e:p.1=w
  ·simp[e]
  ·have e2:¬ (Sum.inl p.1:Key)=Sum.inl w:=fun z=>e (Sum.inl.inj z);simp only[e,e2,decide_false]at ih ⊢;exact ih
theorem zwj(l:List (Int × Int))(w:Int)(σ:Sto):yji (.int w) (shD l) σ=.ok (.bl (val l w).isSome) σ:=by
 unfold yji;simp only[yi4,zo0,zjp];cases val l w<;>rfl
theorem zo5{l:List (Int × Int)}{w v:Int}(h:val l w=some v)(σ:Sto):yez (shD l) (.int w) σ=.ok (.int v) σ:=by
 unfold yez;simp only[yi4,zo0,zjp,h];rfl
theorem zwg(l:List (Int × Int))(σ:Sto):yjj [shD l] σ=.ok (shD l) σ:=by
 unfold yjj;simp only[zo0];unfold shD kvI;simp[List.map_map,Function.comp_def]
def yj2(l:List (Int × Int))(w v:Int):List (Int × Int):=if l.any (fun p=>decide (p.1=w))then l.map fun p=>if p.1=w then (p.1,v)else p else l++[(w,v)]
theorem zl7(l:List (Int × Int))(w v:Int):(yj2 l w v).length<=l.length+1:=by unfold yj2;split<;>simp
theorem zhh(l:List (Int × Int))(w v:Int):yfm (kvI l) (.inl w) (.int v)=kvI (yj2 l w v):=by
 have ha:((kvI l).any fun kv=>decide (kv.1=(Sum.inl w:Key)))=l.any fun p=>decide (p.1=w):=by
  unfold kvI;rw[List.any_map];congr 1;funext p;simp
 unfold yfm yj2;rw[ha];split
 ·unfold kvI;rw[List.map_map,List.map_map];congr 1;funext p;simp only[Function.comp];by_cases e:p.1=w
  ·simp[e]
  ·have e2:¬ (Sum.inl p.1:Key)=Sum.inl w:=fun z=>e (Sum.inl.inj z);simp[e]
 ·unfold kvI;rw[List.map_append];rfl
structure St where
 (n a b:Int) (ts:List Ti)
def St.D(s:St):L4.D:=.tup [.int s.n,.tup [.int s.a,.int s.b],.tup (s.ts.map Ti.D)]
structure Po where
 (s:Int) (st:List St) (sn:List (Int × Int))
def Po.D(p:Po):L4.D:=.tup [.int p.s,.lst (p.st.map St.D),shD p.sn]
structure Vw where
 (e k:Int) (ws:List Int) (ps:List Po)
def Vw.D(v:Vw):L4.D:=.tup [.int v.e,.int v.k,.lst (v.ws.map D.int),.lst (v.ps.map Po.D)]
def Vw.O(v:Vw):L4.D:=.obj 0 ["every", "last_look", "known", "pots"] [.int v.e,.int v.k,.lst (v.ws.map D.int),.lst (v.ps.map Po.D)]
@[simp] theorem St.cl(s:St):L4.cl s.D=true:=by simp[St.D]
@[simp] theorem Po.cl(p:Po):L4.cl p.D=true:=by
 have:L4.clL (p.st.map St.D)=true:=zom fun _=>by simp
 simp[Po.D,this]
@[simp] theorem Vw.cl(v:Vw):L4.cl v.D=true:=by
 have h1:L4.clL (v.ps.map Po.D)=true:=zom fun _=>by simp
 have h2:L4.clL (v.ws.map D.int)=true:=zom fun _=>by simp
 simp[Vw.D,h1,h2]
theorem St.i0(s:St)(σ:Sto):oIx s.D (.int 0) σ=.ok (.int s.n) σ:=by unfold St.D;simp
theorem St.i1(s:St)(σ:Sto):oIx s.D (.int 1) σ=.ok (.tup [.int s.a,.int s.b]) σ:=by unfold St.D;simp
theorem St.i2(s:St)(σ:Sto):oIx s.D (.int 2) σ=.ok (.tup (s.ts.map Ti.D)) σ:=by unfold St.D;simp
theorem Po.i0(p:Po)(σ:Sto):oIx p.D (.int 0) σ=.ok (.int p.s) σ:=by unfold Po.D;simp
theorem Po.i1(p:Po)(σ:Sto):oIx p.D (.int 1) σ=.ok (.lst (p.st.map St.D)) σ:=by unfold Po.D;simp
theorem Po.i2(p:Po)(σ:Sto):oIx p.D (.int 2) σ=.ok (shD p.sn) σ:=by unfold Po.D;simp
theorem Ti.i0(t:Ti)(σ:Sto):oIx t.D (.int 0) σ=.ok (.int t.p) σ:=by unfold Ti.D;simp
theorem Ti.i1(t:Ti)(σ:Sto):oIx t.D (.int 1) σ=.ok (.int t.a) σ:=by unfold Ti.D;simp
theorem Ti.i2(t:Ti)(σ:Sto):oIx t.D (.int 2) σ=.ok (.int t.w) σ:=by unfold Ti.D;simp
theorem Ti.i3(t:Ti)(σ:Sto):oIx t.D (.int 3) σ=.ok (.int t.d) σ:=by unfold Ti.D;simp
theorem Vw.f0(v:Vw)(σ:Sto):yjm [0] "every" v.O σ=.ok (.int v.e) σ:=zr5 (zgh rfl) rfl rfl
theorem Vw.f1(v:Vw)(σ:Sto):yjm [0] "last_look" v.O σ=.ok (.int v.k) σ:=zr5 (zgh rfl) rfl rfl
theorem Vw.f2(v:Vw)(σ:Sto):yjm [0] "known" v.O σ=.ok (.lst (v.ws.map D.int)) σ:=zr5 (zgh rfl) rfl rfl
theorem Vw.f3(v:Vw)(σ:Sto):yjm [0] "pots" v.O σ=.ok (.lst (v.ps.map Po.D)) σ:=zr5 (zgh rfl) rfl rfl
def inT(l:List (Int × Int))(t:Ti):Bool:=match val l t.w with|some v=>decide (v<t.d)|none=>false
def inW(ws:List Int)(w:Int):Bool:=ws.any fun z=>z == w
def lot(v:Vw)(s:Int)(sn:List (Int × Int))(t:Ti):Str:=
 if inT sn t then (if t.p == s then "lost" else "won")
 else if decide (t.d<=v.k)then (if t.p == s then "back" else "gone")
 else if t.p == s then "open"
 else if inW v.ws t.w && decide (v.k+v.e<t.d)then "sure" else "hangs"
theorem zmt(t:Ti)(sn:List (Int × Int))(σ:Sto):f_shown_in_time [t.D,shD sn] σ=.ok (.bl (inT sn t)) σ:=by
 have i2:=fun σ=>t.i2 σ;have i3:=fun σ=>t.i3 σ;have d1:=fun σ=>zwj sn t.w σ;unfold f_shown_in_time zay inT;cases hv:val sn t.w with
 |none=>
  rw[hv]at d1;generalize t.D=TD at *;generalize shD sn=SD at *;simp[i2,i3,d1]
 |some x=>
  have d2:=fun σ=>zo5 hv σ;rw[hv]at d1;generalize t.D=TD at *;generalize shD sn=SD at *;simp[i2,i3,d1,d2]
theorem zjd(w:Int)(σ:Sto):∀ ws:List Int,yil σ (.int w) (ws.map D.int)=some (ws.map fun z=>z == w)
 |[]=>rfl
 |z::ws=>by
  have e:eqD σ 7 (.int z) (.int w)=some (z == w):=by simp[eqD,kd,eqK,eqV]
  simp only[List.map_cons];unfold yil;rw[e,zjd w σ ws]
theorem zkj(ws:List Int)(w:Int)(σ:Sto):yjn false (.int w) (.lst (ws.map D.int)) σ=.ok (.bl (inW ws w)) σ:=by
 have h3:yf1 σ (.lst (ws.map D.int))=some (ws.map D.int):=rfl;unfold yjn;simp only[h3,zjd];simp[inW,List.any_map,Function.comp_def]
theorem zsj(v:Vw)(sn:List (Int × Int))(t:Ti)(σ:Sto):f_lot_of_paid [v.O,shD sn,t.D] σ=.ok (.str (if inT sn t then "lost" else if decide (t.d<=v.k)then "back" else "open")) σ:=by
 have h1:=fun σ=>zmt t sn σ;have h2:=fun σ=>v.f1 σ;have i3:=fun σ=>t.i3 σ;unfold f_lot_of_paid zb2;generalize inT sn t=b1 at *;generalize hb2:decide (t.d<=v.k)=b2 at *;generalize t.D=TD at *;generalize shD sn=SD at *;generalize v.O=VO at *;cases b1<;>cases b2<;>simp[h1,h2,i3,hb2]
theorem zwm(v:Vw)(sn:List (Int × Int))(t:Ti)(σ:Sto):f_lot_of_due [v.O,shD sn,t.D] σ=.ok (.str (if inT sn t then "won" else if decide (t.d<=v.k)then "gone" else if inW v.ws t.w && decide (v.k+v.e<t.d)then "sure" else "hangs")) σ:=by
 have h1:=fun σ=>zmt t sn σ;have h2:=fun σ=>v.f1 σ;have h3:=fun σ=>v.f0 σ;have h4:=fun σ=>v.f2 σ;have h5:=fun σ=>zkj v.ws t.w σ;have i2:=fun σ=>t.i2 σ;have i3:=fun σ=>t.i3 σ;unfold f_lot_of_due zcy;generalize inT sn t=b1 at *;generalize hb2:decide (t.d<=v.k)=b2 at *;generalize inW v.ws t.w=b3 at *;generalize hb4:decide (v.k+v.e<t.d)=b4 at *;generalize t.D=TD at *;generalize shD sn=SD at *;generalize v.O=VO at *;generalize v.ws.map D.int=WL at *;cases b1<;>cases b2<;>cases b3<;>cases b4<;>simp[h1,h2,h3,h4,h5,i2,i3,hb2,hb4]
theorem zyx(v:Vw)(p:Po)(t:Ti)(σ:Sto):f_lot_of [v.O,p.D,t.D] σ=.ok (.str (lot v p.s p.sn t)) σ:=by
 have h1:=fun σ=>zsj v p.sn t σ;have h2:=fun σ=>zwm v p.sn t σ;have p0:=fun σ=>p.i0 σ;have p2:=fun σ=>p.i2 σ;have i0:=fun σ=>t.i0 σ;unfold f_lot_of zj5 lot;generalize inT p.sn t=b1 at *;generalize decide (t.d<=v.k)=b2 at *;generalize (inW v.ws t.w && decide (v.k+v.e<t.d))=b3 at *;generalize hb4:(t.p == p.s)=b4 at *;generalize t.D=TD at *;generalize shD p.sn=SD at *;generalize v.O=VO at *;generalize p.D=PD at *;cases b4<;>cases b1<;>cases b2<;>cases b3<;>simp[h1,h2,p0,p2,i0,hb4]
theorem zya(σ:Sto):ye5 [.bl true] σ=.ok (.int 1) σ:=rfl
theorem zx9(σ:Sto):ye5 [.bl false] σ=.ok (.int 0) σ:=rfl
def ydk(l:Str):Bool:=inV (.str l) ((["won", "sure", "back"]:List Str).map V.str)
def yin(g:Ti->Str):List Ti->Int
 |[]=>0
 |t::ts=>(if ydk (g t)then t.a else 0)+yin g ts
def lD(g:Ti->Str)(t:Ti):D:=.tup [.str (g t),.int t.a,.int t.d]
@[simp] theorem yec(g:Ti->Str)(t:Ti):cl (lD g t)=true:=by simp[lD]
def kvL(g:Ti->Str)(ts:List Ti):List (Key × D):=ts.map fun t=>(.inl t.w,lD g t)
theorem put_new{kvs:List (Key × D)}{k:Key}(d:D)(h:k ∉ kvs.map (·.1)):yfm kvs k d=kvs++[(k,d)]:=by
 have:(kvs.any fun kv=>decide (kv.1=k))=false:=by
  rw[List.any_eq_false];intro p hp z;exact h (List.mem_map.mpr ⟨p,hp,by simpa using z⟩)
 unfold yfm;rw[this];rfl
theorem zmp{σ:Sto}{kvs:List (Key × D)}(w:Int)(d:D)(hl:kvs.length<1000)(ρ:Ev):yf4 ρ d (.ref σ.length) (.int w) (σ++[.dic kvs])=.ok (.nx ρ) (σ++[.dic (yfm kvs (.inl w) d)]):=by
 have e:(σ++[Ob.dic kvs])[σ.length]?=some (.dic kvs):=by simp
 unfold yf4;simp only[yi4,e];rw[if_pos (by unfold cap;omega),zt1]
theorem zj1{σ:Sto}{a:D}{kvs:List (Key × D)}(ha:cl a=true)(h:clL (kvs.map (·.2))=true):yir σ (.ok (.tup [a,.ref σ.length]) (σ++[.dic kvs]))=.ok (.tup [a,.dic (kvs.map (·.1)) (kvs.map (·.2))]) σ:=by
 have e:(σ++[Ob.dic kvs])[σ.length]?=some (.dic kvs):=by simp
 have hz:∀ (k m:Nat) (σ':Sto) (xs:List D),clL xs=true->fzL (fz k σ' m) xs=some xs:=by
  intro k m σ' xs;induction xs with
  |nil=>intro _;rfl
  |cons x xs ih=>
   intro hc;have hc':cl x=true/\clL xs=true:=by simpa [clL,Bool.and_eq_true]using hc
   unfold fzL;rw[ydu hc'.1,ih hc'.2]
 have hr:fz σ.length (σ++[Ob.dic kvs]) 5 (.ref σ.length)=some (.dic (kvs.map (·.1)) (kvs.map (·.2))):=by
  unfold fz;rw[if_neg (by simp[cl])];dsimp only;rw[if_neg (Nat.lt_irrefl _),e];dsimp only;rw[hz _ _ _ _ h];rfl
 have ht:fz σ.length (σ++[Ob.dic kvs]) 6 (.tup [a,.ref σ.length])=some (.tup [a,.dic (kvs.map (·.1)) (kvs.map (·.2))]):=by
  unfold fz;rw[if_neg (by simp[cl,clL,ha])];dsimp only;unfold fzL;rw[ydu ha];unfold fzL;rw[hr];rfl
 unfold yir;dsimp only;rw[if_pos (by simp),ht]
noncomputable abbrev rsB:Ev->M Fl:=(ykq (ykr 6 (eFn 3 f_lot_of [] (yci (yij 0) (yci (yij 1) (yci (yij 5) yhr)))))
 (ykq (yfx (yii (yci (yij 6) (yci (yid oIx (yij 5) (eC (.int 1))) (yci (yid oIx (yij 5) (eC (.int 3))) yhr)))) (yij 4) (yid oIx (yij 5) (eC (.int 2))))
 (sIf (eT (eUn (yjo false ["won", "sure", "back"]) (yij 6))) (ykj (fun a b=>a+b) 3 (yid oIx (yij 5) (eC (.int 1)))) ykn)))
@[simp] theorem zmh(f fo fi:Ev->M D)(ρ:Ev)(σ:Sto):yfx f fo fi ρ σ=xsO ρ (yf2 ρ fo fi) (f ρ σ):=ygq ..
@[simp] theorem zmn(fo fi:Ev->M D)(d:D)(ρ:Ev)(σ:Sto):yf2 ρ fo fi d σ=xsO ρ (yf3 ρ fi d) (fo ρ σ):=ygq ..
@[simp] theorem zmo(fi:Ev->M D)(d x:D)(ρ:Ev)(σ:Sto):yf3 ρ fi d x σ=xsO ρ (yf4 ρ d x) (fi ρ σ):=ygq ..
@[simp] theorem zi4(ρ:Ev)(σ:Sto):yc7 ρ σ=.ok (.ref σ.length) (σ++[.dic []]):=nr rfl
theorem zqr(z:Str)(σ:Sto):yjo false ["won", "sure", "back"] (.str z) σ=.ok (.bl (ydk z)) σ:=rfl
theorem ztb(v:Vw)(p:Po)(S:D)(a:Int)(t:Ti)(done:List Ti)(x6:Option D)(σ:Sto)(hw:t.w ∉ done.map (·.w))(hl:done.length<1000) :
  rsB [some v.O,some p.D,some S,some (.int a),some (.ref σ.length),some t.D,x6] (σ++[.dic (kvL (lot v p.s p.sn) done)])=.ok (.nx [some v.O,some p.D,some S,some (.int (a+if ydk (lot v p.s p.sn t)then t.a else 0)),some (.ref σ.length),some t.D,some (.str (lot v p.s p.sn t))]) (σ++[.dic (kvL (lot v p.s p.sn) (done++[t]))]):=by
 have h1:=fun σ=>zyx v p t σ;have i1:=fun σ=>t.i1 σ;have i2:=fun σ=>t.i2 σ;have i3:=fun σ=>t.i3 σ;have hk:(Sum.inl t.w:Key) ∉ (kvL (lot v p.s p.sn) done).map (·.1):=fun z=>by
  unfold kvL at z;rw[List.map_map]at z;obtain⟨u,hu,e⟩:=List.mem_map.mp z;have e':u.w=t.w:=Sum.inl.inj e;exact hw (List.mem_map.mpr ⟨u,hu,e'⟩)
 have st:=fun ρ=>zmp (σ:=σ) (kvs:=kvL (lot v p.s p.sn) done) t.w (lD (lot v p.s p.sn) t) (by unfold kvL;simpa using hl) ρ;rw[put_new _ hk,show kvL (lot v p.s p.sn) done++[(Sum.inl t.w,lD (lot v p.s p.sn) t)]=kvL (lot v p.s p.sn) (done++[t]) by unfold kvL;simp]at st;unfold lD at st;have sg:∀ (f:Ev->M D) (y0 y1 y2 y4 y5 y6:Option D) (x:D) (σ:Sto),ykj (fun a b=>a+b) 3 f [y0,y1,y2,some x,y4,y5,y6] σ=xsO [y0,y1,y2,some x,y4,y5,y6] (yhw (fun a b=>a+b) 3 [y0,y1,y2,some x,y4,y5,y6] x) (f [y0,y1,y2,some x,y4,y5,y6] σ):=fun f y0 y1 y2 y4 y5 y6 x σ=>zth rfl;unfold rsB;generalize (Ob.dic (kvL (lot v p.s p.sn) (done++[t])))=O2 at *;generalize (Ob.dic (kvL (lot v p.s p.sn) done))=O1 at *;generalize (σ.length)=N at *;generalize (σ++[O1])=σ1 at *;generalize (σ++[O2])=σ2 at *;generalize lot v p.s p.sn t=L at *;have hg:=fun σ=>zqr L σ;generalize ydk L=fb at *;generalize v.O=VO at *;generalize p.D=PD at *;generalize t.D=TD at *;cases fb<;>simp[h1,i1,i2,i3,st,sg,hg]
theorem zta(v:Vw)(p:Po)(S:D)(σ:Sto):∀ (ts done:List Ti) (a:Int) (x5 x6:Option D),((done++ts).map (·.w)).Nodup->(done++ts).length<=6->∃ y5 y6,
  yi9 (tgN 5) rsB (ts.map Ti.D) [some v.O,some p.D,some S,some (.int a),some (.ref σ.length),x5,x6] (σ++[.dic (kvL (lot v p.s p.sn) done)])=.ok (.nx [some v.O,some p.D,some S,some (.int (a+yin (lot v p.s p.sn) ts)),some (.ref σ.length),y5,y6]) (σ++[.dic (kvL (lot v p.s p.sn) (done++ts))])
 |[],done,a,x5,x6,_,_=>⟨x5,x6,by simp[yin]⟩
 |t::ts,done,a,x5,x6,hn,hl=>by
  have hw:t.w ∉ done.map (·.w):=fun z=>by
   rw[List.map_append,List.nodup_append]at hn;exact hn.2.2 _ z _ (by simp) rfl
  have st:=ztb v p S a t done x6 σ hw (by simp at hl;omega);obtain⟨y5,y6,e⟩:=zta v p S σ ts (done++[t]) (a+if ydk (lot v p.s p.sn t)then t.a else 0) (some t.D) (some (.str (lot v p.s p.sn t))) (by simpa using hn) (by simpa using hl);refine⟨y5,y6,?_⟩;rw[List.map_cons,zk4];simp only[List.set_cons_succ,List.set_cons_zero];rw[st,zod,zk2,e];simp only[yin,List.append_assoc,List.cons_append,List.nil_append,Int.add_assoc]
def shr(s:Int)(t:St):Int:=if s=0 then t.a else t.b
def rdD(v:Vw)(p:Po)(t:St):D:=.tup [.int (shr p.s t+yin (lot v p.s p.sn) t.ts),.dic (t.ts.map fun u=>.inl u.w) (t.ts.map (lD (lot v p.s p.sn)))]
theorem yap(v:Vw)(p:Po)(t:St):cl (rdD v p t)=true:=by
 have:clL (t.ts.map (lD (lot v p.s p.sn)))=true:=zom fun _=>by simp
 have h2:cl (.dic (t.ts.map fun u=>.inl u.w) (t.ts.map (lD (lot v p.s p.sn))))=true:=by unfold cl;exact this
 simp[rdD,h2]
structure St.Ok(t:St):Prop where
 nd:(t.ts.map (·.w)).Nodup
 len:t.ts.length<=6
 wb:∀ u∈t.ts,0<=u.w/\u.w<=6
theorem zhm(v:Vw)(p:Po)(t:St)(hp:p.s=0\/p.s=1)(ht:t.Ok)(σ:Sto):f_read_stand [v.O,p.D,t.D] σ=.ok (rdD v p t) σ:=by
 have t1:=fun σ=>t.i1 σ;have t2:=fun σ=>t.i2 σ;have p0:=fun σ=>p.i0 σ;have sh:∀ σ,oIx (.tup [.int t.a,.int t.b]) (.int p.s) σ=.ok (.int (shr p.s t)) σ:=fun σ=>by
  unfold shr;rcases hp with h|h<;>rw[h]
  ·exact zr8 (show atI _ ((0:Nat):Int)=_ from zn6 rfl)
  ·exact zr8 (show atI _ ((1:Nat):Int)=_ from zn6 rfl)
 obtain⟨y5,y6,e⟩:=zta v p t.D σ t.ts [] (shr p.s t) none none (by simpa using ht.nd) (by simpa using ht.len);rw[List.nil_append,show kvL (lot v p.s p.sn) []=[]from rfl]at e;have hcl:clL ((kvL (lot v p.s p.sn) t.ts).map (·.2))=true:=by unfold kvL;rw[List.map_map];exact zom fun _=>by simp[lD]
 have fz:=zj1 (σ:=σ) (a:=.int (shr p.s t+yin (lot v p.s p.sn) t.ts)) (kvs:=kvL (lot v p.s p.sn) t.ts) (by simp) hcl;have e1:(kvL (lot v p.s p.sn) t.ts).map (·.1)=t.ts.map fun u=>(.inl u.w:Key):=by unfold kvL;rw[List.map_map];rfl
 have e2:(kvL (lot v p.s p.sn) t.ts).map (·.2)=t.ts.map (lD (lot v p.s p.sn)):=by unfold kvL;rw[List.map_map];rfl
 rw[e1,e2]at fz;unfold rsB at e;unfold f_read_stand zcz rdD;generalize (t.ts.map fun u=>(.inl u.w:Key))=KS at *;generalize t.ts.map (lD (lot v p.s p.sn))=VS at *;generalize shr p.s t+yin (lot v p.s p.sn) t.ts=F at *;generalize shr p.s t=F0 at *;generalize (Ob.dic (kvL (lot v p.s p.sn) t.ts))=O2 at *;generalize v.O=VO at *;generalize p.D=PD at *;generalize t.D=TD at *;generalize t.ts.map Ti.D=TS at *;simp[t1,t2,p0,sh,e,fz]
structure Vw.Ok(v:Vw):Prop where
 n3:v.ps.length<=3
 sd:∀ p∈v.ps,p.s=0\/p.s=1
 ok:∀ p∈v.ps,∀ t∈p.st,t.Ok
 sl:∀ p∈v.ps,1<=p.st.length/\p.st.length<=20
def rdL(v:Vw)(p:Po):D:=.lst (p.st.map (rdD v p))
theorem yaq(v:Vw)(p:Po):cl (rdL v p)=true:=by unfold rdL;rw[zv8];exact zom fun t=>yap v p t
noncomputable abbrev rpB:Ev->M Fl:=(ykk (yc9 zrz (yij 1) (yci (yie (eLC (yk0 (yid oIx (yij 2) (eC (.int 1)))) [0,2] (tgN 0) ycl (eFn 3 f_read_stand [] (yci (yij 1) (yci (yij 2) (yci (yij 0) yhr)))))) yhr)))
theorem zs9(v:Vw)(hv:v.Ok)(p:Po)(hp:p∈v.ps)(ys:List D)(hy:ys.length<1000)(σ:Sto):rpB [some v.O,some (.ref σ.length),some p.D] (σ++[.lst ys])=.ok (.nx [some v.O,some (.ref σ.length),some p.D]) (σ++[.lst (ys++[rdL v p])]):=by
 have p1:=fun σ=>p.i1 σ;have l:=yi7 (xs:=p.st) (ix:=[0,2]) (ρ:=[some v.O,some (.ref σ.length),some p.D]) (σ:=σ++[.lst ys]) (src:=yk0 (yid oIx (yij 2) (eC (.int 1)))) (fe:=eFn 3 f_read_stand [] (yci (yij 1) (yci (yij 2) (yci (yij 0) yhr)))) St.D (rdD v p) (by
   generalize p.D=PD at *;generalize v.O=VO at *;simp[p1]) (by have:=(hv.sl p hp).2;omega) (fun t ht j=>by
   have r:=zhm v p t (hv.sd p hp) (hv.ok p hp t ht);generalize rdD v p t=R at *;generalize (σ++[Ob.lst ys]++j)=σ1 at *;generalize p.D=PD at *;generalize v.O=VO at *;generalize t.D=TD at *;simp[r]) (fun t _=>yap v p t)
 rw[show (.lst (p.st.map (rdD v p)):D)=rdL v p from rfl]at l;have ap:=zd9 (σ:=σ) (xs:=ys) (d:=rdL v p) hy;unfold rpB;generalize rdL v p=R at *;generalize p.D=PD at *;generalize v.O=VO at *;simp[l,ap,-zo9]
theorem zs8(v:Vw)(hv:v.Ok)(σ:Sto):∀ (ps:List Po) (ys:List D) (x2:Option D),(∀ p∈ps,p∈v.ps)->ys.length+ps.length<=900->∃ y2,
  yi9 (tgN 2) rpB (ps.map Po.D) [some v.O,some (.ref σ.length),x2] (σ++[.lst ys])=.ok (.nx [some v.O,some (.ref σ.length),y2]) (σ++[.lst (ys++ps.map (rdL v))])
 |[],ys,x2,_,_=>⟨x2,by simp⟩
 |p::ps,ys,x2,hm,hl=>by
  simp only[List.length_cons]at hl;have st:=zs9 v hv p (hm p List.mem_cons_self) ys (by omega) σ;obtain⟨y2,e⟩:=zs8 v hv σ ps (ys++[rdL v p]) (some p.D) (fun q hq=>hm q (List.mem_cons_of_mem _ hq)) (by simp;omega);refine⟨y2,?_⟩;rw[List.map_cons,zk4];simp only[List.set_cons_succ,List.set_cons_zero];rw[st,zod,zk2,e];simp
theorem zme(v:Vw)(hv:v.Ok)(σ:Sto):f_read_pots [v.O] σ=.ok (.lst (v.ps.map (rdL v))) σ:=by
 have f3:=fun σ=>v.f3 σ;obtain⟨y2,e⟩:=zs8 v hv σ v.ps [] none (fun _ h=>h) (by have:=hv.n3;simp;omega);rw[List.nil_append]at e;have fz:=zp2 (σ:=σ) (zs:=v.ps.map (rdL v)) (zom fun p=>yaq v p);unfold rpB at e;unfold f_read_pots zdl;generalize v.O=VO at *;generalize v.ps.map (rdL v)=RL at *;generalize v.ps.map Po.D=PL at *;simp[f3,e,fz]
def plB(ps:List Po)(cs:List Int):Bool:=(ps.zip cs).all fun q=>decide (0<=q.2) && decide (q.2<=(q.1.st.length:Int) - 1)
theorem zm4{i j:Nat}{ρ:Ev}{σ:Sto}{xs ys:List D}(h1:yij i ρ σ=.ok (.lst xs) σ)(h2:yij j ρ σ=.ok (.lst ys) σ):yk1 (yij i) (yij j) ρ σ=.ok (nxZ (.lst xs) (.lst ys)) σ:=by
 have a:yja σ (.lst xs)=some xs:=rfl;have b:yja σ (.lst ys)=some ys:=rfl;unfold yk1;rw[zvv,h1,zod];unfold ygr;rw[zvv,h2,zod];unfold ygs;simp only[a,b]
theorem zu9{α β:Type}(xs:List α)(ys:List β):(xs.zip ys).length<=xs.length:=by rw[List.length_zip];omega
def St0:St:=⟨0,0,0,[]⟩
def chS(ps:List Po)(cs:List Int):List (Po × St):=(ps.zip cs).map fun q=>(q.1,q.1.st.getD q.2.toNat St0)
theorem zf2(v:Vw)(cs:List Int)(h3:v.ps.length<=3)(hp:plB v.ps cs=true)(σ:Sto):f_chosen_readings [.lst (v.ps.map (rdL v)),.lst (cs.map D.int)] σ=.ok (.lst ((chS v.ps cs).map fun q=>rdD v q.1 q.2)) σ:=by
 have l:=lcC (xs:=v.ps.zip cs) (ix:=[]) (ρ:=[some (.lst (v.ps.map (rdL v))),some (.lst (cs.map D.int))]) (σ:=σ) (fe:=yid oIx (yij 0) (yij 1)) (fun q=>rdL v q.1) (fun q=>.int q.2) (fun q=>rdD v q.1 (q.1.st.getD q.2.toNat St0))
  (zm4 (i:=0) (j:=1) (by simp) (by simp)) (zy7 v.ps cs (rdL v) D.int) (by have:=zu9 v.ps cs;omega) (fun q hq j=>by
   have hb:=List.all_eq_true.mp hp q hq;simp only[Bool.and_eq_true,decide_eq_true_eq]at hb;have hi:q.2.toNat<q.1.st.length:=by omega
   have ix:∀ σ,oIx (rdL v q.1) (.int q.2) σ=.ok (rdD v q.1 (q.1.st.getD q.2.toNat St0)) σ:=fun σ=>by
    unfold rdL;refine zr6 ?_;rw[show q.2=((q.2.toNat:Nat):Int) by omega];refine zn6 ?_;rw[Int.toNat_natCast,List.getElem?_map,List.getElem?_eq_getElem hi,List.getD_eq_getElem?_getD,List.getElem?_eq_getElem hi];rfl
   generalize rdD v q.1 (q.1.st.getD q.2.toNat St0)=R at *;generalize rdL v q.1=RL at *;simp[ix]) (fun q _=>yap _ _ _)
 have e:((v.ps.zip cs).map fun q=>rdD v q.1 (q.1.st.getD q.2.toNat St0))=(chS v.ps cs).map fun q=>rdD v q.1 q.2:=by unfold chS;rw[List.map_map];rfl
 rw[e]at l;have hc:cl (.lst ((chS v.ps cs).map fun q=>rdD v q.1 q.2))=true:=by rw[zv8];exact zom fun q=>yap _ _ _
 unfold f_chosen_readings zae;generalize D.lst ((chS v.ps cs).map fun q=>rdD v q.1 q.2)=OUT at *;generalize D.lst (v.ps.map (rdL v))=RL at *;generalize D.lst (cs.map D.int)=CL at *;simp[l,hc,-zo9]
structure Tc where
 (l:Str) (t:Ti)
def Tc.D(c:Tc):L4.D:=.tup [.str c.l,.int c.t.a,.int c.t.d]
@[simp] theorem Tc.cl(c:Tc):L4.cl c.D=true:=by simp[Tc.D]
abbrev Gs:=List (Int × Nat)
abbrev Js:=List (List Tc)
def fnd(b:Gs)(w:Int):Option Nat:=(b.find? fun p=>decide (p.1=w)).map (·.2)
def kvB(n:Nat)(b:Gs):List (Key × D):=b.map fun p=>(.inl p.1,.ref (n+1+p.2))
def bwS(σ:Sto)(b:Gs)(J:Js):Sto:=σ++(.dic (kvB σ.length b)::J.map fun l=>.lst (l.map Tc.D))
section
variable(σ:Sto)(b:Gs)(J:Js)
theorem zvz:(bwS σ b J).length=σ.length+1+J.length:=by unfold bwS;simp;omega
theorem zvy:(bwS σ b J)[σ.length]?=some (.dic (kvB σ.length b)):=by unfold bwS;simp
theorem ycp:yib (bwS σ b J) (.ref σ.length)=some (kvB σ.length b):=by unfold yib;simp only[zvy]
theorem zv0{i:Nat}(h:i<J.length):yej (bwS σ b J) (σ.length+1+i)=some ((J.getD i []).map Tc.D):=by
 unfold yej bwS;rw[List.getElem?_append_right (by omega),show σ.length+1+i - σ.length=i+1 by omega,List.getElem?_cons_succ,List.getElem?_map,List.getElem?_eq_getElem h,List.getD_eq_getElem?_getD,List.getElem?_eq_getElem h];rfl
theorem zof:bwS σ b J++[.lst []]=bwS σ b (J++[[]]):=by unfold bwS;simp
theorem zog(b':Gs):(bwS σ b J).set σ.length (.dic (kvB σ.length b'))=bwS σ b' J:=by
 unfold bwS;rw[List.set_append_right _ _ (Nat.le_refl _),Nat.sub_self];rfl
theorem zoh(i:Nat)(l:List Tc):(bwS σ b J).set (σ.length+1+i) (.lst (l.map Tc.D))=bwS σ b (J.set i l):=by
 unfold bwS;rw[List.set_append_right _ _ (by omega),show σ.length+1+i - σ.length=i+1 by omega,List.set_cons_succ];congr 2;rw[List.map_set]
end
theorem zxl(n:Nat)(w:Int):∀ b:Gs,ydj (kvB n b) (.inl w)=(fnd b w).map fun i=>.ref (n+1+i)
 |[]=>rfl
 |p::b=>by
  have ih:=zxl n w b;unfold ydj kvB fnd at *;rw[List.map_cons,List.find?_cons,List.find?_cons];by_cases e:p.1=w
  ·simp[e]
  ·have e2:¬ (Sum.inl p.1:Key)=Sum.inl w:=fun z=>e (Sum.inl.inj z);simp only[e,e2,decide_false]at ih ⊢;exact ih
theorem zjv{w:Int}:∀ {b:Gs},fnd b w=none->w ∉ b.map (·.1)
 |[],_=>by simp
 |p::b,h=>by
  unfold fnd at h;rw[List.find?_cons]at h;by_cases e:p.1=w
  ·simp[e]at h
  ·simp only[e,decide_false]at h;have:=zjv (b:=b) (w:=w) h;simp only[List.map_cons,List.mem_cons,not_or];exact⟨fun z=>e z.symm,this⟩
theorem zjw{w:Int}{i:Nat}:∀ {b:Gs},fnd b w=some i->(w,i)∈b
 |[],h=>by simp[fnd]at h
 |p::b,h=>by
  unfold fnd at h;rw[List.find?_cons]at h;by_cases e:p.1=w
  ·simp only[e,decide_true,Option.map_some,Option.some.injEq]at h;rw[<-e,<-h];exact List.mem_cons_self
  ·simp only[e,decide_false]at h;exact List.mem_cons_of_mem _ (zjw (b:=b) h)
def bst(b:Gs)(J:Js)(c:Tc):Gs × Js:=match fnd b c.t.w with
 |some i=>(b,(J++[[]]).set i (J.getD i []++[c]))
 |none=>(b++[(c.t.w,J.length)],J++[[c]])
structure BI(b:Gs)(J:Js)(m:Nat):Prop where
 lt:∀ p∈b,p.2<J.length
 nj:(b.map (·.2)).Nodup
 nk:(b.map (·.1)).Nodup
 bl:b.length<=m
 jl:J.length<=m
 el:∀ l∈J,l.length<=m
noncomputable abbrev lbB:Ev->M Fl:=(ykk (yc9 zrz (zwq zsc (yij 1) (yci (yij 3) (yci (yih yhr) yhr))) (yci (yij 4) yhr)))
@[simp] theorem zf8(o:D->List D->M D)(f:Ev->M D)(fs:Ev->M (List D))(ρ:Ev)(σ:Sto):zwq o f fs ρ σ=(f ρ σ).bind (zy0 o (fs ρ)):=nr rfl
theorem zj8{α:Type}{xs ys:List α}{i:Nat}(h:i<xs.length)(d:α):(xs++ys).getD i d=xs.getD i d:=by
 rw[List.getD_eq_getElem?_getD,List.getD_eq_getElem?_getD,List.getElem?_append_left h]
theorem zq9(σ:Sto)(b:Gs)(J:Js)(m:Nat)(hI:BI b J m)(hm:m<900)(R rd:D)(c:Tc):lbB [some R,some (.ref σ.length),some rd,some (.int c.t.w),some c.D] (bwS σ b J)=.ok (.nx [some R,some (.ref σ.length),some rd,some (.int c.t.w),some c.D]) (bwS σ (bst b J c).1 (bst b J c).2):=by
 have h1:∀ fs,zy0 zsc fs (.ref σ.length) (bwS σ b J)=(fs (bwS σ b J)).bind (zsc (.ref σ.length)):=fun fs=>by unfold zy0;rw[ycp];rfl
 have h2:∀ ρ,yih yhr ρ (bwS σ b J)=.ok (.ref (σ.length+1+J.length)) (bwS σ b (J++[[]])):=fun ρ=>by
  rw[<-zof,<-zvz σ b J];rfl
 have hpush:=zof σ b J;have hlen:=zvz σ b J;have hcap:(kvB σ.length b).length<cap:=by unfold kvB cap;have:=hI.bl;simp;omega
 unfold lbB bst;cases hf:fnd b c.t.w with
 |some i=>
  have hi:i<J.length:=hI.lt _ (zjw hf);have h3:∀ d,zsc (.ref σ.length) [.int c.t.w,d] (bwS σ b (J++[[]]))=.ok (.ref (σ.length+1+i)) (bwS σ b (J++[[]])):=fun d=>by
   unfold zsc;simp only[yi4,zvy];rw[if_pos hcap,zxl,hf];rfl
  have hl:=zv0 σ b (J++[[]]) (i:=i) (by simp;omega);rw[zj8 hi]at hl;have h4:∀ fs,yeq zrz fs (.ref (σ.length+1+i)) (bwS σ b (J++[[]]))=(fs (bwS σ b (J++[[]]))).bind (zrz (.ref (σ.length+1+i))):=fun fs=>zla (xs:=(J.getD i []).map Tc.D) hl;have h5:zrz (.ref (σ.length+1+i)) [c.D] (bwS σ b (J++[[]]))=.ok .non (bwS σ b ((J++[[]]).set i (J.getD i []++[c]))):=by
   unfold zrz;simp only[hl];have hm2:(J.getD i []).length<=m:=by
    rw[List.getD_eq_getElem?_getD,List.getElem?_eq_getElem hi];exact hI.el _ (List.getElem_mem hi)
   rw[if_pos (by unfold cap;rw[List.length_map];omega),<-zoh];simp
  dsimp only;generalize bwS σ b ((J++[[]]).set i (J.getD i []++[c]))=σ3 at *;generalize bwS σ b (J++[[]])=σ2 at *;generalize bwS σ b J=σ1 at *;generalize (σ.length+1+i)=N1 at *;generalize (σ.length+1+J.length)=N2 at *;generalize σ.length=N0 at *;generalize c.D=CD at *;generalize c.t.w=w at *;simp[h1,hpush,hlen,h3,h4,h5]
 |none=>
  have h3:zsc (.ref σ.length) [.int c.t.w,.ref (σ.length+1+J.length)] (bwS σ b (J++[[]]))=.ok (.ref (σ.length+1+J.length)) (bwS σ (b++[(c.t.w,J.length)]) (J++[[]])):=by
   unfold zsc;simp only[yi4,zvy];rw[if_pos hcap,zxl,hf];simp only[Option.map_none];rw[put_new,show kvB σ.length b++[(Sum.inl c.t.w,D.ref (σ.length+1+J.length))]=kvB σ.length (b++[(c.t.w,J.length)]) by unfold kvB;simp,zog];intro z;unfold kvB at z;rw[List.map_map]at z;obtain⟨p,hp,e⟩:=List.mem_map.mp z;exact zjv hf (List.mem_map.mpr ⟨p,hp,Sum.inl.inj e⟩)
  have hl:=zv0 σ (b++[(c.t.w,J.length)]) (J++[[]]) (i:=J.length) (by simp);have hz:(J++[[]]).getD J.length []=[]:=by rw[List.getD_eq_getElem?_getD];simp
  rw[hz]at hl;have h4:∀ fs,yeq zrz fs (.ref (σ.length+1+J.length)) (bwS σ (b++[(c.t.w,J.length)]) (J++[[]]))=(fs (bwS σ (b++[(c.t.w,J.length)]) (J++[[]]))).bind (zrz (.ref (σ.length+1+J.length))):=fun fs=>zla (xs:=[]) hl;have h5:zrz (.ref (σ.length+1+J.length)) [c.D] (bwS σ (b++[(c.t.w,J.length)]) (J++[[]]))=.ok .non (bwS σ (b++[(c.t.w,J.length)]) (J++[[c]])):=by
   unfold zrz;simp only[hl];have:=zoh σ (b++[(c.t.w,J.length)]) (J++[[]]) J.length [c];rw[show (J++[[]]:Js).set J.length [c]=(J++[[c]]:Js) by simp]at this;rw[if_pos (by unfold cap;simp),<-this];rfl
  dsimp only;generalize bwS σ (b++[(c.t.w,J.length)]) (J++[[c]])=σ4 at *;generalize bwS σ (b++[(c.t.w,J.length)]) (J++[[]])=σ3 at *;generalize bwS σ b (J++[[]])=σ2 at *;generalize bwS σ b J=σ1 at *;generalize (σ.length+1+J.length)=N2 at *;generalize σ.length=N0 at *;generalize c.D=CD at *;generalize c.t.w=w at *;simp[h1,hpush,hlen,h3,h4,h5]
theorem zvw{b:Gs}{J:Js}{m:Nat}(h:BI b J m)(c:Tc):BI (bst b J c).1 (bst b J c).2 (m+1):=by
 unfold bst;cases hf:fnd b c.t.w with
 |some i=>
  have hi:i<J.length:=h.lt _ (zjw hf);refine⟨fun p hp=>?_,h.nj,h.nk,?_,?_,fun l hl=>?_⟩
  ·have:=h.lt p hp;simp;omega
  ·have:=h.bl;dsimp only;omega
  ·have:=h.jl;simp;omega
  ·rcases List.mem_or_eq_of_mem_set hl with z|z
   ·rcases List.mem_append.mp z with z|z
    ·have:=h.el l z;omega
    ·simp at z;subst z;simp
   ·have hm2:(J.getD i []).length<=m:=by
     rw[List.getD_eq_getElem?_getD,List.getElem?_eq_getElem hi];exact h.el _ (List.getElem_mem hi)
    rw[z];simp;simpa using hm2
 |none=>
  have hn:=zjv hf;refine⟨fun p hp=>?_,?_,?_,?_,?_,fun l hl=>?_⟩
  ·rcases List.mem_append.mp hp with z|z
   ·have:=h.lt p z;simp;omega
   ·simp at z;subst z;simp
  ·rw[List.map_append,List.nodup_append];refine⟨h.nj,by simp,fun x hx y hy e=>?_⟩;simp at hy;obtain⟨p,hp,rfl⟩:=List.mem_map.mp hx;have:=h.lt p hp;omega
  ·rw[List.map_append,List.nodup_append];refine⟨h.nk,by simp,fun x hx y hy e=>?_⟩;simp at hy;exact hn (by rw[<-hy,<-e];exact hx)
  ·have:=h.bl;simp;omega
  ·have:=h.jl;simp;omega
  ·rcases List.mem_append.mp hl with z|z
   ·have:=h.el l z;omega
   ·simp at z;subst z;simp
abbrev Grp:=List (Int × List Tc)
def vwG(b:Gs)(J:Js):Grp:=b.map fun p=>(p.1,J.getD p.2 [])
def yiw(G:Grp)(c:Tc):Grp:=if G.any (fun q=>q.1 == c.t.w)then G.map (fun q=>if q.1 == c.t.w then (q.1,q.2++[c])else q)else G++[(c.t.w,[c])]
theorem zg4{α β:Type}(f:α->β):∀ {xs:List α},(xs.map f).Nodup->∀ {x y:α},x∈xs->y∈xs->f x=f y->x=y
 |[],_,x,y,hx,_,_=>by cases hx
 |a::xs,h,x,y,hx,hy,e=>by
  rw[List.map_cons,List.nodup_cons]at h;rcases List.mem_cons.mp hx with h1|h1
  ·rcases List.mem_cons.mp hy with h2|h2
   ·rw[h1,h2]
   ·rw[h1]at e;exact absurd (List.mem_map.mpr ⟨y,h2,e.symm⟩) h.1
  ·rcases List.mem_cons.mp hy with h2|h2
   ·rw[h2]at e;exact absurd (List.mem_map.mpr ⟨x,h1,e⟩) h.1
   ·exact zg4 f h.2 h1 h2 e
theorem zik{b:Gs}{J:Js}{m:Nat}(h:BI b J m)(c:Tc):vwG (bst b J c).1 (bst b J c).2=yiw (vwG b J) c:=by
 unfold bst yiw;cases hf:fnd b c.t.w with
 |some i=>
  have hmem:=zjw hf;have hi:i<J.length:=h.lt _ hmem;have ha:(vwG b J).any (fun q=>q.1 == c.t.w)=true:=by
   rw[List.any_eq_true];exact⟨(c.t.w,J.getD i []),List.mem_map.mpr ⟨_,hmem,rfl⟩,by simp⟩
  rw[ha,if_pos rfl];unfold vwG;rw[List.map_map];apply List.map_congr_left;intro p hp;simp only[Function.comp];by_cases e:p.1=c.t.w
  ·have:p=(c.t.w,i):=zg4 (·.1) h.nk hp hmem e;subst this;simp only[beq_self_eq_true,if_true];congr 1;rw[List.getD_eq_getElem?_getD,List.getElem?_set_self (by simp;omega)];rfl
  ·have e':(p.1 == c.t.w)=false:=by simpa using e
   have hne:p.2≠i:=fun z=>e (by rw[zg4 (·.2) h.nj hp hmem z]);rw[e'];simp only[Bool.false_eq_true,if_false];congr 1;rw[List.getD_eq_getElem?_getD,List.getElem?_set_ne (fun z=>hne z.symm),<-List.getD_eq_getElem?_getD,zj8 (h.lt p hp)]
 |none=>
  have hn:=zjv hf;have ha:(vwG b J).any (fun q=>q.1 == c.t.w)=false:=by
   rw[List.any_eq_false];intro q hq z;obtain⟨p,hp,rfl⟩:=List.mem_map.mp hq;exact hn (List.mem_map.mpr ⟨p,hp,by simpa using z⟩)
  rw[ha];unfold vwG;simp only[List.map_append,List.map_cons,List.map_nil,Bool.false_eq_true,if_false];congr 1
  ·apply List.map_congr_left;intro p hp;rw[zj8 (h.lt p hp)]
  ·congr 2;rw[List.getD_eq_getElem?_getD];simp
def bfo:List Tc->Gs × Js->Gs × Js
 |[],s=>s
 |c::cs,s=>bfo cs (bst s.1 s.2 c)
theorem zvs:∀ (cs:List Tc) {s:Gs × Js} {m:Nat},BI s.1 s.2 m->BI (bfo cs s).1 (bfo cs s).2 (m+cs.length)
 |[],s,m,h=>h
 |c::cs,s,m,h=>by
  have:=zvs cs (zvw h c);simp only[List.length_cons];rw[show m+(cs.length+1)=m+1+cs.length by omega];exact this
theorem zii:∀ (cs:List Tc) {s:Gs × Js} {m:Nat},BI s.1 s.2 m->vwG (bfo cs s).1 (bfo cs s).2=cs.foldl yiw (vwG s.1 s.2)
 |[],s,m,h=>rfl
 |c::cs,s,m,h=>by
  rw[List.foldl_cons,<-zik h c];exact zii cs (zvw h c)
theorem zob:∀ (cs ds:List Tc) (s:Gs × Js),bfo (cs++ds) s=bfo ds (bfo cs s)
 |[],ds,s=>rfl
 |c::cs,ds,s=>zob cs ds _
theorem zeq{nx:NX}{tg:D->Ev->Option Ev}{body:Ev->M Fl}{k i:Nat}{ρ ρ1:Ev}{σ:Sto}{d:D}(h:nx i σ=some (some d))(ht:tg d ρ=some ρ1):yei nx tg body (k+1) i ρ σ=(body ρ1 σ).bind (yeg (yei nx tg body k (i+1))):=by
 rw[yei];simp only[h,ht];rfl
theorem zgs{nx:NX}{tg:D->Ev->Option Ev}{body:Ev->M Fl}{k i:Nat}{ρ:Ev}{σ:Sto}(h:nx i σ=some none):yei nx tg body (k+1) i ρ σ=.ok (.nx ρ) σ:=by
 rw[yei];simp only[h]
theorem zo6{α:Type}{xs ts:List α}{i:Nat}{t:α}(h:xs.drop i=t::ts):xs[i]?=some t/\xs.drop (i+1)=ts:=by
 constructor
 ·have:=congrArg (·[0]?) h;simpa using this
 ·have:=congrArg List.tail h;simpa using this
theorem zi1{α:Type}{xs:List α}{i:Nat}(h:xs.drop i=[])(hi:i<=xs.length):xs[i]?=none/\i=xs.length:=by
 have:=List.drop_eq_nil_iff.mp h;exact⟨List.getElem?_eq_none_iff.mpr this,by omega⟩
theorem zkv(σ:Sto)(g:Ti->Str)(R rd:D)(xs:List Ti){nx:NX}(hn:yg8 nx xs (fun u=>yi6 (.inl u.w)) (lD g)):∀ (ts:List Ti) (i:Nat) (s:Gs × Js) (m:Nat) (x3 x4:Option D),xs.drop i=ts->i<=xs.length->xs.length<=6->BI s.1 s.2 m->m+ts.length<900->∃ y3 y4,
  yei nx (tgT 2 (ybn (tgN 3) (ybn (tgN 4) ygi))) lbB (1001 - i) i [some R,some (.ref σ.length),some rd,x3,x4] (bwS σ s.1 s.2)=.ok (.nx [some R,some (.ref σ.length),some rd,y3,y4]) (bwS σ (bfo (ts.map fun u=>⟨g u,u⟩) s).1 (bfo (ts.map fun u=>⟨g u,u⟩) s).2)
 |[],i,s,m,x3,x4,hd,hi,hl,hI,hm=>by
  obtain⟨e,ei⟩:=zi1 hd hi;have hx:nx i (bwS σ s.1 s.2)=some none:=by rw[hn,e];simp[ei]
  rw[show 1001 - i=(1000 - i)+1 by omega];exact⟨x3,x4,zgs hx⟩
 |t::ts,i,s,m,x3,x4,hd,hi,hl,hI,hm=>by
  obtain⟨e,hd2⟩:=zo6 hd;have hi2:i<xs.length:=(List.getElem?_eq_some_iff.mp e).1;simp only[List.length_cons]at hm;have hx:nx i (bwS σ s.1 s.2)=some (some (.tup [.int t.w,lD g t])):=by rw[hn,e];rfl
  have st:=zq9 σ s.1 s.2 m hI (by omega) R rd ⟨g t,t⟩;obtain⟨y3,y4,e2⟩:=zkv σ g R rd xs hn ts (i+1) (bst s.1 s.2 ⟨g t,t⟩) (m+1) (some (.int t.w)) (some (lD g t)) hd2 (by omega) hl (zvw hI _) (by omega);refine⟨y3,y4,?_⟩;rw[show 1001 - i=(1001 - (i+1))+1 by omega,zeq hx (ρ1:=[some R,some (.ref σ.length),some rd,some (.int t.w),some (lD g t)]) (nr rfl)];rw[show lbB [some R,some (.ref σ.length),some rd,some (.int t.w),some (lD g t)] (bwS σ s.1 s.2)=_ from st,zod,zk2];exact e2
def tcs(v:Vw)(q:Po × St):List Tc:=q.2.ts.map fun u=>⟨lot v q.1.s q.1.sn u,u⟩
def AT(v:Vw)(qs:List (Po × St)):List Tc:=qs.flatMap (tcs v)
noncomputable abbrev loB:Ev->M Fl:=(yfw (yky (yid oIx (yij 2) (eC (.int 1)))) (tgT 2 (ybn (tgN 3) (ybn (tgN 4) ygi))) lbB)
@[simp] theorem zmg(src:Ev->M NX)(tg:D->Ev->Option Ev)(body:Ev->M Fl)(ρ:Ev)(σ:Sto):yfw src tg body ρ σ=xsO ρ (ydr tg body ρ) (src ρ σ):=ygq ..
theorem zur{f:Ev->M D}{ρ:Ev}{σ:Sto}{ks:List Key}{xs:List D}(h:f ρ σ=.ok (.dic ks xs) σ)(hl:ks.length=xs.length):yky f ρ σ=.ok (nxI (ks.zip xs)) σ:=by
 unfold yky;rw[zvv,h,zod];unfold yd5;dsimp only;rw[if_pos hl]
theorem zre(v:Vw)(q:Po × St)(hq:q.2.Ok)(σ:Sto)(R:D)(s:Gs × Js)(m:Nat)(x3 x4:Option D)(hI:BI s.1 s.2 m)(hm:m<890):∃ y3 y4,
  loB [some R,some (.ref σ.length),some (rdD v q.1 q.2),x3,x4] (bwS σ s.1 s.2)=.ok (.nx [some R,some (.ref σ.length),some (rdD v q.1 q.2),y3,y4]) (bwS σ (bfo (tcs v q) s).1 (bfo (tcs v q) s).2):=by
 have hl:=hq.len;obtain⟨y3,y4,e⟩:=zkv σ (lot v q.1.s q.1.sn) R (rdD v q.1 q.2) q.2.ts (zli q.2.ts (fun u=>(.inl u.w:Key)) (lD (lot v q.1.s q.1.sn))) q.2.ts 0 s m x3 x4 rfl (by omega) hl hI (by omega);refine⟨y3,y4,?_⟩;have i1:∀ σ,oIx (rdD v q.1 q.2) (.int 1) σ=.ok (.dic (q.2.ts.map fun u=>.inl u.w) (q.2.ts.map (lD (lot v q.1.s q.1.sn)))) σ:=fun σ=>by unfold rdD;simp
 have sr:yky (yid oIx (yij 2) (eC (.int 1))) [some R,some (.ref σ.length),some (rdD v q.1 q.2),x3,x4] (bwS σ s.1 s.2)=.ok (nxI ((q.2.ts.map fun u=>(.inl u.w:Key)).zip (q.2.ts.map (lD (lot v q.1.s q.1.sn))))) (bwS σ s.1 s.2):=zur (by
  generalize rdD v q.1 q.2=RD at *;simp[i1]) (by simp)
 unfold loB;rw[zmg,sr];exact e
theorem zrd(v:Vw)(σ:Sto)(R:D):∀ (qs:List (Po × St)) (s:Gs × Js) (m:Nat) (x2 x3 x4:Option D),(∀ q∈qs,q.2.Ok)->BI s.1 s.2 m->m+6 * qs.length<880->∃ y2 y3 y4,
  yi9 (tgN 2) loB (qs.map fun q=>rdD v q.1 q.2) [some R,some (.ref σ.length),x2,x3,x4] (bwS σ s.1 s.2)=.ok (.nx [some R,some (.ref σ.length),y2,y3,y4]) (bwS σ (bfo (AT v qs) s).1 (bfo (AT v qs) s).2)
 |[],s,m,x2,x3,x4,_,_,_=>⟨x2,x3,x4,by simp[AT,bfo]⟩
 |q::qs,s,m,x2,x3,x4,hq,hI,hm=>by
  simp only[List.length_cons]at hm;have hl:=(hq q List.mem_cons_self).len;obtain⟨y3,y4,e1⟩:=zre v q (hq q List.mem_cons_self) σ R s m x3 x4 hI (by omega);have hI2:=zvs (tcs v q) hI;have htl:(tcs v q).length<=6:=by unfold tcs;simpa using hl
  obtain⟨z2,z3,z4,e2⟩:=zrd v σ R qs (bfo (tcs v q) s) (m+(tcs v q).length) (some (rdD v q.1 q.2)) y3 y4 (fun r hr=>hq r (List.mem_cons_of_mem _ hr)) hI2 (by omega);refine⟨z2,z3,z4,?_⟩;rw[List.map_cons,zk4];simp only[List.set_cons_succ,List.set_cons_zero];rw[e1,zod,zk2,e2,show AT v (q::qs)=tcs v q++AT v qs from List.flatMap_cons ..,zob]
def gD(G:Grp):D:=.dic (G.map fun q=>.inl q.1) (G.map fun q=>.lst (q.2.map Tc.D))
theorem zqd{f:D->Option D}:∀ {α:Type} {xs:List α} {g h:α->D},(∀ x∈xs,f (g x)=some (h x))->fzL f (xs.map g)=some (xs.map h)
 |_,[],_,_,_=>rfl
 |_,x::xs,g,h,hx=>by
  simp only[List.map_cons];unfold fzL;rw[hx x List.mem_cons_self,zqd fun y hy=>hx y (List.mem_cons_of_mem _ hy)]
theorem zxp(σ:Sto){b:Gs}{J:Js}{m:Nat}(h:BI b J m):yir σ (.ok (.ref σ.length) (bwS σ b J))=.ok (gD (vwG b J)) σ:=by
 have hr:fz σ.length (bwS σ b J) 6 (.ref σ.length)=some (gD (vwG b J)):=by
  have hv:fzL (fz σ.length (bwS σ b J) 5) ((kvB σ.length b).map (·.2))=some (b.map fun p=>D.lst ((J.getD p.2 []).map Tc.D)):=by
   rw[show (kvB σ.length b).map (·.2)=b.map fun p=>D.ref (σ.length+1+p.2) by unfold kvB;rw[List.map_map];rfl];refine zqd fun p hp=>?_;have hl:=zv0 σ b J (h.lt p hp);have hl2:(bwS σ b J)[σ.length+1+p.2]?=some (.lst ((J.getD p.2 []).map Tc.D)):=by
    unfold yej at hl;cases e:(bwS σ b J)[σ.length+1+p.2]? with
    |none=>rw[e]at hl;cases hl
    |some o=>
     rw[e]at hl;cases o with
     |lst xs=>cases hl;rfl
     |_=>cases hl
   unfold fz;rw[if_neg (by simp[cl])];dsimp only;rw[if_neg (by omega),hl2];dsimp only;rw[zqd (g:=Tc.D) (h:=Tc.D) fun c _=>ydu (Tc.cl c)];rfl
  unfold fz;rw[if_neg (by simp[cl])];dsimp only;rw[if_neg (Nat.lt_irrefl _),zvy];dsimp only;rw[hv];unfold gD vwG kvB;simp only[Option.map_some,List.map_map];rfl
 unfold yir;dsimp only;rw[if_pos (by unfold bwS;simp),hr]
def grp(cs:List Tc):Grp:=cs.foldl yiw []
theorem BI0:BI [] [] 0:=⟨fun _ h=>(by cases h),by simp,by simp,by simp,by simp,fun _ h=>(by cases h)⟩
theorem zeb(v:Vw)(qs:List (Po × St))(hq:∀ q∈qs,q.2.Ok)(hl:qs.length<=3)(σ:Sto):f_lots_by_word [.lst (qs.map fun q=>rdD v q.1 q.2)] σ=.ok (gD (grp (AT v qs))) σ:=by
 obtain⟨y2,y3,y4,e⟩:=zrd v σ (.lst (qs.map fun q=>rdD v q.1 q.2)) qs ([],[]) 0 none none none hq BI0 (by omega);have hI:=zvs (AT v qs) (s:=([],[])) BI0;have fz:=zxp σ hI;rw[zii (AT v qs) (s:=([],[])) BI0]at fz;rw[show vwG ([]:Gs) []=[]from rfl,show (AT v qs).foldl yiw []=grp (AT v qs)from rfl]at fz;rw[show bwS σ ([]:Gs) []=σ++[.dic []]from rfl]at e;unfold loB lbB at e;unfold f_lots_by_word zbd;generalize bwS σ (bfo (AT v qs) ([],[])).1 (bfo (AT v qs) ([],[])).2=σ2 at *;generalize gD (grp (AT v qs))=OUT at *;generalize (qs.map fun q=>rdD v q.1 q.2)=RL at *;simp[e,fz,-zmg]
abbrev Fs:=List (Int × Option Int)
def oD:Option Int->D
 |none=>.non
 |some z=>.int z
@[simp] theorem ye0(x:Option Int):cl (oD x)=true:=by cases x<;>simp[oD]
def fD(F:Fs):D:=.dic (F.map fun p=>.inl p.1) (F.map fun p=>oD p.2)
theorem ydd(F:Fs):cl (fD F)=true:=by
 have:clL (F.map fun p=>oD p.2)=true:=zom fun _=>by simp
 unfold fD cl;exact this
def kvF(F:Fs):List (Key × D):=F.map fun p=>(.inl p.1,oD p.2)
def yis(F:Fs)(w:Int):Option (Option Int):=(F.find? fun p=>decide (p.1=w)).map (·.2)
theorem zjo(w:Int):∀ (F:Fs),ydj (kvF F) (.inl w)=(yis F w).map oD
 |[]=>rfl
 |p::F=>by
  have ih:=zjo w F;unfold ydj kvF yis at *;rw[List.map_cons,List.find?_cons,List.find?_cons];by_cases e:p.1=w
  ·simp[e]
  ·have e2:¬ (Sum.inl p.1:Key)=Sum.inl w:=fun z=>e (Sum.inl.inj z);simp only[e,e2,decide_false]at ih ⊢;exact ih
def opn(ls:List Tc):List Tc:=ls.filter fun c=>c.l == "open"
def yio(ls:List Tc):D:=.lst (.non::(opn ls).map fun c=>.int c.t.d)
theorem zpw(ls:List Tc):cl (yio ls)=true:=by
 have:clL ((opn ls).map fun c=>D.int c.t.d)=true:=zom fun _=>by simp
 unfold yio;simp[this]
theorem Tc.i0(c:Tc)(σ:Sto):oIx c.D (.int 0) σ=.ok (.str c.l) σ:=by unfold Tc.D;simp
theorem Tc.i1(c:Tc)(σ:Sto):oIx c.D (.int 1) σ=.ok (.int c.t.a) σ:=by unfold Tc.D;simp
theorem Tc.i2(c:Tc)(σ:Sto):oIx c.D (.int 2) σ=.ok (.int c.t.d) σ:=by unfold Tc.D;simp
theorem zeh(ls:List Tc)(hl:ls.length<=100)(σ:Sto):f_fates_of [.lst (ls.map Tc.D)] σ=.ok (yio ls) σ:=by
 have l:=lcA (xs:=ls) (ix:=[]) (ρ:=[some (.lst (ls.map Tc.D))]) (σ:=σ) (src:=yk0 (yij 0)) (fi:=eT (yid oEq (yid oIx (yij 0) (eC (.int 0))) (eC (.str "open")))) (fe:=yid oIx (yij 0) (eC (.int 2))) Tc.D (fun c=>c.l == "open") (fun c=>.int c.t.d) (by simp) (by omega) (fun c _ j=>by
   have i0:=fun σ=>c.i0 σ;have i2:=fun σ=>c.i2 σ;generalize c.D=CD at *;generalize hb:(c.l == "open")=b at *;constructor
   ·simp[i0,hb]
   ·intro _;simp[i2]) (fun _ _=>by simp)
 rw[show ls.filter (fun c:Tc=>c.l == ("open" : Str))=opn ls from rfl]at l;have hlen:(opn ls).length<=ls.length:=List.length_filter_le _ _;have ad:∀ σ,yjg (.lst [.non]) (.lst ((opn ls).map fun c=>.int c.t.d)) σ=.ok (yio ls) σ:=fun σ=>by
  rw[zlk (by simp[cap];omega)];rfl
 have hc:=zpw ls;unfold f_fates_of zel;generalize yio ls=OUT at *;generalize D.lst ((opn ls).map fun c=>.int c.t.d)=O2 at *;generalize D.lst (ls.map Tc.D)=IN at *;simp[l,ad,hc,-zo9]
def cmB(x:Option Int)(e:Int)(c:Tc):Bool:=
 if c.l == ("open" : Str)then (match x with|none=>true|some z=>decide (c.t.d<z))
 else (c.l == ("hangs" : Str)) && (match x with|none=>false|some z=>decide (z - 1+e<c.t.d))
theorem zit(c:Tc)(x:Option Int)(e:Int)(σ:Sto):f_comes_by_fate [c.D,oD x,.int e] σ=.ok (.bl (cmB x e c)) σ:=by
 have i0:=fun σ=>c.i0 σ;have i2:=fun σ=>c.i2 σ;unfold f_comes_by_fate zax cmB;generalize hb1:(c.l == ("open" : Str))=b1 at *;generalize hb2:(c.l == ("hangs" : Str))=b2 at *;generalize c.D=CD at *;cases x with
 |none=>cases b1<;>cases b2<;>simp[oD,i0,i2,hb1,hb2]
 |some z=>
  generalize hb3:decide (c.t.d<z)=b3 at *;generalize hb4:decide (z - 1+e<c.t.d)=b4 at *;cases b1<;>cases b2<;>cases b3<;>cases b4<;>simp[oD,i0,i2,hb1,hb2,hb3,hb4]
def sby(ls:List Tc)(x:Option Int)(e:Int):Int:=((ls.filter (cmB x e)).map fun c=>c.t.a).sum
theorem zm8(l:List Int)(σ:Sto):yjw [.lst (l.map D.int)] σ=.ok (.int l.sum) σ:=by simp[yjw]
theorem zm9(ls:List Tc)(hl:ls.length<=100)(x:Option Int)(e:Int)(σ:Sto):f_sum_by_fate [.lst (ls.map Tc.D),oD x,.int e] σ=.ok (.int (sby ls x e)) σ:=by
 have l:=lcA (xs:=ls) (ix:=[1,2]) (ρ:=[some (.lst (ls.map Tc.D)),some (oD x),some (.int e)]) (σ:=σ) (src:=yk0 (yij 0)) (fi:=eT (eFn 3 f_comes_by_fate [] (yci (yij 0) (yci (yij 1) (yci (yij 2) yhr))))) (fe:=yid oIx (yij 0) (eC (.int 1))) Tc.D (cmB x e) (fun c=>.int c.t.a) (by simp) (by omega) (fun c _ j=>by
   have i1:=fun σ=>c.i1 σ;have cm:=fun σ=>zit c x e σ;generalize c.D=CD at *;generalize oD x=OX at *;constructor
   ·simp[cm]
   ·intro _;simp[i1]) (fun _ _=>by simp)
 have o:=zm8 ((ls.filter (cmB x e)).map fun c=>c.t.a) σ;rw[List.map_map,show (D.int ∘ fun c:Tc=>c.t.a)=(fun c:Tc=>D.int c.t.a)from rfl]at o;unfold f_sum_by_fate zb3 sby;generalize D.lst ((ls.filter (cmB x e)).map fun c=>D.int c.t.a)=O2 at *;generalize ((ls.filter (cmB x e)).map fun c=>c.t.a).sum=SM at *;generalize D.lst (ls.map Tc.D)=IN at *;generalize oD x=OX at *;simp[l,o,-zo9]
def yix(F:Fs)(e:Int):Grp->Int
 |[]=>0
 |q::G=>sby q.2 ((yis F q.1).getD none) e+yix F e G
noncomputable abbrev soB:Ev->M Fl:=(ykj (fun a b=>a+b) 4 (eFn 3 f_sum_by_fate [] (yci (yij 6) (yci (yid yez (yij 2) (yij 5)) (yci (yij 3) yhr)))))
def frm(v:Vw)(qs:List (Po × St)):Int:=(qs.map fun q=>shr q.1.s q.2+yin (lot v q.1.s q.1.sn) q.2.ts).sum
theorem zix(ws:List Int)(w:Int):ddp (ws++[w])=if (ddp ws).any (·== w)then ddp ws else ddp ws++[w]:=by
 unfold ddp;rw[List.foldl_append];rfl
theorem zwh:∀ (ws acc:List Int) (x:Int),x∈ws.foldl PyProof.Rows.step_dedup acc ↔ x∈acc\/x∈ws
 |[],acc,x=>by simp
 |w::ws,acc,x=>by
  rw[List.foldl_cons,zwh ws];have:x∈PyProof.Rows.step_dedup acc w ↔ x∈acc\/x=w:=by
   unfold PyProof.Rows.step_dedup;split
   ·next h=>
    constructor
    ·exact .inl
    ·rintro (z|rfl)
     ·exact z
     ·obtain⟨y,hy,e⟩:=List.any_eq_true.mp h;have:y=x:=by simpa using e
      rw[<-this];exact hy
   ·simp
  rw[this];simp only[List.mem_cons];constructor
  ·rintro ((h|h)|h)
   ·exact .inl h
   ·exact .inr (.inl h)
   ·exact .inr (.inr h)
  ·rintro (h|h|h)
   ·exact .inl (.inl h)
   ·exact .inl (.inr h)
   ·exact .inr h
theorem zo2(ws:List Int)(x:Int):x∈ddp ws ↔ x∈ws:=by
 have:=zwh ws [] x;simpa [ddp]using this
def wds(cs:List Tc):List Int:=cs.map fun c=>c.t.w
def flt(cs:List Tc)(w:Int):List Tc:=cs.filter fun c=>c.t.w == w
def spc(cs:List Tc):Grp:=(ddp (wds cs)).map fun w=>(w,flt cs w)
theorem zju(cs:List Tc)(c:Tc)(w:Int):flt (cs++[c]) w=if c.t.w == w then flt cs w++[c]else flt cs w:=by
 unfold flt;rw[List.filter_append,List.filter_cons];split<;>simp
theorem zj7(cs:List Tc)(c:Tc):yiw (spc cs) c=spc (cs++[c]):=by
 have ha:(spc cs).any (fun q=>q.1 == c.t.w)=(ddp (wds cs)).any (·== c.t.w):=by unfold spc;rw[List.any_map];rfl
 have hw:wds (cs++[c])=wds cs++[c.t.w]:=by simp[wds]
 unfold yiw;rw[ha];cases h:(ddp (wds cs)).any (·== c.t.w)with
 |true=>
  unfold spc;rw[hw,zix,h];simp only[if_true,List.map_map];apply List.map_congr_left;intro w _;simp only[Function.comp,zju];by_cases e:c.t.w=w
  ·subst e;simp
  ·have e1:(c.t.w == w)=false:=by simpa using e
   have e2:(w == c.t.w)=false:=by simpa using fun z=>e z.symm
   rw[e1,e2];simp
 |false=>
  have hn:c.t.w ∉ wds cs:=fun z=>by
   rw[List.any_eq_false]at h;exact h _ ((zo2 _ _).mpr z) (by simp)
  unfold spc;rw[hw,zix,h];simp only[Bool.false_eq_true,if_false,List.map_append,List.map_cons,List.map_nil];congr 1
  ·apply List.map_congr_left;intro w hwm;rw[zju];have e1:(c.t.w == w)=false:=by
    simp;intro z;exact hn (by rw[z];exact(zo2 _ _).mp hwm)
   rw[e1];simp
  ·have e0:flt cs c.t.w=[]:=by
    unfold flt;rw[List.filter_eq_nil_iff];intro d hd z;exact hn (List.mem_map.mpr ⟨d,hd,by simpa using z⟩)
   rw[zju,e0];simp
theorem zx3:∀ (cs ds:List Tc),cs.foldl yiw (spc ds)=spc (ds++cs)
 |[],ds=>by simp
 |c::cs,ds=>by rw[List.foldl_cons,zj7,zx3 cs (ds++[c])];simp
theorem zqi(cs:List Tc):grp cs=spc cs:=by
 have:=zx3 cs [];simpa [grp,spc,wds,ddp]using this
theorem zuq(cs:List Tc):(spc cs).length<=cs.length:=by
 unfold spc;rw[List.length_map];have:=zwi (wds cs);simpa [wds]using this
theorem ybf(cs:List Tc):∀ q∈spc cs,q.2.length<=cs.length:=fun q hq=>by
 obtain⟨w,_,rfl⟩:=List.mem_map.mp hq;exact List.length_filter_le _ _
def yi0(h:Tc->Int)(cs:List Tc):Int:=(cs.map h).sum
theorem zki(h:Tc->Int)(c:Tc)(cs:List Tc)(w:Int):yi0 h (flt (c::cs) w)=(if c.t.w == w then h c else 0)+yi0 h (flt cs w):=by
 unfold flt yi0;rw[List.filter_cons];split<;>simp
def ylm(h:Int->Tc->Int)(cs:List Tc):List Int->Int
 |[]=>0
 |w::W=>yi0 (h w) (flt cs w)+ylm h cs W
theorem zno(h:Int->Tc->Int):∀ W,ylm h [] W=0
 |[]=>rfl
 |w::W=>by simp[ylm,zno h W,yi0,flt]
theorem zh7(h:Int->Tc->Int)(c:Tc)(cs:List Tc):∀ (W:List Int),W.Nodup->ylm h (c::cs) W=(if c.t.w∈W then h c.t.w c else 0)+ylm h cs W
 |[],_=>by simp[ylm]
 |w::W,hn=>by
  rw[List.nodup_cons]at hn;simp only[ylm];rw[zki,zh7 h c cs W hn.2];by_cases e:c.t.w=w
  ·have e1:(c.t.w == w)=true:=by simpa using e
   rw[e1,e];simp only[if_true,List.mem_cons,true_or];rw[if_neg hn.1];omega
  ·have e1:(c.t.w == w)=false:=by simpa using e
   rw[e1];simp only[Bool.false_eq_true,if_false,List.mem_cons,e,false_or];omega
theorem znn(h:Int->Tc->Int)(W:List Int)(hn:W.Nodup):∀ (cs:List Tc),(∀ c∈cs,c.t.w∈W)->ylm h cs W=yi0 (fun c=>h c.t.w c) cs
 |[],_=>by rw[zno];rfl
 |c::cs,hc=>by
  rw[zh7 h c cs W hn,if_pos (hc c List.mem_cons_self),znn h W hn cs fun d hd=>hc d (List.mem_cons_of_mem _ hd)];simp[yi0]
theorem zfe(p:Tc->Bool):∀ cs:List Tc,((cs.filter p).map fun c=>c.t.a).sum=yi0 (fun c=>if p c then c.t.a else 0) cs
 |[]=>rfl
 |c::cs=>by
  have ih:=zfe p cs;unfold yi0 at *;rw[List.filter_cons,List.map_cons,List.sum_cons,<-ih];split<;>simp
theorem zka(F:Fs)(e:Int)(cs:List Tc):∀ (W:List Int),yix F e (W.map fun w=>(w,flt cs w))=ylm (fun w c=>if cmB ((yis F w).getD none) e c then c.t.a else 0) cs W
 |[]=>rfl
 |w::W=>by
  simp only[List.map_cons,yix,ylm];rw[zka F e cs W];unfold sby;rw[zfe]
def cnt(x:Option Int)(e:Int)(c:Tc):Bool:=ydk c.l || cmB x e c
theorem zgb(x:Option Int)(e:Int)(c:Tc)(h:ydk c.l=true):cmB x e c=false:=by
 have hl:c.l = "won"\/c.l = "sure"\/c.l = "back":=by
  unfold ydk inV at h;simp only[List.map_cons,List.map_nil,List.any_cons,List.any_nil,Bool.or_false,Bool.or_eq_true,eqV]at h;rcases h with h|h|h
  ·exact .inl (eq_of_beq h).symm
  ·exact .inr (.inl (eq_of_beq h).symm)
  ·exact .inr (.inr (eq_of_beq h).symm)
 unfold cmB;have h1:(c.l == ("open" : Str))=false:=by rcases hl with h|h|h<;>rw[h]<;>decide
 have h2:(c.l == ("hangs" : Str))=false:=by rcases hl with h|h|h<;>rw[h]<;>decide
 rw[h1,h2];rfl
theorem zox(X:Int->Option Int)(e:Int):∀ cs:List Tc,yi0 (fun c=>if cnt (X c.t.w) e c then c.t.a else 0) cs=yi0 (fun c=>if ydk c.l then c.t.a else 0) cs+yi0 (fun c=>if cmB (X c.t.w) e c then c.t.a else 0) cs
 |[]=>rfl
 |c::cs=>by
  have ih:=zox X e cs;unfold yi0 at *;simp only[List.map_cons,List.sum_cons];rw[ih];unfold cnt;cases hf:ydk c.l with
  |true=>
   rw[zgb (X c.t.w) e c hf];simp;omega
  |false=>simp;omega
def own(qs:List (Po × St)):Int:=(qs.map fun q=>shr q.1.s q.2).sum
theorem zw1(g:Ti->Str):∀ ts:List Ti,yin g ts=yi0 (fun c=>if ydk c.l then c.t.a else 0) (ts.map fun u=>(⟨g u,u⟩:Tc))
 |[]=>rfl
 |t::ts=>by
  simp only[yin,List.map_cons];rw[zw1 g ts];simp[yi0]
theorem zkh(h:Tc->Int)(cs ds:List Tc):yi0 h (cs++ds)=yi0 h cs+yi0 h ds:=by simp[yi0]
theorem zpz(v:Vw):∀ qs:List (Po × St),frm v qs=own qs+yi0 (fun c=>if ydk c.l then c.t.a else 0) (AT v qs)
 |[]=>rfl
 |q::qs=>by
  have ih:=zpz v qs;rw[show AT v (q::qs)=tcs v q++AT v qs from List.flatMap_cons ..,zkh];unfold frm own at *;simp only[List.map_cons,List.sum_cons];rw[ih,zw1];unfold tcs;omega
theorem zok{ps:List Po}{cs:List Int}(hp:plB ps cs=true):∀ q∈chS ps cs,q.1∈ps/\q.2∈q.1.st:=fun q hq=>by
 obtain⟨r,hr,rfl⟩:=List.mem_map.mp hq;have hb:=List.all_eq_true.mp hp r hr;simp only[Bool.and_eq_true,decide_eq_true_eq]at hb;have hi:r.2.toNat<r.1.st.length:=by omega
 refine⟨(List.of_mem_zip hr).1,?_⟩;dsimp only;rw[List.getD_eq_getElem?_getD,List.getElem?_eq_getElem hi];exact List.getElem_mem hi
theorem zva(v:Vw):∀ (qs:List (Po × St)),(∀ q∈qs,q.2.Ok)->(AT v qs).length<=6 * qs.length
 |[],_=>by simp[AT]
 |q::qs,h=>by
  rw[show AT v (q::qs)=tcs v q++AT v qs from List.flatMap_cons ..,List.length_append,List.length_cons];have h1:=zva v qs fun r hr=>h r (List.mem_cons_of_mem _ hr);have h2:=(h q List.mem_cons_self).len;have h3:(tcs v q).length=q.2.ts.length:=by unfold tcs;simp
  omega
theorem zoj(ps:List Po)(cs:List Int):(chS ps cs).length<=ps.length:=by unfold chS;rw[List.length_map];exact zu9 ps cs
theorem ixM{α:Type}{xs:List α}{f:α->D}{i:Nat}{x:α}(h:xs[i]?=some x)(σ:Sto):oIx (.lst (xs.map f)) (.int i) σ=.ok (f x) σ:=zr6 (zn6 (by rw[List.getElem?_map,h];rfl))
theorem ykf(n:Nat)(h:n<=1000)(σ:Sto):yke (.int (n:Int)) σ=.ok (.seq (yao n)) σ:=by
 have:=zs7 (σ:=σ) (j:=(n:Int)) (by omega) (by omega);simpa using this
def dvn:Nat->Int->Int
 |0,a=>a
 |n+1,a=>dvn n (a / 2147483647)
theorem zru(x0 x1 x4:Option D)(σ:Sto):∀ (l:List D) (a:Int) (x3:Option D),∃ (y3:Option D),yi9 (tgN 3) (ykr 2 (yid ye2 (yij 2) (eC (.int 2147483647)))) l [x0,x1,some (.int a),x3,x4] σ=.ok (.nx [x0,x1,some (.int (dvn l.length a)),y3,x4]) σ
 |[],a,x3=>⟨x3,by simp[dvn]⟩
 |d::l,a,x3=>by
  obtain⟨y3,e⟩:=zru x0 x1 x4 σ l (a / 2147483647) (some d);refine⟨y3,?_⟩;rw[zk4];simp only[List.set_cons_succ,List.set_cons_zero];have dv:∀ σ,ye2 (.int a) (.int 2147483647) σ=.ok (.int (a / 2147483647)) σ:=fun σ=>zll a 2147483647 (by decide) (by decide) σ;have st:ykr 2 (yid ye2 (yij 2) (eC (.int 2147483647))) [x0,x1,some (.int a),some d,x4] σ=.ok (.nx [x0,x1,some (.int (a / 2147483647)),some d,x4]) σ:=by simp[dv]
  rw[st,zod,zk2,e];rfl
def mx1(c k:Int):Int:=(c+7919 * k+1) * 48271 % 2147483647
def mx2(c k:Int):Int:=mx1 c k * (mx1 c k / 1009+69621) % 2147483647
def yjf(c:Int)(k:Nat):Int:=if (c % 2 == 0) && (((k:Int) == 0) || decide (0<dvn k (c / 2)))then dvn k (c / 2) % 2147483647 else mx2 c k * (mx2 c k / 2003+40692) % 2147483629
theorem zrs(c:Int)(k:Nat):0<=yjf c k:=by unfold yjf;split<;>omega
theorem zy2(c:Int)(k:Nat)(hk:k<=100)(σ:Sto):f__law_mixed [.int c,.int k] σ=.ok (.int (yjf c k)) σ:=by
 have rk:=fun σ=>ykf k (by omega) σ;obtain⟨y3,e⟩:=zru (some (.int c)) (some (.int k)) none σ (yao k) (c / 2) none;rw[show (yao k).length=k by unfold yao;simp]at e;have hN:∀ z:Int,0<=z % 2147483647/\z % 2147483647<2147483647:=fun z=>by omega
 unfold yjf mx2 mx1;generalize hn1:(c+7919 * (k:Int)+1) * 48271 % 2147483647=n1;have b1:0<=n1/\n1<2147483647:=by rw[<-hn1];exact hN _
 generalize hn2:n1 * (n1 / 1009+69621) % 2147483647=n2;have b2:0<=n2/\n2<2147483647:=by rw[<-hn2];exact hN _
 have m0:∀ σ,yjs (.int 7919) (.int k) σ=.ok (.int (7919 * k)) σ:=fun σ=>zzb (by omega) (by omega);have m1:∀ x σ,yjs (.int x) (.int 48271) σ=.ok (.int (x * 48271)) σ:=fun x σ=>zzc (by omega) (by omega);have m2:∀ y σ,yjs (.int n1) (.int y) σ=.ok (.int (n1 * y)) σ:=fun y σ=>zzb (by omega) (by omega);have m3:∀ y σ,yjs (.int n2) (.int y) σ=.ok (.int (n2 * y)) σ:=fun y σ=>zzb (by omega) (by omega);unfold f__law_mixed zcu;generalize dvn k (c / 2)=b at *;generalize yao k=RG at *;generalize (k:Int)=K at *;cases h0:(c % 2 == 0)with
 |true=>
  cases h1:(K == 0)with
  |true=>simp[h0,rk,e,h1]
  |false=>
   cases h2:decide (0<b)with
   |true=>simp[h0,rk,e,h1,h2]
   |false=>simp[h0,rk,e,h1,h2,m0,m1,hn1,m2,hn2,m3]
 |false=>simp[h0,m0,m1,hn1,m2,hn2,m3]
def putF(F:Fs)(w:Int)(x:Option Int):Fs:=if F.any (fun p=>decide (p.1=w))then F.map fun p=>if p.1=w then (p.1,x)else p else F++[(w,x)]
theorem zsy(F:Fs)(w:Int)(x:Option Int):yfm (kvF F) (.inl w) (oD x)=kvF (putF F w x):=by
 have ha:((kvF F).any fun kv=>decide (kv.1=(Sum.inl w:Key)))=F.any fun p=>decide (p.1=w):=by
  unfold kvF;rw[List.any_map];congr 1;funext p;simp
 unfold yfm putF;rw[ha];split
 ·unfold kvF;rw[List.map_map,List.map_map];congr 1;funext p;simp only[Function.comp];by_cases e:p.1=w
  ·simp[e]
  ·have e2:¬ (Sum.inl p.1:Key)=Sum.inl w:=fun z=>e (Sum.inl.inj z);simp[e]
 ·unfold kvF;rw[List.map_append];rfl
theorem zmq{σ:Sto}{F:Fs}(w:Int)(x:Option Int)(hl:F.length<900)(ρ:Ev):yf4 ρ (oD x) (.ref σ.length) (.int w) (σ++[.dic (kvF F)])=.ok (.nx ρ) (σ++[.dic (kvF (putF F w x))]):=by
 rw[zmp w (oD x) (by unfold kvF;simp;omega) ρ,zsy]
theorem p12(σ:Sto):yjt (.int 10) (.int 12) σ=.ok (.int 1000000000000) σ:=zza (by simp[yh4])
def amV(n:Int):Int:=if n % 3 == 0 then 1+n / 3 % 9 else 1+n % 1000000000000
theorem zvp(n:Int)(σ:Sto):f__law_amount [.int n] σ=.ok (.int (amV n)) σ:=by
 have p:=p12;have om:∀ σ,yjr (.int n) (.int 1000000000000) σ=.ok (.int (n % 1000000000000)) σ:=fun σ=>zr9 n _ (by decide);unfold f__law_amount zbz amV;cases h:(n % 3 == 0)<;>simp[h,p,om]
def ylh(n w k:Int):Ti:=⟨n % 2,amV (n / 2),w,max 0 (k+n / 7 % 13 - 4)⟩
theorem yjc(a b:Int)(σ:Sto):ye8 [.int a,.int b] σ=.ok (.int (max a b)) σ:=by simp
theorem ybp(n w k:Int)(σ:Sto):f__law_tie [.int n,.int w,.int k] σ=.ok (ylh n w k).D σ:=by
 have h:=fun σ=>zvp (n / 2) σ;have m:=fun σ=>yjc 0 (k+n / 7 % 13 - 4) σ;unfold f__law_tie zek ylh Ti.D;generalize amV (n / 2)=A at *;generalize max 0 (k+n / 7 % 13 - 4)=M at *;simp[h,m]
section
variable{α:Type}{xs:List α}{σ:Sto}{fi:Ev->M Bool}{fe:Ev->M D}
theorem zys{nx:Src}{rest:Ev}(f:α->D)(p:α->Bool)(y:α->D)(hnx:∀ i j,nx.nx i (σ++j)=some ((xs.map f)[i]?))(step:∀ x∈xs,∀ j,fi (some (f x)::rest) (σ++j)=.ok (p x) (σ++j)/\(p x=true->fe (some (f x)::rest) (σ++j)=.ok (y x) (σ++j)))(hl:xs.length<=1000) :
  ∀ (k i:Nat) (o:Option D) (ys:List D),xs.length<k+i->i<=xs.length->ys.length<=i->
   zyr nx σ.length (tgN 0) fi fe k i (o::rest) (σ++[.lst ys])=.ok () (σ++[.lst (ys++((xs.drop i).filter p).map y)]):=by
 intro k;induction k with
 |zero=>intro i o ys h1 h2;omega
 |succ k ih=>
  intro i o ys h1 h2 hy;unfold zyr;rw[hnx,List.getElem?_map];cases e:xs[i]? with
  |none=>
   have hi:xs.length<=i:=List.getElem?_eq_none_iff.mp e;rw[List.drop_eq_nil_of_le hi];simp
  |some d=>
   obtain⟨hi,ed⟩:=List.getElem?_eq_some_iff.mp e;have hd:xs.drop i=d::xs.drop (i+1):=by rw[<-ed];exact List.drop_eq_getElem_cons hi
   obtain⟨s1,s2⟩:=step d (by rw[<-ed];exact List.getElem_mem hi) [.lst ys];show bnd (nox (fi (some (f d)::rest))) _ _=_;rw[zvv,zy6 s1,zod];dsimp only[List.set];by_cases hp:p d=true
   ·rw[hp,if_pos rfl,zvv,zy6 (s2 hp),zod,zvv,zd9 (by omega),zod,ih (i+1) (some (f d)) (ys++[y d]) (by omega) (by omega) (by simp;omega),hd,List.filter_cons,if_pos hp];simp
   ·rw[if_neg hp,ih (i+1) (some (f d)) ys (by omega) (by omega) (by omega),hd,List.filter_cons,if_neg hp]
theorem lcS{nx:Src}{ρ:Ev}{ix:List Nat}{src:Ev->M Src}(f:α->D)(p:α->Bool)(y:α->D)(hs:src ρ σ=.ok nx σ)(hnx:∀ i j,nx.nx i (σ++j)=some ((xs.map f)[i]?))(hl:xs.length<=1000)
  (step:∀ x∈xs,∀ j,fi (some (f x)::(ix.map fun i=>(ρ[i]?).getD none)) (σ++j)=.ok (p x) (σ++j)/\(p x=true->fe (some (f x)::(ix.map fun i=>(ρ[i]?).getD none)) (σ++j)=.ok (y x) (σ++j))) (hc:∀ x∈xs,cl (y x)=true) :
  yie (eLC src ix (tgN 0) fi fe) ρ σ=.ok (.lst ((xs.filter p).map y)) σ:=by
 show yir σ (eLC src ix (tgN 0) fi fe ρ σ)=_;have e:eLC src ix (tgN 0) fi fe ρ σ=.ok (.ref σ.length) (σ++[.lst ((xs.filter p).map y)]):=by
  show bnd (src ρ) (lcK (tgN 0) fi fe (ycm ix ρ)) σ=_;rw[zvv,hs,zod];show bnd (zyr nx σ.length (tgN 0) fi fe 1001 0 (none::(ix.map fun i=>(ρ[i]?).getD none))) _ (σ++[.lst []])=_;rw[zvv,zys f p y hnx step hl 1001 0 none [] (by omega) (by omega) (by simp),zod];simp
 rw[e,zp2 (ycv p y hc)]
end
structure Tk(ts:List Ti):Prop where
 nd:(ts.map (·.w)).Nodup
 len:ts.length<=6
 wb:∀ u∈ts,0<=u.w/\u.w<=6
noncomputable abbrev sdB:Ev->M Fl:=(ykq (ykr 6 (eFn 2 f__law_mixed [] (yci (yid yjk (yij 0) (eC (.int 4))) (yci (yij 5) yhr))))
 (ykq (ykr 7 (yid yjr (yij 6) (yid oIx (eLv (yci (eC (.int 4)) (yci (eC (.int 7)) yhr))) (yc6 ye5 (yci (yij 4) yhr)))))
 (sIf (yhx (eT (yid oLt (yc6 yjq (yci (yij 3) yhr)) (eC (.int 6)))) (eT (yid oEq (yie (eLC (yk0 (yij 3)) [7] (tgN 0) (eT (yid oEq (yid oIx (yij 0) (eC (.int 2))) (yij 1))) (yij 0))) (eLv yhr)))) (ykk (yc9 zrz (yij 3) (yci (eFn 3 f__law_tie [] (yci (yid yjk (yij 6) (eC (.int 4))) (yci (yij 7) (yci (yij 2) yhr)))) yhr))) ykn)))
theorem zw0(zs:List D)(σ:Sto):oEq (.lst zs) (.lst []) σ=.ok (.bl zs.isEmpty) σ:=by
 refine zy9 ?_;show eqL (eqD σ 7) zs []=_;cases zs<;>simp[eqL]
theorem zx8(b:Bool)(σ:Sto):ye5 [.bl b] σ=.ok (.int (if b then 1 else 0)) σ:=by cases b<;>rfl
def sdW(c:Int)(many:Bool)(i:Nat):Int:=yjf (c / 4) i % (if many then 7 else 4)
def sdT(c k:Int)(many:Bool)(ts:List Ti)(i:Nat):List Ti:=if decide ((ts.length:Int)<6) && ((ts.filter fun u=>u.w == sdW c many i).map Ti.D).isEmpty then ts++[ylh (yjf (c / 4) i / 4) (sdW c many i) k]else ts
theorem yfz(c:Int)(many:Bool)(i:Nat):0<=sdW c many i/\sdW c many i<=6:=by
 unfold sdW;cases many<;>simp<;>omega
theorem ya4(c k:Int)(many:Bool){ts:List Ti}(h:Tk ts)(i:Nat):Tk (sdT c k many ts i):=by
 unfold sdT;split
 ·next hb=>
  rw[Bool.and_eq_true,decide_eq_true_eq]at hb;have hno:sdW c many i ∉ ts.map (·.w):=fun z=>by
   obtain⟨u,hu,e⟩:=List.mem_map.mp z;have hm:u∈ts.filter fun u=>u.w == sdW c many i:=List.mem_filter.mpr ⟨hu,by simpa using e⟩;have he:=hb.2;rw[List.isEmpty_iff,List.map_eq_nil_iff]at he;rw[he]at hm;cases hm
  refine⟨?_,?_,?_⟩
  ·rw[List.map_append,List.nodup_append];refine⟨h.nd,by simp,fun a ha b hb2 e=>?_⟩;simp at hb2;exact hno (by rw[show sdW c many i=a by rw[e,hb2];rfl];exact ha)
  ·have:=hb.1;simp;omega
  ·intro u hu;rcases List.mem_append.mp hu with z|z
   ·exact h.wb u z
   ·simp at z;subst z;exact yfz c many i
 ·exact h
theorem ztt(c n k:Int)(many:Bool)(i:Nat)(hi:i<=8)(ts:List Ti)(h:Tk ts)(x6 x7:Option D)(σ:Sto):∃ y6 y7,
  sdB [some (.int c),some (.int n),some (.int k),some (.ref σ.length),some (.bl many),some (.int i),x6,x7] (σ++[.lst (ts.map Ti.D)])=.ok (.nx [some (.int c),some (.int n),some (.int k),some (.ref σ.length),some (.bl many),some (.int i),y6,y7]) (σ++[.lst ((sdT c k many ts i).map Ti.D)]):=by
 have mx:=fun σ=>zy2 (c / 4) i (by omega) σ;have pq:∀ σ,oIx (.lst [.int 4,.int 7]) (.int (if many then 1 else 0)) σ=.ok (.int (if many then 7 else 4)) σ:=fun σ=>by
  cases many with
  |false=>exact zr6 (show atI _ ((0:Nat):Int)=_ from zn6 rfl)
  |true=>exact zr6 (show atI _ ((1:Nat):Int)=_ from zn6 rfl)
 have om:∀ σ,yjr (.int (yjf (c / 4) i)) (.int (if many then 7 else 4)) σ=.ok (.int (sdW c many i)) σ:=fun σ=>zr9 _ _ (by cases many<;>simp);unfold sdT;generalize yjf (c / 4) i=M at *;generalize sdW c many i=W at *;have ls:yej (σ++[Ob.lst (ts.map Ti.D)]) σ.length=some (ts.map Ti.D):=by unfold yej;simp
 have ln:yjq [.ref σ.length] (σ++[.lst (ts.map Ti.D)])=.ok (.int ts.length) (σ++[.lst (ts.map Ti.D)]):=by
  have:yf1 (σ++[Ob.lst (ts.map Ti.D)]) (.ref σ.length)=some (ts.map Ti.D):=ls;unfold yjq;simp only[this];simp
 have l:=lcS (xs:=ts) (ix:=[7]) (nx:=.lref σ.length) (ρ:=[some (.int c),some (.int n),some (.int k),some (.ref σ.length),some (.bl many),some (.int i),some (.int M),some (.int W)]) (σ:=σ++[.lst (ts.map Ti.D)]) (src:=yk0 (yij 3)) (fi:=eT (yid oEq (yid oIx (yij 0) (eC (.int 2))) (yij 1))) (fe:=yij 0) Ti.D (fun u=>u.w == W) Ti.D (by
   rw[zut,show yij 3 [some (.int c),some (.int n),some (.int k),some (.ref σ.length),some (.bl many),some (.int i),some (.int M),some (.int W)] (σ++[.lst (ts.map Ti.D)])=.ok (.ref σ.length) (σ++[.lst (ts.map Ti.D)])from rfl,zod];have e:(σ++[Ob.lst (ts.map Ti.D)])[σ.length]?=some (.lst (ts.map Ti.D)):=by simp
   unfold yf0;simp only[ls]) (fun i j=>by
   show (yej _ σ.length).map _=_;have:yej (σ++[Ob.lst (ts.map Ti.D)]++j) σ.length=some (ts.map Ti.D):=by unfold yej;simp
   rw[this];rfl) (by have:=h.len;omega) (fun u _ j=>by
   have i2:=fun σ=>u.i2 σ;generalize u.D=UD at *;exact⟨by simp[i2],fun _=>by simp⟩) (fun _ _=>by simp)
 have en:=fun σ=>zw0 ((ts.filter fun u=>u.w == W).map Ti.D) σ;have ti:=fun σ=>ybp (M / 4) W k σ;have ap:=zd9 (σ:=σ) (xs:=ts.map Ti.D) (d:=(ylh (M / 4) W k).D) (by have:=h.len;simp;omega);generalize hQ:(if many then (7:Int)else 4)=Q at *;unfold sdB;cases hb:decide ((ts.length:Int)<6)with
 |false=>
  rw[Bool.false_and,if_neg Bool.false_ne_true];refine⟨some (.int M),some (.int W),?_⟩;generalize (σ++[Ob.lst (ts.map Ti.D)])=σ1 at *;generalize (ts.length:Int)=N1 at *;generalize (i:Int)=I at *;simp[mx,zx8,pq,om,ln,hb]
 |true=>
  rw[Bool.true_and];cases he:((ts.filter fun u=>u.w == W).map Ti.D).isEmpty with
  |false=>
   rw[he]at en;rw[if_neg Bool.false_ne_true];refine⟨some (.int M),some (.int W),?_⟩;generalize ((ts.filter fun u=>u.w == W).map Ti.D)=FL at *;generalize (σ++[Ob.lst (ts.map Ti.D)])=σ1 at *;generalize (ts.length:Int)=N1 at *;generalize (i:Int)=I at *;simp[mx,zx8,pq,om,ln,hb,l,en,-zo9]
  |true=>
   rw[he]at en;rw[if_pos rfl];refine⟨some (.int M),some (.int W),?_⟩;rw[List.map_append,show [ylh (M / 4) W k].map Ti.D=[(ylh (M / 4) W k).D]from rfl];generalize ((ts.filter fun u=>u.w == W).map Ti.D)=FL at *;generalize (ylh (M / 4) W k).D=TV at *;generalize (ts.length:Int)=N1 at *;generalize (i:Int)=I at *;generalize ts.map Ti.D=TL at *;simp[mx,zx8,pq,om,ln,hb,l,en,ti,ap,-zo9]
def sdL(c k:Int)(many:Bool):Nat->Nat->List Ti->List Ti
 |0,_,ts=>ts
 |m+1,i,ts=>sdL c k many m (i+1) (sdT c k many ts i)
theorem ya3(c k:Int)(many:Bool):∀ (m i:Nat) {ts:List Ti},Tk ts->Tk (sdL c k many m i ts)
 |0,_,_,h=>h
 |m+1,i,_,h=>ya3 c k many m (i+1) (ya4 c k many h i)
theorem zts(c n k:Int)(many:Bool)(σ:Sto):∀ (m i:Nat) (ts:List Ti) (x5 x6 x7:Option D),i+m<=9->Tk ts->∃ y5 y6 y7,
  yi9 (tgN 5) sdB ((List.range' i m).map fun(k:Nat)=>D.int k) [some (.int c),some (.int n),some (.int k),some (.ref σ.length),some (.bl many),x5,x6,x7] (σ++[.lst (ts.map Ti.D)])=.ok (.nx [some (.int c),some (.int n),some (.int k),some (.ref σ.length),some (.bl many),y5,y6,y7]) (σ++[.lst ((sdL c k many m i ts).map Ti.D)]):=by
 intro m;induction m with
 |zero=>intro i ts x5 x6 x7 _ _;exact⟨x5,x6,x7,by simp[sdL]⟩
 |succ m ih=>
  intro i ts x5 x6 x7 hi h;obtain⟨y6,y7,st⟩:=ztt c n k many i (by omega) ts h x6 x7 σ;obtain⟨z5,z6,z7,e⟩:=ih (i+1) (sdT c k many ts i) (some (.int i)) y6 y7 (by omega) (ya4 c k many h i);refine⟨z5,z6,z7,?_⟩;rw[List.range'_succ,List.map_cons,zk4];simp only[List.set_cons_succ,List.set_cons_zero];rw[st,zod,zk2,e];rfl
def sdN(c:Int):Nat:=if c / 4 % 8 == 3 then 8 else (c % 4).toNat
def stV(c n k:Int):St:=⟨n,yjf (c / 4) 9 % 3 * (yjf (c / 4) 9 / 3 % 1000000000000),yjf (c / 4) 9 / 7 % 1000000000000,sdL c k (c / 4 % 8 == 3) (sdN c) 0 []⟩
theorem ybg(c n k:Int):(stV c n k).Ok:=by
 have:=ya3 c k (c / 4 % 8 == 3) (sdN c) 0 (ts:=[]) ⟨by simp,by simp,fun _ h=>by cases h⟩;exact⟨this.nd,this.len,this.wb⟩
theorem zm6(c n k:Int)(σ:Sto):f__law_stand [.int c,.int n,.int k] σ=.ok (stV c n k).D σ:=by
 have hN:sdN c<=8:=by unfold sdN;split<;>omega
 obtain⟨y5,y6,y7,e⟩:=zts c n k (c / 4 % 8 == 3) σ (sdN c) 0 [] none none none (by omega) ⟨by simp,by simp,fun _ h=>by cases h⟩;rw[<-zhj,show (([]:List Ti).map Ti.D)=[]from rfl]at e;have rk:=fun σ=>ykf (sdN c) (by omega) σ;have ps:∀ σ,oIx (.lst [.int (c % 4),.int 8]) (.int (if (c / 4 % 8 == 3)then 1 else 0)) σ=.ok (.int (sdN c)) σ:=fun σ=>by
  unfold sdN;cases hb:(c / 4 % 8 == 3)with
  |false=>
   have:(((if false=true then 8 else (c % 4).toNat:Nat)):Int)=c % 4:=by simp;omega
   rw[this];exact zr6 (show atI _ ((0:Nat):Int)=_ from zn6 rfl)
  |true=>exact zr6 (show atI _ ((1:Nat):Int)=_ from zn6 rfl)
 have mx:∀ σ,f__law_mixed [.int (c / 4),.int 9] σ=.ok (.int (yjf (c / 4) 9)) σ:=fun σ=>zy2 (c / 4) 9 (by omega) σ;have p:=p12;have om:∀ z σ,yjr (.int z) (.int 1000000000000) σ=.ok (.int (z % 1000000000000)) σ:=fun z σ=>zr9 z _ (by decide);have hM:=zrs (c / 4) 9;have mu:∀ y σ,yjs (.int (yjf (c / 4) 9 % 3)) (.int y) σ=.ok (.int (yjf (c / 4) 9 % 3 * y)) σ:=fun y σ=>zzb (by omega) (by omega);have tu:zze [.ref σ.length] (σ++[.lst ((sdL c k (c / 4 % 8 == 3) (sdN c) 0 []).map Ti.D)])=.ok (.tup ((sdL c k (c / 4 % 8 == 3) (sdN c) 0 []).map Ti.D)) (σ++[.lst ((sdL c k (c / 4 % 8 == 3) (sdN c) 0 []).map Ti.D)]):=by
  have:yf1 (σ++[Ob.lst ((sdL c k (c / 4 % 8 == 3) (sdN c) 0 []).map Ti.D)]) (.ref σ.length)=some ((sdL c k (c / 4 % 8 == 3) (sdN c) 0 []).map Ti.D):=by show yej _ _=_;unfold yej;simp
  unfold zze;simp only[this]
 have hcl:clL ((sdL c k (c / 4 % 8 == 3) (sdN c) 0 []).map Ti.D)=true:=by simp
 unfold sdB at e;unfold f__law_stand zcw stV St.D;dsimp only;generalize hb:(c / 4 % 8 == 3)=b at *;generalize (sdL c k b (sdN c) 0 []).map Ti.D=TL at *;generalize yjf (c / 4) 9=MX at *;generalize yao (sdN c)=RG at *;generalize ((sdN c:Nat):Int)=N at *;have fz:∀ d,cl d=true->yir σ (.ok d (σ++[.lst TL]))=.ok d σ:=fun d h=>zjy h;simp[zx8,ps,rk,e,mx,p,om,mu,tu,hb,fz,hcl]
def ptL(c k:Int)(i m:Nat):List St:=(List.range' i m).map fun(j:Nat)=>stV (c / (4+7 * (j:Int))+77) (4+(j:Int)) k
noncomputable abbrev poB:Ev->M Fl:=(ykk (yc9 zrz (yij 3) (yci (eFn 3 f__law_stand [] (yci (yid yjg (yid yjk (yij 0) (yid yjg (eC (.int 4)) (yid yjs (eC (.int 7)) (yij 4)))) (eC (.int 77))) (yci (yid yjg (eC (.int 4)) (yij 4)) (yci (yij 1) yhr)))) yhr)))
theorem zsq(c k kp:Int)(x2 x5 x6 x7:Option D)(σ:Sto):∀ (m i:Nat) (ys:List St) (x4:Option D),i+m<=20->ys.length<=i+1->∃ y4,
  yi9 (tgN 4) poB ((List.range' i m).map fun(k:Nat)=>D.int k) [some (.int c),some (.int k),x2,some (.ref σ.length),x4,x5,x6,x7] (σ++[.lst (ys.map St.D)])=.ok (.nx [some (.int c),some (.int k),x2,some (.ref σ.length),y4,x5,x6,x7]) (σ++[.lst ((ys++ptL c k i m).map St.D)]):=by
 intro m;induction m with
 |zero=>intro i ys x4 _ _;exact⟨x4,by simp[ptL]⟩
 |succ m ih=>
  intro i ys x4 hi hy;have ml:∀ σ,yjs (.int 7) (.int (i:Int)) σ=.ok (.int (7 * (i:Int))) σ:=fun σ=>zzb (by omega) (by omega);have dv:∀ σ,yjk (.int c) (.int (4+7 * (i:Int))) σ=.ok (.int (c / (4+7 * (i:Int)))) σ:=fun σ=>zr1 c _ (by omega) (by omega);have sa:=fun σ=>zm6 (c / (4+7 * (i:Int))+77) (4+(i:Int)) k σ;have ap:=zd9 (σ:=σ) (xs:=ys.map St.D) (d:=(stV (c / (4+7 * (i:Int))+77) (4+(i:Int)) k).D) (by simp;omega);obtain⟨y4,e⟩:=ih (i+1) (ys++[stV (c / (4+7 * (i:Int))+77) (4+(i:Int)) k]) (some (.int i)) (by omega) (by simp;omega);refine⟨y4,?_⟩;have st:poB [some (.int c),some (.int k),x2,some (.ref σ.length),some (.int i),x5,x6,x7] (σ++[.lst (ys.map St.D)])=.ok (.nx [some (.int c),some (.int k),x2,some (.ref σ.length),some (.int i),x5,x6,x7]) (σ++[.lst ((ys++[stV (c / (4+7 * (i:Int))+77) (4+(i:Int)) k]).map St.D)]):=by
   rw[List.map_append,show [stV (c / (4+7 * (i:Int))+77) (4+(i:Int)) k].map St.D=[(stV (c / (4+7 * (i:Int))+77) (4+(i:Int)) k).D]from rfl];unfold poB;generalize (stV (c / (4+7 * (i:Int))+77) (4+(i:Int)) k).D=SV at *;generalize (i:Int)=I at *;generalize ys.map St.D=YL at *;simp[ml,dv,sa,ap]
  rw[List.range'_succ,List.map_cons,zk4];simp only[List.set_cons_succ,List.set_cons_zero];rw[st,zod,zk2,e];unfold ptL;rw[List.range'_succ];simp
def snT(P k:Int)(l:List (Int × Int))(i:Nat):List (Int × Int):=if P / (1+11 * (i:Int)) % 5 == 0 then yj2 l i (max 0 (k - P / 3 % 6))else l
def snL(P k:Int):Nat->Nat->List (Int × Int)->List (Int × Int)
 |0,_,l=>l
 |m+1,i,l=>snL P k m (i+1) (snT P k l i)
noncomputable abbrev snB:Ev->M Fl:=(sIf (eT (yid oEq (yid yjr (yid yjk (yij 6) (yid yjg (eC (.int 1)) (yid yjs (eC (.int 11)) (yij 7)))) (eC (.int 5))) (eC (.int 0)))) (yfx (yc6 ye8 (yci (eC (.int 0)) (yci (yid yjv (yij 1) (yid yjr (yid yjk (yij 6) (eC (.int 3))) (eC (.int 6)))) yhr))) (yij 5) (yij 7)) ykn)
theorem zuf(P k:Int)(x0 x2 x3 x4:Option D)(σ:Sto):∀ (m i:Nat) (l:List (Int × Int)) (x7:Option D),i+m<=20->l.length<=i->∃ y7,
  yi9 (tgN 7) snB ((List.range' i m).map fun(k:Nat)=>D.int k) [x0,some (.int k),x2,x3,x4,some (.ref σ.length),some (.int P),x7] (σ++[.dic (kvI l)])=.ok (.nx [x0,some (.int k),x2,x3,x4,some (.ref σ.length),some (.int P),y7]) (σ++[.dic (kvI (snL P k m i l))]):=by
 intro m;induction m with
 |zero=>intro i l x7 _ _;exact⟨x7,by simp[snL]⟩
 |succ m ih=>
  intro i l x7 hi hl;have ml:∀ σ,yjs (.int 11) (.int (i:Int)) σ=.ok (.int (11 * (i:Int))) σ:=fun σ=>zzb (by omega) (by omega);have dv:∀ σ,yjk (.int P) (.int (1+11 * (i:Int))) σ=.ok (.int (P / (1+11 * (i:Int)))) σ:=fun σ=>zr1 P _ (by omega) (by omega);have hsl:(snT P k l i).length<=i+1:=by
   unfold snT;split
   ·have:=zl7 l i (max 0 (k - P / 3 % 6));omega
   ·omega
  obtain⟨y7,e⟩:=ih (i+1) (snT P k l i) (some (.int i)) (by omega) (by omega);refine⟨y7,?_⟩;have st:snB [x0,some (.int k),x2,x3,x4,some (.ref σ.length),some (.int P),some (.int i)] (σ++[.dic (kvI l)])=.ok (.nx [x0,some (.int k),x2,x3,x4,some (.ref σ.length),some (.int P),some (.int i)]) (σ++[.dic (kvI (snT P k l i))]):=by
   have sd:=fun ρ=>zmp (σ:=σ) (kvs:=kvI l) (i:Int) (.int (max 0 (k - P / 3 % 6))) (by unfold kvI;simp;omega) ρ;rw[zhh]at sd;have mm:=fun σ=>yjc 0 (k - P / 3 % 6) σ;unfold snB snT;cases hb:(P / (1+11 * (i:Int)) % 5 == 0)with
   |false=>
    rw[if_neg Bool.false_ne_true];generalize (σ++[Ob.dic (kvI l)])=σ1 at *;generalize (i:Int)=I at *;simp[ml,dv,hb]
   |true=>
    rw[if_pos rfl];generalize (σ++[Ob.dic (kvI (yj2 l (i:Int) (max 0 (k - P / 3 % 6))))])=σ2 at *;generalize (σ++[Ob.dic (kvI l)])=σ1 at *;generalize max 0 (k - P / 3 % 6)=MV at *;generalize (i:Int)=I at *;generalize σ.length=N0 at *;simp[ml,dv,hb,mm,sd]
  rw[List.range'_succ,List.map_cons,zk4];simp only[List.set_cons_succ,List.set_cons_zero];rw[st,zod,zk2,e];rfl
theorem zp3{σ:Sto}{a:D}{zs:List D}{l:List (Int × Int)}(ha:cl a=true)(hz:clL zs=true):yir σ (.ok (.tup [a,.ref σ.length,.ref (σ.length+1)]) (σ++[.lst zs]++[.dic (kvI l)]))=.ok (.tup [a,.lst zs,shD l]) σ:=by
 have e0:(σ++[Ob.lst zs]++[Ob.dic (kvI l)])[σ.length]?=some (.lst zs):=by simp
 have e1:(σ++[Ob.lst zs]++[Ob.dic (kvI l)])[σ.length+1]?=some (.dic (kvI l)):=by
  rw[List.getElem?_append_right (by simp)];simp
 have hzL:∀ (k m:Nat) (σ':Sto) (xs:List D),clL xs=true->fzL (fz k σ' m) xs=some xs:=by
  intro k m σ' xs;induction xs with
  |nil=>intro _;rfl
  |cons x xs ih=>
   intro hc;have hc':cl x=true/\clL xs=true:=by simpa [clL,Bool.and_eq_true]using hc
   unfold fzL;rw[ydu hc'.1,ih hc'.2]
 have hl2:clL ((kvI l).map (·.2))=true:=by unfold kvI;rw[List.map_map];exact zom fun _=>by simp
 have r0:fz σ.length (σ++[Ob.lst zs]++[Ob.dic (kvI l)]) 5 (.ref σ.length)=some (.lst zs):=by
  unfold fz;rw[if_neg (by simp[cl])];dsimp only;rw[if_neg (Nat.lt_irrefl _),e0];dsimp only;rw[hzL _ _ _ _ hz];rfl
 have r1:fz σ.length (σ++[Ob.lst zs]++[Ob.dic (kvI l)]) 5 (.ref (σ.length+1))=some (shD l):=by
  unfold fz;rw[if_neg (by simp[cl])];dsimp only;rw[if_neg (by omega),e1];dsimp only;rw[hzL _ _ _ _ hl2];unfold shD kvI;rw[List.map_map,List.map_map];rfl
 have ht:fz σ.length (σ++[Ob.lst zs]++[Ob.dic (kvI l)]) 6 (.tup [a,.ref σ.length,.ref (σ.length+1)])=some (.tup [a,.lst zs,shD l]):=by
  unfold fz;rw[if_neg (by simp[cl,clL,ha])];dsimp only;unfold fzL;rw[ydu ha];unfold fzL;rw[r0];unfold fzL;rw[r1];rfl
 unfold yir;dsimp only;rw[if_pos (by simp),ht]
def poN(c kp:Int):Nat:=(if c % 4 == 1 then 1 else if c % 4 == 3 then 2 else 0)+7 * (if (kp == 0) && (c / 4 % 16 == 5)then 1 else 0)
def yj0(c k kp:Int):Po:=⟨yjf c 5 % 2,stV (c / 4) 3 k::ptL c k 0 (poN c kp),snL (yjf c 5) k 7 0 []⟩
theorem yac(c k kp:Int)(σ:Sto):f__law_pot [.int c,.int k,.int kp] σ=.ok (yj0 c k kp).D σ:=by
 have hN:poN c kp<=9:=by unfold poN;split<;>split<;>(try split)<;>omega
 have s0:=fun σ=>zm6 (c / 4) 3 k σ;obtain⟨y4,e1⟩:=zsq c k kp (some (.int kp)) none none none σ (poN c kp) 0 [stV (c / 4) 3 k] none (by omega) (by simp);rw[<-zhj,show [stV (c / 4) 3 k].map St.D=[(stV (c / 4) 3 k).D]from rfl,show [stV (c / 4) 3 k]++ptL c k 0 (poN c kp)=stV (c / 4) 3 k::ptL c k 0 (poN c kp)from rfl]at e1;obtain⟨y7,e2⟩:=zuf (yjf c 5) k (some (.int c)) (some (.int kp)) (some (.ref σ.length)) y4 (σ++[.lst ((stV (c / 4) 3 k::ptL c k 0 (poN c kp)).map St.D)]) 7 0 [] none (by omega) (by simp);rw[<-zhj,show kvI []=[]from rfl]at e2;have hlen:(σ++[Ob.lst ((stV (c / 4) 3 k::ptL c k 0 (poN c kp)).map St.D)]).length=σ.length+1:=by simp
 rw[hlen]at e2;have rk:=fun σ=>ykf (poN c kp) (by omega) σ;have rk7:=fun σ=>ykf 7 (by omega) σ;have mx:∀ σ,f__law_mixed [.int c,.int 5] σ=.ok (.int (yjf c 5)) σ:=fun σ=>zy2 c 5 (by omega) σ;have p4:∀ σ,oIx (.lst [.int 0,.int 1,.int 0,.int 2]) (.int (c % 4)) σ=.ok (.int (if c % 4 == 1 then 1 else if c % 4 == 3 then 2 else 0)) σ:=fun σ=>by
  have h:c % 4=0\/c % 4=1\/c % 4=2\/c % 4=3:=by omega
  rcases h with h|h|h|h<;>rw[h]
  ·exact zr6 (show atI _ ((0:Nat):Int)=_ from zn6 rfl)
  ·exact zr6 (show atI _ ((1:Nat):Int)=_ from zn6 rfl)
  ·exact zr6 (show atI _ ((2:Nat):Int)=_ from zn6 rfl)
  ·exact zr6 (show atI _ ((3:Nat):Int)=_ from zn6 rfl)
 have pn:(if c % 4 == 1 then (1:Int)else if c % 4 == 3 then 2 else 0)+7 * (if ((kp == 0) && (c / 4 % 16 == 5))=true then (1:Int)else 0)=(poN c kp:Int):=by
  unfold poN;split<;>split<;>(try split)<;>simp
 have m7:∀ b:Bool,∀ σ,yjs (.int 7) (.int (if b then 1 else 0)) σ=.ok (.int (7 * (if b then 1 else 0))) σ:=fun b σ=>zzb (by omega) (by omega);have an:∀ (x y:Bool),True:=fun _ _=>trivial;have hcl:clL ((stV (c / 4) 3 k::ptL c k 0 (poN c kp)).map St.D)=true:=zom fun _=>by simp
 have fz:=zp3 (σ:=σ) (a:=.int (yjf c 5 % 2)) (zs:=(stV (c / 4) 3 k::ptL c k 0 (poN c kp)).map St.D) (l:=snL (yjf c 5) k 7 0 []) (by simp) hcl;unfold poB at e1;unfold snB at e2;unfold f__law_pot zej yj0 Po.D;dsimp only;generalize (stV (c / 4) 3 k::ptL c k 0 (poN c kp)).map St.D=SL at *;generalize (stV (c / 4) 3 k).D=S0 at *;generalize kvI (snL (yjf c 5) k 7 0 [])=KV at *;generalize shD (snL (yjf c 5) k 7 0 [])=SN at *;generalize yjf c 5=MX at *;generalize yao (poN c kp)=RG at *;generalize yao 7=RG7 at *;generalize (if c % 4 == 1 then (1:Int)else if c % 4 == 3 then 2 else 0)=Q4 at *;generalize ((poN c kp:Nat):Int)=N at *;have rk7':∀ σ,yke (.int 7) σ=.ok (.seq RG7) σ:=rk7;generalize hb1:(kp == 0)=b1 at *;generalize hb2:(c / 4 % 16 == 5)=b2 at *;have m70:∀ σ,yjs (.int 7) (.int 0) σ=.ok (.int (7 * 0)) σ:=fun σ=>zzb (by omega) (by omega);have m71:∀ σ,yjs (.int 7) (.int 1) σ=.ok (.int (7 * 1)) σ:=fun σ=>zzb (by omega) (by omega);simp only[List.append_assoc,List.cons_append,List.nil_append]at e2 fz;have lk:yjb [S0] σ=.ok (.ref σ.length) (σ++[.lst [S0]]):=rfl;cases b1<;>cases b2<;>simp at pn<;>simp[lk,s0,p4,hb1,hb2,zya,zx9,m70,m71,pn,rk,e1,mx,rk7',e2,fz]
theorem zst(c k kp:Int):((yj0 c k kp).s=0\/(yj0 c k kp).s=1)/\(∀ t∈(yj0 c k kp).st,t.Ok)/\1<=(yj0 c k kp).st.length/\(yj0 c k kp).st.length<=20:=by
 have hN:poN c kp<=9:=by unfold poN;split<;>split<;>(try split)<;>omega
 refine⟨?_,?_,?_,?_⟩
 ·show yjf c 5 % 2=0\/yjf c 5 % 2=1;omega
 ·intro t ht;rcases List.mem_cons.mp ht with rfl|h
  ·exact ybg ..
  ·unfold ptL at h;obtain⟨j,_,rfl⟩:=List.mem_map.mp h;exact ybg ..
 ·show 1<=(_::_:List St).length;simp
 ·show (_::ptL c k 0 (poN c kp):List St).length<=20;unfold ptL;simp;omega
def vwV(ns:List Int):Vw:=⟨1+yct ns 0 % 6,4+yct ns 0 / 6 % 60,((List.range 7).filter fun k=>yjf (yct ns 1) k % 3 == 0).map fun(k:Nat)=>(k:Int),(List.range (yct ns 1 % 4).toNat).map fun(k:Nat)=>yj0 (yct ns (2+k)) (4+yct ns 0 / 6 % 60) k⟩
theorem ybz(ns:List Int):(vwV ns).Ok:=by
 refine⟨?_,?_,?_,?_⟩
 ·show ((List.range (yct ns 1 % 4).toNat).map _).length<=3;simp;omega
 all_goals
  intro p hp;obtain⟨j,_,rfl⟩:=List.mem_map.mp hp
 ·exact(zst ..).1
 ·exact(zst ..).2.1
 ·exact(zst ..).2.2
theorem zu5(ns:List Int)(σ:Sto):f__law_view [.scr ns] σ=.ok (vwV ns).D σ:=by
 have c0:∀ σ,f__law_cell_at [.scr ns,.int 0] σ=.ok (.int (yct ns 0)) σ:=fun σ=>zoi ns 0 (by omega) σ;have c1:∀ σ,f__law_cell_at [.scr ns,.int 1] σ=.ok (.int (yct ns 1)) σ:=fun σ=>zoi ns 1 (by omega) σ;have r7:∀ σ,yke (.int 7) σ=.ok (.seq (yao 7)) σ:=fun σ=>ykf 7 (by omega) σ;have l1:=fun x1 x2=>lcA (xs:=List.range 7) (ix:=[0]) (ρ:=[some (.scr ns),some x1,some x2,none,none]) (σ:=σ) (src:=ykz (eC (.int 7))) (fi:=eT (yid oEq (yid yjr (eFn 2 f__law_mixed [] (yci (eFn 2 f__law_cell_at [] (yci (yij 1) (yci (eC (.int 1)) yhr))) (yci (yij 0) yhr))) (eC (.int 3))) (eC (.int 0)))) (fe:=yij 0)
  (fun(k:Nat)=>D.int (k:Int)) (fun k=>yjf (yct ns 1) k % 3 == 0) (fun(k:Nat)=>D.int (k:Int)) (by simp[r7,yao]) (by simp) (fun k hk j=>by
   have mx:=fun σ=>zy2 (yct ns 1) k (by have:=List.mem_range.mp hk;omega) σ;generalize yjf (yct ns 1) k=MX at *;generalize (k:Int)=K at *;generalize σ++j=σ1;exact⟨by simp[c1,mx],fun _=>by simp⟩) (fun _ _=>by simp)
 have hr:((yct ns 1 % 4).toNat:Int)=yct ns 1 % 4:=by omega
 have rn:∀ σ,yke (.int (yct ns 1 % 4)) σ=.ok (.seq (yao (yct ns 1 % 4).toNat)) σ:=fun σ=>by
  have:=ykf (yct ns 1 % 4).toNat (by omega) σ
  rwa [hr]at this
 have l2:=fun x1 x3=>yi7 (xs:=List.range (yct ns 1 % 4).toNat) (ix:=[2,0]) (ρ:=[some (.scr ns),some x1,some (.int (4+yct ns 0 / 6 % 60)),some x3,none]) (σ:=σ) (src:=ykz (yid yjr (eFn 2 f__law_cell_at [] (yci (yij 0) (yci (eC (.int 1)) yhr))) (eC (.int 4)))) (fe:=eFn 3 f__law_pot [] (yci (eFn 2 f__law_cell_at [] (yci (yij 2) (yci (yid yjg (eC (.int 2)) (yij 0)) yhr))) (yci (yij 1) (yci (yij 0) yhr))))
  (fun(k:Nat)=>D.int (k:Int)) (fun(k:Nat)=>(yj0 (yct ns (2+k)) (4+yct ns 0 / 6 % 60) k).D) (by simp[c1,rn,yao]) (by simp;omega) (fun k hk j=>by
   have ck:∀ σ,f__law_cell_at [.scr ns,.int (2+(k:Int))] σ=.ok (.int (yct ns (2+k))) σ:=fun σ=>by
    have:=zoi ns (2+(k:Int)) (by omega) σ
    rwa [show (2+(k:Int)).toNat=2+k by omega]at this
   have pk:=fun σ=>yac (yct ns (2+k)) (4+yct ns 0 / 6 % 60) k σ;generalize (yj0 (yct ns (2+k)) (4+yct ns 0 / 6 % 60) k).D=PD at *;generalize yct ns (2+k)=CK at *;generalize (k:Int)=K at *;generalize 4+yct ns 0 / 6 % 60=V4 at *;generalize σ++j=σ1;simp[ck,pk]) (fun _ _=>by simp)
 have e1:(vwV ns).ws.map D.int=((List.range 7).filter fun k=>yjf (yct ns 1) k % 3 == 0).map fun(k:Nat)=>D.int (k:Int):=by
  unfold vwV;rw[List.map_map];rfl
 have e2:(vwV ns).ps.map Po.D=(List.range (yct ns 1 % 4).toNat).map fun(k:Nat)=>(yj0 (yct ns (2+k)) (4+yct ns 0 / 6 % 60) k).D:=by
  unfold vwV;rw[List.map_map];rfl
 have h1:clL ((vwV ns).ws.map D.int)=true:=zom fun _=>by simp
 have h2:clL ((vwV ns).ps.map Po.D)=true:=zom fun _=>by simp
 unfold Vw.D;rw[show (vwV ns).e=1+yct ns 0 % 6 from rfl,show (vwV ns).k=4+yct ns 0 / 6 % 60 from rfl];rw[<-e1]at l1;rw[<-e2]at l2;unfold f__law_view zdk;generalize (vwV ns).ws.map D.int=WS at *;generalize (vwV ns).ps.map Po.D=PS at *;generalize yct ns 0=C0 at *;generalize yct ns 1=C1 at *;have fz:∀ d,cl d=true->yir σ (.ok d σ)=.ok d σ:=fun d h=>zp1 h (List.take_length ..);simp[c0,l1,l2,h1,h2,fz,-zo9]
theorem znj(v:Vw)(h:v.Ok)(σ:Sto):f_View___init__ [.ref σ.length,.int v.e,.int v.k,.lst (v.ws.map D.int),.lst (v.ps.map Po.D)] (σ++[.ins 0 []])=.ok .non (σ++[.ins 0 [("every",.int v.e),("last_look",.int v.k),("known",.lst (v.ws.map D.int)),("pots",.lst (v.ps.map Po.D))]]):=by
 have e:=fun(f:Str) (w:D) (fs:List (Str × D)) (hl:fs.length<1000)=>zhi (ρ:=[some (.ref σ.length),some (.int v.e),some (.int v.k),some (.lst (v.ws.map D.int)),some (.lst (v.ps.map Po.D))]) (σ:=σ) (cs:=[0]) (f:=f) (d:=w) (c:=0) (fs:=fs) rfl hl;have fl:∀ (xs:List D) (σ:Sto),clL xs=true->yir σ (ye7 [.lst xs] σ)=.ok (.lst xs) σ:=fun xs σ h=>by
  rw[show ye7 [.lst xs] σ=.ok (.ref σ.length) (σ++[.lst xs])from nr rfl];exact zp2 h
 have hw:clL (v.ws.map D.int)=true:=zom fun _=>by simp
 have l:=fun σ=>yi7 (xs:=v.ps) (ix:=[]) (ρ:=[some (.ref σ.length),some (.int v.e),some (.int v.k),some (.lst (v.ws.map D.int)),some (.lst (v.ps.map Po.D))]) (σ:=σ++[.ins 0 [("every",.int v.e),("last_look",.int v.k),("known",.lst (v.ws.map D.int))]]) (src:=yk0 (yij 4)) (fe:=yii (yci (yid oIx (yij 0) (eC (.int 0))) (yci (yie (yc6 ye7 (yci (yid oIx (yij 0) (eC (.int 1))) yhr))) (yci (yc6 yjj (yci (yid oIx (yij 0) (eC (.int 2))) yhr)) yhr))))
  Po.D Po.D (by simp[yf0]) (by have:=h.n3;omega) (fun p hp j=>by
   have i0:=fun σ=>p.i0 σ;have i1:=fun σ=>p.i1 σ;have i2:=fun σ=>p.i2 σ;have dc:=fun σ=>zwg p.sn σ;have hs:clL (p.st.map St.D)=true:=zom fun _=>by simp
   have ed:p.D=.tup [.int p.s,.lst (p.st.map St.D),shD p.sn]:=rfl;have f1:=fun σ=>fl (p.st.map St.D) σ hs;rw[ed];rw[ed]at i0 i1 i2;generalize p.st.map St.D=SL at *;generalize shD p.sn=SN at *;generalize σ++[_]++j=σ1;generalize hT:D.tup [.int p.s,.lst SL,SN]=T at *;simp[i0,i1,i2,dc,f1];exact hT) (fun _ _=>by simp)
 have p1:yj1 "every" (.int v.e) ([]:List (Str × D))=([("every",.int v.e)]:List (Str × D)):=rfl;have p2:∀ a b:D,yj1 "last_look" b ([("every",a)]:List (Str × D))=([("every",a),("last_look",b)]:List (Str × D)):=fun _ _=>rfl;have p3:∀ a b c:D,yj1 "known" c ([("every",a),("last_look",b)]:List (Str × D))=([("every",a),("last_look",b),("known",c)]:List (Str × D)):=fun _ _ _=>rfl;have p4:∀ a b c d:D,yj1 "pots" d ([("every",a),("last_look",b),("known",c)]:List (Str × D))=([("every",a),("last_look",b),("known",c),("pots",d)]:List (Str × D)):=fun _ _ _ _=>rfl;unfold f_View___init__ zaw;have l':=l σ;have f2:=fun σ=>fl (v.ws.map D.int) σ hw;generalize v.ps.map Po.D=PS at *;generalize v.ws.map D.int=WS at *;generalize D.int v.e=E at *;generalize D.int v.k=K at *;have g1:∀ ρ σ,yie (yc6 ye7 (yci (yij 3) yhr)) ρ σ=yir σ (yc6 ye7 (yci (yij 3) yhr) ρ σ):=fun _ _=>rfl;simp[e,p1,p2,p3,p4,f2,l',g1,-zo9]
theorem znk(v:Vw)(h:v.Ok)(σ:Sto):yir σ (yep 0 5 f_View___init__ [.int v.e,.int v.k,.lst (v.ws.map D.int),.lst (v.ps.map Po.D)] σ)=.ok v.O σ:=by
 have hw:clL (v.ws.map D.int)=true:=zom fun _=>by simp
 have hp:clL (v.ps.map Po.D)=true:=zom fun _=>by simp
 rw[zk7 (n:=5) rfl,znj v h,zlg,zjz (by simp[hw,hp])];rfl
def yhu{α:Type}(key:α->Int):List α->α->α
 |[],b=>b
 |x::xs,b=>if key x<key b then yhu key xs x else yhu key xs b
theorem zie{α:Type}(key:α->Int):∀ (xs:List α) (b:α),yhu key xs b∈b::xs
 |[],b=>by simp[yhu]
 |x::xs,b=>by
  unfold yhu;split
  ·have:=zie key xs x;exact List.mem_cons_of_mem _ this
  ·have:=zie key xs b;rcases List.mem_cons.mp this with h|h
   ·rw[h];exact List.mem_cons_self
   ·exact List.mem_cons_of_mem _ (List.mem_cons_of_mem _ h)
theorem zn4{α:Type}(key:α->Int):∀ (xs:List α) (b:α),∀ y∈b::xs,key (yhu key xs b)<=key y
 |[],b,y,hy=>by
  have:y=b:=by simpa using hy
  rw[this];exact Int.le_refl _
 |x::xs,b,y,hy=>by
  unfold yhu;split
  ·next h=>
   have ih:=zn4 key xs x;rcases List.mem_cons.mp hy with e|e
   ·have:=ih x List.mem_cons_self;rw[e];omega
   ·exact ih y e
  ·next h=>
   have ih:=zn4 key xs b;rcases List.mem_cons.mp hy with e|e
   ·rw[e];exact ih b List.mem_cons_self
   ·rcases List.mem_cons.mp e with e|e
    ·have:=ih b List.mem_cons_self;rw[e];omega
    ·exact ih y (List.mem_cons_of_mem _ e)
theorem zrq{α:Type}{f:α->D}{key:α->Int}{fe:Ev->M D}{rest:Ev}{σ:Sto}:∀ (xs:List α) (b:α),(∀ x∈xs,fe (some (f x)::rest) σ=.ok (.int (key x)) σ)->yje fe rest (xs.map f) (f b) (key b) σ=.ok (f (yhu key xs b)) σ
 |[],b,_=>rfl
 |x::xs,b,h=>by
  have h1:=h x List.mem_cons_self;have h2:=fun y hy=>h y (List.mem_cons_of_mem _ hy);rw[List.map_cons];unfold yje yhu;rw[zvv,zy6 h1,zod];dsimp only;by_cases hk:key x<key b
  ·rw[if_pos hk,if_pos hk];exact zrq xs x h2
  ·rw[if_neg hk,if_neg hk];exact zrq xs b h2
theorem zrp{α:Type}{f:α->D}{key:α->Int}{fe:Ev->M D}{rest:Ev}{σ:Sto}{xs:List α}{x:α}(h:∀ y∈x::xs,fe (some (f y)::rest) σ=.ok (.int (key y)) σ):yjd fe rest [.lst ((x::xs).map f)] σ=.ok (f (yhu key xs x)) σ:=by
 rw[List.map_cons];unfold yjd;dsimp only;rw[zvv,zy6 (h x List.mem_cons_self),zod];exact zrq xs x fun y hy=>h y (List.mem_cons_of_mem _ hy)
@[simp] theorem zi6(ix:List Nat)(fe:Ev->M D)(fs:Ev->M (List D))(ρ:Ev)(σ:Sto):yda ix fe fs ρ σ=(fs ρ σ).bind (yjd fe (ix.map fun i=>(ρ[i]?).getD none)):=nr rfl
def fcs(ls:List Tc):List (Option Int):=(opn ls).map fun c=>some c.t.d
def mf(ls:List Tc)(e:Int):Option Int:=yhu (fun x=>sby ls x e) (fcs ls) none
theorem zxm(ls:List Tc):yio ls=.lst ((none::fcs ls).map oD):=by
 unfold yio fcs;simp only[List.map_cons,List.map_map];rfl
theorem zy1(ls:List Tc)(e:Int):mf ls e∈none::fcs ls:=zie _ _ _
theorem yes(ls:List Tc)(e:Int)(x:Option Int)(h:x∈none::fcs ls):sby ls (mf ls e) e<=sby ls x e:=zn4 (fun x=>sby ls x e) (fcs ls) none x h
theorem zk0(ls:List Tc)(hl:ls.length<=100)(e:Int)(σ:Sto):f_least_fate [.lst (ls.map Tc.D),.int e] σ=.ok (oD (mf ls e)) σ:=by
 have f1:=fun σ=>zeh ls hl σ;have m:=zrp (f:=oD) (key:=fun x=>sby ls x e) (x:=none) (xs:=fcs ls) (fe:=eFn 3 f_sum_by_fate [] (yci (yij 1) (yci (yij 0) (yci (yij 2) yhr)))) (rest:=[some (.lst (ls.map Tc.D)),some (.int e)]) (σ:=σ) (fun x _=>by
  have s1:=fun σ=>zm9 ls hl x e σ;generalize D.lst (ls.map Tc.D)=LD at *;generalize oD x=OX at *;simp[s1])
 rw[<-zxm,show yhu (fun x=>sby ls x e) (fcs ls) none=mf ls e from rfl]at m;have hc:=ye0 (mf ls e);unfold f_least_fate zcx;generalize oD (mf ls e)=OUT at *;generalize D.lst (ls.map Tc.D)=LD at *;generalize yio ls=FD at *;simp[f1,m,hc]
theorem zm3(F:Fs)(e:Int)(R GD FD:D)(xs:Grp){nx:NX}(hn:yg8 nx xs (fun q=>yi6 (.inl q.1)) (fun q=>D.lst (q.2.map Tc.D)))(hl:xs.length<=100)(hg:∀ q∈xs,q.2.length<=100/\(yis F q.1).isSome=true)(σ:Sto)(hF:∀ w x,yis F w=some x->yez FD (.int w) σ=.ok (oD x) σ):∀ (G:Grp) (i:Nat) (a:Int) (x5 x6:Option D),xs.drop i=G->i<=xs.length->∃ y5 y6,
  yei nx (tgT 2 (ybn (tgN 5) (ybn (tgN 6) ygi))) soB (1001 - i) i [some R,some GD,some FD,some (.int e),some (.int a),x5,x6] σ=.ok (.nx [some R,some GD,some FD,some (.int e),some (.int (a+yix F e G)),y5,y6]) σ
 |[],i,a,x5,x6,hd,hi=>by
  obtain⟨h1,h2⟩:=zi1 hd hi;have hx:nx i σ=some none:=by rw[hn,h1];simp[h2]
  rw[show 1001 - i=(1000 - i)+1 by omega];exact⟨x5,x6,by rw[zgs hx];simp[yix]⟩
 |q::G,i,a,x5,x6,hd,hi=>by
  obtain⟨h1,hd2⟩:=zo6 hd;obtain⟨hi2,hq⟩:=List.getElem?_eq_some_iff.mp h1;have hqm:q∈xs:=by rw[<-hq];exact List.getElem_mem hi2
  obtain⟨g1,g2⟩:=hg q hqm;obtain⟨x,hv⟩:=Option.isSome_iff_exists.mp g2;have hx:nx i σ=some (some (.tup [.int q.1,.lst (q.2.map Tc.D)])):=by rw[hn,h1];rfl
  obtain⟨y5,y6,e2⟩:=zm3 F e R GD FD xs hn hl hg σ hF G (i+1) (a+sby q.2 ((yis F q.1).getD none) e) (some (.int q.1)) (some (.lst (q.2.map Tc.D))) hd2 (by omega);refine⟨y5,y6,?_⟩;have st:soB [some R,some GD,some FD,some (.int e),some (.int a),some (.int q.1),some (.lst (q.2.map Tc.D))] σ=.ok (.nx [some R,some GD,some FD,some (.int e),some (.int (a+sby q.2 ((yis F q.1).getD none) e)),some (.int q.1),some (.lst (q.2.map Tc.D))]) σ:=by
   have s1:=fun σ=>zm9 q.2 g1 x e σ;have s2:=hF q.1 x hv;have sg:∀ (f:Ev->M D) (y0 y1 y2 y3 y5 y6:Option D) (x:D) (σ:Sto),ykj (fun a b=>a+b) 4 f [y0,y1,y2,y3,some x,y5,y6] σ=xsO [y0,y1,y2,y3,some x,y5,y6] (yhw (fun a b=>a+b) 4 [y0,y1,y2,y3,some x,y5,y6] x) (f [y0,y1,y2,y3,some x,y5,y6] σ):=fun f y0 y1 y2 y3 y5 y6 x σ=>zth rfl;have ag:∀ (ρ:Ev) (i:Int) (j:Int) (σ:Sto),yhw (fun a b=>a+b) 4 ρ (.int i) (.int j) σ=.ok (.nx (ρ.set 4 (some (.int (i+j))))) σ:=fun _ _ _ _=>nr rfl;rw[hv];simp only[Option.getD_some];unfold soB;generalize D.lst (q.2.map Tc.D)=QL at *;generalize sby q.2 x e=SB at *;generalize oD x=OX at *;simp[s1,s2,sg,ag]
  rw[show 1001 - i=(1001 - (i+1))+1 by omega,zeq hx (ρ1:=[some R,some GD,some FD,some (.int e),some (.int a),some (.int q.1),some (.lst (q.2.map Tc.D))]) (nr rfl),st,zod,zk2,e2];simp only[yix];rw[Int.add_assoc]
theorem zh0(v:Vw)(qs:List (Po × St))(hq:qs.length<=100)(G:Grp)(F:Fs)(e:Int)(hl:G.length<=100)(hg:∀ q∈G,q.2.length<=100/\(yis F q.1).isSome=true)(σ:Sto)(FD:D)(hF:∀ w x,yis F w=some x->yez FD (.int w) σ=.ok (oD x) σ) :
  f_sum_of [.lst (qs.map fun q=>rdD v q.1 q.2),gD G,FD,.int e] σ=.ok (.int (frm v qs+yix F e G)) σ:=by
 have l:=yi7 (xs:=qs) (ix:=[]) (ρ:=[some (.lst (qs.map fun q=>rdD v q.1 q.2)),some (gD G),some FD,some (.int e),none,none,none]) (σ:=σ) (src:=yk0 (yij 0)) (fe:=yid oIx (yij 0) (eC (.int 0))) (fun q=>rdD v q.1 q.2) (fun q=>.int (shr q.1.s q.2+yin (lot v q.1.s q.1.sn) q.2.ts)) (by simp) (by omega) (fun q _ j=>by
   have i0:∀ σ,oIx (rdD v q.1 q.2) (.int 0) σ=.ok (.int (shr q.1.s q.2+yin (lot v q.1.s q.1.sn) q.2.ts)) σ:=fun σ=>by unfold rdD;simp
   generalize rdD v q.1 q.2=RD at *;generalize (shr q.1.s q.2+yin (lot v q.1.s q.1.sn) q.2.ts)=N at *;simp[i0]) (fun _ _=>by simp)
 have o:=zm8 (qs.map fun q=>shr q.1.s q.2+yin (lot v q.1.s q.1.sn) q.2.ts) σ;rw[List.map_map,show (D.int ∘ fun q:Po × St=>shr q.1.s q.2+yin (lot v q.1.s q.1.sn) q.2.ts)=(fun q:Po × St=>D.int (shr q.1.s q.2+yin (lot v q.1.s q.1.sn) q.2.ts))from rfl,show (qs.map fun q=>shr q.1.s q.2+yin (lot v q.1.s q.1.sn) q.2.ts).sum=frm v qs from rfl]at o;have sr:∀ x4 x5 x6,yky (yij 1) [some (.lst (qs.map fun q=>rdD v q.1 q.2)),some (gD G),some FD,some (.int e),x4,x5,x6] σ=.ok (nxI ((G.map fun q=>(.inl q.1:Key)).zip (G.map fun q=>D.lst (q.2.map Tc.D)))) σ:=fun x4 x5 x6=>zur (by simp;rfl) (by simp);obtain⟨y5,y6,lp⟩:=zm3 F e (.lst (qs.map fun q=>rdD v q.1 q.2)) (gD G) FD G (zli G (fun q=>(.inl q.1:Key)) (fun q=>D.lst (q.2.map Tc.D))) hl hg σ hF G 0 (frm v qs) none none rfl (by omega);have fk:∀ (tg:D->Ev->Option Ev) (body:Ev->M Fl) (ρ:Ev) (nx:NX),ydr tg body ρ nx=yei nx tg body 1001 0 ρ:=fun _ _ _ _=>rfl;rw[Nat.sub_zero]at lp;unfold soB at lp;unfold f_sum_of zj6;generalize (qs.map fun q=>D.int (shr q.1.s q.2+yin (lot v q.1.s q.1.sn) q.2.ts))=IL at *;generalize D.lst (qs.map fun q=>rdD v q.1 q.2)=RL at *;generalize nxI ((G.map fun q=>(.inl q.1:Key)).zip (G.map fun q=>D.lst (q.2.map Tc.D)))=NXX at *;generalize gD G=GD at *;generalize frm v qs=FR at *;generalize yix F e G=GS at *;simp[l,o,sr,fk,lp,-zo9]
def lF(G:Grp)(e:Int):Fs:=G.map fun q=>(q.1,mf q.2 e)
theorem zl6(F:Fs)(w:Int)(x:Option Int)(h:w ∉ F.map (·.1)):putF F w x=F++[(w,x)]:=by
 have:(F.any fun p=>decide (p.1=w))=false:=by
  rw[List.any_eq_false];intro p hp z;exact h (List.mem_map.mpr ⟨p,hp,by simpa using z⟩)
 unfold putF;rw[this];rfl
noncomputable abbrev lpB:Ev->M Fl:=(yfx (eFn 2 f_least_fate [] (yci (yij 6) (yci (yij 2) yhr))) (yij 4) (yij 5))
theorem zri(e:Int)(R CD GD:D)(xs:Grp){nx:NX}(hn:yg8 nx xs (fun q=>yi6 (.inl q.1)) (fun q=>D.lst (q.2.map Tc.D)))(hl:xs.length<=100)(hg:∀ q∈xs,q.2.length<=100)(σ:Sto):∀ (G:Grp) (i:Nat) (F:Fs) (x5 x6:Option D),xs.drop i=G->i<=xs.length->(F.map (·.1)++G.map (·.1)).Nodup->F.length+G.length<=200->∃ y5 y6,
  yei nx (tgT 2 (ybn (tgN 5) (ybn (tgN 6) ygi))) lpB (1001 - i) i [some R,some CD,some (.int e),some GD,some (.ref σ.length),x5,x6] (σ++[.dic (kvF F)])=.ok (.nx [some R,some CD,some (.int e),some GD,some (.ref σ.length),y5,y6]) (σ++[.dic (kvF (F++lF G e))])
 |[],i,F,x5,x6,hd,hi,_,_=>by
  obtain⟨h1,h2⟩:=zi1 hd hi;have hx:∀ σ,nx i σ=some none:=fun σ=>by rw[hn,h1];simp[h2]
  rw[show 1001 - i=(1000 - i)+1 by omega];exact⟨x5,x6,by rw[zgs (hx _)];simp[lF]⟩
 |q::G,i,F,x5,x6,hd,hi,hnd,hlen=>by
  obtain⟨h1,hd2⟩:=zo6 hd;obtain⟨hi2,hq⟩:=List.getElem?_eq_some_iff.mp h1;have hqm:q∈xs:=by rw[<-hq];exact List.getElem_mem hi2
  have g1:=hg q hqm;have hx:∀ σ,nx i σ=some (some (.tup [.int q.1,.lst (q.2.map Tc.D)])):=fun σ=>by rw[hn,h1];rfl
  simp only[List.length_cons]at hlen;have hne:q.1 ∉ F.map (·.1):=by
   rw[List.map_cons,List.nodup_append]at hnd;intro z;exact hnd.2.2 _ z _ List.mem_cons_self rfl
  obtain⟨y5,y6,e2⟩:=zri e R CD GD xs hn hl hg σ G (i+1) (F++[(q.1,mf q.2 e)]) (some (.int q.1)) (some (.lst (q.2.map Tc.D))) hd2 (by omega) (by
   rw[List.map_cons]at hnd;simpa using hnd) (by simp;omega)
  refine⟨y5,y6,?_⟩;have st:lpB [some R,some CD,some (.int e),some GD,some (.ref σ.length),some (.int q.1),some (.lst (q.2.map Tc.D))] (σ++[.dic (kvF F)])=.ok (.nx [some R,some CD,some (.int e),some GD,some (.ref σ.length),some (.int q.1),some (.lst (q.2.map Tc.D))]) (σ++[.dic (kvF (F++[(q.1,mf q.2 e)]))]):=by
   have s1:=fun σ=>zk0 q.2 g1 e σ;have s2:=fun ρ=>zmq (σ:=σ) (F:=F) q.1 (mf q.2 e) (by omega) ρ;rw[zl6 F q.1 _ hne]at s2;unfold lpB;generalize D.lst (q.2.map Tc.D)=QL at *;generalize oD (mf q.2 e)=OX at *;generalize (σ++[Ob.dic (kvF F)])=σ1 at *;generalize (σ++[Ob.dic (kvF (F++[(q.1,mf q.2 e)]))])=σ2 at *;simp[s1,s2]
  rw[show 1001 - i=(1001 - (i+1))+1 by omega,zeq (hx _) (ρ1:=[some R,some CD,some (.int e),some GD,some (.ref σ.length),some (.int q.1),some (.lst (q.2.map Tc.D))]) (nr rfl),st,zod,zk2,e2];unfold lF;simp
theorem zqb:∀ (G:Grp) (e:Int),(G.map (·.1)).Nodup->∀ q∈G,yis (lF G e) q.1=some (mf q.2 e)
 |[],_,_,q,h=>by cases h
 |p::G,e,hn,q,h=>by
  rw[List.map_cons,List.nodup_cons]at hn;unfold yis lF;rw[List.map_cons,List.find?_cons];rcases List.mem_cons.mp h with h1|h1
  ·rw[h1];simp
  ·have:p.1≠q.1:=fun z=>hn.1 (by rw[z];exact List.mem_map.mpr ⟨q,h1,rfl⟩);simp only[this,decide_false];exact zqb G e hn.2 q h1
theorem yat{σ:Sto}{F:Fs}{w:Int}{x:Option Int}(h:yis F w=some x):yez (.ref σ.length) (.int w) (σ++[.dic (kvF F)])=.ok (oD x) (σ++[.dic (kvF F)]):=by
 have e:yib (σ++[Ob.dic (kvF F)]) (.ref σ.length)=some (kvF F):=by unfold yib;simp
 unfold yez;simp only[yi4,e,zjo,h];rfl
theorem zge{σ:Sto}{a b:D}{F:Fs}(ha:cl a=true)(hb:cl b=true):yir σ (.ok (.tup [a,b,.ref σ.length]) (σ++[.dic (kvF F)]))=.ok (.tup [a,b,fD F]) σ:=by
 have hr:fz σ.length (σ++[Ob.dic (kvF F)]) 5 (.ref σ.length)=some (fD F):=by
  have e:(σ++[Ob.dic (kvF F)])[σ.length]?=some (.dic (kvF F)):=by simp
  unfold fz;rw[if_neg (by simp[cl])];dsimp only;rw[if_neg (Nat.lt_irrefl _),e];dsimp only;rw[show (kvF F).map (·.2)=F.map fun p=>oD p.2 by unfold kvF;rw[List.map_map];rfl,zqd (g:=fun p:Int × Option Int=>oD p.2) (h:=fun p=>oD p.2) fun p _=>ydu (ye0 p.2)];unfold fD kvF;rw[List.map_map];rfl
 have ht:fz σ.length (σ++[Ob.dic (kvF F)]) 6 (.tup [a,b,.ref σ.length])=some (.tup [a,b,fD F]):=by
  unfold fz;rw[if_neg (by simp[cl,clL,ha,hb])];dsimp only;unfold fzL;rw[ydu ha];unfold fzL;rw[ydu hb];unfold fzL;rw[hr];rfl
 unfold yir;dsimp only;rw[if_pos (by simp),ht]
def pD(T:Int)(cs:List Int)(F:Fs):D:=.tup [.int T,.lst (cs.map D.int),fD F]
theorem yff(T:Int)(cs:List Int)(F:Fs):cl (pD T cs F)=true:=by unfold pD;simp[ydd]
theorem zgu(v:Vw)(qs:List (Po × St))(hq:∀ q∈qs,q.2.Ok)(hl3:qs.length<=3)(cs:List Int)(σ:Sto) :
  f_least_paper [.lst (qs.map fun q=>rdD v q.1 q.2),.lst (cs.map D.int),.int v.e] σ=.ok (pD (frm v qs+yix (lF (grp (AT v qs)) v.e) v.e (grp (AT v qs))) cs (lF (grp (AT v qs)) v.e)) σ:=by
 have hA:=zva v qs hq;have r4:=fun σ=>zeb v qs hq hl3 σ;have g1:(grp (AT v qs)).length<=100:=by rw[zqi];have:=zuq (AT v qs);omega
 have g2:∀ q∈grp (AT v qs),q.2.length<=100:=fun q h=>by rw[zqi]at h;have:=ybf _ q h;omega
 have gn:((grp (AT v qs)).map (·.1)).Nodup:=by
  rw[zqi];unfold spc;rw[List.map_map];exact(show ((fun q:Int × List Tc=>q.1) ∘ fun w=>(w,flt (AT v qs) w))=id from rfl) ▸ (by rw[List.map_id];exact zf6 _)
 generalize grp (AT v qs)=G at *;have fv:=zqb G v.e gn;have sr:∀ x4 x5 x6 σ,yky (yij 3) [some (.lst (qs.map fun q=>rdD v q.1 q.2)),some (.lst (cs.map D.int)),some (.int v.e),some (gD G),x4,x5,x6] σ=.ok (nxI ((G.map fun q=>(.inl q.1:Key)).zip (G.map fun q=>D.lst (q.2.map Tc.D)))) σ:=fun x4 x5 x6 σ=>zur (by simp;rfl) (by simp);obtain⟨y5,y6,lp⟩:=zri v.e (.lst (qs.map fun q=>rdD v q.1 q.2)) (.lst (cs.map D.int)) (gD G) G (zli G (fun q=>(.inl q.1:Key)) (fun q=>D.lst (q.2.map Tc.D))) g1 g2 σ G 0 [] none none rfl (by omega) (by simpa using gn) (by simp;omega);rw[Nat.sub_zero,List.nil_append,show kvF []=[]from rfl]at lp;have fk:∀ (tg:D->Ev->Option Ev) (body:Ev->M Fl) (ρ:Ev) (nx:NX),ydr tg body ρ nx=yei nx tg body 1001 0 ρ:=fun _ _ _ _=>rfl;have so:=zh0 v qs (by omega) G (lF G v.e) v.e g1 (fun q h=>⟨g2 q h,by rw[fv q h];rfl⟩) (σ++[.dic (kvF (lF G v.e))]) (.ref σ.length) (fun w x h=>yat h);have fz:=zge (σ:=σ) (a:=.int (frm v qs+yix (lF G v.e) v.e G)) (b:=.lst (cs.map D.int)) (F:=lF G v.e) (by simp) (by simp);unfold lpB at lp;unfold f_least_paper zb1 pD;generalize (frm v qs+yix (lF G v.e) v.e G)=SM at *;generalize nxI ((G.map fun q=>(.inl q.1:Key)).zip (G.map fun q=>D.lst (q.2.map Tc.D)))=NXX at *;generalize (σ++[Ob.dic (kvF (lF G v.e))])=σ2 at *;generalize fD (lF G v.e)=FD at *;generalize D.lst (qs.map fun q=>rdD v q.1 q.2)=RL at *;generalize D.lst (cs.map D.int)=CL at *;generalize gD G=GD at *;simp[r4,sr,fk,lp,so,fz]
theorem zep{tg:D->Ev->Option Ev}{body:Ev->M Fl}{n k i:Nat}{ρ ρ1:Ev}{σ:Sto}{xs:List D}{d:D}(h:yej σ n=some xs)(hx:xs[i]?=some d)(ht:tg d ρ=some ρ1):yeh tg body n (k+1) i ρ σ=(body ρ1 σ).bind (yeg (yeh tg body n k (i+1))):=by
 rw[yeh];simp only[h,hx,ht];rfl
theorem zgr{tg:D->Ev->Option Ev}{body:Ev->M Fl}{n k i:Nat}{ρ:Ev}{σ:Sto}{xs:List D}(h:yej σ n=some xs)(hx:xs[i]?=none):yeh tg body n (k+1) i ρ σ=.ok (.nx ρ) σ:=by
 rw[yeh];simp only[h,hx]
theorem yiq{α β:Type}{tg:D->Ev->Option Ev}{body:Ev->M Fl}{S:Src}(xs:List α)(f:α->D)(E:Nat->β->Ev)(Sg:Nat->Sto)(hl:xs.length<=1000)
  (hS:∀ i,i<=xs.length->S.nx i (Sg i)=some ((xs.map f)[i]?))
  (step:∀ i x b,xs[i]?=some x->∃ ρ1 b',tg (f x) (E i b)=some ρ1/\body ρ1 (Sg i)=.ok (.nx (E (i+1) b')) (Sg (i+1))) (b:β) :
  ∃ b',yip tg body (E 0 b) S (Sg 0)=.ok (.nx (E xs.length b')) (Sg xs.length):=by
 cases S with
 |seq ds=>
  have e:ds=xs.map f:=by
   apply List.ext_getElem?;intro i;by_cases hi:i<=xs.length
   ·exact Option.some.inj (hS i hi)
   ·have h0:some ds[xs.length]?=some ((xs.map f)[xs.length]?):=hS xs.length (Nat.le_refl _);have h1:ds[xs.length]?=none:=by rw[Option.some.inj h0];simp
    rw[List.getElem?_eq_none_iff]at h1;rw[List.getElem?_eq_none_iff.mpr (by omega),List.getElem?_eq_none_iff.mpr (by simp;omega)]
  subst e;have go:∀ (r:List α) (i:Nat) (b:β),xs.drop i=r->i<=xs.length->∃ b',yi9 tg body (r.map f) (E i b) (Sg i)=.ok (.nx (E xs.length b')) (Sg xs.length):=by
   intro r;induction r with
   |nil=>
    intro i b hd hi;obtain⟨_,e⟩:=zi1 hd hi;subst e;exact⟨b,by simp⟩
   |cons x r ih=>
    intro i b hd hi;obtain⟨hx,hd2⟩:=zo6 hd;have hi2:=(List.getElem?_eq_some_iff.mp hx).1;obtain⟨ρ1,b1,h1,h2⟩:=step i x b hx;obtain⟨b2,h3⟩:=ih (i+1) b1 hd2 (by omega);exact⟨b2,by rw[List.map_cons,zgt h1,h2,zod,zk2,h3]⟩
  exact go xs 0 b rfl (by omega)
 |lref n=>
  have go:∀ (r:List α) (i k:Nat) (b:β),xs.drop i=r->i<=xs.length->r.length<k->∃ b',yeh tg body n k i (E i b) (Sg i)=.ok (.nx (E xs.length b')) (Sg xs.length):=by
   intro r;induction r with
   |nil=>
    intro i k b hd hi hk;obtain⟨h0,e⟩:=zi1 hd hi;have hn:=hS i hi;obtain⟨ys,h1,h2⟩:∃ ys,yej (Sg i) n=some ys/\ys[i]?=(xs.map f)[i]?:=by
     have hn':(yej (Sg i) n).map (fun xs=>xs[i]?)=some ((xs.map f)[i]?):=hn;cases el:yej (Sg i) n with
     |none=>rw[el]at hn';cases hn'
     |some ys=>rw[el]at hn';exact⟨ys,rfl,Option.some.inj hn'⟩
    rw[List.getElem?_map,h0]at h2;obtain⟨k,rfl⟩:∃ k',k=k'+1:=⟨k - 1,by simp at hk;omega⟩
    subst e;exact⟨b,zgr h1 h2⟩
   |cons x r ih=>
    intro i k b hd hi hk;obtain⟨hx,hd2⟩:=zo6 hd;have hi2:=(List.getElem?_eq_some_iff.mp hx).1;have hn:=hS i hi;obtain⟨ys,h1,h2⟩:∃ ys,yej (Sg i) n=some ys/\ys[i]?=(xs.map f)[i]?:=by
     have hn':(yej (Sg i) n).map (fun xs=>xs[i]?)=some ((xs.map f)[i]?):=hn;cases el:yej (Sg i) n with
     |none=>rw[el]at hn';cases hn'
     |some ys=>rw[el]at hn';exact⟨ys,rfl,Option.some.inj hn'⟩
    rw[List.getElem?_map,hx]at h2;obtain⟨ρ1,b1,h3,h4⟩:=step i x b hx;obtain⟨k,rfl⟩:∃ k',k=k'+1:=⟨k - 1,by simp at hk;omega⟩
    simp only[List.length_cons]at hk;obtain⟨b2,h5⟩:=ih (i+1) k b1 hd2 (by omega) (by omega);exact⟨b2,by rw[zep h1 h2 h3,h4,zod,zk2,h5]⟩
  exact go xs 0 1001 b rfl (by omega) (by omega)
def cD(c:List Int):D:=.lst (c.map D.int)
@[simp] theorem ycq(c:List Int):cl (cD c)=true:=by unfold cD;simp
def stp(n:Nat)(c:List Int):List (List Int):=(List.range n).map fun(k:Nat)=>c++[(k:Int)]
def yht:List Nat->List (List Int)->List (List Int)
 |[],acc=>acc
 |n::ns,acc=>yht ns (acc.flatMap (stp n))
def yg0:List Nat->Nat->Prop
 |[],a=>a<=900
 |n::ns,a=>a<=900/\yg0 ns (a * n)
theorem yg0.le:∀ {ns:List Nat} {a:Nat},yg0 ns a->a<=900
 |[],_,h=>h
 |_::_,_,h=>h.1
theorem zeg{σ:Sto}{ys zs:List D}(h:ys.length+zs.length<=1000):zr4 (.ref σ.length) [.lst zs] (σ++[.lst ys])=.ok .non (σ++[.lst (ys++zs)]):=by
 have e:yja (σ++[Ob.lst ys]) (.lst zs)=some zs:=rfl;unfold zr4;simp only[zgw,e];rw[if_pos (show _<=cap from h),zt1]
theorem zjs(n:Nat):∀ acc:List (List Int),(acc.flatMap (stp n)).length=acc.length * n
 |[]=>by simp
 |c::acc=>by
  rw[List.flatMap_cons,List.length_append,zjs n acc,List.length_cons,Nat.succ_mul];unfold stp;simp;omega
noncomputable abbrev acI:Ev->M Fl:=(ykk (yc9 zr4 (yij 3) (yci (yie (eLC (ykz (yc6 yjq (yci (yij 2) yhr))) [4] (tgN 0) ycl (yid yjg (yij 1) (eLv (yci (yij 0) yhr))))) yhr)))
theorem zny(R C:D)(zs:List D)(hz:zs.length<=20)(c:List Int)(hc:c.length<=800)(ys:List (List Int))(hy:ys.length+zs.length<=1000)(σ:Sto) :
  acI [some R,some C,some (.lst zs),some (.ref σ.length),some (cD c)] (σ++[.lst (ys.map cD)])=.ok (.nx [some R,some C,some (.lst zs),some (.ref σ.length),some (cD c)]) (σ++[.lst ((ys++stp zs.length c).map cD)]):=by
 have rn:=fun σ=>ykf zs.length (by omega) σ;have ad:∀ (k:Nat) σ,yjg (cD c) (.lst [.int (k:Int)]) σ=.ok (cD (c++[(k:Int)])) σ:=fun k σ=>by
  unfold cD;rw[zlk (by simp[cap];omega)];simp
 have l:=yi7 (xs:=List.range zs.length) (ix:=[4]) (ρ:=[some R,some C,some (.lst zs),some (.ref σ.length),some (cD c)]) (σ:=σ++[.lst (ys.map cD)]) (src:=ykz (yc6 yjq (yci (yij 2) yhr))) (fe:=yid yjg (yij 1) (eLv (yci (yij 0) yhr))) (fun(k:Nat)=>D.int (k:Int)) (fun(k:Nat)=>cD (c++[(k:Int)])) (by
   have r:=rn (σ++[.lst (ys.map cD)]);unfold yao at r;generalize (List.range zs.length).map (fun(k:Nat)=>D.int k)=RG at *;simp[r]) (by simp;omega) (fun k _ j=>by
   have a:=fun σ=>ad k σ;generalize (k:Int)=K at *;generalize cD (c++[K])=O at *;generalize cD c=CC at *;simp[a]) (fun _ _=>by simp)
 have ex:=zeg (σ:=σ) (ys:=ys.map cD) (zs:=(List.range zs.length).map fun(k:Nat)=>cD (c++[(k:Int)])) (by simp;omega);have e1:(ys++stp zs.length c).map cD=ys.map cD++(List.range zs.length).map fun(k:Nat)=>cD (c++[(k:Int)]):=by
  unfold stp;rw[List.map_append,List.map_map];rfl
 rw[e1];unfold acI;generalize (List.range zs.length).map (fun(k:Nat)=>cD (c++[(k:Int)]))=NL at *;generalize ys.map cD=YL at *;generalize cD c=CC at *;simp[l,ex,-zo9]
def yce(σ:Sto)(k:Nat)(d:D)(acc:List (List Int)):Prop:=d=.lst (acc.map cD)\/∃ m,d=.ref m/\k<=m/\yej σ m=some (acc.map cD)
theorem zgv{σ j:Sto}{m:Nat}{xs:List D}(h:yej σ m=some xs):yej (σ++j) m=some xs:=by
 unfold yej at h ⊢;cases e:σ[m]? with
 |none=>rw[e]at h;cases h
 |some o=>
  rw[List.getElem?_append_left (List.getElem?_eq_some_iff.mp e).1,e];rw[e]at h;exact h
theorem yce.src{σ:Sto}{k:Nat}{d:D}{acc:List (List Int)}(h:yce σ k d acc):∃ S:Src,(∀ j,yf0 d (σ++j)=.ok S (σ++j))/\∀ i j,S.nx i (σ++j)=some ((acc.map cD)[i]?):=by
 rcases h with rfl|⟨m,rfl,_,h⟩
 ·exact⟨.seq (acc.map cD),fun _=>rfl,fun _ _=>rfl⟩
 ·refine⟨.lref m,fun j=>?_,fun i j=>?_⟩
  ·unfold yf0;dsimp only;rw[zgv h]
  ·show (yej (σ++j) m).map _=_;rw[zgv h];rfl
theorem zh1(n:Nat)(acc:List (List Int))(i:Nat){c:List Int}(h:acc[i]?=some c):(acc.take (i+1)).flatMap (stp n)=(acc.take i).flatMap (stp n)++stp n c:=by
 rw[List.take_add_one,h,List.flatMap_append];simp
noncomputable abbrev acB:Ev->M Fl:=(ykq (ykr 3 (yih yhr))
 (ykq (ykm (yk0 (yij 1)) (tgN 4) acI)
 (ykr 1 (yij 3))))
theorem zic(R d:D)(acc:List (List Int))(zs:List D)(hz:zs.length<=20)(x3 x4:Option D)(σ:Sto)(k:Nat)(hk:k<=σ.length)(hs:yce σ k d acc)(hc:∀ c∈acc,c.length<=800)(h1:acc.length<=900)(h2:acc.length * zs.length<=900):∃ y4,
  acB [some R,some d,some (.lst zs),x3,x4] σ=.ok (.nx [some R,some (.ref σ.length),some (.lst zs),some (.ref σ.length),y4]) (σ++[.lst ((acc.flatMap (stp zs.length)).map cD)])/\
  yce (σ++[.lst ((acc.flatMap (stp zs.length)).map cD)]) k (.ref σ.length) (acc.flatMap (stp zs.length)):=by
 obtain⟨S,s1,s2⟩:=hs.src;obtain⟨y4,lp⟩:=yiq (tg:=tgN 4) (body:=acI) (S:=S) acc cD (fun _ (b:Option D)=>[some R,some d,some (.lst zs),some (.ref σ.length),b]) (fun i=>σ++[.lst (((acc.take i).flatMap (stp zs.length)).map cD)]) (by omega) (fun i _=>s2 i _) (fun i c b hx=>by
  refine⟨[some R,some d,some (.lst zs),some (.ref σ.length),some (cD c)],some (cD c),rfl,?_⟩;have hi:=(List.getElem?_eq_some_iff.mp hx).1;have hb:((acc.take i).flatMap (stp zs.length)).length+zs.length<=1000:=by
   rw[zjs,List.length_take];have:min i acc.length * zs.length+zs.length=(min i acc.length+1) * zs.length:=by rw[Nat.succ_mul]
   have h3:(min i acc.length+1) * zs.length<=acc.length * zs.length:=Nat.mul_le_mul_right _ (by omega);omega
  rw[zh1 zs.length acc i hx];exact zny R d zs hz c (hc c (List.mem_of_getElem? hx)) _ hb σ) x4
 refine⟨y4,?_,.inr ⟨σ.length,rfl,hk,by simp⟩⟩;have s3:=s1 [.lst []];rw[List.take_length]at lp;simp only[List.take_zero,List.flatMap_nil,List.map_nil]at lp;unfold acB;generalize acI=B at *;generalize Ob.lst ((acc.flatMap (stp zs.length)).map cD)=O2 at *;generalize D.lst zs=Z at *;simp[s3,lp]
theorem zuv{n:Nat}{c:List Int}:∀ x∈stp n c,x.length=c.length+1:=fun x hx=>by
 unfold stp at hx;obtain⟨k,_,rfl⟩:=List.mem_map.mp hx;simp
theorem znx(v:Vw)(R:D)(σ:Sto):∀ (ps:List Po) (acc:List (List Int)) (d:D) (J:Sto) (x2 x3 x4:Option D) (b:Nat),(∀ p∈ps,p.st.length<=20)->yce (σ++J) σ.length d acc->(∀ c∈acc,c.length<=b)->b+ps.length<=800->yg0 (ps.map fun p=>p.st.length) acc.length->∃ d' J' y2 y3 y4,
  yi9 (tgN 2) acB (ps.map (rdL v)) [some R,some d,x2,x3,x4] (σ++J)=.ok (.nx [some R,some d',y2,y3,y4]) (σ++J')/\yce (σ++J') σ.length d' (yht (ps.map fun p=>p.st.length) acc)
 |[],acc,d,J,x2,x3,x4,b,_,hs,_,_,_=>⟨d,J,x2,x3,x4,by simp,hs⟩
 |p::ps,acc,d,J,x2,x3,x4,b,hp,hs,hc,hb,hf=>by
  simp only[List.length_cons]at hb;rw[List.map_cons]at hf;obtain⟨f1,f2⟩:=hf;have hpl:=hp p List.mem_cons_self;have hlen:(p.st.map (rdD v p)).length=p.st.length:=by simp
  obtain⟨y4,e1,s1⟩:=zic R d acc (p.st.map (rdD v p)) (by rw[hlen];exact hpl) x3 x4 (σ++J) σ.length (by simp) hs (fun c h=>by have:=hc c h;omega) f1 (by rw[hlen];exact f2.le);rw[hlen]at e1 s1;obtain⟨d',J',y2,y3,y4',e2,s2⟩:=znx v R σ ps (acc.flatMap (stp p.st.length)) (.ref (σ++J).length) (J++[.lst ((acc.flatMap (stp p.st.length)).map cD)]) (some (rdL v p)) (some (.ref (σ++J).length)) y4 (b+1) (fun q hq=>hp q (List.mem_cons_of_mem _ hq)) (by rw[<-List.append_assoc];exact s1) (fun c h=>by
   obtain⟨a,ha,hx⟩:=List.mem_flatMap.mp h;have:=zuv c hx;have:=hc a ha;omega) (by omega) (by rw[zjs];exact f2)
  refine⟨d',J',y2,y3,y4',?_,s2⟩;rw[List.map_cons,zk4];simp only[List.set_cons_succ,List.set_cons_zero];have e3:acB [some R,some d,some (rdL v p),x3,x4] (σ++J)=_:=e1;rw[e3,zod,zk2,List.append_assoc];exact e2
theorem zp4{σ J:Sto}{d:D}{acc:List (List Int)}(h:yce (σ++J) σ.length d acc):yir σ (.ok d (σ++J))=.ok (.lst (acc.map cD)) σ:=by
 have hc:clL (acc.map cD)=true:=zom fun _=>by simp
 rcases h with rfl|⟨m,rfl,hm,hl⟩
 ·exact zp1 (by rw[zv8];exact hc) (by simp)
 ·have hl2:(σ++J)[m]?=some (.lst (acc.map cD)):=by
   unfold yej at hl;cases e:(σ++J)[m]? with
   |none=>rw[e]at hl;cases hl
   |some o=>
    rw[e]at hl;cases o with
    |lst xs=>cases hl;rfl
    |_=>cases hl
  have hr:fz σ.length (σ++J) 6 (.ref m)=some (.lst (acc.map cD)):=by
   unfold fz;rw[if_neg (by simp[cl])];dsimp only;rw[if_neg (by omega),hl2];dsimp only;rw[zqd (g:=cD) (h:=cD) fun c _=>ydu (ycq c)];rfl
  unfold yir;dsimp only;rw[if_pos (by simp),hr]
def pls(v:Vw):List (List Int):=yht (v.ps.map fun p=>p.st.length) [[]]
def Vw.Few(v:Vw):Prop:=yg0 (v.ps.map fun p=>p.st.length) 1
theorem zec(v:Vw)(hv:v.Ok)(hf:v.Few)(σ:Sto):f_all_choices [.lst (v.ps.map (rdL v))] σ=.ok (.lst ((pls v).map cD)) σ:=by
 have n3:=hv.n3;obtain⟨d',J',y2,y3,y4,e,s⟩:=znx v (.lst (v.ps.map (rdL v))) σ v.ps [[]] (.lst [.lst []]) [] none none none 0 (fun p hp=>(hv.sl p hp).2) (.inl rfl) (by simp) (by omega) hf;rw[List.append_nil]at e;have fz:=zp4 s;rw[show yht (v.ps.map fun p=>p.st.length) [[]]=pls v from rfl]at fz;unfold acB acI at e;unfold f_all_choices zb0;generalize v.ps.map (rdL v)=RL at *;generalize D.lst ((pls v).map cD)=OUT at *;simp[e,fz]
theorem zrj:∀ (ps:List Po) (acc:List (List Int)) (c:List Int),c∈yht (ps.map fun p=>p.st.length) acc ↔ ∃ a∈acc,∃ r:List Int,c=a++r/\r.length=ps.length/\plB ps r=true
 |[],acc,c=>by
  simp only[List.map_nil,yht,List.length_nil];constructor
  ·intro h;exact⟨c,h,[],by simp,rfl,rfl⟩
  ·rintro ⟨a,ha,r,rfl,hr,_⟩;have:r=[]:=List.length_eq_zero_iff.mp hr;subst this;simpa using ha
 |p::ps,acc,c=>by
  simp only[List.map_cons,yht];rw[zrj ps];constructor
  ·rintro ⟨a',ha',r,rfl,hr,hp⟩;obtain⟨a,ha,hx⟩:=List.mem_flatMap.mp ha';unfold stp at hx;obtain⟨k,hk,rfl⟩:=List.mem_map.mp hx;have hk:=List.mem_range.mp hk;refine⟨a,ha,(k:Int)::r,by simp,by simp[hr],?_⟩;unfold plB at hp ⊢;rw[List.zip_cons_cons,List.all_cons,hp,Bool.and_true];simp only[Bool.and_eq_true,decide_eq_true_eq];omega
  ·rintro ⟨a,ha,r,rfl,hr,hp⟩;cases r with
   |nil=>simp at hr
   |cons x r=>
    unfold plB at hp;rw[List.zip_cons_cons,List.all_cons]at hp;simp only[Bool.and_eq_true,decide_eq_true_eq]at hp;refine⟨a++[x],List.mem_flatMap.mpr ⟨a,ha,?_⟩,r,by simp,by simpa using hr,hp.2⟩;unfold stp;exact List.mem_map.mpr ⟨x.toNat,List.mem_range.mpr (by omega),by rw[show ((x.toNat:Nat):Int)=x by omega]⟩
theorem zrl(v:Vw)(c:List Int):c∈pls v ↔ c.length=v.ps.length/\plB v.ps c=true:=by
 unfold pls;rw[zrj];constructor
 ·rintro ⟨a,ha,r,rfl,h1,h2⟩;have:a=[]:=by simpa using ha
  subst this;exact⟨by simpa using h1,by simpa using h2⟩
 ·rintro ⟨h1,h2⟩;exact⟨[],by simp,c,by simp,h1,h2⟩
theorem yaa(v:Vw)(hv:v.Ok):∃ x xs,pls v=x::xs:=by
 have h:v.ps.map (fun _=>(0:Int))∈pls v:=by
  rw[zrl];refine⟨by simp,?_⟩;unfold plB;rw[List.all_eq_true];intro q hq;obtain⟨i,hi⟩:=List.getElem?_of_mem hq;have e:=List.getElem?_zip_eq_some.mp hi;have h1:=(hv.sl q.1 (List.mem_of_getElem? e.1)).1;have h2:q.2=0:=by
   have:=e.2;rw[List.getElem?_map]at this;obtain⟨_,_,z⟩:=Option.map_eq_some_iff.mp this;exact z.symm
  simp only[Bool.and_eq_true,decide_eq_true_eq];omega
 cases e:pls v with
 |nil=>rw[e]at h;cases h
 |cons x xs=>exact⟨x,xs,rfl⟩
theorem zh9:∀ (ns:List Nat) (acc:List (List Int)),yg0 ns acc.length->(yht ns acc).length<=900
 |[],acc,h=>h
 |n::ns,acc,h=>zh9 ns _ (by rw[zjs];exact h.2)
def tot(v:Vw)(cs:List Int):Int:=frm v (chS v.ps cs)+yix (lF (grp (AT v (chS v.ps cs))) v.e) v.e (grp (AT v (chS v.ps cs)))
def ppD(v:Vw)(cs:List Int):D:=pD (tot v cs) cs (lF (grp (AT v (chS v.ps cs))) v.e)
structure Best(v:Vw)(cs:List Int):Prop where
 len:cs.length=v.ps.length
 pl:plB v.ps cs=true
 le:∀ c,c.length=v.ps.length->plB v.ps c=true->tot v cs<=tot v c
theorem zlw(v:Vw)(hv:v.Ok)(hf:v.Few):∃ cs,Best v cs/\∀ σ,f_paper [v.O] σ=.ok (ppD v cs) σ:=by
 obtain⟨x,xs,hx⟩:=yaa v hv;have hm:yhu (tot v) xs x∈pls v:=by rw[hx];exact zie _ _ _
 have hl:=zh9 _ [[]] hf;rw[show yht (v.ps.map fun p=>p.st.length) [[]]=pls v from rfl]at hl;refine⟨yhu (tot v) xs x,⟨((zrl v _).mp hm).1,((zrl v _).mp hm).2,fun c h1 h2=>?_⟩,fun σ=>?_⟩
 ·have:c∈x::xs:=by rw[<-hx];exact(zrl v c).mpr ⟨h1,h2⟩
  exact zn4 (tot v) xs x c this
 ·have r1:=fun σ=>zme v hv σ;have r2:=fun σ=>zec v hv hf σ;have f0:=fun σ=>v.f0 σ;have l:=yi7 (xs:=pls v) (ix:=[1,0]) (ρ:=[some v.O,some (.lst (v.ps.map (rdL v))),none]) (σ:=σ) (src:=yk0 (eFn 1 f_all_choices [] (yci (yij 1) yhr))) (fe:=eFn 3 f_least_paper [] (yci (eFn 2 f_chosen_readings [] (yci (yij 1) (yci (yij 0) yhr))) (yci (yij 0) (yci (eUn (yjm [0] "every") (yij 2)) yhr)))) cD (ppD v) (by
    generalize D.lst (v.ps.map (rdL v))=RL at *;generalize v.O=VO at *;simp[r2]) (by omega) (fun c hc j=>by
    obtain⟨h1,h2⟩:=(zrl v c).mp hc;have r3:=fun σ=>zf2 v c hv.n3 h2 σ;have hmm:=zok h2;have r4:∀ σ,f_least_paper [.lst ((chS v.ps c).map fun q=>rdD v q.1 q.2),.lst (c.map D.int),.int v.e] σ=.ok (ppD v c) σ:=fun σ=>zgu v (chS v.ps c) (fun q hq=>hv.ok q.1 (hmm q hq).1 q.2 (hmm q hq).2) (Nat.le_trans (zoj _ _) hv.n3) c σ;unfold cD;generalize D.lst (v.ps.map (rdL v))=RL at *;generalize D.lst ((chS v.ps c).map fun q=>rdD v q.1 q.2)=QL at *;generalize D.lst (c.map D.int)=CL at *;generalize ppD v c=PP at *;generalize v.O=VO at *;simp[r3,r4,f0]) (fun c _=>yff _ _ _)
  have i0:∀ c σ,oIx (ppD v c) (.int 0) σ=.ok (.int (tot v c)) σ:=fun c σ=>by unfold ppD pD;simp
  have m:=zrp (f:=ppD v) (key:=tot v) (x:=x) (xs:=xs) (fe:=yid oIx (yij 0) (eC (.int 0))) (rest:=[]) (σ:=σ) (fun c _=>by
   have i:=fun σ=>i0 c σ;generalize ppD v c=PP at *;simp[i])
  rw[<-hx]at m;have hc:cl (ppD v (yhu (tot v) xs x))=true:=yff _ _ _;unfold f_paper zqf;generalize ppD v (yhu (tot v) xs x)=OUT at *;generalize (pls v).map (ppD v)=PL at *;generalize D.lst (v.ps.map (rdL v))=RL at *;generalize v.O=VO at *;simp[r1,l,m,hc,-zo9]
theorem znm(v:Vw)(hv:v.Ok)(hf:v.Few):∃ cs,Best v cs/\∀ σ,f_worth [v.O] σ=.ok (.int (tot v cs)) σ:=by
 obtain⟨cs,hb,e⟩:=zlw v hv hf;refine⟨cs,hb,fun σ=>?_⟩;have i0:∀ σ,oIx (ppD v cs) (.int 0) σ=.ok (.int (tot v cs)) σ:=fun σ=>by unfold ppD pD;simp
 unfold f_worth zqg;generalize ppD v cs=PP at *;generalize v.O=VO at *;simp[e,i0]
def yli(v:Vw)(qs:List (Po × St))(X:Int->Option Int):Int:=yi0 (fun c=>if cnt (X c.t.w) v.e c then c.t.a else 0) (AT v qs)+own qs
def Xm(v:Vw)(qs:List (Po × St))(w:Int):Option Int:=mf (flt (AT v qs) w) v.e
theorem zfi{h h':Int->Tc->Int}{cs:List Tc}:∀ {W:List Int},(∀ w∈W,yi0 (h w) (flt cs w)=yi0 (h' w) (flt cs w))->ylm h cs W=ylm h' cs W
 |[],_=>rfl
 |w::W,hw=>by
  simp only[ylm];rw[hw w List.mem_cons_self,zfi fun z hz=>hw z (List.mem_cons_of_mem _ hz)]
theorem zu8{h h':Int->Tc->Int}{cs:List Tc}:∀ {W:List Int},(∀ w∈W,yi0 (h w) (flt cs w)<=yi0 (h' w) (flt cs w))->ylm h cs W<=ylm h' cs W
 |[],_=>Int.le_refl _
 |w::W,hw=>by
  simp only[ylm];have h1:=hw w List.mem_cons_self;have h2:=zu8 (W:=W) fun z hz=>hw z (List.mem_cons_of_mem _ hz);omega
theorem zqj(v:Vw)(qs:List (Po × St)):yix (lF (grp (AT v qs)) v.e) v.e (grp (AT v qs))=yi0 (fun c=>if cmB (Xm v qs c.t.w) v.e c then c.t.a else 0) (AT v qs):=by
 rw[zqi];have gn:((spc (AT v qs)).map (·.1)).Nodup:=by
  unfold spc;rw[List.map_map];exact(show ((fun q:Int × List Tc=>q.1) ∘ fun w=>(w,flt (AT v qs) w))=id from rfl) ▸ (by rw[List.map_id];exact zf6 _)
 have fv:=zqb (spc (AT v qs)) v.e gn;generalize lF (spc (AT v qs)) v.e=F at *;have e1:yix F v.e (spc (AT v qs))=ylm (fun w c=>if cmB ((yis F w).getD none) v.e c then c.t.a else 0) (AT v qs) (ddp (wds (AT v qs))):=by
  unfold spc;rw[zka]
 rw[e1,zfi (h':=fun w c=>if cmB (Xm v qs w) v.e c then c.t.a else 0) (fun w hw=>by
  have:yis F w=some (mf (flt (AT v qs) w) v.e):=fv (w,flt (AT v qs) w) (by unfold spc;exact List.mem_map.mpr ⟨w,hw,rfl⟩);rw[this];rfl)]
 exact znn (fun w c=>if cmB (Xm v qs w) v.e c then c.t.a else 0) _ (zf6 _) _ fun c hc=>(zo2 _ _).mpr (List.mem_map.mpr ⟨c,hc,rfl⟩)
theorem ygk(v:Vw)(cs:List Int):tot v cs=yli v (chS v.ps cs) (Xm v (chS v.ps cs)):=by
 unfold tot yli;rw[zqj,zpz,zox (fun w=>Xm v (chS v.ps cs) w)];omega
def Leg(v:Vw)(qs:List (Po × St))(X:Int->Option Int):Prop:=∀ w,X w∈none::fcs (flt (AT v qs) w)
theorem zvn(v:Vw)(qs:List (Po × St)):Leg v qs (Xm v qs):=fun w=>zy1 _ _
theorem ybr(v:Vw)(cs:List Int)(X:Int->Option Int)(hX:Leg v (chS v.ps cs) X):tot v cs<=yli v (chS v.ps cs) X:=by
 rw[ygk];generalize chS v.ps cs=qs at *;unfold yli;rw[zox (fun w=>Xm v qs w),zox X];have h:yi0 (fun c=>if cmB (Xm v qs c.t.w) v.e c then c.t.a else 0) (AT v qs)<=yi0 (fun c=>if cmB (X c.t.w) v.e c then c.t.a else 0) (AT v qs):=by
  have m:∀ c∈AT v qs,c.t.w∈ddp (wds (AT v qs)):=fun c hc=>(zo2 _ _).mpr (List.mem_map.mpr ⟨c,hc,rfl⟩);rw[<-znn (fun w c=>if cmB (Xm v qs w) v.e c then c.t.a else 0) _ (zf6 _) _ m,<-znn (fun w c=>if cmB (X w) v.e c then c.t.a else 0) _ (zf6 _) _ m];refine zu8 fun w _=>?_;rw[<-zfe,<-zfe];exact yes (flt (AT v qs) w) v.e (X w) (hX w)
 omega
theorem zkz{v:Vw}{qs:List (Po × St)}{X:Int->Option Int}(h:Leg v qs X){w z:Int}(e:X w=some z):∃ c∈AT v qs,c.t.w=w/\c.l = "open"/\c.t.d=z:=by
 have h1:=h w;rw[e]at h1;rcases List.mem_cons.mp h1 with h2|h2
 ·cases h2
 ·unfold fcs opn flt at h2;obtain⟨c,hc,ez⟩:=List.mem_map.mp h2;obtain⟨hc1,hc2⟩:=List.mem_filter.mp hc;obtain⟨hc3,hc4⟩:=List.mem_filter.mp hc1;exact⟨c,hc3,by simpa using hc4,eq_of_beq hc2,Option.some.inj ez⟩
theorem zyv{v:Vw}{qs:List (Po × St)}{X:Int->Option Int}(h:∀ w z,X w=some z->∃ c∈AT v qs,c.t.w=w/\c.l = "open"/\c.t.d=z):Leg v qs X:=fun w=>by
 cases e:X w with
 |none=>exact List.mem_cons_self
 |some z=>
  obtain⟨c,h1,h2,h3,h4⟩:=h w z e;refine List.mem_cons_of_mem _ ?_;unfold fcs opn flt;exact List.mem_map.mpr ⟨c,List.mem_filter.mpr ⟨List.mem_filter.mpr ⟨h1,by simpa using h2⟩,by rw[h3];exact beq_self_eq_true _⟩,by rw[h4]⟩
structure PotR(v1 v2:Vw)(p1 p2:Po):Prop where
 s:p2.s=p1.s
 st:∀ t∈p2.st,t∈p1.st
 old:∀ w x,val p1.sn w=some x->val p2.sn w=some x
 new:∀ w y,val p1.sn w=none->val p2.sn w=some y->v1.k<=y/\inW v2.ws w=true
 top:∀ w y,val p2.sn w=some y->y<=v2.k
 shw:∀ t∈p2.st,∀ u∈t.ts,u.p≠p2.s->inW v2.ws u.w=true->v2.k<u.d->u.d<=v2.k+v2.e->(val p2.sn u.w).isSome=true
structure TimR(v1 v2:Vw):Prop where
 e:v2.e=v1.e
 e1:1<=v1.e
 k1:v1.k<=v2.k
 k2:v2.k<=v1.k+v1.e
 ws:∀ w,inW v1.ws w=true->inW v2.ws w=true
theorem zk6{v:Vw}{s:Int}{sn:List (Int × Int)}{u:Ti}(h:u.p=s):lot v s sn u=(if inT sn u then ("lost" : Str)else if decide (u.d<=v.k)then ("back" : Str)else ("open" : Str)):=by
 have:(u.p == s)=true:=by simpa using h
 unfold lot;rw[this];rfl
theorem zrh{v:Vw}{s:Int}{sn:List (Int × Int)}{u:Ti}(h:u.p≠s):lot v s sn u=(if inT sn u then ("won" : Str)else if decide (u.d<=v.k)then ("gone" : Str)else if inW v.ws u.w && decide (v.k+v.e<u.d)then ("sure" : Str)else ("hangs" : Str)):=by
 have:(u.p == s)=false:=by simpa using h
 unfold lot;rw[this];rfl
theorem zwf(x:Option Int)(e:Int)(u:Ti):cnt x e ⟨"won",u⟩=true:=by unfold cnt;rw[show ydk "won" = true from rfl];rfl
theorem zow(x:Option Int)(e:Int)(u:Ti):cnt x e ⟨"sure",u⟩=true:=by unfold cnt;rw[show ydk "sure" = true from rfl];rfl
theorem zos(x:Option Int)(e:Int)(u:Ti):cnt x e ⟨"back",u⟩=true:=by unfold cnt;rw[show ydk "back" = true from rfl];rfl
theorem zou(x:Option Int)(e:Int)(u:Ti):cnt x e ⟨"lost",u⟩=false:=by unfold cnt cmB;rw[show ydk "lost" = false from rfl,show (("lost" : Str) == ("open" : Str))=false from by decide,show (("lost" : Str) == ("hangs" : Str))=false from by decide];rfl
theorem zot(x:Option Int)(e:Int)(u:Ti):cnt x e ⟨"gone",u⟩=false:=by unfold cnt cmB;rw[show ydk "gone" = false from rfl,show (("gone" : Str) == ("open" : Str))=false from by decide,show (("gone" : Str) == ("hangs" : Str))=false from by decide];rfl
theorem zov(x:Option Int)(e:Int)(u:Ti):cnt x e ⟨"open",u⟩=(match x with|none=>true|some z=>decide (u.d<z)):=by unfold cnt cmB;rw[show ydk "open" = false from rfl,show (("open" : Str) == ("open" : Str))=true from by decide];rfl
theorem zis(x:Option Int)(e:Int)(u:Ti):cnt x e ⟨"hangs",u⟩=(match x with|none=>false|some z=>decide (z - 1+e<u.d)):=by unfold cnt cmB;rw[show ydk "hangs" = false from rfl,show (("hangs" : Str) == ("open" : Str))=false from by decide,show (("hangs" : Str) == ("hangs" : Str))=true from by decide];cases x<;>rfl
theorem zqs(l:List (Int × Int))(u:Ti):inT l u=true ↔ ∃ x,val l u.w=some x/\x<u.d:=by
 unfold inT;cases val l u.w with
 |none=>simp
 |some x=>simp
section
variable{v1 v2:Vw}{p1 p2:Po}{t:St}{u:Ti}
theorem zx7(r:PotR v1 v2 p1 p2)(h:inT p1.sn u=true):inT p2.sn u=true:=by
 obtain⟨x,h1,h2⟩:=(zqs _ _).mp h;exact(zqs _ _).mpr ⟨x,r.old _ _ h1,h2⟩
theorem zqt(r:PotR v1 v2 p1 p2)(h1:inT p1.sn u=false)(h2:inT p2.sn u=true):inW v2.ws u.w=true/\v1.k<u.d:=by
 obtain⟨y,e1,e2⟩:=(zqs _ _).mp h2;cases e:val p1.sn u.w with
 |none=>
  have:=r.new _ _ e e1;exact⟨this.2,by omega⟩
 |some x=>
  have e3:=r.old _ _ e;rw[e1]at e3;cases e3;have:inT p1.sn u=true:=(zqs _ _).mpr ⟨y,e,e2⟩;rw[h1]at this;cases this
theorem zi2(r:PotR v1 v2 p1 p2)(ht:t∈p2.st)(hu:u∈t.ts)(hp:u.p≠p2.s)(hw:inW v2.ws u.w=true)(hk:v2.k<u.d)(x:Option Int)(e:Int):cnt x e ⟨lot v2 p2.s p2.sn u,u⟩=true:=by
 rw[zrh hp];cases hi:inT p2.sn u with
 |true=>exact zwf ..
 |false=>
  have hd:decide (u.d<=v2.k)=false:=by simp;omega
  rw[hd,hw];by_cases hs:v2.k+v2.e<u.d
  ·have:decide (v2.k+v2.e<u.d)=true:=by simpa using hs
   rw[this];exact zow ..
  ·have h1:=r.shw t ht u hu hp hw hk (by omega);obtain⟨y,hy⟩:=Option.isSome_iff_exists.mp h1;have h2:=r.top _ _ hy;have:inT p2.sn u=true:=(zqs _ _).mpr ⟨y,hy,by omega⟩;rw[hi]at this;cases this
end
abbrev Tz:=List (Po × Po × St)
def q1(Z:Tz):List (Po × St):=Z.map fun z=>(z.1,z.2.2)
def q2(Z:Tz):List (Po × St):=Z.map fun z=>(z.2.1,z.2.2)
def lsL(v1 v2:Vw)(Z:Tz)(X2:Int->Option Int)(w:Int):List Ti:=Z.flatMap fun z=>z.2.2.ts.filter fun u=>(u.w == w) && ((lot v1 z.1.s z.1.sn u == "open") && !cnt (X2 w) v2.e ⟨lot v2 z.2.1.s z.2.1.sn u,u⟩)
theorem zrk{v1 v2:Vw}{Z:Tz}{X2:Int->Option Int}{w:Int}{u:Ti}:u∈lsL v1 v2 Z X2 w ↔ ∃ z∈Z,u∈z.2.2.ts/\u.w=w/\lot v1 z.1.s z.1.sn u = "open"/\cnt (X2 w) v2.e ⟨lot v2 z.2.1.s z.2.1.sn u,u⟩=false:=by
 unfold lsL;rw[List.mem_flatMap];constructor
 ·rintro ⟨z,hz,hu⟩;obtain⟨h1,h2⟩:=List.mem_filter.mp hu;simp only[Bool.and_eq_true,Bool.not_eq_true',beq_iff_eq]at h2;exact⟨z,hz,h1,h2.1,h2.2.1,h2.2.2⟩
 ·rintro ⟨z,hz,h1,h2,h3,h4⟩;refine⟨z,hz,List.mem_filter.mpr ⟨h1,?_⟩⟩;simp only[Bool.and_eq_true,Bool.not_eq_true',beq_iff_eq];exact⟨h2,h3,h4⟩
def X1(v1 v2:Vw)(Z:Tz)(X2:Int->Option Int)(w:Int):Option Int:=match lsL v1 v2 Z X2 w with
 |[]=>none
 |u::us=>some (yhu (fun u:Ti=>u.d) us u).d
theorem znv{v1 v2:Vw}{Z:Tz}{X2:Int->Option Int}{w D:Int}(h:X1 v1 v2 Z X2 w=some D):∃ u∈lsL v1 v2 Z X2 w,u.d=D/\∀ u'∈lsL v1 v2 Z X2 w,D<=u'.d:=by
 unfold X1 at h;cases e:lsL v1 v2 Z X2 w with
 |nil=>rw[e]at h;cases h
 |cons u us=>
  rw[e]at h;have h:=Option.some.inj h;exact⟨_,zie _ us u,h,fun u' hu'=>by rw[<-h];exact zn4 (fun u:Ti=>u.d) us u u' hu'⟩
theorem znu{v1 v2:Vw}{Z:Tz}{X2:Int->Option Int}{w:Int}(h:X1 v1 v2 Z X2 w=none):lsL v1 v2 Z X2 w=[]:=by
 unfold X1 at h;cases e:lsL v1 v2 Z X2 w with
 |nil=>rfl
 |cons u us=>rw[e]at h;cases h
theorem zyz{v:Vw}{qs:List (Po × St)}{c:Tc}:c∈AT v qs ↔ ∃ q∈qs,∃ u∈q.2.ts,c=⟨lot v q.1.s q.1.sn u,u⟩:=by
 unfold AT;rw[List.mem_flatMap];constructor
 ·rintro ⟨q,hq,hc⟩;obtain⟨u,hu,rfl⟩:=List.mem_map.mp hc;exact⟨q,hq,u,hu,rfl⟩
 ·rintro ⟨q,hq,u,hu,rfl⟩;exact⟨q,hq,List.mem_map.mpr ⟨u,hu,rfl⟩⟩
theorem zvm(v1 v2:Vw)(Z:Tz)(X2:Int->Option Int):Leg v1 (q1 Z) (X1 v1 v2 Z X2):=zyv fun w z h=>by
 obtain⟨u,hu,hd,_⟩:=znv h;obtain⟨y,hy,h1,h2,h3,_⟩:=zrk.mp hu;exact⟨⟨lot v1 y.1.s y.1.sn u,u⟩,zyz.mpr ⟨(y.1,y.2.2),List.mem_map.mpr ⟨y,hy,rfl⟩,u,h1,rfl⟩,h2,h3,hd⟩
theorem zk5{v:Vw}{s:Int}{sn:List (Int × Int)}{u:Ti}(h:lot v s sn u = "open"):u.p=s/\inT sn u=false/\v.k<u.d:=by
 by_cases hp:u.p=s
 ·rw[zk6 hp]at h;cases hi:inT sn u with
  |true=>rw[hi,if_pos rfl]at h;exact absurd h (by decide)
  |false=>
   rw[hi]at h;by_cases hd:u.d<=v.k
   ·have:decide (u.d<=v.k)=true:=by simpa using hd
    rw[this]at h;exact absurd h (by decide)
   ·exact⟨hp,rfl,by omega⟩
 ·rw[zrh hp]at h;split at h
  ·exact absurd h (by decide)
  ·split at h
   ·exact absurd h (by decide)
   ·split at h
    ·exact absurd h (by decide)
    ·exact absurd h (by decide)
theorem zlv{v:Vw}{s:Int}{sn:List (Int × Int)}{u:Ti}(h1:u.p=s)(h2:inT sn u=false)(h3:v.k<u.d):lot v s sn u = "open":=by
 have:decide (u.d<=v.k)=false:=by simp;omega
 rw[zk6 h1,h2,this];rfl
theorem ybq{v1 v2:Vw}(T:TimR v1 v2){Z:Tz}(hZ:∀ z∈Z,PotR v1 v2 z.1 z.2.1/\z.2.2∈z.2.1.st){X2:Int->Option Int}(hX:Leg v2 (q2 Z) X2){z:Po × Po × St}(hz:z∈Z){u:Ti}(hu:u∈z.2.2.ts)(h:cnt (X1 v1 v2 Z X2 u.w) v1.e ⟨lot v1 z.1.s z.1.sn u,u⟩=true):cnt (X2 u.w) v2.e ⟨lot v2 z.2.1.s z.2.1.sn u,u⟩=true:=by
 obtain⟨r,ht⟩:=hZ z hz;have Te:=T.e;have Te1:=T.e1;have Tk1:=T.k1;have Tk2:=T.k2;by_cases hp:u.p=z.1.s
 ·have hp2:u.p=z.2.1.s:=by rw[r.s];exact hp
  cases hi:inT z.1.sn u with
  |true=>
   rw[zk6 hp,hi,if_pos rfl,zou]at h;cases h
  |false=>
   by_cases hd:u.d<=v1.k
   ·have i2:inT z.2.1.sn u=false:=by
     cases hi2:inT z.2.1.sn u with
     |false=>rfl
     |true=>have:=(zqt r hi hi2).2;omega
    have d2:decide (u.d<=v2.k)=true:=by simp;omega
    rw[zk6 hp2,i2,d2];exact zos ..
   ·have ho:lot v1 z.1.s z.1.sn u = "open":=zlv hp hi (by omega);cases hc:cnt (X2 u.w) v2.e ⟨lot v2 z.2.1.s z.2.1.sn u,u⟩with
    |true=>rfl
    |false=>
     have hm:u∈lsL v1 v2 Z X2 u.w:=zrk.mpr ⟨z,hz,hu,rfl,ho,hc⟩;rw[ho,zov]at h;cases e:X1 v1 v2 Z X2 u.w with
     |none=>rw[znu e]at hm;cases hm
     |some D=>
      rw[e]at h;obtain⟨_,_,_,h3⟩:=znv e;have h4:=h3 u hm;have h5:u.d<D:=by simpa using h
      omega
 ·have hp2:u.p≠z.2.1.s:=by rw[r.s];exact hp
  cases hi:inT z.1.sn u with
  |true=>rw[zrh hp2,zx7 r hi];exact zwf ..
  |false=>
   by_cases hd:u.d<=v1.k
   ·have d1:decide (u.d<=v1.k)=true:=by simpa using hd
    rw[zrh hp,hi,d1]at h;rw[show (if false=true then ("won" : Str)else if true=true then ("gone" : Str)else if (inW v1.ws u.w && decide (v1.k+v1.e<u.d))=true then ("sure" : Str)else ("hangs" : Str)) = "gone" from rfl,zot]at h;cases h
   ·have d1:decide (u.d<=v1.k)=false:=by simp;omega
    cases hs:(inW v1.ws u.w && decide (v1.k+v1.e<u.d))with
    |true=>
     rw[Bool.and_eq_true]at hs;have h5:v1.k+v1.e<u.d:=by simpa using hs.2
     exact zi2 r ht hu hp2 (T.ws _ hs.1) (by omega) _ _
    |false=>
     rw[zrh hp,hi,d1,hs]at h;rw[show (if false=true then ("won" : Str)else if false=true then ("gone" : Str)else if false=true then ("sure" : Str)else ("hangs" : Str)) = "hangs" from rfl,zis]at h;cases e:X1 v1 v2 Z X2 u.w with
     |none=>rw[e]at h;cases h
     |some D=>
      rw[e]at h;have hD:D - 1+v1.e<u.d:=by simpa using h
      obtain⟨u',hu',hd',hmin⟩:=znv e;obtain⟨y,hy,hy1,hy2,hy3,hy4⟩:=zrk.mp hu';obtain⟨ry,hty⟩:=hZ y hy;obtain⟨o1,o2,o3⟩:=zk5 hy3;have o1':u'.p=y.2.1.s:=by rw[ry.s];exact o1
      cases hi2:inT y.2.1.sn u' with
      |true=>
       have hn:=zqt ry o2 hi2;rw[hy2]at hn;exact zi2 r ht hu hp2 hn.1 (by omega) _ _
      |false=>
       by_cases hd2:u'.d<=v2.k
       ·have d2:decide (u'.d<=v2.k)=true:=by simpa using hd2
        rw[zk6 o1',hi2,d2,show (if false=true then ("lost" : Str)else if true=true then ("back" : Str)else ("open" : Str)) = "back" from rfl,zos]at hy4;cases hy4
       ·rw[zlv o1' hi2 (by omega),zov]at hy4;cases ex:X2 u.w with
        |none=>rw[ex]at hy4;cases hy4
        |some zz=>
         rw[ex]at hy4;have hz1:¬ u'.d<zz:=by simpa using hy4
         obtain⟨c,hc,hc1,hc2,hc3⟩:=zkz hX ex;obtain⟨q,hq,u3,hu3,rfl⟩:=zyz.mp hc;obtain⟨y3,hy3',rfl⟩:=List.mem_map.mp hq;obtain⟨r3,ht3⟩:=hZ y3 hy3';obtain⟨w1,w2,w3⟩:=zk5 hc2;have w1':u3.p=y3.1.s:=by rw[<-r3.s];exact w1
         have w2':inT y3.1.sn u3=false:=by
          cases hi3:inT y3.1.sn u3 with
          |false=>rfl
          |true=>
           have:=zx7 r3 hi3;rw[show inT y3.2.1.sn u3=false from w2]at this;cases this
         have hc3':u3.d=zz:=hc3;have hc1':u3.w=u.w:=hc1;have hm3:u3∈lsL v1 v2 Z X2 u.w:=zrk.mpr ⟨y3,hy3',hu3,hc1',zlv w1' w2' (by omega),by
          rw[show lot v2 y3.2.1.s y3.2.1.sn u3 = "open" from hc2,zov,ex];simp;omega⟩
         have:=hmin u3 hm3;have w3':v2.k<u3.d:=w3;rw[zrh hp2];cases hi4:inT z.2.1.sn u with
         |true=>exact zwf ..
         |false=>
          have d4:decide (u.d<=v2.k)=false:=by simp;omega
          rw[d4];cases hs4:(inW v2.ws u.w && decide (v2.k+v2.e<u.d))with
          |true=>exact zow ..
          |false=>
           rw[show (if false=true then ("won" : Str)else if false=true then ("gone" : Str)else if false=true then ("sure" : Str)else ("hangs" : Str)) = "hangs" from rfl,zis];simp;omega
theorem yd0(h h':Tc->Int)(g g':Ti->Tc):∀ ts:List Ti,(∀ u∈ts,h (g u)<=h' (g' u))->yi0 h (ts.map g)<=yi0 h' (ts.map g')
 |[],_=>Int.le_refl _
 |u::ts,hu=>by
  have h1:=hu u List.mem_cons_self;have h2:=yd0 h h' g g' ts fun x hx=>hu x (List.mem_cons_of_mem _ hx);unfold yi0 at *;simp only[List.map_cons,List.sum_cons];omega
theorem ybi{v1 v2:Vw}(Y1 Y2:Int->Option Int):∀ (Z:Tz),(∀ z∈Z,z.2.1.s=z.1.s/\∀ u∈z.2.2.ts,0<=u.a/\(cnt (Y1 u.w) v1.e ⟨lot v1 z.1.s z.1.sn u,u⟩=true->cnt (Y2 u.w) v2.e ⟨lot v2 z.2.1.s z.2.1.sn u,u⟩=true))->yli v1 (q1 Z) Y1<=yli v2 (q2 Z) Y2
 |[],_=>Int.le_refl _
 |z::Z,hz=>by
  have ih:=ybi Y1 Y2 Z fun y hy=>hz y (List.mem_cons_of_mem _ hy);obtain⟨h1,h2⟩:=hz z List.mem_cons_self;have e1:AT v1 (q1 (z::Z))=tcs v1 (z.1,z.2.2)++AT v1 (q1 Z):=List.flatMap_cons ..;have e2:AT v2 (q2 (z::Z))=tcs v2 (z.2.1,z.2.2)++AT v2 (q2 Z):=List.flatMap_cons ..;have e3:own (q1 (z::Z))=shr z.1.s z.2.2+own (q1 Z):=by unfold own q1;simp
  have e4:own (q2 (z::Z))=shr z.2.1.s z.2.2+own (q2 Z):=by unfold own q2;simp
  have h3:yi0 (fun c=>if cnt (Y1 c.t.w) v1.e c then c.t.a else 0) (tcs v1 (z.1,z.2.2))<=yi0 (fun c=>if cnt (Y2 c.t.w) v2.e c then c.t.a else 0) (tcs v2 (z.2.1,z.2.2)):=by
   unfold tcs;refine yd0 _ _ _ _ _ fun u hu=>?_;obtain⟨a0,hc⟩:=h2 u hu;dsimp only;by_cases c1:cnt (Y1 u.w) v1.e ⟨lot v1 z.1.s z.1.sn u,u⟩=true
   ·rw[if_pos c1,if_pos (hc c1)];exact Int.le_refl _
   ·rw[if_neg c1];split<;>omega
  unfold yli at ih ⊢;rw[e1,e2,e3,e4,zkh,zkh,h1];omega
def Pr{α β:Type}(R:α->β->Prop):List α->List β->Prop
 |[],[]=>True
 |a::as,b::bs=>R a b/\Pr R as bs
 |_,_=>False
theorem yjz{v1 v2:Vw}:∀ (ps1 ps2:List Po),Pr (PotR v1 v2) ps1 ps2->∀ cs2:List Int,cs2.length=ps2.length->plB ps2 cs2=true->∃ (cs1:List Int) (Z:Tz),cs1.length=ps1.length/\plB ps1 cs1=true/\chS ps1 cs1=q1 Z/\chS ps2 cs2=q2 Z/\∀ z∈Z,PotR v1 v2 z.1 z.2.1/\z.2.2∈z.2.1.st/\z.1∈ps1
 |[],[],_,cs2,hl,_=>⟨[],[],rfl,rfl,rfl,by simp[chS,q2],fun z h=>by cases h⟩
 |p1::ps1,p2::ps2,h,[],hl,hp=>by simp at hl
 |p1::ps1,p2::ps2,h,c::cs2,hl,hp=>by
  obtain⟨r,h'⟩:=h;unfold plB at hp;rw[List.zip_cons_cons,List.all_cons]at hp;simp only[Bool.and_eq_true,decide_eq_true_eq]at hp;obtain⟨cs1,Z,z1,z2,z3,z4,z5⟩:=yjz ps1 ps2 h' cs2 (by simpa using hl) hp.2;have hi:c.toNat<p2.st.length:=by omega
  have hm:p2.st[c.toNat]∈p2.st:=List.getElem_mem hi;obtain⟨j,hj⟩:=List.getElem?_of_mem (r.st _ hm);have hj2:=(List.getElem?_eq_some_iff.mp hj).1;refine⟨(j:Int)::cs1,(p1,p2,p2.st[c.toNat])::Z,by simp[z1],?_,?_,?_,fun z hz=>?_⟩
  ·unfold plB at z2 ⊢;rw[List.zip_cons_cons,List.all_cons,z2,Bool.and_true];simp only[Bool.and_eq_true,decide_eq_true_eq];omega
  ·unfold chS at z3 ⊢;rw[List.zip_cons_cons,List.map_cons,z3];unfold q1;rw[List.map_cons,Int.toNat_natCast,List.getD_eq_getElem?_getD,hj];rfl
  ·unfold chS at z4 ⊢;rw[List.zip_cons_cons,List.map_cons,z4];unfold q2;rw[List.map_cons,List.getD_eq_getElem?_getD,List.getElem?_eq_getElem hi];rfl
  ·rcases List.mem_cons.mp hz with rfl|hz
   ·exact⟨r,hm,List.mem_cons_self⟩
   ·obtain⟨y1,y2,y3⟩:=z5 z hz;exact⟨y1,y2,List.mem_cons_of_mem _ y3⟩
theorem yhq{v1 v2:Vw}(T:TimR v1 v2)(hP:Pr (PotR v1 v2) v1.ps v2.ps)(ha:∀ p∈v1.ps,∀ t∈p.st,∀ u∈t.ts,0<=u.a){c1 c2:List Int}(b1:Best v1 c1)(b2:Best v2 c2):tot v1 c1<=tot v2 c2:=by
 obtain⟨cs1,Z,z1,z2,z3,z4,z5⟩:=yjz v1.ps v2.ps hP c2 b2.len b2.pl;have h1:=b1.le cs1 z1 z2;have hX:=zvn v2 (chS v2.ps c2);rw[ygk v2 c2];rw[z4]at hX ⊢;have h2:=ybr v1 cs1 (X1 v1 v2 Z (Xm v2 (q2 Z))) (by rw[z3];exact zvm v1 v2 Z _);rw[z3]at h2;have h3:=ybi (v1:=v1) (v2:=v2) (X1 v1 v2 Z (Xm v2 (q2 Z))) (Xm v2 (q2 Z)) Z fun z hz=>by
  obtain⟨y1,y2,y3⟩:=z5 z hz;exact⟨y1.s,fun u hu=>⟨ha z.1 y3 z.2.2 (y1.st _ y2) u hu,fun hc=>ybq T (fun z hz=>⟨(z5 z hz).1,(z5 z hz).2.1⟩) hX hz hu hc⟩⟩
 omega
theorem zu4{l:List (Int × Int)}{w:Int}(h:val l w=none)(y w':Int):val (yj2 l w y) w'=if w'=w then some y else val l w':=by
 have ha:l.any (fun p=>decide (p.1=w))=false:=by
  rw[List.any_eq_false];intro p hp;unfold val at h;rw[Option.map_eq_none_iff,List.find?_eq_none]at h;exact h p hp
 unfold yj2;rw[ha];simp only[Bool.false_eq_true,if_false];unfold val at h ⊢;rw[List.find?_append];by_cases e:w'=w
 ·subst e;rw[Option.map_eq_none_iff]at h;rw[h];simp
 ·rw[if_neg e];have:List.find? (fun p:Int × Int=>decide (p.1=w')) [(w,y)]=none:=by
   simp only[List.find?_cons,List.find?_nil];have:¬ w=w':=fun z=>e z.symm;simp[this]
  rw[this];simp
theorem yfv{σ:Sto}{n:Nat}{l:List (Int × Int)}(h:σ[n]?=some (.dic (kvI l))):yib σ (.ref n)=some (kvI l):=by unfold yib;simp only[h]
theorem ykg{σ:Sto}{n:Nat}{l:List (Int × Int)}(h:σ[n]?=some (.dic (kvI l)))(w:Int):zr0 (.int w) (.ref n) σ=.ok (.bl (!(val l w).isSome)) σ:=by
 unfold zr0;simp only[yi4,yfv h,zjp];cases val l w<;>rfl
theorem rin{σ:Sto}{n:Nat}{l:List (Int × Int)}(h:σ[n]?=some (.dic (kvI l)))(w:Int):yji (.int w) (.ref n) σ=.ok (.bl (val l w).isSome) σ:=by
 unfold yji;simp only[yi4,yfv h,zjp];cases val l w<;>rfl
theorem zty{σ:Sto}{n:Nat}{l:List (Int × Int)}(h:σ[n]?=some (.dic (kvI l)))(w x:Int)(hl:l.length<900)(ρ:Ev):yf4 ρ (.int x) (.ref n) (.int w) σ=.ok (.nx ρ) (σ.set n (.dic (kvI (yj2 l w x)))):=by
 unfold yf4;simp only[yi4,h];rw[if_pos (by unfold kvI cap;simp;omega),zhh]
theorem ykc{σ:Sto}{n:Nat}{l:List (Int × Int)}(h:σ[n]?=some (.dic (kvI l))):yjj [.ref n] σ=.ok (shD l) σ:=by
 unfold yjj;simp only[yfv h];unfold shD kvI;simp[Function.comp_def]
theorem zo1(l:List (Int × Int))(σ:Sto):ye1 [shD l] σ=.ok (.ref σ.length) (σ++[.dic (kvI l)]):=by
 unfold ye1;simp only[zo0]
theorem zfl{σ:Sto}{n:Nat}{xs:List D}(h:yej σ n=some xs)(hl:xs.length<1000)(d:D):zrz (.ref n) [d] σ=.ok .non (σ.set n (.lst (xs++[d]))):=by
 unfold zrz;simp only[h];rw[if_pos (show xs.length<cap from hl)]
theorem yer{σ:Sto}{n:Nat}{xs:List D}(h:yej σ n=some xs)(o:D->List D->M D)(m:M (List D)):yeq o m (.ref n) σ=(m σ).bind (o (.ref n)):=zla (xs:=xs) h
def smT(c a b:Int)(l:List (Int × Int))(i:Nat):List (Int × Int):=if (!(val l i).isSome) && (yjf c (20+i) % 3 == 0)then yj2 l i (a+yjf c (20+i) / 3 % (b - a+1))else l
def smL(c a b:Int):Nat->Nat->List (Int × Int)->List (Int × Int)
 |0,_,l=>l
 |m+1,i,l=>smL c a b m (i+1) (smT c a b l i)
noncomputable abbrev smB:Ev->M Fl:=(ykq (ykr 9 (eFn 2 f__law_mixed [] (yci (yij 1) (yci (yid yjg (eC (.int 20)) (yij 8)) yhr))))
 (sIf (yhx (eT (yid zr0 (yij 8) (yij 7))) (eT (yid oEq (yid yjr (yij 9) (eC (.int 3))) (eC (.int 0))))) (yfx (yid yjg (yij 2) (yid yjr (yid yjk (yij 9) (eC (.int 3))) (yid yjg (yid yjv (yij 3) (yij 2)) (eC (.int 1))))) (yij 7) (yij 8)) ykn))
theorem zua(c a b:Int)(l:List (Int × Int))(i:Nat):(smT c a b l i).length<=l.length+1:=by
 unfold smT;split
 ·exact zl7 ..
 ·omega
theorem zub(c a b:Int)(hab:a<=b)(x0 x4 x5 x6:Option D)(σ:Sto):∀ (m i:Nat) (l:List (Int × Int)) (x8 x9:Option D),i+m<=20->l.length+m<=100->∃ y8 y9,
  yi9 (tgN 8) smB ((List.range' i m).map fun(k:Nat)=>D.int k) [x0,some (.int c),some (.int a),some (.int b),x4,x5,x6,some (.ref σ.length),x8,x9] (σ++[.dic (kvI l)])=.ok (.nx [x0,some (.int c),some (.int a),some (.int b),x4,x5,x6,some (.ref σ.length),y8,y9]) (σ++[.dic (kvI (smL c a b m i l))]):=by
 intro m;induction m with
 |zero=>intro i l x8 x9 _ _;exact⟨x8,x9,by simp[smL]⟩
 |succ m ih=>
  intro i l x8 x9 hi hl;have mx:∀ σ,f__law_mixed [.int c,.int (20+(i:Int))] σ=.ok (.int (yjf c (20+i))) σ:=fun σ=>by
   have:=zy2 c (20+i) (by omega) σ
   rwa [show (((20+i:Nat)):Int)=20+(i:Int) by omega]at this
  have hsl:=zua c a b l i;obtain⟨y8,y9,e⟩:=ih (i+1) (smT c a b l i) (some (.int i)) (some (.int (yjf c (20+i)))) (by omega) (by omega);refine⟨y8,y9,?_⟩;have st:smB [x0,some (.int c),some (.int a),some (.int b),x4,x5,x6,some (.ref σ.length),some (.int i),x9] (σ++[.dic (kvI l)])=.ok (.nx [x0,some (.int c),some (.int a),some (.int b),x4,x5,x6,some (.ref σ.length),some (.int i),some (.int (yjf c (20+i)))]) (σ++[.dic (kvI (smT c a b l i))]):=by
   have hd:(σ++[Ob.dic (kvI l)])[σ.length]?=some (.dic (kvI l)):=by simp
   have ni:=ykg hd (i:Int);have sd:=fun ρ=>zty hd (i:Int) (a+yjf c (20+i) / 3 % (b - a+1)) (by omega) ρ;rw[zt1]at sd;have om:∀ z σ,yjr (.int z) (.int (b - a+1)) σ=.ok (.int (z % (b - a+1))) σ:=fun z σ=>zr9 z _ (by omega);unfold smB smT;generalize (val l (i:Int)).isSome=s1 at *;generalize yjf c (20+i)=MX at *;generalize (i:Int)=I at *;generalize hb:(MX % 3 == 0)=b2 at *;generalize hσ1:(σ++[Ob.dic (kvI l)])=σ1 at *;generalize hσ2:(σ++[Ob.dic (kvI (yj2 l I (a+MX / 3 % (b - a+1))))])=σ2 at *;generalize σ.length=N0 at *;cases s1<;>cases b2<;>simp[mx,ni,hb,om,sd];all_goals first|exact hσ1.symm|exact hσ2.symm
  rw[List.range'_succ,List.map_cons,zk4];simp only[List.set_cons_succ,List.set_cons_zero];rw[st,zod,zk2,e];rfl
theorem zrt(p:Po)(hp:p.sn.length<=50)(c a b:Int)(hab:a<=b)(σ:Sto):f__law_seen_more [p.D,.int c,.int a,.int b] σ=.ok (.tup [.int p.s,.lst (p.st.map St.D),.ref σ.length]) (σ++[.dic (kvI (smL c a b 7 0 p.sn))]):=by
 have dc:=zo1 p.sn σ;obtain⟨y8,y9,e⟩:=zub c a b hab (some p.D) (some (.int p.s)) (some (.lst (p.st.map St.D))) (some (shD p.sn)) σ 7 0 p.sn none none (by omega) (by omega);rw[<-zhj]at e;have r7:∀ σ,yke (.int 7) σ=.ok (.seq (yao 7)) σ:=fun σ=>ykf 7 (by omega) σ;have ag:∀ x1 x2 x3 x4 x5 x6 x7 x8 x9 σ,yhv (tgT 3 (ybn (tgN 4) (ybn (tgN 5) (ybn (tgN 6) ygi)))) [some p.D,x1,x2,x3,x4,x5,x6,x7,x8,x9] p.D σ=.ok (.nx [some p.D,x1,x2,x3,some (.int p.s),some (.lst (p.st.map St.D)),some (shD p.sn),x7,x8,x9]) σ:=fun _ _ _ _ _ _ _ _ _ _=>nr rfl;have hs:clL (p.st.map St.D)=true:=zom fun _=>by simp
 have fl:∀ (xs:List D) (σ:Sto),clL xs=true->yir σ (ye7 [.lst xs] σ)=.ok (.lst xs) σ:=fun xs σ h=>by
  rw[show ye7 [.lst xs] σ=.ok (.ref σ.length) (σ++[.lst xs])from nr rfl];exact zp2 h
 have f1:=fun σ=>fl (p.st.map St.D) σ hs;unfold smB at e;unfold f__law_seen_more zal;generalize (σ++[Ob.dic (kvI (smL c a b 7 0 p.sn))])=σ2 at *;generalize (σ++[Ob.dic (kvI p.sn)])=σ1 at *;generalize yao 7=RG at *;generalize p.st.map St.D=SL at *;generalize shD p.sn=SN at *;generalize p.D=PD at *;simp[ag,dc,r7,e,f1]
structure Grow(a b:Int)(l l':List (Int × Int)):Prop where
 old:∀ w x,val l w=some x->val l' w=some x
 new:∀ w y,val l w=none->val l' w=some y->a<=y/\y<=b/\0<=w/\w<=6
theorem zmw(c a b:Int)(hab:a<=b)(l:List (Int × Int))(i:Nat)(hi:i<=6):Grow a b l (smT c a b l i):=by
 unfold smT;split
 ·next h=>
  rw[Bool.and_eq_true]at h;have hn:val l (i:Int)=none:=by
   have:=h.1;cases e:val l (i:Int)with
   |none=>rfl
   |some x=>rw[e]at this;cases this
  have vp:=fun y w'=>zu4 hn y w';have hm:=Int.emod_nonneg (yjf c (20+i) / 3) (show b - a+1≠0 by omega);have hm2:=Int.emod_lt_of_pos (yjf c (20+i) / 3) (show 0<b - a+1 by omega);refine⟨fun w x hx=>?_,fun w y hx hy=>?_⟩
  ·rw[vp];split
   ·next e=>rw[e,hn]at hx;cases hx
   ·exact hx
  ·rw[vp]at hy;split at hy
   ·next e=>
    cases hy;omega
   ·rw[hx]at hy;cases hy
 ·exact⟨fun _ _ h=>h,fun w y h h2=>by rw[h]at h2;cases h2⟩
theorem Grow.trans{a b:Int}{l l1 l2:List (Int × Int)}(h1:Grow a b l l1)(h2:Grow a b l1 l2):Grow a b l l2:=by
 refine⟨fun w x h=>h2.old w x (h1.old w x h),fun w y h e=>?_⟩;cases e1:val l1 w with
 |none=>exact h2.new w y e1 e
 |some z=>
  have:=h2.old w z e1;rw[e]at this;cases this;exact h1.new w y h e1
theorem zmv(c a b:Int)(hab:a<=b):∀ (m i:Nat) (l:List (Int × Int)),i+m<=7->Grow a b l (smL c a b m i l)
 |0,_,l,_=>⟨fun _ _ h=>h,fun w y h h2=>by rw[show smL c a b 0 _ l=l from rfl,h]at h2;cases h2⟩
 |m+1,i,l,h=>(zmw c a b hab l i (by omega)).trans (zmv c a b hab m (i+1) _ (by omega))
theorem zt9(c a b:Int):∀ (m i:Nat) (l:List (Int × Int)),(smL c a b m i l).length<=l.length+m
 |0,_,l=>Nat.le_refl _
 |m+1,i,l=>by
  have h1:=zt9 c a b m (i+1) (smT c a b l i);have h2:=zua c a b l i;show (smL c a b m (i+1) (smT c a b l i)).length<=_;omega
theorem ycx{α:Type}(f:α->D)(xs:List α)(a:Nat):yh6 (xs.map f) (some (a:Int)) none=((xs.drop (min a xs.length)).take (xs.length - min a xs.length)).map f:=by
 unfold yh6;rw[List.length_map,HT.sIx_nat,List.map_take,List.map_drop];rfl
theorem ycy{α:Type}(f:α->D)(xs:List α)(a k:Nat):yh6 (xs.map f) (some (a:Int)) (some (k:Int))=((xs.drop (min a xs.length)).take (min k xs.length - min a xs.length)).map f:=by
 unfold yh6;rw[List.length_map,HT.sIx_nat,HT.sIx_nat,List.map_take,List.map_drop]
theorem zjk(s:Int)(ts:List St)(h1:1<=ts.length)(R:D)(c:Int):∃ ts':List St,(∀ t∈ts',t∈ts)/\1<=ts'.length/\ts'.length<=ts.length/\∀ σ,f__law_fewer [.tup [.int s,.lst (ts.map St.D),R],.int c] σ=.ok (.tup [.int s,.lst (ts'.map St.D),R]) σ:=by
 have ag:∀ (T:D) (x1 x2 x3 x4 x5:Option D) (SL:D) σ,yhv (tgT 3 (ybn (tgN 2) (ybn (tgN 3) (ybn (tgN 4) ygi)))) [some T,x1,x2,x3,x4,x5] (.tup [.int s,SL,R]) σ=.ok (.nx [some T,x1,some (.int s),some SL,some R,x5]) σ:=fun _ _ _ _ _ _ _ _=>nr rfl;have ln:∀ σ,yjq [.lst (ts.map St.D)] σ=.ok (.int ts.length) σ:=fun σ=>by simp
 cases b1:decide ((1:Int)<(ts.length:Int))with
 |false=>
  refine⟨ts,fun _ h=>h,h1,Nat.le_refl _,fun σ=>?_⟩;unfold f__law_fewer zct;generalize hT:D.tup [.int s,.lst (ts.map St.D),R]=T;have ag':=fun x1 x2 x3 x4 x5 σ=>ag T x1 x2 x3 x4 x5 (.lst (ts.map St.D)) σ;rw[hT]at ag';generalize D.lst (ts.map St.D)=SL at *;generalize (ts.length:Int)=N at *;simp[ag',ln,b1]
 |true=>
  cases b2:decide (0<c % 3)with
  |false=>
   refine⟨ts,fun _ h=>h,h1,Nat.le_refl _,fun σ=>?_⟩;unfold f__law_fewer zct;generalize hT:D.tup [.int s,.lst (ts.map St.D),R]=T;have ag':=fun x1 x2 x3 x4 x5 σ=>ag T x1 x2 x3 x4 x5 (.lst (ts.map St.D)) σ;rw[hT]at ag';generalize D.lst (ts.map St.D)=SL at *;generalize (ts.length:Int)=N at *;simp[ag',ln,b1,b2]
  |true=>
   obtain⟨i,hi⟩:∃ i:Nat,(i:Int)=c / 3 % (ts.length:Int):=⟨(c / 3 % (ts.length:Int)).toNat,by have:=Int.emod_nonneg (c / 3) (show (ts.length:Int)≠0 by omega);omega⟩
   have hlt:i<ts.length:=by have:=Int.emod_lt_of_pos (c / 3) (show (0:Int)<ts.length by omega);omega
   have om:∀ σ,yjr (.int (c / 3)) (.int (ts.length:Int)) σ=.ok (.int i) σ:=fun σ=>by rw[hi];exact zr9 _ _ (by omega)
   have e1:=ycx St.D ts i;have e2:=ycy St.D ts i (i+1);rw[show min i ts.length=i by omega]at e1 e2;rw[show min (i+1) ts.length - i=1 by omega,show ((i+1:Nat):Int)=(i:Int)+1 by omega]at e2;have c1:∀ σ,yh7 (.lst (ts.map St.D)) (some (i:Int)) none σ=.ok (.lst (((ts.drop i).take (ts.length - i)).map St.D)) σ:=fun σ=>by
    show Out.ok (D.lst (yh6 _ _ _)) σ=_;rw[e1]
   have c2:∀ σ,yh7 (.lst (ts.map St.D)) (some (i:Int)) (some ((i:Int)+1)) σ=.ok (.lst (((ts.drop i).take 1).map St.D)) σ:=fun σ=>by
    show Out.ok (D.lst (yh6 _ _ _)) σ=_;rw[e2]
   have hp:c % 2=0\/c % 2=1:=by omega
   have q0:∀ (x y:D) σ,oIx (.lst [x,y]) (.int 0) σ=.ok x σ:=fun x y σ=>zr6 (show atI _ ((0:Nat):Int)=_ from zn6 rfl);have q1':∀ (x y:D) σ,oIx (.lst [x,y]) (.int 1) σ=.ok y σ:=fun x y σ=>zr6 (show atI _ ((1:Nat):Int)=_ from zn6 rfl);have es1:∀ x0 x1 x2 x4 σ,eSl (yij 3) (some (yij 5)) none [x0,x1,x2,some (.lst (ts.map St.D)),x4,some (.int i)] σ=.ok (.lst (((ts.drop i).take (ts.length - i)).map St.D)) σ:=fun _ _ _ _ σ=>c1 σ;have es2:∀ x0 x1 x2 x4 σ,eSl (yij 3) (some (yij 5)) (some (yid yjg (yij 5) (eC (.int 1)))) [x0,x1,x2,some (.lst (ts.map St.D)),x4,some (.int i)] σ=.ok (.lst (((ts.drop i).take 1).map St.D)) σ:=fun _ _ _ _ σ=>c2 σ;have mem:∀ k,∀ t∈(ts.drop i).take k,t∈ts:=fun k t h=>List.mem_of_mem_drop (List.mem_of_mem_take h);have run:∀ (z:Int) (OUT:List D),c % 2=z->(∀ (x y:D) σ,oIx (.lst [x,y]) (.int z) σ=.ok (if z=0 then x else y) σ)->((if z=0 then D.lst (((ts.drop i).take (ts.length - i)).map St.D)else D.lst (((ts.drop i).take 1).map St.D))=.lst OUT)->∀ σ,f__law_fewer [.tup [.int s,.lst (ts.map St.D),R],.int c] σ=.ok (.tup [.int s,.lst OUT,R]) σ:=fun z OUT hz hq ho σ=>by
    unfold f__law_fewer zct;generalize hT:D.tup [.int s,.lst (ts.map St.D),R]=T;have ag':=fun x1 x2 x3 x4 x5 σ=>ag T x1 x2 x3 x4 x5 (.lst (ts.map St.D)) σ;rw[hT]at ag';generalize D.lst (((ts.drop i).take (ts.length - i)).map St.D)=L1 at *;generalize D.lst (((ts.drop i).take 1).map St.D)=L2 at *;generalize D.lst (ts.map St.D)=SL at *;generalize (ts.length:Int)=N at *;generalize (i:Int)=I at *;simp[ag',ln,b1,b2,om,es1,es2,hz,hq,ho]
   rcases hp with h|h
   ·refine⟨(ts.drop i).take (ts.length - i),mem _,(by rw[List.length_take,List.length_drop];omega),(by rw[List.length_take,List.length_drop];omega),run 0 _ h (fun x y σ=>by rw[q0];rfl) rfl⟩
   ·refine⟨(ts.drop i).take 1,mem _,(by rw[List.length_take,List.length_drop];omega),(by rw[List.length_take,List.length_drop];omega),run 1 _ h (fun x y σ=>by rw[q1'];rfl) rfl⟩
def row(k:Nat)(p:Po):D:=.tup [.int p.s,.lst (p.st.map St.D),.ref (1+k)]
def rws(P:List Po):List D:=P.zipIdx.map fun q=>row q.2 q.1
def dcs(P:List Po):Sto:=P.map fun p=>.dic (kvI p.sn)
def LS(P:List Po):Sto:=.lst (rws P)::dcs P
theorem zve(P:List Po):(LS P).length=1+P.length:=by unfold LS dcs;simp;omega
theorem yg4(P:List Po)(j:Sto):yej (LS P++j) 0=some (rws P):=rfl
theorem yav(P:List Po)(i:Nat):(rws P)[i]?=P[i]?.map (row i):=by
 unfold rws;rw[List.getElem?_map,List.getElem?_zipIdx];cases P[i]? with
 |none=>rfl
 |some p=>simp
theorem ztf(P:List Po):(rws P).length=P.length:=by unfold rws;simp
theorem yg5{P:List Po}{k:Nat}{p:Po}(h:P[k]?=some p)(j:Sto):(LS P++j)[1+k]?=some (.dic (kvI p.sn)):=by
 unfold LS dcs;rw[Nat.add_comm,List.cons_append,List.getElem?_cons_succ,List.getElem?_append_left (by simpa using (List.getElem?_eq_some_iff.mp h).1),List.getElem?_map,h];rfl
theorem zmf(P:List Po)(p:Po):rws (P++[p])=rws P++[row P.length p]:=by
 unfold rws;rw[List.zipIdx_append];simp
theorem znp(P:List Po)(p:Po):(LS P++[Ob.dic (kvI p.sn)]).set 0 (Ob.lst (rws P++[row P.length p]))=LS (P++[p]):=by
 unfold LS dcs;rw[zmf];simp
theorem yaw{P P':List Po}(h:∀ i:Nat,P'[i]?.map (fun p=>(p.s,p.st))=P[i]?.map fun p=>(p.s,p.st)):rws P'=rws P:=by
 apply List.ext_getElem?;intro i;rw[yav,yav];have:=h i;cases e:P[i]? with
 |none=>rw[e]at this;cases e2:P'[i]? with
  |none=>rfl
  |some p=>rw[e2]at this;cases this
 |some p=>
  rw[e]at this;cases e2:P'[i]? with
  |none=>rw[e2]at this;cases this
  |some p'=>
   rw[e2]at this;have z:=Option.some.inj this;have z1:p'.s=p.s:=(Prod.mk.inj z).1;have z2:p'.st=p.st:=(Prod.mk.inj z).2;simp[row,z1,z2]
theorem zvf{P P':List Po}{i:Nat}{l:List (Int × Int)}(hP:∀ j:Nat,P'[j]?=if j=i then P[j]?.map (fun p=>(⟨p.s,p.st,l⟩:Po))else P[j]?)(hi:i<P.length)(j:Sto):(LS P++j).set (1+i) (.dic (kvI l))=LS P'++j:=by
 have e1:rws P'=rws P:=yaw fun k=>by
  rw[hP k];split
  ·cases P[k]?<;>rfl
  ·rfl
 have e2:(dcs P).set i (.dic (kvI l))=dcs P':=by
  unfold dcs;apply List.ext_getElem?;intro k;rw[List.getElem?_set,List.getElem?_map,List.getElem?_map,hP k];by_cases hk:k=i
  ·subst hk;rw[if_pos rfl,if_pos rfl,if_pos (by simpa using hi),List.getElem?_eq_getElem hi];rfl
  ·rw[if_neg (fun z=>hk z.symm),if_neg hk]
 unfold LS;rw[Nat.add_comm,List.cons_append,List.set_cons_succ,List.set_append_left _ _ (by unfold dcs;simpa using hi),e2,e1];rfl
structure RA(a b:Int)(p p':Po):Prop where
 s:p'.s=p.s
 st:∀ t∈p'.st,t∈p.st
 l1:1<=p'.st.length
 l2:p'.st.length<=p.st.length
 sn:Grow a b p.sn p'.sn
 ln:p'.sn.length<=p.sn.length+7
noncomputable abbrev laB:Ev->M Fl:=(ykq (ykr 9 (eFn 4 f__law_seen_more [] (yci (yid oIx (yij 4) (yij 8)) (yci (eFn 2 f__law_cell_at [] (yci (yij 0) (yci (yid yjg (eC (.int 8)) (yij 8)) yhr))) (yci (yij 2) (yci (yij 6) yhr))))))
 (ykk (yc9 zrz (yij 7) (yci (eFn 2 f__law_fewer [] (yci (yij 9) (yci (eFn 2 f__law_cell_at [] (yci (yij 0) (yci (yid yjg (eC (.int 11)) (yij 8)) yhr))) yhr))) yhr))))
theorem zq6(ns:List Int)(ps:List Po)(a b:Int)(hab:a<=b)(hs:∀ p∈ps,1<=p.st.length/\p.sn.length<=40)(h3:ps.length<=3)(x1 x3 x5 x10 x11 x12 x13 x14 x15:Option D):∀ (Q:List Po) (i:Nat) (P:List Po) (x8 x9:Option D),ps.drop i=Q->P.length=i->∃ P' y8 y9,Pr (RA a b) Q P'/\
  yi9 (tgN 8) laB ((List.range' i Q.length).map fun(k:Nat)=>D.int k) [some (.scr ns),x1,some (.int a),x3,some (.lst (ps.map Po.D)),x5,some (.int b),some (.ref 0),x8,x9,x10,x11,x12,x13,x14,x15] (LS P)=.ok (.nx [some (.scr ns),x1,some (.int a),x3,some (.lst (ps.map Po.D)),x5,some (.int b),some (.ref 0),y8,y9,x10,x11,x12,x13,x14,x15]) (LS (P++P'))
 |[],i,P,x8,x9,_,_=>⟨[],x8,x9,trivial,by simp⟩
 |p::Q,i,P,x8,x9,hd,hP=>by
  obtain⟨hx,hd2⟩:=zo6 hd;obtain⟨hi2,_⟩:=List.getElem?_eq_some_iff.mp hx;have hpm:=List.mem_of_getElem? hx;obtain⟨hs1,hs2⟩:=hs p hpm;have ck:∀ (z:Nat) σ,f__law_cell_at [.scr ns,.int ((z:Int)+(i:Int))] σ=.ok (.int (yct ns (z+i))) σ:=fun z σ=>by
   have:=zoi ns ((z:Int)+(i:Int)) (by omega) σ
   rwa [show ((z:Int)+(i:Int)).toNat=z+i by omega]at this
  have c8:∀ σ,f__law_cell_at [.scr ns,.int (8+(i:Int))] σ=.ok (.int (yct ns (8+i))) σ:=fun σ=>ck 8 σ;have c11:∀ σ,f__law_cell_at [.scr ns,.int (11+(i:Int))] σ=.ok (.int (yct ns (11+i))) σ:=fun σ=>ck 11 σ;have m1:=zrt p (by omega) (yct ns (8+i)) a b hab (LS P);obtain⟨ts',f1,f2,f3,f4⟩:=zjk p.s p.st hs1 (.ref (1+i)) (yct ns (11+i));have hlen:(LS P).length=1+i:=by rw[zve,hP]
  rw[hlen]at m1;have ix:=fun σ=>ixM (f:=Po.D) hx σ;obtain⟨P',y8,y9,hr,e⟩:=zq6 ns ps a b hab hs h3 x1 x3 x5 x10 x11 x12 x13 x14 x15 Q (i+1) (P++[⟨p.s,ts',smL (yct ns (8+i)) a b 7 0 p.sn⟩]) (some (.int i)) (some (.tup [.int p.s,.lst (p.st.map St.D),.ref (1+i)])) hd2 (by simp[hP]);refine⟨⟨p.s,ts',smL (yct ns (8+i)) a b 7 0 p.sn⟩::P',y8,y9,⟨⟨rfl,f1,f2,f3,zmv _ a b hab 7 0 _ (by omega),zt9 ..⟩,hr⟩,?_⟩;have ap:=zfl (σ:=LS P++[.dic (kvI (smL (yct ns (8+i)) a b 7 0 p.sn))]) (yg4 P _) (by rw[ztf];omega) (.tup [.int p.s,.lst (ts'.map St.D),.ref (1+i)]);have hsn:=znp P ⟨p.s,ts',smL (yct ns (8+i)) a b 7 0 p.sn⟩;have hrow:row P.length ⟨p.s,ts',smL (yct ns (8+i)) a b 7 0 p.sn⟩=.tup [.int p.s,.lst (ts'.map St.D),.ref (1+i)]:=by unfold row;rw[hP]
  rw[hrow]at hsn;rw[show (kvI (⟨p.s,ts',smL (yct ns (8+i)) a b 7 0 p.sn⟩:Po).sn)=kvI (smL (yct ns (8+i)) a b 7 0 p.sn)from rfl]at hsn;rw[hsn]at ap;have me:=fun o m=>yer (yg4 P [.dic (kvI (smL (yct ns (8+i)) a b 7 0 p.sn))]) o m;have st:laB [some (.scr ns),x1,some (.int a),x3,some (.lst (ps.map Po.D)),x5,some (.int b),some (.ref 0),some (.int i),x9,x10,x11,x12,x13,x14,x15] (LS P)=.ok (.nx [some (.scr ns),x1,some (.int a),x3,some (.lst (ps.map Po.D)),x5,some (.int b),some (.ref 0),some (.int i),some (.tup [.int p.s,.lst (p.st.map St.D),.ref (1+i)]),x10,x11,x12,x13,x14,x15]) (LS (P++[⟨p.s,ts',smL (yct ns (8+i)) a b 7 0 p.sn⟩])):=by
   unfold laB;generalize (LS P++[Ob.dic (kvI (smL (yct ns (8+i)) a b 7 0 p.sn))])=σ1 at *;generalize LS (P++[⟨p.s,ts',smL (yct ns (8+i)) a b 7 0 p.sn⟩])=σ2 at *;generalize LS P=σ0 at *;generalize D.tup [.int p.s,.lst (p.st.map St.D),.ref (1+i)]=T1 at *;generalize D.tup [.int p.s,.lst (ts'.map St.D),.ref (1+i)]=T2 at *;generalize D.lst (ps.map Po.D)=PL at *;generalize p.D=PD at *;generalize yct ns (8+i)=C8 at *;generalize yct ns (11+i)=C11 at *;generalize (i:Int)=I at *;simp[ix,c8,c11,m1,me,f4,ap]
  rw[List.length_cons,List.range'_succ,List.map_cons,zk4];simp only[List.set_cons_succ,List.set_cons_zero];rw[st,zod,zk2,e];simp
def hdI(P:List Po)(w:Int):List Int:=(P.filter fun p=>(val p.sn w).isSome).map fun _=>w
theorem zkb{P:List Po}{i:Nat}{p:Po}(h:P[i]?=some p)(w:Int):hdI (P.take (i+1)) w=hdI (P.take i) w++if (val p.sn w).isSome then [w]else []:=by
 unfold hdI;rw[List.take_add_one,h,List.filter_append,List.map_append];congr 1;simp only[Option.toList_some,List.filter_cons,List.filter_nil];split<;>simp
def hdT(c:Int)(P:List Po)(hd:List Int)(i:Nat):List Int:=(if yjf c i % 4 == 0 then hd++[(i:Int)]else hd)++hdI P i
def hdL(c:Int)(P:List Po):Nat->Nat->List Int->List Int
 |0,_,hd=>hd
 |m+1,i,hd=>hdL c P m (i+1) (hdT c P hd i)
noncomputable abbrev hdC:Ev->M Fl:=(sIf (eT (yid yji (yij 11) (yij 14))) (ykk (yc9 zrz (yij 10) (yci (yij 11) yhr))) ykn)
noncomputable abbrev hdB:Ev->M Fl:=(ykq (sIf (eT (yid oEq (yid yjr (eFn 2 f__law_mixed [] (yci (eFn 2 f__law_cell_at [] (yci (yij 0) (yci (eC (.int 14)) yhr))) (yci (yij 11) yhr))) (eC (.int 4))) (eC (.int 0)))) (ykk (yc9 zrz (yij 10) (yci (yij 11) yhr))) ykn)
 (ykm (yk0 (yij 7)) (tgT 3 (ybn (tgN 12) (ybn (tgN 13) (ybn (tgN 14) ygi)))) hdC))
theorem zql(P:List Po)(w:Int):(hdI P w).length<=P.length:=by unfold hdI;rw[List.length_map];exact List.length_filter_le _ _
theorem zke(P:List Po)(h3:P.length<=3)(w:Int)(hd:List Int)(hl:hd.length<=500)(x0 x1 x2 x3 x4 x5 x6 x8 x9 x12 x13 x14 x15:Option D)(σ:Sto)(hσ:σ=LS P):∃ y12 y13 y14,
  ykm (yk0 (yij 7)) (tgT 3 (ybn (tgN 12) (ybn (tgN 13) (ybn (tgN 14) ygi)))) hdC [x0,x1,x2,x3,x4,x5,x6,some (.ref 0),x8,x9,some (.ref σ.length),some (.int w),x12,x13,x14,x15] (σ++[.lst (hd.map D.int)])=.ok (.nx [x0,x1,x2,x3,x4,x5,x6,some (.ref 0),x8,x9,some (.ref σ.length),some (.int w),y12,y13,y14,x15]) (σ++[.lst ((hd++hdI P w).map D.int)]):=by
 obtain⟨⟨y12,y13,y14⟩,lp⟩:=yiq (tg:=tgT 3 (ybn (tgN 12) (ybn (tgN 13) (ybn (tgN 14) ygi)))) (body:=hdC) (S:=.lref 0) P.zipIdx (fun q=>row q.2 q.1) (fun _ (b:Option D × Option D × Option D)=>[x0,x1,x2,x3,x4,x5,x6,some (.ref 0),x8,x9,some (.ref σ.length),some (.int w),b.1,b.2.1,b.2.2,x15]) (fun i=>σ++[.lst ((hd++hdI (P.take i) w).map D.int)]) (by simp;omega) (fun i _=>by rw[hσ];rfl) (fun i q b hx=>by
  rw[List.getElem?_zipIdx]at hx;cases ep:P[i]? with
  |none=>rw[ep]at hx;cases hx
  |some p=>
   rw[ep]at hx;have hx:=Option.some.inj hx;rw[Nat.zero_add]at hx;subst hx;refine⟨[x0,x1,x2,x3,x4,x5,x6,some (.ref 0),x8,x9,some (.ref σ.length),some (.int w),some (.int p.s),some (.lst (p.st.map St.D)),some (.ref (1+i)),x15],(some (.int p.s),some (.lst (p.st.map St.D)),some (.ref (1+i))),rfl,?_⟩;have di:∀ hd:List Int,yji (.int w) (.ref (1+i)) (σ++[.lst (hd.map D.int)])=.ok (.bl (val p.sn w).isSome) (σ++[.lst (hd.map D.int)]):=fun hd=>rin (by rw[hσ];exact yg5 ep _) w;have hl2:=zql (P.take i) w;have hl3:(P.take i).length<=3:=by rw[List.length_take];omega
   have ap:=zd9 (σ:=σ) (xs:=(hd++hdI (P.take i) w).map D.int) (d:=.int w) (by simp;omega);have d1:=di (hd++hdI (P.take i) w);rw[zkb ep w];cases hs:(val p.sn w).isSome with
   |false=>
    rw[hs]at d1;simp only[Bool.false_eq_true,if_false,List.append_nil];unfold hdC;generalize (σ++[Ob.lst ((hd++hdI (P.take i) w).map D.int)])=σ1 at *;simp[d1]
   |true=>
    rw[hs]at d1;rw[if_pos rfl,show (hd++(hdI (P.take i) w++[w])).map D.int=(hd++hdI (P.take i) w).map D.int++[.int w] by simp];unfold hdC;generalize (hd++hdI (P.take i) w).map D.int=HL at *;simp[d1,ap]) (x12,x13,x14)
 refine⟨y12,y13,y14,?_⟩;rw[List.length_zipIdx,List.take_length]at lp;simp only[List.take_zero]at lp;rw[show hd++hdI [] w=hd by simp[hdI]]at lp;have sk:yf0 (.ref 0) (σ++[.lst (hd.map D.int)])=.ok (.lref 0) (σ++[.lst (hd.map D.int)]):=by rw[hσ];rfl
 generalize hdC=B at *;generalize (σ++[Ob.lst (hd.map D.int)])=σ1 at *;simp[sk,lp]
theorem zqn(ns:List Int)(P:List Po)(h3:P.length<=3)(σ:Sto)(hσ:σ=LS P)(x1 x2 x3 x4 x5 x6 x8 x9 x15:Option D):∀ (m i:Nat) (hd:List Int) (x11 x12 x13 x14:Option D),i+m<=20->hd.length+4 * m<=400->∃ y11 y12 y13 y14,
  yi9 (tgN 11) hdB ((List.range' i m).map fun(k:Nat)=>D.int k) [some (.scr ns),x1,x2,x3,x4,x5,x6,some (.ref 0),x8,x9,some (.ref σ.length),x11,x12,x13,x14,x15] (σ++[.lst (hd.map D.int)])=.ok (.nx [some (.scr ns),x1,x2,x3,x4,x5,x6,some (.ref 0),x8,x9,some (.ref σ.length),y11,y12,y13,y14,x15]) (σ++[.lst ((hdL (yct ns 14) P m i hd).map D.int)]):=by
 intro m;induction m with
 |zero=>intro i hd x11 x12 x13 x14 _ _;exact⟨x11,x12,x13,x14,by simp[hdL]⟩
 |succ m ih=>
  intro i hd x11 x12 x13 x14 hi hl;have c14:∀ σ,f__law_cell_at [.scr ns,.int 14] σ=.ok (.int (yct ns 14)) σ:=fun σ=>zoi ns 14 (by omega) σ;have mx:=fun σ=>zy2 (yct ns 14) i (by omega) σ;have hl2:=zql P (i:Int);have hT:(hdT (yct ns 14) P hd i).length<=hd.length+4:=by unfold hdT;split<;>(rw[List.length_append];try rw[List.length_append])<;>simp<;>omega
  obtain⟨y12,y13,y14,e1⟩:=zke P h3 (i:Int) (if yjf (yct ns 14) i % 4 == 0 then hd++[(i:Int)]else hd) (by split<;>(try rw[List.length_append])<;>(try simp)<;>omega) (some (.scr ns)) x1 x2 x3 x4 x5 x6 x8 x9 x12 x13 x14 x15 σ hσ;obtain⟨z11,z12,z13,z14,e2⟩:=ih (i+1) (hdT (yct ns 14) P hd i) (some (.int i)) y12 y13 y14 (by omega) (by omega);refine⟨z11,z12,z13,z14,?_⟩;have ap:=zd9 (σ:=σ) (xs:=hd.map D.int) (d:=.int (i:Int)) (by simp;omega);have st:hdB [some (.scr ns),x1,x2,x3,x4,x5,x6,some (.ref 0),x8,x9,some (.ref σ.length),some (.int i),x12,x13,x14,x15] (σ++[.lst (hd.map D.int)])=.ok (.nx [some (.scr ns),x1,x2,x3,x4,x5,x6,some (.ref 0),x8,x9,some (.ref σ.length),some (.int i),y12,y13,y14,x15]) (σ++[.lst ((hdT (yct ns 14) P hd i).map D.int)]):=by
   unfold hdB;rw[show hdT (yct ns 14) P hd i=(if yjf (yct ns 14) i % 4 == 0 then hd++[(i:Int)]else hd)++hdI P i from rfl];generalize hF:ykm (yk0 (yij 7)) (tgT 3 (ybn (tgN 12) (ybn (tgN 13) (ybn (tgN 14) ygi)))) hdC=FF at *;generalize (Ob.lst (((if yjf (yct ns 14) i % 4 == 0 then hd++[(i:Int)]else hd)++hdI P i).map D.int))=OE at *;generalize yjf (yct ns 14) i=MX at *;generalize yct ns 14=C14 at *;cases hb:(MX % 4 == 0)with
   |false=>
    rw[hb]at e1;simp only[Bool.false_eq_true,if_false]at e1;generalize (σ++[Ob.lst (hd.map D.int)])=σ1 at *;generalize (i:Int)=I at *;simp[c14,mx,hb,e1]
   |true=>
    rw[hb]at e1;simp only[if_true]at e1;rw[List.map_append,show [(i:Int)].map D.int=[.int (i:Int)]from rfl]at e1;generalize hd.map D.int=HL at *;generalize (i:Int)=I at *;simp[c14,mx,hb,ap,e1]
  rw[List.range'_succ,List.map_cons,zk4];simp only[List.set_cons_succ,List.set_cons_zero];rw[st,zod,zk2,e2];rfl
theorem zqu(a b:List Int)(w:Int):inW (a++b) w=(inW a w || inW b w):=by unfold inW;rw[List.any_append]
theorem zkd(c:Int)(P:List Po)(hd:List Int)(i:Nat){w:Int}(h:inW hd w=true):inW (hdT c P hd i) w=true:=by
 unfold hdT;rw[zqu,Bool.or_eq_true];left;split
 ·rw[zqu,h];rfl
 ·exact h
theorem zkc(c:Int)(P:List Po){w:Int}:∀ (m i:Nat) (hd:List Int),inW hd w=true->inW (hdL c P m i hd) w=true
 |0,_,_,h=>h
 |m+1,i,hd,h=>zkc c P m (i+1) _ (zkd c P hd i h)
theorem zqm(c:Int)(P:List Po){p:Po}(hp:p∈P):∀ (m i:Nat) (hd:List Int) (w:Int),(i:Int)<=w->w<(i:Int)+(m:Int)->(val p.sn w).isSome=true->inW (hdL c P m i hd) w=true
 |0,i,_,w,h1,h2,_=>by omega
 |m+1,i,hd,w,h1,h2,hv=>by
  by_cases e:w=(i:Int)
  ·refine zkc c P m (i+1) _ ?_;unfold hdT;rw[zqu,Bool.or_eq_true];right;subst e;unfold inW hdI;rw[List.any_eq_true];exact⟨(i:Int),List.mem_map.mpr ⟨p,List.mem_filter.mpr ⟨hp,hv⟩,rfl⟩,by simp⟩
  ·exact zqm c P hp m (i+1) _ w (by omega) (by omega) hv
def shT(s:Int)(hd:List Int)(b e:Int)(l:List (Int × Int))(u:Ti):List (Int × Int):=if (!(u.p == s)) && (inW hd u.w && ((!(val l u.w).isSome) && (decide (b<u.d) && decide (u.d<=b+e))))then yj2 l u.w b else l
def shL(s:Int)(hd:List Int)(b e:Int)(ts:List Ti)(l:List (Int × Int)):List (Int × Int):=ts.foldl (shT s hd b e) l
theorem zt5(s:Int)(hd:List Int)(b e:Int)(l:List (Int × Int))(u:Ti):(shT s hd b e l u).length<=l.length+1:=by
 unfold shT;split
 ·exact zl7 ..
 ·omega
theorem zt4(s:Int)(hd:List Int)(b e:Int):∀ (ts:List Ti) (l:List (Int × Int)),(shL s hd b e ts l).length<=l.length+ts.length
 |[],l=>by simp[shL]
 |u::ts,l=>by
  have h1:=zt4 s hd b e ts (shT s hd b e l u);have h2:=zt5 s hd b e l u;show (shL s hd b e ts (shT s hd b e l u)).length<=_;simp only[List.length_cons];omega
noncomputable abbrev shC:Ev->M Fl:=(sIf (yhx (eT (yid oNe (yij 10) (yij 4))) (yhx (eT (yid (oIn false) (yij 12) (yij 1))) (yhx (eT (yid zr0 (yij 12) (yij 6))) (eT (zwn oLt oLe (yij 2) (yij 13) (yid yjg (yij 2) (yij 3))))))) (yfx (yij 2) (yij 6) (yij 12)) ykn)
noncomputable abbrev shB:Ev->M Fl:=(ykm (yk0 (yij 9)) (tgT 4 (ybn (tgN 10) (ybn (tgN 11) (ybn (tgN 12) (ybn (tgN 13) ygi))))) shC)
section
variable{σ:Sto}{n h:Nat}{hd:List Int}(hn:n<σ.length)(hh:yej σ h=some (hd.map D.int))(hne:h≠n)
include hn hh hne
theorem zt0(l:List (Int × Int)):(σ.set n (.dic (kvI l)))[n]?=some (.dic (kvI l)):=List.getElem?_set_self hn
theorem zt2(l:List (Int × Int)):yej (σ.set n (.dic (kvI l))) h=some (hd.map D.int):=by
 unfold yej at hh ⊢;rw[List.getElem?_set_ne (fun z=>hne z.symm)];exact hh
theorem zt7(x0 x5 x7 x8 x9:Option D)(s b e:Int)(u:Ti)(l:List (Int × Int))(hl:l.length<800) :
  shC [x0,some (.ref h),some (.int b),some (.int e),some (.int s),x5,some (.ref n),x7,x8,x9,some (.int u.p),some (.int u.a),some (.int u.w),some (.int u.d)] (σ.set n (.dic (kvI l)))=.ok (.nx [x0,some (.ref h),some (.int b),some (.int e),some (.int s),x5,some (.ref n),x7,x8,x9,some (.int u.p),some (.int u.a),some (.int u.w),some (.int u.d)]) (σ.set n (.dic (kvI (shT s hd b e l u)))):=by
 have i1:=zlm (neg:=false) (w:=u.w) (x:=.ref h) (σ:=σ.set n (.dic (kvI l))) (ws:=hd) (zt2 hn hh hne l);rw[show (if false=true then !(hd.any (·== u.w))else hd.any (·== u.w))=inW hd u.w from rfl]at i1;have i2:=ykg (zt0 hn hh hne l) u.w;have sd:=fun ρ=>zty (zt0 hn hh hne l) u.w b (by omega) ρ;rw[List.set_set]at sd;unfold shC shT;generalize inW hd u.w=b2 at *;generalize (val l u.w).isSome=b3 at *;generalize hb1:(u.p == s)=b1 at *;generalize hb4:decide (b<u.d)=b4 at *;generalize hb5:decide (u.d<=b+e)=b5 at *;generalize hσ2:(σ.set n (.dic (kvI (yj2 l u.w b))))=σ2 at *;generalize hσ1:(σ.set n (.dic (kvI l)))=σ1 at *;cases b1
 ·cases b2
  ·simp[hb1,i1];exact hσ1.symm
  ·cases b3
   ·cases b4
    ·simp[hb1,i1,i2,hb4];exact hσ1.symm
    ·cases b5
     ·simp[hb1,i1,i2,hb4,hb5];exact hσ1.symm
     ·simp[hb1,i1,i2,hb4,hb5,sd];exact hσ2.symm
   ·simp[hb1,i1,i2];exact hσ1.symm
 ·simp[hb1];exact hσ1.symm
theorem zms(x0 x5:Option D)(s b e:Int)(t:St)(l:List (Int × Int))(hl:l.length+t.ts.length<700)(x10 x11 x12 x13:Option D):∃ y10 y11 y12 y13,
  shB [x0,some (.ref h),some (.int b),some (.int e),some (.int s),x5,some (.ref n),some (.int t.n),some (.tup [.int t.a,.int t.b]),some (.tup (t.ts.map Ti.D)),x10,x11,x12,x13] (σ.set n (.dic (kvI l)))=.ok (.nx [x0,some (.ref h),some (.int b),some (.int e),some (.int s),x5,some (.ref n),some (.int t.n),some (.tup [.int t.a,.int t.b]),some (.tup (t.ts.map Ti.D)),y10,y11,y12,y13]) (σ.set n (.dic (kvI (shL s hd b e t.ts l)))):=by
 obtain⟨⟨y10,y11,y12,y13⟩,lp⟩:=yiq (tg:=tgT 4 (ybn (tgN 10) (ybn (tgN 11) (ybn (tgN 12) (ybn (tgN 13) ygi))))) (body:=shC) (S:=.seq (t.ts.map Ti.D)) t.ts Ti.D (fun _ (c:Option D × Option D × Option D × Option D)=>[x0,some (.ref h),some (.int b),some (.int e),some (.int s),x5,some (.ref n),some (.int t.n),some (.tup [.int t.a,.int t.b]),some (.tup (t.ts.map Ti.D)),c.1,c.2.1,c.2.2.1,c.2.2.2]) (fun i=>σ.set n (.dic (kvI (shL s hd b e (t.ts.take i) l)))) (by omega) (fun _ _=>rfl) (fun i u c hx=>by
  refine⟨[x0,some (.ref h),some (.int b),some (.int e),some (.int s),x5,some (.ref n),some (.int t.n),some (.tup [.int t.a,.int t.b]),some (.tup (t.ts.map Ti.D)),some (.int u.p),some (.int u.a),some (.int u.w),some (.int u.d)],(some (.int u.p),some (.int u.a),some (.int u.w),some (.int u.d)),rfl,?_⟩;have hlt:=zt4 s hd b e (t.ts.take i) l;have hlt2:(t.ts.take i).length<=t.ts.length:=by rw[List.length_take];omega
  have e1:shL s hd b e (t.ts.take (i+1)) l=shT s hd b e (shL s hd b e (t.ts.take i) l) u:=by
   unfold shL;rw[List.take_add_one,hx,List.foldl_append];rfl
  rw[e1];exact zt7 hn hh hne x0 x5 _ _ _ s b e u _ (by omega)) (x10,x11,x12,x13)
 refine⟨y10,y11,y12,y13,?_⟩;rw[List.take_length]at lp;simp only[List.take_zero]at lp;rw[show shL s hd b e [] l=l from rfl]at lp;unfold shB;generalize shC=B at *;generalize (σ.set n (.dic (kvI l)))=σ1 at *;generalize hT:D.tup (t.ts.map Ti.D)=TT at *;have sk:yf0 TT σ1=.ok (.seq (t.ts.map Ti.D)) σ1:=by rw[<-hT];rfl
 simp[sk,lp]
theorem zmu(p:Po)(hp:∀ t∈p.st,t.ts.length<=6)(hp2:p.st.length<=20)(b e:Int)(hs:p.sn.length<=60)(hd0:σ[n]?=some (.dic (kvI p.sn))) :
  f__law_shows [.tup [.int p.s,.lst (p.st.map St.D),.ref n],.ref h,.int b,.int e] σ=.ok .non (σ.set n (.dic (kvI (shL p.s hd b e (p.st.flatMap (·.ts)) p.sn)))):=by
 have e0:σ.set n (.dic (kvI p.sn))=σ:=by
  apply List.ext_getElem?;intro j;rw[List.getElem?_set];split
  ·next hj=>rw[<-hj,hd0]
  ·rfl
 have hfl:∀ (ts:List St),(∀ t∈ts,t.ts.length<=6)->(ts.flatMap (·.ts)).length<=6 * ts.length:=by
  intro ts;induction ts with
  |nil=>intro _;simp
  |cons t ts ih=>
   intro ht;rw[List.flatMap_cons,List.length_append,List.length_cons];have h1:=ht t List.mem_cons_self;have h2:=ih fun x hx=>ht x (List.mem_cons_of_mem _ hx);omega
 obtain⟨⟨⟨y7,y8,y9⟩,y10,y11,y12,y13⟩,lp⟩:=yiq (tg:=tgT 3 (ybn (tgN 7) (ybn (tgN 8) (ybn (tgN 9) ygi)))) (body:=shB) (S:=.seq (p.st.map St.D)) p.st St.D (fun _ (c:(Option D × Option D × Option D) × Option D × Option D × Option D × Option D)=>[some (.tup [.int p.s,.lst (p.st.map St.D),.ref n]),some (.ref h),some (.int b),some (.int e),some (.int p.s),some (.lst (p.st.map St.D)),some (.ref n),c.1.1,c.1.2.1,c.1.2.2,c.2.1,c.2.2.1,c.2.2.2.1,c.2.2.2.2]) (fun i=>σ.set n (.dic (kvI (shL p.s hd b e ((p.st.take i).flatMap (·.ts)) p.sn)))) (by omega) (fun _ _=>rfl) (fun i t c hx=>by
  have htm:=hp t (List.mem_of_getElem? hx);have hlt:=zt4 p.s hd b e ((p.st.take i).flatMap (·.ts)) p.sn;have hlt2:=hfl (p.st.take i) fun t ht=>hp t (List.mem_of_mem_take ht);have hlt3:(p.st.take i).length<=p.st.length:=by rw[List.length_take];omega
  obtain⟨y10,y11,y12,y13,e1⟩:=zms hn hh hne (some (.tup [.int p.s,.lst (p.st.map St.D),.ref n])) (some (.lst (p.st.map St.D))) p.s b e t (shL p.s hd b e ((p.st.take i).flatMap (·.ts)) p.sn) (by omega) c.2.1 c.2.2.1 c.2.2.2.1 c.2.2.2.2;refine⟨[some (.tup [.int p.s,.lst (p.st.map St.D),.ref n]),some (.ref h),some (.int b),some (.int e),some (.int p.s),some (.lst (p.st.map St.D)),some (.ref n),some (.int t.n),some (.tup [.int t.a,.int t.b]),some (.tup (t.ts.map Ti.D)),c.2.1,c.2.2.1,c.2.2.2.1,c.2.2.2.2],((some (.int t.n),some (.tup [.int t.a,.int t.b]),some (.tup (t.ts.map Ti.D))),y10,y11,y12,y13),rfl,?_⟩;have e2:shL p.s hd b e ((p.st.take (i+1)).flatMap (·.ts)) p.sn=shL p.s hd b e t.ts (shL p.s hd b e ((p.st.take i).flatMap (·.ts)) p.sn):=by
   unfold shL;rw[List.take_add_one,hx,List.flatMap_append,List.foldl_append];simp
  rw[e2];exact e1) ((none,none,none),none,none,none,none)
 rw[List.take_length]at lp;simp only[List.take_zero,List.flatMap_nil]at lp;rw[show shL p.s hd b e [] p.sn=p.sn from rfl,e0]at lp;have ag:∀ (T:D) (x1 x2 x3 x4 x5 x6 x7 x8 x9 x10 x11 x12 x13:Option D) (SL R:D) σ,yhv (tgT 3 (ybn (tgN 4) (ybn (tgN 5) (ybn (tgN 6) ygi)))) [some T,x1,x2,x3,x4,x5,x6,x7,x8,x9,x10,x11,x12,x13] (.tup [.int p.s,SL,R]) σ=.ok (.nx [some T,x1,x2,x3,some (.int p.s),some SL,some R,x7,x8,x9,x10,x11,x12,x13]) σ:=fun _ _ _ _ _ _ _ _ _ _ _ _ _ _ _ _ _=>nr rfl;unfold shB shC at lp;unfold f__law_shows zcv;generalize hT:D.tup [.int p.s,.lst (p.st.map St.D),.ref n]=T at *;have ag':=fun x1 x2 x3 x4 x5 x6 x7 x8 x9 x10 x11 x12 x13 σ=>ag T x1 x2 x3 x4 x5 x6 x7 x8 x9 x10 x11 x12 x13 (.lst (p.st.map St.D)) (.ref n) σ;rw[hT]at ag';generalize (σ.set n (.dic (kvI (shL p.s hd b e (p.st.flatMap (·.ts)) p.sn))))=σ2 at *;generalize hS:D.lst (p.st.map St.D)=SL at *;have sk:∀ σ,yf0 SL σ=.ok (.seq (p.st.map St.D)) σ:=fun σ=>by rw[<-hS];rfl
 simp[ag',sk,lp]
end
structure ShR(s:Int)(hd:List Int)(b e:Int)(ts:List Ti)(l l':List (Int × Int)):Prop where
 old:∀ w x,val l w=some x->val l' w=some x
 new:∀ w y,val l w=none->val l' w=some y->y=b/\inW hd w=true
 cov:∀ u∈ts,u.p≠s->inW hd u.w=true->b<u.d->u.d<=b+e->(val l' u.w).isSome=true
theorem zt6(s:Int)(hd:List Int)(b e:Int)(l:List (Int × Int))(u:Ti):ShR s hd b e [u] l (shT s hd b e l u):=by
 unfold shT;split
 ·next h=>
  simp only[Bool.and_eq_true,Bool.not_eq_true',decide_eq_true_eq]at h;have hn:val l u.w=none:=by
   have:=h.2.2.1;cases e:val l u.w with
   |none=>rfl
   |some x=>rw[e]at this;cases this
  have vp:=fun y w'=>zu4 hn y w';refine⟨fun w x hx=>?_,fun w y hx hy=>?_,fun u' hu' _ _ _ _=>?_⟩
  ·rw[vp];split
   ·next e=>rw[e,hn]at hx;cases hx
   ·exact hx
  ·rw[vp]at hy;split at hy
   ·next e=>cases hy;rw[e];exact⟨rfl,h.2.1⟩
   ·rw[hx]at hy;cases hy
  ·have:u'=u:=by simpa using hu'
   rw[this,vp,if_pos rfl];rfl
 ·next h=>
  refine⟨fun _ _ h=>h,fun w y h h2=>(by rw[h]at h2;cases h2),fun u' hu' h1 h2 h3 h4=>?_⟩;have:u'=u:=by simpa using hu'
  subst this;cases hv:(val l u'.w).isSome with
  |true=>rfl
  |false=>
   exfalso
   apply h;have e1:(u'.p == s)=false:=by simpa using h1
   simp only[e1,h2,hv,Bool.not_false,Bool.true_and,Bool.and_eq_true,decide_eq_true_eq];exact⟨h3,h4⟩
theorem yf5(s:Int)(hd:List Int)(b e:Int):∀ (ts:List Ti) (l:List (Int × Int)),ShR s hd b e ts l (shL s hd b e ts l)
 |[],l=>⟨fun _ _ h=>h,fun w y h h2=>(by rw[show shL s hd b e [] l=l from rfl,h]at h2;cases h2),fun u hu=>by cases hu⟩
 |u::ts,l=>by
  have h1:=zt6 s hd b e l u;have h2:=yf5 s hd b e ts (shT s hd b e l u);rw[show shL s hd b e (u::ts) l=shL s hd b e ts (shT s hd b e l u)from rfl];refine⟨fun w x h=>h2.old w x (h1.old w x h),fun w y h hy=>?_,fun u' hu' a1 a2 a3 a4=>?_⟩
  ·cases e1:val (shT s hd b e l u) w with
   |none=>exact h2.new w y e1 hy
   |some z=>
    have:=h2.old w z e1;rw[hy]at this;cases this;exact h1.new w y h e1
  ·rcases List.mem_cons.mp hu' with rfl|h
   ·have:=h1.cov u' (by simp) a1 a2 a3 a4;obtain⟨x,hx⟩:=Option.isSome_iff_exists.mp this;rw[h2.old _ _ hx];rfl
   ·exact h2.cov u' h a1 a2 a3 a4
def upP(hd:List Int)(b e:Int)(p:Po):Po:=⟨p.s,p.st,shL p.s hd b e (p.st.flatMap (·.ts)) p.sn⟩
def UP(hd:List Int)(b e:Int)(P:List Po)(i:Nat):List Po:=P.mapIdx fun j p=>if j<i then upP hd b e p else p
theorem ych(hd:List Int)(b e:Int)(P:List Po)(i j:Nat):(UP hd b e P i)[j]?=P[j]?.map fun p=>if j<i then upP hd b e p else p:=by unfold UP;rw[List.getElem?_mapIdx]
theorem yhn(hd:List Int)(b e:Int)(P:List Po):UP hd b e P 0=P:=by
 apply List.ext_getElem?;intro j;rw[ych];cases P[j]?<;>simp
theorem zvk(hd:List Int)(b e:Int)(P:List Po):UP hd b e P P.length=P.map (upP hd b e):=by
 apply List.ext_getElem?;intro j;rw[ych,List.getElem?_map];cases h:P[j]? with
 |none=>rfl
 |some p=>
  have:=(List.getElem?_eq_some_iff.mp h).1;simp[this]
theorem zvl(hd:List Int)(b e:Int)(P:List Po)(i:Nat):rws (UP hd b e P i)=rws P:=yaw fun j=>by
 rw[ych];cases P[j]? with
 |none=>rfl
 |some p=>simp only[Option.map_some];split<;>rfl
noncomputable abbrev scB:Ev->M Fl:=(ykk (eFn 4 f__law_shows [] (yci (yij 15) (yci (yij 10) (yci (yij 6) (yci (yij 1) yhr))))))
theorem yaz(P:List Po)(h3:P.length<=3)(hp:∀ p∈P,(∀ t∈p.st,t.ts.length<=6)/\p.st.length<=20/\p.sn.length<=60)(hd:List Int)(b e:Int)(x0 x2 x3 x4 x5 x8 x9 x11 x12 x13 x14 x15:Option D):∃ y15,
  ykm (yk0 (yij 7)) (tgN 15) scB [x0,some (.int e),x2,x3,x4,x5,some (.int b),some (.ref 0),x8,x9,some (.ref (1+P.length)),x11,x12,x13,x14,x15] (LS P++[.lst (hd.map D.int)])=.ok (.nx [x0,some (.int e),x2,x3,x4,x5,some (.int b),some (.ref 0),x8,x9,some (.ref (1+P.length)),x11,x12,x13,x14,y15]) (LS (P.map (upP hd b e))++[.lst (hd.map D.int)]):=by
 obtain⟨y15,lp⟩:=yiq (tg:=tgN 15) (body:=scB) (S:=.lref 0) P.zipIdx (fun q=>row q.2 q.1) (fun _ (c:Option D)=>[x0,some (.int e),x2,x3,x4,x5,some (.int b),some (.ref 0),x8,x9,some (.ref (1+P.length)),x11,x12,x13,x14,c]) (fun i=>LS (UP hd b e P i)++[.lst (hd.map D.int)]) (by simp;omega) (fun i _=>by
   show (yej (LS (UP hd b e P i)++[.lst (hd.map D.int)]) 0).map (fun xs:List D=>xs[i]?)=_;rw[yg4,zvl];rfl) (fun i q c hx=>by
  rw[List.getElem?_zipIdx]at hx;cases ep:P[i]? with
  |none=>rw[ep]at hx;cases hx
  |some p=>
   rw[ep]at hx;have hx:=Option.some.inj hx;rw[Nat.zero_add]at hx;subst hx;obtain⟨g1,g2,g3⟩:=hp p (List.mem_of_getElem? ep);have hi:=(List.getElem?_eq_some_iff.mp ep).1;have eU:(UP hd b e P i)[i]?=some p:=by rw[ych,ep];simp
   have lenU:(UP hd b e P i).length=P.length:=by unfold UP;simp
   have hn:1+i<(LS (UP hd b e P i)++[Ob.lst (hd.map D.int)]).length:=by rw[List.length_append,zve,lenU];simp;omega
   have hh:yej (LS (UP hd b e P i)++[Ob.lst (hd.map D.int)]) (1+P.length)=some (hd.map D.int):=by
    have:=zgw (σ:=LS (UP hd b e P i)) (hd.map D.int);rw[zve,lenU]at this;exact this
   have sh:=zmu hn hh (by omega) p g1 g2 b e g3 (yg5 eU _);rw[zvf (P':=UP hd b e P (i+1)) (fun j=>by
    rw[ych,ych];by_cases hj:j=i
    ·subst hj;rw[if_pos rfl,ep];simp[upP]
    ·rw[if_neg hj];cases P[j]? with
     |none=>rfl
     |some p'=>
      simp only[Option.map_some];by_cases h1:j<i
      ·rw[if_pos h1,if_pos (by omega)]
      ·rw[if_neg h1,if_neg (by omega)]) (by rw[lenU];exact hi)]at sh
   refine⟨[x0,some (.int e),x2,x3,x4,x5,some (.int b),some (.ref 0),x8,x9,some (.ref (1+P.length)),x11,x12,x13,x14,some (row i p)],some (row i p),rfl,?_⟩;rw[show D.tup [.int p.s,.lst (p.st.map St.D),.ref (1+i)]=row i p from rfl]at sh;unfold scB;generalize row i p=RW at *;generalize (LS (UP hd b e P i)++[Ob.lst (hd.map D.int)])=σ1 at *;generalize (LS (UP hd b e P (i+1))++[Ob.lst (hd.map D.int)])=σ2 at *;simp[sh]) x15
 refine⟨y15,?_⟩;rw[List.length_zipIdx,zvk]at lp;simp only[yhn]at lp;have sk:yf0 (.ref 0) (LS P++[.lst (hd.map D.int)])=.ok (.lref 0) (LS P++[.lst (hd.map D.int)]):=rfl;generalize scB=B at *;generalize (LS P++[Ob.lst (hd.map D.int)])=σ1 at *;simp[sk,lp]
theorem zh5(e k:Int)(hd:List Int)(P:List Po)(h3:P.length<=3)(σ:Sto)(hσ:σ=LS P++[.lst (hd.map D.int)]):f_View___init__ [.ref σ.length,.int e,.int k,.ref (1+P.length),.ref 0] (σ++[.ins 0 []])=.ok .non (σ++[.ins 0 [("every",.int e),("last_look",.int k),("known",.lst (hd.map D.int)),("pots",.lst (P.map Po.D))]]):=by
 have pu:=fun(f:Str) (w:D) (fs:List (Str × D)) (hl:fs.length<1000)=>zhi (ρ:=[some (.ref σ.length),some (.int e),some (.int k),some (.ref (1+P.length)),some (.ref 0)]) (σ:=σ) (cs:=[0]) (f:=f) (d:=w) (c:=0) (fs:=fs) rfl hl;have fl:∀ (xs:List D) (σ:Sto),clL xs=true->yir σ (ye7 [.lst xs] σ)=.ok (.lst xs) σ:=fun xs σ h=>by
  rw[show ye7 [.lst xs] σ=.ok (.ref σ.length) (σ++[.lst xs])from nr rfl];exact zp2 h
 have hw:clL (hd.map D.int)=true:=zom fun _=>by simp
 have hlst:∀ j:Sto,yej (σ++j) (1+P.length)=some (hd.map D.int):=fun j=>by
  have h1:=zgw (σ:=LS P) (hd.map D.int);rw[zve]at h1;rw[hσ];exact zgv h1
 have f2:∀ j:Sto,yir (σ++j) (ye7 [.ref (1+P.length)] (σ++j))=.ok (.lst (hd.map D.int)) (σ++j):=fun j=>by
  rw[show ye7 [.ref (1+P.length)] (σ++j)=.ok (.ref (σ++j).length) (σ++j++[.lst (hd.map D.int)]) by
   unfold ye7;dsimp only;rw[show yf1 (σ++j) (.ref (1+P.length))=some (hd.map D.int)from hlst j];rfl]
  exact zp2 hw
 have l:=lcS (xs:=P.zipIdx) (ix:=[]) (nx:=.lref 0) (ρ:=[some (.ref σ.length),some (.int e),some (.int k),some (.ref (1+P.length)),some (.ref 0)]) (σ:=σ++[.ins 0 [("every",.int e),("last_look",.int k),("known",.lst (hd.map D.int))]]) (src:=yk0 (yij 4)) (fi:=ycl) (fe:=yii (yci (yid oIx (yij 0) (eC (.int 0))) (yci (yie (yc6 ye7 (yci (yid oIx (yij 0) (eC (.int 1))) yhr))) (yci (yc6 yjj (yci (yid oIx (yij 0) (eC (.int 2))) yhr)) yhr))))
  (fun q=>row q.2 q.1) (fun _=>true) (fun q=>q.1.D) (by
   have:yf0 (.ref 0) (σ++[.ins 0 [("every",.int e),("last_look",.int k),("known",.lst (hd.map D.int))]])=.ok (.lref 0) (σ++[.ins 0 [("every",.int e),("last_look",.int k),("known",.lst (hd.map D.int))]]):=by rw[hσ];rfl
   simp[this]) (fun i j=>by rw[hσ];rfl) (by simp;omega) (fun q hq j=>⟨rfl,fun _=>by
   obtain⟨i,hi⟩:=List.getElem?_of_mem hq;rw[List.getElem?_zipIdx]at hi;cases ep:P[i]? with
   |none=>rw[ep]at hi;cases hi
   |some p=>
    rw[ep]at hi;have hi:=Option.some.inj hi;rw[Nat.zero_add]at hi;subst hi;dsimp only;have dc:yjj [.ref (1+i)] (σ++[.ins 0 [("every",.int e),("last_look",.int k),("known",.lst (hd.map D.int))]]++j)=.ok (shD p.sn) (σ++[.ins 0 [("every",.int e),("last_look",.int k),("known",.lst (hd.map D.int))]]++j):=ykc (by
     rw[hσ,List.append_assoc,List.append_assoc];exact yg5 ep _)
    have hs:clL (p.st.map St.D)=true:=zom fun _=>by simp
    have f1:=fun σ=>fl (p.st.map St.D) σ hs;unfold row Po.D;generalize p.st.map St.D=SL at *;generalize shD p.sn=SN at *;generalize (σ++[.ins 0 [("every",.int e),("last_look",.int k),("known",.lst (hd.map D.int))]]++j)=σ1 at *;simp[dc,f1]⟩) (fun q _=>by simp)
 rw[show P.zipIdx.filter (fun _=>true)=P.zipIdx from List.filter_eq_self.mpr fun _ _=>rfl,show (P.zipIdx.map fun q=>q.1.D)=P.map Po.D by
  rw[show (fun q:Po × Nat=>q.1.D)=Po.D ∘ Prod.fst from rfl,<-List.map_map,List.zipIdx_map_fst]]at l
 have p1:yj1 "every" (.int e) ([]:List (Str × D))=([("every",.int e)]:List (Str × D)):=rfl;have p2:∀ a b:D,yj1 "last_look" b ([("every",a)]:List (Str × D))=([("every",a),("last_look",b)]:List (Str × D)):=fun _ _=>rfl;have p3:∀ a b c:D,yj1 "known" c ([("every",a),("last_look",b)]:List (Str × D))=([("every",a),("last_look",b),("known",c)]:List (Str × D)):=fun _ _ _=>rfl;have p4:∀ a b c d:D,yj1 "pots" d ([("every",a),("last_look",b),("known",c)]:List (Str × D))=([("every",a),("last_look",b),("known",c),("pots",d)]:List (Str × D)):=fun _ _ _ _=>rfl;have f3:=f2 [.ins 0 [("every",.int e),("last_look",.int k)]];unfold f_View___init__ zaw;generalize P.map Po.D=PS at *;generalize hd.map D.int=WS at *;generalize D.int e=E at *;generalize D.int k=K at *;generalize D.ref (1+P.length)=RH at *;have g1:∀ ρ σ,yie (yc6 ye7 (yci (yij 3) yhr)) ρ σ=yir σ (yc6 ye7 (yci (yij 3) yhr) ρ σ):=fun _ _=>rfl;simp[pu,p1,p2,p3,p4,f3,l,g1,-zo9]
theorem zh6(e k:Int)(hd:List Int)(P:List Po)(h3:P.length<=3)(σ:Sto)(hσ:σ=LS P++[.lst (hd.map D.int)]):yir σ (yep 0 5 f_View___init__ [.int e,.int k,.ref (1+P.length),.ref 0] σ)=.ok (Vw.O ⟨e,k,hd,P⟩) σ:=by
 have hw:clL (hd.map D.int)=true:=zom fun _=>by simp
 have hp:clL (P.map Po.D)=true:=zom fun _=>by simp
 rw[zk7 (n:=5) rfl,zh5 e k hd P h3 σ hσ,zlg,zjz (by simp[hw,hp])];rfl
theorem zfj:∀ {ns ns':List Nat} {a a':Nat},yg0 ns a->Pr (fun n n'=>n'<=n) ns ns'->a'<=a->yg0 ns' a'
 |[],[],a,a',h,_,ha=>Nat.le_trans ha h
 |n::ns,n'::ns',a,a',h,hp,ha=>⟨Nat.le_trans ha h.1,zfj h.2 hp.2 (Nat.mul_le_mul ha hp.1)⟩
 |[],_::_,_,_,_,hp,_=>hp.elim
 |_::_,[],_,_,_,hp,_=>hp.elim
theorem yab(c:Int)(i:Nat):poN c i<=2+(if i=0 then 7 else 0):=by
 unfold poN;by_cases hi:i=0
 ·subst hi;rw[if_pos rfl];split<;>split<;>(try split)<;>omega
 ·have:((i:Int) == 0)=false:=by simp;omega
  rw[this,if_neg hi];simp only[Bool.false_and,Bool.false_eq_true,if_false];split<;>(try split)<;>omega
theorem zl3(c k:Int)(i:Nat):(yj0 c k i).st.length<=(if i=0 then 10 else 3):=by
 have:=yab c i;show (_::ptL c k 0 (poN c i):List St).length<=_;unfold ptL;simp;split<;>simp_all<;>omega
theorem zu6(ns:List Int):(vwV ns).Few:=by
 unfold Vw.Few;have hn:(yct ns 1 % 4).toNat<=3:=by omega
 show yg0 (((List.range (yct ns 1 % 4).toNat).map fun(k:Nat)=>yj0 (yct ns (2+k)) (4+yct ns 0 / 6 % 60) k).map fun p=>p.st.length) 1;rw[List.map_map];generalize (yct ns 1 % 4).toNat=n at *;have h0:=zl3 (yct ns (2+0)) (4+yct ns 0 / 6 % 60) 0;have h1:=zl3 (yct ns (2+1)) (4+yct ns 0 / 6 % 60) 1;have h2:=zl3 (yct ns (2+2)) (4+yct ns 0 / 6 % 60) 2;simp only[if_true,Nat.one_ne_zero,if_false]at h0 h1;rw[if_neg (by omega)]at h2;have big:yg0 [10,3,3] 1:=by simp[yg0]
 have b2:yg0 [10,3] 1:=by simp[yg0]
 have b1:yg0 [10] 1:=by simp[yg0]
 have b0:yg0 [] 1:=by simp[yg0]
 have hc:n=0\/n=1\/n=2\/n=3:=by omega
 rcases hc with rfl|rfl|rfl|rfl
 ·exact b0
 ·exact zfj b1 ⟨h0,trivial⟩ (Nat.le_refl _)
 ·exact zfj b2 ⟨h0,h1,trivial⟩ (Nat.le_refl _)
 ·exact zfj big ⟨h0,h1,h2,trivial⟩ (Nat.le_refl _)
theorem zrm(l:List (Int × Int))(w v:Int):∀ p∈yj2 l w v,p.2=v\/p∈l:=by
 intro p hp;unfold yj2 at hp;split at hp
 ·obtain⟨q,hq,rfl⟩:=List.mem_map.mp hp;split
  ·exact .inl rfl
  ·exact .inr hq
 ·rcases List.mem_append.mp hp with h|h
  ·exact .inr h
  ·have:p=(w,v):=by simpa using h
   rw[this];exact .inl rfl
theorem zu3{l:List (Int × Int)}{w x:Int}(h:val l w=some x):∃ p∈l,p.2=x:=by
 unfold val at h;obtain⟨p,hp,e⟩:=Option.map_eq_some_iff.mp h;exact⟨p,List.mem_of_find?_eq_some hp,e⟩
theorem zue(M k:Int)(hk:0<=k)(hM:0<=M):∀ (m i:Nat) (l:List (Int × Int)),(∀ p∈l,p.2<=k)->∀ p∈snL M k m i l,p.2<=k
 |0,_,l,h=>h
 |m+1,i,l,h=>zue M k hk hM m (i+1) _ fun p hp=>by
  unfold snT at hp;split at hp
  ·rcases zrm _ _ _ p hp with e|e
   ·have:0<=M / 3 % 6:=by omega
    omega
   ·exact h p e
  ·exact h p hp
theorem zud(M k:Int):∀ (m i:Nat) (l:List (Int × Int)),(snL M k m i l).length<=l.length+m
 |0,_,l=>Nat.le_refl _
 |m+1,i,l=>by
  have h1:=zud M k m (i+1) (snT M k l i);have h2:(snT M k l i).length<=l.length+1:=by
   unfold snT;split
   ·exact zl7 ..
   ·omega
  show (snL M k m (i+1) (snT M k l i)).length<=_;omega
theorem ya2(c k:Int)(many:Bool):∀ (m i:Nat) (ts:List Ti),(∀ u∈ts,0<=u.a)->∀ u∈sdL c k many m i ts,0<=u.a
 |0,_,ts,h=>h
 |m+1,i,ts,h=>ya2 c k many m (i+1) _ fun u hu=>by
  unfold sdT at hu;split at hu
  ·rcases List.mem_append.mp hu with e|e
   ·exact h u e
   ·have:u=ylh (yjf (c / 4) i / 4) (sdW c many i) k:=by simpa using e
    rw[this];show 0<=amV _;unfold amV;split<;>omega
  ·exact h u hu
theorem zhg(c k kp:Int)(hk:0<=k):(∀ t∈(yj0 c k kp).st,∀ u∈t.ts,0<=u.a)/\(∀ p∈(yj0 c k kp).sn,p.2<=k)/\(yj0 c k kp).sn.length<=7:=by
 have st:∀ c n,∀ u∈(stV c n k).ts,0<=u.a:=fun c n=>ya2 c k _ _ 0 [] (fun u h=>by cases h);refine⟨fun t ht=>?_,zue _ k hk (zrs _ _) 7 0 [] (fun p h=>by cases h),?_⟩
 ·rcases List.mem_cons.mp ht with rfl|h
  ·exact st _ _
  ·unfold ptL at h;obtain⟨j,_,rfl⟩:=List.mem_map.mp h;exact st _ _
 ·have:=zud (yjf c 5) k 7 0 [];show (snL (yjf c 5) k 7 0 []).length<=7;simpa using this
theorem zvi{α β:Type}{R S:α->β->Prop}:∀ {xs:List α} {ys:List β},Pr R xs ys->(∀ x∈xs,∀ y∈ys,R x y->S x y)->Pr S xs ys
 |[],[],_,_=>trivial
 |x::xs,y::ys,h,k=>⟨k x List.mem_cons_self y List.mem_cons_self h.1,zvi h.2 fun a ha b hb=>k a (List.mem_cons_of_mem _ ha) b (List.mem_cons_of_mem _ hb)⟩
 |[],_::_,h,_=>h.elim
 |_::_,[],h,_=>h.elim
theorem zvh{α β:Type}{R:α->β->Prop}:∀ {xs:List α} {ys:List β},Pr R xs ys->xs.length=ys.length
 |[],[],_=>rfl
 |x::xs,y::ys,h=>by simp[zvh h.2]
 |[],_::_,h=>h.elim
 |_::_,[],h=>h.elim
theorem zia{α β:Type}{R:α->β->Prop}:∀ {xs:List α} {ys:List β},Pr R xs ys->∀ y∈ys,∃ x∈xs,R x y
 |[],[],_,y,h=>by cases h
 |x::xs,z::ys,h,y,hy=>by
  rcases List.mem_cons.mp hy with rfl|hy
  ·exact⟨x,List.mem_cons_self,h.1⟩
  ·obtain⟨a,ha,r⟩:=zia h.2 y hy;exact⟨a,List.mem_cons_of_mem _ ha,r⟩
 |[],_::_,h,_,_=>h.elim
 |_::_,[],h,_,_=>h.elim
theorem znr{α β γ:Type}{R:α->β->Prop}{S:α->γ->Prop}(f:β->γ)(k:∀ x y,R x y->S x (f y)):∀ {xs:List α} {ys:List β},Pr R xs ys->Pr S xs (ys.map f)
 |[],[],_=>trivial
 |x::xs,y::ys,h=>⟨k x y h.1,znr f k h.2⟩
 |[],_::_,h=>h.elim
 |_::_,[],h=>h.elim
theorem zns{α β:Type}{γ δ:Type}{R:α->β->Prop}{S:γ->δ->Prop}(g:α->γ)(f:β->δ)(k:∀ x y,R x y->S (g x) (f y)):∀ {xs:List α} {ys:List β},Pr R xs ys->Pr S (xs.map g) (ys.map f)
 |[],[],_=>trivial
 |x::xs,y::ys,h=>⟨k x y h.1,zns g f k h.2⟩
 |[],_::_,h=>h.elim
 |_::_,[],h=>h.elim
noncomputable abbrev lw1:Ev->M Fl:=(yki (eFn 1 f__law_view [] (yci (yij 0) yhr)) (tgT 4 (ybn (tgN 1) (ybn (tgN 2) (ybn (tgN 3) (ybn (tgN 4) ygi))))))
noncomputable abbrev lw2:Ev->M Fl:=(ykr 5 (eFn 1 f_worth [] (yci (yie (yc8 0 5 f_View___init__ (yci (yij 1) (yci (yij 2) (yci (yij 3) (yci (yij 4) yhr)))))) yhr)))
noncomputable abbrev lw3:Ev->M Fl:=(ykr 6 (yid yjg (yij 2) (yid yjr (eFn 2 f__law_cell_at [] (yci (yij 0) (yci (eC (.int 7)) yhr))) (yid yjg (yij 1) (eC (.int 1))))))
noncomputable abbrev lw4:Ev->M Fl:=(ykm (ykz (yc6 yjq (yci (yij 4) yhr))) (tgN 8) laB)
noncomputable abbrev lw5:Ev->M Fl:=(ykm (ykz (eC (.int 7))) (tgN 11) hdB)
noncomputable abbrev lw6:Ev->M Fl:=(ykm (yk0 (yij 7)) (tgN 15) scB)
noncomputable abbrev lw7:Ev->M Fl:=(ykp (yid oGe (eFn 1 f_worth [] (yci (yie (yc8 0 5 f_View___init__ (yci (yij 1) (yci (yij 6) (yci (yij 10) (yci (yij 7) yhr)))))) yhr)) (yij 5)))
theorem yeo:ydx=ykq lw1 (ykq lw2 (ykq lw3 (ykq (ykr 7 (yih yhr)) (ykq lw4 (ykq (ykr 10 (yc6 ye7 (yci (yij 3) yhr))) (ykq lw5 (ykq lw6 lw7))))))):=nr rfl
theorem law_true(ns:List Int)(hns:ns.length<=63):∃ σ,f_law [.scr ns] []=.ok (.bl true) σ:=by
 have hv:=ybz ns;have hf:=zu6 ns;have hk:(vwV ns).k=4+yct ns 0 / 6 % 60:=rfl;have he:(vwV ns).e=1+yct ns 0 % 6:=rfl;have hpm:∀ p∈(vwV ns).ps,(∀ t∈p.st,∀ u∈t.ts,0<=u.a)/\(∀ q∈p.sn,q.2<=(vwV ns).k)/\p.sn.length<=7:=fun p hp=>by
  obtain⟨j,_,rfl⟩:=List.mem_map.mp hp;exact zhg _ _ _ (by omega)
 have hwl:(vwV ns).ws.length<=7:=by
  show (((List.range 7).filter _).map _).length<=7;rw[List.length_map];exact Nat.le_trans (List.length_filter_le _ _) (by simp)
 have e1:=zu5 ns [];have e0:1<=(vwV ns).e:=by omega
 generalize vwV ns=v at *;have c7:∀ σ,f__law_cell_at [.scr ns,.int 7] σ=.ok (.int (yct ns 7)) σ:=fun σ=>zoi ns 7 (by omega) σ;obtain⟨b,hb,eb1,eb2⟩:∃ b,b=v.k+yct ns 7 % (v.e+1)/\v.k<=b/\b<=v.k+v.e:=⟨_,rfl,by
  have:=Int.emod_nonneg (yct ns 7) (show v.e+1≠0 by omega);omega,by
  have:=Int.emod_lt_of_pos (yct ns 7) (show 0<v.e+1 by omega);omega⟩
 have om:∀ σ,yjr (.int (yct ns 7)) (.int (v.e+1)) σ=.ok (.int (yct ns 7 % (v.e+1))) σ:=fun σ=>zr9 _ _ (by omega);have n3:=hv.n3;obtain⟨c1,b1,w1⟩:=znm v hv hf;have mk:=znk v hv [];obtain⟨P,y8,y9,hP,la⟩:=zq6 ns v.ps v.k b eb1 (fun p hp=>⟨(hv.sl p hp).1,by have:=(hpm p hp).2.2;omega⟩) n3 (some (.int v.e)) (some (.lst (v.ws.map D.int))) (some (.int (tot v c1))) none none none none none none v.ps 0 [] none none rfl rfl;rw[<-zhj,List.nil_append,show LS []=[.lst []]from rfl]at la;have rk:=fun σ=>ykf v.ps.length (by omega) σ;have lenP:P.length=v.ps.length:=(zvh hP).symm;have hPm:∀ p∈P,(∀ t∈p.st,t.Ok)/\p.st.length<=20/\1<=p.st.length/\p.sn.length<=14/\(p.s=0\/p.s=1):=fun p hp=>by
  obtain⟨q,hq,r⟩:=zia hP p hp;have h1:=hv.sl q hq;have h2:=(hpm q hq).2.2;have h3:=r.l2;have h4:=r.ln;exact⟨fun t ht=>hv.ok q hq t (r.st t ht),by omega,r.l1,by omega,by rw[r.s];exact hv.sd q hq⟩
 have hls:=zve P;obtain⟨y11,y12,y13,y14,hdl⟩:=zqn ns P (by omega) (LS P) rfl (some (.int v.e)) (some (.int v.k)) (some (.lst (v.ws.map D.int))) (some (.lst (v.ps.map Po.D))) (some (.int (tot v c1))) (some (.int b)) y8 y9 none 7 0 v.ws none none none none (by omega) (by omega);rw[<-zhj,hls]at hdl;have r7:∀ σ,yke (.int 7) σ=.ok (.seq (yao 7)) σ:=fun σ=>ykf 7 (by omega) σ;have hmono:∀ w,inW v.ws w=true->inW (hdL (yct ns 14) P 7 0 v.ws) w=true:=fun w h=>zkc _ _ 7 0 _ h;have hhas:∀ p∈P,∀ w,0<=w->w<=6->(val p.sn w).isSome=true->inW (hdL (yct ns 14) P 7 0 v.ws) w=true:=fun p hp w h1 h2 h3=>zqm _ _ hp 7 0 _ w (by omega) (by omega) h3;generalize hdL (yct ns 14) P 7 0 v.ws=hd at *;obtain⟨y15,sc⟩:=yaz P (by omega) (fun p hp=>by
  obtain⟨h1,h2,h3,h4,_⟩:=hPm p hp;exact⟨fun t ht=>(h1 t ht).len,h2,by omega⟩) hd b v.e (some (.scr ns)) (some (.int v.k)) (some (.lst (v.ws.map D.int))) (some (.lst (v.ps.map Po.D))) (some (.int (tot v c1))) y8 y9 y11 y12 y13 y14 none
 have hv2:(⟨v.e,b,hd,P.map (upP hd b v.e)⟩:Vw).Ok:=by
  refine⟨by simp;omega,fun p hp=>?_,fun p hp=>?_,fun p hp=>?_⟩;all_goals
   obtain⟨q,hq,rfl⟩:=List.mem_map.mp hp;obtain⟨h1,h2,h3,h4,h5⟩:=hPm q hq
  ·exact h5
  ·exact h1
  ·exact⟨h3,h2⟩
 have hf2:(⟨v.e,b,hd,P.map (upP hd b v.e)⟩:Vw).Few:=by
  unfold Vw.Few at hf ⊢;refine zfj hf ?_ (Nat.le_refl _);show Pr (fun n n'=>n'<=n) (v.ps.map fun p=>p.st.length) ((P.map (upP hd b v.e)).map fun p=>p.st.length);rw[List.map_map];exact zns (S:=fun n n':Nat=>n'<=n) (fun p:Po=>p.st.length) ((fun p:Po=>p.st.length) ∘ upP hd b v.e) (fun x y r=>r.l2) hP
 obtain⟨c2,b2,w2⟩:=znm _ hv2 hf2;have mk2:=zh6 v.e b hd (P.map (upP hd b v.e)) (by simp;omega) _ rfl;have lm:(P.map (upP hd b v.e)).length=P.length:=by simp
 rw[lm]at mk2;have le:=yhq (v1:=v) (v2:=⟨v.e,b,hd,P.map (upP hd b v.e)⟩) ⟨rfl,e0,eb1,eb2,hmono⟩ (znr (R:=fun p p'=>RA v.k b p p'/\(∀ q∈p.sn,q.2<=v.k)/\∀ w,0<=w->w<=6->(val p'.sn w).isSome=true->inW hd w=true) _ (fun p p' ⟨r,top,has⟩=>by
  have sh:=yf5 p'.s hd b v.e (p'.st.flatMap (·.ts)) p'.sn;have g:=r.sn;refine⟨r.s,r.st,fun w x h=>sh.old w x (g.old w x h),fun w y h1 h2=>?_,fun w y h=>?_,fun t ht u hu h1 h2 h3 h4=>?_⟩
  ·cases e:val p'.sn w with
   |none=>
    have:=sh.new w y e h2;exact⟨by rw[this.1];exact eb1,this.2⟩
   |some z=>
    have:=sh.old w z e;have h2':val (shL p'.s hd b v.e (p'.st.flatMap (·.ts)) p'.sn) w=some y:=h2;rw[h2']at this;cases this;have gn:=g.new w y h1 e;exact⟨gn.1,has w gn.2.2.1 gn.2.2.2 (by rw[e];rfl)⟩
  ·have h':val (shL p'.s hd b v.e (p'.st.flatMap (·.ts)) p'.sn) w=some y:=h;show y<=b;cases e:val p'.sn w with
   |none=>have:=(sh.new w y e h').1;omega
   |some z=>
    have:=sh.old w z e;rw[h']at this;cases this;cases e2:val p.sn w with
    |none=>exact(g.new w y e2 e).2.1
    |some z2=>
     have h5:=g.old w z2 e2;rw[e]at h5;cases h5;obtain⟨q,hq,hqe⟩:=zu3 e2;have:=top q hq;omega
  ·exact sh.cov u (List.mem_flatMap.mpr ⟨t,ht,hu⟩) h1 h2 h3 h4) (zvi hP fun p hp p' hp' r=>⟨r,(hpm p hp).2.1,fun w h1 h2 h3=>hhas p' hp' w h1 h2 h3⟩)) (fun p hp=>(hpm p hp).1) b1 b2
 generalize (⟨v.e,b,hd,P.map (upP hd b v.e)⟩:Vw)=v2 at *;have fin:decide (tot v c1<=tot v2 c2)=true:=by simpa using le
 have v0:yhv (tgT 4 (ybn (tgN 1) (ybn (tgN 2) (ybn (tgN 3) (ybn (tgN 4) ygi))))) [some (.scr ns),none,none,none,none,none,none,none,none,none,none,none,none,none,none,none] v.D []=.ok (.nx [some (.scr ns),some (.int v.e),some (.int v.k),some (.lst (v.ws.map D.int)),some (.lst (v.ps.map Po.D)),none,none,none,none,none,none,none,none,none,none,none]) []:=nr rfl;have mk1:∀ (r:List (Option D)),yie (yc8 0 5 f_View___init__ (yci (yij 1) (yci (yij 2) (yci (yij 3) (yci (yij 4) yhr))))) (some (.scr ns)::some (.int v.e)::some (.int v.k)::some (.lst (v.ws.map D.int))::some (.lst (v.ps.map Po.D))::r) []=.ok v.O []:=fun r=>by
  rw[<-mk];show yir [] _=_;congr 1
 have ln:∀ σ,yjq [.lst (v.ps.map Po.D)] σ=.ok (.int v.ps.length) σ:=fun σ=>by simp
 have ol:ye7 [.lst (v.ws.map D.int)] (LS P)=.ok (.ref (1+P.length)) (LS P++[.lst (v.ws.map D.int)]):=by
  rw[<-hls];rfl
 have mk3:∀ (x0 x2 x3 x4 x5 x8 x9 x11 x12 x13 x14 x15:Option D),yie (yc8 0 5 f_View___init__ (yci (yij 1) (yci (yij 6) (yci (yij 10) (yci (yij 7) yhr))))) [x0,some (.int v.e),x2,x3,x4,x5,some (.int b),some (.ref 0),x8,x9,some (.ref (1+P.length)),x11,x12,x13,x14,x15] (LS (P.map (upP hd b v.e))++[.lst (hd.map D.int)])=.ok v2.O (LS (P.map (upP hd b v.e))++[.lst (hd.map D.int)]):=fun x0 x2 x3 x4 x5 x8 x9 x11 x12 x13 x14 x15=>by
  rw[<-mk2];show yir _ _=yir _ _;congr 1
 refine⟨LS (P.map (upP hd b v.e))++[.lst (hd.map D.int)],?_⟩;unfold f_law;rw[yau,yeo];generalize hA:laB=A at *;generalize hB:hdB=B at *;generalize hC:ykm (yk0 (yij 7)) (tgN 15) scB=C at *;unfold lw1 lw2 lw3 lw4 lw5 lw7;rw[show lw6=C from hC];rw[hA,hB];generalize (LS (P.map (upP hd b v.e))++[.lst (hd.map D.int)])=σ3 at *;generalize (LS P++[.lst (hd.map D.int)])=σ2 at *;generalize (LS P++[.lst (v.ws.map D.int)])=σ1 at *;generalize LS P=σ0 at *;generalize D.lst (v.ws.map D.int)=WL at *;generalize D.lst (v.ps.map Po.D)=PL at *;generalize v.D=VD at *;generalize v.O=VO at *;generalize v2.O=VO2 at *;generalize yao v.ps.length=RG at *;generalize yao 7=RG7 at *;generalize (v.ps.length:Int)=NP at *;generalize D.ref (1+P.length)=RH at *;generalize yct ns 7=C7 at *;subst hb;simp[e1,v0,mk1,w1,c7,om,ln,rk,la,ol,r7,hdl,sc,mk3,w2,fin,-zo9]
end K34
open PySem PySem.W PyProof.Rows
set_option maxRecDepth 100000 in
set_option maxHeartbeats 0 in
theorem PySem.Challenge.cw_sidebook_k34_whole_a_look_loses_nothing_holds : PySem.Challenge.rw_sidebook_k34_whole_a_look_loses_nothing.Holds := by
 w_on;o_law;k_head;(case hw=>w_witness2)
 k_fill
 refine L4.ygo (l:=PySem.Challenge.rw_sidebook_k34_whole_a_look_loses_nothing) (k:=9) (x:="_law_script") (fn:=K34.f_law) ["least_fate", "paper"] rfl rfl ⟨rfl,by decide,by decide⟩ (fun w h Y=>km_in_of Y) ?hK ?hrec ?F K34.law_true;case hK=>intro w;kernel_rfl
 case hrec=>kernel_rfl
 case F=>
  intro w mg h KX G TT;have h__law_cell_at:L4.yb6 (L2.KOf KX) mg "_law_cell_at" (K34.top 22) ["_law_script", "_law_k"]:=by
   dsimp only[L2.KOf];refine' L4.mkF KX G K34.zau ?a ?l ?c ?k;(case a|l|c|k=>k_is)
  have h__law_mixed:L4.yb6 (L2.KOf KX) mg "_law_mixed" (K34.top 23) ["_law_cell", "_law_k"]:=by
   dsimp only[L2.KOf];refine' L4.mkF KX G K34.zbs ?a ?l ?c ?k;(case a|l|c|k=>k_is)
  have h__law_amount:L4.yb6 (L2.KOf KX) mg "_law_amount" (K34.top 24) ["_law_number"]:=by
   dsimp only[L2.KOf];refine' L4.mkF KX G K34.za7 ?a ?l ?c ?k;(case a|l|c|k=>k_is)
  have h__law_tie:L4.yb6 (L2.KOf KX) mg "_law_tie" (K34.top 25) ["_law_number", "_law_word", "_law_at"]:=by
   dsimp only[L2.KOf];refine' L4.mkF KX G K34.zdg ?a ?l ?c ?k;(case a|l|c|k=>k_is)
  have h__law_stand:L4.yb6 (L2.KOf KX) mg "_law_stand" (K34.top 26) ["_law_cell", "_law_number", "_law_at"]:=by
   dsimp only[L2.KOf];refine' L4.mkF KX G K34.zbu ?a ?l ?c ?k;(case a|l|c|k=>k_is)
  have h__law_pot:L4.yb6 (L2.KOf KX) mg "_law_pot" (K34.top 27) ["_law_cell", "_law_at", "_law_k_pot"]:=by
   dsimp only[L2.KOf];refine' L4.mkF KX G K34.zdf ?a ?l ?c ?k;(case a|l|c|k=>k_is)
  have h__law_view:L4.yb6 (L2.KOf KX) mg "_law_view" (K34.top 28) ["_law_script"]:=by
   dsimp only[L2.KOf];refine' L4.mkF KX G K34.zcp ?a ?l ?c ?k;(case a|l|c|k=>k_is)
  have h_shown_in_time:L4.yb6 (L2.KOf KX) mg "shown_in_time" (K34.top 1) ["tie", "shown"]:=by
   dsimp only[L2.KOf];refine' L4.mkF KX G K34.zak ?a ?l ?c ?k;(case a|l|c|k=>k_is)
  have h_lot_of_paid:L4.yb6 (L2.KOf KX) mg "lot_of_paid" (K34.top 5) ["view", "seen", "tie"]:=by
   dsimp only[L2.KOf];refine' L4.mkF KX G K34.zba ?a ?l ?c ?k;(case a|l|c|k=>k_is)
  have h_lot_of_due:L4.yb6 (L2.KOf KX) mg "lot_of_due" (K34.top 6) ["view", "seen", "tie"]:=by
   dsimp only[L2.KOf];refine' L4.mkF KX G K34.zbw ?a ?l ?c ?k;(case a|l|c|k=>k_is)
  have h_lot_of:L4.yb6 (L2.KOf KX) mg "lot_of" (K34.top 7) ["view", "pot", "tie"]:=by
   dsimp only[L2.KOf];refine' L4.mkF KX G K34.zfm ?a ?l ?c ?k;(case a|l|c|k=>k_is)
  have h_read_stand:L4.yb6 (L2.KOf KX) mg "read_stand" (K34.top 8) ["view", "pot", "one"]:=by
   dsimp only[L2.KOf];refine' L4.mkF KX G K34.zbx ?a ?l ?c ?k;(case a|l|c|k=>k_is)
  have h_read_pots:L4.yb6 (L2.KOf KX) mg "read_pots" (K34.top 9) ["view"]:=by
   dsimp only[L2.KOf];refine' L4.mkF KX G K34.zcq ?a ?l ?c ?k;(case a|l|c|k=>k_is)
  have h_all_choices:L4.yb6 (L2.KOf KX) mg "all_choices" (K34.top 10) ["readings"]:=by
   dsimp only[L2.KOf];refine' L4.mkF KX G K34.za8 ?a ?l ?c ?k;(case a|l|c|k=>k_is)
  have h_lots_by_word:L4.yb6 (L2.KOf KX) mg "lots_by_word" (K34.top 12) ["reads"]:=by
   dsimp only[L2.KOf];refine' L4.mkF KX G K34.zav ?a ?l ?c ?k;(case a|l|c|k=>k_is)
  have h_fates_of:L4.yb6 (L2.KOf KX) mg "fates_of" (K34.top 13) ["lots"]:=by
   dsimp only[L2.KOf];refine' L4.mkF KX G K34.zdh ?a ?l ?c ?k;(case a|l|c|k=>k_is)
  have h_comes_by_fate:L4.yb6 (L2.KOf KX) mg "comes_by_fate" (K34.top 14) ["lot", "fate", "every"]:=by
   dsimp only[L2.KOf];refine' L4.mkF KX G K34.zaj ?a ?l ?c ?k;(case a|l|c|k=>k_is)
  have h_sum_by_fate:L4.yb6 (L2.KOf KX) mg "sum_by_fate" (K34.top 15) ["lots", "fate", "every"]:=by
   dsimp only[L2.KOf];refine' L4.mkF KX G K34.zbb ?a ?l ?c ?k;(case a|l|c|k=>k_is)
  have h_least_fate:L4.yb6 (L2.KOf KX) mg "least_fate" (K34.top 16) ["lots", "every"]:=by
   dsimp only[L2.KOf];refine' L4.mkF KX G K34.zbv ?a ?l ?c ?k;(case a|l|c|k=>k_is)
  have h_sum_of:L4.yb6 (L2.KOf KX) mg "sum_of" (K34.top 17) ["reads", "by_word", "fates", "every"]:=by
   dsimp only[L2.KOf];refine' L4.mkF KX G K34.zfn ?a ?l ?c ?k;(case a|l|c|k=>k_is)
  have h_least_paper:L4.yb6 (L2.KOf KX) mg "least_paper" (K34.top 18) ["reads", "chosen", "every"]:=by
   dsimp only[L2.KOf];refine' L4.mkF KX G K34.za9 ?a ?l ?c ?k;(case a|l|c|k=>k_is)
  have h_chosen_readings:L4.yb6 (L2.KOf KX) mg "chosen_readings" (K34.top 11) ["readings", "chosen"]:=by
   dsimp only[L2.KOf];refine' L4.mkF KX G K34.zaa ?a ?l ?c ?k;(case a|l|c|k=>k_is)
  have h_paper:L4.yb6 (L2.KOf KX) mg "paper" (K34.top 19) ["view"]:=by
   dsimp only[L2.KOf];refine' L4.mkF KX G K34.zif ?a ?l ?c ?k;(case a|l|c|k=>k_is)
  have h_worth:L4.yb6 (L2.KOf KX) mg "worth" (K34.top 20) ["view"]:=by
   dsimp only[L2.KOf];refine' L4.mkF KX G K34.zig ?a ?l ?c ?k;(case a|l|c|k=>k_is)
  have h__law_seen_more:L4.yb6 (L2.KOf KX) mg "_law_seen_more" (K34.top 29) ["_law_pot_here", "_law_cell", "_law_at", "_law_late"]:=by
   dsimp only[L2.KOf];refine' L4.mkF KX G K34.zad ?a ?l ?c ?k;(case a|l|c|k=>k_is)
  have h__law_fewer:L4.yb6 (L2.KOf KX) mg "_law_fewer" (K34.top 31) ["_law_pot_here", "_law_cell"]:=by
   dsimp only[L2.KOf];refine' L4.mkF KX G K34.zbr ?a ?l ?c ?k;(case a|l|c|k=>k_is)
  have h__law_shows:L4.yb6 (L2.KOf KX) mg "_law_shows" (K34.top 30) ["_law_pot_here", "_law_words", "_law_late", "_law_every"]:=by
   dsimp only[L2.KOf];refine' L4.mkF KX G K34.zbt ?a ?l ?c ?k;(case a|l|c|k=>k_is)
  have h_law:L4.yb6 (L2.KOf KX) mg "law" (K34.top 32) ["_law_script"]:=by
   dsimp only[L2.KOf];refine' L4.mkF KX G K34.zvr ?a ?l ?c ?k;(case a|l|c|k=>k_is)
  have n_dict:mg "dict" = none:=by
   refine' mg_none_of KX G ?a;(case a=>k_is)
  have n_int:mg "int" = none:=by
   refine' mg_none_of KX G ?a;(case a=>k_is)
  have n_len:mg "len" = none:=by
   refine' mg_none_of KX G ?a;(case a=>k_is)
  have n_list:mg "list" = none:=by
   refine' mg_none_of KX G ?a;(case a=>k_is)
  have n_max:mg "max" = none:=by
   refine' mg_none_of KX G ?a;(case a=>k_is)
  have n_min:mg "min" = none:=by
   refine' mg_none_of KX G ?a;(case a=>k_is)
  have n_range:mg "range" = none:=by
   refine' mg_none_of KX G ?a;(case a=>k_is)
  have n_sum:mg "sum" = none:=by
   refine' mg_none_of KX G ?a;(case a=>k_is)
  have n_tuple:mg "tuple" = none:=by
   refine' mg_none_of KX G ?a;(case a=>k_is)
  have n_zip:mg "zip" = none:=by
   refine' mg_none_of KX G ?a;(case a=>k_is)
  have c_FIRM:L4.GlT (L2.KOf KX) mg "FIRM" ["won", "sure", "back"]:=by
   dsimp only[L2.KOf];refine' L4.mkT KX G ?a ?b;(case a=>k_is);(case b=>kernel_rfl)
  refine' (have q0:nsIn (L2.KOf KX) mainGlobals "View" = some (some (.ref ?C0)):=?p0;?_);(case p0=>dsimp only[L2.KOf];first|k_is|k_exc|rfl);refine' (have q1:findIn (L2.KOf KX) (.ref ?C0) "__init__" = some (some (.ref ?C1)):=?p1;?_);(case p1=>dsimp only[L2.KOf];first|k_is|k_exc|rfl);refine' (have q2:L4.HasM (L2.KOf KX) ?C0 "__init__" "View.__init__" (L4.yeu (K34.top 4) 0) ["self", "every", "look", "words", "pots"] ?C1:=?p2;?_);(case p2=>dsimp only[L2.KOf];refine' L4.mkM K34.zai ?l ?c ?k;(case l|c|k=>k_is));refine' (have q3:L2.Cls (L2.KOf KX) ?C0:=?p3;?_);(case p3=>dsimp only[L2.KOf];refine' ⟨?a,?b,?c,?d⟩;(case a|b|c|d=>k_is));refine' (have q4:L2.zvg (L2.KOf KX) ?C0 "pots":=?p4;?_);(case p4=>dsimp only[L2.KOf];first|k_is|k_exc|rfl);refine' (have q5:L2.zvg (L2.KOf KX) ?C0 "last_look":=?p5;?_);(case p5=>dsimp only[L2.KOf];first|k_is|k_exc|rfl);refine' (have q6:L2.zvg (L2.KOf KX) ?C0 "known":=?p6;?_);(case p6=>dsimp only[L2.KOf];first|k_is|k_exc|rfl);refine' (have q7:L2.zvg (L2.KOf KX) ?C0 "every":=?p7;?_);(case p7=>dsimp only[L2.KOf];first|k_is|k_exc|rfl);refine' (have q8:L2.Mk (L2.KOf KX) ?C0 ?C1:=?p8;?_);(case p8=>dsimp only[L2.KOf];refine' ⟨?a,?b,?c,?d⟩;(case a|b|c|d=>k_is));refine⟨fun n=>([?C0,?C1]:List Addr).getD n 0,(K34.tx (L2.KOf KX)).tbs,K34.ygg _,?_⟩;have tj:∀ t∈(K34.tx (L2.KOf KX)).tbs,∀ t'∈(K34.tx (L2.KOf KX)).tbs,t'.P=t.P->t'=t:=by
   dsimp only[L2.KOf];refine' L4.ygj ?a;(case a=>kernel_rfl)
  exact K34.zzg ⟨h__law_cell_at,h__law_mixed,h__law_amount,h__law_tie,h__law_stand,h__law_pot,h__law_view,h_shown_in_time,h_lot_of_paid,h_lot_of_due,h_lot_of,h_read_stand,h_read_pots,h_all_choices,h_lots_by_word,h_fates_of,h_comes_by_fate,h_sum_by_fate,L4.mkC KX G h_least_fate TT (by decide),h_sum_of,h_least_paper,h_chosen_readings,L4.mkC KX G h_paper TT (by decide),h_worth,q2,h__law_seen_more,h__law_fewer,h__law_shows,h_law,n_dict,n_int,n_len,n_list,n_max,n_min,n_range,n_sum,n_tuple,n_zip,c_FIRM,q3,q4,q5,q6,q7,mg_of KX G q0,q8,TT,mg_of KX G TT.bm,tj⟩
