import PyProof.Rows.All
import Wide.All
import OpenK.AllK
import Wide.FinOn
import Lean
import PyProof.EqAt
import PyProof.EqKinds
import PyProof.TupleCall
import PyProof.NeKinds
import PyProof.NsDelKeeps
import KE.KTryMore
import PyProof.WalksMore
import PyProof.Rows.SetFrom
import KE.KEqDict
import PyProof.ToksMono
import PyProof.StrCalls6
import PyProof.StrBlock2
import PyProof.SliceStr2
import PyProof.StrLawsTight
import PyProof.InstStoreFacts
import PyProof.Rows.FStr
import PyProof.FactsAll.set
import KE.KDictLaws
import KE.KIntText
import PyProof.Rows.StrWeight2
import PyProof.StrWalks
import PyProof.StrBlockH
import PyProof.WalksEnum
import PyProof.ZipIter
import PyProof.EnumMake
import PyProof.FitsReplace
import PyProof.StrLawsIn
import PyProof.Rows.SortWalk
import PyProof.DictUpdate
import KE.KDictList
import KE.KDictSum
import KE.KPairComp
import PyProof.FactsAll.dict
import KE.KMinKey
import KE.KLam
import PySem.Challenge.RW_sidebook_k31_the_least_of_all
set_option Elab.async false
set_option linter.all false
set_option maxRecDepth 100000
def PySem.W.Fast.tw4210012326171782584:Nat:=0
def PySem.W.Fast.tw1137016790846474141:Nat:=0
def PySem.W.Fast.tw9993035969245258653:Nat:=0
def PySem.W.Fast.tw8913024139548874150:Nat:=0
def PySem.W.Fast.tw7841209417995050515:Nat:=0
def PySem.W.Fast.tw18289744554865377408:Nat:=0
def PySem.W.Fast.tw13114880520277674708:Nat:=0
def PySem.W.Fast.tw12485905635504820025:Nat:=0
def PySem.W.Fast.tw2000507176098479777:Nat:=0
def PySem.W.Fast.tw17131039622103697651:Nat:=0
namespace L2
open PySem PySem.Spec PyProof.Rows
abbrev Key:=Sum Int Str
def yd6:Key->Value->Bool
 | .inl k,v=>Value.isInt k v
 | .inr x,v=>Value.isStrOf x v
def yi8(w:World):Key->Int
 | .inl k=>hashInt k
 | .inr x=>hashStr w x
theorem zdr:∀ {k:Key} {v:Value},yd6 k v=true->(∃ i t,k=Sum.inl i/\v=Value.int i t)\/(∃ x t,k=Sum.inr x/\v=Value.str x t)
 | .inl i,v,h=>by
  obtain⟨t,e⟩:=Value.isInt_shape (k:=i) (v:=v) h;exact .inl ⟨i,t,rfl,e⟩
 | .inr x,v,h=>by
  obtain⟨t,e⟩:=Value.isStrOf_shape (x:=x) (v:=v) h;exact .inr ⟨x,t,rfl,e⟩
theorem zgx(i:Int)(t:Tok):yd6 (.inl i) (.int i t)=true:=by simp[yd6,Value.isInt]
theorem zgy(x:Str)(t:Tok):yd6 (.inr x) (.str x t)=true:=by simp[yd6,Value.isStrOf]
theorem zye(a b:Int):decide ((Sum.inl a:Key)=Sum.inl b)=(a == b):=by
 by_cases e:a=b
 ·subst e;simp
 ·have h:¬ (Sum.inl a:Key)=Sum.inl b:=fun q=>e (Sum.inl.inj q);rw[decide_eq_false h];exact(beq_eq_false_iff_ne.mpr e).symm
theorem zyi(a b:Str):decide ((Sum.inr a:Key)=Sum.inr b)=decide (a=b):=by
 by_cases e:a=b
 ·subst e;simp
 ·have h:¬ (Sum.inr a:Key)=Sum.inr b:=fun q=>e (Sum.inr.inj q);rw[decide_eq_false h,decide_eq_false e]
theorem zyf(a:Int)(b:Str):decide ((Sum.inl a:Key)=Sum.inr b)=false:=decide_eq_false (fun q=>nomatch q)
theorem zyh(a:Str)(b:Int):decide ((Sum.inr a:Key)=Sum.inl b)=false:=decide_eq_false (fun q=>nomatch q)
def zrz(prog:Program)(w:World):PySem.KeyKind prog w Key where
 is:=yd6
 hash:=yi8 w
 inj:=fun v a b ha hb=>by
  rcases zdr ha with⟨i,t,rfl,rfl⟩|⟨x,t,rfl,rfl⟩
  ·rcases zdr hb with⟨j,u,rfl,e⟩|⟨y,u,rfl,e⟩
   ·injection e with e1 _;rw[e1]
   ·exact nomatch e
  ·rcases zdr hb with⟨j,u,rfl,e⟩|⟨y,u,rfl,e⟩
   ·exact nomatch e
   ·injection e with e1 _;rw[e1]
 byValue:=fun k v h=>by
  rcases zdr h with⟨i,t,rfl,rfl⟩|⟨x,t,rfl,rfl⟩<;>rfl
 pyHash:=fun hv h=>by
  rcases zdr hv with⟨i,t,rfl,rfl⟩|⟨x,t,rfl,rfl⟩
  ·exact wpAny_pyHash_int h
  ·exact wpAny_pyHash_str h
 eqBool:=fun hu hv h=>by
  rcases zdr hu with⟨i,t,rfl,rfl⟩|⟨x,t,rfl,rfl⟩
  ·rcases zdr hv with⟨j,u,rfl,rfl⟩|⟨y,u,rfl,rfl⟩
   ·rw[zye]at h;exact wpAny_eqBool_int h
   ·rw[zyf]at h;exact SeqAt.EqAt.int_str i t y u _ _ _ _ h
  ·rcases zdr hv with⟨j,u,rfl,rfl⟩|⟨y,u,rfl,rfl⟩
   ·rw[zyh]at h;exact SeqAt.EqAt.str_int x t j u _ _ _ _ h
   ·rw[zyi]at h;exact wpAny_eqBool_str h
 «strs»:=fun k x t v h=>by
  rcases zdr h with⟨i,u,rfl,e⟩|⟨y,u,rfl,e⟩
  ·exact nomatch e
  ·injection e with e1 _;subst e1;cases v<;>rfl
theorem zdw(prog:Program)(w:World)(i:Int)(t:Tok):(zrz prog w).is (.inl i) (.int i t)=true:=zgx i t
theorem zdx(prog:Program)(w:World)(x:Str)(t:Tok):(zrz prog w).is (.inr x) (.str x t)=true:=zgy x t
end L2
namespace L2
open PySem PySem.Spec PyProof.Rows
inductive V where
 |non|bl (b:Bool)|int (i:Int)|str (x:Str)|byt (b:Array UInt8)|flt (b:UInt64)|ref (a:Addr)|ty (n:String)
 deriving DecidableEq
def yhf:V->Value->Prop
 | .non,u=>u=Value.none
 | .bl b,u=>u=Value.bool b
 | .int i,u=>∃ t,u=Value.int i t
 | .str x,u=>∃ t,u=Value.str x t
 | .byt b,u=>∃ t,u=Value.bytes b t
 | .flt b,u=>∃ t,u=Value.float b t
 | .ref a,u=>u=Value.ref a
 | .ty n,u=>u=Value.type n
abbrev yho:List V->List Value->Prop:=Paired yhf
theorem yho.length{xs:List V}{us:List Value}(r:yho xs us):xs.length=us.length:=Paired.length r
theorem yho.get:∀ {xs:List V} {us:List Value} {i:Nat} {x:V},yho xs us->xs[i]?=some x->∃ u,us[i]?=some u/\yhf x u
 |_,_,_,_,.nil,e=>by simp at e
 |_,_,0,_,.cons r _,e=>by simp at e;subst e;exact⟨_,rfl,r⟩
 |_,_,i+1,x,.cons _ t,e=>by
  obtain⟨u,h1,h2⟩:=yho.get (i:=i) (x:=x) t (by simpa using e);exact⟨u,by simpa using h1,h2⟩
theorem yho.set{x:V}{u:Value}(r:yhf x u):∀ {xs:List V} {us:List Value} (i:Nat),yho xs us->yho (xs.set i x) (us.set i u)
 |_,_,_,.nil=>.nil
 |_,_,0,.cons _ t=>.cons r t
 |_,_,i+1,.cons q t=>.cons q (yho.set r i t)
theorem yho.append:∀ {xs ys:List V} {us ws:List Value},yho xs us->yho ys ws->yho (xs++ys) (us++ws)
 |_,_,_,_,.nil,s=>s
 |_,_,_,_,.cons r t,s=>.cons r (yho.append t s)
theorem yho.take:∀ {xs:List V} {us:List Value} (n:Nat),yho xs us->yho (xs.take n) (us.take n)
 |_,_,0,_=>.nil
 |_,_,_+1,.nil=>.nil
 |_,_,n+1,.cons r t=>.cons r (yho.take n t)
theorem yho.drop:∀ {xs:List V} {us:List Value} (n:Nat),yho xs us->yho (xs.drop n) (us.drop n)
 |_,_,0,r=>r
 |_,_,_+1,.nil=>.nil
 |_,_,n+1,.cons _ t=>yho.drop n t
def yhe:Option V->Option Value->Prop
 |some v,some u=>yhf v u
 |none,none=>True
 |_,_=>False
def KV{κ:Type}:List (κ × V)->List (κ × Value)->Prop:=Paired fun(p:κ × V) (q:κ × Value)=>p.1=q.1/\yhf p.2 q.2
def kV:Key->V
 | .inl i=>.int i
 | .inr x=>.str x
inductive HO where
 |lst (xs:List V)
 |tup (xs:List V)
 |dK (kvs:List (Key × V))|dT (kvs:List (List Key × V))
 |set (S:Int->Bool) (n:Nat)
 |ins (C dx:Addr) (fs:List (Str × V))
 |own (x:Addr)
 |xd (fs:List (Str × V))
 |met (f x:Addr)
 |rng (lo hi:Int)
 |frz (o:Obj) (u:HO)
 |tbl (ps:Array Value)
 |ext (φ:Heap->Prop)
abbrev Hp:=Addr->Option HO
def upd(H:Hp)(a:Addr)(o:HO):Hp:=fun b=>if b=a then some o else H b
theorem znp{H:Hp}{a:Addr}{o:HO}:upd H a o a=some o:=by unfold upd;rw[if_pos rfl]
theorem ybq{H:Hp}{a b:Addr}{o:HO}(h:b≠a):upd H a o b=H b:=by unfold upd;rw[if_neg h]
theorem yes{H:Hp}{a b:Addr}{o u:HO}(h:H a=some o)(h':H b=some u)(d:o≠u):a≠b:=by
 intro e;subst e;rw[h]at h';exact d (Option.some.inj h')
theorem ze6{H:Hp}{a b:Addr}{o:HO}(h:H a=some o)(h':H b=none):a≠b:=by
 intro e;subst e;rw[h]at h';cases h'
section
variable(P:Program)(w:World)
def yb3(H:Hp)(h:Heap)(a:Addr):HO->Prop
 | .lst xs=>xs.length<=sizeLine/\∃ (its:List Value) (n:Nat),yho xs its/\h.get? a=some { cls:=.type "list",data:=.seq its.toArray n }
 | .tup xs=>xs.length<=sizeLine/\∃ its:List Value,yho xs its/\IsTup h a its.toArray
 | .dK kvs=>kvs.length<=sizeLine/\(a == sysModules)=false/\∃ vs,KV kvs vs/\h.DictOf (zrz P w) a vs
 | .dT kvs=>kvs.length<=sizeLine/\(a == sysModules)=false/\∃ xs:List (List Key × Addr × Value),
   Paired (fun(p:List Key × V) (q:List Key × Addr × Value)=>p.1=q.1/\H q.2.1=some (.tup (p.1.map kV))/\yhf p.2 q.2.2) kvs xs/\
   ∃ o es ep,h.get? a=some o/\o.ExactDict/\o.data=.dict es ep/\es.toList=xs.map (entryOfKey (tupleKind (zrz P w)))/\(xs.map (·.1)).Nodup
 | .set S n=>h.SetOf (intKind P w) a S n
 | .ins C dx fs=>H dx=some (.own a)/\fs.length<=1000/\dx≠a/\h.get? a=some (PySem.W.instObj C dx)/\
   ∃ mA,h.Ns1 dx mA/\(∀ f,yhe (fs.lookup f) (mA f))/\PySem.Within mA (fs.map (·.1))
 | .own _=>∃ o,h.get? a=some o
 | .xd fs=>∃ mA,h.Ns1 a mA/\∀ f,yhe (fs.lookup f) (mA f)
 | .rng lo hi=>∃ t u v,h.get? a=some { cls:=.type "range",data:=.fields #[.int lo t,.int hi u,.int 1 v] }
 | .frz o u=>h.get? a=some o/\yb3 H h a u
 | .tbl ps=>h.get? a=some { cls:=.none,data:=.fields ps }
 | .met f x=>h.get? a=some (PySem.W.methodObj (.ref f) (.ref x))
 | .ext φ=>φ h/\(∃ o,h.get? a=some o)/\∀ h1 h2:Heap,φ h1->(∀ o,h1.get? a=some o->h2.get? a=some o)->φ h2
def HOk(H:Hp)(h:Heap):Prop:=∀ a o,H a=some o->yb3 P w H h a o
end
section
variable{P:Program}{w:World}{H H':Hp}{h h':Heap}{a:Addr}{o:HO}
theorem yb3.lt(x:yb3 P w H h a o):a<h.objs.size:=by
 cases o with
 |lst xs=>obtain⟨_,_,_,_,e⟩:=x;exact Heap.lt_size e
 |tup xs=>obtain⟨_,_,_,p⟩:=x;exact p.lt
 |dK kvs=>obtain⟨_,_,_,_,o,_,_,e,_⟩:=x;exact Heap.lt_size e
 |dT kvs=>obtain⟨_,_,_,_,o,_,_,e,_⟩:=x;exact Heap.lt_size e
 |set S n=>obtain⟨o,_,_,_,e,_⟩:=x;exact Heap.lt_size e
 |ins C dx fs=>obtain⟨_,_,_,e,_⟩:=x;exact Heap.lt_size e
 |own y=>obtain⟨_,e⟩:=x;exact Heap.lt_size e
 |xd fs=>obtain⟨_,⟨_,_,_,e,_⟩,_⟩:=x;exact Heap.lt_size e
 |rng lo hi=>obtain⟨_,_,_,e⟩:=x;exact Heap.lt_size e
 |frz ob u=>obtain⟨e,_⟩:=x;exact Heap.lt_size e
 |tbl ps=>exact Heap.lt_size (show h.get? a=some _ from x)
 |met f y=>exact Heap.lt_size (show h.get? a=some _ from x)
 |ext φ=>obtain⟨_,⟨_,e⟩,_⟩:=x;exact Heap.lt_size e
theorem Paired.mapP{α β:Type}{F G:α->β->Prop}:∀ {l₁:List α} {l₂:List β},Paired F l₁ l₂->(∀ a b,F a b->G a b)->Paired G l₁ l₂
 |_,_,.nil,_=>.nil
 |_,_,.cons r t,f=>.cons (f _ _ r) (Paired.mapP t f)
theorem yb3.stay(x:yb3 P w H h a o)(k:∀ b u,(b=a\/H b=some (.own a))->h.get? b=some u->h'.get? b=some u)
  (ho:∀ b,H b=some (.own a)->H' b=some (.own a)) (ht:∀ b xs,H b=some (.tup xs)->H' b=some (.tup xs)):yb3 P w H' h' a o:=by
 induction o with
 |lst xs=>obtain⟨z,its,n,r,e⟩:=x;exact⟨z,its,n,r,k _ _ (.inl rfl) e⟩
 |tup xs=>obtain⟨z,its,r,ob,e,c⟩:=x;exact⟨z,its,r,ob,k _ _ (.inl rfl) e,c⟩
 |dK kvs=>obtain⟨z,y,vs,r,ob,es,ep,e,c⟩:=x;exact⟨z,y,vs,r,ob,es,ep,k _ _ (.inl rfl) e,c⟩
 |dT kvs=>
  obtain⟨z,y,xs,r,ob,es,ep,e,c⟩:=x;exact⟨z,y,xs,Paired.mapP r fun p q z=>⟨z.1,ht _ _ z.2.1,z.2.2⟩,ob,es,ep,k _ _ (.inl rfl) e,c⟩
 |set S n=>obtain⟨ob,es,ep,t,e,c⟩:=x;exact⟨ob,es,ep,t,k _ _ (.inl rfl) e,c⟩
 |ins C dx fs=>
  obtain⟨d,z,ne,e,mA,⟨od,es,ep,e2,c⟩,r⟩:=x;exact⟨ho _ d,z,ne,k _ _ (.inl rfl) e,mA,⟨od,es,ep,k _ _ (.inr d) e2,c⟩,r⟩
 |own y=>obtain⟨ob,e⟩:=x;exact⟨ob,k _ _ (.inl rfl) e⟩
 |xd fs=>obtain⟨mA,⟨od,es,ep,e,c⟩,r⟩:=x;exact⟨mA,⟨od,es,ep,k _ _ (.inl rfl) e,c⟩,r⟩
 |rng lo hi=>obtain⟨t,u,v,e⟩:=x;exact⟨t,u,v,k _ _ (.inl rfl) e⟩
 |frz ob u ih=>obtain⟨e,q⟩:=x;exact⟨k _ _ (.inl rfl) e,ih q⟩
 |tbl ps=>
  have e:h.get? a=some { cls:=.none,data:=.fields ps }:=x;show h'.get? a=some { cls:=.none,data:=.fields ps };exact k a _ (.inl rfl) e
 |met f y=>
  have e:h.get? a=some (PySem.W.methodObj (.ref f) (.ref y)):=x;show h'.get? a=some (PySem.W.methodObj (.ref f) (.ref y));exact k a _ (.inl rfl) e
 |ext φ=>obtain⟨p,⟨o,e⟩,st⟩:=x;exact⟨st _ _ p fun o q=>k _ _ (.inl rfl) q,⟨o,k _ _ (.inl rfl) e⟩,st⟩
theorem HOk.lt(x:HOk P w H h)(e:H a=some o):a<h.objs.size:=(x a o e).lt
theorem HOk.fresh(x:HOk P w H h)(e:h.objs.size<=a):H a=none:=by
 cases q:H a with
 |none=>rfl
 |some u=>exact absurd (Nat.lt_of_lt_of_le (x.lt q) e) (Nat.lt_irrefl _)
theorem HOk.kept(x:HOk P w H h)(k:∀ b u,h.get? b=some u->h'.get? b=some u):HOk P w H h':=fun a o e=>
 (x a o e).stay (fun b u _ q=>k b u q) (fun _ q=>q) fun _ _ q=>q
theorem HOk.laid(x:HOk P w H h)(k:∀ b u,h.get? b=some u->h'.get? b=some u)(hp:h.objs.size<=a)(new:yb3 P w (upd H a o) h' a o):HOk P w (upd H a o) h':=fun b u e=>by
 have hn:=x.fresh hp;by_cases hb:b=a
 ·subst hb;rw[znp]at e;cases e;exact new
 ·rw[ybq hb]at e;exact(x b u e).stay (fun c v _ q=>k c v q) (fun c q=>by rw[ybq (ze6 q hn)];exact q) fun c xs q=>by rw[ybq (ze6 q hn)];exact q
end
def Rd(H:Hp)(a:Addr)(u:HO):Prop:=H a=some u\/∃ o,H a=some (.frz o u)
theorem Rd.of{H:Hp}{a:Addr}{u:HO}(h:H a=some u):Rd H a u:=.inl h
theorem Rd.ok{P:Program}{w:World}{H:Hp}{h:Heap}{a:Addr}{u:HO}(r:Rd H a u)(x:HOk P w H h):yb3 P w H h a u:=by
 rcases r with r|⟨o,r⟩
 ·exact x a u r
 ·obtain⟨_,q⟩:=x a _ r;exact q
def Mut:Option HO->Prop
 |some (.lst _)=>True
 |some (.dK _)=>True
 |some (.dT _)=>True
 |some (.set _ _)=>True
 |some (.ins _ _ _)=>True
 |some (.ext _)=>True
 |_=>False
section
variable{P:Program}{w:World}{H:Hp}{h h':Heap}{x e:Addr}{o':HO}
theorem HOk.write(ok:HOk P w H h)(mu:Mut (H x))(he:e=x\/H e=some (.own x))(k:∀ b u,b≠e->h.get? b=some u->h'.get? b=some u)(heo:∃ u,h'.get? e=some u)
  (new:yb3 P w (upd H x o') h' x o'):HOk P w (upd H x o') h':=fun b u q=>by
 have nown:∀ c y,H c=some (.own y)->c≠x:=fun c y r z=>by subst z;rw[r]at mu;exact mu
 have ntup:∀ c xs,H c=some (.tup xs)->c≠x:=fun c xs r z=>by subst z;rw[r]at mu;exact mu
 by_cases hb:b=x
 ·subst hb;rw[znp]at q;cases q;exact new
 ·rw[ybq hb]at q;by_cases hbe:b=e
  ·have q':H b=some (.own x):=by
    rcases he with z|z
    ·exact absurd (hbe.trans z) hb
    ·rw[hbe];exact z
   rw[q]at q';cases q';obtain⟨v,hv⟩:=heo;exact⟨v,by rw[hbe];exact hv⟩
  ·refine(ok b u q).stay (fun c v hc r=>k c v ?_ r) (fun c r=>by rw[ybq (nown c b r)];exact r) fun c xs r=>by rw[ybq (ntup c xs r)];exact r
   rcases hc with rfl|hc
   ·exact hbe
   ·rintro rfl;rcases he with z|z
    ·exact nown c b hc z
    ·rw[hc]at z;cases z;exact hb rfl
end
structure Un(fs ex:List Addr)(H H':Hp)(h h':Heap):Prop where
 keep:∀ b o,h.get? b=some o->H b=none->b ∉ fs->b ∉ ex->h'.get? b=some o
 slot:∀ b o,h.get? b=some o->H b=none->b∈fs->b ∉ ex->∃ sl,h'.get? b=some { o with slots:=sl }
 free:∀ b o,h.get? b=some o->H b=none->b ∉ ex->H' b=none
 there:∀ b o,h.get? b=some o->b ∉ ex->∃ o',h'.get? b=some o'
 tups:∀ b xs,H b=some (.tup xs)->H' b=some (.tup xs)
 frzs:∀ b o u,H b=some (.frz o u)->H' b=some (.frz o u)
 tbls:∀ b ps,H b=some (.tbl ps)->∃ more,H' b=some (.tbl (ps++more))
section
variable{fs fs' ex ex':List Addr}{H H1 H2:Hp}{h h1 h2 h':Heap}{a x e:Addr}{o:HO}
theorem Un.any(u:Un fs ex H H1 h h1){b:Addr}{ob:Obj}(q:h.get? b=some ob)(n:H b=none)(hx:b ∉ ex):∃ sl,h1.get? b=some { ob with slots:=sl }:=by
 by_cases hb:b∈fs
 ·exact u.slot b ob q n hb hx
 ·exact⟨ob.slots,u.keep b ob q n hb hx⟩
theorem Un.trans(a:Un fs ex H H1 h h1)(b:Un fs ex H1 H2 h1 h2):Un fs ex H H2 h h2 where
 keep:=fun c ob q n hc hx=>b.keep c ob (a.keep c ob q n hc hx) (a.free c ob q n hx) hc hx
 slot:=fun c ob q n hc hx=>by
  obtain⟨sl,e1⟩:=a.slot c ob q n hc hx;obtain⟨sl',e2⟩:=b.slot c _ e1 (a.free c ob q n hx) hc hx;exact⟨sl',e2⟩
 free:=fun c ob q n hx=>by
  obtain⟨o',e1⟩:=a.there c ob q hx;exact b.free c o' e1 (a.free c ob q n hx) hx
 there:=fun c ob q hx=>by
  obtain⟨o',e1⟩:=a.there c ob q hx;exact b.there c o' e1 hx
 tups:=fun c xs q=>b.tups c xs (a.tups c xs q)
 frzs:=fun c ob xs q=>b.frzs c ob xs (a.frzs c ob xs q)
 tbls:=fun c ps q=>by
  obtain⟨m1,e1⟩:=a.tbls c ps q;obtain⟨m2,e2⟩:=b.tbls c _ e1;exact⟨m1++m2,by rw[e2,Array.append_assoc]⟩
theorem Un.kept(k:∀ b u,h.get? b=some u->h'.get? b=some u):Un fs ex H H h h':=
 ⟨fun b ob q _ _ _=>k b ob q,fun b ob q _ _ _=>⟨ob.slots,k b ob q⟩,fun _ _ _ n _=>n,fun b ob q _=>⟨ob,k b ob q⟩,fun _ _ q=>q,fun _ _ _ q=>q,fun _ ps q=>⟨#[],by rw[q];simp⟩⟩
theorem Un.refl:Un fs ex H H h h:=Un.kept fun _ _ q=>q
theorem Un.laid(k:∀ b u,h.get? b=some u->h'.get? b=some u)(hp:h.objs.size<=a)(hn:H a=none):Un fs ex H (upd H a o) h h' where
 keep:=fun b u q _ _ _=>k b u q
 slot:=fun b u q _ _ _=>⟨u.slots,k b u q⟩
 free:=fun b u q n _=>by rw[ybq (Nat.ne_of_lt (Nat.lt_of_lt_of_le (Heap.lt_size q) hp))];exact n
 there:=fun b u q _=>⟨u,k b u q⟩
 tups:=fun b xs q=>by rw[ybq (ze6 q hn)];exact q
 frzs:=fun b u xs q=>by rw[ybq (ze6 q hn)];exact q
 tbls:=fun b ps q=>⟨#[],by rw[ybq (ze6 q hn),q];simp⟩
theorem Un.write(mu:Mut (H x))(he:e=x\/H e=some (.own x))(k:∀ b u,b≠e->h.get? b=some u->h'.get? b=some u)(heo:∃ u,h'.get? e=some u):Un fs ex H (upd H x o) h h':=by
 have hx:∀ b,H b=none->b≠x:=fun b n z=>by subst z;rw[n]at mu;exact mu
 have hb:∀ b,H b=none->b≠e:=fun b n z=>by
  subst z;rcases he with r|r
  ·exact hx b n r
  ·rw[n]at r;cases r
 have hm:∀ b u,H b=some u->¬ Mut (some u)->b≠x:=fun b u q nm z=>by subst z;rw[q]at mu;exact nm mu
 refine⟨fun b u q n _ _=>k b u (hb b n) q,fun b u q n _ _=>⟨u.slots,k b u (hb b n) q⟩,fun b u q n _=>by rw[ybq (hx b n)];exact n,fun b u q _=>?_,
  fun b xs q=>by rw[ybq (hm b _ q fun z=>z)];exact q,fun b u xs q=>by rw[ybq (hm b _ q fun z=>z)];exact q,fun b ps q=>⟨#[],by rw[ybq (hm b _ q fun z=>z),q];simp⟩⟩
 by_cases hbe:b=e
 ·subst hbe;exact heo
 ·exact⟨u,k b u hbe q⟩
theorem Un.mono(u:Un fs ex H H1 h h1)(hs:∀ b∈fs,b∈fs')(hx:∀ b∈ex,b∈ex'):Un fs' ex' H H1 h h1:=
 ⟨fun b ob q n hb he=>u.keep b ob q n (fun z=>hb (hs b z)) fun z=>he (hx b z),fun _ _ q n _ he=>u.any q n fun z=>he (hx _ z),fun b ob q n he=>u.free b ob q n fun z=>he (hx b z),fun b ob q he=>u.there b ob q fun z=>he (hx b z),u.tups,u.frzs,u.tbls⟩
end
def trk(h:Heap)(H:Hp):List Addr:=(List.range h.objs.size).filter fun a=>(H a).isSome
def yi0(h:Heap)(H:Hp):Heap:=PySem.W.hideAll h (trk h H)
theorem zgr(h:Heap)(H:Hp):(yi0 h H).objs.size=h.objs.size:=PySem.W.hideAll_size _ _
theorem zkr{h:Heap}{H:Hp}{b:Addr}{o:Obj}(e:h.get? b=some o)(n:H b=none):(yi0 h H).get? b=some o:=
 PySem.W.hideAll_get _ e fun hm=>by
  have q:(H b).isSome=true:=(List.mem_filter.mp hm).2;rw[n]at q;simp at q
theorem zso{h:Heap}{H:Hp}{b:Addr}{o:Obj}(e:(yi0 h H).get? b=some o):h.get? b=some o/\H b=none:=by
 have e':h.get? b=some o:=PySem.W.of_hideAll (trk h H) e;refine⟨e',?_⟩;cases q:H b with
 |none=>rfl
 |some x=>
  have hm:b∈trk h H:=List.mem_filter.mpr ⟨List.mem_range.mpr (Heap.lt_size e'),by simp[q]⟩;have z:(yi0 h H).get? b=none:=PySem.W.hideAll_none (trk h H) hm;rw[z]at e;cases e
def zn4(g h:Heap)(L:Addr):List (Addr × Obj):=(List.range h.objs.size).filterMap fun a=>if a=L\/(g.get? a).isSome=true then none else (h.get? a).map fun o=>(a,o)
def rest(g h:Heap)(L d:Addr):List (Addr × Obj):=(zn4 g h L).filter fun p=>decide (p.1≠d)
end L2
namespace L2
open PySem PySem.Spec PyProof.Rows
structure Mod(K:PySem.W.Frag)(mg:Str->Option Value)(base:Heap):Prop where
 kin:K.In base
 glob:base.Ns mainGlobals mg
 blt:∃ mb,base.Ns builtinsNs mb/\∀ x:Str,x ≠ "__name__"->mb x=bootBuiltins x
 nolimit:base.NoLimit
structure Cx where
 prog:Program
 w:World
 K:PySem.W.Frag
 mg:Str->Option Value
 base:Heap
 A:Around
 N:List Str
 s₀:Shared
 H₀:Hp
 env:Env
 outer:List Env
 stack:List Env
 ex:List Addr
 fn:Str->Bool
 calm:Bool
 pn:List (Addr × Obj)
 xe:Value->Shared->Prop
def frs(l:List Env):List Addr:=l.filterMap (·.frame)
abbrev Cx.fs(X:Cx):List Addr:=frs X.outer
def Vis(sc:Scope)(x:Str):Prop:=sc.names.lookup x=some .local\/sc.names.lookup x=some .cell\/sc.names.lookup x=some .free
def Loc(sc:Scope)(x:Str):Prop:=sc.names.lookup x=some .local\/sc.names.lookup x=some .cell
def yg7(env:Env)(h:Heap)(m:Str->Option Value)(x:Str)(u:Value):Prop:=
 (env.kindOf x=some .local/\m x=some u)\/((env.kindOf x=some .cell\/env.kindOf x=some .free)/\∃ c,env.cells.lookup x=some c/\h.IsCell c (some u))
structure Cx.Ok(X:Cx):Prop where
 mod:Mod X.K X.mg X.base
 kind:X.env.scope.kind=.function
 glob:X.env.globals=mainGlobals
 blt:X.env.builtins=builtinsNs
 above:X.s₀.heap.objs.size<=X.env.locals
 inj:∀ x y c,X.env.cells.lookup x=some c->X.env.cells.lookup y=some c->x=y
 has:∀ x,(X.env.kindOf x=some .cell\/X.env.kindOf x=some .free)->∃ c,X.env.cells.lookup x=some c
 cab:∀ x c,X.fn x=true->X.env.cells.lookup x=some c->X.s₀.heap.objs.size<=c
 hd:X.calm=true->X.A.handled=none
 frames:X.A.frames=some X.stack
 stk:X.stack=X.outer\/(X.stack=X.env::X.outer/\X.env.frame=some X.env.locals)
 exf:∀ b∈X.ex,b≠X.env.locals/\∀ x c,X.env.cells.lookup x=some c->c≠b
 bs:∀ b o,X.base.get? b=some o->X.s₀.heap.get? b=some o/\X.H₀ b=none
 bsz:X.base.objs.size<=X.s₀.heap.objs.size
 noex:∀ b o,X.base.get? b=some o->b ∉ X.ex
 exfs:∀ b∈X.ex,b ∉ X.fs
 funs:X.s₀.heap.FunFrames X.base X.outer
 frf:∀ b∈X.fs,X.H₀ b=none
structure Inv(X:Cx)(pins:List (Addr × Obj))(σ:List (Option V))(H:Hp)(s:Shared):Prop where
 ok:X.Ok
 os:s.os=X.s₀.os
 bare:AllBare s.gens
 base:Un X.fs X.ex X.H₀ H X.s₀.heap s.heap
 loc:∃ m,s.heap.Ns X.env.locals m/\∀ (i:Nat) (x:Str) (v:V),X.N[i]?=some x->σ[i]?=some (some v)->Vis X.env.scope x->∃ u,yhf v u/\yg7 X.env s.heap m x u
 cell:∀ x c,X.env.cells.lookup x=some c->∃ v,s.heap.IsCell c v
 free:H X.env.locals=none
 freeC:∀ x c,X.env.cells.lookup x=some c->H c=none
 pin:∀ p∈X.pn++pins,s.heap.get? p.1=some p.2/\H p.1=none/\p.1≠X.env.locals/\p.1 ∉ X.fs/\∀ v,p.2.data≠.cell v
 hok:HOk X.prog X.w H s.heap
 len:σ.length=X.N.length
section
variable{X:Cx}{pins:List (Addr × Obj)}{σ:List (Option V)}{H H':Hp}{s:Shared}{h':Heap}
theorem Cx.Ok.nofr(ok:X.Ok){b:Addr}{o:Obj}(e:X.base.get? b=some o):b ∉ X.fs:=fun hb=>by
 have:=(ok.funs.mem hb).1;rw[e]at this;cases this
theorem Inv.bs(I:Inv X pins σ H s):∀ b o,X.base.get? b=some o->s.heap.get? b=some o/\H b=none:=fun b o e=>
 ⟨I.base.keep b o (I.ok.bs b o e).1 (I.ok.bs b o e).2 (I.ok.nofr e) (I.ok.noex b o e),I.base.free b o (I.ok.bs b o e).1 (I.ok.bs b o e).2 (I.ok.noex b o e)⟩
theorem Inv.bk(I:Inv X pins σ H s):∀ b o,X.base.get? b=some o->s.heap.get? b=some o:=fun b o e=>(I.bs b o e).1
theorem Inv.mod(I:Inv X pins σ H s):Mod X.K X.mg X.base:=I.ok.mod
theorem Inv.kIn(I:Inv X pins σ H s):X.K.In s.heap:=I.ok.mod.kin.keeps I.bk
theorem Inv.nolimit(I:Inv X pins σ H s):s.heap.NoLimit:=I.ok.mod.nolimit.keeps I.bk
theorem Inv.fr(I:Inv X pins σ H s):∃ m,Fr X.base X.env.locals s.heap m:=
 let ⟨m,hn,_⟩:=I.loc
 ⟨m,hn,I.bk,Nat.le_trans I.ok.bsz I.ok.above⟩
theorem Inv.lt(I:Inv X pins σ H s):X.env.locals<s.heap.objs.size:=let ⟨_,hn,_⟩:=I.loc;hn.lt
theorem Inv.sz(I:Inv X pins σ H s):X.s₀.heap.objs.size<=s.heap.objs.size:=Nat.le_trans I.ok.above (Nat.le_of_lt I.lt)
theorem Inv.nofs(I:Inv X pins σ H s){a:Addr}(h:s.heap.objs.size<=a):a ∉ X.fs:=fun hb=>by
 obtain⟨_,o,ho,_⟩:=I.ok.funs.mem hb;exact absurd (Nat.lt_of_lt_of_le (Heap.lt_size ho) (Nat.le_trans I.sz h)) (Nat.lt_irrefl _)
theorem Inv.cne(I:Inv X pins σ H s):∀ x c,X.env.cells.lookup x=some c->c≠X.env.locals:=fun x c e z=>by
 obtain⟨v,o,ho,hd⟩:=I.cell x c e;obtain⟨m,⟨o',es,ep,ho',hd',_⟩,_⟩:=I.loc;rw[z,ho']at ho;cases ho;rw[hd']at hd;cases hd
theorem Inv.funs(I:Inv X pins σ H s):s.heap.FunFrames X.base X.outer:=by
 have all:∀ (l:List Env),(∀ b∈frs l,b∈X.fs)->X.s₀.heap.FunFrames X.base l->s.heap.FunFrames X.base l:=by
  intro l;induction l with
  |nil=>intro _ _;trivial
  |cons env r ih=>
   intro hs hl;obtain⟨hk,⟨L,o,hf,hn,ho,hd⟩,hr⟩:=hl;have hL:L∈X.fs:=hs L (by unfold frs;rw[List.filterMap_cons,hf];exact List.mem_cons_self);obtain⟨sl,e⟩:=I.base.slot L o ho (I.ok.frf L hL) hL fun z=>I.ok.exfs L z hL;exact⟨hk,⟨L,_,hf,hn,e,hd⟩,ih (fun b hb=>hs b (by unfold frs;rw[List.filterMap_cons,hf];exact List.mem_cons_of_mem _ hb)) hr⟩
 exact all X.outer (fun _ hb=>hb) I.ok.funs
theorem Inv.stack(I:Inv X pins σ H s):s.heap.FunFrames X.base X.stack:=by
 rcases I.ok.stk with e|⟨e,hf⟩
 ·rw[e];exact I.funs
 ·rw[e];obtain⟨m,hn,_⟩:=I.loc;refine .cons (by rw[I.ok.kind];decide) hf hn ?_ I.funs;exact Heap.get?_none_of_le (Nat.le_trans I.ok.bsz I.ok.above)
theorem Inv.stkSub(I:Inv X pins σ H s):∀ b∈frs X.stack,b∈X.env.locals::X.fs:=fun b hb=>by
 rcases I.ok.stk with e|⟨e,hf⟩
 ·rw[e]at hb;exact List.mem_cons_of_mem _ hb
 ·rw[e]at hb;unfold frs at hb;rw[List.filterMap_cons,hf]at hb;exact hb
theorem Inv.stkFree(I:Inv X pins σ H s):∀ b∈frs X.stack,H b=none:=fun b hb=>by
 rcases List.mem_cons.mp (I.stkSub b hb)with e|hb
 ·rw[e];exact I.free
 ·obtain⟨_,o,ho,_⟩:=I.ok.funs.mem hb;exact I.base.free b o ho (I.ok.frf b hb) fun z=>I.ok.exfs b z hb
theorem Inv.step{g':Array GenState}{t':Nat}{d':Drawn}{ch:List Addr}(I:Inv X pins σ H s)
  (hch:∀ b∈ch,(b∈X.ex\/X.s₀.heap.objs.size<=b)/\b≠X.env.locals/\(∀ x c,X.env.cells.lookup x=some c->c≠b)/\∀ p∈X.pn++pins,p.1≠b)
  (keep:∀ b o,b≠X.env.locals->b ∉ X.fs->b ∉ ch->s.heap.get? b=some o->H b=none->h'.get? b=some o)
  (slot:∀ b o,b≠X.env.locals->b∈X.fs->b ∉ ch->s.heap.get? b=some o->H b=none->∃ sl,h'.get? b=some { o with slots:=sl }) (free:∀ b o,b ∉ ch->s.heap.get? b=some o->H b=none->H' b=none)
  (there:∀ b o,b ∉ ch->s.heap.get? b=some o->∃ o',h'.get? b=some o')
  (tups:∀ b xs,H b=some (.tup xs)->H' b=some (.tup xs)) (frzs:∀ b o u,H b=some (.frz o u)->H' b=some (.frz o u)) (tbls:∀ b ps,H b=some (.tbl ps)->∃ more,H' b=some (.tbl (ps++more)))
  (ns:∀ m,s.heap.Ns X.env.locals m->h'.Ns X.env.locals m) (hok:HOk X.prog X.w H' h') (hg:AllBare g') :
  Inv X pins σ H' { s with heap:=h',gens:=g',drawn:=d',toks:=t' }:=by
 have neL:∀ b o,X.s₀.heap.get? b=some o->b≠X.env.locals:=fun b o e=>Nat.ne_of_lt (Nat.lt_of_lt_of_le (Heap.lt_size e) I.ok.above);have neC:∀ b o,X.s₀.heap.get? b=some o->b ∉ X.ex->b ∉ ch:=fun b o e hx hb=>by
  rcases(hch b hb).1 with z|z
  ·exact hx z
  ·exact absurd (Nat.lt_of_lt_of_le (Heap.lt_size e) z) (Nat.lt_irrefl _)
 have cellK:∀ x c,X.env.cells.lookup x=some c->∀ v,s.heap.IsCell c v->h'.IsCell c v:=fun x c e v ⟨o,ho,hd⟩=>by
  have nch:c ∉ ch:=fun z=>(hch c z).2.2.1 x c e rfl;by_cases hc:c∈X.fs
  ·obtain⟨sl,q⟩:=slot c o (I.cne x c e) hc nch ho (I.freeC x c e);exact⟨_,q,hd⟩
  ·exact⟨o,keep c o (I.cne x c e) hc nch ho (I.freeC x c e),hd⟩
 refine⟨I.ok,I.os,hg,⟨fun b o e n hb hx=>?_,fun b o e n hb hx=>?_,fun b o e n hx=>?_,fun b o e hx=>?_,fun b xs e=>tups b xs (I.base.tups b xs e),fun b o xs e=>frzs b o xs (I.base.frzs b o xs e),fun b ps e=>?_⟩,?_,fun x c e=>?_,?_,fun x c e=>?_,fun p hp=>?_,hok,I.len⟩
 ·exact keep b o (neL b o e) hb (neC b o e hx) (I.base.keep b o e n hb hx) (I.base.free b o e n hx)
 ·obtain⟨sl,e1⟩:=I.base.slot b o e n hb hx;obtain⟨sl',e2⟩:=slot b _ (neL b o e) hb (neC b o e hx) e1 (I.base.free b o e n hx);exact⟨sl',e2⟩
 ·obtain⟨o',e1⟩:=I.base.there b o e hx;exact free b o' (neC b o e hx) e1 (I.base.free b o e n hx)
 ·obtain⟨o',e1⟩:=I.base.there b o e hx;exact there b o' (neC b o e hx) e1
 ·obtain⟨m1,e1⟩:=I.base.tbls b ps e;obtain⟨m2,e2⟩:=tbls b _ e1;exact⟨m1++m2,by rw[e2,Array.append_assoc]⟩
 ·obtain⟨m,hn,hl⟩:=I.loc;refine⟨m,ns m hn,fun i x v e1 e2 e3=>?_⟩;obtain⟨u,r,l⟩:=hl i x v e1 e2 e3;refine⟨u,r,?_⟩;rcases l with l|⟨k,c,e,z⟩
  ·exact .inl l
  ·exact .inr ⟨k,c,e,cellK x c e _ z⟩
 ·obtain⟨v,z⟩:=I.cell x c e;exact⟨v,cellK x c e v z⟩
 ·obtain⟨m,⟨o,_,_,ho,_⟩,_⟩:=I.loc;exact free _ o (fun z=>(hch _ z).2.1 rfl) ho I.free
 ·obtain⟨v,o,ho,hd⟩:=I.cell x c e;exact free c o (fun z=>(hch c z).2.2.1 x c e rfl) ho (I.freeC x c e)
 ·obtain⟨e,n,ne,nf,d⟩:=I.pin p hp;have nch:p.1 ∉ ch:=fun z=>(hch p.1 z).2.2.2 p hp rfl;exact⟨keep p.1 p.2 ne nf nch e n,free p.1 p.2 nch e n,ne,nf,d⟩
theorem Inv.un{t':Nat}(I:Inv X pins σ H s)(u:Un X.fs [] H H' s.heap h')(hok:HOk X.prog X.w H' h'):Inv X pins σ H' { s with heap:=h',toks:=t' }:=by
 obtain⟨m,⟨o,es,ep,ho,r⟩,_⟩:=id I.loc;obtain⟨sl,hL⟩:=u.any ho I.free (by simp);exact I.step (g':=s.gens) (d':=s.drawn) (ch:=[]) (fun _ z=>nomatch z) (fun b o _ hb _ e n=>u.keep b o e n hb (by simp)) (fun b o _ hb _ e n=>u.slot b o e n hb (by simp)) (fun b o _ e n=>u.free b o e n (by simp)) (fun b o _ e=>u.there b o e (by simp)) u.tups u.frzs u.tbls (fun m' hm=>by
  obtain⟨o',es',ep',ho',r'⟩:=hm;rw[ho]at ho';cases ho';exact⟨_,es',ep',hL,r'⟩) hok I.bare
theorem Inv.call{g':Array GenState}{t':Nat}{d':Drawn}{ch:List Addr}(I:Inv X pins σ H s)(u:Un (frs X.stack) ch H H' s.heap h')(hok:HOk X.prog X.w H' h')(hg:AllBare g')
  (hch:∀ b∈ch,(b∈X.ex\/X.s₀.heap.objs.size<=b)/\b≠X.env.locals/\(∀ x c,X.env.cells.lookup x=some c->c≠b)/\∀ p∈X.pn++pins,p.1≠b) :
  Inv X pins σ H' { s with heap:=h',gens:=g',drawn:=d',toks:=t' }:=by
 obtain⟨m,⟨o,es,ep,ho,r⟩,_⟩:=id I.loc;obtain⟨sl,hL⟩:=u.any ho I.free fun z=>(hch _ z).2.1 rfl;exact I.step (ch:=ch) hch (fun b o hL hb hc e n=>u.keep b o e n (fun z=>(List.mem_cons.mp (I.stkSub b z)).elim hL hb) hc) (fun b o _ _ hc e n=>u.any e n hc) (fun b o hc e n=>u.free b o e n hc) (fun b o hc e=>u.there b o e hc) u.tups u.frzs u.tbls (fun m' hm=>by
  obtain⟨o',es',ep',ho',r'⟩:=hm;rw[ho]at ho';cases ho';exact⟨_,es',ep',hL,r'⟩) hok hg
theorem Inv.turned{t':Nat}{it:Addr}(I:Inv X pins σ H s)(k:∀ b o,b≠it->s.heap.get? b=some o->h'.get? b=some o)(hn:H it=none)(hL:it≠X.env.locals)
  (h1:it∈X.ex\/X.s₀.heap.objs.size<=it) (h2:∀ x c,X.env.cells.lookup x=some c->c≠it) (h3:∀ p∈X.pn++pins,p.1≠it):Inv X pins σ H { s with heap:=h',toks:=t' }:=by
 have nit:∀ b u,H b=some u->b≠it:=fun b u e z=>by rw[z,hn]at e;cases e
 refine I.step (g':=s.gens) (d':=s.drawn) (ch:=[it]) (fun b hb=>?_) (fun b o _ _ hc e _=>k b o (fun z=>hc (by simp[z])) e) (fun b o _ _ hc e _=>⟨o.slots,k b o (fun z=>hc (by simp[z])) e⟩) (fun _ _ _ _ n=>n)
  (fun b o hc e=>⟨o,k b o (fun z=>hc (by simp[z])) e⟩) (fun _ _ e=>e) (fun _ _ _ e=>e) (fun b ps e=>⟨#[],by rw[e];simp⟩) (fun m hm=>?_) (fun b u e=>?_) I.bare
 ·have e:b=it:=by simpa using hb
  subst e;exact⟨h1,hL,h2,h3⟩
 ·obtain⟨o,es,ep,ho,r⟩:=hm;exact⟨o,es,ep,k _ o (Ne.symm hL) ho,r⟩
 ·refine(I.hok b u e).stay (fun c v hc q=>k c v ?_ q) (fun _ q=>q) fun _ _ q=>q;rcases hc with z|z
  ·rw[z];exact nit b u e
  ·exact nit c _ z
theorem Inv.tok(I:Inv X pins σ H s)(t:Nat):Inv X pins σ H { s with toks:=t }:=I.un (h':=s.heap) (t':=t) Un.refl I.hok
theorem Inv.kept{t':Nat}(I:Inv X pins σ H s)(k:∀ b u,s.heap.get? b=some u->h'.get? b=some u):Inv X pins σ H { s with heap:=h',toks:=t' }:=I.un (Un.kept k) (I.hok.kept k)
theorem Inv.laid{a:Addr}{o:HO}{t':Nat}(I:Inv X pins σ H s)(k:∀ b u,s.heap.get? b=some u->h'.get? b=some u)(hp:s.heap.objs.size<=a)(new:yb3 X.prog X.w (upd H a o) h' a o) :
  Inv X pins σ (upd H a o) { s with heap:=h',toks:=t' }:=I.un (Un.laid k hp (I.hok.fresh hp)) (I.hok.laid k hp new)
theorem Inv.write{x e:Addr}{o:HO}{t':Nat}(I:Inv X pins σ H s)(mu:Mut (H x))(he:e=x\/H e=some (.own x))(k:∀ b u,b≠e->s.heap.get? b=some u->h'.get? b=some u)(heo:∃ u,h'.get? e=some u)
  (new:yb3 X.prog X.w (upd H x o) h' x o):Inv X pins σ (upd H x o) { s with heap:=h',toks:=t' }:=I.un (Un.write mu he k heo) (I.hok.write mu he k heo new)
theorem Inv.pins_of{pins':List (Addr × Obj)}(I:Inv X pins σ H s)(h:∀ p∈pins',s.heap.get? p.1=some p.2/\H p.1=none/\p.1≠X.env.locals/\p.1 ∉ X.fs/\∀ v,p.2.data≠.cell v):Inv X pins' σ H s:=
 ⟨I.ok,I.os,I.bare,I.base,I.loc,I.cell,I.free,I.freeC,fun p hp=>(List.mem_append.mp hp).elim (fun z=>I.pin p (List.mem_append_left _ z)) (h p),I.hok,I.len⟩
theorem zlv{N:List Str}(hN:N.Nodup){i j:Nat}{x:Str}(a:N[i]?=some x)(b:N[j]?=some x):i=j:=by
 obtain⟨h1,e1⟩:=List.getElem?_eq_some_iff.mp a;obtain⟨h2,e2⟩:=List.getElem?_eq_some_iff.mp b;exact(List.getElem_inj hN).mp (e1.trans e2.symm)
theorem zib{M:Model}{A:Around}{E:Value->Shared->Prop}{i:Nat}{x:Str}{v:V}{u:Value}{Q:Unit->Shared->Prop}(I:Inv X pins σ H s)(hN:X.N.Nodup)(hi:X.N[i]?=some x)(hx:Loc X.env.scope x)(r:yhf v u)
  (h:∀ s',Inv X pins (σ.set i (some v)) H s'->(∃ a,Heap.SameBut a s.heap s'.heap/\(a=X.env.locals\/X.env.cells.lookup x=some a))->Q () s') (hf:X.fn x=true\/X.env.scope.names.lookup x=some .local:=by first|exact .inl rfl|exact .inr rfl|assumption):wpAny M A (storeName X.env x u) Q E s:=by
 obtain⟨m,hn,hl⟩:=id I.loc;have hcls:(X.env.scope.kind == .class || (X.env.scope.kind == .module && X.env.locals != X.env.globals))=false:=by rw[I.ok.kind];rfl
 have hiσ:i<σ.length:=by rw[I.len];exact(List.getElem?_eq_some_iff.mp hi).1
 have cne:=I.cne;have tracked:∀ {a:Addr} {h':Heap},(∃ o,s.heap.get? a=some o/\H a=none)->Heap.SameBut a s.heap h'->HOk X.prog X.w H h':=fun {a h'} ha hs b ob e=>by
  obtain⟨_,_,hfree⟩:=ha;refine(I.hok b ob e).stay (fun c w' hc q=>(hs.2 c ?_).trans q) (fun _ q=>q) fun _ _ q=>q;rintro rfl;rcases hc with rfl|hc
  ·rw[hfree]at e;cases e
  ·rw[hfree]at hc;cases hc
 rcases hx with hk|hk
 ·refine wpAny_storeName_local hk hn (fun h' hn' hs=>?_) hcls;obtain⟨oL,_,_,hoL,_⟩:=id hn;refine h _ ⟨I.ok,I.os,I.bare,⟨fun b o e n hb hx=>?_,fun b o e n hb hx=>?_,I.base.free,fun b o e hx=>?_,I.base.tups,I.base.frzs,I.base.tbls⟩,⟨_,hn',fun j y v' e1 e2 e3=>?_⟩,fun y c e=>?_,I.free,I.freeC,fun p hp=>?_,tracked ⟨oL,hoL,I.free⟩ hs,by simpa using I.len⟩ ⟨_,hs,.inl rfl⟩
  ·exact(hs.2 b (Nat.ne_of_lt (Nat.lt_of_lt_of_le (Heap.lt_size e) I.ok.above))).trans (I.base.keep b o e n hb hx)
  ·obtain⟨sl,e1⟩:=I.base.slot b o e n hb hx;exact⟨sl,(hs.2 b (Nat.ne_of_lt (Nat.lt_of_lt_of_le (Heap.lt_size e) I.ok.above))).trans e1⟩
  ·obtain⟨o',e1⟩:=I.base.there b o e hx;exact⟨o',(hs.2 b (Nat.ne_of_lt (Nat.lt_of_lt_of_le (Heap.lt_size e) I.ok.above))).trans e1⟩
  ·by_cases hj:j=i
   ·subst hj;rw[hi]at e1;cases e1;rw[List.getElem?_set_self hiσ]at e2;cases e2;exact⟨u,r,.inl ⟨hk,by simp⟩⟩
   ·rw[List.getElem?_set_ne (Ne.symm hj)]at e2;obtain⟨u',r',q⟩:=hl j y v' e1 e2 e3;refine⟨u',r',?_⟩;rcases q with⟨k,e⟩|⟨k,c,e,z⟩
    ·refine .inl ⟨k,?_⟩;have:y≠x:=fun e=>hj (zlv hN e1 (e ▸ hi));simp[this,e]
    ·exact .inr ⟨k,c,e,z.sameBut hs (cne y c e)⟩
  ·obtain⟨w',z⟩:=I.cell y c e;exact⟨w',z.sameBut hs (cne y c e)⟩
  ·obtain⟨e,n,ne,nf,d⟩:=I.pin p hp;exact⟨(hs.2 p.1 ne).trans e,n,ne,nf,d⟩
 ·have hfn:X.fn x=true:=by
   rcases hf with z|z
   ·exact z
   ·rw[z]at hk;cases hk
  obtain⟨c,hc⟩:=I.ok.has x (.inl hk);obtain⟨w',z⟩:=I.cell x c hc;refine wpAny_storeName_cell I.ok.kind hk hc z (fun h' hc' hs=>?_);obtain⟨oc,hoc,hocd⟩:=id z;refine h { s with heap:=h' } ⟨I.ok,I.os,I.bare,⟨fun b o e n hb hx=>?_,fun b o e n hb hx=>?_,I.base.free,fun b o e hx=>?_,I.base.tups,I.base.frzs,I.base.tbls⟩,⟨m,hn.sameBut hs (Ne.symm (cne x c hc)),fun j y v' e1 e2 e3=>?_⟩,fun y c' e=>?_,I.free,I.freeC,fun p hp=>?_,tracked ⟨oc,hoc,I.freeC x c hc⟩ hs,by simpa using I.len⟩ ⟨c,hs,.inr hc⟩
  ·exact(hs.2 b (Nat.ne_of_lt (Nat.lt_of_lt_of_le (Heap.lt_size e) (I.ok.cab x c hfn hc)))).trans (I.base.keep b o e n hb hx)
  ·obtain⟨sl,e1⟩:=I.base.slot b o e n hb hx;exact⟨sl,(hs.2 b (Nat.ne_of_lt (Nat.lt_of_lt_of_le (Heap.lt_size e) (I.ok.cab x c hfn hc)))).trans e1⟩
  ·obtain⟨o',e1⟩:=I.base.there b o e hx;exact⟨o',(hs.2 b (Nat.ne_of_lt (Nat.lt_of_lt_of_le (Heap.lt_size e) (I.ok.cab x c hfn hc)))).trans e1⟩
  ·by_cases hj:j=i
   ·subst hj;rw[hi]at e1;cases e1;rw[List.getElem?_set_self hiσ]at e2;cases e2;exact⟨u,r,.inr ⟨.inl hk,c,hc,hc'⟩⟩
   ·rw[List.getElem?_set_ne (Ne.symm hj)]at e2;obtain⟨u',r',q⟩:=hl j y v' e1 e2 e3;refine⟨u',r',?_⟩;rcases q with q|⟨k,c',e,z'⟩
    ·exact .inl q
    ·refine .inr ⟨k,c',e,z'.sameBut hs ?_⟩;rintro rfl;exact hj (zlv hN e1 (I.ok.inj _ _ _ e hc ▸ hi))
  ·by_cases hcc:c'=c
   ·subst hcc;exact⟨_,hc'⟩
   ·obtain⟨w2,z2⟩:=I.cell y c' e;exact⟨w2,z2.sameBut hs hcc⟩
  ·obtain⟨e,n,ne,nf,d⟩:=I.pin p hp;refine⟨(hs.2 p.1 ?_).trans e,n,ne,nf,d⟩;intro q;rw[q,hoc]at e;have q':oc=p.2:=Option.some.inj e;exact d w' (by rw[<-q'];exact hocd)
theorem zng{M:Model}{A:Around}{E:Value->Shared->Prop}{i:Nat}{x:Str}{v:V}{u:Value}{Q:Unit->Shared->Prop}(I:Inv X pins σ H s)(hN:X.N.Nodup)(hi:X.N[i]?=some x)(hx:Loc X.env.scope x)(r:yhf v u)
  (h:∀ s',Inv X pins (σ.set i (some v)) H s'->Q () s') (hf:X.fn x=true\/X.env.scope.names.lookup x=some .local:=by first|exact .inl rfl|exact .inr rfl|assumption):wpAny M A (storeName X.env x u) Q E s:=
 zib I hN hi hx r (fun s' I' _=>h s' I') hf
theorem Inv.call'{s':Shared}{ch:List Addr}(I:Inv X pins σ H s)(ho:s'.os=s.os)(u:Un (frs X.stack) ch H H' s.heap s'.heap)(hok:HOk X.prog X.w H' s'.heap)(hg:AllBare s'.gens)
  (hch:∀ b∈ch,(b∈X.ex\/X.s₀.heap.objs.size<=b)/\b≠X.env.locals/\(∀ x c,X.env.cells.lookup x=some c->c≠b)/\∀ p∈X.pn++pins,p.1≠b):Inv X pins σ H' s':=by
 obtain⟨h',g',d',t',o'⟩:=s';have e:o'=s.os:=ho;subst e;exact I.call (g':=g') (t':=t') (d':=d') u hok hg hch
end
abbrev XK:=Value->Option Addr->Hp->Prop
abbrev St:=List (Option V)
abbrev VK:=V->Hp->Prop
abbrev TE:=St->Hp->VK->Prop
abbrev TT:=St->Hp->(Bool->Hp->Prop)->Prop
abbrev TA:=St->Hp->(List V->Hp->Prop)->Prop
structure Ends where
 nx:St->Hp->Prop
 rt:VK
 bk:St->Hp->Prop:=fun _ _=>False
 ct:St->Hp->Prop:=fun _ _=>False
abbrev TS:=Ends->St->Hp->Prop
def EP(X:Cx)(pins:List (Addr × Obj))(σ:St)(Q:VK)(u:Value)(s':Shared):Prop:=∃ v H',Inv X pins σ H' s'/\yhf v u/\Q v H'
def TP(X:Cx)(pins:List (Addr × Obj))(σ:St)(Q:Bool->Hp->Prop)(b:Bool)(s':Shared):Prop:=∃ H',Inv X pins σ H' s'/\Q b H'
def AP(X:Cx)(pins:List (Addr × Obj))(σ:St)(Q:List V->Hp->Prop)(us:List Value)(s':Shared):Prop:=∃ vs H',Inv X pins σ H' s'/\yho vs us/\Q vs H'
def SP(X:Cx)(pins:List (Addr × Obj))(D:Ends)(f:Flow)(s':Shared):Prop:=
 match f with
 | .next=>∃ σ' H',Inv X pins σ' H' s'/\D.nx σ' H'
 | .brk=>∃ σ' H',Inv X pins σ' H' s'/\D.bk σ' H'
 | .cont=>∃ σ' H',Inv X pins σ' H' s'/\D.ct σ' H'
 | .ret u=>∃ v σ' H',Inv X pins σ' H' s'/\yhf v u/\D.rt v H'
def PE(X:Cx)(e:Expr)(t:TE):Prop:=
 ∀ (pins:List (Addr × Obj)) (s:Shared) (σ:St) (H:Hp) (Q:VK),Inv X pins σ H s->t σ H Q->wpAny (model X.prog X.w) X.A (eval e X.env) (EP X pins σ Q) X.xe s
def PT(X:Cx)(e:Expr)(t:TT):Prop:=
 ∀ (pins:List (Addr × Obj)) (s:Shared) (σ:St) (H:Hp) (Q:Bool->Hp->Prop),Inv X pins σ H s->t σ H Q->wpAny (model X.prog X.w) X.A (isTrue e X.env (eval e X.env)) (TP X pins σ Q) X.xe s
def PW(X:Cx)(e:Expr)(t:TT):Prop:=
 ∀ (whole:Sem Value) (pins:List (Addr × Obj)) (s:Shared) (σ:St) (H:Hp) (Q:Bool->Hp->Prop),Inv X pins σ H s->t σ H Q->wpAny (model X.prog X.w) X.A (isTrue e X.env whole) (TP X pins σ Q) X.xe s
theorem PW.pt{X:Cx}{e:Expr}{t:TT}(h:PW X e t):PT X e t:=h _
def PA(X:Cx)(es:List Expr)(t:TA):Prop:=
 ∀ (pos:Pos) (pins:List (Addr × Obj)) (s:Shared) (σ:St) (H:Hp) (Q:List V->Hp->Prop),Inv X pins σ H s->t σ H Q->wpAny (model X.prog X.w) X.A (spliced (backTo pos (starEach es X.env))) (AP X pins σ Q) X.xe s
def PS(X:Cx)(st:Stmt)(t:TS):Prop:=
 ∀ (pins:List (Addr × Obj)) (s:Shared) (σ:St) (H:Hp) (D:Ends),Inv X pins σ H s->t D σ H->wpAny (model X.prog X.w) X.A (exec st X.env) (SP X pins D) X.xe s
def PSs(X:Cx)(st:List Stmt)(t:TS):Prop:=
 ∀ (pins:List (Addr × Obj)) (s:Shared) (σ:St) (H:Hp) (D:Ends),Inv X pins σ H s->t D σ H->wpAny (model X.prog X.w) X.A (execs st X.env) (SP X pins D) X.xe s
theorem thn{α:Type}{t:Sem α}{Q Q':α->Shared->Prop}{M:Model}{A:Around}{E:Value->Shared->Prop}{s:Shared}(h:wpAny M A t Q E s)(hQ:∀ a s,Q a s->Q' a s):wpAny M A t Q' E s:=wpAny_mono h hQ fun _ _ x=>x
end L2
namespace L2
open PySem PySem.Spec PyProof.Rows
section
variable{X:Cx}
theorem bin{a b:Expr}{ta tb:TE}(ha:PE X a ta)(hb:PE X b tb){pins:List (Addr × Obj)}{s:Shared}{σ:St}{H:Hp}{R:V->V->Hp->Prop}(I:Inv X pins σ H s)(h:ta σ H fun x H1=>tb σ H1 fun y H2=>R x y H2)
  {α:Type} {Q:α->Shared->Prop} {f:Value->Value->Sem α}
  (hf:∀ v u s2 x y H2,Inv X pins σ H2 s2->yhf x v->yhf y u->R x y H2->wpAny (model X.prog X.w) X.A (f v u) Q X.xe s2) :
  wpAny (model X.prog X.w) X.A (eval a X.env) (fun v s₁=>wpAny (model X.prog X.w) X.A (eval b X.env) (fun u s₂=>wpAny (model X.prog X.w) X.A (f v u) Q X.xe s₂) X.xe s₁) X.xe s:=by
 refine thn (ha pins s σ H _ I h) fun v s1 ⟨x,H1,I1,r1,q1⟩=>?_;refine thn (hb pins s1 σ H1 _ I1 q1) fun u s2 ⟨y,H2,I2,r2,q2⟩=>?_;exact hf v u s2 x y H2 I2 r1 r2 q2
def ylo(i:Nat):TE:=fun σ H Q=>∃ v,σ[i]?=some (some v)/\Q v H
def tC(v:V):TE:=fun _ H Q=>Q v H
theorem zz7{i:Nat}{x:Str}{pos:Pos}(hN:X.N[i]?=some x)(hv:Vis X.env.scope x)(hd:(x == ("__debug__" : Str))=false:=by decide)(hcd:(x == ("__classdict__" : Str))=false:=by decide):PE X (.Name x pos) (ylo i):=by
 intro pins s σ H Q I h;obtain⟨v,e,h⟩:=h;obtain⟨m,hn,hl⟩:=I.loc;obtain⟨u,r,l⟩:=hl i x v hN e hv;have fin:EP X pins σ Q u s:=⟨v,H,I,r,h⟩
 rcases l with⟨hk,hm⟩|⟨hk,c,hc,hcell⟩
 ·exact wpAny_Name (wpAny_loadName_local I.ok.kind hk hn hm fin) hd
 ·rcases hk with hk|hk
  ·exact wpAny_Name (wpAny_loadName_cell I.ok.kind hk hc hcell fin) hd
  ·exact wpAny_Name (wpAny_loadName_free I.ok.kind hk hc hcell fin hcd) hd
theorem zz0{i j pos}:PE X (.Constant (.int i) j pos) (tC (.int i)):=fun _ _ _ H _ I h=>wpAny_Constant_int ⟨.int i,H,I.tok _,⟨_,rfl⟩,h⟩
theorem yff{b j pos}:PE X (.Constant (.bool b) j pos) (tC (.bl b)):=fun _ _ _ H _ I h=>Constant_bool ⟨.bl b,H,I,rfl,h⟩
theorem zz2{j pos}:PE X (.Constant .none j pos) (tC .non):=fun _ _ _ H _ I h=>Constant_none ⟨.non,H,I,rfl,h⟩
theorem zz4{x j pos}:PE X (.Constant (.str x) j pos) (tC (.str x)):=fun _ _ _ H _ I h=>Calls.Constant_str ⟨.str x,H,I.tok _,⟨_,rfl⟩,h⟩
def Gl(X:Cx)(x:Str):Prop:=X.env.kindOf x=some .globalImplicit
theorem zrd{E:Value->Shared->Prop}{pins:List (Addr × Obj)}{s:Shared}{σ:St}{H:Hp}{x:Str}{u:Value}{pos:Pos}{Q:Value->Shared->Prop}(I:Inv X pins σ H s)(hg:Gl X x)(hm:X.mg x=some u)(h:Q u s)
  (hd:(x == ("__debug__" : Str))=false:=by decide):wpAny (model X.prog X.w) X.A (eval (.Name x pos) X.env) Q E s:=
 Calls.Name_function_global I.ok.kind hg (Calls.loadGlobal_global (by rw[I.ok.glob];exact I.mod.glob.keeps I.bk) hm h) hd
theorem zyq{E:Value->Shared->Prop}{pins:List (Addr × Obj)}{s:Shared}{σ:St}{H:Hp}{x:Str}{u:Value}{pos:Pos}{Q:Value->Shared->Prop}(I:Inv X pins σ H s)(hg:Gl X x)(hm:X.mg x=none)(hv:bootBuiltins x=some u)(h:Q u s)
  (hn:x ≠ "__name__":=by decide) (hd:(x == ("__debug__" : Str))=false:=by decide):wpAny (model X.prog X.w) X.A (eval (.Name x pos) X.env) Q E s:=by
 obtain⟨mb,h1,h2⟩:=I.mod.blt;exact Calls.Name_function_global I.ok.kind hg (Calls.loadGlobal_builtin (by rw[I.ok.glob];exact I.mod.glob.keeps I.bk) hm (by rw[I.ok.blt];exact h1.keeps I.bk) ((h2 x hn).trans hv) h) hd
theorem zs0{x:Str}{v:V}{u:Value}{pos:Pos}(hg:Gl X x)(hm:X.mg x=some u)(r:yhf v u)(hd:(x == ("__debug__" : Str))=false:=by decide):PE X (.Name x pos) (tC v):=
 fun _ _ _ H _ I h=>zrd I hg hm ⟨v,H,I,r,h⟩ hd
theorem zsw{x:Str}{v:V}{u:Value}{pos:Pos}(hg:Gl X x)(hm:X.mg x=none)(hv:bootBuiltins x=some u)(r:yhf v u)(hn:x ≠ "__name__":=by decide)(hd:(x == ("__debug__" : Str))=false:=by decide):PE X (.Name x pos) (tC v):=
 fun _ _ _ H _ I h=>zyq I hg hm hv ⟨v,H,I,r,h⟩ hn hd
variable{a b:Expr}{ta tb:TE}{pos:Pos}
def PC(X:Cx)(op:CmpOp)(a b:Expr)(t:TE):Prop:=
 ∀ (pins:List (Addr × Obj)) (s:Shared) (σ:St) (H:Hp) (Q:VK),Inv X pins σ H s->t σ H Q->
  wpAny (model X.prog X.w) X.A (eval a X.env) (fun v s₁=>wpAny (model X.prog X.w) X.A (eval b X.env) (fun u s₂=>wpAny (model X.prog X.w) X.A (compareOp op v u) (EP X pins σ Q) X.xe s₂) X.xe s₁) X.xe s
theorem zlt(b:Expr){op:CmpOp}(h:op≠.In)(h2:op≠.NotIn):behindInMarks op b=false:=by
 have e1:(op == CmpOp.In)=false:=by cases op<;>first|rfl|exact absurd rfl h
 have e2:(op == CmpOp.NotIn)=false:=by cases op<;>first|rfl|exact absurd rfl h2
 cases b<;>simp[behindInMarks,e1,e2]
def tB(t:TE):TT:=fun σ H Q=>t σ H fun x H1=>∃ c,x=.bl c/\Q c H1
theorem yam{op:CmpOp}{t:TE}(h:PC X op a b t)(h1:behindInMarks op b=false:=by first|exact zlt _ (by decide) (by decide)|rfl):PT X (.Compare a [op] [b] pos) (tB t):=by
 intro pins s σ H Q I hw;refine wpAny_isTrue_Compare1 (thn (h pins s σ H _ I hw) fun v s1 h1=>thn h1 fun u s2 h2=>thn h2 fun c s3 ⟨x,H1,I1,r1,q1⟩=>?_) h1;obtain⟨d,rfl,q⟩:=q1;cases r1;exact wpAny_truthy_bool ⟨H1,I1,q⟩
theorem yao{e:Expr}{t:TE}(h:PE X e t)(he:∀ whole,isTrue e X.env whole=(do let v <-whole;standAt e.pos;holding [v] (truthy v)):=by intro _;rfl):PT X e (tB t):=by
 intro pins s σ H Q I hw;refine isTrue_plain (thn (h pins s σ H _ I hw) fun v s1 ⟨x,H1,I1,r1,q1⟩=>?_) (he _);obtain⟨d,rfl,q⟩:=q1;cases r1;exact wpAny_truthy_bool ⟨H1,I1,q⟩
variable{tA tB':TT}{rest:List Expr}
def yk8(t u:TT):TT:=fun σ H Q=>t σ H fun c H1=>if c=true then u σ H1 Q else Q false H1
def tOr(t u:TT):TT:=fun σ H Q=>t σ H fun c H1=>if c=true then Q true H1 else u σ H1 Q
def ylj(t:TT):TT:=fun σ H Q=>t σ H fun c H1=>Q (!c) H1
theorem ztb(ha:PT X a tA):PW X (.BoolOp .And [a] pos) tA:=by
 intro wh pins s σ H Q I h;refine isTrue_and (thn (ha pins s σ H Q I h) fun c s1 e=>?_);cases c with
 |true=>exact isTrue_and_nil e
 |false=>exact e
theorem yaq(ha:PT X a tA):PW X (.BoolOp .Or [a] pos) tA:=by
 intro wh pins s σ H Q I h;refine isTrue_or (thn (ha pins s σ H Q I h) fun c s1 e=>?_);cases c with
 |false=>exact isTrue_or_nil e
 |true=>exact e
theorem yap(ha:PT X a tA)(hb:PW X (.BoolOp .And (b::rest) pos) tB'):PW X (.BoolOp .And (a::b::rest) pos) (yk8 tA tB'):=by
 intro wh pins s σ H Q I h;refine isTrue_and (thn (ha pins s σ H _ I h) fun c s1 ⟨H1,I1,q1⟩=>?_);cases c with
 |true=>exact hb wh pins s1 σ H1 Q I1 q1
 |false=>exact⟨H1,I1,q1⟩
theorem yfo(ha:PT X a tA)(hb:PW X (.BoolOp .Or (b::rest) pos) tB'):PW X (.BoolOp .Or (a::b::rest) pos) (tOr tA tB'):=by
 intro wh pins s σ H Q I h;refine isTrue_or (thn (ha pins s σ H _ I h) fun c s1 ⟨H1,I1,q1⟩=>?_);cases c with
 |true=>exact⟨H1,I1,q1⟩
 |false=>exact hb wh pins s1 σ H1 Q I1 q1
theorem yan(ha:PT X a tA):PT X (.UnaryOp .Not a pos) (ylj tA):=by
 intro pins s σ H Q I h;exact isTrue_not (ha pins s σ H (fun c H1=>Q (!c) H1) I h)
def yf7(ta tb:TE):TE:=fun σ H Q=>ta σ H fun x H1=>∃ c,x=.bl c/\if c=true then tb σ H1 Q else Q (.bl false) H1
def ylk(ta tb:TE):TE:=fun σ H Q=>ta σ H fun x H1=>∃ c,x=.bl c/\if c=true then Q (.bl true) H1 else tb σ H1 Q
theorem zz3{op}{t:TE}(h:PE X a t):PE X (.BoolOp op [a] pos) t:=fun pins s σ H Q I hw=>BoolOp_one (h pins s σ H Q I hw)
theorem zzw(ha:PE X a ta)(hb:PE X (.BoolOp .And (b::rest) pos) tb):PE X (.BoolOp .And (a::b::rest) pos) (yf7 ta tb):=by
 intro pins s σ H Q I h;refine BoolOp_and (thn (ha pins s σ H _ I h) fun v s1 ⟨x,H1,I1,r1,q1⟩=>?_);obtain⟨c,rfl,q1⟩:=q1;cases r1;refine wpAny_truthy_bool ?_;cases c with
 |true=>exact hb pins s1 σ H1 Q I1 q1
 |false=>exact⟨.bl false,H1,I1,rfl,q1⟩
theorem yfj(ha:PE X a ta)(hb:PE X (.BoolOp .Or (b::rest) pos) tb):PE X (.BoolOp .Or (a::b::rest) pos) (ylk ta tb):=by
 intro pins s σ H Q I h;refine BoolOp_or (thn (ha pins s σ H _ I h) fun v s1 ⟨x,H1,I1,r1,q1⟩=>?_);obtain⟨c,rfl,q1⟩:=q1;cases r1;refine wpAny_truthy_bool ?_;cases c with
 |false=>exact hb pins s1 σ H1 Q I1 q1
 |true=>exact⟨.bl true,H1,I1,rfl,q1⟩
end
end L2
namespace L2
open PySem PySem.Spec PyProof.Rows
def SqL(K:PySem.W.Frag)(H:Hp)(a:Addr)(xs:List V):Prop:=
 Rd H a (.lst xs)\/
  ∃ (o:Obj) (its:Array Value) (n:Nat),K.lookup a=some o/\o.cls=.type "list"/\o.dict=none/\o.data=.seq its n/\its.size<=sizeLine/\yho xs its.toList
def SqT(K:PySem.W.Frag)(H:Hp)(a:Addr)(xs:List V):Prop:=
 Rd H a (.tup xs)\/
  ∃ (o:Obj) (its:Array Value) (n:Nat),K.lookup a=some o/\o.cls=.type "tuple"/\o.data=.seq its n/\its.size<=sizeLine/\yho xs its.toList
def yhr:Value->Option V
 | .none=>some .non
 | .bool b=>some (.bl b)
 | .int i _=>some (.int i)
 | .str x _=>some (.str x)
 | .bytes b _=>some (.byt b)
 | .float b _=>some (.flt b)
 | .ref a=>some (.ref a)
 | .type n=>some (.ty n)
 |_=>none
theorem yhf.abs{x:V}{u:Value}(r:yhf x u):yhr u=some x:=by
 cases x with
 |non=>cases r;rfl
 |bl _=>cases r;rfl
 |int _=>obtain⟨t,rfl⟩:=r;rfl
 |str _=>obtain⟨t,rfl⟩:=r;rfl
 |byt _=>obtain⟨t,rfl⟩:=r;rfl
 |flt _=>obtain⟨t,rfl⟩:=r;rfl
 |ref _=>cases r;rfl
 |ty _=>cases r;rfl
theorem yhf.inj{x y:V}{u:Value}(r:yhf x u)(q:yhf y u):x=y:=Option.some.inj (r.abs.symm.trans q.abs)
theorem yho.inj:∀ {xs ys:List V} {us:List Value},yho xs us->yho ys us->xs=ys
 |_,_,_,.nil,.nil=>rfl
 |_,_,_,.cons r t,.cons r' t'=>by rw[r.inj r',yho.inj t t']
section
variable{X:Cx}{pins:List (Addr × Obj)}{σ:St}{H:Hp}{s:Shared}{a:Addr}{xs ys:List V}
theorem SqL.of{K:PySem.W.Frag}(h:H a=some (.lst xs)):SqL K H a xs:=.inl (.inl h)
theorem SqT.of{K:PySem.W.Frag}(h:H a=some (.tup xs)):SqT K H a xs:=.inl (.inl h)
theorem Inv.list(I:Inv X pins σ H s)(h:SqL X.K H a xs):∃ its:List Value,yho xs its/\PlainL s.heap a its.toArray/\xs.length<=sizeLine:=by
 rcases h with h|⟨o,its,n,hk,hc,hd,hs,hz,r⟩
 ·obtain⟨z,its,n,r,e⟩:=h.ok I.hok;exact⟨its,r,⟨_,n,e,rfl,rfl,rfl⟩,z⟩
 ·refine⟨its.toList,r,⟨o,n,I.kIn a o hk,hc,hd,by simpa using hs⟩,?_⟩;have e:=r.length;simp only[Array.length_toList]at e;omega
theorem Inv.tuple(I:Inv X pins σ H s)(h:SqT X.K H a xs):∃ its:List Value,yho xs its/\IsTup s.heap a its.toArray/\xs.length<=sizeLine:=by
 rcases h with h|⟨o,its,n,hk,hc,hs,hz,r⟩
 ·obtain⟨z,its,r,p⟩:=h.ok I.hok;exact⟨its,r,p,z⟩
 ·refine⟨its.toList,r,⟨o,I.kIn a o hk,hc,n,by simpa using hs⟩,?_⟩;have e:=r.length;simp only[Array.length_toList]at e;omega
theorem Inv.list_inj(I:Inv X pins σ H s)(h:SqL X.K H a xs)(h':SqL X.K H a ys):xs=ys:=by
 obtain⟨its,r,⟨o,n,e,_,_,d⟩,_⟩:=I.list h;obtain⟨its',r',⟨o',n',e',_,_,d'⟩,_⟩:=I.list h';rw[e]at e';cases e';rw[d]at d';injection d' with d1 _;have:its=its':=by simpa using congrArg Array.toList d1
 subst this;exact r.inj r'
theorem Inv.tuple_inj(I:Inv X pins σ H s)(h:SqT X.K H a xs)(h':SqT X.K H a ys):xs=ys:=by
 obtain⟨its,r,⟨o,e,_,n,d⟩,_⟩:=I.tuple h;obtain⟨its',r',⟨o',e',_,n',d'⟩,_⟩:=I.tuple h';rw[e]at e';cases e';rw[d]at d';injection d' with d1 _;have:its=its':=by simpa using congrArg Array.toList d1
 subst this;exact r.inj r'
end
abbrev Cx.wish(X:Cx)(E:Value->Shared->Prop):Cx:={ X with xe:=E }
abbrev Cx.nox(X:Cx):Cx:=X.wish fun _ _=>False
theorem Cx.Ok.wish{X:Cx}(ok:X.Ok)(E:Value->Shared->Prop):(X.wish E).Ok:=
 ⟨ok.mod,ok.kind,ok.glob,ok.blt,ok.above,ok.inj,ok.has,ok.cab,ok.hd,ok.frames,ok.stk,ok.exf,ok.bs,ok.bsz,ok.noex,ok.exfs,ok.funs,ok.frf⟩
theorem Cx.Ok.unwish{X:Cx}{E:Value->Shared->Prop}(ok:(X.wish E).Ok):X.Ok:=
 ⟨ok.mod,ok.kind,ok.glob,ok.blt,ok.above,ok.inj,ok.has,ok.cab,ok.hd,ok.frames,ok.stk,ok.exf,ok.bs,ok.bsz,ok.noex,ok.exfs,ok.funs,ok.frf⟩
section
variable{X:Cx}{pins:List (Addr × Obj)}{σ:St}{H:Hp}{s:Shared}{E:Value->Shared->Prop}
theorem Inv.wish(I:Inv X pins σ H s)(E:Value->Shared->Prop):Inv (X.wish E) pins σ H s:=⟨I.ok.wish E,I.os,I.bare,I.base,I.loc,I.cell,I.free,I.freeC,I.pin,I.hok,I.len⟩
theorem Inv.unwish(I:Inv (X.wish E) pins σ H s):Inv X pins σ H s:=⟨I.ok.unwish,I.os,I.bare,I.base,I.loc,I.cell,I.free,I.freeC,I.pin,I.hok,I.len⟩
theorem SP.unwish{D:Ends}{f:Flow}{s':Shared}(h:SP (X.wish E) pins D f s'):SP X pins D f s':=by
 cases f with
 |next=>obtain⟨σ',H',I,q⟩:=h;exact⟨σ',H',I.unwish,q⟩
 |brk=>obtain⟨σ',H',I,q⟩:=h;exact⟨σ',H',I.unwish,q⟩
 |cont=>obtain⟨σ',H',I,q⟩:=h;exact⟨σ',H',I.unwish,q⟩
 |ret u=>obtain⟨v,σ',H',I,r,q⟩:=h;exact⟨v,σ',H',I.unwish,r,q⟩
theorem PE.nox{e:Expr}{t:TE}(h:PE X.nox e t):PE X e t:=fun pins s σ H Q I hw=>
 wpAny_mono (h pins s σ H Q (I.wish _) hw) (fun _ _ ⟨v,H',I',r,q⟩=>⟨v,H',I'.unwish,r,q⟩) fun _ _ z=>False.elim z
theorem PT.nox{e:Expr}{t:TT}(h:PT X.nox e t):PT X e t:=fun pins s σ H Q I hw=>
 wpAny_mono (h pins s σ H Q (I.wish _) hw) (fun _ _ ⟨H',I',q⟩=>⟨H',I'.unwish,q⟩) fun _ _ z=>False.elim z
theorem PSs.nox{st:List Stmt}{t:TS}(h:PSs X.nox st t):PSs X st t:=fun pins s σ H D I hw=>
 wpAny_mono (h pins s σ H D (I.wish _) hw) (fun _ _ q=>q.unwish) fun _ _ z=>False.elim z
end
section
variable{X:Cx}{st:Stmt}{rest:List Stmt}{t u:TS}{e:Expr}{te:TE}{pos:Pos}
def ygb:TS:=fun D σ H=>D.nx σ H
def ylm(t u:TS):TS:=fun D σ H=>t { D with nx:=u D } σ H
theorem zs6:PSs X [] ygb:=fun _ _ σ H _ I h=>wpAny_execs_nil ⟨σ,H,I,h⟩
theorem zmi(h1:PS X st t)(h2:PSs X rest u):PSs X (st::rest) (ylm t u):=by
 intro pins s σ H D I h;refine wpAny_execs_cons (thn (h1 pins s σ H { D with nx:=u D } I h) fun f s1 q=>?_);cases f with
 |next=>
  obtain⟨σ',H',I',q⟩:=q;exact h2 pins s1 σ' H' D I' q
 |ret v=>exact q
 |brk=>exact q
 |cont=>exact q
theorem zs7(h1:PS X st t):PSs X [st] t:=by
 intro pins s σ H D I h;refine wpAny_execs_cons (thn (h1 pins s σ H D I h) fun f s1 q=>?_);cases f with
 |next=>exact wpAny_execs_nil q
 |ret v=>exact q
 |brk=>exact q
 |cont=>exact q
theorem Inv.quiet{pins:List (Addr × Obj)}{σ:St}{H:Hp}{s:Shared}(I:Inv X pins σ H s):interactive X.env=false:=by simp[interactive,I.ok.kind]
def yga(te:TE):TS:=fun D σ H=>te σ H fun _ H1=>D.nx σ H1
theorem zs5(he:PE X e te)(hs:swapsWith e none pos.line X.env=pure false:=by rfl):PS X (.Expr e pos) (yga te):=by
 intro pins s σ H D I h;exact wpAny_Expr_any (thn (he pins s σ H _ I h) fun v s1 ⟨x,H1,I1,r1,q1⟩=>⟨σ,H1,I1,q1⟩) I.quiet hs
def yll(te:TE):TS:=fun D σ H=>te σ H D.rt
theorem yak(he:PE X e te):PS X (.Return (some e) pos) (yll te):=by
 intro pins s σ H D I h;exact wpAny_Return_some (thn (he pins s σ H _ I h) fun v s1 ⟨x,H1,I1,r1,q1⟩=>⟨x,σ,H1,I1,r1,q1⟩)
def ylg(c:TT)(t u:TS):TS:=fun D σ H=>c σ H fun b H1=>if b=true then t D σ H1 else u D σ H1
theorem yfk{c:Expr}{a b:List Stmt}{tc:TT}(hc:PT X c tc)(ha:PSs X a t)(hb:PSs X b u):PS X (.If c a b pos) (ylg tc t u):=by
 intro pins s σ H D I h;refine wpAny_If (thn (hc pins s σ H _ I h) fun d s1 ⟨H1,I1,q1⟩=>?_);cases d with
 |true=>exact ha pins s1 σ H1 D I1 q1
 |false=>exact hb pins s1 σ H1 D I1 q1
end
abbrev TG:=V->St->Hp->(St->Hp->Prop)->Prop
abbrev TGs:=List V->St->Hp->(St->Hp->Prop)->Prop
def PG(X:Cx)(target:Expr)(t:TG):Prop:=
 ∀ (pins:List (Addr × Obj)) (s:Shared) (σ:St) (H:Hp) (v:V) (u:Value) (Q:St->Hp->Prop),Inv X pins σ H s->yhf v u->t v σ H Q->
  wpAny (model X.prog X.w) X.A (assign target X.env u) (fun _ s'=>∃ σ' H',Inv X pins σ' H' s'/\Q σ' H') X.xe s
def PGs(X:Cx)(ts:List Expr)(t:TGs):Prop:=
 ∀ (pins:List (Addr × Obj)) (s:Shared) (σ:St) (H:Hp) (vs:List V) (us:List Value) (Q:St->Hp->Prop),Inv X pins σ H s->yho vs us->t vs σ H Q->
  wpAny (model X.prog X.w) X.A (assignInOrder ((assignEach ts X.env).map (·.2)) us) (fun _ s'=>∃ σ' H',Inv X pins σ' H' s'/\Q σ' H') X.xe s
abbrev yhl:=V->V->V->Hp->(Hp->Prop)->Prop
def yhb(X:Cx)(t:yhl):Prop:=
 ∀ (pins:List (Addr × Obj)) (s:Shared) (σ:St) (H:Hp) (o i v:V) (ov iv u:Value) (Q:Hp->Prop),Inv X pins σ H s->yhf o ov->yhf i iv->yhf v u->t o i v H Q->
  wpAny (model X.prog X.w) X.A (setItem ov iv u) (fun _ s'=>∃ H',Inv X pins σ H' s'/\Q H') X.xe s
abbrev TIp:=V->V->Hp->VK->Prop
def PIp(X:Cx)(op:Operator)(t:TIp):Prop:=
 ∀ (pins:List (Addr × Obj)) (s:Shared) (σ:St) (H:Hp) (x y:V) (v u:Value) (Q:VK),Inv X pins σ H s->yhf x v->yhf y u->t x y H Q->
  wpAny (model X.prog X.w) X.A (inplaceOp op v u) (EP X pins σ Q) X.xe s
section
variable{X:Cx}{pos:Pos}
def ydq(i:Nat):TG:=fun v σ H Q=>Q (σ.set i (some v)) H
theorem zs1{i:Nat}{x:Str}(hN:X.N.Nodup)(hi:X.N[i]?=some x)(hx:Loc X.env.scope x)(hf:X.fn x=true\/X.env.scope.names.lookup x=some .local:=by first|exact .inl rfl|exact .inr rfl|assumption):PG X (.Name x pos) (ydq i):=by
 intro pins s σ H v u Q I r h;exact wpAny_assign_Name (zng I hN hi hx r (fun s' I'=>⟨_,H,I',h⟩) hf)
def yiu:TGs:=fun vs σ H Q=>vs=[]/\Q σ H
def ydp(t:TG)(u:TGs):TGs:=fun vs σ H Q=>∃ v r,vs=v::r/\t v σ H fun σ' H'=>u r σ' H' Q
theorem zs2:PGs X [] yiu:=by
 intro pins s σ H vs us Q I r h;obtain⟨e,h⟩:=h;subst e;cases r;exact assignInOrder_nil ⟨σ,H,I,h⟩
theorem zmf{e:Expr}{es:List Expr}{t:TG}{u:TGs}(h1:PG X e t)(h2:PGs X es u)
  (hs:(assignEach (e::es) X.env).map (·.2)=assign e X.env::(assignEach es X.env).map (·.2):=by rfl):PGs X (e::es) (ydp t u):=by
 intro pins s σ H vs us Q I r h;obtain⟨v,vr,e1,h⟩:=h;subst e1;cases r with
 |cons r rr=>
  rw[hs];refine assignInOrder_cons (thn (h1 pins s σ H _ _ _ I r h) fun _ s1 ⟨σ1,H1,I1,q1⟩=>?_);exact h2 pins s1 σ1 H1 _ _ Q I1 rr q1
def yiw(K:PySem.W.Frag)(n:Nat)(t:TGs):TG:=fun v σ H Q=>∃ a xs,v=.ref a/\SqT K H a xs/\xs.length=n/\t xs σ H Q
theorem zz9{es:List Expr}{k:Nat}{t:TGs}{n:Nat}(hc:X.calm=true)(h:PGs X es t)
  (hn:(assignEach es X.env).length=n:=by rfl) (hst:(assignEach es X.env).findIdx? (·.1)=none:=by rfl):PG X (.Tuple es k pos) (yiw X.K n t):=by
 intro pins s σ H v u Q I r hw;obtain⟨a,xs,e1,hq,hl,hw⟩:=hw;subst e1;cases r;obtain⟨its,rv,ht,hz⟩:=I.tuple hq;refine assign_Tuple_tuple (I.ok.hd hc) ht (by simp[hn,<-hl,rv.length]) hst fun h' hx=>?_;have I1:Inv X pins σ H { s with heap:=h' }:=I.kept (t':=s.toks) fun b o e=>hx b o (Nat.ne_of_lt (Heap.lt_size e)) e;exact h pins _ σ H xs _ Q I1 (by simpa using rv) hw
def yiv(to ti:TE)(t:yhl):TG:=fun v σ H Q=>to σ H fun o H1=>ti σ H1 fun i H2=>t o i v H2 fun H3=>Q σ H3
theorem zz8{o i:Expr}{to ti:TE}{t:yhl}(ho:PE X o to)(hi:PE X i ti)(hs:yhb X t)
  (ha:∀ v,assign (.Subscript o i pos) X.env v=(do
   let ov <-holding [v] (eval o X.env);let iv <-holding [v,ov] (eval i X.env)
   standAt pos
   holding [v,ov,iv] (setItem ov iv v)
   release [v,ov,iv] []):=by intro _;rfl):PG X (.Subscript o i pos) (yiv to ti t):=by
 intro pins s σ H v u Q I r h;rw[ha];refine wpAny_bind (wpAny_holding (thn (ho pins s σ H _ I h) fun ov s1 ⟨x,H1,I1,r1,q1⟩=>?_));refine wpAny_bind (wpAny_holding (thn (hi pins s1 σ H1 _ I1 q1) fun iv s2 ⟨y,H2,I2,r2,q2⟩=>?_));refine wpAny_bind (wpAny_standAt (wpAny_bind (wpAny_holding (thn (hs pins s2 σ H2 x y v ov iv u _ I2 r1 r2 r q2) fun _ s3 ⟨H3,I3,q3⟩=>?_))));exact wpAny_release ⟨σ,H3,I3,q3⟩
def yk9(te:TE)(g:TG):TS:=fun D σ H=>te σ H fun x H1=>g x σ H1 D.nx
theorem yag{tg e:Expr}{te:TE}{g:TG}(he:PE X e te)(hg:PG X tg g)(hs:swapsWithSole [tg] e pos.line X.env=pure false:=by rfl)(hw:swappedStores [tg] e X.env=pure none:=by rfl)
  (h1:(assignEach [tg] X.env).map (·.2)=[assign tg X.env]:=by rfl):PS X (.Assign [tg] e pos) (yk9 te g):=by
 intro pins s σ H D I h;refine wpAny_Assign_stores (thn (he pins s σ H _ I h) fun v s1 ⟨x,H1,I1,r1,q1⟩=>?_) hs hw;rw[h1];exact thn (hg pins s1 σ H1 x v _ I1 r1 q1) fun _ s2 q=>q
theorem yal{i:Nat}{x:Str}{e:Expr}{te:TE}{pos':Pos}(hN:X.N.Nodup)(hi:X.N[i]?=some x)(hx:Loc X.env.scope x)(he:PE X e te)(hs:swapsWith e (some (.Name x pos')) pos.line X.env=pure false:=by rfl)(hf:X.fn x=true\/X.env.scope.names.lookup x=some .local:=by first|exact .inl rfl|exact .inr rfl|assumption) :
  PS X (.Assign [.Name x pos'] e pos) (yk9 te (ydq i)):=by
 intro pins s σ H D I h;refine wpAny_Assign_Name (thn (he pins s σ H _ I h) fun v s1 ⟨y,H1,I1,r1,q1⟩=>?_) hs;exact zng I1 hN hi hx r1 (fun s2 I2=>⟨_,H1,I2,q1⟩) hf
def yla(i:Nat)(te:TE)(ti:TIp):TS:=fun D σ H=>∃ x,σ[i]?=some (some x)/\te σ H fun y H1=>ti x y H1 fun z H2=>D.nx (σ.set i (some z)) H2
theorem yah{i:Nat}{x:Str}{e:Expr}{te:TE}{op:Operator}{ti:TIp}{pos':Pos}(hN:X.N.Nodup)(hi:X.N[i]?=some x)(hx:Loc X.env.scope x)(he:PE X e te)(ho:PIp X op ti)(hf:X.fn x=true\/X.env.scope.names.lookup x=some .local:=by first|exact .inl rfl|exact .inr rfl|assumption) :
  PS X (.AugAssign (.Name x pos') op e pos) (yla i te ti):=by
 intro pins s σ H D I h;obtain⟨v,e1,h⟩:=h;obtain⟨m,hn,hl⟩:=I.loc;have vis:Vis X.env.scope x:=by rcases hx with k|k;exact .inl k;exact .inr (.inl k)
 obtain⟨u,r,l⟩:=hl i x v hi e1 vis;refine wpAny_AugAssign_Name ?_;have go:wpAny (model X.prog X.w) X.A (eval e X.env) (fun w s₂=>wpAny (model X.prog X.w) X.A (inplaceOp op u w) (fun r s₃=>wpAny (model X.prog X.w) X.A (storeName X.env x r) (fun _=>SP X pins D .next) X.xe s₃) X.xe s₂) X.xe s:=by
  refine thn (he pins s σ H _ I h) fun w s1 ⟨y,H1,I1,r1,q1⟩=>?_;refine thn (ho pins s1 σ H1 v y u w _ I1 r r1 q1) fun z s2 ⟨zv,H2,I2,r2,q2⟩=>?_;exact zng I2 hN hi hx r2 (fun s3 I3=>⟨_,H2,I3,q2⟩) hf
 rcases l with⟨hk,hm⟩|⟨hk,c,hc,hcell⟩
 ·exact wpAny_loadName_local I.ok.kind hk hn hm go
 ·rcases hk with hk|hk
  ·exact wpAny_loadName_cell I.ok.kind hk hc hcell go
  ·rcases hx with k|k
   ·have:X.env.scope.names.lookup x=some .free:=hk;rw[k]at this;cases this
   ·have:X.env.scope.names.lookup x=some .free:=hk;rw[k]at this;cases this
def ipI(f:Int->Int->Int):TIp:=fun x y H Q=>∃ i j,x=.int i/\y=.int j/\Q (.int (f i j)) H
theorem zx9:PIp X .Add (ipI fun i j=>i+j):=by
 intro pins s σ H x y v u Q I r1 r2 h;obtain⟨i,j,e1,e2,q⟩:=h;subst e1;subst e2;obtain⟨t,rfl⟩:=r1;obtain⟨t',rfl⟩:=r2;exact iadd_int ⟨.int _,H,I.tok _,⟨_,rfl⟩,q⟩
end
section
variable{X:Cx}{pos:Pos}
end
structure It where
 go:Nat->Hp->Prop
 yld:Nat->Hp->V->Hp->Prop
 stop:Nat->Hp->Prop
def yg0(X:Cx)(pins:List (Addr × Obj))(H:Hp)(b:Addr):Prop:=
 H b=none/\b≠X.env.locals/\b ∉ X.fs/\(b∈X.ex\/X.s₀.heap.objs.size<=b)/\(∀ x c,X.env.cells.lookup x=some c->c≠b)/\∀ p∈X.pn++pins,p.1≠b
theorem Inv.fpOk{X:Cx}{pins:List (Addr × Obj)}{σ:St}{H H':Hp}{s:Shared}{b:Addr}(I:Inv X pins σ H s)(hb:s.heap.objs.size<=b)(hn:H' b=none):yg0 X pins H' b:=by
 refine⟨hn,Nat.ne_of_gt (Nat.lt_of_lt_of_le I.lt hb),I.nofs hb,.inr (Nat.le_trans I.sz hb),fun x c e z=>?_,fun p hp z=>?_⟩
 ·obtain⟨v,q⟩:=I.cell x c e;exact absurd (Nat.lt_of_lt_of_le q.lt (by rw[z];exact hb)) (Nat.lt_irrefl _)
 ·exact absurd (Nat.lt_of_lt_of_le (Heap.lt_size (I.pin p hp).1) (by rw[z];exact hb)) (Nat.lt_irrefl _)
structure Turn(P:Program)(w:World)(K:PySem.W.Frag)(tg:Expr)(J:It)(fp:List Addr)(it:Addr)(tn:Nat->Heap->Prop):Prop where
 mem:it∈fp
 obj:∀ i h,tn i h->∀ b∈fp,∃ o,h.get? b=some o/\∀ v,o.data≠.cell v
 keep:∀ i h h',tn i h->(∀ b∈fp,∀ o,h.get? b=some o->h'.get? b=some o)->tn i h'
 item:∀ (X:Cx),X.prog=P->X.w=w->X.K=K->X.calm=true->∀ (i:Nat) (pins:List (Addr × Obj)) (s:Shared) (σ:St) (H:Hp) (E:Value->Shared->Prop),Inv X pins σ H s->(∀ b∈fp,yg0 X pins H b)->tn i s.heap->J.go i H->
  wpAny (model P w) X.A (pyNext (.ref it)) (fun r s1=>∃ u,r=some u/\
   wpAny (model P w) X.A (letOwnedTupleGo tg (.ref it) u) (fun _ s2=>∃ x H',Inv X pins σ H' s2/\yhf x u/\J.yld i H x H'/\tn (i+1) s2.heap/\∀ b∈fp,H' b=none) E s1) E s
 done:∀ (X:Cx),X.prog=P->X.w=w->X.K=K->X.calm=true->∀ (i:Nat) (pins:List (Addr × Obj)) (s:Shared) (σ:St) (H:Hp) (E:Value->Shared->Prop),Inv X pins σ H s->(∀ b∈fp,yg0 X pins H b)->tn i s.heap->J.stop i H->
  wpAny (model P w) X.A (pyNext (.ref it)) (fun r s1=>r=none/\Inv X pins σ H s1) E s
 self:∀ (A:Around) (i:Nat) (s:Shared) (Q:Value->Shared->Prop) (E:Value->Shared->Prop),tn i s.heap->Q (.ref it) s->wpAny (model P w) A (pyIter (.ref it)) Q E s
abbrev TI:=St->Hp->(It->Hp->Prop)->Prop
def PIE(X:Cx)(pins:List (Addr × Obj))(σ:St)(tg:Expr)(R:It->Hp->Prop)(itv:Value)(s2:Shared):Prop:=
 ∃ (it:Addr) (fp:List Addr) (tn:Nat->Heap->Prop) (J:It) (H':Hp),itv=.ref it/\Inv X pins σ H' s2/\Turn X.prog X.w X.K tg J fp it tn/\tn 0 s2.heap/\(∀ b∈fp,yg0 X pins H' b)/\R J H'
def PI(X:Cx)(tg iter:Expr)(wi:TI):Prop:=
 ∀ (pins:List (Addr × Obj)) (s:Shared) (σ:St) (H:Hp) (R:It->Hp->Prop),Inv X pins σ H s->wi σ H R->
  wpAny (model X.prog X.w) X.A (eval iter X.env) (fun v s1=>wpAny (model X.prog X.w) X.A (pyIter v) (PIE X pins σ tg R) X.xe s1) X.xe s
theorem yds {M : Model} {A : Around} {E : Value -> Shared -> Prop} {s : Shared} {tg : Expr} {it : Addr} {u : Value} {o : Obj} {n : String} {vs : Array Value} {Q : Unit -> Shared -> Prop} (ho : s.heap.get? it = some o) (hc : o.cls = .type n) (hd : o.data = .fields vs)
    (hn : ["enumerate", "zip", "dict_itemiterator", "dict_reverseitemiterator", "odict_iterator", "itertools.zip_longest", "itertools.pairwise"].contains n = false) (hQ : Q () s) : wpAny M A (letOwnedTupleGo tg (.ref it) u) Q E s := by
  unfold letOwnedTupleGo;cases tg <;> first
    | exact wpAny_pure hQ
    | (cases u <;> first
        | exact wpAny_pure hQ
        | (refine wpAny_bind (wpAny_load ho ?_)
           rw [hc, hd];show wpAny M A (if (["enumerate", "zip", "dict_itemiterator", "dict_reverseitemiterator", "odict_iterator", "itertools.zip_longest", "itertools.pairwise"].contains n && vs[0]? == some (rawInt _)) = true then _ else _) Q E s;rw [if_neg (by intro h; rw [hn, Bool.false_and] at h; cases h)];exact wpAny_pure hQ))
def Itl(K:PySem.W.Frag)(a:Addr):It:=
 ⟨fun i H=>∃ xs x,SqL K H a xs/\xs[i]?=some x,fun i H x H'=>H'=H/\∀ xs,SqL K H a xs->xs[i]?=some x,fun i H=>∃ xs,SqL K H a xs/\xs.length<=i⟩
def Itt(K:PySem.W.Frag)(a:Addr):It:=
 ⟨fun i H=>∃ xs x,SqT K H a xs/\xs[i]?=some x,fun i H x H'=>H'=H/\∀ xs,SqT K H a xs->xs[i]?=some x,fun i H=>∃ xs,SqT K H a xs/\xs.length<=i⟩
def Itr(lo:Int)(n:Nat):It:=⟨fun i _=>i<n,fun i H x H'=>H'=H/\x=.int (lo+i),fun i _=>n<=i⟩
theorem zig{P:Program}{w:World}{K:PySem.W.Frag}{tg:Expr}(a it:Addr):Turn P w K tg (Itl K a) [it] it (fun i h=>h.IsListIter it a i) where
 mem:=by simp
 obj:=fun i h st b hb=>by
  have e:b=it:=by simpa using hb
  subst e;obtain⟨o,e,c,d⟩:=st;exact⟨o,e,fun v z=>by rw[d]at z;cases z⟩
 keep:=fun i h h' st k=>st.at fun o e=>k it (by simp) o e
 item:=by
  intro X hP hw hK hc i pins s σ H E I hf st hg;subst hP hw hK;obtain⟨xs,x,hq,hx⟩:=hg;obtain⟨its,rv,p,hz⟩:=I.list hq;obtain⟨u,hu,ru⟩:=rv.get hx;obtain⟨f0,f1,f2,f3,f4,f5⟩:=hf it (by simp);refine wpAny_pyNext_list_item st p.isList (x:=u) (by simpa using hu) fun h' st' sb=>?_;have I1:Inv X pins σ H { s with heap:=h' }:=I.turned (t':=s.toks) (fun b o hb e=>(sb.2 b hb).trans e) f0 f1 f3 f4 f5;obtain⟨o,e,c,d⟩:=id st';exact⟨u,rfl,yds (s:={ s with heap:=h' }) e c d (by decide) ⟨x,H,I1,ru,⟨rfl,fun ys hy=>by rw[I.list_inj hy hq];exact hx⟩,st',fun b hb=>(hf b hb).1⟩⟩
 done:=by
  intro X hP hw hK hc i pins s σ H E I hf st hg;subst hP hw hK;obtain⟨xs,hq,hx⟩:=hg;obtain⟨its,rv,p,hz⟩:=I.list hq;obtain⟨f0,f1,f2,f3,f4,f5⟩:=hf it (by simp);have hl:=rv.length;exact wpAny_pyNext_list_end (I.ok.hd hc) st p.isList (by simp;omega) fun h' eb=>⟨rfl,I.turned (t':=s.toks) (fun b o hb e=>eb b o hb e) f0 f1 f3 f4 f5⟩
 self:=fun _ _ _ _ _ st h=>wpAny_pyIter_listiter st h
theorem zfr{P:Program}{w:World}{K:PySem.W.Frag}{tg:Expr}(a it:Addr):Turn P w K tg (Itt K a) [it] it (fun i h=>h.IsTupleIter it a i) where
 mem:=by simp
 obj:=fun i h st b hb=>by
  have e:b=it:=by simpa using hb
  subst e;obtain⟨o,e,c,d⟩:=st;exact⟨o,e,fun v z=>by rw[d]at z;cases z⟩
 keep:=fun i h h' st k=>st.at fun o e=>k it (by simp) o e
 item:=by
  intro X hP hw hK hc i pins s σ H E I hf st hg;subst hP hw hK;obtain⟨xs,x,hq,hx⟩:=hg;obtain⟨its,rv,p,hz⟩:=I.tuple hq;obtain⟨u,hu,ru⟩:=rv.get hx;obtain⟨f0,f1,f2,f3,f4,f5⟩:=hf it (by simp);refine wpAny_pyNext_tuple_item st (show s.heap.IsTuple a its.toArray from p) (x:=u) (by simpa using hu) fun h' st' sb=>?_;have I1:Inv X pins σ H { s with heap:=h' }:=I.turned (t':=s.toks) (fun b o hb e=>(sb.2 b hb).trans e) f0 f1 f3 f4 f5;obtain⟨o,e,c,d⟩:=id st';exact⟨u,rfl,yds (s:={ s with heap:=h' }) e c d (by decide) ⟨x,H,I1,ru,⟨rfl,fun ys hy=>by rw[I.tuple_inj hy hq];exact hx⟩,st',fun b hb=>(hf b hb).1⟩⟩
 done:=by
  intro X hP hw hK hc i pins s σ H E I hf st hg;subst hP hw hK;obtain⟨xs,hq,hx⟩:=hg;obtain⟨its,rv,p,hz⟩:=I.tuple hq;obtain⟨f0,f1,f2,f3,f4,f5⟩:=hf it (by simp);have hl:=rv.length;exact wpAny_pyNext_tuple_end (I.ok.hd hc) st (show s.heap.IsTuple a its.toArray from p) (by simp;omega) fun h' eb=>⟨rfl,I.turned (t':=s.toks) (fun b o hb e=>eb b o hb e) f0 f1 f3 f4 f5⟩
 self:=fun _ _ _ _ _ st h=>wpAny_pyIter_tupleiter st h
theorem zfq{P:Program}{w:World}{K:PySem.W.Frag}{tg:Expr}(it:Addr)(lo:Int)(n:Nat):Turn P w K tg (Itr lo n) [it] it (fun i h=>IsRangeIter h it (lo+(i:Nat) * 1) ((n:Int) - (i:Nat)) 1) where
 mem:=by simp
 obj:=fun i h st b hb=>by
  have e:b=it:=by simpa using hb
  subst e;exact⟨_,st,fun v z=>by
   have z':Data.fields _=Data.cell v:=z;cases z'⟩
 keep:=fun i h h' st k=>k it (by simp) _ st
 item:=by
  intro X hP hw hK hc i pins s σ H E I hf st hg;subst hP hw hK;obtain⟨f0,f1,f2,f3,f4,f5⟩:=hf it (by simp);have W:=Walks.range (prog:=X.prog) (w:=X.w) (I.ok.hd hc) it lo 1 n;refine W.item i s _ _ hg st fun v h' tk hv st' kk=>?_;obtain⟨t,rfl⟩:=hv;have I1:Inv X pins σ H { s with heap:=h',toks:=tk }:=I.turned (fun b o hb e=>kk b o (by simpa using hb) e) f0 f1 f3 f4 f5;refine⟨_,rfl,yds (s:={ s with heap:=h',toks:=tk }) (n:="range_iterator") st' rfl rfl (by decide) ⟨.int (lo+i),H,I1,⟨t,?_⟩,⟨rfl,rfl⟩,st',fun b hb=>(hf b hb).1⟩⟩;rw[Int.mul_one]
 done:=by
  intro X hP hw hK hc i pins s σ H E I hf st hg;subst hP hw hK;obtain⟨f0,f1,f2,f3,f4,f5⟩:=hf it (by simp);exact wpAny_pyNext_range_end (I.ok.hd hc) st (by have:n<=i:=hg;omega) fun h' eb=>⟨rfl,I.turned (t':=s.toks) (fun b o hb e=>eb b o hb e) f0 f1 f3 f4 f5⟩
 self:=fun _ _ _ _ _ st h=>wpAny_pyIter_rangeiter st h
end L2
namespace L2
open PySem PySem.Spec PyProof.Rows
section
variable{X:Cx}{tg:Expr}
theorem zmm{pins:List (Addr × Obj)}{σ:St}{H:Hp}{s:Shared}{R:It->Hp->Prop}{E:Value->Shared->Prop}{lo hi:Int}{t u v:Tok}{tk:Nat}(I:Inv X pins σ H s)(h1:-(2 ^ 62)<=lo)(h2:lo<2 ^ 62)(h3:-(2 ^ 62)<=hi)(h4:hi<2 ^ 62)
  (q:R (Itr lo (hi - lo).toNat) H):wpAny (model X.prog X.w) X.A (pyIter (.ref s.heap.objs.size)) (PIE X pins σ tg R) E { s with heap:=s.heap.push { cls:=.type "range",data:=.fields #[.int lo t,.int hi u,.int 1 v] },toks:=tk }:=by
 refine wpAny_pyIter_range (IsRange.new ..) (small_one h1 h2 h3 h4) ?_;have I1:Inv X pins σ H { s with heap:=s.heap.push { cls:=.type "range",data:=.fields #[.int lo t,.int hi u,.int 1 v] },toks:=tk }:=I.kept fun b o e=>Heap.get?_push_of_some _ e;refine⟨(s.heap.push { cls:=.type "range",data:=.fields #[.int lo t,.int hi u,.int 1 v] }).objs.size,[(s.heap.push { cls:=.type "range",data:=.fields #[.int lo t,.int hi u,.int 1 v] }).objs.size],_,_,H,rfl,
  I1.kept (t':=tk) fun b o e=>Heap.get?_push_of_some _ e,zfq _ lo (hi - lo).toNat,?_,fun b hb=>?_,q⟩
 ·have e1:lo+((0:Nat):Int) * 1=lo:=by simp
  have e2:(((hi - lo).toNat:Nat):Int) - ((0:Nat):Int)=Builtin.Range.rangeSize lo hi 1:=by rw[rangeSize_one];split<;>omega
  show IsRangeIter _ _ (lo+((0:Nat):Int) * 1) ((((hi - lo).toNat:Nat):Int) - ((0:Nat):Int)) 1;rw[e1,e2];exact Heap.get?_push_size _ rfl
 ·have e:b=(s.heap.push { cls:=.type "range",data:=.fields #[.int lo t,.int hi u,.int 1 v] }).objs.size:=by simpa using hb
  subst e;exact I1.fpOk (Nat.le_refl _) (I1.hok.fresh (Nat.le_refl _))
def ydv(ta:TA):TI:=fun σ H R=>ta σ H fun vs H1=>∃ j:Int,vs=[.int j]/\-(2 ^ 62)<=j/\j<2 ^ 62/\R (Itr 0 j.toNat) H1
theorem zhr{a:Expr}{ta:TA}{p pos:Pos}(hg:Gl X "range")(hm:X.mg "range" = none)(ha:PA X [a] ta)(hs:starEach [a] X.env=[(false,eval a X.env)]:=by rfl):PI X tg (.Call (.Name "range" p) [a] [] pos) (ydv ta):=by
 intro pins s σ H R I h;refine Call_ (zyq I hg hm boot_range (PyProof.Rows.callWith_type1 (thn (ha pos pins s σ H _ I h) fun us s1 ⟨vs,H1,I1,r1,q1⟩=>?_) hs rfl));obtain⟨j,e,q1,q2,q⟩:=q1;subst e;cases r1 with
 |cons r rr=>
  cases rr;obtain⟨t,rfl⟩:=r;exact call_range_1 (zmm I1 (by omega) (by omega) q1 q2 (by simpa using q))
def ylf(wi:TI)(g:TG)(tb:TS):TS:=fun D σ H=>wi σ H fun J H1=>∃ W:Nat->Nat->St->Hp->Prop,(∃ m,W 0 m σ H1)/\∀ i m σ H,W i m σ H->
 (J.stop i H/\D.nx σ H)\/(J.go i H/\∃ N:St->Hp->Prop,(∀ σ' H',N σ' H'->∃ m',m'<m/\W (i+1) m' σ' H')/\∀ x H',J.yld i H x H'->g x σ H' fun σ2 H2=>tb { D with nx:=N,ct:=N,bk:=D.nx } σ2 H2)
def yac(fp:List Addr)(h:Heap):List (Addr × Obj):=fp.filterMap fun b=>(h.get? b).map fun o=>(b,o)
theorem ze5{fp:List Addr}{h:Heap}{b:Addr}{o:Obj}(hb:b∈fp)(e:h.get? b=some o):(b,o)∈yac fp h:=List.mem_filterMap.mpr ⟨b,hb,by rw[e];rfl⟩
theorem zhj{fp:List Addr}{h:Heap}{p:Addr × Obj}(hp:p∈yac fp h):p.1∈fp/\h.get? p.1=some p.2:=by
 obtain⟨b,hb,e⟩:=List.mem_filterMap.mp hp;cases q:h.get? b with
 |none=>rw[q]at e;cases e
 |some o=>
  rw[q]at e;have e':(b,o)=p:=Option.some.inj e;subst e';exact⟨hb,q⟩
theorem Inv.pinned{pins:List (Addr × Obj)}{σ:St}{H:Hp}{s:Shared}{fp:List Addr}(I:Inv X pins σ H s)(hf:∀ b∈fp,yg0 X pins H b)(ho:∀ b∈fp,∃ o,s.heap.get? b=some o/\∀ v,o.data≠.cell v):Inv X (pins++yac fp s.heap) σ H s:=
 I.pins_of fun p hp=>(List.mem_append.mp hp).elim (fun z=>I.pin p (List.mem_append_right _ z)) fun z=>by
  obtain⟨hb,e⟩:=zhj z;obtain⟨f0,f1,f2,_⟩:=hf p.1 hb;obtain⟨o,e',d⟩:=ho p.1 hb;rw[e]at e';cases e';exact⟨e,f0,f1,f2,d⟩
theorem Inv.unpinned{pins pl:List (Addr × Obj)}{σ:St}{H:Hp}{s:Shared}(I:Inv X (pins++pl) σ H s):Inv X pins σ H s:=I.pins_of fun p hp=>I.pin p (List.mem_append_right _ (List.mem_append_left _ hp))
theorem yaj{iter:Expr}{body:List Stmt}{wi:TI}{g:TG}{tb:TS}{pos:Pos}(hp:PassesOwn (model X.prog X.w) X.A X.env X.xe)(hc:X.calm=true)(hi:PI X tg iter wi)(hg:PG X tg g)(hb:PSs X body tb)
  (hs:∀ x,foldedSetIterable iter X.env x=pure x:=by intro _;rfl):PS X (.For tg iter body [] pos) (ylf wi g tb):=by
 intro pins s σ H D I h;refine wpAny_For (thn (hi pins s σ H _ I h) fun v s1 h1=>thn h1 fun itv s2 h2=>?_) hs;obtain⟨it,fp,tn,J,H2,e,I2,T,st2,f2,W,⟨m0,w0⟩,turn⟩:=h2;subst e;have stat:∀ {H':Hp},(∀ b∈fp,H' b=none)->∀ b∈fp,yg0 X pins H' b:=fun hn b hb=>⟨hn b hb,(f2 b hb).2⟩
 refine codeAny_forLoop_any (fun n s'=>∃ i σ' H',Inv X pins σ' H' s'/\tn i s'.heap/\(∀ b∈fp,H' b=none)/\W i n σ' H') ?_ m0 ⟨0,σ,H2,I2,st2,fun b hb=>(f2 b hb).1,w0⟩;rintro n s3 ⟨i,σ3,H3,I3,st3,fr3,w3⟩;rcases turn i n σ3 H3 w3 with⟨stop,qn⟩|⟨go,N,hN,step⟩
 ·refine wpAny_passesOwn hp (thn (T.done X rfl rfl rfl hc i pins s3 σ3 H3 X.xe I3 (stat fr3) st3 stop) fun r s4 ⟨hr,I4⟩=>?_);subst hr;exact wpAny_execs_nil ⟨σ3,H3,I4,qn⟩
 ·refine wpAny_passesOwn hp (thn (T.item X rfl rfl rfl hc i pins s3 σ3 H3 X.xe I3 (stat fr3) st3 go) fun r s4 ⟨u,hr,h4⟩=>?_);subst hr;refine wpAny_passesOwn hp (thn h4 fun _ s5 ⟨x,H5,I5,r5,y5,st5,fr5⟩=>?_);have I5':=I5.pinned (stat fr5) (T.obj _ _ st5);refine wpAny_passesOwn hp (thn (hg _ s5 σ3 H5 x u _ I5' r5 (step x H5 y5)) fun _ s6 ⟨σ6,H6,I6,q6⟩=>?_);refine wpAny_passesOwn hp (thn (hb _ s6 σ6 H6 _ I6 q6) fun f s7 q7=>?_);have again:∀ {σ7:St} {H7:Hp},Inv X (pins++yac fp s5.heap) σ7 H7 s7->N σ7 H7->∃ m,m<n/\∃ i σ' H',Inv X pins σ' H' s7/\tn i s7.heap/\(∀ b∈fp,H' b=none)/\W i m σ' H':=fun {σ7 H7} I7 n7=>by
   obtain⟨m',hm,w7⟩:=hN σ7 H7 n7;refine⟨m',hm,i+1,σ7,H7,I7.unpinned,T.keep _ _ _ st5 fun b hb o e=>(I7.pin (b,o) (List.mem_append_right _ (List.mem_append_right _ (ze5 hb e)))).1,fun b hb=>?_,w7⟩;obtain⟨o,e,d⟩:=T.obj _ _ st5 b hb;exact(I7.pin (b,o) (List.mem_append_right _ (List.mem_append_right _ (ze5 hb e)))).2.1
  cases f with
  |next=>obtain⟨σ7,H7,I7,n7⟩:=q7;exact again I7 n7
  |cont=>obtain⟨σ7,H7,I7,n7⟩:=q7;exact again I7 n7
  |brk=>obtain⟨σ7,H7,I7,q7⟩:=q7;exact⟨σ7,H7,I7.unpinned,q7⟩
  |ret v=>obtain⟨x7,σ7,H7,I7,r7,q7⟩:=q7;exact⟨x7,σ7,H7,I7.unpinned,r7,q7⟩
end
end L2
namespace L2
open PySem PySem.Spec PyProof.Rows
abbrev R2:=V->V->Hp->VK->Prop
def OpR(X:Cx)(f:Value->Value->Sem Value)(r:R2):Prop:=
 ∀ (pins:List (Addr × Obj)) (s:Shared) (σ:St) (H:Hp) (x y:V) (v u:Value) (Q:VK),Inv X pins σ H s->yhf x v->yhf y u->r x y H Q->
  wpAny (model X.prog X.w) X.A (f v u) (EP X pins σ Q) X.xe s
def ybv(X:Cx)(f:Value)(r:List V->Hp->VK->Prop):Prop:=
 ∀ (pins:List (Addr × Obj)) (s:Shared) (σ:St) (H:Hp) (xs:List V) (us:List Value) (Q:VK),Inv X pins σ H s->yho xs us->r xs H Q->
  wpAny (model X.prog X.w) X.A (call f us) (EP X pins σ Q) X.xe s
def tOp(r:R2)(ta tb:TE):TE:=fun σ H Q=>ta σ H fun x H1=>tb σ H1 fun y H2=>r x y H2 Q
def rI(C:Int->Int->Prop)(g:Int->Int->V):R2:=fun x y H Q=>∃ i j,x=.int i/\y=.int j/\C i j/\Q (g i j) H
def rI0(g:Int->Int->V):R2:=fun x y H Q=>∃ i j,x=.int i/\y=.int j/\Q (g i j) H
section
variable{X:Cx}{a b c:Expr}{ta tb tc:TE}{pos:Pos}
theorem yh0(ha:PE X a ta)(hb:PE X b tb){pins:List (Addr × Obj)}{s:Shared}{σ:St}{H:Hp}{R:V->V->Hp->Prop}(I:Inv X pins σ H s)
  (h:ta σ H fun x H1=>tb σ H1 fun y H2=>R x y H2) {Q:Value->Shared->Prop} {f:Value->Value->Sem Value}
  (hf:∀ v u s2 x y H2,Inv X pins σ H2 s2->yhf x v->yhf y u->R x y H2->wpAny (model X.prog X.w) X.A (f v u) Q X.xe s2) :
  wpAny (model X.prog X.w) X.A (eval a X.env) (fun v s₁=>wpAny (model X.prog X.w) X.A (eval b X.env) (fun u s₂=>wpAny (model X.prog X.w) X.A (f v u) Q X.xe s₂) X.xe s₁) X.xe s:=by
 refine thn (ha pins s σ H _ I h) fun v s1 ⟨x,H1,I1,r1,q1⟩=>?_;refine thn (hb pins s1 σ H1 _ I1 q1) fun u s2 ⟨y,H2,I2,r2,q2⟩=>?_;exact hf v u s2 x y H2 I2 r1 r2 q2
theorem yfi{op:Operator}{r:R2}(ho:OpR X (binaryOp op) r)(ha:PE X a ta)(hb:PE X b tb):PE X (.BinOp a op b pos) (tOp r ta tb):=by
 intro pins s σ H Q I h;exact wpAny_BinOp (yh0 ha hb I h fun v u s2 x y H2 I2 rx ry q=>ho pins s2 σ H2 x y v u Q I2 rx ry q)
theorem opI{f:Value->Value->Sem Value}{C:Int->Int->Prop}{g:Int->Int->Int}
  (rule:∀ (i j:Int) (t u:Tok) (s:Shared) (Q:Value->Shared->Prop) (E:Value->Shared->Prop),C i j->Q (.int (g i j) s.toks) { s with toks:=s.toks+1 }->wpAny (model X.prog X.w) X.A (f (.int i t) (.int j u)) Q E s) :
  OpR X f (rI C fun i j=>.int (g i j)):=by
 intro pins s σ H x y v u Q I rx ry h;obtain⟨i,j,rfl,rfl,hc,q⟩:=h;obtain⟨t,rfl⟩:=rx;obtain⟨t',rfl⟩:=ry;exact rule i j t t' s _ _ hc ⟨.int (g i j),H,I.tok _,⟨_,rfl⟩,q⟩
theorem yj7{f:Value->Value->Sem Value}{g:Int->Int->Int}
  (rule:∀ (i j:Int) (t u:Tok) (s:Shared) (Q:Value->Shared->Prop) (E:Value->Shared->Prop),Q (.int (g i j) s.toks) { s with toks:=s.toks+1 }->wpAny (model X.prog X.w) X.A (f (.int i t) (.int j u)) Q E s) :
  OpR X f (rI0 fun i j=>.int (g i j)):=by
 intro pins s σ H x y v u Q I rx ry h;obtain⟨i,j,rfl,rfl,q⟩:=h;obtain⟨t,rfl⟩:=rx;obtain⟨t',rfl⟩:=ry;exact rule i j t t' s _ _ ⟨.int (g i j),H,I.tok _,⟨_,rfl⟩,q⟩
theorem yj6{f:Value->Value->Sem Value}{g:Int->Int->Bool}
  (rule:∀ (i j:Int) (t u:Tok) (s:Shared) (Q:Value->Shared->Prop) (E:Value->Shared->Prop),Q (.bool (g i j)) s->wpAny (model X.prog X.w) X.A (f (.int i t) (.int j u)) Q E s) :
  OpR X f (rI0 fun i j=>.bl (g i j)):=by
 intro pins s σ H x y v u Q I rx ry h;obtain⟨i,j,rfl,rfl,q⟩:=h;obtain⟨t,rfl⟩:=rx;obtain⟨t',rfl⟩:=ry;exact rule i j t t' s _ _ ⟨.bl (g i j),H,I,rfl,q⟩
def ygs(i j:Int):Prop:=0<j/\j<1073741824
def ygu(i j:Int):Prop:=0<=j/\j<=1000000/\i.natAbs<2 ^ 64
def ygt(i j:Int):Prop:=(-(2 ^ 64)<i/\i<2 ^ 64)\/(-(2 ^ 64)<j/\j<2 ^ 64)
theorem ygt.ok{i j:Int}(h:ygt i j):IntMulOk i j:=by
 rcases h with⟨h1,h2⟩|⟨h1,h2⟩
 ·exact .of_left (intBits_le_64 h1 h2)
 ·exact .of_right (intBits_le_64 h1 h2)
theorem zzk:OpR X (binaryOp .Add) (rI0 fun i j=>.int (i+j)):=yj7 fun _ _ _ _ _ _ _ q=>add_int q
theorem zzu:OpR X (binaryOp .Sub) (rI0 fun i j=>.int (i - j)):=yj7 fun _ _ _ _ _ _ _ q=>sub_int q
theorem zzr:OpR X (binaryOp .Mult) (rI ygt fun i j=>.int (i * j)):=opI fun _ _ _ _ _ _ _ hc q=>mul_int q hc.ok
theorem zsr:OpR X (binaryOp .FloorDiv) (rI ygs fun i j=>.int (i / j)):=opI fun i j _ _ _ _ _ hc q=>by
 have h1:(0:Int)<j:=hc.1;have h2:j<1073741824:=hc.2;exact floordiv_int (by omega) (by rw[Int.fdiv_eq_ediv_of_nonneg i (by omega)];exact q) (.inl (PyProof.noPylong_small (by omega)))
theorem zzq:OpR X (binaryOp .Mod) (rI (fun _ j=>0<j) fun i j=>.int (i % j)):=opI fun i j _ _ _ _ _ hc q=>by
 have h1:(0:Int)<j:=hc;exact mod_int' (by omega) (by rw[Int.fmod_eq_emod_of_nonneg i (by omega)];exact q)
theorem zzt:OpR X (binaryOp .Pow) (rI ygu fun i j=>.int (i ^ j.toNat)):=opI fun _ _ _ _ _ _ _ hc q=>pow_int_small hc.1 hc.2.1 hc.2.2 q
end
section
variable{X:Cx}{a b c:Expr}{ta tb tc:TE}{pos:Pos}
theorem zxe{pins:List (Addr × Obj)}{σ:St}{H:Hp}{s:Shared}{Q:VK}{k k':Bool}(I:Inv X pins σ H s)(q:Q (.bl k) H)(e:k=k'):EP X pins σ Q (.bool k') s:=by
 subst e;exact⟨.bl k,H,I,rfl,q⟩
theorem yfd:OpR X (compareOp .Lt) (rI0 fun i j=>.bl (decide (i<j))):=yj6 fun _ _ _ _ _ _ _ q=>lt_int q
theorem yfc:OpR X (compareOp .Gt) (rI0 fun i j=>.bl (decide (j<i))):=yj6 fun _ _ _ _ _ _ _ q=>gt_int q
theorem yfb:OpR X (compareOp .GtE) (rI0 fun i j=>.bl (decide (j<=i))):=yj6 fun _ _ _ _ _ _ _ q=>ge_int q
theorem zzp:OpR X (compareOp .Is) (fun x y H Q=>y=.non/\Q (.bl (decide (x=.non))) H):=by
 intro pins s σ H x y v u Q I rx ry h;obtain⟨rfl,q⟩:=h;cases ry;refine is_none_gen (zxe I q ?_);cases x<;>first
  |(cases rx;rfl)
  |(obtain⟨t,rfl⟩:=rx;rfl)
theorem zst:OpR X (compareOp .IsNot) (fun x y H Q=>y=.non/\Q (.bl (!decide (x=.non))) H):=by
 intro pins s σ H x y v u Q I rx ry h;obtain⟨rfl,q⟩:=h;cases ry;refine isnot_none_gen (zxe I q ?_);cases x<;>first
  |(cases rx;rfl)
  |(obtain⟨t,rfl⟩:=rx;rfl)
theorem OpR.or{f:Value->Value->Sem Value}{r r':R2}(h:OpR X f r)(h':OpR X f r'):OpR X f (fun x y H Q=>r x y H Q\/r' x y H Q):=by
 intro pins s σ H x y v u Q I rx ry q;rcases q with q|q
 ·exact h pins s σ H x y v u Q I rx ry q
 ·exact h' pins s σ H x y v u Q I rx ry q
theorem zy3(b:Expr){op:CmpOp}(h:op≠.In:=by decide)(h2:op≠.NotIn:=by decide):behindInMarks op b=false:=by
 have e1:(op == CmpOp.In)=false:=by cases op<;>first|rfl|exact absurd rfl h
 have e2:(op == CmpOp.NotIn)=false:=by cases op<;>first|rfl|exact absurd rfl h2
 cases b<;>simp[behindInMarks,e1,e2]
theorem zsy{op:CmpOp}{r:R2}(ho:OpR X (compareOp op) r)(ha:PE X a ta)(hb:PE X b tb)(hm:behindInMarks op b=false):PE X (.Compare a [op] [b] pos) (tOp r ta tb):=by
 intro pins s σ H Q I h;exact wpAny_Compare1 (yh0 ha hb I h fun v u s2 x y H2 I2 rx ry q=>ho pins s2 σ H2 x y v u Q I2 rx ry q) hm
def ygc(t:TE):TT:=fun σ H Q=>t σ H fun x H'=>∃ k,x=.bl k/\Q k H'
theorem zs8{op:CmpOp}{r:R2}(ho:OpR X (compareOp op) r)(ha:PE X a ta)(hb:PE X b tb)(hm:behindInMarks op b=false):PT X (.Compare a [op] [b] pos) (ygc (tOp r ta tb)):=by
 intro pins s σ H Q I h;refine wpAny_isTrue_Compare1 (thn (ha pins s σ H _ I h) fun v s1 ⟨x,H1,I1,r1,q1⟩=>thn (hb pins s1 σ H1 _ I1 q1) fun u s2 ⟨y,H2,I2,r2,q2⟩=>
  thn (ho pins s2 σ H2 x y v u _ I2 r1 r2 q2) fun c s3 ⟨z,H3,I3,r3,k,e,q3⟩=>?_) hm
 subst e;cases r3;exact wpAny_truthy_bool ⟨H3,I3,q3⟩
theorem zys:(sizeLine:Nat)<2 ^ 63:=by rw[sizeLine_eq];decide
theorem ze7:OpR X (binaryOp .Add) (fun x y H Q=>∃ i j,x=.str i/\y=.str j/\i.length+j.length<=sizeLine/\Q (.str (i++j)) H):=by
 intro pins s σ H x y v u Q I rx ry h;obtain⟨i,j,rfl,rfl,hz,q⟩:=h;obtain⟨t,rfl⟩:=rx;obtain⟨t',rfl⟩:=ry;exact add_str (fun t' tk=>⟨.str (i++j),H,I.tok _,⟨_,rfl⟩,q⟩) hz
theorem ygk{x:V}{us:List Value}(r:yho [x] us):∃ u,us=[u]/\yhf x u:=by
 cases r with
 |cons r1 r2=>cases r2;exact⟨_,rfl,r1⟩
theorem ygl{x y:V}{us:List Value}(r:yho [x,y] us):∃ u w',us=[u,w']/\yhf x u/\yhf y w':=by
 cases r with
 |cons r1 r2=>
  cases r2 with
  |cons r3 r4=>cases r4;exact⟨_,_,rfl,r1,r3⟩
theorem zf8(hc:X.calm=true):ybv X (.builtin "max") (fun xs H Q=>∃ i j,xs=[.int i,.int j]/\Q (.int (if j > i then j else i)) H):=by
 intro pins s σ H xs us Q I r h;obtain⟨i,j,rfl,q⟩:=h;obtain⟨u,w',rfl,⟨t,rfl⟩,⟨t',rfl⟩⟩:=ygl r;refine max_two_ints (I.ok.hd hc) fun h' tk k=>⟨_,H,I.kept k,?_,q⟩
 by_cases hj:j > i
 ·rw[if_pos hj,if_pos hj];exact⟨_,rfl⟩
 ·rw[if_neg hj,if_neg hj];exact⟨_,rfl⟩
theorem zf7:ybv X (.type "int") (fun xs H Q=>(∃ i,xs=[.int i]/\Q (.int i) H)\/∃ k,xs=[.bl k]/\Q (.int (if k then 1 else 0)) H):=by
 intro pins s σ H xs us Q I r h;rcases h with⟨i,rfl,q⟩|⟨k,rfl,q⟩
 ·obtain⟨u,rfl,t,rfl⟩:=ygk r;exact call_int_int ⟨.int i,H,I,⟨_,rfl⟩,q⟩
 ·obtain⟨u,rfl,r1⟩:=ygk r;cases r1;exact call_int_bool ⟨.int (if k then 1 else 0),H,I.tok _,⟨_,rfl⟩,q⟩
end
end L2
namespace L2
open PySem PySem.Spec PyProof.Rows
structure ObjM(h:Heap)(x dx C:Addr)(mA:Str->Option Value):Prop where
 obj:h.get? x=some (PySem.W.instObj C dx)
 ns:h.Ns1 dx mA
 ne:dx≠x
theorem zg2{h:Heap}{dx:Addr}{mA:Str->Option Value}(n:h.Ns1 dx mA):∃ od,h.get? dx=some od/\∀ name,PySem.W.lookIn name od=some (mA name):=by
 obtain⟨o,es,ep,ho,hd,hk,_,hm⟩:=n;refine⟨o,ho,fun name=>?_⟩;have e:=hm name;unfold nsFind findBy at e;rw[<-Array.find?_toList]at e;unfold PySem.W.lookIn;rw[hd];dsimp only;split
 ·rename_i y q
  rw[q]at e;exact congrArg some e
 ·rename_i q
  rw[q]at e;have a:es.toList.any (·.refKey)=false:=by
   rw[List.any_eq_false];intro y hy;obtain⟨z,t,hkey⟩:=hk y (Array.mem_toList_iff.mp hy);simp[DictEntry.refKey,hkey]
  have a':¬ es.toList.any (·.refKey)=true:=by rw[a];exact Bool.false_ne_true
  rw[if_neg a'];exact congrArg some e
theorem ObjM.look{h:Heap}{x dx C:Addr}{mA:Str->Option Value}(I:ObjM h x dx C mA):∃ od,PySem.W.InstAt h x (PySem.W.instObj C dx) C (some od)/\∀ name,PySem.W.lookIn name od=some (mA name):=
 let ⟨od,ho,hl⟩:=zg2 I.ns
 ⟨od,⟨I.obj,rfl,rfl,ho⟩,hl⟩
section
variable{prog:Program}{w:World}{A:Around}{E:Value->Shared->Prop}{s:Shared}{K:PySem.W.Frag}{x dx C f:Addr}{mA:Str->Option Value}{name:Str}{v:Value}
theorem zqk{expr:Bool}{Q:Value->Shared->Prop}(X:K.In s.heap)(I:ObjM s.heap x dx C mA)(hg:PySem.W.plainGet K C name=true)(hh:PySem.W.hasDictIn K C=true)
  (ha:PySem.W.findIn K (.ref C) name=some none) (hv:mA name=some v) (hv':PySem.W.handedIn v=true) (h:Q v { s with toks:=s.toks+1 }) :
  wpAny (model prog w) A (getAttr (.ref x) name expr) Q E s:=by
 obtain⟨od,J,hl⟩:=I.look;exact PySem.W.get_value X J (PySem.W.plainGet_of hg).1 (PySem.W.findObj_own hh ha rfl (by rw[hl,hv])) hv' h
theorem zua{ns:List Str}{Q:Unit->Shared->Prop}(X:K.In s.heap)(I:ObjM s.heap x dx C mA)
  (hs:PySem.W.findIn K (.ref C) "__setattr__" = some (some (.builtin "object.__setattr__"))) (hp:PySem.W.plainOver K C=true) (ht:PySem.W.takerIn K C name=some none) (hh:PySem.W.hasDictIn K C=true)
  (hw:PySem.Within mA ns) (hsz:ns.length<=sizeLine)
  (h:∀ h',ObjM h' x dx C (fun y=>if y=name then some v else mA y)->Heap.SameBut dx s.heap h'->Q () { s with heap:=h',toks:=s.toks+2 }) :
  wpAny (model prog w) A (setAttr (.ref x) name v) Q E s:=by
 obtain⟨od,J,hl⟩:=I.look;refine PySem.W.set_plain X J hs (PySem.W.osa_open (s:={ s with toks:=s.toks+1 }) (r:=none) X J hp ht fun b=>?_);obtain⟨cd,hc,hd'⟩:=PySem.W.any_some hh;have hx:s.heap.get? x=some ⟨.ref C,some dx,.plain,#[]⟩:=I.obj;refine wpAny_bind (wpAny_pure (wpAny_bind (wpAny_bind (wpAny_loadPart hx (wpAny_bind (PySem.W.Looks.here (s:={ s with toks:=s.toks+1 }) (PySem.W.looks_clsIn X hc) ?_))))));rw[hd'];refine wpAny_pure (a:=some dx) (wpAny_bind (wpAny_pure (wpAny_bind ?_)));refine wpAny_nsSet1 (s:={ s with toks:=s.toks+1 }) I.ns fun h' hn2 hs2=>?_;obtain⟨oD,esD,epD,hoD,hdD,hcD⟩:=hn2.count (PySem.Within.cons name v hw);refine wpAny_bind (wpAny_lookBehind hoD (by rw[hdD];exact pastItsLine_dict (Nat.le_trans hcD (by rw[List.length_cons];omega))) ?_);exact wpAny_pure (h _ ⟨(hs2.2 _ (Ne.symm I.ne)).trans I.obj,hn2,I.ne⟩ hs2)
theorem zlo{R:Result->Shared->Prop}{vs:List Value}{kw:List (Str × Value)}(X:K.In s.heap)(hm:PySem.W.makesIn K C=true)
  (hi:PySem.W.findIn K (.ref C) "__init__" = some (some (.ref f))) (hf:PySem.W.typeIn K (.ref f)=some (.type "function"))
  (h:codeAny (model prog w) (A.under (.builtin "type.__call__" ⟨.ref C::vs,kw⟩)) (.call (.ref f) ⟨.ref (s.heap.objs.size+1)::vs,kw⟩) (PySem.W.InitBack (s.heap.objs.size+1) R)
   { s with heap:=(s.heap.push PySem.W.emptyDict).push (PySem.W.instObj C s.heap.objs.size) }) :
  codeAny (model prog w) A (.call (.ref C) ⟨vs,kw⟩) R s:=by
 obtain⟨hh,g,d,t,os⟩:=s;exact PySem.W.make_core (PySem.W.makes_of X hm) (PySem.W.looks_findIn X hi) (fun self=>PySem.W.bind_fn X self hf) (.inl rfl) h
end
def putF(f:Str)(v:V):List (Str × V)->List (Str × V)
 |[]=>[(f,v)]
 |(g,x)::r=>if g=f then (g,v)::r else (g,x)::putF f v r
theorem zdv(f g:Str)(v:V):∀ fs:List (Str × V),(putF f v fs).lookup g=if g=f then some v else fs.lookup g
 |[]=>by
  show List.lookup g [(f,v)]=_;by_cases h:g=f
  ·have hb:(g == f)=true:=beq_iff_eq.mpr h;simp only[List.lookup,hb,if_pos h]
  ·have hb:(g == f)=false:=beq_eq_false_iff_ne.mpr h;simp only[List.lookup,hb,if_neg h]
 |(k,x)::r=>by
  have ih:=zdv f g v r;rw[show putF f v ((k,x)::r)=(if k=f then (k,v)::r else (k,x)::putF f v r)from rfl];by_cases hk:k=f
  ·rw[if_pos hk];by_cases h:g=k
   ·have hb:(g == k)=true:=beq_iff_eq.mpr h;simp only[List.lookup,hb,if_pos (h.trans hk)]
   ·have hb:(g == k)=false:=beq_eq_false_iff_ne.mpr h;simp only[List.lookup,hb,if_neg (fun e:g=f=>h (e.trans hk.symm))]
  ·rw[if_neg hk];by_cases h:g=k
   ·have hb:(g == k)=true:=beq_iff_eq.mpr h;simp only[List.lookup,hb,if_neg (fun e:g=f=>hk (h.symm.trans e))]
   ·have hb:(g == k)=false:=beq_eq_false_iff_ne.mpr h;simp only[List.lookup,hb];exact ih
theorem zgz(f:Str)(v:V):∀ fs:List (Str × V),f∈(putF f v fs).map (·.1)/\∀ g,g∈fs.map (·.1)->g∈(putF f v fs).map (·.1)
 |[]=>⟨by simp[putF],fun g h=>by simp at h⟩
 |(k,x)::r=>by
  obtain⟨i1,i2⟩:=zgz f v r;rw[show putF f v ((k,x)::r)=(if k=f then (k,v)::r else (k,x)::putF f v r)from rfl];by_cases hk:k=f
  ·rw[if_pos hk];subst hk;exact⟨by simp,fun g h=>by simpa using h⟩
  ·rw[if_neg hk];refine⟨?_,fun g h=>?_⟩
   ·rw[List.map_cons];exact List.mem_cons_of_mem _ i1
   ·rw[List.map_cons]at h ⊢;rcases List.mem_cons.mp h with e|e
    ·exact List.mem_cons.mpr (.inl e)
    ·exact List.mem_cons_of_mem _ (i2 g e)
theorem zdt(f:Str)(v:V):∀ fs:List (Str × V),(putF f v fs).length<=fs.length+1
 |[]=>by simp[putF]
 |(k,x)::r=>by
  have ih:=zdt f v r;rw[show putF f v ((k,x)::r)=(if k=f then (k,v)::r else (k,x)::putF f v r)from rfl];by_cases hk:k=f
  ·rw[if_pos hk,List.length_cons,List.length_cons];omega
  ·rw[if_neg hk,List.length_cons,List.length_cons];omega
theorem yhe.some_of{v:V}{o:Option Value}(r:yhe (some v) o):∃ u,o=some u/\yhf v u:=by
 cases o with
 |none=>exact(show False from r).elim
 |some u=>exact⟨u,rfl,r⟩
theorem zgq{v:V}{u:Value}(r:yhf v u):PySem.W.handedIn u=true:=by
 cases v with
 |non=>cases (show u=Value.none from r);rfl
 |bl b=>cases (show u=Value.bool b from r);rfl
 |int i=>obtain⟨t,e⟩:=(show ∃ t,u=Value.int i t from r);cases e;rfl
 |str x=>obtain⟨t,e⟩:=(show ∃ t,u=Value.str x t from r);cases e;rfl
 |byt b=>obtain⟨t,e⟩:=(show ∃ t,u=Value.bytes b t from r);cases e;rfl
 |flt b=>obtain⟨t,e⟩:=(show ∃ t,u=Value.float b t from r);cases e;rfl
 |ref a=>cases (show u=Value.ref a from r);rfl
 |ty n=>cases (show u=Value.type n from r);rfl
section
variable{P:Program}{w:World}{H H':Hp}{h h':Heap}{a C dx:Addr}{fs fs':List (Str × V)}
theorem zqu(hok:HOk P w H h)(e:H a=some (.ins C dx fs)):∃ mA,ObjM h a dx C mA/\(∀ f,yhe (fs.lookup f) (mA f))/\PySem.Within mA (fs.map (·.1))/\fs.length<=1000/\H dx=some (.own a):=by
 obtain⟨d,z,ne,ob,mA,n,r,q⟩:=(show yb3 P w H h a (.ins C dx fs)from hok a _ e)
 exact⟨mA,⟨ob,n,ne⟩,r,q,z,d⟩
end
structure Cls(K:PySem.W.Frag)(C:Addr):Prop where
 pg:PySem.W.plainGet K C Str.empty=true
 hd:PySem.W.hasDictIn K C=true
 po:PySem.W.plainOver K C=true
 sa:PySem.W.findIn K (.ref C) "__setattr__" = some (some (.builtin "object.__setattr__"))
theorem Cls.get{K:PySem.W.Frag}{C:Addr}(c:Cls K C)(f:Str):PySem.W.plainGet K C f=true:=c.pg
def zve(K:PySem.W.Frag)(C:Addr)(f:Str):Prop:=PySem.W.findIn K (.ref C) f=some none
theorem zve.taker{K:PySem.W.Frag}{C:Addr}{f:Str}(n:zve K C f):PySem.W.takerIn K C f=some none:=by
 unfold PySem.W.takerIn;rw[show PySem.W.findIn K (.ref C) f=some none from n];rfl
structure Con(K:PySem.W.Frag)(C:Addr)(f:Str)(v:V)(u:Value):Prop where
 at_:PySem.W.findIn K (.ref C) f=some (some u)
 rel:yhf v u
 get:PySem.W.specialIn K u "__get__" = some none
 cp:PySem.W.copiedNames.contains f=false
structure Meth(K:PySem.W.Frag)(C:Addr)(m:Str)(f:Addr):Prop where
 at_:PySem.W.findIn K (.ref C) m=some (some (.ref f))
 fn:PySem.W.isFn K (.ref f)=true
 kp:PySem.W.keepIn K (.ref f)=true
section
variable{X:Cx}{pins:List (Addr × Obj)}{σ:St}{H:Hp}{s:Shared}{a C dx:Addr}{fs:List (Str × V)}{f:Str}{v:V}{A:Around}{E:Value->Shared->Prop}
theorem zex{b:Bool}{Q:Value->Shared->Prop}(I:Inv X pins σ H s)(e:H a=some (.ins C dx fs))(c:Cls X.K C)(n:zve X.K C f)(l:fs.lookup f=some v)
  (h:∀ u s',Inv X pins σ H s'->yhf v u->Q u s'):wpAny (model X.prog X.w) A (getAttr (.ref a) f b) Q E s:=by
 obtain⟨mA,O,r,_,_,_⟩:=zqu I.hok e;obtain⟨u,hu,ru⟩:=yhe.some_of (v:=v) (o:=mA f) (by rw[<-l];exact r f);exact zqk I.kIn O (c.get f) c.hd n hu (zgq ru) (h u _ (I.tok _) ru)
theorem zfj{y:V}{u:Value}{Q:Unit->Shared->Prop}(I:Inv X pins σ H s)(e:H a=some (.ins C dx fs))(c:Cls X.K C)(n:zve X.K C f)(hl:fs.length<1000)(ry:yhf y u)
  (h:∀ s',Inv X pins σ (upd H a (.ins C dx (putF f y fs))) s'->Q () s'):wpAny (model X.prog X.w) A (setAttr (.ref a) f u) Q E s:=by
 obtain⟨mA,O,r,wi,_,ho⟩:=zqu I.hok e;have hz:(fs.map (·.1)).length<=sizeLine:=by rw[List.length_map,sizeLine_eq];omega
 refine zua I.kIn O c.sa c.po n.taker c.hd wi hz fun h' O' sb=>h _ ?_;have hd:∃ o,h'.get? dx=some o:=let ⟨o,_,_,e',_⟩:=O'.ns;⟨o,e'⟩;refine I.write (x:=a) (e:=dx) (by rw[e];exact True.intro) (.inr ho) (fun b q hb z=>(sb.2 b hb).trans z) hd ?_;refine⟨by rw[ybq O.ne];exact ho,?_,O.ne,O'.obj,_,O'.ns,fun g=>?_,fun g hg=>?_⟩
 ·have:=zdt f y fs;omega
 ·show yhe ((putF f y fs).lookup g) (if g=f then some u else mA g);rw[zdv];by_cases q:g=f
  ·rw[if_pos q,if_pos q];exact ry
  ·rw[if_neg q,if_neg q];exact r g
 ·by_cases q:g=f
  ·rw[q];exact(zgz f y fs).1
  ·refine(zgz f y fs).2 g (wi g fun z=>hg ?_);show (if g=f then some u else mA g)=none;rw[if_neg q];exact z
theorem Inv.made(I:Inv X pins σ H s):Inv X pins σ (upd (upd H s.heap.objs.size (.own (s.heap.objs.size+1))) (s.heap.objs.size+1) (.ins C s.heap.objs.size []))
  { s with heap:=(s.heap.push PySem.W.emptyDict).push (PySem.W.instObj C s.heap.objs.size) }:=by
 have e1:(s.heap.push PySem.W.emptyDict).get? s.heap.objs.size=some PySem.W.emptyDict:=Heap.get?_push_size s.heap rfl;have e2:((s.heap.push PySem.W.emptyDict).push (PySem.W.instObj C s.heap.objs.size)).get? (s.heap.objs.size+1)=some (PySem.W.instObj C s.heap.objs.size):=by
  have:=Heap.get?_push_size (s.heap.push PySem.W.emptyDict) (o:=PySem.W.instObj C s.heap.objs.size) rfl
  rwa [Heap.size_push]at this
 have e3:(s.heap.push PySem.W.emptyDict).Ns s.heap.objs.size (fun _=>none):=⟨PySem.W.emptyDict,#[],_,e1,rfl,(fun e he=>absurd he (by simp)),fun _=>rfl⟩
 have I1:=I.laid (a:=s.heap.objs.size) (o:=.own (s.heap.objs.size+1)) (h':=s.heap.push PySem.W.emptyDict) (t':=s.toks) (fun b u q=>Heap.get?_push_of_some _ q) (Nat.le_refl _) ⟨_,e1⟩;refine I1.laid (a:=s.heap.objs.size+1) (o:=.ins C s.heap.objs.size []) (t':=s.toks) (fun b u q=>Heap.get?_push_of_some _ q) (Nat.le_of_eq (Heap.size_push _ _)) ?_;have ne:s.heap.objs.size≠s.heap.objs.size+1:=Nat.ne_of_lt (Nat.lt_succ_self _);refine⟨by rw[ybq ne,znp],Nat.zero_le _,ne,e2,fun _=>none,(Heap.Ns1.of_empty e3).at fun o q=>Heap.get?_push_of_some _ q,fun _=>True.intro,fun y hy=>absurd rfl hy⟩
theorem zod{prog:Program}{w:World}{env:Env}{e:Expr}{f:Str}{pos:Pos}{s:Shared}{Q:Value->Shared->Prop}(hb:attributeBase e f env (eval e env)=eval e env)
  (h:wpAny (model prog w) A (eval e env) (fun o s₁=>wpAny (model prog w) A (getAttr o f true) Q E s₁) E s):wpAny (model prog w) A (eval (.Attribute e f pos) env) Q E s:=
 Attribute_any_ h (by rw[arm_eval_Attribute,hb])
end
def yle(K:PySem.W.Frag)(ta:TE)(f:Str):TE:=fun σ H Q=>ta σ H fun x H1=>∃ a C dx fs v,x=.ref a/\H1 a=some (.ins C dx fs)/\Cls K C/\zve K C f/\fs.lookup f=some v/\Q v H1
def yku(K:PySem.W.Frag)(ta tv:TE)(f:Str):TS:=fun D σ H=>tv σ H fun y H1=>ta σ H1 fun x H2=>∃ a C dx fs,x=.ref a/\H2 a=some (.ins C dx fs)/\Cls K C/\zve K C f/\fs.length<1000/\
 D.nx σ (upd H2 a (.ins C dx (putF f y fs)))
section
variable{X:Cx}{o e value:Expr}{f:Str}{pos pos' tpos:Pos}{ta tv:TE}
theorem zzz(he:PE X e ta)(hb:attributeBase e f X.env (eval e X.env)=eval e X.env):PE X (.Attribute e f pos) (yle X.K ta f):=by
 intro pins s σ H Q I h;refine zod hb (thn (he pins s σ H _ I h) fun u s1 ⟨x,H1,I1,rx,a,C,dx,fs,v,ex,ea,c,n,l,q⟩=>?_);subst ex;obtain rfl:u=Value.ref a:=rx;exact zex I1 ea c n l fun u' s2 I2 ru=>⟨v,H1,I2,ru,q⟩
theorem yai(ha:PE X o ta)(hv:PE X value tv)(hs:swapsWith value (some (.Attribute o f pos')) pos.line X.env=pure false):PS X (.Assign [.Attribute o f pos'] value pos) (yku X.K ta tv f):=by
 intro pins s σ H D I h;refine plainObj_wpAny_Assign_Attribute (thn (hv pins s σ H _ I h) fun u s1 ⟨y,H1,I1,ry,q⟩=>thn (ha pins s1 σ H1 _ I1 q) fun ov s2 ⟨x,H2,I2,rx,a,C,dx,fs,ex,ea,c,n,l,q2⟩=>?_) hs;subst ex;obtain rfl:ov=Value.ref a:=rx;exact zfj I2 ea c n l ry fun s3 I3=>⟨σ,_,I3,q2⟩
end
section
variable{X:Cx}{pins:List (Addr × Obj)}{σ:St}{H:Hp}{s:Shared}{A:Around}{E:Value->Shared->Prop}{Q:Value->Shared->Prop}{c:Value}{b:Bool}
inductive TyOf(K:PySem.W.Frag)(H:Hp):V->Value->Prop where
 |non:TyOf K H .non (.type "NoneType")
 |bl (x:Bool):TyOf K H (.bl x) (.type "bool")
 |int (i:Int):TyOf K H (.int i) (.type "int")
 |str (x:Str):TyOf K H (.str x) (.type "str")
 |flt (x:UInt64):TyOf K H (.flt x) (.type "float")
 |lst {a:Addr} {xs:List V} (e:H a=some (.lst xs)):TyOf K H (.ref a) (.type "list")
 |frz {a:Addr} {o:Obj} {xs:List V} (e:H a=some (.frz o (.lst xs))):TyOf K H (.ref a) (.type "list")
 |tup {a:Addr} {xs:List V} (e:H a=some (.tup xs)):TyOf K H (.ref a) (.type "tuple")
 |dK {a:Addr} {kvs:List (Key × V)} (e:H a=some (.dK kvs)):TyOf K H (.ref a) (.type "dict")
 |dT {a:Addr} {kvs:List (List Key × V)} (e:H a=some (.dT kvs)):TyOf K H (.ref a) (.type "dict")
 |ins {a C dx:Addr} {fs:List (Str × V)} (e:H a=some (.ins C dx fs)) (cl:Cls K C) (ha:PySem.W.findIn K (.ref C) "__class__" = some (some (.builtin "object.__class__")))
   (hn:PySem.W.specialIn K (.builtin "object.__class__") "__get__" = some (some (.builtin "getset_descriptor.__get__"))) (htk:PySem.W.takesIn K (.builtin "object.__class__")=some true)
   (hm:PySem.W.mroIn K C (.type "object")=some true):TyOf K H (.ref a) (.ref C)
theorem zgu{x:V}{u t:Value}(I:Inv X pins σ H s)(rx:yhf x u)(ty:TyOf X.K H x t)(e:PySem.W.kitOne X.K t c=some b)(h:∀ tk,Q (.bool b) { s with toks:=tk }) :
  wpAny (model X.prog X.w) A (call (.builtin "isinstance") [u,c]) Q E s:=by
 cases ty with
 |non=>cases (show u=Value.none from rx);exact PySem.W.kia_one PySem.W.kitx_none I.kIn True.intro e (fun z=>nomatch z) h
 |bl y=>cases (show u=Value.bool y from rx);exact PySem.W.kia_one PySem.W.kitx_bool I.kIn True.intro e (fun z=>nomatch z) h
 |int i=>obtain⟨t,q⟩:=(show ∃ t,u=Value.int i t from rx);cases q;exact PySem.W.kia_one PySem.W.kitx_int I.kIn True.intro e (fun z=>nomatch z) h
 |str y=>obtain⟨t,q⟩:=(show ∃ t,u=Value.str y t from rx);cases q;exact PySem.W.kia_one PySem.W.kitx_str I.kIn True.intro e (fun z=>nomatch z) h
 |flt y=>obtain⟨t,q⟩:=(show ∃ t,u=Value.float y t from rx);cases q;exact PySem.W.kia_one PySem.W.kitx_float I.kIn True.intro e (fun z=>nomatch z) h
 |@lst a xs ea=>
  cases (show u=Value.ref a from rx);obtain⟨_,_,n,_,h1⟩:=(show yb3 X.prog X.w H s.heap a (.lst xs)from I.hok a _ ea)
  exact PySem.W.kia_one PySem.W.kitx_list I.kIn ⟨_,h1,rfl⟩ e (fun z=>nomatch z) h
 |@frz a ob xs ea=>
  cases (show u=Value.ref a from rx);obtain⟨_,_,_,n,_,h1⟩:=(show yb3 X.prog X.w H s.heap a (.frz ob (.lst xs))from I.hok a _ ea)
  exact PySem.W.kia_one PySem.W.kitx_list I.kIn ⟨_,h1,rfl⟩ e (fun z=>nomatch z) h
 |@tup a xs ea=>
  cases (show u=Value.ref a from rx);obtain⟨_,_,_,p⟩:=(show yb3 X.prog X.w H s.heap a (.tup xs)from I.hok a _ ea)
  obtain⟨o,h1,h2,_⟩:=p;exact PySem.W.kia_one PySem.W.kitx_tuple I.kIn ⟨o,h1,h2⟩ e (fun z=>nomatch z) h
 |@dK a kvs ea=>
  cases (show u=Value.ref a from rx);obtain⟨_,_,vs,_,p⟩:=(show yb3 X.prog X.w H s.heap a (.dK kvs)from I.hok a _ ea)
  obtain⟨o,es,ep,h1,h2,_⟩:=p;exact PySem.W.kia_one PySem.W.kitx_dict I.kIn ⟨o,h1,h2.1⟩ e (fun z=>nomatch z) h
 |@dT a kvs ea=>
  cases (show u=Value.ref a from rx);obtain⟨_,_,xs,_,o,es,ep,h1,h2,_⟩:=(show yb3 X.prog X.w H s.heap a (.dT kvs)from I.hok a _ ea)
  exact PySem.W.kia_one PySem.W.kitx_dict I.kIn ⟨o,h1,h2.1⟩ e (fun z=>nomatch z) h
 |@ins a C dx fs ea cl ha hn htk hm=>
  cases (show u=Value.ref a from rx);obtain⟨mA,O,_⟩:=zqu I.hok ea;obtain⟨od,J,_⟩:=O.look;exact PySem.W.kia_one (PySem.W.kitx_own (cl.get _) cl.hd ha hn htk hm) I.kIn J e (fun z=>nomatch z) h
end
end L2
namespace L2
open PySem PySem.Spec PyProof.Rows
structure Room(k:Nat)(A:Around):Prop where
 hd:A.handled=none
 dp:A.depth+3 * k+5<recursionLimit
 un:A.units+16 * k+200<cLine
theorem Room.mono{j k:Nat}{A:Around}(r:Room k A)(h:j<=k):Room j A:=⟨r.hd,by have:=r.dp;omega,by have:=r.un;omega⟩
theorem Room.deeper{k:Nat}{A:Around}(r:Room (k+1) A)(env:Env):Room k (A.deeper env):=
 ⟨r.hd,by have:=r.dp;show A.depth+1+3 * k+5<_;omega,by have:=r.un;show A.units+3+16 * k+200<_;omega⟩
theorem Room.in1{k:Nat}{A:Around}(r:Room (k+1) A):Room k A.in1:=
 ⟨r.hd,by have:=r.dp;show A.depth+3 * k+5<_;omega,by have:=r.un;show A.units+1+16 * k+200<_;omega⟩
theorem ze3{A:Around}{C:Addr}{us:List Value}{kw:List (Str × Value)}:(A.under (.builtin "type.__call__" ⟨.ref C::us,kw⟩)).depth=A.depth+1:=by
 first|rfl|simp[Around.under,Code.weight,Code.isCreation,Code.isGuard,Code.isCaller,Code.frames,Code.isFrame,guardIds]
theorem ze4{A:Around}{C:Addr}{us:List Value}{kw:List (Str × Value)}:(A.under (.builtin "type.__call__" ⟨.ref C::us,kw⟩)).units=A.units+1:=by
 first|rfl|simp[Around.under,Code.cUnits,Code.frames,Code.isFrame]
theorem Room.make{k:Nat}{A:Around}(r:Room (k+1) A)(C:Addr)(us:List Value)(kw:List (Str × Value)):Room k (A.under (.builtin "type.__call__" ⟨.ref C::us,kw⟩)):=
 ⟨r.hd,by have:=r.dp;rw[ze3];omega,by have:=r.un;rw[ze4];omega⟩
theorem Room.depth{k:Nat}{A:Around}(r:Room k A):A.depth<recursionLimit:=by have:=r.dp;omega
theorem Room.units{k:Nat}{A:Around}(r:Room k A):A.units+64<cLine:=by have:=r.un;omega
def yli:TA:=fun _ H Q=>Q [] H
def yf8(ta:TE)(tr:TA):TA:=fun σ H Q=>ta σ H fun x H1=>tr σ H1 fun xs H2=>Q (x::xs) H2
section
variable{X:Cx}{e:Expr}{es:List Expr}{te:TE}{t:TA}{pos:Pos}
theorem zzv:PA X [] yli:=fun _ _ _ _ H Q I h=>Calls.spliced_nil ⟨[],H,I,.nil,h⟩
theorem zsu(ha:PE X e te)(hr:PA X es t)(hs:starEach (e::es) X.env=(false,eval e X.env)::starEach es X.env:=by rfl):PA X (e::es) (yf8 te t):=by
 intro pos pins s σ H Q I h;rw[hs];show wpAny _ _ (spliced ((false,eval e X.env)::backTo pos (starEach es X.env))) _ _ s;refine Calls.spliced_cons (thn (ha pins s σ H _ I h) fun u s1 ⟨x,H1,I1,r1,q1⟩=>?_);exact thn (hr pos pins s1 σ H1 _ I1 q1) fun us s2 ⟨xs,H2,I2,r2,q2⟩=>⟨x::xs,H2,I2,.cons r1 r2,q2⟩
def yln(t:TA):TE:=fun σ H Q=>t σ H fun xs H1=>xs.length<=sizeLine/\∀ p,H1 p=none->Q (.ref p) (upd H1 p (.tup xs))
def ylh(t:TA):TE:=fun σ H Q=>t σ H fun xs H1=>xs.length<=sizeLine/\∀ p,H1 p=none->Q (.ref p) (upd H1 p (.lst xs))
theorem zz6{x1}(h:PA X es t):PE X (.Tuple es x1 pos) (yln t):=by
 intro pins s σ H Q I hq;refine wpAny_Tuple_spliced (thn (h pos pins s σ H _ I hq) fun us s1 ⟨xs,H1,I1,r,z,q⟩=>⟨by rw[<-r.length];exact z,?_⟩);have hf:H1 s1.heap.objs.size=none:=I1.hok.fresh (Nat.le_refl _);refine⟨.ref s1.heap.objs.size,upd H1 s1.heap.objs.size (.tup xs),I1.laid (t':=s1.toks) (fun b u e=>Heap.get?_push_of_some _ e) (Nat.le_refl _) ?_,rfl,q _ hf⟩;exact⟨z,us,r,⟨_,Heap.get?_push_size _ rfl,rfl,_,rfl⟩⟩
theorem zz1(h:PA X es t):PE X (.List es pos) (ylh t):=by
 intro pins s σ H Q I hq;refine wpAny_List_spliced (thn (h pos pins s σ H _ I hq) fun us s1 ⟨xs,H1,I1,r,z,q⟩=>⟨by rw[<-r.length];exact z,?_⟩);have hf:H1 s1.heap.objs.size=none:=I1.hok.fresh (Nat.le_refl _);refine⟨.ref s1.heap.objs.size,upd H1 s1.heap.objs.size (.lst xs),I1.laid (t':=s1.toks) (fun b u e=>Heap.get?_push_of_some _ e) (Nat.le_refl _) ?_,rfl,q _ hf⟩;exact⟨z,us,0,r,Heap.get?_push_size _ rfl⟩
end
abbrev Sp:=List V->Hp->VK->XK->Prop
abbrev CXT:=List Env->Hp->Shared->XK->Value->Shared->Prop
structure Env0(P:Program)(w:World)(K:PySem.W.Frag)(mg:Str->Option Value)(base:Heap)(A:Around)(outer:List Env)(s:Shared)(H:Hp):Prop where
 frames:A.frames=some outer
 mod:Mod K mg base
 bs:∀ b o,base.get? b=some o->s.heap.get? b=some o/\H b=none
 bsz:base.objs.size<=s.heap.objs.size
 funs:s.heap.FunFrames base outer
 frf:∀ b∈frs outer,H b=none
 hok:HOk P w H s.heap
 bare:AllBare s.gens
def CE(outer:List Env)(P:Program)(w:World)(H:Hp)(s:Shared)(Q:VK)(u:Value)(s':Shared):Prop:=
 ∃ v H',s'.os=s.os/\AllBare s'.gens/\Un (frs outer) [] H H' s.heap s'.heap/\HOk P w H' s'.heap/\yhf v u/\Q v H'
def CR(CX:CXT)(outer:List Env)(P:Program)(w:World)(H:Hp)(s:Shared)(Q:VK)(E:XK)(r:Result)(s':Shared):Prop:=
 match r with
 | .ok (.ret u)=>CE outer P w H s Q u s'
 | .ok _=>False
 | .error e=>CX outer H s E e s'
structure FnOk(P:Program)(w:World)(K:PySem.W.Frag)(mg:Str->Option Value)(base:Heap)(CX:CXT)(k:Nat)(f:Addr)(fd:FuncData)(ps:List Str)(sp:Sp):Prop where
 len:∀ vs H Q E,sp vs H Q E->vs.length=ps.length
 run:∀ (A:Around) (outer:List Env) (s:Shared) (H:Hp) (args:Args) (us:List Value) (vs:List V) (Q:VK) (E:XK),Room k A->Env0 P w K mg base A outer s H->BindsTo s fd args (ps.zip us)->yho vs us->sp vs H Q E->
  codeAny (model P w) A (.call (.ref f) args) (CR CX outer P w H s Q E) s
theorem FnOk.mono{P:Program}{w:World}{K:PySem.W.Frag}{mg:Str->Option Value}{base:Heap}{CX:CXT}{j k:Nat}{f:Addr}{fd:FuncData}{ps:List Str}{sp:Sp}(F:FnOk P w K mg base CX j f fd ps sp)(h:j<=k) :
  FnOk P w K mg base CX k f fd ps sp:=⟨F.len,fun A outer s H args us vs Q E hr=>F.run A outer s H args us vs Q E (hr.mono h)⟩
theorem FnOk.imp{P:Program}{w:World}{K:PySem.W.Frag}{mg:Str->Option Value}{base:Heap}{CX:CXT}{k:Nat}{f:Addr}{fd:FuncData}{ps:List Str}{sp sp':Sp}(F:FnOk P w K mg base CX k f fd ps sp)
  (h:∀ vs H Q E,sp' vs H Q E->sp vs H Q E):FnOk P w K mg base CX k f fd ps sp':=
 ⟨fun vs H Q E q=>F.len vs H Q E (h _ _ _ _ q),fun A outer s H args us vs Q E hr he hb hv hs=>F.run A outer s H args us vs Q E hr he hb hv (h _ _ _ _ hs)⟩
theorem Env0.make{P:Program}{w:World}{K:PySem.W.Frag}{mg:Str->Option Value}{base:Heap}{A:Around}{outer:List Env}{s:Shared}{H:Hp}(e:Env0 P w K mg base A outer s H)(C:Addr)(us:List Value)(kw:List (Str × Value)) :
  Env0 P w K mg base (A.under (.builtin "type.__call__" ⟨.ref C::us,kw⟩)) outer s H:=⟨by first|exact e.frames|(simpa [Around.under,Code.envs,Code.isFrame,pushEnvs]using e.frames),e.mod,e.bs,e.bsz,e.funs,e.frf,e.hok,e.bare⟩
theorem Env0.in1{P:Program}{w:World}{K:PySem.W.Frag}{mg:Str->Option Value}{base:Heap}{A:Around}{outer:List Env}{s:Shared}{H:Hp}(e:Env0 P w K mg base A outer s H) :
  Env0 P w K mg base A.in1 outer s H:=⟨e.frames,e.mod,e.bs,e.bsz,e.funs,e.frf,e.hok,e.bare⟩
section
variable{X:Cx}{pins:List (Addr × Obj)}{σ:St}{H:Hp}{s s':Shared}
theorem Inv.env0(I:Inv X pins σ H s):Env0 X.prog X.w X.K X.mg X.base X.A X.stack s H:=
 ⟨I.ok.frames,I.ok.mod,I.bs,Nat.le_trans I.ok.bsz I.sz,I.stack,I.stkFree,I.hok,I.bare⟩
theorem Inv.after{Q:VK}{u:Value}(I:Inv X pins σ H s)(h:CE X.stack X.prog X.w H s Q u s'):EP X pins σ Q u s':=by
 obtain⟨v,H',os,bare,un,hok,r,q⟩:=h;obtain⟨hh,g,d,t,os'⟩:=s';obtain rfl:os'=s.os:=os;exact⟨v,H',I.call (h':=hh) (g':=g) (d':=d) (t':=t) (ch:=[]) un hok bare (fun b z=>absurd z (by simp)),r,q⟩
end
def ybt(K:PySem.W.Frag)(fd:FuncData)(ps:List Str)(ds:List Value):Prop:=
 ∀ (s:Shared) (us:List Value),K.In s.heap->(us++ds).length=ps.length->BindsTo s fd ⟨us,[]⟩ (ps.zip (us++ds))
theorem ybt.all{K:PySem.W.Frag}{fd:FuncData}{ps:List Str}(h:∀ us:List Value,us.length=ps.length->bindArgs fd ⟨us,[]⟩=pure (ps.zip us)):ybt K fd ps []:=fun s us _ hl=>by
 rw[List.append_nil]at hl ⊢;exact .of_eq (h us hl)
section
variable{X:Cx}{CX:CXT}{k:Nat}{f C:Addr}{fd:FuncData}{ps:List Str}{sp:Sp}{dvs:List V}{ds:List Value}{E:XK}{x m:Str}{p pos apos:Pos}{e o:Expr}{es:List Expr}{ta:TE}{t:TA}
structure Mk(K:PySem.W.Frag)(C f:Addr):Prop where
 makes:PySem.W.makesIn K C=true
 init:PySem.W.findIn K (.ref C) "__init__" = some (some (.ref f))
 fn:PySem.W.isFn K (.ref f)=true
 kp:PySem.W.keepIn K (.ref C)=true
end
section
variable{X:Cx}{CX:CXT}{k:Nat}{f C:Addr}{fd:FuncData}{ps ks:List Str}{sp:Sp}{E:XK}{x m:Str}{p pos apos kpos:Pos}{e o:Expr}{es:List Expr}{kws:List Keyword}{te ta:TE}{t tk:TA}{nm:Option Str}
structure KBinds(K:PySem.W.Frag)(fd:FuncData)(ps ks:List Str)(g:List Value->List Value->List Value)(gV:List V->List V->List V):Prop where
 to:∀ (s:Shared) (us ws:List Value),K.In s.heap->(g us ws).length=ps.length->BindsTo s fd ⟨us,ks.zip ws⟩ (ps.zip (g us ws))
 rel:∀ {vs:List V} {us:List Value} {zs:List V} {ws:List Value},yho vs us->yho zs ws->yho (gV vs zs) (g us ws)
variable{g:List Value->List Value->List Value}{gV:List V->List V->List V}
end
structure FnScope(N P:List Str)(sc:Scope):Prop where
 kind:sc.kind=.function
 co:sc.isCoroutine=false
 gen:sc.isGenerator=false
 nd:N.Nodup
 pre:N.take P.length=P
 par:∀ x∈P,sc.names.lookup x=some .local\/sc.names.lookup x=some .cell
 nofree:∀ y∈sc.names,y.2≠.free
theorem zf3{kindOf:Str->Option NameKind}{x:Str}:∀ {binds:List (Str × Value)} {m:Str->Option Value},(∀ v,(x,v) ∉ binds)->bindL kindOf binds m x=m x
 |[],_,_=>rfl
 |(n,v)::r,m,h=>by
  unfold bindL;rw[zf3 fun w hw=>h w (List.mem_cons_of_mem _ hw)];split
  ·have:x≠n:=by rintro rfl;exact h v List.mem_cons_self
   simp[this]
  ·rfl
theorem zf1{kindOf:Str->Option NameKind}{x:Str}:∀ {binds:List (Str × Value)} {m:Str->Option Value},(∀ v,(x,v) ∉ binds)->bindC kindOf binds m x=m x
 |[],_,_=>rfl
 |(n,v)::r,m,h=>by
  unfold bindC;rw[zf1 fun w hw=>h w (List.mem_cons_of_mem _ hw)];split
  ·rfl
  ·have:x≠n:=by rintro rfl;exact h v List.mem_cons_self
   simp[this]
theorem zf2{kindOf:Str->Option NameKind}{x:Str}{v:Value}:∀ {P:List Str} {vs:List Value} {i:Nat} {m:Str->Option Value},P.Nodup->P[i]?=some x->vs[i]?=some v->kindOf x=some .local->
  bindL kindOf (P.zip vs) m x=some v
 |[],_,_,_,_,h,_,_=>by simp at h
 |_::_,[],_,_,_,_,h,_=>by simp at h
 |p::P,w::vs,0,m,nd,h1,h2,hk=>by
  simp at h1 h2;subst h1;subst h2;show bindL kindOf ((p,w)::P.zip vs) m p=_;unfold bindL;rw[zf3 fun v hv=>(List.nodup_cons.mp nd).1 (List.of_mem_zip hv).1,if_pos hk];simp
 |p::P,w::vs,i+1,m,nd,h1,h2,hk=>by
  show bindL kindOf ((p,w)::P.zip vs) m x=_;unfold bindL;exact zf2 (i:=i) (List.nodup_cons.mp nd).2 (by simpa using h1) (by simpa using h2) hk
theorem zf0{kindOf:Str->Option NameKind}{x:Str}{v:Value}:∀ {P:List Str} {vs:List Value} {i:Nat} {m:Str->Option Value},P.Nodup->P[i]?=some x->vs[i]?=some v->kindOf x≠some .local->
  bindC kindOf (P.zip vs) m x=some v
 |[],_,_,_,_,h,_,_=>by simp at h
 |_::_,[],_,_,_,_,h,_=>by simp at h
 |p::P,w::vs,0,m,nd,h1,h2,hk=>by
  simp at h1 h2;subst h1;subst h2;show bindC kindOf ((p,w)::P.zip vs) m p=_;unfold bindC;rw[zf1 fun v hv=>(List.nodup_cons.mp nd).1 (List.of_mem_zip hv).1,if_neg hk];simp
 |p::P,w::vs,i+1,m,nd,h1,h2,hk=>by
  show bindC kindOf ((p,w)::P.zip vs) m x=_;unfold bindC;exact zf0 (i:=i) (List.nodup_cons.mp nd).2 (by simpa using h1) (by simpa using h2) hk
def yf6(N:List Str)(vs:List V):St:=vs.map some++List.replicate (N.length - vs.length) none
def yh9(CX:CXT)(P:Program)(w:World)(K:PySem.W.Frag)(mg:Str->Option Value)(base:Heap)(N:List Str)(qual:Str)(scope:Scope)(f:Addr)(cd:Value)(A:Around)(outer:List Env)(s:Shared)(H:Hp)(E:XK):Cx where
 prog:=P
 w:=w
 K:=K
 mg:=mg
 base:=base
 A:=A.deeper (envOfC qual scope s.heap.objs.size f cd)
 N:=N
 s₀:=s
 H₀:=H
 env:=envOfC qual scope s.heap.objs.size f cd
 outer:=outer
 stack:=envOfC qual scope s.heap.objs.size f cd::outer
 ex:=[]
 calm:=true
 fn:=fun _=>true
 pn:=[]
 xe:=fun e s'=>wpAny (model P w) (A.deeper (envOfC qual scope s.heap.objs.size f cd)) (leaving (envOfC qual scope s.heap.objs.size f cd) e) (fun _ s''=>CX outer H s E e s'') (fun e' s''=>CX outer H s E e' s'') s'
theorem zi3{sc:Scope}{n:Nat}{x:Str}(h:sc.names.lookup x=some .cell):∃ c,(cellsFrom n sc.names []).lookup x=some c:=by
 have q:=PySem.W.cellsFrom_some sc.names n [] (.inl h);exact Option.isSome_iff_exists.mp q
theorem zgt{CX:CXT}{P:Program}{w:World}{K:PySem.W.Frag}{mg:Str->Option Value}{base:Heap}{N ps:List Str}{qual:Str}{scope:Scope}{f:Addr}{cd:Value}{A:Around}{outer:List Env}{s s1:Shared}{H:Hp}{E:XK}{us:List Value}{vs:List V}
  (S:FnScope N ps scope) (hd:A.handled=none) (e0:Env0 P w K mg base A outer s H) (hl:vs.length=ps.length) (r:yho vs us)
  (x:InCallC s s.heap.objs.size (bindL (envOfC qual scope s.heap.objs.size f cd).kindOf (ps.zip us) fun _=>none) (cellsFrom (s.heap.objs.size+1) scope.names []) (bindC (envOfC qual scope s.heap.objs.size f cd).kindOf (ps.zip us) fun _=>none) s1) :
  Inv (yh9 CX P w K mg base N qual scope f cd A outer s H E) [] (yf6 N vs) H s1:=by
 have hpl:ps.length<=N.length:=by have:=congrArg List.length S.pre;rw[List.length_take]at this;omega
 obtain⟨h1,tk,rfl,hk⟩:=x.done;have noA:∀ b:Addr,b ∉ (yh9 CX P w K mg base N qual scope f cd A outer s H E).ex:=fun b z=>absurd (show b∈([]:List Addr)from z) (by simp);refine⟨⟨e0.mod,S.kind,rfl,rfl,Nat.le_refl _,fun y z c h1 h2=>?_,fun y hy=>?_,fun y c _ h=>?_,fun _=>hd,Around.frames_deeper e0.frames,.inr ⟨rfl,rfl⟩,fun b z=>absurd z (noA b),e0.bs,e0.bsz,fun b _ _=>noA b,fun b z=>absurd z (noA b),e0.funs,e0.frf⟩,
  rfl,e0.bare,Un.kept hk,⟨_,x.toInCall.ns,fun i y v h1 h2 h3=>?_⟩,fun y c h=>⟨_,x.cell y c h⟩,e0.hok.fresh (Nat.le_refl _),fun y c h=>?_,fun p hp=>absurd (show p∈([]:List (Addr × Obj))from hp) (by simp),e0.hok.kept hk,?_⟩
 ·exact name_of_addr x.apart (PySem.mem_of_lookup h1) (PySem.mem_of_lookup h2)
 ·have hy:scope.names.lookup y=some .cell\/scope.names.lookup y=some .free:=hy;rcases hy with hy|hy
  ·exact zi3 hy
  ·exact absurd rfl (S.nofree _ (PySem.mem_of_lookup hy))
 ·exact Nat.le_of_lt (x.above y c (PySem.mem_of_lookup h))
 ·have hi:i<vs.length:=by
   unfold yf6 at h2;by_cases hi:i<vs.length
   ·exact hi
   ·rw[List.getElem?_append_right (by simpa using hi)]at h2;rw[List.getElem?_replicate]at h2;split at h2<;>cases h2
  have ha:vs[i]?=some v:=by
   unfold yf6 at h2;rw[List.getElem?_append_left (by simpa using hi),List.getElem?_map]at h2;cases e:vs[i]? with
   |none=>rw[e]at h2;cases h2
   |some a=>rw[e]at h2;cases h2;rfl
  obtain⟨u,hu,rv⟩:=r.get ha;have hp:ps[i]?=some y:=by
   rw[<-S.pre,List.getElem?_take_of_lt (by omega)];exact h1
  have ndP:ps.Nodup:=by rw[<-S.pre];exact S.nd.sublist (List.take_sublist _ _)
  refine⟨u,rv,?_⟩;rcases S.par y (List.mem_of_getElem? hp)with k|k
  ·exact .inl ⟨k,zf2 ndP hp hu k⟩
  ·obtain⟨c,e⟩:=zi3 (n:=s.heap.objs.size+1) k;refine .inr ⟨.inl k,c,e,?_⟩;have q:=x.cell y c e;rw[zf0 ndP hp hu (by show scope.names.lookup y≠_;rw[k];decide)]at q;exact q
 ·exact e0.hok.fresh (Nat.le_of_lt (x.above y c (PySem.mem_of_lookup h)))
 ·unfold yf6;show _=N.length;rw[List.length_append,List.length_map,List.length_replicate];omega
theorem ydk{CX:CXT}{P:Program}{w:World}{K:PySem.W.Frag}{mg:Str->Option Value}{base:Heap}{k:Nat}{f:Addr}{name qual:Str}{params:Arguments}{body:List Stmt}{scope:Scope}{dV kV doc pm cdv ct oc:Value}{an od:Option Addr}
  {osl:Array (Option Value)} {N ps:List Str} {sp:Sp} (lk:K.lookup f=some ⟨oc,od,.func (PySem.W.fnOf name qual params body scope dV kV doc pm an cdv ct),osl⟩) (hcd:PySem.W.codeIn K cdv qual=true) (S:FnScope N ps scope)
  (len:∀ vs H Q E,sp vs H Q E->vs.length=ps.length)
  (hbody:∀ (A:Around) (outer:List Env) (s:Shared) (H:Hp) (vs:List V) (Q:VK) (E:XK),Room k (A.deeper (envOfC qual scope s.heap.objs.size f cdv))->sp vs H Q E->
   ∃ t,PSs (yh9 CX P w K mg base N qual scope f cdv A outer s H E) body t/\t { nx:=fun _ H'=>Q .non H',rt:=Q } (yf6 N vs) H) :
  FnOk P w K mg base CX (k+1) f (PySem.W.fnOf name qual params body scope dV kV doc pm an cdv ct) ps sp:=by
 refine⟨len,fun A outer s H args us vs Q E hr e0 hb r hsp=>?_⟩;have hl:=len _ _ _ _ hsp;have KX:K.In s.heap:=e0.mod.kin.keeps fun b o e=>(e0.bs b o e).1;have lim:s.heap.NoLimit:=e0.mod.nolimit.keeps fun b o e=>(e0.bs b o e).1;have hkind:∀ y∈ps.zip us,scope.names.lookup y.1=some .local\/(scope.names.lookup y.1=some .cell/\((cellsFrom (s.heap.objs.size+1) scope.names []).lookup y.1).isSome=true):=fun⟨n,v⟩ hy=>by
  rcases S.par n (List.of_mem_zip hy).1 with q|q
  ·exact .inl q
  ·exact .inr ⟨q,PySem.W.cellsFrom_some _ _ _ (.inl q)⟩
 refine codeAny_call_function hr.depth (KX _ _ lk) rfl S.co S.gen rfl (PySem.W.codeRec_of KX hcd) (hb _ _ _ _ ?_);refine wpAny_newFunctionEnv_cells S.kind hkind fun env he s1 x=>?_;subst he;refine⟨lim.keeps x.toInCall.keep,codeAny_func ?_⟩;obtain⟨t,ht,hq⟩:=hbody A outer s H vs Q E (hr.deeper _) hsp;have I:Inv (yh9 CX P w K mg base N qual scope f cdv A outer s H E) [] (yf6 N vs) H s1:=zgt S hr.hd e0 hl r x;refine wpAny_mono (ht [] s1 (yf6 N vs) H _ I hq) (fun fl s' hs=>?_) fun e s' hs=>hs;have fin:∀ {σ':St} {H':Hp} {v:V} {u:Value},Inv (yh9 CX P w K mg base N qual scope f cdv A outer s H E) [] σ' H' s'->yhf v u->Q v H'->CE outer P w H s Q u s':=
  fun {σ' H' v u} J rv q=>⟨v,H',J.os,J.bare,J.base,J.hok,rv,q⟩
 cases fl with
 |ret u=>
  obtain⟨v,σ',H',J,rv,q⟩:=hs;exact fin J rv q
 |next=>
  obtain⟨σ',H',J,q⟩:=hs;exact fin (v:=V.non) (u:=Value.none) J rfl q
 |brk=>
  obtain⟨_,_,_,q⟩:=hs;exact False.elim q
 |cont=>
  obtain⟨_,_,_,q⟩:=hs;exact False.elim q
end L2
namespace L2
open PySem PySem.Spec PyProof.Rows
section
variable{X:Cx}{x:Str}{p pos:Pos}{e:Expr}{es:List Expr}{t:TA}{id T:String}{r:List V->Hp->VK->Prop}
def tCB(r:List V->Hp->VK->Prop)(t:TA):TE:=fun σ H Q=>t σ H fun vs H1=>r vs H1 Q
theorem zmc(hc:ybv X (.builtin id) r)(hg:Gl X x)(hm:X.mg x=none)(hv:bootBuiltins x=some (.builtin id))(ha:PA X (e::es) t)(hn:x ≠ "__name__":=by decide)(hdb:(x == ("__debug__" : Str))=false:=by decide)
  (he:starEach (e::es) X.env=(false,eval e X.env)::starEach es X.env:=by rfl) (hpl:(backTo pos (starEach es X.env)).any (·.1)=false:=by rfl):PE X (.Call (.Name x p) (e::es) [] pos) (tCB r t):=by
 intro pins s σ H Q I h;refine wpAny_Call_Name_kw (zyq I hg hm hv ?_ hn hdb);exact PyProof.Rows.callWith_builtin1 (thn (ha pos pins s σ H _ I h) fun us s1 ⟨vs,H1,I1,r1,q1⟩=>hc pins s1 σ H1 vs us Q I1 r1 q1) he hpl
theorem zhq(hc:ybv X (.type T) r)(hg:Gl X x)(hm:X.mg x=none)(hv:bootBuiltins x=some (.type T))(ha:PA X (e::es) t)(hn:x ≠ "__name__":=by decide)(hdb:(x == ("__debug__" : Str))=false:=by decide)
  (he:starEach (e::es) X.env=(false,eval e X.env)::starEach es X.env:=by rfl) (hpl:(backTo pos (starEach es X.env)).any (·.1)=false:=by rfl):PE X (.Call (.Name x p) (e::es) [] pos) (tCB r t):=by
 intro pins s σ H Q I h;refine wpAny_Call_Name_kw (zyq I hg hm hv ?_ hn hdb);exact PyProof.Rows.callWith_type1 (thn (ha pos pins s σ H _ I h) fun us s1 ⟨vs,H1,I1,r1,q1⟩=>hc pins s1 σ H1 vs us Q I1 r1 q1) he hpl
end
end L2
namespace HT
open PySem PyProof.Rows
section
open PySem.SeqAt
open PySem.AutoSeq1 (wpAny_loadPart')
open PySem.MeetsSeq PySem.MeetsSeq2 PySem.MeetsSeq3
end
section
variable{prog:Program}{w:World}{A:Around}{E:Value->Shared->Prop}{s:Shared}
theorem cat_tup{t b:Addr}{vs ws:List Value}{Q:Value->Shared->Prop}(ht:IsTup s.heap t vs.toArray)(hb:IsTup s.heap b ws.toArray)(hv:vs≠[])
  (h1:ws=[]->Q (.ref t) s) (h2:ws≠[]->Q (.ref s.heap.objs.size) { s with heap:=s.heap.push { cls:=.type "tuple",data:=.seq (vs++ws).toArray } })
  (hsz:vs.length+ws.length<=sizeLine):wpAny (model prog w) A (binaryOp .Add (.ref t) (.ref b)) Q E s:=by
 obtain⟨⟨cls,dd,data,sl⟩,ho,hc,n,hd⟩:=id ht;obtain⟨⟨cls2,dd2,data2,sl2⟩,ho2,hc2,n2,hd2⟩:=id hb;simp only at hc hd hc2 hd2;subst hc hd hc2 hd2;have e:vs.toArray++ws.toArray=(vs++ws).toArray:=by simp
 by_cases hw:ws=[]
 ·exact concat_meets ⟨_,ho,rfl⟩ ⟨_,ho2,rfl⟩ noFill_tuple_add seq_tuple_add PySem.F.slot_tuple_add PySem.F.entry_tuple_add (PySem.F.args_tuple_add_2 _ _)
   (tuple_addW1 t b vs.toArray ws.toArray n n2 dd dd2 sl sl2 (by simpa using hv) (by simp[hw])) ⟨ho,ho2,h1 hw⟩
 ·refine concat_meets ⟨_,ho,rfl⟩ ⟨_,ho2,rfl⟩ noFill_tuple_add seq_tuple_add PySem.F.slot_tuple_add PySem.F.entry_tuple_add (PySem.F.args_tuple_add_2 _ _)
   (tuple_addW2 t b vs.toArray ws.toArray n n2 dd dd2 sl sl2 (by simpa using hv) (by simpa using hw) (by rw[List.size_toArray,List.size_toArray];exact hsz)) ⟨ho,ho2,?_⟩
  rw[e];exact h2 hw
def sIx(n d:Nat):Option Int->Nat
 |none=>d
 |some v=>if v<0 then (v+(n:Int)).toNat else min v.toNat n
end
end HT
namespace L2
open PySem PySem.Spec PyProof.Rows
abbrev TO:=St->Hp->(Option Int->Hp->Prop)->Prop
section
variable{X:Cx}{e:Expr}{te:TE}{lo hi:Option Expr}{tl th:TO}{pos p2:Pos}
def SlR(X:Cx)(r:V->Option Int->Option Int->Hp->VK->Prop):Prop:=
 ∀ (pins:List (Addr × Obj)) (s:Shared) (σ:St) (H:Hp) (x:V) (v vl vu:Value) (lo hi:Option Int) (sl:Addr) (Q:VK),Inv X pins σ H s->yhf x v->s.heap.IsSliceOf sl vl vu .none->IsPart vl lo->IsPart vu hi->r x lo hi H Q->
  ∃ T id,typeLookup (.type T) "__getitem__" = pure (some (.builtin id))/\s.TypeIs v T/\wpAny (model X.prog X.w) X.A (getItem v (.ref sl)) (EP X pins σ Q) X.xe s
theorem SlR.or{r r':V->Option Int->Option Int->Hp->VK->Prop}(h:SlR X r)(h':SlR X r'):SlR X (fun x lo hi H Q=>r x lo hi H Q\/r' x lo hi H Q):=by
 intro pins s σ H x v vl vu lo hi sl Q I rx hs pl pu q;rcases q with q|q
 ·exact h pins s σ H x v vl vu lo hi sl Q I rx hs pl pu q
 ·exact h' pins s σ H x v vl vu lo hi sl Q I rx hs pl pu q
def yh8(xs:List V)(lo hi:Option Int):List V:=(xs.drop (HT.sIx xs.length 0 lo)).take (HT.sIx xs.length xs.length hi - HT.sIx xs.length 0 lo)
theorem zdl(xs:List V)(lo hi:Option Int):(yh8 xs lo hi).length<=xs.length:=by
 unfold yh8;rw[List.length_take,List.length_drop];omega
def yfp(K:PySem.W.Frag):R2:=fun x y H Q=>∃ a b xs ys,x=.ref a/\y=.ref b/\SqT K H a xs/\SqT K H b ys/\xs≠[]/\xs.length+ys.length<=sizeLine/\
 (ys=[]->Q (.ref a) H)/\(ys≠[]->∀ p,H p=none->Q (.ref p) (upd H p (.tup (xs++ys))))
theorem yho.nil_iff{xs:List V}{us:List Value}(r:yho xs us):us=[] ↔ xs=[]:=by
 cases r with
 |nil=>simp
 |cons _ _=>simp
theorem zsq:OpR X (binaryOp .Add) (yfp X.K):=by
 intro pins s σ H x y v u Q I rx ry h;obtain⟨a,b,xs,ys,rfl,rfl,ha,hb,hx,hz,q1,q2⟩:=h;cases rx;cases ry;obtain⟨its,r1,p1,_⟩:=I.tuple ha;obtain⟨its2,r2,p2,_⟩:=I.tuple hb;refine HT.cat_tup p1 p2 (fun z=>hx (r1.nil_iff.mp z)) (fun z=>⟨.ref a,H,I,rfl,q1 (r2.nil_iff.mp z)⟩) (fun z=>?_) (by rw[<-r1.length,<-r2.length];exact hz);refine⟨.ref s.heap.objs.size,_,I.laid (t':=s.toks) (o:=.tup (xs++ys)) (fun b ob q=>Heap.get?_push_of_some _ q) (Nat.le_refl _) ?_,rfl,q2 (fun w=>z (r2.nil_iff.mpr w)) _ (I.hok.fresh (Nat.le_refl _))⟩;exact⟨by rw[List.length_append];exact hz,_,r1.append r2,IsTup.new _ _⟩
end
end L2
namespace L2
open PySem PySem.Spec PyProof.Rows
def ixN(n:Nat)(i:Int):Option Nat:=if 0<=i then (if i<n then some i.toNat else none)else if -(n:Int)<=i then some (i+n).toNat else none
def atI{α:Type}(xs:List α)(i:Int):Option α:=(ixN xs.length i).bind fun j=>xs[j]?
theorem zqy{n:Nat}{i:Int}{j:Nat}(h:ixN n i=some j):seqIndex? i n=some j/\j<n/\-(n:Int)<=i/\i<n:=by
 unfold ixN at h;by_cases h0:0<=i
 ·rw[if_pos h0]at h;by_cases h1:i<n
  ·rw[if_pos h1]at h;have e:i.toNat=j:=Option.some.inj h;exact⟨by rw[seqIndex_of h0 h1,e],by omega,by omega,h1⟩
  ·rw[if_neg h1]at h;cases h
 ·rw[if_neg h0]at h;by_cases h1:-(n:Int)<=i
  ·rw[if_pos h1]at h;have e:(i+n).toNat=j:=Option.some.inj h;exact⟨by rw[seqIndex_neg (by omega) h1,e],by omega,h1,by omega⟩
  ·rw[if_neg h1]at h;cases h
theorem zoa{α:Type}{xs:List α}{i:Int}{v:α}(h:atI xs i=some v):∃ j,seqIndex? i xs.length=some j/\xs[j]?=some v/\j<xs.length/\-(xs.length:Int)<=i/\i<xs.length:=by
 unfold atI at h;cases e:ixN xs.length i with
 |none=>rw[e]at h;cases h
 |some j=>
  rw[e]at h;obtain⟨h1,h2,h3,h4⟩:=zqy e;exact⟨j,h1,h,h2,h3,h4⟩
theorem zob{α:Type}{xs:List α}{j:Nat}{v:α}(h:xs[j]?=some v):atI xs (j:Int)=some v:=by
 have hj:j<xs.length:=(List.getElem?_eq_some_iff.mp h).1;have e:ixN xs.length (j:Int)=some j:=by
  unfold ixN;rw[if_pos (by omega),if_pos (by omega)];simp
 unfold atI;rw[e];exact h
def znz(b:Expr):Prop:=∀ o i,subscripted b false o i=operate [o,i] (getItem o i)
def IxR(X:Cx)(r:R2):Prop:=
 ∀ (value slice:Expr) (pins:List (Addr × Obj)) (s:Shared) (σ:St) (H:Hp) (x y:V) (v u:Value) (Q:VK),Inv X pins σ H s->yhf x v->yhf y u->r x y H Q->
  subscripted slice false v u=operate [v,u] (getItem v u)->wpAny (model X.prog X.w) X.A (subscriptTail value slice v u) (EP X pins σ Q) X.xe s
def MtR(X:Cx)(id:String)(r:V->List V->Hp->VK->Prop):Prop:=
 ∀ (pins:List (Addr × Obj)) (s:Shared) (σ:St) (H:Hp) (x:V) (xs:List V) (v:Value) (us:List Value) (Q:VK),Inv X pins σ H s->yhf x v->yho xs us->r x xs H Q->
  wpAny (model X.prog X.w) X.A (call (.builtin id) (v::us)) (EP X pins σ Q) X.xe s
section
variable{X:Cx}{a b:Expr}{ta tb:TE}{pos:Pos}
theorem IxR.or{r r':R2}(h:IxR X r)(h':IxR X r'):IxR X (fun x y H Q=>r x y H Q\/r' x y H Q):=by
 intro value slice pins s σ H x y v u Q I rx ry q hs;rcases q with q|q
 ·exact h value slice pins s σ H x y v u Q I rx ry q hs
 ·exact h' value slice pins s σ H x y v u Q I rx ry q hs
theorem MtR.or{id:String}{r r':V->List V->Hp->VK->Prop}(h:MtR X id r)(h':MtR X id r'):MtR X id (fun x xs H Q=>r x xs H Q\/r' x xs H Q):=by
 intro pins s σ H x xs v us Q I rx rs q;rcases q with q|q
 ·exact h pins s σ H x xs v us Q I rx rs q
 ·exact h' pins s σ H x xs v us Q I rx rs q
theorem yfh{r:R2}(hr:IxR X r)(ha:PE X a ta)(hb:PE X b tb)(hs:znz b):PE X (.Subscript a b pos) (tOp r ta tb):=by
 intro pins s σ H Q I h;exact Subscript_ (yh0 ha hb I h fun v u s2 x y H2 I2 rx ry q=>hr a b pins s2 σ H2 x y v u Q I2 rx ry q (hs _ _))
def ykg(K:PySem.W.Frag):R2:=fun x y H Q=>∃ p xs i v,x=.ref p/\y=.int i/\SqL K H p xs/\atI xs i=some v/\Q v H
def ykh(K:PySem.W.Frag):R2:=fun x y H Q=>∃ p xs i v,x=.ref p/\y=.int i/\SqT K H p xs/\atI xs i=some v/\Q v H
theorem zqz:IxR X (ykg X.K):=by
 intro value slice pins s σ H x y v u Q I rx ry h hs;obtain⟨p,xs,i,z,rfl,rfl,hq,he,q⟩:=h;cases rx;obtain⟨t,rfl⟩:=ry;obtain⟨its,r,pl,hz⟩:=I.list hq;obtain⟨j,h1,h2,h3,h4,h5⟩:=zoa he;obtain⟨w,ew,rw'⟩:=r.get h2;have hl:=r.length;have hn:=zys;have fin:EP X pins σ Q w s:=⟨z,H,I,rw',q⟩
 by_cases h0:0<=i
 ·have hj:i.toNat=j:=by
   rw[seqIndex_of h0 h5]at h1;exact Option.some.inj h1
  exact item_listR pl.isList h0 (by omega) (by rw[hj];simpa using ew) fin hs
 ·have hj:(i+(its.toArray.size:Int)).toNat=j:=by
   rw[seqIndex_neg (by omega) h4]at h1;rw[List.size_toArray,<-hl];exact Option.some.inj h1
  exact subscriptTail_builtinR (x:=w) pl.isList.typeIs slot_list_getitem.lookup
   (wpAny_getItem_list_neg (Q:=fun r s'=>r=w/\EP X pins σ Q r s') pl.isList (by omega) (by rw[List.size_toArray]<;>omega) (by omega) (by rw[hj];simpa using ew) ⟨rfl,fin⟩) hs
theorem zya:IxR X (ykh X.K):=by
 intro value slice pins s σ H x y v u Q I rx ry h hs;obtain⟨p,xs,i,z,rfl,rfl,hq,he,q⟩:=h;cases rx;obtain⟨t,rfl⟩:=ry;obtain⟨its,r,pl,hz⟩:=I.tuple hq;obtain⟨j,h1,h2,h3,h4,h5⟩:=zoa he;obtain⟨w,ew,rw'⟩:=r.get h2;have hl:=r.length;have hn:=zys;have fin:EP X pins σ Q w s:=⟨z,H,I,rw',q⟩
 exact subscriptTail_builtinR (x:=w) pl.typeIs slot_tuple_getitem.lookup
  (getItem_tuple (j:=j) (Q:=fun r s'=>r=w/\EP X pins σ Q r s') pl (by omega) (by omega) (by rw[List.size_toArray,<-hl];exact h1) (by simpa using ew) ⟨rfl,fin⟩) hs
theorem Inv.lst{pins:List (Addr × Obj)}{σ:St}{H:Hp}{s:Shared}{p:Addr}{xs:List V}(I:Inv X pins σ H s)(h:H p=some (.lst xs)) :
  ∃ (its:List Value) (n:Nat),yho xs its/\s.heap.get? p=some { cls:=.type "list",data:=.seq its.toArray n }/\xs.length<=sizeLine:=by
 obtain⟨z,its,n,r,e⟩:=I.hok p _ h;exact⟨its,n,r,e,z⟩
theorem zdg(lo hi:Option Int)(n:Nat):(sliceBounds lo hi none n).1=((HT.sIx n 0 lo:Nat):Int)/\(sliceBounds lo hi none n).2.1=((HT.sIx n n hi:Nat):Int)/\(sliceBounds lo hi none n).2.2=1:=by
 refine⟨?_,?_,rfl⟩
 ·cases lo with
  |none=>simp[sliceBounds,HT.sIx]
  |some i=>
   simp only[sliceBounds,HT.sIx,Option.getD_none,show (1:Int) > 0 by decide,if_true];by_cases h:i<0
   ·simp only[h,if_true]<;>omega
   ·simp only[h,if_false]<;>omega
 ·cases hi with
  |none=>simp[sliceBounds,HT.sIx]
  |some i=>
   simp only[sliceBounds,HT.sIx,Option.getD_none,show (1:Int) > 0 by decide,if_true];by_cases h:i<0
   ·simp only[h,if_true]<;>omega
   ·simp only[h,if_false]<;>omega
theorem zcp(its:List Value)(lo hi:Option Int):slicePick its.toArray lo hi none=((its.drop (HT.sIx its.length 0 lo)).take (HT.sIx its.length its.length hi - HT.sIx its.length 0 lo)).toArray:=by
 obtain⟨h1,h2,h3⟩:=zdg lo hi its.toArray.size;unfold slicePick;rw[h1,h2,h3];simp only[sliceRange_one,pick_run,List.size_toArray]<;>rfl
def ykk(K:PySem.W.Frag):V->Option Int->Option Int->Hp->VK->Prop:=fun x lo hi H Q=>∃ a xs,x=.ref a/\SqL K H a xs/\∀ p,H p=none->Q (.ref p) (upd H p (.lst (yh8 xs lo hi)))
theorem zub:SlR X (ykk X.K):=by
 intro pins s σ H x v vl vu lo hi sl Q I rx hs pl pu h;obtain⟨a,xs,rfl,hx,q⟩:=h;cases rx;obtain⟨its,r,ht,hz⟩:=I.list hx;have hlen:=r.length;refine⟨"list",_,slot_list_getitem.lookup,ht.isList.typeIs,?_⟩;refine wpAny_getItem_list_slice ht.isList hs pl pu .none (by simp) ?_ (by rw[List.size_toArray]<;>omega);rw[zcp,<-hlen];refine⟨.ref s.heap.objs.size,_,I.laid (t':=s.toks) (o:=.lst (yh8 xs lo hi)) (fun b ob q=>Heap.get?_push_of_some _ q) (Nat.le_refl _) ?_,rfl,q _ (I.hok.fresh (Nat.le_refl _))⟩;exact⟨Nat.le_trans (zdl xs lo hi) hz,_,0,(r.drop (HT.sIx xs.length 0 lo)).take (HT.sIx xs.length xs.length hi - HT.sIx xs.length 0 lo),Heap.get?_push_size _ rfl⟩
def ydf:V->Bool
 | .non=>true
 | .bl _=>true
 | .int _=>true
 | .str _=>true
 |_=>false
def eqV:V->V->Bool
 | .non,.non=>true
 | .bl a,.bl b=>a == b
 | .bl a,.int b=>(if a then 1 else 0) == b
 | .int a,.bl b=>a == (if b then 1 else 0)
 | .int a,.int b=>a == b
 | .str a,.str b=>a == b
 |_,_=>false
theorem zwl{A:Around}{s:Shared}{y x:V}{u v:Value}(ry:yhf y u)(rx:yhf x v)(fy:ydf y=true)(fx:ydf x=true):SeqAt.EqAt A s u v (eqV y x):=by
 cases y with
 |non=>
  cases ry;cases x with
  |non=>cases rx;exact SeqAt.EqAt.same _
  |bl b=>cases rx;exact SeqAt.EqAt.none_bool b
  |int b=>obtain⟨t,rfl⟩:=rx;exact SeqAt.EqAt.none_int b t
  |str b=>obtain⟨t,rfl⟩:=rx;exact SeqAt.EqAt.none_str b t
  |_=>exact absurd (show false=true from fx) Bool.false_ne_true
 |bl a=>
  cases ry;cases x with
  |non=>cases rx;exact SeqAt.EqAt.bool_none a
  |bl b=>cases rx;exact SeqAt.EqAt.bool_bool a b
  |int b=>obtain⟨t,rfl⟩:=rx;exact SeqAt.EqAt.bool_int a b t
  |str b=>obtain⟨t,rfl⟩:=rx;exact SeqAt.EqAt.bool_str a b t
  |_=>exact absurd (show false=true from fx) Bool.false_ne_true
 |int a=>
  obtain⟨t',rfl⟩:=ry;cases x with
  |non=>cases rx;exact SeqAt.EqAt.int_none a t'
  |bl b=>cases rx;exact SeqAt.EqAt.int_bool a t' b
  |int b=>obtain⟨t,rfl⟩:=rx;exact SeqAt.EqAt.int_int a t' b t
  |str b=>obtain⟨t,rfl⟩:=rx;exact SeqAt.EqAt.int_str a t' b t
  |_=>exact absurd (show false=true from fx) Bool.false_ne_true
 |str a=>
  obtain⟨t',rfl⟩:=ry;cases x with
  |non=>cases rx;exact SeqAt.EqAt.str_none a t'
  |bl b=>cases rx;exact SeqAt.EqAt.str_bool a t' b
  |int b=>obtain⟨t,rfl⟩:=rx;exact SeqAt.EqAt.str_int a t' b t
  |str b=>obtain⟨t,rfl⟩:=rx;exact SeqAt.EqAt.str_str a t' b t
  |_=>exact absurd (show false=true from fx) Bool.false_ne_true
 |_=>exact absurd (show false=true from fy) Bool.false_ne_true
def eqU(x:V)(u:Value):Bool:=match u with
 | .none=>eqV .non x
 | .bool b=>eqV (.bl b) x
 | .int i _=>eqV (.int i) x
 | .str z _=>eqV (.str z) x
 |_=>false
theorem zws{x y:V}{u:Value}(r:yhf y u)(f:ydf y=true):eqU x u=eqV y x:=by
 cases y with
 |non=>cases r;rfl
 |bl b=>cases r;rfl
 |int i=>obtain⟨t,rfl⟩:=r;rfl
 |str z=>obtain⟨t,rfl⟩:=r;rfl
 |_=>exact absurd (show false=true from f) Bool.false_ne_true
theorem zn6{x:V}:∀ {xs:List V} {us:List Value},yho xs us->xs.all ydf=true->us.any (eqU x)=xs.any fun y=>eqV y x
 |_,_,.nil,_=>rfl
 |y::xs,u::us,.cons r t,f=>by
  rw[List.all_cons,Bool.and_eq_true]at f;rw[List.any_cons,List.any_cons,zws r f.1,zn6 t f.2]
theorem zlp{A:Around}{s:Shared}{x:V}{v:Value}(rx:yhf x v)(fx:ydf x=true):∀ {xs:List V} {us:List Value},yho xs us->xs.all ydf=true->∀ u∈us,SeqAt.EqAt A s u v (eqU x u)
 |_,_,.nil,_=>fun u hu=>by cases hu
 |y::xs,u::us,.cons r t,f=>fun u' hu=>by
  rw[List.all_cons,Bool.and_eq_true]at f;rcases List.mem_cons.mp hu with rfl|hu
  ·rw[zws r f.1];exact zwl r rx f.1 fx
  ·exact zlp rx fx t f.2 u' hu
def inV(x:V)(xs:List V):Bool:=xs.any fun y=>eqV y x
def rIn(K:PySem.W.Frag)(neg:Bool):R2:=fun x y H Q=>∃ p xs,y=.ref p/\(SqL K H p xs\/SqT K H p xs)/\ydf x=true/\xs.all ydf=true/\Q (.bl (if neg then !inV x xs else inV x xs)) H
theorem zhm:OpR X (compareOp .In) (rIn X.K false):=by
 intro pins s σ H x y v u Q I rx ry h;obtain⟨p,xs,rfl,hq,fx,fs,q⟩:=h;cases ry;rcases hq with hq|hq
 ·obtain⟨its,r,pl,hz⟩:=I.list hq;refine SeqAt.in_listAt (eqU x) pl.isList (fun w hw=>zlp rx fx r fs w (by simpa using hw)) ⟨.bl _,H,I,rfl,?_⟩;rw[show its.toArray.any (eqU x)=its.any (eqU x) by simp,zn6 r fs];exact q
 ·obtain⟨its,r,pl,hz⟩:=I.tuple hq;refine SeqAt.in_tupleAt (eqU x) pl (fun w hw=>zlp rx fx r fs w (by simpa using hw)) ⟨.bl _,H,I,rfl,?_⟩;rw[show its.toArray.any (eqU x)=its.any (eqU x) by simp,zn6 r fs];exact q
theorem zct:ybv X (.builtin "len") (fun xs H Q=>∃ p ys,xs=[.ref p]/\(SqL X.K H p ys\/SqT X.K H p ys)/\Q (.int ys.length) H):=by
 intro pins s σ H xs us Q I r h;obtain⟨p,ys,rfl,hq,q⟩:=h;obtain⟨u,rfl,rx⟩:=ygk r;cases rx;have hn:=zys;rcases hq with hq|hq
 ·obtain⟨its,r',pl,hz⟩:=I.list hq;have hlen:=r'.length;exact Calls.call_len_list pl.isList (by simp only[List.size_toArray]<;>omega) ⟨.int ys.length,H,I.tok _,⟨s.toks+1,by rw[List.size_toArray,hlen]⟩,q⟩
 ·obtain⟨its,r',pl,hz⟩:=I.tuple hq;have hlen:=r'.length;exact len_tuple pl (by simp only[List.size_toArray]<;>omega) ⟨.int ys.length,H,I.tok _,⟨s.toks+1,by rw[List.size_toArray,hlen]⟩,q⟩
theorem ybv.or{f:Value}{r r':List V->Hp->VK->Prop}(h:ybv X f r)(h':ybv X f r'):ybv X f (fun xs H Q=>r xs H Q\/r' xs H Q):=by
 intro pins s σ H xs us Q I rs q;rcases q with q|q
 ·exact h pins s σ H xs us Q I rs q
 ·exact h' pins s σ H xs us Q I rs q
theorem zcu:ybv X (.type "list") (fun xs H Q=>∃ p ys,xs=[.ref p]/\(SqL X.K H p ys\/SqT X.K H p ys)/\∀ l,H l=none->Q (.ref l) (upd H l (.lst ys))):=by
 intro pins s σ H xs us Q I r h;obtain⟨p,ys,rfl,hq,q⟩:=h;obtain⟨u,rfl,rx⟩:=ygk r;cases rx;have fin:∀ (its:List Value),yho ys its->ys.length<=sizeLine->∀ (h':Heap) (c':Nat),(∀ b o',s.heap.get? b=some o'->h'.get? b=some o')->
   h'.get? s.heap.objs.size=some { cls:=.type "list",dict:=none,data:=.seq its.toArray c',slots:=#[] }->EP X pins σ Q (.ref s.heap.objs.size) { s with heap:=h' }:=fun its r' hz h' c' kp e=>
  ⟨.ref s.heap.objs.size,_,I.laid (t':=s.toks) kp (Nat.le_refl _) (show yb3 X.prog X.w _ h' _ (.lst ys)from⟨hz,its,c',r',e⟩),rfl,q _ (I.hok.fresh (Nat.le_refl _))⟩
 rcases hq with hq|hq
 ·obtain⟨its,r',pl,hz⟩:=I.list hq;have hlen:=r'.length;obtain⟨o,ho,hc,n,hd⟩:=pl.isList;exact call_list_seq p (.inl rfl) ho hc hd (fun h' c' kp e=>fin its r' hz h' c' kp e) (by simp only[List.size_toArray]<;>omega)
 ·obtain⟨its,r',pl,hz⟩:=I.tuple hq;have hlen:=r'.length;obtain⟨o,ho,hc,n,hd⟩:=pl;exact call_list_seq p (.inr rfl) ho hc hd (fun h' c' kp e=>fin its r' hz h' c' kp e) (by simp only[List.size_toArray]<;>omega)
theorem zb1:ybv X (.type "tuple") (fun xs H Q=>∃ p ys,xs=[.ref p]/\((SqL X.K H p ys/\∀ l,H l=none->Q (.ref l) (upd H l (.tup ys)))\/(SqT X.K H p ys/\Q (.ref p) H))):=by
 intro pins s σ H xs us Q I r h;obtain⟨p,ys,rfl,h⟩:=h;obtain⟨u,rfl,rx⟩:=ygk r;cases rx;rcases h with⟨hq,q⟩|⟨hq,q⟩
 ·obtain⟨its,r',pl,hz⟩:=I.list hq;have hlen:=r'.length;refine call_tuple_list pl.isList (fun h' kp=>?_) (by simp only[List.size_toArray]<;>omega);have I1:Inv X pins σ H { s with heap:=h' }:=I.kept (t':=s.toks) kp;have I2:Inv X pins σ (upd H h'.objs.size (.tup ys)) { s with heap:=h'.push { cls:=.type "tuple",data:=.seq its.toArray } }:=
   I1.laid (t':=s.toks) (fun b o e=>Heap.get?_push_of_some _ e) (Nat.le_refl _) (show yb3 X.prog X.w _ _ _ (.tup ys)from⟨hz,its,r',IsTup.new _ _⟩)
  exact⟨.ref h'.objs.size,_,I2,rfl,q _ (I1.hok.fresh (Nat.le_refl _))⟩
 ·obtain⟨its,r',pl,hz⟩:=I.tuple hq;exact call_tuple_same pl ⟨.ref p,H,I,rfl,q⟩
def tyV(K:PySem.W.Frag)(T:String)(x:V)(H:Hp):Prop:=match x with
 | .str _=>T = "str"
 | .int _=>T = "int"
 | .ref p=>(T = "list"/\∃ xs,SqL K H p xs)\/(T = "tuple"/\∃ o,K.lookup p=some o/\o.cls=.type "tuple"/\o.dict=none)\/
   (T = "dict"/\((∃ kvs,H p=some (.dK kvs))\/∃ kvs,H p=some (.dT kvs)))\/(T = "set"/\∃ S n,H p=some (.set S n))
 |_=>False
theorem ybp{pins:List (Addr × Obj)}{σ:St}{H:Hp}{s:Shared}{T:String}{x:V}{v:Value}(I:Inv X pins σ H s)(r:yhf x v)(ty:tyV X.K T x H) :
  s.TypeIs v T/\∀ a,v=.ref a->∃ ob,s.heap.get? a=some ob/\ob.dict=none:=by
 cases x with
 |str z=>
  obtain⟨t,rfl⟩:=r;cases (show T = "str" from ty);exact⟨typeIs_str s z t,fun _ e=>nomatch e⟩
 |int i=>
  obtain⟨t,rfl⟩:=r;cases (show T = "int" from ty);exact⟨typeIs_int s i t,fun _ e=>nomatch e⟩
 |ref p=>
  cases r;rcases ty with⟨rfl,xs,hq⟩|⟨rfl,o,hk,hc,hd⟩|⟨rfl,hk⟩|⟨rfl,S,n,hk⟩
  ·obtain⟨its,_,pl,_⟩:=I.list hq;refine⟨pl.isList.typeIs,fun a e=>?_⟩;cases e;obtain⟨o,n,e,c,hd,_⟩:=pl;exact⟨o,e,hd⟩
  ·refine⟨⟨o,I.kIn p o hk,hc⟩,fun a e=>?_⟩;cases e;exact⟨o,I.kIn _ o hk,hd⟩
  ·have z:∃ o,s.heap.get? p=some o/\o.ExactDict:=by
    rcases hk with⟨kvs,hk⟩|⟨kvs,hk⟩
    ·obtain⟨_,_,_,_,o,_,_,e,ex,_⟩:=I.hok p _ hk;exact⟨o,e,ex⟩
    ·obtain⟨_,_,_,_,o,_,_,e,ex,_⟩:=I.hok p _ hk;exact⟨o,e,ex⟩
   obtain⟨o,e,ex⟩:=z;refine⟨⟨o,e,ex.1⟩,fun a e2=>?_⟩;cases e2;exact⟨o,e,ex.2.1⟩
  ·obtain⟨o,_,_,_,e,ex,_⟩:=I.hok p _ hk;refine⟨⟨o,e,ex.1⟩,fun a e2=>?_⟩;cases e2;exact⟨o,e,ex.2.1⟩
 |_=>exact False.elim ty
def ylc(K:PySem.W.Frag)(T:String)(r:V->List V->Hp->VK->Prop)(to:TE):TE:=fun σ H Q=>to σ H fun x H1=>tyV K T x H1/\r x [] H1 Q
def tBM(K:PySem.W.Frag)(T:String)(r:V->List V->Hp->VK->Prop)(to:TE)(t:TA):TE:=fun σ H Q=>to σ H fun x H1=>tyV K T x H1/\t σ H1 fun xs H2=>r x xs H2 Q
variable{o e:Expr}{es:List Expr}{to:TE}{t:TA}{name:Str}{apos cpos:Pos}{T id:String}{r:V->List V->Hp->VK->Prop}
theorem zzx(pa:PlainAttrs T)(slot:Slot T name id)(hty:typeOf (.builtin id)=pure (.type "method_descriptor"))(hm:MtR X id r)(ho:PE X o to)
  (hbase:attributeBase o name X.env (eval o X.env)=eval o X.env:=by rfl) (hline:(apos.endLine == cpos.line)=true:=by rfl):PE X (.Call (.Attribute o name apos) [] [] cpos) (ylc X.K T r to):=by
 intro pins s σ H Q I h;refine wpAny_Call_method0_late hbase hline (thn (ho pins s σ H _ I h) fun v s1 ⟨x,H1,I1,r1,ty,q1⟩=>?_);obtain⟨h1,h2⟩:=ybp I1 r1 ty;exact⟨T,id,pa,slot,hty,h1,h2,Calls.callWith_builtin rfl (PySem.evalArgs_none (hm pins s1 σ H1 x [] v [] Q I1 r1 .nil q1))⟩
theorem yfg(pa:PlainAttrs T)(slot:Slot T name id)(hty:typeOf (.builtin id)=pure (.type "method_descriptor"))(hm:MtR X id r)(ho:PE X o to)(ha:PA X (e::es) t)
  (hbase:attributeBase o name X.env (eval o X.env)=eval o X.env:=by rfl)
  (hfew:((backTo cpos (starEach (e::es) X.env)).all (fun x=>!x.1) && (backToKw cpos (keywordEach [] X.env)).all (fun x=>x.1.isSome)
   && decide ((e::es).length+([]:List Keyword).length+(if ([]:List Keyword).isEmpty then 0 else 1)<30))=true:=by rfl)
  (hline:(apos.endLine == cpos.line)=true:=by rfl) (hs:starEach (e::es) X.env=(false,eval e X.env)::starEach es X.env:=by rfl) (hplain:(backTo cpos (starEach es X.env)).any (·.1)=false:=by rfl) :
  PE X (.Call (.Attribute o name apos) (e::es) [] cpos) (tBM X.K T r to t):=by
 intro pins s σ H Q I h;refine wpAny_Call_method_late hbase hfew hline rfl (thn (ho pins s σ H _ I h) fun v s1 ⟨x,H1,I1,r1,ty,q1⟩=>?_);obtain⟨h1,h2⟩:=ybp I1 r1 ty;refine⟨T,id,pa,slot,hty,h1,h2,?_⟩;have hA:=ha cpos pins s1 σ H1 _ I1 q1;rw[hs]at hA ⊢;refine Calls.callWith_builtin (by show (false || (backTo cpos (starEach es X.env)).any (·.1))=false;rw[hplain]<;>rfl) (Calls.evalArgs_plain ?_);exact thn hA fun us s2 ⟨vs,H2,I2,r2,q2⟩=>hm pins s2 σ H2 x vs v us Q I2 r1 r2 q2
end
end L2
namespace L2
open PySem PySem.Spec PyProof.Rows
def MtM(X:Cx)(id:String)(r:V->List V->Hp->VK->Prop):Prop:=
 ∀ (pins:List (Addr × Obj)) (s:Shared) (σ:St) (H:Hp) (x:V) (xs:List V) (v:Value) (us:List Value) (Q:VK),Inv X pins σ H s->yhf x v->yho xs us->r x xs H Q->
  wpAny (model X.prog X.w) X.A (call (.builtin id) (v::us)) (EP X pins σ Q) X.xe s
theorem yho.one:∀ {x:V} {us:List Value},yho [x] us->∃ u,us=[u]/\yhf x u
 |_,_,.cons r .nil=>⟨_,rfl,r⟩
theorem yho.two:∀ {x y:V} {us:List Value},yho [x,y] us->∃ u v,us=[u,v]/\yhf x u/\yhf y v
 |_,_,_,.cons r (.cons q .nil)=>⟨_,_,rfl,r,q⟩
theorem yho.zero:∀ {us:List Value},yho [] us->us=[]
 |_,.nil=>rfl
theorem yho.dropLast{xs:List V}{us:List Value}(h:yho xs us):yho xs.dropLast us.dropLast:=by
 induction h with
 |nil=>exact .nil
 |cons r t ih=>
  cases t with
  |nil=>exact .nil
  |cons q t'=>exact .cons r ih
theorem yho.eraseIdx:∀ {xs:List V} {us:List Value} (i:Nat),yho xs us->yho (xs.eraseIdx i) (us.eraseIdx i)
 |_,_,_,.nil=>.nil
 |_,_,0,.cons _ t=>t
 |_,_,i+1,.cons r t=>.cons r (yho.eraseIdx i t)
theorem zep{α:Type}(l:List α):l.eraseIdx (l.length - 1)=l.dropLast:=by
 induction l with
 |nil=>rfl
 |cons a r ih=>
  cases r with
  |nil=>rfl
  |cons b r=>
   have e:(a::b::r).length - 1=((b::r).length - 1)+1:=by
    have h1:(a::b::r).length=r.length+2:=rfl;have h2:(b::r).length=r.length+1:=rfl;omega
   rw[e,List.eraseIdx_cons_succ,ih];all_goals rfl
section
variable{X:Cx}{pins:List (Addr × Obj)}{σ:St}{H:Hp}{s:Shared}{l b:Addr}{xs ys zs:List V}
theorem Inv.lset{its its':List Value}{n:Nat}{f:Array Value->Array Value}{t':Nat}(I:Inv X pins σ H s)(hH:H l=some (.lst xs))
  (e:s.heap.get? l=some { cls:=.type "list",data:=.seq its.toArray n }) (hf:f its.toArray=its'.toArray) (hv:yho ys its') (hz:ys.length<=sizeLine) :
  Inv X pins σ (upd H l (.lst ys)) { s with heap:=s.heap.update l (Obj.mapSeq f),toks:=t' }:=by
 have q:=PySem.IsL.update e f;rw[hf]at q;refine I.write (x:=l) (e:=l) (by rw[hH];exact trivial) (.inl rfl) (fun b' u hb hu=>(Heap.get?_update_other s.heap (Obj.mapSeq f) (Ne.symm hb)).trans hu) ⟨_,q⟩ ?_;exact⟨hz,its',_,hv,q⟩
theorem Inv.lnew{its:List Value}{t':Nat}(I:Inv X pins σ H s)(hv:yho ys its)(hz:ys.length<=sizeLine) :
  Inv X pins σ (upd H s.heap.objs.size (.lst ys)) { s with heap:=s.heap.push { cls:=.type "list",data:=.seq its.toArray },toks:=t' }:=
 I.laid (fun _ _ q=>Heap.get?_push_of_some _ q) (Nat.le_refl _) ⟨hz,its,0,hv,Heap.get?_push_size _ rfl⟩
theorem Inv.fresh(I:Inv X pins σ H s):H s.heap.objs.size=none:=I.hok.fresh (Nat.le_refl _)
theorem Inv.lstM(I:Inv X pins σ H s)(hH:H l=some (.lst xs)):xs.length<=sizeLine/\∃ (its:List Value) (n:Nat),yho xs its/\xs.length=its.length/\s.heap.get? l=some { cls:=.type "list",data:=.seq its.toArray n }:=by
 obtain⟨z,its,n,r,e⟩:=I.hok l _ hH;exact⟨z,its,n,r,r.length,e⟩
theorem zlx{n:Nat}(h:n<=sizeLine):Builtin.List.listTooLong n=false:=by
 unfold Builtin.List.listTooLong;exact decide_eq_false (by omega)
end
section
variable{X:Cx}
def ztc:V->List V->Hp->VK->Prop:=fun x vs H Q=>∃ l xs y,x=.ref l/\vs=[y]/\H l=some (.lst xs)/\xs.length<sizeLine/\Q .non (upd H l (.lst (xs++[y])))
theorem zhd:MtM X "list.append" ztc:=by
 intro pins s σ H x vs v us Q I rx rv h;obtain⟨l,xs,y,rfl,rfl,hH,hz,q⟩:=h;cases rx;obtain⟨u,rfl,ru⟩:=rv.one;obtain⟨z,its,n,r,hl,e⟩:=I.lstM hH;refine call_meets F.slot_list_append ⟨_,e,rfl⟩ F.entry_list_append (F.args_list_append_2 _ _) (PySem.list_append l its.toArray n u (by rw[List.size_toArray];omega)) ⟨e,?_⟩;refine⟨.non,_,I.lset (its':=its++[u]) hH e (by simp) (r.append (.cons ru .nil)) ?_,rfl,q⟩;rw[List.length_append,List.length_singleton];omega
def ztd:V->List V->Hp->VK->Prop:=fun x vs H Q=>∃ l b xs zs,x=.ref l/\vs=[.ref b]/\H l=some (.lst xs)/\H b=some (.lst zs)/\xs.length+zs.length<=sizeLine/\Q .non (upd H l (.lst (xs++zs)))
theorem zhe:MtM X "list.extend" ztd:=by
 intro pins s σ H x vs v us Q I rx rv h;obtain⟨l,b,xs,zs,rfl,rfl,hH,hB,hz,q⟩:=h;cases rx;obtain⟨u,rfl,ru⟩:=rv.one;cases ru;obtain⟨z,its,n,r,hl,e⟩:=I.lstM hH;obtain⟨z2,its2,n2,r2,hl2,e2⟩:=I.lstM hB;have hsz:its.toArray.size+its2.toArray.size<=sizeLine:=by rw[List.size_toArray,List.size_toArray];omega
 have hlong:¬ (!its.toArray.isEmpty && Builtin.List.listTooLong (its.toArray.size+its2.toArray.size))=true:=by
  rw[zlx hsz,Bool.and_false];exact Bool.false_ne_true
 refine call_meets F.slot_list_extend ⟨_,e,rfl⟩ F.entry_list_extend (F.args_list_extend_2 _ _)
  (AutoSeq1.list_extend_list_list_0 l its.toArray n b its2.toArray n2 hlong (by rw[List.size_toArray];omega) (by omega)) ⟨e,e2,?_⟩
 refine⟨.non,_,I.lset (its':=its++its2) hH e (by simp) (r.append r2) ?_,rfl,q⟩;rw[List.length_append];omega
def ykj:V->List V->Hp->VK->Prop:=fun x vs H Q=>∃ l xs y,x=.ref l/\vs=[]/\H l=some (.lst xs)/\xs[xs.length - 1]?=some y/\Q y (upd H l (.lst xs.dropLast))
theorem zy0:MtM X "list.pop" ykj:=by
 intro pins s σ H x vs v us Q I rx rv h;obtain⟨l,xs,y,rfl,rfl,hH,hy,q⟩:=h;cases rx;have hus:=rv.zero;subst hus;obtain⟨z,its,n,r,hl,e⟩:=I.lstM hH;obtain⟨u,hu,ru⟩:=r.get hy;have hy':its.toArray[its.toArray.size - 1]?=some u:=by
  show its.toArray[its.length - 1]?=some u;rw[<-Array.getElem?_toList,<-hl];exact hu
 refine call_meets F.slot_list_pop ⟨_,e,rfl⟩ F.entry_list_pop (F.args_list_pop_1 _) (MeetsSeq.list_pop_last l its.toArray n u hy' (by rw[List.size_toArray];omega)) ⟨e,?_⟩;refine⟨y,_,I.lset (its':=its.dropLast) hH e ?_ r.dropLast ?_,ru,q⟩
 ·show its.toArray.eraseIdxIfInBounds (its.toArray.size - 1)=its.dropLast.toArray;rw[List.size_toArray,List.eraseIdxIfInBounds_toArray,zep]
 ·rw[List.length_dropLast];omega
def rClear:V->List V->Hp->VK->Prop:=fun x vs H Q=>∃ l xs,x=.ref l/\vs=[]/\H l=some (.lst xs)/\Q .non (upd H l (.lst []))
theorem mt_clear:MtM X "list.clear" rClear:=by
 intro pins s σ H x vs v us Q I rx rv h;obtain⟨l,xs,rfl,rfl,hH,q⟩:=h;cases rx;have hus:=rv.zero;subst hus;obtain⟨z,its,n,r,hl,e⟩:=I.lstM hH;refine call_meets F.slot_list_clear ⟨_,e,rfl⟩ F.entry_list_clear (F.args_list_clear_1 _) (AutoSeq1.list_clear_list_0 l its.toArray n (by rw[List.size_toArray];omega)) ⟨e,?_⟩;exact⟨.non,_,I.lset (its':=[]) (ys:=[]) hH e rfl .nil (Nat.zero_le _),rfl,q⟩
def ykc:R2:=fun x y H Q=>∃ l b xs zs,x=.ref l/\y=.ref b/\H l=some (.lst xs)/\H b=some (.lst zs)/\xs.length+zs.length<=sizeLine/\∀ p,H p=none->Q (.ref p) (upd H p (.lst (xs++zs)))
theorem zzl:OpR X (binaryOp .Add) ykc:=by
 intro pins s σ H x y v u Q I rx ry h;obtain⟨l,b,xs,zs,rfl,rfl,hH,hB,hz,q⟩:=h;cases rx;cases ry;obtain⟨z,its,n,r,hl,e⟩:=I.lstM hH;obtain⟨z2,its2,n2,r2,hl2,e2⟩:=I.lstM hB;refine PySem.P.add_list e e2 ?_ (by rw[List.size_toArray,List.size_toArray];omega);have ea:its.toArray++its2.toArray=(its++its2).toArray:=by simp
 rw[ea];exact⟨.ref _,_,I.lnew (t':=s.toks) (r.append r2) (by rw[List.length_append];omega),rfl,q _ I.fresh⟩
end
section
variable{prog:Program}{w:World}{A:Around}{E:Value->Shared->Prop}{s:Shared}
set_option maxRecDepth 100000 in
end
section
variable{X:Cx}
end
end L2
namespace Att
open PySem PySem.W PySem.Calls PyProof.Rows
theorem zay{P:Params}{h:Heap}:∀ (ns:List Int) (vs:List Value),WellAll P h vs (ns.map WData.int)->IntsAre vs ns:=by
 intro ns;induction ns with
 |nil=>
  intro vs w;rw[List.map_nil]at w;cases w;exact .nil
 |cons n ns ih=>
  intro vs w;rw[List.map_cons]at w;cases w with
  |cons a b=>
   cases a;exact .cons _ _ (ih _ b)
theorem zh3{l:OpenLaw}{n:Nat}(hn:l.most=some n){P:Params}{h:Heap}{args:List WData}{vals:List Value}
  (hpre:l.row.toRowW.claim.pre args=true) (hwl:WellAll P h vals args) :
  ∃ a vs ns,vals=[Value.ref a]/\args=[WData.list (ns.map WData.int)]/\h.get? a=some { cls:=.type "list",data:=.seq vs.toArray }/\IntsAre vs ns/\ns.length<=n:=by
 have hsh:WShape.hasAll [] args [.list .int]=true:=(pre_splitW hpre).1;have hc:l.pre.holds [] { args:=args }=true:=(pre_splitW hpre).2;obtain⟨d,r,rfl,h1,h2⟩:=hasAllW_cons hsh;obtain rfl:=hasAllW_nil h2;obtain⟨xs,rfl,h3⟩:=hasW_list h1;obtain⟨ns,rfl⟩:=items_int h3;have hlen:ns.length<=n:=by
  unfold OpenLaw.pre at hc;have h4:(WTm.not (.lt (.lit (.int (n:Int))) (.len (.arg 0)))).holds [] { args:=[.list (ns.map .int)] }=true:=by
   have h4:=(holds_andW hc).1;rw[hn]at h4;exact h4
  have h5:=condW_of h4 (w_not (w_lt w_lit (w_len_list (w_arg rfl))));rw[List.length_map]at h5;refine Nat.le_of_not_lt fun q=>?_;have q':(n:Int)<((ns.length:Nat):Int):=by omega
  first
   |(rw[decide_eq_true q']at h5;exact absurd h5 (by decide))
   |(simp at h5;omega)
 cases hwl with
 |cons w1 w2=>
  cases w2;cases w1 with
  |list ho hall=>exact⟨_,_,ns,rfl,rfl,ho,zay ns _ hall,hlen⟩
theorem zhs(l:OpenLaw)(args:List WData):l.row.toRowW.claim.post args (.bool true) args=true:=
 postW_of (r:=l.row.toRowW) (X:=(true == true))
  (show WShape.has [] (.bool true) .bool=true by first|rfl|decide|simp[WShape.has,WShape.arms,WShape.armsAll])
  (show (WTm.eq .res (.lit (.bool true))).value [] { args:=args,res:=some (.bool true),after:=args }=some (.bool (true == true))from w_eq_bool (w_res rfl) w_lit) rfl
theorem attach_call{l:OpenLaw}{n:Nat}{q:Program}{loose:List Str}{XP:(Str->Option Value)->Heap->Prop}{YP:World->Heap->Prop}{d:DefRec}
  (hn:l.most=some n) (hdf:d.params.defaults=[])
  (call:∀ (w:World) (s₀ s₁:Shared) (mg mb:Str->Option Value) (fa:Addr) (o:Obj) (pm cd doc:Value) (a:Addr) (vs:List Value) (ns:List Int),
   Ground q loose [] XP w s₀ mg mb s₁.heap->YP w s₁.heap->
   s₁.heap.get? fa=some o->o.data=.func (docDef d.name d.params d.body d.scope pm cd doc)->s₁.heap.CodeRec cd d.name->mg d.name=some (.ref fa)->
   s₁.heap.get? a=some { cls:=.type "list",data:=.seq vs.toArray }->IntsAre vs ns->ns.length<=n->s₁.gens=#[]->
   codeAny (model l.prog w) callerA (.call (.ref fa) ⟨[.ref a],[]⟩) (fun r s'=>r=.ok (.ret (.bool true))/\OldK s₁.heap s'.heap/\s'.os=s₁.os/\AllBare s'.gens) s₁) :
  WalkO q loose XP YP l.row.toRowW d [] (fun f vs=>PySem.call f vs):=by
 intro w s₀ s₁ mg mb G Y fa o pm cd doc dV kV ho hd hcd hD hmg hg args vals as hpre hlay hrd hwl hlo;obtain rfl:dV=.none:=Dflts.none hD hdf;obtain rfl:kV=.none:=Dflts.noKw hD;obtain⟨a,vs,ns,rfl,rfl,hobj,hints,hlen⟩:=zh3 hn hpre hwl;refine enter_call (codeAny_mono (call w s₀ s₁ mg mb fa o pm cd doc a vs ns G Y ho (fd_plain hd) hcd hmg hobj hints hlen hg) fun r s' hq=>?_);obtain⟨rfl,h2,h3,h4⟩:=hq;exact⟨.inl ⟨.bool true,.bool true,[],rfl,fun _=>rfl,.bool true,zhs l _,fun _=>⟨List.Pairwise.nil,fun _ hm=>(nomatch hm)⟩⟩,h2,h3,h4⟩
section
variable{prog:Program}{w:World}{A:Around}{E:Value->Shared->Prop}{s:Shared}{K:Frag}
def zyr(h:Heap)(L d:Addr):List (Addr × Obj):=(List.range h.objs.size).filterMap fun a=>if a=L\/a=d then none else (h.get? a).map fun o=>(a,o)
end
end Att
namespace L2
open PySem PySem.Spec PyProof.Rows
theorem zih:∀ {vs:List Value} {ns:List Int},IntsAre vs ns->yho (ns.map V.int) vs
 |_,_,.nil=>.nil
 |_,_,.cons n t h=>.cons ⟨t,rfl⟩ (zih h)
def yha(H:Hp):Prop:=∀ b,H b=none\/∃ o xs,H b=some (.frz o (.lst xs))
theorem zk6{P:Program}{w:World}{K:PySem.W.Frag}{mg mb:Str->Option Value}{CX:CXT}{k:Nat}{fa a:Addr}{fd:FuncData}{x:Str}{sp:Sp}{s₁:Shared}{vs:List Value}{ns:List Int}
  (KX:K.In s₁.heap) (hns:s₁.heap.Ns mainGlobals mg) (hb:s₁.heap.Ns builtinsNs mb) (hbb:∀ x:Str,x ≠ "__name__"->mb x=bootBuiltins x) (hlim:s₁.heap.NoLimit) (hg:s₁.gens=#[])
  (ha:s₁.heap.get? a=some { cls:=.type "list",data:=.seq vs.toArray }) (hi:IntsAre vs ns) (hl:ns.length<=sizeLine) (hr:Room k callerA)
  (F:∀ base:Heap,K.In base->base.Ns mainGlobals mg->FnOk P w K mg base CX k fa fd [x] sp) (hbind:∀ (s:Shared) (u:Value),BindsTo s fd ⟨[u],[]⟩ [(x,u)])
  (hsp:∀ H:Hp,yha H->SqL K H a (ns.map V.int)->sp [.ref a] H (fun v _=>v=.bl true) fun _ _ _=>False)
  (hCX:∀ H e s',CX [] H s₁ (fun _ _ _=>False) e s'->False) :
  codeAny (model P w) callerA (.call (.ref fa) ⟨[.ref a],[]⟩) (fun r s'=>r=.ok (.ret (.bool true))/\OldK s₁.heap s'.heap/\s'.os=s₁.os/\AllBare s'.gens) s₁:=by
 have rv:=zih hi;have lenV:=hi.length;have core:∀ H:Hp,yha H->SqL K H a (ns.map V.int)->HOk P w H s₁.heap->(∀ b,H b≠none->b=a)->(H a≠none->K.lookup a=none)->
   codeAny (model P w) callerA (.call (.ref fa) ⟨[.ref a],[]⟩) (fun r s'=>r=.ok (.ret (.bool true))/\OldK s₁.heap s'.heap/\s'.os=s₁.os/\AllBare s'.gens) s₁:=by
  intro H hO hS hok hA hK;have base_of:∀ {b:Addr} {o:Obj},s₁.heap.get? b=some o->H b=none->(yi0 s₁.heap H).get? b=some o:=fun e n=>zkr e n;have noA:∀ {b:Addr} {o:Obj} {es:Array DictEntry} {ep:Nat},s₁.heap.get? b=some o->o.data=.dict es ep->H b=none:=fun {b o es ep} e d=>by
   cases q:H b with
   |none=>rfl
   |some u=>
    have e':b=a:=hA b (by rw[q];simp);subst e';rw[ha]at e;cases e;have d':Data.seq vs.toArray _=Data.dict es ep:=d;cases d'
  have nsK:∀ {b:Addr} {m:Str->Option Value},s₁.heap.Ns b m->(yi0 s₁.heap H).Ns b m:=fun {b m} ⟨o,es,ep,e,d,r⟩=>⟨o,es,ep,base_of e (noA e d),d,r⟩
  have hKb:K.In (yi0 s₁.heap H):=fun b o e=>base_of (KX b o e) (by
   cases q:H b with
   |none=>rfl
   |some u=>
    have e':b=a:=hA b (by rw[q];simp);subst e';rw[hK (by rw[q];simp)]at e;cases e)
  have hM:Mod K mg (yi0 s₁.heap H):=⟨hKb,nsK hns,⟨mb,nsK hb,hbb⟩,let ⟨mc,h1,h2⟩:=hlim;⟨mc,nsK h1,h2⟩⟩
  have e0:Env0 P w K mg (yi0 s₁.heap H) callerA [] s₁ H:=⟨rfl,hM,fun b o e=>zso e,Nat.le_of_eq (zgr _ _),trivial,fun b hb=>absurd (show b∈([]:List Addr)from hb) (by simp),hok,.of_eq hg⟩
  refine codeAny_mono ((F _ hKb (nsK hns)).run callerA [] s₁ H ⟨[.ref a],[]⟩ [.ref a] [.ref a] _ _ hr e0 (hbind s₁ (.ref a)) (.cons rfl .nil) (hsp H hO hS)) fun r s' h=>?_;cases r with
  |error e=>exact(hCX H e s' h).elim
  |ok fl=>
   cases fl with
   |next=>exact False.elim h
   |brk=>exact False.elim h
   |cont=>exact False.elim h
   |ret u=>
    obtain⟨v,H',os,bare,un,hok',r',q⟩:=h;have q':v=.bl true:=q;subst q';obtain rfl:u=Value.bool true:=r';refine⟨rfl,OldK.of_keep fun b o e=>?_,os,bare⟩;cases q:H b with
    |none=>exact un.keep b o e q (by intro z;exact absurd (show b∈([]:List Addr)from z) (by simp)) (by simp)
    |some u=>
     rcases hO b with z|⟨ob,xs,z⟩
     ·rw[q]at z;cases z
     ·have z2:=un.frzs b ob _ z;obtain⟨e1,_⟩:=hok b _ z;obtain⟨e2,_⟩:=hok' b _ z2;rw[e]at e1;cases e1;exact e2
 cases hk:K.lookup a with
 |some o=>
  have e:=KX a o hk;rw[ha]at e;cases e;refine core (fun _=>none) (fun _=>.inl rfl) (.inr ⟨_,vs.toArray,_,hk,rfl,rfl,rfl,by rw[List.size_toArray,lenV];exact hl,by simpa using rv⟩) (fun b u z=>by have z':(none:Option HO)=some u:=z;cases z') (fun b z=>absurd rfl z) fun z=>absurd rfl z
 |none=>
  refine core (fun b=>if b=a then some (.frz { cls:=.type "list",data:=.seq vs.toArray } (.lst (ns.map V.int)))else none) (fun b=>?_) (.inl (.inr ⟨{ cls:=.type "list",data:=.seq vs.toArray },if_pos rfl⟩)) (fun b u z=>?_) (fun b z=>?_) fun _=>hk
  ·by_cases hb:b=a
   ·exact .inr ⟨_,_,if_pos hb⟩
   ·exact .inl (if_neg hb)
  ·by_cases hb:b=a
   ·have z':=(if_pos hb).symm.trans z;cases z';subst hb;exact⟨ha,by rw[List.length_map];exact hl,vs,_,rv,ha⟩
   ·have z':=(if_neg hb).symm.trans z;cases z'
  ·by_cases hb:b=a
   ·exact hb
   ·exact absurd (if_neg hb) z
end L2
namespace L2
open PySem PySem.Spec PyProof.Rows
abbrev KOf{K:PySem.W.Frag}{h:Heap}(_:K.In h):PySem.W.Frag:=K
theorem zu6{l:PySem.W.OpenLaw}{n k:Nat}{q:Program}{loose:List Str}{XP:(Str->Option Value)->Heap->Prop}{YP:World->Heap->Prop}{d:DefRec}{K:Params->PySem.W.Frag}{CX:World->CXT}{sp:World->Sp}{x:Str}
  (hn:l.most=some n) (hn2:n<=sizeLine) (hdf:d.params.defaults=[]) (hr:Room k callerA)
  (hY:∀ (w:World) (h:Heap),YP w h->(K w.params).In h)
  (F:∀ (w:World) (mg:Str->Option Value) (fa:Addr) (h:Heap),(K w.params).In h->h.Ns mainGlobals mg->mg d.name=some (.ref fa)->
   ∃ fd:FuncData,(∀ (s:Shared) (u:Value),BindsTo s fd ⟨[u],[]⟩ [(x,u)])/\
    ∀ base:Heap,(K w.params).In base->base.Ns mainGlobals mg->FnOk l.prog w (K w.params) mg base (CX w) k fa fd [x] (sp w))
  (hsp:∀ (w:World) (H:Hp) (a:Addr) (ns:List Int),ns.length<=n->yha H->SqL (K w.params) H a (ns.map V.int)->sp w [.ref a] H (fun v _=>v=.bl true) fun _ _ _=>False)
  (hCX:∀ (w:World) (H:Hp) (s:Shared) (e:Value) (s':Shared),CX w [] H s (fun _ _ _=>False) e s'->False) :
  PySem.W.WalkO q loose XP YP l.row.toRowW d [] (fun f vs=>PySem.call f vs):=by
 refine Att.attach_call hn hdf fun w s₀ s₁ mg mb fa o pm cd doc a vs ns G Y ho hd hcd hmg hobj hints hlen hg=>?_;have KX:=hY w _ Y;obtain⟨fd,hb,hF⟩:=F w mg fa _ KX G.T.g hmg;exact zk6 KX G.T.g G.T.b G.T.builtins G.T.nolimit hg hobj hints (Nat.le_trans hlen hn2) hr hF hb (fun H hO hS=>hsp w H a ns hlen hO hS) fun H e s'=>hCX w H s₁ e s'
end L2
namespace L2
open PySem PySem.Spec PyProof.Rows
def zo4(s:Stmt):Arguments:=match s with
 | .FunctionDef _ a _ _ _ _ _ _ _ _=>a
 |_=>{ posonlyargs:=[],args:=[],vararg:=none,kwonlyargs:=[],kw_defaults:=[],kwarg:=none,defaults:=[] }
def zo5(s:Stmt):List Stmt:=match s with
 | .FunctionDef _ _ b _ _ _ _ _ _ _=>b
 |_=>[]
def zjb(s:Stmt):Scope:=match s with
 | .FunctionDef _ _ _ _ _ _ sc _ _ _=>sc
 |_=>{ kind:=.function,names:=[],isGenerator:=false,isCoroutine:=false }
abbrev CX0:CXT:=fun _ _ _ _ _ _=>False
abbrev E0:XK:=fun _ _ _=>False
structure Fun(K:PySem.W.Frag)(x qual:Str)(st:Stmt)(f:Addr)(fd:FuncData):Prop where
 ex:∃ (oc:Value) (od:Option Addr) (kV doc pm:Value) (an:Option Addr) (cdv ct:Value) (osl:Array (Option Value)),
  fd=PySem.W.fnOf x qual (zo4 st) (zo5 st) (zjb st) .none kV doc pm an cdv ct/\K.lookup f=some ⟨oc,od,.func fd,osl⟩/\PySem.W.codeIn K cdv qual=true
 kp:PySem.W.keepIn K (.ref f)=true
section
variable{P:Program}{w:World}{K:PySem.W.Frag}{mg:Str->Option Value}{base:Heap}
theorem Fun.ok{x qual:Str}{st:Stmt}{f:Addr}{fd:FuncData}{N ps:List Str}{k:Nat}{sp:Sp}(F:Fun K x qual st f fd)(S:FnScope N ps (zjb st))(len:∀ vs H Q E,sp vs H Q E->vs.length=ps.length)
  (hbody:∀ (cdv:Value) (A:Around) (outer:List Env) (s:Shared) (H:Hp) (vs:List V) (Q:VK) (E:XK),Room k (A.deeper (envOfC qual (zjb st) s.heap.objs.size f cdv))->sp vs H Q E->
   ∃ t,PSs (yh9 CX0 P w K mg base N qual (zjb st) f cdv A outer s H E).nox (zo5 st) t/\t { nx:=fun _ H'=>Q .non H',rt:=Q } (yf6 N vs) H):FnOk P w K mg base CX0 (k+1) f fd ps sp:=by
 obtain⟨oc,od,kV,doc,pm,an,cdv,ct,osl,rfl,lk,hcd⟩:=F.ex;refine ydk lk hcd S len fun A outer s H vs Q E hr hsp=>?_;obtain⟨t,h,q⟩:=hbody cdv A outer s H vs Q E hr hsp;exact⟨t,h.nox,q⟩
theorem Fun.binds{x qual:Str}{st:Stmt}{f:Addr}{fd:FuncData}{ps:List Str}(F:Fun K x qual st f fd)
  (h:∀ (kV doc pm:Value) (an:Option Addr) (cdv ct:Value) (us:List Value),us.length=ps.length->bindArgs (PySem.W.fnOf x qual (zo4 st) (zo5 st) (zjb st) .none kV doc pm an cdv ct) ⟨us,[]⟩=pure (ps.zip us)):ybt K fd ps []:=by
 obtain⟨oc,od,kV,doc,pm,an,cdv,ct,osl,rfl,lk,hcd⟩:=F.ex;exact .all (h kV doc pm an cdv ct)
theorem zxw{x qual:Str}{st:Stmt}{f:Addr}{oc:Value}{od an:Option Addr}{osl:Array (Option Value)}{kV doc pm cdv ct:Value}(l:K.lookup f=some ⟨oc,od,.func (PySem.W.fnOf x qual (zo4 st) (zo5 st) (zjb st) .none kV doc pm an cdv ct),osl⟩)
  (c:PySem.W.codeIn K cdv qual=true) (k:PySem.W.keepIn K (.ref f)=true):Fun K x qual st f (PySem.W.fnOf x qual (zo4 st) (zo5 st) (zjb st) .none kV doc pm an cdv ct):=⟨⟨oc,od,kV,doc,pm,an,cdv,ct,osl,rfl,l,c⟩,k⟩
end
theorem zh8{n:Nat}(h:n<=1000):n<sizeLine:=Nat.lt_of_le_of_lt h (by decide)
section
variable{X:Cx}
end
def yhj(H H':Hp):Prop:=∀ b o,H b=some o->H' b=some o
theorem yhj.refl(H:Hp):yhj H H:=fun _ _ h=>h
theorem yhj.trans{H H1 H2:Hp}(a:yhj H H1)(b:yhj H1 H2):yhj H H2:=fun c o h=>b c o (a c o h)
theorem yhj.free{H H':Hp}(e:yhj H H'){l:Addr}(h:H' l=Option.none):H l=Option.none:=by
 cases q:H l with
 |none=>rfl
 |some o=>
  rw[e l o q]at h;cases h
theorem yhj.seq{K:PySem.W.Frag}{H H':Hp}{a:Addr}{xs:List V}(e:yhj H H')(h:SqL K H a xs):SqL K H' a xs:=by
 rcases h with(h|⟨o,h⟩)|h
 ·exact .inl (.inl (e _ _ h))
 ·exact .inl (.inr ⟨o,e _ _ h⟩)
 ·exact .inr h
end L2
namespace L4
open PySem PySem.Spec PyProof.Rows L2
theorem zqp{α:Type}(a:α):∃ b,b=a:=⟨a,rfl⟩
noncomputable def hide{α:Type}(a:α):α:=Classical.choose (zqp a)
@[simp] theorem zqo{α:Type}(a:α):hide a=a:=Classical.choose_spec (zqp a)
inductive D where
 |non|bl (b:Bool)|int (i:Int)|str (x:Str)|tup (xs:List D)|scr (ns:List Int)|ref (n:Nat)
 |lst (xs:List D)|dic (ks:List Key) (xs:List D)|obj (c:Nat) (ns:List Str) (xs:List D)|exn (c:Nat)
inductive Ob where
 |lst (xs:List D)
 |dic (kvs:List (Key × D))
 |ins (c:Nat) (fs:List (Str × D))
abbrev Sto:=List Ob
abbrev St:=L2.St
abbrev Ev:=List (Option D)
structure Xn where
 cls:Nat
inductive Out(α:Type) where
 |ok (a:α) (σ:Sto)
 |ex (x:Xn) (σ:Sto)
 |bad
abbrev M(α:Type):=Sto->Out α
def ret{α:Type}(a:α):M α:=fun σ=>.ok a σ
def bad{α:Type}:M α:=fun _=>.bad
def Out.bind{α β:Type}(o:Out α)(k:α->M β):Out β:=match o with
 | .ok a σ'=>k a σ'
 | .ex x σ'=>.ex x σ'
 | .bad=>.bad
def bnd{α β:Type}(m:M α)(k:α->M β):M β:=fun σ=>(m σ).bind k
inductive Fl where
 |nx (ρ:Ev)|rt (d:D)|bk (ρ:Ev)|ct (ρ:Ev)|xc (ρ:Ev) (x:Xn)
structure Tab where
 P:Addr
 line:Int
 col:Int
 qual:Str
structure Tx where
 tbs:List Tab
 bm:Addr
structure Tb where
 K:PySem.W.Frag
 ca:Nat->Addr
 tx:Tx
def zu9(q:Str)(c:Addr):Heap->Prop:=fun h=>∃ o vs t,h.get? c=some o/\o.data=.fields vs/\vs[1]?=some (.str q t)
def ygr(bm:Addr):Heap->Prop:=fun h=>∃ o,h.get? bm=some o/\o.cls=.type "module"/\o.dict=some builtinsNs/\o.data=.plain
def yhm(T:Tb)(μ:List Addr)(H:Hp):Prop:=∀ t∈T.tx.tbs,(T.tx.bm ∉ μ/\∃ ob,H T.tx.bm=some (.frz ob (.ext (ygr T.tx.bm))))/\t.P ∉ μ/\∃ ps,H t.P=some (.tbl ps)/\(ps=#[]\/∃ c,ps=#[rawInt t.line,rawInt t.col,.ref c]/\c ∉ μ/\H c=some (.ext (zu9 t.qual c)))
theorem yhm.grow{T:Tb}{μ:List Addr}{H H':Hp}(h:yhm T μ H)(k:∀ b u,H b=some u->H' b=some u):yhm T μ H':=fun t ht=>by
 obtain⟨⟨a1,ob,a2⟩,a3,ps,a4,a5⟩:=h t ht;exact⟨⟨a1,ob,k _ _ a2⟩,a3,ps,k _ _ a4,a5.imp id fun⟨c,e,n,z⟩=>⟨c,e,n,k _ _ z⟩⟩
theorem yhm.sub{T:Tb}{μ μ':List Addr}{H:Hp}(h:yhm T μ' H)(k:∀ b∈μ,b∈μ'):yhm T μ H:=fun t ht=>by
 obtain⟨⟨a1,a2⟩,a3,ps,a4,a5⟩:=h t ht;exact⟨⟨fun z=>a1 (k _ z),a2⟩,fun z=>a3 (k _ z),ps,a4,a5.imp id fun⟨c,e,n,z⟩=>⟨c,e,fun y=>n (k _ y),z⟩⟩
theorem yhm.more{T:Tb}{μ:List Addr}{H:Hp}{p:Addr}(h:yhm T μ H)(hp:H p=none):yhm T (μ++[p]) H:=fun t ht=>by
 obtain⟨⟨a1,ob,a2⟩,a3,ps,a4,a5⟩:=h t ht;have ne:∀ {b:Addr} {u:HO},H b=some u->b ∉ μ->b ∉ μ++[p]:=fun {b u} e n z=>(List.mem_append.mp z).elim n fun y=>by
  have y':b=p:=by simpa using y
  subst y';rw[hp]at e;cases e
 exact⟨⟨ne a2 a1,ob,a2⟩,ne a4 a3,ps,a4,a5.imp id fun⟨c,e,n,z⟩=>⟨c,e,ne z n,z⟩⟩
theorem yhm.out{T:Tb}{μ:List Addr}{H H':Hp}{a:Addr}(h:yhm T μ H)(hk:∀ b,b≠a->H' b=H b)(ha:a∈μ\/∃ kvs,H a=some (.dK kvs)):yhm T μ H':=fun t ht=>by
 obtain⟨⟨a1,ob,a2⟩,a3,ps,a4,a5⟩:=h t ht;have ne:∀ {b:Addr} {u:HO},H b=some u->b ∉ μ->(∀ kvs,u≠.dK kvs)->H' b=some u:=fun {b u} e n d=>by
  rw[hk b (fun z=>by
   subst z;rcases ha with y|⟨kvs,y⟩
   ·exact n y
   ·rw[e]at y;cases y;exact d kvs rfl)]
  exact e
 exact⟨⟨a1,ob,ne a2 a1 (fun _ z=>by cases z)⟩,a3,ps,ne a4 a3 (fun _ z=>by cases z),a5.imp id fun⟨c,e,n,z⟩=>⟨c,e,n,ne z n (fun _ y=>by cases y)⟩⟩
def Tb.cv(T:Tb)(x:Xn):Value:=.ref (T.ca x.cls)
def fdN(c:Nat):Option Nat:=if c<100 then none else some (c / 100 - 1)
def ybw(C a:Addr):Heap->Prop:=fun h=>∃ o,h.get? a=some o/\o.cls=.ref C
def zva(C:Addr)(dd:Option Addr)(a:Addr):Heap->Prop:=fun h=>∃ o,h.get? a=some o/\o.cls=.ref C/\∀ dN,dd=some dN->o.dict=some dN/\∃ vs,o.data=.fields vs
def yb4(dN:Addr)(n:Nat):Heap->Prop:=fun h=>∃ o,h.get? dN=some o/\∃ es ep t,o.data=.dict es ep/\StrKeys es/\nsFind es "pot" = some (.int n t)
def Scr(K:PySem.W.Frag)(H:Hp)(a:Addr)(ns:List Int):Prop:=
 (∃ o,H a=some (.frz o (.lst (ns.map V.int))))\/
  ∃ (o:Obj) (its:Array Value) (n:Nat),K.lookup a=some o/\o.cls=.type "list"/\o.dict=none/\o.data=.seq its n/\its.size<=sizeLine/\yho (ns.map V.int) its.toList
theorem Scr.seq{K:PySem.W.Frag}{H:Hp}{a:Addr}{ns:List Int}(h:Scr K H a ns):SqL K H a (ns.map V.int):=by
 rcases h with⟨o,h⟩|h
 ·exact .inl (.inr ⟨o,h⟩)
 ·exact .inr h
mutual
def Rep(T:Tb)(μ:List Addr)(H:Hp):D->V->Prop
 | .non,v=>v=.non
 | .bl b,v=>v=.bl b
 | .int i,v=>v=.int i
 | .str x,v=>v=.str x
 | .tup ds,v=>∃ p vs,v=.ref p/\H p=some (.tup vs)/\yhi T μ H ds vs
 | .scr ns,v=>∃ a,v=.ref a/\Scr T.K H a ns
 | .ref n,v=>∃ a,v=.ref a/\μ[n]?=some a
 | .lst ds,v=>∃ a vs,v=.ref a/\a ∉ μ/\H a=some (.lst vs)/\yhi T μ H ds vs
 | .dic ks ds,v=>∃ a kvs,v=.ref a/\a ∉ μ/\Rd H a (.dK kvs)/\kvs.map (·.1)=ks/\yhi T μ H ds (kvs.map (·.2))
 | .obj c ns ds,v=>∃ a dx fs,v=.ref a/\a ∉ μ/\H a=some (.ins (T.ca c) dx fs)/\fs.map (·.1)=ns/\yhi T μ H ds (fs.map (·.2))
 | .exn c,v=>∃ a dd,v=.ref a/\a ∉ μ/\H a=some (.ext (zva (T.ca c) dd a))/\∀ n,fdN c=some n->∃ dN,dd=some dN/\dN ∉ μ/\H dN=some (.ext (yb4 dN n))
def yhi(T:Tb)(μ:List Addr)(H:Hp):List D->List V->Prop
 |[],vs=>vs=[]
 |d::ds,vs=>∃ v r,vs=v::r/\Rep T μ H d v/\yhi T μ H ds r
end
def Kp(o o':HO):Prop:=o'=o\/(∃ ob kvs,o=.dK kvs/\o'=.frz ob (.dK kvs))\/∃ ps ps',o=.tbl ps/\o'=.tbl ps'
theorem Kp.trans{a b c:HO}(x:Kp a b)(y:Kp b c):Kp a c:=by
 rcases x with rfl|⟨ob,kvs,rfl,rfl⟩|⟨ps,ps',rfl,rfl⟩
 ·exact y
 ·rcases y with rfl|⟨_,_,z,_⟩|⟨_,_,z,_⟩
  ·exact .inr (.inl ⟨ob,kvs,rfl,rfl⟩)
  ·cases z
  ·cases z
 ·rcases y with rfl|⟨_,_,z,_⟩|⟨_,ps2,_,rfl⟩
  ·exact .inr (.inr ⟨ps,ps',rfl,rfl⟩)
  ·cases z
  ·exact .inr (.inr ⟨ps,ps2,rfl,rfl⟩)
structure Ext(μ:List Addr)(H:Hp)(μ':List Addr)(H':Hp):Prop where
 pre:∃ r,μ'=μ++r
 tup:∀ p xs,H p=some (.tup xs)->H' p=some (.tup xs)
 frz:∀ p o u,H p=some (.frz o u)->H' p=some (.frz o u)
 keep:∀ p o,H p=some o->p ∉ μ->(∃ o',H' p=some o'/\Kp o o')/\p ∉ μ'
theorem Ext.refl(μ:List Addr)(H:Hp):Ext μ H μ H:=⟨⟨[],by simp⟩,fun _ _ h=>h,fun _ _ _ h=>h,fun _ _ h n=>⟨⟨_,h,.inl rfl⟩,n⟩⟩
theorem Ext.trans{μ μ1 μ2:List Addr}{H H1 H2:Hp}(a:Ext μ H μ1 H1)(b:Ext μ1 H1 μ2 H2):Ext μ H μ2 H2:=by
 obtain⟨⟨r,rfl⟩,t1,f1,k1⟩:=a;obtain⟨⟨r',rfl⟩,t2,f2,k2⟩:=b;exact⟨⟨r++r',by simp⟩,fun p xs h=>t2 p xs (t1 p xs h),fun p o u h=>f2 p o u (f1 p o u h),fun p o h n=>let ⟨⟨o1,h1,c1⟩,n1⟩:=k1 p o h n;let ⟨⟨o2,h2,c2⟩,n2⟩:=k2 p o1 h1 n1;⟨⟨o2,h2,c1.trans c2⟩,n2⟩⟩
theorem Ext.keepN{μ μ':List Addr}{H H':Hp}(e:Ext μ H μ' H')(p:Addr)(o:HO)(h:H p=some o)(n:p ∉ μ)(hd:(∀ kvs,o≠.dK kvs)/\∀ ps,o≠.tbl ps:=by exact⟨(fun _ z=>by cases z),(fun _ z=>by cases z)⟩):H' p=some o/\p ∉ μ':=by
 obtain⟨⟨o',h1,c⟩,n'⟩:=e.keep p o h n;rcases c with rfl|⟨_,kvs,z,_⟩|⟨ps,_,z,_⟩
 ·exact⟨h1,n'⟩
 ·exact absurd z (hd.1 kvs)
 ·exact absurd z (hd.2 ps)
theorem Ext.rd{μ μ':List Addr}{H H':Hp}(e:Ext μ H μ' H')(p:Addr)(kvs:List (Key × V))(h:Rd H p (.dK kvs))(n:p ∉ μ):Rd H' p (.dK kvs)/\p ∉ μ':=by
 rcases h with h|⟨ob,h⟩
 ·obtain⟨⟨o',h1,c⟩,n'⟩:=e.keep p _ h n;rcases c with rfl|⟨ob,kvs',z,rfl⟩|⟨_,_,z,_⟩
  ·exact⟨.inl h1,n'⟩
  ·cases z;exact⟨.inr ⟨ob,h1⟩,n'⟩
  ·cases z
 ·exact⟨.inr ⟨ob,e.frz _ _ _ h⟩,(e.keep p _ h n).2⟩
theorem Ext.get{μ μ':List Addr}{H H':Hp}(e:Ext μ H μ' H'){n:Nat}{a:Addr}(h:μ[n]?=some a):μ'[n]?=some a:=by
 obtain⟨⟨r,rfl⟩,_,_⟩:=e;rw[List.getElem?_append_left (List.getElem?_eq_some_iff.mp h).1];exact h
mutual
theorem Rep.mono{T:Tb}{μ μ':List Addr}{H H':Hp}(e:Ext μ H μ' H'):∀ (d:D) (v:V),Rep T μ H d v->Rep T μ' H' d v
 | .non,v,h=>by simpa [Rep]using h
 | .bl b,v,h=>by simpa [Rep]using h
 | .int i,v,h=>by simpa [Rep]using h
 | .str x,v,h=>by simpa [Rep]using h
 | .tup ds,v,h=>by
  rw[Rep]at h ⊢;obtain⟨p,vs,h1,h2,h3⟩:=h;exact⟨p,vs,h1,e.tup _ _ h2,yhi.mono e ds vs h3⟩
 | .scr ns,v,h=>by
  rw[Rep]at h ⊢;obtain⟨a,h1,h2⟩:=h;refine⟨a,h1,?_⟩;rcases h2 with⟨o,h2⟩|h2
  ·exact .inl ⟨o,e.frz _ _ _ h2⟩
  ·exact .inr h2
 | .ref n,v,h=>by
  rw[Rep]at h ⊢;obtain⟨a,h1,h2⟩:=h;exact⟨a,h1,e.get h2⟩
 | .lst ds,v,h=>by
  rw[Rep]at h ⊢;obtain⟨a,vs,h1,h2,h3,h4⟩:=h;exact⟨a,vs,h1,(e.keepN _ _ h3 h2).2,(e.keepN _ _ h3 h2).1,yhi.mono e ds vs h4⟩
 | .dic ks ds,v,h=>by
  rw[Rep]at h ⊢;obtain⟨a,vs,h1,h2,h3,h5,h4⟩:=h;exact⟨a,vs,h1,(e.rd _ _ h3 h2).2,(e.rd _ _ h3 h2).1,h5,yhi.mono e ds _ h4⟩
 | .obj c ns ds,v,h=>by
  rw[Rep]at h ⊢;obtain⟨a,dx,vs,h1,h2,h3,h5,h4⟩:=h;exact⟨a,dx,vs,h1,(e.keepN _ _ h3 h2).2,(e.keepN _ _ h3 h2).1,h5,yhi.mono e ds _ h4⟩
 | .exn c,v,h=>by
  rw[Rep]at h ⊢;obtain⟨a,dd,h1,h2,h3,h4⟩:=h;exact⟨a,dd,h1,(e.keepN _ _ h3 h2).2,(e.keepN _ _ h3 h2).1,fun n q=>let ⟨dN,q1,q2,q3⟩:=h4 n q;⟨dN,q1,(e.keepN _ _ q3 q2).2,(e.keepN _ _ q3 q2).1⟩⟩
theorem yhi.mono{T:Tb}{μ μ':List Addr}{H H':Hp}(e:Ext μ H μ' H'):∀ (ds:List D) (vs:List V),yhi T μ H ds vs->yhi T μ' H' ds vs
 |[],vs,h=>by simpa [yhi]using h
 |d::ds,vs,h=>by
  rw[yhi]at h ⊢;obtain⟨v,r,h1,h2,h3⟩:=h;exact⟨v,r,h1,Rep.mono e d v h2,yhi.mono e ds r h3⟩
end
theorem yhi.nil{T:Tb}{μ:List Addr}{H:Hp}:yhi T μ H [] []:=by rw[yhi]
theorem yhi.cons{T:Tb}{μ:List Addr}{H:Hp}{d:D}{v:V}{ds:List D}{vs:List V}(h1:Rep T μ H d v)(h2:yhi T μ H ds vs):yhi T μ H (d::ds) (v::vs):=by
 rw[yhi];exact⟨v,vs,rfl,h1,h2⟩
theorem yhi.length{T:Tb}{μ:List Addr}{H:Hp}:∀ {ds:List D} {vs:List V},yhi T μ H ds vs->ds.length=vs.length
 |[],vs,h=>by rw[yhi]at h;subst h;rfl
 |d::ds,vs,h=>by
  rw[yhi]at h;obtain⟨v,r,rfl,_,h3⟩:=h;simp[yhi.length h3]
theorem yhi.get{T:Tb}{μ:List Addr}{H:Hp}:∀ {ds:List D} {vs:List V} {i:Nat} {d:D},yhi T μ H ds vs->ds[i]?=some d->∃ v,vs[i]?=some v/\Rep T μ H d v
 |[],vs,i,d,h,e=>by simp at e
 |d::ds,vs,0,x,h,e=>by
  rw[yhi]at h;obtain⟨v,r,rfl,h2,h3⟩:=h;simp at e;subst e;exact⟨v,rfl,h2⟩
 |d::ds,vs,i+1,x,h,e=>by
  rw[yhi]at h;obtain⟨v,r,rfl,h2,h3⟩:=h;simpa using yhi.get (i:=i) h3 (by simpa using e)
theorem yhi.append{T:Tb}{μ:List Addr}{H:Hp}:∀ {ds es:List D} {vs us:List V},yhi T μ H ds vs->yhi T μ H es us->yhi T μ H (ds++es) (vs++us)
 |[],es,vs,us,h,h'=>by rw[yhi]at h;subst h;simpa using h'
 |d::ds,es,vs,us,h,h'=>by
  rw[yhi]at h;obtain⟨v,r,rfl,h2,h3⟩:=h;exact yhi.cons h2 (yhi.append h3 h')
theorem yhi.set{T:Tb}{μ:List Addr}{H:Hp}{d:D}{v:V}(hd:Rep T μ H d v):∀ {ds:List D} {vs:List V} (i:Nat),yhi T μ H ds vs->yhi T μ H (ds.set i d) (vs.set i v)
 |[],vs,i,h=>by rw[yhi]at h;subst h;simpa using yhi.nil
 |x::ds,vs,0,h=>by
  rw[yhi]at h;obtain⟨w,r,rfl,h2,h3⟩:=h;exact yhi.cons hd h3
 |x::ds,vs,i+1,h=>by
  rw[yhi]at h;obtain⟨w,r,rfl,h2,h3⟩:=h;exact yhi.cons h2 (yhi.set hd i h3)
theorem yhi.drop{T:Tb}{μ:List Addr}{H:Hp}:∀ {ds:List D} {vs:List V} (n:Nat),yhi T μ H ds vs->yhi T μ H (ds.drop n) (vs.drop n)
 |ds,vs,0,h=>by simpa using h
 |[],vs,n+1,h=>by rw[yhi]at h;subst h;simpa using yhi.nil
 |x::ds,vs,n+1,h=>by
  rw[yhi]at h;obtain⟨w,r,rfl,h2,h3⟩:=h;simpa using yhi.drop n h3
theorem yhi.take{T:Tb}{μ:List Addr}{H:Hp}:∀ {ds:List D} {vs:List V} (n:Nat),yhi T μ H ds vs->yhi T μ H (ds.take n) (vs.take n)
 |ds,vs,0,h=>by simpa using yhi.nil
 |[],vs,n+1,h=>by rw[yhi]at h;subst h;simpa using yhi.nil
 |x::ds,vs,n+1,h=>by
  rw[yhi]at h;obtain⟨w,r,rfl,h2,h3⟩:=h;exact yhi.cons h2 (yhi.take n h3)
def yhg(T:Tb)(μ:List Addr)(H:Hp):List (Str × D)->List (Str × V)->Prop:=Paired fun p q=>p.1=q.1/\Rep T μ H p.2 q.2
def yhh(T:Tb)(μ:List Addr)(H:Hp):List (Key × D)->List (Key × V)->Prop:=Paired fun p q=>p.1=q.1/\Rep T μ H p.2 q.2
def ObR(T:Tb)(μ:List Addr)(H:Hp)(a:Addr):Ob->Prop
 | .lst ds=>∃ vs,H a=some (.lst vs)/\yhi T μ H ds vs
 | .dic kvs=>∃ vs,H a=some (.dK vs)/\yhh T μ H kvs vs
 | .ins c fs=>∃ dx vs,H a=some (.ins (T.ca c) dx vs)/\yhg T μ H fs vs
structure Rel(T:Tb)(μ:List Addr)(H:Hp)(σ:Sto):Prop where
 len:μ.length=σ.length
 nd:μ.Nodup
 obs:∀ (n:Nat) (o:Ob),σ[n]?=some o->∃ a,μ[n]?=some a/\ObR T μ H a o
 tb:yhm T μ H
def ygw(T:Tb)(μ:List Addr)(H:Hp)(ρ:Ev)(st:St):Prop:=ρ.length=st.length/\∀ (i:Nat) (d:D),ρ[i]?=some (some d)->∃ v,st[i]?=some (some v)/\Rep T μ H d v
theorem ygw.mono{T:Tb}{μ μ':List Addr}{H H':Hp}{ρ:Ev}{st:St}(e:Ext μ H μ' H')(h:ygw T μ H ρ st):ygw T μ' H' ρ st:=
 ⟨h.1,fun i d q=>let ⟨v,h1,h2⟩:=h.2 i d q;⟨v,h1,Rep.mono e d v h2⟩⟩
theorem ygw.set{T:Tb}{μ:List Addr}{H:Hp}{ρ:Ev}{st:St}{d:D}{v:V}(h:ygw T μ H ρ st)(i:Nat)(r:Rep T μ H d v):ygw T μ H (ρ.set i (some d)) (st.set i (some v)):=by
 refine⟨by simpa using h.1,fun j x q=>?_⟩;rw[List.getElem?_set]at q;by_cases hj:i=j
 ·subst hj;rw[if_pos rfl]at q;split at q
  ·rename_i hl
   cases q;exact⟨v,by rw[List.getElem?_set,if_pos rfl,if_pos (by rw[<-h.1];exact hl)],r⟩
  ·cases q
 ·rw[if_neg hj]at q;obtain⟨w,h1,h2⟩:=h.2 j x q;exact⟨w,by rw[List.getElem?_set,if_neg hj];exact h1,h2⟩
def Unt(e:Addr)(cls a0:Value)(h:Heap):Prop:=∃ oe vs,h.get? e=some oe/\oe.cls=cls/\oe.data=.fields vs/\1<vs.size/\vs[0]?=some a0/\vs[1]?=some .none
def ygz(B:Heap)(l:List Env)(e:Addr)(cls a0:Value)(h:Heap):Prop:=B.StaysIn h/\B.get? e=none/\h.FunFrames B l/\((∃ fl,h.TracedAtW B e cls a0 fl)\/Unt e cls a0 h)
def yhd(o:Obj)(n:Nat):Prop:=∃ es ep t,o.data=.dict es ep/\StrKeys es/\nsFind es "pot" = some (.int n t)
def FdH(fd:Option Nat)(e:Addr)(B h h0:Heap)(H':Hp):Prop:=∀ n,fd=some n->∃ dN oD oe,h.get? e=some oe/\oe.dict=some dN/\B.get? dN=some oD/\yhd oD n/\H' dN=none/\h0.get? dN=none
structure Fly(P:Program)(w:World)(outer:List Env)(H:Hp)(s:Shared)(cls:Value)(fd:Option Nat)(H':Hp)(e:Value)(s':Shared):Prop where
 ex:∃ (ea:Addr) (a0:Value) (B:Heap),e=.ref ea/\ygz B outer ea cls a0 s'.heap/\H' ea=none/\s.heap.get? ea=none/\
  (∀ b o,H' b=some o->∃ ob,B.get? b=some ob)/\(∀ b o,s.heap.get? b=some o->H b=none->b ∉ frs outer->B.get? b=some o)/\(∀ b o,s.heap.get? b=some o->b ∉ frs outer->∃ o',B.get? b=some o')/\FdH fd ea B s'.heap s.heap H'
 os:s'.os=s.os
 bare:AllBare s'.gens
 un:Un (frs outer) [] H H' s.heap s'.heap
 hok:HOk P w H' s'.heap
def CXE(P:Program)(w:World):CXT:=fun outer H s E e s'=>∃ cls fd H',Fly P w outer H s cls fd H' e s'/\E cls fd H'
structure Thr(X:Cx)(st:St)(cls:Value)(fd:Option Nat)(H':Hp):Prop where
 fly:∀ (pins:List (Addr × Obj)) (H:Hp) (s:Shared) (e:Value) (s':Shared),Inv X pins st H s->Fly X.prog X.w X.stack H s cls fd H' e s'->X.xe e s'
abbrev XE(X:Cx)(st:St):XK:=fun cls fd H'=>Thr X st cls fd H'
def yhc{α γ:Type}(T:Tb)(E:XK)(R:List Addr->Hp->α->γ->Prop)(μ:List Addr)(H:Hp)(o:Out α)(Q:γ->Hp->Prop):Prop:=match o with
 | .ok a σ=>∀ μ' g H',Ext μ H μ' H'->Rel T μ' H' σ->R μ' H' a g->Q g H'
 | .ex x σ=>∀ μ' H',Ext μ H μ' H'->Rel T μ' H' σ->E (T.cv x) (fdN x.cls) H'
 | .bad=>False
theorem yhc.mono{α γ:Type}{T:Tb}{E:XK}{R:List Addr->Hp->α->γ->Prop}{μ μ1:List Addr}{H H1:Hp}{o:Out α}{Q:γ->Hp->Prop}(e:Ext μ H μ1 H1)(h:yhc T E R μ H o Q):yhc T E R μ1 H1 o Q:=by
 cases o with
 |ok a σ=>exact fun μ' g H' e' r q=>h μ' g H' (e.trans e') r q
 |ex x σ=>exact fun μ' H' e' r=>h μ' H' (e.trans e') r
 |bad=>exact h
theorem yhc.imp{α γ:Type}{T:Tb}{E:XK}{R:List Addr->Hp->α->γ->Prop}{μ:List Addr}{H:Hp}{o:Out α}{Q Q':γ->Hp->Prop}(h:yhc T E R μ H o Q)(k:∀ g H',Q g H'->Q' g H'):yhc T E R μ H o Q':=by
 cases o with
 |ok a σ=>exact fun μ' g H' e' r q=>k _ _ (h μ' g H' e' r q)
 |ex x σ=>exact h
 |bad=>exact h
theorem yhc.bind{α β γ δ:Type}{T:Tb}{E:XK}{R:List Addr->Hp->α->γ->Prop}{R':List Addr->Hp->β->δ->Prop}{μ:List Addr}{H:Hp}{m:M α}{k:α->M β}{σ:Sto}{Q:δ->Hp->Prop}{Q1:γ->Hp->Prop}
  (h:yhc T E R' μ H (bnd m k σ) Q) (f:∀ a σ1 μ1 g H1,m σ=.ok a σ1->Ext μ H μ1 H1->Rel T μ1 H1 σ1->R μ1 H1 a g->yhc T E R' μ1 H1 (k a σ1) Q->Q1 g H1):yhc T E R μ H (m σ) Q1:=by
 unfold bnd at h;cases e:m σ with
 |ok a σ1=>
  rw[e]at h;exact fun μ' g H' e' r q=>f a σ1 μ' g H' e e' r q (h.mono e')
 |ex x σ1=>rw[e]at h;exact h
 |bad=>rw[e]at h;exact h
theorem yhc.here{T:Tb}{E:XK}{α γ:Type}{R:List Addr->Hp->α->γ->Prop}{μ:List Addr}{H:Hp}{d:α}{σ:Sto}{g:γ}{Q:γ->Hp->Prop}(h:yhc T E R μ H (.ok d σ) Q)(r:Rel T μ H σ)(p:R μ H d g):Q g H:=h μ g H (Ext.refl _ _) r p
section
variable(T:Tb)(X:Cx)
def tF(f:Ev->M D):TE:=fun st H Q=>∃ μ ρ σ,ygw T μ H ρ st/\Rel T μ H σ/\yhc T (XE X st) (Rep T) μ H (f ρ σ) Q
def yb5:List Addr->Hp->Bool->Bool->Prop:=fun _ _ a b=>b=a
def tT(f:Ev->M Bool):TT:=fun st H Q=>∃ μ ρ σ,ygw T μ H ρ st/\Rel T μ H σ/\yhc T (XE X st) yb5 μ H (f ρ σ) Q
def tL(f:Ev->M (List D)):TA:=fun st H Q=>∃ μ ρ σ,ygw T μ H ρ st/\Rel T μ H σ/\yhc T (XE X st) (yhi T) μ H (f ρ σ) Q
inductive Gl2 where
 |nx (st:St)|rt (v:V)|bk (st:St)|ct (st:St)|xc (st:St) (cls:Value) (fd:Option Nat)
def RFl(T:Tb)(μ:List Addr)(H:Hp):Fl->Gl2->Prop
 | .nx ρ,.nx st=>ygw T μ H ρ st
 | .rt d,.rt v=>Rep T μ H d v
 | .bk ρ,.bk st=>ygw T μ H ρ st
 | .ct ρ,.ct st=>ygw T μ H ρ st
 | .xc ρ x,.xc st cls fd=>ygw T μ H ρ st/\cls=T.cv x/\fd=fdN x.cls
 |_,_=>False
def ygx(X:Cx)(D:Ends):Gl2->Hp->Prop
 | .nx st,H=>D.nx st H
 | .rt v,H=>D.rt v H
 | .bk st,H=>D.bk st H
 | .ct st,H=>D.ct st H
 | .xc st cls fd,H=>Thr X st cls fd H
abbrev EN:XK:=fun _ _ _=>False
def tS(g:Ev->M Fl):TS:=fun D st H=>∃ μ ρ σ,ygw T μ H ρ st/\Rel T μ H σ/\yhc T EN (RFl T) μ H (g ρ σ) (ygx X D)
end
def xs{α:Type}(ρ:Ev)(m:M α)(k:α->M Fl):M Fl:=fun σ=>match m σ with
 | .ok a σ'=>k a σ'
 | .ex x σ'=>.ok (.xc ρ x) σ'
 | .bad=>.bad
theorem yhc.xs{α γ:Type}{T:Tb}{X:Cx}{D:Ends}{R:List Addr->Hp->α->γ->Prop}{μ:List Addr}{H:Hp}{ρ:Ev}{st:St}{m:M α}{k:α->M Fl}{σ:Sto}{Q1:γ->Hp->Prop}(hE:ygw T μ H ρ st)
  (h:yhc T EN (RFl T) μ H (L4.xs ρ m k σ) (ygx X D)) (f:∀ a σ1 μ1 g H1,m σ=.ok a σ1->Ext μ H μ1 H1->Rel T μ1 H1 σ1->R μ1 H1 a g->yhc T EN (RFl T) μ1 H1 (k a σ1) (ygx X D)->Q1 g H1):yhc T (XE X st) R μ H (m σ) Q1:=by
 unfold L4.xs at h;cases e:m σ with
 |ok a σ1=>
  rw[e]at h;exact fun μ' g H' e' r q=>f a σ1 μ' g H' e e' r q (h.mono e')
 |ex x σ1=>
  rw[e]at h;intro μ' H' e' r;exact h μ' (.xc st (T.cv x) (fdN x.cls)) H' e' r ⟨hE.mono e',rfl,rfl⟩
 |bad=>rw[e]at h;exact h
abbrev FE(T:Tb)(X:Cx)(e:Expr)(f:Ev->M D):Prop:=PE X e (tF T X f)
abbrev FT(T:Tb)(X:Cx)(e:Expr)(f:Ev->M Bool):Prop:=PT X e (tT T X f)
abbrev FW(T:Tb)(X:Cx)(e:Expr)(f:Ev->M Bool):Prop:=PW X e (tT T X f)
abbrev FA(T:Tb)(X:Cx)(es:List Expr)(f:Ev->M (List D)):Prop:=PA X es (tL T X f)
abbrev FS(T:Tb)(X:Cx)(st:Stmt)(g:Ev->M Fl):Prop:=PS X st (tS T X g)
abbrev FSs(T:Tb)(X:Cx)(st:List Stmt)(g:Ev->M Fl):Prop:=PSs X st (tS T X g)
end L4
namespace L4
open PySem PySem.Spec PyProof.Rows L2
def cap:Nat:=1000
theorem zvv{n:Nat}(h:n<=cap):n<=sizeLine:=Nat.le_of_lt (zh8 h)
theorem zvw{n:Nat}(h:n<cap):n<sizeLine:=zh8 (Nat.le_of_lt h)
theorem zlu{α:Type}{l:List α}(h:l.Nodup){i j:Nat}{a:α}(hi:l[i]?=some a)(hj:l[j]?=some a):i=j:=by
 obtain⟨q1,q2⟩:=List.getElem?_eq_some_iff.mp hi;obtain⟨q3,q4⟩:=List.getElem?_eq_some_iff.mp hj;have hp:=List.pairwise_iff_getElem.mp h;rcases Nat.lt_trichotomy i j with z|z|z
 ·exact absurd (q2.trans q4.symm) (hp i j q1 q3 z)
 ·exact z
 ·exact absurd (q4.trans q2.symm) (hp j i q3 q1 z)
section
variable{T:Tb}{μ μ':List Addr}{H H':Hp}{σ:Sto}
theorem zd4{α:Type}(e:Ext μ H μ' H'){xs:List (α × D)}{ys:List (α × V)}(h:Paired (fun(p:α × D) (q:α × V)=>p.1=q.1/\Rep T μ H p.2 q.2) xs ys) :
  Paired (fun(p:α × D) (q:α × V)=>p.1=q.1/\Rep T μ' H' p.2 q.2) xs ys:=L2.Paired.mapP h fun p q z=>⟨z.1,Rep.mono e _ _ z.2⟩
theorem ObR.mono(e:Ext μ H μ' H'){a:Addr}(ha:H' a=H a):∀ {o:Ob},ObR T μ H a o->ObR T μ' H' a o
 | .lst ds,⟨vs,h,r⟩=>⟨vs,ha.trans h,yhi.mono e _ _ r⟩
 | .dic kvs,⟨vs,h,r⟩=>⟨vs,ha.trans h,zd4 e r⟩
 | .ins c fs,⟨dx,vs,h,r⟩=>⟨dx,vs,ha.trans h,zd4 e r⟩
theorem ObR.some{a:Addr}:∀ {o:Ob},ObR T μ H a o->∃ u,H a=Option.some u/\(∀ xs,u≠.tup xs)/\(∀ ob w,u≠.frz ob w)
 | .lst ds,⟨vs,h,r⟩=>⟨_,h,(fun _ z=>by cases z),(fun _ _ z=>by cases z)⟩
 | .dic kvs,⟨vs,h,r⟩=>⟨_,h,(fun _ z=>by cases z),(fun _ _ z=>by cases z)⟩
 | .ins c fs,⟨dx,vs,h,r⟩=>⟨_,h,(fun _ z=>by cases z),(fun _ _ z=>by cases z)⟩
theorem Rel.keep(r:Rel T μ H σ)(e:Ext μ H μ H')(k:∀ a∈μ,H' a=H a)(t:yhm T μ H'):Rel T μ H' σ:=
 ⟨r.len,r.nd,fun n o h=>let ⟨a,h1,h2⟩:=r.obs n o h;⟨a,h1,h2.mono e (k a (List.mem_of_getElem? h1))⟩,t⟩
theorem Rel.mem(r:Rel T μ H σ){a:Addr}(h:a∈μ):∃ u,H a=some u/\(∀ xs,u≠.tup xs)/\(∀ ob w,u≠.frz ob w):=by
 obtain⟨n,hn⟩:=List.getElem?_of_mem h;have hl:n<σ.length:=by rw[<-r.len];exact(List.getElem?_eq_some_iff.mp hn).1
 obtain⟨a',h1,h2⟩:=r.obs n σ[n] (by simp[hl]);rw[hn]at h1;cases h1;exact h2.some
theorem zpi{p:Addr}{o:HO}(hp:H p=none):Ext μ H μ (upd H p o):=
 ⟨⟨[],by simp⟩,fun q xs h=>by rw[ybq (ze6 h hp)];exact h,fun q ob u h=>by rw[ybq (ze6 h hp)];exact h,fun q ob h n=>⟨⟨ob,by rw[ybq (ze6 h hp)];exact h,.inl rfl⟩,n⟩⟩
theorem Rel.fresh(r:Rel T μ H σ){p:Addr}{o:HO}(hp:H p=none):Rel T μ (upd H p o) σ:=
 r.keep (zpi hp) (fun a ha=>by obtain⟨u,h,_⟩:=r.mem ha;rw[ybq (ze6 h hp)]) (r.tb.grow fun b u h=>by rw[ybq (ze6 h hp)];exact h)
theorem zjw{p:Addr}{o:HO}(hp:H p=none):Ext μ H (μ++[p]) (upd H p o):=
 ⟨⟨[p],rfl⟩,(zpi (μ:=μ) hp).tup,(zpi (μ:=μ) hp).frz,fun q ob h n=>⟨((zpi (μ:=μ) hp).keep q ob h n).1,fun z=>(List.mem_append.mp z).elim n fun z=>ze6 h hp (by simpa using z)⟩⟩
theorem Rel.push(r:Rel T μ H σ){p:Addr}{o:HO}{ob:Ob}(hp:H p=none)(ho:ObR T (μ++[p]) (upd H p o) p ob):Rel T (μ++[p]) (upd H p o) (σ++[ob]):=by
 refine⟨by simp[r.len],?_,fun n x h=>?_,(r.tb.more hp).grow fun b u h=>by rw[ybq (ze6 h hp)];exact h⟩
 ·rw[List.nodup_append];refine⟨r.nd,by simp,fun a ha b hb e=>?_⟩;have eb:b=p:=by simpa using hb
  subst eb;subst e;obtain⟨u,h,_⟩:=r.mem ha;rw[hp]at h;cases h
 ·by_cases hn:n<σ.length
  ·rw[List.getElem?_append_left hn]at h;obtain⟨a,h1,h2⟩:=r.obs n x h;obtain⟨u,hu,_⟩:=h2.some;exact⟨a,by rw[List.getElem?_append_left (by rw[r.len];exact hn)];exact h1,h2.mono (zjw hp) (ybq (ze6 hu hp))⟩
  ·rw[List.getElem?_append_right (by omega)]at h;have e0:n - σ.length=0:=by
    have:=(List.getElem?_eq_some_iff.mp h).1;simp at this;omega
   rw[e0]at h;simp at h;subst h;have en:n=μ.length:=by rw[r.len];omega
   subst en;exact⟨p,by simp,ho⟩
theorem zmo{p:Addr}{o:HO}(r:Rel T μ H σ):Rep T (μ++[p]) (upd H p o) (.ref σ.length) (.ref p):=by
 rw[Rep];exact⟨p,rfl,by rw[<-r.len];simp⟩
theorem zgj{a:Addr}{u o:HO}(hm:a∈μ)(ha:H a=some u)(h1:∀ xs,u≠.tup xs)(h2:∀ ob w,u≠.frz ob w):Ext μ H μ (upd H a o):=
 ⟨⟨[],by simp⟩,fun q xs h=>by rw[ybq (yes h ha (fun z=>h1 xs z.symm))];exact h,fun q ob w h=>by rw[ybq (yes h ha (fun z=>h2 ob w z.symm))];exact h,fun q ob h n=>⟨⟨ob,by rw[ybq (fun z=>n (by rw[z];exact hm))];exact h,.inl rfl⟩,n⟩⟩
theorem Rel.write(r:Rel T μ H σ){n:Nat}{a:Addr}{o:HO}{ob:Ob}(hn:μ[n]?=some a)(ho:ObR T μ (upd H a o) a ob):Ext μ H μ (upd H a o)/\Rel T μ (upd H a o) (σ.set n ob):=by
 obtain⟨u,hu,h1,h2⟩:=r.mem (List.mem_of_getElem? hn);have e:Ext μ H μ (upd H a o):=zgj (List.mem_of_getElem? hn) hu h1 h2;refine⟨e,by simp[r.len],r.nd,fun m x h=>?_,r.tb.out (fun b hb=>ybq hb) (.inl (List.mem_of_getElem? hn))⟩;rw[List.getElem?_set]at h;by_cases hm:n=m
 ·subst hm;rw[if_pos rfl]at h;split at h
  ·cases h;exact⟨a,hn,ho⟩
  ·cases h
 ·rw[if_neg hm]at h;obtain⟨b,h3,h4⟩:=r.obs m x h;refine⟨b,h3,h4.mono e (ybq fun z=>hm ?_)⟩;subst z;exact zlu r.nd hn h3
theorem Rel.at(r:Rel T μ H σ){n:Nat}{v:V}{o:Ob}(h:Rep T μ H (.ref n) v)(e:σ[n]?=some o):∃ a,v=.ref a/\μ[n]?=some a/\ObR T μ H a o:=by
 rw[Rep]at h;obtain⟨a,rfl,ha⟩:=h;obtain⟨a',h1,h2⟩:=r.obs n o e;rw[ha]at h1;cases h1;exact⟨a,rfl,ha,h2⟩
end
def yik(i:Nat):Ev->M D:=fun ρ σ=>match ρ[i]? with
 |some (some d)=>.ok d σ
 |_=>.bad
def eC(d:D):Ev->M D:=fun _=>ret d
def yhz(o:D->D->M D)(m:M D)(x:D):M D:=bnd m (o x)
def yid(o:D->D->M D)(a b:Ev->M D):Ev->M D:=fun ρ=>bnd (a ρ) (yhz o (b ρ))
def eUn(o:D->M D)(a:Ev->M D):Ev->M D:=fun ρ=>bnd (a ρ) o
def tst(d:D):M Bool:=match d with
 | .bl b=>ret b
 |_=>bad
def ifK{α:Type}(p q:M α)(c:Bool):M α:=if c=true then p else q
def yjl(c:Bool):M Bool:=ret (!c)
def yge{α:Type}(k:Bool->M α)(d:D):M α:=bnd (tst d) k
def eT(f:Ev->M D):Ev->M Bool:=fun ρ=>bnd (f ρ) tst
def yhx(a b:Ev->M Bool):Ev->M Bool:=fun ρ=>bnd (a ρ) (ifK (b ρ) (ret false))
def bOr(a b:Ev->M Bool):Ev->M Bool:=fun ρ=>bnd (a ρ) (ifK (ret true) (b ρ))
def yhy(a:Ev->M Bool):Ev->M Bool:=fun ρ=>bnd (a ρ) yjl
def yic(a b:Ev->M D):Ev->M D:=fun ρ=>bnd (a ρ) (yge (ifK (b ρ) (ret (.bl false))))
def eOr(a b:Ev->M D):Ev->M D:=fun ρ=>bnd (a ρ) (yge (ifK (ret (.bl true)) (b ρ)))
def yhq:Ev->M (List D):=fun _=>ret []
def ycr(x:D)(xs:List D):M (List D):=ret (x::xs)
def zvg(m:M (List D))(x:D):M (List D):=bnd m (ycr x)
def ycc(e:Ev->M D)(r:Ev->M (List D)):Ev->M (List D):=fun ρ=>bnd (e ρ) (zvg (r ρ))
def ylr(ds:List D):M D:=if ds.length<=cap then ret (.tup ds)else bad
def yij(a:Ev->M (List D)):Ev->M D:=fun ρ=>bnd (a ρ) ylr
def yep(ds:List D):M D:=fun σ=>.ok (.ref σ.length) (σ++[.lst ds])
def yjf(ds:List D):M D:=if ds.length<=cap then yep ds else bad
def yii(a:Ev->M (List D)):Ev->M D:=fun ρ=>bnd (a ρ) yjf
def lvK(ds:List D):M D:=if ds.length<=cap then ret (.lst ds)else bad
def eLv(a:Ev->M (List D)):Ev->M D:=fun ρ=>bnd (a ρ) lvK
def yb8(T:Tb)(r:R2)(o:D->D->M D):Prop:=∀ (E:XK) μ H σ x y v u Q,Rel T μ H σ->Rep T μ H x v->Rep T μ H y u->yhc T E (Rep T) μ H (o x y σ) Q->r v u H Q
def zn0(T:Tb)(r:List V->Hp->VK->Prop)(o:List D->M D):Prop:=∀ (E:XK) μ H σ xs vs Q,Rel T μ H σ->yhi T μ H xs vs->yhc T E (Rep T) μ H (o xs σ) Q->r vs H Q
section
variable{T:Tb}{X:Cx}{a b c:Expr}{fa fb:Ev->M D}{ta tb:Ev->M Bool}{pos:Pos}
theorem zxa(i:Nat){x:Str}(hN:X.N[i]?=some x:=by rfl)(hv:Vis X.env.scope x:=by first|exact Or.inl rfl|exact Or.inr (Or.inl rfl)|exact Or.inr (Or.inr rfl))(hd:(x == ("__debug__" : Str))=false:=by decide)
  (hcd:(x == ("__classdict__" : Str))=false:=by decide):FE T X (.Name x pos) (yik i):=by
 intro pins s st H Q I h;obtain⟨μ,ρ,σ,he,hr,hp⟩:=h;refine zz7 hN hv hd hcd pins s st H Q I ?_;unfold yik at hp;cases e:ρ[i]? with
 |none=>rw[e]at hp;exact hp.elim
 |some o=>
  cases o with
  |none=>rw[e]at hp;exact hp.elim
  |some d=>
   rw[e]at hp;obtain⟨v,h1,h2⟩:=he.2 i d e;exact⟨v,h1,hp.here hr h2⟩
theorem zjz{e:Expr}{v:V}{d:D}(h:PE X e (tC v))(r:∀ μ H,Rep T μ H d v):FE T X e (eC d):=by
 intro pins s st H Q I hq;obtain⟨μ,ρ,σ,he,hr,hp⟩:=hq;exact h pins s st H Q I (yhc.here hp hr (r _ _))
theorem zw0{i:Int}{j}:FE T X (.Constant (.int i) j pos) (eC (.int i)):=zjz zz0 fun _ _=>by rw[Rep]
theorem yc6{i:Bool}{j}:FE T X (.Constant (.bool i) j pos) (eC (.bl i)):=zjz yff fun _ _=>by rw[Rep]
theorem zw6{j}:FE T X (.Constant .none j pos) (eC .non):=zjz zz2 fun _ _=>by rw[Rep]
theorem zw8{i:Str}{j}:FE T X (.Constant (.str i) j pos) (eC (.str i)):=zjz zz4 fun _ _=>by rw[Rep]
theorem two{r:R2}{o:D->D->M D}(hs:yb8 T r o){st:St}{H:Hp}{Q:VK}(h:tF T X (yid o fa fb) st H Q):tOp r (tF T X fa) (tF T X fb) st H Q:=by
 obtain⟨μ,ρ,σ,he,hr,hp⟩:=h;exact⟨μ,ρ,σ,he,hr,hp.bind fun x σ1 μ1 v H1 _ e1 r1 p1 q1=>⟨μ1,ρ,σ1,he.mono e1,r1,q1.bind fun y σ2 μ2 u H2 _ e2 r2 p2 q2=>hs _ μ2 H2 σ2 x y v u Q r2 (Rep.mono e2 _ _ p1) p2 q2⟩⟩
theorem yda{op:Operator}{r:R2}{o:D->D->M D}(ho:OpR X (binaryOp op) r)(hs:yb8 T r o)(ha:FE T X a fa)(hb:FE T X b fb):FE T X (.BinOp a op b pos) (yid o fa fb):=
 fun pins s st H Q I h=>yfi ho ha hb pins s st H Q I (two hs h)
theorem zwx{op:CmpOp}{r:R2}{o:D->D->M D}(ho:OpR X (compareOp op) r)(hs:yb8 T r o)(ha:FE T X a fa)(hb:FE T X b fb)(hm:behindInMarks op b=false):FE T X (.Compare a [op] [b] pos) (yid o fa fb):=
 fun pins s st H Q I h=>zsy ho ha hb hm pins s st H Q I (two hs h)
theorem yc7{r:R2}{o:D->D->M D}(ho:IxR X r)(hs:yb8 T r o)(ha:FE T X a fa)(hb:FE T X b fb)(hp:znz b):FE T X (.Subscript a b pos) (yid o fa fb):=
 fun pins s st H Q I h=>yfh ho ha hb hp pins s st H Q I (two hs h)
theorem ybl{E:XK}{d:D}{σ:Sto}{μ:List Addr}{H:Hp}{v:V}{β δ:Type}{R':List Addr->Hp->β->δ->Prop}{k:Bool->M β}{Q:δ->Hp->Prop}(r:Rep T μ H d v)(h:yhc T E R' μ H (bnd (tst d) k σ) Q):∃ c,d=.bl c/\v=.bl c/\yhc T E R' μ H (k c σ) Q:=by
 cases d with
 |bl c=>rw[Rep]at r;exact⟨c,rfl,r,h⟩
 |_=>exact h.elim
theorem zu0{E:XK}{d:D}{σ:Sto}{μ:List Addr}{H:Hp}{v:V}{Q:Bool->Hp->Prop}(r:Rep T μ H d v)(h:yhc T E yb5 μ H (tst d σ) Q):∃ c,v=.bl c/\yhc T E yb5 μ H (.ok c σ) Q:=by
 cases d with
 |bl c=>rw[Rep]at r;exact⟨c,r,h⟩
 |_=>exact h.elim
theorem zxs{op:CmpOp}{r:R2}{o:D->D->M D}(ho:OpR X (compareOp op) r)(hs:yb8 T r o)(ha:FE T X a fa)(hb:FE T X b fb)(hm:behindInMarks op b=false):FT T X (.Compare a [op] [b] pos) (eT (yid o fa fb)):=by
 intro pins s st H Q I h;refine zs8 ho ha hb hm pins s st H Q I ?_;refine two (o:=o) hs ?_;obtain⟨μ,ρ,σ,he,hr,hp⟩:=h;refine⟨μ,ρ,σ,he,hr,hp.bind fun d σ1 μ1 v H1 _ e1 r1 p1 q1=>?_⟩;obtain⟨k,ev,q⟩:=zu0 p1 q1;exact⟨k,ev,q.here r1 rfl⟩
theorem zxv{e:Expr}{f:Ev->M D}(h:FE T X e f)(he:∀ whole,isTrue e X.env whole=(do let v <-whole;standAt e.pos;holding [v] (truthy v)):=by intro _;rfl):FT T X e (eT f):=by
 intro pins s st H Q I hw;refine yao h he pins s st H Q I ?_;obtain⟨μ,ρ,σ,hE,hr,hp⟩:=hw;refine⟨μ,ρ,σ,hE,hr,hp.bind fun d σ1 μ1 v H1 _ e1 r1 p1 q1=>?_⟩;obtain⟨k,ev,q⟩:=zu0 p1 q1;exact⟨k,ev,q.here r1 rfl⟩
theorem zxu(h:FT T X a ta):FT T X (.UnaryOp .Not a pos) (yhy ta):=by
 intro pins s st H Q I hw;refine yan h pins s st H Q I ?_;obtain⟨μ,ρ,σ,hE,hr,hp⟩:=hw;exact⟨μ,ρ,σ,hE,hr,hp.bind fun c σ1 μ1 v H1 _ e1 r1 p1 q1=>by cases p1;exact q1.here r1 rfl⟩
variable{rest:List Expr}
theorem zqe(h:FT T X a ta):FW T X (.BoolOp .And [a] pos) ta:=ztb h
theorem zxy(h:FT T X a ta):FW T X (.BoolOp .Or [a] pos) ta:=yaq h
theorem zxx(h:FT T X a ta)(hb:FW T X (.BoolOp .And (b::rest) pos) tb):FW T X (.BoolOp .And (a::b::rest) pos) (yhx ta tb):=by
 intro wh pins s st H Q I hw;refine yap h hb wh pins s st H Q I ?_;obtain⟨μ,ρ,σ,hE,hr,hp⟩:=hw;refine⟨μ,ρ,σ,hE,hr,hp.bind fun c σ1 μ1 v H1 _ e1 r1 p1 q1=>?_⟩;cases p1;cases c with
 |true=>unfold ifK at q1;rw[if_pos rfl]at q1 ⊢;exact⟨μ1,ρ,σ1,hE.mono e1,r1,q1⟩
 |false=>unfold ifK at q1;rw[if_neg Bool.false_ne_true]at q1 ⊢;exact q1.here r1 rfl
theorem ydn(h:FT T X a ta)(hb:FW T X (.BoolOp .Or (b::rest) pos) tb):FW T X (.BoolOp .Or (a::b::rest) pos) (bOr ta tb):=by
 intro wh pins s st H Q I hw;refine yfo h hb wh pins s st H Q I ?_;obtain⟨μ,ρ,σ,hE,hr,hp⟩:=hw;refine⟨μ,ρ,σ,hE,hr,hp.bind fun c σ1 μ1 v H1 _ e1 r1 p1 q1=>?_⟩;cases p1;cases c with
 |true=>unfold ifK at q1;rw[if_pos rfl]at q1 ⊢;exact q1.here r1 rfl
 |false=>unfold ifK at q1;rw[if_neg Bool.false_ne_true]at q1 ⊢;exact⟨μ1,ρ,σ1,hE.mono e1,r1,q1⟩
theorem zw7{op}(h:FE T X a fa):FE T X (.BoolOp op [a] pos) fa:=zz3 h
theorem zww(h:FE T X a fa)(hb:FE T X (.BoolOp .And (b::rest) pos) fb):FE T X (.BoolOp .And (a::b::rest) pos) (yic fa fb):=by
 intro pins s st H Q I hw;refine zzw h hb pins s st H Q I ?_;obtain⟨μ,ρ,σ,hE,hr,hp⟩:=hw;refine⟨μ,ρ,σ,hE,hr,hp.bind fun d σ1 μ1 v H1 _ e1 r1 p1 q1=>?_⟩;obtain⟨c,rfl,ev,q⟩:=ybl p1 q1;refine⟨c,ev,?_⟩;cases c with
 |true=>unfold ifK at q;rw[if_pos rfl]at q ⊢;exact⟨μ1,ρ,σ1,hE.mono e1,r1,q⟩
 |false=>unfold ifK at q;rw[if_neg Bool.false_ne_true]at q ⊢;exact yhc.here q r1 (by rw[Rep])
theorem ydb(h:FE T X a fa)(hb:FE T X (.BoolOp .Or (b::rest) pos) fb):FE T X (.BoolOp .Or (a::b::rest) pos) (eOr fa fb):=by
 intro pins s st H Q I hw;refine yfj h hb pins s st H Q I ?_;obtain⟨μ,ρ,σ,hE,hr,hp⟩:=hw;refine⟨μ,ρ,σ,hE,hr,hp.bind fun d σ1 μ1 v H1 _ e1 r1 p1 q1=>?_⟩;obtain⟨c,rfl,ev,q⟩:=ybl p1 q1;refine⟨c,ev,?_⟩;cases c with
 |true=>unfold ifK at q;rw[if_pos rfl]at q ⊢;exact yhc.here q r1 (by rw[Rep])
 |false=>unfold ifK at q;rw[if_neg Bool.false_ne_true]at q ⊢;exact⟨μ1,ρ,σ1,hE.mono e1,r1,q⟩
variable{e:Expr}{es:List Expr}{fe:Ev->M D}{fs:Ev->M (List D)}
theorem zwv:FA T X [] yhq:=by
 intro pos pins s st H Q I hw;refine zzv pos pins s st H Q I ?_;obtain⟨μ,ρ,σ,hE,hr,hp⟩:=hw;exact yhc.here hp hr yhi.nil
theorem zpj(ha:FE T X e fe)(hr:FA T X es fs)(hs:starEach (e::es) X.env=(false,eval e X.env)::starEach es X.env:=by rfl):FA T X (e::es) (ycc fe fs):=by
 intro pos pins s st H Q I hw;refine zsu ha hr hs pos pins s st H Q I ?_;obtain⟨μ,ρ,σ,hE,hr,hp⟩:=hw;exact⟨μ,ρ,σ,hE,hr,hp.bind fun d σ1 μ1 v H1 _ e1 r1 p1 q1=>⟨μ1,ρ,σ1,hE.mono e1,r1,q1.bind fun ds σ2 μ2 vs H2 _ e2 r2 p2 q2=>yhc.here q2 r2 (yhi.cons (Rep.mono e2 _ _ p1) p2)⟩⟩
theorem zr5{E:XK}{μ:List Addr}{H:Hp}{σ:Sto}{ds:List D}{vs:List V}{Q:VK}{p:Addr}(h:yhc T E (Rep T) μ H (.ok (.tup ds) σ) Q)(r:Rel T μ H σ)(q:yhi T μ H ds vs)(hp:H p=none):Q (.ref p) (upd H p (.tup vs)):=
 h μ (.ref p) _ (zpi hp) (r.fresh hp) (by rw[Rep];exact⟨p,vs,rfl,znp,yhi.mono (zpi hp) _ _ q⟩)
theorem zr4{E:XK}{μ:List Addr}{H:Hp}{σ:Sto}{ds:List D}{vs:List V}{Q:VK}{p:Addr}(h:yhc T E (Rep T) μ H (yep ds σ) Q)(r:Rel T μ H σ)(q:yhi T μ H ds vs)(hp:H p=none):Q (.ref p) (upd H p (.lst vs)):=
 h (μ++[p]) (.ref p) _ (zjw hp) (r.push hp ⟨vs,znp,yhi.mono (zjw hp) _ _ q⟩) (zmo r)
theorem zw9{x1}(h:FA T X es fs):FE T X (.Tuple es x1 pos) (yij fs):=by
 intro pins s st H Q I hw;refine zz6 h pins s st H Q I ?_;obtain⟨μ,ρ,σ,hE,hr,hp⟩:=hw;refine⟨μ,ρ,σ,hE,hr,hp.bind fun ds σ1 μ1 vs H1 _ e1 r1 p1 q1=>?_⟩;unfold ylr at q1;by_cases hl:ds.length<=cap
 ·rw[if_pos hl]at q1;exact⟨by rw[<-p1.length];exact zvv hl,fun p hp=>zr5 q1 r1 p1 hp⟩
 ·rw[if_neg hl]at q1;exact q1.elim
theorem zw5(h:FA T X es fs):FE T X (.List es pos) (yii fs):=by
 intro pins s st H Q I hw;refine zz1 h pins s st H Q I ?_;obtain⟨μ,ρ,σ,hE,hr,hp⟩:=hw;refine⟨μ,ρ,σ,hE,hr,hp.bind fun ds σ1 μ1 vs H1 _ e1 r1 p1 q1=>?_⟩;unfold yjf at q1;by_cases hl:ds.length<=cap
 ·rw[if_pos hl]at q1;exact⟨by rw[<-p1.length];exact zvv hl,fun p hp=>zr4 q1 r1 p1 hp⟩
 ·rw[if_neg hl]at q1;exact q1.elim
theorem zy1{E:XK}{μ:List Addr}{H:Hp}{σ:Sto}{ds:List D}{vs:List V}{Q:VK}{p:Addr}(h:yhc T E (Rep T) μ H (.ok (.lst ds) σ) Q)(r:Rel T μ H σ)(q:yhi T μ H ds vs)(hp:H p=none):Q (.ref p) (upd H p (.lst vs)):=
 h μ (.ref p) _ (zpi hp) (r.fresh hp) (by rw[Rep];exact⟨p,vs,rfl,fun hm=>(by obtain⟨u,hu,_⟩:=r.mem hm;rw[hp]at hu;cases hu),znp,yhi.mono (zpi hp) _ _ q⟩)
theorem yc9(h:FA T X es fs):FE T X (.List es pos) (eLv fs):=by
 intro pins s st H Q I hw;refine zz1 h pins s st H Q I ?_;obtain⟨μ,ρ,σ,hE,hr,hp⟩:=hw;refine⟨μ,ρ,σ,hE,hr,hp.bind fun ds σ1 μ1 vs H1 _ e1 r1 p1 q1=>?_⟩;unfold lvK at q1;by_cases hl:ds.length<=cap
 ·rw[if_pos hl]at q1;exact⟨by rw[<-p1.length];exact zvv hl,fun p hp=>zy1 q1 r1 p1 hp⟩
 ·rw[if_neg hl]at q1;exact q1.elim
end
def oI(g:Int->Int->Int):D->D->M D
 | .int i,.int j=>ret (.int (g i j))
 |_,_=>bad
def oB(g:Int->Int->Bool):D->D->M D
 | .int i,.int j=>ret (.bl (g i j))
 |_,_=>bad
def oIC(C:Int->Int->Bool)(g:Int->Int->Int):D->D->M D
 | .int i,.int j=>if C i j=true then ret (.int (g i j))else bad
 |_,_=>bad
noncomputable def yh5(i j:Int):Bool:=hide ((decide (-(2 ^ 64)<i) && decide (i<2 ^ 64)) || (decide (-(2 ^ 64)<j) && decide (j<2 ^ 64)))
noncomputable def yh3(_ j:Int):Bool:=hide (decide (0<j) && decide (j<1073741824))
noncomputable def yh4(_ j:Int):Bool:=hide (decide (0<j))
noncomputable def yh6(i j:Int):Bool:=hide (decide (0<=j) && decide (j<=1000000) && decide (i.natAbs<2 ^ 64))
abbrev yj4:=oI (fun i j=>i - j)
noncomputable abbrev yj1:=oIC yh5 (fun i j=>i * j)
noncomputable abbrev yjq:=oIC yh3 (fun i j=>i / j)
noncomputable abbrev yj0:=oIC yh4 (fun i j=>i % j)
noncomputable abbrev yj2:=oIC yh6 (fun i j=>i ^ j.toNat)
abbrev oLt:=oB (fun i j=>decide (i<j))
abbrev oGt:=oB (fun i j=>decide (j<i))
abbrev oGe:=oB (fun i j=>decide (j<=i))
def rD(T:Tb)(o:D->D->M D):R2:=fun v u H Q=>∃ (E:XK) (μ:List Addr) (σ:Sto) (x y:D),Rel T μ H σ/\Rep T μ H x v/\Rep T μ H y u/\yhc T E (Rep T) μ H (o x y σ) Q
theorem yk3{T:Tb}{o:D->D->M D}:yb8 T (rD T o) o:=fun E μ H σ x y v u Q r p q h=>⟨E,μ,σ,x,y,r,p,q,h⟩
section
variable{T:Tb}{X:Cx}
theorem zx7{μ:List Addr}{H:Hp}{i:Int}{v:V}(h:Rep T μ H (.int i) v):v=.int i:=by simpa [Rep]using h
theorem yf5{g:Int->Int->Int}:yb8 T (rI0 fun i j=>.int (g i j)) (oI g):=by
 intro E μ H σ x y v u Q r p q h;cases x with
 |int i=>
  cases y with
  |int j=>exact⟨i,j,zx7 p,zx7 q,yhc.here h r (by rw[Rep])⟩
  |_=>exact h.elim
 |_=>exact h.elim
theorem yf4{g:Int->Int->Bool}:yb8 T (rI0 fun i j=>.bl (g i j)) (oB g):=by
 intro E μ H σ x y v u Q r p q h;cases x with
 |int i=>
  cases y with
  |int j=>exact⟨i,j,zx7 p,zx7 q,yhc.here h r (by rw[Rep])⟩
  |_=>exact h.elim
 |_=>exact h.elim
theorem ya5{C:Int->Int->Bool}{C':Int->Int->Prop}{g:Int->Int->Int}(hC:∀ i j,C i j=true->C' i j):yb8 T (rI C' fun i j=>.int (g i j)) (oIC C g):=by
 intro E μ H σ x y v u Q r p q h;cases x with
 |int i=>
  cases y with
  |int j=>
   by_cases hc:C i j=true
   ·have h':yhc T E (Rep T) μ H (ret (.int (g i j)) σ) Q:=by
     have e:oIC C g (.int i) (.int j)=ret (.int (g i j)):=by show (if C i j=true then _ else _)=_;rw[if_pos hc]
     rw[e]at h;exact h
    exact⟨i,j,zx7 p,zx7 q,hC i j hc,yhc.here h' r (by rw[Rep])⟩
   ·have e:oIC C g (.int i) (.int j)=bad:=by show (if C i j=true then _ else _)=_;rw[if_neg hc]
    rw[e]at h;exact h.elim
  |_=>exact h.elim
 |_=>exact h.elim
theorem zuo:yb8 T (rI0 fun i j=>.int (i - j)) yj4:=yf5
theorem zum:yb8 T (rI ygt fun i j=>.int (i * j)) yj1:=ya5 fun i j h=>by
 simp only[yh5,zqo,Bool.or_eq_true,Bool.and_eq_true,decide_eq_true_eq]at h;exact h
theorem zuh:yb8 T (rI ygs fun i j=>.int (i / j)) yjq:=ya5 fun i j h=>by
 simp only[yh3,zqo,Bool.and_eq_true,decide_eq_true_eq]at h;exact h
theorem zul:yb8 T (rI (fun _ j=>0<j) fun i j=>.int (i % j)) yj0:=ya5 fun i j h=>by
 simp only[yh4,zqo,decide_eq_true_eq]at h;exact h
theorem zun:yb8 T (rI ygu fun i j=>.int (i ^ j.toNat)) yj2:=ya5 fun i j h=>by
 simp only[yh6,zqo,Bool.and_eq_true,decide_eq_true_eq]at h;exact⟨h.1.1,h.1.2,h.2⟩
theorem yba:yb8 T (rI0 fun i j=>.bl (decide (i<j))) oLt:=yf4
theorem ya7:yb8 T (rI0 fun i j=>.bl (decide (j<i))) oGt:=yf4
theorem ya6:yb8 T (rI0 fun i j=>.bl (decide (j<=i))) oGe:=yf4
end
def sc:D->Option V
 | .non=>some .non
 | .bl b=>some (.bl b)
 | .int i=>some (.int i)
 | .str x=>some (.str x)
 |_=>none
def yee(σ:Sto)(n:Nat):Option (List D):=match σ[n]? with
 |some (.lst xs)=>some xs
 |_=>none
theorem ze2{σ:Sto}{n:Nat}{xs:List D}(h:yee σ n=some xs):σ[n]?=some (.lst xs):=by
 unfold yee at h;cases e:σ[n]? with
 |none=>rw[e]at h;cases h
 |some o=>rw[e]at h;cases o<;>simp at h;subst h;rfl
inductive Kd where
 |s (v:V)|t (xs:List D)|l (xs:List D)|o
def kd(σ:Sto):D->Kd
 | .non=>.s .non
 | .bl b=>.s (.bl b)
 | .int i=>.s (.int i)
 | .str x=>.s (.str x)
 | .tup xs=>.t xs
 | .lst xs=>.l xs
 | .ref n=>match yee σ n with
  |some xs=>.l xs
  |none=>.o
 |_=>.o
def eqL(f:D->D->Option Bool):List D->List D->Option Bool
 |[],[]=>some true
 |[],_::_=>some false
 |_::_,[]=>some false
 |x::xs,y::ys=>match f x y,eqL f xs ys with
  |some b,some c=>some (b && c)
  |_,_=>none
def eqK(f:D->D->Option Bool):Kd->Kd->Option Bool
 | .s a,.s b=>some (eqV a b)
 | .t xs,.t ys=>eqL f xs ys
 | .l xs,.l ys=>eqL f xs ys
 | .s _,.t _=>some false
 | .t _,.s _=>some false
 | .s _,.l _=>some false
 | .l _,.s _=>some false
 | .t _,.l _=>some false
 | .l _,.t _=>some false
 |_,_=>none
def eqD(σ:Sto):Nat->D->D->Option Bool
 |0,x,y=>eqK (fun _ _=>none) (kd σ x) (kd σ y)
 |n+1,x,y=>eqK (eqD σ n) (kd σ x) (kd σ y)
def eAt(f:D->D->Option Bool)(xs ys:List D)(j:Nat):Bool:=match xs[j]?,ys[j]? with
 |some a,some b=>(f a b).getD false
 |_,_=>false
theorem zjs(f:D->D->Option Bool):∀ (xs ys:List D) (b:Bool),eqL f xs ys=some b->
  (∀ (j:Nat) (a c:D),xs[j]?=some a->ys[j]?=some c->∃ k,f a c=some k)/\b=((List.range (min xs.length ys.length)).all (eAt f xs ys) && xs.length == ys.length)
 |[],[],b,h=>by simp[eqL]at h;subst h;simp
 |[],y::ys,b,h=>by simp[eqL]at h;subst h;simp
 |x::xs,[],b,h=>by simp[eqL]at h;subst h;simp
 |x::xs,y::ys,b,h=>by
  unfold eqL at h;cases e1:f x y with
  |none=>rw[e1]at h;cases h
  |some b1=>
   cases e2:eqL f xs ys with
   |none=>rw[e1,e2]at h;cases h
   |some b2=>
    rw[e1,e2]at h;cases h;obtain⟨h1,h2⟩:=zjs f xs ys b2 e2;refine⟨fun j a c ha hc=>?_,?_⟩
    ·cases j with
     |zero=>simp at ha hc;subst ha;subst hc;exact⟨b1,e1⟩
     |succ j=>exact h1 j a c (by simpa using ha) (by simpa using hc)
    ·have e3:min (x::xs).length (y::ys).length=min xs.length ys.length+1:=by simp[Nat.succ_min_succ]
     have e4:∀ j,eAt f (x::xs) (y::ys) (j+1)=eAt f xs ys j:=fun j=>by simp[eAt]
     have e5:eAt f (x::xs) (y::ys) 0=b1:=by simp[eAt,e1]
     rw[e3,List.range_succ_eq_map,List.all_cons,List.all_map,e5,h2];have e6:(eAt f (x::xs) (y::ys) ∘ Nat.succ)=eAt f xs ys:=funext fun j=>e4 j;have e7:((x::xs).length == (y::ys).length)=(xs.length == ys.length):=by simp
     rw[e6,e7,Bool.and_assoc]
section
variable{T:Tb}{μ:List Addr}{H:Hp}{σ:Sto}
theorem Rel.lst(r:Rel T μ H σ){n:Nat}{v:V}{xs:List D}(h:Rep T μ H (.ref n) v)(e:yee σ n=some xs):∃ a vs,v=.ref a/\μ[n]?=some a/\H a=some (.lst vs)/\yhi T μ H xs vs:=by
 obtain⟨a,rfl,h1,vs,h2,h3⟩:=r.at h (ze2 e);exact⟨a,vs,rfl,h1,h2,h3⟩
theorem ya1{d:D}{v a:V}(h:Rep T μ H d v)(e:sc d=some a):v=a:=by
 cases d<;>simp[sc]at e<;>subst e<;>simpa [Rep]using h
theorem zt0{d:D}{a:V}(e:sc d=some a):ydf a=true:=by
 cases d<;>simp[sc]at e<;>subst e<;>rfl
theorem zjt{a:V}(h:ydf a=true):eqV a a=true:=by cases a<;>simp[ydf,eqV]at h ⊢
theorem zyc(r:Rel T μ H σ){d:D}{v:V}(h:Rep T μ H d v):match kd σ d with
  | .s a=>v=a/\ydf a=true
  | .t xs=>∃ p vs,v=.ref p/\H p=some (.tup vs)/\yhi T μ H xs vs
  | .l xs=>∃ p vs,v=.ref p/\H p=some (.lst vs)/\yhi T μ H xs vs
  | .o=>True:=by
 cases d with
 |non=>exact⟨by simpa [Rep]using h,rfl⟩
 |bl b=>exact⟨by simpa [Rep]using h,rfl⟩
 |int b=>exact⟨by simpa [Rep]using h,rfl⟩
 |str b=>exact⟨by simpa [Rep]using h,rfl⟩
 |tup xs=>rw[Rep]at h;exact h
 |lst xs=>rw[Rep]at h;obtain⟨a,vs,h1,_,h2,h3⟩:=h;exact⟨a,vs,h1,h2,h3⟩
 |ref n=>
  unfold kd;dsimp only;cases e:yee σ n with
  |none=>trivial
  |some xs=>obtain⟨a,vs,h1,_,h2,h3⟩:=r.lst h e;exact⟨a,vs,h1,h2,h3⟩
 |_=>trivial
theorem zjr{f:D->D->Option Bool}(hf:∀ (x y:D) (v:V) (b:Bool),Rep T μ H x v->Rep T μ H y v->f x y=some b->b=true):∀ (xs ys:List D) (vs:List V) (b:Bool),yhi T μ H xs vs->yhi T μ H ys vs->eqL f xs ys=some b->b=true
 |[],ys,vs,b,r1,r2,h=>by
  rw[yhi]at r1;subst r1;cases ys with
  |nil=>simp[eqL]at h;exact h
  |cons y ys=>rw[yhi]at r2;obtain⟨_,_,z,_⟩:=r2;cases z
 |x::xs,ys,vs,b,r1,r2,h=>by
  rw[yhi]at r1;obtain⟨v,r,rfl,p1,q1⟩:=r1;cases ys with
  |nil=>rw[yhi]at r2;cases r2
  |cons y ys=>
   rw[yhi]at r2;obtain⟨v',r',z,p2,q2⟩:=r2;cases z;unfold eqL at h;cases e1:f x y with
   |none=>rw[e1]at h;cases h
   |some b1=>
    cases e2:eqL f xs ys with
    |none=>rw[e1,e2]at h;cases h
    |some b2=>
     rw[e1,e2]at h;cases h;rw[hf x y v b1 p1 p2 e1,zjr hf xs ys r b2 q1 q2 e2];rfl
theorem zjo(r:Rel T μ H σ){f:D->D->Option Bool}(hf:∀ (x y:D) (v:V) (b:Bool),Rep T μ H x v->Rep T μ H y v->f x y=some b->b=true){x y:D}{v:V}{b:Bool}(hx:Rep T μ H x v)(hy:Rep T μ H y v)(h:eqK f (kd σ x) (kd σ y)=some b):b=true:=by
 have kx:=zyc r hx;have ky:=zyc r hy;generalize kd σ x=k1 at h kx;generalize kd σ y=k2 at h ky;cases k1 with
 |s a=>
  obtain⟨rfl,fa⟩:=kx;cases k2 with
  |s c=>obtain⟨rfl,_⟩:=ky;cases h;exact zjt fa
  |t xs=>obtain⟨p,vs,rfl,_⟩:=ky;simp[ydf]at fa
  |l xs=>obtain⟨p,vs,rfl,_⟩:=ky;simp[ydf]at fa
  |o=>cases h
 |t xs=>
  obtain⟨p,vs,rfl,h1,r1⟩:=kx;cases k2 with
  |s c=>obtain⟨e,fa⟩:=ky;rw[<-e]at fa;simp[ydf]at fa
  |t ys=>
   obtain⟨q,ws,e,h2,r2⟩:=ky;cases e;rw[h1]at h2;cases h2;exact zjr hf xs ys vs b r1 r2 h
  |l ys=>obtain⟨q,ws,e,h2,r2⟩:=ky;cases e;rw[h1]at h2;cases h2
  |o=>cases h
 |l xs=>
  obtain⟨p,vs,rfl,h1,r1⟩:=kx;cases k2 with
  |s c=>obtain⟨e,fa⟩:=ky;rw[<-e]at fa;simp[ydf]at fa
  |t ys=>obtain⟨q,ws,e,h2,r2⟩:=ky;cases e;rw[h1]at h2;cases h2
  |l ys=>
   obtain⟨q,ws,e,h2,r2⟩:=ky;cases e;rw[h1]at h2;cases h2;exact zjr hf xs ys vs b r1 r2 h
  |o=>cases h
 |o=>cases h
theorem zjl(r:Rel T μ H σ):∀ (n:Nat) (x y:D) (v:V) (b:Bool),Rep T μ H x v->Rep T μ H y v->eqD σ n x y=some b->b=true
 |0,x,y,v,b,hx,hy,h=>zjo r (fun _ _ _ _ _ _ z=>by cases z) hx hy h
 |n+1,x,y,v,b,hx,hy,h=>zjo r (fun x y v b a1 a2 a3=>zjl r n x y v b a1 a2 a3) hx hy h
end
section
variable{T:Tb}{X:Cx}{pins:List (Addr × Obj)}{st:St}{μ:List Addr}{H:Hp}{s:Shared}{σ:Sto}
theorem zee{A:Around}{a:V}{u:Value}{p:Addr}{its:Array Value}(fa:ydf a=true)(r:yhf a u)(hp:s.heap.IsTuple p its)(hu:A.units<cLine):SeqAt.EqAt A s u (.ref p) false/\SeqAt.EqAt A s (.ref p) u false/\SeqAt.RcAt A s u (.ref p) false/\SeqAt.RcAt A s (.ref p) u false/\SeqAt.RcNeAt A s u (.ref p) true/\SeqAt.RcNeAt A s (.ref p) u true:=by
 cases a with
 |non=>cases r;exact⟨.none_tuple hp hu,.tuple_none hp hu,.none_tuple hp hu,.tuple_none hp hu,.none_tuple hp hu,.tuple_none hp hu⟩
 |bl b=>cases r;exact⟨.bool_tuple b hp hu,.tuple_bool b hp hu,.bool_tuple b hp hu,.tuple_bool b hp hu,.bool_tuple b hp hu,.tuple_bool b hp hu⟩
 |int b=>obtain⟨t,rfl⟩:=r;exact⟨.int_tuple b t hp hu,.tuple_int b t hp hu,.int_tuple b t hp hu,.tuple_int b t hp hu,.int_tuple b t hp hu,.tuple_int b t hp hu⟩
 |str b=>obtain⟨t,rfl⟩:=r;exact⟨.str_tuple b t hp hu,.tuple_str b t hp hu,.str_tuple b t hp hu,.tuple_str b t hp hu,.str_tuple b t hp hu,.tuple_str b t hp hu⟩
 |_=>simp[ydf]at fa
theorem zfi{A:Around}{a:V}{u:Value}{p:Addr}{its:Array Value}(fa:ydf a=true)(r:yhf a u)(hp:s.heap.IsList p its)(hu:A.units<cLine):SeqAt.RcAt A s u (.ref p) false/\SeqAt.RcAt A s (.ref p) u false/\SeqAt.RcNeAt A s u (.ref p) true/\SeqAt.RcNeAt A s (.ref p) u true:=by
 cases a with
 |non=>cases r;exact⟨.none_list hp hu,.list_none hp hu,.none_list hp hu,.list_none hp hu⟩
 |bl b=>cases r;exact⟨.bool_list b hp hu,.list_bool b hp hu,.bool_list b hp hu,.list_bool b hp hu⟩
 |int b=>obtain⟨t,rfl⟩:=r;exact⟨.int_list b t hp hu,.list_int b t hp hu,.int_list b t hp hu,.list_int b t hp hu⟩
 |str b=>obtain⟨t,rfl⟩:=r;exact⟨.str_list b t hp hu,.list_str b t hp hu,.str_list b t hp hu,.list_str b t hp hu⟩
 |_=>simp[ydf]at fa
theorem zde{A:Around}{a:V}{u:Value}{p:Addr}{its:Array Value}(fa:ydf a=true)(r:yhf a u)(hp:s.heap.IsList p its)(hu:A.units<cLine):SeqAt.EqAt A s u (.ref p) false:=by
 cases a with
 |non=>cases r;exact .none_list hp hu
 |bl b=>cases r;exact .bool_list b hp hu
 |int b=>obtain⟨t,rfl⟩:=r;exact .int_list b t hp hu
 |str b=>obtain⟨t,rfl⟩:=r;exact .str_list b t hp hu
 |_=>simp[ydf]at fa
theorem zcm{A:Around}{a:V}{u:Value}{p:Addr}{its:Array Value}(fa:ydf a=true)(r:yhf a u)(hp:s.heap.IsList p its)(hu:A.units<cLine):SeqAt.EqAt A s (.ref p) u false:=by
 cases a with
 |non=>cases r;exact .list_none hp hu
 |bl b=>cases r;exact .list_bool b hp hu
 |int b=>obtain⟨t,rfl⟩:=r;exact .list_int b t hp hu
 |str b=>obtain⟨t,rfl⟩:=r;exact .list_str b t hp hu
 |_=>simp[ydf]at fa
theorem yfs{A:Around}{a b:V}{u w:Value}(ra:yhf a u)(rb:yhf b w)(fa:ydf a=true)(fb:ydf b=true):SeqAt.RcAt A s u w (eqV a b)/\SeqAt.RcNeAt A s u w (!eqV a b):=by
 cases a with
 |non=>
  cases ra;cases b with
  |non=>cases rb;exact⟨.none_none,.none_none⟩
  |bl y=>cases rb;exact⟨.none_bool y,.none_bool y⟩
  |int y=>obtain⟨t,rfl⟩:=rb;exact⟨.none_int y t,.none_int y t⟩
  |str y=>obtain⟨t,rfl⟩:=rb;exact⟨.none_str y t,.none_str y t⟩
  |_=>simp[ydf]at fb
 |bl x=>
  cases ra;cases b with
  |non=>cases rb;exact⟨.bool_none x,.bool_none x⟩
  |bl y=>cases rb;exact⟨.bool_bool x y,.bool_bool x y⟩
  |int y=>obtain⟨t,rfl⟩:=rb;exact⟨.bool_int x y t,.bool_int x y t⟩
  |str y=>obtain⟨t,rfl⟩:=rb;exact⟨.bool_str x y t,.bool_str x y t⟩
  |_=>simp[ydf]at fb
 |int x=>
  obtain⟨t',rfl⟩:=ra;cases b with
  |non=>cases rb;exact⟨.int_none x t',.int_none x t'⟩
  |bl y=>cases rb;exact⟨.int_bool x t' y,.int_bool x t' y⟩
  |int y=>obtain⟨t,rfl⟩:=rb;exact⟨.int_int x t' y t,.int_int x t' y t⟩
  |str y=>obtain⟨t,rfl⟩:=rb;exact⟨.int_str x t' y t,.int_str x t' y t⟩
  |_=>simp[ydf]at fb
 |str x=>
  obtain⟨t',rfl⟩:=ra;cases b with
  |non=>cases rb;exact⟨.str_none x t',.str_none x t'⟩
  |bl y=>cases rb;exact⟨.str_bool x t' y,.str_bool x t' y⟩
  |int y=>obtain⟨t,rfl⟩:=rb;exact⟨.str_int x t' y t,.str_int x t' y t⟩
  |str y=>obtain⟨t,rfl⟩:=rb;exact⟨.str_str x t' y t,.str_str x t' y t⟩
  |_=>simp[ydf]at fb
 |_=>simp[ydf]at fa
theorem znt{xs:List V}{us:List Value}{i:Nat}{u:Value}(r:yho xs us)(h:us[i]?=some u):∃ x,xs[i]?=some x/\yhf x u:=by
 have hl:=r.length;have hi:=(List.getElem?_eq_some_iff.mp h).1;obtain⟨u',h1,h2⟩:=r.get (i:=i) (x:=xs[i]'(by omega)) (by simp);rw[h]at h1;cases h1;exact⟨_,by simp,h2⟩
theorem zmq{ds:List D}{vs:List V}{i:Nat}{v:V}(r:yhi T μ H ds vs)(h:vs[i]?=some v):∃ d,ds[i]?=some d/\Rep T μ H d v:=by
 have hl:=r.length;have hi:=(List.getElem?_eq_some_iff.mp h).1;obtain⟨v',h1,h2⟩:=r.get (i:=i) (d:=ds[i]'(by omega)) (by simp);rw[h]at h1;cases h1;exact⟨_,by simp,h2⟩
theorem zkx{A:Around}{f:D->D->Option Bool}(hf:∀ (x y:D) (v w:V) (v' w':Value) (b:Bool),Rep T μ H x v->Rep T μ H y w->yhf v v'->yhf w w'->f x y=some b->SeqAt.EqAt A s v' w' b)
  {xs ys:List D} {vs ws:List V} {us zs:List Value} {b:Bool} (r1:yhi T μ H xs vs) (r2:yhi T μ H ys ws) (q1:yho vs us) (q2:yho ws zs) (h:eqL f xs ys=some b) :
  (∀ j (h1:j<us.toArray.size) (h2:j<zs.toArray.size),SeqAt.EqAt A s us.toArray[j] zs.toArray[j] (eAt f xs ys j))/\b=((List.range (min us.toArray.size zs.toArray.size)).all (eAt f xs ys) && us.toArray.size == zs.toArray.size):=by
 obtain⟨h1,h2⟩:=zjs f xs ys b h;have l1:=r1.length;have l2:=r2.length;have l3:=q1.length;have l4:=q2.length;refine⟨fun j g1 g2=>?_,?_⟩
 ·obtain⟨v,e1,rv⟩:=znt (i:=j) (u:=us.toArray[j]) q1 (by simp);obtain⟨w,e2,rw'⟩:=znt (i:=j) (u:=zs.toArray[j]) q2 (by simp);obtain⟨x,e3,p3⟩:=zmq r1 e1;obtain⟨y,e4,p4⟩:=zmq r2 e2;obtain⟨k,ek⟩:=h1 j x y e3 e4;have e5:eAt f xs ys j=k:=by simp[eAt,e3,e4,ek]
  rw[e5];exact hf x y v w _ _ k p3 p4 rv rw' ek
 ·simp only[List.size_toArray];rw[h2,l1,l2,l3,l4]
abbrev zvf(A:Around)(s:Shared)(v w:Value)(b:Bool):Prop:=SeqAt.RcAt A s v w b/\SeqAt.RcNeAt A s v w (!b)
theorem rcK{A:Around}(I:Inv X pins st H s)(r:Rel T μ H σ)(hu:A.units+1<cLine){f:D->D->Option Bool}
  (hf:∀ (x y:D) (v w:V) (v' w':Value) (b:Bool),Rep T μ H x v->Rep T μ H y w->yhf v v'->yhf w w'->f x y=some b->SeqAt.EqAt A.in1 s v' w' b)
  {x y:D} {v w:V} {v' w':Value} {b:Bool} (hx:Rep T μ H x v) (hy:Rep T μ H y w) (rv:yhf v v') (rw':yhf w w') (h:eqK f (kd σ x) (kd σ y)=some b):zvf A s v' w' b:=by
 have hu0:A.units<cLine:=by omega
 have kx:=zyc r hx;have ky:=zyc r hy;generalize kd σ x=k1 at h kx;generalize kd σ y=k2 at h ky;cases k1 with
 |o=>cases h
 |s a=>
  obtain⟨rfl,fa⟩:=kx;cases k2 with
  |o=>cases h
  |s c=>obtain⟨rfl,fc⟩:=ky;cases h;exact yfs rv rw' fa fc
  |t ys=>
   obtain⟨q,ws,rfl,h2,r2⟩:=ky;cases h;cases rw';obtain⟨its,_,hq,_⟩:=L2.Inv.tuple I (SqT.of (K:=X.K) h2);obtain⟨_,_,a1,a2,a3,a4⟩:=zee fa rv hq hu0;exact⟨a1,a3⟩
  |l ys=>
   obtain⟨q,ws,rfl,h2,r2⟩:=ky;cases h;cases rw';obtain⟨its,_,pl,_⟩:=L2.Inv.list I (SqL.of (K:=X.K) h2);obtain⟨a1,a2,a3,a4⟩:=zfi fa rv pl.isList hu0;exact⟨a1,a3⟩
 |t xs=>
  obtain⟨p,vs,rfl,h1,r1⟩:=kx;cases rv;obtain⟨its,q1,hp,_⟩:=L2.Inv.tuple I (SqT.of (K:=X.K) h1);cases k2 with
  |o=>cases h
  |s c=>
   obtain⟨rfl,fc⟩:=ky;cases h;obtain⟨_,_,a1,a2,a3,a4⟩:=zee fc rw' hp hu0;exact⟨a2,a4⟩
  |t ys=>
   obtain⟨q,ws,rfl,h2,r2⟩:=ky;cases rw';obtain⟨its2,q2,hq,_⟩:=L2.Inv.tuple I (SqT.of (K:=X.K) h2);obtain⟨g1,g2⟩:=zkx (A:=A.in1) hf r1 r2 q1 q2 h;rw[g2];exact⟨.tuples hp hq (by omega) g1,.tuples hp hq (by omega) g1⟩
  |l ys=>
   obtain⟨q,ws,rfl,h2,r2⟩:=ky;cases h;cases rw';obtain⟨its2,_,pl,_⟩:=L2.Inv.list I (SqL.of (K:=X.K) h2);exact⟨.tuple_list hp pl.isList hu0,.tuple_list hp pl.isList hu0⟩
 |l xs=>
  obtain⟨p,vs,rfl,h1,r1⟩:=kx;cases rv;obtain⟨its,q1,pl,_⟩:=L2.Inv.list I (SqL.of (K:=X.K) h1);cases k2 with
  |o=>cases h
  |s c=>
   obtain⟨rfl,fc⟩:=ky;cases h;obtain⟨a1,a2,a3,a4⟩:=zfi fc rw' pl.isList hu0;exact⟨a2,a4⟩
  |t ys=>
   obtain⟨q,ws,rfl,h2,r2⟩:=ky;cases h;cases rw';obtain⟨its2,_,hq,_⟩:=L2.Inv.tuple I (SqT.of (K:=X.K) h2);exact⟨.list_tuple pl.isList hq hu0,.list_tuple pl.isList hq hu0⟩
  |l ys=>
   obtain⟨q,ws,rfl,h2,r2⟩:=ky;cases rw';obtain⟨its2,q2,pl2,_⟩:=L2.Inv.list I (SqL.of (K:=X.K) h2);obtain⟨g1,g2⟩:=zkx (A:=A.in1) hf r1 r2 q1 q2 h;by_cases hz:its.toArray.size=its2.toArray.size
   ·have e:b=(List.range its.toArray.size).all (eAt f xs ys):=by rw[g2,<-hz];simp
    rw[e];exact⟨.lists pl.isList pl2.isList hz (by omega) g1,.lists pl.isList pl2.isList hz (by omega) g1⟩
   ·have e:b=false:=by rw[g2,beq_eq_false_iff_ne.mpr hz,Bool.and_false]
    rw[e];exact⟨.lists_lengths pl.isList pl2.isList (by simpa using hz) (by omega),.lists_lengths pl.isList pl2.isList (by simpa using hz) (by omega)⟩
theorem zwr{A:Around}(I:Inv X pins st H s)(r:Rel T μ H σ)(hu:A.units+1<cLine){f:D->D->Option Bool}
  (hf:∀ (x y:D) (v w:V) (v' w':Value) (b:Bool),Rep T μ H x v->Rep T μ H y w->yhf v v'->yhf w w'->f x y=some b->SeqAt.EqAt A.in1 s v' w' b)
  (hs:∀ (x y:D) (v:V) (b:Bool),Rep T μ H x v->Rep T μ H y v->f x y=some b->b=true)
  {x y:D} {v w:V} {v' w':Value} {b:Bool} (hx:Rep T μ H x v) (hy:Rep T μ H y w) (rv:yhf v v') (rw':yhf w w') (h:eqK f (kd σ x) (kd σ y)=some b):SeqAt.EqAt A s v' w' b:=by
 have hu0:A.units<cLine:=by omega
 have rc:=(rcK I r hu hf hx hy rv rw' h).1;by_cases hvw:v=w
 ·subst hvw;have hb:=zjo r hs hx hy h;have kx:=zyc r hx;have ky:=zyc r hy;generalize kd σ x=k1 at h kx;generalize kd σ y=k2 at h ky;cases k1 with
  |o=>cases h
  |s a=>
   obtain⟨rfl,fa⟩:=kx;cases k2 with
   |o=>cases h
   |s c=>obtain⟨rfl,fc⟩:=ky;cases h;exact zwl rv rw' fa fc
   |t ys=>obtain⟨q,ws,e,_⟩:=ky;rw[e]at fa;simp[ydf]at fa
   |l ys=>obtain⟨q,ws,e,_⟩:=ky;rw[e]at fa;simp[ydf]at fa
  |t xs=>
   obtain⟨p,vs,rfl,_⟩:=kx;cases rv;cases rw';rw[hb];exact SeqAt.EqAt.same _
  |l xs=>
   obtain⟨p,vs,rfl,_⟩:=kx;cases rv;cases rw';rw[hb];exact SeqAt.EqAt.same _
 ·have kx:=zyc r hx;have ky:=zyc r hy;generalize kd σ x=k1 at h kx;generalize kd σ y=k2 at h ky;cases k1 with
  |o=>cases h
  |s a=>
   obtain⟨rfl,fa⟩:=kx;cases k2 with
   |o=>cases h
   |s c=>obtain⟨rfl,fc⟩:=ky;cases h;exact zwl rv rw' fa fc
   |t ys=>
    obtain⟨q,ws,rfl,h2,r2⟩:=ky;cases h;cases rw';obtain⟨its,_,hq,_⟩:=L2.Inv.tuple I (SqT.of (K:=X.K) h2);exact(zee fa rv hq hu0).1
   |l ys=>
    obtain⟨q,ws,rfl,h2,r2⟩:=ky;cases h;cases rw';obtain⟨its,_,pl,_⟩:=L2.Inv.list I (SqL.of (K:=X.K) h2);exact zde fa rv pl.isList hu0
  |t xs=>
   obtain⟨p,vs,rfl,h1,r1⟩:=kx;cases rv;cases k2 with
   |o=>cases h
   |s c=>
    obtain⟨rfl,fc⟩:=ky;cases h;obtain⟨its,_,hp,_⟩:=L2.Inv.tuple I (SqT.of (K:=X.K) h1);exact(zee fc rw' hp hu0).2.1
   |t ys=>obtain⟨q,ws,rfl,_⟩:=ky;cases rw';exact .of_refs (fun e=>hvw (by rw[e])) rc
   |l ys=>obtain⟨q,ws,rfl,_⟩:=ky;cases rw';exact .of_refs (fun e=>hvw (by rw[e])) rc
  |l xs=>
   obtain⟨p,vs,rfl,h1,r1⟩:=kx;cases rv;cases k2 with
   |o=>cases h
   |s c=>
    obtain⟨rfl,fc⟩:=ky;cases h;obtain⟨its,_,pl,_⟩:=L2.Inv.list I (SqL.of (K:=X.K) h1);exact zcm fc rw' pl.isList hu0
   |t ys=>obtain⟨q,ws,rfl,_⟩:=ky;cases rw';exact .of_refs (fun e=>hvw (by rw[e])) rc
   |l ys=>obtain⟨q,ws,rfl,_⟩:=ky;cases rw';exact .of_refs (fun e=>hvw (by rw[e])) rc
theorem zwm(I:Inv X pins st H s)(r:Rel T μ H σ):∀ (n:Nat) (A:Around) (x y:D) (v w:V) (v' w':Value) (b:Bool),A.units+n+1<cLine->Rep T μ H x v->Rep T μ H y w->yhf v v'->yhf w w'->eqD σ n x y=some b->SeqAt.EqAt A s v' w' b
 |0,A,x,y,v,w,v',w',b,hu,hx,hy,rv,rw',h=>zwr I r (by omega) (fun _ _ _ _ _ _ _ _ _ _ _ z=>by cases z) (fun _ _ _ _ _ _ z=>by cases z) hx hy rv rw' h
 |n+1,A,x,y,v,w,v',w',b,hu,hx,hy,rv,rw',h=>zwr I r (by omega) (fun x y v w v' w' b a1 a2 a3 a4 a5=>zwm I r n A.in1 x y v w v' w' b (by show A.units+1+n+1<cLine;omega) a1 a2 a3 a4 a5) (fun x y v b a1 a2 a3=>zjl r n x y v b a1 a2 a3) hx hy rv rw' h
theorem rcD{A:Around}(I:Inv X pins st H s)(r:Rel T μ H σ)(n:Nat)(hu:A.units+n+1<cLine){x y:D}{v w:V}{v' w':Value}{b:Bool}(hx:Rep T μ H x v)(hy:Rep T μ H y w)(rv:yhf v v')(rw':yhf w w')(h:eqD σ n x y=some b):zvf A s v' w' b:=by
 cases n with
 |zero=>exact rcK I r (by omega) (fun _ _ _ _ _ _ _ _ _ _ _ z=>by cases z) hx hy rv rw' h
 |succ n=>exact rcK I r (by omega) (fun x y v w v' w' b a1 a2 a3 a4 a5=>zwm I r n A.in1 x y v w v' w' b (by show A.units+1+n+1<cLine;omega) a1 a2 a3 a4 a5) hx hy rv rw' h
end
section
variable{T:Tb}{X:Cx}{pins:List (Addr × Obj)}{st:St}{μ:List Addr}{H:Hp}{s:Shared}{σ:Sto}
def oEq(x y:D):M D:=fun σ=>match eqD σ 8 x y with
 |some b=>.ok (.bl b) σ
 |none=>.bad
def oNe(x y:D):M D:=fun σ=>match eqD σ 8 x y with
 |some b=>.ok (.bl (!b)) σ
 |none=>.bad
theorem zzn(hu:X.A.units+9<cLine):OpR X (compareOp .Eq) (rD T oEq):=by
 intro pins s st H v u v' u' Q I rv ru h;obtain⟨E,μ,σ,x,y,r,hx,hy,hp⟩:=h;unfold oEq at hp;cases e:eqD σ 8 x y with
 |none=>rw[e]at hp;exact hp.elim
 |some b=>
  rw[e]at hp;have:=(rcD I r 8 (by omega) hx hy rv ru e).1 X.prog X.w X.xe (EP X pins st Q) ⟨.bl b,H,I,rfl,yhc.here hp r (by rw[Rep])⟩;exact this
theorem zzs(hu:X.A.units+9<cLine):OpR X (compareOp .NotEq) (rD T oNe):=by
 intro pins s st H v u v' u' Q I rv ru h;obtain⟨E,μ,σ,x,y,r,hx,hy,hp⟩:=h;unfold oNe at hp;cases e:eqD σ 8 x y with
 |none=>rw[e]at hp;exact hp.elim
 |some b=>
  rw[e]at hp;have:=(rcD I r 8 (by omega) hx hy rv ru e).2 X.prog X.w X.xe (EP X pins st Q) ⟨.bl (!b),H,I,rfl,yhc.here hp r (by rw[Rep])⟩;exact this
def yjx(x y:D):M D:=fun σ=>match y with
 | .non=>(match x with
  | .non=>.ok (.bl true) σ
  |_=>.ok (.bl false) σ)
 |_=>.bad
def ye7(x y:D):M D:=fun σ=>match y with
 | .non=>(match x with
  | .non=>.ok (.bl false) σ
  |_=>.ok (.bl true) σ)
 |_=>.bad
theorem zr6{x:D}{v:V}(h:Rep T μ H x v):decide (v=.non)=(match x with | .non=>true|_=>false):=by
 cases x with
 |non=>rw[Rep]at h;subst h;rfl
 |tup ds=>rw[Rep]at h;obtain⟨p,_,rfl,_⟩:=h;simp
 |scr ds=>rw[Rep]at h;obtain⟨p,rfl,_⟩:=h;simp
 |ref ds=>rw[Rep]at h;obtain⟨p,rfl,_⟩:=h;simp
 |lst ds=>rw[Rep]at h;obtain⟨p,_,rfl,_⟩:=h;simp
 |dic ks ds=>rw[Rep]at h;obtain⟨p,_,rfl,_⟩:=h;simp
 |obj c ks ds=>rw[Rep]at h;obtain⟨p,_,_,rfl,_⟩:=h;simp
 |exn c=>rw[Rep]at h;obtain⟨p,_,rfl,_⟩:=h;simp
 |_=>rw[Rep]at h;subst h;simp
theorem zui:yb8 T (fun x y H Q=>y=.non/\Q (.bl (decide (x=.non))) H) yjx:=by
 intro E μ H σ x y v u Q r p q h;cases y with
 |non=>
  refine⟨by rw[Rep]at q;exact q,?_⟩;rw[zr6 p];cases x<;>exact yhc.here h r (by rw[Rep])
 |_=>exact h.elim
theorem znb:yb8 T (fun x y H Q=>y=.non/\Q (.bl (!decide (x=.non))) H) ye7:=by
 intro E μ H σ x y v u Q r p q h;cases y with
 |non=>
  refine⟨by rw[Rep]at q;exact q,?_⟩;rw[zr6 p];cases x<;>exact yhc.here h r (by rw[Rep]<;>rfl)
 |_=>exact h.elim
theorem zoc{ds:List D}{vs:List V}{k:Int}{d:D}(r:yhi T μ H ds vs)(h:atI ds k=some d):∃ v,atI vs k=some v/\Rep T μ H d v:=by
 unfold atI at h ⊢;rw[<-r.length];cases e:ixN ds.length k with
 |none=>rw[e]at h;cases h
 |some j=>rw[e]at h;exact r.get h
theorem zhw:∀ (ns:List Int),yhi T μ H (ns.map D.int) (ns.map V.int)
 |[]=>yhi.nil
 |n::ns=>yhi.cons (by rw[Rep]) (zhw ns)
def yf0(σ:Sto):D->Option (List D)
 | .tup xs=>some xs
 | .scr ns=>some (ns.map D.int)
 | .ref n=>yee σ n
 | .lst xs=>some xs
 |_=>none
def oIx(x i:D):M D:=fun σ=>match i with
 | .int k=>(match yf0 σ x with
  |some xs=>(match atI xs k with
   |some d=>.ok d σ
   |none=>.bad)
  |none=>.bad)
 |_=>.bad
theorem zt6(r:Rel T μ H σ){x:D}{v:V}{xs:List D}(h:Rep T μ H x v)(e:yf0 σ x=some xs):∃ p vs,v=.ref p/\yhi T μ H xs vs/\(SqL T.K H p vs\/SqT T.K H p vs):=by
 cases x with
 |tup ds=>cases e;rw[Rep]at h;obtain⟨p,vs,rfl,h1,h2⟩:=h;exact⟨p,vs,rfl,h2,.inr (SqT.of h1)⟩
 |scr ns=>cases e;rw[Rep]at h;obtain⟨p,rfl,h1⟩:=h;exact⟨p,_,rfl,zhw ns,.inl h1.seq⟩
 |ref n=>obtain⟨a,vs,rfl,_,h1,h2⟩:=r.lst h e;exact⟨a,vs,rfl,h2,.inl (SqL.of h1)⟩
 |lst ds=>cases e;rw[Rep]at h;obtain⟨p,vs,rfl,_,h1,h2⟩:=h;exact⟨p,vs,rfl,h2,.inl (SqL.of h1)⟩
 |_=>cases e
theorem ya9(hK:T.K=X.K):yb8 T (fun x y H Q=>ykg X.K x y H Q\/ykh X.K x y H Q) oIx:=by
 intro E μ H σ x y v u Q r p q h;cases y with
 |int k=>
  unfold oIx at h;cases e:yf0 σ x with
  |none=>simp only[e]at h;exact h.elim
  |some xs=>
   simp only[e]at h;cases e2:atI xs k with
   |none=>rw[e2]at h;exact h.elim
   |some d=>
    rw[e2]at h;obtain⟨a,vs,rfl,h1,h2⟩:=zt6 r p e;obtain⟨w,h3,h4⟩:=zoc h1 e2;rw[hK]at h2;rcases h2 with h2|h2
    ·exact .inl ⟨a,vs,k,w,rfl,zx7 q,h2,h3,yhc.here h r h4⟩
    ·exact .inr ⟨a,vs,k,w,rfl,zx7 q,h2,h3,yhc.here h r h4⟩
 |_=>exact h.elim
theorem yi6:IxR X (fun x y H Q=>ykg X.K x y H Q\/ykh X.K x y H Q):=zqz.or zya
def isF(d:D):Bool:=(sc d).isSome
def eqF(x y:D):Bool:=match sc x,sc y with
 |some a,some b=>eqV a b
 |_,_=>false
def oIn(neg:Bool)(x y:D):M D:=fun σ=>match yf0 σ y with
 |some xs=>if (isF x && xs.all isF)=true then .ok (.bl (if neg then !(xs.any fun z=>eqF z x)else xs.any fun z=>eqF z x)) σ else .bad
 |none=>.bad
theorem zj8:∀ {ds:List D} {vs:List V},yhi T μ H ds vs->ds.all isF=true->vs.all ydf=true
 |[],vs,h,_=>by rw[yhi]at h;subst h;rfl
 |d::ds,vs,h,e=>by
  rw[yhi]at h;obtain⟨v,r,rfl,h1,h2⟩:=h;rw[List.all_cons,Bool.and_eq_true]at e ⊢;obtain⟨a,ea⟩:=Option.isSome_iff_exists.mp e.1;exact⟨by rw[ya1 h1 ea];exact zt0 ea,zj8 h2 e.2⟩
theorem zn5{x:D}{a:V}(ex:sc x=some a):∀ {ds:List D} {vs:List V},yhi T μ H ds vs->ds.all isF=true->(ds.any fun z=>eqF z x)=vs.any fun y=>eqV y a
 |[],vs,h,_=>by rw[yhi]at h;subst h;rfl
 |d::ds,vs,h,e=>by
  rw[yhi]at h;obtain⟨v,r,rfl,h1,h2⟩:=h;rw[List.all_cons,Bool.and_eq_true]at e;obtain⟨c,ec⟩:=Option.isSome_iff_exists.mp e.1;rw[List.any_cons,List.any_cons,zn5 ex h2 e.2];have:eqF d x=eqV v a:=by unfold eqF;rw[ec,ex,ya1 h1 ec]
  rw[this]
theorem ya8(hK:T.K=X.K)(neg:Bool):yb8 T (rIn X.K neg) (oIn neg):=by
 intro E μ H σ x y v u Q r p q h;unfold oIn at h;cases e:yf0 σ y with
 |none=>rw[e]at h;exact h.elim
 |some xs=>
  rw[e]at h;by_cases hc:(isF x && xs.all isF)=true
  ·simp only[hc,if_true]at h;rw[Bool.and_eq_true]at hc;obtain⟨a,ea⟩:=Option.isSome_iff_exists.mp hc.1;obtain⟨b,vs,rfl,h1,h2⟩:=zt6 r q e;rw[hK]at h2;refine⟨b,vs,rfl,h2,by rw[ya1 p ea];exact zt0 ea,zj8 h1 hc.2,?_⟩;have e3:inV v vs=xs.any fun z=>eqF z x:=by unfold inV;rw[zn5 ea h1 hc.2,ya1 p ea]
   rw[e3];exact yhc.here h r (by rw[Rep])
  ·simp only[hc]at h;exact h.elim
def yjy(xs:List D):M D:=fun σ=>match xs with
 |[x]=>(match yf0 σ x with
  |some ys=>.ok (.int ys.length) σ
  |none=>.bad)
 |_=>.bad
theorem zuj(hK:T.K=X.K):zn0 T (fun xs H Q=>∃ p ys,xs=[.ref p]/\(SqL X.K H p ys\/SqT X.K H p ys)/\Q (.int ys.length) H) yjy:=by
 intro E μ H σ xs vs Q r p h
 match xs with
 |[]=>exact h.elim
 |[x]=>
  rw[yhi]at p;obtain⟨v,w,rfl,p1,p2⟩:=p;rw[yhi]at p2;subst p2;unfold yjy at h;cases e:yf0 σ x with
  |none=>simp only[e]at h;exact h.elim
  |some ys=>
   simp only[e]at h;obtain⟨b,vs,rfl,h1,h2⟩:=zt6 r p1 e;rw[hK]at h2;exact⟨b,vs,rfl,h2,by rw[<-h1.length];exact yhc.here h r (by rw[Rep])⟩
 |_::_::_=>exact h.elim
def ye4(xs:List D):M D:=fun σ=>match xs with
 |[x]=>(match yf0 σ x with
  |some ys=>yep ys σ
  |none=>.bad)
 |_=>.bad
theorem zm9(hK:T.K=X.K):zn0 T (fun xs H Q=>∃ p ys,xs=[.ref p]/\(SqL X.K H p ys\/SqT X.K H p ys)/\∀ l,H l=none->Q (.ref l) (upd H l (.lst ys))) ye4:=by
 intro E μ H σ xs vs Q r p h
 match xs with
 |[]=>exact h.elim
 |[x]=>
  rw[yhi]at p;obtain⟨v,w,rfl,p1,p2⟩:=p;rw[yhi]at p2;subst p2;unfold ye4 at h;cases e:yf0 σ x with
  |none=>simp only[e]at h;exact h.elim
  |some ys=>
   simp only[e]at h;obtain⟨b,vs,rfl,h1,h2⟩:=zt6 r p1 e;rw[hK]at h2;exact⟨b,vs,rfl,h2,fun l hl=>zr4 h r h1 hl⟩
 |_::_::_=>exact h.elim
def zzd(xs:List D):M D:=fun σ=>match xs with
 |[x]=>(match yf0 σ x with
  |some ys=>.ok (.tup ys) σ
  |none=>.bad)
 |_=>.bad
theorem zh9(hK:T.K=X.K):zn0 T (fun xs H Q=>∃ p ys,xs=[.ref p]/\((SqL X.K H p ys/\∀ l,H l=none->Q (.ref l) (upd H l (.tup ys)))\/(SqT X.K H p ys/\Q (.ref p) H))) zzd:=by
 intro E μ H σ xs vs Q r p h
 match xs with
 |[]=>exact h.elim
 |[x]=>
  rw[yhi]at p;obtain⟨v,w,rfl,p1,p2⟩:=p;rw[yhi]at p2;subst p2;unfold zzd at h;cases e:yf0 σ x with
  |none=>simp only[e]at h;exact h.elim
  |some ys=>
   simp only[e]at h;cases x with
   |tup ds=>
    cases e;have p0:=p1;rw[Rep]at p1;obtain⟨b,vs,rfl,h1,h2⟩:=p1;exact⟨b,vs,rfl,.inr ⟨SqT.of h1,yhc.here h r p0⟩⟩
   |scr ns=>
    cases e;rw[Rep]at p1;obtain⟨b,rfl,h1⟩:=p1;exact⟨b,_,rfl,.inl ⟨by rw[<-hK];exact h1.seq,fun l hl=>zr5 h r (zhw ns) hl⟩⟩
   |ref n=>
    obtain⟨a,vs,rfl,_,h1,h2⟩:=r.lst p1 e;exact⟨a,vs,rfl,.inl ⟨SqL.of h1,fun l hl=>zr5 h r h2 hl⟩⟩
   |lst ds=>
    cases e;rw[Rep]at p1;obtain⟨b,vs,rfl,_,h1,h2⟩:=p1;exact⟨b,vs,rfl,.inl ⟨SqL.of h1,fun l hl=>zr5 h r h2 hl⟩⟩
   |_=>cases e
 |_::_::_=>exact h.elim
end
def ycz(o:List D->M D)(fs:Ev->M (List D)):Ev->M D:=fun ρ=>bnd (fs ρ) o
section
variable{T:Tb}{X:Cx}{x:Str}{p pos:Pos}{e:Expr}{es:List Expr}{fs:Ev->M (List D)}{id ty:String}{r:List V->Hp->VK->Prop}{o:List D->M D}
theorem ycm(hs:zn0 T r o){st:St}{H:Hp}{Q:VK}(h:tF T X (ycz o fs) st H Q):tCB r (tL T X fs) st H Q:=by
 obtain⟨μ,ρ,σ,he,hr,hp⟩:=h;exact⟨μ,ρ,σ,he,hr,hp.bind fun ds σ1 μ1 vs H1 _ e1 r1 p1 q1=>hs _ μ1 H1 σ1 ds vs Q r1 p1 q1⟩
theorem zjx(hc:ybv X (.builtin id) r)(hs:zn0 T r o)(hg:Gl X x)(hm:X.mg x=none)(hv:bootBuiltins x=some (.builtin id))(ha:FA T X (e::es) fs)(hn:x ≠ "__name__":=by decide)(hdb:(x == ("__debug__" : Str))=false:=by decide)
  (he:starEach (e::es) X.env=(false,eval e X.env)::starEach es X.env:=by rfl) (hpl:(backTo pos (starEach es X.env)).any (·.1)=false:=by rfl):FE T X (.Call (.Name x p) (e::es) [] pos) (ycz o fs):=
 fun pins s st H Q I h=>zmc hc hg hm hv ha hn hdb he hpl pins s st H Q I (ycm hs h)
theorem zgk(hc:ybv X (.type ty) r)(hs:zn0 T r o)(hg:Gl X x)(hm:X.mg x=none)(hv:bootBuiltins x=some (.type ty))(ha:FA T X (e::es) fs)(hn:x ≠ "__name__":=by decide)(hdb:(x == ("__debug__" : Str))=false:=by decide)
  (he:starEach (e::es) X.env=(false,eval e X.env)::starEach es X.env:=by rfl) (hpl:(backTo pos (starEach es X.env)).any (·.1)=false:=by rfl):FE T X (.Call (.Name x p) (e::es) [] pos) (ycz o fs):=
 fun pins s st H Q I h=>zhq hc hg hm hv ha hn hdb he hpl pins s st H Q I (ycm hs h)
end
def yjd(σ:Sto):D->Option (List D)
 | .ref n=>yee σ n
 | .lst xs=>some xs
 |_=>none
theorem Rel.ls{T:Tb}{μ:List Addr}{H:Hp}{σ:Sto}(r:Rel T μ H σ){x:D}{v:V}{xs:List D}(h:Rep T μ H x v)(e:yjd σ x=some xs):∃ a vs,v=.ref a/\H a=some (.lst vs)/\yhi T μ H xs vs:=by
 cases x with
 |ref n=>obtain⟨a,vs,h1,_,h2,h3⟩:=r.lst h e;exact⟨a,vs,h1,h2,h3⟩
 |lst ys=>cases e;rw[Rep]at h;obtain⟨a,vs,h1,_,h2,h3⟩:=h;exact⟨a,vs,h1,h2,h3⟩
 |_=>cases e
def yem(o:D->List D->M D)(m:M (List D))(x:D):M D:=fun σ=>match yjd σ x with
 |some _=>bnd m (o x) σ
 |none=>.bad
def yc2(o:D->List D->M D)(f:Ev->M D)(fs:Ev->M (List D)):Ev->M D:=fun ρ=>bnd (f ρ) (yem o (fs ρ))
def yb7(T:Tb)(r:V->List V->Hp->VK->Prop)(o:D->List D->M D):Prop:=∀ (E:XK) μ H σ x xs v vs Q,Rel T μ H σ->Rep T μ H x v->yhi T μ H xs vs->yhc T E (Rep T) μ H (o x xs σ) Q->r v vs H Q
def zr8(x:D)(xs:List D):M D:=fun σ=>match x,xs with
 | .ref n,[y]=>(match yee σ n with
  |some ys=>if ys.length<cap then .ok .non (σ.set n (.lst (ys++[y])))else .bad
  |none=>.bad)
 |_,_=>.bad
section
variable{T:Tb}{X:Cx}{o e:Expr}{es:List Expr}{f:Ev->M D}{fs:Ev->M (List D)}{name:Str}{apos cpos:Pos}{id:String}{r:V->List V->Hp->VK->Prop}{g:D->List D->M D}
theorem zpp(pa:PlainAttrs "list")(slot:Slot "list" name id)(hty:typeOf (.builtin id)=pure (.type "method_descriptor"))(hm:MtR X id r)(hs:yb7 T r g)(ho:FE T X o f)(ha:FA T X (e::es) fs)
  (hbase:attributeBase o name X.env (eval o X.env)=eval o X.env:=by rfl)
  (hfew:((backTo cpos (starEach (e::es) X.env)).all (fun x=>!x.1) && (backToKw cpos (keywordEach [] X.env)).all (fun x=>x.1.isSome)
   && decide ((e::es).length+([]:List Keyword).length+(if ([]:List Keyword).isEmpty then 0 else 1)<30))=true:=by rfl)
  (hline:(apos.endLine == cpos.line)=true:=by rfl) (hst:starEach (e::es) X.env=(false,eval e X.env)::starEach es X.env:=by rfl) (hplain:(backTo cpos (starEach es X.env)).any (·.1)=false:=by rfl) :
  FE T X (.Call (.Attribute o name apos) (e::es) [] cpos) (yc2 g f fs):=by
 intro pins s st H Q I h;refine yfg pa slot hty hm ho ha hbase hfew hline hst hplain pins s st H Q I ?_;obtain⟨μ,ρ,σ,he,hr,hp⟩:=h;refine⟨μ,ρ,σ,he,hr,hp.bind fun x σ1 μ1 v H1 _ e1 r1 p1 q1=>?_⟩;unfold yem at q1;cases el:yjd σ1 x with
 |none=>rw[el]at q1;exact q1.elim
 |some xs=>
  rw[el]at q1;obtain⟨a,vs,rfl,h1,h2⟩:=r1.ls p1 el;refine⟨.inl ⟨rfl,vs,SqL.of h1⟩,μ1,ρ,σ1,he.mono e1,r1,q1.bind fun ds σ2 μ2 ws H2 _ e2 r2 p2 q2=>?_⟩;exact hs _ μ2 H2 σ2 x ds (.ref a) ws Q r2 (Rep.mono e2 _ _ p1) p2 q2
theorem zfk:yb7 T ztc zr8:=by
 intro E μ H σ x xs v vs Q r p q h;cases x with
 |ref n=>
  match xs with
  |[]=>exact h.elim
  |[y]=>
   rw[yhi]at q;obtain⟨w,z,rfl,q1,q2⟩:=q;rw[yhi]at q2;subst q2;unfold zr8 at h;cases el:yee σ n with
   |none=>simp only[el]at h;exact h.elim
   |some ys=>
    simp only[el]at h;by_cases hc:ys.length<cap
    ·rw[if_pos hc]at h;obtain⟨a,vs,rfl,hn,h1,h2⟩:=r.lst p el;have wr:=r.write (o:=.lst (vs++[w])) (ob:=.lst (ys++[y])) hn ⟨_,znp,by
      have ex:Ext μ H μ (upd H a (.lst (vs++[w]))):=zgj (List.mem_of_getElem? hn) h1 (fun _ z=>by cases z) (fun _ _ z=>by cases z);exact yhi.append (yhi.mono ex _ _ h2) (yhi.cons (Rep.mono ex _ _ q1) yhi.nil)⟩
     exact⟨a,vs,w,rfl,rfl,h1,by rw[<-h2.length];exact zvw hc,h _ _ _ wr.1 wr.2 (by rw[Rep])⟩
    ·rw[if_neg hc]at h;exact h.elim
  |_::_::_=>exact h.elim
 |_=>exact h.elim
end
inductive BT where
 |int|bool|str|tuple|list|dict
def BT.nm:BT->String
 | .int=>"int" | .bool=>"bool" | .str=>"str" | .tuple=>"tuple" | .list=>"list" | .dict=>"dict"
def yi4(σ:Sto)(c:BT):D->Option Bool
 | .non=>some false
 | .bl _=>some (match c with | .int=>true | .bool=>true|_=>false)
 | .int _=>some (match c with | .int=>true|_=>false)
 | .str _=>some (match c with | .str=>true|_=>false)
 | .tup _=>some (match c with | .tuple=>true|_=>false)
 | .scr _=>none
 | .lst _=>some (match c with | .list=>true|_=>false)
 | .dic _ _=>some (match c with | .dict=>true|_=>false)
 | .obj _ _ _=>none
 | .exn _=>none
 | .ref n=>match σ[n]? with
  |some (.lst _)=>some (match c with | .list=>true|_=>false)
  |some (.dic _)=>some (match c with | .dict=>true|_=>false)
  |_=>none
def yjw(c:BT)(x:D):M D:=fun σ=>match yi4 σ c x with
 |some b=>.ok (.bl b) σ
 |none=>.bad
section
variable{T:Tb}{X:Cx}
def TyR(K:PySem.W.Frag)(H:Hp)(x:V)(t:Value):Prop:=TyOf K H x t\/∃ a kvs,x=.ref a/\Rd H a (.dK kvs)/\t=.type "dict"
def ykf(K:PySem.W.Frag)(c:String):List V->Hp->VK->Prop:=fun xs H Q=>∃ x t b,xs=[x,.ty c]/\TyR K H x t/\PySem.W.kitOne K t (.type c)=some b/\Q (.bl b) H
theorem zi1(c:String):ybv X (.builtin "isinstance") (ykf X.K c):=by
 intro pins s st H xs us Q I r h;obtain⟨x,t,b,rfl,ty,e,q⟩:=h;obtain⟨u,u2,rfl,ru,ru2⟩:=ygl r;cases ru2;rcases ty with ty|⟨a,kvs,rfl,rd,rfl⟩
 ·exact zgu I ru ty e fun tk=>⟨.bl b,H,I.tok _,rfl,q⟩
 ·cases (show u=Value.ref a from ru);obtain⟨_,_,vs,_,p⟩:=(show yb3 X.prog X.w H s.heap a (.dK kvs)from rd.ok I.hok)
  obtain⟨o,es,ep,h1,h2,_⟩:=p;exact PySem.W.kia_one PySem.W.kitx_dict I.kIn ⟨o,h1,h2.1⟩ e (fun z=>nomatch z) fun tk=>⟨.bl b,H,I.tok _,rfl,q⟩
theorem ygj{μ:List Addr}{H:Hp}{σ:Sto}{x:D}{v:V}{c:BT}{b:Bool}(r:Rel T μ H σ)(p:Rep T μ H x v)(h:yi4 σ c x=some b):∃ t,TyR X.K H v t/\PySem.W.kitOne X.K t (.type c.nm)=some b:=by
 cases x with
 |non=>rw[Rep]at p;subst p;refine⟨_,.inl (.non),?_⟩;cases c<;>cases h<;>rfl
 |bl i=>rw[Rep]at p;subst p;refine⟨_,.inl (.bl i),?_⟩;cases c<;>cases h<;>rfl
 |int i=>rw[Rep]at p;subst p;refine⟨_,.inl (.int i),?_⟩;cases c<;>cases h<;>rfl
 |str i=>rw[Rep]at p;subst p;refine⟨_,.inl (.str i),?_⟩;cases c<;>cases h<;>rfl
 |tup ds=>rw[Rep]at p;obtain⟨q,vs,rfl,h1,_⟩:=p;refine⟨_,.inl (.tup h1),?_⟩;cases c<;>cases h<;>rfl
 |scr ns=>cases h
 |lst ds=>rw[Rep]at p;obtain⟨q,vs,rfl,_,h1,_⟩:=p;refine⟨_,.inl (.lst h1),?_⟩;cases c<;>cases h<;>rfl
 |dic ks ds=>rw[Rep]at p;obtain⟨q,vs,rfl,_,h1,_⟩:=p;refine⟨_,.inr ⟨q,_,rfl,h1,rfl⟩,?_⟩;cases c<;>cases h<;>rfl
 |obj c' ks ds=>cases h
 |exn c'=>cases h
 |ref n=>
  unfold yi4 at h;dsimp only at h;cases e:σ[n]? with
  |none=>rw[e]at h;cases h
  |some o=>
   rw[e]at h;obtain⟨a,rfl,_,h2⟩:=r.at p e;cases o with
   |lst xs=>obtain⟨vs,h3,_⟩:=h2;refine⟨_,.inl (.lst h3),?_⟩;cases c<;>cases h<;>rfl
   |dic xs=>obtain⟨vs,h3,_⟩:=h2;refine⟨_,.inl (.dK h3),?_⟩;cases c<;>cases h<;>rfl
   |ins c' fs=>cases h
theorem zw1(c:BT){tn:Str}{e:Expr}{f:Ev->M D}{p p2 pos:Pos}(he:FE T X e f)(hg:Gl X "isinstance")(hm:X.mg "isinstance" = none)(hg2:Gl X tn)(hm2:X.mg tn=none)(hv2:bootBuiltins tn=some (.type c.nm))(hn2:tn ≠ "__name__":=by decide)(hd2:(tn == ("__debug__" : Str))=false:=by decide)
  (hs:starEach [e,.Name tn p2] X.env=(false,eval e X.env)::starEach [.Name tn p2] X.env:=by rfl) (hpl:(backTo pos (starEach [.Name tn p2] X.env)).any (·.1)=false:=by rfl) :
  FE T X (.Call (.Name "isinstance" p) [e,.Name tn p2] [] pos) (eUn (yjw c) f):=by
 intro pins s st H Q I h;refine zmc (zi1 c.nm) hg hm boot_isinstance (zsu he (zsu (zsw hg2 hm2 hv2 (v:=.ty c.nm) rfl hn2 hd2) zzv) hs) (by decide) (by decide) hs hpl pins s st H Q I ?_;obtain⟨μ,ρ,σ,hE,hr,hp⟩:=h;refine⟨μ,ρ,σ,hE,hr,hp.bind fun x σ1 μ1 v H1 _ e1 r1 p1 q1=>?_⟩;unfold yjw at q1;cases eb:yi4 σ1 c x with
 |none=>rw[eb]at q1;exact q1.elim
 |some b=>
  rw[eb]at q1;obtain⟨t,h1,h2⟩:=ygj (X:=X) r1 p1 eb;exact⟨v,t,b,rfl,h1,h2,yhc.here q1 r1 (by rw[Rep])⟩
end
def ykw:Ev->M Fl:=fun ρ=>ret (.nx ρ)
def yk1(h:Ev->M Fl):Fl->M Fl
 | .nx ρ'=>h ρ'
 | .rt d=>ret (.rt d)
 | .bk ρ'=>ret (.bk ρ')
 | .ct ρ'=>ret (.ct ρ')
 | .xc ρ' x=>ret (.xc ρ' x)
def ykz(g h:Ev->M Fl):Ev->M Fl:=fun ρ=>bnd (g ρ) (yk1 h)
def ykm:D->M Fl:=fun d=>ret (.rt d)
def yky(f:Ev->M D):Ev->M Fl:=fun ρ=>xs ρ (f ρ) ykm
def yin(ρ:Ev):D->M Fl:=fun _=>ret (.nx ρ)
def ykt(f:Ev->M D):Ev->M Fl:=fun ρ=>xs ρ (f ρ) (yin ρ)
def yk2(i:Nat)(ρ:Ev):D->M Fl:=fun d=>ret (.nx (ρ.set i (some d)))
def yk0(i:Nat)(f:Ev->M D):Ev->M Fl:=fun ρ=>xs ρ (f ρ) (yk2 i ρ)
def sIf(t:Ev->M Bool)(a b:Ev->M Fl):Ev->M Fl:=fun ρ=>xs ρ (t ρ) (ifK (a ρ) (b ρ))
section
variable{T:Tb}{X:Cx}{st':Stmt}{rest:List Stmt}{g h:Ev->M Fl}{e:Expr}{f:Ev->M D}{pos:Pos}
theorem zqb:FSs T X [] ykw:=by
 intro pins s st H D I hw;obtain⟨μ,ρ,σ,hE,hr,hp⟩:=hw;exact zs6 pins s st H D I (yhc.here (g:=Gl2.nx st) hp hr hE)
theorem zt5{μ:List Addr}{H:Hp}{σ:Sto}{fl:Fl}{gl:Gl2}{D:Ends}{N:St->Hp->Prop}(r:Rel T μ H σ)(q:RFl T μ H fl gl)(k:Fl->M Fl)
  (hn:∀ ρ,fl=.nx ρ->∀ st,gl=.nx st->ygw T μ H ρ st->N st H) (ho:(∀ ρ,fl≠.nx ρ)->yhc T EN (RFl T) μ H (.ok fl σ) (ygx X D)):ygx X { D with nx:=N } gl H:=by
 cases fl with
 |nx ρ=>cases gl with
  |nx st=>exact hn ρ rfl st rfl q
  |_=>exact q.elim
 |rt d=>cases gl with
  |rt v=>have z:=yhc.here (g:=Gl2.rt v) (ho fun _ z=>by cases z) r q;exact z
  |_=>exact q.elim
 |bk ρ=>cases gl with
  |bk v=>have z:=yhc.here (g:=Gl2.bk v) (ho fun _ z=>by cases z) r q;exact z
  |_=>exact q.elim
 |ct ρ=>cases gl with
  |ct v=>have z:=yhc.here (g:=Gl2.ct v) (ho fun _ z=>by cases z) r q;exact z
  |_=>exact q.elim
 |xc ρ x=>cases gl with
  |xc v c fd=>have z:=yhc.here (g:=Gl2.xc v c fd) (ho fun _ z=>by cases z) r q;exact z
  |_=>exact q.elim
theorem zkk(h1:FS T X st' g)(h2:FSs T X rest h):FSs T X (st'::rest) (ykz g h):=by
 intro pins s st H D I hw;refine zmi h1 h2 pins s st H D I ?_;obtain⟨μ,ρ,σ,hE,hr,hp⟩:=hw;refine⟨μ,ρ,σ,hE,hr,hp.bind fun fl σ1 μ1 gl H1 _ e1 r1 q1 p1=>?_⟩;refine zt5 (X:=X) r1 q1 (fun _=>bad) (fun ρ' ef st1 eg he=>?_) (fun hn=>?_)
 ·subst ef;exact⟨μ1,ρ',σ1,he,r1,p1⟩
 ·cases fl with
  |nx ρ'=>exact(hn ρ' rfl).elim
  |_=>exact p1
theorem zqc(h1:FS T X st' g):FSs T X [st'] g:=zs7 h1
theorem zxq(he:FE T X e f):FS T X (.Return (some e) pos) (yky f):=by
 intro pins s st H D I hw;refine yak he pins s st H D I ?_;obtain⟨μ,ρ,σ,hE,hr,hp⟩:=hw;exact⟨μ,ρ,σ,hE,hr,hp.xs hE fun d σ1 μ1 v H1 _ e1 r1 q1 p1=>yhc.here (g:=Gl2.rt v) p1 r1 q1⟩
theorem zp7(he:FE T X e f)(hs:swapsWith e none pos.line X.env=pure false:=by rfl):FS T X (.Expr e pos) (ykt f):=by
 intro pins s st H D I hw;refine zs5 he hs pins s st H D I ?_;obtain⟨μ,ρ,σ,hE,hr,hp⟩:=hw;exact⟨μ,ρ,σ,hE,hr,hp.xs hE fun d σ1 μ1 v H1 _ e1 r1 q1 p1=>yhc.here (g:=Gl2.nx st) p1 r1 (hE.mono e1)⟩
theorem zxr{i:Nat}{x:Str}{pos':Pos}(hN:X.N.Nodup)(hi:X.N[i]?=some x)(hx:Loc X.env.scope x)(he:FE T X e f)(hs:swapsWith e (some (.Name x pos')) pos.line X.env=pure false:=by rfl)(hf:X.fn x=true\/X.env.scope.names.lookup x=some .local:=by first|exact .inl rfl|exact .inr rfl|assumption) :
  FS T X (.Assign [.Name x pos'] e pos) (yk0 i f):=by
 intro pins s st H D I hw;refine yal hN hi hx he hs hf pins s st H D I ?_;obtain⟨μ,ρ,σ,hE,hr,hp⟩:=hw;exact⟨μ,ρ,σ,hE,hr,hp.xs hE fun d σ1 μ1 v H1 _ e1 r1 q1 p1=>yhc.here (g:=Gl2.nx (st.set i (some v))) p1 r1 ((hE.mono e1).set i q1)⟩
theorem ydm{c:Expr}{a b:List Stmt}{tc:Ev->M Bool}{ga gb:Ev->M Fl}(hc:FT T X c tc)(ha:FSs T X a ga)(hb:FSs T X b gb):FS T X (.If c a b pos) (sIf tc ga gb):=by
 intro pins s st H D I hw;refine yfk hc ha hb pins s st H D I ?_;obtain⟨μ,ρ,σ,hE,hr,hp⟩:=hw;refine⟨μ,ρ,σ,hE,hr,hp.xs hE fun c σ1 μ1 v H1 _ e1 r1 q1 p1=>?_⟩;cases q1;cases c with
 |true=>unfold ifK at p1;rw[if_pos rfl]at p1 ⊢;exact⟨μ1,ρ,σ1,hE.mono e1,r1,p1⟩
 |false=>unfold ifK at p1;rw[if_neg Bool.false_ne_true]at p1 ⊢;exact⟨μ1,ρ,σ1,hE.mono e1,r1,p1⟩
def gD(T:Tb)(tg:D->Ev->Option Ev):TG:=fun v st H Q=>∃ μ σ ρ d ρ',ygw T μ H ρ st/\Rel T μ H σ/\Rep T μ H d v/\tg d ρ=some ρ'/\∀ st',ygw T μ H ρ' st'->Q st' H
def gsD(T:Tb)(tg:List D->Ev->Option Ev):TGs:=fun vs st H Q=>∃ μ σ ρ ds ρ',ygw T μ H ρ st/\Rel T μ H σ/\yhi T μ H ds vs/\tg ds ρ=some ρ'/\∀ st',ygw T μ H ρ' st'->Q st' H
abbrev FG(T:Tb)(X:Cx)(t:Expr)(tg:D->Ev->Option Ev):Prop:=PG X t (gD T tg)
abbrev FGs(T:Tb)(X:Cx)(ts:List Expr)(tg:List D->Ev->Option Ev):Prop:=PGs X ts (gsD T tg)
def tgN(i:Nat):D->Ev->Option Ev:=fun d ρ=>some (ρ.set i (some d))
def ygf:List D->Ev->Option Ev
 |[],ρ=>some ρ
 |_::_,_=>none
def ybh(t:D->Ev->Option Ev)(u:List D->Ev->Option Ev):List D->Ev->Option Ev
 |[],_=>none
 |d::ds,ρ=>(t d ρ).bind fun ρ'=>u ds ρ'
def tgT(n:Nat)(t:List D->Ev->Option Ev):D->Ev->Option Ev
 | .tup ds,ρ=>if ds.length=n then t ds ρ else none
 |_,_=>none
theorem zpr{i:Nat}{x:Str}(hN:X.N.Nodup)(hi:X.N[i]?=some x)(hx:Loc X.env.scope x)(hf:X.fn x=true\/X.env.scope.names.lookup x=some .local:=by first|exact .inl rfl|exact .inr rfl|assumption):FG T X (.Name x pos) (tgN i):=by
 intro pins s st H v u Q I r h;obtain⟨μ,σ,ρ,d,ρ',hE,hr,hd,ht,hq⟩:=h;cases ht;exact zs1 hN hi hx hf pins s st H v u Q I r (hq _ (hE.set i hd))
theorem zps:FGs T X [] ygf:=by
 intro pins s st H vs us Q I r h;obtain⟨μ,σ,ρ,ds,ρ',hE,hr,hd,ht,hq⟩:=h;cases ds with
 |nil=>cases ht;rw[yhi]at hd;subst hd;exact zs2 pins s st H [] us Q I r ⟨rfl,hq _ hE⟩
 |cons d ds=>cases ht
theorem zj2{es:List Expr}{t:D->Ev->Option Ev}{u:List D->Ev->Option Ev}(h1:FG T X e t)(h2:FGs T X es u)
  (hs:(assignEach (e::es) X.env).map (·.2)=assign e X.env::(assignEach es X.env).map (·.2):=by rfl):FGs T X (e::es) (ybh t u):=by
 intro pins s st H vs us Q I r h;obtain⟨μ,σ,ρ,ds,ρ',hE,hr,hd,ht,hq⟩:=h;cases ds with
 |nil=>cases ht
 |cons d ds=>
  rw[yhi]at hd;obtain⟨v,w,rfl,hd1,hd2⟩:=hd;obtain⟨ρ1,e1,e2⟩:=Option.bind_eq_some_iff.mp ht;refine zmf h1 h2 hs pins s st H (v::w) us Q I r ⟨v,w,rfl,μ,σ,ρ,d,ρ1,hE,hr,hd1,e1,fun st1 hE1=>?_⟩;exact⟨μ,σ,ρ1,ds,ρ',hE1,hr,hd2,e2,hq⟩
theorem zxb{es:List Expr}{k:Nat}{t:List D->Ev->Option Ev}{n:Nat}(hc:X.calm=true)(h:FGs T X es t)
  (hn:(assignEach es X.env).length=n:=by rfl) (hst:(assignEach es X.env).findIdx? (·.1)=none:=by rfl):FG T X (.Tuple es k pos) (tgT n t):=by
 intro pins s st H v u Q I r hw;obtain⟨μ,σ,ρ,d,ρ',hE,hr,hd,ht,hq⟩:=hw;cases d with
 |tup ds=>
  have hd0:=hd;rw[Rep]at hd;obtain⟨p,vs,rfl,h1,h2⟩:=hd;unfold tgT at ht;dsimp only at ht;by_cases hl:ds.length=n
  ·rw[if_pos hl]at ht;exact zz9 hc h hn hst pins s st H (.ref p) u Q I r ⟨p,vs,rfl,SqT.of h1,by rw[<-h2.length];exact hl,μ,σ,ρ,ds,ρ',hE,hr,h2,ht,hq⟩
  ·rw[if_neg hl]at ht;cases ht
 |_=>cases ht
def yhv(tg:D->Ev->Option Ev)(ρ:Ev)(d:D):M Fl:=match tg d ρ with
 |some ρ'=>ret (.nx ρ')
 |none=>bad
def ykr(f:Ev->M D)(tg:D->Ev->Option Ev):Ev->M Fl:=fun ρ=>xs ρ (f ρ) (yhv tg ρ)
theorem zxm{tg:Expr}{t:D->Ev->Option Ev}(he:FE T X e f)(hg:FG T X tg t)(hs:swapsWithSole [tg] e pos.line X.env=pure false:=by rfl)(hw:swappedStores [tg] e X.env=pure none:=by rfl)
  (h1:(assignEach [tg] X.env).map (·.2)=[assign tg X.env]:=by rfl):FS T X (.Assign [tg] e pos) (ykr f t):=by
 intro pins s st H D I hq;refine yag he hg hs hw h1 pins s st H D I ?_;obtain⟨μ,ρ,σ,hE,hr,hp⟩:=hq;refine⟨μ,ρ,σ,hE,hr,hp.xs hE fun d σ1 μ1 v H1 _ e1 r1 q1 p1=>?_⟩;unfold yhv at p1;cases ht:t d ρ with
 |none=>simp only[ht]at p1;exact p1.elim
 |some ρ'=>simp only[ht]at p1;exact⟨μ1,σ1,ρ,d,ρ',hE.mono e1,r1,q1,ht,fun st1 hE1=>yhc.here (g:=Gl2.nx st1) p1 r1 hE1⟩
end
inductive Src where
 |seq (ds:List D)
 |lref (n:Nat)
def Src.nx:Src->Nat->Sto->Option (Option D)
 | .seq ds,i,_=>some ds[i]?
 | .lref n,i,σ=>(yee σ n).map fun xs=>xs[i]?
def yca(T:Tb)(μ0:List Addr)(H0:Hp)(src:Src)(J:It):Prop:=∀ μ H σ i,Ext μ0 H0 μ H->Rel T μ H σ->match src.nx i σ with
 |none=>True
 |some none=>J.stop i H
 |some (some d)=>J.go i H/\∀ x H',J.yld i H x H'->H'=H/\Rep T μ H d x
def tI(T:Tb)(X:Cx)(f:Ev->M Src):TI:=fun st H R=>∃ μ ρ σ,ygw T μ H ρ st/\Rel T μ H σ/\yhc T (XE X st) (yca T) μ H (f ρ σ) R
abbrev FI(T:Tb)(X:Cx)(tg iter:Expr)(f:Ev->M Src):Prop:=PI X tg iter (tI T X f)
def yas(n:Nat):List D:=(List.range n).map fun(i:Nat)=>D.int (i:Int)
def yfz(d:D):M Src:=fun σ=>match d with
 | .tup ds=>.ok (.seq ds) σ
 | .lst ds=>.ok (.seq ds) σ
 | .scr ns=>.ok (.seq (ns.map D.int)) σ
 | .ref n=>(match yee σ n with
  |some _=>.ok (.lref n) σ
  |none=>.bad)
 |_=>.bad
def yk6(f:Ev->M D):Ev->M Src:=fun ρ=>bnd (f ρ) yfz
noncomputable def zuc(j:Int):Bool:=hide (decide (-(2 ^ 62)<=j) && decide (j<2 ^ 62))
noncomputable def ykn(d:D):M Src:=fun σ=>match d with
 | .int j=>if zuc j=true then .ok (.seq (yas j.toNat)) σ else .bad
 |_=>.bad
noncomputable def yk5(f:Ev->M D):Ev->M Src:=fun ρ=>bnd (f ρ) ykn
section
variable{T:Tb}{X:Cx}{tg iter:Expr}{f:Ev->M D}
def yi2(K:PySem.W.Frag)(tl:TE):TI:=fun σ H R=>tl σ H fun x H1=>∃ a,x=.ref a/\(((∃ xs,SqL K H1 a xs)/\R (Itl K a) H1)\/((∃ xs,SqT K H1 a xs)/\R (Itt K a) H1))
theorem yaa{l:Expr}{tl:TE}(hl:PE X l tl):PI X tg l (yi2 X.K tl):=by
 intro pins s σ H R I h;refine thn (hl pins s σ H _ I h) fun v s1 ⟨x,H1,I1,r1,q1⟩=>?_;obtain⟨a,e,q1⟩:=q1;subst e;cases r1;rcases q1 with⟨⟨xs,hq⟩,q⟩|⟨⟨xs,hq⟩,q⟩
 ·obtain⟨its,rv,p,hz⟩:=I1.list hq;refine wpAny_pyIter_list p.isList ?_;refine⟨s1.heap.objs.size,[s1.heap.objs.size],_,_,H1,rfl,I1.kept (t':=s1.toks) fun b o e=>Heap.get?_push_of_some _ e,zig a _,⟨_,Heap.get?_push_size _ rfl,rfl,rfl⟩,fun b hb=>?_,q⟩;have e:b=s1.heap.objs.size:=by simpa using hb
  subst e;exact I1.fpOk (Nat.le_refl _) (I1.hok.fresh (Nat.le_refl _))
 ·obtain⟨its,rv,p,hz⟩:=I1.tuple hq;refine wpAny_pyIter_tuple (show s1.heap.IsTuple a its.toArray from p) ?_;refine⟨s1.heap.objs.size,[s1.heap.objs.size],_,_,H1,rfl,I1.kept (t':=s1.toks) fun b o e=>Heap.get?_push_of_some _ e,zfr a _,⟨_,Heap.get?_push_size _ rfl,rfl,rfl⟩,fun b hb=>?_,q⟩;have e:b=s1.heap.objs.size:=by simpa using hb
  subst e;exact I1.fpOk (Nat.le_refl _) (I1.hok.fresh (Nat.le_refl _))
theorem zne{μ1:List Addr}{H1:Hp}{a:Addr}{ds:List D}{K:PySem.W.Frag}(h:∀ μ2 H2,Ext μ1 H1 μ2 H2->∃ vs,SqL K H2 a vs/\yhi T μ2 H2 ds vs):yca T μ1 H1 (.seq ds) (Itl K a):=by
 intro μ2 H2 σ2 i ex r2;obtain⟨vs,h3,h4⟩:=h μ2 H2 ex;show match some ds[i]? with|none=>True|some none=>_|some (some d)=>_
 cases e:ds[i]? with
 |none=>exact⟨vs,h3,by rw[<-h4.length];exact List.getElem?_eq_none_iff.mp e⟩
 |some d=>
  obtain⟨v,hv1,hv2⟩:=h4.get e;refine⟨⟨vs,v,h3,hv1⟩,fun x H' y=>?_⟩;obtain⟨rfl,y⟩:=y;have:=y vs h3;rw[hv1]at this;cases this;exact⟨rfl,hv2⟩
theorem zuu{μ1:List Addr}{H1:Hp}{a:Addr}{ds:List D}{K:PySem.W.Frag}(h:∀ μ2 H2,Ext μ1 H1 μ2 H2->∃ vs,SqT K H2 a vs/\yhi T μ2 H2 ds vs):yca T μ1 H1 (.seq ds) (Itt K a):=by
 intro μ2 H2 σ2 i ex r2;obtain⟨vs,h3,h4⟩:=h μ2 H2 ex;show match some ds[i]? with|none=>True|some none=>_|some (some d)=>_
 cases e:ds[i]? with
 |none=>exact⟨vs,h3,by rw[<-h4.length];exact List.getElem?_eq_none_iff.mp e⟩
 |some d=>
  obtain⟨v,hv1,hv2⟩:=h4.get e;refine⟨⟨vs,v,h3,hv1⟩,fun x H' y=>?_⟩;obtain⟨rfl,y⟩:=y;have:=y vs h3;rw[hv1]at this;cases this;exact⟨rfl,hv2⟩
theorem zxc(hK:T.K=X.K)(h:FE T X iter f):FI T X tg iter (yk6 f):=by
 intro pins s st H R I hw;refine yaa h pins s st H R I ?_;obtain⟨μ,ρ,σ,hE,hr,hp⟩:=hw;refine⟨μ,ρ,σ,hE,hr,hp.bind fun d σ1 μ1 v H1 _ e1 r1 q1 p1=>?_⟩;cases d with
 |tup ds=>
  rw[Rep]at q1;obtain⟨p,vs,rfl,h1,h2⟩:=q1;exact⟨p,rfl,.inr ⟨⟨vs,SqT.of h1⟩,yhc.here (R:=yca T) p1 r1 (zuu fun μ2 H2 ex=>⟨vs,SqT.of (ex.tup _ _ h1),yhi.mono ex _ _ h2⟩)⟩⟩
 |lst ds=>
  rw[Rep]at q1;obtain⟨p,vs,rfl,hn,h1,h2⟩:=q1;exact⟨p,rfl,.inl ⟨⟨vs,SqL.of h1⟩,yhc.here (R:=yca T) p1 r1 (zne fun μ2 H2 ex=>⟨vs,SqL.of (ex.keepN _ _ h1 hn).1,yhi.mono ex _ _ h2⟩)⟩⟩
 |scr ns=>
  rw[Rep]at q1;obtain⟨p,rfl,h1⟩:=q1;have hsc:∀ μ2 H2,Ext μ1 H1 μ2 H2->SqL X.K H2 p (ns.map V.int):=fun μ2 H2 ex=>by
   have h2:Rep T μ2 H2 (.scr ns) (.ref p):=Rep.mono ex _ _ (by rw[Rep];exact⟨p,rfl,h1⟩);rw[Rep]at h2;obtain⟨p',e',h3⟩:=h2;cases e';rw[<-hK];exact h3.seq
  exact⟨p,rfl,.inl ⟨⟨_,hsc _ _ (Ext.refl _ _)⟩,yhc.here (R:=yca T) p1 r1 (zne fun μ2 H2 ex=>⟨_,hsc μ2 H2 ex,zhw ns⟩)⟩⟩
 |ref n=>
  unfold yfz at p1;dsimp only at p1;cases el0:yee σ1 n with
  |none=>rw[el0]at p1;exact p1.elim
  |some xs=>
   rw[el0]at p1;obtain⟨a,vs,rfl,_,h1,h2⟩:=r1.lst q1 el0;refine⟨a,rfl,.inl ⟨⟨vs,SqL.of h1⟩,yhc.here (R:=yca T) p1 r1 fun μ2 H2 σ2 i ex r2=>?_⟩⟩;show match (yee σ2 n).map (fun xs=>xs[i]?)with|none=>True|some none=>_|some (some d)=>_
   cases el:yee σ2 n with
   |none=>trivial
   |some ys=>
    obtain⟨a',ws,ea,_,h3,h4⟩:=r2.lst (Rep.mono ex _ _ q1) el;cases ea;show match some (ys[i]?)with|none=>True|some none=>_|some (some d)=>_
    cases e:ys[i]? with
    |none=>exact⟨ws,SqL.of h3,by rw[<-h4.length];exact List.getElem?_eq_none_iff.mp e⟩
    |some d=>
     obtain⟨v,hv1,hv2⟩:=h4.get e;refine⟨⟨ws,v,SqL.of h3,hv1⟩,fun x H' y=>?_⟩;obtain⟨rfl,y⟩:=y;have:=y ws (SqL.of h3);rw[hv1]at this;cases this;exact⟨rfl,hv2⟩
 |_=>exact p1.elim
theorem zfa{n i:Nat}(h:i<n):(yas n)[i]?=some (.int i):=by simp[yas,h]
theorem zfb(n:Nat):(yas n).length=n:=by simp[yas]
theorem zj4{a:Expr}{p pos:Pos}(hgl:Gl X "range")(hm:X.mg "range" = none)(ha:FE T X a f)(hst:starEach [a] X.env=[(false,eval a X.env)]:=by rfl):FI T X tg (.Call (.Name "range" p) [a] [] pos) (yk5 f):=by
 intro pins s st H R I hw;refine zhr hgl hm (zsu ha zzv hst) hst pins s st H R I ?_;obtain⟨μ,ρ,σ,hE,hr,hp⟩:=hw;refine⟨μ,ρ,σ,hE,hr,hp.bind fun d σ1 μ1 v H1 _ e1 r1 q1 p1=>?_⟩;cases d with
 |int j=>
  rw[Rep]at q1;subst q1;unfold ykn at p1;dsimp only at p1;by_cases hj:zuc j=true
  ·rw[if_pos hj]at p1;simp only[zuc,zqo,Bool.and_eq_true,decide_eq_true_eq]at hj;refine⟨j,rfl,hj.1,hj.2,yhc.here (R:=yca T) p1 r1 fun μ2 H2 σ2 i ex r2=>?_⟩;show match some (yas j.toNat)[i]? with|none=>True|some none=>_|some (some d)=>_
   by_cases hi:i<j.toNat
   ·rw[zfa hi];refine⟨hi,fun x H' y=>?_⟩;obtain⟨rfl,rfl⟩:=y;exact⟨rfl,by rw[Rep,Int.zero_add]⟩
   ·rw[List.getElem?_eq_none_iff.mpr (by rw[zfb];omega)];exact Nat.not_lt.mp hi
  ·rw[if_neg hj]at p1;exact p1.elim
 |_=>exact p1.elim
end
def yeb(k:Ev->M Fl):Fl->M Fl
 | .nx ρ2=>k ρ2
 | .ct ρ2=>k ρ2
 | .bk ρ2=>ret (.nx ρ2)
 | .rt d=>ret (.rt d)
 | .xc ρ x=>ret (.xc ρ x)
def yjc(tg:D->Ev->Option Ev)(body:Ev->M Fl):List D->Ev->M Fl
 |[],ρ=>ret (.nx ρ)
 |d::ds,ρ=>match tg d ρ with
  |none=>bad
  |some ρ1=>bnd (body ρ1) (yeb (yjc tg body ds))
def yec(tg:D->Ev->Option Ev)(body:Ev->M Fl)(n:Nat):Nat->Nat->Ev->M Fl
 |0,_,_=>bad
 |k+1,i,ρ=>fun σ=>match yee σ n with
  |none=>.bad
  |some xs=>match xs[i]? with
   |none=>.ok (.nx ρ) σ
   |some d=>match tg d ρ with
    |none=>.bad
    |some ρ1=>bnd (body ρ1) (yeb (yec tg body n k (i+1))) σ
def yiq(tg:D->Ev->Option Ev)(body:Ev->M Fl)(ρ:Ev):Src->M Fl
 | .seq ds=>yjc tg body ds ρ
 | .lref n=>yec tg body n 1001 0 ρ
def ykv(src:Ev->M Src)(tg:D->Ev->Option Ev)(body:Ev->M Fl):Ev->M Fl:=fun ρ=>xs ρ (src ρ) (yiq tg body ρ)
section
variable{T:Tb}{X:Cx}
theorem znm{μ1:List Addr}{H1:Hp}{σ1:Sto}{fl:Fl}{gl:Gl2}{D:Ends}{k:Ev->M Fl}{N:St->Hp->Prop}(r1:Rel T μ1 H1 σ1)(q1:RFl T μ1 H1 fl gl)(p1:yhc T EN (RFl T) μ1 H1 (yeb k fl σ1) (ygx X D))
  (hN:∀ ρ2 st2,ygw T μ1 H1 ρ2 st2->yhc T EN (RFl T) μ1 H1 (k ρ2 σ1) (ygx X D)->N st2 H1):ygx X { D with nx:=N,ct:=N,bk:=D.nx } gl H1:=by
 cases fl with
 |nx ρ2=>cases gl with
  |nx st2=>exact hN ρ2 st2 q1 p1
  |_=>exact q1.elim
 |ct ρ2=>cases gl with
  |ct st2=>exact hN ρ2 st2 q1 p1
  |_=>exact q1.elim
 |bk ρ2=>cases gl with
  |bk st2=>have z:ygx X D (Gl2.nx st2) H1:=yhc.here (g:=Gl2.nx st2) (d:=Fl.nx ρ2) p1 r1 q1;exact z
  |_=>exact q1.elim
 |rt d2=>cases gl with
  |rt v2=>have z:ygx X D (Gl2.rt v2) H1:=yhc.here (g:=Gl2.rt v2) (d:=Fl.rt d2) p1 r1 q1;exact z
  |_=>exact q1.elim
 |xc ρ2 x=>cases gl with
  |xc st2 c fd2=>have z:ygx X D (Gl2.xc st2 c fd2) H1:=yhc.here (g:=Gl2.xc st2 c fd2) (d:=Fl.xc ρ2 x) p1 r1 q1;exact z
  |_=>exact q1.elim
variable{tgt iter:Expr}{body:List Stmt}{src:Ev->M Src}{t:D->Ev->Option Ev}{g:Ev->M Fl}{pos:Pos}
theorem zxp(hp:PassesOwn (model X.prog X.w) X.A X.env X.xe)(hc:X.calm=true)(hi:FI T X tgt iter src)(hg:FG T X tgt t)(hb:FSs T X body g)
  (hs:∀ x,foldedSetIterable iter X.env x=pure x:=by intro _;rfl):FS T X (.For tgt iter body [] pos) (ykv src t g):=by
 intro pins s st H D I hq;refine yaj hp hc hi hg hb hs pins s st H D I ?_;obtain⟨μ,ρ,σ,hE,hr,hp⟩:=hq;refine⟨μ,ρ,σ,hE,hr,hp.xs hE fun src σ1 μ1 J H1 _ e1 r1 q1 p1=>?_⟩;cases src with
 |seq ds=>
  have p1':yhc T EN (RFl T) μ1 H1 (yjc t g ds ρ σ1) (ygx X D):=p1;refine⟨fun i m st2 H2=>m=ds.length - i/\∃ μ ρ σ,Ext μ1 H1 μ H2/\ygw T μ H2 ρ st2/\Rel T μ H2 σ/\yhc T EN (RFl T) μ H2 (yjc t g (ds.drop i) ρ σ) (ygx X D),⟨ds.length,by simp,μ1,ρ,σ1,Ext.refl _ _,hE.mono e1,r1,by simpa using p1'⟩,?_⟩;rintro i m st2 H2 ⟨rfl,μ2,ρ2,σ2,ex,hE2,r2,p2⟩;have so:=q1 μ2 H2 σ2 i ex r2;have so':match (some ds[i]?:Option (Option L4.D))with|none=>True|some none=>J.stop i H2|some (some d)=>J.go i H2/\∀ x H',J.yld i H2 x H'->H'=H2/\Rep T μ2 H2 d x:=so
  cases ei:ds[i]? with
  |none=>
   rw[ei]at so';rw[List.drop_eq_nil_of_le (List.getElem?_eq_none_iff.mp ei)]at p2;exact .inl ⟨so',yhc.here (g:=Gl2.nx st2) p2 r2 hE2⟩
  |some d=>
   rw[ei]at so';obtain⟨hl,ed⟩:=List.getElem?_eq_some_iff.mp ei;have hd:ds.drop i=d::ds.drop (i+1):=by rw[<-ed];exact(List.drop_eq_getElem_cons hl)
   rw[hd]at p2;unfold yjc at p2;refine .inr ⟨so'.1,fun st3 H3=>∃ μ ρ σ,Ext μ1 H1 μ H3/\ygw T μ H3 ρ st3/\Rel T μ H3 σ/\yhc T EN (RFl T) μ H3 (yjc t g (ds.drop (i+1)) ρ σ) (ygx X D),fun st3 H3 h=>⟨ds.length - (i+1),by omega,rfl,h⟩,fun x H3 y=>?_⟩;obtain⟨rfl,hx⟩:=so'.2 x H3 y;cases ht:t d ρ2 with
   |none=>rw[ht]at p2;exact p2.elim
   |some ρ3=>
    rw[ht]at p2;exact⟨μ2,σ2,ρ2,d,ρ3,hE2,r2,hx,ht,fun st3 hE3=>⟨μ2,ρ3,σ2,hE3,r2,p2.bind fun fl σ4 μ4 gl H4 _ e4 r4 q4 p4=>znm r4 q4 p4 fun ρ5 st5 hE5 p5=>⟨μ4,ρ5,σ4,ex.trans e4,hE5,r4,p5⟩⟩⟩
 |lref n=>
  have p1':yhc T EN (RFl T) μ1 H1 (yec t g n 1001 0 ρ σ1) (ygx X D):=p1;refine⟨fun i m st2 H2=>∃ μ ρ σ,Ext μ1 H1 μ H2/\ygw T μ H2 ρ st2/\Rel T μ H2 σ/\yhc T EN (RFl T) μ H2 (yec t g n m i ρ σ) (ygx X D),⟨1001,μ1,ρ,σ1,Ext.refl _ _,hE.mono e1,r1,p1'⟩,?_⟩;rintro i m st2 H2 ⟨μ2,ρ2,σ2,ex,hE2,r2,p2⟩;cases m with
  |zero=>exact p2.elim
  |succ m=>
   unfold yec at p2;have so:=q1 μ2 H2 σ2 i ex r2;have so':match ((yee σ2 n).map fun xs=>xs[i]?:Option (Option L4.D))with|none=>True|some none=>J.stop i H2|some (some d)=>J.go i H2/\∀ x H',J.yld i H2 x H'->H'=H2/\Rep T μ2 H2 d x:=so
   cases el:yee σ2 n with
   |none=>simp only[el]at p2;exact p2.elim
   |some xs=>
    simp only[el]at p2 so';cases ei:xs[i]? with
    |none=>
     simp only[ei,Option.map_some]at p2 so';exact .inl ⟨so',yhc.here (g:=Gl2.nx st2) p2 r2 hE2⟩
    |some d=>
     simp only[ei,Option.map_some]at p2 so';refine .inr ⟨so'.1,fun st3 H3=>∃ μ ρ σ,Ext μ1 H1 μ H3/\ygw T μ H3 ρ st3/\Rel T μ H3 σ/\yhc T EN (RFl T) μ H3 (yec t g n m (i+1) ρ σ) (ygx X D),fun st3 H3 h=>⟨m,Nat.lt_succ_self _,h⟩,fun x H3 y=>?_⟩;obtain⟨rfl,hx⟩:=so'.2 x H3 y;cases ht:t d ρ2 with
     |none=>simp only[ht]at p2;exact p2.elim
     |some ρ3=>
      simp only[ht]at p2;exact⟨μ2,σ2,ρ2,d,ρ3,hE2,r2,hx,ht,fun st3 hE3=>⟨μ2,ρ3,σ2,hE3,r2,p2.bind fun fl σ4 μ4 gl H4 _ e4 r4 q4 p4=>znm r4 q4 p4 fun ρ5 st5 hE5 p5=>⟨μ4,ρ5,σ4,ex.trans e4,hE5,r4,p5⟩⟩⟩
end
mutual
def cl:D->Bool
 | .tup xs=>clL xs
 | .lst xs=>clL xs
 | .dic _ xs=>clL xs
 | .obj _ _ xs=>clL xs
 | .ref _=>false
 | .non=>true
 | .bl _=>true
 | .int _=>true
 | .str _=>true
 | .scr _=>true
 | .exn _=>true
def clL:List D->Bool
 |[]=>true
 |d::ds=>cl d && clL ds
end
def fzL(f:D->Option D):List D->Option (List D)
 |[]=>some []
 |d::ds=>match f d,fzL f ds with
  |some x,some xs=>some (x::xs)
  |_,_=>none
def fz(k:Nat)(σ:Sto):Nat->D->Option D
 |0,d=>if cl d=true then some d else match d with
  | .ref n=>if n<k then some (.ref n)else none
  |_=>none
 |m+1,d=>if cl d=true then some d else match d with
  | .ref n=>if n<k then some (.ref n)else match σ[n]? with
   |some (.lst xs)=>(fzL (fz k σ m) xs).map .lst
   |some (.dic kvs)=>(fzL (fz k σ m) (kvs.map (·.2))).map (.dic (kvs.map (·.1)))
   |some (.ins c fs)=>(fzL (fz k σ m) (fs.map (·.2))).map (.obj c (fs.map (·.1)))
   |none=>none
  | .tup xs=>(fzL (fz k σ m) xs).map .tup
  | .lst xs=>(fzL (fz k σ m) xs).map .lst
  | .dic ks xs=>(fzL (fz k σ m) xs).map (.dic ks)
  | .obj c ns xs=>(fzL (fz k σ m) xs).map (.obj c ns)
  |_=>none
open Classical in
noncomputable def yis(σ:Sto):Out D->Out D
 | .ok d σ'=>if σ'.take σ.length=σ then (match fz σ.length σ' 6 d with
  |some d'=>.ok d' σ
  |none=>.bad)else .bad
 | .ex x σ'=>if σ'.take σ.length=σ then .ex x σ else .bad
 | .bad=>.bad
noncomputable def frz(f:M D):M D:=fun σ=>yis σ (f σ)
section
variable{T:Tb}{μ μ':List Addr}{H H':Hp}{σ σ':Sto}
mutual
theorem zow(e:∃ r,μ'=μ++r):∀ (d:D) (v:V),cl d=true->Rep T μ' H d v->Rep T μ H d v
 | .non,v,_,h=>by simpa [Rep]using h
 | .bl b,v,_,h=>by simpa [Rep]using h
 | .int i,v,_,h=>by simpa [Rep]using h
 | .str x,v,_,h=>by simpa [Rep]using h
 | .tup ds,v,c,h=>by
  rw[Rep]at h ⊢;obtain⟨p,vs,h1,h2,h3⟩:=h;exact⟨p,vs,h1,h2,zi5 e ds vs (by simpa [cl]using c) h3⟩
 | .scr ns,v,_,h=>by rw[Rep]at h ⊢;exact h
 | .ref n,v,c,h=>by simp[cl]at c
 | .lst ds,v,c,h=>by
  rw[Rep]at h ⊢;obtain⟨a,vs,h1,h2,h3,h4⟩:=h;exact⟨a,vs,h1,fun z=>h2 (by obtain⟨r,rfl⟩:=e;exact List.mem_append_left _ z),h3,zi5 e ds vs (by simpa [cl]using c) h4⟩
 | .dic ks ds,v,c,h=>by
  rw[Rep]at h ⊢;obtain⟨a,vs,h1,h2,h3,h5,h4⟩:=h;exact⟨a,vs,h1,fun z=>h2 (by obtain⟨r,rfl⟩:=e;exact List.mem_append_left _ z),h3,h5,zi5 e ds _ (by simpa [cl]using c) h4⟩
 | .obj k ns ds,v,c,h=>by
  rw[Rep]at h ⊢;obtain⟨a,dx,vs,h1,h2,h3,h5,h4⟩:=h;exact⟨a,dx,vs,h1,fun z=>h2 (by obtain⟨r,rfl⟩:=e;exact List.mem_append_left _ z),h3,h5,zi5 e ds _ (by simpa [cl]using c) h4⟩
 | .exn k,v,_,h=>by
  rw[Rep]at h ⊢;obtain⟨a,dd,h1,h2,h3,h4⟩:=h;exact⟨a,dd,h1,fun z=>h2 (by obtain⟨r,rfl⟩:=e;exact List.mem_append_left _ z),h3,fun n q=>let ⟨dN,q1,q2,q3⟩:=h4 n q;⟨dN,q1,fun z=>q2 (by obtain⟨r,rfl⟩:=e;exact List.mem_append_left _ z),q3⟩⟩
theorem zi5(e:∃ r,μ'=μ++r):∀ (ds:List D) (vs:List V),clL ds=true->yhi T μ' H ds vs->yhi T μ H ds vs
 |[],vs,_,h=>by simpa [yhi]using h
 |d::ds,vs,c,h=>by
  rw[yhi]at h ⊢;obtain⟨v,r,h1,h2,h3⟩:=h;have c':cl d=true/\clL ds=true:=by simpa [clL,Bool.and_eq_true]using c
  exact⟨v,r,h1,zow e d v c'.1 h2,zi5 e ds r c'.2 h3⟩
end
mutual
theorem Rep.down(e:∃ r,μ'=μ++r):∀ (d:D) (v0 v:V),Rep T μ H d v0->Rep T μ' H' d v->Rep T μ H' d v
 | .non,v0,v,_,h=>by simpa [Rep]using h
 | .bl b,v0,v,_,h=>by simpa [Rep]using h
 | .int i,v0,v,_,h=>by simpa [Rep]using h
 | .str x,v0,v,_,h=>by simpa [Rep]using h
 | .tup ds,v0,v,c,h=>by
  rw[Rep]at h c ⊢;obtain⟨p,vs,h1,h2,h3⟩:=h;obtain⟨p0,vs0,_,_,c3⟩:=c;exact⟨p,vs,h1,h2,yhi.down e ds vs0 vs c3 h3⟩
 | .scr ns,v0,v,_,h=>by rw[Rep]at h ⊢;exact h
 | .ref n,v0,v,c,h=>by
  rw[Rep]at h c ⊢;obtain⟨a,h1,h2⟩:=h;obtain⟨b,_,c2⟩:=c;refine⟨a,h1,?_⟩;obtain⟨r,rfl⟩:=e;rw[List.getElem?_append_left (List.getElem?_eq_some_iff.mp c2).1]at h2;exact h2
 | .lst ds,v0,v,c,h=>by
  rw[Rep]at h c ⊢;obtain⟨a,vs,h1,h2,h3,h4⟩:=h;obtain⟨_,vs0,_,_,_,c4⟩:=c;exact⟨a,vs,h1,fun z=>h2 (by obtain⟨r,rfl⟩:=e;exact List.mem_append_left _ z),h3,yhi.down e ds vs0 vs c4 h4⟩
 | .dic ks ds,v0,v,c,h=>by
  rw[Rep]at h c ⊢;obtain⟨a,vs,h1,h2,h3,h5,h4⟩:=h;obtain⟨_,vs0,_,_,_,_,c4⟩:=c;exact⟨a,vs,h1,fun z=>h2 (by obtain⟨r,rfl⟩:=e;exact List.mem_append_left _ z),h3,h5,yhi.down e ds _ _ c4 h4⟩
 | .obj k ns ds,v0,v,c,h=>by
  rw[Rep]at h c ⊢;obtain⟨a,dx,vs,h1,h2,h3,h5,h4⟩:=h;obtain⟨_,_,vs0,_,_,_,_,c4⟩:=c;exact⟨a,dx,vs,h1,fun z=>h2 (by obtain⟨r,rfl⟩:=e;exact List.mem_append_left _ z),h3,h5,yhi.down e ds _ _ c4 h4⟩
 | .exn k,v0,v,_,h=>by
  rw[Rep]at h ⊢;obtain⟨a,dd,h1,h2,h3,h4⟩:=h;exact⟨a,dd,h1,fun z=>h2 (by obtain⟨r,rfl⟩:=e;exact List.mem_append_left _ z),h3,fun n q=>let ⟨dN,q1,q2,q3⟩:=h4 n q;⟨dN,q1,fun z=>q2 (by obtain⟨r,rfl⟩:=e;exact List.mem_append_left _ z),q3⟩⟩
theorem yhi.down(e:∃ r,μ'=μ++r):∀ (ds:List D) (vs0 vs:List V),yhi T μ H ds vs0->yhi T μ' H' ds vs->yhi T μ H' ds vs
 |[],vs0,vs,_,h=>by simpa [yhi]using h
 |d::ds,vs0,vs,c,h=>by
  rw[yhi]at h c ⊢;obtain⟨v,r,h1,h2,h3⟩:=h;obtain⟨v0,r0,_,c2,c3⟩:=c;exact⟨v,r,h1,Rep.down e d v0 v c2 h2,yhi.down e ds r0 r c3 h3⟩
end
theorem zd3{α:Type}(e:∃ r,μ'=μ++r):∀ {xs:List (α × D)} {ys zs:List (α × V)},Paired (fun(p:α × D) (q:α × V)=>p.1=q.1/\Rep T μ H p.2 q.2) xs zs->Paired (fun(p:α × D) (q:α × V)=>p.1=q.1/\Rep T μ' H' p.2 q.2) xs ys->Paired (fun(p:α × D) (q:α × V)=>p.1=q.1/\Rep T μ H' p.2 q.2) xs ys
 |_,_,_,.nil,.nil=>.nil
 |_,_,_,.cons a b,.cons c d=>.cons ⟨c.1,Rep.down e _ _ _ a.2 c.2⟩ (zd3 e b d)
theorem ObR.down(e:∃ r,μ'=μ++r){a:Addr}:∀ {o:Ob},ObR T μ H a o->ObR T μ' H' a o->ObR T μ H' a o
 | .lst ds,⟨_,_,c⟩,⟨vs,h,r⟩=>⟨vs,h,yhi.down e _ _ _ c r⟩
 | .dic kvs,⟨_,_,c⟩,⟨vs,h,r⟩=>⟨vs,h,zd3 e c r⟩
 | .ins c fs,⟨_,_,_,c'⟩,⟨dx,vs,h,r⟩=>⟨dx,vs,h,zd3 e c' r⟩
theorem Rel.down(r0:Rel T μ H σ)(r:Rel T μ' H' σ')(e:Ext μ H μ' H')(ht:σ'.take σ.length=σ):Rel T μ H' σ/\Ext μ H μ H':=by
 refine⟨⟨r0.len,r0.nd,fun n o h=>?_,r.tb.sub fun b hb=>by obtain⟨z,rfl⟩:=e.pre;exact List.mem_append_left _ hb⟩,⟨⟨[],by simp⟩,e.tup,e.frz,fun p o h n=>⟨(e.keep p o h n).1,n⟩⟩⟩;obtain⟨a,h1,h2⟩:=r0.obs n o h;have h':σ'[n]?=some o:=by
  have hl:=(List.getElem?_eq_some_iff.mp h).1;rw[<-ht,List.getElem?_take_of_lt hl]at h;exact h
 obtain⟨b,h3,h4⟩:=r.obs n o h';have eb:=e.get h1;rw[h3]at eb;cases eb;exact⟨a,h1,h2.down e.pre h4⟩
theorem zfc{α:Type}:∀ {xs:List (α × D)} {ys:List (α × V)},Paired (fun(p:α × D) (q:α × V)=>p.1=q.1/\Rep T μ H p.2 q.2) xs ys->ys.map (·.1)=xs.map (·.1)/\yhi T μ H (xs.map (·.2)) (ys.map (·.2))
 |_,_,.nil=>⟨rfl,yhi.nil⟩
 |_,_,.cons a b=>by
  obtain⟨h1,h2⟩:=zfc b;exact⟨by simp[h1,a.1],yhi.cons a.2 h2⟩
theorem zqg{f:D->Option D}(hf:∀ d d' v,f d=some d'->Rep T μ' H d v->Rep T μ H d' v):∀ (ds ds':List D) (vs:List V),fzL f ds=some ds'->yhi T μ' H ds vs->yhi T μ H ds' vs
 |[],ds',vs,h,r=>by cases h;simpa [yhi]using r
 |d::ds,ds',vs,h,r=>by
  unfold fzL at h;cases e1:f d with
  |none=>rw[e1]at h;cases h
  |some x=>
   cases e2:fzL f ds with
   |none=>rw[e1,e2]at h;cases h
   |some xs=>
    rw[e1,e2]at h;cases h;rw[yhi]at r;obtain⟨v,w,rfl,h2,h3⟩:=r;exact yhi.cons (hf d x v e1 h2) (zqg hf ds xs w e2 h3)
theorem zxz(e:∃ r,μ'=μ++r)(r:Rel T μ' H σ'):∀ (m:Nat) (d d':D) (v:V),fz μ.length σ' m d=some d'->Rep T μ' H d v->Rep T μ H d' v:=by
 have old:∀ n v,n<μ.length->Rep T μ' H (.ref n) v->Rep T μ H (.ref n) v:=fun n v hn h=>by
  rw[Rep]at h ⊢;obtain⟨a,h1,h2⟩:=h;obtain⟨q,rfl⟩:=e;rw[List.getElem?_append_left hn]at h2;exact⟨a,h1,h2⟩
 intro m;induction m with
 |zero=>
  intro d d' v h hr;unfold fz at h;by_cases hc:cl d=true
  ·rw[if_pos hc]at h;cases h;exact zow e _ _ hc hr
  ·rw[if_neg hc]at h;cases d with
   |ref n=>
    dsimp only at h;by_cases hn:n<μ.length
    ·rw[if_pos hn]at h;cases h;exact old n v hn hr
    ·rw[if_neg hn]at h;cases h
   |_=>cases h
 |succ m ih=>
  intro d d' v h hr;unfold fz at h;by_cases hc:cl d=true
  ·rw[if_pos hc]at h;cases h;exact zow e _ _ hc hr
  ·rw[if_neg hc]at h;have go:=zqg (T:=T) (μ:=μ) (μ':=μ') (H:=H) (f:=fz μ.length σ' m) (fun d d' v a b=>ih d d' v a b);cases d with
   |ref n=>
    dsimp only at h;by_cases hn:n<μ.length
    ·rw[if_pos hn]at h;cases h;exact old n v hn hr
    ·rw[if_neg hn]at h;cases es:σ'[n]? with
     |none=>rw[es]at h;cases h
     |some o=>
      rw[es]at h;obtain⟨a,rfl,ha,hob⟩:=r.at hr es;have out:a ∉ μ:=fun z=>by
       obtain⟨i,hi⟩:=List.getElem?_of_mem z;obtain⟨q,rfl⟩:=e;have hl:=(List.getElem?_eq_some_iff.mp hi).1;have:=zlu r.nd (i:=i) (j:=n) (by rw[List.getElem?_append_left hl];exact hi) ha;omega
      cases o with
      |lst xs=>
       obtain⟨ys,h1,h2⟩:=Option.map_eq_some_iff.mp h;subst h2;obtain⟨vs,h3,h4⟩:=hob;rw[Rep];exact⟨a,vs,rfl,out,h3,go xs ys vs h1 h4⟩
      |dic kvs=>
       obtain⟨ys,h1,h2⟩:=Option.map_eq_some_iff.mp h;subst h2;obtain⟨vs,h3,h4⟩:=hob;obtain⟨h5,h6⟩:=zfc h4;rw[Rep];exact⟨a,vs,rfl,out,(.inl h3),h5,go _ ys _ h1 h6⟩
      |ins c fs=>
       obtain⟨ys,h1,h2⟩:=Option.map_eq_some_iff.mp h;subst h2;obtain⟨dx,vs,h3,h4⟩:=hob;obtain⟨h5,h6⟩:=zfc h4;rw[Rep];exact⟨a,dx,vs,rfl,out,h3,h5,go _ ys _ h1 h6⟩
   |tup xs=>
    obtain⟨ys,h1,h2⟩:=Option.map_eq_some_iff.mp h;subst h2;rw[Rep]at hr ⊢;obtain⟨p,vs,e1,e2,e3⟩:=hr;exact⟨p,vs,e1,e2,go xs ys vs h1 e3⟩
   |lst xs=>
    obtain⟨ys,h1,h2⟩:=Option.map_eq_some_iff.mp h;subst h2;rw[Rep]at hr ⊢;obtain⟨p,vs,e1,e0,e2,e3⟩:=hr;exact⟨p,vs,e1,fun z=>e0 (by obtain⟨r,rfl⟩:=e;exact List.mem_append_left _ z),e2,go xs ys vs h1 e3⟩
   |dic ks xs=>
    obtain⟨ys,h1,h2⟩:=Option.map_eq_some_iff.mp h;subst h2;rw[Rep]at hr ⊢;obtain⟨p,vs,e1,e0,e2,e4,e3⟩:=hr;exact⟨p,vs,e1,fun z=>e0 (by obtain⟨r,rfl⟩:=e;exact List.mem_append_left _ z),e2,e4,go xs ys _ h1 e3⟩
   |obj c ks xs=>
    obtain⟨ys,h1,h2⟩:=Option.map_eq_some_iff.mp h;subst h2;rw[Rep]at hr ⊢;obtain⟨p,dx,vs,e1,e0,e2,e4,e3⟩:=hr;exact⟨p,dx,vs,e1,fun z=>e0 (by obtain⟨r,rfl⟩:=e;exact List.mem_append_left _ z),e2,e4,go xs ys _ h1 e3⟩
   |_=>cases h
theorem yhc.frz{E:XK}{f:M D}{Q:V->Hp->Prop}(r:Rel T μ H σ)(h:yhc T E (Rep T) μ H (frz f σ) Q):yhc T E (Rep T) μ H (f σ) Q:=by
 unfold L4.frz at h;cases e:f σ with
 |bad=>rw[e]at h;exact h
 |ex x σ1=>
  rw[e]at h;unfold yis at h;dsimp only at h;by_cases ht:σ1.take σ.length=σ
  ·rw[if_pos ht]at h;intro μ1 H1 e1 r1;obtain⟨r2,e2⟩:=Rel.down r r1 e1 ht;exact h μ H1 e2 r2
  ·rw[if_neg ht]at h;exact h.elim
 |ok d σ1=>
  rw[e]at h;unfold yis at h;dsimp only at h;by_cases ht:σ1.take σ.length=σ
  ·rw[if_pos ht]at h;cases ef:fz σ.length σ1 6 d with
   |none=>rw[ef]at h;exact h.elim
   |some d'=>
    rw[ef]at h;intro μ1 v H1 e1 r1 p1;obtain⟨r2,e2⟩:=Rel.down r r1 e1 ht;exact h μ v H1 e2 r2 (zxz e1.pre r1 6 d d' v (by rw[r.len];exact ef) p1)
  ·rw[if_neg ht]at h;exact h.elim
end
noncomputable def yie(f:Ev->M D):Ev->M D:=fun ρ=>frz (f ρ)
theorem zwz{T:Tb}{X:Cx}{e:Expr}{f:Ev->M D}(h:FE T X e f):FE T X e (yie f):=by
 intro pins s st H Q I hw;obtain⟨μ,ρ,σ,hE,hr,hp⟩:=hw;exact h pins s st H Q I ⟨μ,ρ,σ,hE,hr,yhc.frz hr hp⟩
end L4
namespace L4
open PySem PySem.Spec PyProof.Rows L2
def DK(h h':Heap):Prop:=∀ (a:Nat) o,h.objs[a]?=some o->∃ o':Obj,h'.objs[a]?=some o'/\o'.dict=o.dict
theorem DK.refl(h:Heap):DK h h:=fun _ o e=>⟨o,e,rfl⟩
theorem DK.trans{h1 h2 h3:Heap}(x:DK h1 h2)(y:DK h2 h3):DK h1 h3:=fun a o e=>by
 obtain⟨o',e',q⟩:=x a o e;obtain⟨o'',e'',q'⟩:=y a o' e';exact⟨o'',e'',q'.trans q⟩
theorem DK.push(h:Heap)(o:Obj):DK h (h.push o):=fun a u e=>by
 obtain⟨objs,l⟩:=h;have e:objs[a]?=some u:=e;have hl:=(Array.getElem?_eq_some_iff.mp e).1;refine⟨u,?_,rfl⟩;show (objs.push o)[a]?=some u;rw[Array.getElem?_push_lt hl];exact(Array.getElem?_eq_getElem hl).symm.trans e
theorem DK.update(h:Heap)(b:Addr){f:Obj->Obj}(hf:∀ o,(f o).dict=o.dict):DK h (h.update b f):=fun a u e=>by
 obtain⟨objs,l⟩:=h;have e:objs[a]?=some u:=e;show ∃ o':Obj,(objs.modify b f)[a]?=some o'/\_;rw[Array.getElem?_modify];by_cases hb:b=a
 ·rw[if_pos hb,e];exact⟨f u,rfl,hf u⟩
 ·rw[if_neg hb];exact⟨u,e,rfl⟩
theorem DK.get{h h':Heap}(x:DK h h'){a:Addr}{o o':Obj}(e:h.get? a=some o)(e':h'.get? a=some o'):o'.dict=o.dict:=by
 obtain⟨u,q1,q2⟩:=x a o ((Heap.get?_eq_some _ _ _).1 e).1;have:=((Heap.get?_eq_some _ _ _).1 e').1;have z:some u=some o':=q1.symm.trans this;cases z;exact q2
structure KD{α:Type}(t:Sem α):Prop where
 out:∀ (M:Model) (Γ:PySem.Ctx) (Q:α->Pos->Shared->Prop) (E:Value->Pos->Shared->Prop) (p:Pos) (s:Shared),Sem.wp M Γ t Q E p s->Sem.wp M Γ t (fun a p' s'=>Q a p' s'/\DK s.heap s'.heap) (fun e p' s'=>E e p' s'/\DK s.heap s'.heap) p s
namespace KD
variable{α β:Type}
theorem pur(a:α):KD (Pure.pure a:Sem α):=⟨fun _ _ _ _ _ s h=>⟨h,.refl _⟩⟩
theorem uns(w:String):KD (PySem.unsupported w:Sem α):=⟨fun _ _ _ _ _ _ h=>h⟩
theorem bnd{m:Sem α}{f:α->Sem β}(hm:KD m)(hf:∀ a,KD (f a)):KD (m >>= f):=⟨fun M Γ Q E p s h=>by
 rw[Sem.wp_bind']at h ⊢;refine Sem.wp_mono M Γ m (fun a p' s' z=>?_) (fun _ _ _ z=>z) p s (hm.out M Γ _ _ p s h);exact Sem.wp_mono M Γ (f a) (fun _ _ _ q=>⟨q.1,z.2.trans q.2⟩) (fun _ _ _ q=>⟨q.1,z.2.trans q.2⟩) p' s' ((hf a).out M Γ _ _ p' s' z.1)⟩
theorem ite'{c:Prop}[Decidable c]{t u:Sem α}(ht:KD t)(hu:KD u):KD (if c then t else u):=by split<;>assumption
theorem ld(a:Addr):KD (PySem.load a):=⟨fun _ _ _ _ _ _ h=>by obtain⟨o,ho,h⟩:=h;exact⟨o,ho,h,.refl _⟩⟩
theorem upd(a:Addr){f:Obj->Obj}(hf:∀ o,(f o).dict=o.dict):KD (PySem.update a f):=⟨fun _ _ _ _ _ _ h=>⟨h.1,h.2,.update _ _ hf⟩⟩
theorem stk:KD PySem.stack:=⟨fun M Γ Q E p s h=>by
 unfold PySem.stack at h ⊢;rw[Sem.wp_stack]at h ⊢;exact⟨h,.refl _⟩⟩
theorem alc(o:Obj):KD (PySem.alloc o):=⟨fun _ _ _ _ _ _ h=>⟨h,.push _ _⟩⟩
theorem fld(v:Value)(i:Nat):KD (PySem.field v i):=⟨fun _ Γ Q E p s h=>by
 rw[wp_field_iff]at h ⊢;obtain⟨a,o,vs,x,e1,e2,e3,e4,h⟩:=h;exact⟨a,o,vs,x,e1,e2,e3,e4,h,.refl _⟩⟩
theorem set(v:Value)(i:Nat)(x:Value):KD (PySem.setField v i x):=⟨fun _ Γ Q E p s h=>by
 rw[wp_setField_iff]at h ⊢;obtain⟨a,o,vs,e1,e2,e3,e4,h⟩:=h;exact⟨a,o,vs,e1,e2,e3,e4,h,.update _ _ fun o=>by obtain⟨c,d,dt,sl⟩:=o;cases dt<;>rfl⟩⟩
end KD
theorem zyb(env:Env)(l:List Env):KD (behindIsImport env l):=by unfold behindIsImport;(repeat' with_reducible first|assumption|exact KD.pur _|exact KD.uns _|exact KD.fld _ _|exact KD.set _ _ _|exact KD.ld _|exact KD.upd _ (fun _=>rfl)|exact KD.stk|exact KD.alc _|apply KD.ite'|apply KD.bnd|intro _|split)
theorem zyd:KD underTheClaimsCaller:=by unfold underTheClaimsCaller;(repeat' with_reducible first|assumption|exact KD.pur _|exact KD.uns _|exact KD.fld _ _|exact KD.set _ _ _|exact KD.ld _|exact KD.upd _ (fun _=>rfl)|exact KD.stk|exact KD.alc _|apply KD.ite'|apply KD.bnd|intro _|split)
theorem zq0(env:Env)(i:Bool)(l:List Env):KD (keptBack env i l):=by
 have:=zyd;cases l<;>unfold keptBack<;>(repeat' with_reducible first|assumption|exact KD.pur _|exact KD.uns _|exact KD.fld _ _|exact KD.set _ _ _|exact KD.ld _|exact KD.upd _ (fun _=>rfl)|exact KD.stk|exact KD.alc _|apply KD.ite'|apply KD.bnd|intro _|split)
theorem zk1:∀ l:List Env,KD (readyFrames l)
 |[]=>KD.pur _
 |env::l=>by
  have ih:=zk1 l;have h1:=zyb env l;have h2:=fun i=>zq0 env i l;unfold readyFrames
  (repeat' with_reducible first|assumption|exact KD.pur _|exact KD.uns _|exact KD.fld _ _|exact KD.set _ _ _|exact KD.ld _|exact KD.upd _ (fun _=>rfl)|exact KD.stk|exact KD.alc _|apply KD.ite'|apply KD.bnd|intro _|split)
  all_goals first|exact h2 _|skip
theorem zq2(l:List Env):KD (frameObject l):=by
 cases l with
 |nil=>exact KD.pur _
 |cons env l=>
  have:=zk1 (env::l);unfold frameObject
  (repeat' with_reducible first|assumption|exact KD.pur _|exact KD.uns _|exact KD.fld _ _|exact KD.set _ _ _|exact KD.ld _|exact KD.upd _ (fun _=>rfl)|exact KD.stk|exact KD.alc _|apply KD.ite'|apply KD.bnd|intro _|split)
theorem zq1:KD frameEnvs:=by unfold frameEnvs;(repeat' with_reducible first|assumption|exact KD.pur _|exact KD.uns _|exact KD.fld _ _|exact KD.set _ _ _|exact KD.ld _|exact KD.upd _ (fun _=>rfl)|exact KD.stk|exact KD.alc _|apply KD.ite'|apply KD.bnd|intro _|split)
theorem zkz(env:Env):KD (PySem.frameOf env):=by
 have h1:=zq1;have h2:=zq2;unfold PySem.frameOf
 (repeat' with_reducible first|assumption|exact KD.pur _|exact KD.uns _|exact KD.fld _ _|exact KD.set _ _ _|exact KD.ld _|exact KD.upd _ (fun _=>rfl)|exact KD.stk|exact KD.alc _|apply KD.ite'|apply KD.bnd|intro _|split)
 all_goals first|exact h2 _|skip
theorem zk0(f:Addr)(b:Bool):KD (entryPlaceOf f b):=by unfold entryPlaceOf;(repeat' with_reducible first|assumption|exact KD.pur _|exact KD.uns _|exact KD.fld _ _|exact KD.set _ _ _|exact KD.ld _|exact KD.upd _ (fun _=>rfl)|exact KD.stk|exact KD.alc _|apply KD.ite'|apply KD.bnd|intro _|split)
theorem zky(a b c d e:Value)(l:List Value):KD (EntryCells.newEntry a b c d e l):=by
 unfold EntryCells.newEntry newFields newObj newObjAsIs;dsimp only
 (repeat' with_reducible first|assumption|exact KD.pur _|exact KD.uns _|exact KD.fld _ _|exact KD.set _ _ _|exact KD.ld _|exact KD.upd _ (fun _=>rfl)|exact KD.stk|exact KD.alc _|apply KD.ite'|apply KD.bnd|intro _|split)
theorem zq3(e:Value)(env:Env):KD (noteFrame e env):=by
 have h1:=zkz env;have h2:=zk0;have h3:=zky;unfold noteFrame
 (repeat' with_reducible first|assumption|exact KD.pur _|exact KD.uns _|exact KD.fld _ _|exact KD.set _ _ _|exact KD.ld _|exact KD.upd _ (fun _=>rfl)|exact KD.stk|exact KD.alc _|apply KD.ite'|apply KD.bnd|intro _|split)
 all_goals first|exact h2 _ _|exact h3 _ _ _ _ _ _|skip
theorem zgw(e:Value)(f:Option Addr):KD (setFlight e f):=by unfold setFlight;(repeat' with_reducible first|assumption|exact KD.pur _|exact KD.uns _|exact KD.fld _ _|exact KD.set _ _ _|exact KD.ld _|exact KD.upd _ (fun _=>rfl)|exact KD.stk|exact KD.alc _|apply KD.ite'|apply KD.bnd|intro _|split)
theorem ygn{α:Type}{M:Model}{A:Around}{t:Sem α}{Q:α->Shared->Prop}{E:Value->Shared->Prop}{s:Shared}(k:KD t)(h:wpAny M A t Q E s):wpAny M A t (fun a s'=>Q a s'/\DK s.heap s'.heap) E s:=
 fun Γ p hΓ=>Sem.wp_mono M Γ t (fun _ _ _ z=>z) (fun _ _ _ z=>z.1) p s (k.out M Γ _ _ p s (h Γ p hΓ))
section
variable{P:Program}{w:World}{H H':Hp}{h h':Heap}{a:Addr}{o:HO}
theorem zdy(x:yb3 P w H h a o):∃ u,h.get? a=some u:=by
 cases o with
 |lst xs=>obtain⟨_,_,_,_,e⟩:=x;exact⟨_,e⟩
 |tup xs=>obtain⟨_,_,_,ob,e,_⟩:=x;exact⟨_,e⟩
 |dK kvs=>obtain⟨_,_,_,_,o,_,_,e,_⟩:=x;exact⟨_,e⟩
 |dT kvs=>obtain⟨_,_,_,_,o,_,_,e,_⟩:=x;exact⟨_,e⟩
 |set S n=>obtain⟨o,_,_,_,e,_⟩:=x;exact⟨_,e⟩
 |ins C dx fs=>obtain⟨_,_,_,e,_⟩:=x;exact⟨_,e⟩
 |own y=>obtain⟨_,e⟩:=x;exact⟨_,e⟩
 |xd fs=>obtain⟨_,⟨_,_,_,e,_⟩,_⟩:=x;exact⟨_,e⟩
 |rng lo hi=>obtain⟨_,_,_,e⟩:=x;exact⟨_,e⟩
 |frz ob u=>obtain⟨e,_⟩:=x;exact⟨_,e⟩
 |tbl ps=>exact⟨_,x⟩
 |met f y=>exact⟨_,x⟩
 |ext φ=>obtain⟨_,⟨_,e⟩,_⟩:=x;exact⟨_,e⟩
theorem zx2(x:HOk P w H h)(k:∀ b o u,H b=some o->h.get? b=some u->h'.get? b=some u):HOk P w H h':=fun b o e=>
 (x b o e).stay (fun c v hc q=>by
  rcases hc with rfl|hc
  ·exact k _ _ _ e q
  ·exact k _ _ _ hc q) (fun _ q=>q) fun _ _ q=>q
end
section
variable{X:Cx}{pins:List (Addr × Obj)}{st:St}{H H':Hp}{s s':Shared}{cls:Value}{h':Heap}{ea:Addr}{args:List Value}{M:Model}{E:Value->Shared->Prop}{Q:Unit->Shared->Prop}
theorem zpx{B:Heap}{l:List Env}{a0:Value}{h:Heap}(x:Heap.FlyingW B l ea cls a0 h):ygz B l ea cls a0 h:=⟨x.1,x.2.1,x.2.2.1,.inl ⟨.none,x.2.2.2.at⟩⟩
theorem ygz.there{B:Heap}{l:List Env}{a0:Value}{h:Heap}(x:ygz B l ea cls a0 h):∃ ob,h.get? ea=some ob/\ob.cls=cls:=by
 obtain⟨_,_,_,⟨fl,q⟩|⟨oe,vs,q1,q2,_⟩⟩:=x
 ·exact q.there
 ·exact⟨oe,q1,q2⟩
theorem FdH.next{fd:Option Nat}{B h h' h0:Heap}{H':Hp}(x:FdH fd ea B h h0 H')(k:DK h h')(e:∃ o,h'.get? ea=some o):FdH fd ea B h' h0 H':=fun n q=>by
 obtain⟨dN,oD,oe,q1,q2,q3⟩:=x n q;obtain⟨o,e⟩:=e;exact⟨dN,oD,o,e,(k.get q1 e).trans q2,q3⟩
theorem zq7{A:Around}{B:Heap}{l:List Env}{a0:Value}(x:ygz B l ea cls a0 s.heap)(hQ:∀ h1,ygz B l ea cls a0 h1->s.heap.UpToSlots h1->DK s.heap h1->Q () { s with heap:=h1 }):wpAny M A (setFlight (.ref ea) none) Q E s:=by
 obtain⟨f1,f2,f3,⟨fl,f4⟩|f4⟩:=x
 ·have k:wpAny M A (setFlight (.ref ea) none) (fun _ s'=>∃ h1,s'={ s with heap:=h1 }/\ygz B l ea cls a0 h1/\s.heap.UpToSlots h1) E s:=
   wpAny_setFlight_noneW f1 f3 f4 fun h1 k1 k2 k3 k4=>⟨h1,rfl,zpx ⟨k1,f2,k2,k3⟩,fun b o e n=>⟨o.slots,k4 b o e n⟩⟩
  exact wpAny_mono (ygn (zgw _ _) k) (fun _ _ ⟨⟨h1,e,q1,q2⟩,q3⟩=>by subst e;exact hQ h1 q1 q2 q3) fun _ _ z=>z
 ·obtain⟨oe,vs,he,hc,hd,hz,h0,h1⟩:=id f4;unfold setFlight;refine wpAny_bind (wpAny_field he hd h1 ?_);rw[if_neg (show ¬ ((Value.none != Value.none)=true)from by decide)];exact wpAny_pure (hQ s.heap ⟨f1,f2,f3,.inr f4⟩ (.refl _) (.refl _))
theorem zrj{A:Around}{B:Heap}{env:Env}{outer:List Env}{L:Addr}{a0:Value}(hfr:A.frames=some (env::outer))(hf:env.frame=some L)(x:ygz B (env::outer) ea cls a0 s.heap)
  (hQ:∀ h1,Heap.HeldW B (env::outer) ea cls a0 L h1->s.heap.UpToSlots h1->Q () { s with heap:=h1 }):wpAny M A (noteFrame (.ref ea) env) Q E s:=by
 obtain⟨f1,f2,f3,⟨fl,f4⟩|f4⟩:=x
 ·by_cases hm:fl=rawInt L
  ·subst hm;exact wpAny_noteFrame_againW hf f4 (hQ s.heap ⟨f1,f2,f3,f4⟩ (.refl _))
  ·obtain⟨oe,vs,T,oT,ts,he,hc,hd,h1,hnT,hTe,hT,hdT,h3⟩:=f4;have sz:3<ts.size:=(Array.getElem?_eq_some_iff.mp h3).1;have oth:∀ b,b≠T->(s.heap.update T (Obj.mapFields (·.setIfInBounds 3 Value.none))).get? b=s.heap.get? b:=fun b hb=>Heap.get?_update_other _ _ (Ne.symm hb);have nr:∀ b o,s.heap.get? b=some o->(∀ v,o.data≠.fields v)->b≠T:=fun b o hb hn q=>by
    rw[q,hT]at hb;cases hb;exact hn ts hdT
   have selfT:=Heap.get?_update_self (Obj.mapFields (·.setIfInBounds 3 Value.none)) hT (Obj.isFreed_of_fields (Obj.data_mapFields hdT _));have up:s.heap.UpToSlots (s.heap.update T (Obj.mapFields (·.setIfInBounds 3 Value.none))):=fun b o e n=>⟨o.slots,(oth b (nr b o e n)).trans e⟩
   have F0:Heap.FlyingW B (env::outer) ea cls a0 (s.heap.update T (Obj.mapFields (·.setIfInBounds 3 Value.none))):=
    ⟨fun b o e=>(oth b fun q=>by rw[q,hnT]at e;cases e).trans (f1 b o e),f2,f3.of_keeps fun b o e n=>⟨o,(oth b (nr b o e n)).trans e,rfl⟩,
     oe,vs,T,_,_,(oth ea (Ne.symm hTe)).trans he,hc,hd,h1,hnT,hTe,selfT,Obj.data_mapFields hdT _,by simp[sz]⟩
   have key:=wpAny_looks_onW (M:=M) (E:=E) (Q:=Q) (s:={ s with heap:=s.heap.update T (Obj.mapFields (·.setIfInBounds 3 Value.none)) }) hfr hf F0 fun h2 q1 q2=>hQ h2 q1 (up.trans q2);intro Γ p hΓ;have k:=key Γ p hΓ;unfold noteFrame at k ⊢;simp only[hf]at k ⊢;rw[Sem.wp_bind',wp_field_iff]at k ⊢;obtain⟨a1,o1,v1,x1,e1,g1,d1,i1,k⟩:=k;cases e1;have g1':s.heap.get? ea=some o1:=(oth ea (Ne.symm hTe)).symm.trans g1;have o1e:o1=oe:=by rw[he]at g1';cases g1';rfl
   subst o1e;rw[hd]at d1;cases d1;rw[h1]at i1;cases i1;refine⟨ea,o1,vs,.ref T,rfl,he,hd,h1,?_⟩;have nn:(Value.ref T != Value.none)=true:=by simp
   simp only[nn,if_true]at k ⊢;rw[Sem.wp_bind',wp_field_iff]at k ⊢;obtain⟨a2,o2,v2,x2,e2,g2,d2,i2,k⟩:=k;cases e2;have g2':=selfT.symm.trans g2;cases g2';have d2':=(Obj.data_mapFields hdT (·.setIfInBounds 3 Value.none)).symm.trans d2;cases d2';have x2e:x2=Value.none:=by
    have:(ts.setIfInBounds 3 Value.none)[3]?=some Value.none:=by simp[sz]
    rw[this]at i2;cases i2;rfl
   subst x2e;refine⟨T,oT,ts,fl,rfl,hT,hdT,h3,?_⟩;have n1:(Value.none == rawInt L)=false:=by simp[rawInt]
   have n2:(fl == rawInt L)=false:=by
    cases q:fl == rawInt L with
    |false=>rfl
    |true=>exact absurd (beq_iff_eq.mp q) hm
   simp only[n1,n2,Bool.false_eq_true,if_false]at k ⊢;rw[Sem.wp_bind',wp_setField_iff]at k ⊢;obtain⟨a3,o3,v3,e3,g3,d3,i3,k⟩:=k;cases e3;refine⟨T,oT,ts,rfl,hT,hdT,sz,?_⟩;simp only[Heap.update_setField_twice]at k;exact k
 ·obtain⟨oe,vs,he,hc,hd,hz,h0,h1⟩:=f4;unfold noteFrame;simp only[hf];refine wpAny_bind (wpAny_field he hd h1 ?_);rw[if_neg (by decide)];refine wpAny_entryW (base:=B) (outer:=outer) (a0:=a0) hfr f3 hf he f1 f2 hd hz h0 fun h4 hN=>?_;obtain⟨k1,k2,k3,k4⟩:=hN;rw[hc]at k3;exact hQ h4 ⟨k1,f2,k2,k3⟩ k4
theorem zrk{A:Around}{B:Heap}{env:Env}{outer:List Env}{L:Addr}{a0:Value}(hfr:A.frames=some (env::outer))(hf:env.frame=some L)(x:ygz B (env::outer) ea cls a0 s.heap)
  (hQ:∀ h1,Heap.HeldW B (env::outer) ea cls a0 L h1->s.heap.UpToSlots h1->DK s.heap h1->Q () { s with heap:=h1 }):wpAny M A (noteFrame (.ref ea) env) Q E s:=by
 have k:wpAny M A (noteFrame (.ref ea) env) (fun _ s'=>∃ h1,s'={ s with heap:=h1 }/\Heap.HeldW B (env::outer) ea cls a0 L h1/\s.heap.UpToSlots h1) E s:=zrj hfr hf x fun h1 q1 q2=>⟨h1,rfl,q1,q2⟩
 exact wpAny_mono (ygn (zq3 _ _) k) (fun _ _ ⟨⟨h1,e,q1,q2⟩,q3⟩=>by subst e;exact hQ h1 q1 q2 q3) fun _ _ z=>z
theorem zx1{B:Heap}{l:List Env}{a0:Value}{L:Addr}{h:Heap}(x:Heap.HeldW B l ea cls a0 L h):ygz B l ea cls a0 h:=⟨x.1,x.2.1,x.2.2.1,.inl ⟨_,x.2.2.2⟩⟩
theorem zlf{A:Around}{B:Heap}{env:Env}{outer:List Env}{L:Addr}{a0:Value}(hfr:A.frames=some (env::outer))(hf:env.frame=some L)(x:ygz B (env::outer) ea cls a0 s.heap)
  (hQ:∀ h1,ygz B outer ea cls a0 h1->s.heap.UpToSlots h1->DK s.heap h1->Q () { s with heap:=h1 }):wpAny M A (leaving env (.ref ea)) Q E s:=by
 unfold leaving;refine wpAny_bind (zrk hfr hf x fun h1 q1 q2 q3=>?_);refine zq7 (zx1 q1) fun h2 q4 q5 q6=>?_;obtain⟨k1,k2,⟨_,_,k3⟩,k4⟩:=q4;exact hQ h2 ⟨k1,k2,k3,k4⟩ (q2.trans q5) (q3.trans q6)
theorem zp2(hs:X.stack=X.env::X.outer)(hf:X.env.frame=some X.env.locals){b:Addr}:b∈frs X.stack ↔ b=X.env.locals\/b∈frs X.outer:=by
 rw[hs];unfold frs;rw[List.filterMap_cons,hf];exact List.mem_cons
theorem zxf(I:Inv X pins st H s)(hs:X.stack=X.env::X.outer)(hf:X.env.frame=some X.env.locals)(hx:X.ex=[]){h'':Heap}(un:Un (frs X.stack) [] H H' s.heap h''):Un (frs X.outer) [] X.H₀ H' X.s₀.heap h'':=by
 have nex:∀ b,b ∉ X.ex:=fun b z=>by rw[hx]at z;cases z
 have neL:∀ b o,X.s₀.heap.get? b=some o->b≠X.env.locals:=fun b o e=>Nat.ne_of_lt (Nat.lt_of_lt_of_le (Heap.lt_size e) I.ok.above);refine⟨fun b o e n hb _=>?_,fun b o e n hb _=>?_,fun b o e n _=>?_,fun b o e _=>?_,fun b xs e=>un.tups b xs (I.base.tups b xs e),fun b o u e=>un.frzs b o u (I.base.frzs b o u e),fun b ps e=>?_⟩
 ·exact un.keep b o (I.base.keep b o e n hb (nex b)) (I.base.free b o e n (nex b)) (fun z=>((zp2 hs hf).mp z).elim (neL b o e) hb) (by simp)
 ·obtain⟨sl,e1⟩:=I.base.slot b o e n hb (nex b);obtain⟨sl',e2⟩:=un.slot b _ e1 (I.base.free b o e n (nex b)) ((zp2 hs hf).mpr (.inr hb)) (by simp);exact⟨sl',e2⟩
 ·obtain⟨o',e1⟩:=I.base.there b o e (nex b);exact un.free b o' e1 (I.base.free b o e n (nex b)) (by simp)
 ·obtain⟨o',e1⟩:=I.base.there b o e (nex b);exact un.there b o' e1 (by simp)
 ·obtain⟨m1,e1⟩:=I.base.tbls b ps e;obtain⟨m2,e2⟩:=un.tbls b _ e1;exact⟨m1++m2,by rw[e2,Array.append_assoc]⟩
theorem zxg{P:Program}{w:World}{outer:List Env}{e:Value}{fd:Option Nat}(F:Fly P w outer H s cls fd H' e s'){h6:Heap}{B:Heap}(hB:∀ b o,s.heap.get? b=some o->H b=none->b ∉ frs outer->B.get? b=some o)(hT:∀ b o,H' b=some o->∃ ob,B.get? b=some ob)
  (hA:∀ b o,s.heap.get? b=some o->b ∉ frs outer->∃ o',B.get? b=some o') (hb0:∀ b o,B.get? b=some o->s'.heap.get? b=some o) (hb6:∀ b o,B.get? b=some o->h6.get? b=some o) (hsl:s'.heap.UpToSlots h6) (hfr:∀ b∈frs outer,∃ o,s.heap.get? b=some o/\(∀ vs,o.data≠.fields vs)/\H b=none) :
  Un (frs outer) [] H H' s.heap h6/\HOk P w H' h6:=by
 refine⟨⟨fun b o e n hb _=>hb6 b o (hB b o e n hb),fun b o e n hb hx=>?_,F.un.free,fun b o e hx=>?_,F.un.tups,F.un.frzs,F.un.tbls⟩,zx2 F.hok fun b o u e q=>?_⟩
 ·obtain⟨sl,e1⟩:=F.un.slot b o e n hb hx;obtain⟨o',e',hd,_⟩:=hfr b hb;rw[e]at e';cases e';obtain⟨sl',e2⟩:=hsl b _ e1 hd;exact⟨sl',e2⟩
 ·by_cases hb:b∈frs outer
  ·obtain⟨o',e',hd,hn⟩:=hfr b hb;rw[e]at e';cases e';obtain⟨sl,e1⟩:=F.un.slot b o e hn hb hx;obtain⟨sl',e2⟩:=hsl b _ e1 hd;exact⟨_,e2⟩
  ·obtain⟨o',e1⟩:=hA b o e hb;exact⟨o',hb6 b o' e1⟩
 ·obtain⟨ob,e1⟩:=hT b o e;have:=hb0 b ob e1;rw[q]at this;cases this;exact hb6 b _ e1
theorem zes(I:Inv X pins st H s):∀ b∈frs X.stack,∃ o,s.heap.get? b=some o/\(∀ vs,o.data≠.fields vs)/\H b=none:=fun b hb=>by
 obtain⟨_,o,e,hd⟩:=I.stack.mem hb;exact⟨o,e,hd,I.stkFree b hb⟩
theorem zle(I:Inv X pins st H s)(hs:X.stack=X.env::X.outer)(hf:X.env.frame=some X.env.locals)(hex:X.ex=[]){e:Value}{fd:Option Nat}(F:Fly X.prog X.w X.stack H s cls fd H' e s')
  (hQ:∀ s'',Fly X.prog X.w X.outer X.H₀ X.s₀ cls fd H' e s''->Q () s''):wpAny M X.A (leaving X.env e) Q E s':=by
 obtain⟨ea,a0,B,rfl,fl,hn,hnew,hT,hB,hA,hF⟩:=F.ex;have fl':ygz B (X.env::X.outer) ea cls a0 s'.heap:=by rw[<-hs];exact fl
 refine zlf (by rw[<-hs];exact I.ok.frames) hf fl' fun h'' x1 x2 x3=>hQ _ ?_;obtain⟨un,hok⟩:=zxg F hB hT hA fl.1 x1.1 x2 (zes I);have nex:∀ b,b ∉ X.ex:=fun b z=>by rw[hex]at z;cases z
 have neL:∀ b o,X.s₀.heap.get? b=some o->b≠X.env.locals:=fun b o e=>Nat.ne_of_lt (Nat.lt_of_lt_of_le (Heap.lt_size e) I.ok.above);have new0:∀ b,s.heap.get? b=none->X.s₀.heap.get? b=none:=fun b e=>by
  cases q:X.s₀.heap.get? b with
  |none=>rfl
  |some u=>obtain⟨v,e'⟩:=I.base.there _ _ q (nex _);rw[e]at e';cases e'
 have hF':FdH fd ea B h'' X.s₀.heap H':=fun n q=>by
  obtain⟨dN,oD,oe,z1,z2,z3,z4,z5,z6⟩:=hF.next x3 (let ⟨o,e,_⟩:=x1.there;⟨o,e⟩) n q;exact⟨dN,oD,oe,z1,z2,z3,z4,z5,new0 _ z6⟩
 refine⟨⟨ea,a0,B,rfl,x1,hn,?_,hT,fun b o e n hb=>?_,fun b o e hb=>?_,hF'⟩,F.os.trans I.os,F.bare,zxf I hs hf hex un,hok⟩
 ·cases q:X.s₀.heap.get? ea with
  |none=>rfl
  |some u=>obtain⟨v,e⟩:=I.base.there _ _ q (nex _);rw[hnew]at e;cases e
 ·exact hB b o (I.base.keep b o e n hb (nex b)) (I.base.free b o e n (nex b)) fun z=>((zp2 hs hf).mp z).elim (neL b o e) hb
 ·obtain⟨o',q⟩:=I.base.there b o e (nex b);exact hA b o' q fun z=>((zp2 hs hf).mp z).elim (neL b o e) hb
end
theorem ybi{P:Program}{w:World}{K:PySem.W.Frag}{mg:Str->Option Value}{base:Heap}{N:List Str}{qual:Str}{scope:Scope}{f:Addr}{cd:Value}{A:Around}{outer:List Env}{s:Shared}{H:Hp}{E:XK}{st:St}{cls:Value}{fd:Option Nat}{H':Hp}
  (h:E cls fd H'):Thr (yh9 (CXE P w) P w K mg base N qual scope f cd A outer s H E) st cls fd H' where
 fly:=fun pins H1 s1 e s' I F=>zle I rfl rfl rfl F fun s'' G=>⟨cls,fd,H',G,h⟩
theorem Thr.made{X:Cx}{pins:List (Addr × Obj)}{st:St}{H':Hp}{s:Shared}{cls:Value}{ea:Addr}{h':Heap}{args:List Value}(t:Thr X st cls none H')(I:Inv X pins st H' s)(hx:Heap.MadeExcOf s.heap h' ea cls args):X.xe (.ref ea) { s with heap:=h' }:=by
 have ff:s.heap.FunFrames (PySem.W.hideAll s.heap (frs X.stack)) X.stack:=PySem.W.funFrames_hide (as:=frs X.stack) I.stack (fun env he a ha=>List.mem_filterMap.mpr ⟨env,he,ha⟩);have hid:∀ b o,s.heap.get? b=some o->b ∉ frs X.stack->(PySem.W.hideAll s.heap (frs X.stack)).get? b=some o:=fun b o e n=>PySem.W.hideAll_get _ e n;obtain⟨t0,he,htn,ht⟩:=hx.there;have nst:∀ b o,H' b=some o->b ∉ frs X.stack:=fun b o e z=>by rw[I.stkFree b z]at e;cases e
 have hn:H' ea=none:=by
  cases q:H' ea with
  |none=>rfl
  |some u=>obtain⟨v,e⟩:=zdy (I.hok _ _ q);rw[hx.new]at e;cases e
 refine t.fly pins H' s (.ref ea) _ I ⟨⟨ea,.ref t0,PySem.W.hideAll s.heap (frs X.stack),rfl,⟨fun b o q=>hx.keeps b o (PySem.W.of_hideAll _ q),?_,ff.of_keeps fun b o e _=>⟨o,hx.keeps b o e,rfl⟩,.inr ⟨_,_,he,rfl,rfl,by simp,rfl,rfl⟩⟩,hn,hx.new,fun b o e=>?_,fun b o e n hb=>hid b o e hb,fun b o e hb=>⟨o,hid b o e hb⟩,fun n q=>by cases q⟩,rfl,I.bare,⟨fun b o e n hb _=>hx.keeps b o e,fun b o e n hb _=>⟨o.slots,hx.keeps b o e⟩,fun b o e n _=>n,fun b o e _=>⟨o,hx.keeps b o e⟩,fun _ _ e=>e,fun _ _ _ e=>e,fun b ps e=>⟨#[],by rw[e];simp⟩⟩,zx2 I.hok fun b o u e q=>hx.keeps b u q⟩
 ·cases q:(PySem.W.hideAll s.heap (frs X.stack)).get? ea with
  |none=>rfl
  |some u=>have:=PySem.W.of_hideAll _ q;rw[hx.new]at this;cases this
 ·obtain⟨u,q⟩:=zdy (I.hok _ _ e);exact⟨u,hid b u q (nst b o e)⟩
theorem zhp{P:Program}{w:World}{K:PySem.W.Frag}{mg:Str->Option Value}{base:Heap}{N:List Str}{qual:Str}{scope:Scope}{f:Addr}{cd:Value}{A:Around}{outer:List Env}{s:Shared}{H:Hp}{E:XK} :
  PassesOwn (model P w) (yh9 (CXE P w) P w K mg base N qual scope f cd A outer s H E).A (yh9 (CXE P w) P w K mg base N qual scope f cd A outer s H E).env (yh9 (CXE P w) P w K mg base N qual scope f cd A outer s H E).xe:=PassesOwn.leaving
def yil:Fl->M D
 | .nx _=>ret .non
 | .rt d=>ret d
 | .xc _ x=>fun σ=>.ex x σ
 |_=>bad
def ykp:Out Fl->Out D
 | .ok fl σ=>yil fl σ
 |_=>.bad
def run(n:Nat)(g:Ev->M Fl)(ds:List D):M D:=fun σ=>ykp (g (ds.map some++List.replicate (n - ds.length) none) σ)
def spF(T:Tb)(n:Nat)(f:List D->M D):Sp:=fun vs H Q E=>∃ μ σ ds,yhi T μ H ds vs/\ds.length=n/\Rel T μ H σ/\yhc T E (Rep T) μ H (f ds σ) Q
def fnK(n:Nat)(f:List D->M D)(dds:List D)(ds:List D):M D:=if (ds++dds).length=n then f (ds++dds)else bad
def eFn(n:Nat)(f:List D->M D)(dds:List D)(fs:Ev->M (List D)):Ev->M D:=fun ρ=>bnd (fs ρ) (fnK n f dds)
section
variable{T:Tb}{X:Cx}
theorem zia{μ:List Addr}{H:Hp}{ds:List D}{vs:List V}{N:List Str}(h:yhi T μ H ds vs):ygw T μ H (ds.map some++List.replicate (N.length - ds.length) none) (L2.yf6 N vs):=by
 have hl:=h.length;refine⟨by simp[L2.yf6,hl],fun i d e=>?_⟩;by_cases hi:i<ds.length
 ·rw[List.getElem?_append_left (by simpa using hi),List.getElem?_map]at e;cases e2:ds[i]? with
  |none=>rw[e2]at e;cases e
  |some x=>
   rw[e2]at e;cases e;obtain⟨v,h1,h2⟩:=h.get e2;refine⟨v,?_,h2⟩;unfold L2.yf6;rw[List.getElem?_append_left (by simpa [<-hl]using hi),List.getElem?_map,h1];rfl
 ·rw[List.getElem?_append_right (by simpa using hi),List.getElem?_replicate]at e;split at e<;>cases e
variable{k:Nat}{f C:Addr}{fd:FuncData}{ps:List Str}{dvs:List V}{dval:List Value}{dds:List D}{x:Str}{p pos:Pos}{e:Expr}{es:List Expr}{fn:List D->M D}{fs:Ev->M (List D)}{sp:Sp}{t:TA}
theorem zto{pins:List (Addr × Obj)}{st:St}{H:Hp}{s:Shared}{Q:VK}{us:List Value}{vs:List V}(F:FnOk X.prog X.w X.K X.mg X.base (CXE X.prog X.w) k f fd ps sp)(hr:Room k X.A)(hb:ybt X.K fd ps dval)(hd:yho dvs dval)
  (I:Inv X pins st H s) (r:yho vs us) (h:sp (vs++dvs) H Q (XE X st)):wpAny (model X.prog X.w) X.A (call (.ref f) us) (EP X pins st Q) X.xe s:=by
 have r2:yho (vs++dvs) (us++dval):=r.append hd;have hl:(us++dval).length=ps.length:=by rw[<-r2.length];exact F.len _ _ _ _ h
 refine wpAny_call (codeAny_mono (F.run X.A X.stack s H ⟨us,[]⟩ (us++dval) (vs++dvs) Q (XE X st) hr I.env0 (hb s us I.kIn hl) r2 h) fun r s' hq=>?_);cases r with
 |error e=>obtain⟨cls,fd,H',hfly,ht⟩:=hq;exact ht.fly pins H s e s' I hfly
 |ok fl=>
  cases fl with
  |ret u=>exact I.after hq
  |next=>exact False.elim hq
  |brk=>exact False.elim hq
  |cont=>exact False.elim hq
theorem zpl(F:FnOk X.prog X.w X.K X.mg X.base (CXE X.prog X.w) k f fd ps (spF T ps.length fn))(hr:Room k X.A)(hg:Gl X x)(hm:X.mg x=some (.ref f))(hk:PySem.W.keepIn X.K (.ref f)=true)(hb:ybt X.K fd ps dval)(hd:yho dvs dval)(hdd:∀ μ H,yhi T μ H dds dvs)
  (ha:FA T X (e::es) fs) (hdb:(x == ("__debug__" : Str))=false:=by decide) (he:starEach (e::es) X.env=(false,eval e X.env)::starEach es X.env:=by rfl) (hpl:(backTo pos (starEach es X.env)).any (·.1)=false:=by rfl) :
  FE T X (.Call (.Name x p) (e::es) [] pos) (eFn ps.length fn dds fs):=by
 intro pins s st H Q I h;refine wpAny_Call_Name_kw (zrd I hg hm ?_ hdb);obtain⟨μ,ρ,σ,hE,hr',hp⟩:=h;refine PySem.W.callWith_K (h₀:=X.base) I.ok.mod.kin hk (thn (ha pos pins s st H (fun vs H1=>spF T ps.length fn (vs++dvs) H1 Q (XE X st)) I ⟨μ,ρ,σ,hE,hr',hp.bind fun ds σ1 μ1 vs H1 _ e1 r1 p1 q1=>?_⟩) fun us s1 ⟨vs,H1,I1,r,q⟩=>⟨I1.kIn,?_⟩) he hpl
 ·unfold fnK at q1;by_cases hl:(ds++dds).length=ps.length
  ·rw[if_pos hl]at q1;exact⟨μ1,σ1,ds++dds,p1.append (hdd _ _),hl,r1,q1⟩
  ·rw[if_neg hl]at q1;exact q1.elim
 ·exact zto F hr hb hd I1 r q
variable{P:Program}{w:World}{K:PySem.W.Frag}{mg:Str->Option Value}{base:Heap}
theorem fok{x qual:Str}{st:Stmt}{N:List Str}{g:Ev->M Fl}{params:Arguments}{dV kV doc pm cdv ct oc:Value}{an od:Option Addr}{osl:Array (Option Value)}
  (lk:K.lookup f=some ⟨oc,od,.func (PySem.W.fnOf x qual params (zo5 st) (zjb st) dV kV doc pm an cdv ct),osl⟩) (hcd:PySem.W.codeIn K cdv qual=true) (S:FnScope N ps (zjb st))
  (hb:∀ (A:Around) (outer:List Env) (s:Shared) (H:Hp) (E:XK),Room k (A.deeper (envOfC qual (zjb st) s.heap.objs.size f cdv))->FSs T (yh9 (CXE P w) P w K mg base N qual (zjb st) f cdv A outer s H E) (zo5 st) g) :
  FnOk P w K mg base (CXE P w) (k+1) f (PySem.W.fnOf x qual params (zo5 st) (zjb st) dV kV doc pm an cdv ct) ps (spF T ps.length (run N.length g)):=by
 refine ydk lk hcd S (fun vs H Q E h=>?_) (fun A outer s H vs Q E hr h=>?_)
 ·obtain⟨μ,σ,ds,h1,h2,_⟩:=h;rw[<-h1.length];exact h2
 ·obtain⟨μ,σ,ds,h1,h2,h3,h4⟩:=h;refine⟨_,hb A outer s H E hr,μ,_,σ,zia h1,h3,?_⟩;unfold run at h4;cases eg:g (ds.map some++List.replicate (N.length - ds.length) none) σ with
  |bad=>rw[eg]at h4;exact h4
  |ex x σ1=>rw[eg]at h4;exact h4.elim
  |ok fl σ1=>
   rw[eg]at h4;intro μ1 gl H1 e1 r1 q1;have p1:=h4.mono e1;cases fl with
   |nx ρ2=>cases gl with
    |nx st2=>have z:Q V.non H1:=yhc.here (d:=D.non) p1 r1 (by rw[Rep]);exact z
    |_=>exact q1.elim
   |rt d2=>cases gl with
    |rt v2=>have z:Q v2 H1:=yhc.here (d:=d2) p1 r1 q1;exact z
    |_=>exact q1.elim
   |xc ρ2 x2=>cases gl with
    |xc st2 c2 fd2=>
     obtain⟨_,rfl,rfl⟩:=q1;exact ybi (p1 μ1 H1 (Ext.refl _ _) r1)
    |_=>exact q1.elim
   |_=>exact p1.elim
theorem zpz(F:FnOk P w K mg base (CXE P w) k f fd ps (spF T ps.length fn)):FnOk P w K mg base (CXE P w) k f fd ps (spF T ps.length (fun ds=>frz (fn ds))):=
 F.imp fun vs H Q E h=>by
  obtain⟨μ,σ,ds,h1,h2,h3,h4⟩:=h;exact⟨μ,σ,ds,h1,h2,h3,yhc.frz h3 h4⟩
end
def yh7(env:Env)(names:List (Str × NameKind))(acc:List (Str × Addr)):List (Str × Addr):=
 names.foldl (fun cs y=>if (y.2 == .free)=true then (match env.cells.lookup y.1 with|some c=>(y.1,c)::cs|none=>cs)else cs) acc
theorem zen(env:Env):∀ (names:List (Str × NameKind)) (acc:List (Str × Addr)),(∀ y∈names,y.2=.free->∃ c,env.cells.lookup y.1=some c)->
  (forIn names acc (fun x (cs:List (Str × Addr))=>match x with|(name,kind)=>if (kind == .free)=true then (do let a <-cellOf env name;pure (ForInStep.yield ((name,a)::cs)))else pure (ForInStep.yield cs)):Sem (List (Str × Addr)))=pure (yh7 env names acc)
 |[],acc,_=>rfl
 |(n,k)::r,acc,h=>by
  rw[List.forIn_cons];by_cases hk:(k == NameKind.free)=true
  ·obtain⟨c,hc⟩:=h (n,k) List.mem_cons_self (by simpa using hk);have e1:cellOf env n=pure c:=by unfold cellOf;rw[hc]
   simp only[hk,if_true,e1];show (forIn r ((n,c)::acc) _:Sem (List (Str × Addr)))=_;rw[zen env r ((n,c)::acc) fun y hy=>h y (List.mem_cons_of_mem _ hy)];have e2:yh7 env ((n,k)::r) acc=yh7 env r ((n,c)::acc):=by
    unfold yh7;rw[List.foldl_cons];simp only[hk,if_true,hc]
   rw[e2]
  ·simp only[hk];show (forIn r acc _:Sem (List (Str × Addr)))=_;rw[zen env r acc fun y hy=>h y (List.mem_cons_of_mem _ hy)];have e2:yh7 env ((n,k)::r) acc=yh7 env r acc:=by
    unfold yh7;rw[List.foldl_cons];simp only[hk];rfl
   rw[e2]
theorem zeo(env:Env)(scope:Scope)(h:∀ y∈scope.names,y.2=.free->∃ c,env.cells.lookup y.1=some c):closureFor scope env=pure (yh7 env scope.names []):=by
 have e:=zen env scope.names [] h;unfold closureFor;simp only[bind_pure];exact e
theorem zv4(env:Env):∀ (names:List (Str × NameKind)) (acc:List (Str × Addr)) (n:Str) (c:Addr),(∀ n c,acc.lookup n=some c->env.cells.lookup n=some c)->(yh7 env names acc).lookup n=some c->env.cells.lookup n=some c
 |[],acc,n,c,h,e=>h n c e
 |(y,k)::r,acc,n,c,h,e=>by
  unfold yh7 at e;rw[List.foldl_cons]at e;refine zv4 env r _ n c (fun n c q=>?_) e;by_cases hk:(k == NameKind.free)=true
  ·simp only[hk,if_true]at q;cases hc:env.cells.lookup y with
   |none=>rw[hc]at q;exact h n c q
   |some c'=>
    rw[hc]at q;rw[List.lookup_cons]at q;cases hn:(n == y)with
    |true=>rw[hn]at q;cases q;rw[eq_of_beq hn];exact hc
    |false=>rw[hn]at q;exact h n c q
  ·simp only[hk]at q;exact h n c q
theorem zox(env:Env):∀ (names:List (Str × NameKind)) (acc:List (Str × Addr)) (n:Str),(∃ c,acc.lookup n=some c)->∃ c,(yh7 env names acc).lookup n=some c
 |[],acc,n,h=>h
 |(y,k)::r,acc,n,h=>by
  unfold yh7;rw[List.foldl_cons];refine zox env r _ n ?_;by_cases hk:(k == NameKind.free)=true
  ·simp only[hk,if_true];cases hc:env.cells.lookup y with
   |none=>exact h
   |some c'=>
    show ∃ c,List.lookup n ((y,c')::acc)=some c;rw[List.lookup_cons];cases hn:(n == y)with
    |true=>exact⟨c',rfl⟩
    |false=>exact h
  ·simp only[hk];exact h
theorem zvy(env:Env):∀ (names:List (Str × NameKind)) (acc:List (Str × Addr)) (n:Str),(n,NameKind.free)∈names->(∃ c,env.cells.lookup n=some c)->∃ c,(yh7 env names acc).lookup n=some c
 |[],acc,n,h,_=>nomatch h
 |(y,k)::r,acc,n,h,hc=>by
  unfold yh7;rw[List.foldl_cons];rcases List.mem_cons.mp h with e|e
  ·cases e;refine zox env r _ _ ?_;obtain⟨c,hc⟩:=hc;refine⟨c,?_⟩;simp[hc]
  ·exact zvy env r _ n e hc
theorem zbm{env:Env}:∀ {names:List (Str × NameKind)} {x:Str} {k:NameKind},
  (names.map fun(n,k)=>if (k == NameKind.free && env.scope.kind == .function && env.kindOf n == some .cell)then (n,NameKind.cell)else (n,k)).lookup x=some k->∃ k0,names.lookup x=some k0/\(k=k0\/(k0=.free/\k=.cell))
 |[],_,_,h=>by simp at h
 |(n,k0)::r,x,k,h=>by
  have ih:=@zbm env r x k;have h':List.lookup x ((if (k0 == NameKind.free && env.scope.kind == .function && env.kindOf n == some .cell)=true then (n,NameKind.cell)else (n,k0))::(r.map fun(n,k)=>if (k == NameKind.free && env.scope.kind == .function && env.kindOf n == some .cell)then (n,NameKind.cell)else (n,k)))=some k:=h;cases hx:x == n with
  |true=>
   by_cases hc:(k0 == NameKind.free && env.scope.kind == .function && env.kindOf n == some .cell)=true
   ·rw[if_pos hc]at h';simp only[List.lookup_cons,hx]at h' ⊢;cases h';simp only[Bool.and_eq_true]at hc;exact⟨k0,rfl,.inr ⟨by simpa using hc.1.1,rfl⟩⟩
   ·rw[if_neg hc]at h';simp only[List.lookup_cons,hx]at h' ⊢;cases h';exact⟨k0,rfl,.inl rfl⟩
  |false=>
   by_cases hc:(k0 == NameKind.free && env.scope.kind == .function && env.kindOf n == some .cell)=true
   ·rw[if_pos hc]at h';simp only[List.lookup_cons,hx]at h' ⊢;exact ih h'
   ·rw[if_neg hc]at h';simp only[List.lookup_cons,hx]at h' ⊢;exact ih h'
theorem zc5{env:Env}:∀ {names:List (Str × NameKind)} {x:Str},names.lookup x=some .free->
  (names.map fun(n,k)=>if (k == NameKind.free && env.scope.kind == .function && env.kindOf n == some .cell)then (n,NameKind.cell)else (n,k)).lookup x=some .cell\/
  (names.map fun(n,k)=>if (k == NameKind.free && env.scope.kind == .function && env.kindOf n == some .cell)then (n,NameKind.cell)else (n,k)).lookup x=some .free
 |[],_,h=>by simp at h
 |(n,k)::r,x,h=>by
  have ih:=@zc5 env r x;have goal:∀ z,List.lookup x ((if (k == NameKind.free && env.scope.kind == .function && env.kindOf n == some .cell)=true then (n,NameKind.cell)else (n,k))::(r.map fun(n,k)=>if (k == NameKind.free && env.scope.kind == .function && env.kindOf n == some .cell)then (n,NameKind.cell)else (n,k)))=z->
   (List.map (fun(n,k)=>if (k == NameKind.free && env.scope.kind == .function && env.kindOf n == some .cell)then (n,NameKind.cell)else (n,k)) ((n,k)::r)).lookup x=z:=fun z e=>e
  cases hx:x == n with
  |true=>
   simp only[List.lookup_cons,hx]at h;cases h;by_cases hc:(NameKind.free == NameKind.free && env.scope.kind == .function && env.kindOf n == some .cell)=true
   ·exact .inl (goal _ (by rw[if_pos hc];simp only[List.lookup_cons,hx]))
   ·exact .inr (goal _ (by rw[if_neg hc];simp only[List.lookup_cons,hx]))
  |false=>
   simp only[List.lookup_cons,hx]at h;have e:List.lookup x ((if (k == NameKind.free && env.scope.kind == .function && env.kindOf n == some .cell)=true then (n,NameKind.cell)else (n,k))::(r.map fun(n,k)=>if (k == NameKind.free && env.scope.kind == .function && env.kindOf n == some .cell)then (n,NameKind.cell)else (n,k))) =
     (r.map fun(n,k)=>if (k == NameKind.free && env.scope.kind == .function && env.kindOf n == some .cell)then (n,NameKind.cell)else (n,k)).lookup x:=by
    by_cases hc:(k == NameKind.free && env.scope.kind == .function && env.kindOf n == some .cell)=true
    ·rw[if_pos hc];simp only[List.lookup_cons,hx]
    ·rw[if_neg hc];simp only[List.lookup_cons,hx]
   rcases ih h with q|q
   ·exact .inl (goal _ (e.trans q))
   ·exact .inr (goal _ (e.trans q))
theorem zha{names:List (Str × NameKind)}{x:Str}{k:NameKind}(h:names.lookup x=some k):(x,k)∈names:=PySem.mem_of_lookup h
def blk(X:Cx)(N':List Str)(scope:Scope)(cl:List (Str × Addr))(C:Addr)(s₀:Shared)(H₀:Hp)(ex:List Addr):Cx:=
 { X with N:=N',s₀:=s₀,H₀:=H₀,env:=compEnvC scope cl C X.env,outer:=X.stack,stack:=X.stack,ex:=ex,fn:=fun _=>false,pn:=[],xe:=fun _ _=>False }
structure LcOk(X:Cx)(x:Str)(M':List Str)(ix:List Nat)(scope:Scope):Prop where
 kind:scope.kind=.function
 cell:(scope.names.all fun y=>!(y.2 == .cell))=true
 names:(scope.names.all fun y=>!(y.2 == .local) || scope.names.lookup y.1 == some .local)=true
 free:(scope.names.all fun y=>!(y.2 == .free) || (X.env.scope.names.lookup y.1 == some .cell || X.env.scope.names.lookup y.1 == some .free))=true
 at_:ix.map (fun i=>X.N[i]?)=M'.map some
 vis:(M'.all fun y=>(X.env.scope.names.lookup y == some .cell || X.env.scope.names.lookup y == some .free) && scope.names.lookup y == some .free)=true
def ycg(ix:List Nat)(ρ:Ev):Ev:=none::ix.map fun i=>(ρ[i]?).getD none
def ych(ix:List Nat)(st:St):St:=none::ix.map fun i=>(st[i]?).getD none
theorem zok{T:Tb}{μ:List Addr}{H:Hp}{ρ:Ev}{st:St}(ix:List Nat)(h:ygw T μ H ρ st):ygw T μ H (ycg ix ρ) (ych ix st):=by
 refine⟨by simp[ycg,ych],fun i d e=>?_⟩;cases i with
 |zero=>simp[ycg]at e
 |succ j=>
  have e':(ix.map fun i=>(ρ[i]?).getD none)[j]?=some (some d):=e;rw[List.getElem?_map]at e';cases ej:ix[j]? with
  |none=>rw[ej]at e';cases e'
  |some i0=>
   rw[ej]at e';have e2:(ρ[i0]?).getD none=some d:=Option.some.inj e';have e3:ρ[i0]?=some (some d):=by
    cases q:ρ[i0]? with
    |none=>rw[q]at e2;cases e2
    |some o=>rw[q]at e2;exact congrArg some e2
   obtain⟨v,h1,h2⟩:=h.2 i0 d e3;refine⟨v,?_,h2⟩;show (ix.map fun i=>(st[i]?).getD none)[j]?=_;rw[List.getElem?_map,ej];show some ((st[i0]?).getD none)=_;rw[h1];rfl
section
variable{X:Cx}{pins:List (Addr × Obj)}{st:St}{H:Hp}{s:Shared}{x:Str}{M':List Str}{ix:List Nat}{scope:Scope}{fp:List Addr}
theorem zp0(L:LcOk X x M' ix scope)(y:Str × NameKind)(hy:y∈scope.names)(e:y.2=.free):X.env.kindOf y.1=some .cell\/X.env.kindOf y.1=some .free:=by
 have q:=List.all_eq_true.mp L.free y hy;rw[e]at q;simp only[beq_self_eq_true,Bool.not_true,Bool.false_or,Bool.or_eq_true]at q;rcases q with q|q
 ·exact .inl (eq_of_beq q)
 ·exact .inr (eq_of_beq q)
theorem zoy(I:Inv X pins st H s)(L:LcOk X x M' ix scope):∀ y∈scope.names,y.2=.free->∃ c,X.env.cells.lookup y.1=some c:=fun y hy e=>I.ok.has y.1 (zp0 L y hy e)
theorem zy2(L:LcOk X x M' ix scope):∀ y∈scope.names,y.2≠.cell:=fun y hy e=>by
 have q:=List.all_eq_true.mp L.cell y hy;rw[e]at q;simp at q
theorem zf4(I:Inv X pins st H s)(L:LcOk X x M' ix scope)(hfp:∀ b∈fp,yg0 X pins H b/\b<s.heap.objs.size){h':Heap}{t':Nat}{m:Str->Option Value}(hns:h'.Ns s.heap.objs.size m)
  (hk:∀ b o,s.heap.get? b=some o->h'.get? b=some o) :
  Inv (blk X (x::M') scope (yh7 X.env scope.names []) s.heap.objs.size s H fp) [] (ych ix st) H { s with heap:=h',toks:=t' }:=by
 have sub:∀ n c,(yh7 X.env scope.names []).lookup n=some c->X.env.cells.lookup n=some c:=fun n c e=>zv4 X.env scope.names [] n c (fun _ _ q=>by simp at q) e;have cellLt:∀ n c,X.env.cells.lookup n=some c->c<s.heap.objs.size:=fun n c e=>by obtain⟨v,z⟩:=I.cell n c e;exact z.lt
 have fresh:H s.heap.objs.size=none:=I.hok.fresh (Nat.le_refl _);refine⟨⟨I.ok.mod,L.kind,I.ok.glob,I.ok.blt,Nat.le_refl _,fun a b c h1 h2=>I.ok.inj a b c (sub a c h1) (sub b c h2),fun a ha=>?_,fun a c h=>(by cases h),I.ok.hd,I.ok.frames,.inl rfl,fun b hb=>⟨Nat.ne_of_lt (hfp b hb).2,fun a c e=>?_⟩,fun b o e=>I.bs b o e,Nat.le_trans I.ok.bsz I.sz,fun b o e hb=>?_,fun b hb z=>?_,I.stack,I.stkFree⟩,
  rfl,I.bare,Un.kept hk,⟨m,hns,fun i y v e1 e2 e3=>?_⟩,fun a c e=>?_,fresh,fun a c e=>I.freeC a c (sub a c e),fun p hp=>absurd (show p∈([]:List (Addr × Obj))from hp) (by simp),I.hok.kept hk,?_⟩
 ·
  have ha':(scope.names.map fun(n,k)=>if (k == NameKind.free && X.env.scope.kind == .function && X.env.kindOf n == some .cell)then (n,NameKind.cell)else (n,k)).lookup a=some .cell\/(scope.names.map fun(n,k)=>if (k == NameKind.free && X.env.scope.kind == .function && X.env.kindOf n == some .cell)then (n,NameKind.cell)else (n,k)).lookup a=some .free:=ha;have hf:scope.names.lookup a=some .free:=by
   rcases ha' with z|z
   ·obtain⟨k0,h1,h2⟩:=zbm z;rcases h2 with h2|⟨h2,_⟩
    ·subst h2;exact absurd rfl (zy2 L _ (zha h1))
    ·rw[h2]at h1;exact h1
   ·obtain⟨k0,h1,h2⟩:=zbm z;rcases h2 with h2|⟨_,h2⟩
    ·rw[<-h2]at h1;exact h1
    ·cases h2
  exact zvy X.env scope.names [] a (zha hf) (zoy I L _ (zha hf) rfl)
 ·exact(hfp b hb).1.2.2.2.2.1 a c (sub a c e)
 ·rcases(hfp b hb).1.2.2.2.1 with z|z
  ·exact I.ok.noex b o e z
  ·exact absurd (Nat.lt_of_lt_of_le (Heap.lt_size e) (Nat.le_trans I.ok.bsz z)) (Nat.lt_irrefl _)
 ·rcases List.mem_cons.mp (I.stkSub b z)with q|q
  ·exact(hfp b hb).1.2.1 q
  ·exact(hfp b hb).1.2.2.1 q
 ·
  cases i with
  |zero=>simp[ych]at e2
  |succ j=>
   have e1':M'[j]?=some y:=e1;have e2':(ix.map fun i=>(st[i]?).getD none)[j]?=some (some v):=e2;rw[List.getElem?_map]at e2';cases ej:ix[j]? with
   |none=>rw[ej]at e2';cases e2'
   |some i0=>
    rw[ej]at e2';have e4:(st[i0]?).getD none=some v:=Option.some.inj e2';have e5:st[i0]?=some (some v):=by
     cases q:st[i0]? with
     |none=>rw[q]at e4;cases e4
     |some o=>rw[q]at e4;exact congrArg some e4
    have e6:X.N[i0]?=some y:=by
     have z:=congrArg (fun l=>l[j]?) L.at_;simp only[List.getElem?_map,ej,e1',Option.map_some]at z;exact Option.some.inj z
    have q:=List.all_eq_true.mp L.vis y (List.mem_of_getElem? e1');simp only[Bool.and_eq_true,Bool.or_eq_true]at q;have kx:X.env.scope.names.lookup y=some .cell\/X.env.scope.names.lookup y=some .free:=by
     rcases q.1 with z|z
     ·exact .inl (eq_of_beq z)
     ·exact .inr (eq_of_beq z)
    have ky:scope.names.lookup y=some .free:=eq_of_beq q.2;obtain⟨m0,hn0,hl0⟩:=I.loc;obtain⟨u,ru,lu⟩:=hl0 i0 y v e6 e5 (by rcases kx with z|z;exact .inr (.inl z);exact .inr (.inr z));refine⟨u,ru,.inr ⟨zc5 (env:=X.env) ky,?_⟩⟩;rcases lu with⟨z,_⟩|⟨_,c,ec,zc⟩
    ·rcases kx with k|k
     ·rw[show X.env.kindOf y=X.env.scope.names.lookup y from rfl,k]at z;cases z
     ·rw[show X.env.kindOf y=X.env.scope.names.lookup y from rfl,k]at z;cases z
    ·obtain⟨c',hc'⟩:=zvy X.env scope.names [] y (zha ky) (zoy I L _ (zha ky) rfl);have e7:=sub y c' hc';rw[ec]at e7;cases e7;obtain⟨o,ho,hd⟩:=zc;exact⟨c,hc',o,hk _ _ ho,hd⟩
 ·obtain⟨v,o,ho,hd⟩:=I.cell a c (sub a c e);exact⟨v,o,hk _ _ ho,hd⟩
 ·simp[ych,blk];have z:=congrArg List.length L.at_;simpa using z
end
def nox{α:Type}(m:M α):M α:=fun σ=>match m σ with
 | .ex _ _=>.bad
 |o=>o
theorem yhc.bind0{α β γ δ:Type}{T:Tb}{E E0:XK}{R:List Addr->Hp->α->γ->Prop}{R':List Addr->Hp->β->δ->Prop}{μ:List Addr}{H:Hp}{m:M α}{k:α->M β}{σ:Sto}{Q:δ->Hp->Prop}{Q1:γ->Hp->Prop}
  (h:yhc T E R' μ H (bnd (nox m) k σ) Q) (f:∀ a σ1 μ1 g H1,m σ=.ok a σ1->Ext μ H μ1 H1->Rel T μ1 H1 σ1->R μ1 H1 a g->yhc T E R' μ1 H1 (k a σ1) Q->Q1 g H1):yhc T E0 R μ H (m σ) Q1:=by
 unfold bnd nox at h;cases e:m σ with
 |ok a σ1=>
  simp only[e]at h;exact fun μ' g H' e' r q=>f a σ1 μ' g H' e e' r q (h.mono e')
 |ex x σ1=>simp only[e]at h;exact h.elim
 |bad=>simp only[e]at h;exact h
def zyo(nx:Src)(n:Nat)(tg:D->Ev->Option Ev)(fi:Ev->M Bool)(fe:Ev->M D):Nat->Nat->Ev->M Unit
 |0,_,_=>bad
 |k+1,i,ρ=>fun σ=>match nx.nx i σ with
  |none=>.bad
  |some none=>.ok () σ
  |some (some d)=>match tg d ρ with
   |none=>.bad
   |some ρ1=>bnd (nox (fi ρ1)) (fun c=>if c=true then bnd (nox (fe ρ1)) fun y=>bnd (zr8 (.ref n) [y]) fun _=>zyo nx n tg fi fe k (i+1) ρ1 else zyo nx n tg fi fe k (i+1) ρ1) σ
def lcK(tg:D->Ev->Option Ev)(fi:Ev->M Bool)(fe:Ev->M D)(ρ:Ev)(nx:Src):M D:=fun σ=>
 bnd (zyo nx σ.length tg fi fe 1001 0 ρ) (fun _=>ret (.ref σ.length)) (σ++[.lst []])
def eLC(src:Ev->M Src)(ix:List Nat)(tg:D->Ev->Option Ev)(fi:Ev->M Bool)(fe:Ev->M D):Ev->M D:=fun ρ=>bnd (src ρ) (lcK tg fi fe (ycg ix ρ))
def FIf(T:Tb)(X:Cx)(ifs:List Expr)(f:Ev->M Bool):Prop:=
 ∀ (pins:List (Addr × Obj)) (s:Shared) (st:St) (H:Hp) (Q:Bool->Hp->Prop),Inv X pins st H s->tT T X f st H Q->
  wpAny (model X.prog X.w) X.A (forIn ifs true fun c r=>if r=true then do let ok <-isTrue c X.env (eval c X.env);pure (ForInStep.yield ok)else pure (ForInStep.yield r)) (TP X pins st Q) X.xe s
def ycf:Ev->M Bool:=fun _=>ret true
section
variable{T:Tb}{X:Cx}
theorem zpt:FIf T X [] ycf:=by
 intro pins s st H Q I h;obtain⟨μ,ρ,σ,hE,hr,hp⟩:=h;exact wpAny_tests_nil ⟨H,I,yhc.here hp hr rfl⟩
theorem zpu{c:Expr}{f:Ev->M Bool}(h:FT T X c f):FIf T X [c] f:=fun pins s st H Q I hw=>wpAny_tests_one (h pins s st H Q I hw)
theorem zu2{fs ex:List Addr}{H H':Hp}{h h1 h2:Heap}{C:Addr}(u:Un fs ex H H' h h1)(hs:Heap.SameBut C h1 h2)(hC:h.objs.size<=C):Un fs ex H H' h h2:=by
 have ne:∀ b o,h.get? b=some o->b≠C:=fun b o e=>Nat.ne_of_lt (Nat.lt_of_lt_of_le (Heap.lt_size e) hC);refine⟨fun b o e n hb hx=>(hs.2 b (ne b o e)).trans (u.keep b o e n hb hx),fun b o e n hb hx=>?_,u.free,fun b o e hx=>?_,u.tups,u.frzs,u.tbls⟩
 ·obtain⟨sl,q⟩:=u.slot b o e n hb hx;exact⟨sl,(hs.2 b (ne b o e)).trans q⟩
 ·obtain⟨o',q⟩:=u.there b o e hx;exact⟨o',(hs.2 b (ne b o e)).trans q⟩
theorem zks{P:Program}{w:World}{H:Hp}{h1 h2:Heap}{C:Addr}(ok:HOk P w H h1)(hs:Heap.SameBut C h1 h2)(hC:H C=none):HOk P w H h2:=fun b ob e=>by
 refine(ok b ob e).stay (fun c w' hc q=>(hs.2 c ?_).trans q) (fun _ q=>q) fun _ _ q=>q;rintro rfl;rcases hc with rfl|hc
 ·rw[hC]at e;cases e
 ·rw[hC]at hc;cases hc
theorem zn8{E:XK}{μ:List Addr}{H:Hp}{σ:Sto}{n:Nat}{a:Addr}{y:D}{v:V}{Q:VK}(r:Rel T μ H σ)(hn:μ[n]?=some a)(hy:Rep T μ H y v)(h:yhc T E (Rep T) μ H (zr8 (.ref n) [y] σ) Q):ztc (.ref a) [v] H Q:=
 zfk E μ H σ (.ref n) [y] (.ref a) [v] Q r (by rw[Rep];exact⟨a,rfl,hn⟩) (yhi.cons hy yhi.nil) h
theorem zf6{α β:Type}{m m':M α}{k:α->M β}{σ:Sto}(h:m σ=m' σ):bnd m k σ=bnd m' k σ:=by unfold bnd;rw[h]
theorem zf5{α β γ:Type}{m:M α}{k:α->M β}{l:β->M γ}:bnd (bnd m k) l=bnd m fun a=>bnd (k a) l:=by
 funext σ;unfold bnd;cases m σ<;>rfl
theorem zra{E:XK}{elt iter tgt:Expr}{ifs:List Expr}{scope:Scope}{pos:Pos}{x:Str}{M':List Str}{ix:List Nat}{tg:D->Ev->Option Ev}{fi:Ev->M Bool}{fe:Ev->M D}
  {pins:List (Addr × Obj)} {st:St} {H3:Hp} {s3:Shared} {h₁:Heap} {t':Nat} {m:Str->Option Value} {fp:List Addr} {it D0:Addr} {tn:Nat->Heap->Prop} {J:It} {nx:Src} {μ3:List Addr} {σ3:Sto} {ρ:Ev} {n:Nat} {Q:VK}
  (hc:X.calm=true) (L:LcOk X x M' ix scope)
  (htg:∀ cl C s₀ H₀ ex,FG T (blk X (x::M') scope cl C s₀ H₀ ex) tgt tg)
  (hif:∀ cl C s₀ H₀ ex,FIf T (blk X (x::M') scope cl C s₀ H₀ ex) ifs fi)
  (helt:∀ cl C s₀ H₀ ex,FE T (blk X (x::M') scope cl C s₀ H₀ ex) elt fe)
  (I3:Inv X pins st H3 s3) (hfp:∀ b∈fp,yg0 X pins H3 b/\b<s3.heap.objs.size) (hns:h₁.Ns s3.heap.objs.size m) (kp:∀ b o,s3.heap.get? b=some o->h₁.get? b=some o)
  (TT:Turn X.prog X.w X.K tgt J fp it tn) (hst4:tn 0 h₁) (so:yca T μ3 H3 nx J) (hE:ygw T μ3 H3 ρ st) (r3:Rel T μ3 H3 σ3) (hn:μ3[n]?=some D0)
  (p3:yhc T E (Rep T) μ3 H3 (bnd (zyo nx n tg fi fe 1001 0 (ycg ix ρ)) (fun _=>ret (.ref n)) σ3) Q) {RR:Result->Shared->Prop}
  (fin:∀ (s6:Shared) (H':Hp) (m6:Str->Option Value),s6.heap.Ns s3.heap.objs.size m6->H' s3.heap.objs.size=none->Un (frs X.stack) fp H3 H' s3.heap s6.heap->s6.os=s3.os->HOk X.prog X.w H' s6.heap->AllBare s6.gens->Q (.ref D0) H'->RR (.ok .next) s6) :
  codeAny (model X.prog X.w) X.A (.compStart (.ListComp elt [⟨tgt,iter,ifs,0⟩] scope pos) 0 (.ref it) (.ref D0) (compEnvC scope (yh7 X.env scope.names []) s3.heap.objs.size X.env))
   RR { s3 with heap:=h₁,toks:=t' }:=by
 have I4:=zf4 (h':=h₁) (t':=t') I3 L hfp hns kp;let Y:Cx:=blk X (x::M') scope (yh7 X.env scope.names []) s3.heap.objs.size s3 H3 fp;have stat:∀ {H':Hp},(∀ b∈fp,H' b=none)->∀ b∈fp,yg0 Y [] H' b:=fun {H'} hn b hb=>⟨hn b hb,(I4.ok.exf b hb).1,I4.ok.exfs b hb,.inl hb,(I4.ok.exf b hb).2,fun p hp=>absurd (show p∈([]:List (Addr × Obj))from hp) (by simp)⟩
 have yjc:codeAny (model X.prog X.w) X.A (.compLoop (.ListComp elt [⟨tgt,iter,ifs,0⟩] scope pos) 0 (.ref it) (.ref D0) Y.env) RR { s3 with heap:=h₁,toks:=t' }:=by
  refine codeAny_loop rfl (fun k s'=>∃ i μ' H' σ' ρ' st',Inv Y [] st' H' s'/\tn i s'.heap/\(∀ b∈fp,H' b=none)/\Ext μ3 H3 μ' H'/\ygw T μ' H' ρ' st'/\Rel T μ' H' σ'/\
   yhc T E (Rep T) μ' H' (bnd (zyo nx n tg fi fe k i ρ') (fun _=>ret (.ref n)) σ') Q) ?_ 1001 ⟨0,μ3,H3,σ3,ycg ix ρ,ych ix st,I4,hst4,fun b hb=>(hfp b hb).1.1,Ext.refl _ _,zok ix hE,r3,p3⟩
  rintro k s' ⟨i,μ',H',σ',ρ',st',I',tn',fr',ex',hE',r',p'⟩;show wpAny _ X.A ((compTurn (.ListComp elt [⟨tgt,iter,ifs,0⟩] scope pos) 0 (.ref it) (.ref D0) Y.env).onRaise (fun x=>do noteFrame x Y.env;theTreesLotGoes x)) _ _ s';refine wpAny_noted ?_;rw[compTurn_list];refine wpAny_mono (E:=fun _ _=>False) ?_ (fun _ _ z=>z) (fun _ _ z=>z.elim);refine wpAny_bind (wpAny_standAt ?_);cases k with
  |zero=>exact p'.elim
  |succ k=>
   have so':=so μ' H' σ' i ex' r';cases en:nx.nx i σ' with
   |none=>
    have e1:zyo nx n tg fi fe (k+1) i ρ' σ'=.bad:=by unfold zyo;simp only[en]
    rw[zf6 (m':=bad) e1]at p';exact p'.elim
   |some od=>
    rw[en]at so';cases od with
    |none=>
     have e1:zyo nx n tg fi fe (k+1) i ρ' σ'=.ok () σ':=by unfold zyo;simp only[en]
     rw[zf6 (m':=ret ()) e1]at p';refine wpAny_bind (thn (TT.done Y rfl rfl rfl hc i [] s' st' H' (fun _ _=>False) I' (stat fr') tn' so') fun r s6 ⟨er,I6⟩=>?_);subst er;refine wpAny_pure ?_;obtain⟨m6,hm6,_⟩:=I6.loc;exact fin s6 H' m6 hm6 I6.free I6.base I6.os I6.hok I6.bare (yhc.here p' r' (by rw[Rep];exact⟨_,rfl,ex'.get hn⟩))
    |some d=>
     refine wpAny_bind (thn (TT.item Y rfl rfl rfl hc i [] s' st' H' (fun _ _=>False) I' (stat fr') tn' so'.1) fun r s6 ⟨u,er,h6⟩=>?_);subst er;refine wpAny_bind (thn h6 fun _ s7 ⟨xv,H7,I7,r7,y7,tn7,fr7⟩=>?_);obtain⟨eH,hd⟩:=so'.2 xv H7 y7;subst eH;cases et:tg d ρ' with
     |none=>
      have e1:zyo nx n tg fi fe (k+1) i ρ' σ'=.bad:=by unfold zyo;simp only[en,et]
      rw[zf6 (m':=bad) e1]at p';exact p'.elim
     |some ρ1=>
      have e1:zyo nx n tg fi fe (k+1) i ρ' σ'=bnd (nox (fi ρ1)) (fun c=>if c=true then bnd (nox (fe ρ1)) fun y=>bnd (zr8 (.ref n) [y]) fun _=>zyo nx n tg fi fe k (i+1) ρ1 else zyo nx n tg fi fe k (i+1) ρ1) σ':=by
       conv=>lhs;unfold zyo
       simp only[en,et]
      rw[zf6 e1,zf5]at p';have I7':=I7.pinned (stat fr7) (TT.obj _ _ tn7);refine wpAny_bind (thn (htg _ _ _ _ _ _ s7 st' H7 xv u (fun st8 H8=>H8=H7/\ygw T μ' H7 ρ1 st8) I7' r7 ⟨μ',σ',ρ',d,ρ1,hE',r',hd,et,fun st8 hE8=>⟨rfl,hE8⟩⟩) fun _ s8 ⟨st8,H8,I8,eH8,hE8⟩=>?_);subst eH8;refine wpAny_bind (thn (hif _ _ _ _ _ _ s8 st8 H8 (fun c H9=>∃ μ9 σ9,Ext μ' H8 μ9 H9/\Rel T μ9 H9 σ9/\yhc T E (Rep T) μ9 H9 (bnd (if c=true then bnd (nox (fe ρ1)) fun y=>bnd (zr8 (.ref n) [y]) fun _=>zyo nx n tg fi fe k (i+1) ρ1 else zyo nx n tg fi fe k (i+1) ρ1) (fun _=>ret (.ref n)) σ9) Q) I8
       ⟨μ',ρ1,σ',hE8,r',p'.bind0 fun c σ9 μ9 c' H9 _ e9 r9 q9 p9=>by cases q9;exact⟨μ9,σ9,e9,r9,p9⟩⟩) fun c s9 ⟨H9,I9,μ9,σ9,e9,r9,p9⟩=>?_)
      have again:∀ {s11:Shared} {H11:Hp} {μ11:List Addr} {σ11:Sto},Inv Y ([]++yac fp s7.heap) st8 H11 s11->Ext μ' H8 μ11 H11->Rel T μ11 H11 σ11->yhc T E (Rep T) μ11 H11 (bnd (zyo nx n tg fi fe k (i+1) ρ1) (fun _=>ret (.ref n)) σ11) Q->
        ∃ m,m<k+1/\∃ i μ' H' σ' ρ' st',Inv Y [] st' H' s11/\tn i s11.heap/\(∀ b∈fp,H' b=none)/\Ext μ3 H3 μ' H'/\ygw T μ' H' ρ' st'/\Rel T μ' H' σ'/\yhc T E (Rep T) μ' H' (bnd (zyo nx n tg fi fe m i ρ') (fun _=>ret (.ref n)) σ') Q:=by
       intro s11 H11 μ11 σ11 I11 e11 r11 p11;refine⟨k,Nat.lt_succ_self _,i+1,μ11,H11,σ11,ρ1,st8,I11.unpinned,TT.keep _ _ _ tn7 (fun b hb o e=>(I11.pin (b,o) (List.mem_append_right _ (List.mem_append_right _ (ze5 hb e)))).1),fun b hb=>?_,ex'.trans e11,hE8.mono e11,r11,p11⟩;obtain⟨o,e,_⟩:=TT.obj _ _ tn7 b hb;exact(I11.pin (b,o) (List.mem_append_right _ (List.mem_append_right _ (ze5 hb e)))).2.1
      cases c with
      |false=>
       rw[if_neg Bool.false_ne_true]at p9;exact wpAny_pure ⟨rfl,again I9 e9 r9 p9⟩
      |true=>
       rw[if_pos rfl,zf5]at p9;refine wpAny_bind (wpAny_bind (thn (helt _ _ _ _ _ _ s9 st8 H9 (fun v H10=>∃ y μ10 σ10,Ext μ' H8 μ10 H10/\Rel T μ10 H10 σ10/\Rep T μ10 H10 y v/\yhc T E (Rep T) μ10 H10 (bnd (zr8 (.ref n) [y]) (fun _=>bnd (zyo nx n tg fi fe k (i+1) ρ1) (fun _=>ret (.ref n))) σ10) Q) I9
        ⟨μ9,ρ1,σ9,hE8.mono e9,r9,p9.bind0 fun y σ10 μ10 v H10 _ e10 r10 q10 p10=>⟨y,μ10,σ10,e9.trans e10,r10,q10,by rw[zf5]at p10;exact p10⟩⟩) fun w s10 ⟨v,H10,I10,rw10,y,μ10,σ10,e10,r10,q10,p10⟩=>?_))
       have happ:=zn8 (Q:=fun _ H11=>∃ μ11 σ11,Ext μ' H8 μ11 H11/\Rel T μ11 H11 σ11/\yhc T E (Rep T) μ11 H11 (bnd (zyo nx n tg fi fe k (i+1) ρ1) (fun _=>ret (.ref n)) σ11) Q) r10 ((ex'.trans e10).get hn) q10
        (p10.bind fun _ σ11 μ11 v11 H11 _ e11 r11 q11 p11=>⟨μ11,σ11,e10.trans e11,r11,p11⟩)
       refine wpAny_bind (thn (zhd (X:=Y) _ s10 st8 H10 (.ref D0) [v] (.ref D0) [w] _ I10 rfl (.cons rw10 .nil) happ) fun _ s11 ⟨v11,H11,I11,_,μ11,σ11,e11,r11,p11⟩=>?_);exact wpAny_pure (wpAny_pure ⟨rfl,again I11 e11 r11 p11⟩)
 exact codeAny_compStart_list yjc (TT.self X.A 0 _ _ _ hst4 yjc)
theorem yc8{elt iter tgt:Expr}{ifs:List Expr}{scope:Scope}{pos:Pos}{x:Str}{M':List Str}{ix:List Nat}{src:Ev->M Src}{tg:D->Ev->Option Ev}{fi:Ev->M Bool}{fe:Ev->M D}
  (hc:X.calm=true) (L:LcOk X x M' ix scope) (hsrc:FI T X tgt iter src)
  (htg:∀ cl C s₀ H₀ ex,FG T (blk X (x::M') scope cl C s₀ H₀ ex) tgt tg)
  (hif:∀ cl C s₀ H₀ ex,FIf T (blk X (x::M') scope cl C s₀ H₀ ex) ifs fi)
  (helt:∀ cl C s₀ H₀ ex,FE T (blk X (x::M') scope cl C s₀ H₀ ex) elt fe)
  (hs:∀ y,foldedSetIterable iter X.env y=pure y:=by intro _;rfl) :
  FE T X (.ListComp elt [⟨tgt,iter,ifs,0⟩] scope pos) (eLC src ix tg fi fe):=by
 intro pins s st H Q I h;obtain⟨μ,ρ,σ,hE,hr,hp⟩:=h;rw[eval_ListComp];refine wpAny_comprehension_free (use:=none) rfl hs (zeo X.env scope (zoy I L)) L.kind (fun y hy e=>?_) ?_
 ·have q:=List.all_eq_true.mp L.names y hy;rw[e]at q;simp only[beq_self_eq_true,Bool.not_true,Bool.false_or]at q;exact eq_of_beq q
 have h1:=hsrc pins s st H (fun J H2=>∃ nx μ2 σ2,Ext μ H μ2 H2/\Rel T μ2 H2 σ2/\yca T μ2 H2 nx J/\yhc T (XE X st) (Rep T) μ2 H2 (bnd (zyo nx σ2.length tg fi fe 1001 0 (ycg ix ρ)) (fun _=>ret (.ref σ2.length)) (σ2++[Ob.lst []])) Q) I
  ⟨μ,ρ,σ,hE,hr,hp.bind fun nx σ1 μ1 J H1 _ e1 r1 q1 p1=>⟨nx,μ1,σ1,e1,r1,q1,p1⟩⟩
 refine thn h1 fun v s1 h2=>thn h2 fun itv s2 h3=>?_;obtain⟨it,fp,tn,J,H2,rfl,I2,TT,st2,f2,nx,μ2,σ2,ex2,r2,so,p2⟩:=h3;refine wpAny_newObj_type (wpAny_newFunctionEnv (zy2 L) (by intro y hy;simp at hy) (fun h₁ hns₁ hsb₁=>?_) L.kind);have I3:=I2.lnew (ys:=[]) (its:=[]) (t':=s2.toks) .nil (by simp);have fr2:H2 s2.heap.objs.size=none:=I2.hok.fresh (Nat.le_refl _);have r3:=r2.push (p:=s2.heap.objs.size) (o:=.lst []) (ob:=.lst []) fr2 ⟨[],znp,yhi.nil⟩;have ex3:Ext μ2 H2 (μ2++[s2.heap.objs.size]) (upd H2 s2.heap.objs.size (.lst [])):=zjw fr2;have hsz:s2.heap.objs.size<(s2.heap.push { cls:=.type "list",data:=.seq ([]:List Value).toArray }).objs.size:=by rw[Heap.size_push];exact Nat.lt_succ_self _
 have kp:∀ b o,(s2.heap.push { cls:=.type "list",data:=.seq ([]:List Value).toArray }).get? b=some o->h₁.get? b=some o:=fun b o e=>hsb₁.extBut b o (Nat.ne_of_lt (Heap.lt_size e)) (Heap.get?_push_of_some _ e);have hfp:∀ b∈fp,yg0 X pins (upd H2 s2.heap.objs.size (.lst [])) b/\b<(s2.heap.push { cls:=.type "list",data:=.seq ([]:List Value).toArray }).objs.size:=fun b hb=>by
  obtain⟨o,e,_⟩:=TT.obj 0 _ st2 b hb;have lt:=Heap.lt_size e;exact⟨⟨by rw[ybq (Nat.ne_of_lt lt)];exact(f2 b hb).1,(f2 b hb).2⟩,Nat.lt_trans lt hsz⟩
 refine zra (s3:={ s2 with heap:=s2.heap.push { cls:=.type "list",data:=.seq ([]:List Value).toArray },toks:=s2.toks }) (n:=σ2.length) (D0:=s2.heap.objs.size) hc L htg hif helt I3 hfp hns₁ kp TT (TT.keep 0 _ _ st2 fun b hb o e=>kp b o (Heap.get?_push_of_some _ e))
  (fun μ H σ i ex r=>so μ H σ i (ex3.trans ex) r) ((hE.mono ex2).mono ex3) r3 (by rw[<-r2.len];simp) (p2.mono ex3) (fun s6 H' m6 hm6 hC' hu0 hos hok6 hb6 hq=>⟨m6,hm6,fun h7 hs7=>?_⟩)
 have hu:=zu2 hu0 hs7 (Nat.le_refl _);have I7:=L2.Inv.call' (s':={ s6 with heap:=h7 }) (ch:=fp) I3 hos hu (zks hok6 hs7 hC') hb6 (fun b hb=>⟨(hfp b hb).1.2.2.2.1,(hfp b hb).1.2.1,(hfp b hb).1.2.2.2.2.1,(hfp b hb).1.2.2.2.2.2⟩);exact⟨.ref s2.heap.objs.size,H',I7,rfl,hq⟩
theorem zkj{elt iter tgt:Expr}{ifs:List Expr}{scope:Scope}{pos spos py:Pos}{x y:Str}{i:Nat}{M':List Str}{ix:List Nat}{src:Ev->M Src}{tg:D->Ev->Option Ev}{fi:Ev->M Bool}{fe:Ev->M D}
  (hN:X.N.Nodup) (hi:X.N[i]?=some y) (hx:Loc X.env.scope y)
  (hc:X.calm=true) (L:LcOk X x M' ix scope) (hsrc:FI T X tgt iter src)
  (htg:∀ cl C s₀ H₀ ex,FG T (blk X (x::M') scope cl C s₀ H₀ ex) tgt tg)
  (hif:∀ cl C s₀ H₀ ex,FIf T (blk X (x::M') scope cl C s₀ H₀ ex) ifs fi)
  (helt:∀ cl C s₀ H₀ ex,FE T (blk X (x::M') scope cl C s₀ H₀ ex) elt fe)
  (hs:∀ y,foldedSetIterable iter X.env y=pure y:=by intro _;rfl)
  (hsw:swapsWith (.ListComp elt [⟨tgt,iter,ifs,0⟩] scope pos) (some (.Name y py)) spos.line X.env=pure true:=by rfl)
  (hf:X.fn y=true\/X.env.scope.names.lookup y=some .local:=by first|exact .inl rfl|exact .inr rfl|assumption) :
  FS T X (.Assign [.Name y py] (.ListComp elt [⟨tgt,iter,ifs,0⟩] scope pos) spos) (yk0 i (eLC src ix tg fi fe)):=by
 intro pins s st H D I h;obtain⟨μ,ρ,σ,hE,hr,hp0⟩:=h;have hp:yhc T (XE X st) (Rep T) μ H (eLC src ix tg fi fe ρ σ) (fun v H1=>D.nx (st.set i (some v)) H1):=hp0.xs hE fun d σ1 μ1 v H1 _ e1 r1 q1 p1=>yhc.here (g:=Gl2.nx (st.set i (some v))) p1 r1 ((hE.mono e1).set i q1);rw[exec_Assign_Name_used _ _ _ _ hsw];refine wpAny_bind (wpAny_standAt (wpAny_bind ?_));show wpAny _ X.A (do let _ <-comprehension (.ListComp elt [⟨tgt,iter,ifs,0⟩] scope pos) scope X.env _ (newList []) false (eval iter X.env) (some (assign (.Name y py) X.env))) _ _ s;refine wpAny_bind (wpAny_mono (wpAny_comprehension_free (use:=some (assign (.Name y py) X.env)) (Q:=fun _ s'=>SP X pins D .next s') rfl hs (zeo X.env scope (zoy I L)) L.kind (fun y hy e=>?_)
  ?_) (fun _ s' hq=>wpAny_pure (wpAny_pure hq)) fun _ _ e=>e)
 ·have q:=List.all_eq_true.mp L.names y hy;rw[e]at q;simp only[beq_self_eq_true,Bool.not_true,Bool.false_or]at q;exact eq_of_beq q
 have h1:=hsrc pins s st H (fun J H2=>∃ nx μ2 σ2,Ext μ H μ2 H2/\Rel T μ2 H2 σ2/\yca T μ2 H2 nx J/\yhc T (XE X st) (Rep T) μ2 H2 (bnd (zyo nx σ2.length tg fi fe 1001 0 (ycg ix ρ)) (fun _=>ret (.ref σ2.length)) (σ2++[Ob.lst []])) (fun v H1=>D.nx (st.set i (some v)) H1)) I
  ⟨μ,ρ,σ,hE,hr,hp.bind fun nx σ1 μ1 J H1 _ e1 r1 q1 p1=>⟨nx,μ1,σ1,e1,r1,q1,p1⟩⟩
 refine thn h1 fun v s1 h2=>thn h2 fun itv s2 h3=>?_;obtain⟨it,fp,tn,J,H2,rfl,I2,TT,st2,f2,nx,μ2,σ2,ex2,r2,so,p2⟩:=h3;refine wpAny_newObj_type (wpAny_newFunctionEnv (zy2 L) (by intro y hy;simp at hy) (fun h₁ hns₁ hsb₁=>?_) L.kind);have I3:=I2.lnew (ys:=[]) (its:=[]) (t':=s2.toks) .nil (by simp);have fr2:H2 s2.heap.objs.size=none:=I2.hok.fresh (Nat.le_refl _);have r3:=r2.push (p:=s2.heap.objs.size) (o:=.lst []) (ob:=.lst []) fr2 ⟨[],znp,yhi.nil⟩;have ex3:Ext μ2 H2 (μ2++[s2.heap.objs.size]) (upd H2 s2.heap.objs.size (.lst [])):=zjw fr2;have hsz:s2.heap.objs.size<(s2.heap.push { cls:=.type "list",data:=.seq ([]:List Value).toArray }).objs.size:=by rw[Heap.size_push];exact Nat.lt_succ_self _
 have kp:∀ b o,(s2.heap.push { cls:=.type "list",data:=.seq ([]:List Value).toArray }).get? b=some o->h₁.get? b=some o:=fun b o e=>hsb₁.extBut b o (Nat.ne_of_lt (Heap.lt_size e)) (Heap.get?_push_of_some _ e);have hfp:∀ b∈fp,yg0 X pins (upd H2 s2.heap.objs.size (.lst [])) b/\b<(s2.heap.push { cls:=.type "list",data:=.seq ([]:List Value).toArray }).objs.size:=fun b hb=>by
  obtain⟨o,e,_⟩:=TT.obj 0 _ st2 b hb;have lt:=Heap.lt_size e;exact⟨⟨by rw[ybq (Nat.ne_of_lt lt)];exact(f2 b hb).1,(f2 b hb).2⟩,Nat.lt_trans lt hsz⟩
 refine zra (s3:={ s2 with heap:=s2.heap.push { cls:=.type "list",data:=.seq ([]:List Value).toArray },toks:=s2.toks }) (n:=σ2.length) (D0:=s2.heap.objs.size) hc L htg hif helt I3 hfp hns₁ kp TT (TT.keep 0 _ _ st2 fun b hb o e=>kp b o (Heap.get?_push_of_some _ e))
  (fun μ H σ i ex r=>so μ H σ i (ex3.trans ex) r) ((hE.mono ex2).mono ex3) r3 (by rw[<-r2.len];simp) (p2.mono ex3) (fun s6 H' m6 hm6 hC' hu0 hos hok6 hb6 hq=>?_)
 have I6:=L2.Inv.call' (s':=s6) (ch:=fp) I3 hos hu0 hok6 hb6 (fun b hb=>⟨(hfp b hb).1.2.2.2.1,(hfp b hb).1.2.1,(hfp b hb).1.2.2.2.2.1,(hfp b hb).1.2.2.2.2.2⟩);have ltL:X.env.locals<(s2.heap.push { cls:=.type "list",data:=.seq ([]:List Value).toArray }).objs.size:=I3.lt;have ltC:∀ z c,X.env.cells.lookup z=some c->c<(s2.heap.push { cls:=.type "list",data:=.seq ([]:List Value).toArray }).objs.size:=fun z c e=>by
  obtain⟨v,q⟩:=I3.cell z c e;exact q.lt
 show wpAny _ X.A (assign (.Name y py) X.env (.ref s2.heap.objs.size)) _ _ s6;refine wpAny_assign_Name (zib (v:=.ref s2.heap.objs.size) I6 hN hi hx rfl (fun s7 I7 ⟨a,sb,ha⟩=>?_) hf);have neC:a≠(s2.heap.push { cls:=.type "list",data:=.seq ([]:List Value).toArray }).objs.size:=by
  rcases ha with rfl|ha
  ·exact Nat.ne_of_lt ltL
  ·exact Nat.ne_of_lt (ltC _ _ ha)
 refine⟨m6,hm6.sameBut sb (Ne.symm neC),fun h8 hs8=>?_⟩;refine⟨st.set i (some (.ref s2.heap.objs.size)),H',?_,hq⟩;exact I7.turned (t':=s7.toks) (it:=(s2.heap.push { cls:=.type "list",data:=.seq ([]:List Value).toArray }).objs.size) (fun b o hb e=>(hs8.2 b hb).trans e) hC' (Nat.ne_of_gt ltL) (.inr (Nat.le_trans I3.sz (Nat.le_refl _))) (fun z c e=>Nat.ne_of_lt (ltC z c e)) (fun p hp=>Nat.ne_of_lt (Heap.lt_size (I3.pin p hp).1))
end
def yeu(x y:D):M D:=fun σ=>match yjd σ x,yjd σ y with
 |some xs,some ys=>if xs.length+ys.length<=cap then .ok (.lst (xs++ys)) σ else .bad
 |_,_=>.bad
def yjm(x y:D):M D:=match x,y with
 | .int i,.int j=>ret (.int (i+j))
 | .tup xs,.tup ys=>if xs.length+ys.length<=cap then ret (.tup (xs++ys))else bad
 | .str a,.str b=>if a.length+b.length<=100000 then ret (.str (a++b))else bad
 |x,y=>yeu x y
theorem zic{n:Nat}(h:n<=100000):n<=sizeLine:=Nat.le_trans h (by decide)
section
variable{T:Tb}{X:Cx}{a b c:Expr}{fa fb fc:Ev->M D}{pos:Pos}
theorem zi2{prog:Program}{w:World}{A:Around}{F:Value->Shared->Prop}{s:Shared}{t b:Addr}{ws:List Value}{Q:Value->Shared->Prop}(ht:IsTup s.heap t (#[]:Array Value))(hb:IsTup s.heap b ws.toArray)(h1:Q (.ref b) s):wpAny (model prog w) A (binaryOp .Add (.ref t) (.ref b)) Q F s:=by
 obtain⟨⟨cls,dd,data,sl⟩,ho,hc,n,hd⟩:=id ht;obtain⟨⟨cls2,dd2,data2,sl2⟩,ho2,hc2,n2,hd2⟩:=id hb;simp only at hc hd hc2 hd2;subst hc hd hc2 hd2;exact concat_meets ⟨_,ho,rfl⟩ ⟨_,ho2,rfl⟩ noFill_tuple_add seq_tuple_add PySem.F.slot_tuple_add PySem.F.entry_tuple_add (PySem.F.args_tuple_add_2 _ _)
  (tuple_addW0 t b #[] ws.toArray n n2 dd dd2 sl sl2 rfl) ⟨ho,ho2,h1⟩
theorem ziq{E:XK}{μ:List Addr}{H:Hp}{σ:Sto}{x y:D}{v u:V}{v' u':Value}{Q:VK}{pins:List (Addr × Obj)}{s:Shared}{st:St}(I:Inv X pins st H s)(rv:yhf v v')(ru:yhf u u')(r:Rel T μ H σ)(hx:Rep T μ H x v)(hy:Rep T μ H y u)(hp:yhc T E (Rep T) μ H (yeu x y σ) Q) :
  wpAny (model X.prog X.w) X.A (binaryOp .Add v' u') (EP X pins st Q) X.xe s:=by
 unfold yeu at hp;cases e1:yjd σ x with
 |none=>rw[e1]at hp;exact hp.elim
 |some xs=>
  cases e2:yjd σ y with
  |none=>rw[e1,e2]at hp;exact hp.elim
  |some ys=>
   rw[e1,e2]at hp;dsimp only at hp;by_cases hc:xs.length+ys.length<=cap
   ·rw[if_pos hc]at hp;obtain⟨p,vs,rfl,h1,h2⟩:=r.ls hx e1;obtain⟨q,ws,rfl,h3,h4⟩:=r.ls hy e2;exact zzl pins s st H _ _ v' u' Q I rv ru ⟨p,q,vs,ws,rfl,rfl,h1,h3,by rw[<-h2.length,<-h4.length];exact zvv hc,fun l hl=>zy1 hp r (yhi.append h2 h4) hl⟩
   ·rw[if_neg hc]at hp;exact hp.elim
theorem zsp(hK:T.K=X.K):OpR X (binaryOp .Add) (rD T yjm):=by
 intro pins s st H v u v' u' Q I rv ru h;obtain⟨E,μ,σ,x,y,r,hx,hy,hp⟩:=h;cases x with
 |int i=>
  cases y with
  |int j=>exact zzk pins s st H v u v' u' Q I rv ru ⟨i,j,zx7 hx,zx7 hy,yhc.here hp r (by rw[Rep])⟩
  |_=>exact ziq I rv ru r hx hy hp
 |str a=>
  cases y with
  |str b=>
   unfold yjm at hp;dsimp only at hp;by_cases hc:a.length+b.length<=100000
   ·rw[if_pos hc]at hp;exact ze7 pins s st H v u v' u' Q I rv ru ⟨a,b,by simpa [Rep]using hx,by simpa [Rep]using hy,zic hc,yhc.here hp r (by rw[Rep])⟩
   ·rw[if_neg hc]at hp;exact hp.elim
  |_=>exact ziq I rv ru r hx hy hp
 |tup xs=>
  cases y with
  |tup ys=>
   unfold yjm at hp;dsimp only at hp;by_cases hc:xs.length+ys.length<=cap
   ·rw[if_pos hc]at hp;have hx0:=hx;have hy0:=hy;rw[Rep]at hx hy;obtain⟨p,vs,rfl,h1,h2⟩:=hx;obtain⟨q,ws,rfl,h3,h4⟩:=hy;cases vs with
    |nil=>
     have e0:xs=[]:=by have:=h2.length;simpa using this
     subst e0;cases rv;cases ru;obtain⟨its,q1,t1,_⟩:=L2.Inv.tuple I (SqT.of (K:=X.K) h1);obtain⟨its2,q2,t2,_⟩:=L2.Inv.tuple I (SqT.of (K:=X.K) h3);cases q1;exact zi2 t1 t2 ⟨.ref q,H,I,rfl,yhc.here hp r (by simpa using hy0)⟩
    |cons v0 vr=>
     refine zsq pins s st H _ _ v' u' Q I rv ru ⟨p,q,_,ws,rfl,rfl,SqT.of h1,SqT.of h3,by simp,?_,fun e=>?_,fun e l hl=>?_⟩
     ·rw[<-h2.length,<-h4.length];exact zvv hc
     ·subst e;have e0:ys=[]:=by have:=h4.length;simpa using this
      subst e0;exact yhc.here hp r (by simpa using hx0)
     ·exact zr5 hp r (yhi.append h2 h4) hl
   ·rw[if_neg hc]at hp;exact hp.elim
  |_=>exact ziq I rv ru r hx hy hp
 |_=>exact ziq I rv ru r hx hy hp
theorem hu9{k:Nat}{A:Around}(hr:Room k A):A.units+9<cLine:=by have:=hr.un;omega
end
def yb1(K:PySem.W.Frag)(mg:Str->Option Value)(x:Str)(st:Stmt)(ps:List Str):Prop:=
 ∃ f fd,mg x=some (.ref f)/\Fun K x x st f fd/\∀ us:List Value,us.length=ps.length->bindArgs fd ⟨us,[]⟩=pure (ps.zip us)
def OkF(T:Tb)(P:Program)(w:World)(mg:Str->Option Value)(base:Heap)(k:Nat)(x:Str)(ps:List Str)(fn:List D->M D):Prop:=
 ∃ f fd,mg x=some (.ref f)/\PySem.W.keepIn T.K (.ref f)=true/\(∀ us:List Value,us.length=ps.length->bindArgs fd ⟨us,[]⟩=pure (ps.zip us))/\FnOk P w T.K mg base (CXE P w) k f fd ps (spF T ps.length fn)
section
variable{T:Tb}{X:Cx}
theorem zjy{k:Nat}{ps:List Str}{fn:List D->M D}{x:Str}{p pos:Pos}{e:Expr}{es:List Expr}{fs:Ev->M (List D)}(h:OkF T X.prog X.w X.mg X.base k x ps fn)(hK:T.K=X.K)(hr:Room k X.A)(hg:Gl X x)
  (ha:FA T X (e::es) fs) (hdb:(x == ("__debug__" : Str))=false:=by decide) (he:starEach (e::es) X.env=(false,eval e X.env)::starEach es X.env:=by rfl) (hpl:(backTo pos (starEach es X.env)).any (·.1)=false:=by rfl) :
  FE T X (.Call (.Name x p) (e::es) [] pos) (eFn ps.length fn [] fs):=by
 obtain⟨f,fd,hm,hk,hb,hF⟩:=h;rw[hK]at hk hF;exact zpl (dds:=[]) (dvs:=[]) hF hr hg hm hk (.all hb) .nil (fun _ _=>yhi.nil) ha hdb he hpl
variable{P:Program}{w:World}{K:PySem.W.Frag}{mg:Str->Option Value}{base:Heap}{ca:Nat->Addr}{tx:Tx}
theorem yfa{k:Nat}{x:Str}{st:Stmt}{ps N:List Str}{g:Ev->M Fl}(h:yb1 K mg x st ps)(S:FnScope N ps (zjb st))
  (hb:∀ (f:Addr) (cdv:Value) (A:Around) (outer:List Env) (s:Shared) (H:Hp) (E:XK),Room k (A.deeper (envOfC x (zjb st) s.heap.objs.size f cdv))->FSs ⟨K,ca,tx⟩ (yh9 (CXE P w) P w K mg base N x (zjb st) f cdv A outer s H E) (zo5 st) g) :
  OkF ⟨K,ca,tx⟩ P w mg base (k+1) x ps (run N.length g):=by
 obtain⟨f,fd,hm,F,hbd⟩:=h;obtain⟨oc,od,kV,doc,pm,an,cdv,ct,osl,rfl,lk,hcd⟩:=F.ex;exact⟨f,_,hm,F.kp,hbd,fok lk hcd S (hb f cdv)⟩
theorem OkF.frz{k:Nat}{x:Str}{ps:List Str}{fn:List D->M D}(h:OkF T P w mg base k x ps fn):OkF T P w mg base k x ps (fun ds=>L4.frz (fn ds)):=by
 obtain⟨f,fd,h1,h2,h3,h4⟩:=h;exact⟨f,fd,h1,h2,h3,zpz h4⟩
theorem mkF{h:Heap}{x:Str}{st:Stmt}{ps:List Str}{f:Addr}{oc:Value}{od an:Option Addr}{osl:Array (Option Value)}{kV doc pm cdv ct:Value}(X:K.In h)(G:h.Ns mainGlobals mg)
  (hb:∀ (kV doc pm:Value) (an:Option Addr) (cdv ct:Value) (us:List Value),us.length=ps.length->bindArgs (PySem.W.fnOf x x (zo4 st) (zo5 st) (zjb st) .none kV doc pm an cdv ct) ⟨us,[]⟩=pure (ps.zip us))
  (a:PySem.W.nsIn K mainGlobals x=some (some (.ref f))) (l:K.lookup f=some ⟨oc,od,.func (PySem.W.fnOf x x (zo4 st) (zo5 st) (zjb st) .none kV doc pm an cdv ct),osl⟩)
  (c:PySem.W.codeIn K cdv x=true) (k:PySem.W.keepIn K (.ref f)=true):yb1 K mg x st ps:=
 ⟨f,_,PySem.W.mg_of X G a,zxw l c k,hb kV doc pm an cdv ct⟩
end
def OkL(T:Tb)(P:Program)(w:World)(mg:Str->Option Value)(k:Nat)(x:Str)(ps:List Str)(fn:List D->M D):Prop:=
 ∃ f fd,mg x=some (.ref f)/\(∀ us:List Value,us.length=ps.length->bindArgs fd ⟨us,[]⟩=pure (ps.zip us))/\∀ base:Heap,FnOk P w T.K mg base (CXE P w) k f fd ps (spF T ps.length fn)
theorem zzj{P:Program}{w:World}{K:PySem.W.Frag}{mg:Str->Option Value}{ca:Nat->Addr}{tx:Tx}{k:Nat}{x:Str}{st:Stmt}{ps N:List Str}{g:Ev->M Fl}(h:yb1 K mg x st ps)(S:FnScope N ps (zjb st))
  (hb:∀ (base:Heap) (f:Addr) (cdv:Value) (A:Around) (outer:List Env) (s:Shared) (H:Hp) (E:XK),Room k (A.deeper (envOfC x (zjb st) s.heap.objs.size f cdv))->FSs ⟨K,ca,tx⟩ (yh9 (CXE P w) P w K mg base N x (zjb st) f cdv A outer s H E) (zo5 st) g) :
  OkL ⟨K,ca,tx⟩ P w mg (k+1) x ps (run N.length g):=by
 obtain⟨f,fd,hm,F,hbd⟩:=h;obtain⟨oc,od,kV,doc,pm,an,cdv,ct,osl,rfl,lk,hcd⟩:=F.ex;exact⟨f,_,hm,hbd,fun base=>fok lk hcd S (hb base f cdv)⟩
section
variable{T:Tb}{X:Cx}
end
structure Hd where
 t:Nat->Option Bool
 nm:Option Nat
 g:Ev->M Fl
def yls(i:Nat):Fl->M Fl
 | .nx ρ=>ret (.nx (ρ.set i none))
 | .rt d=>ret (.rt d)
 | .bk ρ=>ret (.bk (ρ.set i none))
 | .ct ρ=>ret (.ct (ρ.set i none))
 | .xc _ _=>bad
def noF:Fl->M Fl
 | .nx ρ=>ret (.nx ρ)
 | .rt d=>ret (.rt d)
 | .bk ρ=>ret (.bk ρ)
 | .ct ρ=>ret (.ct ρ)
 | .xc _ _=>bad
def hit(h:Hd)(ρ:Ev)(x:Xn):M Fl:=match h.nm with
 |none=>bnd (h.g ρ) noF
 |some i=>bnd (h.g (ρ.set i (some (.exn x.cls)))) (yls i)
abbrev Cx.inH(X:Cx)(e:Value):Cx:={ X with A:=X.A.mark (some e),calm:=false,xe:=fun _ _=>False }
abbrev Cx.inT(X:Cx)(pins:List (Addr × Obj))(xe:Value->Shared->Prop):Cx:={ X with xe:=xe,pn:=X.pn++pins }
section
variable{T:Tb}{X:Cx}{pins:List (Addr × Obj)}{st:St}{H:Hp}{s:Shared}{e:Value}{xe:Value->Shared->Prop}
end
def Lnd(X:Cx)(pins:List (Addr × Obj))(st:St)(H:Hp)(s:Shared)(ea:Addr)(cls:Value)(fd:Option Nat):Prop:=∃ H0 s0,Inv X pins st H0 s0/\Fly X.prog X.w X.stack H0 s0 cls fd H (.ref ea) s
section
variable{T:Tb}{X:Cx}{pins:List (Addr × Obj)}{st:St}{H:Hp}{s:Shared}{ea:Addr}{cls:Value}{fd:Option Nat}
theorem Lnd.next(L:Lnd X pins st H s ea cls fd){M:Model}{A:Around}{E:Value->Shared->Prop}{Q:Unit->Shared->Prop}(h:∀ s',Lnd X pins st H s' ea cls fd->Q () s'):wpAny M A (setFlight (.ref ea) none) Q E s:=by
 obtain⟨H0,s0,I,F⟩:=L;obtain⟨ea',a0,B,e,fl,hn,hnew,hT,hB,hA,hF⟩:=F.ex;cases e;refine zq7 fl fun h6 fl6 sl6 dk6=>h _ ?_;obtain⟨un,hok⟩:=zxg F hB hT hA fl.1 fl6.1 sl6 (zes I);exact⟨H0,s0,I,⟨ea,a0,B,rfl,fl6,hn,hnew,hT,hB,hA,hF.next dk6 (let ⟨o,e,_⟩:=fl6.there;⟨o,e⟩)⟩,F.os,F.bare,un,hok⟩
theorem Lnd.obj(L:Lnd X pins st H s ea cls fd):H ea=none/\(∃ o,s.heap.get? ea=some o/\o.cls=cls)/\∃ s0:Shared,s0.heap.get? ea=none/\∃ H0,Inv X pins st H0 s0:=by
 obtain⟨H0,s0,I,F⟩:=L;obtain⟨ea',a0,B,e,fl,hn,hnew,hT,hB,hA,hF⟩:=F.ex;cases e;exact⟨hn,fl.there,s0,hnew,H0,I⟩
end
def yb2(X:Cx)(x:Str)(cv:Value):Prop:=X.mg x=some cv\/(X.mg x=none/\bootBuiltins x=some cv/\x ≠ "__name__")
inductive FHs(T:Tb)(X:Cx):List ExceptHandler->List Hd->Prop where
 |nil:FHs T X [] []
 |cons {x:Str} {np pos:Pos} {cv:Value} {b₀:Stmt} {suite:List Stmt} {t:Nat->Option Bool} {g:Ev->M Fl} {r:List ExceptHandler} {hs:List Hd} (hg:Gl X x) (hd:(x == ("__debug__" : Str))=false) (hm:yb2 X x cv) (ht:∀ c b,t c=some b->PySem.W.exmOne X.K (.ref (T.ca c)) cv=some b)
   (hb:∀ e,FSs T (Cx.inH X e) (b₀::suite) g) (hr:FHs T X r hs):FHs T X (.ExceptHandler (some (.Name x np)) none (b₀::suite) pos::r) (⟨t,none,g⟩::hs)
 |consAs {x n:Str} {i:Nat} {np pos:Pos} {cv:Value} {b₀:Stmt} {suite:List Stmt} {t:Nat->Option Bool} {g:Ev->M Fl} {r:List ExceptHandler} {hs:List Hd} (hg:Gl X x) (hd:(x == ("__debug__" : Str))=false) (hm:yb2 X x cv) (ht:∀ c b,t c=some b->PySem.W.exmOne X.K (.ref (T.ca c)) cv=some b)
   (hN:X.N.Nodup) (hi:X.N[i]?=some n) (hl:X.env.scope.names.lookup n=some .local)
   (hb:∀ e,FSs T (Cx.inH X e) (b₀::suite) g) (hr:FHs T X r hs):FHs T X (.ExceptHandler (some (.Name x np)) (some n) (b₀::suite) pos::r) (⟨t,some i,g⟩::hs)
section
variable{T:Tb}{X:Cx}
end
theorem zqa{T:Tb}{X:Cx}{stm:Stmt}{i:Nat}{f:Ev->M D}(h:FS T X stm (yk0 i f)):FS T X stm (yk0 i (yie f)):=by
 intro pins s st H D I hw;obtain⟨μ,ρ,σ,hE,hr,hp⟩:=hw;refine h pins s st H D I ⟨μ,ρ,σ,hE,hr,?_⟩;have hp':yhc T EN (RFl T) μ H (xs ρ (frz (f ρ)) (yk2 i ρ) σ) (ygx X D):=hp;show yhc T EN (RFl T) μ H (xs ρ (f ρ) (yk2 i ρ) σ) (ygx X D);unfold xs frz at hp';unfold xs;cases e:f ρ σ with
 |bad=>rw[e]at hp';exact hp'
 |ex x σ1=>
  rw[e]at hp';unfold yis at hp';dsimp only at hp' ⊢;by_cases ht:σ1.take σ.length=σ
  ·rw[if_pos ht]at hp';intro μ1 gl H1 e1 r1 q1;cases gl with
   |xc st1 c1 fd1=>
    obtain⟨r2,e2⟩:=Rel.down hr r1 e1 ht;obtain⟨qE,qc⟩:=q1;refine hp' μ (.xc st1 c1 fd1) H1 e2 r2 ⟨⟨qE.1,fun j d ej=>?_⟩,qc⟩;obtain⟨v,h1,h2⟩:=qE.2 j d ej;obtain⟨v0,_,h4⟩:=hE.2 j d ej;exact⟨v,h1,Rep.down e1.pre d v0 v h4 h2⟩
   |_=>exact q1.elim
  ·rw[if_neg ht]at hp';exact hp'.elim
 |ok d σ1=>
  rw[e]at hp';unfold yis at hp';dsimp only at hp' ⊢;by_cases ht:σ1.take σ.length=σ
  ·rw[if_pos ht]at hp';cases ef:fz σ.length σ1 6 d with
   |none=>rw[ef]at hp';exact hp'.elim
   |some d'=>
    rw[ef]at hp';intro μ1 gl H1 e1 r1 q1;cases gl with
    |nx st1=>
     obtain⟨r2,e2⟩:=Rel.down hr r1 e1 ht;have q1':ygw T μ1 H1 (ρ.set i (some d)) st1:=q1;refine hp' μ (.nx st1) H1 e2 r2 ⟨by simpa using q1'.1,fun j x ej=>?_⟩;rw[List.getElem?_set]at ej;by_cases hj:i=j
     ·subst hj;rw[if_pos rfl]at ej;split at ej
      ·rename_i hl
       cases ej;obtain⟨v,h1,h2⟩:=q1'.2 i d (by rw[List.getElem?_set,if_pos rfl,if_pos hl]);exact⟨v,h1,zxz e1.pre r1 6 d d' v (by rw[hr.len];exact ef) h2⟩
      ·cases ej
     ·rw[if_neg hj]at ej;obtain⟨v,h1,h2⟩:=q1'.2 j x (by rw[List.getElem?_set,if_neg hj];exact ej);obtain⟨v0,_,h4⟩:=hE.2 j x ej;exact⟨v,h1,Rep.down e1.pre x v0 v h4 h2⟩
    |_=>exact q1.elim
  ·rw[if_neg ht]at hp';exact hp'.elim
def yci:List D->Option (List Bool)
 |[]=>some []
 | .bl b::r=>(yci r).map (b::·)
 |_::_=>none
def zx8:List D->Option (List Int)
 |[]=>some []
 | .int b::r=>(zx8 r).map (b::·)
 |_::_=>none
theorem zkw{T:Tb}{μ:List Addr}{H:Hp}:∀ {ds:List D} {vs:List V} {bs:List Int},yhi T μ H ds vs->zx8 ds=some bs->vs=bs.map V.int
 |[],vs,bs,r,h=>by cases h;rw[yhi]at r;exact r
 |d::ds,vs,bs,r,h=>by
  rw[yhi]at r;obtain⟨v,w,rfl,h1,h2⟩:=r;cases d with
  |int b=>
   obtain⟨cs,e1,e2⟩:=Option.map_eq_some_iff.mp h;subst e2;rw[Rep]at h1;subst h1;rw[zkw h2 e1];rfl
  |_=>cases h
def yjn(xs:List D):M D:=fun σ=>match xs with
 |[x]=>(match (yf0 σ x).bind yci with
  |some bs=>.ok (.bl (bs.all id)) σ
  |none=>.bad)
 |_=>.bad
def yj5(xs:List D):M D:=fun σ=>match xs with
 |[x]=>(match (yf0 σ x).bind zx8 with
  |some bs=>.ok (.int bs.sum) σ
  |none=>.bad)
 |_=>.bad
section
variable{T:Tb}{X:Cx}
def yfr(K:PySem.W.Frag):List V->Hp->VK->Prop:=fun xs H Q=>∃ (p:Addr) (bs:List Int),xs=[.ref p]/\(SqL K H p (bs.map V.int)\/SqT K H p (bs.map V.int))/\Q (.int bs.sum) H
theorem zk2{s:Shared}{o:Obj}{h':Heap}(k:∀ b u,b ∉ [s.heap.objs.size]->(s.heap.push o).get? b=some u->h'.get? b=some u):∀ b u,s.heap.get? b=some u->h'.get? b=some u:=fun b u e=>
 k b u (fun z=>absurd (Heap.lt_size e) (by rw[List.mem_singleton.mp z];exact Nat.lt_irrefl _)) (Heap.get?_push_of_some _ e)
theorem znu{pins:List (Addr × Obj)}{s:Shared}{st:St}{H:Hp}{p:Addr}{vs:List V}{E:Value->Shared->Prop}{Q:Value->Shared->Prop}(hh:X.A.handled=none)(I:Inv X pins st H s)(hq:SqL X.K H p vs\/SqT X.K H p vs)
  (h:∀ (its:List Value) (It:Addr) (fp:List Addr) (St:Nat->Heap->Prop) (s2:Shared),yho vs its->Walks X.prog X.w X.A.in1 It fp [It] its.toArray.size (fun i v=>its.toArray[i]?=some v) St->St 0 s2.heap->(∀ b∈fp,b<s2.heap.objs.size)->
   (∀ h' tk,(∀ b o,b ∉ [It]->s2.heap.get? b=some o->h'.get? b=some o)->Inv X pins st H { s2 with heap:=h',toks:=tk })->Q (.ref It) s2):wpAny (model X.prog X.w) X.A.in1 (pyIter (.ref p)) Q E s:=by
 rcases hq with hq|hq
 ·obtain⟨its,rv,pl,hz⟩:=I.list hq;have hlt:p<s.heap.objs.size:=by obtain⟨_,e,_⟩:=pl.isList;exact Heap.lt_size e
  refine wpAny_pyIter_list pl.isList (h its s.heap.objs.size [s.heap.objs.size,p] _ _ rv (Walks.list (A:=X.A.in1) hh _ p (Nat.ne_of_lt hlt) its.toArray) ⟨⟨_,Heap.get?_push_size _ rfl,rfl,rfl⟩,pl.isList.push _⟩ (fun b hb=>?_) (fun h' tk hk=>I.kept (zk2 hk)));show b<(s.heap.push _).objs.size;rw[Heap.size_push];simp only[List.mem_cons,List.not_mem_nil,or_false]at hb;rcases hb with rfl|rfl
  ·exact Nat.lt_succ_self _
  ·exact Nat.lt_succ_of_lt hlt
 ·obtain⟨its,rv,pl,hz⟩:=I.tuple hq;have hlt:p<s.heap.objs.size:=pl.lt;refine wpAny_pyIter_tuple (show s.heap.IsTuple p _ from pl) (h its s.heap.objs.size [s.heap.objs.size,p] _ _ rv (Walks.tuple (A:=X.A.in1) hh _ p (Nat.ne_of_lt hlt) its.toArray) ⟨⟨_,Heap.get?_push_size _ rfl,rfl,rfl⟩,Heap.IsTuple.push (show s.heap.IsTuple p _ from pl) _⟩ (fun b hb=>?_) (fun h' tk hk=>I.kept (zk2 hk)));show b<(s.heap.push _).objs.size;rw[Heap.size_push];simp only[List.mem_cons,List.not_mem_nil,or_false]at hb;rcases hb with rfl|rfl
  ·exact Nat.lt_succ_self _
  ·exact Nat.lt_succ_of_lt hlt
theorem zd6:∀ (bs:List Int) (n:Nat),n<=bs.length->preSum (fun i=>bs.getD i 0) n=(bs.take n).sum
 |bs,0,_=>by simp[preSum]
 |bs,n+1,h=>by
  rw[preSum,zd6 bs n (by omega),List.take_succ_eq_append_getElem (by omega),List.sum_append];simp[List.getD_eq_getElem?_getD,show n<bs.length by omega]
theorem zga(hc:X.calm=true):ybv X (.builtin "sum") (yfr X.K):=by
 intro pins s st H xs us Q I r h;obtain⟨p,bs,rfl,hq,q⟩:=h;obtain⟨u,rfl,ru⟩:=ygk r;cases ru;refine call_sum_walkG (znu (I.ok.hd hc) I hq fun its It fp St s2 rv W h0 hf hI=>?_);refine⟨_,_,_,_,_,_,fun i=>bs.getD i 0,rfl,W,h0,hf,fun i v hv=>?_,fun h' tk t' hk=>⟨.int bs.sum,H,hI h' tk hk,⟨t',?_⟩,q⟩⟩
 ·simp only[List.getElem?_toArray]at hv;obtain⟨x,h1,h2⟩:=znt rv hv;rw[List.getElem?_map]at h1;cases e:bs[i]? with
  |none=>rw[e]at h1;cases h1
  |some b=>
   rw[e]at h1;cases h1;obtain⟨t,rfl⟩:=h2;exact⟨t,by show Value.int b t=Value.int (bs.getD i 0) t;rw[List.getD_eq_getElem?_getD,e];rfl⟩
 ·have el:its.toArray.size=bs.length:=by rw[List.size_toArray,<-rv.length,List.length_map]
  rw[el,zd6 bs _ (Nat.le_refl _),List.take_length]
theorem zmz{α:Type}{σ:Sto}{x:D}{g:List D->Option α}{bs:α}(h:(yf0 σ x).bind g=some bs):∃ ys,yf0 σ x=some ys/\g ys=some bs:=Option.bind_eq_some_iff.mp h
theorem zup(hK:T.K=X.K):zn0 T (yfr X.K) yj5:=by
 intro E μ H σ xs vs Q r p h
 match xs with
 |[]=>exact h.elim
 |[x]=>
  rw[yhi]at p;obtain⟨v,w,rfl,p1,p2⟩:=p;rw[yhi]at p2;subst p2;unfold yj5 at h;cases e:(yf0 σ x).bind zx8 with
  |none=>simp only[e]at h;exact h.elim
  |some bs=>
   simp only[e]at h;obtain⟨ys,e1,e2⟩:=zmz e;obtain⟨b,vs,rfl,h1,h2⟩:=zt6 r p1 e1;rw[hK,zkw h1 e2]at h2;exact⟨b,bs,rfl,h2,yhc.here h r (by rw[Rep])⟩
 |_::_::_=>exact h.elim
def ye5(xs:List D):M D:=match xs with
 |[.int i,.int j]=>ret (.int (max i j))
 |_=>bad
theorem zno{μ:List Addr}{H:Hp}{x y:D}{vs:List V}(p:yhi T μ H [x,y] vs):∃ v u,vs=[v,u]/\Rep T μ H x v/\Rep T μ H y u:=by
 rw[yhi]at p;obtain⟨v,w,rfl,p1,p2⟩:=p;rw[yhi]at p2;obtain⟨u,w',rfl,p3,p4⟩:=p2;rw[yhi]at p4;subst p4;exact⟨v,u,rfl,p1,p3⟩
theorem zna:zn0 T (fun xs H Q=>∃ i j,xs=[.int i,.int j]/\Q (.int (if j > i then j else i)) H) ye5:=by
 intro E μ H σ xs vs Q r p h;unfold ye5 at h;split at h
 ·rename_i i j
  obtain⟨v,u,rfl,p1,p2⟩:=zno p;refine⟨i,j,by rw[zx7 p1,zx7 p2],?_⟩;have e:(if j > i then j else i)=max i j:=by rw[Int.max_def];split<;>split<;>omega
  rw[e];exact yhc.here h r (by rw[Rep])
 ·exact h.elim
def ddp(ns:List Int):List Int:=ns.foldl step_dedup []
theorem zgf(ns:List Int):firstMet (fun i=>ns.getD i 0) ns.length=ddp ns:=by
 unfold firstMet ddp;congr 1;apply List.ext_getElem?;intro i;by_cases h:i<ns.length
 ·simp[h]
 ·simp[h]
end
end L4
namespace HT
open PySem PySem.Spec PyProof.Rows
variable{prog:Program}{w:World}{A:Around}{E:Value->Shared->Prop}{s:Shared}
end HT
namespace L4
open PySem PySem.Spec PyProof.Rows L2
section
variable{T:Tb}{X:Cx}
def mnL(bs:List Int):Int:=bs.foldl min (bs.getD 0 0)
theorem zgn:∀ (bs:List Int) (c:Int),(bs.foldl min c<=c/\∀ b∈bs,bs.foldl min c<=b)/\(bs.foldl min c=c\/bs.foldl min c∈bs)
 |[],c=>by simp
 |b::bs,c=>by
  obtain⟨⟨h1,h2⟩,h3⟩:=zgn bs (min c b);rw[List.foldl_cons];refine⟨⟨by omega,fun x hx=>?_⟩,?_⟩
  ·rcases List.mem_cons.mp hx with rfl|hx
   ·omega
   ·exact h2 x hx
  ·rcases h3 with h3|h3
   ·rw[h3,Int.min_def];split
    ·exact .inl rfl
    ·exact .inr List.mem_cons_self
   ·exact .inr (List.mem_cons_of_mem _ h3)
theorem zyz{bs:List Int}{i:Nat}(hi:i<bs.length)(h:∀ j,j<bs.length->bs.getD i 0<=bs.getD j 0):bs.getD i 0=mnL bs:=by
 have hm:∀ j,j<bs.length->bs.getD j 0∈bs:=fun j hj=>by rw[List.getD_eq_getElem?_getD,List.getElem?_eq_getElem hj];exact List.getElem_mem hj
 have h0:0<bs.length:=by omega
 obtain⟨⟨h1,h2⟩,h3⟩:=zgn bs (bs.getD 0 0);have a:=h2 _ (hm i hi);have b:bs.getD i 0<=mnL bs:=by
  rcases h3 with h3|h3
  ·show _<=bs.foldl min (bs.getD 0 0);rw[h3];exact h 0 h0
  ·obtain⟨j,hj,e⟩:=List.getElem_of_mem h3;have:=h j hj;rw[List.getD_eq_getElem?_getD (i:=j),List.getElem?_eq_getElem hj]at this;show _<=bs.foldl min (bs.getD 0 0);rw[<-e];exact this
 exact Int.le_antisymm b a
def yki(K:PySem.W.Frag)(f:List Int->Int):List V->Hp->VK->Prop:=fun xs H Q=>∃ (p:Addr) (bs:List Int),xs=[.ref p]/\(SqL K H p (bs.map V.int)\/SqT K H p (bs.map V.int))/\0<bs.length/\Q (.int (f bs)) H
theorem zqw{bs:List Int}{its:List Value}{i:Nat}{v:Value}(rv:yho (bs.map V.int) its)(hv:its.toArray[i]?=some v):∃ t,v=Value.int (bs.getD i 0) t:=by
 simp only[List.getElem?_toArray]at hv;obtain⟨x,h1,h2⟩:=znt rv hv;rw[List.getElem?_map]at h1;cases e:bs[i]? with
 |none=>rw[e]at h1;cases h1
 |some b=>
  rw[e]at h1;cases h1;obtain⟨t,rfl⟩:=h2;exact⟨t,by show Value.int b t=Value.int (bs.getD i 0) t;rw[List.getD_eq_getElem?_getD,e];rfl⟩
theorem zf9(hc:X.calm=true):ybv X (.builtin "min") (yki X.K mnL):=by
 intro pins s st H xs us Q I r h;obtain⟨p,bs,rfl,hq,h0,q⟩:=h;obtain⟨u,rfl,ru⟩:=ygk r;cases ru;refine call_min_walk (znu (I.ok.hd hc) I hq fun its It fp St s2 rv W hz hf hI=>?_);have el:its.toArray.size=bs.length:=by rw[List.size_toArray,<-rv.length,List.length_map]
 refine⟨_,_,_,_,_,_,_,rfl,W,hz,hf,by omega,CmpOf.ints_lt (fun i=>bs.getD i 0) (fun i v hv=>zqw rv hv),fun v h' tk hv hk=>?_⟩;obtain⟨t,rfl⟩:=zqw rv hv;obtain⟨b1,b2⟩:=argBest_lt (fun i=>bs.getD i 0) (its.toArray.size - 1);refine⟨.int (mnL bs),H,hI h' tk hk,⟨t,?_⟩,q⟩;rw[zyz (i:=argBest (fun i j=>decide (bs.getD i 0<bs.getD j 0)) (its.toArray.size - 1)) (by omega) (fun j hj=>b2 j (by omega))]
def yjz(f:List Int->Int)(xs:List D):M D:=fun σ=>match xs with
 |[x]=>(match (yf0 σ x).bind zx8 with
  |some (b::bs)=>.ok (.int (f (b::bs))) σ
  |_=>.bad)
 |_=>.bad
theorem zuk{f:List Int->Int}(hK:T.K=X.K):zn0 T (yki X.K f) (yjz f):=by
 intro E μ H σ xs vs Q r p h
 match xs with
 |[]=>exact h.elim
 |[x]=>
  rw[yhi]at p;obtain⟨v,w,rfl,p1,p2⟩:=p;rw[yhi]at p2;subst p2;unfold yjz at h;cases e:(yf0 σ x).bind zx8 with
  |none=>simp only[e]at h;exact h.elim
  |some bs=>
   cases bs with
   |nil=>simp only[e]at h;exact h.elim
   |cons b bs=>
    simp only[e]at h;obtain⟨ys,e1,e2⟩:=zmz e;obtain⟨a,vs,rfl,h1,h2⟩:=zt6 r p1 e1;rw[hK,zkw h1 e2]at h2;exact⟨a,b::bs,rfl,h2,by simp,yhc.here h r (by rw[Rep])⟩
 |_::_::_=>exact h.elim
end
def OkD(T:Tb)(P:Program)(w:World)(mg:Str->Option Value)(base:Heap)(k:Nat)(x:Str)(ps:List Str)(dv:List Value)(fn:List D->M D):Prop:=
 ∃ f fd,mg x=some (.ref f)/\PySem.W.keepIn T.K (.ref f)=true/\ybt T.K fd ps []/\ybt T.K fd ps dv/\FnOk P w T.K mg base (CXE P w) k f fd ps (spF T ps.length fn)
section
variable{T:Tb}{X:Cx}
variable{P:Program}{w:World}{K:PySem.W.Frag}{mg:Str->Option Value}{base:Heap}{ca:Nat->Addr}{tx:Tx}
theorem OkD.frz{k:Nat}{x:Str}{ps:List Str}{dv:List Value}{fn:List D->M D}(h:OkD T P w mg base k x ps dv fn):OkD T P w mg base k x ps dv (fun ds=>L4.frz (fn ds)):=by
 obtain⟨f,fd,h1,h2,h3,h4,h5⟩:=h;exact⟨f,fd,h1,h2,h3,h4,zpz h5⟩
end
theorem OkF.hide{T:Tb}{P:Program}{w:World}{mg:Str->Option Value}{base:Heap}{k:Nat}{x:Str}{ps:List Str}{fn:List D->M D}(h:OkF T P w mg base k x ps fn):OkF T P w mg base k x ps (L4.hide fn):=by rw[zqo];exact h
theorem OkD.hide{T:Tb}{P:Program}{w:World}{mg:Str->Option Value}{base:Heap}{k:Nat}{x:Str}{ps:List Str}{dv:List Value}{fn:List D->M D}(h:OkD T P w mg base k x ps dv fn):OkD T P w mg base k x ps dv (L4.hide fn):=by rw[zqo];exact h
section
variable{T:Tb}{X:Cx}{μ:List Addr}{H:Hp}{σ:Sto}
def ydy(σ:Sto):D->Option (Nat × List (Str × D))
 | .obj c ns ds=>if ns.length=ds.length then some (c,ns.zip ds)else none
 | .ref n=>match σ[n]? with
  |some (.ins c fs)=>some (c,fs)
  |_=>none
 |_=>none
theorem zmn:∀ {ns:List Str} {ds:List D} {fs:List (Str × V)},fs.map (·.1)=ns->yhi T μ H ds (fs.map (·.2))->yhg T μ H (ns.zip ds) fs
 |[],ds,[],_,h=>by
  rw[List.map_nil]at h;cases ds with
  |nil=>exact Paired.nil
  |cons d ds=>have:=h.length;simp at this
 |[],ds,f::fs,e,_=>by simp at e
 |n::ns,ds,[],e,_=>by simp at e
 |n::ns,[],f::fs,e,h=>by have:=h.length;simp at this
 |n::ns,d::ds,f::fs,e,h=>by
  simp only[List.map_cons,List.cons.injEq]at e;rw[List.map_cons,yhi]at h;obtain⟨v,r,e2,h1,h2⟩:=h;simp only[List.cons.injEq]at e2;obtain⟨e3,e4⟩:=e2;subst e4;exact Paired.cons ⟨e.1.symm,by rw[e3];exact h1⟩ (zmn e.2 h2)
theorem zqv(r:Rel T μ H σ){d:D}{v:V}{c:Nat}{fs:List (Str × D)}(h:Rep T μ H d v)(e:ydy σ d=some (c,fs)):∃ a dx vs,v=.ref a/\H a=some (.ins (T.ca c) dx vs)/\yhg T μ H fs vs:=by
 cases d with
 |obj c' ns ds=>
  unfold ydy at e;by_cases hl:ns.length=ds.length
  ·simp only[hl,if_true,Option.some.injEq,Prod.mk.injEq]at e;obtain⟨rfl,rfl⟩:=e;rw[Rep]at h;obtain⟨a,dx,vs,rfl,_,h3,h4,h5⟩:=h;exact⟨a,dx,vs,rfl,h3,zmn h4 h5⟩
  ·simp[hl]at e
 |ref n=>
  unfold ydy at e;dsimp only at e;cases es:σ[n]? with
  |none=>rw[es]at e;cases e
  |some o=>
   rw[es]at e;obtain⟨a,rfl,_,h2⟩:=r.at h es;cases o with
   |ins c' fs'=>cases e;obtain⟨dx,vs,h3,h4⟩:=h2;exact⟨a,dx,vs,rfl,h3,h4⟩
   |lst _=>cases e
   |dic _=>cases e
 |_=>cases e
theorem zli{f:Str}:∀ {fs:List (Str × D)} {vs:List (Str × V)},yhg T μ H fs vs->(∀ d,fs.lookup f=some d->∃ v,vs.lookup f=some v/\Rep T μ H d v)/\(fs.lookup f=none->vs.lookup f=none)
 |_,_,.nil=>⟨fun d e=>by simp at e,fun _=>rfl⟩
 |(g,x)::fs,(g',v)::vs,.cons ⟨e,h⟩ t=>by
  have e':g=g':=e;subst e';obtain⟨h1,h2⟩:=zli t;by_cases hg:(f == g)=true
  ·refine⟨fun d q=>?_,fun q=>?_⟩
   ·rw[List.lookup_cons,hg]at q;cases q;exact⟨v,by rw[List.lookup_cons,hg],h⟩
   ·rw[List.lookup_cons,hg]at q;cases q
  ·have hg':(f == g)=false:=by simpa using hg
   refine⟨fun d q=>?_,fun q=>?_⟩
   ·rw[List.lookup_cons,hg']at q;obtain⟨w,q1,q2⟩:=h1 d q;exact⟨w,by rw[List.lookup_cons,hg'];exact q1,q2⟩
   ·rw[List.lookup_cons,hg']at q;rw[List.lookup_cons,hg'];exact h2 q
def ybx(T:Tb)(cs:List Nat)(f:Str):Prop:=∀ c,cs.contains c=true->Cls T.K (T.ca c)/\zve T.K (T.ca c) f
theorem zpw{f:Str}:ybx T [] f:=fun c h=>by simp at h
theorem zka{f:Str}{c:Nat}{cs:List Nat}(h1:Cls T.K (T.ca c))(h2:zve T.K (T.ca c) f)(h:ybx T cs f):ybx T (c::cs) f:=fun d hd=>by
 rw[List.contains_cons,Bool.or_eq_true,beq_iff_eq]at hd;rcases hd with rfl|hd
 ·exact⟨h1,h2⟩
 ·exact h d hd
def yjt(cs:List Nat)(f:Str)(x:D):M D:=fun σ=>match ydy σ x with
 |some (c,fs)=>if cs.contains c=true then (match fs.lookup f with
  |some d=>.ok d σ
  |none=>.bad)else .bad
 |none=>.bad
theorem zwy{e:Expr}{f:Str}{g:Ev->M D}{pos:Pos}{cs:List Nat}(hK:T.K=X.K)(hc:ybx T cs f)(he:FE T X e g)
  (hb:attributeBase e f X.env (eval e X.env)=eval e X.env:=by rfl):FE T X (.Attribute e f pos) (eUn (yjt cs f) g):=by
 intro pins s st H Q I h;refine zzz he hb pins s st H Q I ?_;obtain⟨μ,ρ,σ,hE,hr,hp⟩:=h;refine⟨μ,ρ,σ,hE,hr,yhc.bind hp fun d σ1 μ1 v H1 _ e1 r1 q1 p1=>?_⟩;unfold yjt at p1;cases ei:ydy σ1 d with
 |none=>rw[ei]at p1;exact p1.elim
 |some p=>
  obtain⟨c,fs⟩:=p;rw[ei]at p1;dsimp only at p1;by_cases hcc:cs.contains c=true
  ·rw[if_pos hcc]at p1;obtain⟨a,dx,vs,rfl,h1,h2⟩:=zqv r1 q1 ei;cases el:fs.lookup f with
   |none=>rw[el]at p1;exact p1.elim
   |some y=>
    rw[el]at p1;obtain⟨w,h3,h4⟩:=(zli h2).1 y el;obtain⟨k1,k2⟩:=hc c hcc;rw[hK]at k1 k2;exact⟨a,_,dx,vs,w,rfl,h1,k1,k2,h3,yhc.here p1 r1 h4⟩
  ·rw[if_neg hcc]at p1;exact p1.elim
def yj9(f:Str)(v:D):List (Str × D)->List (Str × D)
 |[]=>[(f,v)]
 |(g,x)::r=>if g=f then (g,v)::r else (g,x)::yj9 f v r
theorem zta{f:Str}{d:D}{v:V}(hd:Rep T μ H d v):∀ {fs:List (Str × D)} {vs:List (Str × V)},yhg T μ H fs vs->yhg T μ H (yj9 f d fs) (putF f v vs)
 |_,_,.nil=>Paired.cons ⟨rfl,hd⟩ Paired.nil
 |(g,x)::fs,(g',w)::vs,.cons ⟨e,h⟩ t=>by
  have e':g=g':=e;subst e';unfold yj9 putF;by_cases hg:g=f
  ·rw[if_pos hg,if_pos hg];exact Paired.cons ⟨rfl,hd⟩ t
  ·rw[if_neg hg,if_neg hg];exact Paired.cons ⟨rfl,h⟩ (zta hd t)
theorem yhg.mono{μ':List Addr}{H':Hp}(e:Ext μ H μ' H'){fs:List (Str × D)}{vs:List (Str × V)}(h:yhg T μ H fs vs):yhg T μ' H' fs vs:=Paired.mapP h fun _ _ q=>⟨q.1,Rep.mono e _ _ q.2⟩
theorem yhg.length{fs:List (Str × D)}{vs:List (Str × V)}(h:yhg T μ H fs vs):fs.length=vs.length:=Paired.length h
def yj3(cs:List Nat)(f:Str)(d x:D):M Unit:=fun σ=>match x with
 | .ref n=>(match σ[n]? with
  |some (.ins c fs)=>if (cs.contains c && decide (fs.length<1000))=true then .ok () (σ.set n (.ins c (yj9 f d fs)))else .bad
  |_=>.bad)
 |_=>.bad
def yfn(ρ:Ev)(cs:List Nat)(f:Str)(d x:D):M Fl:=fun σ=>match yj3 cs f d x σ with
 | .ok _ σ'=>.ok (.nx ρ) σ'
 |_=>.bad
def yfm(ρ:Ev)(cs:List Nat)(f:Str)(fo:Ev->M D)(d:D):M Fl:=xs ρ (fo ρ) (yfn ρ cs f d)
def ykx(cs:List Nat)(f:Str)(fv fo:Ev->M D):Ev->M Fl:=fun ρ=>xs ρ (fv ρ) (yfm ρ cs f fo)
theorem zxo{o value:Expr}{f:Str}{fv fo:Ev->M D}{pos pos':Pos}{cs:List Nat}(hK:T.K=X.K)(hc:ybx T cs f)(ho:FE T X o fo)(hv:FE T X value fv)
  (hs:swapsWith value (some (.Attribute o f pos')) pos.line X.env=pure false:=by rfl):FS T X (.Assign [.Attribute o f pos'] value pos) (ykx cs f fv fo):=by
 intro pins s st H D I hq;refine yai ho hv hs pins s st H D I ?_;obtain⟨μ,ρ,σ,hE,hr,hp⟩:=hq;refine⟨μ,ρ,σ,hE,hr,hp.xs hE fun d σ1 μ1 v H1 _ e1 r1 q1 p1=>?_⟩;refine⟨μ1,ρ,σ1,hE.mono e1,r1,p1.xs (hE.mono e1) fun x σ2 μ2 vo H2 _ e2 r2 q2 p2=>?_⟩;have hd:=Rep.mono e2 _ _ q1;unfold yfn yj3 at p2;cases x with
 |ref n=>
  dsimp only at p2;cases el:σ2[n]? with
  |none=>rw[el]at p2;exact p2.elim
  |some ob=>
   rw[el]at p2;cases ob with
   |lst _=>exact p2.elim
   |dic _=>exact p2.elim
   |ins c fs=>
    dsimp only at p2;by_cases hcc:(cs.contains c && decide (fs.length<1000))=true
    ·rw[if_pos hcc]at p2;rw[Bool.and_eq_true,decide_eq_true_eq]at hcc;obtain⟨a,rfl,hn,dx,vs,h1,h2⟩:=r2.at q2 el;have ex:Ext μ2 H2 μ2 (upd H2 a (.ins (T.ca c) dx (putF f v vs))):=zgj (List.mem_of_getElem? hn) h1 (fun _ z=>by cases z) (fun _ _ z=>by cases z);have wr:=r2.write (o:=.ins (T.ca c) dx (putF f v vs)) (ob:=.ins c (yj9 f d fs)) hn ⟨dx,_,znp,zta (Rep.mono ex _ _ hd) (yhg.mono ex h2)⟩;obtain⟨k1,k2⟩:=hc c hcc.1;rw[hK]at k1 k2;exact⟨a,_,dx,vs,rfl,h1,k1,k2,by rw[<-h2.length];exact hcc.2,p2 _ (.nx st) _ wr.1 wr.2 ((hE.mono e1).mono e2 |>.mono wr.1)⟩
    ·rw[if_neg hcc]at p2;exact p2.elim
 |_=>exact p2.elim
def yet(n:Nat):Out D->Out D
 | .ok .non σ'=>.ok (.ref n) σ'
 | .ok _ _=>.bad
 | .ex x σ'=>.ex x σ'
 | .bad=>.bad
def yel(c n:Nat)(fn:List D->M D)(ds:List D):M D:=fun σ=>if ds.length+1=n then yet σ.length (fn (.ref σ.length::ds) (σ++[.ins c []]))else .bad
def yc1(c n:Nat)(fn:List D->M D)(fs:Ev->M (List D)):Ev->M D:=fun ρ=>bnd (fs ρ) (yel c n fn)
def OkA(T:Tb)(P:Program)(w:World)(mg:Str->Option Value)(base:Heap)(k:Nat)(f:Addr)(ps:List Str)(fn:List D->M D):Prop:=
 ∃ fd,(∀ us:List Value,us.length=ps.length->bindArgs fd ⟨us,[]⟩=pure (ps.zip us))/\FnOk P w T.K mg base (CXE P w) k f fd ps (spF T ps.length fn)
def OkC(T:Tb)(P:Program)(w:World)(mg:Str->Option Value)(base:Heap)(k:Nat)(x:Str)(c:Nat)(ps:List Str)(fn:List D->M D):Prop:=
 ∃ f,mg x=some (.ref (T.ca c))/\Mk T.K (T.ca c) f/\OkA T P w mg base k f ps fn
theorem zg9{E:XK}{c:Nat}{ps:List Str}{fn:List D->M D}{ds:List D}{vs:List V}{Q:VK}(r:Rel T μ H σ)(q:yhi T μ H ds vs)(p:yhc T E (Rep T) μ H (yel c ps.length fn ds σ) Q) :
  ∀ x dx,H x=none->H dx=none->dx≠x->spF T ps.length fn (.ref x::(vs++[])) (upd (upd H dx (.own x)) x (.ins (T.ca c) dx [])) (fun v H2=>v=.non/\Q (.ref x) H2) E:=by
 intro x dx hx hdx hne;unfold yel at p;by_cases hl:ds.length+1=ps.length
 ·rw[if_pos hl]at p;have ex1:Ext μ H μ (upd H dx (.own x)):=zpi hdx;have r1:Rel T μ (upd H dx (.own x)) σ:=r.fresh hdx;have hx1:upd H dx (.own x) x=none:=by unfold upd;rw[if_neg (Ne.symm hne)];exact hx
  have ex2:Ext μ (upd H dx (.own x)) (μ++[x]) (upd (upd H dx (.own x)) x (.ins (T.ca c) dx [])):=zjw hx1;have r2:Rel T (μ++[x]) (upd (upd H dx (.own x)) x (.ins (T.ca c) dx [])) (σ++[.ins c []]):=r1.push hx1 ⟨dx,[],znp,Paired.nil⟩;refine⟨μ++[x],σ++[.ins c []],.ref σ.length::ds,yhi.cons (zmo r1) (by rw[List.append_nil];exact yhi.mono (ex1.trans ex2) _ _ q),by rw[List.length_cons];exact hl,r2,?_⟩;cases e:fn (.ref σ.length::ds) (σ++[.ins c []])with
  |bad=>rw[e]at p;exact p.elim
  |ex y σ'=>rw[e]at p;exact fun μ' H' e' r'=>p μ' H' ((ex1.trans ex2).trans e') r'
  |ok d σ'=>
   rw[e]at p;intro μ' v H' e' r' q';have hv:d=.non:=by cases d<;>first|rfl|exact p.elim
   subst hv;rw[Rep]at q';refine⟨q',p μ' (.ref x) H' ((ex1.trans ex2).trans e') r' ?_⟩;exact Rep.mono e' _ _ (zmo r1)
 ·rw[if_neg hl]at p;exact p.elim
theorem zhz{k:Nat}{C f:Addr}{fd:FuncData}{ps:List Str}{sp:Sp}{dvs:List V}{ds:List Value}{pins:List (Addr × Obj)}{st:St}{H:Hp}{s:Shared}{Q:VK}{us:List Value}{vs:List V}(M:Mk X.K C f)(F:FnOk X.prog X.w X.K X.mg X.base (CXE X.prog X.w) k f fd ps sp)(hr:Room (k+1) X.A)(hb:ybt X.K fd ps ds)(hd:yho dvs ds)
  (I:Inv X pins st H s) (r:yho vs us)
  (h:∀ x dx,H x=none->H dx=none->dx≠x->sp (.ref x::(vs++dvs)) (upd (upd H dx (.own x)) x (.ins C dx [])) (fun v H2=>v=.non/\Q (.ref x) H2) (XE X st)) :
  wpAny (model X.prog X.w) X.A (call (.ref C) us) (EP X pins st Q) X.xe s:=by
 have hq:=h (s.heap.objs.size+1) s.heap.objs.size (I.hok.fresh (Nat.le_succ _)) (I.hok.fresh (Nat.le_refl _)) (Nat.ne_of_lt (Nat.lt_succ_self _));have I2:=Inv.made (C:=C) I;have r2:yho (V.ref (s.heap.objs.size+1)::(vs++dvs)) (Value.ref (s.heap.objs.size+1)::(us++ds)):=.cons rfl (r.append hd);have hl:(Value.ref (s.heap.objs.size+1)::us++ds).length=ps.length:=by
  have e:=r2.length;rw[F.len _ _ _ _ hq]at e;exact e.symm
 refine wpAny_call (zlo (f:=f) I.kIn M.makes M.init (beq_iff_eq.mp M.fn) (codeAny_mono (F.run _ X.stack _ _ ⟨Value.ref (s.heap.objs.size+1)::us,[]⟩ (Value.ref (s.heap.objs.size+1)::(us++ds)) _ _ (XE X st) (hr.make C us [])
  (I2.env0.make C us []) (hb _ (Value.ref (s.heap.objs.size+1)::us) I2.kIn hl) r2 hq) fun r s' hq'=>?_))
 cases r with
 |error e=>obtain⟨cls,fd,H',hfly,ht⟩:=hq';exact ht.fly pins _ _ e s' I2 hfly
 |ok fl=>
  cases fl with
  |ret u=>
   obtain⟨v,H',I3,rv,ev,q3⟩:=I2.after hq';subst ev;exact⟨rv,⟨V.ref (s.heap.objs.size+1),H',I3,rfl,q3⟩⟩
  |next=>exact False.elim hq'
  |brk=>exact False.elim hq'
  |cont=>exact False.elim hq'
theorem zpo{k c:Nat}{ps:List Str}{fn:List D->M D}{x:Str}{p pos:Pos}{e:Expr}{es:List Expr}{fs:Ev->M (List D)}(h:OkC T X.prog X.w X.mg X.base k x c ps fn)(hK:T.K=X.K)(hr:Room (k+1) X.A)(hg:Gl X x)
  (ha:FA T X (e::es) fs) (hdb:(x == ("__debug__" : Str))=false:=by decide) (he:starEach (e::es) X.env=(false,eval e X.env)::starEach es X.env:=by rfl) (hpl:(backTo pos (starEach es X.env)).any (·.1)=false:=by rfl) :
  FE T X (.Call (.Name x p) (e::es) [] pos) (yc1 c ps.length fn fs):=by
 obtain⟨f,hm,hM,fd,hb,hF⟩:=h;rw[hK]at hM hF;intro pins s st H Q I hq;obtain⟨μ,ρ,σ,hE,hr',hp⟩:=hq;refine wpAny_Call_Name_kw (zrd I hg hm ?_ hdb);refine PySem.W.callWith_K (h₀:=X.base) I.ok.mod.kin hM.kp (thn (ha pos pins s st H (fun vs H1=>∀ x dx,H1 x=none->H1 dx=none->dx≠x->spF T ps.length fn (.ref x::(vs++[])) (upd (upd H1 dx (.own x)) x (.ins (T.ca c) dx [])) (fun v H2=>v=.non/\Q (.ref x) H2) (XE X st)) I ⟨μ,ρ,σ,hE,hr',hp.bind fun ds σ1 μ1 vs H1 _ e1 r1 p1 q1=>zg9 r1 p1 q1⟩) fun us s1 ⟨vs,H1,I1,r,q⟩=>⟨I1.kIn,?_⟩) he hpl;exact zhz (ds:=[]) (dvs:=[]) hM hF hr (.all hb) .nil I1 r q
structure OkM(T:Tb)(P:Program)(w:World)(mg:Str->Option Value)(base:Heap)(k:Nat)(m:Str)(c:Nat)(ps:List Str)(fn:List D->M D):Prop where
 cl:Cls T.K (T.ca c)
 ex:∃ f,Meth T.K (T.ca c) m f/\OkA T P w mg base k f ps fn
structure OkU(T:Tb)(P:Program)(w:World)(mg:Str->Option Value)(base:Heap)(k:Nat)(x m:Str)(c:Nat)(ps:List Str)(fn:List D->M D):Prop where
 gl:mg x=some (.ref (T.ca c))
 sp:PySem.W.specialIn T.K (.ref (T.ca c)) (Str.ofString "__getattribute__")=some (some (.builtin "type.__getattribute__"))
 ex:∃ f mc,PySem.W.readsIn T.K (T.ca c) mc=true/\PySem.W.findCls T.K (.ref (T.ca c)) mc m=some (.val (.ref f))/\PySem.W.keepIn T.K (.ref f)=true/\OkA T P w mg base k f ps fn
end
structure HasM(K:PySem.W.Frag)(C:Addr)(x qual:Str)(st:Stmt)(ps:List Str)(f:Addr):Prop where
 ex:∃ fd,Fun K x qual st f fd/\∀ us:List Value,us.length=ps.length->bindArgs fd ⟨us,[]⟩=pure (ps.zip us)
section
variable{P:Program}{w:World}{K:PySem.W.Frag}{mg:Str->Option Value}{base:Heap}{ca:Nat->Addr}{tx:Tx}
theorem zzg{k:Nat}{C f:Addr}{x qual:Str}{st:Stmt}{ps N:List Str}{g:Ev->M Fl}(h:HasM K C x qual st ps f)(S:FnScope N ps (zjb st))
  (hb:∀ (cdv:Value) (A:Around) (outer:List Env) (s:Shared) (H:Hp) (E:XK),Room k (A.deeper (envOfC qual (zjb st) s.heap.objs.size f cdv))->FSs ⟨K,ca,tx⟩ (yh9 (CXE P w) P w K mg base N qual (zjb st) f cdv A outer s H E) (zo5 st) g) :
  OkA ⟨K,ca,tx⟩ P w mg base (k+1) f ps (run N.length g):=by
 obtain⟨fd,F,hbd⟩:=h.ex;obtain⟨oc,od,kV,doc,pm,an,cdv,ct,osl,rfl,lk,hcd⟩:=F.ex;exact⟨_,hbd,fok lk hcd S (hb cdv)⟩
theorem OkA.frz{T:Tb}{k:Nat}{f:Addr}{ps:List Str}{fn:List D->M D}(h:OkA T P w mg base k f ps fn):OkA T P w mg base k f ps (fun ds=>L4.frz (fn ds)):=by
 obtain⟨fd,h3,h4⟩:=h;exact⟨fd,h3,zpz h4⟩
theorem OkA.hide{T:Tb}{k:Nat}{f:Addr}{ps:List Str}{fn:List D->M D}(h:OkA T P w mg base k f ps fn):OkA T P w mg base k f ps (L4.hide fn):=by rw[zqo];exact h
end
def yer(s:Stmt)(j:Nat):Stmt:=match s with
 | .ClassDef _ _ _ b _ _ _ _ _ _ _=>b.getD j (.Pass ⟨0,0,0,0⟩)
 |s=>s
theorem mkM{K:PySem.W.Frag}{C f:Addr}{x qual:Str}{st:Stmt}{ps:List Str}{oc:Value}{od an:Option Addr}{osl:Array (Option Value)}{kV doc pm cdv ct:Value}
  (hb:∀ (kV doc pm:Value) (an:Option Addr) (cdv ct:Value) (us:List Value),us.length=ps.length->bindArgs (PySem.W.fnOf x qual (zo4 st) (zo5 st) (zjb st) .none kV doc pm an cdv ct) ⟨us,[]⟩=pure (ps.zip us))
  (l:K.lookup f=some ⟨oc,od,.func (PySem.W.fnOf x qual (zo4 st) (zo5 st) (zjb st) .none kV doc pm an cdv ct),osl⟩)
  (c:PySem.W.codeIn K cdv qual=true) (k:PySem.W.keepIn K (.ref f)=true):HasM K C x qual st ps f:=⟨⟨_,zxw l c k,hb kV doc pm an cdv ct⟩⟩
section
variable{T:Tb}{P:Program}{w:World}{mg:Str->Option Value}{base:Heap}
end
section
variable{T:Tb}{X:Cx}
end
end L4
namespace L4
open PySem L2
theorem nr{α:Type}{a b:α}(h:a=b):a=b:=h
section
variable{α β:Type}{ρ:Ev}{σ:Sto}
@[simp] theorem zoj(a:α)(σ:Sto)(k:α->M β):(Out.ok a σ).bind k=k a σ:=nr rfl
@[simp] theorem yaw(a:α)(σ:Sto):ret a σ=.ok a σ:=nr rfl
@[simp] theorem zvp(m:M α)(k:α->M β)(σ:Sto):bnd m k σ=(m σ).bind k:=nr rfl
@[simp] theorem ycy(d:D):eC d ρ σ=.ok d σ:=nr rfl
@[simp] theorem zwj(d:D)(r:Ev):yik 0 (some d::r) σ=.ok d σ:=nr rfl
@[simp] theorem zwk(i:Nat)(o:Option D)(r:Ev):yik (i+1) (o::r) σ=yik i r σ:=nr rfl
@[simp] theorem zpa(o:D->D->M D)(a b:Ev->M D):yid o a b ρ σ=(a ρ σ).bind (yhz o (b ρ)):=nr rfl
@[simp] theorem zoi(o:D->D->M D)(m:M D)(x:D):yhz o m x σ=(m σ).bind (o x):=nr rfl
@[simp] theorem zwi(o:D->M D)(a:Ev->M D):eUn o a ρ σ=(a ρ σ).bind o:=nr rfl
@[simp] theorem ybk(b:Bool):tst (.bl b) σ=.ok b σ:=nr rfl
@[simp] theorem ydx(p q:M α):ifK p q true σ=p σ:=nr rfl
@[simp] theorem ydw(p q:M α):ifK p q false σ=q σ:=nr rfl
@[simp] theorem zr7(c:Bool):yjl c σ=.ok (!c) σ:=nr rfl
@[simp] theorem znj(k:Bool->M α)(b:Bool):yge k (.bl b) σ=k b σ:=nr rfl
@[simp] theorem yc4(f:Ev->M D):eT f ρ σ=(f ρ σ).bind tst:=nr rfl
@[simp] theorem zof(a b:Ev->M Bool):yhx a b ρ σ=(a ρ σ).bind (ifK (b ρ) (ret false)):=nr rfl
@[simp] theorem zvi(a b:Ev->M Bool):bOr a b ρ σ=(a ρ σ).bind (ifK (ret true) (b ρ)):=nr rfl
@[simp] theorem zog(a:Ev->M Bool):yhy a ρ σ=(a ρ σ).bind yjl:=nr rfl
@[simp] theorem zo9(a b:Ev->M D):yic a b ρ σ=(a ρ σ).bind (yge (ifK (b ρ) (ret (.bl false)))):=nr rfl
@[simp] theorem zwh(a b:Ev->M D):eOr a b ρ σ=(a ρ σ).bind (yge (ifK (ret (.bl true)) (b ρ))):=nr rfl
@[simp] theorem zn1:yhq ρ σ=.ok [] σ:=nr rfl
@[simp] theorem zin(e:Ev->M D)(r:Ev->M (List D)):ycc e r ρ σ=(e ρ σ).bind (zvg (r ρ)):=nr rfl
@[simp] theorem zfv(m:M (List D))(x:D):zvg m x σ=(m σ).bind (ycr x):=nr rfl
@[simp] theorem zi8(x:D)(xs:List D):ycr x xs σ=.ok (x::xs) σ:=nr rfl
@[simp] theorem zpf(a:Ev->M (List D)):yij a ρ σ=(a ρ σ).bind ylr:=nr rfl
@[simp] theorem ybm(a b:D):ylr [a,b] σ=.ok (.tup [a,b]) σ:=nr rfl
@[simp] theorem ybn(a b c:D):ylr [a,b,c] σ=.ok (.tup [a,b,c]) σ:=nr rfl
@[simp] theorem ybo(a b c d:D):ylr [a,b,c,d] σ=.ok (.tup [a,b,c,d]) σ:=nr rfl
@[simp] theorem zwe(a:Ev->M (List D)):eLv a ρ σ=(a ρ σ).bind lvK:=nr rfl
@[simp] theorem zpc(a:Ev->M (List D)):yii a ρ σ=(a ρ σ).bind yjf:=nr rfl
@[simp] theorem zyu:yjf [] σ=.ok (.ref σ.length) (σ++[.lst []]):=nr rfl
@[simp] theorem ye1(g:Int->Int->Int)(i j:Int):oI g (.int i) (.int j) σ=.ok (.int (g i j)) σ:=nr rfl
@[simp] theorem yev(g:Int->Int->Bool)(i j:Int):oB g (.int i) (.int j) σ=.ok (.bl (g i j)) σ:=nr rfl
theorem zy8{C:Int->Int->Bool}{g:Int->Int->Int}{i j:Int}(h:C i j=true):oIC C g (.int i) (.int j) σ=.ok (.int (g i j)) σ:=by
 show (if C i j=true then ret _ else bad) σ=_;rw[if_pos h];rfl
@[simp] theorem zsb(i j:Int)(h:0<j)(h2:j<1073741824):yjq (.int i) (.int j) σ=.ok (.int (i / j)) σ:=zy8 (by simp[yh3,h,h2])
@[simp] theorem zsj(i j:Int)(h:0<j):yj0 (.int i) (.int j) σ=.ok (.int (i % j)) σ:=zy8 (by simp[yh4,h])
theorem zza{i j:Int}(h:-(2 ^ 64)<i)(h2:i<2 ^ 64):yj1 (.int i) (.int j) σ=.ok (.int (i * j)) σ:=zy8 (by simp only[yh5,zqo,Bool.or_eq_true,Bool.and_eq_true,decide_eq_true_eq];exact .inl ⟨h,h2⟩)
theorem zzb{i j:Int}(h:-(2 ^ 64)<j)(h2:j<2 ^ 64):yj1 (.int i) (.int j) σ=.ok (.int (i * j)) σ:=zy8 (by simp only[yh5,zqo,Bool.or_eq_true,Bool.and_eq_true,decide_eq_true_eq];exact .inr ⟨h,h2⟩)
theorem zsl{i j:Int}(h:yh6 i j=true):yj2 (.int i) (.int j) σ=.ok (.int (i ^ j.toNat)) σ:=zy8 h
@[simp] theorem p12:yj2 (.int 10) (.int 12) σ=.ok (.int 1000000000000) σ:=zsl (by simp[yh6])
@[simp] theorem p6:yj2 (.int 10) (.int 6) σ=.ok (.int 1000000) σ:=zsl (by simp[yh6])
@[simp] theorem p4:yj2 (.int 10) (.int 4) σ=.ok (.int 10000) σ:=zsl (by simp[yh6])
@[simp] theorem zlz(i j:Int):yjm (.int i) (.int j) σ=.ok (.int (i+j)) σ:=nr rfl
theorem zl0{xs ys:List D}(h:xs.length+ys.length<=cap):yjm (.lst xs) (.lst ys) σ=.ok (.lst (xs++ys)) σ:=by
 show yeu (.lst xs) (.lst ys) σ=_;unfold yeu;simp only[yjd];rw[if_pos h]
@[simp] theorem zl4(σ:Sto):yjx .non .non σ=.ok (.bl true) σ:=nr rfl
@[simp] theorem zl3(b:Int):yjx (.int b) .non σ=.ok (.bl false) σ:=nr rfl
@[simp] theorem zhi(σ:Sto):ye7 .non .non σ=.ok (.bl false) σ:=nr rfl
@[simp] theorem zhh(b:Int):ye7 (.int b) .non σ=.ok (.bl true) σ:=nr rfl
theorem zy7{x y:D}{b:Bool}(h:eqD σ 8 x y=some b):oEq x y σ=.ok (.bl b) σ:=by unfold oEq;rw[h]
theorem zzc{x y:D}{b:Bool}(h:eqD σ 8 x y=some b):oNe x y σ=.ok (.bl (!b)) σ:=by unfold oNe;rw[h]
@[simp] theorem zsc(i j:Int):oEq (.int i) (.int j) σ=.ok (.bl (i == j)) σ:=zy7 (by simp[eqD,kd,eqK,eqV])
@[simp] theorem zsk(i j:Int):oNe (.int i) (.int j) σ=.ok (.bl (!(i == j))) σ:=zzc (by simp[eqD,kd,eqK,eqV])
@[simp] theorem zsd(i j:Str):oEq (.str i) (.str j) σ=.ok (.bl (i == j)) σ:=zy7 (by simp[eqD,kd,eqK,eqV])
theorem zsi{xs:List D}{k:Int}{d:D}(h:atI xs k=some d):oIx (.tup xs) (.int k) σ=.ok d σ:=by simp[oIx,yf0,h]
theorem zsg{xs:List D}{k:Int}{d:D}(h:atI xs k=some d):oIx (.lst xs) (.int k) σ=.ok d σ:=by simp[oIx,yf0,h]
@[simp] theorem yd1(a:D)(r:List D):oIx (.tup (a::r)) (.int 0) σ=.ok a σ:=zsi (show atI _ ((0:Nat):Int)=_ from zob rfl)
@[simp] theorem yd2(a b:D)(r:List D):oIx (.tup (a::b::r)) (.int 1) σ=.ok b σ:=zsi (show atI _ ((1:Nat):Int)=_ from zob rfl)
@[simp] theorem yd3(a b c:D)(r:List D):oIx (.tup (a::b::c::r)) (.int 2) σ=.ok c σ:=zsi (show atI _ ((2:Nat):Int)=_ from zob rfl)
@[simp] theorem yd4(a b c d:D)(r:List D):oIx (.tup (a::b::c::d::r)) (.int 3) σ=.ok d σ:=zsi (show atI _ ((3:Nat):Int)=_ from zob rfl)
@[simp] theorem zl5(xs:List D):yjy [.lst xs] σ=.ok (.int xs.length) σ:=nr rfl
@[simp] theorem zl6(xs:List Int):yjy [.scr xs] σ=.ok (.int xs.length) σ:=by simp[yjy,yf0]
@[simp] theorem zjg(o:List D->M D)(fs:Ev->M (List D)):ycz o fs ρ σ=(fs ρ σ).bind o:=nr rfl
@[simp] theorem zwd(n:Nat)(f:List D->M D)(dds:List D)(fs:Ev->M (List D)):eFn n f dds fs ρ σ=(fs ρ σ).bind (fnK n f dds):=nr rfl
@[simp] theorem ydg(f:List D->M D)(a:D):fnK 1 f [] [a] σ=f [a] σ:=by unfold fnK;rw[if_pos (by simp)];simp
@[simp] theorem ydh(f:List D->M D)(a b:D):fnK 2 f [] [a,b] σ=f [a,b] σ:=by unfold fnK;rw[if_pos (by simp)];simp
@[simp] theorem ydi(f:List D->M D)(a b c:D):fnK 3 f [] [a,b,c] σ=f [a,b,c] σ:=by unfold fnK;rw[if_pos (by simp)];simp
@[simp] theorem ydj(f:List D->M D)(a b c d:D):fnK 4 f [] [a,b,c,d] σ=f [a,b,c,d] σ:=by unfold fnK;rw[if_pos (by simp)];simp
@[simp] theorem ztt:ykw ρ σ=.ok (.nx ρ) σ:=nr rfl
@[simp] theorem ztw(g h:Ev->M Fl):ykz g h ρ σ=(g ρ σ).bind (yk1 h):=nr rfl
@[simp] theorem zt3(h:Ev->M Fl)(ρ:Ev):yk1 h (.nx ρ) σ=h ρ σ:=nr rfl
@[simp] theorem zt4(h:Ev->M Fl)(d:D):yk1 h (.rt d) σ=.ok (.rt d) σ:=nr rfl
def xsO(ρ:Ev)(k:α->M Fl):Out α->Out Fl
 | .ok a σ'=>k a σ'
 | .ex x σ'=>.ok (.xc ρ x) σ'
 | .bad=>.bad
@[simp] theorem ygo(ρ:Ev)(m:M α)(k:α->M Fl):xs ρ m k σ=xsO ρ k (m σ):=by unfold xs xsO;cases m σ<;>rfl
@[simp] theorem ybs(ρ:Ev)(k:α->M Fl)(a:α):xsO ρ k (.ok a σ)=k a σ:=nr rfl
@[simp] theorem ztv(f:Ev->M D):yky f ρ σ=xsO ρ ykm (f ρ σ):=ygo ..
@[simp] theorem ztg(d:D):ykm d σ=.ok (.rt d) σ:=nr rfl
@[simp] theorem ztr(f:Ev->M D):ykt f ρ σ=xsO ρ (yin ρ) (f ρ σ):=ygo ..
@[simp] theorem zpg(d:D):yin ρ d σ=.ok (.nx ρ) σ:=nr rfl
@[simp] theorem ztx(i:Nat)(f:Ev->M D):yk0 i f ρ σ=xsO ρ (yk2 i ρ) (f ρ σ):=ygo ..
@[simp] theorem zt8(i:Nat)(d:D):yk2 i ρ d σ=.ok (.nx (ρ.set i (some d))) σ:=nr rfl
@[simp] theorem yaz(t:Ev->M Bool)(a b:Ev->M Fl):sIf t a b ρ σ=xsO ρ (ifK (a ρ) (b ρ)) (t ρ σ):=ygo ..
@[simp] theorem ztp(f:Ev->M D)(tg:D->Ev->Option Ev):ykr f tg ρ σ=xsO ρ (yhv tg ρ) (f ρ σ):=ygo ..
@[simp] theorem yay(n:Nat)(g:Ev->M Fl)(ds:List D):run n g ds σ=ykp (g (ds.map some++List.replicate (n - ds.length) none) σ):=nr rfl
@[simp] theorem ztn(d:D):ykp (.ok (.rt d) σ)=.ok d σ:=nr rfl
@[simp] theorem ztm:ykp (.ok (.nx ρ) σ)=.ok .non σ:=nr rfl
@[simp] theorem zxj(f:M D):frz f σ=yis σ (f σ):=nr rfl
@[simp] theorem zpb(f:Ev->M D):yie f ρ σ=yis σ (f ρ σ):=nr rfl
theorem ydo{k m:Nat}{σ:Sto}{d:D}(h:cl d=true):fz k σ m d=some d:=by cases m<;>(unfold fz;rw[if_pos h])
theorem zp3{σ':Sto}{d:D}(h:cl d=true)(ht:σ'.take σ.length=σ):yis σ (.ok d σ')=.ok d σ:=by
 unfold yis;dsimp only;rw[if_pos ht,ydo h]
@[simp] theorem zgo{d:D}(h:cl d=true):yis σ (.ok d σ)=.ok d σ:=zp3 h List.take_length
theorem zkh{j j':Sto}{xs:List D}(h:clL xs=true):yis σ (.ok (.ref σ.length) (σ++[.lst xs]++j))=.ok (.lst xs) σ:=by
 unfold yis;dsimp only;rw[if_pos (by simp)];have e:fz σ.length (σ++[.lst xs]++j) 6 (.ref σ.length)=some (.lst xs):=by
  unfold fz;rw[if_neg (by simp[cl])];dsimp only;rw[if_neg (Nat.lt_irrefl _)];have:(σ++[Ob.lst xs]++j)[σ.length]?=some (.lst xs):=by simp
  rw[this];dsimp only;have hl:∀ (ys:List D) (m:Nat),clL ys=true->fzL (fz σ.length (σ++[.lst xs]++j) m) ys=some ys:=by
   intro ys m;induction ys with
   |nil=>intro _;rfl
   |cons y ys ih=>
    intro hc;have hc':cl y=true/\clL ys=true:=by simpa [clL,Bool.and_eq_true]using hc
    unfold fzL;rw[ydo hc'.1,ih hc'.2]
  rw[hl xs 5 h];rfl
 rw[e]
@[simp] theorem zvz(i:Int):cl (.int i)=true:=by simp[cl]
@[simp] theorem ycp(i:Bool):cl (.bl i)=true:=by simp[cl]
@[simp] theorem zv3(i:Str):cl (.str i)=true:=by simp[cl]
@[simp] theorem zv1:cl .non=true:=by simp[cl]
@[simp] theorem zv5(xs:List D):cl (.tup xs)=clL xs:=by simp[cl]
@[simp] theorem zv0(xs:List D):cl (.lst xs)=clL xs:=by simp[cl]
@[simp] theorem zv2(n:Nat):cl (.ref n)=false:=by simp[cl]
@[simp] theorem zov:clL []=true:=by simp[clL]
@[simp] theorem zi4(d:D)(ds:List D):clL (d::ds)=(cl d && clL ds):=by simp[clL]
theorem zot:∀ {ds:List D},(∀ d∈ds,cl d=true)->clL ds=true
 |[],_=>by simp
 |d::ds,h=>by rw[zi4,h d List.mem_cons_self,zot fun x hx=>h x (List.mem_cons_of_mem _ hx)];rfl
theorem zou{γ:Type}{f:γ->D}{l:List γ}(h:∀ x,cl (f x)=true):clL (l.map f)=true:=zot fun d hd=>by obtain⟨x,_,rfl⟩:=List.mem_map.mp hd;exact h x
@[simp] theorem zi6(l:List Int):clL (l.map D.int)=true:=zou zvz
theorem ycd{xs:List D}{k:Int}(h0:0<=k)(h:k<xs.length):atI xs k=some (xs.getD k.toNat .non):=by
 obtain⟨n,rfl⟩:=Int.eq_ofNat_of_zero_le h0;have hn:n<xs.length:=by omega
 refine zob ?_;show xs[n]?=some (xs.getD n .non);rw[List.getD_eq_getElem?_getD,List.getElem?_eq_getElem hn];rfl
theorem yce{is:List Int}{k:Int}(h0:0<=k)(h:k<is.length):atI (is.map D.int) k=some (.int (is.getD k.toNat 0)):=by
 rw[ycd h0 (by simpa using h)];have hn:k.toNat<is.length:=by omega
 simp[hn]
@[simp] theorem yeg(a:D):lvK [a] σ=.ok (.lst [a]) σ:=nr rfl
@[simp] theorem yef:lvK [] σ=.ok (.lst []) σ:=nr rfl
@[simp] theorem yeh(a b:D):lvK [a,b] σ=.ok (.lst [a,b]) σ:=nr rfl
@[simp] theorem yei(a b c:D):lvK [a,b,c] σ=.ok (.lst [a,b,c]) σ:=nr rfl
@[simp] theorem yej(a b c d:D):lvK [a,b,c,d] σ=.ok (.lst [a,b,c,d]) σ:=nr rfl
@[simp] theorem zyv(a b:D):yjf [a,b] σ=.ok (.ref σ.length) (σ++[.lst [a,b]]):=nr rfl
@[simp] theorem zg8(xs:List D):yee (σ++[.lst xs]) σ.length=some xs:=by simp[yee]
@[simp] theorem zt9(a b:Ob):(σ++[a]).set σ.length b=σ++[b]:=by
 rw[List.set_append_right _ _ (Nat.le_refl _)];simp
@[simp] theorem zjj(o:D->List D->M D)(f:Ev->M D)(fs:Ev->M (List D)):yc2 o f fs ρ σ=(f ρ σ).bind (yem o (fs ρ)):=nr rfl
theorem zlq{o:D->List D->M D}{m:M (List D)}{x:D}{xs:List D}(h:yjd σ x=some xs):yem o m x σ=(m σ).bind (o x):=by unfold yem;rw[h];rfl
@[simp] theorem zhb(o:D->List D->M D)(m:M (List D))(xs:List D):yem o m (.ref σ.length) (σ++[.lst xs])=(m (σ++[.lst xs])).bind (o (.ref σ.length)):=zlq (xs:=xs) (by simp[yjd])
theorem zei{xs:List D}{d:D}(h:xs.length<1000):zr8 (.ref σ.length) [d] (σ++[.lst xs])=.ok .non (σ++[.lst (xs++[d])]):=by
 unfold zr8;simp only[zg8];rw[if_pos (show xs.length<cap from h),zt9]
@[simp] theorem zh6(xs:List D):yf0 σ (.lst xs)=some xs:=nr rfl
@[simp] theorem zut(f:Ev->M D):yk6 f ρ σ=(f ρ σ).bind yfz:=nr rfl
@[simp] theorem zh5(ds:List D):yfz (.tup ds) σ=.ok (.seq ds) σ:=nr rfl
@[simp] theorem zh4(ds:List D):yfz (.lst ds) σ=.ok (.seq ds) σ:=nr rfl
@[simp] theorem zus(f:Ev->M D):yk5 f ρ σ=(f ρ σ).bind ykn:=nr rfl
theorem zth{j:Int}(h:-(2 ^ 62)<=j)(h2:j<2 ^ 62):ykn (.int j) σ=.ok (.seq (yas j.toNat)) σ:=by
 unfold ykn;dsimp only;rw[if_pos (by simp only[zuc,zqo,Bool.and_eq_true,decide_eq_true_eq];exact⟨h,h2⟩)]
@[simp] theorem zts(src:Ev->M Src)(tg:D->Ev->Option Ev)(body:Ev->M Fl):ykv src tg body ρ σ=xsO ρ (yiq tg body ρ) (src ρ σ):=ygo ..
@[simp] theorem zke(tg:D->Ev->Option Ev)(body:Ev->M Fl)(ds:List D):yiq tg body ρ (.seq ds) σ=yjc tg body ds ρ σ:=nr rfl
@[simp] theorem zlk(tg:D->Ev->Option Ev)(body:Ev->M Fl):yjc tg body [] ρ σ=.ok (.nx ρ) σ:=nr rfl
theorem zg5{tg:D->Ev->Option Ev}{body:Ev->M Fl}{d:D}{ds:List D}{ρ1:Ev}(h:tg d ρ=some ρ1):yjc tg body (d::ds) ρ σ=(body ρ1 σ).bind (yeb (yjc tg body ds)):=by
 show (match tg d ρ with|none=>bad|some ρ1=>bnd (body ρ1) (yeb (yjc tg body ds))) σ=_;rw[h];rfl
@[simp] theorem zll(i:Nat)(body:Ev->M Fl)(d:D)(ds:List D):yjc (tgN i) body (d::ds) ρ σ=(body (ρ.set i (some d)) σ).bind (yeb (yjc (tgN i) body ds)):=zg5 rfl
@[simp] theorem zlj(k:Ev->M Fl):yeb k (.nx ρ) σ=k ρ σ:=nr rfl
theorem zhv(n:Nat):yas n=(List.range' 0 n).map fun(k:Nat)=>D.int k:=by unfold yas;rw[List.range_eq_range']
theorem zy4{m:M α}{a:α}{σ':Sto}(h:m σ=.ok a σ'):nox m σ=.ok a σ':=by unfold nox;rw[h]
end
section
variable{α β:Type}{ρ:Ev}{σ:Sto}
@[simp] theorem zh7(ns:List Int):yf0 σ (.scr ns)=some (ns.map D.int):=nr rfl
theorem zsh{ns:List Int}{k:Int}(h0:0<=k)(h:k<ns.length):oIx (.scr ns) (.int k) σ=.ok (.int (ns.getD k.toNat 0)) σ:=by
 simp only[oIx,zh7,yce h0 h]
@[simp] theorem zl2(c:BT)(i:Int):yjw c (.int i) σ=.ok (.bl (match c with | .int=>true|_=>false)) σ:=nr rfl
def pl:Nat->D->Bool
 |_,.non=>true
 |_,.bl _=>true
 |_,.int _=>true
 |_,.str _=>true
 |n+1,.tup xs=>xs.all (pl n)
 |n+1,.lst xs=>xs.all (pl n)
 |_,_=>false
theorem zjq{f:D->D->Option Bool}:∀ {xs:List D},(∀ x∈xs,f x x=some true)->eqL f xs xs=some true
 |[],_=>rfl
 |x::xs,h=>by unfold eqL;rw[h x List.mem_cons_self,zjq fun y hy=>h y (List.mem_cons_of_mem _ hy)];rfl
theorem zkf{a:Ob}{d:D}(h:cl d=true):yis σ (.ok d (σ++[a]))=.ok d σ:=zp3 h (by simp)
@[simp] theorem zey(l:List Int):zx8 (l.map D.int)=some l:=by
 induction l with
 |nil=>rfl
 |cons x l ih=>simp[zx8,ih]
end
section
variable{ρ:Ev}{σ:Sto}
@[simp] theorem zji(c n:Nat)(fn:List D->M D)(fs:Ev->M (List D)):yc1 c n fn fs ρ σ=(fs ρ σ).bind (yel c n fn):=nr rfl
theorem zln{c n:Nat}{fn:List D->M D}{ds:List D}(h:ds.length+1=n):yel c n fn ds σ=yet σ.length (fn (.ref σ.length::ds) (σ++[.ins c []])):=by unfold yel;rw[if_pos h]
@[simp] theorem zlw(n:Nat):yet n (.ok .non σ)=.ok (.ref n) σ:=nr rfl
@[simp] theorem ztu(cs:List Nat)(f:Str)(fv fo:Ev->M D):ykx cs f fv fo ρ σ=xsO ρ (yfm ρ cs f fo) (fv ρ σ):=ygo ..
@[simp] theorem zml(cs:List Nat)(f:Str)(fo:Ev->M D)(d:D):yfm ρ cs f fo d σ=xsO ρ (yfn ρ cs f d) (fo ρ σ):=ygo ..
theorem zhu{cs:List Nat}{f:Str}{d:D}{c:Nat}{fs:List (Str × D)}(h:cs.contains c=true)(hl:fs.length<1000):yfn ρ cs f d (.ref σ.length) (σ++[.ins c fs])=.ok (.nx ρ) (σ++[.ins c (yj9 f d fs)]):=by
 have e:yj3 cs f d (.ref σ.length) (σ++[.ins c fs])=.ok () (σ++[.ins c (yj9 f d fs)]):=by
  have:(σ++[Ob.ins c fs])[σ.length]?=some (.ins c fs):=by simp
  unfold yj3;simp only[this];rw[if_pos (by rw[h];simpa using hl)];simp
 unfold yfn;rw[e]
theorem zgs{c:Nat}{ns:List Str}{ds:List D}(h:ns.length=ds.length):ydy σ (.obj c ns ds)=some (c,ns.zip ds):=by unfold ydy;dsimp only;rw[if_pos h]
theorem zsf{cs:List Nat}{f:Str}{x d:D}{c:Nat}{fs:List (Str × D)}(h:ydy σ x=some (c,fs))(hc:cs.contains c=true)(hl:fs.lookup f=some d):yjt cs f x σ=.ok d σ:=by
 unfold yjt;rw[h];dsimp only;rw[if_pos hc,hl]
theorem zkg{c:Nat}{fs:List (Str × D)}(h:clL (fs.map (·.2))=true):yis σ (.ok (.ref σ.length) (σ++[.ins c fs]))=.ok (.obj c (fs.map (·.1)) (fs.map (·.2))) σ:=by
 unfold yis;dsimp only;rw[if_pos (by simp)];have e:fz σ.length (σ++[.ins c fs]) 6 (.ref σ.length)=some (.obj c (fs.map (·.1)) (fs.map (·.2))):=by
  unfold fz;rw[if_neg (by simp)];dsimp only;rw[if_neg (Nat.lt_irrefl _)];have:(σ++[Ob.ins c fs])[σ.length]?=some (.ins c fs):=by simp
  rw[this];dsimp only;have hl:∀ (ys:List D) (m:Nat),clL ys=true->fzL (fz σ.length (σ++[.ins c fs]) m) ys=some ys:=by
   intro ys m;induction ys with
   |nil=>intro _;rfl
   |cons y ys ih=>
    intro hc;have hc':cl y=true/\clL ys=true:=by simpa [clL,Bool.and_eq_true]using hc
    unfold fzL;rw[ydo hc'.1,ih hc'.2]
  rw[hl _ 5 h];rfl
 rw[e]
@[simp] theorem zl7(i j:Int):ye5 [.int i,.int j] σ=.ok (.int (max i j)) σ:=nr rfl
end
end L4
namespace L4
open PySem PySem.Spec PySem.Calls PyProof.Rows PySem.Builtin PySem.Builtin.ObjectAttr PySem.Builtin.Getset_descriptor L2
structure ExK(K:PySem.W.Frag)(C:Addr):Prop where
 g:PySem.W.findIn K (.ref C) "__getattribute__" = some (some (.builtin "BaseException.__getattribute__"))
 g2:PySem.W.findIn K (.ref C) "__getattr__" = some none
 mb:PySem.W.mroIn K C (.type "BaseException")=some true
 d:PySem.W.hasDictIn K C=true
 a:PySem.W.findIn K (.ref C) "__class__" = some (some (.builtin "object.__class__"))
 n:PySem.W.specialIn K (.builtin "object.__class__") "__get__" = some (some (.builtin "getset_descriptor.__get__"))
 t:PySem.W.takesIn K (.builtin "object.__class__")=some true
 m:PySem.W.mroIn K C (.type "object")=some true
section
variable{prog:Program}{w:World}{A:Around}{E:Value->Shared->Prop}{s:Shared}{K:PySem.W.Frag}{C ea:Addr}{hp:Heap}{Mo:Model}
theorem zva.plain{dd:Option Addr}(p:zva C dd ea hp):ybw C ea hp:=let ⟨o,h1,h2,_⟩:=p;⟨o,h1,h2⟩
end
section
variable{T:Tb}{X:Cx}
inductive ClsV(X:Cx)(y:Str):V->Value->Prop where
 |own {a:Addr} (h:X.mg y=some (.ref a)):ClsV X y (.ref a) (.ref a)
 |bt {n:String} (h:X.mg y=none) (hv:bootBuiltins y=some (.type n)) (hn:y ≠ "__name__"):ClsV X y (.ty n) (.type n)
theorem ClsV.rel{y:Str}{vc:V}{cv:Value}(h:ClsV X y vc cv):∀ u,yhf vc u->u=cv:=by
 cases h with
 |own h=>exact fun u q=>q
 |bt h hv hn=>exact fun u q=>q
end
section
variable{ρ:Ev}{σ:Sto}
end
end L4
namespace L4
open PySem PySem.Spec PySem.Calls PyProof.Rows L2
section
variable{T:Tb}{X:Cx}
end
end L4
namespace HT
open PySem Builtin
open Sem (wp)
end HT
namespace L4
open PySem PySem.Spec PyProof.Rows L2
end L4
namespace HT
open PySem Builtin
open Sem (wp)
end HT
namespace L4
open PySem PySem.Spec PyProof.Rows L2
section
variable{T:Tb}{X:Cx}
end
end L4
namespace L2
open PySem PySem.Spec PyProof.Rows
section
variable{κ:Type}[DecidableEq κ]
def ylt(kvs:List (κ × V))(k:κ):Option V:=(kvs.find? fun kv=>decide (kv.1=k)).map (·.2)
def ykb(kvs:List (κ × V))(k:κ)(v:V):List (κ × V):=
 if (kvs.any fun kv=>decide (kv.1=k))=true then kvs.map (fun kv=>if kv.1=k then (kv.1,v)else kv)else kvs++[(k,v)]
def ycv(kvs:List (κ × V))(k:κ):List (κ × V):=kvs.filter fun kv=>decide (kv.1≠k)
theorem zns{p:κ × V}{r:List (κ × V)}{k:κ}(e:p.1=k):ylt (p::r) k=some p.2:=by simp[ylt,List.find?_cons,e]
theorem znr{p:κ × V}{r:List (κ × V)}{k:κ}(e:¬ p.1=k):ylt (p::r) k=ylt r k:=by simp[ylt,List.find?_cons,e]
theorem znq(k:κ):∀ kvs:List (κ × V),(kvs.any fun kv=>decide (kv.1=k))=(ylt kvs k).isSome
 |[]=>rfl
 |p::r=>by
  rw[List.any_cons];by_cases e:p.1=k
  ·simp only[zns e,decide_eq_true e,Bool.true_or,Option.isSome_some]
  ·rw[znr e,decide_eq_false e,Bool.false_or];exact znq k r
theorem zdu(kvs:List (κ × V))(k:κ)(v:V):(ykb kvs k v).length<=kvs.length+1:=by
 unfold ykb;split
 ·rw[List.length_map];omega
 ·rw[List.length_append,List.length_cons,List.length_nil];omega
theorem yhe.isSome_eq{o:Option V}{u:Option Value}(r:yhe o u):o.isSome=u.isSome:=by
 cases o with
 |none=>cases u with
  |none=>rfl
  |some _=>exact(show False from r).elim
 |some _=>cases u with
  |none=>exact(show False from r).elim
  |some _=>rfl
theorem yhe.getD{o:Option V}{u:Option Value}{d:V}{d':Value}(r:yhe o u)(rd:yhf d d'):yhf (o.getD d) (u.getD d'):=by
 cases o with
 |none=>cases u with
  |none=>exact rd
  |some _=>exact(show False from r).elim
 |some _=>cases u with
  |none=>exact(show False from r).elim
  |some _=>exact r
theorem KV.val{kvs:List (κ × V)}{vs:List (κ × Value)}(r:KV kvs vs)(k:κ):yhe (ylt kvs k) (valueAt vs k):=by
 unfold KV at r;induction r with
 |nil=>exact True.intro
 |@cons p q ps qs h t ih=>
  obtain⟨h1,h2⟩:=h;by_cases e:p.1=k
  ·have e':q.1=k:=h1.symm.trans e;have b:valueAt (q::qs) k=some q.2:=by simp[valueAt,List.find?_cons,e']
   rw[zns e,b];exact h2
  ·have e':¬ q.1=k:=fun z=>e (h1.trans z);have b:valueAt (q::qs) k=valueAt qs k:=by simp[valueAt,List.find?_cons,e']
   rw[znr e,b];exact ih
theorem KV.any{kvs:List (κ × V)}{vs:List (κ × Value)}(r:KV kvs vs)(k:κ):(kvs.any fun kv=>decide (kv.1=k))=vs.any fun kv=>decide (kv.1=k):=by
 unfold KV at r;induction r with
 |nil=>rfl
 |cons h t ih=>rw[List.any_cons,List.any_cons,ih,h.1]
theorem KV.repl{kvs:List (κ × V)}{vs:List (κ × Value)}(r:KV kvs vs)(k:κ){y:V}{u:Value}(ry:yhf y u) :
  KV (kvs.map fun kv=>if kv.1=k then (kv.1,y)else kv) (vs.map fun kv=>if kv.1=k then (kv.1,u)else kv):=by
 unfold KV at r ⊢;induction r with
 |nil=>exact .nil
 |@cons p q ps qs h t ih=>
  rw[List.map_cons,List.map_cons];refine .cons ?_ ih;obtain⟨h1,h2⟩:=h;by_cases e:p.1=k
  ·rw[if_pos e,if_pos (h1.symm.trans e)];exact⟨h1,ry⟩
  ·rw[if_neg e,if_neg (fun z=>e (h1.trans z))];exact⟨h1,h2⟩
theorem KV.put{kvs:List (κ × V)}{vs:List (κ × Value)}(r:KV kvs vs)(k:κ){y:V}{u:Value}(ry:yhf y u):KV (ykb kvs k y) (stored vs k u):=by
 unfold ykb stored;rw[r.any k];by_cases e:(vs.any fun kv=>decide (kv.1=k))=true
 ·rw[if_pos e,if_pos e];exact r.repl k ry
 ·rw[if_neg e,if_neg e];exact Paired.snoc r ⟨rfl,ry⟩
theorem KV.drop{kvs:List (κ × V)}{vs:List (κ × Value)}(r:KV kvs vs)(k:κ):KV (ycv kvs k) (without vs k):=by
 unfold KV at r ⊢;unfold ycv without;induction r with
 |nil=>exact .nil
 |@cons p q ps qs h t ih=>
  obtain⟨h1,h2⟩:=h;rw[List.filter_cons,List.filter_cons];by_cases e:p.1=k
  ·have a:¬ decide (p.1≠k)=true:=by simp[e]
   have b:¬ decide (q.1≠k)=true:=by simp[h1.symm.trans e]
   rw[if_neg a,if_neg b];exact ih
  ·have e':¬ q.1=k:=fun z=>e (h1.trans z);have a:decide (p.1≠k)=true:=by simp[e]
   have b:decide (q.1≠k)=true:=by simp[e']
   rw[if_pos a,if_pos b];exact .cons ⟨h1,h2⟩ ih
theorem KV.keys{kvs:List (κ × V)}{vs:List (κ × Value)}(r:KV kvs vs):kvs.map (·.1)=vs.map (·.1):=by
 unfold KV at r;induction r with
 |nil=>rfl
 |cons h t ih=>rw[List.map_cons,List.map_cons,ih,h.1]
theorem KV.length{kvs:List (κ × V)}{vs:List (κ × Value)}(r:KV kvs vs):kvs.length=vs.length:=Paired.length r
end
theorem yd5{P:Program}{w:World}{k:Key}{u:Value}(r:yhf (kV k) u):(zrz P w).is k u=true:=by
 cases k with
 |inl i=>obtain⟨t,e⟩:=(show ∃ t,u=Value.int i t from r);subst e;exact zdw P w i t
 |inr x=>obtain⟨t,e⟩:=(show ∃ t,u=Value.str x t from r);subst e;exact zdx P w x t
theorem zgv{P:Program}{w:World}:∀ {ks:List Key} {us:List Value},yho (ks.map kV) us->ItemsAre (zrz P w) ks us
 |[],_,r=>by rw[List.map_nil]at r;cases r;exact .nil
 |k::ks,_,r=>by
  rw[List.map_cons]at r;cases r with
  |cons h t=>exact .cons (yd5 h) (zgv t)
abbrev KT(H:Hp):List (List Key × V)->List (List Key × Addr × Value)->Prop:=Paired fun p q=>p.1=q.1/\H q.2.1=some (.tup (p.1.map kV))/\yhf p.2 q.2.2
theorem KT.val{H:Hp}{kvs:List (List Key × V)}{xs:List (List Key × Addr × Value)}(r:KT H kvs xs)(k:List Key):yhe (ylt kvs k) ((atKey xs k).map (·.2)):=by
 induction r with
 |nil=>exact True.intro
 |@cons p q ps qs h t ih=>
  obtain⟨h1,_,h2⟩:=h;by_cases e:p.1=k
  ·have e':q.1=k:=h1.symm.trans e;have b:atKey (q::qs) k=some q.2:=by simp[atKey,List.find?_cons,e']
   rw[zns e,b];exact h2
  ·have e':¬ q.1=k:=fun z=>e (h1.trans z);have b:atKey (q::qs) k=atKey qs k:=by simp[atKey,List.find?_cons,e']
   rw[znr e,b];exact ih
theorem KT.repl{H:Hp}{kvs:List (List Key × V)}{xs:List (List Key × Addr × Value)}(r:KT H kvs xs)(k:List Key){y:V}{u:Value}(ry:yhf y u) :
  KT H (kvs.map fun kv=>if kv.1=k then (kv.1,y)else kv) (xs.map (putAt k u)):=by
 induction r with
 |nil=>exact .nil
 |@cons p q ps qs h t ih=>
  rw[List.map_cons,List.map_cons];refine .cons ?_ ih;obtain⟨h1,h2,h3⟩:=h;unfold putAt;by_cases e:p.1=k
  ·rw[if_pos e,if_pos (h1.symm.trans e)];exact⟨h1,h2,ry⟩
  ·rw[if_neg e,if_neg (fun z=>e (h1.trans z))];exact⟨h1,h2,h3⟩
theorem KT.put{H:Hp}{kvs:List (List Key × V)}{xs:List (List Key × Addr × Value)}(r:KT H kvs xs)(k:List Key){b:Addr}{y:V}{u:Value}(hb:H b=some (.tup (k.map kV)))(ry:yhf y u) :
  KT H (ykb kvs k y) (storedH xs k b u):=by
 have e:(kvs.any fun kv=>decide (kv.1=k))=(atKey xs k).isSome:=by
  rw[znq,(r.val k).isSome_eq,Option.isSome_map]
 unfold ykb storedH;rw[e];by_cases q:(atKey xs k).isSome=true
 ·rw[if_pos q,if_pos q];exact r.repl k ry
 ·rw[if_neg q,if_neg q];exact Paired.snoc r ⟨rfl,hb,ry⟩
theorem KT.keeps{H H':Hp}{kvs:List (List Key × V)}{xs:List (List Key × Addr × Value)}(r:KT H kvs xs)(ht:∀ b ys,H b=some (.tup ys)->H' b=some (.tup ys)):KT H' kvs xs:=
 Paired.mapP r fun _ _ z=>⟨z.1,ht _ _ z.2.1,z.2.2⟩
section
variable{P:Program}{w:World}{H:Hp}{h:Heap}{a:Addr}
theorem yft{u:HO}(ok:HOk P w H h)(e:Rd H a u):yb3 P w H h a u:=e.ok ok
theorem ycu{kvs:List (Key × V)}(ok:HOk P w H h)(e:Rd H a (.dK kvs)):kvs.length<=sizeLine/\(a == sysModules)=false/\∃ vs,KV kvs vs/\h.DictOf (zrz P w) a vs:=
 show yb3 P w H h a (.dK kvs)from yft ok e
theorem yct{kvs:List (Key × V)}(ok:HOk P w H h)(e:H a=some (.dK kvs)):kvs.length<=sizeLine/\(a == sysModules)=false/\∃ vs,KV kvs vs/\h.DictOf (zrz P w) a vs:=ycu ok (.inl e)
theorem zyg{ks:List Key}(ok:HOk P w H h)(e:H a=some (.tup (ks.map kV))):(tupleKind (zrz P w)).is h ks a:=by
 obtain⟨_,its,r,o,h1,h2,n,h3⟩:=(show yb3 P w H h a (.tup (ks.map kV))from ok a _ e)
 exact⟨o,its.toArray,n,h1,h2,h3,by simpa using zgv r⟩
theorem ycx{kvs:List (List Key × V)}(ok:HOk P w H h)(e:Rd H a (.dT kvs)):kvs.length<=sizeLine/\(a == sysModules)=false/\
  ∃ xs,KT H kvs xs/\h.DictOfH (tupleKind (zrz P w)) a xs:=by
 obtain⟨z,y,xs,r,o,es,ep,h1,h2,h3,h4,h5⟩:=(show yb3 P w H h a (.dT kvs)from yft ok e)
 refine⟨z,y,xs,r,o,es,ep,h1,h2,h3,h4,fun x hx=>?_,h5⟩;have all:∀ {l:List (List Key × V)} {m:List (List Key × Addr × Value)},KT H l m->∀ x∈m,(tupleKind (zrz P w)).is h x.1 x.2.1:=by
  intro l m q;induction q with
  |nil=>intro x hx;exact nomatch hx
  |@cons p q ps qs hq t ih=>
   intro x hx;rcases List.mem_cons.mp hx with e|hx
   ·subst e;exact zyg ok (by rw[<-hq.1];exact hq.2.1)
   ·exact ih x hx
 exact all r x hx
theorem ycw{kvs:List (List Key × V)}(ok:HOk P w H h)(e:H a=some (.dT kvs)):kvs.length<=sizeLine/\(a == sysModules)=false/\
  ∃ xs,KT H kvs xs/\h.DictOfH (tupleKind (zrz P w)) a xs:=ycx ok (.inl e)
end
def DGet(H:Hp)(a:Addr)(y:V)(r:Option V):Prop:=
 (∃ kvs k,Rd H a (.dK kvs)/\y=kV k/\r=ylt kvs k)\/∃ kvs k b,Rd H a (.dT kvs)/\y=.ref b/\H b=some (.tup (k.map kV))/\r=ylt kvs k
def ygv(H:Hp)(a:Addr)(y v:V)(H':Hp):Prop:=
 (∃ kvs k,H a=some (.dK kvs)/\y=kV k/\kvs.length<sizeLine/\H'=upd H a (.dK (ykb kvs k v)))\/
 ∃ kvs k b,H a=some (.dT kvs)/\y=.ref b/\H b=some (.tup (k.map kV))/\kvs.length<sizeLine/\H'=upd H a (.dT (ykb kvs k v))
theorem DGet.k{H:Hp}{a:Addr}{kvs:List (Key × V)}{k:Key}(e:H a=some (.dK kvs)):DGet H a (kV k) (ylt kvs k):=.inl ⟨kvs,k,.inl e,rfl,rfl⟩
theorem DGet.t{H:Hp}{a b:Addr}{kvs:List (List Key × V)}{k:List Key}(e:H a=some (.dT kvs))(eb:H b=some (.tup (k.map kV))):DGet H a (.ref b) (ylt kvs k):=.inr ⟨kvs,k,b,.inl e,rfl,eb,rfl⟩
theorem ygv.k{H:Hp}{a:Addr}{kvs:List (Key × V)}{k:Key}{v:V}(e:H a=some (.dK kvs))(hl:kvs.length<sizeLine):ygv H a (kV k) v (upd H a (.dK (ykb kvs k v))):=.inl ⟨kvs,k,e,rfl,hl,rfl⟩
theorem ygv.t{H:Hp}{a b:Addr}{kvs:List (List Key × V)}{k:List Key}{v:V}(e:H a=some (.dT kvs))(eb:H b=some (.tup (k.map kV)))(hl:kvs.length<sizeLine) :
  ygv H a (.ref b) v (upd H a (.dT (ykb kvs k v))):=.inr ⟨kvs,k,b,e,rfl,eb,hl,rfl⟩
section
variable{X:Cx}{pins:List (Addr × Obj)}{σ:St}{H:Hp}{s:Shared}{a:Addr}{y v:V}{u r:Value}{o:Option V}{A:Around}{E:Value->Shared->Prop}
theorem Inv.big(I:Inv X pins σ H s):sysModules<s.heap.objs.size:=by
 have h:mainGlobals<s.heap.objs.size:=(I.mod.glob.keeps I.bk).lt;exact Nat.lt_trans (by decide) h
theorem zgd{Q:Value->Shared->Prop}(hu:A.units+1<cLine)(I:Inv X pins σ H s)(g:DGet H a y (some v))(ry:yhf y u)(h:∀ w' s',Inv X pins σ H s'->yhf v w'->Q w' s') :
  wpAny (model X.prog X.w) A (getItem (.ref a) u) Q E s:=by
 rcases g with⟨kvs,k,e,ey,l⟩|⟨kvs,k,b,e,ey,eb,l⟩
 ·subst ey;obtain⟨z,hd,vs,rel,dd⟩:=ycu I.hok e;obtain⟨w',hw,rw'⟩:=yhe.some_of (v:=v) (o:=valueAt vs k) (by rw[l];exact rel.val k);exact wpAny_getItem_of (yd5 ry) dd.mapOf hw (h w' _ (I.tok _) rw')
 ·subst ey;cases (show u=Value.ref b from ry);obtain⟨z,hd,xs,rel,dd⟩:=ycx I.hok e;obtain⟨w',hw,rw'⟩:=yhe.some_of (v:=v) (o:=(atKey xs k).map (·.2)) (by rw[l];exact rel.val k);obtain⟨p,hp,hp2⟩:=Option.map_eq_some_iff.mp hw;refine wpAny_getItem_heap (tupleKind_room_in1 hu) (zyg I.hok eb) dd hp ?_;rw[hp2];exact h w' _ (I.tok _) rw'
theorem yia{Q:Value->Shared->Prop}(hu:A.units+1<cLine)(I:Inv X pins σ H s)(g:DGet H a y o)(ry:yhf y u)(h:∀ s',Inv X pins σ H s'->Q (.bool o.isSome) s') :
  wpAny (model X.prog X.w) A (compareOp .In u (.ref a)) Q E s:=by
 rcases g with⟨kvs,k,e,ey,l⟩|⟨kvs,k,b,e,ey,eb,l⟩
 ·subst ey;obtain⟨z,hd,vs,rel,dd⟩:=ycu I.hok e;refine wpAny_in_of (yd5 ry) hd dd.mapOf ?_;rw[<-(rel.val k).isSome_eq,<-l];exact h _ (I.tok _)
 ·subst ey;cases (show u=Value.ref b from ry);obtain⟨z,hd,xs,rel,dd⟩:=ycx I.hok e;refine wpAny_in_heap (tupleKind_room_in1 hu) (zyg I.hok eb) hd dd ?_;have q:=(rel.val k).isSome_eq;rw[Option.isSome_map]at q;rw[<-q,<-l];exact h _ (I.tok _)
theorem zo0{h':Heap}{t':Nat}{ob:HO}(I:Inv X pins σ H s)(mu:Mut (H a))(hs:Heap.SameBut a s.heap h')(he:∃ q,h'.get? a=some q)(new:yb3 X.prog X.w (upd H a ob) h' a ob) :
  Inv X pins σ (upd H a ob) { s with heap:=h',toks:=t' }:=
 I.write (x:=a) (e:=a) mu (.inl rfl) (fun b q hb z=>(hs.2 b hb).trans z) he new
theorem zwa{P:Program}{w:World}{H':Hp}{h':Heap}{kvs:List (Key × V)}{vs:List (Key × Value)}(z:kvs.length<=sizeLine)(hd:(a == sysModules)=false)(rel:KV kvs vs)(dd:h'.DictOf (zrz P w) a vs) :
  yb3 P w H' h' a (.dK kvs):=⟨z,hd,vs,rel,dd⟩
theorem zge{H':Hp}{Q:Unit->Shared->Prop}(hu:A.units+1<cLine)(I:Inv X pins σ H s)(g:ygv H a y v H')(ry:yhf y u)(rv:yhf v r)(h:∀ s',Inv X pins σ H' s'->Q () s') :
  wpAny (model X.prog X.w) A (setItem (.ref a) u r) Q E s:=by
 rcases g with⟨kvs,k,e,ey,l,eH⟩|⟨kvs,k,b,e,ey,eb,l,eH⟩
 ·subst ey eH;obtain⟨z,hd,vs,rel,dd⟩:=yct I.hok e;have hz:vs.length<=sizeLine:=by rw[<-rel.length];exact z
  have hl:(ykb kvs k v).length<=sizeLine:=by have:=zdu kvs k v;omega
  refine wpAny_setItem_pairs (hsz:=hz) (yd5 ry) dd fun h' dd' hs=>h _ ?_;have he:∃ q,h'.get? a=some q:=let ⟨q,_,_,hq,_⟩:=dd';⟨q,hq⟩;exact zo0 I (by rw[e];exact True.intro) hs he (zwa hl hd (rel.put k rv) dd')
 ·subst ey eH;cases (show u=Value.ref b from ry);obtain⟨z,hd,xs,rel,dd⟩:=ycw I.hok e;have hz:xs.length<=sizeLine:=by rw[<-Paired.length rel];exact z
  have hl:(ykb kvs k v).length<=sizeLine:=by have:=zdu kvs k v;omega
  refine wpAny_setItem_heap (hsz:=hz) (tupleKind_room_in1 hu) (zyg I.hok eb) dd fun h' dd' hs=>h _ ?_;obtain⟨q,es,ep,hq,h2,h3,h4,_,h5⟩:=dd';refine zo0 I (by rw[e];exact True.intro) hs ⟨q,hq⟩ ⟨hl,hd,_,(rel.put k eb rv).keeps fun c ys ec=>?_,q,es,ep,hq,h2,h3,h4,h5⟩;rw[ybq (yes ec e (fun z=>nomatch z))];exact ec
end
section
variable{X:Cx}{pins:List (Addr × Obj)}{σ:St}{H:Hp}{s:Shared}{a:Addr}{kvs:List (Key × V)}{k:Key}{u:Value}{A:Around}{E:Value->Shared->Prop}
end
def yg8(i:Expr):Prop:=∀ ov iv,subscripted i false ov iv=operate [ov,iv] (getItem ov iv)
theorem zuw{prog:Program}{w:World}{A:Around}{E:Value->Shared->Prop}{s:Shared}{env:Env}{value slice:Expr}{pos:Pos}{T id:String}{Q:Value->Shared->Prop}
  (hl:typeLookup (.type T) "__getitem__" = pure (some (.builtin id))) (hs:yg8 slice)
  (h:wpAny (model prog w) A (eval value env) (fun o s₁=>wpAny (model prog w) A (eval slice env) (fun i s₂=>s₂.TypeIs o T/\wpAny (model prog w) A (getItem o i) Q E s₂) E s₁) E s) :
  wpAny (model prog w) A (eval (.Subscript value slice pos) env) Q E s:=by
 refine Subscript_ (wpAny_mono h (fun o s₁ h₁=>wpAny_mono h₁ (fun i s₂ h₂=>?_) fun _ _ x=>x) fun _ _ x=>x);obtain⟨hT,h₂⟩:=h₂;unfold subscriptTail;refine wpAny_bind ?_;rw[getitemInPython_of_ne hT.not_modules];refine wpAny_bind (wpAny_specialOf hT hl ?_);have fin:wpAny (model prog w) A (subscripted slice false o i) (fun r s₃=>wpAny (model prog w) A (letTemporaryGo value o r >>= fun _=>pure r) Q E s₃) E s₂:=by
  rw[hs o i];exact wpAny_operating (wpAny_mono h₂ (fun r s₃ h₃=>wpAny_bind (wpAny_letTemporaryGo (wpAny_pure h₃))) fun _ _ x=>x)
 first
  |exact wpAny_pure (wpAny_bind fin)
  |exact wpAny_bind (wpAny_pure (wpAny_bind fin))
  |exact wpAny_bind fin
theorem zdm{X:Cx}{pins:List (Addr × Obj)}{σ:St}{H:Hp}{s:Shared}{a:Addr}{y:V}{o:Option V}(I:Inv X pins σ H s)(g:DGet H a y o):s.TypeIs (.ref a) "dict":=by
 rcases g with⟨kvs,k,e,_,_⟩|⟨kvs,k,b,e,_,_,_⟩
 ·obtain⟨_,_,vs,_,dd⟩:=ycu I.hok e;exact dd.typeIs
 ·obtain⟨_,_,xs,_,dd⟩:=ycx I.hok e;exact dd.typeIs
def yf9(td ty:TE):TE:=fun σ H Q=>td σ H fun x H1=>ty σ H1 fun y H2=>∃ a v,x=.ref a/\DGet H2 a y (some v)/\Q v H2
section
variable{X:Cx}{o i e value:Expr}{pos pos' tpos:Pos}{td ty tv:TE}
theorem zsz(hu:X.A.units+1<cLine)(ho:PE X o td)(hi:PE X i ty)(hs:yg8 i):PE X (.Subscript o i pos) (yf9 td ty):=by
 intro pins s σ H Q I h;refine zuw PySem.F.slot_dict_getitem.lookup hs (thn (ho pins s σ H _ I h) fun u s1 ⟨x,H1,I1,rx,q1⟩=>thn (hi pins s1 σ H1 _ I1 q1) fun iv s2 ⟨y,H2,I2,ry,a,v,ex,g,q2⟩=>?_);subst ex;obtain rfl:u=Value.ref a:=rx;exact⟨zdm I2 g,zgd hu I2 g ry fun w' s3 I3 rw'=>⟨v,H2,I3,rw',q2⟩⟩
end
theorem zjd{P:Program}{w:World}{H:Hp}(h:Heap)(hb:sysModules<h.objs.size):yb3 P w H (h.push { cls:=.type "dict",data:=.dict #[] }) h.objs.size (.dK []):=
 ⟨Nat.zero_le _,beq_eq_false_iff_ne.mpr (Ne.symm (Nat.ne_of_lt hb)),[],.nil,Heap.DictOf.new h⟩
def ybe:TE:=fun _ H Q=>∀ p,H p=none->Q (.ref p) (upd H p (.dK []))
section
variable{X:Cx}{pos:Pos}
theorem zmd:PE X (.Dict [] [] pos) ybe:=fun pins s σ H Q I h=>
 wpAny_Dict_empty ⟨.ref s.heap.objs.size,_,I.laid (a:=s.heap.objs.size) (o:=.dK []) (t':=s.toks) (fun _ _ q=>Heap.get?_push_of_some _ q) (Nat.le_refl _) (zjd s.heap I.big),rfl,h _ (I.hok.fresh (Nat.le_refl _))⟩
end
section
variable{X:Cx}{pins:List (Addr × Obj)}{σ:St}{H:Hp}{s:Shared}{a:Addr}{kvs:List (Key × V)}{A:Around}{E:Value->Shared->Prop}
theorem zi9{Q:Value->Shared->Prop}(I:Inv X pins σ H s)(e:Rd H a (.dK kvs))(h:∀ p s',H p=none->Inv X pins σ (upd H p (.dK kvs)) s'->Q (.ref p) s'):wpAny (model X.prog X.w) A (call (.type "dict") [.ref a]) Q E s:=by
 obtain⟨z,hd,vs,rel,dd⟩:=ycu I.hok e;refine kt_call_dict hd dd (by rw[<-rel.length];exact z) fun h' dd' hs=>?_;refine h _ _ (I.hok.fresh (Nat.le_refl _)) (I.laid (a:=s.heap.objs.size) (o:=.dK kvs) (t':=s.toks) (fun b q hq=>?_) (Nat.le_refl _) (zwa z (beq_eq_false_iff_ne.mpr (Ne.symm (Nat.ne_of_lt I.big))) rel dd'));exact(hs.2 b (Nat.ne_of_lt (Heap.lt_size hq))).trans (Heap.get?_push_of_some _ hq)
end
end L2
namespace L4
open PySem PySem.Spec PyProof.Rows L2
def yi7:D->Option Key
 | .int i=>some (.inl i)
 | .str x=>some (.inr x)
 |_=>none
def yib(σ:Sto):D->Option (List (Key × D))
 | .dic ks xs=>if ks.length=xs.length then some (ks.zip xs)else none
 | .ref n=>(match σ[n]? with
  |some (.dic kvs)=>some kvs
  |_=>none)
 |_=>none
def ydc(kvs:List (Key × D))(k:Key):Option D:=(kvs.find? fun kv=>decide (kv.1=k)).map (·.2)
def yfl(kvs:List (Key × D))(k:Key)(d:D):List (Key × D):=
 if kvs.any (fun kv=>decide (kv.1=k))then kvs.map fun kv=>if kv.1=k then (kv.1,d)else kv else kvs++[(k,d)]
section
variable{T:Tb}{X:Cx}{μ:List Addr}{H:Hp}
theorem zq5{y:D}{v:V}{k:Key}(h:Rep T μ H y v)(e:yi7 y=some k):v=kV k:=by
 cases y<;>simp[yi7]at e<;>subst e<;>rw[Rep]at h<;>exact h
theorem zmp:∀ {ks:List Key} {ds:List D} {kvs:List (Key × V)},kvs.map (·.1)=ks->yhi T μ H ds (kvs.map (·.2))->yhh T μ H (ks.zip ds) kvs
 |ks,[],kvs,h1,h2=>by
  rw[yhi]at h2;have:kvs=[]:=by simpa using h2
  subst this;rw[<-h1];exact .nil
 |ks,d::ds,kvs,h1,h2=>by
  rw[yhi]at h2;obtain⟨v,r,e,q1,q2⟩:=h2;cases kvs with
  |nil=>cases e
  |cons p kvs=>
   rw[List.map_cons]at e h1;cases e;rw[<-h1];exact .cons ⟨rfl,q1⟩ (zmp rfl q2)
theorem yav{σ:Sto}(r:Rel T μ H σ){x:D}{v:V}{kvs:List (Key × D)}(h:Rep T μ H x v)(e:yib σ x=some kvs):∃ a vs,v=.ref a/\Rd H a (.dK vs)/\yhh T μ H kvs vs:=by
 cases x with
 |dic ks xs=>
  rw[Rep]at h;obtain⟨a,vs,rfl,_,h1,h2,h3⟩:=h;unfold yib at e;dsimp only at e;split at e
  ·cases e;exact⟨a,vs,rfl,h1,zmp h2 h3⟩
  ·cases e
 |ref n=>
  unfold yib at e;dsimp only at e;cases q:σ[n]? with
  |none=>rw[q]at e;cases e
  |some o=>
   rw[q]at e;cases o with
   |dic kvs'=>
    cases e;obtain⟨a,rfl,_,vs,h1,h2⟩:=r.at h q;exact⟨a,vs,rfl,.inl h1,h2⟩
   |_=>cases e
 |_=>cases e
theorem zj7{kvs:List (Key × D)}{vs:List (Key × V)}(h:yhh T μ H kvs vs)(k:Key):(ydc kvs k=none/\ylt vs k=none)\/∃ d v,ydc kvs k=some d/\ylt vs k=some v/\Rep T μ H d v:=by
 unfold yhh at h;induction h with
 |nil=>exact .inl ⟨rfl,rfl⟩
 |@cons p q ps qs h t ih=>
  obtain⟨h1,h2⟩:=h;by_cases e:p.1=k
  ·have e':q.1=k:=h1.symm.trans e;exact .inr ⟨p.2,q.2,by unfold ydc;rw[List.find?_cons,decide_eq_true e];rfl,zns e',h2⟩
  ·have e':¬ q.1=k:=fun z=>e (h1.trans z);have f:ydc (p::ps) k=ydc ps k:=by unfold ydc;rw[List.find?_cons,decide_eq_false e]
   rw[f,znr e'];exact ih
theorem zn7{kvs:List (Key × D)}{vs:List (Key × V)}(h:yhh T μ H kvs vs)(k:Key):(kvs.any fun kv=>decide (kv.1=k))=(vs.any fun kv=>decide (kv.1=k)):=by
 unfold yhh at h;induction h with
 |nil=>rfl
 |@cons p q ps qs h t ih=>rw[List.any_cons,List.any_cons,ih,h.1]
theorem ze9{α β:Type}{F:α->β->Prop}{f:α->α}{g:β->β}(hfg:∀ a b,F a b->F (f a) (g b)):∀ {l:List α} {m:List β},Paired F l m->Paired F (l.map f) (m.map g)
 |_,_,.nil=>.nil
 |_,_,.cons h t=>.cons (hfg _ _ h) (ze9 hfg t)
theorem zd5{α β:Type}{F:α->β->Prop}{a:α}{b:β}(hab:F a b):∀ {l:List α} {m:List β},Paired F l m->Paired F (l++[a]) (m++[b])
 |_,_,.nil=>.cons hab .nil
 |_,_,.cons h t=>.cons h (zd5 hab t)
theorem zje{kvs:List (Key × D)}{vs:List (Key × V)}(h:yhh T μ H kvs vs)(k:Key){d:D}{v:V}(hd:Rep T μ H d v):yhh T μ H (yfl kvs k d) (ykb vs k v):=by
 unfold yfl ykb;rw[zn7 h k];split
 ·refine ze9 (fun p q h=>?_) h;by_cases e:p.1=k
  ·rw[if_pos e,if_pos (h.1.symm.trans e)];exact⟨h.1,hd⟩
  ·rw[if_neg e,if_neg (fun z=>e (h.1.trans z))];exact h
 ·exact zd5 ⟨rfl,hd⟩ h
theorem yhh.mono{μ':List Addr}{H':Hp}(e:Ext μ H μ' H'){kvs:List (Key × D)}{vs:List (Key × V)}(h:yhh T μ H kvs vs):yhh T μ' H' kvs vs:=Paired.mapP h fun _ _ z=>⟨z.1,Rep.mono e _ _ z.2⟩
theorem _root_.L2.DGet.kr{H:Hp}{a:Addr}{kvs:List (Key × V)}{k:Key}(e:Rd H a (.dK kvs)):DGet H a (kV k) (ylt kvs k):=.inl ⟨kvs,k,e,rfl,rfl⟩
def yew(x y:D):M D:=fun σ=>match yi7 y with
 |some k=>(match yib σ x with
  |some kvs=>(match ydc kvs k with
   |some d=>.ok d σ
   |none=>.bad)
  |none=>.bad)
 |none=>.bad
theorem zpm{o i:Expr}{fo fi:Ev->M D}{pos:Pos}(hu:X.A.units+9<cLine)(ho:FE T X o fo)(hi:FE T X i fi)(hs:yg8 i):FE T X (.Subscript o i pos) (yid yew fo fi):=by
 intro pins s st H Q I h;refine zsz (by omega) ho hi hs pins s st H Q I ?_;obtain⟨μ,ρ,σ,hE,hr,hp⟩:=h;refine⟨μ,ρ,σ,hE,hr,hp.bind fun x σ1 μ1 v H1 _ e1 r1 q1 p1=>⟨μ1,ρ,σ1,hE.mono e1,r1,p1.bind fun y σ2 μ2 u H2 _ e2 r2 q2 p2=>?_⟩⟩;unfold yew at p2;cases ek:yi7 y with
 |none=>rw[ek]at p2;exact p2.elim
 |some k=>
  rw[ek]at p2;dsimp only at p2;cases ed:yib σ2 x with
  |none=>rw[ed]at p2;exact p2.elim
  |some kvs=>
   rw[ed]at p2;dsimp only at p2;obtain⟨a,vs,rfl,h1,h2⟩:=yav r2 (Rep.mono e2 _ _ q1) ed;obtain rfl:=zq5 q2 ek;rcases zj7 h2 k with⟨z1,_⟩|⟨d,w,z1,z2,z3⟩
   ·rw[z1]at p2;exact p2.elim
   ·rw[z1]at p2;exact⟨a,w,rfl,by rw[<-z2];exact DGet.kr h1,yhc.here p2 r2 z3⟩
def ykd:R2:=fun y x H Q=>∃ a o,x=.ref a/\DGet H a y o/\Q (.bl o.isSome) H
theorem zzm(hu:X.A.units+9<cLine):OpR X (compareOp .In) ykd:=by
 intro pins s st H y x iv u Q I ry rx h;obtain⟨a,o,rfl,g,q⟩:=h;obtain rfl:u=Value.ref a:=rx;exact yia (by omega) I g ry fun s3 I3=>⟨.bl o.isSome,H,I3,rfl,q⟩
def yjo(y x:D):M D:=fun σ=>match yi7 y with
 |some k=>(match yib σ x with
  |some kvs=>.ok (.bl (ydc kvs k).isSome) σ
  |none=>.bad)
 |none=>.bad
theorem zug:yb8 T ykd yjo:=by
 intro E μ H σ y x u v Q r q p h;unfold yjo at h;cases ek:yi7 y with
 |none=>rw[ek]at h;exact h.elim
 |some k=>
  rw[ek]at h;dsimp only at h;cases ed:yib σ x with
  |none=>rw[ed]at h;exact h.elim
  |some kvs=>
   rw[ed]at h;obtain⟨a,vs,rfl,h1,h2⟩:=yav r p ed;obtain rfl:=zq5 q ek;refine⟨a,ylt vs k,rfl,DGet.kr h1,yhc.here h r ?_⟩;rw[Rep];rcases zj7 h2 k with⟨z1,z2⟩|⟨d,w,z1,z2,z3⟩
   ·rw[z1,z2];rfl
   ·rw[z1,z2];rfl
def yfq:yhl:=fun x y v H Q=>∃ a H',x=.ref a/\ygv H a y v H'/\Q H'
theorem zm4(hu:X.A.units+9<cLine):yhb X yfq:=by
 intro pins s st H o i v ov iv u Q I ro ri rv h;obtain⟨a,H',rfl,g,q⟩:=h;obtain rfl:ov=Value.ref a:=ro;exact zge (by omega) I g ri rv fun s4 I4=>⟨H',I4,q⟩
def yf3(ρ:Ev)(d x:D)(y:D):M Fl:=fun σ=>match x with
 | .ref n=>(match yi7 y with
  |some k=>(match σ[n]? with
   |some (.dic kvs)=>if kvs.length<cap then .ok (.nx ρ) (σ.set n (.dic (yfl kvs k d)))else .bad
   |_=>.bad)
  |none=>.bad)
 |_=>.bad
def yf2(ρ:Ev)(fi:Ev->M D)(d x:D):M Fl:=xs ρ (fi ρ) (yf3 ρ d x)
def yf1(ρ:Ev)(fo fi:Ev->M D)(d:D):M Fl:=xs ρ (fo ρ) (yf2 ρ fi d)
def yfw(f fo fi:Ev->M D):Ev->M Fl:=fun ρ=>xs ρ (f ρ) (yf1 ρ fo fi)
theorem zp9{e o i:Expr}{f fo fi:Ev->M D}{pos pos':Pos}(hu:X.A.units+9<cLine)(he:FE T X e f)(ho:FE T X o fo)(hi:FE T X i fi)
  (ha:∀ v,assign (.Subscript o i pos') X.env v=(do
   let ov <-holding [v] (eval o X.env);let iv <-holding [v,ov] (eval i X.env)
   standAt pos'
   holding [v,ov,iv] (setItem ov iv v)
   release [v,ov,iv] []):=by intro _;rfl)
  (hs:swapsWithSole [.Subscript o i pos'] e pos.line X.env=pure false:=by rfl) (hw:swappedStores [.Subscript o i pos'] e X.env=pure none:=by rfl)
  (h1:(assignEach [.Subscript o i pos'] X.env).map (·.2)=[assign (.Subscript o i pos') X.env]:=by rfl):FS T X (.Assign [.Subscript o i pos'] e pos) (yfw f fo fi):=by
 intro pins s st H D I hq;refine yag he (zz8 ho hi (zm4 hu) ha) hs hw h1 pins s st H D I ?_;obtain⟨μ,ρ,σ,hE,hr,hp⟩:=hq;refine⟨μ,ρ,σ,hE,hr,hp.xs hE fun d σ1 μ1 v H1 _ e1 r1 q1 p1=>?_⟩;refine⟨μ1,ρ,σ1,hE.mono e1,r1,p1.xs (hE.mono e1) fun x σ2 μ2 vo H2 _ e2 r2 q2 p2=>?_⟩;refine⟨μ2,ρ,σ2,(hE.mono e1).mono e2,r2,p2.xs ((hE.mono e1).mono e2) fun y σ3 μ3 vi H3 _ e3 r3 q3 p3=>?_⟩;have hd:=Rep.mono e3 _ _ (Rep.mono e2 _ _ q1);have hx:=Rep.mono e3 _ _ q2;unfold yf3 at p3;cases x with
 |ref n=>
  dsimp only at p3;cases ek:yi7 y with
  |none=>rw[ek]at p3;exact p3.elim
  |some k=>
   rw[ek]at p3;dsimp only at p3;cases el:σ3[n]? with
   |none=>rw[el]at p3;exact p3.elim
   |some ob=>
    rw[el]at p3;cases ob with
    |dic kvs=>
     dsimp only at p3;by_cases hc:kvs.length<cap
     ·rw[if_pos hc]at p3;obtain⟨a,rfl,hn,vs,g1,g2⟩:=r3.at hx el;obtain rfl:=zq5 q3 ek;have wr:=r3.write (o:=.dK (ykb vs k v)) (ob:=.dic (yfl kvs k d)) hn ⟨_,znp,by
       have ex:Ext μ3 H3 μ3 (upd H3 a (.dK (ykb vs k v))):=zgj (List.mem_of_getElem? hn) g1 (fun _ z=>by cases z) (fun _ _ z=>by cases z);exact zje (yhh.mono ex g2) k (Rep.mono ex _ _ hd)⟩
      have hlen:vs.length=kvs.length:=by unfold yhh at g2;exact(Paired.length g2).symm
      exact⟨a,_,rfl,ygv.k g1 (by rw[hlen];exact Nat.lt_of_lt_of_le hc (by decide)),p3 _ (.nx st) _ wr.1 wr.2 (((hE.mono e1).mono e2).mono e3 |>.mono wr.1)⟩
     ·rw[if_neg hc]at p3;exact p3.elim
    |_=>exact p3.elim
 |_=>exact p3.elim
def yc0:Ev->M D:=fun _ σ=>.ok (.ref σ.length) (σ++[.dic []])
theorem zpn{pos:Pos}:FE T X (.Dict [] [] pos) yc0:=by
 intro pins s st H Q I h;obtain⟨μ,ρ,σ,hE,hr,hp⟩:=h;refine zmd pins s st H Q I fun p hn=>?_;exact hp (μ++[p]) (.ref p) _ (zjw hn) (hr.push hn ⟨[],znp,.nil⟩) (zmo hr)
def yke:List V->Hp->VK->Prop:=fun xs H Q=>∃ a kvs,xs=[.ref a]/\Rd H a (.dK kvs)/\∀ p,H p=none->Q (.ref p) (upd H p (.dK kvs))
theorem zi0:ybv X (.type "dict") yke:=by
 intro pins s st H xs us Q I r h;obtain⟨a,kvs,rfl,e,q⟩:=h;obtain⟨u,rfl,ru⟩:=ygk r;cases ru;exact zi9 I e fun p s' hn I'=>⟨.ref p,_,I',rfl,q p hn⟩
def yjp(ds:List D):M D:=fun σ=>match ds with
 |[x]=>(match yib σ x with
  |some kvs=>.ok (.dic (kvs.map (·.1)) (kvs.map (·.2))) σ
  |none=>.bad)
 |_=>.bad
theorem ztf:∀ {kvs:List (Key × D)} {vs:List (Key × V)},yhh T μ H kvs vs->vs.map (·.1)=kvs.map (·.1)/\yhi T μ H (kvs.map (·.2)) (vs.map (·.2))
 |_,_,.nil=>⟨rfl,yhi.nil⟩
 |_,_,.cons h t=>by
  obtain⟨z1,z2⟩:=ztf t;exact⟨by rw[List.map_cons,List.map_cons,z1,h.1],yhi.cons h.2 z2⟩
theorem zuf:zn0 T yke yjp:=by
 intro E μ H σ ds vs Q r p h
 match ds with
 |[]=>exact h.elim
 |[x]=>
  unfold yjp at h;dsimp only at h;cases ed:yib σ x with
  |none=>rw[ed]at h;exact h.elim
  |some kvs=>
   rw[ed]at h;rw[yhi]at p;obtain⟨v,r',rfl,q1,q2⟩:=p;rw[yhi]at q2;subst q2;obtain⟨a,ws,rfl,h1,h2⟩:=yav r q1 ed;refine⟨a,ws,rfl,h1,fun l hn=>?_⟩;obtain⟨z1,z2⟩:=ztf h2;exact h μ (.ref l) _ (zpi hn) (r.fresh hn) (by rw[Rep];exact⟨l,ws,rfl,fun hm=>(by obtain⟨u,hu,_⟩:=r.mem hm;rw[hn]at hu;cases hu),(.inl znp),z1,yhi.mono (zpi hn) _ _ z2⟩)
 |_::_::_=>exact h.elim
end
section
variable{T:Tb}{X:Cx}
def zy9(x:D)(xs:List D):M D:=fun σ=>match xs with
 |[y]=>(match yjd σ x with
  |some ys=>if (isF y && ys.all isF && decide (ys.length<=900) && decide ((ys.findIdx fun z=>eqF z y)<ys.length))=true then .ok (.int (ys.findIdx fun z=>eqF z y:Nat)) σ else .bad
  |none=>.bad)
 |_=>.bad
structure InK(K:PySem.W.Frag)(C:Addr):Prop where
 cl:L2.Cls K C
 a:PySem.W.findIn K (.ref C) "__class__" = some (some (.builtin "object.__class__"))
 n:PySem.W.specialIn K (.builtin "object.__class__") "__get__" = some (some (.builtin "getset_descriptor.__get__"))
 t:PySem.W.takesIn K (.builtin "object.__class__")=some true
 m:PySem.W.mroIn K C (.type "object")=some true
def yea:List (Key × D)->List (Key × D)->Bool
 |[],[]=>true
 |(k,.int i)::r,(k',.int j)::r'=>decide (k=k') && (i == j) && yea r r'
 |_,_=>false
theorem zez:∀ {l:List (Key × D)},(∀ p∈l,∃ i,p.2=.int i)->yea l l=true
 |[],_=>rfl
 |(k,d)::r,h=>by
  obtain⟨i,e⟩:=h (k,d) List.mem_cons_self;dsimp only at e;subst e;unfold yea;rw[zez fun p hp=>h p (List.mem_cons_of_mem _ hp)];simp
theorem zqq{A:Around}{s:Shared}:∀ {ka:List (Key × V)} {va vb:List (Key × Value)},KV ka va->KV ka vb->(∀ p∈ka,∃ i,p.2=V.int i)->∀ (B:List (Key × Value)),(∀ p∈vb,valueAt B p.1=some p.2)->PySem.W.KeqHits A s B va true
 |_,_,_,.nil,.nil,_,B,_=>.nil
 |_,_,_,@Paired.cons _ _ _ p q ps qs h1 t1,@Paired.cons _ _ _ _ q' _ qs' h2 t2,hi,B,hB=>by
  obtain⟨i,ei⟩:=hi p List.mem_cons_self;obtain⟨k1,r1⟩:=h1;obtain⟨k2,r2⟩:=h2;rw[ei]at r1 r2;obtain⟨t,et⟩:=r1;obtain⟨t',et'⟩:=r2;have hv:=hB q' List.mem_cons_self;rw[<-k2,k1,et']at hv;have:=PySem.W.KeqHits.hit (A:=A) (s:=s) (kb:=B) (k:=q.1) (v:=q.2) (r:=qs) hv (by rw[et];exact SeqAt.EqAt.int_int i t i t') (zqq t1 t2 (fun p hp=>hi p (List.mem_cons_of_mem _ hp)) B (fun p hp=>hB p (List.mem_cons_of_mem _ hp)));have eq:q=(q.1,q.2):=rfl;rw[show (i == i)=true by simp]at this;exact this
theorem zeh:∀ {vb:List (Key × Value)},(vb.map (·.1)).Nodup->∀ p∈vb,valueAt vb p.1=some p.2
 |[],_,p,h=>nomatch h
 |q::r,hn,p,h=>by
  rw[List.map_cons,List.nodup_cons]at hn;rcases List.mem_cons.mp h with rfl|h
  ·simp[valueAt,List.find?_cons]
  ·have ne:¬ q.1=p.1:=fun z=>hn.1 (by rw[z];exact List.mem_map_of_mem h);have:=zeh hn.2 p h;simp only[valueAt,List.find?_cons,ne,decide_false]at this ⊢;exact this
def yjs(x y:D):M D:=fun σ=>match yib σ x with
 |some k1=>(match yib σ y with
  |some k2=>if yea k1 k2=true then .ok (.bl true) σ else .bad
  |none=>.bad)
 |none=>.bad
theorem zlh{μ:List Addr}{H:Hp}:∀ {k1 k2:List (Key × D)} {v1 v2:List (Key × V)},yhh T μ H k1 v1->yhh T μ H k2 v2->yea k1 k2=true->v1=v2/\∀ p∈v1,∃ i,p.2=V.int i
 |[],[],_,_,.nil,.nil,_=>⟨rfl,fun _ h=>nomatch h⟩
 |[],_::_,_,_,_,_,h=>by simp[yea]at h
 |(k,d)::r,[],_,_,_,_,h=>by cases d<;>simp[yea]at h
 |(k,d)::r,(k',d')::r',_,_,@Paired.cons _ _ _ _ q _ qs h1 t1,@Paired.cons _ _ _ _ q' _ qs' h2 t2,h=>by
  cases d<;>cases d'<;>simp only[yea,Bool.and_eq_true,decide_eq_true_eq,beq_iff_eq,Bool.false_eq_true]at h;obtain⟨⟨rfl,rfl⟩,hr⟩:=h;obtain⟨e,hi⟩:=zlh t1 t2 hr;subst e;obtain⟨a1,a2⟩:=h1;obtain⟨b1,b2⟩:=h2;dsimp only at a1 a2 b1 b2;rw[Rep]at a2 b2;have eq:q=q':=Prod.ext (a1.symm.trans b1) (a2.trans b2.symm);subst eq;refine⟨rfl,fun p hp=>?_⟩;rcases List.mem_cons.mp hp with rfl|hp
  ·exact⟨_,a2⟩
  ·exact hi p hp
end
section
variable{T:Tb}{X:Cx}
def ye2(ds:List D):M D:=fun σ=>match ds with
 |[x]=>(match x with
  | .int i=>.ok (.int i) σ
  | .bl k=>.ok (.int (if k then 1 else 0)) σ
  |_=>.bad)
 |_=>.bad
theorem zm8:zn0 T (fun xs H Q=>(∃ i,xs=[.int i]/\Q (.int i) H)\/∃ k,xs=[.bl k]/\Q (.int (if k then 1 else 0)) H) ye2:=by
 intro E μ H σ xs vs Q r p h
 match xs with
 |[]=>exact h.elim
 |[x]=>
  rw[yhi]at p;obtain⟨v,w,rfl,p1,p2⟩:=p;rw[yhi]at p2;subst p2;cases x with
  |int i=>rw[Rep]at p1;subst p1;exact .inl ⟨i,rfl,yhc.here h r (by rw[Rep])⟩
  |bl k=>rw[Rep]at p1;subst p1;exact .inr ⟨k,rfl,yhc.here h r (by rw[Rep])⟩
  |_=>exact h.elim
 |_::_::_=>exact h.elim
inductive CDs(X:Cx):List (Option Expr)->List Expr->List (Str × Str)->Prop
 |nil:CDs X [] [] []
 |cons {k v:Expr} {x y:Str} {ks:List (Option Expr)} {vs:List Expr} {l:List (Str × Str)}:PE X k (tC (.str x))->PE X v (tC (.str y))->CDs X ks vs l->CDs X (some k::ks) (v::vs) ((x,y)::l)
theorem CDs.all{ks vs l}(h:CDs X ks vs l):ks.all (·.isSome)=true/\ks.length=vs.length/\ks.length=l.length:=by
 induction h with
 |nil=>exact⟨rfl,rfl,rfl⟩
 |cons _ _ _ ih=>exact⟨by simpa using ih.1,by simpa using ih.2.1,by simpa using ih.2.2⟩
theorem put_new{kvs:List (Key × V)}{k:Key}{v:V}(h:k ∉ kvs.map (·.1)):ykb kvs k v=kvs++[(k,v)]:=by
 unfold ykb;rw[if_neg];intro z;rw[List.any_eq_true]at z;obtain⟨x,hx,e⟩:=z;exact h (List.mem_map.mpr ⟨x,hx,of_decide_eq_true e⟩)
end
def yhw(o:Int->Int->Int)(i:Nat)(ρ:Ev)(x d:D):M Fl:=fun σ=>match x,d with
 | .int a,.int b=>.ok (.nx (ρ.set i (some (.int (o a b))))) σ
 |_,_=>.bad
def yks(o:Int->Int->Int)(i:Nat)(f:Ev->M D):Ev->M Fl:=fun ρ=>match ρ[i]? with
 |some (some x)=>xs ρ (f ρ) (yhw o i ρ x)
 |_=>fun _=>.bad
theorem ztq{o:Int->Int->Int}{i:Nat}{f:Ev->M D}{ρ:Ev}{σ:Sto}{x:D}(h:ρ[i]?=some (some x)):yks o i f ρ σ=xsO ρ (yhw o i ρ x) (f ρ σ):=by
 unfold yks;rw[h];exact ygo ..
@[simp] theorem zoe(o:Int->Int->Int)(i:Nat)(ρ:Ev)(a b:Int)(σ:Sto):yhw o i ρ (.int a) (.int b) σ=.ok (.nx (ρ.set i (some (.int (o a b))))) σ:=nr rfl
section
variable{T:Tb}{X:Cx}{e:Expr}{f:Ev->M D}{pos:Pos}
theorem zxn{i:Nat}{x:Str}{pos':Pos}{op:Operator}{o:Int->Int->Int}(ho:PIp X op (ipI o))(hN:X.N.Nodup)(hi:X.N[i]?=some x)(hx:Loc X.env.scope x)(he:FE T X e f)(hf:X.fn x=true\/X.env.scope.names.lookup x=some .local:=by first|exact .inl rfl|exact .inr rfl|assumption) :
  FS T X (.AugAssign (.Name x pos') op e pos) (yks o i f):=by
 intro pins s st H D I hw;refine yah hN hi hx he ho hf pins s st H D I ?_;obtain⟨μ,ρ,σ,hE,hr,hp⟩:=hw;unfold yks at hp;cases e0:ρ[i]? with
 |none=>rw[e0]at hp;exact hp.elim
 |some q=>
  cases q with
  |none=>rw[e0]at hp;exact hp.elim
  |some d=>
   rw[e0]at hp;obtain⟨v,h1,h2⟩:=hE.2 i d e0;refine⟨v,h1,μ,ρ,σ,hE,hr,hp.xs hE fun y σ1 μ1 vy H1 _ e1 r1 q1 p1=>?_⟩;cases d with
   |int a=>
    cases y with
    |int b=>
     rw[Rep]at h2 q1;subst h2 q1;exact⟨a,b,rfl,rfl,yhc.here (g:=Gl2.nx (st.set i (some (.int (o a b))))) p1 r1 ((hE.mono e1).set i (by rw[Rep]))⟩
    |_=>exact p1.elim
   |_=>exact p1.elim
end
end L4
namespace L4
open PySem PySem.Spec PySem.Calls PyProof.Rows L2
section
variable{T:Tb}{X:Cx}
end
end L4
namespace L4
open PySem PySem.Spec PyProof.Rows L2
def zyw(o:D->List D->M D)(m:M (List D))(x:D):M D:=fun σ=>match yib σ x with
 |some _=>bnd m (o x) σ
 |none=>.bad
def zwf(o:D->List D->M D)(f:Ev->M D)(fs:Ev->M (List D)):Ev->M D:=fun ρ=>bnd (f ρ) (zyw o (fs ρ))
def zte:V->List V->Hp->VK->Prop:=fun x vs H Q=>∃ a kvs k d,x=.ref a/\vs=[kV k,d]/\H a=some (.dK kvs)/\kvs.length<sizeLine/\
 (∀ v,ylt kvs k=some v->Q v H)/\(ylt kvs k=none->Q d (upd H a (.dK (ykb kvs k d))))
def zsm(x:D)(xs:List D):M D:=fun σ=>match x,xs with
 | .ref n,[y,d]=>(match yi7 y with
  |some k=>(match σ[n]? with
   |some (.dic kvs)=>if kvs.length<cap then (match ydc kvs k with
    |some e=>.ok e σ
    |none=>.ok d (σ.set n (.dic (yfl kvs k d))))else .bad
   |_=>.bad)
  |none=>.bad)
 |_,_=>.bad
section
variable{T:Tb}{X:Cx}{o e:Expr}{es:List Expr}{f:Ev->M D}{fs:Ev->M (List D)}{name:Str}{apos cpos:Pos}{id:String}{r:V->List V->Hp->VK->Prop}{g:D->List D->M D}
theorem zhf:MtR X "dict.setdefault" zte:=by
 intro pins s st H x vs v us Q I rx rv h;obtain⟨a,kvs,k,d,rfl,rfl,hH,hl,h1,h2⟩:=h;cases rx;obtain⟨u,r,rfl,ru,rr⟩:=rv.two;obtain⟨z,hd,ws,rel,dd⟩:=yct I.hok hH;have hz:ws.length<=sizeLine:=by rw[<-rel.length];exact z
 have hlp:(ykb kvs k d).length<=sizeLine:=by have:=zdu kvs k d;omega
 refine call_meetsIn PySem.F.slot_dict_setdefault dd.typeIs PySem.F.entry_dict_setdefault (PySem.F.args_dict_setdefault_3 _ _ _) (kt_meets_setdefault (zrz X.prog X.w) a (yd5 ru) hd r) ⟨ws,dd,hz,fun w hw=>?_,fun hn h' dd' hs=>?_⟩
 ·have q:=rel.val k;rw[hw]at q;cases e:ylt kvs k with
  |none=>rw[e]at q;exact absurd q (by simp[yhe])
  |some x=>rw[e]at q;exact⟨x,H,I.tok _,q,h1 x e⟩
 ·have q:=rel.val k;rw[hn]at q;cases e:ylt kvs k with
  |some x=>rw[e]at q;exact absurd q (by simp[yhe])
  |none=>
   have he:∃ q,h'.get? a=some q:=let ⟨q,_,_,hq,_⟩:=dd';⟨q,hq⟩;exact⟨d,_,zo0 I (by rw[hH];exact True.intro) hs he (zwa hlp hd (rel.put k rr) dd'),rr,h2 e⟩
theorem zwb{p:Addr}{kvs:List (Key × V)}{pins:List (Addr × Obj)}{σ:St}{H:Hp}{s:Shared}(I:Inv X pins σ H s)(hk:Rd H p (.dK kvs)):s.TypeIs (.ref p) "dict"/\∀ a,Value.ref p=.ref a->∃ ob,s.heap.get? a=some ob/\ob.dict=none:=by
 obtain⟨_,_,_,_,o,_,_,e,ex,_⟩:=ycu I.hok hk;refine⟨⟨o,e,ex.1⟩,fun a e2=>?_⟩;cases e2;exact⟨o,e,ex.2.1⟩
def ylb(r:V->List V->Hp->VK->Prop)(to:TE):TE:=fun σ H Q=>to σ H fun x H1=>(∃ a kvs,x=.ref a/\Rd H1 a (.dK kvs))/\r x [] H1 Q
def tBD(r:V->List V->Hp->VK->Prop)(to:TE)(t:TA):TE:=fun σ H Q=>to σ H fun x H1=>(∃ a kvs,x=.ref a/\Rd H1 a (.dK kvs))/\t σ H1 fun xs H2=>r x xs H2 Q
theorem zsx{to:TE}(pa:PlainAttrs "dict")(slot:Slot "dict" name id)(hty:typeOf (.builtin id)=pure (.type "method_descriptor"))(hm:MtR X id r)(ho:PE X o to)
  (hbase:attributeBase o name X.env (eval o X.env)=eval o X.env:=by rfl) (hline:(apos.endLine == cpos.line)=true:=by rfl):PE X (.Call (.Attribute o name apos) [] [] cpos) (ylb r to):=by
 intro pins s σ H Q I h;refine wpAny_Call_method0_late hbase hline (thn (ho pins s σ H _ I h) fun v s1 ⟨x,H1,I1,r1,ty,q1⟩=>?_);obtain⟨a,kvs,rfl,hk⟩:=ty;cases r1;obtain⟨h1,h2⟩:=zwb I1 hk;exact⟨"dict",id,pa,slot,hty,h1,h2,Calls.callWith_builtin rfl (PySem.evalArgs_none (hm pins s1 σ H1 (.ref a) [] (.ref a) [] Q I1 rfl .nil q1))⟩
theorem zzy{to:TE}{t:TA}(pa:PlainAttrs "dict")(slot:Slot "dict" name id)(hty:typeOf (.builtin id)=pure (.type "method_descriptor"))(hm:MtR X id r)(ho:PE X o to)(ha:PA X (e::es) t)
  (hbase:attributeBase o name X.env (eval o X.env)=eval o X.env:=by rfl)
  (hfew:((backTo cpos (starEach (e::es) X.env)).all (fun x=>!x.1) && (backToKw cpos (keywordEach [] X.env)).all (fun x=>x.1.isSome)
   && decide ((e::es).length+([]:List Keyword).length+(if ([]:List Keyword).isEmpty then 0 else 1)<30))=true:=by rfl)
  (hline:(apos.endLine == cpos.line)=true:=by rfl) (hs:starEach (e::es) X.env=(false,eval e X.env)::starEach es X.env:=by rfl) (hplain:(backTo cpos (starEach es X.env)).any (·.1)=false:=by rfl) :
  PE X (.Call (.Attribute o name apos) (e::es) [] cpos) (tBD r to t):=by
 intro pins s σ H Q I h;refine wpAny_Call_method_late hbase hfew hline rfl (thn (ho pins s σ H _ I h) fun v s1 ⟨x,H1,I1,r1,ty,q1⟩=>?_);obtain⟨a,kvs,rfl,hk⟩:=ty;cases r1;obtain⟨h1,h2⟩:=zwb I1 hk;refine⟨"dict",id,pa,slot,hty,h1,h2,?_⟩;have hA:=ha cpos pins s1 σ H1 _ I1 q1;rw[hs]at hA ⊢;refine Calls.callWith_builtin (by show (false || (backTo cpos (starEach es X.env)).any (·.1))=false;rw[hplain]<;>rfl) (Calls.evalArgs_plain ?_);exact thn hA fun us s2 ⟨vs,H2,I2,r2,q2⟩=>hm pins s2 σ H2 (.ref a) vs (.ref a) us Q I2 rfl r2 q2
theorem zj1(pa:PlainAttrs "dict")(slot:Slot "dict" name id)(hty:typeOf (.builtin id)=pure (.type "method_descriptor"))(hm:MtR X id r)(hs:yb7 T r g)(ho:FE T X o f)(ha:FA T X (e::es) fs)
  (hbase:attributeBase o name X.env (eval o X.env)=eval o X.env:=by rfl)
  (hfew:((backTo cpos (starEach (e::es) X.env)).all (fun x=>!x.1) && (backToKw cpos (keywordEach [] X.env)).all (fun x=>x.1.isSome)
   && decide ((e::es).length+([]:List Keyword).length+(if ([]:List Keyword).isEmpty then 0 else 1)<30))=true:=by rfl)
  (hline:(apos.endLine == cpos.line)=true:=by rfl) (hst:starEach (e::es) X.env=(false,eval e X.env)::starEach es X.env:=by rfl) (hplain:(backTo cpos (starEach es X.env)).any (·.1)=false:=by rfl) :
  FE T X (.Call (.Attribute o name apos) (e::es) [] cpos) (zwf g f fs):=by
 intro pins s st H Q I h;refine zzy pa slot hty hm ho ha hbase hfew hline hst hplain pins s st H Q I ?_;obtain⟨μ,ρ,σ,he,hr,hp⟩:=h;refine⟨μ,ρ,σ,he,hr,hp.bind fun x σ1 μ1 v H1 _ e1 r1 p1 q1=>?_⟩;unfold zyw at q1;cases el:yib σ1 x with
 |none=>rw[el]at q1;exact q1.elim
 |some xs=>
  rw[el]at q1;obtain⟨a,vs,rfl,h1,h2⟩:=yav r1 p1 el;refine⟨⟨a,vs,rfl,h1⟩,μ1,ρ,σ1,he.mono e1,r1,q1.bind fun ds σ2 μ2 ws H2 _ e2 r2 p2 q2=>?_⟩;exact hs _ μ2 H2 σ2 x ds (.ref a) ws Q r2 (Rep.mono e2 _ _ p1) p2 q2
theorem zfn:yb7 T zte zsm:=by
 intro E μ H σ x xs v vs Q r p q h;cases x with
 |ref n=>
  match xs with
  |[]=>exact h.elim
  |[_]=>exact h.elim
  |[y,d]=>
   rw[yhi]at q;obtain⟨w,z,rfl,q1,q2⟩:=q;rw[yhi]at q2;obtain⟨w2,z2,rfl,q3,q4⟩:=q2;rw[yhi]at q4;subst q4;unfold zsm at h;cases ek:yi7 y with
   |none=>simp only[ek]at h;exact h.elim
   |some k=>
    simp only[ek]at h;cases el:σ[n]? with
    |none=>simp only[el]at h;exact h.elim
    |some ob=>
     cases ob with
     |dic kvs=>
      simp only[el]at h;by_cases hc:kvs.length<cap
      ·rw[if_pos hc]at h;obtain⟨a,rfl,hn,us,g1,g2⟩:=r.at p el;obtain rfl:=zq5 q1 ek;have hlen:us.length=kvs.length:=by unfold yhh at g2;exact(Paired.length g2).symm
       refine⟨a,us,k,w2,rfl,rfl,g1,by rw[hlen];exact zvw hc,fun v e=>?_,fun e=>?_⟩
       ·rcases zj7 g2 k with⟨z1,z2⟩|⟨d',v',z1,z2,z3⟩
        ·rw[z2]at e;cases e
        ·rw[z2]at e;cases e;rw[z1]at h;exact yhc.here h r z3
       ·rcases zj7 g2 k with⟨z1,z2⟩|⟨d',v',z1,z2,z3⟩
        ·rw[z1]at h;have wr:=r.write (o:=.dK (ykb us k w2)) (ob:=.dic (yfl kvs k d)) hn ⟨_,znp,by
          have ex:Ext μ H μ (upd H a (.dK (ykb us k w2))):=zgj (List.mem_of_getElem? hn) g1 (fun _ z=>by cases z) (fun _ _ z=>by cases z);exact zje (yhh.mono ex g2) k (Rep.mono ex _ _ q3)⟩
         exact h _ _ _ wr.1 wr.2 (Rep.mono wr.1 _ _ q3)
        ·rw[z2]at e;cases e
      ·rw[if_neg hc]at h;exact h.elim
     |lst ys=>simp only[el]at h;exact h.elim
     |ins c fs=>simp only[el]at h;exact h.elim
  |_::_::_::_=>exact h.elim
 |_=>exact h.elim
end
def yim(σ:Sto)(x:D):List D->Option (List Bool)
 |[]=>some []
 |y::ys=>match eqD σ 7 y x,yim σ x ys with
  |some b,some bs=>some (b::bs)
  |_,_=>none
def yju(neg:Bool)(x y:D):M D:=fun σ=>match yf0 σ y with
 |some xs=>(match yim σ x xs with
  |some bs=>.ok (.bl (if neg then !(bs.any id)else bs.any id)) σ
  |none=>.bad)
 |none=>.bad
theorem zju{σ:Sto}{x:D}:∀ {xs:List D} {bs:List Bool},yim σ x xs=some bs->bs.length=xs.length/\∀ (j:Nat) (d:D) (b:Bool),xs[j]?=some d->bs[j]?=some b->eqD σ 7 d x=some b
 |[],bs,h=>by cases h;exact⟨rfl,fun j d b h=>by simp at h⟩
 |y::ys,bs,h=>by
  unfold yim at h;cases e1:eqD σ 7 y x with
  |none=>rw[e1]at h;cases h
  |some b1=>
   cases e2:yim σ x ys with
   |none=>rw[e1,e2]at h;cases h
   |some bs1=>
    rw[e1,e2]at h;cases h;obtain⟨h1,h2⟩:=zju e2;refine⟨by simp[h1],fun j d b hd hb=>?_⟩;cases j with
    |zero=>simp at hd hb;subst hd;subst hb;exact e1
    |succ j=>exact h2 j d b (by simpa using hd) (by simpa using hb)
open Classical in
noncomputable def eOf(its:List Value)(bs:List Bool)(u:Value):Bool:=decide (∃ j:Nat,its[j]?=some u/\bs[j]?=some true)
theorem zpe{its:List Value}{bs:List Bool}{u:Value}:eOf its bs u=true ↔ ∃ j:Nat,its[j]?=some u/\bs[j]?=some true:=by unfold eOf;exact @decide_eq_true_iff _ (Classical.propDecidable _)
theorem zpd{its:List Value}{bs:List Bool}(hl:bs.length=its.length):its.toArray.any (eOf its bs)=bs.any id:=by
 rw[show its.toArray.any (eOf its bs)=its.any (eOf its bs) by simp,Bool.eq_iff_iff,List.any_eq_true,List.any_eq_true];constructor
 ·rintro ⟨u,_,hu⟩;obtain⟨j,_,h⟩:=zpe.mp hu;exact⟨true,List.mem_of_getElem? h,rfl⟩
 ·rintro ⟨b,hb,ht⟩;cases (show b=true from ht);obtain⟨j,hj,h⟩:=List.getElem_of_mem hb;have hi:j<its.length:=by omega
  exact⟨its[j],List.getElem_mem hi,zpe.mpr ⟨j,by simp[hi],by simp[hj,h]⟩⟩
theorem zwg{A:Around}{s:Shared}{x:Value}{its:List Value}{bs:List Bool}(hl:bs.length=its.length)(h:∀ (j:Nat) (u:Value) (b:Bool),its[j]?=some u->bs[j]?=some b->SeqAt.EqAt A s u x b)(w:Value)(hw:w∈its):SeqAt.EqAt A s w x (eOf its bs w):=by
 cases e:eOf its bs w with
 |true=>obtain⟨j,h1,h2⟩:=zpe.mp e;exact h j w true h1 h2
 |false=>
  obtain⟨j,hj,rfl⟩:=List.getElem_of_mem hw;have hb:j<bs.length:=by omega
  have hf:bs[j]=false:=by
   cases q:bs[j]with
   |false=>rfl
   |true=>exact absurd (zpe.mpr ⟨j,List.getElem?_eq_getElem hj,by rw[List.getElem?_eq_getElem hb,q]⟩) (by rw[e];decide)
  exact h j _ false (List.getElem?_eq_getElem hj) (by rw[List.getElem?_eq_getElem hb,hf])
section
variable{T:Tb}{X:Cx}
theorem zqr(hK:T.K=X.K)(hu:X.A.units+9<cLine){pins:List (Addr × Obj)}{s:Shared}{st:St}{H:Hp}{μ:List Addr}{σ:Sto}(I:Inv X pins st H s)(r:Rel T μ H σ){x y:D}{v u:V}{v' u':Value}(hx:Rep T μ H x v)(hy:Rep T μ H y u)(rv:yhf v v')(ru:yhf u u')
  {xs:List D} {bs:List Bool} (e:yf0 σ y=some xs) (eb:yim σ x xs=some bs) {Q:Value->Shared->Prop} :
  (Q (.bool (bs.any id)) s->wpAny (model X.prog X.w) X.A (compareOp .In v' u') Q X.xe s)/\(Q (.bool (!bs.any id)) s->wpAny (model X.prog X.w) X.A (compareOp .NotIn v' u') Q X.xe s):=by
 obtain⟨p,vs,rfl,h1,h2⟩:=zt6 r hy e;rw[hK]at h2;obtain⟨lb,hb⟩:=zju eb;cases ru;have key:∀ {its:List Value},yho vs its->(bs.length=its.length/\∀ w∈its,SeqAt.EqAt X.A.in1 s w v' (eOf its bs w)):=fun {its} q=>by
  have l1:=h1.length;have l2:=q.length;have hl:bs.length=its.length:=by omega
  refine⟨hl,zwg hl fun j w b hw hbj=>?_⟩;obtain⟨z,e1,rz⟩:=znt q hw;obtain⟨d,e2,rd⟩:=zmq h1 e1;exact zwm I r 7 X.A.in1 d x z v w v' b (by show X.A.units+1+7+1<cLine;omega) rd hx rz rv (hb j d b e2 hbj)
 rcases h2 with h2|h2
 ·obtain⟨its,q,pl,_⟩:=L2.Inv.list I h2;obtain⟨hl,k⟩:=key q;refine⟨fun hq=>SeqAt.in_listAt (eOf its bs) pl.isList (fun w hw=>k w (by simpa using hw)) ?_,fun hq=>SeqAt.notIn_listAt (eOf its bs) pl.isList (fun w hw=>k w (by simpa using hw)) ?_⟩<;>rw[zpd hl]<;>exact hq
 ·obtain⟨its,q,pl,_⟩:=L2.Inv.tuple I h2;obtain⟨hl,k⟩:=key q;refine⟨fun hq=>SeqAt.in_tupleAt (eOf its bs) pl (fun w hw=>k w (by simpa using hw)) ?_,fun hq=>SeqAt.notIn_tupleAt (eOf its bs) pl (fun w hw=>k w (by simpa using hw)) ?_⟩<;>rw[zpd hl]<;>exact hq
theorem zzo(hK:T.K=X.K)(hu:X.A.units+9<cLine):OpR X (compareOp .In) (rD T (yju false)):=by
 intro pins s st H v u v' u' Q I rv ru h;obtain⟨E,μ,σ,x,y,r,hx,hy,hp⟩:=h;unfold yju at hp;cases e:yf0 σ y with
 |none=>rw[e]at hp;exact hp.elim
 |some xs=>
  rw[e]at hp;dsimp only at hp;cases eb:yim σ x xs with
  |none=>rw[eb]at hp;exact hp.elim
  |some bs=>
   rw[eb]at hp;exact(zqr hK hu I r hx hy rv ru e eb).1 ⟨.bl (bs.any id),H,I,rfl,yhc.here hp r (by rw[Rep];rfl)⟩
end
section
variable{T:Tb}{X:Cx}
end
section
variable{T:Tb}{X:Cx}{tg iter:Expr}{f:Ev->M D}
end
section
variable{T:Tb}{X:Cx}{o e:Expr}{es:List Expr}{f:Ev->M D}{fs:Ev->M (List D)}{name:Str}{apos cpos:Pos}{id:String}{r:V->List V->Hp->VK->Prop}{g:D->List D->M D}
end
section
variable{X:Cx}{pins:List (Addr × Obj)}{σ:St}{H:Hp}{s:Shared}{h':Heap}
theorem zr3{H:Hp}{a b:Addr}{u:HO}(e:H b=some u)(n:H a=none):b≠a:=fun z=>by rw[z,n]at e;cases e
theorem _root_.L2.Inv.turnL{t':Nat}{its:List Addr}{p:Addr}{o:HO}(I:Inv X pins σ H s)(k:∀ b u,b ∉ its->s.heap.get? b=some u->h'.get? b=some u)(hf:∀ b∈its,yg0 X pins H b)(hp:s.heap.objs.size<=p)(new:yb3 X.prog X.w (upd H p o) h' p o) :
  Inv X pins σ (upd H p o) { s with heap:=h',toks:=t' }:=by
 have hn:H p=none:=I.hok.fresh hp;have nit:∀ b u,H b=some u->b ∉ its:=fun b u e z=>by rw[(hf b z).1]at e;cases e
 refine I.step (g':=s.gens) (d':=s.drawn) (ch:=its) (fun b hb=>?_) (fun b o _ _ hc e _=>k b o hc e) (fun b o _ _ hc e _=>⟨o.slots,k b o hc e⟩) (fun b u _ q n=>by rw[ybq (Nat.ne_of_lt (Nat.lt_of_lt_of_le (Heap.lt_size q) hp))];exact n)
  (fun b o hc e=>⟨o,k b o hc e⟩) (fun b xs q=>by rw[ybq (zr3 q hn)];exact q) (fun b u xs q=>by rw[ybq (zr3 q hn)];exact q) (fun b ps q=>⟨#[],by rw[ybq (zr3 q hn),q];simp⟩) (fun m hm=>?_) (fun b u e=>?_) I.bare
 ·obtain⟨f0,f1,f2,f3,f4,f5⟩:=hf b hb;exact⟨f3,f1,f4,f5⟩
 ·obtain⟨o,es,ep,ho,r⟩:=hm;exact⟨o,es,ep,k _ o (fun z=>(hf _ z).2.1 rfl) ho,r⟩
 ·by_cases hb:b=p
  ·subst hb;rw[znp]at e;cases e;exact new
  ·rw[ybq hb]at e;refine(I.hok b u e).stay (fun c v hc q=>k c v ?_ q) (fun c q=>by rw[ybq (zr3 q hn)];exact q) fun c xs q=>by rw[ybq (zr3 q hn)];exact q
   rcases hc with z|z
   ·rw[z];exact nit b u e
   ·exact nit c _ z
theorem _root_.L2.Inv.turnN{t':Nat}{its:List Addr}(I:Inv X pins σ H s)(k:∀ b u,b ∉ its->s.heap.get? b=some u->h'.get? b=some u)(hf:∀ b∈its,yg0 X pins H b):Inv X pins σ H { s with heap:=h',toks:=t' }:=by
 have nit:∀ b u,H b=some u->b ∉ its:=fun b u e z=>by rw[(hf b z).1]at e;cases e
 refine I.step (g':=s.gens) (d':=s.drawn) (ch:=its) (fun b hb=>?_) (fun b o _ _ hc e _=>k b o hc e) (fun b o _ _ hc e _=>⟨o.slots,k b o hc e⟩) (fun b u _ q n=>n)
  (fun b o hc e=>⟨o,k b o hc e⟩) (fun b xs q=>q) (fun b u xs q=>q) (fun b ps q=>⟨#[],by rw[q];simp⟩) (fun m hm=>?_) (fun b u e=>?_) I.bare
 ·obtain⟨f0,f1,f2,f3,f4,f5⟩:=hf b hb;exact⟨f3,f1,f4,f5⟩
 ·obtain⟨o,es,ep,ho,r⟩:=hm;exact⟨o,es,ep,k _ o (fun z=>(hf _ z).2.1 rfl) ho,r⟩
 ·refine(I.hok b u e).stay (fun c v hc q=>k c v ?_ q) (fun _ q=>q) fun _ _ q=>q;rcases hc with z|z
  ·rw[z];exact nit b u e
  ·exact nit c _ z
end
theorem zv6{h:Heap}{a b:Addr}{o o':Obj}{n n':String}(e:h.get? a=some o)(e':h.get? b=some o')(c:o.cls=.type n)(c':o'.cls=.type n')(hn:n≠n'):a≠b:=fun z=>by
 subst z;rw[e]at e';cases e';rw[c]at c';injection c' with q;exact hn q
def Ite(K:PySem.W.Frag)(l:Addr):It:=
 ⟨fun i H=>∃ xs x,SqL K H l xs/\xs[i]?=some x,fun i H v H'=>∃ p x,H p=none/\v=.ref p/\(∀ xs,SqL K H l xs->xs[i]?=some x)/\H'=upd H p (.tup [.int i,x]),fun i H=>∃ xs,SqL K H l xs/\i=xs.length⟩
def Itz(K:PySem.W.Frag)(l m:Addr):It:=
 ⟨fun i H=>∃ xs ys x y,SqL K H l xs/\SqL K H m ys/\xs[i]?=some x/\ys[i]?=some y,fun i H v H'=>∃ p x y,H p=none/\v=.ref p/\(∀ xs,SqL K H l xs->xs[i]?=some x)/\(∀ ys,SqL K H m ys->ys[i]?=some y)/\H'=upd H p (.tup [x,y]),
  fun i H=>∃ xs ys,SqL K H l xs/\SqL K H m ys/\i=min xs.length ys.length⟩
theorem zif{P:Program}{w:World}{K:PySem.W.Frag}{elts:List Expr}{kk:Nat}{pos:Pos}(l e it:Addr):Turn P w K (.Tuple elts kk pos) (Ite K l) [e,it] e (fun i h=>(∃ old,IsEnum h e it i old)/\h.IsListIter it l i) where
 mem:=by simp
 obj:=fun i h st b hb=>by
  obtain⟨⟨old,s1⟩,o,s2,c,d⟩:=st;simp only[List.mem_cons,List.not_mem_nil,or_false]at hb;rcases hb with rfl|rfl
  ·exact⟨_,s1,fun v z=>by cases z⟩
  ·exact⟨o,s2,fun v z=>by rw[d]at z;cases z⟩
 keep:=fun i h h' st k=>by
  obtain⟨⟨old,s1⟩,s2⟩:=st;exact⟨⟨old,k e (by simp) _ s1⟩,s2.at fun o q=>k it (by simp) o q⟩
 item:=by
  intro X hP hw hK hc i pins s σ H E I hf st hg;subst hP hw hK;obtain⟨xs,x,hq,hx⟩:=hg;obtain⟨its,rv,p,hz⟩:=I.list hq;obtain⟨u,hu,ru⟩:=rv.get hx;obtain⟨⟨old,s1⟩,s2⟩:=st;obtain⟨oa,ea,ca,_⟩:=id p.isList;obtain⟨ob,eb,cb,_⟩:=id s2;have nle:l≠e:=zv6 ea s1 ca rfl (by decide);have nli:l≠it:=zv6 ea eb ca cb (by decide);have nei:e≠it:=zv6 s1 eb rfl cb (by decide);have W:=WalksT.enumerate (prog:=X.prog) (w:=X.w) (A:=X.A) (I.ok.hd hc) e it l nei nle nli its.toArray;have hi:i<its.toArray.size:=by
   have:=(List.getElem?_eq_some_iff.mp hu).1;simpa using this
  refine W.item i s _ E hi ⟨⟨old,s1⟩,s2,p.isList⟩ fun T vals h' tk hPt hT hTup hMid hk=>?_;obtain⟨t,y,hy,rfl⟩:=hPt;have ey:y=u:=by
   have:its.toArray[i]?=some u:=by simpa using hu
   rw[this]at hy;cases hy;rfl
  subst ey;refine⟨.ref T,rfl,W.go elts kk pos i T { s with heap:=h',toks:=tk } _ E hMid fun h2 hS hk2=>?_⟩;have hap:=W.apart i T h' hMid;have hTup2:h2.IsTuple T #[.int i t,y]:=by
   obtain⟨o,e1,c1⟩:=hTup;exact⟨o,hk2 T o hap e1,c1⟩
  have hn:H T=none:=I.hok.fresh hT;refine⟨.ref T,upd H T (.tup [.int i,x]),I.turnL (o:=.tup [.int i,x]) (fun b o hb q=>hk2 b o hb (hk b o hb q)) hf hT ?_,rfl,⟨T,x,hn,rfl,fun ys hy=>by rw[I.list_inj hy hq];exact hx,rfl⟩,⟨hS.1,hS.2.1⟩,fun b hb=>?_⟩
  ·exact⟨(show (2:Nat)<=sizeLine by decide),[.int i t,y],.cons ⟨t,rfl⟩ (.cons ru .nil),hTup2⟩
  ·rw[ybq (fun z=>hap (by rw[<-z];exact hb))];exact(hf b hb).1
 done:=by
  intro X hP hw hK hc i pins s σ H E I hf st hg;subst hP hw hK;obtain⟨xs,hq,hx⟩:=hg;obtain⟨its,rv,p,hz⟩:=I.list hq;obtain⟨⟨old,s1⟩,s2⟩:=st;have hl:=rv.length;exact wpAny_pyNext_enum_end (I.ok.hd hc) s1 s2 p.isList (by simp;omega) fun h' eb=>⟨rfl,I.turnN (t':=s.toks) (fun b o hb q=>eb b o (fun z=>hb (by simp[z])) q) hf⟩
 self:=fun A i s Q E st h=>by
  obtain⟨⟨old,s1⟩,s2⟩:=st;exact wpAny_pyIter_enum s1 h
theorem zil{h:Heap}{l m z TI TO i1 i2:Addr}{k1 k2:Nat}{xs ys:Array Value}{a b c d:Value}{f:Value}(d1:TI≠TO)(d2:i1≠i2)(p1:h.IsList l xs)(p2:h.IsList m ys)(s1:IsZip h z TI TO f)(s2:IsPair h TI a b)(s3:IsPair h TO c d)(s4:h.IsListIter i1 l k1)(s5:h.IsListIter i2 m k2):ZipApart z TI TO i1 i2 l m:=by
 obtain⟨o1,e1,c1,_⟩:=p1;obtain⟨o2,e2,c2,_⟩:=p2;obtain⟨o4,e4,c4,_⟩:=s4;obtain⟨o5,e5,c5,_⟩:=s5;exact⟨zv6 s2 s1 rfl rfl (by decide),zv6 s3 s1 rfl rfl (by decide),zv6 e4 s1 c4 rfl (by decide),zv6 e5 s1 c5 rfl (by decide),d1,zv6 s2 e4 rfl c4 (by decide),zv6 s2 e5 rfl c5 (by decide),zv6 s3 e4 rfl c4 (by decide),zv6 s3 e5 rfl c5 (by decide),d2,
  zv6 e1 s1 c1 rfl (by decide),zv6 e1 s3 c1 rfl (by decide),zv6 e1 e4 c1 c4 (by decide),zv6 e1 e5 c1 c5 (by decide),zv6 e2 s1 c2 rfl (by decide),zv6 e2 s3 c2 rfl (by decide),zv6 e2 e4 c2 c4 (by decide),zv6 e2 e5 c2 c5 (by decide)⟩
theorem znn{P:Program}{w:World}{K:PySem.W.Frag}{elts:List Expr}{kk:Nat}{pos:Pos}(l m z TI TO i1 i2:Addr)(d1:TI≠TO)(d2:i1≠i2) :
  Turn P w K (.Tuple elts kk pos) (Itz K l m) [z,TI,TO,i1,i2] z (fun i h=>IsZip h z TI TO .none/\IsPair h TI (.ref i1) (.ref i2)/\(∃ a b,IsPair h TO a b)/\h.IsListIter i1 l i/\h.IsListIter i2 m i) where
 mem:=by simp
 obj:=fun i h st b hb=>by
  obtain⟨s1,s2,⟨a,c,s3⟩,⟨o4,s4,c4,d4⟩,⟨o5,s5,c5,d5⟩⟩:=st;simp only[List.mem_cons,List.not_mem_nil,or_false]at hb;rcases hb with rfl|rfl|rfl|rfl|rfl
  ·exact⟨_,s1,fun v z=>by cases z⟩
  ·exact⟨_,s2,fun v z=>by cases z⟩
  ·exact⟨_,s3,fun v z=>by cases z⟩
  ·exact⟨o4,s4,fun v z=>by rw[d4]at z;cases z⟩
  ·exact⟨o5,s5,fun v z=>by rw[d5]at z;cases z⟩
 keep:=fun i h h' st k=>by
  obtain⟨s1,s2,⟨a,c,s3⟩,s4,s5⟩:=st;exact⟨k z (by simp) _ s1,k TI (by simp) _ s2,⟨a,c,k TO (by simp) _ s3⟩,s4.at fun o q=>k i1 (by simp) o q,s5.at fun o q=>k i2 (by simp) o q⟩
 item:=by
  intro X hP hw hK hc i pins s σ H E I hf st hg;subst hP hw hK;obtain⟨xs,ys,x,y,hq,hq2,hx,hy⟩:=hg;obtain⟨its,rv,p,hz⟩:=I.list hq;obtain⟨its2,rv2,p2,hz2⟩:=I.list hq2;obtain⟨u,hu,ru⟩:=rv.get hx;obtain⟨u2,hu2,ru2⟩:=rv2.get hy;obtain⟨s1,s2,⟨a,c,s3⟩,s4,s5⟩:=st;have D:=zil d1 d2 p.isList p2.isList s1 s2 s3 s4 s5;have W:=WalksT.zip2 (prog:=X.prog) (w:=X.w) (A:=X.A) (I.ok.hd hc) z TI TO i1 i2 l m D its.toArray its2.toArray;have hi:i<min its.toArray.size its2.toArray.size:=by
   have h1:=(List.getElem?_eq_some_iff.mp hu).1;have h2:=(List.getElem?_eq_some_iff.mp hu2).1;simp;omega
  refine W.item i s _ E hi ⟨s1,s2,⟨a,c,s3⟩,s4,s5,p.isList,p2.isList⟩ fun T vals h' tk hPt hT hTup hMid hk=>?_;obtain⟨v1,v2,hv1,hv2,rfl⟩:=hPt;have e1:v1=u:=by
   have:its.toArray[i]?=some u:=by simpa using hu
   rw[this]at hv1;cases hv1;rfl
  have e2:v2=u2:=by
   have:its2.toArray[i]?=some u2:=by simpa using hu2
   rw[this]at hv2;cases hv2;rfl
  subst e1;subst e2;refine⟨.ref T,rfl,W.go elts kk pos i T { s with heap:=h',toks:=tk } _ E hMid fun h2 hS hk2=>?_⟩;have hap:=W.apart i T h' hMid;have hTup2:h2.IsTuple T #[v1,v2]:=by
   obtain⟨o,e1,c1⟩:=hTup;exact⟨o,hk2 T o hap e1,c1⟩
  have hn:H T=none:=I.hok.fresh hT;have sub:∀ b,b ∉ [z,TI,TO,i1,i2]->b ∉ [z,TO,i1,i2]:=fun b hb hm=>hb (by simp at hm ⊢;rcases hm with h|h|h|h<;>simp[h]);have ltT:∀ b∈[z,TI,TO,i1,i2],b<s.heap.objs.size:=fun b hb=>by
   simp only[List.mem_cons,List.not_mem_nil,or_false]at hb;rcases hb with rfl|rfl|rfl|rfl|rfl
   ·exact Heap.lt_size s1
   ·exact Heap.lt_size s2
   ·exact Heap.lt_size s3
   ·obtain⟨o,q,_⟩:=s4;exact Heap.lt_size q
   ·obtain⟨o,q,_⟩:=s5;exact Heap.lt_size q
  refine⟨.ref T,upd H T (.tup [x,y]),I.turnL (o:=.tup [x,y]) (fun b o hb q=>hk2 b o (sub b hb) (hk b o (sub b hb) q)) hf hT ?_,rfl,⟨T,x,y,hn,rfl,fun zs hz=>by rw[I.list_inj hz hq];exact hx,fun zs hz=>by rw[I.list_inj hz hq2];exact hy,rfl⟩,⟨hS.1,hS.2.1,hS.2.2.1,hS.2.2.2.1,hS.2.2.2.2.1⟩,fun b hb=>?_⟩
  ·exact⟨(show (2:Nat)<=sizeLine by decide),[v1,v2],.cons ru (.cons ru2 .nil),hTup2⟩
  ·rw[ybq (Nat.ne_of_lt (Nat.lt_of_lt_of_le (ltT b hb) hT))];exact(hf b hb).1
 done:=by
  intro X hP hw hK hc i pins s σ H E I hf st hg;subst hP hw hK;obtain⟨xs,ys,hq,hq2,hx⟩:=hg;obtain⟨its,rv,p,hz⟩:=I.list hq;obtain⟨its2,rv2,p2,hz2⟩:=I.list hq2;obtain⟨s1,s2,⟨a,c,s3⟩,s4,s5⟩:=st;have D:=zil d1 d2 p.isList p2.isList s1 s2 s3 s4 s5;have W:=WalksT.zip2 (prog:=X.prog) (w:=X.w) (A:=X.A) (I.ok.hd hc) z TI TO i1 i2 l m D its.toArray its2.toArray;have hl:=rv.length;have hl2:=rv2.length;have ei:i=min its.toArray.size its2.toArray.size:=by simp;omega
  subst ei;have sub:∀ b,b ∉ [z,TI,TO,i1,i2]->b ∉ [z,TO,i1,i2]:=fun b hb hm=>hb (by simp at hm ⊢;rcases hm with h|h|h|h<;>simp[h]);exact W.done s _ E ⟨s1,s2,⟨a,c,s3⟩,s4,s5,p.isList,p2.isList⟩ fun h' tk hk=>⟨rfl,I.turnN (t':=tk) (fun b o hb q=>hk b o (sub b hb) q) hf⟩
 self:=fun A i s Q E st h=>wpAny_pyIter_zip st.1 h
abbrev NX:=Nat->Sto->Option (Option D)
def yhk(T:Tb)(μ0:List Addr)(H0:Hp)(nx:NX)(J:It):Prop:=∀ μ H σ i,Ext μ0 H0 μ H->Rel T μ H σ->match nx i σ with
 |none=>True
 |some none=>J.stop i H
 |some (some d)=>J.go i H/\∀ x H',J.yld i H x H'->Ext μ H μ H'/\Rel T μ H' σ/\Rep T μ H' d x
def tIN(T:Tb)(X:Cx)(f:Ev->M NX):TI:=fun st H R=>∃ μ ρ σ,ygw T μ H ρ st/\Rel T μ H σ/\yhc T (XE X st) (yhk T) μ H (f ρ σ) R
abbrev FIN(T:Tb)(X:Cx)(tg iter:Expr)(f:Ev->M NX):Prop:=PI X tg iter (tIN T X f)
def yed(nx:NX)(tg:D->Ev->Option Ev)(body:Ev->M Fl):Nat->Nat->Ev->M Fl
 |0,_,_=>bad
 |k+1,i,ρ=>fun σ=>match nx i σ with
  |none=>.bad
  |some none=>.ok (.nx ρ) σ
  |some (some d)=>match tg d ρ with
   |none=>.bad
   |some ρ1=>bnd (body ρ1) (yeb (yed nx tg body k (i+1))) σ
def ydl(tg:D->Ev->Option Ev)(body:Ev->M Fl)(ρ:Ev)(nx:NX):M Fl:=yed nx tg body 1001 0 ρ
def yfv(src:Ev->M NX)(tg:D->Ev->Option Ev)(body:Ev->M Fl):Ev->M Fl:=fun ρ=>xs ρ (src ρ) (ydl tg body ρ)
section
variable{T:Tb}{X:Cx}{tgt iter:Expr}{body:List Stmt}{src:Ev->M NX}{t:D->Ev->Option Ev}{g:Ev->M Fl}{pos:Pos}
theorem zp8(hp:PassesOwn (model X.prog X.w) X.A X.env X.xe)(hc:X.calm=true)(hi:FIN T X tgt iter src)(hg:FG T X tgt t)(hb:FSs T X body g)
  (hs:∀ x,foldedSetIterable iter X.env x=pure x:=by intro _;rfl):FS T X (.For tgt iter body [] pos) (yfv src t g):=by
 intro pins s st H D I hq;refine yaj hp hc hi hg hb hs pins s st H D I ?_;obtain⟨μ,ρ,σ,hE,hr,hp⟩:=hq;refine⟨μ,ρ,σ,hE,hr,hp.xs hE fun nx σ1 μ1 J H1 _ e1 r1 q1 p1=>?_⟩;have p1':yhc T EN (RFl T) μ1 H1 (yed nx t g 1001 0 ρ σ1) (ygx X D):=p1;refine⟨fun i m st2 H2=>∃ μ ρ σ,Ext μ1 H1 μ H2/\ygw T μ H2 ρ st2/\Rel T μ H2 σ/\yhc T EN (RFl T) μ H2 (yed nx t g m i ρ σ) (ygx X D),⟨1001,μ1,ρ,σ1,Ext.refl _ _,hE.mono e1,r1,p1'⟩,?_⟩;rintro i m st2 H2 ⟨μ2,ρ2,σ2,ex,hE2,r2,p2⟩;cases m with
 |zero=>exact p2.elim
 |succ m=>
  unfold yed at p2;have so:=q1 μ2 H2 σ2 i ex r2;cases en:nx i σ2 with
  |none=>simp only[en]at p2;exact p2.elim
  |some o=>
   cases o with
   |none=>
    simp only[en]at p2 so;exact .inl ⟨so,yhc.here (g:=Gl2.nx st2) p2 r2 hE2⟩
   |some d=>
    simp only[en]at p2 so;obtain⟨hgo,hy⟩:=so;refine .inr ⟨hgo,fun st3 H3=>∃ μ ρ σ,Ext μ1 H1 μ H3/\ygw T μ H3 ρ st3/\Rel T μ H3 σ/\yhc T EN (RFl T) μ H3 (yed nx t g m (i+1) ρ σ) (ygx X D),fun st3 H3 h=>⟨m,Nat.lt_succ_self _,h⟩,fun x H3 y=>?_⟩;obtain⟨ex3,r3,hx⟩:=hy x H3 y;cases ht:t d ρ2 with
    |none=>simp only[ht]at p2;exact p2.elim
    |some ρ3=>
     simp only[ht]at p2;exact⟨μ2,σ2,ρ2,d,ρ3,hE2.mono ex3,r3,hx,ht,fun st3 hE3=>⟨μ2,ρ3,σ2,hE3,r3,(yhc.mono ex3 p2).bind fun fl σ4 μ4 gl H4 _ e4 r4 q4 p4=>znm r4 q4 p4 fun ρ5 st5 hE5 p5=>⟨μ4,ρ5,σ4,(ex.trans ex3).trans e4,hE5,r4,p5⟩⟩⟩
end
def nxE(a:D):NX:=fun i σ=>match yjd σ a with
 |some xs=>(match xs[i]? with
  |some x=>some (some (.tup [.int (i:Int),x]))
  |none=>if i=xs.length then some none else none)
 |none=>none
def nxZ(a b:D):NX:=fun i σ=>match yjd σ a with
 |some xs=>(match yjd σ b with
  |some ys=>(match xs[i]? with
   |some x=>(match ys[i]? with
    |some y=>some (some (.tup [x,y]))
    |none=>if i=min xs.length ys.length then some none else none)
   |none=>if i=min xs.length ys.length then some none else none)
  |none=>none)
 |none=>none
def ygq(a b:D):M NX:=fun σ=>match yjd σ a with
 |some _=>(match yjd σ b with
  |some _=>.ok (nxZ a b) σ
  |none=>.bad)
 |none=>.bad
def ygp(m:M D)(a:D):M NX:=bnd m (ygq a)
def yk7(f g:Ev->M D):Ev->M NX:=fun ρ=>bnd (f ρ) (ygp (g ρ))
section
variable{T:Tb}{X:Cx}{elts:List Expr}{kk:Nat}{p0 p pos:Pos}{f g:Ev->M D}
theorem zvr:bootBuiltins "zip" = some (.type "zip"):=by decide +kernel
def yi3(K:PySem.W.Frag)(ta:TA):TI:=fun σ H R=>ta σ H fun vs H1=>∃ l m xs ys,vs=[.ref l,.ref m]/\SqL K H1 l xs/\SqL K H1 m ys/\R (Itz K l m) H1
theorem yab{a b:Expr}{ta:TA}(hg:Gl X "zip")(hm:X.mg "zip" = none)(ha:PA X [a,b] ta)(hs:starEach [a,b] X.env=[(false,eval a X.env),(false,eval b X.env)]:=by rfl)(hs2:starEach [b] X.env=[(false,eval b X.env)]:=by rfl):PI X (.Tuple elts kk p0) (.Call (.Name "zip" p) [a,b] [] pos) (yi3 X.K ta):=by
 intro pins s σ H R I h;refine Call_ (zyq I hg hm zvr (PyProof.Rows.callWith_type1 (thn (ha pos pins s σ H _ I h) fun us s1 ⟨vs,H1,I1,r1,q1⟩=>?_) (by rw[hs,hs2]) (by rw[hs2];rfl)));obtain⟨l,m,xs,ys,e,hq,hq2,q⟩:=q1;subst e;cases r1 with
 |cons r rr=>
  cases rr with
  |cons r' rr=>
   cases rr;cases r;cases r';obtain⟨its,rv,pl,hz⟩:=I1.list hq;obtain⟨its2,rv2,pl2,hz2⟩:=I1.list hq2;refine call_zip_2 pl.isList pl2.isList fun h' a1 a2 a3 a4 a5 a6 a7=>wpAny_pyIter_zip a1 ?_;refine⟨s1.heap.objs.size+4,[s1.heap.objs.size+4,s1.heap.objs.size+2,s1.heap.objs.size+3,s1.heap.objs.size,s1.heap.objs.size+1],_,_,H1,rfl,I1.kept (t':=s1.toks) a7,znn l m (s1.heap.objs.size+4) (s1.heap.objs.size+2) (s1.heap.objs.size+3) s1.heap.objs.size (s1.heap.objs.size+1) (show (s1.heap.objs.size+2:Nat)≠s1.heap.objs.size+3 by omega) (show (s1.heap.objs.size:Nat)≠s1.heap.objs.size+1 by omega),⟨a1,a2,⟨_,_,a3⟩,a4,a5⟩,fun b hb=>?_,q⟩;have hb':s1.heap.objs.size<=b:=by simp at hb;rcases hb with rfl|rfl|rfl|rfl|rfl<;>omega
   exact I1.fpOk hb' (I1.hok.fresh hb')
theorem zxd{e e':Expr}(hg:Gl X "zip")(hm:X.mg "zip" = none)(h:FE T X e f)(h':FE T X e' g)(hs:starEach [e,e'] X.env=[(false,eval e X.env),(false,eval e' X.env)]:=by rfl)(hs2:starEach [e'] X.env=[(false,eval e' X.env)]:=by rfl) :
  FIN T X (.Tuple elts kk p0) (.Call (.Name "zip" p) [e,e'] [] pos) (yk7 f g):=by
 intro pins s st H R I hw;refine yab hg hm (zsu h (zsu h' zzv hs2) (by rw[hs,hs2])) hs hs2 pins s st H R I ?_;obtain⟨μ,ρ,σ,hE,hr,hp⟩:=hw;refine⟨μ,ρ,σ,hE,hr,hp.bind fun d σ1 μ1 v H1 _ e1 r1 q1 p1=>⟨μ1,ρ,σ1,hE.mono e1,r1,p1.bind fun d2 σ2 μ2 v2 H2 _ e2 r2 q2 p2=>?_⟩⟩;unfold ygq at p2;cases el:yjd σ2 d with
 |none=>rw[el]at p2;exact p2.elim
 |some ds=>
  rw[el]at p2;dsimp only at p2;cases el2:yjd σ2 d2 with
  |none=>rw[el2]at p2;exact p2.elim
  |some ds2=>
   rw[el2]at p2;have q1':=Rep.mono e2 _ _ q1;obtain⟨l,vs,rfl,h1,h2⟩:=r2.ls q1' el;obtain⟨m,ws,rfl,h3,h4⟩:=r2.ls q2 el2;refine⟨l,m,vs,ws,rfl,SqL.of h1,SqL.of h3,yhc.here (R:=yhk T) p2 r2 fun μ3 H3 σ3 i ex r3=>?_⟩;unfold nxZ;cases fl:yjd σ3 d with
   |none=>trivial
   |some xs=>
    obtain⟨l',us,e',h5,h6⟩:=r3.ls (Rep.mono ex _ _ q1') fl;cases e';dsimp only;cases fl2:yjd σ3 d2 with
    |none=>trivial
    |some ys=>
     obtain⟨m',us2,e',h7,h8⟩:=r3.ls (Rep.mono ex _ _ q2) fl2;cases e';have hq1:SqL X.K H3 l us:=SqL.of h5;have hq2:SqL X.K H3 m us2:=SqL.of h7;have l1:=h6.length;have l2:=h8.length;dsimp only;cases ei:xs[i]? with
     |none=>
      dsimp only;by_cases hi:i=min xs.length ys.length
      ·rw[if_pos hi];exact⟨us,us2,hq1,hq2,by rw[hi,l1,l2]⟩
      ·rw[if_neg hi];trivial
     |some d'=>
      dsimp only;cases ei2:ys[i]? with
      |none=>
       dsimp only;by_cases hi:i=min xs.length ys.length
       ·rw[if_pos hi];exact⟨us,us2,hq1,hq2,by rw[hi,l1,l2]⟩
       ·rw[if_neg hi];trivial
      |some d2'=>
       obtain⟨x,hx,rx⟩:=h6.get ei;obtain⟨y,hy,ry⟩:=h8.get ei2;refine⟨⟨us,us2,x,y,hq1,hq2,hx,hy⟩,fun z H' yy=>?_⟩;obtain⟨q,x',y',hn',rfl,hall,hall2,rfl⟩:=yy;have hx':=hall us hq1;rw[hx]at hx';cases hx';have hy':=hall2 us2 hq2;rw[hy]at hy';cases hy';refine⟨zpi hn',r3.fresh hn',?_⟩;rw[Rep];exact⟨q,_,rfl,znp,yhi.cons (Rep.mono (zpi hn') _ _ rx) (yhi.cons (Rep.mono (zpi hn') _ _ ry) yhi.nil)⟩
end
open PySem.Builtin.Str (occurrences partsBetween subAt)
def jl(g:List Nat):List (List Nat)->List Nat
 |[]=>[]
 |p::r=>p++r.flatMap fun q=>g++q
end L4
namespace L4
open PySem PySem.Spec PyProof.Rows L2
section
variable{T:Tb}{X:Cx}{a b c:Expr}{fa fb fc:Ev->M D}{pos:Pos}
end
section
variable{T:Tb}{X:Cx}
def zsa(y x:D):M D:=fun σ=>match yi7 y with
 |some k=>(match yib σ x with
  |some kvs=>.ok (.bl (!(ydc kvs k).isSome)) σ
  |none=>.bad)
 |none=>.bad
def OkB(T:Tb)(P:Program)(w:World)(mg:Str->Option Value)(base:Heap)(k:Nat)(f:Addr)(ps:List Str)(dv:List Value)(fn:List D->M D):Prop:=
 ∃ fd,ybt T.K fd ps []/\ybt T.K fd ps dv/\FnOk P w T.K mg base (CXE P w) k f fd ps (spF T ps.length fn)
structure HasMD(K:PySem.W.Frag)(C:Addr)(x qual:Str)(st:Stmt)(ps:List Str)(dv:List Value)(f:Addr):Prop where
 ex:∃ fd,(∃ (oc:Value) (od:Option Addr) (dV kV doc pm:Value) (an:Option Addr) (cdv ct:Value) (osl:Array (Option Value)),
  fd=PySem.W.fnOf x qual (zo4 st) (zo5 st) (zjb st) dV kV doc pm an cdv ct/\K.lookup f=some ⟨oc,od,.func fd,osl⟩/\PySem.W.codeIn K cdv qual=true)/\ybt K fd ps []/\ybt K fd ps dv
end
section
variable{P:Program}{w:World}{K:PySem.W.Frag}{mg:Str->Option Value}{base:Heap}{ca:Nat->Addr}{tx:Tx}
theorem OkB.hide{T:Tb}{k:Nat}{f:Addr}{ps:List Str}{dv:List Value}{fn:List D->M D}(h:OkB T P w mg base k f ps dv fn):OkB T P w mg base k f ps dv (L4.hide fn):=by rw[zqo];exact h
theorem OkB.frz{T:Tb}{k:Nat}{f:Addr}{ps:List Str}{dv:List Value}{fn:List D->M D}(h:OkB T P w mg base k f ps dv fn):OkB T P w mg base k f ps dv (fun ds=>L4.frz (fn ds)):=by
 obtain⟨fd,h1,h2,h3⟩:=h;exact⟨fd,h1,h2,zpz h3⟩
end
section
variable{T:Tb}{X:Cx}
end
section
variable{T:Tb}{X:Cx}
end
def zvl(ix:List Nat)(ρ:Ev):Ev:=none::none::ix.map fun i=>(ρ[i]?).getD none
def zvn(ix:List Nat)(st:St):St:=none::none::ix.map fun i=>(st[i]?).getD none
def yif(src:Ev->M Src)(ix:List Nat)(tg:D->Ev->Option Ev)(fi:Ev->M Bool)(fe:Ev->M D):Ev->M D:=fun ρ=>bnd (src ρ) (lcK tg fi fe (zvl ix ρ))
theorem ziw{T:Tb}{μ:List Addr}{H:Hp}{ρ:Ev}{st:St}(ix:List Nat)(h:ygw T μ H ρ st):ygw T μ H (zvl ix ρ) (zvn ix st):=by
 have q:=zok ix h;refine⟨by simp[zvl,zvn],fun i d e=>?_⟩;cases i with
 |zero=>simp[zvl]at e
 |succ j=>exact q.2 j d e
section
variable{X:Cx}{pins:List (Addr × Obj)}{st:St}{H:Hp}{s:Shared}{x z0:Str}{M':List Str}{ix:List Nat}{scope:Scope}{fp:List Addr}
theorem zej(I:Inv X pins st H s)(L:LcOk X x M' ix scope)(hfp:∀ b∈fp,yg0 X pins H b/\b<s.heap.objs.size){h':Heap}{t':Nat}{m:Str->Option Value}(hns:h'.Ns s.heap.objs.size m)
  (hk:∀ b o,s.heap.get? b=some o->h'.get? b=some o) :
  Inv (blk X (x::z0::M') scope (yh7 X.env scope.names []) s.heap.objs.size s H fp) [] (zvn ix st) H { s with heap:=h',toks:=t' }:=by
 have sub:∀ n c,(yh7 X.env scope.names []).lookup n=some c->X.env.cells.lookup n=some c:=fun n c e=>zv4 X.env scope.names [] n c (fun _ _ q=>by simp at q) e;have cellLt:∀ n c,X.env.cells.lookup n=some c->c<s.heap.objs.size:=fun n c e=>by obtain⟨v,z⟩:=I.cell n c e;exact z.lt
 have fresh:H s.heap.objs.size=none:=I.hok.fresh (Nat.le_refl _);refine⟨⟨I.ok.mod,L.kind,I.ok.glob,I.ok.blt,Nat.le_refl _,fun a b c h1 h2=>I.ok.inj a b c (sub a c h1) (sub b c h2),fun a ha=>?_,fun a c h=>(by cases h),I.ok.hd,I.ok.frames,.inl rfl,fun b hb=>⟨Nat.ne_of_lt (hfp b hb).2,fun a c e=>?_⟩,fun b o e=>I.bs b o e,Nat.le_trans I.ok.bsz I.sz,fun b o e hb=>?_,fun b hb z=>?_,I.stack,I.stkFree⟩,
  rfl,I.bare,Un.kept hk,⟨m,hns,fun i y v e1 e2 e3=>?_⟩,fun a c e=>?_,fresh,fun a c e=>I.freeC a c (sub a c e),fun p hp=>absurd (show p∈([]:List (Addr × Obj))from hp) (by simp),I.hok.kept hk,?_⟩
 ·
  have ha':(scope.names.map fun(n,k)=>if (k == NameKind.free && X.env.scope.kind == .function && X.env.kindOf n == some .cell)then (n,NameKind.cell)else (n,k)).lookup a=some .cell\/(scope.names.map fun(n,k)=>if (k == NameKind.free && X.env.scope.kind == .function && X.env.kindOf n == some .cell)then (n,NameKind.cell)else (n,k)).lookup a=some .free:=ha;have hf:scope.names.lookup a=some .free:=by
   rcases ha' with z|z
   ·obtain⟨k0,h1,h2⟩:=zbm z;rcases h2 with h2|⟨h2,_⟩
    ·subst h2;exact absurd rfl (zy2 L _ (zha h1))
    ·rw[h2]at h1;exact h1
   ·obtain⟨k0,h1,h2⟩:=zbm z;rcases h2 with h2|⟨_,h2⟩
    ·rw[<-h2]at h1;exact h1
    ·cases h2
  exact zvy X.env scope.names [] a (zha hf) (zoy I L _ (zha hf) rfl)
 ·exact(hfp b hb).1.2.2.2.2.1 a c (sub a c e)
 ·rcases(hfp b hb).1.2.2.2.1 with z|z
  ·exact I.ok.noex b o e z
  ·exact absurd (Nat.lt_of_lt_of_le (Heap.lt_size e) (Nat.le_trans I.ok.bsz z)) (Nat.lt_irrefl _)
 ·rcases List.mem_cons.mp (I.stkSub b z)with q|q
  ·exact(hfp b hb).1.2.1 q
  ·exact(hfp b hb).1.2.2.1 q
 ·
  cases i with
  |zero=>simp[zvn]at e2
  |succ i=>
  cases i with
  |zero=>simp[zvn]at e2
  |succ j=>
   have e1':M'[j]?=some y:=e1;have e2':(ix.map fun i=>(st[i]?).getD none)[j]?=some (some v):=e2;rw[List.getElem?_map]at e2';cases ej:ix[j]? with
   |none=>rw[ej]at e2';cases e2'
   |some i0=>
    rw[ej]at e2';have e4:(st[i0]?).getD none=some v:=Option.some.inj e2';have e5:st[i0]?=some (some v):=by
     cases q:st[i0]? with
     |none=>rw[q]at e4;cases e4
     |some o=>rw[q]at e4;exact congrArg some e4
    have e6:X.N[i0]?=some y:=by
     have z:=congrArg (fun l=>l[j]?) L.at_;simp only[List.getElem?_map,ej,e1',Option.map_some]at z;exact Option.some.inj z
    have q:=List.all_eq_true.mp L.vis y (List.mem_of_getElem? e1');simp only[Bool.and_eq_true,Bool.or_eq_true]at q;have kx:X.env.scope.names.lookup y=some .cell\/X.env.scope.names.lookup y=some .free:=by
     rcases q.1 with z|z
     ·exact .inl (eq_of_beq z)
     ·exact .inr (eq_of_beq z)
    have ky:scope.names.lookup y=some .free:=eq_of_beq q.2;obtain⟨m0,hn0,hl0⟩:=I.loc;obtain⟨u,ru,lu⟩:=hl0 i0 y v e6 e5 (by rcases kx with z|z;exact .inr (.inl z);exact .inr (.inr z));refine⟨u,ru,.inr ⟨zc5 (env:=X.env) ky,?_⟩⟩;rcases lu with⟨z,_⟩|⟨_,c,ec,zc⟩
    ·rcases kx with k|k
     ·rw[show X.env.kindOf y=X.env.scope.names.lookup y from rfl,k]at z;cases z
     ·rw[show X.env.kindOf y=X.env.scope.names.lookup y from rfl,k]at z;cases z
    ·obtain⟨c',hc'⟩:=zvy X.env scope.names [] y (zha ky) (zoy I L _ (zha ky) rfl);have e7:=sub y c' hc';rw[ec]at e7;cases e7;obtain⟨o,ho,hd⟩:=zc;exact⟨c,hc',o,hk _ _ ho,hd⟩
 ·obtain⟨v,o,ho,hd⟩:=I.cell a c (sub a c e);exact⟨v,o,hk _ _ ho,hd⟩
 ·simp[zvn,blk];have z:=congrArg List.length L.at_;simpa using z
end
section
variable{T:Tb}{X:Cx}
theorem zk8{E:XK}{elt iter tgt:Expr}{ifs:List Expr}{scope:Scope}{pos:Pos}{x z0:Str}{M':List Str}{ix:List Nat}{tg:D->Ev->Option Ev}{fi:Ev->M Bool}{fe:Ev->M D}
  {pins:List (Addr × Obj)} {st:St} {H3:Hp} {s3:Shared} {h₁:Heap} {t':Nat} {m:Str->Option Value} {fp:List Addr} {it D0:Addr} {tn:Nat->Heap->Prop} {J:It} {nx:Src} {μ3:List Addr} {σ3:Sto} {ρ:Ev} {n:Nat} {Q:VK}
  (hc:X.calm=true) (L:LcOk X x M' ix scope)
  (htg:∀ cl C s₀ H₀ ex,FG T (blk X (x::z0::M') scope cl C s₀ H₀ ex) tgt tg)
  (hif:∀ cl C s₀ H₀ ex,FIf T (blk X (x::z0::M') scope cl C s₀ H₀ ex) ifs fi)
  (helt:∀ cl C s₀ H₀ ex,FE T (blk X (x::z0::M') scope cl C s₀ H₀ ex) elt fe)
  (I3:Inv X pins st H3 s3) (hfp:∀ b∈fp,yg0 X pins H3 b/\b<s3.heap.objs.size) (hns:h₁.Ns s3.heap.objs.size m) (kp:∀ b o,s3.heap.get? b=some o->h₁.get? b=some o)
  (TT:Turn X.prog X.w X.K tgt J fp it tn) (hst4:tn 0 h₁) (so:yca T μ3 H3 nx J) (hE:ygw T μ3 H3 ρ st) (r3:Rel T μ3 H3 σ3) (hn:μ3[n]?=some D0)
  (p3:yhc T E (Rep T) μ3 H3 (bnd (zyo nx n tg fi fe 1001 0 (zvl ix ρ)) (fun _=>ret (.ref n)) σ3) Q) {RR:Result->Shared->Prop}
  (fin:∀ (s6:Shared) (H':Hp) (m6:Str->Option Value),s6.heap.Ns s3.heap.objs.size m6->H' s3.heap.objs.size=none->Un (frs X.stack) fp H3 H' s3.heap s6.heap->s6.os=s3.os->HOk X.prog X.w H' s6.heap->AllBare s6.gens->Q (.ref D0) H'->RR (.ok .next) s6) :
  codeAny (model X.prog X.w) X.A (.compStart (.ListComp elt [⟨tgt,iter,ifs,0⟩] scope pos) 0 (.ref it) (.ref D0) (compEnvC scope (yh7 X.env scope.names []) s3.heap.objs.size X.env))
   RR { s3 with heap:=h₁,toks:=t' }:=by
 have I4:=zej (z0:=z0) (h':=h₁) (t':=t') I3 L hfp hns kp;let Y:Cx:=blk X (x::z0::M') scope (yh7 X.env scope.names []) s3.heap.objs.size s3 H3 fp;have stat:∀ {H':Hp},(∀ b∈fp,H' b=none)->∀ b∈fp,yg0 Y [] H' b:=fun {H'} hn b hb=>⟨hn b hb,(I4.ok.exf b hb).1,I4.ok.exfs b hb,.inl hb,(I4.ok.exf b hb).2,fun p hp=>absurd (show p∈([]:List (Addr × Obj))from hp) (by simp)⟩
 have yjc:codeAny (model X.prog X.w) X.A (.compLoop (.ListComp elt [⟨tgt,iter,ifs,0⟩] scope pos) 0 (.ref it) (.ref D0) Y.env) RR { s3 with heap:=h₁,toks:=t' }:=by
  refine codeAny_loop rfl (fun k s'=>∃ i μ' H' σ' ρ' st',Inv Y [] st' H' s'/\tn i s'.heap/\(∀ b∈fp,H' b=none)/\Ext μ3 H3 μ' H'/\ygw T μ' H' ρ' st'/\Rel T μ' H' σ'/\
   yhc T E (Rep T) μ' H' (bnd (zyo nx n tg fi fe k i ρ') (fun _=>ret (.ref n)) σ') Q) ?_ 1001 ⟨0,μ3,H3,σ3,zvl ix ρ,zvn ix st,I4,hst4,fun b hb=>(hfp b hb).1.1,Ext.refl _ _,ziw ix hE,r3,p3⟩
  rintro k s' ⟨i,μ',H',σ',ρ',st',I',tn',fr',ex',hE',r',p'⟩;show wpAny _ X.A ((compTurn (.ListComp elt [⟨tgt,iter,ifs,0⟩] scope pos) 0 (.ref it) (.ref D0) Y.env).onRaise (fun x=>do noteFrame x Y.env;theTreesLotGoes x)) _ _ s';refine wpAny_noted ?_;rw[compTurn_list];refine wpAny_mono (E:=fun _ _=>False) ?_ (fun _ _ z=>z) (fun _ _ z=>z.elim);refine wpAny_bind (wpAny_standAt ?_);cases k with
  |zero=>exact p'.elim
  |succ k=>
   have so':=so μ' H' σ' i ex' r';cases en:nx.nx i σ' with
   |none=>
    have e1:zyo nx n tg fi fe (k+1) i ρ' σ'=.bad:=by unfold zyo;simp only[en]
    rw[zf6 (m':=bad) e1]at p';exact p'.elim
   |some od=>
    rw[en]at so';cases od with
    |none=>
     have e1:zyo nx n tg fi fe (k+1) i ρ' σ'=.ok () σ':=by unfold zyo;simp only[en]
     rw[zf6 (m':=ret ()) e1]at p';refine wpAny_bind (thn (TT.done Y rfl rfl rfl hc i [] s' st' H' (fun _ _=>False) I' (stat fr') tn' so') fun r s6 ⟨er,I6⟩=>?_);subst er;refine wpAny_pure ?_;obtain⟨m6,hm6,_⟩:=I6.loc;exact fin s6 H' m6 hm6 I6.free I6.base I6.os I6.hok I6.bare (yhc.here p' r' (by rw[Rep];exact⟨_,rfl,ex'.get hn⟩))
    |some d=>
     refine wpAny_bind (thn (TT.item Y rfl rfl rfl hc i [] s' st' H' (fun _ _=>False) I' (stat fr') tn' so'.1) fun r s6 ⟨u,er,h6⟩=>?_);subst er;refine wpAny_bind (thn h6 fun _ s7 ⟨xv,H7,I7,r7,y7,tn7,fr7⟩=>?_);obtain⟨eH,hd⟩:=so'.2 xv H7 y7;subst eH;cases et:tg d ρ' with
     |none=>
      have e1:zyo nx n tg fi fe (k+1) i ρ' σ'=.bad:=by unfold zyo;simp only[en,et]
      rw[zf6 (m':=bad) e1]at p';exact p'.elim
     |some ρ1=>
      have e1:zyo nx n tg fi fe (k+1) i ρ' σ'=bnd (nox (fi ρ1)) (fun c=>if c=true then bnd (nox (fe ρ1)) fun y=>bnd (zr8 (.ref n) [y]) fun _=>zyo nx n tg fi fe k (i+1) ρ1 else zyo nx n tg fi fe k (i+1) ρ1) σ':=by
       conv=>lhs;unfold zyo
       simp only[en,et]
      rw[zf6 e1,zf5]at p';have I7':=I7.pinned (stat fr7) (TT.obj _ _ tn7);refine wpAny_bind (thn (htg _ _ _ _ _ _ s7 st' H7 xv u (fun st8 H8=>H8=H7/\ygw T μ' H7 ρ1 st8) I7' r7 ⟨μ',σ',ρ',d,ρ1,hE',r',hd,et,fun st8 hE8=>⟨rfl,hE8⟩⟩) fun _ s8 ⟨st8,H8,I8,eH8,hE8⟩=>?_);subst eH8;refine wpAny_bind (thn (hif _ _ _ _ _ _ s8 st8 H8 (fun c H9=>∃ μ9 σ9,Ext μ' H8 μ9 H9/\Rel T μ9 H9 σ9/\yhc T E (Rep T) μ9 H9 (bnd (if c=true then bnd (nox (fe ρ1)) fun y=>bnd (zr8 (.ref n) [y]) fun _=>zyo nx n tg fi fe k (i+1) ρ1 else zyo nx n tg fi fe k (i+1) ρ1) (fun _=>ret (.ref n)) σ9) Q) I8
       ⟨μ',ρ1,σ',hE8,r',p'.bind0 fun c σ9 μ9 c' H9 _ e9 r9 q9 p9=>by cases q9;exact⟨μ9,σ9,e9,r9,p9⟩⟩) fun c s9 ⟨H9,I9,μ9,σ9,e9,r9,p9⟩=>?_)
      have again:∀ {s11:Shared} {H11:Hp} {μ11:List Addr} {σ11:Sto},Inv Y ([]++yac fp s7.heap) st8 H11 s11->Ext μ' H8 μ11 H11->Rel T μ11 H11 σ11->yhc T E (Rep T) μ11 H11 (bnd (zyo nx n tg fi fe k (i+1) ρ1) (fun _=>ret (.ref n)) σ11) Q->
        ∃ m,m<k+1/\∃ i μ' H' σ' ρ' st',Inv Y [] st' H' s11/\tn i s11.heap/\(∀ b∈fp,H' b=none)/\Ext μ3 H3 μ' H'/\ygw T μ' H' ρ' st'/\Rel T μ' H' σ'/\yhc T E (Rep T) μ' H' (bnd (zyo nx n tg fi fe m i ρ') (fun _=>ret (.ref n)) σ') Q:=by
       intro s11 H11 μ11 σ11 I11 e11 r11 p11;refine⟨k,Nat.lt_succ_self _,i+1,μ11,H11,σ11,ρ1,st8,I11.unpinned,TT.keep _ _ _ tn7 (fun b hb o e=>(I11.pin (b,o) (List.mem_append_right _ (List.mem_append_right _ (ze5 hb e)))).1),fun b hb=>?_,ex'.trans e11,hE8.mono e11,r11,p11⟩;obtain⟨o,e,_⟩:=TT.obj _ _ tn7 b hb;exact(I11.pin (b,o) (List.mem_append_right _ (List.mem_append_right _ (ze5 hb e)))).2.1
      cases c with
      |false=>
       rw[if_neg Bool.false_ne_true]at p9;exact wpAny_pure ⟨rfl,again I9 e9 r9 p9⟩
      |true=>
       rw[if_pos rfl,zf5]at p9;refine wpAny_bind (wpAny_bind (thn (helt _ _ _ _ _ _ s9 st8 H9 (fun v H10=>∃ y μ10 σ10,Ext μ' H8 μ10 H10/\Rel T μ10 H10 σ10/\Rep T μ10 H10 y v/\yhc T E (Rep T) μ10 H10 (bnd (zr8 (.ref n) [y]) (fun _=>bnd (zyo nx n tg fi fe k (i+1) ρ1) (fun _=>ret (.ref n))) σ10) Q) I9
        ⟨μ9,ρ1,σ9,hE8.mono e9,r9,p9.bind0 fun y σ10 μ10 v H10 _ e10 r10 q10 p10=>⟨y,μ10,σ10,e9.trans e10,r10,q10,by rw[zf5]at p10;exact p10⟩⟩) fun w s10 ⟨v,H10,I10,rw10,y,μ10,σ10,e10,r10,q10,p10⟩=>?_))
       have happ:=zn8 (Q:=fun _ H11=>∃ μ11 σ11,Ext μ' H8 μ11 H11/\Rel T μ11 H11 σ11/\yhc T E (Rep T) μ11 H11 (bnd (zyo nx n tg fi fe k (i+1) ρ1) (fun _=>ret (.ref n)) σ11) Q) r10 ((ex'.trans e10).get hn) q10
        (p10.bind fun _ σ11 μ11 v11 H11 _ e11 r11 q11 p11=>⟨μ11,σ11,e10.trans e11,r11,p11⟩)
       refine wpAny_bind (thn (zhd (X:=Y) _ s10 st8 H10 (.ref D0) [v] (.ref D0) [w] _ I10 rfl (.cons rw10 .nil) happ) fun _ s11 ⟨v11,H11,I11,_,μ11,σ11,e11,r11,p11⟩=>?_);exact wpAny_pure (wpAny_pure ⟨rfl,again I11 e11 r11 p11⟩)
 exact codeAny_compStart_list yjc (TT.self X.A 0 _ _ _ hst4 yjc)
theorem zw2{elt iter tgt:Expr}{ifs:List Expr}{scope:Scope}{pos:Pos}{x z0:Str}{M':List Str}{ix:List Nat}{src:Ev->M Src}{tg:D->Ev->Option Ev}{fi:Ev->M Bool}{fe:Ev->M D}
  (hc:X.calm=true) (L:LcOk X x M' ix scope) (hsrc:FI T X tgt iter src)
  (htg:∀ cl C s₀ H₀ ex,FG T (blk X (x::z0::M') scope cl C s₀ H₀ ex) tgt tg)
  (hif:∀ cl C s₀ H₀ ex,FIf T (blk X (x::z0::M') scope cl C s₀ H₀ ex) ifs fi)
  (helt:∀ cl C s₀ H₀ ex,FE T (blk X (x::z0::M') scope cl C s₀ H₀ ex) elt fe)
  (hs:∀ y,foldedSetIterable iter X.env y=pure y:=by intro _;rfl) :
  FE T X (.ListComp elt [⟨tgt,iter,ifs,0⟩] scope pos) (yif src ix tg fi fe):=by
 intro pins s st H Q I h;obtain⟨μ,ρ,σ,hE,hr,hp⟩:=h;rw[eval_ListComp];refine wpAny_comprehension_free (use:=none) rfl hs (zeo X.env scope (zoy I L)) L.kind (fun y hy e=>?_) ?_
 ·have q:=List.all_eq_true.mp L.names y hy;rw[e]at q;simp only[beq_self_eq_true,Bool.not_true,Bool.false_or]at q;exact eq_of_beq q
 have h1:=hsrc pins s st H (fun J H2=>∃ nx μ2 σ2,Ext μ H μ2 H2/\Rel T μ2 H2 σ2/\yca T μ2 H2 nx J/\yhc T (XE X st) (Rep T) μ2 H2 (bnd (zyo nx σ2.length tg fi fe 1001 0 (zvl ix ρ)) (fun _=>ret (.ref σ2.length)) (σ2++[Ob.lst []])) Q) I
  ⟨μ,ρ,σ,hE,hr,hp.bind fun nx σ1 μ1 J H1 _ e1 r1 q1 p1=>⟨nx,μ1,σ1,e1,r1,q1,p1⟩⟩
 refine thn h1 fun v s1 h2=>thn h2 fun itv s2 h3=>?_;obtain⟨it,fp,tn,J,H2,rfl,I2,TT,st2,f2,nx,μ2,σ2,ex2,r2,so,p2⟩:=h3;refine wpAny_newObj_type (wpAny_newFunctionEnv (zy2 L) (by intro y hy;simp at hy) (fun h₁ hns₁ hsb₁=>?_) L.kind);have I3:=I2.lnew (ys:=[]) (its:=[]) (t':=s2.toks) .nil (by simp);have fr2:H2 s2.heap.objs.size=none:=I2.hok.fresh (Nat.le_refl _);have r3:=r2.push (p:=s2.heap.objs.size) (o:=.lst []) (ob:=.lst []) fr2 ⟨[],znp,yhi.nil⟩;have ex3:Ext μ2 H2 (μ2++[s2.heap.objs.size]) (upd H2 s2.heap.objs.size (.lst [])):=zjw fr2;have hsz:s2.heap.objs.size<(s2.heap.push { cls:=.type "list",data:=.seq ([]:List Value).toArray }).objs.size:=by rw[Heap.size_push];exact Nat.lt_succ_self _
 have kp:∀ b o,(s2.heap.push { cls:=.type "list",data:=.seq ([]:List Value).toArray }).get? b=some o->h₁.get? b=some o:=fun b o e=>hsb₁.extBut b o (Nat.ne_of_lt (Heap.lt_size e)) (Heap.get?_push_of_some _ e);have hfp:∀ b∈fp,yg0 X pins (upd H2 s2.heap.objs.size (.lst [])) b/\b<(s2.heap.push { cls:=.type "list",data:=.seq ([]:List Value).toArray }).objs.size:=fun b hb=>by
  obtain⟨o,e,_⟩:=TT.obj 0 _ st2 b hb;have lt:=Heap.lt_size e;exact⟨⟨by rw[ybq (Nat.ne_of_lt lt)];exact(f2 b hb).1,(f2 b hb).2⟩,Nat.lt_trans lt hsz⟩
 refine zk8 (s3:={ s2 with heap:=s2.heap.push { cls:=.type "list",data:=.seq ([]:List Value).toArray },toks:=s2.toks }) (n:=σ2.length) (D0:=s2.heap.objs.size) hc L htg hif helt I3 hfp hns₁ kp TT (TT.keep 0 _ _ st2 fun b hb o e=>kp b o (Heap.get?_push_of_some _ e))
  (fun μ H σ i ex r=>so μ H σ i (ex3.trans ex) r) ((hE.mono ex2).mono ex3) r3 (by rw[<-r2.len];simp) (p2.mono ex3) (fun s6 H' m6 hm6 hC' hu0 hos hok6 hb6 hq=>⟨m6,hm6,fun h7 hs7=>?_⟩)
 have hu:=zu2 hu0 hs7 (Nat.le_refl _);have I7:=L2.Inv.call' (s':={ s6 with heap:=h7 }) (ch:=fp) I3 hos hu (zks hok6 hs7 hC') hb6 (fun b hb=>⟨(hfp b hb).1.2.2.2.1,(hfp b hb).1.2.1,(hfp b hb).1.2.2.2.2.1,(hfp b hb).1.2.2.2.2.2⟩);exact⟨.ref s2.heap.objs.size,H',I7,rfl,hq⟩
end
section
variable{T:Tb}{X:Cx}
def apart(n:Nat):D->Bool
 | .ref m=>!(m == n)
 |_=>true
end
section
variable{T:Tb}{X:Cx}
def yi9:Key->D
 | .inl i=>.int i
 | .inr x=>.str x
end
end L4
namespace L4
open PySem PySem.Spec PySem.Calls PySem.W PyProof.Rows PyProof.V
end L4
namespace L4
open PySem PySem.Spec PyProof.Rows L2
section
variable{T:Tb}{X:Cx}
end
section
variable{T:Tb}{X:Cx}
end
end L4
namespace L2
open PySem PySem.Spec PyProof.Rows
end L2
namespace L4
open PySem PySem.Spec PyProof.Rows L2
section
variable{T:Tb}{X:Cx}
inductive Dsp(T:Tb)(X:Cx):List (Option Expr)->List Expr->List Key->(Ev->M (List D))->Prop
 |nil:Dsp T X [] [] [] yhq
 |cons {k v:Expr} {kk:Key} {f:Ev->M D} {ks:List (Option Expr)} {vs:List Expr} {kks:List Key} {fs:Ev->M (List D)} (hk:FE T X k (eC (yi9 kk))) (hv:FE T X v f) (r:Dsp T X ks vs kks fs):Dsp T X (some k::ks) (v::vs) (kk::kks) (ycc f fs)
end
section
variable{T:Tb}{X:Cx}{pins:List (Addr × Obj)}{st:St}{H:Hp}{s:Shared}
variable{N':List Str}{scope:Scope}{cl:List (Str × Addr)}{H3:Hp}{s3:Shared}{fp:List Addr}{xe:Value->Shared->Prop}
end
section
variable{T:Tb}{X:Cx}
end
section
variable{ρ:Ev}{σ:Sto}
end
end L4
namespace L4
open PySem PySem.Spec PyProof.Rows L2 Builtin Builtin.Str
section
variable{T:Tb}{X:Cx}{a b e o:Expr}{fa fb f:Ev->M D}{pos apos cpos:Pos}
end
section
variable{ρ:Ev}{σ:Sto}
end
end L4
namespace L4
open PySem PySem.Spec PyProof.Rows L2
section
variable{T:Tb}{X:Cx}
end
section
variable{ρ:Ev}{σ:Sto}
end
section
variable{prog:Program}{w:World}{A:Around}{E:Value->Shared->Prop}{h:Heap}{g:Array GenState}{d:Drawn}{t:Nat}{os:OsState}
variable{nm qn:Str}{C N:Addr}{bs bm bmB:List Value}{hdct:Bool}{sn:List Str}{sub:List Value}{ab:Bool}{col:Option Bool}{dd:Option Addr}{k0 k1 k2 k3 k5:Option Value}{B newId initId:String}
end
section
variable{T:Tb}{X:Cx}{pins:List (Addr × Obj)}{st:St}{H:Hp}{s:Shared}
end
section
variable{X:Cx}
end
section
variable{prog:Program}{w:World}{A:Around}{E:Value->Shared->Prop}{h:Heap}{g:Array GenState}{d:Drawn}{t:Nat}{os:OsState}{K:PySem.W.Frag}
variable{nm qn:Str}{C N x:Addr}{bs bm bmB:List Value}{sn:List Str}{sub:List Value}{ab:Bool}{col:Option Bool}{dd:Option Addr}{k0 k1 k2 k3 k5:Option Value}{B newId sa owner:String}{name:Str}{v:Value}{o:Obj}{vs:Array Value}
end
section
variable{X:Cx}
end
section
variable{P:Program}{w:World}{K:PySem.W.Frag}{mg:Str->Option Value}{base:Heap}
end
section
variable{M:Model}{A:Around}{E:Value->Shared->Prop}{s:Shared}{env:Env}
variable{nm qn:Str}{C N:Addr}{bs bm:List Value}{hdct:Bool}{sn:List Str}{sub:List Value}{ab:Bool}{col:Option Bool}{dd:Option Addr}{k0 k1 k2 k3 k5:Option Value}{newId:String}
end
section
variable{T:Tb}{X:Cx}
end
end L4
namespace L4
open PySem PySem.Spec PySem.Calls PyProof.Rows PySem.Builtin PySem.Builtin.ObjectAttr L2
section
variable{prog:Program}{w:World}{A:Around}{E:Value->Shared->Prop}{s:Shared}{K:PySem.W.Frag}{C ea dN:Addr}{hp:Heap}{n:Nat}{Mo:Model}
end
section
variable{T:Tb}{X:Cx}
end
section
variable{ρ:Ev}{σ:Sto}
end
end L4
namespace HT
open PySem Builtin
open Sem (wp)
end HT
namespace L4
open PySem PySem.Spec PyProof.Rows L2
end L4
namespace L4
open PySem
def Ris(xs:Array Nat):Prop:=∀ i k:Nat,∀ a b:Nat,i<k->xs[i]?=some a->xs[k]?=some b->a<b
def Cut(xs:Array Nat)(j p:Nat):Prop:=p<=xs.size/\(∀ i a:Nat,i<p->xs[i]?=some a->a<j)/\∀ i a:Nat,p<=i->xs[i]?=some a->j<=a
theorem ziu{xs:Array Nat}(hr:Ris xs)(j:Nat):∀ (fuel lo hi:Nat),hi - lo<=fuel->lo<=hi->hi<=xs.size->(∀ i a:Nat,i<lo->xs[i]?=some a->a<j)->(∀ i a:Nat,hi<=i->xs[i]?=some a->j<=a)->Cut xs j (SetTable.below.go xs j fuel lo hi):=by
 intro fuel;induction fuel with
 |zero=>
  intro lo hi h1 h2 h3 h4 h5;have e:lo=hi:=by omega
  subst e;exact⟨h3,h4,h5⟩
 |succ f ih=>
  intro lo hi h1 h2 h3 h4 h5;unfold SetTable.below.go;by_cases hl:lo<hi
  ·rw[if_pos hl];dsimp only;have hm:(lo+hi) / 2<hi:=by omega
   have hm2:lo<=(lo+hi) / 2:=by omega
   have hs:(lo+hi) / 2<xs.size:=by omega
   have eg:xs[(lo+hi) / 2]?=some xs[(lo+hi) / 2]:=Array.getElem?_eq_getElem hs;have ed:xs.getD ((lo+hi) / 2) j=xs[(lo+hi) / 2]:=by simp[Array.getD,hs]
   rw[ed];by_cases hc:xs[(lo+hi) / 2]<j
   ·rw[if_pos hc];refine ih _ _ (by omega) (by omega) h3 (fun i a hi' ea=>?_) h5;by_cases e:i=(lo+hi) / 2
    ·subst e;rw[eg]at ea;cases ea;exact hc
    ·have:=hr i ((lo+hi) / 2) a _ (by omega) ea eg;omega
   ·rw[if_neg hc];refine ih _ _ (by omega) (by omega) (by omega) h4 (fun i a hi' ea=>?_);by_cases e:i=(lo+hi) / 2
    ·subst e;rw[eg]at ea;cases ea;omega
    ·have:=hr ((lo+hi) / 2) i _ a (by omega) eg ea;omega
  ·rw[if_neg hl];have e:lo=hi:=by omega
   subst e;exact⟨h3,h4,h5⟩
theorem zfz{xs:Array Nat}(hr:Ris xs)(j:Nat):Cut xs j (SetTable.below xs j):=by
 unfold SetTable.below;exact ziu hr j _ _ _ (by omega) (by omega) (Nat.le_refl _) (fun i a h=>by omega) (fun i a h ea=>by
  have:=(Array.getElem?_eq_some_iff.mp ea).1;omega)
theorem zc1{xs:Array Nat}{p x:Nat}(hp:p<=xs.size)(i:Nat):(SetTable.insertAt xs p x)[i]?=if i<p then xs[i]? else if i=p then some x else xs[i - 1]?:=by
 unfold SetTable.insertAt;have s1:(xs.extract 0 p).size=p:=by simp;omega
 rw[Array.getElem?_append,Array.size_push,s1];by_cases h1:i<p
 ·rw[if_pos (by omega),if_pos h1,Array.getElem?_push,if_neg (by rw[s1];omega),Array.getElem?_extract];simp;omega
 ·rw[if_neg h1];by_cases h2:i=p
  ·subst h2;rw[if_pos (by omega),if_pos rfl,Array.getElem?_push,if_pos (by rw[s1])]
  ·rw[if_neg (by omega),if_neg h2,Array.getElem?_extract];by_cases h3:i - 1<xs.size
   ·rw[if_pos (by omega)];congr 1;omega
   ·rw[if_neg (by omega),Array.getElem?_eq_none (by omega)]
theorem zfd{xs:Array Nat}{p x:Nat}(hr:Ris xs)(hc:Cut xs x p)(hn:¬ xs[p]?=some x):Ris (SetTable.insertAt xs p x):=by
 have ge:∀ i a:Nat,p<=i->xs[i]?=some a->x<a:=fun i a hi ea=>by
  have h1:=hc.2.2 i a hi ea;rcases Nat.lt_or_ge x a with h|h
  ·exact h
  ·have e:a=x:=by omega
   subst e;by_cases hip:i=p
   ·subst hip;exact absurd ea hn
   ·have hl:=(Array.getElem?_eq_some_iff.mp ea).1;have hp:p<xs.size:=by omega
    have e2:xs[p]?=some xs[p]:=Array.getElem?_eq_getElem hp;have:=hr p i _ _ (by omega) e2 ea;have:=hc.2.2 p _ (Nat.le_refl _) e2;omega
 intro i k a b hik ea eb;rw[zc1 hc.1]at ea eb;by_cases h1:i<p
 ·rw[if_pos h1]at ea;by_cases h2:k<p
  ·rw[if_pos h2]at eb;exact hr i k a b hik ea eb
  ·rw[if_neg h2]at eb;by_cases h3:k=p
   ·rw[if_pos h3]at eb;cases eb;exact hc.2.1 i a h1 ea
   ·rw[if_neg h3]at eb;exact hr i (k - 1) a b (by omega) ea eb
 ·rw[if_neg h1]at ea;have h2:¬ k<p:=by omega
  rw[if_neg h2,if_neg (by omega)]at eb;by_cases h3:i=p
  ·rw[if_pos h3]at ea;cases ea;exact ge (k - 1) b (by omega) eb
  ·rw[if_neg h3]at ea;exact hr (i - 1) (k - 1) a b (by omega) ea eb
structure TOk(b:Bool)(t:SetTable):Prop where
 led:t.led = !b
 ris:Ris t.place
 dum:t.dummies=#[]
theorem zqn(j:Nat):SetTable.has #[] j=false:=by
 unfold SetTable.has;simp
theorem TOk.put{b:Bool}{t:SetTable}(h:TOk b t){j:Nat}(hn:¬ t.place[SetTable.below t.place j]?=some j):TOk b (t.put j).1:=by
 unfold SetTable.put;dsimp only;refine⟨h.led,zfd h.ris (zfz h.ris j) hn,?_⟩;rw[h.dum,zqn];rfl
theorem TOk.plain{b p:Bool}{t:SetTable}(h:TOk b t):TOk b { t with plain:=p }:=⟨h.led,h.ris,h.dum⟩
theorem zhx(n:Nat):Ris (Array.range n):=by
 intro i k a c hik ea ec;have l1:=(Array.getElem?_eq_some_iff.mp ea).1;have l2:=(Array.getElem?_eq_some_iff.mp ec).1;simp only[Array.size_range]at l1 l2;simp[l1]at ea;simp[l2]at ec;omega
theorem TOk.stand{b:Bool}{t:SetTable}(h:TOk b t)(n:Nat):TOk b (t.standIn n):=⟨h.led,zhx n,rfl⟩
theorem TOk.or{b:Bool}{t:SetTable}(h:TOk b t)(n:Nat):TOk b (t.orStandIn n):=by
 unfold SetTable.orStandIn;split
 ·exact h
 ·exact h.stand n
theorem TOk.fresh(b:Bool):TOk b (SetTable.fresh 0 0 (!b)):=⟨rfl,fun i k a c _ ea _=>by simp[SetTable.fresh]at ea,rfl⟩
end L4
namespace L4
open PySem PySem.Spec PyProof.Rows
section
variable{prog:Program}{w:World}{K:Type}[DecidableEq K][BEq K][LawfulBEq K]{knd:KeyKind prog w K}{A:Around}{E:Value->Shared->Prop}{s:Shared}{b:Bool}{a:Addr}{k:K}{x:Value}
end
section
variable{prog:Program}{w:World}{A:Around}
variable{E:Value->Shared->Prop}{s:Shared}
end
section
variable{prog:Program}{w:World}{A:Around}{E:Value->Shared->Prop}{s:Shared}
set_option maxHeartbeats 3200000 in
end
def yb6(h:Heap)(a:Addr)(es:Array (Int × Value))(ep:Nat)(t:SetTable):Prop:=∃ o,h.get? a=some o/\o.ExactSet/\o.data=.set es ep t
def yg6(h:Heap)(I a:Addr)(first:Value)(i n ep:Nat):Prop:=∃ o,h.get? I=some o/\o.cls=.type "set_iterator"/\o.data=.fields #[first,rawInt i,.ref a,rawInt n,rawInt ep]
section
variable{prog:Program}{w:World}{A:Around}{E:Value->Shared->Prop}{s:Shared}{I a:Addr}{es:Array (Int × Value)}{ep:Nat}{t:SetTable}{i:Nat}
theorem yg6.ty{first:Value}{n:Nat}(h:yg6 s.heap I a first i n ep):s.TypeIs (.ref I) "set_iterator":=let ⟨o,h1,h2,_⟩:=h;⟨o,h1,h2⟩
end
def fB(pl:Array Nat)(i:Nat):Nat:=if i=0 then 0 else pl.getD (i - 1) 0+1
section
variable{prog:Program}{w:World}{A:Around}{E:Value->Shared->Prop}{s:Shared}{a:Addr}{es:Array (Int × Value)}{ep:Nat}{t:SetTable}{i:Nat}
end
section
variable{prog:Program}{w:World}{A:Around}{E:Value->Shared->Prop}{s:Shared}{I a p:Addr}{es:Array (Int × Value)}{ep:Nat}{t:SetTable}{i:Nat}
def ycb(h:Heap)(p:Addr)(ps:List Nat):Prop:=∃ o n,h.get? p=some o/\o.data=.seq (ps.map fun(i:Nat)=>rawInt i).toArray n
end
section
variable{prog:Program}{w:World}{A:Around}{I a p:Addr}{es:Array (Int × Value)}{ep:Nat}{t:SetTable}
theorem yg6.keep{h h':Heap}{first:Value}{i n:Nat}(x:yg6 h I a first i n ep)(k:∀ o,h.get? I=some o->h'.get? I=some o):yg6 h' I a first i n ep:=let ⟨o,e,r⟩:=x;⟨o,k o e,r⟩
theorem yb6.keep{h h':Heap}(x:yb6 h a es ep t)(k:∀ o,h.get? a=some o->h'.get? a=some o):yb6 h' a es ep t:=let ⟨o,e,r⟩:=x;⟨o,k o e,r⟩
theorem ycb.keep{h h':Heap}{ps:List Nat}(x:ycb h p ps)(k:∀ o,h.get? p=some o->h'.get? p=some o):ycb h' p ps:=let ⟨o,n,e,r⟩:=x;⟨o,n,k o e,r⟩
end
end L4
namespace L4
open PySem PySem.Spec PySem.Calls PySem.W PyProof.Rows PyProof.V
section
variable{prog:Program}{w:World}{A:Around}{E:Value->Shared->Prop}{s:Shared}{a:Addr}{es:Array (Int × Value)}{ep:Nat}{t:SetTable}
end
end L4
namespace L4
open PySem PySem.Spec PyProof.Rows L2
theorem zgg(ns:List Int):(ddp ns).Nodup:=by
 unfold ddp;have h:∀ (l acc:List Int),acc.Nodup->(l.foldl step_dedup acc).Nodup:=by
  intro l;induction l with
  |nil=>intro acc h;exact h
  |cons x l ih=>
   intro acc h;rw[List.foldl_cons];refine ih _ ?_;unfold step_dedup;split
   ·exact h
   ·rename_i hx
    rw[List.nodup_append];refine⟨h,by simp,fun a ha b hb=>?_⟩;rw[List.mem_singleton]at hb;intro e;subst e;subst hb;exact hx (List.any_eq_true.mpr ⟨_,ha,by simp⟩)
 exact h ns [] List.nodup_nil
section
variable{T:Tb}{X:Cx}
theorem zv8(ns:List Int):(ddp ns).length<=ns.length:=by rw[<-zgf];exact firstMet_length_le _ _
def rClear:V->List V->Hp->VK->Prop:=fun x xs H Q=>∃ (a:Addr) (kvs:List (Key × V)),x=.ref a/\xs=[]/\H a=some (.dK kvs)/\Q .non (upd H a (.dK []))
theorem mt_clear:MtR X "dict.clear" rClear:=by
 intro pins s st H x vs v us Q I rx rv h;obtain⟨a,kvs,rfl,rfl,hH,q⟩:=h;cases rx;cases rv;obtain⟨z,hd,ws,rel,dd⟩:=yct I.hok hH;have hz:ws.length<=sizeLine:=by rw[<-rel.length];exact z
 refine call_meetsIn PySem.F.slot_dict_clear dd.typeIs PySem.F.entry_dict_clear (PySem.F.args_dict_clear_1 _) (meets_dict_clear (zrz X.prog X.w) a) ⟨ws,dd,hz,fun h' dd' hs=>?_⟩;have he:∃ q,h'.get? a=some q:=let ⟨q,_,_,hq,_⟩:=dd';⟨q,hq⟩;exact⟨.non,_,zo0 I (by rw[hH];exact True.intro) hs he (zwa (by simp) hd .nil dd'),rfl,q⟩
def zy6(x:D)(xs:List D):M D:=fun σ=>match x,xs with
 | .ref n,[]=>(match σ[n]? with
  |some (.dic _)=>.ok .non (σ.set n (.dic []))
  |_=>.bad)
 |_,_=>.bad
def yey(ds:List D):M D:=fun σ=>match ds with
 |[x]=>(match yib σ x with
  |some kvs=>.ok (.ref σ.length) (σ++[.dic kvs])
  |none=>.bad)
 |_=>.bad
theorem zm6:zn0 T yke yey:=by
 intro E μ H σ ds vs Q r p h
 match ds with
 |[]=>exact h.elim
 |[x]=>
  unfold yey at h;dsimp only at h;cases ed:yib σ x with
  |none=>rw[ed]at h;exact h.elim
  |some kvs=>
   rw[ed]at h;rw[yhi]at p;obtain⟨v,r',rfl,q1,q2⟩:=p;rw[yhi]at q2;subst q2;obtain⟨a,ws,rfl,h1,h2⟩:=yav r q1 ed;refine⟨a,ws,rfl,h1,fun l hn=>?_⟩;exact h (μ++[l]) (.ref l) _ (zjw hn) (r.push hn ⟨ws,znp,Paired.mapP h2 fun _ _ z=>⟨z.1,Rep.mono (zjw hn) _ _ z.2⟩⟩) (zmo r)
 |_::_::_=>exact h.elim
end
section
variable{X:Cx}{pins:List (Addr × Obj)}{σ:St}{H:Hp}{s:Shared}
theorem _root_.L2.Inv.freeze{a:Addr}{kvs:List (Key × V)}{od:Obj}(I:Inv X pins σ H s)(hd:H a=some (.dK kvs))(e:s.heap.get? a=some od):Inv X pins σ (upd H a (.frz od (.dK kvs))) s:=by
 have ne:∀ b u,H b=some u->u≠.dK kvs->b≠a:=fun b u q n z=>by rw[z,hd]at q;exact n (Option.some.inj q).symm
 refine I.step (g':=s.gens) (d':=s.drawn) (t':=s.toks) (h':=s.heap) (ch:=[]) (fun _ z=>nomatch z) (fun b o _ _ _ q _=>q) (fun b o _ _ _ q _=>⟨o.slots,q⟩) (fun b o _ q n=>?_) (fun b o _ q=>⟨o,q⟩)
  (fun b xs q=>by rw[ybq (ne b _ q (fun z=>by cases z))];exact q) (fun b u xs q=>by rw[ybq (ne b _ q (fun z=>by cases z))];exact q) (fun b ps q=>⟨#[],by rw[ybq (ne b _ q (fun z=>by cases z)),q];simp⟩) (fun m hm=>hm) (fun b u q=>?_) I.bare
 ·rw[ybq (fun z=>by rw[z,hd]at n;cases n)];exact n
 ·by_cases hb:b=a
  ·subst hb;rw[znp]at q;cases q;exact⟨e,I.hok b _ hd⟩
  ·rw[ybq hb]at q;exact(I.hok b u q).stay (fun c v _ z=>z) (fun c z=>by rw[ybq (ne c _ z (fun y=>by cases y))];exact z) fun c xs z=>by rw[ybq (ne c _ z (fun y=>by cases y))];exact z
theorem zxk{a:Addr}{kvs:List (Key × V)}{od:Obj}(I:Inv X pins σ H s)(hd:H a=some (.frz od (.dK kvs))):∃ vs es ep,KV kvs vs/\od.data=.dict es ep/\s.heap.DictAt (zrz X.prog X.w) a vs ep:=by
 obtain⟨e,_,_,vs,rel,o,es,ep,e2,ex,dt,r⟩:=I.hok a _ hd;rw[e]at e2;cases e2;exact⟨vs,es,ep,rel,dt,od,es,e,ex,dt,r⟩
end
def Itm(d:Addr)(od:Obj)(kvs:List (Key × V)):It:=
 ⟨fun i H=>H d=some (.frz od (.dK kvs))/\∃ x,kvs[i]?=some x,fun i H v H'=>∃ p k x,H p=none/\v=.ref p/\kvs[i]?=some (k,x)/\H'=upd H p (.tup [kV k,x]),fun i H=>H d=some (.frz od (.dK kvs))/\i=kvs.length⟩
theorem zyj{κ:Type}:∀ {kvs:List (κ × V)} {vs:List (κ × Value)} (r:KV kvs vs) (i:Nat) {k:κ} {x:V},kvs[i]?=some (k,x)->∃ u,vs[i]?=some (k,u)/\yhf x u
 |_,_,.nil,i,_,_,h=>by simp at h
 |_,_,.cons (b:=q) a b,0,k,x,h=>by
  simp only[List.getElem?_cons_zero,Option.some.injEq]at h;obtain⟨a1,a2⟩:=a;rw[h]at a1 a2;exact⟨q.2,by simp only[List.getElem?_cons_zero,Option.some.injEq];exact Prod.ext a1.symm rfl,a2⟩
 |_,_,.cons a b,i+1,k,x,h=>by
  simp only[List.getElem?_cons_succ]at h ⊢;exact zyj b i h
theorem zk3{P:Program}{w:World}{k:Key}{v:Value}(h:(zrz P w).is k v=true):yhf (kV k) v:=by
 rcases zdr (k:=k) (v:=v) h with⟨i,t,rfl,rfl⟩|⟨x,t,rfl,rfl⟩
 ·exact⟨t,rfl⟩
 ·exact⟨t,rfl⟩
theorem zfp{P:Program}{w:World}{K:PySem.W.Frag}{elts:List Expr}{kk:Nat}{pos:Pos}(d it:Addr)(od:Obj)(kvs:List (Key × V))(hne:d≠it){es:Array DictEntry}{ep:Nat}(hod:od.data=.dict es ep) :
  Turn P w K (.Tuple elts kk pos) (Itm d od kvs) [it] it (fun i h=>∃ ok ov,IsItemIter h it d i kvs.length ep ok ov) where
 mem:=by simp
 obj:=fun i h st b hb=>by
  obtain⟨ok,ov,s1⟩:=st;obtain rfl:b=it:=by simpa using hb
  exact⟨_,s1,fun v z=>by cases z⟩
 keep:=fun i h h' st k=>by
  obtain⟨ok,ov,s1⟩:=st;exact⟨ok,ov,k it (by simp) _ s1⟩
 item:=by
  intro X hP hw hK hc i pins s σ H E I hf st hg;subst hP hw hK;obtain⟨hd,⟨k,x⟩,hx⟩:=hg;obtain⟨vs,es',ep',rel,dt,hm⟩:=zxk I hd;rw[hod]at dt;cases dt;obtain⟨u,hu,ru⟩:=zyj rel i hx;obtain⟨ok,ov,s1⟩:=st;rw[rel.length]at s1;refine wpAny_pyNext_items_item s1 hm hu fun key h' hkey ho hT hsz hk=>?_;have hTn:s.heap.objs.size≠it:=Nat.ne_of_gt (Heap.lt_size s1);refine⟨.ref s.heap.objs.size,rfl,wpAny_letOwnedTupleGo_items ho fun h2 hi2 hs2=>?_⟩;have hn:H s.heap.objs.size=none:=I.hok.fresh (Nat.le_refl _);have hT2:h2.get? s.heap.objs.size=some { cls:=.type "tuple",data:=.seq #[key,u] }:=hs2.extBut _ _ hTn hT;refine⟨.ref s.heap.objs.size,upd H s.heap.objs.size (.tup [kV k,x]),I.turnL (t':=s.toks) (o:=.tup [kV k,x]) (its:=[it]) (fun b o hb q=>hs2.extBut b o (fun z=>hb (by simp[z])) (hk b o (fun z=>hb (by simp[z])) q)) hf (Nat.le_refl _) ?_,rfl,⟨_,k,x,hn,rfl,hx,rfl⟩,⟨key,u,by rw[rel.length];exact hi2⟩,fun b hb=>?_⟩
  ·exact⟨(show (2:Nat)<=sizeLine by decide),[key,u],.cons (zk3 hkey) (.cons ru .nil),⟨_,hT2,rfl,_,rfl⟩⟩
  ·obtain rfl:b=it:=by simpa using hb
   rw[ybq (fun z=>hTn z.symm)];exact(hf b hb).1
 done:=by
  intro X hP hw hK hc i pins s σ H E I hf st hg;subst hP hw hK;obtain⟨hd,hi⟩:=hg;obtain⟨vs,es',ep',rel,dt,hm⟩:=zxk I hd;rw[hod]at dt;cases dt;obtain⟨ok,ov,s1⟩:=st;rw[rel.length]at s1 hi;exact wpAny_pyNext_items_end (I.ok.hd hc) s1 hm (by rw[hi];simp) fun h' eb=>⟨rfl,I.turnN (t':=s.toks) (its:=[it]) (fun b o hb q=>eb b o (fun z=>hb (by simp[z])) q) hf⟩
 self:=fun A i s Q E st h=>by
  obtain⟨ok,ov,s1⟩:=st;exact PySem.W.kcp_self s1 h
def yhp(l a:Addr):Heap->Prop:=fun h=>h.IsItemsView l a
def yar:V->List V->Hp->VK->Prop:=fun x xs H Q=>∃ a kvs,x=.ref a/\xs=[]/\Rd H a (.dK kvs)/\∀ l,H l=none->Q (.ref l) (upd H l (.ext (yhp l a)))
theorem zu3{H:Hp}{a:Addr}{o:HO}(h:H a=some o):upd H a o=H:=by
 funext b;unfold upd;split
 ·next e=>rw[e,h]
 ·rfl
theorem zkp(h:Heap)(o:Obj)(hf:o.data≠.freed):(h.push o).get? h.objs.size=some o:=by
 obtain⟨c,d,x,sl⟩:=o;simp[Heap.get?,Heap.push];cases x<;>first|rfl|exact absurd rfl hf
section
variable{T:Tb}{X:Cx}{elts:List Expr}{kk:Nat}{p0:Pos}
theorem zls:MtR X "dict.items" yar:=by
 intro pins s st H x vs v us Q I rx rv h;obtain⟨a,kvs,rfl,rfl,hH,q⟩:=h;cases rx;cases rv;obtain⟨z,hd,ws,rel,dd⟩:=ycu I.hok hH;refine call_meetsIn PySem.F.slot_dict_items dd.typeIs PySem.F.entry_dict_items (PySem.F.args_dict_items_1 _) (meets_dict_items (zrz X.prog X.w) a hd) ⟨⟨ws,dd⟩,?_⟩;refine⟨.ref s.heap.objs.size,_,I.laid (t':=s.toks) (o:=.ext (yhp s.heap.objs.size a)) (fun b o e=>Heap.get?_push_of_some _ e) (Nat.le_refl _) ?_,rfl,q _ (I.hok.fresh (Nat.le_refl _))⟩;refine⟨⟨_,zkp _ _ (fun z=>by cases z),rfl,rfl⟩,⟨_,zkp _ _ (fun z=>by cases z)⟩,fun h1 h2 p k=>?_⟩;obtain⟨o,e,c⟩:=p;exact⟨o,k o e,c⟩
def zx3(te:TE):TI:=fun σ H R=>te σ H fun v H1=>∃ l a kvs,v=.ref l/\H1 l=some (.ext (yhp l a))/\Rd H1 a (.dK kvs)/\∀ od,H1 a=some (.dK kvs)\/H1 a=some (.frz od (.dK kvs))->R (Itm a od kvs) (upd H1 a (.frz od (.dK kvs)))
theorem zmg{iter:Expr}{te:TE}(he:PE X iter te):PI X (.Tuple elts kk p0) iter (zx3 te):=by
 intro pins s σ H R I h;refine thn (he pins s σ H _ I h) fun v s1 ⟨x,H1,I1,r1,q1⟩=>?_;obtain⟨l,a,kvs,rfl,hl,hk,q⟩:=q1;cases r1;obtain⟨od,hod,I2⟩:∃ od,(H1 a=some (.dK kvs)\/H1 a=some (.frz od (.dK kvs)))/\Inv X pins σ (upd H1 a (.frz od (.dK kvs))) s1:=by
  rcases hk with hk|⟨od,hk⟩
  ·obtain⟨_,_,vs,rel,o,es,ep,e,_⟩:=I1.hok a _ hk;exact⟨o,.inl hk,I1.freeze hk e⟩
  ·exact⟨od,.inr hk,by rw[zu3 hk];exact I1⟩
 obtain⟨vs,es,ep,rel,dt,hm⟩:=zxk I2 znp;have hv:s1.heap.IsItemsView l a:=(I1.hok l _ hl).1;have hne:a≠s1.heap.objs.size:=Nat.ne_of_lt hm.lt_size;refine wpAny_pyIter_items hv hm ?_;refine⟨s1.heap.objs.size,[s1.heap.objs.size],_,Itm a od kvs,_,rfl,I2.kept (t':=s1.toks) (fun b o e=>Heap.get?_push_of_some _ e),zfp a _ od kvs hne dt,⟨.none,.none,by rw[rel.length];exact zkp _ _ (fun z=>by cases z)⟩,fun b hb=>?_,q od hod⟩;obtain rfl:b=s1.heap.objs.size:=by simpa using hb
 exact I2.fpOk (Nat.le_refl _) (I2.hok.fresh (Nat.le_refl _))
def nxI(kv:List (Key × D)):NX:=fun i _=>match kv[i]? with
 |some p=>some (some (.tup [yi9 p.1,p.2]))
 |none=>if i=kv.length then some none else none
def yd0(d:D):M NX:=fun σ=>match d with
 | .dic ks xs=>if ks.length=xs.length then .ok (nxI (ks.zip xs)) σ else .bad
 |_=>.bad
def yk4(f:Ev->M D):Ev->M NX:=fun ρ=>bnd (f ρ) yd0
theorem zq4{μ:List Addr}{H:Hp}(k:Key):Rep T μ H (yi9 k) (kV k):=by
 cases k<;>(unfold yi9 kV;rw[Rep])
theorem zph{μ:List Addr}{H:Hp}{a:Addr}{od:Obj}{kvs:List (Key × V)}(hk:H a=some (.dK kvs)):Ext μ H μ (upd H a (.frz od (.dK kvs))):=by
 have ne:∀ b u,H b=some u->u≠.dK kvs->b≠a:=fun b u q n z=>by rw[z,hk]at q;exact n (Option.some.inj q).symm
 refine⟨⟨[],by simp⟩,fun p xs h=>by rw[ybq (ne p _ h (fun z=>by cases z))];exact h,fun p o u h=>by rw[ybq (ne p _ h (fun z=>by cases z))];exact h,fun p o h n=>⟨?_,n⟩⟩;by_cases e:p=a
 ·subst e;rw[hk]at h;cases h;exact⟨_,znp,.inr (.inl ⟨od,kvs,rfl,rfl⟩)⟩
 ·exact⟨o,by rw[ybq e];exact h,.inl rfl⟩
theorem ze8{α β:Type}{R:α->β->Prop}:∀ {xs:List α} {ys:List β},Paired R xs ys->∀ (i:Nat) {x:α},xs[i]?=some x->∃ y,ys[i]?=some y/\R x y
 |_,_,.nil,i,_,h=>by simp at h
 |_,_,.cons a b,0,x,h=>by
  simp only[List.getElem?_cons_zero,Option.some.injEq]at h ⊢;subst h;exact⟨_,rfl,a⟩
 |_,_,.cons a b,i+1,x,h=>by
  simp only[List.getElem?_cons_succ]at h ⊢;exact ze8 b i h
theorem zj3{e:Expr}{f:Ev->M D}{apos cpos:Pos}(h:FE T X e f)(hbase:attributeBase e "items" X.env (eval e X.env)=eval e X.env:=by rfl)(hline:(apos.endLine == cpos.line)=true:=by rfl) :
  FIN T X (.Tuple elts kk p0) (.Call (.Attribute e "items" apos) [] [] cpos) (yk4 f):=by
 intro pins s st H R I hw;refine zmg (zsx PySem.F.plainAttrs_dict PySem.F.slot_dict_items PySem.F.type_dict_items zls h hbase hline) pins s st H R I ?_;obtain⟨μ,ρ,σ,hE,hr,hp⟩:=hw;refine⟨μ,ρ,σ,hE,hr,hp.bind fun d σ1 μ1 v H1 _ e1 r1 q1 p1=>?_⟩;unfold yd0 at p1;cases d with
 |dic ks xs=>
  dsimp only at p1;by_cases hl:ks.length=xs.length
  ·rw[if_pos hl]at p1;rw[Rep]at q1;obtain⟨a,kvs,rfl,hn,hk,hks,hxs⟩:=q1;refine⟨⟨a,kvs,rfl,hk⟩,a,kvs,rfl,rfl,hk,fun l hln=>?_⟩;have nal:a≠l:=by rcases hk with hk|⟨_,hk⟩<;>exact ze6 hk hln
   have hk1:Rd (upd H1 l (.ext (yhp l a))) a (.dK kvs):=by unfold Rd;rw[ybq nal];exact hk
   refine⟨l,a,kvs,rfl,znp,hk1,fun od ho=>?_⟩;have x1:Ext μ1 H1 μ1 (upd H1 l (.ext (yhp l a))):=zpi hln;have rr1:Rel T μ1 (upd H1 l (.ext (yhp l a))) σ1:=r1.fresh hln;obtain⟨x2,rr2⟩:Ext μ1 H1 μ1 (upd (upd H1 l (.ext (yhp l a))) a (.frz od (.dK kvs)))/\Rel T μ1 (upd (upd H1 l (.ext (yhp l a))) a (.frz od (.dK kvs))) σ1:=by
    rcases ho with ho|ho
    ·have y:=zph (μ:=μ1) (od:=od) ho;exact⟨x1.trans y,rr1.keep y (fun b hb=>ybq (fun z=>hn (by rw[<-z];exact hb))) (rr1.tb.out (fun b hb=>ybq hb) (.inr ⟨_,ho⟩))⟩
    ·rw[zu3 ho];exact⟨x1,rr1⟩
   have h3:upd (upd H1 l (.ext (yhp l a))) a (.frz od (.dK kvs)) a=some (.frz od (.dK kvs)):=znp;generalize upd (upd H1 l (.ext (yhp l a))) a (.frz od (.dK kvs))=H3 at *;refine yhc.here (R:=yhk T) (yhc.mono x2 p1) rr2 fun μ2 H2 σ2 i ex r2=>?_;have hf:H2 a=some (.frz od (.dK kvs)):=ex.frz _ _ _ h3;have hrk:yhh T μ2 H2 (ks.zip xs) kvs:=yhh.mono (x2.trans ex) (zmp hks hxs);unfold nxI;cases ei:(ks.zip xs)[i]? with
   |none=>
    dsimp only;by_cases hi:i=(ks.zip xs).length
    ·rw[if_pos hi];exact⟨hf,by rw[hi];exact Paired.length hrk⟩
    ·rw[if_neg hi];trivial
   |some p=>
    obtain⟨q,hq,hpq,rx⟩:=ze8 hrk i ei;refine⟨⟨hf,q,hq⟩,fun z H' y=>?_⟩;obtain⟨r,k',x',hn',rfl,hkx,rfl⟩:=y;rw[hq]at hkx;cases hkx;dsimp only at hpq rx;refine⟨zpi hn',r2.fresh hn',?_⟩;rw[Rep,hpq];exact⟨r,_,rfl,znp,yhi.cons (zq4 _) (yhi.cons (Rep.mono (zpi hn') _ _ rx) yhi.nil)⟩
  ·rw[if_neg hl]at p1;exact p1.elim
 |_=>exact p1.elim
end
def zq9(nx:NX)(n:Nat)(tg:D->Ev->Option Ev)(fi:Ev->M Bool)(fe:Ev->M D):Nat->Nat->Ev->M Unit
 |0,_,_=>bad
 |k+1,i,ρ=>fun σ=>match nx i σ with
  |none=>.bad
  |some none=>.ok () σ
  |some (some d)=>match tg d ρ with
   |none=>.bad
   |some ρ1=>bnd (nox (fi ρ1)) (fun c=>if c=true then bnd (nox (fe ρ1)) fun y=>bnd (zr8 (.ref n) [y]) fun _=>zq9 nx n tg fi fe k (i+1) ρ1 else zq9 nx n tg fi fe k (i+1) ρ1) σ
def yjb(tg:D->Ev->Option Ev)(fi:Ev->M Bool)(fe:Ev->M D)(ρ:Ev)(nx:NX):M D:=fun σ=>
 bnd (zq9 nx σ.length tg fi fe 1001 0 ρ) (fun _=>ret (.ref σ.length)) (σ++[.lst []])
def yih(src:Ev->M NX)(ix:List Nat)(tg:D->Ev->Option Ev)(fi:Ev->M Bool)(fe:Ev->M D):Ev->M D:=fun ρ=>bnd (src ρ) (yjb tg fi fe (zvl ix ρ))
section
variable{T:Tb}{X:Cx}
theorem zla{E:XK}{elt iter tgt:Expr}{ifs:List Expr}{scope:Scope}{pos:Pos}{x z0:Str}{M':List Str}{ix:List Nat}{tg:D->Ev->Option Ev}{fi:Ev->M Bool}{fe:Ev->M D}
  {pins:List (Addr × Obj)} {st:St} {H3:Hp} {s3:Shared} {h₁:Heap} {t':Nat} {m:Str->Option Value} {fp:List Addr} {it D0:Addr} {tn:Nat->Heap->Prop} {J:It} {nx:NX} {μ3:List Addr} {σ3:Sto} {ρ:Ev} {n:Nat} {Q:VK}
  (hc:X.calm=true) (L:LcOk X x M' ix scope)
  (htg:∀ cl C s₀ H₀ ex,FG T (blk X (x::z0::M') scope cl C s₀ H₀ ex) tgt tg)
  (hif:∀ cl C s₀ H₀ ex,FIf T (blk X (x::z0::M') scope cl C s₀ H₀ ex) ifs fi)
  (helt:∀ cl C s₀ H₀ ex,FE T (blk X (x::z0::M') scope cl C s₀ H₀ ex) elt fe)
  (I3:Inv X pins st H3 s3) (hfp:∀ b∈fp,yg0 X pins H3 b/\b<s3.heap.objs.size) (hns:h₁.Ns s3.heap.objs.size m) (kp:∀ b o,s3.heap.get? b=some o->h₁.get? b=some o)
  (TT:Turn X.prog X.w X.K tgt J fp it tn) (hst4:tn 0 h₁) (so:yhk T μ3 H3 nx J) (hE:ygw T μ3 H3 ρ st) (r3:Rel T μ3 H3 σ3) (hn:μ3[n]?=some D0)
  (p3:yhc T E (Rep T) μ3 H3 (bnd (zq9 nx n tg fi fe 1001 0 (zvl ix ρ)) (fun _=>ret (.ref n)) σ3) Q) {RR:Result->Shared->Prop}
  (fin:∀ (s6:Shared) (H':Hp) (m6:Str->Option Value),s6.heap.Ns s3.heap.objs.size m6->H' s3.heap.objs.size=none->Un (frs X.stack) fp H3 H' s3.heap s6.heap->s6.os=s3.os->HOk X.prog X.w H' s6.heap->AllBare s6.gens->Q (.ref D0) H'->RR (.ok .next) s6) :
  codeAny (model X.prog X.w) X.A (.compStart (.ListComp elt [⟨tgt,iter,ifs,0⟩] scope pos) 0 (.ref it) (.ref D0) (compEnvC scope (yh7 X.env scope.names []) s3.heap.objs.size X.env))
   RR { s3 with heap:=h₁,toks:=t' }:=by
 have I4:=zej (z0:=z0) (h':=h₁) (t':=t') I3 L hfp hns kp;let Y:Cx:=blk X (x::z0::M') scope (yh7 X.env scope.names []) s3.heap.objs.size s3 H3 fp;have stat:∀ {H':Hp},(∀ b∈fp,H' b=none)->∀ b∈fp,yg0 Y [] H' b:=fun {H'} hn b hb=>⟨hn b hb,(I4.ok.exf b hb).1,I4.ok.exfs b hb,.inl hb,(I4.ok.exf b hb).2,fun p hp=>absurd (show p∈([]:List (Addr × Obj))from hp) (by simp)⟩
 have yjc:codeAny (model X.prog X.w) X.A (.compLoop (.ListComp elt [⟨tgt,iter,ifs,0⟩] scope pos) 0 (.ref it) (.ref D0) Y.env) RR { s3 with heap:=h₁,toks:=t' }:=by
  refine codeAny_loop rfl (fun k s'=>∃ i μ' H' σ' ρ' st',Inv Y [] st' H' s'/\tn i s'.heap/\(∀ b∈fp,H' b=none)/\Ext μ3 H3 μ' H'/\ygw T μ' H' ρ' st'/\Rel T μ' H' σ'/\
   yhc T E (Rep T) μ' H' (bnd (zq9 nx n tg fi fe k i ρ') (fun _=>ret (.ref n)) σ') Q) ?_ 1001 ⟨0,μ3,H3,σ3,zvl ix ρ,zvn ix st,I4,hst4,fun b hb=>(hfp b hb).1.1,Ext.refl _ _,ziw ix hE,r3,p3⟩
  rintro k s' ⟨i,μ',H',σ',ρ',st',I',tn',fr',ex',hE',r',p'⟩;show wpAny _ X.A ((compTurn (.ListComp elt [⟨tgt,iter,ifs,0⟩] scope pos) 0 (.ref it) (.ref D0) Y.env).onRaise (fun x=>do noteFrame x Y.env;theTreesLotGoes x)) _ _ s';refine wpAny_noted ?_;rw[compTurn_list];refine wpAny_mono (E:=fun _ _=>False) ?_ (fun _ _ z=>z) (fun _ _ z=>z.elim);refine wpAny_bind (wpAny_standAt ?_);cases k with
  |zero=>exact p'.elim
  |succ k=>
   have so':=so μ' H' σ' i ex' r';cases en:nx i σ' with
   |none=>
    have e1:zq9 nx n tg fi fe (k+1) i ρ' σ'=.bad:=by unfold zq9;simp only[en]
    rw[zf6 (m':=bad) e1]at p';exact p'.elim
   |some od=>
    rw[en]at so';cases od with
    |none=>
     have e1:zq9 nx n tg fi fe (k+1) i ρ' σ'=.ok () σ':=by unfold zq9;simp only[en]
     rw[zf6 (m':=ret ()) e1]at p';refine wpAny_bind (thn (TT.done Y rfl rfl rfl hc i [] s' st' H' (fun _ _=>False) I' (stat fr') tn' so') fun r s6 ⟨er,I6⟩=>?_);subst er;refine wpAny_pure ?_;obtain⟨m6,hm6,_⟩:=I6.loc;exact fin s6 H' m6 hm6 I6.free I6.base I6.os I6.hok I6.bare (yhc.here p' r' (by rw[Rep];exact⟨_,rfl,ex'.get hn⟩))
    |some d=>
     refine wpAny_bind (thn (TT.item Y rfl rfl rfl hc i [] s' st' H' (fun _ _=>False) I' (stat fr') tn' so'.1) fun r s6 ⟨u,er,h6⟩=>?_);subst er;refine wpAny_bind (thn h6 fun _ s7 ⟨xv,H7,I7,r7,y7,tn7,fr7⟩=>?_);obtain⟨ex7,rr7,hd⟩:=so'.2 xv H7 y7;replace p':=yhc.mono ex7 p';replace hE':=hE'.mono ex7;replace ex':=ex'.trans ex7;replace r':=rr7;cases et:tg d ρ' with
     |none=>
      have e1:zq9 nx n tg fi fe (k+1) i ρ' σ'=.bad:=by unfold zq9;simp only[en,et]
      rw[zf6 (m':=bad) e1]at p';exact p'.elim
     |some ρ1=>
      have e1:zq9 nx n tg fi fe (k+1) i ρ' σ'=bnd (nox (fi ρ1)) (fun c=>if c=true then bnd (nox (fe ρ1)) fun y=>bnd (zr8 (.ref n) [y]) fun _=>zq9 nx n tg fi fe k (i+1) ρ1 else zq9 nx n tg fi fe k (i+1) ρ1) σ':=by
       conv=>lhs;unfold zq9
       simp only[en,et]
      rw[zf6 e1,zf5]at p';have I7':=I7.pinned (stat fr7) (TT.obj _ _ tn7);refine wpAny_bind (thn (htg _ _ _ _ _ _ s7 st' H7 xv u (fun st8 H8=>H8=H7/\ygw T μ' H7 ρ1 st8) I7' r7 ⟨μ',σ',ρ',d,ρ1,hE',r',hd,et,fun st8 hE8=>⟨rfl,hE8⟩⟩) fun _ s8 ⟨st8,H8,I8,eH8,hE8⟩=>?_);subst eH8;refine wpAny_bind (thn (hif _ _ _ _ _ _ s8 st8 H8 (fun c H9=>∃ μ9 σ9,Ext μ' H8 μ9 H9/\Rel T μ9 H9 σ9/\yhc T E (Rep T) μ9 H9 (bnd (if c=true then bnd (nox (fe ρ1)) fun y=>bnd (zr8 (.ref n) [y]) fun _=>zq9 nx n tg fi fe k (i+1) ρ1 else zq9 nx n tg fi fe k (i+1) ρ1) (fun _=>ret (.ref n)) σ9) Q) I8
       ⟨μ',ρ1,σ',hE8,r',p'.bind0 fun c σ9 μ9 c' H9 _ e9 r9 q9 p9=>by cases q9;exact⟨μ9,σ9,e9,r9,p9⟩⟩) fun c s9 ⟨H9,I9,μ9,σ9,e9,r9,p9⟩=>?_)
      have again:∀ {s11:Shared} {H11:Hp} {μ11:List Addr} {σ11:Sto},Inv Y ([]++yac fp s7.heap) st8 H11 s11->Ext μ' H8 μ11 H11->Rel T μ11 H11 σ11->yhc T E (Rep T) μ11 H11 (bnd (zq9 nx n tg fi fe k (i+1) ρ1) (fun _=>ret (.ref n)) σ11) Q->
        ∃ m,m<k+1/\∃ i μ' H' σ' ρ' st',Inv Y [] st' H' s11/\tn i s11.heap/\(∀ b∈fp,H' b=none)/\Ext μ3 H3 μ' H'/\ygw T μ' H' ρ' st'/\Rel T μ' H' σ'/\yhc T E (Rep T) μ' H' (bnd (zq9 nx n tg fi fe m i ρ') (fun _=>ret (.ref n)) σ') Q:=by
       intro s11 H11 μ11 σ11 I11 e11 r11 p11;refine⟨k,Nat.lt_succ_self _,i+1,μ11,H11,σ11,ρ1,st8,I11.unpinned,TT.keep _ _ _ tn7 (fun b hb o e=>(I11.pin (b,o) (List.mem_append_right _ (List.mem_append_right _ (ze5 hb e)))).1),fun b hb=>?_,ex'.trans e11,hE8.mono e11,r11,p11⟩;obtain⟨o,e,_⟩:=TT.obj _ _ tn7 b hb;exact(I11.pin (b,o) (List.mem_append_right _ (List.mem_append_right _ (ze5 hb e)))).2.1
      cases c with
      |false=>
       rw[if_neg Bool.false_ne_true]at p9;exact wpAny_pure ⟨rfl,again I9 e9 r9 p9⟩
      |true=>
       rw[if_pos rfl,zf5]at p9;refine wpAny_bind (wpAny_bind (thn (helt _ _ _ _ _ _ s9 st8 H9 (fun v H10=>∃ y μ10 σ10,Ext μ' H8 μ10 H10/\Rel T μ10 H10 σ10/\Rep T μ10 H10 y v/\yhc T E (Rep T) μ10 H10 (bnd (zr8 (.ref n) [y]) (fun _=>bnd (zq9 nx n tg fi fe k (i+1) ρ1) (fun _=>ret (.ref n))) σ10) Q) I9
        ⟨μ9,ρ1,σ9,hE8.mono e9,r9,p9.bind0 fun y σ10 μ10 v H10 _ e10 r10 q10 p10=>⟨y,μ10,σ10,e9.trans e10,r10,q10,by rw[zf5]at p10;exact p10⟩⟩) fun w s10 ⟨v,H10,I10,rw10,y,μ10,σ10,e10,r10,q10,p10⟩=>?_))
       have happ:=zn8 (Q:=fun _ H11=>∃ μ11 σ11,Ext μ' H8 μ11 H11/\Rel T μ11 H11 σ11/\yhc T E (Rep T) μ11 H11 (bnd (zq9 nx n tg fi fe k (i+1) ρ1) (fun _=>ret (.ref n)) σ11) Q) r10 ((ex'.trans e10).get hn) q10
        (p10.bind fun _ σ11 μ11 v11 H11 _ e11 r11 q11 p11=>⟨μ11,σ11,e10.trans e11,r11,p11⟩)
       refine wpAny_bind (thn (zhd (X:=Y) _ s10 st8 H10 (.ref D0) [v] (.ref D0) [w] _ I10 rfl (.cons rw10 .nil) happ) fun _ s11 ⟨v11,H11,I11,_,μ11,σ11,e11,r11,p11⟩=>?_);exact wpAny_pure (wpAny_pure ⟨rfl,again I11 e11 r11 p11⟩)
 exact codeAny_compStart_list yjc (TT.self X.A 0 _ _ _ hst4 yjc)
theorem zw4{elt iter tgt:Expr}{ifs:List Expr}{scope:Scope}{pos:Pos}{x z0:Str}{M':List Str}{ix:List Nat}{src:Ev->M NX}{tg:D->Ev->Option Ev}{fi:Ev->M Bool}{fe:Ev->M D}
  (hc:X.calm=true) (L:LcOk X x M' ix scope) (hsrc:FIN T X tgt iter src)
  (htg:∀ cl C s₀ H₀ ex,FG T (blk X (x::z0::M') scope cl C s₀ H₀ ex) tgt tg)
  (hif:∀ cl C s₀ H₀ ex,FIf T (blk X (x::z0::M') scope cl C s₀ H₀ ex) ifs fi)
  (helt:∀ cl C s₀ H₀ ex,FE T (blk X (x::z0::M') scope cl C s₀ H₀ ex) elt fe)
  (hs:∀ y,foldedSetIterable iter X.env y=pure y:=by intro _;rfl) :
  FE T X (.ListComp elt [⟨tgt,iter,ifs,0⟩] scope pos) (yih src ix tg fi fe):=by
 intro pins s st H Q I h;obtain⟨μ,ρ,σ,hE,hr,hp⟩:=h;rw[eval_ListComp];refine wpAny_comprehension_free (use:=none) rfl hs (zeo X.env scope (zoy I L)) L.kind (fun y hy e=>?_) ?_
 ·have q:=List.all_eq_true.mp L.names y hy;rw[e]at q;simp only[beq_self_eq_true,Bool.not_true,Bool.false_or]at q;exact eq_of_beq q
 have h1:=hsrc pins s st H (fun J H2=>∃ nx μ2 σ2,Ext μ H μ2 H2/\Rel T μ2 H2 σ2/\yhk T μ2 H2 nx J/\yhc T (XE X st) (Rep T) μ2 H2 (bnd (zq9 nx σ2.length tg fi fe 1001 0 (zvl ix ρ)) (fun _=>ret (.ref σ2.length)) (σ2++[Ob.lst []])) Q) I
  ⟨μ,ρ,σ,hE,hr,hp.bind fun nx σ1 μ1 J H1 _ e1 r1 q1 p1=>⟨nx,μ1,σ1,e1,r1,q1,p1⟩⟩
 refine thn h1 fun v s1 h2=>thn h2 fun itv s2 h3=>?_;obtain⟨it,fp,tn,J,H2,rfl,I2,TT,st2,f2,nx,μ2,σ2,ex2,r2,so,p2⟩:=h3;refine wpAny_newObj_type (wpAny_newFunctionEnv (zy2 L) (by intro y hy;simp at hy) (fun h₁ hns₁ hsb₁=>?_) L.kind);have I3:=I2.lnew (ys:=[]) (its:=[]) (t':=s2.toks) .nil (by simp);have fr2:H2 s2.heap.objs.size=none:=I2.hok.fresh (Nat.le_refl _);have r3:=r2.push (p:=s2.heap.objs.size) (o:=.lst []) (ob:=.lst []) fr2 ⟨[],znp,yhi.nil⟩;have ex3:Ext μ2 H2 (μ2++[s2.heap.objs.size]) (upd H2 s2.heap.objs.size (.lst [])):=zjw fr2;have hsz:s2.heap.objs.size<(s2.heap.push { cls:=.type "list",data:=.seq ([]:List Value).toArray }).objs.size:=by rw[Heap.size_push];exact Nat.lt_succ_self _
 have kp:∀ b o,(s2.heap.push { cls:=.type "list",data:=.seq ([]:List Value).toArray }).get? b=some o->h₁.get? b=some o:=fun b o e=>hsb₁.extBut b o (Nat.ne_of_lt (Heap.lt_size e)) (Heap.get?_push_of_some _ e);have hfp:∀ b∈fp,yg0 X pins (upd H2 s2.heap.objs.size (.lst [])) b/\b<(s2.heap.push { cls:=.type "list",data:=.seq ([]:List Value).toArray }).objs.size:=fun b hb=>by
  obtain⟨o,e,_⟩:=TT.obj 0 _ st2 b hb;have lt:=Heap.lt_size e;exact⟨⟨by rw[ybq (Nat.ne_of_lt lt)];exact(f2 b hb).1,(f2 b hb).2⟩,Nat.lt_trans lt hsz⟩
 refine zla (s3:={ s2 with heap:=s2.heap.push { cls:=.type "list",data:=.seq ([]:List Value).toArray },toks:=s2.toks }) (n:=σ2.length) (D0:=s2.heap.objs.size) hc L htg hif helt I3 hfp hns₁ kp TT (TT.keep 0 _ _ st2 fun b hb o e=>kp b o (Heap.get?_push_of_some _ e))
  (fun μ H σ i ex r=>so μ H σ i (ex3.trans ex) r) ((hE.mono ex2).mono ex3) r3 (by rw[<-r2.len];simp) (p2.mono ex3) (fun s6 H' m6 hm6 hC' hu0 hos hok6 hb6 hq=>⟨m6,hm6,fun h7 hs7=>?_⟩)
 have hu:=zu2 hu0 hs7 (Nat.le_refl _);have I7:=L2.Inv.call' (s':={ s6 with heap:=h7 }) (ch:=fp) I3 hos hu (zks hok6 hs7 hC') hb6 (fun b hb=>⟨(hfp b hb).1.2.2.2.1,(hfp b hb).1.2.1,(hfp b hb).1.2.2.2.2.1,(hfp b hb).1.2.2.2.2.2⟩);exact⟨.ref s2.heap.objs.size,H',I7,rfl,hq⟩
end
def yhn(K:PySem.W.Frag)(a:Addr)(ss:List Str):Prop:=∃ (o:Obj) (its:Array Value) (n:Nat),K.lookup a=some o/\o.cls=.type "tuple"/\o.data=.seq its n/\its.size<=sizeLine/\yho (ss.map V.str) its.toList
def GlT(K:PySem.W.Frag)(mg:Str->Option Value)(x:Str)(ss:List Str):Prop:=∃ a,mg x=some (.ref a)/\yhn K a ss
def ybd:List Value->List Str->Bool
 |[],[]=>true
 | .str y _::vs,x::ss=>(y == x) && ybd vs ss
 |_,_=>false
def ygi(K:PySem.W.Frag)(a:Addr)(ss:List Str):Bool:=match K.lookup a with
 |some o=>(o.cls == .type "tuple") && (match o.data with
  | .seq its _=>decide (its.size<=sizeLine) && ybd its.toList ss
  |_=>false)
 |none=>false
theorem zeg:∀ {vs:List Value} {ss:List Str},ybd vs ss=true->yho (ss.map V.str) vs
 |[],[],_=>.nil
 |[],_::_,h=>by simp[ybd]at h
 |v::vs,[],h=>by cases v<;>simp[ybd]at h
 |v::vs,x::ss,h=>by
  cases v with
  |str y t=>
   simp only[ybd,Bool.and_eq_true]at h;obtain rfl:=eq_of_beq h.1;exact .cons ⟨t,rfl⟩ (zeg h.2)
  |_=>simp[ybd]at h
theorem yhn.of{K:PySem.W.Frag}{a:Addr}{ss:List Str}(h:ygi K a ss=true):yhn K a ss:=by
 unfold ygi at h;cases e:K.lookup a with
 |none=>rw[e]at h;cases h
 |some o=>
  rw[e]at h;simp only[Bool.and_eq_true]at h;obtain⟨h1,h2⟩:=h;cases ed:o.data with
  |seq its n=>
   rw[ed]at h2;simp only[Bool.and_eq_true,decide_eq_true_eq]at h2;exact⟨o,its,n,e,eq_of_beq h1,ed,h2.1,zeg h2.2⟩
  |_=>rw[ed]at h2;cases h2
def yjv(neg:Bool)(ss:List Str)(x:D):M D:=fun σ=>match x with
 | .str z=>.ok (.bl (if neg then !inV (.str z) (ss.map V.str)else inV (.str z) (ss.map V.str))) σ
 |_=>.bad
section
variable{T:Tb}{X:Cx}{e:Expr}{f:Ev->M D}{x:Str}{p pos:Pos}{ss:List Str}
theorem zgm(ss:List Str):(ss.map V.str).all ydf=true:=by simp[ydf]
theorem zu1{a:Addr}(hT:yhn X.K a ss){neg:Bool}{st:St}{H:Hp}{Q:VK}(h:tF T X (eUn (yjv neg ss) f) st H Q):tOp (rIn X.K neg) (tF T X f) (tC (.ref a)) st H Q:=by
 obtain⟨μ,ρ,σ,hE,hr,hp⟩:=h;refine⟨μ,ρ,σ,hE,hr,hp.bind fun d σ1 μ1 v H1 _ e1 r1 q1 p1=>?_⟩;show rIn X.K neg v (.ref a) H1 Q;cases d with
 |str z=>rw[Rep]at q1;subst q1;exact⟨a,ss.map V.str,rfl,.inr (.inr hT),rfl,zgm ss,yhc.here p1 r1 (by rw[Rep])⟩
 |_=>exact p1.elim
theorem zxt(hg:Gl X x)(hG:GlT X.K X.mg x ss)(he:FE T X e f)(hd:(x == ("__debug__" : Str))=false:=by decide):FT T X (.Compare e [.In] [.Name x p] pos) (eT (eUn (yjv false ss) f)):=by
 obtain⟨a,hm,hT⟩:=hG;intro pins s st H Q I h;refine zs8 zhm he (zs0 hg hm (v:=.ref a) rfl hd) rfl pins s st H Q I ?_;refine zu1 hT ?_;obtain⟨μ,ρ,σ,he,hr,hp⟩:=h;refine⟨μ,ρ,σ,he,hr,hp.bind fun d σ1 μ1 v H1 _ e1 r1 p1 q1=>?_⟩;obtain⟨k,ev,q⟩:=zu0 p1 q1;exact⟨k,ev,q.here r1 rfl⟩
def ye0(x:D)(xs:List D):M D:=fun σ=>match xs with
 |[y]=>(match yi7 y with
  |some k=>(match yib σ x with
   |some kvs=>.ok ((ydc kvs k).getD .non) σ
   |none=>.bad)
  |none=>.bad)
 |_=>.bad
end
section
variable{T:Tb}{X:Cx}
end
theorem mkT{K:PySem.W.Frag}{mg:Str->Option Value}{h:Heap}{x:Str}{C:Addr}{ss:List Str}(X:K.In h)(G:h.Ns mainGlobals mg)(a:PySem.W.nsIn K mainGlobals x=some (some (.ref C)))(b:ygi K C ss=true):GlT K mg x ss:=⟨C,PySem.W.mg_of X G a,yhn.of b⟩
section
variable{T:Tb}{X:Cx}
end
section
variable{T:Tb}{X:Cx}
def ybu(i j:Int):Prop:=0<j/\j<2 ^ 60
theorem zma:OpR X (binaryOp .FloorDiv) (rI ybu fun i j=>.int (i / j)):=opI fun i j _ _ _ _ _ hc q=>by
 have h1:(0:Int)<j:=hc.1;have h2:j<2 ^ 60:=hc.2;refine floordiv_int (by omega) (by rw[Int.fdiv_eq_ediv_of_nonneg i (by omega)];exact q) (.inl (PyProof.noPylong_of_log2 ?_));have h0:j.natAbs≠0:=by omega
 have:j.natAbs.log2<60:=(Nat.log2_lt h0).mpr (by omega);omega
noncomputable def ycl(_ j:Int):Bool:=hide (decide (0<j) && decide (j<2 ^ 60))
noncomputable abbrev yez:=oIC ycl (fun i j=>i / j)
theorem zm7:yb8 T (rI ybu fun i j=>.int (i / j)) yez:=ya5 fun i j h=>by
 simp only[ycl,zqo,Bool.and_eq_true,decide_eq_true_eq]at h;exact h
theorem zl1(i j:Int)(h:0<j)(h2:j<2 ^ 60)(σ:Sto):yez (.int i) (.int j) σ=.ok (.int (i / j)) σ:=zy8 (by simp only[ycl,zqo,Bool.and_eq_true,decide_eq_true_eq];exact⟨h,h2⟩)
def ye3(xs:List D):M D:=fun σ=>match xs with
 |[x]=>(match yib σ x with
  |some kvs=>.ok (.int kvs.length) σ
  |none=>.bad)
 |_=>.bad
end
section
variable{prog:Program}{w:World}{A:Around}{E:Value->Shared->Prop}{l q I S:Addr}{n:Nat}{P:Nat->Value->Prop}{R:Result->Shared->Prop}{Q:Value->Shared->Prop}
theorem zhc(G:Nat->Value->Int->Shared->Prop)(hh:A.handled=none)(hlI:l≠I)(hSI:S≠I)(hlS:l≠S)
  (hl:∀ j vb kb s,G j vb kb s->∃ vs:List Value,vs.length=n/\(∀ (j:Nat) v,vs[j]?=some v->P j v)/\s.heap.IsList l vs.toArray)
  (hmv:∀ j vb kb s h' tk,G j vb kb s->(∀ b o,b≠I->b≠S->s.heap.get? b=some o->h'.get? b=some o)->G j vb kb { s with heap:=h',toks:=tk })
  (turn:∀ j vb kb s v oI oS,G j vb kb s->P j v->s.heap.get? I=some oI->s.heap.get? S=some oS->(∀ v,oI.data≠.cell v)->(∀ v,oS.data≠.cell v)->
   wpAny (model prog w) A.in1 (call (.ref q) [v]) (fun x s'=>∃ k t,x=.int k t/\s'.heap.get? I=some oI/\s'.heap.get? S=some oS/\G (j+1) (if k<kb then v else vb) (if k<kb then k else kb) s') (fun _ _=>False) s)
  (hR:∀ vb kb s,G n vb kb s->R (.ok (.ret vb)) s) :
  ∀ (r j:Nat) (s:Shared) (vb:Value) (kb:Int) (tb:Tok) (c:Nat),n - j=r->j<=n->G j vb kb s->s.heap.get? S=some (seqObj "list" #[vb,.int kb tb] c)->s.heap.IsListIter I l j->
   codeAny (model prog w) A (.builtin "min.loop" ⟨[.ref I,.ref q,.ref S],[]⟩) R s:=by
 have hname:(toString "min"++toString ".loop" : String) = "min.loop":=by decide
 intro r;induction r with
 |zero=>
  intro j s vb kb tb c hr hj g hS hit;have hin:j=n:=by omega
  obtain⟨vs,hvn,hvP,hli⟩:=hl j vb kb s g;have W:=Walks.list (prog:=prog) (w:=w) (A:=A.in1) hh I l hlI vs.toArray;have hsz:vs.toArray.size=n:=(List.size_toArray ..).trans hvn;refine codeAny_builtin PySem.F.entry_min_loop ?_;rw[Around.under_plainId PySem.F.plain_min_loop _];show wpAny _ A.in1 (seqItems? (.ref S) >>= _) _ _ _;refine wpAny_bind (wpAny_seqItems hS rfl ?_);show wpAny _ A.in1 (tryCatch (pyNext (.ref I)) _ >>= _) _ _ _;refine wpAny_bind (wpAny_tryCatch (W.done _ _ _ ⟨by rw[hsz,<-hin];exact hit,hli⟩ fun h' tk' hk'=>?_));have hk2:∀ b o,b≠I->s.heap.get? b=some o->h'.get? b=some o:=fun b o n e=>hk' b o (by simpa using n) e;have hS':=hk2 S _ hSI hS;have s1:=Heap.SameBut.update h' S (Obj.mapSeq fun _=>(#[]:Array Value));show wpAny _ A.in1 (updateSeq S (fun _=>#[]) >>= _) _ _ _;refine wpAny_bind ?_;refine wpAny_updateSeq hS' rfl (wpAny_bind (wpAny_letGo (wpAny_pure ?_)));subst hin;exact hR vb kb _ (hmv _ _ _ s _ _ g fun b o n1 n2 e=>by rw[s1.2 b n2];exact hk2 b o n1 e)
 |succ r ih=>
  intro j s vb kb tb c hr hj g hS hit;have hlt:j<n:=by omega
  obtain⟨vs,hvn,hvP,hli⟩:=hl j vb kb s g;have W:=Walks.list (prog:=prog) (w:=w) (A:=A.in1) hh I l hlI vs.toArray;have hsz:vs.toArray.size=n:=(List.size_toArray ..).trans hvn;refine codeAny_builtin PySem.F.entry_min_loop ?_;rw[Around.under_plainId PySem.F.plain_min_loop _];show wpAny _ A.in1 (seqItems? (.ref S) >>= _) _ _ _;refine wpAny_bind (wpAny_seqItems hS rfl ?_);show wpAny _ A.in1 (tryCatch (pyNext (.ref I)) _ >>= _) _ _ _;refine wpAny_bind (wpAny_tryCatch (W.item j _ _ _ (by rw[hsz];exact hlt) ⟨hit,hli⟩ fun v h' tk' hP hst' hk'=>?_));have hk2:∀ b o,b≠I->s.heap.get? b=some o->h'.get? b=some o:=fun b o n e=>hk' b o (by simpa using n) e;have hv:P j v:=hvP j v (by simpa using hP);obtain⟨oI',hoI',hoc,hod⟩:=id hst'.1;have g1:=hmv _ _ _ s h' tk' g fun b o n1 n2 e=>hk2 b o n1 e;have hS':=hk2 S _ hSI hS;show wpAny _ A.in1 (tryCatch (holding [v] (call (.ref q) [v])) _ >>= _) _ _ _;refine wpAny_bind (wpAny_tryCatch (wpAny_holding (wpAny_mono (turn j vb kb _ v oI' _ g1 hv hoI' hS' (fun v z=>by rw[hod]at z;cases z) (fun v z=>by cases z)) (fun x s'' he=>?_) fun _ _ hF=>hF.elim)));obtain⟨k2,t2,rfl,hI2,hS2,g2⟩:=he;have hit2:s''.heap.IsListIter I l (j+1):=⟨oI',hI2,hoc,hod⟩
  show wpAny _ A.in1 (tryCatch (holding [v,.int k2 t2] (richCompare .Lt (.int k2 t2) (.int kb tb) >>= _)) _ >>= _) _ _ _;refine wpAny_bind (wpAny_tryCatch (wpAny_holding (wpAny_bind (CmpOf.ints_lt (prog:=prog) (w:=w) (A:=A.in1) (P:=fun(i:Nat) v=>∃ t,v=.int (if i=0 then k2 else kb) t) (fun i=>if i=0 then k2 else kb) (fun i v h=>h) 0 1 _ _ _ _ _ ⟨t2,rfl⟩ ⟨tb,rfl⟩ ?_))));refine wpAny_bind (wpAny_holding (wpAny_truthy_bool ?_));refine wpAny_bind (wpAny_letGo (wpAny_pure ?_));show wpAny _ _ _ _ _ _;by_cases hb':k2<kb
  ·have s1:=Heap.SameBut.update s''.heap S (Obj.mapSeq fun _=>#[v,.int k2 t2]);obtain⟨c2,hc2⟩:∃ c2,(s''.heap.update S (Obj.mapSeq fun _=>#[v,.int k2 t2])).get? S=some (seqObj "list" #[v,.int k2 t2] c2):=⟨_,get?_update_seq hS2 fun _=>#[v,.int k2 t2]⟩
   rw[if_pos hb',if_pos hb']at g2;simp only[hb',decide_true,if_true,Nat.one_ne_zero,if_false];refine wpAny_bind ?_;refine wpAny_updateSeq hS2 rfl (wpAny_bind (wpAny_letGo ?_));rw[hname];refine wpAny_pure ⟨plainId_quiet PySem.F.plain_min_loop _,ih (j+1) _ v k2 t2 c2 (by omega) hlt (hmv _ _ _ s'' _ _ g2 fun b o n1 n2 e=>by rw[s1.2 b n2];exact e) hc2 ⟨oI',(s1.2 I hSI.symm).trans hI2,hoc,hod⟩⟩
  ·rw[if_neg hb',if_neg hb']at g2;simp only[hb',decide_false,Bool.false_eq_true,if_false,if_true,Nat.one_ne_zero];refine wpAny_bind (wpAny_letGo ?_);rw[hname];exact wpAny_pure ⟨plainId_quiet PySem.F.plain_min_loop _,ih (j+1) _ vb kb tb c (by omega) hlt (hmv _ _ _ s'' _ _ g2 fun b o _ _ e=>e) hS2 hit2⟩
theorem zlr(G0:Shared->Prop)(G:Addr->Addr->Nat->Value->Int->Shared->Prop){s:Shared}(hh:A.handled=none)(g0:G0 s){vs:List Value}(hvn:vs.length=n)(hvP:∀ (j:Nat) v,vs[j]?=some v->P j v)(hls:s.heap.IsList l vs.toArray)(hne:0<n)
  (hG0:∀ s h' tk,G0 s->(∀ b o,s.heap.get? b=some o->h'.get? b=some o)->G0 { s with heap:=h',toks:=tk })
  (first:∀ (I S:Addr) (s1:Shared) v oI oS,s.heap.objs.size<=I->s.heap.objs.size<=S->S≠I->(∃ s0,G0 s0/\(∀ b o,b≠I->s0.heap.get? b=some o->s1.heap.get? b=some o)/\(s1={ s0 with heap:=s1.heap,toks:=s1.toks }))->P 0 v->s1.heap.get? I=some oI->s1.heap.get? S=some oS->(∀ v,oI.data≠.cell v)->(∀ v,oS.data≠.cell v)->
   wpAny (model prog w) A.in1 (call (.ref q) [v]) (fun x s'=>∃ k t,x=.int k t/\s'.heap.get? I=some oI/\s'.heap.get? S=some oS/\G I S 1 v k s') (fun _ _=>False) s1)
  (hl:∀ I S j vb kb s,G I S j vb kb s->∃ vs:List Value,vs.length=n/\(∀ (j:Nat) v,vs[j]?=some v->P j v)/\s.heap.IsList l vs.toArray)
  (hmv:∀ I S j vb kb s h' tk,G I S j vb kb s->(∀ b o,b≠I->b≠S->s.heap.get? b=some o->h'.get? b=some o)->G I S j vb kb { s with heap:=h',toks:=tk })
  (turn:∀ I S j vb kb s v oI oS,G I S j vb kb s->P j v->s.heap.get? I=some oI->s.heap.get? S=some oS->(∀ v,oI.data≠.cell v)->(∀ v,oS.data≠.cell v)->
   wpAny (model prog w) A.in1 (call (.ref q) [v]) (fun x s'=>∃ k t,x=.int k t/\s'.heap.get? I=some oI/\s'.heap.get? S=some oS/\G I S (j+1) (if k<kb then v else vb) (if k<kb then k else kb) s') (fun _ _=>False) s)
  (hQ:∀ I S vb kb s,G I S n vb kb s->Q vb s) :
  wpAny (model prog w) A (call (.builtin "min") [.ref l] [(Str.ofString "key",.ref q)]) Q E s:=by
 have hname:(toString "min"++toString ".loop" : String) = "min.loop":=by decide
 obtain⟨ol,hol,_⟩:=id hls;have hll:l<s.heap.objs.size:=Heap.lt_size hol;refine kmk_tree PySem.F.kind_min PySem.F.plain_min PySem.F.entry_min (kmk_min_key _ _) ?_;show wpAny _ A.in1 (Builtin.Builtins.bindParams "min" ["key", "default"] 0 ⟨[],[(Str.ofString "key",.ref q)]⟩ >>= _) _ _ s;refine wpAny_bind (wpAny_of_eq (show Builtin.Builtins.bindParams "min" ["key", "default"] 0 ⟨[],[(Str.ofString "key",.ref q)]⟩=pure [some (.ref q),none]from rfl) ?_);refine wpAny_bind (wpAny_pure ?_);refine wpAny_bind (wpAny_pyIter_list hls ?_);refine wpAny_bind (wpAny_newList ?_ (Nat.zero_le _));rw[hname];have hS:(s.heap.push { cls:=.type "list_iterator",data:=.fields #[.ref l,.int 0 0] }).objs.size=s.heap.objs.size+1:=size_push' ..;have hlI:l≠s.heap.objs.size:=Nat.ne_of_lt hll;have hSI:(s.heap.push { cls:=.type "list_iterator",data:=.fields #[.ref l,.int 0 0] }).objs.size≠s.heap.objs.size:=by rw[hS];exact Nat.ne_of_gt (Nat.lt_succ_self _)
 have hlS:l≠(s.heap.push { cls:=.type "list_iterator",data:=.fields #[.ref l,.int 0 0] }).objs.size:=by rw[hS];exact Nat.ne_of_lt (Nat.lt_succ_of_lt hll)
 have hSge:s.heap.objs.size<=(s.heap.push { cls:=.type "list_iterator",data:=.fields #[.ref l,.int 0 0] }).objs.size:=by rw[hS];exact Nat.le_succ _
 refine wpAny_pure ⟨plainId_quiet PySem.F.plain_min_loop _,?_⟩;have gI:((s.heap.push { cls:=.type "list_iterator",data:=.fields #[.ref l,.int 0 0] }).push (seqObj "list" #[] 0)).get? s.heap.objs.size=some { cls:=.type "list_iterator",data:=.fields #[.ref l,.int 0 0] }:=
  Heap.get?_push_of_some _ (Heap.get?_push_size _ rfl)
 have gS:((s.heap.push { cls:=.type "list_iterator",data:=.fields #[.ref l,.int 0 0] }).push (seqObj "list" #[] 0)).get? (s.heap.push { cls:=.type "list_iterator",data:=.fields #[.ref l,.int 0 0] }).objs.size=some (seqObj "list" #[] 0):=Heap.get?_push_size _ rfl;have hkk:∀ b o,s.heap.get? b=some o->((s.heap.push { cls:=.type "list_iterator",data:=.fields #[.ref l,.int 0 0] }).push (seqObj "list" #[] 0)).get? b=some o:=fun b o e=>Heap.get?_push_of_some _ (Heap.get?_push_of_some _ e);generalize (s.heap.push { cls:=.type "list_iterator",data:=.fields #[.ref l,.int 0 0] }).objs.size=S at *;generalize ((s.heap.push { cls:=.type "list_iterator",data:=.fields #[.ref l,.int 0 0] }).push (seqObj "list" #[] 0))=hp at *;have W:=Walks.list (prog:=prog) (w:=w) (A:=A.in1) hh s.heap.objs.size l hlI vs.toArray;have hsz:vs.toArray.size=n:=(List.size_toArray ..).trans hvn;refine codeAny_builtin PySem.F.entry_min_loop ?_;rw[Around.under_plainId PySem.F.plain_min_loop _];show wpAny _ A.in1 (seqItems? (.ref _) >>= _) _ _ _;refine wpAny_bind (wpAny_seqItems gS rfl ?_);show wpAny _ A.in1 (tryCatch (pyNext (.ref s.heap.objs.size)) _ >>= _) _ _ _;refine wpAny_bind (wpAny_tryCatch (W.item 0 _ _ _ (by rw[hsz];exact hne) ⟨⟨_,gI,rfl,rfl⟩,hls.at fun o e=>hkk _ _ e⟩ fun v h' tk' hP hst' hk'=>?_));have hk2:∀ b o,b≠s.heap.objs.size->hp.get? b=some o->h'.get? b=some o:=fun b o n e=>hk' b o (by simpa using n) e;have hv:P 0 v:=hvP 0 v (by simpa using hP);obtain⟨oI',hoI',hoc,hod⟩:=id hst'.1;have hS':=hk2 S _ hSI gS;show wpAny _ A.in1 (tryCatch (holding [v] (call (.ref q) [v])) _ >>= _) _ _ _;refine wpAny_bind (wpAny_tryCatch (wpAny_holding (wpAny_mono (first s.heap.objs.size S _ v oI' _ (Nat.le_refl _) hSge hSI ⟨{ s with heap:=hp,toks:=s.toks },hG0 s hp _ g0 hkk,fun b o n e=>hk2 b o n e,rfl⟩ hv hoI' hS' (fun v z=>by rw[hod]at z;cases z) (fun v z=>by cases z)) (fun x s'' he=>?_) fun _ _ hF=>hF.elim)));obtain⟨k2,t2,rfl,hI2,hS2,g2⟩:=he;have s1:=Heap.SameBut.update s''.heap S (Obj.mapSeq fun _=>#[v,.int k2 t2]);obtain⟨c2,hc2⟩:∃ c2,(s''.heap.update S (Obj.mapSeq fun _=>#[v,.int k2 t2])).get? S=some (seqObj "list" #[v,.int k2 t2] c2):=⟨_,get?_update_seq hS2 fun _=>#[v,.int k2 t2]⟩
 show wpAny _ A.in1 (updateSeq S (fun _=>#[v,.int k2 t2]) >>= _) _ _ _;refine wpAny_bind ?_;refine wpAny_updateSeq hS2 rfl ?_;rw[hname];exact wpAny_pure ⟨plainId_quiet PySem.F.plain_min_loop _,zhc (G _ _) hh hlI hSI hlS (hl _ _) (hmv _ _) (turn _ _) (fun vb kb s g=>hQ _ _ vb kb s g) _ 1 _ v k2 t2 c2 rfl hne (hmv _ _ _ _ _ s'' _ _ g2 fun b o n1 n2 e=>by rw[s1.2 b n2];exact e) hc2 ⟨oI',(s1.2 _ hSI.symm).trans hI2,hoc,hod⟩⟩
end
def ycs(X:Cx)(A:Around)(N':List Str)(qual:Str)(scope:Scope)(q:Addr)(cd:Value)(cl:List (Str × Addr))(s₀:Shared)(H₀:Hp):Cx:=
 { X with A:=A.deeper (PySem.W.envX qual scope s₀.heap.objs.size q cd cl),N:=N',s₀:=s₀,H₀:=H₀,env:=PySem.W.envX qual scope s₀.heap.objs.size q cd cl,outer:=X.stack,stack:=PySem.W.envX qual scope s₀.heap.objs.size q cd cl::X.stack,ex:=[],fn:=fun _=>false,calm:=true,pn:=[],xe:=fun _ _=>False }
def yd8(ix:List Nat)(d:D)(ρ:Ev):Ev:=some d::ix.map fun i=>(ρ[i]?).getD none
def yd9(ix:List Nat)(v:V)(st:St):St:=some v::ix.map fun i=>(st[i]?).getD none
theorem zq6{T:Tb}{μ:List Addr}{H:Hp}{ρ:Ev}{st:St}{d:D}{v:V}(ix:List Nat)(h:ygw T μ H ρ st)(hd:Rep T μ H d v):ygw T μ H (yd8 ix d ρ) (yd9 ix v st):=by
 have z:=(zok ix h).set 0 hd;exact z
section
variable{X:Cx}{pins:List (Addr × Obj)}{st:St}{H:Hp}{s:Shared}{x:Str}{M':List Str}{ix:List Nat}{scope:Scope}{A:Around}{qual:Str}{q:Addr}{cd:Value}{v:V}{u:Value}
theorem zg0(I:Inv X pins st H s)(L:LcOk X x M' ix scope)(hx:scope.names.lookup x=some .local)(hA:A.frames=some X.stack)(hhd:A.handled=none)(rv:yhf v u){h':Heap}{t':Nat}{m:Str->Option Value}(hns:h'.Ns s.heap.objs.size m)(hm:m x=some u)
  (hk:∀ b o,s.heap.get? b=some o->h'.get? b=some o) :
  Inv (ycs X A (x::M') qual scope q cd (yh7 X.env scope.names []) s H) [] (yd9 ix v st) H { s with heap:=h',toks:=t' }:=by
 have sub:∀ n c,(yh7 X.env scope.names []).lookup n=some c->X.env.cells.lookup n=some c:=fun n c e=>zv4 X.env scope.names [] n c (fun _ _ q=>by simp at q) e;have fresh:H s.heap.objs.size=none:=I.hok.fresh (Nat.le_refl _);have noA:∀ b:Addr,b ∉ (ycs X A (x::M') qual scope q cd (yh7 X.env scope.names []) s H).ex:=fun b z=>absurd (show b∈([]:List Addr)from z) (by simp);refine⟨⟨I.ok.mod,L.kind,rfl,rfl,Nat.le_refl _,fun a b c h1 h2=>I.ok.inj a b c (sub a c h1) (sub b c h2),fun a ha=>?_,fun a c h=>(by cases h),fun _=>hhd,Around.frames_deeper hA,.inr ⟨rfl,rfl⟩,fun b hb=>absurd hb (noA b),fun b o e=>I.bs b o e,Nat.le_trans I.ok.bsz I.sz,fun b o e=>noA b,fun b hb=>absurd hb (noA b),I.stack,I.stkFree⟩,
  rfl,I.bare,Un.kept hk,⟨m,hns,fun i y v' e1 e2 e3=>?_⟩,fun a c e=>?_,fresh,fun a c e=>I.freeC a c (sub a c e),fun p hp=>absurd (show p∈([]:List (Addr × Obj))from hp) (by simp),I.hok.kept hk,?_⟩
 ·have ha':scope.names.lookup a=some .cell\/scope.names.lookup a=some .free:=ha;rcases ha' with z|z
  ·exact absurd rfl (zy2 L _ (zha z))
  ·exact zvy X.env scope.names [] a (zha z) (zoy I L _ (zha z) rfl)
 ·cases i with
  |zero=>
   have e1':some x=some y:=e1;have e2':some (some v)=some (some v'):=e2;cases e1';cases e2';exact⟨u,rv,.inl ⟨hx,hm⟩⟩
  |succ j=>
   have e1':M'[j]?=some y:=e1;have e2':(ix.map fun i=>(st[i]?).getD none)[j]?=some (some v'):=e2;rw[List.getElem?_map]at e2';cases ej:ix[j]? with
   |none=>rw[ej]at e2';cases e2'
   |some i0=>
    rw[ej]at e2';have e4:(st[i0]?).getD none=some v':=Option.some.inj e2';have e5:st[i0]?=some (some v'):=by
     cases q:st[i0]? with
     |none=>rw[q]at e4;cases e4
     |some o=>rw[q]at e4;exact congrArg some e4
    have e6:X.N[i0]?=some y:=by
     have z:=congrArg (fun l=>l[j]?) L.at_;simp only[List.getElem?_map,ej,e1',Option.map_some]at z;exact Option.some.inj z
    have q:=List.all_eq_true.mp L.vis y (List.mem_of_getElem? e1');simp only[Bool.and_eq_true,Bool.or_eq_true]at q;have kx:X.env.scope.names.lookup y=some .cell\/X.env.scope.names.lookup y=some .free:=by
     rcases q.1 with z|z
     ·exact .inl (eq_of_beq z)
     ·exact .inr (eq_of_beq z)
    have ky:scope.names.lookup y=some .free:=eq_of_beq q.2;obtain⟨m0,hn0,hl0⟩:=I.loc;obtain⟨u2,ru,lu⟩:=hl0 i0 y v' e6 e5 (by rcases kx with z|z;exact .inr (.inl z);exact .inr (.inr z));refine⟨u2,ru,.inr ⟨.inr ky,?_⟩⟩;rcases lu with⟨z,_⟩|⟨_,c,ec,zc⟩
    ·rcases kx with k|k
     ·rw[show X.env.kindOf y=X.env.scope.names.lookup y from rfl,k]at z;cases z
     ·rw[show X.env.kindOf y=X.env.scope.names.lookup y from rfl,k]at z;cases z
    ·obtain⟨c',hc'⟩:=zvy X.env scope.names [] y (zha ky) (zoy I L _ (zha ky) rfl);have e7:=sub y c' hc';rw[ec]at e7;cases e7;obtain⟨o,ho,hd⟩:=zc;exact⟨c,hc',o,hk _ _ ho,hd⟩
 ·obtain⟨v,o,ho,hd⟩:=I.cell a c (sub a c e);exact⟨v,o,hk _ _ ho,hd⟩
 ·have z:=congrArg List.length L.at_;simp[yd9,ycs];simpa using z
theorem zk4{name:Str}{params:Arguments}{body:Expr}{pm ctv:Value}{c':Addr}{t:TE}{Q:VK}(I:Inv X pins st H s)(L:LcOk X x M' ix scope)(hx:scope.names.lookup x=some .local)(hA:A.frames=some X.stack)(hhd:A.handled=none)(hdp:A.depth<recursionLimit)
  (ho:s.heap.get? q=some (PySem.W.kla_obj name qual params body scope (yh7 X.env scope.names []) pm c' ctv)) (hcd:s.heap.CodeRec (.ref c') qual)
  (hbind:bindArgs (PySem.W.kla_fn name qual params body scope (yh7 X.env scope.names []) pm (.ref c') ctv) ⟨[u],[]⟩=pure [(x,u)]) (hco:scope.isCoroutine=false) (hgen:scope.isGenerator=false) (rv:yhf v u)
  (hb:PE (ycs X A (x::M') qual scope q (.ref c') (yh7 X.env scope.names []) s H) body t) (ht:t (yd9 ix v st) H Q) :
  wpAny (model X.prog X.w) A (call (.ref q) [u]) (fun r s'=>CE X.stack X.prog X.w H s Q r s') (fun _ _=>False) s:=by
 refine wpAny_call (PySem.W.kla_callFunE (o:=PySem.W.kla_obj name qual params body scope (yh7 X.env scope.names []) pm c' ctv) hdp ho rfl hco hgen rfl hcd ?_);rw[hbind];refine wpAny_pure (wpAny_newFunctionEnv (zy2 L) (fun y hy=>?_) (fun h₁ hns hsb=>⟨?_,?_⟩) L.kind)
 ·have e:y=(x,u):=by simpa using hy
  subst e;exact hx
 ·exact(I.nolimit).fresh _ hsb
 ·have hk₁:∀ b o,s.heap.get? b=some o->h₁.get? b=some o:=fun b o e=>hsb.extBut b o (Nat.ne_of_lt (Heap.lt_size e)) (Heap.get?_push_of_some _ e);show codeAny _ _ (.expr body (PySem.W.envX qual scope s.heap.objs.size q (.ref c') (yh7 X.env scope.names []))) _ _;refine PySem.W.kla_codeExpr ?_;have IY:=zg0 (A:=A) (qual:=qual) (q:=q) (cd:=.ref c') (t':=s.toks+1) I L hx hA hhd rv hns (by simp) hk₁;refine wpAny_mono (hb [] _ (yd9 ix v st) H Q IY ht) (fun u' s' z=>?_) fun _ _ z=>z.elim;obtain⟨v',H',J,rv',hq⟩:=z;exact⟨v',H',J.os,J.bare,J.base,J.hok,rv',hq⟩
end
def yiz(K:PySem.W.Frag)(c P:Addr):Bool:=match K.lookup c with
 |some o=>(match o.cls,o.data with
  | .type n,.fields vs=>n == "code" && (match (vs[11]?:Option Value)with|some (.ref p)=>p == P|_=>false) && (match vs.getD 11 .none with | .ref p=>p == P|_=>false) && (match vs.getD 18 .none with | .str _ _=>true|_=>false) &&
   (match vs.getD 7 .none with | .int _ _=>true|_=>false) && (match vs.getD 9 .none with | .bool _=>true|_=>false) && (match vs.getD 10 .none with | .int _ _=>true|_=>false) && (c != P)
  |_,_=>false)
 |none=>false
theorem ydu{K:PySem.W.Frag}{h:Heap}{c P:Addr}(X:K.In h)(e:yiz K c P=true):PySem.W.CodeHd h c P:=by
 unfold yiz at e;split at e
 ·next o ho=>
  split at e
  ·next n vs hc hd=>
   simp only[Bool.and_eq_true]at e;obtain⟨⟨⟨⟨⟨⟨⟨e1,e2⟩,e3⟩,e4⟩,e5⟩,e6⟩,e7⟩,e8⟩:=e;split at e2;case h_2=>cases e2
   next p2 h2=>
   split at e3;case h_2=>cases e3
   next p3 h3=>
   split at e4;case h_2=>cases e4
   next s4 t4 h4=>
   split at e5;case h_2=>cases e5
   next s5 t5 h5=>
   split at e6;case h_2=>cases e6
   next s6 h6=>
   split at e7;case h_2=>cases e7
   next s7 t7 h7=>
   have q2:=eq_of_beq e2;have q3:=eq_of_beq e3;subst q2;subst q3;have q1:=eq_of_beq e1;subst q1;exact⟨o,vs,s4,t4,s5,t5,s6,s7,t7,X _ _ ho,hc,hd,h2,h3,h4,h5,h6,h7,by simpa using e8⟩
  ·cases e
 ·cases e
theorem zqx{X:Cx}{pins:List (Addr × Obj)}{st:St}{H:Hp}{s:Shared}{P c':Addr}{ps more:Array Value}{qual:Str}{h':Heap}{tk:Nat}(I:Inv X pins st H s)(hP:H P=some (.tbl ps))(hx:Heap.ExtBut P s.heap h')(hge:s.heap.objs.size<=c')(hlt:c'<h'.objs.size)
  (hrec:zu9 qual c' h') (htb:h'.get? P=some (PySem.W.tabObj (ps++more))) :
  Inv X pins st (upd (upd H P (.tbl (ps++more))) c' (.ext (zu9 qual c'))) { s with heap:=h',toks:=tk }:=by
 have hc0:H c'=none:=I.hok.fresh hge;have ncP:c'≠P:=fun z=>by rw[z,hP]at hc0;cases hc0
 have nP:∀ b,H b=none->b≠P:=fun b n z=>by rw[z,hP]at n;cases n
 have up:∀ b u,H b=some u->b≠P->upd (upd H P (.tbl (ps++more))) c' (.ext (zu9 qual c')) b=some u:=fun b u e n=>by
  rw[ybq (ze6 e hc0),ybq n];exact e
 have uP:upd (upd H P (.tbl (ps++more))) c' (.ext (zu9 qual c')) P=some (.tbl (ps++more)):=by rw[ybq ncP.symm,znp]
 refine I.un (h':=h') (t':=tk) ⟨fun b o e n _ _=>hx b o (nP b n) e,fun b o e n _ _=>⟨o.slots,hx b o (nP b n) e⟩,fun b o e n _=>?_,fun b o e _=>?_,fun b xs e=>up b _ e (fun z=>by rw[z,hP]at e;cases e),fun b o u e=>up b _ e (fun z=>by rw[z,hP]at e;cases e),fun b qs e=>?_⟩ fun b u e=>?_
 ·have:b≠c':=fun z=>by subst z;exact absurd (Heap.lt_size e) (Nat.not_lt.mpr hge)
  rw[ybq this,ybq (nP b n)];exact n
 ·by_cases hb:b=P
  ·subst hb;exact⟨_,htb⟩
  ·exact⟨o,hx b o hb e⟩
 ·by_cases hb:b=P
  ·subst hb;rw[hP]at e;cases e;exact⟨more,uP⟩
  ·exact⟨#[],by rw[Array.append_empty];exact up b _ e hb⟩
 ·by_cases hbc:b=c'
  ·subst hbc;rw[znp]at e;cases e;obtain⟨o,vs,t,h1,h2,h3⟩:=hrec;exact⟨⟨o,vs,t,h1,h2,h3⟩,⟨o,h1⟩,fun a1 a2 ⟨o',vs',t',e1,e2,e3⟩ k=>⟨o',vs',t',k _ e1,e2,e3⟩⟩
  ·rw[ybq hbc]at e;by_cases hb:b=P
   ·subst hb;rw[znp]at e;cases e;exact htb
   ·rw[ybq hb]at e;refine(I.hok b u e).stay (fun c v hc q=>hx c v ?_ q) (fun c q=>up c _ q (fun z=>by rw[z,hP]at q;cases q)) fun c xs q=>up c _ q (fun z=>by rw[z,hP]at q;cases q);rcases hc with z|z
    ·rw[z];exact hb
    ·intro y;rw[y,hP]at z;cases z
section
variable{T:Tb}{X:Cx}{pins:List (Addr × Obj)}{st:St}{H:Hp}{s:Shared}{μ:List Addr}{σ:Sto}{x:Str}{M':List Str}{ix:List Nat}{scope:Scope}{params:Arguments}{body:Expr}{pos:Pos}{c:Addr}{t:Tab}
structure LamOk(T:Tb)(X:Cx)(t:Tab)(c:Addr)(pos:Pos):Prop where
 mem:t∈T.tx.tbs
 inj:∀ t'∈T.tx.tbs,t'.P=t.P->t'=t
 code:X.env.code=.ref c
 hd:yiz X.K c t.P=true
 line:t.line=pos.line
 col:t.col=pos.col
 qual:t.qual=X.env.qual++"<lambda>"
 bm:X.mg "__builtins__" = some (.ref T.tx.bm)
 bb:T.tx.bm≠builtinsNs
theorem zk5(I:Inv X pins st H s)(L:LcOk X x M' ix scope)(r:Rel T μ H σ)(Lm:LamOk T X t c pos)(hdef:defaultsOf params X.env=([],[])) :
  wpAny (model X.prog X.w) X.A (eval (.Lambda params body scope pos) X.env) (fun v s'=>∃ q c' ctv H',v=.ref q/\Inv X ((q,PySem.W.kla_obj "<lambda>" t.qual params body scope (yh7 X.env scope.names []) ((X.mg "__name__").getD .none) c' ctv)::pins) st H' s'/\Ext μ H μ H'/\Rel T μ H' σ/\c' ∉ μ/\H' c'=some (.ext (zu9 t.qual c'))) X.xe s:=by
 obtain⟨⟨hb1,obm,hb2⟩,hP1,ps,hP,hps⟩:=r.tb t Lm.mem;have hPo:s.heap.get? t.P=some (PySem.W.tabObj ps):=I.hok _ _ hP;have hgs:s.heap.Ns mainGlobals X.mg:=I.ok.mod.glob.keeps I.bk;have hgP:mainGlobals≠t.P:=fun z=>by
  obtain⟨o,es,ep,e,hd,_⟩:=hgs;rw[z,hPo]at e;cases e;cases hd
 obtain⟨_,⟨ob,o1,o2,o3,o4⟩,_⟩:=I.hok _ _ hb2;have hbP:T.tx.bm≠t.P:=fun z=>by rw[z,hPo]at o1;cases o1;cases o2
 have hbG:T.tx.bm≠mainGlobals:=fun z=>by
  obtain⟨o,es,ep,e,hd,_⟩:=hgs;rw[z,e]at o1;cases o1;rw[hd]at o4;cases o4
 have hB:s.heap.BuiltinsAt X.mg t.P:=⟨T.tx.bm,ob,Lm.bm,Lm.bb,hbG,hbP,o1,o2,o3,o4⟩
 have hcl:=zeo X.env scope (zoy I L);have C:PySem.W.CodeHd s.heap c t.P:=(ydu I.ok.mod.kin Lm.hd).keeps I.bk;have pinned:∀ {h':Heap} {tk:Nat} {H':Hp} {o:Obj},Inv X pins st H' { s with heap:=h',toks:=tk }->o.isFreed=false->(∀ v,o.data≠.cell v)->Inv X ((h'.objs.size,o)::pins) st H' { s with heap:=h'.push o,toks:=tk }:=fun {h' tk H' o} J hf hc=>by
  have J2:=J.kept (h':=h'.push o) (t':=tk) fun b u e=>Heap.get?_push_of_some _ e;refine J2.pins_of fun p hp=>?_;rcases List.mem_cons.mp hp with rfl|hp
  ·exact⟨Heap.get?_push_size _ hf,J.hok.fresh (Nat.le_refl _),Nat.ne_of_gt J.lt,J.nofs (Nat.le_refl _),hc⟩
  ·exact J2.pin p (List.mem_append_right _ hp)
 refine PySem.W.kla_eval hdef ?_;rw[<-Lm.qual];rcases hps with rfl|⟨c1,rfl,hc1,hc2⟩
 ·refine PySem.W.kla_makeFunction (mg:=X.mg) hcl I.ok.glob hgs Lm.code C hPo trivial rfl hgP hB fun c' ctv h' tk hx hge hlt hrec htb=>?_;have hce:zu9 t.qual c' h':=by
   obtain⟨c2,o,vs,tt,e,h1,h2,h3⟩:=hrec;cases e;exact⟨o,vs,tt,h1,h2,h3⟩
  have J:=zqx (tk:=tk) I hP hx hge hlt hce htb;have hc0:H c'=none:=I.hok.fresh hge;have ncP:c'≠t.P:=fun z=>by rw[z,hP]at hc0;cases hc0
  have ncμ:c' ∉ μ:=fun z=>by obtain⟨u,hu,_⟩:=r.mem z;rw[hc0]at hu;cases hu
  have up:∀ b u,H b=some u->b≠t.P->upd (upd H t.P (.tbl (#[]++#[rawInt pos.line,rawInt pos.col,.ref c']))) c' (.ext (zu9 t.qual c')) b=some u:=fun b u e n=>by
   rw[ybq (ze6 e hc0),ybq n];exact e
  have uP:upd (upd H t.P (.tbl (#[]++#[rawInt pos.line,rawInt pos.col,.ref c']))) c' (.ext (zu9 t.qual c')) t.P=some (.tbl (#[]++#[rawInt pos.line,rawInt pos.col,.ref c'])):=by rw[ybq ncP.symm,znp]
  have uc:upd (upd H t.P (.tbl (#[]++#[rawInt pos.line,rawInt pos.col,.ref c']))) c' (.ext (zu9 t.qual c')) c'=some (.ext (zu9 t.qual c')):=znp;have e:Ext μ H μ (upd (upd H t.P (.tbl (#[]++#[rawInt pos.line,rawInt pos.col,.ref c']))) c' (.ext (zu9 t.qual c'))):=by
   refine⟨⟨[],by simp⟩,fun p xs h=>up p _ h (fun z=>by rw[z,hP]at h;cases h),fun p o u h=>up p _ h (fun z=>by rw[z,hP]at h;cases h),fun p o h n=>⟨?_,n⟩⟩;by_cases hp:p=t.P
   ·subst hp;rw[hP]at h;cases h;exact⟨_,uP,.inr (.inr ⟨_,_,rfl,rfl⟩)⟩
   ·exact⟨o,up p o h hp,.inl rfl⟩
  refine⟨_,c',ctv,_,rfl,pinned J rfl (fun v z=>by cases z),e,r.keep e (fun a ha=>?_) fun t' ht'=>?_,ncμ,uc⟩
  ·obtain⟨u,hu,_⟩:=r.mem ha;rw[hu];exact up a u hu fun z=>hP1 (by rw[<-z];exact ha)
  ·obtain⟨⟨a1,ob2,a2⟩,a3,qs,a4,a5⟩:=r.tb t' ht';refine⟨⟨a1,ob2,up _ _ a2 hbP⟩,a3,?_⟩;by_cases hp:t'.P=t.P
   ·have et:=Lm.inj t' ht' hp;subst et;exact⟨_,uP,.inr ⟨c',by rw[Lm.line,Lm.col];rfl,ncμ,uc⟩⟩
   ·refine⟨qs,up _ _ a4 hp,a5.imp id fun⟨c3,z1,z2,z3⟩=>⟨c3,z1,z2,up _ _ z3 (fun z=>by rw[z,hP]at z3;cases z3)⟩⟩
 ·refine PySem.W.kla_makeFunctionHit (mg:=X.mg) (cv:=.ref c1) hcl I.ok.glob hgs Lm.code C hPo ?_ ?_ hB fun ctv h' tk hk hsz=>?_
  ·exact trivial
  ·rw[Lm.line,Lm.col];show codeAmong pos [rawInt pos.line,rawInt pos.col,.ref c1]=_;simp[codeAmong,rawInt]
  ·have J:=I.kept (h':=h') (t':=tk) hk;exact⟨_,c1,ctv,H,rfl,pinned J rfl (fun v z=>by cases z),Ext.refl _ _,r,hc1,hc2⟩
end
def yjj(fe:Ev->M D)(rest:Ev):List D->D->Int->M D
 |[],b,_=>ret b
 |d::ds,b,kb=>bnd (nox (fe (some d::rest))) fun k=>match k with
  | .int k=>if k<kb then yjj fe rest ds d k else yjj fe rest ds b kb
  |_=>bad
def yji(fe:Ev->M D)(rest:Ev)(ds:List D):M D:=match ds with
 |[.lst (x::xs)]=>bnd (nox (fe (some x::rest))) fun k=>match k with
  | .int k=>yjj fe rest xs x k
  |_=>bad
 |_=>bad
def yc3(ix:List Nat)(fe:Ev->M D)(fs:Ev->M (List D)):Ev->M D:=fun ρ=>bnd (fs ρ) (yji fe (ix.map fun i=>(ρ[i]?).getD none))
theorem zdq{X:Cx}{pins:List (Addr × Obj)}{st:St}{H:Hp}{s:Shared}{h':Heap}{t':Nat}{i j:Addr}(I:Inv X pins st H s)(k:∀ b o,b≠i->b≠j->s.heap.get? b=some o->h'.get? b=some o)(hi:yg0 X pins H i)(hj:yg0 X pins H j):Inv X pins st H { s with heap:=h',toks:=t' }:=by
 have nit:∀ b u,H b=some u->b≠i/\b≠j:=fun b u e=>⟨(fun z=>by rw[z,hi.1]at e;cases e),(fun z=>by rw[z,hj.1]at e;cases e)⟩
 have nc:∀ {b:Addr},b ∉ [i,j]->b≠i/\b≠j:=fun {b} h=>⟨fun z=>h (by simp[z]),fun z=>h (by simp[z])⟩
 refine I.step (g':=s.gens) (d':=s.drawn) (ch:=[i,j]) (fun b hb=>?_) (fun b o _ _ hc e _=>k b o (nc hc).1 (nc hc).2 e) (fun b o _ _ hc e _=>⟨o.slots,k b o (nc hc).1 (nc hc).2 e⟩) (fun _ _ _ _ n=>n)
  (fun b o hc e=>⟨o,k b o (nc hc).1 (nc hc).2 e⟩) (fun _ _ e=>e) (fun _ _ _ e=>e) (fun b ps e=>⟨#[],by rw[e];simp⟩) (fun m hm=>?_) (fun b u e=>?_) I.bare
 ·have e:b=i\/b=j:=by simpa using hb
  rcases e with rfl|rfl
  ·exact⟨hi.2.2.2.1,hi.2.1,hi.2.2.2.2.1,hi.2.2.2.2.2⟩
  ·exact⟨hj.2.2.2.1,hj.2.1,hj.2.2.2.2.1,hj.2.2.2.2.2⟩
 ·obtain⟨o,es,ep,ho,r⟩:=hm;exact⟨o,es,ep,k _ o (Ne.symm hi.2.1) (Ne.symm hj.2.1) ho,r⟩
 ·refine(I.hok b u e).stay (fun c v hc q=>?_) (fun _ q=>q) fun _ _ q=>q;rcases hc with z|z
  ·rw[z]at q ⊢;exact k b v (nit b u e).1 (nit b u e).2 q
  ·exact k c v (nit c _ z).1 (nit c _ z).2 q
section
variable{T:Tb}{X:Cx}
theorem zpq{e body:Expr}{params:Arguments}{scope:Scope}{lpos pos kp p:Pos}{x:Str}{M':List Str}{ix:List Nat}{fs:Ev->M (List D)}{fe:Ev->M D}{t:Tab}{c:Addr}{k:Nat}
  (hroom:Room (k+2) X.A) (L:LcOk X x M' ix scope) (hx:scope.names.lookup x=some .local) (Lm:LamOk T X t c lpos) (hg:Gl X "min") (hm:X.mg "min" = none)
  (hdef:defaultsOf params X.env=([],[])) (hco:scope.isCoroutine=false) (hgen:scope.isGenerator=false)
  (hbind:∀ (cl:List (Str × Addr)) (pm cd ctv u:Value),bindArgs (PySem.W.kla_fn "<lambda>" t.qual params body scope cl pm cd ctv) ⟨[u],[]⟩=pure [(x,u)])
  (ha:FA T X [e] fs)
  (hb:∀ (A:Around) (q:Addr) (cd:Value) (s₀:Shared) (H₀:Hp),Room k (A.deeper (PySem.W.envX t.qual scope s₀.heap.objs.size q cd (yh7 X.env scope.names [])))->FE T (ycs X A (x::M') t.qual scope q cd (yh7 X.env scope.names []) s₀ H₀) body fe)
  (he:backTo pos (starEach [e] X.env)=(false,eval e X.env)::backTo pos (starEach [] X.env):=by rfl)
  (hplain:(backTo pos (starEach [e] X.env)).any (·.1)=false:=by rfl) :
  FE T X (.Call (.Name "min" p) [e] [⟨some "key",.Lambda params body scope lpos,kp⟩] pos) (yc3 ix fe fs):=by
 intro pins s st H Q I h;refine wpAny_Call_Name_kw (zyq I hg hm (show bootBuiltins "min" = some (.builtin "min")from rfl) ?_);obtain⟨μ,ρ,σ,hE,hr,hp⟩:=h;refine callWith_kw (thn (ha pos pins s st H (fun vs H1=>∃ μ1 σ1 ds,Ext μ H μ1 H1/\Rel T μ1 H1 σ1/\yhi T μ1 H1 ds vs/\yhc T (XE X st) (Rep T) μ1 H1 (yji fe (ix.map fun i=>(ρ[i]?).getD none) ds σ1) Q) I ⟨μ,ρ,σ,hE,hr,hp.bind fun ds σ1 μ1 vs H1 _ e1 r1 q1 p1=>⟨μ1,σ1,ds,e1,r1,q1,p1⟩⟩) fun us s1 ⟨vs,H1,I1,rv,μ1,σ1,ds,e1,r1,q1,p1⟩=>kws_cons (thn (zk5 I1 L r1 Lm hdef) fun lv s2 ⟨q,c',ctv,H2,elv,I2,e2,r2,hc1,hc2⟩=>kws_nil ?_)) he hplain;subst elv;show wpAny _ _ (call (.builtin "min") us [(Str.ofString "key",.ref q)]) _ _ _;have hE2:ygw T μ1 H2 ρ st:=(hE.mono e1).mono e2;generalize hrest:(ix.map fun i=>(ρ[i]?).getD none)=rest at *;obtain⟨x0,xs,rfl⟩:∃ x0 xs,ds=[.lst (x0::xs)]:=by
  unfold yji at p1;split at p1
  ·exact⟨_,_,rfl⟩
  ·exact p1.elim
 rw[yhi]at q1;obtain⟨v0,rr,rfl,q2,q3⟩:=q1;rw[yhi]at q3;subst q3;rw[Rep]at q2;obtain⟨a,ws,rfl,han,haH,hws⟩:=q2;obtain⟨u0,rfl,ru0⟩:=yho.one rv;obtain rfl:u0=.ref a:=ru0;have p2:=yhc.mono e2 p1;have haH2:H2 a=some (.lst ws):=(e2.keepN _ _ haH han).1;have hws2:yhi T μ1 H2 (x0::xs) ws:=yhi.mono e2 _ _ hws;have hlen:(x0::xs).length=ws.length:=hws2.length;have lst:∀ {H':Hp} {s':Shared} {pn:List (Addr × Obj)},Inv X pn st H' s'->H' a=some (.lst ws)->∃ its:List Value,its.length=ws.length/\(∀ (j:Nat) v,its[j]?=some v->∃ w,ws[j]?=some w/\yhf w v)/\s'.heap.IsList a its.toArray:=fun {H' s' pn} J z=>by
  obtain⟨_,its,n,rv,ho⟩:=J.hok _ _ z;refine⟨its,rv.length.symm,fun j v hv=>?_,⟨_,ho,rfl,⟨_,rfl⟩⟩⟩;have hj:j<ws.length:=by rw[rv.length];exact(List.getElem?_eq_some_iff.mp hv).1
  obtain⟨u,hu,ru⟩:=rv.get (i:=j) (x:=ws[j]) (by simp[hj]);rw[hv]at hu;cases hu;exact⟨ws[j],by simp[hj],ru⟩
 have one:∀ {μ':List Addr} {H':Hp} {σ':Sto} {s':Shared} {d:D} {w:V} {v:Value} {I S:Addr} {oI oS:Obj} {kk:Int->M D},Inv X ((q,PySem.W.kla_obj "<lambda>" t.qual params body scope (yh7 X.env scope.names []) ((X.mg "__name__").getD .none) c' ctv)::pins) st H' s'->Ext μ1 H2 μ' H'->Rel T μ' H' σ'->Rep T μ' H' d w->yhf w v->
   yg0 X ((q,PySem.W.kla_obj "<lambda>" t.qual params body scope (yh7 X.env scope.names []) ((X.mg "__name__").getD .none) c' ctv)::pins) H' I->yg0 X ((q,PySem.W.kla_obj "<lambda>" t.qual params body scope (yh7 X.env scope.names []) ((X.mg "__name__").getD .none) c' ctv)::pins) H' S->
   s'.heap.get? I=some oI->s'.heap.get? S=some oS->(∀ v,oI.data≠.cell v)->(∀ v,oS.data≠.cell v)->
   yhc T (XE X st) (Rep T) μ' H' (bnd (nox (fe (some d::rest))) (fun k=>match k with | .int k=>kk k|_=>bad) σ') Q->
   wpAny (model X.prog X.w) X.A.in1 (call (.ref q) [v]) (fun y s''=>∃ k t',y=.int k t'/\s''.heap.get? I=some oI/\s''.heap.get? S=some oS/\∃ μ'' H'' σ'',Inv X ((q,PySem.W.kla_obj "<lambda>" t.qual params body scope (yh7 X.env scope.names []) ((X.mg "__name__").getD .none) c' ctv)::pins) st H'' s''/\Ext μ' H' μ'' H''/\Rel T μ'' H'' σ''/\
    yg0 X ((q,PySem.W.kla_obj "<lambda>" t.qual params body scope (yh7 X.env scope.names []) ((X.mg "__name__").getD .none) c' ctv)::pins) H'' I/\yg0 X ((q,PySem.W.kla_obj "<lambda>" t.qual params body scope (yh7 X.env scope.names []) ((X.mg "__name__").getD .none) c' ctv)::pins) H'' S/\yhc T (XE X st) (Rep T) μ'' H'' (kk k σ'') Q) (fun _ _=>False) s':=by
  intro μ' H' σ' s' d w v I S oI oS kk J ex r' rd rw0 fI fS gI gS cI cS po;generalize hob:PySem.W.kla_obj "<lambda>" t.qual params body scope (yh7 X.env scope.names []) ((X.mg "__name__").getD .none) c' ctv=ob at *;have hcode:s'.heap.CodeRec (.ref c') t.qual:=by
   obtain⟨⟨o,vs',tt,h1,h2,h3⟩,_⟩:=J.hok _ _ (ex.keepN _ _ hc2 hc1).1;exact⟨c',o,vs',tt,rfl,h1,h2,h3⟩
  have hq:=(J.pin (q,ob) (List.mem_append_right _ (.head _))).1;have J2:Inv X ((I,oI)::(S,oS)::(q,ob)::pins) st H' s':=J.pins_of fun p hp=>by
   rcases List.mem_cons.mp hp with rfl|hp
   ·exact⟨gI,fI.1,fI.2.1,fI.2.2.1,cI⟩
   ·rcases List.mem_cons.mp hp with rfl|hp
    ·exact⟨gS,fS.1,fS.2.1,fS.2.2.1,cS⟩
    ·exact J.pin p (List.mem_append_right _ hp)
  have hd:X.A.in1.handled=none:=hroom.hd;refine wpAny_mono (zk4 (A:=X.A.in1) (t:=tF T _ fe) (v:=w) (Q:=fun y H''=>∃ k μ'' σ'',y=.int k/\Ext μ' H' μ'' H''/\Rel T μ'' H'' σ''/\yhc T (XE X st) (Rep T) μ'' H'' (kk k σ'') Q) J2 L hx J.ok.frames hd (Room.in1 hroom).depth (by rw[<-hob]at hq;exact hq) hcode (hbind _ _ _ _ _) hco hgen rw0 (hb _ _ _ _ _ ((Room.in1 hroom).deeper _)) ⟨μ',yd8 ix d ρ,σ',zq6 ix (hE2.mono ex) rd,r',?_⟩) (fun y s'' hce=>?_) fun _ _ z=>z
  ·unfold yd8;rw[hrest];refine po.bind0 fun y σ'' μ'' g H'' _ e'' r'' q'' p''=>?_;cases y with
   |int k=>
    rw[Rep]at q'';exact⟨k,μ'',σ'',q'',e'',r'',p''⟩
   |_=>exact p''.elim
  ·obtain⟨yv,H'',J3,ry,k,μ'',σ'',rfl,e'',r'',p''⟩:=J2.after hce;obtain⟨t',rfl⟩:=ry;have pI:=J3.pin (I,oI) (List.mem_append_right _ (.head _));have pS:=J3.pin (S,oS) (List.mem_append_right _ (.tail _ (.head _)));have J4:Inv X ((q,ob)::pins) st H'' s'':=J3.pins_of fun p hp=>J3.pin p (List.mem_append_right _ (.tail _ (.tail _ hp)));exact⟨k,t',rfl,pI.1,pS.1,μ'',H'',σ'',J4,e'',r'',⟨pI.2.1,fI.2⟩,⟨pS.2.1,fS.2⟩,p''⟩
 obtain⟨its,hn,hP,hli⟩:=lst I2 haH2;generalize hob:PySem.W.kla_obj "<lambda>" t.qual params body scope (yh7 X.env scope.names []) ((X.mg "__name__").getD .none) c' ctv=ob at *;refine zlr (n:=ws.length) (P:=fun j v=>∃ w,ws[j]?=some w/\yhf w v) (fun s'=>Inv X ((q,ob)::pins) st H2 s')
  (fun I S j vb kb s'=>yg0 X ((q,ob)::pins) H2 I/\yg0 X ((q,ob)::pins) H2 S/\∃ μ' H' σ' b wb,Inv X ((q,ob)::pins) st H' s'/\Ext μ1 H2 μ' H'/\Rel T μ' H' σ'/\Rep T μ' H' b wb/\yhf wb vb/\yg0 X ((q,ob)::pins) H' I/\yg0 X ((q,ob)::pins) H' S/\yhc T (XE X st) (Rep T) μ' H' (yjj fe rest ((x0::xs).drop j) b kb σ') Q)
  hroom.hd I2 hn hP hli (by rw[<-hlen];simp) (fun s0 h' tk g k=>g.kept k) ?_ ?_ ?_ ?_ ?_
 ·
  intro I S s3 v oI oS hI hS hSI ⟨s0,g0,hk,es⟩ ⟨w,hw,rw1⟩ gI gS cI cS;have fI:yg0 X ((q,ob)::pins) H2 I:=I2.fpOk hI (I2.hok.fresh hI);have fS:yg0 X ((q,ob)::pins) H2 S:=I2.fpOk hS (I2.hok.fresh hS);have J:Inv X ((q,ob)::pins) st H2 s3:=by
   rw[es];exact zdq g0 (fun b o n _ e=>hk b o n e) fI fS
  have rd:∃ w',ws[0]?=some w'/\Rep T μ1 H2 x0 w':=hws2.get (i:=0) rfl;obtain⟨w',hw',rd⟩:=rd;rw[hw]at hw';cases hw';refine wpAny_mono (one (kk:=fun k=>yjj fe rest xs x0 k) J (Ext.refl _ _) r2 rd rw1 fI fS gI gS cI cS p2) (fun y s4 z=>?_) fun _ _ z=>z;obtain⟨k,t',rfl,hI4,hS4,μ'',H'',σ'',J4,e4,r4,f1,f2,p4⟩:=z;exact⟨k,t',rfl,hI4,hS4,fI,fS,μ'',H'',σ'',x0,w,J4,e4,r4,Rep.mono e4 _ _ rd,rw1,f1,f2,p4⟩
 ·intro I S j vb kb s' ⟨_,_,μ',H',σ',b,wb,J,ex,r',rb,rvb,f1,f2,p'⟩;exact lst J (ex.keepN _ _ haH2 han).1
 ·intro I S j vb kb s' h' tk ⟨a1,a2,μ',H',σ',b,wb,J,ex,r',rb,rvb,f1,f2,p'⟩ k;exact⟨a1,a2,μ',H',σ',b,wb,zdq J k f1 f2,ex,r',rb,rvb,f1,f2,p'⟩
 ·intro I S j vb kb s' v oI oS ⟨a1,a2,μ',H',σ',b,wb,J,ex,r',rb,rvb,f1,f2,p'⟩ ⟨w,hw,rw1⟩ gI gS cI cS;have hj:j<(x0::xs).length:=by rw[hlen];exact(List.getElem?_eq_some_iff.mp hw).1
  obtain⟨w',hw',rd⟩:=hws2.get (i:=j) (d:=(x0::xs)[j]) (by rw[List.getElem?_eq_getElem hj]);rw[hw]at hw';cases hw';rw[List.drop_eq_getElem_cons hj]at p';generalize (x0::xs)[j]=d at *;generalize hds:(x0::xs).drop (j+1)=ds' at *;unfold yjj at p';refine wpAny_mono (one (kk:=fun k=>if k<kb then yjj fe rest ds' d k else yjj fe rest ds' b kb) J ex r' (Rep.mono ex _ _ rd) rw1 f1 f2 gI gS cI cS p') (fun y s4 z=>?_) fun _ _ z=>z;obtain⟨k,t',rfl,hI4,hS4,μ'',H'',σ'',J4,e4,r4,f3,f4,p4⟩:=z;refine⟨k,t',rfl,hI4,hS4,a1,a2,μ'',H'',σ'',?_⟩;by_cases hk:k<kb
  ·rw[if_pos hk]at p4;rw[if_pos hk,if_pos hk];exact⟨d,w,J4,ex.trans e4,r4,Rep.mono (ex.trans e4) _ _ rd,rw1,f3,f4,p4⟩
  ·rw[if_neg hk]at p4;rw[if_neg hk,if_neg hk];exact⟨b,wb,J4,ex.trans e4,r4,Rep.mono e4 _ _ rb,rvb,f3,f4,p4⟩
 ·intro I S vb kb s' ⟨_,_,μ',H',σ',b,wb,J,ex,r',rb,rvb,f1,f2,p'⟩;rw[<-hlen,List.drop_length]at p';have q':Q wb H':=yhc.here (R:=Rep T) p' r' rb;exact⟨wb,H',J.pins_of (fun p hp=>J.pin p (List.mem_append_right _ (.tail _ hp))),rvb,q'⟩
end
def cOf(K:PySem.W.Frag)(x:Str):Addr:=((PySem.W.tabIn K x).getD (0,0)).1
def POf(K:PySem.W.Frag)(x:Str):Addr:=((PySem.W.tabIn K x).getD (0,0)).2
def yh1(K:PySem.W.Frag):Addr:=match PySem.W.nsIn K mainGlobals "__builtins__" with
 |some (some (.ref a))=>a
 |_=>0
theorem ybf{K:PySem.W.Frag}{x:Str}(h:(PySem.W.tabIn K x).isSome=true):PySem.W.tabIn K x=some (cOf K x,POf K x):=by
 unfold cOf POf;cases e:PySem.W.tabIn K x with
 |none=>rw[e]at h;cases h
 |some p=>rfl
def ybg(K:PySem.W.Frag)(xs:List Str):Bool:=
 PySem.W.noTabs K && (match PySem.W.nsIn K mainGlobals "__builtins__" with
  |some (some (.ref a))=>(K.lookup a).isNone && (a != builtinsNs)
  |_=>false) && xs.all fun x=>(PySem.W.tabIn K x).isSome && yiz K (cOf K x) (POf K x)
structure Tabs(K:PySem.W.Frag)(xs:List Str):Prop where
 no:PySem.W.noTabs K=true
 bm:PySem.W.nsIn K mainGlobals "__builtins__" = some (some (.ref (yh1 K)))
 bk:K.lookup (yh1 K)=none
 bb:yh1 K≠builtinsNs
 tab:∀ x∈xs,PySem.W.tabIn K x=some (cOf K x,POf K x)
 hd:∀ x∈xs,yiz K (cOf K x) (POf K x)=true
theorem zux{K:PySem.W.Frag}{xs:List Str}(h:ybg K xs=true):Tabs K xs:=by
 unfold ybg at h;rw[Bool.and_eq_true,Bool.and_eq_true]at h;obtain⟨⟨h1,h2⟩,h3⟩:=h;split at h2
 ·next a ha=>
  have eb:yh1 K=a:=by unfold yh1;rw[ha]
  rw[Bool.and_eq_true]at h2;refine⟨h1,by rw[eb];exact ha,by rw[eb];exact Option.isNone_iff_eq_none.mp h2.1,by rw[eb];simpa using h2.2,fun x hx=>?_,fun x hx=>?_⟩
  ·have z:=List.all_eq_true.mp h3 x hx;rw[Bool.and_eq_true]at z;exact ybf z.1
  ·have z:=List.all_eq_true.mp h3 x hx;rw[Bool.and_eq_true]at z;exact z.2
 ·cases h2
def zvd(K:PySem.W.Frag)(mg:Str->Option Value)(x:Str)(st:Stmt)(ps:List Str):Prop:=
 ∃ f fd,mg x=some (.ref f)/\Fun K x x st f fd/\(∀ us:List Value,us.length=ps.length->bindArgs fd ⟨us,[]⟩=pure (ps.zip us))/\fd.code=.ref (cOf K x)
theorem mkC{K:PySem.W.Frag}{mg:Str->Option Value}{h:Heap}{x:Str}{st:Stmt}{ps xs:List Str}(X:K.In h)(G:h.Ns mainGlobals mg)(hF:yb1 K mg x st ps)(ht:Tabs K xs)(hx:x∈xs):zvd K mg x st ps:=by
 obtain⟨f,fd,hm,F,hb⟩:=hF;obtain⟨oc,od,kV,doc,pm,an,cdv,ct,osl,rfl,lk,hcd⟩:=F.ex;exact⟨f,_,hm,F,hb,PySem.W.law_code X G (ht.tab x hx) hm (X _ _ lk) rfl⟩
theorem zzi{P:Program}{w:World}{K:PySem.W.Frag}{mg:Str->Option Value}{base:Heap}{ca:Nat->Addr}{tx:Tx}{k:Nat}{x:Str}{st:Stmt}{ps N:List Str}{g:Ev->M Fl}(h:zvd K mg x st ps)(S:FnScope N ps (zjb st))
  (hb:∀ (f:Addr) (A:Around) (outer:List Env) (s:Shared) (H:Hp) (E:XK),Room k (A.deeper (envOfC x (zjb st) s.heap.objs.size f (.ref (cOf K x))))->FSs ⟨K,ca,tx⟩ (yh9 (CXE P w) P w K mg base N x (zjb st) f (.ref (cOf K x)) A outer s H E) (zo5 st) g) :
  OkF ⟨K,ca,tx⟩ P w mg base (k+1) x ps (run N.length g):=by
 obtain⟨f,fd,hm,F,hbd,hc⟩:=h;obtain⟨oc,od,kV,doc,pm,an,cdv,ct,osl,rfl,lk,hcd⟩:=F.ex;have e:cdv=.ref (cOf K x):=hc;subst e;exact⟨f,_,hm,F.kp,hbd,fok lk hcd S (hb f)⟩
theorem zg1{P:Program}{w:World}{K:PySem.W.Frag}{mg mb:Str->Option Value}{k:Nat}{fa a:Addr}{fd:FuncData}{x:Str}{s₁:Shared}{vs:List Value}{ns:List Int}{ca:Nat->Addr}{tx:Tx}{fn:List D->M D}{ob:Obj}
  (KX:K.In s₁.heap) (hns:s₁.heap.Ns mainGlobals mg) (hb:s₁.heap.Ns builtinsNs mb) (hbb:∀ x:Str,x ≠ "__name__"->mb x=bootBuiltins x) (hlim:s₁.heap.NoLimit) (hg:s₁.gens=#[])
  (ha:s₁.heap.get? a=some { cls:=.type "list",data:=.seq vs.toArray }) (hi:IntsAre vs ns) (hl:ns.length<=63) (hr:Room k callerA)
  (hK:PySem.W.noTabs K=true) (hbo:s₁.heap.get? tx.bm=some ob) (hbc:ob.cls=.type "module") (hbd:ob.dict=some builtinsNs) (hbp:ob.data=.plain) (hbK:K.lookup tx.bm=none)
  (hT:∀ t∈tx.tbs,∃ c,PySem.W.CodeHd s₁.heap c t.P/\s₁.heap.get? t.P=some (PySem.W.tabObj #[]))
  (F:∀ base:Heap,FnOk P w K mg base (CXE P w) k fa fd [x] (spF ⟨K,ca,tx⟩ 1 fn)) (hbind:∀ (s:Shared) (u:Value),BindsTo s fd ⟨[u],[]⟩ [(x,u)])
  (tr:∀ ns:List Int,ns.length<=63->∃ σ,fn [.scr ns] []=.ok (.bl true) σ) :
  codeAny (model P w) callerA (.call (.ref fa) ⟨[.ref a],[]⟩) (fun r s'=>r=.ok (.ret (.bool true))/\OldK s₁.heap s'.heap/\s'.os=s₁.os/\AllBare s'.gens) s₁:=by
 have rv:=zih hi;have lenV:=hi.length;have hl2:ns.length<=sizeLine:=Nat.le_trans hl (by decide);have core:∀ fl:Bool,(fl=true->K.lookup a=none)->(fl=false->K.lookup a=some { cls:=.type "list",data:=.seq vs.toArray })->
   codeAny (model P w) callerA (.call (.ref fa) ⟨[.ref a],[]⟩) (fun r s'=>r=.ok (.ret (.bool true))/\OldK s₁.heap s'.heap/\s'.os=s₁.os/\AllBare s'.gens) s₁:=by
  intro fl hf1 hf2;obtain⟨H,c1,c2,c3,c4⟩:∃ H:Hp,(∀ t∈tx.tbs,H t.P=some (.tbl #[]))/\(H tx.bm=some (.frz ob (.ext (ygr tx.bm))))/\(fl=true->H a=some (.frz { cls:=.type "list",data:=.seq vs.toArray } (.lst (ns.map V.int))))/\
    ∀ b u,H b=some u->(u=.tbl #[]/\∃ t∈tx.tbs,b=t.P)\/(b=tx.bm/\u=.frz ob (.ext (ygr tx.bm)))\/(b=a/\fl=true/\u=.frz { cls:=.type "list",data:=.seq vs.toArray } (.lst (ns.map V.int))):=by
   refine⟨fun b=>if b=tx.bm then some (.frz ob (.ext (ygr tx.bm)))else if b=a then (if fl=true then some (.frz { cls:=.type "list",data:=.seq vs.toArray } (.lst (ns.map V.int)))else none)else if b∈tx.tbs.map (·.P)then some (.tbl #[])else none,fun t ht=>?_,if_pos rfl,fun h=>?_,fun b u e=>?_⟩
   ·obtain⟨c,_,hP⟩:=hT t ht;have n1:t.P≠tx.bm:=fun z=>by rw[z,hbo]at hP;cases hP;cases hbc
    have n2:t.P≠a:=fun z=>by rw[z,ha]at hP;cases hP
    dsimp only;rw[if_neg n1,if_neg n2,if_pos (List.mem_map.mpr ⟨t,ht,rfl⟩)]
   ·have n1:a≠tx.bm:=fun z=>by rw[z,hbo]at ha;cases ha;cases hbp
    dsimp only;rw[if_neg n1,if_pos rfl,if_pos h]
   ·dsimp only at e;split at e
    ·next hb1=>cases e;exact .inr (.inl ⟨hb1,rfl⟩)
    ·split at e
     ·next hb2=>
      split at e
      ·next h=>cases e;exact .inr (.inr ⟨hb2,h,rfl⟩)
      ·cases e
     ·split at e
      ·next hm=>cases e;obtain⟨t,ht,rfl⟩:=List.mem_map.mp hm;exact .inl ⟨rfl,t,ht,rfl⟩
      ·cases e
  have hok:HOk P w H s₁.heap:=fun b u e=>by
   rcases c4 b u e with⟨rfl,t,ht,rfl⟩|⟨rfl,rfl⟩|⟨rfl,_,rfl⟩
   ·obtain⟨c,_,hP⟩:=hT t ht;exact hP
   ·exact⟨hbo,⟨ob,hbo,hbc,hbd,hbp⟩,⟨ob,hbo⟩,fun h1 h2 ⟨o,e1,e2⟩ k=>⟨o,k _ e1,e2⟩⟩
   ·exact⟨ha,by rw[List.length_map];exact hl2,vs,_,rv,ha⟩
  have base_of:∀ {b:Addr} {o:Obj},s₁.heap.get? b=some o->H b=none->(yi0 s₁.heap H).get? b=some o:=fun e n=>zkr e n;have noA:∀ {b:Addr} {o:Obj} {es:Array DictEntry} {ep:Nat},s₁.heap.get? b=some o->o.data=.dict es ep->H b=none:=fun {b o es ep} e d=>by
   cases q:H b with
   |none=>rfl
   |some u=>
    rcases c4 b u q with⟨_,t,ht,rfl⟩|⟨rfl,_⟩|⟨rfl,_,_⟩
    ·obtain⟨c,_,hP⟩:=hT t ht;rw[hP]at e;cases e;cases d
    ·rw[hbo]at e;cases e;rw[hbp]at d;cases d
    ·rw[ha]at e;cases e;cases d
  have nsK:∀ {b:Addr} {m:Str->Option Value},s₁.heap.Ns b m->(yi0 s₁.heap H).Ns b m:=fun {b m} ⟨o,es,ep,e,d,r⟩=>⟨o,es,ep,base_of e (noA e d),d,r⟩
  have hKb:K.In (yi0 s₁.heap H):=fun b o e=>base_of (KX b o e) (by
   cases q:H b with
   |none=>rfl
   |some u=>
    rcases c4 b u q with⟨_,t,ht,rfl⟩|⟨rfl,_⟩|⟨rfl,h,_⟩
    ·obtain⟨c,_,hP⟩:=hT t ht;have e2:=KX _ _ e;rw[hP]at e2;cases e2;have h2:=List.all_eq_true.mp hK (t.P,_) (PySem.W.mem_of_lookupK e);exact absurd (show false=true from h2) Bool.false_ne_true
    ·rw[hbK]at e;cases e
    ·rw[hf1 h]at e;cases e)
  have hM:Mod K mg (yi0 s₁.heap H):=⟨hKb,nsK hns,⟨mb,nsK hb,hbb⟩,let ⟨mc,h1,h2⟩:=hlim;⟨mc,nsK h1,h2⟩⟩
  have e0:Env0 P w K mg (yi0 s₁.heap H) callerA [] s₁ H:=⟨rfl,hM,fun b o e=>zso e,Nat.le_of_eq (zgr _ _),trivial,fun b hb=>absurd (show b∈([]:List Addr)from hb) (by simp),hok,.of_eq hg⟩
  have hS:Scr K H a ns:=by
   cases fl with
   |true=>exact .inl ⟨_,c3 rfl⟩
   |false=>exact .inr ⟨_,vs.toArray,_,hf2 rfl,rfl,rfl,rfl,by rw[List.size_toArray,lenV];exact hl2,by simpa using rv⟩
  obtain⟨σ,ef⟩:=tr ns hl;have hsp:spF ⟨K,ca,tx⟩ 1 fn [.ref a] H (fun v _=>v=.bl true) fun _ _ _=>False:=by
   refine⟨[],[],[.scr ns],yhi.cons (by rw[Rep];exact⟨a,rfl,hS⟩) yhi.nil,rfl,⟨rfl,List.nodup_nil,fun n o q=>by simp at q,fun t ht=>⟨⟨by simp,ob,c2⟩,by simp,#[],c1 t ht,.inl rfl⟩⟩,?_⟩;rw[ef];intro μ' v H' _ _ r;rw[Rep]at r;exact r
  refine codeAny_mono ((F _).run callerA [] s₁ H ⟨[.ref a],[]⟩ [.ref a] [.ref a] _ _ hr e0 (hbind s₁ (.ref a)) (.cons rfl .nil) hsp) fun r s' h=>?_;cases r with
  |error e=>obtain⟨_,_,_,_,z⟩:=h;exact z.elim
  |ok f2=>
   cases f2 with
   |next=>exact False.elim h
   |brk=>exact False.elim h
   |cont=>exact False.elim h
   |ret u=>
    obtain⟨v,H',os,bare,un,hok',r',q⟩:=h;have q':v=.bl true:=q;subst q';obtain rfl:u=Value.bool true:=r';have same:∀ b o,s₁.heap.get? b=some o->(¬ ∃ t∈tx.tbs,b=t.P)->s'.heap.get? b=some o:=fun b o e n=>by
     cases q:H b with
     |none=>exact un.keep b o e q (by intro z;exact absurd (show b∈([]:List Addr)from z) (by simp)) (by simp)
     |some u=>
      rcases c4 b u q with⟨_,z⟩|⟨rfl,rfl⟩|⟨rfl,_,rfl⟩
      ·exact absurd z n
      ·obtain⟨e2,_⟩:=hok' _ _ (un.frzs _ _ _ q);rw[hbo]at e;cases e;exact e2
      ·obtain⟨e2,_⟩:=hok' _ _ (un.frzs _ _ _ q);rw[ha]at e;cases e;exact e2
    have grown:∀ t∈tx.tbs,∃ ps,s'.heap.get? t.P=some (PySem.W.tabObj ps):=fun t ht=>by
     obtain⟨more,z⟩:=un.tbls _ _ (c1 t ht);exact⟨_,hok' _ _ z⟩
    refine⟨rfl,⟨fun b o e=>?_,fun b o e=>?_⟩,os,bare⟩
    ·by_cases hb:∃ t∈tx.tbs,b=t.P
     ·obtain⟨t,ht,rfl⟩:=hb;obtain⟨c,hc,hP⟩:=hT t ht;obtain⟨ps,hps⟩:=grown t ht;rw[hP]at e;cases e;exact .inr (.inl ⟨(hc.tab hP).isCodeTable,rfl,#[],ps,rfl,by rw[Array.empty_append];exact hps⟩)
     ·exact .inl (same b o e hb)
    ·by_cases hb:∃ t∈tx.tbs,b=t.P
     ·obtain⟨t,ht,rfl⟩:=hb;obtain⟨ps,hps⟩:=grown t ht;exact⟨_,hps⟩
     ·exact⟨o,same b o e hb⟩
 cases hk:K.lookup a with
 |some o=>
  have e:=KX a o hk;rw[ha]at e;cases e;exact core false (fun h=>by cases h) fun _=>hk
 |none=>exact core true (fun _=>hk) fun h=>by cases h
theorem ygm{l:PySem.W.OpenLaw}{q:Program}{loose:List Str}{XP:(Str->Option Value)->Heap->Prop}{YP:World->Heap->Prop}{d:DefRec}{K:Params->PySem.W.Frag}{k:Nat}{x:Str}{fn:List D->M D}(xs:List Str)
  (hn:l.most=some 63) (hdf:d.params.defaults=[]) (hr:Room k callerA) (hY:∀ (w:World) (h:Heap),YP w h->(K w.params).In h)
  (hK:∀ w:World,ybg (K w.params) xs=true) (hrec:(xs.all fun x=>((recsOf q).find? fun e=>e.name == x).isSome)=true)
  (F:∀ (w:World) (mg:Str->Option Value) (h:Heap),(K w.params).In h->h.Ns mainGlobals mg->Tabs (K w.params) xs->∃ ca tbs,(∀ t∈tbs,∃ x∈xs,t.P=POf (K w.params) x)/\OkL ⟨K w.params,ca,⟨tbs,yh1 (K w.params)⟩⟩ l.prog w mg k d.name [x] fn)
  (tr:∀ ns:List Int,ns.length<=63->∃ σ,fn [.scr ns] []=.ok (.bl true) σ) :
  PySem.W.WalkO q loose XP YP l.row.toRowW d [] (fun f vs=>PySem.call f vs):=by
 refine Att.attach_call hn hdf fun w s₀ s₁ mg mb fa o pm cd doc a vs ns G Y ho hd hcd hmg hobj hints hlen hg=>?_;have KX:=hY w _ Y;have TT:=zux (hK w);obtain⟨ca,tbs,hP,f0,fd0,g1,g3,g4⟩:=F w mg _ KX G.T.g TT;rw[hmg]at g1;cases g1;obtain⟨bm,ob,b1,b2,b3,b4,b5,b6⟩:=G.T.bmain;have eb:=PySem.W.mg_of KX G.T.g TT.bm;rw[b1]at eb;cases eb;refine zg1 (tx:=⟨tbs,yh1 (K w.params)⟩) (ca:=ca) (ob:=ob) KX G.T.g G.T.b G.T.builtins G.T.nolimit hg hobj hints hlen hr TT.no b3 b4 b5 b6 TT.bk (fun t ht=>?_) g4 (fun s u=>.of_eq (g3 [u] rfl)) tr;obtain⟨y,hy,e⟩:=hP t ht;have z:=List.all_eq_true.mp hrec y hy;obtain⟨d',hd'⟩:=Option.isSome_iff_exists.mp z;have:=PySem.W.tab_of G.T KX hd' (TT.tab y hy);rw[e];exact⟨_,this.1,this.2⟩
theorem ygg{a b:Tab}{bm:Addr}(h:(a.P == b.P)=false):∀ t∈(⟨[a,b],bm⟩:Tx).tbs,∀ t'∈(⟨[a,b],bm⟩:Tx).tbs,t'.P=t.P->t'=t:=by
 have n:a.P≠b.P:=by simpa using h
 intro t ht t' ht' e;simp only[List.mem_cons,List.not_mem_nil,or_false]at ht ht';rcases ht with rfl|rfl<;>rcases ht' with rfl|rfl
 ·rfl
 ·exact absurd e.symm n
 ·exact absurd e n
 ·rfl
def zse(x:D)(xs:List D):M D:=fun σ=>match x,xs with
 | .ref n,[y]=>(match yee σ n with
  |some ys=>(match yjd σ y with
   |some zs=>if ys.length+zs.length<=cap then .ok .non (σ.set n (.lst (ys++zs)))else .bad
   |none=>.bad)
  |none=>.bad)
 |_,_=>.bad
section
variable{T:Tb}
theorem zfm:yb7 T ztd zse:=by
 intro E μ H σ x xs v vs Q r p q h;cases x with
 |ref n=>
  match xs with
  |[]=>exact h.elim
  |[y]=>
   rw[yhi]at q;obtain⟨w,z,rfl,q1,q2⟩:=q;rw[yhi]at q2;subst q2;unfold zse at h;cases el:yee σ n with
   |none=>simp only[el]at h;exact h.elim
   |some ys=>
    simp only[el]at h;cases em:yjd σ y with
    |none=>simp only[em]at h;exact h.elim
    |some zs=>
     simp only[em]at h;by_cases hc:ys.length+zs.length<=cap
     ·rw[if_pos hc]at h;obtain⟨a,vs,rfl,hn,h1,h2⟩:=r.lst p el;obtain⟨b,us,rfl,h3,h4⟩:=r.ls q1 em;have wr:=r.write (o:=.lst (vs++us)) (ob:=.lst (ys++zs)) hn ⟨_,znp,by
       have ex:Ext μ H μ (upd H a (.lst (vs++us))):=zgj (List.mem_of_getElem? hn) h1 (fun _ z=>by cases z) (fun _ _ z=>by cases z);exact yhi.append (yhi.mono ex _ _ h2) (yhi.mono ex _ _ h4)⟩
      exact⟨a,b,vs,us,rfl,rfl,h1,h3,by rw[<-h2.length,<-h4.length];exact zvv hc,h _ _ _ wr.1 wr.2 (by rw[Rep])⟩
     ·rw[if_neg hc]at h;exact h.elim
  |_::_::_=>exact h.elim
 |_=>exact h.elim
end
section
variable{T:Tb}{X:Cx}
def zr9(x:D)(xs:List D):M D:=fun σ=>match x,xs with
 | .ref n,[]=>(match yee σ n with
  |some _=>.ok .non (σ.set n (.lst []))
  |none=>.bad)
 |_,_=>.bad
theorem zfl:yb7 T L2.rClear zr9:=by
 intro E μ H σ x xs v vs Q r p q h;cases x with
 |ref n=>
  match xs with
  |[]=>
   rw[yhi]at q;subst q;unfold zr9 at h;cases el:yee σ n with
   |none=>simp only[el]at h;exact h.elim
   |some ys=>
    simp only[el]at h;obtain⟨a,vs,rfl,hn,h1,h2⟩:=r.lst p el;have wr:=r.write (o:=.lst []) (ob:=.lst []) hn ⟨_,znp,yhi.nil⟩;exact⟨a,vs,rfl,rfl,h1,h _ _ _ wr.1 wr.2 (by rw[Rep])⟩
  |_::_=>exact h.elim
 |_=>cases xs<;>exact h.elim
theorem zj0{o:Expr}{f:Ev->M D}{name:Str}{id:String}{r:V->List V->Hp->VK->Prop}{g:D->List D->M D}{apos cpos:Pos}(pa:PlainAttrs "list")(slot:Slot "list" name id)(hty:typeOf (.builtin id)=pure (.type "method_descriptor"))(hm:MtR X id r)(hs:yb7 T r g)(ho:FE T X o f)
  (hbase:attributeBase o name X.env (eval o X.env)=eval o X.env:=by rfl) (hline:(apos.endLine == cpos.line)=true:=by rfl):FE T X (.Call (.Attribute o name apos) [] [] cpos) (yc2 g f yhq):=by
 intro pins s st H Q I h;refine zzx pa slot hty hm ho hbase hline pins s st H Q I ?_;obtain⟨μ,ρ,σ,he,hr,hp⟩:=h;refine⟨μ,ρ,σ,he,hr,hp.bind fun x σ1 μ1 v H1 _ e1 r1 p1 q1=>?_⟩;unfold yem at q1;cases el:yjd σ1 x with
 |none=>rw[el]at q1;exact q1.elim
 |some xs=>
  rw[el]at q1;obtain⟨a,vs,rfl,h1,h2⟩:=r1.ls p1 el;exact⟨.inl ⟨rfl,vs,SqL.of h1⟩,hs _ μ1 H1 σ1 x [] (.ref a) [] Q r1 p1 yhi.nil q1⟩
end
def zvm(ix:List Nat)(ρ:Ev):Ev:=none::none::none::ix.map fun i=>(ρ[i]?).getD none
def zvo(ix:List Nat)(st:St):St:=none::none::none::ix.map fun i=>(st[i]?).getD none
def yig(src:Ev->M Src)(ix:List Nat)(tg:D->Ev->Option Ev)(fi:Ev->M Bool)(fe:Ev->M D):Ev->M D:=fun ρ=>bnd (src ρ) (lcK tg fi fe (zvm ix ρ))
theorem zix{T:Tb}{μ:List Addr}{H:Hp}{ρ:Ev}{st:St}(ix:List Nat)(h:ygw T μ H ρ st):ygw T μ H (zvm ix ρ) (zvo ix st):=by
 have q:=ziw ix h;refine⟨by simp[zvm,zvo],fun i d e=>?_⟩;cases i with
 |zero=>simp[zvm]at e
 |succ j=>exact q.2 j d e
section
variable{X:Cx}{pins:List (Addr × Obj)}{st:St}{H:Hp}{s:Shared}{x z0 z1:Str}{M':List Str}{ix:List Nat}{scope:Scope}{fp:List Addr}
theorem zek(I:Inv X pins st H s)(L:LcOk X x M' ix scope)(hfp:∀ b∈fp,yg0 X pins H b/\b<s.heap.objs.size){h':Heap}{t':Nat}{m:Str->Option Value}(hns:h'.Ns s.heap.objs.size m)
  (hk:∀ b o,s.heap.get? b=some o->h'.get? b=some o) :
  Inv (blk X (x::z0::z1::M') scope (yh7 X.env scope.names []) s.heap.objs.size s H fp) [] (zvo ix st) H { s with heap:=h',toks:=t' }:=by
 have sub:∀ n c,(yh7 X.env scope.names []).lookup n=some c->X.env.cells.lookup n=some c:=fun n c e=>zv4 X.env scope.names [] n c (fun _ _ q=>by simp at q) e;have cellLt:∀ n c,X.env.cells.lookup n=some c->c<s.heap.objs.size:=fun n c e=>by obtain⟨v,z⟩:=I.cell n c e;exact z.lt
 have fresh:H s.heap.objs.size=none:=I.hok.fresh (Nat.le_refl _);refine⟨⟨I.ok.mod,L.kind,I.ok.glob,I.ok.blt,Nat.le_refl _,fun a b c h1 h2=>I.ok.inj a b c (sub a c h1) (sub b c h2),fun a ha=>?_,fun a c h=>(by cases h),I.ok.hd,I.ok.frames,.inl rfl,fun b hb=>⟨Nat.ne_of_lt (hfp b hb).2,fun a c e=>?_⟩,fun b o e=>I.bs b o e,Nat.le_trans I.ok.bsz I.sz,fun b o e hb=>?_,fun b hb z=>?_,I.stack,I.stkFree⟩,
  rfl,I.bare,Un.kept hk,⟨m,hns,fun i y v e1 e2 e3=>?_⟩,fun a c e=>?_,fresh,fun a c e=>I.freeC a c (sub a c e),fun p hp=>absurd (show p∈([]:List (Addr × Obj))from hp) (by simp),I.hok.kept hk,?_⟩
 ·
  have ha':(scope.names.map fun(n,k)=>if (k == NameKind.free && X.env.scope.kind == .function && X.env.kindOf n == some .cell)then (n,NameKind.cell)else (n,k)).lookup a=some .cell\/(scope.names.map fun(n,k)=>if (k == NameKind.free && X.env.scope.kind == .function && X.env.kindOf n == some .cell)then (n,NameKind.cell)else (n,k)).lookup a=some .free:=ha;have hf:scope.names.lookup a=some .free:=by
   rcases ha' with z|z
   ·obtain⟨k0,h1,h2⟩:=zbm z;rcases h2 with h2|⟨h2,_⟩
    ·subst h2;exact absurd rfl (zy2 L _ (zha h1))
    ·rw[h2]at h1;exact h1
   ·obtain⟨k0,h1,h2⟩:=zbm z;rcases h2 with h2|⟨_,h2⟩
    ·rw[<-h2]at h1;exact h1
    ·cases h2
  exact zvy X.env scope.names [] a (zha hf) (zoy I L _ (zha hf) rfl)
 ·exact(hfp b hb).1.2.2.2.2.1 a c (sub a c e)
 ·rcases(hfp b hb).1.2.2.2.1 with z|z
  ·exact I.ok.noex b o e z
  ·exact absurd (Nat.lt_of_lt_of_le (Heap.lt_size e) (Nat.le_trans I.ok.bsz z)) (Nat.lt_irrefl _)
 ·rcases List.mem_cons.mp (I.stkSub b z)with q|q
  ·exact(hfp b hb).1.2.1 q
  ·exact(hfp b hb).1.2.2.1 q
 ·
  cases i with
  |zero=>simp[zvo]at e2
  |succ i=>
  cases i with
  |zero=>simp[zvo]at e2
  |succ i=>
  cases i with
  |zero=>simp[zvo]at e2
  |succ j=>
   have e1':M'[j]?=some y:=e1;have e2':(ix.map fun i=>(st[i]?).getD none)[j]?=some (some v):=e2;rw[List.getElem?_map]at e2';cases ej:ix[j]? with
   |none=>rw[ej]at e2';cases e2'
   |some i0=>
    rw[ej]at e2';have e4:(st[i0]?).getD none=some v:=Option.some.inj e2';have e5:st[i0]?=some (some v):=by
     cases q:st[i0]? with
     |none=>rw[q]at e4;cases e4
     |some o=>rw[q]at e4;exact congrArg some e4
    have e6:X.N[i0]?=some y:=by
     have z:=congrArg (fun l=>l[j]?) L.at_;simp only[List.getElem?_map,ej,e1',Option.map_some]at z;exact Option.some.inj z
    have q:=List.all_eq_true.mp L.vis y (List.mem_of_getElem? e1');simp only[Bool.and_eq_true,Bool.or_eq_true]at q;have kx:X.env.scope.names.lookup y=some .cell\/X.env.scope.names.lookup y=some .free:=by
     rcases q.1 with z|z
     ·exact .inl (eq_of_beq z)
     ·exact .inr (eq_of_beq z)
    have ky:scope.names.lookup y=some .free:=eq_of_beq q.2;obtain⟨m0,hn0,hl0⟩:=I.loc;obtain⟨u,ru,lu⟩:=hl0 i0 y v e6 e5 (by rcases kx with z|z;exact .inr (.inl z);exact .inr (.inr z));refine⟨u,ru,.inr ⟨zc5 (env:=X.env) ky,?_⟩⟩;rcases lu with⟨z,_⟩|⟨_,c,ec,zc⟩
    ·rcases kx with k|k
     ·rw[show X.env.kindOf y=X.env.scope.names.lookup y from rfl,k]at z;cases z
     ·rw[show X.env.kindOf y=X.env.scope.names.lookup y from rfl,k]at z;cases z
    ·obtain⟨c',hc'⟩:=zvy X.env scope.names [] y (zha ky) (zoy I L _ (zha ky) rfl);have e7:=sub y c' hc';rw[ec]at e7;cases e7;obtain⟨o,ho,hd⟩:=zc;exact⟨c,hc',o,hk _ _ ho,hd⟩
 ·obtain⟨v,o,ho,hd⟩:=I.cell a c (sub a c e);exact⟨v,o,hk _ _ ho,hd⟩
 ·simp[zvo,blk];have z:=congrArg List.length L.at_;simpa using z
end
section
variable{T:Tb}{X:Cx}
theorem zk9{E:XK}{elt iter tgt:Expr}{ifs:List Expr}{scope:Scope}{pos:Pos}{x z0 z1:Str}{M':List Str}{ix:List Nat}{tg:D->Ev->Option Ev}{fi:Ev->M Bool}{fe:Ev->M D}
  {pins:List (Addr × Obj)} {st:St} {H3:Hp} {s3:Shared} {h₁:Heap} {t':Nat} {m:Str->Option Value} {fp:List Addr} {it D0:Addr} {tn:Nat->Heap->Prop} {J:It} {nx:Src} {μ3:List Addr} {σ3:Sto} {ρ:Ev} {n:Nat} {Q:VK}
  (hc:X.calm=true) (L:LcOk X x M' ix scope)
  (htg:∀ cl C s₀ H₀ ex,FG T (blk X (x::z0::z1::M') scope cl C s₀ H₀ ex) tgt tg)
  (hif:∀ cl C s₀ H₀ ex,FIf T (blk X (x::z0::z1::M') scope cl C s₀ H₀ ex) ifs fi)
  (helt:∀ cl C s₀ H₀ ex,FE T (blk X (x::z0::z1::M') scope cl C s₀ H₀ ex) elt fe)
  (I3:Inv X pins st H3 s3) (hfp:∀ b∈fp,yg0 X pins H3 b/\b<s3.heap.objs.size) (hns:h₁.Ns s3.heap.objs.size m) (kp:∀ b o,s3.heap.get? b=some o->h₁.get? b=some o)
  (TT:Turn X.prog X.w X.K tgt J fp it tn) (hst4:tn 0 h₁) (so:yca T μ3 H3 nx J) (hE:ygw T μ3 H3 ρ st) (r3:Rel T μ3 H3 σ3) (hn:μ3[n]?=some D0)
  (p3:yhc T E (Rep T) μ3 H3 (bnd (zyo nx n tg fi fe 1001 0 (zvm ix ρ)) (fun _=>ret (.ref n)) σ3) Q) {RR:Result->Shared->Prop}
  (fin:∀ (s6:Shared) (H':Hp) (m6:Str->Option Value),s6.heap.Ns s3.heap.objs.size m6->H' s3.heap.objs.size=none->Un (frs X.stack) fp H3 H' s3.heap s6.heap->s6.os=s3.os->HOk X.prog X.w H' s6.heap->AllBare s6.gens->Q (.ref D0) H'->RR (.ok .next) s6) :
  codeAny (model X.prog X.w) X.A (.compStart (.ListComp elt [⟨tgt,iter,ifs,0⟩] scope pos) 0 (.ref it) (.ref D0) (compEnvC scope (yh7 X.env scope.names []) s3.heap.objs.size X.env))
   RR { s3 with heap:=h₁,toks:=t' }:=by
 have I4:=zek (z0:=z0) (z1:=z1) (h':=h₁) (t':=t') I3 L hfp hns kp;let Y:Cx:=blk X (x::z0::z1::M') scope (yh7 X.env scope.names []) s3.heap.objs.size s3 H3 fp;have stat:∀ {H':Hp},(∀ b∈fp,H' b=none)->∀ b∈fp,yg0 Y [] H' b:=fun {H'} hn b hb=>⟨hn b hb,(I4.ok.exf b hb).1,I4.ok.exfs b hb,.inl hb,(I4.ok.exf b hb).2,fun p hp=>absurd (show p∈([]:List (Addr × Obj))from hp) (by simp)⟩
 have yjc:codeAny (model X.prog X.w) X.A (.compLoop (.ListComp elt [⟨tgt,iter,ifs,0⟩] scope pos) 0 (.ref it) (.ref D0) Y.env) RR { s3 with heap:=h₁,toks:=t' }:=by
  refine codeAny_loop rfl (fun k s'=>∃ i μ' H' σ' ρ' st',Inv Y [] st' H' s'/\tn i s'.heap/\(∀ b∈fp,H' b=none)/\Ext μ3 H3 μ' H'/\ygw T μ' H' ρ' st'/\Rel T μ' H' σ'/\
   yhc T E (Rep T) μ' H' (bnd (zyo nx n tg fi fe k i ρ') (fun _=>ret (.ref n)) σ') Q) ?_ 1001 ⟨0,μ3,H3,σ3,zvm ix ρ,zvo ix st,I4,hst4,fun b hb=>(hfp b hb).1.1,Ext.refl _ _,zix ix hE,r3,p3⟩
  rintro k s' ⟨i,μ',H',σ',ρ',st',I',tn',fr',ex',hE',r',p'⟩;show wpAny _ X.A ((compTurn (.ListComp elt [⟨tgt,iter,ifs,0⟩] scope pos) 0 (.ref it) (.ref D0) Y.env).onRaise (fun x=>do noteFrame x Y.env;theTreesLotGoes x)) _ _ s';refine wpAny_noted ?_;rw[compTurn_list];refine wpAny_mono (E:=fun _ _=>False) ?_ (fun _ _ z=>z) (fun _ _ z=>z.elim);refine wpAny_bind (wpAny_standAt ?_);cases k with
  |zero=>exact p'.elim
  |succ k=>
   have so':=so μ' H' σ' i ex' r';cases en:nx.nx i σ' with
   |none=>
    have e1:zyo nx n tg fi fe (k+1) i ρ' σ'=.bad:=by unfold zyo;simp only[en]
    rw[zf6 (m':=bad) e1]at p';exact p'.elim
   |some od=>
    rw[en]at so';cases od with
    |none=>
     have e1:zyo nx n tg fi fe (k+1) i ρ' σ'=.ok () σ':=by unfold zyo;simp only[en]
     rw[zf6 (m':=ret ()) e1]at p';refine wpAny_bind (thn (TT.done Y rfl rfl rfl hc i [] s' st' H' (fun _ _=>False) I' (stat fr') tn' so') fun r s6 ⟨er,I6⟩=>?_);subst er;refine wpAny_pure ?_;obtain⟨m6,hm6,_⟩:=I6.loc;exact fin s6 H' m6 hm6 I6.free I6.base I6.os I6.hok I6.bare (yhc.here p' r' (by rw[Rep];exact⟨_,rfl,ex'.get hn⟩))
    |some d=>
     refine wpAny_bind (thn (TT.item Y rfl rfl rfl hc i [] s' st' H' (fun _ _=>False) I' (stat fr') tn' so'.1) fun r s6 ⟨u,er,h6⟩=>?_);subst er;refine wpAny_bind (thn h6 fun _ s7 ⟨xv,H7,I7,r7,y7,tn7,fr7⟩=>?_);obtain⟨eH,hd⟩:=so'.2 xv H7 y7;subst eH;cases et:tg d ρ' with
     |none=>
      have e1:zyo nx n tg fi fe (k+1) i ρ' σ'=.bad:=by unfold zyo;simp only[en,et]
      rw[zf6 (m':=bad) e1]at p';exact p'.elim
     |some ρ1=>
      have e1:zyo nx n tg fi fe (k+1) i ρ' σ'=bnd (nox (fi ρ1)) (fun c=>if c=true then bnd (nox (fe ρ1)) fun y=>bnd (zr8 (.ref n) [y]) fun _=>zyo nx n tg fi fe k (i+1) ρ1 else zyo nx n tg fi fe k (i+1) ρ1) σ':=by
       conv=>lhs;unfold zyo
       simp only[en,et]
      rw[zf6 e1,zf5]at p';have I7':=I7.pinned (stat fr7) (TT.obj _ _ tn7);refine wpAny_bind (thn (htg _ _ _ _ _ _ s7 st' H7 xv u (fun st8 H8=>H8=H7/\ygw T μ' H7 ρ1 st8) I7' r7 ⟨μ',σ',ρ',d,ρ1,hE',r',hd,et,fun st8 hE8=>⟨rfl,hE8⟩⟩) fun _ s8 ⟨st8,H8,I8,eH8,hE8⟩=>?_);subst eH8;refine wpAny_bind (thn (hif _ _ _ _ _ _ s8 st8 H8 (fun c H9=>∃ μ9 σ9,Ext μ' H8 μ9 H9/\Rel T μ9 H9 σ9/\yhc T E (Rep T) μ9 H9 (bnd (if c=true then bnd (nox (fe ρ1)) fun y=>bnd (zr8 (.ref n) [y]) fun _=>zyo nx n tg fi fe k (i+1) ρ1 else zyo nx n tg fi fe k (i+1) ρ1) (fun _=>ret (.ref n)) σ9) Q) I8
       ⟨μ',ρ1,σ',hE8,r',p'.bind0 fun c σ9 μ9 c' H9 _ e9 r9 q9 p9=>by cases q9;exact⟨μ9,σ9,e9,r9,p9⟩⟩) fun c s9 ⟨H9,I9,μ9,σ9,e9,r9,p9⟩=>?_)
      have again:∀ {s11:Shared} {H11:Hp} {μ11:List Addr} {σ11:Sto},Inv Y ([]++yac fp s7.heap) st8 H11 s11->Ext μ' H8 μ11 H11->Rel T μ11 H11 σ11->yhc T E (Rep T) μ11 H11 (bnd (zyo nx n tg fi fe k (i+1) ρ1) (fun _=>ret (.ref n)) σ11) Q->
        ∃ m,m<k+1/\∃ i μ' H' σ' ρ' st',Inv Y [] st' H' s11/\tn i s11.heap/\(∀ b∈fp,H' b=none)/\Ext μ3 H3 μ' H'/\ygw T μ' H' ρ' st'/\Rel T μ' H' σ'/\yhc T E (Rep T) μ' H' (bnd (zyo nx n tg fi fe m i ρ') (fun _=>ret (.ref n)) σ') Q:=by
       intro s11 H11 μ11 σ11 I11 e11 r11 p11;refine⟨k,Nat.lt_succ_self _,i+1,μ11,H11,σ11,ρ1,st8,I11.unpinned,TT.keep _ _ _ tn7 (fun b hb o e=>(I11.pin (b,o) (List.mem_append_right _ (List.mem_append_right _ (ze5 hb e)))).1),fun b hb=>?_,ex'.trans e11,hE8.mono e11,r11,p11⟩;obtain⟨o,e,_⟩:=TT.obj _ _ tn7 b hb;exact(I11.pin (b,o) (List.mem_append_right _ (List.mem_append_right _ (ze5 hb e)))).2.1
      cases c with
      |false=>
       rw[if_neg Bool.false_ne_true]at p9;exact wpAny_pure ⟨rfl,again I9 e9 r9 p9⟩
      |true=>
       rw[if_pos rfl,zf5]at p9;refine wpAny_bind (wpAny_bind (thn (helt _ _ _ _ _ _ s9 st8 H9 (fun v H10=>∃ y μ10 σ10,Ext μ' H8 μ10 H10/\Rel T μ10 H10 σ10/\Rep T μ10 H10 y v/\yhc T E (Rep T) μ10 H10 (bnd (zr8 (.ref n) [y]) (fun _=>bnd (zyo nx n tg fi fe k (i+1) ρ1) (fun _=>ret (.ref n))) σ10) Q) I9
        ⟨μ9,ρ1,σ9,hE8.mono e9,r9,p9.bind0 fun y σ10 μ10 v H10 _ e10 r10 q10 p10=>⟨y,μ10,σ10,e9.trans e10,r10,q10,by rw[zf5]at p10;exact p10⟩⟩) fun w s10 ⟨v,H10,I10,rw10,y,μ10,σ10,e10,r10,q10,p10⟩=>?_))
       have happ:=zn8 (Q:=fun _ H11=>∃ μ11 σ11,Ext μ' H8 μ11 H11/\Rel T μ11 H11 σ11/\yhc T E (Rep T) μ11 H11 (bnd (zyo nx n tg fi fe k (i+1) ρ1) (fun _=>ret (.ref n)) σ11) Q) r10 ((ex'.trans e10).get hn) q10
        (p10.bind fun _ σ11 μ11 v11 H11 _ e11 r11 q11 p11=>⟨μ11,σ11,e10.trans e11,r11,p11⟩)
       refine wpAny_bind (thn (zhd (X:=Y) _ s10 st8 H10 (.ref D0) [v] (.ref D0) [w] _ I10 rfl (.cons rw10 .nil) happ) fun _ s11 ⟨v11,H11,I11,_,μ11,σ11,e11,r11,p11⟩=>?_);exact wpAny_pure (wpAny_pure ⟨rfl,again I11 e11 r11 p11⟩)
 exact codeAny_compStart_list yjc (TT.self X.A 0 _ _ _ hst4 yjc)
theorem zw3{elt iter tgt:Expr}{ifs:List Expr}{scope:Scope}{pos:Pos}{x z0 z1:Str}{M':List Str}{ix:List Nat}{src:Ev->M Src}{tg:D->Ev->Option Ev}{fi:Ev->M Bool}{fe:Ev->M D}
  (hc:X.calm=true) (L:LcOk X x M' ix scope) (hsrc:FI T X tgt iter src)
  (htg:∀ cl C s₀ H₀ ex,FG T (blk X (x::z0::z1::M') scope cl C s₀ H₀ ex) tgt tg)
  (hif:∀ cl C s₀ H₀ ex,FIf T (blk X (x::z0::z1::M') scope cl C s₀ H₀ ex) ifs fi)
  (helt:∀ cl C s₀ H₀ ex,FE T (blk X (x::z0::z1::M') scope cl C s₀ H₀ ex) elt fe)
  (hs:∀ y,foldedSetIterable iter X.env y=pure y:=by intro _;rfl) :
  FE T X (.ListComp elt [⟨tgt,iter,ifs,0⟩] scope pos) (yig src ix tg fi fe):=by
 intro pins s st H Q I h;obtain⟨μ,ρ,σ,hE,hr,hp⟩:=h;rw[eval_ListComp];refine wpAny_comprehension_free (use:=none) rfl hs (zeo X.env scope (zoy I L)) L.kind (fun y hy e=>?_) ?_
 ·have q:=List.all_eq_true.mp L.names y hy;rw[e]at q;simp only[beq_self_eq_true,Bool.not_true,Bool.false_or]at q;exact eq_of_beq q
 have h1:=hsrc pins s st H (fun J H2=>∃ nx μ2 σ2,Ext μ H μ2 H2/\Rel T μ2 H2 σ2/\yca T μ2 H2 nx J/\yhc T (XE X st) (Rep T) μ2 H2 (bnd (zyo nx σ2.length tg fi fe 1001 0 (zvm ix ρ)) (fun _=>ret (.ref σ2.length)) (σ2++[Ob.lst []])) Q) I
  ⟨μ,ρ,σ,hE,hr,hp.bind fun nx σ1 μ1 J H1 _ e1 r1 q1 p1=>⟨nx,μ1,σ1,e1,r1,q1,p1⟩⟩
 refine thn h1 fun v s1 h2=>thn h2 fun itv s2 h3=>?_;obtain⟨it,fp,tn,J,H2,rfl,I2,TT,st2,f2,nx,μ2,σ2,ex2,r2,so,p2⟩:=h3;refine wpAny_newObj_type (wpAny_newFunctionEnv (zy2 L) (by intro y hy;simp at hy) (fun h₁ hns₁ hsb₁=>?_) L.kind);have I3:=I2.lnew (ys:=[]) (its:=[]) (t':=s2.toks) .nil (by simp);have fr2:H2 s2.heap.objs.size=none:=I2.hok.fresh (Nat.le_refl _);have r3:=r2.push (p:=s2.heap.objs.size) (o:=.lst []) (ob:=.lst []) fr2 ⟨[],znp,yhi.nil⟩;have ex3:Ext μ2 H2 (μ2++[s2.heap.objs.size]) (upd H2 s2.heap.objs.size (.lst [])):=zjw fr2;have hsz:s2.heap.objs.size<(s2.heap.push { cls:=.type "list",data:=.seq ([]:List Value).toArray }).objs.size:=by rw[Heap.size_push];exact Nat.lt_succ_self _
 have kp:∀ b o,(s2.heap.push { cls:=.type "list",data:=.seq ([]:List Value).toArray }).get? b=some o->h₁.get? b=some o:=fun b o e=>hsb₁.extBut b o (Nat.ne_of_lt (Heap.lt_size e)) (Heap.get?_push_of_some _ e);have hfp:∀ b∈fp,yg0 X pins (upd H2 s2.heap.objs.size (.lst [])) b/\b<(s2.heap.push { cls:=.type "list",data:=.seq ([]:List Value).toArray }).objs.size:=fun b hb=>by
  obtain⟨o,e,_⟩:=TT.obj 0 _ st2 b hb;have lt:=Heap.lt_size e;exact⟨⟨by rw[ybq (Nat.ne_of_lt lt)];exact(f2 b hb).1,(f2 b hb).2⟩,Nat.lt_trans lt hsz⟩
 refine zk9 (s3:={ s2 with heap:=s2.heap.push { cls:=.type "list",data:=.seq ([]:List Value).toArray },toks:=s2.toks }) (n:=σ2.length) (D0:=s2.heap.objs.size) hc L htg hif helt I3 hfp hns₁ kp TT (TT.keep 0 _ _ st2 fun b hb o e=>kp b o (Heap.get?_push_of_some _ e))
  (fun μ H σ i ex r=>so μ H σ i (ex3.trans ex) r) ((hE.mono ex2).mono ex3) r3 (by rw[<-r2.len];simp) (p2.mono ex3) (fun s6 H' m6 hm6 hC' hu0 hos hok6 hb6 hq=>⟨m6,hm6,fun h7 hs7=>?_⟩)
 have hu:=zu2 hu0 hs7 (Nat.le_refl _);have I7:=L2.Inv.call' (s':={ s6 with heap:=h7 }) (ch:=fp) I3 hos hu (zks hok6 hs7 hC') hb6 (fun b hb=>⟨(hfp b hb).1.2.2.2.1,(hfp b hb).1.2.1,(hfp b hb).1.2.2.2.2.1,(hfp b hb).1.2.2.2.2.2⟩);exact⟨.ref s2.heap.objs.size,H',I7,rfl,hq⟩
end
def ydz(k:List (Key × D)):Bool:=k.all fun p=>match p.1 with | .inl _=>true | .inr _=>false
def eqE(σ:Sto):Nat->D->D->Option Bool
 |0,_,_=>none
 |n+1,x,y=>match yib σ x,yib σ y with
  |some k1,some k2=>if (yea k1 k2 && ydz k1)=true then some true else none
  |some _,none=>none
  |none,some _=>none
  |none,none=>eqK (eqE σ n) (kd σ x) (kd σ y)
theorem zho{prog:Program}{w:World}:∀ {l:List DictEntry} {kvs:List (Key × Value)},Pairs (zrz prog w) l kvs->∀ e∈l,∃ kv∈kvs,yd6 kv.1 e.key=true
 |_,_,.nil,e,h=>by cases h
 |_,_,.cons h1 h2 t,e,h=>by
  rcases List.mem_cons.mp h with rfl|h
  ·exact⟨_,List.mem_cons_self,h1⟩
  ·obtain⟨kv,k1,k2⟩:=zho t e h;exact⟨kv,List.mem_cons_of_mem _ k1,k2⟩
theorem zhn{prog:Program}{w:World}{prog':Program}{w':World}:∀ {l:List DictEntry} {kvs:List (Key × Value)},Pairs (zrz prog w) l kvs->Pairs (zrz prog' w') l kvs
 |_,_,.nil=>.nil
 |_,_,.cons h1 h2 t=>.cons h1 h2 (zhn t)
theorem zjc{prog:Program}{w:World}{prog':Program}{w':World}{h:Heap}{a:Addr}{kvs:List (Key × Value)}(d:h.DictOf (zrz prog w) a kvs)(hi:∀ p∈kvs,∃ i,p.1=Sum.inl i):h.DictOf (zrz prog' w') a kvs:=by
 obtain⟨o,es,ep,h1,h2,h3,h4,h5,h6⟩:=d;refine⟨o,es,ep,h1,h2,h3,fun e he=>?_,zhn h5,h6⟩;obtain⟨k,hk1,hk2⟩:=h4 e he;obtain⟨kv,m1,m2⟩:=zho h5 e (by simpa using he);obtain⟨i,ei⟩:=hi kv m1;have ek:k=kv.1:=(zrz prog w).inj e.key k kv.1 hk1 m2;subst ek;exact⟨kv.1,hk1,by rw[hk2,ei];rfl⟩
section
variable{T:Tb}{X:Cx}{pins:List (Addr × Obj)}{st:St}{H:Hp}{s:Shared}{μ:List Addr}{σ:Sto}
theorem zo7{A:Around}(I:Inv X pins st H s)(hu:A.units<cLine){a b:Addr}{ka:List (Key × V)}(ha:Rd H a (.dK ka))(hb:Rd H b (.dK ka))(hi:∀ p∈ka,∃ i,p.2=V.int i)(hk:∀ p∈ka,∃ i,p.1=Sum.inl i):zvf A s (.ref a) (.ref b) true:=by
 obtain⟨z1,na,va,ra,da⟩:=ycu I.hok ha;obtain⟨z2,nb,vb,rb,db⟩:=ycu I.hok hb;have hl:va.length=vb.length:=by rw[<-ra.length,rb.length]
 obtain⟨_,_,_,_,_,_,_,_,nd⟩:=id db;have keys:∀ {vs:List (Key × Value)},KV ka vs->∀ p∈vs,∃ i,p.1=Sum.inl i:=fun {vs} r p hp=>by
  unfold KV at r;obtain⟨q,hq,e⟩:∃ q∈ka,q.1=p.1:=by
   clear hi ra rb hk ha hb hl z1 z2;induction r with
   |nil=>cases hp
   |cons h t ih=>
    rcases List.mem_cons.mp hp with rfl|hp
    ·exact⟨_,List.mem_cons_self,h.1⟩
    ·obtain⟨q,h1,h2⟩:=ih hp;exact⟨q,List.mem_cons_of_mem _ h1,h2⟩
  obtain⟨i,ei⟩:=hk q hq;exact⟨i,by rw[<-e];exact ei⟩
 refine⟨fun prog w E Q hq=>?_,fun prog w E Q hq=>?_⟩
 ·exact PySem.W.keq_eq na nb (zjc da (keys ra)) (zjc db (keys rb)) hu (fun _=>zqq ra rb hi vb (zeh nd)) (by rw[hl];simpa using hq)
 ·exact PySem.W.keq_ne na nb (zjc da (keys ra)) (zjc db (keys rb)) hu (fun _=>zqq ra rb hi vb (zeh nd)) (by rw[hl];simpa using hq)
theorem zrg{μ:List Addr}{H:Hp}:∀ {k1:List (Key × D)} {v1:List (Key × V)},yhh T μ H k1 v1->ydz k1=true->∀ p∈v1,∃ i,p.1=Sum.inl i
 |_,_,.nil,_,p,h=>by cases h
 |_,_,@Paired.cons _ _ _ p0 q _ qs h1 t1,hk,p,h=>by
  unfold ydz at hk;rw[List.all_cons,Bool.and_eq_true]at hk;rcases List.mem_cons.mp h with rfl|h
  ·obtain⟨a1,a2⟩:=h1;cases e:p0.1 with
   |inl i=>exact⟨i,by rw[<-a1,e]⟩
   |inr x=>rw[e]at hk;cases hk.1
  ·exact zrg t1 hk.2 p h
theorem zjn(r:Rel T μ H σ):∀ (n:Nat) (x y:D) (v:V) (b:Bool),Rep T μ H x v->Rep T μ H y v->eqE σ n x y=some b->b=true
 |0,_,_,_,_,_,_,h=>by cases h
 |n+1,x,y,v,b,hx,hy,h=>by
  unfold eqE at h;cases e1:yib σ x with
  |some k1=>
   cases e2:yib σ y with
   |some k2=>
    rw[e1,e2]at h;dsimp only at h;split at h
    ·cases h;rfl
    ·cases h
   |none=>rw[e1,e2]at h;cases h
  |none=>
   cases e2:yib σ y with
   |some k2=>rw[e1,e2]at h;cases h
   |none=>
    rw[e1,e2]at h;exact zjo r (fun x y v b=>zjn r n x y v b) hx hy h
theorem zwn(I:Inv X pins st H s)(r:Rel T μ H σ):∀ (n:Nat) (A:Around) (x y:D) (v w:V) (v' w':Value) (b:Bool),A.units+n+1<cLine->Rep T μ H x v->Rep T μ H y w->yhf v v'->yhf w w'->eqE σ n x y=some b->SeqAt.EqAt A s v' w' b
 |0,A,x,y,v,w,v',w',b,hu,hx,hy,rv,rw',h=>by cases h
 |n+1,A,x,y,v,w,v',w',b,hu,hx,hy,rv,rw',h=>by
  unfold eqE at h;cases e1:yib σ x with
  |some k1=>
   cases e2:yib σ y with
   |some k2=>
    rw[e1,e2]at h;dsimp only at h;split at h
    ·next hc=>
     rw[Bool.and_eq_true]at hc;cases h;obtain⟨a,va,rfl,h1,g1⟩:=yav r hx e1;obtain⟨c,vb,rfl,h2,g2⟩:=yav r hy e2;obtain⟨rfl,hi⟩:=zlh g1 g2 hc.1;cases rv;cases rw';by_cases hac:a=c
     ·subst hac;exact SeqAt.EqAt.same _
     ·exact .of_refs hac (zo7 I (by omega) h1 h2 hi (zrg g1 hc.2)).1
    ·cases h
   |none=>rw[e1,e2]at h;cases h
  |none=>
   cases e2:yib σ y with
   |some k2=>rw[e1,e2]at h;cases h
   |none=>
    rw[e1,e2]at h;exact zwr I r (by omega) (fun x y v w v' w' b a1 a2 a3 a4 a5=>zwn I r n A.in1 x y v w v' w' b (by show A.units+1+n+1<cLine;omega) a1 a2 a3 a4 a5) (fun x y v b a1 a2 a3=>zjn r n x y v b a1 a2 a3) hx hy rv rw' h
theorem rcE{A:Around}(I:Inv X pins st H s)(r:Rel T μ H σ)(n:Nat)(hu:A.units+n+1<cLine){x y:D}{v w:V}{v' w':Value}{b:Bool}(hx:Rep T μ H x v)(hy:Rep T μ H y w)(rv:yhf v v')(rw':yhf w w')(h:eqE σ n x y=some b):zvf A s v' w' b:=by
 cases n with
 |zero=>cases h
 |succ n=>
  unfold eqE at h;cases e1:yib σ x with
  |some k1=>
   cases e2:yib σ y with
   |some k2=>
    rw[e1,e2]at h;dsimp only at h;split at h
    ·next hc=>
     rw[Bool.and_eq_true]at hc;cases h;obtain⟨a,va,rfl,h1,g1⟩:=yav r hx e1;obtain⟨c,vb,rfl,h2,g2⟩:=yav r hy e2;obtain⟨rfl,hi⟩:=zlh g1 g2 hc.1;cases rv;cases rw';exact zo7 I (by omega) h1 h2 hi (zrg g1 hc.2)
    ·cases h
   |none=>rw[e1,e2]at h;cases h
  |none=>
   cases e2:yib σ y with
   |some k2=>rw[e1,e2]at h;cases h
   |none=>
    rw[e1,e2]at h;exact rcK I r (by omega) (fun x y v w v' w' b a1 a2 a3 a4 a5=>zwn I r n A.in1 x y v w v' w' b (by show A.units+1+n+1<cLine;omega) a1 a2 a3 a4 a5) hx hy rv rw' h
end
section
variable{T:Tb}{X:Cx}
def yjr(x y:D):M D:=fun σ=>match eqE σ 8 x y with
 |some b=>.ok (.bl b) σ
 |none=>.bad
def ye6(x y:D):M D:=fun σ=>match eqE σ 8 x y with
 |some b=>.ok (.bl (!b)) σ
 |none=>.bad
theorem zss(hu:X.A.units+9<cLine):OpR X (compareOp .NotEq) (rD T ye6):=by
 intro pins s st H v u v' u' Q I rv ru h;obtain⟨E,μ,σ,x,y,r,hx,hy,hp⟩:=h;unfold ye6 at hp;cases e:eqE σ 8 x y with
 |none=>rw[e]at hp;exact hp.elim
 |some b=>
  rw[e]at hp;exact(rcE I r 8 (by omega) hx hy rv ru e).2 X.prog X.w X.xe (EP X pins st Q) ⟨.bl (!b),H,I,rfl,yhc.here hp r (by rw[Rep])⟩
end
end L4
set_option maxHeartbeats 0
namespace K31
open PySem PySem.Spec PyProof.Rows L2 L4
def top(i:Nat):Stmt:=PySem.Challenge.pw_sidebook_k31_the_least_of_all.main.body.getD i (.Pass ⟨0,0,0,0⟩)
def tx0(K:PySem.W.Frag):Tab:=⟨POf K "least_fate",70,35, "least_fate.<locals>.<lambda>"⟩
def tx1(K:PySem.W.Frag):Tab:=⟨POf K "paper",85,27, "paper.<locals>.<lambda>"⟩
def tx(K:PySem.W.Frag):Tx:=⟨[tx0 K,tx1 K],yh1 K⟩
theorem zrv(K:PySem.W.Frag):tx0 K∈(tx K).tbs:=(.head _)
theorem zrw(K:PySem.W.Frag):tx1 K∈(tx K).tbs:=(.tail _ (.head _))
theorem ygd(K:PySem.W.Frag):∀ t∈(tx K).tbs,∃ x∈[("least_fate" : Str),("paper" : Str)],t.P=POf K x:=by
 intro t ht;have h:t∈[tx0 K,tx1 K]:=ht;simp only[List.mem_cons,List.not_mem_nil,or_false]at h;rcases h with rfl|rfl
 ·exact⟨"least_fate",by simp,rfl⟩
 ·exact⟨"paper",by simp,rfl⟩
structure Txt(K:PySem.W.Frag)(mg:Str->Option Value)(ca:Nat->Addr):Prop where
 f__law_cell_at:yb1 K mg "_law_cell_at" (top 22) ["_law_script", "_law_k"]
 f__law_mixed:yb1 K mg "_law_mixed" (top 23) ["_law_cell", "_law_k"]
 f__law_amount:yb1 K mg "_law_amount" (top 24) ["_law_number"]
 f__law_tie:yb1 K mg "_law_tie" (top 25) ["_law_number", "_law_word", "_law_at"]
 f__law_stand:yb1 K mg "_law_stand" (top 26) ["_law_cell", "_law_number", "_law_at"]
 f__law_pot:yb1 K mg "_law_pot" (top 27) ["_law_cell", "_law_at", "_law_k_pot"]
 f__law_view:yb1 K mg "_law_view" (top 28) ["_law_script"]
 f_View___init__:HasM K (ca 0) "__init__" "View.__init__" (yer (top 4) 0) ["self", "every", "look", "words", "pots"] (ca 1)
 f__law_choices:yb1 K mg "_law_choices" (top 32) ["_law_pots"]
 f__law_standing:yb1 K mg "_law_standing" (top 29) ["_law_view_here", "_law_side", "_law_seen", "_law_tie_here"]
 f__law_ties:yb1 K mg "_law_ties" (top 30) ["_law_view_here", "_law_chosen"]
 f__law_sum:yb1 K mg "_law_sum" (top 31) ["_law_ties_here", "_law_word", "_law_fate", "_law_every"]
 f__law_least:yb1 K mg "_law_least" (top 33) ["_law_view_here"]
 f_shown_in_time:yb1 K mg "shown_in_time" (top 1) ["tie", "shown"]
 f_lot_of_paid:yb1 K mg "lot_of_paid" (top 5) ["view", "seen", "tie"]
 f_lot_of_due:yb1 K mg "lot_of_due" (top 6) ["view", "seen", "tie"]
 f_lot_of:yb1 K mg "lot_of" (top 7) ["view", "pot", "tie"]
 f_read_stand:yb1 K mg "read_stand" (top 8) ["view", "pot", "one"]
 f_read_pots:yb1 K mg "read_pots" (top 9) ["view"]
 f_all_choices:yb1 K mg "all_choices" (top 10) ["readings"]
 f_lots_by_word:yb1 K mg "lots_by_word" (top 12) ["reads"]
 f_fates_of:yb1 K mg "fates_of" (top 13) ["lots"]
 f_comes_by_fate:yb1 K mg "comes_by_fate" (top 14) ["lot", "fate", "every"]
 f_sum_by_fate:yb1 K mg "sum_by_fate" (top 15) ["lots", "fate", "every"]
 f_least_fate:zvd K mg "least_fate" (top 16) ["lots", "every"]
 f_sum_of:yb1 K mg "sum_of" (top 17) ["reads", "by_word", "fates", "every"]
 f_least_paper:yb1 K mg "least_paper" (top 18) ["reads", "chosen", "every"]
 f_chosen_readings:yb1 K mg "chosen_readings" (top 11) ["readings", "chosen"]
 f_paper:zvd K mg "paper" (top 19) ["view"]
 f_worth:yb1 K mg "worth" (top 20) ["view"]
 f_law:yb1 K mg "law" (top 34) ["_law_script"]
 n_bool:mg "bool" = none
 n_dict:mg "dict" = none
 n_int:mg "int" = none
 n_isinstance:mg "isinstance" = none
 n_len:mg "len" = none
 n_list:mg "list" = none
 n_max:mg "max" = none
 n_min:mg "min" = none
 n_range:mg "range" = none
 n_sum:mg "sum" = none
 n_tuple:mg "tuple" = none
 n_zip:mg "zip" = none
 c_FIRM:GlT K mg "FIRM" ["won", "sure", "back"]
 cl_View:L2.Cls K (ca 0)
 na_View_every:L2.zve K (ca 0) "every"
 na_View_last_look:L2.zve K (ca 0) "last_look"
 na_View_known:L2.zve K (ca 0) "known"
 na_View_pots:L2.zve K (ca 0) "pots"
 m_View:mg "View" = some (.ref (ca 0))
 mk_View:L2.Mk K (ca 0) (ca 1)
 tb:Tabs K ["least_fate", "paper"]
 bmg:mg "__builtins__" = some (.ref (yh1 K))
 tinj:∀ t∈(tx K).tbs,∀ t'∈(tx K).tbs,t'.P=t.P->t'=t
section
variable{P:Program}{w:World}{K:PySem.W.Frag}{mg:Str->Option Value}{base:Heap}{ca:Nat->Addr}
theorem scD{N P:List Str}{sc:Scope}(a:sc.kind=.function)(b:sc.isCoroutine=false)(c:sc.isGenerator=false)(h:N.Nodup/\N.take P.length=P/\(∀ x∈P,sc.names.lookup x=some .local\/sc.names.lookup x=some .cell)/\∀ y∈sc.names,y.2≠.free):FnScope N P sc:=⟨a,b,c,h.1,h.2.1,h.2.2.1,h.2.2.2⟩
abbrev BD(x q:Str)(s:Stmt)(ps:List Str):Prop:=∀ (kV doc pm:Value) (an:Option Addr) (cdv ct:Value) (us:List Value),us.length=ps.length->bindArgs (PySem.W.fnOf x q (zo4 s) (zo5 s) (zjb s) .none kV doc pm an cdv ct) ⟨us,[]⟩=pure (ps.zip us)
abbrev zbn:Stmt:=top 22
noncomputable def zbe:Ev->M Fl:=
 (ykz (sIf (eT (yid oLt (yik 1) (ycz yjy (ycc (yik 0) yhq)))) (yky (yid oIx (yik 0) (yik 1))) ykw)
 (yky (eC (.int 0))))
noncomputable def f__law_cell_at:List D->M D:=hide fun ds=>frz (run 2 zbe ds)
theorem za6:FnScope ["_law_script", "_law_k"] ["_law_script", "_law_k"] (zjb zbn):=scD rfl rfl rfl (by decide +kernel)
theorem zar:BD "_law_cell_at" "_law_cell_at" zbn ["_law_script", "_law_k"]:=
 fun _ _ _ _ _ _ us hl=>match us,hl with|[_,_],_=>rfl
theorem zaz(Xt:Txt K mg ca):OkF ⟨K,ca,tx K⟩ P w mg base 1 "_law_cell_at" ["_law_script", "_law_k"] f__law_cell_at:=
 OkF.hide (OkF.frz (yfa Xt.f__law_cell_at za6 fun _ _ _ _ _ _ _ hr=>
  (zkk (ydm (zxs yfd yba (zxa 1) (zjx zct (zuj rfl) rfl Xt.n_len PySem.boot_len (zpj (zxa 0) zwv)) (zy3 _)) (zqc (zxq (yc7 yi6 (ya9 rfl) (zxa 0) (zxa 1) (fun _ _=>rfl)))) zqb)
  (zqc (zxq zw0)))))
abbrev zc7:Stmt:=top 23
noncomputable def zcw:Ev->M Fl:=
 (ykz (sIf (eT (yid oEq (yid yj0 (yik 0) (eC (.int 2))) (eC (.int 0)))) (ykz (yk0 2 (yid yjq (yik 0) (eC (.int 2))))
 (ykz (ykv (yk5 (yik 1)) (tgN 3) (yk0 2 (yid yez (yik 2) (eC (.int 2147483647)))))
 (sIf (bOr (eT (yid oEq (yik 1) (eC (.int 0)))) (eT (yid oGt (yik 2) (eC (.int 0))))) (yky (yid yj0 (yik 2) (eC (.int 2147483647)))) ykw))) ykw)
 (ykz (yk0 4 (yid yj0 (yid yj1 (yid yjm (yid yjm (yik 0) (yid yj1 (eC (.int 7919)) (yik 1))) (eC (.int 1))) (eC (.int 48271))) (eC (.int 2147483647))))
 (ykz (yk0 4 (yid yj0 (yid yj1 (yik 4) (yid yjm (yid yjq (yik 4) (eC (.int 1009))) (eC (.int 69621)))) (eC (.int 2147483647))))
 (yky (yid yj0 (yid yj1 (yik 4) (yid yjm (yid yjq (yik 4) (eC (.int 2003))) (eC (.int 40692)))) (eC (.int 2147483629)))))))
noncomputable def f__law_mixed:List D->M D:=hide fun ds=>frz (run 5 zcw ds)
theorem zcj:FnScope ["_law_cell", "_law_k", "_law_left", "_law_j", "_law_number"] ["_law_cell", "_law_k"] (zjb zc7):=scD rfl rfl rfl (by decide +kernel)
theorem zbw:BD "_law_mixed" "_law_mixed" zc7 ["_law_cell", "_law_k"]:=
 fun _ _ _ _ _ _ us hl=>match us,hl with|[_,_],_=>rfl
theorem zb8(Xt:Txt K mg ca):OkF ⟨K,ca,tx K⟩ P w mg base 1 "_law_mixed" ["_law_cell", "_law_k"] f__law_mixed:=
 OkF.hide (OkF.frz (yfa Xt.f__law_mixed zcj fun _ _ _ _ _ _ _ hr=>
  (zkk (ydm (zxs (zzn (hu9 hr)) yk3 (yda zzq zul (zxa 0) zw0) zw0 (zy3 _)) (zkk (zxr (i:=2) zcj.nd rfl (Or.inl rfl) (yda zsr zuh (zxa 0) zw0))
  (zkk (zxp zhp rfl (zj4 rfl Xt.n_range (zxa 1)) (zpr (i:=3) zcj.nd rfl (Or.inl rfl)) (zqc (zxr (i:=2) zcj.nd rfl (Or.inl rfl) (yda zma zm7 (zxa 2) zw0))))
  (zqc (ydm (L2.PW.pt (ydn (zxs (zzn (hu9 hr)) yk3 (zxa 1) zw0 (zy3 _)) (zxy (zxs yfc ya7 (zxa 2) zw0 (zy3 _))))) (zqc (zxq (yda zzq zul (zxa 2) zw0))) zqb)))) zqb)
  (zkk (zxr (i:=4) zcj.nd rfl (Or.inl rfl) (yda zzq zul (yda zzr zum (yda (zsp rfl) yk3 (yda (zsp rfl) yk3 (zxa 0) (yda zzr zum zw0 (zxa 1))) zw0) zw0) zw0))
  (zkk (zxr (i:=4) zcj.nd rfl (Or.inl rfl) (yda zzq zul (yda zzr zum (zxa 4) (yda (zsp rfl) yk3 (yda zsr zuh (zxa 4) zw0) zw0)) zw0))
  (zqc (zxq (yda zzq zul (yda zzr zum (zxa 4) (yda (zsp rfl) yk3 (yda zsr zuh (zxa 4) zw0) zw0)) zw0))))))))
abbrev zcd:Stmt:=top 24
noncomputable def zb2:Ev->M Fl:=
 (ykz (sIf (eT (yid oEq (yid yj0 (yik 0) (eC (.int 3))) (eC (.int 0)))) (yky (yid yjm (eC (.int 1)) (yid yj0 (yid yjq (yik 0) (eC (.int 3))) (eC (.int 9))))) ykw)
 (yky (yid yjm (eC (.int 1)) (yid yj0 (yik 0) (yid yj2 (eC (.int 10)) (eC (.int 12)))))))
noncomputable def f__law_amount:List D->M D:=hide fun ds=>frz (run 1 zb2 ds)
theorem zbq:FnScope ["_law_number"] ["_law_number"] (zjb zcd):=scD rfl rfl rfl (by decide +kernel)
theorem za9:BD "_law_amount" "_law_amount" zcd ["_law_number"]:=
 fun _ _ _ _ _ _ us hl=>match us,hl with|[_],_=>rfl
theorem zbh(Xt:Txt K mg ca):OkF ⟨K,ca,tx K⟩ P w mg base 1 "_law_amount" ["_law_number"] f__law_amount:=
 OkF.hide (OkF.frz (yfa Xt.f__law_amount zbq fun _ _ _ _ _ _ _ hr=>
  (zkk (ydm (zxs (zzn (hu9 hr)) yk3 (yda zzq zul (zxa 0) zw0) zw0 (zy3 _)) (zqc (zxq (yda (zsp rfl) yk3 zw0 (yda zzq zul (yda zsr zuh (zxa 0) zw0) zw0)))) zqb)
  (zqc (zxq (yda (zsp rfl) yk3 zw0 (yda zzq zul (zxa 0) (yda zzt zun zw0 zw0))))))))
abbrev zfg:Stmt:=top 25
noncomputable def zev:Ev->M Fl:=
 (yky (yij (ycc (yid yj0 (yik 0) (eC (.int 2))) (ycc (eFn 1 f__law_amount [] (ycc (yid yjq (yik 0) (eC (.int 2))) yhq)) (ycc (yik 1) (ycc (ycz ye5 (ycc (eC (.int 0)) (ycc (yid yj4 (yid yjm (yik 2) (yid yj0 (yid yjq (yik 0) (eC (.int 7))) (eC (.int 13)))) (eC (.int 4))) yhq))) yhq))))))
noncomputable def f__law_tie:List D->M D:=hide fun ds=>frz (run 3 zev ds)
theorem zec:FnScope ["_law_number", "_law_word", "_law_at"] ["_law_number", "_law_word", "_law_at"] (zjb zfg):=scD rfl rfl rfl (by decide +kernel)
theorem zdj:BD "_law_tie" "_law_tie" zfg ["_law_number", "_law_word", "_law_at"]:=
 fun _ _ _ _ _ _ us hl=>match us,hl with|[_,_,_],_=>rfl
theorem zd1(Xt:Txt K mg ca):OkF ⟨K,ca,tx K⟩ P w mg base 2 "_law_tie" ["_law_number", "_law_word", "_law_at"] f__law_tie:=
 OkF.hide (OkF.frz (yfa Xt.f__law_tie zec fun _ _ _ _ _ _ _ hr=>
  (zqc (zxq (zw9 (zpj (yda zzq zul (zxa 0) zw0) (zpj (zjy (zbh Xt) rfl (hr.mono (by decide)) rfl (zpj (yda zsr zuh (zxa 0) zw0) zwv)) (zpj (zxa 1) (zpj (zjx (zf8 rfl) zna rfl Xt.n_max boot_max (zpj zw0 (zpj (yda zzu zuo (yda (zsp rfl) yk3 (zxa 2) (yda zzq zul (yda zsr zuh (zxa 0) zw0) zw0)) zw0) zwv))) zwv)))))))))
abbrev zc8:Stmt:=top 26
noncomputable def zcx:Ev->M Fl:=
 (ykz (yk0 3 (yii yhq))
 (ykz (yk0 4 (yid oEq (yid yj0 (yid yjq (yik 0) (eC (.int 4))) (eC (.int 8))) (eC (.int 3))))
 (ykz (ykv (yk5 (yid oIx (eLv (ycc (yid yj0 (yik 0) (eC (.int 4))) (ycc (eC (.int 8)) yhq))) (ycz ye2 (ycc (yik 4) yhq)))) (tgN 5) (ykz (yk0 6 (eFn 2 f__law_mixed [] (ycc (yid yjq (yik 0) (eC (.int 4))) (ycc (yik 5) yhq))))
 (ykz (yk0 7 (yid yj0 (yik 6) (yid oIx (eLv (ycc (eC (.int 4)) (ycc (eC (.int 7)) yhq))) (ycz ye2 (ycc (yik 4) yhq)))))
 (sIf (yhx (eT (yid oLt (ycz yjy (ycc (yik 3) yhq)) (eC (.int 6)))) (eT (yid oEq (yie (eLC (yk6 (yik 3)) [7] (tgN 0) (eT (yid oEq (yid oIx (yik 0) (eC (.int 2))) (yik 1))) (yik 0))) (eLv yhq)))) (ykt (yc2 zr8 (yik 3) (ycc (eFn 3 f__law_tie [] (ycc (yid yjq (yik 6) (eC (.int 4))) (ycc (yik 7) (ycc (yik 2) yhq)))) yhq))) ykw))))
 (ykz (yk0 6 (eFn 2 f__law_mixed [] (ycc (yid yjq (yik 0) (eC (.int 4))) (ycc (eC (.int 9)) yhq))))
 (yky (yij (ycc (yik 1) (ycc (yij (ycc (yid yj1 (yid yj0 (yik 6) (eC (.int 3))) (yid yj0 (yid yjq (yik 6) (eC (.int 3))) (yid yj2 (eC (.int 10)) (eC (.int 12))))) (ycc (yid yj0 (yid yjq (yik 6) (eC (.int 7))) (yid yj2 (eC (.int 10)) (eC (.int 12)))) yhq))) (ycc (ycz zzd (ycc (yik 3) yhq)) yhq)))))))))
noncomputable def f__law_stand:List D->M D:=hide fun ds=>frz (run 8 zcx ds)
theorem zck:FnScope ["_law_cell", "_law_number", "_law_at", "_law_ties_here", "_law_many", "_law_k", "_law_part", "_law_word"] ["_law_cell", "_law_number", "_law_at"] (zjb zc8):=scD rfl rfl rfl (by decide +kernel)
theorem zbx:BD "_law_stand" "_law_stand" zc8 ["_law_cell", "_law_number", "_law_at"]:=
 fun _ _ _ _ _ _ us hl=>match us,hl with|[_,_,_],_=>rfl
theorem zb9(Xt:Txt K mg ca):OkF ⟨K,ca,tx K⟩ P w mg base 3 "_law_stand" ["_law_cell", "_law_number", "_law_at"] f__law_stand:=
 OkF.hide (OkF.frz (yfa Xt.f__law_stand zck fun _ _ _ _ _ _ _ hr=>
  (zkk (zxr (i:=3) zck.nd rfl (Or.inl rfl) (zw5 zwv))
  (zkk (zxr (i:=4) zck.nd rfl (Or.inl rfl) (zwx (zzn (hu9 hr)) yk3 (yda zzq zul (yda zsr zuh (zxa 0) zw0) zw0) zw0 (zy3 _)))
  (zkk (zxp zhp rfl (zj4 rfl Xt.n_range (yc7 yi6 (ya9 rfl) (yc9 (zpj (yda zzq zul (zxa 0) zw0) (zpj zw0 zwv))) (zgk zf7 zm8 rfl Xt.n_int boot_int (zpj (zxa 4) zwv)) (fun _ _=>rfl))) (zpr (i:=5) zck.nd rfl (Or.inl rfl)) (zkk (zxr (i:=6) zck.nd rfl (Or.inl rfl) (zjy (zb8 Xt) rfl (hr.mono (by decide)) rfl (zpj (yda zsr zuh (zxa 0) zw0) (zpj (zxa 5) zwv))))
  (zkk (zxr (i:=7) zck.nd rfl (Or.inr rfl) (yda zzq zul (zxa 6) (yc7 yi6 (ya9 rfl) (yc9 (zpj zw0 (zpj zw0 zwv))) (zgk zf7 zm8 rfl Xt.n_int boot_int (zpj (zxa 4) zwv)) (fun _ _=>rfl))))
  (zqc (ydm (L2.PW.pt (zxx (zxs yfd yba (zjx zct (zuj rfl) rfl Xt.n_len PySem.boot_len (zpj (zxa 3) zwv)) zw0 (zy3 _)) (zqe (zxs (zzn (hu9 hr)) yk3 (zwz (yc8 (x:="_law_tie_here") (M':=["_law_word"]) (ix:=[7]) rfl ⟨rfl,rfl,rfl,rfl,rfl,rfl⟩ (zxc rfl (zxa 3)) (fun _ _ _ _ _=>zpr (i:=0) (by show List.Nodup (("_law_tie_here"::["_law_word"]):List Str);decide +kernel) rfl (Or.inl rfl)) (fun _ _ _ _ _=>zpu (zxs (zzn (hu9 hr)) yk3 (yc7 yi6 (ya9 rfl) (zxa 0) zw0 (fun _ _=>rfl)) (zxa 1) (zy3 _))) (fun _ _ _ _ _=>(zxa 0)))) (yc9 zwv) (zy3 _))))) (zqc (zp7 (zpp PySem.F.plainAttrs_list PySem.F.slot_list_append PySem.F.type_list_append zhd zfk (zxa 3) (zpj (zjy (zd1 Xt) rfl (hr.mono (by decide)) rfl (zpj (yda zsr zuh (zxa 6) zw0) (zpj (zxa 7) (zpj (zxa 2) zwv)))) zwv)))) zqb)))))
  (zkk (zxr (i:=6) zck.nd rfl (Or.inl rfl) (zjy (zb8 Xt) rfl (hr.mono (by decide)) rfl (zpj (yda zsr zuh (zxa 0) zw0) (zpj zw0 zwv))))
  (zqc (zxq (zw9 (zpj (zxa 1) (zpj (zw9 (zpj (yda zzr zum (yda zzq zul (zxa 6) zw0) (yda zzq zul (yda zsr zuh (zxa 6) zw0) (yda zzt zun zw0 zw0))) (zpj (yda zzq zul (yda zsr zuh (zxa 6) zw0) (yda zzt zun zw0 zw0)) zwv))) (zpj (zgk zb1 (zh9 rfl) rfl Xt.n_tuple boot_tuple (zpj (zxa 3) zwv)) zwv))))))))))))
abbrev zfe:Stmt:=top 27
noncomputable def zet:Ev->M Fl:=
 (ykz (yk0 3 (yii (ycc (eFn 3 f__law_stand [] (ycc (yid yjq (yik 0) (eC (.int 4))) (ycc (eC (.int 3)) (ycc (yik 1) yhq)))) yhq)))
 (ykz (ykv (yk5 (yid yjm (yid oIx (eLv (ycc (eC (.int 0)) (ycc (eC (.int 1)) (ycc (eC (.int 0)) (ycc (eC (.int 2)) yhq))))) (yid yj0 (yik 0) (eC (.int 4)))) (yid yj1 (eC (.int 7)) (ycz ye2 (ycc (yic (yid oEq (yik 2) (eC (.int 0))) (yid oEq (yid yj0 (yid yjq (yik 0) (eC (.int 4))) (eC (.int 16))) (eC (.int 5)))) yhq))))) (tgN 4) (ykt (yc2 zr8 (yik 3) (ycc (eFn 3 f__law_stand [] (ycc (yid yjm (yid yjq (yik 0) (yid yjm (eC (.int 4)) (yid yj1 (eC (.int 7)) (yik 4)))) (eC (.int 77))) (ycc (yid yjm (eC (.int 4)) (yik 4)) (ycc (yik 1) yhq)))) yhq))))
 (ykz (yk0 5 yc0)
 (ykz (yk0 6 (eFn 2 f__law_mixed [] (ycc (yik 0) (ycc (eC (.int 5)) yhq))))
 (ykz (ykv (yk5 (eC (.int 7))) (tgN 7) (sIf (eT (yid oEq (yid yj0 (yid yjq (yik 6) (yid yjm (eC (.int 1)) (yid yj1 (eC (.int 11)) (yik 7)))) (eC (.int 5))) (eC (.int 0)))) (yfw (ycz ye5 (ycc (eC (.int 0)) (ycc (yid yj4 (yik 1) (yid yj0 (yid yjq (yik 6) (eC (.int 3))) (eC (.int 6)))) yhq))) (yik 5) (yik 7)) ykw))
 (yky (yij (ycc (yid yj0 (yik 6) (eC (.int 2))) (ycc (yik 3) (ycc (yik 5) yhq))))))))))
noncomputable def f__law_pot:List D->M D:=hide fun ds=>frz (run 8 zet ds)
theorem zea:FnScope ["_law_cell", "_law_at", "_law_k_pot", "_law_stands", "_law_k", "_law_seen", "_law_part", "_law_word"] ["_law_cell", "_law_at", "_law_k_pot"] (zjb zfe):=scD rfl rfl rfl (by decide +kernel)
theorem zdh:BD "_law_pot" "_law_pot" zfe ["_law_cell", "_law_at", "_law_k_pot"]:=
 fun _ _ _ _ _ _ us hl=>match us,hl with|[_,_,_],_=>rfl
theorem zdz(Xt:Txt K mg ca):OkF ⟨K,ca,tx K⟩ P w mg base 4 "_law_pot" ["_law_cell", "_law_at", "_law_k_pot"] f__law_pot:=
 OkF.hide (OkF.frz (yfa Xt.f__law_pot zea fun _ _ _ _ _ _ _ hr=>
  (zkk (zxr (i:=3) zea.nd rfl (Or.inl rfl) (zw5 (zpj (zjy (zb9 Xt) rfl (hr.mono (by decide)) rfl (zpj (yda zsr zuh (zxa 0) zw0) (zpj zw0 (zpj (zxa 1) zwv)))) zwv)))
  (zkk (zxp zhp rfl (zj4 rfl Xt.n_range (yda (zsp rfl) yk3 (yc7 yi6 (ya9 rfl) (yc9 (zpj zw0 (zpj zw0 (zpj zw0 (zpj zw0 zwv))))) (yda zzq zul (zxa 0) zw0) (fun _ _=>rfl)) (yda zzr zum zw0 (zgk zf7 zm8 rfl Xt.n_int boot_int (zpj (zww (zwx (zzn (hu9 hr)) yk3 (zxa 2) zw0 (zy3 _)) (zw7 (zwx (zzn (hu9 hr)) yk3 (yda zzq zul (yda zsr zuh (zxa 0) zw0) zw0) zw0 (zy3 _)))) zwv))))) (zpr (i:=4) zea.nd rfl (Or.inl rfl)) (zqc (zp7 (zpp PySem.F.plainAttrs_list PySem.F.slot_list_append PySem.F.type_list_append zhd zfk (zxa 3) (zpj (zjy (zb9 Xt) rfl (hr.mono (by decide)) rfl (zpj (yda (zsp rfl) yk3 (yda zsr zuh (zxa 0) (yda (zsp rfl) yk3 zw0 (yda zzr zum zw0 (zxa 4)))) zw0) (zpj (yda (zsp rfl) yk3 zw0 (zxa 4)) (zpj (zxa 1) zwv)))) zwv)))))
  (zkk (zxr (i:=5) zea.nd rfl (Or.inl rfl) zpn)
  (zkk (zxr (i:=6) zea.nd rfl (Or.inl rfl) (zjy (zb8 Xt) rfl (hr.mono (by decide)) rfl (zpj (zxa 0) (zpj zw0 zwv))))
  (zkk (zxp zhp rfl (zj4 rfl Xt.n_range zw0) (zpr (i:=7) zea.nd rfl (Or.inl rfl)) (zqc (ydm (zxs (zzn (hu9 hr)) yk3 (yda zzq zul (yda zsr zuh (zxa 6) (yda (zsp rfl) yk3 zw0 (yda zzr zum zw0 (zxa 7)))) zw0) zw0 (zy3 _)) (zqc (zp9 (hu9 hr) (zjx (zf8 rfl) zna rfl Xt.n_max boot_max (zpj zw0 (zpj (yda zzu zuo (zxa 1) (yda zzq zul (yda zsr zuh (zxa 6) zw0) zw0)) zwv))) (zxa 5) (zxa 7))) zqb)))
  (zqc (zxq (zw9 (zpj (yda zzq zul (zxa 6) zw0) (zpj (zxa 3) (zpj (zxa 5) zwv)))))))))))))
abbrev zd8:Stmt:=top 28
noncomputable def zdo:Ev->M Fl:=
 (ykz (yk0 1 (yid yjm (eC (.int 1)) (yid yj0 (eFn 2 f__law_cell_at [] (ycc (yik 0) (ycc (eC (.int 0)) yhq))) (eC (.int 6)))))
 (ykz (yk0 2 (yid yjm (eC (.int 4)) (yid yj0 (yid yjq (eFn 2 f__law_cell_at [] (ycc (yik 0) (ycc (eC (.int 0)) yhq))) (eC (.int 6))) (eC (.int 60)))))
 (ykz (yk0 3 (yie (eLC (yk5 (eC (.int 7))) [0] (tgN 0) (eT (yid oEq (yid yj0 (eFn 2 f__law_mixed [] (ycc (eFn 2 f__law_cell_at [] (ycc (yik 1) (ycc (eC (.int 1)) yhq))) (ycc (yik 0) yhq))) (eC (.int 3))) (eC (.int 0)))) (yik 0))))
 (ykz (yk0 4 (yie (eLC (yk5 (yid yj0 (eFn 2 f__law_cell_at [] (ycc (yik 0) (ycc (eC (.int 1)) yhq))) (eC (.int 4)))) [2,0] (tgN 0) ycf (eFn 3 f__law_pot [] (ycc (eFn 2 f__law_cell_at [] (ycc (yik 2) (ycc (yid yjm (eC (.int 2)) (yik 0)) yhq))) (ycc (yik 1) (ycc (yik 0) yhq)))))))
 (yky (yij (ycc (yik 1) (ycc (yik 2) (ycc (yik 3) (ycc (yik 4) yhq))))))))))
noncomputable def f__law_view:List D->M D:=hide fun ds=>frz (run 5 zdo ds)
theorem zdd:FnScope ["_law_script", "_law_every", "_law_at", "_law_words", "_law_pots"] ["_law_script"] (zjb zd8):=scD rfl rfl rfl (by decide +kernel)
theorem zcr:BD "_law_view" "_law_view" zd8 ["_law_script"]:=
 fun _ _ _ _ _ _ us hl=>match us,hl with|[_],_=>rfl
theorem zc3(Xt:Txt K mg ca):OkF ⟨K,ca,tx K⟩ P w mg base 5 "_law_view" ["_law_script"] f__law_view:=
 OkF.hide (OkF.frz (yfa Xt.f__law_view zdd fun _ _ _ _ _ _ _ hr=>
  (zkk (zxr (i:=1) zdd.nd rfl (Or.inl rfl) (yda (zsp rfl) yk3 zw0 (yda zzq zul (zjy (zaz Xt) rfl (hr.mono (by decide)) rfl (zpj (zxa 0) (zpj zw0 zwv))) zw0)))
  (zkk (zxr (i:=2) zdd.nd rfl (Or.inr rfl) (yda (zsp rfl) yk3 zw0 (yda zzq zul (yda zsr zuh (zjy (zaz Xt) rfl (hr.mono (by decide)) rfl (zpj (zxa 0) (zpj zw0 zwv))) zw0) zw0)))
  (zkk (zqa (zkj (i:=3) zdd.nd rfl (Or.inl rfl) (x:="_law_word") (M':=["_law_script"]) (ix:=[0]) rfl ⟨rfl,rfl,rfl,rfl,rfl,rfl⟩ (zj4 rfl Xt.n_range zw0) (fun _ _ _ _ _=>zpr (i:=0) (by show List.Nodup (("_law_word"::["_law_script"]):List Str);decide +kernel) rfl (Or.inl rfl)) (fun _ _ _ _ _=>zpu (zxs (zzn (hu9 hr)) yk3 (yda zzq zul (zjy (zb8 Xt) rfl (hr.mono (by decide)) rfl (zpj (zjy (zaz Xt) rfl (hr.mono (by decide)) rfl (zpj (zxa 1) (zpj zw0 zwv))) (zpj (zxa 0) zwv))) zw0) zw0 (zy3 _))) (fun _ _ _ _ _=>(zxa 0))))
  (zkk (zqa (zkj (i:=4) zdd.nd rfl (Or.inl rfl) (x:="_law_k") (M':=["_law_at", "_law_script"]) (ix:=[2,0]) rfl ⟨rfl,rfl,rfl,rfl,rfl,rfl⟩ (zj4 rfl Xt.n_range (yda zzq zul (zjy (zaz Xt) rfl (hr.mono (by decide)) rfl (zpj (zxa 0) (zpj zw0 zwv))) zw0)) (fun _ _ _ _ _=>zpr (i:=0) (by show List.Nodup (("_law_k"::["_law_at", "_law_script"]):List Str);decide +kernel) rfl (Or.inl rfl)) (fun _ _ _ _ _=>zpt) (fun _ _ _ _ _=>(zjy (zdz Xt) rfl (hr.mono (by decide)) rfl (zpj (zjy (zaz Xt) rfl (hr.mono (by decide)) rfl (zpj (zxa 2) (zpj (yda (zsp rfl) yk3 zw0 (zxa 0)) zwv))) (zpj (zxa 1) (zpj (zxa 0) zwv)))))))
  (zqc (zxq (zw9 (zpj (zxa 1) (zpj (zxa 2) (zpj (zxa 3) (zpj (zxa 4) zwv)))))))))))))
abbrev za2:Stmt:=yer (top 4) 0
noncomputable def zau:Ev->M Fl:=
 (ykz (ykx [0] "every" (yik 1) (yik 0))
 (ykz (ykx [0] "last_look" (yik 2) (yik 0))
 (ykz (ykx [0] "known" (yie (ycz ye4 (ycc (yik 3) yhq))) (yik 0))
 (ykx [0] "pots" (yie (eLC (yk6 (yik 4)) [] (tgN 0) ycf (yij (ycc (yid oIx (yik 0) (eC (.int 0))) (ycc (yie (ycz ye4 (ycc (yid oIx (yik 0) (eC (.int 1))) yhq))) (ycc (ycz yjp (ycc (yid oIx (yik 0) (eC (.int 2))) yhq)) yhq)))))) (yik 0)))))
noncomputable def f_View___init__:List D->M D:=hide (run 5 zau)
theorem zan:FnScope ["self", "every", "look", "words", "pots"] ["self", "every", "look", "words", "pots"] (zjb za2):=scD rfl rfl rfl (by decide +kernel)
theorem zaf:BD "__init__" "View.__init__" za2 ["self", "every", "look", "words", "pots"]:=
 fun _ _ _ _ _ _ us hl=>match us,hl with|[_,_,_,_,_],_=>rfl
theorem zaj(Xt:Txt K mg ca):OkA ⟨K,ca,tx K⟩ P w mg base 1 (ca 1) ["self", "every", "look", "words", "pots"] f_View___init__:=
 OkA.hide (zzg Xt.f_View___init__ zan fun _ _ _ _ _ _ hr=>
  (zkk (zxo rfl (zka (T:=⟨K,ca,tx K⟩) (c:=0) Xt.cl_View Xt.na_View_every zpw) (zxa 0) (zxa 1))
  (zkk (zxo rfl (zka (T:=⟨K,ca,tx K⟩) (c:=0) Xt.cl_View Xt.na_View_last_look zpw) (zxa 0) (zxa 2))
  (zkk (zxo rfl (zka (T:=⟨K,ca,tx K⟩) (c:=0) Xt.cl_View Xt.na_View_known zpw) (zxa 0) (zwz (zgk zcu (zm9 rfl) rfl Xt.n_list boot_list (zpj (zxa 3) zwv))))
  (zqc (zxo rfl (zka (T:=⟨K,ca,tx K⟩) (c:=0) Xt.cl_View Xt.na_View_pots zpw) (zxa 0) (zwz (yc8 (x:="pot") (M':=[]) (ix:=[]) rfl ⟨rfl,rfl,rfl,rfl,rfl,rfl⟩ (zxc rfl (zxa 4)) (fun _ _ _ _ _=>zpr (i:=0) (by show List.Nodup (("pot"::[]):List Str);decide +kernel) rfl (Or.inl rfl)) (fun _ _ _ _ _=>zpt) (fun _ _ _ _ _=>(zw9 (zpj (yc7 yi6 (ya9 rfl) (zxa 0) zw0 (fun _ _=>rfl)) (zpj (zwz (zgk zcu (zm9 rfl) rfl Xt.n_list boot_list (zpj (yc7 yi6 (ya9 rfl) (zxa 0) zw0 (fun _ _=>rfl)) zwv))) (zpj (zgk zi0 zuf rfl Xt.n_dict boot_dict (zpj (yc7 yi6 (ya9 rfl) (zxa 0) zw0 (fun _ _=>rfl)) zwv)) zwv)))))))))))))
abbrev zbo:Stmt:=top 32
noncomputable def zbf:Ev->M Fl:=
 (ykz (yk0 1 (eLv (ycc (eLv yhq) yhq)))
 (ykz (ykv (yk6 (yik 0)) (tgT 3 (ybh (tgN 2) (ybh (tgN 3) (ybh (tgN 4) ygf)))) (ykz (yk0 5 (eLv yhq))
 (ykz (ykv (yk5 (ycz yjy (ycc (yik 3) yhq))) (tgN 6) (yk0 5 (yid yjm (yik 5) (yie (eLC (yk6 (yik 1)) [6] (tgN 0) ycf (yid yjm (yik 0) (eLv (ycc (yik 1) yhq))))))))
 (yk0 1 (yik 5)))))
 (yky (yik 1))))
noncomputable def f__law_choices:List D->M D:=hide fun ds=>frz (run 7 zbf ds)
theorem za7:FnScope ["_law_pots", "_law_found", "_law_side", "_law_stands", "_law_seen", "_law_longer", "_law_at"] ["_law_pots"] (zjb zbo):=scD rfl rfl rfl (by decide +kernel)
theorem zas:BD "_law_choices" "_law_choices" zbo ["_law_pots"]:=
 fun _ _ _ _ _ _ us hl=>match us,hl with|[_],_=>rfl
theorem za0(Xt:Txt K mg ca):OkF ⟨K,ca,tx K⟩ P w mg base 1 "_law_choices" ["_law_pots"] f__law_choices:=
 OkF.hide (OkF.frz (yfa Xt.f__law_choices za7 fun _ _ _ _ _ _ _ hr=>
  (zkk (zxr (i:=1) za7.nd rfl (Or.inl rfl) (yc9 (zpj (yc9 zwv) zwv)))
  (zkk (zxp zhp rfl (zxc rfl (zxa 0)) (zxb rfl (zj2 (zpr (i:=2) za7.nd rfl (Or.inl rfl)) (zj2 (zpr (i:=3) za7.nd rfl (Or.inl rfl)) (zj2 (zpr (i:=4) za7.nd rfl (Or.inl rfl)) zps)))) (zkk (zxr (i:=5) za7.nd rfl (Or.inl rfl) (yc9 zwv))
  (zkk (zxp zhp rfl (zj4 rfl Xt.n_range (zjx zct (zuj rfl) rfl Xt.n_len PySem.boot_len (zpj (zxa 3) zwv))) (zpr (i:=6) za7.nd rfl (Or.inr rfl)) (zqc (zxr (i:=5) za7.nd rfl (Or.inl rfl) (yda (zsp rfl) yk3 (zxa 5) (zwz (yc8 (x:="_law_one") (M':=["_law_at"]) (ix:=[6]) rfl ⟨rfl,rfl,rfl,rfl,rfl,rfl⟩ (zxc rfl (zxa 1)) (fun _ _ _ _ _=>zpr (i:=0) (by show List.Nodup (("_law_one"::["_law_at"]):List Str);decide +kernel) rfl (Or.inl rfl)) (fun _ _ _ _ _=>zpt) (fun _ _ _ _ _=>(yda (zsp rfl) yk3 (zxa 0) (yc9 (zpj (zxa 1) zwv))))))))))
  (zqc (zxr (i:=1) za7.nd rfl (Or.inl rfl) (zxa 5))))))
  (zqc (zxq (zxa 1)))))))
abbrev za3:Stmt:=top 29
noncomputable def zav:Ev->M Fl:=
 (ykz (ykr (yik 0) (tgT 4 (ybh (tgN 4) (ybh (tgN 5) (ybh (tgN 6) (ybh (tgN 7) ygf))))))
 (ykz (sIf (yhx (eT (yid yjo (yid oIx (yik 3) (eC (.int 2))) (yik 2))) (eT (yid oLt (yid yew (yik 2) (yid oIx (yik 3) (eC (.int 2)))) (yid oIx (yik 3) (eC (.int 3)))))) (yky (yid oIx (eLv (ycc (eC (.str "won")) (ycc (eC (.str "lost")) yhq))) (ycz ye2 (ycc (yid oEq (yid oIx (yik 3) (eC (.int 0))) (yik 1)) yhq)))) ykw)
 (ykz (sIf (eT (yid oGe (yik 5) (yid oIx (yik 3) (eC (.int 3))))) (yky (yid oIx (eLv (ycc (eC (.str "gone")) (ycc (eC (.str "back")) yhq))) (ycz ye2 (ycc (yid oEq (yid oIx (yik 3) (eC (.int 0))) (yik 1)) yhq)))) ykw)
 (ykz (sIf (eT (yid oEq (yid oIx (yik 3) (eC (.int 0))) (yik 1))) (yky (eC (.str "open"))) ykw)
 (ykz (sIf (yhx (eT (yid (oIn false) (yid oIx (yik 3) (eC (.int 2))) (yik 6))) (eT (yid oLt (yid yjm (yik 5) (yik 4)) (yid oIx (yik 3) (eC (.int 3)))))) (yky (eC (.str "sure"))) ykw)
 (yky (eC (.str "hangs"))))))))
noncomputable def f__law_standing:List D->M D:=hide fun ds=>frz (run 8 zav ds)
theorem zao:FnScope ["_law_view_here", "_law_side", "_law_seen", "_law_tie_here", "_law_every", "_law_at", "_law_words", "_law_pots"] ["_law_view_here", "_law_side", "_law_seen", "_law_tie_here"] (zjb za3):=scD rfl rfl rfl (by decide +kernel)
theorem zag:BD "_law_standing" "_law_standing" za3 ["_law_view_here", "_law_side", "_law_seen", "_law_tie_here"]:=
 fun _ _ _ _ _ _ us hl=>match us,hl with|[_,_,_,_],_=>rfl
theorem zak(Xt:Txt K mg ca):OkF ⟨K,ca,tx K⟩ P w mg base 1 "_law_standing" ["_law_view_here", "_law_side", "_law_seen", "_law_tie_here"] f__law_standing:=
 OkF.hide (OkF.frz (yfa Xt.f__law_standing zao fun _ _ _ _ _ _ _ hr=>
  (zkk (zxm (zxa 0) (zxb rfl (zj2 (zpr (i:=4) zao.nd rfl (Or.inl rfl)) (zj2 (zpr (i:=5) zao.nd rfl (Or.inl rfl)) (zj2 (zpr (i:=6) zao.nd rfl (Or.inl rfl)) (zj2 (zpr (i:=7) zao.nd rfl (Or.inl rfl)) zps))))))
  (zkk (ydm (L2.PW.pt (zxx (zxs (zzm (hu9 hr)) zug (yc7 yi6 (ya9 rfl) (zxa 3) zw0 (fun _ _=>rfl)) (zxa 2) rfl) (zqe (zxs yfd yba (zpm (hu9 hr) (zxa 2) (yc7 yi6 (ya9 rfl) (zxa 3) zw0 (fun _ _=>rfl)) (fun _ _=>rfl)) (yc7 yi6 (ya9 rfl) (zxa 3) zw0 (fun _ _=>rfl)) (zy3 _))))) (zqc (zxq (yc7 yi6 (ya9 rfl) (yc9 (zpj zw8 (zpj zw8 zwv))) (zgk zf7 zm8 rfl Xt.n_int boot_int (zpj (zwx (zzn (hu9 hr)) yk3 (yc7 yi6 (ya9 rfl) (zxa 3) zw0 (fun _ _=>rfl)) (zxa 1) (zy3 _)) zwv)) (fun _ _=>rfl)))) zqb)
  (zkk (ydm (zxs yfb ya6 (zxa 5) (yc7 yi6 (ya9 rfl) (zxa 3) zw0 (fun _ _=>rfl)) (zy3 _)) (zqc (zxq (yc7 yi6 (ya9 rfl) (yc9 (zpj zw8 (zpj zw8 zwv))) (zgk zf7 zm8 rfl Xt.n_int boot_int (zpj (zwx (zzn (hu9 hr)) yk3 (yc7 yi6 (ya9 rfl) (zxa 3) zw0 (fun _ _=>rfl)) (zxa 1) (zy3 _)) zwv)) (fun _ _=>rfl)))) zqb)
  (zkk (ydm (zxs (zzn (hu9 hr)) yk3 (yc7 yi6 (ya9 rfl) (zxa 3) zw0 (fun _ _=>rfl)) (zxa 1) (zy3 _)) (zqc (zxq zw8)) zqb)
  (zkk (ydm (L2.PW.pt (zxx (zxs zhm (ya8 rfl false) (yc7 yi6 (ya9 rfl) (zxa 3) zw0 (fun _ _=>rfl)) (zxa 6) rfl) (zqe (zxs yfd yba (yda (zsp rfl) yk3 (zxa 5) (zxa 4)) (yc7 yi6 (ya9 rfl) (zxa 3) zw0 (fun _ _=>rfl)) (zy3 _))))) (zqc (zxq zw8)) zqb)
  (zqc (zxq zw8)))))))))
abbrev zd7:Stmt:=top 30
noncomputable def zdn:Ev->M Fl:=
 (ykz (yk0 2 (yii yhq))
 (ykz (ykv (yk5 (ycz yjy (ycc (yik 1) yhq))) (tgN 3) (ykz (ykr (yid oIx (yid oIx (yik 0) (eC (.int 3))) (yik 3)) (tgT 3 (ybh (tgN 4) (ybh (tgN 5) (ybh (tgN 6) ygf)))))
 (ykv (yk6 (yid oIx (yid oIx (yik 5) (yid oIx (yik 1) (yik 3))) (eC (.int 2)))) (tgN 7) (ykt (yc2 zr8 (yik 2) (ycc (yij (ycc (eFn 4 f__law_standing [] (ycc (yik 0) (ycc (yik 4) (ycc (yik 6) (ycc (yik 7) yhq))))) (ycc (yik 7) yhq))) yhq))))))
 (yky (yik 2))))
noncomputable def f__law_ties:List D->M D:=hide fun ds=>frz (run 8 zdn ds)
theorem zdc:FnScope ["_law_view_here", "_law_chosen", "_law_found", "_law_k", "_law_side", "_law_stands", "_law_seen", "_law_tie_here"] ["_law_view_here", "_law_chosen"] (zjb zd7):=scD rfl rfl rfl (by decide +kernel)
theorem zcq:BD "_law_ties" "_law_ties" zd7 ["_law_view_here", "_law_chosen"]:=
 fun _ _ _ _ _ _ us hl=>match us,hl with|[_,_],_=>rfl
theorem zc2(Xt:Txt K mg ca):OkF ⟨K,ca,tx K⟩ P w mg base 2 "_law_ties" ["_law_view_here", "_law_chosen"] f__law_ties:=
 OkF.hide (OkF.frz (yfa Xt.f__law_ties zdc fun _ _ _ _ _ _ _ hr=>
  (zkk (zxr (i:=2) zdc.nd rfl (Or.inl rfl) (zw5 zwv))
  (zkk (zxp zhp rfl (zj4 rfl Xt.n_range (zjx zct (zuj rfl) rfl Xt.n_len PySem.boot_len (zpj (zxa 1) zwv))) (zpr (i:=3) zdc.nd rfl (Or.inl rfl)) (zkk (zxm (yc7 yi6 (ya9 rfl) (yc7 yi6 (ya9 rfl) (zxa 0) zw0 (fun _ _=>rfl)) (zxa 3) (fun _ _=>rfl)) (zxb rfl (zj2 (zpr (i:=4) zdc.nd rfl (Or.inl rfl)) (zj2 (zpr (i:=5) zdc.nd rfl (Or.inl rfl)) (zj2 (zpr (i:=6) zdc.nd rfl (Or.inl rfl)) zps)))))
  (zqc (zxp zhp rfl (zxc rfl (yc7 yi6 (ya9 rfl) (yc7 yi6 (ya9 rfl) (zxa 5) (yc7 yi6 (ya9 rfl) (zxa 1) (zxa 3) (fun _ _=>rfl)) (fun _ _=>rfl)) zw0 (fun _ _=>rfl))) (zpr (i:=7) zdc.nd rfl (Or.inl rfl)) (zqc (zp7 (zpp PySem.F.plainAttrs_list PySem.F.slot_list_append PySem.F.type_list_append zhd zfk (zxa 2) (zpj (zw9 (zpj (zjy (zak Xt) rfl (hr.mono (by decide)) rfl (zpj (zxa 0) (zpj (zxa 4) (zpj (zxa 6) (zpj (zxa 7) zwv))))) (zpj (zxa 7) zwv))) zwv))))))))
  (zqc (zxq (zxa 2)))))))
abbrev zff:Stmt:=top 31
noncomputable def zeu:Ev->M Fl:=
 (ykz (yk0 4 (eC (.int 0)))
 (ykz (ykv (yk6 (yik 0)) (tgT 2 (ybh (tgN 5) (ybh (tgN 6) ygf))) (sIf (eT (yid oEq (yid oIx (yik 6) (eC (.int 2))) (yik 1))) (ykz (sIf (eT (yid (oIn false) (yik 5) (eLv (ycc (eC (.str "won")) (ycc (eC (.str "sure")) (ycc (eC (.str "back")) yhq)))))) (yk0 4 (yid yjm (yik 4) (yid oIx (yik 6) (eC (.int 1))))) ykw)
 (ykz (sIf (yhx (eT (yid oEq (yik 5) (eC (.str "open")))) (bOr (eT (yid yjx (yik 2) (eC .non))) (eT (yid oGt (yik 2) (yid oIx (yik 6) (eC (.int 3))))))) (yk0 4 (yid yjm (yik 4) (yid oIx (yik 6) (eC (.int 1))))) ykw)
 (sIf (yhx (eT (yid oEq (yik 5) (eC (.str "hangs")))) (yhx (eT (yid ye7 (yik 2) (eC .non))) (eT (yid oLt (yid yjm (yid yj4 (yik 2) (eC (.int 1))) (yik 3)) (yid oIx (yik 6) (eC (.int 3))))))) (yk0 4 (yid yjm (yik 4) (yid oIx (yik 6) (eC (.int 1))))) ykw))) ykw))
 (yky (yik 4))))
noncomputable def f__law_sum:List D->M D:=hide fun ds=>frz (run 7 zeu ds)
theorem zeb:FnScope ["_law_ties_here", "_law_word", "_law_fate", "_law_every", "_law_total", "_law_standing_here", "_law_tie_here"] ["_law_ties_here", "_law_word", "_law_fate", "_law_every"] (zjb zff):=scD rfl rfl rfl (by decide +kernel)
theorem zdi:BD "_law_sum" "_law_sum" zff ["_law_ties_here", "_law_word", "_law_fate", "_law_every"]:=
 fun _ _ _ _ _ _ us hl=>match us,hl with|[_,_,_,_],_=>rfl
theorem zd0(Xt:Txt K mg ca):OkF ⟨K,ca,tx K⟩ P w mg base 1 "_law_sum" ["_law_ties_here", "_law_word", "_law_fate", "_law_every"] f__law_sum:=
 OkF.hide (OkF.frz (yfa Xt.f__law_sum zeb fun _ _ _ _ _ _ _ hr=>
  (zkk (zxr (i:=4) zeb.nd rfl (Or.inl rfl) zw0)
  (zkk (zxp zhp rfl (zxc rfl (zxa 0)) (zxb rfl (zj2 (zpr (i:=5) zeb.nd rfl (Or.inl rfl)) (zj2 (zpr (i:=6) zeb.nd rfl (Or.inl rfl)) zps))) (zqc (ydm (zxs (zzn (hu9 hr)) yk3 (yc7 yi6 (ya9 rfl) (zxa 6) zw0 (fun _ _=>rfl)) (zxa 1) (zy3 _)) (zkk (ydm (zxs zhm (ya8 rfl false) (zxa 5) (yc9 (zpj zw8 (zpj zw8 (zpj zw8 zwv)))) rfl) (zqc (zxr (i:=4) zeb.nd rfl (Or.inl rfl) (yda (zsp rfl) yk3 (zxa 4) (yc7 yi6 (ya9 rfl) (zxa 6) zw0 (fun _ _=>rfl))))) zqb)
  (zkk (ydm (L2.PW.pt (zxx (zxs (zzn (hu9 hr)) yk3 (zxa 5) zw8 (zy3 _)) (zqe (L2.PW.pt (ydn (zxs zzp zui (zxa 2) zw6 (zy3 _)) (zxy (zxs yfc ya7 (zxa 2) (yc7 yi6 (ya9 rfl) (zxa 6) zw0 (fun _ _=>rfl)) (zy3 _)))))))) (zqc (zxr (i:=4) zeb.nd rfl (Or.inl rfl) (yda (zsp rfl) yk3 (zxa 4) (yc7 yi6 (ya9 rfl) (zxa 6) zw0 (fun _ _=>rfl))))) zqb)
  (zqc (ydm (L2.PW.pt (zxx (zxs (zzn (hu9 hr)) yk3 (zxa 5) zw8 (zy3 _)) (zxx (zxs zst znb (zxa 2) zw6 (zy3 _)) (zqe (zxs yfd yba (yda (zsp rfl) yk3 (yda zzu zuo (zxa 2) zw0) (zxa 3)) (yc7 yi6 (ya9 rfl) (zxa 6) zw0 (fun _ _=>rfl)) (zy3 _)))))) (zqc (zxr (i:=4) zeb.nd rfl (Or.inl rfl) (yda (zsp rfl) yk3 (zxa 4) (yc7 yi6 (ya9 rfl) (zxa 6) zw0 (fun _ _=>rfl))))) zqb)))) zqb)))
  (zqc (zxq (zxa 4)))))))
abbrev zc6:Stmt:=top 33
noncomputable def zcv:Ev->M Fl:=
 (ykz (yk0 1 (eC .non))
 (ykz (ykv (yk6 (eFn 1 f__law_choices [] (ycc (yid oIx (yik 0) (eC (.int 3))) yhq))) (tgN 2) (ykz (yk0 3 (eFn 2 f__law_ties [] (ycc (yik 0) (ycc (yik 2) yhq))))
 (ykz (yk0 4 (ycz yj5 (ycc (yie (eLC (yk5 (ycz yjy (ycc (yik 2) yhq))) [2,0] (tgN 0) ycf (yid oIx (yid oIx (yid oIx (yid oIx (yid oIx (yid oIx (yik 2) (eC (.int 3))) (yik 0)) (eC (.int 1))) (yid oIx (yik 1) (yik 0))) (eC (.int 1))) (yid oIx (yid oIx (yid oIx (yik 2) (eC (.int 3))) (yik 0)) (eC (.int 0)))))) yhq)))
 (ykz (ykv (yk5 (eC (.int 7))) (tgN 5) (ykz (yk0 6 (yid yjm (eLv (ycc (eC .non) yhq)) (yie (yif (yk6 (yik 3)) [5] (tgT 2 (ybh (tgN 0) (ybh (tgN 1) ygf))) (yhx (eT (yid oEq (yid oIx (yik 1) (eC (.int 2))) (yik 2))) (eT (yid oEq (yik 0) (eC (.str "open"))))) (yid oIx (yik 1) (eC (.int 3)))))))
 (yk0 4 (yid yjm (yik 4) (ycz (yjz mnL) (ycc (yie (eLC (yk6 (yik 6)) [3,5,0] (tgN 0) ycf (eFn 4 f__law_sum [] (ycc (yik 1) (ycc (yik 2) (ycc (yik 0) (ycc (yid oIx (yik 3) (eC (.int 0))) yhq))))))) yhq))))))
 (sIf (bOr (eT (yid yjx (yik 1) (eC .non))) (eT (yid oLt (yik 4) (yik 1)))) (yk0 1 (yik 4)) ykw)))))
 (yky (yik 1))))
noncomputable def f__law_least:List D->M D:=hide fun ds=>frz (run 7 zcv ds)
theorem zci:FnScope ["_law_view_here", "_law_best", "_law_chosen", "_law_ties_here", "_law_total", "_law_word", "_law_fates"] ["_law_view_here"] (zjb zc6):=scD rfl rfl rfl (by decide +kernel)
theorem zbv:BD "_law_least" "_law_least" zc6 ["_law_view_here"]:=
 fun _ _ _ _ _ _ us hl=>match us,hl with|[_],_=>rfl
theorem zb7(Xt:Txt K mg ca):OkF ⟨K,ca,tx K⟩ P w mg base 3 "_law_least" ["_law_view_here"] f__law_least:=
 OkF.hide (OkF.frz (yfa Xt.f__law_least zci fun _ _ _ _ _ _ _ hr=>
  (zkk (zxr (i:=1) zci.nd rfl (Or.inl rfl) zw6)
  (zkk (zxp zhp rfl (zxc rfl (zjy (za0 Xt) rfl (hr.mono (by decide)) rfl (zpj (yc7 yi6 (ya9 rfl) (zxa 0) zw0 (fun _ _=>rfl)) zwv))) (zpr (i:=2) zci.nd rfl (Or.inr rfl)) (zkk (zxr (i:=3) zci.nd rfl (Or.inr rfl) (zjy (zc2 Xt) rfl (hr.mono (by decide)) rfl (zpj (zxa 0) (zpj (zxa 2) zwv))))
  (zkk (zxr (i:=4) zci.nd rfl (Or.inl rfl) (zjx (zga rfl) (zup rfl) rfl Xt.n_sum boot_sum (zpj (zwz (yc8 (x:="_law_k") (M':=["_law_chosen", "_law_view_here"]) (ix:=[2,0]) rfl ⟨rfl,rfl,rfl,rfl,rfl,rfl⟩ (zj4 rfl Xt.n_range (zjx zct (zuj rfl) rfl Xt.n_len PySem.boot_len (zpj (zxa 2) zwv))) (fun _ _ _ _ _=>zpr (i:=0) (by show List.Nodup (("_law_k"::["_law_chosen", "_law_view_here"]):List Str);decide +kernel) rfl (Or.inl rfl)) (fun _ _ _ _ _=>zpt) (fun _ _ _ _ _=>(yc7 yi6 (ya9 rfl) (yc7 yi6 (ya9 rfl) (yc7 yi6 (ya9 rfl) (yc7 yi6 (ya9 rfl) (yc7 yi6 (ya9 rfl) (yc7 yi6 (ya9 rfl) (zxa 2) zw0 (fun _ _=>rfl)) (zxa 0) (fun _ _=>rfl)) zw0 (fun _ _=>rfl)) (yc7 yi6 (ya9 rfl) (zxa 1) (zxa 0) (fun _ _=>rfl)) (fun _ _=>rfl)) zw0 (fun _ _=>rfl)) (yc7 yi6 (ya9 rfl) (yc7 yi6 (ya9 rfl) (yc7 yi6 (ya9 rfl) (zxa 2) zw0 (fun _ _=>rfl)) (zxa 0) (fun _ _=>rfl)) zw0 (fun _ _=>rfl)) (fun _ _=>rfl))))) zwv)))
  (zkk (zxp zhp rfl (zj4 rfl Xt.n_range zw0) (zpr (i:=5) zci.nd rfl (Or.inr rfl)) (zkk (zxr (i:=6) zci.nd rfl (Or.inl rfl) (yda (zsp rfl) yk3 (yc9 (zpj zw6 zwv)) (zwz (zw2 (x:="_law_standing_here") (z0:="_law_tie_here") (M':=["_law_word"]) (ix:=[5]) rfl ⟨rfl,rfl,rfl,rfl,rfl,rfl⟩ (zxc rfl (zxa 3)) (fun _ _ _ _ _=>zxb rfl (zj2 (zpr (i:=0) (by show List.Nodup (("_law_standing_here"::"_law_tie_here"::["_law_word"]):List Str);decide +kernel) rfl (Or.inl rfl)) (zj2 (zpr (i:=1) (by show List.Nodup (("_law_standing_here"::"_law_tie_here"::["_law_word"]):List Str);decide +kernel) rfl (Or.inl rfl)) zps))) (fun _ _ _ _ _=>zpu (L2.PW.pt (zxx (zxs (zzn (hu9 hr)) yk3 (yc7 yi6 (ya9 rfl) (zxa 1) zw0 (fun _ _=>rfl)) (zxa 2) (zy3 _)) (zqe (zxs (zzn (hu9 hr)) yk3 (zxa 0) zw8 (zy3 _)))))) (fun _ _ _ _ _=>(yc7 yi6 (ya9 rfl) (zxa 1) zw0 (fun _ _=>rfl)))))))
  (zqc (zxr (i:=4) zci.nd rfl (Or.inl rfl) (yda (zsp rfl) yk3 (zxa 4) (zjx (zf9 rfl) (zuk rfl) rfl Xt.n_min boot_min (zpj (zwz (yc8 (x:="_law_fate") (M':=["_law_ties_here", "_law_word", "_law_view_here"]) (ix:=[3,5,0]) rfl ⟨rfl,rfl,rfl,rfl,rfl,rfl⟩ (zxc rfl (zxa 6)) (fun _ _ _ _ _=>zpr (i:=0) (by show List.Nodup (("_law_fate"::["_law_ties_here", "_law_word", "_law_view_here"]):List Str);decide +kernel) rfl (Or.inl rfl)) (fun _ _ _ _ _=>zpt) (fun _ _ _ _ _=>(zjy (zd0 Xt) rfl (hr.mono (by decide)) rfl (zpj (zxa 1) (zpj (zxa 2) (zpj (zxa 0) (zpj (yc7 yi6 (ya9 rfl) (zxa 3) zw0 (fun _ _=>rfl)) zwv)))))))) zwv)))))))
  (zqc (ydm (L2.PW.pt (ydn (zxs zzp zui (zxa 1) zw6 (zy3 _)) (zxy (zxs yfd yba (zxa 4) (zxa 1) (zy3 _))))) (zqc (zxr (i:=1) zci.nd rfl (Or.inl rfl) (zxa 4))) zqb))))))
  (zqc (zxq (zxa 1)))))))
abbrev za5:Stmt:=top 1
noncomputable def zax:Ev->M Fl:=
 (yky (yic (yid yjo (yid oIx (yik 0) (eC (.int 2))) (yik 1)) (yid oLt (yid yew (yik 1) (yid oIx (yik 0) (eC (.int 2)))) (yid oIx (yik 0) (eC (.int 3))))))
noncomputable def f_shown_in_time:List D->M D:=hide fun ds=>frz (run 2 zax ds)
theorem zaq:FnScope ["tie", "shown"] ["tie", "shown"] (zjb za5):=scD rfl rfl rfl (by decide +kernel)
theorem zai:BD "shown_in_time" "shown_in_time" za5 ["tie", "shown"]:=
 fun _ _ _ _ _ _ us hl=>match us,hl with|[_,_],_=>rfl
theorem zam(Xt:Txt K mg ca):OkF ⟨K,ca,tx K⟩ P w mg base 1 "shown_in_time" ["tie", "shown"] f_shown_in_time:=
 OkF.hide (OkF.frz (yfa Xt.f_shown_in_time zaq fun _ _ _ _ _ _ _ hr=>
  (zqc (zxq (zww (zwx (zzm (hu9 hr)) zug (yc7 yi6 (ya9 rfl) (zxa 0) zw0 (fun _ _=>rfl)) (zxa 1) rfl) (zw7 (zwx yfd yba (zpm (hu9 hr) (zxa 1) (yc7 yi6 (ya9 rfl) (zxa 0) zw0 (fun _ _=>rfl)) (fun _ _=>rfl)) (yc7 yi6 (ya9 rfl) (zxa 0) zw0 (fun _ _=>rfl)) (zy3 _))))))))
abbrev zcg:Stmt:=top 5
noncomputable def zb5:Ev->M Fl:=
 (ykz (sIf (eT (eFn 2 f_shown_in_time [] (ycc (yik 2) (ycc (yik 1) yhq)))) (yky (eC (.str "lost"))) ykw)
 (ykz (sIf (eT (yid oGe (eUn (yjt [0] "last_look") (yik 0)) (yid oIx (yik 2) (eC (.int 3))))) (yky (eC (.str "back"))) ykw)
 (yky (eC (.str "open")))))
noncomputable def f_lot_of_paid:List D->M D:=hide fun ds=>frz (run 3 zb5 ds)
theorem zbt:FnScope ["view", "seen", "tie"] ["view", "seen", "tie"] (zjb zcg):=scD rfl rfl rfl (by decide +kernel)
theorem zbc:BD "lot_of_paid" "lot_of_paid" zcg ["view", "seen", "tie"]:=
 fun _ _ _ _ _ _ us hl=>match us,hl with|[_,_,_],_=>rfl
theorem zbk(Xt:Txt K mg ca):OkF ⟨K,ca,tx K⟩ P w mg base 2 "lot_of_paid" ["view", "seen", "tie"] f_lot_of_paid:=
 OkF.hide (OkF.frz (yfa Xt.f_lot_of_paid zbt fun _ _ _ _ _ _ _ hr=>
  (zkk (ydm (zxv (zjy (zam Xt) rfl (hr.mono (by decide)) rfl (zpj (zxa 2) (zpj (zxa 1) zwv)))) (zqc (zxq zw8)) zqb)
  (zkk (ydm (zxs yfb ya6 (zwy rfl (zka (T:=⟨K,ca,tx K⟩) (c:=0) Xt.cl_View Xt.na_View_last_look zpw) (zxa 0)) (yc7 yi6 (ya9 rfl) (zxa 2) zw0 (fun _ _=>rfl)) (zy3 _)) (zqc (zxq zw8)) zqb)
  (zqc (zxq zw8))))))
abbrev zda:Stmt:=top 6
noncomputable def zcz:Ev->M Fl:=
 (ykz (sIf (eT (eFn 2 f_shown_in_time [] (ycc (yik 2) (ycc (yik 1) yhq)))) (yky (eC (.str "won"))) ykw)
 (ykz (sIf (eT (yid oGe (eUn (yjt [0] "last_look") (yik 0)) (yid oIx (yik 2) (eC (.int 3))))) (yky (eC (.str "gone"))) ykw)
 (ykz (sIf (yhx (eT (yid (yju false) (yid oIx (yik 2) (eC (.int 2))) (eUn (yjt [0] "known") (yik 0)))) (eT (yid oLt (yid yjm (eUn (yjt [0] "last_look") (yik 0)) (eUn (yjt [0] "every") (yik 0))) (yid oIx (yik 2) (eC (.int 3)))))) (yky (eC (.str "sure"))) ykw)
 (yky (eC (.str "hangs"))))))
noncomputable def f_lot_of_due:List D->M D:=hide fun ds=>frz (run 3 zcz ds)
theorem zcn:FnScope ["view", "seen", "tie"] ["view", "seen", "tie"] (zjb zda):=scD rfl rfl rfl (by decide +kernel)
theorem zbz:BD "lot_of_due" "lot_of_due" zda ["view", "seen", "tie"]:=
 fun _ _ _ _ _ _ us hl=>match us,hl with|[_,_,_],_=>rfl
theorem zcb(Xt:Txt K mg ca):OkF ⟨K,ca,tx K⟩ P w mg base 2 "lot_of_due" ["view", "seen", "tie"] f_lot_of_due:=
 OkF.hide (OkF.frz (yfa Xt.f_lot_of_due zcn fun _ _ _ _ _ _ _ hr=>
  (zkk (ydm (zxv (zjy (zam Xt) rfl (hr.mono (by decide)) rfl (zpj (zxa 2) (zpj (zxa 1) zwv)))) (zqc (zxq zw8)) zqb)
  (zkk (ydm (zxs yfb ya6 (zwy rfl (zka (T:=⟨K,ca,tx K⟩) (c:=0) Xt.cl_View Xt.na_View_last_look zpw) (zxa 0)) (yc7 yi6 (ya9 rfl) (zxa 2) zw0 (fun _ _=>rfl)) (zy3 _)) (zqc (zxq zw8)) zqb)
  (zkk (ydm (L2.PW.pt (zxx (zxs (zzo rfl (hu9 hr)) yk3 (yc7 yi6 (ya9 rfl) (zxa 2) zw0 (fun _ _=>rfl)) (zwy rfl (zka (T:=⟨K,ca,tx K⟩) (c:=0) Xt.cl_View Xt.na_View_known zpw) (zxa 0)) rfl) (zqe (zxs yfd yba (yda (zsp rfl) yk3 (zwy rfl (zka (T:=⟨K,ca,tx K⟩) (c:=0) Xt.cl_View Xt.na_View_last_look zpw) (zxa 0)) (zwy rfl (zka (T:=⟨K,ca,tx K⟩) (c:=0) Xt.cl_View Xt.na_View_every zpw) (zxa 0))) (yc7 yi6 (ya9 rfl) (zxa 2) zw0 (fun _ _=>rfl)) (zy3 _))))) (zqc (zxq zw8)) zqb)
  (zqc (zxq zw8)))))))
abbrev zmv:Stmt:=top 7
noncomputable def zkl:Ev->M Fl:=
 (ykz (sIf (eT (yid oEq (yid oIx (yik 2) (eC (.int 0))) (yid oIx (yik 1) (eC (.int 0))))) (yky (eFn 3 f_lot_of_paid [] (ycc (yik 0) (ycc (yid oIx (yik 1) (eC (.int 2))) (ycc (yik 2) yhq))))) ykw)
 (yky (eFn 3 f_lot_of_due [] (ycc (yik 0) (ycc (yid oIx (yik 1) (eC (.int 2))) (ycc (yik 2) yhq))))))
noncomputable def f_lot_of:List D->M D:=hide fun ds=>frz (run 3 zkl ds)
theorem zh1:FnScope ["view", "pot", "tie"] ["view", "pot", "tie"] (zjb zmv):=scD rfl rfl rfl (by decide +kernel)
theorem zfx:BD "lot_of" "lot_of" zmv ["view", "pot", "tie"]:=
 fun _ _ _ _ _ _ us hl=>match us,hl with|[_,_,_],_=>rfl
theorem zhk(Xt:Txt K mg ca):OkF ⟨K,ca,tx K⟩ P w mg base 3 "lot_of" ["view", "pot", "tie"] f_lot_of:=
 OkF.hide (OkF.frz (yfa Xt.f_lot_of zh1 fun _ _ _ _ _ _ _ hr=>
  (zkk (ydm (zxs (zzn (hu9 hr)) yk3 (yc7 yi6 (ya9 rfl) (zxa 2) zw0 (fun _ _=>rfl)) (yc7 yi6 (ya9 rfl) (zxa 1) zw0 (fun _ _=>rfl)) (zy3 _)) (zqc (zxq (zjy (zbk Xt) rfl (hr.mono (by decide)) rfl (zpj (zxa 0) (zpj (yc7 yi6 (ya9 rfl) (zxa 1) zw0 (fun _ _=>rfl)) (zpj (zxa 2) zwv)))))) zqb)
  (zqc (zxq (zjy (zcb Xt) rfl (hr.mono (by decide)) rfl (zpj (zxa 0) (zpj (yc7 yi6 (ya9 rfl) (zxa 1) zw0 (fun _ _=>rfl)) (zpj (zxa 2) zwv)))))))))
abbrev zdb:Stmt:=top 8
noncomputable def zc0:Ev->M Fl:=
 (ykz (yk0 3 (yid oIx (yid oIx (yik 2) (eC (.int 1))) (yid oIx (yik 1) (eC (.int 0)))))
 (ykz (yk0 4 yc0)
 (ykz (ykv (yk6 (yid oIx (yik 2) (eC (.int 2)))) (tgN 5) (ykz (yk0 6 (eFn 3 f_lot_of [] (ycc (yik 0) (ycc (yik 1) (ycc (yik 5) yhq)))))
 (ykz (yfw (yij (ycc (yik 6) (ycc (yid oIx (yik 5) (eC (.int 1))) (ycc (yid oIx (yik 5) (eC (.int 3))) yhq)))) (yik 4) (yid oIx (yik 5) (eC (.int 2))))
 (sIf (eT (eUn (yjv false ["won", "sure", "back"]) (yik 6))) (yks (fun a b=>a+b) 3 (yid oIx (yik 5) (eC (.int 1)))) ykw))))
 (yky (yij (ycc (yik 3) (ycc (yik 4) yhq)))))))
noncomputable def f_read_stand:List D->M D:=hide fun ds=>frz (run 7 zc0 ds)
theorem zco:FnScope ["view", "pot", "one", "firm", "lots", "tie", "lot"] ["view", "pot", "one"] (zjb zdb):=scD rfl rfl rfl (by decide +kernel)
theorem zb0:BD "read_stand" "read_stand" zdb ["view", "pot", "one"]:=
 fun _ _ _ _ _ _ us hl=>match us,hl with|[_,_,_],_=>rfl
theorem zcc(Xt:Txt K mg ca):OkF ⟨K,ca,tx K⟩ P w mg base 4 "read_stand" ["view", "pot", "one"] f_read_stand:=
 OkF.hide (OkF.frz (yfa Xt.f_read_stand zco fun _ _ _ _ _ _ _ hr=>
  (zkk (zxr (i:=3) zco.nd rfl (Or.inl rfl) (yc7 yi6 (ya9 rfl) (yc7 yi6 (ya9 rfl) (zxa 2) zw0 (fun _ _=>rfl)) (yc7 yi6 (ya9 rfl) (zxa 1) zw0 (fun _ _=>rfl)) (fun _ _=>rfl)))
  (zkk (zxr (i:=4) zco.nd rfl (Or.inl rfl) zpn)
  (zkk (zxp zhp rfl (zxc rfl (yc7 yi6 (ya9 rfl) (zxa 2) zw0 (fun _ _=>rfl))) (zpr (i:=5) zco.nd rfl (Or.inl rfl)) (zkk (zxr (i:=6) zco.nd rfl (Or.inl rfl) (zjy (zhk Xt) rfl (hr.mono (by decide)) rfl (zpj (zxa 0) (zpj (zxa 1) (zpj (zxa 5) zwv)))))
  (zkk (zp9 (hu9 hr) (zw9 (zpj (zxa 6) (zpj (yc7 yi6 (ya9 rfl) (zxa 5) zw0 (fun _ _=>rfl)) (zpj (yc7 yi6 (ya9 rfl) (zxa 5) zw0 (fun _ _=>rfl)) zwv)))) (zxa 4) (yc7 yi6 (ya9 rfl) (zxa 5) zw0 (fun _ _=>rfl)))
  (zqc (ydm (zxt (ss:=["won", "sure", "back"]) rfl Xt.c_FIRM (zxa 6)) (zqc (zxn (i:=3) zx9 zco.nd rfl (Or.inl rfl) (yc7 yi6 (ya9 rfl) (zxa 5) zw0 (fun _ _=>rfl)))) zqb)))))
  (zqc (zxq (zw9 (zpj (zxa 3) (zpj (zxa 4) zwv))))))))))
abbrev zd9:Stmt:=top 9
noncomputable def zdp:Ev->M Fl:=
 (ykz (yk0 1 (yii yhq))
 (ykz (ykv (yk6 (eUn (yjt [0] "pots") (yik 0))) (tgN 2) (ykt (yc2 zr8 (yik 1) (ycc (yie (eLC (yk6 (yid oIx (yik 2) (eC (.int 1)))) [0,2] (tgN 0) ycf (eFn 3 f_read_stand [] (ycc (yik 1) (ycc (yik 2) (ycc (yik 0) yhq)))))) yhq))))
 (yky (yik 1))))
noncomputable def f_read_pots:List D->M D:=hide fun ds=>frz (run 3 zdp ds)
theorem zdf:FnScope ["view", "readings", "pot"] ["view"] (zjb zd9):=scD rfl rfl rfl (by decide +kernel)
theorem zcs:BD "read_pots" "read_pots" zd9 ["view"]:=
 fun _ _ _ _ _ _ us hl=>match us,hl with|[_],_=>rfl
theorem zc4(Xt:Txt K mg ca):OkF ⟨K,ca,tx K⟩ P w mg base 5 "read_pots" ["view"] f_read_pots:=
 OkF.hide (OkF.frz (yfa Xt.f_read_pots zdf fun _ _ _ _ _ _ _ hr=>
  (zkk (zxr (i:=1) zdf.nd rfl (Or.inl rfl) (zw5 zwv))
  (zkk (zxp zhp rfl (zxc rfl (zwy rfl (zka (T:=⟨K,ca,tx K⟩) (c:=0) Xt.cl_View Xt.na_View_pots zpw) (zxa 0))) (zpr (i:=2) zdf.nd rfl (Or.inr rfl)) (zqc (zp7 (zpp PySem.F.plainAttrs_list PySem.F.slot_list_append PySem.F.type_list_append zhd zfk (zxa 1) (zpj (zwz (yc8 (x:="one") (M':=["view", "pot"]) (ix:=[0,2]) rfl ⟨rfl,rfl,rfl,rfl,rfl,rfl⟩ (zxc rfl (yc7 yi6 (ya9 rfl) (zxa 2) zw0 (fun _ _=>rfl))) (fun _ _ _ _ _=>zpr (i:=0) (by show List.Nodup (("one"::["view", "pot"]):List Str);decide +kernel) rfl (Or.inl rfl)) (fun _ _ _ _ _=>zpt) (fun _ _ _ _ _=>(zjy (zcc Xt) rfl (hr.mono (by decide)) rfl (zpj (zxa 1) (zpj (zxa 2) (zpj (zxa 0) zwv))))))) zwv)))))
  (zqc (zxq (zxa 1)))))))
abbrev zce:Stmt:=top 10
noncomputable def zb3:Ev->M Fl:=
 (ykz (yk0 1 (eLv (ycc (eLv yhq) yhq)))
 (ykz (ykv (yk6 (yik 0)) (tgN 2) (ykz (yk0 3 (yii yhq))
 (ykz (ykv (yk6 (yik 1)) (tgN 4) (ykt (yc2 zse (yik 3) (ycc (yie (eLC (yk5 (ycz yjy (ycc (yik 2) yhq))) [4] (tgN 0) ycf (yid yjm (yik 1) (eLv (ycc (yik 0) yhq))))) yhq))))
 (yk0 1 (yik 3)))))
 (yky (yik 1))))
noncomputable def f_all_choices:List D->M D:=hide fun ds=>frz (run 5 zb3 ds)
theorem zbr:FnScope ["readings", "choices", "stands", "longer", "chosen"] ["readings"] (zjb zce):=scD rfl rfl rfl (by decide +kernel)
theorem zba:BD "all_choices" "all_choices" zce ["readings"]:=
 fun _ _ _ _ _ _ us hl=>match us,hl with|[_],_=>rfl
theorem zbi(Xt:Txt K mg ca):OkF ⟨K,ca,tx K⟩ P w mg base 1 "all_choices" ["readings"] f_all_choices:=
 OkF.hide (OkF.frz (yfa Xt.f_all_choices zbr fun _ _ _ _ _ _ _ hr=>
  (zkk (zxr (i:=1) zbr.nd rfl (Or.inl rfl) (yc9 (zpj (yc9 zwv) zwv)))
  (zkk (zxp zhp rfl (zxc rfl (zxa 0)) (zpr (i:=2) zbr.nd rfl (Or.inl rfl)) (zkk (zxr (i:=3) zbr.nd rfl (Or.inl rfl) (zw5 zwv))
  (zkk (zxp zhp rfl (zxc rfl (zxa 1)) (zpr (i:=4) zbr.nd rfl (Or.inr rfl)) (zqc (zp7 (zpp PySem.F.plainAttrs_list PySem.F.slot_list_extend PySem.F.type_list_extend zhe zfm (zxa 3) (zpj (zwz (yc8 (x:="place") (M':=["chosen"]) (ix:=[4]) rfl ⟨rfl,rfl,rfl,rfl,rfl,rfl⟩ (zj4 rfl Xt.n_range (zjx zct (zuj rfl) rfl Xt.n_len PySem.boot_len (zpj (zxa 2) zwv))) (fun _ _ _ _ _=>zpr (i:=0) (by show List.Nodup (("place"::["chosen"]):List Str);decide +kernel) rfl (Or.inl rfl)) (fun _ _ _ _ _=>zpt) (fun _ _ _ _ _=>(yda (zsp rfl) yk3 (zxa 1) (yc9 (zpj (zxa 0) zwv)))))) zwv)))))
  (zqc (zxr (i:=1) zbr.nd rfl (Or.inl rfl) (zxa 3))))))
  (zqc (zxq (zxa 1)))))))
abbrev zbp:Stmt:=top 12
noncomputable def zbg:Ev->M Fl:=
 (ykz (yk0 1 yc0)
 (ykz (ykv (yk6 (yik 0)) (tgN 2) (yfv (yk4 (yid oIx (yik 2) (eC (.int 1)))) (tgT 2 (ybh (tgN 3) (ybh (tgN 4) ygf))) (ykt (yc2 zr8 (zwf zsm (yik 1) (ycc (yik 3) (ycc (yii yhq) yhq))) (ycc (yik 4) yhq)))))
 (yky (yik 1))))
noncomputable def f_lots_by_word:List D->M D:=hide fun ds=>frz (run 5 zbg ds)
theorem za8:FnScope ["reads", "by_word", "read", "word", "lot"] ["reads"] (zjb zbp):=scD rfl rfl rfl (by decide +kernel)
theorem zat:BD "lots_by_word" "lots_by_word" zbp ["reads"]:=
 fun _ _ _ _ _ _ us hl=>match us,hl with|[_],_=>rfl
theorem za1(Xt:Txt K mg ca):OkF ⟨K,ca,tx K⟩ P w mg base 1 "lots_by_word" ["reads"] f_lots_by_word:=
 OkF.hide (OkF.frz (yfa Xt.f_lots_by_word za8 fun _ _ _ _ _ _ _ hr=>
  (zkk (zxr (i:=1) za8.nd rfl (Or.inl rfl) zpn)
  (zkk (zxp zhp rfl (zxc rfl (zxa 0)) (zpr (i:=2) za8.nd rfl (Or.inl rfl)) (zqc (zp8 zhp rfl (zj3 (yc7 yi6 (ya9 rfl) (zxa 2) zw0 (fun _ _=>rfl))) (zxb rfl (zj2 (zpr (i:=3) za8.nd rfl (Or.inl rfl)) (zj2 (zpr (i:=4) za8.nd rfl (Or.inl rfl)) zps))) (zqc (zp7 (zpp PySem.F.plainAttrs_list PySem.F.slot_list_append PySem.F.type_list_append zhd zfk (zj1 PySem.F.plainAttrs_dict PySem.F.slot_dict_setdefault PySem.F.type_dict_setdefault zhf zfn (zxa 1) (zpj (zxa 3) (zpj (zw5 zwv) zwv))) (zpj (zxa 4) zwv)))))))
  (zqc (zxq (zxa 1)))))))
abbrev zfh:Stmt:=top 13
noncomputable def zew:Ev->M Fl:=
 (yky (yid yjm (eLv (ycc (eC .non) yhq)) (yie (eLC (yk6 (yik 0)) [] (tgN 0) (eT (yid oEq (yid oIx (yik 0) (eC (.int 0))) (eC (.str "open")))) (yid oIx (yik 0) (eC (.int 2)))))))
noncomputable def f_fates_of:List D->M D:=hide fun ds=>frz (run 1 zew ds)
theorem zed:FnScope ["lots"] ["lots"] (zjb zfh):=scD rfl rfl rfl (by decide +kernel)
theorem zdk:BD "fates_of" "fates_of" zfh ["lots"]:=
 fun _ _ _ _ _ _ us hl=>match us,hl with|[_],_=>rfl
theorem zd2(Xt:Txt K mg ca):OkF ⟨K,ca,tx K⟩ P w mg base 1 "fates_of" ["lots"] f_fates_of:=
 OkF.hide (OkF.frz (yfa Xt.f_fates_of zed fun _ _ _ _ _ _ _ hr=>
  (zqc (zxq (yda (zsp rfl) yk3 (yc9 (zpj zw6 zwv)) (zwz (yc8 (x:="lot") (M':=[]) (ix:=[]) rfl ⟨rfl,rfl,rfl,rfl,rfl,rfl⟩ (zxc rfl (zxa 0)) (fun _ _ _ _ _=>zpr (i:=0) (by show List.Nodup (("lot"::[]):List Str);decide +kernel) rfl (Or.inl rfl)) (fun _ _ _ _ _=>zpu (zxs (zzn (hu9 hr)) yk3 (yc7 yi6 (ya9 rfl) (zxa 0) zw0 (fun _ _=>rfl)) zw8 (zy3 _))) (fun _ _ _ _ _=>(yc7 yi6 (ya9 rfl) (zxa 0) zw0 (fun _ _=>rfl))))))))))
abbrev za4:Stmt:=top 14
noncomputable def zaw:Ev->M Fl:=
 (ykz (sIf (eT (yid oEq (yid oIx (yik 0) (eC (.int 0))) (eC (.str "open")))) (yky (eOr (yid yjx (yik 1) (eC .non)) (yid oGt (yik 1) (yid oIx (yik 0) (eC (.int 2)))))) ykw)
 (yky (yic (yid oEq (yid oIx (yik 0) (eC (.int 0))) (eC (.str "hangs"))) (yic (yid ye7 (yik 1) (eC .non)) (yid oLt (yid yjm (yid yj4 (yik 1) (eC (.int 1))) (yik 2)) (yid oIx (yik 0) (eC (.int 2))))))))
noncomputable def f_comes_by_fate:List D->M D:=hide fun ds=>frz (run 3 zaw ds)
theorem zap:FnScope ["lot", "fate", "every"] ["lot", "fate", "every"] (zjb za4):=scD rfl rfl rfl (by decide +kernel)
theorem zah:BD "comes_by_fate" "comes_by_fate" za4 ["lot", "fate", "every"]:=
 fun _ _ _ _ _ _ us hl=>match us,hl with|[_,_,_],_=>rfl
theorem zal(Xt:Txt K mg ca):OkF ⟨K,ca,tx K⟩ P w mg base 1 "comes_by_fate" ["lot", "fate", "every"] f_comes_by_fate:=
 OkF.hide (OkF.frz (yfa Xt.f_comes_by_fate zap fun _ _ _ _ _ _ _ hr=>
  (zkk (ydm (zxs (zzn (hu9 hr)) yk3 (yc7 yi6 (ya9 rfl) (zxa 0) zw0 (fun _ _=>rfl)) zw8 (zy3 _)) (zqc (zxq (ydb (zwx zzp zui (zxa 1) zw6 (zy3 _)) (zw7 (zwx yfc ya7 (zxa 1) (yc7 yi6 (ya9 rfl) (zxa 0) zw0 (fun _ _=>rfl)) (zy3 _)))))) zqb)
  (zqc (zxq (zww (zwx (zzn (hu9 hr)) yk3 (yc7 yi6 (ya9 rfl) (zxa 0) zw0 (fun _ _=>rfl)) zw8 (zy3 _)) (zww (zwx zst znb (zxa 1) zw6 (zy3 _)) (zw7 (zwx yfd yba (yda (zsp rfl) yk3 (yda zzu zuo (zxa 1) zw0) (zxa 2)) (yc7 yi6 (ya9 rfl) (zxa 0) zw0 (fun _ _=>rfl)) (zy3 _))))))))))
abbrev zch:Stmt:=top 15
noncomputable def zb6:Ev->M Fl:=
 (yky (ycz yj5 (ycc (yie (eLC (yk6 (yik 0)) [1,2] (tgN 0) (eT (eFn 3 f_comes_by_fate [] (ycc (yik 0) (ycc (yik 1) (ycc (yik 2) yhq))))) (yid oIx (yik 0) (eC (.int 1))))) yhq)))
noncomputable def f_sum_by_fate:List D->M D:=hide fun ds=>frz (run 3 zb6 ds)
theorem zbu:FnScope ["lots", "fate", "every"] ["lots", "fate", "every"] (zjb zch):=scD rfl rfl rfl (by decide +kernel)
theorem zbd:BD "sum_by_fate" "sum_by_fate" zch ["lots", "fate", "every"]:=
 fun _ _ _ _ _ _ us hl=>match us,hl with|[_,_,_],_=>rfl
theorem zbl(Xt:Txt K mg ca):OkF ⟨K,ca,tx K⟩ P w mg base 2 "sum_by_fate" ["lots", "fate", "every"] f_sum_by_fate:=
 OkF.hide (OkF.frz (yfa Xt.f_sum_by_fate zbu fun _ _ _ _ _ _ _ hr=>
  (zqc (zxq (zjx (zga rfl) (zup rfl) rfl Xt.n_sum boot_sum (zpj (zwz (yc8 (x:="lot") (M':=["fate", "every"]) (ix:=[1,2]) rfl ⟨rfl,rfl,rfl,rfl,rfl,rfl⟩ (zxc rfl (zxa 0)) (fun _ _ _ _ _=>zpr (i:=0) (by show List.Nodup (("lot"::["fate", "every"]):List Str);decide +kernel) rfl (Or.inl rfl)) (fun _ _ _ _ _=>zpu (zxv (zjy (zal Xt) rfl (hr.mono (by decide)) rfl (zpj (zxa 0) (zpj (zxa 1) (zpj (zxa 2) zwv)))))) (fun _ _ _ _ _=>(yc7 yi6 (ya9 rfl) (zxa 0) zw0 (fun _ _=>rfl))))) zwv))))))
abbrev zc9:Stmt:=top 16
noncomputable def zcy:Ev->M Fl:=
 (yky (yc3 [0,1] (eFn 3 f_sum_by_fate [] (ycc (yik 1) (ycc (yik 0) (ycc (yik 2) yhq)))) (ycc (eFn 1 f_fates_of [] (ycc (yik 0) yhq)) yhq)))
noncomputable def f_least_fate:List D->M D:=hide fun ds=>frz (run 2 zcy ds)
theorem zcl:FnScope ["lots", "every"] ["lots", "every"] (zjb zc9):=scD rfl rfl rfl (by decide +kernel)
theorem zby:BD "least_fate" "least_fate" zc9 ["lots", "every"]:=
 fun _ _ _ _ _ _ us hl=>match us,hl with|[_,_],_=>rfl
theorem zca(Xt:Txt K mg ca):OkF ⟨K,ca,tx K⟩ P w mg base 5 "least_fate" ["lots", "every"] f_least_fate:=
 OkF.hide (OkF.frz (zzi Xt.f_least_fate zcl fun _ _ _ _ _ _ hr=>
  (zqc (zxq (zpq (x:="fate") (M':=["lots", "every"]) (ix:=[0,1]) (t:=tx0 K) (k:=2) (hr.mono (by decide)) ⟨rfl,rfl,rfl,rfl,rfl,rfl⟩ rfl ⟨(zrv K),fun t' ht'=>Xt.tinj _ (zrv K) t' ht',rfl,Xt.tb.hd _ (by decide),rfl,rfl,rfl,Xt.bmg,Xt.tb.bb⟩ rfl Xt.n_min rfl rfl rfl (fun _ _ _ _ _=>rfl) (zpj (zjy (zd2 Xt) rfl (hr.mono (by decide)) rfl (zpj (zxa 0) zwv)) zwv) (fun _ _ _ _ _ hr=>(zjy (zbl Xt) rfl (hr.mono (by decide)) rfl (zpj (zxa 1) (zpj (zxa 0) (zpj (zxa 2) zwv))))))))))
abbrev zmw:Stmt:=top 17
noncomputable def zkm:Ev->M Fl:=
 (ykz (yk0 4 (ycz yj5 (ycc (yie (eLC (yk6 (yik 0)) [] (tgN 0) ycf (yid oIx (yik 0) (eC (.int 0))))) yhq)))
 (ykz (yfv (yk4 (yik 1)) (tgT 2 (ybh (tgN 5) (ybh (tgN 6) ygf))) (yks (fun a b=>a+b) 4 (eFn 3 f_sum_by_fate [] (ycc (yik 6) (ycc (yid yew (yik 2) (yik 5)) (ycc (yik 3) yhq))))))
 (yky (yik 4))))
noncomputable def f_sum_of:List D->M D:=hide fun ds=>frz (run 7 zkm ds)
theorem zh2:FnScope ["reads", "by_word", "fates", "every", "total", "word", "lots"] ["reads", "by_word", "fates", "every"] (zjb zmw):=scD rfl rfl rfl (by decide +kernel)
theorem zfy:BD "sum_of" "sum_of" zmw ["reads", "by_word", "fates", "every"]:=
 fun _ _ _ _ _ _ us hl=>match us,hl with|[_,_,_,_],_=>rfl
theorem zhl(Xt:Txt K mg ca):OkF ⟨K,ca,tx K⟩ P w mg base 3 "sum_of" ["reads", "by_word", "fates", "every"] f_sum_of:=
 OkF.hide (OkF.frz (yfa Xt.f_sum_of zh2 fun _ _ _ _ _ _ _ hr=>
  (zkk (zxr (i:=4) zh2.nd rfl (Or.inl rfl) (zjx (zga rfl) (zup rfl) rfl Xt.n_sum boot_sum (zpj (zwz (yc8 (x:="read") (M':=[]) (ix:=[]) rfl ⟨rfl,rfl,rfl,rfl,rfl,rfl⟩ (zxc rfl (zxa 0)) (fun _ _ _ _ _=>zpr (i:=0) (by show List.Nodup (("read"::[]):List Str);decide +kernel) rfl (Or.inl rfl)) (fun _ _ _ _ _=>zpt) (fun _ _ _ _ _=>(yc7 yi6 (ya9 rfl) (zxa 0) zw0 (fun _ _=>rfl))))) zwv)))
  (zkk (zp8 zhp rfl (zj3 (zxa 1)) (zxb rfl (zj2 (zpr (i:=5) zh2.nd rfl (Or.inl rfl)) (zj2 (zpr (i:=6) zh2.nd rfl (Or.inl rfl)) zps))) (zqc (zxn (i:=4) zx9 zh2.nd rfl (Or.inl rfl) (zjy (zbl Xt) rfl (hr.mono (by decide)) rfl (zpj (zxa 6) (zpj (zpm (hu9 hr) (zxa 2) (zxa 5) (fun _ _=>rfl)) (zpj (zxa 3) zwv)))))))
  (zqc (zxq (zxa 4)))))))
abbrev zcf:Stmt:=top 18
noncomputable def zb4:Ev->M Fl:=
 (ykz (yk0 3 (eFn 1 f_lots_by_word [] (ycc (yik 0) yhq)))
 (ykz (yk0 4 yc0)
 (ykz (yfv (yk4 (yik 3)) (tgT 2 (ybh (tgN 5) (ybh (tgN 6) ygf))) (yfw (eFn 2 f_least_fate [] (ycc (yik 6) (ycc (yik 2) yhq))) (yik 4) (yik 5)))
 (yky (yij (ycc (eFn 4 f_sum_of [] (ycc (yik 0) (ycc (yik 3) (ycc (yik 4) (ycc (yik 2) yhq))))) (ycc (yik 1) (ycc (yik 4) yhq))))))))
noncomputable def f_least_paper:List D->M D:=hide fun ds=>frz (run 7 zb4 ds)
theorem zbs:FnScope ["reads", "chosen", "every", "by_word", "fates", "word", "lots"] ["reads", "chosen", "every"] (zjb zcf):=scD rfl rfl rfl (by decide +kernel)
theorem zbb:BD "least_paper" "least_paper" zcf ["reads", "chosen", "every"]:=
 fun _ _ _ _ _ _ us hl=>match us,hl with|[_,_,_],_=>rfl
theorem zbj(Xt:Txt K mg ca):OkF ⟨K,ca,tx K⟩ P w mg base 6 "least_paper" ["reads", "chosen", "every"] f_least_paper:=
 OkF.hide (OkF.frz (yfa Xt.f_least_paper zbs fun _ _ _ _ _ _ _ hr=>
  (zkk (zxr (i:=3) zbs.nd rfl (Or.inl rfl) (zjy (za1 Xt) rfl (hr.mono (by decide)) rfl (zpj (zxa 0) zwv)))
  (zkk (zxr (i:=4) zbs.nd rfl (Or.inl rfl) zpn)
  (zkk (zp8 zhp rfl (zj3 (zxa 3)) (zxb rfl (zj2 (zpr (i:=5) zbs.nd rfl (Or.inl rfl)) (zj2 (zpr (i:=6) zbs.nd rfl (Or.inl rfl)) zps))) (zqc (zp9 (hu9 hr) (zjy (zca Xt) rfl (hr.mono (by decide)) rfl (zpj (zxa 6) (zpj (zxa 2) zwv))) (zxa 4) (zxa 5))))
  (zqc (zxq (zw9 (zpj (zjy (zhl Xt) rfl (hr.mono (by decide)) rfl (zpj (zxa 0) (zpj (zxa 3) (zpj (zxa 4) (zpj (zxa 2) zwv))))) (zpj (zxa 1) (zpj (zxa 4) zwv)))))))))))
abbrev zae:Stmt:=top 11
noncomputable def zad:Ev->M Fl:=
 (yky (yie (yih (yk7 (yik 0) (yik 1)) [] (tgT 2 (ybh (tgN 0) (ybh (tgN 1) ygf))) ycf (yid oIx (yik 0) (yik 1)))))
noncomputable def f_chosen_readings:List D->M D:=hide fun ds=>frz (run 2 zad ds)
theorem zac:FnScope ["readings", "chosen"] ["readings", "chosen"] (zjb zae):=scD rfl rfl rfl (by decide +kernel)
theorem zaa:BD "chosen_readings" "chosen_readings" zae ["readings", "chosen"]:=
 fun _ _ _ _ _ _ us hl=>match us,hl with|[_,_],_=>rfl
theorem zab(Xt:Txt K mg ca):OkF ⟨K,ca,tx K⟩ P w mg base 1 "chosen_readings" ["readings", "chosen"] f_chosen_readings:=
 OkF.hide (OkF.frz (yfa Xt.f_chosen_readings zac fun _ _ _ _ _ _ _ hr=>
  (zqc (zxq (zwz (zw4 (x:="stands") (z0:="place") (M':=[]) (ix:=[]) rfl ⟨rfl,rfl,rfl,rfl,rfl,rfl⟩ (zxd rfl Xt.n_zip (zxa 0) (zxa 1)) (fun _ _ _ _ _=>zxb rfl (zj2 (zpr (i:=0) (by show List.Nodup (("stands"::"place"::[]):List Str);decide +kernel) rfl (Or.inl rfl)) (zj2 (zpr (i:=1) (by show List.Nodup (("stands"::"place"::[]):List Str);decide +kernel) rfl (Or.inl rfl)) zps))) (fun _ _ _ _ _=>zpt) (fun _ _ _ _ _=>(yc7 yi6 (ya9 rfl) (zxa 0) (zxa 1) (fun _ _=>rfl)))))))))
abbrev zty:Stmt:=top 19
noncomputable def zqi:Ev->M Fl:=
 (ykz (yk0 1 (eFn 1 f_read_pots [] (ycc (yik 0) yhq)))
 (ykz (yk0 2 (yie (eLC (yk6 (eFn 1 f_all_choices [] (ycc (yik 1) yhq))) [1,0] (tgN 0) ycf (eFn 3 f_least_paper [] (ycc (eFn 2 f_chosen_readings [] (ycc (yik 1) (ycc (yik 0) yhq))) (ycc (yik 0) (ycc (eUn (yjt [0] "every") (yik 2)) yhq)))))))
 (yky (yc3 [] (yid oIx (yik 0) (eC (.int 0))) (ycc (yik 2) yhq)))))
noncomputable def f_paper:List D->M D:=hide fun ds=>frz (run 3 zqi ds)
theorem zmx:FnScope ["view", "readings", "papers"] ["view"] (zjb zty):=scD rfl rfl rfl (by decide +kernel)
theorem zis:BD "paper" "paper" zty ["view"]:=
 fun _ _ _ _ _ _ us hl=>match us,hl with|[_],_=>rfl
theorem zl8(Xt:Txt K mg ca):OkF ⟨K,ca,tx K⟩ P w mg base 7 "paper" ["view"] f_paper:=
 OkF.hide (OkF.frz (zzi Xt.f_paper zmx fun _ _ _ _ _ _ hr=>
  (zkk (zxr (i:=1) zmx.nd rfl (Or.inr rfl) (zjy (zc4 Xt) rfl (hr.mono (by decide)) rfl (zpj (zxa 0) zwv)))
  (zkk (zqa (zkj (i:=2) zmx.nd rfl (Or.inl rfl) (x:="chosen") (M':=["readings", "view"]) (ix:=[1,0]) rfl ⟨rfl,rfl,rfl,rfl,rfl,rfl⟩ (zxc rfl (zjy (zbi Xt) rfl (hr.mono (by decide)) rfl (zpj (zxa 1) zwv))) (fun _ _ _ _ _=>zpr (i:=0) (by show List.Nodup (("chosen"::["readings", "view"]):List Str);decide +kernel) rfl (Or.inl rfl)) (fun _ _ _ _ _=>zpt) (fun _ _ _ _ _=>(zjy (zbj Xt) rfl (hr.mono (by decide)) rfl (zpj (zjy (zab Xt) rfl (hr.mono (by decide)) rfl (zpj (zxa 1) (zpj (zxa 0) zwv))) (zpj (zxa 0) (zpj (zwy rfl (zka (T:=⟨K,ca,tx K⟩) (c:=0) Xt.cl_View Xt.na_View_every zpw) (zxa 2)) zwv)))))))
  (zqc (zxq (zpq (x:="told") (M':=[]) (ix:=[]) (t:=tx1 K) (k:=0) (hr.mono (by decide)) ⟨rfl,rfl,rfl,rfl,rfl,rfl⟩ rfl ⟨(zrw K),fun t' ht'=>Xt.tinj _ (zrw K) t' ht',rfl,Xt.tb.hd _ (by decide),rfl,rfl,rfl,Xt.bmg,Xt.tb.bb⟩ rfl Xt.n_min rfl rfl rfl (fun _ _ _ _ _=>rfl) (zpj (zxa 2) zwv) (fun _ _ _ _ _ hr=>(yc7 yi6 (ya9 rfl) (zxa 0) zw0 (fun _ _=>rfl))))))))))
abbrev ztz:Stmt:=top 20
noncomputable def zqj:Ev->M Fl:=
 (yky (yid oIx (eFn 1 f_paper [] (ycc (yik 0) yhq)) (eC (.int 0))))
noncomputable def f_worth:List D->M D:=hide fun ds=>frz (run 1 zqj ds)
theorem zmy:FnScope ["view"] ["view"] (zjb ztz):=scD rfl rfl rfl (by decide +kernel)
theorem zit:BD "worth" "worth" ztz ["view"]:=
 fun _ _ _ _ _ _ us hl=>match us,hl with|[_],_=>rfl
theorem zl9(Xt:Txt K mg ca):OkF ⟨K,ca,tx K⟩ P w mg base 8 "worth" ["view"] f_worth:=
 OkF.hide (OkF.frz (yfa Xt.f_worth zmy fun _ _ _ _ _ _ _ hr=>
  (zqc (zxq (yc7 yi6 (ya9 rfl) (zjy (zl8 Xt) rfl (hr.mono (by decide)) rfl (zpj (zxa 0) zwv)) zw0 (fun _ _=>rfl))))))
abbrev yfx:Stmt:=top 34
noncomputable def ydr:Ev->M Fl:=
 (ykz (yk0 1 (eFn 1 f__law_view [] (ycc (yik 0) yhq)))
 (ykz (yk0 2 (yii (ycc (ycz ye4 (ycc (yid oIx (yik 1) (eC (.int 2))) yhq)) (ycc (yig (yk6 (yid oIx (yik 1) (eC (.int 3)))) [] (tgT 3 (ybh (tgN 0) (ybh (tgN 1) (ybh (tgN 2) ygf)))) ycf (yij (ycc (yik 0) (ycc (ycz ye4 (ycc (yik 1) yhq)) (ycc (ycz yey (ycc (yik 2) yhq)) yhq))))) yhq))))
 (ykz (yk0 3 (yie (yc1 0 5 f_View___init__ (ycc (yid oIx (yik 1) (eC (.int 0))) (ycc (yid oIx (yik 1) (eC (.int 1))) (ycc (yid oIx (yik 2) (eC (.int 0))) (ycc (yid oIx (yik 2) (eC (.int 1))) yhq)))))))
 (ykz (yk0 4 (eFn 1 f__law_least [] (ycc (yik 1) yhq)))
 (ykz (yk0 5 (eFn 1 f_worth [] (ycc (yik 3) yhq)))
 (ykz (sIf (bOr (yhy (eT (eUn (yjw .int) (yik 5)))) (bOr (eT (eUn (yjw .bool) (yik 5))) (eT (yid oNe (yik 5) (yik 4))))) (yky (eC (.bl false))) ykw)
 (ykz (sIf (eT (yid ye6 (yik 2) (eLv (ycc (yid oIx (yik 1) (eC (.int 2))) (ycc (yid oIx (yik 1) (eC (.int 3))) yhq))))) (yky (eC (.bl false))) ykw)
 (ykz (ykv (yk6 (yid oIx (yik 2) (eC (.int 1)))) (tgT 3 (ybh (tgN 6) (ybh (tgN 7) (ybh (tgN 8) ygf)))) (ykz (ykt (yc2 zr9 (yik 7) yhq))
 (yfw (eC (.int 0)) (yik 8) (eC (.int 0)))))
 (ykz (ykt (yc2 zr8 (yid oIx (yik 2) (eC (.int 0))) (ycc (eC (.int 9)) yhq)))
 (ykz (ykt (yc2 zr9 (yid oIx (yik 2) (eC (.int 1))) yhq))
 (yky (yid oEq (eFn 1 f_worth [] (ycc (yik 3) yhq)) (yik 4)))))))))))))
noncomputable def f_law:List D->M D:=run 9 ydr
theorem ya0:FnScope ["_law_script", "_law_view_here", "_law_handed", "_law_asked", "_law_due", "_law_found", "_law_side", "_law_stands", "_law_seen"] ["_law_script"] (zjb yfx):=scD rfl rfl rfl (by decide +kernel)
theorem zvj:BD "law" "law" yfx ["_law_script"]:=
 fun _ _ _ _ _ _ us hl=>match us,hl with|[_],_=>rfl
theorem zzh(Xt:Txt K mg ca):OkL ⟨K,ca,tx K⟩ P w mg 9 "law" ["_law_script"] f_law:=
 zzj Xt.f_law ya0 fun _ _ _ _ _ _ _ _ hr=>
  (zkk (zxr (i:=1) ya0.nd rfl (Or.inl rfl) (zjy (zc3 Xt) rfl (hr.mono (by decide)) rfl (zpj (zxa 0) zwv)))
  (zkk (zxr (i:=2) ya0.nd rfl (Or.inl rfl) (zw5 (zpj (zgk zcu (zm9 rfl) rfl Xt.n_list boot_list (zpj (yc7 yi6 (ya9 rfl) (zxa 1) zw0 (fun _ _=>rfl)) zwv)) (zpj (zw3 (x:="_law_side") (z0:="_law_stands") (z1:="_law_seen") (M':=[]) (ix:=[]) rfl ⟨rfl,rfl,rfl,rfl,rfl,rfl⟩ (zxc rfl (yc7 yi6 (ya9 rfl) (zxa 1) zw0 (fun _ _=>rfl))) (fun _ _ _ _ _=>zxb rfl (zj2 (zpr (i:=0) (by show List.Nodup (("_law_side"::"_law_stands"::"_law_seen"::[]):List Str);decide +kernel) rfl (Or.inl rfl)) (zj2 (zpr (i:=1) (by show List.Nodup (("_law_side"::"_law_stands"::"_law_seen"::[]):List Str);decide +kernel) rfl (Or.inl rfl)) (zj2 (zpr (i:=2) (by show List.Nodup (("_law_side"::"_law_stands"::"_law_seen"::[]):List Str);decide +kernel) rfl (Or.inl rfl)) zps)))) (fun _ _ _ _ _=>zpt) (fun _ _ _ _ _=>(zw9 (zpj (zxa 0) (zpj (zgk zcu (zm9 rfl) rfl Xt.n_list boot_list (zpj (zxa 1) zwv)) (zpj (zgk zi0 zm6 rfl Xt.n_dict boot_dict (zpj (zxa 2) zwv)) zwv)))))) zwv))))
  (zkk (zxr (i:=3) ya0.nd rfl (Or.inl rfl) (zwz (zpo (c:=0) (ps:=["self", "every", "look", "words", "pots"]) ⟨_,Xt.m_View,Xt.mk_View,zaj Xt⟩ rfl (hr.mono (by decide)) rfl (zpj (yc7 yi6 (ya9 rfl) (zxa 1) zw0 (fun _ _=>rfl)) (zpj (yc7 yi6 (ya9 rfl) (zxa 1) zw0 (fun _ _=>rfl)) (zpj (yc7 yi6 (ya9 rfl) (zxa 2) zw0 (fun _ _=>rfl)) (zpj (yc7 yi6 (ya9 rfl) (zxa 2) zw0 (fun _ _=>rfl)) zwv)))))))
  (zkk (zxr (i:=4) ya0.nd rfl (Or.inl rfl) (zjy (zb7 Xt) rfl (hr.mono (by decide)) rfl (zpj (zxa 1) zwv)))
  (zkk (zxr (i:=5) ya0.nd rfl (Or.inl rfl) (zjy (zl9 Xt) rfl (hr.mono (by decide)) rfl (zpj (zxa 3) zwv)))
  (zkk (ydm (L2.PW.pt (ydn (zxu (zxv (zw1 .int (zxa 5) rfl Xt.n_isinstance rfl Xt.n_int boot_int))) (ydn (zxv (zw1 .bool (zxa 5) rfl Xt.n_isinstance rfl Xt.n_bool boot_bool)) (zxy (zxs (zzs (hu9 hr)) yk3 (zxa 5) (zxa 4) (zy3 _)))))) (zqc (zxq yc6)) zqb)
  (zkk (ydm (zxs (zss (hu9 hr)) yk3 (zxa 2) (yc9 (zpj (yc7 yi6 (ya9 rfl) (zxa 1) zw0 (fun _ _=>rfl)) (zpj (yc7 yi6 (ya9 rfl) (zxa 1) zw0 (fun _ _=>rfl)) zwv))) (zy3 _)) (zqc (zxq yc6)) zqb)
  (zkk (zxp zhp rfl (zxc rfl (yc7 yi6 (ya9 rfl) (zxa 2) zw0 (fun _ _=>rfl))) (zxb rfl (zj2 (zpr (i:=6) ya0.nd rfl (Or.inl rfl)) (zj2 (zpr (i:=7) ya0.nd rfl (Or.inl rfl)) (zj2 (zpr (i:=8) ya0.nd rfl (Or.inl rfl)) zps)))) (zkk (zp7 (zj0 PySem.F.plainAttrs_list PySem.F.slot_list_clear PySem.F.type_list_clear L2.mt_clear zfl (zxa 7)))
  (zqc (zp9 (hu9 hr) zw0 (zxa 8) zw0))))
  (zkk (zp7 (zpp PySem.F.plainAttrs_list PySem.F.slot_list_append PySem.F.type_list_append zhd zfk (yc7 yi6 (ya9 rfl) (zxa 2) zw0 (fun _ _=>rfl)) (zpj zw0 zwv)))
  (zkk (zp7 (zj0 PySem.F.plainAttrs_list PySem.F.slot_list_clear PySem.F.type_list_clear L2.mt_clear zfl (yc7 yi6 (ya9 rfl) (zxa 2) zw0 (fun _ _=>rfl))))
  (zqc (zxq (zwx (zzn (hu9 hr)) yk3 (zjy (zl9 Xt) rfl (hr.mono (by decide)) rfl (zpj (zxa 3) zwv)) (zxa 4) (zy3 _))))))))))))))
end
end K31
namespace K31
open PySem L2 L4
set_option maxHeartbeats 4000000
def ycn(ns:List Int)(k:Nat):Int:=ns.getD k 0
theorem zoq(ns:List Int)(k:Int)(hk:0<=k)(σ:Sto):f__law_cell_at [.scr ns,.int k] σ=.ok (.int (ycn ns k.toNat)) σ:=by
 unfold f__law_cell_at zbe ycn;by_cases h:k<ns.length
 ·simp[h,zsh hk h]
 ·have e:ns.length<=k.toNat:=by omega
  simp[h,List.getElem?_eq_none e]
structure Ti where
 p:Int
 a:Int
 w:Int
 d:Int
def Ti.D(t:Ti):L4.D:=.tup [.int t.p,.int t.a,.int t.w,.int t.d]
structure Ti.Ok(t:Ti):Prop where
 p1:0<=t.p
 p2:t.p<=1
 a1:1<=t.a
 a2:t.a<=1000000000000
 w1:0<=t.w
 w2:t.w<=59
 d1:0<=t.d
 d2:t.d<=1000000
@[simp] theorem Ti.cl(t:Ti):L4.cl t.D=true:=by simp[Ti.D]
@[simp] theorem Ti.clL(ts:List Ti):L4.clL (ts.map Ti.D)=true:=zou Ti.cl
structure TsOk(ts:List Ti):Prop where
 ok:∀ t∈ts,t.Ok
 nd:(ts.map (·.w)).Nodup
 len:ts.length<=6
section
variable{α:Type}{xs:List α}{σ:Sto}{ρ:Ev}{ix:List Nat}{fi:Ev->M Bool}{fe:Ev->M D}
theorem zyl{rest:Ev}(f:α->D)(p:α->Bool)(y:α->D)(step:∀ x∈xs,∀ j,fi (some (f x)::rest) (σ++j)=.ok (p x) (σ++j)/\(p x=true->fe (some (f x)::rest) (σ++j)=.ok (y x) (σ++j)))(hl:xs.length<=1000) :
  ∀ (k i:Nat) (o:Option D) (ys:List D),xs.length<k+i->i<=xs.length->ys.length<=i->
   zyo (.seq (xs.map f)) σ.length (tgN 0) fi fe k i (o::rest) (σ++[.lst ys])=.ok () (σ++[.lst (ys++((xs.drop i).filter p).map y)]):=by
 intro k;induction k with
 |zero=>intro i o ys h1 h2;omega
 |succ k ih=>
  intro i o ys h1 h2 hy;unfold zyo;show (match some (xs.map f)[i]? with|none=>_|some none=>_|some (some d)=>_)=_;rw[List.getElem?_map];cases e:xs[i]? with
  |none=>
   have hi:xs.length<=i:=List.getElem?_eq_none_iff.mp e;rw[List.drop_eq_nil_of_le hi];simp
  |some d=>
   obtain⟨hi,ed⟩:=List.getElem?_eq_some_iff.mp e;have hd:xs.drop i=d::xs.drop (i+1):=by rw[<-ed];exact List.drop_eq_getElem_cons hi
   obtain⟨s1,s2⟩:=step d (by rw[<-ed];exact List.getElem_mem hi) [.lst ys];show bnd (nox (fi (some (f d)::rest))) _ _=_;rw[zvp,zy4 s1,zoj];dsimp only[List.set];by_cases hp:p d=true
   ·rw[hp,if_pos rfl,zvp,zy4 (s2 hp),zoj,zvp,zei (by omega),zoj,ih (i+1) (some (f d)) (ys++[y d]) (by omega) (by omega) (by simp;omega),hd,List.filter_cons,if_pos hp];simp
   ·rw[if_neg hp,ih (i+1) (some (f d)) ys (by omega) (by omega) (by omega),hd,List.filter_cons,if_neg hp]
theorem zyk{src:Ev->M Src}(f:α->D)(p:α->Bool)(y:α->D)(hs:src ρ σ=.ok (.seq (xs.map f)) σ)(hl:xs.length<=1000)
  (step:∀ x∈xs,∀ j,fi (some (f x)::(ix.map fun i=>(ρ[i]?).getD none)) (σ++j)=.ok (p x) (σ++j)/\(p x=true->fe (some (f x)::(ix.map fun i=>(ρ[i]?).getD none)) (σ++j)=.ok (y x) (σ++j))) :
  eLC src ix (tgN 0) fi fe ρ σ=.ok (.ref σ.length) (σ++[.lst ((xs.filter p).map y)]):=by
 show bnd (src ρ) (lcK (tgN 0) fi fe (ycg ix ρ)) σ=_;rw[zvp,hs,zoj];show bnd (zyo (.seq (xs.map f)) σ.length (tgN 0) fi fe 1001 0 (none::(ix.map fun i=>(ρ[i]?).getD none))) _ (σ++[.lst []])=_;rw[zvp,zyl f p y step hl 1001 0 none [] (by omega) (by omega) (by simp),zoj];simp
theorem zp4{zs:List D}(h:clL zs=true):yis σ (.ok (.ref σ.length) (σ++[.lst zs]))=.ok (.lst zs) σ:=by
 have:=zkh (σ:=σ) (j:=[]) (j':=[]) h;simpa using this
theorem ycq(p:α->Bool)(y:α->D)(hc:∀ x∈xs,cl (y x)=true):clL ((xs.filter p).map y)=true:=
 zot fun d hd=>by obtain⟨x,hx,rfl⟩:=List.mem_map.mp hd;exact hc x (List.mem_filter.mp hx).1
theorem lcA{src:Ev->M Src}(f:α->D)(p:α->Bool)(y:α->D)(hs:src ρ σ=.ok (.seq (xs.map f)) σ)(hl:xs.length<=1000)
  (step:∀ x∈xs,∀ j,fi (some (f x)::(ix.map fun i=>(ρ[i]?).getD none)) (σ++j)=.ok (p x) (σ++j)/\(p x=true->fe (some (f x)::(ix.map fun i=>(ρ[i]?).getD none)) (σ++j)=.ok (y x) (σ++j))) (hc:∀ x∈xs,cl (y x)=true) :
  yie (eLC src ix (tgN 0) fi fe) ρ σ=.ok (.lst ((xs.filter p).map y)) σ:=by
 show yis σ (eLC src ix (tgN 0) fi fe ρ σ)=_;rw[zyk f p y hs hl step,zp4 (ycq p y hc)]
theorem yja{src:Ev->M Src}(f y:α->D)(hs:src ρ σ=.ok (.seq (xs.map f)) σ)(hl:xs.length<=1000)
  (step:∀ x∈xs,∀ j,fe (some (f x)::(ix.map fun i=>(ρ[i]?).getD none)) (σ++j)=.ok (y x) (σ++j)) (hc:∀ x∈xs,cl (y x)=true) :
  yie (eLC src ix (tgN 0) ycf fe) ρ σ=.ok (.lst (xs.map y)) σ:=by
 have:=lcA f (fun _=>true) y (ix:=ix) (fi:=ycf) hs hl (fun d hd j=>⟨rfl,fun _=>step d hd j⟩) hc;rw[show List.filter (fun _=>true) xs=xs from List.filter_eq_self.mpr fun _ _=>rfl]at this;exact this
theorem zym{rest:Ev}(f g:α->D)(p:α->Bool)(y:α->D)(step:∀ x∈xs,∀ j,fi (some (f x)::some (g x)::rest) (σ++j)=.ok (p x) (σ++j)/\(p x=true->fe (some (f x)::some (g x)::rest) (σ++j)=.ok (y x) (σ++j)))(hl:xs.length<=1000) :
  ∀ (k i:Nat) (o o':Option D) (ys:List D),xs.length<k+i->i<=xs.length->ys.length<=i->
   zyo (.seq (xs.map fun x=>.tup [f x,g x])) σ.length (tgT 2 (ybh (tgN 0) (ybh (tgN 1) ygf))) fi fe k i (o::o'::rest) (σ++[.lst ys])=.ok () (σ++[.lst (ys++((xs.drop i).filter p).map y)]):=by
 intro k;induction k with
 |zero=>intro i o o' ys h1 h2;omega
 |succ k ih=>
  intro i o o' ys h1 h2 hy;unfold zyo;show (match some (xs.map fun x=>D.tup [f x,g x])[i]? with|none=>_|some none=>_|some (some d)=>_)=_;rw[List.getElem?_map];cases e:xs[i]? with
  |none=>
   have hi:xs.length<=i:=List.getElem?_eq_none_iff.mp e;rw[List.drop_eq_nil_of_le hi];simp
  |some d=>
   obtain⟨hi,ed⟩:=List.getElem?_eq_some_iff.mp e;have hd:xs.drop i=d::xs.drop (i+1):=by rw[<-ed];exact List.drop_eq_getElem_cons hi
   obtain⟨s1,s2⟩:=step d (by rw[<-ed];exact List.getElem_mem hi) [.lst ys];show bnd (nox (fi (some (f d)::some (g d)::rest))) _ _=_;rw[zvp,zy4 s1,zoj];by_cases hp:p d=true
   ·rw[hp,if_pos rfl];show bnd (nox (fe (some (f d)::some (g d)::rest))) _ _=_;rw[zvp,zy4 (s2 hp),zoj,zvp,zei (by omega),zoj];show zyo _ _ _ _ _ k (i+1) (some (f d)::some (g d)::rest) _=_;rw[ih (i+1) (some (f d)) (some (g d)) (ys++[y d]) (by omega) (by omega) (by simp;omega),hd,List.filter_cons,if_pos hp];simp
   ·rw[if_neg hp];show zyo _ _ _ _ _ k (i+1) (some (f d)::some (g d)::rest) _=_;rw[ih (i+1) (some (f d)) (some (g d)) ys (by omega) (by omega) (by omega),hd,List.filter_cons,if_neg hp]
theorem lcB{src:Ev->M Src}(f g:α->D)(p:α->Bool)(y:α->D)(hs:src ρ σ=.ok (.seq (xs.map fun x=>.tup [f x,g x])) σ)(hl:xs.length<=1000)
  (step:∀ x∈xs,∀ j,fi (some (f x)::some (g x)::(ix.map fun i=>(ρ[i]?).getD none)) (σ++j)=.ok (p x) (σ++j)/\(p x=true->fe (some (f x)::some (g x)::(ix.map fun i=>(ρ[i]?).getD none)) (σ++j)=.ok (y x) (σ++j))) (hc:∀ x∈xs,cl (y x)=true) :
  yie (yif src ix (tgT 2 (ybh (tgN 0) (ybh (tgN 1) ygf))) fi fe) ρ σ=.ok (.lst ((xs.filter p).map y)) σ:=by
 show yis σ (yif src ix (tgT 2 (ybh (tgN 0) (ybh (tgN 1) ygf))) fi fe ρ σ)=_;have e:yif src ix (tgT 2 (ybh (tgN 0) (ybh (tgN 1) ygf))) fi fe ρ σ=.ok (.ref σ.length) (σ++[.lst ((xs.filter p).map y)]):=by
  show bnd (src ρ) (lcK _ fi fe (zvl ix ρ)) σ=_;rw[zvp,hs,zoj];show bnd (zyo (.seq (xs.map fun x=>.tup [f x,g x])) σ.length _ fi fe 1001 0 (none::none::(ix.map fun i=>(ρ[i]?).getD none))) _ (σ++[.lst []])=_;rw[zvp,zym f g p y step hl 1001 0 none none [] (by omega) (by omega) (by simp),zoj];simp
 rw[e,zp4 (ycq p y hc)]
def yg9(nx:NX)(xs:List α)(f g:α->D):Prop:=∀ i σ,nx i σ=match xs[i]? with
 |some x=>some (some (.tup [f x,g x]))
 |none=>if i=xs.length then some none else none
theorem zyn{nx:NX}{rest:Ev}(f g:α->D)(p:α->Bool)(y:α->D)(hn:yg9 nx xs f g)(step:∀ x∈xs,∀ j,fi (some (f x)::some (g x)::rest) (σ++j)=.ok (p x) (σ++j)/\(p x=true->fe (some (f x)::some (g x)::rest) (σ++j)=.ok (y x) (σ++j)))(hl:xs.length<=1000) :
  ∀ (k i:Nat) (o o':Option D) (ys:List D),xs.length<k+i->i<=xs.length->ys.length<=i->
   zq9 nx σ.length (tgT 2 (ybh (tgN 0) (ybh (tgN 1) ygf))) fi fe k i (o::o'::rest) (σ++[.lst ys])=.ok () (σ++[.lst (ys++((xs.drop i).filter p).map y)]):=by
 intro k;induction k with
 |zero=>intro i o o' ys h1 h2;omega
 |succ k ih=>
  intro i o o' ys h1 h2 hy;unfold zq9;rw[hn];cases e:xs[i]? with
  |none=>
   have hi:xs.length<=i:=List.getElem?_eq_none_iff.mp e;have hi2:i=xs.length:=by omega
   dsimp only;rw[if_pos hi2,List.drop_eq_nil_of_le hi];simp
  |some d=>
   obtain⟨hi,ed⟩:=List.getElem?_eq_some_iff.mp e;have hd:xs.drop i=d::xs.drop (i+1):=by rw[<-ed];exact List.drop_eq_getElem_cons hi
   obtain⟨s1,s2⟩:=step d (by rw[<-ed];exact List.getElem_mem hi) [.lst ys];show bnd (nox (fi (some (f d)::some (g d)::rest))) _ _=_;rw[zvp,zy4 s1,zoj];by_cases hp:p d=true
   ·rw[hp,if_pos rfl];show bnd (nox (fe (some (f d)::some (g d)::rest))) _ _=_;rw[zvp,zy4 (s2 hp),zoj,zvp,zei (by omega),zoj];show zq9 _ _ _ _ _ k (i+1) (some (f d)::some (g d)::rest) _=_;rw[ih (i+1) (some (f d)) (some (g d)) (ys++[y d]) (by omega) (by omega) (by simp;omega),hd,List.filter_cons,if_pos hp];simp
   ·rw[if_neg hp];show zq9 _ _ _ _ _ k (i+1) (some (f d)::some (g d)::rest) _=_;rw[ih (i+1) (some (f d)) (some (g d)) ys (by omega) (by omega) (by omega),hd,List.filter_cons,if_neg hp]
theorem lcC{src:Ev->M NX}{nx:NX}(f g:α->D)(y:α->D)(hs:src ρ σ=.ok nx σ)(hn:yg9 nx xs f g)(hl:xs.length<=1000)
  (step:∀ x∈xs,∀ j,fe (some (f x)::some (g x)::(ix.map fun i=>(ρ[i]?).getD none)) (σ++j)=.ok (y x) (σ++j)) (hc:∀ x∈xs,cl (y x)=true) :
  yie (yih src ix (tgT 2 (ybh (tgN 0) (ybh (tgN 1) ygf))) ycf fe) ρ σ=.ok (.lst (xs.map y)) σ:=by
 show yis σ (yih src ix (tgT 2 (ybh (tgN 0) (ybh (tgN 1) ygf))) ycf fe ρ σ)=_;have ft:xs.filter (fun _=>true)=xs:=List.filter_eq_self.mpr fun _ _=>rfl;have e:yih src ix (tgT 2 (ybh (tgN 0) (ybh (tgN 1) ygf))) ycf fe ρ σ=.ok (.ref σ.length) (σ++[.lst (xs.map y)]):=by
  show bnd (src ρ) (yjb _ ycf fe (zvl ix ρ)) σ=_;rw[zvp,hs,zoj];show bnd (zq9 nx σ.length _ ycf fe 1001 0 (none::none::(ix.map fun i=>(ρ[i]?).getD none))) _ (σ++[.lst []])=_;rw[zvp,zyn f g (fun _=>true) y hn (fun d hd j=>⟨rfl,fun _=>step d hd j⟩) hl 1001 0 none none [] (by omega) (by omega) (by simp),zoj];simp[ft]
 rw[e];have:=ycq (xs:=xs) (fun _=>true) y hc;rw[ft]at this;exact zp4 this
theorem zly(kv:List α)(k:α->Key)(v:α->D):yg9 (nxI ((kv.map k).zip (kv.map v))) kv (fun x=>yi9 (k x)) v:=fun i σ=>by
 have e:(kv.map k).zip (kv.map v)=kv.map fun x=>(k x,v x):=by
  induction kv with
  |nil=>rfl
  |cons x kv ih=>simp only[List.map_cons,List.zip_cons_cons,ih]
 unfold nxI;rw[e,List.getElem?_map,List.length_map];cases kv[i]?<;>rfl
theorem zy5{β:Type}(xs:List α)(ys:List β)(f:α->D)(g:β->D):yg9 (nxZ (.lst (xs.map f)) (.lst (ys.map g))) (xs.zip ys) (fun p=>f p.1) (fun p=>g p.2):=fun i σ=>by
 unfold nxZ;have h1:yjd σ (.lst (xs.map f))=some (xs.map f):=rfl;have h2:yjd σ (.lst (ys.map g))=some (ys.map g):=rfl;simp only[h1,h2,List.getElem?_map,List.length_map,List.length_zip];cases e1:xs[i]? with
 |none=>
  have:(xs.zip ys)[i]?=none:=by
   rw[List.getElem?_eq_none_iff]at e1 ⊢;rw[List.length_zip];omega
  rw[this];rfl
 |some a=>
  cases e2:ys[i]? with
  |none=>
   have:(xs.zip ys)[i]?=none:=by
    rw[List.getElem?_eq_none_iff]at e2 ⊢;rw[List.length_zip];omega
   rw[this];rfl
  |some b=>
   have:(xs.zip ys)[i]?=some (a,b):=by
    rw[List.getElem?_zip_eq_some];exact⟨e1,e2⟩
   rw[this];rfl
end
def shD(l:List (Int × Int)):D:=.dic (l.map fun p=>.inl p.1) (l.map fun p=>.int p.2)
def kvI(l:List (Int × Int)):List (Key × D):=l.map fun p=>(.inl p.1,.int p.2)
@[simp] theorem ya4(l:List (Int × Int)):cl (shD l)=true:=by unfold shD cl;exact zou fun _=>by simp
theorem zo1(l:List (Int × Int))(σ:Sto):yib σ (shD l)=some (kvI l):=by
 unfold yib shD kvI;dsimp only;rw[if_pos (by simp)];congr 1;induction l with
 |nil=>rfl
 |cons p l ih=>simp only[List.map_cons,List.zip_cons_cons,ih]
def val(l:List (Int × Int))(w:Int):Option Int:=(l.find? fun p=>decide (p.1=w)).map (·.2)
theorem zj6(w:Int):∀ (l:List (Int × Int)),ydc (kvI l) (.inl w)=(val l w).map D.int
 |[]=>rfl
 |p::l=>by
  have ih:=zj6 w l;unfold ydc kvI val at *;rw[List.map_cons,List.find?_cons,List.find?_cons];by_cases e:p.1=w
  ·simp[e]
  ·have e2:¬ (Sum.inl p.1:Key)=Sum.inl w:=fun z=>e (Sum.inl.inj z);simp only[e,e2,decide_false]at ih ⊢;exact ih
theorem zv9(l:List (Int × Int))(w:Int)(σ:Sto):yjo (.int w) (shD l) σ=.ok (.bl (val l w).isSome) σ:=by
 unfold yjo;simp only[yi7,zo1,zj6];cases val l w<;>rfl
theorem zo6{l:List (Int × Int)}{w v:Int}(h:val l w=some v)(σ:Sto):yew (shD l) (.int w) σ=.ok (.int v) σ:=by
 unfold yew;simp only[yi7,zo1,zj6,h];rfl
def yka(l:List (Int × Int))(w v:Int):List (Int × Int):=if l.any (fun p=>decide (p.1=w))then l.map fun p=>if p.1=w then (p.1,v)else p else l++[(w,v)]
theorem zmk(l:List (Int × Int))(w v:Int):(yka l w v).length<=l.length+1:=by unfold yka;split<;>simp
theorem zht(l:List (Int × Int))(w v:Int):yfl (kvI l) (.inl w) (.int v)=kvI (yka l w v):=by
 have ha:((kvI l).any fun kv=>decide (kv.1=(Sum.inl w:Key)))=l.any fun p=>decide (p.1=w):=by
  unfold kvI;rw[List.any_map];congr 1;funext p;simp
 unfold yfl yka;rw[ha];split
 ·unfold kvI;rw[List.map_map,List.map_map];congr 1;funext p;simp only[Function.comp];by_cases e:p.1=w
  ·simp[e]
  ·have e2:¬ (Sum.inl p.1:Key)=Sum.inl w:=fun z=>e (Sum.inl.inj z);simp[e]
 ·unfold kvI;rw[List.map_append];rfl
structure St where
 (n a b:Int) (ts:List Ti)
def St.D(s:St):L4.D:=.tup [.int s.n,.tup [.int s.a,.int s.b],.tup (s.ts.map Ti.D)]
structure Po where
 (s:Int) (st:List St) (sn:List (Int × Int))
def Po.D(p:Po):L4.D:=.tup [.int p.s,.lst (p.st.map St.D),shD p.sn]
structure Vw where
 (e k:Int) (ws:List Int) (ps:List Po)
def Vw.D(v:Vw):L4.D:=.tup [.int v.e,.int v.k,.lst (v.ws.map D.int),.lst (v.ps.map Po.D)]
def Vw.O(v:Vw):L4.D:=.obj 0 ["every", "last_look", "known", "pots"] [.int v.e,.int v.k,.lst (v.ws.map D.int),.lst (v.ps.map Po.D)]
@[simp] theorem St.cl(s:St):L4.cl s.D=true:=by simp[St.D]
@[simp] theorem Po.cl(p:Po):L4.cl p.D=true:=by
 have:L4.clL (p.st.map St.D)=true:=zou fun _=>by simp
 simp[Po.D,this]
@[simp] theorem Vw.cl(v:Vw):L4.cl v.D=true:=by
 have h1:L4.clL (v.ps.map Po.D)=true:=zou fun _=>by simp
 have h2:L4.clL (v.ws.map D.int)=true:=zou fun _=>by simp
 simp[Vw.D,h1,h2]
theorem St.i0(s:St)(σ:Sto):oIx s.D (.int 0) σ=.ok (.int s.n) σ:=by unfold St.D;simp
theorem St.i1(s:St)(σ:Sto):oIx s.D (.int 1) σ=.ok (.tup [.int s.a,.int s.b]) σ:=by unfold St.D;simp
theorem St.i2(s:St)(σ:Sto):oIx s.D (.int 2) σ=.ok (.tup (s.ts.map Ti.D)) σ:=by unfold St.D;simp
theorem Po.i0(p:Po)(σ:Sto):oIx p.D (.int 0) σ=.ok (.int p.s) σ:=by unfold Po.D;simp
theorem Po.i1(p:Po)(σ:Sto):oIx p.D (.int 1) σ=.ok (.lst (p.st.map St.D)) σ:=by unfold Po.D;simp
theorem Po.i2(p:Po)(σ:Sto):oIx p.D (.int 2) σ=.ok (shD p.sn) σ:=by unfold Po.D;simp
theorem Ti.i0(t:Ti)(σ:Sto):oIx t.D (.int 0) σ=.ok (.int t.p) σ:=by unfold Ti.D;simp
theorem Ti.i1(t:Ti)(σ:Sto):oIx t.D (.int 1) σ=.ok (.int t.a) σ:=by unfold Ti.D;simp
theorem Ti.i2(t:Ti)(σ:Sto):oIx t.D (.int 2) σ=.ok (.int t.w) σ:=by unfold Ti.D;simp
theorem Ti.i3(t:Ti)(σ:Sto):oIx t.D (.int 3) σ=.ok (.int t.d) σ:=by unfold Ti.D;simp
theorem Vw.f0(v:Vw)(σ:Sto):yjt [0] "every" v.O σ=.ok (.int v.e) σ:=zsf (zgs rfl) rfl rfl
theorem Vw.f1(v:Vw)(σ:Sto):yjt [0] "last_look" v.O σ=.ok (.int v.k) σ:=zsf (zgs rfl) rfl rfl
theorem Vw.f2(v:Vw)(σ:Sto):yjt [0] "known" v.O σ=.ok (.lst (v.ws.map D.int)) σ:=zsf (zgs rfl) rfl rfl
theorem Vw.f3(v:Vw)(σ:Sto):yjt [0] "pots" v.O σ=.ok (.lst (v.ps.map Po.D)) σ:=zsf (zgs rfl) rfl rfl
def inT(l:List (Int × Int))(t:Ti):Bool:=match val l t.w with|some v=>decide (v<t.d)|none=>false
def inW(ws:List Int)(w:Int):Bool:=ws.any fun z=>z == w
theorem zqt(ws:List Int)(w:Int)(σ:Sto):oIn false (.int w) (.lst (ws.map D.int)) σ=.ok (.bl (inW ws w)) σ:=by
 have h1:(ws.map D.int).all isF=true:=by simp[isF,sc]
 have h2:(ws.map D.int).any (fun z=>eqF z (.int w))=inW ws w:=by
  unfold inW;rw[List.any_map];congr 1
 have h3:yf0 σ (.lst (ws.map D.int))=some (ws.map D.int):=rfl;unfold oIn;simp only[h3,h1,h2];rfl
def lot(v:Vw)(s:Int)(sn:List (Int × Int))(t:Ti):Str:=
 if inT sn t then (if t.p == s then "lost" else "won")
 else if decide (t.d<=v.k)then (if t.p == s then "back" else "gone")
 else if t.p == s then "open"
 else if inW v.ws t.w && decide (v.k+v.e<t.d)then "sure" else "hangs"
theorem zm5(t:Ti)(sn:List (Int × Int))(σ:Sto):f_shown_in_time [t.D,shD sn] σ=.ok (.bl (inT sn t)) σ:=by
 have i2:=fun σ=>t.i2 σ;have i3:=fun σ=>t.i3 σ;have d1:=fun σ=>zv9 sn t.w σ;unfold f_shown_in_time zax inT;cases hv:val sn t.w with
 |none=>
  rw[hv]at d1;generalize t.D=TD at *;generalize shD sn=SD at *;simp[i2,i3,d1]
 |some x=>
  have d2:=fun σ=>zo6 hv σ;rw[hv]at d1;generalize t.D=TD at *;generalize shD sn=SD at *;simp[i2,i3,d1,d2]
theorem zjv(w:Int)(σ:Sto):∀ ws:List Int,yim σ (.int w) (ws.map D.int)=some (ws.map fun z=>z == w)
 |[]=>rfl
 |z::ws=>by
  have e:eqD σ 7 (.int z) (.int w)=some (z == w):=by simp[eqD,kd,eqK,eqV]
  simp only[List.map_cons];unfold yim;rw[e,zjv w σ ws]
theorem zkv(ws:List Int)(w:Int)(σ:Sto):yju false (.int w) (.lst (ws.map D.int)) σ=.ok (.bl (inW ws w)) σ:=by
 have h3:yf0 σ (.lst (ws.map D.int))=some (ws.map D.int):=rfl;unfold yju;simp only[h3,zjv];simp[inW,List.any_map,Function.comp_def]
theorem zsv(v:Vw)(sn:List (Int × Int))(t:Ti)(σ:Sto):f_lot_of_paid [v.O,shD sn,t.D] σ=.ok (.str (if inT sn t then "lost" else if decide (t.d<=v.k)then "back" else "open")) σ:=by
 have h1:=fun σ=>zm5 t sn σ;have h2:=fun σ=>v.f1 σ;have i3:=fun σ=>t.i3 σ;unfold f_lot_of_paid zb5;generalize inT sn t=b1 at *;generalize hb2:decide (t.d<=v.k)=b2 at *;generalize t.D=TD at *;generalize shD sn=SD at *;generalize v.O=VO at *;cases b1<;>cases b2<;>simp[h1,h2,i3,hb2]
theorem zwc(v:Vw)(sn:List (Int × Int))(t:Ti)(σ:Sto):f_lot_of_due [v.O,shD sn,t.D] σ=.ok (.str (if inT sn t then "won" else if decide (t.d<=v.k)then "gone" else if inW v.ws t.w && decide (v.k+v.e<t.d)then "sure" else "hangs")) σ:=by
 have h1:=fun σ=>zm5 t sn σ;have h2:=fun σ=>v.f1 σ;have h3:=fun σ=>v.f0 σ;have h4:=fun σ=>v.f2 σ;have h5:=fun σ=>zkv v.ws t.w σ;have i2:=fun σ=>t.i2 σ;have i3:=fun σ=>t.i3 σ;unfold f_lot_of_due zcz;generalize inT sn t=b1 at *;generalize hb2:decide (t.d<=v.k)=b2 at *;generalize inW v.ws t.w=b3 at *;generalize hb4:decide (v.k+v.e<t.d)=b4 at *;generalize t.D=TD at *;generalize shD sn=SD at *;generalize v.O=VO at *;generalize v.ws.map D.int=WL at *;cases b1<;>cases b2<;>cases b3<;>cases b4<;>simp[h1,h2,h3,h4,h5,i2,i3,hb2,hb4]
theorem zyt(v:Vw)(p:Po)(t:Ti)(σ:Sto):f_lot_of [v.O,p.D,t.D] σ=.ok (.str (lot v p.s p.sn t)) σ:=by
 have h1:=fun σ=>zsv v p.sn t σ;have h2:=fun σ=>zwc v p.sn t σ;have p0:=fun σ=>p.i0 σ;have p2:=fun σ=>p.i2 σ;have i0:=fun σ=>t.i0 σ;unfold f_lot_of zkl lot;generalize inT p.sn t=b1 at *;generalize decide (t.d<=v.k)=b2 at *;generalize (inW v.ws t.w && decide (v.k+v.e<t.d))=b3 at *;generalize hb4:(t.p == p.s)=b4 at *;generalize t.D=TD at *;generalize shD p.sn=SD at *;generalize v.O=VO at *;generalize p.D=PD at *;cases b4<;>cases b1<;>cases b2<;>cases b3<;>simp[h1,h2,p0,p2,i0,hb4]
theorem zx6(σ:Sto):ye2 [.bl true] σ=.ok (.int 1) σ:=rfl
theorem zx5(σ:Sto):ye2 [.bl false] σ=.ok (.int 0) σ:=rfl
theorem zef(v:Vw)(s:Int)(sn:List (Int × Int))(t:Ti)(σ:Sto):f__law_standing [v.D,.int s,shD sn,t.D] σ=.ok (.str (lot v s sn t)) σ:=by
 have i0:=fun σ=>t.i0 σ;have i2:=fun σ=>t.i2 σ;have i3:=fun σ=>t.i3 σ;have h5:=fun σ=>zqt v.ws t.w σ;have a4:∀ x0 x1 x2 x3 x4 x5 x6 x7 σ,yhv (tgT 4 (ybh (tgN 4) (ybh (tgN 5) (ybh (tgN 6) (ybh (tgN 7) ygf))))) [x0,x1,x2,x3,x4,x5,x6,x7] v.D σ=.ok (.nx [x0,x1,x2,x3,some (.int v.e),some (.int v.k),some (.lst (v.ws.map D.int)),some (.lst (v.ps.map Po.D))]) σ:=fun _ _ _ _ _ _ _ _ _=>nr rfl;have l0:∀ (x y:Str) σ,oIx (.lst [.str x,.str y]) (.int 0) σ=.ok (.str x) σ:=fun x y σ=>zsg (show atI _ ((0:Nat):Int)=_ from zob rfl);have l1:∀ (x y:Str) σ,oIx (.lst [.str x,.str y]) (.int 1) σ=.ok (.str y) σ:=fun x y σ=>zsg (show atI _ ((1:Nat):Int)=_ from zob rfl);have d1:=fun σ=>zv9 sn t.w σ;have d2:∀ x,val sn t.w=some x->∀ σ,yew (shD sn) (.int t.w) σ=.ok (.int x) σ:=fun x h σ=>zo6 h σ;unfold f__law_standing zav lot inT;generalize hb2:decide (t.d<=v.k)=b2 at *;generalize inW v.ws t.w=b3 at *;generalize hb4:decide (v.k+v.e<t.d)=b4 at *;generalize hb5:(t.p == s)=b5 at *;generalize t.D=TD at *;generalize shD sn=SD at *;generalize v.D=VD at *;generalize v.ws.map D.int=WL at *;generalize v.ps.map Po.D=PL at *;cases hv:val sn t.w with
 |none=>
  rw[hv]at d1;cases b2<;>cases b3<;>cases b4<;>cases b5<;>simp[i0,i2,i3,h5,a4,l0,l1,d1,hb2,hb4,hb5,zx6,zx5]
 |some x=>
  rw[hv]at d1;have d3:=d2 x hv;cases hb1:decide (x<t.d)<;>cases b2<;>cases b3<;>cases b4<;>cases b5<;>simp[i0,i2,i3,h5,a4,l0,l1,d1,d3,hb1,hb2,hb4,hb5,zx6,zx5]
def ydd(l:Str):Bool:=inV (.str l) ((["won", "sure", "back"]:List Str).map V.str)
def yio(g:Ti->Str):List Ti->Int
 |[]=>0
 |t::ts=>(if ydd (g t)then t.a else 0)+yio g ts
def lD(g:Ti->Str)(t:Ti):D:=.tup [.str (g t),.int t.a,.int t.d]
@[simp] theorem yd7(g:Ti->Str)(t:Ti):cl (lD g t)=true:=by simp[lD]
def kvL(g:Ti->Str)(ts:List Ti):List (Key × D):=ts.map fun t=>(.inl t.w,lD g t)
theorem put_new{kvs:List (Key × D)}{k:Key}(d:D)(h:k ∉ kvs.map (·.1)):yfl kvs k d=kvs++[(k,d)]:=by
 have:(kvs.any fun kv=>decide (kv.1=k))=false:=by
  rw[List.any_eq_false];intro p hp z;exact h (List.mem_map.mpr ⟨p,hp,by simpa using z⟩)
 unfold yfl;rw[this];rfl
theorem zm2{σ:Sto}{kvs:List (Key × D)}(w:Int)(d:D)(hl:kvs.length<1000)(ρ:Ev):yf3 ρ d (.ref σ.length) (.int w) (σ++[.dic kvs])=.ok (.nx ρ) (σ++[.dic (yfl kvs (.inl w) d)]):=by
 have e:(σ++[Ob.dic kvs])[σ.length]?=some (.dic kvs):=by simp
 unfold yf3;simp only[yi7,e];rw[if_pos (by unfold cap;omega),zt9]
theorem zki{σ:Sto}{a:D}{kvs:List (Key × D)}(ha:cl a=true)(h:clL (kvs.map (·.2))=true):yis σ (.ok (.tup [a,.ref σ.length]) (σ++[.dic kvs]))=.ok (.tup [a,.dic (kvs.map (·.1)) (kvs.map (·.2))]) σ:=by
 have e:(σ++[Ob.dic kvs])[σ.length]?=some (.dic kvs):=by simp
 have hz:∀ (k m:Nat) (σ':Sto) (xs:List D),clL xs=true->fzL (fz k σ' m) xs=some xs:=by
  intro k m σ' xs;induction xs with
  |nil=>intro _;rfl
  |cons x xs ih=>
   intro hc;have hc':cl x=true/\clL xs=true:=by simpa [clL,Bool.and_eq_true]using hc
   unfold fzL;rw[ydo hc'.1,ih hc'.2]
 have hr:fz σ.length (σ++[Ob.dic kvs]) 5 (.ref σ.length)=some (.dic (kvs.map (·.1)) (kvs.map (·.2))):=by
  unfold fz;rw[if_neg (by simp[cl])];dsimp only;rw[if_neg (Nat.lt_irrefl _),e];dsimp only;rw[hz _ _ _ _ h];rfl
 have ht:fz σ.length (σ++[Ob.dic kvs]) 6 (.tup [a,.ref σ.length])=some (.tup [a,.dic (kvs.map (·.1)) (kvs.map (·.2))]):=by
  unfold fz;rw[if_neg (by simp[cl,clL,ha])];dsimp only;unfold fzL;rw[ydo ha];unfold fzL;rw[hr];rfl
 unfold yis;dsimp only;rw[if_pos (by simp),ht]
noncomputable abbrev rsB:Ev->M Fl:=(ykz (yk0 6 (eFn 3 f_lot_of [] (ycc (yik 0) (ycc (yik 1) (ycc (yik 5) yhq)))))
 (ykz (yfw (yij (ycc (yik 6) (ycc (yid oIx (yik 5) (eC (.int 1))) (ycc (yid oIx (yik 5) (eC (.int 3))) yhq)))) (yik 4) (yid oIx (yik 5) (eC (.int 2))))
 (sIf (eT (eUn (yjv false ["won", "sure", "back"]) (yik 6))) (yks (fun a b=>a+b) 3 (yid oIx (yik 5) (eC (.int 1)))) ykw)))
@[simp] theorem zmu(f fo fi:Ev->M D)(ρ:Ev)(σ:Sto):yfw f fo fi ρ σ=xsO ρ (yf1 ρ fo fi) (f ρ σ):=ygo ..
@[simp] theorem zm0(fo fi:Ev->M D)(d:D)(ρ:Ev)(σ:Sto):yf1 ρ fo fi d σ=xsO ρ (yf2 ρ fi d) (fo ρ σ):=ygo ..
@[simp] theorem zm1(fi:Ev->M D)(d x:D)(ρ:Ev)(σ:Sto):yf2 ρ fi d x σ=xsO ρ (yf3 ρ d x) (fi ρ σ):=ygo ..
@[simp] theorem zjh(ρ:Ev)(σ:Sto):yc0 ρ σ=.ok (.ref σ.length) (σ++[.dic []]):=nr rfl
theorem zqs(z:Str)(σ:Sto):yjv false ["won", "sure", "back"] (.str z) σ=.ok (.bl (ydd z)) σ:=rfl
theorem ztl(v:Vw)(p:Po)(S:D)(a:Int)(t:Ti)(done:List Ti)(x6:Option D)(σ:Sto)(hw:t.w ∉ done.map (·.w))(hl:done.length<1000) :
  rsB [some v.O,some p.D,some S,some (.int a),some (.ref σ.length),some t.D,x6] (σ++[.dic (kvL (lot v p.s p.sn) done)])=.ok (.nx [some v.O,some p.D,some S,some (.int (a+if ydd (lot v p.s p.sn t)then t.a else 0)),some (.ref σ.length),some t.D,some (.str (lot v p.s p.sn t))]) (σ++[.dic (kvL (lot v p.s p.sn) (done++[t]))]):=by
 have h1:=fun σ=>zyt v p t σ;have i1:=fun σ=>t.i1 σ;have i2:=fun σ=>t.i2 σ;have i3:=fun σ=>t.i3 σ;have hk:(Sum.inl t.w:Key) ∉ (kvL (lot v p.s p.sn) done).map (·.1):=fun z=>by
  unfold kvL at z;rw[List.map_map]at z;obtain⟨u,hu,e⟩:=List.mem_map.mp z;have e':u.w=t.w:=Sum.inl.inj e;exact hw (List.mem_map.mpr ⟨u,hu,e'⟩)
 have st:=fun ρ=>zm2 (σ:=σ) (kvs:=kvL (lot v p.s p.sn) done) t.w (lD (lot v p.s p.sn) t) (by unfold kvL;simpa using hl) ρ;rw[put_new _ hk,show kvL (lot v p.s p.sn) done++[(Sum.inl t.w,lD (lot v p.s p.sn) t)]=kvL (lot v p.s p.sn) (done++[t]) by unfold kvL;simp]at st;unfold lD at st;have sg:∀ (f:Ev->M D) (y0 y1 y2 y4 y5 y6:Option D) (x:D) (σ:Sto),yks (fun a b=>a+b) 3 f [y0,y1,y2,some x,y4,y5,y6] σ=xsO [y0,y1,y2,some x,y4,y5,y6] (yhw (fun a b=>a+b) 3 [y0,y1,y2,some x,y4,y5,y6] x) (f [y0,y1,y2,some x,y4,y5,y6] σ):=fun f y0 y1 y2 y4 y5 y6 x σ=>ztq rfl;unfold rsB;generalize (Ob.dic (kvL (lot v p.s p.sn) (done++[t])))=O2 at *;generalize (Ob.dic (kvL (lot v p.s p.sn) done))=O1 at *;generalize (σ.length)=N at *;generalize (σ++[O1])=σ1 at *;generalize (σ++[O2])=σ2 at *;generalize lot v p.s p.sn t=L at *;have hg:=fun σ=>zqs L σ;generalize ydd L=fb at *;generalize v.O=VO at *;generalize p.D=PD at *;generalize t.D=TD at *;cases fb<;>simp[h1,i1,i2,i3,st,sg,hg]
theorem ztk(v:Vw)(p:Po)(S:D)(σ:Sto):∀ (ts done:List Ti) (a:Int) (x5 x6:Option D),((done++ts).map (·.w)).Nodup->(done++ts).length<=6->∃ y5 y6,
  yjc (tgN 5) rsB (ts.map Ti.D) [some v.O,some p.D,some S,some (.int a),some (.ref σ.length),x5,x6] (σ++[.dic (kvL (lot v p.s p.sn) done)])=.ok (.nx [some v.O,some p.D,some S,some (.int (a+yio (lot v p.s p.sn) ts)),some (.ref σ.length),y5,y6]) (σ++[.dic (kvL (lot v p.s p.sn) (done++ts))])
 |[],done,a,x5,x6,_,_=>⟨x5,x6,by simp[yio]⟩
 |t::ts,done,a,x5,x6,hn,hl=>by
  have hw:t.w ∉ done.map (·.w):=fun z=>by
   rw[List.map_append,List.nodup_append]at hn;exact hn.2.2 _ z _ (by simp) rfl
  have st:=ztl v p S a t done x6 σ hw (by simp at hl;omega);obtain⟨y5,y6,e⟩:=ztk v p S σ ts (done++[t]) (a+if ydd (lot v p.s p.sn t)then t.a else 0) (some t.D) (some (.str (lot v p.s p.sn t))) (by simpa using hn) (by simpa using hl);refine⟨y5,y6,?_⟩;rw[List.map_cons,zll];simp only[List.set_cons_succ,List.set_cons_zero];rw[st,zoj,zlj,e];simp only[yio,List.append_assoc,List.cons_append,List.nil_append,Int.add_assoc]
def shr(s:Int)(t:St):Int:=if s=0 then t.a else t.b
def rdD(v:Vw)(p:Po)(t:St):D:=.tup [.int (shr p.s t+yio (lot v p.s p.sn) t.ts),.dic (t.ts.map fun u=>.inl u.w) (t.ts.map (lD (lot v p.s p.sn)))]
theorem yat(v:Vw)(p:Po)(t:St):cl (rdD v p t)=true:=by
 have:clL (t.ts.map (lD (lot v p.s p.sn)))=true:=zou fun _=>by simp
 have h2:cl (.dic (t.ts.map fun u=>.inl u.w) (t.ts.map (lD (lot v p.s p.sn))))=true:=by unfold cl;exact this
 simp[rdD,h2]
structure St.Ok(t:St):Prop where
 nd:(t.ts.map (·.w)).Nodup
 len:t.ts.length<=6
 wb:∀ u∈t.ts,0<=u.w/\u.w<=6
theorem zhy(v:Vw)(p:Po)(t:St)(hp:p.s=0\/p.s=1)(ht:t.Ok)(σ:Sto):f_read_stand [v.O,p.D,t.D] σ=.ok (rdD v p t) σ:=by
 have t1:=fun σ=>t.i1 σ;have t2:=fun σ=>t.i2 σ;have p0:=fun σ=>p.i0 σ;have sh:∀ σ,oIx (.tup [.int t.a,.int t.b]) (.int p.s) σ=.ok (.int (shr p.s t)) σ:=fun σ=>by
  unfold shr;rcases hp with h|h<;>rw[h]
  ·exact zsi (show atI _ ((0:Nat):Int)=_ from zob rfl)
  ·exact zsi (show atI _ ((1:Nat):Int)=_ from zob rfl)
 obtain⟨y5,y6,e⟩:=ztk v p t.D σ t.ts [] (shr p.s t) none none (by simpa using ht.nd) (by simpa using ht.len);rw[List.nil_append,show kvL (lot v p.s p.sn) []=[]from rfl]at e;have hcl:clL ((kvL (lot v p.s p.sn) t.ts).map (·.2))=true:=by unfold kvL;rw[List.map_map];exact zou fun _=>by simp[lD]
 have fz:=zki (σ:=σ) (a:=.int (shr p.s t+yio (lot v p.s p.sn) t.ts)) (kvs:=kvL (lot v p.s p.sn) t.ts) (by simp) hcl;have e1:(kvL (lot v p.s p.sn) t.ts).map (·.1)=t.ts.map fun u=>(.inl u.w:Key):=by unfold kvL;rw[List.map_map];rfl
 have e2:(kvL (lot v p.s p.sn) t.ts).map (·.2)=t.ts.map (lD (lot v p.s p.sn)):=by unfold kvL;rw[List.map_map];rfl
 rw[e1,e2]at fz;unfold rsB at e;unfold f_read_stand zc0 rdD;generalize (t.ts.map fun u=>(.inl u.w:Key))=KS at *;generalize t.ts.map (lD (lot v p.s p.sn))=VS at *;generalize shr p.s t+yio (lot v p.s p.sn) t.ts=F at *;generalize shr p.s t=F0 at *;generalize (Ob.dic (kvL (lot v p.s p.sn) t.ts))=O2 at *;generalize v.O=VO at *;generalize p.D=PD at *;generalize t.D=TD at *;generalize t.ts.map Ti.D=TS at *;simp[t1,t2,p0,sh,e,fz]
structure Vw.Ok(v:Vw):Prop where
 n3:v.ps.length<=3
 sd:∀ p∈v.ps,p.s=0\/p.s=1
 ok:∀ p∈v.ps,∀ t∈p.st,t.Ok
 sl:∀ p∈v.ps,1<=p.st.length/\p.st.length<=20
def rdL(v:Vw)(p:Po):D:=.lst (p.st.map (rdD v p))
theorem yau(v:Vw)(p:Po):cl (rdL v p)=true:=by unfold rdL;rw[zv0];exact zou fun t=>yat v p t
noncomputable abbrev rpB:Ev->M Fl:=(ykt (yc2 zr8 (yik 1) (ycc (yie (eLC (yk6 (yid oIx (yik 2) (eC (.int 1)))) [0,2] (tgN 0) ycf (eFn 3 f_read_stand [] (ycc (yik 1) (ycc (yik 2) (ycc (yik 0) yhq)))))) yhq)))
theorem ztj(v:Vw)(hv:v.Ok)(p:Po)(hp:p∈v.ps)(ys:List D)(hy:ys.length<1000)(σ:Sto):rpB [some v.O,some (.ref σ.length),some p.D] (σ++[.lst ys])=.ok (.nx [some v.O,some (.ref σ.length),some p.D]) (σ++[.lst (ys++[rdL v p])]):=by
 have p1:=fun σ=>p.i1 σ;have l:=yja (xs:=p.st) (ix:=[0,2]) (ρ:=[some v.O,some (.ref σ.length),some p.D]) (σ:=σ++[.lst ys]) (src:=yk6 (yid oIx (yik 2) (eC (.int 1)))) (fe:=eFn 3 f_read_stand [] (ycc (yik 1) (ycc (yik 2) (ycc (yik 0) yhq)))) St.D (rdD v p) (by
   generalize p.D=PD at *;generalize v.O=VO at *;simp[p1]) (by have:=(hv.sl p hp).2;omega) (fun t ht j=>by
   have r:=zhy v p t (hv.sd p hp) (hv.ok p hp t ht);generalize rdD v p t=R at *;generalize (σ++[Ob.lst ys]++j)=σ1 at *;generalize p.D=PD at *;generalize v.O=VO at *;generalize t.D=TD at *;simp[r]) (fun t _=>yat v p t)
 rw[show (.lst (p.st.map (rdD v p)):D)=rdL v p from rfl]at l;have ap:=zei (σ:=σ) (xs:=ys) (d:=rdL v p) hy;unfold rpB;generalize rdL v p=R at *;generalize p.D=PD at *;generalize v.O=VO at *;simp[l,ap,-zpb]
theorem zti(v:Vw)(hv:v.Ok)(σ:Sto):∀ (ps:List Po) (ys:List D) (x2:Option D),(∀ p∈ps,p∈v.ps)->ys.length+ps.length<=900->∃ y2,
  yjc (tgN 2) rpB (ps.map Po.D) [some v.O,some (.ref σ.length),x2] (σ++[.lst ys])=.ok (.nx [some v.O,some (.ref σ.length),y2]) (σ++[.lst (ys++ps.map (rdL v))])
 |[],ys,x2,_,_=>⟨x2,by simp⟩
 |p::ps,ys,x2,hm,hl=>by
  simp only[List.length_cons]at hl;have st:=ztj v hv p (hm p List.mem_cons_self) ys (by omega) σ;obtain⟨y2,e⟩:=zti v hv σ ps (ys++[rdL v p]) (some p.D) (fun q hq=>hm q (List.mem_cons_of_mem _ hq)) (by simp;omega);refine⟨y2,?_⟩;rw[List.map_cons,zll];simp only[List.set_cons_succ,List.set_cons_zero];rw[st,zoj,zlj,e];simp
theorem zmr(v:Vw)(hv:v.Ok)(σ:Sto):f_read_pots [v.O] σ=.ok (.lst (v.ps.map (rdL v))) σ:=by
 have f3:=fun σ=>v.f3 σ;obtain⟨y2,e⟩:=zti v hv σ v.ps [] none (fun _ h=>h) (by have:=hv.n3;simp;omega);rw[List.nil_append]at e;have fz:=zp4 (σ:=σ) (zs:=v.ps.map (rdL v)) (zou fun p=>yau v p);unfold rpB at e;unfold f_read_pots zdp;generalize v.O=VO at *;generalize v.ps.map (rdL v)=RL at *;generalize v.ps.map Po.D=PL at *;simp[f3,e,fz]
def plB(ps:List Po)(cs:List Int):Bool:=(ps.zip cs).all fun q=>decide (0<=q.2) && decide (q.2<=(q.1.st.length:Int) - 1)
theorem znd{i j:Nat}{ρ:Ev}{σ:Sto}{xs ys:List D}(h1:yik i ρ σ=.ok (.lst xs) σ)(h2:yik j ρ σ=.ok (.lst ys) σ):yk7 (yik i) (yik j) ρ σ=.ok (nxZ (.lst xs) (.lst ys)) σ:=by
 have a:yjd σ (.lst xs)=some xs:=rfl;have b:yjd σ (.lst ys)=some ys:=rfl;unfold yk7;rw[zvp,h1,zoj];unfold ygp;rw[zvp,h2,zoj];unfold ygq;simp only[a,b]
theorem zu7{α β:Type}(xs:List α)(ys:List β):(xs.zip ys).length<=xs.length:=by rw[List.length_zip];omega
def St0:St:=⟨0,0,0,[]⟩
def chS(ps:List Po)(cs:List Int):List (Po × St):=(ps.zip cs).map fun q=>(q.1,q.1.st.getD q.2.toNat St0)
theorem zgb(v:Vw)(cs:List Int)(h3:v.ps.length<=3)(hp:plB v.ps cs=true)(σ:Sto):f_chosen_readings [.lst (v.ps.map (rdL v)),.lst (cs.map D.int)] σ=.ok (.lst ((chS v.ps cs).map fun q=>rdD v q.1 q.2)) σ:=by
 have l:=lcC (xs:=v.ps.zip cs) (ix:=[]) (ρ:=[some (.lst (v.ps.map (rdL v))),some (.lst (cs.map D.int))]) (σ:=σ) (fe:=yid oIx (yik 0) (yik 1)) (fun q=>rdL v q.1) (fun q=>.int q.2) (fun q=>rdD v q.1 (q.1.st.getD q.2.toNat St0))
  (znd (i:=0) (j:=1) (by simp) (by simp)) (zy5 v.ps cs (rdL v) D.int) (by have:=zu7 v.ps cs;omega) (fun q hq j=>by
   have hb:=List.all_eq_true.mp hp q hq;simp only[Bool.and_eq_true,decide_eq_true_eq]at hb;have hi:q.2.toNat<q.1.st.length:=by omega
   have ix:∀ σ,oIx (rdL v q.1) (.int q.2) σ=.ok (rdD v q.1 (q.1.st.getD q.2.toNat St0)) σ:=fun σ=>by
    unfold rdL;refine zsg ?_;rw[show q.2=((q.2.toNat:Nat):Int) by omega];refine zob ?_;rw[Int.toNat_natCast,List.getElem?_map,List.getElem?_eq_getElem hi,List.getD_eq_getElem?_getD,List.getElem?_eq_getElem hi];rfl
   generalize rdD v q.1 (q.1.st.getD q.2.toNat St0)=R at *;generalize rdL v q.1=RL at *;simp[ix]) (fun q _=>yat _ _ _)
 have e:((v.ps.zip cs).map fun q=>rdD v q.1 (q.1.st.getD q.2.toNat St0))=(chS v.ps cs).map fun q=>rdD v q.1 q.2:=by unfold chS;rw[List.map_map];rfl
 rw[e]at l;have hc:cl (.lst ((chS v.ps cs).map fun q=>rdD v q.1 q.2))=true:=by rw[zv0];exact zou fun q=>yat _ _ _
 unfold f_chosen_readings zad;generalize D.lst ((chS v.ps cs).map fun q=>rdD v q.1 q.2)=OUT at *;generalize D.lst (v.ps.map (rdL v))=RL at *;generalize D.lst (cs.map D.int)=CL at *;simp[l,hc,-zpb]
structure Tc where
 (l:Str) (t:Ti)
def Tc.D(c:Tc):L4.D:=.tup [.str c.l,.int c.t.a,.int c.t.d]
@[simp] theorem Tc.cl(c:Tc):L4.cl c.D=true:=by simp[Tc.D]
abbrev Gs:=List (Int × Nat)
abbrev Js:=List (List Tc)
def fnd(b:Gs)(w:Int):Option Nat:=(b.find? fun p=>decide (p.1=w)).map (·.2)
def kvB(n:Nat)(b:Gs):List (Key × D):=b.map fun p=>(.inl p.1,.ref (n+1+p.2))
def bwS(σ:Sto)(b:Gs)(J:Js):Sto:=σ++(.dic (kvB σ.length b)::J.map fun l=>.lst (l.map Tc.D))
section
variable(σ:Sto)(b:Gs)(J:Js)
theorem zvt:(bwS σ b J).length=σ.length+1+J.length:=by unfold bwS;simp;omega
theorem zvs:(bwS σ b J)[σ.length]?=some (.dic (kvB σ.length b)):=by unfold bwS;simp
theorem ycj:yib (bwS σ b J) (.ref σ.length)=some (kvB σ.length b):=by unfold yib;simp only[zvs]
theorem zvu{i:Nat}(h:i<J.length):yee (bwS σ b J) (σ.length+1+i)=some ((J.getD i []).map Tc.D):=by
 unfold yee bwS;rw[List.getElem?_append_right (by omega),show σ.length+1+i - σ.length=i+1 by omega,List.getElem?_cons_succ,List.getElem?_map,List.getElem?_eq_getElem h,List.getD_eq_getElem?_getD,List.getElem?_eq_getElem h];rfl
theorem zom:bwS σ b J++[.lst []]=bwS σ b (J++[[]]):=by unfold bwS;simp
theorem zon(b':Gs):(bwS σ b J).set σ.length (.dic (kvB σ.length b'))=bwS σ b' J:=by
 unfold bwS;rw[List.set_append_right _ _ (Nat.le_refl _),Nat.sub_self];rfl
theorem zoo(i:Nat)(l:List Tc):(bwS σ b J).set (σ.length+1+i) (.lst (l.map Tc.D))=bwS σ b (J.set i l):=by
 unfold bwS;rw[List.set_append_right _ _ (by omega),show σ.length+1+i - σ.length=i+1 by omega,List.set_cons_succ];congr 2;rw[List.map_set]
end
theorem zxh(n:Nat)(w:Int):∀ b:Gs,ydc (kvB n b) (.inl w)=(fnd b w).map fun i=>.ref (n+1+i)
 |[]=>rfl
 |p::b=>by
  have ih:=zxh n w b;unfold ydc kvB fnd at *;rw[List.map_cons,List.find?_cons,List.find?_cons];by_cases e:p.1=w
  ·simp[e]
  ·have e2:¬ (Sum.inl p.1:Key)=Sum.inl w:=fun z=>e (Sum.inl.inj z);simp only[e,e2,decide_false]at ih ⊢;exact ih
theorem zkc{w:Int}:∀ {b:Gs},fnd b w=none->w ∉ b.map (·.1)
 |[],_=>by simp
 |p::b,h=>by
  unfold fnd at h;rw[List.find?_cons]at h;by_cases e:p.1=w
  ·simp[e]at h
  ·simp only[e,decide_false]at h;have:=zkc (b:=b) (w:=w) h;simp only[List.map_cons,List.mem_cons,not_or];exact⟨fun z=>e z.symm,this⟩
theorem zkd{w:Int}{i:Nat}:∀ {b:Gs},fnd b w=some i->(w,i)∈b
 |[],h=>by simp[fnd]at h
 |p::b,h=>by
  unfold fnd at h;rw[List.find?_cons]at h;by_cases e:p.1=w
  ·simp only[e,decide_true,Option.map_some,Option.some.injEq]at h;rw[<-e,<-h];exact List.mem_cons_self
  ·simp only[e,decide_false]at h;exact List.mem_cons_of_mem _ (zkd (b:=b) h)
def bst(b:Gs)(J:Js)(c:Tc):Gs × Js:=match fnd b c.t.w with
 |some i=>(b,(J++[[]]).set i (J.getD i []++[c]))
 |none=>(b++[(c.t.w,J.length)],J++[[c]])
structure BI(b:Gs)(J:Js)(m:Nat):Prop where
 lt:∀ p∈b,p.2<J.length
 nj:(b.map (·.2)).Nodup
 nk:(b.map (·.1)).Nodup
 bl:b.length<=m
 jl:J.length<=m
 el:∀ l∈J,l.length<=m
noncomputable abbrev lbB:Ev->M Fl:=(ykt (yc2 zr8 (zwf zsm (yik 1) (ycc (yik 3) (ycc (yii yhq) yhq))) (ycc (yik 4) yhq)))
@[simp] theorem zgh(o:D->List D->M D)(f:Ev->M D)(fs:Ev->M (List D))(ρ:Ev)(σ:Sto):zwf o f fs ρ σ=(f ρ σ).bind (zyw o (fs ρ)):=nr rfl
theorem zko{α:Type}{xs ys:List α}{i:Nat}(h:i<xs.length)(d:α):(xs++ys).getD i d=xs.getD i d:=by
 rw[List.getD_eq_getElem?_getD,List.getD_eq_getElem?_getD,List.getElem?_append_left h]
theorem zq8(σ:Sto)(b:Gs)(J:Js)(m:Nat)(hI:BI b J m)(hm:m<900)(R rd:D)(c:Tc):lbB [some R,some (.ref σ.length),some rd,some (.int c.t.w),some c.D] (bwS σ b J)=.ok (.nx [some R,some (.ref σ.length),some rd,some (.int c.t.w),some c.D]) (bwS σ (bst b J c).1 (bst b J c).2):=by
 have h1:∀ fs,zyw zsm fs (.ref σ.length) (bwS σ b J)=(fs (bwS σ b J)).bind (zsm (.ref σ.length)):=fun fs=>by unfold zyw;rw[ycj];rfl
 have h2:∀ ρ,yii yhq ρ (bwS σ b J)=.ok (.ref (σ.length+1+J.length)) (bwS σ b (J++[[]])):=fun ρ=>by
  rw[<-zom,<-zvt σ b J];rfl
 have hpush:=zom σ b J;have hlen:=zvt σ b J;have hcap:(kvB σ.length b).length<cap:=by unfold kvB cap;have:=hI.bl;simp;omega
 unfold lbB bst;cases hf:fnd b c.t.w with
 |some i=>
  have hi:i<J.length:=hI.lt _ (zkd hf);have h3:∀ d,zsm (.ref σ.length) [.int c.t.w,d] (bwS σ b (J++[[]]))=.ok (.ref (σ.length+1+i)) (bwS σ b (J++[[]])):=fun d=>by
   unfold zsm;simp only[yi7,zvs];rw[if_pos hcap,zxh,hf];rfl
  have hl:=zvu σ b (J++[[]]) (i:=i) (by simp;omega);rw[zko hi]at hl;have h4:∀ fs,yem zr8 fs (.ref (σ.length+1+i)) (bwS σ b (J++[[]]))=(fs (bwS σ b (J++[[]]))).bind (zr8 (.ref (σ.length+1+i))):=fun fs=>zlq (xs:=(J.getD i []).map Tc.D) hl;have h5:zr8 (.ref (σ.length+1+i)) [c.D] (bwS σ b (J++[[]]))=.ok .non (bwS σ b ((J++[[]]).set i (J.getD i []++[c]))):=by
   unfold zr8;simp only[hl];have hm2:(J.getD i []).length<=m:=by
    rw[List.getD_eq_getElem?_getD,List.getElem?_eq_getElem hi];exact hI.el _ (List.getElem_mem hi)
   rw[if_pos (by unfold cap;rw[List.length_map];omega),<-zoo];simp
  dsimp only;generalize bwS σ b ((J++[[]]).set i (J.getD i []++[c]))=σ3 at *;generalize bwS σ b (J++[[]])=σ2 at *;generalize bwS σ b J=σ1 at *;generalize (σ.length+1+i)=N1 at *;generalize (σ.length+1+J.length)=N2 at *;generalize σ.length=N0 at *;generalize c.D=CD at *;generalize c.t.w=w at *;simp[h1,hpush,hlen,h3,h4,h5]
 |none=>
  have h3:zsm (.ref σ.length) [.int c.t.w,.ref (σ.length+1+J.length)] (bwS σ b (J++[[]]))=.ok (.ref (σ.length+1+J.length)) (bwS σ (b++[(c.t.w,J.length)]) (J++[[]])):=by
   unfold zsm;simp only[yi7,zvs];rw[if_pos hcap,zxh,hf];simp only[Option.map_none];rw[put_new,show kvB σ.length b++[(Sum.inl c.t.w,D.ref (σ.length+1+J.length))]=kvB σ.length (b++[(c.t.w,J.length)]) by unfold kvB;simp,zon];intro z;unfold kvB at z;rw[List.map_map]at z;obtain⟨p,hp,e⟩:=List.mem_map.mp z;exact zkc hf (List.mem_map.mpr ⟨p,hp,Sum.inl.inj e⟩)
  have hl:=zvu σ (b++[(c.t.w,J.length)]) (J++[[]]) (i:=J.length) (by simp);have hz:(J++[[]]).getD J.length []=[]:=by rw[List.getD_eq_getElem?_getD];simp
  rw[hz]at hl;have h4:∀ fs,yem zr8 fs (.ref (σ.length+1+J.length)) (bwS σ (b++[(c.t.w,J.length)]) (J++[[]]))=(fs (bwS σ (b++[(c.t.w,J.length)]) (J++[[]]))).bind (zr8 (.ref (σ.length+1+J.length))):=fun fs=>zlq (xs:=[]) hl;have h5:zr8 (.ref (σ.length+1+J.length)) [c.D] (bwS σ (b++[(c.t.w,J.length)]) (J++[[]]))=.ok .non (bwS σ (b++[(c.t.w,J.length)]) (J++[[c]])):=by
   unfold zr8;simp only[hl];have:=zoo σ (b++[(c.t.w,J.length)]) (J++[[]]) J.length [c];rw[show (J++[[]]:Js).set J.length [c]=(J++[[c]]:Js) by simp]at this;rw[if_pos (by unfold cap;simp),<-this];rfl
  dsimp only;generalize bwS σ (b++[(c.t.w,J.length)]) (J++[[c]])=σ4 at *;generalize bwS σ (b++[(c.t.w,J.length)]) (J++[[]])=σ3 at *;generalize bwS σ b (J++[[]])=σ2 at *;generalize bwS σ b J=σ1 at *;generalize (σ.length+1+J.length)=N2 at *;generalize σ.length=N0 at *;generalize c.D=CD at *;generalize c.t.w=w at *;simp[h1,hpush,hlen,h3,h4,h5]
theorem zvq{b:Gs}{J:Js}{m:Nat}(h:BI b J m)(c:Tc):BI (bst b J c).1 (bst b J c).2 (m+1):=by
 unfold bst;cases hf:fnd b c.t.w with
 |some i=>
  have hi:i<J.length:=h.lt _ (zkd hf);refine⟨fun p hp=>?_,h.nj,h.nk,?_,?_,fun l hl=>?_⟩
  ·have:=h.lt p hp;simp;omega
  ·have:=h.bl;dsimp only;omega
  ·have:=h.jl;simp;omega
  ·rcases List.mem_or_eq_of_mem_set hl with z|z
   ·rcases List.mem_append.mp z with z|z
    ·have:=h.el l z;omega
    ·simp at z;subst z;simp
   ·have hm2:(J.getD i []).length<=m:=by
     rw[List.getD_eq_getElem?_getD,List.getElem?_eq_getElem hi];exact h.el _ (List.getElem_mem hi)
    rw[z];simp;simpa using hm2
 |none=>
  have hn:=zkc hf;refine⟨fun p hp=>?_,?_,?_,?_,?_,fun l hl=>?_⟩
  ·rcases List.mem_append.mp hp with z|z
   ·have:=h.lt p z;simp;omega
   ·simp at z;subst z;simp
  ·rw[List.map_append,List.nodup_append];refine⟨h.nj,by simp,fun x hx y hy e=>?_⟩;simp at hy;obtain⟨p,hp,rfl⟩:=List.mem_map.mp hx;have:=h.lt p hp;omega
  ·rw[List.map_append,List.nodup_append];refine⟨h.nk,by simp,fun x hx y hy e=>?_⟩;simp at hy;exact hn (by rw[<-hy,<-e];exact hx)
  ·have:=h.bl;simp;omega
  ·have:=h.jl;simp;omega
  ·rcases List.mem_append.mp hl with z|z
   ·have:=h.el l z;omega
   ·simp at z;subst z;simp
abbrev Grp:=List (Int × List Tc)
def vwG(b:Gs)(J:Js):Grp:=b.map fun p=>(p.1,J.getD p.2 [])
def yix(G:Grp)(c:Tc):Grp:=if G.any (fun q=>q.1 == c.t.w)then G.map (fun q=>if q.1 == c.t.w then (q.1,q.2++[c])else q)else G++[(c.t.w,[c])]
theorem zhg{α β:Type}(f:α->β):∀ {xs:List α},(xs.map f).Nodup->∀ {x y:α},x∈xs->y∈xs->f x=f y->x=y
 |[],_,x,y,hx,_,_=>by cases hx
 |a::xs,h,x,y,hx,hy,e=>by
  rw[List.map_cons,List.nodup_cons]at h;rcases List.mem_cons.mp hx with h1|h1
  ·rcases List.mem_cons.mp hy with h2|h2
   ·rw[h1,h2]
   ·rw[h1]at e;exact absurd (List.mem_map.mpr ⟨y,h2,e.symm⟩) h.1
  ·rcases List.mem_cons.mp hy with h2|h2
   ·rw[h2]at e;exact absurd (List.mem_map.mpr ⟨x,h1,e⟩) h.1
   ·exact zhg f h.2 h1 h2 e
theorem ziy{b:Gs}{J:Js}{m:Nat}(h:BI b J m)(c:Tc):vwG (bst b J c).1 (bst b J c).2=yix (vwG b J) c:=by
 unfold bst yix;cases hf:fnd b c.t.w with
 |some i=>
  have hmem:=zkd hf;have hi:i<J.length:=h.lt _ hmem;have ha:(vwG b J).any (fun q=>q.1 == c.t.w)=true:=by
   rw[List.any_eq_true];exact⟨(c.t.w,J.getD i []),List.mem_map.mpr ⟨_,hmem,rfl⟩,by simp⟩
  rw[ha,if_pos rfl];unfold vwG;rw[List.map_map];apply List.map_congr_left;intro p hp;simp only[Function.comp];by_cases e:p.1=c.t.w
  ·have:p=(c.t.w,i):=zhg (·.1) h.nk hp hmem e;subst this;simp only[beq_self_eq_true,if_true];congr 1;rw[List.getD_eq_getElem?_getD,List.getElem?_set_self (by simp;omega)];rfl
  ·have e':(p.1 == c.t.w)=false:=by simpa using e
   have hne:p.2≠i:=fun z=>e (by rw[zhg (·.2) h.nj hp hmem z]);rw[e'];simp only[Bool.false_eq_true,if_false];congr 1;rw[List.getD_eq_getElem?_getD,List.getElem?_set_ne (fun z=>hne z.symm),<-List.getD_eq_getElem?_getD,zko (h.lt p hp)]
 |none=>
  have hn:=zkc hf;have ha:(vwG b J).any (fun q=>q.1 == c.t.w)=false:=by
   rw[List.any_eq_false];intro q hq z;obtain⟨p,hp,rfl⟩:=List.mem_map.mp hq;exact hn (List.mem_map.mpr ⟨p,hp,by simpa using z⟩)
  rw[ha];unfold vwG;simp only[List.map_append,List.map_cons,List.map_nil,Bool.false_eq_true,if_false];congr 1
  ·apply List.map_congr_left;intro p hp;rw[zko (h.lt p hp)]
  ·congr 2;rw[List.getD_eq_getElem?_getD];simp
def bfo:List Tc->Gs × Js->Gs × Js
 |[],s=>s
 |c::cs,s=>bfo cs (bst s.1 s.2 c)
theorem zvk:∀ (cs:List Tc) {s:Gs × Js} {m:Nat},BI s.1 s.2 m->BI (bfo cs s).1 (bfo cs s).2 (m+cs.length)
 |[],s,m,h=>h
 |c::cs,s,m,h=>by
  have:=zvk cs (zvq h c);simp only[List.length_cons];rw[show m+(cs.length+1)=m+1+cs.length by omega];exact this
theorem ziv:∀ (cs:List Tc) {s:Gs × Js} {m:Nat},BI s.1 s.2 m->vwG (bfo cs s).1 (bfo cs s).2=cs.foldl yix (vwG s.1 s.2)
 |[],s,m,h=>rfl
 |c::cs,s,m,h=>by
  rw[List.foldl_cons,<-ziy h c];exact ziv cs (zvq h c)
theorem zoh:∀ (cs ds:List Tc) (s:Gs × Js),bfo (cs++ds) s=bfo ds (bfo cs s)
 |[],ds,s=>rfl
 |c::cs,ds,s=>zoh cs ds _
theorem ze1{nx:NX}{tg:D->Ev->Option Ev}{body:Ev->M Fl}{k i:Nat}{ρ ρ1:Ev}{σ:Sto}{d:D}(h:nx i σ=some (some d))(ht:tg d ρ=some ρ1):yed nx tg body (k+1) i ρ σ=(body ρ1 σ).bind (yeb (yed nx tg body k (i+1))):=by
 rw[yed];simp only[h,ht];rfl
theorem zg4{nx:NX}{tg:D->Ev->Option Ev}{body:Ev->M Fl}{k i:Nat}{ρ:Ev}{σ:Sto}(h:nx i σ=some none):yed nx tg body (k+1) i ρ σ=.ok (.nx ρ) σ:=by
 rw[yed];simp only[h]
theorem zo8{α:Type}{xs ts:List α}{i:Nat}{t:α}(h:xs.drop i=t::ts):xs[i]?=some t/\xs.drop (i+1)=ts:=by
 constructor
 ·have:=congrArg (·[0]?) h;simpa using this
 ·have:=congrArg List.tail h;simpa using this
theorem zjf{α:Type}{xs:List α}{i:Nat}(h:xs.drop i=[])(hi:i<=xs.length):xs[i]?=none/\i=xs.length:=by
 have:=List.drop_eq_nil_iff.mp h;exact⟨List.getElem?_eq_none_iff.mpr this,by omega⟩
theorem zk7(σ:Sto)(g:Ti->Str)(R rd:D)(xs:List Ti){nx:NX}(hn:yg9 nx xs (fun u=>yi9 (.inl u.w)) (lD g)):∀ (ts:List Ti) (i:Nat) (s:Gs × Js) (m:Nat) (x3 x4:Option D),xs.drop i=ts->i<=xs.length->xs.length<=6->BI s.1 s.2 m->m+ts.length<900->∃ y3 y4,
  yed nx (tgT 2 (ybh (tgN 3) (ybh (tgN 4) ygf))) lbB (1001 - i) i [some R,some (.ref σ.length),some rd,x3,x4] (bwS σ s.1 s.2)=.ok (.nx [some R,some (.ref σ.length),some rd,y3,y4]) (bwS σ (bfo (ts.map fun u=>⟨g u,u⟩) s).1 (bfo (ts.map fun u=>⟨g u,u⟩) s).2)
 |[],i,s,m,x3,x4,hd,hi,hl,hI,hm=>by
  obtain⟨e,ei⟩:=zjf hd hi;have hx:nx i (bwS σ s.1 s.2)=some none:=by rw[hn,e];simp[ei]
  rw[show 1001 - i=(1000 - i)+1 by omega];exact⟨x3,x4,zg4 hx⟩
 |t::ts,i,s,m,x3,x4,hd,hi,hl,hI,hm=>by
  obtain⟨e,hd2⟩:=zo8 hd;have hi2:i<xs.length:=(List.getElem?_eq_some_iff.mp e).1;simp only[List.length_cons]at hm;have hx:nx i (bwS σ s.1 s.2)=some (some (.tup [.int t.w,lD g t])):=by rw[hn,e];rfl
  have st:=zq8 σ s.1 s.2 m hI (by omega) R rd ⟨g t,t⟩;obtain⟨y3,y4,e2⟩:=zk7 σ g R rd xs hn ts (i+1) (bst s.1 s.2 ⟨g t,t⟩) (m+1) (some (.int t.w)) (some (lD g t)) hd2 (by omega) hl (zvq hI _) (by omega);refine⟨y3,y4,?_⟩;rw[show 1001 - i=(1001 - (i+1))+1 by omega,ze1 hx (ρ1:=[some R,some (.ref σ.length),some rd,some (.int t.w),some (lD g t)]) (nr rfl)];rw[show lbB [some R,some (.ref σ.length),some rd,some (.int t.w),some (lD g t)] (bwS σ s.1 s.2)=_ from st,zoj,zlj];exact e2
def tcs(v:Vw)(q:Po × St):List Tc:=q.2.ts.map fun u=>⟨lot v q.1.s q.1.sn u,u⟩
def AT(v:Vw)(qs:List (Po × St)):List Tc:=qs.flatMap (tcs v)
noncomputable abbrev loB:Ev->M Fl:=(yfv (yk4 (yid oIx (yik 2) (eC (.int 1)))) (tgT 2 (ybh (tgN 3) (ybh (tgN 4) ygf))) lbB)
@[simp] theorem zmt(src:Ev->M NX)(tg:D->Ev->Option Ev)(body:Ev->M Fl)(ρ:Ev)(σ:Sto):yfv src tg body ρ σ=xsO ρ (ydl tg body ρ) (src ρ σ):=ygo ..
theorem zur{f:Ev->M D}{ρ:Ev}{σ:Sto}{ks:List Key}{xs:List D}(h:f ρ σ=.ok (.dic ks xs) σ)(hl:ks.length=xs.length):yk4 f ρ σ=.ok (nxI (ks.zip xs)) σ:=by
 unfold yk4;rw[zvp,h,zoj];unfold yd0;dsimp only;rw[if_pos hl]
theorem zri(v:Vw)(q:Po × St)(hq:q.2.Ok)(σ:Sto)(R:D)(s:Gs × Js)(m:Nat)(x3 x4:Option D)(hI:BI s.1 s.2 m)(hm:m<890):∃ y3 y4,
  loB [some R,some (.ref σ.length),some (rdD v q.1 q.2),x3,x4] (bwS σ s.1 s.2)=.ok (.nx [some R,some (.ref σ.length),some (rdD v q.1 q.2),y3,y4]) (bwS σ (bfo (tcs v q) s).1 (bfo (tcs v q) s).2):=by
 have hl:=hq.len;obtain⟨y3,y4,e⟩:=zk7 σ (lot v q.1.s q.1.sn) R (rdD v q.1 q.2) q.2.ts (zly q.2.ts (fun u=>(.inl u.w:Key)) (lD (lot v q.1.s q.1.sn))) q.2.ts 0 s m x3 x4 rfl (by omega) hl hI (by omega);refine⟨y3,y4,?_⟩;have i1:∀ σ,oIx (rdD v q.1 q.2) (.int 1) σ=.ok (.dic (q.2.ts.map fun u=>.inl u.w) (q.2.ts.map (lD (lot v q.1.s q.1.sn)))) σ:=fun σ=>by unfold rdD;simp
 have sr:yk4 (yid oIx (yik 2) (eC (.int 1))) [some R,some (.ref σ.length),some (rdD v q.1 q.2),x3,x4] (bwS σ s.1 s.2)=.ok (nxI ((q.2.ts.map fun u=>(.inl u.w:Key)).zip (q.2.ts.map (lD (lot v q.1.s q.1.sn))))) (bwS σ s.1 s.2):=zur (by
  generalize rdD v q.1 q.2=RD at *;simp[i1]) (by simp)
 unfold loB;rw[zmt,sr];exact e
theorem zrh(v:Vw)(σ:Sto)(R:D):∀ (qs:List (Po × St)) (s:Gs × Js) (m:Nat) (x2 x3 x4:Option D),(∀ q∈qs,q.2.Ok)->BI s.1 s.2 m->m+6 * qs.length<880->∃ y2 y3 y4,
  yjc (tgN 2) loB (qs.map fun q=>rdD v q.1 q.2) [some R,some (.ref σ.length),x2,x3,x4] (bwS σ s.1 s.2)=.ok (.nx [some R,some (.ref σ.length),y2,y3,y4]) (bwS σ (bfo (AT v qs) s).1 (bfo (AT v qs) s).2)
 |[],s,m,x2,x3,x4,_,_,_=>⟨x2,x3,x4,by simp[AT,bfo]⟩
 |q::qs,s,m,x2,x3,x4,hq,hI,hm=>by
  simp only[List.length_cons]at hm;have hl:=(hq q List.mem_cons_self).len;obtain⟨y3,y4,e1⟩:=zri v q (hq q List.mem_cons_self) σ R s m x3 x4 hI (by omega);have hI2:=zvk (tcs v q) hI;have htl:(tcs v q).length<=6:=by unfold tcs;simpa using hl
  obtain⟨z2,z3,z4,e2⟩:=zrh v σ R qs (bfo (tcs v q) s) (m+(tcs v q).length) (some (rdD v q.1 q.2)) y3 y4 (fun r hr=>hq r (List.mem_cons_of_mem _ hr)) hI2 (by omega);refine⟨z2,z3,z4,?_⟩;rw[List.map_cons,zll];simp only[List.set_cons_succ,List.set_cons_zero];rw[e1,zoj,zlj,e2,show AT v (q::qs)=tcs v q++AT v qs from List.flatMap_cons ..,zoh]
def gD(G:Grp):D:=.dic (G.map fun q=>.inl q.1) (G.map fun q=>.lst (q.2.map Tc.D))
theorem zqf{f:D->Option D}:∀ {α:Type} {xs:List α} {g h:α->D},(∀ x∈xs,f (g x)=some (h x))->fzL f (xs.map g)=some (xs.map h)
 |_,[],_,_,_=>rfl
 |_,x::xs,g,h,hx=>by
  simp only[List.map_cons];unfold fzL;rw[hx x List.mem_cons_self,zqf fun y hy=>hx y (List.mem_cons_of_mem _ hy)]
theorem zxl(σ:Sto){b:Gs}{J:Js}{m:Nat}(h:BI b J m):yis σ (.ok (.ref σ.length) (bwS σ b J))=.ok (gD (vwG b J)) σ:=by
 have hr:fz σ.length (bwS σ b J) 6 (.ref σ.length)=some (gD (vwG b J)):=by
  have hv:fzL (fz σ.length (bwS σ b J) 5) ((kvB σ.length b).map (·.2))=some (b.map fun p=>D.lst ((J.getD p.2 []).map Tc.D)):=by
   rw[show (kvB σ.length b).map (·.2)=b.map fun p=>D.ref (σ.length+1+p.2) by unfold kvB;rw[List.map_map];rfl];refine zqf fun p hp=>?_;have hl:=zvu σ b J (h.lt p hp);have hl2:(bwS σ b J)[σ.length+1+p.2]?=some (.lst ((J.getD p.2 []).map Tc.D)):=by
    unfold yee at hl;cases e:(bwS σ b J)[σ.length+1+p.2]? with
    |none=>rw[e]at hl;cases hl
    |some o=>
     rw[e]at hl;cases o with
     |lst xs=>cases hl;rfl
     |_=>cases hl
   unfold fz;rw[if_neg (by simp[cl])];dsimp only;rw[if_neg (by omega),hl2];dsimp only;rw[zqf (g:=Tc.D) (h:=Tc.D) fun c _=>ydo (Tc.cl c)];rfl
  unfold fz;rw[if_neg (by simp[cl])];dsimp only;rw[if_neg (Nat.lt_irrefl _),zvs];dsimp only;rw[hv];unfold gD vwG kvB;simp only[Option.map_some,List.map_map];rfl
 unfold yis;dsimp only;rw[if_pos (by unfold bwS;simp),hr]
def grp(cs:List Tc):Grp:=cs.foldl yix []
theorem BI0:BI [] [] 0:=⟨fun _ h=>(by cases h),by simp,by simp,by simp,by simp,fun _ h=>(by cases h)⟩
theorem zel(v:Vw)(qs:List (Po × St))(hq:∀ q∈qs,q.2.Ok)(hl:qs.length<=3)(σ:Sto):f_lots_by_word [.lst (qs.map fun q=>rdD v q.1 q.2)] σ=.ok (gD (grp (AT v qs))) σ:=by
 obtain⟨y2,y3,y4,e⟩:=zrh v σ (.lst (qs.map fun q=>rdD v q.1 q.2)) qs ([],[]) 0 none none none hq BI0 (by omega);have hI:=zvk (AT v qs) (s:=([],[])) BI0;have fz:=zxl σ hI;rw[ziv (AT v qs) (s:=([],[])) BI0]at fz;rw[show vwG ([]:Gs) []=[]from rfl,show (AT v qs).foldl yix []=grp (AT v qs)from rfl]at fz;rw[show bwS σ ([]:Gs) []=σ++[.dic []]from rfl]at e;unfold loB lbB at e;unfold f_lots_by_word zbg;generalize bwS σ (bfo (AT v qs) ([],[])).1 (bfo (AT v qs) ([],[])).2=σ2 at *;generalize gD (grp (AT v qs))=OUT at *;generalize (qs.map fun q=>rdD v q.1 q.2)=RL at *;simp[e,fz,-zmt]
abbrev Fs:=List (Int × Option Int)
def oD:Option Int->D
 |none=>.non
 |some z=>.int z
@[simp] theorem yex(x:Option Int):cl (oD x)=true:=by cases x<;>simp[oD]
def fD(F:Fs):D:=.dic (F.map fun p=>.inl p.1) (F.map fun p=>oD p.2)
theorem yc5(F:Fs):cl (fD F)=true:=by
 have:clL (F.map fun p=>oD p.2)=true:=zou fun _=>by simp
 unfold fD cl;exact this
def kvF(F:Fs):List (Key × D):=F.map fun p=>(.inl p.1,oD p.2)
def yit(F:Fs)(w:Int):Option (Option Int):=(F.find? fun p=>decide (p.1=w)).map (·.2)
theorem zj5(w:Int):∀ (F:Fs),ydc (kvF F) (.inl w)=(yit F w).map oD
 |[]=>rfl
 |p::F=>by
  have ih:=zj5 w F;unfold ydc kvF yit at *;rw[List.map_cons,List.find?_cons,List.find?_cons];by_cases e:p.1=w
  ·simp[e]
  ·have e2:¬ (Sum.inl p.1:Key)=Sum.inl w:=fun z=>e (Sum.inl.inj z);simp only[e,e2,decide_false]at ih ⊢;exact ih
def opn(ls:List Tc):List Tc:=ls.filter fun c=>c.l == "open"
def yip(ls:List Tc):D:=.lst (.non::(opn ls).map fun c=>.int c.t.d)
theorem zpy(ls:List Tc):cl (yip ls)=true:=by
 have:clL ((opn ls).map fun c=>D.int c.t.d)=true:=zou fun _=>by simp
 unfold yip;simp[this]
theorem Tc.i0(c:Tc)(σ:Sto):oIx c.D (.int 0) σ=.ok (.str c.l) σ:=by unfold Tc.D;simp
theorem Tc.i1(c:Tc)(σ:Sto):oIx c.D (.int 1) σ=.ok (.int c.t.a) σ:=by unfold Tc.D;simp
theorem Tc.i2(c:Tc)(σ:Sto):oIx c.D (.int 2) σ=.ok (.int c.t.d) σ:=by unfold Tc.D;simp
theorem zer(ls:List Tc)(hl:ls.length<=100)(σ:Sto):f_fates_of [.lst (ls.map Tc.D)] σ=.ok (yip ls) σ:=by
 have l:=lcA (xs:=ls) (ix:=[]) (ρ:=[some (.lst (ls.map Tc.D))]) (σ:=σ) (src:=yk6 (yik 0)) (fi:=eT (yid oEq (yid oIx (yik 0) (eC (.int 0))) (eC (.str "open")))) (fe:=yid oIx (yik 0) (eC (.int 2))) Tc.D (fun c=>c.l == "open") (fun c=>.int c.t.d) (by simp) (by omega) (fun c _ j=>by
   have i0:=fun σ=>c.i0 σ;have i2:=fun σ=>c.i2 σ;generalize c.D=CD at *;generalize hb:(c.l == "open")=b at *;constructor
   ·simp[i0,hb]
   ·intro _;simp[i2]) (fun _ _=>by simp)
 rw[show ls.filter (fun c:Tc=>c.l == ("open" : Str))=opn ls from rfl]at l;have hlen:(opn ls).length<=ls.length:=List.length_filter_le _ _;have ad:∀ σ,yjm (.lst [.non]) (.lst ((opn ls).map fun c=>.int c.t.d)) σ=.ok (yip ls) σ:=fun σ=>by
  rw[zl0 (by simp[cap];omega)];rfl
 have hc:=zpy ls;unfold f_fates_of zew;generalize yip ls=OUT at *;generalize D.lst ((opn ls).map fun c=>.int c.t.d)=O2 at *;generalize D.lst (ls.map Tc.D)=IN at *;simp[l,ad,hc,-zpb]
def cmB(x:Option Int)(e:Int)(c:Tc):Bool:=
 if c.l == ("open" : Str)then (match x with|none=>true|some z=>decide (c.t.d<z))
 else (c.l == ("hangs" : Str)) && (match x with|none=>false|some z=>decide (z - 1+e<c.t.d))
theorem zi7(c:Tc)(x:Option Int)(e:Int)(σ:Sto):f_comes_by_fate [c.D,oD x,.int e] σ=.ok (.bl (cmB x e c)) σ:=by
 have i0:=fun σ=>c.i0 σ;have i2:=fun σ=>c.i2 σ;unfold f_comes_by_fate zaw cmB;generalize hb1:(c.l == ("open" : Str))=b1 at *;generalize hb2:(c.l == ("hangs" : Str))=b2 at *;generalize c.D=CD at *;cases x with
 |none=>cases b1<;>cases b2<;>simp[oD,i0,i2,hb1,hb2]
 |some z=>
  generalize hb3:decide (c.t.d<z)=b3 at *;generalize hb4:decide (z - 1+e<c.t.d)=b4 at *;cases b1<;>cases b2<;>cases b3<;>cases b4<;>simp[oD,i0,i2,hb1,hb2,hb3,hb4]
def sby(ls:List Tc)(x:Option Int)(e:Int):Int:=((ls.filter (cmB x e)).map fun c=>c.t.a).sum
theorem znh(l:List Int)(σ:Sto):yj5 [.lst (l.map D.int)] σ=.ok (.int l.sum) σ:=by simp[yj5]
theorem zni(ls:List Tc)(hl:ls.length<=100)(x:Option Int)(e:Int)(σ:Sto):f_sum_by_fate [.lst (ls.map Tc.D),oD x,.int e] σ=.ok (.int (sby ls x e)) σ:=by
 have l:=lcA (xs:=ls) (ix:=[1,2]) (ρ:=[some (.lst (ls.map Tc.D)),some (oD x),some (.int e)]) (σ:=σ) (src:=yk6 (yik 0)) (fi:=eT (eFn 3 f_comes_by_fate [] (ycc (yik 0) (ycc (yik 1) (ycc (yik 2) yhq))))) (fe:=yid oIx (yik 0) (eC (.int 1))) Tc.D (cmB x e) (fun c=>.int c.t.a) (by simp) (by omega) (fun c _ j=>by
   have i1:=fun σ=>c.i1 σ;have cm:=fun σ=>zi7 c x e σ;generalize c.D=CD at *;generalize oD x=OX at *;constructor
   ·simp[cm]
   ·intro _;simp[i1]) (fun _ _=>by simp)
 have o:=znh ((ls.filter (cmB x e)).map fun c=>c.t.a) σ;rw[List.map_map,show (D.int ∘ fun c:Tc=>c.t.a)=(fun c:Tc=>D.int c.t.a)from rfl]at o;unfold f_sum_by_fate zb6 sby;generalize D.lst ((ls.filter (cmB x e)).map fun c=>D.int c.t.a)=O2 at *;generalize ((ls.filter (cmB x e)).map fun c=>c.t.a).sum=SM at *;generalize D.lst (ls.map Tc.D)=IN at *;generalize oD x=OX at *;simp[l,o,-zpb]
def yiy(F:Fs)(e:Int):Grp->Int
 |[]=>0
 |q::G=>sby q.2 ((yit F q.1).getD none) e+yiy F e G
noncomputable abbrev soB:Ev->M Fl:=(yks (fun a b=>a+b) 4 (eFn 3 f_sum_by_fate [] (ycc (yik 6) (ycc (yid yew (yik 2) (yik 5)) (ycc (yik 3) yhq)))))
def frm(v:Vw)(qs:List (Po × St)):Int:=(qs.map fun q=>shr q.1.s q.2+yio (lot v q.1.s q.1.sn) q.2.ts).sum
theorem zja(ws:List Int)(w:Int):ddp (ws++[w])=if (ddp ws).any (·== w)then ddp ws else ddp ws++[w]:=by
 unfold ddp;rw[List.foldl_append];rfl
theorem zv7:∀ (ws acc:List Int) (x:Int),x∈ws.foldl PyProof.Rows.step_dedup acc ↔ x∈acc\/x∈ws
 |[],acc,x=>by simp
 |w::ws,acc,x=>by
  rw[List.foldl_cons,zv7 ws];have:x∈PyProof.Rows.step_dedup acc w ↔ x∈acc\/x=w:=by
   unfold PyProof.Rows.step_dedup;split
   ·next h=>
    constructor
    ·exact .inl
    ·rintro (z|rfl)
     ·exact z
     ·obtain⟨y,hy,e⟩:=List.any_eq_true.mp h;have:y=x:=by simpa using e
      rw[<-this];exact hy
   ·simp
  rw[this];simp only[List.mem_cons];constructor
  ·rintro ((h|h)|h)
   ·exact .inl h
   ·exact .inr (.inl h)
   ·exact .inr (.inr h)
  ·rintro (h|h|h)
   ·exact .inl (.inl h)
   ·exact .inl (.inr h)
   ·exact .inr h
theorem zo3(ws:List Int)(x:Int):x∈ddp ws ↔ x∈ws:=by
 have:=zv7 ws [] x;simpa [ddp]using this
def wds(cs:List Tc):List Int:=cs.map fun c=>c.t.w
def flt(cs:List Tc)(w:Int):List Tc:=cs.filter fun c=>c.t.w == w
def spc(cs:List Tc):Grp:=(ddp (wds cs)).map fun w=>(w,flt cs w)
theorem zkb(cs:List Tc)(c:Tc)(w:Int):flt (cs++[c]) w=if c.t.w == w then flt cs w++[c]else flt cs w:=by
 unfold flt;rw[List.filter_append,List.filter_cons];split<;>simp
theorem zkn(cs:List Tc)(c:Tc):yix (spc cs) c=spc (cs++[c]):=by
 have ha:(spc cs).any (fun q=>q.1 == c.t.w)=(ddp (wds cs)).any (·== c.t.w):=by unfold spc;rw[List.any_map];rfl
 have hw:wds (cs++[c])=wds cs++[c.t.w]:=by simp[wds]
 unfold yix;rw[ha];cases h:(ddp (wds cs)).any (·== c.t.w)with
 |true=>
  unfold spc;rw[hw,zja,h];simp only[if_true,List.map_map];apply List.map_congr_left;intro w _;simp only[Function.comp,zkb];by_cases e:c.t.w=w
  ·subst e;simp
  ·have e1:(c.t.w == w)=false:=by simpa using e
   have e2:(w == c.t.w)=false:=by simpa using fun z=>e z.symm
   rw[e1,e2];simp
 |false=>
  have hn:c.t.w ∉ wds cs:=fun z=>by
   rw[List.any_eq_false]at h;exact h _ ((zo3 _ _).mpr z) (by simp)
  unfold spc;rw[hw,zja,h];simp only[Bool.false_eq_true,if_false,List.map_append,List.map_cons,List.map_nil];congr 1
  ·apply List.map_congr_left;intro w hwm;rw[zkb];have e1:(c.t.w == w)=false:=by
    simp;intro z;exact hn (by rw[z];exact(zo3 _ _).mp hwm)
   rw[e1];simp
  ·have e0:flt cs c.t.w=[]:=by
    unfold flt;rw[List.filter_eq_nil_iff];intro d hd z;exact hn (List.mem_map.mpr ⟨d,hd,by simpa using z⟩)
   rw[zkb,e0];simp
theorem zx0:∀ (cs ds:List Tc),cs.foldl yix (spc ds)=spc (ds++cs)
 |[],ds=>by simp
 |c::cs,ds=>by rw[List.foldl_cons,zkn,zx0 cs (ds++[c])];simp
theorem zql(cs:List Tc):grp cs=spc cs:=by
 have:=zx0 cs [];simpa [grp,spc,wds,ddp]using this
theorem zuq(cs:List Tc):(spc cs).length<=cs.length:=by
 unfold spc;rw[List.length_map];have:=zv8 (wds cs);simpa [wds]using this
theorem ybb(cs:List Tc):∀ q∈spc cs,q.2.length<=cs.length:=fun q hq=>by
 obtain⟨w,_,rfl⟩:=List.mem_map.mp hq;exact List.length_filter_le _ _
def yi1(h:Tc->Int)(cs:List Tc):Int:=(cs.map h).sum
theorem zku(h:Tc->Int)(c:Tc)(cs:List Tc)(w:Int):yi1 h (flt (c::cs) w)=(if c.t.w == w then h c else 0)+yi1 h (flt cs w):=by
 unfold flt yi1;rw[List.filter_cons];split<;>simp
def ylu(h:Int->Tc->Int)(cs:List Tc):List Int->Int
 |[]=>0
 |w::W=>yi1 (h w) (flt cs w)+ylu h cs W
theorem znx(h:Int->Tc->Int):∀ W,ylu h [] W=0
 |[]=>rfl
 |w::W=>by simp[ylu,znx h W,yi1,flt]
theorem zik(h:Int->Tc->Int)(c:Tc)(cs:List Tc):∀ (W:List Int),W.Nodup->ylu h (c::cs) W=(if c.t.w∈W then h c.t.w c else 0)+ylu h cs W
 |[],_=>by simp[ylu]
 |w::W,hn=>by
  rw[List.nodup_cons]at hn;simp only[ylu];rw[zku,zik h c cs W hn.2];by_cases e:c.t.w=w
  ·have e1:(c.t.w == w)=true:=by simpa using e
   rw[e1,e];simp only[if_true,List.mem_cons,true_or];rw[if_neg hn.1];omega
  ·have e1:(c.t.w == w)=false:=by simpa using e
   rw[e1];simp only[Bool.false_eq_true,if_false,List.mem_cons,e,false_or];omega
theorem znw(h:Int->Tc->Int)(W:List Int)(hn:W.Nodup):∀ (cs:List Tc),(∀ c∈cs,c.t.w∈W)->ylu h cs W=yi1 (fun c=>h c.t.w c) cs
 |[],_=>by rw[znx];rfl
 |c::cs,hc=>by
  rw[zik h c cs W hn,if_pos (hc c List.mem_cons_self),znw h W hn cs fun d hd=>hc d (List.mem_cons_of_mem _ hd)];simp[yi1]
theorem zfo(p:Tc->Bool):∀ cs:List Tc,((cs.filter p).map fun c=>c.t.a).sum=yi1 (fun c=>if p c then c.t.a else 0) cs
 |[]=>rfl
 |c::cs=>by
  have ih:=zfo p cs;unfold yi1 at *;rw[List.filter_cons,List.map_cons,List.sum_cons,<-ih];split<;>simp
theorem zkq(F:Fs)(e:Int)(cs:List Tc):∀ (W:List Int),yiy F e (W.map fun w=>(w,flt cs w))=ylu (fun w c=>if cmB ((yit F w).getD none) e c then c.t.a else 0) cs W
 |[]=>rfl
 |w::W=>by
  simp only[List.map_cons,yiy,ylu];rw[zkq F e cs W];unfold sby;rw[zfo]
def cnt(x:Option Int)(e:Int)(c:Tc):Bool:=ydd c.l || cmB x e c
theorem zgl(x:Option Int)(e:Int)(c:Tc)(h:ydd c.l=true):cmB x e c=false:=by
 have hl:c.l = "won"\/c.l = "sure"\/c.l = "back":=by
  unfold ydd inV at h;simp only[List.map_cons,List.map_nil,List.any_cons,List.any_nil,Bool.or_false,Bool.or_eq_true,eqV]at h;rcases h with h|h|h
  ·exact .inl (eq_of_beq h).symm
  ·exact .inr (.inl (eq_of_beq h).symm)
  ·exact .inr (.inr (eq_of_beq h).symm)
 unfold cmB;have h1:(c.l == ("open" : Str))=false:=by rcases hl with h|h|h<;>rw[h]<;>decide
 have h2:(c.l == ("hangs" : Str))=false:=by rcases hl with h|h|h<;>rw[h]<;>decide
 rw[h1,h2];rfl
theorem zoz(X:Int->Option Int)(e:Int):∀ cs:List Tc,yi1 (fun c=>if cnt (X c.t.w) e c then c.t.a else 0) cs=yi1 (fun c=>if ydd c.l then c.t.a else 0) cs+yi1 (fun c=>if cmB (X c.t.w) e c then c.t.a else 0) cs
 |[]=>rfl
 |c::cs=>by
  have ih:=zoz X e cs;unfold yi1 at *;simp only[List.map_cons,List.sum_cons];rw[ih];unfold cnt;cases hf:ydd c.l with
  |true=>
   rw[zgl (X c.t.w) e c hf];simp;omega
  |false=>simp;omega
def own(qs:List (Po × St)):Int:=(qs.map fun q=>shr q.1.s q.2).sum
theorem zwu(g:Ti->Str):∀ ts:List Ti,yio g ts=yi1 (fun c=>if ydd c.l then c.t.a else 0) (ts.map fun u=>(⟨g u,u⟩:Tc))
 |[]=>rfl
 |t::ts=>by
  simp only[yio,List.map_cons];rw[zwu g ts];simp[yi1]
theorem zkt(h:Tc->Int)(cs ds:List Tc):yi1 h (cs++ds)=yi1 h cs+yi1 h ds:=by simp[yi1]
theorem zp1(v:Vw):∀ qs:List (Po × St),frm v qs=own qs+yi1 (fun c=>if ydd c.l then c.t.a else 0) (AT v qs)
 |[]=>rfl
 |q::qs=>by
  have ih:=zp1 v qs;rw[show AT v (q::qs)=tcs v q++AT v qs from List.flatMap_cons ..,zkt];unfold frm own at *;simp only[List.map_cons,List.sum_cons];rw[ih,zwu];unfold tcs;omega
theorem zos{ps:List Po}{cs:List Int}(hp:plB ps cs=true):∀ q∈chS ps cs,q.1∈ps/\q.2∈q.1.st:=fun q hq=>by
 obtain⟨r,hr,rfl⟩:=List.mem_map.mp hq;have hb:=List.all_eq_true.mp hp r hr;simp only[Bool.and_eq_true,decide_eq_true_eq]at hb;have hi:r.2.toNat<r.1.st.length:=by omega
 refine⟨(List.of_mem_zip hr).1,?_⟩;dsimp only;rw[List.getD_eq_getElem?_getD,List.getElem?_eq_getElem hi];exact List.getElem_mem hi
theorem zu8(v:Vw):∀ (qs:List (Po × St)),(∀ q∈qs,q.2.Ok)->(AT v qs).length<=6 * qs.length
 |[],_=>by simp[AT]
 |q::qs,h=>by
  rw[show AT v (q::qs)=tcs v q++AT v qs from List.flatMap_cons ..,List.length_append,List.length_cons];have h1:=zu8 v qs fun r hr=>h r (List.mem_cons_of_mem _ hr);have h2:=(h q List.mem_cons_self).len;have h3:(tcs v q).length=q.2.ts.length:=by unfold tcs;simp
  omega
theorem zor(ps:List Po)(cs:List Int):(chS ps cs).length<=ps.length:=by unfold chS;rw[List.length_map];exact zu7 ps cs
def Tc.L(c:Tc):L4.D:=.tup [.str c.l,c.t.D]
@[simp] theorem Tc.Lcl(c:Tc):L4.cl c.L=true:=by simp[Tc.L]
theorem Vw.j0(v:Vw)(σ:Sto):oIx v.D (.int 0) σ=.ok (.int v.e) σ:=by unfold Vw.D;simp
theorem Vw.j1(v:Vw)(σ:Sto):oIx v.D (.int 1) σ=.ok (.int v.k) σ:=by unfold Vw.D;simp
theorem Vw.j2(v:Vw)(σ:Sto):oIx v.D (.int 2) σ=.ok (.lst (v.ws.map D.int)) σ:=by unfold Vw.D;simp
theorem Vw.j3(v:Vw)(σ:Sto):oIx v.D (.int 3) σ=.ok (.lst (v.ps.map Po.D)) σ:=by unfold Vw.D;simp
theorem yco{ps:List Po}{cs:List Int}(hp:plB ps cs=true){i:Nat}{q:Po × St}(h:(chS ps cs)[i]?=some q):ps[i]?=some q.1/\∃ c:Int,cs[i]?=some c/\0<=c/\q.1.st[c.toNat]?=some q.2:=by
 unfold chS at h;rw[List.getElem?_map]at h;cases e:(ps.zip cs)[i]? with
 |none=>rw[e]at h;cases h
 |some r=>
  rw[e]at h;cases h;have e2:=List.getElem?_zip_eq_some.mp e;have hb:=List.all_eq_true.mp hp r (List.mem_of_getElem? e);simp only[Bool.and_eq_true,decide_eq_true_eq]at hb;have hi:r.2.toNat<r.1.st.length:=by omega
  refine⟨e2.1,r.2,e2.2,hb.1,?_⟩;dsimp only;rw[List.getD_eq_getElem?_getD,List.getElem?_eq_getElem hi];rfl
theorem ixM{α:Type}{xs:List α}{f:α->D}{i:Nat}{x:α}(h:xs[i]?=some x)(σ:Sto):oIx (.lst (xs.map f)) (.int i) σ=.ok (f x) σ:=zsg (zob (by rw[List.getElem?_map,h];rfl))
theorem yi5{α:Type}{xs:List α}{f:α->D}{c:Int}{x:α}(h0:0<=c)(h:xs[c.toNat]?=some x)(σ:Sto):oIx (.lst (xs.map f)) (.int c) σ=.ok (f x) σ:=by
 have:=ixM (f:=f) h σ;rw[show ((c.toNat:Nat):Int)=c by omega]at this;exact this
theorem yhu(p:Po)(x0 x1 x2 x3 x4 x5 x6 x7:Option D)(σ:Sto):yhv (tgT 3 (ybh (tgN 4) (ybh (tgN 5) (ybh (tgN 6) ygf)))) [x0,x1,x2,x3,x4,x5,x6,x7] p.D σ=.ok (.nx [x0,x1,x2,x3,some (.int p.s),some (.lst (p.st.map St.D)),some (shD p.sn),x7]) σ:=nr rfl
noncomputable abbrev tiI:Ev->M Fl:=(ykt (yc2 zr8 (yik 2) (ycc (yij (ycc (eFn 4 f__law_standing [] (ycc (yik 0) (ycc (yik 4) (ycc (yik 6) (ycc (yik 7) yhq))))) (ycc (yik 7) yhq))) yhq)))
theorem znk(v:Vw)(p:Po)(CL:D)(i:Int)(SL:D)(σ:Sto):∀ (ts:List Ti) (ys:List D) (x7:Option D),ys.length+ts.length<900->∃ y7,
  yjc (tgN 7) tiI (ts.map Ti.D) [some v.D,some CL,some (.ref σ.length),some (.int i),some (.int p.s),some SL,some (shD p.sn),x7] (σ++[.lst ys])=.ok (.nx [some v.D,some CL,some (.ref σ.length),some (.int i),some (.int p.s),some SL,some (shD p.sn),y7]) (σ++[.lst (ys++ts.map fun u=>Tc.L ⟨lot v p.s p.sn u,u⟩)])
 |[],ys,x7,_=>⟨x7,by simp⟩
 |t::ts,ys,x7,hl=>by
  simp only[List.length_cons]at hl;obtain⟨y7,e⟩:=znk v p CL i SL σ ts (ys++[Tc.L ⟨lot v p.s p.sn t,t⟩]) (some t.D) (by simp;omega);refine⟨y7,?_⟩;have st:tiI [some v.D,some CL,some (.ref σ.length),some (.int i),some (.int p.s),some SL,some (shD p.sn),some t.D] (σ++[.lst ys])=.ok (.nx [some v.D,some CL,some (.ref σ.length),some (.int i),some (.int p.s),some SL,some (shD p.sn),some t.D]) (σ++[.lst (ys++[Tc.L ⟨lot v p.s p.sn t,t⟩])]):=by
   have s1:=fun σ=>zef v p.s p.sn t σ;have ap:=zei (σ:=σ) (xs:=ys) (d:=Tc.L ⟨lot v p.s p.sn t,t⟩) (by omega);unfold Tc.L at *;unfold tiI;generalize lot v p.s p.sn t=L at *;generalize v.D=VD at *;generalize t.D=TD at *;generalize shD p.sn=SD at *;simp[s1,ap]
  rw[List.map_cons,zll];simp only[List.set_cons_succ,List.set_cons_zero];rw[st,zoj,zlj,e];simp
noncomputable abbrev tiO:Ev->M Fl:=(ykz (ykr (yid oIx (yid oIx (yik 0) (eC (.int 3))) (yik 3)) (tgT 3 (ybh (tgN 4) (ybh (tgN 5) (ybh (tgN 6) ygf)))))
 (ykv (yk6 (yid oIx (yid oIx (yik 5) (yid oIx (yik 1) (yik 3))) (eC (.int 2)))) (tgN 7) tiI))
theorem znl(v:Vw)(hv:v.Ok)(cs:List Int)(hp:plB v.ps cs=true)(σ:Sto):∀ (qs:List (Po × St)) (i:Nat) (ys:List D) (x3 x4 x5 x6 x7:Option D),(chS v.ps cs).drop i=qs->ys.length+6 * qs.length<800->∃ y3 y4 y5 y6 y7,
  yjc (tgN 3) tiO ((List.range' i qs.length).map fun(k:Nat)=>D.int k) [some v.D,some (.lst (cs.map D.int)),some (.ref σ.length),x3,x4,x5,x6,x7] (σ++[.lst ys])=.ok (.nx [some v.D,some (.lst (cs.map D.int)),some (.ref σ.length),y3,y4,y5,y6,y7]) (σ++[.lst (ys++(AT v qs).map Tc.L)])
 |[],i,ys,x3,x4,x5,x6,x7,_,_=>⟨x3,x4,x5,x6,x7,by simp[AT]⟩
 |q::qs,i,ys,x3,x4,x5,x6,x7,hd,hl=>by
  obtain⟨hq,hd2⟩:=zo8 hd;obtain⟨h1,c,h2,h3,h4⟩:=yco hp hq;have hqo:=hv.ok q.1 (List.mem_of_getElem? h1) q.2 (List.mem_of_getElem? h4);simp only[List.length_cons]at hl;have hlen:=hqo.len;have e1:=fun σ=>ixM (f:=Po.D) h1 σ;have e2:=fun σ=>ixM (f:=D.int) h2 σ;have e3:=fun σ=>yi5 (f:=St.D) h3 h4 σ;have e4:=fun σ=>q.2.i2 σ;have j3:=fun σ=>v.j3 σ;have a3:=fun x0 x1 x2 x3 x4 x5 x6 x7 σ=>yhu q.1 x0 x1 x2 x3 x4 x5 x6 x7 σ;obtain⟨y7,ei⟩:=znk v q.1 (.lst (cs.map D.int)) i (.lst (q.1.st.map St.D)) σ q.2.ts ys x7 (by omega);have et:(q.2.ts.map fun u=>Tc.L ⟨lot v q.1.s q.1.sn u,u⟩)=(tcs v q).map Tc.L:=by unfold tcs;rw[List.map_map];rfl
  rw[et]at ei;have htl:(tcs v q).length<=6:=by unfold tcs;simpa using hlen
  obtain⟨z3,z4,z5,z6,z7,e⟩:=znl v hv cs hp σ qs (i+1) (ys++(tcs v q).map Tc.L) (some (.int i)) (some (.int q.1.s)) (some (.lst (q.1.st.map St.D))) (some (shD q.1.sn)) y7 hd2 (by simp;omega);refine⟨z3,z4,z5,z6,z7,?_⟩;have st:tiO [some v.D,some (.lst (cs.map D.int)),some (.ref σ.length),some (.int i),x4,x5,x6,x7] (σ++[.lst ys])=.ok (.nx [some v.D,some (.lst (cs.map D.int)),some (.ref σ.length),some (.int i),some (.int q.1.s),some (.lst (q.1.st.map St.D)),some (shD q.1.sn),y7]) (σ++[.lst (ys++(tcs v q).map Tc.L)]):=by
   unfold tiI at ei;unfold tiO tiI;generalize (ys++(tcs v q).map Tc.L)=Y2 at *;generalize D.lst (cs.map D.int)=CL at *;generalize D.lst (q.1.st.map St.D)=SL at *;generalize D.lst (v.ps.map Po.D)=PL at *;generalize q.2.ts.map Ti.D=TL at *;generalize v.D=VD at *;generalize q.1.D=QD at *;generalize q.2.D=SD at *;generalize shD q.1.sn=ND at *;generalize (i:Int)=I at *;simp[e1,e2,e3,e4,j3,a3,ei]
  rw[List.length_cons,List.range'_succ,List.map_cons,zll];simp only[List.set_cons_succ,List.set_cons_zero];rw[st,zoj,zlj,e,show AT v (q::qs)=tcs v q++AT v qs from List.flatMap_cons ..];simp
theorem yko(n:Nat)(h:n<=1000)(σ:Sto):ykn (.int (n:Int)) σ=.ok (.seq (yas n)) σ:=by
 have:=zth (σ:=σ) (j:=(n:Int)) (by omega) (by omega);simpa using this
theorem zuy(v:Vw)(hv:v.Ok)(cs:List Int)(hlc:cs.length=v.ps.length)(hp:plB v.ps cs=true)(σ:Sto):f__law_ties [v.D,.lst (cs.map D.int)] σ=.ok (.lst ((AT v (chS v.ps cs)).map Tc.L)) σ:=by
 have hn:=hv.n3;have hcl:(chS v.ps cs).length=cs.length:=by unfold chS;rw[List.length_map,List.length_zip];omega
 obtain⟨y3,y4,y5,y6,y7,e⟩:=znl v hv cs hp σ (chS v.ps cs) 0 [] none none none none none rfl (by simp;omega);rw[hcl,<-zhv,List.nil_append]at e;have l1:∀ σ,yjy [.lst (cs.map D.int)] σ=.ok (.int cs.length) σ:=fun σ=>by simp
 have rk:=fun σ=>yko cs.length (by omega) σ;have fz:=zp4 (σ:=σ) (zs:=(AT v (chS v.ps cs)).map Tc.L) (zou fun c=>by simp);unfold tiO tiI at e;unfold f__law_ties zdn;generalize (AT v (chS v.ps cs)).map Tc.L=OUT at *;generalize D.lst (cs.map D.int)=CL at *;generalize v.D=VD at *;generalize yas cs.length=RG at *;generalize (cs.length:Int)=N at *;simp[l1,rk,e,fz]
def dvn:Nat->Int->Int
 |0,a=>a
 |n+1,a=>dvn n (a / 2147483647)
theorem zr2(x0 x1 x4:Option D)(σ:Sto):∀ (l:List D) (a:Int) (x3:Option D),∃ (y3:Option D),yjc (tgN 3) (yk0 2 (yid yez (yik 2) (eC (.int 2147483647)))) l [x0,x1,some (.int a),x3,x4] σ=.ok (.nx [x0,x1,some (.int (dvn l.length a)),y3,x4]) σ
 |[],a,x3=>⟨x3,by simp[dvn]⟩
 |d::l,a,x3=>by
  obtain⟨y3,e⟩:=zr2 x0 x1 x4 σ l (a / 2147483647) (some d);refine⟨y3,?_⟩;rw[zll];simp only[List.set_cons_succ,List.set_cons_zero];have dv:∀ σ,yez (.int a) (.int 2147483647) σ=.ok (.int (a / 2147483647)) σ:=fun σ=>zl1 a 2147483647 (by decide) (by decide) σ;have st:yk0 2 (yid yez (yik 2) (eC (.int 2147483647))) [x0,x1,some (.int a),some d,x4] σ=.ok (.nx [x0,x1,some (.int (a / 2147483647)),some d,x4]) σ:=by simp[dv]
  rw[st,zoj,zlj,e];rfl
def mx1(c k:Int):Int:=(c+7919 * k+1) * 48271 % 2147483647
def mx2(c k:Int):Int:=mx1 c k * (mx1 c k / 1009+69621) % 2147483647
def yjk(c:Int)(k:Nat):Int:=if (c % 2 == 0) && (((k:Int) == 0) || decide (0<dvn k (c / 2)))then dvn k (c / 2) % 2147483647 else mx2 c k * (mx2 c k / 2003+40692) % 2147483629
theorem zr0(c:Int)(k:Nat):0<=yjk c k:=by unfold yjk;split<;>omega
theorem zyy(c:Int)(k:Nat)(hk:k<=100)(σ:Sto):f__law_mixed [.int c,.int k] σ=.ok (.int (yjk c k)) σ:=by
 have rk:=fun σ=>yko k (by omega) σ;obtain⟨y3,e⟩:=zr2 (some (.int c)) (some (.int k)) none σ (yas k) (c / 2) none;rw[show (yas k).length=k by unfold yas;simp]at e;have hN:∀ z:Int,0<=z % 2147483647/\z % 2147483647<2147483647:=fun z=>by omega
 unfold yjk mx2 mx1;generalize hn1:(c+7919 * (k:Int)+1) * 48271 % 2147483647=n1;have b1:0<=n1/\n1<2147483647:=by rw[<-hn1];exact hN _
 generalize hn2:n1 * (n1 / 1009+69621) % 2147483647=n2;have b2:0<=n2/\n2<2147483647:=by rw[<-hn2];exact hN _
 have m0:∀ σ,yj1 (.int 7919) (.int k) σ=.ok (.int (7919 * k)) σ:=fun σ=>zza (by omega) (by omega);have m1:∀ x σ,yj1 (.int x) (.int 48271) σ=.ok (.int (x * 48271)) σ:=fun x σ=>zzb (by omega) (by omega);have m2:∀ y σ,yj1 (.int n1) (.int y) σ=.ok (.int (n1 * y)) σ:=fun y σ=>zza (by omega) (by omega);have m3:∀ y σ,yj1 (.int n2) (.int y) σ=.ok (.int (n2 * y)) σ:=fun y σ=>zza (by omega) (by omega);unfold f__law_mixed zcw;generalize dvn k (c / 2)=b at *;generalize yas k=RG at *;generalize (k:Int)=K at *;cases h0:(c % 2 == 0)with
 |true=>
  cases h1:(K == 0)with
  |true=>simp[h0,rk,e,h1]
  |false=>
   cases h2:decide (0<b)with
   |true=>simp[h0,rk,e,h1,h2]
   |false=>simp[h0,rk,e,h1,h2,m0,m1,hn1,m2,hn2,m3]
 |false=>simp[h0,m0,m1,hn1,m2,hn2,m3]
def putF(F:Fs)(w:Int)(x:Option Int):Fs:=if F.any (fun p=>decide (p.1=w))then F.map fun p=>if p.1=w then (p.1,x)else p else F++[(w,x)]
theorem zs9(F:Fs)(w:Int)(x:Option Int):yfl (kvF F) (.inl w) (oD x)=kvF (putF F w x):=by
 have ha:((kvF F).any fun kv=>decide (kv.1=(Sum.inl w:Key)))=F.any fun p=>decide (p.1=w):=by
  unfold kvF;rw[List.any_map];congr 1;funext p;simp
 unfold yfl putF;rw[ha];split
 ·unfold kvF;rw[List.map_map,List.map_map];congr 1;funext p;simp only[Function.comp];by_cases e:p.1=w
  ·simp[e]
  ·have e2:¬ (Sum.inl p.1:Key)=Sum.inl w:=fun z=>e (Sum.inl.inj z);simp[e]
 ·unfold kvF;rw[List.map_append];rfl
theorem zm3{σ:Sto}{F:Fs}(w:Int)(x:Option Int)(hl:F.length<900)(ρ:Ev):yf3 ρ (oD x) (.ref σ.length) (.int w) (σ++[.dic (kvF F)])=.ok (.nx ρ) (σ++[.dic (kvF (putF F w x))]):=by
 rw[zm2 w (oD x) (by unfold kvF;simp;omega) ρ,zs9]
theorem p12(σ:Sto):yj2 (.int 10) (.int 12) σ=.ok (.int 1000000000000) σ:=zy8 (by simp[yh6])
def amV(n:Int):Int:=if n % 3 == 0 then 1+n / 3 % 9 else 1+n % 1000000000000
theorem zvh(n:Int)(σ:Sto):f__law_amount [.int n] σ=.ok (.int (amV n)) σ:=by
 have p:=p12;have om:∀ σ,yj0 (.int n) (.int 1000000000000) σ=.ok (.int (n % 1000000000000)) σ:=fun σ=>zsj n _ (by decide);unfold f__law_amount zb2 amV;cases h:(n % 3 == 0)<;>simp[h,p,om]
def ylp(n w k:Int):Ti:=⟨n % 2,amV (n / 2),w,max 0 (k+n / 7 % 13 - 4)⟩
theorem yjh(a b:Int)(σ:Sto):ye5 [.int a,.int b] σ=.ok (.int (max a b)) σ:=by simp
theorem ybj(n w k:Int)(σ:Sto):f__law_tie [.int n,.int w,.int k] σ=.ok (ylp n w k).D σ:=by
 have h:=fun σ=>zvh (n / 2) σ;have m:=fun σ=>yjh 0 (k+n / 7 % 13 - 4) σ;unfold f__law_tie zev ylp Ti.D;generalize amV (n / 2)=A at *;generalize max 0 (k+n / 7 % 13 - 4)=M at *;simp[h,m]
section
variable{α:Type}{xs:List α}{σ:Sto}{fi:Ev->M Bool}{fe:Ev->M D}
theorem zyp{nx:Src}{rest:Ev}(f:α->D)(p:α->Bool)(y:α->D)(hnx:∀ i j,nx.nx i (σ++j)=some ((xs.map f)[i]?))(step:∀ x∈xs,∀ j,fi (some (f x)::rest) (σ++j)=.ok (p x) (σ++j)/\(p x=true->fe (some (f x)::rest) (σ++j)=.ok (y x) (σ++j)))(hl:xs.length<=1000) :
  ∀ (k i:Nat) (o:Option D) (ys:List D),xs.length<k+i->i<=xs.length->ys.length<=i->
   zyo nx σ.length (tgN 0) fi fe k i (o::rest) (σ++[.lst ys])=.ok () (σ++[.lst (ys++((xs.drop i).filter p).map y)]):=by
 intro k;induction k with
 |zero=>intro i o ys h1 h2;omega
 |succ k ih=>
  intro i o ys h1 h2 hy;unfold zyo;rw[hnx,List.getElem?_map];cases e:xs[i]? with
  |none=>
   have hi:xs.length<=i:=List.getElem?_eq_none_iff.mp e;rw[List.drop_eq_nil_of_le hi];simp
  |some d=>
   obtain⟨hi,ed⟩:=List.getElem?_eq_some_iff.mp e;have hd:xs.drop i=d::xs.drop (i+1):=by rw[<-ed];exact List.drop_eq_getElem_cons hi
   obtain⟨s1,s2⟩:=step d (by rw[<-ed];exact List.getElem_mem hi) [.lst ys];show bnd (nox (fi (some (f d)::rest))) _ _=_;rw[zvp,zy4 s1,zoj];dsimp only[List.set];by_cases hp:p d=true
   ·rw[hp,if_pos rfl,zvp,zy4 (s2 hp),zoj,zvp,zei (by omega),zoj,ih (i+1) (some (f d)) (ys++[y d]) (by omega) (by omega) (by simp;omega),hd,List.filter_cons,if_pos hp];simp
   ·rw[if_neg hp,ih (i+1) (some (f d)) ys (by omega) (by omega) (by omega),hd,List.filter_cons,if_neg hp]
theorem lcS{nx:Src}{ρ:Ev}{ix:List Nat}{src:Ev->M Src}(f:α->D)(p:α->Bool)(y:α->D)(hs:src ρ σ=.ok nx σ)(hnx:∀ i j,nx.nx i (σ++j)=some ((xs.map f)[i]?))(hl:xs.length<=1000)
  (step:∀ x∈xs,∀ j,fi (some (f x)::(ix.map fun i=>(ρ[i]?).getD none)) (σ++j)=.ok (p x) (σ++j)/\(p x=true->fe (some (f x)::(ix.map fun i=>(ρ[i]?).getD none)) (σ++j)=.ok (y x) (σ++j))) (hc:∀ x∈xs,cl (y x)=true) :
  yie (eLC src ix (tgN 0) fi fe) ρ σ=.ok (.lst ((xs.filter p).map y)) σ:=by
 show yis σ (eLC src ix (tgN 0) fi fe ρ σ)=_;have e:eLC src ix (tgN 0) fi fe ρ σ=.ok (.ref σ.length) (σ++[.lst ((xs.filter p).map y)]):=by
  show bnd (src ρ) (lcK (tgN 0) fi fe (ycg ix ρ)) σ=_;rw[zvp,hs,zoj];show bnd (zyo nx σ.length (tgN 0) fi fe 1001 0 (none::(ix.map fun i=>(ρ[i]?).getD none))) _ (σ++[.lst []])=_;rw[zvp,zyp f p y hnx step hl 1001 0 none [] (by omega) (by omega) (by simp),zoj];simp
 rw[e,zp4 (ycq p y hc)]
end
structure Tk(ts:List Ti):Prop where
 nd:(ts.map (·.w)).Nodup
 len:ts.length<=6
 wb:∀ u∈ts,0<=u.w/\u.w<=6
noncomputable abbrev sdB:Ev->M Fl:=(ykz (yk0 6 (eFn 2 f__law_mixed [] (ycc (yid yjq (yik 0) (eC (.int 4))) (ycc (yik 5) yhq))))
 (ykz (yk0 7 (yid yj0 (yik 6) (yid oIx (eLv (ycc (eC (.int 4)) (ycc (eC (.int 7)) yhq))) (ycz ye2 (ycc (yik 4) yhq)))))
 (sIf (yhx (eT (yid oLt (ycz yjy (ycc (yik 3) yhq)) (eC (.int 6)))) (eT (yid oEq (yie (eLC (yk6 (yik 3)) [7] (tgN 0) (eT (yid oEq (yid oIx (yik 0) (eC (.int 2))) (yik 1))) (yik 0))) (eLv yhq)))) (ykt (yc2 zr8 (yik 3) (ycc (eFn 3 f__law_tie [] (ycc (yid yjq (yik 6) (eC (.int 4))) (ycc (yik 7) (ycc (yik 2) yhq)))) yhq))) ykw)))
theorem zwt(zs:List D)(σ:Sto):oEq (.lst zs) (.lst []) σ=.ok (.bl zs.isEmpty) σ:=by
 refine zy7 ?_;show eqL (eqD σ 7) zs []=_;cases zs<;>simp[eqL]
theorem zx4(b:Bool)(σ:Sto):ye2 [.bl b] σ=.ok (.int (if b then 1 else 0)) σ:=by cases b<;>rfl
def sdW(c:Int)(many:Bool)(i:Nat):Int:=yjk (c / 4) i % (if many then 7 else 4)
def sdT(c k:Int)(many:Bool)(ts:List Ti)(i:Nat):List Ti:=if decide ((ts.length:Int)<6) && ((ts.filter fun u=>u.w == sdW c many i).map Ti.D).isEmpty then ts++[ylp (yjk (c / 4) i / 4) (sdW c many i) k]else ts
theorem yfy(c:Int)(many:Bool)(i:Nat):0<=sdW c many i/\sdW c many i<=6:=by
 unfold sdW;cases many<;>simp<;>omega
theorem ya3(c k:Int)(many:Bool){ts:List Ti}(h:Tk ts)(i:Nat):Tk (sdT c k many ts i):=by
 unfold sdT;split
 ·next hb=>
  rw[Bool.and_eq_true,decide_eq_true_eq]at hb;have hno:sdW c many i ∉ ts.map (·.w):=fun z=>by
   obtain⟨u,hu,e⟩:=List.mem_map.mp z;have hm:u∈ts.filter fun u=>u.w == sdW c many i:=List.mem_filter.mpr ⟨hu,by simpa using e⟩;have he:=hb.2;rw[List.isEmpty_iff,List.map_eq_nil_iff]at he;rw[he]at hm;cases hm
  refine⟨?_,?_,?_⟩
  ·rw[List.map_append,List.nodup_append];refine⟨h.nd,by simp,fun a ha b hb2 e=>?_⟩;simp at hb2;exact hno (by rw[show sdW c many i=a by rw[e,hb2];rfl];exact ha)
  ·have:=hb.1;simp;omega
  ·intro u hu;rcases List.mem_append.mp hu with z|z
   ·exact h.wb u z
   ·simp at z;subst z;exact yfy c many i
 ·exact h
theorem zt2(c n k:Int)(many:Bool)(i:Nat)(hi:i<=8)(ts:List Ti)(h:Tk ts)(x6 x7:Option D)(σ:Sto):∃ y6 y7,
  sdB [some (.int c),some (.int n),some (.int k),some (.ref σ.length),some (.bl many),some (.int i),x6,x7] (σ++[.lst (ts.map Ti.D)])=.ok (.nx [some (.int c),some (.int n),some (.int k),some (.ref σ.length),some (.bl many),some (.int i),y6,y7]) (σ++[.lst ((sdT c k many ts i).map Ti.D)]):=by
 have mx:=fun σ=>zyy (c / 4) i (by omega) σ;have pq:∀ σ,oIx (.lst [.int 4,.int 7]) (.int (if many then 1 else 0)) σ=.ok (.int (if many then 7 else 4)) σ:=fun σ=>by
  cases many with
  |false=>exact zsg (show atI _ ((0:Nat):Int)=_ from zob rfl)
  |true=>exact zsg (show atI _ ((1:Nat):Int)=_ from zob rfl)
 have om:∀ σ,yj0 (.int (yjk (c / 4) i)) (.int (if many then 7 else 4)) σ=.ok (.int (sdW c many i)) σ:=fun σ=>zsj _ _ (by cases many<;>simp);unfold sdT;generalize yjk (c / 4) i=M at *;generalize sdW c many i=W at *;have ls:yee (σ++[Ob.lst (ts.map Ti.D)]) σ.length=some (ts.map Ti.D):=by unfold yee;simp
 have ln:yjy [.ref σ.length] (σ++[.lst (ts.map Ti.D)])=.ok (.int ts.length) (σ++[.lst (ts.map Ti.D)]):=by
  have:yf0 (σ++[Ob.lst (ts.map Ti.D)]) (.ref σ.length)=some (ts.map Ti.D):=ls;unfold yjy;simp only[this];simp
 have l:=lcS (xs:=ts) (ix:=[7]) (nx:=.lref σ.length) (ρ:=[some (.int c),some (.int n),some (.int k),some (.ref σ.length),some (.bl many),some (.int i),some (.int M),some (.int W)]) (σ:=σ++[.lst (ts.map Ti.D)]) (src:=yk6 (yik 3)) (fi:=eT (yid oEq (yid oIx (yik 0) (eC (.int 2))) (yik 1))) (fe:=yik 0) Ti.D (fun u=>u.w == W) Ti.D (by
   rw[zut,show yik 3 [some (.int c),some (.int n),some (.int k),some (.ref σ.length),some (.bl many),some (.int i),some (.int M),some (.int W)] (σ++[.lst (ts.map Ti.D)])=.ok (.ref σ.length) (σ++[.lst (ts.map Ti.D)])from rfl,zoj];have e:(σ++[Ob.lst (ts.map Ti.D)])[σ.length]?=some (.lst (ts.map Ti.D)):=by simp
   unfold yfz;simp only[ls]) (fun i j=>by
   show (yee _ σ.length).map _=_;have:yee (σ++[Ob.lst (ts.map Ti.D)]++j) σ.length=some (ts.map Ti.D):=by unfold yee;simp
   rw[this];rfl) (by have:=h.len;omega) (fun u _ j=>by
   have i2:=fun σ=>u.i2 σ;generalize u.D=UD at *;exact⟨by simp[i2],fun _=>by simp⟩) (fun _ _=>by simp)
 have en:=fun σ=>zwt ((ts.filter fun u=>u.w == W).map Ti.D) σ;have ti:=fun σ=>ybj (M / 4) W k σ;have ap:=zei (σ:=σ) (xs:=ts.map Ti.D) (d:=(ylp (M / 4) W k).D) (by have:=h.len;simp;omega);generalize hQ:(if many then (7:Int)else 4)=Q at *;unfold sdB;cases hb:decide ((ts.length:Int)<6)with
 |false=>
  rw[Bool.false_and,if_neg Bool.false_ne_true];refine⟨some (.int M),some (.int W),?_⟩;generalize (σ++[Ob.lst (ts.map Ti.D)])=σ1 at *;generalize (ts.length:Int)=N1 at *;generalize (i:Int)=I at *;simp[mx,zx4,pq,om,ln,hb]
 |true=>
  rw[Bool.true_and];cases he:((ts.filter fun u=>u.w == W).map Ti.D).isEmpty with
  |false=>
   rw[he]at en;rw[if_neg Bool.false_ne_true];refine⟨some (.int M),some (.int W),?_⟩;generalize ((ts.filter fun u=>u.w == W).map Ti.D)=FL at *;generalize (σ++[Ob.lst (ts.map Ti.D)])=σ1 at *;generalize (ts.length:Int)=N1 at *;generalize (i:Int)=I at *;simp[mx,zx4,pq,om,ln,hb,l,en,-zpb]
  |true=>
   rw[he]at en;rw[if_pos rfl];refine⟨some (.int M),some (.int W),?_⟩;rw[List.map_append,show [ylp (M / 4) W k].map Ti.D=[(ylp (M / 4) W k).D]from rfl];generalize ((ts.filter fun u=>u.w == W).map Ti.D)=FL at *;generalize (ylp (M / 4) W k).D=TV at *;generalize (ts.length:Int)=N1 at *;generalize (i:Int)=I at *;generalize ts.map Ti.D=TL at *;simp[mx,zx4,pq,om,ln,hb,l,en,ti,ap,-zpb]
def sdL(c k:Int)(many:Bool):Nat->Nat->List Ti->List Ti
 |0,_,ts=>ts
 |m+1,i,ts=>sdL c k many m (i+1) (sdT c k many ts i)
theorem ya2(c k:Int)(many:Bool):∀ (m i:Nat) {ts:List Ti},Tk ts->Tk (sdL c k many m i ts)
 |0,_,_,h=>h
 |m+1,i,_,h=>ya2 c k many m (i+1) (ya3 c k many h i)
theorem zt1(c n k:Int)(many:Bool)(σ:Sto):∀ (m i:Nat) (ts:List Ti) (x5 x6 x7:Option D),i+m<=9->Tk ts->∃ y5 y6 y7,
  yjc (tgN 5) sdB ((List.range' i m).map fun(k:Nat)=>D.int k) [some (.int c),some (.int n),some (.int k),some (.ref σ.length),some (.bl many),x5,x6,x7] (σ++[.lst (ts.map Ti.D)])=.ok (.nx [some (.int c),some (.int n),some (.int k),some (.ref σ.length),some (.bl many),y5,y6,y7]) (σ++[.lst ((sdL c k many m i ts).map Ti.D)]):=by
 intro m;induction m with
 |zero=>intro i ts x5 x6 x7 _ _;exact⟨x5,x6,x7,by simp[sdL]⟩
 |succ m ih=>
  intro i ts x5 x6 x7 hi h;obtain⟨y6,y7,st⟩:=zt2 c n k many i (by omega) ts h x6 x7 σ;obtain⟨z5,z6,z7,e⟩:=ih (i+1) (sdT c k many ts i) (some (.int i)) y6 y7 (by omega) (ya3 c k many h i);refine⟨z5,z6,z7,?_⟩;rw[List.range'_succ,List.map_cons,zll];simp only[List.set_cons_succ,List.set_cons_zero];rw[st,zoj,zlj,e];rfl
def sdN(c:Int):Nat:=if c / 4 % 8 == 3 then 8 else (c % 4).toNat
def stV(c n k:Int):St:=⟨n,yjk (c / 4) 9 % 3 * (yjk (c / 4) 9 / 3 % 1000000000000),yjk (c / 4) 9 / 7 % 1000000000000,sdL c k (c / 4 % 8 == 3) (sdN c) 0 []⟩
theorem ybc(c n k:Int):(stV c n k).Ok:=by
 have:=ya2 c k (c / 4 % 8 == 3) (sdN c) 0 (ts:=[]) ⟨by simp,by simp,fun _ h=>by cases h⟩;exact⟨this.nd,this.len,this.wb⟩
theorem znf(c n k:Int)(σ:Sto):f__law_stand [.int c,.int n,.int k] σ=.ok (stV c n k).D σ:=by
 have hN:sdN c<=8:=by unfold sdN;split<;>omega
 obtain⟨y5,y6,y7,e⟩:=zt1 c n k (c / 4 % 8 == 3) σ (sdN c) 0 [] none none none (by omega) ⟨by simp,by simp,fun _ h=>by cases h⟩;rw[<-zhv,show (([]:List Ti).map Ti.D)=[]from rfl]at e;have rk:=fun σ=>yko (sdN c) (by omega) σ;have ps:∀ σ,oIx (.lst [.int (c % 4),.int 8]) (.int (if (c / 4 % 8 == 3)then 1 else 0)) σ=.ok (.int (sdN c)) σ:=fun σ=>by
  unfold sdN;cases hb:(c / 4 % 8 == 3)with
  |false=>
   have:(((if false=true then 8 else (c % 4).toNat:Nat)):Int)=c % 4:=by simp;omega
   rw[this];exact zsg (show atI _ ((0:Nat):Int)=_ from zob rfl)
  |true=>exact zsg (show atI _ ((1:Nat):Int)=_ from zob rfl)
 have mx:∀ σ,f__law_mixed [.int (c / 4),.int 9] σ=.ok (.int (yjk (c / 4) 9)) σ:=fun σ=>zyy (c / 4) 9 (by omega) σ;have p:=p12;have om:∀ z σ,yj0 (.int z) (.int 1000000000000) σ=.ok (.int (z % 1000000000000)) σ:=fun z σ=>zsj z _ (by decide);have hM:=zr0 (c / 4) 9;have mu:∀ y σ,yj1 (.int (yjk (c / 4) 9 % 3)) (.int y) σ=.ok (.int (yjk (c / 4) 9 % 3 * y)) σ:=fun y σ=>zza (by omega) (by omega);have tu:zzd [.ref σ.length] (σ++[.lst ((sdL c k (c / 4 % 8 == 3) (sdN c) 0 []).map Ti.D)])=.ok (.tup ((sdL c k (c / 4 % 8 == 3) (sdN c) 0 []).map Ti.D)) (σ++[.lst ((sdL c k (c / 4 % 8 == 3) (sdN c) 0 []).map Ti.D)]):=by
  have:yf0 (σ++[Ob.lst ((sdL c k (c / 4 % 8 == 3) (sdN c) 0 []).map Ti.D)]) (.ref σ.length)=some ((sdL c k (c / 4 % 8 == 3) (sdN c) 0 []).map Ti.D):=by show yee _ _=_;unfold yee;simp
  unfold zzd;simp only[this]
 have hcl:clL ((sdL c k (c / 4 % 8 == 3) (sdN c) 0 []).map Ti.D)=true:=by simp
 unfold sdB at e;unfold f__law_stand zcx stV St.D;dsimp only;generalize hb:(c / 4 % 8 == 3)=b at *;generalize (sdL c k b (sdN c) 0 []).map Ti.D=TL at *;generalize yjk (c / 4) 9=MX at *;generalize yas (sdN c)=RG at *;generalize ((sdN c:Nat):Int)=N at *;have fz:∀ d,cl d=true->yis σ (.ok d (σ++[.lst TL]))=.ok d σ:=fun d h=>zkf h;simp[zx4,ps,rk,e,mx,p,om,mu,tu,hb,fz,hcl]
def ptL(c k:Int)(i m:Nat):List St:=(List.range' i m).map fun(j:Nat)=>stV (c / (4+7 * (j:Int))+77) (4+(j:Int)) k
noncomputable abbrev poB:Ev->M Fl:=(ykt (yc2 zr8 (yik 3) (ycc (eFn 3 f__law_stand [] (ycc (yid yjm (yid yjq (yik 0) (yid yjm (eC (.int 4)) (yid yj1 (eC (.int 7)) (yik 4)))) (eC (.int 77))) (ycc (yid yjm (eC (.int 4)) (yik 4)) (ycc (yik 1) yhq)))) yhq)))
theorem zs3(c k kp:Int)(x2 x5 x6 x7:Option D)(σ:Sto):∀ (m i:Nat) (ys:List St) (x4:Option D),i+m<=20->ys.length<=i+1->∃ y4,
  yjc (tgN 4) poB ((List.range' i m).map fun(k:Nat)=>D.int k) [some (.int c),some (.int k),x2,some (.ref σ.length),x4,x5,x6,x7] (σ++[.lst (ys.map St.D)])=.ok (.nx [some (.int c),some (.int k),x2,some (.ref σ.length),y4,x5,x6,x7]) (σ++[.lst ((ys++ptL c k i m).map St.D)]):=by
 intro m;induction m with
 |zero=>intro i ys x4 _ _;exact⟨x4,by simp[ptL]⟩
 |succ m ih=>
  intro i ys x4 hi hy;have ml:∀ σ,yj1 (.int 7) (.int (i:Int)) σ=.ok (.int (7 * (i:Int))) σ:=fun σ=>zza (by omega) (by omega);have dv:∀ σ,yjq (.int c) (.int (4+7 * (i:Int))) σ=.ok (.int (c / (4+7 * (i:Int)))) σ:=fun σ=>zsb c _ (by omega) (by omega);have sa:=fun σ=>znf (c / (4+7 * (i:Int))+77) (4+(i:Int)) k σ;have ap:=zei (σ:=σ) (xs:=ys.map St.D) (d:=(stV (c / (4+7 * (i:Int))+77) (4+(i:Int)) k).D) (by simp;omega);obtain⟨y4,e⟩:=ih (i+1) (ys++[stV (c / (4+7 * (i:Int))+77) (4+(i:Int)) k]) (some (.int i)) (by omega) (by simp;omega);refine⟨y4,?_⟩;have st:poB [some (.int c),some (.int k),x2,some (.ref σ.length),some (.int i),x5,x6,x7] (σ++[.lst (ys.map St.D)])=.ok (.nx [some (.int c),some (.int k),x2,some (.ref σ.length),some (.int i),x5,x6,x7]) (σ++[.lst ((ys++[stV (c / (4+7 * (i:Int))+77) (4+(i:Int)) k]).map St.D)]):=by
   rw[List.map_append,show [stV (c / (4+7 * (i:Int))+77) (4+(i:Int)) k].map St.D=[(stV (c / (4+7 * (i:Int))+77) (4+(i:Int)) k).D]from rfl];unfold poB;generalize (stV (c / (4+7 * (i:Int))+77) (4+(i:Int)) k).D=SV at *;generalize (i:Int)=I at *;generalize ys.map St.D=YL at *;simp[ml,dv,sa,ap]
  rw[List.range'_succ,List.map_cons,zll];simp only[List.set_cons_succ,List.set_cons_zero];rw[st,zoj,zlj,e];unfold ptL;rw[List.range'_succ];simp
def snT(P k:Int)(l:List (Int × Int))(i:Nat):List (Int × Int):=if P / (1+11 * (i:Int)) % 5 == 0 then yka l i (max 0 (k - P / 3 % 6))else l
def snL(P k:Int):Nat->Nat->List (Int × Int)->List (Int × Int)
 |0,_,l=>l
 |m+1,i,l=>snL P k m (i+1) (snT P k l i)
noncomputable abbrev snB:Ev->M Fl:=(sIf (eT (yid oEq (yid yj0 (yid yjq (yik 6) (yid yjm (eC (.int 1)) (yid yj1 (eC (.int 11)) (yik 7)))) (eC (.int 5))) (eC (.int 0)))) (yfw (ycz ye5 (ycc (eC (.int 0)) (ycc (yid yj4 (yik 1) (yid yj0 (yid yjq (yik 6) (eC (.int 3))) (eC (.int 6)))) yhq))) (yik 5) (yik 7)) ykw)
theorem zue(P k:Int)(x0 x2 x3 x4:Option D)(σ:Sto):∀ (m i:Nat) (l:List (Int × Int)) (x7:Option D),i+m<=20->l.length<=i->∃ y7,
  yjc (tgN 7) snB ((List.range' i m).map fun(k:Nat)=>D.int k) [x0,some (.int k),x2,x3,x4,some (.ref σ.length),some (.int P),x7] (σ++[.dic (kvI l)])=.ok (.nx [x0,some (.int k),x2,x3,x4,some (.ref σ.length),some (.int P),y7]) (σ++[.dic (kvI (snL P k m i l))]):=by
 intro m;induction m with
 |zero=>intro i l x7 _ _;exact⟨x7,by simp[snL]⟩
 |succ m ih=>
  intro i l x7 hi hl;have ml:∀ σ,yj1 (.int 11) (.int (i:Int)) σ=.ok (.int (11 * (i:Int))) σ:=fun σ=>zza (by omega) (by omega);have dv:∀ σ,yjq (.int P) (.int (1+11 * (i:Int))) σ=.ok (.int (P / (1+11 * (i:Int)))) σ:=fun σ=>zsb P _ (by omega) (by omega);have hsl:(snT P k l i).length<=i+1:=by
   unfold snT;split
   ·have:=zmk l i (max 0 (k - P / 3 % 6));omega
   ·omega
  obtain⟨y7,e⟩:=ih (i+1) (snT P k l i) (some (.int i)) (by omega) (by omega);refine⟨y7,?_⟩;have st:snB [x0,some (.int k),x2,x3,x4,some (.ref σ.length),some (.int P),some (.int i)] (σ++[.dic (kvI l)])=.ok (.nx [x0,some (.int k),x2,x3,x4,some (.ref σ.length),some (.int P),some (.int i)]) (σ++[.dic (kvI (snT P k l i))]):=by
   have sd:=fun ρ=>zm2 (σ:=σ) (kvs:=kvI l) (i:Int) (.int (max 0 (k - P / 3 % 6))) (by unfold kvI;simp;omega) ρ;rw[zht]at sd;have mm:=fun σ=>yjh 0 (k - P / 3 % 6) σ;unfold snB snT;cases hb:(P / (1+11 * (i:Int)) % 5 == 0)with
   |false=>
    rw[if_neg Bool.false_ne_true];generalize (σ++[Ob.dic (kvI l)])=σ1 at *;generalize (i:Int)=I at *;simp[ml,dv,hb]
   |true=>
    rw[if_pos rfl];generalize (σ++[Ob.dic (kvI (yka l (i:Int) (max 0 (k - P / 3 % 6))))])=σ2 at *;generalize (σ++[Ob.dic (kvI l)])=σ1 at *;generalize max 0 (k - P / 3 % 6)=MV at *;generalize (i:Int)=I at *;generalize σ.length=N0 at *;simp[ml,dv,hb,mm,sd]
  rw[List.range'_succ,List.map_cons,zll];simp only[List.set_cons_succ,List.set_cons_zero];rw[st,zoj,zlj,e];rfl
theorem zp5{σ:Sto}{a:D}{zs:List D}{l:List (Int × Int)}(ha:cl a=true)(hz:clL zs=true):yis σ (.ok (.tup [a,.ref σ.length,.ref (σ.length+1)]) (σ++[.lst zs]++[.dic (kvI l)]))=.ok (.tup [a,.lst zs,shD l]) σ:=by
 have e0:(σ++[Ob.lst zs]++[Ob.dic (kvI l)])[σ.length]?=some (.lst zs):=by simp
 have e1:(σ++[Ob.lst zs]++[Ob.dic (kvI l)])[σ.length+1]?=some (.dic (kvI l)):=by
  rw[List.getElem?_append_right (by simp)];simp
 have hzL:∀ (k m:Nat) (σ':Sto) (xs:List D),clL xs=true->fzL (fz k σ' m) xs=some xs:=by
  intro k m σ' xs;induction xs with
  |nil=>intro _;rfl
  |cons x xs ih=>
   intro hc;have hc':cl x=true/\clL xs=true:=by simpa [clL,Bool.and_eq_true]using hc
   unfold fzL;rw[ydo hc'.1,ih hc'.2]
 have hl2:clL ((kvI l).map (·.2))=true:=by unfold kvI;rw[List.map_map];exact zou fun _=>by simp
 have r0:fz σ.length (σ++[Ob.lst zs]++[Ob.dic (kvI l)]) 5 (.ref σ.length)=some (.lst zs):=by
  unfold fz;rw[if_neg (by simp[cl])];dsimp only;rw[if_neg (Nat.lt_irrefl _),e0];dsimp only;rw[hzL _ _ _ _ hz];rfl
 have r1:fz σ.length (σ++[Ob.lst zs]++[Ob.dic (kvI l)]) 5 (.ref (σ.length+1))=some (shD l):=by
  unfold fz;rw[if_neg (by simp[cl])];dsimp only;rw[if_neg (by omega),e1];dsimp only;rw[hzL _ _ _ _ hl2];unfold shD kvI;rw[List.map_map,List.map_map];rfl
 have ht:fz σ.length (σ++[Ob.lst zs]++[Ob.dic (kvI l)]) 6 (.tup [a,.ref σ.length,.ref (σ.length+1)])=some (.tup [a,.lst zs,shD l]):=by
  unfold fz;rw[if_neg (by simp[cl,clL,ha])];dsimp only;unfold fzL;rw[ydo ha];unfold fzL;rw[r0];unfold fzL;rw[r1];rfl
 unfold yis;dsimp only;rw[if_pos (by simp),ht]
def poN(c kp:Int):Nat:=(if c % 4 == 1 then 1 else if c % 4 == 3 then 2 else 0)+7 * (if (kp == 0) && (c / 4 % 16 == 5)then 1 else 0)
def yj8(c k kp:Int):Po:=⟨yjk c 5 % 2,stV (c / 4) 3 k::ptL c k 0 (poN c kp),snL (yjk c 5) k 7 0 []⟩
theorem yaf(c k kp:Int)(σ:Sto):f__law_pot [.int c,.int k,.int kp] σ=.ok (yj8 c k kp).D σ:=by
 have hN:poN c kp<=9:=by unfold poN;split<;>split<;>(try split)<;>omega
 have s0:=fun σ=>znf (c / 4) 3 k σ;obtain⟨y4,e1⟩:=zs3 c k kp (some (.int kp)) none none none σ (poN c kp) 0 [stV (c / 4) 3 k] none (by omega) (by simp);rw[<-zhv,show [stV (c / 4) 3 k].map St.D=[(stV (c / 4) 3 k).D]from rfl,show [stV (c / 4) 3 k]++ptL c k 0 (poN c kp)=stV (c / 4) 3 k::ptL c k 0 (poN c kp)from rfl]at e1;obtain⟨y7,e2⟩:=zue (yjk c 5) k (some (.int c)) (some (.int kp)) (some (.ref σ.length)) y4 (σ++[.lst ((stV (c / 4) 3 k::ptL c k 0 (poN c kp)).map St.D)]) 7 0 [] none (by omega) (by simp);rw[<-zhv,show kvI []=[]from rfl]at e2;have hlen:(σ++[Ob.lst ((stV (c / 4) 3 k::ptL c k 0 (poN c kp)).map St.D)]).length=σ.length+1:=by simp
 rw[hlen]at e2;have rk:=fun σ=>yko (poN c kp) (by omega) σ;have rk7:=fun σ=>yko 7 (by omega) σ;have mx:∀ σ,f__law_mixed [.int c,.int 5] σ=.ok (.int (yjk c 5)) σ:=fun σ=>zyy c 5 (by omega) σ;have p4:∀ σ,oIx (.lst [.int 0,.int 1,.int 0,.int 2]) (.int (c % 4)) σ=.ok (.int (if c % 4 == 1 then 1 else if c % 4 == 3 then 2 else 0)) σ:=fun σ=>by
  have h:c % 4=0\/c % 4=1\/c % 4=2\/c % 4=3:=by omega
  rcases h with h|h|h|h<;>rw[h]
  ·exact zsg (show atI _ ((0:Nat):Int)=_ from zob rfl)
  ·exact zsg (show atI _ ((1:Nat):Int)=_ from zob rfl)
  ·exact zsg (show atI _ ((2:Nat):Int)=_ from zob rfl)
  ·exact zsg (show atI _ ((3:Nat):Int)=_ from zob rfl)
 have pn:(if c % 4 == 1 then (1:Int)else if c % 4 == 3 then 2 else 0)+7 * (if ((kp == 0) && (c / 4 % 16 == 5))=true then (1:Int)else 0)=(poN c kp:Int):=by
  unfold poN;split<;>split<;>(try split)<;>simp
 have m7:∀ b:Bool,∀ σ,yj1 (.int 7) (.int (if b then 1 else 0)) σ=.ok (.int (7 * (if b then 1 else 0))) σ:=fun b σ=>zza (by omega) (by omega);have an:∀ (x y:Bool),True:=fun _ _=>trivial;have hcl:clL ((stV (c / 4) 3 k::ptL c k 0 (poN c kp)).map St.D)=true:=zou fun _=>by simp
 have fz:=zp5 (σ:=σ) (a:=.int (yjk c 5 % 2)) (zs:=(stV (c / 4) 3 k::ptL c k 0 (poN c kp)).map St.D) (l:=snL (yjk c 5) k 7 0 []) (by simp) hcl;unfold poB at e1;unfold snB at e2;unfold f__law_pot zet yj8 Po.D;dsimp only;generalize (stV (c / 4) 3 k::ptL c k 0 (poN c kp)).map St.D=SL at *;generalize (stV (c / 4) 3 k).D=S0 at *;generalize kvI (snL (yjk c 5) k 7 0 [])=KV at *;generalize shD (snL (yjk c 5) k 7 0 [])=SN at *;generalize yjk c 5=MX at *;generalize yas (poN c kp)=RG at *;generalize yas 7=RG7 at *;generalize (if c % 4 == 1 then (1:Int)else if c % 4 == 3 then 2 else 0)=Q4 at *;generalize ((poN c kp:Nat):Int)=N at *;have rk7':∀ σ,ykn (.int 7) σ=.ok (.seq RG7) σ:=rk7;generalize hb1:(kp == 0)=b1 at *;generalize hb2:(c / 4 % 16 == 5)=b2 at *;have m70:∀ σ,yj1 (.int 7) (.int 0) σ=.ok (.int (7 * 0)) σ:=fun σ=>zza (by omega) (by omega);have m71:∀ σ,yj1 (.int 7) (.int 1) σ=.ok (.int (7 * 1)) σ:=fun σ=>zza (by omega) (by omega);simp only[List.append_assoc,List.cons_append,List.nil_append]at e2 fz;have lk:yjf [S0] σ=.ok (.ref σ.length) (σ++[.lst [S0]]):=rfl;cases b1<;>cases b2<;>simp at pn<;>simp[lk,s0,p4,hb1,hb2,zx6,zx5,m70,m71,pn,rk,e1,mx,rk7',e2,fz]
theorem zs4(c k kp:Int):((yj8 c k kp).s=0\/(yj8 c k kp).s=1)/\(∀ t∈(yj8 c k kp).st,t.Ok)/\1<=(yj8 c k kp).st.length/\(yj8 c k kp).st.length<=20:=by
 have hN:poN c kp<=9:=by unfold poN;split<;>split<;>(try split)<;>omega
 refine⟨?_,?_,?_,?_⟩
 ·show yjk c 5 % 2=0\/yjk c 5 % 2=1;omega
 ·intro t ht;rcases List.mem_cons.mp ht with rfl|h
  ·exact ybc ..
  ·unfold ptL at h;obtain⟨j,_,rfl⟩:=List.mem_map.mp h;exact ybc ..
 ·show 1<=(_::_:List St).length;simp
 ·show (_::ptL c k 0 (poN c kp):List St).length<=20;unfold ptL;simp;omega
def vwV(ns:List Int):Vw:=⟨1+ycn ns 0 % 6,4+ycn ns 0 / 6 % 60,((List.range 7).filter fun k=>yjk (ycn ns 1) k % 3 == 0).map fun(k:Nat)=>(k:Int),(List.range (ycn ns 1 % 4).toNat).map fun(k:Nat)=>yj8 (ycn ns (2+k)) (4+ycn ns 0 / 6 % 60) k⟩
theorem ybr(ns:List Int):(vwV ns).Ok:=by
 refine⟨?_,?_,?_,?_⟩
 ·show ((List.range (ycn ns 1 % 4).toNat).map _).length<=3;simp;omega
 all_goals
  intro p hp;obtain⟨j,_,rfl⟩:=List.mem_map.mp hp
 ·exact(zs4 ..).1
 ·exact(zs4 ..).2.1
 ·exact(zs4 ..).2.2
theorem zu4(ns:List Int)(σ:Sto):f__law_view [.scr ns] σ=.ok (vwV ns).D σ:=by
 have c0:∀ σ,f__law_cell_at [.scr ns,.int 0] σ=.ok (.int (ycn ns 0)) σ:=fun σ=>zoq ns 0 (by omega) σ;have c1:∀ σ,f__law_cell_at [.scr ns,.int 1] σ=.ok (.int (ycn ns 1)) σ:=fun σ=>zoq ns 1 (by omega) σ;have r7:∀ σ,ykn (.int 7) σ=.ok (.seq (yas 7)) σ:=fun σ=>yko 7 (by omega) σ;have l1:=fun x1 x2=>lcA (xs:=List.range 7) (ix:=[0]) (ρ:=[some (.scr ns),some x1,some x2,none,none]) (σ:=σ) (src:=yk5 (eC (.int 7))) (fi:=eT (yid oEq (yid yj0 (eFn 2 f__law_mixed [] (ycc (eFn 2 f__law_cell_at [] (ycc (yik 1) (ycc (eC (.int 1)) yhq))) (ycc (yik 0) yhq))) (eC (.int 3))) (eC (.int 0)))) (fe:=yik 0)
  (fun(k:Nat)=>D.int (k:Int)) (fun k=>yjk (ycn ns 1) k % 3 == 0) (fun(k:Nat)=>D.int (k:Int)) (by simp[r7,yas]) (by simp) (fun k hk j=>by
   have mx:=fun σ=>zyy (ycn ns 1) k (by have:=List.mem_range.mp hk;omega) σ;generalize yjk (ycn ns 1) k=MX at *;generalize (k:Int)=K at *;generalize σ++j=σ1;exact⟨by simp[c1,mx],fun _=>by simp⟩) (fun _ _=>by simp)
 have hr:((ycn ns 1 % 4).toNat:Int)=ycn ns 1 % 4:=by omega
 have rn:∀ σ,ykn (.int (ycn ns 1 % 4)) σ=.ok (.seq (yas (ycn ns 1 % 4).toNat)) σ:=fun σ=>by
  have:=yko (ycn ns 1 % 4).toNat (by omega) σ
  rwa [hr]at this
 have l2:=fun x1 x3=>yja (xs:=List.range (ycn ns 1 % 4).toNat) (ix:=[2,0]) (ρ:=[some (.scr ns),some x1,some (.int (4+ycn ns 0 / 6 % 60)),some x3,none]) (σ:=σ) (src:=yk5 (yid yj0 (eFn 2 f__law_cell_at [] (ycc (yik 0) (ycc (eC (.int 1)) yhq))) (eC (.int 4)))) (fe:=eFn 3 f__law_pot [] (ycc (eFn 2 f__law_cell_at [] (ycc (yik 2) (ycc (yid yjm (eC (.int 2)) (yik 0)) yhq))) (ycc (yik 1) (ycc (yik 0) yhq))))
  (fun(k:Nat)=>D.int (k:Int)) (fun(k:Nat)=>(yj8 (ycn ns (2+k)) (4+ycn ns 0 / 6 % 60) k).D) (by simp[c1,rn,yas]) (by simp;omega) (fun k hk j=>by
   have ck:∀ σ,f__law_cell_at [.scr ns,.int (2+(k:Int))] σ=.ok (.int (ycn ns (2+k))) σ:=fun σ=>by
    have:=zoq ns (2+(k:Int)) (by omega) σ
    rwa [show (2+(k:Int)).toNat=2+k by omega]at this
   have pk:=fun σ=>yaf (ycn ns (2+k)) (4+ycn ns 0 / 6 % 60) k σ;generalize (yj8 (ycn ns (2+k)) (4+ycn ns 0 / 6 % 60) k).D=PD at *;generalize ycn ns (2+k)=CK at *;generalize (k:Int)=K at *;generalize 4+ycn ns 0 / 6 % 60=V4 at *;generalize σ++j=σ1;simp[ck,pk]) (fun _ _=>by simp)
 have e1:(vwV ns).ws.map D.int=((List.range 7).filter fun k=>yjk (ycn ns 1) k % 3 == 0).map fun(k:Nat)=>D.int (k:Int):=by
  unfold vwV;rw[List.map_map];rfl
 have e2:(vwV ns).ps.map Po.D=(List.range (ycn ns 1 % 4).toNat).map fun(k:Nat)=>(yj8 (ycn ns (2+k)) (4+ycn ns 0 / 6 % 60) k).D:=by
  unfold vwV;rw[List.map_map];rfl
 have h1:clL ((vwV ns).ws.map D.int)=true:=zou fun _=>by simp
 have h2:clL ((vwV ns).ps.map Po.D)=true:=zou fun _=>by simp
 unfold Vw.D;rw[show (vwV ns).e=1+ycn ns 0 % 6 from rfl,show (vwV ns).k=4+ycn ns 0 / 6 % 60 from rfl];rw[<-e1]at l1;rw[<-e2]at l2;unfold f__law_view zdo;generalize (vwV ns).ws.map D.int=WS at *;generalize (vwV ns).ps.map Po.D=PS at *;generalize ycn ns 0=C0 at *;generalize ycn ns 1=C1 at *;have fz:∀ d,cl d=true->yis σ (.ok d σ)=.ok d σ:=fun d h=>zp3 h (List.take_length ..);simp[c0,l1,l2,h1,h2,fz,-zpb]
def yht{α:Type}(key:α->Int):List α->α->α
 |[],b=>b
 |x::xs,b=>if key x<key b then yht key xs x else yht key xs b
theorem zir{α:Type}(key:α->Int):∀ (xs:List α) (b:α),yht key xs b∈b::xs
 |[],b=>by simp[yht]
 |x::xs,b=>by
  unfold yht;split
  ·have:=zir key xs x;exact List.mem_cons_of_mem _ this
  ·have:=zir key xs b;rcases List.mem_cons.mp this with h|h
   ·rw[h];exact List.mem_cons_self
   ·exact List.mem_cons_of_mem _ (List.mem_cons_of_mem _ h)
theorem zn9{α:Type}(key:α->Int):∀ (xs:List α) (b:α),∀ y∈b::xs,key (yht key xs b)<=key y
 |[],b,y,hy=>by
  have:y=b:=by simpa using hy
  rw[this];exact Int.le_refl _
 |x::xs,b,y,hy=>by
  unfold yht;split
  ·next h=>
   have ih:=zn9 key xs x;rcases List.mem_cons.mp hy with e|e
   ·have:=ih x List.mem_cons_self;rw[e];omega
   ·exact ih y e
  ·next h=>
   have ih:=zn9 key xs b;rcases List.mem_cons.mp hy with e|e
   ·rw[e];exact ih b List.mem_cons_self
   ·rcases List.mem_cons.mp e with e|e
    ·have:=ih b List.mem_cons_self;rw[e];omega
    ·exact ih y (List.mem_cons_of_mem _ e)
theorem zry{α:Type}{f:α->D}{key:α->Int}{fe:Ev->M D}{rest:Ev}{σ:Sto}:∀ (xs:List α) (b:α),(∀ x∈xs,fe (some (f x)::rest) σ=.ok (.int (key x)) σ)->yjj fe rest (xs.map f) (f b) (key b) σ=.ok (f (yht key xs b)) σ
 |[],b,_=>rfl
 |x::xs,b,h=>by
  have h1:=h x List.mem_cons_self;have h2:=fun y hy=>h y (List.mem_cons_of_mem _ hy);rw[List.map_cons];unfold yjj yht;rw[zvp,zy4 h1,zoj];dsimp only;by_cases hk:key x<key b
  ·rw[if_pos hk,if_pos hk];exact zry xs x h2
  ·rw[if_neg hk,if_neg hk];exact zry xs b h2
theorem zrx{α:Type}{f:α->D}{key:α->Int}{fe:Ev->M D}{rest:Ev}{σ:Sto}{xs:List α}{x:α}(h:∀ y∈x::xs,fe (some (f y)::rest) σ=.ok (.int (key y)) σ):yji fe rest [.lst ((x::xs).map f)] σ=.ok (f (yht key xs x)) σ:=by
 rw[List.map_cons];unfold yji;dsimp only;rw[zvp,zy4 (h x List.mem_cons_self),zoj];exact zry xs x fun y hy=>h y (List.mem_cons_of_mem _ hy)
@[simp] theorem zjk(ix:List Nat)(fe:Ev->M D)(fs:Ev->M (List D))(ρ:Ev)(σ:Sto):yc3 ix fe fs ρ σ=(fs ρ σ).bind (yji fe (ix.map fun i=>(ρ[i]?).getD none)):=nr rfl
def fcs(ls:List Tc):List (Option Int):=(opn ls).map fun c=>some c.t.d
def mf(ls:List Tc)(e:Int):Option Int:=yht (fun x=>sby ls x e) (fcs ls) none
theorem zxi(ls:List Tc):yip ls=.lst ((none::fcs ls).map oD):=by
 unfold yip fcs;simp only[List.map_cons,List.map_map];rfl
theorem zyx(ls:List Tc)(e:Int):mf ls e∈none::fcs ls:=zir _ _ _
theorem yeo(ls:List Tc)(e:Int)(x:Option Int)(h:x∈none::fcs ls):sby ls (mf ls e) e<=sby ls x e:=zn9 (fun x=>sby ls x e) (fcs ls) none x h
theorem zlg(ls:List Tc)(hl:ls.length<=100)(e:Int)(σ:Sto):f_least_fate [.lst (ls.map Tc.D),.int e] σ=.ok (oD (mf ls e)) σ:=by
 have f1:=fun σ=>zer ls hl σ;have m:=zrx (f:=oD) (key:=fun x=>sby ls x e) (x:=none) (xs:=fcs ls) (fe:=eFn 3 f_sum_by_fate [] (ycc (yik 1) (ycc (yik 0) (ycc (yik 2) yhq)))) (rest:=[some (.lst (ls.map Tc.D)),some (.int e)]) (σ:=σ) (fun x _=>by
  have s1:=fun σ=>zni ls hl x e σ;generalize D.lst (ls.map Tc.D)=LD at *;generalize oD x=OX at *;simp[s1])
 rw[<-zxi,show yht (fun x=>sby ls x e) (fcs ls) none=mf ls e from rfl]at m;have hc:=yex (mf ls e);unfold f_least_fate zcy;generalize oD (mf ls e)=OUT at *;generalize D.lst (ls.map Tc.D)=LD at *;generalize yip ls=FD at *;simp[f1,m,hc]
theorem znc(F:Fs)(e:Int)(R GD FD:D)(xs:Grp){nx:NX}(hn:yg9 nx xs (fun q=>yi9 (.inl q.1)) (fun q=>D.lst (q.2.map Tc.D)))(hl:xs.length<=100)(hg:∀ q∈xs,q.2.length<=100/\(yit F q.1).isSome=true)(σ:Sto)(hF:∀ w x,yit F w=some x->yew FD (.int w) σ=.ok (oD x) σ):∀ (G:Grp) (i:Nat) (a:Int) (x5 x6:Option D),xs.drop i=G->i<=xs.length->∃ y5 y6,
  yed nx (tgT 2 (ybh (tgN 5) (ybh (tgN 6) ygf))) soB (1001 - i) i [some R,some GD,some FD,some (.int e),some (.int a),x5,x6] σ=.ok (.nx [some R,some GD,some FD,some (.int e),some (.int (a+yiy F e G)),y5,y6]) σ
 |[],i,a,x5,x6,hd,hi=>by
  obtain⟨h1,h2⟩:=zjf hd hi;have hx:nx i σ=some none:=by rw[hn,h1];simp[h2]
  rw[show 1001 - i=(1000 - i)+1 by omega];exact⟨x5,x6,by rw[zg4 hx];simp[yiy]⟩
 |q::G,i,a,x5,x6,hd,hi=>by
  obtain⟨h1,hd2⟩:=zo8 hd;obtain⟨hi2,hq⟩:=List.getElem?_eq_some_iff.mp h1;have hqm:q∈xs:=by rw[<-hq];exact List.getElem_mem hi2
  obtain⟨g1,g2⟩:=hg q hqm;obtain⟨x,hv⟩:=Option.isSome_iff_exists.mp g2;have hx:nx i σ=some (some (.tup [.int q.1,.lst (q.2.map Tc.D)])):=by rw[hn,h1];rfl
  obtain⟨y5,y6,e2⟩:=znc F e R GD FD xs hn hl hg σ hF G (i+1) (a+sby q.2 ((yit F q.1).getD none) e) (some (.int q.1)) (some (.lst (q.2.map Tc.D))) hd2 (by omega);refine⟨y5,y6,?_⟩;have st:soB [some R,some GD,some FD,some (.int e),some (.int a),some (.int q.1),some (.lst (q.2.map Tc.D))] σ=.ok (.nx [some R,some GD,some FD,some (.int e),some (.int (a+sby q.2 ((yit F q.1).getD none) e)),some (.int q.1),some (.lst (q.2.map Tc.D))]) σ:=by
   have s1:=fun σ=>zni q.2 g1 x e σ;have s2:=hF q.1 x hv;have sg:∀ (f:Ev->M D) (y0 y1 y2 y3 y5 y6:Option D) (x:D) (σ:Sto),yks (fun a b=>a+b) 4 f [y0,y1,y2,y3,some x,y5,y6] σ=xsO [y0,y1,y2,y3,some x,y5,y6] (yhw (fun a b=>a+b) 4 [y0,y1,y2,y3,some x,y5,y6] x) (f [y0,y1,y2,y3,some x,y5,y6] σ):=fun f y0 y1 y2 y3 y5 y6 x σ=>ztq rfl;have ag:∀ (ρ:Ev) (i:Int) (j:Int) (σ:Sto),yhw (fun a b=>a+b) 4 ρ (.int i) (.int j) σ=.ok (.nx (ρ.set 4 (some (.int (i+j))))) σ:=fun _ _ _ _=>nr rfl;rw[hv];simp only[Option.getD_some];unfold soB;generalize D.lst (q.2.map Tc.D)=QL at *;generalize sby q.2 x e=SB at *;generalize oD x=OX at *;simp[s1,s2,sg,ag]
  rw[show 1001 - i=(1001 - (i+1))+1 by omega,ze1 hx (ρ1:=[some R,some GD,some FD,some (.int e),some (.int a),some (.int q.1),some (.lst (q.2.map Tc.D))]) (nr rfl),st,zoj,zlj,e2];simp only[yiy];rw[Int.add_assoc]
theorem zid(v:Vw)(qs:List (Po × St))(hq:qs.length<=100)(G:Grp)(F:Fs)(e:Int)(hl:G.length<=100)(hg:∀ q∈G,q.2.length<=100/\(yit F q.1).isSome=true)(σ:Sto)(FD:D)(hF:∀ w x,yit F w=some x->yew FD (.int w) σ=.ok (oD x) σ) :
  f_sum_of [.lst (qs.map fun q=>rdD v q.1 q.2),gD G,FD,.int e] σ=.ok (.int (frm v qs+yiy F e G)) σ:=by
 have l:=yja (xs:=qs) (ix:=[]) (ρ:=[some (.lst (qs.map fun q=>rdD v q.1 q.2)),some (gD G),some FD,some (.int e),none,none,none]) (σ:=σ) (src:=yk6 (yik 0)) (fe:=yid oIx (yik 0) (eC (.int 0))) (fun q=>rdD v q.1 q.2) (fun q=>.int (shr q.1.s q.2+yio (lot v q.1.s q.1.sn) q.2.ts)) (by simp) (by omega) (fun q _ j=>by
   have i0:∀ σ,oIx (rdD v q.1 q.2) (.int 0) σ=.ok (.int (shr q.1.s q.2+yio (lot v q.1.s q.1.sn) q.2.ts)) σ:=fun σ=>by unfold rdD;simp
   generalize rdD v q.1 q.2=RD at *;generalize (shr q.1.s q.2+yio (lot v q.1.s q.1.sn) q.2.ts)=N at *;simp[i0]) (fun _ _=>by simp)
 have o:=znh (qs.map fun q=>shr q.1.s q.2+yio (lot v q.1.s q.1.sn) q.2.ts) σ;rw[List.map_map,show (D.int ∘ fun q:Po × St=>shr q.1.s q.2+yio (lot v q.1.s q.1.sn) q.2.ts)=(fun q:Po × St=>D.int (shr q.1.s q.2+yio (lot v q.1.s q.1.sn) q.2.ts))from rfl,show (qs.map fun q=>shr q.1.s q.2+yio (lot v q.1.s q.1.sn) q.2.ts).sum=frm v qs from rfl]at o;have sr:∀ x4 x5 x6,yk4 (yik 1) [some (.lst (qs.map fun q=>rdD v q.1 q.2)),some (gD G),some FD,some (.int e),x4,x5,x6] σ=.ok (nxI ((G.map fun q=>(.inl q.1:Key)).zip (G.map fun q=>D.lst (q.2.map Tc.D)))) σ:=fun x4 x5 x6=>zur (by simp;rfl) (by simp);obtain⟨y5,y6,lp⟩:=znc F e (.lst (qs.map fun q=>rdD v q.1 q.2)) (gD G) FD G (zly G (fun q=>(.inl q.1:Key)) (fun q=>D.lst (q.2.map Tc.D))) hl hg σ hF G 0 (frm v qs) none none rfl (by omega);have fk:∀ (tg:D->Ev->Option Ev) (body:Ev->M Fl) (ρ:Ev) (nx:NX),ydl tg body ρ nx=yed nx tg body 1001 0 ρ:=fun _ _ _ _=>rfl;rw[Nat.sub_zero]at lp;unfold soB at lp;unfold f_sum_of zkm;generalize (qs.map fun q=>D.int (shr q.1.s q.2+yio (lot v q.1.s q.1.sn) q.2.ts))=IL at *;generalize D.lst (qs.map fun q=>rdD v q.1 q.2)=RL at *;generalize nxI ((G.map fun q=>(.inl q.1:Key)).zip (G.map fun q=>D.lst (q.2.map Tc.D)))=NXX at *;generalize gD G=GD at *;generalize frm v qs=FR at *;generalize yiy F e G=GS at *;simp[l,o,sr,fk,lp,-zpb]
def lF(G:Grp)(e:Int):Fs:=G.map fun q=>(q.1,mf q.2 e)
theorem zmj(F:Fs)(w:Int)(x:Option Int)(h:w ∉ F.map (·.1)):putF F w x=F++[(w,x)]:=by
 have:(F.any fun p=>decide (p.1=w))=false:=by
  rw[List.any_eq_false];intro p hp z;exact h (List.mem_map.mpr ⟨p,hp,by simpa using z⟩)
 unfold putF;rw[this];rfl
noncomputable abbrev lpB:Ev->M Fl:=(yfw (eFn 2 f_least_fate [] (ycc (yik 6) (ycc (yik 2) yhq))) (yik 4) (yik 5))
theorem zrm(e:Int)(R CD GD:D)(xs:Grp){nx:NX}(hn:yg9 nx xs (fun q=>yi9 (.inl q.1)) (fun q=>D.lst (q.2.map Tc.D)))(hl:xs.length<=100)(hg:∀ q∈xs,q.2.length<=100)(σ:Sto):∀ (G:Grp) (i:Nat) (F:Fs) (x5 x6:Option D),xs.drop i=G->i<=xs.length->(F.map (·.1)++G.map (·.1)).Nodup->F.length+G.length<=200->∃ y5 y6,
  yed nx (tgT 2 (ybh (tgN 5) (ybh (tgN 6) ygf))) lpB (1001 - i) i [some R,some CD,some (.int e),some GD,some (.ref σ.length),x5,x6] (σ++[.dic (kvF F)])=.ok (.nx [some R,some CD,some (.int e),some GD,some (.ref σ.length),y5,y6]) (σ++[.dic (kvF (F++lF G e))])
 |[],i,F,x5,x6,hd,hi,_,_=>by
  obtain⟨h1,h2⟩:=zjf hd hi;have hx:∀ σ,nx i σ=some none:=fun σ=>by rw[hn,h1];simp[h2]
  rw[show 1001 - i=(1000 - i)+1 by omega];exact⟨x5,x6,by rw[zg4 (hx _)];simp[lF]⟩
 |q::G,i,F,x5,x6,hd,hi,hnd,hlen=>by
  obtain⟨h1,hd2⟩:=zo8 hd;obtain⟨hi2,hq⟩:=List.getElem?_eq_some_iff.mp h1;have hqm:q∈xs:=by rw[<-hq];exact List.getElem_mem hi2
  have g1:=hg q hqm;have hx:∀ σ,nx i σ=some (some (.tup [.int q.1,.lst (q.2.map Tc.D)])):=fun σ=>by rw[hn,h1];rfl
  simp only[List.length_cons]at hlen;have hne:q.1 ∉ F.map (·.1):=by
   rw[List.map_cons,List.nodup_append]at hnd;intro z;exact hnd.2.2 _ z _ List.mem_cons_self rfl
  obtain⟨y5,y6,e2⟩:=zrm e R CD GD xs hn hl hg σ G (i+1) (F++[(q.1,mf q.2 e)]) (some (.int q.1)) (some (.lst (q.2.map Tc.D))) hd2 (by omega) (by
   rw[List.map_cons]at hnd;simpa using hnd) (by simp;omega)
  refine⟨y5,y6,?_⟩;have st:lpB [some R,some CD,some (.int e),some GD,some (.ref σ.length),some (.int q.1),some (.lst (q.2.map Tc.D))] (σ++[.dic (kvF F)])=.ok (.nx [some R,some CD,some (.int e),some GD,some (.ref σ.length),some (.int q.1),some (.lst (q.2.map Tc.D))]) (σ++[.dic (kvF (F++[(q.1,mf q.2 e)]))]):=by
   have s1:=fun σ=>zlg q.2 g1 e σ;have s2:=fun ρ=>zm3 (σ:=σ) (F:=F) q.1 (mf q.2 e) (by omega) ρ;rw[zmj F q.1 _ hne]at s2;unfold lpB;generalize D.lst (q.2.map Tc.D)=QL at *;generalize oD (mf q.2 e)=OX at *;generalize (σ++[Ob.dic (kvF F)])=σ1 at *;generalize (σ++[Ob.dic (kvF (F++[(q.1,mf q.2 e)]))])=σ2 at *;simp[s1,s2]
  rw[show 1001 - i=(1001 - (i+1))+1 by omega,ze1 (hx _) (ρ1:=[some R,some CD,some (.int e),some GD,some (.ref σ.length),some (.int q.1),some (.lst (q.2.map Tc.D))]) (nr rfl),st,zoj,zlj,e2];unfold lF;simp
theorem zqd:∀ (G:Grp) (e:Int),(G.map (·.1)).Nodup->∀ q∈G,yit (lF G e) q.1=some (mf q.2 e)
 |[],_,_,q,h=>by cases h
 |p::G,e,hn,q,h=>by
  rw[List.map_cons,List.nodup_cons]at hn;unfold yit lF;rw[List.map_cons,List.find?_cons];rcases List.mem_cons.mp h with h1|h1
  ·rw[h1];simp
  ·have:p.1≠q.1:=fun z=>hn.1 (by rw[z];exact List.mem_map.mpr ⟨q,h1,rfl⟩);simp only[this,decide_false];exact zqd G e hn.2 q h1
theorem yax{σ:Sto}{F:Fs}{w:Int}{x:Option Int}(h:yit F w=some x):yew (.ref σ.length) (.int w) (σ++[.dic (kvF F)])=.ok (oD x) (σ++[.dic (kvF F)]):=by
 have e:yib (σ++[Ob.dic (kvF F)]) (.ref σ.length)=some (kvF F):=by unfold yib;simp
 unfold yew;simp only[yi7,e,zj5,h];rfl
theorem zgp{σ:Sto}{a b:D}{F:Fs}(ha:cl a=true)(hb:cl b=true):yis σ (.ok (.tup [a,b,.ref σ.length]) (σ++[.dic (kvF F)]))=.ok (.tup [a,b,fD F]) σ:=by
 have hr:fz σ.length (σ++[Ob.dic (kvF F)]) 5 (.ref σ.length)=some (fD F):=by
  have e:(σ++[Ob.dic (kvF F)])[σ.length]?=some (.dic (kvF F)):=by simp
  unfold fz;rw[if_neg (by simp[cl])];dsimp only;rw[if_neg (Nat.lt_irrefl _),e];dsimp only;rw[show (kvF F).map (·.2)=F.map fun p=>oD p.2 by unfold kvF;rw[List.map_map];rfl,zqf (g:=fun p:Int × Option Int=>oD p.2) (h:=fun p=>oD p.2) fun p _=>ydo (yex p.2)];unfold fD kvF;rw[List.map_map];rfl
 have ht:fz σ.length (σ++[Ob.dic (kvF F)]) 6 (.tup [a,b,.ref σ.length])=some (.tup [a,b,fD F]):=by
  unfold fz;rw[if_neg (by simp[cl,clL,ha,hb])];dsimp only;unfold fzL;rw[ydo ha];unfold fzL;rw[ydo hb];unfold fzL;rw[hr];rfl
 unfold yis;dsimp only;rw[if_pos (by simp),ht]
def pD(T:Int)(cs:List Int)(F:Fs):D:=.tup [.int T,.lst (cs.map D.int),fD F]
theorem yfe(T:Int)(cs:List Int)(F:Fs):cl (pD T cs F)=true:=by unfold pD;simp[yc5]
theorem zg6(v:Vw)(qs:List (Po × St))(hq:∀ q∈qs,q.2.Ok)(hl3:qs.length<=3)(cs:List Int)(σ:Sto) :
  f_least_paper [.lst (qs.map fun q=>rdD v q.1 q.2),.lst (cs.map D.int),.int v.e] σ=.ok (pD (frm v qs+yiy (lF (grp (AT v qs)) v.e) v.e (grp (AT v qs))) cs (lF (grp (AT v qs)) v.e)) σ:=by
 have hA:=zu8 v qs hq;have r4:=fun σ=>zel v qs hq hl3 σ;have g1:(grp (AT v qs)).length<=100:=by rw[zql];have:=zuq (AT v qs);omega
 have g2:∀ q∈grp (AT v qs),q.2.length<=100:=fun q h=>by rw[zql]at h;have:=ybb _ q h;omega
 have gn:((grp (AT v qs)).map (·.1)).Nodup:=by
  rw[zql];unfold spc;rw[List.map_map];exact(show ((fun q:Int × List Tc=>q.1) ∘ fun w=>(w,flt (AT v qs) w))=id from rfl) ▸ (by rw[List.map_id];exact zgg _)
 generalize grp (AT v qs)=G at *;have fv:=zqd G v.e gn;have sr:∀ x4 x5 x6 σ,yk4 (yik 3) [some (.lst (qs.map fun q=>rdD v q.1 q.2)),some (.lst (cs.map D.int)),some (.int v.e),some (gD G),x4,x5,x6] σ=.ok (nxI ((G.map fun q=>(.inl q.1:Key)).zip (G.map fun q=>D.lst (q.2.map Tc.D)))) σ:=fun x4 x5 x6 σ=>zur (by simp;rfl) (by simp);obtain⟨y5,y6,lp⟩:=zrm v.e (.lst (qs.map fun q=>rdD v q.1 q.2)) (.lst (cs.map D.int)) (gD G) G (zly G (fun q=>(.inl q.1:Key)) (fun q=>D.lst (q.2.map Tc.D))) g1 g2 σ G 0 [] none none rfl (by omega) (by simpa using gn) (by simp;omega);rw[Nat.sub_zero,List.nil_append,show kvF []=[]from rfl]at lp;have fk:∀ (tg:D->Ev->Option Ev) (body:Ev->M Fl) (ρ:Ev) (nx:NX),ydl tg body ρ nx=yed nx tg body 1001 0 ρ:=fun _ _ _ _=>rfl;have so:=zid v qs (by omega) G (lF G v.e) v.e g1 (fun q h=>⟨g2 q h,by rw[fv q h];rfl⟩) (σ++[.dic (kvF (lF G v.e))]) (.ref σ.length) (fun w x h=>yax h);have fz:=zgp (σ:=σ) (a:=.int (frm v qs+yiy (lF G v.e) v.e G)) (b:=.lst (cs.map D.int)) (F:=lF G v.e) (by simp) (by simp);unfold lpB at lp;unfold f_least_paper zb4 pD;generalize (frm v qs+yiy (lF G v.e) v.e G)=SM at *;generalize nxI ((G.map fun q=>(.inl q.1:Key)).zip (G.map fun q=>D.lst (q.2.map Tc.D)))=NXX at *;generalize (σ++[Ob.dic (kvF (lF G v.e))])=σ2 at *;generalize fD (lF G v.e)=FD at *;generalize D.lst (qs.map fun q=>rdD v q.1 q.2)=RL at *;generalize D.lst (cs.map D.int)=CL at *;generalize gD G=GD at *;simp[r4,sr,fk,lp,so,fz]
theorem ze0{tg:D->Ev->Option Ev}{body:Ev->M Fl}{n k i:Nat}{ρ ρ1:Ev}{σ:Sto}{xs:List D}{d:D}(h:yee σ n=some xs)(hx:xs[i]?=some d)(ht:tg d ρ=some ρ1):yec tg body n (k+1) i ρ σ=(body ρ1 σ).bind (yeb (yec tg body n k (i+1))):=by
 rw[yec];simp only[h,hx,ht];rfl
theorem zg3{tg:D->Ev->Option Ev}{body:Ev->M Fl}{n k i:Nat}{ρ:Ev}{σ:Sto}{xs:List D}(h:yee σ n=some xs)(hx:xs[i]?=none):yec tg body n (k+1) i ρ σ=.ok (.nx ρ) σ:=by
 rw[yec];simp only[h,hx]
theorem yir{α β:Type}{tg:D->Ev->Option Ev}{body:Ev->M Fl}{S:Src}(xs:List α)(f:α->D)(E:Nat->β->Ev)(Sg:Nat->Sto)(hl:xs.length<=1000)
  (hS:∀ i,i<=xs.length->S.nx i (Sg i)=some ((xs.map f)[i]?))
  (step:∀ i x b,xs[i]?=some x->∃ ρ1 b',tg (f x) (E i b)=some ρ1/\body ρ1 (Sg i)=.ok (.nx (E (i+1) b')) (Sg (i+1))) (b:β) :
  ∃ b',yiq tg body (E 0 b) S (Sg 0)=.ok (.nx (E xs.length b')) (Sg xs.length):=by
 cases S with
 |seq ds=>
  have e:ds=xs.map f:=by
   apply List.ext_getElem?;intro i;by_cases hi:i<=xs.length
   ·exact Option.some.inj (hS i hi)
   ·have h0:some ds[xs.length]?=some ((xs.map f)[xs.length]?):=hS xs.length (Nat.le_refl _);have h1:ds[xs.length]?=none:=by rw[Option.some.inj h0];simp
    rw[List.getElem?_eq_none_iff]at h1;rw[List.getElem?_eq_none_iff.mpr (by omega),List.getElem?_eq_none_iff.mpr (by simp;omega)]
  subst e;have go:∀ (r:List α) (i:Nat) (b:β),xs.drop i=r->i<=xs.length->∃ b',yjc tg body (r.map f) (E i b) (Sg i)=.ok (.nx (E xs.length b')) (Sg xs.length):=by
   intro r;induction r with
   |nil=>
    intro i b hd hi;obtain⟨_,e⟩:=zjf hd hi;subst e;exact⟨b,by simp⟩
   |cons x r ih=>
    intro i b hd hi;obtain⟨hx,hd2⟩:=zo8 hd;have hi2:=(List.getElem?_eq_some_iff.mp hx).1;obtain⟨ρ1,b1,h1,h2⟩:=step i x b hx;obtain⟨b2,h3⟩:=ih (i+1) b1 hd2 (by omega);exact⟨b2,by rw[List.map_cons,zg5 h1,h2,zoj,zlj,h3]⟩
  exact go xs 0 b rfl (by omega)
 |lref n=>
  have go:∀ (r:List α) (i k:Nat) (b:β),xs.drop i=r->i<=xs.length->r.length<k->∃ b',yec tg body n k i (E i b) (Sg i)=.ok (.nx (E xs.length b')) (Sg xs.length):=by
   intro r;induction r with
   |nil=>
    intro i k b hd hi hk;obtain⟨h0,e⟩:=zjf hd hi;have hn:=hS i hi;obtain⟨ys,h1,h2⟩:∃ ys,yee (Sg i) n=some ys/\ys[i]?=(xs.map f)[i]?:=by
     have hn':(yee (Sg i) n).map (fun xs=>xs[i]?)=some ((xs.map f)[i]?):=hn;cases el:yee (Sg i) n with
     |none=>rw[el]at hn';cases hn'
     |some ys=>rw[el]at hn';exact⟨ys,rfl,Option.some.inj hn'⟩
    rw[List.getElem?_map,h0]at h2;obtain⟨k,rfl⟩:∃ k',k=k'+1:=⟨k - 1,by simp at hk;omega⟩
    subst e;exact⟨b,zg3 h1 h2⟩
   |cons x r ih=>
    intro i k b hd hi hk;obtain⟨hx,hd2⟩:=zo8 hd;have hi2:=(List.getElem?_eq_some_iff.mp hx).1;have hn:=hS i hi;obtain⟨ys,h1,h2⟩:∃ ys,yee (Sg i) n=some ys/\ys[i]?=(xs.map f)[i]?:=by
     have hn':(yee (Sg i) n).map (fun xs=>xs[i]?)=some ((xs.map f)[i]?):=hn;cases el:yee (Sg i) n with
     |none=>rw[el]at hn';cases hn'
     |some ys=>rw[el]at hn';exact⟨ys,rfl,Option.some.inj hn'⟩
    rw[List.getElem?_map,hx]at h2;obtain⟨ρ1,b1,h3,h4⟩:=step i x b hx;obtain⟨k,rfl⟩:∃ k',k=k'+1:=⟨k - 1,by simp at hk;omega⟩
    simp only[List.length_cons]at hk;obtain⟨b2,h5⟩:=ih (i+1) k b1 hd2 (by omega) (by omega);exact⟨b2,by rw[ze0 h1 h2 h3,h4,zoj,zlj,h5]⟩
  exact go xs 0 1001 b rfl (by omega) (by omega)
def cD(c:List Int):D:=.lst (c.map D.int)
@[simp] theorem yck(c:List Int):cl (cD c)=true:=by unfold cD;simp
def stp(n:Nat)(c:List Int):List (List Int):=(List.range n).map fun(k:Nat)=>c++[(k:Int)]
def yhs:List Nat->List (List Int)->List (List Int)
 |[],acc=>acc
 |n::ns,acc=>yhs ns (acc.flatMap (stp n))
def ygy:List Nat->Nat->Prop
 |[],a=>a<=900
 |n::ns,a=>a<=900/\ygy ns (a * n)
theorem ygy.le:∀ {ns:List Nat} {a:Nat},ygy ns a->a<=900
 |[],_,h=>h
 |_::_,_,h=>h.1
theorem zeq{σ:Sto}{ys zs:List D}(h:ys.length+zs.length<=1000):zse (.ref σ.length) [.lst zs] (σ++[.lst ys])=.ok .non (σ++[.lst (ys++zs)]):=by
 have e:yjd (σ++[Ob.lst ys]) (.lst zs)=some zs:=rfl;unfold zse;simp only[zg8,e];rw[if_pos (show _<=cap from h),zt9]
theorem zj9(n:Nat):∀ acc:List (List Int),(acc.flatMap (stp n)).length=acc.length * n
 |[]=>by simp
 |c::acc=>by
  rw[List.flatMap_cons,List.length_append,zj9 n acc,List.length_cons,Nat.succ_mul];unfold stp;simp;omega
noncomputable abbrev acI:Ev->M Fl:=(ykt (yc2 zse (yik 3) (ycc (yie (eLC (yk5 (ycz yjy (ycc (yik 2) yhq))) [4] (tgN 0) ycf (yid yjm (yik 1) (eLv (ycc (yik 0) yhq))))) yhq)))
theorem zn3(R C:D)(zs:List D)(hz:zs.length<=20)(c:List Int)(hc:c.length<=800)(ys:List (List Int))(hy:ys.length+zs.length<=1000)(σ:Sto) :
  acI [some R,some C,some (.lst zs),some (.ref σ.length),some (cD c)] (σ++[.lst (ys.map cD)])=.ok (.nx [some R,some C,some (.lst zs),some (.ref σ.length),some (cD c)]) (σ++[.lst ((ys++stp zs.length c).map cD)]):=by
 have rn:=fun σ=>yko zs.length (by omega) σ;have ad:∀ (k:Nat) σ,yjm (cD c) (.lst [.int (k:Int)]) σ=.ok (cD (c++[(k:Int)])) σ:=fun k σ=>by
  unfold cD;rw[zl0 (by simp[cap];omega)];simp
 have l:=yja (xs:=List.range zs.length) (ix:=[4]) (ρ:=[some R,some C,some (.lst zs),some (.ref σ.length),some (cD c)]) (σ:=σ++[.lst (ys.map cD)]) (src:=yk5 (ycz yjy (ycc (yik 2) yhq))) (fe:=yid yjm (yik 1) (eLv (ycc (yik 0) yhq))) (fun(k:Nat)=>D.int (k:Int)) (fun(k:Nat)=>cD (c++[(k:Int)])) (by
   have r:=rn (σ++[.lst (ys.map cD)]);unfold yas at r;generalize (List.range zs.length).map (fun(k:Nat)=>D.int k)=RG at *;simp[r]) (by simp;omega) (fun k _ j=>by
   have a:=fun σ=>ad k σ;generalize (k:Int)=K at *;generalize cD (c++[K])=O at *;generalize cD c=CC at *;simp[a]) (fun _ _=>by simp)
 have ex:=zeq (σ:=σ) (ys:=ys.map cD) (zs:=(List.range zs.length).map fun(k:Nat)=>cD (c++[(k:Int)])) (by simp;omega);have e1:(ys++stp zs.length c).map cD=ys.map cD++(List.range zs.length).map fun(k:Nat)=>cD (c++[(k:Int)]):=by
  unfold stp;rw[List.map_append,List.map_map];rfl
 rw[e1];unfold acI;generalize (List.range zs.length).map (fun(k:Nat)=>cD (c++[(k:Int)]))=NL at *;generalize ys.map cD=YL at *;generalize cD c=CC at *;simp[l,ex,-zpb]
def yb9(σ:Sto)(k:Nat)(d:D)(acc:List (List Int)):Prop:=d=.lst (acc.map cD)\/∃ m,d=.ref m/\k<=m/\yee σ m=some (acc.map cD)
theorem zg7{σ j:Sto}{m:Nat}{xs:List D}(h:yee σ m=some xs):yee (σ++j) m=some xs:=by
 unfold yee at h ⊢;cases e:σ[m]? with
 |none=>rw[e]at h;cases h
 |some o=>
  rw[List.getElem?_append_left (List.getElem?_eq_some_iff.mp e).1,e];rw[e]at h;exact h
theorem yb9.src{σ:Sto}{k:Nat}{d:D}{acc:List (List Int)}(h:yb9 σ k d acc):∃ S:Src,(∀ j,yfz d (σ++j)=.ok S (σ++j))/\∀ i j,S.nx i (σ++j)=some ((acc.map cD)[i]?):=by
 rcases h with rfl|⟨m,rfl,_,h⟩
 ·exact⟨.seq (acc.map cD),fun _=>rfl,fun _ _=>rfl⟩
 ·refine⟨.lref m,fun j=>?_,fun i j=>?_⟩
  ·unfold yfz;dsimp only;rw[zg7 h]
  ·show (yee (σ++j) m).map _=_;rw[zg7 h];rfl
theorem zie(n:Nat)(acc:List (List Int))(i:Nat){c:List Int}(h:acc[i]?=some c):(acc.take (i+1)).flatMap (stp n)=(acc.take i).flatMap (stp n)++stp n c:=by
 rw[List.take_add_one,h,List.flatMap_append];simp
noncomputable abbrev acB:Ev->M Fl:=(ykz (yk0 3 (yii yhq))
 (ykz (ykv (yk6 (yik 1)) (tgN 4) acI)
 (yk0 1 (yik 3))))
theorem zio(R d:D)(acc:List (List Int))(zs:List D)(hz:zs.length<=20)(x3 x4:Option D)(σ:Sto)(k:Nat)(hk:k<=σ.length)(hs:yb9 σ k d acc)(hc:∀ c∈acc,c.length<=800)(h1:acc.length<=900)(h2:acc.length * zs.length<=900):∃ y4,
  acB [some R,some d,some (.lst zs),x3,x4] σ=.ok (.nx [some R,some (.ref σ.length),some (.lst zs),some (.ref σ.length),y4]) (σ++[.lst ((acc.flatMap (stp zs.length)).map cD)])/\
  yb9 (σ++[.lst ((acc.flatMap (stp zs.length)).map cD)]) k (.ref σ.length) (acc.flatMap (stp zs.length)):=by
 obtain⟨S,s1,s2⟩:=hs.src;obtain⟨y4,lp⟩:=yir (tg:=tgN 4) (body:=acI) (S:=S) acc cD (fun _ (b:Option D)=>[some R,some d,some (.lst zs),some (.ref σ.length),b]) (fun i=>σ++[.lst (((acc.take i).flatMap (stp zs.length)).map cD)]) (by omega) (fun i _=>s2 i _) (fun i c b hx=>by
  refine⟨[some R,some d,some (.lst zs),some (.ref σ.length),some (cD c)],some (cD c),rfl,?_⟩;have hi:=(List.getElem?_eq_some_iff.mp hx).1;have hb:((acc.take i).flatMap (stp zs.length)).length+zs.length<=1000:=by
   rw[zj9,List.length_take];have:min i acc.length * zs.length+zs.length=(min i acc.length+1) * zs.length:=by rw[Nat.succ_mul]
   have h3:(min i acc.length+1) * zs.length<=acc.length * zs.length:=Nat.mul_le_mul_right _ (by omega);omega
  rw[zie zs.length acc i hx];exact zn3 R d zs hz c (hc c (List.mem_of_getElem? hx)) _ hb σ) x4
 refine⟨y4,?_,.inr ⟨σ.length,rfl,hk,by simp⟩⟩;have s3:=s1 [.lst []];rw[List.take_length]at lp;simp only[List.take_zero,List.flatMap_nil,List.map_nil]at lp;unfold acB;generalize acI=B at *;generalize Ob.lst ((acc.flatMap (stp zs.length)).map cD)=O2 at *;generalize D.lst zs=Z at *;simp[s3,lp]
theorem zuv{n:Nat}{c:List Int}:∀ x∈stp n c,x.length=c.length+1:=fun x hx=>by
 unfold stp at hx;obtain⟨k,_,rfl⟩:=List.mem_map.mp hx;simp
theorem zn2(v:Vw)(R:D)(σ:Sto):∀ (ps:List Po) (acc:List (List Int)) (d:D) (J:Sto) (x2 x3 x4:Option D) (b:Nat),(∀ p∈ps,p.st.length<=20)->yb9 (σ++J) σ.length d acc->(∀ c∈acc,c.length<=b)->b+ps.length<=800->ygy (ps.map fun p=>p.st.length) acc.length->∃ d' J' y2 y3 y4,
  yjc (tgN 2) acB (ps.map (rdL v)) [some R,some d,x2,x3,x4] (σ++J)=.ok (.nx [some R,some d',y2,y3,y4]) (σ++J')/\yb9 (σ++J') σ.length d' (yhs (ps.map fun p=>p.st.length) acc)
 |[],acc,d,J,x2,x3,x4,b,_,hs,_,_,_=>⟨d,J,x2,x3,x4,by simp,hs⟩
 |p::ps,acc,d,J,x2,x3,x4,b,hp,hs,hc,hb,hf=>by
  simp only[List.length_cons]at hb;rw[List.map_cons]at hf;obtain⟨f1,f2⟩:=hf;have hpl:=hp p List.mem_cons_self;have hlen:(p.st.map (rdD v p)).length=p.st.length:=by simp
  obtain⟨y4,e1,s1⟩:=zio R d acc (p.st.map (rdD v p)) (by rw[hlen];exact hpl) x3 x4 (σ++J) σ.length (by simp) hs (fun c h=>by have:=hc c h;omega) f1 (by rw[hlen];exact f2.le);rw[hlen]at e1 s1;obtain⟨d',J',y2,y3,y4',e2,s2⟩:=zn2 v R σ ps (acc.flatMap (stp p.st.length)) (.ref (σ++J).length) (J++[.lst ((acc.flatMap (stp p.st.length)).map cD)]) (some (rdL v p)) (some (.ref (σ++J).length)) y4 (b+1) (fun q hq=>hp q (List.mem_cons_of_mem _ hq)) (by rw[<-List.append_assoc];exact s1) (fun c h=>by
   obtain⟨a,ha,hx⟩:=List.mem_flatMap.mp h;have:=zuv c hx;have:=hc a ha;omega) (by omega) (by rw[zj9];exact f2)
  refine⟨d',J',y2,y3,y4',?_,s2⟩;rw[List.map_cons,zll];simp only[List.set_cons_succ,List.set_cons_zero];have e3:acB [some R,some d,some (rdL v p),x3,x4] (σ++J)=_:=e1;rw[e3,zoj,zlj,List.append_assoc];exact e2
theorem zp6{σ J:Sto}{d:D}{acc:List (List Int)}(h:yb9 (σ++J) σ.length d acc):yis σ (.ok d (σ++J))=.ok (.lst (acc.map cD)) σ:=by
 have hc:clL (acc.map cD)=true:=zou fun _=>by simp
 rcases h with rfl|⟨m,rfl,hm,hl⟩
 ·exact zp3 (by rw[zv0];exact hc) (by simp)
 ·have hl2:(σ++J)[m]?=some (.lst (acc.map cD)):=by
   unfold yee at hl;cases e:(σ++J)[m]? with
   |none=>rw[e]at hl;cases hl
   |some o=>
    rw[e]at hl;cases o with
    |lst xs=>cases hl;rfl
    |_=>cases hl
  have hr:fz σ.length (σ++J) 6 (.ref m)=some (.lst (acc.map cD)):=by
   unfold fz;rw[if_neg (by simp[cl])];dsimp only;rw[if_neg (by omega),hl2];dsimp only;rw[zqf (g:=cD) (h:=cD) fun c _=>ydo (yck c)];rfl
  unfold yis;dsimp only;rw[if_pos (by simp),hr]
def pls(v:Vw):List (List Int):=yhs (v.ps.map fun p=>p.st.length) [[]]
def Vw.Few(v:Vw):Prop:=ygy (v.ps.map fun p=>p.st.length) 1
theorem zem(v:Vw)(hv:v.Ok)(hf:v.Few)(σ:Sto):f_all_choices [.lst (v.ps.map (rdL v))] σ=.ok (.lst ((pls v).map cD)) σ:=by
 have n3:=hv.n3;obtain⟨d',J',y2,y3,y4,e,s⟩:=zn2 v (.lst (v.ps.map (rdL v))) σ v.ps [[]] (.lst [.lst []]) [] none none none 0 (fun p hp=>(hv.sl p hp).2) (.inl rfl) (by simp) (by omega) hf;rw[List.append_nil]at e;have fz:=zp6 s;rw[show yhs (v.ps.map fun p=>p.st.length) [[]]=pls v from rfl]at fz;unfold acB acI at e;unfold f_all_choices zb3;generalize v.ps.map (rdL v)=RL at *;generalize D.lst ((pls v).map cD)=OUT at *;simp[e,fz]
theorem zrr:∀ (ps:List Po) (acc:List (List Int)) (c:List Int),c∈yhs (ps.map fun p=>p.st.length) acc ↔ ∃ a∈acc,∃ r:List Int,c=a++r/\r.length=ps.length/\plB ps r=true
 |[],acc,c=>by
  simp only[List.map_nil,yhs,List.length_nil];constructor
  ·intro h;exact⟨c,h,[],by simp,rfl,rfl⟩
  ·rintro ⟨a,ha,r,rfl,hr,_⟩;have:r=[]:=List.length_eq_zero_iff.mp hr;subst this;simpa using ha
 |p::ps,acc,c=>by
  simp only[List.map_cons,yhs];rw[zrr ps];constructor
  ·rintro ⟨a',ha',r,rfl,hr,hp⟩;obtain⟨a,ha,hx⟩:=List.mem_flatMap.mp ha';unfold stp at hx;obtain⟨k,hk,rfl⟩:=List.mem_map.mp hx;have hk:=List.mem_range.mp hk;refine⟨a,ha,(k:Int)::r,by simp,by simp[hr],?_⟩;unfold plB at hp ⊢;rw[List.zip_cons_cons,List.all_cons,hp,Bool.and_true];simp only[Bool.and_eq_true,decide_eq_true_eq];omega
  ·rintro ⟨a,ha,r,rfl,hr,hp⟩;cases r with
   |nil=>simp at hr
   |cons x r=>
    unfold plB at hp;rw[List.zip_cons_cons,List.all_cons]at hp;simp only[Bool.and_eq_true,decide_eq_true_eq]at hp;refine⟨a++[x],List.mem_flatMap.mpr ⟨a,ha,?_⟩,r,by simp,by simpa using hr,hp.2⟩;unfold stp;exact List.mem_map.mpr ⟨x.toNat,List.mem_range.mpr (by omega),by rw[show ((x.toNat:Nat):Int)=x by omega]⟩
theorem zru(v:Vw)(c:List Int):c∈pls v ↔ c.length=v.ps.length/\plB v.ps c=true:=by
 unfold pls;rw[zrr];constructor
 ·rintro ⟨a,ha,r,rfl,h1,h2⟩;have:a=[]:=by simpa using ha
  subst this;exact⟨by simpa using h1,by simpa using h2⟩
 ·rintro ⟨h1,h2⟩;exact⟨[],by simp,c,by simp,h1,h2⟩
theorem yad(v:Vw)(hv:v.Ok):∃ x xs,pls v=x::xs:=by
 have h:v.ps.map (fun _=>(0:Int))∈pls v:=by
  rw[zru];refine⟨by simp,?_⟩;unfold plB;rw[List.all_eq_true];intro q hq;obtain⟨i,hi⟩:=List.getElem?_of_mem hq;have e:=List.getElem?_zip_eq_some.mp hi;have h1:=(hv.sl q.1 (List.mem_of_getElem? e.1)).1;have h2:q.2=0:=by
   have:=e.2;rw[List.getElem?_map]at this;obtain⟨_,_,z⟩:=Option.map_eq_some_iff.mp this;exact z.symm
  simp only[Bool.and_eq_true,decide_eq_true_eq];omega
 cases e:pls v with
 |nil=>rw[e]at h;cases h
 |cons x xs=>exact⟨x,xs,rfl⟩
theorem zim:∀ (ns:List Nat) (acc:List (List Int)),ygy ns acc.length->(yhs ns acc).length<=900
 |[],acc,h=>h
 |n::ns,acc,h=>zim ns _ (by rw[zj9];exact h.2)
def tot(v:Vw)(cs:List Int):Int:=frm v (chS v.ps cs)+yiy (lF (grp (AT v (chS v.ps cs))) v.e) v.e (grp (AT v (chS v.ps cs)))
def ppD(v:Vw)(cs:List Int):D:=pD (tot v cs) cs (lF (grp (AT v (chS v.ps cs))) v.e)
structure Best(v:Vw)(cs:List Int):Prop where
 len:cs.length=v.ps.length
 pl:plB v.ps cs=true
 le:∀ c,c.length=v.ps.length->plB v.ps c=true->tot v cs<=tot v c
theorem zmb(v:Vw)(hv:v.Ok)(hf:v.Few):∃ cs,Best v cs/\∀ σ,f_paper [v.O] σ=.ok (ppD v cs) σ:=by
 obtain⟨x,xs,hx⟩:=yad v hv;have hm:yht (tot v) xs x∈pls v:=by rw[hx];exact zir _ _ _
 have hl:=zim _ [[]] hf;rw[show yhs (v.ps.map fun p=>p.st.length) [[]]=pls v from rfl]at hl;refine⟨yht (tot v) xs x,⟨((zru v _).mp hm).1,((zru v _).mp hm).2,fun c h1 h2=>?_⟩,fun σ=>?_⟩
 ·have:c∈x::xs:=by rw[<-hx];exact(zru v c).mpr ⟨h1,h2⟩
  exact zn9 (tot v) xs x c this
 ·have r1:=fun σ=>zmr v hv σ;have r2:=fun σ=>zem v hv hf σ;have f0:=fun σ=>v.f0 σ;have l:=yja (xs:=pls v) (ix:=[1,0]) (ρ:=[some v.O,some (.lst (v.ps.map (rdL v))),none]) (σ:=σ) (src:=yk6 (eFn 1 f_all_choices [] (ycc (yik 1) yhq))) (fe:=eFn 3 f_least_paper [] (ycc (eFn 2 f_chosen_readings [] (ycc (yik 1) (ycc (yik 0) yhq))) (ycc (yik 0) (ycc (eUn (yjt [0] "every") (yik 2)) yhq)))) cD (ppD v) (by
    generalize D.lst (v.ps.map (rdL v))=RL at *;generalize v.O=VO at *;simp[r2]) (by omega) (fun c hc j=>by
    obtain⟨h1,h2⟩:=(zru v c).mp hc;have r3:=fun σ=>zgb v c hv.n3 h2 σ;have hmm:=zos h2;have r4:∀ σ,f_least_paper [.lst ((chS v.ps c).map fun q=>rdD v q.1 q.2),.lst (c.map D.int),.int v.e] σ=.ok (ppD v c) σ:=fun σ=>zg6 v (chS v.ps c) (fun q hq=>hv.ok q.1 (hmm q hq).1 q.2 (hmm q hq).2) (Nat.le_trans (zor _ _) hv.n3) c σ;unfold cD;generalize D.lst (v.ps.map (rdL v))=RL at *;generalize D.lst ((chS v.ps c).map fun q=>rdD v q.1 q.2)=QL at *;generalize D.lst (c.map D.int)=CL at *;generalize ppD v c=PP at *;generalize v.O=VO at *;simp[r3,r4,f0]) (fun c _=>yfe _ _ _)
  have i0:∀ c σ,oIx (ppD v c) (.int 0) σ=.ok (.int (tot v c)) σ:=fun c σ=>by unfold ppD pD;simp
  have m:=zrx (f:=ppD v) (key:=tot v) (x:=x) (xs:=xs) (fe:=yid oIx (yik 0) (eC (.int 0))) (rest:=[]) (σ:=σ) (fun c _=>by
   have i:=fun σ=>i0 c σ;generalize ppD v c=PP at *;simp[i])
  rw[<-hx]at m;have hc:cl (ppD v (yht (tot v) xs x))=true:=yfe _ _ _;unfold f_paper zqi;generalize ppD v (yht (tot v) xs x)=OUT at *;generalize (pls v).map (ppD v)=PL at *;generalize D.lst (v.ps.map (rdL v))=RL at *;generalize v.O=VO at *;simp[r1,l,m,hc,-zpb]
theorem znv(v:Vw)(hv:v.Ok)(hf:v.Few):∃ cs,Best v cs/\∀ σ,f_worth [v.O] σ=.ok (.int (tot v cs)) σ:=by
 obtain⟨cs,hb,e⟩:=zmb v hv hf;refine⟨cs,hb,fun σ=>?_⟩;have i0:∀ σ,oIx (ppD v cs) (.int 0) σ=.ok (.int (tot v cs)) σ:=fun σ=>by unfold ppD pD;simp
 unfold f_worth zqj;generalize ppD v cs=PP at *;generalize v.O=VO at *;simp[e,i0]
def ylq(v:Vw)(qs:List (Po × St))(X:Int->Option Int):Int:=yi1 (fun c=>if cnt (X c.t.w) v.e c then c.t.a else 0) (AT v qs)+own qs
def Xm(v:Vw)(qs:List (Po × St))(w:Int):Option Int:=mf (flt (AT v qs) w) v.e
theorem zfs{h h':Int->Tc->Int}{cs:List Tc}:∀ {W:List Int},(∀ w∈W,yi1 (h w) (flt cs w)=yi1 (h' w) (flt cs w))->ylu h cs W=ylu h' cs W
 |[],_=>rfl
 |w::W,hw=>by
  simp only[ylu];rw[hw w List.mem_cons_self,zfs fun z hz=>hw z (List.mem_cons_of_mem _ hz)]
theorem zqm(v:Vw)(qs:List (Po × St)):yiy (lF (grp (AT v qs)) v.e) v.e (grp (AT v qs))=yi1 (fun c=>if cmB (Xm v qs c.t.w) v.e c then c.t.a else 0) (AT v qs):=by
 rw[zql];have gn:((spc (AT v qs)).map (·.1)).Nodup:=by
  unfold spc;rw[List.map_map];exact(show ((fun q:Int × List Tc=>q.1) ∘ fun w=>(w,flt (AT v qs) w))=id from rfl) ▸ (by rw[List.map_id];exact zgg _)
 have fv:=zqd (spc (AT v qs)) v.e gn;generalize lF (spc (AT v qs)) v.e=F at *;have e1:yiy F v.e (spc (AT v qs))=ylu (fun w c=>if cmB ((yit F w).getD none) v.e c then c.t.a else 0) (AT v qs) (ddp (wds (AT v qs))):=by
  unfold spc;rw[zkq]
 rw[e1,zfs (h':=fun w c=>if cmB (Xm v qs w) v.e c then c.t.a else 0) (fun w hw=>by
  have:yit F w=some (mf (flt (AT v qs) w) v.e):=fv (w,flt (AT v qs) w) (by unfold spc;exact List.mem_map.mpr ⟨w,hw,rfl⟩);rw[this];rfl)]
 exact znw (fun w c=>if cmB (Xm v qs w) v.e c then c.t.a else 0) _ (zgg _) _ fun c hc=>(zo3 _ _).mpr (List.mem_map.mpr ⟨c,hc,rfl⟩)
theorem ygh(v:Vw)(cs:List Int):tot v cs=ylq v (chS v.ps cs) (Xm v (chS v.ps cs)):=by
 unfold tot ylq;rw[zqm,zp1,zoz (fun w=>Xm v (chS v.ps cs) w)];omega
theorem in3(l:Str)(σ:Sto):oIn false (.str l) (.lst [.str "won",.str "sure",.str "back"]) σ=.ok (.bl (ydd l)) σ:=by
 have h3:yf0 σ (.lst [.str "won",.str "sure",.str "back"])=some [.str "won",.str "sure",.str "back"]:=rfl;unfold oIn;simp only[h3];simp[isF,sc,eqF,eqV,ydd,inV]
theorem zpv{l:Str}(h:ydd l=true):l = "won"\/l = "sure"\/l = "back":=by
 unfold ydd inV at h;simp only[List.map_cons,List.map_nil,List.any_cons,List.any_nil,Bool.or_false,Bool.or_eq_true,eqV]at h;rcases h with h|h|h
 ·exact .inl (eq_of_beq h).symm
 ·exact .inr (.inl (eq_of_beq h).symm)
 ·exact .inr (.inr (eq_of_beq h).symm)
noncomputable abbrev lsB:Ev->M Fl:=(sIf (eT (yid oEq (yid oIx (yik 6) (eC (.int 2))) (yik 1))) (ykz (sIf (eT (yid (oIn false) (yik 5) (eLv (ycc (eC (.str "won")) (ycc (eC (.str "sure")) (ycc (eC (.str "back")) yhq)))))) (yk0 4 (yid yjm (yik 4) (yid oIx (yik 6) (eC (.int 1))))) ykw)
 (ykz (sIf (yhx (eT (yid oEq (yik 5) (eC (.str "open")))) (bOr (eT (yid yjx (yik 2) (eC .non))) (eT (yid oGt (yik 2) (yid oIx (yik 6) (eC (.int 3))))))) (yk0 4 (yid yjm (yik 4) (yid oIx (yik 6) (eC (.int 1))))) ykw)
 (sIf (yhx (eT (yid oEq (yik 5) (eC (.str "hangs")))) (yhx (eT (yid ye7 (yik 2) (eC .non))) (eT (yid oLt (yid yjm (yid yj4 (yik 2) (eC (.int 1))) (yik 3)) (yid oIx (yik 6) (eC (.int 3))))))) (yk0 4 (yid yjm (yik 4) (yid oIx (yik 6) (eC (.int 1))))) ykw))) ykw)
theorem zrn(L:D)(w:Int)(x:Option Int)(e a:Int)(c:Tc)(σ:Sto):lsB [some L,some (.int w),some (oD x),some (.int e),some (.int a),some (.str c.l),some c.t.D] σ=.ok (.nx [some L,some (.int w),some (oD x),some (.int e),some (.int (a+if c.t.w == w then (if cnt x e c then c.t.a else 0)else 0)),some (.str c.l),some c.t.D]) σ:=by
 have i1:=fun σ=>c.t.i1 σ;have i2:=fun σ=>c.t.i2 σ;have i3:=fun σ=>c.t.i3 σ;have h0:=fun σ=>in3 c.l σ;have ex:(ydd c.l=true->(c.l == ("open" : Str))=false/\(c.l == ("hangs" : Str))=false)/\((c.l == ("open" : Str))=true->(c.l == ("hangs" : Str))=false):=by
  refine⟨fun h=>?_,fun h=>?_⟩
  ·rcases zpv h with h|h|h<;>rw[h]<;>exact⟨by decide,by decide⟩
  ·rw[eq_of_beq h];decide
 unfold lsB cnt cmB;generalize ydd c.l=b0 at *;generalize hb1:(c.l == ("open" : Str))=b1 at *;generalize hb2:(c.l == ("hangs" : Str))=b2 at *;generalize hbw:(c.t.w == w)=bw at *;generalize c.t.D=TD at *;cases bw
 ·simp[i2,hbw]
 ·cases x with
  |none=>
   cases b0<;>cases b1<;>cases b2<;>simp at ex<;>simp[oD,i1,i2,i3,h0,hb1,hb2,hbw]
  |some z=>
   generalize hb3:decide (c.t.d<z)=b3 at *;generalize hb4:decide (z - 1+e<c.t.d)=b4 at *;cases b0<;>cases b1<;>cases b2<;>simp at ex<;>cases b3<;>cases b4<;>simp[oD,i1,i2,i3,h0,hb1,hb2,hbw,hb3,hb4]
def cS(A:List Tc)(w:Int)(x:Option Int)(e:Int):Int:=yi1 (fun c=>if cnt x e c then c.t.a else 0) (flt A w)
theorem zop{A:List Tc}{i:Nat}{c:Tc}(h:A[i]?=some c)(w:Int)(x:Option Int)(e:Int):cS (A.take (i+1)) w x e=cS (A.take i) w x e+if c.t.w == w then (if cnt x e c then c.t.a else 0)else 0:=by
 unfold cS;rw[List.take_add_one,h,Option.toList_some,zkb];split
 ·rw[zkt];simp[yi1]
 ·simp
theorem zro(A:List Tc)(hl:A.length<=500)(w:Int)(x:Option Int)(e:Int)(σ:Sto):f__law_sum [.lst (A.map Tc.L),.int w,oD x,.int e] σ=.ok (.int (cS A w x e)) σ:=by
 obtain⟨⟨y5,y6⟩,lp⟩:=yir (tg:=tgT 2 (ybh (tgN 5) (ybh (tgN 6) ygf))) (body:=lsB) (S:=.seq (A.map Tc.L)) A Tc.L (fun i (b:Option D × Option D)=>[some (.lst (A.map Tc.L)),some (.int w),some (oD x),some (.int e),some (.int (cS (A.take i) w x e)),b.1,b.2]) (fun _=>σ) (by omega) (fun _ _=>rfl) (fun i c b hx=>by
  refine⟨[some (.lst (A.map Tc.L)),some (.int w),some (oD x),some (.int e),some (.int (cS (A.take i) w x e)),some (.str c.l),some c.t.D],(some (.str c.l),some c.t.D),rfl,?_⟩;rw[zop hx];exact zrn _ w x e _ c σ) (none,none)
 rw[List.take_length]at lp;simp only[List.take_zero]at lp;rw[show cS [] w x e=0 from rfl]at lp;unfold lsB at lp;unfold f__law_sum zeu;generalize hL:D.lst (A.map Tc.L)=LD at *;have sk:yfz LD σ=.ok (.seq (A.map Tc.L)) σ:=by rw[<-hL];rfl
 generalize oD x=OX at *;simp[sk,lp]
def yje(acc:List (List Int))(k:Nat):List (List Int):=acc.map fun c=>c++[(k:Int)]
def yjg(n:Nat)(acc:List (List Int)):List (List Int):=(List.range n).flatMap (yje acc)
def lcs:List Nat->List (List Int)->List (List Int)
 |[],acc=>acc
 |n::ns,acc=>lcs ns (yjg n acc)
theorem zlm(acc:List (List Int)):∀ n,(yjg n acc).length=n * acc.length
 |0=>by simp[yjg]
 |n+1=>by
  have:=zlm acc n;unfold yjg at *;rw[List.range_succ,List.flatMap_append,List.length_append,this,Nat.succ_mul];simp[yje]
noncomputable abbrev lcI:Ev->M Fl:=(yk0 5 (yid yjm (yik 5) (yie (eLC (yk6 (yik 1)) [6] (tgN 0) ycf (yid yjm (yik 0) (eLv (ycc (yik 1) yhq)))))))
theorem zrc(P:D)(acc:List (List Int))(hc:∀ c∈acc,c.length<=800)(ha:acc.length<=900)(x2 x3 x4:Option D)(ys:List (List Int))(hy:ys.length+acc.length<=900)(k:Nat)(σ:Sto) :
  lcI [some P,some (.lst (acc.map cD)),x2,x3,x4,some (.lst (ys.map cD)),some (.int k)] σ=.ok (.nx [some P,some (.lst (acc.map cD)),x2,x3,x4,some (.lst ((ys++yje acc k).map cD)),some (.int k)]) σ:=by
 have ad:∀ c∈acc,∀ σ,yjm (cD c) (.lst [.int (k:Int)]) σ=.ok (cD (c++[(k:Int)])) σ:=fun c h σ=>by
  have:=hc c h;unfold cD;rw[zl0 (by simp[cap];omega)];simp
 have l:=yja (xs:=acc) (ix:=[6]) (ρ:=[some P,some (.lst (acc.map cD)),x2,x3,x4,some (.lst (ys.map cD)),some (.int k)]) (σ:=σ) (src:=yk6 (yik 1)) (fe:=yid yjm (yik 0) (eLv (ycc (yik 1) yhq))) cD (fun c=>cD (c++[(k:Int)])) (by simp) (by omega) (fun c h j=>by
   have a:=fun σ=>ad c h σ;generalize (k:Int)=K at *;generalize cD (c++[K])=O at *;generalize cD c=CC at *;simp[a]) (fun _ _=>by simp)
 have e1:(ys++yje acc k).map cD=ys.map cD++acc.map fun c=>cD (c++[(k:Int)]):=by
  unfold yje;rw[List.map_append,List.map_map];rfl
 have a2:∀ σ,yjm (.lst (ys.map cD)) (.lst (acc.map fun c=>cD (c++[(k:Int)]))) σ=.ok (.lst (ys.map cD++acc.map fun c=>cD (c++[(k:Int)]))) σ:=fun σ=>zl0 (by simp[cap];omega);rw[e1];unfold lcI;generalize D.lst (ys.map cD++acc.map fun c=>cD (c++[(k:Int)]))=OUT at *;generalize D.lst (acc.map fun c=>cD (c++[(k:Int)]))=NL at *;generalize D.lst (ys.map cD)=YL at *;generalize D.lst (acc.map cD)=AL at *;simp[l,a2,-zpb]
theorem zlb(P:D)(acc:List (List Int))(hc:∀ c∈acc,c.length<=800)(ha:acc.length<=900)(x2 x3 x4:Option D)(σ:Sto):∀ (m i:Nat) (ys:List (List Int)) (x6:Option D),ys.length+m * acc.length<=900->∃ y6,
  yjc (tgN 6) lcI ((List.range' i m).map fun(k:Nat)=>D.int k) [some P,some (.lst (acc.map cD)),x2,x3,x4,some (.lst (ys.map cD)),x6] σ=.ok (.nx [some P,some (.lst (acc.map cD)),x2,x3,x4,some (.lst ((ys++(List.range' i m).flatMap (yje acc)).map cD)),y6]) σ:=by
 intro m;induction m with
 |zero=>intro i ys x6 _;exact⟨x6,by simp⟩
 |succ m ih=>
  intro i ys x6 hm;rw[Nat.succ_mul]at hm;obtain⟨y6,e⟩:=ih (i+1) (ys++yje acc i) (some (.int i)) (by simp[yje];omega);refine⟨y6,?_⟩;have st:=zrc P acc hc ha x2 x3 x4 ys (by omega) i σ;rw[List.range'_succ,List.map_cons,zll];simp only[List.set_cons_succ,List.set_cons_zero];rw[st,zoj,zlj,e,List.flatMap_cons,List.append_assoc]
noncomputable abbrev lcO:Ev->M Fl:=(ykz (yk0 5 (eLv yhq))
 (ykz (ykv (yk5 (ycz yjy (ycc (yik 3) yhq))) (tgN 6) lcI)
 (yk0 1 (yik 5))))
theorem zlc(P:D)(acc:List (List Int))(hc:∀ c∈acc,c.length<=800)(ha:acc.length<=900)(p:Po)(hp:p.st.length<=20)(hm:acc.length * p.st.length<=900)(x5 x6:Option D)(σ:Sto):∃ y6,
  lcO [some P,some (.lst (acc.map cD)),some (.int p.s),some (.lst (p.st.map St.D)),some (shD p.sn),x5,x6] σ=.ok (.nx [some P,some (.lst ((yjg p.st.length acc).map cD)),some (.int p.s),some (.lst (p.st.map St.D)),some (shD p.sn),some (.lst ((yjg p.st.length acc).map cD)),y6]) σ:=by
 obtain⟨y6,e⟩:=zlb P acc hc ha (some (.int p.s)) (some (.lst (p.st.map St.D))) (some (shD p.sn)) σ p.st.length 0 [] x6 (by rw[Nat.mul_comm]at hm;simpa using hm);rw[<-zhv,List.nil_append,<-List.range_eq_range']at e;rw[show (List.range p.st.length).flatMap (yje acc)=yjg p.st.length acc from rfl,show (([]:List (List Int)).map cD)=[]from rfl]at e;refine⟨y6,?_⟩;have ln:∀ σ,yjy [.lst (p.st.map St.D)] σ=.ok (.int p.st.length) σ:=fun σ=>by simp
 have rk:=fun σ=>yko p.st.length (by omega) σ;unfold lcO;generalize lcI=B at *;generalize D.lst ((yjg p.st.length acc).map cD)=OUT at *;generalize D.lst (acc.map cD)=AL at *;generalize D.lst (p.st.map St.D)=SL at *;generalize yas p.st.length=RG at *;generalize (p.st.length:Int)=N at *;simp[ln,rk,e]
theorem zrb(P:D)(σ:Sto):∀ (ps:List Po) (acc:List (List Int)) (b:Nat) (x2 x3 x4 x5 x6:Option D),(∀ p∈ps,p.st.length<=20)->(∀ c∈acc,c.length<=b)->b+ps.length<=800->ygy (ps.map fun p=>p.st.length) acc.length->∃ y2 y3 y4 y5 y6,
  yjc (tgT 3 (ybh (tgN 2) (ybh (tgN 3) (ybh (tgN 4) ygf)))) lcO (ps.map Po.D) [some P,some (.lst (acc.map cD)),x2,x3,x4,x5,x6] σ=.ok (.nx [some P,some (.lst ((lcs (ps.map fun p=>p.st.length) acc).map cD)),y2,y3,y4,y5,y6]) σ
 |[],acc,b,x2,x3,x4,x5,x6,_,_,_,_=>⟨x2,x3,x4,x5,x6,by simp[lcs]⟩
 |p::ps,acc,b,x2,x3,x4,x5,x6,hp,hc,hb,hf=>by
  simp only[List.length_cons]at hb;rw[List.map_cons]at hf;obtain⟨f1,f2⟩:=hf;obtain⟨y6,e1⟩:=zlc P acc (fun c h=>by have:=hc c h;omega) f1 p (hp p List.mem_cons_self) f2.le x5 x6 σ;obtain⟨z2,z3,z4,z5,z6,e2⟩:=zrb P σ ps (yjg p.st.length acc) (b+1) (some (.int p.s)) (some (.lst (p.st.map St.D))) (some (shD p.sn)) (some (.lst ((yjg p.st.length acc).map cD))) y6 (fun q hq=>hp q (List.mem_cons_of_mem _ hq)) (fun c h=>by
   unfold yjg at h;obtain⟨k,_,hk⟩:=List.mem_flatMap.mp h;unfold yje at hk;obtain⟨a,ha,rfl⟩:=List.mem_map.mp hk;have:=hc a ha;simp;omega) (by omega) (by rw[zlm,Nat.mul_comm];exact f2)
  refine⟨z2,z3,z4,z5,z6,?_⟩;rw[List.map_cons,zg5 (ρ1:=[some P,some (.lst (acc.map cD)),some (.int p.s),some (.lst (p.st.map St.D)),some (shD p.sn),x5,x6]) rfl,e1,zoj,zlj,e2];rfl
def lpl(v:Vw):List (List Int):=lcs (v.ps.map fun p=>p.st.length) [[]]
theorem zds(v:Vw)(hv:v.Ok)(hf:v.Few)(σ:Sto):f__law_choices [.lst (v.ps.map Po.D)] σ=.ok (.lst ((lpl v).map cD)) σ:=by
 have n3:=hv.n3;obtain⟨y2,y3,y4,y5,y6,e⟩:=zrb (.lst (v.ps.map Po.D)) σ v.ps [[]] 0 none none none none none (fun p hp=>(hv.sl p hp).2) (by simp) (by omega) hf;rw[show lcs (v.ps.map fun p=>p.st.length) [[]]=lpl v from rfl,show (([[]]:List (List Int)).map cD)=[.lst []]from rfl]at e;have hc:cl (.lst ((lpl v).map cD))=true:=by rw[zv0];exact zou fun _=>by simp
 unfold lcO lcI at e;unfold f__law_choices zbf;generalize v.ps.map Po.D=PL at *;generalize D.lst ((lpl v).map cD)=OUT at *;simp[e,hc]
theorem zrs:∀ (ps:List Po) (acc:List (List Int)) (c:List Int),c∈lcs (ps.map fun p=>p.st.length) acc ↔ ∃ a∈acc,∃ r:List Int,c=a++r/\r.length=ps.length/\plB ps r=true
 |[],acc,c=>by
  simp only[List.map_nil,lcs,List.length_nil];constructor
  ·intro h;exact⟨c,h,[],by simp,rfl,rfl⟩
  ·rintro ⟨a,ha,r,rfl,hr,_⟩;have:r=[]:=List.length_eq_zero_iff.mp hr;subst this;simpa using ha
 |p::ps,acc,c=>by
  simp only[List.map_cons,lcs];rw[zrs ps];constructor
  ·rintro ⟨a',ha',r,rfl,hr,hp⟩;unfold yjg at ha';obtain⟨k,hk,hx⟩:=List.mem_flatMap.mp ha';unfold yje at hx;obtain⟨a,ha,rfl⟩:=List.mem_map.mp hx;have hk:=List.mem_range.mp hk;refine⟨a,ha,(k:Int)::r,by simp,by simp[hr],?_⟩;unfold plB at hp ⊢;rw[List.zip_cons_cons,List.all_cons,hp,Bool.and_true];simp only[Bool.and_eq_true,decide_eq_true_eq];omega
  ·rintro ⟨a,ha,r,rfl,hr,hp⟩;cases r with
   |nil=>simp at hr
   |cons x r=>
    unfold plB at hp;rw[List.zip_cons_cons,List.all_cons]at hp;simp only[Bool.and_eq_true,decide_eq_true_eq]at hp;refine⟨a++[x],?_,r,by simp,by simpa using hr,hp.2⟩;unfold yjg yje;exact List.mem_flatMap.mpr ⟨x.toNat,List.mem_range.mpr (by omega),List.mem_map.mpr ⟨a,ha,by rw[show ((x.toNat:Nat):Int)=x by omega]⟩⟩
theorem zrt(v:Vw)(c:List Int):c∈lpl v ↔ c.length=v.ps.length/\plB v.ps c=true:=by
 unfold lpl;rw[zrs];constructor
 ·rintro ⟨a,ha,r,rfl,h1,h2⟩;have:a=[]:=by simpa using ha
  subst this;exact⟨by simpa using h1,by simpa using h2⟩
 ·rintro ⟨h1,h2⟩;exact⟨[],by simp,c,by simp,h1,h2⟩
theorem zr1{b:Int}{bs:List Int}{m:Int}(h1:m∈b::bs)(h2:∀ x∈b::bs,m<=x):mnL (b::bs)=m:=by
 unfold mnL;rw[show (b::bs).getD 0 0=b from rfl];obtain⟨⟨g1,g2⟩,g3⟩:=zgn (b::bs) b;have a1:=g2 m h1;have a2:m<=(b::bs).foldl min b:=by
  rcases g3 with e|e
  ·rw[e];exact h2 b List.mem_cons_self
  ·exact h2 _ e
 omega
def lfs(A:List Tc)(w:Int):List (Option Int):=none::fcs (flt A w)
theorem zpk(A:List Tc)(w:Int):(A.filter fun c=>(c.t.w == w) && (c.l == ("open" : Str))).map (fun c=>some c.t.d)=fcs (flt A w):=by
 unfold fcs opn flt;rw[List.filter_filter];congr 2;funext c;rw[Bool.and_comm]
theorem ziz(A:List Tc)(w:Int)(x:Option Int)(e:Int):cS A w x e=yi1 (fun c=>if ydd c.l then c.t.a else 0) (flt A w)+sby (flt A w) x e:=by
 unfold cS sby;rw[zfo,zoz (fun _=>x)]
theorem yeq(A:List Tc)(w e:Int)(σ:Sto):yjz mnL [.lst ((lfs A w).map fun x=>.int (cS A w x e))] σ=.ok (.int (cS A w (mf (flt A w) e) e)) σ:=by
 have h:mnL (cS A w none e::(fcs (flt A w)).map fun x=>cS A w x e)=cS A w (mf (flt A w) e) e:=by
  refine zr1 ?_ fun y hy=>?_
  ·have:=zyx (flt A w) e;rcases List.mem_cons.mp this with h|h
   ·rw[h];exact List.mem_cons_self
   ·exact List.mem_cons_of_mem _ (List.mem_map.mpr ⟨_,h,rfl⟩)
  ·have key:∀ x∈none::fcs (flt A w),cS A w (mf (flt A w) e) e<=cS A w x e:=fun x hx=>by
    rw[ziz,ziz];have:=yeo (flt A w) e x hx;omega
   rcases List.mem_cons.mp hy with h|h
   ·rw[h];exact key none List.mem_cons_self
   ·obtain⟨x,hx,rfl⟩:=List.mem_map.mp h;exact key x (List.mem_cons_of_mem _ hx)
 have e1:((lfs A w).map fun x=>D.int (cS A w x e))=(cS A w none e::(fcs (flt A w)).map fun x=>cS A w x e).map D.int:=by
  unfold lfs;simp only[List.map_cons,List.map_map];rfl
 have h3:yf0 σ (.lst ((cS A w none e::(fcs (flt A w)).map fun x=>cS A w x e).map D.int))=some ((cS A w none e::(fcs (flt A w)).map fun x=>cS A w x e).map D.int):=rfl;rw[e1];unfold yjz;dsimp only;rw[h3,Option.bind_some,L4.zey];dsimp only;rw[h]
def wS(A:List Tc)(e:Int)(i m:Nat):Int:=((List.range' i m).map fun(w:Nat)=>cS A w (mf (flt A w) e) e).sum
noncomputable abbrev lwB:Ev->M Fl:=(ykz (yk0 6 (yid yjm (eLv (ycc (eC .non) yhq)) (yie (yif (yk6 (yik 3)) [5] (tgT 2 (ybh (tgN 0) (ybh (tgN 1) ygf))) (yhx (eT (yid oEq (yid oIx (yik 1) (eC (.int 2))) (yik 2))) (eT (yid oEq (yik 0) (eC (.str "open"))))) (yid oIx (yik 1) (eC (.int 3)))))))
 (yk0 4 (yid yjm (yik 4) (ycz (yjz mnL) (ycc (yie (eLC (yk6 (yik 6)) [3,5,0] (tgN 0) ycf (eFn 4 f__law_sum [] (ycc (yik 1) (ycc (yik 2) (ycc (yik 0) (ycc (yid oIx (yik 3) (eC (.int 0))) yhq))))))) yhq)))))
theorem zrq(v:Vw)(A:List Tc)(hA:A.length<=100)(B C:Option D)(a w:Int)(x6:Option D)(σ:Sto):∃ y6,
  lwB [some v.D,B,C,some (.lst (A.map Tc.L)),some (.int a),some (.int w),x6] σ=.ok (.nx [some v.D,B,C,some (.lst (A.map Tc.L)),some (.int (a+cS A w (mf (flt A w) v.e) v.e)),some (.int w),y6]) σ:=by
 have l1:=lcB (xs:=A) (ix:=[5]) (ρ:=[some v.D,B,C,some (.lst (A.map Tc.L)),some (.int a),some (.int w),x6]) (σ:=σ) (src:=yk6 (yik 3)) (fi:=yhx (eT (yid oEq (yid oIx (yik 1) (eC (.int 2))) (yik 2))) (eT (yid oEq (yik 0) (eC (.str "open"))))) (fe:=yid oIx (yik 1) (eC (.int 3))) (fun c=>D.str c.l) (fun c=>c.t.D) (fun c=>(c.t.w == w) && (c.l == ("open" : Str))) (fun c=>.int c.t.d) (by rw[zut];rfl) (by omega) (fun c _ j=>by
   have i2:=fun σ=>c.t.i2 σ;have i3:=fun σ=>c.t.i3 σ;generalize hb1:(c.t.w == w)=b1 at *;generalize hb2:(c.l == ("open" : Str))=b2 at *;generalize c.t.D=TD at *;constructor
   ·cases b1<;>simp[i2,hb1,hb2]
   ·intro _;simp[i3]) (fun _ _=>by simp)
 have e1:(.lst (.non::(A.filter fun c=>(c.t.w == w) && (c.l == ("open" : Str))).map fun c=>.int c.t.d):D)=.lst ((lfs A w).map oD):=by
  unfold lfs;rw[<-zpk,List.map_cons,List.map_map];rfl
 have hfl:(A.filter fun c=>(c.t.w == w) && (c.l == ("open" : Str))).length<=A.length:=List.length_filter_le _ _;have ad:∀ σ,yjm (.lst [.non]) (.lst ((A.filter fun c=>(c.t.w == w) && (c.l == ("open" : Str))).map fun c=>.int c.t.d)) σ=.ok (.lst ((lfs A w).map oD)) σ:=fun σ=>by
  rw[zl0 (by simp[cap];omega),<-e1];rfl
 have hll:(lfs A w).length<=200:=by
  unfold lfs;rw[<-zpk];simp;omega
 have v0:∀ σ,oIx v.D (.int 0) σ=.ok (.int v.e) σ:=fun σ=>v.j0 σ;have l2:=yja (xs:=lfs A w) (ix:=[3,5,0]) (ρ:=[some v.D,B,C,some (.lst (A.map Tc.L)),some (.int a),some (.int w),some (.lst ((lfs A w).map oD))]) (σ:=σ) (src:=yk6 (yik 6)) (fe:=eFn 4 f__law_sum [] (ycc (yik 1) (ycc (yik 2) (ycc (yik 0) (ycc (yid oIx (yik 3) (eC (.int 0))) yhq))))) oD (fun x=>.int (cS A w x v.e)) (by simp) (by omega) (fun x _ j=>by
   have ls:=fun σ=>zro A (by omega) w x v.e σ;generalize oD x=OX at *;generalize D.lst (A.map Tc.L)=AL at *;generalize v.D=VD at *;simp[ls,v0]) (fun _ _=>by simp)
 have m:=yeq A w v.e σ;refine⟨some (.lst ((lfs A w).map oD)),?_⟩;unfold lwB;generalize D.lst ((lfs A w).map fun x=>.int (cS A w x v.e))=L2 at *;generalize D.lst ((lfs A w).map oD)=L1 at *;generalize D.lst ((A.filter fun c=>(c.t.w == w) && (c.l == ("open" : Str))).map fun c=>.int c.t.d)=L0 at *;generalize D.lst (A.map Tc.L)=AL at *;generalize v.D=VD at *;simp[l1,ad,l2,m,-zpb]
theorem zrp(v:Vw)(A:List Tc)(hA:A.length<=100)(B C:Option D)(σ:Sto):∀ (m i:Nat) (a:Int) (x5 x6:Option D),∃ y5 y6,
  yjc (tgN 5) lwB ((List.range' i m).map fun(k:Nat)=>D.int k) [some v.D,B,C,some (.lst (A.map Tc.L)),some (.int a),x5,x6] σ=.ok (.nx [some v.D,B,C,some (.lst (A.map Tc.L)),some (.int (a+wS A v.e i m)),y5,y6]) σ:=by
 intro m;induction m with
 |zero=>intro i a x5 x6;exact⟨x5,x6,by simp[wS]⟩
 |succ m ih=>
  intro i a x5 x6;obtain⟨y6,e1⟩:=zrq v A hA B C a i x6 σ;obtain⟨z5,z6,e2⟩:=ih (i+1) (a+cS A i (mf (flt A i) v.e) v.e) (some (.int i)) y6;refine⟨z5,z6,?_⟩;rw[List.range'_succ,List.map_cons,zll];simp only[List.set_cons_succ,List.set_cons_zero];rw[e1,zoj,zlj,e2];unfold wS;rw[List.range'_succ,List.map_cons,List.sum_cons,Int.add_assoc]
theorem zft(h:Int->Tc->Int)(A:List Tc):∀ (m i:Nat),ylu h A ((List.range' i m).map fun(k:Nat)=>(k:Int))=((List.range' i m).map fun(w:Nat)=>yi1 (h w) (flt A w)).sum
 |0,i=>rfl
 |m+1,i=>by
  rw[List.range'_succ];simp only[List.map_cons,ylu,List.sum_cons];rw[zft h A m (i+1)]
theorem zuz(v:Vw)(hv:v.Ok){cs:List Int}(h:plB v.ps cs=true):own (chS v.ps cs)+wS (AT v (chS v.ps cs)) v.e 0 7=tot v cs:=by
 rw[ygh];unfold ylq wS;have hw:∀ t∈AT v (chS v.ps cs),0<=t.t.w/\t.t.w<=6:=by
  intro t ht;unfold AT at ht;obtain⟨q,hq,hm⟩:=List.mem_flatMap.mp ht;obtain⟨u,hu,rfl⟩:=List.mem_map.mp hm;have:=zos h q hq;exact(hv.ok _ this.1 _ this.2).wb u hu
 have e:=znw (fun w c=>if cnt (Xm v (chS v.ps cs) w) v.e c then c.t.a else 0) ((List.range' 0 7).map fun(k:Nat)=>(k:Int)) (by decide) (AT v (chS v.ps cs)) (fun c hc=>by
  have:=hw c hc;exact List.mem_map.mpr ⟨c.t.w.toNat,by rw[List.mem_range'_1];omega,by omega⟩)
 rw[zft]at e;rw[show yi1 (fun c=>if cnt (Xm v (chS v.ps cs) c.t.w) v.e c then c.t.a else 0) (AT v (chS v.ps cs))=_ from e.symm];rw[Int.add_comm];rfl
theorem zrl(v:Vw)(hv:v.Ok)(cs:List Int)(hlc:cs.length=v.ps.length)(hp:plB v.ps cs=true)(x1 x3 x4 x5 x6:Option D)(σ:Sto):ycz yj5 (ycc (yie (eLC (yk5 (ycz yjy (ycc (yik 2) yhq))) [2,0] (tgN 0) ycf (yid oIx (yid oIx (yid oIx (yid oIx (yid oIx (yid oIx (yik 2) (eC (.int 3))) (yik 0)) (eC (.int 1))) (yid oIx (yik 1) (yik 0))) (eC (.int 1))) (yid oIx (yid oIx (yid oIx (yik 2) (eC (.int 3))) (yik 0)) (eC (.int 0)))))) yhq) [some v.D,x1,some (cD cs),x3,x4,x5,x6] σ=.ok (.int (own (chS v.ps cs))) σ:=by
 have n3:=hv.n3;have hcl:(chS v.ps cs).length=cs.length:=by unfold chS;rw[List.length_map,List.length_zip];omega
 have ln:∀ σ,yjy [cD cs] σ=.ok (.int cs.length) σ:=fun σ=>by unfold cD;simp
 have rk:=fun σ=>yko cs.length (by omega) σ;have j3:=fun σ=>v.j3 σ;have l:=yja (xs:=List.range cs.length) (ix:=[2,0]) (ρ:=[some v.D,x1,some (cD cs),x3,x4,x5,x6]) (σ:=σ) (src:=yk5 (ycz yjy (ycc (yik 2) yhq))) (fe:=yid oIx (yid oIx (yid oIx (yid oIx (yid oIx (yid oIx (yik 2) (eC (.int 3))) (yik 0)) (eC (.int 1))) (yid oIx (yik 1) (yik 0))) (eC (.int 1))) (yid oIx (yid oIx (yid oIx (yik 2) (eC (.int 3))) (yik 0)) (eC (.int 0)))) (fun(k:Nat)=>D.int (k:Int)) (fun(k:Nat)=>.int (((chS v.ps cs)[k]?.map fun q=>shr q.1.s q.2).getD 0)) (by
   have r:=rk σ;unfold yas at r;generalize (List.range cs.length).map (fun(k:Nat)=>D.int k)=RG at *;generalize cD cs=CC at *;generalize v.D=VD at *;simp[ln,r]) (by simp;omega) (fun k hk j=>by
   have hk:k<cs.length:=List.mem_range.mp hk;have eq:(chS v.ps cs)[k]?=some (chS v.ps cs)[k]:=List.getElem?_eq_getElem (by omega);generalize (chS v.ps cs)[k]=q at *;obtain⟨h1,c,h2,h3,h4⟩:=yco hp eq;have x1':=fun σ=>ixM (f:=Po.D) h1 σ;have x2':∀ σ,oIx (cD cs) (.int k) σ=.ok (.int c) σ:=fun σ=>ixM (f:=D.int) h2 σ;have x3':=fun σ=>yi5 (f:=St.D) h3 h4 σ;have p0:=fun σ=>q.1.i0 σ;have p1:=fun σ=>q.1.i1 σ;have t1:=fun σ=>q.2.i1 σ;have sd:=hv.sd q.1 (List.mem_of_getElem? h1);have sh:∀ σ,oIx (.tup [.int q.2.a,.int q.2.b]) (.int q.1.s) σ=.ok (.int (shr q.1.s q.2)) σ:=fun σ=>by
    unfold shr;rcases sd with h|h<;>rw[h]
    ·exact zsi (show atI _ ((0:Nat):Int)=_ from zob rfl)
    ·exact zsi (show atI _ ((1:Nat):Int)=_ from zob rfl)
   rw[eq];simp only[Option.map_some,Option.getD_some];generalize D.lst (q.1.st.map St.D)=SL at *;generalize D.lst (v.ps.map Po.D)=PL at *;generalize D.tup [.int q.2.a,.int q.2.b]=SH at *;generalize q.1.D=PD at *;generalize q.2.D=QD at *;generalize cD cs=CC at *;generalize v.D=VD at *;generalize (k:Int)=K at *;simp[j3,x1',x2',x3',p0,p1,t1,sh]) (fun _ _=>by simp)
 have e1:((List.range cs.length).map fun(k:Nat)=>D.int (((chS v.ps cs)[k]?.map fun q=>shr q.1.s q.2).getD 0))=((chS v.ps cs).map fun q=>shr q.1.s q.2).map D.int:=by
  apply List.ext_getElem?;intro k;rw[List.getElem?_map,List.getElem?_map,List.getElem?_map];by_cases hk:k<cs.length
  ·have hq:(chS v.ps cs)[k]?=some (chS v.ps cs)[k]:=List.getElem?_eq_getElem (by omega);rw[List.getElem?_range hk,Option.map_some,hq];rfl
  ·rw[List.getElem?_eq_none_iff.mpr (by simp;omega),List.getElem?_eq_none_iff.mpr (by omega)];rfl
 rw[e1]at l;have o:=znh ((chS v.ps cs).map fun q=>shr q.1.s q.2) σ;rw[show ((chS v.ps cs).map fun q=>shr q.1.s q.2).sum=own (chS v.ps cs)from rfl]at o;generalize D.lst (((chS v.ps cs).map fun q=>shr q.1.s q.2).map D.int)=IL at *;simp[l,o,-zpb]
noncomputable abbrev leT:Ev->M Fl:=(yk0 3 (eFn 2 f__law_ties [] (ycc (yik 0) (ycc (yik 2) yhq))))
noncomputable abbrev leO:Ev->M Fl:=(yk0 4 (ycz yj5 (ycc (yie (eLC (yk5 (ycz yjy (ycc (yik 2) yhq))) [2,0] (tgN 0) ycf (yid oIx (yid oIx (yid oIx (yid oIx (yid oIx (yid oIx (yik 2) (eC (.int 3))) (yik 0)) (eC (.int 1))) (yid oIx (yik 1) (yik 0))) (eC (.int 1))) (yid oIx (yid oIx (yid oIx (yik 2) (eC (.int 3))) (yik 0)) (eC (.int 0)))))) yhq)))
noncomputable abbrev leW:Ev->M Fl:=(ykv (yk5 (eC (.int 7))) (tgN 5) lwB)
noncomputable abbrev leE:Ev->M Fl:=(sIf (bOr (eT (yid yjx (yik 1) (eC .non))) (eT (yid oLt (yik 4) (yik 1)))) (yk0 1 (yik 4)) ykw)
noncomputable abbrev leB:Ev->M Fl:=ykz leT (ykz leO (ykz leW leE))
def mnO(b:Option Int)(t:Int):Int:=match b with
 |none=>t
 |some x=>if t<x then t else x
theorem zrf(v:Vw)(hv:v.Ok)(cs:List Int)(hlc:cs.length=v.ps.length)(hp:plB v.ps cs=true)(b:Option Int)(x3 x4 x5 x6:Option D)(σ:Sto):∃ y3 y4 y5 y6,
  leB [some v.D,some (oD b),some (cD cs),x3,x4,x5,x6] σ=.ok (.nx [some v.D,some (oD (some (mnO b (tot v cs)))),some (cD cs),y3,y4,y5,y6]) σ:=by
 have hm:=zos hp;have hA:=zu8 v (chS v.ps cs) (fun q hq=>hv.ok q.1 (hm q hq).1 q.2 (hm q hq).2);have hc3:=zor v.ps cs;have n3:=hv.n3;have e1:=zuy v hv cs hlc hp σ;have e2:=zrl v hv cs hlc hp (some (oD b)) (some (.lst ((AT v (chS v.ps cs)).map Tc.L))) x4 x5 x6 σ;obtain⟨y5,y6,e3⟩:=zrp v (AT v (chS v.ps cs)) (by omega) (some (oD b)) (some (cD cs)) σ 7 0 (own (chS v.ps cs)) x5 x6;rw[<-zhv,zuz v hv hp]at e3;have r7:∀ σ,ykn (.int 7) σ=.ok (.seq (yas 7)) σ:=fun σ=>yko 7 (by omega) σ;refine⟨some (.lst ((AT v (chS v.ps cs)).map Tc.L)),some (.int (tot v cs)),y5,y6,?_⟩;have s1:leT [some v.D,some (oD b),some (cD cs),x3,x4,x5,x6] σ=.ok (.nx [some v.D,some (oD b),some (cD cs),some (.lst ((AT v (chS v.ps cs)).map Tc.L)),x4,x5,x6]) σ:=by
  unfold leT;rw[show cD cs=.lst (cs.map D.int)from rfl];generalize D.lst ((AT v (chS v.ps cs)).map Tc.L)=AL at *;generalize D.lst (cs.map D.int)=CC at *;generalize v.D=VD at *;simp[e1]
 have s2:leO [some v.D,some (oD b),some (cD cs),some (.lst ((AT v (chS v.ps cs)).map Tc.L)),x4,x5,x6] σ=.ok (.nx [some v.D,some (oD b),some (cD cs),some (.lst ((AT v (chS v.ps cs)).map Tc.L)),some (.int (own (chS v.ps cs))),x5,x6]) σ:=by
  unfold leO;rw[ztx,e2];rfl
 have s3:leW [some v.D,some (oD b),some (cD cs),some (.lst ((AT v (chS v.ps cs)).map Tc.L)),some (.int (own (chS v.ps cs))),x5,x6] σ=.ok (.nx [some v.D,some (oD b),some (cD cs),some (.lst ((AT v (chS v.ps cs)).map Tc.L)),some (.int (tot v cs)),y5,y6]) σ:=by
  unfold leW;generalize lwB=B at *;generalize D.lst ((AT v (chS v.ps cs)).map Tc.L)=AL at *;generalize yas 7=RG at *;simp[r7,e3]
 have s4:leE [some v.D,some (oD b),some (cD cs),some (.lst ((AT v (chS v.ps cs)).map Tc.L)),some (.int (tot v cs)),y5,y6] σ=.ok (.nx [some v.D,some (oD (some (mnO b (tot v cs)))),some (cD cs),some (.lst ((AT v (chS v.ps cs)).map Tc.L)),some (.int (tot v cs)),y5,y6]) σ:=by
  unfold leE mnO;generalize D.lst ((AT v (chS v.ps cs)).map Tc.L)=AL at *;generalize tot v cs=TT at *;cases b with
  |none=>simp[oD]
  |some x=>
   cases h:decide (TT<x)with
   |true=>
    have h':TT<x:=by simpa using h
    simp only[if_pos h'];simp[oD,h]
   |false=>
    have h':¬ TT<x:=by simpa using h
    simp only[if_neg h'];simp[oD,h]
 unfold leB;generalize leT=F1 at *;generalize leO=F2 at *;generalize leW=F3 at *;generalize leE=F4 at *;simp[s1,s2,s3,s4]
def yh2(v:Vw):List (List Int)->Option Int->Option Int
 |[],b=>b
 |c::cs,b=>yh2 v cs (some (mnO b (tot v c)))
theorem zre(v:Vw)(hv:v.Ok)(σ:Sto):∀ (css:List (List Int)) (b:Option Int) (x2 x3 x4 x5 x6:Option D),(∀ c∈css,c.length=v.ps.length/\plB v.ps c=true)->∃ y2 y3 y4 y5 y6,
  yjc (tgN 2) leB (css.map cD) [some v.D,some (oD b),x2,x3,x4,x5,x6] σ=.ok (.nx [some v.D,some (oD (yh2 v css b)),y2,y3,y4,y5,y6]) σ
 |[],b,x2,x3,x4,x5,x6,_=>⟨x2,x3,x4,x5,x6,by simp[yh2]⟩
 |c::css,b,x2,x3,x4,x5,x6,hc=>by
  obtain⟨h1,h2⟩:=hc c List.mem_cons_self;obtain⟨y3,y4,y5,y6,e1⟩:=zrf v hv c h1 h2 b x3 x4 x5 x6 σ;obtain⟨z2,z3,z4,z5,z6,e2⟩:=zre v hv σ css (some (mnO b (tot v c))) (some (cD c)) y3 y4 y5 y6 fun d hd=>hc d (List.mem_cons_of_mem _ hd);refine⟨z2,z3,z4,z5,z6,?_⟩;rw[List.map_cons,zll];simp only[List.set_cons_succ,List.set_cons_zero];rw[e1,zoj,zlj,e2];rfl
theorem zol(v:Vw)(m:Int):∀ (css:List (List Int)) (b:Option Int),(∀ c∈css,m<=tot v c)->(∀ x,b=some x->m<=x)->(b=some m\/∃ c∈css,tot v c=m)->yh2 v css b=some m
 |[],b,_,_,h=>by
  rcases h with h|⟨c,hc,_⟩
  ·exact h
  ·cases hc
 |c::css,b,h1,h2,h3=>by
  have hc:=h1 c List.mem_cons_self;refine zol v m css _ (fun d hd=>h1 d (List.mem_cons_of_mem _ hd)) (fun x hx=>?_) ?_
  ·have hx:=Option.some.inj hx;rw[<-hx];unfold mnO;cases b with
   |none=>exact hc
   |some y=>
    have:=h2 y rfl;dsimp only;split<;>omega
  ·rcases h3 with h|⟨d,hd,e⟩
   ·left;rw[h];unfold mnO;dsimp only;rw[if_neg (by omega)]
   ·rcases List.mem_cons.mp hd with rfl|hd
    ·left;unfold mnO;cases b with
     |none=>rw[e]
     |some y=>
      have:=h2 y rfl;dsimp only;split
      ·rw[e]
      ·congr 1;omega
    ·exact .inr ⟨d,hd,e⟩
theorem zld(v:Vw)(hv:v.Ok)(hf:v.Few){c:List Int}(hb:Best v c)(σ:Sto):f__law_least [v.D] σ=.ok (.int (tot v c)) σ:=by
 obtain⟨y2,y3,y4,y5,y6,e⟩:=zre v hv σ (lpl v) none none none none none none (fun c hc=>(zrt v c).mp hc);rw[zol v (tot v c) (lpl v) none (fun d hd=>hb.le d ((zrt v d).mp hd).1 ((zrt v d).mp hd).2) (fun x h=>by cases h) (.inr ⟨c,(zrt v c).mpr ⟨hb.len,hb.pl⟩,rfl⟩)]at e;have lc:=fun σ=>zds v hv hf σ;have j3:=fun σ=>v.j3 σ;unfold leB leT leO leW leE lwB at e;unfold f__law_least zcv;rw[show oD (none:Option Int)=.non from rfl,show oD (some (tot v c))=.int (tot v c)from rfl]at e;generalize (lpl v).map cD=CL at *;generalize D.lst (v.ps.map Po.D)=PL at *;generalize v.D=VD at *;simp[j3,lc,e]
theorem yfu{σ:Sto}{n:Nat}{l:List (Int × Int)}(h:σ[n]?=some (.dic (kvI l))):yib σ (.ref n)=some (kvI l):=by unfold yib;simp only[h]
theorem zt7{σ:Sto}{n:Nat}{l:List (Int × Int)}(h:σ[n]?=some (.dic (kvI l)))(w x:Int)(hl:l.length<900)(ρ:Ev):yf3 ρ (.int x) (.ref n) (.int w) σ=.ok (.nx ρ) (σ.set n (.dic (kvI (yka l w x)))):=by
 unfold yf3;simp only[yi7,h];rw[if_pos (by unfold kvI cap;simp;omega),zht]
theorem ykl{σ:Sto}{n:Nat}{l:List (Int × Int)}(h:σ[n]?=some (.dic (kvI l))):yjp [.ref n] σ=.ok (shD l) σ:=by
 unfold yjp;simp only[yfu h];unfold shD kvI;simp[Function.comp_def]
theorem zo2(l:List (Int × Int))(σ:Sto):yey [shD l] σ=.ok (.ref σ.length) (σ++[.dic (kvI l)]):=by
 unfold yey;simp only[zo1]
theorem zfw{σ:Sto}{n:Nat}{xs:List D}(h:yee σ n=some xs)(hl:xs.length<1000)(d:D):zr8 (.ref n) [d] σ=.ok .non (σ.set n (.lst (xs++[d]))):=by
 unfold zr8;simp only[h];rw[if_pos (show xs.length<cap from hl)]
theorem yen{σ:Sto}{n:Nat}{xs:List D}(h:yee σ n=some xs)(o:D->List D->M D)(m:M (List D)):yem o m (.ref n) σ=(m σ).bind (o (.ref n)):=zlq (xs:=xs) h
theorem lcW{α β:Type}{nx:Src}{n:Nat}{tg:D->Ev->Option Ev}{fi:Ev->M Bool}{fe:Ev->M D}(xs:List α)(f:α->D)(E:Nat->β->Ev)(Sg:Nat->Sto)
  (hS:∀ i,i<=xs.length->nx.nx i (Sg i)=some ((xs.map f)[i]?))
  (step:∀ i x b,xs[i]?=some x->∃ b' y σ1,tg (f x) (E i b)=some (E (i+1) b')/\fi (E (i+1) b') (Sg i)=.ok true (Sg i)/\fe (E (i+1) b') (Sg i)=.ok y σ1/\zr8 (.ref n) [y] σ1=.ok .non (Sg (i+1))) :
  ∀ (r:List α) (i k:Nat) (b:β),xs.drop i=r->i<=xs.length->r.length<k->zyo nx n tg fi fe k i (E i b) (Sg i)=.ok () (Sg xs.length):=by
 intro r;induction r with
 |nil=>
  intro i k b hd hi hk;obtain⟨h0,e⟩:=zjf hd hi;obtain⟨k,rfl⟩:∃ k',k=k'+1:=⟨k - 1,by simp at hk;omega⟩
  have hn:=hS i hi;rw[List.getElem?_map,h0]at hn;unfold zyo;simp only[hn,Option.map_none];rw[e]
 |cons x r ih=>
  intro i k b hd hi hk;obtain⟨hx,hd2⟩:=zo8 hd;have hi2:=(List.getElem?_eq_some_iff.mp hx).1;obtain⟨k,rfl⟩:∃ k',k=k'+1:=⟨k - 1,by simp at hk;omega⟩
  simp only[List.length_cons]at hk;have hn:=hS i hi;rw[List.getElem?_map,hx]at hn;obtain⟨b',y,σ1,t1,t2,t3,t4⟩:=step i x b hx;unfold zyo;simp only[hn,Option.map_some,t1];rw[zvp,zy4 t2,zoj];rw[if_pos rfl,zvp,zy4 t3,zoj,zvp,t4,zoj];exact ih (i+1) k b' hd2 (by omega) (by omega)
abbrev Go:=List (List D × List (Int × Int))
def gob(g:List D × List (Int × Int)):Sto:=[.lst g.1,.dic (kvI g.2)]
def obs(G:Go):Sto:=G.flatMap gob
theorem zsn:∀ G:Go,(obs G).length=2 * G.length
 |[]=>rfl
 |g::G=>by
  have:=zsn G;unfold obs at *;rw[List.flatMap_cons,List.length_append,this];simp[gob];omega
theorem ye8:∀ (G:Go) (k:Nat),(obs G)[2 * k]?=G[k]?.map fun g=>.lst g.1
 |[],k=>by simp[obs]
 |g::G,0=>by simp[obs,gob]
 |g::G,k+1=>by
  have:=ye8 G k;unfold obs at *;rw[List.flatMap_cons,show 2 * (k+1)=2 * k+2 by omega];simp only[gob,List.cons_append,List.nil_append,List.getElem?_cons_succ];exact this
theorem ye9:∀ (G:Go) (k:Nat),(obs G)[2 * k+1]?=G[k]?.map fun g=>.dic (kvI g.2)
 |[],k=>by simp[obs]
 |g::G,0=>by simp[obs,gob]
 |g::G,k+1=>by
  have:=ye9 G k;unfold obs at *;rw[List.flatMap_cons,show 2 * (k+1)+1=2 * k+1+2 by omega];simp only[gob,List.cons_append,List.nil_append,List.getElem?_cons_succ];exact this
theorem zze:∀ (G:Go) (k:Nat) (g:List D × List (Int × Int)) (z:List D),G[k]?=some g->(obs G).set (2 * k) (.lst z)=obs (G.set k (z,g.2))
 |[],k,_,_,h=>by simp at h
 |g0::G,0,g,z,h=>by
  have:g0=g:=by simpa using h
  subst this;simp[obs,gob]
 |g0::G,k+1,g,z,h=>by
  have:=zze G k g z (by simpa using h);unfold obs at *;rw[List.set_cons_succ,List.flatMap_cons,List.flatMap_cons,show 2 * (k+1)=2 * k+2 by omega];simp only[gob,List.cons_append,List.nil_append,List.set_cons_succ];rw[<-this]
theorem zzf:∀ (G:Go) (k:Nat) (g:List D × List (Int × Int)) (l:List (Int × Int)),G[k]?=some g->(obs G).set (2 * k+1) (.dic (kvI l))=obs (G.set k (g.1,l))
 |[],k,_,_,h=>by simp at h
 |g0::G,0,g,l,h=>by
  have:g0=g:=by simpa using h
  subst this;simp[obs,gob]
 |g0::G,k+1,g,l,h=>by
  have:=zzf G k g l (by simpa using h);unfold obs at *;rw[List.set_cons_succ,List.flatMap_cons,List.flatMap_cons,show 2 * (k+1)+1=2 * k+1+2 by omega];simp only[gob,List.cons_append,List.nil_append,List.set_cons_succ];rw[<-this]
def rw3(k:Nat)(p:Po):D:=.tup [.int p.s,.ref (2+2 * k),.ref (3+2 * k)]
def ykq(P:List Po):List D:=P.zipIdx.map fun q=>rw3 q.2 q.1
theorem zms(P:List Po):(ykq P).length=P.length:=by unfold ykq;simp
theorem zh0(P:List Po)(p:Po):ykq (P++[p])=ykq P++[rw3 P.length p]:=by
 unfold ykq;rw[List.zipIdx_append];simp
def gP(P:List Po):Go:=P.map fun p=>(p.st.map St.D,p.sn)
def HS(ws rows:List D)(G:Go):Sto:=.lst ws::.lst rows::obs G
theorem zvc(ws rows:List D)(G:Go):(HS ws rows G).length=2+2 * G.length:=by unfold HS;simp[zsn];omega
theorem yg2(ws rows:List D)(G:Go)(j:Sto):yee (HS ws rows G++j) 0=some ws:=rfl
theorem yg3(ws rows:List D)(G:Go)(j:Sto):yee (HS ws rows G++j) 1=some rows:=rfl
theorem yg5(ws rows:List D){G:Go}{k:Nat}{g:List D × List (Int × Int)}(h:G[k]?=some g)(j:Sto):yee (HS ws rows G++j) (2+2 * k)=some g.1:=by
 have hk:=(List.getElem?_eq_some_iff.mp h).1;have e:(HS ws rows G++j)[2+2 * k]?=some (.lst g.1):=by
  unfold HS;rw[show 2+2 * k=2 * k+1+1 by omega];simp only[List.cons_append,List.getElem?_cons_succ];rw[List.getElem?_append_left (by rw[zsn];omega),ye8,h];rfl
 unfold yee;rw[e]
theorem yg4(ws rows:List D){G:Go}{k:Nat}{g:List D × List (Int × Int)}(h:G[k]?=some g)(j:Sto):(HS ws rows G++j)[3+2 * k]?=some (.dic (kvI g.2)):=by
 have hk:=(List.getElem?_eq_some_iff.mp h).1;unfold HS;rw[show 3+2 * k=2 * k+1+1+1 by omega];simp only[List.cons_append,List.getElem?_cons_succ];rw[List.getElem?_append_left (by rw[zsn];omega),ye9,h];rfl
theorem yb0(ws rows:List D){G:Go}{k:Nat}{g:List D × List (Int × Int)}(h:G[k]?=some g)(z:List D)(j:Sto):(HS ws rows G++j).set (2+2 * k) (.lst z)=HS ws rows (G.set k (z,g.2))++j:=by
 have hk:=(List.getElem?_eq_some_iff.mp h).1;unfold HS;rw[show 2+2 * k=2 * k+1+1 by omega];simp only[List.cons_append,List.set_cons_succ];rw[List.set_append_left _ _ (by rw[zsn];omega),zze G k g z h]
theorem ybz(ws rows:List D){G:Go}{k:Nat}{g:List D × List (Int × Int)}(h:G[k]?=some g)(l:List (Int × Int))(j:Sto):(HS ws rows G++j).set (3+2 * k) (.dic (kvI l))=HS ws rows (G.set k (g.1,l))++j:=by
 have hk:=(List.getElem?_eq_some_iff.mp h).1;unfold HS;rw[show 3+2 * k=2 * k+1+1+1 by omega];simp only[List.cons_append,List.set_cons_succ];rw[List.set_append_left _ _ (by rw[zsn];omega),zzf G k g l h]
noncomputable abbrev hcE:Ev->M D:=yij (ycc (yik 0) (ycc (ycz ye4 (ycc (yik 1) yhq)) (ycc (ycz yey (ycc (yik 2) yhq)) yhq)))
theorem zqh{P:List Po}{i:Nat}{p:Po}(h:P[i]?=some p):gP (P.take (i+1))=gP (P.take i)++[(p.st.map St.D,p.sn)]:=by
 unfold gP;rw[List.take_add_one,h];simp
theorem ydt(v:Vw)(h3:v.ps.length<=3)(ws:List D)(r:List (Option D)):yig (yk6 (yid oIx (yik 1) (eC (.int 3)))) [] (tgT 3 (ybh (tgN 0) (ybh (tgN 1) (ybh (tgN 2) ygf)))) ycf hcE (r.head!::some v.D::r.tail) [.lst ws]=.ok (.ref 1) (HS ws (ykq v.ps) (gP v.ps)):=by
 have j3:=fun σ=>v.j3 σ;have sr:yk6 (yid oIx (yik 1) (eC (.int 3))) (r.head!::some v.D::r.tail) [.lst ws]=.ok (.seq (v.ps.map Po.D)) [.lst ws]:=by
  generalize v.D=VD at *;simp[j3]
 have lp:=lcW (nx:=.seq (v.ps.map Po.D)) (n:=1) (tg:=tgT 3 (ybh (tgN 0) (ybh (tgN 1) (ybh (tgN 2) ygf)))) (fi:=ycf) (fe:=hcE) v.ps Po.D (fun _ (b:Option D × Option D × Option D)=>[b.1,b.2.1,b.2.2]) (fun i=>HS ws (ykq (v.ps.take i)) (gP (v.ps.take i))) (fun _ _=>rfl) (fun i p b hx=>by
  have hi:=(List.getElem?_eq_some_iff.mp hx).1;have hl:(v.ps.take i).length=i:=by rw[List.length_take];omega
  have hsl:(HS ws (ykq (v.ps.take i)) (gP (v.ps.take i))).length=2+2 * i:=by rw[zvc];unfold gP;rw[List.length_map,hl]
  refine⟨(some (.int p.s),some (.lst (p.st.map St.D)),some (shD p.sn)),rw3 i p,HS ws (ykq (v.ps.take i)) (gP (v.ps.take i))++[.lst (p.st.map St.D)]++[.dic (kvI p.sn)],rfl,rfl,?_,?_⟩
  ·have o1:ye4 [.lst (p.st.map St.D)] (HS ws (ykq (v.ps.take i)) (gP (v.ps.take i)))=.ok (.ref (2+2 * i)) (HS ws (ykq (v.ps.take i)) (gP (v.ps.take i))++[.lst (p.st.map St.D)]):=by
    rw[<-hsl];rfl
   have o2:=zo2 p.sn (HS ws (ykq (v.ps.take i)) (gP (v.ps.take i))++[.lst (p.st.map St.D)]);rw[List.length_append,hsl,show 2+2 * i+[Ob.lst (p.st.map St.D)].length=3+2 * i by simp;omega]at o2;unfold hcE rw3;generalize (HS ws (ykq (v.ps.take i)) (gP (v.ps.take i))++[.lst (p.st.map St.D)]++[.dic (kvI p.sn)])=σ2 at *;generalize (HS ws (ykq (v.ps.take i)) (gP (v.ps.take i))++[.lst (p.st.map St.D)])=σ1 at *;generalize HS ws (ykq (v.ps.take i)) (gP (v.ps.take i))=σ0 at *;generalize D.lst (p.st.map St.D)=SL at *;generalize shD p.sn=SN at *;simp[o1,o2]
  ·rw[List.append_assoc];rw[zfw (yg3 _ _ _ _) (by rw[zms,hl];omega) (rw3 i p)];have e1:ykq (v.ps.take (i+1))=ykq (v.ps.take i)++[rw3 i p]:=by
    rw[List.take_add_one,hx,Option.toList_some,zh0,hl]
   rw[e1,zqh hx];unfold HS obs;rw[List.flatMap_append];simp[gob]) v.ps 0 1001 (none,none,none) rfl (by omega) (by omega)
 rw[List.take_length]at lp;unfold yig;rw[zvp,sr,zoj];show bnd (zyo (.seq (v.ps.map Po.D)) 1 _ ycf hcE 1001 0 [none,none,none]) _ ([.lst ws]++[.lst []])=_;rw[zvp];rw[show zyo (.seq (v.ps.map Po.D)) 1 (tgT 3 (ybh (tgN 0) (ybh (tgN 1) (ybh (tgN 2) ygf)))) ycf hcE 1001 0 [none,none,none] ([.lst ws]++[.lst []])=.ok () (HS ws (ykq v.ps) (gP v.ps))from lp];rfl
theorem zii(v:Vw)(h3:v.ps.length<=3)(σ:Sto)(j0:Sto)(hσ:σ=HS (v.ws.map D.int) (ykq v.ps) (gP v.ps)++j0):f_View___init__ [.ref σ.length,.int v.e,.int v.k,.ref 0,.ref 1] (σ++[.ins 0 []])=.ok .non (σ++[.ins 0 [("every",.int v.e),("last_look",.int v.k),("known",.lst (v.ws.map D.int)),("pots",.lst (v.ps.map Po.D))]]):=by
 have pu:=fun(f:Str) (w:D) (fs:List (Str × D)) (hl:fs.length<1000)=>zhu (ρ:=[some (.ref σ.length),some (.int v.e),some (.int v.k),some (.ref 0),some (.ref 1)]) (σ:=σ) (cs:=[0]) (f:=f) (d:=w) (c:=0) (fs:=fs) rfl hl;have fr:∀ (n:Nat) (xs:List D) (σ:Sto),yee σ n=some xs->clL xs=true->yis σ (ye4 [.ref n] σ)=.ok (.lst xs) σ:=fun n xs σ hn h=>by
  rw[show ye4 [.ref n] σ=.ok (.ref σ.length) (σ++[.lst xs]) by
   unfold ye4;dsimp only;rw[show yf0 σ (.ref n)=some xs from hn];rfl]
  exact zp4 h
 have hw:clL (v.ws.map D.int)=true:=zou fun _=>by simp
 have f2:=fr 0 (v.ws.map D.int) (σ++[.ins 0 [("every",.int v.e),("last_look",.int v.k)]]) (by rw[hσ];rfl) hw;have l:=lcS (xs:=v.ps.zipIdx) (ix:=[]) (nx:=.lref 1) (ρ:=[some (.ref σ.length),some (.int v.e),some (.int v.k),some (.ref 0),some (.ref 1)]) (σ:=σ++[.ins 0 [("every",.int v.e),("last_look",.int v.k),("known",.lst (v.ws.map D.int))]]) (src:=yk6 (yik 4)) (fi:=ycf) (fe:=yij (ycc (yid oIx (yik 0) (eC (.int 0))) (ycc (yie (ycz ye4 (ycc (yid oIx (yik 0) (eC (.int 1))) yhq))) (ycc (ycz yjp (ycc (yid oIx (yik 0) (eC (.int 2))) yhq)) yhq))))
  (fun q=>rw3 q.2 q.1) (fun _=>true) (fun q=>q.1.D) (by
   have:yfz (.ref 1) (σ++[.ins 0 [("every",.int v.e),("last_look",.int v.k),("known",.lst (v.ws.map D.int))]])=.ok (.lref 1) (σ++[.ins 0 [("every",.int v.e),("last_look",.int v.k),("known",.lst (v.ws.map D.int))]]):=by rw[hσ];rfl
   simp[this]) (fun i j=>by rw[hσ];rfl) (by simp;omega) (fun q hq j=>⟨rfl,fun _=>by
   obtain⟨i,hi⟩:=List.getElem?_of_mem hq;rw[List.getElem?_zipIdx]at hi;cases ep:v.ps[i]? with
   |none=>rw[ep]at hi;cases hi
   |some p=>
    rw[ep]at hi;have hi:=Option.some.inj hi;rw[Nat.zero_add]at hi;subst hi;dsimp only;have eg:(gP v.ps)[i]?=some (p.st.map St.D,p.sn):=by unfold gP;rw[List.getElem?_map,ep];rfl
    have dc:yjp [.ref (3+2 * i)] (σ++[.ins 0 [("every",.int v.e),("last_look",.int v.k),("known",.lst (v.ws.map D.int))]]++j)=.ok (shD p.sn) (σ++[.ins 0 [("every",.int v.e),("last_look",.int v.k),("known",.lst (v.ws.map D.int))]]++j):=ykl (by
     rw[hσ,List.append_assoc,List.append_assoc];exact yg4 _ _ eg _)
    have hs:clL (p.st.map St.D)=true:=zou fun _=>by simp
    have f1:=fr (2+2 * i) (p.st.map St.D) (σ++[.ins 0 [("every",.int v.e),("last_look",.int v.k),("known",.lst (v.ws.map D.int))]]++j) (by
     rw[hσ,List.append_assoc,List.append_assoc];exact yg5 _ _ eg _) hs
    unfold rw3 Po.D;generalize p.st.map St.D=SL at *;generalize shD p.sn=SN at *;generalize (σ++[.ins 0 [("every",.int v.e),("last_look",.int v.k),("known",.lst (v.ws.map D.int))]]++j)=σ1 at *;simp[dc,f1]⟩) (fun q _=>by simp)
 rw[show v.ps.zipIdx.filter (fun _=>true)=v.ps.zipIdx from List.filter_eq_self.mpr fun _ _=>rfl,show (v.ps.zipIdx.map fun q=>q.1.D)=v.ps.map Po.D by
  rw[show (fun q:Po × Nat=>q.1.D)=Po.D ∘ Prod.fst from rfl,<-List.map_map,List.zipIdx_map_fst]]at l
 have p1:yj9 "every" (.int v.e) ([]:List (Str × D))=([("every",.int v.e)]:List (Str × D)):=rfl;have p2:∀ a b:D,yj9 "last_look" b ([("every",a)]:List (Str × D))=([("every",a),("last_look",b)]:List (Str × D)):=fun _ _=>rfl;have p3:∀ a b c:D,yj9 "known" c ([("every",a),("last_look",b)]:List (Str × D))=([("every",a),("last_look",b),("known",c)]:List (Str × D)):=fun _ _ _=>rfl;have p4:∀ a b c d:D,yj9 "pots" d ([("every",a),("last_look",b),("known",c)]:List (Str × D))=([("every",a),("last_look",b),("known",c),("pots",d)]:List (Str × D)):=fun _ _ _ _=>rfl;unfold f_View___init__ zau;generalize v.ps.map Po.D=PS at *;generalize v.ws.map D.int=WS at *;generalize D.int v.e=E at *;generalize D.int v.k=K at *;have g1:∀ ρ σ,yie (ycz ye4 (ycc (yik 3) yhq)) ρ σ=yis σ (ycz ye4 (ycc (yik 3) yhq) ρ σ):=fun _ _=>rfl;simp[pu,p1,p2,p3,p4,f2,l,g1,-zpb]
theorem zij(v:Vw)(h3:v.ps.length<=3)(σ j0:Sto)(hσ:σ=HS (v.ws.map D.int) (ykq v.ps) (gP v.ps)++j0):yis σ (yel 0 5 f_View___init__ [.int v.e,.int v.k,.ref 0,.ref 1] σ)=.ok v.O σ:=by
 have hw:clL (v.ws.map D.int)=true:=zou fun _=>by simp
 have hp:clL (v.ps.map Po.D)=true:=zou fun _=>by simp
 rw[zln (n:=5) rfl,zii v h3 σ j0 hσ,zlw,zkg (by simp[hw,hp])];rfl
def Pr{α β:Type}(R:α->β->Prop):List α->List β->Prop
 |[],[]=>True
 |a::as,b::bs=>R a b/\Pr R as bs
 |_,_=>False
theorem zfu:∀ {ns ns':List Nat} {a a':Nat},ygy ns a->Pr (fun n n'=>n'<=n) ns ns'->a'<=a->ygy ns' a'
 |[],[],a,a',h,_,ha=>Nat.le_trans ha h
 |n::ns,n'::ns',a,a',h,hp,ha=>⟨Nat.le_trans ha h.1,zfu h.2 hp.2 (Nat.mul_le_mul ha hp.1)⟩
 |[],_::_,_,_,_,hp,_=>hp.elim
 |_::_,[],_,_,_,hp,_=>hp.elim
theorem yae(c:Int)(i:Nat):poN c i<=2+(if i=0 then 7 else 0):=by
 unfold poN;by_cases hi:i=0
 ·subst hi;rw[if_pos rfl];split<;>split<;>(try split)<;>omega
 ·have:((i:Int) == 0)=false:=by simp;omega
  rw[this,if_neg hi];simp only[Bool.false_and,Bool.false_eq_true,if_false];split<;>(try split)<;>omega
theorem zmh(c k:Int)(i:Nat):(yj8 c k i).st.length<=(if i=0 then 10 else 3):=by
 have:=yae c i;show (_::ptL c k 0 (poN c i):List St).length<=_;unfold ptL;simp;split<;>simp_all<;>omega
theorem zu5(ns:List Int):(vwV ns).Few:=by
 unfold Vw.Few;have hn:(ycn ns 1 % 4).toNat<=3:=by omega
 show ygy (((List.range (ycn ns 1 % 4).toNat).map fun(k:Nat)=>yj8 (ycn ns (2+k)) (4+ycn ns 0 / 6 % 60) k).map fun p=>p.st.length) 1;rw[List.map_map];generalize (ycn ns 1 % 4).toNat=n at *;have h0:=zmh (ycn ns (2+0)) (4+ycn ns 0 / 6 % 60) 0;have h1:=zmh (ycn ns (2+1)) (4+ycn ns 0 / 6 % 60) 1;have h2:=zmh (ycn ns (2+2)) (4+ycn ns 0 / 6 % 60) 2;simp only[if_true,Nat.one_ne_zero,if_false]at h0 h1;rw[if_neg (by omega)]at h2;have big:ygy [10,3,3] 1:=by simp[ygy]
 have b2:ygy [10,3] 1:=by simp[ygy]
 have b1:ygy [10] 1:=by simp[ygy]
 have b0:ygy [] 1:=by simp[ygy]
 have hc:n=0\/n=1\/n=2\/n=3:=by omega
 rcases hc with rfl|rfl|rfl|rfl
 ·exact b0
 ·exact zfu b1 ⟨h0,trivial⟩ (Nat.le_refl _)
 ·exact zfu b2 ⟨h0,h1,trivial⟩ (Nat.le_refl _)
 ·exact zfu big ⟨h0,h1,h2,trivial⟩ (Nat.le_refl _)
def yde:D->Bool
 | .non=>true | .bl _=>true | .int _=>true | .str _=>true|_=>false
def peD:Nat->D->Bool
 |0,x=>yde x
 |n+1,x=>yde x || match x with
  | .tup xs=>xs.all (peD n)
  | .lst xs=>xs.all (peD n)
  |_=>false
theorem zwq(σ:Sto)(n:Nat):∀ x,yde x=true->eqE σ (n+1) x x=some true
 | .non,_=>by simp[eqE,yib,kd,eqK,eqV]
 | .bl b,_=>by simp[eqE,yib,kd,eqK,eqV]
 | .int i,_=>by simp[eqE,yib,kd,eqK,eqV]
 | .str s,_=>by simp[eqE,yib,kd,eqK,eqV]
 | .tup _,h=>by cases h
 | .lst _,h=>by cases h
 | .dic _ _,h=>by cases h
 | .obj _ _ _,h=>by cases h
 | .exn _,h=>by cases h
 | .scr _,h=>by cases h
 | .ref _,h=>by cases h
theorem zjm(σ:Sto):∀ (n:Nat) (x:D),peD n x=true->eqE σ (n+1) x x=some true
 |0,x,h=>zwq σ 0 x h
 |n+1,x,h=>by
  unfold peD at h;rw[Bool.or_eq_true]at h;rcases h with h|h
  ·exact zwq σ (n+1) x h
  ·cases x with
   |tup xs=>
    have:eqE σ (n+1+1) (.tup xs) (.tup xs)=eqL (eqE σ (n+1)) xs xs:=rfl;rw[this];exact zjq fun x hx=>zjm σ n x (List.all_eq_true.mp h x hx)
   |lst xs=>
    have:eqE σ (n+1+1) (.lst xs) (.lst xs)=eqL (eqE σ (n+1)) xs xs:=rfl;rw[this];exact zjq fun x hx=>zjm σ n x (List.all_eq_true.mp h x hx)
   |_=>cases h
theorem zjp{α:Type}{f:D->D->Option Bool}{g h:α->D}:∀ {xs:List α},(∀ x∈xs,f (g x) (h x)=some true)->eqL f (xs.map g) (xs.map h)=some true
 |[],_=>rfl
 |x::xs,k=>by
  simp only[List.map_cons];unfold eqL;rw[k x List.mem_cons_self,zjp fun y hy=>k y (List.mem_cons_of_mem _ hy)];rfl
theorem zwp{σ:Sto}{n m:Nat}{xs ys:List D}(h:yee σ m=some xs):eqE σ (n+1) (.ref m) (.lst ys)=eqL (eqE σ n) xs ys:=by
 have h1:yib σ (.ref m)=none:=by
  unfold yee at h;unfold yib;dsimp only;cases e:σ[m]? with
  |none=>rfl
  |some o=>
   rw[e]at h;cases o with
   |lst _=>rfl
   |dic _=>cases h
   |ins _ _=>rfl
 have h2:yib σ (.lst ys)=none:=rfl;have h3:kd σ (.ref m)=.l xs:=by simp only[kd,h]
 unfold eqE;rw[h1,h2];dsimp only;rw[h3];rfl
theorem zwo{σ:Sto}{n m:Nat}{l:List (Int × Int)}(h:σ[m]?=some (.dic (kvI l))):eqE σ (n+1) (.ref m) (shD l)=some true:=by
 unfold eqE;rw[yfu h,zo1];dsimp only;have h1:yea (kvI l) (kvI l)=true:=zez fun p hp=>by
  unfold kvI at hp;obtain⟨q,_,rfl⟩:=List.mem_map.mp hp;exact⟨_,rfl⟩
 have h2:ydz (kvI l)=true:=by
  unfold ydz kvI;rw[List.all_map];exact List.all_eq_true.mpr fun _ _=>rfl
 rw[h1,h2];rfl
theorem zz5(t:Ti):peD 1 t.D=true:=rfl
theorem zme(s:St):peD 3 s.D=true:=by
 have h:(s.ts.map Ti.D).all (peD 1)=true:=by
  rw[List.all_map];exact List.all_eq_true.mpr fun t _=>zz5 t
 unfold St.D peD;simp only[List.all_cons,List.all_nil,Bool.and_true];rw[show peD 2 (.int s.n)=true from rfl,show peD 2 (.tup [.int s.a,.int s.b])=true from rfl];have h2:peD 2 (.tup (s.ts.map Ti.D))=true:=by
  unfold peD;dsimp only;rw[h,Bool.or_true]
 rw[h2];rfl
theorem zgi(v:Vw)(G:Go)(hG:G=gP v.ps)(σ:Sto)(j:Sto)(h:Nat)(hσ:σ=HS (v.ws.map D.int) (ykq v.ps) G++j)(hh:yee σ h=some [.ref 0,.ref 1]):ye6 (.ref h) (.lst [.lst (v.ws.map D.int),.lst (v.ps.map Po.D)]) σ=.ok (.bl false) σ:=by
 have e1:eqE σ 7 (.ref 0) (.lst (v.ws.map D.int))=some true:=by
  rw[zwp (by rw[hσ];rfl)];exact zjp fun x _=>zwq σ 5 (.int x) rfl
 have e2:eqE σ 7 (.ref 1) (.lst (v.ps.map Po.D))=some true:=by
  rw[zwp (xs:=ykq v.ps) (by rw[hσ];rfl)];have ez:v.ps.map Po.D=v.ps.zipIdx.map fun q=>q.1.D:=by
   rw[show (fun q:Po × Nat=>q.1.D)=Po.D ∘ Prod.fst from rfl,<-List.map_map,List.zipIdx_map_fst]
  rw[ez];refine zjp fun q hq=>?_;obtain⟨i,hi⟩:=List.getElem?_of_mem hq;rw[List.getElem?_zipIdx]at hi;cases ep:v.ps[i]? with
  |none=>rw[ep]at hi;cases hi
  |some p=>
   rw[ep]at hi;have hi:=Option.some.inj hi;rw[Nat.zero_add]at hi;subst hi;have eg:G[i]?=some (p.st.map St.D,p.sn):=by rw[hG];unfold gP;rw[List.getElem?_map,ep];rfl
   have a1:eqE σ 5 (.ref (2+2 * i)) (.lst (p.st.map St.D))=some true:=by
    rw[zwp (xs:=p.st.map St.D) (by rw[hσ];exact yg5 _ _ eg _)];exact zjq fun x hx=>by
     obtain⟨t,_,rfl⟩:=List.mem_map.mp hx;exact zjm σ 3 _ (zme t)
   have a2:eqE σ 5 (.ref (3+2 * i)) (shD p.sn)=some true:=zwo (by rw[hσ];exact yg4 _ _ eg _);have a0:eqE σ 5 (.int p.s) (.int p.s)=some true:=zwq σ 4 _ rfl;show eqL (eqE σ 5) [.int p.s,.ref (2+2 * i),.ref (3+2 * i)] [.int p.s,.lst (p.st.map St.D),shD p.sn]=some true;simp only[eqL,a0,a1,a2];rfl
 have e3:eqE σ 8 (.ref h) (.lst [.lst (v.ws.map D.int),.lst (v.ps.map Po.D)])=some true:=by
  rw[zwp hh];simp only[eqL,e1,e2];rfl
 unfold ye6;rw[e3];rfl
theorem zgc{σ:Sto}{n:Nat}{xs:List D}(h:yee σ n=some xs):zr9 (.ref n) [] σ=.ok .non (σ.set n (.lst [])):=by
 unfold zr9;simp only[h]
def GC(G:Go)(i:Nat):Go:=G.mapIdx fun j g=>if j<i then ([],yka g.2 0 0)else g
theorem yby(G:Go)(i j:Nat):(GC G i)[j]?=G[j]?.map fun g=>if j<i then ([],yka g.2 0 0)else g:=by unfold GC;rw[List.getElem?_mapIdx]
theorem yg1(G:Go):GC G 0=G:=by
 apply List.ext_getElem?;intro j;rw[yby];cases G[j]?<;>simp
theorem zvb(G:Go)(i:Nat):(GC G i).length=G.length:=by unfold GC;simp
theorem zny{G:Go}{i:Nat}{g:List D × List (Int × Int)}(h:G[i]?=some g):((GC G i).set i ([],g.2)).set i ([],yka g.2 0 0)=GC G (i+1):=by
 rw[List.set_set];apply List.ext_getElem?;intro j;rw[List.getElem?_set,yby,yby,zvb];have hi:=(List.getElem?_eq_some_iff.mp h).1;by_cases hj:i=j
 ·subst hj;rw[if_pos rfl,if_pos hi,h];simp
 ·rw[if_neg hj];cases G[j]? with
  |none=>rfl
  |some g'=>
   simp only[Option.map_some];by_cases h1:j<i
   ·rw[if_pos h1,if_pos (by omega)]
   ·rw[if_neg h1,if_neg (by omega)]
noncomputable abbrev ccB:Ev->M Fl:=(ykz (ykt (yc2 zr9 (yik 7) yhq))
 (yfw (eC (.int 0)) (yik 8) (eC (.int 0))))
theorem zvx(P:List Po)(h3:P.length<=3)(hp:∀ p∈P,p.sn.length<=60)(ws:List D)(L:Ob)(x0 x1 x2 x3 x4 x5 x6 x7 x8:Option D):∃ y6 y7 y8,
  yiq (tgT 3 (ybh (tgN 6) (ybh (tgN 7) (ybh (tgN 8) ygf)))) ccB [x0,x1,x2,x3,x4,x5,x6,x7,x8] (.lref 1) (HS ws (ykq P) (gP P)++[L])=.ok (.nx [x0,x1,x2,x3,x4,x5,y6,y7,y8]) (HS ws (ykq P) (GC (gP P) P.length)++[L]):=by
 obtain⟨⟨y6,y7,y8⟩,lp⟩:=yir (tg:=tgT 3 (ybh (tgN 6) (ybh (tgN 7) (ybh (tgN 8) ygf)))) (body:=ccB) (S:=.lref 1) P.zipIdx (fun q=>rw3 q.2 q.1) (fun _ (b:Option D × Option D × Option D)=>[x0,x1,x2,x3,x4,x5,b.1,b.2.1,b.2.2]) (fun i=>HS ws (ykq P) (GC (gP P) i)++[L]) (by simp;omega) (fun i _=>rfl) (fun i q b hx=>by
  rw[List.getElem?_zipIdx]at hx;cases ep:P[i]? with
  |none=>rw[ep]at hx;cases hx
  |some p=>
   rw[ep]at hx;have hx:=Option.some.inj hx;rw[Nat.zero_add]at hx;subst hx;refine⟨[x0,x1,x2,x3,x4,x5,some (.int p.s),some (.ref (2+2 * i)),some (.ref (3+2 * i))],(some (.int p.s),some (.ref (2+2 * i)),some (.ref (3+2 * i))),rfl,?_⟩;have hpl:=hp p (List.mem_of_getElem? ep);have eg0:(gP P)[i]?=some (p.st.map St.D,p.sn):=by unfold gP;rw[List.getElem?_map,ep];rfl
   have eg:(GC (gP P) i)[i]?=some (p.st.map St.D,p.sn):=by rw[yby,eg0];simp
   have hil:=(List.getElem?_eq_some_iff.mp eg).1;have l1:=yg5 ws (ykq P) eg [L];have me:=fun o m=>yen l1 o m;have c1:=zgc l1;rw[yb0 ws (ykq P) eg [] [L]]at c1;have eg2:((GC (gP P) i).set i ([],p.sn))[i]?=some ([],p.sn):=List.getElem?_set_self hil;have s1:=fun ρ=>zt7 (yg4 ws (ykq P) eg2 [L]) 0 0 (by show p.sn.length<900;omega) ρ;have s2:=ybz ws (ykq P) eg2 (yka p.sn 0 0) [L];have s3:=zny eg0;dsimp only at s1 s2 s3;rw[s3]at s2;rw[s2]at s1;unfold ccB;dsimp only at c1 ⊢;generalize (HS ws (ykq P) (GC (gP P) i)++[L])=σ0 at *;generalize (HS ws (ykq P) ((GC (gP P) i).set i ([],p.sn))++[L])=σ1 at *;generalize (HS ws (ykq P) (GC (gP P) (i+1))++[L])=σ2 at *;simp[me,c1,s1]) (x6,x7,x8)
 refine⟨y6,y7,y8,?_⟩;rw[List.length_zipIdx]at lp;simp only[yg1]at lp;exact lp
noncomputable abbrev lv1:Ev->M Fl:=(yk0 1 (eFn 1 f__law_view [] (ycc (yik 0) yhq)))
noncomputable abbrev lv2:Ev->M Fl:=(yk0 2 (yii (ycc (ycz ye4 (ycc (yid oIx (yik 1) (eC (.int 2))) yhq)) (ycc (yig (yk6 (yid oIx (yik 1) (eC (.int 3)))) [] (tgT 3 (ybh (tgN 0) (ybh (tgN 1) (ybh (tgN 2) ygf)))) ycf hcE) yhq))))
noncomputable abbrev lv3:Ev->M Fl:=(yk0 3 (yie (yc1 0 5 f_View___init__ (ycc (yid oIx (yik 1) (eC (.int 0))) (ycc (yid oIx (yik 1) (eC (.int 1))) (ycc (yid oIx (yik 2) (eC (.int 0))) (ycc (yid oIx (yik 2) (eC (.int 1))) yhq)))))))
noncomputable abbrev lv4:Ev->M Fl:=(yk0 4 (eFn 1 f__law_least [] (ycc (yik 1) yhq)))
noncomputable abbrev lv5:Ev->M Fl:=(yk0 5 (eFn 1 f_worth [] (ycc (yik 3) yhq)))
noncomputable abbrev lv6:Ev->M Fl:=(sIf (bOr (yhy (eT (eUn (yjw .int) (yik 5)))) (bOr (eT (eUn (yjw .bool) (yik 5))) (eT (yid oNe (yik 5) (yik 4))))) (yky (eC (.bl false))) ykw)
noncomputable abbrev lv7:Ev->M Fl:=(sIf (eT (yid ye6 (yik 2) (eLv (ycc (yid oIx (yik 1) (eC (.int 2))) (ycc (yid oIx (yik 1) (eC (.int 3))) yhq))))) (yky (eC (.bl false))) ykw)
noncomputable abbrev lv8:Ev->M Fl:=(ykv (yk6 (yid oIx (yik 2) (eC (.int 1)))) (tgT 3 (ybh (tgN 6) (ybh (tgN 7) (ybh (tgN 8) ygf)))) ccB)
noncomputable abbrev lv9:Ev->M Fl:=(ykt (yc2 zr8 (yid oIx (yik 2) (eC (.int 0))) (ycc (eC (.int 9)) yhq)))
noncomputable abbrev lvA:Ev->M Fl:=(ykt (yc2 zr9 (yid oIx (yik 2) (eC (.int 1))) yhq))
noncomputable abbrev lvB:Ev->M Fl:=(yky (yid oEq (eFn 1 f_worth [] (ycc (yik 3) yhq)) (yik 4)))
theorem yek:ydr=ykz lv1 (ykz lv2 (ykz lv3 (ykz lv4 (ykz lv5 (ykz lv6 (ykz lv7 (ykz lv8 (ykz lv9 (ykz lvA lvB))))))))):=nr rfl
theorem zud(M k:Int):∀ (m i:Nat) (l:List (Int × Int)),(snL M k m i l).length<=l.length+m
 |0,_,l=>Nat.le_refl _
 |m+1,i,l=>by
  have h1:=zud M k m (i+1) (snT M k l i);have h2:(snT M k l i).length<=l.length+1:=by
   unfold snT;split
   ·exact zmk ..
   ·omega
  show (snL M k m (i+1) (snT M k l i)).length<=_;omega
theorem law_true(ns:List Int)(hns:ns.length<=63):∃ σ,f_law [.scr ns] []=.ok (.bl true) σ:=by
 have hv:=ybr ns;have hf:=zu5 ns;have hpl:∀ p∈(vwV ns).ps,p.sn.length<=60:=fun p hp=>by
  obtain⟨j,_,rfl⟩:=List.mem_map.mp hp;have:=zud (yjk (ycn ns (2+j)) 5) (4+ycn ns 0 / 6 % 60) 7 0 [];show (snL (yjk (ycn ns (2+j)) 5) (4+ycn ns 0 / 6 % 60) 7 0 []).length<=60;simp at this;omega
 have hwl:(vwV ns).ws.length<=7:=by
  show (((List.range 7).filter _).map _).length<=7;rw[List.length_map];exact Nat.le_trans (List.length_filter_le _ _) (by simp)
 have e1:=fun σ=>zu4 ns σ;generalize vwV ns=v at *;have n3:=hv.n3;obtain⟨c,hb,w⟩:=znv v hv hf;have le:=fun σ=>zld v hv hf hb σ;have j0:=fun σ=>v.j0 σ;have j1:=fun σ=>v.j1 σ;have j2:=fun σ=>v.j2 σ;have j3:=fun σ=>v.j3 σ;have hgl:(gP v.ps).length=v.ps.length:=by unfold gP;simp
 have hN:(HS (v.ws.map D.int) (ykq v.ps) (gP v.ps)).length=2+2 * v.ps.length:=by rw[zvc,hgl]
 have hN2:(HS (v.ws.map D.int) (ykq v.ps) (GC (gP v.ps) v.ps.length)).length=2+2 * v.ps.length:=by rw[zvc,zvb,hgl]
 have hh:yee (HS (v.ws.map D.int) (ykq v.ps) (gP v.ps)++[.lst [.ref 0,.ref 1]]) (2+2 * v.ps.length)=some [.ref 0,.ref 1]:=by rw[<-hN];exact zg8 _
 have hh2:yee (HS (v.ws.map D.int) (ykq v.ps) (GC (gP v.ps) v.ps.length)++[.lst [.ref 0,.ref 1]]) (2+2 * v.ps.length)=some [.ref 0,.ref 1]:=by rw[<-hN2];exact zg8 _
 have hh3:yee (HS (v.ws.map D.int++[.int 9]) (ykq v.ps) (GC (gP v.ps) v.ps.length)++[.lst [.ref 0,.ref 1]]) (2+2 * v.ps.length)=some [.ref 0,.ref 1]:=by
  have:(HS (v.ws.map D.int++[.int 9]) (ykq v.ps) (GC (gP v.ps) v.ps.length)).length=2+2 * v.ps.length:=by rw[zvc,zvb,hgl]
  rw[<-this];exact zg8 _
 have ix0:∀ (σ:Sto) (n:Nat),yee σ n=some [.ref 0,.ref 1]->oIx (.ref n) (.int 0) σ=.ok (.ref 0) σ:=fun σ n h=>by
  have h1:yf0 σ (.ref n)=some [.ref 0,.ref 1]:=h;simp[oIx,h1,show atI [D.ref 0,D.ref 1] 0=some (.ref 0)from(show atI _ ((0:Nat):Int)=_ from zob rfl)]
 have ix1:∀ (σ:Sto) (n:Nat),yee σ n=some [.ref 0,.ref 1]->oIx (.ref n) (.int 1) σ=.ok (.ref 1) σ:=fun σ n h=>by
  have h1:yf0 σ (.ref n)=some [.ref 0,.ref 1]:=h;simp[oIx,h1,show atI [D.ref 0,D.ref 1] 1=some (.ref 1)from(show atI _ ((1:Nat):Int)=_ from zob rfl)]
 have a0:=ix0 _ _ hh;have a1:=ix1 _ _ hh;have b0:=ix0 _ _ hh2;have b1:=ix1 _ _ hh3;have mk:=zij v n3 _ [.lst [.ref 0,.ref 1]] rfl;have ne:=zgi v (gP v.ps) rfl _ [.lst [.ref 0,.ref 1]] (2+2 * v.ps.length) rfl hh;have s1:lv1 [some (.scr ns),none,none,none,none,none,none,none,none] []=.ok (.nx [some (.scr ns),some v.D,none,none,none,none,none,none,none]) []:=by
  unfold lv1;generalize v.D=VD at *;simp[e1]
 have s2:lv2 [some (.scr ns),some v.D,none,none,none,none,none,none,none] []=.ok (.nx [some (.scr ns),some v.D,some (.ref (2+2 * v.ps.length)),none,none,none,none,none,none]) (HS (v.ws.map D.int) (ykq v.ps) (gP v.ps)++[.lst [.ref 0,.ref 1]]):=by
  have hc:=ydt v n3 (v.ws.map D.int) [some (.scr ns),none,none,none,none,none,none,none];rw[show ([some (.scr ns),none,none,none,none,none,none,none]:List (Option D)).head!::some v.D::([some (.scr ns),none,none,none,none,none,none,none]:List (Option D)).tail=[some (.scr ns),some v.D,none,none,none,none,none,none,none]from rfl]at hc;have ol:ye4 [.lst (v.ws.map D.int)] []=.ok (.ref 0) [.lst (v.ws.map D.int)]:=rfl;have lk:yjf [.ref 0,.ref 1] (HS (v.ws.map D.int) (ykq v.ps) (gP v.ps))=.ok (.ref (2+2 * v.ps.length)) (HS (v.ws.map D.int) (ykq v.ps) (gP v.ps)++[.lst [.ref 0,.ref 1]]):=by rw[<-hN];rfl
  unfold lv2;generalize hcE=B at *;generalize (HS (v.ws.map D.int) (ykq v.ps) (gP v.ps)++[.lst [.ref 0,.ref 1]])=σ1 at *;generalize HS (v.ws.map D.int) (ykq v.ps) (gP v.ps)=σ0 at *;generalize hW:D.lst (v.ws.map D.int)=WL at *;generalize v.D=VD at *;generalize yig (yk6 (yid oIx (yik 1) (eC (.int 3)))) [] (tgT 3 (ybh (tgN 0) (ybh (tgN 1) (ybh (tgN 2) ygf)))) ycf B=LC at *;simp[j2,ol,hc,lk,-zyv]
 have s3:lv3 [some (.scr ns),some v.D,some (.ref (2+2 * v.ps.length)),none,none,none,none,none,none] (HS (v.ws.map D.int) (ykq v.ps) (gP v.ps)++[.lst [.ref 0,.ref 1]])=.ok (.nx [some (.scr ns),some v.D,some (.ref (2+2 * v.ps.length)),some v.O,none,none,none,none,none]) (HS (v.ws.map D.int) (ykq v.ps) (gP v.ps)++[.lst [.ref 0,.ref 1]]):=by
  have m1:yie (yc1 0 5 f_View___init__ (ycc (yid oIx (yik 1) (eC (.int 0))) (ycc (yid oIx (yik 1) (eC (.int 1))) (ycc (yid oIx (yik 2) (eC (.int 0))) (ycc (yid oIx (yik 2) (eC (.int 1))) yhq))))) [some (.scr ns),some v.D,some (.ref (2+2 * v.ps.length)),none,none,none,none,none,none] (HS (v.ws.map D.int) (ykq v.ps) (gP v.ps)++[.lst [.ref 0,.ref 1]])=.ok v.O (HS (v.ws.map D.int) (ykq v.ps) (gP v.ps)++[.lst [.ref 0,.ref 1]]):=by
   rw[<-mk];show yis _ _=yis _ _;congr 1;generalize (HS (v.ws.map D.int) (ykq v.ps) (gP v.ps)++[.lst [.ref 0,.ref 1]])=σ1 at *;generalize v.D=VD at *;simp[j0,j1,a0,a1]
  unfold lv3;rw[ztx,m1];rfl
 have s4:∀ σ,lv4 [some (.scr ns),some v.D,some (.ref (2+2 * v.ps.length)),some v.O,none,none,none,none,none] σ=.ok (.nx [some (.scr ns),some v.D,some (.ref (2+2 * v.ps.length)),some v.O,some (.int (tot v c)),none,none,none,none]) σ:=fun σ=>by
  unfold lv4;generalize v.D=VD at *;generalize v.O=VO at *;simp[le]
 have s5:∀ σ,lv5 [some (.scr ns),some v.D,some (.ref (2+2 * v.ps.length)),some v.O,some (.int (tot v c)),none,none,none,none] σ=.ok (.nx [some (.scr ns),some v.D,some (.ref (2+2 * v.ps.length)),some v.O,some (.int (tot v c)),some (.int (tot v c)),none,none,none]) σ:=fun σ=>by
  unfold lv5;generalize v.D=VD at *;generalize v.O=VO at *;simp[w]
 have s6:∀ σ,lv6 [some (.scr ns),some v.D,some (.ref (2+2 * v.ps.length)),some v.O,some (.int (tot v c)),some (.int (tot v c)),none,none,none] σ=.ok (.nx [some (.scr ns),some v.D,some (.ref (2+2 * v.ps.length)),some v.O,some (.int (tot v c)),some (.int (tot v c)),none,none,none]) σ:=fun σ=>by
  unfold lv6;generalize v.D=VD at *;generalize v.O=VO at *;simp
 have s7:lv7 [some (.scr ns),some v.D,some (.ref (2+2 * v.ps.length)),some v.O,some (.int (tot v c)),some (.int (tot v c)),none,none,none] (HS (v.ws.map D.int) (ykq v.ps) (gP v.ps)++[.lst [.ref 0,.ref 1]])=.ok (.nx [some (.scr ns),some v.D,some (.ref (2+2 * v.ps.length)),some v.O,some (.int (tot v c)),some (.int (tot v c)),none,none,none]) (HS (v.ws.map D.int) (ykq v.ps) (gP v.ps)++[.lst [.ref 0,.ref 1]]):=by
  unfold lv7;generalize (HS (v.ws.map D.int) (ykq v.ps) (gP v.ps)++[.lst [.ref 0,.ref 1]])=σ1 at *;generalize D.lst (v.ws.map D.int)=WL at *;generalize D.lst (v.ps.map Po.D)=PL at *;generalize v.D=VD at *;generalize v.O=VO at *;simp[j2,j3,ne]
 obtain⟨y6,y7,y8,cc⟩:=zvx v.ps n3 hpl (v.ws.map D.int) (.lst [.ref 0,.ref 1]) (some (.scr ns)) (some v.D) (some (.ref (2+2 * v.ps.length))) (some v.O) (some (.int (tot v c))) (some (.int (tot v c))) none none none;have s8:lv8 [some (.scr ns),some v.D,some (.ref (2+2 * v.ps.length)),some v.O,some (.int (tot v c)),some (.int (tot v c)),none,none,none] (HS (v.ws.map D.int) (ykq v.ps) (gP v.ps)++[.lst [.ref 0,.ref 1]])=.ok (.nx [some (.scr ns),some v.D,some (.ref (2+2 * v.ps.length)),some v.O,some (.int (tot v c)),some (.int (tot v c)),y6,y7,y8]) (HS (v.ws.map D.int) (ykq v.ps) (GC (gP v.ps) v.ps.length)++[.lst [.ref 0,.ref 1]]):=by
  have sk:yfz (.ref 1) (HS (v.ws.map D.int) (ykq v.ps) (gP v.ps)++[.lst [.ref 0,.ref 1]])=.ok (.lref 1) (HS (v.ws.map D.int) (ykq v.ps) (gP v.ps)++[.lst [.ref 0,.ref 1]]):=rfl;unfold lv8;generalize ccB=B at *;generalize (HS (v.ws.map D.int) (ykq v.ps) (gP v.ps)++[.lst [.ref 0,.ref 1]])=σ1 at *;generalize (HS (v.ws.map D.int) (ykq v.ps) (GC (gP v.ps) v.ps.length)++[.lst [.ref 0,.ref 1]])=σ2 at *;generalize v.D=VD at *;generalize v.O=VO at *;simp[a1,sk,cc]
 have s9:lv9 [some (.scr ns),some v.D,some (.ref (2+2 * v.ps.length)),some v.O,some (.int (tot v c)),some (.int (tot v c)),y6,y7,y8] (HS (v.ws.map D.int) (ykq v.ps) (GC (gP v.ps) v.ps.length)++[.lst [.ref 0,.ref 1]])=.ok (.nx [some (.scr ns),some v.D,some (.ref (2+2 * v.ps.length)),some v.O,some (.int (tot v c)),some (.int (tot v c)),y6,y7,y8]) (HS (v.ws.map D.int++[.int 9]) (ykq v.ps) (GC (gP v.ps) v.ps.length)++[.lst [.ref 0,.ref 1]]):=by
  have l0:=yg2 (v.ws.map D.int) (ykq v.ps) (GC (gP v.ps) v.ps.length) [.lst [.ref 0,.ref 1]];have me:=fun o m=>yen l0 o m;have ap:=zfw l0 (by simp;omega) (.int 9);rw[show (HS (v.ws.map D.int) (ykq v.ps) (GC (gP v.ps) v.ps.length)++[Ob.lst [.ref 0,.ref 1]]).set 0 (Ob.lst (v.ws.map D.int++[D.int 9]))=HS (v.ws.map D.int++[.int 9]) (ykq v.ps) (GC (gP v.ps) v.ps.length)++[.lst [.ref 0,.ref 1]]from rfl]at ap;unfold lv9;generalize (HS (v.ws.map D.int) (ykq v.ps) (GC (gP v.ps) v.ps.length)++[.lst [.ref 0,.ref 1]])=σ2 at *;generalize (HS (v.ws.map D.int++[.int 9]) (ykq v.ps) (GC (gP v.ps) v.ps.length)++[.lst [.ref 0,.ref 1]])=σ3 at *;generalize v.D=VD at *;generalize v.O=VO at *;simp[b0,me,ap]
 have sA:lvA [some (.scr ns),some v.D,some (.ref (2+2 * v.ps.length)),some v.O,some (.int (tot v c)),some (.int (tot v c)),y6,y7,y8] (HS (v.ws.map D.int++[.int 9]) (ykq v.ps) (GC (gP v.ps) v.ps.length)++[.lst [.ref 0,.ref 1]])=.ok (.nx [some (.scr ns),some v.D,some (.ref (2+2 * v.ps.length)),some v.O,some (.int (tot v c)),some (.int (tot v c)),y6,y7,y8]) (HS (v.ws.map D.int++[.int 9]) [] (GC (gP v.ps) v.ps.length)++[.lst [.ref 0,.ref 1]]):=by
  have l1:=yg3 (v.ws.map D.int++[.int 9]) (ykq v.ps) (GC (gP v.ps) v.ps.length) [.lst [.ref 0,.ref 1]];have me:=fun o m=>yen l1 o m;have cl1:=zgc l1;rw[show (HS (v.ws.map D.int++[.int 9]) (ykq v.ps) (GC (gP v.ps) v.ps.length)++[Ob.lst [.ref 0,.ref 1]]).set 1 (Ob.lst [])=HS (v.ws.map D.int++[.int 9]) [] (GC (gP v.ps) v.ps.length)++[.lst [.ref 0,.ref 1]]from rfl]at cl1;unfold lvA;generalize (HS (v.ws.map D.int++[.int 9]) (ykq v.ps) (GC (gP v.ps) v.ps.length)++[.lst [.ref 0,.ref 1]])=σ3 at *;generalize (HS (v.ws.map D.int++[.int 9]) [] (GC (gP v.ps) v.ps.length)++[.lst [.ref 0,.ref 1]])=σ4 at *;generalize v.D=VD at *;generalize v.O=VO at *;simp[b1,me,cl1]
 have sB:∀ σ,lvB [some (.scr ns),some v.D,some (.ref (2+2 * v.ps.length)),some v.O,some (.int (tot v c)),some (.int (tot v c)),y6,y7,y8] σ=.ok (.rt (.bl true)) σ:=fun σ=>by
  unfold lvB;generalize v.D=VD at *;generalize v.O=VO at *;simp[w]
 refine⟨HS (v.ws.map D.int++[.int 9]) [] (GC (gP v.ps) v.ps.length)++[.lst [.ref 0,.ref 1]],?_⟩;unfold f_law;rw[yay,yek];show ykp (ykz lv1 _ [some (.scr ns),none,none,none,none,none,none,none,none] [])=_;generalize lv1=f1 at *;generalize lv2=f2 at *;generalize lv3=f3 at *;generalize lv4=f4 at *;generalize lv5=f5 at *;generalize lv6=f6 at *;generalize lv7=f7 at *;generalize lv8=f8 at *;generalize lv9=f9 at *;generalize lvA=fA at *;generalize lvB=fB at *;simp only[ztw,s1,s2,s3,s4,s5,s6,s7,s8,s9,sA,sB,zoj,zt3,ztn]
end K31
open PySem PySem.W PyProof.Rows
set_option maxRecDepth 100000 in
set_option maxHeartbeats 0 in
theorem PySem.Challenge.cw_sidebook_k31_the_least_of_all_holds : PySem.Challenge.rw_sidebook_k31_the_least_of_all.Holds := by
 w_on;o_law;k_head;(case hw=>w_witness2)
 k_fill
 refine L4.ygm (l:=PySem.Challenge.rw_sidebook_k31_the_least_of_all) (k:=9) (x:="_law_script") (fn:=K31.f_law) ["least_fate", "paper"] rfl rfl ⟨rfl,by decide,by decide⟩ (fun w h Y=>km_in_of Y) ?hK ?hrec ?F K31.law_true;case hK=>intro w;kernel_rfl
 case hrec=>kernel_rfl
 case F=>
  intro w mg h KX G TT;have h__law_cell_at:L4.yb1 (L2.KOf KX) mg "_law_cell_at" (K31.top 22) ["_law_script", "_law_k"]:=by
   dsimp only[L2.KOf];refine' L4.mkF KX G K31.zar ?a ?l ?c ?k;(case a|l|c|k=>k_is)
  have h__law_mixed:L4.yb1 (L2.KOf KX) mg "_law_mixed" (K31.top 23) ["_law_cell", "_law_k"]:=by
   dsimp only[L2.KOf];refine' L4.mkF KX G K31.zbw ?a ?l ?c ?k;(case a|l|c|k=>k_is)
  have h__law_amount:L4.yb1 (L2.KOf KX) mg "_law_amount" (K31.top 24) ["_law_number"]:=by
   dsimp only[L2.KOf];refine' L4.mkF KX G K31.za9 ?a ?l ?c ?k;(case a|l|c|k=>k_is)
  have h__law_tie:L4.yb1 (L2.KOf KX) mg "_law_tie" (K31.top 25) ["_law_number", "_law_word", "_law_at"]:=by
   dsimp only[L2.KOf];refine' L4.mkF KX G K31.zdj ?a ?l ?c ?k;(case a|l|c|k=>k_is)
  have h__law_stand:L4.yb1 (L2.KOf KX) mg "_law_stand" (K31.top 26) ["_law_cell", "_law_number", "_law_at"]:=by
   dsimp only[L2.KOf];refine' L4.mkF KX G K31.zbx ?a ?l ?c ?k;(case a|l|c|k=>k_is)
  have h__law_pot:L4.yb1 (L2.KOf KX) mg "_law_pot" (K31.top 27) ["_law_cell", "_law_at", "_law_k_pot"]:=by
   dsimp only[L2.KOf];refine' L4.mkF KX G K31.zdh ?a ?l ?c ?k;(case a|l|c|k=>k_is)
  have h__law_view:L4.yb1 (L2.KOf KX) mg "_law_view" (K31.top 28) ["_law_script"]:=by
   dsimp only[L2.KOf];refine' L4.mkF KX G K31.zcr ?a ?l ?c ?k;(case a|l|c|k=>k_is)
  have h__law_choices:L4.yb1 (L2.KOf KX) mg "_law_choices" (K31.top 32) ["_law_pots"]:=by
   dsimp only[L2.KOf];refine' L4.mkF KX G K31.zas ?a ?l ?c ?k;(case a|l|c|k=>k_is)
  have h__law_standing:L4.yb1 (L2.KOf KX) mg "_law_standing" (K31.top 29) ["_law_view_here", "_law_side", "_law_seen", "_law_tie_here"]:=by
   dsimp only[L2.KOf];refine' L4.mkF KX G K31.zag ?a ?l ?c ?k;(case a|l|c|k=>k_is)
  have h__law_ties:L4.yb1 (L2.KOf KX) mg "_law_ties" (K31.top 30) ["_law_view_here", "_law_chosen"]:=by
   dsimp only[L2.KOf];refine' L4.mkF KX G K31.zcq ?a ?l ?c ?k;(case a|l|c|k=>k_is)
  have h__law_sum:L4.yb1 (L2.KOf KX) mg "_law_sum" (K31.top 31) ["_law_ties_here", "_law_word", "_law_fate", "_law_every"]:=by
   dsimp only[L2.KOf];refine' L4.mkF KX G K31.zdi ?a ?l ?c ?k;(case a|l|c|k=>k_is)
  have h__law_least:L4.yb1 (L2.KOf KX) mg "_law_least" (K31.top 33) ["_law_view_here"]:=by
   dsimp only[L2.KOf];refine' L4.mkF KX G K31.zbv ?a ?l ?c ?k;(case a|l|c|k=>k_is)
  have h_shown_in_time:L4.yb1 (L2.KOf KX) mg "shown_in_time" (K31.top 1) ["tie", "shown"]:=by
   dsimp only[L2.KOf];refine' L4.mkF KX G K31.zai ?a ?l ?c ?k;(case a|l|c|k=>k_is)
  have h_lot_of_paid:L4.yb1 (L2.KOf KX) mg "lot_of_paid" (K31.top 5) ["view", "seen", "tie"]:=by
   dsimp only[L2.KOf];refine' L4.mkF KX G K31.zbc ?a ?l ?c ?k;(case a|l|c|k=>k_is)
  have h_lot_of_due:L4.yb1 (L2.KOf KX) mg "lot_of_due" (K31.top 6) ["view", "seen", "tie"]:=by
   dsimp only[L2.KOf];refine' L4.mkF KX G K31.zbz ?a ?l ?c ?k;(case a|l|c|k=>k_is)
  have h_lot_of:L4.yb1 (L2.KOf KX) mg "lot_of" (K31.top 7) ["view", "pot", "tie"]:=by
   dsimp only[L2.KOf];refine' L4.mkF KX G K31.zfx ?a ?l ?c ?k;(case a|l|c|k=>k_is)
  have h_read_stand:L4.yb1 (L2.KOf KX) mg "read_stand" (K31.top 8) ["view", "pot", "one"]:=by
   dsimp only[L2.KOf];refine' L4.mkF KX G K31.zb0 ?a ?l ?c ?k;(case a|l|c|k=>k_is)
  have h_read_pots:L4.yb1 (L2.KOf KX) mg "read_pots" (K31.top 9) ["view"]:=by
   dsimp only[L2.KOf];refine' L4.mkF KX G K31.zcs ?a ?l ?c ?k;(case a|l|c|k=>k_is)
  have h_all_choices:L4.yb1 (L2.KOf KX) mg "all_choices" (K31.top 10) ["readings"]:=by
   dsimp only[L2.KOf];refine' L4.mkF KX G K31.zba ?a ?l ?c ?k;(case a|l|c|k=>k_is)
  have h_lots_by_word:L4.yb1 (L2.KOf KX) mg "lots_by_word" (K31.top 12) ["reads"]:=by
   dsimp only[L2.KOf];refine' L4.mkF KX G K31.zat ?a ?l ?c ?k;(case a|l|c|k=>k_is)
  have h_fates_of:L4.yb1 (L2.KOf KX) mg "fates_of" (K31.top 13) ["lots"]:=by
   dsimp only[L2.KOf];refine' L4.mkF KX G K31.zdk ?a ?l ?c ?k;(case a|l|c|k=>k_is)
  have h_comes_by_fate:L4.yb1 (L2.KOf KX) mg "comes_by_fate" (K31.top 14) ["lot", "fate", "every"]:=by
   dsimp only[L2.KOf];refine' L4.mkF KX G K31.zah ?a ?l ?c ?k;(case a|l|c|k=>k_is)
  have h_sum_by_fate:L4.yb1 (L2.KOf KX) mg "sum_by_fate" (K31.top 15) ["lots", "fate", "every"]:=by
   dsimp only[L2.KOf];refine' L4.mkF KX G K31.zbd ?a ?l ?c ?k;(case a|l|c|k=>k_is)
  have h_least_fate:L4.yb1 (L2.KOf KX) mg "least_fate" (K31.top 16) ["lots", "every"]:=by
   dsimp only[L2.KOf];refine' L4.mkF KX G K31.zby ?a ?l ?c ?k;(case a|l|c|k=>k_is)
  have h_sum_of:L4.yb1 (L2.KOf KX) mg "sum_of" (K31.top 17) ["reads", "by_word", "fates", "every"]:=by
   dsimp only[L2.KOf];refine' L4.mkF KX G K31.zfy ?a ?l ?c ?k;(case a|l|c|k=>k_is)
  have h_least_paper:L4.yb1 (L2.KOf KX) mg "least_paper" (K31.top 18) ["reads", "chosen", "every"]:=by
   dsimp only[L2.KOf];refine' L4.mkF KX G K31.zbb ?a ?l ?c ?k;(case a|l|c|k=>k_is)
  have h_chosen_readings:L4.yb1 (L2.KOf KX) mg "chosen_readings" (K31.top 11) ["readings", "chosen"]:=by
   dsimp only[L2.KOf];refine' L4.mkF KX G K31.zaa ?a ?l ?c ?k;(case a|l|c|k=>k_is)
  have h_paper:L4.yb1 (L2.KOf KX) mg "paper" (K31.top 19) ["view"]:=by
   dsimp only[L2.KOf];refine' L4.mkF KX G K31.zis ?a ?l ?c ?k;(case a|l|c|k=>k_is)
  have h_worth:L4.yb1 (L2.KOf KX) mg "worth" (K31.top 20) ["view"]:=by
   dsimp only[L2.KOf];refine' L4.mkF KX G K31.zit ?a ?l ?c ?k;(case a|l|c|k=>k_is)
  have h_law:L4.yb1 (L2.KOf KX) mg "law" (K31.top 34) ["_law_script"]:=by
   dsimp only[L2.KOf];refine' L4.mkF KX G K31.zvj ?a ?l ?c ?k;(case a|l|c|k=>k_is)
  have n_bool:mg "bool" = none:=by
   refine' mg_none_of KX G ?a;(case a=>k_is)
  have n_dict:mg "dict" = none:=by
   refine' mg_none_of KX G ?a;(case a=>k_is)
  have n_int:mg "int" = none:=by
   refine' mg_none_of KX G ?a;(case a=>k_is)
  have n_isinstance:mg "isinstance" = none:=by
   refine' mg_none_of KX G ?a;(case a=>k_is)
  have n_len:mg "len" = none:=by
   refine' mg_none_of KX G ?a;(case a=>k_is)
  have n_list:mg "list" = none:=by
   refine' mg_none_of KX G ?a;(case a=>k_is)
  have n_max:mg "max" = none:=by
   refine' mg_none_of KX G ?a;(case a=>k_is)
  have n_min:mg "min" = none:=by
   refine' mg_none_of KX G ?a;(case a=>k_is)
  have n_range:mg "range" = none:=by
   refine' mg_none_of KX G ?a;(case a=>k_is)
  have n_sum:mg "sum" = none:=by
   refine' mg_none_of KX G ?a;(case a=>k_is)
  have n_tuple:mg "tuple" = none:=by
   refine' mg_none_of KX G ?a;(case a=>k_is)
  have n_zip:mg "zip" = none:=by
   refine' mg_none_of KX G ?a;(case a=>k_is)
  have c_FIRM:L4.GlT (L2.KOf KX) mg "FIRM" ["won", "sure", "back"]:=by
   dsimp only[L2.KOf];refine' L4.mkT KX G ?a ?b;(case a=>k_is);(case b=>kernel_rfl)
  refine' (have q0:nsIn (L2.KOf KX) mainGlobals "View" = some (some (.ref ?C0)):=?p0;?_);(case p0=>dsimp only[L2.KOf];first|k_is|k_exc|rfl);refine' (have q1:findIn (L2.KOf KX) (.ref ?C0) "__init__" = some (some (.ref ?C1)):=?p1;?_);(case p1=>dsimp only[L2.KOf];first|k_is|k_exc|rfl);refine' (have q2:L4.HasM (L2.KOf KX) ?C0 "__init__" "View.__init__" (L4.yer (K31.top 4) 0) ["self", "every", "look", "words", "pots"] ?C1:=?p2;?_);(case p2=>dsimp only[L2.KOf];refine' L4.mkM K31.zaf ?l ?c ?k;(case l|c|k=>k_is));refine' (have q3:L2.Cls (L2.KOf KX) ?C0:=?p3;?_);(case p3=>dsimp only[L2.KOf];refine' ⟨?a,?b,?c,?d⟩;(case a|b|c|d=>k_is));refine' (have q4:L2.zve (L2.KOf KX) ?C0 "every":=?p4;?_);(case p4=>dsimp only[L2.KOf];first|k_is|k_exc|rfl);refine' (have q5:L2.zve (L2.KOf KX) ?C0 "last_look":=?p5;?_);(case p5=>dsimp only[L2.KOf];first|k_is|k_exc|rfl);refine' (have q6:L2.zve (L2.KOf KX) ?C0 "known":=?p6;?_);(case p6=>dsimp only[L2.KOf];first|k_is|k_exc|rfl);refine' (have q7:L2.zve (L2.KOf KX) ?C0 "pots":=?p7;?_);(case p7=>dsimp only[L2.KOf];first|k_is|k_exc|rfl);refine' (have q8:L2.Mk (L2.KOf KX) ?C0 ?C1:=?p8;?_);(case p8=>dsimp only[L2.KOf];refine' ⟨?a,?b,?c,?d⟩;(case a|b|c|d=>k_is));refine⟨fun n=>([?C0,?C1]:List Addr).getD n 0,(K31.tx (L2.KOf KX)).tbs,K31.ygd _,?_⟩;have tj:∀ t∈(K31.tx (L2.KOf KX)).tbs,∀ t'∈(K31.tx (L2.KOf KX)).tbs,t'.P=t.P->t'=t:=by
   dsimp only[L2.KOf];refine' L4.ygg ?a;(case a=>kernel_rfl)
  exact K31.zzh ⟨h__law_cell_at,h__law_mixed,h__law_amount,h__law_tie,h__law_stand,h__law_pot,h__law_view,q2,h__law_choices,h__law_standing,h__law_ties,h__law_sum,h__law_least,h_shown_in_time,h_lot_of_paid,h_lot_of_due,h_lot_of,h_read_stand,h_read_pots,h_all_choices,h_lots_by_word,h_fates_of,h_comes_by_fate,h_sum_by_fate,L4.mkC KX G h_least_fate TT (by decide),h_sum_of,h_least_paper,h_chosen_readings,L4.mkC KX G h_paper TT (by decide),h_worth,h_law,n_bool,n_dict,n_int,n_isinstance,n_len,n_list,n_max,n_min,n_range,n_sum,n_tuple,n_zip,c_FIRM,q3,q4,q5,q6,q7,mg_of KX G q0,q8,TT,mg_of KX G TT.bm,tj⟩
