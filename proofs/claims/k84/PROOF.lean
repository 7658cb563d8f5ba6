import PyProof.Rows.All
import Wide.All
import Wide.FinOn
import KE.KDictOf
import KE.RegKIsAll
import KE.KEqDeep
import KE.KRevIter
import KE.KEqDict
import KE.RegKTryMore
import KE.KItem
import KE.KTurns
import KE.KFromBytes
import KE.KEqText
import KE.KNestM
import KE.KLam
import KE.KMinKey
import PySem.Challenge.RW_bytetongue_k84_slack_witnessed
set_option Elab.async false
set_option linter.all false
set_option maxRecDepth 100000
namespace L2
open PySem PySem.Spec PyProof.Rows
abbrev am:=Sum Int Str
def eN:am->Value->Bool
 | .inl k,v=>Value.isInt k v
 | .inr x,v=>Value.isStrOf x v
def zX(w:World):am->Int
 | .inl k=>hashInt k
 | .inr x=>hashStr w x
theorem eM : ∀ {k:am} {v:Value},eN k v=true->(∃ i t,k=Sum.inl i/\v=Value.int i t)\/(∃ x t,k=Sum.inr x/\v=Value.str x t)
 | .inl i,v,h=>by
  obtain⟨t,e⟩:=Value.isInt_shape (k:=i) (v:=v) h
  exact .inl ⟨i,t,rfl,e⟩
 | .inr x,v,h=>by
  obtain⟨t,e⟩:=Value.isStrOf_shape (x:=x) (v:=v) h
  exact .inr ⟨x,t,rfl,e⟩
theorem zW(i:Int)(t:Tok):eN (.inl i) (.int i t)=true:=by simp[eN,Value.isInt]
theorem zV(x:Str)(t:Tok):eN (.inr x) (.str x t)=true:=by simp[eN,Value.isStrOf]
theorem zU(a b:Int):decide ((Sum.inl a:am)=Sum.inl b)=(a == b):=by
 by_cases e:a=b
 ·subst e; simp
 ·have h : ¬ (Sum.inl a:am)=Sum.inl b:=λq=>e (Sum.inl.inj q)
  rw[decide_eq_false h]
  exact (beq_eq_false_iff_ne.mpr e).symm
theorem zR(a b:Str):decide ((Sum.inr a:am)=Sum.inr b)=decide (a=b):=by
 by_cases e:a=b
 ·subst e; simp
 ·have h : ¬ (Sum.inr a:am)=Sum.inr b:=λq=>e (Sum.inr.inj q)
  rw[decide_eq_false h,decide_eq_false e]
theorem zT(a:Int)(b:Str):decide ((Sum.inl a:am)=Sum.inr b)=false:=decide_eq_false (λq=>nomatch q)
theorem zS(a:Str)(b:Int):decide ((Sum.inr a:am)=Sum.inl b)=false:=decide_eq_false (λq=>nomatch q)
def bM(prog:Program)(w:World):PySem.KeyKind prog w am where
 is:=eN
 hash:=zX w
 inj:=λv a b ha hb=>by
  rcases eM ha with ⟨i,t,rfl,rfl⟩ | ⟨x,t,rfl,rfl⟩
  ·rcases eM hb with ⟨j,u,rfl,e⟩ | ⟨y,u,rfl,e⟩
   ·injection e with e1 _; rw[e1]
   ·exact nomatch e
  ·rcases eM hb with ⟨j,u,rfl,e⟩ | ⟨y,u,rfl,e⟩
   ·exact nomatch e
   ·injection e with e1 _; rw[e1]
 byValue:=λk v h=>by
  rcases eM h with ⟨i,t,rfl,rfl⟩ | ⟨x,t,rfl,rfl⟩ <;> rfl
 pyHash:=λhv h=>by
  rcases eM hv with ⟨i,t,rfl,rfl⟩ | ⟨x,t,rfl,rfl⟩
  ·exact wpAny_pyHash_int h
  ·exact wpAny_pyHash_str h
 eqBool:=λhu hv h=>by
  rcases eM hu with ⟨i,t,rfl,rfl⟩ | ⟨x,t,rfl,rfl⟩
  ·rcases eM hv with ⟨j,u,rfl,rfl⟩ | ⟨y,u,rfl,rfl⟩
   ·rw[zU]at h; exact wpAny_eqBool_int h
   ·rw[zT]at h; exact SeqAt.EqAt.int_str i t y u _ _ _ _ h
  ·rcases eM hv with ⟨j,u,rfl,rfl⟩ | ⟨y,u,rfl,rfl⟩
   ·rw[zS]at h; exact SeqAt.EqAt.str_int x t j u _ _ _ _ h
   ·rw[zR]at h; exact wpAny_eqBool_str h
 «strs»:=λk x t v h=>by
  rcases eM h with ⟨i,u,rfl,e⟩ | ⟨y,u,rfl,e⟩
  ·exact nomatch e
  ·injection e with e1 _
   subst e1
   cases v <;> rfl
theorem zn(prog:Program)(w:World)(k:am)(v:Value):(bM prog w).is k v=eN k v:=rfl
theorem zo(prog:Program)(w:World)(i:Int)(t:Tok):(bM prog w).is (.inl i) (.int i t)=true:=zW i t
theorem zl(prog:Program)(w:World)(x:Str)(t:Tok):(bM prog w).is (.inr x) (.str x t)=true:=zV x t
inductive V where
 | non | bl (b:Bool) | int (i:Int) | str (x:Str) | byt (b:Array UInt8) | flt (b:UInt64) | ref (a:Addr) | ty (n:String)
 deriving DecidableEq
def au:V->Value->Prop
 | .non,u=>u=Value.none
 | .bl b,u=>u=Value.bool b
 | .int i,u=>∃ t,u=Value.int i t
 | .str x,u=>∃ t,u=Value.str x t
 | .byt b,u=>∃ t,u=Value.bytes b t
 | .flt b,u=>∃ t,u=Value.float b t
 | .ref a,u=>u=Value.ref a
 | .ty n,u=>u=Value.type n
abbrev ar:List V->List Value->Prop:=Paired au
theorem ar.length{xs:List V}{us:List Value}(r:ar xs us):xs.length=us.length:=Paired.length r
theorem ar.get : ∀ {xs:List V} {us:List Value} {i:Nat} {x:V},ar xs us->xs[i]? = some x->∃ u,us[i]? = some u/\au x u
 | _,_,_,_,.nil,e=>by simp at e
 | _,_,0,_,.cons r _,e=>by simp at e; subst e; exact⟨_,rfl,r⟩
 | _,_,i+1,x,.cons _ t,e=>by
  obtain⟨u,h1,h2⟩:=ar.get (i:=i) (x:=x) t (by simpa using e)
  exact⟨u,by simpa using h1,h2⟩
theorem ar.append : ∀ {xs ys:List V} {us ws:List Value},ar xs us->ar ys ws->ar (xs++ys) (us++ws)
 | _,_,_,_,.nil,s=>s
 | _,_,_,_,.cons r t,s=>.cons r (ar.append t s)
theorem ar.take : ∀ {xs:List V} {us:List Value} (n:Nat),ar xs us->ar (xs.take n) (us.take n)
 | _,_,0,_=>.nil
 | _,_,_+1,.nil=>.nil
 | _,_,n+1,.cons r t=>.cons r (ar.take n t)
theorem ar.drop : ∀ {xs:List V} {us:List Value} (n:Nat),ar xs us->ar (xs.drop n) (us.drop n)
 | _,_,0,r=>r
 | _,_,_+1,.nil=>.nil
 | _,_,n+1,.cons _ t=>ar.drop n t
def bS:Option V->Option Value->Prop
 | some v,some u=>au v u
 | none,none=>True
 | _,_=>False
def KV{κ:Type}:List (κ × V)->List (κ × Value)->Prop:=Paired λ(p:κ × V) (q:κ × Value)=>p.1=q.1/\au p.2 q.2
def kV:am->V
 | .inl i=>.int i
 | .inr x=>.str x
inductive HO where
 | lst (xs:List V)
 | tup (xs:List V)
 | dK (kvs:List (am × V)) | dT (kvs:List (List am × V))
 | set (S:Int->Bool) (n:Nat)
 | ins (C dx:Addr) (fs:List (Str × V))
 | own (x:Addr)
 | xd (fs:List (Str × V))
 | met (f x:Addr)
 | rng (lo hi:Int)
 | frz (o:Obj) (u:HO)
 | tbl (ps:Array Value)
 | ext (φ:Heap->Prop)
abbrev Hp:=Addr->Option HO
def upd(H:Hp)(a:Addr)(o:HO):Hp:=λb=>if b=a then some o else H b
theorem aR{H:Hp}{a:Addr}{o:HO}:upd H a o a=some o:=by unfold upd; rw[if_pos rfl]
theorem ai{H:Hp}{a b:Addr}{o:HO}(h:b≠a):upd H a o b=H b:=by unfold upd; rw[if_neg h]
theorem y7{H:Hp}{a b:Addr}{o u:HO}(h:H a=some o)(h':H b=some u)(d:o≠u):a≠b:=by
 intro e; subst e; rw[h]at h'; exact d (Option.some.inj h')
theorem bi{H:Hp}{a b:Addr}{o:HO}(h:H a=some o)(h':H b=none):a≠b:=by
 intro e; subst e; rw[h]at h'; cases h'
section
variable (P:Program)(w:World)
def aL(H:Hp)(h:Heap)(a:Addr):HO->Prop
 | .lst xs=>xs.length<=sizeLine/\∃ (its:List Value) (n:Nat),ar xs its/\h.get? a=some { cls:=.type "list",data:=.seq its.toArray n }
 | .tup xs=>xs.length<=sizeLine/\∃ its:List Value,ar xs its/\IsTup h a its.toArray
 | .dK kvs=>kvs.length<=sizeLine/\(a == sysModules)=false/\∃ vs,KV kvs vs/\h.DictOf (bM P w) a vs
 | .dT kvs=>kvs.length<=sizeLine/\(a == sysModules)=false/\∃ xs:List (List am × Addr × Value),
  Paired (λ(p:List am × V) (q:List am × Addr × Value)=>p.1=q.1/\H q.2.1=some (.tup (p.1.map kV))/\au p.2 q.2.2) kvs xs /\
  ∃ o es ep,h.get? a=some o/\o.ExactDict/\o.data=.dict es ep/\es.toList=xs.map (entryOfKey (tupleKind (bM P w)))/\(xs.map (·.1)).Nodup
 | .set S n=>h.SetOf (intKind P w) a S n
 | .ins C dx fs=>H dx=some (.own a)/\fs.length<=1000/\dx≠a/\h.get? a=some (W.instObj C dx) /\
  ∃ mA,h.Ns1 dx mA/\(∀ f,bS (fs.lookup f) (mA f))/\PySem.Within mA (fs.map (·.1))
 | .own _=>∃ o,h.get? a=some o
 | .xd fs=>∃ mA,h.Ns1 a mA/\∀ f,bS (fs.lookup f) (mA f)
 | .rng lo hi=>∃ t u v,h.get? a=some { cls:=.type "range",data:=.fields #[.int lo t,.int hi u,.int 1 v] }
 | .frz o u=>h.get? a=some o/\aL H h a u
 | .tbl ps=>h.get? a=some { cls:=.none,data:=.fields ps }
 | .met f x=>h.get? a=some (W.methodObj (.ref f) (.ref x))
 | .ext φ=>φ h/\(∃ o,h.get? a=some o)/\∀ h1 h2:Heap,φ h1->(∀ o,h1.get? a=some o->h2.get? a=some o)->φ h2
def aN(H:Hp)(h:Heap):Prop:=∀ a o,H a=some o->aL P w H h a o
end
section
variable {P:Program}{w:World}{H H':Hp}{h h':Heap}{a:Addr}{o:HO}
theorem aL.lt(x:aL P w H h a o):a < h.objs.size:=by
 cases o with
 | lst xs=>obtain⟨_,_,_,_,e⟩:=x; exact Heap.lt_size e
 | tup xs=>obtain⟨_,_,_,p⟩:=x; exact p.lt
 | dK kvs=>obtain⟨_,_,_,_,o,_,_,e,_⟩:=x; exact Heap.lt_size e
 | dT kvs=>obtain⟨_,_,_,_,o,_,_,e,_⟩:=x; exact Heap.lt_size e
 | set S n=>obtain⟨o,_,_,_,e,_⟩:=x; exact Heap.lt_size e
 | ins C dx fs=>obtain⟨_,_,_,e,_⟩:=x; exact Heap.lt_size e
 | own y=>obtain⟨_,e⟩:=x; exact Heap.lt_size e
 | xd fs=>obtain⟨_,⟨_,_,_,e,_⟩,_⟩:=x; exact Heap.lt_size e
 | rng lo hi=>obtain⟨_,_,_,e⟩:=x; exact Heap.lt_size e
 | frz ob u=>obtain⟨e,_⟩:=x; exact Heap.lt_size e
 | tbl ps=>exact Heap.lt_size (show h.get? a=some _ from x)
 | met f y=>exact Heap.lt_size (show h.get? a=some _ from x)
 | ext φ=>obtain⟨_,⟨_,e⟩,_⟩:=x; exact Heap.lt_size e
theorem Paired.mapP{α β:Type}{F G:α->β->Prop} : ∀ {l₁:List α} {l₂:List β},Paired F l₁ l₂->(∀ a b,F a b->G a b)->Paired G l₁ l₂
 | _,_,.nil,_=>.nil
 | _,_,.cons r t,f=>.cons (f _ _ r) (Paired.mapP t f)
theorem aL.stay(x:aL P w H h a o)(k : ∀ b u,(b=a\/H b=some (.own a))->h.get? b=some u->h'.get? b=some u)
 (ho : ∀ b,H b=some (.own a)->H' b=some (.own a)) (ht : ∀ b xs,H b=some (.tup xs)->H' b=some (.tup xs)):aL P w H' h' a o:=by
 induction o with
 | lst xs=>obtain⟨z,its,n,r,e⟩:=x; exact⟨z,its,n,r,k _ _ (.inl rfl) e⟩
 | tup xs=>obtain⟨z,its,r,ob,e,c⟩:=x; exact⟨z,its,r,ob,k _ _ (.inl rfl) e,c⟩
 | dK kvs=>obtain⟨z,y,vs,r,ob,es,ep,e,c⟩:=x; exact⟨z,y,vs,r,ob,es,ep,k _ _ (.inl rfl) e,c⟩
 | dT kvs =>
  obtain⟨z,y,xs,r,ob,es,ep,e,c⟩:=x
  exact⟨z,y,xs,Paired.mapP r λp q z=>⟨z.1,ht _ _ z.2.1,z.2.2⟩,ob,es,ep,k _ _ (.inl rfl) e,c⟩
 | set S n=>obtain⟨ob,es,ep,t,e,c⟩:=x; exact⟨ob,es,ep,t,k _ _ (.inl rfl) e,c⟩
 | ins C dx fs =>
  obtain⟨d,z,ne,e,mA,⟨od,es,ep,e2,c⟩,r⟩:=x
  exact⟨ho _ d,z,ne,k _ _ (.inl rfl) e,mA,⟨od,es,ep,k _ _ (.inr d) e2,c⟩,r⟩
 | own y=>obtain⟨ob,e⟩:=x; exact⟨ob,k _ _ (.inl rfl) e⟩
 | xd fs=>obtain⟨mA,⟨od,es,ep,e,c⟩,r⟩:=x; exact⟨mA,⟨od,es,ep,k _ _ (.inl rfl) e,c⟩,r⟩
 | rng lo hi=>obtain⟨t,u,v,e⟩:=x; exact⟨t,u,v,k _ _ (.inl rfl) e⟩
 | frz ob u ih=>obtain⟨e,q⟩:=x; exact⟨k _ _ (.inl rfl) e,ih q⟩
 | tbl ps =>
  have e:h.get? a=some { cls:=.none,data:=.fields ps }:=x
  show h'.get? a=some { cls:=.none,data:=.fields ps }
  exact k a _ (.inl rfl) e
 | met f y =>
  have e:h.get? a=some (W.methodObj (.ref f) (.ref y)):=x
  show h'.get? a=some (W.methodObj (.ref f) (.ref y))
  exact k a _ (.inl rfl) e
 | ext φ=>obtain⟨p,⟨o,e⟩,st⟩:=x; exact⟨st _ _ p λo q=>k _ _ (.inl rfl) q,⟨o,k _ _ (.inl rfl) e⟩,st⟩
theorem aN.lt(x:aN P w H h)(e:H a=some o):a < h.objs.size:=(x a o e).lt
theorem aN.fresh(x:aN P w H h)(e:h.objs.size<=a):H a=none:=by
 cases q:H a with
 | none=>rfl
 | some u=>exact absurd (Nat.lt_of_lt_of_le (x.lt q) e) (Nat.lt_irrefl _)
theorem aN.kept(x:aN P w H h)(k : ∀ b u,h.get? b=some u->h'.get? b=some u):aN P w H h':=λa o e =>
 (x a o e).stay (λb u _ q=>k b u q) (λ_ q=>q) λ_ _ q=>q
theorem aN.laid(x:aN P w H h)(k : ∀ b u,h.get? b=some u->h'.get? b=some u)(hp:h.objs.size<=a)(new:aL P w (upd H a o) h' a o):aN P w (upd H a o) h':=λb u e=>by
 have hn:=x.fresh hp
 by_cases hb:b=a
 ·subst hb; rw[aR]at e; cases e; exact new
 ·rw[ai hb]at e
  exact (x b u e).stay (λc v _ q=>k c v q) (λc q=>by rw[ai (bi q hn)]; exact q) λc xs q=>by rw[ai (bi q hn)]; exact q
end
def Rd(H:Hp)(a:Addr)(u:HO):Prop:=H a=some u\/∃ o,H a=some (.frz o u)
theorem Rd.ok{P:Program}{w:World}{H:Hp}{h:Heap}{a:Addr}{u:HO}(r:Rd H a u)(x:aN P w H h):aL P w H h a u:=by
 rcases r with r | ⟨o,r⟩
 ·exact x a u r
 ·obtain⟨_,q⟩:=x a _ r
  exact q
def i3:Option HO->Prop
 | some (.lst _)=>True
 | some (.dK _)=>True
 | some (.dT _)=>True
 | some (.set _ _)=>True
 | some (.ins _ _ _)=>True
 | some (.ext _)=>True
 | _=>False
section
variable {P:Program}{w:World}{H:Hp}{h h':Heap}{x e:Addr}{o':HO}
theorem aN.write(ok:aN P w H h)(mu:i3 (H x))(he:e=x\/H e=some (.own x))(k : ∀ b u,b≠e->h.get? b=some u->h'.get? b=some u)(heo : ∃ u,h'.get? e=some u)
 (new:aL P w (upd H x o') h' x o'):aN P w (upd H x o') h':=λb u q=>by
 have nown : ∀ c y,H c=some (.own y)->c≠x:=λc y r z=>by subst z; rw[r]at mu; exact mu
 have ntup : ∀ c xs,H c=some (.tup xs)->c≠x:=λc xs r z=>by subst z; rw[r]at mu; exact mu
 by_cases hb:b=x
 ·subst hb; rw[aR]at q; cases q; exact new
 ·rw[ai hb]at q
  by_cases hbe:b=e
  ·have q':H b=some (.own x):=by
    rcases he with z | z
    ·exact absurd (hbe.trans z) hb
    ·rw[hbe]; exact z
   rw[q]at q'; cases q'
   obtain⟨v,hv⟩:=heo
   exact⟨v,by rw[hbe]; exact hv⟩
  ·refine (ok b u q).stay (λc v hc r=>k c v ?_ r) (λc r=>by rw[ai (nown c b r)]; exact r) λc xs r=>by rw[ai (ntup c xs r)]; exact r
   rcases hc with rfl | hc
   ·exact hbe
   ·rintro rfl
    rcases he with z | z
    ·exact nown c b hc z
    ·rw[hc]at z; cases z; exact hb rfl
end
structure Un (fs ex:List Addr) (H H':Hp) (h h':Heap):Prop where
 keep : ∀ b o,h.get? b=some o->H b=none->b∉fs->b∉ex->h'.get? b=some o
 slot : ∀ b o,h.get? b=some o->H b=none->b∈fs->b∉ex->∃ sl,h'.get? b=some { o with slots:=sl }
 free : ∀ b o,h.get? b=some o->H b=none->b∉ex->H' b=none
 there : ∀ b o,h.get? b=some o->b∉ex->∃ o',h'.get? b=some o'
 tups : ∀ b xs,H b=some (.tup xs)->H' b=some (.tup xs)
 frzs : ∀ b o u,H b=some (.frz o u)->H' b=some (.frz o u)
 tbls : ∀ b ps,H b=some (.tbl ps)->∃ more,H' b=some (.tbl (ps++more))
section
variable {fs fs' ex ex':List Addr}{H H1 H2:Hp}{h h1 h2 h':Heap}{a x e:Addr}{o:HO}
theorem Un.any(u:Un fs ex H H1 h h1){b:Addr}{ob:Obj}(q:h.get? b=some ob)(n:H b=none)(hx:b∉ex) : ∃ sl,h1.get? b=some { ob with slots:=sl }:=by
 by_cases hb:b∈fs
 ·exact u.slot b ob q n hb hx
 ·exact⟨ob.slots,u.keep b ob q n hb hx⟩
theorem Un.kept(k : ∀ b u,h.get? b=some u->h'.get? b=some u):Un fs ex H H h h' :=
 ⟨λb ob q _ _ _=>k b ob q,λb ob q _ _ _=>⟨ob.slots,k b ob q⟩,λ_ _ _ n _=>n,λb ob q _=>⟨ob,k b ob q⟩,λ_ _ q=>q,λ_ _ _ q=>q,λ_ ps q=>⟨#[],by rw[q]; simp⟩⟩
theorem Un.refl:Un fs ex H H h h:=Un.kept λ_ _ q=>q
theorem Un.laid(k : ∀ b u,h.get? b=some u->h'.get? b=some u)(hp:h.objs.size<=a)(hn:H a=none):Un fs ex H (upd H a o) h h' where
 keep:=λb u q _ _ _=>k b u q
 slot:=λb u q _ _ _=>⟨u.slots,k b u q⟩
 free:=λb u q n _=>by rw[ai (Nat.ne_of_lt (Nat.lt_of_lt_of_le (Heap.lt_size q) hp))]; exact n
 there:=λb u q _=>⟨u,k b u q⟩
 tups:=λb xs q=>by rw[ai (bi q hn)]; exact q
 frzs:=λb u xs q=>by rw[ai (bi q hn)]; exact q
 tbls:=λb ps q=>⟨#[],by rw[ai (bi q hn),q]; simp⟩
theorem Un.write(mu:i3 (H x))(he:e=x\/H e=some (.own x))(k : ∀ b u,b≠e->h.get? b=some u->h'.get? b=some u)(heo : ∃ u,h'.get? e=some u):Un fs ex H (upd H x o) h h':=by
 have hx : ∀ b,H b=none->b≠x:=λb n z=>by subst z; rw[n]at mu; exact mu
 have hb : ∀ b,H b=none->b≠e:=λb n z=>by
  subst z
  rcases he with r | r
  ·exact hx b n r
  ·rw[n]at r; cases r
 have hm : ∀ b u,H b=some u->¬ i3 (some u)->b≠x:=λb u q nm z=>by subst z; rw[q]at mu; exact nm mu
 refine⟨λb u q n _ _=>k b u (hb b n) q,λb u q n _ _=>⟨u.slots,k b u (hb b n) q⟩,λb u q n _=>by rw[ai (hx b n)]; exact n,λb u q _=>?_,
  λb xs q=>by rw[ai (hm b _ q λz=>z)]; exact q,λb u xs q=>by rw[ai (hm b _ q λz=>z)]; exact q,λb ps q=>⟨#[],by rw[ai (hm b _ q λz=>z),q]; simp⟩⟩
 by_cases hbe:b=e
 ·subst hbe; exact heo
 ·exact⟨u,k b u hbe q⟩
end
def i7(h:Heap)(H:Hp):List Addr:=(List.range h.objs.size).filter λa=>(H a).isSome
def cC(h:Heap)(H:Hp):Heap:=W.hideAll h (i7 h H)
theorem rO(h:Heap)(H:Hp):(cC h H).objs.size=h.objs.size:=W.hideAll_size _ _
theorem rP{h:Heap}{H:Hp}{b:Addr}{o:Obj}(e:h.get? b=some o)(n:H b=none):(cC h H).get? b=some o :=
 W.hideAll_get _ e λhm=>by
  have q:(H b).isSome=true:=(List.mem_filter.mp hm).2
  rw[n]at q; simp at q
theorem qV{h:Heap}{H:Hp}{b:Addr}{o:Obj}(e:(cC h H).get? b=some o):h.get? b=some o/\H b=none:=by
 have e':h.get? b=some o:=W.of_hideAll (i7 h H) e
 refine⟨e',?_⟩
 cases q:H b with
 | none=>rfl
 | some x =>
  have hm:b∈i7 h H:=List.mem_filter.mpr ⟨List.mem_range.mpr (Heap.lt_size e'),by simp[q]⟩
  have z:(cC h H).get? b=none:=W.hideAll_none (i7 h H) hm
  rw[z]at e; cases e
def De(g h:Heap)(L:Addr):List (Addr × Obj):=(List.range h.objs.size).filterMap λa=>if a=L\/(g.get? a).isSome=true then none else (h.get? a).map λo=>(a,o)
def rest(g h:Heap)(L d:Addr):List (Addr × Obj):=(De g h L).filter λp=>decide (p.1≠d)
structure Mod (K:W.Frag) (mg:Str->Option Value) (base:Heap):Prop where
 kin:K.In base
 glob:base.Ns mainGlobals mg
 blt : ∃ mb,base.Ns builtinsNs mb/\∀ x:Str,x ≠ "__name__"->mb x=bootBuiltins x
 nolimit:base.NoLimit
structure Cx where
 prog:Program
 w:World
 K:W.Frag
 mg:Str->Option Value
 base:Heap
 A:Around
 N:List Str
 s₀:Shared
 H₀:Hp
 env:Env
 outer:List Env
 stack:List Env
 ex:List Addr
 fn:Str->Bool
 calm:Bool
 pn:List (Addr × Obj)
 xe:Value->Shared->Prop
def cb(l:List Env):List Addr:=l.filterMap (·.frame)
abbrev Cx.fs(X:Cx):List Addr:=cb X.outer
def io(sc:Scope)(x:Str):Prop:=sc.names.lookup x=some .local\/sc.names.lookup x=some .cell\/sc.names.lookup x=some .free
def fE(sc:Scope)(x:Str):Prop:=sc.names.lookup x=some .local\/sc.names.lookup x=some .cell
def Dm(env:Env)(h:Heap)(m:Str->Option Value)(x:Str)(u:Value):Prop :=
 (env.kindOf x=some .local/\m x=some u)\/((env.kindOf x=some .cell\/env.kindOf x=some .free)/\∃ c,env.cells.lookup x=some c/\h.IsCell c (some u))
structure Cx.Ok (X:Cx):Prop where
 mod:Mod X.K X.mg X.base
 kind:X.env.scope.kind=.function
 glob:X.env.globals=mainGlobals
 blt:X.env.builtins=builtinsNs
 above:X.s₀.heap.objs.size<=X.env.locals
 inj : ∀ x y c,X.env.cells.lookup x=some c->X.env.cells.lookup y=some c->x=y
 has : ∀ x,(X.env.kindOf x=some .cell\/X.env.kindOf x=some .free)->∃ c,X.env.cells.lookup x=some c
 cab : ∀ x c,X.fn x=true->X.env.cells.lookup x=some c->X.s₀.heap.objs.size<=c
 hd:X.calm=true->X.A.handled=none
 frames:X.A.frames=some X.stack
 stk:X.stack=X.outer\/(X.stack=X.env :: X.outer/\X.env.frame=some X.env.locals)
 exf : ∀ b∈X.ex,b≠X.env.locals/\∀ x c,X.env.cells.lookup x=some c->c≠b
 bs : ∀ b o,X.base.get? b=some o->X.s₀.heap.get? b=some o/\X.H₀ b=none
 bsz:X.base.objs.size<=X.s₀.heap.objs.size
 noex : ∀ b o,X.base.get? b=some o->b∉X.ex
 exfs : ∀ b∈X.ex,b∉X.fs
 funs:X.s₀.heap.FunFrames X.base X.outer
 frf : ∀ b∈X.fs,X.H₀ b=none
structure ad (X:Cx) (pins:List (Addr × Obj)) (σ:List (Option V)) (H:Hp) (s:Shared):Prop where
 ok:X.Ok
 os:s.os=X.s₀.os
 bare:AllBare s.gens
 base:Un X.fs X.ex X.H₀ H X.s₀.heap s.heap
 loc : ∃ m,s.heap.Ns X.env.locals m/\∀ (i:Nat) (x:Str) (v:V),X.N[i]? = some x->σ[i]? = some (some v)->io X.env.scope x->∃ u,au v u/\Dm X.env s.heap m x u
 cell : ∀ x c,X.env.cells.lookup x=some c->∃ v,s.heap.IsCell c v
 free:H X.env.locals=none
 freeC : ∀ x c,X.env.cells.lookup x=some c->H c=none
 pin : ∀ p∈X.pn++pins,s.heap.get? p.1=some p.2/\H p.1=none/\p.1≠X.env.locals/\p.1∉X.fs/\∀ v,p.2.data ≠ .cell v
 hok:aN X.prog X.w H s.heap
 len:σ.length=X.N.length
section
variable {X:Cx}{pins:List (Addr × Obj)}{σ:List (Option V)}{H H':Hp}{s:Shared}{h':Heap}
theorem Cx.Ok.nofr(ok:X.Ok){b:Addr}{o:Obj}(e:X.base.get? b=some o):b∉X.fs:=λhb=>by
 have:=(ok.funs.mem hb).1
 rw[e]at this; cases this
theorem ad.bs(I:ad X pins σ H s) : ∀ b o,X.base.get? b=some o->s.heap.get? b=some o/\H b=none:=λb o e =>
 ⟨I.base.keep b o (I.ok.bs b o e).1 (I.ok.bs b o e).2 (I.ok.nofr e) (I.ok.noex b o e),I.base.free b o (I.ok.bs b o e).1 (I.ok.bs b o e).2 (I.ok.noex b o e)⟩
theorem ad.bk(I:ad X pins σ H s) : ∀ b o,X.base.get? b=some o->s.heap.get? b=some o:=λb o e=>(I.bs b o e).1
theorem ad.mod(I:ad X pins σ H s):Mod X.K X.mg X.base:=I.ok.mod
theorem ad.kIn(I:ad X pins σ H s):X.K.In s.heap:=I.ok.mod.kin.keeps I.bk
theorem ad.lt(I:ad X pins σ H s):X.env.locals < s.heap.objs.size:=let ⟨_,hn,_⟩:=I.loc; hn.lt
theorem ad.sz(I:ad X pins σ H s):X.s₀.heap.objs.size<=s.heap.objs.size:=Nat.le_trans I.ok.above (Nat.le_of_lt I.lt)
theorem ad.nofs(I:ad X pins σ H s){a:Addr}(h:s.heap.objs.size<=a):a∉X.fs:=λhb=>by
 obtain⟨_,o,ho,_⟩:=I.ok.funs.mem hb
 exact absurd (Nat.lt_of_lt_of_le (Heap.lt_size ho) (Nat.le_trans I.sz h)) (Nat.lt_irrefl _)
theorem ad.cne(I:ad X pins σ H s) : ∀ x c,X.env.cells.lookup x=some c->c≠X.env.locals:=λx c e z=>by
 obtain⟨v,o,ho,hd⟩:=I.cell x c e
 obtain⟨m,⟨o',es,ep,ho',hd',_⟩,_⟩:=I.loc
 rw[z,ho']at ho; cases ho; rw[hd']at hd; cases hd
theorem ad.funs(I:ad X pins σ H s):s.heap.FunFrames X.base X.outer:=by
 have all : ∀ (l:List Env),(∀ b∈cb l,b∈X.fs)->X.s₀.heap.FunFrames X.base l->s.heap.FunFrames X.base l:=by
  intro l
  induction l with
  | nil=>intro _ _; trivial
  | cons env r ih =>
   intro hs hl
   obtain⟨hk,⟨L,o,hf,hn,ho,hd⟩,hr⟩:=hl
   have hL:L∈X.fs:=hs L (by unfold cb; rw[List.filterMap_cons,hf]; exact List.mem_cons_self)
   obtain⟨sl,e⟩:=I.base.slot L o ho (I.ok.frf L hL) hL λz=>I.ok.exfs L z hL
   exact⟨hk,⟨L,_,hf,hn,e,hd⟩,ih (λb hb=>hs b (by unfold cb; rw[List.filterMap_cons,hf]; exact List.mem_cons_of_mem _ hb)) hr⟩
 exact all X.outer (λ_ hb=>hb) I.ok.funs
theorem ad.stack(I:ad X pins σ H s):s.heap.FunFrames X.base X.stack:=by
 rcases I.ok.stk with e | ⟨e,hf⟩
 ·rw[e]; exact I.funs
 ·rw[e]
  obtain⟨m,hn,_⟩:=I.loc
  refine .cons (by rw[I.ok.kind]; decide) hf hn ?_ I.funs
  exact Heap.get?_none_of_le (Nat.le_trans I.ok.bsz I.ok.above)
theorem ad.stkSub(I:ad X pins σ H s) : ∀ b∈cb X.stack,b∈X.env.locals :: X.fs:=λb hb=>by
 rcases I.ok.stk with e | ⟨e,hf⟩
 ·rw[e]at hb; exact List.mem_cons_of_mem _ hb
 ·rw[e]at hb
  unfold cb at hb
  rw[List.filterMap_cons,hf]at hb
  exact hb
theorem ad.stkFree(I:ad X pins σ H s) : ∀ b∈cb X.stack,H b=none:=λb hb=>by
 rcases List.mem_cons.mp (I.stkSub b hb) with e | hb
 ·rw[e]; exact I.free
 ·obtain⟨_,o,ho,_⟩:=I.ok.funs.mem hb
  exact I.base.free b o ho (I.ok.frf b hb) λz=>I.ok.exfs b z hb
theorem ad.step{g':Array GenState}{t':Nat}{d':Drawn}{ch:List Addr}(I:ad X pins σ H s)
 (hch : ∀ b∈ch,(b∈X.ex\/X.s₀.heap.objs.size<=b)/\b≠X.env.locals/\(∀ x c,X.env.cells.lookup x=some c->c≠b)/\∀ p∈X.pn++pins,p.1≠b)
 (keep : ∀ b o,b≠X.env.locals->b∉X.fs->b∉ch->s.heap.get? b=some o->H b=none->h'.get? b=some o)
 (slot : ∀ b o,b≠X.env.locals->b∈X.fs->b∉ch->s.heap.get? b=some o->H b=none->∃ sl,h'.get? b=some { o with slots:=sl }) (free : ∀ b o,b∉ch->s.heap.get? b=some o->H b=none->H' b=none)
 (there : ∀ b o,b∉ch->s.heap.get? b=some o->∃ o',h'.get? b=some o')
 (tups : ∀ b xs,H b=some (.tup xs)->H' b=some (.tup xs)) (frzs : ∀ b o u,H b=some (.frz o u)->H' b=some (.frz o u)) (tbls : ∀ b ps,H b=some (.tbl ps)->∃ more,H' b=some (.tbl (ps++more)))
 (ns : ∀ m,s.heap.Ns X.env.locals m->h'.Ns X.env.locals m) (hok:aN X.prog X.w H' h') (hg:AllBare g') :
 ad X pins σ H' { s with heap:=h',gens:=g',drawn:=d',toks:=t' }:=by
 have neL : ∀ b o,X.s₀.heap.get? b=some o->b≠X.env.locals:=λb o e=>Nat.ne_of_lt (Nat.lt_of_lt_of_le (Heap.lt_size e) I.ok.above)
 have neC : ∀ b o,X.s₀.heap.get? b=some o->b∉X.ex->b∉ch:=λb o e hx hb=>by
  rcases (hch b hb).1 with z | z
  ·exact hx z
  ·exact absurd (Nat.lt_of_lt_of_le (Heap.lt_size e) z) (Nat.lt_irrefl _)
 have cellK : ∀ x c,X.env.cells.lookup x=some c->∀ v,s.heap.IsCell c v->h'.IsCell c v:=λx c e v ⟨o,ho,hd⟩=>by
  have nch:c∉ch:=λz=>(hch c z).2.2.1 x c e rfl
  by_cases hc:c∈X.fs
  ·obtain⟨sl,q⟩:=slot c o (I.cne x c e) hc nch ho (I.freeC x c e)
   exact⟨_,q,hd⟩
  ·exact⟨o,keep c o (I.cne x c e) hc nch ho (I.freeC x c e),hd⟩
 refine⟨I.ok,I.os,hg,⟨λb o e n hb hx=>?_,λb o e n hb hx=>?_,λb o e n hx=>?_,λb o e hx=>?_,λb xs e=>tups b xs (I.base.tups b xs e),λb o xs e=>frzs b o xs (I.base.frzs b o xs e),λb ps e=>?_⟩,?_,λx c e=>?_,?_,λx c e=>?_,λp hp=>?_,hok,I.len⟩
 ·exact keep b o (neL b o e) hb (neC b o e hx) (I.base.keep b o e n hb hx) (I.base.free b o e n hx)
 ·obtain⟨sl,e1⟩:=I.base.slot b o e n hb hx
  obtain⟨sl',e2⟩:=slot b _ (neL b o e) hb (neC b o e hx) e1 (I.base.free b o e n hx)
  exact⟨sl',e2⟩
 ·obtain⟨o',e1⟩:=I.base.there b o e hx
  exact free b o' (neC b o e hx) e1 (I.base.free b o e n hx)
 ·obtain⟨o',e1⟩:=I.base.there b o e hx
  exact there b o' (neC b o e hx) e1
 ·obtain⟨m1,e1⟩:=I.base.tbls b ps e
  obtain⟨m2,e2⟩:=tbls b _ e1
  exact⟨m1++m2,by rw[e2,Array.append_assoc]⟩
 ·obtain⟨m,hn,hl⟩:=I.loc
  refine⟨m,ns m hn,λi x v e1 e2 e3=>?_⟩
  obtain⟨u,r,l⟩:=hl i x v e1 e2 e3
  refine⟨u,r,?_⟩
  rcases l with l | ⟨k,c,e,z⟩
  ·exact .inl l
  ·exact .inr ⟨k,c,e,cellK x c e _ z⟩
 ·obtain⟨v,z⟩:=I.cell x c e
  exact⟨v,cellK x c e v z⟩
 ·obtain⟨m,⟨o,_,_,ho,_⟩,_⟩:=I.loc
  exact free _ o (λz=>(hch _ z).2.1 rfl) ho I.free
 ·obtain⟨v,o,ho,hd⟩:=I.cell x c e
  exact free c o (λz=>(hch c z).2.2.1 x c e rfl) ho (I.freeC x c e)
 ·obtain⟨e,n,ne,nf,d⟩:=I.pin p hp
  have nch:p.1∉ch:=λz=>(hch p.1 z).2.2.2 p hp rfl
  exact⟨keep p.1 p.2 ne nf nch e n,free p.1 p.2 nch e n,ne,nf,d⟩
theorem ad.un{t':Nat}(I:ad X pins σ H s)(u:Un X.fs [] H H' s.heap h')(hok:aN X.prog X.w H' h'):ad X pins σ H' { s with heap:=h',toks:=t' }:=by
 obtain⟨m,⟨o,es,ep,ho,r⟩,_⟩:=id I.loc
 obtain⟨sl,hL⟩:=u.any ho I.free (by simp)
 exact I.step (g':=s.gens) (d':=s.drawn) (ch:=[]) (λ_ z=>nomatch z) (λb o _ hb _ e n=>u.keep b o e n hb (by simp)) (λb o _ hb _ e n=>u.slot b o e n hb (by simp)) (λb o _ e n=>u.free b o e n (by simp)) (λb o _ e=>u.there b o e (by simp)) u.tups u.frzs u.tbls (λm' hm=>by
  obtain⟨o',es',ep',ho',r'⟩:=hm
  rw[ho]at ho'; cases ho'
  exact⟨_,es',ep',hL,r'⟩) hok I.bare
theorem ad.call{g':Array GenState}{t':Nat}{d':Drawn}{ch:List Addr}(I:ad X pins σ H s)(u:Un (cb X.stack) ch H H' s.heap h')(hok:aN X.prog X.w H' h')(hg:AllBare g')
 (hch : ∀ b∈ch,(b∈X.ex\/X.s₀.heap.objs.size<=b)/\b≠X.env.locals/\(∀ x c,X.env.cells.lookup x=some c->c≠b)/\∀ p∈X.pn++pins,p.1≠b) :
 ad X pins σ H' { s with heap:=h',gens:=g',drawn:=d',toks:=t' }:=by
 obtain⟨m,⟨o,es,ep,ho,r⟩,_⟩:=id I.loc
 obtain⟨sl,hL⟩:=u.any ho I.free λz=>(hch _ z).2.1 rfl
 exact I.step (ch:=ch) hch (λb o hL hb hc e n=>u.keep b o e n (λz=>(List.mem_cons.mp (I.stkSub b z)).elim hL hb) hc) (λb o _ _ hc e n=>u.any e n hc) (λb o hc e n=>u.free b o e n hc) (λb o hc e=>u.there b o e hc) u.tups u.frzs u.tbls (λm' hm=>by
  obtain⟨o',es',ep',ho',r'⟩:=hm
  rw[ho]at ho'; cases ho'
  exact⟨_,es',ep',hL,r'⟩) hok hg
theorem ad.turned{t':Nat}{it:Addr}(I:ad X pins σ H s)(k : ∀ b o,b≠it->s.heap.get? b=some o->h'.get? b=some o)(hn:H it=none)(hL:it≠X.env.locals)
 (h1:it∈X.ex\/X.s₀.heap.objs.size<=it) (h2 : ∀ x c,X.env.cells.lookup x=some c->c≠it) (h3 : ∀ p∈X.pn++pins,p.1≠it):ad X pins σ H { s with heap:=h',toks:=t' }:=by
 have nit : ∀ b u,H b=some u->b≠it:=λb u e z=>by rw[z,hn]at e; cases e
 refine I.step (g':=s.gens) (d':=s.drawn) (ch:=[it]) (λb hb=>?_) (λb o _ _ hc e _=>k b o (λz=>hc (by simp[z])) e) (λb o _ _ hc e _=>⟨o.slots,k b o (λz=>hc (by simp[z])) e⟩) (λ_ _ _ _ n=>n)
  (λb o hc e=>⟨o,k b o (λz=>hc (by simp[z])) e⟩) (λ_ _ e=>e) (λ_ _ _ e=>e) (λb ps e=>⟨#[],by rw[e]; simp⟩) (λm hm=>?_) (λb u e=>?_) I.bare
 ·have e:b=it:=by simpa using hb
  subst e
  exact⟨h1,hL,h2,h3⟩
 ·obtain⟨o,es,ep,ho,r⟩:=hm
  exact⟨o,es,ep,k _ o (Ne.symm hL) ho,r⟩
 ·refine (I.hok b u e).stay (λc v hc q=>k c v ?_ q) (λ_ q=>q) λ_ _ q=>q
  rcases hc with z | z
  ·rw[z]; exact nit b u e
  ·exact nit c _ z
theorem ad.tok(I:ad X pins σ H s)(t:Nat):ad X pins σ H { s with toks:=t }:=I.un (h':=s.heap) (t':=t) Un.refl I.hok
theorem ad.kept{t':Nat}(I:ad X pins σ H s)(k : ∀ b u,s.heap.get? b=some u->h'.get? b=some u):ad X pins σ H { s with heap:=h',toks:=t' }:=I.un (Un.kept k) (I.hok.kept k)
theorem ad.laid{a:Addr}{o:HO}{t':Nat}(I:ad X pins σ H s)(k : ∀ b u,s.heap.get? b=some u->h'.get? b=some u)(hp:s.heap.objs.size<=a)(new:aL X.prog X.w (upd H a o) h' a o) :
 ad X pins σ (upd H a o) { s with heap:=h',toks:=t' }:=I.un (Un.laid k hp (I.hok.fresh hp)) (I.hok.laid k hp new)
theorem ad.write{x e:Addr}{o:HO}{t':Nat}(I:ad X pins σ H s)(mu:i3 (H x))(he:e=x\/H e=some (.own x))(k : ∀ b u,b≠e->s.heap.get? b=some u->h'.get? b=some u)(heo : ∃ u,h'.get? e=some u)
 (new:aL X.prog X.w (upd H x o) h' x o):ad X pins σ (upd H x o) { s with heap:=h',toks:=t' }:=I.un (Un.write mu he k heo) (I.hok.write mu he k heo new)
theorem ad.pins_of{pins':List (Addr × Obj)}(I:ad X pins σ H s)(h : ∀ p∈pins',s.heap.get? p.1=some p.2/\H p.1=none/\p.1≠X.env.locals/\p.1∉X.fs/\∀ v,p.2.data ≠ .cell v):ad X pins' σ H s :=
 ⟨I.ok,I.os,I.bare,I.base,I.loc,I.cell,I.free,I.freeC,λp hp=>(List.mem_append.mp hp).elim (λz=>I.pin p (List.mem_append_left _ z)) (h p),I.hok,I.len⟩
theorem qX{N:List Str}(hN:N.Nodup){i j:Nat}{x:Str}(a:N[i]? = some x)(b:N[j]? = some x):i=j:=by
 obtain⟨h1,e1⟩:=List.getElem?_eq_some_iff.mp a
 obtain⟨h2,e2⟩:=List.getElem?_eq_some_iff.mp b
 exact (List.getElem_inj hN).mp (e1.trans e2.symm)
theorem pJ{M:Model}{A:Around}{E:Value->Shared->Prop}{i:Nat}{x:Str}{v:V}{u:Value}{Q:Unit->Shared->Prop}(I:ad X pins σ H s)(hN:X.N.Nodup)(hi:X.N[i]? = some x)(hx:fE X.env.scope x)(r:au v u)
 (h : ∀ s',ad X pins (σ.set i (some v)) H s'->(∃ a,Heap.SameBut a s.heap s'.heap/\(a=X.env.locals\/X.env.cells.lookup x=some a))->Q () s') (hf:X.fn x=true\/X.env.scope.names.lookup x=some .local:=by first | exact .inl rfl | exact .inr rfl | assumption):wpAny M A (storeName X.env x u) Q E s:=by
 obtain⟨m,hn,hl⟩:=id I.loc
 have hcls:(X.env.scope.kind == .class || (X.env.scope.kind == .module && X.env.locals != X.env.globals))=false:=by rw[I.ok.kind]; rfl
 have hiσ:i < σ.length:=by rw[I.len]; exact (List.getElem?_eq_some_iff.mp hi).1
 have cne:=I.cne
 have tracked : ∀ {a:Addr} {h':Heap},(∃ o,s.heap.get? a=some o/\H a=none)->Heap.SameBut a s.heap h'->aN X.prog X.w H h':=λ{a h'} ha hs b ob e=>by
  obtain⟨_,_,hfree⟩:=ha
  refine (I.hok b ob e).stay (λc w' hc q=>(hs.2 c ?_).trans q) (λ_ q=>q) λ_ _ q=>q
  rintro rfl
  rcases hc with rfl | hc
  ·rw[hfree]at e; cases e
  ·rw[hfree]at hc; cases hc
 rcases hx with hk | hk
 ·refine wpAny_storeName_local hk hn (λh' hn' hs=>?_) hcls
  obtain⟨oL,_,_,hoL,_⟩:=id hn
  refine h _ ⟨I.ok,I.os,I.bare,⟨λb o e n hb hx=>?_,λb o e n hb hx=>?_,I.base.free,λb o e hx=>?_,I.base.tups,I.base.frzs,I.base.tbls⟩,⟨_,hn',λj y v' e1 e2 e3=>?_⟩,λy c e=>?_,I.free,I.freeC,λp hp=>?_,tracked ⟨oL,hoL,I.free⟩ hs,by simpa using I.len⟩ ⟨_,hs,.inl rfl⟩
  ·exact (hs.2 b (Nat.ne_of_lt (Nat.lt_of_lt_of_le (Heap.lt_size e) I.ok.above))).trans (I.base.keep b o e n hb hx)
  ·obtain⟨sl,e1⟩:=I.base.slot b o e n hb hx
   exact⟨sl,(hs.2 b (Nat.ne_of_lt (Nat.lt_of_lt_of_le (Heap.lt_size e) I.ok.above))).trans e1⟩
  ·obtain⟨o',e1⟩:=I.base.there b o e hx
   exact⟨o',(hs.2 b (Nat.ne_of_lt (Nat.lt_of_lt_of_le (Heap.lt_size e) I.ok.above))).trans e1⟩
  ·by_cases hj:j=i
   ·subst hj
    rw[hi]at e1; cases e1
    rw[List.getElem?_set_self hiσ]at e2
    cases e2
    exact⟨u,r,.inl ⟨hk,by simp⟩⟩
   ·rw[List.getElem?_set_ne (Ne.symm hj)]at e2
    obtain⟨u',r',q⟩:=hl j y v' e1 e2 e3
    refine⟨u',r',?_⟩
    rcases q with ⟨k,e⟩ | ⟨k,c,e,z⟩
    ·refine .inl ⟨k,?_⟩
     have:y≠x:=λe=>hj (qX hN e1 (e ▸ hi))
     simp[this,e]
    ·exact .inr ⟨k,c,e,z.sameBut hs (cne y c e)⟩
  ·obtain⟨w',z⟩:=I.cell y c e
   exact⟨w',z.sameBut hs (cne y c e)⟩
  ·obtain⟨e,n,ne,nf,d⟩:=I.pin p hp
   exact⟨(hs.2 p.1 ne).trans e,n,ne,nf,d⟩
 ·have hfn:X.fn x=true:=by
   rcases hf with z | z
   ·exact z
   ·rw[z]at hk; cases hk
  obtain⟨c,hc⟩:=I.ok.has x (.inl hk)
  obtain⟨w',z⟩:=I.cell x c hc
  refine wpAny_storeName_cell I.ok.kind hk hc z (λh' hc' hs=>?_)
  obtain⟨oc,hoc,hocd⟩:=id z
  refine h { s with heap:=h' } ⟨I.ok,I.os,I.bare,⟨λb o e n hb hx=>?_,λb o e n hb hx=>?_,I.base.free,λb o e hx=>?_,I.base.tups,I.base.frzs,I.base.tbls⟩,⟨m,hn.sameBut hs (Ne.symm (cne x c hc)),λj y v' e1 e2 e3=>?_⟩,λy c' e=>?_,I.free,I.freeC,λp hp=>?_,tracked ⟨oc,hoc,I.freeC x c hc⟩ hs,by simpa using I.len⟩ ⟨c,hs,.inr hc⟩
  ·exact (hs.2 b (Nat.ne_of_lt (Nat.lt_of_lt_of_le (Heap.lt_size e) (I.ok.cab x c hfn hc)))).trans (I.base.keep b o e n hb hx)
  ·obtain⟨sl,e1⟩:=I.base.slot b o e n hb hx
   exact⟨sl,(hs.2 b (Nat.ne_of_lt (Nat.lt_of_lt_of_le (Heap.lt_size e) (I.ok.cab x c hfn hc)))).trans e1⟩
  ·obtain⟨o',e1⟩:=I.base.there b o e hx
   exact⟨o',(hs.2 b (Nat.ne_of_lt (Nat.lt_of_lt_of_le (Heap.lt_size e) (I.ok.cab x c hfn hc)))).trans e1⟩
  ·by_cases hj:j=i
   ·subst hj
    rw[hi]at e1; cases e1
    rw[List.getElem?_set_self hiσ]at e2
    cases e2
    exact⟨u,r,.inr ⟨.inl hk,c,hc,hc'⟩⟩
   ·rw[List.getElem?_set_ne (Ne.symm hj)]at e2
    obtain⟨u',r',q⟩:=hl j y v' e1 e2 e3
    refine⟨u',r',?_⟩
    rcases q with q | ⟨k,c',e,z'⟩
    ·exact .inl q
    ·refine .inr ⟨k,c',e,z'.sameBut hs ?_⟩
     rintro rfl
     exact hj (qX hN e1 (I.ok.inj _ _ _ e hc ▸ hi))
  ·by_cases hcc:c'=c
   ·subst hcc; exact⟨_,hc'⟩
   ·obtain⟨w2,z2⟩:=I.cell y c' e
    exact⟨w2,z2.sameBut hs hcc⟩
  ·obtain⟨e,n,ne,nf,d⟩:=I.pin p hp
   refine⟨(hs.2 p.1 ?_).trans e,n,ne,nf,d⟩
   intro q
   rw[q,hoc]at e
   have q':oc=p.2:=Option.some.inj e
   exact d w' (by rw[<- q']; exact hocd)
theorem pK{M:Model}{A:Around}{E:Value->Shared->Prop}{i:Nat}{x:Str}{v:V}{u:Value}{Q:Unit->Shared->Prop}(I:ad X pins σ H s)(hN:X.N.Nodup)(hi:X.N[i]? = some x)(hx:fE X.env.scope x)(r:au v u)
 (h : ∀ s',ad X pins (σ.set i (some v)) H s'->Q () s') (hf:X.fn x=true\/X.env.scope.names.lookup x=some .local:=by first | exact .inl rfl | exact .inr rfl | assumption):wpAny M A (storeName X.env x u) Q E s :=
 pJ I hN hi hx r (λs' I' _=>h s' I') hf
theorem ad.call'{s':Shared}{ch:List Addr}(I:ad X pins σ H s)(ho:s'.os=s.os)(u:Un (cb X.stack) ch H H' s.heap s'.heap)(hok:aN X.prog X.w H' s'.heap)(hg:AllBare s'.gens)
 (hch : ∀ b∈ch,(b∈X.ex\/X.s₀.heap.objs.size<=b)/\b≠X.env.locals/\(∀ x c,X.env.cells.lookup x=some c->c≠b)/\∀ p∈X.pn++pins,p.1≠b):ad X pins σ H' s':=by
 obtain⟨h',g',d',t',o'⟩:=s'
 have e:o'=s.os:=ho
 subst e
 exact I.call (g':=g') (t':=t') (d':=d') u hok hg hch
end
abbrev XK:=Value->Option Addr->Hp->Prop
abbrev St:=List (Option V)
abbrev VK:=V->Hp->Prop
abbrev TE:=St->Hp->VK->Prop
abbrev TT:=St->Hp->(Bool->Hp->Prop)->Prop
abbrev TA:=St->Hp->(List V->Hp->Prop)->Prop
structure cH where
 nx:St->Hp->Prop
 rt:VK
 bk:St->Hp->Prop:=λ_ _=>False
 ct:St->Hp->Prop:=λ_ _=>False
abbrev TS:=cH->St->Hp->Prop
def EP(X:Cx)(pins:List (Addr × Obj))(σ:St)(Q:VK)(u:Value)(s':Shared):Prop:=∃ v H',ad X pins σ H' s'/\au v u/\Q v H'
def TP(X:Cx)(pins:List (Addr × Obj))(σ:St)(Q:Bool->Hp->Prop)(b:Bool)(s':Shared):Prop:=∃ H',ad X pins σ H' s'/\Q b H'
def AP(X:Cx)(pins:List (Addr × Obj))(σ:St)(Q:List V->Hp->Prop)(us:List Value)(s':Shared):Prop:=∃ vs H',ad X pins σ H' s'/\ar vs us/\Q vs H'
def SP(X:Cx)(pins:List (Addr × Obj))(D:cH)(f:Flow)(s':Shared):Prop :=
 match f with
 | .next=>∃ σ' H',ad X pins σ' H' s'/\D.nx σ' H'
 | .brk=>∃ σ' H',ad X pins σ' H' s'/\D.bk σ' H'
 | .cont=>∃ σ' H',ad X pins σ' H' s'/\D.ct σ' H'
 | .ret u=>∃ v σ' H',ad X pins σ' H' s'/\au v u/\D.rt v H'
def PE(X:Cx)(e:Expr)(t:TE):Prop :=
 ∀ (pins:List (Addr × Obj)) (s:Shared) (σ:St) (H:Hp) (Q:VK),ad X pins σ H s->t σ H Q->wpAny (model X.prog X.w) X.A (eval e X.env) (EP X pins σ Q) X.xe s
def PT(X:Cx)(e:Expr)(t:TT):Prop :=
 ∀ (pins:List (Addr × Obj)) (s:Shared) (σ:St) (H:Hp) (Q:Bool->Hp->Prop),ad X pins σ H s->t σ H Q->wpAny (model X.prog X.w) X.A (isTrue e X.env (eval e X.env)) (TP X pins σ Q) X.xe s
def PW(X:Cx)(e:Expr)(t:TT):Prop :=
 ∀ (whole:Sem Value) (pins:List (Addr × Obj)) (s:Shared) (σ:St) (H:Hp) (Q:Bool->Hp->Prop),ad X pins σ H s->t σ H Q->wpAny (model X.prog X.w) X.A (isTrue e X.env whole) (TP X pins σ Q) X.xe s
theorem PW.pt{X:Cx}{e:Expr}{t:TT}(h:PW X e t):PT X e t:=h _
def PA(X:Cx)(es:List Expr)(t:TA):Prop :=
 ∀ (pos:Pos) (pins:List (Addr × Obj)) (s:Shared) (σ:St) (H:Hp) (Q:List V->Hp->Prop),ad X pins σ H s->t σ H Q->wpAny (model X.prog X.w) X.A (spliced (backTo pos (starEach es X.env))) (AP X pins σ Q) X.xe s
def PS(X:Cx)(st:Stmt)(t:TS):Prop :=
 ∀ (pins:List (Addr × Obj)) (s:Shared) (σ:St) (H:Hp) (D:cH),ad X pins σ H s->t D σ H->wpAny (model X.prog X.w) X.A (exec st X.env) (SP X pins D) X.xe s
def cN(X:Cx)(st:List Stmt)(t:TS):Prop :=
 ∀ (pins:List (Addr × Obj)) (s:Shared) (σ:St) (H:Hp) (D:cH),ad X pins σ H s->t D σ H->wpAny (model X.prog X.w) X.A (execs st X.env) (SP X pins D) X.xe s
theorem aj{α:Type}{t:Sem α}{Q Q':α->Shared->Prop}{M:Model}{A:Around}{E:Value->Shared->Prop}{s:Shared}(h:wpAny M A t Q E s)(hQ : ∀ a s,Q a s->Q' a s):wpAny M A t Q' E s:=wpAny_mono h hQ λ_ _ x=>x
section
variable {X:Cx}
def vn(i:Nat):TE:=λσ H Q=>∃ v,σ[i]? = some (some v)/\Q v H
def tC(v:V):TE:=λ_ H Q=>Q v H
theorem yp {i:Nat} {x:Str} {pos:Pos} (hN:X.N[i]? = some x) (hv:io X.env.scope x) (hd:(x == ("__debug__" : Str))=false:=by decide) (hcd:(x == ("__classdict__" : Str))=false:=by decide):PE X (.Name x pos) (vn i):=by
 intro pins s σ H Q I h
 obtain⟨v,e,h⟩:=h
 obtain⟨m,hn,hl⟩:=I.loc
 obtain⟨u,r,l⟩:=hl i x v hN e hv
 have fin:EP X pins σ Q u s:=⟨v,H,I,r,h⟩
 rcases l with ⟨hk,hm⟩ | ⟨hk,c,hc,hcell⟩
 ·exact wpAny_Name (wpAny_loadName_local I.ok.kind hk hn hm fin) hd
 ·rcases hk with hk | hk
  ·exact wpAny_Name (wpAny_loadName_cell I.ok.kind hk hc hcell fin) hd
  ·exact wpAny_Name (wpAny_loadName_free I.ok.kind hk hc hcell fin hcd) hd
theorem jx{i j pos}:PE X (.Constant (.int i) j pos) (tC (.int i)):=λ_ _ _ H _ I h=>wpAny_Constant_int ⟨.int i,H,I.tok _,⟨_,rfl⟩,h⟩
theorem qK{b j pos}:PE X (.Constant (.bool b) j pos) (tC (.bl b)):=λ_ _ _ H _ I h=>Constant_bool ⟨.bl b,H,I,rfl,h⟩
theorem qJ{j pos}:PE X (.Constant .none j pos) (tC .non):=λ_ _ _ H _ I h=>Constant_none ⟨.non,H,I,rfl,h⟩
theorem qI{x j pos}:PE X (.Constant (.str x) j pos) (tC (.str x)):=λ_ _ _ H _ I h=>Calls.Constant_str ⟨.str x,H,I.tok _,⟨_,rfl⟩,h⟩
def Gl(X:Cx)(x:Str):Prop:=X.env.kindOf x=some .globalImplicit
theorem lC{E:Value->Shared->Prop}{pins:List (Addr × Obj)}{s:Shared}{σ:St}{H:Hp}{x:Str}{u:Value}{pos:Pos}{Q:Value->Shared->Prop}(I:ad X pins σ H s)(hg:Gl X x)(hm:X.mg x=some u)(h:Q u s)
 (hd:(x == ("__debug__" : Str))=false:=by decide):wpAny (model X.prog X.w) X.A (eval (.Name x pos) X.env) Q E s :=
 Calls.Name_function_global I.ok.kind hg (Calls.loadGlobal_global (by rw[I.ok.glob]; exact I.mod.glob.keeps I.bk) hm h) hd
theorem fj{E:Value->Shared->Prop}{pins:List (Addr × Obj)}{s:Shared}{σ:St}{H:Hp}{x:Str}{u:Value}{pos:Pos}{Q:Value->Shared->Prop}(I:ad X pins σ H s)(hg:Gl X x)(hm:X.mg x=none)(hv:bootBuiltins x=some u)(h:Q u s)
 (hn:x ≠ "__name__":=by decide) (hd:(x == ("__debug__" : Str))=false:=by decide):wpAny (model X.prog X.w) X.A (eval (.Name x pos) X.env) Q E s:=by
 obtain⟨mb,h1,h2⟩:=I.mod.blt
 exact Calls.Name_function_global I.ok.kind hg (Calls.loadGlobal_builtin (by rw[I.ok.glob]; exact I.mod.glob.keeps I.bk) hm (by rw[I.ok.blt]; exact h1.keeps I.bk) ((h2 x hn).trans hv) h) hd
theorem yC {x:Str} {v:V} {u:Value} {pos:Pos} (hg:Gl X x) (hm:X.mg x=some u) (r:au v u) (hd:(x == ("__debug__" : Str))=false:=by decide):PE X (.Name x pos) (tC v) :=
 λ_ _ _ H _ I h=>lC I hg hm ⟨v,H,I,r,h⟩ hd
theorem yP {x:Str} {v:V} {u:Value} {pos:Pos} (hg:Gl X x) (hm:X.mg x=none) (hv:bootBuiltins x=some u) (r:au v u) (hn:x ≠ "__name__":=by decide) (hd:(x == ("__debug__" : Str))=false:=by decide):PE X (.Name x pos) (tC v) :=
 λ_ _ _ H _ I h=>fj I hg hm hv ⟨v,H,I,r,h⟩ hn hd
variable {a b:Expr}{ta tb:TE}{pos:Pos}
variable {tA tB':TT}{rest:List Expr}
def pH(t u:TT):TT:=λσ H Q=>t σ H λc H1=>if c=true then u σ H1 Q else Q false H1
def kH(t u:TT):TT:=λσ H Q=>t σ H λc H1=>if c=true then Q true H1 else u σ H1 Q
def pq(t:TT):TT:=λσ H Q=>t σ H λc H1=>Q (!c) H1
theorem xy(ha:PT X a tA):PW X (.BoolOp .And [a] pos) tA:=by
 intro wh pins s σ H Q I h
 refine isTrue_and (aj (ha pins s σ H Q I h) λc s1 e=>?_)
 cases c with
 | true=>exact isTrue_and_nil e
 | false=>exact e
theorem xw(ha:PT X a tA):PW X (.BoolOp .Or [a] pos) tA:=by
 intro wh pins s σ H Q I h
 refine isTrue_or (aj (ha pins s σ H Q I h) λc s1 e=>?_)
 cases c with
 | false=>exact isTrue_or_nil e
 | true=>exact e
theorem xz(ha:PT X a tA)(hb:PW X (.BoolOp .And (b :: rest) pos) tB'):PW X (.BoolOp .And (a :: b :: rest) pos) (pH tA tB'):=by
 intro wh pins s σ H Q I h
 refine isTrue_and (aj (ha pins s σ H _ I h) λc s1 ⟨H1,I1,q1⟩=>?_)
 cases c with
 | true=>exact hb wh pins s1 σ H1 Q I1 q1
 | false=>exact⟨H1,I1,q1⟩
theorem xx(ha:PT X a tA)(hb:PW X (.BoolOp .Or (b :: rest) pos) tB'):PW X (.BoolOp .Or (a :: b :: rest) pos) (kH tA tB'):=by
 intro wh pins s σ H Q I h
 refine isTrue_or (aj (ha pins s σ H _ I h) λc s1 ⟨H1,I1,q1⟩=>?_)
 cases c with
 | true=>exact⟨H1,I1,q1⟩
 | false=>exact hb wh pins s1 σ H1 Q I1 q1
theorem xL(ha:PT X a tA):PT X (.UnaryOp .Not a pos) (pq tA):=by
 intro pins s σ H Q I h
 exact isTrue_not (ha pins s σ H (λc H1=>Q (!c) H1) I h)
theorem yw{op}{t:TE}(h:PE X a t):PE X (.BoolOp op [a] pos) t:=λpins s σ H Q I hw=>BoolOp_one (h pins s σ H Q I hw)
def pB(t:TT)(ta tb:TE):TE:=λσ H Q=>t σ H λc H1=>if c=true then ta σ H1 Q else tb σ H1 Q
theorem yB{c:Expr}(hc:PT X c tA)(ha:PE X a ta)(hb:PE X b tb):PE X (.IfExp c a b pos) (pB tA ta tb):=by
 intro pins s σ H Q I h
 refine wpAny_IfExp (aj (hc pins s σ H _ I h) λd s1 ⟨H1,I1,q1⟩=>?_)
 cases d with
 | true=>exact ha pins s1 σ H1 Q I1 q1
 | false=>exact hb pins s1 σ H1 Q I1 q1
end
def ax(K:W.Frag)(H:Hp)(a:Addr)(xs:List V):Prop :=
 Rd H a (.lst xs) \/
  ∃ (o:Obj) (its:Array Value) (n:Nat),K.lookup a=some o/\o.cls=.type "list"/\o.dict=none/\o.data=.seq its n/\its.size<=sizeLine/\ar xs its.toList
def bu(K:W.Frag)(H:Hp)(a:Addr)(xs:List V):Prop :=
 Rd H a (.tup xs) \/
  ∃ (o:Obj) (its:Array Value) (n:Nat),K.lookup a=some o/\o.cls=.type "tuple"/\o.data=.seq its n/\its.size<=sizeLine/\ar xs its.toList
def Dg:Value->Option V
 | .none=>some .non
 | .bool b=>some (.bl b)
 | .int i _=>some (.int i)
 | .str x _=>some (.str x)
 | .bytes b _=>some (.byt b)
 | .float b _=>some (.flt b)
 | .ref a=>some (.ref a)
 | .type n=>some (.ty n)
 | _=>none
theorem au.abs{x:V}{u:Value}(r:au x u):Dg u=some x:=by
 cases x with
 | non=>cases r; rfl
 | bl _=>cases r; rfl
 | int _=>obtain⟨t,rfl⟩:=r; rfl
 | str _=>obtain⟨t,rfl⟩:=r; rfl
 | byt _=>obtain⟨t,rfl⟩:=r; rfl
 | flt _=>obtain⟨t,rfl⟩:=r; rfl
 | ref _=>cases r; rfl
 | ty _=>cases r; rfl
theorem au.inj{x y:V}{u:Value}(r:au x u)(q:au y u):x=y:=Option.some.inj (r.abs.symm.trans q.abs)
theorem ar.inj : ∀ {xs ys:List V} {us:List Value},ar xs us->ar ys us->xs=ys
 | _,_,_,.nil,.nil=>rfl
 | _,_,_,.cons r t,.cons r' t'=>by rw[r.inj r',ar.inj t t']
section
variable {X:Cx}{pins:List (Addr × Obj)}{σ:St}{H:Hp}{s:Shared}{a:Addr}{xs ys:List V}
theorem ax.of{K:W.Frag}(h:H a=some (.lst xs)):ax K H a xs:=.inl (.inl h)
theorem bu.of{K:W.Frag}(h:H a=some (.tup xs)):bu K H a xs:=.inl (.inl h)
theorem ad.list(I:ad X pins σ H s)(h:ax X.K H a xs) : ∃ its:List Value,ar xs its/\PlainL s.heap a its.toArray/\xs.length<=sizeLine:=by
 rcases h with h | ⟨o,its,n,hk,hc,hd,hs,hz,r⟩
 ·obtain⟨z,its,n,r,e⟩:=h.ok I.hok
  exact⟨its,r,⟨_,n,e,rfl,rfl,rfl⟩,z⟩
 ·refine⟨its.toList,r,⟨o,n,I.kIn a o hk,hc,hd,by simpa using hs⟩,?_⟩
  have e:=r.length
  simp only [Array.length_toList]at e
  omega
theorem ad.tuple(I:ad X pins σ H s)(h:bu X.K H a xs) : ∃ its:List Value,ar xs its/\IsTup s.heap a its.toArray/\xs.length<=sizeLine:=by
 rcases h with h | ⟨o,its,n,hk,hc,hs,hz,r⟩
 ·obtain⟨z,its,r,p⟩:=h.ok I.hok
  exact⟨its,r,p,z⟩
 ·refine⟨its.toList,r,⟨o,I.kIn a o hk,hc,n,by simpa using hs⟩,?_⟩
  have e:=r.length
  simp only [Array.length_toList]at e
  omega
theorem ad.list_inj(I:ad X pins σ H s)(h:ax X.K H a xs)(h':ax X.K H a ys):xs=ys:=by
 obtain⟨its,r,⟨o,n,e,_,_,d⟩,_⟩:=I.list h
 obtain⟨its',r',⟨o',n',e',_,_,d'⟩,_⟩:=I.list h'
 rw[e]at e'; cases e'
 rw[d]at d'
 injection d' with d1 _
 have:its=its':=by simpa using congrArg Array.toList d1
 subst this
 exact r.inj r'
theorem ad.tuple_inj(I:ad X pins σ H s)(h:bu X.K H a xs)(h':bu X.K H a ys):xs=ys:=by
 obtain⟨its,r,⟨o,e,_,n,d⟩,_⟩:=I.tuple h
 obtain⟨its',r',⟨o',e',_,n',d'⟩,_⟩:=I.tuple h'
 rw[e]at e'; cases e'
 rw[d]at d'
 injection d' with d1 _
 have:its=its':=by simpa using congrArg Array.toList d1
 subst this
 exact r.inj r'
end
abbrev Cx.wish(X:Cx)(E:Value->Shared->Prop):Cx:={ X with xe:=E }
abbrev Cx.nox(X:Cx):Cx:=X.wish λ_ _=>False
theorem Cx.Ok.wish{X:Cx}(ok:X.Ok)(E:Value->Shared->Prop):(X.wish E).Ok :=
 ⟨ok.mod,ok.kind,ok.glob,ok.blt,ok.above,ok.inj,ok.has,ok.cab,ok.hd,ok.frames,ok.stk,ok.exf,ok.bs,ok.bsz,ok.noex,ok.exfs,ok.funs,ok.frf⟩
theorem Cx.Ok.unwish{X:Cx}{E:Value->Shared->Prop}(ok:(X.wish E).Ok):X.Ok :=
 ⟨ok.mod,ok.kind,ok.glob,ok.blt,ok.above,ok.inj,ok.has,ok.cab,ok.hd,ok.frames,ok.stk,ok.exf,ok.bs,ok.bsz,ok.noex,ok.exfs,ok.funs,ok.frf⟩
section
variable {X:Cx}{pins:List (Addr × Obj)}{σ:St}{H:Hp}{s:Shared}{E:Value->Shared->Prop}
theorem ad.wish(I:ad X pins σ H s)(E:Value->Shared->Prop):ad (X.wish E) pins σ H s:=⟨I.ok.wish E,I.os,I.bare,I.base,I.loc,I.cell,I.free,I.freeC,I.pin,I.hok,I.len⟩
theorem ad.unwish(I:ad (X.wish E) pins σ H s):ad X pins σ H s:=⟨I.ok.unwish,I.os,I.bare,I.base,I.loc,I.cell,I.free,I.freeC,I.pin,I.hok,I.len⟩
theorem SP.unwish{D:cH}{f:Flow}{s':Shared}(h:SP (X.wish E) pins D f s'):SP X pins D f s':=by
 cases f with
 | next=>obtain⟨σ',H',I,q⟩:=h; exact⟨σ',H',I.unwish,q⟩
 | brk=>obtain⟨σ',H',I,q⟩:=h; exact⟨σ',H',I.unwish,q⟩
 | cont=>obtain⟨σ',H',I,q⟩:=h; exact⟨σ',H',I.unwish,q⟩
 | ret u=>obtain⟨v,σ',H',I,r,q⟩:=h; exact⟨v,σ',H',I.unwish,r,q⟩
theorem cN.nox{st:List Stmt}{t:TS}(h:cN X.nox st t):cN X st t:=λpins s σ H D I hw =>
 wpAny_mono (h pins s σ H D (I.wish _) hw) (λ_ _ q=>q.unwish) λ_ _ z=>False.elim z
end
section
variable {X:Cx}{st:Stmt}{rest:List Stmt}{t u:TS}{e:Expr}{te:TE}{pos:Pos}
def jb:TS:=λD σ H=>D.nx σ H
def i9(t u:TS):TS:=λD σ H=>t { D with nx:=u D } σ H
theorem xN:cN X [] jb:=λ_ _ σ H _ I h=>wpAny_execs_nil ⟨σ,H,I,h⟩
theorem xO(h1:PS X st t)(h2:cN X rest u):cN X (st :: rest) (i9 t u):=by
 intro pins s σ H D I h
 refine wpAny_execs_cons (aj (h1 pins s σ H { D with nx:=u D } I h) λf s1 q=>?_)
 cases f with
 | next =>
  obtain⟨σ',H',I',q⟩:=q
  exact h2 pins s1 σ' H' D I' q
 | ret v=>exact q
 | brk=>exact q
 | cont=>exact q
theorem xM(h1:PS X st t):cN X [st] t:=by
 intro pins s σ H D I h
 refine wpAny_execs_cons (aj (h1 pins s σ H D I h) λf s1 q=>?_)
 cases f with
 | next=>exact wpAny_execs_nil q
 | ret v=>exact q
 | brk=>exact q
 | cont=>exact q
theorem ad.quiet{pins:List (Addr × Obj)}{σ:St}{H:Hp}{s:Shared}(I:ad X pins σ H s):interactive X.env=false:=by simp[interactive,I.ok.kind]
def pE(te:TE):TS:=λD σ H=>te σ H λ_ H1=>D.nx σ H1
theorem xX(he:PE X e te)(hs:swapsWith e none pos.line X.env=pure false:=by rfl):PS X (.Expr e pos) (pE te):=by
 intro pins s σ H D I h
 exact wpAny_Expr_any (aj (he pins s σ H _ I h) λv s1 ⟨x,H1,I1,r1,q1⟩=>⟨σ,H1,I1,q1⟩) I.quiet hs
def ph(te:TE):TS:=λD σ H=>te σ H D.rt
theorem xS(he:PE X e te):PS X (.Return (some e) pos) (ph te):=by
 intro pins s σ H D I h
 exact wpAny_Return_some (aj (he pins s σ H _ I h) λv s1 ⟨x,H1,I1,r1,q1⟩=>⟨x,σ,H1,I1,r1,q1⟩)
def jd(c:TT)(t u:TS):TS:=λD σ H=>c σ H λb H1=>if b=true then t D σ H1 else u D σ H1
theorem xU{c:Expr}{a b:List Stmt}{tc:TT}(hc:PT X c tc)(ha:cN X a t)(hb:cN X b u):PS X (.If c a b pos) (jd tc t u):=by
 intro pins s σ H D I h
 refine wpAny_If (aj (hc pins s σ H _ I h) λd s1 ⟨H1,I1,q1⟩=>?_)
 cases d with
 | true=>exact ha pins s1 σ H1 D I1 q1
 | false=>exact hb pins s1 σ H1 D I1 q1
def pz:TS:=λ_ _ _=>False
theorem xT:PS X st pz:=λ_ _ _ _ _ _ h=>h.elim
end
abbrev TG:=V->St->Hp->(St->Hp->Prop)->Prop
abbrev eh:=List V->St->Hp->(St->Hp->Prop)->Prop
def PG(X:Cx)(target:Expr)(t:TG):Prop :=
 ∀ (pins:List (Addr × Obj)) (s:Shared) (σ:St) (H:Hp) (v:V) (u:Value) (Q:St->Hp->Prop),ad X pins σ H s->au v u->t v σ H Q ->
  wpAny (model X.prog X.w) X.A (assign target X.env u) (λ_ s'=>∃ σ' H',ad X pins σ' H' s'/\Q σ' H') X.xe s
def iY(X:Cx)(ts:List Expr)(t:eh):Prop :=
 ∀ (pins:List (Addr × Obj)) (s:Shared) (σ:St) (H:Hp) (vs:List V) (us:List Value) (Q:St->Hp->Prop),ad X pins σ H s->ar vs us->t vs σ H Q ->
  wpAny (model X.prog X.w) X.A (assignInOrder ((assignEach ts X.env).map (·.2)) us) (λ_ s'=>∃ σ' H',ad X pins σ' H' s'/\Q σ' H') X.xe s
section
variable {X:Cx}{pos:Pos}
def bD(i:Nat):TG:=λv σ H Q=>Q (σ.set i (some v)) H
theorem yo{i:Nat}{x:Str}(hN:X.N.Nodup)(hi:X.N[i]? = some x)(hx:fE X.env.scope x)(hf:X.fn x=true\/X.env.scope.names.lookup x=some .local:=by first | exact .inl rfl | exact .inr rfl | assumption):PG X (.Name x pos) (bD i):=by
 intro pins s σ H v u Q I r h
 exact wpAny_assign_Name (pK I hN hi hx r (λs' I'=>⟨_,H,I',h⟩) hf)
def ij:eh:=λvs σ H Q=>vs=[]/\Q σ H
def dZ(t:TG)(u:eh):eh:=λvs σ H Q=>∃ v r,vs=v :: r/\t v σ H λσ' H'=>u r σ' H' Q
theorem yi:iY X [] ij:=by
 intro pins s σ H vs us Q I r h
 obtain⟨e,h⟩:=h
 subst e
 cases r
 exact assignInOrder_nil ⟨σ,H,I,h⟩
theorem yj{e:Expr}{es:List Expr}{t:TG}{u:eh}(h1:PG X e t)(h2:iY X es u)
 (hs:(assignEach (e :: es) X.env).map (·.2)=assign e X.env :: (assignEach es X.env).map (·.2):=by rfl):iY X (e :: es) (dZ t u):=by
 intro pins s σ H vs us Q I r h
 obtain⟨v,vr,e1,h⟩:=h
 subst e1
 cases r with
 | cons r rr =>
  rw[hs]
  refine assignInOrder_cons (aj (h1 pins s σ H _ _ _ I r h) λ_ s1 ⟨σ1,H1,I1,q1⟩=>?_)
  exact h2 pins s1 σ1 H1 _ _ Q I1 rr q1
def fW(K:W.Frag)(n:Nat)(t:eh):TG:=λv σ H Q=>∃ a xs,v=.ref a/\bu K H a xs/\xs.length=n/\t xs σ H Q
theorem yn{es:List Expr}{k:Nat}{t:eh}{n:Nat}(hc:X.calm=true)(h:iY X es t)
 (hn:(assignEach es X.env).length=n:=by rfl) (hst:(assignEach es X.env).findIdx? (·.1)=none:=by rfl):PG X (.Tuple es k pos) (fW X.K n t):=by
 intro pins s σ H v u Q I r hw
 obtain⟨a,xs,e1,hq,hl,hw⟩:=hw
 subst e1
 cases r
 obtain⟨its,rv,ht,hz⟩:=I.tuple hq
 refine assign_Tuple_tuple (I.ok.hd hc) ht (by simp[hn,<- hl,rv.length]) hst λh' hx=>?_
 have I1:ad X pins σ H { s with heap:=h' }:=I.kept (t':=s.toks) λb o e=>hx b o (Nat.ne_of_lt (Heap.lt_size e)) e
 exact h pins _ σ H xs _ Q I1 (by simpa using rv) hw
def gy(te:TE)(g:TG):TS:=λD σ H=>te σ H λx H1=>g x σ H1 D.nx
theorem xZ{tg e:Expr}{te:TE}{g:TG}(he:PE X e te)(hg:PG X tg g)(hs:swapsWithSole [tg] e pos.line X.env=pure false:=by rfl)(hw:swappedStores [tg] e X.env=pure none:=by rfl)
 (h1:(assignEach [tg] X.env).map (·.2)=[assign tg X.env]:=by rfl):PS X (.Assign [tg] e pos) (gy te g):=by
 intro pins s σ H D I h
 refine wpAny_Assign_stores (aj (he pins s σ H _ I h) λv s1 ⟨x,H1,I1,r1,q1⟩=>?_) hs hw
 rw[h1]
 exact aj (hg pins s1 σ H1 x v _ I1 r1 q1) λ_ s2 q=>q
theorem xR{i:Nat}{x:Str}{e:Expr}{te:TE}{pos':Pos}(hN:X.N.Nodup)(hi:X.N[i]? = some x)(hx:fE X.env.scope x)(he:PE X e te)(hs:swapsWith e (some (.Name x pos')) pos.line X.env=pure false:=by rfl)(hf:X.fn x=true\/X.env.scope.names.lookup x=some .local:=by first | exact .inl rfl | exact .inr rfl | assumption) :
 PS X (.Assign [.Name x pos'] e pos) (gy te (bD i)):=by
 intro pins s σ H D I h
 refine wpAny_Assign_Name (aj (he pins s σ H _ I h) λv s1 ⟨y,H1,I1,r1,q1⟩=>?_) hs
 exact pK I1 hN hi hx r1 (λs2 I2=>⟨_,H1,I2,q1⟩) hf
end
section
variable {X:Cx}{pos:Pos}
def oZ(c:TT)(tb:TS):TS:=λD σ H=>∃ W:Nat->St->Hp->Prop,(∃ m,W m σ H)/\∀ m σ H,W m σ H ->
 c σ H λb H1=>if b=true then ∃ N:St->Hp->Prop,(∀ σ' H',N σ' H'->∃ m',m' < m/\W m' σ' H')/\tb { D with nx:=N,ct:=N,bk:=D.nx } σ H1 else D.nx σ H1
theorem xP{c:Expr}{body:List Stmt}{tc:TT}{tb:TS}(hp:PassesOwn (model X.prog X.w) X.A X.env X.xe)(hc:PT X c tc)(hb:cN X body tb):PS X (.While c body [] pos) (oZ tc tb):=by
 intro pins s σ H D I h
 obtain⟨W,⟨m0,w0⟩,turn⟩:=h
 refine wpAny_While (codeAny_whileLoop (λn s'=>∃ σ' H',ad X pins σ' H' s'/\W n σ' H') ?_ m0 ⟨σ,H,I,w0⟩)
 rintro n s1 ⟨σ1,H1,I1,w1⟩
 refine wpAny_passesOwn hp (aj (hc pins s1 σ1 H1 _ I1 (turn n σ1 H1 w1)) λb s2 ⟨H2,I2,q2⟩=>?_)
 cases b with
 | true =>
  obtain⟨N,hN,q2⟩:=q2
  rw[if_pos rfl]
  refine wpAny_passesOwn hp (aj (hb pins s2 σ1 H2 _ I2 q2) λf s3 q3=>?_)
  cases f with
  | next =>
   obtain⟨σ3,H3,I3,n3⟩:=q3
   obtain⟨m',hm,w3⟩:=hN σ3 H3 n3
   exact⟨m',hm,σ3,H3,I3,w3⟩
  | cont =>
   obtain⟨σ3,H3,I3,n3⟩:=q3
   obtain⟨m',hm,w3⟩:=hN σ3 H3 n3
   exact⟨m',hm,σ3,H3,I3,w3⟩
  | brk=>exact q3
  | ret v=>exact q3
 | false =>
  rw[if_neg Bool.false_ne_true]
  exact wpAny_execs_nil ⟨σ1,H2,I2,q2⟩
end
structure It where
 go:Nat->Hp->Prop
 yld:Nat->Hp->V->Hp->Prop
 stop:Nat->Hp->Prop
def db(X:Cx)(pins:List (Addr × Obj))(H:Hp)(b:Addr):Prop :=
 H b=none/\b≠X.env.locals/\b∉X.fs/\(b∈X.ex\/X.s₀.heap.objs.size<=b)/\(∀ x c,X.env.cells.lookup x=some c->c≠b)/\∀ p∈X.pn++pins,p.1≠b
theorem ad.fpOk{X:Cx}{pins:List (Addr × Obj)}{σ:St}{H H':Hp}{s:Shared}{b:Addr}(I:ad X pins σ H s)(hb:s.heap.objs.size<=b)(hn:H' b=none):db X pins H' b:=by
 refine⟨hn,Nat.ne_of_gt (Nat.lt_of_lt_of_le I.lt hb),I.nofs hb,.inr (Nat.le_trans I.sz hb),λx c e z=>?_,λp hp z=>?_⟩
 ·obtain⟨v,q⟩:=I.cell x c e
  exact absurd (Nat.lt_of_lt_of_le q.lt (by rw[z]; exact hb)) (Nat.lt_irrefl _)
 ·exact absurd (Nat.lt_of_lt_of_le (Heap.lt_size (I.pin p hp).1) (by rw[z]; exact hb)) (Nat.lt_irrefl _)
structure dw (P:Program) (w:World) (K:W.Frag) (tg:Expr) (J:It) (fp:List Addr) (it:Addr) (tn:Nat->Heap->Prop):Prop where
 mem:it∈fp
 obj : ∀ i h,tn i h->∀ b∈fp,∃ o,h.get? b=some o/\∀ v,o.data ≠ .cell v
 keep : ∀ i h h',tn i h->(∀ b∈fp,∀ o,h.get? b=some o->h'.get? b=some o)->tn i h'
 item : ∀ (X:Cx),X.prog=P->X.w=w->X.K=K->X.calm=true->∀ (i:Nat) (pins:List (Addr × Obj)) (s:Shared) (σ:St) (H:Hp) (E:Value->Shared->Prop),ad X pins σ H s->(∀ b∈fp,db X pins H b)->tn i s.heap->J.go i H ->
  wpAny (model P w) X.A (pyNext (.ref it)) (λr s1=>∃ u,r=some u /\
   wpAny (model P w) X.A (letOwnedTupleGo tg (.ref it) u) (λ_ s2=>∃ x H',ad X pins σ H' s2/\au x u/\J.yld i H x H'/\tn (i+1) s2.heap/\∀ b∈fp,H' b=none) E s1) E s
 done : ∀ (X:Cx),X.prog=P->X.w=w->X.K=K->X.calm=true->∀ (i:Nat) (pins:List (Addr × Obj)) (s:Shared) (σ:St) (H:Hp) (E:Value->Shared->Prop),ad X pins σ H s->(∀ b∈fp,db X pins H b)->tn i s.heap->J.stop i H ->
  wpAny (model P w) X.A (pyNext (.ref it)) (λr s1=>r=none/\ad X pins σ H s1) E s
 self : ∀ (A:Around) (i:Nat) (s:Shared) (Q:Value->Shared->Prop) (E:Value->Shared->Prop),tn i s.heap->Q (.ref it) s->wpAny (model P w) A (pyIter (.ref it)) Q E s
abbrev TI:=St->Hp->(It->Hp->Prop)->Prop
def tV(X:Cx)(pins:List (Addr × Obj))(σ:St)(tg:Expr)(R:It->Hp->Prop)(itv:Value)(s2:Shared):Prop :=
 ∃ (it:Addr) (fp:List Addr) (tn:Nat->Heap->Prop) (J:It) (H':Hp),itv=.ref it/\ad X pins σ H' s2/\dw X.prog X.w X.K tg J fp it tn/\tn 0 s2.heap/\(∀ b∈fp,db X pins H' b)/\R J H'
def PI(X:Cx)(tg iter:Expr)(wi:TI):Prop :=
 ∀ (pins:List (Addr × Obj)) (s:Shared) (σ:St) (H:Hp) (R:It->Hp->Prop),ad X pins σ H s->wi σ H R ->
  wpAny (model X.prog X.w) X.A (eval iter X.env) (λv s1=>wpAny (model X.prog X.w) X.A (pyIter v) (tV X pins σ tg R) X.xe s1) X.xe s
theorem ii{M:Model}{A:Around}{E:Value->Shared->Prop}{s:Shared}{tg:Expr}{it:Addr}{u:Value}{o:Obj}{n:String}{vs:Array Value}{Q:Unit->Shared->Prop}(ho:s.heap.get? it=some o)(hc:o.cls=.type n)(hd:o.data=.fields vs)
 (hn:["enumerate", "zip", "dict_itemiterator", "dict_reverseitemiterator", "odict_iterator", "itertools.zip_longest", "itertools.pairwise"].contains n=false) (hQ:Q () s):wpAny M A (letOwnedTupleGo tg (.ref it) u) Q E s:=by
 unfold letOwnedTupleGo
 cases tg <;> first
  | exact wpAny_pure hQ
  | (cases u <;> first
      | exact wpAny_pure hQ
      | (refine wpAny_bind (wpAny_load ho ?_)
         rw[hc,hd]
         show wpAny M A (if (["enumerate", "zip", "dict_itemiterator", "dict_reverseitemiterator", "odict_iterator", "itertools.zip_longest", "itertools.pairwise"].contains n && vs[0]? == some (rawInt _))=true then _ else _) Q E s
         rw[if_neg (by intro h; rw[hn,Bool.false_and]at h; cases h)]
         exact wpAny_pure hQ))
def gn(K:W.Frag)(a:Addr):It :=
 ⟨λi H=>∃ xs x,ax K H a xs/\xs[i]? = some x,λi H x H'=>H'=H/\∀ xs,ax K H a xs->xs[i]? = some x,λi H=>∃ xs,ax K H a xs/\xs.length<=i⟩
def oC(K:W.Frag)(a:Addr):It :=
 ⟨λi H=>∃ xs x,bu K H a xs/\xs[i]? = some x,λi H x H'=>H'=H/\∀ xs,bu K H a xs->xs[i]? = some x,λi H=>∃ xs,bu K H a xs/\xs.length<=i⟩
def iz(lo:Int)(n:Nat):It:=⟨λi _=>i < n,λi H x H'=>H'=H/\x=.int (lo+i),λi _=>n<=i⟩
theorem u9{P:Program}{w:World}{K:W.Frag}{tg:Expr}(a it:Addr):dw P w K tg (gn K a) [it] it (λi h=>h.IsListIter it a i) where
 mem:=by simp
 obj:=λi h st b hb=>by
  have e:b=it:=by simpa using hb
  subst e
  obtain⟨o,e,c,d⟩:=st
  exact⟨o,e,λv z=>by rw[d]at z; cases z⟩
 keep:=λi h h' st k=>st.at λo e=>k it (by simp) o e
 item:=by
  intro X hP hw hK hc i pins s σ H E I hf st hg
  subst hP hw hK
  obtain⟨xs,x,hq,hx⟩:=hg
  obtain⟨its,rv,p,hz⟩:=I.list hq
  obtain⟨u,hu,ru⟩:=rv.get hx
  obtain⟨f0,f1,f2,f3,f4,f5⟩:=hf it (by simp)
  refine wpAny_pyNext_list_item st p.isList (x:=u) (by simpa using hu) λh' st' sb=>?_
  have I1:ad X pins σ H { s with heap:=h' }:=I.turned (t':=s.toks) (λb o hb e=>(sb.2 b hb).trans e) f0 f1 f3 f4 f5
  obtain⟨o,e,c,d⟩:=id st'
  exact⟨u,rfl,ii (s:={ s with heap:=h' }) e c d (by decide) ⟨x,H,I1,ru,⟨rfl,λys hy=>by rw[I.list_inj hy hq]; exact hx⟩,st',λb hb=>(hf b hb).1⟩⟩
 done:=by
  intro X hP hw hK hc i pins s σ H E I hf st hg
  subst hP hw hK
  obtain⟨xs,hq,hx⟩:=hg
  obtain⟨its,rv,p,hz⟩:=I.list hq
  obtain⟨f0,f1,f2,f3,f4,f5⟩:=hf it (by simp)
  have hl:=rv.length
  exact wpAny_pyNext_list_end (I.ok.hd hc) st p.isList (by simp; omega) λh' eb=>⟨rfl,I.turned (t':=s.toks) (λb o hb e=>eb b o hb e) f0 f1 f3 f4 f5⟩
 self:=λ_ _ _ _ _ st h=>wpAny_pyIter_listiter st h
theorem uY{P:Program}{w:World}{K:W.Frag}{tg:Expr}(a it:Addr):dw P w K tg (oC K a) [it] it (λi h=>h.IsTupleIter it a i) where
 mem:=by simp
 obj:=λi h st b hb=>by
  have e:b=it:=by simpa using hb
  subst e
  obtain⟨o,e,c,d⟩:=st
  exact⟨o,e,λv z=>by rw[d]at z; cases z⟩
 keep:=λi h h' st k=>st.at λo e=>k it (by simp) o e
 item:=by
  intro X hP hw hK hc i pins s σ H E I hf st hg
  subst hP hw hK
  obtain⟨xs,x,hq,hx⟩:=hg
  obtain⟨its,rv,p,hz⟩:=I.tuple hq
  obtain⟨u,hu,ru⟩:=rv.get hx
  obtain⟨f0,f1,f2,f3,f4,f5⟩:=hf it (by simp)
  refine wpAny_pyNext_tuple_item st (show s.heap.IsTuple a its.toArray from p) (x:=u) (by simpa using hu) λh' st' sb=>?_
  have I1:ad X pins σ H { s with heap:=h' }:=I.turned (t':=s.toks) (λb o hb e=>(sb.2 b hb).trans e) f0 f1 f3 f4 f5
  obtain⟨o,e,c,d⟩:=id st'
  exact⟨u,rfl,ii (s:={ s with heap:=h' }) e c d (by decide) ⟨x,H,I1,ru,⟨rfl,λys hy=>by rw[I.tuple_inj hy hq]; exact hx⟩,st',λb hb=>(hf b hb).1⟩⟩
 done:=by
  intro X hP hw hK hc i pins s σ H E I hf st hg
  subst hP hw hK
  obtain⟨xs,hq,hx⟩:=hg
  obtain⟨its,rv,p,hz⟩:=I.tuple hq
  obtain⟨f0,f1,f2,f3,f4,f5⟩:=hf it (by simp)
  have hl:=rv.length
  exact wpAny_pyNext_tuple_end (I.ok.hd hc) st (show s.heap.IsTuple a its.toArray from p) (by simp; omega) λh' eb=>⟨rfl,I.turned (t':=s.toks) (λb o hb e=>eb b o hb e) f0 f1 f3 f4 f5⟩
 self:=λ_ _ _ _ _ st h=>wpAny_pyIter_tupleiter st h
theorem uZ{P:Program}{w:World}{K:W.Frag}{tg:Expr}(it:Addr)(lo:Int)(n:Nat):dw P w K tg (iz lo n) [it] it (λi h=>IsRangeIter h it (lo+(i:Nat)*1) ((n:Int) - (i:Nat)) 1) where
 mem:=by simp
 obj:=λi h st b hb=>by
  have e:b=it:=by simpa using hb
  subst e
  exact⟨_,st,λv z=>by
   have z':Data.fields _=Data.cell v:=z
   cases z'⟩
 keep:=λi h h' st k=>k it (by simp) _ st
 item:=by
  intro X hP hw hK hc i pins s σ H E I hf st hg
  subst hP hw hK
  obtain⟨f0,f1,f2,f3,f4,f5⟩:=hf it (by simp)
  have W:=Walks.range (prog:=X.prog) (w:=X.w) (I.ok.hd hc) it lo 1 n
  refine W.item i s _ _ hg st λv h' tk hv st' kk=>?_
  obtain⟨t,rfl⟩:=hv
  have I1:ad X pins σ H { s with heap:=h',toks:=tk }:=I.turned (λb o hb e=>kk b o (by simpa using hb) e) f0 f1 f3 f4 f5
  refine⟨_,rfl,ii (s:={ s with heap:=h',toks:=tk }) (n := "range_iterator") st' rfl rfl (by decide) ⟨.int (lo+i),H,I1,⟨t,?_⟩,⟨rfl,rfl⟩,st',λb hb=>(hf b hb).1⟩⟩
  rw[Int.mul_one]
 done:=by
  intro X hP hw hK hc i pins s σ H E I hf st hg
  subst hP hw hK
  obtain⟨f0,f1,f2,f3,f4,f5⟩:=hf it (by simp)
  exact wpAny_pyNext_range_end (I.ok.hd hc) st (by have:n<=i:=hg; omega) λh' eb=>⟨rfl,I.turned (t':=s.toks) (λb o hb e=>eb b o hb e) f0 f1 f3 f4 f5⟩
 self:=λ_ _ _ _ _ st h=>wpAny_pyIter_rangeiter st h
section
variable {X:Cx}{tg:Expr}
def lR(K:W.Frag)(tl:TE):TI:=λσ H R=>tl σ H λx H1=>∃ a,x=.ref a/\(∃ xs,ax K H1 a xs)/\R (gn K a) H1
def lQ(K:W.Frag)(tl:TE):TI:=λσ H R=>tl σ H λx H1=>∃ a,x=.ref a/\(∃ xs,bu K H1 a xs)/\R (oC K a) H1
theorem yf{l:Expr}{tl:TE}(hl:PE X l tl):PI X tg l (lR X.K tl):=by
 intro pins s σ H R I h
 refine aj (hl pins s σ H _ I h) λv s1 ⟨x,H1,I1,r1,q1⟩=>?_
 obtain⟨a,e,⟨xs,hq⟩,q⟩:=q1
 subst e
 cases r1
 obtain⟨its,rv,p,hz⟩:=I1.list hq
 refine wpAny_pyIter_list p.isList ?_
 refine⟨s1.heap.objs.size,[s1.heap.objs.size],_,_,H1,rfl,I1.kept (t':=s1.toks) λb o e=>Heap.get?_push_of_some _ e,u9 a _,⟨_,Heap.get?_push_size _ rfl,rfl,rfl⟩,λb hb=>?_,q⟩
 have e:b=s1.heap.objs.size:=by simpa using hb
 subst e
 exact I1.fpOk (Nat.le_refl _) (I1.hok.fresh (Nat.le_refl _))
theorem yd{l:Expr}{tl:TE}(hl:PE X l tl):PI X tg l (lQ X.K tl):=by
 intro pins s σ H R I h
 refine aj (hl pins s σ H _ I h) λv s1 ⟨x,H1,I1,r1,q1⟩=>?_
 obtain⟨a,e,⟨xs,hq⟩,q⟩:=q1
 subst e
 cases r1
 obtain⟨its,rv,p,hz⟩:=I1.tuple hq
 refine wpAny_pyIter_tuple (show s1.heap.IsTuple a its.toArray from p) ?_
 refine⟨s1.heap.objs.size,[s1.heap.objs.size],_,_,H1,rfl,I1.kept (t':=s1.toks) λb o e=>Heap.get?_push_of_some _ e,uY a _,⟨_,Heap.get?_push_size _ rfl,rfl,rfl⟩,λb hb=>?_,q⟩
 have e:b=s1.heap.objs.size:=by simpa using hb
 subst e
 exact I1.fpOk (Nat.le_refl _) (I1.hok.fresh (Nat.le_refl _))
theorem wO{pins:List (Addr × Obj)}{σ:St}{H:Hp}{s:Shared}{R:It->Hp->Prop}{E:Value->Shared->Prop}{lo hi:Int}{t u v:Tok}{tk:Nat}(I:ad X pins σ H s)(h1 : -(2 ^ 62)<=lo)(h2:lo < 2 ^ 62)(h3 : -(2 ^ 62)<=hi)(h4:hi < 2 ^ 62)
 (q:R (iz lo (hi - lo).toNat) H):wpAny (model X.prog X.w) X.A (pyIter (.ref s.heap.objs.size)) (tV X pins σ tg R) E { s with heap:=s.heap.push { cls:=.type "range",data:=.fields #[.int lo t,.int hi u,.int 1 v] },toks:=tk }:=by
 refine wpAny_pyIter_range (IsRange.new ..) (small_one h1 h2 h3 h4) ?_
 have I1:ad X pins σ H { s with heap:=s.heap.push { cls:=.type "range",data:=.fields #[.int lo t,.int hi u,.int 1 v] },toks:=tk }:=I.kept λb o e=>Heap.get?_push_of_some _ e
 refine⟨(s.heap.push { cls:=.type "range",data:=.fields #[.int lo t,.int hi u,.int 1 v] }).objs.size,[(s.heap.push { cls:=.type "range",data:=.fields #[.int lo t,.int hi u,.int 1 v] }).objs.size],_,_,H,rfl,
  I1.kept (t':=tk) λb o e=>Heap.get?_push_of_some _ e,uZ _ lo (hi - lo).toNat,?_,λb hb=>?_,q⟩
 ·have e1:lo+((0:Nat):Int)*1=lo:=by simp
  have e2:(((hi - lo).toNat:Nat):Int) - ((0:Nat):Int)=Builtin.Range.rangeSize lo hi 1:=by rw[rangeSize_one]; split <;> omega
  show IsRangeIter _ _ (lo+((0:Nat):Int)*1) ((((hi - lo).toNat:Nat):Int) - ((0:Nat):Int)) 1
  rw[e1,e2]
  exact Heap.get?_push_size _ rfl
 ·have e:b=(s.heap.push { cls:=.type "range",data:=.fields #[.int lo t,.int hi u,.int 1 v] }).objs.size:=by simpa using hb
  subst e
  exact I1.fpOk (Nat.le_refl _) (I1.hok.fresh (Nat.le_refl _))
def rL(ta:TA):TI:=λσ H R=>ta σ H λvs H1=>∃ j:Int,vs=[.int j]/\-(2 ^ 62)<=j/\j < 2 ^ 62/\R (iz 0 j.toNat) H1
theorem ye {a:Expr} {ta:TA} {p pos:Pos} (hg:Gl X "range") (hm:X.mg "range" = none) (ha:PA X [a] ta) (hs:starEach [a] X.env=[(false,eval a X.env)]:=by rfl):PI X tg (.Call (.Name "range" p) [a] [] pos) (rL ta):=by
 intro pins s σ H R I h
 refine Call_ (fj I hg hm boot_range (PyProof.Rows.callWith_type1 (aj (ha pos pins s σ H _ I h) λus s1 ⟨vs,H1,I1,r1,q1⟩=>?_) hs rfl))
 obtain⟨j,e,q1,q2,q⟩:=q1
 subst e
 cases r1 with
 | cons r rr =>
  cases rr
  obtain⟨t,rfl⟩:=r
  exact call_range_1 (wO I1 (by omega) (by omega) q1 q2 (by simpa using q))
def pC(wi:TI)(g:TG)(tb:TS):TS:=λD σ H=>wi σ H λJ H1=>∃ W:Nat->Nat->St->Hp->Prop,(∃ m,W 0 m σ H1)/\∀ i m σ H,W i m σ H ->
 (J.stop i H/\D.nx σ H)\/(J.go i H/\∃ N:St->Hp->Prop,(∀ σ' H',N σ' H'->∃ m',m' < m/\W (i+1) m' σ' H')/\∀ x H',J.yld i H x H'->g x σ H' λσ2 H2=>tb { D with nx:=N,ct:=N,bk:=D.nx } σ2 H2)
def iQ(fp:List Addr)(h:Heap):List (Addr × Obj):=fp.filterMap λb=>(h.get? b).map λo=>(b,o)
theorem jA{fp:List Addr}{h:Heap}{b:Addr}{o:Obj}(hb:b∈fp)(e:h.get? b=some o):(b,o)∈iQ fp h:=List.mem_filterMap.mpr ⟨b,hb,by rw[e]; rfl⟩
theorem y4{fp:List Addr}{h:Heap}{p:Addr × Obj}(hp:p∈iQ fp h):p.1∈fp/\h.get? p.1=some p.2:=by
 obtain⟨b,hb,e⟩:=List.mem_filterMap.mp hp
 cases q:h.get? b with
 | none=>rw[q]at e; cases e
 | some o =>
  rw[q]at e
  have e':(b,o)=p:=Option.some.inj e
  subst e'
  exact⟨hb,q⟩
theorem ad.pinned{pins:List (Addr × Obj)}{σ:St}{H:Hp}{s:Shared}{fp:List Addr}(I:ad X pins σ H s)(hf : ∀ b∈fp,db X pins H b)(ho : ∀ b∈fp,∃ o,s.heap.get? b=some o/\∀ v,o.data ≠ .cell v):ad X (pins++iQ fp s.heap) σ H s :=
 I.pins_of λp hp=>(List.mem_append.mp hp).elim (λz=>I.pin p (List.mem_append_right _ z)) λz=>by
  obtain⟨hb,e⟩:=y4 z
  obtain⟨f0,f1,f2,_⟩:=hf p.1 hb
  obtain⟨o,e',d⟩:=ho p.1 hb
  rw[e]at e'; cases e'
  exact⟨e,f0,f1,f2,d⟩
theorem ad.unpinned{pins pl:List (Addr × Obj)}{σ:St}{H:Hp}{s:Shared}(I:ad X (pins++pl) σ H s):ad X pins σ H s:=I.pins_of λp hp=>I.pin p (List.mem_append_right _ (List.mem_append_left _ hp))
theorem xV{iter:Expr}{body:List Stmt}{wi:TI}{g:TG}{tb:TS}{pos:Pos}(hp:PassesOwn (model X.prog X.w) X.A X.env X.xe)(hc:X.calm=true)(hi:PI X tg iter wi)(hg:PG X tg g)(hb:cN X body tb)
 (hs : ∀ x,foldedSetIterable iter X.env x=pure x:=by intro _; rfl):PS X (.For tg iter body [] pos) (pC wi g tb):=by
 intro pins s σ H D I h
 refine wpAny_For (aj (hi pins s σ H _ I h) λv s1 h1=>aj h1 λitv s2 h2=>?_) hs
 obtain⟨it,fp,tn,J,H2,e,I2,T,st2,f2,W,⟨m0,w0⟩,turn⟩:=h2
 subst e
 have stat : ∀ {H':Hp},(∀ b∈fp,H' b=none)->∀ b∈fp,db X pins H' b:=λhn b hb=>⟨hn b hb,(f2 b hb).2⟩
 refine codeAny_forLoop_any (λn s'=>∃ i σ' H',ad X pins σ' H' s'/\tn i s'.heap/\(∀ b∈fp,H' b=none)/\W i n σ' H') ?_ m0 ⟨0,σ,H2,I2,st2,λb hb=>(f2 b hb).1,w0⟩
 rintro n s3 ⟨i,σ3,H3,I3,st3,fr3,w3⟩
 rcases turn i n σ3 H3 w3 with ⟨stop,qn⟩ | ⟨go,N,hN,step⟩
 ·refine wpAny_passesOwn hp (aj (T.done X rfl rfl rfl hc i pins s3 σ3 H3 X.xe I3 (stat fr3) st3 stop) λr s4 ⟨hr,I4⟩=>?_)
  subst hr
  exact wpAny_execs_nil ⟨σ3,H3,I4,qn⟩
 ·refine wpAny_passesOwn hp (aj (T.item X rfl rfl rfl hc i pins s3 σ3 H3 X.xe I3 (stat fr3) st3 go) λr s4 ⟨u,hr,h4⟩=>?_)
  subst hr
  refine wpAny_passesOwn hp (aj h4 λ_ s5 ⟨x,H5,I5,r5,y5,st5,fr5⟩=>?_)
  have I5':=I5.pinned (stat fr5) (T.obj _ _ st5)
  refine wpAny_passesOwn hp (aj (hg _ s5 σ3 H5 x u _ I5' r5 (step x H5 y5)) λ_ s6 ⟨σ6,H6,I6,q6⟩=>?_)
  refine wpAny_passesOwn hp (aj (hb _ s6 σ6 H6 _ I6 q6) λf s7 q7=>?_)
  have again : ∀ {σ7:St} {H7:Hp},ad X (pins++iQ fp s5.heap) σ7 H7 s7->N σ7 H7->∃ m,m < n/\∃ i σ' H',ad X pins σ' H' s7/\tn i s7.heap/\(∀ b∈fp,H' b=none)/\W i m σ' H':=λ{σ7 H7} I7 n7=>by
   obtain⟨m',hm,w7⟩:=hN σ7 H7 n7
   refine⟨m',hm,i+1,σ7,H7,I7.unpinned,T.keep _ _ _ st5 λb hb o e=>(I7.pin (b,o) (List.mem_append_right _ (List.mem_append_right _ (jA hb e)))).1,λb hb=>?_,w7⟩
   obtain⟨o,e,d⟩:=T.obj _ _ st5 b hb
   exact (I7.pin (b,o) (List.mem_append_right _ (List.mem_append_right _ (jA hb e)))).2.1
  cases f with
  | next=>obtain⟨σ7,H7,I7,n7⟩:=q7; exact again I7 n7
  | cont=>obtain⟨σ7,H7,I7,n7⟩:=q7; exact again I7 n7
  | brk=>obtain⟨σ7,H7,I7,q7⟩:=q7; exact⟨σ7,H7,I7.unpinned,q7⟩
  | ret v=>obtain⟨x7,σ7,H7,I7,r7,q7⟩:=q7; exact⟨x7,σ7,H7,I7.unpinned,r7,q7⟩
end
theorem fY{K:W.Frag}{a:Addr}{xs:List V}{g:TG}{tb:TS}{D:cH}{σ:St}{H:Hp}(Pv:Nat->St->Hp->Prop)(h0:Pv 0 σ H)(hl : ∀ i σ H,i<=xs.length->Pv i σ H->ax K H a xs)
 (hs : ∀ i x σ H,xs[i]? = some x->Pv i σ H->g x σ H λσ2 H2=>tb { D with nx:=Pv (i+1),ct:=Pv (i+1),bk:=D.nx } σ2 H2) (hd : ∀ σ H,Pv xs.length σ H->D.nx σ H) :
 ∃ W:Nat->Nat->St->Hp->Prop,(∃ m,W 0 m σ H)/\∀ i m σ H,W i m σ H ->
  ((gn K a).stop i H/\D.nx σ H)\/((gn K a).go i H/\∃ N:St->Hp->Prop,(∀ σ' H',N σ' H'->∃ m',m' < m/\W (i+1) m' σ' H')/\∀ x H',(gn K a).yld i H x H'->g x σ H' λσ2 H2=>tb { D with nx:=N,ct:=N,bk:=D.nx } σ2 H2):=by
 refine⟨λi m σ H=>m=xs.length - i/\i<=xs.length/\Pv i σ H,⟨xs.length,by simp,Nat.zero_le _,h0⟩,?_⟩
 rintro i m σ H ⟨rfl,hi,p⟩
 have q:=hl i σ H hi p
 by_cases hlt:i < xs.length
 ·refine .inr ⟨⟨xs,xs[i],q,by simp[hlt]⟩,Pv (i+1),λσ' H' p'=>⟨xs.length - (i+1),by omega,rfl,hlt,p'⟩,λx H' y=>?_⟩
  obtain⟨e,y⟩:=y
  subst e
  exact hs i x σ _ (y xs q) p
 ·have e:i=xs.length:=by omega
  subst e
  exact .inl ⟨⟨xs,q,Nat.le_refl _⟩,hd σ H p⟩
theorem jO{lo:Int}{n:Nat}{g:TG}{tb:TS}{D:cH}{σ:St}{H:Hp}(Pv:Nat->St->Hp->Prop)(h0:Pv 0 σ H)
 (hs : ∀ i σ H,i < n->Pv i σ H->g (.int (lo+i)) σ H λσ2 H2=>tb { D with nx:=Pv (i+1),ct:=Pv (i+1),bk:=D.nx } σ2 H2) (hd : ∀ σ H,Pv n σ H->D.nx σ H) :
 ∃ W:Nat->Nat->St->Hp->Prop,(∃ m,W 0 m σ H)/\∀ i m σ H,W i m σ H ->
  ((iz lo n).stop i H/\D.nx σ H)\/((iz lo n).go i H/\∃ N:St->Hp->Prop,(∀ σ' H',N σ' H'->∃ m',m' < m/\W (i+1) m' σ' H')/\∀ x H',(iz lo n).yld i H x H'->g x σ H' λσ2 H2=>tb { D with nx:=N,ct:=N,bk:=D.nx } σ2 H2):=by
 refine⟨λi m σ H=>m=n - i/\i<=n/\Pv i σ H,⟨n,by simp,Nat.zero_le _,h0⟩,?_⟩
 rintro i m σ H ⟨rfl,hi,p⟩
 by_cases hlt:i < n
 ·refine .inr ⟨hlt,Pv (i+1),λσ' H' p'=>⟨n - (i+1),by omega,rfl,hlt,p'⟩,λx H' y=>?_⟩
  obtain⟨e,y⟩:=y
  subst e y
  exact hs i σ _ hlt p
 ·have e:i=n:=by omega
  subst e
  exact .inl ⟨Nat.le_refl _,hd σ H p⟩
abbrev R2:=V->V->Hp->VK->Prop
def aG(X:Cx)(f:Value->Value->Sem Value)(r:R2):Prop :=
 ∀ (pins:List (Addr × Obj)) (s:Shared) (σ:St) (H:Hp) (x y:V) (v u:Value) (Q:VK),ad X pins σ H s->au x v->au y u->r x y H Q ->
  wpAny (model X.prog X.w) X.A (f v u) (EP X pins σ Q) X.xe s
def iW(X:Cx)(f:Value->Sem Value)(r:V->Hp->VK->Prop):Prop :=
 ∀ (pins:List (Addr × Obj)) (s:Shared) (σ:St) (H:Hp) (x:V) (v:Value) (Q:VK),ad X pins σ H s->au x v->r x H Q ->
  wpAny (model X.prog X.w) X.A (f v) (EP X pins σ Q) X.xe s
def bp(X:Cx)(f:Value)(r:List V->Hp->VK->Prop):Prop :=
 ∀ (pins:List (Addr × Obj)) (s:Shared) (σ:St) (H:Hp) (xs:List V) (us:List Value) (Q:VK),ad X pins σ H s->ar xs us->r xs H Q ->
  wpAny (model X.prog X.w) X.A (call f us) (EP X pins σ Q) X.xe s
def Dj(X:Cx)(r:V->Hp->(Bool->Hp->Prop)->Prop):Prop :=
 ∀ (pins:List (Addr × Obj)) (s:Shared) (σ:St) (H:Hp) (x:V) (v:Value) (Q:Bool->Hp->Prop),ad X pins σ H s->au x v->r x H Q ->
  wpAny (model X.prog X.w) X.A (truthy v) (TP X pins σ Q) X.xe s
def dO(r:R2)(ta tb:TE):TE:=λσ H Q=>ta σ H λx H1=>tb σ H1 λy H2=>r x y H2 Q
def o6(r:V->Hp->VK->Prop)(ta:TE):TE:=λσ H Q=>ta σ H λx H1=>r x H1 Q
def rI(C:Int->Int->Prop)(g:Int->Int->V):R2:=λx y H Q=>∃ i j,x=.int i/\y=.int j/\C i j/\Q (g i j) H
def fg(g:Int->Int->V):R2:=λx y H Q=>∃ i j,x=.int i/\y=.int j/\Q (g i j) H
def rU(g:Int->V):V->Hp->VK->Prop:=λx H Q=>∃ i,x=.int i/\Q (g i) H
section
variable {X:Cx}{a b c:Expr}{ta tb tc:TE}{pos:Pos}
theorem ny(ha:PE X a ta)(hb:PE X b tb){pins:List (Addr × Obj)}{s:Shared}{σ:St}{H:Hp}{R:V->V->Hp->Prop}(I:ad X pins σ H s)
 (h:ta σ H λx H1=>tb σ H1 λy H2=>R x y H2) {Q:Value->Shared->Prop} {f:Value->Value->Sem Value}
 (hf : ∀ v u s2 x y H2,ad X pins σ H2 s2->au x v->au y u->R x y H2->wpAny (model X.prog X.w) X.A (f v u) Q X.xe s2) :
 wpAny (model X.prog X.w) X.A (eval a X.env) (λv s₁=>wpAny (model X.prog X.w) X.A (eval b X.env) (λu s₂=>wpAny (model X.prog X.w) X.A (f v u) Q X.xe s₂) X.xe s₁) X.xe s:=by
 refine aj (ha pins s σ H _ I h) λv s1 ⟨x,H1,I1,r1,q1⟩=>?_
 refine aj (hb pins s1 σ H1 _ I1 q1) λu s2 ⟨y,H2,I2,r2,q2⟩=>?_
 exact hf v u s2 x y H2 I2 r1 r2 q2
theorem yu{op:Operator}{r:R2}(ho:aG X (binaryOp op) r)(ha:PE X a ta)(hb:PE X b tb):PE X (.BinOp a op b pos) (dO r ta tb):=by
 intro pins s σ H Q I h
 exact wpAny_BinOp (ny ha hb I h λv u s2 x y H2 I2 rx ry q=>ho pins s2 σ H2 x y v u Q I2 rx ry q)
theorem yq{op:UnaryOp}{r:V->Hp->VK->Prop}(ho:iW X (unaryOp op) r)(ha:PE X a ta):PE X (.UnaryOp op a pos) (o6 r ta):=by
 intro pins s σ H Q I h
 exact UnaryOp_ (aj (ha pins s σ H _ I h) λv s1 ⟨x,H1,I1,r1,q1⟩=>ho pins s1 σ H1 x v Q I1 r1 q1)
theorem qT{f:Value->Value->Sem Value}{C:Int->Int->Prop}{g:Int->Int->Int}
 (rule : ∀ (i j:Int) (t u:Tok) (s:Shared) (Q:Value->Shared->Prop) (E:Value->Shared->Prop),C i j->Q (.int (g i j) s.toks) { s with toks:=s.toks+1 }->wpAny (model X.prog X.w) X.A (f (.int i t) (.int j u)) Q E s) :
 aG X f (rI C λi j=>.int (g i j)):=by
 intro pins s σ H x y v u Q I rx ry h
 obtain⟨i,j,rfl,rfl,hc,q⟩:=h
 obtain⟨t,rfl⟩:=rx
 obtain⟨t',rfl⟩:=ry
 exact rule i j t t' s _ _ hc ⟨.int (g i j),H,I.tok _,⟨_,rfl⟩,q⟩
theorem qR{f:Value->Value->Sem Value}{g:Int->Int->Int}
 (rule : ∀ (i j:Int) (t u:Tok) (s:Shared) (Q:Value->Shared->Prop) (E:Value->Shared->Prop),Q (.int (g i j) s.toks) { s with toks:=s.toks+1 }->wpAny (model X.prog X.w) X.A (f (.int i t) (.int j u)) Q E s) :
 aG X f (fg λi j=>.int (g i j)):=by
 intro pins s σ H x y v u Q I rx ry h
 obtain⟨i,j,rfl,rfl,q⟩:=h
 obtain⟨t,rfl⟩:=rx
 obtain⟨t',rfl⟩:=ry
 exact rule i j t t' s _ _ ⟨.int (g i j),H,I.tok _,⟨_,rfl⟩,q⟩
theorem lu{f:Value->Value->Sem Value}{g:Int->Int->Bool}
 (rule : ∀ (i j:Int) (t u:Tok) (s:Shared) (Q:Value->Shared->Prop) (E:Value->Shared->Prop),Q (.bool (g i j)) s->wpAny (model X.prog X.w) X.A (f (.int i t) (.int j u)) Q E s) :
 aG X f (fg λi j=>.bl (g i j)):=by
 intro pins s σ H x y v u Q I rx ry h
 obtain⟨i,j,rfl,rfl,q⟩:=h
 obtain⟨t,rfl⟩:=rx
 obtain⟨t',rfl⟩:=ry
 exact rule i j t t' s _ _ ⟨.bl (g i j),H,I,rfl,q⟩
def Ds(i j:Int):Prop:=0 < j/\j < 1073741824
theorem y0:aG X (binaryOp .Add) (fg λi j=>.int (i+j)):=qR λ_ _ _ _ _ _ _ q=>add_int q
theorem yZ:aG X (binaryOp .FloorDiv) (rI Ds λi j=>.int (i / j)):=qT λi j _ _ _ _ _ hc q=>by
 have h1:(0:Int) < j:=hc.1
 have h2:j < 1073741824:=hc.2
 exact floordiv_int (by omega) (by rw[Int.fdiv_eq_ediv_of_nonneg i (by omega)]; exact q) (.inl (PyProof.noPylong_small (by omega)))
theorem yU:aG X (binaryOp .Mod) (rI (λ_ j=>0 < j) λi j=>.int (i%j)):=qT λi j _ _ _ _ _ hc q=>by
 have h1:(0:Int) < j:=hc
 exact mod_int' (by omega) (by rw[Int.fmod_eq_emod_of_nonneg i (by omega)]; exact q)
theorem Ae:aG X (inplaceOp .Sub) (fg λi j=>.int (i - j)):=qR λ_ _ _ _ _ _ _ q=>isub_int q
theorem uM{f:Value->Sem Value}{g:Int->Int}
 (rule : ∀ (i:Int) (t:Tok) (s:Shared) (Q:Value->Shared->Prop) (E:Value->Shared->Prop),Q (.int (g i) s.toks) { s with toks:=s.toks+1 }->wpAny (model X.prog X.w) X.A (f (.int i t)) Q E s) :
 iW X f (rU λi=>.int (g i)):=by
 intro pins s σ H x v Q I rx h
 obtain⟨i,rfl,q⟩:=h
 obtain⟨t,rfl⟩:=rx
 exact rule i t s _ _ ⟨.int (g i),H,I.tok _,⟨_,rfl⟩,q⟩
theorem uL:iW X (unaryOp .USub) (rU λi=>.int (-i)):=uM λ_ _ _ _ _ q=>neg_int q
end
def pQ:V->V->Bool
 | .non,.non=>true | .non,.int _=>true | .int _,.non=>true | .non,.bl _=>true | .bl _,.non=>true | .non,.str _=>true | .str _,.non=>true
 | .int _,.int _=>true | .bl _,.bl _=>true | .str _,.str _=>true | .byt _,.byt _=>true
 | .int _,.str _=>true | .str _,.int _=>true | .bl _,.str _=>true | .str _,.bl _=>true
 | _,_=>false
def wX:R2:=λx y H Q=>pQ x y=true/\Q (.bl (decide (x=y))) H
def wU:R2:=λx y H Q=>pQ x y=true/\Q (.bl (!decide (x=y))) H
theorem sV{i j:Int}:decide (V.int i=V.int j)=(i == j):=by
 rw[Bool.eq_iff_iff]
 simp
theorem jV{i j:Bool}:decide (V.bl i=V.bl j)=(i == j):=by
 rw[Bool.eq_iff_iff]
 simp
theorem sS{i j:Str}:decide (V.str i=V.str j)=(i == j):=by
 rw[Bool.eq_iff_iff]
 simp
theorem sW{i j:Array UInt8}:decide (V.byt i=V.byt j)=(i.toList == j.toList):=by
 rw[Bool.eq_iff_iff]
 cases i
 cases j
 simp
section
variable {X:Cx}{a b c:Expr}{ta tb tc:TE}{pos:Pos}
theorem bd{pins:List (Addr × Obj)}{σ:St}{H:Hp}{s:Shared}{Q:VK}{k k':Bool}(I:ad X pins σ H s)(q:Q (.bl k) H)(e:k=k'):EP X pins σ Q (.bool k') s:=by
 subst e
 exact⟨.bl k,H,I,rfl,q⟩
theorem qQ:aG X (compareOp .Eq) wX:=by
 intro pins s σ H x y v u Q I rx ry h
 obtain⟨hs,q⟩:=h
 cases x with
 | non =>
  cases rx
  cases y with
  | non=>cases ry; exact PySem.EqNone.eq_none_none (bd I q (by simp))
  | bl j=>cases ry; exact PySem.EqNone.eq_none_bool (bd I q (by simp))
  | int j=>obtain⟨t',rfl⟩:=ry; exact PySem.EqNone.eq_none_int (bd I q (by simp))
  | str j=>obtain⟨t',rfl⟩:=ry; exact PySem.EqNone.eq_none_str (bd I q (by simp))
  | _=>exact absurd (show false=true from hs) Bool.false_ne_true
 | bl i =>
  cases rx
  cases y with
  | non=>cases ry; exact PySem.EqNone.eq_bool_none (bd I q (by simp))
  | bl j=>cases ry; exact eq_bool (bd I q jV)
  | str j=>obtain⟨t',rfl⟩:=ry; exact PySem.EqMixed.eq_bool_str (bd I q (by simp))
  | _=>exact absurd (show false=true from hs) Bool.false_ne_true
 | int i =>
  obtain⟨t,rfl⟩:=rx
  cases y with
  | non=>cases ry; exact PySem.EqNone.eq_int_none (bd I q (by simp))
  | int j=>obtain⟨t',rfl⟩:=ry; exact eq_int (bd I q sV)
  | str j=>obtain⟨t',rfl⟩:=ry; exact PySem.EqMixed.eq_int_str (bd I q (by simp))
  | _=>exact absurd (show false=true from hs) Bool.false_ne_true
 | str i =>
  obtain⟨t,rfl⟩:=rx
  cases y with
  | non=>cases ry; exact PySem.EqNone.eq_str_none (bd I q (by simp))
  | bl j=>cases ry; exact PySem.EqMixed.eq_str_bool (bd I q (by simp))
  | int j=>obtain⟨t',rfl⟩:=ry; exact PySem.EqMixed.eq_str_int (bd I q (by simp))
  | str j=>obtain⟨t',rfl⟩:=ry; exact eq_str (bd I q sS)
  | _=>exact absurd (show false=true from hs) Bool.false_ne_true
 | byt i =>
  obtain⟨t,rfl⟩:=rx
  cases y with
  | byt j=>obtain⟨t',rfl⟩:=ry; exact W.eq_bytes (bd I q sW)
  | _=>exact absurd (show false=true from hs) Bool.false_ne_true
 | _=>cases y <;> exact absurd (show false=true from hs) Bool.false_ne_true
theorem qP:aG X (compareOp .NotEq) wU:=by
 intro pins s σ H x y v u Q I rx ry h
 obtain⟨hs,q⟩:=h
 cases x with
 | non =>
  cases rx
  cases y with
  | non=>cases ry; exact PySem.EqNone.ne_none_none (bd I q (by simp))
  | bl j=>cases ry; exact PySem.EqNone.ne_none_bool (bd I q (by simp))
  | int j=>obtain⟨t',rfl⟩:=ry; exact PySem.EqNone.ne_none_int (bd I q (by simp))
  | str j=>obtain⟨t',rfl⟩:=ry; exact PySem.EqNone.ne_none_str (bd I q (by simp))
  | _=>exact absurd (show false=true from hs) Bool.false_ne_true
 | bl i =>
  cases rx
  cases y with
  | non=>cases ry; exact PySem.EqNone.ne_bool_none (bd I q (by simp))
  | bl j=>cases ry; exact ne_bool (bd I q (congrArg not jV))
  | str j=>obtain⟨t',rfl⟩:=ry; exact PySem.EqMixed.ne_bool_str (bd I q (by simp))
  | _=>exact absurd (show false=true from hs) Bool.false_ne_true
 | int i =>
  obtain⟨t,rfl⟩:=rx
  cases y with
  | non=>cases ry; exact PySem.EqNone.ne_int_none (bd I q (by simp))
  | int j=>obtain⟨t',rfl⟩:=ry; exact ne_int (bd I q (congrArg not sV))
  | str j=>obtain⟨t',rfl⟩:=ry; exact PySem.EqMixed.ne_int_str (bd I q (by simp))
  | _=>exact absurd (show false=true from hs) Bool.false_ne_true
 | str i =>
  obtain⟨t,rfl⟩:=rx
  cases y with
  | non=>cases ry; exact PySem.EqNone.ne_str_none (bd I q (by simp))
  | bl j=>cases ry; exact PySem.EqMixed.ne_str_bool (bd I q (by simp))
  | int j=>obtain⟨t',rfl⟩:=ry; exact PySem.EqMixed.ne_str_int (bd I q (by simp))
  | str j=>obtain⟨t',rfl⟩:=ry; exact ne_str (bd I q (congrArg not sS))
  | _=>exact absurd (show false=true from hs) Bool.false_ne_true
 | byt i =>
  obtain⟨t,rfl⟩:=rx
  cases y with
  | byt j=>obtain⟨t',rfl⟩:=ry; exact W.ne_bytes (bd I q (congrArg not sW))
  | _=>exact absurd (show false=true from hs) Bool.false_ne_true
 | _=>cases y <;> exact absurd (show false=true from hs) Bool.false_ne_true
theorem yV:aG X (compareOp .Lt) (fg λi j=>.bl (decide (i < j))):=lu λ_ _ _ _ _ _ _ q=>lt_int q
theorem yW:aG X (compareOp .LtE) (fg λi j=>.bl (decide (i<=j))):=lu λ_ _ _ _ _ _ _ q=>le_int q
theorem yY:aG X (compareOp .Gt) (fg λi j=>.bl (decide (j < i))):=lu λ_ _ _ _ _ _ _ q=>gt_int q
theorem yX:aG X (compareOp .Is) (λx y H Q=>y=.non/\Q (.bl (decide (x=.non))) H):=by
 intro pins s σ H x y v u Q I rx ry h
 obtain⟨rfl,q⟩:=h
 cases ry
 refine is_none_gen (bd I q ?_)
 cases x <;> first
  | (cases rx; rfl)
  | (obtain⟨t,rfl⟩:=rx; rfl)
theorem yT:aG X (compareOp .IsNot) (λx y H Q=>y=.non/\Q (.bl (!decide (x=.non))) H):=by
 intro pins s σ H x y v u Q I rx ry h
 obtain⟨rfl,q⟩:=h
 cases ry
 refine isnot_none_gen (bd I q ?_)
 cases x <;> first
  | (cases rx; rfl)
  | (obtain⟨t,rfl⟩:=rx; rfl)
theorem aW(b:Expr){op:CmpOp}(h:op ≠ .In:=by decide)(h2:op ≠ .NotIn:=by decide):behindInMarks op b=false:=by
 have e1:(op == CmpOp.In)=false:=by cases op <;> first | rfl | exact absurd rfl h
 have e2:(op == CmpOp.NotIn)=false:=by cases op <;> first | rfl | exact absurd rfl h2
 cases b <;> simp[behindInMarks,e1,e2]
theorem yJ{op:CmpOp}{r:R2}(ho:aG X (compareOp op) r)(ha:PE X a ta)(hb:PE X b tb)(hm:behindInMarks op b=false):PE X (.Compare a [op] [b] pos) (dO r ta tb):=by
 intro pins s σ H Q I h
 exact wpAny_Compare1 (ny ha hb I h λv u s2 x y H2 I2 rx ry q=>ho pins s2 σ H2 x y v u Q I2 rx ry q) hm
def Di(K:W.Frag)(x:V)(H:Hp)(k:Bool):Prop :=
 match x with
 | .non=>k=false
 | .bl b=>k=b
 | .int i=>k=(i != 0)
 | .str y=>y.length<=sizeLine/\k=((y.length:Int) != 0)
 | .byt y=>y.size<=sizeLine/\k=((y.size:Int) != 0)
 | .ref p=>(∃ xs,ax K H p xs/\k = !xs.isEmpty)\/(∃ xs,bu K H p xs/\k = !xs.isEmpty)\/∃ kvs,H p=some (.dK kvs)/\k = !kvs.isEmpty
 | _=>False
theorem Ad{κ:Type}{kvs:List (κ × V)}{vs:List (κ × Value)}(r:KV kvs vs):(!vs.isEmpty) = !kvs.isEmpty:=by
 cases r <;> rfl
theorem rG{xs:List V}{its:List Value}(r:ar xs its):(!its.toArray.isEmpty) = !xs.isEmpty:=by
 cases r <;> simp
theorem jE:(sizeLine:Nat) < 2 ^ 63:=by rw[sizeLine_eq]; decide
theorem iG:Dj X (λx H Q=>∃ k,Di X.K x H k/\Q k H):=by
 intro pins s σ H x v Q I rx h
 obtain⟨k,e,q⟩:=h
 have hl:=jE
 have hs:sizeLine=16777216:=sizeLine_eq
 cases x with
 | non =>
  cases rx
  have e':k=false:=e
  subst e'
  exact truthy_none ⟨H,I,q⟩
 | bl b =>
  cases rx
  have e':k=b:=e
  subst e'
  exact wpAny_truthy_bool ⟨H,I,q⟩
 | int i =>
  obtain⟨t,rfl⟩:=rx
  have e':k=(i != 0):=e
  subst e'
  exact PySem.P.truthy_int ⟨H,I,q⟩
 | str y =>
  obtain⟨t,rfl⟩:=rx
  obtain⟨hy,e'⟩:y.length<=sizeLine/\k=((y.length:Int) != 0):=e
  subst e'
  exact PySem.P.truthy_str (by omega) ⟨H,I.tok _,q⟩
 | byt y =>
  obtain⟨t,rfl⟩:=rx
  obtain⟨hy,e'⟩:y.size<=sizeLine/\k=((y.size:Int) != 0):=e
  subst e'
  exact W.truthy_bytes (by omega) ⟨H,I.tok _,q⟩
 | ref p =>
  cases rx
  have e':(∃ xs,ax X.K H p xs/\k = !xs.isEmpty)\/(∃ xs,bu X.K H p xs/\k = !xs.isEmpty)\/∃ kvs,H p=some (.dK kvs)/\k = !kvs.isEmpty:=e
  rcases e' with ⟨xs,hx,e'⟩ | ⟨xs,hx,e'⟩ | ⟨kvs,hx,e'⟩
  ·subst e'
   obtain⟨its,r,pl,hz⟩:=I.list hx
   have hlen:=r.length
   exact wpAny_truthy_list pl.isList (by simp only [List.size_toArray]; omega) ⟨H,I.tok _,by rw[rG r]; exact q⟩
  ·subst e'
   obtain⟨its,r,pl,hz⟩:=I.tuple hx
   have hlen:=r.length
   exact truthy_tuple pl (by simp only [List.size_toArray]; omega) ⟨H,I.tok _,by rw[rG r]; exact q⟩
  ·subst e'
   obtain⟨hz,hS,vs,r,m⟩:kvs.length<=sizeLine/\(p == sysModules)=false/\∃ vs,KV kvs vs/\s.heap.DictOf (bM X.prog X.w) p vs:=I.hok p _ hx
   have hlen:kvs.length=vs.length:=Paired.length r
   exact wpAny_truthy_dict hS m (by omega) ⟨H,I.tok _,by rw[Ad r]; exact q⟩
 | _=>exact (show False from e).elim
theorem fI{x:V}{us:List Value}(r:ar [x] us) : ∃ u,us=[u]/\au x u:=by
 cases r with
 | cons r1 r2=>cases r2; exact⟨_,rfl,r1⟩
theorem oJ{x y:V}{us:List Value}(r:ar [x,y] us) : ∃ u w',us=[u,w']/\au x u/\au y w':=by
 cases r with
 | cons r1 r2 =>
  cases r2 with
  | cons r3 r4=>cases r4; exact⟨_,_,rfl,r1,r3⟩
end
structure gg (h:Heap) (x dx C:Addr) (mA:Str->Option Value):Prop where
 obj:h.get? x=some (W.instObj C dx)
 ns:h.Ns1 dx mA
 ne:dx≠x
theorem zM{h:Heap}{dx:Addr}{mA:Str->Option Value}(n:h.Ns1 dx mA) : ∃ od,h.get? dx=some od/\∀ name,W.lookIn name od=some (mA name):=by
 obtain⟨o,es,ep,ho,hd,hk,_,hm⟩:=n
 refine⟨o,ho,λname=>?_⟩
 have e:=hm name
 unfold nsFind findBy at e
 rw[<- Array.find?_toList]at e
 unfold W.lookIn
 rw[hd]
 dsimp only
 split
 ·rename_i y q
  rw[q]at e
  exact congrArg some e
 ·rename_i q
  rw[q]at e
  have a:es.toList.any (·.refKey)=false:=by
   rw[List.any_eq_false]
   intro y hy
   obtain⟨z,t,hkey⟩:=hk y (Array.mem_toList_iff.mp hy)
   simp[DictEntry.refKey,hkey]
  have a' : ¬ es.toList.any (·.refKey)=true:=by rw[a]; exact Bool.false_ne_true
  rw[if_neg a']
  exact congrArg some e
theorem gg.look{h:Heap}{x dx C:Addr}{mA:Str->Option Value}(I:gg h x dx C mA) : ∃ od,W.InstAt h x (W.instObj C dx) C (some od)/\∀ name,W.lookIn name od=some (mA name) :=
 let ⟨od,ho,hl⟩:=zM I.ns
 ⟨od,⟨I.obj,rfl,rfl,ho⟩,hl⟩
section
variable {prog:Program}{w:World}{A:Around}{E:Value->Shared->Prop}{s:Shared}{K:W.Frag}{x dx C f:Addr}{mA:Str->Option Value}{name:Str}{v:Value}
theorem AT{expr:Bool}{Q:Value->Shared->Prop}(X:K.In s.heap)(I:gg s.heap x dx C mA)(hg:W.plainGet K C name=true)(hh:W.hasDictIn K C=true)
 (ha:W.findIn K (.ref C) name=some none) (hv:mA name=some v) (hv':W.handedIn v=true) (h:Q v { s with toks:=s.toks+1 }) :
 wpAny (model prog w) A (getAttr (.ref x) name expr) Q E s:=by
 obtain⟨od,J,hl⟩:=I.look
 exact W.get_value X J (W.plainGet_of hg).1 (W.findObj_own hh ha rfl (by rw[hl,hv])) hv' h
theorem AS{pl:Sem Bool}{Q:Value × List Value->Shared->Prop}(X:K.In s.heap)(I:gg s.heap x dx C mA)(hg:W.plainGet K C name=true)
 (hf:W.findIn K (.ref C) name=some (some (.ref f))) (ht:W.isFn K (.ref f)=true) (hv:mA name=none) (h:Q (.ref f,[.ref x]) s) :
 wpAny (model prog w) A (getMethod (.ref x) name pl) Q E s:=by
 obtain⟨od,J,hl⟩:=I.look
 exact W.method_fn X J (W.plainGet_of hg).1 (W.plainGet_of hg).2 hf (beq_iff_eq.mp ht) (by show (W.lookIn name od).map (·.isSome)=some false; rw[hl,hv]; rfl) h
theorem wm{ns:List Str}{Q:Unit->Shared->Prop}(X:K.In s.heap)(I:gg s.heap x dx C mA)
 (hs:W.findIn K (.ref C) "__setattr__" = some (some (.builtin "object.__setattr__"))) (hp:W.plainOver K C=true) (ht:W.takerIn K C name=some none) (hh:W.hasDictIn K C=true)
 (hw:PySem.Within mA ns) (hsz:ns.length<=sizeLine)
 (h : ∀ h',gg h' x dx C (λy=>if y=name then some v else mA y)->Heap.SameBut dx s.heap h'->Q () { s with heap:=h',toks:=s.toks+2 }) :
 wpAny (model prog w) A (setAttr (.ref x) name v) Q E s:=by
 obtain⟨od,J,hl⟩:=I.look
 refine W.set_plain X J hs (W.osa_open (s:={ s with toks:=s.toks+1 }) (r:=none) X J hp ht λb=>?_)
 obtain⟨cd,hc,hd'⟩:=W.any_some hh
 have hx:s.heap.get? x=some ⟨.ref C,some dx,.plain,#[]⟩:=I.obj
 refine wpAny_bind (wpAny_pure (wpAny_bind (wpAny_bind (wpAny_loadPart hx (wpAny_bind (W.Looks.here (s:={ s with toks:=s.toks+1 }) (W.looks_clsIn X hc) ?_))))))
 rw[hd']
 refine wpAny_pure (a:=some dx) (wpAny_bind (wpAny_pure (wpAny_bind ?_)))
 refine wpAny_nsSet1 (s:={ s with toks:=s.toks+1 }) I.ns λh' hn2 hs2=>?_
 obtain⟨oD,esD,epD,hoD,hdD,hcD⟩:=hn2.count (PySem.Within.cons name v hw)
 refine wpAny_bind (wpAny_lookBehind hoD (by rw[hdD]; exact pastItsLine_dict (Nat.le_trans hcD (by rw[List.length_cons]; omega))) ?_)
 exact wpAny_pure (h _ ⟨(hs2.2 _ (Ne.symm I.ne)).trans I.obj,hn2,I.ne⟩ hs2)
theorem zH{R:Result->Shared->Prop}{vs:List Value}{kw:List (Str × Value)}(X:K.In s.heap)(hm:W.makesIn K C=true)
 (hi:W.findIn K (.ref C) "__init__" = some (some (.ref f))) (hf:W.typeIn K (.ref f)=some (.type "function"))
 (h:codeAny (model prog w) (A.under (.builtin "type.__call__" ⟨.ref C :: vs,kw⟩)) (.call (.ref f) ⟨.ref (s.heap.objs.size+1) :: vs,kw⟩) (W.InitBack (s.heap.objs.size+1) R)
   { s with heap:=(s.heap.push W.emptyDict).push (W.instObj C s.heap.objs.size) }) :
 codeAny (model prog w) A (.call (.ref C) ⟨vs,kw⟩) R s:=by
 obtain⟨hh,g,d,t,os⟩:=s
 exact W.make_core (W.makes_of X hm) (W.looks_findIn X hi) (λself=>W.bind_fn X self hf) (.inl rfl) h
end
def bW(f:Str)(v:V):List (Str × V)->List (Str × V)
 | []=>[(f,v)]
 | (g,x) :: r=>if g=f then (g,v) :: r else (g,x) :: bW f v r
theorem ro(f g:Str)(v:V) : ∀ fs:List (Str × V),(bW f v fs).lookup g=if g=f then some v else fs.lookup g
 | []=>by
  show List.lookup g [(f,v)]=_
  by_cases h:g=f
  ·have hb:(g == f)=true:=beq_iff_eq.mpr h
   simp only [List.lookup,hb,if_pos h]
  ·have hb:(g == f)=false:=beq_eq_false_iff_ne.mpr h
   simp only [List.lookup,hb,if_neg h]
 | (k,x) :: r=>by
  have ih:=ro f g v r
  rw[show bW f v ((k,x) :: r)=(if k=f then (k,v) :: r else (k,x) :: bW f v r) from rfl]
  by_cases hk:k=f
  ·rw[if_pos hk]
   by_cases h:g=k
   ·have hb:(g == k)=true:=beq_iff_eq.mpr h
    simp only [List.lookup,hb,if_pos (h.trans hk)]
   ·have hb:(g == k)=false:=beq_eq_false_iff_ne.mpr h
    simp only [List.lookup,hb,if_neg (λe:g=f=>h (e.trans hk.symm))]
  ·rw[if_neg hk]
   by_cases h:g=k
   ·have hb:(g == k)=true:=beq_iff_eq.mpr h
    simp only [List.lookup,hb,if_neg (λe:g=f=>hk (h.symm.trans e))]
   ·have hb:(g == k)=false:=beq_eq_false_iff_ne.mpr h
    simp only [List.lookup,hb]
    exact ih
theorem lI(f:Str)(v:V) : ∀ fs:List (Str × V),f∈(bW f v fs).map (·.1)/\∀ g,g∈fs.map (·.1)->g∈(bW f v fs).map (·.1)
 | []=>⟨by simp[bW],λg h=>by simp at h⟩
 | (k,x) :: r=>by
  obtain⟨i1,i2⟩:=lI f v r
  rw[show bW f v ((k,x) :: r)=(if k=f then (k,v) :: r else (k,x) :: bW f v r) from rfl]
  by_cases hk:k=f
  ·rw[if_pos hk]
   subst hk
   exact⟨by simp,λg h=>by simpa using h⟩
  ·rw[if_neg hk]
   refine⟨?_,λg h=>?_⟩
   ·rw[List.map_cons]
    exact List.mem_cons_of_mem _ i1
   ·rw[List.map_cons]at h ⊢
    rcases List.mem_cons.mp h with e | e
    ·exact List.mem_cons.mpr (.inl e)
    ·exact List.mem_cons_of_mem _ (i2 g e)
theorem rq(f:Str)(v:V) : ∀ fs:List (Str × V),(bW f v fs).length<=fs.length+1
 | []=>by simp[bW]
 | (k,x) :: r=>by
  have ih:=rq f v r
  rw[show bW f v ((k,x) :: r)=(if k=f then (k,v) :: r else (k,x) :: bW f v r) from rfl]
  by_cases hk:k=f
  ·rw[if_pos hk,List.length_cons,List.length_cons]; omega
  ·rw[if_neg hk,List.length_cons,List.length_cons]; omega
theorem bS.some_of{v:V}{o:Option Value}(r:bS (some v) o) : ∃ u,o=some u/\au v u:=by
 cases o with
 | none=>exact (show False from r).elim
 | some u=>exact⟨u,rfl,r⟩
theorem bS.none_of{o:Option Value}(r:bS none o):o=none:=by
 cases o with
 | none=>rfl
 | some u=>exact (show False from r).elim
theorem Am{v:V}{u:Value}(r:au v u):W.handedIn u=true:=by
 cases v with
 | non=>cases (show u=Value.none from r); rfl
 | bl b=>cases (show u=Value.bool b from r); rfl
 | int i=>obtain⟨t,e⟩:=(show ∃ t,u=Value.int i t from r); cases e; rfl
 | str x=>obtain⟨t,e⟩:=(show ∃ t,u=Value.str x t from r); cases e; rfl
 | byt b=>obtain⟨t,e⟩:=(show ∃ t,u=Value.bytes b t from r); cases e; rfl
 | flt b=>obtain⟨t,e⟩:=(show ∃ t,u=Value.float b t from r); cases e; rfl
 | ref a=>cases (show u=Value.ref a from r); rfl
 | ty n=>cases (show u=Value.type n from r); rfl
section
variable {P:Program}{w:World}{H H':Hp}{h h':Heap}{a C dx:Addr}{fs fs':List (Str × V)}
theorem jK(hok:aN P w H h)(e:H a=some (.ins C dx fs)) : ∃ mA,gg h a dx C mA/\(∀ f,bS (fs.lookup f) (mA f))/\PySem.Within mA (fs.map (·.1))/\fs.length<=1000/\H dx=some (.own a):=by
 obtain⟨d,z,ne,ob,mA,n,r,q⟩:=(show aL P w H h a (.ins C dx fs) from hok a _ e)
 exact⟨mA,⟨ob,n,ne⟩,r,q,z,d⟩
end
structure cO (K:W.Frag) (C:Addr):Prop where
 pg:W.plainGet K C Str.empty=true
 hd:W.hasDictIn K C=true
 po:W.plainOver K C=true
 sa:W.findIn K (.ref C) "__setattr__" = some (some (.builtin "object.__setattr__"))
theorem cO.get{K:W.Frag}{C:Addr}(c:cO K C)(f:Str):W.plainGet K C f=true:=c.pg
def eT(K:W.Frag)(C:Addr)(f:Str):Prop:=W.findIn K (.ref C) f=some none
theorem eT.taker{K:W.Frag}{C:Addr}{f:Str}(n:eT K C f):W.takerIn K C f=some none:=by
 unfold W.takerIn
 rw[show W.findIn K (.ref C) f=some none from n]
 rfl
structure DM (K:W.Frag) (C:Addr) (f:Str) (v:V) (u:Value):Prop where
 at_:W.findIn K (.ref C) f=some (some u)
 rel:au v u
 get:W.specialIn K u "__get__" = some none
 cp:W.copiedNames.contains f=false
structure fD (K:W.Frag) (C:Addr) (m:Str) (f:Addr):Prop where
 at_:W.findIn K (.ref C) m=some (some (.ref f))
 fn:W.isFn K (.ref f)=true
 kp:W.keepIn K (.ref f)=true
section
variable {X:Cx}{pins:List (Addr × Obj)}{σ:St}{H:Hp}{s:Shared}{a C dx:Addr}{fs:List (Str × V)}{f:Str}{v:V}{A:Around}{E:Value->Shared->Prop}
theorem AQ{b:Bool}{Q:Value->Shared->Prop}(I:ad X pins σ H s)(e:H a=some (.ins C dx fs))(c:cO X.K C)(n:eT X.K C f)(l:fs.lookup f=some v)
 (h : ∀ u s',ad X pins σ H s'->au v u->Q u s'):wpAny (model X.prog X.w) A (getAttr (.ref a) f b) Q E s:=by
 obtain⟨mA,O,r,_,_,_⟩:=jK I.hok e
 obtain⟨u,hu,ru⟩:=bS.some_of (v:=v) (o:=mA f) (by rw[<- l]; exact r f)
 exact AT I.kIn O (c.get f) c.hd n hu (Am ru) (h u _ (I.tok _) ru)
theorem rY{m:Str}{g:Addr}{pl:Sem Bool}{Q:Value × List Value->Shared->Prop}(I:ad X pins σ H s)(e:H a=some (.ins C dx fs))(c:cO X.K C)(k:fD X.K C m g)(l:fs.lookup m=none)
 (h:Q (.ref g,[.ref a]) s):wpAny (model X.prog X.w) A (getMethod (.ref a) m pl) Q E s:=by
 obtain⟨mA,O,r,_,_,_⟩:=jK I.hok e
 have hn:mA m=none:=bS.none_of (by rw[<- l]; exact r m)
 exact AS I.kIn O (c.get m) k.at_ k.fn hn h
theorem wj{y:V}{u:Value}{Q:Unit->Shared->Prop}(I:ad X pins σ H s)(e:H a=some (.ins C dx fs))(c:cO X.K C)(n:eT X.K C f)(hl:fs.length < 1000)(ry:au y u)
 (h : ∀ s',ad X pins σ (upd H a (.ins C dx (bW f y fs))) s'->Q () s'):wpAny (model X.prog X.w) A (setAttr (.ref a) f u) Q E s:=by
 obtain⟨mA,O,r,wi,_,ho⟩:=jK I.hok e
 have hz:(fs.map (·.1)).length<=sizeLine:=by rw[List.length_map,sizeLine_eq]; omega
 refine wm I.kIn O c.sa c.po n.taker c.hd wi hz λh' O' sb=>h _ ?_
 have hd : ∃ o,h'.get? dx=some o:=let ⟨o,_,_,e',_⟩:=O'.ns; ⟨o,e'⟩
 refine I.write (x:=a) (e:=dx) (by rw[e]; exact True.intro) (.inr ho) (λb q hb z=>(sb.2 b hb).trans z) hd ?_
 refine⟨by rw[ai O.ne]; exact ho,?_,O.ne,O'.obj,_,O'.ns,λg=>?_,λg hg=>?_⟩
 ·have:=rq f y fs; omega
 ·show bS ((bW f y fs).lookup g) (if g=f then some u else mA g)
  rw[ro]
  by_cases q:g=f
  ·rw[if_pos q,if_pos q]; exact ry
  ·rw[if_neg q,if_neg q]; exact r g
 ·by_cases q:g=f
  ·rw[q]; exact (lI f y fs).1
  ·refine (lI f y fs).2 g (wi g λz=>hg ?_)
   show (if g=f then some u else mA g)=none
   rw[if_neg q]; exact z
theorem ad.made(I:ad X pins σ H s):ad X pins σ (upd (upd H s.heap.objs.size (.own (s.heap.objs.size+1))) (s.heap.objs.size+1) (.ins C s.heap.objs.size []))
 { s with heap:=(s.heap.push W.emptyDict).push (W.instObj C s.heap.objs.size) }:=by
 have e1:(s.heap.push W.emptyDict).get? s.heap.objs.size=some W.emptyDict:=Heap.get?_push_size s.heap rfl
 have e2:((s.heap.push W.emptyDict).push (W.instObj C s.heap.objs.size)).get? (s.heap.objs.size+1)=some (W.instObj C s.heap.objs.size):=by
  have:=Heap.get?_push_size (s.heap.push W.emptyDict) (o:=W.instObj C s.heap.objs.size) rfl
  rwa [Heap.size_push]at this
 have e3:(s.heap.push W.emptyDict).Ns s.heap.objs.size (λ_=>none):=⟨W.emptyDict,#[],_,e1,rfl,(λe he=>absurd he (by simp)),λ_=>rfl⟩
 have I1:=I.laid (a:=s.heap.objs.size) (o:=.own (s.heap.objs.size+1)) (h':=s.heap.push W.emptyDict) (t':=s.toks) (λb u q=>Heap.get?_push_of_some _ q) (Nat.le_refl _) ⟨_,e1⟩
 refine I1.laid (a:=s.heap.objs.size+1) (o:=.ins C s.heap.objs.size []) (t':=s.toks) (λb u q=>Heap.get?_push_of_some _ q) (Nat.le_of_eq (Heap.size_push _ _)) ?_
 have ne:s.heap.objs.size≠s.heap.objs.size+1:=Nat.ne_of_lt (Nat.lt_succ_self _)
 refine⟨by rw[ai ne,aR],Nat.zero_le _,ne,e2,λ_=>none,(Heap.Ns1.of_empty e3).at λo q=>Heap.get?_push_of_some _ q,λ_=>True.intro,λy hy=>absurd rfl hy⟩
theorem Db{prog:Program}{w:World}{env:Env}{e:Expr}{f:Str}{pos:Pos}{s:Shared}{Q:Value->Shared->Prop}(hb:attributeBase e f env (eval e env)=eval e env)
 (h:wpAny (model prog w) A (eval e env) (λo s₁=>wpAny (model prog w) A (getAttr o f true) Q E s₁) E s):wpAny (model prog w) A (eval (.Attribute e f pos) env) Q E s :=
 Attribute_any_ h (by rw[arm_eval_Attribute,hb])
end
def pD(K:W.Frag)(ta:TE)(f:Str):TE:=λσ H Q=>ta σ H λx H1=>∃ a C dx fs v,x=.ref a/\H1 a=some (.ins C dx fs)/\cO K C/\eT K C f/\fs.lookup f=some v/\Q v H1
def pW(K:W.Frag)(ta tv:TE)(f:Str):TS:=λD σ H=>tv σ H λy H1=>ta σ H1 λx H2=>∃ a C dx fs,x=.ref a/\H2 a=some (.ins C dx fs)/\cO K C/\eT K C f/\fs.length < 1000 /\
 D.nx σ (upd H2 a (.ins C dx (bW f y fs)))
section
variable {X:Cx}{o e value:Expr}{f:Str}{pos pos' tpos:Pos}{ta tv:TE}
theorem yD(he:PE X e ta)(hb:attributeBase e f X.env (eval e X.env)=eval e X.env):PE X (.Attribute e f pos) (pD X.K ta f):=by
 intro pins s σ H Q I h
 refine Db hb (aj (he pins s σ H _ I h) λu s1 ⟨x,H1,I1,rx,a,C,dx,fs,v,ex,ea,c,n,l,q⟩=>?_)
 subst ex
 obtain rfl:u=Value.ref a:=rx
 exact AQ I1 ea c n l λu' s2 I2 ru=>⟨v,H1,I2,ru,q⟩
theorem xW(ha:PE X o ta)(hv:PE X value tv)(hs:swapsWith value (some (.Attribute o f pos')) pos.line X.env=pure false):PS X (.Assign [.Attribute o f pos'] value pos) (pW X.K ta tv f):=by
 intro pins s σ H D I h
 refine plainObj_wpAny_Assign_Attribute (aj (hv pins s σ H _ I h) λu s1 ⟨y,H1,I1,ry,q⟩=>aj (ha pins s1 σ H1 _ I1 q) λov s2 ⟨x,H2,I2,rx,a,C,dx,fs,ex,ea,c,n,l,q2⟩=>?_) hs
 subst ex
 obtain rfl:ov=Value.ref a:=rx
 exact wj I2 ea c n l ry λs3 I3=>⟨σ,_,I3,q2⟩
end
section
variable {X:Cx}{pins:List (Addr × Obj)}{σ:St}{H:Hp}{s:Shared}{A:Around}{E:Value->Shared->Prop}{Q:Value->Shared->Prop}{c:Value}{b:Bool}
inductive ce (K:W.Frag) (H:Hp):V->Value->Prop where
 | non:ce K H .non (.type "NoneType")
 | bl (x:Bool):ce K H (.bl x) (.type "bool")
 | int (i:Int):ce K H (.int i) (.type "int")
 | str (x:Str):ce K H (.str x) (.type "str")
 | flt (x:UInt64):ce K H (.flt x) (.type "float")
 | lst {a:Addr} {xs:List V} (e:H a=some (.lst xs)):ce K H (.ref a) (.type "list")
 | frz {a:Addr} {o:Obj} {xs:List V} (e:H a=some (.frz o (.lst xs))):ce K H (.ref a) (.type "list")
 | tup {a:Addr} {xs:List V} (e:H a=some (.tup xs)):ce K H (.ref a) (.type "tuple")
 | dK {a:Addr} {kvs:List (am × V)} (e:H a=some (.dK kvs)):ce K H (.ref a) (.type "dict")
 | dT {a:Addr} {kvs:List (List am × V)} (e:H a=some (.dT kvs)):ce K H (.ref a) (.type "dict")
 | ins {a C dx:Addr} {fs:List (Str × V)} (e:H a=some (.ins C dx fs)) (cl:cO K C) (ha:W.findIn K (.ref C) "__class__" = some (some (.builtin "object.__class__")))
  (hn:W.specialIn K (.builtin "object.__class__") "__get__" = some (some (.builtin "getset_descriptor.__get__"))) (htk:W.takesIn K (.builtin "object.__class__")=some true)
  (hm:W.mroIn K C (.type "object")=some true):ce K H (.ref a) (.ref C)
theorem rF{x:V}{u t:Value}(I:ad X pins σ H s)(rx:au x u)(ty:ce X.K H x t)(e:W.kitOne X.K t c=some b)(h : ∀ tk,Q (.bool b) { s with toks:=tk }) :
 wpAny (model X.prog X.w) A (call (.builtin "isinstance") [u,c]) Q E s:=by
 cases ty with
 | non=>cases (show u=Value.none from rx); exact W.kia_one W.kitx_none I.kIn True.intro e (λz=>nomatch z) h
 | bl y=>cases (show u=Value.bool y from rx); exact W.kia_one W.kitx_bool I.kIn True.intro e (λz=>nomatch z) h
 | int i=>obtain⟨t,q⟩:=(show ∃ t,u=Value.int i t from rx); cases q; exact W.kia_one W.kitx_int I.kIn True.intro e (λz=>nomatch z) h
 | str y=>obtain⟨t,q⟩:=(show ∃ t,u=Value.str y t from rx); cases q; exact W.kia_one W.kitx_str I.kIn True.intro e (λz=>nomatch z) h
 | flt y=>obtain⟨t,q⟩:=(show ∃ t,u=Value.float y t from rx); cases q; exact W.kia_one W.kitx_float I.kIn True.intro e (λz=>nomatch z) h
 | @lst a xs ea =>
  cases (show u=Value.ref a from rx)
  obtain⟨_,_,n,_,h1⟩:=(show aL X.prog X.w H s.heap a (.lst xs) from I.hok a _ ea)
  exact W.kia_one W.kitx_list I.kIn ⟨_,h1,rfl⟩ e (λz=>nomatch z) h
 | @frz a ob xs ea =>
  cases (show u=Value.ref a from rx)
  obtain⟨_,_,_,n,_,h1⟩:=(show aL X.prog X.w H s.heap a (.frz ob (.lst xs)) from I.hok a _ ea)
  exact W.kia_one W.kitx_list I.kIn ⟨_,h1,rfl⟩ e (λz=>nomatch z) h
 | @tup a xs ea =>
  cases (show u=Value.ref a from rx)
  obtain⟨_,_,_,p⟩:=(show aL X.prog X.w H s.heap a (.tup xs) from I.hok a _ ea)
  obtain⟨o,h1,h2,_⟩:=p
  exact W.kia_one W.kitx_tuple I.kIn ⟨o,h1,h2⟩ e (λz=>nomatch z) h
 | @dK a kvs ea =>
  cases (show u=Value.ref a from rx)
  obtain⟨_,_,vs,_,p⟩:=(show aL X.prog X.w H s.heap a (.dK kvs) from I.hok a _ ea)
  obtain⟨o,es,ep,h1,h2,_⟩:=p
  exact W.kia_one W.kitx_dict I.kIn ⟨o,h1,h2.1⟩ e (λz=>nomatch z) h
 | @dT a kvs ea =>
  cases (show u=Value.ref a from rx)
  obtain⟨_,_,xs,_,o,es,ep,h1,h2,_⟩:=(show aL X.prog X.w H s.heap a (.dT kvs) from I.hok a _ ea)
  exact W.kia_one W.kitx_dict I.kIn ⟨o,h1,h2.1⟩ e (λz=>nomatch z) h
 | @ins a C dx fs ea cl ha hn htk hm =>
  cases (show u=Value.ref a from rx)
  obtain⟨mA,O,_⟩:=jK I.hok ea
  obtain⟨od,J,_⟩:=O.look
  exact W.kia_one (W.kitx_own (cl.get _) cl.hd ha hn htk hm) I.kIn J e (λz=>nomatch z) h
end
structure aQ (k:Nat) (A:Around):Prop where
 hd:A.handled=none
 dp:A.depth+3*k+5 < recursionLimit
 un:A.units+16*k+200 < cLine
theorem aQ.mono{j k:Nat}{A:Around}(r:aQ k A)(h:j<=k):aQ j A:=⟨r.hd,by have:=r.dp; omega,by have:=r.un; omega⟩
theorem aQ.deeper{k:Nat}{A:Around}(r:aQ (k+1) A)(env:Env):aQ k (A.deeper env) :=
 ⟨r.hd,by have:=r.dp; show A.depth+1+3*k+5 < _; omega,by have:=r.un; show A.units+3+16*k+200 < _; omega⟩
theorem aQ.in1{k:Nat}{A:Around}(r:aQ (k+1) A):aQ k A.in1 :=
 ⟨r.hd,by have:=r.dp; show A.depth+3*k+5 < _; omega,by have:=r.un; show A.units+1+16*k+200 < _; omega⟩
theorem zI {A:Around} {C:Addr} {us:List Value} {kw:List (Str × Value)}:(A.under (.builtin "type.__call__" ⟨.ref C :: us,kw⟩)).depth=A.depth+1:=by
 first | rfl | simp[Around.under,Code.weight,Code.isCreation,Code.isGuard,Code.isCaller,Code.frames,Code.isFrame,guardIds]
theorem zG {A:Around} {C:Addr} {us:List Value} {kw:List (Str × Value)}:(A.under (.builtin "type.__call__" ⟨.ref C :: us,kw⟩)).units=A.units+1:=by
 first | rfl | simp[Around.under,Code.cUnits,Code.frames,Code.isFrame]
theorem aQ.make {k:Nat} {A:Around} (r:aQ (k+1) A) (C:Addr) (us:List Value) (kw:List (Str × Value)):aQ k (A.under (.builtin "type.__call__" ⟨.ref C :: us,kw⟩)) :=
 ⟨r.hd,by have:=r.dp; rw[zI]; omega,by have:=r.un; rw[zG]; omega⟩
theorem aQ.depth{k:Nat}{A:Around}(r:aQ k A):A.depth < recursionLimit:=by have:=r.dp; omega
theorem aQ.units{k:Nat}{A:Around}(r:aQ k A):A.units+64 < cLine:=by have:=r.un; omega
def ja:TA:=λ_ H Q=>Q [] H
def kI(ta:TE)(tr:TA):TA:=λσ H Q=>ta σ H λx H1=>tr σ H1 λxs H2=>Q (x :: xs) H2
section
variable {X:Cx}{e:Expr}{es:List Expr}{te:TE}{t:TA}{pos:Pos}
theorem qL:PA X [] ja:=λ_ _ _ _ H Q I h=>Calls.spliced_nil ⟨[],H,I,.nil,h⟩
theorem yR(ha:PE X e te)(hr:PA X es t)(hs:starEach (e :: es) X.env=(false,eval e X.env) :: starEach es X.env:=by rfl):PA X (e :: es) (kI te t):=by
 intro pos pins s σ H Q I h
 rw[hs]
 show wpAny _ _ (spliced ((false,eval e X.env) :: backTo pos (starEach es X.env))) _ _ s
 refine Calls.spliced_cons (aj (ha pins s σ H _ I h) λu s1 ⟨x,H1,I1,r1,q1⟩=>?_)
 exact aj (hr pos pins s1 σ H1 _ I1 q1) λus s2 ⟨xs,H2,I2,r2,q2⟩=>⟨x :: xs,H2,I2,.cons r1 r2,q2⟩
end
abbrev Sp:=List V->Hp->VK->XK->Prop
abbrev cP:=List Env->Hp->Shared->XK->Value->Shared->Prop
structure de (P:Program) (w:World) (K:W.Frag) (mg:Str->Option Value) (base:Heap) (A:Around) (outer:List Env) (s:Shared) (H:Hp):Prop where
 frames:A.frames=some outer
 mod:Mod K mg base
 bs : ∀ b o,base.get? b=some o->s.heap.get? b=some o/\H b=none
 bsz:base.objs.size<=s.heap.objs.size
 funs:s.heap.FunFrames base outer
 frf : ∀ b∈cb outer,H b=none
 hok:aN P w H s.heap
 bare:AllBare s.gens
def CE(outer:List Env)(P:Program)(w:World)(H:Hp)(s:Shared)(Q:VK)(u:Value)(s':Shared):Prop :=
 ∃ v H',s'.os=s.os/\AllBare s'.gens/\Un (cb outer) [] H H' s.heap s'.heap/\aN P w H' s'.heap/\au v u/\Q v H'
def CR(CX:cP)(outer:List Env)(P:Program)(w:World)(H:Hp)(s:Shared)(Q:VK)(E:XK)(r:Result)(s':Shared):Prop :=
 match r with
 | .ok (.ret u)=>CE outer P w H s Q u s'
 | .ok _=>False
 | .error e=>CX outer H s E e s'
structure bw (P:Program) (w:World) (K:W.Frag) (mg:Str->Option Value) (base:Heap) (CX:cP) (k:Nat) (f:Addr) (fd:FuncData) (ps:List Str) (sp:Sp):Prop where
 len : ∀ vs H Q E,sp vs H Q E->vs.length=ps.length
 run : ∀ (A:Around) (outer:List Env) (s:Shared) (H:Hp) (args:Args) (us:List Value) (vs:List V) (Q:VK) (E:XK),aQ k A->de P w K mg base A outer s H->BindsTo s fd args (ps.zip us)->ar vs us->sp vs H Q E ->
  codeAny (model P w) A (.call (.ref f) args) (CR CX outer P w H s Q E) s
theorem de.make{P:Program}{w:World}{K:W.Frag}{mg:Str->Option Value}{base:Heap}{A:Around}{outer:List Env}{s:Shared}{H:Hp}(e:de P w K mg base A outer s H)(C:Addr)(us:List Value)(kw:List (Str × Value)) :
 de P w K mg base (A.under (.builtin "type.__call__" ⟨.ref C :: us,kw⟩)) outer s H:=⟨by first | exact e.frames | (simpa [Around.under,Code.envs,Code.isFrame,pushEnvs] using e.frames),e.mod,e.bs,e.bsz,e.funs,e.frf,e.hok,e.bare⟩
theorem de.in1{P:Program}{w:World}{K:W.Frag}{mg:Str->Option Value}{base:Heap}{A:Around}{outer:List Env}{s:Shared}{H:Hp}(e:de P w K mg base A outer s H) :
 de P w K mg base A.in1 outer s H:=⟨e.frames,e.mod,e.bs,e.bsz,e.funs,e.frf,e.hok,e.bare⟩
section
variable {X:Cx}{pins:List (Addr × Obj)}{σ:St}{H:Hp}{s s':Shared}
theorem ad.env0(I:ad X pins σ H s):de X.prog X.w X.K X.mg X.base X.A X.stack s H :=
 ⟨I.ok.frames,I.ok.mod,I.bs,Nat.le_trans I.ok.bsz I.sz,I.stack,I.stkFree,I.hok,I.bare⟩
theorem ad.after{Q:VK}{u:Value}(I:ad X pins σ H s)(h:CE X.stack X.prog X.w H s Q u s'):EP X pins σ Q u s':=by
 obtain⟨v,H',os,bare,un,hok,r,q⟩:=h
 obtain⟨hh,g,d,t,os'⟩:=s'
 obtain rfl:os'=s.os:=os
 exact⟨v,H',I.call (h':=hh) (g':=g) (d':=d) (t':=t) (ch:=[]) un hok bare (λb z=>absurd z (by simp)),r,q⟩
end
def kJ(sp:Sp)(dvs:List V)(E:XK)(t:TA):TE:=λσ H Q=>t σ H λvs H1=>sp (vs++dvs) H1 Q E
def jc(C:Addr)(m:Str)(sp:Sp)(dvs:List V)(E:XK)(ta:TE)(t:TA):TE:=λσ H Q=>ta σ H λx H1=>∃ a dx fs,x=.ref a/\H1 a=some (.ins C dx fs)/\fs.lookup m=none /\
 t σ H1 λvs H2=>sp (x :: (vs++dvs)) H2 Q E
def pA(C:Addr)(sp:Sp)(dvs:List V)(E:XK)(t:TA):TE:=λσ H Q=>t σ H λvs H1=>∀ x dx,H1 x=none->H1 dx=none->dx≠x ->
 sp (.ref x :: (vs++dvs)) (upd (upd H1 dx (.own x)) x (.ins C dx [])) (λv H2=>v=.non/\Q (.ref x) H2) E
def aA(K:W.Frag)(fd:FuncData)(ps:List Str)(ds:List Value):Prop :=
 ∀ (s:Shared) (us:List Value),K.In s.heap->(us++ds).length=ps.length->BindsTo s fd ⟨us,[]⟩ (ps.zip (us++ds))
theorem aA.all{K:W.Frag}{fd:FuncData}{ps:List Str}(h : ∀ us:List Value,us.length=ps.length->bindArgs fd ⟨us,[]⟩=pure (ps.zip us)):aA K fd ps []:=λs us _ hl=>by
 rw[List.append_nil]at hl ⊢
 exact .of_eq (h us hl)
def fA(CX:cP)(X:Cx)(E:XK):Prop:=∀ (pins:List (Addr × Obj)) (σ:St) (H:Hp) (s:Shared) (e:Value) (s':Shared),ad X pins σ H s->CX X.stack H s E e s'->X.xe e s'
section
variable {X:Cx}{CX:cP}{k:Nat}{f C:Addr}{fd:FuncData}{ps:List Str}{sp:Sp}{dvs:List V}{ds:List Value}{E:XK}{x m:Str}{p pos apos:Pos}{e o:Expr}{es:List Expr}{ta:TE}{t:TA}
theorem kR{pins:List (Addr × Obj)}{σ:St}{H:Hp}{s:Shared}{Q:VK}{us:List Value}{vs:List V}(F:bw X.prog X.w X.K X.mg X.base CX k f fd ps sp)(hr:aQ k X.A)(hb:aA X.K fd ps ds)(hd:ar dvs ds)(hx:fA CX X E)
 (I:ad X pins σ H s) (r:ar vs us) (h:sp (vs++dvs) H Q E):wpAny (model X.prog X.w) X.A (call (.ref f) us) (EP X pins σ Q) X.xe s:=by
 have r2:ar (vs++dvs) (us++ds):=r.append hd
 have hl:(us++ds).length=ps.length:=by rw[<- r2.length]; exact F.len _ _ _ _ h
 refine wpAny_call (codeAny_mono (F.run X.A X.stack s H ⟨us,[]⟩ (us++ds) (vs++dvs) Q E hr I.env0 (hb s us I.kIn hl) r2 h) λr s' hq=>?_)
 cases r with
 | error e=>exact hx pins σ H s e s' I hq
 | ok fl =>
  cases fl with
  | ret u=>exact I.after hq
  | next=>exact False.elim hq
  | brk=>exact False.elim hq
  | cont=>exact False.elim hq
theorem yM(F:bw X.prog X.w X.K X.mg X.base CX k f fd ps sp)(hr:aQ k X.A)(hg:Gl X x)(hm:X.mg x=some (.ref f))(hk:W.keepIn X.K (.ref f)=true)(hb:aA X.K fd ps ds)(hd:ar dvs ds)(hx:fA CX X E)
 (ha:PA X (e :: es) t) (hdb:(x == ("__debug__" : Str))=false:=by decide) (he:starEach (e :: es) X.env=(false,eval e X.env) :: starEach es X.env:=by rfl) (hpl:(backTo pos (starEach es X.env)).any (·.1)=false:=by rfl) :
 PE X (.Call (.Name x p) (e :: es) [] pos) (kJ sp dvs E t):=by
 intro pins s σ H Q I h
 refine wpAny_Call_Name_kw (lC I hg hm ?_ hdb)
 refine W.callWith_K (h₀:=X.base) I.ok.mod.kin hk (aj (ha pos pins s σ H _ I h) λus s1 ⟨vs,H1,I1,r,q⟩=>⟨I1.kIn,?_⟩) he hpl
 exact kR F hr hb hd hx I1 r q
theorem yy{pl:Sem Bool}(he:PE X o ta)(c:cO X.K C)(hm:fD X.K C m f)(F:bw X.prog X.w X.K X.mg X.base CX k f fd ps sp)(hr:aQ k X.A)(hb:aA X.K fd ps ds)(hd:ar dvs ds)(hx:fA CX X E)(ha:PA X (e :: es) t)
 (hst:starEach (e :: es) X.env=(false,eval e X.env) :: starEach es X.env:=by rfl) (hpl:(backTo pos (starEach es X.env)).any (·.1)=false:=by rfl)
 (ht:eval (.Call (.Attribute o m apos) (e :: es) [] pos) X.env=(do
   let ov <- eval o X.env
   standAt apos.atName
   let (f,first) <- holding [ov] (getMethod ov m pl)
   callWith pos f first (backTo pos (starEach (e :: es) X.env)) (backToKw pos (keywordEach [] X.env))):=by rfl) :
 PE X (.Call (.Attribute o m apos) (e :: es) [] pos) (jc C m sp dvs E ta t):=by
 intro pins s σ H Q I h
 refine W.methodCall_KW (pl:=pl) (aj (he pins s σ H _ I h) λu s1 ⟨x,H1,I1,rx,a,dx,fs,ex,ea,l,q⟩=>?_) ht
 subst ex
 obtain rfl:u=Value.ref a:=rx
 refine rY I1 ea c hm l ?_
 refine W.callWith_K (first:=[.ref a]) (h₀:=X.base) I.ok.mod.kin hm.kp (aj (ha pos pins s1 σ H1 _ I1 q) λus s2 ⟨vs,H2,I2,r,q2⟩=>⟨I2.kIn,?_⟩) hst hpl
 exact kR (us:=.ref a :: us) (vs:=.ref a :: vs) F hr hb hd hx I2 (.cons rfl r) q2
theorem yx{pl:Sem Bool}(he:PE X o ta)(c:cO X.K C)(hm:fD X.K C m f)(F:bw X.prog X.w X.K X.mg X.base CX k f fd ps sp)(hr:aQ k X.A)(hb:aA X.K fd ps ds)(hd:ar dvs ds)(hx:fA CX X E)
 (ht:eval (.Call (.Attribute o m apos) [] [] pos) X.env=(do
   let ov <- eval o X.env
   standAt apos.atName
   let (f,first) <- holding [ov] (getMethod ov m pl)
   callWith pos f first (backTo pos (starEach [] X.env)) (backToKw pos (keywordEach [] X.env))):=by rfl) :
 PE X (.Call (.Attribute o m apos) [] [] pos) (jc C m sp dvs E ta ja):=by
 intro pins s σ H Q I h
 refine W.methodCall_KW (pl:=pl) (aj (he pins s σ H _ I h) λu s1 ⟨x,H1,I1,rx,a,dx,fs,ex,ea,l,q⟩=>?_) ht
 subst ex
 obtain rfl:u=Value.ref a:=rx
 refine rY I1 ea c hm l ?_
 exact W.callWith_K0 (first:=[.ref a]) I1.kIn hm.kp (kR (us:=[.ref a]) (vs:=[.ref a]) F hr hb hd hx I1 (.cons rfl .nil) q)
structure Mk (K:W.Frag) (C f:Addr):Prop where
 makes:W.makesIn K C=true
 init:W.findIn K (.ref C) "__init__" = some (some (.ref f))
 fn:W.isFn K (.ref f)=true
 kp:W.keepIn K (.ref C)=true
theorem wI{pins:List (Addr × Obj)}{σ:St}{H:Hp}{s:Shared}{Q:VK}{us:List Value}{vs:List V}(M:Mk X.K C f)(F:bw X.prog X.w X.K X.mg X.base CX k f fd ps sp)(hr:aQ (k+1) X.A)(hb:aA X.K fd ps ds)(hd:ar dvs ds)
 (hx:fA CX X E) (I:ad X pins σ H s) (r:ar vs us)
 (h : ∀ x dx,H x=none->H dx=none->dx≠x->sp (.ref x :: (vs++dvs)) (upd (upd H dx (.own x)) x (.ins C dx [])) (λv H2=>v=.non/\Q (.ref x) H2) E) :
 wpAny (model X.prog X.w) X.A (call (.ref C) us) (EP X pins σ Q) X.xe s:=by
 have hq:=h (s.heap.objs.size+1) s.heap.objs.size (I.hok.fresh (Nat.le_succ _)) (I.hok.fresh (Nat.le_refl _)) (Nat.ne_of_lt (Nat.lt_succ_self _))
 have I2:=ad.made (C:=C) I
 have r2:ar (V.ref (s.heap.objs.size+1) :: (vs++dvs)) (Value.ref (s.heap.objs.size+1) :: (us++ds)):=.cons rfl (r.append hd)
 have hl:(Value.ref (s.heap.objs.size+1) :: us++ds).length=ps.length:=by
  have e:=r2.length
  rw[F.len _ _ _ _ hq]at e
  exact e.symm
 refine wpAny_call (zH (f:=f) I.kIn M.makes M.init (beq_iff_eq.mp M.fn) (codeAny_mono (F.run _ X.stack _ _ ⟨Value.ref (s.heap.objs.size+1) :: us,[]⟩ (Value.ref (s.heap.objs.size+1) :: (us++ds)) _ _ E (hr.make C us [])
  (I2.env0.make C us []) (hb _ (Value.ref (s.heap.objs.size+1) :: us) I2.kIn hl) r2 hq) λr s' hq'=>?_))
 cases r with
 | error e=>exact hx pins σ _ _ e s' I2 hq'
 | ok fl =>
  cases fl with
  | ret u =>
   obtain⟨v,H',I3,rv,ev,q3⟩:=I2.after hq'
   subst ev
   exact⟨rv,⟨V.ref (s.heap.objs.size+1),H',I3,rfl,q3⟩⟩
  | next=>exact False.elim hq'
  | brk=>exact False.elim hq'
  | cont=>exact False.elim hq'
theorem yz(M:Mk X.K C f)(F:bw X.prog X.w X.K X.mg X.base CX k f fd ps sp)(hr:aQ (k+1) X.A)(hg:Gl X x)(hm:X.mg x=some (.ref C))(hb:aA X.K fd ps ds)(hd:ar dvs ds)(hx:fA CX X E)
 (ha:PA X (e :: es) t) (hdb:(x == ("__debug__" : Str))=false:=by decide) (he:starEach (e :: es) X.env=(false,eval e X.env) :: starEach es X.env:=by rfl) (hpl:(backTo pos (starEach es X.env)).any (·.1)=false:=by rfl) :
 PE X (.Call (.Name x p) (e :: es) [] pos) (pA C sp dvs E t):=by
 intro pins s σ H Q I h
 refine wpAny_Call_Name_kw (lC I hg hm ?_ hdb)
 refine W.callWith_K (h₀:=X.base) I.ok.mod.kin M.kp (aj (ha pos pins s σ H _ I h) λus s1 ⟨vs,H1,I1,r,q⟩=>⟨I1.kIn,?_⟩) he hpl
 exact wI M F hr hb hd hx I1 r q
end
section
variable {X:Cx}{CX:cP}{k:Nat}{f C:Addr}{fd:FuncData}{ps ks:List Str}{sp:Sp}{E:XK}{x m:Str}{p pos apos kpos:Pos}{e o:Expr}{es:List Expr}{kws:List Keyword}{te ta:TE}{t tk:TA}{nm:Option Str}
structure Dz (K:W.Frag) (fd:FuncData) (ps ks:List Str) (g:List Value->List Value->List Value) (gV:List V->List V->List V):Prop where
 to : ∀ (s:Shared) (us ws:List Value),K.In s.heap->(g us ws).length=ps.length->BindsTo s fd ⟨us,ks.zip ws⟩ (ps.zip (g us ws))
 rel : ∀ {vs:List V} {us:List Value} {zs:List V} {ws:List Value},ar vs us->ar zs ws->ar (gV vs zs) (g us ws)
variable {g:List Value->List Value->List Value}{gV:List V->List V->List V}
end
structure aT (N P:List Str) (sc:Scope):Prop where
 kind:sc.kind=.function
 co:sc.isCoroutine=false
 gen:sc.isGenerator=false
 nd:N.Nodup
 pre:N.take P.length=P
 par : ∀ x∈P,sc.names.lookup x=some .local\/sc.names.lookup x=some .cell
 nofree : ∀ y∈sc.names,y.2 ≠ .free
theorem tM{kindOf:Str->Option NameKind}{x:Str} : ∀ {binds:List (Str × Value)} {m:Str->Option Value},(∀ v,(x,v)∉binds)->bindL kindOf binds m x=m x
 | [],_,_=>rfl
 | (n,v) :: r,m,h=>by
  unfold bindL
  rw[tM λw hw=>h w (List.mem_cons_of_mem _ hw)]
  split
  ·have:x≠n:=by rintro rfl; exact h v List.mem_cons_self
   simp[this]
  ·rfl
theorem tO{kindOf:Str->Option NameKind}{x:Str} : ∀ {binds:List (Str × Value)} {m:Str->Option Value},(∀ v,(x,v)∉binds)->bindC kindOf binds m x=m x
 | [],_,_=>rfl
 | (n,v) :: r,m,h=>by
  unfold bindC
  rw[tO λw hw=>h w (List.mem_cons_of_mem _ hw)]
  split
  ·rfl
  ·have:x≠n:=by rintro rfl; exact h v List.mem_cons_self
   simp[this]
theorem tN{kindOf:Str->Option NameKind}{x:Str}{v:Value} : ∀ {P:List Str} {vs:List Value} {i:Nat} {m:Str->Option Value},P.Nodup->P[i]? = some x->vs[i]? = some v->kindOf x=some .local ->
 bindL kindOf (P.zip vs) m x=some v
 | [],_,_,_,_,h,_,_=>by simp at h
 | _ :: _,[],_,_,_,_,h,_=>by simp at h
 | p :: P,w :: vs,0,m,nd,h1,h2,hk=>by
  simp at h1 h2; subst h1; subst h2
  show bindL kindOf ((p,w) :: P.zip vs) m p=_
  unfold bindL
  rw[tM λv hv=>(List.nodup_cons.mp nd).1 (List.of_mem_zip hv).1,if_pos hk]
  simp
 | p :: P,w :: vs,i+1,m,nd,h1,h2,hk=>by
  show bindL kindOf ((p,w) :: P.zip vs) m x=_
  unfold bindL
  exact tN (i:=i) (List.nodup_cons.mp nd).2 (by simpa using h1) (by simpa using h2) hk
theorem tP{kindOf:Str->Option NameKind}{x:Str}{v:Value} : ∀ {P:List Str} {vs:List Value} {i:Nat} {m:Str->Option Value},P.Nodup->P[i]? = some x->vs[i]? = some v->kindOf x≠some .local ->
 bindC kindOf (P.zip vs) m x=some v
 | [],_,_,_,_,h,_,_=>by simp at h
 | _ :: _,[],_,_,_,_,h,_=>by simp at h
 | p :: P,w :: vs,0,m,nd,h1,h2,hk=>by
  simp at h1 h2; subst h1; subst h2
  show bindC kindOf ((p,w) :: P.zip vs) m p=_
  unfold bindC
  rw[tO λv hv=>(List.nodup_cons.mp nd).1 (List.of_mem_zip hv).1,if_neg hk]
  simp
 | p :: P,w :: vs,i+1,m,nd,h1,h2,hk=>by
  show bindC kindOf ((p,w) :: P.zip vs) m x=_
  unfold bindC
  exact tP (i:=i) (List.nodup_cons.mp nd).2 (by simpa using h1) (by simpa using h2) hk
def dP(N:List Str)(vs:List V):St:=vs.map some++List.replicate (N.length - vs.length) none
def ft(CX:cP)(P:Program)(w:World)(K:W.Frag)(mg:Str->Option Value)(base:Heap)(N:List Str)(qual:Str)(scope:Scope)(f:Addr)(cd:Value)(A:Around)(outer:List Env)(s:Shared)(H:Hp)(E:XK):Cx where
 prog:=P
 w:=w
 K:=K
 mg:=mg
 base:=base
 A:=A.deeper (envOfC qual scope s.heap.objs.size f cd)
 N:=N
 s₀:=s
 H₀:=H
 env:=envOfC qual scope s.heap.objs.size f cd
 outer:=outer
 stack:=envOfC qual scope s.heap.objs.size f cd :: outer
 ex:=[]
 calm:=true
 fn:=λ_=>true
 pn:=[]
 xe:=λe s'=>wpAny (model P w) (A.deeper (envOfC qual scope s.heap.objs.size f cd)) (leaving (envOfC qual scope s.heap.objs.size f cd) e) (λ_ s''=>CX outer H s E e s'') (λe' s''=>CX outer H s E e' s'') s'
theorem tB{sc:Scope}{n:Nat}{x:Str}(h:sc.names.lookup x=some .cell) : ∃ c,(cellsFrom n sc.names []).lookup x=some c:=by
 have q:=W.cellsFrom_some sc.names n [] (.inl h)
 exact Option.isSome_iff_exists.mp q
theorem Af{CX:cP}{P:Program}{w:World}{K:W.Frag}{mg:Str->Option Value}{base:Heap}{N ps:List Str}{qual:Str}{scope:Scope}{f:Addr}{cd:Value}{A:Around}{outer:List Env}{s s1:Shared}{H:Hp}{E:XK}{us:List Value}{vs:List V}
 (S:aT N ps scope) (hd:A.handled=none) (e0:de P w K mg base A outer s H) (hl:vs.length=ps.length) (r:ar vs us)
 (x:InCallC s s.heap.objs.size (bindL (envOfC qual scope s.heap.objs.size f cd).kindOf (ps.zip us) λ_=>none) (cellsFrom (s.heap.objs.size+1) scope.names []) (bindC (envOfC qual scope s.heap.objs.size f cd).kindOf (ps.zip us) λ_=>none) s1) :
 ad (ft CX P w K mg base N qual scope f cd A outer s H E) [] (dP N vs) H s1:=by
 have hpl:ps.length<=N.length:=by have:=congrArg List.length S.pre; rw[List.length_take]at this; omega
 obtain⟨h1,tk,rfl,hk⟩:=x.done
 have noA : ∀ b:Addr,b∉(ft CX P w K mg base N qual scope f cd A outer s H E).ex:=λb z=>absurd (show b∈([]:List Addr) from z) (by simp)
 refine⟨⟨e0.mod,S.kind,rfl,rfl,Nat.le_refl _,λy z c h1 h2=>?_,λy hy=>?_,λy c _ h=>?_,λ_=>hd,Around.frames_deeper e0.frames,.inr ⟨rfl,rfl⟩,λb z=>absurd z (noA b),e0.bs,e0.bsz,λb _ _=>noA b,λb z=>absurd z (noA b),e0.funs,e0.frf⟩,
  rfl,e0.bare,Un.kept hk,⟨_,x.toInCall.ns,λi y v h1 h2 h3=>?_⟩,λy c h=>⟨_,x.cell y c h⟩,e0.hok.fresh (Nat.le_refl _),λy c h=>?_,λp hp=>absurd (show p∈([]:List (Addr × Obj)) from hp) (by simp),e0.hok.kept hk,?_⟩
 ·exact name_of_addr x.apart (PySem.mem_of_lookup h1) (PySem.mem_of_lookup h2)
 ·have hy:scope.names.lookup y=some .cell\/scope.names.lookup y=some .free:=hy
  rcases hy with hy | hy
  ·exact tB hy
  ·exact absurd rfl (S.nofree _ (PySem.mem_of_lookup hy))
 ·exact Nat.le_of_lt (x.above y c (PySem.mem_of_lookup h))
 ·have hi:i < vs.length:=by
   unfold dP at h2
   by_cases hi:i < vs.length
   ·exact hi
   ·rw[List.getElem?_append_right (by simpa using hi)]at h2
    rw[List.getElem?_replicate]at h2
    split at h2 <;> cases h2
  have ha:vs[i]? = some v:=by
   unfold dP at h2
   rw[List.getElem?_append_left (by simpa using hi),List.getElem?_map]at h2
   cases e:vs[i]? with
   | none=>rw[e]at h2; cases h2
   | some a=>rw[e]at h2; cases h2; rfl
  obtain⟨u,hu,rv⟩:=r.get ha
  have hp:ps[i]? = some y:=by
   rw[<- S.pre,List.getElem?_take_of_lt (by omega)]; exact h1
  have ndP:ps.Nodup:=by rw[<- S.pre]; exact S.nd.sublist (List.take_sublist _ _)
  refine⟨u,rv,?_⟩
  rcases S.par y (List.mem_of_getElem? hp) with k | k
  ·exact .inl ⟨k,tN ndP hp hu k⟩
  ·obtain⟨c,e⟩:=tB (n:=s.heap.objs.size+1) k
   refine .inr ⟨.inl k,c,e,?_⟩
   have q:=x.cell y c e
   rw[tP ndP hp hu (by show scope.names.lookup y≠_; rw[k]; decide)]at q
   exact q
 ·exact e0.hok.fresh (Nat.le_of_lt (x.above y c (PySem.mem_of_lookup h)))
 ·unfold dP
  show _=N.length
  rw[List.length_append,List.length_map,List.length_replicate]
  omega
theorem sx{CX:cP}{P:Program}{w:World}{K:W.Frag}{mg:Str->Option Value}{base:Heap}{k:Nat}{f:Addr}{name qual:Str}{params:Arguments}{body:List Stmt}{scope:Scope}{dV kV doc pm cdv ct oc:Value}{an od:Option Addr}
 {osl:Array (Option Value)} {N ps:List Str} {sp:Sp} (lk:K.lookup f=some ⟨oc,od,.func (W.fnOf name qual params body scope dV kV doc pm an cdv ct),osl⟩) (hcd:W.codeIn K cdv qual=true) (S:aT N ps scope)
 (len : ∀ vs H Q E,sp vs H Q E->vs.length=ps.length)
 (hbody : ∀ (A:Around) (outer:List Env) (s:Shared) (H:Hp) (vs:List V) (Q:VK) (E:XK),aQ k (A.deeper (envOfC qual scope s.heap.objs.size f cdv))->sp vs H Q E ->
   ∃ t,cN (ft CX P w K mg base N qual scope f cdv A outer s H E) body t/\t { nx:=λ_ H'=>Q .non H',rt:=Q } (dP N vs) H) :
 bw P w K mg base CX (k+1) f (W.fnOf name qual params body scope dV kV doc pm an cdv ct) ps sp:=by
 refine⟨len,λA outer s H args us vs Q E hr e0 hb r hsp=>?_⟩
 have hl:=len _ _ _ _ hsp
 have KX:K.In s.heap:=e0.mod.kin.keeps λb o e=>(e0.bs b o e).1
 have lim:s.heap.NoLimit:=e0.mod.nolimit.keeps λb o e=>(e0.bs b o e).1
 have hkind : ∀ y∈ps.zip us,scope.names.lookup y.1=some .local\/(scope.names.lookup y.1=some .cell/\((cellsFrom (s.heap.objs.size+1) scope.names []).lookup y.1).isSome=true):=λ⟨n,v⟩ hy=>by
  rcases S.par n (List.of_mem_zip hy).1 with q | q
  ·exact .inl q
  ·exact .inr ⟨q,W.cellsFrom_some _ _ _ (.inl q)⟩
 refine codeAny_call_function hr.depth (KX _ _ lk) rfl S.co S.gen rfl (W.codeRec_of KX hcd) (hb _ _ _ _ ?_)
 refine wpAny_newFunctionEnv_cells S.kind hkind λenv he s1 x=>?_
 subst he
 refine⟨lim.keeps x.toInCall.keep,codeAny_func ?_⟩
 obtain⟨t,ht,hq⟩:=hbody A outer s H vs Q E (hr.deeper _) hsp
 have I:ad (ft CX P w K mg base N qual scope f cdv A outer s H E) [] (dP N vs) H s1:=Af S hr.hd e0 hl r x
 refine wpAny_mono (ht [] s1 (dP N vs) H _ I hq) (λfl s' hs=>?_) λe s' hs=>hs
 have fin : ∀ {σ':St} {H':Hp} {v:V} {u:Value},ad (ft CX P w K mg base N qual scope f cdv A outer s H E) [] σ' H' s'->au v u->Q v H'->CE outer P w H s Q u s' :=
  λ{σ' H' v u} J rv q=>⟨v,H',J.os,J.bare,J.base,J.hok,rv,q⟩
 cases fl with
 | ret u =>
  obtain⟨v,σ',H',J,rv,q⟩:=hs
  exact fin J rv q
 | next =>
  obtain⟨σ',H',J,q⟩:=hs
  exact fin (v:=V.non) (u:=Value.none) J rfl q
 | brk =>
  obtain⟨_,_,_,q⟩:=hs
  exact False.elim q
 | cont =>
  obtain⟨_,_,_,q⟩:=hs
  exact False.elim q
section
variable {X:Cx}{x:Str}{p pos:Pos}{e:Expr}{es:List Expr}{t:TA}{id T:String}{r:List V->Hp->VK->Prop}
def gx(r:List V->Hp->VK->Prop)(t:TA):TE:=λσ H Q=>t σ H λvs H1=>r vs H1 Q
theorem yL (hc:bp X (.builtin id) r) (hg:Gl X x) (hm:X.mg x=none) (hv:bootBuiltins x=some (.builtin id)) (ha:PA X (e :: es) t) (hn:x ≠ "__name__":=by decide) (hdb:(x == ("__debug__" : Str))=false:=by decide)
 (he:starEach (e :: es) X.env=(false,eval e X.env) :: starEach es X.env:=by rfl) (hpl:(backTo pos (starEach es X.env)).any (·.1)=false:=by rfl):PE X (.Call (.Name x p) (e :: es) [] pos) (gx r t):=by
 intro pins s σ H Q I h
 refine wpAny_Call_Name_kw (fj I hg hm hv ?_ hn hdb)
 exact PyProof.Rows.callWith_builtin1 (aj (ha pos pins s σ H _ I h) λus s1 ⟨vs,H1,I1,r1,q1⟩=>hc pins s1 σ H1 vs us Q I1 r1 q1) he hpl
theorem yK (hc:bp X (.type T) r) (hg:Gl X x) (hm:X.mg x=none) (hv:bootBuiltins x=some (.type T)) (ha:PA X (e :: es) t) (hn:x ≠ "__name__":=by decide) (hdb:(x == ("__debug__" : Str))=false:=by decide)
 (he:starEach (e :: es) X.env=(false,eval e X.env) :: starEach es X.env:=by rfl) (hpl:(backTo pos (starEach es X.env)).any (·.1)=false:=by rfl):PE X (.Call (.Name x p) (e :: es) [] pos) (gx r t):=by
 intro pins s σ H Q I h
 refine wpAny_Call_Name_kw (fj I hg hm hv ?_ hn hdb)
 exact PyProof.Rows.callWith_type1 (aj (ha pos pins s σ H _ I h) λus s1 ⟨vs,H1,I1,r1,q1⟩=>hc pins s1 σ H1 vs us Q I1 r1 q1) he hpl
end
section
variable {κ:Type}[DecidableEq κ]
def aM(kvs:List (κ × V))(k:κ):Option V:=(kvs.find? λkv=>decide (kv.1=k)).map (·.2)
def ba(kvs:List (κ × V))(k:κ)(v:V):List (κ × V) :=
 if (kvs.any λkv=>decide (kv.1=k))=true then kvs.map (λkv=>if kv.1=k then (kv.1,v) else kv) else kvs++[(k,v)]
theorem di{p:κ × V}{r:List (κ × V)}{k:κ}(e:p.1=k):aM (p :: r) k=some p.2:=by simp[aM,List.find?_cons,e]
theorem dj{p:κ × V}{r:List (κ × V)}{k:κ}(e : ¬ p.1=k):aM (p :: r) k=aM r k:=by simp[aM,List.find?_cons,e]
theorem iD(k:κ) : ∀ kvs:List (κ × V),(kvs.any λkv=>decide (kv.1=k))=(aM kvs k).isSome
 | []=>rfl
 | p :: r=>by
  rw[List.any_cons]
  by_cases e:p.1=k
  ·simp only [di e,decide_eq_true e,Bool.true_or,Option.isSome_some]
  ·rw[dj e,decide_eq_false e,Bool.false_or]; exact iD k r
theorem oM(k j:κ)(y:V) : ∀ kvs:List (κ × V),aM (kvs.map λkv=>if kv.1=k then (kv.1,y) else kv) j=(aM kvs j).map λx=>if j=k then y else x
 | []=>rfl
 | p :: r=>by
  have ih:=oM k j y r
  rw[List.map_cons]
  by_cases h:p.1=k
  ·rw[if_pos h]
   by_cases e:p.1=j
   ·rw[di (p:=(p.1,y)) e,di e,Option.map_some,if_pos (e.symm.trans h)]
   ·rw[dj (p:=(p.1,y)) e,dj e,ih]
  ·rw[if_neg h]
   by_cases e:p.1=j
   ·rw[di (p:=p) e,di e,Option.map_some,if_neg (λz=>h (e.trans z))]
   ·rw[dj (p:=p) e,dj e,ih]
theorem oK(k j:κ)(y:V) : ∀ kvs:List (κ × V),aM kvs k=none->aM (kvs++[(k,y)]) j=if j=k then some y else aM kvs j
 | [],_=>by
  by_cases e:k=j
  ·rw[if_pos e.symm]; exact di (p:=(k,y)) e
  ·rw[if_neg (λz=>e z.symm)]; exact dj (p:=(k,y)) e
 | p :: r,hn=>by
  rw[List.cons_append]
  have hk : ¬ p.1=k:=λz=>by rw[di z]at hn; cases hn
  rw[dj hk]at hn
  have ih:=oK k j y r hn
  by_cases e:p.1=j
  ·rw[di e,di e,if_neg (λz=>hk (e.trans z))]
  ·rw[dj e,dj e,ih]
theorem dA(kvs:List (κ × V))(k j:κ)(y:V):aM (ba kvs k y) j=if j=k then some y else aM kvs j:=by
 unfold ba
 by_cases a:(kvs.any λkv=>decide (kv.1=k))=true
 ·rw[if_pos a,oM]
  rw[iD]at a
  by_cases e:j=k
  ·obtain⟨x,hx⟩:=Option.isSome_iff_exists.mp a
   rw[if_pos e,e,hx,Option.map_some,if_pos rfl]
  ·rw[if_neg e]
   cases aM kvs j with
   | none=>rfl
   | some x=>rw[Option.map_some,if_neg e]
 ·rw[if_neg a]
  refine oK k j y kvs ?_
  rw[iD]at a
  cases q:aM kvs k with
  | none=>rfl
  | some x=>rw[q]at a; exact (a rfl).elim
theorem fU(kvs:List (κ × V))(k:κ)(v:V):(ba kvs k v).length<=kvs.length+1:=by
 unfold ba
 split
 ·rw[List.length_map]; omega
 ·rw[List.length_append,List.length_cons,List.length_nil]; omega
theorem qz{kvs:List (κ × V)}{k:κ}(v:V)(h:aM kvs k=none):ba kvs k v=kvs++[(k,v)]:=by
 unfold ba
 rw[iD,h]
 exact if_neg (by decide)
theorem bS.isSome_eq{o:Option V}{u:Option Value}(r:bS o u):o.isSome=u.isSome:=by
 cases o with
 | none=>cases u with
  | none=>rfl
  | some _=>exact (show False from r).elim
 | some _=>cases u with
  | none=>exact (show False from r).elim
  | some _=>rfl
theorem KV.val{kvs:List (κ × V)}{vs:List (κ × Value)}(r:KV kvs vs)(k:κ):bS (aM kvs k) (valueAt vs k):=by
 unfold KV at r
 induction r with
 | nil=>exact True.intro
 | @cons p q ps qs h t ih =>
  obtain⟨h1,h2⟩:=h
  by_cases e:p.1=k
  ·have e':q.1=k:=h1.symm.trans e
   have b:valueAt (q :: qs) k=some q.2:=by simp[valueAt,List.find?_cons,e']
   rw[di e,b]; exact h2
  ·have e' : ¬ q.1=k:=λz=>e (h1.trans z)
   have b:valueAt (q :: qs) k=valueAt qs k:=by simp[valueAt,List.find?_cons,e']
   rw[dj e,b]; exact ih
theorem KV.any{kvs:List (κ × V)}{vs:List (κ × Value)}(r:KV kvs vs)(k:κ):(kvs.any λkv=>decide (kv.1=k))=vs.any λkv=>decide (kv.1=k):=by
 unfold KV at r
 induction r with
 | nil=>rfl
 | cons h t ih=>rw[List.any_cons,List.any_cons,ih,h.1]
theorem KV.repl{kvs:List (κ × V)}{vs:List (κ × Value)}(r:KV kvs vs)(k:κ){y:V}{u:Value}(ry:au y u) :
 KV (kvs.map λkv=>if kv.1=k then (kv.1,y) else kv) (vs.map λkv=>if kv.1=k then (kv.1,u) else kv):=by
 unfold KV at r ⊢
 induction r with
 | nil=>exact .nil
 | @cons p q ps qs h t ih =>
  rw[List.map_cons,List.map_cons]
  refine .cons ?_ ih
  obtain⟨h1,h2⟩:=h
  by_cases e:p.1=k
  ·rw[if_pos e,if_pos (h1.symm.trans e)]; exact⟨h1,ry⟩
  ·rw[if_neg e,if_neg (λz=>e (h1.trans z))]; exact⟨h1,h2⟩
theorem KV.put{kvs:List (κ × V)}{vs:List (κ × Value)}(r:KV kvs vs)(k:κ){y:V}{u:Value}(ry:au y u):KV (ba kvs k y) (stored vs k u):=by
 unfold ba stored
 rw[r.any k]
 by_cases e:(vs.any λkv=>decide (kv.1=k))=true
 ·rw[if_pos e,if_pos e]; exact r.repl k ry
 ·rw[if_neg e,if_neg e]; exact Paired.snoc r ⟨rfl,ry⟩
theorem KV.length{kvs:List (κ × V)}{vs:List (κ × Value)}(r:KV kvs vs):kvs.length=vs.length:=Paired.length r
end
theorem jI{P:Program}{w:World}{k:am}{u:Value}(r:au (kV k) u):(bM P w).is k u=true:=by
 cases k with
 | inl i=>obtain⟨t,e⟩:=(show ∃ t,u=Value.int i t from r); subst e; exact zo P w i t
 | inr x=>obtain⟨t,e⟩:=(show ∃ t,u=Value.str x t from r); subst e; exact zl P w x t
theorem rE{P:Program}{w:World} : ∀ {ks:List am} {us:List Value},ar (ks.map kV) us->ItemsAre (bM P w) ks us
 | [],_,r=>by rw[List.map_nil]at r; cases r; exact .nil
 | k :: ks,_,r=>by
  rw[List.map_cons]at r
  cases r with
  | cons h t=>exact .cons (jI h) (rE t)
abbrev KT(H:Hp):List (List am × V)->List (List am × Addr × Value)->Prop:=Paired λp q=>p.1=q.1/\H q.2.1=some (.tup (p.1.map kV))/\au p.2 q.2.2
theorem KT.val{H:Hp}{kvs:List (List am × V)}{xs:List (List am × Addr × Value)}(r:KT H kvs xs)(k:List am):bS (aM kvs k) ((atKey xs k).map (·.2)):=by
 induction r with
 | nil=>exact True.intro
 | @cons p q ps qs h t ih =>
  obtain⟨h1,_,h2⟩:=h
  by_cases e:p.1=k
  ·have e':q.1=k:=h1.symm.trans e
   have b:atKey (q :: qs) k=some q.2:=by simp[atKey,List.find?_cons,e']
   rw[di e,b]; exact h2
  ·have e' : ¬ q.1=k:=λz=>e (h1.trans z)
   have b:atKey (q :: qs) k=atKey qs k:=by simp[atKey,List.find?_cons,e']
   rw[dj e,b]; exact ih
theorem KT.repl{H:Hp}{kvs:List (List am × V)}{xs:List (List am × Addr × Value)}(r:KT H kvs xs)(k:List am){y:V}{u:Value}(ry:au y u) :
 KT H (kvs.map λkv=>if kv.1=k then (kv.1,y) else kv) (xs.map (putAt k u)):=by
 induction r with
 | nil=>exact .nil
 | @cons p q ps qs h t ih =>
  rw[List.map_cons,List.map_cons]
  refine .cons ?_ ih
  obtain⟨h1,h2,h3⟩:=h
  unfold putAt
  by_cases e:p.1=k
  ·rw[if_pos e,if_pos (h1.symm.trans e)]; exact⟨h1,h2,ry⟩
  ·rw[if_neg e,if_neg (λz=>e (h1.trans z))]; exact⟨h1,h2,h3⟩
theorem KT.put{H:Hp}{kvs:List (List am × V)}{xs:List (List am × Addr × Value)}(r:KT H kvs xs)(k:List am){b:Addr}{y:V}{u:Value}(hb:H b=some (.tup (k.map kV)))(ry:au y u) :
 KT H (ba kvs k y) (storedH xs k b u):=by
 have e:(kvs.any λkv=>decide (kv.1=k))=(atKey xs k).isSome:=by
  rw[iD,(r.val k).isSome_eq,Option.isSome_map]
 unfold ba storedH
 rw[e]
 by_cases q:(atKey xs k).isSome=true
 ·rw[if_pos q,if_pos q]; exact r.repl k ry
 ·rw[if_neg q,if_neg q]; exact Paired.snoc r ⟨rfl,hb,ry⟩
theorem KT.keeps{H H':Hp}{kvs:List (List am × V)}{xs:List (List am × Addr × Value)}(r:KT H kvs xs)(ht : ∀ b ys,H b=some (.tup ys)->H' b=some (.tup ys)):KT H' kvs xs :=
 Paired.mapP r λ_ _ z=>⟨z.1,ht _ _ z.2.1,z.2.2⟩
section
variable {P:Program}{w:World}{H:Hp}{h:Heap}{a:Addr}
theorem pZ{u:HO}(ok:aN P w H h)(e:Rd H a u):aL P w H h a u:=e.ok ok
theorem jT{kvs:List (am × V)}(ok:aN P w H h)(e:Rd H a (.dK kvs)):kvs.length<=sizeLine/\(a == sysModules)=false/\∃ vs,KV kvs vs/\h.DictOf (bM P w) a vs :=
 show aL P w H h a (.dK kvs) from pZ ok e
theorem jU{kvs:List (am × V)}(ok:aN P w H h)(e:H a=some (.dK kvs)):kvs.length<=sizeLine/\(a == sysModules)=false/\∃ vs,KV kvs vs/\h.DictOf (bM P w) a vs:=jT ok (.inl e)
theorem jH{ks:List am}(ok:aN P w H h)(e:H a=some (.tup (ks.map kV))):(tupleKind (bM P w)).is h ks a:=by
 obtain⟨_,its,r,o,h1,h2,n,h3⟩:=(show aL P w H h a (.tup (ks.map kV)) from ok a _ e)
 exact⟨o,its.toArray,n,h1,h2,h3,by simpa using rE r⟩
theorem jS{kvs:List (List am × V)}(ok:aN P w H h)(e:Rd H a (.dT kvs)):kvs.length<=sizeLine/\(a == sysModules)=false /\
 ∃ xs,KT H kvs xs/\h.DictOfH (tupleKind (bM P w)) a xs:=by
 obtain⟨z,y,xs,r,o,es,ep,h1,h2,h3,h4,h5⟩:=(show aL P w H h a (.dT kvs) from pZ ok e)
 refine⟨z,y,xs,r,o,es,ep,h1,h2,h3,h4,λx hx=>?_,h5⟩
 have all : ∀ {l:List (List am × V)} {m:List (List am × Addr × Value)},KT H l m->∀ x∈m,(tupleKind (bM P w)).is h x.1 x.2.1:=by
  intro l m q
  induction q with
  | nil=>intro x hx; exact nomatch hx
  | @cons p q ps qs hq t ih =>
   intro x hx
   rcases List.mem_cons.mp hx with e | hx
   ·subst e
    exact jH ok (by rw[<- hq.1]; exact hq.2.1)
   ·exact ih x hx
 exact all r x hx
theorem BJ{kvs:List (List am × V)}(ok:aN P w H h)(e:H a=some (.dT kvs)):kvs.length<=sizeLine/\(a == sysModules)=false /\
 ∃ xs,KT H kvs xs/\h.DictOfH (tupleKind (bM P w)) a xs:=jS ok (.inl e)
end
def dz(H:Hp)(a:Addr)(y:V)(r:Option V):Prop :=
 (∃ kvs k,Rd H a (.dK kvs)/\y=kV k/\r=aM kvs k)\/∃ kvs k b,Rd H a (.dT kvs)/\y=.ref b/\H b=some (.tup (k.map kV))/\r=aM kvs k
def dM(H:Hp)(a:Addr)(y v:V)(H':Hp):Prop :=
 (∃ kvs k,H a=some (.dK kvs)/\y=kV k/\kvs.length < sizeLine/\H'=upd H a (.dK (ba kvs k v))) \/
 ∃ kvs k b,H a=some (.dT kvs)/\y=.ref b/\H b=some (.tup (k.map kV))/\kvs.length < sizeLine/\H'=upd H a (.dT (ba kvs k v))
theorem dz.k{H:Hp}{a:Addr}{kvs:List (am × V)}{k:am}(e:H a=some (.dK kvs)):dz H a (kV k) (aM kvs k):=.inl ⟨kvs,k,.inl e,rfl,rfl⟩
theorem dM.k{H:Hp}{a:Addr}{kvs:List (am × V)}{k:am}{v:V}(e:H a=some (.dK kvs))(hl:kvs.length < sizeLine):dM H a (kV k) v (upd H a (.dK (ba kvs k v))):=.inl ⟨kvs,k,e,rfl,hl,rfl⟩
theorem dM.t{H:Hp}{a b:Addr}{kvs:List (List am × V)}{k:List am}{v:V}(e:H a=some (.dT kvs))(eb:H b=some (.tup (k.map kV)))(hl:kvs.length < sizeLine) :
 dM H a (.ref b) v (upd H a (.dT (ba kvs k v))):=.inr ⟨kvs,k,b,e,rfl,eb,hl,rfl⟩
section
variable {X:Cx}{pins:List (Addr × Obj)}{σ:St}{H:Hp}{s:Shared}{a:Addr}{y v:V}{u r:Value}{o:Option V}{A:Around}{E:Value->Shared->Prop}
theorem ad.big(I:ad X pins σ H s):sysModules < s.heap.objs.size:=by
 have h:mainGlobals < s.heap.objs.size:=(I.mod.glob.keeps I.bk).lt
 exact Nat.lt_trans (by decide) h
theorem BS{Q:Value->Shared->Prop}(hu:A.units+1 < cLine)(I:ad X pins σ H s)(g:dz H a y (some v))(ry:au y u)(h : ∀ w' s',ad X pins σ H s'->au v w'->Q w' s') :
 wpAny (model X.prog X.w) A (getItem (.ref a) u) Q E s:=by
 rcases g with ⟨kvs,k,e,ey,l⟩ | ⟨kvs,k,b,e,ey,eb,l⟩
 ·subst ey
  obtain⟨z,hd,vs,rel,dd⟩:=jT I.hok e
  obtain⟨w',hw,rw'⟩:=bS.some_of (v:=v) (o:=valueAt vs k) (by rw[l]; exact rel.val k)
  exact wpAny_getItem_of (jI ry) dd.mapOf hw (h w' _ (I.tok _) rw')
 ·subst ey
  cases (show u=Value.ref b from ry)
  obtain⟨z,hd,xs,rel,dd⟩:=jS I.hok e
  obtain⟨w',hw,rw'⟩:=bS.some_of (v:=v) (o:=(atKey xs k).map (·.2)) (by rw[l]; exact rel.val k)
  obtain⟨p,hp,hp2⟩:=Option.map_eq_some_iff.mp hw
  refine wpAny_getItem_heap (tupleKind_room_in1 hu) (jH I.hok eb) dd hp ?_
  rw[hp2]
  exact h w' _ (I.tok _) rw'
theorem BR{Q:Value->Shared->Prop}(hu:A.units+1 < cLine)(I:ad X pins σ H s)(g:dz H a y o)(ry:au y u)(h : ∀ s',ad X pins σ H s'->Q (.bool o.isSome) s') :
 wpAny (model X.prog X.w) A (compareOp .In u (.ref a)) Q E s:=by
 rcases g with ⟨kvs,k,e,ey,l⟩ | ⟨kvs,k,b,e,ey,eb,l⟩
 ·subst ey
  obtain⟨z,hd,vs,rel,dd⟩:=jT I.hok e
  refine wpAny_in_of (jI ry) hd dd.mapOf ?_
  rw[<- (rel.val k).isSome_eq,<- l]
  exact h _ (I.tok _)
 ·subst ey
  cases (show u=Value.ref b from ry)
  obtain⟨z,hd,xs,rel,dd⟩:=jS I.hok e
  refine wpAny_in_heap (tupleKind_room_in1 hu) (jH I.hok eb) hd dd ?_
  have q:=(rel.val k).isSome_eq
  rw[Option.isSome_map]at q
  rw[<- q,<- l]
  exact h _ (I.tok _)
theorem jW{h':Heap}{t':Nat}{ob:HO}(I:ad X pins σ H s)(mu:i3 (H a))(hs:Heap.SameBut a s.heap h')(he : ∃ q,h'.get? a=some q)(new:aL X.prog X.w (upd H a ob) h' a ob) :
 ad X pins σ (upd H a ob) { s with heap:=h',toks:=t' } :=
 I.write (x:=a) (e:=a) mu (.inl rfl) (λb q hb z=>(hs.2 b hb).trans z) he new
theorem BN{P:Program}{w:World}{H':Hp}{h':Heap}{kvs:List (am × V)}{vs:List (am × Value)}(z:kvs.length<=sizeLine)(hd:(a == sysModules)=false)(rel:KV kvs vs)(dd:h'.DictOf (bM P w) a vs) :
 aL P w H' h' a (.dK kvs):=⟨z,hd,vs,rel,dd⟩
theorem BQ{H':Hp}{Q:Unit->Shared->Prop}(hu:A.units+1 < cLine)(I:ad X pins σ H s)(g:dM H a y v H')(ry:au y u)(rv:au v r)(h : ∀ s',ad X pins σ H' s'->Q () s') :
 wpAny (model X.prog X.w) A (setItem (.ref a) u r) Q E s:=by
 rcases g with ⟨kvs,k,e,ey,l,eH⟩ | ⟨kvs,k,b,e,ey,eb,l,eH⟩
 ·subst ey eH
  obtain⟨z,hd,vs,rel,dd⟩:=jU I.hok e
  have hz:vs.length<=sizeLine:=by rw[<- rel.length]; exact z
  have hl:(ba kvs k v).length<=sizeLine:=by have:=fU kvs k v; omega
  refine wpAny_setItem_pairs (hsz:=hz) (jI ry) dd λh' dd' hs=>h _ ?_
  have he : ∃ q,h'.get? a=some q:=let ⟨q,_,_,hq,_⟩:=dd'; ⟨q,hq⟩
  exact jW I (by rw[e]; exact True.intro) hs he (BN hl hd (rel.put k rv) dd')
 ·subst ey eH
  cases (show u=Value.ref b from ry)
  obtain⟨z,hd,xs,rel,dd⟩:=BJ I.hok e
  have hz:xs.length<=sizeLine:=by rw[<- Paired.length rel]; exact z
  have hl:(ba kvs k v).length<=sizeLine:=by have:=fU kvs k v; omega
  refine wpAny_setItem_heap (hsz:=hz) (tupleKind_room_in1 hu) (jH I.hok eb) dd λh' dd' hs=>h _ ?_
  obtain⟨q,es,ep,hq,h2,h3,h4,_,h5⟩:=dd'
  refine jW I (by rw[e]; exact True.intro) hs ⟨q,hq⟩ ⟨hl,hd,_,(rel.put k eb rv).keeps λc ys ec=>?_,q,es,ep,hq,h2,h3,h4,h5⟩
  rw[ai (y7 ec e (λz=>nomatch z))]
  exact ec
end
def iZ(i:Expr):Prop:=∀ ov iv,subscripted i false ov iv=operate [ov,iv] (getItem ov iv)
theorem kM{prog:Program}{w:World}{A:Around}{E:Value->Shared->Prop}{s:Shared}{env:Env}{value slice:Expr}{pos:Pos}{T id:String}{Q:Value->Shared->Prop}
 (hl:typeLookup (.type T) "__getitem__" = pure (some (.builtin id))) (hs:iZ slice)
 (h:wpAny (model prog w) A (eval value env) (λo s₁=>wpAny (model prog w) A (eval slice env) (λi s₂=>s₂.TypeIs o T/\wpAny (model prog w) A (getItem o i) Q E s₂) E s₁) E s) :
 wpAny (model prog w) A (eval (.Subscript value slice pos) env) Q E s:=by
 refine Subscript_ (wpAny_mono h (λo s₁ h₁=>wpAny_mono h₁ (λi s₂ h₂=>?_) λ_ _ x=>x) λ_ _ x=>x)
 obtain⟨hT,h₂⟩:=h₂
 unfold subscriptTail
 refine wpAny_bind ?_
 rw[getitemInPython_of_ne hT.not_modules]
 refine wpAny_bind (wpAny_specialOf hT hl ?_)
 have fin:wpAny (model prog w) A (subscripted slice false o i) (λr s₃=>wpAny (model prog w) A (letTemporaryGo value o r >>= λ_=>pure r) Q E s₃) E s₂:=by
  rw[hs o i]
  exact wpAny_operating (wpAny_mono h₂ (λr s₃ h₃=>wpAny_bind (wpAny_letTemporaryGo (wpAny_pure h₃))) λ_ _ x=>x)
 first
  | exact wpAny_pure (wpAny_bind fin)
  | exact wpAny_bind (wpAny_pure (wpAny_bind fin))
  | exact wpAny_bind fin
theorem BP {X:Cx} {pins:List (Addr × Obj)} {σ:St} {H:Hp} {s:Shared} {a:Addr} {y:V} {o:Option V} (I:ad X pins σ H s) (g:dz H a y o):s.TypeIs (.ref a) "dict":=by
 rcases g with ⟨kvs,k,e,_,_⟩ | ⟨kvs,k,b,e,_,_,_⟩
 ·obtain⟨_,_,vs,_,dd⟩:=jT I.hok e
  exact dd.typeIs
 ·obtain⟨_,_,xs,_,dd⟩:=jS I.hok e
  exact dd.typeIs
def pF(td ty:TE):TE:=λσ H Q=>td σ H λx H1=>ty σ H1 λy H2=>∃ a v,x=.ref a/\dz H2 a y (some v)/\Q v H2
def pX(td ty tv:TE):TS:=λD σ H=>tv σ H λv H1=>td σ H1 λx H2=>ty σ H2 λy H3=>∃ a H4,x=.ref a/\dM H3 a y v H4/\D.nx σ H4
section
variable {X:Cx}{o i e value:Expr}{pos pos' tpos:Pos}{td ty tv:TE}
theorem yG(hu:X.A.units+1 < cLine)(ho:PE X o td)(hi:PE X i ty)(hs:iZ i):PE X (.Subscript o i pos) (pF td ty):=by
 intro pins s σ H Q I h
 refine kM PySem.F.slot_dict_getitem.lookup hs (aj (ho pins s σ H _ I h) λu s1 ⟨x,H1,I1,rx,q1⟩=>aj (hi pins s1 σ H1 _ I1 q1) λiv s2 ⟨y,H2,I2,ry,a,v,ex,g,q2⟩=>?_)
 subst ex
 obtain rfl:u=Value.ref a:=rx
 exact⟨BP I2 g,BS hu I2 g ry λw' s3 I3 rw'=>⟨v,H2,I3,rw',q2⟩⟩
theorem xY(hu:X.A.units+1 < cLine)(ho:PE X o td)(hi:PE X i ty)(hv:PE X value tv)(hs:swapsWith value (some (.Subscript o i pos')) pos.line X.env=pure false) :
 PS X (.Assign [.Subscript o i pos'] value pos) (pX td ty tv):=by
 intro pins s σ H D I h
 refine wpAny_Assign_Subscript (aj (hv pins s σ H _ I h) λr s1 ⟨v,H1,I1,rv,q1⟩=>aj (ho pins s1 σ H1 _ I1 q1) λu s2 ⟨x,H2,I2,rx,q2⟩=>aj (hi pins s2 σ H2 _ I2 q2) λiv s3 ⟨y,H3,I3,ry,a,H4,ex,g,q3⟩=>?_) hs
 subst ex
 obtain rfl:u=Value.ref a:=rx
 exact BQ hu I3 g ry rv λs4 I4=>⟨σ,H4,I4,q3⟩
end
theorem BO{P:Program}{w:World}{H:Hp}(h:Heap)(hb:sysModules < h.objs.size):aL P w H (h.push { cls:=.type "dict",data:=.dict #[] }) h.objs.size (.dK []) :=
 ⟨Nat.zero_le _,beq_eq_false_iff_ne.mpr (Ne.symm (Nat.ne_of_lt hb)),[],.nil,Heap.DictOf.new h⟩
theorem BK{P:Program}{w:World}{H:Hp}(h:Heap)(hb:sysModules < h.objs.size):aL P w H (h.push { cls:=.type "dict",data:=.dict #[] }) h.objs.size (.dT []) :=
 ⟨Nat.zero_le _,beq_eq_false_iff_ne.mpr (Ne.symm (Nat.ne_of_lt hb)),[],.nil,_,#[],0,Heap.get?_push_size _ rfl,⟨rfl,rfl,rfl⟩,rfl,rfl,List.nodup_nil⟩
def vB:TE:=λ_ H Q=>∀ p,H p=none->Q (.ref p) (upd H p (.dK []))
def vA:TE:=λ_ H Q=>∀ p,H p=none->Q (.ref p) (upd H p (.dT []))
section
variable {X:Cx}{pos:Pos}
theorem yF:PE X (.Dict [] [] pos) vB:=λpins s σ H Q I h =>
 wpAny_Dict_empty ⟨.ref s.heap.objs.size,_,I.laid (a:=s.heap.objs.size) (o:=.dK []) (t':=s.toks) (λ_ _ q=>Heap.get?_push_of_some _ q) (Nat.le_refl _) (BO s.heap I.big),rfl,h _ (I.hok.fresh (Nat.le_refl _))⟩
theorem yE:PE X (.Dict [] [] pos) vA:=λpins s σ H Q I h =>
 wpAny_Dict_empty ⟨.ref s.heap.objs.size,_,I.laid (a:=s.heap.objs.size) (o:=.dT []) (t':=s.toks) (λ_ _ q=>Heap.get?_push_of_some _ q) (Nat.le_refl _) (BK s.heap I.big),rfl,h _ (I.hok.fresh (Nat.le_refl _))⟩
end
structure M1 (X:Cx) (o:Expr) (m:Str) (apos:Pos) (e:Expr) (cpos:Pos):Prop where
 base:attributeBase o m X.env (eval o X.env)=eval o X.env
 few:((backTo cpos (starEach [e] X.env)).all (λx=>!x.1) && (backToKw cpos (keywordEach [] X.env)).all (λx=>x.1.isSome)
  && decide (([e]:List Expr).length+([]:List Keyword).length+(if ([]:List Keyword).isEmpty then 0 else 1) < 30))=true
 line:(apos.endLine == cpos.line)=true
 trees:backTo cpos (starEach [e] X.env)=[(false,eval e X.env)]
structure M2 (X:Cx) (o:Expr) (m:Str) (apos:Pos) (e f:Expr) (cpos:Pos):Prop where
 base:attributeBase o m X.env (eval o X.env)=eval o X.env
 few:((backTo cpos (starEach [e,f] X.env)).all (λx=>!x.1) && (backToKw cpos (keywordEach [] X.env)).all (λx=>x.1.isSome)
  && decide (([e,f]:List Expr).length+([]:List Keyword).length+(if ([]:List Keyword).isEmpty then 0 else 1) < 30))=true
 line:(apos.endLine == cpos.line)=true
 trees:backTo cpos (starEach [e,f] X.env)=[(false,eval e X.env),(false,eval f X.env)]
end L2
namespace HT
open PySem PyProof.Rows
section
variable {prog:Program}{w:World}{A:Around}{E:Value->Shared->Prop}{s:Shared}
def sIx(n d:Nat):Option Int->Nat
 | none=>d
 | some v=>if v < 0 then (v+(n:Int)).toNat else min v.toNat n
theorem wF(n d:Nat)(hd:d<=n)(o:Option Int):sIx n d o<=n:=by
 cases o with
 | none=>exact hd
 | some v =>
  show (if v < 0 then (v+(n:Int)).toNat else min v.toNat n)<=n
  by_cases hv:v < 0
  ·rw[if_pos hv]; omega
  ·rw[if_neg hv]; exact Nat.min_le_right _ _
theorem tw(v:Int)(n d:Nat):(if v < 0 then max (v+(n:Int)) 0 else min v (n:Int))=((sIx n d (some v):Nat):Int):=by
 show (if v < 0 then max (v+(n:Int)) 0 else min v (n:Int))=(((if v < 0 then (v+(n:Int)).toNat else min v.toNat n):Nat):Int)
 by_cases hv:v < 0
 ·simp only [if_pos hv]; omega
 ·simp only [if_neg hv]; omega
theorem Df(lo hi:Option Int)(n:Nat):Builtin.Slice.sliceAdjust lo hi 1 (n:Int)=(((sIx n 0 lo:Nat):Int),((sIx n n hi:Nat):Int)):=by
 have h1 : ¬ ((1:Int) < 0):=by omega
 unfold Builtin.Slice.sliceAdjust
 simp only [h1,if_false]
 refine Prod.ext ?_ ?_
 ·cases lo with
  | none=>rfl
  | some v=>exact tw v n 0
 ·cases hi with
  | none=>rfl
  | some v=>exact tw v n n
theorem x9(i j:Nat):Builtin.Slice.slicePlaces (i:Int) (j:Int) 1=j - i:=by
 unfold Builtin.Slice.slicePlaces
 have h1:(1:Int) > 0:=by omega
 simp only [h1,if_true,Int.ediv_one]
 split <;> omega
theorem pN{v:Value}{o:Option Int}{Q:Option Int->Shared->Prop}(p:IsPart v o)(h:Q o s):wpAny (model prog w) A (Builtin.Slice.slicePartIndex v) Q E s:=by
 cases p with
 | none=>exact slicePart_none h
 | int i t=>exact slicePart_int h
theorem pO{sl:Addr}{vl vu:Value}{lo hi:Option Int}{n:Nat}{Q:Int × Int × Nat->Shared->Prop}(hs:s.heap.IsSliceOf sl vl vu .none)(pl:IsPart vl lo)(pu:IsPart vu hi)
 (h:Q (((sIx n 0 lo:Nat):Int),1,sIx n n hi - sIx n 0 lo) s):wpAny (model prog w) A (Builtin.Slice.sliceApplied (.ref sl) (pure (n:Int))) Q E s:=by
 obtain⟨os,hos,hcs,hds⟩:=id hs
 unfold Builtin.Slice.sliceApplied Builtin.Slice.sliceFields
 refine wpAny_bind (wpAny_bind (wpAny_field hos hds (x:=vl) rfl (wpAny_bind (wpAny_field hos hds (x:=vu) rfl (wpAny_bind (wpAny_field hos hds (x:=.none) rfl (wpAny_pure ?_)))))))
 refine wpAny_bind (slicePart_none ?_)
 show wpAny _ _ (if ((1:Int) == 0)=true then _ else _) _ _ s
 rw[if_neg (by decide)]
 refine wpAny_bind (pN pl (wpAny_bind (pN pu (wpAny_bind (wpAny_pure ?_)))))
 show wpAny _ _ (match Builtin.Slice.sliceAdjust lo hi 1 (n:Int) with | (lo,hi)=>pure (lo,(1:Int),Builtin.Slice.slicePlaces lo hi 1)) _ _ s
 rw[Df lo hi n]
 show wpAny _ _ (pure (((sIx n 0 lo:Nat):Int),(1:Int),Builtin.Slice.slicePlaces ((sIx n 0 lo:Nat):Int) ((sIx n n hi:Nat):Int) 1)) _ _ s
 rw[x9]
 exact wpAny_pure h
theorem ya(xs:Array Value)(i k:Nat):((List.range k).filterMap λ(m:Nat)=>xs[((i:Int)+(m:Int)*1).toNat]?).toArray=((xs.toList.drop i).take k).toArray:=by
 have e:(λ(m:Nat)=>xs[((i:Int)+(m:Int)*1).toNat]?)=λm=>xs[i+m]?:=by
  funext m
  have:((i:Int)+(m:Int)*1).toNat=i+m:=by omega
  rw[this]
 rw[e]
 have:=pick_run xs i k
 rw[List.filterMap_map]at this
 have e2:((λx=>xs[x]?) ∘ λx=>i+x)=λm=>xs[i+m]?:=rfl
 rw[e2]at this
 rw[this]
theorem getItem_tuple_cut{t sl:Addr}{items:Array Value}{vl vu:Value}{lo hi:Option Int}{Q:Value->Shared->Prop}(ht:IsTup s.heap t items)(hs:s.heap.IsSliceOf sl vl vu .none)(pl:IsPart vl lo)(pu:IsPart vu hi)
 (hw : ¬ (sIx items.size 0 lo=0/\sIx items.size items.size hi=items.size))
 (h:Q (.ref s.heap.objs.size) { s with heap:=s.heap.push { cls:=.type "tuple",data:=.seq ((items.toList.drop (sIx items.size 0 lo)).take (sIx items.size items.size hi - sIx items.size 0 lo)).toArray } })
 (hsz:items.size<=sizeLine):wpAny (model prog w) A (getItem (.ref t) (.ref sl)) Q E s:=by
 have htake:sizeOk (.seq ((items.toList.drop (sIx items.size 0 lo)).take (sIx items.size items.size hi - sIx items.size 0 lo)).toArray):=by
  show ((items.toList.drop (sIx items.size 0 lo)).take (sIx items.size items.size hi - sIx items.size 0 lo)).toArray.size<=sizeLine
  rw[List.size_toArray,List.length_take,List.length_drop,Array.length_toList]
  omega
 have hj:sIx items.size items.size hi<=items.size:=wF _ _ (Nat.le_refl _) hi
 obtain⟨os,hos,hcs,hds⟩:=id hs
 have hTs:s.TypeIs (.ref sl) "slice":=⟨os,hos,hcs⟩
 unfold getItem
 try with_reducible refine wpAny_holding ?_
 first | refine wpAny_bind (wpAny_pure ?_) | skip
 refine wpAny_bind (wpAny_sequenceKey ht.typeIs (by decide) ?_)
 refine wpAny_bind (wpAny_callSpecial?_slot (name:=Str.ofString "__getitem__") ht.typeIs PyProof.Rows.slot_tuple_getitem
  (wpAny_call_entry PyProof.Rows.slot_tuple_getitem ht.typeIs entry_tuple_getitem ?_ (args_tuple_getitem _ _)))
 show wpAny _ _ (Builtin.Tuple.tupleItemsOf (.ref t) >>= _) _ _ s
 refine wpAny_bind (tupleItemsOf_ ht ?_)
 refine wpAny_bind (wpAny_typeOf hTs ?_)
 rw[if_pos (by decide)]
 refine wpAny_bind (pO hs pl pu ?_)
 have hno : ¬ ((((sIx items.size 0 lo:Nat):Int) == 0 && (1:Int) == 1 && (sIx items.size items.size hi - sIx items.size 0 lo) == items.size)=true):=by
  intro q
  rw[Bool.and_eq_true,Bool.and_eq_true]at q
  have q1:((sIx items.size 0 lo:Nat):Int)=0:=eq_of_beq q.1.1
  have q2:sIx items.size items.size hi - sIx items.size 0 lo=items.size:=eq_of_beq q.2
  exact hw ⟨by omega,by omega⟩
 show wpAny _ _ (if (((sIx items.size 0 lo:Nat):Int) == 0 && (1:Int) == 1 && (sIx items.size items.size hi - sIx items.size 0 lo) == items.size)=true then _ else _) _ _ s
 rw[if_neg hno,ya]
 first
  | exact wpAny_bind (m:=Builtin.Tuple.tupleExact _) (wpAny_newObj_type (wpAny_pure ⟨_,rfl,wpAny_pure h⟩) htake)
  | exact wpAny_bind (m:=Builtin.Tuple.tupleExact _) (wpAny_newObj_type (wpAny_bind (wpAny_pure (wpAny_pure ⟨_,rfl,wpAny_pure h⟩))) htake)
  | exact wpAny_bind (wpAny_bind (m:=Builtin.Tuple.tupleExact _) (wpAny_newObj_type (wpAny_pure (wpAny_pure ⟨_,rfl,wpAny_pure h⟩)) htake))
  | exact wpAny_bind (wpAny_bind (m:=Builtin.Tuple.tupleExact _) (wpAny_newObj_type (wpAny_pure ⟨_,rfl,wpAny_pure h⟩) htake))
end
end HT
namespace L2
open PySem PySem.Spec PyProof.Rows
abbrev TO:=St->Hp->(Option Int->Hp->Prop)->Prop
def PO(X:Cx)(e:Option Expr)(t:TO):Prop :=
 ∀ (pins:List (Addr × Obj)) (s:Shared) (σ:St) (H:Hp) (Q:Option Int->Hp->Prop),ad X pins σ H s->t σ H Q ->
  wpAny (model X.prog X.w) X.A (evalPart e X.env) (λu s'=>∃ o H',ad X pins σ H' s'/\IsPart u o/\Q o H') X.xe s
def pv:TO:=λ_ H Q=>Q none H
def pk(t:TE):TO:=λσ H Q=>t σ H λx H1=>∃ i,x=.int i/\Q (some i) H1
section
variable {X:Cx}{e:Expr}{te:TE}{lo hi:Option Expr}{tl th:TO}{pos p2:Pos}
theorem x8:PO X none pv:=by
 intro pins s σ H Q I h
 rw[evalPart_none]
 exact wpAny_pure ⟨none,H,I,.none,h⟩
theorem x6(h:PE X e te):PO X (some e) (pk te):=by
 intro pins s σ H Q I hw
 rw[evalPart_some]
 refine aj (h pins s σ H _ I hw) λu s1 ⟨x,H1,I1,r1,q1⟩=>?_
 obtain⟨i,rfl,q⟩:=q1
 obtain⟨t,rfl⟩:=r1
 exact⟨some i,H1,I1,.int i t,q⟩
def fz(X:Cx)(r:V->Option Int->Option Int->Hp->VK->Prop):Prop :=
 ∀ (pins:List (Addr × Obj)) (s:Shared) (σ:St) (H:Hp) (x:V) (v vl vu:Value) (lo hi:Option Int) (sl:Addr) (Q:VK),ad X pins σ H s->au x v->s.heap.IsSliceOf sl vl vu .none->IsPart vl lo->IsPart vu hi->r x lo hi H Q ->
  ∃ T id,typeLookup (.type T) "__getitem__" = pure (some (.builtin id))/\s.TypeIs v T/\wpAny (model X.prog X.w) X.A (getItem v (.ref sl)) (EP X pins σ Q) X.xe s
def o9(r:V->Option Int->Option Int->Hp->VK->Prop)(te:TE)(tl th:TO):TE:=λσ H Q=>te σ H λx H1=>tl σ H1 λl H2=>th σ H2 λu H3=>r x l u H3 Q
theorem yt{r:V->Option Int->Option Int->Hp->VK->Prop}(hr:fz X r)(he:PE X e te)(hl:PO X lo tl)(hu:PO X hi th):PE X (.Subscript e (.Slice lo hi none p2) pos) (o9 r te tl th):=by
 intro pins s σ H Q I h
 refine Subscript_ (aj (he pins s σ H _ I h) λv s1 ⟨x,H1,I1,r1,q1⟩=>?_)
 refine wpAny_Slice (aj (hl pins s1 σ H1 _ I1 q1) λvl s2 ⟨l,H2,I2,pl,q2⟩=>aj (hu pins s2 σ H2 _ I2 q2) λvu s3 ⟨u,H3,I3,pu,q3⟩=>?_)
 rw[evalPart_none]
 refine wpAny_pure ?_
 have I4:ad X pins σ H3 { s3 with heap:=s3.heap.push { cls:=.type "slice",data:=.fields #[vl,vu,.none] } }:=I3.kept (t':=s3.toks) λb ob q=>Heap.get?_push_of_some _ q
 obtain⟨T,id,hT,ht,hg⟩:=hr pins { s3 with heap:=s3.heap.push { cls:=.type "slice",data:=.fields #[vl,vu,.none] } } σ H3 x v vl vu l u s3.heap.objs.size Q I4 r1 (Heap.IsSliceOf.new ..) pl pu q3
 show wpAny (model X.prog X.w) X.A (subscriptTail e (.Slice lo hi none p2) v (.ref s3.heap.objs.size)) (EP X pins σ Q) X.xe { s3 with heap:=s3.heap.push { cls:=.type "slice",data:=.fields #[vl,vu,.none] } }
 exact tail_any (ops:=[.ref s3.heap.objs.size,v]) ht hT hg (by with_unfolding_all rfl)
def cF(xs:List V)(lo hi:Option Int):List V:=(xs.drop (HT.sIx xs.length 0 lo)).take (HT.sIx xs.length xs.length hi - HT.sIx xs.length 0 lo)
theorem sY(xs:List V)(lo hi:Option Int):(cF xs lo hi).length<=xs.length:=by
 unfold cF
 rw[List.length_take,List.length_drop]
 omega
def wR(K:W.Frag):V->Option Int->Option Int->Hp->VK->Prop:=λx lo hi H Q=>∃ a xs,x=.ref a/\bu K H a xs /\
 ¬ (HT.sIx xs.length 0 lo=0/\HT.sIx xs.length xs.length hi=xs.length)/\∀ p,H p=none->Q (.ref p) (upd H p (.tup (cF xs lo hi)))
theorem we:fz X (wR X.K):=by
 intro pins s σ H x v vl vu lo hi sl Q I rx hs pl pu h
 obtain⟨a,xs,rfl,hx,hw,q⟩:=h
 cases rx
 obtain⟨its,r,ht,hz⟩:=I.tuple hx
 have hlen:its.toArray.size=xs.length:=by rw[List.size_toArray]; exact r.length.symm
 refine⟨"tuple",_,PyProof.Rows.slot_tuple_getitem.lookup,ht.typeIs,?_⟩
 refine HT.getItem_tuple_cut ht hs pl pu (by rw[hlen]; exact hw) ?_ (by rw[hlen]; exact hz)
 rw[hlen]
 refine⟨.ref s.heap.objs.size,_,I.laid (t':=s.toks) (o:=.tup (cF xs lo hi)) (λb ob q=>Heap.get?_push_of_some _ q) (Nat.le_refl _) ?_,rfl,q _ (I.hok.fresh (Nat.le_refl _))⟩
 exact⟨Nat.le_trans (sY xs lo hi) hz,_,(r.drop (HT.sIx xs.length 0 lo)).take (HT.sIx xs.length xs.length hi - HT.sIx xs.length 0 lo),IsTup.new _ _⟩
end
def fk(n:Nat)(i:Int):Option Nat:=if 0<=i then (if i < n then some i.toNat else none) else if -(n:Int)<=i then some (i+n).toNat else none
def c7{α:Type}(xs:List α)(i:Int):Option α:=(fk xs.length i).bind λj=>xs[j]?
theorem Ab{n:Nat}{i:Int}{j:Nat}(h:fk n i=some j):seqIndex? i n=some j/\j < n/\-(n:Int)<=i/\i < n:=by
 unfold fk at h
 by_cases h0:0<=i
 ·rw[if_pos h0]at h
  by_cases h1:i < n
  ·rw[if_pos h1]at h
   have e:i.toNat=j:=Option.some.inj h
   exact⟨by rw[seqIndex_of h0 h1,e],by omega,by omega,h1⟩
  ·rw[if_neg h1]at h; cases h
 ·rw[if_neg h0]at h
  by_cases h1 : -(n:Int)<=i
  ·rw[if_pos h1]at h
   have e:(i+n).toNat=j:=Option.some.inj h
   exact⟨by rw[seqIndex_neg (by omega) h1,e],by omega,h1,by omega⟩
  ·rw[if_neg h1]at h; cases h
theorem tR{α:Type}{xs:List α}{i:Int}{v:α}(h:c7 xs i=some v) : ∃ j,seqIndex? i xs.length=some j/\xs[j]? = some v/\j < xs.length/\-(xs.length:Int)<=i/\i < xs.length:=by
 unfold c7 at h
 cases e:fk xs.length i with
 | none=>rw[e]at h; cases h
 | some j =>
  rw[e]at h
  obtain⟨h1,h2,h3,h4⟩:=Ab e
  exact⟨j,h1,h,h2,h3,h4⟩
theorem aV{α:Type}{xs:List α}{j:Nat}{v:α}(h:xs[j]? = some v):c7 xs (j:Int)=some v:=by
 have hj:j < xs.length:=(List.getElem?_eq_some_iff.mp h).1
 have e:fk xs.length (j:Int)=some j:=by
  unfold fk
  rw[if_pos (by omega),if_pos (by omega)]; simp
 unfold c7; rw[e]; exact h
theorem tQ{α:Type}(xs:List α)(v:α):c7 (xs++[v]) (-1)=some v:=by
 have hl:(xs++[v]).length=xs.length+1:=by simp
 have e:fk (xs++[v]).length (-1)=some xs.length:=by
  unfold fk
  rw[hl,if_neg (by decide),if_pos (by omega)]
  congr 1
  omega
 unfold c7
 rw[e]
 show (xs++[v])[xs.length]? = some v
 simp
def tU(b:Expr):Prop:=∀ o i,subscripted b false o i=operate [o,i] (getItem o i)
def c9(X:Cx)(r:R2):Prop :=
 ∀ (value slice:Expr) (pins:List (Addr × Obj)) (s:Shared) (σ:St) (H:Hp) (x y:V) (v u:Value) (Q:VK),ad X pins σ H s->au x v->au y u->r x y H Q ->
  subscripted slice false v u=operate [v,u] (getItem v u)->wpAny (model X.prog X.w) X.A (subscriptTail value slice v u) (EP X pins σ Q) X.xe s
def fB(X:Cx)(id:String)(r:V->List V->Hp->VK->Prop):Prop :=
 ∀ (pins:List (Addr × Obj)) (s:Shared) (σ:St) (H:Hp) (x:V) (xs:List V) (v:Value) (us:List Value) (Q:VK),ad X pins σ H s->au x v->ar xs us->r x xs H Q ->
  wpAny (model X.prog X.w) X.A (call (.builtin id) (v :: us)) (EP X pins σ Q) X.xe s
section
variable {X:Cx}{a b:Expr}{ta tb:TE}{pos:Pos}
theorem c9.or{r r':R2}(h:c9 X r)(h':c9 X r'):c9 X (λx y H Q=>r x y H Q\/r' x y H Q):=by
 intro value slice pins s σ H x y v u Q I rx ry q hs
 rcases q with q | q
 ·exact h value slice pins s σ H x y v u Q I rx ry q hs
 ·exact h' value slice pins s σ H x y v u Q I rx ry q hs
theorem yA{r:R2}(hr:c9 X r)(ha:PE X a ta)(hb:PE X b tb)(hs:tU b):PE X (.Subscript a b pos) (dO r ta tb):=by
 intro pins s σ H Q I h
 exact Subscript_ (ny ha hb I h λv u s2 x y H2 I2 rx ry q=>hr a b pins s2 σ H2 x y v u Q I2 rx ry q (hs _ _))
def wW(K:W.Frag):R2:=λx y H Q=>∃ p xs i v,x=.ref p/\y=.int i/\ax K H p xs/\c7 xs i=some v/\Q v H
def wV(K:W.Frag):R2:=λx y H Q=>∃ p xs i v,x=.ref p/\y=.int i/\bu K H p xs/\c7 xs i=some v/\Q v H
theorem Aa:c9 X (wW X.K):=by
 intro value slice pins s σ H x y v u Q I rx ry h hs
 obtain⟨p,xs,i,z,rfl,rfl,hq,he,q⟩:=h
 cases rx
 obtain⟨t,rfl⟩:=ry
 obtain⟨its,r,pl,hz⟩:=I.list hq
 obtain⟨j,h1,h2,h3,h4,h5⟩:=tR he
 obtain⟨w,ew,rw'⟩:=r.get h2
 have hl:=r.length
 have hn:=jE
 have fin:EP X pins σ Q w s:=⟨z,H,I,rw',q⟩
 by_cases h0:0<=i
 ·have hj:i.toNat=j:=by
   rw[seqIndex_of h0 h5]at h1
   exact Option.some.inj h1
  exact item_listR pl.isList h0 (by omega) (by rw[hj]; simpa using ew) fin hs
 ·have hj:(i+(its.toArray.size:Int)).toNat=j:=by
   rw[seqIndex_neg (by omega) h4]at h1
   rw[List.size_toArray,<- hl]
   exact Option.some.inj h1
  exact subscriptTail_builtinR (x:=w) pl.isList.typeIs slot_list_getitem.lookup
   (wpAny_getItem_list_neg (Q:=λr s'=>r=w/\EP X pins σ Q r s') pl.isList (by omega) (by rw[List.size_toArray] <;> omega) (by omega) (by rw[hj]; simpa using ew) ⟨rfl,fin⟩) hs
theorem zZ:c9 X (wV X.K):=by
 intro value slice pins s σ H x y v u Q I rx ry h hs
 obtain⟨p,xs,i,z,rfl,rfl,hq,he,q⟩:=h
 cases rx
 obtain⟨t,rfl⟩:=ry
 obtain⟨its,r,pl,hz⟩:=I.tuple hq
 obtain⟨j,h1,h2,h3,h4,h5⟩:=tR he
 obtain⟨w,ew,rw'⟩:=r.get h2
 have hl:=r.length
 have hn:=jE
 have fin:EP X pins σ Q w s:=⟨z,H,I,rw',q⟩
 exact subscriptTail_builtinR (x:=w) pl.typeIs slot_tuple_getitem.lookup
  (getItem_tuple (j:=j) (Q:=λr s'=>r=w/\EP X pins σ Q r s') pl (by omega) (by omega) (by rw[List.size_toArray,<- hl]; exact h1) (by simpa using ew) ⟨rfl,fin⟩) hs
theorem wc(lo hi:Option Int)(n:Nat):(sliceBounds lo hi none n).1=((HT.sIx n 0 lo:Nat):Int)/\(sliceBounds lo hi none n).2.1=((HT.sIx n n hi:Nat):Int)/\(sliceBounds lo hi none n).2.2=1:=by
 refine⟨?_,?_,rfl⟩
 ·cases lo with
  | none=>simp[sliceBounds,HT.sIx]
  | some i =>
   simp only [sliceBounds,HT.sIx,Option.getD_none,show (1:Int) > 0 by decide,if_true]
   by_cases h:i < 0
   ·simp only [h,if_true] <;> omega
   ·simp only [h,if_false] <;> omega
 ·cases hi with
  | none=>simp[sliceBounds,HT.sIx]
  | some i =>
   simp only [sliceBounds,HT.sIx,Option.getD_none,show (1:Int) > 0 by decide,if_true]
   by_cases h:i < 0
   ·simp only [h,if_true] <;> omega
   ·simp only [h,if_false] <;> omega
theorem wd(its:List Value)(lo hi:Option Int):slicePick its.toArray lo hi none=((its.drop (HT.sIx its.length 0 lo)).take (HT.sIx its.length its.length hi - HT.sIx its.length 0 lo)).toArray:=by
 obtain⟨h1,h2,h3⟩:=wc lo hi its.toArray.size
 unfold slicePick
 rw[h1,h2,h3]
 simp only [sliceRange_one,pick_run,List.size_toArray] <;> rfl
def wS(K:W.Frag):V->Option Int->Option Int->Hp->VK->Prop:=λx lo hi H Q=>∃ a xs,x=.ref a/\ax K H a xs/\∀ p,H p=none->Q (.ref p) (upd H p (.lst (cF xs lo hi)))
theorem wf:fz X (wS X.K):=by
 intro pins s σ H x v vl vu lo hi sl Q I rx hs pl pu h
 obtain⟨a,xs,rfl,hx,q⟩:=h
 cases rx
 obtain⟨its,r,ht,hz⟩:=I.list hx
 have hlen:=r.length
 refine⟨"list",_,slot_list_getitem.lookup,ht.isList.typeIs,?_⟩
 refine wpAny_getItem_list_slice ht.isList hs pl pu .none (by simp) ?_ (by rw[List.size_toArray] <;> omega)
 rw[wd,<- hlen]
 refine⟨.ref s.heap.objs.size,_,I.laid (t':=s.toks) (o:=.lst (cF xs lo hi)) (λb ob q=>Heap.get?_push_of_some _ q) (Nat.le_refl _) ?_,rfl,q _ (I.hok.fresh (Nat.le_refl _))⟩
 exact⟨Nat.le_trans (sY xs lo hi) hz,_,0,(r.drop (HT.sIx xs.length 0 lo)).take (HT.sIx xs.length xs.length hi - HT.sIx xs.length 0 lo),Heap.get?_push_size _ rfl⟩
theorem Cd:bp X (.builtin "len") (λxs H Q=>∃ p ys,xs=[.ref p]/\(ax X.K H p ys\/bu X.K H p ys)/\Q (.int ys.length) H):=by
 intro pins s σ H xs us Q I r h
 obtain⟨p,ys,rfl,hq,q⟩:=h
 obtain⟨u,rfl,rx⟩:=fI r
 cases rx
 have hn:=jE
 rcases hq with hq | hq
 ·obtain⟨its,r',pl,hz⟩:=I.list hq
  have hlen:=r'.length
  exact Calls.call_len_list pl.isList (by simp only [List.size_toArray] <;> omega) ⟨.int ys.length,H,I.tok _,⟨s.toks+1,by rw[List.size_toArray,hlen]⟩,q⟩
 ·obtain⟨its,r',pl,hz⟩:=I.tuple hq
  have hlen:=r'.length
  exact len_tuple pl (by simp only [List.size_toArray] <;> omega) ⟨.int ys.length,H,I.tok _,⟨s.toks+1,by rw[List.size_toArray,hlen]⟩,q⟩
theorem Cc:bp X (.type "list") (λxs H Q=>∃ p ys,xs=[.ref p]/\(ax X.K H p ys\/bu X.K H p ys)/\∀ l,H l=none->Q (.ref l) (upd H l (.lst ys))):=by
 intro pins s σ H xs us Q I r h
 obtain⟨p,ys,rfl,hq,q⟩:=h
 obtain⟨u,rfl,rx⟩:=fI r
 cases rx
 have fin : ∀ (its:List Value),ar ys its->ys.length<=sizeLine->∀ (h':Heap) (c':Nat),(∀ b o',s.heap.get? b=some o'->h'.get? b=some o') ->
  h'.get? s.heap.objs.size=some { cls:=.type "list",dict:=none,data:=.seq its.toArray c',slots:=#[] }->EP X pins σ Q (.ref s.heap.objs.size) { s with heap:=h' }:=λits r' hz h' c' kp e =>
  ⟨.ref s.heap.objs.size,_,I.laid (t':=s.toks) kp (Nat.le_refl _) (show aL X.prog X.w _ h' _ (.lst ys) from ⟨hz,its,c',r',e⟩),rfl,q _ (I.hok.fresh (Nat.le_refl _))⟩
 rcases hq with hq | hq
 ·obtain⟨its,r',pl,hz⟩:=I.list hq
  have hlen:=r'.length
  obtain⟨o,ho,hc,n,hd⟩:=pl.isList
  exact call_list_seq p (.inl rfl) ho hc hd (λh' c' kp e=>fin its r' hz h' c' kp e) (by simp only [List.size_toArray] <;> omega)
 ·obtain⟨its,r',pl,hz⟩:=I.tuple hq
  have hlen:=r'.length
  obtain⟨o,ho,hc,n,hd⟩:=pl
  exact call_list_seq p (.inr rfl) ho hc hd (λh' c' kp e=>fin its r' hz h' c' kp e) (by simp only [List.size_toArray] <;> omega)
theorem Cb:bp X (.type "tuple") (λxs H Q=>∃ p ys,xs=[.ref p]/\((ax X.K H p ys/\∀ l,H l=none->Q (.ref l) (upd H l (.tup ys)))\/(bu X.K H p ys/\Q (.ref p) H))):=by
 intro pins s σ H xs us Q I r h
 obtain⟨p,ys,rfl,h⟩:=h
 obtain⟨u,rfl,rx⟩:=fI r
 cases rx
 rcases h with ⟨hq,q⟩ | ⟨hq,q⟩
 ·obtain⟨its,r',pl,hz⟩:=I.list hq
  have hlen:=r'.length
  refine call_tuple_list pl.isList (λh' kp=>?_) (by simp only [List.size_toArray] <;> omega)
  have I1:ad X pins σ H { s with heap:=h' }:=I.kept (t':=s.toks) kp
  have I2:ad X pins σ (upd H h'.objs.size (.tup ys)) { s with heap:=h'.push { cls:=.type "tuple",data:=.seq its.toArray } } :=
   I1.laid (t':=s.toks) (λb o e=>Heap.get?_push_of_some _ e) (Nat.le_refl _) (show aL X.prog X.w _ _ _ (.tup ys) from ⟨hz,its,r',IsTup.new _ _⟩)
  exact⟨.ref h'.objs.size,_,I2,rfl,q _ (I1.hok.fresh (Nat.le_refl _))⟩
 ·obtain⟨its,r',pl,hz⟩:=I.tuple hq
  exact call_tuple_same pl ⟨.ref p,H,I,rfl,q⟩
def kB(K:W.Frag)(T:String)(x:V)(H:Hp):Prop:=match x with
 | .str _=>T = "str"
 | .int _=>T = "int"
 | .ref p=>(T = "list"/\∃ xs,ax K H p xs)\/(T = "tuple"/\∃ o,K.lookup p=some o/\o.cls=.type "tuple"/\o.dict=none) \/
  (T = "dict"/\((∃ kvs,H p=some (.dK kvs))\/∃ kvs,H p=some (.dT kvs)))\/(T = "set"/\∃ S n,H p=some (.set S n))
 | _=>False
theorem oN{pins:List (Addr × Obj)}{σ:St}{H:Hp}{s:Shared}{T:String}{x:V}{v:Value}(I:ad X pins σ H s)(r:au x v)(ty:kB X.K T x H) :
 s.TypeIs v T/\∀ a,v=.ref a->∃ ob,s.heap.get? a=some ob/\ob.dict=none:=by
 cases x with
 | str z =>
  obtain⟨t,rfl⟩:=r
  cases (show T = "str" from ty)
  exact⟨typeIs_str s z t,λ_ e=>nomatch e⟩
 | int i =>
  obtain⟨t,rfl⟩:=r
  cases (show T = "int" from ty)
  exact⟨typeIs_int s i t,λ_ e=>nomatch e⟩
 | ref p =>
  cases r
  rcases ty with ⟨rfl,xs,hq⟩ | ⟨rfl,o,hk,hc,hd⟩ | ⟨rfl,hk⟩ | ⟨rfl,S,n,hk⟩
  ·obtain⟨its,_,pl,_⟩:=I.list hq
   refine⟨pl.isList.typeIs,λa e=>?_⟩
   cases e
   obtain⟨o,n,e,c,hd,_⟩:=pl
   exact⟨o,e,hd⟩
  ·refine⟨⟨o,I.kIn p o hk,hc⟩,λa e=>?_⟩
   cases e
   exact⟨o,I.kIn _ o hk,hd⟩
  ·have z : ∃ o,s.heap.get? p=some o/\o.ExactDict:=by
    rcases hk with ⟨kvs,hk⟩ | ⟨kvs,hk⟩
    ·obtain⟨_,_,_,_,o,_,_,e,ex,_⟩:=I.hok p _ hk
     exact⟨o,e,ex⟩
    ·obtain⟨_,_,_,_,o,_,_,e,ex,_⟩:=I.hok p _ hk
     exact⟨o,e,ex⟩
   obtain⟨o,e,ex⟩:=z
   refine⟨⟨o,e,ex.1⟩,λa e2=>?_⟩
   cases e2
   exact⟨o,e,ex.2.1⟩
  ·obtain⟨o,_,_,_,e,ex,_⟩:=I.hok p _ hk
   refine⟨⟨o,e,ex.1⟩,λa e2=>?_⟩
   cases e2
   exact⟨o,e,ex.2.1⟩
 | _=>exact False.elim ty
def kK(K:W.Frag)(T:String)(r:V->List V->Hp->VK->Prop)(to:TE):TE:=λσ H Q=>to σ H λx H1=>kB K T x H1/\r x [] H1 Q
def kL(K:W.Frag)(T:String)(r:V->List V->Hp->VK->Prop)(to:TE)(t:TA):TE:=λσ H Q=>to σ H λx H1=>kB K T x H1/\t σ H1 λxs H2=>r x xs H2 Q
variable {o e:Expr}{es:List Expr}{to:TE}{t:TA}{name:Str}{apos cpos:Pos}{T id:String}{r:V->List V->Hp->VK->Prop}
theorem yN (pa:PlainAttrs T) (slot:Slot T name id) (hty:typeOf (.builtin id)=pure (.type "method_descriptor")) (hm:fB X id r) (ho:PE X o to)
 (hbase:attributeBase o name X.env (eval o X.env)=eval o X.env:=by rfl) (hline:(apos.endLine == cpos.line)=true:=by rfl):PE X (.Call (.Attribute o name apos) [] [] cpos) (kK X.K T r to):=by
 intro pins s σ H Q I h
 refine wpAny_Call_method0_late hbase hline (aj (ho pins s σ H _ I h) λv s1 ⟨x,H1,I1,r1,ty,q1⟩=>?_)
 obtain⟨h1,h2⟩:=oN I1 r1 ty
 exact⟨T,id,pa,slot,hty,h1,h2,Calls.callWith_builtin rfl (PySem.evalArgs_none (hm pins s1 σ H1 x [] v [] Q I1 r1 .nil q1))⟩
theorem yO (pa:PlainAttrs T) (slot:Slot T name id) (hty:typeOf (.builtin id)=pure (.type "method_descriptor")) (hm:fB X id r) (ho:PE X o to) (ha:PA X (e :: es) t)
 (hbase:attributeBase o name X.env (eval o X.env)=eval o X.env:=by rfl)
 (hfew:((backTo cpos (starEach (e :: es) X.env)).all (λx=>!x.1) && (backToKw cpos (keywordEach [] X.env)).all (λx=>x.1.isSome)
   && decide ((e :: es).length+([]:List Keyword).length+(if ([]:List Keyword).isEmpty then 0 else 1) < 30))=true:=by rfl)
 (hline:(apos.endLine == cpos.line)=true:=by rfl) (hs:starEach (e :: es) X.env=(false,eval e X.env) :: starEach es X.env:=by rfl) (hplain:(backTo cpos (starEach es X.env)).any (·.1)=false:=by rfl) :
 PE X (.Call (.Attribute o name apos) (e :: es) [] cpos) (kL X.K T r to t):=by
 intro pins s σ H Q I h
 refine wpAny_Call_method_late hbase hfew hline rfl (aj (ho pins s σ H _ I h) λv s1 ⟨x,H1,I1,r1,ty,q1⟩=>?_)
 obtain⟨h1,h2⟩:=oN I1 r1 ty
 refine⟨T,id,pa,slot,hty,h1,h2,?_⟩
 have hA:=ha cpos pins s1 σ H1 _ I1 q1
 rw[hs]at hA ⊢
 refine Calls.callWith_builtin (by show (false || (backTo cpos (starEach es X.env)).any (·.1))=false; rw[hplain] <;> rfl) (Calls.evalArgs_plain ?_)
 exact aj hA λus s2 ⟨vs,H2,I2,r2,q2⟩=>hm pins s2 σ H2 x vs v us Q I2 r1 r2 q2
/- xs.append(e),list.index on a module's tuple .. are fB facts of 06m -/
end
def oB(X:Cx)(id:String)(r:V->List V->Hp->VK->Prop):Prop :=
 ∀ (pins:List (Addr × Obj)) (s:Shared) (σ:St) (H:Hp) (x:V) (xs:List V) (v:Value) (us:List Value) (Q:VK),ad X pins σ H s->au x v->ar xs us->r x xs H Q ->
  wpAny (model X.prog X.w) X.A (call (.builtin id) (v :: us)) (EP X pins σ Q) X.xe s
theorem ar.one : ∀ {x:V} {us:List Value},ar [x] us->∃ u,us=[u]/\au x u
 | _,_,.cons r .nil=>⟨_,rfl,r⟩
theorem ar.zero : ∀ {us:List Value},ar [] us->us=[]
 | _,.nil=>rfl
theorem ar.dropLast{xs:List V}{us:List Value}(h:ar xs us):ar xs.dropLast us.dropLast:=by
 induction h with
 | nil=>exact .nil
 | cons r t ih =>
  cases t with
  | nil=>exact .nil
  | cons q t'=>exact .cons r ih
theorem BE{α:Type}(l:List α):l.eraseIdx (l.length - 1)=l.dropLast:=by
 induction l with
 | nil=>rfl
 | cons a r ih =>
  cases r with
  | nil=>rfl
  | cons b r =>
   have e:(a :: b :: r).length - 1=((b :: r).length - 1)+1:=by
    have h1:(a :: b :: r).length=r.length+2:=rfl
    have h2:(b :: r).length=r.length+1:=rfl
    omega
   rw[e,List.eraseIdx_cons_succ,ih]
   all_goals rfl
section
variable {X:Cx}{pins:List (Addr × Obj)}{σ:St}{H:Hp}{s:Shared}{l b:Addr}{xs ys zs:List V}
theorem ad.lset{its its':List Value}{n:Nat}{f:Array Value->Array Value}{t':Nat}(I:ad X pins σ H s)(hH:H l=some (.lst xs))
 (e:s.heap.get? l=some { cls:=.type "list",data:=.seq its.toArray n }) (hf:f its.toArray=its'.toArray) (hv:ar ys its') (hz:ys.length<=sizeLine) :
 ad X pins σ (upd H l (.lst ys)) { s with heap:=s.heap.update l (Obj.mapSeq f),toks:=t' }:=by
 have q:=PySem.IsL.update e f
 rw[hf]at q
 refine I.write (x:=l) (e:=l) (by rw[hH]; exact trivial) (.inl rfl) (λb' u hb hu=>(Heap.get?_update_other s.heap (Obj.mapSeq f) (Ne.symm hb)).trans hu) ⟨_,q⟩ ?_
 exact⟨hz,its',_,hv,q⟩
theorem ad.lnew{its:List Value}{t':Nat}(I:ad X pins σ H s)(hv:ar ys its)(hz:ys.length<=sizeLine) :
 ad X pins σ (upd H s.heap.objs.size (.lst ys)) { s with heap:=s.heap.push { cls:=.type "list",data:=.seq its.toArray },toks:=t' } :=
 I.laid (λ_ _ q=>Heap.get?_push_of_some _ q) (Nat.le_refl _) ⟨hz,its,0,hv,Heap.get?_push_size _ rfl⟩
theorem ad.fresh(I:ad X pins σ H s):H s.heap.objs.size=none:=I.hok.fresh (Nat.le_refl _)
theorem ad.lstM(I:ad X pins σ H s)(hH:H l=some (.lst xs)):xs.length<=sizeLine/\∃ (its:List Value) (n:Nat),ar xs its/\xs.length=its.length/\s.heap.get? l=some { cls:=.type "list",data:=.seq its.toArray n }:=by
 obtain⟨z,its,n,r,e⟩:=I.hok l _ hH
 exact⟨z,its,n,r,r.length,e⟩
theorem qW{n:Nat}(h:n<=sizeLine):Builtin.List.listTooLong n=false:=by
 unfold Builtin.List.listTooLong
 exact decide_eq_false (by omega)
end
section
variable {X:Cx}
def wZ:V->List V->Hp->VK->Prop:=λx vs H Q=>∃ l xs y,x=.ref l/\vs=[y]/\H l=some (.lst xs)/\xs.length < sizeLine/\Q .non (upd H l (.lst (xs++[y])))
theorem zg:oB X "list.append" wZ:=by
 intro pins s σ H x vs v us Q I rx rv h
 obtain⟨l,xs,y,rfl,rfl,hH,hz,q⟩:=h
 cases rx
 obtain⟨u,rfl,ru⟩:=rv.one
 obtain⟨z,its,n,r,hl,e⟩:=I.lstM hH
 refine call_meets F.slot_list_append ⟨_,e,rfl⟩ F.entry_list_append (F.args_list_append_2 _ _) (PySem.list_append l its.toArray n u (by rw[List.size_toArray]; omega)) ⟨e,?_⟩
 refine⟨.non,_,I.lset (its':=its++[u]) hH e (by simp) (r.append (.cons ru .nil)) ?_,rfl,q⟩
 rw[List.length_append,List.length_singleton]
 omega
def wT:V->List V->Hp->VK->Prop:=λx vs H Q=>∃ l xs y,x=.ref l/\vs=[]/\H l=some (.lst xs)/\xs[xs.length - 1]? = some y/\Q y (upd H l (.lst xs.dropLast))
theorem zc:oB X "list.pop" wT:=by
 intro pins s σ H x vs v us Q I rx rv h
 obtain⟨l,xs,y,rfl,rfl,hH,hy,q⟩:=h
 cases rx
 have hus:=rv.zero
 subst hus
 obtain⟨z,its,n,r,hl,e⟩:=I.lstM hH
 obtain⟨u,hu,ru⟩:=r.get hy
 have hy':its.toArray[its.toArray.size - 1]? = some u:=by
  show its.toArray[its.length - 1]? = some u
  rw[<- Array.getElem?_toList,<- hl]
  exact hu
 refine call_meets F.slot_list_pop ⟨_,e,rfl⟩ F.entry_list_pop (F.args_list_pop_1 _) (MeetsSeq.list_pop_last l its.toArray n u hy' (by rw[List.size_toArray]; omega)) ⟨e,?_⟩
 refine⟨y,_,I.lset (its':=its.dropLast) hH e ?_ r.dropLast ?_,ru,q⟩
 ·show its.toArray.eraseIdxIfInBounds (its.toArray.size - 1)=its.dropLast.toArray
  rw[List.size_toArray,List.eraseIdxIfInBounds_toArray,BE]
 ·rw[List.length_dropLast]
  omega
def wY:V->List V->Hp->VK->Prop:=λx vs H Q=>∃ l xs,x=.ref l/\vs=[]/\H l=some (.lst xs)/\Q .non (upd H l (.lst []))
theorem ze:oB X "list.clear" wY:=by
 intro pins s σ H x vs v us Q I rx rv h
 obtain⟨l,xs,rfl,rfl,hH,q⟩:=h
 cases rx
 have hus:=rv.zero
 subst hus
 obtain⟨z,its,n,r,hl,e⟩:=I.lstM hH
 refine call_meets F.slot_list_clear ⟨_,e,rfl⟩ F.entry_list_clear (F.args_list_clear_1 _) (AutoSeq1.list_clear_list_0 l its.toArray n (by rw[List.size_toArray]; omega)) ⟨e,?_⟩
 exact⟨.non,_,I.lset (its':=[]) (ys:=[]) hH e rfl .nil (Nat.zero_le _),rfl,q⟩
end
section
variable {prog:Program}{w:World}{A:Around}{E:Value->Shared->Prop}{s:Shared}
theorem CB{a c n:Nat}(hac:a<=c)(hc:c<=n):sliceBounds (some (a:Int)) (some (c:Int)) none n=((a:Int),(c:Int),1):=by
 simp only [sliceBounds,Option.getD_none]
 have h1 : ¬ ((a:Int) < 0):=by omega
 have h2 : ¬ ((c:Int) < 0):=by omega
 simp only [h1,h2,if_false,show (1:Int) > 0 by decide,if_true]
 congr 1
 ·omega
 ·congr 1; omega
set_option maxRecDepth 100000 in
theorem Du{l b sl:Addr}{items new:Array Value}{n n2:Nat}{vl vu:Value}{a c:Nat}{Q:Unit->Shared->Prop}
 (e:s.heap.get? l=some { cls:=.type "list",data:=.seq items n }) (e2:s.heap.get? b=some { cls:=.type "list",data:=.seq new n2 }) (hne:l≠b)
 (hs:s.heap.IsSliceOf sl vl vu .none) (pl:IsPart vl (some (a:Int))) (pu:IsPart vu (some (c:Int))) (hac:a<=c) (hc:c<=items.size)
 (hsz:items.size+new.size<=sizeLine) (h:Q () { s with heap:=s.heap.update l (Obj.mapSeq λxs=>xs.extract 0 a++new++xs.extract c xs.size) }) :
 wpAny (model prog w) A (setItem (.ref l) (.ref sl) (.ref b)) Q E s:=by
 have hl:s.heap.IsList l items:=PySem.IsL.isList e
 have hb:s.heap.IsList b new:=PySem.IsL.isList e2
 obtain⟨os,hos,hcs,hds⟩:=id hs
 have hTs:s.TypeIs (.ref sl) "slice":=⟨os,hos,hcs⟩
 have hstep : ¬ ((rawPart none == rawInt 0)=true):=Bool.false_ne_true
 have hsame:Builtin.List.listSameRef (.ref l) (.ref b)=false:=by
  unfold Builtin.List.listSameRef
  exact beq_eq_false_iff_ne.mpr hne
 have hmax:(max (a:Int) (c:Int)).toNat=c:=by omega
 have hz':((λxs:Array Value=>xs.extract 0 a++new++xs.extract c xs.size) items).size<=sizeLine+1:=by
  simp only [Array.size_append,Array.size_extract]
  omega
 unfold setItem
 try with_reducible refine wpAny_holding ?_
 first | refine wpAny_bind (wpAny_pure ?_) | skip
 refine wpAny_bind (wpAny_sequenceKey hl.typeIs (by decide) ?_)
 refine wpAny_bind (wpAny_callSpecial?_slot (name:=Str.ofString "__setitem__") hl.typeIs slot_list_setitem
  (wpAny_call_entry slot_list_setitem hl.typeIs entry_list_setitem ?_ (args_list_setitem _ _ _)))
 show wpAny _ _ (Builtin.List.listSubscript? (.ref sl) >>= _) _ _ s
 refine wpAny_bind ?_
 unfold Builtin.List.listSubscript?
 refine wpAny_bind (wpAny_specialOf hTs slice_no_index ?_)
 simp only [Option.isNone_none,if_true]
 refine wpAny_pure ?_
 show wpAny _ _ (typeOf (.ref sl) >>= _) _ _ s
 refine wpAny_bind (wpAny_typeOf hTs ?_)
 first
  | rw[if_neg (by decide)]
  | refine W.KFB.if_not (by decide) ?_
 rw[listSliceParts_eq]
 refine wpAny_bind (wpAny_bind (wpAny_field hos hds (x:=.none) rfl (wpAny_bind (wpAny_listPart .none ?_))))
 rw[if_neg hstep]
 refine wpAny_bind (wpAny_field hos hds (x:=vl) rfl (wpAny_bind (wpAny_listPart pl ?_)))
 refine wpAny_bind (wpAny_field hos hds (x:=vu) rfl (wpAny_bind (wpAny_listPart pu (wpAny_pure ?_))))
 first
  | simp only [hsame,Bool.false_eq_true,if_false]
  | refine W.KFB.if_not hsame ?_
  | (dsimp only
     rw[if_neg (by rw[hsame]; exact Bool.false_ne_true)])
 refine wpAny_bind (m:=Builtin.List.listAllItems (.ref b) "must assign iterable to extended slice") ?_
 unfold Builtin.List.listAllItems
 refine wpAny_bind (wpAny_typeOf hb.typeIs ?_)
 first
  | refine W.KFB.if_so (by decide) ?_
  | rw[if_pos (by decide)]
  | simp only [beq_self_eq_true,Bool.true_or,if_true]
 unfold Builtin.List.listItems
 refine wpAny_bind (wpAny_seqItems e2 rfl (wpAny_pure ?_))
 refine wpAny_bind (wpAny_bind (wpAny_seqItems e rfl (wpAny_pure ?_)))
 refine wpAny_bind (wpAny_of_eq ((sliceIndices_raw (some (a:Int)) (some (c:Int)) none items.size (by simp)).trans (congrArg (pure:Int × Int × Int->Sem (Int × Int × Int)) (CB hac hc))) ?_)
 show wpAny _ _ (if ((1:Int) == 1)=true then _ else _) _ _ s
 rw[if_pos (by decide)]
 refine wpAny_bind (wpAny_rule ?_)
 first
  | simp only [qW hsz,Bool.false_eq_true,if_false]
  | refine W.KFB.if_not (qW hsz) ?_
 first | refine wpAny_bind (wpAny_pure ?_) | skip
 show wpAny _ _ (updateSeq l (λxs=>xs.extract 0 ((a:Int)).toNat++new++xs.extract (max (a:Int) (c:Int)).toNat xs.size) >>= _) _ _ s
 rw[hmax,Int.toNat_natCast]
 refine wpAny_bind (wpAny_updateSeq (hz:=Nat.le_trans (Nat.le_add_right _ _) hsz) (_hz':=hz') e rfl ?_)
 refine wpAny_bind (wpAny_letGo ?_)
 first
  | exact wpAny_bind (wpAny_pure (wpAny_pure ⟨.none,rfl,wpAny_pure h⟩))
  | exact wpAny_pure ⟨.none,rfl,wpAny_pure h⟩
end
end L2
namespace Att
open PySem PySem.W PySem.Calls PyProof.Rows
theorem Ah{P:Params}{h:Heap} : ∀ (ns:List Int) (vs:List Value),WellAll P h vs (ns.map WData.int)->IntsAre vs ns:=by
 intro ns
 induction ns with
 | nil =>
  intro vs w
  rw[List.map_nil]at w
  cases w
  exact .nil
 | cons n ns ih =>
  intro vs w
  rw[List.map_cons]at w
  cases w with
  | cons a b =>
   cases a
   exact .cons _ _ (ih _ b)
theorem wo{l:OpenLaw}{n:Nat}(hn:l.most=some n){P:Params}{h:Heap}{args:List WData}{vals:List Value}
 (hpre:l.row.toRowW.claim.pre args=true) (hwl:WellAll P h vals args) :
 ∃ a vs ns,vals=[Value.ref a]/\args=[WData.list (ns.map WData.int)]/\h.get? a=some { cls:=.type "list",data:=.seq vs.toArray }/\IntsAre vs ns/\ns.length<=n:=by
 have hsh:WShape.hasAll [] args [.list .int]=true:=(pre_splitW hpre).1
 have hc:l.pre.holds [] { args:=args }=true:=(pre_splitW hpre).2
 obtain⟨d,r,rfl,h1,h2⟩:=hasAllW_cons hsh
 obtain rfl:=hasAllW_nil h2
 obtain⟨xs,rfl,h3⟩:=hasW_list h1
 obtain⟨ns,rfl⟩:=items_int h3
 have hlen:ns.length<=n:=by
  unfold OpenLaw.pre at hc
  have h4:(WTm.not (.lt (.lit (.int (n:Int))) (.len (.arg 0)))).holds [] { args:=[.list (ns.map .int)] }=true:=by
   have h4:=(holds_andW hc).1
   rw[hn]at h4
   exact h4
  have h5:=condW_of h4 (w_not (w_lt w_lit (w_len_list (w_arg rfl))))
  rw[List.length_map]at h5
  refine Nat.le_of_not_lt λq=>?_
  have q':(n:Int) < ((ns.length:Nat):Int):=by omega
  first
   | (rw[decide_eq_true q']at h5; exact absurd h5 (by decide))
   | (simp at h5; omega)
 cases hwl with
 | cons w1 w2 =>
  cases w2
  cases w1 with
  | list ho hall=>exact⟨_,_,ns,rfl,rfl,ho,Ah ns _ hall,hlen⟩
theorem x5(l:OpenLaw)(args:List WData):l.row.toRowW.claim.post args (.bool true) args=true :=
 postW_of (r:=l.row.toRowW) (X:=(true == true))
  (show WShape.has [] (.bool true) .bool=true by first | rfl | decide | simp[WShape.has,WShape.arms,WShape.armsAll])
  (show (WTm.eq .res (.lit (.bool true))).value [] { args:=args,res:=some (.bool true),after:=args }=some (.bool (true == true)) from w_eq_bool (w_res rfl) w_lit) rfl
theorem attach_call{l:OpenLaw}{n:Nat}{q:Program}{loose:List Str}{XP:(Str->Option Value)->Heap->Prop}{YP:World->Heap->Prop}{d:DefRec}
 (hn:l.most=some n) (hdf:d.params.defaults=[])
 (call : ∀ (w:World) (s₀ s₁:Shared) (mg mb:Str->Option Value) (fa:Addr) (o:Obj) (pm cd doc:Value) (a:Addr) (vs:List Value) (ns:List Int),
   Ground q loose [] XP w s₀ mg mb s₁.heap->YP w s₁.heap ->
   s₁.heap.get? fa=some o->o.data=.func (docDef d.name d.params d.body d.scope pm cd doc)->s₁.heap.CodeRec cd d.name->mg d.name=some (.ref fa) ->
   s₁.heap.get? a=some { cls:=.type "list",data:=.seq vs.toArray }->IntsAre vs ns->ns.length<=n->s₁.gens = #[] ->
   codeAny (model l.prog w) callerA (.call (.ref fa) ⟨[.ref a],[]⟩) (λr s'=>r=.ok (.ret (.bool true))/\OldK s₁.heap s'.heap/\s'.os=s₁.os/\AllBare s'.gens) s₁) :
 WalkO q loose XP YP l.row.toRowW d [] (λf vs=>PySem.call f vs):=by
 intro w s₀ s₁ mg mb G Y fa o pm cd doc dV kV ho hd hcd hD hmg hg args vals as hpre hlay hrd hwl hlo
 obtain rfl:dV=.none:=Dflts.none hD hdf
 obtain rfl:kV=.none:=Dflts.noKw hD
 obtain⟨a,vs,ns,rfl,rfl,hobj,hints,hlen⟩:=wo hn hpre hwl
 refine enter_call (codeAny_mono (call w s₀ s₁ mg mb fa o pm cd doc a vs ns G Y ho (fd_plain hd) hcd hmg hobj hints hlen hg) λr s' hq=>?_)
 obtain⟨rfl,h2,h3,h4⟩:=hq
 exact⟨.inl ⟨.bool true,.bool true,[],rfl,λ_=>rfl,.bool true,x5 l _,λ_=>⟨List.Pairwise.nil,λ_ hm=>(nomatch hm)⟩⟩,h2,h3,h4⟩
end Att
namespace L2
open PySem PySem.Spec PyProof.Rows
theorem ku : ∀ {vs:List Value} {ns:List Int},IntsAre vs ns->ar (ns.map V.int) vs
 | _,_,.nil=>.nil
 | _,_,.cons n t h=>.cons ⟨t,rfl⟩ (ku h)
def oy(H:Hp):Prop:=∀ b,H b=none\/∃ o xs,H b=some (.frz o (.lst xs))
theorem zP{P:Program}{w:World}{K:W.Frag}{mg mb:Str->Option Value}{CX:cP}{k:Nat}{fa a:Addr}{fd:FuncData}{x:Str}{sp:Sp}{s₁:Shared}{vs:List Value}{ns:List Int}
 (KX:K.In s₁.heap) (hns:s₁.heap.Ns mainGlobals mg) (hb:s₁.heap.Ns builtinsNs mb) (hbb : ∀ x:Str,x ≠ "__name__"->mb x=bootBuiltins x) (hlim:s₁.heap.NoLimit) (hg:s₁.gens = #[])
 (ha:s₁.heap.get? a=some { cls:=.type "list",data:=.seq vs.toArray }) (hi:IntsAre vs ns) (hl:ns.length<=sizeLine) (hr:aQ k callerA)
 (F : ∀ base:Heap,K.In base->base.Ns mainGlobals mg->bw P w K mg base CX k fa fd [x] sp) (hbind : ∀ (s:Shared) (u:Value),BindsTo s fd ⟨[u],[]⟩ [(x,u)])
 (hsp : ∀ H:Hp,oy H->ax K H a (ns.map V.int)->sp [.ref a] H (λv _=>v=.bl true) λ_ _ _=>False)
 (hCX : ∀ H e s',CX [] H s₁ (λ_ _ _=>False) e s'->False) :
 codeAny (model P w) callerA (.call (.ref fa) ⟨[.ref a],[]⟩) (λr s'=>r=.ok (.ret (.bool true))/\OldK s₁.heap s'.heap/\s'.os=s₁.os/\AllBare s'.gens) s₁:=by
 have rv:=ku hi
 have lenV:=hi.length
 have core : ∀ H:Hp,oy H->ax K H a (ns.map V.int)->aN P w H s₁.heap->(∀ b,H b≠none->b=a)->(H a≠none->K.lookup a=none) ->
  codeAny (model P w) callerA (.call (.ref fa) ⟨[.ref a],[]⟩) (λr s'=>r=.ok (.ret (.bool true))/\OldK s₁.heap s'.heap/\s'.os=s₁.os/\AllBare s'.gens) s₁:=by
  intro H hO hS hok hA hK
  have base_of : ∀ {b:Addr} {o:Obj},s₁.heap.get? b=some o->H b=none->(cC s₁.heap H).get? b=some o:=λe n=>rP e n
  have noA : ∀ {b:Addr} {o:Obj} {es:Array DictEntry} {ep:Nat},s₁.heap.get? b=some o->o.data=.dict es ep->H b=none:=λ{b o es ep} e d=>by
   cases q:H b with
   | none=>rfl
   | some u =>
    have e':b=a:=hA b (by rw[q]; simp)
    subst e'
    rw[ha]at e; cases e
    have d':Data.seq vs.toArray _=Data.dict es ep:=d
    cases d'
  have nsK : ∀ {b:Addr} {m:Str->Option Value},s₁.heap.Ns b m->(cC s₁.heap H).Ns b m:=λ{b m} ⟨o,es,ep,e,d,r⟩=>⟨o,es,ep,base_of e (noA e d),d,r⟩
  have hKb:K.In (cC s₁.heap H):=λb o e=>base_of (KX b o e) (by
   cases q:H b with
   | none=>rfl
   | some u =>
    have e':b=a:=hA b (by rw[q]; simp)
    subst e'
    rw[hK (by rw[q]; simp)]at e; cases e)
  have hM:Mod K mg (cC s₁.heap H):=⟨hKb,nsK hns,⟨mb,nsK hb,hbb⟩,let ⟨mc,h1,h2⟩:=hlim; ⟨mc,nsK h1,h2⟩⟩
  have e0:de P w K mg (cC s₁.heap H) callerA [] s₁ H:=⟨rfl,hM,λb o e=>qV e,Nat.le_of_eq (rO _ _),trivial,λb hb=>absurd (show b∈([]:List Addr) from hb) (by simp),hok,.of_eq hg⟩
  refine codeAny_mono ((F _ hKb (nsK hns)).run callerA [] s₁ H ⟨[.ref a],[]⟩ [.ref a] [.ref a] _ _ hr e0 (hbind s₁ (.ref a)) (.cons rfl .nil) (hsp H hO hS)) λr s' h=>?_
  cases r with
  | error e=>exact (hCX H e s' h).elim
  | ok fl =>
   cases fl with
   | next=>exact False.elim h
   | brk=>exact False.elim h
   | cont=>exact False.elim h
   | ret u =>
    obtain⟨v,H',os,bare,un,hok',r',q⟩:=h
    have q':v=.bl true:=q
    subst q'
    obtain rfl:u=Value.bool true:=r'
    refine⟨rfl,OldK.of_keep λb o e=>?_,os,bare⟩
    cases q:H b with
    | none=>exact un.keep b o e q (by intro z; exact absurd (show b∈([]:List Addr) from z) (by simp)) (by simp)
    | some u =>
     rcases hO b with z | ⟨ob,xs,z⟩
     ·rw[q]at z; cases z
     ·have z2:=un.frzs b ob _ z
      obtain⟨e1,_⟩:=hok b _ z
      obtain⟨e2,_⟩:=hok' b _ z2
      rw[e]at e1; cases e1
      exact e2
 cases hk:K.lookup a with
 | some o =>
  have e:=KX a o hk
  rw[ha]at e
  cases e
  refine core (λ_=>none) (λ_=>.inl rfl) (.inr ⟨_,vs.toArray,_,hk,rfl,rfl,rfl,by rw[List.size_toArray,lenV]; exact hl,by simpa using rv⟩) (λb u z=>by have z':(none:Option HO)=some u:=z; cases z') (λb z=>absurd rfl z) λz=>absurd rfl z
 | none =>
  refine core (λb=>if b=a then some (.frz { cls:=.type "list",data:=.seq vs.toArray } (.lst (ns.map V.int))) else none) (λb=>?_) (.inl (.inr ⟨{ cls:=.type "list",data:=.seq vs.toArray },if_pos rfl⟩)) (λb u z=>?_) (λb z=>?_) λ_=>hk
  ·by_cases hb:b=a
   ·exact .inr ⟨_,_,if_pos hb⟩
   ·exact .inl (if_neg hb)
  ·by_cases hb:b=a
   ·have z':=(if_pos hb).symm.trans z
    cases z'
    subst hb
    exact⟨ha,by rw[List.length_map]; exact hl,vs,_,rv,ha⟩
   ·have z':=(if_neg hb).symm.trans z
    cases z'
  ·by_cases hb:b=a
   ·exact hb
   ·exact absurd (if_neg hb) z
abbrev KOf{K:W.Frag}{h:Heap}(_:K.In h):W.Frag:=K
theorem walk_of{l:W.OpenLaw}{n k:Nat}{q:Program}{loose:List Str}{XP:(Str->Option Value)->Heap->Prop}{YP:World->Heap->Prop}{d:DefRec}{K:Params->W.Frag}{CX:World->cP}{sp:World->Sp}{x:Str}
 (hn:l.most=some n) (hn2:n<=sizeLine) (hdf:d.params.defaults=[]) (hr:aQ k callerA)
 (hY : ∀ (w:World) (h:Heap),YP w h->(K w.params).In h)
 (F : ∀ (w:World) (mg:Str->Option Value) (fa:Addr) (h:Heap),(K w.params).In h->h.Ns mainGlobals mg->mg d.name=some (.ref fa) ->
   ∃ fd:FuncData,(∀ (s:Shared) (u:Value),BindsTo s fd ⟨[u],[]⟩ [(x,u)]) /\
    ∀ base:Heap,(K w.params).In base->base.Ns mainGlobals mg->bw l.prog w (K w.params) mg base (CX w) k fa fd [x] (sp w))
 (hsp : ∀ (w:World) (H:Hp) (a:Addr) (ns:List Int),ns.length<=n->oy H->ax (K w.params) H a (ns.map V.int)->sp w [.ref a] H (λv _=>v=.bl true) λ_ _ _=>False)
 (hCX : ∀ (w:World) (H:Hp) (s:Shared) (e:Value) (s':Shared),CX w [] H s (λ_ _ _=>False) e s'->False) :
 W.WalkO q loose XP YP l.row.toRowW d [] (λf vs=>PySem.call f vs):=by
 refine Att.attach_call hn hdf λw s₀ s₁ mg mb fa o pm cd doc a vs ns G Y ho hd hcd hmg hobj hints hlen hg=>?_
 have KX:=hY w _ Y
 obtain⟨fd,hb,hF⟩:=F w mg fa _ KX G.T.g hmg
 exact zP KX G.T.g G.T.b G.T.builtins G.T.nolimit hg hobj hints (Nat.le_trans hlen hn2) hr hF hb (λH hO hS=>hsp w H a ns hlen hO hS) λH e s'=>hCX w H s₁ e s'
end L2
/- THE LAST THEOREM (shape; LID,My.* are yours):
 My.Adr: a structure of the addresses that your layer names (classes,functions); My.Txt K t: a structure (Prop) of the equations over K;
 My.txt_mk : {K} {implicit addresses ..} (e1:nsIn K mainGlobals "law" = some (some (.ref f))) (e2:K.lookup f=some ⟨oc,od,.func (fnOf "law" "law" params body scope dV kV doc pm an cdv ct),sl⟩) (e3:codeIn K cdv "law" = true) .. : ∃ t,My.Txt K t
set_option maxRecDepth 100000 in
set_option maxHeartbeats 0 in
theorem PySem.Challenge.cw_LID_holds : PySem.Challenge.rw_LID.Holds := by
 w_on; o_law; k_head; (case hw=>w_witness2)
 k_fill
 refine L2.walk_of (l:=PySem.Challenge.rw_LID) (n:=63) (k:=40) (x := "script") (CX:=λw=>..) (sp:=λ_=>My.kN) rfl (by decide) rfl ⟨rfl,by decide,by decide⟩ (λw h Y=>W.kIn_of Y) ?F ?S ?C
 case F =>
  intro w mg fa h KX G hmg
  have T : ∃ t,My.Txt (L2.KOf KX) t:=by
   dsimp only [L2.KOf]                          -- K must stand as «<heap const> w.params» for k_is
   refine' My.txt_mk ?e1 ?e2 ?e3 ..
   (case e1=>W.k_is)                    -- in the order: a name->its address->its object->its parts
   (case e2=>W.k_is)
   ..
  obtain⟨t,T⟩:=T
  have e0:=hmg.symm.trans (W.mg_of KX G T.law)
  cases e0                                       -- fa is the law's own address
  exact⟨_,λs u=>.of_eq rfl,λbase kb nb=>My.law_fn T kb nb⟩     -- if «.of_eq rfl» comes too early: refine' ⟨_,?b,λbase kb nb=>My.law_fn T kb nb⟩; exact λs u=>.of_eq rfl
 case S=>exact λw H a ns hl hO hS=>..
 case C=>exact ..
(the tactic k_is has no namespace: write k_is) -/
namespace L2
open PySem PySem.Spec PyProof.Rows
def lO(s:Stmt)(j:Nat):Stmt:=match s with
 | .ClassDef _ _ _ body _ _ _ _ _ _ _=>body.getD j (.Pass ⟨0,0,0,0⟩)
 | _=>.Pass ⟨0,0,0,0⟩
def aP(s:Stmt):Arguments:=match s with
 | .FunctionDef _ a _ _ _ _ _ _ _ _=>a
 | _=>{ posonlyargs:=[],args:=[],vararg:=none,kwonlyargs:=[],kw_defaults:=[],kwarg:=none,defaults:=[] }
def aJ(s:Stmt):List Stmt:=match s with
 | .FunctionDef _ _ b _ _ _ _ _ _ _=>b
 | _=>[]
def ak(s:Stmt):Scope:=match s with
 | .FunctionDef _ _ _ _ _ _ sc _ _ _=>sc
 | _=>{ kind:=.function,names:=[],isGenerator:=false,isCoroutine:=false }
abbrev ca:cP:=λ_ _ _ _ _ _=>False
abbrev E0:XK:=λ_ _ _=>False
theorem yQ{X:Cx}:fA ca X E0:=λ_ _ _ _ _ _ _ h=>h.elim
structure aS (K:W.Frag) (x qual:Str) (st:Stmt) (f:Addr) (fd:FuncData):Prop where
 ex : ∃ (oc:Value) (od:Option Addr) (kV doc pm:Value) (an:Option Addr) (cdv ct:Value) (osl:Array (Option Value)),
  fd=W.fnOf x qual (aP st) (aJ st) (ak st) .none kV doc pm an cdv ct/\K.lookup f=some ⟨oc,od,.func fd,osl⟩/\W.codeIn K cdv qual=true
 kp:W.keepIn K (.ref f)=true
section
variable {P:Program}{w:World}{K:W.Frag}{mg:Str->Option Value}{base:Heap}
theorem aS.ok{x qual:Str}{st:Stmt}{f:Addr}{fd:FuncData}{N ps:List Str}{k:Nat}{sp:Sp}(F:aS K x qual st f fd)(S:aT N ps (ak st))(len : ∀ vs H Q E,sp vs H Q E->vs.length=ps.length)
 (hbody : ∀ (cdv:Value) (A:Around) (outer:List Env) (s:Shared) (H:Hp) (vs:List V) (Q:VK) (E:XK),aQ k (A.deeper (envOfC qual (ak st) s.heap.objs.size f cdv))->sp vs H Q E ->
   ∃ t,cN (ft ca P w K mg base N qual (ak st) f cdv A outer s H E).nox (aJ st) t/\t { nx:=λ_ H'=>Q .non H',rt:=Q } (dP N vs) H):bw P w K mg base ca (k+1) f fd ps sp:=by
 obtain⟨oc,od,kV,doc,pm,an,cdv,ct,osl,rfl,lk,hcd⟩:=F.ex
 refine sx lk hcd S len λA outer s H vs Q E hr hsp=>?_
 obtain⟨t,h,q⟩:=hbody cdv A outer s H vs Q E hr hsp
 exact⟨t,h.nox,q⟩
theorem aS.binds{x qual:Str}{st:Stmt}{f:Addr}{fd:FuncData}{ps:List Str}(F:aS K x qual st f fd)
 (h : ∀ (kV doc pm:Value) (an:Option Addr) (cdv ct:Value) (us:List Value),us.length=ps.length->bindArgs (W.fnOf x qual (aP st) (aJ st) (ak st) .none kV doc pm an cdv ct) ⟨us,[]⟩=pure (ps.zip us)):aA K fd ps []:=by
 obtain⟨oc,od,kV,doc,pm,an,cdv,ct,osl,rfl,lk,hcd⟩:=F.ex
 exact .all (h kV doc pm an cdv ct)
theorem bc{x qual:Str}{st:Stmt}{f:Addr}{oc:Value}{od an:Option Addr}{osl:Array (Option Value)}{kV doc pm cdv ct:Value}(l:K.lookup f=some ⟨oc,od,.func (W.fnOf x qual (aP st) (aJ st) (ak st) .none kV doc pm an cdv ct),osl⟩)
 (c:W.codeIn K cdv qual=true) (k:W.keepIn K (.ref f)=true):aS K x qual st f (W.fnOf x qual (aP st) (aJ st) (ak st) .none kV doc pm an cdv ct):=⟨⟨oc,od,kV,doc,pm,an,cdv,ct,osl,rfl,l,c⟩,k⟩
end
theorem Ac{A B:Prop}(h:B):if false=true then A else B:=by
 rw[if_neg Bool.false_ne_true]
 exact h
theorem dF{A B:Prop}(h:A):if true=true then A else B:=by
 rw[if_pos rfl]
 exact h
theorem aF{c A B:Prop}[Decidable c](h1:c->A)(h2 : ¬ c->B):if c then A else B:=by
 by_cases h:c
 ·rw[if_pos h]
  exact h1 h
 ·rw[if_neg h]
  exact h2 h
def af(H H':Hp):Prop:=∀ b o,H b=some o->H' b=some o
theorem af.refl(H:Hp):af H H:=λ_ _ h=>h
theorem af.trans{H H1 H2:Hp}(a:af H H1)(b:af H1 H2):af H H2:=λc o h=>b c o (a c o h)
theorem af.free{H H':Hp}(e:af H H'){l:Addr}(h:H' l=Option.none):H l=Option.none:=by
 cases q:H l with
 | none=>rfl
 | some o =>
  rw[e l o q]at h
  cases h
theorem af.seq{K:W.Frag}{H H':Hp}{a:Addr}{xs:List V}(e:af H H')(h:ax K H a xs):ax K H' a xs:=by
 rcases h with (h | ⟨o,h⟩) | h
 ·exact .inl (.inl (e _ _ h))
 ·exact .inl (.inr ⟨o,e _ _ h⟩)
 ·exact .inr h
end L2
set_option maxHeartbeats 4000000
namespace HT
open PySem PyProof.Rows
end HT
namespace L2
open PySem PySem.Spec PyProof.Rows
theorem PE.imp{X:Cx}{e:Expr}{t t':TE}(h:PE X e t)(k : ∀ σ H Q,t' σ H Q->t σ H Q):PE X e t':=λpins s σ H Q I q=>h pins s σ H Q I (k σ H Q q)
theorem aG.imp{X:Cx}{f:Value->Value->Sem Value}{r r':R2}(h:aG X f r)(k : ∀ x y H Q,r' x y H Q->r x y H Q):aG X f r':=λpins s σ H x y v u Q I rx ry q=>h pins s σ H x y v u Q I rx ry (k x y H Q q)
theorem bp.imp{X:Cx}{f:Value}{r r':List V->Hp->VK->Prop}(h:bp X f r)(k : ∀ xs H Q,r' xs H Q->r xs H Q):bp X f r':=λpins s σ H xs us Q I rs q=>h pins s σ H xs us Q I rs (k xs H Q q)
theorem c9.imp{X:Cx}{r r':R2}(h:c9 X r)(k : ∀ x y H Q,r' x y H Q->r x y H Q):c9 X r':=λvalue slice pins s σ H x y v u Q I rx ry q hs=>h value slice pins s σ H x y v u Q I rx ry (k x y H Q q) hs
theorem af.new{H:Hp}{p:Addr}{o:HO}(h:H p=none):af H (upd H p o):=λb u e=>by rw[ai (bi e h)]; exact e
structure aO (H:Hp) (p:Addr) (o:HO) (H':Hp):Prop where
 nw:H p=none
 sm:af H H'
 at_:H' p=some o
theorem aO.mk'{H:Hp}{p:Addr}{o:HO}(h:H p=none):aO H p o (upd H p o):=⟨h,af.new h,aR⟩
theorem aO.lst{K:W.Frag}{H H':Hp}{p:Addr}{xs:List V}(g:aO H p (.lst xs) H'):ax K H' p xs:=.of g.at_
theorem aO.tup{K:W.Frag}{H H':Hp}{p:Addr}{xs:List V}(g:aO H p (.tup xs) H'):bu K H' p xs:=.of g.at_
theorem af.put{H H':Hp}{p:Addr}{o:HO}(s:af H H')(h:H p=none):af H (upd H' p o):=λb u e=>by
 rw[ai (bi e h)]
 exact s b u e
def mV(i:Nat):TE:=λσ H Q=>match σ[i]? with
 | some (some v)=>Q v H
 | _=>False
theorem vv(i:Nat){X:Cx}{x:Str}{pos:Pos}(hN:X.N[i]? = some x:=by rfl)(hv:io X.env.scope x:=by first | exact Or.inl rfl | exact Or.inr (Or.inl rfl) | exact Or.inr (Or.inr rfl))(hd:(x == ("__debug__" : Str))=false:=by decide)
 (hcd:(x == ("__classdict__" : Str))=false:=by decide):PE X (.Name x pos) (mV i):=(yp hN hv hd hcd).imp λσ H Q q=>by
 unfold mV at q
 split at q
 ·exact⟨_,by assumption,q⟩
 ·exact q.elim
section
variable {X:Cx}{a b:Expr}{ta tb:TE}{pos:Pos}{rest:List Expr}
def rn(ta tb:TE):TE:=λσ H Q=>ta σ H λx H1=>match x with
 | .bl c=>if c=true then tb σ H1 Q else Q (.bl false) H1
 | _=>False
def rf(ta tb:TE):TE:=λσ H Q=>ta σ H λx H1=>match x with
 | .bl c=>if c=true then Q (.bl true) H1 else tb σ H1 Q
 | _=>False
def rg(ta:TE):TE:=λσ H Q=>ta σ H λx H1=>match x with
 | .bl c=>Q (.bl (!c)) H1
 | _=>False
theorem zA(ha:PE X a ta)(hb:PE X (.BoolOp .And (b :: rest) pos) tb):PE X (.BoolOp .And (a :: b :: rest) pos) (rn ta tb):=by
 intro pins s σ H Q I h
 refine BoolOp_and (aj (ha pins s σ H _ I h) λv s1 ⟨x,H1,I1,r1,q1⟩=>?_)
 cases x with
 | bl c =>
  cases r1
  refine wpAny_truthy_bool ?_
  cases c with
  | true=>exact hb pins s1 σ H1 Q I1 q1
  | false=>exact⟨.bl false,H1,I1,rfl,q1⟩
 | _=>exact False.elim q1
theorem zt(ha:PE X a ta)(hb:PE X (.BoolOp .Or (b :: rest) pos) tb):PE X (.BoolOp .Or (a :: b :: rest) pos) (rf ta tb):=by
 intro pins s σ H Q I h
 refine BoolOp_or (aj (ha pins s σ H _ I h) λv s1 ⟨x,H1,I1,r1,q1⟩=>?_)
 cases x with
 | bl c =>
  cases r1
  refine wpAny_truthy_bool ?_
  cases c with
  | false=>exact hb pins s1 σ H1 Q I1 q1
  | true=>exact⟨.bl true,H1,I1,rfl,q1⟩
 | _=>exact False.elim q1
theorem zu(ha:PE X a ta):PE X (.UnaryOp .Not a pos) (rg ta):=by
 intro pins s σ H Q I h
 refine UnaryOp_ (aj (ha pins s σ H _ I h) λv s1 ⟨x,H1,I1,r1,q1⟩=>?_)
 cases x with
 | bl c =>
  cases r1
  exact not_of (wpAny_truthy_bool ⟨.bl (!c),H1,I1,rfl,q1⟩)
 | _=>exact False.elim q1
def mB(t:TE):TT:=λσ H Q=>t σ H λx H1=>match x with
 | .bl c=>Q c H1
 | _=>False
theorem y8{e:Expr}{t:TE}(h:PE X e t)(he : ∀ whole,isTrue e X.env whole=(do let v <- whole; standAt e.pos; holding [v] (truthy v)):=by intro _; rfl):PT X e (mB t):=by
 intro pins s σ H Q I hw
 refine isTrue_plain (aj (h pins s σ H _ I hw) λv s1 ⟨x,H1,I1,r1,q1⟩=>?_) (he _)
 cases x with
 | bl c =>
  cases r1
  exact wpAny_truthy_bool ⟨H1,I1,q1⟩
 | _=>exact False.elim q1
theorem zd{op:CmpOp}{r:R2}(ho:aG X (compareOp op) r)(ha:PE X a ta)(hb:PE X b tb)(hm:behindInMarks op b=false):PT X (.Compare a [op] [b] pos) (mB (dO r ta tb)):=by
 intro pins s σ H Q I h
 refine wpAny_isTrue_Compare1 (aj (ha pins s σ H _ I h) λv s1 ⟨x,H1,I1,r1,q1⟩=>aj (hb pins s1 σ H1 _ I1 q1) λu s2 ⟨y,H2,I2,r2,q2⟩ =>
  aj (ho pins s2 σ H2 x y v u _ I2 r1 r2 q2) λc s3 ⟨z,H3,I3,r3,q3⟩=>?_) hm
 cases z with
 | bl k =>
  cases r3
  exact wpAny_truthy_bool ⟨H3,I3,q3⟩
 | _=>exact False.elim q3
def jB(r r':R2)(ta tb tc:TE):TE:=λσ H Q=>ta σ H λx H1=>tb σ H1 λy H2=>r x y H2 λz H3=>match z with
 | .bl k=>if k=true then tc σ H3 λw' H4=>r' y w' H4 Q else Q (.bl false) H3
 | _=>False
theorem zz{c:Expr}{tc:TE}{op op':CmpOp}{r r':R2}(ho:aG X (compareOp op) r)(ho':aG X (compareOp op') r')(ha:PE X a ta)(hb:PE X b tb)(hc:PE X c tc)
 (hm:lastMarks [op,op'] [b,c]=false:=by with_unfolding_all rfl):PE X (.Compare a [op,op'] [b,c] pos) (jB r r' ta tb tc):=by
 intro pins s σ H Q I h
 refine Compare_chain (aj (ha pins s σ H _ I h) λv s1 ⟨x,H1,I1,r1,q1⟩=>chain_link (aj (hb pins s1 σ H1 _ I1 q1) λu s2 ⟨y,H2,I2,r2,q2⟩ =>
  aj (ho pins s2 σ H2 x y v u _ I2 r1 r2 q2) λd s3 ⟨z,H3,I3,r3,q3⟩=>?_)) hm
 cases z with
 | bl k =>
  cases r3
  refine wpAny_truthy_bool ?_
  cases k with
  | false=>exact ite_ff ⟨.bl false,H3,I3,rfl,q3⟩
  | true=>exact ite_tt (chain_last (aj (hc pins s3 σ H3 _ I3 q3) λw' s4 ⟨z',H4,I4,r4,q4⟩=>ho' pins s4 σ H4 y z' u w' Q I4 r2 r4 q4))
 | _=>exact False.elim q3
theorem zf{c:Expr}{tc:TE}{op op':CmpOp}{r r':R2}(ho:aG X (compareOp op) r)(ho':aG X (compareOp op') r')(ha:PE X a ta)(hb:PE X b tb)(hc:PE X c tc)
 (hm:lastMarks [op,op'] [b,c]=false:=by with_unfolding_all rfl):PT X (.Compare a [op,op'] [b,c] pos) (mB (jB r r' ta tb tc)):=by
 intro pins s σ H Q I h
 refine isTrue_chain (aj (ha pins s σ H _ I h) λv s1 ⟨x,H1,I1,r1,q1⟩=>test_link (aj (hb pins s1 σ H1 _ I1 q1) λu s2 ⟨y,H2,I2,r2,q2⟩ =>
  aj (ho pins s2 σ H2 x y v u _ I2 r1 r2 q2) λd s3 ⟨z,H3,I3,r3,q3⟩=>?_)) hm
 cases z with
 | bl k =>
  cases r3
  refine wpAny_truthy_bool ?_
  cases k with
  | false=>exact ite_ff ⟨H3,I3,q3⟩
  | true =>
   refine ite_tt (test_last (aj (hc pins s3 σ H3 _ I3 q3) λw' s4 ⟨z',H4,I4,r4,q4⟩=>aj (ho' pins s4 σ H4 y z' u w' _ I4 r2 r4 q4) λd' s5 ⟨z2,H5,I5,r5,q5⟩=>?_))
   cases z2 with
   | bl k2 =>
    cases r5
    exact wpAny_truthy_bool ⟨H5,I5,q5⟩
   | _=>exact False.elim q5
 | _=>exact False.elim q3
def ly(K:W.Frag)(t:TE):TT:=λσ H Q=>t σ H λx H1=>match x with
 | .non=>Q false H1
 | .bl c=>Q c H1
 | .int i=>Q (i != 0) H1
 | .ref p=>∃ xs,(ax K H1 p xs\/bu K H1 p xs)/\Q (!xs.isEmpty) H1
 | _=>False
theorem y9{e:Expr}{t:TE}(h:PE X e t)(he : ∀ whole,isTrue e X.env whole=(do let v <- whole; standAt e.pos; holding [v] (truthy v)):=by intro _; rfl):PT X e (ly X.K t):=by
 intro pins s σ H Q I hw
 refine isTrue_plain (aj (h pins s σ H _ I hw) λv s1 ⟨x,H1,I1,r1,q1⟩=>?_) (he _)
 cases x with
 | non=>exact iG pins s1 σ H1 _ v Q I1 r1 ⟨false,rfl,q1⟩
 | bl c=>exact iG pins s1 σ H1 _ v Q I1 r1 ⟨c,rfl,q1⟩
 | int i=>exact iG pins s1 σ H1 _ v Q I1 r1 ⟨i != 0,rfl,q1⟩
 | ref p =>
  obtain⟨xs,hx,q1⟩:=q1
  rcases hx with hx | hx
  ·exact iG pins s1 σ H1 _ v Q I1 r1 ⟨_,.inl ⟨xs,hx,rfl⟩,q1⟩
  ·exact iG pins s1 σ H1 _ v Q I1 r1 ⟨_,.inr (.inl ⟨xs,hx,rfl⟩),q1⟩
 | _=>exact False.elim q1
end
section
variable {X:Cx}{a b:Expr}{ta tb:TE}{pos:Pos}
def gI(C:Int->Int->Prop)(g:Int->Int->V):R2:=λx y H Q=>match x,y with
 | .int i,.int j=>C i j/\Q (g i j) H
 | _,_=>False
def jM(g:Int->Int->V):R2:=λx y H Q=>match x,y with
 | .int i,.int j=>Q (g i j) H
 | _,_=>False
theorem md{f:Value->Value->Sem Value}{g:Int->Int->V}(h:aG X f (fg g)):aG X f (jM g):=h.imp λx y H Q q=>by
 cases x <;> cases y <;> first | exact False.elim q | exact⟨_,_,rfl,rfl,q⟩
theorem lW:aG X (compareOp .Lt) (jM λi j=>.bl (decide (i < j))):=md yV
theorem du:aG X (compareOp .LtE) (jM λi j=>.bl (decide (i<=j))):=md yW
theorem sd:aG X (compareOp .Gt) (jM λi j=>.bl (decide (j < i))):=md yY
def rj(j:Int)(ta:TE):TE:=λσ H Q=>ta σ H λx H1=>match x with
 | .int i=>Q (.int (i / j)) H1
 | _=>False
def rh(j:Int)(ta:TE):TE:=λσ H Q=>ta σ H λx H1=>match x with
 | .int i=>Q (.int (i%j)) H1
 | _=>False
theorem zx{j:Int}{k:Nat}{p:Pos}(ha:PE X a ta)(hj:0 < j/\j < 1073741824:=by decide):PE X (.BinOp a .FloorDiv (.Constant (.int j) k p) pos) (rj j ta):=by
 intro pins s σ H Q I h
 refine wpAny_BinOp (aj (ha pins s σ H _ I h) λv s1 ⟨x,H1,I1,r1,q1⟩=>?_)
 refine aj (jx pins s1 σ H1 (λy H2=>y=.int j/\H2=H1) I1 ⟨rfl,rfl⟩) λu s2 ⟨y,H2,I2,r2,e1,e2⟩=>?_
 subst e1 e2
 cases x with
 | int i=>exact yZ pins s2 σ H2 (.int i) (.int j) v u Q I2 r1 r2 ⟨i,j,rfl,rfl,hj,q1⟩
 | _=>exact False.elim q1
theorem zv{j:Int}{k:Nat}{p:Pos}(ha:PE X a ta)(hj:0 < j:=by decide):PE X (.BinOp a .Mod (.Constant (.int j) k p) pos) (rh j ta):=by
 intro pins s σ H Q I h
 refine wpAny_BinOp (aj (ha pins s σ H _ I h) λv s1 ⟨x,H1,I1,r1,q1⟩=>?_)
 refine aj (jx pins s1 σ H1 (λy H2=>y=.int j/\H2=H1) I1 ⟨rfl,rfl⟩) λu s2 ⟨y,H2,I2,r2,e1,e2⟩=>?_
 subst e1 e2
 cases x with
 | int i=>exact yU pins s2 σ H2 (.int i) (.int j) v u Q I2 r1 r2 ⟨i,j,rfl,rfl,hj,q1⟩
 | _=>exact False.elim q1
theorem gu:iW X (unaryOp .USub) (λx H Q=>match x with | .int i=>Q (.int (-i)) H | _=>False):=by
 intro pins s σ H x v Q I rx q
 cases x with
 | int i=>exact uL pins s σ H _ v Q I rx ⟨i,rfl,q⟩
 | _=>exact False.elim q
end
section
variable {X:Cx}
theorem Ca{pins:List (Addr × Obj)}{s:Shared}{σ:St}{H:Hp}{l b:Addr}{xs zs:List V}{Q:VK}(I:ad X pins σ H s)(hl:ax X.K H l xs)(hb:ax X.K H b zs)(hz:xs.length+zs.length<=sizeLine)
 (q : ∀ p H',aO H p (.lst (xs++zs)) H'->Q (.ref p) H'):wpAny (model X.prog X.w) X.A (binaryOp .Add (.ref l) (.ref b)) (EP X pins σ Q) X.xe s:=by
 obtain⟨its,r,pl,_⟩:=I.list hl
 obtain⟨its2,r2,pl2,_⟩:=I.list hb
 have e1:=r.length
 have e2:=r2.length
 obtain⟨⟨cls,dd,data,sl⟩,ho,hc,n,hd⟩:=pl.isList
 obtain⟨⟨cls2,dd2,data2,sl2⟩,ho2,hc2,n2,hd2⟩:=pl2.isList
 simp only at hc hd hc2 hd2
 subst hc hd hc2 hd2
 have ea:its.toArray++its2.toArray=(its++its2).toArray:=by simp
 refine concat_meets ⟨_,ho,rfl⟩ ⟨_,ho2,rfl⟩ noFill_list_add seq_list_add PySem.F.slot_list_add PySem.F.entry_list_add (PySem.F.args_list_add_2 _ _) (list_addW l b its.toArray its2.toArray n n2 dd dd2 sl sl2 (by rw[List.size_toArray,List.size_toArray]; omega)) ⟨ho,ho2,?_⟩
 rw[ea]
 exact⟨.ref _,_,I.lnew (t':=s.toks) (r.append r2) (by rw[List.length_append]; omega),rfl,q _ _ (.mk' I.fresh)⟩
def sq(K:W.Frag):R2:=λx y H Q=>match x,y with
 | .int i,.int j=>Q (.int (i+j)) H
 | .ref l,.ref b=>∃ xs zs,ax K H l xs/\ax K H b zs/\xs.length+zs.length<=sizeLine/\∀ p H',aO H p (.lst (xs++zs)) H'->Q (.ref p) H'
 | _,_=>False
theorem Bv:aG X (binaryOp .Add) (sq X.K):=by
 intro pins s σ H x y v u Q I rx ry q
 cases x with
 | int i =>
  cases y with
  | int j=>exact y0 pins s σ H _ _ v u Q I rx ry ⟨i,j,rfl,rfl,q⟩
  | _=>exact False.elim q
 | ref l =>
  cases y with
  | ref b =>
   obtain⟨xs,zs,h1,h2,h3,q⟩:=q
   cases rx
   cases ry
   exact Ca I h1 h2 h3 q
  | _=>exact False.elim q
 | _=>exact False.elim q
def lL(x:V)(c:Bool):Bool:=match x with
 | .bl d=>d == c
 | _=>false
theorem pY{x:V}{v:Value}{c:Bool}(r:au x v)(hf : ∀ f,x ≠ .ty f):plainIs v (.bool c)=true/\(v == Value.bool c)=lL x c:=by
 cases x with
 | non=>cases r; exact⟨rfl,rfl⟩
 | bl d=>cases r; exact⟨rfl,by cases d <;> cases c <;> rfl⟩
 | int _=>obtain⟨t,rfl⟩:=r; exact⟨rfl,rfl⟩
 | str _=>obtain⟨t,rfl⟩:=r; exact⟨rfl,rfl⟩
 | byt _=>obtain⟨t,rfl⟩:=r; exact⟨rfl,rfl⟩
 | flt _=>obtain⟨t,rfl⟩:=r; exact⟨rfl,rfl⟩
 | ref _=>cases r; exact⟨rfl,rfl⟩
 | ty f=>exact absurd rfl (hf f)
def sj(neg:Bool):R2:=λx y H Q=>match y with
 | .non=>Q (.bl (if neg then !decide (x=.non) else decide (x=.non))) H
 | .bl c=>(∀ f,x ≠ .ty f)/\Q (.bl (if neg then !lL x c else lL x c)) H
 | _=>False
theorem r9:aG X (compareOp .Is) (sj false):=by
 intro pins s σ H x y v u Q I rx ry q
 cases y with
 | non=>exact yX pins s σ H x _ v u Q I rx ry ⟨rfl,q⟩
 | bl c =>
  cases ry
  obtain⟨h1,h2⟩:=pY (c:=c) rx q.1
  exact wpAny_is_plain h1 ⟨.bl _,H,I,by rw[h2]; rfl,q.2⟩
 | _=>exact False.elim q
theorem jL:aG X (compareOp .IsNot) (sj true):=by
 intro pins s σ H x y v u Q I rx ry q
 cases y with
 | non=>exact yT pins s σ H x _ v u Q I rx ry ⟨rfl,q⟩
 | bl c =>
  cases ry
  obtain⟨h1,h2⟩:=pY (c:=c) rx q.1
  exact wpAny_isNot_plain h1 ⟨.bl _,H,I,by rw[h2]; rfl,q.2⟩
 | _=>exact False.elim q
end
def aI(K:W.Frag)(H:Hp)(d:PyData)(x:V):Prop:=∀ (X:Cx) (pins:List (Addr × Obj)) (σ:St) (s:Shared) (u:Value),X.K=K->ad X pins σ H s->au x u->∃ as,Reads s.heap u d as
def cu(K:W.Frag)(H:Hp)(ds:List PyData)(xs:List V):Prop:=∀ (X:Cx) (pins:List (Addr × Obj)) (σ:St) (s:Shared) (us:List Value),X.K=K->ad X pins σ H s->ar xs us->∃ as,ReadsAll s.heap us ds as
section
variable {K:W.Frag}{H:Hp}
theorem aI.non:aI K H .none .non:=λ_ _ _ _ _ _ _ r=>by cases r; exact⟨_,.none⟩
theorem aI.int(i:Int):aI K H (.int i) (.int i):=λ_ _ _ _ _ _ _ r=>by obtain⟨t,rfl⟩:=r; exact⟨_,.int i t⟩
theorem aI.str(x:Str):aI K H (.str x) (.str x):=λ_ _ _ _ _ _ _ r=>by obtain⟨t,rfl⟩:=r; exact⟨_,.str x t⟩
theorem cu.nil:cu K H [] []:=λ_ _ _ _ _ _ _ r=>by cases r; exact⟨_,.nil⟩
theorem cu.cons{d:PyData}{ds:List PyData}{x:V}{xs:List V}(a:aI K H d x)(b:cu K H ds xs):cu K H (d :: ds) (x :: xs):=λX pins σ s us e I r=>by
 cases r with
 | cons r1 r2 =>
  obtain⟨as,ha⟩:=a X pins σ s _ e I r1
  obtain⟨bs,hb⟩:=b X pins σ s _ e I r2
  exact⟨_,.cons ha hb⟩
theorem aI.lst{ds:List PyData}{p:Addr}{xs:List V}(h:ax K H p xs)(b:cu K H ds xs):aI K H (.list ds) (.ref p):=λX pins σ s u e I r=>by
 cases r
 subst e
 obtain⟨its,rv,⟨o,n,ho,hc,_,hd⟩,_⟩:=I.list h
 obtain⟨as,ha⟩:=b X pins σ s its rfl I rv
 exact⟨_,.list ho hc hd (by simpa using ha)⟩
theorem aI.tup{ds:List PyData}{p:Addr}{xs:List V}(h:bu K H p xs)(b:cu K H ds xs):aI K H (.tuple ds) (.ref p):=λX pins σ s u e I r=>by
 cases r
 subst e
 obtain⟨its,rv,⟨o,ho,hc,n,hd⟩,_⟩:=I.tuple h
 obtain⟨as,ha⟩:=b X pins σ s its rfl I rv
 exact⟨_,.tuple ho hc hd (by simpa using ha)⟩
theorem cu.ints : ∀ ns:List Int,cu K H (ns.map PyData.int) (ns.map V.int)
 | []=>.nil
 | n :: ns=>.cons (.int n) (cu.ints ns)
end
open SeqAt (shaped)
def fX(K:W.Frag)(neg:Bool):R2:=λx y H Q=>match x,y with
 | .int i,.int j=>Q (.bl (if neg then !decide (i=j) else decide (i=j))) H
 | .bl a,.bl b=>Q (.bl (if neg then !(a == b) else a == b)) H
 | _,_=>∃ d e,aI K H d x/\aI K H e y/\shaped d=true/\shaped e=true/\Q (.bl (if neg then !d.eqv e else d.eqv e)) H
section
variable {X:Cx}
theorem sK{pins:List (Addr × Obj)}{s:Shared}{σ:St}{H:Hp}{x y:V}{v u:Value}{Q:VK}{neg:Bool}(hu:X.A.units+64 < cLine)(I:ad X pins σ H s)(rx:au x v)(ry:au y u)
 (q : ∃ d e,aI X.K H d x/\aI X.K H e y/\shaped d=true/\shaped e=true/\Q (.bl (if neg then !d.eqv e else d.eqv e)) H) :
 wpAny (model X.prog X.w) X.A (compareOp (if neg then .NotEq else .Eq) v u) (EP X pins σ Q) X.xe s:=by
 obtain⟨d,e,hd,he,h1,h2,q⟩:=q
 obtain⟨as,ra⟩:=hd X pins σ s v rfl I rx
 obtain⟨bs,rb⟩:=he X pins σ s u rfl I ry
 cases neg with
 | true=>exact ne_dataH ra rb h1 h2 hu ⟨.bl _,H,I,rfl,q⟩
 | false=>exact eq_dataH ra rb h1 h2 hu ⟨.bl _,H,I,rfl,q⟩
theorem sU{i j:Int}:decide (V.int i=V.int j)=decide (i=j):=by simp
theorem Bo(hu:X.A.units+64 < cLine):aG X (compareOp .Eq) (fX X.K false):=by
 intro pins s σ H x y v u Q I rx ry q
 have D:=λq'=>sK (neg:=false) (Q:=Q) hu I rx ry q'
 cases x with
 | int i =>
  cases y with
  | int j=>exact qQ pins s σ H _ _ v u Q I rx ry ⟨rfl,by rw[sU]; exact q⟩
  | _=>exact D q
 | bl i =>
  cases y with
  | bl j=>exact qQ pins s σ H _ _ v u Q I rx ry ⟨rfl,by rw[jV]; exact q⟩
  | _=>exact D q
 | _=>exact D q
theorem Bc(hu:X.A.units+64 < cLine):aG X (compareOp .NotEq) (fX X.K true):=by
 intro pins s σ H x y v u Q I rx ry q
 have D:=λq'=>sK (neg:=true) (Q:=Q) hu I rx ry q'
 cases x with
 | int i =>
  cases y with
  | int j=>exact qP pins s σ H _ _ v u Q I rx ry ⟨rfl,by rw[sU]; exact q⟩
  | _=>exact D q
 | bl i =>
  cases y with
  | bl j=>exact qP pins s σ H _ _ v u Q I rx ry ⟨rfl,by rw[jV]; exact q⟩
  | _=>exact D q
 | _=>exact D q
def si(K:W.Frag):R2:=λx y H Q=>match x,y with
 | .ref p,.int i=>∃ xs v,(ax K H p xs\/bu K H p xs)/\c7 xs i=some v/\Q v H
 | _,_=>False
theorem Bd:c9 X (si X.K):=(Aa.or zZ).imp λx y H Q q=>by
 cases x with
 | ref p =>
  cases y with
  | int i =>
   obtain⟨xs,v,h1,h2,q⟩:=q
   rcases h1 with h1 | h1
   ·exact .inl ⟨p,xs,i,v,rfl,rfl,h1,h2,q⟩
   ·exact .inr ⟨p,xs,i,v,rfl,rfl,h1,h2,q⟩
  | _=>exact False.elim q
 | _=>exact False.elim q
def sf(K:W.Frag):V->Option Int->Option Int->Hp->VK->Prop:=λx lo hi H Q=>match x with
 | .ref a=>∃ xs,ax K H a xs/\∀ p H',aO H p (.lst (cF xs lo hi)) H'->Q (.ref p) H'
 | _=>False
theorem Ba:fz X (sf X.K):=by
 intro pins s σ H x v vl vu lo hi sl Q I rx hs pl pu q
 cases x with
 | ref a=>obtain⟨xs,h1,q⟩:=q; exact wf pins s σ H _ v vl vu lo hi sl Q I rx hs pl pu ⟨a,xs,rfl,h1,λp hp=>q p _ (.mk' hp)⟩
 | _=>exact False.elim q
def l7(K:W.Frag):List V->Hp->VK->Prop:=λxs H Q=>match xs with
 | [.ref p]=>∃ ys,(ax K H p ys\/bu K H p ys)/\Q (.int ys.length) H
 | _=>False
theorem Cm:bp X (.builtin "len") (l7 X.K):=Cd.imp λxs H Q q=>by
 unfold l7 at q
 split at q
 ·obtain⟨ys,h1,q⟩:=q
  exact⟨_,ys,rfl,h1,q⟩
 ·exact q.elim
def lZ(K:W.Frag):List V->Hp->VK->Prop:=λxs H Q=>match xs with
 | [.ref p]=>∃ ys,(ax K H p ys\/bu K H p ys)/\∀ l H',aO H l (.lst ys) H'->Q (.ref l) H'
 | _=>False
theorem Ck:bp X (.type "list") (lZ X.K):=Cc.imp λxs H Q q=>by
 unfold lZ at q
 split at q
 ·obtain⟨ys,h1,q⟩:=q
  exact⟨_,ys,rfl,h1,λl hl=>q l _ (.mk' hl)⟩
 ·exact q.elim
def ma(K:W.Frag):List V->Hp->VK->Prop:=λxs H Q=>match xs with
 | [x,.ty T]=>∃ t b,ce K H x t/\W.kitOne K t (.type T)=some b/\Q (.bl b) H
 | [x,.ref C]=>∃ t b,ce K H x t/\W.kitOne K t (.ref C)=some b/\Q (.bl b) H
 | _=>False
theorem Cn:bp X (.builtin "isinstance") (ma X.K):=by
 intro pins s σ H xs us Q I r q
 unfold ma at q
 split at q
 ·obtain⟨t,b,h1,h2,q⟩:=q
  obtain⟨u,w',rfl,r1,r2⟩:=oJ r
  cases r2
  exact rF I r1 h1 h2 λtk=>⟨.bl b,H,I.tok _,rfl,q⟩
 ·obtain⟨t,b,h1,h2,q⟩:=q
  obtain⟨u,w',rfl,r1,r2⟩:=oJ r
  cases r2
  exact rF I r1 h1 h2 λtk=>⟨.bl b,H,I.tok _,rfl,q⟩
 ·exact q.elim
theorem CA {x:Str} {T:String} {pos:Pos} (hg:Gl X x) (hm:X.mg x=none) (hv:bootBuiltins x=some (.type T)) (hn:x ≠ "__name__":=by decide) (hd:(x == ("__debug__" : Str))=false:=by decide):PE X (.Name x pos) (tC (.ty T)) :=
 yP hg hm hv rfl hn hd
end
def cY:Expr->Bool
 | .Starred _ _=>true
 | _=>false
theorem cQ{e:Expr}{es:List Expr}{env:Env}(h:cY e=false):starEach (e :: es) env=(false,eval e env) :: starEach es env:=by
 cases e <;> first | rfl | cases h
def ci:List Expr->Bool
 | []=>true
 | e :: r=>!cY e && ci r
theorem fS{env:Env}{pos:Pos} : ∀ {es:List Expr},ci es=true->(backTo pos (starEach es env)).any (·.1)=false
 | [],_=>rfl
 | e :: r,h=>by
  have h':(!cY e && ci r)=true:=h
  rw[Bool.and_eq_true]at h'
  have h1:cY e=false:=by simpa using h'.1
  rw[cQ h1]
  show (false || (backTo pos (starEach r env)).any (·.1))=false
  rw[Bool.false_or]
  exact fS h'.2
theorem cX{e:Expr}{es:List Expr}(h:ci (e :: es)=true):cY e=false/\ci es=true:=by
 have h':(!cY e && ci es)=true:=h
 rw[Bool.and_eq_true]at h'
 exact⟨by simpa using h'.1,h'.2⟩
theorem qN{X:Cx}{e:Expr}{es:List Expr}{te:TE}{t:TA}(ha:PE X e te)(hr:PA X es t)(hs:cY e=false:=by rfl):PA X (e :: es) (kI te t):=yR ha hr (cQ hs)
def j1:Expr->Option V
 | .Constant (.int i) _ _=>some (.int i)
 | .Constant (.bool b) _ _=>some (.bl b)
 | .Constant .none _ _=>some .non
 | .Constant (.str x) _ _=>some (.str x)
 | _=>none
def j0:List Expr->Option (List V)
 | []=>some []
 | e :: r=>match j1 e,j0 r with
  | some v,some vs=>some (v :: vs)
  | _,_=>none
def pG(vs:List V):TA:=λ_ H Q=>Q vs H
theorem yH{X:Cx}{e:Expr}{v:V}(h:j1 e=some v):PE X e (tC v):=by
 unfold j1 at h
 split at h
 ·cases h; exact jx
 ·cases h; exact qK
 ·cases h; exact qJ
 ·cases h; exact qI
 ·cases h
theorem B1{e:Expr}{v:V}(h:j1 e=some v):cY e=false:=by
 cases e <;> first | rfl | cases h
theorem qM{X:Cx} : ∀ {es:List Expr} {vs:List V},j0 es=some vs->PA X es (pG vs)
 | [],vs,h=>by
  cases h
  exact qL
 | e :: r,vs,h=>by
  unfold j0 at h
  split at h
  ·rename_i v ws h1 h2
   cases h
   exact qN (yH h1) (qM h2) (B1 h1)
  ·cases h
section
variable {X:Cx}{es:List Expr}{t:TA}{pos:Pos}
def re(t:TA):TE:=λσ H Q=>t σ H λxs H1=>xs.length<=sizeLine/\∀ p H',aO H1 p (.tup xs) H'->Q (.ref p) H'
def ri(t:TA):TE:=λσ H Q=>t σ H λxs H1=>xs.length<=sizeLine/\∀ p H',aO H1 p (.lst xs) H'->Q (.ref p) H'
theorem zr{x1}(h:PA X es t):PE X (.Tuple es x1 pos) (re t):=by
 intro pins s σ H Q I hq
 refine wpAny_Tuple_spliced (aj (h pos pins s σ H _ I hq) λus s1 ⟨xs,H1,I1,r,z,q⟩=>⟨by rw[<- r.length]; exact z,?_⟩)
 have hf:H1 s1.heap.objs.size=none:=I1.hok.fresh (Nat.le_refl _)
 refine⟨.ref s1.heap.objs.size,upd H1 s1.heap.objs.size (.tup xs),I1.laid (t':=s1.toks) (λb u e=>Heap.get?_push_of_some _ e) (Nat.le_refl _) ?_,rfl,q _ _ (.mk' hf)⟩
 exact⟨z,us,r,⟨_,Heap.get?_push_size _ rfl,rfl,_,rfl⟩⟩
theorem zw(h:PA X es t):PE X (.List es pos) (ri t):=by
 intro pins s σ H Q I hq
 refine wpAny_List_spliced (aj (h pos pins s σ H _ I hq) λus s1 ⟨xs,H1,I1,r,z,q⟩=>⟨by rw[<- r.length]; exact z,?_⟩)
 have hf:H1 s1.heap.objs.size=none:=I1.hok.fresh (Nat.le_refl _)
 refine⟨.ref s1.heap.objs.size,upd H1 s1.heap.objs.size (.lst xs),I1.laid (t':=s1.toks) (λb u e=>Heap.get?_push_of_some _ e) (Nat.le_refl _) ?_,rfl,q _ _ (.mk' hf)⟩
 exact⟨z,us,0,r,Heap.get?_push_size _ rfl⟩
def rk:TE:=λ_ H Q=>∀ p H',aO H p (.dK []) H'->Q (.ref p) H'
theorem zy:PE X (.Dict [] [] pos) rk:=yF.imp λσ H Q q=>λp hp=>q p _ (.mk' hp)
end
theorem bh{Q:VK}{H:Hp}{a b:Bool}(k:Q (.bl a) H)(e:a=b):Q (.bl b) H:=e ▸ k
def lK:V->Bool
 | .int _=>true
 | .bl _=>true
 | _=>false
def rH:V->Bool
 | .bl _=>true
 | _=>false
inductive c8 (K:W.Frag) (H:Hp):V->Prop where
 | non:c8 K H .non
 | bl (b:Bool):c8 K H (.bl b)
 | int (i:Int):c8 K H (.int i)
 | str (x:Str):c8 K H (.str x)
 | lst {a:Addr} {xs:List V} (e:H a=some (.lst xs)):c8 K H (.ref a)
 | tup {a:Addr} {xs:List V} (e:H a=some (.tup xs)):c8 K H (.ref a)
 | dK {a:Addr} {kvs:List (am × V)} (e:H a=some (.dK kvs)):c8 K H (.ref a)
theorem c8.isInt {K:W.Frag} {H:Hp} {v:V} (k:c8 K H v) : ∃ ty,ce K H v ty/\W.kitOne K ty (.type "int")=some (lK v):=by
 cases k with
 | non=>exact⟨_,.non,by with_unfolding_all rfl⟩
 | bl b=>exact⟨_,.bl b,by with_unfolding_all rfl⟩
 | int i=>exact⟨_,.int i,by with_unfolding_all rfl⟩
 | str x=>exact⟨_,.str x,by with_unfolding_all rfl⟩
 | lst e=>exact⟨_,.lst e,by with_unfolding_all rfl⟩
 | tup e=>exact⟨_,.tup e,by with_unfolding_all rfl⟩
 | dK e=>exact⟨_,.dK e,by with_unfolding_all rfl⟩
theorem c8.isBl {K:W.Frag} {H:Hp} {v:V} (k:c8 K H v) : ∃ ty,ce K H v ty/\W.kitOne K ty (.type "bool")=some (rH v):=by
 cases k with
 | non=>exact⟨_,.non,by with_unfolding_all rfl⟩
 | bl b=>exact⟨_,.bl b,by with_unfolding_all rfl⟩
 | int i=>exact⟨_,.int i,by with_unfolding_all rfl⟩
 | str x=>exact⟨_,.str x,by with_unfolding_all rfl⟩
 | lst e=>exact⟨_,.lst e,by with_unfolding_all rfl⟩
 | tup e=>exact⟨_,.tup e,by with_unfolding_all rfl⟩
 | dK e=>exact⟨_,.dK e,by with_unfolding_all rfl⟩
theorem sz{n:Nat}(h:Nat.ble n 1000=true):n<=sizeLine:=Nat.le_trans (Nat.le_of_ble_eq_true h) (by decide)
theorem dk{n:Nat}(h:n<=100000):n<=sizeLine:=Nat.le_trans h (by decide)
theorem dC{n:Nat}(h:n<=100000):n < sizeLine:=Nat.lt_of_le_of_lt h (by decide)
section
variable {X:Cx}
theorem qd(bs:List Bool):(List.range bs.length).map (λi=>(bs[i]?).getD false)=bs:=by
 apply List.ext_getElem
 ·simp
 ·intro i h1 h2
  simp[List.getElem?_eq_getElem h2]
theorem wQ(bs:List Bool):((List.range bs.length).all λi=>(bs[i]?).getD false)=bs.all id:=by
 conv=>rhs; rw[<- qd bs]
 rw[List.all_map]
 rfl
theorem wP(bs:List Bool):((List.range bs.length).any λi=>(bs[i]?).getD false)=bs.any id:=by
 conv=>rhs; rw[<- qd bs]
 rw[List.any_map]
 rfl
def ik(K:W.Frag)(one:Bool):List V->Hp->VK->Prop:=λxs H Q=>match xs with
 | [.ref p]=>∃ bs:List Bool,ax K H p (bs.map V.bl)/\Q (.bl (if one then bs.any id else bs.all id)) H
 | _=>False
theorem tK{prog:Program}{w:World}{A:Around}{bs:List Bool}{its:List Value}(r:ar (bs.map V.bl) its):TruthOf prog w A (λi v=>its.toArray[i]? = some v) λi=>(bs[i]?).getD false:=λi v s Q E hP hQ=>by
 dsimp only at hP hQ
 have hi:i < its.length:=by
  have:=(Array.getElem?_eq_some_iff.mp hP).1
  simpa using this
 have hl:=r.length
 rw[List.length_map]at hl
 have hb:i < bs.length:=by omega
 obtain⟨u,hu,ru⟩:=r.get (i:=i) (x:=V.bl bs[i]) (by simp[hb])
 have e:its.toArray[i]? = some u:=by simpa using hu
 rw[e]at hP
 cases hP
 cases ru
 rw[List.getElem?_eq_getElem hb]at hQ
 exact wpAny_truthy_bool hQ
theorem Cq (hc:X.calm=true):bp X (.builtin "all") (ik X.K false):=by
 intro pins s σ H xs us Q I r q
 unfold ik at q
 split at q
 ·rename_i p
  obtain⟨bs,hq,q⟩:=q
  obtain⟨u,rfl,rx⟩:=fI r
  cases rx
  obtain⟨its,rv,pl,_⟩:=I.list hq
  have hl:=rv.length
  rw[List.length_map]at hl
  have hne:p≠s.heap.objs.size:=by
   obtain⟨o,n,e,_⟩:=pl
   exact Nat.ne_of_lt (Heap.lt_size e)
  refine call_all_walk (wpAny_pyIter_list pl.isList ⟨s.heap.objs.size,_,_,_,_,_,λi=>(bs[i]?).getD false,rfl,Walks.list (A:=X.A.in1) (show X.A.in1.handled=none from I.ok.hd hc) s.heap.objs.size p hne its.toArray,⟨⟨_,Heap.get?_push_size _ rfl,rfl,rfl⟩,?_⟩,tK rv,λh' tk k=>?_⟩)
  ·exact pl.isList.at λo e=>Heap.get?_push_of_some _ e
  ·refine⟨.bl _,H,I.kept (h':=h') (t':=tk) λb o e=>k b o (λz=>?_) (Heap.get?_push_of_some _ e),?_,q⟩
   ·have e':b=s.heap.objs.size:=by simpa using z
    exact absurd (Heap.lt_size e) (by rw[e']; exact Nat.lt_irrefl _)
   ·show Value.bool _=Value.bool _
    rw[List.size_toArray,<- hl,wQ]
    rfl
 ·exact q.elim
theorem Cp (hc:X.calm=true):bp X (.builtin "any") (ik X.K true):=by
 intro pins s σ H xs us Q I r q
 unfold ik at q
 split at q
 ·rename_i p
  obtain⟨bs,hq,q⟩:=q
  obtain⟨u,rfl,rx⟩:=fI r
  cases rx
  obtain⟨its,rv,pl,_⟩:=I.list hq
  have hl:=rv.length
  rw[List.length_map]at hl
  have hne:p≠s.heap.objs.size:=by
   obtain⟨o,n,e,_⟩:=pl
   exact Nat.ne_of_lt (Heap.lt_size e)
  refine call_any_walk (wpAny_pyIter_list pl.isList ⟨s.heap.objs.size,_,_,_,_,_,λi=>(bs[i]?).getD false,rfl,Walks.list (A:=X.A.in1) (show X.A.in1.handled=none from I.ok.hd hc) s.heap.objs.size p hne its.toArray,⟨⟨_,Heap.get?_push_size _ rfl,rfl,rfl⟩,?_⟩,tK rv,λh' tk k=>?_⟩)
  ·exact pl.isList.at λo e=>Heap.get?_push_of_some _ e
  ·refine⟨.bl _,H,I.kept (h':=h') (t':=tk) λb o e=>k b o (λz=>?_) (Heap.get?_push_of_some _ e),?_,q⟩
   ·have e':b=s.heap.objs.size:=by simpa using z
    exact absurd (Heap.lt_size e) (by rw[e']; exact Nat.lt_irrefl _)
   ·show Value.bool _=Value.bool _
    rw[List.size_toArray,<- hl,wP]
    rfl
 ·exact q.elim
def lX(K:W.Frag):List V->Hp->VK->Prop:=λxs H Q=>match xs with
 | [.ref p]=>∃ ys,ax K H p ys/\∀ l H',aO H l (.tup ys) H'->Q (.ref l) H'
 | _=>False
theorem Ch:bp X (.type "tuple") (lX X.K):=Cb.imp λxs H Q q=>by
 unfold lX at q
 split at q
 ·obtain⟨ys,h1,q⟩:=q
  exact⟨_,ys,rfl,.inl ⟨h1,λl hl=>q l _ (.mk' hl)⟩⟩
 ·exact q.elim
def sn:V->List V->Hp->VK->Prop:=λx vs H Q=>match x,vs with
 | .ref l,[y]=>∃ xs,H l=some (.lst xs)/\xs.length < sizeLine/\Q .non (upd H l (.lst (xs++[y])))
 | _,_=>False
theorem dY:fB X "list.append" sn:=by
 intro pins s σ H x vs v us Q I rx rv q
 unfold sn at q
 split at q
 ·obtain⟨xs,h1,h2,q⟩:=q
  exact zg pins s σ H _ _ v us Q I rx rv ⟨_,xs,_,rfl,rfl,h1,h2,q⟩
 ·exact q.elim
end
structure be (P:Program) (w:World) (K:W.Frag) (mg:Str->Option Value) (base:Heap) (x:Str) (k:Nat) (f:Addr) (fd:FuncData) (ps:List Str) (sp:Sp):Prop where
 gm:mg x=some (.ref f)
 kp:W.keepIn K (.ref f)=true
 b:aA K fd ps []
 ok:bw P w K mg base ca k f fd ps sp
section
variable {X:Cx}{k j:Nat}{f:Addr}{fd:FuncData}{ps:List Str}{sp:Sp}{x:Str}{p pos:Pos}{e:Expr}{es:List Expr}{t:TA}
theorem Cg(F:be X.prog X.w X.K X.mg X.base x j f fd ps sp)(hr:aQ k X.A)(ha:PA X (e :: es) t)(hj:j<=k:=by decide)(hg:Gl X x:=by rfl)
 (hdb:(x == ("__debug__" : Str))=false:=by decide) (hn:ci (e :: es)=true:=by rfl) :
 PE X (.Call (.Name x p) (e :: es) [] pos) (kJ sp [] E0 t):=yM F.ok (hr.mono hj) hg F.gm F.kp F.b .nil yQ ha hdb (cQ (cX hn).1) (fS (cX hn).2)
theorem Cf{id:String}{r:List V->Hp->VK->Prop}(hc:bp X (.builtin id) r)(hm:X.mg x=none)(hv:bootBuiltins x=some (.builtin id))(ha:PA X (e :: es) t)(hg:Gl X x:=by rfl)(hx:x ≠ "__name__":=by decide)(hdb:(x == ("__debug__" : Str))=false:=by decide)
 (hn:ci (e :: es)=true:=by rfl):PE X (.Call (.Name x p) (e :: es) [] pos) (gx r t):=yL hc hg hm hv ha hx hdb (cQ (cX hn).1) (fS (cX hn).2)
theorem Ce{T:String}{r:List V->Hp->VK->Prop}(hc:bp X (.type T) r)(hm:X.mg x=none)(hv:bootBuiltins x=some (.type T))(ha:PA X (e :: es) t)(hg:Gl X x:=by rfl)(hx:x ≠ "__name__":=by decide)(hdb:(x == ("__debug__" : Str))=false:=by decide)
 (hn:ci (e :: es)=true:=by rfl):PE X (.Call (.Name x p) (e :: es) [] pos) (gx r t):=yK hc hg hm hv ha hx hdb (cQ (cX hn).1) (fS (cX hn).2)
theorem gi{n:Int}{u:Tok}(hm:X.mg x=some (.int n u))(hg:Gl X x:=by rfl)(hd:(x == ("__debug__" : Str))=false:=by decide):PE X (.Name x pos) (tC (.int n)):=yC hg hm ⟨u,rfl⟩ hd
end
def c6(cells:List (Str × Addr)):List (Str × NameKind)->List (Str × Addr)->List (Str × Addr)
 | [],acc=>acc
 | (n,k) :: r,acc=>c6 cells r (if (k == NameKind.free)=true then (n,(cells.lookup n).getD 0) :: acc else acc)
theorem tp{scope:Scope}{env:Env}(h : ∀ n,(n,NameKind.free)∈scope.names->∃ c,env.cells.lookup n=some c):closureFor scope env=pure (c6 env.cells scope.names []):=by
 unfold closureFor
 have key : ∀ (l:List (Str × NameKind)) (acc:List (Str × Addr)),(∀ n,(n,NameKind.free)∈l->∃ c,env.cells.lookup n=some c) ->
  (forIn l acc (λx __s=>match x with
    | (name,kind) =>
     if (kind == NameKind.free)=true then do
      let __do_lift <- cellOf env name
      pure (ForInStep.yield ((name,__do_lift) :: __s))
     else pure (ForInStep.yield __s)):Sem (List (Str × Addr)))=pure (c6 env.cells l acc):=by
  intro l
  induction l with
  | nil=>intro acc _; rfl
  | cons x r ih =>
   intro acc hf
   obtain⟨n,k⟩:=x
   have hr : ∀ n,(n,NameKind.free)∈r->∃ c,env.cells.lookup n=some c:=λn hn=>hf n (List.mem_cons_of_mem _ hn)
   rw[List.forIn_cons]
   by_cases hk:(k == NameKind.free)=true
   ·have hk':k=NameKind.free:=by simpa using hk
    subst hk'
    obtain⟨c,hc⟩:=hf n List.mem_cons_self
    have e:cellOf env n=pure c:=by unfold cellOf; rw[hc]
    show (if (NameKind.free == NameKind.free)=true then _ else _) >>= _=_
    rw[if_pos hk,e]
    show (forIn r ((n,c) :: acc) _:Sem (List (Str × Addr)))=_
    rw[ih _ hr]
    show _=pure (c6 env.cells r (if (NameKind.free == NameKind.free)=true then (n,(List.lookup n env.cells).getD 0) :: acc else acc))
    rw[if_pos hk,hc]
    rfl
   ·show (if (k == NameKind.free)=true then _ else _) >>= _=_
    rw[if_neg hk]
    show (forIn r acc _:Sem (List (Str × Addr)))=_
    rw[ih _ hr]
    show _=pure (c6 env.cells r (if (k == NameKind.free)=true then _ else acc))
    rw[if_neg hk]
 show (forIn scope.names [] _ >>= _:Sem (List (Str × Addr)))=_
 rw[key _ _ h]
 rfl
theorem na{cells:List (Str × Addr)} : ∀ (l:List (Str × NameKind)) (acc:List (Str × Addr)) (x:Str) (c:Addr),(c6 cells l acc).lookup x=some c->(∀ n,(n,NameKind.free)∈l->∃ c,cells.lookup n=some c)->((x,NameKind.free)∈l/\cells.lookup x=some c)\/acc.lookup x=some c
 | [],acc,x,c,h,_=>.inr h
 | (n,k) :: r,acc,x,c,h,hf=>by
  have hr : ∀ n,(n,NameKind.free)∈r->∃ c,cells.lookup n=some c:=λn hn=>hf n (List.mem_cons_of_mem _ hn)
  rcases na r _ x c h hr with ⟨h1,h2⟩ | h1
  ·exact .inl ⟨List.mem_cons_of_mem _ h1,h2⟩
  ·by_cases hk:(k == NameKind.free)=true
   ·rw[if_pos hk]at h1
    have hk':k=NameKind.free:=by simpa using hk
    subst hk'
    obtain⟨c',hc⟩:=hf n List.mem_cons_self
    rw[hc]at h1
    rw[List.lookup_cons]at h1
    by_cases e:(x == n)=true
    ·rw[e]at h1
     have e':x=n:=by simpa using e
     subst e'
     have:c'=c:=Option.some.inj h1
     subst this
     exact .inl ⟨List.mem_cons_self,hc⟩
    ·have e':(x == n)=false:=by simpa using e
     rw[e']at h1
     exact .inr h1
   ·rw[if_neg hk]at h1
    exact .inr h1
theorem nh{cells:List (Str × Addr)} : ∀ (l:List (Str × NameKind)) (acc:List (Str × Addr)) (x:Str),((x,NameKind.free)∈l\/∃ c,acc.lookup x=some c)->∃ c,(c6 cells l acc).lookup x=some c
 | [],acc,x,h=>by
  rcases h with h | h
  ·cases h
  ·exact h
 | (n,k) :: r,acc,x,h=>by
  unfold c6
  refine nh r _ x ?_
  rcases h with h | ⟨c,h⟩
  ·rcases List.mem_cons.mp h with e | e
   ·cases e
    exact .inr ⟨_,by simp; rfl⟩
   ·exact .inl e
  ·refine .inr ?_
   by_cases hk:(k == NameKind.free)=true
   ·rw[if_pos hk,List.lookup_cons]
    cases (x == n)
    ·exact⟨c,h⟩
    ·exact⟨_,rfl⟩
   ·rw[if_neg hk]
    exact⟨c,h⟩
section
variable {prog:Program}{w:World}{A:Around}{s:Shared}{R:Result->Shared->Prop}
theorem B7{elt target iter:Expr}{ifs:List Expr}{scope:Scope}{pos:Pos}{it acc:Value}{env:Env}(I:Nat->Shared->Prop)
 (turn : ∀ n s,I n s->wpAny (model prog w) A (pyNext it) (λr s₁=>match r with
   | none=>R (.ok .next) s₁
   | some v=>wpAny (model prog w) A (letOwnedTupleGo target it v) (λ_ s₁'=>wpAny (model prog w) A (assign target env v) (λ_ s₂ =>
    wpAny (model prog w) A (forIn ifs true λc r=>if r=true then do let ok <- isTrue c env (eval c env); pure (ForInStep.yield ok) else pure (ForInStep.yield r)) (λok s₃ =>
     if ok=true then wpAny (model prog w) A (eval elt env) (λx s₄ =>
      wpAny (model prog w) A (call (.builtin "list.append") [acc,x]) (λ_ s₅=>∃ m,m < n/\I m s₅) (λ_ _=>False) s₄) (λ_ _=>False) s₃
     else ∃ m,m < n/\I m s₃) (λ_ _=>False) s₂) (λ_ _=>False) s₁') (λ_ _=>False) s₁) (λ_ _=>False) s)
 (n:Nat) (h:I n s) :
 codeAny (model prog w) A (.compLoop (.ListComp elt [⟨target,iter,ifs,0⟩] scope pos) 0 it acc env) R s:=by
 refine codeAny_loop rfl I (λn s hI=>?_) n h
 show wpAny _ A ((compTurn (.ListComp elt [⟨target,iter,ifs,0⟩] scope pos) 0 it acc env).onRaise (λx=>do noteFrame x env; theTreesLotGoes x)) _ _ s
 refine wpAny_noted ?_
 rw[compTurn_list]
 refine wpAny_bind (wpAny_standAt (wpAny_bind (wpAny_mono (turn n s hI) (λr s₁ h₁=>?_) λ_ _ h'=>h'.elim)))
 cases r with
 | none=>exact wpAny_pure h₁
 | some v =>
  refine wpAny_bind (wpAny_mono h₁ (λ_ s₁' h₁'=>?_) λ_ _ h'=>h'.elim)
  refine wpAny_bind (wpAny_mono h₁' (λ_ s₂ h₂=>wpAny_bind (wpAny_mono h₂ (λok s₃ h₃=>?_) λ_ _ h'=>h'.elim)) λ_ _ h'=>h'.elim)
  cases ok with
  | false=>exact wpAny_pure ⟨rfl,h₃⟩
  | true =>
   exact wpAny_bind (wpAny_bind (wpAny_mono h₃ (λx s₄ h₄=>wpAny_bind (wpAny_mono h₄ (λ_ s₅ h₅=>wpAny_pure (wpAny_pure ⟨rfl,h₅⟩)) λ_ _ h'=>h'.elim)) λ_ _ h'=>h'.elim))
end
def bF(X:Cx)(Nc:List Str)(scope:Scope)(C:Addr)(s:Shared)(H:Hp)(fp:List Addr):Cx where
 prog:=X.prog
 w:=X.w
 K:=X.K
 mg:=X.mg
 base:=X.base
 A:=X.A
 N:=Nc
 s₀:=s
 H₀:=H
 env:=compEnvC scope (c6 X.env.cells scope.names []) C X.env
 outer:=X.stack
 stack:=X.stack
 ex:=fp
 fn:=λ_=>false
 calm:=X.calm
 pn:=X.pn
 xe:=λ_ _=>False
def iu(X:Cx)(ifs:List Expr)(t:TT):Prop :=
 ∀ (pins:List (Addr × Obj)) (s:Shared) (σ:St) (H:Hp) (Q:Bool->Hp->Prop),ad X pins σ H s->t σ H Q ->
  wpAny (model X.prog X.w) X.A (forIn ifs true λc r=>if r=true then do let ok <- isTrue c X.env (eval c X.env); pure (ForInStep.yield ok) else pure (ForInStep.yield r)) (TP X pins σ Q) X.xe s
def dN:TT:=λ_ H Q=>Q true H
theorem xF{X:Cx}:iu X [] dN:=λ_ _ _ H _ I h=>wpAny_tests_nil ⟨H,I,h⟩
theorem xE{X:Cx}{c:Expr}{t:TT}(h:PT X c t):iu X [c] t:=λpins s σ H Q I q=>wpAny_tests_one (h pins s σ H Q I q)
theorem aN.adopt{P:Program}{w:World}{H:Hp}{h:Heap}{a:Addr}{o:HO}(x:aN P w H h)(hn:H a=none)(new:aL P w (upd H a o) h a o):aN P w (upd H a o) h:=λb u e=>by
 by_cases hb:b=a
 ·subst hb; rw[aR]at e; cases e; exact new
 ·rw[ai hb]at e
  exact (x b u e).stay (λc v _ q=>q) (λc q=>by rw[ai (bi q hn)]; exact q) λc xs q=>by rw[ai (bi q hn)]; exact q
def eV(J:It)(H1:Hp)(σ0:St)(g:TG)(tt:TT)(te:TE)(Q:VK):Prop:=∃ W:Nat->Nat->List V->St->Hp->Prop,
 (∃ m,W 0 m [] σ0 H1)/\∀ i m ys σ1 H2,W i m ys σ1 H2 ->
   (J.stop i H2/\ys.length<=sizeLine/\∀ p H',aO H2 p (.lst ys) H'->Q (.ref p) H') \/
   (J.go i H2/\ys.length < sizeLine/\∃ Nx:List V->St->Hp->Prop,(∀ ys' σ' H',Nx ys' σ' H'->∃ m',m' < m/\W (i+1) m' ys' σ' H') /\
     ∀ x H',J.yld i H2 x H'->g x σ1 H' λσ2 H3=>tt σ2 H3 λb H4=>if b=true then te σ2 H4 λy H5=>Nx (ys++[y]) σ2 H5 else Nx ys σ2 H4)
def je(nv:Nat)(caps:List Nat)(wi:TI)(g:TG)(tt:TT)(te:TE):TE:=λσ H Q=>wi σ H λJ H1=>eV J H1 (List.replicate nv none++caps.map λj=>(σ[j]?).join) g tt te Q
structure bQ (X:Cx) (Nc:List Str) (nv:Nat) (caps:List Nat) (scope:Scope):Prop where
 kind:scope.kind=.function
 nocell : ∀ y∈scope.names,y.2 ≠ .cell
 names : ∀ y∈scope.names,y.2=.local->scope.names.lookup y.1=some .local
 free : ∀ n,(n,NameKind.free)∈scope.names->X.env.kindOf n=some .cell\/X.env.kindOf n=some .free
 len:Nc.length=nv+caps.length
 cap : ∀ k j,caps[k]? = some j->∃ x,Nc[nv+k]? = some x/\X.N[j]? = some x/\scope.names.lookup x=some .free
def tm(fns:List (Str × NameKind))(N Nc:List Str)(nv:Nat)(caps:List Nat)(sc:Scope):Bool :=
 (sc.kind == .function) && (sc.names.all λy=>!(y.2 == .cell)) && (sc.names.all λy=>!(y.2 == .local) || sc.names.lookup y.1 == some .local) &&
 (sc.names.all λy=>!(y.2 == .free) || (fns.lookup y.1 == some .cell || fns.lookup y.1 == some .free)) && (Nc.length == nv+caps.length) &&
 ((List.range caps.length).all λk=>match caps[k]?,Nc[nv+k]? with
   | some j,some x=>N[j]? == some x && sc.names.lookup x == some .free
   | _,_=>false)
theorem bQ.of{X:Cx}{fns:List (Str × NameKind)}{N Nc:List Str}{nv:Nat}{caps:List Nat}{sc:Scope}(hf:X.env.scope.names=fns)(hN:X.N=N)(h:tm fns N Nc nv caps sc=true):bQ X Nc nv caps sc:=by
 unfold tm at h
 simp only [Bool.and_eq_true]at h
 obtain⟨⟨⟨⟨⟨h1,h2⟩,h3⟩,h4⟩,h5⟩,h6⟩:=h
 refine⟨by simpa using h1,λy hy e=>?_,λy hy e=>?_,λn hn=>?_,by simpa using h5,λk j e=>?_⟩
 ·have:=List.all_eq_true.mp h2 y hy
  rw[e]at this
  simp at this
 ·have:=List.all_eq_true.mp h3 y hy
  rw[e]at this
  simpa using this
 ·have:=List.all_eq_true.mp h4 _ hn
  show X.env.scope.names.lookup n=some .cell\/X.env.scope.names.lookup n=some .free
  rw[hf]
  simpa using this
 ·have hk:k < caps.length:=(List.getElem?_eq_some_iff.mp e).1
  have:=List.all_eq_true.mp h6 k (List.mem_range.mpr hk)
  rw[e]at this
  cases ex:Nc[nv+k]? with
  | none=>rw[ex]at this; simp at this
  | some x =>
   rw[ex]at this
   simp only [Bool.and_eq_true]at this
   exact⟨x,rfl,by rw[hN]; simpa using this.1,by simpa using this.2⟩
theorem jD{env:Env} : ∀ {names:List (Str × NameKind)} {x:Str} {k:NameKind},
 (names.map λ(n,k)=>if (k == NameKind.free && env.scope.kind == .function && env.kindOf n == some .cell) then (n,NameKind.cell) else (n,k)).lookup x=some k ->
 ∃ k0,names.lookup x=some k0/\(k=k0\/(k0=.free/\k=.cell))
 | [],_,_,h=>by simp at h
 | (n,k0) :: r,x,k,h=>by
  have h':List.lookup x ((if (k0 == NameKind.free && env.scope.kind == .function && env.kindOf n == some .cell)=true then (n,NameKind.cell) else (n,k0)) ::
   r.map λ(n,k)=>if (k == NameKind.free && env.scope.kind == .function && env.kindOf n == some .cell) then (n,NameKind.cell) else (n,k))=some k:=h
  cases hx:x == n with
  | true =>
   refine⟨k0,by simp[List.lookup_cons,hx],?_⟩
   by_cases hc:(k0 == NameKind.free && env.scope.kind == .function && env.kindOf n == some .cell)=true
   ·rw[if_pos hc,List.lookup_cons,hx]at h'
    have:NameKind.cell=k:=Option.some.inj h'
    refine .inr ⟨?_,this.symm⟩
    rw[Bool.and_eq_true,Bool.and_eq_true]at hc
    simpa using hc.1.1
   ·rw[if_neg hc,List.lookup_cons,hx]at h'
    exact .inl (Option.some.inj h').symm
  | false =>
   have h2:(r.map λ(n,k)=>if (k == NameKind.free && env.scope.kind == .function && env.kindOf n == some .cell) then (n,NameKind.cell) else (n,k)).lookup x=some k:=by
    by_cases hc:(k0 == NameKind.free && env.scope.kind == .function && env.kindOf n == some .cell)=true
    ·rw[if_pos hc,List.lookup_cons,hx]at h'
     exact h'
    ·rw[if_neg hc,List.lookup_cons,hx]at h'
     exact h'
   obtain⟨k1,h3,h4⟩:=jD h2
   exact⟨k1,by simp[List.lookup_cons,hx,h3],h4⟩
theorem fy{a b n:Addr}(h:a < n)(h':n<=b):a≠b:=Nat.ne_of_lt (Nat.lt_of_lt_of_le h h')
theorem iR{α β:Type}[BEq α][LawfulBEq α] : ∀ {l:List (α × β)} {x:α} {k:β},l.lookup x=some k->(x,k)∈l
 | [],_,_,h=>by simp at h
 | (n,k0) :: r,x,k,h=>by
  cases hx:x == n with
  | true =>
   simp only [List.lookup_cons,hx]at h
   cases h
   have e:x=n:=by simpa using hx
   subst e
   exact List.mem_cons_self
  | false =>
   simp only [List.lookup_cons,hx]at h
   exact List.mem_cons_of_mem _ (iR h)
section
variable {X:Cx}{elt tg iter:Expr}{ifs:List Expr}{scope:Scope}{Nc:List Str}{nv:Nat}{caps:List Nat}
theorem Ag{pins:List (Addr × Obj)}{σ:St}{H:Hp}{s:Shared}{fp:List Addr}{h₁:Heap}{tk:Nat}{D C:Addr}{m:Str->Option Value}(S:bQ X Nc nv caps scope)(I:ad X pins σ H s)
 (hf : ∀ b∈fp,db X pins H b) (hfl : ∀ b∈fp,b < s.heap.objs.size) (hD:s.heap.objs.size<=D) (hC:s.heap.objs.size<=C) (hDC:D≠C) (hn:h₁.Ns C m) {oD:Obj} (hDo:h₁.get? D=some oD) (hDd : ∀ v,oD.data ≠ .cell v) (old : ∀ b o,s.heap.get? b=some o->h₁.get? b=some o) :
 ad (bF X Nc scope C s H fp) (pins++[(D,oD)]) (List.replicate nv none++caps.map λj=>(σ[j]?).join) H { s with heap:=h₁,toks:=tk }:=by
 have hcells : ∀ n,(n,NameKind.free)∈scope.names->∃ c,X.env.cells.lookup n=some c:=λn hm=>I.ok.has n (S.free n hm)
 have clX : ∀ x c,(c6 X.env.cells scope.names []).lookup x=some c->(x,NameKind.free)∈scope.names/\X.env.cells.lookup x=some c:=λx c e=>by
  rcases na _ _ _ _ e hcells with h | h
  ·exact h
  ·simp at h
 have frm : ∀ b∈cb X.stack,b < s.heap.objs.size:=λb hb=>by
  obtain⟨_,o,ho,_⟩:=I.stack.mem hb
  exact Heap.lt_size ho
 have cellLt : ∀ x c,X.env.cells.lookup x=some c->c < s.heap.objs.size:=λx c e=>by
  obtain⟨v,q⟩:=I.cell x c e
  exact q.lt
 refine⟨⟨I.ok.mod,S.kind,I.ok.glob,I.ok.blt,hC,λx y c e1 e2=>I.ok.inj x y c (clX x c e1).2 (clX y c e2).2,λx hx=>?_,λx c z=>absurd z (by show ¬ (false=true); decide),I.ok.hd,I.ok.frames,.inl rfl,λb hb=>⟨?_,λx c e z=>?_⟩,λb o e=>I.bs b o e,Nat.le_trans I.ok.bsz I.sz,λb o e hb=>?_,λb hb z=>?_,I.stack,I.stkFree⟩,
  rfl,I.bare,Un.kept old,⟨m,hn,λi x v h1 h2 h3=>?_⟩,λx c e=>?_,I.hok.fresh hC,λx c e=>I.freeC x c (clX x c e).2,λp hp=>?_,I.hok.kept old,?_⟩
 ·-- a cell or free name of the block has its cell
  have hx':(relabel scope X.env).names.lookup x=some .cell\/(relabel scope X.env).names.lookup x=some .free:=hx
  have hm:(x,NameKind.free)∈scope.names:=by
   rcases hx' with hx' | hx'
   ·obtain⟨k0,e,z⟩:=jD hx'
    rcases z with z | ⟨z,_⟩
    ·subst z; exact absurd rfl (S.nocell _ (iR e))
    ·subst z; exact iR e
   ·obtain⟨k0,e,z⟩:=jD hx'
    rcases z with z | ⟨_,z⟩
    ·subst z; exact iR e
    ·cases z
  exact nh _ _ _ (.inl hm)
 ·exact Nat.ne_of_lt (Nat.lt_of_lt_of_le (hfl b hb) hC)
 ·exact (hf b hb).2.2.2.2.1 x c (clX x c e).2 z
 ·have hx:=(hf b hb).2.2.2.1
  rcases hx with z | z
  ·exact I.ok.noex b o e z
  ·exact absurd (Nat.lt_of_lt_of_le (Nat.lt_of_lt_of_le (Heap.lt_size e) I.ok.bsz) z) (Nat.lt_irrefl _)
 ·rcases List.mem_cons.mp (I.stkSub b z) with q | q
  ·exact (hf b hb).2.1 q
  ·exact (hf b hb).2.2.1 q
 ·-- the names' values
  have hi:nv<=i:=by
   refine Nat.le_of_not_lt λhlt=>?_
   rw[List.getElem?_append_left (by simpa using hlt),List.getElem?_replicate,if_pos hlt]at h2
   cases h2
  obtain⟨k,rfl⟩:=Nat.le.dest hi
  rw[List.getElem?_append_right (by simp)]at h2
  simp only [List.length_replicate,Nat.add_sub_cancel_left,List.getElem?_map]at h2
  cases ek:caps[k]? with
  | none=>rw[ek]at h2; cases h2
  | some j =>
   rw[ek]at h2
   have h2':(σ[j]?).join=some v:=Option.some.inj h2
   have hσ:σ[j]? = some (some v):=by
    cases e:σ[j]? with
    | none=>rw[e]at h2'; cases h2'
    | some z=>rw[e]at h2'; cases z with
     | none=>cases h2'
     | some z=>have:z=v:=Option.some.inj h2'; rw[this]
   obtain⟨y,e1,e2,e3⟩:=S.cap k j ek
   have h1':Nc[nv+k]? = some x:=h1
   rw[e1]at h1'
   cases h1'
   have hm:=iR e3
   have hk:=S.free x hm
   obtain⟨m0,hn0,hl⟩:=I.loc
   obtain⟨u,ru,lk⟩:=hl j x v e2 hσ (by
    rcases hk with z | z
    ·exact .inr (.inl z)
    ·exact .inr (.inr z))
   refine⟨u,ru,?_⟩
   rcases lk with ⟨z,_⟩ | ⟨_,c,hc,hcell⟩
   ·rcases hk with z' | z' <;> rw[z]at z' <;> cases z'
   ·refine .inr ⟨?_,c,?_,hcell.keeps old⟩
    ·rcases h3 with z | z | z
     ·exfalso
      obtain⟨k0,e,z'⟩:=jD (show (relabel scope X.env).names.lookup x=some .local from z)
      rw[e3]at e
      cases e
      rcases z' with z' | ⟨_,z'⟩ <;> cases z'
     ·exact .inl z
     ·exact .inr z
    ·obtain⟨c',hc'⟩:=nh (cells:=X.env.cells) scope.names [] x (.inl hm)
     rw[(clX x c' hc').2]at hc
     cases hc
     exact hc'
 ·obtain⟨v,z⟩:=I.cell x c (clX x c e).2
  exact⟨v,z.keeps old⟩
 ·-- pins
  have hp':p∈X.pn++(pins++[(D,oD)]):=hp
  rw[<- List.append_assoc]at hp'
  rcases List.mem_append.mp hp' with z | z
  ·obtain⟨e,n,ne,nf,d⟩:=I.pin p z
   have hlt:=Heap.lt_size e
   refine⟨old _ _ e,n,Nat.ne_of_lt (Nat.lt_of_lt_of_le hlt hC),λq=>?_,d⟩
   rcases List.mem_cons.mp (I.stkSub p.1 q) with q | q
   ·exact ne q
   ·exact nf q
  ·have e:p=(D,oD):=by simpa using z
   subst e
   exact⟨hDo,I.hok.fresh hD,hDC,λq=>absurd (Nat.lt_of_lt_of_le (frm _ q) hD) (Nat.lt_irrefl _),hDd⟩
 ·show (List.replicate nv none++caps.map λj=>(σ[j]?).join).length=Nc.length
  rw[List.length_append,List.length_replicate,List.length_map,S.len]
abbrev eL(its:List Value)(n:Nat):Obj:={ cls:=.type "list",data:=.seq its.toArray n }
theorem rp(its:List Value)(n:Nat) : ∀ v,(eL its n).data ≠ .cell v:=λv z=>by
 have z':Data.seq its.toArray n=Data.cell v:=z
 cases z'
theorem tj{g:TG}{tt:TT}{te:TE}{pos:Pos}{pins:List (Addr × Obj)}{σ:St}{H:Hp}{s:Shared}{Q:VK}{E:Value->Shared->Prop}{RR:Value->Addr->Result->Shared->Prop}(hc:X.calm=true)(S:bQ X Nc nv caps scope)
 (hg : ∀ C s H fp,PG (bF X Nc scope C s H fp) tg g) (ht : ∀ C s H fp,iu (bF X Nc scope C s H fp) ifs tt) (he : ∀ C s H fp,PE (bF X Nc scope C s H fp) elt te)
 {it:Addr} {fp:List Addr} {tn:Nat->Heap->Prop} {J:It} (I:ad X pins σ H s) (T:dw X.prog X.w X.K tg J fp it tn) (st:tn 0 s.heap) (hf : ∀ b∈fp,db X pins H b)
 {W:Nat->Nat->List V->St->Hp->Prop} {m0:Nat} (w0:W 0 m0 [] (List.replicate nv none++caps.map λj=>(σ[j]?).join) H)
 (turn : ∀ i m ys σ1 H2,W i m ys σ1 H2->(J.stop i H2/\ys.length<=sizeLine/\∀ p H',aO H2 p (.lst ys) H'->Q (.ref p) H') \/
   (J.go i H2/\ys.length < sizeLine/\∃ Nx:List V->St->Hp->Prop,(∀ ys' σ' H',Nx ys' σ' H'->∃ m',m' < m/\W (i+1) m' ys' σ' H') /\
     ∀ x H',J.yld i H2 x H'->g x σ1 H' λσ2 H3=>tt σ2 H3 λb H4=>if b=true then te σ2 H4 λy H5=>Nx (ys++[y]) σ2 H5 else Nx ys σ2 H4))
 (hRR : ∀ (D C:Addr) (s1:Shared) (H':Hp),ad X pins σ H' s1->db X pins H' C->(∃ m,s1.heap.Ns C m)->Q (.ref D) H'->RR (.ref D) C (.ok .next) s1) :
 wpAny (model X.prog X.w) X.A (newList []) (λacc s₃=>wpAny (model X.prog X.w) X.A (newFunctionEnv scope X.env.globals (c6 X.env.cells scope.names []) [] X.env.qual none .none (some X.env)) (λcenv s₄ =>
  codeAny (model X.prog X.w) X.A (.compStart (.ListComp elt [⟨tg,iter,ifs,0⟩] scope pos) 0 (.ref it) acc { cenv with scope:=relabel scope X.env }) (RR acc cenv.locals) s₄) E s₃) E s:=by
 refine wpAny_newObj_type (wpAny_newFunctionEnv S.nocell (by intro y hy; simp at hy) (λh₁ hns₁ hsb₁=>?_) S.kind)
 dsimp only at hns₁ hsb₁ ⊢
 generalize hH2:s.heap.push { cls:=.type "list",dict:=none,data:=.seq ([]:List Value).toArray }=h2 at hns₁ hsb₁ ⊢
 have hC:h2.objs.size=s.heap.objs.size+1:=by rw[<- hH2,Heap.size_push]
 have hDC:s.heap.objs.size≠h2.objs.size:=by rw[hC]; exact Nat.ne_of_lt (Nat.lt_succ_self _)
 have hCle:s.heap.objs.size<=h2.objs.size:=by rw[hC]; exact Nat.le_succ _
 have old : ∀ b o,s.heap.get? b=some o->h₁.get? b=some o:=λb o e=>hsb₁.extBut b o (Nat.ne_of_lt (Nat.lt_of_lt_of_le (Heap.lt_size e) hCle)) (Heap.get?_push_of_some _ (hH2 ▸ Heap.get?_push_of_some _ e))
 have hacc:h₁.get? s.heap.objs.size=some (eL [] 0):=hsb₁.extBut _ _ hDC (Heap.get?_push_of_some _ (hH2 ▸ Heap.get?_push_size _ rfl))
 have hfl : ∀ b∈fp,b < s.heap.objs.size:=λb hb=>by
  obtain⟨o,ho,_⟩:=T.obj _ _ st b hb
  exact Heap.lt_size ho
 have frm : ∀ b∈cb X.stack,b < s.heap.objs.size:=λb hb=>by
  obtain⟨_,o,ho,_⟩:=I.stack.mem hb
  exact Heap.lt_size ho
 have cellLt : ∀ x c,X.env.cells.lookup x=some c->c < s.heap.objs.size:=λx c e=>by
  obtain⟨v,q⟩:=I.cell x c e
  exact q.lt
 have hcells : ∀ n,(n,NameKind.free)∈scope.names->∃ c,X.env.cells.lookup n=some c:=λn hm=>I.ok.has n (S.free n hm)
 have clX : ∀ x c,(c6 X.env.cells scope.names []).lookup x=some c->X.env.cells.lookup x=some c:=λx c e=>by
  rcases na _ _ _ _ e hcells with h | h
  ·exact h.2
  ·simp at h
 have pinLt : ∀ p∈X.pn++pins,p.1 < s.heap.objs.size:=λp hp=>Heap.lt_size (I.pin p hp).1
 generalize hDD:s.heap.objs.size=D at hacc hDC ⊢
 generalize hCC:h2.objs.size=C at hDC hCle hns₁ hsb₁ ⊢
 have leD:s.heap.objs.size<=D:=Nat.le_of_eq hDD
 have leC:s.heap.objs.size<=C:=by omega
 have fpc : ∀ {H1:Hp} (o:Obj),(∀ b∈fp,H1 b=none)->∀ b∈fp,db (bF X Nc scope C s H fp) (pins++[(D,o)]) H1 b:=λ{H1} o hn b hb=>by
  refine⟨hn b hb,Nat.ne_of_lt (Nat.lt_of_lt_of_le (hfl b hb) leC),λz=>?_,.inl hb,λx c e z=>(hf b hb).2.2.2.2.1 x c (clX x c e) z,λp hp=>?_⟩
  ·rcases List.mem_cons.mp (I.stkSub b z) with q | q
   ·exact (hf b hb).2.1 q
   ·exact (hf b hb).2.2.1 q
  ·have hp':p∈X.pn++(pins++[(D,o)]):=hp
   rw[<- List.append_assoc]at hp'
   rcases List.mem_append.mp hp' with z | z
   ·exact (hf b hb).2.2.2.2.2 p z
   ·have e:p=(D,o):=by simpa using z
    subst e
    exact λq=>fy (hfl b hb) leD q.symm
 have loop : ∀ s₃:Shared,s₃ = { s with heap:=h₁,toks:=s.toks+([]:List (Str × Value)).length } ->
  codeAny (model X.prog X.w) X.A (.compLoop (.ListComp elt [⟨tg,iter,ifs,0⟩] scope pos) 0 (.ref it) (.ref D) (compEnvC scope (c6 X.env.cells scope.names []) C X.env)) (RR (.ref D) C) s₃:=by
  rintro s₃ rfl
  refine B7 (λn s'=>∃ (i:Nat) (ys:List V) (its:List Value) (nn:Nat) (σ1:St) (H1:Hp),ad (bF X Nc scope C s H fp) (pins++[(D,eL its nn)]) σ1 H1 s'/\tn i s'.heap/\(∀ b∈fp,H1 b=none)/\ar ys its/\W i n ys σ1 H1) ?_ m0
   ⟨0,[],[],0,_,H,Ag S I hf hfl leD leC hDC hns₁ hacc (rp _ _) old,T.keep _ _ _ st λb _ o e=>old b o e,λb hb=>(hf b hb).1,.nil,w0⟩
  rintro n s' ⟨i,ys,its,nn,σ1,H1,I1,st1,fr1,rv,w1⟩
  have pinD : ∀ {σ':St} {H':Hp} {s'':Shared} {pl:List (Addr × Obj)},ad (bF X Nc scope C s H fp) ((pins++[(D,eL its nn)])++pl) σ' H' s''->s''.heap.get? D=some (eL its nn)/\H' D=none:=λ{σ' H' s'' pl} I'=>by
   have z:=I'.pin (D,eL its nn) (List.mem_append_right _ (List.mem_append_left _ (List.mem_append_right _ (by simp))))
   exact⟨z.1,z.2.1⟩
  rcases turn i n ys σ1 H1 w1 with ⟨stop,hz,q⟩ | ⟨go,hz,Nx,hNx,step⟩
  ·refine aj (T.done (bF X Nc scope C s H fp) rfl rfl rfl hc i _ s' σ1 H1 _ I1 (fpc _ fr1) st1 stop) λr s4 ⟨hr,I4⟩=>?_
   subst hr
   obtain⟨eD,nD⟩:=pinD (pl:=[]) (by rw[List.append_nil]; exact I4)
   obtain⟨m,hnC,_⟩:=I4.loc
   have u4:Un (cb X.stack) fp H H1 s.heap s4.heap:=I4.base
   have dNone:s.heap.get? D=none:=Heap.get?_none_of_le (Nat.le_of_eq hDD)
   have noD : ∀ b o,s.heap.get? b=some o->b≠D:=λb o e z=>by rw[z,dNone]at e; cases e
   have u5:Un (cb X.stack) fp H (upd H1 D (.lst ys)) s.heap s4.heap:=by
    refine⟨u4.keep,u4.slot,λb o e n hx=>?_,u4.there,λb xs e=>?_,λb o u e=>?_,λb ps e=>?_⟩
    ·rw[ai (noD b o e)]
     exact u4.free b o e n hx
    ·have z:=u4.tups b xs e
     rw[ai (bi z nD)]
     exact z
    ·have z:=u4.frzs b o u e
     rw[ai (bi z nD)]
     exact z
    ·obtain⟨more,z⟩:=u4.tbls b ps e
     exact⟨more,by rw[ai (bi z nD)]; exact z⟩
   have hok:aN X.prog X.w (upd H1 D (.lst ys)) s4.heap:=aN.adopt I4.hok nD ⟨hz,its,nn,rv,eD⟩
   have IX:ad X pins σ (upd H1 D (.lst ys)) s4:=I.call' I4.os u5 hok I4.bare λb hb=>⟨(hf b hb).2.2.2.1,(hf b hb).2.1,(hf b hb).2.2.2.2.1,(hf b hb).2.2.2.2.2⟩
   have fpC:db X pins (upd H1 D (.lst ys)) C:=by
    have hl:X.env.locals < s.heap.objs.size:=I.lt
    exact⟨by rw[ai (Ne.symm hDC)]; exact I4.free,(fy hl leC).symm,I.nofs leC,.inr (Nat.le_trans I.sz leC),λx c e z=>fy (cellLt x c e) leC z,λp hp z=>fy (pinLt p hp) leC z⟩
   exact hRR D C s4 _ IX fpC ⟨m,hnC⟩ (q D _ (.mk' nD))
  ·refine aj (T.item (bF X Nc scope C s H fp) rfl rfl rfl hc i _ s' σ1 H1 _ I1 (fpc _ fr1) st1 go) λr s4 ⟨u,hr,h4⟩=>?_
   subst hr
   refine aj h4 λ_ s5 ⟨x,H5,I5,r5,y5,st5,fr5⟩=>?_
   have I5':=I5.pinned (fpc _ fr5) (T.obj _ _ st5)
   have back : ∀ {σ7:St} {H7:Hp} {s7:Shared},ad (bF X Nc scope C s H fp) ((pins++[(D,eL its nn)])++iQ fp s5.heap) σ7 H7 s7->tn (i+1) s7.heap/\∀ b∈fp,H7 b=none:=λ{σ7 H7 s7} I7=>by
    refine⟨T.keep _ _ _ st5 λb hb o e=>(I7.pin (b,o) (List.mem_append_right _ (List.mem_append_right _ (jA hb e)))).1,λb hb=>?_⟩
    obtain⟨o,e,d⟩:=T.obj _ _ st5 b hb
    exact (I7.pin (b,o) (List.mem_append_right _ (List.mem_append_right _ (jA hb e)))).2.1
   refine aj (hg _ _ _ _ _ s5 σ1 H5 x u _ I5' r5 (step x H5 y5)) λ_ s6 ⟨σ6,H6,I6,q6⟩=>?_
   refine aj (ht _ _ _ _ _ s6 σ6 H6 _ I6 q6) λb s7 ⟨H7,I7,q7⟩=>?_
   cases b with
   | false =>
    obtain⟨m',hm,w7⟩:=hNx _ _ _ q7
    obtain⟨t7,f7⟩:=back I7
    exact⟨m',hm,i+1,ys,its,nn,σ6,H7,I7.unpinned,t7,f7,rv,w7⟩
   | true =>
    refine aj (he _ _ _ _ _ s7 σ6 H7 _ I7 q7) λyv s8 ⟨y,H8,I8,r8,n8⟩=>?_
    obtain⟨m',hm,w8⟩:=hNx _ _ _ n8
    obtain⟨t8,f8⟩:=back I8
    obtain⟨eD,nD⟩:=pinD I8
    have hlen:=rv.length
    refine call_meets F.slot_list_append ⟨_,eD,rfl⟩ F.entry_list_append (F.args_list_append_2 _ _) (PySem.list_append D its.toArray nn yv (by rw[List.size_toArray]; omega)) ⟨eD,?_⟩
    have ea:its.toArray.push yv=(its++[yv]).toArray:=by simp
    obtain⟨n9,e9⟩ : ∃ n9,(s8.heap.update D (Obj.mapSeq (·.push yv))).get? D=some (eL (its++[yv]) n9):=⟨_,by
     have z:=PySem.IsL.update eD (·.push yv)
     rw[ea]at z
     exact z⟩
    have keep9 : ∀ b o,b≠D->s8.heap.get? b=some o->(s8.heap.update D (Obj.mapSeq (·.push yv))).get? b=some o:=λb o hb e=>(Heap.get?_update_other _ _ (Ne.symm hb)).trans e
    have nfp : ∀ b∈fp,b≠D:=λb hb z=>fy (hfl b hb) leD z
    have I8u:ad (bF X Nc scope C s H fp) pins σ6 H8 s8:=I8.pins_of λp hp=>I8.pin p (List.mem_append_right _ (List.mem_append_left _ (List.mem_append_left _ hp)))
    have I9:=I8u.turned (t':=s8.toks) (it:=D) keep9 nD hDC (.inr leD) (λx c e z=>fy (cellLt x c (clX x c e)) leD z) (λp hp z=>fy (pinLt p hp) leD z)
    have t9:tn (i+1) (s8.heap.update D (Obj.mapSeq (·.push yv))):=T.keep _ _ _ t8 λb hb o e=>keep9 b o (nfp b hb) e
    refine⟨m',hm,i+1,ys++[y],its++[yv],n9,σ6,H8,I9.pins_of λp hp=>?_,t9,f8,rv.append (.cons r8 .nil),w8⟩
    rcases List.mem_append.mp hp with z | z
    ·exact I9.pin p (List.mem_append_right _ z)
    ·have e:p=(D,eL (its++[yv]) n9):=by simpa using z
     subst e
     exact⟨e9,nD,hDC,λq=>fy (frm _ q) leD rfl,rp _ _⟩
 have st':=λ(s₃:Shared) (e:s₃ = { s with heap:=h₁,toks:=s.toks+([]:List (Str × Value)).length })=>loop s₃ e
 exact codeAny_compStart_list (loop _ rfl) (T.self _ 0 _ _ _ (T.keep _ _ _ st λb _ o e=>old b o e) (loop _ rfl))
theorem yI{wi:TI}{g:TG}{tt:TT}{te:TE}{pos:Pos}(hc:X.calm=true)(S:bQ X Nc nv caps scope)(hi:PI X tg iter wi)
 (hg : ∀ C s H fp,PG (bF X Nc scope C s H fp) tg g) (ht : ∀ C s H fp,iu (bF X Nc scope C s H fp) ifs tt) (he : ∀ C s H fp,PE (bF X Nc scope C s H fp) elt te)
 (hs : ∀ x,foldedSetIterable iter X.env x=pure x:=by intro _; rfl):PE X (.ListComp elt [⟨tg,iter,ifs,0⟩] scope pos) (je nv caps wi g tt te):=by
 intro pins s σ H Q I h
 rw[eval_ListComp]
 have hcells : ∀ n,(n,NameKind.free)∈scope.names->∃ c,X.env.cells.lookup n=some c:=λn hm=>I.ok.has n (S.free n hm)
 refine wpAny_comprehension_free (use:=none) rfl hs (tp hcells) S.kind S.names (aj (hi pins s σ H _ I h) λv s1 h1=>aj h1 λitv s2 h2=>?_)
 obtain⟨it,fp,tn,J,H2,rfl,I2,T,st2,f2,W,⟨m0,w0⟩,turn⟩:=h2
 refine tj (RR:=λacc C=>compPost (model X.prog X.w) X.A X.xe none (EP X pins σ Q) acc C) hc S hg ht he I2 T st2 f2 w0 turn λD C s4 H4 I4 fC hn q=>?_
 obtain⟨m,hn⟩:=hn
 refine⟨m,hn,λh' sb=>?_⟩
 obtain⟨f0,f1,f2',f3,f4,f5⟩:=fC
 exact⟨.ref D,H4,I4.turned (t':=s4.toks) (it:=C) (λb o hb e=>sb.extBut b o hb e) f0 f1 f3 f4 f5,rfl,q⟩
theorem xQ{wi:TI}{g:TG}{tt:TT}{te:TE}{pos spos py:Pos}{i:Nat}{y:Str}(hN:X.N.Nodup)(hy:X.N[i]? = some y)(hx:fE X.env.scope y)(hc:X.calm=true)(S:bQ X Nc nv caps scope)(hi:PI X tg iter wi)
 (hg : ∀ C s H fp,PG (bF X Nc scope C s H fp) tg g) (ht : ∀ C s H fp,iu (bF X Nc scope C s H fp) ifs tt) (he : ∀ C s H fp,PE (bF X Nc scope C s H fp) elt te)
 (hsw:swapsWith (.ListComp elt [⟨tg,iter,ifs,0⟩] scope pos) (some (.Name y py)) spos.line X.env=pure true:=by rfl)
 (hs : ∀ x,foldedSetIterable iter X.env x=pure x:=by intro _; rfl) (hf:X.fn y=true\/X.env.scope.names.lookup y=some .local:=by first | exact .inl rfl | exact .inr rfl | assumption) :
 PS X (.Assign [.Name y py] (.ListComp elt [⟨tg,iter,ifs,0⟩] scope pos) spos) (gy (je nv caps wi g tt te) (bD i)):=by
 intro pins s σ H D0 I h
 have hcells : ∀ n,(n,NameKind.free)∈scope.names->∃ c,X.env.cells.lookup n=some c:=λn hm=>I.ok.has n (S.free n hm)
 rw[exec_Assign_Name_used _ _ _ _ hsw]
 refine wpAny_bind (wpAny_standAt (wpAny_bind ?_))
 show wpAny _ X.A (do let _ <- comprehension (.ListComp elt [⟨tg,iter,ifs,0⟩] scope pos) scope X.env _ (newList []) false (eval iter X.env) (some (assign (.Name y py) X.env))) _ _ s
 refine wpAny_bind (wpAny_mono (wpAny_comprehension_free (use:=some (assign (.Name y py) X.env)) (Q:=λ_ s'=>SP X pins D0 .next s') rfl hs (tp hcells) S.kind S.names
  (aj (hi pins s σ H _ I h) λv s1 h1=>aj h1 λitv s2 h2=>?_)) (λ_ s' hq=>wpAny_pure (wpAny_pure hq)) λ_ _ e=>e)
 obtain⟨it,fp,tn,J,H2,rfl,I2,T,st2,f2,W,⟨m0,w0⟩,turn⟩:=h2
 refine tj (RR:=λacc C=>compPost (model X.prog X.w) X.A X.xe (some (assign (.Name y py) X.env)) (λ_ s'=>SP X pins D0 .next s') acc C) (Q:=λx H1=>bD i x σ H1 D0.nx) hc S hg ht he I2 T st2 f2 w0 turn λD C s4 H4 I4 fC hn q=>?_
 obtain⟨m,hn⟩:=hn
 obtain⟨f0,f1,f2',f3,f4,f5⟩:=fC
 show wpAny _ X.A (assign (.Name y py) X.env (.ref D)) _ _ _
 refine wpAny_assign_Name (pJ I4 hN hy hx (show au (.ref D) (.ref D) from rfl) (λs5 I5 sb5=>?_) hf)
 obtain⟨a5,sb5,ha5⟩:=sb5
 have hCa:C≠a5:=by
  rcases ha5 with z | z
  ·rw[z]; exact f1
  ·exact λe=>f4 _ _ z e.symm
 refine⟨m,hn.sameBut sb5 hCa,λh' sb=>?_⟩
 exact⟨_,H4,I5.turned (t':=s5.toks) (it:=C) (λb o hb e=>sb.extBut b o hb e) f0 f1 f3 f4 f5,q⟩
end
theorem ti{K:W.Frag}{a:Addr}{xs:List V}{cs:St}{tt:TT}{te:TE}{H:Hp}{Q:VK}(Pv:Nat->List V->Hp->Prop)(h0:Pv 0 [] H)(hl : ∀ i ys H,i<=xs.length->Pv i ys H->ax K H a xs/\ys.length<=i)(hz:xs.length<=sizeLine)
 (hs : ∀ i x ys H (N:List V->Hp->Prop),xs[i]? = some x->Pv i ys H->(∀ ys' H',Pv (i+1) ys' H'->N ys' H')->tt (some x :: cs) H λb H4=>if b=true then te (some x :: cs) H4 λy H5=>N (ys++[y]) H5 else N ys H4)
 (hd : ∀ ys H p H',Pv xs.length ys H->aO H p (.lst ys) H'->Q (.ref p) H') :
 eV (gn K a) H (List.replicate 1 none++cs) (bD 0) tt te Q:=by
 refine⟨λi m ys σ H=>m=xs.length - i/\i<=xs.length/\Pv i ys H/\∃ v0,σ=v0 :: cs,⟨xs.length,by simp,Nat.zero_le _,h0,none,rfl⟩,?_⟩
 rintro i m ys σ H2 ⟨rfl,hi,p,v0,rfl⟩
 obtain⟨q,ql⟩:=hl i ys H2 hi p
 by_cases hlt:i < xs.length
 ·refine .inr ⟨⟨xs,xs[i],q,by simp[hlt]⟩,by omega,λys' σ' H'=>Pv (i+1) ys' H'/\∃ v0,σ'=v0 :: cs,λys' σ' H' ⟨p',e⟩=>⟨xs.length - (i+1),by omega,rfl,hlt,p',e⟩,λx H' y=>?_⟩
  obtain⟨e,y⟩:=y
  subst e
  exact hs i x ys H' (λys' H'=>Pv (i+1) ys' H'/\∃ v0,some x :: cs=v0 :: cs) (y xs q) p λ_ _ z=>⟨z,_,rfl⟩
 ·have e:i=xs.length:=by omega
  subst e
  exact .inl ⟨⟨xs,q,Nat.le_refl _⟩,by omega,λp' H' g=>hd ys H2 p' H' p g⟩
theorem B3{K:W.Frag}{a:Addr}{xs:List V}{cs:St}{tt:TT}{te:TE}{H:Hp}{Q:VK}(Pv:Nat->List V->Hp->Prop)(h0:Pv 0 [] H)(hl : ∀ i ys H,i<=xs.length->Pv i ys H->bu K H a xs/\ys.length<=i)(hz:xs.length<=sizeLine)
 (hs : ∀ i x ys H (N:List V->Hp->Prop),xs[i]? = some x->Pv i ys H->(∀ ys' H',Pv (i+1) ys' H'->N ys' H')->tt (some x :: cs) H λb H4=>if b=true then te (some x :: cs) H4 λy H5=>N (ys++[y]) H5 else N ys H4)
 (hd : ∀ ys H p H',Pv xs.length ys H->aO H p (.lst ys) H'->Q (.ref p) H') :
 eV (oC K a) H (List.replicate 1 none++cs) (bD 0) tt te Q:=by
 refine⟨λi m ys σ H=>m=xs.length - i/\i<=xs.length/\Pv i ys H/\∃ v0,σ=v0 :: cs,⟨xs.length,by simp,Nat.zero_le _,h0,none,rfl⟩,?_⟩
 rintro i m ys σ H2 ⟨rfl,hi,p,v0,rfl⟩
 obtain⟨q,ql⟩:=hl i ys H2 hi p
 by_cases hlt:i < xs.length
 ·refine .inr ⟨⟨xs,xs[i],q,by simp[hlt]⟩,by omega,λys' σ' H'=>Pv (i+1) ys' H'/\∃ v0,σ'=v0 :: cs,λys' σ' H' ⟨p',e⟩=>⟨xs.length - (i+1),by omega,rfl,hlt,p',e⟩,λx H' y=>?_⟩
  obtain⟨e,y⟩:=y
  subst e
  exact hs i x ys H' (λys' H'=>Pv (i+1) ys' H'/\∃ v0,some x :: cs=v0 :: cs) (y xs q) p λ_ _ z=>⟨z,_,rfl⟩
 ·have e:i=xs.length:=by omega
  subst e
  exact .inl ⟨⟨xs,q,Nat.le_refl _⟩,by omega,λp' H' g=>hd ys H2 p' H' p g⟩
def fu{α:Type}(xs:List α)(lo hi:Option Int):List α:=(xs.drop (HT.sIx xs.length 0 lo)).take (HT.sIx xs.length xs.length hi - HT.sIx xs.length 0 lo)
theorem BY{α β:Type}(f:α->β)(xs:List α)(lo hi:Option Int):fu (xs.map f) lo hi=(fu xs lo hi).map f:=by
 unfold fu
 rw[List.length_map,List.map_take,List.map_drop]
theorem tf{α:Type}(xs:List α)(k:Nat):fu xs none (some (k:Int))=xs.take k:=by
 unfold fu HT.sIx
 simp only [List.drop_zero,Nat.sub_zero]
 have h : ¬ ((k:Int) < 0):=by omega
 rw[if_neg h,Int.toNat_natCast,<- List.take_take,List.take_length]
theorem BZ{α:Type}(xs:List α)(k:Nat):fu xs (some (k:Int)) none=xs.drop k:=by
 unfold fu HT.sIx
 have h : ¬ ((k:Int) < 0):=by omega
 dsimp only
 rw[if_neg h,Int.toNat_natCast]
 by_cases hk:k<=xs.length
 ·rw[Nat.min_eq_left hk]
  exact List.take_of_length_le (by simp)
 ·rw[Nat.min_eq_right (by omega),List.drop_length,List.take_nil,List.drop_eq_nil_of_le (by omega)]
theorem sZ(ns:List Int)(lo hi:Option Int):cF (ns.map V.int) lo hi=(fu ns lo hi).map V.int:=BY _ _ _ _
theorem sC(ns ms:List Int):PyData.eqv (.list (ns.map PyData.int)) (.list (ms.map PyData.int))=decide (ns=ms):=by
 show PyData.eqvAll _ _=_
 exact W.ked_eqvAll ns ms
theorem fZ{K:W.Frag}{H:Hp}{a b:Addr}{ns ms:List Int}{neg:Bool}{Q:VK}(h1:ax K H a (ns.map V.int))(h2:ax K H b (ms.map V.int))(q:Q (.bl (if neg then !decide (ns=ms) else decide (ns=ms))) H) :
 fX K neg (.ref a) (.ref b) H Q:=by
 refine⟨_,_,aI.lst h1 (cu.ints ns),aI.lst h2 (cu.ints ms),W.ke_shaped_ints ns,W.ke_shaped_ints ms,?_⟩
 rw[sC]
 exact q
structure QE (X:Cx) (e:Expr) (t:TE):Prop where
 h:PE X e t
structure QT (X:Cx) (e:Expr) (t:TT):Prop where
 h:PT X e t
structure QW (X:Cx) (e:Expr) (t:TT):Prop where
 h:PW X e t
structure QA (X:Cx) (es:List Expr) (t:TA):Prop where
 h:PA X es t
structure QS (X:Cx) (st:Stmt) (t:TS):Prop where
 h:PS X st t
structure ej (X:Cx) (st:List Stmt) (t:TS):Prop where
 h:cN X st t
structure QG (X:Cx) (e:Expr) (t:TG):Prop where
 h:PG X e t
structure iX (X:Cx) (es:List Expr) (t:eh):Prop where
 h:iY X es t
structure QI (X:Cx) (tg e:Expr) (t:TI):Prop where
 h:PI X tg e t
structure QO (X:Cx) (e:Option Expr) (t:TO):Prop where
 h:PO X e t
structure ke (X:Cx) (es:List Expr) (t:TT):Prop where
 h:iu X es t
section
variable {X:Cx}{a b c e o:Expr}{es rest:List Expr}{pos p p2:Pos}{ta tb tc te to:TE}{tA tB' tt:TT}{t tk:TA}
theorem ao{i j pos}:QE X (.Constant (.int i) j pos) (tC (.int i)):=⟨jx⟩
theorem eI{b j pos}:QE X (.Constant (.bool b) j pos) (tC (.bl b)):=⟨qK⟩
theorem ib{j pos}:QE X (.Constant .none j pos) (tC .non):=⟨qJ⟩
theorem js{x j pos}:QE X (.Constant (.str x) j pos) (tC (.str x)):=⟨qI⟩
theorem aa(i:Nat){x:Str}(hN:X.N[i]? = some x:=by rfl)(hv:io X.env.scope x:=by first | exact Or.inl rfl | exact Or.inr (Or.inl rfl) | exact Or.inr (Or.inr rfl))(hd:(x == ("__debug__" : Str))=false:=by decide)
 (hcd:(x == ("__classdict__" : Str))=false:=by decide):QE X (.Name x pos) (mV i):=⟨vv i hN hv hd hcd⟩
theorem dW{x:Str}{n:Int}{u:Tok}(hm:X.mg x=some (.int n u))(hg:Gl X x:=by rfl)(hd:(x == ("__debug__" : Str))=false:=by decide):QE X (.Name x pos) (tC (.int n)):=⟨gi hm hg hd⟩
theorem fi {x:Str} {T:String} (hg:Gl X x) (hm:X.mg x=none) (hv:bootBuiltins x=some (.type T)) (hn:x ≠ "__name__":=by decide) (hd:(x == ("__debug__" : Str))=false:=by decide):QE X (.Name x pos) (tC (.ty T)):=⟨CA hg hm hv hn hd⟩
theorem qu{j:Int}{k:Nat}(ha:QE X a ta)(hj:0 < j/\j < 1073741824:=by decide):QE X (.BinOp a .FloorDiv (.Constant (.int j) k p) pos) (rj j ta):=⟨zx ha.h hj⟩
theorem li{j:Int}{k:Nat}(ha:QE X a ta)(hj:0 < j:=by decide):QE X (.BinOp a .Mod (.Constant (.int j) k p) pos) (rh j ta):=⟨zv ha.h hj⟩
theorem fh{op:Operator}{r:R2}(ho:aG X (binaryOp op) r)(ha:QE X a ta)(hb:QE X b tb):QE X (.BinOp a op b pos) (dO r ta tb):=⟨yu ho ha.h hb.h⟩
theorem ia{op:UnaryOp}{r:V->Hp->VK->Prop}(ho:iW X (unaryOp op) r)(ha:QE X a ta):QE X (.UnaryOp op a pos) (o6 r ta):=⟨yq ho ha.h⟩
theorem qr(ha:QE X a ta):QE X (.UnaryOp .Not a pos) (rg ta):=⟨zu ha.h⟩
theorem cB(ha:QE X a ta)(hb:QE X (.BoolOp .And (b :: rest) pos) tb):QE X (.BoolOp .And (a :: b :: rest) pos) (rn ta tb):=⟨zA ha.h hb.h⟩
theorem jt(ha:QE X a ta)(hb:QE X (.BoolOp .Or (b :: rest) pos) tb):QE X (.BoolOp .Or (a :: b :: rest) pos) (rf ta tb):=⟨zt ha.h hb.h⟩
theorem cU{op}(h:QE X a ta):QE X (.BoolOp op [a] pos) ta:=⟨yw h.h⟩
theorem cA{op:CmpOp}{r:R2}(ho:aG X (compareOp op) r)(ha:QE X a ta)(hb:QE X b tb)(hm:behindInMarks op b=false):QE X (.Compare a [op] [b] pos) (dO r ta tb):=⟨yJ ho ha.h hb.h hm⟩
theorem iL{op op':CmpOp}{r r':R2}(ho:aG X (compareOp op) r)(ho':aG X (compareOp op') r')(ha:QE X a ta)(hb:QE X b tb)(hc:QE X c tc)
 (hm:lastMarks [op,op'] [b,c]=false:=by with_unfolding_all rfl):QE X (.Compare a [op,op'] [b,c] pos) (jB r r' ta tb tc):=⟨zz ho ho' ha.h hb.h hc.h hm⟩
theorem xi(hc:QT X c tA)(ha:QE X a ta)(hb:QE X b tb):QE X (.IfExp c a b pos) (pB tA ta tb):=⟨yB hc.h ha.h hb.h⟩
theorem fR(h:QW X e tt):QT X e tt:=⟨PW.pt h.h⟩
theorem w4(ha:QT X a tA):QW X (.BoolOp .And [a] pos) tA:=⟨xy ha.h⟩
theorem hZ(ha:QT X a tA):QW X (.BoolOp .Or [a] pos) tA:=⟨xw ha.h⟩
theorem w5(ha:QT X a tA)(hb:QW X (.BoolOp .And (b :: rest) pos) tB'):QW X (.BoolOp .And (a :: b :: rest) pos) (pH tA tB'):=⟨xz ha.h hb.h⟩
theorem dQ(ha:QT X a tA)(hb:QW X (.BoolOp .Or (b :: rest) pos) tB'):QW X (.BoolOp .Or (a :: b :: rest) pos) (kH tA tB'):=⟨xx ha.h hb.h⟩
theorem dD(ha:QT X a tA):QT X (.UnaryOp .Not a pos) (pq tA):=⟨xL ha.h⟩
theorem bq{op:CmpOp}{r:R2}(ho:aG X (compareOp op) r)(ha:QE X a ta)(hb:QE X b tb)(hm:behindInMarks op b=false):QT X (.Compare a [op] [b] pos) (mB (dO r ta tb)):=⟨zd ho ha.h hb.h hm⟩
theorem xn{op op':CmpOp}{r r':R2}(ho:aG X (compareOp op) r)(ho':aG X (compareOp op') r')(ha:QE X a ta)(hb:QE X b tb)(hc:QE X c tc)
 (hm:lastMarks [op,op'] [b,c]=false:=by with_unfolding_all rfl):QT X (.Compare a [op,op'] [b,c] pos) (mB (jB r r' ta tb tc)):=⟨zf ho ho' ha.h hb.h hc.h hm⟩
theorem dE(h:QE X e te)(he : ∀ whole,isTrue e X.env whole=(do let v <- whole; standAt e.pos; holding [v] (truthy v)):=by intro _; rfl):QT X e (mB te):=⟨y8 h.h he⟩
theorem xl(h:QE X e te)(he : ∀ whole,isTrue e X.env whole=(do let v <- whole; standAt e.pos; holding [v] (truthy v)):=by intro _; rfl):QT X e (ly X.K te):=⟨y9 h.h he⟩
theorem ag:QA X [] ja:=⟨qL⟩
theorem ae(ha:QE X e te)(hr:QA X es t)(hs:cY e=false:=by rfl):QA X (e :: es) (kI te t):=⟨qN ha.h hr.h hs⟩
theorem lh{vs:List V}(h:j0 es=some vs):QA X es (pG vs):=⟨qM h⟩
theorem cV(h:QA X es t):QE X (.List es pos) (ri t):=⟨zw h.h⟩
theorem bC{x1}(h:QA X es t):QE X (.Tuple es x1 pos) (re t):=⟨zr h.h⟩
theorem lj:QE X (.Dict [] [] pos) rk:=⟨zy⟩
theorem cS:QO X none pv:=⟨x8⟩
theorem cR(h:QE X e te):QO X (some e) (pk te):=⟨x6 h.h⟩
theorem cT{r:V->Option Int->Option Int->Hp->VK->Prop}{lo hi:Option Expr}{tl th:TO}(hr:fz X r)(he:QE X e te)(hl:QO X lo tl)(hu:QO X hi th):QE X (.Subscript e (.Slice lo hi none p2) pos) (o9 r te tl th):=⟨yt hr he.h hl.h hu.h⟩
theorem aC{r:R2}(hr:c9 X r)(ha:QE X a ta)(hb:QE X b tb)(hs:tU b):QE X (.Subscript a b pos) (dO r ta tb):=⟨yA hr ha.h hb.h hs⟩
section
variable {k j:Nat}{f:Addr}{fd:FuncData}{ps:List Str}{sp:Sp}{x:Str}
theorem aU(F:be X.prog X.w X.K X.mg X.base x j f fd ps sp)(hr:aQ k X.A)(ha:QA X (e :: es) t)(hj:j<=k:=by decide)(hg:Gl X x:=by rfl)
 (hdb:(x == ("__debug__" : Str))=false:=by decide) (hn:ci (e :: es)=true:=by rfl):QE X (.Call (.Name x p) (e :: es) [] pos) (kJ sp [] E0 t):=⟨Cg F hr ha.h hj hg hdb hn⟩
theorem aZ{id:String}{r:List V->Hp->VK->Prop}(hc:bp X (.builtin id) r)(hm:X.mg x=none)(hv:bootBuiltins x=some (.builtin id))(ha:QA X (e :: es) t)(hg:Gl X x:=by rfl)(hx:x ≠ "__name__":=by decide)(hdb:(x == ("__debug__" : Str))=false:=by decide)
 (hn:ci (e :: es)=true:=by rfl):QE X (.Call (.Name x p) (e :: es) [] pos) (gx r t):=⟨Cf hc hm hv ha.h hg hx hdb hn⟩
theorem fQ{T:String}{r:List V->Hp->VK->Prop}(hc:bp X (.type T) r)(hm:X.mg x=none)(hv:bootBuiltins x=some (.type T))(ha:QA X (e :: es) t)(hg:Gl X x:=by rfl)(hx:x ≠ "__name__":=by decide)(hdb:(x == ("__debug__" : Str))=false:=by decide)
 (hn:ci (e :: es)=true:=by rfl):QE X (.Call (.Name x p) (e :: es) [] pos) (gx r t):=⟨Ce hc hm hv ha.h hg hx hdb hn⟩
end
section
variable {name:Str}{apos cpos:Pos}{T id:String}{r:V->List V->Hp->VK->Prop}
theorem xj (pa:PlainAttrs T) (slot:Slot T name id) (hty:typeOf (.builtin id)=pure (.type "method_descriptor")) (hm:fB X id r) (ho:QE X o to)
 (hbase:attributeBase o name X.env (eval o X.env)=eval o X.env:=by rfl) (hline:(apos.endLine == cpos.line)=true:=by rfl):QE X (.Call (.Attribute o name apos) [] [] cpos) (kK X.K T r to):=⟨yN pa slot hty hm ho.h hbase hline⟩
theorem qY{env:Env}{pos:Pos} : ∀ {es:List Expr},ci es=true->(backTo pos (starEach es env)).all (λx=>!x.1)=true
 | [],_=>rfl
 | e :: r,h=>by
  obtain⟨h1,h2⟩:=cX h
  rw[cQ h1]
  show (!false && (backTo pos (starEach r env)).all (λx=>!x.1))=true
  rw[qY h2]
  rfl
theorem xk (pa:PlainAttrs T) (slot:Slot T name id) (hty:typeOf (.builtin id)=pure (.type "method_descriptor")) (hm:fB X id r) (ho:QE X o to) (ha:QA X (e :: es) t)
 (hbase:attributeBase o name X.env (eval o X.env)=eval o X.env:=by rfl) (hn:ci (e :: es)=true:=by rfl) (hf:decide ((e :: es).length+0+0 < 30)=true:=by rfl)
 (hline:(apos.endLine == cpos.line)=true:=by rfl):QE X (.Call (.Attribute o name apos) (e :: es) [] cpos) (kL X.K T r to t) :=
 ⟨yO pa slot hty hm ho.h ha.h hbase (by rw[qY hn]; exact hf) hline (cQ (cX hn).1) (fS (cX hn).2)⟩
end
section
variable {st:Stmt}{sts ss2:List Stmt}{s t1 u1:TS}{tg it:Expr}{g:TG}{gs:eh}{wi:TI}
theorem bA:ej X [] jb:=⟨xN⟩
theorem aq(h1:QS X st t1)(h2:ej X sts u1):ej X (st :: sts) (i9 t1 u1):=⟨xO h1.h h2.h⟩
theorem ap(h1:QS X st t1):ej X [st] t1:=⟨xM h1.h⟩
theorem ld:QS X st pz:=⟨xT⟩
theorem aK(he:QE X e te):QS X (.Return (some e) pos) (ph te):=⟨xS he.h⟩
theorem cI(he:QE X e te)(hs:swapsWith e none pos.line X.env=pure false:=by rfl):QS X (.Expr e pos) (pE te):=⟨xX he.h hs⟩
theorem bB(hc:QT X c tA)(ha:ej X sts t1)(hb:ej X ss2 u1):QS X (.If c sts ss2 pos) (jd tA t1 u1):=⟨xU hc.h ha.h hb.h⟩
theorem aX{i:Nat}{x:Str}{pos':Pos}(hN:X.N.Nodup)(hi:X.N[i]? = some x)(hx:fE X.env.scope x)(he:QE X e te)(hs:swapsWith e (some (.Name x pos')) pos.line X.env=pure false:=by rfl)(hf:X.fn x=true\/X.env.scope.names.lookup x=some .local:=by first | exact .inl rfl | exact .inr rfl | assumption) :
 QS X (.Assign [.Name x pos'] e pos) (gy te (bD i)):=⟨xR hN hi hx he.h hs hf⟩
theorem w6(he:QE X e te)(hg:QG X tg g)(hs:swapsWithSole [tg] e pos.line X.env=pure false:=by rfl)(hw:swappedStores [tg] e X.env=pure none:=by rfl)
 (h1:(assignEach [tg] X.env).map (·.2)=[assign tg X.env]:=by rfl):QS X (.Assign [tg] e pos) (gy te g):=⟨xZ he.h hg.h hs hw h1⟩
theorem aB{i:Nat}{x:Str}(hN:X.N.Nodup)(hi:X.N[i]? = some x)(hx:fE X.env.scope x)(hf:X.fn x=true\/X.env.scope.names.lookup x=some .local:=by first | exact .inl rfl | exact .inr rfl | assumption):QG X (.Name x pos) (bD i):=⟨yo hN hi hx hf⟩
theorem cv:iX X [] ij:=⟨yi⟩
theorem aY(h1:QG X e g)(h2:iX X es gs)(hs:(assignEach (e :: es) X.env).map (·.2)=assign e X.env :: (assignEach es X.env).map (·.2):=by rfl):iX X (e :: es) (dZ g gs):=⟨yj h1.h h2.h hs⟩
theorem xh{k n:Nat}(hc:X.calm=true)(h:iX X es gs)(hn:(assignEach es X.env).length=n:=by rfl)(hst:(assignEach es X.env).findIdx? (·.1)=none:=by rfl):QG X (.Tuple es k pos) (fW X.K n gs):=⟨yn hc h.h hn hst⟩
theorem xf{l:Expr}{tl:TE}(hl:QE X l tl):QI X tg l (lR X.K tl):=⟨yf hl.h⟩
theorem xc{l:Expr}{tl:TE}(hl:QE X l tl):QI X tg l (lQ X.K tl):=⟨yd hl.h⟩
theorem jp (hg:Gl X "range") (hm:X.mg "range" = none) (ha:QA X [a] t) (hs:cY a=false:=by rfl):QI X tg (.Call (.Name "range" p) [a] [] pos) (rL t):=⟨ye hg hm ha.h (cQ hs)⟩
theorem bL{body:List Stmt}{tb1:TS}(hp:PassesOwn (model X.prog X.w) X.A X.env X.xe)(hc:X.calm=true)(hi:QI X tg it wi)(hg:QG X tg g)(hb:ej X body tb1)
 (hs : ∀ x,foldedSetIterable it X.env x=pure x:=by intro _; rfl):QS X (.For tg it body [] pos) (pC wi g tb1):=⟨xV hp hc hi.h hg.h hb.h hs⟩
theorem k9{body:List Stmt}{tb1:TS}(hp:PassesOwn (model X.prog X.w) X.A X.env X.xe)(hc:QT X c tA)(hb:ej X body tb1):QS X (.While c body [] pos) (oZ tA tb1):=⟨xP hp hc.h hb.h⟩
theorem dR:ke X [] dN:=⟨xF⟩
theorem kZ(h:QT X c tA):ke X [c] tA:=⟨xE h.h⟩
theorem eG{scope:Scope}{Nc:List Str}{nv:Nat}{caps:List Nat}{ifs:List Expr}(hc:X.calm=true)(S:bQ X Nc nv caps scope)(hi:QI X tg it wi)
 (hg : ∀ C s H fp,QG (bF X Nc scope C s H fp) tg g) (ht : ∀ C s H fp,ke (bF X Nc scope C s H fp) ifs tt) (he : ∀ C s H fp,QE (bF X Nc scope C s H fp) e te)
 (hs : ∀ x,foldedSetIterable it X.env x=pure x:=by intro _; rfl):QE X (.ListComp e [⟨tg,it,ifs,0⟩] scope pos) (je nv caps wi g tt te) :=
 ⟨yI hc S hi.h (λC s H fp=>(hg C s H fp).h) (λC s H fp=>(ht C s H fp).h) (λC s H fp=>(he C s H fp).h) hs⟩
theorem jo{scope:Scope}{Nc:List Str}{nv:Nat}{caps:List Nat}{ifs:List Expr}{spos py:Pos}{i:Nat}{y:Str}(hN:X.N.Nodup)(hy:X.N[i]? = some y)(hx:fE X.env.scope y)(hc:X.calm=true)(S:bQ X Nc nv caps scope)(hi:QI X tg it wi)
 (hg : ∀ C s H fp,QG (bF X Nc scope C s H fp) tg g) (ht : ∀ C s H fp,ke (bF X Nc scope C s H fp) ifs tt) (he : ∀ C s H fp,QE (bF X Nc scope C s H fp) e te)
 (hsw:swapsWith (.ListComp e [⟨tg,it,ifs,0⟩] scope pos) (some (.Name y py)) spos.line X.env=pure true:=by rfl)
 (hs : ∀ x,foldedSetIterable it X.env x=pure x:=by intro _; rfl) (hf:X.fn y=true\/X.env.scope.names.lookup y=some .local:=by first | exact .inl rfl | exact .inr rfl | assumption) :
 QS X (.Assign [.Name y py] (.ListComp e [⟨tg,it,ifs,0⟩] scope pos) spos) (gy (je nv caps wi g tt te) (bD i)) :=
 ⟨xQ hN hy hx hc S hi.h (λC s H fp=>(hg C s H fp).h) (λC s H fp=>(ht C s H fp).h) (λC s H fp=>(he C s H fp).h) hsw hs hf⟩
end
end
section
variable {X:Cx}{K:W.Frag}{a b c e o:Expr}{es rest:List Expr}{pos p p2:Pos}{ta tb tc te to:TE}{tA tB' tt:TT}{t tk:TA}
theorem aD(h:X.K=K):c9 X (si K):=by subst h; exact Bd
theorem dG(h:X.K=K):fz X (sf K):=by subst h; exact Ba
theorem fq(h:X.K=K):aG X (binaryOp .Add) (sq K):=by subst h; exact Bv
theorem cD(h:X.K=K)(hu:X.A.units+64 < cLine):aG X (compareOp .Eq) (fX K false):=by subst h; exact Bo hu
theorem fm(h:X.K=K)(hu:X.A.units+64 < cLine):aG X (compareOp .NotEq) (fX K true):=by subst h; exact Bc hu
theorem cc (h:X.K=K):bp X (.builtin "len") (l7 K):=by subst h; exact Cm
theorem j6 (h:X.K=K):bp X (.type "list") (lZ K):=by subst h; exact Ck
theorem nq (h:X.K=K):bp X (.type "tuple") (lX K):=by subst h; exact Ch
theorem j7 (h:X.K=K) (hc:X.calm=true):bp X (.builtin "all") (ik K false):=by subst h; exact Cq hc
theorem Co (h:X.K=K) (hc:X.calm=true):bp X (.builtin "any") (ik K true):=by subst h; exact Cp hc
theorem fw (h:X.K=K):bp X (.builtin "isinstance") (ma K):=by subst h; exact Cn
theorem qp(h:X.K=K)(q:QE X e te)(he : ∀ whole,isTrue e X.env whole=(do let v <- whole; standAt e.pos; holding [v] (truthy v)):=by intro _; rfl):QT X e (ly K te):=by subst h; exact xl q he
theorem dt{tg l:Expr}{tl:TE}(h:X.K=K)(hl:QE X l tl):QI X tg l (lR K tl):=by subst h; exact xf hl
theorem xb{tg l:Expr}{tl:TE}(h:X.K=K)(hl:QE X l tl):QI X tg l (lQ K tl):=by subst h; exact xc hl
theorem cw{k n:Nat}{gs:eh}(h:X.K=K)(hc:X.calm=true)(q:iX X es gs)(hn:(assignEach es X.env).length=n:=by rfl)(hst:(assignEach es X.env).findIdx? (·.1)=none:=by rfl):QG X (.Tuple es k pos) (fW K n gs):=by subst h; exact xh hc q hn hst
theorem dU {name:Str} {apos cpos:Pos} {T id:String} {r:V->List V->Hp->VK->Prop} (h:X.K=K) (pa:PlainAttrs T) (slot:Slot T name id) (hty:typeOf (.builtin id)=pure (.type "method_descriptor")) (hm:fB X id r) (ho:QE X o to) (ha:QA X (e :: es) t)
 (hbase:attributeBase o name X.env (eval o X.env)=eval o X.env:=by rfl) (hn:ci (e :: es)=true:=by rfl) (hf:decide ((e :: es).length+0+0 < 30)=true:=by rfl)
 (hline:(apos.endLine == cpos.line)=true:=by rfl):QE X (.Call (.Attribute o name apos) (e :: es) [] cpos) (kL K T r to t):=by subst h; exact xk pa slot hty hm ho ha hbase hn hf hline
theorem qo {name:Str} {apos cpos:Pos} {T id:String} {r:V->List V->Hp->VK->Prop} (h:X.K=K) (pa:PlainAttrs T) (slot:Slot T name id) (hty:typeOf (.builtin id)=pure (.type "method_descriptor")) (hm:fB X id r) (ho:QE X o to)
 (hbase:attributeBase o name X.env (eval o X.env)=eval o X.env:=by rfl) (hline:(apos.endLine == cpos.line)=true:=by rfl):QE X (.Call (.Attribute o name apos) [] [] cpos) (kK K T r to):=by subst h; exact xj pa slot hty hm ho hbase hline
end
theorem aS.okQ{P:Program}{w:World}{K:W.Frag}{mg:Str->Option Value}{base:Heap}{x qual:Str}{st:Stmt}{f:Addr}{fd:FuncData}{N ps:List Str}{k:Nat}{sp:Sp}(F:aS K x qual st f fd)(S:aT N ps (ak st))(len : ∀ vs H Q E,sp vs H Q E->vs.length=ps.length)
 (hbody : ∀ (cdv:Value) (A:Around) (outer:List Env) (s:Shared) (H:Hp) (vs:List V) (Q:VK) (E:XK),aQ k (A.deeper (envOfC qual (ak st) s.heap.objs.size f cdv))->sp vs H Q E ->
   ∃ t,ej (ft ca P w K mg base N qual (ak st) f cdv A outer s H E).nox (aJ st) t/\t { nx:=λ_ H'=>Q .non H',rt:=Q } (dP N vs) H):bw P w K mg base ca (k+1) f fd ps sp :=
 F.ok S len λcdv A outer s H vs Q E hr h=>let ⟨t,q,r⟩:=hbody cdv A outer s H vs Q E hr h; ⟨t,q.h,r⟩
section
variable {X:Cx}{pins:List (Addr × Obj)}{σ:St}{H:Hp}{s:Shared}{h':Heap}
theorem ad.turnedL{t':Nat}{fp:List Addr}(I:ad X pins σ H s)(k : ∀ b o,b∉fp->s.heap.get? b=some o->h'.get? b=some o)(hf : ∀ b∈fp,db X pins H b):ad X pins σ H { s with heap:=h',toks:=t' }:=by
 have nit : ∀ b u,H b=some u->b∉fp:=λb u e z=>by rw[(hf b z).1]at e; cases e
 refine I.step (g':=s.gens) (d':=s.drawn) (ch:=fp) (λb hb=>?_) (λb o _ _ hc e _=>k b o hc e) (λb o _ _ hc e _=>⟨o.slots,k b o hc e⟩) (λ_ _ _ _ n=>n) (λb o hc e=>⟨o,k b o hc e⟩) (λ_ _ e=>e) (λ_ _ _ e=>e) (λb ps e=>⟨#[],by rw[e]; simp⟩) (λm hm=>?_) (λb u e=>?_) I.bare
 ·obtain⟨f0,f1,f2,f3,f4,f5⟩:=hf b hb
  exact⟨f3,f1,f4,f5⟩
 ·obtain⟨o,es,ep,ho,r⟩:=hm
  exact⟨o,es,ep,k _ o (λz=>(hf _ z).2.1 rfl) ho,r⟩
 ·refine (I.hok b u e).stay (λc v hc q=>k c v ?_ q) (λ_ q=>q) λ_ _ q=>q
  rcases hc with z | z
  ·rw[z]; exact nit b u e
  ·exact nit c _ z
theorem ad.turnedN{t':Nat}{fp:List Addr}{T:Addr}{ob:HO}(I:ad X pins σ H s)(k : ∀ b o,b∉fp->s.heap.get? b=some o->h'.get? b=some o)(hf : ∀ b∈fp,db X pins H b)(hT:s.heap.objs.size<=T)
 (new:aL X.prog X.w (upd H T ob) h' T ob):ad X pins σ (upd H T ob) { s with heap:=h',toks:=t' }:=by
 have I1:ad X pins σ H { s with heap:=h',toks:=t' }:=I.turnedL k hf
 have hn:H T=none:=I.hok.fresh hT
 have ne : ∀ b u,H b=some u->b≠T:=λb u e z=>by rw[z,hn]at e; cases e
 refine I.step (g':=s.gens) (d':=s.drawn) (ch:=fp) (λb hb=>?_) (λb o _ _ hc e _=>k b o hc e) (λb o _ _ hc e _=>⟨o.slots,k b o hc e⟩) (λb o _ e n=>?_) (λb o hc e=>⟨o,k b o hc e⟩) (λb xs e=>by rw[ai (ne b _ e)]; exact e) (λb o u e=>by rw[ai (ne b _ e)]; exact e) (λb ps e=>⟨#[],by rw[ai (ne b _ e),e]; simp⟩) (λm hm=>?_) (I1.hok.adopt hn new) I.bare
 ·obtain⟨f0,f1,f2,f3,f4,f5⟩:=hf b hb
  exact⟨f3,f1,f4,f5⟩
 ·rw[ai (λz=>absurd (Nat.lt_of_lt_of_le (Heap.lt_size e) (by rw[z]; exact hT)) (Nat.lt_irrefl _))]
  exact n
 ·obtain⟨o,es,ep,ho,r⟩:=hm
  exact⟨o,es,ep,k _ o (λz=>(hf _ z).2.1 rfl) ho,r⟩
end
def gp(K:W.Frag)(a:Addr):It :=
 ⟨λi H=>∃ xs x,ax K H a xs/\xs[i]? = some x,λi H x H'=>∃ p v,x=.ref p/\(∀ xs,ax K H a xs->xs[i]? = some v)/\aO H p (.tup [.int (i:Int),v]) H',λi H=>∃ xs,ax K H a xs/\xs.length<=i⟩
theorem jy{P:Program}{w:World}{H:Hp}{h:Heap}{T:Addr}{v1 v2:V}{u1 u2:Value}(hT:h.IsTuple T #[u1,u2])(r1:au v1 u1)(r2:au v2 u2):aL P w (upd H T (.tup [v1,v2])) h T (.tup [v1,v2]):=by
 refine⟨sz rfl,[u1,u2],.cons r1 (.cons r2 .nil),?_⟩
 exact hT
theorem ve{P:Program}{w:World}{K:W.Frag}{es:List Expr}{kk:Nat}{pp:Pos}(a e it:Addr)(hei:e≠it):dw P w K (.Tuple es kk pp) (gp K a) [e,it] e (λi h=>(∃ old,IsEnum h e it i old)/\h.IsListIter it a i) where
 mem:=by simp
 obj:=λi h st b hb=>by
  obtain⟨⟨old,h1⟩,o,e2,c,d⟩:=st
  have hb':b=e\/b=it:=by simpa using hb
  rcases hb' with z | z
  ·subst z
   exact⟨_,h1,λv z=>by cases (show Data.fields _=Data.cell v from z)⟩
  ·subst z
   exact⟨o,e2,λv z=>by rw[d]at z; cases z⟩
 keep:=λi h h' st k=>by
  obtain⟨⟨old,h1⟩,h2⟩:=st
  exact⟨⟨old,k e (by simp) _ h1⟩,h2.at λo x=>k it (by simp) o x⟩
 item:=by
  intro X hP hw hK hc i pins s σ H E I hf st hg
  subst hP hw hK
  obtain⟨⟨old,h1⟩,h2⟩:=st
  obtain⟨xs,x,hq,hx⟩:=hg
  obtain⟨its,rv,p,hz⟩:=I.list hq
  obtain⟨u,hu,ru⟩:=rv.get hx
  have helt:e < s.heap.objs.size:=Heap.lt_size h1
  have hilt:it < s.heap.objs.size:=by obtain⟨_,z,_⟩:=h2; exact Heap.lt_size z
  refine wpAny_pyNext_enum_item h1 h2 p.isList (x:=u) (by simpa using hu) hei λh' ho hit' hT hsz hk=>?_
  refine⟨_,rfl,wpAny_letOwnedTupleGo_enum (s:={ s with heap:=h',toks:=s.toks+1 }) ho λh'' he' hs'=>?_⟩
  have hTe:s.heap.objs.size≠e:=Nat.ne_of_gt helt
  have hT2:h''.get? s.heap.objs.size=some { cls:=.type "tuple",data:=.seq #[.int i s.toks,u] }:=(hs'.2 _ hTe).trans hT
  have I2:ad X pins σ (upd H s.heap.objs.size (.tup [.int (i:Int),x])) { s with heap:=h'',toks:=s.toks+1 }:=by
   refine I.turnedN (fp:=[e,it]) (λb o hb eo=>?_) hf (Nat.le_refl _) (jy ⟨_,hT2,rfl,_,rfl⟩ ⟨_,rfl⟩ ru)
   have hbe:b≠e:=λz=>hb (by simp[z])
   have hbi:b≠it:=λz=>hb (by simp[z])
   exact (hs'.2 b hbe).trans (hk b o hbe hbi eo)
  refine⟨.ref s.heap.objs.size,_,I2,rfl,⟨_,x,rfl,λys hy=>by rw[I.list_inj hy hq]; exact hx,.mk' I.fresh⟩,⟨⟨_,by simpa using he'⟩,hit'.at λo y=>(hs'.2 it hei.symm).trans y⟩,λb hb=>?_⟩
  have hb':b=e\/b=it:=by simpa using hb
  rw[ai (by rcases hb' with z | z <;> (rw[z]; first | exact Nat.ne_of_lt helt | exact Nat.ne_of_lt hilt))]
  exact (hf b hb).1
 done:=by
  intro X hP hw hK hc i pins s σ H E I hf st hg
  subst hP hw hK
  obtain⟨⟨old,h1⟩,h2⟩:=st
  obtain⟨xs,hq,hx⟩:=hg
  obtain⟨its,rv,p,hz⟩:=I.list hq
  have hl:=rv.length
  refine wpAny_pyNext_enum_end (I.ok.hd hc) h1 h2 p.isList (by simp; omega) λh' eb=>⟨rfl,I.turnedL (t':=s.toks) (fp:=[e,it]) (λb o hb eo=>eb b o (λz=>hb (by simp[z])) eo) hf⟩
 self:=λ_ _ _ _ _ st h=>wpAny_pyIter_enum st.1.choose_spec h
def rN(K:W.Frag)(ta:TA):TI:=λσ H R=>ta σ H λvs H1=>∃ a xs,vs=[.ref a]/\ax K H1 a xs/\R (gp K a) H1
section
variable {X:Cx}{tg:Expr}{es:List Expr}{kk:Nat}{pp:Pos}
theorem yh {a:Expr} {ta:TA} {p pos:Pos} (hg:Gl X "enumerate") (hm:X.mg "enumerate" = none) (ha:PA X [a] ta) (hs:starEach [a] X.env=[(false,eval a X.env)]:=by rfl):PI X (.Tuple es kk pp) (.Call (.Name "enumerate" p) [a] [] pos) (rN X.K ta):=by
 intro pins s σ H R I h
 refine Call_ (fj I hg hm boot_enumerate (PyProof.Rows.callWith_type1 (aj (ha pos pins s σ H _ I h) λus s1 ⟨vs,H1,I1,r1,q1⟩=>?_) hs rfl))
 obtain⟨l,xs,e,hq,q⟩:=q1
 subst e
 cases r1 with
 | cons r rr =>
  cases rr
  cases r
  obtain⟨its,rv,pl,hz⟩:=I1.list hq
  refine call_enumerate_list pl.isList λh' he hit hsz hk=>?_
  refine wpAny_pyIter_enum (s:={ s1 with heap:=h' }) he ?_
  have I2:ad X pins σ H1 { s1 with heap:=h' }:=I1.kept (t':=s1.toks) hk
  refine⟨s1.heap.objs.size+1,[s1.heap.objs.size+1,s1.heap.objs.size],_,gp X.K l,H1,rfl,I2,ve l _ _ (Nat.succ_ne_self _),⟨⟨_,he⟩,hit⟩,λb hb=>?_,q⟩
  have hb':b=s1.heap.objs.size+1\/b=s1.heap.objs.size:=by simpa using hb
  have hle:s1.heap.objs.size<=b:=by
   rcases hb' with z | z
   ·rw[z]; exact Nat.le_succ _
   ·rw[z]; exact Nat.le_refl _
  exact I1.fpOk hle (I1.hok.fresh hle)
end
section
variable {X:Cx}{tg:Expr}
theorem me{K:W.Frag}{a:Addr}{xs:List V}{g:TG}{tb:TS}{D:cH}{σ:St}{H:Hp}(Pv:Nat->St->Hp->Prop)(h0:Pv 0 σ H)(hl : ∀ i σ H,i<=xs.length->Pv i σ H->ax K H a xs)
 (hs : ∀ i x p σ H H',xs[i]? = some x->Pv i σ H->aO H p (.tup [.int (i:Int),x]) H'->g (.ref p) σ H' λσ2 H2=>tb { D with nx:=Pv (i+1),ct:=Pv (i+1),bk:=D.nx } σ2 H2) (hd : ∀ σ H,Pv xs.length σ H->D.nx σ H) :
 ∃ W:Nat->Nat->St->Hp->Prop,(∃ m,W 0 m σ H)/\∀ i m σ H,W i m σ H ->
  ((gp K a).stop i H/\D.nx σ H)\/((gp K a).go i H/\∃ N:St->Hp->Prop,(∀ σ' H',N σ' H'->∃ m',m' < m/\W (i+1) m' σ' H')/\∀ x H',(gp K a).yld i H x H'->g x σ H' λσ2 H2=>tb { D with nx:=N,ct:=N,bk:=D.nx } σ2 H2):=by
 refine⟨λi m σ H=>m=xs.length - i/\i<=xs.length/\Pv i σ H,⟨xs.length,by simp,Nat.zero_le _,h0⟩,?_⟩
 rintro i m σ H ⟨rfl,hi,p⟩
 have q:=hl i σ H hi p
 by_cases hlt:i < xs.length
 ·refine .inr ⟨⟨xs,xs[i],q,by simp[hlt]⟩,Pv (i+1),λσ' H' p'=>⟨xs.length - (i+1),by omega,rfl,hlt,p'⟩,λx H' y=>?_⟩
  obtain⟨pp,v,rfl,y,gr⟩:=y
  exact hs i v pp σ H H' (y xs q) p gr
 ·have e:i=xs.length:=by omega
  subst e
  exact .inl ⟨⟨xs,q,Nat.le_refl _⟩,hd σ H p⟩
end
def lY(K:W.Frag):List V->Hp->VK->Prop:=λxs H Q=>match xs with
 | [.ref p]=>∃ ns:List Int,ax K H p (ns.map V.int)/\Q (.int ns.sum) H
 | _=>False
theorem qF(ns:List Int) : ∀ k,k<=ns.length->preSum (λi=>(ns[i]?).getD 0) k=(ns.take k).sum
 | 0,_=>by simp[preSum]
 | k+1,h=>by
  have hk:k < ns.length:=by omega
  rw[preSum,qF ns k (by omega),<- List.take_append_getElem hk,List.sum_append]
  simp[List.getElem?_eq_getElem hk]
theorem Cj {X:Cx} (hc:X.calm=true):bp X (.builtin "sum") (lY X.K):=by
 intro pins s σ H xs us Q I r q
 unfold lY at q
 split at q
 ·rename_i p
  obtain⟨ns,hq,q⟩:=q
  obtain⟨u,rfl,rx⟩:=fI r
  cases rx
  obtain⟨its,rv,pl,_⟩:=I.list hq
  have hl:=rv.length
  rw[List.length_map]at hl
  have hlt:p < s.heap.objs.size:=by
   obtain⟨o,n,e,_⟩:=pl
   exact Heap.lt_size e
  have hne:p≠s.heap.objs.size:=Nat.ne_of_lt hlt
  refine call_sum_walkG (wpAny_pyIter_list pl.isList ⟨s.heap.objs.size,_,_,_,_,_,λi=>(ns[i]?).getD 0,rfl,Walks.list (A:=X.A.in1) (show X.A.in1.handled=none from I.ok.hd hc) s.heap.objs.size p hne its.toArray,⟨⟨_,Heap.get?_push_size _ rfl,rfl,rfl⟩,?_⟩,λb hb=>?_,λi v hv=>?_,λh' tk t' k=>?_⟩)
  ·exact pl.isList.at λo e=>Heap.get?_push_of_some _ e
  ·have hb':b=s.heap.objs.size\/b=p:=by simpa using hb
   show b < (s.heap.push _).objs.size
   rw[Heap.size_push]
   rcases hb' with z | z
   ·rw[z]; exact Nat.lt_succ_self _
   ·rw[z]; exact Nat.lt_succ_of_lt hlt
  ·have hi:i < its.length:=by
    have:=(Array.getElem?_eq_some_iff.mp hv).1
    simpa using this
   have hb:i < ns.length:=by omega
   obtain⟨u,hu,ru⟩:=rv.get (i:=i) (x:=V.int ns[i]) (by simp[hb])
   have e:its.toArray[i]? = some u:=by simpa using hu
   rw[e]at hv
   cases hv
   obtain⟨t,rfl⟩:=ru
   exact⟨t,by simp[hb]⟩
  ·refine⟨.int ns.sum,H,I.kept (h':=h') (t':=tk) λb o e=>k b o (λz=>?_) (Heap.get?_push_of_some _ e),⟨t',?_⟩,q⟩
   ·have e':b=s.heap.objs.size:=by simpa using z
    exact absurd (Heap.lt_size e) (by rw[e']; exact Nat.lt_irrefl _)
   ·rw[List.size_toArray,<- hl,qF ns _ (Nat.le_refl _),List.take_length]
 ·exact q.elim
def kh(K:W.Frag)(a b:Addr):It :=
 ⟨λi H=>∃ xs ys x y,ax K H a xs/\xs[i]? = some x/\ax K H b ys/\ys[i]? = some y,λi H x H'=>∃ p v u,x=.ref p/\(∀ xs,ax K H a xs->xs[i]? = some v)/\(∀ ys,ax K H b ys->ys[i]? = some u)/\aO H p (.tup [v,u]) H',λi H=>∃ xs ys,ax K H a xs/\ax K H b ys/\(xs.length<=i\/ys.length<=i)⟩
theorem uW{P:Program}{w:World}{K:W.Frag}{es:List Expr}{kk:Nat}{pp:Pos}(a b z TI TO i1 i2:Addr)(D:ZipApart z TI TO i1 i2 a b) :
 dw P w K (.Tuple es kk pp) (kh K a b) [z,TI,TO,i1,i2] z (λi h=>IsZip h z TI TO .none/\IsPair h TI (.ref i1) (.ref i2)/\(∃ a b,IsPair h TO a b)/\h.IsListIter i1 a i/\h.IsListIter i2 b i) where
 mem:=by simp
 obj:=λi h st c hc=>by
  obtain⟨h1,h2,⟨u,v,h3⟩,⟨o4,e4,c4,d4⟩,o5,e5,c5,d5⟩:=st
  have hc':c=z\/c=TI\/c=TO\/c=i1\/c=i2:=by simpa using hc
  rcases hc' with rfl | rfl | rfl | rfl | rfl
  ·exact⟨_,h1,λv z=>by cases (show Data.fields _=Data.cell v from z)⟩
  ·exact⟨_,h2,λv z=>by cases (show Data.seq _ _=Data.cell v from z)⟩
  ·exact⟨_,h3,λv z=>by cases (show Data.seq _ _=Data.cell v from z)⟩
  ·exact⟨o4,e4,λv z=>by rw[d4]at z; cases z⟩
  ·exact⟨o5,e5,λv z=>by rw[d5]at z; cases z⟩
 keep:=λi h h' st k=>by
  obtain⟨h1,h2,⟨u,v,h3⟩,h4,h5⟩:=st
  exact⟨k z (by simp) _ h1,k TI (by simp) _ h2,⟨u,v,k TO (by simp) _ h3⟩,h4.at λo x=>k i1 (by simp) o x,h5.at λo x=>k i2 (by simp) o x⟩
 item:=by
  intro X hP hw hK hc i pins s σ H E I hf st hg
  subst hP hw hK
  obtain⟨h1,h2,⟨u,v,h3⟩,h4,h5⟩:=st
  obtain⟨xs,ys,x,y,hq,hx,hq2,hy⟩:=hg
  obtain⟨its,rv,p,hz⟩:=I.list hq
  obtain⟨its2,rv2,p2,hz2⟩:=I.list hq2
  obtain⟨ux,hu,ru⟩:=rv.get hx
  obtain⟨uy,hu2,ru2⟩:=rv2.get hy
  have lz:z < s.heap.objs.size:=Heap.lt_size h1
  have lTI:TI < s.heap.objs.size:=Heap.lt_size h2
  have lTO:TO < s.heap.objs.size:=Heap.lt_size h3
  have l1:i1 < s.heap.objs.size:=by obtain⟨_,e,_⟩:=h4; exact Heap.lt_size e
  have l2:i2 < s.heap.objs.size:=by obtain⟨_,e,_⟩:=h5; exact Heap.lt_size e
  refine wpAny_pyNext_zip_item D h1 h2 h3 h4 h5 p.isList p2.isList (x:=ux) (y:=uy) (by simpa using hu) (by simpa using hu2) λh' a1 a2 a3 a4 a5 a6 hk=>?_
  refine⟨_,rfl,wpAny_letOwnedTupleGo_zip (s:={ s with heap:=h' }) a1 λh'' hz' hs'=>?_⟩
  have kk : ∀ c o,c∉[z,TI,TO,i1,i2]->s.heap.get? c=some o->h''.get? c=some o:=λc o hb e=>by
   have n1:c≠z:=λw=>hb (by simp[w])
   exact (hs'.2 c n1).trans (hk c o n1 (λw=>hb (by simp[w])) (λw=>hb (by simp[w])) (λw=>hb (by simp[w])) e)
  have hT2:h''.get? s.heap.objs.size=some { cls:=.type "tuple",data:=.seq #[ux,uy] }:=(hs'.2 _ (Nat.ne_of_gt lz)).trans a5
  have I2:ad X pins σ (upd H s.heap.objs.size (.tup [x,y])) { s with heap:=h'' } :=
   I.turnedN (t':=s.toks) (fp:=[z,TI,TO,i1,i2]) kk hf (Nat.le_refl _) (jy ⟨_,hT2,rfl,_,rfl⟩ ru ru2)
  refine⟨.ref s.heap.objs.size,_,I2,rfl,⟨_,x,y,rfl,λys hy=>by rw[I.list_inj hy hq]; exact hx,λzs hz=>by rw[I.list_inj hz hq2]; exact hy,.mk' I.fresh⟩,
   ⟨hz',(hs'.2 _ D.TIz).trans (hk _ _ D.TIz D.TITO D.TIi1 D.TIi2 h2),⟨_,_,(hs'.2 _ D.TOz).trans a2⟩,a3.at λo e=>(hs'.2 _ D.i1z).trans e,a4.at λo e=>(hs'.2 _ D.i2z).trans e⟩,λc hc=>?_⟩
  have hc':c=z\/c=TI\/c=TO\/c=i1\/c=i2:=by simpa using hc
  have lc:c < s.heap.objs.size:=by rcases hc' with w | w | w | w | w <;> rw[w] <;> assumption
  rw[ai (Nat.ne_of_lt lc)]
  exact (hf c hc).1
 done:=by
  intro X hP hw hK hc i pins s σ H E I hf st hg
  subst hP hw hK
  obtain⟨h1,h2,⟨u,v,h3⟩,h4,h5⟩:=st
  obtain⟨xs,ys,hq,hq2,hx⟩:=hg
  obtain⟨its,rv,p,hz⟩:=I.list hq
  obtain⟨its2,rv2,p2,hz2⟩:=I.list hq2
  have hl:=rv.length
  have hl2:=rv2.length
  refine wpAny_pyNext_zip_end (I.ok.hd hc) D h1 h2 h3 h4 h5 p.isList p2.isList (by rcases hx with w | w; exact .inl (by simp; omega); exact .inr (by simp; omega)) λh' hk=>⟨rfl,I.turnedL (t':=s.toks) (fp:=[z,TI,TO,i1,i2]) (λc o hb e=>hk c o (λw=>hb (by simp[w])) (λw=>hb (by simp[w])) (λw=>hb (by simp[w])) (λw=>hb (by simp[w])) e) hf⟩
 self:=λ_ _ _ _ _ st h=>wpAny_pyIter_zip st.1 h
def rJ(K:W.Frag)(ta:TA):TI:=λσ H R=>ta σ H λvs H1=>∃ a b xs ys,vs=[.ref a,.ref b]/\ax K H1 a xs/\ax K H1 b ys/\R (kh K a b) H1
theorem uK(I l1 l2:Nat)(h1:l1 < I)(h2:l2 < I):ZipApart (I+4) (I+2) (I+3) I (I+1) l1 l2:=W.ktu_apart I l1 l2 h1 h2
theorem yb {X:Cx} {es:List Expr} {kk:Nat} {pp:Pos} {a b:Expr} {ta:TA} {p pos:Pos} (hg:Gl X "zip") (hm:X.mg "zip" = none) (ha:PA X [a,b] ta) (hs:starEach [a,b] X.env=(false,eval a X.env) :: starEach [b] X.env:=by rfl) (hpl:(backTo pos (starEach [b] X.env)).any (·.1)=false:=by rfl) :
 PI X (.Tuple es kk pp) (.Call (.Name "zip" p) [a,b] [] pos) (rJ X.K ta):=by
 intro pins s σ H R I h
 refine Call_ (fj I hg hm boot_zip (PyProof.Rows.callWith_type1 (aj (ha pos pins s σ H _ I h) λus s1 ⟨vs,H1,I1,r1,q1⟩=>?_) hs hpl))
 obtain⟨l1,l2,xs,ys,e,hq,hq2,q⟩:=q1
 subst e
 cases r1 with
 | cons r rr =>
  cases rr with
  | cons r' rr =>
   cases rr
   cases r
   cases r'
   obtain⟨its,rv,pl,hz⟩:=I1.list hq
   obtain⟨its2,rv2,pl2,hz2⟩:=I1.list hq2
   have ll1:l1 < s1.heap.objs.size:=by obtain⟨o,_,e,_⟩:=pl; exact Heap.lt_size e
   have ll2:l2 < s1.heap.objs.size:=by obtain⟨o,_,e,_⟩:=pl2; exact Heap.lt_size e
   have D:ZipApart (s1.heap.objs.size+4) (s1.heap.objs.size+2) (s1.heap.objs.size+3) s1.heap.objs.size (s1.heap.objs.size+1) l1 l2:=uK _ _ _ ll1 ll2
   refine call_zip_2 pl.isList pl2.isList λh' hz hTI hTO hi1 hi2 hsz hk=>?_
   refine wpAny_pyIter_zip (s:={ s1 with heap:=h' }) hz ?_
   have I2:ad X pins σ H1 { s1 with heap:=h' }:=I1.kept (t':=s1.toks) hk
   refine⟨s1.heap.objs.size+4,_,_,kh X.K l1 l2,H1,rfl,I2,uW l1 l2 _ _ _ _ _ D,⟨hz,hTI,⟨_,_,hTO⟩,hi1,hi2⟩,λb hb=>?_,q⟩
   have hb':b=s1.heap.objs.size+4\/b=s1.heap.objs.size+2\/b=s1.heap.objs.size+3\/b=s1.heap.objs.size\/b=s1.heap.objs.size+1:=by simpa using hb
   have hle:s1.heap.objs.size<=b:=by rcases hb' with w | w | w | w | w <;> rw[w] <;> first | exact Nat.le_add_right _ _ | exact Nat.le_refl _
   exact I1.fpOk hle (I1.hok.fresh hle)
theorem B5{K:W.Frag}{a:Addr}{xs:List V}{cs:St}{tt:TT}{te:TE}{H:Hp}{Q:VK}(Pv:Nat->List V->Hp->Prop)(h0:Pv 0 [] H)(hl : ∀ i ys H,i<=xs.length->Pv i ys H->ax K H a xs/\ys.length<=i)(hz:xs.length<=sizeLine)
 (hs : ∀ i x ys H H' (N:List V->Hp->Prop),xs[i]? = some x->Pv i ys H->af H H'->(∀ ys' H',Pv (i+1) ys' H'->N ys' H')->tt (some (.int (i:Int)) :: some x :: cs) H' λb H4=>if b=true then te (some (.int (i:Int)) :: some x :: cs) H4 λy H5=>N (ys++[y]) H5 else N ys H4)
 (hd : ∀ ys H p H',Pv xs.length ys H->aO H p (.lst ys) H'->Q (.ref p) H') :
 eV (gp K a) H (List.replicate 2 none++cs) (fW K 2 (dZ (bD 0) (dZ (bD 1) ij))) tt te Q:=by
 refine⟨λi m ys σ H=>m=xs.length - i/\i<=xs.length/\Pv i ys H/\∃ v0 v1,σ=v0 :: v1 :: cs,⟨xs.length,by simp,Nat.zero_le _,h0,none,none,rfl⟩,?_⟩
 rintro i m ys σ H2 ⟨rfl,hi,p,v0,v1,rfl⟩
 obtain⟨q,ql⟩:=hl i ys H2 hi p
 by_cases hlt:i < xs.length
 ·refine .inr ⟨⟨xs,xs[i],q,by simp[hlt]⟩,by omega,λys' σ' H'=>Pv (i+1) ys' H'/\∃ v0 v1,σ'=v0 :: v1 :: cs,λys' σ' H' ⟨p',e⟩=>⟨xs.length - (i+1),by omega,rfl,hlt,p',e⟩,λx H' y=>?_⟩
  obtain⟨pp,v,rfl,y,gr⟩:=y
  refine⟨pp,_,rfl,gr.tup,rfl,_,_,rfl,_,_,rfl,rfl,?_⟩
  exact hs i v ys H2 H' (λys' H'=>Pv (i+1) ys' H'/\∃ v0 v1,some (V.int (i:Int)) :: some v :: cs=v0 :: v1 :: cs) (y xs q) p gr.sm λ_ _ z=>⟨z,_,_,rfl⟩
 ·have e:i=xs.length:=by omega
  subst e
  exact .inl ⟨⟨xs,q,Nat.le_refl _⟩,by omega,λp' H' g=>hd ys H2 p' H' p g⟩
theorem B2{K:W.Frag}{a b:Addr}{xs zs:List V}{cs:St}{tt:TT}{te:TE}{H:Hp}{Q:VK}(hlen:zs.length=xs.length)(Pv:Nat->List V->Hp->Prop)(h0:Pv 0 [] H)(hl : ∀ i ys H,i<=xs.length->Pv i ys H->ax K H a xs/\ax K H b zs/\ys.length<=i)(hz:xs.length<=sizeLine)
 (hs : ∀ i x z ys H H' (N:List V->Hp->Prop),xs[i]? = some x->zs[i]? = some z->Pv i ys H->af H H'->(∀ ys' H',Pv (i+1) ys' H'->N ys' H')->tt (some x :: some z :: cs) H' λb H4=>if b=true then te (some x :: some z :: cs) H4 λy H5=>N (ys++[y]) H5 else N ys H4)
 (hd : ∀ ys H p H',Pv xs.length ys H->aO H p (.lst ys) H'->Q (.ref p) H') :
 eV (kh K a b) H (List.replicate 2 none++cs) (fW K 2 (dZ (bD 0) (dZ (bD 1) ij))) tt te Q:=by
 refine⟨λi m ys σ H=>m=xs.length - i/\i<=xs.length/\Pv i ys H/\∃ v0 v1,σ=v0 :: v1 :: cs,⟨xs.length,by simp,Nat.zero_le _,h0,none,none,rfl⟩,?_⟩
 rintro i m ys σ H2 ⟨rfl,hi,p,v0,v1,rfl⟩
 obtain⟨q,q2,ql⟩:=hl i ys H2 hi p
 by_cases hlt:i < xs.length
 ·refine .inr ⟨⟨xs,zs,xs[i],zs[i]'(by omega),q,by simp[hlt],q2,by simp[hlen,hlt]⟩,by omega,λys' σ' H'=>Pv (i+1) ys' H'/\∃ v0 v1,σ'=v0 :: v1 :: cs,λys' σ' H' ⟨p',e⟩=>⟨xs.length - (i+1),by omega,rfl,hlt,p',e⟩,λx H' y=>?_⟩
  obtain⟨pp,v,u,rfl,y,y2,gr⟩:=y
  refine⟨pp,_,rfl,gr.tup,rfl,_,_,rfl,_,_,rfl,rfl,?_⟩
  exact hs i v u ys H2 H' (λys' H'=>Pv (i+1) ys' H'/\∃ v0 v1,some v :: some u :: cs=v0 :: v1 :: cs) (y xs q) (y2 zs q2) p gr.sm λ_ _ z=>⟨z,_,_,rfl⟩
 ·have e:i=xs.length:=by omega
  subst e
  exact .inl ⟨⟨xs,zs,q,q2,.inl (Nat.le_refl _)⟩,by omega,λp' H' g=>hd ys H2 p' H' p g⟩
section
variable {X:Cx}{K:W.Frag}{a b c e o:Expr}{es rest:List Expr}{pos p p2 pos2:Pos}{t:TA}{kk:Nat}
theorem Ci (h:X.K=K) (hc:X.calm=true):bp X (.builtin "sum") (lY K):=by subst h; exact Cj hc
theorem jr (h:X.K=K) (hg:Gl X "enumerate") (hm:X.mg "enumerate" = none) (ha:QA X [a] t) (hs:cY a=false:=by rfl):QI X (.Tuple es kk p2) (.Call (.Name "enumerate" p) [a] [] pos) (rN K t):=by subst h; exact⟨yh hg hm ha.h (cQ hs)⟩
theorem w9 (h:X.K=K) (hg:Gl X "zip") (hm:X.mg "zip" = none) (ha:QA X [a,b] t) (hs:cY a=false:=by rfl) (hs2:cY b=false:=by rfl):QI X (.Tuple es kk p2) (.Call (.Name "zip" p) [a,b] [] pos) (rJ K t):=by
 subst h
 exact⟨yb hg hm ha.h (cQ hs) (by rw[cQ hs2]; rfl)⟩
end
theorem aO.after{H H1 H2:Hp}{p:Addr}{o:HO}(s:af H H1)(g:aO H1 p o H2):aO H p o H2:=⟨s.free g.nw,s.trans g.sm,g.at_⟩
theorem oU{α:Type}{rs:List α}{i:Nat}{y:α}(h:rs[i]? = some y):rs.take (i+1)=rs.take i++[y]:=by rw[List.take_add_one,h]; rfl
theorem AR{α β:Type}{xs:List α}{rs:List β}{i:Nat}{x:α}(hl:rs.length=xs.length)(h:xs[i]? = some x) : ∃ y,rs[i]? = some y:=by
 have:=(List.getElem?_eq_some_iff.mp h).1
 exact⟨rs[i]'(by omega),by simp⟩
theorem j3{K:W.Frag}{a:Addr}{xs:List V}{cs:St}{te:TE}{H:Hp}{Q:VK}(rs:List V)(hl:rs.length=xs.length)(hq:ax K H a xs)(hz:xs.length<=sizeLine)
 (hs : ∀ (i:Nat) x y H' (N:VK),xs[i]? = some x->rs[i]? = some y->af H H'->(∀ H'',af H' H''->N y H'')->te (some x :: cs) H' N) (hd : ∀ p H',aO H p (.lst rs) H'->Q (.ref p) H') :
 eV (gn K a) H (List.replicate 1 none++cs) (bD 0) dN te Q:=by
 refine ti (λi ys H'=>af H H'/\ys=rs.take i) ⟨af.refl _,rfl⟩ (λi ys H' hi z=>⟨z.1.seq hq,by rw[z.2,List.length_take]; omega⟩) hz (λi x ys H' N hx z hN=>?_) λys H' p H'' z g=>?_
 ·obtain⟨s,rfl⟩:=z
  obtain⟨y,hy⟩:=AR hl hx
  simp only [dN,if_true]
  exact hs i x y H' _ hx hy s λH'' s'=>hN _ _ ⟨s.trans s',by rw[oU hy]⟩
 ·obtain⟨s,rfl⟩:=z
  rw[<- hl,List.take_length]at g
  exact hd p H'' (g.after s)
theorem jJ{ns:List Int}{i:Nat}{x:V}(h:(ns.map V.int)[i]? = some x) : ∃ p,ns[i]? = some p/\x=.int p:=by
 rw[List.getElem?_map]at h
 cases e:ns[i]? with
 | none=>rw[e]at h; cases h
 | some p=>rw[e]at h; cases h; exact⟨p,rfl,rfl⟩
theorem kP{t u:TS}{D:cH}{σ:St}{H:Hp}(M:St->Hp->Prop)(h1 : ∀ nx:St->Hp->Prop,(∀ σ' H',M σ' H'->nx σ' H')->t { D with nx:=nx } σ H)(h2 : ∀ σ' H',M σ' H'->u D σ' H'):i9 t u D σ H:=h1 (u D) h2
structure ko (P:Program) (w:World) (K:W.Frag) (mg:Str->Option Value) (base:Heap) (C:Addr) (m:Str) (k:Nat) (f:Addr) (fd:FuncData) (ps:List Str) (sp:Sp):Prop where
 c:cO K C
 mt:fD K C m f
 b:aA K fd ps []
 ok:bw P w K mg base ca k f fd ps sp
structure DE (P:Program) (w:World) (K:W.Frag) (mg:Str->Option Value) (base:Heap) (x:Str) (C:Addr) (k:Nat) (f:Addr) (fd:FuncData) (ps:List Str) (sp:Sp):Prop where
 g:mg x=some (.ref C)
 mkx:Mk K C f
 b:aA K fd ps []
 ok:bw P w K mg base ca k f fd ps sp
section
variable {X:Cx}{K:W.Frag}{k j:Nat}{f C:Addr}{fd:FuncData}{ps:List Str}{sp:Sp}{x m:Str}{p pos apos pos':Pos}{e o value:Expr}{es:List Expr}{ta tv:TE}{t:TA}
theorem lm{X:Cx}:fA ca X E0:=λ_ _ _ _ _ _ _ z=>z.elim
theorem xo{pl:Sem Bool}(F:ko X.prog X.w X.K X.mg X.base C m j f fd ps sp)(hr:aQ k X.A)(ho:QE X o ta)(ha:QA X (e :: es) t)(hj:j<=k:=by decide)(hn:ci (e :: es)=true:=by rfl)
 (ht:eval (.Call (.Attribute o m apos) (e :: es) [] pos) X.env=(do
   let ov <- eval o X.env
   standAt apos.atName
   let (f,first) <- holding [ov] (getMethod ov m pl)
   callWith pos f first (backTo pos (starEach (e :: es) X.env)) (backToKw pos (keywordEach [] X.env))):=by rfl) :
 QE X (.Call (.Attribute o m apos) (e :: es) [] pos) (jc C m sp [] E0 ta t) :=
 ⟨yy (pl:=pl) ho.h F.c F.mt F.ok (hr.mono hj) F.b .nil lm ha.h (cQ (cX hn).1) (fS (cX hn).2) ht⟩
theorem qq{pl:Sem Bool}(F:ko X.prog X.w X.K X.mg X.base C m j f fd ps sp)(hr:aQ k X.A)(ho:QE X o ta)(hj:j<=k:=by decide)
 (ht:eval (.Call (.Attribute o m apos) [] [] pos) X.env=(do
   let ov <- eval o X.env
   standAt apos.atName
   let (f,first) <- holding [ov] (getMethod ov m pl)
   callWith pos f first (backTo pos (starEach [] X.env)) (backToKw pos (keywordEach [] X.env))):=by rfl) :
 QE X (.Call (.Attribute o m apos) [] [] pos) (jc C m sp [] E0 ta ja) :=
 ⟨yx (pl:=pl) ho.h F.c F.mt F.ok (hr.mono hj) F.b .nil lm ht⟩
theorem ju{f:Str}(h:X.K=K)(he:QE X e ta)(hb:attributeBase e f X.env (eval e X.env)=eval e X.env:=by rfl):QE X (.Attribute e f pos) (pD K ta f):=by subst h; exact⟨yD he.h hb⟩
theorem lf{f:Str}(h:X.K=K)(ha:QE X o ta)(hv:QE X value tv)(hs:swapsWith value (some (.Attribute o f pos')) pos.line X.env=pure false:=by rfl):QS X (.Assign [.Attribute o f pos'] value pos) (pW K ta tv f):=by subst h; exact⟨xW ha.h hv.h hs⟩
end
structure Dx (K:W.Frag) (C:Addr):Prop where
 makes:W.makesIn K C=true
 init:W.findIn K (.ref C) "__init__" = some (some (.builtin "object.__init__"))
 kp:W.keepIn K (.ref C)=true
structure DJ (K:W.Frag) (x qual:Str) (st:Stmt) (f:Addr) (fd:FuncData) (vs:List Value):Prop where
 ex : ∃ (oc:Value) (od:Option Addr) (kV doc pm:Value) (an:Option Addr) (cdv ct:Value) (osl:Array (Option Value)) (d:Addr) (dc:Value) (dd:Option Addr) (n:Nat) (dsl:Array (Option Value)),
  fd=W.fnOf x qual (aP st) (aJ st) (ak st) (.ref d) kV doc pm an cdv ct/\K.lookup f=some ⟨oc,od,.func fd,osl⟩/\W.codeIn K cdv qual=true/\K.lookup d=some ⟨dc,dd,.seq vs.toArray n,dsl⟩
 kp:W.keepIn K (.ref f)=true
structure DC (P:Program) (w:World) (K:W.Frag) (mg:Str->Option Value) (base:Heap) (C:Addr) (m:Str) (k:Nat) (f:Addr) (fd:FuncData) (ps:List Str) (dvs:List V) (sp:Sp):Prop where
 c:cO K C
 mt:fD K C m f
 b : ∃ ds,aA K fd ps ds/\ar dvs ds
 ok:bw P w K mg base ca k f fd ps sp
def vI:Value->Option Int
 | .int k _=>some k
 | _=>none
def vR:Value->Option Addr
 | .ref a=>some a
 | _=>none
def dictOf:List DictEntry->Option (List (Int × Addr))
 | []=>some []
 | e :: r=>(vI e.key).bind λk=>(vR e.val).bind λa=>if e.hash == hashInt k then (dictOf r).bind λl=>some ((k,a) :: l) else none
structure DL (K:W.Frag) (a:Addr) (m:List (Int × Addr)):Prop where
 ex : ∃ es ep,K.lookup a=some ⟨.type "dict",none,.dict es ep,#[]⟩/\dictOf es.toList=some m
 nd:(m.map (·.1)).Nodup
 ns:(a == sysModules)=false
structure iV (h:Heap) (e C:Addr) (od:Option Addr) (tb:Value) (oe:Obj) (vs:Array Value) (q:Bool:=false):Prop where
 at_:h.get? e=some oe
 cls:oe.cls=.ref C
 dict:oe.dict=od
 data:oe.data=.fields vs
 size:vs.size=6
 tb1:vs[1]? = some tb
 cx:q=false->vs[2]? = some .none
def ow(h:Heap)(e T:Addr)(fl:Value):Prop:=∃ oT ts,h.get? T=some oT/\oT.data=.fields ts/\ts[3]? = some fl/\T≠e
section
variable {M:Model}{A:Around}{E:Value->Shared->Prop}{s:Shared}
structure Dw (l:List Env) (e C T':Addr) (od:Option Addr) (tb fl:Value) (h h':Heap) (q:Bool:=false):Prop where
 keep : ∀ b o,h.get? b=some o->b≠e->.ref b≠tb->b∉cb l->h'.get? b=some o
 slot : ∀ b o,h.get? b=some o->b∈cb l->∃ sl,h'.get? b=some { o with slots:=sl }
 there : ∀ b o,h.get? b=some o->∃ o',h'.get? b=some o'
 new:h.objs.size<=T'
 size:h.objs.size<=h'.objs.size
 exc : ∃ oe vs,iV h' e C od (.ref T') oe vs q
 ent:ow h' e T' fl
def Dk(h:Heap)(e:Addr)(tb:Value):Prop:=tb=.none\/∃ T,tb=.ref T/\ow h e T .none
end
def xφ(e C:Addr)(od:Option Addr)(q:Bool):Heap->Prop:=λh=>∃ tb oe vs,iV h e C od tb oe vs q
def xν(e C:Addr)(od:Option Addr):Heap->Prop:=λh=>∃ oe vs,iV h e C od .none oe vs
def XO(e C:Addr)(od:Option Addr)(q:Bool:=false):HO:=.ext (xφ e C od q)
def XN(e C:Addr)(od:Option Addr):HO:=.ext (xν e C od)
def oG(P:Program)(w:World):cP:=λouter H s E v s'=>∃ (e C T:Addr) (od:Option Addr) (q:Bool) (H':Hp) (oe:Obj) (vs:Array Value),v=.ref e/\s'.os=s.os/\AllBare s'.gens /\
 Un (cb outer) [] H H' s.heap s'.heap/\aN P w H' s'.heap/\H' e=some (XO e C od q)/\s.heap.get? e=none/\s.heap.objs.size<=T/\s.heap.objs.size<=s'.heap.objs.size/\H' T=none /\
 iV s'.heap e C od (.ref T) oe vs q/\ow s'.heap e T .none/\E (.ref C) (some e) H'
def Dn(X:Cx)(pins:List (Addr × Obj))(Es:St->XK)(v:Value)(s':Shared):Prop:=∃ (σ:St) (H':Hp) (e C:Addr) (od:Option Addr) (q:Bool) (tb:Value) (oe:Obj) (vs:Array Value),v=.ref e/\ad X pins σ H' s' /\
 H' e=some (XO e C od q)/\iV s'.heap e C od tb oe vs q/\Dk s'.heap e tb/\(∀ T,tb=.ref T->H' T=none/\X.s₀.heap.objs.size<=T/\∀ p∈X.pn++pins,p.1≠T)/\(X.ex=[]->X.s₀.heap.get? e=none)/\Es σ (.ref C) (some e) H'
structure Dy (X:Cx) (Es:St->XK):Prop where
 up : ∀ pins v s',Dn X pins Es v s'->X.xe v s'
structure DA (P:Program) (w:World) (K:W.Frag) (mg:Str->Option Value) (base:Heap) (x:Str) (k:Nat) (f:Addr) (fd:FuncData) (ps:List Str) (dvs:List V) (sp:Sp):Prop where
 g:mg x=some (.ref f)
 kp:W.keepIn K (.ref f)=true
 b : ∃ ds,aA K fd ps ds/\ar dvs ds
 ok:bw P w K mg base (oG P w) k f fd ps sp
structure DB (P:Program) (w:World) (K:W.Frag) (mg:Str->Option Value) (base:Heap) (C:Addr) (m:Str) (k:Nat) (f:Addr) (fd:FuncData) (ps:List Str) (dvs:List V) (sp:Sp):Prop where
 c:cO K C
 mt:fD K C m f
 b : ∃ ds,aA K fd ps ds/\ar dvs ds
 ok:bw P w K mg base (oG P w) k f fd ps sp
structure DD (P:Program) (w:World) (K:W.Frag) (mg:Str->Option Value) (base:Heap) (x:Str) (C:Addr) (k:Nat) (f:Addr) (fd:FuncData) (ps:List Str) (dvs:List V) (sp:Sp):Prop where
 g:mg x=some (.ref C)
 mkx:Mk K C f
 b : ∃ ds,aA K fd ps ds/\ar dvs ds
 ok:bw P w K mg base (oG P w) k f fd ps sp
abbrev tL:List Value:=[.type "ValueError",.type "Exception",.type "BaseException",.type "object"]
structure t5 (P:Program) (w:World) (K:W.Frag) (mg:Str->Option Value) (base:Heap) (x:Str) (C:Addr) (k:Nat) (f:Addr) (fd:FuncData) (ps:List Str) (dvs:List V) (sp:Sp):Prop where
 g:mg x=some (.ref C)
 mkx:Mk K C f
 b : ∃ ds,aA K fd ps ds/\ar dvs ds
 ok:bw P w K mg base ca k f fd ps sp
section
variable {X:Cx}{k j:Nat}{f C:Addr}{fd:FuncData}{ps:List Str}{sp:Sp}{x:Str}{p pos:Pos}{e:Expr}{es:List Expr}{t:TA}{dvs:List V}
theorem xt(F:t5 X.prog X.w X.K X.mg X.base x C j f fd ps dvs sp)(hr:aQ k X.A)(ha:QA X (e :: es) t)(hj:j+1<=k:=by decide)(hg:Gl X x:=by rfl)(hdb:(x == ("__debug__" : Str))=false:=by decide)(hn:ci (e :: es)=true:=by rfl) :
 QE X (.Call (.Name x p) (e :: es) [] pos) (pA C sp dvs E0 t):=by
 obtain⟨ds,hb,hd⟩:=F.b
 exact⟨yz F.mkx F.ok (hr.mono hj) hg F.g hb hd lm ha.h hdb (cQ (cX hn).1) (fS (cX hn).2)⟩
end
end L2
namespace L2
open PySem PySem.Spec PyProof.Rows PySem.W
structure om (K:W.Frag) (C:Addr):Prop where
 ga:findIn K (.ref C) "__getattribute__" = some (some (.builtin "BaseException.__getattribute__"))
 noga:findIn K (.ref C) "__getattr__" = some none
 base:mroIn K C (.type "BaseException")=some true
 obj:mroIn K C (.type "object")=some true
 hd:hasDictIn K C=true
 cls:findIn K (.ref C) "__class__" = some (some (.builtin "object.__class__"))
 clsG:specialIn K (.builtin "object.__class__") "__get__" = some (some (.builtin "getset_descriptor.__get__"))
 clsT:takesIn K (.builtin "object.__class__")=some true
inductive ou (K:W.Frag) (H:Hp):V->Value->Prop where
 | of {x:V} {t:Value} (h:ce K H x t):ou K H x t
 | exc {e C:Addr} {q:Bool} (h:H e=some (XO e C none q)) (c:om K C):ou K H (.ref e) (.ref C)
def sy(K:W.Frag)(C:Addr)(bmB:List Value)(newId:String):Bool:=match K.lookup C with
 | some ⟨.type "type",_,.cls cd,sl⟩=>(match cd.mro,sl.toList with
  | .ref C' :: bm,[_,_,_,_,some (.builtin n),_]=>C' == C && (n == newId && (!cd.hasDel && (W.tailIn K bmB bm && W.nsOkIn K cd.ns)))
  | _,_=>false)
 | _=>false
structure tZ (K:W.Frag) (C f:Addr):Prop where
 x:sy K C tL "ValueError.__new__" = true
 init:W.findIn K (.ref C) "__init__" = some (some (.ref f))
 fn:W.isFn K (.ref f)=true
 kp:W.keepIn K (.ref C)=true
structure DH (P:Program) (w:World) (K:W.Frag) (mg:Str->Option Value) (base:Heap) (x:Str) (C:Addr) (k:Nat) (f:Addr) (fd:FuncData) (ps:List Str) (sp:Sp):Prop where
 g:mg x=some (.ref C)
 mkx:tZ K C f
 b:aA K fd ps []
 ok:bw P w K mg base ca k f fd ps sp
section
variable {X:Cx}{pins:List (Addr × Obj)}{σ:St}{H:Hp}{s:Shared}{h':Heap}{e C d0:Addr}{fs:List (Str × V)}{f:Str}
structure Dv (K:W.Frag) (C:Addr):Prop where
 x:sy K C tL "ValueError.__new__" = true
 c:om K C
 sa:W.findIn K (.ref C) "__setattr__" = some (some (.builtin "object.__setattr__"))
end
structure DN (K:W.Frag) (Y:Addr):Prop where
 sp:W.specialIn K (.ref Y) "__getattribute__" = some (some (.builtin "type.__getattribute__"))
 rd:W.readsIn K Y (.type "type")=true
 fc:W.findCls K (.ref Y) (.type "type") "__init__" = some (.val (.builtin "ValueError.__init__"))
inductive tS (K:W.Frag) (H:Hp):V->Value->Prop where
 | of {x:V} {t:Value} (h:ou K H x t):tS K H x t
 | exd {e C d0:Addr} {fs:List (Str × V)} (h:H e=some (XN e C (some d0))\/∃ q,H e=some (XO e C (some d0) q)) (hd:H d0=some (.xd fs)) (c:om K C):tS K H (.ref e) (.ref C)
structure Dl (k:Nat) (A:Around):Prop where
 dp:A.depth+3*k+5 < recursionLimit
 un:A.units+16*k+200 < cLine
structure ub (P:Program) (w:World) (K:W.Frag) (mg:Str->Option Value) (base:Heap) (k:Nat) (f:Addr) (fd:FuncData) (ps:List Str) (sp:Sp):Prop where
 len : ∀ vs H Q E,sp vs H Q E->vs.length=ps.length
 run : ∀ (A:Around) (outer:List Env) (s:Shared) (H:Hp) (args:Args) (us:List Value) (vs:List V) (Q:VK) (E:XK),Dl k A->de P w K mg base A outer s H->BindsTo s fd args (ps.zip us)->ar vs us->sp vs H Q E ->
  codeAny (model P w) A (.call (.ref f) args) (CR ca outer P w H s Q E) s
structure DG (P:Program) (w:World) (K:W.Frag) (mg:Str->Option Value) (base:Heap) (x:Str) (C:Addr) (k:Nat) (f:Addr) (fd:FuncData) (ps:List Str) (sp:Sp):Prop where
 g:mg x=some (.ref C)
 mkx:tZ K C f
 b:aA K fd ps []
 ok:ub P w K mg base k f fd ps sp
section
variable {X:Cx}{k j:Nat}{f C:Addr}{fd:FuncData}{ps:List Str}{sp:Sp}{x m:Str}{p pos:Pos}{e:Expr}{es:List Expr}{t:TA}{dvs:List V}{ds:List Value}{Es:St->XK}
structure DF (P:Program) (w:World) (K:W.Frag) (mg:Str->Option Value) (base:Heap) (x:Str) (k:Nat) (f:Addr) (fd:FuncData) (ps:List Str) (sp:Sp):Prop where
 g:mg x=some (.ref f)
 kp:W.keepIn K (.ref f)=true
 b:aA K fd ps []
 ok:ub P w K mg base k f fd ps sp
end
section
variable {X:Cx}{K:W.Frag}{o i value:Expr}{td ty tv:TE}{pos pos':Pos}
theorem jv(hu:X.A.units+64 < cLine)(ho:QE X o td)(hi:QE X i ty)(hs:iZ i:=by intro _ _; rfl):QE X (.Subscript o i pos) (pF td ty):=⟨yG (by omega) ho.h hi.h hs⟩
theorem iN(hu:X.A.units+64 < cLine)(ho:QE X o td)(hi:QE X i ty)(hv:QE X value tv)(hs:swapsWith value (some (.Subscript o i pos')) pos.line X.env=pure false:=by rfl):QS X (.Assign [.Subscript o i pos'] value pos) (pX td ty tv):=⟨xY (by omega) ho.h hi.h hv.h hs⟩
end
section
variable {X:Cx}{K:W.Frag}
def By:R2:=λy x H Q=>∃ a ov,x=.ref a/\dz H a y ov/\Q (.bl ov.isSome) H
theorem Bm(hu:X.A.units+64 < cLine):aG X (compareOp .In) By:=by
 intro pins s σ H x y v u Q I rx ry q
 obtain⟨a,ov,rfl,g,q⟩:=q
 obtain rfl:u=Value.ref a:=ry
 exact BR (by omega) I g rx λs' I'=>⟨.bl ov.isSome,H,I',rfl,q⟩
end
section
open HT
variable {prog:Program}{w:World}{A:Around}{E:Value->Shared->Prop}{s:Shared}
theorem AU{t sl:Addr}{items:Array Value}{vl vu:Value}{lo hi:Option Int}{Q:Value->Shared->Prop}(ht:IsTup s.heap t items)(hs:s.heap.IsSliceOf sl vl vu .none)(pl:IsPart vl lo)(pu:IsPart vu hi)
 (hw:sIx items.size 0 lo=0/\sIx items.size items.size hi=items.size) (h:Q (.ref t) s):wpAny (model prog w) A (getItem (.ref t) (.ref sl)) Q E s:=by
 obtain⟨os,hos,hcs,hds⟩:=id hs
 have hTs:s.TypeIs (.ref sl) "slice":=⟨os,hos,hcs⟩
 unfold getItem
 try with_reducible refine wpAny_holding ?_
 first | refine wpAny_bind (wpAny_pure ?_) | skip
 refine wpAny_bind (wpAny_sequenceKey ht.typeIs (by decide) ?_)
 refine wpAny_bind (wpAny_callSpecial?_slot (name:=Str.ofString "__getitem__") ht.typeIs PyProof.Rows.slot_tuple_getitem
  (wpAny_call_entry PyProof.Rows.slot_tuple_getitem ht.typeIs entry_tuple_getitem ?_ (args_tuple_getitem _ _)))
 show wpAny _ _ (Builtin.Tuple.tupleItemsOf (.ref t) >>= _) _ _ s
 refine wpAny_bind (tupleItemsOf_ ht ?_)
 refine wpAny_bind (wpAny_typeOf hTs ?_)
 rw[if_pos (by decide)]
 refine wpAny_bind (pO hs pl pu ?_)
 have hyes:((((sIx items.size 0 lo:Nat):Int) == 0 && (1:Int) == 1 && (sIx items.size items.size hi - sIx items.size 0 lo) == items.size)=true):=by
  rw[hw.1,hw.2]
  simp
 show wpAny _ _ (if (((sIx items.size 0 lo:Nat):Int) == 0 && (1:Int) == 1 && (sIx items.size items.size hi - sIx items.size 0 lo) == items.size)=true then _ else _) _ _ s
 rw[if_pos hyes]
 unfold Builtin.Tuple.tupleIsExact
 refine wpAny_bind (wpAny_bind (wpAny_typeOf ht.typeIs (wpAny_pure ?_)))
 rw[if_pos (by decide)]
 refine wpAny_bind (wpAny_rule ?_)
 first
  | exact wpAny_pure ⟨_,rfl,wpAny_pure h⟩
  | exact wpAny_bind (wpAny_pure ⟨_,rfl,wpAny_pure h⟩)
  | exact wpAny_bind (wpAny_pure (wpAny_pure ⟨_,rfl,wpAny_pure h⟩))
end
section
variable {X:Cx}{K:W.Frag}{pos:Pos}
def zJ:TE:=λ_ H Q=>∀ p H',aO H p (.dT []) H'->Q (.ref p) H'
theorem qw:QE X (.Dict [] [] pos) zJ:=⟨yE.imp λσ H Q q=>λp hp=>q p _ (.mk' hp)⟩
def se(K:W.Frag):V->Option Int->Option Int->Hp->VK->Prop:=λx lo hi H Q=>match x with
 | .ref a=>∃ xs,bu K H a xs/\H a=some (.tup xs)/\∀ p H',af H H'->H' p=some (.tup (cF xs lo hi))->Q (.ref p) H'
 | _=>False
theorem A9:fz X (se X.K):=by
 intro pins s σ H x v vl vu lo hi sl Q I rx hs pl pu q
 cases x with
 | ref a =>
  obtain⟨xs,h1,h2,q⟩:=q
  by_cases hw:HT.sIx xs.length 0 lo=0/\HT.sIx xs.length xs.length hi=xs.length
  ·cases rx
   obtain⟨its,r,ht,hz⟩:=I.tuple h1
   have hlen:its.toArray.size=xs.length:=by rw[List.size_toArray]; exact r.length.symm
   refine⟨"tuple",_,PyProof.Rows.slot_tuple_getitem.lookup,ht.typeIs,?_⟩
   refine AU ht hs pl pu (by rw[hlen]; exact hw) ?_
   refine⟨.ref a,H,I,rfl,q a H (af.refl _) ?_⟩
   rw[h2]
   unfold cF
   rw[hw.1,hw.2,List.drop_zero,List.take_of_length_le (by omega)]
  ·exact we pins s σ H _ v vl vu lo hi sl Q I rx hs pl pu ⟨a,xs,rfl,h1,hw,λp hp=>q p _ (aO.mk' hp).sm (aO.mk' hp).at_⟩
 | _=>exact False.elim q
theorem rZ(h:X.K=K):fz X (se K):=by subst h; exact A9
end
theorem Paired.nth{α β:Type}{F:α->β->Prop} : ∀ {l₁:List α} {l₂:List β},Paired F l₁ l₂->∀ {i:Nat} {a:α} {b:β},l₁[i]? = some a->l₂[i]? = some b->F a b
 | _,_,.nil,_,_,_,h,_=>by simp at h
 | _,_,.cons r t,0,_,_,h,h'=>by simp at h h'; subst h; subst h'; exact r
 | _,_,.cons r t,i+1,_,_,h,h'=>Paired.nth t (i:=i) (by simpa using h) (by simpa using h')
theorem zY{P:Program}{w:World}{k:am}{u:Value}(h:(bM P w).is k u=true):au (kV k) u:=by
 rw[zn]at h
 cases k with
 | inl i =>
  cases u <;> simp[eN,Value.isInt]at h
  subst h
  exact⟨_,rfl⟩
 | inr x =>
  cases u <;> simp[eN,Value.isStrOf]at h
  subst h
  exact⟨_,rfl⟩
theorem sL:entryFor table "dict_itemiterator.__iter__" = some Builtin.«dict_keyiterator.__iter__» :=
 entryFor_alias (id' := "dict_keyiterator.__iter__") (by kernel_rfl) (by first | rfl | decide +kernel | (unfold String.splitOn; simp +decide [String.splitOnAux])) (by decide +kernel) (by kernel_rfl)
def gk(d:Addr)(ob:Obj)(kvs:List (am × V)):It :=
 ⟨λi H=>H d=some (.frz ob (.dK kvs))/\i < kvs.length,λi H x H'=>∃ p k v,x=.ref p/\kvs[i]? = some (k,v)/\aO H p (.tup [kV k,v]) H',λi H=>H d=some (.frz ob (.dK kvs))/\kvs.length<=i⟩
theorem jN{X:Cx}{pins:List (Addr × Obj)}{σ:St}{H:Hp}{s:Shared}{d:Addr}{ob:Obj}{kvs:List (am × V)}{es:Array DictEntry}{ep:Nat}(I:ad X pins σ H s)(h:H d=some (.frz ob (.dK kvs)))(he:ob.data=.dict es ep) : ∃ vs,KV kvs vs/\s.heap.DictAt (bM X.prog X.w) d vs ep:=by
 obtain⟨e1,z,hd,vs,rel,o',es',ep',e2,c1,c2,c3⟩:=I.hok d _ h
 rw[e1]at e2; cases e2
 rw[he]at c2; cases c2
 exact⟨vs,rel,ob,es,e1,c1,he,c3⟩
theorem vd{P:Program}{w:World}{K:W.Frag}{tes:List Expr}{kk:Nat}{pp:Pos}(d it:Addr)(ob:Obj)(kvs:List (am × V))(es:Array DictEntry)(ep:Nat)(he:ob.data=.dict es ep)(hdi:d≠it):dw P w K (.Tuple tes kk pp) (gk d ob kvs) [it] it (λi h=>∃ ok ov,IsItemIter h it d i kvs.length ep ok ov) where
 mem:=by simp
 obj:=λi h st b hb=>by
  obtain⟨ok,ov,h1⟩:=st
  have hb':b=it:=by simpa using hb
  subst hb'
  exact⟨_,h1,λv z=>by cases (show Data.fields _=Data.cell v from z)⟩
 keep:=λi h h' st k=>by
  obtain⟨ok,ov,h1⟩:=st
  exact⟨ok,ov,k it (by simp) _ h1⟩
 item:=by
  intro X hP hw hK hc i pins s σ H E I hf st hg
  subst hP hw hK
  obtain⟨ok,ov,h1⟩:=st
  obtain⟨hq,hi⟩:=hg
  obtain⟨vs,rel,da⟩:=jN I hq he
  have hl:=rel.length
  obtain⟨⟨k,v⟩,hkv⟩ : ∃ kv,kvs[i]? = some kv:=⟨_,List.getElem?_eq_getElem hi⟩
  obtain⟨⟨k',u⟩,hvs,hk',ru⟩ : ∃ q,vs[i]? = some q/\k=q.1/\au v q.2:=by
   obtain⟨q,hq2⟩ : ∃ q,vs[i]? = some q:=⟨_,List.getElem?_eq_getElem (by omega)⟩
   exact⟨q,hq2,Paired.nth rel hkv hq2⟩
  obtain rfl:k=k':=hk'
  have hilt:it < s.heap.objs.size:=Heap.lt_size h1
  rw[hl]at h1
  refine wpAny_pyNext_items_item h1 da hvs λkey h' hkey ho hT hsz hk=>?_
  refine⟨_,rfl,wpAny_letOwnedTupleGo_items (s:={ s with heap:=h' }) ho λh'' he' hs'=>?_⟩
  have hTe:s.heap.objs.size≠it:=Nat.ne_of_gt hilt
  have hT2:h''.get? s.heap.objs.size=some { cls:=.type "tuple",data:=.seq #[key,u] }:=(hs'.2 _ hTe).trans hT
  have I2:ad X pins σ (upd H s.heap.objs.size (.tup [kV k,v])) { s with heap:=h'' }:=by
   refine I.turnedN (t':=s.toks) (fp:=[it]) (λb o hb eo=>?_) hf (Nat.le_refl _) (jy ⟨_,hT2,rfl,_,rfl⟩ (zY hkey) ru)
   have hbe:b≠it:=λz=>hb (by simp[z])
   exact (hs'.2 b hbe).trans (hk b o hbe eo)
  refine⟨.ref s.heap.objs.size,_,I2,rfl,⟨_,k,v,rfl,hkv,.mk' I.fresh⟩,⟨_,_,by rw[hl]; exact he'⟩,λb hb=>?_⟩
  have hb':b=it:=by simpa using hb
  rw[ai (by rw[hb']; exact Nat.ne_of_lt hilt)]
  exact (hf b hb).1
 done:=by
  intro X hP hw hK hc i pins s σ H E I hf st hg
  subst hP hw hK
  obtain⟨ok,ov,h1⟩:=st
  obtain⟨hq,hi⟩:=hg
  obtain⟨vs,rel,da⟩:=jN I hq he
  have hl:=rel.length
  rw[hl]at h1
  exact wpAny_pyNext_items_end (I.ok.hd hc) h1 da (List.getElem?_eq_none (by omega)) λh' eb=>⟨rfl,I.turnedL (t':=s.toks) (fp:=[it]) (λb o hb eo=>eb b o (λz=>hb (by simp[z])) eo) hf⟩
 self:=λA i s Q E st h=>by
  obtain⟨ok,ov,h1⟩:=st
  have hT:s.TypeIs (.ref it) "dict_itemiterator":=⟨_,h1,rfl⟩
  refine wpAny_pyIter_slot hT PySem.F.slot_dict_itemiterator_iter (wpAny_call_entry PySem.F.slot_dict_itemiterator_iter hT sL ?_ (PySem.F.args_dict_itemiterator_iter_1 _))
  show wpAny _ _ (ret (.ref it)) _ _ s
  exact wpAny_pure ⟨_,rfl, "dict_itemiterator",_,hT,PySem.F.slot_dict_itemiterator_next.lookup,h⟩
def rM(td:TE):TI:=λσ H R=>td σ H λx H1=>∃ d kvs,x=.ref d/\H1 d=some (.dK kvs)/\∀ ob,R (gk d ob kvs) (upd H1 d (.frz ob (.dK kvs)))
section
variable {X:Cx}{o:Expr}{es:List Expr}{kk:Nat}{pp apos cpos:Pos}{td:TE}
theorem yg (ho:PE X o td) (hb:attributeBase o "items" X.env (eval o X.env)=eval o X.env) (hl:(apos.endLine == cpos.line)=true):PI X (.Tuple es kk pp) (.Call (.Attribute o "items" apos) [] [] cpos) (rM td):=by
 intro pins s σ H R I h
 refine wpAny_Call_method (T := "dict") (id := "dict.items") hb rfl hl PySem.F.plainAttrs_dict PySem.F.slot_dict_items PySem.F.type_dict_items (aj (ho pins s σ H _ I h) λu s1 ⟨x,H1,I1,rx,d,kvs,ex,hd,q⟩=>?_)
 subst ex
 obtain rfl:u=Value.ref d:=rx
 obtain⟨z,hdS,vs,rel,dd⟩:=jU I1.hok hd
 refine⟨dd.typeIs,dd.mapOf.noDict,?_⟩
 show wpAny _ _ (callWith cpos (.builtin "dict.items") [.ref d] [] []) _ _ s1
 refine method_meetsIn PySem.F.slot_dict_items PySem.F.entry_dict_items rfl (PyProof.Rows.evalArgs_none ⟨rfl,dd.typeIs,PySem.F.args_dict_items_1 _,_,meets_dict_items (bM X.prog X.w) d hdS,⟨vs,dd⟩,?_⟩)
 obtain⟨ep,da⟩:=dd.dictAt
 refine wpAny_pyIter_items (knd:=bM X.prog X.w) (d:=d) (kvs:=vs) (ep:=ep) ⟨_,Heap.get?_push_size _ rfl,rfl,rfl⟩ (da.push _) ?_
 obtain⟨ob,es',ho1,c1,c2,c3⟩:=id da
 have hsz:(s1.heap.push { cls:=.type "dict_items",data:=.fields #[.ref d] }).objs.size=s1.heap.objs.size+1:=Heap.size_push ..
 have k2 : ∀ b o,s1.heap.get? b=some o->((s1.heap.push { cls:=.type "dict_items",data:=.fields #[.ref d] }).push { cls:=.type "dict_itemiterator",data:=.fields #[.none,.bool false,.ref d,.int 0 0,.int vs.length 0,.int ep 0,.none,.none] }).get? b=some o:=λb o e=>Heap.get?_push_of_some _ (Heap.get?_push_of_some _ e)
 have I2:=I1.kept (t':=s1.toks) k2
 have hd2:=k2 d ob ho1
 have I3:=I2.write (x:=d) (e:=d) (o:=.frz ob (.dK kvs)) (t':=s1.toks) (by rw[hd]; exact True.intro) (.inl rfl) (λb u _ e=>e) ⟨ob,hd2⟩ ⟨hd2,z,hdS,vs,rel,ob,es',ep,hd2,c1,c2,c3⟩
 have hle:s1.heap.objs.size<=(s1.heap.push { cls:=.type "dict_items",data:=.fields #[.ref d] }).objs.size:=by rw[hsz]; exact Nat.le_succ _
 have hdi:d≠(s1.heap.push { cls:=.type "dict_items",data:=.fields #[.ref d] }).objs.size:=by rw[hsz]; exact Nat.ne_of_lt (Nat.lt_succ_of_lt (Heap.lt_size ho1))
 refine⟨_,[_],_,gk d ob kvs,_,rfl,I3,vd d _ ob kvs es' ep c2 hdi,⟨.none,.none,by rw[rel.length]; exact Heap.get?_push_size _ rfl⟩,λb hb=>?_,q ob⟩
 have hb':b=(s1.heap.push { cls:=.type "dict_items",data:=.fields #[.ref d] }).objs.size:=by simpa using hb
 have f1:=I1.fpOk (b:=b) (by rw[hb']; exact hle) (I1.hok.fresh (by rw[hb']; exact hle))
 obtain⟨f0,f⟩:=f1
 exact⟨by rw[ai (by rw[hb']; exact hdi.symm)]; exact f0,f⟩
theorem jq (ho:QE X o td) (hb:attributeBase o "items" X.env (eval o X.env)=eval o X.env:=by rfl) (hl:(apos.endLine == cpos.line)=true:=by rfl):QI X (.Tuple es kk pp) (.Call (.Attribute o "items" apos) [] [] cpos) (rM td):=⟨yg ho.h hb hl⟩
theorem BB{d:Addr}{ob:Obj}{kvs:List (am × V)}{g:TG}{tb:TS}{D:cH}{σ:St}{H:Hp}(Pv:Nat->St->Hp->Prop)(h0:Pv 0 σ H)(hl : ∀ i σ H,i<=kvs.length->Pv i σ H->H d=some (.frz ob (.dK kvs)))
 (hs : ∀ i k v p σ H H',kvs[i]? = some (k,v)->Pv i σ H->aO H p (.tup [kV k,v]) H'->g (.ref p) σ H' λσ2 H2=>tb { D with nx:=Pv (i+1),ct:=Pv (i+1),bk:=D.nx } σ2 H2) (hd : ∀ σ H,Pv kvs.length σ H->D.nx σ H) :
 ∃ W:Nat->Nat->St->Hp->Prop,(∃ m,W 0 m σ H)/\∀ i m σ H,W i m σ H ->
  ((gk d ob kvs).stop i H/\D.nx σ H)\/((gk d ob kvs).go i H/\∃ N:St->Hp->Prop,(∀ σ' H',N σ' H'->∃ m',m' < m/\W (i+1) m' σ' H')/\∀ x H',(gk d ob kvs).yld i H x H'->g x σ H' λσ2 H2=>tb { D with nx:=N,ct:=N,bk:=D.nx } σ2 H2):=by
 refine⟨λi m σ H=>m=kvs.length - i/\i<=kvs.length/\Pv i σ H,⟨kvs.length,by simp,Nat.zero_le _,h0⟩,?_⟩
 rintro i m σ H ⟨rfl,hi,p⟩
 have q:=hl i σ H hi p
 by_cases hlt:i < kvs.length
 ·refine .inr ⟨⟨q,hlt⟩,Pv (i+1),λσ' H' p'=>⟨kvs.length - (i+1),by omega,rfl,hlt,p'⟩,λx H' y=>?_⟩
  obtain⟨pp,k,v,rfl,y,gr⟩:=y
  exact hs i k v pp σ H H' y p gr
 ·have e:i=kvs.length:=by omega
  subst e
  exact .inl ⟨⟨q,Nat.le_refl _⟩,hd σ H p⟩
end
theorem m4{K:W.Frag}{d:Addr}{ob:Obj}{kvs:List (am × V)}{cs:St}{tt:TT}{te:TE}{H:Hp}{Q:VK}(Pv:Nat->List V->Hp->Prop)(h0:Pv 0 [] H)(hl : ∀ i ys H,i<=kvs.length->Pv i ys H->H d=some (.frz ob (.dK kvs))/\ys.length<=i)(hz:kvs.length<=sizeLine)
 (hs : ∀ i k v ys H H' (N:List V->Hp->Prop),kvs[i]? = some (k,v)->Pv i ys H->af H H'->(∀ ys' H',Pv (i+1) ys' H'->N ys' H')->tt (some (kV k) :: some v :: cs) H' λb H4=>if b=true then te (some (kV k) :: some v :: cs) H4 λy H5=>N (ys++[y]) H5 else N ys H4)
 (hd : ∀ ys H p H',Pv kvs.length ys H->aO H p (.lst ys) H'->Q (.ref p) H') :
 eV (gk d ob kvs) H (List.replicate 2 none++cs) (fW K 2 (dZ (bD 0) (dZ (bD 1) ij))) tt te Q:=by
 refine⟨λi m ys σ H=>m=kvs.length - i/\i<=kvs.length/\Pv i ys H/\∃ v0 v1,σ=v0 :: v1 :: cs,⟨kvs.length,by simp,Nat.zero_le _,h0,none,none,rfl⟩,?_⟩
 rintro i m ys σ H2 ⟨rfl,hi,p,v0,v1,rfl⟩
 obtain⟨q,ql⟩:=hl i ys H2 hi p
 by_cases hlt:i < kvs.length
 ·refine .inr ⟨⟨q,hlt⟩,by omega,λys' σ' H'=>Pv (i+1) ys' H'/\∃ v0 v1,σ'=v0 :: v1 :: cs,λys' σ' H' ⟨p',e⟩=>⟨kvs.length - (i+1),by omega,rfl,hlt,p',e⟩,λx H' y=>?_⟩
  obtain⟨pp,k,v,rfl,y,gr⟩:=y
  refine⟨pp,_,rfl,gr.tup,rfl,_,_,rfl,_,_,rfl,rfl,?_⟩
  exact hs i k v ys H2 H' (λys' H'=>Pv (i+1) ys' H'/\∃ v0 v1,some (kV k) :: some v :: cs=v0 :: v1 :: cs) y p gr.sm λ_ _ z=>⟨z,_,_,rfl⟩
 ·have e:i=kvs.length:=by omega
  subst e
  exact .inl ⟨⟨q,Nat.le_refl _⟩,by omega,λp' H' g=>hd ys H2 p' H' p g⟩
def ix(d:Addr)(ob:Obj)(kvs:List (am × V)):It :=
 ⟨λi H=>H d=some (.frz ob (.dK kvs))/\i < kvs.length,λi H x H'=>H'=H/\∃ k,kvs[i]? = some (k,x),λi H=>H d=some (.frz ob (.dK kvs))/\kvs.length<=i⟩
theorem BF:entryFor table "dict_valueiterator.__iter__" = some Builtin.«dict_keyiterator.__iter__» :=
 entryFor_alias (id' := "dict_keyiterator.__iter__") (by kernel_rfl) rfl (by decide +kernel) (by kernel_rfl)
theorem uX{P:Program}{w:World}{K:W.Frag}{tg:Expr}(d it:Addr)(ob:Obj)(kvs:List (am × V))(es:Array DictEntry)(ep:Nat)(he:ob.data=.dict es ep):dw P w K tg (ix d ob kvs) [it] it (λi h=>h.IsValIter it d i kvs.length ep) where
 mem:=by simp
 obj:=λi h st b hb=>by
  have e:b=it:=by simpa using hb
  subst e
  obtain⟨o,e,c,dd⟩:=st
  exact⟨o,e,λv z=>by rw[dd]at z; cases z⟩
 keep:=λi h h' st k=>by
  obtain⟨o,e,c⟩:=st
  exact⟨o,k it (by simp) o e,c⟩
 item:=by
  intro X hP hw hK hc i pins s σ H E I hf st hg
  subst hP hw hK
  obtain⟨hq,hi⟩:=hg
  obtain⟨vs,rel,da⟩:=jN I hq he
  have hl:=rel.length
  obtain⟨⟨k,v⟩,hkv⟩ : ∃ kv,kvs[i]? = some kv:=⟨_,List.getElem?_eq_getElem hi⟩
  obtain⟨⟨k',u⟩,hvs,hk',ru⟩ : ∃ q,vs[i]? = some q/\k=q.1/\au v q.2:=by
   obtain⟨q,hq2⟩ : ∃ q,vs[i]? = some q:=⟨_,List.getElem?_eq_getElem (by omega)⟩
   exact⟨q,hq2,Paired.nth rel hkv hq2⟩
  obtain⟨f0,f1,f2,f3,f4,f5⟩:=hf it (by simp)
  rw[hl]at st
  refine wpAny_pyNext_values_item st da hvs λh' st' sb=>?_
  have I1:ad X pins σ H { s with heap:=h' }:=I.turned (t':=s.toks) (λb o hb e=>(sb.2 b hb).trans e) f0 f1 f3 f4 f5
  obtain⟨o,e,c,dd⟩:=id st'
  exact⟨u,rfl,ii (s:={ s with heap:=h' }) e c dd (by decide) ⟨v,H,I1,ru,⟨rfl,k,hkv⟩,by rw[hl]; exact st',λb hb=>(hf b hb).1⟩⟩
 done:=by
  intro X hP hw hK hc i pins s σ H E I hf st hg
  subst hP hw hK
  obtain⟨hq,hi⟩:=hg
  obtain⟨vs,rel,da⟩:=jN I hq he
  have hl:=rel.length
  rw[hl]at st
  exact wpAny_pyNext_values_end (I.ok.hd hc) st da (List.getElem?_eq_none (by omega)) λh' eb=>⟨rfl,I.turnedL (t':=s.toks) (fp:=[it]) (λb o hb eo=>eb b o (λz=>hb (by simp[z])) eo) hf⟩
 self:=λA i s Q E st h=>by
  have hT:=st.typeIs
  refine wpAny_pyIter_slot hT PySem.F.slot_dict_valueiterator_iter (wpAny_call_entry PySem.F.slot_dict_valueiterator_iter hT BF ?_ (PySem.F.args_dict_valueiterator_iter_1 _))
  show wpAny _ _ (ret (.ref it)) _ _ s
  exact wpAny_pure ⟨_,rfl, "dict_valueiterator",_,hT,PySem.F.slot_dict_valueiterator_next.lookup,h⟩
def rK(td:TE):TI:=λσ H R=>td σ H λx H1=>∃ d kvs,x=.ref d/\H1 d=some (.dK kvs)/\∀ ob,R (ix d ob kvs) (upd H1 d (.frz ob (.dK kvs)))
section
variable {X:Cx}{o tg:Expr}{apos cpos:Pos}{td:TE}
theorem yc (ho:PE X o td) (hb:attributeBase o "values" X.env (eval o X.env)=eval o X.env) (hl:(apos.endLine == cpos.line)=true):PI X tg (.Call (.Attribute o "values" apos) [] [] cpos) (rK td):=by
 intro pins s σ H R I h
 refine wpAny_Call_method (T := "dict") (id := "dict.values") hb rfl hl PySem.F.plainAttrs_dict PySem.F.slot_dict_values PySem.F.type_dict_values (aj (ho pins s σ H _ I h) λu s1 ⟨x,H1,I1,rx,d,kvs,ex,hd,q⟩=>?_)
 subst ex
 obtain rfl:u=Value.ref d:=rx
 obtain⟨z,hdS,vs,rel,dd⟩:=jU I1.hok hd
 refine⟨dd.typeIs,dd.mapOf.noDict,?_⟩
 show wpAny _ _ (callWith cpos (.builtin "dict.values") [.ref d] [] []) _ _ s1
 refine method_meetsIn PySem.F.slot_dict_values PySem.F.entry_dict_values rfl (PyProof.Rows.evalArgs_none ⟨rfl,dd.typeIs,PySem.F.args_dict_values_1 _,_,meets_dict_values (bM X.prog X.w) d hdS,⟨vs,dd⟩,?_⟩)
 obtain⟨ep,da⟩:=dd.dictAt
 refine wpAny_pyIter_values (knd:=bM X.prog X.w) (d:=d) (kvs:=vs) (ep:=ep) ⟨_,Heap.get?_push_size _ rfl,rfl,rfl⟩ (da.push _) ?_
 obtain⟨ob,es',ho1,c1,c2,c3⟩:=id da
 have hsz:(s1.heap.push { cls:=.type "dict_values",data:=.fields #[.ref d] }).objs.size=s1.heap.objs.size+1:=Heap.size_push ..
 have k2 : ∀ b o,s1.heap.get? b=some o->((s1.heap.push { cls:=.type "dict_values",data:=.fields #[.ref d] }).push { cls:=.type "dict_valueiterator",data:=.fields #[.ref d,.int 0 0,.int vs.length 0,.int ep 0] }).get? b=some o:=λb o e=>Heap.get?_push_of_some _ (Heap.get?_push_of_some _ e)
 have I2:=I1.kept (t':=s1.toks) k2
 have hd2:=k2 d ob ho1
 have I3:=I2.write (x:=d) (e:=d) (o:=.frz ob (.dK kvs)) (t':=s1.toks) (by rw[hd]; exact True.intro) (.inl rfl) (λb u _ e=>e) ⟨ob,hd2⟩ ⟨hd2,z,hdS,vs,rel,ob,es',ep,hd2,c1,c2,c3⟩
 have hle:s1.heap.objs.size<=(s1.heap.push { cls:=.type "dict_values",data:=.fields #[.ref d] }).objs.size:=by rw[hsz]; exact Nat.le_succ _
 have hdi:d≠(s1.heap.push { cls:=.type "dict_values",data:=.fields #[.ref d] }).objs.size:=by rw[hsz]; exact Nat.ne_of_lt (Nat.lt_succ_of_lt (Heap.lt_size ho1))
 refine⟨_,[_],_,ix d ob kvs,_,rfl,I3,uX d _ ob kvs es' ep c2,⟨_,Heap.get?_push_size _ rfl,rfl,by rw[rel.length]; rfl⟩,λb hb=>?_,q ob⟩
 have hb':b=(s1.heap.push { cls:=.type "dict_values",data:=.fields #[.ref d] }).objs.size:=by simpa using hb
 have f1:=I1.fpOk (b:=b) (by rw[hb']; exact hle) (I1.hok.fresh (by rw[hb']; exact hle))
 obtain⟨f0,f⟩:=f1
 exact⟨by rw[ai (by rw[hb']; exact hdi.symm)]; exact f0,f⟩
theorem xa (ho:QE X o td) (hb:attributeBase o "values" X.env (eval o X.env)=eval o X.env:=by rfl) (hl:(apos.endLine == cpos.line)=true:=by rfl):QI X tg (.Call (.Attribute o "values" apos) [] [] cpos) (rK td):=⟨yc ho.h hb hl⟩
end
section
variable {X:Cx}{pins:List (Addr × Obj)}{σ:St}{H:Hp}{s:Shared}{d:Addr}{ob:Obj}{u:HO}
theorem ad.thaw(I:ad X pins σ H s)(h:H d=some (.frz ob u))(n0 : ∀ o v,X.H₀ d≠some (.frz o v)):ad X pins σ (upd H d u) s:=by
 have nn : ∀ {b:Addr},H b=none->b≠d:=λ{b} e z=>by rw[z,h]at e; cases e
 have nd : ∀ {b:Addr} {v:HO},H b=some v->(∀ o w,v ≠ .frz o w)->b≠d:=λ{b v} e k z=>by
  rw[z,h]at e
  exact k _ _ (Option.some.inj e).symm
 obtain⟨hob,hu⟩:=(show aL X.prog X.w H s.heap d (.frz ob u) from I.hok d _ h)
 have st : ∀ {b:Addr} {v:HO},aL X.prog X.w H s.heap b v->aL X.prog X.w (upd H d u) s.heap b v:=λ{b v} x =>
  x.stay (λc v hc r=>r) (λc r=>by rw[ai (nd r λo w z=>nomatch z)]; exact r) λc xs r=>by rw[ai (nd r λo w z=>nomatch z)]; exact r
 refine⟨I.ok,I.os,I.bare,⟨I.base.keep,I.base.slot,λb o e n hx=>?_,I.base.there,λb xs e=>?_,λb o v e=>?_,λb ps e=>?_⟩,I.loc,I.cell,?_,λx c e=>?_,λp hp=>?_,λb v e=>?_,I.len⟩
 ·have:=I.base.free b o e n hx
  rw[ai (nn this)]
  exact this
 ·have:=I.base.tups b xs e
  rw[ai (nd this λo w z=>nomatch z)]
  exact this
 ·have q:=I.base.frzs b o v e
  rw[ai (show b≠d from λz=>n0 o v (by rw[<- z]; exact e))]
  exact q
 ·obtain⟨m,q⟩:=I.base.tbls b ps e
  exact⟨m,by rw[ai (nd q λo w z=>nomatch z)]; exact q⟩
 ·rw[ai (nn I.free)]; exact I.free
 ·rw[ai (nn (I.freeC x c e))]; exact I.freeC x c e
 ·obtain⟨a1,a2,a3⟩:=I.pin p hp
  exact⟨a1,by rw[ai (nn a2)]; exact a2,a3⟩
 ·by_cases z:b=d
  ·subst z
   rw[aR]at e
   cases e
   exact st hu
  ·rw[ai z]at e
   exact st (I.hok b v e)
def o7(t:TE):TE:=λσ H Q=>∃ d u,(∀ o v,H d≠some (.frz o v))/\t σ H λx H'=>(∃ ob,H' d=some (.frz ob u))/\Q x (upd H' d u)
theorem yr{e:Expr}{t:TE}(h:PE X e t):PE X e (o7 t):=by
 intro pins s σ H Q I q
 obtain⟨d,u,nf,q⟩:=q
 refine wpAny_mono (h pins s σ H _ I q) (λv s1 z=>?_) λ_ _ e=>e
 obtain⟨x,H1,I1,r,⟨ob,ho⟩,k⟩:=z
 exact⟨x,_,I1.thaw ho λo v e=>nf o v (I.base.frzs _ _ _ e),r,k⟩
theorem qh{e:Expr}{t:TE}(h:QE X e t):QE X e (o7 t):=⟨yr h.h⟩
end
end L2
namespace L2
open PySem PySem.Spec PyProof.Rows PySem.W
structure dJ (h:Heap) (d:Addr) (es:Array DictEntry) (ep:Nat):Prop where
 big:(d == sysModules)=false
 obj : ∃ o,h.get? d=some o/\o.ExactDict/\o.data=.dict es ep
section
variable {prog:Program}{w:World}{A:Around}{E:Value->Shared->Prop}{s:Shared}{it d:Addr}{i ep:Nat}{es:Array DictEntry}{ok ov:Value}
theorem jg{h:Heap}{it:Addr}{vs:Array Value}{c x:Value}{i:Nat}(k:h.get? it=some { cls:=c,data:=.fields vs }):(h.update it (Obj.mapFields (·.setIfInBounds i x))).get? it=some { cls:=c,data:=.fields (vs.setIfInBounds i x) }/\Heap.SameBut it h (h.update it (Obj.mapFields (·.setIfInBounds i x))):=by
 refine⟨?_,Heap.SameBut.update ..⟩
 rw[Heap.get?_update_self _ k (Obj.isFreed_of_fields (Obj.data_mapFields rfl _))]
 rfl
theorem wK{e:DictEntry}{Q:Option Value->Shared->Prop}(ki:IsItemIter s.heap it d i es.size ep ok ov)(r:dJ s.heap d es ep)(he:es[i]? = some e)
 (q : ∀ h',IsItemIterOut h' it d (i+1) es.size ep e.key e.val s.heap.objs.size->h'.get? s.heap.objs.size=some { cls:=.type "tuple",data:=.seq #[e.key,e.val] }->(∀ b o,b≠it->s.heap.get? b=some o->h'.get? b=some o)->Q (some (.ref s.heap.objs.size)) { s with heap:=h' }):wpAny (model prog w) A (pyNext (.ref it)) Q E s:=by
 have ty:s.TypeIs (.ref it) "dict_itemiterator":=⟨_,ki,rfl⟩
 obtain⟨u,e1,e2,e3⟩:=r.obj
 unfold pyNext
 refine wpAny_bind (wpAny_attempt (wpAny_callSpecial?_slot (name:=Str.ofString "__next__") ty PySem.F.slot_dict_itemiterator_next (wpAny_call_entry PySem.F.slot_dict_itemiterator_next ty PySem.F.entry_dict_itemiterator_next ?_ (PySem.F.args_dict_itemiterator_next_1 _))))
 refine wpAny_bind (wpAny_pure (wpAny_bind (wpAny_bind ?_)))
 first | refine wpAny_bind (wpAny_typeNameOfWhole_itemiter ty (wpAny_pure ?_)) | refine wpAny_bind (wpAny_typeNameOf_itemiter ty (wpAny_pure ?_))
 refine wpAny_bind (wpAny_fieldsOf ki rfl ?_)
 simp only [show Builtin.Dict_items.ownsTuple "dict_itemiterator" = true by decide,if_true]
 show wpAny _ _ (if (Value.ref d == Value.none)=true then _ else _) _ _ _
 rw[if_neg (by intro z; cases z)]
 refine wpAny_bind (wpAny_pure (wpAny_bind (wpAny_dictEntries e1 e3 ?_)))
 rw[if_neg (by simp)]
 refine wpAny_bind (wpAny_pure (wpAny_bind (wpAny_dictEpoch e1 e3 ?_)))
 rw[if_neg (by simp)]
 refine wpAny_pure ?_
 simp only [show ¬ ((i:Int) < 0) by omega,if_false,Int.toNat_natCast,he]
 refine wpAny_bind ?_
 first | refine wpAny_bind (wpAny_typeNameOfWhole_itemiter ty (wpAny_pure ?_)) | refine wpAny_bind (wpAny_typeNameOf_itemiter ty (wpAny_pure ?_))
 refine wpAny_bind (wpAny_isOneOf_itemiter ty ?_)
 show wpAny _ _ (setField (.ref it) 3 (rawInt ((i:Int)+1)) >>= _) _ _ _
 obtain⟨h1,eh1⟩ : ∃ h1,h1=s.heap.update it (Obj.mapFields (·.setIfInBounds 3 (rawInt ((i:Int)+1)))):=⟨_,rfl⟩
 have k1:IsItemIter h1 it d (i+1) es.size ep ok ov:=by
  rw[eh1]
  show _=_
  rw[Heap.get?_update_self _ ki (Obj.isFreed_of_fields (Obj.data_mapFields rfl _))]
  rfl
 have sb1:Heap.SameBut it s.heap h1:=by rw[eh1]; exact Heap.SameBut.update ..
 refine wpAny_bind (wpAny_setField ki rfl (by simp) ?_)
 rw[<- eh1]
 clear eh1
 have ty1:(Shared.TypeIs { s with heap:=h1 } (.ref it) "dict_itemiterator"):=⟨_,k1,rfl⟩
 refine wpAny_bind (wpAny_holding (wpAny_bind (wpAny_isOneOf_itemiter (s:={ s with heap:=h1 }) ty1 ?_)))
 rw[if_neg (by decide)]
 refine wpAny_bind (wpAny_isOneOf_itemiter (s:={ s with heap:=h1 }) ty1 ?_)
 rw[if_neg (by decide)]
 unfold Builtin.Dict_items.pairFromOwner
 refine wpAny_bind (wpAny_newTuple ?_ (by show 2<=_; decide))
 have hz:h1.objs.size=s.heap.objs.size:=sb1.1
 obtain⟨h2,eh2⟩ : ∃ h2,h2=h1.push { cls:=.type "tuple",data:=.seq [e.key,e.val].toArray }:=⟨_,rfl⟩
 have k2:IsItemIter h2 it d (i+1) es.size ep ok ov:=by rw[eh2]; exact Heap.get?_push_of_some _ k1
 have t2:h2.get? s.heap.objs.size=some { cls:=.type "tuple",data:=.seq #[e.key,e.val] }:=by rw[eh2,<- hz]; exact Heap.get?_push_size _ rfl
 have kp2 : ∀ b o,b≠it->s.heap.get? b=some o->h2.get? b=some o:=λb o hb z=>by rw[eh2]; exact Heap.get?_push_of_some _ ((sb1.2 b hb).trans z)
 rw[<- eh2]
 dsimp only
 rw[hz]
 clear eh2
 unfold Builtin.Dict_items.ownedTupleIsFree
 refine wpAny_bind (wpAny_bind (wpAny_field (s:={ s with heap:=h2 }) (x:=.none) k2 rfl rfl (wpAny_pure ?_)))
 show wpAny _ _ (if true=true then _ else _) _ _ _
 rw[if_pos rfl]
 refine wpAny_bind (wpAny_field (s:={ s with heap:=h2 }) (x:=ok) k2 rfl rfl ?_)
 refine wpAny_bind (wpAny_field (s:={ s with heap:=h2 }) (x:=ov) k2 rfl rfl ?_)
 obtain⟨k3,b3⟩:=jg (i:=6) (x:=e.key) k2
 refine wpAny_bind (wpAny_setField (s:={ s with heap:=h2 }) k2 rfl (by simp) ?_)
 generalize (h2.update it (Obj.mapFields (·.setIfInBounds 6 e.key)))=h3 at k3 b3 ⊢
 obtain⟨k4,b4⟩:=jg (i:=7) (x:=e.val) k3
 refine wpAny_bind (wpAny_setField (s:={ s with heap:=h3 }) k3 rfl (by simp) ?_)
 generalize (h3.update it (Obj.mapFields (·.setIfInBounds 7 e.val)))=h4 at k4 b4 ⊢
 obtain⟨k5,b5⟩:=jg (i:=0) (x:=rawInt (s.heap.objs.size:Nat)) k4
 refine wpAny_bind (wpAny_setField (s:={ s with heap:=h4 }) k4 rfl (by simp) ?_)
 generalize (h4.update it (Obj.mapFields (·.setIfInBounds 0 (rawInt (s.heap.objs.size:Nat)))))=h5 at k5 b5 ⊢
 obtain⟨k6,b6⟩:=jg (i:=1) (x:=.bool false) k5
 refine wpAny_bind (wpAny_setField (s:={ s with heap:=h5 }) k5 rfl (by simp) ?_)
 generalize (h5.update it (Obj.mapFields (·.setIfInBounds 1 (.bool false))))=h6 at k6 b6 ⊢
 refine wpAny_bind (wpAny_letGo (wpAny_pure ?_))
 have kk : ∀ b,b≠it->h6.get? b=h2.get? b:=λb hb=>(b6.2 b hb).trans ((b5.2 b hb).trans ((b4.2 b hb).trans (b3.2 b hb)))
 have nt:s.heap.objs.size≠it:=Nat.ne_of_gt (Heap.lt_size ki)
 exact wpAny_pure ⟨_,rfl,wpAny_pure (q h6 k6 ((kk _ nt).trans t2) λb o hb z=>(kk b hb).trans (kp2 b o hb z))⟩
theorem wL{Q:Option Value->Shared->Prop}(hh:A.handled=none)(ki:IsItemIter s.heap it d i es.size ep ok ov)(r:dJ s.heap d es ep)(he:es.size<=i)(q : ∀ h',Heap.ExtBut it s.heap h'->Q none { s with heap:=h' }):wpAny (model prog w) A (pyNext (.ref it)) Q E s:=by
 have ty:s.TypeIs (.ref it) "dict_itemiterator":=⟨_,ki,rfl⟩
 obtain⟨u,e1,e2,e3⟩:=r.obj
 unfold pyNext
 refine wpAny_bind (wpAny_attempt (wpAny_callSpecial?_slot (name:=Str.ofString "__next__") ty PySem.F.slot_dict_itemiterator_next (wpAny_call_entry PySem.F.slot_dict_itemiterator_next ty PySem.F.entry_dict_itemiterator_next ?_ (PySem.F.args_dict_itemiterator_next_1 _))))
 refine wpAny_bind (wpAny_pure (wpAny_bind (wpAny_bind ?_)))
 first | refine wpAny_bind (wpAny_typeNameOfWhole_itemiter ty (wpAny_pure ?_)) | refine wpAny_bind (wpAny_typeNameOf_itemiter ty (wpAny_pure ?_))
 refine wpAny_bind (wpAny_fieldsOf ki rfl ?_)
 simp only [show Builtin.Dict_items.ownsTuple "dict_itemiterator" = true by decide,if_true]
 show wpAny _ _ (if (Value.ref d == Value.none)=true then _ else _) _ _ _
 rw[if_neg (by intro z; cases z)]
 refine wpAny_bind (wpAny_pure (wpAny_bind (wpAny_dictEntries e1 e3 ?_)))
 rw[if_neg (by simp)]
 refine wpAny_bind (wpAny_pure (wpAny_bind (wpAny_dictEpoch e1 e3 ?_)))
 rw[if_neg (by simp)]
 refine wpAny_pure ?_
 simp only [show ¬ ((i:Int) < 0) by omega,if_false,Int.toNat_natCast,Array.getElem?_eq_none he]
 refine wpAny_bind ?_
 first | refine wpAny_bind (wpAny_typeNameOfWhole_itemiter ty (wpAny_pure ?_)) | refine wpAny_bind (wpAny_typeNameOf_itemiter ty (wpAny_pure ?_))
 show wpAny _ _ (setField (.ref it) 2 .none >>= _) _ _ _
 refine wpAny_bind (wpAny_setField ki rfl (by simp) ?_)
 show wpAny _ _ (newExc (.type "StopIteration") [] >>= _) _ _ _
 refine wpAny_bind ?_
 simp only [newExc,newTuple]
 refine wpAny_bind (wpAny_newObj_type ?_ (by size_fits))
 refine wpAny_bind (m:=firstArgMember _ _) (wpAny_of_eq (a:=Value.none) (by first | rfl | (simp only [firstArgMember]; rfl)) (wpAny_newObj_type ?_ (by size_fits)))
 simp only [raiseNew]
 refine wpAny_bind (wpAny_handled ?_)
 rw[show A.in1.handled=none from hh]
 refine wpAny_bind (wpAny_pure (wpAny_throw ?_))
 refine wpAny_bind (wpAny_isInstance (T := "StopIteration") (b:=true) ⟨_,Heap.get?_push_size _ rfl,by rfl⟩ isSubtype_stop ?_)
 exact wpAny_pure (q _ (((Heap.SameBut.update ..).extBut.push _).push _))
theorem zp(d:Addr)(lo:(d == sysModules)=false):MeetsIn prog w (Builtin.«dict.items» { pos:=[Value.ref d] }) λx R s=>s.TypeIs (.ref d) "dict"/\R (Except.ok (Flow.ret (Value.ref s.heap.objs.size))) { s with heap:=s.heap.push { cls:=Value.type "dict_items",data:=Data.fields #[Value.ref d] } }:=by
 intro A R s ⟨ty,q⟩
 unfold Builtin.«dict.items» Builtin.Dict.noArgs
 refine wpAny_bind (wpAny_bind (wpAny_notOrdered_dict ty ?_))
 refine wpAny_bind (m:=Builtin.Dict.nameIsSure _ _ _) ?_
 show wpAny _ _ (pure ()) _ _ _
 refine wpAny_pure ?_
 refine wpAny_bind (m:=selfOnly _ _) ?_
 show wpAny _ _ (pure (Value.ref d)) _ _ _
 refine wpAny_pure ?_
 show wpAny _ _ (pure d) _ _ _
 refine wpAny_pure ?_
 unfold Builtin.Dict.showsAll
 rw[if_neg (by rw[lo]; decide)]
 refine wpAny_bind (wpAny_pure (wpAny_bind (wpAny_newObj_type (wpAny_pure q))))
theorem wJ{v:Addr}{Q:Value->Shared->Prop}(hv:s.heap.IsItemsView v d)(r:dJ s.heap d es ep)(q:Q (.ref s.heap.objs.size) { s with heap:=s.heap.push { cls:=.type "dict_itemiterator",data:=.fields #[.none,.bool false,.ref d,.int 0 0,.int es.size 0,.int ep 0,.none,.none] } }):wpAny (model prog w) A (pyIter (.ref v)) Q E s:=by
 obtain⟨o,v1,v2,v3⟩:=id hv
 have ty:s.TypeIs (.ref v) "dict_items":=⟨o,v1,v2⟩
 obtain⟨u,e1,e2,e3⟩:=r.obj
 refine wpAny_pyIter_slot ty PySem.F.slot_dict_items_iter (wpAny_call_entry PySem.F.slot_dict_items_iter ty PySem.F.entry_dict_items_iter ?_ (PySem.F.args_dict_items_iter_1 _))
 unfold Builtin.«dict_items.__iter__» Builtin.Dict_items.slot0
 refine wpAny_bind (wpAny_bind ?_)
 show wpAny _ _ (pure (Value.ref v,[])) _ _ _
 refine wpAny_pure (wpAny_pure ?_)
 unfold Builtin.Dict_items.dictOf
 refine wpAny_bind (wpAny_bind (wpAny_field (x:=.ref d) v1 v3 rfl ?_))
 show wpAny _ _ (pure d) _ _ _
 refine wpAny_pure ?_
 unfold Builtin.Dict_items.newIterator
 refine wpAny_bind (wpAny_bind (wpAny_dictEntries e1 e3 (wpAny_bind (wpAny_dictEpoch e1 e3 ?_))))
 refine wpAny_newObj_type (wpAny_pure ⟨_,rfl, "dict_itemiterator",_,⟨_,Heap.get?_push_size _ rfl,rfl⟩,PySem.F.slot_dict_itemiterator_next.lookup,?_⟩) (by show (8:Nat)<=sizeLine+2; decide)
 exact q
end
section
variable {prog:Program}{w:World}
def cq(prog:Program)(w:World)(h:Heap)(k:List Int × List Int)(a:Addr):Prop :=
 ∃ (o:Obj) (c b n:Nat),h.get? a=some o/\o.cls=.type "tuple"/\o.data=.seq #[.ref c,.ref b] n/\IsTupleKey (intKind prog w) h k.1 c/\IsTupleKey (intKind prog w) h k.2 b
theorem cq.ty {s:Shared} {k:List Int × List Int} {a:Addr} (x:cq prog w s.heap k a):s.TypeIs (.ref a) "tuple":=by
 obtain⟨o,c,b,n,h1,h2,_⟩:=x
 exact⟨o,h1,h2⟩
theorem cq.one{h:Heap}{a:Addr}{x y:List Int × List Int}(hx:cq prog w h x a)(hy:cq prog w h y a):x=y:=by
 obtain⟨o,c,b,n,h1,_,h3,h0,h4⟩:=hx
 obtain⟨o',c',b',n',g1,_,g3,g0,g4⟩:=hy
 rw[h1]at g1; cases g1
 rw[h3]at g3
 injection g3 with e _
 injection e with e
 injection e with e1 e2
 injection e1 with e1
 injection e2 with e2 _
 injection e2 with e2
 subst e1
 subst e2
 exact Prod.ext (h0.inj g0) (h4.inj g4)
theorem cq.stay{h h':Heap}{k:List Int × List Int}{a d:Addr}{o:Obj}{es:Array DictEntry}{ep:Nat}(x:cq prog w h k a)(ho:h.get? d=some o)(hd:o.data=.dict es ep)(sb:Heap.SameBut d h h'):cq prog w h' k a:=by
 obtain⟨u,c,b,n,h1,h2,h3,h0,h4⟩:=x
 refine⟨u,c,b,n,(sb.2 a ?_).trans h1,h2,h3,h0.keeps ho hd sb,h4.keeps ho hd sb⟩
 intro z
 subst z
 rw[h1]at ho; cases ho
 rw[hd]at h3; cases h3
variable {A:Around}{E:Value->Shared->Prop}{s:Shared}
def qA(prog:Program)(w:World)(k:List Int × List Int):Int:=reduceHash (Builtin.Tuple.tupleHashOf [tupleKeyHash (intKind prog w) k.1,tupleKeyHash (intKind prog w) k.2])
theorem xH{k:List Int × List Int}{a:Addr}{Q:Int->Shared->Prop}(hu:A.units+8 < cLine)(hk:cq prog w s.heap k a)(q:Q (qA prog w k) { s with toks:=s.toks+(k.1.length+k.2.length+3) }):wpAny (model prog w) A (pyHash (.ref a)) Q E s:=by
 have ty:=hk.ty
 obtain⟨o,c,b,n,h1,h2,h3,h0,h4⟩:=hk
 unfold pyHash
 first | unfold pyHashByItsType | skip
 first | refine wpAny_bind (wpAny_cRoomFor_or (.inr (by omega)) ?_) | skip
 refine wpAny_bind (wpAny_specialOf ty PySem.F.slot_tuple_hash.lookup ?_)
 show wpAny _ _ (if (some (Value.builtin "tuple.__hash__") == some Value.none)=true then _ else _) _ _ _
 rw[if_neg (by rw[beq_builtin_none]; decide)]
 refine wpAny_bind (wpAny_specialOf ty PySem.F.slot_tuple_hash.lookup ?_)
 show wpAny _ _ (callSpecialIfBoundUnlessNone? (.ref a) "__hash__" _ >>= _) _ _ _
 refine wpAny_bind (wpAny_callSpecialIfBoundUnlessNone?_slot ty PySem.F.slot_tuple_hash (wpAny_call_entry PySem.F.slot_tuple_hash ty PySem.F.entry_tuple_hash ?_ (PySem.F.args_tuple_hash_1 _)))
 show wpAny _ _ (Builtin.Tuple.tupleItemsOf (.ref a) >>= _) _ _ _
 refine wpAny_bind (wpAny_tupleItemsOf h1 h3 ?_)
 refine wpAny_bind ?_
 rw[<- Array.forIn_toList]
 rw[List.forIn_cons]
 refine wpAny_bind (wpAny_bind (wpAny_pyHash_tuple (knd:=intKind prog w) (ks:=k.1) ?_ h0 ?_))
 ·show A.units+1 < cLine
  omega
 first
  | refine wpAny_pure ?_
  | refine wpAny_bind (wpAny_pure (wpAny_pure ?_))
 dsimp only
 rw[List.forIn_cons]
 refine wpAny_bind (wpAny_bind (wpAny_pyHash_tuple (knd:=intKind prog w) (ks:=k.2) ?_ h4 ?_))
 ·show A.units+1 < cLine
  omega
 first
  | refine wpAny_pure ?_
  | refine wpAny_bind (wpAny_pure (wpAny_pure ?_))
 dsimp only
 rw[List.forIn_nil]
 refine wpAny_pure ?_
 refine wpAny_ret_mkInt ?_
 have e:((#[].push (tupleKeyHash (intKind prog w) k.1)).push (tupleKeyHash (intKind prog w) k.2)).toList=[tupleKeyHash (intKind prog w) k.1,tupleKeyHash (intKind prog w) k.2]:=rfl
 rw[e]
 generalize eH:Builtin.Tuple.tupleHashOf [tupleKeyHash (intKind prog w) k.1,tupleKeyHash (intKind prog w) k.2]=N
 have q':Q (reduceHash N) { s with toks:=s.toks+(k.1.length+k.2.length+3) }:=by rw[<- eH]; exact q
 unfold reduceHash at q'
 have et:s.toks+(k.1.length+1)+(k.2.length+1)+1=s.toks+(k.1.length+k.2.length+3):=by omega
 show wpAny _ _ (if (decide (-(2:Int) ^ 63<=N) && decide (N < 2 ^ 63))=true then _ else _) _ _ { s with toks:=s.toks+(k.1.length+1)+(k.2.length+1)+1 }
 rw[et]
 split
 ·rename_i c
  rw[if_pos c]at q'
  exact wpAny_pure q'
 ·rename_i c
  rw[if_neg c]at q'
  exact wpAny_bind (wpAny_rule (wpAny_pure q'))
theorem xI{x y:List Int × List Int}{a b:Addr}{P:Fin->Shared->Prop}(hu:A.units+4 < cLine)(hx:cq prog w s.heap x a)(hy:cq prog w s.heap y b)(q:P (.done (.ret (.bool (decide (x=y))))) s) :
 wpAny (model prog w) A (Builtin.«tuple.__eq__» ⟨[.ref a,.ref b],[]⟩) P E s:=by
 have ty:=hy.ty
 obtain⟨o,t,c,n,h1,h2,h3,h0,h4⟩:=hx
 obtain⟨o',t',c',n',g1,g2,g3,g0,g4⟩:=hy
 show wpAny _ _ (isInstance (.ref b) (.type "tuple") >>= _) _ _ _
 refine wpAny_bind (wpAny_isInstance ty isSubtype_tuple_tuple ?_)
 simp only [Bool.not_true,Bool.false_eq_true,if_false]
 refine wpAny_bind (wpAny_tupleItemsOf h1 h3 ?_)
 refine wpAny_bind (wpAny_tupleItemsOf g1 g3 ?_)
 refine wpAny_bind ?_
 show wpAny _ _ (forIn [(Value.ref t,Value.ref t'),(Value.ref c,Value.ref c')] _ _) _ _ _
 rw[List.forIn_cons]
 refine wpAny_bind (wpAny_bind (wpAny_eqBool_tuple (knd:=intKind prog w) (x:=x.1) (y:=y.1) (by omega) h0 g0 ?_))
 by_cases e1:x.1=y.1
 ·rw[decide_eq_true e1]
  simp only [Bool.not_true,Bool.false_eq_true,if_false]
  refine wpAny_pure ?_
  dsimp only
  rw[List.forIn_cons]
  refine wpAny_bind (wpAny_bind (wpAny_eqBool_tuple (knd:=intKind prog w) (x:=x.2) (y:=y.2) (by omega) h4 g4 ?_))
  by_cases e2:x.2=y.2
  ·rw[decide_eq_true e2]
   simp only [Bool.not_true,Bool.false_eq_true,if_false]
   refine wpAny_pure ?_
   dsimp only
   rw[List.forIn_nil]
   refine wpAny_pure (wpAny_pure ?_)
   rw[decide_eq_true (Prod.ext e1 e2)]at q
   exact q
  ·rw[decide_eq_false e2]
   simp only [Bool.not_false,if_true]
   rw[decide_eq_false (λz=>e2 (by rw[z]))]at q
   exact wpAny_bind (wpAny_pure (wpAny_pure (wpAny_pure (wpAny_pure q))))
 ·rw[decide_eq_false e1]
  simp only [Bool.not_false,if_true]
  rw[decide_eq_false (λz=>e1 (by rw[z]))]at q
  exact wpAny_bind (wpAny_pure (wpAny_pure (wpAny_pure (wpAny_pure q))))
theorem xJ{x y:List Int × List Int}{a b:Addr}{Q:Bool->Shared->Prop}(hu:A.units+8 < cLine)(hx:cq prog w s.heap x a)(hy:cq prog w s.heap y b)(q:Q (decide (x=y)) s):wpAny (model prog w) A (eqBool (.ref a) (.ref b)) Q E s:=by
 unfold eqBool
 try with_reducible refine wpAny_holding ?_
 show wpAny _ _ (if (Value.ref a == Value.ref b)=true then _ else _) _ _ _
 by_cases e:(Value.ref a == Value.ref b)=true
 ·rw[if_pos e]
  have z:a=b:=by
   have:=eq_of_beq e
   injection this
  subst z
  obtain rfl:=hx.one hy
  rw[decide_eq_true rfl]at q
  exact wpAny_bind (wpAny_rule (wpAny_pure q))
 ·rw[if_neg e]
  exact wpAny_bind (wpAny_richCompare_same_room (op:=.Eq) hx.ty hy.ty PySem.F.slot_tuple_eq (wpAny_call_entry PySem.F.slot_tuple_eq hx.ty PySem.F.entry_tuple_eq (xI (by show A.units+1+4 < cLine; omega) hx hy ⟨_,rfl,nofun,wpAny_truthy_bool q⟩) (PySem.F.args_tuple_eq_2 _ _)) (by omega))
theorem qe(n:Nat){ks:List Int}{a:Addr}{Q:Bool->Shared->Prop}(hk:IsTupleKey (intKind prog w) s.heap ks a)(q:Q true s):wpAny (model prog w) A (eqIsQuiet (n+1) (.ref a)) Q E s:=by
 have ty:=hk.typeIs
 obtain⟨o,its,m,h1,_,h3,h4⟩:=hk
 unfold eqIsQuiet
 refine wpAny_bind (wpAny_specialOf ty PySem.F.slot_tuple_eq.lookup ?_)
 show wpAny _ _ (isInstance (.ref a) (.type "tuple") >>= _) _ _ _
 refine wpAny_bind (wpAny_isInstance ty isSubtype_tuple_tuple ?_)
 simp only [Bool.not_true,Bool.false_eq_true,if_false]
 refine wpAny_bind (wpAny_seqItems h1 h3 ?_)
 refine wpAny_bind ?_
 show wpAny _ _ (forIn its _ _) _ _ _
 rw[<- Array.forIn_toList]
 refine wpAny_forIn_list _ (λl r s'=>r.1=none/\s'=s/\∀ v∈l,carriedByValue v=true) _ ?_ ?_ _ _ ⟨rfl,rfl,h4.byValue⟩
 ·rintro v l r s' ⟨hr,rfl,al⟩
  rw[eqIsQuiet_byValue _ (al v (List.mem_cons_self ..))]
  refine wpAny_bind (wpAny_pure ?_)
  simp only [Bool.not_true,Bool.false_eq_true,if_false]
  exact wpAny_pure ⟨rfl,rfl,λu z=>al u (List.mem_cons_of_mem _ z)⟩
 ·rintro⟨r1,r2⟩ s' ⟨hr,rfl,_⟩
  obtain rfl:r1=none:=hr
  exact wpAny_pure q
theorem xG{k:List Int × List Int}{a:Addr}{Q:Bool->Shared->Prop}(hk:cq prog w s.heap k a)(q:Q true s):wpAny (model prog w) A (eqIsQuiet 8 (.ref a)) Q E s:=by
 have ty:=hk.ty
 obtain⟨o,c,b,n,h1,h2,h3,h0,h4⟩:=hk
 unfold eqIsQuiet
 refine wpAny_bind (wpAny_specialOf ty PySem.F.slot_tuple_eq.lookup ?_)
 show wpAny _ _ (isInstance (.ref a) (.type "tuple") >>= _) _ _ _
 refine wpAny_bind (wpAny_isInstance ty isSubtype_tuple_tuple ?_)
 simp only [Bool.not_true,Bool.false_eq_true,if_false]
 refine wpAny_bind (wpAny_seqItems h1 h3 ?_)
 refine wpAny_bind ?_
 show wpAny _ _ (forIn #[Value.ref c,Value.ref b] _ _) _ _ _
 rw[<- Array.forIn_toList]
 rw[List.forIn_cons]
 refine wpAny_bind (wpAny_bind (qe 6 h0 ?_))
 simp only [Bool.not_true,Bool.false_eq_true,if_false]
 refine wpAny_pure ?_
 dsimp only
 rw[List.forIn_cons]
 refine wpAny_bind (wpAny_bind (qe 6 h4 ?_))
 simp only [Bool.not_true,Bool.false_eq_true,if_false]
 refine wpAny_pure ?_
 dsimp only
 rw[List.forIn_nil]
 exact wpAny_pure (wpAny_pure q)
def ic(prog:Program)(w:World):HeapKind prog w (List Int × List Int) where
 is:=cq prog w
 hash:=qA prog w
 draws:=λk=>k.1.length+k.2.length+3
 room:=λA=>A.units+8 < cLine
 inj:=λx y=>x.one y
 keeps:=λx ho hd sb=>x.stay ho hd sb
 pyHash:=λhu hk q=>xH hu hk q
 eqBool:=λhu hx hy q=>xJ hu hx hy q
 quiet:=λhk q=>xG hk q
end
structure dy (h:Heap) (d:Addr) (es:Array DictEntry) (ep:Nat):Prop where
 big:(d == sysModules)=false
 obj : ∃ o,h.get? d=some o/\o.ExactDict/\o.data=.dict es ep
theorem dy.ty {s:Shared} {d:Addr} {es:Array DictEntry} {ep:Nat} (r:dy s.heap d es ep):s.TypeIs (.ref d) "dict":=by
 obtain⟨o,e,c,_⟩:=r.obj
 exact⟨o,e,c.1⟩
theorem dy.to{h h':Heap}{d:Addr}{es:Array DictEntry}{ep:Nat}(r:dy h d es ep)(k : ∀ o,h.get? d=some o->h'.get? d=some o):dy h' d es ep:=by
 obtain⟨b,o,e,c⟩:=r
 exact⟨b,o,k o e,c⟩
section
variable {prog:Program}{w:World}{A:Around}{E:Value->Shared->Prop}{s:Shared}{it d:Addr}{i ep:Nat}{es:Array DictEntry}
theorem kU{Q:Value->Shared->Prop}(r:dy s.heap d es ep)(q:Q (.ref s.heap.objs.size) { s with heap:=s.heap.push { cls:=.type "dict_keyiterator",data:=.fields #[.ref d,.int 0 0,.int es.size 0,.int ep 0] } }):wpAny (model prog w) A (pyIter (.ref d)) Q E s:=by
 have ty:=r.ty
 obtain⟨o,e1,e2,e3⟩:=r.obj
 refine wpAny_pyIter_slot ty PySem.F.slot_dict_iter (wpAny_call_entry PySem.F.slot_dict_iter ty PySem.F.entry_dict_iter ?_ (PySem.F.args_dict_iter_1 _))
 unfold Builtin.«dict.__iter__» Builtin.Dict.dictSlotNone
 refine wpAny_bind (wpAny_bind (wpAny_notOrdered_dict ty ?_))
 show wpAny _ _ (pure (Value.ref d)) _ _ _
 refine wpAny_pure ?_
 show wpAny _ _ (Builtin.Dict.showsAll d >>= _) _ _ _
 unfold Builtin.Dict.showsAll
 rw[if_neg (by rw[r.big]; decide)]
 refine wpAny_bind (wpAny_pure (wpAny_bind (wpAny_dictEntries e1 e3 (wpAny_bind (wpAny_dictEpoch e1 e3 ?_)))))
 refine wpAny_bind (wpAny_newObj_type (wpAny_pure ⟨_,rfl, "dict_keyiterator",_,⟨_,Heap.get?_push_size _ rfl,rfl⟩,PySem.F.slot_dict_keyiterator_next.lookup,?_⟩))
 exact q
theorem jn{e:DictEntry}{Q:Option Value->Shared->Prop}(ki:s.heap.IsKeyIter it d i es.size ep)(r:dy s.heap d es ep)(he:es[i]? = some e)
 (q : ∀ h',h'.IsKeyIter it d (i+1) es.size ep->Heap.SameBut it s.heap h'->Q (some e.key) { s with heap:=h' }):wpAny (model prog w) A (pyNext (.ref it)) Q E s:=by
 obtain⟨o,k1,k2,k3⟩:=id ki
 obtain⟨u,e1,e2,e3⟩:=r.obj
 unfold pyNext
 refine wpAny_bind (wpAny_attempt (wpAny_callSpecial?_slot (name:=Str.ofString "__next__") ki.typeIs PySem.F.slot_dict_keyiterator_next (wpAny_call_entry PySem.F.slot_dict_keyiterator_next ki.typeIs PySem.F.entry_dict_keyiterator_next ?_ (PySem.F.args_dict_keyiterator_next_1 _))))
 refine wpAny_bind (wpAny_pure (wpAny_bind (wpAny_bind ?_)))
 first | refine wpAny_bind (wpAny_typeNameOfWhole_keyiter ki.typeIs (wpAny_pure ?_)) | refine wpAny_bind (wpAny_typeNameOf_keyiter ki.typeIs (wpAny_pure ?_))
 refine wpAny_bind (wpAny_fieldsOf k1 k3 ?_)
 simp only [show Builtin.Dict_items.ownsTuple "dict_keyiterator" = false by decide,Bool.false_eq_true,if_false]
 show wpAny _ _ (if (Value.ref d == Value.none)=true then _ else _) _ _ _
 rw[if_neg (by intro z; cases z)]
 refine wpAny_bind (wpAny_pure (wpAny_bind (wpAny_dictEntries e1 e3 ?_)))
 rw[if_neg (by simp)]
 refine wpAny_bind (wpAny_pure (wpAny_bind (wpAny_dictEpoch e1 e3 ?_)))
 rw[if_neg (by simp)]
 refine wpAny_pure ?_
 simp only [show ¬ ((i:Int) < 0) by omega,if_false,Int.toNat_natCast,he]
 refine wpAny_bind ?_
 first | refine wpAny_bind (wpAny_typeNameOfWhole_keyiter ki.typeIs (wpAny_pure ?_)) | refine wpAny_bind (wpAny_typeNameOf_keyiter ki.typeIs (wpAny_pure ?_))
 refine wpAny_bind (wpAny_isOneOf_keyiter ki.typeIs ?_)
 show wpAny _ _ (setField (.ref it) 1 (rawInt ((i:Int)+1)) >>= _) _ _ _
 refine wpAny_bind (wpAny_setField k1 k3 (by simp) ?_)
 have nx:(s.heap.update it (Obj.mapFields (·.setIfInBounds 1 (rawInt ((i:Int)+1))))).IsKeyIter it d (i+1) es.size ep:=⟨_,Heap.get?_update_self _ k1 (Obj.isFreed_of_fields (Obj.data_mapFields k3 _)),(Obj.cls_mapFields ..).trans k2,by rw[Obj.data_mapFields k3]; simp[rawInt]⟩
 refine wpAny_bind (wpAny_holding (wpAny_bind (wpAny_isOneOf_keyiter (s:={ s with heap:=s.heap.update it (Obj.mapFields (·.setIfInBounds 1 (rawInt ((i:Int)+1)))) }) nx.typeIs ?_)))
 show wpAny _ _ (pure e.key) _ _ _
 exact wpAny_pure (wpAny_pure ⟨_,rfl,wpAny_pure (q _ nx (Heap.SameBut.update ..))⟩)
theorem kW{Q:Option Value->Shared->Prop}(hh:A.handled=none)(ki:s.heap.IsKeyIter it d i es.size ep)(r:dy s.heap d es ep)(he:es.size<=i)(q : ∀ h',Heap.ExtBut it s.heap h'->Q none { s with heap:=h' }):wpAny (model prog w) A (pyNext (.ref it)) Q E s:=by
 obtain⟨o,k1,k2,k3⟩:=id ki
 obtain⟨u,e1,e2,e3⟩:=r.obj
 unfold pyNext
 refine wpAny_bind (wpAny_attempt (wpAny_callSpecial?_slot (name:=Str.ofString "__next__") ki.typeIs PySem.F.slot_dict_keyiterator_next (wpAny_call_entry PySem.F.slot_dict_keyiterator_next ki.typeIs PySem.F.entry_dict_keyiterator_next ?_ (PySem.F.args_dict_keyiterator_next_1 _))))
 refine wpAny_bind (wpAny_pure (wpAny_bind (wpAny_bind ?_)))
 first | refine wpAny_bind (wpAny_typeNameOfWhole_keyiter ki.typeIs (wpAny_pure ?_)) | refine wpAny_bind (wpAny_typeNameOf_keyiter ki.typeIs (wpAny_pure ?_))
 refine wpAny_bind (wpAny_fieldsOf k1 k3 ?_)
 simp only [show Builtin.Dict_items.ownsTuple "dict_keyiterator" = false by decide,Bool.false_eq_true,if_false]
 show wpAny _ _ (if (Value.ref d == Value.none)=true then _ else _) _ _ _
 rw[if_neg (by intro z; cases z)]
 refine wpAny_bind (wpAny_pure (wpAny_bind (wpAny_dictEntries e1 e3 ?_)))
 rw[if_neg (by simp)]
 refine wpAny_bind (wpAny_pure (wpAny_bind (wpAny_dictEpoch e1 e3 ?_)))
 rw[if_neg (by simp)]
 refine wpAny_pure ?_
 simp only [show ¬ ((i:Int) < 0) by omega,if_false,Int.toNat_natCast,Array.getElem?_eq_none he]
 refine wpAny_bind ?_
 first | refine wpAny_bind (wpAny_typeNameOfWhole_keyiter ki.typeIs (wpAny_pure ?_)) | refine wpAny_bind (wpAny_typeNameOf_keyiter ki.typeIs (wpAny_pure ?_))
 show wpAny _ _ (setField (.ref it) 0 .none >>= _) _ _ _
 refine wpAny_bind (wpAny_setField k1 k3 (by simp) ?_)
 show wpAny _ _ (newExc (.type "StopIteration") [] >>= _) _ _ _
 refine wpAny_bind ?_
 simp only [newExc,newTuple]
 refine wpAny_bind (wpAny_newObj_type ?_ (by size_fits))
 refine wpAny_bind (m:=firstArgMember _ _) (wpAny_of_eq (a:=Value.none) (by first | rfl | (simp only [firstArgMember]; rfl)) (wpAny_newObj_type ?_ (by size_fits)))
 simp only [raiseNew]
 refine wpAny_bind (wpAny_handled ?_)
 rw[show A.in1.handled=none from hh]
 refine wpAny_bind (wpAny_pure (wpAny_throw ?_))
 refine wpAny_bind (wpAny_isInstance (T := "StopIteration") (b:=true) ⟨_,Heap.get?_push_size _ rfl,by rfl⟩ isSubtype_stop ?_)
 exact wpAny_pure (q _ (((Heap.SameBut.update ..).extBut.push _).push _))
end
abbrev ab:=List Int × List Int
def bH(x:ab × Addr × Value):DictEntry:=⟨reduceHash (Builtin.Tuple.tupleHashOf [reduceHash (Builtin.Tuple.tupleHashOf (x.1.1.map hashInt)),reduceHash (Builtin.Tuple.tupleHashOf (x.1.2.map hashInt))]),.ref x.2.1,x.2.2⟩
theorem qB(P:Program)(w:World):entryOfKey (ic P w)=bH:=rfl
def dg(a:Addr)(xs:List (ab × Addr × Value))(ep:Nat):HO:=.ext λh=>dy h a (xs.map bH).toArray ep
def aH(H:Hp)(k:ab)(p:Addr):Prop:=∃ c b,H p=some (.tup [.ref c,.ref b])/\H c=some (.tup (k.1.map V.int))/\H b=some (.tup (k.2.map V.int))
abbrev KP:List (ab × Addr × V)->List (ab × Addr × Value)->Prop:=Paired λp q=>p.1=q.1/\p.2.1=q.2.1/\au p.2.2 q.2.2
structure DP (H:Hp) (a:Addr) (kvs:List (ab × Addr × V)):Prop where
 ex : ∃ xs ep,H a=some (dg a xs ep)/\KP kvs xs
 key : ∀ x∈kvs,aH H x.1 x.2.1
 nd:(kvs.map (·.1)).Nodup
 le:kvs.length<=sizeLine
theorem aH.same{H H':Hp}{k:ab}{p:Addr}(s:af H H')(h:aH H k p):aH H' k p:=by
 obtain⟨c,b,h1,h0,h2⟩:=h
 exact⟨c,b,s _ _ h1,s _ _ h0,s _ _ h2⟩
theorem DP.same{H H':Hp}{a:Addr}{kvs:List (ab × Addr × V)}(s:af H H')(d:DP H a kvs):DP H' a kvs:=by
 obtain⟨⟨xs,ep,h1,h2⟩,k,n,l⟩:=d
 exact⟨⟨xs,ep,s _ _ h1,h2⟩,λx hx=>(k x hx).same s,n,l⟩
def az(kvs:List (ab × Addr × V))(k:ab):Option V:=(kvs.find? λx=>decide (x.1=k)).map (·.2.2)
def bV(kvs:List (ab × Addr × V))(k:ab)(b:Addr)(v:V):List (ab × Addr × V) :=
 if (az kvs k).isSome then kvs.map (λx=>if x.1=k then (x.1,x.2.1,v) else x) else kvs++[(k,b,v)]
theorem KP.val{kvs:List (ab × Addr × V)}{xs:List (ab × Addr × Value)}(r:KP kvs xs)(k:ab):bS (az kvs k) ((atKey xs k).map (·.2)):=by
 induction r with
 | nil=>exact True.intro
 | @cons p q ps qs h t ih =>
  obtain⟨h1,_,h2⟩:=h
  by_cases e:p.1=k
  ·have e':q.1=k:=h1.symm.trans e
   have b:atKey (q :: qs) k=some q.2:=by simp[atKey,List.find?_cons,e']
   have c:az (p :: ps) k=some p.2.2:=by simp[az,List.find?_cons,e]
   rw[b,c]
   exact h2
  ·have e' : ¬ q.1=k:=λz=>e (h1.trans z)
   have b:atKey (q :: qs) k=atKey qs k:=by simp[atKey,List.find?_cons,e']
   have c:az (p :: ps) k=az ps k:=by simp[az,List.find?_cons,e]
   rw[b,c]
   exact ih
theorem KP.put{kvs:List (ab × Addr × V)}{xs:List (ab × Addr × Value)}(r:KP kvs xs)(k:ab){b:Addr}{y:V}{u:Value}(ry:au y u):KP (bV kvs k b y) (storedH xs k b u):=by
 have e:(az kvs k).isSome=(atKey xs k).isSome:=by rw[(r.val k).isSome_eq,Option.isSome_map]
 unfold bV storedH
 rw[e]
 split
 ·induction r with
  | nil=>exact .nil
  | @cons p q ps qs h t ih =>
   rw[List.map_cons,List.map_cons]
   have all : ∀ {l m},KP l m->KP (l.map λx=>if x.1=k then (x.1,x.2.1,y) else x) (m.map (putAt k u)):=by
    intro l m r
    induction r with
    | nil=>exact .nil
    | @cons p q ps qs h t ih =>
     rw[List.map_cons,List.map_cons]
     refine .cons ?_ ih
     obtain⟨h1,h2,h3⟩:=h
     unfold putAt
     by_cases z:p.1=k
     ·rw[if_pos z,if_pos (h1.symm.trans z)]; exact⟨h1,h2,ry⟩
     ·rw[if_neg z,if_neg (λy=>z (h1.trans y))]; exact⟨h1,h2,h3⟩
   exact all (.cons h t)
 ·exact Paired.snoc r ⟨rfl,rfl,ry⟩
theorem KP.keys{kvs:List (ab × Addr × V)}{xs:List (ab × Addr × Value)}(r:KP kvs xs):kvs.map (·.1)=xs.map (·.1):=by
 induction r with
 | nil=>rfl
 | cons h t ih=>rw[List.map_cons,List.map_cons,ih,h.1]
theorem iS : ∀ {kvs:List (ab × Addr × V)} {xs:List (ab × Addr × Value)},KP kvs xs->∀ {i:Nat} {a:ab × Addr × V} {b:ab × Addr × Value},kvs[i]? = some a->xs[i]? = some b->a.1=b.1/\a.2.1=b.2.1/\au a.2.2 b.2.2
 | _,_,.nil,_,_,_,h,_=>by simp at h
 | _,_,.cons r t,0,_,_,h,h'=>by simp at h h'; subst h; subst h'; exact r
 | _,_,.cons r t,i+1,_,_,h,h'=>iS t (i:=i) (by simpa using h) (by simpa using h')
theorem xD(kvs:List (ab × Addr × V))(k:ab)(b:Addr)(v:V) : ∀ x∈bV kvs k b v,(∃ y∈kvs,y.1=x.1/\y.2.1=x.2.1)\/x=(k,b,v):=by
 intro x hx
 unfold bV at hx
 split at hx
 ·obtain⟨y,hy,rfl⟩:=List.mem_map.mp hx
  refine .inl ⟨y,hy,?_⟩
  split <;> exact⟨rfl,rfl⟩
 ·rcases List.mem_append.mp hx with z | z
  ·exact .inl ⟨x,z,rfl,rfl⟩
  ·exact .inr (List.mem_singleton.mp z)
theorem qy(kvs:List (ab × Addr × V))(k:ab)(b:Addr)(v:V):(bV kvs k b v).length<=kvs.length+1:=by
 unfold bV
 split <;> simp
theorem jw{P:Program}{w:World}{H:Hp}{h:Heap}{k:ab}{p:Addr}(ok:aN P w H h)(e:aH H k p):cq P w h k p:=by
 obtain⟨c,b,h1,h0,h2⟩:=e
 obtain⟨_,its,r,o,a1,a2,n,a3⟩:=(show aL P w H h p (.tup [.ref c,.ref b]) from ok p _ h1)
 have all : ∀ {ks:List Int} {us:List Value},ar (ks.map V.int) us->ItemsAre (intKind P w) ks us:=by
  intro ks
  induction ks with
  | nil=>intro us r; cases r; exact .nil
  | cons k ks ih =>
   intro us r
   cases r with
   | cons a b =>
    obtain⟨t,rfl⟩:=a
    exact .cons (by exact beq_self_eq_true k) (ih b)
 have one : ∀ {a:Addr} {ks:List Int},H a=some (.tup (ks.map V.int))->IsTupleKey (intKind P w) h ks a:=λ{a ks} ha=>by
  obtain⟨_,its2,r2,o2,b1,b2,n2,b3⟩:=(show aL P w H h a (.tup (ks.map V.int)) from ok a _ ha)
  exact⟨o2,its2.toArray,n2,b1,b2,b3,by simpa using all r2⟩
 cases r with
 | cons c1 r=>cases r with
  | cons c2 r=>cases r with
   | nil =>
    cases c1
    cases c2
    exact⟨o,c,b,n,a1,a2,a3,one h0,one h2⟩
section
variable {X:Cx}{pins:List (Addr × Obj)}{σ:St}{H:Hp}{s:Shared}{a b:Addr}{kvs:List (ab × Addr × V)}{k:ab}{v:V}{A:Around}{E:Value->Shared->Prop}
theorem gb(I:ad X pins σ H s)(d:DP H a kvs) : ∃ xs ep,H a=some (dg a xs ep)/\KP kvs xs/\dy s.heap a (xs.map bH).toArray ep/\s.heap.DictOfH (ic X.prog X.w) a xs:=by
 obtain⟨⟨xs,ep,h1,h2⟩,ky,nd,le⟩:=d
 obtain⟨r,_⟩:=I.hok a _ h1
 obtain⟨o,e1,e2,e3⟩:=r.obj
 refine⟨xs,ep,h1,h2,r,o,_,ep,e1,e2,e3,by rw[qB],λx hx=>?_,by rw[<- h2.keys]; exact nd⟩
 have all : ∀ {l m},KP l m->(∀ x∈l,aH H x.1 x.2.1)->∀ x∈m,cq X.prog X.w s.heap x.1 x.2.1:=by
  intro l m r
  induction r with
  | nil=>intro _ x hx; cases hx
  | @cons p q ps qs h t ih =>
   intro al x hx
   rcases List.mem_cons.mp hx with z | z
   ·subst z
    rw[<- h.1,<- h.2.1]
    exact jw I.hok (al p (List.mem_cons_self ..))
   ·exact ih (λy hy=>al y (List.mem_cons_of_mem _ hy)) x z
 exact all h2 ky x hx
theorem sO{Q:Value->Shared->Prop}(hu:A.units+16 < cLine)(I:ad X pins σ H s)(d:DP H a kvs)(ky:aH H k b)(e:az kvs k=some v)(q : ∀ w' s',ad X pins σ H s'->au v w'->Q w' s'):wpAny (model X.prog X.w) A (getItem (.ref a) (.ref b)) Q E s:=by
 obtain⟨xs,ep,h1,h2,r,dd⟩:=gb I d
 obtain⟨w',hw,rw'⟩:=bS.some_of (v:=v) (o:=(atKey xs k).map (·.2)) (by rw[<- e]; exact h2.val k)
 obtain⟨p,hp,hp2⟩:=Option.map_eq_some_iff.mp hw
 refine wpAny_getItem_heap (knd:=ic X.prog X.w) (by show A.units+1+8 < cLine; omega) (jw I.hok ky) dd hp ?_
 rw[hp2]
 exact q w' _ (I.tok _) rw'
theorem sN{u:Value}{Q:Unit->Shared->Prop}(hu:A.units+16 < cLine)(I:ad X pins σ H s)(d:DP H a kvs)(ky:aH H k b)(hl:kvs.length < sizeLine)(rv:au v u)(q : ∀ H' s',ad X pins σ H' s'->DP H' a (bV kvs k b v)->(∀ c,c≠a->H' c=H c)->Q () s'):wpAny (model X.prog X.w) A (setItem (.ref a) (.ref b) u) Q E s:=by
 obtain⟨xs,ep,h1,h2,r,dd⟩:=gb I d
 have hz:xs.length<=sizeLine:=by rw[<- Paired.length h2]; exact d.le
 refine wpAny_setItem_heap (hsz:=hz) (knd:=ic X.prog X.w) (by show A.units+1+8 < cLine; omega) (jw I.hok ky) dd λh' dd' hs=>?_
 obtain⟨o,es,ep',e1,e2,e3,e4,e5,e6⟩:=dd'
 have nk : ∀ c ys,H c=some (.tup ys)->c≠a:=λc ys z y=>by subst y; rw[h1]at z; cases z
 have es':es=((storedH xs k b u).map bH).toArray:=by
  rw[qB]at e4
  rw[<- e4,Array.toArray_toList]
 have I':ad X pins σ (upd H a (dg a (storedH xs k b u) ep')) { s with heap:=h',toks:=s.toks+(ic X.prog X.w).draws k }:=by
  refine jW I (by rw[h1]; exact True.intro) hs ⟨o,e1⟩ ⟨⟨r.big,o,e1,e2,by rw[e3,es']⟩,⟨o,e1⟩,λg1 g2 f kk=>f.to kk⟩
 refine q _ _ I' ⟨⟨_,ep',aR,h2.put k rv⟩,λx hx=>?_,?_,?_⟩ λc hc=>ai hc
 ·have ky':aH H x.1 x.2.1:=by
   rcases xD kvs k b v x hx with ⟨y,hy,z1,z2⟩ | z
   ·rw[<- z1,<- z2]; exact d.key y hy
   ·rw[z]; exact ky
  obtain⟨c,d,c1,c0,c2⟩:=ky'
  exact⟨c,d,by rw[ai (nk _ _ c1)]; exact c1,by rw[ai (nk _ _ c0)]; exact c0,by rw[ai (nk _ _ c2)]; exact c2⟩
 ·rw[(h2.put k rv).keys]; exact e6
 ·have:=qy kvs k b v; omega
end
def zL:TE:=λ_ H Q=>∀ p H',aO H p (dg p [] 0) H'->Q (.ref p) H'
theorem DP.new{H H':Hp}{p:Addr}(g:aO H p (dg p [] 0) H'):DP H' p []:=⟨⟨[],0,g.at_,.nil⟩,λ_ hx=>(nomatch hx),List.nodup_nil,Nat.zero_le _⟩
def vD(td ty:TE):TE:=λσ H Q=>td σ H λx H1=>ty σ H1 λy H2=>∃ a b kvs k v,x=.ref a/\y=.ref b/\DP H2 a kvs/\aH H2 k b/\az kvs k=some v/\Q v H2
def wG(td ty tv:TE):TS:=λD σ H=>tv σ H λv H1=>td σ H1 λx H2=>ty σ H2 λy H3=>∃ a b kvs k,x=.ref a/\y=.ref b/\DP H3 a kvs/\aH H3 k b/\kvs.length < sizeLine/\∀ H4,DP H4 a (bV kvs k b v)->(∀ c,c≠a->H4 c=H3 c)->D.nx σ H4
def gh(d:Addr)(o:HO)(kvs:List (ab × Addr × V)):It :=
 ⟨λi H=>H d=some o/\i < kvs.length,λi H x H'=>H'=H/\∃ k b v,kvs[i]? = some (k,b,v)/\x=.ref b,λi H=>H d=some o/\kvs.length<=i⟩
def Ak(td:TE):TI:=λσ H R=>td σ H λx H1=>∃ d kvs,x=.ref d/\DP H1 d kvs/\∀ o,H1 d=some o->R (gh d o kvs) H1
theorem vg{P:Program}{w:World}{K:W.Frag}{tg:Expr}(d it:Addr)(xs:List (ab × Addr × Value))(ep:Nat)(kvs:List (ab × Addr × V))(kn:KP kvs xs):dw P w K tg (gh d (dg d xs ep) kvs) [it] it (λi h=>h.IsKeyIter it d i (xs.map bH).toArray.size ep) where
 mem:=by simp
 obj:=λi h st b hb=>by
  have e:b=it:=by simpa using hb
  subst e
  obtain⟨o,e,c,d⟩:=st
  exact⟨o,e,λv z=>by rw[d]at z; cases z⟩
 keep:=λi h h' st k=>st.at λo e=>k it (by simp) o e
 item:=by
  intro X hP hw hK hc i pins s σ H E I hf st hg
  subst hP hw hK
  obtain⟨hq,hi⟩:=hg
  obtain⟨r,_⟩:=I.hok d _ hq
  obtain⟨f0,f1,f2,f3,f4,f5⟩:=hf it (by simp)
  have hl:=Paired.length kn
  obtain⟨⟨k,b,v⟩,hkv⟩ : ∃ y,kvs[i]? = some y:=⟨_,List.getElem?_eq_getElem hi⟩
  obtain⟨⟨k',b',u⟩,hxs⟩ : ∃ y,xs[i]? = some y:=⟨_,List.getElem?_eq_getElem (by omega)⟩
  obtain⟨z1,z2,z3⟩:=iS kn hkv hxs
  have z2':b=b':=z2
  subst z2'
  refine jn (e:=bH (k',b,u)) st r (by rw[List.getElem?_toArray,List.getElem?_map,hxs]; rfl) λh' st' sb=>?_
  have I1:ad X pins σ H { s with heap:=h' }:=I.turned (t':=s.toks) (λb o hb e=>(sb.2 b hb).trans e) f0 f1 f3 f4 f5
  obtain⟨o,e,c,dd⟩:=id st'
  exact⟨.ref b,rfl,ii (s:={ s with heap:=h' }) e c dd (by decide) ⟨.ref b,H,I1,rfl,⟨rfl,k,b,v,hkv,rfl⟩,st',λb hb=>(hf b hb).1⟩⟩
 done:=by
  intro X hP hw hK hc i pins s σ H E I hf st hg
  subst hP hw hK
  obtain⟨hq,hi⟩:=hg
  obtain⟨r,_⟩:=I.hok d _ hq
  obtain⟨f0,f1,f2,f3,f4,f5⟩:=hf it (by simp)
  have hl:=Paired.length kn
  exact kW (I.ok.hd hc) st r (by simp; omega) λh' eb=>⟨rfl,I.turned (t':=s.toks) (λb o hb e=>eb b o hb e) f0 f1 f3 f4 f5⟩
 self:=λ_ _ _ _ _ st h=>wpAny_pyIter_keyiter st h
section
variable {X:Cx}{K:W.Frag}{o i e f value tg l:Expr}{td ty tx tv tl:TE}{pos pos' apos cpos:Pos}
theorem iK:QE X (.Dict [] [] pos) zL:=⟨λpins s σ H Q I h=>by
 refine wpAny_Dict_empty ⟨.ref s.heap.objs.size,_,I.laid (a:=s.heap.objs.size) (o:=dg s.heap.objs.size [] 0) (t':=s.toks) (λ_ _ q=>Heap.get?_push_of_some _ q) (Nat.le_refl _) ?_,rfl,h _ _ (.mk' (I.hok.fresh (Nat.le_refl _)))⟩
 refine⟨⟨beq_eq_false_iff_ne.mpr (Ne.symm (Nat.ne_of_lt I.big)),_,Heap.get?_push_size _ rfl,⟨rfl,rfl,rfl⟩,rfl⟩,⟨_,Heap.get?_push_size _ rfl⟩,λg1 g2 f kk=>f.to kk⟩⟩
theorem cW(hu:X.A.units+64 < cLine)(ho:QE X o td)(hi:QE X i ty)(hs:iZ i:=by intro _ _; rfl):QE X (.Subscript o i pos) (vD td ty):=⟨λpins s σ H Q I h=>by
 refine kM PySem.F.slot_dict_getitem.lookup hs (aj (ho.h pins s σ H _ I h) λu s1 ⟨x,H1,I1,rx,q1⟩=>aj (hi.h pins s1 σ H1 _ I1 q1) λiv s2 ⟨y,H2,I2,ry,a,b,kvs,k,v,ex,ey,d,ky,ev,q2⟩=>?_)
 subst ex ey
 obtain rfl:u=Value.ref a:=rx
 obtain rfl:iv=Value.ref b:=ry
 obtain⟨xs,ep,_,_,r,_⟩:=gb I2 d
 exact⟨r.ty,sO (by omega) I2 d ky ev λw' s3 I3 rw'=>⟨v,H2,I3,rw',q2⟩⟩⟩
theorem iM(hu:X.A.units+64 < cLine)(ho:QE X o td)(hi:QE X i ty)(hv:QE X value tv)(hs:swapsWith value (some (.Subscript o i pos')) pos.line X.env=pure false:=by rfl):QS X (.Assign [.Subscript o i pos'] value pos) (wG td ty tv):=⟨λpins s σ H D I h=>by
 refine wpAny_Assign_Subscript (aj (hv.h pins s σ H _ I h) λr s1 ⟨v,H1,I1,rv,q1⟩=>aj (ho.h pins s1 σ H1 _ I1 q1) λu s2 ⟨x,H2,I2,rx,q2⟩=>aj (hi.h pins s2 σ H2 _ I2 q2) λiv s3 ⟨y,H3,I3,ry,a,b,kvs,k,ex,ey,d,ky,lt,q3⟩=>?_) hs
 subst ex ey
 obtain rfl:u=Value.ref a:=rx
 obtain rfl:iv=Value.ref b:=ry
 exact sN (by omega) I3 d ky lt rv λH4 s4 I4 d4 k4=>⟨σ,H4,I4,q3 H4 d4 k4⟩⟩
theorem qk(hl:QE X l tl):QI X tg l (Ak tl):=⟨λpins s σ H R I h=>by
 refine aj (hl.h pins s σ H _ I h) λv s1 ⟨x,H1,I1,r1,d,kvs,ex,dn,q⟩=>?_
 subst ex
 obtain rfl:v=Value.ref d:=r1
 obtain⟨xs,ep,h1,h2,r,_⟩:=gb I1 dn
 refine kU r ?_
 refine⟨s1.heap.objs.size,[s1.heap.objs.size],_,gh d (dg d xs ep) kvs,H1,rfl,I1.kept (t':=s1.toks) λb o e=>Heap.get?_push_of_some _ e,vg d _ xs ep kvs h2,⟨_,Heap.get?_push_size _ rfl,rfl,rfl⟩,λb hb=>?_,q _ h1⟩
 have e:b=s1.heap.objs.size:=by simpa using hb
 subst e
 exact I1.fpOk (Nat.le_refl _) (I1.hok.fresh (Nat.le_refl _))⟩
theorem BC{d:Addr}{o:HO}{kvs:List (ab × Addr × V)}{g:TG}{tb:TS}{D:cH}{σ:St}{H:Hp}(Pv:Nat->St->Hp->Prop)(h0:Pv 0 σ H)(hl : ∀ i σ H,i<=kvs.length->Pv i σ H->H d=some o)
 (hs : ∀ i k b v σ H,kvs[i]? = some (k,b,v)->Pv i σ H->g (.ref b) σ H λσ2 H2=>tb { D with nx:=Pv (i+1),ct:=Pv (i+1),bk:=D.nx } σ2 H2) (hd : ∀ σ H,Pv kvs.length σ H->D.nx σ H) :
 ∃ W:Nat->Nat->St->Hp->Prop,(∃ m,W 0 m σ H)/\∀ i m σ H,W i m σ H ->
  ((gh d o kvs).stop i H/\D.nx σ H)\/((gh d o kvs).go i H/\∃ N:St->Hp->Prop,(∀ σ' H',N σ' H'->∃ m',m' < m/\W (i+1) m' σ' H')/\∀ x H',(gh d o kvs).yld i H x H'->g x σ H' λσ2 H2=>tb { D with nx:=N,ct:=N,bk:=D.nx } σ2 H2):=by
 refine⟨λi m σ H=>m=kvs.length - i/\i<=kvs.length/\Pv i σ H,⟨kvs.length,by simp,Nat.zero_le _,h0⟩,?_⟩
 rintro i m σ H ⟨rfl,hi,p⟩
 have q:=hl i σ H hi p
 by_cases hlt:i < kvs.length
 ·refine .inr ⟨⟨q,hlt⟩,Pv (i+1),λσ' H' p'=>⟨kvs.length - (i+1),by omega,rfl,hlt,p'⟩,λx H' y=>?_⟩
  obtain⟨rfl,k,b,v,y,rfl⟩:=y
  exact hs i k b v σ H' y p
 ·have e:i=kvs.length:=by omega
  subst e
  exact .inl ⟨⟨q,Nat.le_refl _⟩,hd σ H p⟩
end
section
variable {prog:Program}{w:World}{A:Around}{E:Value->Shared->Prop}{s:Shared}{d:Addr}{es:Array DictEntry}{ep:Nat}
theorem kX (r:dJ s.heap d es ep):s.TypeIs (.ref d) "dict":=by
 obtain⟨_,o,e,c,_⟩:=r
 exact⟨o,e,c.1⟩
theorem wN(d:Addr)(es:Array DictEntry)(ep:Nat):MeetsIn prog w (Builtin.«dict.__len__» ⟨[.ref d],[]⟩) (λ_ R s=>dJ s.heap d es ep/\R (.ok (.ret (.int es.size s.toks))) { s with toks:=s.toks+1 }) :=
 .of_wp λA R s ⟨hm,h⟩=>by
  obtain⟨hd,o,ho,hc,hdat⟩:=hm
  show wpAny _ _ (dictSize d >>= _) _ _ s
  unfold dictSize
  refine wpAny_bind (wpAny_bind (wpAny_dictEntries ho hdat (wpAny_pure ?_)))
  show wpAny _ _ (Builtin.Dict.pendingCount d >>= _) _ _ s
  refine wpAny_bind (wpAny_pendingCount_other hd ?_)
  refine wpAny_ret_mkInt ?_
  rw[Nat.add_zero]; exact h
theorem p0{Q:Value->Shared->Prop}(hm:dJ s.heap d es ep)(hfit:(es.size:Int) < 2 ^ 63)(h:Q (.int es.size (s.toks+1)) { s with toks:=s.toks+1+1 }) :
 wpAny (model prog w) A (Builtin.«len» ⟨[.ref d],[]⟩) (λfin s'=>∃ r,fin=.done (.ret r)/\Q r s') E s:=by
 have ty:=kX hm
 unfold Builtin.«len»
 refine wpAny_bind (m:=oneArg "len" _) (wpAny_pure ?_)
 refine wpAny_bind (m:=callSpecial? (.ref d) (Str.ofString "__len__")) (wpAny_callSpecial?_slot (name:=Str.ofString "__len__") ty PySem.F.slot_dict_len
  (call_meetsIn PySem.F.slot_dict_len ty PySem.F.entry_dict_len (PySem.F.args_dict_len_1 _) (wN d es ep) ⟨hm,?_⟩))
 show wpAny _ _ _ _ _ { s with toks:=s.toks+1 }
 refine wpAny_bind (wpAny_holding (wpAny_pure ?_))
 refine wpAny_bind (wpAny_letGo ?_)
 show wpAny _ _ (if ((es.size:Nat):Int) < 0 then _ else _) _ _ _
 rw[if_neg (by omega)]
 show wpAny _ _ (if ((es.size:Nat):Int)>=2 ^ 63 then _ else _) _ _ _
 rw[if_neg (by omega)]
 exact wpAny_bind (wpAny_mkInt (wpAny_pure ⟨_,rfl,h⟩))
theorem wM{Q:Bool->Shared->Prop}(hm:dJ s.heap d es ep)(hfit:(es.size:Int) < 2 ^ 63)(h:Q (es.size != 0) { s with toks:=s.toks+1+1 }):wpAny (model prog w) A (truthy (.ref d)) Q E s:=by
 have ty:=kX hm
 have hne:((es.size:Int) != 0)=(es.size != 0):=by
  by_cases e:es.size=0
  ·rw[e]; rfl
  ·have e2 : ¬ (es.size:Int)=0:=by omega
   rw[bne_iff_ne.mpr e2,bne_iff_ne.mpr e]
 have key:wpAny (model prog w) A (runValue (.builtin "len" ⟨[.ref d],[]⟩)) (λr s'=>r=.int es.size (s.toks+1)/\Q (es.size != 0) s') E s:=by
  refine wpAny_runValue (codeAny_builtin entry_len ?_)
  rw[Around.under_plainId plain_len _]
  exact wpAny_mono (p0 (Q:=λr s'=>r=.int es.size (s.toks+1)/\Q (es.size != 0) s') hm hfit ⟨rfl,h⟩)
   (λfin s' h'=>by obtain⟨r,rfl,hq⟩:=h'; exact hq) λ_ _ e=>e
 unfold truthy
 first
  | refine wpAny_bind (wpAny_callSpecial?_none (name:=Str.ofString "__bool__") ty noBool_dict ?_)
  | refine wpAny_bind (wpAny_pure (wpAny_bind (wpAny_callSpecial?_none (name:=Str.ofString "__bool__") ty noBool_dict ?_)))
 first
  | refine wpAny_bind (wpAny_specialOf (name:=Str.ofString "__len__") ty PySem.F.slot_dict_len.lookup ?_)
  | refine wpAny_bind (wpAny_pure (wpAny_bind (wpAny_specialOf (name:=Str.ofString "__len__") ty PySem.F.slot_dict_len.lookup ?_)))
 first
  | exact wpAny_bind (wpAny_mono key (λr s' h'=>by obtain⟨rfl,hq⟩:=h'; exact wpAny_pure (hne ▸ hq)) λ_ _ e=>e)
  | exact wpAny_bind (wpAny_pure (wpAny_bind (wpAny_mono key (λr s' h'=>by obtain⟨rfl,hq⟩:=h'; exact wpAny_pure (hne ▸ hq)) λ_ _ e=>e)))
end
def oF(H:Hp)(d:Addr)(n:Nat):Prop:=(∃ kvs:List (am × V),H d=some (.dK kvs)/\n=kvs.length)\/(∃ kvs:List (List am × V),H d=some (.dT kvs)/\n=kvs.length)\/∃ kvs,DP H d kvs/\n=kvs.length
section
variable {X:Cx}{pins:List (Addr × Obj)}{σ:St}{H:Hp}{s:Shared}{d:Addr}{n:Nat}
theorem sQ(I:ad X pins σ H s)(h:oF H d n) : ∃ es ep,dJ s.heap d es ep/\es.size=n/\n<=sizeLine:=by
 rcases h with ⟨kvs,h,rfl⟩ | ⟨kvs,h,rfl⟩ | ⟨kvs,h,rfl⟩
 ·obtain⟨z,hdS,vs,rel,o,es,ep,e1,e2,e3,e4,e5,e6⟩:=jU I.hok h
  refine⟨es,ep,⟨hdS,o,e1,e2,e3⟩,?_,z⟩
  have:=e5.length
  have:=rel.length
  rw[Array.length_toList]at *
  omega
 ·obtain⟨z,hdS,xs,rel,o,es,ep,e1,e2,e3,e4,e5⟩:=(show aL X.prog X.w H s.heap d (.dT kvs) from I.hok d _ h)
  refine⟨es,ep,⟨hdS,o,e1,e2,e3⟩,?_,z⟩
  have h1:=congrArg List.length e4
  rw[List.length_map,Array.length_toList]at h1
  rw[h1,Paired.length rel]
 ·obtain⟨xs,ep,h1,h2,r,_⟩:=gb I h
  refine⟨_,ep,⟨r.big,r.obj⟩,?_,h.le⟩
  rw[List.size_toArray,List.length_map]
  exact (Paired.length h2).symm
theorem pP{n:Nat}(h:n<=sizeLine):(n:Int) < 2 ^ 63:=by rw[sizeLine_eq]at h; omega
end
def vo(t:TE):TT:=λσ H Q=>t σ H λx H1=>∃ d n,x=.ref d/\oF H1 d n/\Q (n != 0) H1
def Bw:List V->Hp->VK->Prop:=λxs H Q=>∃ d n,xs=[.ref d]/\oF H d n/\Q (.int (n:Int)) H
def Bx(neg:Bool):R2:=λx y H Q=>∃ b a kvs k,x=.ref b/\y=.ref a/\DP H a kvs/\aH H k b/\Q (.bl (if neg then !(az kvs k).isSome else (az kvs k).isSome)) H
section
variable {X:Cx}
theorem qf{e:Expr}{t:TE}(h:QE X e t)(he : ∀ whole,isTrue e X.env whole=(do let v <- whole; standAt e.pos; holding [v] (truthy v)):=by intro _; rfl):QT X e (vo t):=⟨by
 intro pins s σ H Q I hw
 refine isTrue_plain (aj (h.h pins s σ H _ I hw) λv s1 ⟨x,H1,I1,r1,d,n,ex,dl,q1⟩=>?_) (he _)
 subst ex
 obtain rfl:v=Value.ref d:=r1
 obtain⟨es,ep,r,e1,e2⟩:=sQ I1 dl
 refine wM r (pP (by omega)) ?_
 rw[e1]
 exact⟨_,I1.tok _,q1⟩⟩
theorem Cl:bp X (.builtin "len") Bw:=by
 intro pins s σ H us vs Q I r q
 obtain⟨d,n,rfl,dl,q⟩:=q
 obtain⟨u,rfl,rx⟩:=fI r
 cases rx
 obtain⟨es,ep,rr,e1,e2⟩:=sQ I dl
 refine Calls.call_function_entry kind_len plain_len entry_len (args_len1 _) (p0 rr (pP (by omega)) ?_)
 rw[e1]
 exact⟨.int (n:Int),H,I.tok _,⟨_,rfl⟩,q⟩
theorem lT(hu:X.A.units+64 < cLine):aG X (compareOp .NotIn) (Bx true):=by
 intro pins s σ H x y v u Q I rx ry q
 obtain⟨b,a,kvs,k,rfl,rfl,dp,ky,q⟩:=q
 cases rx
 cases ry
 obtain⟨xs,ep,h1,h2,r,dd⟩:=gb I dp
 refine wpAny_notIn_heap (knd:=ic X.prog X.w) (by show X.A.units+1+8 < cLine; omega) (jw I.hok ky) r.big dd ?_
 refine⟨.bl _,H,I.tok _,rfl,?_⟩
 have e:(az kvs k).isSome=(atKey xs k).isSome:=by rw[(h2.val k).isSome_eq,Option.isSome_map]
 rw[<- e]
 exact q
end
def gj(d:Addr)(o:HO)(kvs:List (ab × Addr × V)):It :=
 ⟨λi H=>H d=some o/\i < kvs.length,λi H x H'=>∃ p k b v,x=.ref p/\kvs[i]? = some (k,b,v)/\aO H p (.tup [.ref b,v]) H',λi H=>H d=some o/\kvs.length<=i⟩
theorem va{P:Program}{w:World}{K:W.Frag}{tes:List Expr}{kk:Nat}{pp:Pos}(d it:Addr)(xs:List (ab × Addr × Value))(ep:Nat)(kvs:List (ab × Addr × V))(kn:KP kvs xs)(hdi:d≠it):dw P w K (.Tuple tes kk pp) (gj d (dg d xs ep) kvs) [it] it (λi h=>∃ ok ov,IsItemIter h it d i (xs.map bH).toArray.size ep ok ov) where
 mem:=by simp
 obj:=λi h st b hb=>by
  obtain⟨ok,ov,h1⟩:=st
  have hb':b=it:=by simpa using hb
  subst hb'
  exact⟨_,h1,λv z=>by cases (show Data.fields _=Data.cell v from z)⟩
 keep:=λi h h' st k=>by
  obtain⟨ok,ov,h1⟩:=st
  exact⟨ok,ov,k it (by simp) _ h1⟩
 item:=by
  intro X hP hw hK hc i pins s σ H E I hf st hg
  subst hP hw hK
  obtain⟨ok,ov,h1⟩:=st
  obtain⟨hq,hi⟩:=hg
  obtain⟨r,_⟩:=I.hok d _ hq
  have raw:dJ s.heap d (xs.map bH).toArray ep:=⟨r.big,r.obj⟩
  have hl:=Paired.length kn
  obtain⟨⟨k,b,v⟩,hkv⟩ : ∃ y,kvs[i]? = some y:=⟨_,List.getElem?_eq_getElem hi⟩
  obtain⟨⟨k',b',u⟩,hxs⟩ : ∃ y,xs[i]? = some y:=⟨_,List.getElem?_eq_getElem (by omega)⟩
  obtain⟨z1,z2,z3⟩:=iS kn hkv hxs
  have z2':b=b':=z2
  subst z2'
  have hilt:it < s.heap.objs.size:=Heap.lt_size h1
  refine wK (e:=bH (k',b,u)) h1 raw (by rw[List.getElem?_toArray,List.getElem?_map,hxs]; rfl) λh' ho hT hk=>?_
  refine⟨_,rfl,wpAny_letOwnedTupleGo_items (s:={ s with heap:=h' }) ho λh'' he' hs'=>?_⟩
  have hTe:s.heap.objs.size≠it:=Nat.ne_of_gt hilt
  have hT2:h''.get? s.heap.objs.size=some { cls:=.type "tuple",data:=.seq #[.ref b,u] }:=(hs'.2 _ hTe).trans hT
  have I2:ad X pins σ (upd H s.heap.objs.size (.tup [.ref b,v])) { s with heap:=h'' }:=by
   refine I.turnedN (t':=s.toks) (fp:=[it]) (λb o hb eo=>?_) hf (Nat.le_refl _) (jy ⟨_,hT2,rfl,_,rfl⟩ rfl z3)
   have hbe:b≠it:=λz=>hb (by simp[z])
   exact (hs'.2 b hbe).trans (hk b o hbe eo)
  refine⟨.ref s.heap.objs.size,_,I2,rfl,⟨_,k,b,v,rfl,hkv,.mk' I.fresh⟩,⟨_,_,he'⟩,λb hb=>?_⟩
  have hb':b=it:=by simpa using hb
  rw[ai (by rw[hb']; exact Nat.ne_of_lt hilt)]
  exact (hf b hb).1
 done:=by
  intro X hP hw hK hc i pins s σ H E I hf st hg
  subst hP hw hK
  obtain⟨ok,ov,h1⟩:=st
  obtain⟨hq,hi⟩:=hg
  obtain⟨r,_⟩:=I.hok d _ hq
  have raw:dJ s.heap d (xs.map bH).toArray ep:=⟨r.big,r.obj⟩
  have hl:=Paired.length kn
  exact wL (I.ok.hd hc) h1 raw (by simp; omega) λh' eb=>⟨rfl,I.turnedL (t':=s.toks) (fp:=[it]) (λb o hb eo=>eb b o (λz=>hb (by simp[z])) eo) hf⟩
 self:=λA i s Q E st h=>by
  obtain⟨ok,ov,h1⟩:=st
  have hT:s.TypeIs (.ref it) "dict_itemiterator":=⟨_,h1,rfl⟩
  refine wpAny_pyIter_slot hT PySem.F.slot_dict_itemiterator_iter (wpAny_call_entry PySem.F.slot_dict_itemiterator_iter hT sL ?_ (PySem.F.args_dict_itemiterator_iter_1 _))
  show wpAny _ _ (ret (.ref it)) _ _ s
  exact wpAny_pure ⟨_,rfl, "dict_itemiterator",_,hT,PySem.F.slot_dict_itemiterator_next.lookup,h⟩
def Ai(td:TE):TI:=λσ H R=>td σ H λx H1=>∃ d kvs,x=.ref d/\DP H1 d kvs/\∀ o,H1 d=some o->R (gj d o kvs) H1
section
variable {X:Cx}{o:Expr}{es:List Expr}{kk:Nat}{pp apos cpos:Pos}{td:TE}
theorem lg (ho:QE X o td) (hb:attributeBase o "items" X.env (eval o X.env)=eval o X.env:=by rfl) (hl:(apos.endLine == cpos.line)=true:=by rfl):QI X (.Tuple es kk pp) (.Call (.Attribute o "items" apos) [] [] cpos) (Ai td):=⟨by
 intro pins s σ H R I h
 refine wpAny_Call_method (T := "dict") (id := "dict.items") hb rfl hl PySem.F.plainAttrs_dict PySem.F.slot_dict_items PySem.F.type_dict_items (aj (ho.h pins s σ H _ I h) λu s1 ⟨x,H1,I1,rx,d,kvs,ex,dp,q⟩=>?_)
 subst ex
 obtain rfl:u=Value.ref d:=rx
 obtain⟨xs,ep,h1,h2,r,dd⟩:=gb I1 dp
 have raw:dJ s1.heap d (xs.map bH).toArray ep:=⟨r.big,r.obj⟩
 have ty:=kX raw
 obtain⟨ob,ho1,c1,c2⟩:=r.obj
 refine⟨ty,λb z=>by cases z; exact⟨ob,ho1,c1.2.1⟩,?_⟩
 show wpAny _ _ (callWith cpos (.builtin "dict.items") [.ref d] [] []) _ _ s1
 refine method_meetsIn PySem.F.slot_dict_items PySem.F.entry_dict_items rfl (PyProof.Rows.evalArgs_none ⟨rfl,ty,PySem.F.args_dict_items_1 _,_,zp d r.big,ty,?_⟩)
 refine wJ (d:=d) (es:=(xs.map bH).toArray) (ep:=ep) ⟨_,Heap.get?_push_size _ rfl,rfl,rfl⟩ ⟨r.big,ob,Heap.get?_push_of_some _ ho1,c1,c2⟩ ?_
 have hsz:(s1.heap.push { cls:=.type "dict_items",data:=.fields #[.ref d] }).objs.size=s1.heap.objs.size+1:=Heap.size_push ..
 have k2 : ∀ b o,s1.heap.get? b=some o->((s1.heap.push { cls:=.type "dict_items",data:=.fields #[.ref d] }).push { cls:=.type "dict_itemiterator",data:=.fields #[.none,.bool false,.ref d,.int 0 0,.int (xs.map bH).toArray.size 0,.int ep 0,.none,.none] }).get? b=some o:=λb o e=>Heap.get?_push_of_some _ (Heap.get?_push_of_some _ e)
 have I2:=I1.kept (t':=s1.toks) k2
 have hle:s1.heap.objs.size<=(s1.heap.push { cls:=.type "dict_items",data:=.fields #[.ref d] }).objs.size:=by rw[hsz]; exact Nat.le_succ _
 have hdi:d≠(s1.heap.push { cls:=.type "dict_items",data:=.fields #[.ref d] }).objs.size:=by rw[hsz]; exact Nat.ne_of_lt (Nat.lt_succ_of_lt (Heap.lt_size ho1))
 refine⟨_,[_],_,gj d (dg d xs ep) kvs,_,rfl,I2,va d _ xs ep kvs h2 hdi,⟨.none,.none,Heap.get?_push_size _ rfl⟩,λb hb=>?_,q _ h1⟩
 have hb':b=(s1.heap.push { cls:=.type "dict_items",data:=.fields #[.ref d] }).objs.size:=by simpa using hb
 exact I1.fpOk (b:=b) (by rw[hb']; exact hle) (I1.hok.fresh (by rw[hb']; exact hle))⟩
end
theorem su{d:Addr}{o:HO}{kvs:List (ab × Addr × V)}{g:TG}{tb:TS}{D:cH}{σ:St}{H:Hp}(Pv:Nat->St->Hp->Prop)(h0:Pv 0 σ H)(hl : ∀ i σ H,i<=kvs.length->Pv i σ H->H d=some o)
 (hs : ∀ i k b v p σ H H',kvs[i]? = some (k,b,v)->Pv i σ H->aO H p (.tup [.ref b,v]) H'->g (.ref p) σ H' λσ2 H2=>tb { D with nx:=Pv (i+1),ct:=Pv (i+1),bk:=D.nx } σ2 H2) (hd : ∀ σ H,Pv kvs.length σ H->D.nx σ H) :
 ∃ W:Nat->Nat->St->Hp->Prop,(∃ m,W 0 m σ H)/\∀ i m σ H,W i m σ H ->
  ((gj d o kvs).stop i H/\D.nx σ H)\/((gj d o kvs).go i H/\∃ N:St->Hp->Prop,(∀ σ' H',N σ' H'->∃ m',m' < m/\W (i+1) m' σ' H')/\∀ x H',(gj d o kvs).yld i H x H'->g x σ H' λσ2 H2=>tb { D with nx:=N,ct:=N,bk:=D.nx } σ2 H2):=by
 refine⟨λi m σ H=>m=kvs.length - i/\i<=kvs.length/\Pv i σ H,⟨kvs.length,by simp,Nat.zero_le _,h0⟩,?_⟩
 rintro i m σ H ⟨rfl,hi,p⟩
 have q:=hl i σ H hi p
 by_cases hlt:i < kvs.length
 ·refine .inr ⟨⟨q,hlt⟩,Pv (i+1),λσ' H' p'=>⟨kvs.length - (i+1),by omega,rfl,hlt,p'⟩,λx H' y=>?_⟩
  obtain⟨pp,k,b,v,rfl,y,gr⟩:=y
  exact hs i k b v pp σ H H' y p gr
 ·have e:i=kvs.length:=by omega
  subst e
  exact .inl ⟨⟨q,Nat.le_refl _⟩,hd σ H p⟩
theorem B4{K:W.Frag}{d:Addr}{o:HO}{kvs:List (ab × Addr × V)}{cs:St}{tt:TT}{te:TE}{H:Hp}{Q:VK}(Pv:Nat->List V->Hp->Prop)(h0:Pv 0 [] H)(hl : ∀ i ys H,i<=kvs.length->Pv i ys H->H d=some o/\ys.length<=i)(hz:kvs.length<=sizeLine)
 (hs : ∀ i k b v ys H H' (N:List V->Hp->Prop),kvs[i]? = some (k,b,v)->Pv i ys H->af H H'->(∀ ys' H',Pv (i+1) ys' H'->N ys' H')->tt (some (.ref b) :: some v :: cs) H' λc H4=>if c=true then te (some (.ref b) :: some v :: cs) H4 λy H5=>N (ys++[y]) H5 else N ys H4)
 (hd : ∀ ys H p H',Pv kvs.length ys H->aO H p (.lst ys) H'->Q (.ref p) H') :
 eV (gj d o kvs) H (List.replicate 2 none++cs) (fW K 2 (dZ (bD 0) (dZ (bD 1) ij))) tt te Q:=by
 refine⟨λi m ys σ H=>m=kvs.length - i/\i<=kvs.length/\Pv i ys H/\∃ v0 v1,σ=v0 :: v1 :: cs,⟨kvs.length,by simp,Nat.zero_le _,h0,none,none,rfl⟩,?_⟩
 rintro i m ys σ H2 ⟨rfl,hi,p,v0,v1,rfl⟩
 obtain⟨q,ql⟩:=hl i ys H2 hi p
 by_cases hlt:i < kvs.length
 ·refine .inr ⟨⟨q,hlt⟩,by omega,λys' σ' H'=>Pv (i+1) ys' H'/\∃ v0 v1,σ'=v0 :: v1 :: cs,λys' σ' H' ⟨p',e⟩=>⟨kvs.length - (i+1),by omega,rfl,hlt,p',e⟩,λx H' y=>?_⟩
  obtain⟨pp,k,b,v,rfl,y,gr⟩:=y
  refine⟨pp,_,rfl,gr.tup,rfl,_,_,rfl,_,_,rfl,rfl,?_⟩
  exact hs i k b v ys H2 H' (λys' H'=>Pv (i+1) ys' H'/\∃ v0 v1,some (.ref b) :: some v :: cs=v0 :: v1 :: cs) y p gr.sm λ_ _ z=>⟨z,_,_,rfl⟩
 ·have e:i=kvs.length:=by omega
  subst e
  exact .inl ⟨⟨q,Nat.le_refl _⟩,by omega,λp' H' g=>hd ys H2 p' H' p g⟩
theorem B6{d:Addr}{o:HO}{kvs:List (ab × Addr × V)}{cs:St}{tt:TT}{te:TE}{H:Hp}{Q:VK}(Pv:Nat->List V->Hp->Prop)(h0:Pv 0 [] H)(hl : ∀ i ys H,i<=kvs.length->Pv i ys H->H d=some o/\ys.length<=i)(hz:kvs.length<=sizeLine)
 (hs : ∀ i k b v ys H (N:List V->Hp->Prop),kvs[i]? = some (k,b,v)->Pv i ys H->(∀ ys' H',Pv (i+1) ys' H'->N ys' H')->tt (some (.ref b) :: cs) H λc H4=>if c=true then te (some (.ref b) :: cs) H4 λy H5=>N (ys++[y]) H5 else N ys H4)
 (hd : ∀ ys H p H',Pv kvs.length ys H->aO H p (.lst ys) H'->Q (.ref p) H') :
 eV (gh d o kvs) H (List.replicate 1 none++cs) (bD 0) tt te Q:=by
 refine⟨λi m ys σ H=>m=kvs.length - i/\i<=kvs.length/\Pv i ys H/\∃ v0,σ=v0 :: cs,⟨kvs.length,by simp,Nat.zero_le _,h0,none,rfl⟩,?_⟩
 rintro i m ys σ H2 ⟨rfl,hi,p,v0,rfl⟩
 obtain⟨q,ql⟩:=hl i ys H2 hi p
 by_cases hlt:i < kvs.length
 ·refine .inr ⟨⟨q,hlt⟩,by omega,λys' σ' H'=>Pv (i+1) ys' H'/\∃ v0,σ'=v0 :: cs,λys' σ' H' ⟨p',e⟩=>⟨kvs.length - (i+1),by omega,rfl,hlt,p',e⟩,λx H' y=>?_⟩
  obtain⟨rfl,k,b,v,y,rfl⟩:=y
  exact hs i k b v ys H' (λys' H'=>Pv (i+1) ys' H'/\∃ v0,some (.ref b) :: cs=v0 :: cs) y p λ_ _ z=>⟨z,_,rfl⟩
 ·have e:i=kvs.length:=by omega
  subst e
  exact .inl ⟨⟨q,Nat.le_refl _⟩,by omega,λp' H' g=>hd ys H2 p' H' p g⟩
theorem BA{d:Addr}{ob:Obj}{kvs:List (am × V)}{g:TG}{tb:TS}{D:cH}{σ:St}{H:Hp}(Pv:Nat->St->Hp->Prop)(h0:Pv 0 σ H)(hl : ∀ i σ H,i<=kvs.length->Pv i σ H->H d=some (.frz ob (.dK kvs)))
 (hs : ∀ i k v σ H,kvs[i]? = some (k,v)->Pv i σ H->g v σ H λσ2 H2=>tb { D with nx:=Pv (i+1),ct:=Pv (i+1),bk:=D.nx } σ2 H2) (hd : ∀ σ H,Pv kvs.length σ H->D.nx σ H) :
 ∃ W:Nat->Nat->St->Hp->Prop,(∃ m,W 0 m σ H)/\∀ i m σ H,W i m σ H ->
  ((ix d ob kvs).stop i H/\D.nx σ H)\/((ix d ob kvs).go i H/\∃ N:St->Hp->Prop,(∀ σ' H',N σ' H'->∃ m',m' < m/\W (i+1) m' σ' H')/\∀ x H',(ix d ob kvs).yld i H x H'->g x σ H' λσ2 H2=>tb { D with nx:=N,ct:=N,bk:=D.nx } σ2 H2):=by
 refine⟨λi m σ H=>m=kvs.length - i/\i<=kvs.length/\Pv i σ H,⟨kvs.length,by simp,Nat.zero_le _,h0⟩,?_⟩
 rintro i m σ H ⟨rfl,hi,p⟩
 have q:=hl i σ H hi p
 by_cases hlt:i < kvs.length
 ·refine .inr ⟨⟨q,hlt⟩,Pv (i+1),λσ' H' p'=>⟨kvs.length - (i+1),by omega,rfl,hlt,p'⟩,λx H' y=>?_⟩
  obtain⟨rfl,k,y⟩:=y
  exact hs i k x σ H' y p
 ·have e:i=kvs.length:=by omega
  subst e
  exact .inl ⟨⟨q,Nat.le_refl _⟩,hd σ H p⟩
section
variable {X:Cx}
def vt(t:TS):TS:=λD σ H=>∃ d u,(∀ o v,H d≠some (.frz o v))/\t { D with nx:=λσ' H'=>(∃ ob,H' d=some (.frz ob u))/\D.nx σ' (upd H' d u) } σ H
theorem kY{e:Stmt}{t:TS}(h:QS X e t):QS X e (vt t):=⟨λpins s σ H D I q=>by
 obtain⟨d,u,nf,q⟩:=q
 refine wpAny_mono (h.h pins s σ H _ I q) (λf s1 z=>?_) λ_ _ e=>e
 cases f with
 | next =>
  obtain⟨σ1,H1,I1,⟨ob,ho⟩,k⟩:=z
  exact⟨σ1,_,I1.thaw ho λo v e=>nf o v (I.base.frzs _ _ _ e),k⟩
 | brk=>exact z
 | cont=>exact z
 | ret v=>exact z⟩
end
def wH(r:R2)(td ty tv:TE):TS:=λD σ H=>td σ H λx H1=>ty σ H1 λy H2=>∃ a b kvs k v,x=.ref a/\y=.ref b/\DP H2 a kvs/\aH H2 k b/\kvs.length < sizeLine/\az kvs k=some v /\
 tv σ H2 λu H3=>r v u H3 λz H4=>H4=H2/\∀ H5,DP H5 a (bV kvs k b z)->(∀ c,c≠a->H5 c=H4 c)->D.nx σ H5
section
variable {X:Cx}{o i value:Expr}{td ty tv:TE}{pos tpos:Pos}
theorem xv{op:Operator}{r:R2}(hu:X.A.units+64 < cLine)(ho:QE X o td)(hi:QE X i ty)(hv:QE X value tv)(hr:aG X (inplaceOp op) r)
 (hs : ∀ (ov iv new:Value),augStore i ov iv new=(do holding [new,ov,iv] (setItem ov iv new); release [new,ov,iv] []; pure Flow.next):=by intro _ _ _; rfl):QS X (.AugAssign (.Subscript o i tpos) op value pos) (wH r td ty tv):=⟨λpins s σ H D I h=>by
 refine wpAny_AugAssign_SubscriptAny (aj (ho.h pins s σ H _ I h) λu s1 ⟨x,H1,I1,rx,q1⟩=>aj (hi.h pins s1 σ H1 _ I1 q1) λiv s2 ⟨y,H2,I2,ry,a,b,kvs,k,v,ex,ey,d,ky,lt,ev,q2⟩=>?_) hs
 subst ex ey
 obtain rfl:u=Value.ref a:=rx
 obtain rfl:iv=Value.ref b:=ry
 refine sO (by omega) I2 d ky ev λw' s3 I3 rw'=>?_
 refine aj (hv.h pins s3 σ H2 _ I3 q2) λv4 s4 ⟨u4,H4,I4,r4,q4⟩=>?_
 refine aj (hr pins s4 σ H4 _ _ _ _ _ I4 rw' r4 q4) λv5 s5 ⟨z,H5,I5,r5,e5,q5⟩=>?_
 subst e5
 exact sN (by omega) I5 d ky lt r5 λH6 s6 I6 d6 k6=>⟨σ,H6,I6,q5 H6 d6 k6⟩⟩
end
def kg(Pt:Addr)(H:Hp):Prop:=H Pt=some (.tbl #[])/\∀ b,b≠Pt->H b=none\/∃ o xs,H b=some (.frz o (.lst xs))
theorem zO{P:Program}{w:World}{K:W.Frag}{mg mb:Str->Option Value}{CX:cP}{k:Nat}{fa a Pt c:Addr}{fd:FuncData}{x:Str}{sp:Sp}{s₁:Shared}{vs:List Value}{ns:List Int}
 (KX:K.In s₁.heap) (hns:s₁.heap.Ns mainGlobals mg) (hb:s₁.heap.Ns builtinsNs mb) (hbb : ∀ x:Str,x ≠ "__name__"->mb x=bootBuiltins x) (hlim:s₁.heap.NoLimit) (hg:s₁.gens = #[])
 (hKP:K.lookup Pt=none) (hTab:s₁.heap.get? Pt=some (W.tabObj #[])) (hcd:W.codeHdIn K c Pt=true) (hbm:s₁.heap.BuiltinsAt mg Pt)
 (ha:s₁.heap.get? a=some { cls:=.type "list",data:=.seq vs.toArray }) (hi:IntsAre vs ns) (hl:ns.length<=sizeLine) (hr:aQ k callerA)
 (F : ∀ base:Heap,K.In base->base.Ns mainGlobals mg->base.BuiltinsAt mg Pt->bw P w K mg base CX k fa fd [x] sp) (hbind : ∀ (s:Shared) (u:Value),BindsTo s fd ⟨[u],[]⟩ [(x,u)])
 (hsp : ∀ H:Hp,kg Pt H->ax K H a (ns.map V.int)->sp [.ref a] H (λv _=>v=.bl true) λ_ _ _=>False)
 (hCX : ∀ H e s',CX [] H s₁ (λ_ _ _=>False) e s'->False) :
 codeAny (model P w) callerA (.call (.ref fa) ⟨[.ref a],[]⟩) (λr s'=>r=.ok (.ret (.bool true))/\OldK s₁.heap s'.heap/\s'.os=s₁.os/\AllBare s'.gens) s₁:=by
 have rv:=ku hi
 have lenV:=hi.length
 have haP:a≠Pt:=λz=>by rw[z,hTab]at ha; cases ha
 have core : ∀ H:Hp,kg Pt H->ax K H a (ns.map V.int)->aN P w H s₁.heap->(∀ b,H b≠none->b=a\/b=Pt)->(H a≠none->K.lookup a=none) ->
  codeAny (model P w) callerA (.call (.ref fa) ⟨[.ref a],[]⟩) (λr s'=>r=.ok (.ret (.bool true))/\OldK s₁.heap s'.heap/\s'.os=s₁.os/\AllBare s'.gens) s₁:=by
  intro H hO hS hok hA hK
  have base_of : ∀ {b:Addr} {o:Obj},s₁.heap.get? b=some o->H b=none->(cC s₁.heap H).get? b=some o:=λe n=>rP e n
  have noA : ∀ {b:Addr} {o:Obj},s₁.heap.get? b=some o->(∀ z n,o.data ≠ .seq z n)->(∀ z,o.data ≠ .fields z)->H b=none:=λ{b o} e d1 d2=>by
   cases q:H b with
   | none=>rfl
   | some u =>
    rcases hA b (by rw[q]; simp) with e' | e'
    ·subst e'
     rw[ha]at e; cases e
     exact (d1 _ _ rfl).elim
    ·subst e'
     rw[hTab]at e; cases e
     exact (d2 _ rfl).elim
  have nsK : ∀ {b:Addr} {m:Str->Option Value},s₁.heap.Ns b m->(cC s₁.heap H).Ns b m:=λ{b m} ⟨o,es,ep,e,d,r⟩=>⟨o,es,ep,base_of e (noA e (λz n q=>by rw[d]at q; cases q) (λz q=>by rw[d]at q; cases q)),d,r⟩
  have hKb:K.In (cC s₁.heap H):=λb o e=>base_of (KX b o e) (by
   cases q:H b with
   | none=>rfl
   | some u =>
    rcases hA b (by rw[q]; simp) with e' | e'
    ·subst e'
     rw[hK (by rw[q]; simp)]at e; cases e
    ·subst e'
     rw[hKP]at e; cases e)
  have hM:Mod K mg (cC s₁.heap H):=⟨hKb,nsK hns,⟨mb,nsK hb,hbb⟩,let ⟨mc,h1,h2⟩:=hlim; ⟨mc,nsK h1,h2⟩⟩
  have hB:(cC s₁.heap H).BuiltinsAt mg Pt:=by
   obtain⟨bm,o,b1,b2,b3,b4,b5,b6,b7,b8⟩:=hbm
   exact⟨bm,o,b1,b2,b3,b4,base_of b5 (noA b5 (λz n q=>by rw[b8]at q; cases q) (λz q=>by rw[b8]at q; cases q)),b6,b7,b8⟩
  have e0:de P w K mg (cC s₁.heap H) callerA [] s₁ H:=⟨rfl,hM,λb o e=>qV e,Nat.le_of_eq (rO _ _),trivial,λb hb=>absurd (show b∈([]:List Addr) from hb) (by simp),hok,.of_eq hg⟩
  refine codeAny_mono ((F _ hKb (nsK hns) hB).run callerA [] s₁ H ⟨[.ref a],[]⟩ [.ref a] [.ref a] _ _ hr e0 (hbind s₁ (.ref a)) (.cons rfl .nil) (hsp H hO hS)) λr s' h=>?_
  cases r with
  | error e=>exact (hCX H e s' h).elim
  | ok fl =>
   cases fl with
   | next=>exact False.elim h
   | brk=>exact False.elim h
   | cont=>exact False.elim h
   | ret u =>
    obtain⟨v,H',os,bare,un,hok',r',q⟩:=h
    have q':v=.bl true:=q
    subst q'
    obtain rfl:u=Value.bool true:=r'
    have C:=W.codeHd_of_K KX hcd
    refine⟨rfl,⟨λb o e=>?_,λb o e=>un.there b o e (by simp)⟩,os,bare⟩
    by_cases hb:b=Pt
    ·subst hb
     rw[hTab]at e; cases e
     obtain⟨more,e2⟩:=un.tbls b #[] hO.1
     have e3:=hok' b _ e2
     exact .inr (.inl ⟨(C.tab hTab).isCodeTable,rfl,#[],more,rfl,e3⟩)
    ·refine .inl ?_
     cases q:H b with
     | none=>exact un.keep b o e q (by intro z; exact absurd (show b∈([]:List Addr) from z) (by simp)) (by simp)
     | some u =>
      rcases hO.2 b hb with z | ⟨ob,xs,z⟩
      ·rw[q]at z; cases z
      ·have z2:=un.frzs b ob _ z
       obtain⟨e1,_⟩:=hok b _ z
       obtain⟨e2,_⟩:=hok' b _ z2
       rw[e]at e1; cases e1
       exact e2
 have tabOk : ∀ H:Hp,aL P w H s₁.heap Pt (.tbl #[]):=λH=>hTab
 cases hk:K.lookup a with
 | some o =>
  have e:=KX a o hk
  rw[ha]at e
  cases e
  refine core (λb=>if b=Pt then some (.tbl #[]) else none) ⟨if_pos rfl,λb hb=>.inl (if_neg hb)⟩ (.inr ⟨_,vs.toArray,_,hk,rfl,rfl,rfl,by rw[List.size_toArray,lenV]; exact hl,by simpa using rv⟩) (λb u z=>?_) (λb z=>?_) λz=>absurd (if_neg haP) z
  ·by_cases hb:b=Pt
   ·have z':=(if_pos hb).symm.trans z
    cases z'
    subst hb
    exact hTab
   ·have z':=(if_neg hb).symm.trans z
    cases z'
  ·by_cases hb:b=Pt
   ·exact .inr hb
   ·exact absurd (if_neg hb) z
 | none =>
  refine core (λb=>if b=Pt then some (.tbl #[]) else if b=a then some (.frz { cls:=.type "list",data:=.seq vs.toArray } (.lst (ns.map V.int))) else none) ⟨if_pos rfl,λb hb=>?_⟩ (.inl (.inr ⟨{ cls:=.type "list",data:=.seq vs.toArray },(if_neg haP).trans (if_pos rfl)⟩)) (λb u z=>?_) (λb z=>?_) λ_=>hk
  ·dsimp only
   rw[if_neg hb]
   by_cases hb:b=a
   ·exact .inr ⟨_,_,if_pos hb⟩
   ·exact .inl (if_neg hb)
  ·by_cases hp:b=Pt
   ·have z':=(if_pos hp).symm.trans z
    cases z'
    subst hp
    exact hTab
   ·have z:=(if_neg hp).symm.trans z
    by_cases hb:b=a
    ·have z':=(if_pos hb).symm.trans z
     cases z'
     subst hb
     exact⟨ha,by rw[List.length_map]; exact hl,vs,_,rv,ha⟩
    ·have z':=(if_neg hb).symm.trans z
     cases z'
  ·by_cases hp:b=Pt
   ·exact .inr hp
   ·by_cases hb:b=a
    ·exact .inl hb
    ·exact absurd ((if_neg hp).trans (if_neg hb)) z
theorem walk_ofT{l:W.OpenLaw}{n k:Nat}{q:Program}{loose:List Str}{XP:(Str->Option Value)->Heap->Prop}{YP:World->Heap->Prop}{d:DefRec}{K:Params->W.Frag}{CX:World->cP}{sp:World->Sp}{x:Str}{Pt c:Addr}
 (hn:l.most=some n) (hn2:n<=sizeLine) (hdf:d.params.defaults=[]) (hr:aQ k callerA)
 (hY : ∀ (w:World) (h:Heap),YP w h->(K w.params).In h/\h.get? Pt=some (W.tabObj #[]))
 (hKP : ∀ w:World,(K w.params).lookup Pt=none) (hcd : ∀ w:World,W.codeHdIn (K w.params) c Pt=true)
 (F : ∀ (w:World) (mg:Str->Option Value) (fa:Addr) (h:Heap),(K w.params).In h->h.Ns mainGlobals mg->mg d.name=some (.ref fa) ->
   ∃ fd:FuncData,(∀ (s:Shared) (u:Value),BindsTo s fd ⟨[u],[]⟩ [(x,u)]) /\
    ∀ base:Heap,(K w.params).In base->base.Ns mainGlobals mg->base.BuiltinsAt mg Pt->bw l.prog w (K w.params) mg base (CX w) k fa fd [x] (sp w))
 (hsp : ∀ (w:World) (H:Hp) (a:Addr) (ns:List Int),ns.length<=n->kg Pt H->ax (K w.params) H a (ns.map V.int)->sp w [.ref a] H (λv _=>v=.bl true) λ_ _ _=>False)
 (hCX : ∀ (w:World) (H:Hp) (s:Shared) (e:Value) (s':Shared),CX w [] H s (λ_ _ _=>False) e s'->False) :
 W.WalkO q loose XP YP l.row.toRowW d [] (λf vs=>PySem.call f vs):=by
 refine Att.attach_call hn hdf λw s₀ s₁ mg mb fa o pm cd doc a vs ns G Y ho hd hcd' hmg hobj hints hlen hg=>?_
 obtain⟨KX,hTab⟩:=hY w _ Y
 obtain⟨fd,hb,hF⟩:=F w mg fa _ KX G.T.g hmg
 have hbm:s₁.heap.BuiltinsAt mg Pt:=by
  obtain⟨bm,ob,b1,b2,b3,b4,b5,b6⟩:=G.T.bmain
  have hbP:bm≠Pt:=λq=>by
   rw[q,hTab]at b3; cases b3; cases b4
  have hbG:bm≠mainGlobals:=λq=>by
   obtain⟨o,es,ep,e,hd,_⟩:=G.T.g
   rw[q,e]at b3; cases b3; rw[hd]at b6; cases b6
  exact⟨bm,ob,b1,b2,hbG,hbP,b3,b4,b5,b6⟩
 exact zO KX G.T.g G.T.b G.T.builtins G.T.nolimit hg (hKP w) hTab (hcd w) hbm hobj hints (Nat.le_trans hlen hn2) hr hF hb (λH hO hS=>hsp w H a ns hlen hO hS) λH e s'=>hCX w H s₁ e s'
def jX(P:Program)(w:World)(K:W.Frag)(mg:Str->Option Value)(base:Heap)(x y:Str)(qual:Str)(scope:Scope)(f c0:Addr)(cd:Value)(A:Around)(outer:List Env)(s:Shared)(H:Hp):Cx where
 prog:=P
 w:=w
 K:=K
 mg:=mg
 base:=base
 A:=A.deeper (W.envX qual scope s.heap.objs.size f cd [(y,c0)])
 N:=[x,y]
 s₀:=s
 H₀:=H
 env:=W.envX qual scope s.heap.objs.size f cd [(y,c0)]
 outer:=outer
 stack:=W.envX qual scope s.heap.objs.size f cd [(y,c0)] :: outer
 ex:=[]
 calm:=true
 fn:=λ_=>false
 pn:=[]
 xe:=λ_ _=>False
structure t3 (x y:Str) (sc:Scope):Prop where
 kind:sc.kind=.function
 co:sc.isCoroutine=false
 gen:sc.isGenerator=false
 ne:x≠y
 hx:sc.names.lookup x=some .local
 hy:sc.names.lookup y=some .free
 nocell : ∀ z∈sc.names,z.2 ≠ .cell
 only : ∀ z∈sc.names,z.2=.free->z.1=y
theorem zQ{P:Program}{w:World}{K:W.Frag}{mg:Str->Option Value}{base:Heap}{A:Around}{outer:List Env}{s:Shared}{H:Hp}{f c' c0:Addr}{name qual x y:Str}{params:Arguments}{body:Expr}{scope:Scope}{pm ctv:Value}{v vy:V}{u uy:Value}{t:TE}{Q:VK}{k:Nat}
 (hr:aQ (k+1) A) (e0:de P w K mg base A outer s H) (S:t3 x y scope)
 (hf:s.heap.get? f=some (W.kla_obj name qual params body scope [(y,c0)] pm c' ctv)) (hcd:s.heap.CodeRec (.ref c') qual)
 (hc0:s.heap.IsCell c0 (some uy)) (hH0:H c0=none) (rvy:au vy uy) (rv:au v u)
 (hb:bindArgs (W.kla_fn name qual params body scope [(y,c0)] pm (.ref c') ctv) ⟨[u],[]⟩=pure [(x,u)])
 (ht:QE (jX P w K mg base x y qual scope f c0 (.ref c') A outer s H) body t) (q:t [some v,some vy] H Q) :
 codeAny (model P w) A (.call (.ref f) ⟨[u],[]⟩) (CR ca outer P w H s Q E0) s:=by
 have lim:s.heap.NoLimit:=e0.mod.nolimit.keeps λb o e=>(e0.bs b o e).1
 refine W.kla_callFunE hr.depth hf rfl S.co S.gen rfl hcd ?_
 rw[hb]
 refine wpAny_pure (wpAny_newFunctionEnv S.nocell (λz hz=>by rw[List.mem_singleton.mp hz]; exact S.hx) (λh₁ hns hsb=>⟨lim.fresh _ hsb,?_⟩) S.kind)
 show codeAny _ _ (.expr body (W.envX qual scope s.heap.objs.size f (.ref c') [(y,c0)])) _ _
 have hk₁ : ∀ b o,s.heap.get? b=some o->h₁.get? b=some o:=λb o e=>hsb.extBut b o (Nat.ne_of_lt (Heap.lt_size e)) (Heap.get?_push_of_some _ e)
 have noA : ∀ b:Addr,b∉(jX P w K mg base x y qual scope f c0 (.ref c') A outer s H).ex:=λb z=>absurd (show b∈([]:List Addr) from z) (by simp)
 have cl1 : ∀ (z:Str) (c:Addr),([(y,c0)]:List (Str × Addr)).lookup z=some c->z=y/\c=c0:=λz c h=>by
  rw[List.lookup_cons]at h
  split at h
  ·rename_i e
   cases h
   exact⟨eq_of_beq e,rfl⟩
  ·cases h
 have yl:([(y,c0)]:List (Str × Addr)).lookup y=some c0:=by rw[List.lookup_cons]; simp
 have I:ad (jX P w K mg base x y qual scope f c0 (.ref c') A outer s H) [] [some v,some vy] H { s with heap:=h₁,toks:=s.toks+[(x,u)].length }:=by
  refine⟨⟨e0.mod,S.kind,rfl,rfl,Nat.le_refl _,λy' z c h1 h2=>?_,λy' hy'=>?_,λy' c hc h=>(nomatch hc),λ_=>hr.hd,Around.frames_deeper e0.frames,.inr ⟨rfl,rfl⟩,λb z=>absurd z (noA b),e0.bs,e0.bsz,λb _ _=>noA b,λb z=>absurd z (noA b),e0.funs,e0.frf⟩,
   rfl,e0.bare,Un.kept hk₁,⟨_,hns,λi y' v' h1 h2 h3=>?_⟩,λy' c h=>?_,e0.hok.fresh (Nat.le_refl _),λy' c h=>?_,λp hp=>absurd (show p∈([]:List (Addr × Obj)) from hp) (by simp),e0.hok.kept hk₁,rfl⟩
  ·exact (cl1 _ _ h1).1.trans (cl1 _ _ h2).1.symm
  ·have hy':scope.names.lookup y'=some .cell\/scope.names.lookup y'=some .free:=hy'
   rcases hy' with hy' | hy'
   ·exact absurd rfl (S.nocell _ (PySem.mem_of_lookup hy'))
   ·have e:=S.only _ (PySem.mem_of_lookup hy') rfl
    exact⟨c0,by have e:y'=y:=e; rw[e]; exact yl⟩
  ·match i with
   | 0 =>
    have e1:x=y':=Option.some.inj h1
    have e2:v=v':=Option.some.inj (Option.some.inj h2)
    subst e1; subst e2
    exact⟨u,rv,.inl ⟨S.hx,by show List.lookup x [(x,u)]=_; rw[List.lookup_cons]; simp⟩⟩
   | 1 =>
    have e1:y=y':=Option.some.inj h1
    have e2:vy=v':=Option.some.inj (Option.some.inj h2)
    subst e1; subst e2
    exact⟨uy,rvy,.inr ⟨.inr S.hy,c0,yl,hc0.keeps hk₁⟩⟩
   | i+2=>exact nomatch h1
  ·obtain⟨_,rfl⟩:=cl1 _ _ h
   exact⟨_,hc0.keeps hk₁⟩
  ·obtain⟨_,rfl⟩:=cl1 _ _ h
   exact hH0
 refine W.kla_codeExpr (wpAny_mono (ht.h [] _ _ H _ I q) (λz s' hs=>?_) λe s' hs=>False.elim hs)
 obtain⟨v',H',J,rv',q'⟩:=hs
 exact⟨v',H',J.os,J.bare,J.base,J.hok,rv',q'⟩
def cg(a:Addr)(o:Obj):HO:=.ext λh=>h.get? a=some o
theorem cg.mk{P:Program}{w:World}{H:Hp}{h:Heap}{a:Addr}{o:Obj}(e:h.get? a=some o):aL P w H h a (cg a o):=⟨e,⟨o,e⟩,λ_ _ p k=>k _ p⟩
theorem cg.at{P:Program}{w:World}{H:Hp}{h:Heap}{a:Addr}{o:Obj}(x:aN P w H h)(e:H a=some (cg a o)):h.get? a=some o:=(x a _ e).1
structure i5 (H:Hp) (c:Addr) (qual:Str):Prop where
 ex : ∃ oc vs t,H c=some (cg c oc)/\oc.data=.fields vs/\vs[1]? = some (.str qual t)
def bZ(H:Hp)(Pt:Addr)(qual:Str)(pos:Pos):Prop :=
 H Pt=some (.tbl #[])\/∃ c',H Pt=some (.tbl #[rawInt pos.line,rawInt pos.col,.ref c'])/\i5 H c' qual
theorem bZ.tbl{H:Hp}{Pt:Addr}{qual:Str}{pos:Pos}(h:bZ H Pt qual pos) : ∃ ps,H Pt=some (.tbl ps):=by
 rcases h with h | ⟨_,h,_⟩
 ·exact⟨_,h⟩
 ·exact⟨_,h⟩
theorem i5.cd{P:Program}{w:World}{H:Hp}{h:Heap}{c:Addr}{qual:Str}(x:aN P w H h)(e:i5 H c qual):h.CodeRec (.ref c) qual:=by
 obtain⟨oc,vs,t,e,d,v⟩:=e
 exact⟨c,oc,vs,t,rfl,cg.at x e,d,v⟩
theorem zj{X:Cx}{pins:List (Addr × Obj)}{σ:St}{H:Hp}{s:Shared}{c Pt:Addr}{params:Arguments}{body:Expr}{scope:Scope}{pos:Pos}{clos:List (Str × Addr)}{Q:Value->Shared->Prop}{E:Value->Shared->Prop}{M:Model}{A:Around}
 (I:ad X pins σ H s) (hdef:defaultsOf params X.env=([],[])) (hcl:closureFor scope X.env=pure clos) (hcode:X.env.code=.ref c) (hhd:W.codeHdIn X.K c Pt=true) (hb:X.base.BuiltinsAt X.mg Pt)
 (hT:bZ H Pt (X.env.qual ++ "<lambda>") pos)
 (h : ∀ (f c':Addr) (ctv:Value) (H':Hp) (s':Shared),H f=none->H' f=some (cg f (W.kla_obj "<lambda>" (X.env.qual ++ "<lambda>") params body scope clos ((X.mg "__name__").getD .none) c' ctv)) ->
   H' Pt=some (.tbl #[rawInt pos.line,rawInt pos.col,.ref c'])->i5 H' c' (X.env.qual ++ "<lambda>")->(∀ b o,b≠Pt->H b=some o->H' b=some o)->ad X pins σ H' s'->Q (.ref f) s') :
 wpAny M A (eval (.Lambda params body scope pos) X.env) Q E s:=by
 have C:=W.codeHd_of_K I.kIn hhd
 have hbs:=hb.keeps I.bk
 have hg:s.heap.Ns mainGlobals X.mg:=by
  obtain⟨o,es,ep,e,r⟩:=I.ok.mod.glob
  exact⟨o,es,ep,I.bk _ _ e,r⟩
 refine W.kla_eval hdef ?_
 rcases hT with hT | ⟨c',hT,hco⟩
 ·have hP:s.heap.get? Pt=some (W.tabObj #[]):=I.hok Pt _ hT
  have hgP:mainGlobals≠Pt:=λq=>by
   obtain⟨o,es,ep,e,d,_⟩:=hg
   rw[q,hP]at e; cases e; cases d
  refine W.kla_makeFunction (mg:=X.mg) hcl I.ok.glob hg hcode C hP trivial rfl hgP hbs λc' ctv h' tk hx hge hlt hrec htb=>?_
  obtain⟨c₂,oc,vs,tq,e2,hoc,hdc,hvc⟩:=hrec
  cases e2
  generalize hfo:W.kla_obj "<lambda>" (X.env.qual ++ "<lambda>") params body scope clos ((X.mg "__name__").getD .none) c' ctv=fo
  have hfr:fo.isFreed=false:=by rw[<- hfo]; rfl
  have hPs:Pt < s.heap.objs.size:=Heap.lt_size hP
  have hPc:Pt≠c':=Nat.ne_of_lt (Nat.lt_of_lt_of_le hPs hge)
  have hcf:c'≠h'.objs.size:=Nat.ne_of_lt hlt
  have hPf:Pt≠h'.objs.size:=Nat.ne_of_lt (Nat.lt_trans (Nat.lt_of_lt_of_le hPs hge) hlt)
  have nc:H c'=none:=I.hok.fresh hge
  have nf:H h'.objs.size=none:=I.hok.fresh (Nat.le_trans hge (Nat.le_of_lt hlt))
  have old : ∀ b o,b≠Pt->s.heap.get? b=some o->(h'.push fo).get? b=some o:=λb o hb e=>Heap.get?_push_of_some _ (hx b o hb e)
  have eP:(h'.push fo).get? Pt=some (W.tabObj #[rawInt pos.line,rawInt pos.col,.ref c']):=by
   have:=Heap.get?_push_of_some fo htb
   simpa using this
  let H3:Hp:=upd (upd (upd H Pt (.tbl #[rawInt pos.line,rawInt pos.col,.ref c'])) c' (cg c' oc)) h'.objs.size (cg h'.objs.size fo)
  have h3o : ∀ b,b≠Pt->b≠c'->b≠h'.objs.size->H3 b=H b:=λb h1 h2 h3=>by
   show upd (upd (upd H Pt _) c' _) h'.objs.size _ b=_
   rw[ai h3,ai h2,ai h1]
  have h3P:H3 Pt=some (.tbl #[rawInt pos.line,rawInt pos.col,.ref c']):=by
   show upd (upd (upd H Pt _) c' _) h'.objs.size _ Pt=_
   rw[ai hPf,ai hPc,aR]
  have h3c:H3 c'=some (cg c' oc):=by
   show upd (upd (upd H Pt _) c' _) h'.objs.size _ c'=_
   rw[ai hcf,aR]
  have h3f:H3 h'.objs.size=some (cg h'.objs.size fo):=aR
  have h3s : ∀ b o,b≠Pt->H b=some o->H3 b=some o:=λb o hb e=>by
   rw[h3o b hb (λz=>by rw[z,nc]at e; cases e) (λz=>by rw[z,nf]at e; cases e)]
   exact e
  refine h _ c' ctv H3 _ nf (by rw[hfo]; exact h3f) h3P ⟨oc,vs,tq,h3c,hdc,hvc⟩ h3s ?_
  refine I.un (H':=H3) (h':=h'.push fo) (t':=tk) ⟨λb o e n _ _=>old b o (λz=>by rw[z,hT]at n; cases n) e,λb o e n _ _=>⟨o.slots,old b o (λz=>by rw[z,hT]at n; cases n) e⟩,λb o e n _=>?_,λb o e _=>?_,λb xs e=>h3s b _ (λz=>by rw[z,hT]at e; cases e) e,λb o u e=>h3s b _ (λz=>by rw[z,hT]at e; cases e) e,λb ps e=>?_⟩ λb u e=>?_
  ·have l:b < s.heap.objs.size:=Heap.lt_size e
   rw[h3o b (λz=>by rw[z,hT]at n; cases n) (Nat.ne_of_lt (Nat.lt_of_lt_of_le l hge)) (Nat.ne_of_lt (Nat.lt_trans (Nat.lt_of_lt_of_le l hge) hlt))]
   exact n
  ·by_cases hb':b=Pt
   ·exact⟨_,hb' ▸ eP⟩
   ·exact⟨o,old b o hb' e⟩
  ·by_cases hb':b=Pt
   ·rw[hb',hT]at e; cases e
    exact⟨#[rawInt pos.line,rawInt pos.col,.ref c'],by rw[hb',h3P]; simp⟩
   ·exact⟨#[],by rw[h3s b _ hb' e]; simp⟩
  ·by_cases h1:b=h'.objs.size
   ·rw[h1,h3f]at e; cases e
    rw[h1]
    exact cg.mk (Heap.get?_push_size _ hfr)
   ·by_cases h2:b=c'
    ·rw[h2,h3c]at e; cases e
     rw[h2]
     exact cg.mk (Heap.get?_push_of_some _ hoc)
    ·by_cases h4:b=Pt
     ·rw[h4,h3P]at e; cases e
      rw[h4]
      exact eP
     ·rw[h3o b h4 h2 h1]at e
      refine (I.hok b u e).stay (λa o ha q=>old a o (λz=>?_) q) (λa q=>h3s a _ (λz=>by rw[z,hT]at q; cases q) q) λa xs q=>h3s a _ (λz=>by rw[z,hT]at q; cases q) q
      rcases ha with ha | ha
      ·exact h4 (ha.symm.trans z)
      ·rw[z,hT]at ha; cases ha
 ·have hP:s.heap.get? Pt=some (W.tabObj #[rawInt pos.line,rawInt pos.col,.ref c']):=I.hok Pt _ hT
  have hf:codeAmong pos (#[rawInt pos.line,rawInt pos.col,Value.ref c']:Array Value).toList=some (.ref c'):=by
   show codeAmong pos [rawInt pos.line,rawInt pos.col,.ref c']=_
   simp[codeAmong,rawInt]
  refine W.kla_makeFunctionHit (mg:=X.mg) hcl I.ok.glob hg hcode C hP trivial hf hbs λctv h' tk hk hsz=>?_
  generalize hfo:({ cls:=.type "function",data:=.func (W.kla_fn "<lambda>" (X.env.qual ++ "<lambda>") params body scope clos ((X.mg "__name__").getD .none) (.ref c') ctv) }:Obj)=fo
  have hfr:fo.isFreed=false:=by rw[<- hfo]; rfl
  have nf:H h'.objs.size=none:=I.hok.fresh hsz
  have hk' : ∀ b o,s.heap.get? b=some o->(h'.push fo).get? b=some o:=λb o e=>Heap.get?_push_of_some _ (hk b o e)
  have h3s : ∀ b o,H b=some o->upd H h'.objs.size (cg h'.objs.size fo) b=some o:=λb o e=>by
   rw[ai (λz=>by rw[z,nf]at e; cases e)]
   exact e
  refine h _ c' ctv (upd H h'.objs.size (cg h'.objs.size fo)) _ nf (by rw[aR,<- hfo]) (h3s _ _ hT) ?_ (λb o _ e=>h3s b o e) (I.laid (a:=h'.objs.size) (o:=cg h'.objs.size fo) (t':=tk) hk' hsz (cg.mk (Heap.get?_push_size _ hfr)))
  obtain⟨oc,vs,t,e,d,v⟩:=hco
  exact⟨oc,vs,t,h3s _ _ e,d,v⟩
structure cz (X:Cx) (pins:List (Addr × Obj)) (H:Hp) (a:Addr):Prop where
 no:H a=none
 loc:a≠X.env.locals
 fs:a∉X.fs
 new:X.s₀.heap.objs.size<=a
 cell : ∀ x c,X.env.cells.lookup x=some c->c≠a
 pin : ∀ p∈X.pn++pins,p.1≠a
section
variable {X:Cx}{pins:List (Addr × Obj)}{σ:St}{H:Hp}{s:Shared}
theorem cz.fresh(I:ad X pins σ H s){a:Addr}(h:s.heap.objs.size<=a):cz X pins H a :=
 ⟨I.hok.fresh h,λz=>absurd (Nat.lt_of_lt_of_le I.lt h) (by rw[z]; exact Nat.lt_irrefl _),I.nofs h,Nat.le_trans I.sz h,
  λx c e z=>by
   obtain⟨v,o,ho,_⟩:=I.cell x c e
   exact absurd (Nat.lt_of_lt_of_le (Heap.lt_size ho) h) (by rw[z]; exact Nat.lt_irrefl _),
  λp hp z=>by
   have ho:=(I.pin p hp).1
   exact absurd (Nat.lt_of_lt_of_le (Heap.lt_size ho) h) (by rw[z]; exact Nat.lt_irrefl _)⟩
theorem cz.turned{a:Addr}{h':Heap}{t':Nat}(o:cz X pins H a)(I:ad X pins σ H s)(k : ∀ b u,b≠a->s.heap.get? b=some u->h'.get? b=some u):ad X pins σ H { s with heap:=h',toks:=t' } :=
 I.turned k o.no o.loc (.inr o.new) o.cell o.pin
structure eU (X:Cx) (pins:List (Addr × Obj)) (σ:St) (H:Hp) (it S d:Addr) (n ep j:Nat) (arr:Array Value) (s:Shared):Prop where
 inv:ad X pins σ H s
 seq : ∃ c,s.heap.get? S=some (seqObj "list" arr c)
 iter:s.heap.IsKeyIter it d j n ep
theorem eU.call{it S d:Addr}{n ep j:Nat}{arr:Array Value}(m:eU X pins σ H it S d n ep j arr s)(oS:cz X pins H S)(oI:cz X pins H it){M:Model}{A:Around}{tree:Sem Value}{q:Value->Prop}{Q:Value->Shared->Prop}{E:Value->Shared->Prop}
 (turn : ∀ pins' s',ad X pins' σ H s'->wpAny M A tree (λu s2=>ad X pins' σ H s2/\q u) (λ_ _=>False) s')
 (h : ∀ u s2,eU X pins σ H it S d n ep j arr s2->q u->Q u s2):wpAny M A tree Q E s:=by
 obtain⟨I,⟨c,eS⟩,ki⟩:=m
 obtain⟨o,e1,e2,e3⟩:=ki
 have I':ad X ((S,seqObj "list" arr c) :: (it,o) :: pins) σ H s:=I.pins_of λp hp=>by
  rcases List.mem_cons.mp hp with z | hp
  ·subst z
   exact⟨eS,oS.no,oS.loc,oS.fs,λv z=>by cases z⟩
  ·rcases List.mem_cons.mp hp with z | hp
   ·subst z
    exact⟨e1,oI.no,oI.loc,oI.fs,λv z=>by have z':o.data=.cell v:=z; rw[e3]at z'; cases z'⟩
   ·exact I.pin p (List.mem_append_right _ hp)
 refine wpAny_mono (turn _ s I') (λu s2 hu=>?_) λ_ _ f=>f.elim
 obtain⟨J,hq⟩:=hu
 have pS:=(J.pin (S,seqObj "list" arr c) (List.mem_append_right _ (.head _))).1
 have pI:=(J.pin (it,o) (List.mem_append_right _ (.tail _ (.head _)))).1
 exact h u s2 ⟨J.pins_of λp hp=>J.pin p (List.mem_append_right _ (.tail _ (.tail _ hp))),⟨c,pS⟩,⟨o,pI,e2,e3⟩⟩ hq
theorem eU.write{it S d:Addr}{n ep j:Nat}{arr:Array Value}(arr':Array Value)(m:eU X pins σ H it S d n ep j arr s)(oS:cz X pins H S)(hSI:S≠it){t':Nat} :
 eU X pins σ H it S d n ep j arr' { s with heap:=s.heap.update S (Obj.mapSeq λ_=>arr'),toks:=t' }:=by
 obtain⟨I,⟨c,eS⟩,ki⟩:=m
 have s1:=Heap.SameBut.update s.heap S (Obj.mapSeq λ_=>arr')
 obtain⟨o,e1,e2,e3⟩:=ki
 exact⟨oS.turned I λb u hb e=>(s1.2 b hb).trans e,⟨_,get?_update_seq eS λ_=>arr'⟩,⟨o,(s1.2 it hSI.symm).trans e1,e2,e3⟩⟩
variable {d it S f:Addr}{xs:List (ab × Addr × Value)}{ep:Nat}{kvs:List (ab × Addr × V)}{R:Result->Shared->Prop}
theorem zE(kn:KP kvs xs)(hd:H d=some (dg d xs ep))(kf:Nat->Int)(hh:X.A.handled=none)(oS:cz X pins H S)(oI:cz X pins H it)(hSI:S≠it)
 (turn : ∀ (i:Nat) k b v,kvs[i]? = some (k,b,v)->∀ pins' s',ad X pins' σ H s'->wpAny (model X.prog X.w) X.A.in1 (call (.ref f) [.ref b]) (λu s2=>ad X pins' σ H s2/\∃ t,u=.int (kf i) t) (λ_ _=>False) s')
 (hR : ∀ i k b v s',kvs[i]? = some (k,b,v)->(∀ j,j < kvs.length->kf i>=kf j/\(j < i->kf i > kf j))->ad X pins σ H s'->R (.ok (.ret (.ref b))) s') :
 ∀ (r j i:Nat) (s:Shared) (b:Addr) (tb:Tok) (k:ab) (v:V),kvs.length - (j+1)=r->j+1<=kvs.length->eU X pins σ H it S d (xs.map bH).toArray.size ep (j+1) #[.ref b,.int (kf i) tb] s->kvs[i]? = some (k,b,v)->i<=j ->
  (∀ j',j'<=j->kf i>=kf j'/\(j' < i->kf i > kf j'))->codeAny (model X.prog X.w) X.A (.builtin "max.loop" ⟨[.ref it,.ref f,.ref S],[]⟩) R s:=by
 have hname:(toString "max"++toString ".loop" : String) = "max.loop":=by decide
 have hl:=Paired.length kn
 have hsz:(xs.map bH).toArray.size=kvs.length:=by rw[List.size_toArray,List.length_map,hl]
 intro r
 induction r with
 | zero =>
  intro j i s b tb k v hr hj m hb hij hbest
  have hin:j+1=kvs.length:=by omega
  obtain⟨I,⟨c,eS⟩,ki⟩:=m
  obtain⟨raw,_⟩:=I.hok d _ hd
  refine codeAny_builtin PySem.F.entry_max_loop ?_
  rw[Around.under_plainId PySem.F.plain_max_loop _]
  show wpAny _ X.A.in1 (seqItems? (.ref S) >>= _) _ _ _
  refine wpAny_bind (wpAny_seqItems eS rfl ?_)
  show wpAny _ X.A.in1 (tryCatch (pyNext (.ref it)) _ >>= _) _ _ _
  refine wpAny_bind (wpAny_tryCatch (kW (A:=X.A.in1) hh ki raw (by rw[hsz]; omega) λh' hx=>?_))
  have I1:ad X pins σ H { s with heap:=h' }:=oI.turned (t':=s.toks) I λb u hb e=>hx b u hb e
  have eS1:h'.get? S=some (seqObj "list" #[.ref b,.int (kf i) tb] c):=hx S _ hSI eS
  show wpAny _ X.A.in1 (updateSeq S (λ_=>#[]) >>= _) _ _ _
  refine wpAny_bind ?_
  refine wpAny_updateSeq eS1 rfl (wpAny_bind (wpAny_letGo (wpAny_pure ?_)))
  have s1:=Heap.SameBut.update h' S (Obj.mapSeq λ_=>(#[]:Array Value))
  exact hR i k b v _ hb (λj' hj'=>hbest j' (by omega)) (oS.turned I1 λb u hb e=>(s1.2 b hb).trans e)
 | succ r ih =>
  intro j i s b tb k v hr hj m hb hij hbest
  have hlt:j+1 < kvs.length:=by omega
  obtain⟨I,⟨c,eS⟩,ki⟩:=m
  obtain⟨raw,_⟩:=I.hok d _ hd
  obtain⟨⟨k1,b1,v1⟩,hkv⟩ : ∃ y,kvs[j+1]? = some y:=⟨_,List.getElem?_eq_getElem hlt⟩
  obtain⟨⟨k2,b2,u2⟩,hxs⟩ : ∃ y,xs[j+1]? = some y:=⟨_,List.getElem?_eq_getElem (by omega)⟩
  obtain⟨_,z2,_⟩:=iS kn hkv hxs
  have z2':b1=b2:=z2
  subst z2'
  refine codeAny_builtin PySem.F.entry_max_loop ?_
  rw[Around.under_plainId PySem.F.plain_max_loop _]
  show wpAny _ X.A.in1 (seqItems? (.ref S) >>= _) _ _ _
  refine wpAny_bind (wpAny_seqItems eS rfl ?_)
  show wpAny _ X.A.in1 (tryCatch (pyNext (.ref it)) _ >>= _) _ _ _
  refine wpAny_bind (wpAny_tryCatch (jn (e:=bH (k2,b1,u2)) ki raw (by rw[List.getElem?_toArray,List.getElem?_map,hxs]; rfl) λh' ki' sb=>?_))
  have m1:eU X pins σ H it S d (xs.map bH).toArray.size ep (j+1+1) #[.ref b,.int (kf i) tb] { s with heap:=h' }:=⟨oI.turned (t':=s.toks) I λb u hb e=>(sb.2 b hb).trans e,⟨c,(sb.2 S hSI).trans eS⟩,ki'⟩
  show wpAny _ X.A.in1 (tryCatch (holding [.ref b1] (call (.ref f) [.ref b1])) _ >>= _) _ _ _
  refine wpAny_bind (wpAny_tryCatch (wpAny_holding (m1.call oS oI (turn (j+1) k1 b1 v1 hkv) λu s2 m2 hu=>?_)))
  obtain⟨t2,rfl⟩:=hu
  show wpAny _ X.A.in1 (tryCatch (holding [.ref b1,.int (kf (j+1)) t2] (richCompare .Gt (.int (kf (j+1)) t2) (.int (kf i) tb) >>= _)) _ >>= _) _ _ _
  refine wpAny_bind (wpAny_tryCatch (wpAny_holding (wpAny_bind (CmpOf.ints_gt (prog:=X.prog) (w:=X.w) (A:=X.A.in1) (P:=λi v=>∃ t,v=.int (kf i) t) kf (λi v h=>h) (j+1) i _ _ _ _ _ ⟨t2,rfl⟩ ⟨tb,rfl⟩ ?_))))
  refine wpAny_bind (wpAny_holding (wpAny_truthy_bool ?_))
  refine wpAny_bind (wpAny_letGo (wpAny_pure ?_))
  by_cases hb':kf (j+1) > kf i
  ·simp only [hb',decide_true,if_true]
   obtain⟨c2,eS2⟩:=m2.seq
   refine wpAny_bind ?_
   refine wpAny_updateSeq eS2 rfl (wpAny_bind (wpAny_letGo ?_))
   rw[hname]
   refine wpAny_pure ⟨plainId_quiet PySem.F.plain_max_loop _,ih (j+1) (j+1) _ b1 t2 k1 v1 (by omega) hlt (m2.write _ oS hSI) hkv (Nat.le_refl _) λj' hj'=>?_⟩
   by_cases e:j'=j+1
   ·subst e
    exact⟨by omega,λ_=>by omega⟩
   ·have hb1:=hbest j' (by omega)
    have hb2:=hb1.1
    exact⟨by omega,λ_=>by omega⟩
  ·simp only [hb',decide_false,Bool.false_eq_true,if_false]
   refine wpAny_bind (wpAny_letGo ?_)
   rw[hname]
   refine wpAny_pure ⟨plainId_quiet PySem.F.plain_max_loop _,ih (j+1) i _ b tb k v (by omega) hlt m2 hb (by omega) λj' hj'=>?_⟩
   by_cases e:j'=j+1
   ·subst e
    exact⟨by omega,λ_=>by omega⟩
   ·exact hbest j' (by omega)
theorem zF{Q:Value->Shared->Prop}{E:Value->Shared->Prop}(I:ad X pins σ H s)(kn:KP kvs xs)(hd:H d=some (dg d xs ep))(kf:Nat->Int)(hh:X.A.handled=none)(hne:0 < kvs.length)
 (turn : ∀ (i:Nat) k b v,kvs[i]? = some (k,b,v)->∀ pins' s',ad X pins' σ H s'->wpAny (model X.prog X.w) X.A.in1 (call (.ref f) [.ref b]) (λu s2=>ad X pins' σ H s2/\∃ t,u=.int (kf i) t) (λ_ _=>False) s')
 (hQ : ∀ i k b v s',kvs[i]? = some (k,b,v)->(∀ j,j < kvs.length->kf i>=kf j/\(j < i->kf i > kf j))->ad X pins σ H s'->Q (.ref b) s') :
 wpAny (model X.prog X.w) X.A (call (.builtin "max") [.ref d] [(Str.ofString "key",.ref f)]) Q E s:=by
 have hname:(toString "max"++toString ".loop" : String) = "max.loop":=by decide
 have hl:=Paired.length kn
 have hsz:(xs.map bH).toArray.size=kvs.length:=by rw[List.size_toArray,List.length_map,hl]
 obtain⟨raw,_⟩:=I.hok d _ hd
 refine kmk_tree PySem.F.kind_max PySem.F.plain_max PySem.F.entry_max (kmk_max_key _ _) ?_
 show wpAny _ X.A.in1 (Builtin.Builtins.bindParams "max" ["key", "default"] 0 ⟨[],[(Str.ofString "key",.ref f)]⟩ >>= _) _ _ s
 refine wpAny_bind (wpAny_of_eq (show Builtin.Builtins.bindParams "max" ["key", "default"] 0 ⟨[],[(Str.ofString "key",.ref f)]⟩=pure [some (.ref f),none] from rfl) ?_)
 refine wpAny_bind (wpAny_pure ?_)
 refine wpAny_bind (kU raw ?_)
 refine wpAny_bind (wpAny_newList ?_ (Nat.zero_le _))
 rw[hname]
 generalize hIo:({ cls:=.type "dict_keyiterator",data:=.fields #[.ref d,.int 0 0,.int ((xs.map bH).toArray.size:Int) 0,.int ep 0] }:Obj)=oi
 have hfr:oi.isFreed=false:=by rw[<- hIo]; rfl
 have hS:(s.heap.push oi).objs.size=s.heap.objs.size+1:=size_push' ..
 have oI:cz X pins H s.heap.objs.size:=.fresh I (Nat.le_refl _)
 have oS:cz X pins H (s.heap.push oi).objs.size:=.fresh I (by rw[hS]; exact Nat.le_succ _)
 have hSI:(s.heap.push oi).objs.size≠s.heap.objs.size:=by rw[hS]; exact Nat.ne_of_gt (Nat.lt_succ_self _)
 have kp : ∀ b u,s.heap.get? b=some u->((s.heap.push oi).push (seqObj "list" #[] 0)).get? b=some u:=λb u e=>Heap.get?_push_of_some _ (Heap.get?_push_of_some _ e)
 have gI:((s.heap.push oi).push (seqObj "list" #[] 0)).get? s.heap.objs.size=some oi:=Heap.get?_push_of_some _ (Heap.get?_push_size _ hfr)
 have gS:((s.heap.push oi).push (seqObj "list" #[] 0)).get? (s.heap.push oi).objs.size=some (seqObj "list" #[] 0):=Heap.get?_push_size _ rfl
 have I0:ad X pins σ H { s with heap:=(s.heap.push oi).push (seqObj "list" #[] 0) }:=I.kept (t':=s.toks) kp
 have ki0:((s.heap.push oi).push (seqObj "list" #[] 0)).IsKeyIter s.heap.objs.size d 0 (xs.map bH).toArray.size ep:=⟨oi,gI,by rw[<- hIo],by rw[<- hIo]; rfl⟩
 refine wpAny_pure ⟨plainId_quiet PySem.F.plain_max_loop _,?_⟩
 obtain⟨⟨k1,b1,v1⟩,hkv⟩ : ∃ y,kvs[0]? = some y:=⟨_,List.getElem?_eq_getElem hne⟩
 obtain⟨⟨k2,b2,u2⟩,hxs⟩ : ∃ y,xs[0]? = some y:=⟨_,List.getElem?_eq_getElem (by omega)⟩
 obtain⟨_,z2,_⟩:=iS kn hkv hxs
 have z2':b1=b2:=z2
 subst z2'
 obtain⟨raw0,_⟩:=I0.hok d _ hd
 refine codeAny_builtin PySem.F.entry_max_loop ?_
 rw[Around.under_plainId PySem.F.plain_max_loop _]
 show wpAny _ X.A.in1 (seqItems? (.ref _) >>= _) _ _ _
 refine wpAny_bind (wpAny_seqItems gS rfl ?_)
 show wpAny _ X.A.in1 (tryCatch (pyNext (.ref s.heap.objs.size)) _ >>= _) _ _ _
 refine wpAny_bind (wpAny_tryCatch (jn (e:=bH (k2,b1,u2)) ki0 raw0 (by rw[List.getElem?_toArray,List.getElem?_map,hxs]; rfl) λh' ki' sb=>?_))
 have m1:eU X pins σ H s.heap.objs.size (s.heap.push oi).objs.size d (xs.map bH).toArray.size ep 1 #[] { s with heap:=h' }:=⟨oI.turned (s:={ s with heap:=(s.heap.push oi).push (seqObj "list" #[] 0) }) (t':=s.toks) I0 λb u hb e=>(sb.2 b hb).trans e,⟨0,(sb.2 _ hSI).trans gS⟩,ki'⟩
 show wpAny _ X.A.in1 (tryCatch (holding [.ref b1] (call (.ref f) [.ref b1])) _ >>= _) _ _ _
 refine wpAny_bind (wpAny_tryCatch (wpAny_holding (m1.call oS oI (turn 0 k1 b1 v1 hkv) λu s2 m2 hu=>?_)))
 obtain⟨t2,rfl⟩:=hu
 obtain⟨c2,eS2⟩:=m2.seq
 show wpAny _ X.A.in1 (updateSeq (s.heap.push oi).objs.size (λ_=>#[.ref b1,.int (kf 0) t2]) >>= _) _ _ _
 refine wpAny_bind ?_
 refine wpAny_updateSeq eS2 rfl ?_
 rw[hname]
 refine wpAny_pure ⟨plainId_quiet PySem.F.plain_max_loop _,zE kn hd kf hh oS oI hSI turn hQ _ 0 0 _ b1 t2 k1 v1 rfl hne (m2.write _ oS hSI) hkv (Nat.le_refl _) λj' hj'=>?_⟩
 have e:j'=0:=by omega
 subst e
 exact⟨by omega,λh=>absurd h (Nat.lt_irrefl _)⟩
end
def dH(Pt:Addr)(H H':Hp):Prop:=∀ b o,b≠Pt->H b=some o->H' b=some o
theorem dH.trans{Pt:Addr}{H H1 H2:Hp}(a:dH Pt H H1)(b:dH Pt H1 H2):dH Pt H H2:=λc o n h=>b c o n (a c o n h)
theorem af.one{Pt:Addr}{H H':Hp}(a:af H H'):dH Pt H H':=λc o _ h=>a c o h
def vw(Pt:Addr)(qual:Str)(lpos:Pos)(iy:Nat)(te tb:TE):TE:=λσ H Q=>te σ H λx H1=>∃ d kvs vy,x=.ref d/\DP H1 d kvs/\kvs≠[]/\σ[iy]? = some (some vy)/\bZ H1 Pt qual lpos/\∃ kf:Nat->Int,
 (∀ H2,dH Pt H1 H2->∀ i k b v,kvs[i]? = some (k,b,v)->tb [some (.ref b),some vy] H2 λw H'=>w=.int (kf i)/\H'=H2) /\
 ∀ H2,dH Pt H1 H2->bZ H2 Pt qual lpos->∀ i k b v,kvs[i]? = some (k,b,v)->(∀ j,j < kvs.length->kf i>=kf j/\(j < i->kf i > kf j))->Q (.ref b) H2
theorem B9{env:Env}{scope:Scope}{x y:Str}{c0:Addr}(hnm:scope.names=[(x,.local),(y,.free)])(h:env.cells.lookup y=some c0):closureFor scope env=pure [(y,c0)]:=by
 unfold closureFor
 rw[hnm]
 simp[cellOf,h]
section
variable {X:Cx}{e body:Expr}{te tb:TE}{x y:Str}{scope:Scope}{params:Arguments}{lpos kp pos p:Pos}{c Pt:Addr}{k iy:Nat}
theorem xq(hr:aQ (k+2) X.A)(hcode:X.env.code=.ref c)(hhd:W.codeHdIn X.K c Pt=true)(hbi:X.base.BuiltinsAt X.mg Pt)
 (hy:X.N[iy]? = some y) (hvy:X.env.scope.names.lookup y=some .cell) (hne:x≠y) (hnm:scope.names=[(x,.local),(y,.free)]) (hkd:scope.kind=.function) (hco:scope.isCoroutine=false) (hge:scope.isGenerator=false)
 (hdef:defaultsOf params X.env=([],[]))
 (hbd : ∀ (qual:Str) (pm:Value) (c' c0:Addr) (ctv u:Value),bindArgs (W.kla_fn "<lambda>" qual params body scope [(y,c0)] pm (.ref c') ctv) ⟨[u],[]⟩=pure [(x,u)])
 (hb : ∀ f c0 cd A outer s H,aQ (k+1) A->QE (jX X.prog X.w X.K X.mg X.base x y (X.env.qual ++ "<lambda>") scope f c0 cd A outer s H) body tb)
 (he:QE X e te) (hm:X.mg "max" = none) (hg:Gl X "max") (hs:starEach [e] X.env=(false,eval e X.env) :: starEach [] X.env:=by rfl) :
 QE X (.Call (.Name "max" p) [e] [⟨some "key",.Lambda params body scope lpos,kp⟩] pos) (vw Pt (X.env.qual ++ "<lambda>") lpos iy te tb):=⟨λpins s σ H Q I h=>by
 have S:t3 x y scope:=by
  refine⟨hkd,hco,hge,hne,?_,?_,?_,?_⟩
  ·rw[hnm,List.lookup_cons]; simp
  ·rw[hnm,List.lookup_cons]
   have:(y == x)=false:=beq_eq_false_iff_ne.mpr (Ne.symm hne)
   simp[this]
  ·rw[hnm]; intro z hz
   rcases List.mem_cons.mp hz with z1 | hz
   ·rw[z1]; exact λq=>nomatch q
   ·rw[List.mem_singleton.mp hz]; exact λq=>nomatch q
  ·rw[hnm]; intro z hz hf
   rcases List.mem_cons.mp hz with z1 | hz
   ·rw[z1]at hf; cases hf
   ·rw[List.mem_singleton.mp hz]
 have e1:backTo pos (starEach [e] X.env)=[(false,eval e X.env)]:=by
  unfold backTo; rw[hs]; rfl
 have e2:backTo pos (starEach ([]:List Expr) X.env)=[]:=rfl
 refine wpAny_Call_Name_kw (fj I hg hm (show bootBuiltins "max" = some (.builtin "max") by decide +kernel) ?_ (by decide) (by decide))
 refine callWith_kw (e:=e) (rest:=[]) (kws:=[⟨some "key",.Lambda params body scope lpos,kp⟩]) ?_ (by rw[e1,e2]) (by rw[e1]; rfl) rfl rfl
 rw[e1]
 refine Calls.spliced_cons (aj (he.h pins s σ H _ I h) λu s1 ⟨x',H1,I1,r1,d,kvs,vy,ex,hD,hkn,hvy',hT,kf,hk,hq⟩=>Calls.spliced_nil ?_)
 subst ex
 obtain rfl:u=Value.ref d:=r1
 obtain⟨m,hn,hl⟩:=id I1.loc
 obtain⟨c0,hc0⟩:=I1.ok.has y (.inl hvy)
 refine kws_cons (zj I1 hdef (B9 hnm hc0) hcode hhd hbi hT λf c' ctv H2 s2 nf hf hP hC hs1 I2=>kws_nil ?_)
 have T2:bZ H2 Pt (X.env.qual ++ "<lambda>") lpos:=.inr ⟨c',hP,hC⟩
 obtain⟨⟨xs,ep,hd1,kn⟩,ky,nd,le⟩:=id hD
 have dPt:d≠Pt:=λz=>by
  obtain⟨ps,hp⟩:=hT.tbl
  rw[z,hp]at hd1; cases hd1
 have hd2:H2 d=some (dg d xs ep):=hs1 d _ dPt hd1
 show wpAny _ _ (call (.builtin "max") [.ref d] [(Str.ofString "key",.ref f)]) _ _ _
 refine zF I2 kn hd2 kf hr.hd (List.length_pos_iff.mpr hkn) (λi k' b v hi pins' s' I'=>?_) λi k' b v s' hi hb' I'=>?_
 ·have fo:=cg.at I'.hok hf
  have co:=i5.cd I'.hok hC
  obtain⟨m',hn',hl'⟩:=id I'.loc
  obtain⟨uy,ruy,lk⟩:=hl' iy y vy hy hvy' (.inr (.inl hvy))
  have hcell:s'.heap.IsCell c0 (some uy):=by
   rcases lk with ⟨q,_⟩ | ⟨_,c1,e1,z⟩
   ·have q':X.env.scope.names.lookup y=some .local:=q
    rw[hvy]at q'; cases q'
   ·rw[hc0]at e1; cases e1
    exact z
  refine wpAny_call (codeAny_mono (zQ (k:=k) (v:=.ref b) (t:=tb) (Q:=λw H'=>w=.int (kf i)/\H'=H2) hr.in1 I'.env0.in1 S fo co hcell (I'.freeC y c0 hc0) ruy (u:=.ref b) rfl (hbd _ _ _ _ _ _) (hb _ _ _ _ _ _ _ hr.in1) (hk H2 hs1 i k' b v hi)) λr s'' hr'=>?_)
  cases r with
  | error e=>exact False.elim hr'
  | ok fl =>
   cases fl with
   | next=>exact False.elim hr'
   | brk=>exact False.elim hr'
   | cont=>exact False.elim hr'
   | ret u =>
    obtain⟨v',H',J,rv',rfl,rfl⟩:=I'.after hr'
    exact⟨J,rv'⟩
 ·exact⟨.ref b,H2,I',rfl,hq H2 hs1 T2 i k' b v hi hb'⟩⟩
end
abbrev aE:=List Int
def gv(x:aE × Addr × Value):DictEntry:=⟨reduceHash (Builtin.Tuple.tupleHashOf (x.1.map hashInt)),.ref x.2.1,x.2.2⟩
theorem oP(P:Program)(w:World):entryOfKey (tupleKind (intKind P w))=gv:=rfl
def fH(a:Addr)(xs:List (aE × Addr × Value))(ep:Nat):HO:=.ext λh=>dy h a (xs.map gv).toArray ep
def dL(H:Hp)(k:aE)(p:Addr):Prop:=H p=some (.tup (k.map V.int))
abbrev KQ:List (aE × Addr × V)->List (aE × Addr × Value)->Prop:=Paired λp q=>p.1=q.1/\p.2.1=q.2.1/\au p.2.2 q.2.2
structure DQ (H:Hp) (a:Addr) (kvs:List (aE × Addr × V)):Prop where
 ex : ∃ xs ep,H a=some (fH a xs ep)/\KQ kvs xs
 key : ∀ x∈kvs,dL H x.1 x.2.1
 nd:(kvs.map (·.1)).Nodup
 le:kvs.length<=sizeLine
theorem dL.same{H H':Hp}{k:aE}{p:Addr}(s:af H H')(h:dL H k p):dL H' k p:=s _ _ h
theorem DQ.same{H H':Hp}{a:Addr}{kvs:List (aE × Addr × V)}(s:af H H')(d:DQ H a kvs):DQ H' a kvs:=by
 obtain⟨⟨xs,ep,h1,h2⟩,k,n,l⟩:=d
 exact⟨⟨xs,ep,s _ _ h1,h2⟩,λx hx=>(k x hx).same s,n,l⟩
def bz(kvs:List (aE × Addr × V))(k:aE):Option V:=(kvs.find? λx=>decide (x.1=k)).map (·.2.2)
def dX(kvs:List (aE × Addr × V))(k:aE)(b:Addr)(v:V):List (aE × Addr × V) :=
 if (bz kvs k).isSome then kvs.map (λx=>if x.1=k then (x.1,x.2.1,v) else x) else kvs++[(k,b,v)]
theorem KQ.val{kvs:List (aE × Addr × V)}{xs:List (aE × Addr × Value)}(r:KQ kvs xs)(k:aE):bS (bz kvs k) ((atKey xs k).map (·.2)):=by
 induction r with
 | nil=>exact True.intro
 | @cons p q ps qs h t ih =>
  obtain⟨h1,_,h2⟩:=h
  by_cases e:p.1=k
  ·have e':q.1=k:=h1.symm.trans e
   have b:atKey (q :: qs) k=some q.2:=by simp[atKey,List.find?_cons,e']
   have c:bz (p :: ps) k=some p.2.2:=by simp[bz,List.find?_cons,e]
   rw[b,c]
   exact h2
  ·have e' : ¬ q.1=k:=λz=>e (h1.trans z)
   have b:atKey (q :: qs) k=atKey qs k:=by simp[atKey,List.find?_cons,e']
   have c:bz (p :: ps) k=bz ps k:=by simp[bz,List.find?_cons,e]
   rw[b,c]
   exact ih
theorem KQ.put{kvs:List (aE × Addr × V)}{xs:List (aE × Addr × Value)}(r:KQ kvs xs)(k:aE){b:Addr}{y:V}{u:Value}(ry:au y u):KQ (dX kvs k b y) (storedH xs k b u):=by
 have e:(bz kvs k).isSome=(atKey xs k).isSome:=by rw[(r.val k).isSome_eq,Option.isSome_map]
 unfold dX storedH
 rw[e]
 split
 ·induction r with
  | nil=>exact .nil
  | @cons p q ps qs h t ih =>
   rw[List.map_cons,List.map_cons]
   have all : ∀ {l m},KQ l m->KQ (l.map λx=>if x.1=k then (x.1,x.2.1,y) else x) (m.map (putAt k u)):=by
    intro l m r
    induction r with
    | nil=>exact .nil
    | @cons p q ps qs h t ih =>
     rw[List.map_cons,List.map_cons]
     refine .cons ?_ ih
     obtain⟨h1,h2,h3⟩:=h
     unfold putAt
     by_cases z:p.1=k
     ·rw[if_pos z,if_pos (h1.symm.trans z)]; exact⟨h1,h2,ry⟩
     ·rw[if_neg z,if_neg (λy=>z (h1.trans y))]; exact⟨h1,h2,h3⟩
   exact all (.cons h t)
 ·exact Paired.snoc r ⟨rfl,rfl,ry⟩
theorem KQ.keys{kvs:List (aE × Addr × V)}{xs:List (aE × Addr × Value)}(r:KQ kvs xs):kvs.map (·.1)=xs.map (·.1):=by
 induction r with
 | nil=>rfl
 | cons h t ih=>rw[List.map_cons,List.map_cons,ih,h.1]
theorem rB : ∀ {kvs:List (aE × Addr × V)} {xs:List (aE × Addr × Value)},KQ kvs xs->∀ {i:Nat} {a:aE × Addr × V} {b:aE × Addr × Value},kvs[i]? = some a->xs[i]? = some b->a.1=b.1/\a.2.1=b.2.1/\au a.2.2 b.2.2
 | _,_,.nil,_,_,_,h,_=>by simp at h
 | _,_,.cons r t,0,_,_,h,h'=>by simp at h h'; subst h; subst h'; exact r
 | _,_,.cons r t,i+1,_,_,h,h'=>rB t (i:=i) (by simpa using h) (by simpa using h')
theorem xC(kvs:List (aE × Addr × V))(k:aE)(b:Addr)(v:V) : ∀ x∈dX kvs k b v,(∃ y∈kvs,y.1=x.1/\y.2.1=x.2.1)\/x=(k,b,v):=by
 intro x hx
 unfold dX at hx
 split at hx
 ·obtain⟨y,hy,rfl⟩:=List.mem_map.mp hx
  refine .inl ⟨y,hy,?_⟩
  split <;> exact⟨rfl,rfl⟩
 ·rcases List.mem_append.mp hx with z | z
  ·exact .inl ⟨x,z,rfl,rfl⟩
  ·exact .inr (List.mem_singleton.mp z)
theorem xB(kvs:List (aE × Addr × V))(k:aE)(b:Addr)(v:V):(dX kvs k b v).length<=kvs.length+1:=by
 unfold dX
 split <;> simp
theorem kD{P:Program}{w:World}{H:Hp}{h:Heap}{k:aE}{p:Addr}(ok:aN P w H h)(e:dL H k p):IsTupleKey (intKind P w) h k p:=by
 have all : ∀ {ks:List Int} {us:List Value},ar (ks.map V.int) us->ItemsAre (intKind P w) ks us:=by
  intro ks
  induction ks with
  | nil=>intro us r; cases r; exact .nil
  | cons k ks ih =>
   intro us r
   cases r with
   | cons a b =>
    obtain⟨t,rfl⟩:=a
    exact .cons (by exact beq_self_eq_true k) (ih b)
 obtain⟨_,its2,r2,o2,b1,b2,n2,b3⟩:=(show aL P w H h p (.tup (k.map V.int)) from ok p _ e)
 exact⟨o2,its2.toArray,n2,b1,b2,b3,by simpa using all r2⟩
section
variable {X:Cx}{pins:List (Addr × Obj)}{σ:St}{H:Hp}{s:Shared}{a b:Addr}{kvs:List (aE × Addr × V)}{k:aE}{v:V}{A:Around}{E:Value->Shared->Prop}
theorem iT(I:ad X pins σ H s)(d:DQ H a kvs) : ∃ xs ep,H a=some (fH a xs ep)/\KQ kvs xs/\dy s.heap a (xs.map gv).toArray ep/\s.heap.DictOfH (tupleKind (intKind X.prog X.w)) a xs:=by
 obtain⟨⟨xs,ep,h1,h2⟩,ky,nd,le⟩:=d
 obtain⟨r,_⟩:=I.hok a _ h1
 obtain⟨o,e1,e2,e3⟩:=r.obj
 refine⟨xs,ep,h1,h2,r,o,_,ep,e1,e2,e3,by rw[oP],λx hx=>?_,by rw[<- h2.keys]; exact nd⟩
 have all : ∀ {l m},KQ l m->(∀ x∈l,dL H x.1 x.2.1)->∀ x∈m,IsTupleKey (intKind X.prog X.w) s.heap x.1 x.2.1:=by
  intro l m r
  induction r with
  | nil=>intro _ x hx; cases hx
  | @cons p q ps qs h t ih =>
   intro al x hx
   rcases List.mem_cons.mp hx with z | z
   ·subst z
    rw[<- h.1,<- h.2.1]
    exact kD I.hok (al p (List.mem_cons_self ..))
   ·exact ih (λy hy=>al y (List.mem_cons_of_mem _ hy)) x z
 exact all h2 ky x hx
theorem BM{Q:Value->Shared->Prop}(hu:A.units+16 < cLine)(I:ad X pins σ H s)(d:DQ H a kvs)(ky:dL H k b)(e:bz kvs k=some v)(q : ∀ w' s',ad X pins σ H s'->au v w'->Q w' s'):wpAny (model X.prog X.w) A (getItem (.ref a) (.ref b)) Q E s:=by
 obtain⟨xs,ep,h1,h2,r,dd⟩:=iT I d
 obtain⟨w',hw,rw'⟩:=bS.some_of (v:=v) (o:=(atKey xs k).map (·.2)) (by rw[<- e]; exact h2.val k)
 obtain⟨p,hp,hp2⟩:=Option.map_eq_some_iff.mp hw
 refine wpAny_getItem_heap (knd:=tupleKind (intKind X.prog X.w)) (by show A.units+1 < cLine; omega) (kD I.hok ky) dd hp ?_
 rw[hp2]
 exact q w' _ (I.tok _) rw'
end
def zK:TE:=λ_ H Q=>∀ p H',aO H p (fH p [] 0) H'->Q (.ref p) H'
theorem DQ.new{H H':Hp}{p:Addr}(g:aO H p (fH p [] 0) H'):DQ H' p []:=⟨⟨[],0,g.at_,.nil⟩,λ_ hx=>(nomatch hx),List.nodup_nil,Nat.zero_le _⟩
def vC(td ty:TE):TE:=λσ H Q=>td σ H λx H1=>ty σ H1 λy H2=>∃ a b kvs k v,x=.ref a/\y=.ref b/\DQ H2 a kvs/\dL H2 k b/\bz kvs k=some v/\Q v H2
def iA(d:Addr)(o:HO)(kvs:List (aE × Addr × V)):It :=
 ⟨λi H=>H d=some o/\i < kvs.length,λi H x H'=>H'=H/\∃ k b v,kvs[i]? = some (k,b,v)/\x=.ref b,λi H=>H d=some o/\kvs.length<=i⟩
def Aj(td:TE):TI:=λσ H R=>td σ H λx H1=>∃ d kvs,x=.ref d/\DQ H1 d kvs/\∀ o,H1 d=some o->R (iA d o kvs) H1
theorem vf{P:Program}{w:World}{K:W.Frag}{tg:Expr}(d it:Addr)(xs:List (aE × Addr × Value))(ep:Nat)(kvs:List (aE × Addr × V))(kn:KQ kvs xs):dw P w K tg (iA d (fH d xs ep) kvs) [it] it (λi h=>h.IsKeyIter it d i (xs.map gv).toArray.size ep) where
 mem:=by simp
 obj:=λi h st b hb=>by
  have e:b=it:=by simpa using hb
  subst e
  obtain⟨o,e,c,d⟩:=st
  exact⟨o,e,λv z=>by rw[d]at z; cases z⟩
 keep:=λi h h' st k=>st.at λo e=>k it (by simp) o e
 item:=by
  intro X hP hw hK hc i pins s σ H E I hf st hg
  subst hP hw hK
  obtain⟨hq,hi⟩:=hg
  obtain⟨r,_⟩:=I.hok d _ hq
  obtain⟨f0,f1,f2,f3,f4,f5⟩:=hf it (by simp)
  have hl:=Paired.length kn
  obtain⟨⟨k,b,v⟩,hkv⟩ : ∃ y,kvs[i]? = some y:=⟨_,List.getElem?_eq_getElem hi⟩
  obtain⟨⟨k',b',u⟩,hxs⟩ : ∃ y,xs[i]? = some y:=⟨_,List.getElem?_eq_getElem (by omega)⟩
  obtain⟨z1,z2,z3⟩:=rB kn hkv hxs
  have z2':b=b':=z2
  subst z2'
  refine jn (e:=gv (k',b,u)) st r (by rw[List.getElem?_toArray,List.getElem?_map,hxs]; rfl) λh' st' sb=>?_
  have I1:ad X pins σ H { s with heap:=h' }:=I.turned (t':=s.toks) (λb o hb e=>(sb.2 b hb).trans e) f0 f1 f3 f4 f5
  obtain⟨o,e,c,dd⟩:=id st'
  exact⟨.ref b,rfl,ii (s:={ s with heap:=h' }) e c dd (by decide) ⟨.ref b,H,I1,rfl,⟨rfl,k,b,v,hkv,rfl⟩,st',λb hb=>(hf b hb).1⟩⟩
 done:=by
  intro X hP hw hK hc i pins s σ H E I hf st hg
  subst hP hw hK
  obtain⟨hq,hi⟩:=hg
  obtain⟨r,_⟩:=I.hok d _ hq
  obtain⟨f0,f1,f2,f3,f4,f5⟩:=hf it (by simp)
  have hl:=Paired.length kn
  exact kW (I.ok.hd hc) st r (by simp; omega) λh' eb=>⟨rfl,I.turned (t':=s.toks) (λb o hb e=>eb b o hb e) f0 f1 f3 f4 f5⟩
 self:=λ_ _ _ _ _ st h=>wpAny_pyIter_keyiter st h
section
variable {X:Cx}{K:W.Frag}{o i e f value tg l:Expr}{td ty tx tv tl:TE}{pos pos' apos cpos:Pos}
theorem xp:QE X (.Dict [] [] pos) zK:=⟨λpins s σ H Q I h=>by
 refine wpAny_Dict_empty ⟨.ref s.heap.objs.size,_,I.laid (a:=s.heap.objs.size) (o:=fH s.heap.objs.size [] 0) (t':=s.toks) (λ_ _ q=>Heap.get?_push_of_some _ q) (Nat.le_refl _) ?_,rfl,h _ _ (.mk' (I.hok.fresh (Nat.le_refl _)))⟩
 refine⟨⟨beq_eq_false_iff_ne.mpr (Ne.symm (Nat.ne_of_lt I.big)),_,Heap.get?_push_size _ rfl,⟨rfl,rfl,rfl⟩,rfl⟩,⟨_,Heap.get?_push_size _ rfl⟩,λg1 g2 f kk=>f.to kk⟩⟩
theorem iO(hu:X.A.units+64 < cLine)(ho:QE X o td)(hi:QE X i ty)(hs:iZ i:=by intro _ _; rfl):QE X (.Subscript o i pos) (vC td ty):=⟨λpins s σ H Q I h=>by
 refine kM PySem.F.slot_dict_getitem.lookup hs (aj (ho.h pins s σ H _ I h) λu s1 ⟨x,H1,I1,rx,q1⟩=>aj (hi.h pins s1 σ H1 _ I1 q1) λiv s2 ⟨y,H2,I2,ry,a,b,kvs,k,v,ex,ey,d,ky,ev,q2⟩=>?_)
 subst ex ey
 obtain rfl:u=Value.ref a:=rx
 obtain rfl:iv=Value.ref b:=ry
 obtain⟨xs,ep,_,_,r,_⟩:=iT I2 d
 exact⟨r.ty,BM (by omega) I2 d ky ev λw' s3 I3 rw'=>⟨v,H2,I3,rw',q2⟩⟩⟩
theorem qi(hl:QE X l tl):QI X tg l (Aj tl):=⟨λpins s σ H R I h=>by
 refine aj (hl.h pins s σ H _ I h) λv s1 ⟨x,H1,I1,r1,d,kvs,ex,dn,q⟩=>?_
 subst ex
 obtain rfl:v=Value.ref d:=r1
 obtain⟨xs,ep,h1,h2,r,_⟩:=iT I1 dn
 refine kU r ?_
 refine⟨s1.heap.objs.size,[s1.heap.objs.size],_,iA d (fH d xs ep) kvs,H1,rfl,I1.kept (t':=s1.toks) λb o e=>Heap.get?_push_of_some _ e,vf d _ xs ep kvs h2,⟨_,Heap.get?_push_size _ rfl,rfl,rfl⟩,λb hb=>?_,q _ h1⟩
 have e:b=s1.heap.objs.size:=by simpa using hb
 subst e
 exact I1.fpOk (Nat.le_refl _) (I1.hok.fresh (Nat.le_refl _))⟩
theorem sv{d:Addr}{o:HO}{kvs:List (aE × Addr × V)}{g:TG}{tb:TS}{D:cH}{σ:St}{H:Hp}(Pv:Nat->St->Hp->Prop)(h0:Pv 0 σ H)(hl : ∀ i σ H,i<=kvs.length->Pv i σ H->H d=some o)
 (hs : ∀ i k b v σ H,kvs[i]? = some (k,b,v)->Pv i σ H->g (.ref b) σ H λσ2 H2=>tb { D with nx:=Pv (i+1),ct:=Pv (i+1),bk:=D.nx } σ2 H2) (hd : ∀ σ H,Pv kvs.length σ H->D.nx σ H) :
 ∃ W:Nat->Nat->St->Hp->Prop,(∃ m,W 0 m σ H)/\∀ i m σ H,W i m σ H ->
  ((iA d o kvs).stop i H/\D.nx σ H)\/((iA d o kvs).go i H/\∃ N:St->Hp->Prop,(∀ σ' H',N σ' H'->∃ m',m' < m/\W (i+1) m' σ' H')/\∀ x H',(iA d o kvs).yld i H x H'->g x σ H' λσ2 H2=>tb { D with nx:=N,ct:=N,bk:=D.nx } σ2 H2):=by
 refine⟨λi m σ H=>m=kvs.length - i/\i<=kvs.length/\Pv i σ H,⟨kvs.length,by simp,Nat.zero_le _,h0⟩,?_⟩
 rintro i m σ H ⟨rfl,hi,p⟩
 have q:=hl i σ H hi p
 by_cases hlt:i < kvs.length
 ·refine .inr ⟨⟨q,hlt⟩,Pv (i+1),λσ' H' p'=>⟨kvs.length - (i+1),by omega,rfl,hlt,p'⟩,λx H' y=>?_⟩
  obtain⟨rfl,k,b,v,y,rfl⟩:=y
  exact hs i k b v σ H' y p
 ·have e:i=kvs.length:=by omega
  subst e
  exact .inl ⟨⟨q,Nat.le_refl _⟩,hd σ H p⟩
end
section
variable {prog:Program}{w:World}{A:Around}{E:Value->Shared->Prop}{s:Shared}{K:Type}[DecidableEq K]{knd:HeapKind prog w K}
theorem wn{d a:Addr}{xs:List (K × Addr × Value)}{k:K}{v:Value}{Q:Value->Shared->Prop}(hu:knd.room A)(hkey:knd.is s.heap k a)(hm:s.heap.DictOfH knd d xs)
 (h1 : ∀ p,atKey xs k=some p->Q p.2 { s with toks:=s.toks+knd.draws k })
 (h2:atKey xs k=none->∀ h',h'.DictOfH knd d (storedH xs k a v)->Heap.SameBut d s.heap h'->Q v { s with heap:=h',toks:=s.toks+knd.draws k })
 (hsz:xs.length<=sizeLine) :
 wpAny (model prog w) A (dictSetDefault d (.ref a) v) Q E s:=by
 obtain⟨o,es,ep,ho,hc,hd,he,his,hn⟩:=hm
 unfold dictSetDefault
 try with_reducible refine wpAny_holding ?_
 refine wpAny_bind (knd.pyHash hu hkey ?_)
 refine wpAny_bind (wpAny_dictFind_heap (s:={ s with toks:=s.toks+knd.draws k }) hu hkey ho hd he his hn ?_ ?_)
 ·intro hno
  have hnot:k∉xs.map (·.1):=not_mem_keys_of_get hno
  refine wpAny_bind (wpAny_rule (wpAny_bind (wpAny_updateDictKeys (hz:=by have e:=size_of_entries he; omega) (s:={ s with toks:=s.toks+knd.draws k }) ho hd (wpAny_pure (h2 (atKey_none_of_get hno) _ ⟨_,_,ep+1,Heap.get?_update_self _ ho (Obj.isFreed_of_dict (Obj.data_mapDictKeys hd _)),
   hc.mapDictKeys _,Obj.data_mapDictKeys hd _,?_,?_,?_⟩ (Heap.SameBut.update ..))))))
  ·rw[storedH_new (atKey_none_of_get hno)]
   simp[he,entryOfKey]
  ·rw[storedH_new (atKey_none_of_get hno)]
   intro x hx
   rcases List.mem_append.mp hx with hx | hx
   ·exact knd.keeps (his x hx) ho hd (Heap.SameBut.update ..)
   ·simp only [List.mem_singleton]at hx
    subst hx
    exact knd.keeps hkey ho hd (Heap.SameBut.update ..)
  ·rw[storedH_new (atKey_none_of_get hno)]
   rw[List.map_append,List.nodup_append]
   refine⟨hn,by simp,?_⟩
   intro x hx y hy
   simp only [List.map_cons,List.map_nil,List.mem_singleton]at hy
   subst hy
   exact λe=>hnot (e ▸ hx)
 ·intro j p hj
  refine wpAny_bind (wpAny_dictEntries (s:={ s with toks:=s.toks+knd.draws k }) ho hd ?_)
  have e1:es[j]? = some (entryOfKey knd (k,p)):=by
   rw[<- Array.getElem?_toList,he,List.getElem?_map,hj]; rfl
  rw[e1]
  exact wpAny_bind (wpAny_rule (wpAny_pure (h1 p (atKey_of_get hn hj))))
theorem zq{d a:Addr}(hd:(d == sysModules)=false)(dflt:Value) :
 MeetsIn prog w (Builtin.«dict.setdefault» ⟨[.ref d,.ref a,dflt],[]⟩) (λA R s=>knd.room A.in1/\∃ k xs,knd.is s.heap k a/\s.heap.DictOfH knd d xs/\xs.length<=sizeLine /\
  (∀ p,atKey xs k=some p->R (.ok (.ret p.2)) { s with toks:=s.toks+knd.draws k }) /\
  (atKey xs k=none->∀ h',h'.DictOfH knd d (storedH xs k a dflt)->Heap.SameBut d s.heap h'->R (.ok (.ret dflt)) { s with heap:=h',toks:=s.toks+knd.draws k })) :=
 .of_wp λA R s ⟨hu,k,xs,hkey,hm,hz,h1,h2⟩=>by
  unfold Builtin.«dict.setdefault»
  refine wpAny_bind ?_
  unfold Builtin.Dict.keyAndDefault
  refine wpAny_bind (wpAny_notOrdered_dict hm.typeIs ?_)
  show wpAny _ _ (pure (d,Value.ref a,some dflt)) _ _ s
  refine wpAny_pure ?_
  show wpAny _ _ (if (d == sysModules)=true then _ else (dictSetDefault d (.ref a) dflt >>= _)) _ _ s
  rw[if_neg (by rw[hd]; exact Bool.false_ne_true)]
  exact wpAny_bind (wn hu hkey hm (λp hp=>wpAny_pure ⟨_,rfl,h1 p hp⟩) (λhn h' hm' hs'=>wpAny_pure ⟨dflt,rfl,h2 hn h' hm' hs'⟩) hz)
end
def vz(td ty tx:TE):TE:=λσ H Q=>td σ H λx H1=>∃ a kv0,x=.ref a/\DQ H1 a kv0/\ty σ H1 λy H2=>tx σ H2 λz H3=>∃ b kvs k,y=.ref b/\DQ H3 a kvs/\dL H3 k b/\kvs.length < sizeLine /\
 (∀ v,bz kvs k=some v->Q v H3)/\(bz kvs k=none->∀ H4,DQ H4 a (dX kvs k b z)->(∀ c,c≠a->H4 c=H3 c)->Q z H4)
section
variable {X:Cx}{pins:List (Addr × Obj)}{σ:St}{H:Hp}{s:Shared}{a b:Addr}{kvs:List (aE × Addr × V)}{k:aE}{v:V}{A:Around}{E:Value->Shared->Prop}
theorem BL{u:Value}{Q:Value->Shared->Prop}(hu:A.units+16 < cLine)(I:ad X pins σ H s)(d:DQ H a kvs)(ky:dL H k b)(hl:kvs.length < sizeLine)(rv:au v u)
 (q1 : ∀ v' w' s',bz kvs k=some v'->ad X pins σ H s'->au v' w'->Q w' s')
 (q:bz kvs k=none->∀ H' s',ad X pins σ H' s'->DQ H' a (dX kvs k b v)->(∀ c,c≠a->H' c=H c)->Q u s'):wpAny (model X.prog X.w) A (call (.builtin "dict.setdefault") [.ref a,.ref b,u]) Q E s:=by
 obtain⟨xs,ep,h1,h2,r,dd⟩:=iT I d
 have hz:xs.length<=sizeLine:=by rw[<- Paired.length h2]; exact d.le
 refine call_meetsIn PySem.F.slot_dict_setdefault dd.typeIs PySem.F.entry_dict_setdefault (PySem.F.args_dict_setdefault_3 _ _ _) (zq (knd:=tupleKind (intKind X.prog X.w)) r.big u) ⟨by show A.units+1 < cLine; omega,k,xs,kD I.hok ky,dd,hz,λp hp=>?_,λhn h' dd' hs=>?_⟩
 ·have e:=h2.val k
  rw[hp]at e
  cases ev:bz kvs k with
  | none=>rw[ev]at e; exact e.elim
  | some v'=>rw[ev]at e; exact q1 v' _ _ ev (I.tok _) e
 ·have en:bz kvs k=none:=by
   have e:=h2.val k
   rw[hn]at e
   cases ev:bz kvs k with
   | none=>rfl
   | some v'=>rw[ev]at e; exact e.elim
  obtain⟨o,es,ep',e1,e2,e3,e4,e5,e6⟩:=dd'
  have nk : ∀ c ys,H c=some (.tup ys)->c≠a:=λc ys z y=>by subst y; rw[h1]at z; cases z
  have es':es=((storedH xs k b u).map gv).toArray:=by
   rw[oP]at e4
   rw[<- e4,Array.toArray_toList]
  have I':ad X pins σ (upd H a (fH a (storedH xs k b u) ep')) { s with heap:=h',toks:=s.toks+(tupleKind (intKind X.prog X.w)).draws k }:=by
   refine jW I (by rw[h1]; exact True.intro) hs ⟨o,e1⟩ ⟨⟨r.big,o,e1,e2,by rw[e3,es']⟩,⟨o,e1⟩,λg1 g2 f kk=>f.to kk⟩
  refine q en _ _ I' ⟨⟨_,ep',aR,h2.put k rv⟩,λx hx=>?_,?_,?_⟩ λc hc=>ai hc
  ·have ky':dL H x.1 x.2.1:=by
    rcases xC kvs k b v x hx with ⟨y,hy,z1,z2⟩ | z
    ·rw[<- z1,<- z2]; exact d.key y hy
    ·rw[z]; exact ky
   show upd H a _ _=_
   rw[ai (nk _ _ ky')]
   exact ky'
  ·rw[(h2.put k rv).keys]; exact e6
  ·have:=xB kvs k b v; omega
end
section
variable {X:Cx}{o e f:Expr}{td ty tx:TE}{apos cpos:Pos}
theorem xu (hu:X.A.units+64 < cLine) (ho:QE X o td) (he:QE X e ty) (hf:QE X f tx) (hb:attributeBase o "setdefault" X.env (eval o X.env)=eval o X.env:=by rfl)
 (hw:((backTo cpos (starEach [e,f] X.env)).all (λx=>!x.1) && (backToKw cpos (keywordEach [] X.env)).all (λx=>x.1.isSome)
   && decide (([e,f]:List Expr).length+([]:List Keyword).length+(if ([]:List Keyword).isEmpty then 0 else 1) < 30))=true:=by rfl)
 (hl:(apos.endLine == cpos.line)=true:=by rfl) (ht:backTo cpos (starEach [e,f] X.env)=[(false,eval e X.env),(false,eval f X.env)]:=by rfl) :
 QE X (.Call (.Attribute o "setdefault" apos) [e,f] [] cpos) (vz td ty tx):=⟨λpins s σ H Q I h=>by
 refine wpAny_Call_method hb hw hl PySem.F.plainAttrs_dict PySem.F.slot_dict_setdefault PySem.F.type_dict_setdefault (aj (ho.h pins s σ H _ I h) λu s1 ⟨x,H1,I1,rx,a,kv0,ex,d,q1⟩=>?_)
 subst ex
 obtain rfl:u=Value.ref a:=rx
 obtain⟨xs,ep,_,_,r,_⟩:=iT I1 d
 refine⟨r.ty,λb z=>?_,?_⟩
 ·cases z
  obtain⟨ob,e1,e2,_⟩:=r.obj
  exact⟨ob,e1,e2.2.1⟩
 rw[ht]
 refine Calls.callWith_builtin rfl (Calls.evalArgs_plain (Calls.spliced_cons (aj (he.h pins s1 σ H1 _ I1 q1) λiv s2 ⟨y,H2,I2,ry,q2⟩ =>
  Calls.spliced_cons (aj (hf.h pins s2 σ H2 _ I2 q2) λfv s3 ⟨z,H3,I3,rz,b,kvs,k,ey,d3,ky,hl3,q3,q4⟩=>Calls.spliced_nil ?_))))
 subst ey
 obtain rfl:iv=Value.ref b:=ry
 exact BL (by omega) I3 d3 ky hl3 rz (λv' w' s4 ev I4 rw'=>⟨v',H3,I4,rw',q3 v' ev⟩) λen H4 s4 I4 d4 k4=>⟨z,H4,I4,rz,q4 en H4 d4 k4⟩⟩
end
def cZ(a b:Int × Int):Bool:=if a.1=b.1 then decide (a.2 > b.2) else decide (a.1 > b.1)
def gf(h:Heap)(x:Addr)(a:Int × Int):Prop:=∃ o t u n,h.get? x=some o/\o.cls=.type "tuple"/\o.data=.seq #[.int a.1 t,.int a.2 u] n
section
variable {prog:Program}{w:World}{A:Around}{E:Value->Shared->Prop}{s:Shared}
theorem gf.ty {x:Addr} {a:Int × Int} (h:gf s.heap x a):s.TypeIs (.ref x) "tuple":=by
 obtain⟨o,t,u,n,h1,h2,_⟩:=h
 exact⟨o,h1,h2⟩
theorem vh{x y:Addr}{a b:Int × Int}{P:Fin->Shared->Prop}(hu:A.units+4 < cLine)(hx:gf s.heap x a)(hy:gf s.heap y b)(q:P (.done (.ret (.bool (cZ a b)))) s) :
 wpAny (model prog w) A (Builtin.«tuple.__gt__» ⟨[.ref x,.ref y],[]⟩) P E s:=by
 have ty:=hy.ty
 obtain⟨o,t,u,n,h1,h2,h3⟩:=hx
 obtain⟨o',t',u',n',g1,g2,g3⟩:=hy
 show wpAny _ _ (isInstance (.ref y) (.type "tuple") >>= _) _ _ _
 refine wpAny_bind (wpAny_isInstance ty isSubtype_tuple_tuple ?_)
 simp only [Bool.not_true,Bool.false_eq_true,if_false]
 refine wpAny_bind (wpAny_tupleItemsOf h1 h3 ?_)
 refine wpAny_bind (wpAny_tupleItemsOf g1 g3 ?_)
 refine wpAny_bind ?_
 show wpAny _ _ (forIn [(Value.int a.1 t,Value.int b.1 t'),(Value.int a.2 u,Value.int b.2 u')] _ _) _ _ _
 rw[List.forIn_cons]
 refine wpAny_bind (wpAny_bind (wpAny_eqBool_int ?_))
 unfold cZ at q
 by_cases e1:a.1=b.1
 ·rw[if_pos e1]at q
  rw[beq_iff_eq.mpr e1]
  simp only [Bool.not_true,Bool.false_eq_true,if_false]
  refine wpAny_pure ?_
  dsimp only
  rw[List.forIn_cons]
  refine wpAny_bind (wpAny_bind (wpAny_eqBool_int ?_))
  by_cases e2:a.2=b.2
  ·rw[beq_iff_eq.mpr e2]
   simp only [Bool.not_true,Bool.false_eq_true,if_false]
   refine wpAny_pure ?_
   dsimp only
   rw[List.forIn_nil]
   refine wpAny_pure (wpAny_pure ?_)
   rw[decide_eq_false (by omega)]at q
   exact q
  ·rw[beq_eq_false_iff_ne.mpr e2]
   simp only [Bool.not_false,if_true]
   refine wpAny_bind (wpAny_rule (wpAny_bind (CmpOf.ints_gt (prog:=prog) (w:=w) (P:=λi v=>∃ t,v=.int (if i=0 then a.2 else b.2) t) (λi=>if i=0 then a.2 else b.2) (λi v h=>h) 0 1 _ _ _ _ _ ⟨u,rfl⟩ ⟨u',rfl⟩ ?_)))
   exact wpAny_bind (wpAny_pure (wpAny_pure (wpAny_pure (wpAny_pure q))))
 ·rw[if_neg e1]at q
  rw[beq_eq_false_iff_ne.mpr e1]
  simp only [Bool.not_false,if_true]
  refine wpAny_bind (wpAny_rule (wpAny_bind (CmpOf.ints_gt (prog:=prog) (w:=w) (P:=λi v=>∃ t,v=.int (if i=0 then a.1 else b.1) t) (λi=>if i=0 then a.1 else b.1) (λi v h=>h) 0 1 _ _ _ _ _ ⟨t,rfl⟩ ⟨t',rfl⟩ ?_)))
  exact wpAny_bind (wpAny_pure (wpAny_pure (wpAny_pure (wpAny_pure q))))
theorem vi{x y:Addr}{a b:Int × Int}{Q:Value->Shared->Prop}(hu:A.units+8 < cLine)(hx:gf s.heap x a)(hy:gf s.heap y b)(q:Q (.bool (cZ a b)) s) :
 wpAny (model prog w) A (richCompare .Gt (.ref x) (.ref y)) Q E s :=
 wpAny_richCompare_same_room (op:=.Gt) hx.ty hy.ty PySem.F.slot_tuple_gt (wpAny_call_entry PySem.F.slot_tuple_gt hx.ty PySem.F.entry_tuple_gt (vh (by show A.units+1+4 < cLine; omega) hx hy ⟨_,rfl,nofun,q⟩) (PySem.F.args_tuple_gt_2 _ _)) (by omega)
end
section
variable {X:Cx}{pins:List (Addr × Obj)}{σ:St}{H:Hp}{s:Shared}
theorem qG{x:Addr}{a:Int × Int}(I:ad X pins σ H s)(h:H x=some (.tup [.int a.1,.int a.2])):gf s.heap x a:=by
 obtain⟨_,its,r,o,a1,a2,n,a3⟩:=(show aL X.prog X.w H s.heap x (.tup [.int a.1,.int a.2]) from I.hok x _ h)
 cases r with
 | cons c1 r=>cases r with
  | cons c2 r=>cases r with
   | nil =>
    obtain⟨t,rfl⟩:=c1
    obtain⟨u,rfl⟩:=c2
    exact⟨o,t,u,n,a1,a2,a3⟩
structure iw (X:Cx) (pins:List (Addr × Obj)) (σ:St) (H:Hp) (it S l:Addr) (j:Nat) (arr:Array Value) (s:Shared):Prop where
 inv:ad X pins σ H s
 seq : ∃ c,s.heap.get? S=some (seqObj "list" arr c)
 iter:s.heap.IsListIter it l j
theorem iw.write{it S l:Addr}{j:Nat}{arr:Array Value}(arr':Array Value)(m:iw X pins σ H it S l j arr s)(oS:cz X pins H S)(hSI:S≠it){t':Nat} :
 iw X pins σ H it S l j arr' { s with heap:=s.heap.update S (Obj.mapSeq λ_=>arr'),toks:=t' }:=by
 obtain⟨I,⟨c,eS⟩,ki⟩:=m
 have s1:=Heap.SameBut.update s.heap S (Obj.mapSeq λ_=>arr')
 obtain⟨o,e1,e2,e3⟩:=ki
 exact⟨oS.turned I λb u hb e=>(s1.2 b hb).trans e,⟨_,get?_update_seq eS λ_=>arr'⟩,⟨o,(s1.2 it hSI.symm).trans e1,e2,e3⟩⟩
variable {l it S:Addr}{ts:List (Addr × Int × Int)}{R:Result->Shared->Prop}{dv:Value}
theorem jC(I:ad X pins σ H s)(hl:H l=some (.lst (ts.map λx=>V.ref x.1))):s.heap.IsList l (ts.map λx=>Value.ref x.1).toArray:=by
 obtain⟨_,its,n,r,e⟩:=(show aL X.prog X.w H s.heap l (.lst (ts.map λx=>V.ref x.1)) from I.hok l _ hl)
 have all : ∀ {ys:List (Addr × Int × Int)} {us:List Value},ar (ys.map λx=>V.ref x.1) us->us=ys.map λx=>Value.ref x.1:=by
  intro ys
  induction ys with
  | nil=>intro us r; cases r; rfl
  | cons y ys ih =>
   intro us r
   cases r with
   | cons a b =>
    rw[List.map_cons,ih b]
    rw[show _=Value.ref y.1 from a]
 rw[all r]at e
 exact⟨_,e,rfl,n,rfl⟩
theorem zB(hl:H l=some (.lst (ts.map λx=>V.ref x.1)))(ht : ∀ x∈ts,H x.1=some (.tup [.int x.2.1,.int x.2.2]))(hh:X.A.handled=none)(hu:X.A.units+16 < cLine)(oS:cz X pins H S)(oI:cz X pins H it)(hSI:S≠it)(hli:l≠it)
 (hR : ∀ (i:Nat) (x:Addr × Int × Int) s',ts[i]? = some x->(∀ (j:Nat) (y:Addr × Int × Int),ts[j]? = some y->cZ y.2 x.2=false)->ad X pins σ H s'->R (.ok (.ret (.ref x.1))) s') :
 ∀ (r j i:Nat) (s:Shared) (x:Addr × Int × Int),ts.length - (j+1)=r->j+1<=ts.length->iw X pins σ H it S l (j+1) #[.ref x.1,.ref x.1] s->ts[i]? = some x->i<=j ->
  (∀ j' y,j'<=j->ts[j']? = some y->cZ y.2 x.2=false)->codeAny (model X.prog X.w) X.A (.builtin "max.loop" ⟨[.ref it,.none,.ref S],[(Str.ofString "default",dv)]⟩) R s:=by
 have hname:(toString "max"++toString ".loop" : String) = "max.loop":=by decide
 have W:=Walks.list (prog:=X.prog) (w:=X.w) (A:=X.A.in1) hh it l hli (ts.map λx=>Value.ref x.1).toArray
 have hsz:(ts.map λx=>Value.ref x.1).toArray.size=ts.length:=by rw[List.size_toArray,List.length_map]
 intro r
 induction r with
 | zero =>
  intro j i s x hr hj m hx hij hbest
  have hin:j+1=ts.length:=by omega
  obtain⟨I,⟨c,eS⟩,ki⟩:=m
  refine codeAny_builtin PySem.F.entry_max_loop ?_
  rw[Around.under_plainId PySem.F.plain_max_loop _]
  show wpAny _ X.A.in1 (seqItems? (.ref S) >>= _) _ _ _
  refine wpAny_bind (wpAny_seqItems eS rfl ?_)
  show wpAny _ X.A.in1 (tryCatch (pyNext (.ref it)) _ >>= _) _ _ _
  refine wpAny_bind (wpAny_tryCatch (W.done _ _ _ ⟨by rw[hsz,<- hin]; exact ki,jC I hl⟩ λh' tk' hk'=>?_))
  have I1:ad X pins σ H { s with heap:=h',toks:=tk' }:=oI.turned I λb u hb e=>hk' b u (by simpa using hb) e
  have eS1:h'.get? S=some (seqObj "list" #[.ref x.1,.ref x.1] c):=hk' S _ (by simpa using hSI) eS
  show wpAny _ X.A.in1 (updateSeq S (λ_=>#[]) >>= _) _ _ _
  refine wpAny_bind ?_
  refine wpAny_updateSeq eS1 rfl (wpAny_bind (wpAny_letGo (wpAny_pure ?_)))
  have s1:=Heap.SameBut.update h' S (Obj.mapSeq λ_=>(#[]:Array Value))
  refine hR i x _ hx (λj' y hy=>hbest j' y ?_ hy) (oS.turned I1 λb u hb e=>(s1.2 b hb).trans e)
  have:=(List.getElem?_eq_some_iff.mp hy).1
  omega
 | succ r ih =>
  intro j i s x hr hj m hx hij hbest
  have hlt:j+1 < ts.length:=by omega
  obtain⟨I,⟨c,eS⟩,ki⟩:=m
  obtain⟨y,hy⟩ : ∃ y,ts[j+1]? = some y:=⟨_,List.getElem?_eq_getElem hlt⟩
  refine codeAny_builtin PySem.F.entry_max_loop ?_
  rw[Around.under_plainId PySem.F.plain_max_loop _]
  show wpAny _ X.A.in1 (seqItems? (.ref S) >>= _) _ _ _
  refine wpAny_bind (wpAny_seqItems eS rfl ?_)
  show wpAny _ X.A.in1 (tryCatch (pyNext (.ref it)) _ >>= _) _ _ _
  refine wpAny_bind (wpAny_tryCatch (W.item (j+1) _ _ _ (by rw[hsz]; exact hlt) ⟨ki,jC I hl⟩ λv h' tk' hP hst' hk'=>?_))
  have hv:v=Value.ref y.1:=by
   have z:(ts.map λx=>Value.ref x.1).toArray[j+1]? = some v:=hP
   rw[List.getElem?_toArray,List.getElem?_map,hy]at z
   exact (Option.some.inj z).symm
  subst hv
  have m1:iw X pins σ H it S l (j+1+1) #[.ref x.1,.ref x.1] { s with heap:=h',toks:=tk' }:=⟨oI.turned I λb u hb e=>hk' b u (by simpa using hb) e,⟨c,hk' S _ (by simpa using hSI) eS⟩,hst'.1⟩
  show wpAny _ X.A.in1 (tryCatch (holding [.ref y.1,.ref y.1] (richCompare .Gt (.ref y.1) (.ref x.1) >>= _)) _ >>= _) _ _ _
  refine wpAny_bind (wpAny_tryCatch (wpAny_holding (wpAny_bind (vi (a:=y.2) (b:=x.2) (by show X.A.units+1+8 < cLine; omega) (qG m1.inv (ht y (List.mem_of_getElem? hy))) (qG m1.inv (ht x (List.mem_of_getElem? hx))) ?_))))
  refine wpAny_bind (wpAny_holding (wpAny_truthy_bool ?_))
  refine wpAny_bind (wpAny_letGo (wpAny_pure ?_))
  have irr:cZ y.2 y.2=false:=by unfold cZ; rw[if_pos rfl]; exact decide_eq_false (by omega)
  cases hb':cZ y.2 x.2 with
  | true =>
   simp only [if_true]
   obtain⟨c2,eS2⟩:=m1.seq
   refine wpAny_bind ?_
   refine wpAny_updateSeq eS2 rfl (wpAny_bind (wpAny_letGo ?_))
   rw[hname]
   refine wpAny_pure ⟨plainId_quiet PySem.F.plain_max_loop _,ih (j+1) (j+1) _ y (by omega) hlt (m1.write _ oS hSI) hy (Nat.le_refl _) λj' z hj' hz=>?_⟩
   by_cases e:j'=j+1
   ·subst e
    rw[hy]at hz; cases hz
    exact irr
   ·have h1:=hbest j' z (by omega) hz
    unfold cZ at h1 hb' ⊢
    split at h1 <;> split at hb' <;> split <;> simp only [decide_eq_true_eq,decide_eq_false_iff_not]at * <;> omega
  | false =>
   simp only [Bool.false_eq_true,if_false]
   refine wpAny_bind (wpAny_letGo ?_)
   rw[hname]
   refine wpAny_pure ⟨plainId_quiet PySem.F.plain_max_loop _,ih (j+1) i _ x (by omega) hlt m1 hx (by omega) λj' z hj' hz=>?_⟩
   by_cases e:j'=j+1
   ·subst e
    rw[hy]at hz; cases hz
    exact hb'
   ·exact hbest j' z (by omega) hz
theorem zC (a v:Value):argsOk "max" ⟨[a],[(Str.ofString "default",v)]⟩:=by unfold argsOk; kernel_rfl
theorem zD{Q:Value->Shared->Prop}{E:Value->Shared->Prop}(I:ad X pins σ H s)(hl:H l=some (.lst (ts.map λx=>V.ref x.1)))(ht : ∀ x∈ts,H x.1=some (.tup [.int x.2.1,.int x.2.2]))(hh:X.A.handled=none)(hu:X.A.units+16 < cLine)
 (h0:ts=[]->∀ s',ad X pins σ H s'->Q dv s')
 (hQ : ∀ (i:Nat) (x:Addr × Int × Int) s',ts[i]? = some x->(∀ (j:Nat) (y:Addr × Int × Int),ts[j]? = some y->cZ y.2 x.2=false)->ad X pins σ H s'->Q (.ref x.1) s') :
 wpAny (model X.prog X.w) X.A (call (.builtin "max") [.ref l] [(Str.ofString "default",dv)]) Q E s:=by
 have hname:(toString "max"++toString ".loop" : String) = "max.loop":=by decide
 have hsz:(ts.map λx=>Value.ref x.1).toArray.size=ts.length:=by rw[List.size_toArray,List.length_map]
 have hls:=jC I hl
 obtain⟨ol,hol,_⟩:=id hls
 have hll:l < s.heap.objs.size:=Heap.lt_size hol
 refine kmk_tree PySem.F.kind_max PySem.F.plain_max PySem.F.entry_max (zC _ _) ?_
 show wpAny _ X.A.in1 (Builtin.Builtins.bindParams "max" ["key", "default"] 0 ⟨[],[(Str.ofString "default",dv)]⟩ >>= _) _ _ s
 refine wpAny_bind (wpAny_of_eq (show Builtin.Builtins.bindParams "max" ["key", "default"] 0 ⟨[],[(Str.ofString "default",dv)]⟩=pure [none,some dv] from rfl) ?_)
 refine wpAny_bind (wpAny_pure ?_)
 refine wpAny_bind (wpAny_pyIter_list hls ?_)
 refine wpAny_bind (wpAny_newList ?_ (Nat.zero_le _))
 rw[hname]
 generalize hIo:({ cls:=.type "list_iterator",data:=.fields #[.ref l,.int 0 0] }:Obj)=oi
 have hfr:oi.isFreed=false:=by rw[<- hIo]; rfl
 have hS:(s.heap.push oi).objs.size=s.heap.objs.size+1:=size_push' ..
 have oI:cz X pins H s.heap.objs.size:=.fresh I (Nat.le_refl _)
 have oS:cz X pins H (s.heap.push oi).objs.size:=.fresh I (by rw[hS]; exact Nat.le_succ _)
 have hSI:(s.heap.push oi).objs.size≠s.heap.objs.size:=by rw[hS]; exact Nat.ne_of_gt (Nat.lt_succ_self _)
 have hli:l≠s.heap.objs.size:=Nat.ne_of_lt hll
 have kp : ∀ b u,s.heap.get? b=some u->((s.heap.push oi).push (seqObj "list" #[] 0)).get? b=some u:=λb u e=>Heap.get?_push_of_some _ (Heap.get?_push_of_some _ e)
 have gI:((s.heap.push oi).push (seqObj "list" #[] 0)).get? s.heap.objs.size=some oi:=Heap.get?_push_of_some _ (Heap.get?_push_size _ hfr)
 have gS:((s.heap.push oi).push (seqObj "list" #[] 0)).get? (s.heap.push oi).objs.size=some (seqObj "list" #[] 0):=Heap.get?_push_size _ rfl
 have I0:ad X pins σ H { s with heap:=(s.heap.push oi).push (seqObj "list" #[] 0) }:=I.kept (t':=s.toks) kp
 have ki0:((s.heap.push oi).push (seqObj "list" #[] 0)).IsListIter s.heap.objs.size l 0:=⟨oi,gI,by rw[<- hIo],by rw[<- hIo]; rfl⟩
 have W:=Walks.list (prog:=X.prog) (w:=X.w) (A:=X.A.in1) hh s.heap.objs.size l hli (ts.map λx=>Value.ref x.1).toArray
 refine wpAny_pure ⟨plainId_quiet PySem.F.plain_max_loop _,?_⟩
 refine codeAny_builtin PySem.F.entry_max_loop ?_
 rw[Around.under_plainId PySem.F.plain_max_loop _]
 show wpAny _ X.A.in1 (seqItems? (.ref _) >>= _) _ _ _
 refine wpAny_bind (wpAny_seqItems gS rfl ?_)
 show wpAny _ X.A.in1 (tryCatch (pyNext (.ref s.heap.objs.size)) _ >>= _) _ _ _
 have hL0:=jC (s:={ s with heap:=(s.heap.push oi).push (seqObj "list" #[] 0) }) I0 hl
 by_cases hne:ts=[]
 ·refine wpAny_bind (wpAny_tryCatch (W.done _ _ _ ⟨by rw[hsz,hne]; exact ki0,hL0⟩ λh' tk' hk'=>?_))
  show wpAny _ X.A.in1 (rule _ >>= _) _ _ _
  refine wpAny_bind (wpAny_rule (wpAny_pure ?_))
  exact h0 hne _ (oI.turned (s:={ s with heap:=(s.heap.push oi).push (seqObj "list" #[] 0) }) I0 λb u hb e=>hk' b u (by simpa using hb) e)
 ·have hpos:0 < ts.length:=List.length_pos_iff.mpr hne
  obtain⟨y,hy⟩ : ∃ y,ts[0]? = some y:=⟨_,List.getElem?_eq_getElem hpos⟩
  refine wpAny_bind (wpAny_tryCatch (W.item 0 _ _ _ (by rw[hsz]; exact hpos) ⟨ki0,hL0⟩ λv h' tk' hP hst' hk'=>?_))
  have hv:v=Value.ref y.1:=by
   have z:(ts.map λx=>Value.ref x.1).toArray[0]? = some v:=hP
   rw[List.getElem?_toArray,List.getElem?_map,hy]at z
   exact (Option.some.inj z).symm
  subst hv
  have m1:iw X pins σ H s.heap.objs.size (s.heap.push oi).objs.size l 1 #[] { s with heap:=h',toks:=tk' }:=⟨oI.turned (s:={ s with heap:=(s.heap.push oi).push (seqObj "list" #[] 0) }) I0 λb u hb e=>hk' b u (by simpa using hb) e,⟨0,hk' _ _ (by simpa using hSI) gS⟩,hst'.1⟩
  obtain⟨c2,eS2⟩:=m1.seq
  show wpAny _ X.A.in1 (updateSeq (s.heap.push oi).objs.size (λ_=>#[.ref y.1,.ref y.1]) >>= _) _ _ _
  refine wpAny_bind ?_
  refine wpAny_updateSeq eS2 rfl ?_
  rw[hname]
  refine wpAny_pure ⟨plainId_quiet PySem.F.plain_max_loop _,zB hl ht hh hu oS oI hSI hli hQ _ 0 0 _ y rfl hpos (m1.write _ oS hSI) hy (Nat.le_refl _) λj' z hj' hz=>?_⟩
  have e:j'=0:=by omega
  subst e
  rw[hy]at hz; cases hz
  unfold cZ; rw[if_pos rfl]; exact decide_eq_false (by omega)
end
def vx(te td:TE):TE:=λσ H Q=>te σ H λx H1=>td σ H1 λy H2=>∃ l ts,x=.ref l/\H2 l=some (.lst (ts.map λx:Addr × Int × Int=>V.ref x.1))/\(∀ x∈ts,H2 x.1=some (.tup [.int x.2.1,.int x.2.2])) /\
 (ts=[]->Q y H2)/\∀ x∈ts,(∀ z∈ts,cZ z.2 x.2=false)->Q (.ref x.1) H2
theorem xr {X:Cx} {e ed:Expr} {te td:TE} {p pos kp:Pos} {k:Nat} (hr:aQ k X.A) (he:QE X e te) (hd:QE X ed td) (hm:X.mg "max" = none) (hg:Gl X "max") (hs:starEach [e] X.env=(false,eval e X.env) :: starEach [] X.env:=by rfl) :
 QE X (.Call (.Name "max" p) [e] [⟨some "default",ed,kp⟩] pos) (vx te td):=⟨λpins s σ H Q I h=>by
 have e1:backTo pos (starEach [e] X.env)=[(false,eval e X.env)]:=by
  unfold backTo; rw[hs]; rfl
 have e2:backTo pos (starEach ([]:List Expr) X.env)=[]:=rfl
 refine wpAny_Call_Name_kw (fj I hg hm (show bootBuiltins "max" = some (.builtin "max") by decide +kernel) ?_ (by decide) (by decide))
 refine callWith_kw (e:=e) (rest:=[]) (kws:=[⟨some "default",ed,kp⟩]) ?_ (by rw[e1,e2]) (by rw[e1]; rfl) rfl rfl
 rw[e1]
 refine Calls.spliced_cons (aj (he.h pins s σ H _ I h) λu s1 ⟨x,H1,I1,r1,q1⟩=>Calls.spliced_nil ?_)
 refine kws_cons (aj (hd.h pins s1 σ H1 _ I1 q1) λdv s2 ⟨y,H2,I2,r2,l,ts,ex,hl,ht,h0,hq⟩=>kws_nil ?_)
 subst ex
 obtain rfl:u=Value.ref l:=r1
 show wpAny _ _ (call (.builtin "max") [.ref l] [(Str.ofString "default",dv)]) _ _ _
 have:=hr.un
 exact zD I2 hl ht hr.hd (by omega) (λhn s' I'=>⟨y,H2,I',r2,h0 hn⟩) λi x s' hx hb I'=>⟨.ref x.1,H2,I',rfl,hq x (List.mem_of_getElem? hx) λz hz=>by
  obtain⟨j,hj⟩:=List.getElem?_of_mem hz
  exact hb j z hj⟩⟩
structure kr (K:W.Frag) (x qual:Str) (st:Stmt) (f:Addr) (fd:FuncData) (c Pt:Addr):Prop where
 ex : ∃ (oc:Value) (od:Option Addr) (kV doc pm:Value) (an:Option Addr) (ct:Value) (osl:Array (Option Value)),
  fd=W.fnOf x qual (aP st) (aJ st) (ak st) .none kV doc pm an (.ref c) ct/\K.lookup f=some ⟨oc,od,.func fd,osl⟩/\W.codeIn K (.ref c) qual=true
 hd:W.codeHdIn K c Pt=true
theorem Bz{K:W.Frag}{x qual:Str}{st:Stmt}{f c Pt:Addr}{oc:Value}{od an:Option Addr}{osl:Array (Option Value)}{kV doc pm ct:Value}(l:K.lookup f=some ⟨oc,od,.func (W.fnOf x qual (aP st) (aJ st) (ak st) .none kV doc pm an (.ref c) ct),osl⟩)
 (h:W.codeIn K (.ref c) qual=true) (k:W.codeHdIn K c Pt=true):kr K x qual st f (W.fnOf x qual (aP st) (aJ st) (ak st) .none kV doc pm an (.ref c) ct) c Pt:=⟨⟨oc,od,kV,doc,pm,an,ct,osl,rfl,l,h⟩,k⟩
theorem kr.okQ{P:Program}{w:World}{K:W.Frag}{mg:Str->Option Value}{base:Heap}{x qual:Str}{st:Stmt}{f c Pt:Addr}{fd:FuncData}{N ps:List Str}{k:Nat}{sp:Sp}(F:kr K x qual st f fd c Pt)(S:aT N ps (ak st))(len : ∀ vs H Q E,sp vs H Q E->vs.length=ps.length)
 (hbody : ∀ (A:Around) (outer:List Env) (s:Shared) (H:Hp) (vs:List V) (Q:VK) (E:XK),aQ k (A.deeper (envOfC qual (ak st) s.heap.objs.size f (.ref c)))->sp vs H Q E ->
   ∃ t,ej (ft ca P w K mg base N qual (ak st) f (.ref c) A outer s H E).nox (aJ st) t/\t { nx:=λ_ H'=>Q .non H',rt:=Q } (dP N vs) H):bw P w K mg base ca (k+1) f fd ps sp:=by
 obtain⟨oc,od,kV,doc,pm,an,ct,osl,rfl,lk,hcd⟩:=F.ex
 refine sx lk hcd S len λA outer s H vs Q E hr hsp=>?_
 obtain⟨t,h,q⟩:=hbody A outer s H vs Q E hr hsp
 exact⟨t,h.h.nox,q⟩
def strOf? : Value->Option Str
 | .str x _=>some x
 | _=>none
def refOf? : Value->Option Addr
 | .ref a=>some a
 | _=>none
def sR:List DictEntry->Option (List (Int × Str × Addr))
 | []=>some []
 | e :: r=>(strOf? e.key).bind λx=>(refOf? e.val).bind λa=>(sR r).map λl=>(e.hash,x,a) :: l
structure DK (K:W.Frag) (w:World) (a:Addr) (m:List (Int × Str × Addr)):Prop where
 ex : ∃ es ep,K.lookup a=some ⟨.type "dict",none,.dict es ep,#[]⟩/\sR es.toList=some m
 hs : ∀ p∈m,p.1=hashStr w p.2.1
 nd:(m.map (·.2.1)).Nodup
 ns:(a == sysModules)=false
structure DI (P:Program) (w:World) (K:W.Frag) (mg:Str->Option Value) (base:Heap) (x:Str) (k:Nat) (f:Addr) (fd:FuncData) (ps:List Str) (dvs:List V) (sp:Sp):Prop where
 g:mg x=some (.ref f)
 kp:W.keepIn K (.ref f)=true
 b : ∃ ds,aA K fd ps ds/\ar dvs ds
 ok:bw P w K mg base ca k f fd ps sp
def sk(K:W.Frag)(neg:Bool):R2:=λx y H Q=>∃ xs d,aI K H (.list xs) y/\aI K H d x/\PyData.canLayAll0 xs=true/\d.canLay0=true/\min (PyData.depthAll xs) d.depth<=60/\Q (.bl (if neg then !xs.any (λy=>PyData.eqv y d) else xs.any (λy=>PyData.eqv y d))) H
section
variable {X:Cx}{K:W.Frag}
theorem lV(h:X.K=K)(hu:X.A.units+64 < cLine):aG X (compareOp .NotIn) (sk K true):=by
 subst h
 intro pins s σ H x y v u Q I rx ry q
 obtain⟨xs,d,h1,h2,h3,h4,h5,q⟩:=q
 obtain⟨as,r1⟩:=h1 X pins σ s _ rfl I ry
 obtain⟨bs,r2⟩:=h2 X pins σ s _ rfl I rx
 exact SeqAt.notIn_list_reads r1 r2 h3 h4 (by omega) ⟨.bl _,H,I,rfl,q⟩
end
end L2
namespace My
open PySem L2
def bb(i:Nat):Stmt:=PySem.Challenge.pw_bytetongue_k84_slack_witnessed.main.body.getD i (.Pass ⟨0,0,0,0⟩)
abbrev gO:Stmt:=bb 2
abbrev hU:Stmt:=bb 3
abbrev hJ:Stmt:=bb 4
abbrev hV:Stmt:=bb 5
abbrev ff:Stmt:=bb 6
abbrev gP:Stmt:=bb 7
abbrev fN:Stmt:=bb 8
abbrev gN:Stmt:=bb 9
abbrev eE:Stmt:=bb 10
abbrev hG:Stmt:=bb 15
abbrev gU:Stmt:=bb 24
abbrev gY:Stmt:=bb 25
abbrev gW:Stmt:=bb 26
abbrev gQ:Stmt:=bb 27
abbrev gT:Stmt:=bb 28
abbrev gR:Stmt:=bb 29
abbrev fO:Stmt:=bb 30
abbrev gX:Stmt:=bb 36
abbrev gZ:Stmt:=bb 37
abbrev hE:Stmt:=bb 38
abbrev hW:Stmt:=lO (bb 39) 0
abbrev hX:Stmt:=lO (bb 39) 1
abbrev fP:Stmt:=lO (bb 39) 2
abbrev gL:Stmt:=bb 42
abbrev eZ:Stmt:=bb 43
abbrev gK:Stmt:=bb 44
abbrev gM:Stmt:=bb 45
abbrev gH:Stmt:=bb 46
abbrev fM:Stmt:=bb 47
abbrev fb:Stmt:=bb 48
abbrev gJ:Stmt:=bb 49
abbrev fe:Stmt:=bb 50
theorem gA:aT ["tongue", "steps", "sign", "row", "size", "begun"] ["tongue"] (ak gO):=by constructor<;>first|rfl|decide +kernel
theorem jk:aT ["steps", "one", "other", "found", "byte", "goal"] ["steps", "one", "other"] (ak hU):=by constructor<;>first|rfl|decide +kernel
theorem jj:aT ["steps", "apart", "one", "other"] ["steps"] (ak hJ):=by constructor<;>first|rfl|decide +kernel
theorem gG:aT ["apart", "found", "pair", "behind", "goal"] ["apart"] (ak hV):=by constructor<;>first|rfl|decide +kernel
theorem eC:aT ["apart", "far", "ahead", "unknown", "pair", "behind", "known", "earlier"] ["apart"] (ak ff):=by constructor<;>first|rfl|decide +kernel
theorem ji:aT ["apart", "far", "pair", "row", "byte"] ["apart", "far", "pair"] (ak gP):=by constructor<;>first|rfl|decide +kernel
theorem iI:aT ["apart", "far", "pair", "row", "met", "onward"] ["apart", "far", "pair"] (ak fN):=by constructor<;>first|rfl|decide +kernel
theorem wr:aT ["pair", "row"] ["pair", "row"] (ak gN):=by constructor<;>first|rfl|decide +kernel
theorem gE:aT ["tongue", "apart", "far", "endless", "trip", "pair"] ["tongue"] (ak eE):=by constructor<;>first|rfl|decide +kernel
theorem wD:aT ["one", "other"] ["one", "other"] (ak hG):=by constructor<;>first|rfl|decide +kernel
theorem wy:aT ["thing"] ["thing"] (ak gU):=by constructor<;>first|rfl|decide +kernel
theorem wB:aT ["thing"] ["thing"] (ak gY):=by constructor<;>first|rfl|decide +kernel
theorem wz:aT ["number"] ["number"] (ak gW):=by constructor<;>first|rfl|decide +kernel
theorem wu:aT ["number"] ["number"] (ak gQ):=by constructor<;>first|rfl|decide +kernel
theorem ww:aT ["thing"] ["thing"] (ak gT):=by constructor<;>first|rfl|decide +kernel
theorem wv:aT ["thing"] ["thing"] (ak gR):=by constructor<;>first|rfl|decide +kernel
theorem wx:aT ["thing"] ["thing"] (ak fO):=by constructor<;>first|rfl|decide +kernel
theorem wA:aT ["thing"] ["thing"] (ak gX):=by constructor<;>first|rfl|decide +kernel
theorem wC:aT ["one", "other"] ["one", "other"] (ak gZ):=by constructor<;>first|rfl|decide +kernel
theorem iJ:aT ["rows", "other", "entry", "one", "earlier"] ["rows"] (ak hE):=by constructor<;>first|rfl|decide +kernel
theorem pT:aT ["self", "rows", "entry"] ["self", "rows"] (ak hW):=by constructor<;>first|rfl|decide +kernel
theorem pU:aT ["self", "sign", "row", "size"] ["self", "sign", "row"] (ak hX):=by constructor<;>first|rfl|decide +kernel
theorem wE:aT ["self"] ["self"] (ak fP):=by constructor<;>first|rfl|decide +kernel
theorem wp:aT ["_law_found"] ["_law_found"] (ak gL):=by constructor<;>first|rfl|decide +kernel
theorem fL:aT ["_law_cells", "_law_found", "_law_cell", "_law_number", "_law_row", "_law_k"] ["_law_cells"] (ak eZ):=by constructor<;>first|rfl|decide +kernel
theorem fK:aT ["_law_pages", "_law_found", "_law_page", "_law_told_here", "_law_row", "_law_goes", "_law_k"] ["_law_pages"] (ak gK):=by constructor<;>first|rfl|decide +kernel
theorem jh:aT ["_law_pages", "_law_spot", "_law_byte", "_law_begun", "_law_row", "_law_goes"] ["_law_pages", "_law_spot", "_law_byte"] (ak gM):=by constructor<;>first|rfl|decide +kernel
theorem kQ:aT ["_law_pages", "_law_spot", "_law_row", "_law_found", "_law_byte"] ["_law_pages", "_law_spot", "_law_row"] (ak gH):=by constructor<;>first|rfl|decide +kernel
theorem wq:aT ["_law_found"] ["_law_found"] (ak fM):=by constructor<;>first|rfl|decide +kernel
theorem gz:aT ["_law_pages", "_law_found", "_law_spots_here", "_law_one", "_law_other", "_law_row", "_law_ours", "_law_theirs"] ["_law_pages", "_law_found", "_law_spots_here"] (ak fb):=by constructor<;>first|rfl|decide +kernel
theorem pR:aT ["_law_pages", "_law_found", "_law_spots_here"] ["_law_pages", "_law_found"] (ak gJ):=by constructor<;>first|rfl|decide +kernel
theorem gF:aT ["_law_script", "_law_rows_here", "_law_pages", "_law_table", "_law_tongue", "_law_found"] ["_law_script"] (ak fe):=by constructor<;>first|rfl|decide +kernel
set_option genInjectivity false in
structure Adr where
 nM:Addr
 mv:FuncData
 oa:Addr
 mN:FuncData
 n6:Addr
 mM:FuncData
 og:Addr
 mO:FuncData
 nX:Addr
 mI:FuncData
 nN:Addr
 mw:FuncData
 nL:Addr
 mr:FuncData
 nK:Addr
 mq:FuncData
 j8:Addr
 jP:FuncData
 n5:Addr
 mL:FuncData
 nT:Addr
 mE:FuncData
 nW:Addr
 mH:FuncData
 nU:Addr
 mF:FuncData
 nP:Addr
 my:FuncData
 nR:Addr
 mC:FuncData
 nQ:Addr
 mz:FuncData
 nS:Addr
 mD:FuncData
 nV:Addr
 mG:FuncData
 nY:Addr
 mJ:FuncData
 nZ:Addr
 mK:FuncData
 j9:Addr
 jR:FuncData
 oj:Addr
 mQ:FuncData
 oh:Addr
 mP:FuncData
 nG:Addr
 ml:FuncData
 nC:Addr
 mj:FuncData
 nB:Addr
 mi:FuncData
 nI:Addr
 mn:FuncData
 nz:Addr
 mf:FuncData
 nH:Addr
 mm:FuncData
 nJ:Addr
 mo:FuncData
 nA:Addr
 mh:FuncData
 nO:Addr
 jQ:FuncData
 bG:Addr
 uV:Tok
 uU:Tok
 uT:Tok
 uS:Tok
 uR:Tok
 uQ:Tok
 uP:Tok
 uO:Tok
 uN:Tok
structure Txt (K:PySem.W.Frag) (mg:Str->Option Value) (t:Adr):Prop where
 uq:aS K "steps_of" "steps_of" gO t.nM t.mv
 CN:aA K t.mv ["tongue"] []
 A7:mg "steps_of" = some (.ref t.nM)
 uI:aS K "apart_behind" "apart_behind" hU t.oa t.mN
 C6:aA K t.mN ["steps", "one", "other"] []
 Bt:mg "apart_behind" = some (.ref t.oa)
 uH:aS K "apart_of" "apart_of" hJ t.n6 t.mM
 C5:aA K t.mM ["steps"] []
 Bs:mg "apart_of" = some (.ref t.n6)
 uJ:aS K "ahead_of" "ahead_of" hV t.og t.mO
 C7:aA K t.mO ["apart"] []
 Bu:mg "ahead_of" = some (.ref t.og)
 uD:aS K "farthest" "farthest" ff t.nX t.mI
 C1:aA K t.mI ["apart"] []
 Bn:mg "farthest" = some (.ref t.nX)
 ur:aS K "row_apart" "row_apart" gP t.nN t.mw
 CP:aA K t.mw ["apart", "far", "pair"] []
 Bb:mg "row_apart" = some (.ref t.nN)
 uo:aS K "trip_from" "trip_from" fN t.nL t.mr
 CM:aA K t.mr ["apart", "far", "pair"] []
 A6:mg "trip_from" = some (.ref t.nL)
 ul:aS K "witness" "witness" gN t.nK t.mq
 CL:aA K t.mq ["pair", "row"] []
 A5:mg "witness" = some (.ref t.nK)
 Do:aS K "slack" "slack" eE t.j8 t.jP
 t4:kr K "slack" "slack" eE t.j8 t.jP 77 75
 CO:aA K t.jP ["tongue"] []
 A8:mg "slack" = some (.ref t.j8)
 uG:aS K "begins" "begins" hG t.n5 t.mL
 C4:aA K t.mL ["one", "other"] []
 Br:mg "begins" = some (.ref t.n5)
 uz:aS K "is_number" "is_number" gU t.nT t.mE
 CW:aA K t.mE ["thing"] []
 Bi:mg "is_number" = some (.ref t.nT)
 uC:aS K "is_byte" "is_byte" gY t.nW t.mH
 C0:aA K t.mH ["thing"] []
 Bl:mg "is_byte" = some (.ref t.nW)
 uA:aS K "is_head" "is_head" gW t.nU t.mF
 CY:aA K t.mF ["number"] []
 Bj:mg "is_head" = some (.ref t.nU)
 ut:aS K "is_tail" "is_tail" gQ t.nP t.my
 CS:aA K t.my ["number"] []
 Be:mg "is_tail" = some (.ref t.nP)
 uv:aS K "is_seen_byte" "is_seen_byte" gT t.nR t.mC
 CU:aA K t.mC ["thing"] []
 Bg:mg "is_seen_byte" = some (.ref t.nR)
 uu:aS K "is_sign" "is_sign" gR t.nQ t.mz
 CT:aA K t.mz ["thing"] []
 Bf:mg "is_sign" = some (.ref t.nQ)
 uw:aS K "is_row" "is_row" fO t.nS t.mD
 CV:aA K t.mD ["thing"] []
 Bh:mg "is_row" = some (.ref t.nS)
 uB:aS K "is_entry" "is_entry" gX t.nV t.mG
 CZ:aA K t.mG ["thing"] []
 Bk:mg "is_entry" = some (.ref t.nV)
 uE:aS K "collide" "collide" gZ t.nY t.mJ
 C2:aA K t.mJ ["one", "other"] []
 Bp:mg "collide" = some (.ref t.nY)
 uF:aS K "check_table" "check_table" hE t.nZ t.mK
 C3:aA K t.mK ["rows"] []
 Bq:mg "check_table" = some (.ref t.nZ)
 Dq:aS K "__init__" "TableTongue.__init__" hW t.j9 t.jR
 C9:aA K t.jR ["self", "rows"] []
 Dr:aS K "enter" "TableTongue.enter" hX t.oj t.mQ
 Da:aA K t.mQ ["self", "sign", "row"] []
 Dp:aS K "rows" "TableTongue.rows" fP t.oh t.mP
 C8:aA K t.mP ["self"] []
 ug:aS K "_law_plain" "_law_plain" gL t.nG t.ml
 CH:aA K t.ml ["_law_found"] []
 A1:mg "_law_plain" = some (.ref t.nG)
 uf:aS K "_law_rows" "_law_rows" eZ t.nC t.mj
 CG:aA K t.mj ["_law_cells"] []
 AZ:mg "_law_rows" = some (.ref t.nC)
 ue:aS K "_law_spots" "_law_spots" gK t.nB t.mi
 CF:aA K t.mi ["_law_pages"] []
 AY:mg "_law_spots" = some (.ref t.nB)
 ui:aS K "_law_next" "_law_next" gM t.nI t.mn
 CJ:aA K t.mn ["_law_pages", "_law_spot", "_law_byte"] []
 A3:mg "_law_next" = some (.ref t.nI)
 uc:aS K "_law_walk" "_law_walk" gH t.nz t.mf
 CC:aA K t.mf ["_law_pages", "_law_spot", "_law_row"] []
 AW:mg "_law_walk" = some (.ref t.nz)
 uh:aS K "_law_numbers" "_law_numbers" fM t.nH t.mm
 CI:aA K t.mm ["_law_found"] []
 A2:mg "_law_numbers" = some (.ref t.nH)
 uj:aS K "_law_held_apart" "_law_held_apart" fb t.nJ t.mo
 CK:aA K t.mo ["_law_pages", "_law_found", "_law_spots_here"] []
 A4:mg "_law_held_apart" = some (.ref t.nJ)
 ud:aS K "_law_told" "_law_told" gJ t.nA t.mh
 CD:aA K t.mh ["_law_pages", "_law_found"] []
 AX:mg "_law_told" = some (.ref t.nA)
 oE:aS K "law" "law" fe t.nO t.jQ
 CQ:aA K t.jQ ["_law_script"] []
 r0:mg "law" = some (.ref t.nO)
 AV:mg "TableTongue" = some (.ref t.bG)
 eQ:cO K t.bG
 zk:Mk K t.bG t.j9
 zi:fD K t.bG "enter" t.oj
 zh:fD K t.bG "rows" t.oh
 q9:eT K t.bG "rest_by_row"
 lv:eT K t.bG "row_by_sign"
 qZ:eT K t.bG "sign_by_row"
 Dt : ∀ H a dx fs,H a=some (.ins t.bG dx fs)->ce K H (.ref a) (.ref t.bG)
 Cz:mg "FIRST_HEAD" = some (.int 55296 t.uV)
 Cy:mg "FIRST_SEEN" = some (.int 61184 t.uU)
 tH:mg "FIRST_TAIL" = some (.int 56320 t.uT)
 Cw:mg "LAST_BYTE" = some (.int 255 t.uS)
 Cv:mg "LAST_SEEN" = some (.int 61439 t.uR)
 Cu:mg "LAST_SIGN" = some (.int 1114111 t.uQ)
 Ct:mg "LAST_TAIL" = some (.int 57343 t.uP)
 Cs:mg "MOST_BYTES" = some (.int 6 t.uO)
 Cr:mg "MOST_TUPLES" = some (.int 64 t.uN)
 n_all:mg "all" = none
 n_any:mg "any" = none
 n_bool:mg "bool" = none
 n_enumerate:mg "enumerate" = none
 n_int:mg "int" = none
 n_isinstance:mg "isinstance" = none
 n_len:mg "len" = none
 n_list:mg "list" = none
 n_max:mg "max" = none
 n_range:mg "range" = none
 n_sum:mg "sum" = none
 n_tuple:mg "tuple" = none
 n_zip:mg "zip" = none
end My
namespace My
open PySem L2
def fV:V->Bool
 | .int _=>true
 | _=>false
def bU(v:V)(lo hi:Int):Bool:=match v with
 | .int i=>decide (lo<=i) && decide (i<=hi)
 | _=>false
def eO(v:V):Bool:=bU v 0 1114111 && !(bU v 55296 57343) && !(bU v 61184 61439)
theorem lJ{v:V}(h:fV v=true) : ∃ i,v=.int i:=by
 cases v <;> first | exact⟨_,rfl⟩ | cases h
def iH(f:V->Bool)(K:PySem.W.Frag):Sp:=λvs H Q _=>∃ v,vs=[v]/\c8 K H v/\Q (.bl (f v)) H
def kO(f:Int->Bool):Sp:=λvs H Q _=>∃ i,vs=[.int i]/\Q (.bl (f i)) H
theorem jF{f:V->Bool}{K:PySem.W.Frag}{x:Str} : ∀ vs H Q E,iH f K vs H Q E->vs.length=[x].length:=λvs H Q E h=>by
 obtain⟨v,rfl,_⟩:=h
 rfl
theorem rA{f:Int->Bool}{x:Str} : ∀ vs H Q E,kO f vs H Q E->vs.length=[x].length:=λvs H Q E h=>by
 obtain⟨v,rfl,_⟩:=h
 rfl
def Sg(n:Int):Prop:=0<=n/\n<=1114111/\¬ (55296<=n/\n<=57343)/\¬ (61184<=n/\n<=61439)
theorem wg(n:Int):eO (.int n)=true ↔ Sg n:=by
 unfold eO bU Sg
 simp
 omega
def aw{α β:Type}(R:α->β->Prop)(xs:List α)(ys:List β):Prop:=xs.length=ys.length/\∀ (i:Nat) x y,xs[i]? = some x->ys[i]? = some y->R x y
theorem aw.nil{α β:Type}{R:α->β->Prop}:aw R [] []:=⟨rfl,λi x y h=>by simp at h⟩
theorem aw.cons{α β:Type}{R:α->β->Prop}{x:α}{y:β}{xs:List α}{ys:List β}(h:R x y)(t:aw R xs ys):aw R (x :: xs) (y :: ys):=⟨by simp[t.1],λi a b ha hb=>by
 cases i with
 | zero=>simp at ha hb; subst ha hb; exact h
 | succ i=>exact t.2 i a b (by simpa using ha) (by simpa using hb)⟩
theorem aw.head{α β:Type}{R:α->β->Prop}{x:α}{y:β}{xs:List α}{ys:List β}(h:aw R (x :: xs) (y :: ys)):R x y:=h.2 0 x y rfl rfl
theorem aw.tail{α β:Type}{R:α->β->Prop}{x:α}{y:β}{xs:List α}{ys:List β}(h:aw R (x :: xs) (y :: ys)):aw R xs ys:=⟨by have:=h.1; simpa using this,λi a b ha hb=>h.2 (i+1) a b (by simpa using ha) (by simpa using hb)⟩
theorem aw.imp{α β:Type}{R S:α->β->Prop}{xs:List α}{ys:List β}(h:aw R xs ys)(k : ∀ x y,R x y->S x y):aw S xs ys:=⟨h.1,λi x y a b=>k x y (h.2 i x y a b)⟩
theorem aw.app{α β:Type}{R:α->β->Prop}{xs us:List α}{ys vs:List β}(h:aw R xs ys)(k:aw R us vs):aw R (xs++us) (ys++vs):=by
 refine⟨by simp[h.1,k.1],λi x y a b=>?_⟩
 by_cases hi:i < xs.length
 ·rw[List.getElem?_append_left hi]at a
  rw[List.getElem?_append_left (by rw[<- h.1]; exact hi)]at b
  exact h.2 i x y a b
 ·rw[List.getElem?_append_right (by omega)]at a
  rw[List.getElem?_append_right (by rw[<- h.1]; omega),<- h.1]at b
  exact k.2 _ x y a b
theorem aw.right{α β:Type}{R:α->β->Prop}{xs:List α}{ys:List β}(h:aw R xs ys){i:Nat}{x:α}(hx:xs[i]? = some x) : ∃ y,ys[i]? = some y/\R x y:=by
 have hi:=(List.getElem?_eq_some_iff.mp hx).1
 have hy:ys[i]? = some (ys[i]'(by rw[<- h.1]; exact hi)):=by simp
 exact⟨_,hy,h.2 i x _ hx hy⟩
theorem aw.left{α β:Type}{R:α->β->Prop}{xs:List α}{ys:List β}(h:aw R xs ys){i:Nat}{y:β}(hy:ys[i]? = some y) : ∃ x,xs[i]? = some x/\R x y:=by
 have hi:=(List.getElem?_eq_some_iff.mp hy).1
 have hx:xs[i]? = some (xs[i]'(by rw[h.1]; exact hi)):=by simp
 exact⟨_,hx,h.2 i _ y hx hy⟩
def Kp(a:Addr)(H H':Hp):Prop:=∀ c u,c≠a->H c=some u->H' c=some u
theorem Kp.trans{a:Addr}{H H1 H2:Hp}(h:Kp a H H1)(h':Kp a H1 H2):Kp a H H2:=λc u n e=>h' c u n (h c u n e)
theorem Kp.of{a:Addr}{H H1:Hp}(h:af H H1):Kp a H H1:=λc u _ e=>h c u e
theorem Kp.upd{a:Addr}{H:Hp}{o:HO}:Kp a H (upd H a o):=λc u n e=>by rw[ai n]; exact e
end My
namespace My
open PySem L2
section
variable {P:Program}{w:World}{K:PySem.W.Frag}{mg:Str->Option Value}{base:Heap}{t:Adr}
theorem lS (T:Txt K mg t):be P w K mg base "is_number" 1 t.nT t.mE ["thing"] (iH fV K):=by
 refine⟨T.Bi,T.uz.kp,T.CW,T.uz.okQ wy jF λcdv A outer s H vs Q E hr h=>?_⟩
 obtain⟨v,rfl,kd,k⟩:=h
 refine⟨_,(ap (aK (cB (aZ (fw (K:=K) rfl) T.n_isinstance PyProof.Rows.boot_isinstance (ae (aa 0) (ae (fi rfl T.n_int PyProof.Rows.boot_int) ag))) (cU (qr (aZ (fw (K:=K) rfl) T.n_isinstance PyProof.Rows.boot_isinstance (ae (aa 0) (ae (fi rfl T.n_bool PyProof.Rows.boot_bool) ag)))))))),?_⟩
 obtain⟨ty,hty,e0⟩:=kd.isInt
 refine⟨ty,_,hty,e0,?_⟩
 refine aF (λe=>?_) (λe=>?_)
 ·obtain⟨ty,hty,e0⟩:=kd.isBl
  refine⟨ty,_,hty,e0,?_⟩
  exact bh k (by cases v <;> simp_all [fV,lK,rH])
 ·exact bh k (by cases v <;> simp_all [fV,lK])
theorem AA (T:Txt K mg t):be P w K mg base "is_head" 1 t.nU t.mF ["number"] (kO λi=>decide (55296<=i) && decide (i < 56320)):=by
 refine⟨T.Bj,T.uA.kp,T.CY,T.uA.okQ wz rA λcdv A outer s H vs Q E hr h=>?_⟩
 obtain⟨i,rfl,k⟩:=h
 refine⟨_,(ap (aK (iL du lW (dW T.Cz) (aa 0) (dW T.tH)))),?_⟩
 refine aF (λe1=>?_) (λe1=>?_)
 ·exact bh k (by simp at *; omega)
 ·exact bh k (by simp at *; omega)
theorem Aw (T:Txt K mg t):be P w K mg base "is_tail" 1 t.nP t.my ["number"] (kO λi=>decide (56320<=i) && decide (i<=57343)):=by
 refine⟨T.Be,T.ut.kp,T.CS,T.ut.okQ wu rA λcdv A outer s H vs Q E hr h=>?_⟩
 obtain⟨i,rfl,k⟩:=h
 refine⟨_,(ap (aK (iL du du (dW T.tH) (aa 0) (dW T.Ct)))),?_⟩
 refine aF (λe1=>?_) (λe1=>?_)
 ·exact bh k (by simp at *; omega)
 ·exact bh k (by simp at *; omega)
theorem Ay (T:Txt K mg t):be P w K mg base "is_seen_byte" 2 t.nR t.mC ["thing"] (iH (λv=>bU v 61184 61439) K):=by
 refine⟨T.Bg,T.uv.kp,T.CU,T.uv.okQ ww jF λcdv A outer s H vs Q E hr h=>?_⟩
 obtain⟨v,rfl,kd,k⟩:=h
 refine⟨_,(ap (aK (cB (aU (lS T) hr (ae (aa 0) ag)) (cU (iL du du (dW T.Cy) (aa 0) (dW T.Cv)))))),?_⟩
 refine⟨v,rfl,kd,?_⟩
 refine aF (λe=>?_) (λe=>?_)
 ·obtain⟨i,rfl⟩:=lJ e
  refine aF (λe1=>?_) (λe1=>?_)
  ·exact bh k (by simp[bU]at *; omega)
  ·exact bh k (by simp[bU]at *; omega)
 ·exact bh k (by cases v <;> simp_all [fV,bU])
theorem Ax (T:Txt K mg t):be P w K mg base "is_sign" 3 t.nQ t.mz ["thing"] (iH eO K):=by
 refine⟨T.Bf,T.uu.kp,T.CT,T.uu.okQ wv jF λcdv A outer s H vs Q E hr h=>?_⟩
 obtain⟨v,rfl,kd,k⟩:=h
 refine⟨_,(aq (bB (fR (dQ (dD (dE (aU (lS T) hr (ae (aa 0) ag)))) (hZ (dD (xn du du ao (aa 0) (dW T.Cu)))))) (ap (aK eI)) bA)
  (ap (aK (qr (jt (aU (AA T) hr (ae (aa 0) ag)) (jt (aU (Aw T) hr (ae (aa 0) ag)) (cU (aU (Ay T) hr (ae (aa 0) ag))))))))),?_⟩
 refine⟨v,rfl,kd,?_⟩
 refine aF (λe=>?_) (λe=>?_)
 ·refine dF ?_
  exact bh k (by cases v <;> simp_all [fV,bU,eO])
 ·obtain⟨i,rfl⟩:=lJ (v:=v) (by simpa using e)
  refine aF (λe1=>?_) (λe1=>?_)
  ·refine aF (λe2=>?_) (λe2=>?_)
   ·exact bh k (by simp[eO,bU]at *; omega)
   ·refine⟨i,rfl,?_⟩
    refine aF (λe3=>?_) (λe3=>?_)
    ·exact bh k (by simp[eO,bU]at *; omega)
    ·refine⟨i,rfl,?_⟩
     refine aF (λe4=>?_) (λe4=>?_)
     ·exact bh k (by simp[eO,bU]at *; omega)
     ·refine⟨_,rfl,kd,?_⟩
      exact bh k (by rw[Bool.eq_iff_iff]; simp[eO,bU]at *; omega)
  ·refine dF ?_
   exact bh k (by simp[eO,bU]at *; omega)
theorem AC (T:Txt K mg t):be P w K mg base "is_byte" 2 t.nW t.mH ["thing"] (iH (λv=>bU v 0 255) K):=by
 refine⟨T.Bl,T.uC.kp,T.C0,T.uC.okQ wB jF λcdv A outer s H vs Q E hr h=>?_⟩
 obtain⟨v,rfl,kd,k⟩:=h
 refine⟨_,(ap (aK (cB (aU (lS T) hr (ae (aa 0) ag)) (cU (iL du du ao (aa 0) (dW T.Cw)))))),?_⟩
 refine⟨v,rfl,kd,?_⟩
 refine aF (λe=>?_) (λe=>?_)
 ·obtain⟨i,rfl⟩:=lJ e
  refine aF (λe1=>?_) (λe1=>?_)
  ·exact bh k (by simp[bU]at *; omega)
  ·exact bh k (by simp[bU]at *; omega)
 ·exact bh k (by cases v <;> simp_all [fV,bU])
def bo(one other:List Int):Bool:=decide (other.take one.length=one)
def v9(K:PySem.W.Frag):Sp:=λvs H Q _=>∃ (a b:Addr) (x y:List Int),vs=[.ref a,.ref b]/\ax K H a (x.map V.int)/\ax K H b (y.map V.int)/\∀ H',af H H'->Q (.bl (bo x y)) H'
theorem d7(ns:List Int)(k:Nat):cF (ns.map V.int) none (some (k:Int))=(ns.take k).map V.int:=by rw[sZ,tf]
theorem rW (T:Txt K mg t):be P w K mg base "begins" 1 t.n5 t.mL ["one", "other"] (v9 K):=by
 refine⟨T.Br,T.uG.kp,T.C4,T.uG.okQ wD (λvs H Q E h=>by obtain⟨a,b,x,y,rfl,_⟩:=h; rfl) λcdv A outer s H vs Q E hr h=>?_⟩
 obtain⟨a,b,x,y,rfl,ha,hb,k⟩:=h
 have hu:=hr.units
 refine⟨_,(ap (aK (cA (cD (K:=K) rfl hu) (cT (dG (K:=K) rfl) (aa 1) cS (cR (aZ (cc (K:=K) rfl) T.n_len PySem.boot_len (ae (aa 0) ag)))) (aa 0) (aW _)))),?_⟩
 refine⟨_,.inl ha,_,rfl,_,hb,λp1 H1 g1=>?_⟩
 rw[List.length_map,d7]at g1
 exact fZ g1.lst (g1.sm.seq ha) (k H1 g1.sm)
structure gq (H:Hp) (p:Addr) (s:Int) (r:List Int):Prop where
 h : ∃ q,H p=some (.tup [.int s,.ref q])/\H q=some (.lst (r.map V.int))
 l:1<=r.length/\r.length<=6
theorem gq.mono{H H':Hp}{p:Addr}{s:Int}{r:List Int}(h:gq H p s r)(k:af H H'):gq H' p s r:=by
 obtain⟨⟨q,a,b⟩,l⟩:=h
 exact⟨⟨q,k _ _ a,k _ _ b⟩,l⟩
def cL(e f:Int × List Int):Bool:=decide (e.1=f.1) || bo e.2 f.2 || bo f.2 e.2
def vY:Sp:=λvs H Q _=>∃ (a b:Addr) (e f:Int × List Int),vs=[.ref a,.ref b]/\gq H a e.1 e.2/\gq H b f.1 f.2/\∀ H',af H H'->Q (.bl (cL e f)) H'
theorem AE (T:Txt K mg t):be P w K mg base "collide" 2 t.nY t.mJ ["one", "other"] vY:=by
 refine⟨T.Bp,T.uE.kp,T.C2,T.uE.okQ wC (λvs H Q E h=>by obtain⟨a,b,x,y,rfl,_⟩:=h; rfl) λcdv A outer s H vs Q E hr h=>?_⟩
 obtain⟨a,b,⟨s1,r1⟩,⟨s2,r2⟩,rfl,⟨⟨q1,ha,hq1⟩,_⟩,⟨⟨q2,hb,hq2⟩,_⟩,k⟩:=h
 dsimp only at ha hq1 hb hq2
 have hu:=hr.units
 refine⟨_,(ap (aK (jt (cA (cD (K:=K) rfl hu) (aC (aD (K:=K) rfl) (aa 0) ao (λ_ _=>rfl)) (aC (aD (K:=K) rfl) (aa 1) ao (λ_ _=>rfl)) (aW _)) (jt (aU (rW T) hr (ae (aC (aD (K:=K) rfl) (aa 0) ao (λ_ _=>rfl)) (ae (aC (aD (K:=K) rfl) (aa 1) ao (λ_ _=>rfl)) ag))) (cU (aU (rW T) hr (ae (aC (aD (K:=K) rfl) (aa 1) ao (λ_ _=>rfl)) (ae (aC (aD (K:=K) rfl) (aa 0) ao (λ_ _=>rfl)) ag)))))))),?_⟩
 refine⟨_,_,.inr (.of ha),aV (j:=0) rfl,?_⟩
 refine⟨_,_,.inr (.of hb),aV (j:=0) rfl,?_⟩
 refine aF (λz=>?_) (λz=>?_)
 ·refine bh (k H (af.refl _)) ?_
  have z:decide (s1=s2)=true:=z
  show (decide (s1=s2) || bo r1 r2 || bo r2 r1)=true
  rw[z]; rfl
 have z : ¬ decide (s1=s2)=true:=z
 refine⟨_,_,.inr (.of ha),aV (j:=1) rfl,?_⟩
 refine⟨_,_,.inr (.of hb),aV (j:=1) rfl,?_⟩
 refine⟨q1,q2,r1,r2,rfl,.of hq1,.of hq2,λH1 k1=>?_⟩
 refine aF (λy=>?_) (λy=>?_)
 ·refine bh (k H1 k1) ?_
  have y:bo r1 r2=true:=y
  show (decide (s1=s2) || bo r1 r2 || bo r2 r1)=true
  rw[y]; simp
 have y : ¬ bo r1 r2=true:=y
 refine⟨_,_,.inr (.of (k1 _ _ hb)),aV (j:=1) rfl,?_⟩
 refine⟨_,_,.inr (.of (k1 _ _ ha)),aV (j:=1) rfl,?_⟩
 refine⟨q2,q1,r2,r1,rfl,.of (k1 _ _ hq2),.of (k1 _ _ hq1),λH2 k2=>?_⟩
 refine bh (k H2 (k1.trans k2)) ?_
 show (decide (s1=s2) || bo r1 r2 || bo r2 r1)=bo r2 r1
 simp at z y
 simp[z,y]
structure Es (es:List (Int × List Int)):Prop where
 sg : ∀ e∈es,Sg e.1/\1<=e.2.length/\e.2.length<=6/\∀ b∈e.2,0<=b/\b<=255
 pw:es.Pairwise λe f=>cL e f=false
 l:es.length<=64
theorem B8(e f:Int × List Int):cL e f=cL f e:=by
 unfold cL
 rw[show decide (e.1=f.1)=decide (f.1=e.1) by simp[eq_comm],Bool.or_assoc,Bool.or_assoc,Bool.or_comm (bo e.2 f.2)]
theorem Es.two{es:List (Int × List Int)}(h:Es es){e f:Int × List Int}(he:e∈es)(hf:f∈es):e=f\/cL e f=false:=by
 obtain⟨i,hi,rfl⟩:=List.mem_iff_getElem.mp he
 obtain⟨j,hj,rfl⟩:=List.mem_iff_getElem.mp hf
 rcases Nat.lt_trichotomy i j with c | c | c
 ·exact .inr (List.pairwise_iff_getElem.mp h.pw i j hi hj c)
 ·subst c; exact .inl rfl
 ·rw[B8]; exact .inr (List.pairwise_iff_getElem.mp h.pw j i hj hi c)
def kt(H:Hp)(ps:List Addr)(es:List (Int × List Int)):Prop:=aw (λa e=>gq H a e.1 e.2) ps es
def vF(K:PySem.W.Frag):Sp:=λvs H Q _=>∃ (q:Addr) (r:List Int),vs=[.ref q]/\H q=some (.lst (r.map V.int))/\(∀ b∈r,0<=b/\b<=255)/\r.length<=1000/\∀ H',af H H'->Q (.bl true) H'
theorem Az (T:Txt K mg t):be P w K mg base "is_row" 3 t.nS t.mD ["thing"] (vF K):=by
 refine⟨T.Bh,T.uw.kp,T.CV,T.uw.okQ wx (λvs H Q E h=>by obtain⟨q,r,rfl,_⟩:=h; rfl) λcdv A outer s H vs Q E hr h=>?_⟩
 obtain⟨q,r,rfl,hq,hb,hl,k⟩:=h
 refine⟨_,(ap (aK (cB (aZ (fw (K:=K) rfl) T.n_isinstance PyProof.Rows.boot_isinstance (ae (aa 0) (ae (fi rfl T.n_list PyProof.Rows.boot_list) ag))) (cU (aZ (j7 (K:=K) rfl rfl) T.n_all PyProof.Rows.boot_all (ae (eG rfl (bQ.of (fns:=(ak fO).names) (N:=["thing"]) (Nc:=["each"]) (nv:=1) (caps:=[]) rfl rfl (by decide +kernel)) (dt (K:=K) rfl (aa 0)) (λ_ _ _ _=>(aB (i:=0) (show List.Nodup (["each"]:List Str) by decide +kernel) rfl (Or.inl rfl) (Or.inr rfl))) (λ_ _ _ _=>dR) (λ_ _ _ _=>(aU (AC T) hr (ae (aa 0) ag)))) ag)))))),?_⟩
 refine⟨_,_,.lst hq,by with_unfolding_all rfl,?_⟩
 refine dF ?_
 refine⟨q,rfl,⟨_,.of hq⟩,j3 ((r.map λ_=>true).map V.bl) (by simp) (.of hq) (dk (by rw[List.length_map]; omega)) (λi x y H4 N hx hy s4 hN=>?_) λp3 H3 g3=>?_⟩
 ·obtain⟨o,ho,rfl⟩:=jJ hx
  rw[List.getElem?_map,List.getElem?_map,ho]at hy
  cases hy
  have:=hb o (List.mem_of_getElem? ho)
  exact⟨_,rfl,.int _,bh (hN _ (af.refl _)) (by simp[bU]; omega)⟩
 refine⟨_,g3.lst,?_⟩
 exact bh (k H3 g3.sm) (by simp)
def vX(K:PySem.W.Frag):Sp:=λvs H Q _=>∃ (p:Addr) (e:Int × List Int),vs=[.ref p]/\gq H p e.1 e.2/\Sg e.1/\(∀ b∈e.2,0<=b/\b<=255)/\∀ H',af H H'->Q (.bl true) H'
theorem AB (T:Txt K mg t):be P w K mg base "is_entry" 4 t.nV t.mG ["thing"] (vX K):=by
 refine⟨T.Bk,T.uB.kp,T.CZ,T.uB.okQ wA (λvs H Q E h=>by obtain⟨p,e,rfl,_⟩:=h; rfl) λcdv A outer s H vs Q E hr h=>?_⟩
 obtain⟨p,⟨sg,r⟩,rfl,⟨⟨q,hp,hq⟩,l1,l6⟩,hs,hb,k⟩:=h
 dsimp only at hp hq l1 l6 hs hb
 have hu:=hr.units
 refine⟨_,(aq (bB (fR (dQ (dD (dE (aZ (fw (K:=K) rfl) T.n_isinstance PyProof.Rows.boot_isinstance (ae (aa 0) (ae (fi rfl T.n_tuple PyProof.Rows.boot_tuple) ag))))) (hZ (bq (fm (K:=K) rfl hu) (aZ (cc (K:=K) rfl) T.n_len PySem.boot_len (ae (aa 0) ag)) ao (aW _))))) (ap (aK eI)) bA)
  (ap (aK (cB (aU (Ax T) hr (ae (aC (aD (K:=K) rfl) (aa 0) ao (λ_ _=>rfl)) ag)) (cB (aU (Az T) hr (ae (aC (aD (K:=K) rfl) (aa 0) ao (λ_ _=>rfl)) ag)) (cU (iL du du ao (aZ (cc (K:=K) rfl) T.n_len PySem.boot_len (ae (aC (aD (K:=K) rfl) (aa 0) ao (λ_ _=>rfl)) ag)) (dW T.Cs)))))))),?_⟩
 refine⟨_,_,.tup hp,by with_unfolding_all rfl,?_⟩
 refine aF (λz=>absurd z (by decide)) (λ_=>?_)
 refine⟨_,.inr (.of hp),?_⟩
 refine⟨_,_,.inr (.of hp),aV (j:=0) rfl,?_⟩
 refine⟨_,rfl,.int _,?_⟩
 refine aF (λ_=>?_) (λz=>absurd ((wg sg).mpr hs) z)
 refine⟨_,_,.inr (.of hp),aV (j:=1) rfl,?_⟩
 refine⟨q,r,rfl,hq,hb,by omega,λH1 s1=>?_⟩
 refine dF ?_
 refine⟨_,_,.inr (.of (s1 _ _ hp)),aV (j:=1) rfl,?_⟩
 refine⟨_,.inl (.of (s1 _ _ hq)),?_⟩
 refine aF (λz=>?_) (λz=>?_)
 ·exact bh (k H1 s1) (by rw[List.length_map]; simp; omega)
 ·exact absurd (show decide ((1:Int)<=((r.map V.int).length:Int))=true by rw[List.length_map]; simp; omega) z
def vZ:Sp:=λvs H Q _=>∃ (a:Addr) (ps:List Addr) (es:List (Int × List Int)),vs=[.ref a]/\H a=some (.lst (ps.map V.ref))/\kt H ps es/\Es es/\∀ H',af H H'->Q .non H'
theorem BW(xs:List V)(k:Nat):cF xs none (some (k:Int))=xs.take k:=tf xs k
theorem kT{qs:List Addr}{i:Nat}{x:V}(h:(qs.map V.ref)[i]? = some x) : ∃ q,qs[i]? = some q/\x=.ref q:=by
 rw[List.getElem?_map]at h
 obtain⟨q,hq,rfl⟩:=Option.map_eq_some_iff.mp h
 exact⟨q,hq,rfl⟩
theorem AF (T:Txt K mg t):be P w K mg base "check_table" 5 t.nZ t.mK ["rows"] vZ:=by
 refine⟨T.Bq,T.uF.kp,T.C3,T.uF.okQ iJ (λvs H Q E h=>by obtain⟨a,ps,es,rfl,_⟩:=h; rfl) λcdv A outer s H vs Q E hr h=>?_⟩
 obtain⟨a,ps,es,rfl,ha,en,ok,k⟩:=h
 have hu:=hr.units
 refine⟨_,(aq (bB (bq sd (aZ (cc (K:=K) rfl) T.n_len PySem.boot_len (ae (aa 0) ag)) (dW T.Cr) (aW _)) (ap ld) bA)
  (ap (bL PassesOwn.never rfl (jr (K:=K) rfl rfl T.n_enumerate (ae (aa 0) ag)) (cw (K:=K) rfl rfl (aY (aB (i:=1) iJ.nd rfl (.inl rfl)) (aY (aB (i:=2) iJ.nd rfl (.inl rfl)) cv))) (aq (bB (dD (dE (aU (AB T) hr (ae (aa 2) ag)))) (ap ld) bA)
  (ap (bL PassesOwn.never rfl (jr (K:=K) rfl rfl T.n_enumerate (ae (cT (dG (K:=K) rfl) (aa 0) cS (cR (aa 1))) ag)) (cw (K:=K) rfl rfl (aY (aB (i:=3) iJ.nd rfl (.inl rfl)) (aY (aB (i:=4) iJ.nd rfl (.inl rfl)) cv))) (ap (bB (dE (aU (AE T) hr (ae (aa 4) (ae (aa 2) ag)))) (ap ld) bA)))))))),?_⟩
 have lp:ps.length=es.length:=en.1
 have l64:=ok.l
 refine⟨_,.inl (.of ha),?_⟩
 refine aF (λz=>?_) (λ_=>?_)
 ·have z:((ps.map V.ref).length:Int) > 64:=of_decide_eq_true z
  rw[List.length_map]at z
  omega
 refine⟨a,_,rfl,.of ha,me (K:=K) (a:=a) (xs:=ps.map V.ref) (λi σ H'=>af H H'/\∃ v1 v2 v3 v4,σ=[some (.ref a),v1,v2,v3,v4]) ⟨af.refl _,_,_,_,_,rfl⟩ (λi σ H' _ z=>z.1.seq (.of ha)) ?_ ?_⟩
 ·rintro i x p σ H2 H3 hx ⟨s2,v1,v2,v3,v4,rfl⟩ g3
  obtain⟨px,hpx,rfl⟩:=kT hx
  obtain⟨e,he,ee⟩:=en.right hpx
  refine⟨p,_,rfl,g3.tup,rfl,_,_,rfl,_,_,rfl,rfl,?_⟩
  have s3:=s2.trans g3.sm
  obtain⟨k1,k2,k3,k4⟩:=ok.sg e (List.mem_of_getElem? he)
  refine⟨px,e,rfl,ee.mono s3,k1,k4,λH4 s4=>?_⟩
  refine aF (λz=>absurd (show (!true)=true from z) (by decide)) (λ_=>?_)
  have s04:=s3.trans s4
  refine⟨_,rfl,_,s04.seq (.of ha),λp1 H5 g5=>?_⟩
  rw[BW]at g5
  have s05:=s04.trans g5.sm
  refine⟨p1,_,rfl,g5.lst,me (K:=K) (a:=p1) (xs:=(ps.map V.ref).take i) (λj σ H'=>af H5 H'/\∃ v3 v4,σ=[some (.ref a),some (.int (i:Int)),some (.ref px),v3,v4]) ⟨af.refl _,_,_,rfl⟩ (λi σ H' _ z=>z.1.seq g5.lst) ?_ ?_⟩
  ·rintro j u pj σ H6 H7 hju ⟨s6,v3,v4,rfl⟩ g7
   have hji:j < i:=by have:=(List.getElem?_eq_some_iff.mp hju).1; rw[List.length_take]at this; omega
   rw[List.getElem?_take_of_lt hji]at hju
   obtain⟨pu,hpu,rfl⟩:=kT hju
   obtain⟨f,hf,ef⟩:=en.right hpu
   refine⟨pj,_,rfl,g7.tup,rfl,_,_,rfl,_,_,rfl,rfl,?_⟩
   have s07:=s05.trans (s6.trans g7.sm)
   refine⟨pu,px,f,e,rfl,ef.mono s07,ee.mono s07,λH8 s8=>?_⟩
   have nc:cL f e=false:=by
    obtain⟨a1,e1⟩:=List.getElem?_eq_some_iff.mp hf
    obtain⟨a2,e2⟩:=List.getElem?_eq_some_iff.mp he
    rw[<- e1,<- e2]
    exact List.pairwise_iff_getElem.mp ok.pw j i a1 a2 hji
   refine aF (λz=>absurd (show cL f e=true from z) (by rw[nc]; decide)) (λ_=>?_)
   exact⟨s6.trans (g7.sm.trans s8),_,_,rfl⟩
  ·rintro σ H6 ⟨s6,v3,v4,rfl⟩
   exact⟨s05.trans s6,_,_,_,_,rfl⟩
 ·rintro σ H2 ⟨s2,_⟩
  exact k H2 s2
structure Ft where
 dx:Addr
 d1:Addr
 d2:Addr
 d3:Addr
def bO(r:List Int):List am:=r.map Sum.inl
theorem rC(r:List Int):r.map V.int=(bO r).map kV:=by
 unfold bO
 rw[List.map_map]; rfl
theorem rD{r s:List Int}(h:bO r=bO s):r=s:=by
 unfold bO at h
 induction r generalizing s with
 | nil=>cases s with
  | nil=>rfl
  | cons _ _=>cases h
 | cons x r ih=>cases s with
  | nil=>cases h
  | cons y s=>simp at h; rw[h.1,ih (by simpa using h.2)]
structure Kv (H:Hp) (k1:List (am × V)) (k2 k3:List (List am × V)) (es:List (Int × List Int)):Prop where
 a : ∀ e∈es,∃ q,aM k1 (.inl e.1)=some (.ref q)/\H q=some (.tup (e.2.map V.int))
 b : ∀ e∈es,aM k2 (bO e.2)=some (.int e.1)
 b' : ∀ r:List Int,(∀ e∈es,e.2≠r)->aM k2 (bO r)=none
 c : ∀ e∈es,∀ m,m<=e.2.length->∃ q ys,aM k3 (bO (e.2.take m))=some (.ref q)/\H q=some (.tup ys)
 d:k1.map (λx=>x.1)=es.map λe=>Sum.inl e.1
structure Tt (t:Adr) (H:Hp) (a:Addr) (f:Ft) (es:List (Int × List Int)) (n:Nat):Prop where
 o:H a=some (.ins t.bG f.dx [("row_by_sign",.ref f.d1),("sign_by_row",.ref f.d2),("rest_by_row",.ref f.d3)])
 k : ∃ k1 k2 k3,H f.d1=some (.dK k1)/\H f.d2=some (.dT k2)/\H f.d3=some (.dT k3)/\k1.length<=n/\k2.length<=n/\k3.length<=n/\Kv H k1 k2 k3 es
 ne:f.d2≠f.d3
variable {H H':Hp}{a:Addr}{f:Ft}{es:List (Int × List Int)}{n:Nat}
theorem Kv.mono{k1:List (am × V)}{k2 k3:List (List am × V)}(h:Kv H k1 k2 k3 es)(s : ∀ q xs,H q=some (.tup xs)->H' q=some (.tup xs)):Kv H' k1 k2 k3 es:=by
 refine⟨λe he=>?_,h.b,h.b',λe he m hm=>?_,h.d⟩
 ·obtain⟨q,x,y⟩:=h.a e he
  exact⟨q,x,s _ _ y⟩
 ·obtain⟨q,ys,x,y⟩:=h.c e he m hm
  exact⟨q,ys,x,s _ _ y⟩
theorem Tt.mono(h:Tt t H a f es n)(s:af H H'):Tt t H' a f es n:=by
 obtain⟨o,⟨k1,k2,k3,a1,a2,a3,l1,l2,l3,kv⟩,ne⟩:=h
 exact⟨s _ _ o,⟨k1,k2,k3,s _ _ a1,s _ _ a2,s _ _ a3,l1,l2,l3,kv.mono λq xs e=>s _ _ e⟩,ne⟩
theorem av{c d:Addr}{u v:HO}(h:H c=some u)(k:H d=some v)(n:u≠v):c≠d:=λz=>by rw[z,k]at h; exact n (Option.some.inj h).symm
def cn(f:Ft)(H H':Hp):Prop:=∀ c u,c≠f.d1->c≠f.d2->c≠f.d3->H c=some u->H' c=some u
theorem cn.trans{H H1 H2:Hp}(h:cn f H H1)(h':cn f H1 H2):cn f H H2:=λc u n1 n2 n3 e=>h' c u n1 n2 n3 (h c u n1 n2 n3 e)
theorem cn.of{H H1:Hp}(h:af H H1):cn f H H1:=λc u _ _ _ e=>h c u e
theorem Tt.tup{q:Addr}{xs:List V}(h:Tt t H a f es n)(hq:H q=some (.tup xs))(k:cn f H H'):H' q=some (.tup xs):=by
 obtain⟨o,⟨k1,k2,k3,a1,a2,a3,_⟩,ne⟩:=h
 exact k _ _ (av hq a1 (by intro z; cases z)) (av hq a2 (by intro z; cases z)) (av hq a3 (by intro z; cases z)) hq
theorem kx{kvs:List (am × V)}{k:am}(h:k∉kvs.map λx=>x.1):aM kvs k=none:=by
 unfold aM
 rw[Option.map_eq_none_iff,List.find?_eq_none]
 intro x hx z
 exact h (List.mem_map.mpr ⟨x,hx,of_decide_eq_true z⟩)
def vW(t:Adr):Sp:=λvs H Q _=>∃ (a:Addr) (f:Ft) (q:Addr) (n:Nat) (s:Int) (r:List Int) (es:List (Int × List Int)),vs=[.ref a,.int s,.ref q]/\Tt t H a f es n/\H q=some (.tup (r.map V.int))/\r.length<=6/\n<=1000/\(∀ e∈es,e.1≠s/\e.2≠r) /\
 ∀ H',Tt t H' a f (es++[(s,r)]) (n+9)->cn f H H'->Q .non H'
theorem AJ (T:Txt K mg t):ko P w K mg base t.bG "enter" 1 t.oj t.mQ ["self", "sign", "row"] (vW t):=by
 refine⟨T.eQ,T.zi,T.Da,T.Dr.okQ pU (λvs H Q E h=>by obtain⟨a,f,q,n,s,r,es,rfl,_⟩:=h; rfl) λcdv A outer s H vs Q E hr h=>?_⟩
 obtain⟨a,f,q,n,sg,r,es,rfl,tb,hq,lr,ln,new,k⟩:=h
 have hu:=hr.units
 obtain⟨o,⟨k1,k2,k3,a1,a2,a3,l1,l2,l3,kv⟩,ne⟩:=id tb
 refine⟨_,(aq (iN hu (ju (K:=K) rfl (aa 0)) (aa 1) (aa 2))
  (aq (iN hu (ju (K:=K) rfl (aa 0)) (aa 2) (aa 1))
  (ap (bL PassesOwn.never rfl (jp rfl T.n_range (ae (fh (fq (K:=K) rfl) (aZ (cc (K:=K) rfl) T.n_len PySem.boot_len (ae (aa 2) ag)) ao) ag)) (aB (i:=3) pU.nd rfl (.inl rfl)) (ap (iN hu (ju (K:=K) rfl (aa 0)) (cT (rZ (K:=K) rfl) (aa 2) cS (cR (aa 3))) (cT (rZ (K:=K) rfl) (aa 2) (cR (aa 3)) cS))))))),?_⟩
 have n12:f.d1≠f.d2:=av a1 a2 (by intro z; cases z)
 have n13:f.d1≠f.d3:=av a1 a3 (by intro z; cases z)
 have na1:a≠f.d1:=av o a1 (by intro z; cases z)
 have na2:a≠f.d2:=av o a2 (by intro z; cases z)
 have na3:a≠f.d3:=av o a3 (by intro z; cases z)
 refine⟨a,_,f.dx,_,_,rfl,o,T.eQ,T.lv,rfl,?_⟩
 refine⟨f.d1,_,rfl,dM.k (k:=.inl sg) a1 (dC (by omega)),?_⟩
 obtain⟨H1,e1⟩ : ∃ H1,H1=upd H f.d1 (.dK (ba k1 (.inl sg) (.ref q))):=⟨_,rfl⟩
 rw[<- e1]
 have o1:cn f H H1:=λc u m1 m2 m3 e=>by rw[e1,ai m1]; exact e
 have b1:H1 f.d1=some (.dK (ba k1 (.inl sg) (.ref q))):=by rw[e1,aR]
 have b2:H1 f.d2=some (.dT k2):=by rw[e1,ai n12.symm]; exact a2
 have b3:H1 f.d3=some (.dT k3):=by rw[e1,ai n13.symm]; exact a3
 clear e1
 refine⟨a,_,f.dx,_,_,rfl,o1 _ _ na1 na2 na3 o,T.eQ,T.qZ,rfl,?_⟩
 have hq1:=tb.tup hq o1
 refine⟨f.d2,_,rfl,dM.t (k:=bO r) b2 (by rw[<- rC]; exact hq1) (dC (by omega)),?_⟩
 obtain⟨H2,e2⟩ : ∃ H2,H2=upd H1 f.d2 (.dT (ba k2 (bO r) (.int sg))):=⟨_,rfl⟩
 rw[<- e2]
 have o2:cn f H1 H2:=λc u m1 m2 m3 e=>by rw[e2,ai m2]; exact e
 have c1:H2 f.d1=some (.dK (ba k1 (.inl sg) (.ref q))):=by rw[e2,ai n12]; exact b1
 have c2:H2 f.d2=some (.dT (ba k2 (bO r) (.int sg))):=by rw[e2,aR]
 have c3:H2 f.d3=some (.dT k3):=by rw[e2,ai ne.symm]; exact b3
 clear e2
 have o02:=o1.trans o2
 have hq2:=tb.tup hq o02
 refine⟨_,.inr (.of hq2),?_⟩
 refine⟨_,rfl,by rw[List.length_map]; omega,by rw[List.length_map]; omega,?_⟩
 rw[List.length_map]
 refine jO (lo:=0) (n:=((r.length:Int)+1).toNat) (λi σ H'=>cn f H H'/\H' f.d1=some (.dK (ba k1 (.inl sg) (.ref q)))/\H' f.d2=some (.dT (ba k2 (bO r) (.int sg)))/\(∃ k3',H' f.d3=some (.dT k3')/\k3'.length<=n+i/\(∀ m,m < i->∃ q ys,aM k3' (bO (r.take m))=some (.ref q)/\H' q=some (.tup ys))/\(∀ e∈es,∀ m,m<=e.2.length->∃ q ys,aM k3' (bO (e.2.take m))=some (.ref q)/\H' q=some (.tup ys)))/\∃ v3,σ=[some (.ref a),some (.int sg),some (.ref q),v3]) ⟨o02,c1,c2,⟨k3,c3,by omega,(λm h=>absurd h (by omega)),λe he m hm=>?_⟩,_,rfl⟩ ?_ ?_
 ·obtain⟨q',ys,x,y⟩:=kv.c e he m hm
  exact⟨q',ys,x,tb.tup y o02⟩
 ·rintro i σ H3 hi ⟨o3,d1,d2,⟨k3',d3,l3',new3,old3⟩,v3,rfl⟩
  have hq3:=tb.tup hq o3
  refine⟨_,rfl,_,.of hq3,hq3,λp4 H4 s4 h4=>?_⟩
  refine⟨a,_,f.dx,_,_,rfl,s4 _ _ (o3 _ _ na1 na2 na3 o),T.eQ,T.q9,rfl,?_⟩
  refine⟨_,rfl,_,.of (s4 _ _ hq3),s4 _ _ hq3,λp5 H5 s5 h5=>?_⟩
  rw[Int.zero_add,d7,rC]at h5
  have s35:=s4.trans s5
  refine⟨f.d3,_,rfl,dM.t (k:=bO (r.take i)) (s35 _ _ d3) h5 (dC (by omega)),?_⟩
  obtain⟨H6,e6⟩ : ∃ H6,H6=upd H5 f.d3 (.dT (ba k3' (bO (r.take i)) (.ref p4))):=⟨_,rfl⟩
  rw[<- e6]
  have t6 : ∀ c u,c≠f.d3->H3 c=some u->H6 c=some u:=λc u m e=>by rw[e6,ai m]; exact s35 _ _ e
  have n43:p4≠f.d3:=av (s5 _ _ h4) (s35 _ _ d3) (by intro z; cases z)
  have h46:H6 p4=some (.tup (cF (r.map V.int) (some (0+(i:Int))) none)):=by rw[e6,ai n43]; exact s5 _ _ h4
  have b6:H6 f.d3=some (.dT (ba k3' (bO (r.take i)) (.ref p4))):=by rw[e6,aR]
  clear e6
  have keep : ∀ kk,(∃ q ys,aM k3' kk=some (.ref q)/\H3 q=some (.tup ys))->∃ q ys,aM (ba k3' (bO (r.take i)) (.ref p4)) kk=some (.ref q)/\H6 q=some (.tup ys):=by
   rintro kk ⟨q',ys,x,y⟩
   rw[dA]
   by_cases c:kk=bO (r.take i)
   ·rw[if_pos c]; exact⟨p4,_,rfl,h46⟩
   ·rw[if_neg c]; exact⟨q',ys,x,t6 _ _ (av y d3 (by intro z; cases z)) y⟩
  refine⟨λc u m1 m2 m3 e=>t6 _ _ m3 (o3 c u m1 m2 m3 e),t6 _ _ n13 d1,t6 _ _ ne d2,⟨_,b6,?_,λm hm=>?_,λe he m hm=>keep _ (old3 e he m hm)⟩,_,rfl⟩
  ·have:=fU k3' (bO (r.take i)) (.ref p4); omega
  ·by_cases c:m < i
   ·exact keep _ (new3 m c)
   ·obtain rfl:m=i:=by omega
    refine⟨p4,_,?_,h46⟩
    rw[dA,if_pos rfl]
 ·rintro σ H3 ⟨o3,d1,d2,⟨k3',d3,l3',new3,old3⟩,_⟩
  refine k _ ⟨o3 _ _ na1 na2 na3 o,⟨_,_,k3',d1,d2,d3,?_,?_,by omega,?_⟩,ne⟩ o3
  ·have:=fU k1 (.inl sg) (.ref q); omega
  ·have:=fU k2 (bO r) (.int sg); omega
  ·refine⟨λe he=>?_,λe he=>?_,λr' hr'=>?_,λe he m hm=>?_,?_⟩
   ·rcases List.mem_append.mp he with he | he
    ·rw[dA,if_neg (λz=>(new e he).1 (Sum.inl.inj z))]
     obtain⟨q',x,y⟩:=kv.a e he
     exact⟨q',x,tb.tup y o3⟩
    ·rw[List.mem_singleton.mp he,dA,if_pos rfl]
     exact⟨q,rfl,tb.tup hq o3⟩
   ·rcases List.mem_append.mp he with he | he
    ·rw[dA,if_neg (λz=>(new e he).2 (rD z))]
     exact kv.b e he
    ·rw[List.mem_singleton.mp he,dA,if_pos rfl]
   ·rw[dA,if_neg (λz=>hr' (sg,r) (by simp) (rD z).symm)]
    exact kv.b' r' λe he=>hr' e (by simp[he])
   ·rcases List.mem_append.mp he with he | he
    ·exact old3 e he m hm
    ·rw[List.mem_singleton.mp he]at hm ⊢
     exact new3 m (by dsimp only at hm; omega)
   ·have no:aM k1 (.inl sg)=none:=by
     refine kx λz=>?_
     rw[kv.d]at z
     obtain⟨e,he,ee⟩:=List.mem_map.mp z
     exact (new e he).1 (Sum.inl.inj ee)
    rw[qz _ no,List.map_append,List.map_append,kv.d]
    rfl
def pM(t:Adr):Sp:=λvs H Q _=>∃ (a dx p:Addr) (ps:List Addr) (es:List (Int × List Int)),vs=[.ref a,.ref p]/\H a=some (.ins t.bG dx [])/\H p=some (.lst (ps.map V.ref))/\kt H ps es/\Es es /\
 ∀ f H',Kp a H H'->Tt t H' a f es 1000->Q .non H'
theorem Tt.up{H:Hp}{a:Addr}{f:Ft}{es:List (Int × List Int)}{n m:Nat}(h:Tt t H a f es n)(hm:n<=m):Tt t H a f es m:=by
 obtain⟨o,⟨k1,k2,k3,a1,a2,a3,l1,l2,l3,kv⟩,ne⟩:=h
 exact⟨o,⟨k1,k2,k3,a1,a2,a3,by omega,by omega,by omega,kv⟩,ne⟩
theorem y3 (T:Txt K mg t):bw P w K mg base ca 6 t.j9 t.jR ["self", "rows"] (pM t):=by
 refine T.Dq.okQ pT (λvs H Q E h=>by obtain⟨a,dx,p,ps,es,rfl,_⟩:=h; rfl) λcdv A outer s H vs Q E hr h=>?_
 obtain⟨a,dx,p,ps,es,rfl,ha,hp,en,ok,kq⟩:=h
 have hu:=hr.units
 refine⟨_,(aq (cI (aU (AF T) hr (ae (aa 1) ag)))
  (aq (lf (K:=K) rfl (aa 0) lj)
  (aq (lf (K:=K) rfl (aa 0) qw)
  (aq (lf (K:=K) rfl (aa 0) qw)
  (ap (bL PassesOwn.never rfl (dt (K:=K) rfl (aa 1)) (aB (i:=2) pT.nd rfl (.inl rfl)) (ap (cI (xo (AJ T) hr (aa 0) (ae (aC (aD (K:=K) rfl) (aa 2) ao (λ_ _=>rfl)) (ae (fQ (nq (K:=K) rfl) T.n_tuple PyProof.Rows.boot_tuple (ae (aC (aD (K:=K) rfl) (aa 2) ao (λ_ _=>rfl)) ag)) ag))))))))))),?_⟩
 refine⟨p,ps,es,rfl,hp,en,ok,λH1 s1=>?_⟩
 refine λd1 H2 g2=>?_
 refine⟨a,_,dx,_,rfl,g2.sm _ _ (s1 _ _ ha),T.eQ,T.lv,Nat.lt_of_lt_of_le Nat.zero_lt_one (by decide),?_⟩
 obtain⟨H3,e3⟩ : ∃ H3,H3=upd H2 a (HO.ins t.bG dx (bW "row_by_sign" (.ref d1) [])):=⟨_,rfl⟩
 have a3:H3 a=some (.ins t.bG dx [("row_by_sign",.ref d1)]):=by rw[e3,aR]; rfl
 have k3:Kp a H2 H3:=by rw[e3]; exact Kp.upd
 rw[<- e3]
 clear e3
 refine λd2 H4 g4=>?_
 refine⟨a,_,dx,_,rfl,g4.sm _ _ a3,T.eQ,T.qZ,Nat.lt_of_lt_of_le (Nat.lt_succ_self 1) (by decide),?_⟩
 obtain⟨H5,e5⟩ : ∃ H5,H5=upd H4 a (HO.ins t.bG dx (bW "sign_by_row" (.ref d2) [("row_by_sign",.ref d1)])):=⟨_,rfl⟩
 have a5:H5 a=some (.ins t.bG dx [("row_by_sign",.ref d1),("sign_by_row",.ref d2)]):=by rw[e5,aR]; rfl
 have k5:Kp a H4 H5:=by rw[e5]; exact Kp.upd
 rw[<- e5]
 clear e5
 refine λd3 H6 g6=>?_
 refine⟨a,_,dx,_,rfl,g6.sm _ _ a5,T.eQ,T.q9,Nat.lt_of_lt_of_le (Nat.lt_succ_self 2) (by decide),?_⟩
 obtain⟨H7,e7⟩ : ∃ H7,H7=upd H6 a (HO.ins t.bG dx (bW "rest_by_row" (.ref d3) [("row_by_sign",.ref d1),("sign_by_row",.ref d2)])):=⟨_,rfl⟩
 have a7:H7 a=some (.ins t.bG dx [("row_by_sign",.ref d1),("sign_by_row",.ref d2),("rest_by_row",.ref d3)]):=by rw[e7,aR]; rfl
 have k7:Kp a H6 H7:=by rw[e7]; exact Kp.upd
 rw[<- e7]
 clear e7
 have n1:d1≠a:=(bi (s1 _ _ ha) g2.nw).symm
 have n2:d2≠a:=(bi a3 g4.nw).symm
 have n3:d3≠a:=(bi a5 g6.nw).symm
 have k35:Kp a H3 H5:=(Kp.of g4.sm).trans k5
 have k57:Kp a H5 H7:=(Kp.of g6.sm).trans k7
 have k37:Kp a H3 H7:=k35.trans k57
 have k17:Kp a H1 H7:=(Kp.of g2.sm).trans (k3.trans k37)
 have k07:Kp a H H7:=(Kp.of s1).trans k17
 have b2:H5 d2=some (.dT []):=k5 _ _ n2 g4.at_
 have n23:d2≠d3:=bi b2 g6.nw
 have tb:Tt t H7 a ⟨dx,d1,d2,d3⟩ [] 0:=⟨a7,⟨[],[],[],k37 _ _ n1 (k3 _ _ n1 g2.at_),k57 _ _ n2 b2,k7 _ _ n3 g6.at_,Nat.le_refl _,Nat.le_refl _,Nat.le_refl _,⟨(λe h=>nomatch h),(λe h=>nomatch h),(λr _=>rfl),(λe h=>nomatch h),rfl⟩⟩,n23⟩
 have f1:H d1=none:=s1.free g2.nw
 have f2 : ∀ c u,H c=some u->c≠a->c≠d2:=λc u e n=>bi (k3 _ _ n (g2.sm _ _ (s1 _ _ e))) g4.nw
 have f3 : ∀ c u,H c=some u->c≠a->c≠d3:=λc u e n=>bi (k35 _ _ n (k3 _ _ n (g2.sm _ _ (s1 _ _ e)))) g6.nw
 have lx:=en.1
 have l64:=ok.l
 have kpo : ∀ H',cn ⟨dx,d1,d2,d3⟩ H7 H'->Kp a H H':=λH' o c u n e=>o c u (bi e f1) (f2 c u e n) (f3 c u e n) (k07 c u n e)
 have px : ∀ H',cn ⟨dx,d1,d2,d3⟩ H7 H'->H' p=some (.lst (ps.map V.ref)):=λH' o=>kpo H' o _ _ (av hp ha (by intro z; cases z)) hp
 refine⟨p,rfl,⟨_,.of (px H7 (cn.of (af.refl _)))⟩,fY (K:=K) (a:=p) (xs:=ps.map V.ref) (λi σ H'=>Tt t H' a ⟨dx,d1,d2,d3⟩ (es.take i) (i*9)/\cn ⟨dx,d1,d2,d3⟩ H7 H'/\∃ v2,σ=[some (.ref a),some (.ref p),v2]) ⟨tb.up (by omega),cn.of (af.refl _),_,rfl⟩ (λi σ H' _ z=>.of (px H' z.2.1)) ?_ ?_⟩
 ·rintro i x σ H8 hx ⟨tb8,o8,v2,rfl⟩
  obtain⟨pe,hpe,rfl⟩:=kT hx
  obtain⟨e,he,⟨q,hq1,hq2⟩,l1,l6⟩:=en.right hpe
  have he8:=kpo _ o8 _ _ (av hq1 ha (by intro z; cases z)) hq1
  have hq8:=kpo _ o8 _ _ (av hq2 ha (by intro z; cases z)) hq2
  have hi:i < ps.length:=(List.getElem?_eq_some_iff.mp hpe).1
  refine⟨a,dx,_,rfl,tb8.o,rfl,?_⟩
  refine⟨_,_,.inr (.of he8),aV (j:=0) rfl,?_⟩
  refine⟨_,_,.inr (.of he8),aV (j:=1) rfl,?_⟩
  refine⟨_,.of hq8,λpt H9 g9=>?_⟩
  refine⟨a,⟨dx,d1,d2,d3⟩,pt,i*9,e.1,e.2,es.take i,rfl,tb8.mono g9.sm,g9.at_,l6,by omega,λe' he'=>?_,λHA tA oA=>?_⟩
  ·obtain⟨j,hj,rfl⟩:=List.mem_iff_getElem.mp he'
   obtain⟨a2,e2⟩:=List.getElem?_eq_some_iff.mp he
   rw[List.length_take]at hj
   have nc:=List.pairwise_iff_getElem.mp ok.pw j i (by omega) a2 (by omega)
   rw[e2]at nc
   rw[List.getElem_take]
   unfold cL bo at nc
   refine⟨λz=>?_,λz=>?_⟩
   ·rw[decide_eq_true z]at nc; cases nc
   ·rw[z]at nc; simp at nc
  ·have et:es.take (i+1)=es.take i++[(e.1,e.2)]:=oU he
   rw[et]
   exact⟨tA.up (by omega),o8.trans ((cn.of g9.sm).trans oA),_,rfl⟩
 ·rintro σ H8 ⟨t8,o8,_⟩
  rw[List.length_map,lx,List.take_length]at t8
  exact kq _ _ (kpo _ o8) (t8.up (by omega))
theorem Al (T:Txt K mg t):t5 P w K mg base "TableTongue" t.bG 6 t.j9 t.jR ["self", "rows"] [] (pM t):=⟨T.AV,T.zk,⟨[],T.C9,.nil⟩,y3 T⟩
theorem iC : ∀ {kvs:List (am × V)} {i:Nat} {k:am} {v:V},(kvs.map λx=>x.1).Nodup->kvs[i]? = some (k,v)->aM kvs k=some v
 | [],_,_,_,_,h=>by simp at h
 | q :: r,0,k,v,_,h=>by
  simp at h
  subst h
  exact di rfl
 | q :: r,i+1,k,v,nd,h=>by
  obtain⟨a,b⟩:=List.nodup_cons.mp nd
  have h:r[i]? = some (k,v):=by simpa using h
  have ne : ¬ q.1=k:=λz=>a (List.mem_map.mpr ⟨(k,v),List.mem_of_getElem? h,z.symm⟩)
  rw[dj ne]
  exact iC b h
def vO(t:Adr):Sp:=λvs H Q _=>∃ (a:Addr) (f:Ft) (es:List (Int × List Int)) (n:Nat),vs=[.ref a]/\Tt t H a f es n/\n<=1000/\(es.map λe=>e.1).Nodup/\∀ (p:Addr) (ps:List Addr) H',af H H'->H' p=some (.lst (ps.map V.ref))->aw (λq (e:Int × List Int)=>∃ l,H' q=some (.tup [.int e.1,.ref l])/\H' l=some (.lst (e.2.map V.int))) ps es->Q (.ref p) H'
theorem rX (T:Txt K mg t):ko P w K mg base t.bG "rows" 1 t.oh t.mP ["self"] (vO t):=by
 refine⟨T.eQ,T.zh,T.C8,T.Dp.okQ wE (λvs H Q E h=>by obtain⟨a,f,es,n,rfl,_⟩:=h; rfl) λcdv A outer s H vs Q E hr h=>?_⟩
 obtain⟨a,f,es,n,rfl,tt,hn,nd,k⟩:=h
 obtain⟨o,⟨k1,k2,k3,a1,a2,a3,l1,l2,l3,kv⟩,ne⟩:=id tt
 refine⟨_,(ap (aK (qh (eG rfl (bQ.of (fns:=(ak fP).names) (N:=["self"]) (Nc:=["sign", "row"]) (nv:=2) (caps:=[]) rfl rfl (by decide +kernel)) (jq (ju (K:=K) rfl (aa 0))) (λ_ _ _ _=>(cw (K:=K) rfl (n:=2) rfl (aY (aB (i:=0) (show List.Nodup (["sign", "row"]:List Str) by decide +kernel) rfl (Or.inl rfl) (Or.inr rfl)) (aY (aB (i:=1) (show List.Nodup (["sign", "row"]:List Str) by decide +kernel) rfl (Or.inl rfl) (Or.inr rfl)) cv)))) (λ_ _ _ _=>dR) (λ_ _ _ _=>(bC (ae (aa 0) (ae (fQ (j6 (K:=K) rfl) T.n_list PyProof.Rows.boot_list (ae (aa 1) ag)) ag)))))))),?_⟩
 refine⟨f.d1,.dK k1,(λob v z=>by rw[a1]at z; cases z),?_⟩
 refine⟨a,_,f.dx,_,_,rfl,o,T.eQ,T.lv,rfl,?_⟩
 refine⟨f.d1,k1,rfl,a1,λob=>?_⟩
 have el:es.length=k1.length:=by have:=congrArg List.length kv.d; rw[List.length_map,List.length_map]at this; exact this.symm
 obtain⟨H1,e1⟩ : ∃ H1,H1=upd H f.d1 (.frz ob (.dK k1)):=⟨_,rfl⟩
 have d1:H1 f.d1=some (.frz ob (.dK k1)):=by rw[e1,aR]
 have b1 : ∀ c u,c≠f.d1->H c=some u->H1 c=some u:=λc u n e=>by rw[e1,ai n]; exact e
 rw[<- e1]
 clear e1
 refine m4 (K:=K) (λi ys H'=>af H1 H'/\i<=k1.length/\∃ ps:List Addr,ys=ps.map V.ref/\aw (λq (e:Int × List Int)=>∃ l,H' q=some (.tup [.int e.1,.ref l])/\H' l=some (.lst (e.2.map V.int))) ps (es.take i)) ⟨af.refl _,Nat.zero_le _,[],rfl,aw.nil⟩ (λi ys H' hi z=>⟨z.1 _ _ d1,?_⟩) (dk (by omega)) (λi ky v ys H2 H3 N hkv z s23 hN=>?_) λys H2 p H3 z g=>?_
 ·obtain⟨_,_,ps,rfl,al⟩:=z
  have:=al.1
  rw[List.length_take]at this
  rw[List.length_map]
  omega
 ·obtain⟨s2,_,ps,rfl,al⟩:=z
  have hi:i < k1.length:=(List.getElem?_eq_some_iff.mp hkv).1
  obtain⟨e,he⟩ : ∃ e,es[i]? = some e:=⟨_,List.getElem?_eq_getElem (by omega)⟩
  have ek:ky=Sum.inl e.1:=by
   have q1:(k1.map λx=>x.1)[i]? = some ky:=by rw[List.getElem?_map,hkv]; rfl
   rw[kv.d,List.getElem?_map,he]at q1
   exact (Option.some.inj q1).symm
  subst ek
  obtain⟨q,vq,hq⟩:=kv.a e (List.mem_of_getElem? he)
  have ev:v=.ref q:=by
   have nk:(k1.map λx=>x.1).Nodup:=by
    rw[kv.d]
    have nd:=List.pairwise_map.mp nd
    exact List.pairwise_map.mpr (nd.imp λh z=>h (Sum.inl.inj z))
   have:=iC nk hkv
   rw[vq]at this
   exact (Option.some.inj this).symm
  subst ev
  simp only [dN,if_true]
  have q3:H3 q=some (.tup (e.2.map V.int)):=s23 _ _ (s2 _ _ (b1 _ _ (av hq a1 (by intro z; cases z)) hq))
  refine⟨_,.inr (.of q3),λl4 H4 g4=>?_⟩
  refine⟨sz rfl,λp5 H5 g5=>hN _ _ ⟨s2.trans (s23.trans (g4.sm.trans g5.sm)),hi,ps++[p5],by rw[List.map_append]; rfl,?_⟩⟩
  rw[List.take_add_one,he]
  refine aw.app (al.imp λc e' h=>?_) (aw.cons ⟨l4,g5.at_,g5.sm _ _ g4.at_⟩ aw.nil)
  obtain⟨l,h,h'⟩:=h
  exact⟨l,g5.sm _ _ (g4.sm _ _ (s23 _ _ h)),g5.sm _ _ (g4.sm _ _ (s23 _ _ h'))⟩
 ·obtain⟨s2,_,ps,rfl,al⟩:=z
  refine⟨⟨ob,g.sm _ _ (s2 _ _ d1)⟩,k p ps _ (λc u e=>?_) ?_ ?_⟩
  ·by_cases n:c=f.d1
   ·subst n
    rw[aR,<- a1,e]
   ·rw[ai n]
    exact g.sm _ _ (s2 _ _ (b1 c u n e))
  ·rw[ai (bi (s2 _ _ d1) g.nw).symm]
   exact g.at_
  ·rw[List.take_of_length_le (by omega)]at al
   refine al.imp λc e h=>?_
   obtain⟨l,h,h'⟩:=h
   exact⟨l,by rw[ai (av (g.sm _ _ h) (g.sm _ _ (s2 _ _ d1)) (by intro z; cases z))]; exact g.sm _ _ h,by rw[ai (av (g.sm _ _ h') (g.sm _ _ (s2 _ _ d1)) (by intro z; cases z))]; exact g.sm _ _ h'⟩
def bg(rows:List (List Int))(p:List Int):List Int:=if p∈rows then [] else p
structure kj (H:Hp) (rows PS:List (List Int)) (b:List Int) (ks:List (am × V)):Prop where
 nd:(ks.map λy=>y.1).Nodup
 int : ∀ y∈ks,∃ x:Int,y.1=.inl x
 yes : ∀ x,b++[x]∈PS->∃ q,aM ks (.inl x)=some (.ref q)/\H q=some (.tup ((bg rows (b++[x])).map V.int))
 no : ∀ x,b++[x]∉PS->aM ks (.inl x)=none
 len:ks.length<=PS.length
structure bJ (H:Hp) (p:Addr) (rows PS:List (List Int)) (ky:List Int->Prop) (kvs:List (aE × Addr × V)):Prop where
 dq:DQ H p kvs
 key : ∀ b,b∈kvs.map (λe=>e.1) ↔ ky b
 met : ∀ b x,b++[x]∈PS->ky b
 val : ∀ e∈kvs,∃ d ks,e.2.2=.ref d/\H d=some (.dK ks)/\kj H rows PS e.1 ks
 inj : ∀ e∈kvs,∀ e'∈kvs,e.2.2=e'.2.2->e.1=e'.1
theorem kj.mono{H H':Hp}{rows PS:List (List Int)}{b:List Int}{ks:List (am × V)}(h:kj H rows PS b ks)(s : ∀ q xs,H q=some (.tup xs)->H' q=some (.tup xs)):kj H' rows PS b ks :=
 ⟨h.nd,h.int,λx hx=>let ⟨q,a,b⟩:=h.yes x hx; ⟨q,a,s _ _ b⟩,h.no,h.len⟩
theorem bJ.same{H H':Hp}{p:Addr}{rows PS:List (List Int)}{ky:List Int->Prop}{kvs:List (aE × Addr × V)}(h:bJ H p rows PS ky kvs)(s:af H H'):bJ H' p rows PS ky kvs :=
 ⟨h.dq.same s,h.key,h.met,λe he=>let ⟨d,ks,a,b,c⟩:=h.val e he; ⟨d,ks,a,s _ _ b,c.mono λq xs z=>s _ _ z⟩,h.inj⟩
theorem fJ{kvs:List (aE × Addr × V)}{b:List Int}{v:V}(h:bz kvs b=some v) : ∃ e∈kvs,e.1=b/\e.2.2=v:=by
 unfold bz at h
 obtain⟨e,he,rfl⟩:=Option.map_eq_some_iff.mp h
 exact⟨e,List.mem_of_find?_eq_some he,by have z:=List.find?_some he; exact of_decide_eq_true z,rfl⟩
theorem i6{kvs:List (aE × Addr × V)}{b:List Int}(h:b∈kvs.map λe=>e.1) : ∃ v,bz kvs b=some v:=by
 cases e:bz kvs b with
 | some v=>exact⟨v,rfl⟩
 | none =>
  unfold bz at e
  rw[Option.map_eq_none_iff,List.find?_eq_none]at e
  obtain⟨x,hx,rfl⟩:=List.mem_map.mp h
  exact absurd (decide_eq_true rfl) (e x hx)
theorem xA{kvs:List (aE × Addr × V)}{b:List Int}{q:Addr}{v:V}(h:bz kvs b=none):dX kvs b q v=kvs++[(b,q,v)]:=by
 unfold dX
 rw[h]
 rfl
theorem sM{H H':Hp}{a d:Addr}{kvs:List (aE × Addr × V)}{ks:List (am × V)}(h:DQ H a kvs)(hd:H d=some (.dK ks))(s : ∀ c,c≠d->H' c=H c):DQ H' a kvs:=by
 obtain⟨⟨xs,ep,h1,h2⟩,k,n,l⟩:=h
 refine⟨⟨xs,ep,?_,h2⟩,λx hx=>?_,n,l⟩
 ·rw[s a (av h1 hd (by intro z; cases z))]; exact h1
 ·have z:=k x hx
  show H' x.2.1=_
  rw[s _ (av z hd (by intro z; cases z))]
  exact z
theorem jG(kvs:List (am × V))(k:am)(v:V):(k∈(kvs.map λx=>x.1)/\((ba kvs k v).map λx=>x.1)=kvs.map λx=>x.1)\/(k∉(kvs.map λx=>x.1)/\((ba kvs k v).map λx=>x.1)=(kvs.map λx=>x.1)++[k]):=by
 by_cases h:k∈(kvs.map λx=>x.1)
 ·refine .inl ⟨h,?_⟩
  unfold ba
  obtain⟨y,hy,ey⟩:=List.mem_map.mp h
  rw[if_pos (List.any_eq_true.mpr ⟨y,hy,decide_eq_true ey⟩),List.map_map]
  refine List.map_congr_left λy hy=>?_
  show (if y.1=k then (y.1,v) else y).1=y.1
  split <;> rfl
 ·refine .inr ⟨h,?_⟩
  rw[qz v (kx h),List.map_append]
  rfl
theorem bJ.put{H H':Hp}{p d qg:Addr}{rows PS:List (List Int)}{ky:List Int->Prop}{kvs:List (aE × Addr × V)}{b:List Int}{x:Int}{ks:List (am × V)}(h:bJ H p rows PS ky kvs)(hv:bz kvs b=some (.ref d))(hd:H d=some (.dK ks))(hq:H qg=some (.tup ((bg rows (b++[x])).map V.int)))
 (e':H'=upd H d (.dK (ba ks (.inl x) (.ref qg)))):bJ H' p rows (PS++[b++[x]]) ky kvs:=by
 have so : ∀ c,c≠d->H' c=H c:=λc n=>by rw[e',ai n]
 have tu : ∀ q xs,H q=some (.tup xs)->H' q=some (.tup xs):=λq xs z=>by rw[so q (av z hd (by intro z; cases z))]; exact z
 have kb:ky b:=by
  obtain⟨e,he,e1,_⟩:=fJ hv
  exact (h.key b).mp (List.mem_map.mpr ⟨e,he,e1⟩)
 refine⟨sM h.dq hd so,h.key,λb' x' hx=>?_,λe he=>?_,h.inj⟩
 ·rcases List.mem_append.mp hx with z | z
  ·exact h.met b' x' z
  ·have z:=List.append_inj_left' (List.mem_singleton.mp z) rfl
   rw[z]; exact kb
 ·obtain⟨d1,ks1,a1,a2,a3⟩:=h.val e he
  by_cases c:d1=d
  ·subst c
   rw[hd]at a2; cases a2
   obtain⟨e0,he0,e1,e2⟩:=fJ hv
   have eb:e.1=b:=by rw[<- e1]; exact h.inj e he e0 he0 (a1.trans e2.symm)
   refine⟨d1,_,a1,by rw[e',aR],?_⟩
   rw[eb]at a3 ⊢
   refine⟨?_,λy hy=>?_,λx' hx=>?_,λx' hx=>?_,by have:=fU ks (.inl x) (.ref qg); have:=a3.len; rw[List.length_append]; simp; omega⟩
   ·rcases jG ks (.inl x) (.ref qg) with ⟨_,z2⟩ | ⟨z,z2⟩
    ·rw[z2]; exact a3.nd
    ·rw[z2]
     refine List.nodup_append.mpr ⟨a3.nd,by simp,λu hu v hv=>?_⟩
     rw[List.mem_singleton.mp hv]
     exact λe=>z (e ▸ hu)
   ·have hm:y.1∈(ba ks (.inl x) (.ref qg)).map λx=>x.1:=List.mem_map.mpr ⟨y,hy,rfl⟩
    have old:y.1∈(ks.map λx=>x.1)->∃ x:Int,y.1=.inl x:=λz=>by
     obtain⟨u,hu,eu⟩:=List.mem_map.mp z
     obtain⟨x,ex⟩:=a3.int u hu
     exact⟨x,eu.symm.trans ex⟩
    rcases jG ks (.inl x) (.ref qg) with ⟨_,z2⟩ | ⟨_,z2⟩
    ·rw[z2]at hm; exact old hm
    ·rw[z2]at hm
     rcases List.mem_append.mp hm with z | z
     ·exact old z
     ·exact⟨x,List.mem_singleton.mp z⟩
   ·rw[dA]
    by_cases c:(Sum.inl x':am)=.inl x
    ·rw[if_pos c]
     cases Sum.inl.inj c
     exact⟨qg,rfl,tu _ _ hq⟩
    ·rw[if_neg c]
     have hx:b++[x']∈PS:=by
      rcases List.mem_append.mp hx with z | z
      ·exact z
      ·have z:=List.append_inj_right' (List.mem_singleton.mp z) rfl
       cases z
       exact absurd rfl c
     obtain⟨q,b1,b2⟩:=a3.yes x' hx
     exact⟨q,b1,tu _ _ b2⟩
   ·rw[dA]
    by_cases c:(Sum.inl x':am)=.inl x
    ·cases Sum.inl.inj c
     exact absurd (List.mem_append_right _ (List.mem_singleton.mpr rfl)) hx
    ·rw[if_neg c]
     exact a3.no x' λz=>hx (List.mem_append_left _ z)
  ·refine⟨d1,ks1,a1,by rw[so d1 c]; exact a2,?_⟩
   have nb:e.1≠b:=λz=>by
    obtain⟨e0,he0,e1,e2⟩:=fJ hv
    have nd:=h.dq.nd
    have:e=e0:=by
     have:=List.pairwise_map.mp nd
     obtain⟨i,hi⟩:=List.getElem?_of_mem he
     obtain⟨j,hj⟩:=List.getElem?_of_mem he0
     have l1:=(List.getElem?_eq_some_iff.mp hi).1
     have l2:=(List.getElem?_eq_some_iff.mp hj).1
     have:i=j:=by
      have q1:(kvs.map λe=>e.1)[i]? = some b:=by rw[List.getElem?_map,hi]; exact congrArg some z
      have q2:(kvs.map λe=>e.1)[j]? = some b:=by rw[List.getElem?_map,hj]; exact congrArg some e1
      exact (List.getElem?_inj (by rw[List.length_map]; exact l1) nd).mp (q1.trans q2.symm)
     subst this
     rw[hi]at hj; cases hj; rfl
    subst this
    rw[a1]at e2; cases e2
    exact c rfl
   refine⟨a3.nd,a3.int,λx' hx=>?_,λx' hx=>a3.no x' λz=>hx (List.mem_append_left _ z),by have:=a3.len; rw[List.length_append]; omega⟩
   have hx:e.1++[x']∈PS:=by
    rcases List.mem_append.mp hx with z | z
    ·exact z
    ·exact absurd (List.append_inj_left' (List.mem_singleton.mp z) rfl) nb
   obtain⟨q,b1,b2⟩:=a3.yes x' hx
   exact⟨q,b1,tu _ _ b2⟩
theorem bJ.new{H H':Hp}{p dn q:Addr}{rows PS:List (List Int)}{ky:List Int->Prop}{kvs:List (aE × Addr × V)}{b:List Int}(h:bJ H p rows PS ky kvs)(nb : ¬ ky b)(hn:H dn=some (.dK []))(nn : ∀ e∈kvs,e.2.2 ≠ .ref dn)
 (dq:DQ H' p (kvs++[(b,q,.ref dn)])) (so : ∀ c,c≠p->H' c=H c):bJ H' p rows PS (λc=>ky c\/c=b) (kvs++[(b,q,.ref dn)]):=by
 obtain⟨xs,ep,h1,_⟩:=h.dq.ex
 have tu : ∀ q xs,H q=some (.tup xs)->H' q=some (.tup xs):=λq xs z=>by rw[so q (av z h1 (by intro z; cases z))]; exact z
 refine⟨dq,λc=>?_,λc x hx=>.inl (h.met c x hx),λe he=>?_,λe he e' he' z=>?_⟩
 ·rw[List.map_append,List.mem_append,h.key]
  simp
 ·rcases List.mem_append.mp he with he | he
  ·obtain⟨d1,ks1,a1,a2,a3⟩:=h.val e he
   exact⟨d1,ks1,a1,by rw[so d1 (av a2 h1 (by intro z; cases z))]; exact a2,a3.mono tu⟩
  ·cases List.mem_singleton.mp he
   exact⟨dn,[],rfl,by rw[so dn (av hn h1 (by intro z; cases z))]; exact hn,.nil,(λy hy=>nomatch hy),(λx hx=>absurd (h.met b x hx) nb),(λx _=>rfl),Nat.zero_le _⟩
 ·rcases List.mem_append.mp he with he | he <;> rcases List.mem_append.mp he' with he' | he'
  ·exact h.inj e he e' he' z
  ·cases List.mem_singleton.mp he'
   exact absurd z (nn e he)
  ·cases List.mem_singleton.mp he
   exact absurd z.symm (nn e' he')
  ·cases List.mem_singleton.mp he
   cases List.mem_singleton.mp he'
   rfl
def bI(r:List Int)(n:Nat):List (List Int):=(List.range n).map λk=>r.take (k+1)
def ay(rows:List (List Int)):List (List Int):=rows.flatMap λr=>bI r r.length
theorem qE(r:List Int)(n:Nat):bI r (n+1)=bI r n++[r.take (n+1)]:=by
 unfold bI
 rw[List.range_succ,List.map_append]
 rfl
theorem x4(rows:List (List Int))(r:List Int):ay (rows++[r])=ay rows++bI r r.length:=by
 unfold ay
 rw[List.flatMap_append]
 simp
theorem qD{rows:List (List Int)}(h : ∀ r∈rows,r.length<=6):(ay rows).length<=6*rows.length:=by
 induction rows with
 | nil=>exact Nat.zero_le _
 | cons r rows ih =>
  have h1:=h r (List.mem_cons_self ..)
  have h2:=ih λx hx=>h x (List.mem_cons_of_mem _ hx)
  show (bI r r.length++ay rows).length<=_
  rw[List.length_append]
  have:(bI r r.length).length=r.length:=by unfold bI; rw[List.length_map,List.length_range]
  rw[List.length_cons]
  omega
theorem rc{r q:List Int}:q∈bI r r.length ↔ q≠[]/\q <+: r:=by
 unfold bI
 rw[List.mem_map]
 constructor
 ·rintro⟨k,hk,rfl⟩
  have hk:=List.mem_range.mp hk
  refine⟨λz=>?_,List.take_prefix _ _⟩
  have:=congrArg List.length z
  simp only [List.length_take,List.length_nil]at this
  omega
 ·rintro⟨h1,h2⟩
  have hl:0 < q.length:=List.length_pos_iff.mpr h1
  have h3:=h2.length_le
  refine⟨q.length - 1,List.mem_range.mpr (by omega),?_⟩
  rw[show q.length - 1+1=q.length by omega]
  exact (List.prefix_iff_eq_take.mp h2).symm
theorem eK{rows:List (List Int)}{q:List Int}:q∈ay rows ↔ q≠[]/\∃ r∈rows,q <+: r:=by
 unfold ay
 rw[List.mem_flatMap]
 constructor
 ·rintro⟨r,hr,h⟩
  obtain⟨h1,h2⟩:=rc.mp h
  exact⟨h1,r,hr,h2⟩
 ·rintro⟨h1,r,hr,h2⟩
  exact⟨r,hr,rc.mpr ⟨h1,h2⟩⟩
theorem bJ.kyE{H:Hp}{p:Addr}{rows PS:List (List Int)}{ky ky':List Int->Prop}{kvs:List (aE × Addr × V)}(h:bJ H p rows PS ky kvs)(e : ∀ b,ky b ↔ ky' b):bJ H p rows PS ky' kvs :=
 ⟨h.dq,λb=>(h.key b).trans (e b),λb x hx=>(e b).mp (h.met b x hx),h.val,h.inj⟩
def bR(PS:List (List Int)):List Int->Prop:=λb=>∃ x,b++[x]∈PS
theorem bJ.nil{H:Hp}{p:Addr}(rows:List (List Int))(h:DQ H p []):bJ H p rows [] (bR []) []:=by
 refine⟨h,λb=>⟨λz=>?_,λz=>?_⟩,λb x hx=>?_,λe he=>?_,λe he=>?_⟩
 ·cases z
 ·obtain⟨x,hx⟩:=z; cases hx
 ·cases hx
 ·cases he
 ·cases he
def eR(p:Addr)(H H':Hp):Prop:=∀ c u,c≠p->H c=some u->H' c=some u
def oz(H:Hp)(kvs:List (aE × Addr × V)):Prop:=∀ e∈kvs,∀ d,e.2.2=.ref d->H d=none
theorem AN{rows:List (List Int)}{r:List Int}{j:Nat}(pf : ∀ x∈rows,∀ y∈rows,x <+: y->x=y)(hr:r∈rows)(hj:j < r.length):bg rows (r.take (j+1))=if j+1 < r.length then r.take (j+1) else []:=by
 unfold bg
 by_cases c:j+1 < r.length
 ·rw[if_pos c,if_neg λz=>?_]
  have:=congrArg List.length (pf _ z _ hr (List.take_prefix _ _))
  rw[List.length_take]at this
  omega
 ·rw[if_neg c,List.take_of_length_le (by omega),if_pos hr]
def vL(t:Adr):Sp:=λvs H Q _=>∃ (a:Addr) (f:Ft) (es:List (Int × List Int)) (n:Nat),vs=[.ref a]/\Tt t H a f es n/\n<=1000/\Es es /\
 ∀ p kvs H',af H H'->H p=none->bJ H' p (es.map λe=>e.2) (ay (es.map λe=>e.2)) (bR (ay (es.map λe=>e.2))) kvs->kvs.length<=(ay (es.map λe=>e.2)).length->Q (.ref p) H'
theorem At (T:Txt K mg t):be P w K mg base "steps_of" 2 t.nM t.mv ["tongue"] (vL t):=by
 refine⟨T.A7,T.uq.kp,T.CN,T.uq.okQ gA (λvs H Q E h=>by obtain⟨a,f,es,n,rfl,_⟩:=h; rfl) λcdv A outer s H vs Q E hr h=>?_⟩
 obtain⟨a,f,es,n,rfl,tt,hn,ok,k⟩:=h
 have hu:=hr.units
 refine⟨_,(aq (aX (i:=1) gA.nd rfl (.inl rfl) xp)
  (aq (bL PassesOwn.never rfl (dt (K:=K) rfl (qq (rX T) hr (aa 0))) (cw (K:=K) rfl rfl (aY (aB (i:=2) gA.nd rfl (.inl rfl)) (aY (aB (i:=3) gA.nd rfl (.inl rfl)) cv))) (ap (bL PassesOwn.never rfl (jp rfl T.n_range (ae (aZ (cc (K:=K) rfl) T.n_len PySem.boot_len (ae (aa 3) ag)) ag)) (aB (i:=4) gA.nd rfl (.inl rfl)) (aq (aX (i:=5) gA.nd rfl (.inl rfl) (fQ (nq (K:=K) rfl) T.n_tuple PyProof.Rows.boot_tuple (ae (cT (dG (K:=K) rfl) (aa 3) cS (cR (aa 4))) ag)))
  (aq (cI (xu hu (aa 1) (aa 5) lj))
  (ap (iN hu (iO hu (aa 1) (aa 5)) (aC (aD (K:=K) rfl) (aa 3) (aa 4) (λ_ _=>rfl)) (xi (bq lW (fh (fq (K:=K) rfl) (aa 4) ao) (aZ (cc (K:=K) rfl) T.n_len PySem.boot_len (ae (aa 3) ag)) (aW _)) (fQ (nq (K:=K) rfl) T.n_tuple PyProof.Rows.boot_tuple (ae (cT (dG (K:=K) rfl) (aa 3) cS (cR (fh (fq (K:=K) rfl) (aa 4) ao))) ag)) (bC ag)))))))))
  (ap (aK (aa 1))))),?_⟩
 refine λp1 H1 g1=>?_
 refine⟨a,f.dx,_,rfl,g1.sm _ _ tt.o,rfl,?_⟩
 obtain⟨rows,er⟩ : ∃ rows,rows=es.map λe=>e.2:=⟨_,rfl⟩
 have pf : ∀ x∈rows,∀ y∈rows,x <+: y->x=y:=by
  intro x hx y hy hp
  rw[er]at hx hy
  obtain⟨e1,h1,rfl⟩:=List.mem_map.mp hx
  obtain⟨e2,h2,rfl⟩:=List.mem_map.mp hy
  rcases ok.two h1 h2 with z | z
  ·rw[z]
  ·have:bo e1.2 e2.2=true:=decide_eq_true (List.prefix_iff_eq_take.mp hp).symm
   unfold cL at z
   rw[this]at z
   simp at z
 have nds:(es.map λe=>e.1).Nodup:=by
  refine List.pairwise_map.mpr (ok.pw.imp λ{e1 e2} z=>?_)
  unfold cL at z
  intro c
  rw[decide_eq_true c]at z
  simp at z
 refine⟨a,f,es,n,rfl,tt.mono g1.sm,hn,nds,λp2 ps H2 s2 h2 al=>?_⟩
 have lps:ps.length=es.length:=al.1
 have lr:rows.length=es.length:=by rw[er,List.length_map]
 have d0:DQ H2 p1 []:=(DQ.new g1).same s2
 obtain⟨xs0,ep0,dh,_⟩:=d0.ex
 have S0:bJ H2 p1 rows (ay (rows.take 0)) (bR (ay (rows.take 0))) []:=bJ.nil rows d0
 refine⟨p2,rfl,⟨_,.of h2⟩,fY (K:=K) (a:=p2) (xs:=ps.map V.ref) (λi σ H'=>eR p1 H2 H'/\(∃ kvs,bJ H' p1 rows (ay (rows.take i)) (bR (ay (rows.take i))) kvs/\kvs.length<=(ay (rows.take i)).length/\oz H2 kvs)/\∃ v2 v3 v4 v5,σ=[some (.ref a),some (.ref p1),v2,v3,v4,v5]) ⟨λc u _ e=>e,⟨[],S0,Nat.zero_le _,λe he=>by cases he⟩,_,_,_,_,rfl⟩ (λi σ H' _ z=>.of (z.1 _ _ (av h2 dh (by intro z; cases z)) h2)) ?_ ?_⟩
 ·rintro i x σ H3 hx ⟨b3,⟨kvs,st,lk,nv⟩,v2,v3,v4,v5,rfl⟩
  rw[List.getElem?_map]at hx
  obtain⟨q,hq,rfl⟩:=Option.map_eq_some_iff.mp hx
  obtain⟨e,he,l,e1,e2⟩:=al.right hq
  have em:e∈es:=List.mem_of_getElem? he
  have hri:rows[i]? = some e.2:=by rw[er,List.getElem?_map,he]; rfl
  have hrm:e.2∈rows:=List.mem_of_getElem? hri
  have le:=(ok.sg e em).2.2.1
  have il:i < 64:=by have:=(List.getElem?_eq_some_iff.mp he).1; have:=ok.l; omega
  have q3:=b3 _ _ (av e1 dh (by intro z; cases z)) e1
  have l3:=b3 _ _ (av e2 dh (by intro z; cases z)) e2
  refine⟨q,_,rfl,.of q3,rfl,?_⟩
  refine⟨_,_,rfl,_,_,rfl,rfl,?_⟩
  refine⟨_,.inl (.of l3),?_⟩
  refine⟨_,rfl,by rw[List.length_map]; omega,by rw[List.length_map]; omega,?_⟩
  rw[List.length_map]
  refine jO (lo:=0) (n:=(e.2.length:Int).toNat) (λj σ H'=>eR p1 H2 H'/\(∃ kvs,bJ H' p1 rows (ay (rows.take i)++bI e.2 j) (bR (ay (rows.take i)++bI e.2 j)) kvs/\kvs.length<=(ay (rows.take i)++bI e.2 j).length/\oz H2 kvs)/\∃ v4 v5,σ=[some (.ref a),some (.ref p1),some (.int e.1),some (.ref l),v4,v5]) ⟨b3,⟨kvs,by rw[show bI e.2 0=[] from rfl,List.append_nil]; exact st,by rw[show bI e.2 0=[] from rfl,List.append_nil]; exact lk,nv⟩,_,_,rfl⟩ ?_ ?_
  ·rintro j σ H4 hj ⟨b4,⟨kvs4,st4,lk4,nv4⟩,v4,v5,rfl⟩
   rw[Int.toNat_natCast]at hj
   obtain⟨PS,ePS⟩ : ∃ PS,PS=ay (rows.take i)++bI e.2 j:=⟨_,rfl⟩
   rw[<- ePS]at st4 lk4
   have lPS:PS.length<=390:=by
    have:=qD (rows:=rows.take i) λr hr=>by
     have hr:=List.mem_of_mem_take hr
     rw[er]at hr
     obtain⟨e1,h1,rfl⟩:=List.mem_map.mp hr
     exact (ok.sg e1 h1).2.2.1
    rw[ePS,List.length_append]
    have l2:(bI e.2 j).length=j:=by unfold bI; rw[List.length_map,List.length_range]
    rw[List.length_take]at this
    omega
   obtain⟨x,hx⟩ : ∃ x,e.2[j]? = some x:=⟨_,List.getElem?_eq_getElem hj⟩
   have tk:e.2.take (j+1)=e.2.take j++[x]:=by rw[List.take_add_one,hx]; rfl
   obtain⟨b,eb⟩ : ∃ b,b=e.2.take j:=⟨_,rfl⟩
   rw[<- eb]at tk
   have l4:=b4 _ _ (av e2 dh (by intro z; cases z)) e2
   obtain⟨xs4,ep4,dh4,_⟩:=st4.dq.ex
   refine⟨_,rfl,_,.of l4,λp5 H5 g5=>?_⟩
   rw[Int.zero_add,d7,<- eb]at g5
   refine⟨_,.of g5.at_,λp6 H6 g6=>?_⟩
   have s46:=g5.sm.trans g6.sm
   dsimp only [bD]
   refine kP (λσ' H'=>σ'=[some (.ref a),some (.ref p1),some (.int e.1),some (.ref l),some (.int (0+(j:Int))),some (.ref p6)]/\eR p1 H6 H'/\∃ kvs8,bJ H' p1 rows PS (λc=>bR PS c\/c=b) kvs8/\kvs8.length<=PS.length+1/\oz H2 kvs8/\b∈kvs8.map λe=>e.1) (λnx hnx=>?_) λσ' H8 z=>?_
   ·refine⟨p1,kvs4,rfl,st4.dq.same s46,λp7 H7 g7=>?_⟩
    have s47:=s46.trans g7.sm
    have st7:=st4.same s47
    refine⟨p6,kvs4,b,rfl,st7.dq,g7.sm _ _ g6.at_,dC (by omega),λv hv=>?_,λhv H8 d8 so=>?_⟩
    ·obtain⟨e0,he0,e01,e02⟩:=fJ hv
     have kb:b∈kvs4.map λe=>e.1:=List.mem_map.mpr ⟨e0,he0,e01⟩
     have kyb:=(st7.key b).mp kb
     refine hnx _ _ ⟨rfl,λc u _ z=>g7.sm _ _ z,kvs4,st7.kyE λc=>⟨.inl,λz=>?_⟩,by omega,nv4,kb⟩
     rcases z with z | z
     ·exact z
     ·rw[z]; exact kyb
    ·rw[xA hv]at d8
     have nb : ¬ bR PS b:=λz=>by
      obtain⟨v,hv'⟩:=i6 ((st7.key b).mpr z)
      rw[hv]at hv'; cases hv'
     have np:p7≠p1:=λz=>by have:=g7.nw; rw[z,s46 _ _ dh4]at this; cases this
     have n2:H2 p7=none:=by
      cases c:H2 p7 with
      | none=>rfl
      | some u =>
       have:=s46 _ _ (b4 _ _ np c)
       rw[g7.nw]at this; cases this
     have nn : ∀ e∈kvs4,e.2.2 ≠ .ref p7:=λe0 he0 z=>by
      obtain⟨d1,ks1,a1,a2,_⟩:=st4.val e0 he0
      rw[z]at a1; cases a1
      have:=s46 _ _ a2
      rw[g7.nw]at this; cases this
     refine hnx _ _ ⟨rfl,λc u n z=>by rw[so c n]; exact g7.sm _ _ z,_,st7.new nb g7.at_ nn d8 so,by rw[List.length_append]; simp; omega,λe0 he0 d hd=>?_,by rw[List.map_append]; exact List.mem_append_right _ (List.mem_singleton.mpr rfl)⟩
     rcases List.mem_append.mp he0 with z | z
     ·exact nv4 e0 z d hd
     ·cases List.mem_singleton.mp z
      cases hd
      exact n2
   ·obtain⟨rfl,b8,kvs8,st8,lk8,nv8,kb8⟩:=z
    have b28:eR p1 H2 H8:=λc u n z=>b8 c u n (s46 _ _ (b4 c u n z))
    have l8:=b28 _ _ (av e2 dh (by intro z; cases z)) e2
    have q8:=b8 _ _ (λz=>by have:=g6.nw; rw[z,g5.sm _ _ dh4]at this; cases this) g6.at_
    have gl:=AN pf hrm hj
    rw[tk]at gl
    refine⟨_,.inl (.of l8),?_⟩
    rw[List.length_map]
    refine aF (λc=>?A) (λc=>?B)
    case' A =>
     refine⟨_,rfl,_,.of l8,λp9 H9 g9=>?_⟩
     rw[Int.zero_add,show ((j:Int)+1)=((j+1:Nat):Int) by omega,d7,tk]at g9
     refine⟨_,.of g9.at_,λq10 H10 g10=>?_⟩
     have s8:af H8 H10:=g9.sm.trans g10.sm
     have h10:H10 q10=some (.tup ((bg rows (b++[x])).map V.int)):=by
      rw[gl,if_pos (by have:=of_decide_eq_true c; omega)]; exact g10.at_
     clear g9 g10
    case' B =>
     refine⟨sz rfl,λq10 H10 g10=>?_⟩
     have s8:af H8 H10:=g10.sm
     have h10:H10 q10=some (.tup ((bg rows (b++[x])).map V.int)):=by
      rw[gl,if_neg (λz=>c (decide_eq_true (by omega)))]; exact g10.at_
     clear g10
    all_goals
     have st10:=st8.same s8
     obtain⟨v,hv⟩:=i6 kb8
     obtain⟨e0,he0,e01,e02⟩:=fJ hv
     obtain⟨d,ks,a1,a2,a3⟩:=st10.val e0 he0
     rw[e02]at a1
     subst a1
     refine⟨p1,p6,kvs8,b,.ref d,rfl,rfl,st10.dq,s8 _ _ q8,hv,?_⟩
     refine⟨_,.int x,.inl (.of (s8 _ _ l8)),?_,?_⟩
     ·rw[Int.zero_add]
      exact aV (by rw[List.getElem?_map,hx]; rfl)
     refine⟨d,_,rfl,dM.k (k:=.inl x) a2 (dC (by have:=a3.len; omega)),?_⟩
     have nd:H2 d=none:=nv8 e0 he0 d e02
     refine⟨λc u n z=>?_,⟨kvs8,?_,by rw[qE,<- List.append_assoc,<- ePS,List.length_append]; exact lk8,nv8⟩,_,_,rfl⟩
     ·rw[ai (λz'=>by rw[z',nd]at z; cases z)]
      exact s8 _ _ (b28 c u n z)
     ·rw[qE,<- List.append_assoc,<- ePS,tk]
      refine (st10.put hv a2 h10 rfl).kyE λc=>?_
      constructor
      ·rintro (⟨y,hy⟩ | rfl)
       ·exact⟨y,List.mem_append_left _ hy⟩
       ·exact⟨x,List.mem_append_right _ (List.mem_singleton.mpr rfl)⟩
      ·rintro⟨y,hy⟩
       rcases List.mem_append.mp hy with z | z
       ·exact .inl ⟨y,z⟩
       ·exact .inr (List.append_inj_left' (List.mem_singleton.mp z) rfl)
  ·rintro σ H4 ⟨b4,⟨kvs4,st4,lk4,nv4⟩,v4,v5,rfl⟩
   rw[Int.toNat_natCast]at st4 lk4
   have et:ay (rows.take (i+1))=ay (rows.take i)++bI e.2 e.2.length:=by
    rw[List.take_add_one,hri]
    rw[show (some e.2).toList=[e.2] from rfl,x4]
   refine⟨b4,⟨kvs4,?_,by rw[et]; exact lk4,nv4⟩,_,_,_,_,rfl⟩
   rw[et]
   exact st4
 ·rintro σ H3 ⟨b3,⟨kvs,st,lk,nv⟩,v2,v3,v4,v5,rfl⟩
  have sm:af H H3:=λc u e=>b3 c u (λz=>by rw[z,g1.nw]at e; cases e) (s2 _ _ (g1.sm _ _ e))
  rw[List.length_map,lps,<- lr,List.take_length]at st lk
  have:=qD (rows:=rows) λr hr=>by
   rw[er]at hr
   obtain⟨e1,h1,rfl⟩:=List.mem_map.mp hr
   exact (ok.sg e1 h1).2.2.1
  have:=ok.l
  rw[er]at st lk
  exact k p1 kvs H3 sm g1.nw st lk
theorem cy{σ:St}{i:Nat}{v:V}{H:Hp}{Q:VK}(h:σ[i]? = some (some v))(q:Q v H):mV i σ H Q:=by
 unfold mV
 rw[h]
 exact q
theorem sF{K:PySem.W.Frag}{H:Hp}{a b:Addr}{ns ms:List Int}{neg:Bool}{Q:VK}(h1:H a=some (.tup (ns.map V.int)))(h2:H b=some (.tup (ms.map V.int)))(q:Q (.bl (if neg then !decide (ns=ms) else decide (ns=ms))) H) :
 fX K neg (.ref a) (.ref b) H Q:=by
 refine⟨_,_,aI.tup (.of h1) (cu.ints ns),aI.tup (.of h2) (cu.ints ms),PySem.W.ke_shaped_ints ns,PySem.W.ke_shaped_ints ms,?_⟩
 have e:PyData.eqv (.tuple (ns.map PyData.int)) (.tuple (ms.map PyData.int))=decide (ns=ms):=by
  show PyData.eqvAll _ _=_
  exact PySem.W.ked_eqvAll ns ms
 rw[e]
 exact q
def bP(rows PS:List (List Int))(b c:List Int)(x:Int):Option ab :=
 if b++[x]∈PS/\c++[x]∈PS/\bg rows (c++[x])≠bg rows (b++[x]) then some (bg rows (b++[x]),bg rows (c++[x])) else none
structure cr (H:Hp) (F:Int->Option ab) (S:Int->Prop) (n:Nat) (ks:List (am × V)):Prop where
 nd:(ks.map λy=>y.1).Nodup
 int : ∀ y∈ks,∃ x:Int,y.1=.inl x
 yes : ∀ x g,S x->F x=some g->∃ q,aM ks (.inl x)=some (.ref q)/\aH H g q
 no : ∀ x,(S x->F x=none)->aM ks (.inl x)=none
 len:ks.length<=n
theorem cr.mono{H H':Hp}{F:Int->Option ab}{S:Int->Prop}{n:Nat}{ks:List (am × V)}(h:cr H F S n ks)(s : ∀ q xs,H q=some (.tup xs)->H' q=some (.tup xs)):cr H' F S n ks :=
 ⟨h.nd,h.int,λx g a b=>by
  obtain⟨q,h1,c,d,h2,h3,h4⟩:=h.yes x g a b
  exact⟨q,h1,c,d,s _ _ h2,s _ _ h3,s _ _ h4⟩,h.no,h.len⟩
theorem cr.skip{H:Hp}{F:Int->Option ab}{S S':Int->Prop}{n:Nat}{ks:List (am × V)}{x:Int}(h:cr H F S n ks)(hS : ∀ z,S' z ↔ S z\/z=x)(hF:F x=none):cr H F S' (n+1) ks:=by
 refine⟨h.nd,h.int,λz g a b=>?_,λz a=>h.no z λc=>a ((hS z).mpr (.inl c)),by have:=h.len; omega⟩
 rcases (hS z).mp a with a | a
 ·exact h.yes z g a b
 ·rw[a,hF]at b; cases b
theorem cr.put{H:Hp}{F:Int->Option ab}{S S':Int->Prop}{n:Nat}{ks:List (am × V)}{x:Int}{g:ab}{q:Addr}(h:cr H F S n ks)(hS : ∀ z,S' z ↔ S z\/z=x)(hF:F x=some g)(hq:aH H g q):cr H F S' (n+1) (ba ks (.inl x) (.ref q)):=by
 refine⟨?_,λy hy=>?_,λz g' a b=>?_,λz a=>?_,by have:=fU ks (.inl x) (.ref q); have:=h.len; omega⟩
 ·rcases jG ks (.inl x) (.ref q) with ⟨_,z2⟩ | ⟨z,z2⟩
  ·rw[z2]; exact h.nd
  ·rw[z2]
   refine List.nodup_append.mpr ⟨h.nd,by simp,λu hu v hv=>?_⟩
   rw[List.mem_singleton.mp hv]
   exact λe=>z (e ▸ hu)
 ·have hm:y.1∈(ba ks (.inl x) (.ref q)).map λx=>x.1:=List.mem_map.mpr ⟨y,hy,rfl⟩
  have old:y.1∈(ks.map λx=>x.1)->∃ x:Int,y.1=.inl x:=λz=>by
   obtain⟨u,hu,eu⟩:=List.mem_map.mp z
   obtain⟨x,ex⟩:=h.int u hu
   exact⟨x,eu.symm.trans ex⟩
  rcases jG ks (.inl x) (.ref q) with ⟨_,z2⟩ | ⟨_,z2⟩
  ·rw[z2]at hm; exact old hm
  ·rw[z2]at hm
   rcases List.mem_append.mp hm with z | z
   ·exact old z
   ·exact⟨x,List.mem_singleton.mp z⟩
 ·rw[dA]
  by_cases c:(Sum.inl z:am)=.inl x
  ·rw[if_pos c]
   cases Sum.inl.inj c
   rw[hF]at b; cases b
   exact⟨q,rfl,hq⟩
  ·rw[if_neg c]
   rcases (hS z).mp a with a | a
   ·exact h.yes z g' a b
   ·exact absurd (by rw[a]) c
 ·rw[dA]
  by_cases c:(Sum.inl z:am)=.inl x
  ·cases Sum.inl.inj c
   have:=a ((hS x).mpr (.inr rfl))
   rw[hF]at this; cases this
  ·rw[if_neg c]
   exact h.no z λy=>a ((hS z).mpr (.inl y))
def v8:Sp:=λvs H Q _=>∃ (p b c:Addr) (rows PS:List (List Int)) (ky:List Int->Prop) (kvs:List (aE × Addr × V)) (kb kc:List Int),vs=[.ref p,.ref b,.ref c]/\bJ H p rows PS ky kvs/\PS.length<=390 /\
 H b=some (.tup (kb.map V.int))/\H c=some (.tup (kc.map V.int))/\ky kb/\ky kc/\kb≠kc /\
 ∀ d ks H',af H H'->H d=none->H' d=some (.dK ks)->cr H' (bP rows PS kb kc) (λ_=>True) 390 ks->Q (.ref d) H'
theorem AH (T:Txt K mg t):be P w K mg base "apart_behind" 1 t.oa t.mN ["steps", "one", "other"] v8:=by
 refine⟨T.Bt,T.uI.kp,T.C6,T.uI.okQ jk (λvs H Q E h=>by obtain⟨p,b,c,rows,PS,ky,kvs,kb,kc,rfl,_⟩:=h; rfl) λcdv A outer s H vs Q E hr h=>?_⟩
 obtain⟨p,b,c,rows,PS,ky,kvs,kb,kc,rfl,st,lP,hb,hc,kyb,kyc,ne,k⟩:=h
 have hu:=hr.units
 refine⟨_,(aq (aX (i:=3) jk.nd rfl (.inl rfl) lj)
  (aq (kY (bL PassesOwn.never rfl (jq (iO hu (aa 0) (aa 1))) (cw (K:=K) rfl rfl (aY (aB (i:=4) jk.nd rfl (.inl rfl)) (aY (aB (i:=5) jk.nd rfl (.inl rfl)) cv))) (ap (bB (fR (w5 (bq (Bm hu) (aa 4) (iO hu (aa 0) (aa 2)) (by with_unfolding_all rfl)) (w4 (bq (fm (K:=K) rfl hu) (jv hu (iO hu (aa 0) (aa 2)) (aa 4)) (aa 5) (aW _))))) (ap (iN hu (aa 3) (aa 4) (bC (ae (aa 5) (ae (jv hu (iO hu (aa 0) (aa 2)) (aa 4)) ag))))) bA))))
  (ap (aK (aa 3))))),?_⟩
 refine λpf H1 g1=>?_
 have st1:=st.same g1.sm
 obtain⟨v1,hv1⟩:=i6 ((st1.key kb).mpr kyb)
 obtain⟨e1,he1,e11,e12⟩:=fJ hv1
 obtain⟨d1,ks1,a1,a2,a3⟩:=st1.val e1 he1
 rw[e12]at a1; subst a1
 obtain⟨v2,hv2⟩:=i6 ((st1.key kc).mpr kyc)
 obtain⟨e2,he2,e21,e22⟩:=fJ hv2
 obtain⟨d2,ks2,b1,b2,b3'⟩:=st1.val e2 he2
 rw[e22]at b1; subst b1
 rw[e11]at a3
 rw[e21]at b3'
 have nd:d2≠d1:=λz=>by
  subst z
  exact ne (by rw[<- e11,<- e21]; exact st1.inj e1 he1 e2 he2 (e12.trans e22.symm))
 have npd:pf≠d1:=λz=>by
  obtain⟨d0,k0,z1,z2,_⟩:=st.val e1 he1
  rw[e12]at z1; cases z1
  have:=g1.nw; rw[z,z2]at this; cases this
 refine⟨d1,.dK ks1,(λo v z=>by rw[a2]at z; cases z),?_⟩
 refine⟨p,b,kvs,kb,.ref d1,rfl,rfl,st1.dq,g1.sm _ _ hb,hv1,?_⟩
 refine⟨d1,ks1,rfl,a2,λob=>?_⟩
 obtain⟨H2,eH2⟩ : ∃ H2,H2=upd H1 d1 (.frz ob (.dK ks1)):=⟨_,rfl⟩
 have f2:H2 d1=some (.frz ob (.dK ks1)):=by rw[eH2,aR]
 have o2 : ∀ c u,c≠d1->H1 c=some u->H2 c=some u:=λc u n e=>by rw[eH2,ai n]; exact e
 have o2' : ∀ c u,c≠d1->H2 c=some u->H1 c=some u:=λc u n e=>by rw[eH2,ai n]at e; exact e
 rw[<- eH2]
 have dq2:DQ H2 p kvs:=sM st1.dq a2 λc n=>by rw[eH2,ai n]
 have tu2 : ∀ q xs,H1 q=some (.tup xs)->H2 q=some (.tup xs):=λq xs z=>o2 _ _ (av z a2 (by intro z; cases z)) z
 have pf2:=o2 _ _ npd g1.at_
 clear eH2
 refine BB (λi σ H'=>eR pf H2 H'/\(∃ ksf,H' pf=some (.dK ksf)/\cr H' (bP rows PS kb kc) (λx=>(Sum.inl x:am)∈(ks1.take i).map λy=>y.1) i ksf)/\∃ v4 v5,σ=[some (.ref p),some (.ref b),some (.ref c),some (.ref pf),v4,v5]) ⟨λc u _ e=>e,⟨[],pf2,.nil,(λy hy=>nomatch hy),(λx g a=>nomatch a),(λx _=>rfl),Nat.zero_le _⟩,_,_,rfl⟩ (λi σ H' _ z=>z.1 _ _ npd.symm f2) ?_ ?_
 ·rintro i key v pt σ H3 H4 hkv ⟨b3,⟨ksf,f3,fn⟩,v4,v5,rfl⟩ g4
  obtain⟨x,hx⟩:=a3.int _ (List.mem_of_getElem? hkv)
  have hx:key=.inl x:=hx
  subst hx
  have hv:=iC a3.nd hkv
  have inP:kb++[x]∈PS:=Classical.byContradiction λz=>by rw[a3.no x z]at hv; cases hv
  obtain⟨q1,y1,y2⟩:=a3.yes x inP
  rw[hv]at y1
  cases y1
  have hi:i < ks1.length:=(List.getElem?_eq_some_iff.mp hkv).1
  have b4:eR pf H2 H4:=λc u n e=>g4.sm _ _ (b3 c u n e)
  obtain⟨xs2,ep2,dh2,_⟩:=dq2.ex
  have npf : ∀ q xs,H2 q=some (.tup xs)->q≠pf:=λq xs z=>av z pf2 (by intro z; cases z)
  have tu4 : ∀ q xs,H1 q=some (.tup xs)->H4 q=some (.tup xs):=λq xs z=>b4 _ _ (npf _ _ (tu2 _ _ z)) (tu2 _ _ z)
  have dq4:DQ H4 p kvs:=by
   obtain⟨⟨xs,ep,h1,h2⟩,kk,n,l⟩:=dq2
   exact⟨⟨xs,ep,b4 _ _ (av h1 pf2 (by intro z; cases z)) h1,h2⟩,λx hx=>b4 _ _ (npf _ _ (kk x hx)) (kk x hx),n,l⟩
  have npd2:pf≠d2:=λz=>by
   obtain⟨d0,k0,z1,z2,_⟩:=st.val e2 he2
   rw[e22]at z1; cases z1
   have:=g1.nw; rw[z,z2]at this; cases this
  have d24:H4 d2=some (.dK ks2):=b4 _ _ npd2.symm (o2 _ _ nd b2)
  have take : ∀ z:Int,(Sum.inl z:am)∈((ks1.take (i+1)).map λy=>y.1) ↔ ((Sum.inl z:am)∈(ks1.take i).map λy=>y.1)\/z=x:=λz=>by
   rw[List.take_add_one,hkv,List.map_append,List.mem_append]
   constructor
   ·rintro (h | h)
    ·exact .inl h
    ·exact .inr (Sum.inl.inj (List.mem_singleton.mp h))
   ·rintro (h | h)
    ·exact .inl h
    ·exact .inr (by rw[h]; exact List.mem_singleton.mpr rfl)
  have xnew:(Sum.inl x:am)∉(ks1.take i).map λy=>y.1:=λz=>by
   obtain⟨j,hj⟩:=List.getElem?_of_mem z
   have jl:=(List.getElem?_eq_some_iff.mp hj).1
   rw[List.length_map,List.length_take]at jl
   rw[List.getElem?_map,List.getElem?_take_of_lt (by omega),<- List.getElem?_map]at hj
   have h2:(ks1.map λy=>y.1)[i]? = some (Sum.inl x):=by rw[List.getElem?_map,hkv]; rfl
   have:=(List.getElem?_inj (by rw[List.length_map]; omega) a3.nd).mp (hj.trans h2.symm)
   omega
  refine⟨pt,_,rfl,.of g4.at_,rfl,?_⟩
  refine⟨_,_,rfl,_,_,rfl,rfl,?_⟩
  refine⟨p,c,kvs,kc,.ref d2,rfl,rfl,dq4,tu4 _ _ (g1.sm _ _ hc),hv2,?_⟩
  refine⟨d2,_,rfl,dz.k (k:=.inl x) d24,?_⟩
  have fn4:=fn.mono λq xs z=>g4.sm _ _ z
  have hc4:=tu4 _ _ (g1.sm _ _ hc)
  by_cases inC:kc++[x]∈PS
  ·obtain⟨q2,z1,z2⟩:=b3'.yes x inC
   refine aF (λ_=>?_) (λz=>absurd (show (aM ks2 (.inl x)).isSome=true by rw[z1]; rfl) z)
   refine⟨p,c,kvs,kc,.ref d2,rfl,rfl,dq4,hc4,hv2,?_⟩
   refine⟨d2,_,rfl,by have:=dz.k (k:=.inl x) d24; rw[z1]at this; exact this,?_⟩
   refine cy (by rfl) ?_
   refine sF (tu4 _ _ z2) (tu4 _ _ y2) ?_
   refine aF (λz=>?_) (λz=>?_)
   ·have ne':bg rows (kc++[x])≠bg rows (kb++[x]):=λe=>by
     have z:(!decide (bg rows (kc++[x])=bg rows (kb++[x])))=true:=z
     rw[decide_eq_true e]at z; cases z
    have hF:bP rows PS kb kc x=some (bg rows (kb++[x]),bg rows (kc++[x])):=if_pos ⟨inP,inC,ne'⟩
    refine⟨p,c,kvs,kc,.ref d2,rfl,rfl,dq4,hc4,hv2,?_⟩
    refine⟨d2,_,rfl,by have:=dz.k (k:=.inl x) d24; rw[z1]at this; exact this,?_⟩
    refine⟨sz rfl,λp6 H6 g6=>?_⟩
    refine⟨pf,_,rfl,dM.k (k:=.inl x) (g6.sm _ _ (g4.sm _ _ f3)) (dC (by have:=fn.len; have:=a3.len; omega)),?_⟩
    have f6:=g6.sm _ _ (g4.sm _ _ f3)
    refine⟨λc u n e=>by rw[ai n]; exact g6.sm _ _ (b4 c u n e),⟨_,aR,?_⟩,_,_,rfl⟩
    refine ((fn4.mono λq xs z=>g6.sm _ _ z).put take hF ⟨q1,q2,g6.at_,g6.sm _ _ (tu4 _ _ y2),g6.sm _ _ (tu4 _ _ z2)⟩).mono λq xs z=>?_
    rw[ai (av z f6 (by intro z; cases z))]; exact z
   ·have e:bg rows (kc++[x])=bg rows (kb++[x]):=Classical.byContradiction λe=>z (by show (!decide (bg rows (kc++[x])=bg rows (kb++[x])))=true; rw[decide_eq_false e]; rfl)
    exact⟨b4,⟨ksf,g4.sm _ _ f3,fn4.skip take (if_neg λy=>y.2.2 e)⟩,_,_,rfl⟩
  ·have z1:=b3'.no x inC
   refine aF (λz=>absurd (show (aM ks2 (.inl x)).isSome=true from z) (by rw[z1]; decide)) (λ_=>?_)
   refine Ac ?_
   exact⟨b4,⟨ksf,g4.sm _ _ f3,fn4.skip take (if_neg λy=>inC y.2.1)⟩,_,_,rfl⟩
 ·rintro σ H3 ⟨b3,⟨ksf,f3,fn⟩,v4,v5,rfl⟩
  refine⟨⟨ob,b3 _ _ npd.symm f2⟩,?_⟩
  rw[List.take_length]at fn
  have nn:pf≠d1:=npd
  refine k pf ksf _ (λc u e=>?_) g1.nw (by rw[ai nn]; exact f3) ?_
  ·by_cases c1:c=d1
   ·subst c1
    have:=g1.sm _ _ e
    rw[a2]at this
    rw[aR,<- this]
   ·rw[ai c1]
    exact b3 _ _ (λz=>by rw[z,g1.nw]at e; cases e) (o2 _ _ c1 (g1.sm _ _ e))
  ·refine (show cr H3 (bP rows PS kb kc) (λ_=>True) 390 ksf from ⟨fn.nd,fn.int,λx g _ hg=>?_,λx hx=>fn.no x λ_=>hx trivial,by have:=fn.len; have:=a3.len; omega⟩).mono λq xs z=>by
    rw[ai (av z (b3 _ _ npd.symm f2) (by intro z; cases z))]; exact z
   refine fn.yes x g ?_ hg
   unfold bP at hg
   split at hg
   ·rename_i z
    obtain⟨q,hq,_⟩:=a3.yes x z.1
    by_cases c1:(Sum.inl x:am)∈ks1.map λy=>y.1
    ·exact c1
    ·rw[kx c1]at hq; cases hq
   ·cases hg
structure Gr (H:Hp) (a:Addr) (kvs:List (ab × Addr × V)) (F:ab->Int->Option ab) (N:ab->Prop):Prop where
 dp:DP H a kvs
 key : ∀ k,k∈kvs.map (λe=>e.1) ↔ N k
 val : ∀ e∈kvs,∃ d ks,e.2.2=.ref d/\H d=some (.dK ks)/\cr H (F e.1) (λ_=>True) 390 ks
theorem Gr.same{H H':Hp}{a:Addr}{kvs:List (ab × Addr × V)}{F:ab->Int->Option ab}{N:ab->Prop}(h:Gr H a kvs F N)(s:af H H'):Gr H' a kvs F N :=
 ⟨h.dp.same s,h.key,λe he=>let ⟨d,ks,a,b,c⟩:=h.val e he; ⟨d,ks,a,s _ _ b,c.mono λq xs z=>s _ _ z⟩⟩
theorem Gr.nE{H:Hp}{a:Addr}{kvs:List (ab × Addr × V)}{F:ab->Int->Option ab}{N N':ab->Prop}(h:Gr H a kvs F N)(e : ∀ k,N k ↔ N' k):Gr H a kvs F N':=⟨h.dp,λk=>(h.key k).trans (e k),h.val⟩
theorem iE{kvs:List (ab × Addr × V)}{b:ab}(h:b∉kvs.map λe=>e.1):az kvs b=none:=by
 unfold az
 rw[Option.map_eq_none_iff,List.find?_eq_none]
 intro x hx z
 exact h (List.mem_map.mpr ⟨x,hx,of_decide_eq_true z⟩)
theorem eW{kvs:List (ab × Addr × V)}{b:ab}{v:V}(h:az kvs b=some v) : ∃ e∈kvs,e.1=b/\e.2.2=v:=by
 unfold az at h
 obtain⟨e,he,rfl⟩:=Option.map_eq_some_iff.mp h
 exact⟨e,List.mem_of_find?_eq_some he,by have z:=List.find?_some he; exact of_decide_eq_true z,rfl⟩
theorem eA{kvs:List (ab × Addr × V)}{b:ab}(h:b∈kvs.map λe=>e.1) : ∃ v,az kvs b=some v:=by
 cases e:az kvs b with
 | some v=>exact⟨v,rfl⟩
 | none =>
  unfold az at e
  rw[Option.map_eq_none_iff,List.find?_eq_none]at e
  obtain⟨x,hx,rfl⟩:=List.mem_map.mp h
  exact absurd (decide_eq_true rfl) (e x hx)
theorem iP{kvs:List (ab × Addr × V)}{b:ab}{q:Addr}{v:V}(h:az kvs b=none):bV kvs b q v=kvs++[(b,q,v)]:=by
 unfold bV
 rw[h]
 rfl
theorem Gr.put{H H':Hp}{a q d:Addr}{kvs:List (ab × Addr × V)}{F:ab->Int->Option ab}{N:ab->Prop}{k:ab}{ks:List (am × V)}(h:Gr H a kvs F N)(nk : ¬ N k)(hd:H d=some (.dK ks))(hf:cr H (F k) (λ_=>True) 390 ks)
 (dp:DP H' a (bV kvs k q (.ref d))) (so : ∀ c,c≠a->H' c=H c):Gr H' a (kvs++[(k,q,.ref d)]) F (λx=>N x\/x=k):=by
 obtain⟨xs,ep,h1,_⟩:=h.dp.ex
 have tu : ∀ q xs,H q=some (.tup xs)->H' q=some (.tup xs):=λq xs z=>by rw[so q (av z h1 (by intro z; cases z))]; exact z
 have nv:az kvs k=none:=iE λz=>nk ((h.key k).mp z)
 rw[iP nv]at dp
 refine⟨dp,λx=>?_,λe he=>?_⟩
 ·rw[List.map_append,List.mem_append,h.key]
  simp
 ·rcases List.mem_append.mp he with he | he
  ·obtain⟨d1,ks1,a1,a2,a3⟩:=h.val e he
   exact⟨d1,ks1,a1,by rw[so d1 (av a2 h1 (by intro z; cases z))]; exact a2,a3.mono tu⟩
  ·cases List.mem_singleton.mp he
   exact⟨d,ks,rfl,by rw[so d (av hd h1 (by intro z; cases z))]; exact hd,hf.mono tu⟩
theorem jz{α:Type}{ns:List α}{i:Nat}{x:α}(nd:ns.Nodup)(h:ns[i]? = some x):x∉ns.take i:=λz=>by
 obtain⟨j,hj⟩:=List.getElem?_of_mem z
 have jl:=(List.getElem?_eq_some_iff.mp hj).1
 rw[List.length_take]at jl
 rw[List.getElem?_take_of_lt (by omega)]at hj
 have:=(List.getElem?_inj (by omega) nd).mp (hj.trans h.symm)
 omega
theorem cK{α:Type}{ns:List α}{i:Nat}{x y:α}(h:ns[i]? = some x):y∈ns.take (i+1) ↔ y∈ns.take i\/y=x:=by
 rw[List.take_add_one,h,List.mem_append]
 exact or_congr Iff.rfl List.mem_singleton
def cJ(PS:List (List Int)):ab->Prop:=λk=>bR PS k.1/\bR PS k.2/\k.1≠k.2
def wa:Sp:=λvs H Q _=>∃ (p:Addr) (rows PS:List (List Int)) (kvs:List (aE × Addr × V)),vs=[.ref p]/\bJ H p rows PS (bR PS) kvs/\PS.length<=390/\kvs.length<=400 /\
 ∀ a kvA H',af H H'->H a=none->Gr H' a kvA (λk=>bP rows PS k.1 k.2) (cJ PS)->kvA.length<=kvs.length*kvs.length->Q (.ref a) H'
theorem AG (T:Txt K mg t):be P w K mg base "apart_of" 2 t.n6 t.mM ["steps"] wa:=by
 refine⟨T.Bs,T.uH.kp,T.C5,T.uH.okQ jj (λvs H Q E h=>by obtain⟨p,rows,PS,kvs,rfl,_⟩:=h; rfl) λcdv A outer s H vs Q E hr h=>?_⟩
 obtain⟨p,rows,PS,kvs,rfl,st,lP,lk,k⟩:=h
 have hu:=hr.units
 refine⟨_,(aq (aX (i:=1) jj.nd rfl (.inl rfl) iK)
  (aq (bL PassesOwn.never rfl (qi (aa 0)) (aB (i:=2) jj.nd rfl (.inl rfl)) (ap (bL PassesOwn.never rfl (qi (aa 0)) (aB (i:=3) jj.nd rfl (.inl rfl)) (ap (bB (bq (fm (K:=K) rfl hu) (aa 2) (aa 3) (aW _)) (ap (iM hu (aa 1) (bC (ae (aa 2) (ae (aa 3) ag))) (aU (AH T) hr (ae (aa 0) (ae (aa 2) (ae (aa 3) ag)))))) bA)))))
  (ap (aK (aa 1))))),?_⟩
 refine λpa H1 g1=>?_
 obtain⟨ns,ens⟩ : ∃ ns,ns=kvs.map λe=>e.1:=⟨_,rfl⟩
 have nsN:ns.Nodup:=by rw[ens]; exact st.dq.nd
 have nsk : ∀ b,b∈ns ↔ bR PS b:=λb=>by rw[ens]; exact st.key b
 have lns:ns.length=kvs.length:=by rw[ens,List.length_map]
 obtain⟨xs0,ep0,dh,_⟩:=st.dq.ex
 have st1:=st.same g1.sm
 refine⟨p,kvs,rfl,st1.dq,λo ho=>?_⟩
 rw[g1.sm _ _ dh]at ho
 cases ho
 have G0:Gr H1 pa [] (λk=>bP rows PS k.1 k.2) (λk=>k.1≠k.2/\k.1∈ns.take 0/\k.2∈ns):=⟨DP.new g1,λk=>⟨(λz=>nomatch z),(λz=>nomatch z.2.1)⟩,λe he=>nomatch he⟩
 refine sv (λi σ H'=>af H H'/\(∃ kvA,Gr H' pa kvA (λk=>bP rows PS k.1 k.2) (λk=>k.1≠k.2/\k.1∈ns.take i/\k.2∈ns)/\kvA.length<=kvs.length*i)/\∃ v2 v3,σ=[some (.ref p),some (.ref pa),v2,v3]) ⟨g1.sm,⟨[],G0,Nat.zero_le _⟩,_,_,rfl⟩ (λi σ H' _ z=>z.1 _ _ dh) ?_ ?_
 ·rintro i b qb vb σ H2 hi ⟨s2,⟨kvA,gr,lA⟩,v2,v3,rfl⟩
  have hbi:ns[i]? = some b:=by rw[ens,List.getElem?_map,hi]; rfl
  have bm:b∈ns:=List.mem_of_getElem? hbi
  have il:i < kvs.length:=(List.getElem?_eq_some_iff.mp hi).1
  have kb0:H qb=some (.tup (b.map V.int)):=st.dq.key _ (List.mem_of_getElem? hi)
  refine⟨p,kvs,rfl,(st.same s2).dq,λo ho=>?_⟩
  rw[s2 _ _ dh]at ho
  cases ho
  refine sv (λj σ H'=>af H H'/\(∃ kvA,Gr H' pa kvA (λk=>bP rows PS k.1 k.2) (λk=>k.1≠k.2/\(k.1∈ns.take i/\k.2∈ns\/k.1=b/\k.2∈ns.take j))/\kvA.length<=kvs.length*i+j)/\∃ v3,σ=[some (.ref p),some (.ref pa),some (.ref qb),v3]) ⟨s2,⟨kvA,gr.nE λx=>⟨λz=>⟨z.1,.inl z.2⟩,λz=>⟨z.1,z.2.elim id λy=>nomatch y.2⟩⟩,lA⟩,_,rfl⟩ (λi σ H' _ z=>z.1 _ _ dh) ?_ ?_
  ·rintro j c qc vc σ H3 hj ⟨s3,⟨kvB,gr3,lB⟩,v3,rfl⟩
   have hcj:ns[j]? = some c:=by rw[ens,List.getElem?_map,hj]; rfl
   have cm:c∈ns:=List.mem_of_getElem? hcj
   have jl:j < kvs.length:=(List.getElem?_eq_some_iff.mp hj).1
   have kc0:H qc=some (.tup (c.map V.int)):=st.dq.key _ (List.mem_of_getElem? hj)
   dsimp only [bD]
   unfold jd mB dO
   refine cy (v:=.ref qb) rfl ?_
   refine cy (v:=.ref qc) rfl ?_
   refine sF (s3 _ _ kb0) (s3 _ _ kc0) ?_
   refine aF (λz=>?_) (λz=>?_)
   ·have ne:b≠c:=λe=>by
     have z:(!decide (b=c))=true:=z
     rw[decide_eq_true e]at z; cases z
    refine⟨p,qb,qc,rows,PS,bR PS,kvs,b,c,rfl,st.same s3,lP,s3 _ _ kb0,s3 _ _ kc0,(nsk b).mp bm,(nsk c).mp cm,ne,λd ks H4 s4 n4 h4 fd=>?_⟩
    refine⟨sz rfl,λq5 H5 g5=>?_⟩
    have s35:=s4.trans g5.sm
    have gr5:=gr3.same s35
    refine⟨pa,q5,kvB,(b,c),rfl,rfl,gr5.dp,⟨qb,qc,g5.at_,s35 _ _ (s3 _ _ kb0),s35 _ _ (s3 _ _ kc0)⟩,?_,λH6 d6 so=>?_⟩
    ·have:kvs.length*i<=400*400:=Nat.mul_le_mul lk (by omega)
     rw[sizeLine_eq]
     omega
    ·refine⟨λc0 u e=>?_,⟨_,(gr5.put (k:=(b,c)) (λz=>?_) (g5.sm _ _ h4) (fd.mono λq xs z=>g5.sm _ _ z) d6 so).nE λx=>?_,by rw[List.length_append]; simp; omega⟩,_,rfl⟩
     ·rw[so c0 (λz=>by rw[z,g1.nw]at e; cases e)]
      exact s35 _ _ (s3 _ _ e)
     ·rcases z.2 with z | z
      ·exact jz nsN hbi z.1
      ·exact jz nsN hcj z.2
     ·rw[cK hcj]
      constructor
      ·rintro (z | rfl)
       ·exact⟨z.1,z.2.imp id λy=>⟨y.1,.inl y.2⟩⟩
       ·exact⟨ne,.inr ⟨rfl,.inr rfl⟩⟩
      ·rintro⟨z1,z | ⟨z2,z | z⟩⟩
       ·exact .inl ⟨z1,.inl z⟩
       ·exact .inl ⟨z1,.inr ⟨z2,z⟩⟩
       ·exact .inr (Prod.ext z2 z)
   ·have e:b=c:=Classical.byContradiction λe=>z (by show (!decide (b=c))=true; rw[decide_eq_false e]; rfl)
    refine⟨s3,⟨kvB,gr3.nE λx=>?_,by omega⟩,_,rfl⟩
    rw[cK hcj]
    constructor
    ·exact λz=>⟨z.1,z.2.imp id λy=>⟨y.1,.inl y.2⟩⟩
    ·rintro⟨z1,z | ⟨z2,z | z⟩⟩
     ·exact⟨z1,.inl z⟩
     ·exact⟨z1,.inr ⟨z2,z⟩⟩
     ·exact absurd (z2.trans (e.trans z.symm)) z1
  ·rintro σ H3 ⟨s3,⟨kvB,gr3,lB⟩,v3,rfl⟩
   refine⟨s3,⟨kvB,gr3.nE λx=>?_,by rw[Nat.mul_succ]; exact lB⟩,_,_,rfl⟩
   rw[<- lns,List.take_length,cK hbi]
   constructor
   ·rintro⟨z1,z | z⟩
    ·exact⟨z1,.inl z.1,z.2⟩
    ·exact⟨z1,.inr z.1,z.2⟩
   ·rintro⟨z1,z | z,z2⟩
    ·exact⟨z1,.inl ⟨z,z2⟩⟩
    ·exact⟨z1,.inr ⟨z,z2⟩⟩
 ·rintro σ H2 ⟨s2,⟨kvA,gr,lA⟩,v2,v3,rfl⟩
  refine k pa kvA H2 s2 g1.nw (gr.nE λx=>?_) lA
  rw[<- lns,List.take_length]
  show _ ↔ bR PS x.1/\bR PS x.2/\x.1≠x.2
  rw[<- nsk,<- nsk]
  exact⟨λz=>⟨z.2.1,z.2.2,z.1⟩,λz=>⟨z.2.2,z.1,z.2.1⟩⟩
def br(F:ab->Int->Option ab):ab->List Int->Option ab
 | k,[]=>some k
 | k,x :: r=>(F k x).bind λg=>br F g r
theorem qC(F:ab->Int->Option ab)(k:ab)(r:List Int)(x:Int):br F k (r++[x])=(br F k r).bind λg=>F g x:=by
 induction r generalizing k with
 | nil =>
  show (F k x).bind (λg=>some g)=F k x
  cases F k x <;> rfl
 | cons y r ih =>
  show (F k y).bind (λg=>br F g (r++[x]))=((F k y).bind λg=>br F g r).bind λg=>F g x
  cases F k y with
  | none=>rfl
  | some g=>exact ih g
def ua(F:ab->Int->Option ab)(k:ab)(n:Nat):Prop:=∀ r g,br F k r=some g->r.length<=n
def bE(H:Hp)(kvs:List (ab × Addr × V))(k:ab)(q:Addr)(n:Nat)(bv:V):Prop:=az kvs k=some (.ref q)/\H q=some (.tup [.int (n:Int),bv])
structure fF (H:Hp) (a:Addr) (kvs:List (ab × Addr × V)) (F:ab->Int->Option ab) (N:ab->Prop):Prop where
 dp:DP H a kvs
 sub : ∀ k,k∈kvs.map (λe=>e.1)->N k
 val : ∀ k,k∈kvs.map (λe=>e.1)->∃ q n bv,bE H kvs k q n bv/\(n<=160000/\ua F k n)/\(n=0\/∃ x g q' bv',bv=.int x/\F k x=some g/\bE H kvs g q' (n - 1) bv')
theorem bE.key{H:Hp}{kvs:List (ab × Addr × V)}{k:ab}{q:Addr}{n:Nat}{bv:V}(h:bE H kvs k q n bv):k∈kvs.map λe=>e.1:=by
 obtain⟨e,he,e1,_⟩:=eW h.1
 exact List.mem_map.mpr ⟨e,he,e1⟩
theorem bE.same{H H':Hp}{kvs:List (ab × Addr × V)}{k:ab}{q:Addr}{n:Nat}{bv:V}(h:bE H kvs k q n bv)(s : ∀ q xs,H q=some (.tup xs)->H' q=some (.tup xs)):bE H' kvs k q n bv:=⟨h.1,s _ _ h.2⟩
theorem fF.same{H H':Hp}{a:Addr}{kvs:List (ab × Addr × V)}{F:ab->Int->Option ab}{N:ab->Prop}(h:fF H a kvs F N)(s:af H H'):fF H' a kvs F N :=
 ⟨h.dp.same s,h.sub,λk hk=>by
  obtain⟨q,n,bv,a,l,b⟩:=h.val k hk
  refine⟨q,n,bv,a.same λq xs z=>s _ _ z,l,b.imp id ?_⟩
  rintro⟨x,g,q',bv',b1,b2,b3⟩
  exact⟨x,g,q',bv',b1,b2,b3.same λq xs z=>s _ _ z⟩⟩
theorem bE.one{H:Hp}{kvs:List (ab × Addr × V)}{k:ab}{q q':Addr}{n n':Nat}{bv bv':V}(h:bE H kvs k q n bv)(h':bE H kvs k q' n' bv'):q=q'/\n=n'/\bv=bv':=by
 obtain⟨h1,h2⟩:=h
 obtain⟨g1,g2⟩:=h'
 rw[h1]at g1; cases g1
 rw[h2]at g2
 injection g2 with e
 injection e with e
 injection e with e1 e2
 injection e2 with e2 _
 injection e1 with e1
 exact⟨rfl,by omega,e2⟩
def vQ:Sp:=λvs H Q _=>∃ (a fa q:Addr) (kvA kvF:List (ab × Addr × V)) (F:ab->Int->Option ab) (N:ab->Prop) (k:ab) (qv:Addr) (n:Nat) (bv:V),vs=[.ref a,.ref fa,.ref q]/\Gr H a kvA F N/\fF H fa kvF F N/\aH H k q/\bE H kvF k qv n bv /\
 ∀ l r H',af H H'->H l=none->H' l=some (.lst (r.map V.int))->r.length=n->(∃ g,br F k r=some g)->Q (.ref l) H'
theorem Au (T:Txt K mg t):be P w K mg base "row_apart" 1 t.nN t.mw ["apart", "far", "pair"] vQ:=by
 refine⟨T.Bb,T.ur.kp,T.CP,T.ur.okQ ji (λvs H Q E h=>by obtain⟨a,fa,q,kvA,kvF,F,N,k,qv,n,bv,rfl,_⟩:=h; rfl) λcdv A outer s H vs Q E hr h=>?_⟩
 obtain⟨a,fa,q,kvA,kvF,F,N,k,qv,n,bv,rfl,gr,fr,kq,fv,kk⟩:=h
 have hu:=hr.units
 have nl:n<=160000:=by
  obtain⟨q0,n0,bv0,fv0,l0,_⟩:=fr.val k fv.key
  obtain⟨_,rfl,_⟩:=fv0.one fv
  exact l0.1
 refine⟨_,(aq (aX (i:=3) ji.nd rfl (.inl rfl) (cV ag))
  (aq (k9 PassesOwn.never (bq sd (aC (aD (K:=K) rfl) (cW hu (aa 1) (aa 2)) ao (λ_ _=>rfl)) ao (aW _)) (aq (aX (i:=4) ji.nd rfl (.inl rfl) (aC (aD (K:=K) rfl) (cW hu (aa 1) (aa 2)) ao (λ_ _=>rfl)))
  (aq (cI (dU (K:=K) rfl PySem.F.plainAttrs_list PySem.F.slot_list_append PySem.F.type_list_append dY (aa 3) (ae (aa 4) ag)))
  (ap (aX (i:=2) ji.nd rfl (.inl rfl) (jv hu (cW hu (aa 0) (aa 2)) (aa 4)))))))
  (ap (aK (aa 3))))),?_⟩
 refine⟨sz rfl,λl H1 g1=>?_⟩
 have sl : ∀ {H':Hp},eR l H1 H'->af H H':=λ{H'} b c u e=>b c u (λz=>by rw[z,g1.nw]at e; cases e) (g1.sm _ _ e)
 refine⟨λm σ H'=>eR l H1 H'/\∃ q' k' qv' bv' r v4,σ=[some (.ref a),some (.ref fa),some (.ref q'),some (.ref l),v4]/\aH H' k' q'/\bE H' kvF k' qv' m bv'/\H' l=some (.lst (r.map V.int))/\r.length+m=n/\br F k r=some k',⟨n,λc u _ e=>e,q,k,qv,bv,[],_,rfl,kq.same g1.sm,fv.same λq xs z=>g1.sm _ _ z,g1.at_,by simp,rfl⟩,?_⟩
 rintro m σ H2 ⟨b2,q',k',qv',bv',r,v4,rfl,kq',fv',hl,ln,hp⟩
 have s2:=sl b2
 have fr2:=fr.same s2
 have gr2:=gr.same s2
 refine⟨fa,q',kvF,k',.ref qv',rfl,rfl,fr2.dp,kq',fv'.1,?_⟩
 refine⟨_,.int (m:Int),.inr (.of fv'.2),rfl,?_⟩
 refine aF (λz=>?_) (λz=>?_)
 ·have mp:0 < m:=by have:=of_decide_eq_true z; omega
  obtain⟨q0,n0,bv0,fv0,l0,c0⟩:=fr2.val k' fv'.key
  obtain⟨rfl,rfl,rfl⟩:=fv0.one fv'
  rcases c0 with c0 | ⟨x,g,q1,bv1,rfl,c2,c3⟩
  ·omega
  obtain⟨v,hv⟩:=eA ((gr2.key k').mpr (fr2.sub k' fv'.key))
  obtain⟨e0,he0,e01,e02⟩:=eW hv
  obtain⟨d,ks,a1,a2,a3⟩:=gr2.val e0 he0
  rw[e02]at a1
  subst a1
  rw[e01]at a3
  obtain⟨qg,y1,y2⟩:=a3.yes x g trivial c2
  refine⟨_,λσ' H' h=>⟨n0 - 1,by omega,h⟩,?_⟩
  refine⟨fa,q',kvF,k',.ref q0,rfl,rfl,fr2.dp,kq',fv'.1,?_⟩
  refine⟨_,.int x,.inr (.of fv'.2),rfl,?_⟩
  refine⟨.inl ⟨rfl,_,.of hl⟩,_,hl,?_,?_⟩
  ·rw[List.length_map,sizeLine_eq]
   omega
  obtain⟨H3,e3⟩ : ∃ H3,H3=upd H2 l (.lst (r.map V.int++[.int x])):=⟨_,rfl⟩
  have l3:H3 l=some (.lst ((r++[x]).map V.int)):=by rw[e3,aR,List.map_append]; rfl
  have b3:eR l H1 H3:=λc u n e=>by rw[e3,ai n]; exact b2 c u n e
  have tu3 : ∀ q xs,H2 q=some (.tup xs)->H3 q=some (.tup xs):=λq xs z=>by rw[e3,ai (av z hl (by intro z; cases z))]; exact z
  rw[<- e3]
  have s3:=sl b3
  have gr3:=gr.same s3
  have d3:H3 d=some (.dK ks):=by rw[e3,ai (av a2 hl (by intro z; cases z))]; exact a2
  have ky3 : ∀ {k:ab} {q:Addr},aH H2 k q->aH H3 k q:=λ{k q} h=>by
   obtain⟨c,b,h1,h2,h3⟩:=h
   exact⟨c,b,tu3 _ _ h1,tu3 _ _ h2,tu3 _ _ h3⟩
  clear e3
  refine⟨a,q',kvA,k',.ref d,rfl,rfl,gr3.dp,ky3 kq',hv,?_⟩
  refine⟨d,_,rfl,by have:=dz.k (k:=.inl x) d3; rw[y1]at this; exact this,?_⟩
  refine⟨b3,qg,g,q1,bv1,r++[x],_,rfl,ky3 y2,c3.same tu3,l3,by rw[List.length_append]; simp; omega,?_⟩
  rw[qC,hp]
  exact c2
 ·have m0:m=0:=by
   cases m with
   | zero=>rfl
   | succ m=>exact absurd (decide_eq_true (by omega)) z
  exact kk l r H2 s2 g1.nw hl (by omega) ⟨k',hp⟩
structure io (F:ab->Int->Option ab) (N:ab->Prop) (k:ab) (r:List Int) (kvM:List (ab × Addr × V)):Prop where
 len:kvM.length=r.length
 at_ : ∀ (i:Nat) e,kvM[i]? = some e->e.2.2=.int (i:Int)/\br F k (r.take i)=some e.1/\N e.1
theorem xK(F:ab->Int->Option ab)(k:ab)(r s:List Int):br F k (r++s)=(br F k r).bind λg=>br F g s:=by
 induction r generalizing k with
 | nil=>rfl
 | cons y r ih =>
  show (F k y).bind (λg=>br F g (r++s))=((F k y).bind λg=>br F g r).bind λg=>br F g s
  cases F k y with
  | none=>rfl
  | some g=>exact ih g
theorem sP{H H':Hp}{a d:Addr}{kvs:List (ab × Addr × V)}{ks:List (am × V)}(h:DP H a kvs)(hd:H d=some (.dK ks))(s : ∀ c,c≠d->H' c=H c):DP H' a kvs:=by
 obtain⟨⟨xs,ep,h1,h2⟩,k,n,l⟩:=h
 have tu : ∀ q xs,H q=some (.tup xs)->H' q=some (.tup xs):=λq xs z=>by rw[s q (av z hd (by intro z; cases z))]; exact z
 refine⟨⟨xs,ep,?_,h2⟩,λx hx=>?_,n,l⟩
 ·rw[s a (av h1 hd (by intro z; cases z))]; exact h1
 ·obtain⟨c,b,z1,z2,z3⟩:=k x hx
  exact⟨c,b,tu _ _ z1,tu _ _ z2,tu _ _ z3⟩
theorem im{H H':Hp}{a d:Addr}{kvs:List (ab × Addr × V)}{ys:List V}(h:DP H a kvs)(hd:H d=some (.lst ys))(s : ∀ c,c≠d->H' c=H c):DP H' a kvs:=by
 obtain⟨⟨xs,ep,h1,h2⟩,k,n,l⟩:=h
 have tu : ∀ q xs,H q=some (.tup xs)->H' q=some (.tup xs):=λq xs z=>by rw[s q (av z hd (by intro z; cases z))]; exact z
 refine⟨⟨xs,ep,?_,h2⟩,λx hx=>?_,n,l⟩
 ·rw[s a (av h1 hd (by intro z; cases z))]; exact h1
 ·obtain⟨c,b,z1,z2,z3⟩:=k x hx
  exact⟨c,b,tu _ _ z1,tu _ _ z2,tu _ _ z3⟩
theorem BX(ns:List Int)(i:Nat):cF (ns.map V.int) (some (i:Int)) none=(ns.drop i).map V.int:=by
 rw[sZ,BZ]
def vJ:Sp:=λvs H Q _=>∃ (a fa q:Addr) (kvA kvF:List (ab × Addr × V)) (F:ab->Int->Option ab) (N:ab->Prop) (k:ab),vs=[.ref a,.ref fa,.ref q]/\Gr H a kvA F N/\kvA.length<=160000/\DP H fa kvF/\(∀ k x g,N k->F k x=some g->N g) /\
 (∀ k,N k->k∉kvF.map (λe=>e.1)->∃ x g,F k x=some g/\g∉kvF.map λe=>e.1)/\aH H k q/\N k/\k∉kvF.map (λe=>e.1) /\
 ∀ p q' l k' r H',af H H'->H' p=some (.tup [.ref q',.ref l])->H l=none->aH H' k' q'->N k'->H' l=some (.lst (r.map V.int))->r≠[]->r.length<=kvA.length->br F k' r=some k'->Q (.ref p) H'
theorem As (T:Txt K mg t):be P w K mg base "trip_from" 1 t.nL t.mr ["apart", "far", "pair"] vJ:=by
 refine⟨T.A6,T.uo.kp,T.CM,T.uo.okQ iI (λvs H Q E h=>by obtain⟨a,fa,q,kvA,kvF,F,N,k,rfl,_⟩:=h; rfl) λcdv A outer s H vs Q E hr h=>?_⟩
 obtain⟨a,fa,q,kvA,kvF,F,N,k,rfl,gr,lA,df,cl,out,kq,nk,kf,kk⟩:=h
 have hu:=hr.units
 refine⟨_,(aq (aX (i:=3) iI.nd rfl (.inl rfl) (cV ag))
  (aq (aX (i:=4) iI.nd rfl (.inl rfl) iK)
  (aq (k9 PassesOwn.never (bq (lT hu) (aa 2) (aa 4) (by with_unfolding_all rfl)) (aq (iM hu (aa 4) (aa 2) (aZ (cc (K:=K) rfl) T.n_len PySem.boot_len (ae (aa 3) ag)))
  (aq (kY (jo (i:=5) iI.nd rfl (.inl rfl) rfl (bQ.of (fns:=(ak fN).names) (N:=["apart", "far", "pair", "row", "met", "onward"]) (Nc:=["byte", "goal", "far"]) (nv:=2) (caps:=[1]) rfl rfl (by decide +kernel)) (jq (cW hu (aa 0) (aa 2))) (λ_ _ _ _=>(cw (K:=K) rfl (n:=2) rfl (aY (aB (i:=0) (show List.Nodup (["byte", "goal", "far"]:List Str) by decide +kernel) rfl (Or.inl rfl) (Or.inr rfl)) (aY (aB (i:=1) (show List.Nodup (["byte", "goal", "far"]:List Str) by decide +kernel) rfl (Or.inl rfl) (Or.inr rfl)) cv)))) (λ_ _ _ _=>(kZ (bq (lT hu) (aa 1) (aa 2) (by with_unfolding_all rfl)))) (λ_ _ _ _=>(aa 0))))
  (aq (cI (dU (K:=K) rfl PySem.F.plainAttrs_list PySem.F.slot_list_append PySem.F.type_list_append dY (aa 3) (ae (aC (aD (K:=K) rfl) (aa 5) ao (λ_ _=>rfl)) ag)))
  (ap (aX (i:=2) iI.nd rfl (.inl rfl) (jv hu (cW hu (aa 0) (aa 2)) (aC (aD (K:=K) rfl) (aa 5) ao (λ_ _=>rfl)))))))))
  (ap (aK (bC (ae (aa 2) (ae (cT (dG (K:=K) rfl) (aa 3) (cR (cW hu (aa 4) (aa 2))) cS) ag)))))))),?_⟩
 refine⟨sz rfl,λl H1 g1=>?_⟩
 refine λpm H2 g2=>?_
 have npl:pm≠l:=λz=>by have:=g2.nw; rw[z,g1.at_]at this; cases this
 have npm:H pm=none:=by
  cases c:H pm with
  | none=>rfl
  | some u=>have:=g1.sm _ _ c; rw[g2.nw]at this; cases this
 refine⟨λm σ H'=>af H H'/\∃ q' k' r kvM v5,σ=[some (.ref a),some (.ref fa),some (.ref q'),some (.ref l),some (.ref pm),v5]/\aH H' k' q'/\N k'/\k'∉kvF.map (λe=>e.1)/\H' l=some (.lst (r.map V.int))/\DP H' pm kvM/\io F N k r kvM/\br F k r=some k'/\m=kvA.length - kvM.length,⟨kvA.length,g1.sm.trans g2.sm,q,k,[],[],_,rfl,kq.same (g1.sm.trans g2.sm),nk,kf,g2.sm _ _ g1.at_,DP.new g2,⟨rfl,λi e h=>by simp at h⟩,rfl,rfl⟩,?_⟩
 rintro m σ H3 ⟨s3,q',k',r,kvM,v5,rfl,kq',nk',kf',hl,dm,vs,hp,rfl⟩
 have gr3:=gr.same s3
 have mk : ∀ k0,k0∈kvM.map (λe=>e.1)->k0∈kvA.map λe=>e.1:=λk0 h=>by
  obtain⟨e,he,rfl⟩:=List.mem_map.mp h
  obtain⟨i,hi⟩:=List.getElem?_of_mem he
  exact (gr3.key _).mpr (vs.at_ i e hi).2.2
 have lM:kvM.length<=kvA.length:=by
  have:=List.Nodup.length_le_of_subset dm.nd mk
  rwa [List.length_map,List.length_map]at this
 refine⟨q',pm,kvM,k',rfl,rfl,dm,kq',?_⟩
 refine aF (λz=>?_) (λz=>?_)
 ·have hn:az kvM k'=none:=by
   cases c:az kvM k' with
   | none=>rfl
   | some v =>
    have z:(!(az kvM k').isSome)=true:=z
    rw[c]at z; cases z
  have nm:k'∉kvM.map λe=>e.1:=λh=>by
   obtain⟨v,hv⟩:=eA h
   rw[hn]at hv; cases hv
  have ka:k'∈kvA.map λe=>e.1:=(gr3.key k').mpr nk'
  have lt:kvM.length+1<=kvA.length:=by
   have:=List.Nodup.length_le_of_subset (List.nodup_cons.mpr ⟨nm,dm.nd⟩) (l₂:=kvA.map λe=>e.1) λx hx=>by
    rcases List.mem_cons.mp hx with h | h
    ·rw[h]; exact ka
    ·exact mk x h
   rwa [List.length_cons,List.length_map,List.length_map]at this
  refine⟨_,λσ' H' h=>⟨kvA.length - (kvM.length+1),by omega,h⟩,?_⟩
  refine⟨_,.inl (.of hl),?_⟩
  refine⟨pm,q',kvM,k',rfl,rfl,dm,kq',by rw[sizeLine_eq]; omega,λH4 d4 so4=>?_⟩
  rw[List.length_map,iP hn]at d4
  have st4 : ∀ {c u},c≠pm->H3 c=some u->H4 c=some u:=λ{c u} n e=>by rw[so4 c n]; exact e
  obtain⟨xsm,epm,dhm,_⟩:=dm.ex
  have tu4 : ∀ q xs,H3 q=some (.tup xs)->H4 q=some (.tup xs):=λq xs z=>st4 (av z dhm (by intro z; cases z)) z
  have s4:af H H4:=λc u e=>st4 (λz=>by rw[z,npm]at e; cases e) (s3 _ _ e)
  have gr4:=gr.same s4
  have df4:=df.same s4
  have ky4 : ∀ {H H':Hp} {k:ab} {q:Addr},(∀ q xs,H q=some (.tup xs)->H' q=some (.tup xs))->aH H k q->aH H' k q:=λs h=>by
   obtain⟨c,b,h1,h2,h3⟩:=h
   exact⟨c,b,s _ _ h1,s _ _ h2,s _ _ h3⟩
  have l4:H4 l=some (.lst (r.map V.int)):=st4 npl.symm hl
  obtain⟨v,hv⟩:=eA ka
  obtain⟨e0,he0,e01,e02⟩:=eW hv
  obtain⟨d,ks,a1,a2,a3⟩:=gr4.val e0 he0
  rw[e02]at a1
  subst a1
  rw[e01]at a3
  obtain⟨x1,g1',o1,o2⟩:=out k' nk' kf'
  obtain⟨qx,y1,_⟩:=a3.yes x1 g1' trivial o1
  refine⟨d,.dK ks,(λo v z=>by rw[a2]at z; cases z),?_⟩
  refine⟨a,q',kvA,k',.ref d,rfl,rfl,gr4.dp,ky4 tu4 kq',hv,?_⟩
  refine⟨d,ks,rfl,a2,λob=>?_⟩
  obtain⟨H5,e5⟩ : ∃ H5,H5=upd H4 d (.frz ob (.dK ks)):=⟨_,rfl⟩
  have f5:H5 d=some (.frz ob (.dK ks)):=by rw[e5,aR]
  have b5 : ∀ {c u},c≠d->H4 c=some u->H5 c=some u:=λ{c u} n e=>by rw[e5,ai n]; exact e
  have df5:DP H5 fa kvF:=sP df4 a2 λc n=>by rw[e5,ai n]
  have tu5 : ∀ q xs,H4 q=some (.tup xs)->H5 q=some (.tup xs):=λq xs z=>b5 (av z a2 (by intro z; cases z)) z
  rw[<- e5]
  clear e5
  refine m4 (K:=K) (λi ys H'=>af H5 H'/\∃ bs:List Int,ys=bs.map V.int/\bs.length<=i/\(∀ x∈bs,∃ g,F k' x=some g/\g∉kvF.map λe=>e.1)/\∀ j x v,j < i->ks[j]? = some (.inl x,v)->∀ g,F k' x=some g->g∉kvF.map (λe=>e.1)->bs≠[]) ⟨af.refl _,[],rfl,Nat.zero_le _,(λx h=>nomatch h),λj x v h=>absurd h (by omega)⟩ (λi ys H' hi z=>⟨z.1 _ _ f5,?_⟩) (dk (by have:=a3.len; omega)) (λi ky v ys H6 H7 NN hkv z s67 hN=>?_) λys H6 p7 H7 z g7=>?_
  ·obtain⟨_,bs,rfl,lb,_⟩:=z
   rw[List.length_map]; exact lb
  ·obtain⟨s6,bs,rfl,lb,al,ne⟩:=z
   obtain⟨x,hx⟩:=a3.int _ (List.mem_of_getElem? hkv)
   have hx:ky=.inl x:=hx
   subst hx
   have hvx:=iC a3.nd hkv
   obtain⟨g,hg⟩ : ∃ g,F k' x=some g:=by
    cases c:F k' x with
    | some g=>exact⟨g,rfl⟩
    | none=>rw[a3.no x λ_=>c]at hvx; cases hvx
   obtain⟨qg,w1,w2⟩:=a3.yes x g trivial hg
   rw[hvx]at w1
   cases w1
   have s57:=s6.trans s67
   refine⟨qg,fa,kvF,g,rfl,rfl,df5.same s57,ky4 (λq xs z=>s57 _ _ (tu5 _ _ z)) w2,?_⟩
   have old : ∀ j x' v',j < i+1->ks[j]? = some (.inl x',v')->j < i\/x'=x:=λj x' v' hj hk=>by
    by_cases c:j=i
    ·subst c
     rw[hkv]at hk; cases hk
     exact .inr rfl
    ·exact .inl (by omega)
   refine aF (λz=>?_) (λz=>?_)
   ·have ng:g∉kvF.map λe=>e.1:=λh=>by
     obtain⟨v,hv⟩:=eA h
     have z:(!(az kvF g).isSome)=true:=z
     rw[hv]at z; cases z
    refine hN _ _ ⟨s57,bs++[x],by rw[List.map_append]; rfl,by rw[List.length_append]; simp; omega,λy hy=>?_,λ_ _ _ _ _ _ _ _=>by simp⟩
    rcases List.mem_append.mp hy with h | h
    ·exact al y h
    ·rw[List.mem_singleton.mp h]; exact⟨g,hg,ng⟩
   ·have ig:g∈kvF.map λe=>e.1:=Classical.byContradiction λh=>z (by show (!(az kvF g).isSome)=true; rw[iE h]; rfl)
    refine hN _ _ ⟨s57,bs,rfl,by omega,al,λj x' v' hj hk g' hg' ng'=>?_⟩
    rcases old j x' v' hj hk with c | c
    ·exact ne j x' v' c hk g' hg' ng'
    ·rw[c,hg]at hg'; cases hg'
     exact absurd ig ng'
  ·obtain⟨s6,bs,rfl,lb,al,ne⟩:=z
   have s57:=s6.trans g7.sm
   have bne:bs≠[]:=by
    unfold aM at y1
    obtain⟨y,hy,_⟩:=Option.map_eq_some_iff.mp y1
    have ey:y.1=.inl x1:=by have z:=List.find?_some hy; exact of_decide_eq_true z
    obtain⟨j,hj⟩:=List.getElem?_of_mem (List.mem_of_find?_eq_some hy)
    exact ne j x1 y.2 (List.getElem?_eq_some_iff.mp hj).1 (by rw[hj,<- ey]) g1' o1 o2
   obtain⟨x0,tl,rfl⟩ : ∃ x0 tl,bs=x0 :: tl:=by
    cases bs with
    | nil=>exact absurd rfl bne
    | cons x0 tl=>exact⟨x0,tl,rfl⟩
   obtain⟨g,hg,ng⟩:=al x0 (List.mem_cons_self ..)
   obtain⟨qg,w1,w2⟩:=a3.yes x0 g trivial hg
   refine⟨⟨ob,s57 _ _ f5⟩,?_⟩
   obtain⟨H8,e8⟩ : ∃ H8,H8=upd H7 d (.dK ks):=⟨_,rfl⟩
   have d8:H8 d=some (.dK ks):=by rw[e8,aR]
   have s48:af H4 H8:=λc u e=>by
    by_cases n:c=d
    ·subst n
     rw[a2]at e; cases e
     exact d8
    ·rw[e8,ai n]
     exact s57 _ _ (b5 n e)
   have p8:H8 p7=some (.lst ((x0 :: tl).map V.int)):=by rw[e8,ai (av g7.at_ (s57 _ _ f5) (by intro z; cases z))]; exact g7.at_
   rw[<- e8]
   clear e8
   have l8:=s48 _ _ l4
   have rl:r.length<=160000:=by have:=vs.len; omega
   have n7l:p7≠l:=λz=>by have:=g7.nw; rw[z,s6 _ _ (b5 (av l4 a2 (by intro z; cases z)) l4)]at this; cases this
   refine⟨.inl ⟨rfl,_,.of l8⟩,_,.int x0,.inl (.of p8),aV (j:=0) rfl,_,l8,by rw[List.length_map,sizeLine_eq]; omega,?_⟩
   obtain⟨H9,e9⟩ : ∃ H9,H9=upd H8 l (.lst (r.map V.int++[.int x0])):=⟨_,rfl⟩
   have l9:H9 l=some (.lst ((r++[x0]).map V.int)):=by rw[e9,aR,List.map_append]; rfl
   have so9 : ∀ c,c≠l->H9 c=H8 c:=λc n=>by rw[e9,ai n]
   have tu9 : ∀ q xs,H8 q=some (.tup xs)->H9 q=some (.tup xs):=λq xs z=>by rw[so9 q (av z l8 (by intro z; cases z))]; exact z
   have s9:af H H9:=λc u e=>by rw[so9 c (λz=>by rw[z,g1.nw]at e; cases e)]; exact s48 _ _ (s4 _ _ e)
   rw[<- e9]
   clear e9
   have p9:H9 p7=some (.lst ((x0 :: tl).map V.int)):=by rw[so9 _ n7l]; exact p8
   have d9:H9 d=some (.dK ks):=by rw[so9 _ (av d8 l8 (by intro z; cases z))]; exact d8
   have tu39 : ∀ q xs,H3 q=some (.tup xs)->H9 q=some (.tup xs):=λq xs z=>tu9 _ _ (s48 _ _ (tu4 _ _ z))
   refine⟨a,q',kvA,k',.ref d,rfl,rfl,(gr.same s9).dp,ky4 tu39 kq',hv,?_⟩
   refine⟨_,.int x0,.inl (.of p9),aV (j:=0) rfl,?_⟩
   refine⟨d,_,rfl,by have:=dz.k (k:=.inl x0) d9; rw[w1]at this; exact this,?_⟩
   refine⟨s9,qg,g,r++[x0],kvM++[(k',q',.int (r.length:Int))],_,rfl,ky4 (λq xs z=>tu9 _ _ (s48 _ _ z)) w2,cl k' x0 g nk' hg,ng,l9,im (d4.same s48) l8 so9,⟨by rw[List.length_append,List.length_append,vs.len]; rfl,λi e hi=>?_⟩,?_,by rw[List.length_append]; rfl⟩
   ·by_cases c:i < kvM.length
    ·rw[List.getElem?_append_left c]at hi
     obtain⟨v1,v2,v3⟩:=vs.at_ i e hi
     have:=vs.len
     exact⟨v1,by rw[List.take_append_of_le_length (by omega)]; exact v2,v3⟩
    ·have il:=(List.getElem?_eq_some_iff.mp hi).1
     rw[List.length_append]at il
     have il:i < kvM.length+1:=il
     have ei:i=kvM.length:=by omega
     subst ei
     rw[List.getElem?_append_right (Nat.le_refl _),Nat.sub_self]at hi
     cases hi
     refine⟨by rw[vs.len],?_,nk'⟩
     rw[vs.len,List.take_append_of_le_length (Nat.le_refl _),List.take_length]
     exact hp
   ·rw[qC,hp]
    exact hg
 ·obtain⟨v,hv⟩ : ∃ v,az kvM k'=some v:=by
   cases c:az kvM k' with
   | some v=>exact⟨v,rfl⟩
   | none=>exact absurd (show (!(az kvM k').isSome)=true by rw[c]; rfl) z
  obtain⟨e,he,e1,e2⟩:=eW hv
  obtain⟨i,hi⟩:=List.getElem?_of_mem he
  obtain⟨v1,v2,v3⟩:=vs.at_ i e hi
  rw[e2]at v1
  subst v1
  rw[e1]at v2
  have il:i < r.length:=by have:=(List.getElem?_eq_some_iff.mp hi).1; have:=vs.len; omega
  refine⟨pm,q',kvM,k',.int (i:Int),rfl,rfl,dm,kq',hv,?_⟩
  refine⟨_,rfl,_,.of hl,λl5 H5 g5=>?_⟩
  refine⟨sz rfl,λp6 H6 g6=>?_⟩
  have s6:=s3.trans (g5.sm.trans g6.sm)
  refine kk p6 q' l5 k' (r.drop i) H6 s6 g6.at_ ?_ (kq'.same (g5.sm.trans g6.sm)) nk' ?_ ?_ (by rw[List.length_drop]; have:=vs.len; omega) ?_
  ·cases c:H l5 with
   | none=>rfl
   | some u=>have:=s3 _ _ c; rw[g5.nw]at this; cases this
  ·have:=g6.sm _ _ g5.at_
   rw[BX]at this
   exact this
  ·intro c
   have:=congrArg List.length c
   rw[List.length_drop]at this
   simp at this
   omega
  ·have:=xK F k (r.take i) (r.drop i)
   rw[List.take_append_drop,hp,v2]at this
   exact this.symm
def vH:Sp:=λvs H Q _=>∃ (q l:Addr) (k:ab),vs=[.ref q,.ref l]/\aH H k q /\
 ∀ p l1 l2 H',af H H'->H' p=some (.tup [.ref l1,.ref l2,.ref l])->H l1=none->H l2=none->l1≠l2->H' l1=some (.lst (k.1.map V.int))->H' l2=some (.lst (k.2.map V.int))->Q (.ref p) H'
theorem rT (T:Txt K mg t):be P w K mg base "witness" 1 t.nK t.mq ["pair", "row"] vH:=by
 refine⟨T.A5,T.ul.kp,T.CL,T.ul.okQ wr (λvs H Q E h=>by obtain⟨q,l,k,rfl,_⟩:=h; rfl) λcdv A outer s H vs Q E hr h=>?_⟩
 obtain⟨q,l,k,rfl,⟨c,b,h1,h2,h3⟩,kk⟩:=h
 have hu:=hr.units
 refine⟨_,(ap (aK (bC (ae (fQ (j6 (K:=K) rfl) T.n_list PyProof.Rows.boot_list (ae (aC (aD (K:=K) rfl) (aa 0) ao (λ_ _=>rfl)) ag)) (ae (fQ (j6 (K:=K) rfl) T.n_list PyProof.Rows.boot_list (ae (aC (aD (K:=K) rfl) (aa 0) ao (λ_ _=>rfl)) ag)) (ae (aa 1) ag)))))),?_⟩
 refine⟨_,.ref c,.inr (.of h1),rfl,?_⟩
 refine⟨_,.inr (.of h2),λl1 H1 g1=>?_⟩
 refine⟨_,.ref b,.inr (.of (g1.sm _ _ h1)),rfl,?_⟩
 refine⟨_,.inr (.of (g1.sm _ _ h3)),λl2 H2 g2=>?_⟩
 refine⟨sz rfl,λp H3 g3=>?_⟩
 have n2:H l2=none:=by
  cases c:H l2 with
  | none=>rfl
  | some u=>have:=g1.sm _ _ c; rw[g2.nw]at this; cases this
 exact kk p l1 l2 H3 (g1.sm.trans (g2.sm.trans g3.sm)) g3.at_ g1.nw n2 (λz=>by have:=g2.nw; rw[<- z,g1.at_]at this; cases this) (g3.sm _ _ (g2.sm _ _ g1.at_)) (g3.sm _ _ g2.at_)
def fG(H:Hp)(F:Int->Option ab)(y:am × V)(e:Int × ab):Prop:=y.1=.inl e.1/\F e.1=some e.2/\∃ q,y.2=.ref q/\aH H e.2 q
theorem BI{H:Hp}{F:Int->Option ab}{n:Nat}{ks:List (am × V)}(h:cr H F (λ_=>True) n ks) : ∃ es:List (Int × ab),aw (fG H F) ks es:=by
 have all : ∀ y∈ks,∃ e,fG H F y e:=λy hy=>by
  obtain⟨i,hi⟩:=List.getElem?_of_mem hy
  obtain⟨x,hx⟩:=h.int y hy
  have hv:=iC (k:=y.1) (v:=y.2) h.nd hi
  rw[hx]at hv
  cases c:F x with
  | none=>rw[h.no x λ_=>c]at hv; cases hv
  | some g =>
   obtain⟨q,y1,y2⟩:=h.yes x g trivial c
   rw[hv]at y1
   exact⟨(x,g),hx,c,q,Option.some.inj y1,y2⟩
 clear h
 induction ks with
 | nil=>exact⟨[],aw.nil⟩
 | cons y ks ih =>
  obtain⟨e,he⟩:=all y (List.mem_cons_self ..)
  obtain⟨es,h⟩:=ih λz hz=>all z (List.mem_cons_of_mem _ hz)
  exact⟨e :: es,aw.cons he h⟩
structure i4 (H:Hp) (a:Addr) (kvs:List (ab × Addr × V)) (F:ab->Int->Option ab) (N:ab->Prop) (E:ab->List (Int × ab)):Prop where
 dp:DP H a kvs
 key : ∀ k,k∈kvs.map (λe=>e.1) ↔ N k
 val : ∀ e∈kvs,∃ d ks,e.2.2=.ref d/\H d=some (.dK ks)/\cr H (F e.1) (λ_=>True) 390 ks/\aw (fG H (F e.1)) ks (E e.1)
theorem fG.mono{H H':Hp}{F:Int->Option ab}{ks:List (am × V)}{es:List (Int × ab)}(h:aw (fG H F) ks es)(s : ∀ q xs,H q=some (.tup xs)->H' q=some (.tup xs)):aw (fG H' F) ks es :=
 h.imp λy e ⟨a,b,q,c,x,y,z1,z2,z3⟩=>⟨a,b,q,c,x,y,s _ _ z1,s _ _ z2,s _ _ z3⟩
theorem i4.same{H H':Hp}{a:Addr}{kvs:List (ab × Addr × V)}{F:ab->Int->Option ab}{N:ab->Prop}{E:ab->List (Int × ab)}(h:i4 H a kvs F N E)(s:af H H'):i4 H' a kvs F N E :=
 ⟨h.dp.same s,h.key,λe he=>let ⟨d,ks,a,b,c,f⟩:=h.val e he; ⟨d,ks,a,s _ _ b,c.mono λq xs z=>s _ _ z,fG.mono f λq xs z=>s _ _ z⟩⟩
theorem qU{kvs:List (ab × Addr × V)}(nd:(kvs.map λe=>e.1).Nodup){e e':ab × Addr × V}(h:e∈kvs)(h':e'∈kvs)(k:e.1=e'.1):e=e':=by
 obtain⟨i,hi⟩:=List.getElem?_of_mem h
 obtain⟨j,hj⟩:=List.getElem?_of_mem h'
 have l1:=(List.getElem?_eq_some_iff.mp hi).1
 have q1:(kvs.map λe=>e.1)[i]? = some e'.1:=by rw[List.getElem?_map,hi]; exact congrArg some k
 have q2:(kvs.map λe=>e.1)[j]? = some e'.1:=by rw[List.getElem?_map,hj]; rfl
 have:=(List.getElem?_inj (by rw[List.length_map]; exact l1) nd).mp (q1.trans q2.symm)
 subst this
 rw[hi]at hj; cases hj; rfl
theorem AK{H:Hp}{a:Addr}{kvs:List (ab × Addr × V)}{F:ab->Int->Option ab}{N:ab->Prop}(h:Gr H a kvs F N) : ∃ E,i4 H a kvs F N E:=by
 have all : ∀ k,∃ es,∀ e∈kvs,e.1=k->∃ d ks,e.2.2=.ref d/\H d=some (.dK ks)/\cr H (F e.1) (λ_=>True) 390 ks/\aw (fG H (F e.1)) ks es:=λk=>by
  by_cases c:k∈kvs.map λe=>e.1
  ·obtain⟨e,he,rfl⟩:=List.mem_map.mp c
   obtain⟨d,ks,a1,a2,a3⟩:=h.val e he
   obtain⟨es,a4⟩:=BI a3
   refine⟨es,λe' he' ek=>?_⟩
   cases qU h.dp.nd he' he ek
   exact⟨d,ks,a1,a2,a3,a4⟩
  ·exact⟨[],λe he ek=>absurd (List.mem_map.mpr ⟨e,he,ek⟩) c⟩
 exact⟨λk=>Classical.choose (all k),h.dp,h.key,λe he=>Classical.choose_spec (all e.1) e he rfl⟩
structure bf (H:Hp) (a:Addr) (kvs:List (ab × Addr × V)) (N:ab->Prop) (ed:List (ab × ab)):Prop where
 dp:DP H a kvs
 key : ∀ k,k∈kvs.map (λe=>e.1) ↔ N k
 val : ∀ e∈kvs,∃ l qs,e.2.2=.ref l/\H l=some (.lst (qs.map V.ref))/\aw (λq p=>aH H p q) qs ((ed.filter λpg=>decide (pg.2=e.1)).map λpg=>pg.1)
 inj : ∀ e∈kvs,∀ e'∈kvs,e.2.2=e'.2.2->e.1=e'.1
theorem bf.nE{H:Hp}{a:Addr}{kvs:List (ab × Addr × V)}{N N':ab->Prop}{ed:List (ab × ab)}(h:bf H a kvs N ed)(e : ∀ k,N k ↔ N' k):bf H a kvs N' ed:=⟨h.dp,λk=>(h.key k).trans (e k),h.val,h.inj⟩
theorem bf.same{H H':Hp}{a:Addr}{kvs:List (ab × Addr × V)}{N:ab->Prop}{ed:List (ab × ab)}(h:bf H a kvs N ed)(s:af H H'):bf H' a kvs N ed :=
 ⟨h.dp.same s,h.key,λe he=>let ⟨l,qs,a,b,c⟩:=h.val e he; ⟨l,qs,a,s _ _ b,c.imp λq p z=>z.same s⟩,h.inj⟩
theorem bt{H H':Hp}{k:ab}{q:Addr}(h:aH H k q)(s : ∀ q xs,H q=some (.tup xs)->H' q=some (.tup xs)):aH H' k q:=by
 obtain⟨c,b,h1,h2,h3⟩:=h
 exact⟨c,b,s _ _ h1,s _ _ h2,s _ _ h3⟩
theorem bf.but{H H':Hp}{a d:Addr}{kvs:List (ab × Addr × V)}{N:ab->Prop}{ed:List (ab × ab)}{u:HO}(h:bf H a kvs N ed)(hd:H d=some u)(n1 : ∀ xs,u ≠ .tup xs)(n2 : ∀ xs,u ≠ .lst xs)(n3 : ∀ f,u ≠ .ext f)(s : ∀ c,c≠d->H' c=H c):bf H' a kvs N ed:=by
 have tu : ∀ q xs,H q=some (.tup xs)->H' q=some (.tup xs):=λq xs z=>by rw[s q (av z hd (n1 xs).symm)]; exact z
 obtain⟨⟨⟨xs,ep,h1,h2⟩,k,n,l⟩,hk,hv,hj⟩:=h
 refine⟨⟨⟨xs,ep,by rw[s a (av h1 hd (n3 _).symm)]; exact h1,h2⟩,λx hx=>bt (k x hx) tu,n,l⟩,hk,λe he=>?_,hj⟩
 obtain⟨l,qs,a1,a2,a3⟩:=hv e he
 exact⟨l,qs,a1,by rw[s l (av a2 hd (n2 _).symm)]; exact a2,a3.imp λq p z=>bt z tu⟩
theorem bf.put{H H':Hp}{a l q:Addr}{kvs:List (ab × Addr × V)}{N:ab->Prop}{ed:List (ab × ab)}{p g:ab}{ys:List V}(h:bf H a kvs N ed)(hv:az kvs g=some (.ref l))(hl:H l=some (.lst ys))(hq:aH H p q)
 (e':H'=upd H l (.lst (ys++[.ref q]))):bf H' a kvs N (ed++[(p,g)]):=by
 have so : ∀ c,c≠l->H' c=H c:=λc n=>by rw[e',ai n]
 have tu : ∀ q xs,H q=some (.tup xs)->H' q=some (.tup xs):=λq xs z=>by rw[so q (av z hl (by intro z; cases z))]; exact z
 obtain⟨e0,he0,e01,e02⟩:=eW hv
 refine⟨im h.dp hl so,h.key,λe he=>?_,h.inj⟩
 obtain⟨l1,qs,a1,a2,a3⟩:=h.val e he
 by_cases c:l1=l
 ·subst c
  have eg:e.1=g:=by rw[<- e01]; exact h.inj e he e0 he0 (a1.trans e02.symm)
  rw[hl]at a2; cases a2
  refine⟨l1,qs++[q],a1,by rw[e',aR,List.map_append]; rfl,?_⟩
  rw[List.filter_append,List.map_append]
  refine aw.app (a3.imp λq p z=>bt z tu) ?_
  rw[List.filter_cons_of_pos (by exact decide_eq_true eg.symm)]
  exact aw.cons (bt hq tu) aw.nil
 ·refine⟨l1,qs,a1,by rw[so l1 c]; exact a2,?_⟩
  have ng : ¬ g=e.1:=λz=>by
   cases qU h.dp.nd he he0 (z.symm.trans e01.symm)
   rw[a1]at e02; cases e02
   exact c rfl
  rw[List.filter_append,List.filter_cons_of_neg (by simpa using ng),List.filter_nil,List.append_nil]
  exact a3.imp λq p z=>bt z tu
theorem bf.new{H H':Hp}{a l q:Addr}{kvs:List (ab × Addr × V)}{N:ab->Prop}{k:ab}(h:bf H a kvs N [])(nk : ¬ N k)(hl:H l=some (.lst []))(nn : ∀ e∈kvs,e.2.2 ≠ .ref l)
 (dp:DP H' a (bV kvs k q (.ref l))) (so : ∀ c,c≠a->H' c=H c):bf H' a (kvs++[(k,q,.ref l)]) (λx=>N x\/x=k) []:=by
 obtain⟨xs,ep,h1,_⟩:=h.dp.ex
 have nv:az kvs k=none:=iE λz=>nk ((h.key k).mp z)
 rw[iP nv]at dp
 refine⟨dp,λx=>?_,λe he=>?_,λe he e' he' z=>?_⟩
 ·rw[List.map_append,List.mem_append,h.key]
  simp
 ·rcases List.mem_append.mp he with he | he
  ·obtain⟨l1,qs,a1,a2,a3⟩:=h.val e he
   have:qs=[]:=List.eq_nil_of_length_eq_zero a3.1
   subst this
   exact⟨l1,[],a1,by rw[so l1 (av a2 h1 (by intro z; cases z))]; exact a2,aw.nil⟩
  ·cases List.mem_singleton.mp he
   exact⟨l,[],rfl,by rw[so l (av hl h1 (by intro z; cases z))]; exact hl,aw.nil⟩
 ·rcases List.mem_append.mp he with he | he <;> rcases List.mem_append.mp he' with he' | he'
  ·exact h.inj e he e' he' z
  ·cases List.mem_singleton.mp he'
   exact absurd z (nn e he)
  ·cases List.mem_singleton.mp he
   exact absurd z.symm (nn e' he')
  ·cases List.mem_singleton.mp he
   cases List.mem_singleton.mp he'
   rfl
def bX(E:ab->List (Int × ab))(ks:List ab):List (ab × ab):=ks.flatMap λk=>(E k).map λxg=>(k,xg.2)
theorem BG(E:ab->List (Int × ab))(ks:List ab)(k:ab):bX E (ks++[k])=bX E ks++(E k).map λxg=>(k,xg.2):=by
 unfold bX
 rw[List.flatMap_append]
 simp
theorem BH{E:ab->List (Int × ab)}{ks:List ab}(h : ∀ k∈ks,(E k).length<=390):(bX E ks).length<=390*ks.length:=by
 induction ks with
 | nil=>exact Nat.zero_le _
 | cons k ks ih =>
  have h1:=h k (List.mem_cons_self ..)
  have h2:=ih λx hx=>h x (List.mem_cons_of_mem _ hx)
  show (((E k).map λxg=>(k,xg.2))++bX E ks).length<=_
  rw[List.length_append,List.length_map,List.length_cons]
  omega
def tW(H:Hp)(kvs:List (ab × Addr × V)):Prop:=∀ e∈kvs,∀ l,e.2.2=.ref l->H l=none
def wb:Sp:=λvs H Q _=>∃ (a:Addr) (kvA:List (ab × Addr × V)) (F:ab->Int->Option ab) (N:ab->Prop) (E:ab->List (Int × ab)),vs=[.ref a]/\i4 H a kvA F N E/\(∀ k x g,N k->F k x=some g->N g)/\kvA.length<=40000 /\
 ∀ fd kvH H',af H H'->H fd=none->bf H' fd kvH N (bX E (kvA.map λe=>e.1))->tW H kvH->Q (.ref fd) H'
theorem AI (T:Txt K mg t):be P w K mg base "ahead_of" 1 t.og t.mO ["apart"] wb:=by
 refine⟨T.Bu,T.uJ.kp,T.C7,T.uJ.okQ gG (λvs H Q E h=>by obtain⟨a,kvA,F,N,E,rfl,_⟩:=h; rfl) λcdv A outer s H vs Q E hr h=>?_⟩
 obtain⟨a,kvA,F,N,E,rfl,gr,cl,lA,kk⟩:=h
 have hu:=hr.units
 refine⟨_,(aq (aX (i:=1) gG.nd rfl (.inl rfl) iK)
  (aq (bL PassesOwn.never rfl (qk (aa 0)) (aB (i:=2) gG.nd rfl (.inl rfl)) (ap (iM hu (aa 1) (aa 2) (cV ag))))
  (aq (bL PassesOwn.never rfl (lg (aa 0)) (cw (K:=K) rfl rfl (aY (aB (i:=2) gG.nd rfl (.inl rfl)) (aY (aB (i:=3) gG.nd rfl (.inl rfl)) cv))) (ap (kY (bL PassesOwn.never rfl (xa (aa 3)) (aB (i:=4) gG.nd rfl (.inl rfl)) (ap (cI (dU (K:=K) rfl PySem.F.plainAttrs_list PySem.F.slot_list_append PySem.F.type_list_append dY (cW hu (aa 1) (aa 4)) (ae (aa 2) ag))))))))
  (ap (aK (aa 1)))))),?_⟩
 refine λfd H1 g1=>?_
 obtain⟨ns,ens⟩ : ∃ ns,ns=kvA.map λe=>e.1:=⟨_,rfl⟩
 have nsN:ns.Nodup:=by rw[ens]; exact gr.dp.nd
 have lns:ns.length=kvA.length:=by rw[ens,List.length_map]
 have lE : ∀ k∈ns,(E k).length<=390:=λk hk=>by
  rw[ens]at hk
  obtain⟨e,he,rfl⟩:=List.mem_map.mp hk
  obtain⟨d,ks,_,_,a3,a4⟩:=gr.val e he
  have:=a3.len
  have:=a4.1
  omega
 obtain⟨xs0,ep0,dh,_⟩:=gr.dp.ex
 refine⟨a,kvA,rfl,gr.dp.same g1.sm,λo ho=>?_⟩
 rw[g1.sm _ _ dh]at ho
 cases ho
 have A0:bf H1 fd [] (λk=>k∈ns.take 0) []:=by
  refine⟨DP.new g1,λk=>⟨λz=>?_,λz=>?_⟩,λe he=>?_,λe he=>?_⟩
  ·cases z
  ·cases z
  ·cases he
  ·cases he
 refine BC (λi σ H'=>af H H'/\(∃ kvH,bf H' fd kvH (λk=>k∈ns.take i) []/\tW H kvH/\kvH.length<=i)/\∃ v2 v3 v4,σ=[some (.ref a),some (.ref fd),v2,v3,v4]) ⟨g1.sm,⟨[],A0,(λe he=>by cases he),Nat.zero_le _⟩,_,_,_,rfl⟩ (λi σ H' _ z=>z.1 _ _ dh) ?_ ?_
 ·rintro i k qb v σ H2 hi ⟨s2,⟨kvH,ah,nw,lH⟩,v2,v3,v4,rfl⟩
  have hki:ns[i]? = some k:=by rw[ens,List.getElem?_map,hi]; rfl
  have il:i < kvA.length:=(List.getElem?_eq_some_iff.mp hi).1
  have kb0:aH H k qb:=gr.dp.key _ (List.mem_of_getElem? hi)
  refine⟨sz rfl,λl H3 g3=>?_⟩
  have s3:=s2.trans g3.sm
  have ah3:=ah.same g3.sm
  refine⟨fd,qb,kvH,k,rfl,rfl,ah3.dp,kb0.same s3,by rw[sizeLine_eq]; omega,λH4 d4 so=>?_⟩
  have nl:H l=none:=by
   cases c:H l with
   | none=>rfl
   | some u=>have:=s2 _ _ c; rw[g3.nw]at this; cases this
  have ah4:=ah3.new (k:=k) (q:=qb) (jz nsN hki) g3.at_ (λe he z=>by
   obtain⟨l1,qs,a1,a2,_⟩:=ah.val e he
   rw[z]at a1; cases a1
   rw[g3.nw]at a2; cases a2) d4 so
  refine⟨λc u e=>by rw[so c (λz=>by rw[z,g1.nw]at e; cases e)]; exact s3 _ _ e,⟨_,ah4.nE λx=>(cK hki).symm,λe he l1 hl1=>?_,by rw[List.length_append]; simp; omega⟩,_,_,_,rfl⟩
  rcases List.mem_append.mp he with h | h
  ·exact nw e h l1 hl1
  ·cases List.mem_singleton.mp h
   cases hl1
   exact nl
 ·rintro σ H2 ⟨s2,⟨kvH,ah,nw,lH⟩,v2,v3,v4,rfl⟩
  have ah2:bf H2 fd kvH N (bX E (ns.take 0)):=ah.nE λx=>by
   rw[<- lns,List.take_length,ens]
   exact gr.key x
  clear ah
  refine⟨a,kvA,rfl,gr.dp.same s2,λo ho=>?_⟩
  rw[s2 _ _ dh]at ho
  cases ho
  refine su (λi σ H'=>af H H'/\bf H' fd kvH N (bX E (ns.take i))/\∃ v2 v3 v4,σ=[some (.ref a),some (.ref fd),v2,v3,v4]) ⟨s2,ah2,_,_,_,rfl⟩ (λi σ H' _ z=>z.1 _ _ dh) ?_ ?_
  ·rintro i k qb v pt σ H3 H4 hi ⟨s3,ah3,v2,v3,v4,rfl⟩ g4
   have hki:ns[i]? = some k:=by rw[ens,List.getElem?_map,hi]; rfl
   have il:i < kvA.length:=(List.getElem?_eq_some_iff.mp hi).1
   have em:=List.mem_of_getElem? hi
   have kb0:aH H k qb:=gr.dp.key _ em
   have nk:N k:=(gr.key k).mp (List.mem_map.mpr ⟨_,em,rfl⟩)
   obtain⟨d,ks,a1,a2,a3,a4⟩:=gr.val _ em
   have a1:v=.ref d:=a1
   subst a1
   have s4:=s3.trans g4.sm
   have d4:=s4 _ _ a2
   have lk:=a3.len
   refine⟨pt,_,rfl,.of g4.at_,rfl,?_⟩
   refine⟨_,_,rfl,_,_,rfl,rfl,?_⟩
   refine⟨d,.dK ks,(λo v z=>by rw[d4]at z; cases z),?_⟩
   refine⟨d,ks,rfl,d4,λob=>?_⟩
   obtain⟨H5,e5⟩ : ∃ H5,H5=upd H4 d (.frz ob (.dK ks)):=⟨_,rfl⟩
   have f5:H5 d=some (.frz ob (.dK ks)):=by rw[e5,aR]
   have b5 : ∀ c u,c≠d->H c=some u->H5 c=some u:=λc u n e=>by rw[e5,ai n]; exact s4 _ _ e
   have ah5:bf H5 fd kvH N (bX E (ns.take i)):=(ah3.same g4.sm).but d4 (λ_ z=>nomatch z) (λ_ z=>nomatch z) (λ_ z=>nomatch z) λc n=>by rw[e5,ai n]
   rw[<- e5]
   clear e5
   have el:(bX E (ns.take i)).length<=390*40000:=by
    have:=BH (E:=E) (ks:=ns.take i) λk hk=>lE k (List.mem_of_mem_take hk)
    rw[List.length_take]at this
    omega
   refine BA (λj σ H'=>(∀ c u,c≠d->H c=some u->H' c=some u)/\H' d=some (.frz ob (.dK ks))/\bf H' fd kvH N (bX E (ns.take i)++((E k).take j).map λxg=>(k,xg.2))/\∃ v4,σ=[some (.ref a),some (.ref fd),some (.ref qb),some (.ref d),v4]) ⟨b5,f5,by simpa using ah5,_,rfl⟩ (λi σ H' _ z=>z.2.1) ?_ ?_
   ·rintro j ky vv σ H6 hj ⟨b6,f6,ah6,v4,rfl⟩
    obtain⟨xg,hx,r1,r2,qg,r3,r4⟩:=a4.right hj
    have r3:vv=.ref qg:=r3
    subst r3
    have r2:F k xg.1=some xg.2:=r2
    have tu6 : ∀ q xs,H q=some (.tup xs)->H6 q=some (.tup xs):=λq xs z=>b6 _ _ (av z a2 (by intro z; cases z)) z
    have ng:N xg.2:=cl k xg.1 xg.2 nk r2
    obtain⟨vl,hvl⟩:=eA ((ah6.key xg.2).mpr ng)
    obtain⟨e0,he0,e01,e02⟩:=eW hvl
    obtain⟨l,qs,c1,c2,c3⟩:=ah6.val e0 he0
    rw[e02]at c1
    subst c1
    have jl:j < ks.length:=(List.getElem?_eq_some_iff.mp hj).1
    have lq:qs.length<=390*40000+390:=by
     rw[c3.1,List.length_map]
     refine Nat.le_trans (List.length_filter_le _ _) ?_
     rw[List.length_append,List.length_map,List.length_take]
     omega
    refine⟨fd,qg,kvH,xg.2,.ref l,rfl,rfl,ah6.dp,bt r4 tu6,hvl,?_⟩
    refine⟨.inl ⟨rfl,_,.of c2⟩,_,c2,by rw[List.length_map,sizeLine_eq]; omega,?_⟩
    have nl:=nw e0 he0 l e02
    have ndl:d≠l:=λz=>by rw[z,nl]at a2; cases a2
    refine⟨λc u n e=>by rw[ai (λz=>by rw[z,nl]at e; cases e)]; exact b6 c u n e,by rw[ai ndl]; exact f6,?_,_,rfl⟩
    have:=ah6.put (p:=k) hvl c2 (bt kb0 tu6) rfl
    rw[List.take_add_one,hx,List.map_append,<- List.append_assoc]
    exact this
   ·rintro σ H6 ⟨b6,f6,ah6,v4,rfl⟩
    refine⟨⟨ob,f6⟩,λc u e=>?_,?_,_,_,_,rfl⟩
    ·by_cases n:c=d
     ·subst n
      rw[a2]at e; cases e
      rw[aR]
     ·rw[ai n]
      exact b6 c u n e
    ·have et:bX E (ns.take (i+1))=bX E (ns.take i)++(E k).map λxg=>(k,xg.2):=by
      rw[List.take_add_one,hki]
      exact BG E _ k
     rw[show (E k).take ks.length=E k from List.take_of_length_le (Nat.le_of_eq a4.1.symm),<- et]at ah6
     exact ah6.but f6 (λ_ z=>nomatch z) (λ_ z=>nomatch z) (λ_ z=>nomatch z) λc n=>by rw[ai n]
  ·rintro σ H3 ⟨s3,ah3,v2,v3,v4,rfl⟩
   rw[<- lns,List.take_length,ens]at ah3
   exact kk fd kvH H3 s3 g1.nw ah3 nw
theorem eB(e:ab × Addr × V)(kvs:List (ab × Addr × V))(x:ab):az (e :: kvs) x=if e.1=x then some e.2.2 else az kvs x:=by
 unfold az
 rw[List.find?_cons]
 by_cases c:e.1=x
 ·rw[if_pos c,decide_eq_true c]; rfl
 ·rw[if_neg c,decide_eq_false c]
theorem kz(kvs:List (ab × Addr × V))(k:ab)(b:Addr)(v:V)(x:ab):az (bV kvs k b v) x=if x=k then some v else az kvs x:=by
 have snoc : ∀ kvs:List (ab × Addr × V),az kvs k=none->az (kvs++[(k,b,v)]) x=if x=k then some v else az kvs x:=by
  intro kvs
  induction kvs with
  | nil =>
   intro _
   show az [(k,b,v)] x=_
   rw[eB]
   by_cases c:x=k
   ·rw[if_pos c,if_pos c.symm]
   ·rw[if_neg c,if_neg (Ne.symm c)]
  | cons e kvs ih =>
   intro h
   rw[eB]at h
   have ne : ¬ e.1=k:=λz=>by rw[if_pos z]at h; cases h
   rw[if_neg ne]at h
   rw[List.cons_append,eB,eB,ih h]
   by_cases c:e.1=x
   ·rw[if_pos c,if_pos c,if_neg (λz=>ne (c.trans z))]
   ·rw[if_neg c,if_neg c]
 have mp : ∀ kvs:List (ab × Addr × V),(az kvs k).isSome=true->az (kvs.map λy=>if y.1=k then (y.1,y.2.1,v) else y) x=if x=k then some v else az kvs x:=by
  intro kvs
  induction kvs with
  | nil=>intro h; cases h
  | cons e kvs ih =>
   intro h
   rw[List.map_cons,eB,eB]
   rw[eB]at h
   by_cases ek:e.1=k
   ·rw[if_pos ek]
    by_cases c:e.1=x
    ·rw[if_pos (show (e.1,e.2.1,v).1=x from c),if_pos (c.symm.trans ek)]
    ·rw[if_neg (show ¬ (e.1,e.2.1,v).1=x from c),if_neg (λz=>c (ek.trans z.symm)),if_neg c]
     have nx : ¬ x=k:=λz=>c (ek.trans z.symm)
     clear ih h
     induction kvs with
     | nil=>rfl
     | cons y kvs ih2 =>
      rw[List.map_cons,eB,eB,ih2]
      by_cases yk:y.1=k
      ·rw[if_pos yk,if_neg (show ¬ (y.1,y.2.1,v).1=x from λz=>nx (z.symm.trans yk)),if_neg (λz=>nx (z.symm.trans yk))]
      ·rw[if_neg yk]
   ·rw[if_neg ek]at h ⊢
    rw[ih h]
    by_cases c:e.1=x
    ·rw[if_pos c,if_pos c,if_neg (λz=>ek (c.trans z))]
    ·rw[if_neg c,if_neg c]
 unfold bV
 by_cases h:(az kvs k).isSome=true
 ·rw[if_pos h]
  exact mp kvs h
 ·rw[if_neg h]
  exact snoc kvs (Option.not_isSome_iff_eq_none.mp h)
structure bY (H:Hp) (a:Addr) (kvs:List (ab × Addr × V)) (N:ab->Prop) (c:ab->Nat):Prop where
 dp:DP H a kvs
 val : ∀ k,N k->az kvs k=some (.int (c k:Int))
 sub : ∀ k,(az kvs k).isSome=true->N k
theorem bY.same{H H':Hp}{a:Addr}{kvs:List (ab × Addr × V)}{N:ab->Prop}{c:ab->Nat}(h:bY H a kvs N c)(s:af H H'):bY H' a kvs N c:=⟨h.dp.same s,h.val,h.sub⟩
theorem bY.put{H H':Hp}{a b:Addr}{kvs:List (ab × Addr × V)}{N N':ab->Prop}{c c':ab->Nat}{k:ab}{m:Nat}(h:bY H a kvs N c)(dp:DP H' a (bV kvs k b (.int (m:Int))))(hN : ∀ x,N' x ↔ N x\/x=k)(ck:c' k=m)(cx : ∀ x,x≠k->c' x=c x):bY H' a (bV kvs k b (.int (m:Int))) N' c':=by
 refine⟨dp,λx hx=>?_,λx hx=>?_⟩
 ·rw[kz]
  by_cases e:x=k
  ·rw[if_pos e,e,ck]
  ·rw[if_neg e,cx x e]
   exact h.val x (((hN x).mp hx).resolve_right e)
 ·rw[kz]at hx
  by_cases e:x=k
  ·exact (hN x).mpr (.inr e)
  ·rw[if_neg e]at hx
   exact (hN x).mpr (.inl (h.sub x hx))
def bn(E:ab->List (Int × ab))(S:List ab)(p:ab):Nat:=((E p).filter λxg=>decide (xg.2∉S)).length
theorem yS(E:ab->List (Int × ab))(S:List ab)(g p:ab)(hg:g∉S):bn E S p=bn E (S++[g]) p+((E p).filter λxg=>decide (xg.2=g)).length:=by
 unfold bn
 induction E p with
 | nil=>rfl
 | cons y ys ih =>
  rw[List.filter_cons,List.filter_cons,List.filter_cons]
  by_cases c:y.2=g
  ·rw[if_pos (decide_eq_true (by rw[c]; exact hg)),if_neg (by rw[decide_eq_true_iff,c]; simp),if_pos (decide_eq_true c),List.length_cons,List.length_cons,ih]
   omega
  ·have h3 : ¬ decide (y.2=g)=true:=by rw[decide_eq_true_iff]; exact c
   by_cases d:y.2∈S
   ·have h1 : ¬ decide (y.2∉S)=true:=by rw[decide_eq_true_iff]; exact λz=>z d
    have h2 : ¬ decide (y.2∉S++[g])=true:=by rw[decide_eq_true_iff]; exact λz=>z (List.mem_append_left _ d)
    rw[if_neg h1,if_neg h2,if_neg h3,ih]
   ·have h1:decide (y.2∉S)=true:=decide_eq_true d
    have h2:decide (y.2∉S++[g])=true:=decide_eq_true (by
     rw[List.mem_append]
     rintro (z | z)
     ·exact d z
     ·exact c (List.mem_singleton.mp z))
    rw[if_pos h1,if_pos h2,if_neg h3,List.length_cons,List.length_cons,ih]
    omega
theorem qO{E:ab->List (Int × ab)}{S:List ab}{p:ab}:bn E S p=0 ↔ ∀ xg∈E p,xg.2∈S:=by
 unfold bn
 rw[List.length_eq_zero_iff,List.filter_eq_nil_iff]
 constructor
 ·intro h xg hx
  have:=h xg hx
  rw[decide_eq_true_iff]at this
  exact Classical.byContradiction this
 ·intro h xg hx
  rw[decide_eq_true_iff]
  exact λz=>z (h xg hx)
theorem B0(E:ab->List (Int × ab))(ks:List ab)(nd:ks.Nodup)(g p:ab):(((bX E ks).filter λpg=>decide (pg.2=g)).map λpg=>pg.1).count p=if p∈ks then ((E p).filter λxg=>decide (xg.2=g)).length else 0:=by
 induction ks with
 | nil=>rfl
 | cons k ks ih =>
  obtain⟨n1,n2⟩:=List.nodup_cons.mp nd
  show (((((E k).map λxg=>(k,xg.2))++bX E ks).filter λpg=>decide (pg.2=g)).map λpg=>pg.1).count p=_
  rw[List.filter_append,List.map_append,List.count_append,ih n2]
  have one : ∀ l:List (Int × ab),(((l.map λxg=>(k,xg.2)).filter λpg=>decide (pg.2=g)).map λpg=>pg.1)=List.replicate (l.filter λxg=>decide (xg.2=g)).length k:=by
   intro l
   induction l with
   | nil=>rfl
   | cons y l ih =>
    rw[List.map_cons,List.filter_cons,List.filter_cons]
    by_cases c:y.2=g
    ·rw[if_pos (decide_eq_true c),if_pos (decide_eq_true c),List.map_cons,ih,List.length_cons,List.replicate_succ]
    ·rw[if_neg (by rw[decide_eq_true_iff]; exact c),if_neg (by rw[decide_eq_true_iff]; exact c),ih]
  rw[one,List.count_replicate]
  by_cases c:p=k
  ·subst c
   rw[if_pos (by simp),if_neg n1,if_pos (List.mem_cons_self ..)]
   omega
  ·rw[if_neg (by simpa using Ne.symm c)]
   by_cases d:p∈ks
   ·rw[if_pos d,if_pos (List.mem_cons_of_mem _ d)]; omega
   ·rw[if_neg d,if_neg (λz=>(List.mem_cons.mp z).elim c d)]
structure bT (H:Hp) (a:Addr) (kvs:List (ab × Addr × V)) (F:ab->Int->Option ab) (N:ab->Prop):Prop where
 dp:DP H a kvs
 sub : ∀ k,k∈kvs.map (λe=>e.1)->N k
 val : ∀ k,k∈kvs.map (λe=>e.1)->∃ q n bv,bE H kvs k q n bv/\(n<=kvs.length/\ua F k n)/\(n=0\/∃ x g q' bv',bv=.int x/\F k x=some g/\bE H kvs g q' (n - 1) bv')
theorem bT.far{H:Hp}{a:Addr}{kvs:List (ab × Addr × V)}{F:ab->Int->Option ab}{N:ab->Prop}(h:bT H a kvs F N)(l:kvs.length<=160000):fF H a kvs F N :=
 ⟨h.dp,h.sub,λk hk=>let ⟨q,n,bv,a,b,c⟩:=h.val k hk; ⟨q,n,bv,a,⟨Nat.le_trans b.1 l,b.2⟩,c⟩⟩
theorem bT.same{H H':Hp}{a:Addr}{kvs:List (ab × Addr × V)}{F:ab->Int->Option ab}{N:ab->Prop}(h:bT H a kvs F N)(s:af H H'):bT H' a kvs F N :=
 ⟨h.dp.same s,h.sub,λk hk=>by
  obtain⟨q,n,bv,a,l,b⟩:=h.val k hk
  refine⟨q,n,bv,a.same λq xs z=>s _ _ z,l,b.imp id ?_⟩
  rintro⟨x,g,q',bv',b1,b2,b3⟩
  exact⟨x,g,q',bv',b1,b2,b3.same λq xs z=>s _ _ z⟩⟩
theorem bT.nil{H:Hp}{a:Addr}{F:ab->Int->Option ab}{N:ab->Prop}(h:DP H a []):bT H a [] F N:=by
 refine⟨h,λk hk=>?_,λk hk=>?_⟩
 ·cases hk
 ·cases hk
theorem bT.put{H H':Hp}{a b q:Addr}{kvs:List (ab × Addr × V)}{F:ab->Int->Option ab}{N:ab->Prop}{k:ab}{n:Nat}{bv:V}(h:bT H a kvs F N)(nk:k∉kvs.map λe=>e.1)(Nk:N k)(hq:H q=some (.tup [.int (n:Int),bv]))
 (hn:n=0\/∃ x g q' bv',bv=.int x/\F k x=some g/\0 < n/\bE H kvs g q' (n - 1) bv') (hm : ∀ x g,F k x=some g->∃ q' m bv',bE H kvs g q' m bv'/\m+1<=n) (dp:DP H' a (bV kvs k b (.ref q))) (so : ∀ c,c≠a->H' c=H c):bT H' a (kvs++[(k,b,.ref q)]) F N:=by
 obtain⟨xs,ep,h1,_⟩:=h.dp.ex
 have tu : ∀ q xs,H q=some (.tup xs)->H' q=some (.tup xs):=λq xs z=>by rw[so q (av z h1 (by intro z; cases z))]; exact z
 have nv:az kvs k=none:=iE nk
 have vp : ∀ x,az (kvs++[(k,b,V.ref q)]) x=if x=k then some (.ref q) else az kvs x:=λx=>by rw[<- iP nv]; exact kz ..
 have fv : ∀ {g q' m bv'},bE H kvs g q' m bv'->bE H' (kvs++[(k,b,V.ref q)]) g q' m bv':=λ{g q' m bv'} z=>⟨by rw[vp,if_neg (λe=>by have:=z.key; rw[e]at this; exact nk this)]; exact z.1,tu _ _ z.2⟩
 rw[iP nv]at dp
 have ll:(kvs++[(k,b,V.ref q)]).length=kvs.length+1:=by rw[List.length_append]; rfl
 refine⟨dp,λx hx=>?_,λx hx=>?_⟩
 ·rw[List.map_append]at hx
  rcases List.mem_append.mp hx with z | z
  ·exact h.sub x z
  ·rw[List.mem_singleton.mp z]; exact Nk
 ·rw[List.map_append]at hx
  rcases List.mem_append.mp hx with z | z
  ·obtain⟨q1,n1,bv1,a1,a2,a3⟩:=h.val x z
   refine⟨q1,n1,bv1,fv a1,⟨by rw[ll]; have:=a2.1; omega,a2.2⟩,a3.imp id ?_⟩
   rintro⟨y,g,q',bv',b1,b2,b3⟩
   exact⟨y,g,q',bv',b1,b2,fv b3⟩
  ·rw[List.mem_singleton.mp z]
   refine⟨q,n,bv,⟨by rw[vp,if_pos rfl],tu _ _ hq⟩,⟨?_,?_⟩,hn.imp id ?_⟩
   ·rw[ll]
    rcases hn with z | ⟨y,g,q',bv',b1,b2,b3,b4⟩
    ·omega
    ·obtain⟨q1,n1,bv1,a1,a2,_⟩:=h.val g b4.key
     obtain⟨_,e,_⟩:=a1.one b4
     have:=a2.1
     omega
   ·intro r g hp
    cases r with
    | nil=>exact Nat.zero_le _
    | cons y r =>
     have hp:(F k y).bind (λg=>br F g r)=some g:=hp
     cases c:F k y with
     | none=>rw[c]at hp; cases hp
     | some g1 =>
      rw[c]at hp
      obtain⟨q',m,bv',b1,b2⟩:=hm y g1 c
      obtain⟨q1,n1,bv1,a1,a2,_⟩:=h.val g1 b1.key
      obtain⟨_,e,_⟩:=a1.one b1
      have:=a2.2 r g hp
      rw[List.length_cons]
      omega
   ·rintro⟨y,g,q',bv',b1,b2,_,b4⟩
    exact⟨y,g,q',bv',b1,b2,fv b4⟩
def vV:Sp:=λvs H Q _=>∃ (a:Addr) (kvA:List (ab × Addr × V)) (F:ab->Int->Option ab) (N:ab->Prop),vs=[.ref a]/\Gr H a kvA F N/\(∀ k x g,N k->F k x=some g->N g)/\kvA.length<=40000 /\
 ∀ fa kvF H',af H H'->H fa=none->fF H' fa kvF F N->(∀ k,N k->k∉kvF.map (λe=>e.1)->∃ x g,F k x=some g/\g∉kvF.map λe=>e.1)->Q (.ref fa) H'
structure Lp (H0 H:Hp) (a fa fd un kl:Addr) (kvA kvH:List (ab × Addr × V)) (F:ab->Int->Option ab) (N:ab->Prop) (E:ab->List (Int × ab)) (kvF kvU:List (ab × Addr × V)) (qs:List Addr) (kn:List ab):Prop where
 sm:af H0 H
 far:bT H fa kvF F N
 unk:bY H un kvU N (bn E (kvF.map λe=>e.1))
 ah:bf H fd kvH N (bX E (kvA.map λe=>e.1))
 ls:H kl=some (.lst (qs.map V.ref))
 kq:aw (λq p=>aH H p q) qs kn
 nd:kn.Nodup
 out : ∀ p∈kn,p∉kvF.map (λe=>e.1)/\N p
 zero : ∀ p,N p->(bn E (kvF.map λe=>e.1) p=0 ↔ p∈kn\/p∈kvF.map λe=>e.1)
theorem bT.butL{H H':Hp}{a d:Addr}{kvs:List (ab × Addr × V)}{F:ab->Int->Option ab}{N:ab->Prop}{ys:List V}(h:bT H a kvs F N)(hd:H d=some (.lst ys))(s : ∀ c,c≠d->H' c=H c):bT H' a kvs F N:=by
 have tu : ∀ q xs,H q=some (.tup xs)->H' q=some (.tup xs):=λq xs z=>by rw[s q (av z hd (by intro z; cases z))]; exact z
 refine⟨im h.dp hd s,h.sub,λk hk=>?_⟩
 obtain⟨q,n,bv,a1,a2,a3⟩:=h.val k hk
 refine⟨q,n,bv,a1.same tu,a2,a3.imp id ?_⟩
 rintro⟨x,g,q',bv',b1,b2,b3⟩
 exact⟨x,g,q',bv',b1,b2,b3.same tu⟩
theorem bf.butL{H H':Hp}{a d:Addr}{kvs:List (ab × Addr × V)}{N:ab->Prop}{ed:List (ab × ab)}{ys:List V}(h:bf H a kvs N ed)(hd:H d=some (.lst ys))(nn : ∀ e∈kvs,e.2.2 ≠ .ref d)(s : ∀ c,c≠d->H' c=H c):bf H' a kvs N ed:=by
 have tu : ∀ q xs,H q=some (.tup xs)->H' q=some (.tup xs):=λq xs z=>by rw[s q (av z hd (by intro z; cases z))]; exact z
 refine⟨im h.dp hd s,h.key,λe he=>?_,h.inj⟩
 obtain⟨l,qs,a1,a2,a3⟩:=h.val e he
 exact⟨l,qs,a1,by rw[s l (λz=>nn e he (by rw[a1,z]))]; exact a2,a3.imp λq p z=>bt z tu⟩
theorem mS{H H':Hp}{a d:Addr}{kvs:List (ab × Addr × V)}{f:Heap->Prop}(h:DP H a kvs)(hd:H d=some (.ext f))(ne:a≠d)(s : ∀ c,c≠d->H' c=H c):DP H' a kvs:=by
 obtain⟨⟨xs,ep,h1,h2⟩,k,n,l⟩:=h
 have tu : ∀ q xs,H q=some (.tup xs)->H' q=some (.tup xs):=λq xs z=>by rw[s q (av z hd (by intro z; cases z))]; exact z
 exact⟨⟨xs,ep,by rw[s a ne]; exact h1,h2⟩,λx hx=>bt (k x hx) tu,n,l⟩
theorem bf.butD{H H':Hp}{a d:Addr}{kvs:List (ab × Addr × V)}{N:ab->Prop}{ed:List (ab × ab)}{f:Heap->Prop}(h:bf H a kvs N ed)(hd:H d=some (.ext f))(ne:a≠d)(s : ∀ c,c≠d->H' c=H c):bf H' a kvs N ed:=by
 have tu : ∀ q xs,H q=some (.tup xs)->H' q=some (.tup xs):=λq xs z=>by rw[s q (av z hd (by intro z; cases z))]; exact z
 refine⟨mS h.dp hd ne s,h.key,λe he=>?_,h.inj⟩
 obtain⟨l,qs,a1,a2,a3⟩:=h.val e he
 exact⟨l,qs,a1,by rw[s l (av a2 hd (by intro z; cases z))]; exact a2,a3.imp λq p z=>bt z tu⟩
theorem bT.butD{H H':Hp}{a d:Addr}{kvs:List (ab × Addr × V)}{F:ab->Int->Option ab}{N:ab->Prop}{f:Heap->Prop}(h:bT H a kvs F N)(hd:H d=some (.ext f))(ne:a≠d)(s : ∀ c,c≠d->H' c=H c):bT H' a kvs F N:=by
 have tu : ∀ q xs,H q=some (.tup xs)->H' q=some (.tup xs):=λq xs z=>by rw[s q (av z hd (by intro z; cases z))]; exact z
 refine⟨mS h.dp hd ne s,h.sub,λk hk=>?_⟩
 obtain⟨q,n,bv,a1,a2,a3⟩:=h.val k hk
 refine⟨q,n,bv,a1.same tu,a2,a3.imp id ?_⟩
 rintro⟨x,g,q',bv',b1,b2,b3⟩
 exact⟨x,g,q',bv',b1,b2,b3.same tu⟩
theorem bY.cE{H:Hp}{a:Addr}{kvs:List (ab × Addr × V)}{N:ab->Prop}{c c':ab->Nat}(h:bY H a kvs N c)(e : ∀ k,N k->c k=c' k):bY H a kvs N c':=⟨h.dp,λk hk=>by rw[<- e k hk]; exact h.val k hk,h.sub⟩
theorem bY.len{H:Hp}{a:Addr}{kvs kvA:List (ab × Addr × V)}{N:ab->Prop}{c:ab->Nat}(h:bY H a kvs N c)(k : ∀ k,N k->k∈kvA.map λe=>e.1):kvs.length<=kvA.length:=by
 have:=List.Nodup.length_le_of_subset h.dp.nd (l₂:=kvA.map λe=>e.1) λx hx=>k x (h.sub x (by obtain⟨v,hv⟩:=eA hx; rw[hv]; rfl))
 rwa [List.length_map,List.length_map]at this
theorem AD (T:Txt K mg t):be P w K mg base "farthest" 2 t.nX t.mI ["apart"] vV:=by
 refine⟨T.Bn,T.uD.kp,T.C1,T.uD.okQ eC (λvs H Q E h=>by obtain⟨a,kvA,F,N,rfl,_⟩:=h; rfl) λcdv A outer s H vs Q E hr h=>?_⟩
 obtain⟨a,kvA,F,N,rfl,gr,cl,lA,kk⟩:=h
 obtain⟨E,ge⟩:=AK gr
 have hu:=hr.units
 refine⟨_,(aq (aX (i:=1) eC.nd rfl (.inr rfl) iK)
  (aq (aX (i:=2) eC.nd rfl (.inl rfl) (aU (AI T) hr (ae (aa 0) ag)))
  (aq (aX (i:=3) eC.nd rfl (.inl rfl) iK)
  (aq (bL PassesOwn.never rfl (lg (aa 0)) (cw (K:=K) rfl rfl (aY (aB (i:=4) eC.nd rfl (.inl rfl)) (aY (aB (i:=5) eC.nd rfl (.inl rfl)) cv))) (ap (iM hu (aa 3) (aa 4) (aZ Cl T.n_len PySem.boot_len (ae (aa 5) ag)))))
  (aq (jo (i:=6) eC.nd rfl (.inl rfl) rfl (bQ.of (fns:=(ak ff).names) (N:=["apart", "far", "ahead", "unknown", "pair", "behind", "known", "earlier"]) (Nc:=["pair", "behind"]) (nv:=2) (caps:=[]) rfl rfl (by decide +kernel)) (lg (aa 0)) (λ_ _ _ _=>(cw (K:=K) rfl (n:=2) rfl (aY (aB (i:=0) (show List.Nodup (["pair", "behind"]:List Str) by decide +kernel) rfl (Or.inl rfl) (Or.inr rfl)) (aY (aB (i:=1) (show List.Nodup (["pair", "behind"]:List Str) by decide +kernel) rfl (Or.inl rfl) (Or.inr rfl)) cv)))) (λ_ _ _ _=>(kZ (dD (qf (aa 1))))) (λ_ _ _ _=>(aa 0)))
  (aq (k9 PassesOwn.never (qp (K:=K) rfl (aa 6)) (aq (aX (i:=4) eC.nd rfl (.inl rfl) (qo (K:=K) rfl PySem.F.plainAttrs_list PySem.F.slot_list_pop PySem.F.type_list_pop zc (aa 6)))
  (aq (iM hu (aa 1) (aa 4) (xr hr (qh (eG rfl (bQ.of (fns:=(ak ff).names) (N:=["apart", "far", "ahead", "unknown", "pair", "behind", "known", "earlier"]) (Nc:=["byte", "goal", "far"]) (nv:=2) (caps:=[1]) rfl rfl (by decide +kernel)) (jq (cW hu (aa 0) (aa 4))) (λ_ _ _ _=>(cw (K:=K) rfl (n:=2) rfl (aY (aB (i:=0) (show List.Nodup (["byte", "goal", "far"]:List Str) by decide +kernel) rfl (Or.inl rfl) (Or.inr rfl)) (aY (aB (i:=1) (show List.Nodup (["byte", "goal", "far"]:List Str) by decide +kernel) rfl (Or.inl rfl) (Or.inr rfl)) cv)))) (λ_ _ _ _=>dR) (λ_ _ _ _=>(bC (ae (fh (fq (K:=K) rfl) (aC (aD (K:=K) rfl) (cW hu (aa 2) (aa 1)) ao (λ_ _=>rfl)) ao) (ae (aa 0) ag)))))) (bC (ae ao (ae ib ag))) T.n_max rfl))
  (ap (bL PassesOwn.never rfl (dt (K:=K) rfl (cW hu (aa 2) (aa 4))) (aB (i:=7) eC.nd rfl (.inl rfl)) (aq (xv hu (aa 3) (aa 7) ao Ae)
  (ap (bB (bq (cD (K:=K) rfl hu) (cW hu (aa 3) (aa 7)) ao (aW _)) (ap (cI (dU (K:=K) rfl PySem.F.plainAttrs_list PySem.F.slot_list_append PySem.F.type_list_append dY (aa 6) (ae (aa 7) ag)))) bA))))))))
  (ap (aK (aa 1))))))))),?_⟩
 refine λfa H1 g1=>?_
 refine⟨a,kvA,F,N,E,rfl,ge.same g1.sm,cl,lA,λfd kvH H2 s2 n2 ah nw=>?_⟩
 refine λun H3 g3=>?_
 obtain⟨ns,ens⟩ : ∃ ns,ns=kvA.map λe=>e.1:=⟨_,rfl⟩
 have nsN:ns.Nodup:=by rw[ens]; exact gr.dp.nd
 have lns:ns.length=kvA.length:=by rw[ens,List.length_map]
 obtain⟨xs0,ep0,dh,_⟩:=gr.dp.ex
 have s3:af H H3:=g1.sm.trans (s2.trans g3.sm)
 have fdfa:fd≠fa:=λz=>by rw[z,g1.at_]at n2; cases n2
 obtain⟨xsh,eph,dhh,_⟩:=ah.dp.ex
 have unfa:un≠fa:=λz=>by have:=g3.nw; rw[z,s2 _ _ g1.at_]at this; cases this
 have unfd:un≠fd:=λz=>by have:=g3.nw; rw[z,dhh]at this; cases this
 have nun:H un=none:=by
  cases c:H un with
  | none=>rfl
  | some u=>have:=s2 _ _ (g1.sm _ _ c); rw[g3.nw]at this; cases this
 refine⟨a,kvA,rfl,gr.dp.same s3,λo ho=>?_⟩
 rw[s3 _ _ dh]at ho
 cases ho
 have U0:bY H3 un [] (λk=>k∈ns.take 0) (bn E []):=⟨DP.new g3,(λk hk=>by cases hk),λk hk=>by cases hk⟩
 refine su (λi σ H'=>(∀ c u,c≠un->H3 c=some u->H' c=some u)/\(∃ kvU,bY H' un kvU (λk=>k∈ns.take i) (bn E [])/\kvU.length<=i)/\∃ v4 v5 v6 v7,σ=[some (.ref a),some (.ref fa),some (.ref fd),some (.ref un),v4,v5,v6,v7]) ⟨λc u _ e=>e,⟨[],U0,Nat.zero_le _⟩,_,_,_,_,rfl⟩ (λi σ H' _ z=>z.1 _ _ (λe=>by rw[<- e,dh]at nun; cases nun) (s3 _ _ dh)) ?_ ?_
 ·rintro i k qb v pt σ H4 H5 hi ⟨b4,⟨kvU,uk,lU⟩,v4,v5,v6,v7,rfl⟩ g5
  have hki:ns[i]? = some k:=by rw[ens,List.getElem?_map,hi]; rfl
  have il:i < kvA.length:=(List.getElem?_eq_some_iff.mp hi).1
  have em:=List.mem_of_getElem? hi
  have kb0:aH H k qb:=gr.dp.key _ em
  obtain⟨d,ks,a1,a2,a3,a4⟩:=ge.val _ em
  have a1:v=.ref d:=a1
  subst a1
  have b5 : ∀ c u,c≠un->H3 c=some u->H5 c=some u:=λc u n e=>g5.sm _ _ (b4 c u n e)
  have s5:af H H5:=λc u e=>b5 c u (λz=>by rw[z,nun]at e; cases e) (s3 _ _ e)
  refine⟨pt,_,rfl,.of g5.at_,rfl,?_⟩
  refine⟨_,_,rfl,_,_,rfl,rfl,?_⟩
  refine⟨d,ks.length,rfl,.inl ⟨ks,s5 _ _ a2,rfl⟩,?_⟩
  refine⟨un,qb,kvU,k,rfl,rfl,uk.dp.same g5.sm,kb0.same s5,by rw[sizeLine_eq]; omega,λH6 d6 so=>?_⟩
  refine⟨λc u n e=>by rw[so c n]; exact b5 c u n e,⟨_,(uk.same g5.sm).put (m:=ks.length) d6 (λx=>cK hki) ?_ (λ_ _=>rfl),by have:=qy kvU k qb (.int (ks.length:Int)); omega⟩,_,_,_,_,rfl⟩
  unfold bn
  rw[List.filter_eq_self.mpr (λy _=>by simp)]
  exact a4.1.symm
 ·rintro σ H4 ⟨b4,⟨kvU,uk,lU⟩,v4,v5,v6,v7,rfl⟩
  have uk4:bY H4 un kvU N (bn E []):=by
   refine⟨uk.dp,λk hk=>uk.val k ?_,λk hk=>?_⟩
   ·rw[<- lns,List.take_length,ens]; exact (gr.key k).mpr hk
   ·have:=uk.sub k hk
    rw[<- lns,List.take_length,ens]at this
    exact (gr.key k).mp this
  have s4:af H H4:=λc u e=>b4 c u (λz=>by rw[z,nun]at e; cases e) (s3 _ _ e)
  have op0 : ∀ p,bn E [] p=(E p).length:=λp=>by unfold bn; rw[List.filter_eq_self.mpr (λy _=>by simp)]
  clear uk
  refine⟨a,kvA,rfl,gr.dp.same s4,λo ho=>?_⟩
  rw[s4 _ _ dh]at ho
  cases ho
  refine B4 (K:=K) (λi ys H'=>af H4 H'/\∃ qs kn,ys=qs.map V.ref/\aw (λq p=>aH H' p q) qs kn/\kn.Nodup/\(∀ p∈kn,p∈ns.take i)/\(∀ p∈ns.take i,bn E [] p=0 ↔ p∈kn)/\qs.length<=i) ⟨af.refl _,[],[],rfl,aw.nil,.nil,(λp h=>by cases h),(λp h=>by cases h),Nat.zero_le _⟩ (λi ys H' hi z=>⟨z.1 _ _ (s4 _ _ dh),?_⟩) (dk (by omega)) (λi k qb v ys H5 H6 NN hkv z s56 hN=>?_) λys H5 kl H6 z g6=>?_
  ·obtain⟨_,qs,kn,rfl,_,_,_,_,l⟩:=z
   rw[List.length_map]; exact l
  ·obtain⟨s5,qs,kn,rfl,al,nd,sub,iff,lq⟩:=z
   have hki:ns[i]? = some k:=by rw[ens,List.getElem?_map,hkv]; rfl
   have em:=List.mem_of_getElem? hkv
   have kb0:aH H k qb:=gr.dp.key _ em
   obtain⟨d,ks,a1,a2,a3,a4⟩:=ge.val _ em
   have a1:v=.ref d:=a1
   subst a1
   have s46:=s5.trans s56
   have s6:af H H6:=s4.trans s46
   have le:bn E [] k=ks.length:=by rw[op0]; exact a4.1.symm
   have nk:=jz nsN hki
   refine⟨d,ks.length,rfl,.inl ⟨ks,s6 _ _ a2,rfl⟩,?_⟩
   refine aF (λz=>?_) (λz=>?_)
   ·have l0:ks.length=0:=by
     have z:(!(ks.length != 0))=true:=z
     simpa using z
    refine hN _ _ ⟨s46,qs++[qb],kn++[k],by rw[List.map_append]; rfl,aw.app (al.imp λq p z=>z.same s56) (aw.cons (kb0.same s6) aw.nil),?_,λp hp=>?_,λp hp=>?_,by rw[List.length_append]; simp; omega⟩
    ·refine List.nodup_append.mpr ⟨nd,by simp,λu hu v hv e=>?_⟩
     rw[List.mem_singleton.mp hv]at e
     exact nk (e ▸ sub u hu)
    ·rw[cK hki]
     rcases List.mem_append.mp hp with h | h
     ·exact .inl (sub p h)
     ·exact .inr (List.mem_singleton.mp h)
    ·rw[cK hki]at hp
     rw[List.mem_append]
     by_cases c:p=k
     ·exact⟨λ_=>.inr (by rw[c]; exact List.mem_singleton.mpr rfl),λ_=>by rw[c,le,l0]⟩
     ·rw[iff p (hp.resolve_right c)]
      exact⟨.inl,λh=>h.elim id λh=>absurd (List.mem_singleton.mp h) c⟩
   ·have l0:ks.length≠0:=λc=>z (by show (!(ks.length != 0))=true; rw[c]; rfl)
    refine hN _ _ ⟨s46,qs,kn,rfl,al.imp λq p z=>z.same s56,nd,λp hp=>(cK hki).mpr (.inl (sub p hp)),λp hp=>?_,by omega⟩
    rw[cK hki]at hp
    by_cases c:p=k
    ·exact⟨λh=>absurd (by rw[<- le,<- c]; exact h) l0,λh=>absurd (by rw[<- c]; exact sub p h) nk⟩
    ·exact iff p (hp.resolve_right c)
  ·obtain⟨s5,qs0,kn0,rfl,al,nd,sub,iff,lq⟩:=z
   have s46:=s5.trans g6.sm
   have s6:af H H6:=s4.trans s46
   have b36 : ∀ c u,c≠un->H3 c=some u->H6 c=some u:=λc u n e=>s46 _ _ (b4 c u n e)
   rw[<- lns,List.take_length]at sub iff
   have nkl:H kl=none:=by
    cases c:H kl with
    | none=>rfl
    | some u=>have:=s5 _ _ (s4 _ _ c); rw[g6.nw]at this; cases this
   have L0:Lp H H6 a fa fd un kl kvA kvH F N E [] kvU qs0 kn0:=by
    refine⟨s6,bT.nil ((DP.new g1).same λc u e=>?_),uk4.same s46,ah.same λc u e=>?_,g6.at_,al.imp λq p z=>z.same g6.sm,nd,λp hp=>⟨(λz=>by cases z),(gr.key p).mp (by rw[<- ens]; exact sub p hp)⟩,λp hp=>?_⟩
    ·exact b36 _ _ (λz=>by have:=g3.nw; rw[<- z,s2 _ _ e]at this; cases this) (g3.sm _ _ (s2 _ _ e))
    ·exact b36 _ _ (λz=>by have:=g3.nw; rw[<- z,e]at this; cases this) (g3.sm _ _ e)
    ·rw[show ([]:List (ab × Addr × V)).map (λe=>e.1)=[] from rfl,iff p (by rw[ens]; exact (gr.key p).mpr hp)]
     exact⟨.inl,λh=>h.elim id λh=>by cases h⟩
   have nlk : ∀ e∈kvH,e.2.2 ≠ .ref kl:=λe he z=>by
    obtain⟨l,qs,c1,c2,_⟩:=ah.val e he
    rw[z]at c1; cases c1
    have:=s5 _ _ (b4 _ _ (λz=>by have:=g3.nw; rw[<- z,c2]at this; cases this) (g3.sm _ _ c2))
    rw[g6.nw]at this; cases this
   refine⟨λm σ H'=>∃ kvF kvU qs kn v4 v5 v7,σ=[some (.ref a),some (.ref fa),some (.ref fd),some (.ref un),v4,v5,some (.ref kl),v7]/\Lp H H' a fa fd un kl kvA kvH F N E kvF kvU qs kn/\kvU.length<=kvA.length/\m=kvA.length - kvF.length,⟨_,[],kvU,qs0,kn0,_,_,_,rfl,L0,lU,rfl⟩,?_⟩
   rintro m σ H7 ⟨kvF,kvU,qs,kn,v4,v5,v7,rfl,L,lU,rfl⟩
   have lF:kvF.length<=kvA.length:=by
    have:=List.Nodup.length_le_of_subset L.far.dp.nd (l₂:=kvA.map λe=>e.1) λx hx=>(gr.key x).mpr (L.far.sub x hx)
    rwa [List.length_map,List.length_map]at this
   refine⟨_,.inl (.of L.ls),?_⟩
   refine aF (λz=>?_) (λz=>?_)
   ·obtain⟨qs1,q,rfl⟩ : ∃ qs1 q,qs=qs1++[q]:=by
     rcases List.eq_nil_or_concat qs with h | ⟨qs1,q,h⟩
     ·rw[h]at z; cases z
     ·exact⟨qs1,q,by rw[h,List.concat_eq_append]⟩
    obtain⟨kn1,k,rfl⟩ : ∃ kn1 k,kn=kn1++[k]:=by
     rcases List.eq_nil_or_concat kn with h | ⟨kn1,k,h⟩
     ·have:=L.kq.1; rw[h]at this; simp at this
     ·exact⟨kn1,k,by rw[h,List.concat_eq_append]⟩
    have ln:qs1.length=kn1.length:=by have:=L.kq.1; simpa using this
    have kq7:aH H7 k q:=L.kq.2 qs1.length q k (by simp) (by rw[ln]; simp)
    have al1:aw (λq p=>aH H7 p q) qs1 kn1:=⟨ln,λi x y hx hy=>L.kq.2 i x y (by rw[List.getElem?_append_left (List.getElem?_eq_some_iff.mp hx).1]; exact hx) (by rw[List.getElem?_append_left (List.getElem?_eq_some_iff.mp hy).1]; exact hy)⟩
    have km:k∈kn1++[k]:=List.mem_append_right _ (List.mem_singleton.mpr rfl)
    obtain⟨kS,Nk⟩:=L.out k km
    have all0:=qO.mp ((L.zero k Nk).mpr (.inl km))
    have kA:k∈kvA.map λe=>e.1:=(gr.key k).mpr Nk
    have ltF:kvF.length+1<=kvA.length:=by
     have:=List.Nodup.length_le_of_subset (List.nodup_cons.mpr ⟨kS,L.far.dp.nd⟩) (l₂:=kvA.map λe=>e.1) λx hx=>by
      rcases List.mem_cons.mp hx with h | h
      ·rw[h]; exact kA
      ·exact (gr.key x).mpr (L.far.sub x h)
     rwa [List.length_cons,List.length_map,List.length_map]at this
    refine⟨_,λσ' H' h=>⟨kvA.length - (kvF.length+1),by omega,h⟩,?_⟩
    refine⟨.inl ⟨rfl,_,.of L.ls⟩,kl,_,.ref q,rfl,rfl,L.ls,by simp,?_⟩
    obtain⟨H8,e8⟩ : ∃ H8,H8=upd H7 kl (.lst (((qs1++[q]).map V.ref).dropLast)):=⟨_,rfl⟩
    have so8 : ∀ c,c≠kl->H8 c=H7 c:=λc n=>by rw[e8,ai n]
    have l8:H8 kl=some (.lst (qs1.map V.ref)):=by rw[e8,aR,List.map_append]; simp
    rw[<- e8]
    clear e8
    have tu8 : ∀ q xs,H7 q=some (.tup xs)->H8 q=some (.tup xs):=λq xs z=>by rw[so8 q (av z L.ls (by intro z; cases z))]; exact z
    have far8:=L.far.butL L.ls so8
    have unk8:bY H8 un kvU N (bn E (kvF.map λe=>e.1)):=⟨im L.unk.dp L.ls so8,L.unk.val,L.unk.sub⟩
    have ah8:=L.ah.butL L.ls nlk so8
    have s8:af H H8:=λc u e=>by rw[so8 c (λz=>by rw[z,nkl]at e; cases e)]; exact L.sm _ _ e
    have ge8:=ge.same s8
    have ky8:=bt kq7 tu8
    have al8:aw (λq p=>aH H8 p q) qs1 kn1:=al1.imp λq p z=>bt z tu8
    dsimp only [bD]
    refine kP (λσ' H'=>σ'=[some (.ref a),some (.ref fa),some (.ref fd),some (.ref un),some (.ref q),v5,some (.ref kl),v7]/\af H H'/\(∃ kvF',kvF'.map (λe=>e.1)=kvF.map (λe=>e.1)++[k]/\bT H' fa kvF' F N)/\bY H' un kvU N (bn E (kvF.map λe=>e.1))/\bf H' fd kvH N (bX E (kvA.map λe=>e.1))/\H' kl=some (.lst (qs1.map V.ref))/\aw (λq p=>aH H' p q) qs1 kn1/\aH H' k q) (λnx hnx=>?_) λσ' H' z=>?_
    ·obtain⟨v,hv⟩:=eA kA
     obtain⟨e0,he0,e01,e02⟩:=eW hv
     obtain⟨d,ks,a1,a2,a3,a4⟩:=ge8.val e0 he0
     rw[e02]at a1
     subst a1
     rw[e01]at a3 a4
     refine⟨d,.dK ks,(λo v z=>by rw[a2]at z; cases z),?_⟩
     refine⟨a,q,kvA,k,.ref d,rfl,rfl,ge8.dp,ky8,hv,?_⟩
     refine⟨d,ks,rfl,a2,λob=>?_⟩
     obtain⟨H9,e9⟩ : ∃ H9,H9=upd H8 d (.frz ob (.dK ks)):=⟨_,rfl⟩
     have f9:H9 d=some (.frz ob (.dK ks)):=by rw[e9,aR]
     have b9 : ∀ c u,c≠d->H8 c=some u->H9 c=some u:=λc u n e=>by rw[e9,ai n]; exact e
     have df9:DP H9 fa kvF:=sP far8.dp a2 λc n=>by rw[e9,ai n]
     have tu9 : ∀ q xs,H8 q=some (.tup xs)->H9 q=some (.tup xs):=λq xs z=>b9 _ _ (av z a2 (by intro z; cases z)) z
     rw[<- e9]
     clear e9
     refine m4 (K:=K) (λi ys H'=>af H9 H'/\∃ ts:List (Addr × Int × Int),ys=ts.map (λx=>V.ref x.1)/\ts.length=i/\(∀ x∈ts,H' x.1=some (.tup [.int x.2.1,.int x.2.2])/\∃ (g:ab) (q':Addr) (n:Nat) (bv':V),F k x.2.2=some g/\bE H8 kvF g q' n bv'/\x.2.1=(n:Int)+1)/\∀ (j:Nat) xg,j < i->(E k)[j]? = some xg->∃ x∈ts,∃ q' n bv',bE H8 kvF xg.2 q' n bv'/\x.2.1=((n:Nat):Int)+1) ⟨af.refl _,[],rfl,rfl,(λx h=>by cases h),λj xg h=>absurd h (Nat.not_lt_zero _)⟩ (λi ys H' hi z=>⟨z.1 _ _ f9,?_⟩) (dk (by have:=a3.len; omega)) (λi ky v ys H10 H11 NN hkv z s10 hN=>?_) λys H10 p H11 z g11=>?_
     ·obtain⟨_,ts,rfl,lt,_⟩:=z
      rw[List.length_map]; omega
     ·obtain⟨s9,ts,rfl,lt,al,cov⟩:=z
      obtain⟨xg,hx,r1,r2,qg,r3,r4⟩:=a4.right hkv
      have r1:ky=.inl xg.1:=r1
      have r3:v=.ref qg:=r3
      subst r1 r3
      obtain⟨q',n,bv',fv,_,_⟩:=far8.val xg.2 (all0 xg (List.mem_of_getElem? hx))
      have s911:=s9.trans s10
      simp only [dN,if_true]
      refine⟨fa,qg,kvF,xg.2,.ref q',rfl,rfl,df9.same s911,bt r4 λq xs z=>s911 _ _ (tu9 _ _ z),fv.1,?_⟩
      refine⟨_,.int (n:Int),.inr (.of (s911 _ _ (tu9 _ _ fv.2))),rfl,?_⟩
      refine⟨sz rfl,λp H12 g12=>hN _ _ ⟨s911.trans g12.sm,ts++[(p,(n:Int)+1,xg.1)],by rw[List.map_append]; rfl,by rw[List.length_append,lt]; rfl,λx hx=>?_,λj xg' hj hx'=>?_⟩⟩
      ·rcases List.mem_append.mp hx with h | h
       ·obtain⟨c1,c2⟩:=al x h
        exact⟨g12.sm _ _ (s10 _ _ c1),c2⟩
       ·rw[List.mem_singleton.mp h]
        exact⟨g12.at_,xg.2,q',n,bv',r2,fv,rfl⟩
      ·by_cases c:j < i
       ·obtain⟨x,xm,z⟩:=cov j xg' c hx'
        exact⟨x,List.mem_append_left _ xm,z⟩
       ·obtain rfl:j=i:=by omega
        rw[hx]at hx'
        cases hx'
        exact⟨_,List.mem_append_right _ (List.mem_singleton.mpr rfl),q',n,bv',fv,rfl⟩
     ·obtain⟨s9,ts,rfl,lt,al,cov⟩:=z
      have s911:=s9.trans g11.sm
      refine⟨⟨ob,s911 _ _ f9⟩,?_⟩
      obtain⟨H12,e12⟩ : ∃ H12,H12=upd H11 d (.dK ks):=⟨_,rfl⟩
      have s812:af H8 H12:=λc u e=>by
       by_cases n:c=d
       ·subst n
        rw[a2]at e; cases e
        rw[e12,aR]
       ·rw[e12,ai n]
        exact s911 _ _ (b9 _ _ n e)
      have o12 : ∀ c u,H11 c=some u->u ≠ .frz ob (.dK ks)->H12 c=some u:=λc u e ne=>by
       rw[e12,ai (λz=>by rw[z,s911 _ _ f9]at e; exact ne (Option.some.inj e).symm)]
       exact e
      rw[<- e12]
      clear e12
      refine⟨sz rfl,λpd H13 g13=>?_⟩
      have s813:=s812.trans g13.sm
      have far13:=far8.same s813
      obtain⟨xsf,epf,dhf,_⟩:=far13.dp.ex
      have fin : ∀ (qv:Addr) (n:Nat) (bv:V),H13 qv=some (.tup [.int (n:Int),bv])->(n=0\/∃ x g q' bv',bv=.int x/\F k x=some g/\0 < n/\bE H13 kvF g q' (n - 1) bv')->(∀ x g,F k x=some g->∃ q' m bv',bE H13 kvF g q' m bv'/\m+1<=n)->∀ H14,DP H14 fa (bV kvF k q (.ref qv))->(∀ c,c≠fa->H14 c=H13 c)->nx [some (.ref a),some (.ref fa),some (.ref fd),some (.ref un),some (.ref q),v5,some (.ref kl),v7] H14:=λqv n bv h1 h2 hm H14 d14 so=>by
       have tu14 : ∀ q xs,H13 q=some (.tup xs)->H14 q=some (.tup xs):=λq xs z=>by rw[so q (av z dhf (by intro z; cases z))]; exact z
       refine hnx _ _ ⟨rfl,λc u e=>by rw[so c (λz=>by rw[z,g1.nw]at e; cases e)]; exact s813 _ _ (s8 _ _ e),⟨_,by rw[List.map_append]; rfl,far13.put kS Nk h1 h2 hm d14 so⟩,?_,(ah8.same s813).butD dhf fdfa so,?_,al8.imp λq p z=>bt (z.same s813) tu14,bt (ky8.same s813) tu14⟩
       ·have u13:=unk8.same s813
        exact⟨mS u13.dp dhf unfa so,u13.val,u13.sub⟩
       ·rw[so kl (av (s813 _ _ l8) dhf (by intro z; cases z))]
        exact s813 _ _ l8
      have lz:kvF.length < sizeLine:=by rw[sizeLine_eq]; omega
      have edg : ∀ x g,F k x=some g->∃ y∈ts,∃ q' m bv',bE H13 kvF g q' m bv'/\y.2.1=((m:Nat):Int)+1:=λx g hF=>by
       obtain⟨q1,w1,w2⟩:=a3.yes x g trivial hF
       unfold aM at w1
       obtain⟨y,hy,_⟩:=Option.map_eq_some_iff.mp w1
       have ey:y.1=.inl x:=by have z:=List.find?_some hy; exact of_decide_eq_true z
       obtain⟨j,hj⟩:=List.getElem?_of_mem (List.mem_of_find?_eq_some hy)
       obtain⟨xg,hx,r1,r2,_⟩:=a4.right hj
       rw[ey]at r1
       cases r1
       rw[hF]at r2
       cases r2
       obtain⟨u,um,q',m,bv',b1,b2⟩:=cov j xg (List.getElem?_eq_some_iff.mp hj).1 hx
       exact⟨u,um,q',m,bv',b1.same λq xs z=>s813 _ _ z,b2⟩
      refine⟨p,ts,rfl,g13.sm _ _ (o12 _ _ g11.at_ (by intro z; cases z)),λx hx=>g13.sm _ _ (o12 _ _ (g11.sm _ _ (al x hx).1) (by intro z; cases z)),λt0=>?_,λx hx mx=>?_⟩
      ·exact⟨fa,q,kvF,k,rfl,rfl,far13.dp,ky8.same s813,lz,λH14 d14 so=>fin pd 0 .non g13.at_ (.inl rfl) (λx g hF=>by obtain⟨y,ym,_⟩:=edg x g hF; rw[t0]at ym; cases ym) H14 d14 so⟩
      ·obtain⟨c1,g,q',n,bv',c2,c3,c4⟩:=al x hx
       refine⟨fa,q,kvF,k,rfl,rfl,far13.dp,ky8.same s813,lz,λH14 d14 so=>fin x.1 (n+1) (.int x.2.2) ?_ (.inr ⟨x.2.2,g,q',bv',rfl,c2,by omega,c3.same λq xs z=>s813 _ _ z⟩) (λx1 g1 hF=>?_) H14 d14 so⟩
       ·have:=g13.sm _ _ (o12 _ _ (g11.sm _ _ c1) (by intro z; cases z))
        rw[c4]at this
        exact this
       ·obtain⟨y,ym,q',m,bv',b1,b2⟩:=edg x1 g1 hF
        refine⟨q',m,bv',b1,?_⟩
        have:=mx y ym
        unfold cZ at this
        split at this
        ·omega
        ·have:=of_decide_eq_false this
         omega
    ·obtain⟨rfl,s9,⟨kvF',eF,far9⟩,unk9,ah9,lk9,al9,ky9⟩:=z
     have lF':kvF'.length=kvF.length+1:=by
      have:=congrArg List.length eF
      rw[List.length_append,List.length_map,List.length_map]at this
      exact this
     obtain⟨v,hv⟩:=eA ((ah9.key k).mpr Nk)
     obtain⟨e0,he0,e01,e02⟩:=eW hv
     obtain⟨l,qa,c1,c2,c3⟩:=ah9.val e0 he0
     rw[e02]at c1
     subst c1
     rw[e01]at c3
     obtain⟨pa,epa⟩ : ∃ pa,pa=((bX E (kvA.map λe=>e.1)).filter λpg=>decide (pg.2=k)).map λpg=>pg.1:=⟨_,rfl⟩
     rw[<- epa]at c3
     have cnt : ∀ p,pa.count p=if p∈kvA.map (λe=>e.1) then ((E p).filter λxg=>decide (xg.2=k)).length else 0:=λp=>by rw[epa]; exact B0 E _ gr.dp.nd k p
     have paN : ∀ p∈pa,N p:=λp hp=>by
      have:=List.count_pos_iff.mpr hp
      rw[cnt]at this
      by_cases c:p∈kvA.map λe=>e.1
      ·exact (gr.key p).mp c
      ·rw[if_neg c]at this; omega
     have nlk':l≠kl:=λz=>nlk e0 he0 (by rw[e02,z])
     have opS : ∀ p,N p->bn E (kvF.map λe=>e.1) p=bn E (kvF.map (λe=>e.1)++[k]) p+(pa.drop 0).count p:=λp hp=>by
      rw[yS E _ k p kS,List.drop_zero,cnt,if_pos ((gr.key p).mpr hp)]
     have ndk:=List.nodup_append.mp L.nd
     refine⟨fd,q,kvH,k,.ref l,rfl,rfl,ah9.dp,ky9,hv,?_⟩
     refine⟨l,rfl,⟨_,.of c2⟩,fY (K:=K) (a:=l) (xs:=qa.map V.ref) (λj σ H'=>af H H'/\bT H' fa kvF' F N/\bf H' fd kvH N (bX E (kvA.map λe=>e.1))/\(∃ kvU,bY H' un kvU N (λp=>bn E (kvF.map (λe=>e.1)++[k]) p+(pa.drop j).count p))/\(∃ qs kn,H' kl=some (.lst (qs.map V.ref))/\aw (λq p=>aH H' p q) qs kn/\kn.Nodup/\(∀ p∈kn,p∉kvF.map (λe=>e.1)++[k]/\N p)/\∀ p,N p->(bn E (kvF.map (λe=>e.1)++[k]) p+(pa.drop j).count p=0 ↔ p∈kn\/p∈kvF.map (λe=>e.1)++[k]))/\H' l=some (.lst (qa.map V.ref))/\aw (λq p=>aH H' p q) qa pa/\∃ v7,σ=[some (.ref a),some (.ref fa),some (.ref fd),some (.ref un),some (.ref q),v5,some (.ref kl),v7]) ⟨s9,far9,ah9,⟨kvU,unk9.cE opS⟩,⟨qs1,kn1,lk9,al9,ndk.1,λp hp=>⟨λz=>?_,(L.out p (List.mem_append_left _ hp)).2⟩,λp hp=>?_⟩,c2,c3,_,rfl⟩ (λi σ H' _ z=>.of z.2.2.2.2.2.1) ?_ ?_⟩
     ·rcases List.mem_append.mp z with h | h
      ·exact (L.out p (List.mem_append_left _ hp)).1 h
      ·exact ndk.2.2 p hp k (List.mem_singleton.mpr rfl) (List.mem_singleton.mp h)
     ·rw[<- opS p hp,L.zero p hp,List.mem_append,List.mem_append]
      constructor
      ·rintro ((h | h) | h)
       ·exact .inl h
       ·exact .inr (.inr h)
       ·exact .inr (.inl h)
      ·rintro (h | h | h)
       ·exact .inl (.inl h)
       ·exact .inr h
       ·exact .inl (.inr h)
     ·rintro j x σ H10 hx ⟨s10,far10,ah10,⟨kvU',uk⟩,⟨qs,kn,lk10,al10,nd10,out10,zero10⟩,hl10,ap10,v7',rfl⟩
      rw[List.getElem?_map]at hx
      obtain⟨qj,hq,rfl⟩:=Option.map_eq_some_iff.mp hx
      obtain⟨pj,hp,kyj⟩:=ap10.right hq
      have Np:N pj:=paN pj (List.mem_of_getElem? hp)
      have dr:pa.drop j=pj :: pa.drop (j+1):=by
       have jl:=(List.getElem?_eq_some_iff.mp hp).1
       rw[List.drop_eq_getElem_cons jl,(List.getElem?_eq_some_iff.mp hp).2]
      have cj:(pa.drop j).count pj=(pa.drop (j+1)).count pj+1:=by rw[dr,List.count_cons_self]
      have co : ∀ p,p≠pj->(pa.drop j).count p=(pa.drop (j+1)).count p:=λp n=>by rw[dr,List.count_cons_of_ne (Ne.symm n)]
      obtain⟨xsu,epu,dhu,_⟩:=uk.dp.ex
      have lU':=uk.len (kvA:=kvA) λk hk=>(gr.key k).mpr hk
      dsimp only [bD]
      refine⟨un,qj,kvU',pj,_,rfl,rfl,uk.dp,kyj,by rw[sizeLine_eq]; omega,uk.val pj Np,?_⟩
      refine⟨_,_,rfl,rfl,rfl,λH11 d11 so=>?_⟩
      have tu11 : ∀ q xs,H10 q=some (.tup xs)->H11 q=some (.tup xs):=λq xs z=>by rw[so q (av z dhu (by intro z; cases z))]; exact z
      have li11 : ∀ q xs,H10 q=some (.lst xs)->H11 q=some (.lst xs):=λq xs z=>by rw[so q (av z dhu (by intro z; cases z))]; exact z
      have s11:af H H11:=λc u e=>by rw[so c (λz=>by rw[z,nun]at e; cases e)]; exact s10 _ _ e
      have far11:=far10.butD dhu unfa.symm so
      have ah11:=ah10.butD dhu unfd.symm so
      have lk11:=li11 _ _ lk10
      have al11:aw (λq p=>aH H11 p q) qs kn:=al10.imp λq p z=>bt z tu11
      have ap11:aw (λq p=>aH H11 p q) qa pa:=ap10.imp λq p z=>bt z tu11
      have ec:(((bn E (kvF.map (λe=>e.1)++[k]) pj+(pa.drop j).count pj:Nat):Int) - 1)=((bn E (kvF.map (λe=>e.1)++[k]) pj+(pa.drop (j+1)).count pj:Nat):Int):=by omega
      dsimp only at d11
      rw[ec]at d11
      have uk11:bY H11 un _ N (λp=>bn E (kvF.map (λe=>e.1)++[k]) p+(pa.drop (j+1)).count p):=uk.put (N':=N) d11 (λx=>⟨.inl,λh=>h.elim id λe=>e ▸ Np⟩) rfl λx n=>by rw[co x n]
      have z1:=zero10 pj Np
      have npk:pj∉kn/\pj∉kvF.map (λe=>e.1)++[k]:=by
       have : ¬ (pj∈kn\/pj∈kvF.map (λe=>e.1)++[k]):=λh=>by have:=z1.mpr h; omega
       exact⟨λh=>this (.inl h),λh=>this (.inr h)⟩
      refine⟨un,qj,_,pj,_,rfl,rfl,uk11.dp,bt kyj tu11,uk11.val pj Np,?_⟩
      refine aF (λz=>?_) (λz=>?_)
      ·have c0:bn E (kvF.map (λe=>e.1)++[k]) pj+(pa.drop (j+1)).count pj=0:=by have:=of_decide_eq_true z; omega
       have lkn:qs.length<=40000:=by
        have:=List.Nodup.length_le_of_subset nd10 (l₂:=kvA.map λe=>e.1) λx hx=>(gr.key x).mpr (out10 x hx).2
        rw[List.length_map]at this
        have:=al10.1
        omega
       refine⟨.inl ⟨rfl,_,.of lk11⟩,_,lk11,by rw[List.length_map,sizeLine_eq]; omega,?_⟩
       obtain⟨H12,e12⟩ : ∃ H12,H12=upd H11 kl (.lst (qs.map V.ref++[.ref qj])):=⟨_,rfl⟩
       have so12 : ∀ c,c≠kl->H12 c=H11 c:=λc n=>by rw[e12,ai n]
       have l12:H12 kl=some (.lst ((qs++[qj]).map V.ref)):=by rw[e12,aR,List.map_append]; rfl
       have tu12 : ∀ q xs,H11 q=some (.tup xs)->H12 q=some (.tup xs):=λq xs z=>by rw[so12 q (av z lk11 (by intro z; cases z))]; exact z
       rw[<- e12]
       clear e12
       refine⟨λc u e=>by rw[so12 c (λz=>by rw[z,nkl]at e; cases e)]; exact s11 _ _ e,far11.butL lk11 so12,ah11.butL lk11 nlk so12,⟨_,⟨im uk11.dp lk11 so12,uk11.val,uk11.sub⟩⟩,⟨qs++[qj],kn++[pj],l12,aw.app (al11.imp λq p z=>bt z tu12) (aw.cons (bt (bt kyj tu11) tu12) aw.nil),?_,λp hp=>?_,λp hp=>?_⟩,by rw[so12 l nlk']; exact li11 _ _ hl10,ap11.imp λq p z=>bt z tu12,_,rfl⟩
       ·refine List.nodup_append.mpr ⟨nd10,by simp,λu hu v hv e=>?_⟩
        rw[List.mem_singleton.mp hv]at e
        exact npk.1 (e ▸ hu)
       ·rcases List.mem_append.mp hp with h | h
        ·exact out10 p h
        ·rw[List.mem_singleton.mp h]; exact⟨npk.2,Np⟩
       ·rw[List.mem_append]
        by_cases c:p=pj
        ·rw[c]; exact⟨λ_=>.inl (.inr (List.mem_singleton.mpr rfl)),λ_=>c0⟩
        ·rw[<- co p c,zero10 p hp]
         exact⟨λh=>h.imp .inl id,λh=>h.imp (λh=>h.elim id λh=>absurd (List.mem_singleton.mp h) c) id⟩
      ·have c0 : ¬ bn E (kvF.map (λe=>e.1)++[k]) pj+(pa.drop (j+1)).count pj=0:=λc=>z (decide_eq_true (by omega))
       refine⟨s11,far11,ah11,⟨_,uk11⟩,⟨qs,kn,lk11,al11,nd10,out10,λp hp=>?_⟩,li11 _ _ hl10,ap11,_,rfl⟩
       by_cases c:p=pj
       ·rw[c]; exact⟨λh=>absurd h c0,λh=>absurd h (not_or.mpr npk)⟩
       ·rw[<- co p c]; exact zero10 p hp
     ·rintro σ H10 ⟨s10,far10,ah10,⟨kvU',uk⟩,⟨qs,kn,lk10,al10,nd10,out10,zero10⟩,hl10,ap10,v7',rfl⟩
      have d0:pa.drop (qa.map V.ref).length=[]:=List.drop_of_length_le (by rw[List.length_map,c3.1]; exact Nat.le_refl _)
      rw[d0]at uk zero10
      refine⟨kvF',kvU',qs,kn,_,_,_,rfl,⟨s10,far10,?_,ah10,lk10,al10,nd10,?_,?_⟩,uk.len λk hk=>(gr.key k).mpr hk,by rw[lF']⟩
      ·rw[eF]; exact uk.cE λp _=>by simp
      ·rw[eF]; exact out10
      ·rw[eF]; intro p hp; have:=zero10 p hp; simpa using this
   ·have q0:qs=[]:=by
     cases qs with
     | nil=>rfl
     | cons q qs=>exact absurd rfl z
    have k0:kn=[]:=List.eq_nil_of_length_eq_zero (by have:=L.kq.1; rw[q0]at this; exact this.symm)
    refine kk fa kvF H7 L.sm g1.nw (L.far.far (by omega)) λk hk nk=>?_
    have no : ¬ bn E (kvF.map λe=>e.1) k=0:=λc=>by
     rcases (L.zero k hk).mp c with h | h
     ·rw[k0]at h; cases h
     ·exact nk h
    obtain⟨e,he,ek⟩:=List.mem_map.mp ((gr.key k).mpr hk)
    obtain⟨d,ks,a1,a2,a3,a4⟩:=ge.val e he
    rw[ek]at a4
    apply Classical.byContradiction
    intro hno
    refine no (qO.mpr λxg hx=>Classical.byContradiction λc=>hno ?_)
    obtain⟨j,hj⟩:=List.getElem?_of_mem hx
    obtain⟨y,_,_,r2,_⟩:=a4.left hj
    exact⟨xg.1,xg.2,r2,c⟩
abbrev qS:Str:=(("slack" : Str) ++ ".<locals>.") ++ "<lambda>"
abbrev pS:Pos:=⟨76,26,76,51⟩
structure Dh (H H':Hp) (v:V) (k:ab) (r:List Int):Prop where
 ex : ∃ wt l1 l2 l,v=.ref wt/\H' wt=some (.tup [.ref l1,.ref l2,.ref l])/\H' l1=some (.lst (k.1.map V.int))/\H' l2=some (.lst (k.2.map V.int))/\H' l=some (.lst (r.map V.int))/\H l1=none/\H l2=none/\H l=none/\l1≠l2/\l1≠l/\l2≠l
def tT(H H':Hp)(rows:List (List Int))(s:Str)(n:Int)(v:V):Prop :=
 ((∀ k,¬ cJ (ay rows) k)/\s = "within"/\n=0/\v=.non) \/
 ∃ k r,cJ (ay rows) k/\r.length<=160000/\Dh H H' v k r/\((s = "never"/\n=0/\r≠[]/\br (λk=>bP rows (ay rows) k.1 k.2) k r=some k)\/(s = "within"/\(r.length:Int)=n/\(∃ g,br (λk=>bP rows (ay rows) k.1 k.2) k r=some g)/\∀ k' r' g',cJ (ay rows) k'->br (λk=>bP rows (ay rows) k.1 k.2) k' r'=some g'->(r'.length:Int)<=n))
def vN(t:Adr):Sp:=λvs H Q _=>∃ (a:Addr) (f:Ft) (es:List (Int × List Int)) (n:Nat),vs=[.ref a]/\Tt t H a f es n/\n<=1000/\Es es/\(ay (es.map λe=>e.2)).length<=200/\bZ H 75 qS pS /\
 ∀ p s m v H',dH 75 H H'->bZ H' 75 qS pS->H' p=some (.tup [.str s,.int m,v])->tT H H' (es.map λe=>e.2) s m v->Q (.ref p) H'
theorem Dc{rows:List (List Int)}(pf : ∀ x∈rows,∀ y∈rows,x <+: y->x=y)(ne : ∀ r∈rows,r≠[]) : ∀ k x g,cJ (ay rows) k->bP rows (ay rows) k.1 k.2 x=some g->cJ (ay rows) g:=by
 intro k x g hk hg
 unfold bP at hg
 split at hg
 ·rename_i z
  cases hg
  have one : ∀ b,b++[x]∈ay rows->bR (ay rows) (bg rows (b++[x])):=λb hb=>by
   obtain⟨h1,r,hr,hp⟩:=eK.mp hb
   unfold bg
   split
   ·obtain⟨y,ys,e⟩ : ∃ y ys,r=y :: ys:=by
     cases r with
     | nil=>exact absurd rfl (ne _ hr)
     | cons y ys=>exact⟨y,ys,rfl⟩
    exact⟨y,eK.mpr ⟨by simp,r,hr,by rw[e]; exact⟨ys,rfl⟩⟩⟩
   ·rename_i nr
    obtain⟨s,e⟩:=hp
    cases s with
    | nil=>rw[List.append_nil]at e; rw[e]at nr; exact absurd hr nr
    | cons y ys=>exact⟨y,eK.mpr ⟨by simp,r,hr,by rw[<- e]; exact⟨ys,by simp⟩⟩⟩
  exact⟨one _ z.1,one _ z.2.1,λe=>z.2.2 e.symm⟩
 ·cases hg
theorem gw{H H':Hp}{q:Str}{pos:Pos}(h:bZ H 75 q pos)(s:af H H'):bZ H' 75 q pos:=by
 rcases h with h | ⟨c,h,oc,vs,t,h1,h2,h3⟩
 ·exact .inl (s _ _ h)
 ·exact .inr ⟨c,s _ _ h,oc,vs,t,s _ _ h1,h2,h3⟩
def bK(H H':Hp):Prop:=∀ c u,H c=some u->(∀ ps,u ≠ .tbl ps)->H' c=some u
theorem jm{H H':Hp}{q:Str}{pos:Pos}(h:bZ H 75 q pos)(s:dH 75 H H'):bK H H':=λc u e n=>by
 obtain⟨ps,ht⟩:=bZ.tbl h
 exact s c u (λz=>by rw[z,ht]at e; exact n ps (Option.some.inj e).symm) e
theorem mT{H H':Hp}{a:Addr}{kvs:List (ab × Addr × V)}(h:DP H a kvs)(s:bK H H'):DP H' a kvs:=by
 obtain⟨⟨xs,ep,h1,h2⟩,k,n,l⟩:=h
 exact⟨⟨xs,ep,s _ _ h1 (by intro ps z; cases z),h2⟩,λx hx=>bt (k x hx) λq xs z=>s _ _ z (by intro ps z; cases z),n,l⟩
theorem AM{H H':Hp}{a:Addr}{kvs:List (ab × Addr × V)}{F:ab->Int->Option ab}{N:ab->Prop}(h:Gr H a kvs F N)(s:bK H H'):Gr H' a kvs F N :=
 ⟨mT h.dp s,h.key,λe he=>let ⟨d,ks,a,b,c⟩:=h.val e he; ⟨d,ks,a,s _ _ b (by intro ps z; cases z),c.mono λq xs z=>s _ _ z (by intro ps z; cases z)⟩⟩
theorem BD{H H':Hp}{a:Addr}{kvs:List (ab × Addr × V)}{F:ab->Int->Option ab}{N:ab->Prop}(h:fF H a kvs F N)(s:bK H H'):fF H' a kvs F N:=by
 have tu : ∀ q xs,H q=some (.tup xs)->H' q=some (.tup xs):=λq xs z=>s _ _ z (by intro ps z; cases z)
 refine⟨mT h.dp s,h.sub,λk hk=>?_⟩
 obtain⟨q,n,bv,a,l,b⟩:=h.val k hk
 refine⟨q,n,bv,a.same tu,l,b.imp id ?_⟩
 rintro⟨x,g,q',bv',b1,b2,b3⟩
 exact⟨x,g,q',bv',b1,b2,b3.same tu⟩
theorem rV (T:Txt K mg t) (hBI:base.BuiltinsAt mg 75):be P w K mg base "slack" 6 t.j8 t.jP ["tongue"] (vN t):=by
 refine⟨T.A8,T.Do.kp,T.CO,T.t4.okQ gE (λvs H Q E h=>by obtain⟨a,f,es,n,rfl,_⟩:=h; rfl) λA outer s H vs Q E hr h=>?_⟩
 obtain⟨a,f,es,n,rfl,tt,hn,ok,lp,tab,kk⟩:=h
 have hu:=hr.units
 refine⟨_,(aq (aX (i:=1) gE.nd rfl (.inl rfl) (aU (AG T) hr (ae (aU (At T) hr (ae (aa 0) ag)) ag)))
  (aq (bB (dD (qf (aa 1))) (ap (aK (bC (lh rfl)))) bA)
  (aq (aX (i:=2) gE.nd rfl (.inr rfl) (aU (AD T) hr (ae (aa 1) ag)))
  (aq (jo (i:=3) gE.nd rfl (.inl rfl) rfl (bQ.of (fns:=(ak eE).names) (N:=["tongue", "apart", "far", "endless", "trip", "pair"]) (Nc:=["pair", "far"]) (nv:=1) (caps:=[2]) rfl rfl (by decide +kernel)) (qk (aa 1)) (λ_ _ _ _=>(aB (i:=0) (show List.Nodup (["pair", "far"]:List Str) by decide +kernel) rfl (Or.inl rfl) (Or.inr rfl))) (λ_ _ _ _=>(kZ (bq (lT hu) (aa 0) (aa 1) (by with_unfolding_all rfl)))) (λ_ _ _ _=>(aa 0)))
  (aq (bB (qp (K:=K) rfl (aa 3)) (aq (aX (i:=4) gE.nd rfl (.inl rfl) (aU (As T) hr (ae (aa 1) (ae (aa 2) (ae (aC (aD (K:=K) rfl) (aa 3) ao (λ_ _=>rfl)) ag)))))
  (ap (aK (bC (ae js (ae ao (ae (aU (rT T) hr (ae (aC (aD (K:=K) rfl) (aa 4) ao (λ_ _=>rfl)) (ae (aC (aD (K:=K) rfl) (aa 4) ao (λ_ _=>rfl)) ag))) ag))))))) bA)
  (aq (aX (i:=5) gE.nd rfl (.inl rfl) (xq (x := "each") (y := "far") (iy:=2) hr rfl T.t4.hd hBI rfl rfl (by decide) rfl rfl rfl rfl rfl (λ_ _ _ _ _ _=>rfl) (λ_ _ _ _ _ _ _ hr=>have hu:=(hr.deeper _).units; (aC (aD (K:=K) rfl) (cW hu (aa 1) (aa 0)) ao (λ_ _=>rfl))) (aa 1) T.n_max rfl))
  (ap (aK (bC (ae js (ae (aC (aD (K:=K) rfl) (cW hu (aa 2) (aa 5)) ao (λ_ _=>rfl)) (ae (aU (rT T) hr (ae (aa 5) (ae (aU (Au T) hr (ae (aa 1) (ae (aa 2) (ae (aa 5) ag)))) ag))) ag)))))))))))),?_⟩
 obtain⟨rows,er⟩ : ∃ rows,rows=es.map λe=>e.2:=⟨_,rfl⟩
 refine⟨a,f,es,n,rfl,tt,hn,ok,λp1 kvs H1 s1 n1 st l1=>?_⟩
 rw[<- er]at st l1 lp kk
 have pf : ∀ x∈rows,∀ y∈rows,x <+: y->x=y:=by
  intro x hx y hy hp
  rw[er]at hx hy
  obtain⟨e1,h1,rfl⟩:=List.mem_map.mp hx
  obtain⟨e2,h2,rfl⟩:=List.mem_map.mp hy
  rcases ok.two h1 h2 with z | z
  ·rw[z]
  ·have:bo e1.2 e2.2=true:=decide_eq_true (List.prefix_iff_eq_take.mp hp).symm
   unfold cL at z
   rw[this]at z
   simp at z
 have ner : ∀ r∈rows,r≠[]:=λr hr z=>by
  rw[er]at hr
  obtain⟨e1,h1,rfl⟩:=List.mem_map.mp hr
  have:=(ok.sg e1 h1).2.1
  rw[z]at this
  simp at this
 refine⟨p1,rows,ay rows,kvs,rfl,st,by omega,by omega,λa2 kvA H2 s2 n2 gr lA=>?_⟩
 have lA':kvA.length<=40000:=Nat.le_trans lA (Nat.mul_le_mul (show kvs.length<=200 by omega) (show kvs.length<=200 by omega))
 have s02:=s1.trans s2
 have cl:=Dc pf ner
 refine⟨a2,kvA.length,rfl,.inr (.inr ⟨kvA,gr.dp,rfl⟩),?_⟩
 refine aF (λz=>?_) (λz=>?_)
 ·have l0:kvA=[]:=by
   have z:(!(kvA.length != 0))=true:=z
   have:kvA.length=0:=by simpa using z
   exact List.eq_nil_of_length_eq_zero this
  refine⟨sz rfl,λp H3 g3=>?_⟩
  refine kk p _ _ _ H3 (s02.trans g3.sm).one (gw tab (s02.trans g3.sm)) g3.at_ (.inl ⟨λk hk=>?_,rfl,rfl,rfl⟩)
  have:=(gr.key k).mpr hk
  rw[l0]at this; cases this
 ·refine⟨a2,kvA,_,_,rfl,gr,cl,lA',λfa kvF H3 s3 n3 far out=>?_⟩
  have s03:=s02.trans s3
  have gr3:=gr.same s3
  obtain⟨ns,ens⟩ : ∃ ns,ns=kvA.map λe=>e.1:=⟨_,rfl⟩
  obtain⟨xs0,ep0,dh,_⟩:=gr3.dp.ex
  refine⟨a2,kvA,rfl,gr3.dp,λo ho=>?_⟩
  rw[dh]at ho
  cases ho
  refine B6 (λi ys H'=>af H3 H'/\∃ qs kn,ys=qs.map V.ref/\aw (λq p=>aH H' p q) qs kn/\(∀ p∈kn,cJ (ay rows) p/\p∉kvF.map λe=>e.1)/\(∀ p∈ns.take i,p∉kvF.map (λe=>e.1)->kn≠[])/\qs.length<=i) ⟨af.refl _,[],[],rfl,aw.nil,(λp h=>by cases h),(λp h=>by cases h),Nat.zero_le _⟩ (λi ys H' hi z=>⟨z.1 _ _ dh,?_⟩) (dk (by omega)) (λi k qb v ys H4 NN hkv z hN=>?_) λys H4 pe H5 z g5=>?_
  ·obtain⟨_,qs,kn,rfl,_,_,_,l⟩:=z
   rw[List.length_map]; exact l
  ·obtain⟨s4,qs,kn,rfl,al,oo,ne,l⟩:=z
   have hki:ns[i]? = some k:=by rw[ens,List.getElem?_map,hkv]; rfl
   have em:=List.mem_of_getElem? hkv
   have kb:aH H3 k qb:=gr3.dp.key _ em
   have nk:cJ (ay rows) k:=(gr.key k).mp (List.mem_map.mpr ⟨_,em,rfl⟩)
   refine⟨qb,fa,kvF,k,rfl,rfl,far.dp.same s4,kb.same s4,?_⟩
   refine aF (λz=>?_) (λz=>?_)
   ·have nF:k∉kvF.map λe=>e.1:=λh=>by
     obtain⟨v,hv⟩:=eA h
     have z:(!(az kvF k).isSome)=true:=z
     rw[hv]at z; cases z
    refine hN _ _ ⟨s4,qs++[qb],kn++[k],by rw[List.map_append]; rfl,aw.app al (aw.cons (kb.same s4) aw.nil),λp hp=>?_,λ_ _ _=>by simp,by rw[List.length_append]; simp; omega⟩
    rcases List.mem_append.mp hp with h | h
    ·exact oo p h
    ·rw[List.mem_singleton.mp h]; exact⟨nk,nF⟩
   ·have iF:k∈kvF.map λe=>e.1:=Classical.byContradiction λh=>z (by show (!(az kvF k).isSome)=true; rw[iE h]; rfl)
    refine hN _ _ ⟨s4,qs,kn,rfl,al,oo,λp hp np=>?_,by omega⟩
    rcases (cK hki).mp hp with h | h
    ·exact ne p h np
    ·rw[h]at np; exact absurd iF np
  ·obtain⟨s4,qs,kn,rfl,al,oo,ne,l⟩:=z
   have s35:=s4.trans g5.sm
   have s05:=s03.trans s35
   have gr5:=gr3.same s35
   have lns:ns.length=kvA.length:=by rw[ens,List.length_map]
   rw[<- lns,List.take_length]at ne
   refine⟨_,.inl (.of g5.at_),?_⟩
   refine aF (λz=>?_) (λz=>?_)
   ·obtain⟨q0,qt,rfl⟩ : ∃ q0 qt,qs=q0 :: qt:=by
     cases qs with
     | nil=>cases z
     | cons q0 qt=>exact⟨q0,qt,rfl⟩
    obtain⟨k0,hk0,ky0⟩:=al.right (i:=0) (x:=q0) rfl
    obtain⟨nk0,nF0⟩:=oo k0 (List.mem_of_getElem? hk0)
    refine⟨_,.ref q0,.inl (.of g5.at_),aV (j:=0) rfl,?_⟩
    refine⟨a2,fa,q0,kvA,kvF,_,_,k0,rfl,gr5,by omega,far.dp.same s35,cl,out,ky0.same g5.sm,nk0,nF0,λp q' l k' r H6 s6 hp nl ky nk' hl rne lr hpth=>?_⟩
    refine⟨_,.ref q',.inr (.of hp),rfl,?_⟩
    refine⟨_,.ref l,.inr (.of hp),rfl,?_⟩
    refine⟨q',l,k',rfl,ky,λp7 l1 l2 H7 s7 h7 m1 m2 m12 h71 h72=>?_⟩
    refine⟨sz rfl,λp8 H8 g8=>?_⟩
    have s06:=s05.trans s6
    have nn : ∀ {c:Addr},H6 c=none->H c=none:=λ{c} h=>by
     cases e:H c with
     | none=>rfl
     | some u=>have:=s06 _ _ e; rw[h]at this; cases this
    have nn5:H l=none:=by
     cases e:H l with
     | none=>rfl
     | some u=>have:=s05 _ _ e; rw[nl]at this; cases this
    have s08:=s06.trans (s7.trans g8.sm)
    exact kk p8 _ _ _ H8 s08.one (gw tab s08) g8.at_ (.inr ⟨k',r,nk',by omega,⟨p7,l1,l2,l,rfl,g8.sm _ _ h7,g8.sm _ _ h71,g8.sm _ _ h72,g8.sm _ _ (s7 _ _ hl),nn m1,nn m2,nn5,m12,(λe=>by rw[e,hl]at m1; cases m1),λe=>by rw[e,hl]at m2; cases m2⟩,.inl ⟨rfl,rfl,rne,hpth⟩⟩)
   ·have k0:kn=[]:=by
     cases qs with
     | nil=>exact List.eq_nil_of_length_eq_zero al.1.symm
     | cons q0 qt=>exact absurd rfl z
    have allF : ∀ p∈ns,p∈kvF.map λe=>e.1:=λp hp=>Classical.byContradiction λh=>ne p hp h k0
    have tab5:=gw tab s05
    have far5:=far.same s35
    have kne:kvA≠[]:=λh=>by rename_i z0 _; exact z0 (by show (!(kvA.length != 0))=true; rw[h]; rfl)
    have all : ∀ i:Nat,∃ n:Int,∀ k b v,kvA[i]? = some (k,b,v)->∃ q m bv,bE H5 kvF k q m bv/\n=(m:Int):=λi=>by
     cases c:kvA[i]? with
     | none=>exact⟨0,λk b v h=>by cases h⟩
     | some e =>
      obtain⟨q,m,bv,fv,_⟩:=far5.val e.1 (allF e.1 (by rw[ens]; exact List.mem_map.mpr ⟨e,List.mem_of_getElem? c,rfl⟩))
      exact⟨m,λk b v h=>by cases h; exact⟨q,m,bv,fv,rfl⟩⟩
    unfold jb
    dsimp only
    refine⟨a2,kvA,.ref fa,rfl,gr5.dp,kne,rfl,tab5,λi=>Classical.choose (all i),λH6 s6 i k b v hi=>?_,λH6 s6 tab6 i k b v hi hmax=>?_⟩
    ·have sT:=jm tab5 s6
     have tu : ∀ q xs,H5 q=some (.tup xs)->H6 q=some (.tup xs):=λq xs z=>sT _ _ z (by intro ps z; cases z)
     obtain⟨q,m,bv,fv,em⟩:=Classical.choose_spec (all i) k b v hi
     refine⟨fa,b,kvF,k,.ref q,rfl,rfl,mT far5.dp sT,bt (gr5.dp.key _ (List.mem_of_getElem? hi)) tu,fv.1,?_⟩
     exact⟨_,.int (m:Int),.inr (.of (tu _ _ fv.2)),rfl,congrArg V.int em.symm,rfl⟩
    ·have sT:=jm tab5 s6
     have tu : ∀ q xs,H5 q=some (.tup xs)->H6 q=some (.tup xs):=λq xs z=>sT _ _ z (by intro ps z; cases z)
     obtain⟨q,m,bv,fv,em⟩:=Classical.choose_spec (all i) k b v hi
     have kb6:=bt (gr5.dp.key _ (List.mem_of_getElem? hi)) tu
     have far6:=BD far5 sT
     have nk:cJ (ay rows) k:=(gr.key k).mp (List.mem_map.mpr ⟨_,List.mem_of_getElem? hi,rfl⟩)
     refine⟨fa,b,kvF,k,.ref q,rfl,rfl,far6.dp,kb6,fv.1,?_⟩
     refine⟨_,.int (m:Int),.inr (.of (tu _ _ fv.2)),rfl,?_⟩
     refine⟨a2,fa,b,kvA,kvF,_,_,k,q,m,bv,rfl,AM gr5 sT,far6,kb6,fv.same tu,λl r H7 s7 nl hl lr hp=>?_⟩
     refine⟨b,l,k,rfl,kb6.same s7,λp8 l1 l2 H8 s8 h8 m1 m2 m12 h81 h82=>?_⟩
     refine⟨sz rfl,λp9 H9 g9=>?_⟩
     have s06:dH 75 H H6:=s05.one.trans s6
     have s09:dH 75 H H9:=s06.trans (s7.trans (s8.trans g9.sm)).one
     have n75 : ∀ {c:Addr},H6 c=none->c≠75:=λ{c} h z=>by
      obtain⟨ps,ht⟩:=bZ.tbl tab6
      rw[z,ht]at h; cases h
     have nn6 : ∀ {c:Addr},H6 c=none->H c=none:=λ{c} h=>by
      cases e:H c with
      | none=>rfl
      | some u=>have:=s06 _ _ (n75 h) e; rw[h]at this; cases this
     have nn7 : ∀ {c:Addr},H7 c=none->H6 c=none:=λ{c} h=>by
      cases e:H6 c with
      | none=>rfl
      | some u=>have:=s7 _ _ e; rw[h]at this; cases this
     have l160:r.length<=160000:=by
      obtain⟨q3,m3,bv3,fv3,⟨l3,_⟩,_⟩:=far5.val k fv.key
      obtain⟨_,e3,_⟩:=fv3.one fv
      omega
     refine kk p9 _ _ _ H9 s09 (gw tab6 (s7.trans (s8.trans g9.sm))) g9.at_ (.inr ⟨k,r,nk,l160,⟨p8,l1,l2,l,rfl,g9.sm _ _ h8,g9.sm _ _ h81,g9.sm _ _ h82,g9.sm _ _ (s8 _ _ hl),nn6 (nn7 m1),nn6 (nn7 m2),nn6 nl,m12,(λe=>by rw[e,hl]at m1; cases m1),λe=>by rw[e,hl]at m2; cases m2⟩,.inr ⟨rfl,by rw[lr],hp,λk1 r1 g1 nk1 hp1=>?_⟩⟩)
     obtain⟨e1,he1,ek1⟩:=List.mem_map.mp ((gr.key k1).mpr nk1)
     obtain⟨j,hj⟩:=List.getElem?_of_mem he1
     obtain⟨q2,m2,bv2,fv2,em2⟩:=Classical.choose_spec (all j) e1.1 e1.2.1 e1.2.2 hj
     obtain⟨q3,m3,bv3,fv3,⟨_,gst⟩,_⟩:=far5.val e1.1 fv2.key
     obtain⟨_,e3,_⟩:=fv3.one fv2
     rw[ek1]at gst
     have l1:=gst r1 g1 hp1
     have l2:Classical.choose (all i)>=Classical.choose (all j):=(hmax j (List.getElem?_eq_some_iff.mp hj).1).1
     rw[em,em2]at l2
     omega
theorem wl{i:Nat}{v:V}{σ:St}{H:Hp}{Q:St->Hp->Prop}(h:Q (σ.set i (some v)) H):bD i v σ H Q:=h
theorem rS (T:Txt K mg t):be P w K mg base "_law_plain" 1 t.nG t.ml ["_law_found"] (λvs H Q _=>∃ i,vs=[.int i]/\Q (.bl true) H):=by
 refine⟨T.A1,T.ug.kp,T.CH,T.ug.okQ wp (λvs H Q E h=>by obtain⟨i,rfl,_⟩:=h; rfl) λcdv A outer s H vs Q E hr h=>?_⟩
 obtain⟨i,rfl,k⟩:=h
 refine⟨_,(ap (aK (cB (aZ (fw (K:=K) rfl) T.n_isinstance PyProof.Rows.boot_isinstance (ae (aa 0) (ae (fi rfl T.n_int PyProof.Rows.boot_int) ag))) (cB (cA jL (aa 0) eI (aW _)) (cU (cA jL (aa 0) eI (aW _))))))),?_⟩
 obtain⟨ty,hty,e0⟩:=(c8.int (K:=K) (H:=H) i).isInt
 refine⟨ty,_,hty,e0,?_⟩
 refine dF ?_
 refine⟨(λf z=>nomatch z),?_⟩
 refine dF ?_
 exact⟨(λf z=>nomatch z),k⟩
structure ir (rs:List (List Int)):Prop where
 sg : ∀ r∈rs,1<=r.length/\r.length<=6/\∀ b∈r,0<=b/\b<=255
 pw:rs.Pairwise λa b=>bo a b=false/\bo b a=false
 tot:(rs.map λr=>r.length).sum<=60
abbrev AL:=Addr × List Int
theorem vE(ps:List AL):(ps.map λx=>(x.2.length:Int)).sum=(((ps.map λx=>x.2).map λr=>r.length).sum:Nat):=by
 induction ps with
 | nil=>rfl
 | cons p ps ih =>
  simp only [List.map_cons,List.sum_cons]at *
  rw[ih]
  omega
def vP(K:PySem.W.Frag):Sp:=λvs H Q _=>∃ (a:Addr) (cs:List Int),vs=[.ref a]/\ax K H a (cs.map V.int)/\cs.length<=12/\∀ (p:Addr) (ps:List AL) H',af H H'->H' p=some (.lst (ps.map λx=>V.ref x.1))->(∀ x∈ps,H' x.1=some (.lst (x.2.map V.int)))->ir (ps.map λx=>x.2)->ps.length<=12->Q (.ref p) H'
theorem Ao (T:Txt K mg t):be P w K mg base "_law_rows" 1 t.nC t.mj ["_law_cells"] (vP K):=by
 refine⟨T.AZ,T.uf.kp,T.CG,T.uf.okQ fL (λvs H Q E h=>by obtain⟨a,cs,rfl,_⟩:=h; rfl) λcdv A outer s H vs Q E hr h=>?_⟩
 obtain⟨a,cs,rfl,ha,lc,k⟩:=h
 have hu:=hr.units
 refine⟨_,(aq (aX (i:=1) fL.nd rfl (.inl rfl) (cV ag))
  (aq (bL PassesOwn.never rfl (dt (K:=K) rfl (aa 0)) (aB (i:=2) fL.nd rfl (.inl rfl)) (aq (aX (i:=3) fL.nd rfl (.inl rfl) (qu (aa 2)))
  (aq (aX (i:=4) fL.nd rfl (.inr rfl) (cV ag))
  (aq (bL PassesOwn.never rfl (jp rfl T.n_range (ae (aC (aD (K:=K) rfl) (cV (ae ao (ae ao (ae ao (ae ao (ae ao (ae (fh (fq (K:=K) rfl) ao (li (aa 3))) ag))))))) (li (aa 2)) (λ_ _=>rfl)) ag)) (aB (i:=5) fL.nd rfl (.inl rfl)) (aq (cI (dU (K:=K) rfl PySem.F.plainAttrs_list PySem.F.slot_list_append PySem.F.type_list_append dY (aa 4) (ae (aC (aD (K:=K) rfl) (cV (lh rfl)) (li (aa 3)) (λ_ _=>rfl)) ag)))
  (ap (aX (i:=3) fL.nd rfl (.inl rfl) (qu (aa 3))))))
  (ap (bB (bq du (fh (fq (K:=K) rfl) (aZ (Ci (K:=K) rfl rfl) T.n_sum PyProof.Rows.boot_sum (ae (eG rfl (bQ.of (fns:=(ak eZ).names) (N:=["_law_cells", "_law_found", "_law_cell", "_law_number", "_law_row", "_law_k"]) (Nc:=["_law_one"]) (nv:=1) (caps:=[]) rfl rfl (by decide +kernel)) (dt (K:=K) rfl (aa 1)) (λ_ _ _ _=>(aB (i:=0) (show List.Nodup (["_law_one"]:List Str) by decide +kernel) rfl (Or.inl rfl) (Or.inr rfl))) (λ_ _ _ _=>dR) (λ_ _ _ _=>(aZ (cc (K:=K) rfl) T.n_len PySem.boot_len (ae (aa 0) ag)))) ag)) (aZ (cc (K:=K) rfl) T.n_len PySem.boot_len (ae (aa 4) ag))) ao (aW _)) (ap (bB (dE (aZ (j7 (K:=K) rfl rfl) T.n_all PyProof.Rows.boot_all (ae (eG rfl (bQ.of (fns:=(ak eZ).names) (N:=["_law_cells", "_law_found", "_law_cell", "_law_number", "_law_row", "_law_k"]) (Nc:=["_law_one", "_law_row"]) (nv:=1) (caps:=[4]) rfl rfl (by decide +kernel)) (dt (K:=K) rfl (aa 1)) (λ_ _ _ _=>(aB (i:=0) (show List.Nodup (["_law_one", "_law_row"]:List Str) by decide +kernel) rfl (Or.inl rfl) (Or.inr rfl))) (λ_ _ _ _=>dR) (λ_ _ _ _=>(cB (cA (fm (K:=K) rfl hu) (cT (dG (K:=K) rfl) (aa 1) cS (cR (aZ (cc (K:=K) rfl) T.n_len PySem.boot_len (ae (aa 0) ag)))) (aa 0) (aW _)) (cU (cA (fm (K:=K) rfl hu) (cT (dG (K:=K) rfl) (aa 0) cS (cR (aZ (cc (K:=K) rfl) T.n_len PySem.boot_len (ae (aa 1) ag)))) (aa 1) (aW _)))))) ag))) (ap (cI (dU (K:=K) rfl PySem.F.plainAttrs_list PySem.F.slot_list_append PySem.F.type_list_append dY (aa 1) (ae (aa 4) ag)))) bA)) bA))))))
  (ap (aK (aa 1))))),?_⟩
 refine⟨sz rfl,λp H1 g1=>?_⟩
 refine⟨a,rfl,⟨_,g1.sm.seq ha⟩,fY (K:=K) (a:=a) (xs:=cs.map V.int) (λi σ H'=>af H H'/\(∃ ps:List AL,H' p=some (.lst (ps.map λx=>V.ref x.1))/\(∀ x∈ps,x.1≠p/\H' x.1=some (.lst (x.2.map V.int)))/\ir (ps.map λx=>x.2)/\ps.length<=i)/\∃ v2 v3 v4 v5,σ=[some (.ref a),some (.ref p),v2,v3,v4,v5]) ⟨g1.sm,⟨[],g1.at_,(λx h=>nomatch h),⟨(λr h=>nomatch h),.nil,Nat.zero_le _⟩,Nat.zero_le _⟩,_,_,_,_,rfl⟩ (λi σ H' _ z=>z.1.seq ha) ?_ ?_⟩
 ·rintro i x σ H2 hx ⟨s2,⟨ps,p2,hp2,rw2,l2⟩,v2,v3,v4,v5,rfl⟩
  obtain⟨c,hc,rfl⟩:=jJ hx
  have hi:i < cs.length:=(List.getElem?_eq_some_iff.mp hc).1
  refine⟨sz rfl,λr H3 g3=>?_⟩
  refine⟨sz rfl,λl H4 g4=>?_⟩
  obtain⟨m,hm,m1,m6⟩ : ∃ m:Nat,c7 [V.int 1,.int 2,.int 3,.int 2,.int 3,.int (4+c / 6%3)] (c%6)=some (.int (m:Int))/\1<=m/\m<=6:=by
   have h0:=Int.emod_nonneg c (b:=6) (by decide)
   have h6:=Int.emod_lt_of_pos c (b:=6) (by decide)
   obtain⟨j,hj⟩ : ∃ j:Nat,c%6=(j:Int):=⟨(c%6).toNat,by omega⟩
   have:j < 6:=by omega
   rw[hj]
   match j,this with
   | 0,_=>exact⟨1,rfl,by decide,by decide⟩
   | 1,_=>exact⟨2,rfl,by decide,by decide⟩
   | 2,_=>exact⟨3,rfl,by decide,by decide⟩
   | 3,_=>exact⟨2,rfl,by decide,by decide⟩
   | 4,_=>exact⟨3,rfl,by decide,by decide⟩
   | 5,_=>exact⟨(4+c / 6%3).toNat,by rw[aV (j:=5) rfl]; congr 2; omega,by omega,by omega⟩
  refine⟨_,.int (m:Int),.inl g4.lst,hm,?_⟩
  refine⟨(m:Int),rfl,by omega,by omega,?_⟩
  rw[Int.toNat_natCast]
  have r2:H2 r=none:=g3.nw
  have r4:H4 r=some (.lst []):=g4.sm _ _ g3.at_
  refine jO (lo:=0) (n:=m) (λj σ H'=>af H2 H'/\(∃ xs:List Int,H' r=some (.lst (xs.map V.int))/\xs.length=j/\∀ b∈xs,0<=b/\b<=255)/\∃ (n:Int) (v5:Option V),σ=[some (.ref a),some (.ref p),some (.int c),some (.int n),some (.ref r),v5]) ⟨g3.sm.trans g4.sm,⟨[],r4,rfl,λb h=>nomatch h⟩,_,_,rfl⟩ ?_ ?_
  ·rintro j σ H5 hj ⟨s5,⟨xs,r5,lx,bx⟩,n,v5,rfl⟩
   refine⟨.inl ⟨rfl,_,.of r5⟩,?_⟩
   refine⟨sz rfl,λl6 H6 g6=>?_⟩
   obtain⟨b,hb,b0,b1⟩ : ∃ b:Int,c7 [V.int 0,.int 7,.int 255,.int 0,.int 7,.int 255,.int 1] (n%7)=some (.int b)/\0<=b/\b<=255:=by
    have h0:=Int.emod_nonneg n (b:=7) (by decide)
    have h6:=Int.emod_lt_of_pos n (b:=7) (by decide)
    obtain⟨j,hj⟩ : ∃ j:Nat,n%7=(j:Int):=⟨(n%7).toNat,by omega⟩
    have:j < 7:=by omega
    rw[hj]
    match j,this with
    | 0,_=>exact⟨0,rfl,by decide,by decide⟩
    | 1,_=>exact⟨7,rfl,by decide,by decide⟩
    | 2,_=>exact⟨255,rfl,by decide,by decide⟩
    | 3,_=>exact⟨0,rfl,by decide,by decide⟩
    | 4,_=>exact⟨7,rfl,by decide,by decide⟩
    | 5,_=>exact⟨255,rfl,by decide,by decide⟩
    | 6,_=>exact⟨1,rfl,by decide,by decide⟩
   refine⟨_,.int b,.inl g6.lst,hb,?_⟩
   refine⟨_,g6.sm _ _ r5,dC (by rw[List.length_map]; omega),?_⟩
   refine⟨(s5.trans g6.sm).put r2,⟨xs++[b],by rw[aR,List.map_append]; rfl,by rw[List.length_append,lx]; rfl,λx hx=>?_⟩,_,_,rfl⟩
   rcases List.mem_append.mp hx with h | h
   ·exact bx x h
   ·rw[List.mem_singleton.mp h]; exact⟨b0,b1⟩
  rintro σ H5 ⟨s5,⟨xs,r5,lx,bx⟩,n,v5,rfl⟩
  have p5:=s5 _ _ p2
  have hp5 : ∀ x∈ps,H5 x.1=some (.lst (x.2.map V.int)):=λx hx=>s5 _ _ (hp2 x hx).2
  have stay : ∀ H',af H5 H'->((af H H'/\(∃ ps:List AL,H' p=some (.lst (ps.map λx=>V.ref x.1))/\(∀ x∈ps,x.1≠p/\H' x.1=some (.lst (x.2.map V.int)))/\ir (ps.map λx=>x.2)/\ps.length<=i+1))):=λH' s'=>⟨s2.trans (s5.trans s'),ps,s' _ _ p5,λx hx=>⟨(hp2 x hx).1,s' _ _ (hp5 x hx)⟩,rw2,by omega⟩
  have lps:ps.length<=12:=by omega
  have atp : ∀ {j:Nat} {x:V},(ps.map λx=>V.ref x.1)[j]? = some x->∃ q∈ps,ps[j]? = some q/\x=.ref q.1:=λ{j x} h=>by
   rw[List.getElem?_map]at h
   obtain⟨q,hq,e⟩:=Option.map_eq_some_iff.mp h
   exact⟨q,List.mem_of_getElem? hq,hq,e.symm⟩
  refine⟨p,rfl,⟨_,.of p5⟩,j3 ((ps.map λx=>(x.2.length:Int)).map V.int) (by simp) (.of p5) (dk (by rw[List.length_map]; omega)) (λj x y H6 N hx hy s6 hN=>?_) λp6 H6 g6=>?_⟩
  ·obtain⟨q,hq,hqj,rfl⟩:=atp hx
   rw[List.getElem?_map,List.getElem?_map,hqj]at hy
   cases hy
   refine⟨_,.inl (.of (s6 _ _ (hp5 q hq))),?_⟩
   rw[List.length_map]
   exact hN _ (af.refl _)
  refine⟨_,g6.lst,?_⟩
  refine⟨_,.inl (.of (g6.sm _ _ r5)),?_⟩
  refine aF (λe60=>?_) (λ_=>?_)
  ·have e60:=of_decide_eq_true e60
   rw[vE,List.length_map]at e60
   refine⟨p,rfl,⟨_,.of (g6.sm _ _ p5)⟩,j3 ((ps.map λx=>(!bo x.2 xs && !bo xs x.2)).map V.bl) (by simp) (.of (g6.sm _ _ p5)) (dk (by rw[List.length_map]; omega)) (λj x y H7 N hx hy s7 hN=>?_) λp7 H7 g7=>?_⟩
   ·obtain⟨q,hq,hqj,rfl⟩:=atp hx
    rw[List.getElem?_map,List.getElem?_map,hqj]at hy
    cases hy
    have q7:=s7 _ _ (g6.sm _ _ (hp5 q hq))
    have r7:=s7 _ _ (g6.sm _ _ r5)
    refine⟨_,.inl (.of q7),_,rfl,_,.of r7,λp8 H8 g8=>?_⟩
    rw[List.length_map,d7]at g8
    have q8:=g8.sm _ _ q7
    have r8:=g8.sm _ _ r7
    refine cy (by rfl) (fZ g8.lst (.of q8) ?_)
    have hN : ∀ H'',af H7 H''->N (.bl (!bo q.2 xs && !bo xs q.2)) H'':=hN
    refine aF (λe=>?_) (λe=>?_)
    ·refine⟨_,.inl (.of r8),_,rfl,_,.of q8,λp9 H9 g9=>?_⟩
     rw[List.length_map,d7]at g9
     refine cy (by rfl) (fZ g9.lst (.of (g9.sm _ _ r8)) ?_)
     have:=hN H9 (g8.sm.trans g9.sm)
     have e:(!bo q.2 xs)=true:=e
     rw[e,Bool.true_and]at this
     exact this
    ·have:=hN H8 g8.sm
     have e:(!bo q.2 xs)=false:=Bool.eq_false_iff.mpr e
     rw[e,Bool.false_and]at this
     exact this
   ·refine⟨_,g7.lst,?_⟩
    refine aF (λe=>?_) (λ_=>?_)
    ·have e:(ps.map λx=>(!bo x.2 xs && !bo xs x.2)).all id=true:=e
     have s57:=g6.sm.trans g7.sm
     have p7:=s57 _ _ p5
     have np:r≠p:=λz=>by rw[z,p2]at r2; cases r2
     refine⟨.inl ⟨rfl,_,.of p7⟩,?_⟩
     refine⟨_,p7,dC (by rw[List.length_map]; omega),?_⟩
     refine⟨((s2.trans s5).trans s57).put g1.nw,⟨ps++[(r,xs)],by rw[aR,List.map_append]; rfl,λx hx=>?_,⟨λy hy=>?_,?_,?_⟩,by rw[List.length_append]; exact Nat.succ_le_succ l2⟩,_,_,_,_,rfl⟩
     ·rcases List.mem_append.mp hx with h | h
      ·exact⟨(hp2 x h).1,by rw[ai (hp2 x h).1]; exact s57 _ _ (hp5 x h)⟩
      ·rw[List.mem_singleton.mp h]
       exact⟨np,by rw[ai np]; exact s57 _ _ r5⟩
     ·rw[List.map_append]at hy
      rcases List.mem_append.mp hy with h | h
      ·exact rw2.sg y h
      ·rw[List.mem_singleton.mp h]
       exact⟨by show 1<=xs.length; omega,by show xs.length<=6; omega,bx⟩
     ·rw[List.map_append]
      refine List.pairwise_append.mpr ⟨rw2.pw,List.pairwise_singleton ..,λy hy z hz=>?_⟩
      rw[List.mem_singleton.mp hz]
      obtain⟨x,hx,rfl⟩:=List.mem_map.mp hy
      have:=List.all_eq_true.mp e _ (List.mem_map.mpr ⟨x,hx,rfl⟩)
      simpa using this
     ·rw[List.map_append,List.map_append,List.sum_append]
      simp only [List.map_cons,List.map_nil,List.sum_cons,List.sum_nil]
      omega
    ·have st:=stay _ (g6.sm.trans g7.sm)
     exact⟨st.1,st.2,_,_,_,_,rfl⟩
  ·exact⟨(stay _ g6.sm).1,(stay _ g6.sm).2,_,_,_,_,rfl⟩
 ·rintro σ H2 ⟨s2,⟨ps,p2,hp2,rw2,l2⟩,v2,v3,v4,v5,rfl⟩
  exact k p ps H2 s2 p2 (λx hx=>(hp2 x hx).2) rw2 (by rw[List.length_map]at l2; omega)
theorem pV{c:TT}{tb te r:TS}{D:cH}{σ:St}{H:Hp}(h:c σ H λb H1=>if b=true then tb { D with nx:=r D } σ H1 else te { D with nx:=r D } σ H1):i9 (jd c tb te) r D σ H:=h
theorem oW{te:TE}{σ:St}{H:Hp}{Q:Bool->Hp->Prop}(h:te σ H λx H1=>match x with | .bl c=>Q c H1 | _=>False):mB te σ H Q:=h
theorem kG{g:R2}{l r:TE}{σ:St}{H:Hp}{Q:VK}(h:l σ H λx H1=>r σ H1 λy H2=>g x y H2 Q):dO g l r σ H Q:=h
theorem oV{a b:TT}{σ:St}{H:Hp}{Q:Bool->Hp->Prop}(h:a σ H λc H1=>if c=true then Q true H1 else b σ H1 Q):kH a b σ H Q:=h
theorem lD{α:Type}{f:α->PyData}{n:Nat}(h : ∀ x,(f x).canLay0=true/\(f x).depth<=n) : ∀ l:List α,PyData.canLayAll0 (l.map f)=true/\PyData.depthAll (l.map f)<=n
 | []=>⟨rfl,Nat.zero_le _⟩
 | x :: l=>by
  obtain⟨a,b⟩:=lD h l
  obtain⟨c,d⟩:=h x
  refine⟨?_,?_⟩
  ·rw[List.map_cons,PyData.canLayAll0,a,c]; rfl
  ·rw[List.map_cons,PyData.depthAll]; omega
theorem lG{α:Type}{f:α->PyData}{n:Nat}(h : ∀ x,(f x).canLay0=true/\(f x).depth<=n)(l:List α):(PyData.list (l.map f)).canLay0=true/\(PyData.list (l.map f)).depth<=n+1:=by
 obtain⟨a,b⟩:=lD h l
 exact⟨by simpa [PyData.canLay0] using a,by simp[PyData.depth]; omega⟩
theorem sX{α:Type}{f:α->PyData}{v:α->V}{H:Hp} : ∀ {l:List α},(∀ x∈l,aI K H (f x) (v x))->cu K H (l.map f) (l.map v)
 | [],_=>.nil
 | x :: l,h=>.cons (h x (List.mem_cons_self ..)) (sX λy hy=>h y (List.mem_cons_of_mem _ hy))
theorem sA{α:Type}[DecidableEq α]{f:α->PyData}(h : ∀ x y,PyData.eqv (f x) (f y)=decide (x=y)) : ∀ l m:List α,PyData.eqvAll (l.map f) (m.map f)=decide (l=m)
 | [],[]=>rfl
 | [],_ :: _=>rfl
 | _ :: _,[]=>rfl
 | x :: l,y :: m=>by
  rw[List.map_cons,List.map_cons,PyData.eqvAll,h,sA h l m]
  by_cases a:x=y <;> by_cases b:l=m <;> simp[a,b]
theorem Dd{α:Type}[DecidableEq α]{f:α->PyData}(h : ∀ x y,PyData.eqv (f x) (f y)=decide (x=y))(l:List α)(x:α):(l.map f).any (λy=>PyData.eqv y (f x))=true ↔ x∈l:=by
 rw[List.any_eq_true]
 constructor
 ·rintro⟨d,hd,z⟩
  obtain⟨y,hy,rfl⟩:=List.mem_map.mp hd
  rw[h]at z
  rw[<- of_decide_eq_true z]
  exact hy
 ·exact λhx=>⟨f x,List.mem_map.mpr ⟨x,hx,rfl⟩,by rw[h]; exact decide_eq_true rfl⟩
def dI(r:List Int):PyData:=.list (r.map PyData.int)
theorem BT(r:List Int):(dI r).canLay0=true/\(dI r).depth<=2:=lG (n:=1) (λx=>⟨rfl,by simp[PyData.depth]⟩) r
theorem BU(r s:List Int):PyData.eqv (dI r) (dI s)=decide (r=s):=sC r s
theorem BV{H:Hp}{a:Addr}{r:List Int}(h:H a=some (.lst (r.map V.int))):aI K H (dI r) (.ref a):=aI.lst (.of h) (cu.ints r)
theorem jf{d:PyData}{n:Nat}(h:d.canLay0=true/\d.depth<=n)(hn:n<=64):SeqAt.shaped d=true:=by
 unfold SeqAt.shaped
 rw[h.1,decide_eq_true (by omega:d.depth<=64)]
 rfl
def dS(y:Int × List Int):PyData:=.tuple [.int y.1,dI y.2]
theorem gc(x:Int × List Int):(dS x).canLay0=true/\(dS x).depth<=3:=by
 obtain⟨a,b⟩:=BT x.2
 unfold dS
 refine⟨by simp[PyData.canLay0,PyData.canLayAll0,a],?_⟩
 simp[PyData.depth,PyData.depthAll]
 omega
theorem mW(x y:Int × List Int):PyData.eqv (dS x) (dS y)=decide (x=y):=by
 have e:=BU x.2 y.2
 unfold dS
 simp only [PyData.eqv,PyData.eqvAll]
 rw[e]
 obtain⟨a,b⟩:=x
 obtain⟨c,d⟩:=y
 by_cases h1:a=c <;> by_cases h2:b=d <;> simp[h1,h2]
abbrev bj:=Addr × Addr × Int × List Int
def cM(H:Hp)(s:bj):Prop:=H s.1=some (.tup [.int s.2.2.1,.ref s.2.1])/\H s.2.1=some (.lst (s.2.2.2.map V.int))
theorem cM.mono{H H':Hp}{s:bj}(h:cM H s)(k:af H H'):cM H' s:=⟨k _ _ h.1,k _ _ h.2⟩
theorem iU{H:Hp}{s:bj}(h:cM H s):aI K H (dS s.2.2) (.ref s.1):=aI.tup (.of h.1) (.cons (aI.int _) (.cons (BV h.2) .nil))
theorem pL{ss:List bj}{i:Nat}{x:V}(h:(ss.map λq=>V.ref q.1)[i]? = some x) : ∃ q,ss[i]? = some q/\q∈ss/\x=.ref q.1:=by
 rw[List.getElem?_map]at h
 obtain⟨q,hq,e⟩:=Option.map_eq_some_iff.mp h
 exact⟨q,hq,List.mem_of_getElem? hq,e.symm⟩
theorem mR{H:Hp}{s u:bj}{neg:Bool}{Q:VK}(h1:cM H s)(h2:cM H u)(q:Q (.bl (if neg then !decide (s.2.2=u.2.2) else decide (s.2.2=u.2.2))) H):fX K neg (.ref s.1) (.ref u.1) H Q:=by
 refine⟨_,_,iU h1,iU h2,jf (gc _) (by decide),jf (gc _) (by decide),?_⟩
 rw[mW]
 exact q
def cG(H:Hp)(p:Addr)(ss:List bj):Prop:=H p=some (.lst (ss.map λs=>V.ref s.1))/\∀ s∈ss,cM H s
theorem cG.mono{H H':Hp}{p:Addr}{ss:List bj}(h:cG H p ss)(k:af H H'):cG H' p ss:=⟨k _ _ h.1,λs hs=>(h.2 s hs).mono k⟩
theorem lN{H:Hp}{p:Addr}{ss:List bj}{u:bj}{neg:Bool}{Q:VK}(h:cG H p ss)(hu:cM H u)(k : ∀ c:Bool,(c=true ↔ u.2.2∈ss.map λs=>s.2.2)->Q (.bl (if neg then !c else c)) H):sk K neg (.ref u.1) (.ref p) H Q:=by
 refine⟨(ss.map λs=>s.2.2).map dS,dS u.2.2,aI.lst (.of h.1) ?_,iU hu,(lD gc _).1,(gc _).1,Nat.le_trans (Nat.min_le_right _ _) (Nat.le_trans (gc _).2 (by decide)),?_⟩
 ·rw[List.map_map]
  exact sX (f:=λs:bj=>dS s.2.2) (v:=λs=>V.ref s.1) λs hs=>iU (h.2 s hs)
 ·exact k _ (Dd mW _ _)
theorem cG.push{H:Hp}{p:Addr}{ss:List bj}{u:bj}(h:cG H p ss)(n : ∀ s∈ss,s.2.1≠p)(hu:cM H u)(nu:u.2.1≠p):cG (upd H p (.lst (ss.map (λs=>V.ref s.1)++[.ref u.1]))) p (ss++[u]):=by
 refine⟨by rw[aR,List.map_append]; rfl,λs hs=>?_⟩
 have k:cM H s/\s.2.1≠p:=by
  rcases List.mem_append.mp hs with z | z
  ·exact⟨h.2 s z,n s z⟩
  ·rw[List.mem_singleton.mp z]; exact⟨hu,nu⟩
 exact⟨by rw[ai (av k.1.1 h.1 (by intro z; cases z))]; exact k.1.1,by rw[ai k.2]; exact k.1.2⟩
abbrev ip:=Addr × Addr × List Int
def gd(H:Hp)(q:ip):Prop:=H q.1=some (.tup [.ref q.2.1,.int 0])/\H q.2.1=some (.lst (q.2.2.map V.int))
def Pg(H:Hp)(a:Addr)(rows:List (List Int)):Prop:=∃ (l:Addr) (qs:List ip),H a=some (.lst [.ref l])/\H l=some (.lst (qs.map λq=>V.ref q.1))/\(∀ q∈qs,gd H q)/\(qs.map λq=>q.2.2)=rows
theorem gd.mono{H H':Hp}{q:ip}(h:gd H q)(s:af H H'):gd H' q:=⟨s _ _ h.1,s _ _ h.2⟩
theorem Pg.mono{H H':Hp}{a:Addr}{rows:List (List Int)}(h:Pg H a rows)(s:af H H'):Pg H' a rows:=by
 obtain⟨l,qs,h1,h2,h3,h4⟩:=h
 exact⟨l,qs,s _ _ h1,s _ _ h2,λq hq=>(h3 q hq).mono s,h4⟩
theorem oQ{qs:List ip}{i:Nat}{x:V}(h:(qs.map λq=>V.ref q.1)[i]? = some x) : ∃ q,qs[i]? = some q/\q∈qs/\x=.ref q.1:=by
 rw[List.getElem?_map]at h
 obtain⟨q,hq,e⟩:=Option.map_eq_some_iff.mp h
 exact⟨q,hq,List.mem_of_getElem? hq,e.symm⟩
def iB(rows:List (List Int))(b:List Int):Prop:=∃ r∈rows,∃ k,k < r.length/\b=r.take k
theorem fx{rows:List (List Int)}{b:List Int}:iB rows b ↔ bR (ay rows) b:=by
 constructor
 ·rintro⟨r,hr,k,hk,rfl⟩
  refine⟨r[k],eK.mpr ⟨(λz=>by have:=congrArg List.length z; rw[List.length_append]at this; cases this),r,hr,?_⟩⟩
  rw[List.take_append_getElem hk]
  exact List.take_prefix _ _
 ·rintro⟨x,hx⟩
  obtain⟨_,r,hr,hp⟩:=eK.mp hx
  have hl:=hp.length_le
  rw[List.length_append]at hl
  simp only [List.length_cons,List.length_nil]at hl
  refine⟨r,hr,b.length,by omega,?_⟩
  exact List.prefix_iff_eq_take.mp ((List.prefix_append b [x]).trans hp)
def vM(K:PySem.W.Frag):Sp:=λvs H Q _=>∃ (a:Addr) (rows:List (List Int)),vs=[.ref a]/\Pg H a rows/\rows.length<=12/\(∀ r∈rows,r.length<=6) /\
 ∀ p (ss:List bj) H',af H H'->cG H' p ss->(ss.map λs=>s.2.2).Nodup->(∀ g b,(g,b)∈(ss.map λs=>s.2.2) ↔ g=0/\iB rows b)->ss.length<=100->Q (.ref p) H'
theorem An (T:Txt K mg t):be P w K mg base "_law_spots" 1 t.nB t.mi ["_law_pages"] (vM K):=by
 refine⟨T.AY,T.ue.kp,T.CF,T.ue.okQ fK (λvs H Q E h=>by obtain⟨a,rows,rfl,_⟩:=h; rfl) λcdv A outer s H vs Q E hr h=>?_⟩
 obtain⟨a,rows,rfl,pg,lr,l6,k⟩:=h
 have hu:=hr.units
 obtain⟨l,qs,ha,hl,it,er⟩:=id pg
 have lq:qs.length=rows.length:=by have:=congrArg List.length er; rw[List.length_map]at this; exact this
 refine⟨_,(aq (aX (i:=1) fK.nd rfl (.inl rfl) (cV ag))
  (aq (bL PassesOwn.never rfl (jr (K:=K) rfl rfl T.n_enumerate (ae (aa 0) ag)) (cw (K:=K) rfl rfl (aY (aB (i:=2) fK.nd rfl (.inl rfl)) (aY (aB (i:=3) fK.nd rfl (.inl rfl)) cv))) (ap (bL PassesOwn.never rfl (dt (K:=K) rfl (aa 3)) (cw (K:=K) rfl rfl (aY (aB (i:=4) fK.nd rfl (.inl rfl)) (aY (aB (i:=5) fK.nd rfl (.inl rfl)) cv))) (ap (bL PassesOwn.never rfl (jp rfl T.n_range (ae (aZ (cc (K:=K) rfl) T.n_len PySem.boot_len (ae (aa 4) ag)) ag)) (aB (i:=6) fK.nd rfl (.inl rfl)) (ap (bB (bq (lV (K:=K) rfl hu) (bC (ae (aa 2) (ae (cT (dG (K:=K) rfl) (aa 4) cS (cR (aa 6))) ag))) (aa 1) (by with_unfolding_all rfl)) (ap (cI (dU (K:=K) rfl PySem.F.plainAttrs_list PySem.F.slot_list_append PySem.F.type_list_append dY (aa 1) (ae (bC (ae (aa 2) (ae (cT (dG (K:=K) rfl) (aa 4) cS (cR (aa 6))) ag))) ag)))) bA)))))))
  (ap (aK (aa 1))))),?_⟩
 refine⟨sz rfl,λp H1 g1=>?_⟩
 have n1 : ∀ {c u},H c=some u->c≠p:=λ{c u} e=>bi e g1.nw
 refine⟨a,_,rfl,.of (g1.sm _ _ ha),me (K:=K) (a:=a) (xs:=[V.ref l]) (λi σ H'=>af H H'/\(∃ ss:List bj,cG H' p ss/\(∀ s∈ss,s.2.1≠p)/\(ss.map λs=>s.2.2).Nodup/\(∀ g b,(g,b)∈(ss.map λs=>s.2.2) ↔ g=0/\iB (rows.take (i*12)) b)/\ss.length<=i*72)/\∃ v2 v3 v4 v5 v6,σ=[some (.ref a),some (.ref p),v2,v3,v4,v5,v6]) ⟨g1.sm,⟨[],⟨g1.at_,λs h=>nomatch h⟩,(λs h=>nomatch h),.nil,(λg b=>⟨(λh=>nomatch h),λ⟨_,r,h,_⟩=>nomatch h⟩),Nat.zero_le _⟩,_,_,_,_,_,rfl⟩ (λi σ H' _ z=>z.1.seq (.of ha)) ?_ ?_⟩
 ·rintro i x pp σ H2 H3 hx ⟨s2,⟨ss,sh,ns,nd,mem,ls⟩,v2,v3,v4,v5,v6,rfl⟩ g3
  have i0:i=0:=by have:=(List.getElem?_eq_some_iff.mp hx).1; simp only [List.length_cons,List.length_nil]at this; omega
  subst i0
  cases hx
  refine⟨pp,_,rfl,g3.tup,rfl,_,_,rfl,_,_,rfl,rfl,?_⟩
  have s03:=s2.trans g3.sm
  refine⟨l,rfl,⟨_,.of (s03 _ _ hl)⟩,fY (K:=K) (a:=l) (xs:=qs.map λq=>V.ref q.1) (λj σ H'=>af H H'/\(∃ ss:List bj,cG H' p ss/\(∀ s∈ss,s.2.1≠p)/\(ss.map λs=>s.2.2).Nodup/\(∀ g b,(g,b)∈(ss.map λs=>s.2.2) ↔ g=0/\iB (rows.take j) b)/\ss.length<=j*6)/\∃ v4 v5 v6,σ=[some (.ref a),some (.ref p),some (.int ((0:Nat):Int)),some (.ref l),v4,v5,v6]) ⟨s03,⟨ss,sh.mono g3.sm,ns,nd,mem,ls⟩,_,_,_,rfl⟩ (λj σ H' _ z=>z.1.seq (.of hl)) ?_ ?_⟩
  ·rintro j x σ H4 hx ⟨s4,⟨ss,sh,ns,nd,mem,ls⟩,v4,v5,v6,rfl⟩
   obtain⟨q,hq,qm,rfl⟩:=oQ hx
   have tq:=it q qm
   have hrj:rows[j]? = some q.2.2:=by rw[<- er,List.getElem?_map,hq]; rfl
   have rm:=List.mem_of_getElem? hrj
   have r6:=l6 _ rm
   have jl:=(List.getElem?_eq_some_iff.mp hq).1
   refine⟨q.1,_,rfl,.of (s4 _ _ tq.1),rfl,_,_,rfl,_,_,rfl,rfl,?_⟩
   refine⟨_,.inl (.of (s4 _ _ tq.2)),?_⟩
   rw[List.length_map]
   refine⟨(q.2.2.length:Int),rfl,by omega,by omega,?_⟩
   rw[Int.toNat_natCast]
   refine jO (lo:=0) (n:=q.2.2.length) (λm σ H'=>af H H'/\(∃ ss:List bj,cG H' p ss/\(∀ s∈ss,s.2.1≠p)/\(ss.map λs=>s.2.2).Nodup/\(∀ g b,(g,b)∈(ss.map λs=>s.2.2) ↔ g=0/\(iB (rows.take j) b\/∃ k,k < m/\b=q.2.2.take k))/\ss.length<=j*6+m)/\∃ v6,σ=[some (.ref a),some (.ref p),some (.int ((0:Nat):Int)),some (.ref l),some (.ref q.2.1),some (.int 0),v6]) ⟨s4,⟨ss,sh,ns,nd,λg b=>(mem g b).trans ⟨λh=>⟨h.1,.inl h.2⟩,λh=>⟨h.1,h.2.elim id λ⟨k,hk,_⟩=>absurd hk (Nat.not_lt_zero _)⟩⟩,ls⟩,_,rfl⟩ ?_ ?_
   ·rintro m σ H5 hm ⟨s5,⟨ss,sh,ns,nd,mem,ls⟩,v6,rfl⟩
    have q5:=s5 _ _ tq.2
    refine⟨_,rfl,_,.of q5,λp6 H6 g6=>?_⟩
    rw[Int.zero_add,d7]at g6
    refine⟨sz rfl,λp7 H7 g7=>?_⟩
    have s57:=g6.sm.trans g7.sm
    have sh7:=sh.mono s57
    have tu:cM H7 (p7,p6,0,q.2.2.take m):=⟨g7.at_,g7.sm _ _ g6.at_⟩
    refine cy (by rfl) (lN (u:=(p7,p6,0,q.2.2.take m)) sh7 tu λc hc=>?_)
    have hc:c=true ↔ ((0:Int),q.2.2.take m)∈ss.map λs=>s.2.2:=hc
    have mem':(∃ k,k < m+1/\True):=⟨m,Nat.lt_succ_self _,trivial⟩
    refine aF (λz=>?_) (λz=>?_)
    ·have cf : ¬ ((0:Int),q.2.2.take m)∈ss.map λs=>s.2.2:=λh=>by have:=hc.mpr h; rw[this]at z; cases z
     refine⟨.inl ⟨rfl,_,.of sh7.1⟩,?_⟩
     have q7:=s57 _ _ q5
     refine⟨_,rfl,_,.of q7,λp8 H8 g8=>?_⟩
     rw[Int.zero_add,d7]at g8
     refine⟨sz rfl,λp9 H9 g9=>?_⟩
     have s79:=g8.sm.trans g9.sm
     have sh9:=sh7.mono s79
     refine⟨_,sh9.1,dC (by rw[List.length_map]; omega),?_⟩
     have n8:p8≠p:=(bi sh7.1 g8.nw).symm
     refine⟨(s5.trans (s57.trans s79)).put g1.nw,⟨ss++[(p9,p8,0,q.2.2.take m)],cG.push (u:=(p9,p8,0,q.2.2.take m)) sh9 ns ⟨g9.at_,g9.sm _ _ g8.at_⟩ n8,λs hs=>?_,?_,λg b=>?_,by rw[List.length_append]; exact Nat.succ_le_succ ls⟩,_,rfl⟩
     ·rcases List.mem_append.mp hs with h | h
      ·exact ns s h
      ·rw[List.mem_singleton.mp h]; exact n8
     ·rw[List.map_append]
      refine List.nodup_append.mpr ⟨nd,by simp,λu hu v hv e=>?_⟩
      have hv:=List.mem_singleton.mp hv
      rw[e,hv]at hu
      exact cf hu
     ·rw[List.map_append,List.mem_append,mem]
      constructor
      ·rintro (⟨g0,h | ⟨k,hk,e⟩⟩ | h)
       ·exact⟨g0,.inl h⟩
       ·exact⟨g0,.inr ⟨k,Nat.lt_succ_of_lt hk,e⟩⟩
       ·have h:=List.mem_singleton.mp h
        cases h
        exact⟨rfl,.inr ⟨m,Nat.lt_succ_self _,rfl⟩⟩
      ·rintro⟨rfl,h | ⟨k,hk,rfl⟩⟩
       ·exact .inl ⟨rfl,.inl h⟩
       ·by_cases c:k < m
        ·exact .inl ⟨rfl,.inr ⟨k,c,rfl⟩⟩
        ·obtain rfl:k=m:=by omega
         exact .inr (List.mem_singleton.mpr rfl)
    ·have ct:((0:Int),q.2.2.take m)∈ss.map λs=>s.2.2:=hc.mp (by cases c with | true=>rfl | false=>exact absurd rfl z)
     refine⟨s5.trans s57,⟨ss,sh7,ns,nd,λg b=>?_,by omega⟩,_,rfl⟩
     rw[mem]
     constructor
     ·rintro⟨g0,h | ⟨k,hk,e⟩⟩
      ·exact⟨g0,.inl h⟩
      ·exact⟨g0,.inr ⟨k,Nat.lt_succ_of_lt hk,e⟩⟩
     ·rintro⟨rfl,h | ⟨k,hk,rfl⟩⟩
      ·exact⟨rfl,.inl h⟩
      ·by_cases c:k < m
       ·exact⟨rfl,.inr ⟨k,c,rfl⟩⟩
       ·obtain rfl:k=m:=by omega
        exact (mem _ _).mp ct
   ·rintro σ H5 ⟨s5,⟨ss,sh,ns,nd,mem,ls⟩,v6,rfl⟩
    refine⟨s5,⟨ss,sh,ns,nd,λg b=>(mem g b).trans (and_congr_right λ_=>?_),by omega⟩,_,_,_,rfl⟩
    constructor
    ·rintro (⟨r,hr,z⟩ | ⟨k,hk,e⟩)
     ·exact⟨r,(cK hrj).mpr (.inl hr),z⟩
     ·exact⟨_,(cK hrj).mpr (.inr rfl),k,hk,e⟩
    ·rintro⟨r,hr,k,hk,e⟩
     rcases (cK hrj).mp hr with h | h
     ·exact .inl ⟨r,h,k,hk,e⟩
     ·rw[h]at hk e; exact .inr ⟨k,hk,e⟩
  ·rintro σ H4 ⟨s4,⟨ss,sh,ns,nd,mem,ls⟩,v4,v5,v6,rfl⟩
   rw[List.length_map]at mem ls
   rw[lq,List.take_length]at mem
   refine⟨s4,⟨ss,sh,ns,nd,?_,by omega⟩,_,_,_,_,_,rfl⟩
   rw[List.take_of_length_le (by omega)]
   exact mem
 ·rintro σ H2 ⟨s2,⟨ss,sh,ns,nd,mem,ls⟩,v2,v3,v4,v5,v6,rfl⟩
  rw[List.take_of_length_le (by show rows.length<=1*12; omega)]at mem
  exact k p ss H2 s2 sh nd mem (Nat.le_trans ls (show 1*72<=100 by decide))
def Pf(rows:List (List Int)):Prop:=∀ x∈rows,∀ y∈rows,x <+: y->x=y
def eJ(rows:List (List Int))(b:List Int)(x:Int):Option (List Int):=if b++[x]∈ay rows then some (bg rows (b++[x])) else none
def vS(K:PySem.W.Frag):Sp:=λvs H Q _=>∃ (a:Addr) (rows:List (List Int)) (s:bj) (x:Int),vs=[.ref a,.ref s.1,.int x]/\Pg H a rows/\Pf rows/\rows.length<=100/\cM H s/\s.2.2.1=0/\s.2.2.2.length<=1000 /\
 (eJ rows s.2.2.2 x=none->∀ H',af H H'->Q .non H')/\∀ (u:bj) H',eJ rows s.2.2.2 x=some u.2.2.2->u.2.2.1=0->af H H'->cM H' u->H u.2.1=none->Q (.ref u.1) H'
theorem Aq (T:Txt K mg t):be P w K mg base "_law_next" 1 t.nI t.mn ["_law_pages", "_law_spot", "_law_byte"] (vS K):=by
 refine⟨T.A3,T.ui.kp,T.CJ,T.ui.okQ jh (λvs H Q E h=>by obtain⟨a,rows,s,x,rfl,_⟩:=h; rfl) λcdv A outer s H vs Q E hr h=>?_⟩
 obtain⟨a,rows,⟨sp,sl,sg,b⟩,x,rfl,pg,pf,lr,⟨st1,st2⟩,s0,lb,k0,k1⟩:=h
 dsimp only at st1 st2 s0 lb k0 k1
 subst s0
 have hu:=hr.units
 obtain⟨l,qs,ha,hl,it,er⟩:=id pg
 have lq:qs.length=rows.length:=by have:=congrArg List.length er; rw[List.length_map]at this; exact this
 refine⟨_,(aq (aX (i:=3) jh.nd rfl (.inl rfl) (fh (fq (K:=K) rfl) (aC (aD (K:=K) rfl) (aa 1) ao (λ_ _=>rfl)) (cV (ae (aa 2) ag))))
  (aq (bL PassesOwn.never rfl (dt (K:=K) rfl (aC (aD (K:=K) rfl) (aa 0) (aC (aD (K:=K) rfl) (aa 1) ao (λ_ _=>rfl)) (λ_ _=>rfl))) (cw (K:=K) rfl rfl (aY (aB (i:=4) jh.nd rfl (.inl rfl)) (aY (aB (i:=5) jh.nd rfl (.inl rfl)) cv))) (aq (bB (bq (cD (K:=K) rfl hu) (aa 4) (aa 3) (aW _)) (ap (aK (bC (ae (aa 5) (ae (cV ag) ag))))) bA)
  (ap (bB (bq (cD (K:=K) rfl hu) (cT (dG (K:=K) rfl) (aa 4) cS (cR (aZ (cc (K:=K) rfl) T.n_len PySem.boot_len (ae (aa 3) ag)))) (aa 3) (aW _)) (ap (aK (bC (ae (aC (aD (K:=K) rfl) (aa 1) ao (λ_ _=>rfl)) (ae (aa 3) ag))))) bA))))
  (ap (aK ib)))),?_⟩
 refine⟨_,.ref sl,.inr (.of st1),aV (j:=1) rfl,?_⟩
 refine⟨sz rfl,λp1 H1 g1=>?_⟩
 refine⟨_,_,.of (g1.sm _ _ st2),g1.lst,dk (by rw[List.length_map]; show b.length+1<=_; omega),λp2 H2 g2=>?_⟩
 have e2:b.map V.int++[V.int x]=(b++[x]).map V.int:=by simp
 rw[e2]at g2
 have s02:=g1.sm.trans g2.sm
 obtain⟨bx,ebx⟩ : ∃ bx,bx=b++[x]:=⟨_,rfl⟩
 have nb:bx≠[]:=by rw[ebx]; simp
 have nxe:eJ rows b x=if bx∈ay rows then some (bg rows bx) else none:=by rw[ebx]; rfl
 rw[<- ebx]at g2
 have lbx:bx.length<=1001:=by rw[ebx,List.length_append]; exact Nat.succ_le_succ lb
 refine⟨_,.int 0,.inr (.of (s02 _ _ st1)),aV (j:=0) rfl,?_⟩
 refine⟨_,.ref l,.inl (.of (s02 _ _ ha)),aV (j:=0) rfl,?_⟩
 refine⟨l,rfl,⟨_,.of (s02 _ _ hl)⟩,fY (K:=K) (a:=l) (xs:=qs.map λq=>V.ref q.1) (λj σ H'=>af H2 H'/\(∀ r∈rows.take j,¬ bx <+: r)/\∃ v4 v5,σ=[some (.ref a),some (.ref sp),some (.int x),some (.ref p2),v4,v5]) ⟨af.refl _,(λr h=>nomatch h),_,_,rfl⟩ (λj σ H' _ z=>.of (z.1 _ _ (s02 _ _ hl))) ?_ ?_⟩
 ·rintro j y σ H3 hy ⟨s3,no,v4,v5,rfl⟩
  obtain⟨q,hq,qm,rfl⟩:=oQ hy
  have s03:=s02.trans s3
  have tq:=(it q qm).mono s03
  have hrj:rows[j]? = some q.2.2:=by rw[<- er,List.getElem?_map,hq]; rfl
  have rm:=List.mem_of_getElem? hrj
  refine⟨q.1,_,rfl,.of tq.1,rfl,_,_,rfl,_,_,rfl,rfl,?_⟩
  have b3:=s3 _ _ g2.at_
  refine pV (oW (kG (cy (by rfl) (cy (by rfl) (fZ (.of tq.2) (.of b3) ?_)))))
  refine aF (λz=>?_) (λz=>?_)
  ·have z:q.2.2=bx:=of_decide_eq_true z
   refine⟨sz rfl,λp4 H4 g4=>?_⟩
   refine⟨sz rfl,λp5 H5 g5=>?_⟩
   have mp:bx∈ay rows:=eK.mpr ⟨nb,q.2.2,rm,by rw[z]; exact List.prefix_rfl⟩
   refine k1 (p5,p4,0,[]) H5 ?_ rfl (s03.trans (g4.sm.trans g5.sm)) ⟨g5.at_,g5.sm _ _ g4.at_⟩ (s03.free g4.nw)
   rw[nxe,if_pos mp]
   unfold bg
   rw[if_pos (by rw[<- z]; exact rm)]
  ·have z : ¬ q.2.2=bx:=λh=>z (decide_eq_true h)
   refine⟨_,.inl (.of b3),_,rfl,_,.of tq.2,λp4 H4 g4=>?_⟩
   rw[List.length_map,d7]at g4
   refine cy (by rfl) (fZ g4.lst (.of (g4.sm _ _ b3)) ?_)
   refine aF (λy=>?_) (λy=>?_)
   ·have y:q.2.2.take bx.length=bx:=of_decide_eq_true y
    have pre:bx <+: q.2.2:=List.prefix_iff_eq_take.mpr y.symm
    refine⟨_,.int 0,.inr (.of (g4.sm _ _ (s03 _ _ st1))),aV (j:=0) rfl,?_⟩
    refine⟨sz rfl,λp5 H5 g5=>?_⟩
    have mp:bx∈ay rows:=eK.mpr ⟨nb,q.2.2,rm,pre⟩
    refine k1 (p5,p2,0,bx) H5 ?_ rfl (s03.trans (g4.sm.trans g5.sm)) ⟨g5.at_,g5.sm _ _ (g4.sm _ _ b3)⟩ (g1.sm.free g2.nw)
    rw[nxe,if_pos mp]
    unfold bg
    rw[if_neg λh=>z (pf _ h _ rm pre).symm]
   ·have y : ¬ q.2.2.take bx.length=bx:=λh=>y (decide_eq_true h)
    refine⟨s3.trans g4.sm,λr hr=>?_,_,_,rfl⟩
    rcases (cK hrj).mp hr with h | h
    ·exact no r h
    ·rw[h]; exact λz=>y (List.prefix_iff_eq_take.mp z).symm
 ·rintro σ H3 ⟨s3,no,v4,v5,rfl⟩
  rw[List.length_map,lq,List.take_length]at no
  refine k0 ?_ H3 (s02.trans s3)
  rw[nxe,if_neg λh=>?_]
  obtain⟨_,r,hr,hp⟩:=eK.mp h
  exact no r hr hp
structure Wk (rows:List (List Int)) (b:List Int) (r:List Int) (ws:List (List Int)):Prop where
 len:ws.length=r.length+1
 fst:ws[0]? = some b
 nxt : ∀ (i:Nat) x u,r[i]? = some x->ws[i]? = some u->∃ v,ws[i+1]? = some v/\eJ rows u x=some v
theorem AO{rows:List (List Int)}{b:List Int}(h6 : ∀ r∈rows,r.length<=6)(h:b∈ay rows):(bg rows b).length<=6:=by
 unfold bg
 split
 ·exact Nat.zero_le _
 ·obtain⟨_,r,hr,hp⟩:=eK.mp h
  exact Nat.le_trans hp.length_le (h6 r hr)
theorem y6{rows:List (List Int)}{b v:List Int}{x:Int}(h6 : ∀ r∈rows,r.length<=6)(h:eJ rows b x=some v):v.length<=6:=by
 unfold eJ at h
 split at h
 ·rename_i z
  cases h
  exact AO h6 z
 ·cases h
def vG(K:PySem.W.Frag):Sp:=λvs H Q _=>∃ (a q:Addr) (rows:List (List Int)) (s:bj) (r:List Int) (ws:List (List Int)),vs=[.ref a,.ref s.1,.ref q]/\Pg H a rows/\Pf rows/\rows.length<=100/\(∀ r∈rows,r.length<=6)/\cM H s/\s.2.2.1=0/\s.2.2.2.length<=6/\H q=some (.lst (r.map V.int))/\r.length<=160000/\Wk rows s.2.2.2 r ws /\
 ∀ p (ss:List bj) H',af H H'->cG H' p ss->(ss.map λs=>s.2.2)=ws.map (λb=>((0:Int),b))->Q (.ref p) H'
theorem rQ (T:Txt K mg t):be P w K mg base "_law_walk" 2 t.nz t.mf ["_law_pages", "_law_spot", "_law_row"] (vG K):=by
 refine⟨T.AW,T.uc.kp,T.CC,T.uc.okQ kQ (λvs H Q E h=>by obtain⟨a,q,rows,s,r,ws,rfl,_⟩:=h; rfl) λcdv A outer s H vs Q E hr h=>?_⟩
 obtain⟨a,q,rows,s,r,ws,rfl,pg,pf,lr,l6,st,s0,lb,hq,lr',wk,k⟩:=h
 have hu:=hr.units
 refine⟨_,(aq (aX (i:=3) kQ.nd rfl (.inl rfl) (cV (ae (aa 1) ag)))
  (aq (bL PassesOwn.never rfl (dt (K:=K) rfl (aa 2)) (aB (i:=4) kQ.nd rfl (.inl rfl)) (ap (bB (bq jL (aC (aD (K:=K) rfl) (aa 3) (ia gu ao) (λ_ _=>rfl)) ib (aW _)) (ap (cI (dU (K:=K) rfl PySem.F.plainAttrs_list PySem.F.slot_list_append PySem.F.type_list_append dY (aa 3) (ae (aU (Aq T) hr (ae (aa 0) (ae (aC (aD (K:=K) rfl) (aa 3) (ia gu ao) (λ_ _=>rfl)) (ae (aa 4) ag)))) ag)))) bA)))
  (ap (aK (aa 3))))),?_⟩
 refine⟨sz rfl,λp H1 g1=>?_⟩
 have nsp:s.2.1≠p:=bi st.2 g1.nw
 have ls6 : ∀ u∈ws,u.length<=6:=λu hu=>by
  obtain⟨i,hi⟩:=List.getElem?_of_mem hu
  cases i with
  | zero=>rw[wk.fst]at hi; cases hi; exact lb
  | succ i =>
   have il:=(List.getElem?_eq_some_iff.mp hi).1
   have:=wk.len
   obtain⟨x,hx⟩ : ∃ x,r[i]? = some x:=⟨_,List.getElem?_eq_getElem (by omega)⟩
   obtain⟨y,hy⟩ : ∃ y,ws[i]? = some y:=⟨_,List.getElem?_eq_getElem (by omega)⟩
   obtain⟨v,h1,h2⟩:=wk.nxt i x y hx hy
   rw[hi]at h1; cases h1
   exact y6 l6 h2
 refine⟨q,rfl,⟨_,.of (g1.sm _ _ hq)⟩,fY (K:=K) (a:=q) (xs:=r.map V.int) (λi σ H'=>af H H'/\(∃ ss:List bj,cG H' p ss/\(∀ s∈ss,s.2.1≠p)/\(ss.map λs=>s.2.2)=(ws.take (i+1)).map (λb=>((0:Int),b)))/\∃ v4,σ=[some (.ref a),some (.ref s.1),some (.ref q),some (.ref p),v4]) ⟨g1.sm,⟨[s],⟨g1.at_,λu hu=>?_⟩,λu hu=>?_,?_⟩,_,rfl⟩ (λi σ H' _ z=>z.1.seq (.of hq)) ?_ ?_⟩
 ·rw[List.mem_singleton.mp hu]; exact st.mono g1.sm
 ·rw[List.mem_singleton.mp hu]; exact nsp
 ·have:ws.take 1=[s.2.2.2]:=by
   have:=wk.fst
   cases ws with
   | nil=>cases this
   | cons u us=>cases this; rfl
  rw[this]
  show [s.2.2]=[(0,s.2.2.2)]
  rw[<- s0]
 ·rintro i y σ H2 hy ⟨s2,⟨ss,sh,ns,es⟩,v4,rfl⟩
  obtain⟨x,hx,rfl⟩:=jJ hy
  have il:=(List.getElem?_eq_some_iff.mp hx).1
  have lw:=wk.len
  obtain⟨u,hui⟩ : ∃ u,ws[i]? = some u:=⟨_,List.getElem?_eq_getElem (by omega)⟩
  obtain⟨v,hv,nv⟩:=wk.nxt i x u hx hui
  have lss:ss.length=i+1:=by
   have:=congrArg List.length es
   rw[List.length_map,List.length_map,List.length_take]at this
   omega
  have etk:ws.take (i+1)=ws.take i++[u]:=by rw[List.take_add_one,hui]; rfl
  obtain⟨ss0,z,ess⟩ : ∃ ss0 z,ss=ss0++[z]:=⟨ss.dropLast,ss.getLast (by intro z; rw[z]at lss; cases lss),(List.dropLast_concat_getLast _).symm⟩
  have ez:z.2.2=(0,u):=by
   rw[ess,etk,List.map_append,List.map_append]at es
   have:=List.append_inj_right' es rfl
   exact List.head_eq_of_cons_eq this
  have la:c7 (ss.map λs=>V.ref s.1) (-1)=some (.ref z.1):=by rw[ess,List.map_append]; exact tQ _ _
  have zm:z∈ss:=by rw[ess]; simp
  have tz:=sh.2 z zm
  refine⟨_,.ref z.1,.inl (.of sh.1),la,?_⟩
  refine⟨.inl ⟨rfl,_,.of sh.1⟩,?_⟩
  refine⟨_,.ref z.1,.inl (.of sh.1),la,?_⟩
  refine⟨a,rows,z,x,rfl,pg.mono s2,pf,lr,tz,by rw[ez],?_,λh=>?_,λo H3 ho o0 s3 so no=>?_⟩
  ·rw[ez]
   have:=ls6 u (List.mem_of_getElem? hui)
   show u.length<=1000
   omega
  ·rw[ez,nv]at h; cases h
  ·rw[ez,nv]at ho
   have ho:v=o.2.2.2:=Option.some.inj ho
   have sh3:=sh.mono s3
   refine⟨_,sh3.1,by rw[List.length_map,sizeLine_eq]; omega,?_⟩
   have nop:o.2.1≠p:=(bi sh.1 no).symm
   refine⟨(s2.trans s3).put g1.nw,⟨ss++[o],sh3.push ns so nop,λe he=>?_,?_⟩,_,rfl⟩
   ·rcases List.mem_append.mp he with h | h
    ·exact ns e h
    ·rw[List.mem_singleton.mp h]; exact nop
   ·rw[List.map_append,es,List.take_add_one (i:=i+1),hv,List.map_append]
    show _++[o.2.2]=_++[(0,v)]
    rw[ho,<- o0]
 ·rintro σ H2 ⟨s2,⟨ss,sh,ns,es⟩,v4,rfl⟩
  rw[List.length_map,<- wk.len,List.take_length]at es
  exact k p ss H2 s2 sh es
def vT:Sp:=λvs H Q _=>∃ (q:Addr) (r:List Int),vs=[.ref q]/\H q=some (.lst (r.map V.int))/\r.length<=160000/\∀ H',af H H'->Q (.bl true) H'
theorem Ap (T:Txt K mg t):be P w K mg base "_law_numbers" 2 t.nH t.mm ["_law_found"] vT:=by
 refine⟨T.A2,T.uh.kp,T.CI,T.uh.okQ wq (λvs H Q E h=>by obtain⟨q,r,rfl,_⟩:=h; rfl) λcdv A outer s H vs Q E hr h=>?_⟩
 obtain⟨q,r,rfl,hq,hl,k⟩:=h
 refine⟨_,(ap (aK (cB (aZ (fw (K:=K) rfl) T.n_isinstance PyProof.Rows.boot_isinstance (ae (aa 0) (ae (fi rfl T.n_list PyProof.Rows.boot_list) ag))) (cU (aZ (j7 (K:=K) rfl rfl) T.n_all PyProof.Rows.boot_all (ae (eG rfl (bQ.of (fns:=(ak fM).names) (N:=["_law_found"]) (Nc:=["_law_one"]) (nv:=1) (caps:=[]) rfl rfl (by decide +kernel)) (dt (K:=K) rfl (aa 0)) (λ_ _ _ _=>(aB (i:=0) (show List.Nodup (["_law_one"]:List Str) by decide +kernel) rfl (Or.inl rfl) (Or.inr rfl))) (λ_ _ _ _=>dR) (λ_ _ _ _=>(aU (rS T) hr (ae (aa 0) ag)))) ag)))))),?_⟩
 refine⟨_,_,.lst hq,by with_unfolding_all rfl,?_⟩
 refine dF ?_
 refine⟨q,rfl,⟨_,.of hq⟩,j3 ((r.map λ_=>true).map V.bl) (by simp) (.of hq) (by rw[List.length_map,sizeLine_eq]; omega) (λi x y H4 N hx hy s4 hN=>?_) λp3 H3 g3=>?_⟩
 ·obtain⟨o,ho,rfl⟩:=jJ hx
  rw[List.getElem?_map,List.getElem?_map,ho]at hy
  cases hy
  exact⟨_,rfl,hN _ (af.refl _)⟩
 refine⟨_,g3.lst,?_⟩
 exact bh (k H3 g3.sm) (by simp)
theorem Wk.cons{rows:List (List Int)}{b v:List Int}{x:Int}{r:List Int}{ws:List (List Int)}(h:eJ rows b x=some v)(k:Wk rows v r ws):Wk rows b (x :: r) (b :: ws):=by
 refine⟨by rw[List.length_cons,List.length_cons,k.len],rfl,λi y u hy hu=>?_⟩
 cases i with
 | zero=>cases hy; cases hu; exact⟨v,k.fst,h⟩
 | succ i=>exact k.nxt i y u hy hu
theorem oH{rows:List (List Int)} : ∀ {r:List Int} {k g:ab},br (λk=>bP rows (ay rows) k.1 k.2) k r=some g->k.1≠k.2->∃ w1 w2,Wk rows k.1 r w1/\Wk rows k.2 r w2/\(∀ (i:Nat) u v,w1[i]? = some u->w2[i]? = some v->u≠v)/\w1[r.length]? = some g.1/\w2[r.length]? = some g.2
 | [],k,g,h,ne=>by
  cases h
  refine⟨[k.1],[k.2],⟨rfl,rfl,λi x u h=>by simp at h⟩,⟨rfl,rfl,λi x u h=>by simp at h⟩,λi u v h1 h2=>?_,rfl,rfl⟩
  cases i with
  | zero=>cases h1; cases h2; exact ne
  | succ i=>cases h1
 | x :: r,k,g,h,ne=>by
  have h:(bP rows (ay rows) k.1 k.2 x).bind (λg=>br _ g r)=some g:=h
  cases c:bP rows (ay rows) k.1 k.2 x with
  | none=>rw[c]at h; cases h
  | some k' =>
   rw[c]at h
   unfold bP at c
   split at c
   ·rename_i z
    cases c
    obtain⟨w1,w2,a1,a2,a3,a4,a5⟩:=oH (k:=(bg rows (k.1++[x]),bg rows (k.2++[x]))) h λe=>z.2.2 e.symm
    refine⟨k.1 :: w1,k.2 :: w2,a1.cons (by unfold eJ; rw[if_pos z.1]),a2.cons (by unfold eJ; rw[if_pos z.2.1]),λi u v h1 h2=>?_,a4,a5⟩
    cases i with
    | zero=>cases h1; cases h2; exact ne
    | succ i=>exact a3 i u v h1 h2
   ·cases c
structure iq (rows:List (List Int)) (ss:List bj):Prop where
 nd:(ss.map λs=>s.2.2).Nodup
 mem : ∀ g b,(g,b)∈(ss.map λs=>s.2.2) ↔ g=0/\iB rows b
 len:ss.length<=100
structure ox (rows:List (List Int)):Prop where
 pf:Pf rows
 l:rows.length<=12
 l6 : ∀ r∈rows,r.length<=6
def ot(rows:List (List Int))(s:Str)(m:Int)(k:ab)(r:List Int):Prop:=cJ (ay rows) k/\r.length<=160000/\((s = "never"/\m=0/\r≠[]/\br (λk=>bP rows (ay rows) k.1 k.2) k r=some k)\/(s = "within"/\(r.length:Int)=m/\∃ g,br (λk=>bP rows (ay rows) k.1 k.2) k r=some g))
structure oq (H:Hp) (wt:Addr) (k:ab) (r:List Int):Prop where
 ex : ∃ l1 l2 l,H wt=some (.tup [.ref l1,.ref l2,.ref l])/\H l1=some (.lst (k.1.map V.int))/\H l2=some (.lst (k.2.map V.int))/\H l=some (.lst (r.map V.int))
def vU:Sp:=λvs H Q _=>∃ (a f p wt:Addr) (rows:List (List Int)) (ss:List bj) (s:Str) (m:Int) (k:ab) (r:List Int),vs=[.ref a,.ref f,.ref p]/\Pg H a rows/\ox rows/\cG H p ss/\iq rows ss/\H f=some (.tup [.str s,.int m,.ref wt])/\oq H wt k r/\ot rows s m k r/\∀ H',af H H'->Q (.bl true) H'
theorem Ar (T:Txt K mg t):be P w K mg base "_law_held_apart" 3 t.nJ t.mo ["_law_pages", "_law_found", "_law_spots_here"] vU:=by
 refine⟨T.A4,T.uj.kp,T.CK,T.uj.okQ gz (λvs H Q E h=>by obtain⟨a,f,p,wt,rows,ss,s,m,k,r,rfl,_⟩:=h; rfl) λcdv A outer s H vs Q E hr h=>?_⟩
 obtain⟨a,f,p,wt,rows,ss,sw,m,k,r,rfl,pg,ok,sh,sr,hf,⟨l1,l2,l,hw,h1,h2,h3⟩,⟨nk,lr,cs⟩,kq⟩:=h
 have hu:=hr.units
 refine⟨_,(aq (bB (fR (dQ (dD (dE (aZ (fw (K:=K) rfl) T.n_isinstance PyProof.Rows.boot_isinstance (ae (aC (aD (K:=K) rfl) (aa 1) ao (λ_ _=>rfl)) (ae (fi rfl T.n_tuple PyProof.Rows.boot_tuple) ag))))) (dQ (bq (fm (K:=K) rfl hu) (aZ (cc (K:=K) rfl) T.n_len PySem.boot_len (ae (aC (aD (K:=K) rfl) (aa 1) ao (λ_ _=>rfl)) ag)) ao (aW _)) (hZ (dD (dE (aZ (j7 (K:=K) rfl rfl) T.n_all PyProof.Rows.boot_all (ae (eG rfl (bQ.of (fns:=(ak fb).names) (N:=["_law_pages", "_law_found", "_law_spots_here", "_law_one", "_law_other", "_law_row", "_law_ours", "_law_theirs"]) (Nc:=["_law_one"]) (nv:=1) (caps:=[]) rfl rfl (by decide +kernel)) (xb (K:=K) rfl (aC (aD (K:=K) rfl) (aa 1) ao (λ_ _=>rfl))) (λ_ _ _ _=>(aB (i:=0) (show List.Nodup (["_law_one"]:List Str) by decide +kernel) rfl (Or.inl rfl) (Or.inr rfl))) (λ_ _ _ _=>dR) (λ_ _ _ _=>(aU (Ap T) hr (ae (aa 0) ag)))) ag)))))))) (ap (aK eI)) bA)
  (aq (w6 (aC (aD (K:=K) rfl) (aa 1) ao (λ_ _=>rfl)) (cw (K:=K) rfl rfl (aY (aB (i:=3) gz.nd rfl (.inl rfl)) (aY (aB (i:=4) gz.nd rfl (.inl rfl)) (aY (aB (i:=5) gz.nd rfl (.inl rfl)) cv)))))
  (aq (bB (fR (dQ (bq (cD (K:=K) rfl hu) (aa 3) (aa 4) (aW _)) (dQ (bq (lV (K:=K) rfl hu) (bC (ae ao (ae (aa 3) ag))) (aa 2) (by with_unfolding_all rfl)) (hZ (bq (lV (K:=K) rfl hu) (bC (ae ao (ae (aa 4) ag))) (aa 2) (by with_unfolding_all rfl)))))) (ap (aK eI)) bA)
  (aq (aX (i:=6) gz.nd rfl (.inl rfl) (aU (rQ T) hr (ae (aa 0) (ae (bC (ae ao (ae (aa 3) ag))) (ae (aa 5) ag)))))
  (aq (aX (i:=7) gz.nd rfl (.inl rfl) (aU (rQ T) hr (ae (aa 0) (ae (bC (ae ao (ae (aa 4) ag))) (ae (aa 5) ag)))))
  (aq (bB (fR (dQ (bq r9 (aC (aD (K:=K) rfl) (aa 6) (ia gu ao) (λ_ _=>rfl)) ib (aW _)) (dQ (bq r9 (aC (aD (K:=K) rfl) (aa 7) (ia gu ao) (λ_ _=>rfl)) ib (aW _)) (hZ (dE (aZ (Co (K:=K) rfl rfl) T.n_any PyProof.Rows.boot_any (ae (eG rfl (bQ.of (fns:=(ak fb).names) (N:=["_law_pages", "_law_found", "_law_spots_here", "_law_one", "_law_other", "_law_row", "_law_ours", "_law_theirs"]) (Nc:=["_law_here", "_law_there"]) (nv:=2) (caps:=[]) rfl rfl (by decide +kernel)) (w9 (K:=K) rfl rfl T.n_zip (ae (aa 6) (ae (aa 7) ag))) (λ_ _ _ _=>(cw (K:=K) rfl (n:=2) rfl (aY (aB (i:=0) (show List.Nodup (["_law_here", "_law_there"]:List Str) by decide +kernel) rfl (Or.inl rfl) (Or.inr rfl)) (aY (aB (i:=1) (show List.Nodup (["_law_here", "_law_there"]:List Str) by decide +kernel) rfl (Or.inl rfl) (Or.inr rfl)) cv)))) (λ_ _ _ _=>dR) (λ_ _ _ _=>(cA (cD (K:=K) rfl hu) (aa 0) (aa 1) (aW _)))) ag))))))) (ap (aK eI)) bA)
  (aq (bB (bq (cD (K:=K) rfl hu) (aC (aD (K:=K) rfl) (aa 1) ao (λ_ _=>rfl)) js (aW _)) (ap (aK (cB (cA (cD (K:=K) rfl hu) (aC (aD (K:=K) rfl) (aa 1) ao (λ_ _=>rfl)) ao (aW _)) (cB (cA (fm (K:=K) rfl hu) (aa 5) (cV ag) (aW _)) (cB (cA (cD (K:=K) rfl hu) (aC (aD (K:=K) rfl) (aa 6) (ia gu ao) (λ_ _=>rfl)) (bC (ae ao (ae (aa 3) ag))) (aW _)) (cU (cA (cD (K:=K) rfl hu) (aC (aD (K:=K) rfl) (aa 7) (ia gu ao) (λ_ _=>rfl)) (bC (ae ao (ae (aa 4) ag))) (aW _)))))))) bA)
  (ap (aK (cB (cA (cD (K:=K) rfl hu) (aC (aD (K:=K) rfl) (aa 1) ao (λ_ _=>rfl)) js (aW _)) (cU (cA (cD (K:=K) rfl hu) (aZ (cc (K:=K) rfl) T.n_len PySem.boot_len (ae (aa 5) ag)) (aC (aD (K:=K) rfl) (aa 1) ao (λ_ _=>rfl)) (aW _))))))))))))),?_⟩
 refine⟨_,.ref wt,.inr (.of hf),aV (j:=2) rfl,?_⟩
 refine⟨_,_,.tup hw,by with_unfolding_all rfl,?_⟩
 refine aF (λz=>absurd z (by decide)) (λ_=>?_)
 refine⟨_,.ref wt,.inr (.of hf),aV (j:=2) rfl,?_⟩
 refine⟨_,.inr (.of hw),?_⟩
 have lk:k.1.length<=160000/\k.2.length<=160000:=by
  have one : ∀ b,bR (ay rows) b->b.length<=6:=λb hb=>by
   obtain⟨r,hr,j,hj,rfl⟩:=fx.mpr hb
   have:=ok.l6 r hr
   rw[List.length_take]
   omega
  have:=one _ nk.1
  have:=one _ nk.2.1
  omega
 refine⟨_,.ref wt,.inr (.of hf),aV (j:=2) rfl,?_⟩
 refine⟨wt,rfl,⟨_,.of hw⟩,B3 (K:=K) (a:=wt) (xs:=[.ref l1,.ref l2,.ref l]) (λi ys H'=>af H H'/\ys=(List.replicate i true).map V.bl) ⟨af.refl _,rfl⟩ (λi ys H' _ z=>⟨.of (z.1 _ _ hw),by rw[z.2,List.length_map,List.length_replicate]; exact Nat.le_refl _⟩) (dk (by simp)) (λi v ys H' N hv z hN=>?_) λys H' p1 H1 z g1=>?_⟩
 ·obtain⟨s1,rfl⟩:=z
  simp only [dN,if_true]
  obtain⟨c,xs,rfl,hl,ll⟩ : ∃ (c:Addr) (xs:List Int),v=.ref c/\H c=some (.lst (xs.map V.int))/\xs.length<=160000:=by
   match i,hv with
   | 0,hv=>cases hv; exact⟨l1,_,rfl,h1,lk.1⟩
   | 1,hv=>cases hv; exact⟨l2,_,rfl,h2,lk.2⟩
   | 2,hv=>cases hv; exact⟨l,_,rfl,h3,lr⟩
  refine⟨c,xs,rfl,s1 _ _ hl,ll,λH2 s2=>?_⟩
  exact hN _ _ ⟨s1.trans s2,by rw[List.replicate_succ',List.map_append]; rfl⟩
 obtain⟨s1,rfl⟩:=z
 have sH:=s1.trans g1.sm
 refine⟨[true,true,true],g1.lst,?_⟩
 have hw1:=sH _ _ hw
 refine⟨_,.ref wt,.inr (.of (sH _ _ hf)),aV (j:=2) rfl,?_⟩
 refine⟨wt,_,rfl,.of hw1,rfl,_,_,rfl,_,_,rfl,_,_,rfl,rfl,?_⟩
 dsimp only
 refine pV (oV (oW (kG ?_)))
 refine cy (by rfl) (cy (by rfl) (fZ (.of (sH _ _ h1)) (.of (sH _ _ h2)) ?_))
 refine aF (λz=>absurd (of_decide_eq_true z) nk.2.2) (λ_=>?_)
 have spt : ∀ b,bR (ay rows) b->((0:Int),b)∈ss.map λs=>s.2.2:=λb hb=>(sr.mem 0 b).mpr ⟨rfl,fx.mpr hb⟩
 refine oV ?_
 refine⟨sz rfl,λp2 H2 g2=>?_⟩
 have s02:=sH.trans g2.sm
 refine cy (by rfl) (lN (u:=(p2,l1,0,k.1)) (sh.mono s02) ⟨g2.at_,s02 _ _ h1⟩ λc hc=>?_)
 have hc:c=true:=hc.mpr (spt _ nk.1)
 subst hc
 refine⟨sz rfl,λp3 H3 g3=>?_⟩
 have s03:=s02.trans g3.sm
 refine cy (by rfl) (lN (u:=(p3,l2,0,k.2)) (sh.mono s03) ⟨g3.at_,s03 _ _ h2⟩ λc hc=>?_)
 have hc:c=true:=hc.mpr (spt _ nk.2.1)
 subst hc
 refine aF (λz=>absurd z (by decide)) (λ_=>?_)
 obtain⟨g,hp⟩ : ∃ g,br (λk=>bP rows (ay rows) k.1 k.2) k r=some g:=by
  rcases cs with ⟨_,_,_,h⟩ | ⟨_,_,h⟩
  ·exact⟨k,h⟩
  ·exact h
 obtain⟨w1,w2,a1,a2,a3,a4,a5⟩:=oH hp nk.2.2
 have lk6:k.1.length<=6/\k.2.length<=6:=by
  have one : ∀ b,bR (ay rows) b->b.length<=6:=λb hb=>by
   obtain⟨r,hr,j,hj,rfl⟩:=fx.mpr hb
   have:=ok.l6 r hr
   rw[List.length_take]
   omega
  exact⟨one _ nk.1,one _ nk.2.1⟩
 have l12:=ok.l
 refine⟨sz rfl,λp4 H4 g4=>?_⟩
 have s04:=s03.trans g4.sm
 refine⟨a,l,rows,(p4,l1,0,k.1),r,w1,rfl,pg.mono s04,ok.pf,by omega,ok.l6,⟨g4.at_,s04 _ _ h1⟩,rfl,lk6.1,s04 _ _ h3,lr,a1,λpa sa H5 s5 sha ea=>?_⟩
 have s05:=s04.trans s5
 refine⟨sz rfl,λp6 H6 g6=>?_⟩
 have s06:=s05.trans g6.sm
 refine⟨a,l,rows,(p6,l2,0,k.2),r,w2,rfl,pg.mono s06,ok.pf,by omega,ok.l6,⟨g6.at_,s06 _ _ h2⟩,rfl,lk6.2,s06 _ _ h3,lr,a2,λpb sb H7 s7 shb eb=>?_⟩
 have s07:=s06.trans s7
 have sha7:=sha.mono (g6.sm.trans s7)
 have last : ∀ {ss:List bj} {ws:List (List Int)} {v:List Int},(ss.map λs=>s.2.2)=ws.map (λb=>((0:Int),b))->ws.length=r.length+1->ws[r.length]? = some v->∃ z∈ss,c7 (ss.map λs=>V.ref s.1) (-1)=some (.ref z.1)/\z.2.2=(0,v):=λ{ss ws v} es lw hv=>by
  have lss:ss.length=r.length+1:=by
   have:=congrArg List.length es
   rw[List.length_map,List.length_map]at this
   omega
  obtain⟨ss0,z,ess⟩ : ∃ ss0 z,ss=ss0++[z]:=⟨ss.dropLast,ss.getLast (by intro z; rw[z]at lss; cases lss),(List.dropLast_concat_getLast _).symm⟩
  refine⟨z,by rw[ess]; simp,by rw[ess,List.map_append]; exact tQ _ _,?_⟩
  have l0:ss0.length=r.length:=by rw[ess,List.length_append]at lss; exact Nat.succ.inj lss
  have e1:(ss.map λs=>s.2.2)[r.length]? = some z.2.2:=by rw[List.getElem?_map,ess,<- l0]; simp
  rw[es,List.getElem?_map,hv]at e1
  exact (Option.some.inj e1).symm
 obtain⟨za,zam,lza,eza⟩:=last ea a1.len a4
 obtain⟨zb,zbm,lzb,ezb⟩:=last eb a2.len a5
 refine⟨_,.ref za.1,.inl (.of sha7.1),lza,?_⟩
 refine⟨_,.ref zb.1,.inl (.of shb.1),lzb,?_⟩
 have la:sa.length=r.length+1:=by
  have:=congrArg List.length ea
  rw[List.length_map,List.length_map,a1.len]at this
  exact this
 have lb:sb.length=r.length+1:=by
  have:=congrArg List.length eb
  rw[List.length_map,List.length_map,a2.len]at this
  exact this
 have atw : ∀ {ss:List bj} {ws:List (List Int)} {i:Nat} {q:bj},(ss.map λs=>s.2.2)=ws.map (λb=>((0:Int),b))->ss[i]? = some q->∃ u,ws[i]? = some u/\q.2.2=(0,u):=λ{ss ws i q} es hq=>by
  have e1:(ss.map λs=>s.2.2)[i]? = some q.2.2:=by rw[List.getElem?_map,hq]; rfl
  rw[es,List.getElem?_map]at e1
  obtain⟨u,hu,e⟩:=Option.map_eq_some_iff.mp e1
  exact⟨u,hu,e.symm⟩
 refine⟨pa,pb,_,_,rfl,.of sha7.1,.of shb.1,?_⟩
 refine B2 (K:=K) (a:=pa) (b:=pb) (xs:=sa.map λs=>V.ref s.1) (zs:=sb.map λs=>V.ref s.1) (by rw[List.length_map,List.length_map]; omega) (λi ys H'=>af H7 H'/\ys=(List.replicate i false).map V.bl) ⟨af.refl _,rfl⟩ (λi ys H' hi z=>⟨.of (z.1 _ _ sha7.1),.of (z.1 _ _ shb.1),by rw[z.2,List.length_map,List.length_replicate]; exact Nat.le_refl _⟩) (by rw[List.length_map,sizeLine_eq]; omega) (λi x y ys H8 H9 N hx hy z s9 hN=>?_) λys H8 p9 H9 z g9=>?_
 ·obtain⟨s8,rfl⟩:=z
  obtain⟨qa,hqa,qam,rfl⟩:=pL hx
  obtain⟨qb,hqb,qbm,rfl⟩:=pL hy
  simp only [dN,if_true]
  have s79:=s8.trans s9
  obtain⟨u,hu1,eu⟩:=atw ea hqa
  obtain⟨v,hv1,ev⟩:=atw eb hqb
  have ne : ¬ qa.2.2=qb.2.2:=λz=>by rw[eu,ev]at z; exact a3 i u v hu1 hv1 (Prod.mk.inj z).2
  refine kG ?_
  refine cy (by rfl) (cy (by rfl) (mR ((sha7.2 qa qam).mono s79) ((shb.2 qb qbm).mono s79) ?_))
  refine hN _ _ ⟨s79,?_⟩
  rw[List.replicate_succ',List.map_append]
  show _++[V.bl (decide (qa.2.2=qb.2.2))]=_
  rw[decide_eq_false ne]
  rfl
 obtain⟨s8,rfl⟩:=z
 have s79:=s8.trans g9.sm
 have s09:=s07.trans s79
 refine⟨_,g9.lst,?_⟩
 have nof:((List.replicate (sa.map λs=>V.ref s.1).length false).any id)=false:=by simp
 rw[nof]
 refine aF (λz=>absurd (show false=true from z) (by decide)) (λ_=>?_)
 refine⟨_,.str sw,.inr (.of (s09 _ _ hf)),aV (j:=0) rfl,?_⟩
 have h9:=s09 _ _ h3
 have sha9:=sha7.mono s79
 have shb9:=shb.mono s79
 rcases cs with ⟨rfl,rfl,rne,hpk⟩ | ⟨rfl,em,_⟩
 ·refine⟨_,_,aI.str _,aI.str _,by decide +kernel,by decide +kernel,?_⟩
  have e1:PyData.eqv (.str ("never" : Str)) (.str ("never" : Str))=true:=by decide
  rw[e1]
  refine dF ?_
  refine⟨_,.int 0,.inr (.of (s09 _ _ hf)),aV (j:=1) rfl,?_⟩
  refine⟨sz rfl,λp10 H10 g10=>?_⟩
  refine fZ (ms:=[]) (.of (g10.sm _ _ h9)) g10.lst ?_
  refine aF (λ_=>?_) (λz=>absurd (show (!decide (r=[]))=true by simp[rne]) z)
  have s910:=g10.sm
  rw[hp]at hpk
  cases hpk
  refine⟨_,.ref za.1,.inl (.of (s910 _ _ sha9.1)),lza,?_⟩
  refine⟨sz rfl,λp11 H11 g11=>?_⟩
  have s911:=s910.trans g11.sm
  have s011:=s09.trans s911
  refine mR (u:=(p11,l1,0,k.1)) ((sha9.2 za zam).mono s911) ⟨g11.at_,s011 _ _ h1⟩ ?_
  have e2:decide (za.2.2=((0:Int),k.1))=true:=decide_eq_true eza
  show (if decide (za.2.2=((0:Int),k.1))=true then _ else _)
  rw[e2]
  refine dF ?_
  refine⟨_,.ref zb.1,.inl (.of (s911 _ _ shb9.1)),lzb,?_⟩
  refine⟨sz rfl,λp12 H12 g12=>?_⟩
  have s912:=s911.trans g12.sm
  have s012:=s09.trans s912
  refine mR (u:=(p12,l2,0,k.2)) ((shb9.2 zb zbm).mono s912) ⟨g12.at_,s012 _ _ h2⟩ ?_
  exact bh (kq _ s012) (decide_eq_true ezb).symm
 ·refine⟨_,_,aI.str _,aI.str _,by decide +kernel,by decide +kernel,?_⟩
  have e1:PyData.eqv (.str ("within" : Str)) (.str ("never" : Str))=false:=by decide
  rw[e1]
  refine aF (λz=>absurd (show false=true from z) (by decide)) (λ_=>?_)
  refine⟨_,.str "within",.inr (.of (s09 _ _ hf)),aV (j:=0) rfl,?_⟩
  refine⟨_,_,aI.str _,aI.str _,by decide +kernel,by decide +kernel,?_⟩
  have e1:PyData.eqv (.str ("within" : Str)) (.str ("within" : Str))=true:=by decide
  rw[e1]
  refine dF ?_
  refine⟨_,.inl (.of h9),?_⟩
  refine⟨_,.int m,.inr (.of (s09 _ _ hf)),aV (j:=1) rfl,?_⟩
  exact bh (kq _ s09) (by rw[List.length_map]; exact (decide_eq_true em).symm)
theorem bK.of{H H':Hp}(s:af H H'):bK H H':=λc u e _=>s c u e
theorem bK.trans{H H1 H2:Hp}(s:bK H H1)(s':bK H1 H2):bK H H2:=λc u e n=>s' c u (s c u e n) n
theorem bK.put{H H':Hp}{l:Addr}{o:HO}(s:bK H H')(h:H l=none):bK H (upd H' l o):=λc u e n=>by
 rw[ai (bi e h)]
 exact s c u e n
theorem vj{H H':Hp}{q:ip}(h:gd H q)(s:bK H H'):gd H' q:=⟨s _ _ h.1 (by intro ps z; cases z),s _ _ h.2 (by intro ps z; cases z)⟩
theorem qH{H H':Hp}{a:Addr}{rows:List (List Int)}(h:Pg H a rows)(s:bK H H'):Pg H' a rows:=by
 obtain⟨l,qs,h1,h2,h3,h4⟩:=h
 exact⟨l,qs,s _ _ h1 (by intro ps z; cases z),s _ _ h2 (by intro ps z; cases z),λq hq=>vj (h3 q hq) s,h4⟩
theorem oO{H H':Hp}{a:Addr}{f:Ft}{es:List (Int × List Int)}{n:Nat}(h:Tt t H a f es n)(s:bK H H'):Tt t H' a f es n:=by
 obtain⟨o,⟨k1,k2,k3,a1,a2,a3,l1,l2,l3,kv⟩,ne⟩:=h
 exact⟨s _ _ o (by intro ps z; cases z),⟨k1,k2,k3,s _ _ a1 (by intro ps z; cases z),s _ _ a2 (by intro ps z; cases z),s _ _ a3 (by intro ps z; cases z),l1,l2,l3,kv.mono λq xs e=>s _ _ e (by intro ps z; cases z)⟩,ne⟩
theorem kE{H:Hp}{l:Addr}{xs:List V}{o:HO}{q:Str}{pos:Pos}(h:bZ H 75 q pos)(hl:H l=some (.lst xs)):bZ (upd H l o) 75 q pos:=by
 rcases h with h | ⟨c,h,oc,vs,t,h1,h2,h3⟩
 ·exact .inl (by rw[ai (av h hl (by intro z; cases z))]; exact h)
 ·exact .inr ⟨c,by rw[ai (av h hl (by intro z; cases z))]; exact h,oc,vs,t,by rw[ai (av h1 hl (by intro z; cases z))]; exact h1,h2,h3⟩
theorem iq.few{rows:List (List Int)}{ss:List bj}(h:iq rows ss)(no : ∀ k,¬ cJ (ay rows) k):ss.length < 2:=by
 refine Nat.lt_of_not_le λl2=>?_
 have m0:ss[0].2.2∈ss.map λs=>s.2.2:=List.mem_map.mpr ⟨_,List.getElem_mem _,rfl⟩
 have m1:ss[1].2.2∈ss.map λs=>s.2.2:=List.mem_map.mpr ⟨_,List.getElem_mem _,rfl⟩
 obtain⟨g0,b0⟩:=(h.mem ss[0].2.2.1 ss[0].2.2.2).mp m0
 obtain⟨g1,b1⟩:=(h.mem ss[1].2.2.1 ss[1].2.2.2).mp m1
 have ne:=List.pairwise_iff_getElem.mp h.nd 0 1 (by rw[List.length_map]; omega) (by rw[List.length_map]; omega) (by decide)
 rw[List.getElem_map,List.getElem_map]at ne
 exact no (ss[0].2.2.2,ss[1].2.2.2) ⟨fx.mp b0,fx.mp b1,λe=>ne (Prod.ext (g0.trans g1.symm) e)⟩
theorem iq.two{rows:List (List Int)}{ss:List bj}{k:ab}(h:iq rows ss)(nk:cJ (ay rows) k) : ¬ ss.length < 2:=λl2=>by
 have m1:=(h.mem 0 k.1).mpr ⟨rfl,fx.mpr nk.1⟩
 have m2:=(h.mem 0 k.2).mpr ⟨rfl,fx.mpr nk.2.1⟩
 match ss,l2,m1,m2 with
 | [],_,m1,_=>cases m1
 | [x],_,m1,m2 =>
  have e:=(List.mem_singleton.mp m1).trans (List.mem_singleton.mp m2).symm
  exact nk.2.2 (Prod.mk.inj e).2
def vK:Sp:=λvs H Q _=>∃ (a f:Addr) (rows:List (List Int)) (s:Str) (m:Int) (v:V),vs=[.ref a,.ref f]/\Pg H a rows/\ox rows/\H f=some (.tup [.str s,.int m,v])/\(((∀ k,¬ cJ (ay rows) k)/\s = "within"/\m=0/\v=.non)\/∃ wt k r,v=.ref wt/\oq H wt k r/\ot rows s m k r)/\∀ H',af H H'->Q (.bl true) H'
theorem rR (T:Txt K mg t):be P w K mg base "_law_told" 4 t.nA t.mh ["_law_pages", "_law_found"] vK:=by
 refine⟨T.AX,T.ud.kp,T.CD,T.ud.okQ pR (λvs H Q E h=>by obtain⟨a,f,rows,s,m,v,rfl,_⟩:=h; rfl) λcdv A outer s H vs Q E hr h=>?_⟩
 obtain⟨a,f,rows,sw,m,v,rfl,pg,ok,hf,cs,kq⟩:=h
 have hu:=hr.units
 refine⟨_,(aq (bB (fR (dQ (dD (dE (aZ (fw (K:=K) rfl) T.n_isinstance PyProof.Rows.boot_isinstance (ae (aa 1) (ae (fi rfl T.n_tuple PyProof.Rows.boot_tuple) ag))))) (dQ (bq (fm (K:=K) rfl hu) (aZ (cc (K:=K) rfl) T.n_len PySem.boot_len (ae (aa 1) ag)) ao (aW _)) (hZ (dD (dE (aU (rS T) hr (ae (aC (aD (K:=K) rfl) (aa 1) ao (λ_ _=>rfl)) ag)))))))) (ap (aK eI)) bA)
  (aq (aX (i:=2) pR.nd rfl (.inl rfl) (aU (An T) hr (ae (aa 0) ag)))
  (aq (bB (bq lW (aZ (cc (K:=K) rfl) T.n_len PySem.boot_len (ae (aa 2) ag)) ao (aW _)) (ap (aK (cA (cD (K:=K) rfl hu) (aa 1) (bC (lh rfl)) (aW _)))) bA)
  (ap (aK (aU (Ar T) hr (ae (aa 0) (ae (aa 1) (ae (aa 2) ag))))))))),?_⟩
 refine⟨_,_,.tup hf,by with_unfolding_all rfl,?_⟩
 refine aF (λz=>absurd z (by decide)) (λ_=>?_)
 refine⟨_,.inr (.of hf),?_⟩
 refine⟨_,.int m,.inr (.of hf),aV (j:=1) rfl,?_⟩
 refine⟨m,rfl,?_⟩
 refine⟨a,rows,rfl,pg,ok.l,ok.l6,λp ss H1 s1 sh nd mem ls=>?_⟩
 have sr:iq rows ss:=⟨nd,mem,ls⟩
 refine⟨_,.inl (.of sh.1),?_⟩
 rw[List.length_map]
 refine aF (λz=>?_) (λz=>?_)
 ·have z:ss.length < 2:=by have:=of_decide_eq_true z; omega
  rcases cs with ⟨_,rfl,rfl,rfl⟩ | ⟨wt,k,r,_,_,wi⟩
  ·refine⟨sz rfl,λp2 H2 g2=>?_⟩
   refine⟨.tuple [.str "within",.int 0,.none],.tuple [.str "within",.int 0,.none],aI.tup (.of (g2.sm _ _ (s1 _ _ hf))) (.cons (aI.str _) (.cons (aI.int _) (.cons aI.non .nil))),aI.tup (.of g2.at_) (.cons (aI.str _) (.cons (aI.int _) (.cons aI.non .nil))),by decide +kernel,by decide +kernel,?_⟩
   exact bh (kq _ (s1.trans g2.sm)) (by decide +kernel)
  ·exact absurd z (sr.two wi.1)
 ·have z : ¬ ss.length < 2:=λh=>z (decide_eq_true (by omega))
  rcases cs with ⟨no,_⟩ | ⟨wt,k,r,rfl,⟨l1,l2,l,hw,h1,h2,h3⟩,wi⟩
  ·exact absurd (sr.few no) z
  ·exact⟨a,f,p,wt,rows,ss,sw,m,k,r,rfl,pg.mono s1,ok,sh,sr,s1 _ _ hf,⟨l1,l2,l,s1 _ _ hw,s1 _ _ h1,s1 _ _ h2,s1 _ _ h3⟩,wi,λH2 s2=>kq H2 (s1.trans s2)⟩
theorem ir.ok{rs:List (List Int)}(h:ir rs)(l:rs.length<=12):ox rs:=by
 refine⟨λx hx y hy hp=>?_,l,λr hr=>(h.sg r hr).2.1⟩
 have b1:bo x y=true:=decide_eq_true (List.prefix_iff_eq_take.mp hp).symm
 obtain⟨i,hi,rfl⟩:=List.mem_iff_getElem.mp hx
 obtain⟨j,hj,rfl⟩:=List.mem_iff_getElem.mp hy
 rcases Nat.lt_trichotomy i j with c | c | c
 ·have:=(List.pairwise_iff_getElem.mp h.pw i j hi hj c).1
  rw[b1]at this; cases this
 ·subst c; rfl
 ·have:=(List.pairwise_iff_getElem.mp h.pw j i hj hi c).2
  rw[b1]at this; cases this
theorem x3(rs:List (List Int)):(ay rs).length=(rs.map λr=>r.length).sum:=by
 induction rs with
 | nil=>rfl
 | cons r rs ih =>
  show (bI r r.length++ay rs).length=_
  rw[List.length_append,ih]
  have:(bI r r.length).length=r.length:=by unfold bI; rw[List.length_map,List.length_range]
  rw[this]
  rfl
def dB(n:Int)(d:Int)(rs:List (List Int)):List (Int × List Int):=rs.mapIdx λk r=>(n+d*(k:Int),r)
theorem kF{n d:Int}{rs:List (List Int)}{i:Nat}{r:List Int}(h:rs[i]? = some r):(dB n d rs)[i]? = some (n+d*(i:Int),r):=by
 unfold dB
 rw[List.getElem?_mapIdx,h]
 rfl
theorem i8(n d:Int)(rs:List (List Int)):(dB n d rs).length=rs.length:=by unfold dB; rw[List.length_mapIdx]
theorem vk(n d:Int)(rs:List (List Int)):((dB n d rs).map λe=>e.2)=rs:=by
 refine List.ext_getElem? λi=>?_
 rw[List.getElem?_map]
 cases c:rs[i]? with
 | none =>
  have:=List.getElem?_eq_none_iff.mp c
  rw[List.getElem?_eq_none_iff.mpr (by rw[i8]; exact this)]
  rfl
 | some r=>rw[kF c]; rfl
theorem vm{n d:Int}{rs:List (List Int)}(h:ir rs)(l:rs.length<=12)(d1:d=1\/d = -1)(n0:20<=n)(n1:n<=2000):Es (dB n d rs):=by
 have at_ : ∀ {i:Nat} {e:Int × List Int},(dB n d rs)[i]? = some e->∃ r,rs[i]? = some r/\e=(n+d*(i:Int),r)/\i < 12:=λ{i e} he=>by
  have il:=(List.getElem?_eq_some_iff.mp he).1
  rw[i8]at il
  have hr:rs[i]? = some rs[i]:=List.getElem?_eq_getElem il
  rw[kF hr]at he
  exact⟨_,hr,(Option.some.inj he).symm,by omega⟩
 refine⟨λe he=>?_,?_,by rw[i8]; omega⟩
 ·obtain⟨i,hi⟩:=List.getElem?_of_mem he
  obtain⟨r,hr,rfl,il⟩:=at_ hi
  obtain⟨a,b,c⟩:=h.sg r (List.mem_of_getElem? hr)
  refine⟨?_,a,b,c⟩
  unfold Sg
  dsimp only
  rcases d1 with rfl | rfl <;> omega
 ·refine List.pairwise_iff_getElem.mpr λi j hi hj hij=>?_
  obtain⟨r,hr,e1,il⟩:=at_ (List.getElem?_eq_getElem hi)
  obtain⟨r',hr',e2,jl⟩:=at_ (List.getElem?_eq_getElem hj)
  rw[e1,e2]
  have i2:=(List.getElem?_eq_some_iff.mp hr)
  have j2:=(List.getElem?_eq_some_iff.mp hr')
  have n2:=List.pairwise_iff_getElem.mp h.pw i j i2.1 j2.1 hij
  rw[i2.2,j2.2]at n2
  unfold cL
  dsimp only
  rw[n2.1,n2.2,decide_eq_false (by rcases d1 with rfl | rfl <;> omega)]
  rfl
theorem oR {H H':Hp} {rows:List (List Int)} {s:Str} {m:Int} {v:V} (h:tT H H' rows s m v):((∀ k,¬ cJ (ay rows) k)/\s = "within"/\m=0/\v=.non)\/∃ wt k r,v=.ref wt/\oq H' wt k r/\ot rows s m k r:=by
 rcases h with h | ⟨k,r,nk,lr,⟨wt,l1,l2,l,rfl,hw,h1,h2,h3,_⟩,cs⟩
 ·exact .inl h
 ·refine .inr ⟨wt,k,r,rfl,⟨l1,l2,l,hw,h1,h2,h3⟩,nk,lr,cs.imp id ?_⟩
  rintro⟨a,b,c,_⟩
  exact⟨a,b,c⟩
theorem mU{H:Hp} : ∀ {ps:List Addr} {es:List (Int × List Int)},aw (λq (e:Int × List Int)=>∃ l,H q=some (.tup [.int e.1,.ref l])/\H l=some (.lst (e.2.map V.int))) ps es->cu K H (es.map dS) (ps.map V.ref)
 | [],[],_=>.nil
 | [],_ :: _,h=>by have:=h.1; cases this
 | _ :: _,[],h=>by have:=h.1; cases this
 | p :: ps,e :: es,h=>by
  obtain⟨l,h1,h2⟩:=h.head
  exact .cons (iU (s:=(p,l,e)) ⟨h1,h2⟩) (mU h.tail)
def kN(K:PySem.W.Frag):Sp:=λvs H Q _=>∃ a,vs=[.ref a]/\∃ ns:List Int,ax K H a (ns.map V.int)/\ns.length<=63/\kg 75 H/\∀ H',Q (.bl true) H'
theorem Av (T:Txt K mg t) (hBI:base.BuiltinsAt mg 75):be P w K mg base "law" 8 t.nO t.jQ ["_law_script"] (kN K):=by
 refine⟨T.r0,T.oE.kp,T.CQ,T.oE.okQ gF (λvs H Q E h=>by obtain⟨a,rfl,_⟩:=h; rfl) λcdv A outer s H vs Q E hr h=>?_⟩
 obtain⟨a,rfl,sc,h1,hc,hO,k⟩:=h
 have hu:=hr.units
 refine⟨_,(aq (aX (i:=1) gF.nd rfl (.inl rfl) (aU (Ao T) hr (ae (cT (dG (K:=K) rfl) (aa 0) cS (cR ao)) ag)))
  (aq (aX (i:=2) gF.nd rfl (.inl rfl) (cV (ae (eG rfl (bQ.of (fns:=(ak fe).names) (N:=["_law_script", "_law_rows_here", "_law_pages", "_law_table", "_law_tongue", "_law_found"]) (Nc:=["_law_row"]) (nv:=1) (caps:=[]) rfl rfl (by decide +kernel)) (dt (K:=K) rfl (aa 1)) (λ_ _ _ _=>(aB (i:=0) (show List.Nodup (["_law_row"]:List Str) by decide +kernel) rfl (Or.inl rfl) (Or.inr rfl))) (λ_ _ _ _=>dR) (λ_ _ _ _=>(bC (ae (aa 0) (ae ao ag))))) ag)))
  (aq (jo (i:=3) gF.nd rfl (.inl rfl) rfl (bQ.of (fns:=(ak fe).names) (N:=["_law_script", "_law_rows_here", "_law_pages", "_law_table", "_law_tongue", "_law_found"]) (Nc:=["_law_k", "_law_row"]) (nv:=2) (caps:=[]) rfl rfl (by decide +kernel)) (jr (K:=K) rfl rfl T.n_enumerate (ae (aa 1) ag)) (λ_ _ _ _=>(cw (K:=K) rfl (n:=2) rfl (aY (aB (i:=0) (show List.Nodup (["_law_k", "_law_row"]:List Str) by decide +kernel) rfl (Or.inl rfl) (Or.inr rfl)) (aY (aB (i:=1) (show List.Nodup (["_law_k", "_law_row"]:List Str) by decide +kernel) rfl (Or.inl rfl) (Or.inr rfl)) cv)))) (λ_ _ _ _=>dR) (λ_ _ _ _=>(bC (ae (fh (fq (K:=K) rfl) ao (aa 0)) (ae (fQ (j6 (K:=K) rfl) T.n_list PyProof.Rows.boot_list (ae (aa 1) ag)) ag)))))
  (aq (aX (i:=4) gF.nd rfl (.inl rfl) (xt (Al T) hr (ae (aa 3) ag)))
  (aq (aX (i:=5) gF.nd rfl (.inl rfl) (aU (rV T hBI) hr (ae (aa 4) ag)))
  (aq (bB (dD (dE (aU (rR T) hr (ae (aa 2) (ae (aa 5) ag))))) (ap (aK eI)) bA)
  (aq (bB (bq jL (aC (aD (K:=K) rfl) (aa 5) ao (λ_ _=>rfl)) ib (aW _)) (aq (cI (dU (K:=K) rfl PySem.F.plainAttrs_list PySem.F.slot_list_append PySem.F.type_list_append dY (aC (aD (K:=K) rfl) (aC (aD (K:=K) rfl) (aa 5) ao (λ_ _=>rfl)) ao (λ_ _=>rfl)) (ae ao ag)))
  (aq (cI (dU (K:=K) rfl PySem.F.plainAttrs_list PySem.F.slot_list_append PySem.F.type_list_append dY (aC (aD (K:=K) rfl) (aC (aD (K:=K) rfl) (aa 5) ao (λ_ _=>rfl)) ao (λ_ _=>rfl)) (ae ao ag)))
  (ap (cI (qo (K:=K) rfl PySem.F.plainAttrs_list PySem.F.slot_list_clear PySem.F.type_list_clear ze (aC (aD (K:=K) rfl) (aC (aD (K:=K) rfl) (aa 5) ao (λ_ _=>rfl)) ao (λ_ _=>rfl))))))) bA)
  (ap (aK (cB (aU (rR T) hr (ae (aa 2) (ae (aU (rV T hBI) hr (ae (aa 4) ag)) ag))) (cU (cA (cD (K:=K) rfl hu) (qq (rX T) hr (aa 4)) (aa 3) (aW _))))))))))))),?_⟩
 have tab0:bZ H 75 qS pS:=.inl hO.1
 refine⟨_,rfl,_,h1,λpc H1 g1=>?_⟩
 rw[show cF (sc.map V.int) none (some 12)=(sc.take 12).map V.int from d7 sc 12]at g1
 refine⟨pc,_,rfl,g1.lst,by rw[List.length_take]; omega,λp ps H2 s2 hp hps rws lps=>?_⟩
 obtain⟨rows,er⟩ : ∃ rows,rows=ps.map λx=>x.2:=⟨_,rfl⟩
 rw[<- er]at rws
 have lrp:rows.length=ps.length:=by rw[er,List.length_map]
 have ok:=rws.ok (by omega)
 have s02:=g1.sm.trans s2
 have atp : ∀ {j:Nat} {x:V},(ps.map λx=>V.ref x.1)[j]? = some x->∃ q∈ps,ps[j]? = some q/\x=.ref q.1:=λ{j x} h=>by
  rw[List.getElem?_map]at h
  obtain⟨q,hq,e⟩:=Option.map_eq_some_iff.mp h
  exact⟨q,List.mem_of_getElem? hq,hq,e.symm⟩
 refine⟨p,rfl,⟨_,.of hp⟩,ti (K:=K) (a:=p) (xs:=ps.map λx=>V.ref x.1) (λj ys H'=>af H2 H'/\∃ qs:List ip,ys=qs.map (λq=>V.ref q.1)/\(∀ q∈qs,gd H' q)/\(qs.map λq=>q.2.2)=rows.take j) ⟨af.refl _,[],rfl,(λq h=>nomatch h),rfl⟩ (λj ys H' _ z=>⟨.of (z.1 _ _ hp),?_⟩) (dk (by rw[List.length_map]; omega)) (λj x ys H3 N hx z hN=>?_) λys H3 pl H4 z g4=>?_⟩
 ·obtain⟨_,qs,rfl,_,e⟩:=z
  have:=congrArg List.length e
  rw[List.length_map,List.length_take]at this
  rw[List.length_map]; omega
 ·obtain⟨s3,qs,rfl,it,e⟩:=z
  obtain⟨q,hq,hqj,rfl⟩:=atp hx
  simp only [dN,if_true]
  refine⟨sz rfl,λp4 H4 g4=>hN _ _ ⟨s3.trans g4.sm,qs++[(p4,q.1,q.2)],by rw[List.map_append]; rfl,λq' hq'=>?_,?_⟩⟩
  ·rcases List.mem_append.mp hq' with h | h
   ·exact (it q' h).mono g4.sm
   ·rw[List.mem_singleton.mp h]; exact⟨g4.at_,g4.sm _ _ (s3 _ _ (hps q hq))⟩
  ·rw[List.map_append,e,List.take_add_one,er,List.getElem?_map,hqj]; rfl
 obtain⟨s3,qs,rfl,it,eqs⟩:=z
 rw[List.length_map,<- lrp,List.take_length]at eqs
 refine⟨sz rfl,λpa H5 g5=>?_⟩
 have s25:=s3.trans (g4.sm.trans g5.sm)
 have pg5:Pg H5 pa rows:=⟨pl,qs,g5.at_,g5.sm _ _ g4.at_,λq hq=>(it q hq).mono (g4.sm.trans g5.sm),eqs⟩
 have hp5:=s25 _ _ hp
 obtain⟨es,ees⟩ : ∃ es,es=dB 65 1 rows:=⟨_,rfl⟩
 have esok:Es es:=by rw[ees]; exact vm rws (by omega) (.inl rfl) (by decide) (by decide)
 have les:es.length=rows.length:=by rw[ees,i8]
 have erow:(es.map λe=>e.2)=rows:=by rw[ees]; exact vk ..
 refine⟨p,_,rfl,.of hp5,?_⟩
 refine B5 (K:=K) (a:=p) (xs:=ps.map λx=>V.ref x.1) (λi ys H'=>af H5 H'/\∃ ts:List Addr,ys=ts.map V.ref/\kt H' ts (es.take i)) ⟨af.refl _,[],rfl,aw.nil⟩ (λi ys H' hi z=>⟨.of (z.1 _ _ hp5),?_⟩) (dk (by rw[List.length_map]; omega)) (λi x ys H' HB N hx z sB hN=>?_) λys H' pr HB z gB=>?_
 ·obtain⟨_,ts,rfl,al⟩:=z
  have:=al.1
  rw[List.length_take]at this
  rw[List.length_map]
  omega
 ·obtain⟨s',ts,rfl,al⟩:=z
  obtain⟨q,hq,hqi,rfl⟩:=atp hx
  simp only [dN,if_true]
  have sAB:=s'.trans sB
  refine⟨_,.inl (.of ((s25.trans sAB) _ _ (hps q hq))),λl4 HC gC=>?_⟩
  have hri:rows[i]? = some q.2:=by rw[er,List.getElem?_map,hqi]; rfl
  have hei:es[i]? = some (65+(i:Int),q.2):=by rw[ees,kF hri,Int.one_mul]
  refine⟨sz rfl,λp5 HD gD=>hN _ _ ⟨sAB.trans (gC.sm.trans gD.sm),ts++[p5],by rw[List.map_append]; rfl,?_⟩⟩
  obtain⟨r1,r6,_⟩:=rws.sg q.2 (List.mem_of_getElem? hri)
  rw[List.take_add_one,hei]
  exact aw.app (al.imp λc e' h=>h.mono (sB.trans (gC.sm.trans gD.sm))) (aw.cons ⟨⟨l4,gD.at_,gD.sm _ _ gC.at_⟩,r1,r6⟩ aw.nil)
 obtain⟨s6,ts,rfl,al⟩:=z
 rw[List.length_map,<- lrp,<- les,List.take_length]at al
 refine λx dx hxn hdx hne=>?_
 have s5B:=s6.trans gB.sm
 obtain⟨H9,e9⟩ : ∃ H9,H9=upd (upd HB dx (.own x)) x (.ins t.bG dx []):=⟨_,rfl⟩
 have sB9:af HB H9:=λb ob q=>by rw[e9,ai (bi q hxn),ai (bi q hdx)]; exact q
 have a9:H9 x=some (.ins t.bG dx []):=by rw[e9]; exact aR
 rw[<- e9]
 clear e9
 refine⟨x,dx,pr,ts,es,rfl,a9,sB9 _ _ gB.at_,(al.imp λc e' h=>h.mono (gB.sm.trans sB9)),esok,λf HC kC ttC=>⟨rfl,?_⟩⟩
 have sBC:af HB HC:=λb ob q=>kC _ _ (bi q hxn) (sB9 _ _ q)
 have s5C:=s5B.trans sBC
 have s0C:=s02.trans (s25.trans s5C)
 have pgC:=pg5.mono s5C
 have enC:kt HC ts es:=al.imp λc e' h=>h.mono (gB.sm.trans sBC)
 have prC:=sBC _ _ gB.at_
 have tabC:=gw tab0 s0C
 have lp:(ay (es.map λe=>e.2)).length<=200:=by rw[erow,x3]; have:=rws.tot; omega
 refine⟨x,f,es,1000,rfl,ttC,Nat.le_refl _,esok,lp,tabC,λpf sw m v HD sD tabD hpf told=>?_⟩
 rw[erow]at told
 have tD:=jm tabC sD
 refine wl ?_
 refine⟨pa,pf,rows,sw,m,v,rfl,qH pgC tD,ok,hpf,oR told,λHE sE=>?_⟩
 refine aF (λz=>absurd (show (!true)=true from z) (by decide)) (λ_=>?_)
 unfold jb
 dsimp only
 have tE:=tD.trans (bK.of sE)
 have dB:=gw tabD sE
 refine kP (λσ' H'=>σ'=[some (.ref a),some (.ref p),some (.ref pa),some (.ref pr),some (.ref x),some (.ref pf)]/\bK HC H'/\bZ H' 75 qS pS) (λnx hn=>?_) λσ' HF z=>?_
 ·refine⟨_,v,.inr (.of (sE _ _ hpf)),aV (j:=2) rfl,?_⟩
  rcases told with ⟨_,_,_,rfl⟩ | ⟨k',r',nk',_,⟨wt,l1,l2,l,rfl,hw,h1',h2',h3',n1,n2,n3,n12,n13,n23⟩,_⟩
  ·exact hn _ _ ⟨rfl,tE,dB⟩
  ·have hfE:=sE _ _ hpf
   have hwE:=sE _ _ hw
   have e1:=sE _ _ h1'
   have e2:=sE _ _ h2'
   have e3:=sE _ _ h3'
   have lk6:k'.1.length<=6/\k'.2.length<=6:=by
    have one : ∀ b,bR (ay rows) b->b.length<=6:=λb hb=>by
     obtain⟨r,hr,j,hj,rfl⟩:=fx.mpr hb
     have:=ok.l6 r hr
     rw[List.length_take]
     omega
    exact⟨one _ nk'.1,one _ nk'.2.1⟩
   refine⟨_,.ref wt,.inr (.of hfE),aV (j:=2) rfl,?_⟩
   refine⟨_,.ref l1,.inr (.of hwE),aV (j:=0) rfl,?_⟩
   refine⟨.inl ⟨rfl,_,.of e1⟩,?_⟩
   refine⟨_,e1,dC (by rw[List.length_map]; omega),?_⟩
   have w1:wt≠l1:=av hwE e1 (by intro z; cases z)
   have w2:wt≠l2:=av hwE e2 (by intro z; cases z)
   have f1:pf≠l1:=av hfE e1 (by intro z; cases z)
   have f2:pf≠l2:=av hfE e2 (by intro z; cases z)
   obtain⟨HX,eX⟩ : ∃ HX,HX=upd HE l1 (.lst (k'.1.map V.int++[.int 9])):=⟨_,rfl⟩
   rw[<- eX]
   have oX : ∀ {c u},c≠l1->HE c=some u->HX c=some u:=λ{c u} n e=>by rw[eX,ai n]; exact e
   have tX:bK HC HX:=by rw[eX]; exact tE.put n1
   have tabX:bZ HX 75 qS pS:=by rw[eX]; exact kE dB e1
   clear eX
   refine⟨_,.ref wt,.inr (.of (oX f1 hfE)),aV (j:=2) rfl,?_⟩
   refine⟨_,.ref l2,.inr (.of (oX w1 hwE)),aV (j:=1) rfl,?_⟩
   refine⟨.inl ⟨rfl,_,.of (oX n12.symm e2)⟩,?_⟩
   refine⟨_,oX n12.symm e2,dC (by rw[List.length_map]; omega),?_⟩
   obtain⟨HY,eY⟩ : ∃ HY,HY=upd HX l2 (.lst (k'.2.map V.int++[.int 9])):=⟨_,rfl⟩
   rw[<- eY]
   have oY : ∀ {c u},c≠l2->HX c=some u->HY c=some u:=λ{c u} n e=>by rw[eY,ai n]; exact e
   have tY:bK HC HY:=by rw[eY]; exact tX.put n2
   have tabY:bZ HY 75 qS pS:=by rw[eY]; exact kE tabX (oX n12.symm e2)
   clear eY
   refine⟨_,.ref wt,.inr (.of (oY f2 (oX f1 hfE))),aV (j:=2) rfl,?_⟩
   refine⟨_,.ref l,.inr (.of (oY w2 (oX w1 hwE))),aV (j:=2) rfl,?_⟩
   have e3Y:=oY n23.symm (oX n13.symm e3)
   refine⟨.inl ⟨rfl,_,.of e3Y⟩,?_⟩
   refine⟨l,_,rfl,rfl,e3Y,?_⟩
   exact hn _ _ ⟨rfl,tY.put n3,kE tabY e3Y⟩
 ·obtain⟨rfl,tF,tabF⟩:=z
  refine⟨x,f,es,1000,rfl,oO ttC tF,Nat.le_refl _,esok,lp,tabF,λpf2 sw2 m2 v2 HG sG tabG hpf2 told2=>?_⟩
  rw[erow]at told2
  have tG:=tF.trans (jm tabF sG)
  refine⟨pa,pf2,rows,sw2,m2,v2,rfl,qH pgC tG,ok,hpf2,oR told2,λHI sI=>?_⟩
  have tI:=tG.trans (bK.of sI)
  refine dF ?_
  have ttI:=oO ttC tI
  refine⟨x,f.dx,_,rfl,ttI.o,rfl,?_⟩
  have nds:(es.map λe=>e.1).Nodup:=by
   refine List.pairwise_map.mpr (esok.pw.imp λ{e1 e2} z=>?_)
   unfold cL at z
   intro c
   rw[decide_eq_true c]at z
   simp at z
  refine⟨x,f,es,1000,rfl,ttI,Nat.le_refl _,nds,λp3 ps3 HJ sJ h3 al3=>?_⟩
  have tJ:=tI.trans (bK.of sJ)
  refine cy (by rfl) ⟨.list (es.map dS),.list (es.map dS),aI.lst (.of h3) ?_,aI.lst (.of (tJ _ _ prC (by intro ps z; cases z))) ?_,jf (lG gc _) (by decide),jf (lG gc _) (by decide),?_⟩
  ·exact mU al3
  ·exact mU (enC.imp λc e h=>by
    obtain⟨⟨q,z1,z2⟩,_⟩:=h
    exact⟨q,tJ _ _ z1 (by intro ps z; cases z),tJ _ _ z2 (by intro ps z; cases z)⟩)
  ·refine bh (k _) ?_
   show true=PyData.eqvAll _ _
   rw[sA mW]
   exact (decide_eq_true rfl).symm
end
end My
namespace My
open PySem L2
theorem zN{Pm:List Value->Prop}(h : ∀ _:Unit,Pm []) : ∀ us:List Value,us.length=0->Pm us
 | [],_=>h ()
theorem bN{Pm:List Value->Prop}(h : ∀ x0,Pm [x0]) : ∀ us:List Value,us.length=1->Pm us
 | x0 :: us,e=>zN (Pm:=λus=>Pm (x0 :: us)) (λ_=>h x0) us (Nat.succ.inj e)
theorem ie{Pm:List Value->Prop}(h : ∀ x0 x1,Pm [x0,x1]) : ∀ us:List Value,us.length=2->Pm us
 | x0 :: us,e=>bN (Pm:=λus=>Pm (x0 :: us)) (λx1=>h x0 x1) us (Nat.succ.inj e)
theorem fT{Pm:List Value->Prop}(h : ∀ x0 x1 x2,Pm [x0,x1,x2]) : ∀ us:List Value,us.length=3->Pm us
 | x0 :: us,e=>ie (Pm:=λus=>Pm (x0 :: us)) (λx1 x2=>h x0 x1 x2) us (Nat.succ.inj e)
theorem txt_mk{K:W.Frag}{h:Heap}{mg:Str->Option Value}(X:K.In h)(G:h.Ns mainGlobals mg)
 {a0:Addr} {od0 an0:Option Addr} {sl0:Array (Option Value)} {oc0 kV0 dc0 pm0 cd0 ct0:Value}
 {a1:Addr} {od1 an1:Option Addr} {sl1:Array (Option Value)} {oc1 kV1 dc1 pm1 cd1 ct1:Value}
 {a2:Addr} {od2 an2:Option Addr} {sl2:Array (Option Value)} {oc2 kV2 dc2 pm2 cd2 ct2:Value}
 {a3:Addr} {od3 an3:Option Addr} {sl3:Array (Option Value)} {oc3 kV3 dc3 pm3 cd3 ct3:Value}
 {a4:Addr} {od4 an4:Option Addr} {sl4:Array (Option Value)} {oc4 kV4 dc4 pm4 cd4 ct4:Value}
 {a5:Addr} {od5 an5:Option Addr} {sl5:Array (Option Value)} {oc5 kV5 dc5 pm5 cd5 ct5:Value}
 {a6:Addr} {od6 an6:Option Addr} {sl6:Array (Option Value)} {oc6 kV6 dc6 pm6 cd6 ct6:Value}
 {a7:Addr} {od7 an7:Option Addr} {sl7:Array (Option Value)} {oc7 kV7 dc7 pm7 cd7 ct7:Value}
 {a8:Addr} {od8 an8:Option Addr} {sl8:Array (Option Value)} {oc8 kV8 dc8 pm8 ct8:Value}
 {a9:Addr} {od9 an9:Option Addr} {sl9:Array (Option Value)} {oc9 kV9 dc9 pm9 cd9 ct9:Value}
 {a10:Addr} {od10 an10:Option Addr} {sl10:Array (Option Value)} {oc10 kV10 dc10 pm10 cd10 ct10:Value}
 {a11:Addr} {od11 an11:Option Addr} {sl11:Array (Option Value)} {oc11 kV11 dc11 pm11 cd11 ct11:Value}
 {a12:Addr} {od12 an12:Option Addr} {sl12:Array (Option Value)} {oc12 kV12 dc12 pm12 cd12 ct12:Value}
 {a13:Addr} {od13 an13:Option Addr} {sl13:Array (Option Value)} {oc13 kV13 dc13 pm13 cd13 ct13:Value}
 {a14:Addr} {od14 an14:Option Addr} {sl14:Array (Option Value)} {oc14 kV14 dc14 pm14 cd14 ct14:Value}
 {a15:Addr} {od15 an15:Option Addr} {sl15:Array (Option Value)} {oc15 kV15 dc15 pm15 cd15 ct15:Value}
 {a16:Addr} {od16 an16:Option Addr} {sl16:Array (Option Value)} {oc16 kV16 dc16 pm16 cd16 ct16:Value}
 {a17:Addr} {od17 an17:Option Addr} {sl17:Array (Option Value)} {oc17 kV17 dc17 pm17 cd17 ct17:Value}
 {a18:Addr} {od18 an18:Option Addr} {sl18:Array (Option Value)} {oc18 kV18 dc18 pm18 cd18 ct18:Value}
 {a19:Addr} {od19 an19:Option Addr} {sl19:Array (Option Value)} {oc19 kV19 dc19 pm19 cd19 ct19:Value}
 {a20:Addr} {od20 an20:Option Addr} {sl20:Array (Option Value)} {oc20 kV20 dc20 pm20 cd20 ct20:Value}
 {ccTableTongue:Addr}
 {a21:Addr} {od21 an21:Option Addr} {sl21:Array (Option Value)} {oc21 kV21 dc21 pm21 cd21 ct21:Value}
 {a22:Addr} {od22 an22:Option Addr} {sl22:Array (Option Value)} {oc22 kV22 dc22 pm22 cd22 ct22:Value}
 {a23:Addr} {od23 an23:Option Addr} {sl23:Array (Option Value)} {oc23 kV23 dc23 pm23 cd23 ct23:Value}
 {a24:Addr} {od24 an24:Option Addr} {sl24:Array (Option Value)} {oc24 kV24 dc24 pm24 cd24 ct24:Value}
 {a25:Addr} {od25 an25:Option Addr} {sl25:Array (Option Value)} {oc25 kV25 dc25 pm25 cd25 ct25:Value}
 {a26:Addr} {od26 an26:Option Addr} {sl26:Array (Option Value)} {oc26 kV26 dc26 pm26 cd26 ct26:Value}
 {a27:Addr} {od27 an27:Option Addr} {sl27:Array (Option Value)} {oc27 kV27 dc27 pm27 cd27 ct27:Value}
 {a28:Addr} {od28 an28:Option Addr} {sl28:Array (Option Value)} {oc28 kV28 dc28 pm28 cd28 ct28:Value}
 {a29:Addr} {od29 an29:Option Addr} {sl29:Array (Option Value)} {oc29 kV29 dc29 pm29 cd29 ct29:Value}
 {a30:Addr} {od30 an30:Option Addr} {sl30:Array (Option Value)} {oc30 kV30 dc30 pm30 cd30 ct30:Value}
 {a31:Addr} {od31 an31:Option Addr} {sl31:Array (Option Value)} {oc31 kV31 dc31 pm31 cd31 ct31:Value}
 {u0:Tok}
 {u1:Tok}
 {u2:Tok}
 {u3:Tok}
 {u4:Tok}
 {u5:Tok}
 {u6:Tok}
 {u7:Tok}
 {u8:Tok}
 (h0a:W.nsIn K mainGlobals "steps_of" = some (some (.ref a0)))
 (h0l:K.lookup a0=some ⟨oc0,od0,.func (W.fnOf "steps_of" "steps_of" (aP gO) (aJ gO) (ak gO) .none kV0 dc0 pm0 an0 cd0 ct0),sl0⟩)
 (h0c:W.codeIn K cd0 "steps_of" = true)
 (h0k:W.keepIn K (.ref a0)=true)
 (h1a:W.nsIn K mainGlobals "apart_behind" = some (some (.ref a1)))
 (h1l:K.lookup a1=some ⟨oc1,od1,.func (W.fnOf "apart_behind" "apart_behind" (aP hU) (aJ hU) (ak hU) .none kV1 dc1 pm1 an1 cd1 ct1),sl1⟩)
 (h1c:W.codeIn K cd1 "apart_behind" = true)
 (h1k:W.keepIn K (.ref a1)=true)
 (h2a:W.nsIn K mainGlobals "apart_of" = some (some (.ref a2)))
 (h2l:K.lookup a2=some ⟨oc2,od2,.func (W.fnOf "apart_of" "apart_of" (aP hJ) (aJ hJ) (ak hJ) .none kV2 dc2 pm2 an2 cd2 ct2),sl2⟩)
 (h2c:W.codeIn K cd2 "apart_of" = true)
 (h2k:W.keepIn K (.ref a2)=true)
 (h3a:W.nsIn K mainGlobals "ahead_of" = some (some (.ref a3)))
 (h3l:K.lookup a3=some ⟨oc3,od3,.func (W.fnOf "ahead_of" "ahead_of" (aP hV) (aJ hV) (ak hV) .none kV3 dc3 pm3 an3 cd3 ct3),sl3⟩)
 (h3c:W.codeIn K cd3 "ahead_of" = true)
 (h3k:W.keepIn K (.ref a3)=true)
 (h4a:W.nsIn K mainGlobals "farthest" = some (some (.ref a4)))
 (h4l:K.lookup a4=some ⟨oc4,od4,.func (W.fnOf "farthest" "farthest" (aP ff) (aJ ff) (ak ff) .none kV4 dc4 pm4 an4 cd4 ct4),sl4⟩)
 (h4c:W.codeIn K cd4 "farthest" = true)
 (h4k:W.keepIn K (.ref a4)=true)
 (h5a:W.nsIn K mainGlobals "row_apart" = some (some (.ref a5)))
 (h5l:K.lookup a5=some ⟨oc5,od5,.func (W.fnOf "row_apart" "row_apart" (aP gP) (aJ gP) (ak gP) .none kV5 dc5 pm5 an5 cd5 ct5),sl5⟩)
 (h5c:W.codeIn K cd5 "row_apart" = true)
 (h5k:W.keepIn K (.ref a5)=true)
 (h6a:W.nsIn K mainGlobals "trip_from" = some (some (.ref a6)))
 (h6l:K.lookup a6=some ⟨oc6,od6,.func (W.fnOf "trip_from" "trip_from" (aP fN) (aJ fN) (ak fN) .none kV6 dc6 pm6 an6 cd6 ct6),sl6⟩)
 (h6c:W.codeIn K cd6 "trip_from" = true)
 (h6k:W.keepIn K (.ref a6)=true)
 (h7a:W.nsIn K mainGlobals "witness" = some (some (.ref a7)))
 (h7l:K.lookup a7=some ⟨oc7,od7,.func (W.fnOf "witness" "witness" (aP gN) (aJ gN) (ak gN) .none kV7 dc7 pm7 an7 cd7 ct7),sl7⟩)
 (h7c:W.codeIn K cd7 "witness" = true)
 (h7k:W.keepIn K (.ref a7)=true)
 (h8a:W.nsIn K mainGlobals "slack" = some (some (.ref a8)))
 (h8l:K.lookup a8=some ⟨oc8,od8,.func (W.fnOf "slack" "slack" (aP eE) (aJ eE) (ak eE) .none kV8 dc8 pm8 an8 (.ref 77) ct8),sl8⟩)
 (h8c:W.codeIn K (.ref 77) "slack" = true)
 (xt_h8t:W.codeHdIn K 77 75=true)
 (h8k:W.keepIn K (.ref a8)=true)
 (h9a:W.nsIn K mainGlobals "begins" = some (some (.ref a9)))
 (h9l:K.lookup a9=some ⟨oc9,od9,.func (W.fnOf "begins" "begins" (aP hG) (aJ hG) (ak hG) .none kV9 dc9 pm9 an9 cd9 ct9),sl9⟩)
 (h9c:W.codeIn K cd9 "begins" = true)
 (h9k:W.keepIn K (.ref a9)=true)
 (h10a:W.nsIn K mainGlobals "is_number" = some (some (.ref a10)))
 (h10l:K.lookup a10=some ⟨oc10,od10,.func (W.fnOf "is_number" "is_number" (aP gU) (aJ gU) (ak gU) .none kV10 dc10 pm10 an10 cd10 ct10),sl10⟩)
 (h10c:W.codeIn K cd10 "is_number" = true)
 (h10k:W.keepIn K (.ref a10)=true)
 (h11a:W.nsIn K mainGlobals "is_byte" = some (some (.ref a11)))
 (h11l:K.lookup a11=some ⟨oc11,od11,.func (W.fnOf "is_byte" "is_byte" (aP gY) (aJ gY) (ak gY) .none kV11 dc11 pm11 an11 cd11 ct11),sl11⟩)
 (h11c:W.codeIn K cd11 "is_byte" = true)
 (h11k:W.keepIn K (.ref a11)=true)
 (h12a:W.nsIn K mainGlobals "is_head" = some (some (.ref a12)))
 (h12l:K.lookup a12=some ⟨oc12,od12,.func (W.fnOf "is_head" "is_head" (aP gW) (aJ gW) (ak gW) .none kV12 dc12 pm12 an12 cd12 ct12),sl12⟩)
 (h12c:W.codeIn K cd12 "is_head" = true)
 (h12k:W.keepIn K (.ref a12)=true)
 (h13a:W.nsIn K mainGlobals "is_tail" = some (some (.ref a13)))
 (h13l:K.lookup a13=some ⟨oc13,od13,.func (W.fnOf "is_tail" "is_tail" (aP gQ) (aJ gQ) (ak gQ) .none kV13 dc13 pm13 an13 cd13 ct13),sl13⟩)
 (h13c:W.codeIn K cd13 "is_tail" = true)
 (h13k:W.keepIn K (.ref a13)=true)
 (h14a:W.nsIn K mainGlobals "is_seen_byte" = some (some (.ref a14)))
 (h14l:K.lookup a14=some ⟨oc14,od14,.func (W.fnOf "is_seen_byte" "is_seen_byte" (aP gT) (aJ gT) (ak gT) .none kV14 dc14 pm14 an14 cd14 ct14),sl14⟩)
 (h14c:W.codeIn K cd14 "is_seen_byte" = true)
 (h14k:W.keepIn K (.ref a14)=true)
 (h15a:W.nsIn K mainGlobals "is_sign" = some (some (.ref a15)))
 (h15l:K.lookup a15=some ⟨oc15,od15,.func (W.fnOf "is_sign" "is_sign" (aP gR) (aJ gR) (ak gR) .none kV15 dc15 pm15 an15 cd15 ct15),sl15⟩)
 (h15c:W.codeIn K cd15 "is_sign" = true)
 (h15k:W.keepIn K (.ref a15)=true)
 (h16a:W.nsIn K mainGlobals "is_row" = some (some (.ref a16)))
 (h16l:K.lookup a16=some ⟨oc16,od16,.func (W.fnOf "is_row" "is_row" (aP fO) (aJ fO) (ak fO) .none kV16 dc16 pm16 an16 cd16 ct16),sl16⟩)
 (h16c:W.codeIn K cd16 "is_row" = true)
 (h16k:W.keepIn K (.ref a16)=true)
 (h17a:W.nsIn K mainGlobals "is_entry" = some (some (.ref a17)))
 (h17l:K.lookup a17=some ⟨oc17,od17,.func (W.fnOf "is_entry" "is_entry" (aP gX) (aJ gX) (ak gX) .none kV17 dc17 pm17 an17 cd17 ct17),sl17⟩)
 (h17c:W.codeIn K cd17 "is_entry" = true)
 (h17k:W.keepIn K (.ref a17)=true)
 (h18a:W.nsIn K mainGlobals "collide" = some (some (.ref a18)))
 (h18l:K.lookup a18=some ⟨oc18,od18,.func (W.fnOf "collide" "collide" (aP gZ) (aJ gZ) (ak gZ) .none kV18 dc18 pm18 an18 cd18 ct18),sl18⟩)
 (h18c:W.codeIn K cd18 "collide" = true)
 (h18k:W.keepIn K (.ref a18)=true)
 (h19a:W.nsIn K mainGlobals "check_table" = some (some (.ref a19)))
 (h19l:K.lookup a19=some ⟨oc19,od19,.func (W.fnOf "check_table" "check_table" (aP hE) (aJ hE) (ak hE) .none kV19 dc19 pm19 an19 cd19 ct19),sl19⟩)
 (h19c:W.codeIn K cd19 "check_table" = true)
 (h19k:W.keepIn K (.ref a19)=true)
 (nj:W.nsIn K mainGlobals "TableTongue" = some (some (.ref ccTableTongue)))
 (jZ:W.plainGet K ccTableTongue Str.empty=true)
 (j5:W.hasDictIn K ccTableTongue=true)
 (j4:W.plainOver K ccTableTongue=true)
 (jY:W.findIn K (.ref ccTableTongue) "__setattr__" = some (some (.builtin "object.__setattr__")))
 (m9:W.makesIn K ccTableTongue=true)
 (ni:W.keepIn K (.ref ccTableTongue)=true)
 (mZ:W.findIn K (.ref ccTableTongue) "__class__" = some (some (.builtin "object.__class__")))
 (mY:W.specialIn K (.builtin "object.__class__") "__get__" = some (some (.builtin "getset_descriptor.__get__")))
 (mX:W.takesIn K (.builtin "object.__class__")=some true)
 (cw_TableTongue:W.mroIn K ccTableTongue (.type "object")=some true)
 (m8:W.findIn K (.ref ccTableTongue) "rest_by_row" = some none)
 (m7:W.findIn K (.ref ccTableTongue) "row_by_sign" = some none)
 (m5:W.findIn K (.ref ccTableTongue) "sign_by_row" = some none)
 (h20a:W.findIn K (.ref ccTableTongue) "__init__" = some (some (.ref a20)))
 (h20f:W.isFn K (.ref a20)=true)
 (h20l:K.lookup a20=some ⟨oc20,od20,.func (W.fnOf "__init__" "TableTongue.__init__" (aP hW) (aJ hW) (ak hW) .none kV20 dc20 pm20 an20 cd20 ct20),sl20⟩)
 (h20c:W.codeIn K cd20 "TableTongue.__init__" = true)
 (h20k:W.keepIn K (.ref a20)=true)
 (h21a:W.findIn K (.ref ccTableTongue) "enter" = some (some (.ref a21)))
 (h21f:W.isFn K (.ref a21)=true)
 (h21l:K.lookup a21=some ⟨oc21,od21,.func (W.fnOf "enter" "TableTongue.enter" (aP hX) (aJ hX) (ak hX) .none kV21 dc21 pm21 an21 cd21 ct21),sl21⟩)
 (h21c:W.codeIn K cd21 "TableTongue.enter" = true)
 (h21k:W.keepIn K (.ref a21)=true)
 (h22a:W.findIn K (.ref ccTableTongue) "rows" = some (some (.ref a22)))
 (h22f:W.isFn K (.ref a22)=true)
 (h22l:K.lookup a22=some ⟨oc22,od22,.func (W.fnOf "rows" "TableTongue.rows" (aP fP) (aJ fP) (ak fP) .none kV22 dc22 pm22 an22 cd22 ct22),sl22⟩)
 (h22c:W.codeIn K cd22 "TableTongue.rows" = true)
 (h22k:W.keepIn K (.ref a22)=true)
 (h23a:W.nsIn K mainGlobals "_law_plain" = some (some (.ref a23)))
 (h23l:K.lookup a23=some ⟨oc23,od23,.func (W.fnOf "_law_plain" "_law_plain" (aP gL) (aJ gL) (ak gL) .none kV23 dc23 pm23 an23 cd23 ct23),sl23⟩)
 (h23c:W.codeIn K cd23 "_law_plain" = true)
 (h23k:W.keepIn K (.ref a23)=true)
 (h24a:W.nsIn K mainGlobals "_law_rows" = some (some (.ref a24)))
 (h24l:K.lookup a24=some ⟨oc24,od24,.func (W.fnOf "_law_rows" "_law_rows" (aP eZ) (aJ eZ) (ak eZ) .none kV24 dc24 pm24 an24 cd24 ct24),sl24⟩)
 (h24c:W.codeIn K cd24 "_law_rows" = true)
 (h24k:W.keepIn K (.ref a24)=true)
 (h25a:W.nsIn K mainGlobals "_law_spots" = some (some (.ref a25)))
 (h25l:K.lookup a25=some ⟨oc25,od25,.func (W.fnOf "_law_spots" "_law_spots" (aP gK) (aJ gK) (ak gK) .none kV25 dc25 pm25 an25 cd25 ct25),sl25⟩)
 (h25c:W.codeIn K cd25 "_law_spots" = true)
 (h25k:W.keepIn K (.ref a25)=true)
 (h26a:W.nsIn K mainGlobals "_law_next" = some (some (.ref a26)))
 (h26l:K.lookup a26=some ⟨oc26,od26,.func (W.fnOf "_law_next" "_law_next" (aP gM) (aJ gM) (ak gM) .none kV26 dc26 pm26 an26 cd26 ct26),sl26⟩)
 (h26c:W.codeIn K cd26 "_law_next" = true)
 (h26k:W.keepIn K (.ref a26)=true)
 (h27a:W.nsIn K mainGlobals "_law_walk" = some (some (.ref a27)))
 (h27l:K.lookup a27=some ⟨oc27,od27,.func (W.fnOf "_law_walk" "_law_walk" (aP gH) (aJ gH) (ak gH) .none kV27 dc27 pm27 an27 cd27 ct27),sl27⟩)
 (h27c:W.codeIn K cd27 "_law_walk" = true)
 (h27k:W.keepIn K (.ref a27)=true)
 (h28a:W.nsIn K mainGlobals "_law_numbers" = some (some (.ref a28)))
 (h28l:K.lookup a28=some ⟨oc28,od28,.func (W.fnOf "_law_numbers" "_law_numbers" (aP fM) (aJ fM) (ak fM) .none kV28 dc28 pm28 an28 cd28 ct28),sl28⟩)
 (h28c:W.codeIn K cd28 "_law_numbers" = true)
 (h28k:W.keepIn K (.ref a28)=true)
 (h29a:W.nsIn K mainGlobals "_law_held_apart" = some (some (.ref a29)))
 (h29l:K.lookup a29=some ⟨oc29,od29,.func (W.fnOf "_law_held_apart" "_law_held_apart" (aP fb) (aJ fb) (ak fb) .none kV29 dc29 pm29 an29 cd29 ct29),sl29⟩)
 (h29c:W.codeIn K cd29 "_law_held_apart" = true)
 (h29k:W.keepIn K (.ref a29)=true)
 (h30a:W.nsIn K mainGlobals "_law_told" = some (some (.ref a30)))
 (h30l:K.lookup a30=some ⟨oc30,od30,.func (W.fnOf "_law_told" "_law_told" (aP gJ) (aJ gJ) (ak gJ) .none kV30 dc30 pm30 an30 cd30 ct30),sl30⟩)
 (h30c:W.codeIn K cd30 "_law_told" = true)
 (h30k:W.keepIn K (.ref a30)=true)
 (h31a:W.nsIn K mainGlobals "law" = some (some (.ref a31)))
 (h31l:K.lookup a31=some ⟨oc31,od31,.func (W.fnOf "law" "law" (aP fe) (aJ fe) (ak fe) .none kV31 dc31 pm31 an31 cd31 ct31),sl31⟩)
 (h31c:W.codeIn K cd31 "law" = true)
 (h31k:W.keepIn K (.ref a31)=true)
 (k0:W.nsIn K mainGlobals "FIRST_HEAD" = some (some (.int 55296 u0)))
 (k1:W.nsIn K mainGlobals "FIRST_SEEN" = some (some (.int 61184 u1)))
 (k2:W.nsIn K mainGlobals "FIRST_TAIL" = some (some (.int 56320 u2)))
 (k3:W.nsIn K mainGlobals "LAST_BYTE" = some (some (.int 255 u3)))
 (k4:W.nsIn K mainGlobals "LAST_SEEN" = some (some (.int 61439 u4)))
 (k5:W.nsIn K mainGlobals "LAST_SIGN" = some (some (.int 1114111 u5)))
 (k6:W.nsIn K mainGlobals "LAST_TAIL" = some (some (.int 57343 u6)))
 (k7:W.nsIn K mainGlobals "MOST_BYTES" = some (some (.int 6 u7)))
 (k8:W.nsIn K mainGlobals "MOST_TUPLES" = some (some (.int 64 u8)))
 (z0:W.nsIn K mainGlobals "all" = some none)
 (z1:W.nsIn K mainGlobals "any" = some none)
 (z2:W.nsIn K mainGlobals "bool" = some none)
 (z3:W.nsIn K mainGlobals "enumerate" = some none)
 (z4:W.nsIn K mainGlobals "int" = some none)
 (z5:W.nsIn K mainGlobals "isinstance" = some none)
 (z6:W.nsIn K mainGlobals "len" = some none)
 (z7:W.nsIn K mainGlobals "list" = some none)
 (z8:W.nsIn K mainGlobals "max" = some none)
 (z9:W.nsIn K mainGlobals "range" = some none)
 (z10:W.nsIn K mainGlobals "sum" = some none)
 (z11:W.nsIn K mainGlobals "tuple" = some none)
 (z12:W.nsIn K mainGlobals "zip" = some none) : ∃ t,Txt K mg t:=by
  have F0:=bc (st:=gO) h0l h0c h0k
  have b0:=F0.binds (ps:=["tongue"]) (by intro _ _ _ _ _ _ us hl; revert us; exact bN (λ_=>rfl))
  have F1:=bc (st:=hU) h1l h1c h1k
  have b1:=F1.binds (ps:=["steps", "one", "other"]) (by intro _ _ _ _ _ _ us hl; revert us; exact fT (λ_ _ _=>rfl))
  have F2:=bc (st:=hJ) h2l h2c h2k
  have b2:=F2.binds (ps:=["steps"]) (by intro _ _ _ _ _ _ us hl; revert us; exact bN (λ_=>rfl))
  have F3:=bc (st:=hV) h3l h3c h3k
  have b3:=F3.binds (ps:=["apart"]) (by intro _ _ _ _ _ _ us hl; revert us; exact bN (λ_=>rfl))
  have F4:=bc (st:=ff) h4l h4c h4k
  have b4:=F4.binds (ps:=["apart"]) (by intro _ _ _ _ _ _ us hl; revert us; exact bN (λ_=>rfl))
  have F5:=bc (st:=gP) h5l h5c h5k
  have b5:=F5.binds (ps:=["apart", "far", "pair"]) (by intro _ _ _ _ _ _ us hl; revert us; exact fT (λ_ _ _=>rfl))
  have F6:=bc (st:=fN) h6l h6c h6k
  have b6:=F6.binds (ps:=["apart", "far", "pair"]) (by intro _ _ _ _ _ _ us hl; revert us; exact fT (λ_ _ _=>rfl))
  have F7:=bc (st:=gN) h7l h7c h7k
  have b7:=F7.binds (ps:=["pair", "row"]) (by intro _ _ _ _ _ _ us hl; revert us; exact ie (λ_ _=>rfl))
  have F8:=bc (st:=eE) h8l h8c h8k
  have b8:=F8.binds (ps:=["tongue"]) (by intro _ _ _ _ _ _ us hl; revert us; exact bN (λ_=>rfl))
  have F9:=bc (st:=hG) h9l h9c h9k
  have b9:=F9.binds (ps:=["one", "other"]) (by intro _ _ _ _ _ _ us hl; revert us; exact ie (λ_ _=>rfl))
  have F10:=bc (st:=gU) h10l h10c h10k
  have b10:=F10.binds (ps:=["thing"]) (by intro _ _ _ _ _ _ us hl; revert us; exact bN (λ_=>rfl))
  have F11:=bc (st:=gY) h11l h11c h11k
  have b11:=F11.binds (ps:=["thing"]) (by intro _ _ _ _ _ _ us hl; revert us; exact bN (λ_=>rfl))
  have F12:=bc (st:=gW) h12l h12c h12k
  have b12:=F12.binds (ps:=["number"]) (by intro _ _ _ _ _ _ us hl; revert us; exact bN (λ_=>rfl))
  have F13:=bc (st:=gQ) h13l h13c h13k
  have b13:=F13.binds (ps:=["number"]) (by intro _ _ _ _ _ _ us hl; revert us; exact bN (λ_=>rfl))
  have F14:=bc (st:=gT) h14l h14c h14k
  have b14:=F14.binds (ps:=["thing"]) (by intro _ _ _ _ _ _ us hl; revert us; exact bN (λ_=>rfl))
  have F15:=bc (st:=gR) h15l h15c h15k
  have b15:=F15.binds (ps:=["thing"]) (by intro _ _ _ _ _ _ us hl; revert us; exact bN (λ_=>rfl))
  have F16:=bc (st:=fO) h16l h16c h16k
  have b16:=F16.binds (ps:=["thing"]) (by intro _ _ _ _ _ _ us hl; revert us; exact bN (λ_=>rfl))
  have F17:=bc (st:=gX) h17l h17c h17k
  have b17:=F17.binds (ps:=["thing"]) (by intro _ _ _ _ _ _ us hl; revert us; exact bN (λ_=>rfl))
  have F18:=bc (st:=gZ) h18l h18c h18k
  have b18:=F18.binds (ps:=["one", "other"]) (by intro _ _ _ _ _ _ us hl; revert us; exact ie (λ_ _=>rfl))
  have F19:=bc (st:=hE) h19l h19c h19k
  have b19:=F19.binds (ps:=["rows"]) (by intro _ _ _ _ _ _ us hl; revert us; exact bN (λ_=>rfl))
  have F20:=bc (st:=hW) h20l h20c h20k
  have b20:=F20.binds (ps:=["self", "rows"]) (by intro _ _ _ _ _ _ us hl; revert us; exact ie (λ_ _=>rfl))
  have F21:=bc (st:=hX) h21l h21c h21k
  have b21:=F21.binds (ps:=["self", "sign", "row"]) (by intro _ _ _ _ _ _ us hl; revert us; exact fT (λ_ _ _=>rfl))
  have F22:=bc (st:=fP) h22l h22c h22k
  have b22:=F22.binds (ps:=["self"]) (by intro _ _ _ _ _ _ us hl; revert us; exact bN (λ_=>rfl))
  have F23:=bc (st:=gL) h23l h23c h23k
  have b23:=F23.binds (ps:=["_law_found"]) (by intro _ _ _ _ _ _ us hl; revert us; exact bN (λ_=>rfl))
  have F24:=bc (st:=eZ) h24l h24c h24k
  have b24:=F24.binds (ps:=["_law_cells"]) (by intro _ _ _ _ _ _ us hl; revert us; exact bN (λ_=>rfl))
  have F25:=bc (st:=gK) h25l h25c h25k
  have b25:=F25.binds (ps:=["_law_pages"]) (by intro _ _ _ _ _ _ us hl; revert us; exact bN (λ_=>rfl))
  have F26:=bc (st:=gM) h26l h26c h26k
  have b26:=F26.binds (ps:=["_law_pages", "_law_spot", "_law_byte"]) (by intro _ _ _ _ _ _ us hl; revert us; exact fT (λ_ _ _=>rfl))
  have F27:=bc (st:=gH) h27l h27c h27k
  have b27:=F27.binds (ps:=["_law_pages", "_law_spot", "_law_row"]) (by intro _ _ _ _ _ _ us hl; revert us; exact fT (λ_ _ _=>rfl))
  have F28:=bc (st:=fM) h28l h28c h28k
  have b28:=F28.binds (ps:=["_law_found"]) (by intro _ _ _ _ _ _ us hl; revert us; exact bN (λ_=>rfl))
  have F29:=bc (st:=fb) h29l h29c h29k
  have b29:=F29.binds (ps:=["_law_pages", "_law_found", "_law_spots_here"]) (by intro _ _ _ _ _ _ us hl; revert us; exact fT (λ_ _ _=>rfl))
  have F30:=bc (st:=gJ) h30l h30c h30k
  have b30:=F30.binds (ps:=["_law_pages", "_law_found"]) (by intro _ _ _ _ _ _ us hl; revert us; exact ie (λ_ _=>rfl))
  have F31:=bc (st:=fe) h31l h31c h31k
  have b31:=F31.binds (ps:=["_law_script"]) (by intro _ _ _ _ _ _ us hl; revert us; exact bN (λ_=>rfl))
  exact⟨⟨a0,_,a1,_,a2,_,a3,_,a4,_,a5,_,a6,_,a7,_,a8,_,a9,_,a10,_,a11,_,a12,_,a13,_,a14,_,a15,_,a16,_,a17,_,a18,_,a19,_,a20,_,a21,_,a22,_,a23,_,a24,_,a25,_,a26,_,a27,_,a28,_,a29,_,a30,_,a31,_,ccTableTongue,u0,u1,u2,u3,u4,u5,u6,u7,u8⟩,⟨F0,b0,W.mg_of X G h0a,F1,b1,W.mg_of X G h1a,F2,b2,W.mg_of X G h2a,F3,b3,W.mg_of X G h3a,F4,b4,W.mg_of X G h4a,F5,b5,W.mg_of X G h5a,F6,b6,W.mg_of X G h6a,F7,b7,W.mg_of X G h7a,F8,Bz (st:=eE) h8l h8c xt_h8t,b8,W.mg_of X G h8a,F9,b9,W.mg_of X G h9a,F10,b10,W.mg_of X G h10a,F11,b11,W.mg_of X G h11a,F12,b12,W.mg_of X G h12a,F13,b13,W.mg_of X G h13a,F14,b14,W.mg_of X G h14a,F15,b15,W.mg_of X G h15a,F16,b16,W.mg_of X G h16a,F17,b17,W.mg_of X G h17a,F18,b18,W.mg_of X G h18a,F19,b19,W.mg_of X G h19a,F20,b20,F21,b21,F22,b22,F23,b23,W.mg_of X G h23a,F24,b24,W.mg_of X G h24a,F25,b25,W.mg_of X G h25a,F26,b26,W.mg_of X G h26a,F27,b27,W.mg_of X G h27a,F28,b28,W.mg_of X G h28a,F29,b29,W.mg_of X G h29a,F30,b30,W.mg_of X G h30a,F31,b31,W.mg_of X G h31a,W.mg_of X G nj,⟨jZ,j5,j4,jY⟩,⟨m9,h20a,h20f,ni⟩,⟨h21a,h21f,h21k⟩,⟨h22a,h22f,h22k⟩,m8,m7,m5,λH a dx fs e=>.ins e ⟨jZ,j5,j4,jY⟩ mZ mY mX cw_TableTongue,W.mg_of X G k0,W.mg_of X G k1,W.mg_of X G k2,W.mg_of X G k3,W.mg_of X G k4,W.mg_of X G k5,W.mg_of X G k6,W.mg_of X G k7,W.mg_of X G k8,W.mg_none_of X G z0,W.mg_none_of X G z1,W.mg_none_of X G z2,W.mg_none_of X G z3,W.mg_none_of X G z4,W.mg_none_of X G z5,W.mg_none_of X G z6,W.mg_none_of X G z7,W.mg_none_of X G z8,W.mg_none_of X G z9,W.mg_none_of X G z10,W.mg_none_of X G z11,W.mg_none_of X G z12⟩⟩
theorem walk {l:PySem.W.OpenLaw} {q:Program} {loose:List Str} {XP:(Str->Option Value)->Heap->Prop} {YP:World->Heap->Prop} {d:DefRec} {K:Params->PySem.W.Frag} (hn:l.most=some 63) (hdf:d.params.defaults=[]) (hnm:d.name = "law")
 (hY : ∀ (w:World) (h:Heap),YP w h->(K w.params).In h/\h.get? 75=some (PySem.W.tabObj #[])) (hKP : ∀ w:World,(K w.params).lookup 75=none) (hcd : ∀ w:World,PySem.W.codeHdIn (K w.params) 77 75=true)
 (F : ∀ (w:World) (mg:Str->Option Value) (h:Heap),(K w.params).In h->h.Ns mainGlobals mg->∃ t,Txt (K w.params) mg t) :
 PySem.W.WalkO q loose XP YP l.row.toRowW d [] (λf vs=>PySem.call f vs):=by
 refine L2.walk_ofT (n:=63) (k:=8) (x := "_law_script") (Pt:=75) (c:=77) (CX:=λ_=>ca) (sp:=λw=>kN (K w.params)) hn (by decide) hdf ⟨rfl,by decide,by decide⟩ hY hKP hcd (λw mg fa h KX G hmg=>?_) (λ_ _ a ns hl hO hS=>⟨a,rfl,ns,hS,hl,hO,λ_=>rfl⟩) λ_ _ _ _ _ z=>z
 obtain⟨t,T⟩:=F w mg h KX G
 rw[hnm]at hmg
 have e:=hmg.symm.trans T.r0
 cases e
 obtain⟨oc,od,kV,doc,pm,an,cdv,ct,osl,e1,lk,hcd⟩:=T.oE.ex
 refine⟨t.jQ,λs u=>?_,λbase _ _ hB=>(Av (P:=l.prog) (w:=w) (base:=base) T hB).ok⟩
 rw[e1]
 exact .of_eq rfl
end My
structure PySem.W.Fast:Prop where
 (tw10017443333306598792 tw10052498748955594850 tw10262729277467162623 tw10547355447617061176 tw10618244308571456154 tw10813678972740617554 tw10927242425131137995 tw10969393498327443766 tw11122140616520091883 tw11258291868078085141 tw11312771486377331360 tw11473316884180077339 tw11975798126162861655 tw12101344889888945739 tw12243276957696564786 tw12482167334776276914 tw12538335920983586834 tw12576983570928819552 tw12762945516680489774 tw12933593736696705965 tw13243400145263834184 tw13410940442849904830 tw13653603366218270387 tw13660671636144186563 tw1391571590158351447 tw14225291262989772534 tw14485770331693110026 tw15188925705388002222 tw15648813522258344360 tw15847750169860482999 tw15886725470215455706 tw1597867843370271274 tw16051196081016431143 tw16105234840346921711 tw16373979643427120259 tw16443072032017330429 tw16533171206791647205 tw16687258521403054443 tw16705744729037453957 tw16829997016142588934 tw16846229983073629275 tw16887787793924710038 tw18158315136287714520 tw2042872555718582464 tw2183787863365188983 tw2583990690095959064 tw2717973197917846575 tw2888683742204325147 tw3011904718892806739 tw3363282157964030379 tw3645309267354519945 tw3848443180563865510 tw4426288015594008573 tw4573960787532114820 tw4673291722165010945 tw4764179907931930560 tw4832449452819212299 tw4949274947194234016 tw5003417746253780663 tw5116527188665474650 tw5255925381197054666 tw5485237976065717690 tw5490398492856761579 tw5983827791752430786 tw6532748866201576743 tw6650176984377947133 tw6653919918311327883 tw6679615675195669796 tw6827392650874271957 tw6857677134175331727 tw7092048519260899194 tw7166941829840044763 tw7258059046541432073 tw7325843951746079755 tw7579454547784458674 tw7918180275018971507 tw7972316297097570647 tw7993732984784628791 tw8389423718848091844 tw8471476425644023168 tw8651363718504103229 tw8931113747578317488 tw8967901869921698779 tw9181510024853726390 tw9503189620889333139 tw9529945417483036464:True)
open PySem PySem.W PyProof.Rows
set_option maxRecDepth 100000 in
set_option maxHeartbeats 0 in
theorem PySem.Challenge.cw_bytetongue_k84_slack_witnessed_holds : PySem.Challenge.rw_bytetongue_k84_slack_witnessed.Holds := by
 w_on; o_law; k_head; (case hw=>w_witness2)
 k_fill
 refine My.walk (l:=PySem.Challenge.rw_bytetongue_k84_slack_witnessed) rfl rfl rfl (λw h Y=>⟨PySem.W.km_in_of Y,PySem.W.km_tabs_of Y 75 (by simp)⟩) (λw=>by kernel_rfl) (λw=>by kernel_rfl) ?F
 case F =>
  intro w mg h KX G
  refine' My.txt_mk KX G ?h0a ?h0l ?h0c ?h0k ?h1a ?h1l ?h1c ?h1k ?h2a ?h2l ?h2c ?h2k ?h3a ?h3l ?h3c ?h3k ?h4a ?h4l ?h4c ?h4k ?h5a ?h5l ?h5c ?h5k ?h6a ?h6l ?h6c ?h6k ?h7a ?h7l ?h7c ?h7k ?h8a ?h8l ?h8c ?xt_h8t ?h8k ?h9a ?h9l ?h9c ?h9k ?h10a ?h10l ?h10c ?h10k ?h11a ?h11l ?h11c ?h11k ?h12a ?h12l ?h12c ?h12k ?h13a ?h13l ?h13c ?h13k ?h14a ?h14l ?h14c ?h14k ?h15a ?h15l ?h15c ?h15k ?h16a ?h16l ?h16c ?h16k ?h17a ?h17l ?h17c ?h17k ?h18a ?h18l ?h18c ?h18k ?h19a ?h19l ?h19c ?h19k ?nj ?jZ ?j5 ?j4 ?jY ?m9 ?ni ?mZ ?mY ?mX ?cw_TableTongue ?m8 ?m7 ?m5 ?h20a ?h20f ?h20l ?h20c ?h20k ?h21a ?h21f ?h21l ?h21c ?h21k ?h22a ?h22f ?h22l ?h22c ?h22k ?h23a ?h23l ?h23c ?h23k ?h24a ?h24l ?h24c ?h24k ?h25a ?h25l ?h25c ?h25k ?h26a ?h26l ?h26c ?h26k ?h27a ?h27l ?h27c ?h27k ?h28a ?h28l ?h28c ?h28k ?h29a ?h29l ?h29c ?h29k ?h30a ?h30l ?h30c ?h30k ?h31a ?h31l ?h31c ?h31k ?k0 ?k1 ?k2 ?k3 ?k4 ?k5 ?k6 ?k7 ?k8 ?z0 ?z1 ?z2 ?z3 ?z4 ?z5 ?z6 ?z7 ?z8 ?z9 ?z10 ?z11 ?z12
  case h0a|h0l|h0c|h0k|h1a|h1l|h1c|h1k|h2a|h2l|h2c|h2k|h3a|h3l|h3c|h3k|h4a|h4l|h4c|h4k|h5a|h5l|h5c|h5k|h6a|h6l|h6c|h6k|h7a|h7l|h7c|h7k|h8a|h8l|h8c=>k_is
  (case xt_h8t=>kernel_rfl)
  case h8k|h9a|h9l|h9c|h9k|h10a|h10l|h10c|h10k|h11a|h11l|h11c|h11k|h12a|h12l|h12c|h12k|h13a|h13l|h13c|h13k|h14a|h14l|h14c|h14k|h15a|h15l|h15c|h15k|h16a|h16l|h16c|h16k|h17a|h17l|h17c|h17k|h18a|h18l|h18c|h18k|h19a|h19l|h19c|h19k|nj|jZ|j5|j4|jY|m9|ni|mZ|mY|mX|cw_TableTongue|m8|m7|m5|h20a=>k_is
  case h20f|h20l|h20c|h20k|h21a|h21f|h21l|h21c|h21k|h22a|h22f|h22l|h22c|h22k|h23a|h23l|h23c|h23k|h24a|h24l|h24c|h24k|h25a|h25l|h25c|h25k|h26a|h26l|h26c|h26k|h27a|h27l|h27c|h27k|h28a|h28l|h28c|h28k|h29a|h29l|h29c|h29k|h30a|h30l|h30c|h30k|h31a|h31l|h31c|h31k|k0|k1|k2|k3|k4|k5|k6|k7|k8|z0=>k_is
  case z1|z2|z3|z4|z5|z6|z7|z8|z9|z10|z11|z12=>k_is
