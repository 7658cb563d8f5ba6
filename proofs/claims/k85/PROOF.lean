import PyProof.Rows.All
import Wide.All
import Wide.FinOn
import KE.KDictOf
import KE.RegKIsAll
import KE.KEqDeep
import KE.KRevIter
import KE.KEqDict
import KE.RegKTryMore
import KE.KItem
import KE.KTurns
import KE.KFromBytes
import KE.KEqText
import KE.KNestM
import KE.KLam
import KE.KMinKey
import KE.KDictList
import KE.KSortAsk
import PySem.Challenge.RW_bytetongue_k85_whole_slack_is_the_greate
set_option Elab.async false
set_option linter.all false
set_option maxRecDepth 100000
namespace L2
open PySem PySem.Spec PyProof.Rows
abbrev ak:=Sum Int Str
def eJ:ak->Value->Bool
 | .inl k,v=>Value.isInt k v
 | .inr x,v=>Value.isStrOf x v
def Az(w:World):ak->Int
 | .inl k=>hashInt k
 | .inr x=>hashStr w x
theorem eI : ∀ {k:ak} {v:Value},eJ k v=true->(∃ i t,k=Sum.inl i/\v=Value.int i t)\/(∃ x t,k=Sum.inr x/\v=Value.str x t)
 | .inl i,v,h=>by
  obtain⟨t,e⟩:=Value.isInt_shape (k:=i) (v:=v) h
  exact .inl ⟨i,t,rfl,e⟩
 | .inr x,v,h=>by
  obtain⟨t,e⟩:=Value.isStrOf_shape (x:=x) (v:=v) h
  exact .inr ⟨x,t,rfl,e⟩
theorem Ay(i:Int)(t:Tok):eJ (.inl i) (.int i t)=true:=by simp[eJ,Value.isInt]
theorem Ax(x:Str)(t:Tok):eJ (.inr x) (.str x t)=true:=by simp[eJ,Value.isStrOf]
theorem Aw(a b:Int):decide ((Sum.inl a:ak)=Sum.inl b)=(a == b):=by
 by_cases e:a=b
 ·subst e; simp
 ·have h : ¬ (Sum.inl a:ak)=Sum.inl b:=λq=>e (Sum.inl.inj q)
  rw[decide_eq_false h]
  exact (beq_eq_false_iff_ne.mpr e).symm
theorem At(a b:Str):decide ((Sum.inr a:ak)=Sum.inr b)=decide (a=b):=by
 by_cases e:a=b
 ·subst e; simp
 ·have h : ¬ (Sum.inr a:ak)=Sum.inr b:=λq=>e (Sum.inr.inj q)
  rw[decide_eq_false h,decide_eq_false e]
theorem Av(a:Int)(b:Str):decide ((Sum.inl a:ak)=Sum.inr b)=false:=decide_eq_false (λq=>nomatch q)
theorem Au(a:Str)(b:Int):decide ((Sum.inr a:ak)=Sum.inl b)=false:=decide_eq_false (λq=>nomatch q)
def bL(prog:Program)(w:World):PySem.KeyKind prog w ak where
 is:=eJ
 hash:=Az w
 inj:=λv a b ha hb=>by
  rcases eI ha with ⟨i,t,rfl,rfl⟩ | ⟨x,t,rfl,rfl⟩
  ·rcases eI hb with ⟨j,u,rfl,e⟩ | ⟨y,u,rfl,e⟩
   ·injection e with e1 _; rw[e1]
   ·exact nomatch e
  ·rcases eI hb with ⟨j,u,rfl,e⟩ | ⟨y,u,rfl,e⟩
   ·exact nomatch e
   ·injection e with e1 _; rw[e1]
 byValue:=λk v h=>by
  rcases eI h with ⟨i,t,rfl,rfl⟩ | ⟨x,t,rfl,rfl⟩ <;> rfl
 pyHash:=λhv h=>by
  rcases eI hv with ⟨i,t,rfl,rfl⟩ | ⟨x,t,rfl,rfl⟩
  ·exact wpAny_pyHash_int h
  ·exact wpAny_pyHash_str h
 eqBool:=λhu hv h=>by
  rcases eI hu with ⟨i,t,rfl,rfl⟩ | ⟨x,t,rfl,rfl⟩
  ·rcases eI hv with ⟨j,u,rfl,rfl⟩ | ⟨y,u,rfl,rfl⟩
   ·rw[Aw]at h; exact wpAny_eqBool_int h
   ·rw[Av]at h; exact SeqAt.EqAt.int_str i t y u _ _ _ _ h
  ·rcases eI hv with ⟨j,u,rfl,rfl⟩ | ⟨y,u,rfl,rfl⟩
   ·rw[Au]at h; exact SeqAt.EqAt.str_int x t j u _ _ _ _ h
   ·rw[At]at h; exact wpAny_eqBool_str h
 «strs»:=λk x t v h=>by
  rcases eI h with ⟨i,u,rfl,e⟩ | ⟨y,u,rfl,e⟩
  ·exact nomatch e
  ·injection e with e1 _
   subst e1
   cases v <;> rfl
theorem zH(prog:Program)(w:World)(k:ak)(v:Value):(bL prog w).is k v=eJ k v:=rfl
theorem zI(prog:Program)(w:World)(i:Int)(t:Tok):(bL prog w).is (.inl i) (.int i t)=true:=Ay i t
theorem zG(prog:Program)(w:World)(x:Str)(t:Tok):(bL prog w).is (.inr x) (.str x t)=true:=Ax x t
inductive V where
 | non | bl (b:Bool) | int (i:Int) | str (x:Str) | byt (b:Array UInt8) | flt (b:UInt64) | ref (a:Addr) | ty (n:String)
 deriving DecidableEq
def ar:V->Value->Prop
 | .non,u=>u=Value.none
 | .bl b,u=>u=Value.bool b
 | .int i,u=>∃ t,u=Value.int i t
 | .str x,u=>∃ t,u=Value.str x t
 | .byt b,u=>∃ t,u=Value.bytes b t
 | .flt b,u=>∃ t,u=Value.float b t
 | .ref a,u=>u=Value.ref a
 | .ty n,u=>u=Value.type n
abbrev aq:List V->List Value->Prop:=Paired ar
theorem aq.length{xs:List V}{us:List Value}(r:aq xs us):xs.length=us.length:=Paired.length r
theorem aq.get : ∀ {xs:List V} {us:List Value} {i:Nat} {x:V},aq xs us->xs[i]? = some x->∃ u,us[i]? = some u/\ar x u
 | _,_,_,_,.nil,e=>by simp at e
 | _,_,0,_,.cons r _,e=>by simp at e; subst e; exact⟨_,rfl,r⟩
 | _,_,i+1,x,.cons _ t,e=>by
  obtain⟨u,h1,h2⟩:=aq.get (i:=i) (x:=x) t (by simpa using e)
  exact⟨u,by simpa using h1,h2⟩
theorem aq.append : ∀ {xs ys:List V} {us ws:List Value},aq xs us->aq ys ws->aq (xs++ys) (us++ws)
 | _,_,_,_,.nil,s=>s
 | _,_,_,_,.cons r t,s=>.cons r (aq.append t s)
theorem aq.take : ∀ {xs:List V} {us:List Value} (n:Nat),aq xs us->aq (xs.take n) (us.take n)
 | _,_,0,_=>.nil
 | _,_,_+1,.nil=>.nil
 | _,_,n+1,.cons r t=>.cons r (aq.take n t)
theorem aq.drop : ∀ {xs:List V} {us:List Value} (n:Nat),aq xs us->aq (xs.drop n) (us.drop n)
 | _,_,0,r=>r
 | _,_,_+1,.nil=>.nil
 | _,_,n+1,.cons _ t=>aq.drop n t
def bR:Option V->Option Value->Prop
 | some v,some u=>ar v u
 | none,none=>True
 | _,_=>False
def KV{κ:Type}:List (κ × V)->List (κ × Value)->Prop:=Paired λ(p:κ × V) (q:κ × Value)=>p.1=q.1/\ar p.2 q.2
def kV:ak->V
 | .inl i=>.int i
 | .inr x=>.str x
inductive HO where
 | lst (xs:List V)
 | tup (xs:List V)
 | dK (kvs:List (ak × V)) | dT (kvs:List (List ak × V))
 | set (S:Int->Bool) (n:Nat)
 | ins (C dx:Addr) (fs:List (Str × V))
 | own (x:Addr)
 | xd (fs:List (Str × V))
 | met (f x:Addr)
 | rng (lo hi:Int)
 | frz (o:Obj) (u:HO)
 | tbl (ps:Array Value)
 | ext (φ:Heap->Prop)
abbrev Hp:=Addr->Option HO
def upd(H:Hp)(a:Addr)(o:HO):Hp:=λb=>if b=a then some o else H b
theorem aN{H:Hp}{a:Addr}{o:HO}:upd H a o a=some o:=by unfold upd; rw[if_pos rfl]
theorem aj{H:Hp}{a b:Addr}{o:HO}(h:b≠a):upd H a o b=H b:=by unfold upd; rw[if_neg h]
theorem zv{H:Hp}{a b:Addr}{o u:HO}(h:H a=some o)(h':H b=some u)(d:o≠u):a≠b:=by
 intro e; subst e; rw[h]at h'; exact d (Option.some.inj h')
theorem bD{H:Hp}{a b:Addr}{o:HO}(h:H a=some o)(h':H b=none):a≠b:=by
 intro e; subst e; rw[h]at h'; cases h'
section
variable (P:Program)(w:World)
def aH(H:Hp)(h:Heap)(a:Addr):HO->Prop
 | .lst xs=>xs.length<=sizeLine/\∃ (its:List Value) (n:Nat),aq xs its/\h.get? a=some { cls:=.type "list",data:=.seq its.toArray n }
 | .tup xs=>xs.length<=sizeLine/\∃ its:List Value,aq xs its/\IsTup h a its.toArray
 | .dK kvs=>kvs.length<=sizeLine/\(a == sysModules)=false/\∃ vs,KV kvs vs/\h.DictOf (bL P w) a vs
 | .dT kvs=>kvs.length<=sizeLine/\(a == sysModules)=false/\∃ xs:List (List ak × Addr × Value),
  Paired (λ(p:List ak × V) (q:List ak × Addr × Value)=>p.1=q.1/\H q.2.1=some (.tup (p.1.map kV))/\ar p.2 q.2.2) kvs xs /\
  ∃ o es ep,h.get? a=some o/\o.ExactDict/\o.data=.dict es ep/\es.toList=xs.map (entryOfKey (tupleKind (bL P w)))/\(xs.map (·.1)).Nodup
 | .set S n=>h.SetOf (intKind P w) a S n
 | .ins C dx fs=>H dx=some (.own a)/\fs.length<=1000/\dx≠a/\h.get? a=some (W.instObj C dx) /\
  ∃ mA,h.Ns1 dx mA/\(∀ f,bR (fs.lookup f) (mA f))/\PySem.Within mA (fs.map (·.1))
 | .own _=>∃ o,h.get? a=some o
 | .xd fs=>∃ mA,h.Ns1 a mA/\∀ f,bR (fs.lookup f) (mA f)
 | .rng lo hi=>∃ t u v,h.get? a=some { cls:=.type "range",data:=.fields #[.int lo t,.int hi u,.int 1 v] }
 | .frz o u=>h.get? a=some o/\aH H h a u
 | .tbl ps=>h.get? a=some { cls:=.none,data:=.fields ps }
 | .met f x=>h.get? a=some (W.methodObj (.ref f) (.ref x))
 | .ext φ=>φ h/\(∃ o,h.get? a=some o)/\∀ h1 h2:Heap,φ h1->(∀ o,h1.get? a=some o->h2.get? a=some o)->φ h2
def aM(H:Hp)(h:Heap):Prop:=∀ a o,H a=some o->aH P w H h a o
end
section
variable {P:Program}{w:World}{H H':Hp}{h h':Heap}{a:Addr}{o:HO}
theorem aH.lt(x:aH P w H h a o):a < h.objs.size:=by
 cases o with
 | lst xs=>obtain⟨_,_,_,_,e⟩:=x; exact Heap.lt_size e
 | tup xs=>obtain⟨_,_,_,p⟩:=x; exact p.lt
 | dK kvs=>obtain⟨_,_,_,_,o,_,_,e,_⟩:=x; exact Heap.lt_size e
 | dT kvs=>obtain⟨_,_,_,_,o,_,_,e,_⟩:=x; exact Heap.lt_size e
 | set S n=>obtain⟨o,_,_,_,e,_⟩:=x; exact Heap.lt_size e
 | ins C dx fs=>obtain⟨_,_,_,e,_⟩:=x; exact Heap.lt_size e
 | own y=>obtain⟨_,e⟩:=x; exact Heap.lt_size e
 | xd fs=>obtain⟨_,⟨_,_,_,e,_⟩,_⟩:=x; exact Heap.lt_size e
 | rng lo hi=>obtain⟨_,_,_,e⟩:=x; exact Heap.lt_size e
 | frz ob u=>obtain⟨e,_⟩:=x; exact Heap.lt_size e
 | tbl ps=>exact Heap.lt_size (show h.get? a=some _ from x)
 | met f y=>exact Heap.lt_size (show h.get? a=some _ from x)
 | ext φ=>obtain⟨_,⟨_,e⟩,_⟩:=x; exact Heap.lt_size e
theorem Paired.mapP{α β:Type}{F G:α->β->Prop} : ∀ {l₁:List α} {l₂:List β},Paired F l₁ l₂->(∀ a b,F a b->G a b)->Paired G l₁ l₂
 | _,_,.nil,_=>.nil
 | _,_,.cons r t,f=>.cons (f _ _ r) (Paired.mapP t f)
theorem aH.stay(x:aH P w H h a o)(k : ∀ b u,(b=a\/H b=some (.own a))->h.get? b=some u->h'.get? b=some u)
 (ho : ∀ b,H b=some (.own a)->H' b=some (.own a)) (ht : ∀ b xs,H b=some (.tup xs)->H' b=some (.tup xs)):aH P w H' h' a o:=by
 induction o with
 | lst xs=>obtain⟨z,its,n,r,e⟩:=x; exact⟨z,its,n,r,k _ _ (.inl rfl) e⟩
 | tup xs=>obtain⟨z,its,r,ob,e,c⟩:=x; exact⟨z,its,r,ob,k _ _ (.inl rfl) e,c⟩
 | dK kvs=>obtain⟨z,y,vs,r,ob,es,ep,e,c⟩:=x; exact⟨z,y,vs,r,ob,es,ep,k _ _ (.inl rfl) e,c⟩
 | dT kvs =>
  obtain⟨z,y,xs,r,ob,es,ep,e,c⟩:=x
  exact⟨z,y,xs,Paired.mapP r λp q z=>⟨z.1,ht _ _ z.2.1,z.2.2⟩,ob,es,ep,k _ _ (.inl rfl) e,c⟩
 | set S n=>obtain⟨ob,es,ep,t,e,c⟩:=x; exact⟨ob,es,ep,t,k _ _ (.inl rfl) e,c⟩
 | ins C dx fs =>
  obtain⟨d,z,ne,e,mA,⟨od,es,ep,e2,c⟩,r⟩:=x
  exact⟨ho _ d,z,ne,k _ _ (.inl rfl) e,mA,⟨od,es,ep,k _ _ (.inr d) e2,c⟩,r⟩
 | own y=>obtain⟨ob,e⟩:=x; exact⟨ob,k _ _ (.inl rfl) e⟩
 | xd fs=>obtain⟨mA,⟨od,es,ep,e,c⟩,r⟩:=x; exact⟨mA,⟨od,es,ep,k _ _ (.inl rfl) e,c⟩,r⟩
 | rng lo hi=>obtain⟨t,u,v,e⟩:=x; exact⟨t,u,v,k _ _ (.inl rfl) e⟩
 | frz ob u ih=>obtain⟨e,q⟩:=x; exact⟨k _ _ (.inl rfl) e,ih q⟩
 | tbl ps =>
  have e:h.get? a=some { cls:=.none,data:=.fields ps }:=x
  show h'.get? a=some { cls:=.none,data:=.fields ps }
  exact k a _ (.inl rfl) e
 | met f y =>
  have e:h.get? a=some (W.methodObj (.ref f) (.ref y)):=x
  show h'.get? a=some (W.methodObj (.ref f) (.ref y))
  exact k a _ (.inl rfl) e
 | ext φ=>obtain⟨p,⟨o,e⟩,st⟩:=x; exact⟨st _ _ p λo q=>k _ _ (.inl rfl) q,⟨o,k _ _ (.inl rfl) e⟩,st⟩
theorem aM.lt(x:aM P w H h)(e:H a=some o):a < h.objs.size:=(x a o e).lt
theorem aM.fresh(x:aM P w H h)(e:h.objs.size<=a):H a=none:=by
 cases q:H a with
 | none=>rfl
 | some u=>exact absurd (Nat.lt_of_lt_of_le (x.lt q) e) (Nat.lt_irrefl _)
theorem aM.kept(x:aM P w H h)(k : ∀ b u,h.get? b=some u->h'.get? b=some u):aM P w H h':=λa o e =>
 (x a o e).stay (λb u _ q=>k b u q) (λ_ q=>q) λ_ _ q=>q
theorem aM.laid(x:aM P w H h)(k : ∀ b u,h.get? b=some u->h'.get? b=some u)(hp:h.objs.size<=a)(new:aH P w (upd H a o) h' a o):aM P w (upd H a o) h':=λb u e=>by
 have hn:=x.fresh hp
 by_cases hb:b=a
 ·subst hb; rw[aN]at e; cases e; exact new
 ·rw[aj hb]at e
  exact (x b u e).stay (λc v _ q=>k c v q) (λc q=>by rw[aj (bD q hn)]; exact q) λc xs q=>by rw[aj (bD q hn)]; exact q
end
def Rd(H:Hp)(a:Addr)(u:HO):Prop:=H a=some u\/∃ o,H a=some (.frz o u)
theorem Rd.ok{P:Program}{w:World}{H:Hp}{h:Heap}{a:Addr}{u:HO}(r:Rd H a u)(x:aM P w H h):aH P w H h a u:=by
 rcases r with r | ⟨o,r⟩
 ·exact x a u r
 ·obtain⟨_,q⟩:=x a _ r
  exact q
def jp:Option HO->Prop
 | some (.lst _)=>True
 | some (.dK _)=>True
 | some (.dT _)=>True
 | some (.set _ _)=>True
 | some (.ins _ _ _)=>True
 | some (.ext _)=>True
 | _=>False
section
variable {P:Program}{w:World}{H:Hp}{h h':Heap}{x e:Addr}{o':HO}
theorem aM.write(ok:aM P w H h)(mu:jp (H x))(he:e=x\/H e=some (.own x))(k : ∀ b u,b≠e->h.get? b=some u->h'.get? b=some u)(heo : ∃ u,h'.get? e=some u)
 (new:aH P w (upd H x o') h' x o'):aM P w (upd H x o') h':=λb u q=>by
 have nown : ∀ c y,H c=some (.own y)->c≠x:=λc y r z=>by subst z; rw[r]at mu; exact mu
 have ntup : ∀ c xs,H c=some (.tup xs)->c≠x:=λc xs r z=>by subst z; rw[r]at mu; exact mu
 by_cases hb:b=x
 ·subst hb; rw[aN]at q; cases q; exact new
 ·rw[aj hb]at q
  by_cases hbe:b=e
  ·have q':H b=some (.own x):=by
    rcases he with z | z
    ·exact absurd (hbe.trans z) hb
    ·rw[hbe]; exact z
   rw[q]at q'; cases q'
   obtain⟨v,hv⟩:=heo
   exact⟨v,by rw[hbe]; exact hv⟩
  ·refine (ok b u q).stay (λc v hc r=>k c v ?_ r) (λc r=>by rw[aj (nown c b r)]; exact r) λc xs r=>by rw[aj (ntup c xs r)]; exact r
   rcases hc with rfl | hc
   ·exact hbe
   ·rintro rfl
    rcases he with z | z
    ·exact nown c b hc z
    ·rw[hc]at z; cases z; exact hb rfl
end
structure Un (fs ex:List Addr) (H H':Hp) (h h':Heap):Prop where
 keep : ∀ b o,h.get? b=some o->H b=none->b∉fs->b∉ex->h'.get? b=some o
 slot : ∀ b o,h.get? b=some o->H b=none->b∈fs->b∉ex->∃ sl,h'.get? b=some { o with slots:=sl }
 free : ∀ b o,h.get? b=some o->H b=none->b∉ex->H' b=none
 there : ∀ b o,h.get? b=some o->b∉ex->∃ o',h'.get? b=some o'
 tups : ∀ b xs,H b=some (.tup xs)->H' b=some (.tup xs)
 frzs : ∀ b o u,H b=some (.frz o u)->H' b=some (.frz o u)
 tbls : ∀ b ps,H b=some (.tbl ps)->∃ more,H' b=some (.tbl (ps++more))
section
variable {fs fs' ex ex':List Addr}{H H1 H2:Hp}{h h1 h2 h':Heap}{a x e:Addr}{o:HO}
theorem Un.any(u:Un fs ex H H1 h h1){b:Addr}{ob:Obj}(q:h.get? b=some ob)(n:H b=none)(hx:b∉ex) : ∃ sl,h1.get? b=some { ob with slots:=sl }:=by
 by_cases hb:b∈fs
 ·exact u.slot b ob q n hb hx
 ·exact⟨ob.slots,u.keep b ob q n hb hx⟩
theorem Un.kept(k : ∀ b u,h.get? b=some u->h'.get? b=some u):Un fs ex H H h h' :=
 ⟨λb ob q _ _ _=>k b ob q,λb ob q _ _ _=>⟨ob.slots,k b ob q⟩,λ_ _ _ n _=>n,λb ob q _=>⟨ob,k b ob q⟩,λ_ _ q=>q,λ_ _ _ q=>q,λ_ ps q=>⟨#[],by rw[q]; simp⟩⟩
theorem Un.refl:Un fs ex H H h h:=Un.kept λ_ _ q=>q
theorem Un.laid(k : ∀ b u,h.get? b=some u->h'.get? b=some u)(hp:h.objs.size<=a)(hn:H a=none):Un fs ex H (upd H a o) h h' where
 keep:=λb u q _ _ _=>k b u q
 slot:=λb u q _ _ _=>⟨u.slots,k b u q⟩
 free:=λb u q n _=>by rw[aj (Nat.ne_of_lt (Nat.lt_of_lt_of_le (Heap.lt_size q) hp))]; exact n
 there:=λb u q _=>⟨u,k b u q⟩
 tups:=λb xs q=>by rw[aj (bD q hn)]; exact q
 frzs:=λb u xs q=>by rw[aj (bD q hn)]; exact q
 tbls:=λb ps q=>⟨#[],by rw[aj (bD q hn),q]; simp⟩
theorem Un.write(mu:jp (H x))(he:e=x\/H e=some (.own x))(k : ∀ b u,b≠e->h.get? b=some u->h'.get? b=some u)(heo : ∃ u,h'.get? e=some u):Un fs ex H (upd H x o) h h':=by
 have hx : ∀ b,H b=none->b≠x:=λb n z=>by subst z; rw[n]at mu; exact mu
 have hb : ∀ b,H b=none->b≠e:=λb n z=>by
  subst z
  rcases he with r | r
  ·exact hx b n r
  ·rw[n]at r; cases r
 have hm : ∀ b u,H b=some u->¬ jp (some u)->b≠x:=λb u q nm z=>by subst z; rw[q]at mu; exact nm mu
 refine⟨λb u q n _ _=>k b u (hb b n) q,λb u q n _ _=>⟨u.slots,k b u (hb b n) q⟩,λb u q n _=>by rw[aj (hx b n)]; exact n,λb u q _=>?_,
  λb xs q=>by rw[aj (hm b _ q λz=>z)]; exact q,λb u xs q=>by rw[aj (hm b _ q λz=>z)]; exact q,λb ps q=>⟨#[],by rw[aj (hm b _ q λz=>z),q]; simp⟩⟩
 by_cases hbe:b=e
 ·subst hbe; exact heo
 ·exact⟨u,k b u hbe q⟩
end
def ju(h:Heap)(H:Hp):List Addr:=(List.range h.objs.size).filter λa=>(H a).isSome
def cF(h:Heap)(H:Hp):Heap:=W.hideAll h (ju h H)
theorem sU(h:Heap)(H:Hp):(cF h H).objs.size=h.objs.size:=W.hideAll_size _ _
theorem sV{h:Heap}{H:Hp}{b:Addr}{o:Obj}(e:h.get? b=some o)(n:H b=none):(cF h H).get? b=some o :=
 W.hideAll_get _ e λhm=>by
  have q:(H b).isSome=true:=(List.mem_filter.mp hm).2
  rw[n]at q; simp at q
theorem rS{h:Heap}{H:Hp}{b:Addr}{o:Obj}(e:(cF h H).get? b=some o):h.get? b=some o/\H b=none:=by
 have e':h.get? b=some o:=W.of_hideAll (ju h H) e
 refine⟨e',?_⟩
 cases q:H b with
 | none=>rfl
 | some x =>
  have hm:b∈ju h H:=List.mem_filter.mpr ⟨List.mem_range.mpr (Heap.lt_size e'),by simp[q]⟩
  have z:(cF h H).get? b=none:=W.hideAll_none (ju h H) hm
  rw[z]at e; cases e
def DY(g h:Heap)(L:Addr):List (Addr × Obj):=(List.range h.objs.size).filterMap λa=>if a=L\/(g.get? a).isSome=true then none else (h.get? a).map λo=>(a,o)
def rest(g h:Heap)(L d:Addr):List (Addr × Obj):=(DY g h L).filter λp=>decide (p.1≠d)
structure Mod (K:W.Frag) (mg:Str->Option Value) (base:Heap):Prop where
 kin:K.In base
 glob:base.Ns mainGlobals mg
 blt : ∃ mb,base.Ns builtinsNs mb/\∀ x:Str,x ≠ "__name__"->mb x=bootBuiltins x
 nolimit:base.NoLimit
structure Cx where
 prog:Program
 w:World
 K:W.Frag
 mg:Str->Option Value
 base:Heap
 A:Around
 N:List Str
 s₀:Shared
 H₀:Hp
 env:Env
 outer:List Env
 stack:List Env
 ex:List Addr
 fn:Str->Bool
 calm:Bool
 pn:List (Addr × Obj)
 xe:Value->Shared->Prop
def cb(l:List Env):List Addr:=l.filterMap (·.frame)
abbrev Cx.fs(X:Cx):List Addr:=cb X.outer
def iC(sc:Scope)(x:Str):Prop:=sc.names.lookup x=some .local\/sc.names.lookup x=some .cell\/sc.names.lookup x=some .free
def fE(sc:Scope)(x:Str):Prop:=sc.names.lookup x=some .local\/sc.names.lookup x=some .cell
def Ec(env:Env)(h:Heap)(m:Str->Option Value)(x:Str)(u:Value):Prop :=
 (env.kindOf x=some .local/\m x=some u)\/((env.kindOf x=some .cell\/env.kindOf x=some .free)/\∃ c,env.cells.lookup x=some c/\h.IsCell c (some u))
structure Cx.Ok (X:Cx):Prop where
 mod:Mod X.K X.mg X.base
 kind:X.env.scope.kind=.function
 glob:X.env.globals=mainGlobals
 blt:X.env.builtins=builtinsNs
 above:X.s₀.heap.objs.size<=X.env.locals
 inj : ∀ x y c,X.env.cells.lookup x=some c->X.env.cells.lookup y=some c->x=y
 has : ∀ x,(X.env.kindOf x=some .cell\/X.env.kindOf x=some .free)->∃ c,X.env.cells.lookup x=some c
 cab : ∀ x c,X.fn x=true->X.env.cells.lookup x=some c->X.s₀.heap.objs.size<=c
 hd:X.calm=true->X.A.handled=none
 frames:X.A.frames=some X.stack
 stk:X.stack=X.outer\/(X.stack=X.env :: X.outer/\X.env.frame=some X.env.locals)
 exf : ∀ b∈X.ex,b≠X.env.locals/\∀ x c,X.env.cells.lookup x=some c->c≠b
 bs : ∀ b o,X.base.get? b=some o->X.s₀.heap.get? b=some o/\X.H₀ b=none
 bsz:X.base.objs.size<=X.s₀.heap.objs.size
 noex : ∀ b o,X.base.get? b=some o->b∉X.ex
 exfs : ∀ b∈X.ex,b∉X.fs
 funs:X.s₀.heap.FunFrames X.base X.outer
 frf : ∀ b∈X.fs,X.H₀ b=none
structure ad (X:Cx) (pins:List (Addr × Obj)) (σ:List (Option V)) (H:Hp) (s:Shared):Prop where
 ok:X.Ok
 os:s.os=X.s₀.os
 bare:AllBare s.gens
 base:Un X.fs X.ex X.H₀ H X.s₀.heap s.heap
 loc : ∃ m,s.heap.Ns X.env.locals m/\∀ (i:Nat) (x:Str) (v:V),X.N[i]? = some x->σ[i]? = some (some v)->iC X.env.scope x->∃ u,ar v u/\Ec X.env s.heap m x u
 cell : ∀ x c,X.env.cells.lookup x=some c->∃ v,s.heap.IsCell c v
 free:H X.env.locals=none
 freeC : ∀ x c,X.env.cells.lookup x=some c->H c=none
 pin : ∀ p∈X.pn++pins,s.heap.get? p.1=some p.2/\H p.1=none/\p.1≠X.env.locals/\p.1∉X.fs/\∀ v,p.2.data ≠ .cell v
 hok:aM X.prog X.w H s.heap
 len:σ.length=X.N.length
section
variable {X:Cx}{pins:List (Addr × Obj)}{σ:List (Option V)}{H H':Hp}{s:Shared}{h':Heap}
theorem Cx.Ok.nofr(ok:X.Ok){b:Addr}{o:Obj}(e:X.base.get? b=some o):b∉X.fs:=λhb=>by
 have:=(ok.funs.mem hb).1
 rw[e]at this; cases this
theorem ad.bs(I:ad X pins σ H s) : ∀ b o,X.base.get? b=some o->s.heap.get? b=some o/\H b=none:=λb o e =>
 ⟨I.base.keep b o (I.ok.bs b o e).1 (I.ok.bs b o e).2 (I.ok.nofr e) (I.ok.noex b o e),I.base.free b o (I.ok.bs b o e).1 (I.ok.bs b o e).2 (I.ok.noex b o e)⟩
theorem ad.bk(I:ad X pins σ H s) : ∀ b o,X.base.get? b=some o->s.heap.get? b=some o:=λb o e=>(I.bs b o e).1
theorem ad.mod(I:ad X pins σ H s):Mod X.K X.mg X.base:=I.ok.mod
theorem ad.kIn(I:ad X pins σ H s):X.K.In s.heap:=I.ok.mod.kin.keeps I.bk
theorem ad.lt(I:ad X pins σ H s):X.env.locals < s.heap.objs.size:=let ⟨_,hn,_⟩:=I.loc; hn.lt
theorem ad.sz(I:ad X pins σ H s):X.s₀.heap.objs.size<=s.heap.objs.size:=Nat.le_trans I.ok.above (Nat.le_of_lt I.lt)
theorem ad.nofs(I:ad X pins σ H s){a:Addr}(h:s.heap.objs.size<=a):a∉X.fs:=λhb=>by
 obtain⟨_,o,ho,_⟩:=I.ok.funs.mem hb
 exact absurd (Nat.lt_of_lt_of_le (Heap.lt_size ho) (Nat.le_trans I.sz h)) (Nat.lt_irrefl _)
theorem ad.cne(I:ad X pins σ H s) : ∀ x c,X.env.cells.lookup x=some c->c≠X.env.locals:=λx c e z=>by
 obtain⟨v,o,ho,hd⟩:=I.cell x c e
 obtain⟨m,⟨o',es,ep,ho',hd',_⟩,_⟩:=I.loc
 rw[z,ho']at ho; cases ho; rw[hd']at hd; cases hd
theorem ad.funs(I:ad X pins σ H s):s.heap.FunFrames X.base X.outer:=by
 have all : ∀ (l:List Env),(∀ b∈cb l,b∈X.fs)->X.s₀.heap.FunFrames X.base l->s.heap.FunFrames X.base l:=by
  intro l
  induction l with
  | nil=>intro _ _; trivial
  | cons env r ih =>
   intro hs hl
   obtain⟨hk,⟨L,o,hf,hn,ho,hd⟩,hr⟩:=hl
   have hL:L∈X.fs:=hs L (by unfold cb; rw[List.filterMap_cons,hf]; exact List.mem_cons_self)
   obtain⟨sl,e⟩:=I.base.slot L o ho (I.ok.frf L hL) hL λz=>I.ok.exfs L z hL
   exact⟨hk,⟨L,_,hf,hn,e,hd⟩,ih (λb hb=>hs b (by unfold cb; rw[List.filterMap_cons,hf]; exact List.mem_cons_of_mem _ hb)) hr⟩
 exact all X.outer (λ_ hb=>hb) I.ok.funs
theorem ad.stack(I:ad X pins σ H s):s.heap.FunFrames X.base X.stack:=by
 rcases I.ok.stk with e | ⟨e,hf⟩
 ·rw[e]; exact I.funs
 ·rw[e]
  obtain⟨m,hn,_⟩:=I.loc
  refine .cons (by rw[I.ok.kind]; decide) hf hn ?_ I.funs
  exact Heap.get?_none_of_le (Nat.le_trans I.ok.bsz I.ok.above)
theorem ad.stkSub(I:ad X pins σ H s) : ∀ b∈cb X.stack,b∈X.env.locals :: X.fs:=λb hb=>by
 rcases I.ok.stk with e | ⟨e,hf⟩
 ·rw[e]at hb; exact List.mem_cons_of_mem _ hb
 ·rw[e]at hb
  unfold cb at hb
  rw[List.filterMap_cons,hf]at hb
  exact hb
theorem ad.stkFree(I:ad X pins σ H s) : ∀ b∈cb X.stack,H b=none:=λb hb=>by
 rcases List.mem_cons.mp (I.stkSub b hb) with e | hb
 ·rw[e]; exact I.free
 ·obtain⟨_,o,ho,_⟩:=I.ok.funs.mem hb
  exact I.base.free b o ho (I.ok.frf b hb) λz=>I.ok.exfs b z hb
theorem ad.step{g':Array GenState}{t':Nat}{d':Drawn}{ch:List Addr}(I:ad X pins σ H s)
 (hch : ∀ b∈ch,(b∈X.ex\/X.s₀.heap.objs.size<=b)/\b≠X.env.locals/\(∀ x c,X.env.cells.lookup x=some c->c≠b)/\∀ p∈X.pn++pins,p.1≠b)
 (keep : ∀ b o,b≠X.env.locals->b∉X.fs->b∉ch->s.heap.get? b=some o->H b=none->h'.get? b=some o)
 (slot : ∀ b o,b≠X.env.locals->b∈X.fs->b∉ch->s.heap.get? b=some o->H b=none->∃ sl,h'.get? b=some { o with slots:=sl }) (free : ∀ b o,b∉ch->s.heap.get? b=some o->H b=none->H' b=none)
 (there : ∀ b o,b∉ch->s.heap.get? b=some o->∃ o',h'.get? b=some o')
 (tups : ∀ b xs,H b=some (.tup xs)->H' b=some (.tup xs)) (frzs : ∀ b o u,H b=some (.frz o u)->H' b=some (.frz o u)) (tbls : ∀ b ps,H b=some (.tbl ps)->∃ more,H' b=some (.tbl (ps++more)))
 (ns : ∀ m,s.heap.Ns X.env.locals m->h'.Ns X.env.locals m) (hok:aM X.prog X.w H' h') (hg:AllBare g') :
 ad X pins σ H' { s with heap:=h',gens:=g',drawn:=d',toks:=t' }:=by
 have neL : ∀ b o,X.s₀.heap.get? b=some o->b≠X.env.locals:=λb o e=>Nat.ne_of_lt (Nat.lt_of_lt_of_le (Heap.lt_size e) I.ok.above)
 have neC : ∀ b o,X.s₀.heap.get? b=some o->b∉X.ex->b∉ch:=λb o e hx hb=>by
  rcases (hch b hb).1 with z | z
  ·exact hx z
  ·exact absurd (Nat.lt_of_lt_of_le (Heap.lt_size e) z) (Nat.lt_irrefl _)
 have cellK : ∀ x c,X.env.cells.lookup x=some c->∀ v,s.heap.IsCell c v->h'.IsCell c v:=λx c e v ⟨o,ho,hd⟩=>by
  have nch:c∉ch:=λz=>(hch c z).2.2.1 x c e rfl
  by_cases hc:c∈X.fs
  ·obtain⟨sl,q⟩:=slot c o (I.cne x c e) hc nch ho (I.freeC x c e)
   exact⟨_,q,hd⟩
  ·exact⟨o,keep c o (I.cne x c e) hc nch ho (I.freeC x c e),hd⟩
 refine⟨I.ok,I.os,hg,⟨λb o e n hb hx=>?_,λb o e n hb hx=>?_,λb o e n hx=>?_,λb o e hx=>?_,λb xs e=>tups b xs (I.base.tups b xs e),λb o xs e=>frzs b o xs (I.base.frzs b o xs e),λb ps e=>?_⟩,?_,λx c e=>?_,?_,λx c e=>?_,λp hp=>?_,hok,I.len⟩
 ·exact keep b o (neL b o e) hb (neC b o e hx) (I.base.keep b o e n hb hx) (I.base.free b o e n hx)
 ·obtain⟨sl,e1⟩:=I.base.slot b o e n hb hx
  obtain⟨sl',e2⟩:=slot b _ (neL b o e) hb (neC b o e hx) e1 (I.base.free b o e n hx)
  exact⟨sl',e2⟩
 ·obtain⟨o',e1⟩:=I.base.there b o e hx
  exact free b o' (neC b o e hx) e1 (I.base.free b o e n hx)
 ·obtain⟨o',e1⟩:=I.base.there b o e hx
  exact there b o' (neC b o e hx) e1
 ·obtain⟨m1,e1⟩:=I.base.tbls b ps e
  obtain⟨m2,e2⟩:=tbls b _ e1
  exact⟨m1++m2,by rw[e2,Array.append_assoc]⟩
 ·obtain⟨m,hn,hl⟩:=I.loc
  refine⟨m,ns m hn,λi x v e1 e2 e3=>?_⟩
  obtain⟨u,r,l⟩:=hl i x v e1 e2 e3
  refine⟨u,r,?_⟩
  rcases l with l | ⟨k,c,e,z⟩
  ·exact .inl l
  ·exact .inr ⟨k,c,e,cellK x c e _ z⟩
 ·obtain⟨v,z⟩:=I.cell x c e
  exact⟨v,cellK x c e v z⟩
 ·obtain⟨m,⟨o,_,_,ho,_⟩,_⟩:=I.loc
  exact free _ o (λz=>(hch _ z).2.1 rfl) ho I.free
 ·obtain⟨v,o,ho,hd⟩:=I.cell x c e
  exact free c o (λz=>(hch c z).2.2.1 x c e rfl) ho (I.freeC x c e)
 ·obtain⟨e,n,ne,nf,d⟩:=I.pin p hp
  have nch:p.1∉ch:=λz=>(hch p.1 z).2.2.2 p hp rfl
  exact⟨keep p.1 p.2 ne nf nch e n,free p.1 p.2 nch e n,ne,nf,d⟩
theorem ad.un{t':Nat}(I:ad X pins σ H s)(u:Un X.fs [] H H' s.heap h')(hok:aM X.prog X.w H' h'):ad X pins σ H' { s with heap:=h',toks:=t' }:=by
 obtain⟨m,⟨o,es,ep,ho,r⟩,_⟩:=id I.loc
 obtain⟨sl,hL⟩:=u.any ho I.free (by simp)
 exact I.step (g':=s.gens) (d':=s.drawn) (ch:=[]) (λ_ z=>nomatch z) (λb o _ hb _ e n=>u.keep b o e n hb (by simp)) (λb o _ hb _ e n=>u.slot b o e n hb (by simp)) (λb o _ e n=>u.free b o e n (by simp)) (λb o _ e=>u.there b o e (by simp)) u.tups u.frzs u.tbls (λm' hm=>by
  obtain⟨o',es',ep',ho',r'⟩:=hm
  rw[ho]at ho'; cases ho'
  exact⟨_,es',ep',hL,r'⟩) hok I.bare
theorem ad.call{g':Array GenState}{t':Nat}{d':Drawn}{ch:List Addr}(I:ad X pins σ H s)(u:Un (cb X.stack) ch H H' s.heap h')(hok:aM X.prog X.w H' h')(hg:AllBare g')
 (hch : ∀ b∈ch,(b∈X.ex\/X.s₀.heap.objs.size<=b)/\b≠X.env.locals/\(∀ x c,X.env.cells.lookup x=some c->c≠b)/\∀ p∈X.pn++pins,p.1≠b) :
 ad X pins σ H' { s with heap:=h',gens:=g',drawn:=d',toks:=t' }:=by
 obtain⟨m,⟨o,es,ep,ho,r⟩,_⟩:=id I.loc
 obtain⟨sl,hL⟩:=u.any ho I.free λz=>(hch _ z).2.1 rfl
 exact I.step (ch:=ch) hch (λb o hL hb hc e n=>u.keep b o e n (λz=>(List.mem_cons.mp (I.stkSub b z)).elim hL hb) hc) (λb o _ _ hc e n=>u.any e n hc) (λb o hc e n=>u.free b o e n hc) (λb o hc e=>u.there b o e hc) u.tups u.frzs u.tbls (λm' hm=>by
  obtain⟨o',es',ep',ho',r'⟩:=hm
  rw[ho]at ho'; cases ho'
  exact⟨_,es',ep',hL,r'⟩) hok hg
theorem ad.turned{t':Nat}{it:Addr}(I:ad X pins σ H s)(k : ∀ b o,b≠it->s.heap.get? b=some o->h'.get? b=some o)(hn:H it=none)(hL:it≠X.env.locals)
 (h1:it∈X.ex\/X.s₀.heap.objs.size<=it) (h2 : ∀ x c,X.env.cells.lookup x=some c->c≠it) (h3 : ∀ p∈X.pn++pins,p.1≠it):ad X pins σ H { s with heap:=h',toks:=t' }:=by
 have nit : ∀ b u,H b=some u->b≠it:=λb u e z=>by rw[z,hn]at e; cases e
 refine I.step (g':=s.gens) (d':=s.drawn) (ch:=[it]) (λb hb=>?_) (λb o _ _ hc e _=>k b o (λz=>hc (by simp[z])) e) (λb o _ _ hc e _=>⟨o.slots,k b o (λz=>hc (by simp[z])) e⟩) (λ_ _ _ _ n=>n)
  (λb o hc e=>⟨o,k b o (λz=>hc (by simp[z])) e⟩) (λ_ _ e=>e) (λ_ _ _ e=>e) (λb ps e=>⟨#[],by rw[e]; simp⟩) (λm hm=>?_) (λb u e=>?_) I.bare
 ·have e:b=it:=by simpa using hb
  subst e
  exact⟨h1,hL,h2,h3⟩
 ·obtain⟨o,es,ep,ho,r⟩:=hm
  exact⟨o,es,ep,k _ o (Ne.symm hL) ho,r⟩
 ·refine (I.hok b u e).stay (λc v hc q=>k c v ?_ q) (λ_ q=>q) λ_ _ q=>q
  rcases hc with z | z
  ·rw[z]; exact nit b u e
  ·exact nit c _ z
theorem ad.tok(I:ad X pins σ H s)(t:Nat):ad X pins σ H { s with toks:=t }:=I.un (h':=s.heap) (t':=t) Un.refl I.hok
theorem ad.kept{t':Nat}(I:ad X pins σ H s)(k : ∀ b u,s.heap.get? b=some u->h'.get? b=some u):ad X pins σ H { s with heap:=h',toks:=t' }:=I.un (Un.kept k) (I.hok.kept k)
theorem ad.laid{a:Addr}{o:HO}{t':Nat}(I:ad X pins σ H s)(k : ∀ b u,s.heap.get? b=some u->h'.get? b=some u)(hp:s.heap.objs.size<=a)(new:aH X.prog X.w (upd H a o) h' a o) :
 ad X pins σ (upd H a o) { s with heap:=h',toks:=t' }:=I.un (Un.laid k hp (I.hok.fresh hp)) (I.hok.laid k hp new)
theorem ad.write{x e:Addr}{o:HO}{t':Nat}(I:ad X pins σ H s)(mu:jp (H x))(he:e=x\/H e=some (.own x))(k : ∀ b u,b≠e->s.heap.get? b=some u->h'.get? b=some u)(heo : ∃ u,h'.get? e=some u)
 (new:aH X.prog X.w (upd H x o) h' x o):ad X pins σ (upd H x o) { s with heap:=h',toks:=t' }:=I.un (Un.write mu he k heo) (I.hok.write mu he k heo new)
theorem ad.pins_of{pins':List (Addr × Obj)}(I:ad X pins σ H s)(h : ∀ p∈pins',s.heap.get? p.1=some p.2/\H p.1=none/\p.1≠X.env.locals/\p.1∉X.fs/\∀ v,p.2.data ≠ .cell v):ad X pins' σ H s :=
 ⟨I.ok,I.os,I.bare,I.base,I.loc,I.cell,I.free,I.freeC,λp hp=>(List.mem_append.mp hp).elim (λz=>I.pin p (List.mem_append_left _ z)) (h p),I.hok,I.len⟩
theorem rU{N:List Str}(hN:N.Nodup){i j:Nat}{x:Str}(a:N[i]? = some x)(b:N[j]? = some x):i=j:=by
 obtain⟨h1,e1⟩:=List.getElem?_eq_some_iff.mp a
 obtain⟨h2,e2⟩:=List.getElem?_eq_some_iff.mp b
 exact (List.getElem_inj hN).mp (e1.trans e2.symm)
theorem qr{M:Model}{A:Around}{E:Value->Shared->Prop}{i:Nat}{x:Str}{v:V}{u:Value}{Q:Unit->Shared->Prop}(I:ad X pins σ H s)(hN:X.N.Nodup)(hi:X.N[i]? = some x)(hx:fE X.env.scope x)(r:ar v u)
 (h : ∀ s',ad X pins (σ.set i (some v)) H s'->(∃ a,Heap.SameBut a s.heap s'.heap/\(a=X.env.locals\/X.env.cells.lookup x=some a))->Q () s') (hf:X.fn x=true\/X.env.scope.names.lookup x=some .local:=by first | exact .inl rfl | exact .inr rfl | assumption):wpAny M A (storeName X.env x u) Q E s:=by
 obtain⟨m,hn,hl⟩:=id I.loc
 have hcls:(X.env.scope.kind == .class || (X.env.scope.kind == .module && X.env.locals != X.env.globals))=false:=by rw[I.ok.kind]; rfl
 have hiσ:i < σ.length:=by rw[I.len]; exact (List.getElem?_eq_some_iff.mp hi).1
 have cne:=I.cne
 have tracked : ∀ {a:Addr} {h':Heap},(∃ o,s.heap.get? a=some o/\H a=none)->Heap.SameBut a s.heap h'->aM X.prog X.w H h':=λ{a h'} ha hs b ob e=>by
  obtain⟨_,_,hfree⟩:=ha
  refine (I.hok b ob e).stay (λc w' hc q=>(hs.2 c ?_).trans q) (λ_ q=>q) λ_ _ q=>q
  rintro rfl
  rcases hc with rfl | hc
  ·rw[hfree]at e; cases e
  ·rw[hfree]at hc; cases hc
 rcases hx with hk | hk
 ·refine wpAny_storeName_local hk hn (λh' hn' hs=>?_) hcls
  obtain⟨oL,_,_,hoL,_⟩:=id hn
  refine h _ ⟨I.ok,I.os,I.bare,⟨λb o e n hb hx=>?_,λb o e n hb hx=>?_,I.base.free,λb o e hx=>?_,I.base.tups,I.base.frzs,I.base.tbls⟩,⟨_,hn',λj y v' e1 e2 e3=>?_⟩,λy c e=>?_,I.free,I.freeC,λp hp=>?_,tracked ⟨oL,hoL,I.free⟩ hs,by simpa using I.len⟩ ⟨_,hs,.inl rfl⟩
  ·exact (hs.2 b (Nat.ne_of_lt (Nat.lt_of_lt_of_le (Heap.lt_size e) I.ok.above))).trans (I.base.keep b o e n hb hx)
  ·obtain⟨sl,e1⟩:=I.base.slot b o e n hb hx
   exact⟨sl,(hs.2 b (Nat.ne_of_lt (Nat.lt_of_lt_of_le (Heap.lt_size e) I.ok.above))).trans e1⟩
  ·obtain⟨o',e1⟩:=I.base.there b o e hx
   exact⟨o',(hs.2 b (Nat.ne_of_lt (Nat.lt_of_lt_of_le (Heap.lt_size e) I.ok.above))).trans e1⟩
  ·by_cases hj:j=i
   ·subst hj
    rw[hi]at e1; cases e1
    rw[List.getElem?_set_self hiσ]at e2
    cases e2
    exact⟨u,r,.inl ⟨hk,by simp⟩⟩
   ·rw[List.getElem?_set_ne (Ne.symm hj)]at e2
    obtain⟨u',r',q⟩:=hl j y v' e1 e2 e3
    refine⟨u',r',?_⟩
    rcases q with ⟨k,e⟩ | ⟨k,c,e,z⟩
    ·refine .inl ⟨k,?_⟩
     have:y≠x:=λe=>hj (rU hN e1 (e ▸ hi))
     simp[this,e]
    ·exact .inr ⟨k,c,e,z.sameBut hs (cne y c e)⟩
  ·obtain⟨w',z⟩:=I.cell y c e
   exact⟨w',z.sameBut hs (cne y c e)⟩
  ·obtain⟨e,n,ne,nf,d⟩:=I.pin p hp
   exact⟨(hs.2 p.1 ne).trans e,n,ne,nf,d⟩
 ·have hfn:X.fn x=true:=by
   rcases hf with z | z
   ·exact z
   ·rw[z]at hk; cases hk
  obtain⟨c,hc⟩:=I.ok.has x (.inl hk)
  obtain⟨w',z⟩:=I.cell x c hc
  refine wpAny_storeName_cell I.ok.kind hk hc z (λh' hc' hs=>?_)
  obtain⟨oc,hoc,hocd⟩:=id z
  refine h { s with heap:=h' } ⟨I.ok,I.os,I.bare,⟨λb o e n hb hx=>?_,λb o e n hb hx=>?_,I.base.free,λb o e hx=>?_,I.base.tups,I.base.frzs,I.base.tbls⟩,⟨m,hn.sameBut hs (Ne.symm (cne x c hc)),λj y v' e1 e2 e3=>?_⟩,λy c' e=>?_,I.free,I.freeC,λp hp=>?_,tracked ⟨oc,hoc,I.freeC x c hc⟩ hs,by simpa using I.len⟩ ⟨c,hs,.inr hc⟩
  ·exact (hs.2 b (Nat.ne_of_lt (Nat.lt_of_lt_of_le (Heap.lt_size e) (I.ok.cab x c hfn hc)))).trans (I.base.keep b o e n hb hx)
  ·obtain⟨sl,e1⟩:=I.base.slot b o e n hb hx
   exact⟨sl,(hs.2 b (Nat.ne_of_lt (Nat.lt_of_lt_of_le (Heap.lt_size e) (I.ok.cab x c hfn hc)))).trans e1⟩
  ·obtain⟨o',e1⟩:=I.base.there b o e hx
   exact⟨o',(hs.2 b (Nat.ne_of_lt (Nat.lt_of_lt_of_le (Heap.lt_size e) (I.ok.cab x c hfn hc)))).trans e1⟩
  ·by_cases hj:j=i
   ·subst hj
    rw[hi]at e1; cases e1
    rw[List.getElem?_set_self hiσ]at e2
    cases e2
    exact⟨u,r,.inr ⟨.inl hk,c,hc,hc'⟩⟩
   ·rw[List.getElem?_set_ne (Ne.symm hj)]at e2
    obtain⟨u',r',q⟩:=hl j y v' e1 e2 e3
    refine⟨u',r',?_⟩
    rcases q with q | ⟨k,c',e,z'⟩
    ·exact .inl q
    ·refine .inr ⟨k,c',e,z'.sameBut hs ?_⟩
     rintro rfl
     exact hj (rU hN e1 (I.ok.inj _ _ _ e hc ▸ hi))
  ·by_cases hcc:c'=c
   ·subst hcc; exact⟨_,hc'⟩
   ·obtain⟨w2,z2⟩:=I.cell y c' e
    exact⟨w2,z2.sameBut hs hcc⟩
  ·obtain⟨e,n,ne,nf,d⟩:=I.pin p hp
   refine⟨(hs.2 p.1 ?_).trans e,n,ne,nf,d⟩
   intro q
   rw[q,hoc]at e
   have q':oc=p.2:=Option.some.inj e
   exact d w' (by rw[<- q']; exact hocd)
theorem qu{M:Model}{A:Around}{E:Value->Shared->Prop}{i:Nat}{x:Str}{v:V}{u:Value}{Q:Unit->Shared->Prop}(I:ad X pins σ H s)(hN:X.N.Nodup)(hi:X.N[i]? = some x)(hx:fE X.env.scope x)(r:ar v u)
 (h : ∀ s',ad X pins (σ.set i (some v)) H s'->Q () s') (hf:X.fn x=true\/X.env.scope.names.lookup x=some .local:=by first | exact .inl rfl | exact .inr rfl | assumption):wpAny M A (storeName X.env x u) Q E s :=
 qr I hN hi hx r (λs' I' _=>h s' I') hf
theorem ad.call'{s':Shared}{ch:List Addr}(I:ad X pins σ H s)(ho:s'.os=s.os)(u:Un (cb X.stack) ch H H' s.heap s'.heap)(hok:aM X.prog X.w H' s'.heap)(hg:AllBare s'.gens)
 (hch : ∀ b∈ch,(b∈X.ex\/X.s₀.heap.objs.size<=b)/\b≠X.env.locals/\(∀ x c,X.env.cells.lookup x=some c->c≠b)/\∀ p∈X.pn++pins,p.1≠b):ad X pins σ H' s':=by
 obtain⟨h',g',d',t',o'⟩:=s'
 have e:o'=s.os:=ho
 subst e
 exact I.call (g':=g') (t':=t') (d':=d') u hok hg hch
end
abbrev XK:=Value->Option Addr->Hp->Prop
abbrev St:=List (Option V)
abbrev VK:=V->Hp->Prop
abbrev TE:=St->Hp->VK->Prop
abbrev TT:=St->Hp->(Bool->Hp->Prop)->Prop
abbrev TA:=St->Hp->(List V->Hp->Prop)->Prop
structure cG where
 nx:St->Hp->Prop
 rt:VK
 bk:St->Hp->Prop:=λ_ _=>False
 ct:St->Hp->Prop:=λ_ _=>False
abbrev TS:=cG->St->Hp->Prop
def EP(X:Cx)(pins:List (Addr × Obj))(σ:St)(Q:VK)(u:Value)(s':Shared):Prop:=∃ v H',ad X pins σ H' s'/\ar v u/\Q v H'
def TP(X:Cx)(pins:List (Addr × Obj))(σ:St)(Q:Bool->Hp->Prop)(b:Bool)(s':Shared):Prop:=∃ H',ad X pins σ H' s'/\Q b H'
def AP(X:Cx)(pins:List (Addr × Obj))(σ:St)(Q:List V->Hp->Prop)(us:List Value)(s':Shared):Prop:=∃ vs H',ad X pins σ H' s'/\aq vs us/\Q vs H'
def SP(X:Cx)(pins:List (Addr × Obj))(D:cG)(f:Flow)(s':Shared):Prop :=
 match f with
 | .next=>∃ σ' H',ad X pins σ' H' s'/\D.nx σ' H'
 | .brk=>∃ σ' H',ad X pins σ' H' s'/\D.bk σ' H'
 | .cont=>∃ σ' H',ad X pins σ' H' s'/\D.ct σ' H'
 | .ret u=>∃ v σ' H',ad X pins σ' H' s'/\ar v u/\D.rt v H'
def PE(X:Cx)(e:Expr)(t:TE):Prop :=
 ∀ (pins:List (Addr × Obj)) (s:Shared) (σ:St) (H:Hp) (Q:VK),ad X pins σ H s->t σ H Q->wpAny (model X.prog X.w) X.A (eval e X.env) (EP X pins σ Q) X.xe s
def PT(X:Cx)(e:Expr)(t:TT):Prop :=
 ∀ (pins:List (Addr × Obj)) (s:Shared) (σ:St) (H:Hp) (Q:Bool->Hp->Prop),ad X pins σ H s->t σ H Q->wpAny (model X.prog X.w) X.A (isTrue e X.env (eval e X.env)) (TP X pins σ Q) X.xe s
def PW(X:Cx)(e:Expr)(t:TT):Prop :=
 ∀ (whole:Sem Value) (pins:List (Addr × Obj)) (s:Shared) (σ:St) (H:Hp) (Q:Bool->Hp->Prop),ad X pins σ H s->t σ H Q->wpAny (model X.prog X.w) X.A (isTrue e X.env whole) (TP X pins σ Q) X.xe s
theorem PW.pt{X:Cx}{e:Expr}{t:TT}(h:PW X e t):PT X e t:=h _
def PA(X:Cx)(es:List Expr)(t:TA):Prop :=
 ∀ (pos:Pos) (pins:List (Addr × Obj)) (s:Shared) (σ:St) (H:Hp) (Q:List V->Hp->Prop),ad X pins σ H s->t σ H Q->wpAny (model X.prog X.w) X.A (spliced (backTo pos (starEach es X.env))) (AP X pins σ Q) X.xe s
def PS(X:Cx)(st:Stmt)(t:TS):Prop :=
 ∀ (pins:List (Addr × Obj)) (s:Shared) (σ:St) (H:Hp) (D:cG),ad X pins σ H s->t D σ H->wpAny (model X.prog X.w) X.A (exec st X.env) (SP X pins D) X.xe s
def cI(X:Cx)(st:List Stmt)(t:TS):Prop :=
 ∀ (pins:List (Addr × Obj)) (s:Shared) (σ:St) (H:Hp) (D:cG),ad X pins σ H s->t D σ H->wpAny (model X.prog X.w) X.A (execs st X.env) (SP X pins D) X.xe s
theorem ai{α:Type}{t:Sem α}{Q Q':α->Shared->Prop}{M:Model}{A:Around}{E:Value->Shared->Prop}{s:Shared}(h:wpAny M A t Q E s)(hQ : ∀ a s,Q a s->Q' a s):wpAny M A t Q' E s:=wpAny_mono h hQ λ_ _ x=>x
section
variable {X:Cx}
def vS(i:Nat):TE:=λσ H Q=>∃ v,σ[i]? = some (some v)/\Q v H
def tC(v:V):TE:=λ_ H Q=>Q v H
theorem yM {i:Nat} {x:Str} {pos:Pos} (hN:X.N[i]? = some x) (hv:iC X.env.scope x) (hd:(x == ("__debug__" : Str))=false:=by decide) (hcd:(x == ("__classdict__" : Str))=false:=by decide):PE X (.Name x pos) (vS i):=by
 intro pins s σ H Q I h
 obtain⟨v,e,h⟩:=h
 obtain⟨m,hn,hl⟩:=I.loc
 obtain⟨u,r,l⟩:=hl i x v hN e hv
 have fin:EP X pins σ Q u s:=⟨v,H,I,r,h⟩
 rcases l with ⟨hk,hm⟩ | ⟨hk,c,hc,hcell⟩
 ·exact wpAny_Name (wpAny_loadName_local I.ok.kind hk hn hm fin) hd
 ·rcases hk with hk | hk
  ·exact wpAny_Name (wpAny_loadName_cell I.ok.kind hk hc hcell fin) hd
  ·exact wpAny_Name (wpAny_loadName_free I.ok.kind hk hc hcell fin hcd) hd
theorem jU{i j pos}:PE X (.Constant (.int i) j pos) (tC (.int i)):=λ_ _ _ H _ I h=>wpAny_Constant_int ⟨.int i,H,I.tok _,⟨_,rfl⟩,h⟩
theorem rE{b j pos}:PE X (.Constant (.bool b) j pos) (tC (.bl b)):=λ_ _ _ H _ I h=>Constant_bool ⟨.bl b,H,I,rfl,h⟩
theorem rD{j pos}:PE X (.Constant .none j pos) (tC .non):=λ_ _ _ H _ I h=>Constant_none ⟨.non,H,I,rfl,h⟩
theorem rC{x j pos}:PE X (.Constant (.str x) j pos) (tC (.str x)):=λ_ _ _ H _ I h=>Calls.Constant_str ⟨.str x,H,I.tok _,⟨_,rfl⟩,h⟩
def Gl(X:Cx)(x:Str):Prop:=X.env.kindOf x=some .globalImplicit
theorem mw{E:Value->Shared->Prop}{pins:List (Addr × Obj)}{s:Shared}{σ:St}{H:Hp}{x:Str}{u:Value}{pos:Pos}{Q:Value->Shared->Prop}(I:ad X pins σ H s)(hg:Gl X x)(hm:X.mg x=some u)(h:Q u s)
 (hd:(x == ("__debug__" : Str))=false:=by decide):wpAny (model X.prog X.w) X.A (eval (.Name x pos) X.env) Q E s :=
 Calls.Name_function_global I.ok.kind hg (Calls.loadGlobal_global (by rw[I.ok.glob]; exact I.mod.glob.keeps I.bk) hm h) hd
theorem fX{E:Value->Shared->Prop}{pins:List (Addr × Obj)}{s:Shared}{σ:St}{H:Hp}{x:Str}{u:Value}{pos:Pos}{Q:Value->Shared->Prop}(I:ad X pins σ H s)(hg:Gl X x)(hm:X.mg x=none)(hv:bootBuiltins x=some u)(h:Q u s)
 (hn:x ≠ "__name__":=by decide) (hd:(x == ("__debug__" : Str))=false:=by decide):wpAny (model X.prog X.w) X.A (eval (.Name x pos) X.env) Q E s:=by
 obtain⟨mb,h1,h2⟩:=I.mod.blt
 exact Calls.Name_function_global I.ok.kind hg (Calls.loadGlobal_builtin (by rw[I.ok.glob]; exact I.mod.glob.keeps I.bk) hm (by rw[I.ok.blt]; exact h1.keeps I.bk) ((h2 x hn).trans hv) h) hd
theorem yW {x:Str} {v:V} {u:Value} {pos:Pos} (hg:Gl X x) (hm:X.mg x=some u) (r:ar v u) (hd:(x == ("__debug__" : Str))=false:=by decide):PE X (.Name x pos) (tC v) :=
 λ_ _ _ H _ I h=>mw I hg hm ⟨v,H,I,r,h⟩ hd
theorem zc {x:Str} {v:V} {u:Value} {pos:Pos} (hg:Gl X x) (hm:X.mg x=none) (hv:bootBuiltins x=some u) (r:ar v u) (hn:x ≠ "__name__":=by decide) (hd:(x == ("__debug__" : Str))=false:=by decide):PE X (.Name x pos) (tC v) :=
 λ_ _ _ H _ I h=>fX I hg hm hv ⟨v,H,I,r,h⟩ hn hd
variable {a b:Expr}{ta tb:TE}{pos:Pos}
variable {tA tB':TT}{rest:List Expr}
def jC(t u:TT):TT:=λσ H Q=>t σ H λc H1=>if c=true then u σ H1 Q else Q false H1
def pW(t u:TT):TT:=λσ H Q=>t σ H λc H1=>if c=true then Q true H1 else u σ H1 Q
def pX(t:TT):TT:=λσ H Q=>t σ H λc H1=>Q (!c) H1
theorem xZ(ha:PT X a tA):PW X (.BoolOp .And [a] pos) tA:=by
 intro wh pins s σ H Q I h
 refine isTrue_and (ai (ha pins s σ H Q I h) λc s1 e=>?_)
 cases c with
 | true=>exact isTrue_and_nil e
 | false=>exact e
theorem xX(ha:PT X a tA):PW X (.BoolOp .Or [a] pos) tA:=by
 intro wh pins s σ H Q I h
 refine isTrue_or (ai (ha pins s σ H Q I h) λc s1 e=>?_)
 cases c with
 | false=>exact isTrue_or_nil e
 | true=>exact e
theorem x3(ha:PT X a tA)(hb:PW X (.BoolOp .And (b :: rest) pos) tB'):PW X (.BoolOp .And (a :: b :: rest) pos) (jC tA tB'):=by
 intro wh pins s σ H Q I h
 refine isTrue_and (ai (ha pins s σ H _ I h) λc s1 ⟨H1,I1,q1⟩=>?_)
 cases c with
 | true=>exact hb wh pins s1 σ H1 Q I1 q1
 | false=>exact⟨H1,I1,q1⟩
theorem xY(ha:PT X a tA)(hb:PW X (.BoolOp .Or (b :: rest) pos) tB'):PW X (.BoolOp .Or (a :: b :: rest) pos) (pW tA tB'):=by
 intro wh pins s σ H Q I h
 refine isTrue_or (ai (ha pins s σ H _ I h) λc s1 ⟨H1,I1,q1⟩=>?_)
 cases c with
 | true=>exact⟨H1,I1,q1⟩
 | false=>exact hb wh pins s1 σ H1 Q I1 q1
theorem ye(ha:PT X a tA):PT X (.UnaryOp .Not a pos) (pX tA):=by
 intro pins s σ H Q I h
 exact isTrue_not (ha pins s σ H (λc H1=>Q (!c) H1) I h)
theorem yQ{op}{t:TE}(h:PE X a t):PE X (.BoolOp op [a] pos) t:=λpins s σ H Q I hw=>BoolOp_one (h pins s σ H Q I hw)
def qe(t:TT)(ta tb:TE):TE:=λσ H Q=>t σ H λc H1=>if c=true then ta σ H1 Q else tb σ H1 Q
theorem yV{c:Expr}(hc:PT X c tA)(ha:PE X a ta)(hb:PE X b tb):PE X (.IfExp c a b pos) (qe tA ta tb):=by
 intro pins s σ H Q I h
 refine wpAny_IfExp (ai (hc pins s σ H _ I h) λd s1 ⟨H1,I1,q1⟩=>?_)
 cases d with
 | true=>exact ha pins s1 σ H1 Q I1 q1
 | false=>exact hb pins s1 σ H1 Q I1 q1
end
def az(K:W.Frag)(H:Hp)(a:Addr)(xs:List V):Prop :=
 Rd H a (.lst xs) \/
  ∃ (o:Obj) (its:Array Value) (n:Nat),K.lookup a=some o/\o.cls=.type "list"/\o.dict=none/\o.data=.seq its n/\its.size<=sizeLine/\aq xs its.toList
def bP(K:W.Frag)(H:Hp)(a:Addr)(xs:List V):Prop :=
 Rd H a (.tup xs) \/
  ∃ (o:Obj) (its:Array Value) (n:Nat),K.lookup a=some o/\o.cls=.type "tuple"/\o.data=.seq its n/\its.size<=sizeLine/\aq xs its.toList
def D1:Value->Option V
 | .none=>some .non
 | .bool b=>some (.bl b)
 | .int i _=>some (.int i)
 | .str x _=>some (.str x)
 | .bytes b _=>some (.byt b)
 | .float b _=>some (.flt b)
 | .ref a=>some (.ref a)
 | .type n=>some (.ty n)
 | _=>none
theorem ar.abs{x:V}{u:Value}(r:ar x u):D1 u=some x:=by
 cases x with
 | non=>cases r; rfl
 | bl _=>cases r; rfl
 | int _=>obtain⟨t,rfl⟩:=r; rfl
 | str _=>obtain⟨t,rfl⟩:=r; rfl
 | byt _=>obtain⟨t,rfl⟩:=r; rfl
 | flt _=>obtain⟨t,rfl⟩:=r; rfl
 | ref _=>cases r; rfl
 | ty _=>cases r; rfl
theorem ar.inj{x y:V}{u:Value}(r:ar x u)(q:ar y u):x=y:=Option.some.inj (r.abs.symm.trans q.abs)
theorem aq.inj : ∀ {xs ys:List V} {us:List Value},aq xs us->aq ys us->xs=ys
 | _,_,_,.nil,.nil=>rfl
 | _,_,_,.cons r t,.cons r' t'=>by rw[r.inj r',aq.inj t t']
section
variable {X:Cx}{pins:List (Addr × Obj)}{σ:St}{H:Hp}{s:Shared}{a:Addr}{xs ys:List V}
theorem az.of{K:W.Frag}(h:H a=some (.lst xs)):az K H a xs:=.inl (.inl h)
theorem bP.of{K:W.Frag}(h:H a=some (.tup xs)):bP K H a xs:=.inl (.inl h)
theorem ad.list(I:ad X pins σ H s)(h:az X.K H a xs) : ∃ its:List Value,aq xs its/\PlainL s.heap a its.toArray/\xs.length<=sizeLine:=by
 rcases h with h | ⟨o,its,n,hk,hc,hd,hs,hz,r⟩
 ·obtain⟨z,its,n,r,e⟩:=h.ok I.hok
  exact⟨its,r,⟨_,n,e,rfl,rfl,rfl⟩,z⟩
 ·refine⟨its.toList,r,⟨o,n,I.kIn a o hk,hc,hd,by simpa using hs⟩,?_⟩
  have e:=r.length
  simp only [Array.length_toList]at e
  omega
theorem ad.tuple(I:ad X pins σ H s)(h:bP X.K H a xs) : ∃ its:List Value,aq xs its/\IsTup s.heap a its.toArray/\xs.length<=sizeLine:=by
 rcases h with h | ⟨o,its,n,hk,hc,hs,hz,r⟩
 ·obtain⟨z,its,r,p⟩:=h.ok I.hok
  exact⟨its,r,p,z⟩
 ·refine⟨its.toList,r,⟨o,I.kIn a o hk,hc,n,by simpa using hs⟩,?_⟩
  have e:=r.length
  simp only [Array.length_toList]at e
  omega
theorem ad.list_inj(I:ad X pins σ H s)(h:az X.K H a xs)(h':az X.K H a ys):xs=ys:=by
 obtain⟨its,r,⟨o,n,e,_,_,d⟩,_⟩:=I.list h
 obtain⟨its',r',⟨o',n',e',_,_,d'⟩,_⟩:=I.list h'
 rw[e]at e'; cases e'
 rw[d]at d'
 injection d' with d1 _
 have:its=its':=by simpa using congrArg Array.toList d1
 subst this
 exact r.inj r'
end
abbrev Cx.wish(X:Cx)(E:Value->Shared->Prop):Cx:={ X with xe:=E }
abbrev Cx.nox(X:Cx):Cx:=X.wish λ_ _=>False
theorem Cx.Ok.wish{X:Cx}(ok:X.Ok)(E:Value->Shared->Prop):(X.wish E).Ok :=
 ⟨ok.mod,ok.kind,ok.glob,ok.blt,ok.above,ok.inj,ok.has,ok.cab,ok.hd,ok.frames,ok.stk,ok.exf,ok.bs,ok.bsz,ok.noex,ok.exfs,ok.funs,ok.frf⟩
theorem Cx.Ok.unwish{X:Cx}{E:Value->Shared->Prop}(ok:(X.wish E).Ok):X.Ok :=
 ⟨ok.mod,ok.kind,ok.glob,ok.blt,ok.above,ok.inj,ok.has,ok.cab,ok.hd,ok.frames,ok.stk,ok.exf,ok.bs,ok.bsz,ok.noex,ok.exfs,ok.funs,ok.frf⟩
section
variable {X:Cx}{pins:List (Addr × Obj)}{σ:St}{H:Hp}{s:Shared}{E:Value->Shared->Prop}
theorem ad.wish(I:ad X pins σ H s)(E:Value->Shared->Prop):ad (X.wish E) pins σ H s:=⟨I.ok.wish E,I.os,I.bare,I.base,I.loc,I.cell,I.free,I.freeC,I.pin,I.hok,I.len⟩
theorem ad.unwish(I:ad (X.wish E) pins σ H s):ad X pins σ H s:=⟨I.ok.unwish,I.os,I.bare,I.base,I.loc,I.cell,I.free,I.freeC,I.pin,I.hok,I.len⟩
theorem SP.unwish{D:cG}{f:Flow}{s':Shared}(h:SP (X.wish E) pins D f s'):SP X pins D f s':=by
 cases f with
 | next=>obtain⟨σ',H',I,q⟩:=h; exact⟨σ',H',I.unwish,q⟩
 | brk=>obtain⟨σ',H',I,q⟩:=h; exact⟨σ',H',I.unwish,q⟩
 | cont=>obtain⟨σ',H',I,q⟩:=h; exact⟨σ',H',I.unwish,q⟩
 | ret u=>obtain⟨v,σ',H',I,r,q⟩:=h; exact⟨v,σ',H',I.unwish,r,q⟩
theorem cI.nox{st:List Stmt}{t:TS}(h:cI X.nox st t):cI X st t:=λpins s σ H D I hw =>
 wpAny_mono (h pins s σ H D (I.wish _) hw) (λ_ _ q=>q.unwish) λ_ _ z=>False.elim z
end
section
variable {X:Cx}{st:Stmt}{rest:List Stmt}{t u:TS}{e:Expr}{te:TE}{pos:Pos}
def jy:TS:=λD σ H=>D.nx σ H
def kZ(t u:TS):TS:=λD σ H=>t { D with nx:=u D } σ H
theorem yg:cI X [] jy:=λ_ _ σ H _ I h=>wpAny_execs_nil ⟨σ,H,I,h⟩
theorem yh(h1:PS X st t)(h2:cI X rest u):cI X (st :: rest) (kZ t u):=by
 intro pins s σ H D I h
 refine wpAny_execs_cons (ai (h1 pins s σ H { D with nx:=u D } I h) λf s1 q=>?_)
 cases f with
 | next =>
  obtain⟨σ',H',I',q⟩:=q
  exact h2 pins s1 σ' H' D I' q
 | ret v=>exact q
 | brk=>exact q
 | cont=>exact q
theorem yf(h1:PS X st t):cI X [st] t:=by
 intro pins s σ H D I h
 refine wpAny_execs_cons (ai (h1 pins s σ H D I h) λf s1 q=>?_)
 cases f with
 | next=>exact wpAny_execs_nil q
 | ret v=>exact q
 | brk=>exact q
 | cont=>exact q
theorem ad.quiet{pins:List (Addr × Obj)}{σ:St}{H:Hp}{s:Shared}(I:ad X pins σ H s):interactive X.env=false:=by simp[interactive,I.ok.kind]
def qk(te:TE):TS:=λD σ H=>te σ H λ_ H1=>D.nx σ H1
theorem yu(he:PE X e te)(hs:swapsWith e none pos.line X.env=pure false:=by rfl):PS X (.Expr e pos) (qk te):=by
 intro pins s σ H D I h
 exact wpAny_Expr_any (ai (he pins s σ H _ I h) λv s1 ⟨x,H1,I1,r1,q1⟩=>⟨σ,H1,I1,q1⟩) I.quiet hs
def pU(te:TE):TS:=λD σ H=>te σ H D.rt
theorem yo(he:PE X e te):PS X (.Return (some e) pos) (pU te):=by
 intro pins s σ H D I h
 exact wpAny_Return_some (ai (he pins s σ H _ I h) λv s1 ⟨x,H1,I1,r1,q1⟩=>⟨x,σ,H1,I1,r1,q1⟩)
def jA(c:TT)(t u:TS):TS:=λD σ H=>c σ H λb H1=>if b=true then t D σ H1 else u D σ H1
theorem yq{c:Expr}{a b:List Stmt}{tc:TT}(hc:PT X c tc)(ha:cI X a t)(hb:cI X b u):PS X (.If c a b pos) (jA tc t u):=by
 intro pins s σ H D I h
 refine wpAny_If (ai (hc pins s σ H _ I h) λd s1 ⟨H1,I1,q1⟩=>?_)
 cases d with
 | true=>exact ha pins s1 σ H1 D I1 q1
 | false=>exact hb pins s1 σ H1 D I1 q1
def pZ:TS:=λ_ _ _=>False
theorem yp:PS X st pZ:=λ_ _ _ _ _ _ h=>h.elim
end
abbrev TG:=V->St->Hp->(St->Hp->Prop)->Prop
abbrev dY:=List V->St->Hp->(St->Hp->Prop)->Prop
def PG(X:Cx)(target:Expr)(t:TG):Prop :=
 ∀ (pins:List (Addr × Obj)) (s:Shared) (σ:St) (H:Hp) (v:V) (u:Value) (Q:St->Hp->Prop),ad X pins σ H s->ar v u->t v σ H Q ->
  wpAny (model X.prog X.w) X.A (assign target X.env u) (λ_ s'=>∃ σ' H',ad X pins σ' H' s'/\Q σ' H') X.xe s
def jn(X:Cx)(ts:List Expr)(t:dY):Prop :=
 ∀ (pins:List (Addr × Obj)) (s:Shared) (σ:St) (H:Hp) (vs:List V) (us:List Value) (Q:St->Hp->Prop),ad X pins σ H s->aq vs us->t vs σ H Q ->
  wpAny (model X.prog X.w) X.A (assignInOrder ((assignEach ts X.env).map (·.2)) us) (λ_ s'=>∃ σ' H',ad X pins σ' H' s'/\Q σ' H') X.xe s
section
variable {X:Cx}{pos:Pos}
def bG(i:Nat):TG:=λv σ H Q=>Q (σ.set i (some v)) H
theorem yL{i:Nat}{x:Str}(hN:X.N.Nodup)(hi:X.N[i]? = some x)(hx:fE X.env.scope x)(hf:X.fn x=true\/X.env.scope.names.lookup x=some .local:=by first | exact .inl rfl | exact .inr rfl | assumption):PG X (.Name x pos) (bG i):=by
 intro pins s σ H v u Q I r h
 exact wpAny_assign_Name (qu I hN hi hx r (λs' I'=>⟨_,H,I',h⟩) hf)
def jb:dY:=λvs σ H Q=>vs=[]/\Q σ H
def fj(t:TG)(u:dY):dY:=λvs σ H Q=>∃ v r,vs=v :: r/\t v σ H λσ' H'=>u r σ' H' Q
theorem yI:jn X [] jb:=by
 intro pins s σ H vs us Q I r h
 obtain⟨e,h⟩:=h
 subst e
 cases r
 exact assignInOrder_nil ⟨σ,H,I,h⟩
theorem yJ{e:Expr}{es:List Expr}{t:TG}{u:dY}(h1:PG X e t)(h2:jn X es u)
 (hs:(assignEach (e :: es) X.env).map (·.2)=assign e X.env :: (assignEach es X.env).map (·.2):=by rfl):jn X (e :: es) (fj t u):=by
 intro pins s σ H vs us Q I r h
 obtain⟨v,vr,e1,h⟩:=h
 subst e1
 cases r with
 | cons r rr =>
  rw[hs]
  refine assignInOrder_cons (ai (h1 pins s σ H _ _ _ I r h) λ_ s1 ⟨σ1,H1,I1,q1⟩=>?_)
  exact h2 pins s1 σ1 H1 _ _ Q I1 rr q1
def iz(K:W.Frag)(n:Nat)(t:dY):TG:=λv σ H Q=>∃ a xs,v=.ref a/\bP K H a xs/\xs.length=n/\t xs σ H Q
theorem yK{es:List Expr}{k:Nat}{t:dY}{n:Nat}(hc:X.calm=true)(h:jn X es t)
 (hn:(assignEach es X.env).length=n:=by rfl) (hst:(assignEach es X.env).findIdx? (·.1)=none:=by rfl):PG X (.Tuple es k pos) (iz X.K n t):=by
 intro pins s σ H v u Q I r hw
 obtain⟨a,xs,e1,hq,hl,hw⟩:=hw
 subst e1
 cases r
 obtain⟨its,rv,ht,hz⟩:=I.tuple hq
 refine assign_Tuple_tuple (I.ok.hd hc) ht (by simp[hn,<- hl,rv.length]) hst λh' hx=>?_
 have I1:ad X pins σ H { s with heap:=h' }:=I.kept (t':=s.toks) λb o e=>hx b o (Nat.ne_of_lt (Heap.lt_size e)) e
 exact h pins _ σ H xs _ Q I1 (by simpa using rv) hw
def gy(te:TE)(g:TG):TS:=λD σ H=>te σ H λx H1=>g x σ H1 D.nx
theorem yx{tg e:Expr}{te:TE}{g:TG}(he:PE X e te)(hg:PG X tg g)(hs:swapsWithSole [tg] e pos.line X.env=pure false:=by rfl)(hw:swappedStores [tg] e X.env=pure none:=by rfl)
 (h1:(assignEach [tg] X.env).map (·.2)=[assign tg X.env]:=by rfl):PS X (.Assign [tg] e pos) (gy te g):=by
 intro pins s σ H D I h
 refine wpAny_Assign_stores (ai (he pins s σ H _ I h) λv s1 ⟨x,H1,I1,r1,q1⟩=>?_) hs hw
 rw[h1]
 exact ai (hg pins s1 σ H1 x v _ I1 r1 q1) λ_ s2 q=>q
theorem yn{i:Nat}{x:Str}{e:Expr}{te:TE}{pos':Pos}(hN:X.N.Nodup)(hi:X.N[i]? = some x)(hx:fE X.env.scope x)(he:PE X e te)(hs:swapsWith e (some (.Name x pos')) pos.line X.env=pure false:=by rfl)(hf:X.fn x=true\/X.env.scope.names.lookup x=some .local:=by first | exact .inl rfl | exact .inr rfl | assumption) :
 PS X (.Assign [.Name x pos'] e pos) (gy te (bG i)):=by
 intro pins s σ H D I h
 refine wpAny_Assign_Name (ai (he pins s σ H _ I h) λv s1 ⟨y,H1,I1,r1,q1⟩=>?_) hs
 exact qu I1 hN hi hx r1 (λs2 I2=>⟨_,H1,I2,q1⟩) hf
end
section
variable {X:Cx}{pos:Pos}
def pQ(c:TT)(tb:TS):TS:=λD σ H=>∃ W:Nat->St->Hp->Prop,(∃ m,W m σ H)/\∀ m σ H,W m σ H ->
 c σ H λb H1=>if b=true then ∃ N:St->Hp->Prop,(∀ σ' H',N σ' H'->∃ m',m' < m/\W m' σ' H')/\tb { D with nx:=N,ct:=N,bk:=D.nx } σ H1 else D.nx σ H1
theorem yi{c:Expr}{body:List Stmt}{tc:TT}{tb:TS}(hp:PassesOwn (model X.prog X.w) X.A X.env X.xe)(hc:PT X c tc)(hb:cI X body tb):PS X (.While c body [] pos) (pQ tc tb):=by
 intro pins s σ H D I h
 obtain⟨W,⟨m0,w0⟩,turn⟩:=h
 refine wpAny_While (codeAny_whileLoop (λn s'=>∃ σ' H',ad X pins σ' H' s'/\W n σ' H') ?_ m0 ⟨σ,H,I,w0⟩)
 rintro n s1 ⟨σ1,H1,I1,w1⟩
 refine wpAny_passesOwn hp (ai (hc pins s1 σ1 H1 _ I1 (turn n σ1 H1 w1)) λb s2 ⟨H2,I2,q2⟩=>?_)
 cases b with
 | true =>
  obtain⟨N,hN,q2⟩:=q2
  rw[if_pos rfl]
  refine wpAny_passesOwn hp (ai (hb pins s2 σ1 H2 _ I2 q2) λf s3 q3=>?_)
  cases f with
  | next =>
   obtain⟨σ3,H3,I3,n3⟩:=q3
   obtain⟨m',hm,w3⟩:=hN σ3 H3 n3
   exact⟨m',hm,σ3,H3,I3,w3⟩
  | cont =>
   obtain⟨σ3,H3,I3,n3⟩:=q3
   obtain⟨m',hm,w3⟩:=hN σ3 H3 n3
   exact⟨m',hm,σ3,H3,I3,w3⟩
  | brk=>exact q3
  | ret v=>exact q3
 | false =>
  rw[if_neg Bool.false_ne_true]
  exact wpAny_execs_nil ⟨σ1,H2,I2,q2⟩
end
structure It where
 go:Nat->Hp->Prop
 yld:Nat->Hp->V->Hp->Prop
 stop:Nat->Hp->Prop
def c6(X:Cx)(pins:List (Addr × Obj))(H:Hp)(b:Addr):Prop :=
 H b=none/\b≠X.env.locals/\b∉X.fs/\(b∈X.ex\/X.s₀.heap.objs.size<=b)/\(∀ x c,X.env.cells.lookup x=some c->c≠b)/\∀ p∈X.pn++pins,p.1≠b
theorem ad.fpOk{X:Cx}{pins:List (Addr × Obj)}{σ:St}{H H':Hp}{s:Shared}{b:Addr}(I:ad X pins σ H s)(hb:s.heap.objs.size<=b)(hn:H' b=none):c6 X pins H' b:=by
 refine⟨hn,Nat.ne_of_gt (Nat.lt_of_lt_of_le I.lt hb),I.nofs hb,.inr (Nat.le_trans I.sz hb),λx c e z=>?_,λp hp z=>?_⟩
 ·obtain⟨v,q⟩:=I.cell x c e
  exact absurd (Nat.lt_of_lt_of_le q.lt (by rw[z]; exact hb)) (Nat.lt_irrefl _)
 ·exact absurd (Nat.lt_of_lt_of_le (Heap.lt_size (I.pin p hp).1) (by rw[z]; exact hb)) (Nat.lt_irrefl _)
structure dX (P:Program) (w:World) (K:W.Frag) (tg:Expr) (J:It) (fp:List Addr) (it:Addr) (tn:Nat->Heap->Prop):Prop where
 mem:it∈fp
 obj : ∀ i h,tn i h->∀ b∈fp,∃ o,h.get? b=some o/\∀ v,o.data ≠ .cell v
 keep : ∀ i h h',tn i h->(∀ b∈fp,∀ o,h.get? b=some o->h'.get? b=some o)->tn i h'
 item : ∀ (X:Cx),X.prog=P->X.w=w->X.K=K->X.calm=true->∀ (i:Nat) (pins:List (Addr × Obj)) (s:Shared) (σ:St) (H:Hp) (E:Value->Shared->Prop),ad X pins σ H s->(∀ b∈fp,c6 X pins H b)->tn i s.heap->J.go i H ->
  wpAny (model P w) X.A (pyNext (.ref it)) (λr s1=>∃ u,r=some u /\
   wpAny (model P w) X.A (letOwnedTupleGo tg (.ref it) u) (λ_ s2=>∃ x H',ad X pins σ H' s2/\ar x u/\J.yld i H x H'/\tn (i+1) s2.heap/\∀ b∈fp,H' b=none) E s1) E s
 done : ∀ (X:Cx),X.prog=P->X.w=w->X.K=K->X.calm=true->∀ (i:Nat) (pins:List (Addr × Obj)) (s:Shared) (σ:St) (H:Hp) (E:Value->Shared->Prop),ad X pins σ H s->(∀ b∈fp,c6 X pins H b)->tn i s.heap->J.stop i H ->
  wpAny (model P w) X.A (pyNext (.ref it)) (λr s1=>r=none/\ad X pins σ H s1) E s
 self : ∀ (A:Around) (i:Nat) (s:Shared) (Q:Value->Shared->Prop) (E:Value->Shared->Prop),tn i s.heap->Q (.ref it) s->wpAny (model P w) A (pyIter (.ref it)) Q E s
abbrev TI:=St->Hp->(It->Hp->Prop)->Prop
def uz(X:Cx)(pins:List (Addr × Obj))(σ:St)(tg:Expr)(R:It->Hp->Prop)(itv:Value)(s2:Shared):Prop :=
 ∃ (it:Addr) (fp:List Addr) (tn:Nat->Heap->Prop) (J:It) (H':Hp),itv=.ref it/\ad X pins σ H' s2/\dX X.prog X.w X.K tg J fp it tn/\tn 0 s2.heap/\(∀ b∈fp,c6 X pins H' b)/\R J H'
def PI(X:Cx)(tg iter:Expr)(wi:TI):Prop :=
 ∀ (pins:List (Addr × Obj)) (s:Shared) (σ:St) (H:Hp) (R:It->Hp->Prop),ad X pins σ H s->wi σ H R ->
  wpAny (model X.prog X.w) X.A (eval iter X.env) (λv s1=>wpAny (model X.prog X.w) X.A (pyIter v) (uz X pins σ tg R) X.xe s1) X.xe s
theorem ja{M:Model}{A:Around}{E:Value->Shared->Prop}{s:Shared}{tg:Expr}{it:Addr}{u:Value}{o:Obj}{n:String}{vs:Array Value}{Q:Unit->Shared->Prop}(ho:s.heap.get? it=some o)(hc:o.cls=.type n)(hd:o.data=.fields vs)
 (hn:["enumerate", "zip", "dict_itemiterator", "dict_reverseitemiterator", "odict_iterator", "itertools.zip_longest", "itertools.pairwise"].contains n=false) (hQ:Q () s):wpAny M A (letOwnedTupleGo tg (.ref it) u) Q E s:=by
 unfold letOwnedTupleGo
 cases tg <;> first
  | exact wpAny_pure hQ
  | (cases u <;> first
      | exact wpAny_pure hQ
      | (refine wpAny_bind (wpAny_load ho ?_)
         rw[hc,hd]
         show wpAny M A (if (["enumerate", "zip", "dict_itemiterator", "dict_reverseitemiterator", "odict_iterator", "itertools.zip_longest", "itertools.pairwise"].contains n && vs[0]? == some (rawInt _))=true then _ else _) Q E s
         rw[if_neg (by intro h; rw[hn,Bool.false_and]at h; cases h)]
         exact wpAny_pure hQ))
def gu(K:W.Frag)(a:Addr):It :=
 ⟨λi H=>∃ xs x,az K H a xs/\xs[i]? = some x,λi H x H'=>H'=H/\∀ xs,az K H a xs->xs[i]? = some x,λi H=>∃ xs,az K H a xs/\xs.length<=i⟩
def gk(lo:Int)(n:Nat):It:=⟨λi _=>i < n,λi H x H'=>H'=H/\x=.int (lo+i),λi _=>n<=i⟩
theorem vE{P:Program}{w:World}{K:W.Frag}{tg:Expr}(a it:Addr):dX P w K tg (gu K a) [it] it (λi h=>h.IsListIter it a i) where
 mem:=by simp
 obj:=λi h st b hb=>by
  have e:b=it:=by simpa using hb
  subst e
  obtain⟨o,e,c,d⟩:=st
  exact⟨o,e,λv z=>by rw[d]at z; cases z⟩
 keep:=λi h h' st k=>st.at λo e=>k it (by simp) o e
 item:=by
  intro X hP hw hK hc i pins s σ H E I hf st hg
  subst hP hw hK
  obtain⟨xs,x,hq,hx⟩:=hg
  obtain⟨its,rv,p,hz⟩:=I.list hq
  obtain⟨u,hu,ru⟩:=rv.get hx
  obtain⟨f0,f1,f2,f3,f4,f5⟩:=hf it (by simp)
  refine wpAny_pyNext_list_item st p.isList (x:=u) (by simpa using hu) λh' st' sb=>?_
  have I1:ad X pins σ H { s with heap:=h' }:=I.turned (t':=s.toks) (λb o hb e=>(sb.2 b hb).trans e) f0 f1 f3 f4 f5
  obtain⟨o,e,c,d⟩:=id st'
  exact⟨u,rfl,ja (s:={ s with heap:=h' }) e c d (by decide) ⟨x,H,I1,ru,⟨rfl,λys hy=>by rw[I.list_inj hy hq]; exact hx⟩,st',λb hb=>(hf b hb).1⟩⟩
 done:=by
  intro X hP hw hK hc i pins s σ H E I hf st hg
  subst hP hw hK
  obtain⟨xs,hq,hx⟩:=hg
  obtain⟨its,rv,p,hz⟩:=I.list hq
  obtain⟨f0,f1,f2,f3,f4,f5⟩:=hf it (by simp)
  have hl:=rv.length
  exact wpAny_pyNext_list_end (I.ok.hd hc) st p.isList (by simp; omega) λh' eb=>⟨rfl,I.turned (t':=s.toks) (λb o hb e=>eb b o hb e) f0 f1 f3 f4 f5⟩
 self:=λ_ _ _ _ _ st h=>wpAny_pyIter_listiter st h
theorem vD{P:Program}{w:World}{K:W.Frag}{tg:Expr}(it:Addr)(lo:Int)(n:Nat):dX P w K tg (gk lo n) [it] it (λi h=>IsRangeIter h it (lo+(i:Nat)*1) ((n:Int) - (i:Nat)) 1) where
 mem:=by simp
 obj:=λi h st b hb=>by
  have e:b=it:=by simpa using hb
  subst e
  exact⟨_,st,λv z=>by
   have z':Data.fields _=Data.cell v:=z
   cases z'⟩
 keep:=λi h h' st k=>k it (by simp) _ st
 item:=by
  intro X hP hw hK hc i pins s σ H E I hf st hg
  subst hP hw hK
  obtain⟨f0,f1,f2,f3,f4,f5⟩:=hf it (by simp)
  have W:=Walks.range (prog:=X.prog) (w:=X.w) (I.ok.hd hc) it lo 1 n
  refine W.item i s _ _ hg st λv h' tk hv st' kk=>?_
  obtain⟨t,rfl⟩:=hv
  have I1:ad X pins σ H { s with heap:=h',toks:=tk }:=I.turned (λb o hb e=>kk b o (by simpa using hb) e) f0 f1 f3 f4 f5
  refine⟨_,rfl,ja (s:={ s with heap:=h',toks:=tk }) (n := "range_iterator") st' rfl rfl (by decide) ⟨.int (lo+i),H,I1,⟨t,?_⟩,⟨rfl,rfl⟩,st',λb hb=>(hf b hb).1⟩⟩
  rw[Int.mul_one]
 done:=by
  intro X hP hw hK hc i pins s σ H E I hf st hg
  subst hP hw hK
  obtain⟨f0,f1,f2,f3,f4,f5⟩:=hf it (by simp)
  exact wpAny_pyNext_range_end (I.ok.hd hc) st (by have:n<=i:=hg; omega) λh' eb=>⟨rfl,I.turned (t':=s.toks) (λb o hb e=>eb b o hb e) f0 f1 f3 f4 f5⟩
 self:=λ_ _ _ _ _ st h=>wpAny_pyIter_rangeiter st h
section
variable {X:Cx}{tg:Expr}
def mH(K:W.Frag)(tl:TE):TI:=λσ H R=>tl σ H λx H1=>∃ a,x=.ref a/\(∃ xs,az K H1 a xs)/\R (gu K a) H1
theorem yF{l:Expr}{tl:TE}(hl:PE X l tl):PI X tg l (mH X.K tl):=by
 intro pins s σ H R I h
 refine ai (hl pins s σ H _ I h) λv s1 ⟨x,H1,I1,r1,q1⟩=>?_
 obtain⟨a,e,⟨xs,hq⟩,q⟩:=q1
 subst e
 cases r1
 obtain⟨its,rv,p,hz⟩:=I1.list hq
 refine wpAny_pyIter_list p.isList ?_
 refine⟨s1.heap.objs.size,[s1.heap.objs.size],_,_,H1,rfl,I1.kept (t':=s1.toks) λb o e=>Heap.get?_push_of_some _ e,vE a _,⟨_,Heap.get?_push_size _ rfl,rfl,rfl⟩,λb hb=>?_,q⟩
 have e:b=s1.heap.objs.size:=by simpa using hb
 subst e
 exact I1.fpOk (Nat.le_refl _) (I1.hok.fresh (Nat.le_refl _))
theorem xt{pins:List (Addr × Obj)}{σ:St}{H:Hp}{s:Shared}{R:It->Hp->Prop}{E:Value->Shared->Prop}{lo hi:Int}{t u v:Tok}{tk:Nat}(I:ad X pins σ H s)(h1 : -(2 ^ 62)<=lo)(h2:lo < 2 ^ 62)(h3 : -(2 ^ 62)<=hi)(h4:hi < 2 ^ 62)
 (q:R (gk lo (hi - lo).toNat) H):wpAny (model X.prog X.w) X.A (pyIter (.ref s.heap.objs.size)) (uz X pins σ tg R) E { s with heap:=s.heap.push { cls:=.type "range",data:=.fields #[.int lo t,.int hi u,.int 1 v] },toks:=tk }:=by
 refine wpAny_pyIter_range (IsRange.new ..) (small_one h1 h2 h3 h4) ?_
 have I1:ad X pins σ H { s with heap:=s.heap.push { cls:=.type "range",data:=.fields #[.int lo t,.int hi u,.int 1 v] },toks:=tk }:=I.kept λb o e=>Heap.get?_push_of_some _ e
 refine⟨(s.heap.push { cls:=.type "range",data:=.fields #[.int lo t,.int hi u,.int 1 v] }).objs.size,[(s.heap.push { cls:=.type "range",data:=.fields #[.int lo t,.int hi u,.int 1 v] }).objs.size],_,_,H,rfl,
  I1.kept (t':=tk) λb o e=>Heap.get?_push_of_some _ e,vD _ lo (hi - lo).toNat,?_,λb hb=>?_,q⟩
 ·have e1:lo+((0:Nat):Int)*1=lo:=by simp
  have e2:(((hi - lo).toNat:Nat):Int) - ((0:Nat):Int)=Builtin.Range.rangeSize lo hi 1:=by rw[rangeSize_one]; split <;> omega
  show IsRangeIter _ _ (lo+((0:Nat):Int)*1) ((((hi - lo).toNat:Nat):Int) - ((0:Nat):Int)) 1
  rw[e1,e2]
  exact Heap.get?_push_size _ rfl
 ·have e:b=(s.heap.push { cls:=.type "range",data:=.fields #[.int lo t,.int hi u,.int 1 v] }).objs.size:=by simpa using hb
  subst e
  exact I1.fpOk (Nat.le_refl _) (I1.hok.fresh (Nat.le_refl _))
def sQ(ta:TA):TI:=λσ H R=>ta σ H λvs H1=>∃ j:Int,vs=[.int j]/\-(2 ^ 62)<=j/\j < 2 ^ 62/\R (gk 0 j.toNat) H1
theorem yE {a:Expr} {ta:TA} {p pos:Pos} (hg:Gl X "range") (hm:X.mg "range" = none) (ha:PA X [a] ta) (hs:starEach [a] X.env=[(false,eval a X.env)]:=by rfl):PI X tg (.Call (.Name "range" p) [a] [] pos) (sQ ta):=by
 intro pins s σ H R I h
 refine Call_ (fX I hg hm boot_range (PyProof.Rows.callWith_type1 (ai (ha pos pins s σ H _ I h) λus s1 ⟨vs,H1,I1,r1,q1⟩=>?_) hs rfl))
 obtain⟨j,e,q1,q2,q⟩:=q1
 subst e
 cases r1 with
 | cons r rr =>
  cases rr
  obtain⟨t,rfl⟩:=r
  exact call_range_1 (xt I1 (by omega) (by omega) q1 q2 (by simpa using q))
def qf(wi:TI)(g:TG)(tb:TS):TS:=λD σ H=>wi σ H λJ H1=>∃ W:Nat->Nat->St->Hp->Prop,(∃ m,W 0 m σ H1)/\∀ i m σ H,W i m σ H ->
 (J.stop i H/\D.nx σ H)\/(J.go i H/\∃ N:St->Hp->Prop,(∀ σ' H',N σ' H'->∃ m',m' < m/\W (i+1) m' σ' H')/\∀ x H',J.yld i H x H'->g x σ H' λσ2 H2=>tb { D with nx:=N,ct:=N,bk:=D.nx } σ2 H2)
def i6(fp:List Addr)(h:Heap):List (Addr × Obj):=fp.filterMap λb=>(h.get? b).map λo=>(b,o)
theorem jW{fp:List Addr}{h:Heap}{b:Addr}{o:Obj}(hb:b∈fp)(e:h.get? b=some o):(b,o)∈i6 fp h:=List.mem_filterMap.mpr ⟨b,hb,by rw[e]; rfl⟩
theorem zu{fp:List Addr}{h:Heap}{p:Addr × Obj}(hp:p∈i6 fp h):p.1∈fp/\h.get? p.1=some p.2:=by
 obtain⟨b,hb,e⟩:=List.mem_filterMap.mp hp
 cases q:h.get? b with
 | none=>rw[q]at e; cases e
 | some o =>
  rw[q]at e
  have e':(b,o)=p:=Option.some.inj e
  subst e'
  exact⟨hb,q⟩
theorem ad.pinned{pins:List (Addr × Obj)}{σ:St}{H:Hp}{s:Shared}{fp:List Addr}(I:ad X pins σ H s)(hf : ∀ b∈fp,c6 X pins H b)(ho : ∀ b∈fp,∃ o,s.heap.get? b=some o/\∀ v,o.data ≠ .cell v):ad X (pins++i6 fp s.heap) σ H s :=
 I.pins_of λp hp=>(List.mem_append.mp hp).elim (λz=>I.pin p (List.mem_append_right _ z)) λz=>by
  obtain⟨hb,e⟩:=zu z
  obtain⟨f0,f1,f2,_⟩:=hf p.1 hb
  obtain⟨o,e',d⟩:=ho p.1 hb
  rw[e]at e'; cases e'
  exact⟨e,f0,f1,f2,d⟩
theorem ad.unpinned{pins pl:List (Addr × Obj)}{σ:St}{H:Hp}{s:Shared}(I:ad X (pins++pl) σ H s):ad X pins σ H s:=I.pins_of λp hp=>I.pin p (List.mem_append_right _ (List.mem_append_left _ hp))
theorem yr{iter:Expr}{body:List Stmt}{wi:TI}{g:TG}{tb:TS}{pos:Pos}(hp:PassesOwn (model X.prog X.w) X.A X.env X.xe)(hc:X.calm=true)(hi:PI X tg iter wi)(hg:PG X tg g)(hb:cI X body tb)
 (hs : ∀ x,foldedSetIterable iter X.env x=pure x:=by intro _; rfl):PS X (.For tg iter body [] pos) (qf wi g tb):=by
 intro pins s σ H D I h
 refine wpAny_For (ai (hi pins s σ H _ I h) λv s1 h1=>ai h1 λitv s2 h2=>?_) hs
 obtain⟨it,fp,tn,J,H2,e,I2,T,st2,f2,W,⟨m0,w0⟩,turn⟩:=h2
 subst e
 have stat : ∀ {H':Hp},(∀ b∈fp,H' b=none)->∀ b∈fp,c6 X pins H' b:=λhn b hb=>⟨hn b hb,(f2 b hb).2⟩
 refine codeAny_forLoop_any (λn s'=>∃ i σ' H',ad X pins σ' H' s'/\tn i s'.heap/\(∀ b∈fp,H' b=none)/\W i n σ' H') ?_ m0 ⟨0,σ,H2,I2,st2,λb hb=>(f2 b hb).1,w0⟩
 rintro n s3 ⟨i,σ3,H3,I3,st3,fr3,w3⟩
 rcases turn i n σ3 H3 w3 with ⟨stop,qn⟩ | ⟨go,N,hN,step⟩
 ·refine wpAny_passesOwn hp (ai (T.done X rfl rfl rfl hc i pins s3 σ3 H3 X.xe I3 (stat fr3) st3 stop) λr s4 ⟨hr,I4⟩=>?_)
  subst hr
  exact wpAny_execs_nil ⟨σ3,H3,I4,qn⟩
 ·refine wpAny_passesOwn hp (ai (T.item X rfl rfl rfl hc i pins s3 σ3 H3 X.xe I3 (stat fr3) st3 go) λr s4 ⟨u,hr,h4⟩=>?_)
  subst hr
  refine wpAny_passesOwn hp (ai h4 λ_ s5 ⟨x,H5,I5,r5,y5,dR,fr5⟩=>?_)
  have I5':=I5.pinned (stat fr5) (T.obj _ _ dR)
  refine wpAny_passesOwn hp (ai (hg _ s5 σ3 H5 x u _ I5' r5 (step x H5 y5)) λ_ s6 ⟨σ6,H6,I6,q6⟩=>?_)
  refine wpAny_passesOwn hp (ai (hb _ s6 σ6 H6 _ I6 q6) λf s7 q7=>?_)
  have again : ∀ {σ7:St} {H7:Hp},ad X (pins++i6 fp s5.heap) σ7 H7 s7->N σ7 H7->∃ m,m < n/\∃ i σ' H',ad X pins σ' H' s7/\tn i s7.heap/\(∀ b∈fp,H' b=none)/\W i m σ' H':=λ{σ7 H7} I7 n7=>by
   obtain⟨m',hm,w7⟩:=hN σ7 H7 n7
   refine⟨m',hm,i+1,σ7,H7,I7.unpinned,T.keep _ _ _ dR λb hb o e=>(I7.pin (b,o) (List.mem_append_right _ (List.mem_append_right _ (jW hb e)))).1,λb hb=>?_,w7⟩
   obtain⟨o,e,d⟩:=T.obj _ _ dR b hb
   exact (I7.pin (b,o) (List.mem_append_right _ (List.mem_append_right _ (jW hb e)))).2.1
  cases f with
  | next=>obtain⟨σ7,H7,I7,n7⟩:=q7; exact again I7 n7
  | cont=>obtain⟨σ7,H7,I7,n7⟩:=q7; exact again I7 n7
  | brk=>obtain⟨σ7,H7,I7,q7⟩:=q7; exact⟨σ7,H7,I7.unpinned,q7⟩
  | ret v=>obtain⟨x7,σ7,H7,I7,r7,q7⟩:=q7; exact⟨x7,σ7,H7,I7.unpinned,r7,q7⟩
end
theorem fk{K:W.Frag}{a:Addr}{xs:List V}{g:TG}{tb:TS}{D:cG}{σ:St}{H:Hp}(Pv:Nat->St->Hp->Prop)(h0:Pv 0 σ H)(hl : ∀ i σ H,i<=xs.length->Pv i σ H->az K H a xs)
 (hs : ∀ i x σ H,xs[i]? = some x->Pv i σ H->g x σ H λσ2 H2=>tb { D with nx:=Pv (i+1),ct:=Pv (i+1),bk:=D.nx } σ2 H2) (hd : ∀ σ H,Pv xs.length σ H->D.nx σ H) :
 ∃ W:Nat->Nat->St->Hp->Prop,(∃ m,W 0 m σ H)/\∀ i m σ H,W i m σ H ->
  ((gu K a).stop i H/\D.nx σ H)\/((gu K a).go i H/\∃ N:St->Hp->Prop,(∀ σ' H',N σ' H'->∃ m',m' < m/\W (i+1) m' σ' H')/\∀ x H',(gu K a).yld i H x H'->g x σ H' λσ2 H2=>tb { D with nx:=N,ct:=N,bk:=D.nx } σ2 H2):=by
 refine⟨λi m σ H=>m=xs.length - i/\i<=xs.length/\Pv i σ H,⟨xs.length,by simp,Nat.zero_le _,h0⟩,?_⟩
 rintro i m σ H ⟨rfl,hi,p⟩
 have q:=hl i σ H hi p
 by_cases hlt:i < xs.length
 ·refine .inr ⟨⟨xs,xs[i],q,by simp[hlt]⟩,Pv (i+1),λσ' H' p'=>⟨xs.length - (i+1),by omega,rfl,hlt,p'⟩,λx H' y=>?_⟩
  obtain⟨e,y⟩:=y
  subst e
  exact hs i x σ _ (y xs q) p
 ·have e:i=xs.length:=by omega
  subst e
  exact .inl ⟨⟨xs,q,Nat.le_refl _⟩,hd σ H p⟩
theorem iA{lo:Int}{n:Nat}{g:TG}{tb:TS}{D:cG}{σ:St}{H:Hp}(Pv:Nat->St->Hp->Prop)(h0:Pv 0 σ H)
 (hs : ∀ i σ H,i < n->Pv i σ H->g (.int (lo+i)) σ H λσ2 H2=>tb { D with nx:=Pv (i+1),ct:=Pv (i+1),bk:=D.nx } σ2 H2) (hd : ∀ σ H,Pv n σ H->D.nx σ H) :
 ∃ W:Nat->Nat->St->Hp->Prop,(∃ m,W 0 m σ H)/\∀ i m σ H,W i m σ H ->
  ((gk lo n).stop i H/\D.nx σ H)\/((gk lo n).go i H/\∃ N:St->Hp->Prop,(∀ σ' H',N σ' H'->∃ m',m' < m/\W (i+1) m' σ' H')/\∀ x H',(gk lo n).yld i H x H'->g x σ H' λσ2 H2=>tb { D with nx:=N,ct:=N,bk:=D.nx } σ2 H2):=by
 refine⟨λi m σ H=>m=n - i/\i<=n/\Pv i σ H,⟨n,by simp,Nat.zero_le _,h0⟩,?_⟩
 rintro i m σ H ⟨rfl,hi,p⟩
 by_cases hlt:i < n
 ·refine .inr ⟨hlt,Pv (i+1),λσ' H' p'=>⟨n - (i+1),by omega,rfl,hlt,p'⟩,λx H' y=>?_⟩
  obtain⟨e,y⟩:=y
  subst e y
  exact hs i σ _ hlt p
 ·have e:i=n:=by omega
  subst e
  exact .inl ⟨Nat.le_refl _,hd σ H p⟩
abbrev R2:=V->V->Hp->VK->Prop
def aF(X:Cx)(f:Value->Value->Sem Value)(r:R2):Prop :=
 ∀ (pins:List (Addr × Obj)) (s:Shared) (σ:St) (H:Hp) (x y:V) (v u:Value) (Q:VK),ad X pins σ H s->ar x v->ar y u->r x y H Q ->
  wpAny (model X.prog X.w) X.A (f v u) (EP X pins σ Q) X.xe s
def bd(X:Cx)(f:Value)(r:List V->Hp->VK->Prop):Prop :=
 ∀ (pins:List (Addr × Obj)) (s:Shared) (σ:St) (H:Hp) (xs:List V) (us:List Value) (Q:VK),ad X pins σ H s->aq xs us->r xs H Q ->
  wpAny (model X.prog X.w) X.A (call f us) (EP X pins σ Q) X.xe s
def D6(X:Cx)(r:V->Hp->(Bool->Hp->Prop)->Prop):Prop :=
 ∀ (pins:List (Addr × Obj)) (s:Shared) (σ:St) (H:Hp) (x:V) (v:Value) (Q:Bool->Hp->Prop),ad X pins σ H s->ar x v->r x H Q ->
  wpAny (model X.prog X.w) X.A (truthy v) (TP X pins σ Q) X.xe s
def de(r:R2)(ta tb:TE):TE:=λσ H Q=>ta σ H λx H1=>tb σ H1 λy H2=>r x y H2 Q
def rI(C:Int->Int->Prop)(g:Int->Int->V):R2:=λx y H Q=>∃ i j,x=.int i/\y=.int j/\C i j/\Q (g i j) H
def fg(g:Int->Int->V):R2:=λx y H Q=>∃ i j,x=.int i/\y=.int j/\Q (g i j) H
section
variable {X:Cx}{a b c:Expr}{ta tb tc:TE}{pos:Pos}
theorem ow(ha:PE X a ta)(hb:PE X b tb){pins:List (Addr × Obj)}{s:Shared}{σ:St}{H:Hp}{R:V->V->Hp->Prop}(I:ad X pins σ H s)
 (h:ta σ H λx H1=>tb σ H1 λy H2=>R x y H2) {Q:Value->Shared->Prop} {f:Value->Value->Sem Value}
 (hf : ∀ v u s2 x y H2,ad X pins σ H2 s2->ar x v->ar y u->R x y H2->wpAny (model X.prog X.w) X.A (f v u) Q X.xe s2) :
 wpAny (model X.prog X.w) X.A (eval a X.env) (λv s₁=>wpAny (model X.prog X.w) X.A (eval b X.env) (λu s₂=>wpAny (model X.prog X.w) X.A (f v u) Q X.xe s₂) X.xe s₁) X.xe s:=by
 refine ai (ha pins s σ H _ I h) λv s1 ⟨x,H1,I1,r1,q1⟩=>?_
 refine ai (hb pins s1 σ H1 _ I1 q1) λu s2 ⟨y,H2,I2,r2,q2⟩=>?_
 exact hf v u s2 x y H2 I2 r1 r2 q2
theorem yP{op:Operator}{r:R2}(ho:aF X (binaryOp op) r)(ha:PE X a ta)(hb:PE X b tb):PE X (.BinOp a op b pos) (de r ta tb):=by
 intro pins s σ H Q I h
 exact wpAny_BinOp (ow ha hb I h λv u s2 x y H2 I2 rx ry q=>ho pins s2 σ H2 x y v u Q I2 rx ry q)
theorem rQ{f:Value->Value->Sem Value}{C:Int->Int->Prop}{g:Int->Int->Int}
 (rule : ∀ (i j:Int) (t u:Tok) (s:Shared) (Q:Value->Shared->Prop) (E:Value->Shared->Prop),C i j->Q (.int (g i j) s.toks) { s with toks:=s.toks+1 }->wpAny (model X.prog X.w) X.A (f (.int i t) (.int j u)) Q E s) :
 aF X f (rI C λi j=>.int (g i j)):=by
 intro pins s σ H x y v u Q I rx ry h
 obtain⟨i,j,rfl,rfl,hc,q⟩:=h
 obtain⟨t,rfl⟩:=rx
 obtain⟨t',rfl⟩:=ry
 exact rule i j t t' s _ _ hc ⟨.int (g i j),H,I.tok _,⟨_,rfl⟩,q⟩
theorem rP{f:Value->Value->Sem Value}{g:Int->Int->Int}
 (rule : ∀ (i j:Int) (t u:Tok) (s:Shared) (Q:Value->Shared->Prop) (E:Value->Shared->Prop),Q (.int (g i j) s.toks) { s with toks:=s.toks+1 }->wpAny (model X.prog X.w) X.A (f (.int i t) (.int j u)) Q E s) :
 aF X f (fg λi j=>.int (g i j)):=by
 intro pins s σ H x y v u Q I rx ry h
 obtain⟨i,j,rfl,rfl,q⟩:=h
 obtain⟨t,rfl⟩:=rx
 obtain⟨t',rfl⟩:=ry
 exact rule i j t t' s _ _ ⟨.int (g i j),H,I.tok _,⟨_,rfl⟩,q⟩
theorem mj{f:Value->Value->Sem Value}{g:Int->Int->Bool}
 (rule : ∀ (i j:Int) (t u:Tok) (s:Shared) (Q:Value->Shared->Prop) (E:Value->Shared->Prop),Q (.bool (g i j)) s->wpAny (model X.prog X.w) X.A (f (.int i t) (.int j u)) Q E s) :
 aF X f (fg λi j=>.bl (g i j)):=by
 intro pins s σ H x y v u Q I rx ry h
 obtain⟨i,j,rfl,rfl,q⟩:=h
 obtain⟨t,rfl⟩:=rx
 obtain⟨t',rfl⟩:=ry
 exact rule i j t t' s _ _ ⟨.bl (g i j),H,I,rfl,q⟩
def Ek(i j:Int):Prop:=0 < j/\j < 1073741824
theorem zr:aF X (binaryOp .Add) (fg λi j=>.int (i+j)):=rP λ_ _ _ _ _ _ _ q=>add_int q
theorem zp:aF X (binaryOp .FloorDiv) (rI Ek λi j=>.int (i / j)):=rQ λi j _ _ _ _ _ hc q=>by
 have h1:(0:Int) < j:=hc.1
 have h2:j < 1073741824:=hc.2
 exact floordiv_int (by omega) (by rw[Int.fdiv_eq_ediv_of_nonneg i (by omega)]; exact q) (.inl (PyProof.noPylong_small (by omega)))
theorem zl:aF X (binaryOp .Mod) (rI (λ_ j=>0 < j) λi j=>.int (i%j)):=rQ λi j _ _ _ _ _ hc q=>by
 have h1:(0:Int) < j:=hc
 exact mod_int' (by omega) (by rw[Int.fmod_eq_emod_of_nonneg i (by omega)]; exact q)
theorem AG:aF X (inplaceOp .Sub) (fg λi j=>.int (i - j)):=rP λ_ _ _ _ _ _ _ q=>isub_int q
end
def qB:V->V->Bool
 | .non,.non=>true | .non,.int _=>true | .int _,.non=>true | .non,.bl _=>true | .bl _,.non=>true | .non,.str _=>true | .str _,.non=>true
 | .int _,.int _=>true | .bl _,.bl _=>true | .str _,.str _=>true | .byt _,.byt _=>true
 | .int _,.str _=>true | .str _,.int _=>true | .bl _,.str _=>true | .str _,.bl _=>true
 | _,_=>false
def xC:R2:=λx y H Q=>qB x y=true/\Q (.bl (decide (x=y))) H
def xz:R2:=λx y H Q=>qB x y=true/\Q (.bl (!decide (x=y))) H
theorem tV{i j:Int}:decide (V.int i=V.int j)=(i == j):=by
 rw[Bool.eq_iff_iff]
 simp
theorem kx{i j:Bool}:decide (V.bl i=V.bl j)=(i == j):=by
 rw[Bool.eq_iff_iff]
 simp
theorem tT{i j:Str}:decide (V.str i=V.str j)=(i == j):=by
 rw[Bool.eq_iff_iff]
 simp
theorem tW{i j:Array UInt8}:decide (V.byt i=V.byt j)=(i.toList == j.toList):=by
 rw[Bool.eq_iff_iff]
 cases i
 cases j
 simp
section
variable {X:Cx}{a b c:Expr}{ta tb tc:TE}{pos:Pos}
theorem aY{pins:List (Addr × Obj)}{σ:St}{H:Hp}{s:Shared}{Q:VK}{k k':Bool}(I:ad X pins σ H s)(q:Q (.bl k) H)(e:k=k'):EP X pins σ Q (.bool k') s:=by
 subst e
 exact⟨.bl k,H,I,rfl,q⟩
theorem rO:aF X (compareOp .Eq) xC:=by
 intro pins s σ H x y v u Q I rx ry h
 obtain⟨hs,q⟩:=h
 cases x with
 | non =>
  cases rx
  cases y with
  | non=>cases ry; exact PySem.EqNone.eq_none_none (aY I q (by simp))
  | bl j=>cases ry; exact PySem.EqNone.eq_none_bool (aY I q (by simp))
  | int j=>obtain⟨t',rfl⟩:=ry; exact PySem.EqNone.eq_none_int (aY I q (by simp))
  | str j=>obtain⟨t',rfl⟩:=ry; exact PySem.EqNone.eq_none_str (aY I q (by simp))
  | _=>exact absurd (show false=true from hs) Bool.false_ne_true
 | bl i =>
  cases rx
  cases y with
  | non=>cases ry; exact PySem.EqNone.eq_bool_none (aY I q (by simp))
  | bl j=>cases ry; exact eq_bool (aY I q kx)
  | str j=>obtain⟨t',rfl⟩:=ry; exact PySem.EqMixed.eq_bool_str (aY I q (by simp))
  | _=>exact absurd (show false=true from hs) Bool.false_ne_true
 | int i =>
  obtain⟨t,rfl⟩:=rx
  cases y with
  | non=>cases ry; exact PySem.EqNone.eq_int_none (aY I q (by simp))
  | int j=>obtain⟨t',rfl⟩:=ry; exact eq_int (aY I q tV)
  | str j=>obtain⟨t',rfl⟩:=ry; exact PySem.EqMixed.eq_int_str (aY I q (by simp))
  | _=>exact absurd (show false=true from hs) Bool.false_ne_true
 | str i =>
  obtain⟨t,rfl⟩:=rx
  cases y with
  | non=>cases ry; exact PySem.EqNone.eq_str_none (aY I q (by simp))
  | bl j=>cases ry; exact PySem.EqMixed.eq_str_bool (aY I q (by simp))
  | int j=>obtain⟨t',rfl⟩:=ry; exact PySem.EqMixed.eq_str_int (aY I q (by simp))
  | str j=>obtain⟨t',rfl⟩:=ry; exact eq_str (aY I q tT)
  | _=>exact absurd (show false=true from hs) Bool.false_ne_true
 | byt i =>
  obtain⟨t,rfl⟩:=rx
  cases y with
  | byt j=>obtain⟨t',rfl⟩:=ry; exact W.eq_bytes (aY I q tW)
  | _=>exact absurd (show false=true from hs) Bool.false_ne_true
 | _=>cases y <;> exact absurd (show false=true from hs) Bool.false_ne_true
theorem rN:aF X (compareOp .NotEq) xz:=by
 intro pins s σ H x y v u Q I rx ry h
 obtain⟨hs,q⟩:=h
 cases x with
 | non =>
  cases rx
  cases y with
  | non=>cases ry; exact PySem.EqNone.ne_none_none (aY I q (by simp))
  | bl j=>cases ry; exact PySem.EqNone.ne_none_bool (aY I q (by simp))
  | int j=>obtain⟨t',rfl⟩:=ry; exact PySem.EqNone.ne_none_int (aY I q (by simp))
  | str j=>obtain⟨t',rfl⟩:=ry; exact PySem.EqNone.ne_none_str (aY I q (by simp))
  | _=>exact absurd (show false=true from hs) Bool.false_ne_true
 | bl i =>
  cases rx
  cases y with
  | non=>cases ry; exact PySem.EqNone.ne_bool_none (aY I q (by simp))
  | bl j=>cases ry; exact ne_bool (aY I q (congrArg not kx))
  | str j=>obtain⟨t',rfl⟩:=ry; exact PySem.EqMixed.ne_bool_str (aY I q (by simp))
  | _=>exact absurd (show false=true from hs) Bool.false_ne_true
 | int i =>
  obtain⟨t,rfl⟩:=rx
  cases y with
  | non=>cases ry; exact PySem.EqNone.ne_int_none (aY I q (by simp))
  | int j=>obtain⟨t',rfl⟩:=ry; exact ne_int (aY I q (congrArg not tV))
  | str j=>obtain⟨t',rfl⟩:=ry; exact PySem.EqMixed.ne_int_str (aY I q (by simp))
  | _=>exact absurd (show false=true from hs) Bool.false_ne_true
 | str i =>
  obtain⟨t,rfl⟩:=rx
  cases y with
  | non=>cases ry; exact PySem.EqNone.ne_str_none (aY I q (by simp))
  | bl j=>cases ry; exact PySem.EqMixed.ne_str_bool (aY I q (by simp))
  | int j=>obtain⟨t',rfl⟩:=ry; exact PySem.EqMixed.ne_str_int (aY I q (by simp))
  | str j=>obtain⟨t',rfl⟩:=ry; exact ne_str (aY I q (congrArg not tT))
  | _=>exact absurd (show false=true from hs) Bool.false_ne_true
 | byt i =>
  obtain⟨t,rfl⟩:=rx
  cases y with
  | byt j=>obtain⟨t',rfl⟩:=ry; exact W.ne_bytes (aY I q (congrArg not tW))
  | _=>exact absurd (show false=true from hs) Bool.false_ne_true
 | _=>cases y <;> exact absurd (show false=true from hs) Bool.false_ne_true
theorem zm:aF X (compareOp .Lt) (fg λi j=>.bl (decide (i < j))):=mj λ_ _ _ _ _ _ _ q=>lt_int q
theorem zn:aF X (compareOp .LtE) (fg λi j=>.bl (decide (i<=j))):=mj λ_ _ _ _ _ _ _ q=>le_int q
theorem zo:aF X (compareOp .Gt) (fg λi j=>.bl (decide (j < i))):=mj λ_ _ _ _ _ _ _ q=>gt_int q
theorem zk:aF X (compareOp .IsNot) (λx y H Q=>y=.non/\Q (.bl (!decide (x=.non))) H):=by
 intro pins s σ H x y v u Q I rx ry h
 obtain⟨rfl,q⟩:=h
 cases ry
 refine isnot_none_gen (aY I q ?_)
 cases x <;> first
  | (cases rx; rfl)
  | (obtain⟨t,rfl⟩:=rx; rfl)
theorem bf(b:Expr){op:CmpOp}(h:op ≠ .In:=by decide)(h2:op ≠ .NotIn:=by decide):behindInMarks op b=false:=by
 have e1:(op == CmpOp.In)=false:=by cases op <;> first | rfl | exact absurd rfl h
 have e2:(op == CmpOp.NotIn)=false:=by cases op <;> first | rfl | exact absurd rfl h2
 cases b <;> simp[behindInMarks,e1,e2]
theorem y6{op:CmpOp}{r:R2}(ho:aF X (compareOp op) r)(ha:PE X a ta)(hb:PE X b tb)(hm:behindInMarks op b=false):PE X (.Compare a [op] [b] pos) (de r ta tb):=by
 intro pins s σ H Q I h
 exact wpAny_Compare1 (ow ha hb I h λv u s2 x y H2 I2 rx ry q=>ho pins s2 σ H2 x y v u Q I2 rx ry q) hm
def D5(K:W.Frag)(x:V)(H:Hp)(k:Bool):Prop :=
 match x with
 | .non=>k=false
 | .bl b=>k=b
 | .int i=>k=(i != 0)
 | .str y=>y.length<=sizeLine/\k=((y.length:Int) != 0)
 | .byt y=>y.size<=sizeLine/\k=((y.size:Int) != 0)
 | .ref p=>(∃ xs,az K H p xs/\k = !xs.isEmpty)\/(∃ xs,bP K H p xs/\k = !xs.isEmpty)\/∃ kvs,H p=some (.dK kvs)/\k = !kvs.isEmpty
 | _=>False
theorem AF{κ:Type}{kvs:List (κ × V)}{vs:List (κ × Value)}(r:KV kvs vs):(!vs.isEmpty) = !kvs.isEmpty:=by
 cases r <;> rfl
theorem sN{xs:List V}{its:List Value}(r:aq xs its):(!its.toArray.isEmpty) = !xs.isEmpty:=by
 cases r <;> simp
theorem j3:(sizeLine:Nat) < 2 ^ 63:=by rw[sizeLine_eq]; decide
theorem iP:D6 X (λx H Q=>∃ k,D5 X.K x H k/\Q k H):=by
 intro pins s σ H x v Q I rx h
 obtain⟨k,e,q⟩:=h
 have hl:=j3
 have hs:sizeLine=16777216:=sizeLine_eq
 cases x with
 | non =>
  cases rx
  have e':k=false:=e
  subst e'
  exact truthy_none ⟨H,I,q⟩
 | bl b =>
  cases rx
  have e':k=b:=e
  subst e'
  exact wpAny_truthy_bool ⟨H,I,q⟩
 | int i =>
  obtain⟨t,rfl⟩:=rx
  have e':k=(i != 0):=e
  subst e'
  exact PySem.P.truthy_int ⟨H,I,q⟩
 | str y =>
  obtain⟨t,rfl⟩:=rx
  obtain⟨hy,e'⟩:y.length<=sizeLine/\k=((y.length:Int) != 0):=e
  subst e'
  exact PySem.P.truthy_str (by omega) ⟨H,I.tok _,q⟩
 | byt y =>
  obtain⟨t,rfl⟩:=rx
  obtain⟨hy,e'⟩:y.size<=sizeLine/\k=((y.size:Int) != 0):=e
  subst e'
  exact W.truthy_bytes (by omega) ⟨H,I.tok _,q⟩
 | ref p =>
  cases rx
  have e':(∃ xs,az X.K H p xs/\k = !xs.isEmpty)\/(∃ xs,bP X.K H p xs/\k = !xs.isEmpty)\/∃ kvs,H p=some (.dK kvs)/\k = !kvs.isEmpty:=e
  rcases e' with ⟨xs,hx,e'⟩ | ⟨xs,hx,e'⟩ | ⟨kvs,hx,e'⟩
  ·subst e'
   obtain⟨its,r,pl,hz⟩:=I.list hx
   have hlen:=r.length
   exact wpAny_truthy_list pl.isList (by simp only [List.size_toArray]; omega) ⟨H,I.tok _,by rw[sN r]; exact q⟩
  ·subst e'
   obtain⟨its,r,pl,hz⟩:=I.tuple hx
   have hlen:=r.length
   exact truthy_tuple pl (by simp only [List.size_toArray]; omega) ⟨H,I.tok _,by rw[sN r]; exact q⟩
  ·subst e'
   obtain⟨hz,hS,vs,r,m⟩:kvs.length<=sizeLine/\(p == sysModules)=false/\∃ vs,KV kvs vs/\s.heap.DictOf (bL X.prog X.w) p vs:=I.hok p _ hx
   have hlen:kvs.length=vs.length:=Paired.length r
   exact wpAny_truthy_dict hS m (by omega) ⟨H,I.tok _,by rw[AF r]; exact q⟩
 | _=>exact (show False from e).elim
theorem fJ{x:V}{us:List Value}(r:aq [x] us) : ∃ u,us=[u]/\ar x u:=by
 cases r with
 | cons r1 r2=>cases r2; exact⟨_,rfl,r1⟩
theorem jt{x y:V}{us:List Value}(r:aq [x,y] us) : ∃ u w',us=[u,w']/\ar x u/\ar y w':=by
 cases r with
 | cons r1 r2 =>
  cases r2 with
  | cons r3 r4=>cases r4; exact⟨_,_,rfl,r1,r3⟩
end
structure gj (h:Heap) (x dx C:Addr) (mA:Str->Option Value):Prop where
 obj:h.get? x=some (W.instObj C dx)
 ns:h.Ns1 dx mA
 ne:dx≠x
theorem Al{h:Heap}{dx:Addr}{mA:Str->Option Value}(n:h.Ns1 dx mA) : ∃ od,h.get? dx=some od/\∀ name,W.lookIn name od=some (mA name):=by
 obtain⟨o,es,ep,ho,hd,hk,_,hm⟩:=n
 refine⟨o,ho,λname=>?_⟩
 have e:=hm name
 unfold nsFind findBy at e
 rw[<- Array.find?_toList]at e
 unfold W.lookIn
 rw[hd]
 dsimp only
 split
 ·rename_i y q
  rw[q]at e
  exact congrArg some e
 ·rename_i q
  rw[q]at e
  have a:es.toList.any (·.refKey)=false:=by
   rw[List.any_eq_false]
   intro y hy
   obtain⟨z,t,hkey⟩:=hk y (Array.mem_toList_iff.mp hy)
   simp[DictEntry.refKey,hkey]
  have a' : ¬ es.toList.any (·.refKey)=true:=by rw[a]; exact Bool.false_ne_true
  rw[if_neg a']
  exact congrArg some e
theorem gj.look{h:Heap}{x dx C:Addr}{mA:Str->Option Value}(I:gj h x dx C mA) : ∃ od,W.InstAt h x (W.instObj C dx) C (some od)/\∀ name,W.lookIn name od=some (mA name) :=
 let ⟨od,ho,hl⟩:=Al I.ns
 ⟨od,⟨I.obj,rfl,rfl,ho⟩,hl⟩
section
variable {prog:Program}{w:World}{A:Around}{E:Value->Shared->Prop}{s:Shared}{K:W.Frag}{x dx C f:Addr}{mA:Str->Option Value}{name:Str}{v:Value}
theorem Bq{expr:Bool}{Q:Value->Shared->Prop}(X:K.In s.heap)(I:gj s.heap x dx C mA)(hg:W.plainGet K C name=true)(hh:W.hasDictIn K C=true)
 (ha:W.findIn K (.ref C) name=some none) (hv:mA name=some v) (hv':W.handedIn v=true) (h:Q v { s with toks:=s.toks+1 }) :
 wpAny (model prog w) A (getAttr (.ref x) name expr) Q E s:=by
 obtain⟨od,J,hl⟩:=I.look
 exact W.get_value X J (W.plainGet_of hg).1 (W.findObj_own hh ha rfl (by rw[hl,hv])) hv' h
theorem Bp{pl:Sem Bool}{Q:Value × List Value->Shared->Prop}(X:K.In s.heap)(I:gj s.heap x dx C mA)(hg:W.plainGet K C name=true)
 (hf:W.findIn K (.ref C) name=some (some (.ref f))) (ht:W.isFn K (.ref f)=true) (hv:mA name=none) (h:Q (.ref f,[.ref x]) s) :
 wpAny (model prog w) A (getMethod (.ref x) name pl) Q E s:=by
 obtain⟨od,J,hl⟩:=I.look
 exact W.method_fn X J (W.plainGet_of hg).1 (W.plainGet_of hg).2 hf (beq_iff_eq.mp ht) (by show (W.lookIn name od).map (·.isSome)=some false; rw[hl,hv]; rfl) h
theorem wN{ns:List Str}{Q:Unit->Shared->Prop}(X:K.In s.heap)(I:gj s.heap x dx C mA)
 (hs:W.findIn K (.ref C) "__setattr__" = some (some (.builtin "object.__setattr__"))) (hp:W.plainOver K C=true) (ht:W.takerIn K C name=some none) (hh:W.hasDictIn K C=true)
 (hw:PySem.Within mA ns) (hsz:ns.length<=sizeLine)
 (h : ∀ h',gj h' x dx C (λy=>if y=name then some v else mA y)->Heap.SameBut dx s.heap h'->Q () { s with heap:=h',toks:=s.toks+2 }) :
 wpAny (model prog w) A (setAttr (.ref x) name v) Q E s:=by
 obtain⟨od,J,hl⟩:=I.look
 refine W.set_plain X J hs (W.osa_open (s:={ s with toks:=s.toks+1 }) (r:=none) X J hp ht λb=>?_)
 obtain⟨cd,hc,hd'⟩:=W.any_some hh
 have hx:s.heap.get? x=some ⟨.ref C,some dx,.plain,#[]⟩:=I.obj
 refine wpAny_bind (wpAny_pure (wpAny_bind (wpAny_bind (wpAny_loadPart hx (wpAny_bind (W.Looks.here (s:={ s with toks:=s.toks+1 }) (W.looks_clsIn X hc) ?_))))))
 rw[hd']
 refine wpAny_pure (a:=some dx) (wpAny_bind (wpAny_pure (wpAny_bind ?_)))
 refine wpAny_nsSet1 (s:={ s with toks:=s.toks+1 }) I.ns λh' hn2 hs2=>?_
 obtain⟨oD,esD,epD,hoD,hdD,hcD⟩:=hn2.count (PySem.Within.cons name v hw)
 refine wpAny_bind (wpAny_lookBehind hoD (by rw[hdD]; exact pastItsLine_dict (Nat.le_trans hcD (by rw[List.length_cons]; omega))) ?_)
 exact wpAny_pure (h _ ⟨(hs2.2 _ (Ne.symm I.ne)).trans I.obj,hn2,I.ne⟩ hs2)
theorem Ae{R:Result->Shared->Prop}{vs:List Value}{kw:List (Str × Value)}(X:K.In s.heap)(hm:W.makesIn K C=true)
 (hi:W.findIn K (.ref C) "__init__" = some (some (.ref f))) (hf:W.typeIn K (.ref f)=some (.type "function"))
 (h:codeAny (model prog w) (A.under (.builtin "type.__call__" ⟨.ref C :: vs,kw⟩)) (.call (.ref f) ⟨.ref (s.heap.objs.size+1) :: vs,kw⟩) (W.InitBack (s.heap.objs.size+1) R)
   { s with heap:=(s.heap.push W.emptyDict).push (W.instObj C s.heap.objs.size) }) :
 codeAny (model prog w) A (.call (.ref C) ⟨vs,kw⟩) R s:=by
 obtain⟨hh,g,d,t,os⟩:=s
 exact W.make_core (W.makes_of X hm) (W.looks_findIn X hi) (λself=>W.bind_fn X self hf) (.inl rfl) h
end
def bU(f:Str)(v:V):List (Str × V)->List (Str × V)
 | []=>[(f,v)]
 | (g,x) :: r=>if g=f then (g,v) :: r else (g,x) :: bU f v r
theorem sk(f g:Str)(v:V) : ∀ fs:List (Str × V),(bU f v fs).lookup g=if g=f then some v else fs.lookup g
 | []=>by
  show List.lookup g [(f,v)]=_
  by_cases h:g=f
  ·have hb:(g == f)=true:=beq_iff_eq.mpr h
   simp only [List.lookup,hb,if_pos h]
  ·have hb:(g == f)=false:=beq_eq_false_iff_ne.mpr h
   simp only [List.lookup,hb,if_neg h]
 | (k,x) :: r=>by
  have ih:=sk f g v r
  rw[show bU f v ((k,x) :: r)=(if k=f then (k,v) :: r else (k,x) :: bU f v r) from rfl]
  by_cases hk:k=f
  ·rw[if_pos hk]
   by_cases h:g=k
   ·have hb:(g == k)=true:=beq_iff_eq.mpr h
    simp only [List.lookup,hb,if_pos (h.trans hk)]
   ·have hb:(g == k)=false:=beq_eq_false_iff_ne.mpr h
    simp only [List.lookup,hb,if_neg (λe:g=f=>h (e.trans hk.symm))]
  ·rw[if_neg hk]
   by_cases h:g=k
   ·have hb:(g == k)=true:=beq_iff_eq.mpr h
    simp only [List.lookup,hb,if_neg (λe:g=f=>hk (h.symm.trans e))]
   ·have hb:(g == k)=false:=beq_eq_false_iff_ne.mpr h
    simp only [List.lookup,hb]
    exact ih
theorem mz(f:Str)(v:V) : ∀ fs:List (Str × V),f∈(bU f v fs).map (·.1)/\∀ g,g∈fs.map (·.1)->g∈(bU f v fs).map (·.1)
 | []=>⟨by simp[bU],λg h=>by simp at h⟩
 | (k,x) :: r=>by
  obtain⟨i1,i2⟩:=mz f v r
  rw[show bU f v ((k,x) :: r)=(if k=f then (k,v) :: r else (k,x) :: bU f v r) from rfl]
  by_cases hk:k=f
  ·rw[if_pos hk]
   subst hk
   exact⟨by simp,λg h=>by simpa using h⟩
  ·rw[if_neg hk]
   refine⟨?_,λg h=>?_⟩
   ·rw[List.map_cons]
    exact List.mem_cons_of_mem _ i1
   ·rw[List.map_cons]at h ⊢
    rcases List.mem_cons.mp h with e | e
    ·exact List.mem_cons.mpr (.inl e)
    ·exact List.mem_cons_of_mem _ (i2 g e)
theorem sx(f:Str)(v:V) : ∀ fs:List (Str × V),(bU f v fs).length<=fs.length+1
 | []=>by simp[bU]
 | (k,x) :: r=>by
  have ih:=sx f v r
  rw[show bU f v ((k,x) :: r)=(if k=f then (k,v) :: r else (k,x) :: bU f v r) from rfl]
  by_cases hk:k=f
  ·rw[if_pos hk,List.length_cons,List.length_cons]; omega
  ·rw[if_neg hk,List.length_cons,List.length_cons]; omega
theorem bR.some_of{v:V}{o:Option Value}(r:bR (some v) o) : ∃ u,o=some u/\ar v u:=by
 cases o with
 | none=>exact (show False from r).elim
 | some u=>exact⟨u,rfl,r⟩
theorem bR.none_of{o:Option Value}(r:bR none o):o=none:=by
 cases o with
 | none=>rfl
 | some u=>exact (show False from r).elim
theorem AS{v:V}{u:Value}(r:ar v u):W.handedIn u=true:=by
 cases v with
 | non=>cases (show u=Value.none from r); rfl
 | bl b=>cases (show u=Value.bool b from r); rfl
 | int i=>obtain⟨t,e⟩:=(show ∃ t,u=Value.int i t from r); cases e; rfl
 | str x=>obtain⟨t,e⟩:=(show ∃ t,u=Value.str x t from r); cases e; rfl
 | byt b=>obtain⟨t,e⟩:=(show ∃ t,u=Value.bytes b t from r); cases e; rfl
 | flt b=>obtain⟨t,e⟩:=(show ∃ t,u=Value.float b t from r); cases e; rfl
 | ref a=>cases (show u=Value.ref a from r); rfl
 | ty n=>cases (show u=Value.type n from r); rfl
section
variable {P:Program}{w:World}{H H':Hp}{h h':Heap}{a C dx:Addr}{fs fs':List (Str × V)}
theorem j8(hok:aM P w H h)(e:H a=some (.ins C dx fs)) : ∃ mA,gj h a dx C mA/\(∀ f,bR (fs.lookup f) (mA f))/\PySem.Within mA (fs.map (·.1))/\fs.length<=1000/\H dx=some (.own a):=by
 obtain⟨d,z,ne,ob,mA,n,r,q⟩:=(show aH P w H h a (.ins C dx fs) from hok a _ e)
 exact⟨mA,⟨ob,n,ne⟩,r,q,z,d⟩
end
structure cK (K:W.Frag) (C:Addr):Prop where
 pg:W.plainGet K C Str.empty=true
 hd:W.hasDictIn K C=true
 po:W.plainOver K C=true
 sa:W.findIn K (.ref C) "__setattr__" = some (some (.builtin "object.__setattr__"))
theorem cK.get{K:W.Frag}{C:Addr}(c:cK K C)(f:Str):W.plainGet K C f=true:=c.pg
def eR(K:W.Frag)(C:Addr)(f:Str):Prop:=W.findIn K (.ref C) f=some none
theorem eR.taker{K:W.Frag}{C:Addr}{f:Str}(n:eR K C f):W.takerIn K C f=some none:=by
 unfold W.takerIn
 rw[show W.findIn K (.ref C) f=some none from n]
 rfl
structure EG (K:W.Frag) (C:Addr) (f:Str) (v:V) (u:Value):Prop where
 at_:W.findIn K (.ref C) f=some (some u)
 rel:ar v u
 get:W.specialIn K u "__get__" = some none
 cp:W.copiedNames.contains f=false
structure fD (K:W.Frag) (C:Addr) (m:Str) (f:Addr):Prop where
 at_:W.findIn K (.ref C) m=some (some (.ref f))
 fn:W.isFn K (.ref f)=true
 kp:W.keepIn K (.ref f)=true
section
variable {X:Cx}{pins:List (Addr × Obj)}{σ:St}{H:Hp}{s:Shared}{a C dx:Addr}{fs:List (Str × V)}{f:Str}{v:V}{A:Around}{E:Value->Shared->Prop}
theorem Bn{b:Bool}{Q:Value->Shared->Prop}(I:ad X pins σ H s)(e:H a=some (.ins C dx fs))(c:cK X.K C)(n:eR X.K C f)(l:fs.lookup f=some v)
 (h : ∀ u s',ad X pins σ H s'->ar v u->Q u s'):wpAny (model X.prog X.w) A (getAttr (.ref a) f b) Q E s:=by
 obtain⟨mA,O,r,_,_,_⟩:=j8 I.hok e
 obtain⟨u,hu,ru⟩:=bR.some_of (v:=v) (o:=mA f) (by rw[<- l]; exact r f)
 exact Bq I.kIn O (c.get f) c.hd n hu (AS ru) (h u _ (I.tok _) ru)
theorem ti{m:Str}{g:Addr}{pl:Sem Bool}{Q:Value × List Value->Shared->Prop}(I:ad X pins σ H s)(e:H a=some (.ins C dx fs))(c:cK X.K C)(k:fD X.K C m g)(l:fs.lookup m=none)
 (h:Q (.ref g,[.ref a]) s):wpAny (model X.prog X.w) A (getMethod (.ref a) m pl) Q E s:=by
 obtain⟨mA,O,r,_,_,_⟩:=j8 I.hok e
 have hn:mA m=none:=bR.none_of (by rw[<- l]; exact r m)
 exact Bp I.kIn O (c.get m) k.at_ k.fn hn h
theorem wM{y:V}{u:Value}{Q:Unit->Shared->Prop}(I:ad X pins σ H s)(e:H a=some (.ins C dx fs))(c:cK X.K C)(n:eR X.K C f)(hl:fs.length < 1000)(ry:ar y u)
 (h : ∀ s',ad X pins σ (upd H a (.ins C dx (bU f y fs))) s'->Q () s'):wpAny (model X.prog X.w) A (setAttr (.ref a) f u) Q E s:=by
 obtain⟨mA,O,r,wi,_,ho⟩:=j8 I.hok e
 have hz:(fs.map (·.1)).length<=sizeLine:=by rw[List.length_map,sizeLine_eq]; omega
 refine wN I.kIn O c.sa c.po n.taker c.hd wi hz λh' O' sb=>h _ ?_
 have hd : ∃ o,h'.get? dx=some o:=let ⟨o,_,_,e',_⟩:=O'.ns; ⟨o,e'⟩
 refine I.write (x:=a) (e:=dx) (by rw[e]; exact True.intro) (.inr ho) (λb q hb z=>(sb.2 b hb).trans z) hd ?_
 refine⟨by rw[aj O.ne]; exact ho,?_,O.ne,O'.obj,_,O'.ns,λg=>?_,λg hg=>?_⟩
 ·have:=sx f y fs; omega
 ·show bR ((bU f y fs).lookup g) (if g=f then some u else mA g)
  rw[sk]
  by_cases q:g=f
  ·rw[if_pos q,if_pos q]; exact ry
  ·rw[if_neg q,if_neg q]; exact r g
 ·by_cases q:g=f
  ·rw[q]; exact (mz f y fs).1
  ·refine (mz f y fs).2 g (wi g λz=>hg ?_)
   show (if g=f then some u else mA g)=none
   rw[if_neg q]; exact z
theorem ad.made(I:ad X pins σ H s):ad X pins σ (upd (upd H s.heap.objs.size (.own (s.heap.objs.size+1))) (s.heap.objs.size+1) (.ins C s.heap.objs.size []))
 { s with heap:=(s.heap.push W.emptyDict).push (W.instObj C s.heap.objs.size) }:=by
 have e1:(s.heap.push W.emptyDict).get? s.heap.objs.size=some W.emptyDict:=Heap.get?_push_size s.heap rfl
 have e2:((s.heap.push W.emptyDict).push (W.instObj C s.heap.objs.size)).get? (s.heap.objs.size+1)=some (W.instObj C s.heap.objs.size):=by
  have:=Heap.get?_push_size (s.heap.push W.emptyDict) (o:=W.instObj C s.heap.objs.size) rfl
  rwa [Heap.size_push]at this
 have e3:(s.heap.push W.emptyDict).Ns s.heap.objs.size (λ_=>none):=⟨W.emptyDict,#[],_,e1,rfl,(λe he=>absurd he (by simp)),λ_=>rfl⟩
 have I1:=I.laid (a:=s.heap.objs.size) (o:=.own (s.heap.objs.size+1)) (h':=s.heap.push W.emptyDict) (t':=s.toks) (λb u q=>Heap.get?_push_of_some _ q) (Nat.le_refl _) ⟨_,e1⟩
 refine I1.laid (a:=s.heap.objs.size+1) (o:=.ins C s.heap.objs.size []) (t':=s.toks) (λb u q=>Heap.get?_push_of_some _ q) (Nat.le_of_eq (Heap.size_push _ _)) ?_
 have ne:s.heap.objs.size≠s.heap.objs.size+1:=Nat.ne_of_lt (Nat.lt_succ_self _)
 refine⟨by rw[aj ne,aN],Nat.zero_le _,ne,e2,λ_=>none,(Heap.Ns1.of_empty e3).at λo q=>Heap.get?_push_of_some _ q,λ_=>True.intro,λy hy=>absurd rfl hy⟩
theorem DX{prog:Program}{w:World}{env:Env}{e:Expr}{f:Str}{pos:Pos}{s:Shared}{Q:Value->Shared->Prop}(hb:attributeBase e f env (eval e env)=eval e env)
 (h:wpAny (model prog w) A (eval e env) (λo s₁=>wpAny (model prog w) A (getAttr o f true) Q E s₁) E s):wpAny (model prog w) A (eval (.Attribute e f pos) env) Q E s :=
 Attribute_any_ h (by rw[arm_eval_Attribute,hb])
end
def qi(K:W.Frag)(ta:TE)(f:Str):TE:=λσ H Q=>ta σ H λx H1=>∃ a C dx fs v,x=.ref a/\H1 a=some (.ins C dx fs)/\cK K C/\eR K C f/\fs.lookup f=some v/\Q v H1
def qE(K:W.Frag)(ta tv:TE)(f:Str):TS:=λD σ H=>tv σ H λy H1=>ta σ H1 λx H2=>∃ a C dx fs,x=.ref a/\H2 a=some (.ins C dx fs)/\cK K C/\eR K C f/\fs.length < 1000 /\
 D.nx σ (upd H2 a (.ins C dx (bU f y fs)))
section
variable {X:Cx}{o e value:Expr}{f:Str}{pos pos' tpos:Pos}{ta tv:TE}
theorem yX(he:PE X e ta)(hb:attributeBase e f X.env (eval e X.env)=eval e X.env):PE X (.Attribute e f pos) (qi X.K ta f):=by
 intro pins s σ H Q I h
 refine DX hb (ai (he pins s σ H _ I h) λu s1 ⟨x,H1,I1,rx,a,C,dx,fs,v,ex,ea,c,n,l,q⟩=>?_)
 subst ex
 obtain rfl:u=Value.ref a:=rx
 exact Bn I1 ea c n l λu' s2 I2 ru=>⟨v,H1,I2,ru,q⟩
theorem yt(ha:PE X o ta)(hv:PE X value tv)(hs:swapsWith value (some (.Attribute o f pos')) pos.line X.env=pure false):PS X (.Assign [.Attribute o f pos'] value pos) (qE X.K ta tv f):=by
 intro pins s σ H D I h
 refine plainObj_wpAny_Assign_Attribute (ai (hv pins s σ H _ I h) λu s1 ⟨y,H1,I1,ry,q⟩=>ai (ha pins s1 σ H1 _ I1 q) λov s2 ⟨x,H2,I2,rx,a,C,dx,fs,ex,ea,c,n,l,q2⟩=>?_) hs
 subst ex
 obtain rfl:ov=Value.ref a:=rx
 exact wM I2 ea c n l ry λs3 I3=>⟨σ,_,I3,q2⟩
end
section
variable {X:Cx}{pins:List (Addr × Obj)}{σ:St}{H:Hp}{s:Shared}{A:Around}{E:Value->Shared->Prop}{Q:Value->Shared->Prop}{c:Value}{b:Bool}
inductive cc (K:W.Frag) (H:Hp):V->Value->Prop where
 | non:cc K H .non (.type "NoneType")
 | bl (x:Bool):cc K H (.bl x) (.type "bool")
 | int (i:Int):cc K H (.int i) (.type "int")
 | str (x:Str):cc K H (.str x) (.type "str")
 | flt (x:UInt64):cc K H (.flt x) (.type "float")
 | lst {a:Addr} {xs:List V} (e:H a=some (.lst xs)):cc K H (.ref a) (.type "list")
 | frz {a:Addr} {o:Obj} {xs:List V} (e:H a=some (.frz o (.lst xs))):cc K H (.ref a) (.type "list")
 | tup {a:Addr} {xs:List V} (e:H a=some (.tup xs)):cc K H (.ref a) (.type "tuple")
 | dK {a:Addr} {kvs:List (ak × V)} (e:H a=some (.dK kvs)):cc K H (.ref a) (.type "dict")
 | dT {a:Addr} {kvs:List (List ak × V)} (e:H a=some (.dT kvs)):cc K H (.ref a) (.type "dict")
 | ins {a C dx:Addr} {fs:List (Str × V)} (e:H a=some (.ins C dx fs)) (cl:cK K C) (ha:W.findIn K (.ref C) "__class__" = some (some (.builtin "object.__class__")))
  (hn:W.specialIn K (.builtin "object.__class__") "__get__" = some (some (.builtin "getset_descriptor.__get__"))) (htk:W.takesIn K (.builtin "object.__class__")=some true)
  (hm:W.mroIn K C (.type "object")=some true):cc K H (.ref a) (.ref C)
theorem sM{x:V}{u t:Value}(I:ad X pins σ H s)(rx:ar x u)(ty:cc X.K H x t)(e:W.kitOne X.K t c=some b)(h : ∀ tk,Q (.bool b) { s with toks:=tk }) :
 wpAny (model X.prog X.w) A (call (.builtin "isinstance") [u,c]) Q E s:=by
 cases ty with
 | non=>cases (show u=Value.none from rx); exact W.kia_one W.kitx_none I.kIn True.intro e (λz=>nomatch z) h
 | bl y=>cases (show u=Value.bool y from rx); exact W.kia_one W.kitx_bool I.kIn True.intro e (λz=>nomatch z) h
 | int i=>obtain⟨t,q⟩:=(show ∃ t,u=Value.int i t from rx); cases q; exact W.kia_one W.kitx_int I.kIn True.intro e (λz=>nomatch z) h
 | str y=>obtain⟨t,q⟩:=(show ∃ t,u=Value.str y t from rx); cases q; exact W.kia_one W.kitx_str I.kIn True.intro e (λz=>nomatch z) h
 | flt y=>obtain⟨t,q⟩:=(show ∃ t,u=Value.float y t from rx); cases q; exact W.kia_one W.kitx_float I.kIn True.intro e (λz=>nomatch z) h
 | @lst a xs ea =>
  cases (show u=Value.ref a from rx)
  obtain⟨_,_,n,_,h1⟩:=(show aH X.prog X.w H s.heap a (.lst xs) from I.hok a _ ea)
  exact W.kia_one W.kitx_list I.kIn ⟨_,h1,rfl⟩ e (λz=>nomatch z) h
 | @frz a ob xs ea =>
  cases (show u=Value.ref a from rx)
  obtain⟨_,_,_,n,_,h1⟩:=(show aH X.prog X.w H s.heap a (.frz ob (.lst xs)) from I.hok a _ ea)
  exact W.kia_one W.kitx_list I.kIn ⟨_,h1,rfl⟩ e (λz=>nomatch z) h
 | @tup a xs ea =>
  cases (show u=Value.ref a from rx)
  obtain⟨_,_,_,p⟩:=(show aH X.prog X.w H s.heap a (.tup xs) from I.hok a _ ea)
  obtain⟨o,h1,h2,_⟩:=p
  exact W.kia_one W.kitx_tuple I.kIn ⟨o,h1,h2⟩ e (λz=>nomatch z) h
 | @dK a kvs ea =>
  cases (show u=Value.ref a from rx)
  obtain⟨_,_,vs,_,p⟩:=(show aH X.prog X.w H s.heap a (.dK kvs) from I.hok a _ ea)
  obtain⟨o,es,ep,h1,h2,_⟩:=p
  exact W.kia_one W.kitx_dict I.kIn ⟨o,h1,h2.1⟩ e (λz=>nomatch z) h
 | @dT a kvs ea =>
  cases (show u=Value.ref a from rx)
  obtain⟨_,_,xs,_,o,es,ep,h1,h2,_⟩:=(show aH X.prog X.w H s.heap a (.dT kvs) from I.hok a _ ea)
  exact W.kia_one W.kitx_dict I.kIn ⟨o,h1,h2.1⟩ e (λz=>nomatch z) h
 | @ins a C dx fs ea cl ha hn htk hm =>
  cases (show u=Value.ref a from rx)
  obtain⟨mA,O,_⟩:=j8 I.hok ea
  obtain⟨od,J,_⟩:=O.look
  exact W.kia_one (W.kitx_own (cl.get _) cl.hd ha hn htk hm) I.kIn J e (λz=>nomatch z) h
end
structure aP (k:Nat) (A:Around):Prop where
 hd:A.handled=none
 dp:A.depth+3*k+5 < recursionLimit
 un:A.units+16*k+200 < cLine
theorem aP.mono{j k:Nat}{A:Around}(r:aP k A)(h:j<=k):aP j A:=⟨r.hd,by have:=r.dp; omega,by have:=r.un; omega⟩
theorem aP.deeper{k:Nat}{A:Around}(r:aP (k+1) A)(env:Env):aP k (A.deeper env) :=
 ⟨r.hd,by have:=r.dp; show A.depth+1+3*k+5 < _; omega,by have:=r.un; show A.units+3+16*k+200 < _; omega⟩
theorem aP.in1{k:Nat}{A:Around}(r:aP (k+1) A):aP k A.in1 :=
 ⟨r.hd,by have:=r.dp; show A.depth+3*k+5 < _; omega,by have:=r.un; show A.units+1+16*k+200 < _; omega⟩
theorem Af {A:Around} {C:Addr} {us:List Value} {kw:List (Str × Value)}:(A.under (.builtin "type.__call__" ⟨.ref C :: us,kw⟩)).depth=A.depth+1:=by
 first | rfl | simp[Around.under,Code.weight,Code.isCreation,Code.isGuard,Code.isCaller,Code.frames,Code.isFrame,guardIds]
theorem Ad {A:Around} {C:Addr} {us:List Value} {kw:List (Str × Value)}:(A.under (.builtin "type.__call__" ⟨.ref C :: us,kw⟩)).units=A.units+1:=by
 first | rfl | simp[Around.under,Code.cUnits,Code.frames,Code.isFrame]
theorem aP.make {k:Nat} {A:Around} (r:aP (k+1) A) (C:Addr) (us:List Value) (kw:List (Str × Value)):aP k (A.under (.builtin "type.__call__" ⟨.ref C :: us,kw⟩)) :=
 ⟨r.hd,by have:=r.dp; rw[Af]; omega,by have:=r.un; rw[Ad]; omega⟩
theorem aP.depth{k:Nat}{A:Around}(r:aP k A):A.depth < recursionLimit:=by have:=r.dp; omega
theorem aP.units{k:Nat}{A:Around}(r:aP k A):A.units+64 < cLine:=by have:=r.un; omega
def jx:TA:=λ_ H Q=>Q [] H
def k9(ta:TE)(tr:TA):TA:=λσ H Q=>ta σ H λx H1=>tr σ H1 λxs H2=>Q (x :: xs) H2
section
variable {X:Cx}{e:Expr}{es:List Expr}{te:TE}{t:TA}{pos:Pos}
theorem rF:PA X [] jx:=λ_ _ _ _ H Q I h=>Calls.spliced_nil ⟨[],H,I,.nil,h⟩
theorem ze(ha:PE X e te)(hr:PA X es t)(hs:starEach (e :: es) X.env=(false,eval e X.env) :: starEach es X.env:=by rfl):PA X (e :: es) (k9 te t):=by
 intro pos pins s σ H Q I h
 rw[hs]
 show wpAny _ _ (spliced ((false,eval e X.env) :: backTo pos (starEach es X.env))) _ _ s
 refine Calls.spliced_cons (ai (ha pins s σ H _ I h) λu s1 ⟨x,H1,I1,r1,q1⟩=>?_)
 exact ai (hr pos pins s1 σ H1 _ I1 q1) λus s2 ⟨xs,H2,I2,r2,q2⟩=>⟨x :: xs,H2,I2,.cons r1 r2,q2⟩
end
abbrev Sp:=List V->Hp->VK->XK->Prop
abbrev cL:=List Env->Hp->Shared->XK->Value->Shared->Prop
structure c7 (P:Program) (w:World) (K:W.Frag) (mg:Str->Option Value) (base:Heap) (A:Around) (outer:List Env) (s:Shared) (H:Hp):Prop where
 frames:A.frames=some outer
 mod:Mod K mg base
 bs : ∀ b o,base.get? b=some o->s.heap.get? b=some o/\H b=none
 bsz:base.objs.size<=s.heap.objs.size
 funs:s.heap.FunFrames base outer
 frf : ∀ b∈cb outer,H b=none
 hok:aM P w H s.heap
 bare:AllBare s.gens
def CE(outer:List Env)(P:Program)(w:World)(H:Hp)(s:Shared)(Q:VK)(u:Value)(s':Shared):Prop :=
 ∃ v H',s'.os=s.os/\AllBare s'.gens/\Un (cb outer) [] H H' s.heap s'.heap/\aM P w H' s'.heap/\ar v u/\Q v H'
def CR(CX:cL)(outer:List Env)(P:Program)(w:World)(H:Hp)(s:Shared)(Q:VK)(E:XK)(r:Result)(s':Shared):Prop :=
 match r with
 | .ok (.ret u)=>CE outer P w H s Q u s'
 | .ok _=>False
 | .error e=>CX outer H s E e s'
structure bw (P:Program) (w:World) (K:W.Frag) (mg:Str->Option Value) (base:Heap) (CX:cL) (k:Nat) (f:Addr) (fd:FuncData) (ps:List Str) (sp:Sp):Prop where
 len : ∀ vs H Q E,sp vs H Q E->vs.length=ps.length
 run : ∀ (A:Around) (outer:List Env) (s:Shared) (H:Hp) (args:Args) (us:List Value) (vs:List V) (Q:VK) (E:XK),aP k A->c7 P w K mg base A outer s H->BindsTo s fd args (ps.zip us)->aq vs us->sp vs H Q E ->
  codeAny (model P w) A (.call (.ref f) args) (CR CX outer P w H s Q E) s
theorem c7.make{P:Program}{w:World}{K:W.Frag}{mg:Str->Option Value}{base:Heap}{A:Around}{outer:List Env}{s:Shared}{H:Hp}(e:c7 P w K mg base A outer s H)(C:Addr)(us:List Value)(kw:List (Str × Value)) :
 c7 P w K mg base (A.under (.builtin "type.__call__" ⟨.ref C :: us,kw⟩)) outer s H:=⟨by first | exact e.frames | (simpa [Around.under,Code.envs,Code.isFrame,pushEnvs] using e.frames),e.mod,e.bs,e.bsz,e.funs,e.frf,e.hok,e.bare⟩
theorem c7.in1{P:Program}{w:World}{K:W.Frag}{mg:Str->Option Value}{base:Heap}{A:Around}{outer:List Env}{s:Shared}{H:Hp}(e:c7 P w K mg base A outer s H) :
 c7 P w K mg base A.in1 outer s H:=⟨e.frames,e.mod,e.bs,e.bsz,e.funs,e.frf,e.hok,e.bare⟩
section
variable {X:Cx}{pins:List (Addr × Obj)}{σ:St}{H:Hp}{s s':Shared}
theorem ad.env0(I:ad X pins σ H s):c7 X.prog X.w X.K X.mg X.base X.A X.stack s H :=
 ⟨I.ok.frames,I.ok.mod,I.bs,Nat.le_trans I.ok.bsz I.sz,I.stack,I.stkFree,I.hok,I.bare⟩
theorem ad.after{Q:VK}{u:Value}(I:ad X pins σ H s)(h:CE X.stack X.prog X.w H s Q u s'):EP X pins σ Q u s':=by
 obtain⟨v,H',os,bare,un,hok,r,q⟩:=h
 obtain⟨hh,g,d,t,os'⟩:=s'
 obtain rfl:os'=s.os:=os
 exact⟨v,H',I.call (h':=hh) (g':=g) (d':=d) (t':=t) (ch:=[]) un hok bare (λb z=>absurd z (by simp)),r,q⟩
end
def la(sp:Sp)(dvs:List V)(E:XK)(t:TA):TE:=λσ H Q=>t σ H λvs H1=>sp (vs++dvs) H1 Q E
def jz(C:Addr)(m:Str)(sp:Sp)(dvs:List V)(E:XK)(ta:TE)(t:TA):TE:=λσ H Q=>ta σ H λx H1=>∃ a dx fs,x=.ref a/\H1 a=some (.ins C dx fs)/\fs.lookup m=none /\
 t σ H1 λvs H2=>sp (x :: (vs++dvs)) H2 Q E
def qd(C:Addr)(sp:Sp)(dvs:List V)(E:XK)(t:TA):TE:=λσ H Q=>t σ H λvs H1=>∀ x dx,H1 x=none->H1 dx=none->dx≠x ->
 sp (.ref x :: (vs++dvs)) (upd (upd H1 dx (.own x)) x (.ins C dx [])) (λv H2=>v=.non/\Q (.ref x) H2) E
def aD(K:W.Frag)(fd:FuncData)(ps:List Str)(ds:List Value):Prop :=
 ∀ (s:Shared) (us:List Value),K.In s.heap->(us++ds).length=ps.length->BindsTo s fd ⟨us,[]⟩ (ps.zip (us++ds))
theorem aD.all{K:W.Frag}{fd:FuncData}{ps:List Str}(h : ∀ us:List Value,us.length=ps.length->bindArgs fd ⟨us,[]⟩=pure (ps.zip us)):aD K fd ps []:=λs us _ hl=>by
 rw[List.append_nil]at hl ⊢
 exact .of_eq (h us hl)
def fA(CX:cL)(X:Cx)(E:XK):Prop:=∀ (pins:List (Addr × Obj)) (σ:St) (H:Hp) (s:Shared) (e:Value) (s':Shared),ad X pins σ H s->CX X.stack H s E e s'->X.xe e s'
section
variable {X:Cx}{CX:cL}{k:Nat}{f C:Addr}{fd:FuncData}{ps:List Str}{sp:Sp}{dvs:List V}{ds:List Value}{E:XK}{x m:Str}{p pos apos:Pos}{e o:Expr}{es:List Expr}{ta:TE}{t:TA}
theorem lG{pins:List (Addr × Obj)}{σ:St}{H:Hp}{s:Shared}{Q:VK}{us:List Value}{vs:List V}(F:bw X.prog X.w X.K X.mg X.base CX k f fd ps sp)(hr:aP k X.A)(hb:aD X.K fd ps ds)(hd:aq dvs ds)(hx:fA CX X E)
 (I:ad X pins σ H s) (r:aq vs us) (h:sp (vs++dvs) H Q E):wpAny (model X.prog X.w) X.A (call (.ref f) us) (EP X pins σ Q) X.xe s:=by
 have r2:aq (vs++dvs) (us++ds):=r.append hd
 have hl:(us++ds).length=ps.length:=by rw[<- r2.length]; exact F.len _ _ _ _ h
 refine wpAny_call (codeAny_mono (F.run X.A X.stack s H ⟨us,[]⟩ (us++ds) (vs++dvs) Q E hr I.env0 (hb s us I.kIn hl) r2 h) λr s' hq=>?_)
 cases r with
 | error e=>exact hx pins σ H s e s' I hq
 | ok fl =>
  cases fl with
  | ret u=>exact I.after hq
  | next=>exact False.elim hq
  | brk=>exact False.elim hq
  | cont=>exact False.elim hq
theorem y9(F:bw X.prog X.w X.K X.mg X.base CX k f fd ps sp)(hr:aP k X.A)(hg:Gl X x)(hm:X.mg x=some (.ref f))(hk:W.keepIn X.K (.ref f)=true)(hb:aD X.K fd ps ds)(hd:aq dvs ds)(hx:fA CX X E)
 (ha:PA X (e :: es) t) (hdb:(x == ("__debug__" : Str))=false:=by decide) (he:starEach (e :: es) X.env=(false,eval e X.env) :: starEach es X.env:=by rfl) (hpl:(backTo pos (starEach es X.env)).any (·.1)=false:=by rfl) :
 PE X (.Call (.Name x p) (e :: es) [] pos) (la sp dvs E t):=by
 intro pins s σ H Q I h
 refine wpAny_Call_Name_kw (mw I hg hm ?_ hdb)
 refine W.callWith_K (h₀:=X.base) I.ok.mod.kin hk (ai (ha pos pins s σ H _ I h) λus s1 ⟨vs,H1,I1,r,q⟩=>⟨I1.kIn,?_⟩) he hpl
 exact lG F hr hb hd hx I1 r q
theorem yS{pl:Sem Bool}(he:PE X o ta)(c:cK X.K C)(hm:fD X.K C m f)(F:bw X.prog X.w X.K X.mg X.base CX k f fd ps sp)(hr:aP k X.A)(hb:aD X.K fd ps ds)(hd:aq dvs ds)(hx:fA CX X E)(ha:PA X (e :: es) t)
 (hst:starEach (e :: es) X.env=(false,eval e X.env) :: starEach es X.env:=by rfl) (hpl:(backTo pos (starEach es X.env)).any (·.1)=false:=by rfl)
 (ht:eval (.Call (.Attribute o m apos) (e :: es) [] pos) X.env=(do
   let ov <- eval o X.env
   standAt apos.atName
   let (f,first) <- holding [ov] (getMethod ov m pl)
   callWith pos f first (backTo pos (starEach (e :: es) X.env)) (backToKw pos (keywordEach [] X.env))):=by rfl) :
 PE X (.Call (.Attribute o m apos) (e :: es) [] pos) (jz C m sp dvs E ta t):=by
 intro pins s σ H Q I h
 refine W.methodCall_KW (pl:=pl) (ai (he pins s σ H _ I h) λu s1 ⟨x,H1,I1,rx,a,dx,fs,ex,ea,l,q⟩=>?_) ht
 subst ex
 obtain rfl:u=Value.ref a:=rx
 refine ti I1 ea c hm l ?_
 refine W.callWith_K (first:=[.ref a]) (h₀:=X.base) I.ok.mod.kin hm.kp (ai (ha pos pins s1 σ H1 _ I1 q) λus s2 ⟨vs,H2,I2,r,q2⟩=>⟨I2.kIn,?_⟩) hst hpl
 exact lG (us:=.ref a :: us) (vs:=.ref a :: vs) F hr hb hd hx I2 (.cons rfl r) q2
theorem yR{pl:Sem Bool}(he:PE X o ta)(c:cK X.K C)(hm:fD X.K C m f)(F:bw X.prog X.w X.K X.mg X.base CX k f fd ps sp)(hr:aP k X.A)(hb:aD X.K fd ps ds)(hd:aq dvs ds)(hx:fA CX X E)
 (ht:eval (.Call (.Attribute o m apos) [] [] pos) X.env=(do
   let ov <- eval o X.env
   standAt apos.atName
   let (f,first) <- holding [ov] (getMethod ov m pl)
   callWith pos f first (backTo pos (starEach [] X.env)) (backToKw pos (keywordEach [] X.env))):=by rfl) :
 PE X (.Call (.Attribute o m apos) [] [] pos) (jz C m sp dvs E ta jx):=by
 intro pins s σ H Q I h
 refine W.methodCall_KW (pl:=pl) (ai (he pins s σ H _ I h) λu s1 ⟨x,H1,I1,rx,a,dx,fs,ex,ea,l,q⟩=>?_) ht
 subst ex
 obtain rfl:u=Value.ref a:=rx
 refine ti I1 ea c hm l ?_
 exact W.callWith_K0 (first:=[.ref a]) I1.kIn hm.kp (lG (us:=[.ref a]) (vs:=[.ref a]) F hr hb hd hx I1 (.cons rfl .nil) q)
structure Mk (K:W.Frag) (C f:Addr):Prop where
 makes:W.makesIn K C=true
 init:W.findIn K (.ref C) "__init__" = some (some (.ref f))
 fn:W.isFn K (.ref f)=true
 kp:W.keepIn K (.ref C)=true
theorem xh{pins:List (Addr × Obj)}{σ:St}{H:Hp}{s:Shared}{Q:VK}{us:List Value}{vs:List V}(M:Mk X.K C f)(F:bw X.prog X.w X.K X.mg X.base CX k f fd ps sp)(hr:aP (k+1) X.A)(hb:aD X.K fd ps ds)(hd:aq dvs ds)
 (hx:fA CX X E) (I:ad X pins σ H s) (r:aq vs us)
 (h : ∀ x dx,H x=none->H dx=none->dx≠x->sp (.ref x :: (vs++dvs)) (upd (upd H dx (.own x)) x (.ins C dx [])) (λv H2=>v=.non/\Q (.ref x) H2) E) :
 wpAny (model X.prog X.w) X.A (call (.ref C) us) (EP X pins σ Q) X.xe s:=by
 have hq:=h (s.heap.objs.size+1) s.heap.objs.size (I.hok.fresh (Nat.le_succ _)) (I.hok.fresh (Nat.le_refl _)) (Nat.ne_of_lt (Nat.lt_succ_self _))
 have I2:=ad.made (C:=C) I
 have r2:aq (V.ref (s.heap.objs.size+1) :: (vs++dvs)) (Value.ref (s.heap.objs.size+1) :: (us++ds)):=.cons rfl (r.append hd)
 have hl:(Value.ref (s.heap.objs.size+1) :: us++ds).length=ps.length:=by
  have e:=r2.length
  rw[F.len _ _ _ _ hq]at e
  exact e.symm
 refine wpAny_call (Ae (f:=f) I.kIn M.makes M.init (beq_iff_eq.mp M.fn) (codeAny_mono (F.run _ X.stack _ _ ⟨Value.ref (s.heap.objs.size+1) :: us,[]⟩ (Value.ref (s.heap.objs.size+1) :: (us++ds)) _ _ E (hr.make C us [])
  (I2.env0.make C us []) (hb _ (Value.ref (s.heap.objs.size+1) :: us) I2.kIn hl) r2 hq) λr s' hq'=>?_))
 cases r with
 | error e=>exact hx pins σ _ _ e s' I2 hq'
 | ok fl =>
  cases fl with
  | ret u =>
   obtain⟨v,H',I3,rv,ev,q3⟩:=I2.after hq'
   subst ev
   exact⟨rv,⟨V.ref (s.heap.objs.size+1),H',I3,rfl,q3⟩⟩
  | next=>exact False.elim hq'
  | brk=>exact False.elim hq'
  | cont=>exact False.elim hq'
theorem yT(M:Mk X.K C f)(F:bw X.prog X.w X.K X.mg X.base CX k f fd ps sp)(hr:aP (k+1) X.A)(hg:Gl X x)(hm:X.mg x=some (.ref C))(hb:aD X.K fd ps ds)(hd:aq dvs ds)(hx:fA CX X E)
 (ha:PA X (e :: es) t) (hdb:(x == ("__debug__" : Str))=false:=by decide) (he:starEach (e :: es) X.env=(false,eval e X.env) :: starEach es X.env:=by rfl) (hpl:(backTo pos (starEach es X.env)).any (·.1)=false:=by rfl) :
 PE X (.Call (.Name x p) (e :: es) [] pos) (qd C sp dvs E t):=by
 intro pins s σ H Q I h
 refine wpAny_Call_Name_kw (mw I hg hm ?_ hdb)
 refine W.callWith_K (h₀:=X.base) I.ok.mod.kin M.kp (ai (ha pos pins s σ H _ I h) λus s1 ⟨vs,H1,I1,r,q⟩=>⟨I1.kIn,?_⟩) he hpl
 exact xh M F hr hb hd hx I1 r q
end
section
variable {X:Cx}{CX:cL}{k:Nat}{f C:Addr}{fd:FuncData}{ps ks:List Str}{sp:Sp}{E:XK}{x m:Str}{p pos apos kpos:Pos}{e o:Expr}{es:List Expr}{kws:List Keyword}{te ta:TE}{t tk:TA}{nm:Option Str}
structure Et (K:W.Frag) (fd:FuncData) (ps ks:List Str) (g:List Value->List Value->List Value) (gV:List V->List V->List V):Prop where
 to : ∀ (s:Shared) (us ws:List Value),K.In s.heap->(g us ws).length=ps.length->BindsTo s fd ⟨us,ks.zip ws⟩ (ps.zip (g us ws))
 rel : ∀ {vs:List V} {us:List Value} {zs:List V} {ws:List Value},aq vs us->aq zs ws->aq (gV vs zs) (g us ws)
variable {g:List Value->List Value->List Value}{gV:List V->List V->List V}
end
structure aU (N P:List Str) (sc:Scope):Prop where
 kind:sc.kind=.function
 co:sc.isCoroutine=false
 gen:sc.isGenerator=false
 nd:N.Nodup
 pre:N.take P.length=P
 par : ∀ x∈P,sc.names.lookup x=some .local\/sc.names.lookup x=some .cell
 nofree : ∀ y∈sc.names,y.2 ≠ .free
theorem uj{kindOf:Str->Option NameKind}{x:Str} : ∀ {binds:List (Str × Value)} {m:Str->Option Value},(∀ v,(x,v)∉binds)->bindL kindOf binds m x=m x
 | [],_,_=>rfl
 | (n,v) :: r,m,h=>by
  unfold bindL
  rw[uj λw hw=>h w (List.mem_cons_of_mem _ hw)]
  split
  ·have:x≠n:=by rintro rfl; exact h v List.mem_cons_self
   simp[this]
  ·rfl
theorem uo{kindOf:Str->Option NameKind}{x:Str} : ∀ {binds:List (Str × Value)} {m:Str->Option Value},(∀ v,(x,v)∉binds)->bindC kindOf binds m x=m x
 | [],_,_=>rfl
 | (n,v) :: r,m,h=>by
  unfold bindC
  rw[uo λw hw=>h w (List.mem_cons_of_mem _ hw)]
  split
  ·rfl
  ·have:x≠n:=by rintro rfl; exact h v List.mem_cons_self
   simp[this]
theorem ul{kindOf:Str->Option NameKind}{x:Str}{v:Value} : ∀ {P:List Str} {vs:List Value} {i:Nat} {m:Str->Option Value},P.Nodup->P[i]? = some x->vs[i]? = some v->kindOf x=some .local ->
 bindL kindOf (P.zip vs) m x=some v
 | [],_,_,_,_,h,_,_=>by simp at h
 | _ :: _,[],_,_,_,_,h,_=>by simp at h
 | p :: P,w :: vs,0,m,nd,h1,h2,hk=>by
  simp at h1 h2; subst h1; subst h2
  show bindL kindOf ((p,w) :: P.zip vs) m p=_
  unfold bindL
  rw[uj λv hv=>(List.nodup_cons.mp nd).1 (List.of_mem_zip hv).1,if_pos hk]
  simp
 | p :: P,w :: vs,i+1,m,nd,h1,h2,hk=>by
  show bindL kindOf ((p,w) :: P.zip vs) m x=_
  unfold bindL
  exact ul (i:=i) (List.nodup_cons.mp nd).2 (by simpa using h1) (by simpa using h2) hk
theorem uq{kindOf:Str->Option NameKind}{x:Str}{v:Value} : ∀ {P:List Str} {vs:List Value} {i:Nat} {m:Str->Option Value},P.Nodup->P[i]? = some x->vs[i]? = some v->kindOf x≠some .local ->
 bindC kindOf (P.zip vs) m x=some v
 | [],_,_,_,_,h,_,_=>by simp at h
 | _ :: _,[],_,_,_,_,h,_=>by simp at h
 | p :: P,w :: vs,0,m,nd,h1,h2,hk=>by
  simp at h1 h2; subst h1; subst h2
  show bindC kindOf ((p,w) :: P.zip vs) m p=_
  unfold bindC
  rw[uo λv hv=>(List.nodup_cons.mp nd).1 (List.of_mem_zip hv).1,if_neg hk]
  simp
 | p :: P,w :: vs,i+1,m,nd,h1,h2,hk=>by
  show bindC kindOf ((p,w) :: P.zip vs) m x=_
  unfold bindC
  exact uq (i:=i) (List.nodup_cons.mp nd).2 (by simpa using h1) (by simpa using h2) hk
def dQ(N:List Str)(vs:List V):St:=vs.map some++List.replicate (N.length - vs.length) none
def fq(CX:cL)(P:Program)(w:World)(K:W.Frag)(mg:Str->Option Value)(base:Heap)(N:List Str)(qual:Str)(scope:Scope)(f:Addr)(cd:Value)(A:Around)(outer:List Env)(s:Shared)(H:Hp)(E:XK):Cx where
 prog:=P
 w:=w
 K:=K
 mg:=mg
 base:=base
 A:=A.deeper (envOfC qual scope s.heap.objs.size f cd)
 N:=N
 s₀:=s
 H₀:=H
 env:=envOfC qual scope s.heap.objs.size f cd
 outer:=outer
 stack:=envOfC qual scope s.heap.objs.size f cd :: outer
 ex:=[]
 calm:=true
 fn:=λ_=>true
 pn:=[]
 xe:=λe s'=>wpAny (model P w) (A.deeper (envOfC qual scope s.heap.objs.size f cd)) (leaving (envOfC qual scope s.heap.objs.size f cd) e) (λ_ s''=>CX outer H s E e s'') (λe' s''=>CX outer H s E e' s'') s'
theorem uf{sc:Scope}{n:Nat}{x:Str}(h:sc.names.lookup x=some .cell) : ∃ c,(cellsFrom n sc.names []).lookup x=some c:=by
 have q:=W.cellsFrom_some sc.names n [] (.inl h)
 exact Option.isSome_iff_exists.mp q
theorem AH{CX:cL}{P:Program}{w:World}{K:W.Frag}{mg:Str->Option Value}{base:Heap}{N ps:List Str}{qual:Str}{scope:Scope}{f:Addr}{cd:Value}{A:Around}{outer:List Env}{s s1:Shared}{H:Hp}{E:XK}{us:List Value}{vs:List V}
 (S:aU N ps scope) (hd:A.handled=none) (e0:c7 P w K mg base A outer s H) (hl:vs.length=ps.length) (r:aq vs us)
 (x:InCallC s s.heap.objs.size (bindL (envOfC qual scope s.heap.objs.size f cd).kindOf (ps.zip us) λ_=>none) (cellsFrom (s.heap.objs.size+1) scope.names []) (bindC (envOfC qual scope s.heap.objs.size f cd).kindOf (ps.zip us) λ_=>none) s1) :
 ad (fq CX P w K mg base N qual scope f cd A outer s H E) [] (dQ N vs) H s1:=by
 have hpl:ps.length<=N.length:=by have:=congrArg List.length S.pre; rw[List.length_take]at this; omega
 obtain⟨h1,tk,rfl,hk⟩:=x.done
 have noA : ∀ b:Addr,b∉(fq CX P w K mg base N qual scope f cd A outer s H E).ex:=λb z=>absurd (show b∈([]:List Addr) from z) (by simp)
 refine⟨⟨e0.mod,S.kind,rfl,rfl,Nat.le_refl _,λy z c h1 h2=>?_,λy hy=>?_,λy c _ h=>?_,λ_=>hd,Around.frames_deeper e0.frames,.inr ⟨rfl,rfl⟩,λb z=>absurd z (noA b),e0.bs,e0.bsz,λb _ _=>noA b,λb z=>absurd z (noA b),e0.funs,e0.frf⟩,
  rfl,e0.bare,Un.kept hk,⟨_,x.toInCall.ns,λi y v h1 h2 h3=>?_⟩,λy c h=>⟨_,x.cell y c h⟩,e0.hok.fresh (Nat.le_refl _),λy c h=>?_,λp hp=>absurd (show p∈([]:List (Addr × Obj)) from hp) (by simp),e0.hok.kept hk,?_⟩
 ·exact name_of_addr x.apart (PySem.mem_of_lookup h1) (PySem.mem_of_lookup h2)
 ·have hy:scope.names.lookup y=some .cell\/scope.names.lookup y=some .free:=hy
  rcases hy with hy | hy
  ·exact uf hy
  ·exact absurd rfl (S.nofree _ (PySem.mem_of_lookup hy))
 ·exact Nat.le_of_lt (x.above y c (PySem.mem_of_lookup h))
 ·have hi:i < vs.length:=by
   unfold dQ at h2
   by_cases hi:i < vs.length
   ·exact hi
   ·rw[List.getElem?_append_right (by simpa using hi)]at h2
    rw[List.getElem?_replicate]at h2
    split at h2 <;> cases h2
  have ha:vs[i]? = some v:=by
   unfold dQ at h2
   rw[List.getElem?_append_left (by simpa using hi),List.getElem?_map]at h2
   cases e:vs[i]? with
   | none=>rw[e]at h2; cases h2
   | some a=>rw[e]at h2; cases h2; rfl
  obtain⟨u,hu,rv⟩:=r.get ha
  have hp:ps[i]? = some y:=by
   rw[<- S.pre,List.getElem?_take_of_lt (by omega)]; exact h1
  have ndP:ps.Nodup:=by rw[<- S.pre]; exact S.nd.sublist (List.take_sublist _ _)
  refine⟨u,rv,?_⟩
  rcases S.par y (List.mem_of_getElem? hp) with k | k
  ·exact .inl ⟨k,ul ndP hp hu k⟩
  ·obtain⟨c,e⟩:=uf (n:=s.heap.objs.size+1) k
   refine .inr ⟨.inl k,c,e,?_⟩
   have q:=x.cell y c e
   rw[uq ndP hp hu (by show scope.names.lookup y≠_; rw[k]; decide)]at q
   exact q
 ·exact e0.hok.fresh (Nat.le_of_lt (x.above y c (PySem.mem_of_lookup h)))
 ·unfold dQ
  show _=N.length
  rw[List.length_append,List.length_map,List.length_replicate]
  omega
theorem tI{CX:cL}{P:Program}{w:World}{K:W.Frag}{mg:Str->Option Value}{base:Heap}{k:Nat}{f:Addr}{name qual:Str}{params:Arguments}{body:List Stmt}{scope:Scope}{dV kV doc pm cdv ct oc:Value}{an od:Option Addr}
 {osl:Array (Option Value)} {N ps:List Str} {sp:Sp} (lk:K.lookup f=some ⟨oc,od,.func (W.fnOf name qual params body scope dV kV doc pm an cdv ct),osl⟩) (hcd:W.codeIn K cdv qual=true) (S:aU N ps scope)
 (len : ∀ vs H Q E,sp vs H Q E->vs.length=ps.length)
 (hbody : ∀ (A:Around) (outer:List Env) (s:Shared) (H:Hp) (vs:List V) (Q:VK) (E:XK),aP k (A.deeper (envOfC qual scope s.heap.objs.size f cdv))->sp vs H Q E ->
   ∃ t,cI (fq CX P w K mg base N qual scope f cdv A outer s H E) body t/\t { nx:=λ_ H'=>Q .non H',rt:=Q } (dQ N vs) H) :
 bw P w K mg base CX (k+1) f (W.fnOf name qual params body scope dV kV doc pm an cdv ct) ps sp:=by
 refine⟨len,λA outer s H args us vs Q E hr e0 hb r hsp=>?_⟩
 have hl:=len _ _ _ _ hsp
 have KX:K.In s.heap:=e0.mod.kin.keeps λb o e=>(e0.bs b o e).1
 have lim:s.heap.NoLimit:=e0.mod.nolimit.keeps λb o e=>(e0.bs b o e).1
 have hkind : ∀ y∈ps.zip us,scope.names.lookup y.1=some .local\/(scope.names.lookup y.1=some .cell/\((cellsFrom (s.heap.objs.size+1) scope.names []).lookup y.1).isSome=true):=λ⟨n,v⟩ hy=>by
  rcases S.par n (List.of_mem_zip hy).1 with q | q
  ·exact .inl q
  ·exact .inr ⟨q,W.cellsFrom_some _ _ _ (.inl q)⟩
 refine codeAny_call_function hr.depth (KX _ _ lk) rfl S.co S.gen rfl (W.codeRec_of KX hcd) (hb _ _ _ _ ?_)
 refine wpAny_newFunctionEnv_cells S.kind hkind λenv he s1 x=>?_
 subst he
 refine⟨lim.keeps x.toInCall.keep,codeAny_func ?_⟩
 obtain⟨t,ht,hq⟩:=hbody A outer s H vs Q E (hr.deeper _) hsp
 have I:ad (fq CX P w K mg base N qual scope f cdv A outer s H E) [] (dQ N vs) H s1:=AH S hr.hd e0 hl r x
 refine wpAny_mono (ht [] s1 (dQ N vs) H _ I hq) (λfl s' hs=>?_) λe s' hs=>hs
 have fin : ∀ {σ':St} {H':Hp} {v:V} {u:Value},ad (fq CX P w K mg base N qual scope f cdv A outer s H E) [] σ' H' s'->ar v u->Q v H'->CE outer P w H s Q u s' :=
  λ{σ' H' v u} J rv q=>⟨v,H',J.os,J.bare,J.base,J.hok,rv,q⟩
 cases fl with
 | ret u =>
  obtain⟨v,σ',H',J,rv,q⟩:=hs
  exact fin J rv q
 | next =>
  obtain⟨σ',H',J,q⟩:=hs
  exact fin (v:=V.non) (u:=Value.none) J rfl q
 | brk =>
  obtain⟨_,_,_,q⟩:=hs
  exact False.elim q
 | cont =>
  obtain⟨_,_,_,q⟩:=hs
  exact False.elim q
section
variable {X:Cx}{x:Str}{p pos:Pos}{e:Expr}{es:List Expr}{t:TA}{id T:String}{r:List V->Hp->VK->Prop}
def gx(r:List V->Hp->VK->Prop)(t:TA):TE:=λσ H Q=>t σ H λvs H1=>r vs H1 Q
theorem y8 (hc:bd X (.builtin id) r) (hg:Gl X x) (hm:X.mg x=none) (hv:bootBuiltins x=some (.builtin id)) (ha:PA X (e :: es) t) (hn:x ≠ "__name__":=by decide) (hdb:(x == ("__debug__" : Str))=false:=by decide)
 (he:starEach (e :: es) X.env=(false,eval e X.env) :: starEach es X.env:=by rfl) (hpl:(backTo pos (starEach es X.env)).any (·.1)=false:=by rfl):PE X (.Call (.Name x p) (e :: es) [] pos) (gx r t):=by
 intro pins s σ H Q I h
 refine wpAny_Call_Name_kw (fX I hg hm hv ?_ hn hdb)
 exact PyProof.Rows.callWith_builtin1 (ai (ha pos pins s σ H _ I h) λus s1 ⟨vs,H1,I1,r1,q1⟩=>hc pins s1 σ H1 vs us Q I1 r1 q1) he hpl
theorem y7 (hc:bd X (.type T) r) (hg:Gl X x) (hm:X.mg x=none) (hv:bootBuiltins x=some (.type T)) (ha:PA X (e :: es) t) (hn:x ≠ "__name__":=by decide) (hdb:(x == ("__debug__" : Str))=false:=by decide)
 (he:starEach (e :: es) X.env=(false,eval e X.env) :: starEach es X.env:=by rfl) (hpl:(backTo pos (starEach es X.env)).any (·.1)=false:=by rfl):PE X (.Call (.Name x p) (e :: es) [] pos) (gx r t):=by
 intro pins s σ H Q I h
 refine wpAny_Call_Name_kw (fX I hg hm hv ?_ hn hdb)
 exact PyProof.Rows.callWith_type1 (ai (ha pos pins s σ H _ I h) λus s1 ⟨vs,H1,I1,r1,q1⟩=>hc pins s1 σ H1 vs us Q I1 r1 q1) he hpl
end
section
variable {κ:Type}[DecidableEq κ]
def aJ(kvs:List (κ × V))(k:κ):Option V:=(kvs.find? λkv=>decide (kv.1=k)).map (·.2)
def aW(kvs:List (κ × V))(k:κ)(v:V):List (κ × V) :=
 if (kvs.any λkv=>decide (kv.1=k))=true then kvs.map (λkv=>if kv.1=k then (kv.1,v) else kv) else kvs++[(k,v)]
theorem c9{p:κ × V}{r:List (κ × V)}{k:κ}(e:p.1=k):aJ (p :: r) k=some p.2:=by simp[aJ,List.find?_cons,e]
theorem db{p:κ × V}{r:List (κ × V)}{k:κ}(e : ¬ p.1=k):aJ (p :: r) k=aJ r k:=by simp[aJ,List.find?_cons,e]
theorem iL(k:κ) : ∀ kvs:List (κ × V),(kvs.any λkv=>decide (kv.1=k))=(aJ kvs k).isSome
 | []=>rfl
 | p :: r=>by
  rw[List.any_cons]
  by_cases e:p.1=k
  ·simp only [c9 e,decide_eq_true e,Bool.true_or,Option.isSome_some]
  ·rw[db e,decide_eq_false e,Bool.false_or]; exact iL k r
theorem pL(k j:κ)(y:V) : ∀ kvs:List (κ × V),aJ (kvs.map λkv=>if kv.1=k then (kv.1,y) else kv) j=(aJ kvs j).map λx=>if j=k then y else x
 | []=>rfl
 | p :: r=>by
  have ih:=pL k j y r
  rw[List.map_cons]
  by_cases h:p.1=k
  ·rw[if_pos h]
   by_cases e:p.1=j
   ·rw[c9 (p:=(p.1,y)) e,c9 e,Option.map_some,if_pos (e.symm.trans h)]
   ·rw[db (p:=(p.1,y)) e,db e,ih]
  ·rw[if_neg h]
   by_cases e:p.1=j
   ·rw[c9 (p:=p) e,c9 e,Option.map_some,if_neg (λz=>h (e.trans z))]
   ·rw[db (p:=p) e,db e,ih]
theorem pK(k j:κ)(y:V) : ∀ kvs:List (κ × V),aJ kvs k=none->aJ (kvs++[(k,y)]) j=if j=k then some y else aJ kvs j
 | [],_=>by
  by_cases e:k=j
  ·rw[if_pos e.symm]; exact c9 (p:=(k,y)) e
  ·rw[if_neg (λz=>e z.symm)]; exact db (p:=(k,y)) e
 | p :: r,hn=>by
  rw[List.cons_append]
  have hk : ¬ p.1=k:=λz=>by rw[c9 z]at hn; cases hn
  rw[db hk]at hn
  have ih:=pK k j y r hn
  by_cases e:p.1=j
  ·rw[c9 e,c9 e,if_neg (λz=>hk (e.trans z))]
  ·rw[db e,db e,ih]
theorem dz(kvs:List (κ × V))(k j:κ)(y:V):aJ (aW kvs k y) j=if j=k then some y else aJ kvs j:=by
 unfold aW
 by_cases a:(kvs.any λkv=>decide (kv.1=k))=true
 ·rw[if_pos a,pL]
  rw[iL]at a
  by_cases e:j=k
  ·obtain⟨x,hx⟩:=Option.isSome_iff_exists.mp a
   rw[if_pos e,e,hx,Option.map_some,if_pos rfl]
  ·rw[if_neg e]
   cases aJ kvs j with
   | none=>rfl
   | some x=>rw[Option.map_some,if_neg e]
 ·rw[if_neg a]
  refine pK k j y kvs ?_
  rw[iL]at a
  cases q:aJ kvs k with
  | none=>rfl
  | some x=>rw[q]at a; exact (a rfl).elim
theorem fW(kvs:List (κ × V))(k:κ)(v:V):(aW kvs k v).length<=kvs.length+1:=by
 unfold aW
 split
 ·rw[List.length_map]; omega
 ·rw[List.length_append,List.length_cons,List.length_nil]; omega
theorem q9{kvs:List (κ × V)}{k:κ}(v:V)(h:aJ kvs k=none):aW kvs k v=kvs++[(k,v)]:=by
 unfold aW
 rw[iL,h]
 exact if_neg (by decide)
theorem bR.isSome_eq{o:Option V}{u:Option Value}(r:bR o u):o.isSome=u.isSome:=by
 cases o with
 | none=>cases u with
  | none=>rfl
  | some _=>exact (show False from r).elim
 | some _=>cases u with
  | none=>exact (show False from r).elim
  | some _=>rfl
theorem KV.val{kvs:List (κ × V)}{vs:List (κ × Value)}(r:KV kvs vs)(k:κ):bR (aJ kvs k) (valueAt vs k):=by
 unfold KV at r
 induction r with
 | nil=>exact True.intro
 | @cons p q ps qs h t ih =>
  obtain⟨h1,h2⟩:=h
  by_cases e:p.1=k
  ·have e':q.1=k:=h1.symm.trans e
   have b:valueAt (q :: qs) k=some q.2:=by simp[valueAt,List.find?_cons,e']
   rw[c9 e,b]; exact h2
  ·have e' : ¬ q.1=k:=λz=>e (h1.trans z)
   have b:valueAt (q :: qs) k=valueAt qs k:=by simp[valueAt,List.find?_cons,e']
   rw[db e,b]; exact ih
theorem KV.any{kvs:List (κ × V)}{vs:List (κ × Value)}(r:KV kvs vs)(k:κ):(kvs.any λkv=>decide (kv.1=k))=vs.any λkv=>decide (kv.1=k):=by
 unfold KV at r
 induction r with
 | nil=>rfl
 | cons h t ih=>rw[List.any_cons,List.any_cons,ih,h.1]
theorem KV.repl{kvs:List (κ × V)}{vs:List (κ × Value)}(r:KV kvs vs)(k:κ){y:V}{u:Value}(ry:ar y u) :
 KV (kvs.map λkv=>if kv.1=k then (kv.1,y) else kv) (vs.map λkv=>if kv.1=k then (kv.1,u) else kv):=by
 unfold KV at r ⊢
 induction r with
 | nil=>exact .nil
 | @cons p q ps qs h t ih =>
  rw[List.map_cons,List.map_cons]
  refine .cons ?_ ih
  obtain⟨h1,h2⟩:=h
  by_cases e:p.1=k
  ·rw[if_pos e,if_pos (h1.symm.trans e)]; exact⟨h1,ry⟩
  ·rw[if_neg e,if_neg (λz=>e (h1.trans z))]; exact⟨h1,h2⟩
theorem KV.put{kvs:List (κ × V)}{vs:List (κ × Value)}(r:KV kvs vs)(k:κ){y:V}{u:Value}(ry:ar y u):KV (aW kvs k y) (stored vs k u):=by
 unfold aW stored
 rw[r.any k]
 by_cases e:(vs.any λkv=>decide (kv.1=k))=true
 ·rw[if_pos e,if_pos e]; exact r.repl k ry
 ·rw[if_neg e,if_neg e]; exact Paired.snoc r ⟨rfl,ry⟩
theorem KV.length{kvs:List (κ × V)}{vs:List (κ × Value)}(r:KV kvs vs):kvs.length=vs.length:=Paired.length r
end
theorem j7{P:Program}{w:World}{k:ak}{u:Value}(r:ar (kV k) u):(bL P w).is k u=true:=by
 cases k with
 | inl i=>obtain⟨t,e⟩:=(show ∃ t,u=Value.int i t from r); subst e; exact zI P w i t
 | inr x=>obtain⟨t,e⟩:=(show ∃ t,u=Value.str x t from r); subst e; exact zG P w x t
theorem sL{P:Program}{w:World} : ∀ {ks:List ak} {us:List Value},aq (ks.map kV) us->ItemsAre (bL P w) ks us
 | [],_,r=>by rw[List.map_nil]at r; cases r; exact .nil
 | k :: ks,_,r=>by
  rw[List.map_cons]at r
  cases r with
  | cons h t=>exact .cons (j7 h) (sL t)
abbrev KT(H:Hp):List (List ak × V)->List (List ak × Addr × Value)->Prop:=Paired λp q=>p.1=q.1/\H q.2.1=some (.tup (p.1.map kV))/\ar p.2 q.2.2
theorem KT.val{H:Hp}{kvs:List (List ak × V)}{xs:List (List ak × Addr × Value)}(r:KT H kvs xs)(k:List ak):bR (aJ kvs k) ((atKey xs k).map (·.2)):=by
 induction r with
 | nil=>exact True.intro
 | @cons p q ps qs h t ih =>
  obtain⟨h1,_,h2⟩:=h
  by_cases e:p.1=k
  ·have e':q.1=k:=h1.symm.trans e
   have b:atKey (q :: qs) k=some q.2:=by simp[atKey,List.find?_cons,e']
   rw[c9 e,b]; exact h2
  ·have e' : ¬ q.1=k:=λz=>e (h1.trans z)
   have b:atKey (q :: qs) k=atKey qs k:=by simp[atKey,List.find?_cons,e']
   rw[db e,b]; exact ih
theorem KT.repl{H:Hp}{kvs:List (List ak × V)}{xs:List (List ak × Addr × Value)}(r:KT H kvs xs)(k:List ak){y:V}{u:Value}(ry:ar y u) :
 KT H (kvs.map λkv=>if kv.1=k then (kv.1,y) else kv) (xs.map (putAt k u)):=by
 induction r with
 | nil=>exact .nil
 | @cons p q ps qs h t ih =>
  rw[List.map_cons,List.map_cons]
  refine .cons ?_ ih
  obtain⟨h1,h2,h3⟩:=h
  unfold putAt
  by_cases e:p.1=k
  ·rw[if_pos e,if_pos (h1.symm.trans e)]; exact⟨h1,h2,ry⟩
  ·rw[if_neg e,if_neg (λz=>e (h1.trans z))]; exact⟨h1,h2,h3⟩
theorem KT.put{H:Hp}{kvs:List (List ak × V)}{xs:List (List ak × Addr × Value)}(r:KT H kvs xs)(k:List ak){b:Addr}{y:V}{u:Value}(hb:H b=some (.tup (k.map kV)))(ry:ar y u) :
 KT H (aW kvs k y) (storedH xs k b u):=by
 have e:(kvs.any λkv=>decide (kv.1=k))=(atKey xs k).isSome:=by
  rw[iL,(r.val k).isSome_eq,Option.isSome_map]
 unfold aW storedH
 rw[e]
 by_cases q:(atKey xs k).isSome=true
 ·rw[if_pos q,if_pos q]; exact r.repl k ry
 ·rw[if_neg q,if_neg q]; exact Paired.snoc r ⟨rfl,hb,ry⟩
theorem KT.keeps{H H':Hp}{kvs:List (List ak × V)}{xs:List (List ak × Addr × Value)}(r:KT H kvs xs)(ht : ∀ b ys,H b=some (.tup ys)->H' b=some (.tup ys)):KT H' kvs xs :=
 Paired.mapP r λ_ _ z=>⟨z.1,ht _ _ z.2.1,z.2.2⟩
section
variable {P:Program}{w:World}{H:Hp}{h:Heap}{a:Addr}
theorem qI{u:HO}(ok:aM P w H h)(e:Rd H a u):aH P w H h a u:=e.ok ok
theorem kt{kvs:List (ak × V)}(ok:aM P w H h)(e:Rd H a (.dK kvs)):kvs.length<=sizeLine/\(a == sysModules)=false/\∃ vs,KV kvs vs/\h.DictOf (bL P w) a vs :=
 show aH P w H h a (.dK kvs) from qI ok e
theorem ku{kvs:List (ak × V)}(ok:aM P w H h)(e:H a=some (.dK kvs)):kvs.length<=sizeLine/\(a == sysModules)=false/\∃ vs,KV kvs vs/\h.DictOf (bL P w) a vs:=kt ok (.inl e)
theorem j6{ks:List ak}(ok:aM P w H h)(e:H a=some (.tup (ks.map kV))):(tupleKind (bL P w)).is h ks a:=by
 obtain⟨_,its,r,o,h1,h2,n,h3⟩:=(show aH P w H h a (.tup (ks.map kV)) from ok a _ e)
 exact⟨o,its.toArray,n,h1,h2,h3,by simpa using sL r⟩
theorem kr{kvs:List (List ak × V)}(ok:aM P w H h)(e:Rd H a (.dT kvs)):kvs.length<=sizeLine/\(a == sysModules)=false /\
 ∃ xs,KT H kvs xs/\h.DictOfH (tupleKind (bL P w)) a xs:=by
 obtain⟨z,y,xs,r,o,es,ep,h1,h2,h3,h4,h5⟩:=(show aH P w H h a (.dT kvs) from qI ok e)
 refine⟨z,y,xs,r,o,es,ep,h1,h2,h3,h4,λx hx=>?_,h5⟩
 have all : ∀ {l:List (List ak × V)} {m:List (List ak × Addr × Value)},KT H l m->∀ x∈m,(tupleKind (bL P w)).is h x.1 x.2.1:=by
  intro l m q
  induction q with
  | nil=>intro x hx; exact nomatch hx
  | @cons p q ps qs hq t ih =>
   intro x hx
   rcases List.mem_cons.mp hx with e | hx
   ·subst e
    exact j6 ok (by rw[<- hq.1]; exact hq.2.1)
   ·exact ih x hx
 exact all r x hx
theorem Cn{kvs:List (List ak × V)}(ok:aM P w H h)(e:H a=some (.dT kvs)):kvs.length<=sizeLine/\(a == sysModules)=false /\
 ∃ xs,KT H kvs xs/\h.DictOfH (tupleKind (bL P w)) a xs:=kr ok (.inl e)
end
def dy(H:Hp)(a:Addr)(y:V)(r:Option V):Prop :=
 (∃ kvs k,Rd H a (.dK kvs)/\y=kV k/\r=aJ kvs k)\/∃ kvs k b,Rd H a (.dT kvs)/\y=.ref b/\H b=some (.tup (k.map kV))/\r=aJ kvs k
def dN(H:Hp)(a:Addr)(y v:V)(H':Hp):Prop :=
 (∃ kvs k,H a=some (.dK kvs)/\y=kV k/\kvs.length < sizeLine/\H'=upd H a (.dK (aW kvs k v))) \/
 ∃ kvs k b,H a=some (.dT kvs)/\y=.ref b/\H b=some (.tup (k.map kV))/\kvs.length < sizeLine/\H'=upd H a (.dT (aW kvs k v))
theorem dy.k{H:Hp}{a:Addr}{kvs:List (ak × V)}{k:ak}(e:H a=some (.dK kvs)):dy H a (kV k) (aJ kvs k):=.inl ⟨kvs,k,.inl e,rfl,rfl⟩
theorem dN.k{H:Hp}{a:Addr}{kvs:List (ak × V)}{k:ak}{v:V}(e:H a=some (.dK kvs))(hl:kvs.length < sizeLine):dN H a (kV k) v (upd H a (.dK (aW kvs k v))):=.inl ⟨kvs,k,e,rfl,hl,rfl⟩
theorem dN.t{H:Hp}{a b:Addr}{kvs:List (List ak × V)}{k:List ak}{v:V}(e:H a=some (.dT kvs))(eb:H b=some (.tup (k.map kV)))(hl:kvs.length < sizeLine) :
 dN H a (.ref b) v (upd H a (.dT (aW kvs k v))):=.inr ⟨kvs,k,b,e,rfl,eb,hl,rfl⟩
section
variable {X:Cx}{pins:List (Addr × Obj)}{σ:St}{H:Hp}{s:Shared}{a:Addr}{y v:V}{u r:Value}{o:Option V}{A:Around}{E:Value->Shared->Prop}
theorem ad.big(I:ad X pins σ H s):sysModules < s.heap.objs.size:=by
 have h:mainGlobals < s.heap.objs.size:=(I.mod.glob.keeps I.bk).lt
 exact Nat.lt_trans (by decide) h
theorem Cy{Q:Value->Shared->Prop}(hu:A.units+1 < cLine)(I:ad X pins σ H s)(g:dy H a y (some v))(ry:ar y u)(h : ∀ w' s',ad X pins σ H s'->ar v w'->Q w' s') :
 wpAny (model X.prog X.w) A (getItem (.ref a) u) Q E s:=by
 rcases g with ⟨kvs,k,e,ey,l⟩ | ⟨kvs,k,b,e,ey,eb,l⟩
 ·subst ey
  obtain⟨z,hd,vs,rel,dd⟩:=kt I.hok e
  obtain⟨w',hw,rw'⟩:=bR.some_of (v:=v) (o:=valueAt vs k) (by rw[l]; exact rel.val k)
  exact wpAny_getItem_of (j7 ry) dd.mapOf hw (h w' _ (I.tok _) rw')
 ·subst ey
  cases (show u=Value.ref b from ry)
  obtain⟨z,hd,xs,rel,dd⟩:=kr I.hok e
  obtain⟨w',hw,rw'⟩:=bR.some_of (v:=v) (o:=(atKey xs k).map (·.2)) (by rw[l]; exact rel.val k)
  obtain⟨p,hp,hp2⟩:=Option.map_eq_some_iff.mp hw
  refine wpAny_getItem_heap (tupleKind_room_in1 hu) (j6 I.hok eb) dd hp ?_
  rw[hp2]
  exact h w' _ (I.tok _) rw'
theorem Cw{Q:Value->Shared->Prop}(hu:A.units+1 < cLine)(I:ad X pins σ H s)(g:dy H a y o)(ry:ar y u)(h : ∀ s',ad X pins σ H s'->Q (.bool o.isSome) s') :
 wpAny (model X.prog X.w) A (compareOp .In u (.ref a)) Q E s:=by
 rcases g with ⟨kvs,k,e,ey,l⟩ | ⟨kvs,k,b,e,ey,eb,l⟩
 ·subst ey
  obtain⟨z,hd,vs,rel,dd⟩:=kt I.hok e
  refine wpAny_in_of (j7 ry) hd dd.mapOf ?_
  rw[<- (rel.val k).isSome_eq,<- l]
  exact h _ (I.tok _)
 ·subst ey
  cases (show u=Value.ref b from ry)
  obtain⟨z,hd,xs,rel,dd⟩:=kr I.hok e
  refine wpAny_in_heap (tupleKind_room_in1 hu) (j6 I.hok eb) hd dd ?_
  have q:=(rel.val k).isSome_eq
  rw[Option.isSome_map]at q
  rw[<- q,<- l]
  exact h _ (I.tok _)
theorem jd{h':Heap}{t':Nat}{ob:HO}(I:ad X pins σ H s)(mu:jp (H a))(hs:Heap.SameBut a s.heap h')(he : ∃ q,h'.get? a=some q)(new:aH X.prog X.w (upd H a ob) h' a ob) :
 ad X pins σ (upd H a ob) { s with heap:=h',toks:=t' } :=
 I.write (x:=a) (e:=a) mu (.inl rfl) (λb q hb z=>(hs.2 b hb).trans z) he new
theorem Cs{P:Program}{w:World}{H':Hp}{h':Heap}{kvs:List (ak × V)}{vs:List (ak × Value)}(z:kvs.length<=sizeLine)(hd:(a == sysModules)=false)(rel:KV kvs vs)(dd:h'.DictOf (bL P w) a vs) :
 aH P w H' h' a (.dK kvs):=⟨z,hd,vs,rel,dd⟩
theorem Cv{H':Hp}{Q:Unit->Shared->Prop}(hu:A.units+1 < cLine)(I:ad X pins σ H s)(g:dN H a y v H')(ry:ar y u)(rv:ar v r)(h : ∀ s',ad X pins σ H' s'->Q () s') :
 wpAny (model X.prog X.w) A (setItem (.ref a) u r) Q E s:=by
 rcases g with ⟨kvs,k,e,ey,l,eH⟩ | ⟨kvs,k,b,e,ey,eb,l,eH⟩
 ·subst ey eH
  obtain⟨z,hd,vs,rel,dd⟩:=ku I.hok e
  have hz:vs.length<=sizeLine:=by rw[<- rel.length]; exact z
  have hl:(aW kvs k v).length<=sizeLine:=by have:=fW kvs k v; omega
  refine wpAny_setItem_pairs (hsz:=hz) (j7 ry) dd λh' dd' hs=>h _ ?_
  have he : ∃ q,h'.get? a=some q:=let ⟨q,_,_,hq,_⟩:=dd'; ⟨q,hq⟩
  exact jd I (by rw[e]; exact True.intro) hs he (Cs hl hd (rel.put k rv) dd')
 ·subst ey eH
  cases (show u=Value.ref b from ry)
  obtain⟨z,hd,xs,rel,dd⟩:=Cn I.hok e
  have hz:xs.length<=sizeLine:=by rw[<- Paired.length rel]; exact z
  have hl:(aW kvs k v).length<=sizeLine:=by have:=fW kvs k v; omega
  refine wpAny_setItem_heap (hsz:=hz) (tupleKind_room_in1 hu) (j6 I.hok eb) dd λh' dd' hs=>h _ ?_
  obtain⟨q,es,ep,hq,h2,h3,h4,_,h5⟩:=dd'
  refine jd I (by rw[e]; exact True.intro) hs ⟨q,hq⟩ ⟨hl,hd,_,(rel.put k eb rv).keeps λc ys ec=>?_,q,es,ep,hq,h2,h3,h4,h5⟩
  rw[aj (zv ec e (λz=>nomatch z))]
  exact ec
end
def jo(i:Expr):Prop:=∀ ov iv,subscripted i false ov iv=operate [ov,iv] (getItem ov iv)
theorem lh{prog:Program}{w:World}{A:Around}{E:Value->Shared->Prop}{s:Shared}{env:Env}{value slice:Expr}{pos:Pos}{T id:String}{Q:Value->Shared->Prop}
 (hl:typeLookup (.type T) "__getitem__" = pure (some (.builtin id))) (hs:jo slice)
 (h:wpAny (model prog w) A (eval value env) (λo s₁=>wpAny (model prog w) A (eval slice env) (λi s₂=>s₂.TypeIs o T/\wpAny (model prog w) A (getItem o i) Q E s₂) E s₁) E s) :
 wpAny (model prog w) A (eval (.Subscript value slice pos) env) Q E s:=by
 refine Subscript_ (wpAny_mono h (λo s₁ h₁=>wpAny_mono h₁ (λi s₂ h₂=>?_) λ_ _ x=>x) λ_ _ x=>x)
 obtain⟨hT,h₂⟩:=h₂
 unfold subscriptTail
 refine wpAny_bind ?_
 rw[getitemInPython_of_ne hT.not_modules]
 refine wpAny_bind (wpAny_specialOf hT hl ?_)
 have fin:wpAny (model prog w) A (subscripted slice false o i) (λr s₃=>wpAny (model prog w) A (letTemporaryGo value o r >>= λ_=>pure r) Q E s₃) E s₂:=by
  rw[hs o i]
  exact wpAny_operating (wpAny_mono h₂ (λr s₃ h₃=>wpAny_bind (wpAny_letTemporaryGo (wpAny_pure h₃))) λ_ _ x=>x)
 first
  | exact wpAny_pure (wpAny_bind fin)
  | exact wpAny_bind (wpAny_pure (wpAny_bind fin))
  | exact wpAny_bind fin
theorem Cu {X:Cx} {pins:List (Addr × Obj)} {σ:St} {H:Hp} {s:Shared} {a:Addr} {y:V} {o:Option V} (I:ad X pins σ H s) (g:dy H a y o):s.TypeIs (.ref a) "dict":=by
 rcases g with ⟨kvs,k,e,_,_⟩ | ⟨kvs,k,b,e,_,_,_⟩
 ·obtain⟨_,_,vs,_,dd⟩:=kt I.hok e
  exact dd.typeIs
 ·obtain⟨_,_,xs,_,dd⟩:=kr I.hok e
  exact dd.typeIs
def qo(td ty:TE):TE:=λσ H Q=>td σ H λx H1=>ty σ H1 λy H2=>∃ a v,x=.ref a/\dy H2 a y (some v)/\Q v H2
def qF(td ty tv:TE):TS:=λD σ H=>tv σ H λv H1=>td σ H1 λx H2=>ty σ H2 λy H3=>∃ a H4,x=.ref a/\dN H3 a y v H4/\D.nx σ H4
section
variable {X:Cx}{o i e value:Expr}{pos pos' tpos:Pos}{td ty tv:TE}
theorem y0(hu:X.A.units+1 < cLine)(ho:PE X o td)(hi:PE X i ty)(hs:jo i):PE X (.Subscript o i pos) (qo td ty):=by
 intro pins s σ H Q I h
 refine lh PySem.F.slot_dict_getitem.lookup hs (ai (ho pins s σ H _ I h) λu s1 ⟨x,H1,I1,rx,q1⟩=>ai (hi pins s1 σ H1 _ I1 q1) λiv s2 ⟨y,H2,I2,ry,a,v,ex,g,q2⟩=>?_)
 subst ex
 obtain rfl:u=Value.ref a:=rx
 exact⟨Cu I2 g,Cy hu I2 g ry λw' s3 I3 rw'=>⟨v,H2,I3,rw',q2⟩⟩
theorem yw(hu:X.A.units+1 < cLine)(ho:PE X o td)(hi:PE X i ty)(hv:PE X value tv)(hs:swapsWith value (some (.Subscript o i pos')) pos.line X.env=pure false) :
 PS X (.Assign [.Subscript o i pos'] value pos) (qF td ty tv):=by
 intro pins s σ H D I h
 refine wpAny_Assign_Subscript (ai (hv pins s σ H _ I h) λr s1 ⟨v,H1,I1,rv,q1⟩=>ai (ho pins s1 σ H1 _ I1 q1) λu s2 ⟨x,H2,I2,rx,q2⟩=>ai (hi pins s2 σ H2 _ I2 q2) λiv s3 ⟨y,H3,I3,ry,a,H4,ex,g,q3⟩=>?_) hs
 subst ex
 obtain rfl:u=Value.ref a:=rx
 exact Cv hu I3 g ry rv λs4 I4=>⟨σ,H4,I4,q3⟩
end
theorem Ct{P:Program}{w:World}{H:Hp}(h:Heap)(hb:sysModules < h.objs.size):aH P w H (h.push { cls:=.type "dict",data:=.dict #[] }) h.objs.size (.dK []) :=
 ⟨Nat.zero_le _,beq_eq_false_iff_ne.mpr (Ne.symm (Nat.ne_of_lt hb)),[],.nil,Heap.DictOf.new h⟩
theorem Co{P:Program}{w:World}{H:Hp}(h:Heap)(hb:sysModules < h.objs.size):aH P w H (h.push { cls:=.type "dict",data:=.dict #[] }) h.objs.size (.dT []) :=
 ⟨Nat.zero_le _,beq_eq_false_iff_ne.mpr (Ne.symm (Nat.ne_of_lt hb)),[],.nil,_,#[],0,Heap.get?_push_size _ rfl,⟨rfl,rfl,rfl⟩,rfl,rfl,List.nodup_nil⟩
def vZ:TE:=λ_ H Q=>∀ p,H p=none->Q (.ref p) (upd H p (.dK []))
def vY:TE:=λ_ H Q=>∀ p,H p=none->Q (.ref p) (upd H p (.dT []))
section
variable {X:Cx}{pos:Pos}
theorem yZ:PE X (.Dict [] [] pos) vZ:=λpins s σ H Q I h =>
 wpAny_Dict_empty ⟨.ref s.heap.objs.size,_,I.laid (a:=s.heap.objs.size) (o:=.dK []) (t':=s.toks) (λ_ _ q=>Heap.get?_push_of_some _ q) (Nat.le_refl _) (Ct s.heap I.big),rfl,h _ (I.hok.fresh (Nat.le_refl _))⟩
theorem yY:PE X (.Dict [] [] pos) vY:=λpins s σ H Q I h =>
 wpAny_Dict_empty ⟨.ref s.heap.objs.size,_,I.laid (a:=s.heap.objs.size) (o:=.dT []) (t':=s.toks) (λ_ _ q=>Heap.get?_push_of_some _ q) (Nat.le_refl _) (Co s.heap I.big),rfl,h _ (I.hok.fresh (Nat.le_refl _))⟩
end
structure M1 (X:Cx) (o:Expr) (m:Str) (apos:Pos) (e:Expr) (cpos:Pos):Prop where
 base:attributeBase o m X.env (eval o X.env)=eval o X.env
 mX:((backTo cpos (starEach [e] X.env)).all (λx=>!x.1) && (backToKw cpos (keywordEach [] X.env)).all (λx=>x.1.isSome)
  && decide (([e]:List Expr).length+([]:List Keyword).length+(if ([]:List Keyword).isEmpty then 0 else 1) < 30))=true
 line:(apos.endLine == cpos.line)=true
 trees:backTo cpos (starEach [e] X.env)=[(false,eval e X.env)]
structure M2 (X:Cx) (o:Expr) (m:Str) (apos:Pos) (e f:Expr) (cpos:Pos):Prop where
 base:attributeBase o m X.env (eval o X.env)=eval o X.env
 mX:((backTo cpos (starEach [e,f] X.env)).all (λx=>!x.1) && (backToKw cpos (keywordEach [] X.env)).all (λx=>x.1.isSome)
  && decide (([e,f]:List Expr).length+([]:List Keyword).length+(if ([]:List Keyword).isEmpty then 0 else 1) < 30))=true
 line:(apos.endLine == cpos.line)=true
 trees:backTo cpos (starEach [e,f] X.env)=[(false,eval e X.env),(false,eval f X.env)]
end L2
namespace HT
open PySem PyProof.Rows
def lexLt:List Int->List Int->Bool
 | [],[]=>false
 | [],_ :: _=>true
 | _ :: _,[]=>false
 | x :: xs,y :: ys=>if x=y then lexLt xs ys else decide (x < y)
theorem lexLt_cons(x y:Int)(xs ys:List Int):lexLt (x :: xs) (y :: ys)=if x=y then lexLt xs ys else decide (x < y):=rfl
theorem ss:lexLt [] []=false:=rfl
theorem su(y:Int)(ys:List Int):lexLt [] (y :: ys)=true:=rfl
theorem sv(x:Int)(xs:List Int):lexLt (x :: xs) []=false:=rfl
theorem tL(A:Around)(s:Shared)(a:Int)(t:Tok)(c:Int)(u:Tok) : ∃ e,SeqAt.EqAt A s (.int a t) (.int c u) e/\(e=true ↔ a=c) :=
 ⟨(a == c),SeqAt.EqAt.int_int a t c u,by simp⟩
theorem xk(A:Around)(s:Shared)(a:Int)(t:Tok)(c:Int)(u:Tok)(prog:Program)(w:World)(E:Value->Shared->Prop)(Q:Value->Shared->Prop)(h:Q (.bool (decide (a < c))) s) :
 wpAny (model prog w) A (richCompare .Lt (.int a t) (.int c u)) Q E s :=
 (PyProof.Rows.lt_int h:wpAny (model prog w) A (compareOp .Lt (.int a t) (.int c u)) Q E s)
section
open PySem.SeqAt
open PySem.AutoSeq1 (wpAny_loadPart')
open PySem.MeetsSeq PySem.MeetsSeq2 PySem.MeetsSeq3
theorem tuple_lt_ints(l b:Addr)(items items2:Array Value)(n n2:Nat)(dd dd2:Option Addr)(sl sl2:Array (Option Value))(ns ms:List Int)(hi:IntsAre items.toList ns)(hj:IntsAre items2.toList ms) :
 Meets (Builtin.«tuple.__lt__» ⟨[.ref l,.ref b],[]⟩)
  (λ_ R s=>s.heap.get? l=some { cls:=.type "tuple",dict:=dd,data:=.seq items n,slots:=sl }/\s.heap.get? b=some { cls:=.type "tuple",dict:=dd2,data:=.seq items2 n2,slots:=sl2 } /\
    R (.ok (.ret (.bool (lexLt ns ms)))) s) :=
 .of_wp λprog w A R s h=>by
  obtain⟨hp,g,d,tk,os⟩:=s; obtain⟨hl,hb,h⟩:=h
  have f2:=AutoSeq1.sub_tuple_tuple
  have z1:items.size=ns.length:=by rw[<- hi.length]; simp
  have z2:items2.size=ms.length:=by rw[<- hj.length]; simp
  wp_walk using wpAny_loadPart' hl,wpAny_loadPart' hb,wpAny_forIn_list _ (λrest b s'=>b.1=none/\s'=⟨hp,g,d,tk,os⟩/\∃ (vs ws:List Value) (ns' ms':List Int),rest=vs.zip ws /\
   IntsAre vs ns'/\IntsAre ws ms'/\ns'.length+items2.size=ms'.length+items.size/\R (.ok (.ret (.bool (lexLt ns' ms')))) ⟨hp,g,d,tk,os⟩) _
  case turn =>
   rintro⟨y,x⟩ rest b s' ⟨hb',rfl,vs,ws,ns',ms',hz,hvi,hwi,hlen,hR⟩
   cases hvi with
   | nil=>rw[List.zip_nil_left]at hz; cases hz
   | cons a t hvi' =>
    cases hwi with
    | nil=>rw[List.zip_nil_right]at hz; cases hz
    | cons c u hwi' =>
     rw[List.zip_cons_cons]at hz
     injection hz with hyx hrest
     injection hyx with hy hx
     subst hy hx
     rw[lexLt_cons]at hR
     simp only [List.length_cons]at hlen
     obtain⟨e,he,hiff⟩:=tL A.in1 ⟨hp,g,d,tk,os⟩ a t c u
     refine wpAny_bind (he prog w _ _ ?_)
     cases e with
     | true =>
      rw[if_pos (hiff.mp rfl)]at hR
      wp_walk
      exact⟨rfl,rfl,_,_,_,_,hrest,hvi',hwi',by omega,hR⟩
     | false =>
      rw[if_neg (λq=>absurd (hiff.mpr q) Bool.false_ne_true)]at hR
      have hri:=xk A.in1 ⟨hp,g,d,tk,os⟩ a t c u prog w
      wp_walk using hri
      exact⟨_,rfl,by simpa using hR⟩
  case fin =>
   rintro⟨b1,b2⟩ s' ⟨hb',rfl,vs,ws,ns',ms',hz,hvi,hwi,hlen,hR⟩
   simp only at hb'
   subst hb'
   have hv:lexLt ns' ms'=decide (items.size < items2.size):=by
    cases hvi with
    | nil =>
     cases hwi with
     | nil =>
      simp only [List.length_nil]at hlen
      rw[ss]
      exact (decide_eq_false (by omega)).symm
     | cons c u hw =>
      simp only [List.length_nil,List.length_cons]at hlen
      rw[su]
      exact (decide_eq_true (by omega)).symm
    | cons a t hv =>
     cases hwi with
     | nil =>
      simp only [List.length_nil,List.length_cons]at hlen
      rw[sv]
      exact (decide_eq_false (by omega)).symm
     | cons c u hw =>
      rw[List.zip_cons_cons]at hz
      cases hz
   rw[hv]at hR
   wp_walk
   exact⟨_,rfl,by simpa [Builtin.Tuple.tupleCompareSizes] using hR⟩
  case h =>
   exact⟨rfl,rfl,items.toList,items2.toList,ns,ms,rfl,hi,hj,by omega,h⟩
end
section
variable {prog:Program}{w:World}{A:Around}{E:Value->Shared->Prop}{s:Shared}
theorem lt_tupInts{l b:Addr}{items items2:Array Value}{ns ms:List Int}{Q:Value->Shared->Prop}(hl:IsTup s.heap l items)(hb:IsTup s.heap b items2)(hi:IntsAre items.toList ns)(hj:IntsAre items2.toList ms)
 (hu:A.units < cLine) (h:Q (.bool (lexLt ns ms)) s):wpAny (model prog w) A (compareOp .Lt (.ref l) (.ref b)) Q E s:=by
 obtain⟨⟨cls,dd,data,sl⟩,ho,hc,n,hd⟩:=id hl
 obtain⟨⟨cls2,dd2,data2,sl2⟩,ho2,hc2,n2,hd2⟩:=id hb
 simp only at hc hd hc2 hd2
 subst hc hd hc2 hd2
 exact richCompare_meets_room (op:=.Lt) ⟨_,ho,rfl⟩ ⟨_,ho2,rfl⟩ PySem.F.slot_tuple_lt PySem.F.entry_tuple_lt (PySem.F.args_tuple_lt_2 _ _) (tuple_lt_ints l b items items2 n n2 dd dd2 sl sl2 ns ms hi hj)
  ⟨ho,ho2,show Value.bool (lexLt ns ms)≠Value.notImplemented/\Q (.bool (lexLt ns ms)) s from ⟨(λx=>nomatch x),h⟩⟩ hu
theorem cat_tup{t b:Addr}{vs ws:List Value}{Q:Value->Shared->Prop}(ht:IsTup s.heap t vs.toArray)(hb:IsTup s.heap b ws.toArray)(hv:vs≠[])
 (h1:ws=[]->Q (.ref t) s) (h2:ws≠[]->Q (.ref s.heap.objs.size) { s with heap:=s.heap.push { cls:=.type "tuple",data:=.seq (vs++ws).toArray } })
 (hsz:vs.length+ws.length<=sizeLine):wpAny (model prog w) A (binaryOp .Add (.ref t) (.ref b)) Q E s:=by
 obtain⟨⟨cls,dd,data,sl⟩,ho,hc,n,hd⟩:=id ht
 obtain⟨⟨cls2,dd2,data2,sl2⟩,ho2,hc2,n2,hd2⟩:=id hb
 simp only at hc hd hc2 hd2
 subst hc hd hc2 hd2
 have e:vs.toArray++ws.toArray=(vs++ws).toArray:=by simp
 by_cases hw:ws=[]
 ·exact concat_meets ⟨_,ho,rfl⟩ ⟨_,ho2,rfl⟩ noFill_tuple_add seq_tuple_add PySem.F.slot_tuple_add PySem.F.entry_tuple_add (PySem.F.args_tuple_add_2 _ _)
   (tuple_addW1 t b vs.toArray ws.toArray n n2 dd dd2 sl sl2 (by simpa using hv) (by simp[hw])) ⟨ho,ho2,h1 hw⟩
 ·refine concat_meets ⟨_,ho,rfl⟩ ⟨_,ho2,rfl⟩ noFill_tuple_add seq_tuple_add PySem.F.slot_tuple_add PySem.F.entry_tuple_add (PySem.F.args_tuple_add_2 _ _)
   (tuple_addW2 t b vs.toArray ws.toArray n n2 dd dd2 sl sl2 (by simpa using hv) (by simpa using hw) (by rw[List.size_toArray,List.size_toArray]; exact hsz)) ⟨ho,ho2,?_⟩
  rw[e]
  exact h2 hw
def sIx(n d:Nat):Option Int->Nat
 | none=>d
 | some v=>if v < 0 then (v+(n:Int)).toNat else min v.toNat n
theorem xa(n d:Nat)(hd:d<=n)(o:Option Int):sIx n d o<=n:=by
 cases o with
 | none=>exact hd
 | some v =>
  show (if v < 0 then (v+(n:Int)).toNat else min v.toNat n)<=n
  by_cases hv:v < 0
  ·rw[if_pos hv]; omega
  ·rw[if_neg hv]; exact Nat.min_le_right _ _
theorem ue(v:Int)(n d:Nat):(if v < 0 then max (v+(n:Int)) 0 else min v (n:Int))=((sIx n d (some v):Nat):Int):=by
 show (if v < 0 then max (v+(n:Int)) 0 else min v (n:Int))=(((if v < 0 then (v+(n:Int)).toNat else min v.toNat n):Nat):Int)
 by_cases hv:v < 0
 ·simp only [if_pos hv]; omega
 ·simp only [if_neg hv]; omega
theorem DZ(lo hi:Option Int)(n:Nat):Builtin.Slice.sliceAdjust lo hi 1 (n:Int)=(((sIx n 0 lo:Nat):Int),((sIx n n hi:Nat):Int)):=by
 have h1 : ¬ ((1:Int) < 0):=by omega
 unfold Builtin.Slice.sliceAdjust
 simp only [h1,if_false]
 refine Prod.ext ?_ ?_
 ·cases lo with
  | none=>rfl
  | some v=>exact ue v n 0
 ·cases hi with
  | none=>rfl
  | some v=>exact ue v n n
theorem yB(i j:Nat):Builtin.Slice.slicePlaces (i:Int) (j:Int) 1=j - i:=by
 unfold Builtin.Slice.slicePlaces
 have h1:(1:Int) > 0:=by omega
 simp only [h1,if_true,Int.ediv_one]
 split <;> omega
theorem qy{v:Value}{o:Option Int}{Q:Option Int->Shared->Prop}(p:IsPart v o)(h:Q o s):wpAny (model prog w) A (Builtin.Slice.slicePartIndex v) Q E s:=by
 cases p with
 | none=>exact slicePart_none h
 | int i t=>exact slicePart_int h
theorem qz{sl:Addr}{vl vu:Value}{lo hi:Option Int}{n:Nat}{Q:Int × Int × Nat->Shared->Prop}(hs:s.heap.IsSliceOf sl vl vu .none)(pl:IsPart vl lo)(pu:IsPart vu hi)
 (h:Q (((sIx n 0 lo:Nat):Int),1,sIx n n hi - sIx n 0 lo) s):wpAny (model prog w) A (Builtin.Slice.sliceApplied (.ref sl) (pure (n:Int))) Q E s:=by
 obtain⟨os,hos,hcs,hds⟩:=id hs
 unfold Builtin.Slice.sliceApplied Builtin.Slice.sliceFields
 refine wpAny_bind (wpAny_bind (wpAny_field hos hds (x:=vl) rfl (wpAny_bind (wpAny_field hos hds (x:=vu) rfl (wpAny_bind (wpAny_field hos hds (x:=.none) rfl (wpAny_pure ?_)))))))
 refine wpAny_bind (slicePart_none ?_)
 show wpAny _ _ (if ((1:Int) == 0)=true then _ else _) _ _ s
 rw[if_neg (by decide)]
 refine wpAny_bind (qy pl (wpAny_bind (qy pu (wpAny_bind (wpAny_pure ?_)))))
 show wpAny _ _ (match Builtin.Slice.sliceAdjust lo hi 1 (n:Int) with | (lo,hi)=>pure (lo,(1:Int),Builtin.Slice.slicePlaces lo hi 1)) _ _ s
 rw[DZ lo hi n]
 show wpAny _ _ (pure (((sIx n 0 lo:Nat):Int),(1:Int),Builtin.Slice.slicePlaces ((sIx n 0 lo:Nat):Int) ((sIx n n hi:Nat):Int) 1)) _ _ s
 rw[yB]
 exact wpAny_pure h
theorem yC(xs:Array Value)(i k:Nat):((List.range k).filterMap λ(m:Nat)=>xs[((i:Int)+(m:Int)*1).toNat]?).toArray=((xs.toList.drop i).take k).toArray:=by
 have e:(λ(m:Nat)=>xs[((i:Int)+(m:Int)*1).toNat]?)=λm=>xs[i+m]?:=by
  funext m
  have:((i:Int)+(m:Int)*1).toNat=i+m:=by omega
  rw[this]
 rw[e]
 have:=pick_run xs i k
 rw[List.filterMap_map]at this
 have e2:((λx=>xs[x]?) ∘ λx=>i+x)=λm=>xs[i+m]?:=rfl
 rw[e2]at this
 rw[this]
theorem getItem_tuple_cut{t sl:Addr}{items:Array Value}{vl vu:Value}{lo hi:Option Int}{Q:Value->Shared->Prop}(ht:IsTup s.heap t items)(hs:s.heap.IsSliceOf sl vl vu .none)(pl:IsPart vl lo)(pu:IsPart vu hi)
 (hw : ¬ (sIx items.size 0 lo=0/\sIx items.size items.size hi=items.size))
 (h:Q (.ref s.heap.objs.size) { s with heap:=s.heap.push { cls:=.type "tuple",data:=.seq ((items.toList.drop (sIx items.size 0 lo)).take (sIx items.size items.size hi - sIx items.size 0 lo)).toArray } })
 (hsz:items.size<=sizeLine):wpAny (model prog w) A (getItem (.ref t) (.ref sl)) Q E s:=by
 have htake:sizeOk (.seq ((items.toList.drop (sIx items.size 0 lo)).take (sIx items.size items.size hi - sIx items.size 0 lo)).toArray):=by
  show ((items.toList.drop (sIx items.size 0 lo)).take (sIx items.size items.size hi - sIx items.size 0 lo)).toArray.size<=sizeLine
  rw[List.size_toArray,List.length_take,List.length_drop,Array.length_toList]
  omega
 have hj:sIx items.size items.size hi<=items.size:=xa _ _ (Nat.le_refl _) hi
 obtain⟨os,hos,hcs,hds⟩:=id hs
 have hTs:s.TypeIs (.ref sl) "slice":=⟨os,hos,hcs⟩
 unfold getItem
 try with_reducible refine wpAny_holding ?_
 first | refine wpAny_bind (wpAny_pure ?_) | skip
 refine wpAny_bind (wpAny_sequenceKey ht.typeIs (by decide) ?_)
 refine wpAny_bind (wpAny_callSpecial?_slot (name:=Str.ofString "__getitem__") ht.typeIs PyProof.Rows.slot_tuple_getitem
  (wpAny_call_entry PyProof.Rows.slot_tuple_getitem ht.typeIs entry_tuple_getitem ?_ (args_tuple_getitem _ _)))
 show wpAny _ _ (Builtin.Tuple.tupleItemsOf (.ref t) >>= _) _ _ s
 refine wpAny_bind (tupleItemsOf_ ht ?_)
 refine wpAny_bind (wpAny_typeOf hTs ?_)
 rw[if_pos (by decide)]
 refine wpAny_bind (qz hs pl pu ?_)
 have hno : ¬ ((((sIx items.size 0 lo:Nat):Int) == 0 && (1:Int) == 1 && (sIx items.size items.size hi - sIx items.size 0 lo) == items.size)=true):=by
  intro q
  rw[Bool.and_eq_true,Bool.and_eq_true]at q
  have q1:((sIx items.size 0 lo:Nat):Int)=0:=eq_of_beq q.1.1
  have q2:sIx items.size items.size hi - sIx items.size 0 lo=items.size:=eq_of_beq q.2
  exact hw ⟨by omega,by omega⟩
 show wpAny _ _ (if (((sIx items.size 0 lo:Nat):Int) == 0 && (1:Int) == 1 && (sIx items.size items.size hi - sIx items.size 0 lo) == items.size)=true then _ else _) _ _ s
 rw[if_neg hno,yC]
 first
  | exact wpAny_bind (m:=Builtin.Tuple.tupleExact _) (wpAny_newObj_type (wpAny_pure ⟨_,rfl,wpAny_pure h⟩) htake)
  | exact wpAny_bind (m:=Builtin.Tuple.tupleExact _) (wpAny_newObj_type (wpAny_bind (wpAny_pure (wpAny_pure ⟨_,rfl,wpAny_pure h⟩))) htake)
  | exact wpAny_bind (wpAny_bind (m:=Builtin.Tuple.tupleExact _) (wpAny_newObj_type (wpAny_pure (wpAny_pure ⟨_,rfl,wpAny_pure h⟩)) htake))
  | exact wpAny_bind (wpAny_bind (m:=Builtin.Tuple.tupleExact _) (wpAny_newObj_type (wpAny_pure ⟨_,rfl,wpAny_pure h⟩) htake))
end
end HT
namespace L2
open PySem PySem.Spec PyProof.Rows
abbrev TO:=St->Hp->(Option Int->Hp->Prop)->Prop
def PO(X:Cx)(e:Option Expr)(t:TO):Prop :=
 ∀ (pins:List (Addr × Obj)) (s:Shared) (σ:St) (H:Hp) (Q:Option Int->Hp->Prop),ad X pins σ H s->t σ H Q ->
  wpAny (model X.prog X.w) X.A (evalPart e X.env) (λu s'=>∃ o H',ad X pins σ H' s'/\IsPart u o/\Q o H') X.xe s
def pY:TO:=λ_ H Q=>Q none H
def pV(t:TE):TO:=λσ H Q=>t σ H λx H1=>∃ i,x=.int i/\Q (some i) H1
section
variable {X:Cx}{e:Expr}{te:TE}{lo hi:Option Expr}{tl th:TO}{pos p2:Pos}
theorem yA:PO X none pY:=by
 intro pins s σ H Q I h
 rw[evalPart_none]
 exact wpAny_pure ⟨none,H,I,.none,h⟩
theorem yz(h:PE X e te):PO X (some e) (pV te):=by
 intro pins s σ H Q I hw
 rw[evalPart_some]
 refine ai (h pins s σ H _ I hw) λu s1 ⟨x,H1,I1,r1,q1⟩=>?_
 obtain⟨i,rfl,q⟩:=q1
 obtain⟨t,rfl⟩:=r1
 exact⟨some i,H1,I1,.int i t,q⟩
def fx(X:Cx)(r:V->Option Int->Option Int->Hp->VK->Prop):Prop :=
 ∀ (pins:List (Addr × Obj)) (s:Shared) (σ:St) (H:Hp) (x:V) (v vl vu:Value) (lo hi:Option Int) (sl:Addr) (Q:VK),ad X pins σ H s->ar x v->s.heap.IsSliceOf sl vl vu .none->IsPart vl lo->IsPart vu hi->r x lo hi H Q ->
  ∃ T id,typeLookup (.type T) "__getitem__" = pure (some (.builtin id))/\s.TypeIs v T/\wpAny (model X.prog X.w) X.A (getItem v (.ref sl)) (EP X pins σ Q) X.xe s
def pT(r:V->Option Int->Option Int->Hp->VK->Prop)(te:TE)(tl th:TO):TE:=λσ H Q=>te σ H λx H1=>tl σ H1 λl H2=>th σ H2 λu H3=>r x l u H3 Q
theorem yO{r:V->Option Int->Option Int->Hp->VK->Prop}(hr:fx X r)(he:PE X e te)(hl:PO X lo tl)(hu:PO X hi th):PE X (.Subscript e (.Slice lo hi none p2) pos) (pT r te tl th):=by
 intro pins s σ H Q I h
 refine Subscript_ (ai (he pins s σ H _ I h) λv s1 ⟨x,H1,I1,r1,q1⟩=>?_)
 refine wpAny_Slice (ai (hl pins s1 σ H1 _ I1 q1) λvl s2 ⟨l,H2,I2,pl,q2⟩=>ai (hu pins s2 σ H2 _ I2 q2) λvu s3 ⟨u,H3,I3,pu,q3⟩=>?_)
 rw[evalPart_none]
 refine wpAny_pure ?_
 have I4:ad X pins σ H3 { s3 with heap:=s3.heap.push { cls:=.type "slice",data:=.fields #[vl,vu,.none] } }:=I3.kept (t':=s3.toks) λb ob q=>Heap.get?_push_of_some _ q
 obtain⟨T,id,hT,ht,hg⟩:=hr pins { s3 with heap:=s3.heap.push { cls:=.type "slice",data:=.fields #[vl,vu,.none] } } σ H3 x v vl vu l u s3.heap.objs.size Q I4 r1 (Heap.IsSliceOf.new ..) pl pu q3
 show wpAny (model X.prog X.w) X.A (subscriptTail e (.Slice lo hi none p2) v (.ref s3.heap.objs.size)) (EP X pins σ Q) X.xe { s3 with heap:=s3.heap.push { cls:=.type "slice",data:=.fields #[vl,vu,.none] } }
 exact tail_any (ops:=[.ref s3.heap.objs.size,v]) ht hT hg (by with_unfolding_all rfl)
def cy(xs:List V)(lo hi:Option Int):List V:=(xs.drop (HT.sIx xs.length 0 lo)).take (HT.sIx xs.length xs.length hi - HT.sIx xs.length 0 lo)
theorem t3(xs:List V)(lo hi:Option Int):(cy xs lo hi).length<=xs.length:=by
 unfold cy
 rw[List.length_take,List.length_drop]
 omega
def xw(K:W.Frag):V->Option Int->Option Int->Hp->VK->Prop:=λx lo hi H Q=>∃ a xs,x=.ref a/\bP K H a xs /\
 ¬ (HT.sIx xs.length 0 lo=0/\HT.sIx xs.length xs.length hi=xs.length)/\∀ p,H p=none->Q (.ref p) (upd H p (.tup (cy xs lo hi)))
theorem wI:fx X (xw X.K):=by
 intro pins s σ H x v vl vu lo hi sl Q I rx hs pl pu h
 obtain⟨a,xs,rfl,hx,hw,q⟩:=h
 cases rx
 obtain⟨its,r,ht,hz⟩:=I.tuple hx
 have hlen:its.toArray.size=xs.length:=by rw[List.size_toArray]; exact r.length.symm
 refine⟨"tuple",_,PyProof.Rows.slot_tuple_getitem.lookup,ht.typeIs,?_⟩
 refine HT.getItem_tuple_cut ht hs pl pu (by rw[hlen]; exact hw) ?_ (by rw[hlen]; exact hz)
 rw[hlen]
 refine⟨.ref s.heap.objs.size,_,I.laid (t':=s.toks) (o:=.tup (cy xs lo hi)) (λb ob q=>Heap.get?_push_of_some _ q) (Nat.le_refl _) ?_,rfl,q _ (I.hok.fresh (Nat.le_refl _))⟩
 exact⟨Nat.le_trans (t3 xs lo hi) hz,_,(r.drop (HT.sIx xs.length 0 lo)).take (HT.sIx xs.length xs.length hi - HT.sIx xs.length 0 lo),IsTup.new _ _⟩
def xD(K:W.Frag):R2:=λx y H Q=>∃ a b xs ys,x=.ref a/\y=.ref b/\bP K H a xs/\bP K H b ys/\xs≠[]/\xs.length+ys.length<=sizeLine /\
 (ys=[]->Q (.ref a) H)/\(ys≠[]->∀ p,H p=none->Q (.ref p) (upd H p (.tup (xs++ys))))
theorem aq.nil_iff{xs:List V}{us:List Value}(r:aq xs us):us=[] ↔ xs=[]:=by
 cases r with
 | nil=>simp
 | cons _ _=>simp
theorem zq:aF X (binaryOp .Add) (xD X.K):=by
 intro pins s σ H x y v u Q I rx ry h
 obtain⟨a,b,xs,ys,rfl,rfl,ha,hb,hx,hz,q1,q2⟩:=h
 cases rx
 cases ry
 obtain⟨its,r1,p1,_⟩:=I.tuple ha
 obtain⟨its2,r2,p2,_⟩:=I.tuple hb
 refine HT.cat_tup p1 p2 (λz=>hx (r1.nil_iff.mp z)) (λz=>⟨.ref a,H,I,rfl,q1 (r2.nil_iff.mp z)⟩) (λz=>?_) (by rw[<- r1.length,<- r2.length]; exact hz)
 refine⟨.ref s.heap.objs.size,_,I.laid (t':=s.toks) (o:=.tup (xs++ys)) (λb ob q=>Heap.get?_push_of_some _ q) (Nat.le_refl _) ?_,rfl,q2 (λw=>z (r2.nil_iff.mpr w)) _ (I.hok.fresh (Nat.le_refl _))⟩
 exact⟨by rw[List.length_append]; exact hz,_,r1.append r2,IsTup.new _ _⟩
end
def ir(n:Nat)(i:Int):Option Nat:=if 0<=i then (if i < n then some i.toNat else none) else if -(n:Int)<=i then some (i+n).toNat else none
def eO{α:Type}(xs:List α)(i:Int):Option α:=(ir xs.length i).bind λj=>xs[j]?
theorem AD{n:Nat}{i:Int}{j:Nat}(h:ir n i=some j):seqIndex? i n=some j/\j < n/\-(n:Int)<=i/\i < n:=by
 unfold ir at h
 by_cases h0:0<=i
 ·rw[if_pos h0]at h
  by_cases h1:i < n
  ·rw[if_pos h1]at h
   have e:i.toNat=j:=Option.some.inj h
   exact⟨by rw[seqIndex_of h0 h1,e],by omega,by omega,h1⟩
  ·rw[if_neg h1]at h; cases h
 ·rw[if_neg h0]at h
  by_cases h1 : -(n:Int)<=i
  ·rw[if_pos h1]at h
   have e:(i+n).toNat=j:=Option.some.inj h
   exact⟨by rw[seqIndex_neg (by omega) h1,e],by omega,h1,by omega⟩
  ·rw[if_neg h1]at h; cases h
theorem ur{α:Type}{xs:List α}{i:Int}{v:α}(h:eO xs i=some v) : ∃ j,seqIndex? i xs.length=some j/\xs[j]? = some v/\j < xs.length/\-(xs.length:Int)<=i/\i < xs.length:=by
 unfold eO at h
 cases e:ir xs.length i with
 | none=>rw[e]at h; cases h
 | some j =>
  rw[e]at h
  obtain⟨h1,h2,h3,h4⟩:=AD e
  exact⟨j,h1,h,h2,h3,h4⟩
theorem bW{α:Type}{xs:List α}{j:Nat}{v:α}(h:xs[j]? = some v):eO xs (j:Int)=some v:=by
 have hj:j < xs.length:=(List.getElem?_eq_some_iff.mp h).1
 have e:ir xs.length (j:Int)=some j:=by
  unfold ir
  rw[if_pos (by omega),if_pos (by omega)]; simp
 unfold eO; rw[e]; exact h
def ux(b:Expr):Prop:=∀ o i,subscripted b false o i=operate [o,i] (getItem o i)
def cZ(X:Cx)(r:R2):Prop :=
 ∀ (value slice:Expr) (pins:List (Addr × Obj)) (s:Shared) (σ:St) (H:Hp) (x y:V) (v u:Value) (Q:VK),ad X pins σ H s->ar x v->ar y u->r x y H Q ->
  subscripted slice false v u=operate [v,u] (getItem v u)->wpAny (model X.prog X.w) X.A (subscriptTail value slice v u) (EP X pins σ Q) X.xe s
def fB(X:Cx)(id:String)(r:V->List V->Hp->VK->Prop):Prop :=
 ∀ (pins:List (Addr × Obj)) (s:Shared) (σ:St) (H:Hp) (x:V) (xs:List V) (v:Value) (us:List Value) (Q:VK),ad X pins σ H s->ar x v->aq xs us->r x xs H Q ->
  wpAny (model X.prog X.w) X.A (call (.builtin id) (v :: us)) (EP X pins σ Q) X.xe s
section
variable {X:Cx}{a b:Expr}{ta tb:TE}{pos:Pos}
theorem cZ.or{r r':R2}(h:cZ X r)(h':cZ X r'):cZ X (λx y H Q=>r x y H Q\/r' x y H Q):=by
 intro value slice pins s σ H x y v u Q I rx ry q hs
 rcases q with q | q
 ·exact h value slice pins s σ H x y v u Q I rx ry q hs
 ·exact h' value slice pins s σ H x y v u Q I rx ry q hs
theorem yU{r:R2}(hr:cZ X r)(ha:PE X a ta)(hb:PE X b tb)(hs:ux b):PE X (.Subscript a b pos) (de r ta tb):=by
 intro pins s σ H Q I h
 exact Subscript_ (ow ha hb I h λv u s2 x y H2 I2 rx ry q=>hr a b pins s2 σ H2 x y v u Q I2 rx ry q (hs _ _))
def xB(K:W.Frag):R2:=λx y H Q=>∃ p xs i v,x=.ref p/\y=.int i/\az K H p xs/\eO xs i=some v/\Q v H
def xA(K:W.Frag):R2:=λx y H Q=>∃ p xs i v,x=.ref p/\y=.int i/\bP K H p xs/\eO xs i=some v/\Q v H
theorem AC:cZ X (xB X.K):=by
 intro value slice pins s σ H x y v u Q I rx ry h hs
 obtain⟨p,xs,i,z,rfl,rfl,hq,he,q⟩:=h
 cases rx
 obtain⟨t,rfl⟩:=ry
 obtain⟨its,r,pl,hz⟩:=I.list hq
 obtain⟨j,h1,h2,h3,h4,h5⟩:=ur he
 obtain⟨w,ew,rw'⟩:=r.get h2
 have hl:=r.length
 have hn:=j3
 have fin:EP X pins σ Q w s:=⟨z,H,I,rw',q⟩
 by_cases h0:0<=i
 ·have hj:i.toNat=j:=by
   rw[seqIndex_of h0 h5]at h1
   exact Option.some.inj h1
  exact item_listR pl.isList h0 (by omega) (by rw[hj]; simpa using ew) fin hs
 ·have hj:(i+(its.toArray.size:Int)).toNat=j:=by
   rw[seqIndex_neg (by omega) h4]at h1
   rw[List.size_toArray,<- hl]
   exact Option.some.inj h1
  exact subscriptTail_builtinR (x:=w) pl.isList.typeIs slot_list_getitem.lookup
   (wpAny_getItem_list_neg (Q:=λr s'=>r=w/\EP X pins σ Q r s') pl.isList (by omega) (by rw[List.size_toArray] <;> omega) (by omega) (by rw[hj]; simpa using ew) ⟨rfl,fin⟩) hs
theorem AB:cZ X (xA X.K):=by
 intro value slice pins s σ H x y v u Q I rx ry h hs
 obtain⟨p,xs,i,z,rfl,rfl,hq,he,q⟩:=h
 cases rx
 obtain⟨t,rfl⟩:=ry
 obtain⟨its,r,pl,hz⟩:=I.tuple hq
 obtain⟨j,h1,h2,h3,h4,h5⟩:=ur he
 obtain⟨w,ew,rw'⟩:=r.get h2
 have hl:=r.length
 have hn:=j3
 have fin:EP X pins σ Q w s:=⟨z,H,I,rw',q⟩
 exact subscriptTail_builtinR (x:=w) pl.typeIs slot_tuple_getitem.lookup
  (getItem_tuple (j:=j) (Q:=λr s'=>r=w/\EP X pins σ Q r s') pl (by omega) (by omega) (by rw[List.size_toArray,<- hl]; exact h1) (by simpa using ew) ⟨rfl,fin⟩) hs
theorem wG(lo hi:Option Int)(n:Nat):(sliceBounds lo hi none n).1=((HT.sIx n 0 lo:Nat):Int)/\(sliceBounds lo hi none n).2.1=((HT.sIx n n hi:Nat):Int)/\(sliceBounds lo hi none n).2.2=1:=by
 refine⟨?_,?_,rfl⟩
 ·cases lo with
  | none=>simp[sliceBounds,HT.sIx]
  | some i =>
   simp only [sliceBounds,HT.sIx,Option.getD_none,show (1:Int) > 0 by decide,if_true]
   by_cases h:i < 0
   ·simp only [h,if_true] <;> omega
   ·simp only [h,if_false] <;> omega
 ·cases hi with
  | none=>simp[sliceBounds,HT.sIx]
  | some i =>
   simp only [sliceBounds,HT.sIx,Option.getD_none,show (1:Int) > 0 by decide,if_true]
   by_cases h:i < 0
   ·simp only [h,if_true] <;> omega
   ·simp only [h,if_false] <;> omega
theorem wH(its:List Value)(lo hi:Option Int):slicePick its.toArray lo hi none=((its.drop (HT.sIx its.length 0 lo)).take (HT.sIx its.length its.length hi - HT.sIx its.length 0 lo)).toArray:=by
 obtain⟨h1,h2,h3⟩:=wG lo hi its.toArray.size
 unfold slicePick
 rw[h1,h2,h3]
 simp only [sliceRange_one,pick_run,List.size_toArray] <;> rfl
def xx(K:W.Frag):V->Option Int->Option Int->Hp->VK->Prop:=λx lo hi H Q=>∃ a xs,x=.ref a/\az K H a xs/\∀ p,H p=none->Q (.ref p) (upd H p (.lst (cy xs lo hi)))
theorem wJ:fx X (xx X.K):=by
 intro pins s σ H x v vl vu lo hi sl Q I rx hs pl pu h
 obtain⟨a,xs,rfl,hx,q⟩:=h
 cases rx
 obtain⟨its,r,ht,hz⟩:=I.list hx
 have hlen:=r.length
 refine⟨"list",_,slot_list_getitem.lookup,ht.isList.typeIs,?_⟩
 refine wpAny_getItem_list_slice ht.isList hs pl pu .none (by simp) ?_ (by rw[List.size_toArray] <;> omega)
 rw[wH,<- hlen]
 refine⟨.ref s.heap.objs.size,_,I.laid (t':=s.toks) (o:=.lst (cy xs lo hi)) (λb ob q=>Heap.get?_push_of_some _ q) (Nat.le_refl _) ?_,rfl,q _ (I.hok.fresh (Nat.le_refl _))⟩
 exact⟨Nat.le_trans (t3 xs lo hi) hz,_,0,(r.drop (HT.sIx xs.length 0 lo)).take (HT.sIx xs.length xs.length hi - HT.sIx xs.length 0 lo),Heap.get?_push_size _ rfl⟩
theorem CW:bd X (.builtin "len") (λxs H Q=>∃ p ys,xs=[.ref p]/\(az X.K H p ys\/bP X.K H p ys)/\Q (.int ys.length) H):=by
 intro pins s σ H xs us Q I r h
 obtain⟨p,ys,rfl,hq,q⟩:=h
 obtain⟨u,rfl,rx⟩:=fJ r
 cases rx
 have hn:=j3
 rcases hq with hq | hq
 ·obtain⟨its,r',pl,hz⟩:=I.list hq
  have hlen:=r'.length
  exact Calls.call_len_list pl.isList (by simp only [List.size_toArray] <;> omega) ⟨.int ys.length,H,I.tok _,⟨s.toks+1,by rw[List.size_toArray,hlen]⟩,q⟩
 ·obtain⟨its,r',pl,hz⟩:=I.tuple hq
  have hlen:=r'.length
  exact len_tuple pl (by simp only [List.size_toArray] <;> omega) ⟨.int ys.length,H,I.tok _,⟨s.toks+1,by rw[List.size_toArray,hlen]⟩,q⟩
theorem CV:bd X (.type "list") (λxs H Q=>∃ p ys,xs=[.ref p]/\(az X.K H p ys\/bP X.K H p ys)/\∀ l,H l=none->Q (.ref l) (upd H l (.lst ys))):=by
 intro pins s σ H xs us Q I r h
 obtain⟨p,ys,rfl,hq,q⟩:=h
 obtain⟨u,rfl,rx⟩:=fJ r
 cases rx
 have fin : ∀ (its:List Value),aq ys its->ys.length<=sizeLine->∀ (h':Heap) (c':Nat),(∀ b o',s.heap.get? b=some o'->h'.get? b=some o') ->
  h'.get? s.heap.objs.size=some { cls:=.type "list",dict:=none,data:=.seq its.toArray c',slots:=#[] }->EP X pins σ Q (.ref s.heap.objs.size) { s with heap:=h' }:=λits r' hz h' c' kp e =>
  ⟨.ref s.heap.objs.size,_,I.laid (t':=s.toks) kp (Nat.le_refl _) (show aH X.prog X.w _ h' _ (.lst ys) from ⟨hz,its,c',r',e⟩),rfl,q _ (I.hok.fresh (Nat.le_refl _))⟩
 rcases hq with hq | hq
 ·obtain⟨its,r',pl,hz⟩:=I.list hq
  have hlen:=r'.length
  obtain⟨o,ho,hc,n,hd⟩:=pl.isList
  exact call_list_seq p (.inl rfl) ho hc hd (λh' c' kp e=>fin its r' hz h' c' kp e) (by simp only [List.size_toArray] <;> omega)
 ·obtain⟨its,r',pl,hz⟩:=I.tuple hq
  have hlen:=r'.length
  obtain⟨o,ho,hc,n,hd⟩:=pl
  exact call_list_seq p (.inr rfl) ho hc hd (λh' c' kp e=>fin its r' hz h' c' kp e) (by simp only [List.size_toArray] <;> omega)
theorem CU:bd X (.type "tuple") (λxs H Q=>∃ p ys,xs=[.ref p]/\((az X.K H p ys/\∀ l,H l=none->Q (.ref l) (upd H l (.tup ys)))\/(bP X.K H p ys/\Q (.ref p) H))):=by
 intro pins s σ H xs us Q I r h
 obtain⟨p,ys,rfl,h⟩:=h
 obtain⟨u,rfl,rx⟩:=fJ r
 cases rx
 rcases h with ⟨hq,q⟩ | ⟨hq,q⟩
 ·obtain⟨its,r',pl,hz⟩:=I.list hq
  have hlen:=r'.length
  refine call_tuple_list pl.isList (λh' kp=>?_) (by simp only [List.size_toArray] <;> omega)
  have I1:ad X pins σ H { s with heap:=h' }:=I.kept (t':=s.toks) kp
  have I2:ad X pins σ (upd H h'.objs.size (.tup ys)) { s with heap:=h'.push { cls:=.type "tuple",data:=.seq its.toArray } } :=
   I1.laid (t':=s.toks) (λb o e=>Heap.get?_push_of_some _ e) (Nat.le_refl _) (show aH X.prog X.w _ _ _ (.tup ys) from ⟨hz,its,r',IsTup.new _ _⟩)
  exact⟨.ref h'.objs.size,_,I2,rfl,q _ (I1.hok.fresh (Nat.le_refl _))⟩
 ·obtain⟨its,r',pl,hz⟩:=I.tuple hq
  exact call_tuple_same pl ⟨.ref p,H,I,rfl,q⟩
def kW(K:W.Frag)(T:String)(x:V)(H:Hp):Prop:=match x with
 | .str _=>T = "str"
 | .int _=>T = "int"
 | .ref p=>(T = "list"/\∃ xs,az K H p xs)\/(T = "tuple"/\∃ o,K.lookup p=some o/\o.cls=.type "tuple"/\o.dict=none) \/
  (T = "dict"/\((∃ kvs,H p=some (.dK kvs))\/∃ kvs,H p=some (.dT kvs)))\/(T = "set"/\∃ S n,H p=some (.set S n))
 | _=>False
theorem pM{pins:List (Addr × Obj)}{σ:St}{H:Hp}{s:Shared}{T:String}{x:V}{v:Value}(I:ad X pins σ H s)(r:ar x v)(ty:kW X.K T x H) :
 s.TypeIs v T/\∀ a,v=.ref a->∃ ob,s.heap.get? a=some ob/\ob.dict=none:=by
 cases x with
 | str z =>
  obtain⟨t,rfl⟩:=r
  cases (show T = "str" from ty)
  exact⟨typeIs_str s z t,λ_ e=>nomatch e⟩
 | int i =>
  obtain⟨t,rfl⟩:=r
  cases (show T = "int" from ty)
  exact⟨typeIs_int s i t,λ_ e=>nomatch e⟩
 | ref p =>
  cases r
  rcases ty with ⟨rfl,xs,hq⟩ | ⟨rfl,o,hk,hc,hd⟩ | ⟨rfl,hk⟩ | ⟨rfl,S,n,hk⟩
  ·obtain⟨its,_,pl,_⟩:=I.list hq
   refine⟨pl.isList.typeIs,λa e=>?_⟩
   cases e
   obtain⟨o,n,e,c,hd,_⟩:=pl
   exact⟨o,e,hd⟩
  ·refine⟨⟨o,I.kIn p o hk,hc⟩,λa e=>?_⟩
   cases e
   exact⟨o,I.kIn _ o hk,hd⟩
  ·have z : ∃ o,s.heap.get? p=some o/\o.ExactDict:=by
    rcases hk with ⟨kvs,hk⟩ | ⟨kvs,hk⟩
    ·obtain⟨_,_,_,_,o,_,_,e,ex,_⟩:=I.hok p _ hk
     exact⟨o,e,ex⟩
    ·obtain⟨_,_,_,_,o,_,_,e,ex,_⟩:=I.hok p _ hk
     exact⟨o,e,ex⟩
   obtain⟨o,e,ex⟩:=z
   refine⟨⟨o,e,ex.1⟩,λa e2=>?_⟩
   cases e2
   exact⟨o,e,ex.2.1⟩
  ·obtain⟨o,_,_,_,e,ex,_⟩:=I.hok p _ hk
   refine⟨⟨o,e,ex.1⟩,λa e2=>?_⟩
   cases e2
   exact⟨o,e,ex.2.1⟩
 | _=>exact False.elim ty
def lf(K:W.Frag)(T:String)(r:V->List V->Hp->VK->Prop)(to:TE):TE:=λσ H Q=>to σ H λx H1=>kW K T x H1/\r x [] H1 Q
def lg(K:W.Frag)(T:String)(r:V->List V->Hp->VK->Prop)(to:TE)(t:TA):TE:=λσ H Q=>to σ H λx H1=>kW K T x H1/\t σ H1 λxs H2=>r x xs H2 Q
variable {o e:Expr}{es:List Expr}{to:TE}{t:TA}{name:Str}{apos cpos:Pos}{T id:String}{r:V->List V->Hp->VK->Prop}
theorem za (pa:PlainAttrs T) (slot:Slot T name id) (hty:typeOf (.builtin id)=pure (.type "method_descriptor")) (hm:fB X id r) (ho:PE X o to)
 (hbase:attributeBase o name X.env (eval o X.env)=eval o X.env:=by rfl) (hline:(apos.endLine == cpos.line)=true:=by rfl):PE X (.Call (.Attribute o name apos) [] [] cpos) (lf X.K T r to):=by
 intro pins s σ H Q I h
 refine wpAny_Call_method0_late hbase hline (ai (ho pins s σ H _ I h) λv s1 ⟨x,H1,I1,r1,ty,q1⟩=>?_)
 obtain⟨h1,h2⟩:=pM I1 r1 ty
 exact⟨T,id,pa,slot,hty,h1,h2,Calls.callWith_builtin rfl (PySem.evalArgs_none (hm pins s1 σ H1 x [] v [] Q I1 r1 .nil q1))⟩
theorem zb (pa:PlainAttrs T) (slot:Slot T name id) (hty:typeOf (.builtin id)=pure (.type "method_descriptor")) (hm:fB X id r) (ho:PE X o to) (ha:PA X (e :: es) t)
 (hbase:attributeBase o name X.env (eval o X.env)=eval o X.env:=by rfl)
 (hfew:((backTo cpos (starEach (e :: es) X.env)).all (λx=>!x.1) && (backToKw cpos (keywordEach [] X.env)).all (λx=>x.1.isSome)
   && decide ((e :: es).length+([]:List Keyword).length+(if ([]:List Keyword).isEmpty then 0 else 1) < 30))=true:=by rfl)
 (hline:(apos.endLine == cpos.line)=true:=by rfl) (hs:starEach (e :: es) X.env=(false,eval e X.env) :: starEach es X.env:=by rfl) (hplain:(backTo cpos (starEach es X.env)).any (·.1)=false:=by rfl) :
 PE X (.Call (.Attribute o name apos) (e :: es) [] cpos) (lg X.K T r to t):=by
 intro pins s σ H Q I h
 refine wpAny_Call_method_late hbase hfew hline rfl (ai (ho pins s σ H _ I h) λv s1 ⟨x,H1,I1,r1,ty,q1⟩=>?_)
 obtain⟨h1,h2⟩:=pM I1 r1 ty
 refine⟨T,id,pa,slot,hty,h1,h2,?_⟩
 have hA:=ha cpos pins s1 σ H1 _ I1 q1
 rw[hs]at hA ⊢
 refine Calls.callWith_builtin (by show (false || (backTo cpos (starEach es X.env)).any (·.1))=false; rw[hplain] <;> rfl) (Calls.evalArgs_plain ?_)
 exact ai hA λus s2 ⟨vs,H2,I2,r2,q2⟩=>hm pins s2 σ H2 x vs v us Q I2 r1 r2 q2
/- xs.append(e),list.index on a module's tuple .. are fB facts of 06m -/
end
def uB(X:Cx)(id:String)(r:V->List V->Hp->VK->Prop):Prop :=
 ∀ (pins:List (Addr × Obj)) (s:Shared) (σ:St) (H:Hp) (x:V) (xs:List V) (v:Value) (us:List Value) (Q:VK),ad X pins σ H s->ar x v->aq xs us->r x xs H Q ->
  wpAny (model X.prog X.w) X.A (call (.builtin id) (v :: us)) (EP X pins σ Q) X.xe s
theorem aq.one : ∀ {x:V} {us:List Value},aq [x] us->∃ u,us=[u]/\ar x u
 | _,_,.cons r .nil=>⟨_,rfl,r⟩
theorem aq.zero : ∀ {us:List Value},aq [] us->us=[]
 | _,.nil=>rfl
theorem aq.dropLast{xs:List V}{us:List Value}(h:aq xs us):aq xs.dropLast us.dropLast:=by
 induction h with
 | nil=>exact .nil
 | cons r t ih =>
  cases t with
  | nil=>exact .nil
  | cons q t'=>exact .cons r ih
theorem Ch{α:Type}(l:List α):l.eraseIdx (l.length - 1)=l.dropLast:=by
 induction l with
 | nil=>rfl
 | cons a r ih =>
  cases r with
  | nil=>rfl
  | cons b r =>
   have e:(a :: b :: r).length - 1=((b :: r).length - 1)+1:=by
    have h1:(a :: b :: r).length=r.length+2:=rfl
    have h2:(b :: r).length=r.length+1:=rfl
    omega
   rw[e,List.eraseIdx_cons_succ,ih]
   all_goals rfl
section
variable {X:Cx}{pins:List (Addr × Obj)}{σ:St}{H:Hp}{s:Shared}{l b:Addr}{xs ys zs:List V}
theorem ad.lset{its its':List Value}{n:Nat}{f:Array Value->Array Value}{t':Nat}(I:ad X pins σ H s)(hH:H l=some (.lst xs))
 (e:s.heap.get? l=some { cls:=.type "list",data:=.seq its.toArray n }) (hf:f its.toArray=its'.toArray) (hv:aq ys its') (hz:ys.length<=sizeLine) :
 ad X pins σ (upd H l (.lst ys)) { s with heap:=s.heap.update l (Obj.mapSeq f),toks:=t' }:=by
 have q:=PySem.IsL.update e f
 rw[hf]at q
 refine I.write (x:=l) (e:=l) (by rw[hH]; exact trivial) (.inl rfl) (λb' u hb hu=>(Heap.get?_update_other s.heap (Obj.mapSeq f) (Ne.symm hb)).trans hu) ⟨_,q⟩ ?_
 exact⟨hz,its',_,hv,q⟩
theorem ad.lnew{its:List Value}{t':Nat}(I:ad X pins σ H s)(hv:aq ys its)(hz:ys.length<=sizeLine) :
 ad X pins σ (upd H s.heap.objs.size (.lst ys)) { s with heap:=s.heap.push { cls:=.type "list",data:=.seq its.toArray },toks:=t' } :=
 I.laid (λ_ _ q=>Heap.get?_push_of_some _ q) (Nat.le_refl _) ⟨hz,its,0,hv,Heap.get?_push_size _ rfl⟩
theorem ad.fresh(I:ad X pins σ H s):H s.heap.objs.size=none:=I.hok.fresh (Nat.le_refl _)
theorem ad.lstM(I:ad X pins σ H s)(hH:H l=some (.lst xs)):xs.length<=sizeLine/\∃ (its:List Value) (n:Nat),aq xs its/\xs.length=its.length/\s.heap.get? l=some { cls:=.type "list",data:=.seq its.toArray n }:=by
 obtain⟨z,its,n,r,e⟩:=I.hok l _ hH
 exact⟨z,its,n,r,r.length,e⟩
theorem rT{n:Nat}(h:n<=sizeLine):Builtin.List.listTooLong n=false:=by
 unfold Builtin.List.listTooLong
 exact decide_eq_false (by omega)
end
section
variable {X:Cx}
def xE:V->List V->Hp->VK->Prop:=λx vs H Q=>∃ l xs y,x=.ref l/\vs=[y]/\H l=some (.lst xs)/\xs.length < sizeLine/\Q .non (upd H l (.lst (xs++[y])))
theorem zB:uB X "list.append" xE:=by
 intro pins s σ H x vs v us Q I rx rv h
 obtain⟨l,xs,y,rfl,rfl,hH,hz,q⟩:=h
 cases rx
 obtain⟨u,rfl,ru⟩:=rv.one
 obtain⟨z,its,n,r,hl,e⟩:=I.lstM hH
 refine call_meets F.slot_list_append ⟨_,e,rfl⟩ F.entry_list_append (F.args_list_append_2 _ _) (PySem.list_append l its.toArray n u (by rw[List.size_toArray]; omega)) ⟨e,?_⟩
 refine⟨.non,_,I.lset (its':=its++[u]) hH e (by simp) (r.append (.cons ru .nil)) ?_,rfl,q⟩
 rw[List.length_append,List.length_singleton]
 omega
def xy:V->List V->Hp->VK->Prop:=λx vs H Q=>∃ l xs y,x=.ref l/\vs=[]/\H l=some (.lst xs)/\xs[xs.length - 1]? = some y/\Q y (upd H l (.lst xs.dropLast))
theorem zy:uB X "list.pop" xy:=by
 intro pins s σ H x vs v us Q I rx rv h
 obtain⟨l,xs,y,rfl,rfl,hH,hy,q⟩:=h
 cases rx
 have hus:=rv.zero
 subst hus
 obtain⟨z,its,n,r,hl,e⟩:=I.lstM hH
 obtain⟨u,hu,ru⟩:=r.get hy
 have hy':its.toArray[its.toArray.size - 1]? = some u:=by
  show its.toArray[its.length - 1]? = some u
  rw[<- Array.getElem?_toList,<- hl]
  exact hu
 refine call_meets F.slot_list_pop ⟨_,e,rfl⟩ F.entry_list_pop (F.args_list_pop_1 _) (MeetsSeq.list_pop_last l its.toArray n u hy' (by rw[List.size_toArray]; omega)) ⟨e,?_⟩
 refine⟨y,_,I.lset (its':=its.dropLast) hH e ?_ r.dropLast ?_,ru,q⟩
 ·show its.toArray.eraseIdxIfInBounds (its.toArray.size - 1)=its.dropLast.toArray
  rw[List.size_toArray,List.eraseIdxIfInBounds_toArray,Ch]
 ·rw[List.length_dropLast]
  omega
end
section
variable {prog:Program}{w:World}{A:Around}{E:Value->Shared->Prop}{s:Shared}
theorem Dn{a c n:Nat}(hac:a<=c)(hc:c<=n):sliceBounds (some (a:Int)) (some (c:Int)) none n=((a:Int),(c:Int),1):=by
 simp only [sliceBounds,Option.getD_none]
 have h1 : ¬ ((a:Int) < 0):=by omega
 have h2 : ¬ ((c:Int) < 0):=by omega
 simp only [h1,h2,if_false,show (1:Int) > 0 by decide,if_true]
 congr 1
 ·omega
 ·congr 1; omega
set_option maxRecDepth 100000 in
theorem Em{l b sl:Addr}{items new:Array Value}{n n2:Nat}{vl vu:Value}{a c:Nat}{Q:Unit->Shared->Prop}
 (e:s.heap.get? l=some { cls:=.type "list",data:=.seq items n }) (e2:s.heap.get? b=some { cls:=.type "list",data:=.seq new n2 }) (hne:l≠b)
 (hs:s.heap.IsSliceOf sl vl vu .none) (pl:IsPart vl (some (a:Int))) (pu:IsPart vu (some (c:Int))) (hac:a<=c) (hc:c<=items.size)
 (hsz:items.size+new.size<=sizeLine) (h:Q () { s with heap:=s.heap.update l (Obj.mapSeq λxs=>xs.extract 0 a++new++xs.extract c xs.size) }) :
 wpAny (model prog w) A (setItem (.ref l) (.ref sl) (.ref b)) Q E s:=by
 have hl:s.heap.IsList l items:=PySem.IsL.isList e
 have hb:s.heap.IsList b new:=PySem.IsL.isList e2
 obtain⟨os,hos,hcs,hds⟩:=id hs
 have hTs:s.TypeIs (.ref sl) "slice":=⟨os,hos,hcs⟩
 have hstep : ¬ ((rawPart none == rawInt 0)=true):=Bool.false_ne_true
 have hsame:Builtin.List.listSameRef (.ref l) (.ref b)=false:=by
  unfold Builtin.List.listSameRef
  exact beq_eq_false_iff_ne.mpr hne
 have hmax:(max (a:Int) (c:Int)).toNat=c:=by omega
 have hz':((λxs:Array Value=>xs.extract 0 a++new++xs.extract c xs.size) items).size<=sizeLine+1:=by
  simp only [Array.size_append,Array.size_extract]
  omega
 unfold setItem
 try with_reducible refine wpAny_holding ?_
 first | refine wpAny_bind (wpAny_pure ?_) | skip
 refine wpAny_bind (wpAny_sequenceKey hl.typeIs (by decide) ?_)
 refine wpAny_bind (wpAny_callSpecial?_slot (name:=Str.ofString "__setitem__") hl.typeIs slot_list_setitem
  (wpAny_call_entry slot_list_setitem hl.typeIs entry_list_setitem ?_ (args_list_setitem _ _ _)))
 show wpAny _ _ (Builtin.List.listSubscript? (.ref sl) >>= _) _ _ s
 refine wpAny_bind ?_
 unfold Builtin.List.listSubscript?
 refine wpAny_bind (wpAny_specialOf hTs slice_no_index ?_)
 simp only [Option.isNone_none,if_true]
 refine wpAny_pure ?_
 show wpAny _ _ (typeOf (.ref sl) >>= _) _ _ s
 refine wpAny_bind (wpAny_typeOf hTs ?_)
 first
  | rw[if_neg (by decide)]
  | refine W.KFB.if_not (by decide) ?_
 rw[listSliceParts_eq]
 refine wpAny_bind (wpAny_bind (wpAny_field hos hds (x:=.none) rfl (wpAny_bind (wpAny_listPart .none ?_))))
 rw[if_neg hstep]
 refine wpAny_bind (wpAny_field hos hds (x:=vl) rfl (wpAny_bind (wpAny_listPart pl ?_)))
 refine wpAny_bind (wpAny_field hos hds (x:=vu) rfl (wpAny_bind (wpAny_listPart pu (wpAny_pure ?_))))
 first
  | simp only [hsame,Bool.false_eq_true,if_false]
  | refine W.KFB.if_not hsame ?_
  | (dsimp only
     rw[if_neg (by rw[hsame]; exact Bool.false_ne_true)])
 refine wpAny_bind (m:=Builtin.List.listAllItems (.ref b) "must assign iterable to extended slice") ?_
 unfold Builtin.List.listAllItems
 refine wpAny_bind (wpAny_typeOf hb.typeIs ?_)
 first
  | refine W.KFB.if_so (by decide) ?_
  | rw[if_pos (by decide)]
  | simp only [beq_self_eq_true,Bool.true_or,if_true]
 unfold Builtin.List.listItems
 refine wpAny_bind (wpAny_seqItems e2 rfl (wpAny_pure ?_))
 refine wpAny_bind (wpAny_bind (wpAny_seqItems e rfl (wpAny_pure ?_)))
 refine wpAny_bind (wpAny_of_eq ((sliceIndices_raw (some (a:Int)) (some (c:Int)) none items.size (by simp)).trans (congrArg (pure:Int × Int × Int->Sem (Int × Int × Int)) (Dn hac hc))) ?_)
 show wpAny _ _ (if ((1:Int) == 1)=true then _ else _) _ _ s
 rw[if_pos (by decide)]
 refine wpAny_bind (wpAny_rule ?_)
 first
  | simp only [rT hsz,Bool.false_eq_true,if_false]
  | refine W.KFB.if_not (rT hsz) ?_
 first | refine wpAny_bind (wpAny_pure ?_) | skip
 show wpAny _ _ (updateSeq l (λxs=>xs.extract 0 ((a:Int)).toNat++new++xs.extract (max (a:Int) (c:Int)).toNat xs.size) >>= _) _ _ s
 rw[hmax,Int.toNat_natCast]
 refine wpAny_bind (wpAny_updateSeq (hz:=Nat.le_trans (Nat.le_add_right _ _) hsz) (_hz':=hz') e rfl ?_)
 refine wpAny_bind (wpAny_letGo ?_)
 first
  | exact wpAny_bind (wpAny_pure (wpAny_pure ⟨.none,rfl,wpAny_pure h⟩))
  | exact wpAny_pure ⟨.none,rfl,wpAny_pure h⟩
end
end L2
namespace Att
open PySem PySem.W PySem.Calls PyProof.Rows
theorem AJ{P:Params}{h:Heap} : ∀ (ns:List Int) (vs:List Value),WellAll P h vs (ns.map WData.int)->IntsAre vs ns:=by
 intro ns
 induction ns with
 | nil =>
  intro vs w
  rw[List.map_nil]at w
  cases w
  exact .nil
 | cons n ns ih =>
  intro vs w
  rw[List.map_cons]at w
  cases w with
  | cons a b =>
   cases a
   exact .cons _ _ (ih _ b)
theorem wP{l:OpenLaw}{n:Nat}(hn:l.most=some n){P:Params}{h:Heap}{args:List WData}{vals:List Value}
 (hpre:l.row.toRowW.claim.pre args=true) (hwl:WellAll P h vals args) :
 ∃ a vs ns,vals=[Value.ref a]/\args=[WData.list (ns.map WData.int)]/\h.get? a=some { cls:=.type "list",data:=.seq vs.toArray }/\IntsAre vs ns/\ns.length<=n:=by
 have hsh:WShape.hasAll [] args [.list .int]=true:=(pre_splitW hpre).1
 have hc:l.pre.holds [] { args:=args }=true:=(pre_splitW hpre).2
 obtain⟨d,r,rfl,h1,h2⟩:=hasAllW_cons hsh
 obtain rfl:=hasAllW_nil h2
 obtain⟨xs,rfl,h3⟩:=hasW_list h1
 obtain⟨ns,rfl⟩:=items_int h3
 have hlen:ns.length<=n:=by
  unfold OpenLaw.pre at hc
  have h4:(WTm.not (.lt (.lit (.int (n:Int))) (.len (.arg 0)))).holds [] { args:=[.list (ns.map .int)] }=true:=by
   have h4:=(holds_andW hc).1
   rw[hn]at h4
   exact h4
  have h5:=condW_of h4 (w_not (w_lt w_lit (w_len_list (w_arg rfl))))
  rw[List.length_map]at h5
  refine Nat.le_of_not_lt λq=>?_
  have q':(n:Int) < ((ns.length:Nat):Int):=by omega
  first
   | (rw[decide_eq_true q']at h5; exact absurd h5 (by decide))
   | (simp at h5; omega)
 cases hwl with
 | cons w1 w2 =>
  cases w2
  cases w1 with
  | list ho hall=>exact⟨_,_,ns,rfl,rfl,ho,AJ ns _ hall,hlen⟩
theorem yy(l:OpenLaw)(args:List WData):l.row.toRowW.claim.post args (.bool true) args=true :=
 postW_of (r:=l.row.toRowW) (X:=(true == true))
  (show WShape.has [] (.bool true) .bool=true by first | rfl | decide | simp[WShape.has,WShape.arms,WShape.armsAll])
  (show (WTm.eq .res (.lit (.bool true))).value [] { args:=args,res:=some (.bool true),after:=args }=some (.bool (true == true)) from w_eq_bool (w_res rfl) w_lit) rfl
theorem attach_call{l:OpenLaw}{n:Nat}{q:Program}{loose:List Str}{XP:(Str->Option Value)->Heap->Prop}{YP:World->Heap->Prop}{d:DefRec}
 (hn:l.most=some n) (hdf:d.params.defaults=[])
 (call : ∀ (w:World) (s₀ s₁:Shared) (mg mb:Str->Option Value) (fa:Addr) (o:Obj) (pm cd doc:Value) (a:Addr) (vs:List Value) (ns:List Int),
   Ground q loose [] XP w s₀ mg mb s₁.heap->YP w s₁.heap ->
   s₁.heap.get? fa=some o->o.data=.func (docDef d.name d.params d.body d.scope pm cd doc)->s₁.heap.CodeRec cd d.name->mg d.name=some (.ref fa) ->
   s₁.heap.get? a=some { cls:=.type "list",data:=.seq vs.toArray }->IntsAre vs ns->ns.length<=n->s₁.gens = #[] ->
   codeAny (model l.prog w) callerA (.call (.ref fa) ⟨[.ref a],[]⟩) (λr s'=>r=.ok (.ret (.bool true))/\OldK s₁.heap s'.heap/\s'.os=s₁.os/\AllBare s'.gens) s₁) :
 WalkO q loose XP YP l.row.toRowW d [] (λf vs=>PySem.call f vs):=by
 intro w s₀ s₁ mg mb G Y fa o pm cd doc dV kV ho hd hcd hD hmg hg args vals as hpre hlay hrd hwl hlo
 obtain rfl:dV=.none:=Dflts.none hD hdf
 obtain rfl:kV=.none:=Dflts.noKw hD
 obtain⟨a,vs,ns,rfl,rfl,hobj,hints,hlen⟩:=wP hn hpre hwl
 refine enter_call (codeAny_mono (call w s₀ s₁ mg mb fa o pm cd doc a vs ns G Y ho (fd_plain hd) hcd hmg hobj hints hlen hg) λr s' hq=>?_)
 obtain⟨rfl,h2,h3,h4⟩:=hq
 exact⟨.inl ⟨.bool true,.bool true,[],rfl,λ_=>rfl,.bool true,yy l _,λ_=>⟨List.Pairwise.nil,λ_ hm=>(nomatch hm)⟩⟩,h2,h3,h4⟩
end Att
namespace L2
open PySem PySem.Spec PyProof.Rows
theorem kT : ∀ {vs:List Value} {ns:List Int},IntsAre vs ns->aq (ns.map V.int) vs
 | _,_,.nil=>.nil
 | _,_,.cons n t h=>.cons ⟨t,rfl⟩ (kT h)
def pB(H:Hp):Prop:=∀ b,H b=none\/∃ o xs,H b=some (.frz o (.lst xs))
theorem Aq{P:Program}{w:World}{K:W.Frag}{mg mb:Str->Option Value}{CX:cL}{k:Nat}{fa a:Addr}{fd:FuncData}{x:Str}{sp:Sp}{s₁:Shared}{vs:List Value}{ns:List Int}
 (KX:K.In s₁.heap) (hns:s₁.heap.Ns mainGlobals mg) (hb:s₁.heap.Ns builtinsNs mb) (hbb : ∀ x:Str,x ≠ "__name__"->mb x=bootBuiltins x) (hlim:s₁.heap.NoLimit) (hg:s₁.gens = #[])
 (ha:s₁.heap.get? a=some { cls:=.type "list",data:=.seq vs.toArray }) (hi:IntsAre vs ns) (hl:ns.length<=sizeLine) (hr:aP k callerA)
 (F : ∀ base:Heap,K.In base->base.Ns mainGlobals mg->bw P w K mg base CX k fa fd [x] sp) (hbind : ∀ (s:Shared) (u:Value),BindsTo s fd ⟨[u],[]⟩ [(x,u)])
 (hsp : ∀ H:Hp,pB H->az K H a (ns.map V.int)->sp [.ref a] H (λv _=>v=.bl true) λ_ _ _=>False)
 (hCX : ∀ H e s',CX [] H s₁ (λ_ _ _=>False) e s'->False) :
 codeAny (model P w) callerA (.call (.ref fa) ⟨[.ref a],[]⟩) (λr s'=>r=.ok (.ret (.bool true))/\OldK s₁.heap s'.heap/\s'.os=s₁.os/\AllBare s'.gens) s₁:=by
 have rv:=kT hi
 have lenV:=hi.length
 have core : ∀ H:Hp,pB H->az K H a (ns.map V.int)->aM P w H s₁.heap->(∀ b,H b≠none->b=a)->(H a≠none->K.lookup a=none) ->
  codeAny (model P w) callerA (.call (.ref fa) ⟨[.ref a],[]⟩) (λr s'=>r=.ok (.ret (.bool true))/\OldK s₁.heap s'.heap/\s'.os=s₁.os/\AllBare s'.gens) s₁:=by
  intro H hO hS hok hA hK
  have base_of : ∀ {b:Addr} {o:Obj},s₁.heap.get? b=some o->H b=none->(cF s₁.heap H).get? b=some o:=λe n=>sV e n
  have noA : ∀ {b:Addr} {o:Obj} {es:Array DictEntry} {ep:Nat},s₁.heap.get? b=some o->o.data=.dict es ep->H b=none:=λ{b o es ep} e d=>by
   cases q:H b with
   | none=>rfl
   | some u =>
    have e':b=a:=hA b (by rw[q]; simp)
    subst e'
    rw[ha]at e; cases e
    have d':Data.seq vs.toArray _=Data.dict es ep:=d
    cases d'
  have nsK : ∀ {b:Addr} {m:Str->Option Value},s₁.heap.Ns b m->(cF s₁.heap H).Ns b m:=λ{b m} ⟨o,es,ep,e,d,r⟩=>⟨o,es,ep,base_of e (noA e d),d,r⟩
  have hKb:K.In (cF s₁.heap H):=λb o e=>base_of (KX b o e) (by
   cases q:H b with
   | none=>rfl
   | some u =>
    have e':b=a:=hA b (by rw[q]; simp)
    subst e'
    rw[hK (by rw[q]; simp)]at e; cases e)
  have hM:Mod K mg (cF s₁.heap H):=⟨hKb,nsK hns,⟨mb,nsK hb,hbb⟩,let ⟨mc,h1,h2⟩:=hlim; ⟨mc,nsK h1,h2⟩⟩
  have e0:c7 P w K mg (cF s₁.heap H) callerA [] s₁ H:=⟨rfl,hM,λb o e=>rS e,Nat.le_of_eq (sU _ _),trivial,λb hb=>absurd (show b∈([]:List Addr) from hb) (by simp),hok,.of_eq hg⟩
  refine codeAny_mono ((F _ hKb (nsK hns)).run callerA [] s₁ H ⟨[.ref a],[]⟩ [.ref a] [.ref a] _ _ hr e0 (hbind s₁ (.ref a)) (.cons rfl .nil) (hsp H hO hS)) λr s' h=>?_
  cases r with
  | error e=>exact (hCX H e s' h).elim
  | ok fl =>
   cases fl with
   | next=>exact False.elim h
   | brk=>exact False.elim h
   | cont=>exact False.elim h
   | ret u =>
    obtain⟨v,H',os,bare,un,hok',r',q⟩:=h
    have q':v=.bl true:=q
    subst q'
    obtain rfl:u=Value.bool true:=r'
    refine⟨rfl,OldK.of_keep λb o e=>?_,os,bare⟩
    cases q:H b with
    | none=>exact un.keep b o e q (by intro z; exact absurd (show b∈([]:List Addr) from z) (by simp)) (by simp)
    | some u =>
     rcases hO b with z | ⟨ob,xs,z⟩
     ·rw[q]at z; cases z
     ·have z2:=un.frzs b ob _ z
      obtain⟨e1,_⟩:=hok b _ z
      obtain⟨e2,_⟩:=hok' b _ z2
      rw[e]at e1; cases e1
      exact e2
 cases hk:K.lookup a with
 | some o =>
  have e:=KX a o hk
  rw[ha]at e
  cases e
  refine core (λ_=>none) (λ_=>.inl rfl) (.inr ⟨_,vs.toArray,_,hk,rfl,rfl,rfl,by rw[List.size_toArray,lenV]; exact hl,by simpa using rv⟩) (λb u z=>by have z':(none:Option HO)=some u:=z; cases z') (λb z=>absurd rfl z) λz=>absurd rfl z
 | none =>
  refine core (λb=>if b=a then some (.frz { cls:=.type "list",data:=.seq vs.toArray } (.lst (ns.map V.int))) else none) (λb=>?_) (.inl (.inr ⟨{ cls:=.type "list",data:=.seq vs.toArray },if_pos rfl⟩)) (λb u z=>?_) (λb z=>?_) λ_=>hk
  ·by_cases hb:b=a
   ·exact .inr ⟨_,_,if_pos hb⟩
   ·exact .inl (if_neg hb)
  ·by_cases hb:b=a
   ·have z':=(if_pos hb).symm.trans z
    cases z'
    subst hb
    exact⟨ha,by rw[List.length_map]; exact hl,vs,_,rv,ha⟩
   ·have z':=(if_neg hb).symm.trans z
    cases z'
  ·by_cases hb:b=a
   ·exact hb
   ·exact absurd (if_neg hb) z
abbrev KOf{K:W.Frag}{h:Heap}(_:K.In h):W.Frag:=K
theorem walk_of{l:W.OpenLaw}{n k:Nat}{q:Program}{loose:List Str}{XP:(Str->Option Value)->Heap->Prop}{YP:World->Heap->Prop}{d:DefRec}{K:Params->W.Frag}{CX:World->cL}{sp:World->Sp}{x:Str}
 (hn:l.most=some n) (hn2:n<=sizeLine) (hdf:d.params.defaults=[]) (hr:aP k callerA)
 (hY : ∀ (w:World) (h:Heap),YP w h->(K w.params).In h)
 (F : ∀ (w:World) (mg:Str->Option Value) (fa:Addr) (h:Heap),(K w.params).In h->h.Ns mainGlobals mg->mg d.name=some (.ref fa) ->
   ∃ fd:FuncData,(∀ (s:Shared) (u:Value),BindsTo s fd ⟨[u],[]⟩ [(x,u)]) /\
    ∀ base:Heap,(K w.params).In base->base.Ns mainGlobals mg->bw l.prog w (K w.params) mg base (CX w) k fa fd [x] (sp w))
 (hsp : ∀ (w:World) (H:Hp) (a:Addr) (ns:List Int),ns.length<=n->pB H->az (K w.params) H a (ns.map V.int)->sp w [.ref a] H (λv _=>v=.bl true) λ_ _ _=>False)
 (hCX : ∀ (w:World) (H:Hp) (s:Shared) (e:Value) (s':Shared),CX w [] H s (λ_ _ _=>False) e s'->False) :
 W.WalkO q loose XP YP l.row.toRowW d [] (λf vs=>PySem.call f vs):=by
 refine Att.attach_call hn hdf λw s₀ s₁ mg mb fa o pm cd doc a vs ns G Y ho hd hcd hmg hobj hints hlen hg=>?_
 have KX:=hY w _ Y
 obtain⟨fd,hb,hF⟩:=F w mg fa _ KX G.T.g hmg
 exact Aq KX G.T.g G.T.b G.T.builtins G.T.nolimit hg hobj hints (Nat.le_trans hlen hn2) hr hF hb (λH hO hS=>hsp w H a ns hlen hO hS) λH e s'=>hCX w H s₁ e s'
end L2
/- THE LAST THEOREM (shape; LID,My.* are yours):
 My.Adr: a structure of the addresses that your layer names (classes,functions); My.Txt K t: a structure (Prop) of the equations over K;
 My.txt_mk : {K} {implicit addresses ..} (e1:nsIn K mainGlobals "law" = some (some (.ref f))) (e2:K.lookup f=some ⟨oc,od,.func (fnOf "law" "law" params body scope dV kV doc pm an cdv ct),sl⟩) (e3:codeIn K cdv "law" = true) .. : ∃ t,My.Txt K t
set_option maxRecDepth 100000 in
set_option maxHeartbeats 0 in
theorem PySem.Challenge.cw_LID_holds : PySem.Challenge.rw_LID.Holds := by
 w_on; o_law; k_head; (case hw=>w_witness2)
 k_fill
 refine L2.walk_of (l:=PySem.Challenge.rw_LID) (n:=63) (k:=40) (x := "script") (CX:=λw=>..) (sp:=λ_=>My.lm) rfl (by decide) rfl ⟨rfl,by decide,by decide⟩ (λw h Y=>W.kIn_of Y) ?F ?S ?C
 case F =>
  intro w mg fa h KX G hmg
  have T : ∃ t,My.Txt (L2.KOf KX) t:=by
   dsimp only [L2.KOf]                          -- K must stand as «<heap const> w.params» for k_is
   refine' My.txt_mk ?e1 ?e2 ?e3 ..
   (case e1=>W.k_is)                    -- in the order: a name->its address->its object->its parts
   (case e2=>W.k_is)
   ..
  obtain⟨t,T⟩:=T
  have e0:=hmg.symm.trans (W.mg_of KX G T.law)
  cases e0                                       -- fa is the law's own address
  exact⟨_,λs u=>.of_eq rfl,λbase kb nb=>My.law_fn T kb nb⟩     -- if «.of_eq rfl» comes too early: refine' ⟨_,?b,λbase kb nb=>My.law_fn T kb nb⟩; exact λs u=>.of_eq rfl
 case S=>exact λw H a ns hl hO hS=>..
 case C=>exact ..
(the tactic k_is has no namespace: write k_is) -/
namespace L2
open PySem PySem.Spec PyProof.Rows
def mG(s:Stmt)(j:Nat):Stmt:=match s with
 | .ClassDef _ _ _ body _ _ _ _ _ _ _=>body.getD j (.Pass ⟨0,0,0,0⟩)
 | _=>.Pass ⟨0,0,0,0⟩
def aQ(s:Stmt):Arguments:=match s with
 | .FunctionDef _ a _ _ _ _ _ _ _ _=>a
 | _=>{ posonlyargs:=[],args:=[],vararg:=none,kwonlyargs:=[],kw_defaults:=[],kwarg:=none,defaults:=[] }
def aL(s:Stmt):List Stmt:=match s with
 | .FunctionDef _ _ b _ _ _ _ _ _ _=>b
 | _=>[]
def ao(s:Stmt):Scope:=match s with
 | .FunctionDef _ _ _ _ _ _ sc _ _ _=>sc
 | _=>{ kind:=.function,names:=[],isGenerator:=false,isCoroutine:=false }
abbrev bY:cL:=λ_ _ _ _ _ _=>False
abbrev E0:XK:=λ_ _ _=>False
theorem zd{X:Cx}:fA bY X E0:=λ_ _ _ _ _ _ _ h=>h.elim
structure aR (K:W.Frag) (x qual:Str) (st:Stmt) (f:Addr) (fd:FuncData):Prop where
 ex : ∃ (oc:Value) (od:Option Addr) (kV doc pm:Value) (an:Option Addr) (cdv ct:Value) (osl:Array (Option Value)),
  fd=W.fnOf x qual (aQ st) (aL st) (ao st) .none kV doc pm an cdv ct/\K.lookup f=some ⟨oc,od,.func fd,osl⟩/\W.codeIn K cdv qual=true
 kp:W.keepIn K (.ref f)=true
section
variable {P:Program}{w:World}{K:W.Frag}{mg:Str->Option Value}{base:Heap}
theorem aR.ok{x qual:Str}{st:Stmt}{f:Addr}{fd:FuncData}{N ps:List Str}{k:Nat}{sp:Sp}(F:aR K x qual st f fd)(S:aU N ps (ao st))(len : ∀ vs H Q E,sp vs H Q E->vs.length=ps.length)
 (hbody : ∀ (cdv:Value) (A:Around) (outer:List Env) (s:Shared) (H:Hp) (vs:List V) (Q:VK) (E:XK),aP k (A.deeper (envOfC qual (ao st) s.heap.objs.size f cdv))->sp vs H Q E ->
   ∃ t,cI (fq bY P w K mg base N qual (ao st) f cdv A outer s H E).nox (aL st) t/\t { nx:=λ_ H'=>Q .non H',rt:=Q } (dQ N vs) H):bw P w K mg base bY (k+1) f fd ps sp:=by
 obtain⟨oc,od,kV,doc,pm,an,cdv,ct,osl,rfl,lk,hcd⟩:=F.ex
 refine tI lk hcd S len λA outer s H vs Q E hr hsp=>?_
 obtain⟨t,h,q⟩:=hbody cdv A outer s H vs Q E hr hsp
 exact⟨t,h.nox,q⟩
theorem aR.binds{x qual:Str}{st:Stmt}{f:Addr}{fd:FuncData}{ps:List Str}(F:aR K x qual st f fd)
 (h : ∀ (kV doc pm:Value) (an:Option Addr) (cdv ct:Value) (us:List Value),us.length=ps.length->bindArgs (W.fnOf x qual (aQ st) (aL st) (ao st) .none kV doc pm an cdv ct) ⟨us,[]⟩=pure (ps.zip us)):aD K fd ps []:=by
 obtain⟨oc,od,kV,doc,pm,an,cdv,ct,osl,rfl,lk,hcd⟩:=F.ex
 exact .all (h kV doc pm an cdv ct)
theorem bc{x qual:Str}{st:Stmt}{f:Addr}{oc:Value}{od an:Option Addr}{osl:Array (Option Value)}{kV doc pm cdv ct:Value}(l:K.lookup f=some ⟨oc,od,.func (W.fnOf x qual (aQ st) (aL st) (ao st) .none kV doc pm an cdv ct),osl⟩)
 (c:W.codeIn K cdv qual=true) (k:W.keepIn K (.ref f)=true):aR K x qual st f (W.fnOf x qual (aQ st) (aL st) (ao st) .none kV doc pm an cdv ct):=⟨⟨oc,od,kV,doc,pm,an,cdv,ct,osl,rfl,l,c⟩,k⟩
end
theorem AE{A B:Prop}(h:B):if false=true then A else B:=by
 rw[if_neg Bool.false_ne_true]
 exact h
theorem dU{A B:Prop}(h:A):if true=true then A else B:=by
 rw[if_pos rfl]
 exact h
theorem aG{c A B:Prop}[Decidable c](h1:c->A)(h2 : ¬ c->B):if c then A else B:=by
 by_cases h:c
 ·rw[if_pos h]
  exact h1 h
 ·rw[if_neg h]
  exact h2 h
def af(H H':Hp):Prop:=∀ b o,H b=some o->H' b=some o
theorem af.refl(H:Hp):af H H:=λ_ _ h=>h
theorem af.trans{H H1 H2:Hp}(a:af H H1)(b:af H1 H2):af H H2:=λc o h=>b c o (a c o h)
theorem af.free{H H':Hp}(e:af H H'){l:Addr}(h:H' l=Option.none):H l=Option.none:=by
 cases q:H l with
 | none=>rfl
 | some o =>
  rw[e l o q]at h
  cases h
theorem af.seq{K:W.Frag}{H H':Hp}{a:Addr}{xs:List V}(e:af H H')(h:az K H a xs):az K H' a xs:=by
 rcases h with (h | ⟨o,h⟩) | h
 ·exact .inl (.inl (e _ _ h))
 ·exact .inl (.inr ⟨o,e _ _ h⟩)
 ·exact .inr h
end L2
set_option maxHeartbeats 4000000
namespace HT
open PySem PyProof.Rows
end HT
namespace L2
open PySem PySem.Spec PyProof.Rows
theorem PE.imp{X:Cx}{e:Expr}{t t':TE}(h:PE X e t)(k : ∀ σ H Q,t' σ H Q->t σ H Q):PE X e t':=λpins s σ H Q I q=>h pins s σ H Q I (k σ H Q q)
theorem aF.imp{X:Cx}{f:Value->Value->Sem Value}{r r':R2}(h:aF X f r)(k : ∀ x y H Q,r' x y H Q->r x y H Q):aF X f r':=λpins s σ H x y v u Q I rx ry q=>h pins s σ H x y v u Q I rx ry (k x y H Q q)
theorem bd.imp{X:Cx}{f:Value}{r r':List V->Hp->VK->Prop}(h:bd X f r)(k : ∀ xs H Q,r' xs H Q->r xs H Q):bd X f r':=λpins s σ H xs us Q I rs q=>h pins s σ H xs us Q I rs (k xs H Q q)
theorem cZ.imp{X:Cx}{r r':R2}(h:cZ X r)(k : ∀ x y H Q,r' x y H Q->r x y H Q):cZ X r':=λvalue slice pins s σ H x y v u Q I rx ry q hs=>h value slice pins s σ H x y v u Q I rx ry (k x y H Q q) hs
theorem af.new{H:Hp}{p:Addr}{o:HO}(h:H p=none):af H (upd H p o):=λb u e=>by rw[aj (bD e h)]; exact e
structure aI (H:Hp) (p:Addr) (o:HO) (H':Hp):Prop where
 nw:H p=none
 sm:af H H'
 at_:H' p=some o
theorem aI.mk'{H:Hp}{p:Addr}{o:HO}(h:H p=none):aI H p o (upd H p o):=⟨h,af.new h,aN⟩
theorem aI.lst{K:W.Frag}{H H':Hp}{p:Addr}{xs:List V}(g:aI H p (.lst xs) H'):az K H' p xs:=.of g.at_
theorem aI.tup{K:W.Frag}{H H':Hp}{p:Addr}{xs:List V}(g:aI H p (.tup xs) H'):bP K H' p xs:=.of g.at_
theorem af.put{H H':Hp}{p:Addr}{o:HO}(s:af H H')(h:H p=none):af H (upd H' p o):=λb u e=>by
 rw[aj (bD e h)]
 exact s b u e
def mV(i:Nat):TE:=λσ H Q=>match σ[i]? with
 | some (some v)=>Q v H
 | _=>False
theorem vv(i:Nat){X:Cx}{x:Str}{pos:Pos}(hN:X.N[i]? = some x:=by rfl)(hv:iC X.env.scope x:=by first | exact Or.inl rfl | exact Or.inr (Or.inl rfl) | exact Or.inr (Or.inr rfl))(hd:(x == ("__debug__" : Str))=false:=by decide)
 (hcd:(x == ("__classdict__" : Str))=false:=by decide):PE X (.Name x pos) (mV i):=(yM hN hv hd hcd).imp λσ H Q q=>by
 unfold mV at q
 split at q
 ·exact⟨_,by assumption,q⟩
 ·exact q.elim
section
variable {X:Cx}{a b:Expr}{ta tb:TE}{pos:Pos}{rest:List Expr}
def sj(ta tb:TE):TE:=λσ H Q=>ta σ H λx H1=>match x with
 | .bl c=>if c=true then tb σ H1 Q else Q (.bl false) H1
 | _=>False
def r9(ta tb:TE):TE:=λσ H Q=>ta σ H λx H1=>match x with
 | .bl c=>if c=true then Q (.bl true) H1 else tb σ H1 Q
 | _=>False
def sd(ta:TE):TE:=λσ H Q=>ta σ H λx H1=>match x with
 | .bl c=>Q (.bl (!c)) H1
 | _=>False
theorem zV(ha:PE X a ta)(hb:PE X (.BoolOp .And (b :: rest) pos) tb):PE X (.BoolOp .And (a :: b :: rest) pos) (sj ta tb):=by
 intro pins s σ H Q I h
 refine BoolOp_and (ai (ha pins s σ H _ I h) λv s1 ⟨x,H1,I1,r1,q1⟩=>?_)
 cases x with
 | bl c =>
  cases r1
  refine wpAny_truthy_bool ?_
  cases c with
  | true=>exact hb pins s1 σ H1 Q I1 q1
  | false=>exact⟨.bl false,H1,I1,rfl,q1⟩
 | _=>exact False.elim q1
theorem zO(ha:PE X a ta)(hb:PE X (.BoolOp .Or (b :: rest) pos) tb):PE X (.BoolOp .Or (a :: b :: rest) pos) (r9 ta tb):=by
 intro pins s σ H Q I h
 refine BoolOp_or (ai (ha pins s σ H _ I h) λv s1 ⟨x,H1,I1,r1,q1⟩=>?_)
 cases x with
 | bl c =>
  cases r1
  refine wpAny_truthy_bool ?_
  cases c with
  | false=>exact hb pins s1 σ H1 Q I1 q1
  | true=>exact⟨.bl true,H1,I1,rfl,q1⟩
 | _=>exact False.elim q1
theorem zP(ha:PE X a ta):PE X (.UnaryOp .Not a pos) (sd ta):=by
 intro pins s σ H Q I h
 refine UnaryOp_ (ai (ha pins s σ H _ I h) λv s1 ⟨x,H1,I1,r1,q1⟩=>?_)
 cases x with
 | bl c =>
  cases r1
  exact not_of (wpAny_truthy_bool ⟨.bl (!c),H1,I1,rfl,q1⟩)
 | _=>exact False.elim q1
def mB(t:TE):TT:=λσ H Q=>t σ H λx H1=>match x with
 | .bl c=>Q c H1
 | _=>False
theorem zw{e:Expr}{t:TE}(h:PE X e t)(he : ∀ whole,isTrue e X.env whole=(do let v <- whole; standAt e.pos; holding [v] (truthy v)):=by intro _; rfl):PT X e (mB t):=by
 intro pins s σ H Q I hw
 refine isTrue_plain (ai (h pins s σ H _ I hw) λv s1 ⟨x,H1,I1,r1,q1⟩=>?_) (he _)
 cases x with
 | bl c =>
  cases r1
  exact wpAny_truthy_bool ⟨H1,I1,q1⟩
 | _=>exact False.elim q1
theorem zz{op:CmpOp}{r:R2}(ho:aF X (compareOp op) r)(ha:PE X a ta)(hb:PE X b tb)(hm:behindInMarks op b=false):PT X (.Compare a [op] [b] pos) (mB (de r ta tb)):=by
 intro pins s σ H Q I h
 refine wpAny_isTrue_Compare1 (ai (ha pins s σ H _ I h) λv s1 ⟨x,H1,I1,r1,q1⟩=>ai (hb pins s1 σ H1 _ I1 q1) λu s2 ⟨y,H2,I2,r2,q2⟩ =>
  ai (ho pins s2 σ H2 x y v u _ I2 r1 r2 q2) λc s3 ⟨z,H3,I3,r3,q3⟩=>?_) hm
 cases z with
 | bl k =>
  cases r3
  exact wpAny_truthy_bool ⟨H3,I3,q3⟩
 | _=>exact False.elim q3
def jX(r r':R2)(ta tb tc:TE):TE:=λσ H Q=>ta σ H λx H1=>tb σ H1 λy H2=>r x y H2 λz H3=>match z with
 | .bl k=>if k=true then tc σ H3 λw' H4=>r' y w' H4 Q else Q (.bl false) H3
 | _=>False
theorem zU{c:Expr}{tc:TE}{op op':CmpOp}{r r':R2}(ho:aF X (compareOp op) r)(ho':aF X (compareOp op') r')(ha:PE X a ta)(hb:PE X b tb)(hc:PE X c tc)
 (hm:lastMarks [op,op'] [b,c]=false:=by with_unfolding_all rfl):PE X (.Compare a [op,op'] [b,c] pos) (jX r r' ta tb tc):=by
 intro pins s σ H Q I h
 refine Compare_chain (ai (ha pins s σ H _ I h) λv s1 ⟨x,H1,I1,r1,q1⟩=>chain_link (ai (hb pins s1 σ H1 _ I1 q1) λu s2 ⟨y,H2,I2,r2,q2⟩ =>
  ai (ho pins s2 σ H2 x y v u _ I2 r1 r2 q2) λd s3 ⟨z,H3,I3,r3,q3⟩=>?_)) hm
 cases z with
 | bl k =>
  cases r3
  refine wpAny_truthy_bool ?_
  cases k with
  | false=>exact ite_ff ⟨.bl false,H3,I3,rfl,q3⟩
  | true=>exact ite_tt (chain_last (ai (hc pins s3 σ H3 _ I3 q3) λw' s4 ⟨z',H4,I4,r4,q4⟩=>ho' pins s4 σ H4 y z' u w' Q I4 r2 r4 q4))
 | _=>exact False.elim q3
theorem zA{c:Expr}{tc:TE}{op op':CmpOp}{r r':R2}(ho:aF X (compareOp op) r)(ho':aF X (compareOp op') r')(ha:PE X a ta)(hb:PE X b tb)(hc:PE X c tc)
 (hm:lastMarks [op,op'] [b,c]=false:=by with_unfolding_all rfl):PT X (.Compare a [op,op'] [b,c] pos) (mB (jX r r' ta tb tc)):=by
 intro pins s σ H Q I h
 refine isTrue_chain (ai (ha pins s σ H _ I h) λv s1 ⟨x,H1,I1,r1,q1⟩=>test_link (ai (hb pins s1 σ H1 _ I1 q1) λu s2 ⟨y,H2,I2,r2,q2⟩ =>
  ai (ho pins s2 σ H2 x y v u _ I2 r1 r2 q2) λd s3 ⟨z,H3,I3,r3,q3⟩=>?_)) hm
 cases z with
 | bl k =>
  cases r3
  refine wpAny_truthy_bool ?_
  cases k with
  | false=>exact ite_ff ⟨H3,I3,q3⟩
  | true =>
   refine ite_tt (test_last (ai (hc pins s3 σ H3 _ I3 q3) λw' s4 ⟨z',H4,I4,r4,q4⟩=>ai (ho' pins s4 σ H4 y z' u w' _ I4 r2 r4 q4) λd' s5 ⟨z2,H5,I5,r5,q5⟩=>?_))
   cases z2 with
   | bl k2 =>
    cases r5
    exact wpAny_truthy_bool ⟨H5,I5,q5⟩
   | _=>exact False.elim q5
 | _=>exact False.elim q3
def mo(K:W.Frag)(t:TE):TT:=λσ H Q=>t σ H λx H1=>match x with
 | .non=>Q false H1
 | .bl c=>Q c H1
 | .int i=>Q (i != 0) H1
 | .ref p=>∃ xs,(az K H1 p xs\/bP K H1 p xs)/\Q (!xs.isEmpty) H1
 | _=>False
theorem zx{e:Expr}{t:TE}(h:PE X e t)(he : ∀ whole,isTrue e X.env whole=(do let v <- whole; standAt e.pos; holding [v] (truthy v)):=by intro _; rfl):PT X e (mo X.K t):=by
 intro pins s σ H Q I hw
 refine isTrue_plain (ai (h pins s σ H _ I hw) λv s1 ⟨x,H1,I1,r1,q1⟩=>?_) (he _)
 cases x with
 | non=>exact iP pins s1 σ H1 _ v Q I1 r1 ⟨false,rfl,q1⟩
 | bl c=>exact iP pins s1 σ H1 _ v Q I1 r1 ⟨c,rfl,q1⟩
 | int i=>exact iP pins s1 σ H1 _ v Q I1 r1 ⟨i != 0,rfl,q1⟩
 | ref p =>
  obtain⟨xs,hx,q1⟩:=q1
  rcases hx with hx | hx
  ·exact iP pins s1 σ H1 _ v Q I1 r1 ⟨_,.inl ⟨xs,hx,rfl⟩,q1⟩
  ·exact iP pins s1 σ H1 _ v Q I1 r1 ⟨_,.inr (.inl ⟨xs,hx,rfl⟩),q1⟩
 | _=>exact False.elim q1
end
section
variable {X:Cx}{a b:Expr}{ta tb:TE}{pos:Pos}
def gI(C:Int->Int->Prop)(g:Int->Int->V):R2:=λx y H Q=>match x,y with
 | .int i,.int j=>C i j/\Q (g i j) H
 | _,_=>False
def ke(g:Int->Int->V):R2:=λx y H Q=>match x,y with
 | .int i,.int j=>Q (g i j) H
 | _,_=>False
theorem mU{f:Value->Value->Sem Value}{g:Int->Int->V}(h:aF X f (fg g)):aF X f (ke g):=h.imp λx y H Q q=>by
 cases x <;> cases y <;> first | exact False.elim q | exact⟨_,_,rfl,rfl,q⟩
theorem mL:aF X (compareOp .Lt) (ke λi j=>.bl (decide (i < j))):=mU zm
theorem dt:aF X (compareOp .LtE) (ke λi j=>.bl (decide (i<=j))):=mU zn
theorem mM:aF X (compareOp .Gt) (ke λi j=>.bl (decide (j < i))):=mU zo
def sh(j:Int)(ta:TE):TE:=λσ H Q=>ta σ H λx H1=>match x with
 | .int i=>Q (.int (i / j)) H1
 | _=>False
def se(j:Int)(ta:TE):TE:=λσ H Q=>ta σ H λx H1=>match x with
 | .int i=>Q (.int (i%j)) H1
 | _=>False
theorem zS{j:Int}{k:Nat}{p:Pos}(ha:PE X a ta)(hj:0 < j/\j < 1073741824:=by decide):PE X (.BinOp a .FloorDiv (.Constant (.int j) k p) pos) (sh j ta):=by
 intro pins s σ H Q I h
 refine wpAny_BinOp (ai (ha pins s σ H _ I h) λv s1 ⟨x,H1,I1,r1,q1⟩=>?_)
 refine ai (jU pins s1 σ H1 (λy H2=>y=.int j/\H2=H1) I1 ⟨rfl,rfl⟩) λu s2 ⟨y,H2,I2,r2,e1,e2⟩=>?_
 subst e1 e2
 cases x with
 | int i=>exact zp pins s2 σ H2 (.int i) (.int j) v u Q I2 r1 r2 ⟨i,j,rfl,rfl,hj,q1⟩
 | _=>exact False.elim q1
theorem zQ{j:Int}{k:Nat}{p:Pos}(ha:PE X a ta)(hj:0 < j:=by decide):PE X (.BinOp a .Mod (.Constant (.int j) k p) pos) (se j ta):=by
 intro pins s σ H Q I h
 refine wpAny_BinOp (ai (ha pins s σ H _ I h) λv s1 ⟨x,H1,I1,r1,q1⟩=>?_)
 refine ai (jU pins s1 σ H1 (λy H2=>y=.int j/\H2=H1) I1 ⟨rfl,rfl⟩) λu s2 ⟨y,H2,I2,r2,e1,e2⟩=>?_
 subst e1 e2
 cases x with
 | int i=>exact zl pins s2 σ H2 (.int i) (.int j) v u Q I2 r1 r2 ⟨i,j,rfl,rfl,hj,q1⟩
 | _=>exact False.elim q1
end
section
variable {X:Cx}
theorem CS{pins:List (Addr × Obj)}{s:Shared}{σ:St}{H:Hp}{l b:Addr}{xs zs:List V}{Q:VK}(I:ad X pins σ H s)(hl:az X.K H l xs)(hb:az X.K H b zs)(hz:xs.length+zs.length<=sizeLine)
 (q : ∀ p H',aI H p (.lst (xs++zs)) H'->Q (.ref p) H'):wpAny (model X.prog X.w) X.A (binaryOp .Add (.ref l) (.ref b)) (EP X pins σ Q) X.xe s:=by
 obtain⟨its,r,pl,_⟩:=I.list hl
 obtain⟨its2,r2,pl2,_⟩:=I.list hb
 have e1:=r.length
 have e2:=r2.length
 obtain⟨⟨cls,dd,data,sl⟩,ho,hc,n,hd⟩:=pl.isList
 obtain⟨⟨cls2,dd2,data2,sl2⟩,ho2,hc2,n2,hd2⟩:=pl2.isList
 simp only at hc hd hc2 hd2
 subst hc hd hc2 hd2
 have ea:its.toArray++its2.toArray=(its++its2).toArray:=by simp
 refine concat_meets ⟨_,ho,rfl⟩ ⟨_,ho2,rfl⟩ noFill_list_add seq_list_add PySem.F.slot_list_add PySem.F.entry_list_add (PySem.F.args_list_add_2 _ _) (list_addW l b its.toArray its2.toArray n n2 dd dd2 sl sl2 (by rw[List.size_toArray,List.size_toArray]; omega)) ⟨ho,ho2,?_⟩
 rw[ea]
 exact⟨.ref _,_,I.lnew (t':=s.toks) (r.append r2) (by rw[List.length_append]; omega),rfl,q _ _ (.mk' I.fresh)⟩
def tE(K:W.Frag):R2:=λx y H Q=>match x,y with
 | .int i,.int j=>Q (.int (i+j)) H
 | .ref l,.ref b=>∃ xs zs,az K H l xs/\az K H b zs/\xs.length+zs.length<=sizeLine/\∀ p H',aI H p (.lst (xs++zs)) H'->Q (.ref p) H'
 | _,_=>False
theorem B0:aF X (binaryOp .Add) (tE X.K):=by
 intro pins s σ H x y v u Q I rx ry q
 cases x with
 | int i =>
  cases y with
  | int j=>exact zr pins s σ H _ _ v u Q I rx ry ⟨i,j,rfl,rfl,q⟩
  | _=>exact False.elim q
 | ref l =>
  cases y with
  | ref b =>
   obtain⟨xs,zs,h1,h2,h3,q⟩:=q
   cases rx
   cases ry
   exact CS I h1 h2 h3 q
  | _=>exact False.elim q
 | _=>exact False.elim q
def mE(x:V)(c:Bool):Bool:=match x with
 | .bl d=>d == c
 | _=>false
theorem xj{x:V}{v:Value}{c:Bool}(r:ar x v)(hf : ∀ f,x ≠ .ty f):plainIs v (.bool c)=true/\(v == Value.bool c)=mE x c:=by
 cases x with
 | non=>cases r; exact⟨rfl,rfl⟩
 | bl d=>cases r; exact⟨rfl,by cases d <;> cases c <;> rfl⟩
 | int _=>obtain⟨t,rfl⟩:=r; exact⟨rfl,rfl⟩
 | str _=>obtain⟨t,rfl⟩:=r; exact⟨rfl,rfl⟩
 | byt _=>obtain⟨t,rfl⟩:=r; exact⟨rfl,rfl⟩
 | flt _=>obtain⟨t,rfl⟩:=r; exact⟨rfl,rfl⟩
 | ref _=>cases r; exact⟨rfl,rfl⟩
 | ty f=>exact absurd rfl (hf f)
def mS(neg:Bool):R2:=λx y H Q=>match y with
 | .non=>Q (.bl (if neg then !decide (x=.non) else decide (x=.non))) H
 | .bl c=>(∀ f,x ≠ .ty f)/\Q (.bl (if neg then !mE x c else mE x c)) H
 | _=>False
theorem j9:aF X (compareOp .IsNot) (mS true):=by
 intro pins s σ H x y v u Q I rx ry q
 cases y with
 | non=>exact zk pins s σ H x _ v u Q I rx ry ⟨rfl,q⟩
 | bl c =>
  cases ry
  obtain⟨h1,h2⟩:=xj (c:=c) rx q.1
  exact wpAny_isNot_plain h1 ⟨.bl _,H,I,by rw[h2]; rfl,q.2⟩
 | _=>exact False.elim q
end
def aZ(K:W.Frag)(H:Hp)(d:PyData)(x:V):Prop:=∀ (X:Cx) (pins:List (Addr × Obj)) (σ:St) (s:Shared) (u:Value),X.K=K->ad X pins σ H s->ar x u->∃ as,Reads s.heap u d as
def cB(K:W.Frag)(H:Hp)(ds:List PyData)(xs:List V):Prop:=∀ (X:Cx) (pins:List (Addr × Obj)) (σ:St) (s:Shared) (us:List Value),X.K=K->ad X pins σ H s->aq xs us->∃ as,ReadsAll s.heap us ds as
section
variable {K:W.Frag}{H:Hp}
theorem aZ.int(i:Int):aZ K H (.int i) (.int i):=λ_ _ _ _ _ _ _ r=>by obtain⟨t,rfl⟩:=r; exact⟨_,.int i t⟩
theorem aZ.str(x:Str):aZ K H (.str x) (.str x):=λ_ _ _ _ _ _ _ r=>by obtain⟨t,rfl⟩:=r; exact⟨_,.str x t⟩
theorem cB.nil:cB K H [] []:=λ_ _ _ _ _ _ _ r=>by cases r; exact⟨_,.nil⟩
theorem cB.cons{d:PyData}{ds:List PyData}{x:V}{xs:List V}(a:aZ K H d x)(b:cB K H ds xs):cB K H (d :: ds) (x :: xs):=λX pins σ s us e I r=>by
 cases r with
 | cons r1 r2 =>
  obtain⟨as,ha⟩:=a X pins σ s _ e I r1
  obtain⟨bs,hb⟩:=b X pins σ s _ e I r2
  exact⟨_,.cons ha hb⟩
theorem aZ.lst{ds:List PyData}{p:Addr}{xs:List V}(h:az K H p xs)(b:cB K H ds xs):aZ K H (.list ds) (.ref p):=λX pins σ s u e I r=>by
 cases r
 subst e
 obtain⟨its,rv,⟨o,n,ho,hc,_,hd⟩,_⟩:=I.list h
 obtain⟨as,ha⟩:=b X pins σ s its rfl I rv
 exact⟨_,.list ho hc hd (by simpa using ha)⟩
theorem aZ.tup{ds:List PyData}{p:Addr}{xs:List V}(h:bP K H p xs)(b:cB K H ds xs):aZ K H (.tuple ds) (.ref p):=λX pins σ s u e I r=>by
 cases r
 subst e
 obtain⟨its,rv,⟨o,ho,hc,n,hd⟩,_⟩:=I.tuple h
 obtain⟨as,ha⟩:=b X pins σ s its rfl I rv
 exact⟨_,.tuple ho hc hd (by simpa using ha)⟩
theorem cB.ints : ∀ ns:List Int,cB K H (ns.map PyData.int) (ns.map V.int)
 | []=>.nil
 | n :: ns=>.cons (.int n) (cB.ints ns)
end
open SeqAt (shaped)
def gc(K:W.Frag)(neg:Bool):R2:=λx y H Q=>match x,y with
 | .int i,.int j=>Q (.bl (if neg then !decide (i=j) else decide (i=j))) H
 | .bl a,.bl b=>Q (.bl (if neg then !(a == b) else a == b)) H
 | _,_=>∃ d e,aZ K H d x/\aZ K H e y/\shaped d=true/\shaped e=true/\Q (.bl (if neg then !d.eqv e else d.eqv e)) H
section
variable {X:Cx}
theorem tK{pins:List (Addr × Obj)}{s:Shared}{σ:St}{H:Hp}{x y:V}{v u:Value}{Q:VK}{neg:Bool}(hu:X.A.units+64 < cLine)(I:ad X pins σ H s)(rx:ar x v)(ry:ar y u)
 (q : ∃ d e,aZ X.K H d x/\aZ X.K H e y/\shaped d=true/\shaped e=true/\Q (.bl (if neg then !d.eqv e else d.eqv e)) H) :
 wpAny (model X.prog X.w) X.A (compareOp (if neg then .NotEq else .Eq) v u) (EP X pins σ Q) X.xe s:=by
 obtain⟨d,e,hd,he,h1,h2,q⟩:=q
 obtain⟨as,ra⟩:=hd X pins σ s v rfl I rx
 obtain⟨bs,rb⟩:=he X pins σ s u rfl I ry
 cases neg with
 | true=>exact ne_dataH ra rb h1 h2 hu ⟨.bl _,H,I,rfl,q⟩
 | false=>exact eq_dataH ra rb h1 h2 hu ⟨.bl _,H,I,rfl,q⟩
theorem tU{i j:Int}:decide (V.int i=V.int j)=decide (i=j):=by simp
theorem BS(hu:X.A.units+64 < cLine):aF X (compareOp .Eq) (gc X.K false):=by
 intro pins s σ H x y v u Q I rx ry q
 have D:=λq'=>tK (neg:=false) (Q:=Q) hu I rx ry q'
 cases x with
 | int i =>
  cases y with
  | int j=>exact rO pins s σ H _ _ v u Q I rx ry ⟨rfl,by rw[tU]; exact q⟩
  | _=>exact D q
 | bl i =>
  cases y with
  | bl j=>exact rO pins s σ H _ _ v u Q I rx ry ⟨rfl,by rw[kx]; exact q⟩
  | _=>exact D q
 | _=>exact D q
theorem BG(hu:X.A.units+64 < cLine):aF X (compareOp .NotEq) (gc X.K true):=by
 intro pins s σ H x y v u Q I rx ry q
 have D:=λq'=>tK (neg:=true) (Q:=Q) hu I rx ry q'
 cases x with
 | int i =>
  cases y with
  | int j=>exact rN pins s σ H _ _ v u Q I rx ry ⟨rfl,by rw[tU]; exact q⟩
  | _=>exact D q
 | bl i =>
  cases y with
  | bl j=>exact rN pins s σ H _ _ v u Q I rx ry ⟨rfl,by rw[kx]; exact q⟩
  | _=>exact D q
 | _=>exact D q
def tz(K:W.Frag):R2:=λx y H Q=>match x,y with
 | .ref p,.int i=>∃ xs v,(az K H p xs\/bP K H p xs)/\eO xs i=some v/\Q v H
 | _,_=>False
theorem BH:cZ X (tz X.K):=(AC.or AB).imp λx y H Q q=>by
 cases x with
 | ref p =>
  cases y with
  | int i =>
   obtain⟨xs,v,h1,h2,q⟩:=q
   rcases h1 with h1 | h1
   ·exact .inl ⟨p,xs,i,v,rfl,rfl,h1,h2,q⟩
   ·exact .inr ⟨p,xs,i,v,rfl,rfl,h1,h2,q⟩
  | _=>exact False.elim q
 | _=>exact False.elim q
def tw(K:W.Frag):V->Option Int->Option Int->Hp->VK->Prop:=λx lo hi H Q=>match x with
 | .ref a=>∃ xs,az K H a xs/\∀ p H',aI H p (.lst (cy xs lo hi)) H'->Q (.ref p) H'
 | _=>False
theorem BE:fx X (tw X.K):=by
 intro pins s σ H x v vl vu lo hi sl Q I rx hs pl pu q
 cases x with
 | ref a=>obtain⟨xs,h1,q⟩:=q; exact wJ pins s σ H _ v vl vu lo hi sl Q I rx hs pl pu ⟨a,xs,rfl,h1,λp hp=>q p _ (.mk' hp)⟩
 | _=>exact False.elim q
def mR(K:W.Frag):List V->Hp->VK->Prop:=λxs H Q=>match xs with
 | [.ref p]=>∃ ys,(az K H p ys\/bP K H p ys)/\Q (.int ys.length) H
 | _=>False
theorem Db:bd X (.builtin "len") (mR X.K):=CW.imp λxs H Q q=>by
 unfold mR at q
 split at q
 ·obtain⟨ys,h1,q⟩:=q
  exact⟨_,ys,rfl,h1,q⟩
 ·exact q.elim
def mQ(K:W.Frag):List V->Hp->VK->Prop:=λxs H Q=>match xs with
 | [.ref p]=>∃ ys,(az K H p ys\/bP K H p ys)/\∀ l H',aI H l (.lst ys) H'->Q (.ref l) H'
 | _=>False
theorem C9:bd X (.type "list") (mQ X.K):=CV.imp λxs H Q q=>by
 unfold mQ at q
 split at q
 ·obtain⟨ys,h1,q⟩:=q
  exact⟨_,ys,rfl,h1,λl hl=>q l _ (.mk' hl)⟩
 ·exact q.elim
def mT(K:W.Frag):List V->Hp->VK->Prop:=λxs H Q=>match xs with
 | [x,.ty T]=>∃ t b,cc K H x t/\W.kitOne K t (.type T)=some b/\Q (.bl b) H
 | [x,.ref C]=>∃ t b,cc K H x t/\W.kitOne K t (.ref C)=some b/\Q (.bl b) H
 | _=>False
theorem Dc:bd X (.builtin "isinstance") (mT X.K):=by
 intro pins s σ H xs us Q I r q
 unfold mT at q
 split at q
 ·obtain⟨t,b,h1,h2,q⟩:=q
  obtain⟨u,w',rfl,r1,r2⟩:=jt r
  cases r2
  exact sM I r1 h1 h2 λtk=>⟨.bl b,H,I.tok _,rfl,q⟩
 ·obtain⟨t,b,h1,h2,q⟩:=q
  obtain⟨u,w',rfl,r1,r2⟩:=jt r
  cases r2
  exact sM I r1 h1 h2 λtk=>⟨.bl b,H,I.tok _,rfl,q⟩
 ·exact q.elim
theorem Dm {x:Str} {T:String} {pos:Pos} (hg:Gl X x) (hm:X.mg x=none) (hv:bootBuiltins x=some (.type T)) (hn:x ≠ "__name__":=by decide) (hd:(x == ("__debug__" : Str))=false:=by decide):PE X (.Name x pos) (tC (.ty T)) :=
 zc hg hm hv rfl hn hd
end
def dG:Expr->Bool
 | .Starred _ _=>true
 | _=>false
theorem dB{e:Expr}{es:List Expr}{env:Env}(h:dG e=false):starEach (e :: es) env=(false,eval e env) :: starEach es env:=by
 cases e <;> first | rfl | cases h
def cn:List Expr->Bool
 | []=>true
 | e :: r=>!dG e && cn r
theorem fU{env:Env}{pos:Pos} : ∀ {es:List Expr},cn es=true->(backTo pos (starEach es env)).any (·.1)=false
 | [],_=>rfl
 | e :: r,h=>by
  have h':(!dG e && cn r)=true:=h
  rw[Bool.and_eq_true]at h'
  have h1:dG e=false:=by simpa using h'.1
  rw[dB h1]
  show (false || (backTo pos (starEach r env)).any (·.1))=false
  rw[Bool.false_or]
  exact fU h'.2
theorem cT{e:Expr}{es:List Expr}(h:cn (e :: es)=true):dG e=false/\cn es=true:=by
 have h':(!dG e && cn es)=true:=h
 rw[Bool.and_eq_true]at h'
 exact⟨by simpa using h'.1,h'.2⟩
theorem rH{X:Cx}{e:Expr}{es:List Expr}{te:TE}{t:TA}(ha:PE X e te)(hr:PA X es t)(hs:dG e=false:=by rfl):PA X (e :: es) (k9 te t):=ze ha hr (dB hs)
def kG:Expr->Option V
 | .Constant (.int i) _ _=>some (.int i)
 | .Constant (.bool b) _ _=>some (.bl b)
 | .Constant .none _ _=>some .non
 | .Constant (.str x) _ _=>some (.str x)
 | _=>none
def kF:List Expr->Option (List V)
 | []=>some []
 | e :: r=>match kG e,kF r with
  | some v,some vs=>some (v :: vs)
  | _,_=>none
def qp(vs:List V):TA:=λ_ H Q=>Q vs H
theorem y3{X:Cx}{e:Expr}{v:V}(h:kG e=some v):PE X e (tC v):=by
 unfold kG at h
 split at h
 ·cases h; exact jU
 ·cases h; exact rE
 ·cases h; exact rD
 ·cases h; exact rC
 ·cases h
theorem CI{e:Expr}{v:V}(h:kG e=some v):dG e=false:=by
 cases e <;> first | rfl | cases h
theorem rG{X:Cx} : ∀ {es:List Expr} {vs:List V},kF es=some vs->PA X es (qp vs)
 | [],vs,h=>by
  cases h
  exact rF
 | e :: r,vs,h=>by
  unfold kF at h
  split at h
  ·rename_i v ws h1 h2
   cases h
   exact rH (y3 h1) (rG h2) (CI h1)
  ·cases h
section
variable {X:Cx}{es:List Expr}{t:TA}{pos:Pos}
def r0(t:TA):TE:=λσ H Q=>t σ H λxs H1=>xs.length<=sizeLine/\∀ p H',aI H1 p (.tup xs) H'->Q (.ref p) H'
def sf(t:TA):TE:=λσ H Q=>t σ H λxs H1=>xs.length<=sizeLine/\∀ p H',aI H1 p (.lst xs) H'->Q (.ref p) H'
theorem zN{x1}(h:PA X es t):PE X (.Tuple es x1 pos) (r0 t):=by
 intro pins s σ H Q I hq
 refine wpAny_Tuple_spliced (ai (h pos pins s σ H _ I hq) λus s1 ⟨xs,H1,I1,r,z,q⟩=>⟨by rw[<- r.length]; exact z,?_⟩)
 have hf:H1 s1.heap.objs.size=none:=I1.hok.fresh (Nat.le_refl _)
 refine⟨.ref s1.heap.objs.size,upd H1 s1.heap.objs.size (.tup xs),I1.laid (t':=s1.toks) (λb u e=>Heap.get?_push_of_some _ e) (Nat.le_refl _) ?_,rfl,q _ _ (.mk' hf)⟩
 exact⟨z,us,r,⟨_,Heap.get?_push_size _ rfl,rfl,_,rfl⟩⟩
theorem zR(h:PA X es t):PE X (.List es pos) (sf t):=by
 intro pins s σ H Q I hq
 refine wpAny_List_spliced (ai (h pos pins s σ H _ I hq) λus s1 ⟨xs,H1,I1,r,z,q⟩=>⟨by rw[<- r.length]; exact z,?_⟩)
 have hf:H1 s1.heap.objs.size=none:=I1.hok.fresh (Nat.le_refl _)
 refine⟨.ref s1.heap.objs.size,upd H1 s1.heap.objs.size (.lst xs),I1.laid (t':=s1.toks) (λb u e=>Heap.get?_push_of_some _ e) (Nat.le_refl _) ?_,rfl,q _ _ (.mk' hf)⟩
 exact⟨z,us,0,r,Heap.get?_push_size _ rfl⟩
def si:TE:=λ_ H Q=>∀ p H',aI H p (.dK []) H'->Q (.ref p) H'
theorem zT:PE X (.Dict [] [] pos) si:=yZ.imp λσ H Q q=>λp hp=>q p _ (.mk' hp)
end
theorem bu{Q:VK}{H:Hp}{a b:Bool}(k:Q (.bl a) H)(e:a=b):Q (.bl b) H:=e ▸ k
def mD:V->Bool
 | .int _=>true
 | .bl _=>true
 | _=>false
def sO:V->Bool
 | .bl _=>true
 | _=>false
inductive cY (K:W.Frag) (H:Hp):V->Prop where
 | non:cY K H .non
 | bl (b:Bool):cY K H (.bl b)
 | int (i:Int):cY K H (.int i)
 | str (x:Str):cY K H (.str x)
 | lst {a:Addr} {xs:List V} (e:H a=some (.lst xs)):cY K H (.ref a)
 | tup {a:Addr} {xs:List V} (e:H a=some (.tup xs)):cY K H (.ref a)
 | dK {a:Addr} {kvs:List (ak × V)} (e:H a=some (.dK kvs)):cY K H (.ref a)
theorem cY.isInt {K:W.Frag} {H:Hp} {v:V} (k:cY K H v) : ∃ ty,cc K H v ty/\W.kitOne K ty (.type "int")=some (mD v):=by
 cases k with
 | non=>exact⟨_,.non,by with_unfolding_all rfl⟩
 | bl b=>exact⟨_,.bl b,by with_unfolding_all rfl⟩
 | int i=>exact⟨_,.int i,by with_unfolding_all rfl⟩
 | str x=>exact⟨_,.str x,by with_unfolding_all rfl⟩
 | lst e=>exact⟨_,.lst e,by with_unfolding_all rfl⟩
 | tup e=>exact⟨_,.tup e,by with_unfolding_all rfl⟩
 | dK e=>exact⟨_,.dK e,by with_unfolding_all rfl⟩
theorem cY.isBl {K:W.Frag} {H:Hp} {v:V} (k:cY K H v) : ∃ ty,cc K H v ty/\W.kitOne K ty (.type "bool")=some (sO v):=by
 cases k with
 | non=>exact⟨_,.non,by with_unfolding_all rfl⟩
 | bl b=>exact⟨_,.bl b,by with_unfolding_all rfl⟩
 | int i=>exact⟨_,.int i,by with_unfolding_all rfl⟩
 | str x=>exact⟨_,.str x,by with_unfolding_all rfl⟩
 | lst e=>exact⟨_,.lst e,by with_unfolding_all rfl⟩
 | tup e=>exact⟨_,.tup e,by with_unfolding_all rfl⟩
 | dK e=>exact⟨_,.dK e,by with_unfolding_all rfl⟩
theorem sz{n:Nat}(h:Nat.ble n 1000=true):n<=sizeLine:=Nat.le_trans (Nat.le_of_ble_eq_true h) (by decide)
theorem dg{n:Nat}(h:n<=100000):n<=sizeLine:=Nat.le_trans h (by decide)
theorem dP{n:Nat}(h:n<=100000):n < sizeLine:=Nat.lt_of_le_of_lt h (by decide)
section
variable {X:Cx}
theorem xu(bs:List Bool):(List.range bs.length).map (λi=>(bs[i]?).getD false)=bs:=by
 apply List.ext_getElem
 ·simp
 ·intro i h1 h2
  simp[List.getElem?_eq_getElem h2]
theorem xv(bs:List Bool):((List.range bs.length).all λi=>(bs[i]?).getD false)=bs.all id:=by
 conv=>rhs; rw[<- xu bs]
 rw[List.all_map]
 rfl
def mW(K:W.Frag)(one:Bool):List V->Hp->VK->Prop:=λxs H Q=>match xs with
 | [.ref p]=>∃ bs:List Bool,az K H p (bs.map V.bl)/\Q (.bl (if one then bs.any id else bs.all id)) H
 | _=>False
theorem Do{prog:Program}{w:World}{A:Around}{bs:List Bool}{its:List Value}(r:aq (bs.map V.bl) its):TruthOf prog w A (λi v=>its.toArray[i]? = some v) λi=>(bs[i]?).getD false:=λi v s Q E hP hQ=>by
 dsimp only at hP hQ
 have hi:i < its.length:=by
  have:=(Array.getElem?_eq_some_iff.mp hP).1
  simpa using this
 have hl:=r.length
 rw[List.length_map]at hl
 have hb:i < bs.length:=by omega
 obtain⟨u,hu,ru⟩:=r.get (i:=i) (x:=V.bl bs[i]) (by simp[hb])
 have e:its.toArray[i]? = some u:=by simpa using hu
 rw[e]at hP
 cases hP
 cases ru
 rw[List.getElem?_eq_getElem hb]at hQ
 exact wpAny_truthy_bool hQ
theorem Dd (hc:X.calm=true):bd X (.builtin "all") (mW X.K false):=by
 intro pins s σ H xs us Q I r q
 unfold mW at q
 split at q
 ·rename_i p
  obtain⟨bs,hq,q⟩:=q
  obtain⟨u,rfl,rx⟩:=fJ r
  cases rx
  obtain⟨its,rv,pl,_⟩:=I.list hq
  have hl:=rv.length
  rw[List.length_map]at hl
  have hne:p≠s.heap.objs.size:=by
   obtain⟨o,n,e,_⟩:=pl
   exact Nat.ne_of_lt (Heap.lt_size e)
  refine call_all_walk (wpAny_pyIter_list pl.isList ⟨s.heap.objs.size,_,_,_,_,_,λi=>(bs[i]?).getD false,rfl,Walks.list (A:=X.A.in1) (show X.A.in1.handled=none from I.ok.hd hc) s.heap.objs.size p hne its.toArray,⟨⟨_,Heap.get?_push_size _ rfl,rfl,rfl⟩,?_⟩,Do rv,λh' tk k=>?_⟩)
  ·exact pl.isList.at λo e=>Heap.get?_push_of_some _ e
  ·refine⟨.bl _,H,I.kept (h':=h') (t':=tk) λb o e=>k b o (λz=>?_) (Heap.get?_push_of_some _ e),?_,q⟩
   ·have e':b=s.heap.objs.size:=by simpa using z
    exact absurd (Heap.lt_size e) (by rw[e']; exact Nat.lt_irrefl _)
   ·show Value.bool _=Value.bool _
    rw[List.size_toArray,<- hl,xv]
    rfl
 ·exact q.elim
def mO(K:W.Frag):List V->Hp->VK->Prop:=λxs H Q=>match xs with
 | [.ref p]=>∃ ys,az K H p ys/\∀ l H',aI H l (.tup ys) H'->Q (.ref l) H'
 | _=>False
theorem C1:bd X (.type "tuple") (mO X.K):=CU.imp λxs H Q q=>by
 unfold mO at q
 split at q
 ·obtain⟨ys,h1,q⟩:=q
  exact⟨_,ys,rfl,.inl ⟨h1,λl hl=>q l _ (.mk' hl)⟩⟩
 ·exact q.elim
def tB:V->List V->Hp->VK->Prop:=λx vs H Q=>match x,vs with
 | .ref l,[y]=>∃ xs,H l=some (.lst xs)/\xs.length < sizeLine/\Q .non (upd H l (.lst (xs++[y])))
 | _,_=>False
theorem ip:fB X "list.append" tB:=by
 intro pins s σ H x vs v us Q I rx rv q
 unfold tB at q
 split at q
 ·obtain⟨xs,h1,h2,q⟩:=q
  exact zB pins s σ H _ _ v us Q I rx rv ⟨_,xs,_,rfl,rfl,h1,h2,q⟩
 ·exact q.elim
end
structure bi (P:Program) (w:World) (K:W.Frag) (mg:Str->Option Value) (base:Heap) (x:Str) (k:Nat) (f:Addr) (fd:FuncData) (ps:List Str) (sp:Sp):Prop where
 gm:mg x=some (.ref f)
 kp:W.keepIn K (.ref f)=true
 b:aD K fd ps []
 ok:bw P w K mg base bY k f fd ps sp
section
variable {X:Cx}{k j:Nat}{f:Addr}{fd:FuncData}{ps:List Str}{sp:Sp}{x:Str}{p pos:Pos}{e:Expr}{es:List Expr}{t:TA}
theorem C0(F:bi X.prog X.w X.K X.mg X.base x j f fd ps sp)(hr:aP k X.A)(ha:PA X (e :: es) t)(hj:j<=k:=by decide)(hg:Gl X x:=by rfl)
 (hdb:(x == ("__debug__" : Str))=false:=by decide) (hn:cn (e :: es)=true:=by rfl) :
 PE X (.Call (.Name x p) (e :: es) [] pos) (la sp [] E0 t):=y9 F.ok (hr.mono hj) hg F.gm F.kp F.b .nil zd ha hdb (dB (cT hn).1) (fU (cT hn).2)
theorem CZ{id:String}{r:List V->Hp->VK->Prop}(hc:bd X (.builtin id) r)(hm:X.mg x=none)(hv:bootBuiltins x=some (.builtin id))(ha:PA X (e :: es) t)(hg:Gl X x:=by rfl)(hx:x ≠ "__name__":=by decide)(hdb:(x == ("__debug__" : Str))=false:=by decide)
 (hn:cn (e :: es)=true:=by rfl):PE X (.Call (.Name x p) (e :: es) [] pos) (gx r t):=y8 hc hg hm hv ha hx hdb (dB (cT hn).1) (fU (cT hn).2)
theorem CY{T:String}{r:List V->Hp->VK->Prop}(hc:bd X (.type T) r)(hm:X.mg x=none)(hv:bootBuiltins x=some (.type T))(ha:PA X (e :: es) t)(hg:Gl X x:=by rfl)(hx:x ≠ "__name__":=by decide)(hdb:(x == ("__debug__" : Str))=false:=by decide)
 (hn:cn (e :: es)=true:=by rfl):PE X (.Call (.Name x p) (e :: es) [] pos) (gx r t):=y7 hc hg hm hv ha hx hdb (dB (cT hn).1) (fU (cT hn).2)
theorem gi{n:Int}{u:Tok}(hm:X.mg x=some (.int n u))(hg:Gl X x:=by rfl)(hd:(x == ("__debug__" : Str))=false:=by decide):PE X (.Name x pos) (tC (.int n)):=yW hg hm ⟨u,rfl⟩ hd
end
def cW(cells:List (Str × Addr)):List (Str × NameKind)->List (Str × Addr)->List (Str × Addr)
 | [],acc=>acc
 | (n,k) :: r,acc=>cW cells r (if (k == NameKind.free)=true then (n,(cells.lookup n).getD 0) :: acc else acc)
theorem ud{scope:Scope}{env:Env}(h : ∀ n,(n,NameKind.free)∈scope.names->∃ c,env.cells.lookup n=some c):closureFor scope env=pure (cW env.cells scope.names []):=by
 unfold closureFor
 have key : ∀ (l:List (Str × NameKind)) (acc:List (Str × Addr)),(∀ n,(n,NameKind.free)∈l->∃ c,env.cells.lookup n=some c) ->
  (forIn l acc (λx __s=>match x with
    | (name,kind) =>
     if (kind == NameKind.free)=true then do
      let __do_lift <- cellOf env name
      pure (ForInStep.yield ((name,__do_lift) :: __s))
     else pure (ForInStep.yield __s)):Sem (List (Str × Addr)))=pure (cW env.cells l acc):=by
  intro l
  induction l with
  | nil=>intro acc _; rfl
  | cons x r ih =>
   intro acc hf
   obtain⟨n,k⟩:=x
   have hr : ∀ n,(n,NameKind.free)∈r->∃ c,env.cells.lookup n=some c:=λn hn=>hf n (List.mem_cons_of_mem _ hn)
   rw[List.forIn_cons]
   by_cases hk:(k == NameKind.free)=true
   ·have hk':k=NameKind.free:=by simpa using hk
    subst hk'
    obtain⟨c,hc⟩:=hf n List.mem_cons_self
    have e:cellOf env n=pure c:=by unfold cellOf; rw[hc]
    show (if (NameKind.free == NameKind.free)=true then _ else _) >>= _=_
    rw[if_pos hk,e]
    show (forIn r ((n,c) :: acc) _:Sem (List (Str × Addr)))=_
    rw[ih _ hr]
    show _=pure (cW env.cells r (if (NameKind.free == NameKind.free)=true then (n,(List.lookup n env.cells).getD 0) :: acc else acc))
    rw[if_pos hk,hc]
    rfl
   ·show (if (k == NameKind.free)=true then _ else _) >>= _=_
    rw[if_neg hk]
    show (forIn r acc _:Sem (List (Str × Addr)))=_
    rw[ih _ hr]
    show _=pure (cW env.cells r (if (k == NameKind.free)=true then _ else acc))
    rw[if_neg hk]
 show (forIn scope.names [] _ >>= _:Sem (List (Str × Addr)))=_
 rw[key _ _ h]
 rfl
theorem oj{cells:List (Str × Addr)} : ∀ (l:List (Str × NameKind)) (acc:List (Str × Addr)) (x:Str) (c:Addr),(cW cells l acc).lookup x=some c->(∀ n,(n,NameKind.free)∈l->∃ c,cells.lookup n=some c)->((x,NameKind.free)∈l/\cells.lookup x=some c)\/acc.lookup x=some c
 | [],acc,x,c,h,_=>.inr h
 | (n,k) :: r,acc,x,c,h,hf=>by
  have hr : ∀ n,(n,NameKind.free)∈r->∃ c,cells.lookup n=some c:=λn hn=>hf n (List.mem_cons_of_mem _ hn)
  rcases oj r _ x c h hr with ⟨h1,h2⟩ | h1
  ·exact .inl ⟨List.mem_cons_of_mem _ h1,h2⟩
  ·by_cases hk:(k == NameKind.free)=true
   ·rw[if_pos hk]at h1
    have hk':k=NameKind.free:=by simpa using hk
    subst hk'
    obtain⟨c',hc⟩:=hf n List.mem_cons_self
    rw[hc]at h1
    rw[List.lookup_cons]at h1
    by_cases e:(x == n)=true
    ·rw[e]at h1
     have e':x=n:=by simpa using e
     subst e'
     have:c'=c:=Option.some.inj h1
     subst this
     exact .inl ⟨List.mem_cons_self,hc⟩
    ·have e':(x == n)=false:=by simpa using e
     rw[e']at h1
     exact .inr h1
   ·rw[if_neg hk]at h1
    exact .inr h1
theorem om{cells:List (Str × Addr)} : ∀ (l:List (Str × NameKind)) (acc:List (Str × Addr)) (x:Str),((x,NameKind.free)∈l\/∃ c,acc.lookup x=some c)->∃ c,(cW cells l acc).lookup x=some c
 | [],acc,x,h=>by
  rcases h with h | h
  ·cases h
  ·exact h
 | (n,k) :: r,acc,x,h=>by
  unfold cW
  refine om r _ x ?_
  rcases h with h | ⟨c,h⟩
  ·rcases List.mem_cons.mp h with e | e
   ·cases e
    exact .inr ⟨_,by simp; rfl⟩
   ·exact .inl e
  ·refine .inr ?_
   by_cases hk:(k == NameKind.free)=true
   ·rw[if_pos hk,List.lookup_cons]
    cases (x == n)
    ·exact⟨c,h⟩
    ·exact⟨_,rfl⟩
   ·rw[if_neg hk]
    exact⟨c,h⟩
section
variable {prog:Program}{w:World}{A:Around}{s:Shared}{R:Result->Shared->Prop}
theorem CO{elt target iter:Expr}{ifs:List Expr}{scope:Scope}{pos:Pos}{it acc:Value}{env:Env}(I:Nat->Shared->Prop)
 (turn : ∀ n s,I n s->wpAny (model prog w) A (pyNext it) (λr s₁=>match r with
   | none=>R (.ok .next) s₁
   | some v=>wpAny (model prog w) A (letOwnedTupleGo target it v) (λ_ s₁'=>wpAny (model prog w) A (assign target env v) (λ_ s₂ =>
    wpAny (model prog w) A (forIn ifs true λc r=>if r=true then do let ok <- isTrue c env (eval c env); pure (ForInStep.yield ok) else pure (ForInStep.yield r)) (λok s₃ =>
     if ok=true then wpAny (model prog w) A (eval elt env) (λx s₄ =>
      wpAny (model prog w) A (call (.builtin "list.append") [acc,x]) (λ_ s₅=>∃ m,m < n/\I m s₅) (λ_ _=>False) s₄) (λ_ _=>False) s₃
     else ∃ m,m < n/\I m s₃) (λ_ _=>False) s₂) (λ_ _=>False) s₁') (λ_ _=>False) s₁) (λ_ _=>False) s)
 (n:Nat) (h:I n s) :
 codeAny (model prog w) A (.compLoop (.ListComp elt [⟨target,iter,ifs,0⟩] scope pos) 0 it acc env) R s:=by
 refine codeAny_loop rfl I (λn s hI=>?_) n h
 show wpAny _ A ((compTurn (.ListComp elt [⟨target,iter,ifs,0⟩] scope pos) 0 it acc env).onRaise (λx=>do noteFrame x env; theTreesLotGoes x)) _ _ s
 refine wpAny_noted ?_
 rw[compTurn_list]
 refine wpAny_bind (wpAny_standAt (wpAny_bind (wpAny_mono (turn n s hI) (λr s₁ h₁=>?_) λ_ _ h'=>h'.elim)))
 cases r with
 | none=>exact wpAny_pure h₁
 | some v =>
  refine wpAny_bind (wpAny_mono h₁ (λ_ s₁' h₁'=>?_) λ_ _ h'=>h'.elim)
  refine wpAny_bind (wpAny_mono h₁' (λ_ s₂ h₂=>wpAny_bind (wpAny_mono h₂ (λok s₃ h₃=>?_) λ_ _ h'=>h'.elim)) λ_ _ h'=>h'.elim)
  cases ok with
  | false=>exact wpAny_pure ⟨rfl,h₃⟩
  | true =>
   exact wpAny_bind (wpAny_bind (wpAny_mono h₃ (λx s₄ h₄=>wpAny_bind (wpAny_mono h₄ (λ_ s₅ h₅=>wpAny_pure (wpAny_pure ⟨rfl,h₅⟩)) λ_ _ h'=>h'.elim)) λ_ _ h'=>h'.elim))
end
def bE(X:Cx)(Nc:List Str)(scope:Scope)(C:Addr)(s:Shared)(H:Hp)(fp:List Addr):Cx where
 prog:=X.prog
 w:=X.w
 K:=X.K
 mg:=X.mg
 base:=X.base
 A:=X.A
 N:=Nc
 s₀:=s
 H₀:=H
 env:=compEnvC scope (cW X.env.cells scope.names []) C X.env
 outer:=X.stack
 stack:=X.stack
 ex:=fp
 fn:=λ_=>false
 calm:=X.calm
 pn:=X.pn
 xe:=λ_ _=>False
def iG(X:Cx)(ifs:List Expr)(t:TT):Prop :=
 ∀ (pins:List (Addr × Obj)) (s:Shared) (σ:St) (H:Hp) (Q:Bool->Hp->Prop),ad X pins σ H s->t σ H Q ->
  wpAny (model X.prog X.w) X.A (forIn ifs true λc r=>if r=true then do let ok <- isTrue c X.env (eval c X.env); pure (ForInStep.yield ok) else pure (ForInStep.yield r)) (TP X pins σ Q) X.xe s
def eZ:TT:=λ_ H Q=>Q true H
theorem x9{X:Cx}:iG X [] eZ:=λ_ _ _ H _ I h=>wpAny_tests_nil ⟨H,I,h⟩
theorem x8{X:Cx}{c:Expr}{t:TT}(h:PT X c t):iG X [c] t:=λpins s σ H Q I q=>wpAny_tests_one (h pins s σ H Q I q)
theorem aM.adopt{P:Program}{w:World}{H:Hp}{h:Heap}{a:Addr}{o:HO}(x:aM P w H h)(hn:H a=none)(new:aH P w (upd H a o) h a o):aM P w (upd H a o) h:=λb u e=>by
 by_cases hb:b=a
 ·subst hb; rw[aN]at e; cases e; exact new
 ·rw[aj hb]at e
  exact (x b u e).stay (λc v _ q=>q) (λc q=>by rw[aj (bD q hn)]; exact q) λc xs q=>by rw[aj (bD q hn)]; exact q
def fI(J:It)(H1:Hp)(σ0:St)(g:TG)(tt:TT)(te:TE)(Q:VK):Prop:=∃ W:Nat->Nat->List V->St->Hp->Prop,
 (∃ m,W 0 m [] σ0 H1)/\∀ i m ys σ1 H2,W i m ys σ1 H2 ->
   (J.stop i H2/\ys.length<=sizeLine/\∀ p H',aI H2 p (.lst ys) H'->Q (.ref p) H') \/
   (J.go i H2/\ys.length < sizeLine/\∃ Nx:List V->St->Hp->Prop,(∀ ys' σ' H',Nx ys' σ' H'->∃ m',m' < m/\W (i+1) m' ys' σ' H') /\
     ∀ x H',J.yld i H2 x H'->g x σ1 H' λσ2 H3=>tt σ2 H3 λb H4=>if b=true then te σ2 H4 λy H5=>Nx (ys++[y]) σ2 H5 else Nx ys σ2 H4)
def jB(nv:Nat)(caps:List Nat)(wi:TI)(g:TG)(tt:TT)(te:TE):TE:=λσ H Q=>wi σ H λJ H1=>fI J H1 (List.replicate nv none++caps.map λj=>(σ[j]?).join) g tt te Q
structure cg (X:Cx) (Nc:List Str) (nv:Nat) (caps:List Nat) (scope:Scope):Prop where
 kind:scope.kind=.function
 nocell : ∀ y∈scope.names,y.2 ≠ .cell
 names : ∀ y∈scope.names,y.2=.local->scope.names.lookup y.1=some .local
 free : ∀ n,(n,NameKind.free)∈scope.names->X.env.kindOf n=some .cell\/X.env.kindOf n=some .free
 len:Nc.length=nv+caps.length
 cap : ∀ k j,caps[k]? = some j->∃ x,Nc[nv+k]? = some x/\X.N[j]? = some x/\scope.names.lookup x=some .free
def uc(fns:List (Str × NameKind))(N Nc:List Str)(nv:Nat)(caps:List Nat)(sc:Scope):Bool :=
 (sc.kind == .function) && (sc.names.all λy=>!(y.2 == .cell)) && (sc.names.all λy=>!(y.2 == .local) || sc.names.lookup y.1 == some .local) &&
 (sc.names.all λy=>!(y.2 == .free) || (fns.lookup y.1 == some .cell || fns.lookup y.1 == some .free)) && (Nc.length == nv+caps.length) &&
 ((List.range caps.length).all λk=>match caps[k]?,Nc[nv+k]? with
   | some j,some x=>N[j]? == some x && sc.names.lookup x == some .free
   | _,_=>false)
theorem cg.of{X:Cx}{fns:List (Str × NameKind)}{N Nc:List Str}{nv:Nat}{caps:List Nat}{sc:Scope}(hf:X.env.scope.names=fns)(hN:X.N=N)(h:uc fns N Nc nv caps sc=true):cg X Nc nv caps sc:=by
 unfold uc at h
 simp only [Bool.and_eq_true]at h
 obtain⟨⟨⟨⟨⟨h1,h2⟩,h3⟩,h4⟩,h5⟩,h6⟩:=h
 refine⟨by simpa using h1,λy hy e=>?_,λy hy e=>?_,λn hn=>?_,by simpa using h5,λk j e=>?_⟩
 ·have:=List.all_eq_true.mp h2 y hy
  rw[e]at this
  simp at this
 ·have:=List.all_eq_true.mp h3 y hy
  rw[e]at this
  simpa using this
 ·have:=List.all_eq_true.mp h4 _ hn
  show X.env.scope.names.lookup n=some .cell\/X.env.scope.names.lookup n=some .free
  rw[hf]
  simpa using this
 ·have hk:k < caps.length:=(List.getElem?_eq_some_iff.mp e).1
  have:=List.all_eq_true.mp h6 k (List.mem_range.mpr hk)
  rw[e]at this
  cases ex:Nc[nv+k]? with
  | none=>rw[ex]at this; simp at this
  | some x =>
   rw[ex]at this
   simp only [Bool.and_eq_true]at this
   exact⟨x,rfl,by rw[hN]; simpa using this.1,by simpa using this.2⟩
theorem j0{env:Env} : ∀ {names:List (Str × NameKind)} {x:Str} {k:NameKind},
 (names.map λ(n,k)=>if (k == NameKind.free && env.scope.kind == .function && env.kindOf n == some .cell) then (n,NameKind.cell) else (n,k)).lookup x=some k ->
 ∃ k0,names.lookup x=some k0/\(k=k0\/(k0=.free/\k=.cell))
 | [],_,_,h=>by simp at h
 | (n,k0) :: r,x,k,h=>by
  have h':List.lookup x ((if (k0 == NameKind.free && env.scope.kind == .function && env.kindOf n == some .cell)=true then (n,NameKind.cell) else (n,k0)) ::
   r.map λ(n,k)=>if (k == NameKind.free && env.scope.kind == .function && env.kindOf n == some .cell) then (n,NameKind.cell) else (n,k))=some k:=h
  cases hx:x == n with
  | true =>
   refine⟨k0,by simp[List.lookup_cons,hx],?_⟩
   by_cases hc:(k0 == NameKind.free && env.scope.kind == .function && env.kindOf n == some .cell)=true
   ·rw[if_pos hc,List.lookup_cons,hx]at h'
    have:NameKind.cell=k:=Option.some.inj h'
    refine .inr ⟨?_,this.symm⟩
    rw[Bool.and_eq_true,Bool.and_eq_true]at hc
    simpa using hc.1.1
   ·rw[if_neg hc,List.lookup_cons,hx]at h'
    exact .inl (Option.some.inj h').symm
  | false =>
   have h2:(r.map λ(n,k)=>if (k == NameKind.free && env.scope.kind == .function && env.kindOf n == some .cell) then (n,NameKind.cell) else (n,k)).lookup x=some k:=by
    by_cases hc:(k0 == NameKind.free && env.scope.kind == .function && env.kindOf n == some .cell)=true
    ·rw[if_pos hc,List.lookup_cons,hx]at h'
     exact h'
    ·rw[if_neg hc,List.lookup_cons,hx]at h'
     exact h'
   obtain⟨k1,h3,h4⟩:=j0 h2
   exact⟨k1,by simp[List.lookup_cons,hx,h3],h4⟩
theorem fu{a b n:Addr}(h:a < n)(h':n<=b):a≠b:=Nat.ne_of_lt (Nat.lt_of_lt_of_le h h')
theorem i7{α β:Type}[BEq α][LawfulBEq α] : ∀ {l:List (α × β)} {x:α} {k:β},l.lookup x=some k->(x,k)∈l
 | [],_,_,h=>by simp at h
 | (n,k0) :: r,x,k,h=>by
  cases hx:x == n with
  | true =>
   simp only [List.lookup_cons,hx]at h
   cases h
   have e:x=n:=by simpa using hx
   subst e
   exact List.mem_cons_self
  | false =>
   simp only [List.lookup_cons,hx]at h
   exact List.mem_cons_of_mem _ (i7 h)
section
variable {X:Cx}{elt tg iter:Expr}{ifs:List Expr}{scope:Scope}{Nc:List Str}{nv:Nat}{caps:List Nat}
theorem AI{pins:List (Addr × Obj)}{σ:St}{H:Hp}{s:Shared}{fp:List Addr}{h₁:Heap}{tk:Nat}{D C:Addr}{m:Str->Option Value}(S:cg X Nc nv caps scope)(I:ad X pins σ H s)
 (hf : ∀ b∈fp,c6 X pins H b) (hfl : ∀ b∈fp,b < s.heap.objs.size) (hD:s.heap.objs.size<=D) (hC:s.heap.objs.size<=C) (hDC:D≠C) (hn:h₁.Ns C m) {oD:Obj} (hDo:h₁.get? D=some oD) (hDd : ∀ v,oD.data ≠ .cell v) (old : ∀ b o,s.heap.get? b=some o->h₁.get? b=some o) :
 ad (bE X Nc scope C s H fp) (pins++[(D,oD)]) (List.replicate nv none++caps.map λj=>(σ[j]?).join) H { s with heap:=h₁,toks:=tk }:=by
 have hcells : ∀ n,(n,NameKind.free)∈scope.names->∃ c,X.env.cells.lookup n=some c:=λn hm=>I.ok.has n (S.free n hm)
 have clX : ∀ x c,(cW X.env.cells scope.names []).lookup x=some c->(x,NameKind.free)∈scope.names/\X.env.cells.lookup x=some c:=λx c e=>by
  rcases oj _ _ _ _ e hcells with h | h
  ·exact h
  ·simp at h
 have frm : ∀ b∈cb X.stack,b < s.heap.objs.size:=λb hb=>by
  obtain⟨_,o,ho,_⟩:=I.stack.mem hb
  exact Heap.lt_size ho
 have cellLt : ∀ x c,X.env.cells.lookup x=some c->c < s.heap.objs.size:=λx c e=>by
  obtain⟨v,q⟩:=I.cell x c e
  exact q.lt
 refine⟨⟨I.ok.mod,S.kind,I.ok.glob,I.ok.blt,hC,λx y c e1 e2=>I.ok.inj x y c (clX x c e1).2 (clX y c e2).2,λx hx=>?_,λx c z=>absurd z (by show ¬ (false=true); decide),I.ok.hd,I.ok.frames,.inl rfl,λb hb=>⟨?_,λx c e z=>?_⟩,λb o e=>I.bs b o e,Nat.le_trans I.ok.bsz I.sz,λb o e hb=>?_,λb hb z=>?_,I.stack,I.stkFree⟩,
  rfl,I.bare,Un.kept old,⟨m,hn,λi x v h1 h2 h3=>?_⟩,λx c e=>?_,I.hok.fresh hC,λx c e=>I.freeC x c (clX x c e).2,λp hp=>?_,I.hok.kept old,?_⟩
 ·-- a cell or free name of the block has its cell
  have hx':(relabel scope X.env).names.lookup x=some .cell\/(relabel scope X.env).names.lookup x=some .free:=hx
  have hm:(x,NameKind.free)∈scope.names:=by
   rcases hx' with hx' | hx'
   ·obtain⟨k0,e,z⟩:=j0 hx'
    rcases z with z | ⟨z,_⟩
    ·subst z; exact absurd rfl (S.nocell _ (i7 e))
    ·subst z; exact i7 e
   ·obtain⟨k0,e,z⟩:=j0 hx'
    rcases z with z | ⟨_,z⟩
    ·subst z; exact i7 e
    ·cases z
  exact om _ _ _ (.inl hm)
 ·exact Nat.ne_of_lt (Nat.lt_of_lt_of_le (hfl b hb) hC)
 ·exact (hf b hb).2.2.2.2.1 x c (clX x c e).2 z
 ·have hx:=(hf b hb).2.2.2.1
  rcases hx with z | z
  ·exact I.ok.noex b o e z
  ·exact absurd (Nat.lt_of_lt_of_le (Nat.lt_of_lt_of_le (Heap.lt_size e) I.ok.bsz) z) (Nat.lt_irrefl _)
 ·rcases List.mem_cons.mp (I.stkSub b z) with q | q
  ·exact (hf b hb).2.1 q
  ·exact (hf b hb).2.2.1 q
 ·-- the names' values
  have hi:nv<=i:=by
   refine Nat.le_of_not_lt λhlt=>?_
   rw[List.getElem?_append_left (by simpa using hlt),List.getElem?_replicate,if_pos hlt]at h2
   cases h2
  obtain⟨k,rfl⟩:=Nat.le.dest hi
  rw[List.getElem?_append_right (by simp)]at h2
  simp only [List.length_replicate,Nat.add_sub_cancel_left,List.getElem?_map]at h2
  cases ek:caps[k]? with
  | none=>rw[ek]at h2; cases h2
  | some j =>
   rw[ek]at h2
   have h2':(σ[j]?).join=some v:=Option.some.inj h2
   have hσ:σ[j]? = some (some v):=by
    cases e:σ[j]? with
    | none=>rw[e]at h2'; cases h2'
    | some z=>rw[e]at h2'; cases z with
     | none=>cases h2'
     | some z=>have:z=v:=Option.some.inj h2'; rw[this]
   obtain⟨y,e1,e2,e3⟩:=S.cap k j ek
   have h1':Nc[nv+k]? = some x:=h1
   rw[e1]at h1'
   cases h1'
   have hm:=i7 e3
   have hk:=S.free x hm
   obtain⟨m0,hn0,hl⟩:=I.loc
   obtain⟨u,ru,lk⟩:=hl j x v e2 hσ (by
    rcases hk with z | z
    ·exact .inr (.inl z)
    ·exact .inr (.inr z))
   refine⟨u,ru,?_⟩
   rcases lk with ⟨z,_⟩ | ⟨_,c,hc,hcell⟩
   ·rcases hk with z' | z' <;> rw[z]at z' <;> cases z'
   ·refine .inr ⟨?_,c,?_,hcell.keeps old⟩
    ·rcases h3 with z | z | z
     ·exfalso
      obtain⟨k0,e,z'⟩:=j0 (show (relabel scope X.env).names.lookup x=some .local from z)
      rw[e3]at e
      cases e
      rcases z' with z' | ⟨_,z'⟩ <;> cases z'
     ·exact .inl z
     ·exact .inr z
    ·obtain⟨c',hc'⟩:=om (cells:=X.env.cells) scope.names [] x (.inl hm)
     rw[(clX x c' hc').2]at hc
     cases hc
     exact hc'
 ·obtain⟨v,z⟩:=I.cell x c (clX x c e).2
  exact⟨v,z.keeps old⟩
 ·-- pins
  have hp':p∈X.pn++(pins++[(D,oD)]):=hp
  rw[<- List.append_assoc]at hp'
  rcases List.mem_append.mp hp' with z | z
  ·obtain⟨e,n,ne,nf,d⟩:=I.pin p z
   have hlt:=Heap.lt_size e
   refine⟨old _ _ e,n,Nat.ne_of_lt (Nat.lt_of_lt_of_le hlt hC),λq=>?_,d⟩
   rcases List.mem_cons.mp (I.stkSub p.1 q) with q | q
   ·exact ne q
   ·exact nf q
  ·have e:p=(D,oD):=by simpa using z
   subst e
   exact⟨hDo,I.hok.fresh hD,hDC,λq=>absurd (Nat.lt_of_lt_of_le (frm _ q) hD) (Nat.lt_irrefl _),hDd⟩
 ·show (List.replicate nv none++caps.map λj=>(σ[j]?).join).length=Nc.length
  rw[List.length_append,List.length_replicate,List.length_map,S.len]
abbrev eG(its:List Value)(n:Nat):Obj:={ cls:=.type "list",data:=.seq its.toArray n }
theorem sq(its:List Value)(n:Nat) : ∀ v,(eG its n).data ≠ .cell v:=λv z=>by
 have z':Data.seq its.toArray n=Data.cell v:=z
 cases z'
theorem ub{g:TG}{tt:TT}{te:TE}{pos:Pos}{pins:List (Addr × Obj)}{σ:St}{H:Hp}{s:Shared}{Q:VK}{E:Value->Shared->Prop}{RR:Value->Addr->Result->Shared->Prop}(hc:X.calm=true)(S:cg X Nc nv caps scope)
 (hg : ∀ C s H fp,PG (bE X Nc scope C s H fp) tg g) (ht : ∀ C s H fp,iG (bE X Nc scope C s H fp) ifs tt) (he : ∀ C s H fp,PE (bE X Nc scope C s H fp) elt te)
 {it:Addr} {fp:List Addr} {tn:Nat->Heap->Prop} {J:It} (I:ad X pins σ H s) (T:dX X.prog X.w X.K tg J fp it tn) (st:tn 0 s.heap) (hf : ∀ b∈fp,c6 X pins H b)
 {W:Nat->Nat->List V->St->Hp->Prop} {m0:Nat} (w0:W 0 m0 [] (List.replicate nv none++caps.map λj=>(σ[j]?).join) H)
 (turn : ∀ i m ys σ1 H2,W i m ys σ1 H2->(J.stop i H2/\ys.length<=sizeLine/\∀ p H',aI H2 p (.lst ys) H'->Q (.ref p) H') \/
   (J.go i H2/\ys.length < sizeLine/\∃ Nx:List V->St->Hp->Prop,(∀ ys' σ' H',Nx ys' σ' H'->∃ m',m' < m/\W (i+1) m' ys' σ' H') /\
     ∀ x H',J.yld i H2 x H'->g x σ1 H' λσ2 H3=>tt σ2 H3 λb H4=>if b=true then te σ2 H4 λy H5=>Nx (ys++[y]) σ2 H5 else Nx ys σ2 H4))
 (hRR : ∀ (D C:Addr) (s1:Shared) (H':Hp),ad X pins σ H' s1->c6 X pins H' C->(∃ m,s1.heap.Ns C m)->Q (.ref D) H'->RR (.ref D) C (.ok .next) s1) :
 wpAny (model X.prog X.w) X.A (newList []) (λacc s₃=>wpAny (model X.prog X.w) X.A (newFunctionEnv scope X.env.globals (cW X.env.cells scope.names []) [] X.env.qual none .none (some X.env)) (λcenv s₄ =>
  codeAny (model X.prog X.w) X.A (.compStart (.ListComp elt [⟨tg,iter,ifs,0⟩] scope pos) 0 (.ref it) acc { cenv with scope:=relabel scope X.env }) (RR acc cenv.locals) s₄) E s₃) E s:=by
 refine wpAny_newObj_type (wpAny_newFunctionEnv S.nocell (by intro y hy; simp at hy) (λh₁ hns₁ hsb₁=>?_) S.kind)
 dsimp only at hns₁ hsb₁ ⊢
 generalize hH2:s.heap.push { cls:=.type "list",dict:=none,data:=.seq ([]:List Value).toArray }=h2 at hns₁ hsb₁ ⊢
 have hC:h2.objs.size=s.heap.objs.size+1:=by rw[<- hH2,Heap.size_push]
 have hDC:s.heap.objs.size≠h2.objs.size:=by rw[hC]; exact Nat.ne_of_lt (Nat.lt_succ_self _)
 have hCle:s.heap.objs.size<=h2.objs.size:=by rw[hC]; exact Nat.le_succ _
 have old : ∀ b o,s.heap.get? b=some o->h₁.get? b=some o:=λb o e=>hsb₁.extBut b o (Nat.ne_of_lt (Nat.lt_of_lt_of_le (Heap.lt_size e) hCle)) (Heap.get?_push_of_some _ (hH2 ▸ Heap.get?_push_of_some _ e))
 have hacc:h₁.get? s.heap.objs.size=some (eG [] 0):=hsb₁.extBut _ _ hDC (Heap.get?_push_of_some _ (hH2 ▸ Heap.get?_push_size _ rfl))
 have hfl : ∀ b∈fp,b < s.heap.objs.size:=λb hb=>by
  obtain⟨o,ho,_⟩:=T.obj _ _ st b hb
  exact Heap.lt_size ho
 have frm : ∀ b∈cb X.stack,b < s.heap.objs.size:=λb hb=>by
  obtain⟨_,o,ho,_⟩:=I.stack.mem hb
  exact Heap.lt_size ho
 have cellLt : ∀ x c,X.env.cells.lookup x=some c->c < s.heap.objs.size:=λx c e=>by
  obtain⟨v,q⟩:=I.cell x c e
  exact q.lt
 have hcells : ∀ n,(n,NameKind.free)∈scope.names->∃ c,X.env.cells.lookup n=some c:=λn hm=>I.ok.has n (S.free n hm)
 have clX : ∀ x c,(cW X.env.cells scope.names []).lookup x=some c->X.env.cells.lookup x=some c:=λx c e=>by
  rcases oj _ _ _ _ e hcells with h | h
  ·exact h.2
  ·simp at h
 have pinLt : ∀ p∈X.pn++pins,p.1 < s.heap.objs.size:=λp hp=>Heap.lt_size (I.pin p hp).1
 generalize hDD:s.heap.objs.size=D at hacc hDC ⊢
 generalize hCC:h2.objs.size=C at hDC hCle hns₁ hsb₁ ⊢
 have leD:s.heap.objs.size<=D:=Nat.le_of_eq hDD
 have leC:s.heap.objs.size<=C:=by omega
 have fpc : ∀ {H1:Hp} (o:Obj),(∀ b∈fp,H1 b=none)->∀ b∈fp,c6 (bE X Nc scope C s H fp) (pins++[(D,o)]) H1 b:=λ{H1} o hn b hb=>by
  refine⟨hn b hb,Nat.ne_of_lt (Nat.lt_of_lt_of_le (hfl b hb) leC),λz=>?_,.inl hb,λx c e z=>(hf b hb).2.2.2.2.1 x c (clX x c e) z,λp hp=>?_⟩
  ·rcases List.mem_cons.mp (I.stkSub b z) with q | q
   ·exact (hf b hb).2.1 q
   ·exact (hf b hb).2.2.1 q
  ·have hp':p∈X.pn++(pins++[(D,o)]):=hp
   rw[<- List.append_assoc]at hp'
   rcases List.mem_append.mp hp' with z | z
   ·exact (hf b hb).2.2.2.2.2 p z
   ·have e:p=(D,o):=by simpa using z
    subst e
    exact λq=>fu (hfl b hb) leD q.symm
 have loop : ∀ s₃:Shared,s₃ = { s with heap:=h₁,toks:=s.toks+([]:List (Str × Value)).length } ->
  codeAny (model X.prog X.w) X.A (.compLoop (.ListComp elt [⟨tg,iter,ifs,0⟩] scope pos) 0 (.ref it) (.ref D) (compEnvC scope (cW X.env.cells scope.names []) C X.env)) (RR (.ref D) C) s₃:=by
  rintro s₃ rfl
  refine CO (λn s'=>∃ (i:Nat) (ys:List V) (its:List Value) (nn:Nat) (σ1:St) (H1:Hp),ad (bE X Nc scope C s H fp) (pins++[(D,eG its nn)]) σ1 H1 s'/\tn i s'.heap/\(∀ b∈fp,H1 b=none)/\aq ys its/\W i n ys σ1 H1) ?_ m0
   ⟨0,[],[],0,_,H,AI S I hf hfl leD leC hDC hns₁ hacc (sq _ _) old,T.keep _ _ _ st λb _ o e=>old b o e,λb hb=>(hf b hb).1,.nil,w0⟩
  rintro n s' ⟨i,ys,its,nn,σ1,H1,I1,st1,fr1,rv,w1⟩
  have pinD : ∀ {σ':St} {H':Hp} {s'':Shared} {pl:List (Addr × Obj)},ad (bE X Nc scope C s H fp) ((pins++[(D,eG its nn)])++pl) σ' H' s''->s''.heap.get? D=some (eG its nn)/\H' D=none:=λ{σ' H' s'' pl} I'=>by
   have z:=I'.pin (D,eG its nn) (List.mem_append_right _ (List.mem_append_left _ (List.mem_append_right _ (by simp))))
   exact⟨z.1,z.2.1⟩
  rcases turn i n ys σ1 H1 w1 with ⟨stop,hz,q⟩ | ⟨go,hz,Nx,hNx,step⟩
  ·refine ai (T.done (bE X Nc scope C s H fp) rfl rfl rfl hc i _ s' σ1 H1 _ I1 (fpc _ fr1) st1 stop) λr s4 ⟨hr,I4⟩=>?_
   subst hr
   obtain⟨eD,nD⟩:=pinD (pl:=[]) (by rw[List.append_nil]; exact I4)
   obtain⟨m,hnC,_⟩:=I4.loc
   have u4:Un (cb X.stack) fp H H1 s.heap s4.heap:=I4.base
   have dNone:s.heap.get? D=none:=Heap.get?_none_of_le (Nat.le_of_eq hDD)
   have noD : ∀ b o,s.heap.get? b=some o->b≠D:=λb o e z=>by rw[z,dNone]at e; cases e
   have u5:Un (cb X.stack) fp H (upd H1 D (.lst ys)) s.heap s4.heap:=by
    refine⟨u4.keep,u4.slot,λb o e n hx=>?_,u4.there,λb xs e=>?_,λb o u e=>?_,λb ps e=>?_⟩
    ·rw[aj (noD b o e)]
     exact u4.free b o e n hx
    ·have z:=u4.tups b xs e
     rw[aj (bD z nD)]
     exact z
    ·have z:=u4.frzs b o u e
     rw[aj (bD z nD)]
     exact z
    ·obtain⟨more,z⟩:=u4.tbls b ps e
     exact⟨more,by rw[aj (bD z nD)]; exact z⟩
   have hok:aM X.prog X.w (upd H1 D (.lst ys)) s4.heap:=aM.adopt I4.hok nD ⟨hz,its,nn,rv,eD⟩
   have IX:ad X pins σ (upd H1 D (.lst ys)) s4:=I.call' I4.os u5 hok I4.bare λb hb=>⟨(hf b hb).2.2.2.1,(hf b hb).2.1,(hf b hb).2.2.2.2.1,(hf b hb).2.2.2.2.2⟩
   have fpC:c6 X pins (upd H1 D (.lst ys)) C:=by
    have hl:X.env.locals < s.heap.objs.size:=I.lt
    exact⟨by rw[aj (Ne.symm hDC)]; exact I4.free,(fu hl leC).symm,I.nofs leC,.inr (Nat.le_trans I.sz leC),λx c e z=>fu (cellLt x c e) leC z,λp hp z=>fu (pinLt p hp) leC z⟩
   exact hRR D C s4 _ IX fpC ⟨m,hnC⟩ (q D _ (.mk' nD))
  ·refine ai (T.item (bE X Nc scope C s H fp) rfl rfl rfl hc i _ s' σ1 H1 _ I1 (fpc _ fr1) st1 go) λr s4 ⟨u,hr,h4⟩=>?_
   subst hr
   refine ai h4 λ_ s5 ⟨x,H5,I5,r5,y5,dR,fr5⟩=>?_
   have I5':=I5.pinned (fpc _ fr5) (T.obj _ _ dR)
   have back : ∀ {σ7:St} {H7:Hp} {s7:Shared},ad (bE X Nc scope C s H fp) ((pins++[(D,eG its nn)])++i6 fp s5.heap) σ7 H7 s7->tn (i+1) s7.heap/\∀ b∈fp,H7 b=none:=λ{σ7 H7 s7} I7=>by
    refine⟨T.keep _ _ _ dR λb hb o e=>(I7.pin (b,o) (List.mem_append_right _ (List.mem_append_right _ (jW hb e)))).1,λb hb=>?_⟩
    obtain⟨o,e,d⟩:=T.obj _ _ dR b hb
    exact (I7.pin (b,o) (List.mem_append_right _ (List.mem_append_right _ (jW hb e)))).2.1
   refine ai (hg _ _ _ _ _ s5 σ1 H5 x u _ I5' r5 (step x H5 y5)) λ_ s6 ⟨σ6,H6,I6,q6⟩=>?_
   refine ai (ht _ _ _ _ _ s6 σ6 H6 _ I6 q6) λb s7 ⟨H7,I7,q7⟩=>?_
   cases b with
   | false =>
    obtain⟨m',hm,w7⟩:=hNx _ _ _ q7
    obtain⟨t7,f7⟩:=back I7
    exact⟨m',hm,i+1,ys,its,nn,σ6,H7,I7.unpinned,t7,f7,rv,w7⟩
   | true =>
    refine ai (he _ _ _ _ _ s7 σ6 H7 _ I7 q7) λyv s8 ⟨y,H8,I8,r8,n8⟩=>?_
    obtain⟨m',hm,w8⟩:=hNx _ _ _ n8
    obtain⟨t8,f8⟩:=back I8
    obtain⟨eD,nD⟩:=pinD I8
    have hlen:=rv.length
    refine call_meets F.slot_list_append ⟨_,eD,rfl⟩ F.entry_list_append (F.args_list_append_2 _ _) (PySem.list_append D its.toArray nn yv (by rw[List.size_toArray]; omega)) ⟨eD,?_⟩
    have ea:its.toArray.push yv=(its++[yv]).toArray:=by simp
    obtain⟨n9,e9⟩ : ∃ n9,(s8.heap.update D (Obj.mapSeq (·.push yv))).get? D=some (eG (its++[yv]) n9):=⟨_,by
     have z:=PySem.IsL.update eD (·.push yv)
     rw[ea]at z
     exact z⟩
    have keep9 : ∀ b o,b≠D->s8.heap.get? b=some o->(s8.heap.update D (Obj.mapSeq (·.push yv))).get? b=some o:=λb o hb e=>(Heap.get?_update_other _ _ (Ne.symm hb)).trans e
    have nfp : ∀ b∈fp,b≠D:=λb hb z=>fu (hfl b hb) leD z
    have I8u:ad (bE X Nc scope C s H fp) pins σ6 H8 s8:=I8.pins_of λp hp=>I8.pin p (List.mem_append_right _ (List.mem_append_left _ (List.mem_append_left _ hp)))
    have I9:=I8u.turned (t':=s8.toks) (it:=D) keep9 nD hDC (.inr leD) (λx c e z=>fu (cellLt x c (clX x c e)) leD z) (λp hp z=>fu (pinLt p hp) leD z)
    have t9:tn (i+1) (s8.heap.update D (Obj.mapSeq (·.push yv))):=T.keep _ _ _ t8 λb hb o e=>keep9 b o (nfp b hb) e
    refine⟨m',hm,i+1,ys++[y],its++[yv],n9,σ6,H8,I9.pins_of λp hp=>?_,t9,f8,rv.append (.cons r8 .nil),w8⟩
    rcases List.mem_append.mp hp with z | z
    ·exact I9.pin p (List.mem_append_right _ z)
    ·have e:p=(D,eG (its++[yv]) n9):=by simpa using z
     subst e
     exact⟨e9,nD,hDC,λq=>fu (frm _ q) leD rfl,sq _ _⟩
 have st':=λ(s₃:Shared) (e:s₃ = { s with heap:=h₁,toks:=s.toks+([]:List (Str × Value)).length })=>loop s₃ e
 exact codeAny_compStart_list (loop _ rfl) (T.self _ 0 _ _ _ (T.keep _ _ _ st λb _ o e=>old b o e) (loop _ rfl))
theorem y4{wi:TI}{g:TG}{tt:TT}{te:TE}{pos:Pos}(hc:X.calm=true)(S:cg X Nc nv caps scope)(hi:PI X tg iter wi)
 (hg : ∀ C s H fp,PG (bE X Nc scope C s H fp) tg g) (ht : ∀ C s H fp,iG (bE X Nc scope C s H fp) ifs tt) (he : ∀ C s H fp,PE (bE X Nc scope C s H fp) elt te)
 (hs : ∀ x,foldedSetIterable iter X.env x=pure x:=by intro _; rfl):PE X (.ListComp elt [⟨tg,iter,ifs,0⟩] scope pos) (jB nv caps wi g tt te):=by
 intro pins s σ H Q I h
 rw[eval_ListComp]
 have hcells : ∀ n,(n,NameKind.free)∈scope.names->∃ c,X.env.cells.lookup n=some c:=λn hm=>I.ok.has n (S.free n hm)
 refine wpAny_comprehension_free (use:=none) rfl hs (ud hcells) S.kind S.names (ai (hi pins s σ H _ I h) λv s1 h1=>ai h1 λitv s2 h2=>?_)
 obtain⟨it,fp,tn,J,H2,rfl,I2,T,st2,f2,W,⟨m0,w0⟩,turn⟩:=h2
 refine ub (RR:=λacc C=>compPost (model X.prog X.w) X.A X.xe none (EP X pins σ Q) acc C) hc S hg ht he I2 T st2 f2 w0 turn λD C s4 H4 I4 fC hn q=>?_
 obtain⟨m,hn⟩:=hn
 refine⟨m,hn,λh' sb=>?_⟩
 obtain⟨f0,f1,f2',f3,f4,f5⟩:=fC
 exact⟨.ref D,H4,I4.turned (t':=s4.toks) (it:=C) (λb o hb e=>sb.extBut b o hb e) f0 f1 f3 f4 f5,rfl,q⟩
theorem yj{wi:TI}{g:TG}{tt:TT}{te:TE}{pos spos py:Pos}{i:Nat}{y:Str}(hN:X.N.Nodup)(hy:X.N[i]? = some y)(hx:fE X.env.scope y)(hc:X.calm=true)(S:cg X Nc nv caps scope)(hi:PI X tg iter wi)
 (hg : ∀ C s H fp,PG (bE X Nc scope C s H fp) tg g) (ht : ∀ C s H fp,iG (bE X Nc scope C s H fp) ifs tt) (he : ∀ C s H fp,PE (bE X Nc scope C s H fp) elt te)
 (hsw:swapsWith (.ListComp elt [⟨tg,iter,ifs,0⟩] scope pos) (some (.Name y py)) spos.line X.env=pure true:=by rfl)
 (hs : ∀ x,foldedSetIterable iter X.env x=pure x:=by intro _; rfl) (hf:X.fn y=true\/X.env.scope.names.lookup y=some .local:=by first | exact .inl rfl | exact .inr rfl | assumption) :
 PS X (.Assign [.Name y py] (.ListComp elt [⟨tg,iter,ifs,0⟩] scope pos) spos) (gy (jB nv caps wi g tt te) (bG i)):=by
 intro pins s σ H D0 I h
 have hcells : ∀ n,(n,NameKind.free)∈scope.names->∃ c,X.env.cells.lookup n=some c:=λn hm=>I.ok.has n (S.free n hm)
 rw[exec_Assign_Name_used _ _ _ _ hsw]
 refine wpAny_bind (wpAny_standAt (wpAny_bind ?_))
 show wpAny _ X.A (do let _ <- comprehension (.ListComp elt [⟨tg,iter,ifs,0⟩] scope pos) scope X.env _ (newList []) false (eval iter X.env) (some (assign (.Name y py) X.env))) _ _ s
 refine wpAny_bind (wpAny_mono (wpAny_comprehension_free (use:=some (assign (.Name y py) X.env)) (Q:=λ_ s'=>SP X pins D0 .next s') rfl hs (ud hcells) S.kind S.names
  (ai (hi pins s σ H _ I h) λv s1 h1=>ai h1 λitv s2 h2=>?_)) (λ_ s' hq=>wpAny_pure (wpAny_pure hq)) λ_ _ e=>e)
 obtain⟨it,fp,tn,J,H2,rfl,I2,T,st2,f2,W,⟨m0,w0⟩,turn⟩:=h2
 refine ub (RR:=λacc C=>compPost (model X.prog X.w) X.A X.xe (some (assign (.Name y py) X.env)) (λ_ s'=>SP X pins D0 .next s') acc C) (Q:=λx H1=>bG i x σ H1 D0.nx) hc S hg ht he I2 T st2 f2 w0 turn λD C s4 H4 I4 fC hn q=>?_
 obtain⟨m,hn⟩:=hn
 obtain⟨f0,f1,f2',f3,f4,f5⟩:=fC
 show wpAny _ X.A (assign (.Name y py) X.env (.ref D)) _ _ _
 refine wpAny_assign_Name (qr I4 hN hy hx (show ar (.ref D) (.ref D) from rfl) (λs5 I5 sb5=>?_) hf)
 obtain⟨a5,sb5,ha5⟩:=sb5
 have hCa:C≠a5:=by
  rcases ha5 with z | z
  ·rw[z]; exact f1
  ·exact λe=>f4 _ _ z e.symm
 refine⟨m,hn.sameBut sb5 hCa,λh' sb=>?_⟩
 exact⟨_,H4,I5.turned (t':=s5.toks) (it:=C) (λb o hb e=>sb.extBut b o hb e) f0 f1 f3 f4 f5,q⟩
end
theorem CK{K:W.Frag}{a:Addr}{xs:List V}{cs:St}{tt:TT}{te:TE}{H:Hp}{Q:VK}(Pv:Nat->List V->Hp->Prop)(h0:Pv 0 [] H)(hl : ∀ i ys H,i<=xs.length->Pv i ys H->az K H a xs/\ys.length<=i)(hz:xs.length<=sizeLine)
 (hs : ∀ i x ys H (N:List V->Hp->Prop),xs[i]? = some x->Pv i ys H->(∀ ys' H',Pv (i+1) ys' H'->N ys' H')->tt (some x :: cs) H λb H4=>if b=true then te (some x :: cs) H4 λy H5=>N (ys++[y]) H5 else N ys H4)
 (hd : ∀ ys H p H',Pv xs.length ys H->aI H p (.lst ys) H'->Q (.ref p) H') :
 fI (gu K a) H (List.replicate 1 none++cs) (bG 0) tt te Q:=by
 refine⟨λi m ys σ H=>m=xs.length - i/\i<=xs.length/\Pv i ys H/\∃ v0,σ=v0 :: cs,⟨xs.length,by simp,Nat.zero_le _,h0,none,rfl⟩,?_⟩
 rintro i m ys σ H2 ⟨rfl,hi,p,v0,rfl⟩
 obtain⟨q,ql⟩:=hl i ys H2 hi p
 by_cases hlt:i < xs.length
 ·refine .inr ⟨⟨xs,xs[i],q,by simp[hlt]⟩,by omega,λys' σ' H'=>Pv (i+1) ys' H'/\∃ v0,σ'=v0 :: cs,λys' σ' H' ⟨p',e⟩=>⟨xs.length - (i+1),by omega,rfl,hlt,p',e⟩,λx H' y=>?_⟩
  obtain⟨e,y⟩:=y
  subst e
  exact hs i x ys H' (λys' H'=>Pv (i+1) ys' H'/\∃ v0,some x :: cs=v0 :: cs) (y xs q) p λ_ _ z=>⟨z,_,rfl⟩
 ·have e:i=xs.length:=by omega
  subst e
  exact .inl ⟨⟨xs,q,Nat.le_refl _⟩,by omega,λp' H' g=>hd ys H2 p' H' p g⟩
theorem CJ{lo:Int}{n:Nat}{cs:St}{tt:TT}{te:TE}{H:Hp}{Q:VK}(Pv:Nat->List V->Hp->Prop)(h0:Pv 0 [] H)(hl : ∀ i ys H,i<=n->Pv i ys H->ys.length<=i)(hz:n<=sizeLine)
 (hs : ∀ i ys H (N:List V->Hp->Prop),i < n->Pv i ys H->(∀ ys' H',Pv (i+1) ys' H'->N ys' H')->tt (some (.int (lo+i)) :: cs) H λb H4=>if b=true then te (some (.int (lo+i)) :: cs) H4 λy H5=>N (ys++[y]) H5 else N ys H4)
 (hd : ∀ ys H p H',Pv n ys H->aI H p (.lst ys) H'->Q (.ref p) H') :
 fI (gk lo n) H (List.replicate 1 none++cs) (bG 0) tt te Q:=by
 refine⟨λi m ys σ H=>m=n - i/\i<=n/\Pv i ys H/\∃ v0,σ=v0 :: cs,⟨n,by simp,Nat.zero_le _,h0,none,rfl⟩,?_⟩
 rintro i m ys σ H2 ⟨rfl,hi,p,v0,rfl⟩
 have ql:=hl i ys H2 hi p
 by_cases hlt:i < n
 ·refine .inr ⟨hlt,by omega,λys' σ' H'=>Pv (i+1) ys' H'/\∃ v0,σ'=v0 :: cs,λys' σ' H' ⟨p',e⟩=>⟨n - (i+1),by omega,rfl,hlt,p',e⟩,λx H' y=>?_⟩
  obtain⟨e,y⟩:=y
  subst e y
  exact hs i ys H' (λys' H'=>Pv (i+1) ys' H'/\∃ v0,some (V.int (lo+i)) :: cs=v0 :: cs) hlt p λ_ _ z=>⟨z,_,rfl⟩
 ·have e:i=n:=by omega
  subst e
  exact .inl ⟨Nat.le_refl _,by omega,λp' H' g=>hd ys H2 p' H' p g⟩
def dW{α:Type}(xs:List α)(lo hi:Option Int):List α:=(xs.drop (HT.sIx xs.length 0 lo)).take (HT.sIx xs.length xs.length hi - HT.sIx xs.length 0 lo)
theorem CD{α β:Type}(f:α->β)(xs:List α)(lo hi:Option Int):dW (xs.map f) lo hi=(dW xs lo hi).map f:=by
 unfold dW
 rw[List.length_map,List.map_take,List.map_drop]
theorem t5{α:Type}(xs:List α)(k:Nat):dW xs none (some (k:Int))=xs.take k:=by
 unfold dW HT.sIx
 simp only [List.drop_zero,Nat.sub_zero]
 have h : ¬ ((k:Int) < 0):=by omega
 rw[if_neg h,Int.toNat_natCast,<- List.take_take,List.take_length]
theorem CF{α:Type}(xs:List α)(k:Nat):dW xs (some (k:Int)) none=xs.drop k:=by
 unfold dW HT.sIx
 have h : ¬ ((k:Int) < 0):=by omega
 dsimp only
 rw[if_neg h,Int.toNat_natCast]
 by_cases hk:k<=xs.length
 ·rw[Nat.min_eq_left hk]
  exact List.take_of_length_le (by simp)
 ·rw[Nat.min_eq_right (by omega),List.drop_length,List.take_nil,List.drop_eq_nil_of_le (by omega)]
theorem ua{α:Type}(xs:List α)(k m:Nat):dW xs (some (k:Int)) (some ((k:Int)+(m:Int)))=(xs.drop k).take m:=by
 unfold dW HT.sIx
 have h : ¬ ((k:Int) < 0):=by omega
 have h' : ¬ ((k:Int)+(m:Int) < 0):=by omega
 have e:((k:Int)+(m:Int)).toNat=k+m:=by omega
 dsimp only
 rw[if_neg h,if_neg h',Int.toNat_natCast,e]
 by_cases hk:k<=xs.length
 ·rw[Nat.min_eq_left hk]
  by_cases hm:k+m<=xs.length
  ·rw[Nat.min_eq_left hm,Nat.add_sub_cancel_left]
  ·rw[Nat.min_eq_right (by omega),List.take_of_length_le (by simp),List.take_of_length_le (by simp; omega)]
 ·rw[Nat.min_eq_right (by omega:xs.length<=k),List.drop_length,List.take_nil,List.drop_eq_nil_of_le (by omega),List.take_nil]
theorem kB(ns:List Int)(lo hi:Option Int):cy (ns.map V.int) lo hi=(dW ns lo hi).map V.int:=CD _ _ _ _
theorem Ci(ns ms:List Int):PyData.eqv (.list (ns.map PyData.int)) (.list (ms.map PyData.int))=decide (ns=ms):=by
 show PyData.eqvAll _ _=_
 exact W.ked_eqvAll ns ms
theorem jc{K:W.Frag}{H:Hp}{a b:Addr}{ns ms:List Int}{neg:Bool}{Q:VK}(h1:az K H a (ns.map V.int))(h2:az K H b (ms.map V.int))(q:Q (.bl (if neg then !decide (ns=ms) else decide (ns=ms))) H) :
 gc K neg (.ref a) (.ref b) H Q:=by
 refine⟨_,_,aZ.lst h1 (cB.ints ns),aZ.lst h2 (cB.ints ms),W.ke_shaped_ints ns,W.ke_shaped_ints ms,?_⟩
 rw[Ci]
 exact q
structure QE (X:Cx) (e:Expr) (t:TE):Prop where
 h:PE X e t
structure QT (X:Cx) (e:Expr) (t:TT):Prop where
 h:PT X e t
structure QW (X:Cx) (e:Expr) (t:TT):Prop where
 h:PW X e t
structure QA (X:Cx) (es:List Expr) (t:TA):Prop where
 h:PA X es t
structure QS (X:Cx) (st:Stmt) (t:TS):Prop where
 h:PS X st t
structure dZ (X:Cx) (st:List Stmt) (t:TS):Prop where
 h:cI X st t
structure QG (X:Cx) (e:Expr) (t:TG):Prop where
 h:PG X e t
structure jk (X:Cx) (es:List Expr) (t:dY):Prop where
 h:jn X es t
structure QI (X:Cx) (tg e:Expr) (t:TI):Prop where
 h:PI X tg e t
structure QO (X:Cx) (e:Option Expr) (t:TO):Prop where
 h:PO X e t
structure kM (X:Cx) (es:List Expr) (t:TT):Prop where
 h:iG X es t
section
variable {X:Cx}{a b c e o:Expr}{es rest:List Expr}{pos p p2:Pos}{ta tb tc te to:TE}{tA tB' tt:TT}{t tk:TA}
theorem aB{i j pos}:QE X (.Constant (.int i) j pos) (tC (.int i)):=⟨jU⟩
theorem fT{b j pos}:QE X (.Constant (.bool b) j pos) (tC (.bl b)):=⟨rE⟩
theorem jO{j pos}:QE X (.Constant .none j pos) (tC .non):=⟨rD⟩
theorem h9{x j pos}:QE X (.Constant (.str x) j pos) (tC (.str x)):=⟨rC⟩
theorem ab(i:Nat){x:Str}(hN:X.N[i]? = some x:=by rfl)(hv:iC X.env.scope x:=by first | exact Or.inl rfl | exact Or.inr (Or.inl rfl) | exact Or.inr (Or.inr rfl))(hd:(x == ("__debug__" : Str))=false:=by decide)
 (hcd:(x == ("__classdict__" : Str))=false:=by decide):QE X (.Name x pos) (mV i):=⟨vv i hN hv hd hcd⟩
theorem dS{x:Str}{n:Int}{u:Tok}(hm:X.mg x=some (.int n u))(hg:Gl X x:=by rfl)(hd:(x == ("__debug__" : Str))=false:=by decide):QE X (.Name x pos) (tC (.int n)):=⟨gi hm hg hd⟩
theorem iZ {x:Str} {T:String} (hg:Gl X x) (hm:X.mg x=none) (hv:bootBuiltins x=some (.type T)) (hn:x ≠ "__name__":=by decide) (hd:(x == ("__debug__" : Str))=false:=by decide):QE X (.Name x pos) (tC (.ty T)):=⟨Dm hg hm hv hn hd⟩
theorem qU{j:Int}{k:Nat}(ha:QE X a ta)(hj:0 < j/\j < 1073741824:=by decide):QE X (.BinOp a .FloorDiv (.Constant (.int j) k p) pos) (sh j ta):=⟨zS ha.h hj⟩
theorem jP{j:Int}{k:Nat}(ha:QE X a ta)(hj:0 < j:=by decide):QE X (.BinOp a .Mod (.Constant (.int j) k p) pos) (se j ta):=⟨zQ ha.h hj⟩
theorem di{op:Operator}{r:R2}(ho:aF X (binaryOp op) r)(ha:QE X a ta)(hb:QE X b tb):QE X (.BinOp a op b pos) (de r ta tb):=⟨yP ho ha.h hb.h⟩
theorem qT(ha:QE X a ta):QE X (.UnaryOp .Not a pos) (sd ta):=⟨zP ha.h⟩
theorem dk(ha:QE X a ta)(hb:QE X (.BoolOp .And (b :: rest) pos) tb):QE X (.BoolOp .And (a :: b :: rest) pos) (sj ta tb):=⟨zV ha.h hb.h⟩
theorem iV(ha:QE X a ta)(hb:QE X (.BoolOp .Or (b :: rest) pos) tb):QE X (.BoolOp .Or (a :: b :: rest) pos) (r9 ta tb):=⟨zO ha.h hb.h⟩
theorem cQ{op}(h:QE X a ta):QE X (.BoolOp op [a] pos) ta:=⟨yQ h.h⟩
theorem dj{op:CmpOp}{r:R2}(ho:aF X (compareOp op) r)(ha:QE X a ta)(hb:QE X b tb)(hm:behindInMarks op b=false):QE X (.Compare a [op] [b] pos) (de r ta tb):=⟨y6 ho ha.h hb.h hm⟩
theorem iW{op op':CmpOp}{r r':R2}(ho:aF X (compareOp op) r)(ho':aF X (compareOp op') r')(ha:QE X a ta)(hb:QE X b tb)(hc:QE X c tc)
 (hm:lastMarks [op,op'] [b,c]=false:=by with_unfolding_all rfl):QE X (.Compare a [op,op'] [b,c] pos) (jX r r' ta tb tc):=⟨zU ho ho' ha.h hb.h hc.h hm⟩
theorem xJ(hc:QT X c tA)(ha:QE X a ta)(hb:QE X b tb):QE X (.IfExp c a b pos) (qe tA ta tb):=⟨yV hc.h ha.h hb.h⟩
theorem i3(h:QW X e tt):QT X e tt:=⟨PW.pt h.h⟩
theorem qO(ha:QT X a tA):QW X (.BoolOp .And [a] pos) tA:=⟨xZ ha.h⟩
theorem lK(ha:QT X a tA):QW X (.BoolOp .Or [a] pos) tA:=⟨xX ha.h⟩
theorem lL(ha:QT X a tA)(hb:QW X (.BoolOp .And (b :: rest) pos) tB'):QW X (.BoolOp .And (a :: b :: rest) pos) (jC tA tB'):=⟨x3 ha.h hb.h⟩
theorem jM(ha:QT X a tA)(hb:QW X (.BoolOp .Or (b :: rest) pos) tB'):QW X (.BoolOp .Or (a :: b :: rest) pos) (pW tA tB'):=⟨xY ha.h hb.h⟩
theorem fQ(ha:QT X a tA):QT X (.UnaryOp .Not a pos) (pX tA):=⟨ye ha.h⟩
theorem bJ{op:CmpOp}{r:R2}(ho:aF X (compareOp op) r)(ha:QE X a ta)(hb:QE X b tb)(hm:behindInMarks op b=false):QT X (.Compare a [op] [b] pos) (mB (de r ta tb)):=⟨zz ho ha.h hb.h hm⟩
theorem xO{op op':CmpOp}{r r':R2}(ho:aF X (compareOp op) r)(ho':aF X (compareOp op') r')(ha:QE X a ta)(hb:QE X b tb)(hc:QE X c tc)
 (hm:lastMarks [op,op'] [b,c]=false:=by with_unfolding_all rfl):QT X (.Compare a [op,op'] [b,c] pos) (mB (jX r r' ta tb tc)):=⟨zA ho ho' ha.h hb.h hc.h hm⟩
theorem ic(h:QE X e te)(he : ∀ whole,isTrue e X.env whole=(do let v <- whole; standAt e.pos; holding [v] (truthy v)):=by intro _; rfl):QT X e (mB te):=⟨zw h.h he⟩
theorem xN(h:QE X e te)(he : ∀ whole,isTrue e X.env whole=(do let v <- whole; standAt e.pos; holding [v] (truthy v)):=by intro _; rfl):QT X e (mo X.K te):=⟨zx h.h he⟩
theorem ag:QA X [] jx:=⟨rF⟩
theorem ae(ha:QE X e te)(hr:QA X es t)(hs:dG e=false:=by rfl):QA X (e :: es) (k9 te t):=⟨rH ha.h hr.h hs⟩
theorem lW{vs:List V}(h:kF es=some vs):QA X es (qp vs):=⟨rG h⟩
theorem cR(h:QA X es t):QE X (.List es pos) (sf t):=⟨zR h.h⟩
theorem cv{x1}(h:QA X es t):QE X (.Tuple es x1 pos) (r0 t):=⟨zN h.h⟩
theorem lX:QE X (.Dict [] [] pos) si:=⟨zT⟩
theorem dC:QO X none pY:=⟨yA⟩
theorem cD(h:QE X e te):QO X (some e) (pV te):=⟨yz h.h⟩
theorem cP{r:V->Option Int->Option Int->Hp->VK->Prop}{lo hi:Option Expr}{tl th:TO}(hr:fx X r)(he:QE X e te)(hl:QO X lo tl)(hu:QO X hi th):QE X (.Subscript e (.Slice lo hi none p2) pos) (pT r te tl th):=⟨yO hr he.h hl.h hu.h⟩
theorem be{r:R2}(hr:cZ X r)(ha:QE X a ta)(hb:QE X b tb)(hs:ux b):QE X (.Subscript a b pos) (de r ta tb):=⟨yU hr ha.h hb.h hs⟩
section
variable {k j:Nat}{f:Addr}{fd:FuncData}{ps:List Str}{sp:Sp}{x:Str}
theorem aX(F:bi X.prog X.w X.K X.mg X.base x j f fd ps sp)(hr:aP k X.A)(ha:QA X (e :: es) t)(hj:j<=k:=by decide)(hg:Gl X x:=by rfl)
 (hdb:(x == ("__debug__" : Str))=false:=by decide) (hn:cn (e :: es)=true:=by rfl):QE X (.Call (.Name x p) (e :: es) [] pos) (la sp [] E0 t):=⟨C0 F hr ha.h hj hg hdb hn⟩
theorem bj{id:String}{r:List V->Hp->VK->Prop}(hc:bd X (.builtin id) r)(hm:X.mg x=none)(hv:bootBuiltins x=some (.builtin id))(ha:QA X (e :: es) t)(hg:Gl X x:=by rfl)(hx:x ≠ "__name__":=by decide)(hdb:(x == ("__debug__" : Str))=false:=by decide)
 (hn:cn (e :: es)=true:=by rfl):QE X (.Call (.Name x p) (e :: es) [] pos) (gx r t):=⟨CZ hc hm hv ha.h hg hx hdb hn⟩
theorem dE{T:String}{r:List V->Hp->VK->Prop}(hc:bd X (.type T) r)(hm:X.mg x=none)(hv:bootBuiltins x=some (.type T))(ha:QA X (e :: es) t)(hg:Gl X x:=by rfl)(hx:x ≠ "__name__":=by decide)(hdb:(x == ("__debug__" : Str))=false:=by decide)
 (hn:cn (e :: es)=true:=by rfl):QE X (.Call (.Name x p) (e :: es) [] pos) (gx r t):=⟨CY hc hm hv ha.h hg hx hdb hn⟩
end
section
variable {name:Str}{apos cpos:Pos}{T id:String}{r:V->List V->Hp->VK->Prop}
theorem xL (pa:PlainAttrs T) (slot:Slot T name id) (hty:typeOf (.builtin id)=pure (.type "method_descriptor")) (hm:fB X id r) (ho:QE X o to)
 (hbase:attributeBase o name X.env (eval o X.env)=eval o X.env:=by rfl) (hline:(apos.endLine == cpos.line)=true:=by rfl):QE X (.Call (.Attribute o name apos) [] [] cpos) (lf X.K T r to):=⟨za pa slot hty hm ho.h hbase hline⟩
theorem rW{env:Env}{pos:Pos} : ∀ {es:List Expr},cn es=true->(backTo pos (starEach es env)).all (λx=>!x.1)=true
 | [],_=>rfl
 | e :: r,h=>by
  obtain⟨h1,h2⟩:=cT h
  rw[dB h1]
  show (!false && (backTo pos (starEach r env)).all (λx=>!x.1))=true
  rw[rW h2]
  rfl
theorem xM (pa:PlainAttrs T) (slot:Slot T name id) (hty:typeOf (.builtin id)=pure (.type "method_descriptor")) (hm:fB X id r) (ho:QE X o to) (ha:QA X (e :: es) t)
 (hbase:attributeBase o name X.env (eval o X.env)=eval o X.env:=by rfl) (hn:cn (e :: es)=true:=by rfl) (hf:decide ((e :: es).length+0+0 < 30)=true:=by rfl)
 (hline:(apos.endLine == cpos.line)=true:=by rfl):QE X (.Call (.Attribute o name apos) (e :: es) [] cpos) (lg X.K T r to t) :=
 ⟨zb pa slot hty hm ho.h ha.h hbase (by rw[rW hn]; exact hf) hline (dB (cT hn).1) (fU (cT hn).2)⟩
end
section
variable {st:Stmt}{sts ss2:List Stmt}{s t1 u1:TS}{tg it:Expr}{g:TG}{gs:dY}{wi:TI}
theorem bZ:dZ X [] jy:=⟨yg⟩
theorem aw(h1:QS X st t1)(h2:dZ X sts u1):dZ X (st :: sts) (kZ t1 u1):=⟨yh h1.h h2.h⟩
theorem av(h1:QS X st t1):dZ X [st] t1:=⟨yf h1.h⟩
theorem lR:QS X st pZ:=⟨yp⟩
theorem aT(he:QE X e te):QS X (.Return (some e) pos) (pU te):=⟨yo he.h⟩
theorem eC(he:QE X e te)(hs:swapsWith e none pos.line X.env=pure false:=by rfl):QS X (.Expr e pos) (qk te):=⟨yu he.h hs⟩
theorem ca(hc:QT X c tA)(ha:dZ X sts t1)(hb:dZ X ss2 u1):QS X (.If c sts ss2 pos) (jA tA t1 u1):=⟨yq hc.h ha.h hb.h⟩
theorem aS{i:Nat}{x:Str}{pos':Pos}(hN:X.N.Nodup)(hi:X.N[i]? = some x)(hx:fE X.env.scope x)(he:QE X e te)(hs:swapsWith e (some (.Name x pos')) pos.line X.env=pure false:=by rfl)(hf:X.fn x=true\/X.env.scope.names.lookup x=some .local:=by first | exact .inl rfl | exact .inr rfl | assumption) :
 QS X (.Assign [.Name x pos'] e pos) (gy te (bG i)):=⟨yn hN hi hx he.h hs hf⟩
theorem xF(he:QE X e te)(hg:QG X tg g)(hs:swapsWithSole [tg] e pos.line X.env=pure false:=by rfl)(hw:swappedStores [tg] e X.env=pure none:=by rfl)
 (h1:(assignEach [tg] X.env).map (·.2)=[assign tg X.env]:=by rfl):QS X (.Assign [tg] e pos) (gy te g):=⟨yx he.h hg.h hs hw h1⟩
theorem aE{i:Nat}{x:Str}(hN:X.N.Nodup)(hi:X.N[i]? = some x)(hx:fE X.env.scope x)(hf:X.fn x=true\/X.env.scope.names.lookup x=some .local:=by first | exact .inl rfl | exact .inr rfl | assumption):QG X (.Name x pos) (bG i):=⟨yL hN hi hx hf⟩
theorem cN:jk X [] jb:=⟨yI⟩
theorem bn(h1:QG X e g)(h2:jk X es gs)(hs:(assignEach (e :: es) X.env).map (·.2)=assign e X.env :: (assignEach es X.env).map (·.2):=by rfl):jk X (e :: es) (fj g gs):=⟨yJ h1.h h2.h hs⟩
theorem xI{k n:Nat}(hc:X.calm=true)(h:jk X es gs)(hn:(assignEach es X.env).length=n:=by rfl)(hst:(assignEach es X.env).findIdx? (·.1)=none:=by rfl):QG X (.Tuple es k pos) (iz X.K n gs):=⟨yK hc h.h hn hst⟩
theorem xH{l:Expr}{tl:TE}(hl:QE X l tl):QI X tg l (mH X.K tl):=⟨yF hl.h⟩
theorem fR (hg:Gl X "range") (hm:X.mg "range" = none) (ha:QA X [a] t) (hs:dG a=false:=by rfl):QI X tg (.Call (.Name "range" p) [a] [] pos) (sQ t):=⟨yE hg hm ha.h (dB hs)⟩
theorem bB{body:List Stmt}{tb1:TS}(hp:PassesOwn (model X.prog X.w) X.A X.env X.xe)(hc:X.calm=true)(hi:QI X tg it wi)(hg:QG X tg g)(hb:dZ X body tb1)
 (hs : ∀ x,foldedSetIterable it X.env x=pure x:=by intro _; rfl):QS X (.For tg it body [] pos) (qf wi g tb1):=⟨yr hp hc hi.h hg.h hb.h hs⟩
theorem lO{body:List Stmt}{tb1:TS}(hp:PassesOwn (model X.prog X.w) X.A X.env X.xe)(hc:QT X c tA)(hb:dZ X body tb1):QS X (.While c body [] pos) (pQ tA tb1):=⟨yi hp hc.h hb.h⟩
theorem fP:kM X [] eZ:=⟨x9⟩
theorem lN(h:QT X c tA):kM X [c] tA:=⟨x8 h.h⟩
theorem fS{scope:Scope}{Nc:List Str}{nv:Nat}{caps:List Nat}{ifs:List Expr}(hc:X.calm=true)(S:cg X Nc nv caps scope)(hi:QI X tg it wi)
 (hg : ∀ C s H fp,QG (bE X Nc scope C s H fp) tg g) (ht : ∀ C s H fp,kM (bE X Nc scope C s H fp) ifs tt) (he : ∀ C s H fp,QE (bE X Nc scope C s H fp) e te)
 (hs : ∀ x,foldedSetIterable it X.env x=pure x:=by intro _; rfl):QE X (.ListComp e [⟨tg,it,ifs,0⟩] scope pos) (jB nv caps wi g tt te) :=
 ⟨y4 hc S hi.h (λC s H fp=>(hg C s H fp).h) (λC s H fp=>(ht C s H fp).h) (λC s H fp=>(he C s H fp).h) hs⟩
theorem lQ{scope:Scope}{Nc:List Str}{nv:Nat}{caps:List Nat}{ifs:List Expr}{spos py:Pos}{i:Nat}{y:Str}(hN:X.N.Nodup)(hy:X.N[i]? = some y)(hx:fE X.env.scope y)(hc:X.calm=true)(S:cg X Nc nv caps scope)(hi:QI X tg it wi)
 (hg : ∀ C s H fp,QG (bE X Nc scope C s H fp) tg g) (ht : ∀ C s H fp,kM (bE X Nc scope C s H fp) ifs tt) (he : ∀ C s H fp,QE (bE X Nc scope C s H fp) e te)
 (hsw:swapsWith (.ListComp e [⟨tg,it,ifs,0⟩] scope pos) (some (.Name y py)) spos.line X.env=pure true:=by rfl)
 (hs : ∀ x,foldedSetIterable it X.env x=pure x:=by intro _; rfl) (hf:X.fn y=true\/X.env.scope.names.lookup y=some .local:=by first | exact .inl rfl | exact .inr rfl | assumption) :
 QS X (.Assign [.Name y py] (.ListComp e [⟨tg,it,ifs,0⟩] scope pos) spos) (gy (jB nv caps wi g tt te) (bG i)) :=
 ⟨yj hN hy hx hc S hi.h (λC s H fp=>(hg C s H fp).h) (λC s H fp=>(ht C s H fp).h) (λC s H fp=>(he C s H fp).h) hsw hs hf⟩
end
end
section
variable {X:Cx}{K:W.Frag}{a b c e o:Expr}{es rest:List Expr}{pos p p2:Pos}{ta tb tc te to:TE}{tA tB' tt:TT}{t tk:TA}
theorem bh(h:X.K=K):cZ X (tz K):=by subst h; exact BH
theorem dH(h:X.K=K):fx X (tw K):=by subst h; exact BE
theorem dI(h:X.K=K):aF X (binaryOp .Add) (tE K):=by subst h; exact B0
theorem du(h:X.K=K)(hu:X.A.units+64 < cLine):aF X (compareOp .Eq) (gc K false):=by subst h; exact BS hu
theorem gb(h:X.K=K)(hu:X.A.units+64 < cLine):aF X (compareOp .NotEq) (gc K true):=by subst h; exact BG hu
theorem cz (h:X.K=K):bd X (.builtin "len") (mR K):=by subst h; exact Db
theorem jf (h:X.K=K):bd X (.type "list") (mQ K):=by subst h; exact C9
theorem kJ (h:X.K=K):bd X (.type "tuple") (mO K):=by subst h; exact C1
theorem ug (h:X.K=K) (hc:X.calm=true):bd X (.builtin "all") (mW K false):=by subst h; exact Dd hc
theorem jg (h:X.K=K):bd X (.builtin "isinstance") (mT K):=by subst h; exact Dc
theorem qR(h:X.K=K)(q:QE X e te)(he : ∀ whole,isTrue e X.env whole=(do let v <- whole; standAt e.pos; holding [v] (truthy v)):=by intro _; rfl):QT X e (mo K te):=by subst h; exact xN q he
theorem dD{tg l:Expr}{tl:TE}(h:X.K=K)(hl:QE X l tl):QI X tg l (mH K tl):=by subst h; exact xH hl
theorem cO{k n:Nat}{gs:dY}(h:X.K=K)(hc:X.calm=true)(q:jk X es gs)(hn:(assignEach es X.env).length=n:=by rfl)(hst:(assignEach es X.env).findIdx? (·.1)=none:=by rfl):QG X (.Tuple es k pos) (iz K n gs):=by subst h; exact xI hc q hn hst
theorem ib {name:Str} {apos cpos:Pos} {T id:String} {r:V->List V->Hp->VK->Prop} (h:X.K=K) (pa:PlainAttrs T) (slot:Slot T name id) (hty:typeOf (.builtin id)=pure (.type "method_descriptor")) (hm:fB X id r) (ho:QE X o to) (ha:QA X (e :: es) t)
 (hbase:attributeBase o name X.env (eval o X.env)=eval o X.env:=by rfl) (hn:cn (e :: es)=true:=by rfl) (hf:decide ((e :: es).length+0+0 < 30)=true:=by rfl)
 (hline:(apos.endLine == cpos.line)=true:=by rfl):QE X (.Call (.Attribute o name apos) (e :: es) [] cpos) (lg K T r to t):=by subst h; exact xM pa slot hty hm ho ha hbase hn hf hline
theorem xK {name:Str} {apos cpos:Pos} {T id:String} {r:V->List V->Hp->VK->Prop} (h:X.K=K) (pa:PlainAttrs T) (slot:Slot T name id) (hty:typeOf (.builtin id)=pure (.type "method_descriptor")) (hm:fB X id r) (ho:QE X o to)
 (hbase:attributeBase o name X.env (eval o X.env)=eval o X.env:=by rfl) (hline:(apos.endLine == cpos.line)=true:=by rfl):QE X (.Call (.Attribute o name apos) [] [] cpos) (lf K T r to):=by subst h; exact xL pa slot hty hm ho hbase hline
end
theorem aR.okQ{P:Program}{w:World}{K:W.Frag}{mg:Str->Option Value}{base:Heap}{x qual:Str}{st:Stmt}{f:Addr}{fd:FuncData}{N ps:List Str}{k:Nat}{sp:Sp}(F:aR K x qual st f fd)(S:aU N ps (ao st))(len : ∀ vs H Q E,sp vs H Q E->vs.length=ps.length)
 (hbody : ∀ (cdv:Value) (A:Around) (outer:List Env) (s:Shared) (H:Hp) (vs:List V) (Q:VK) (E:XK),aP k (A.deeper (envOfC qual (ao st) s.heap.objs.size f cdv))->sp vs H Q E ->
   ∃ t,dZ (fq bY P w K mg base N qual (ao st) f cdv A outer s H E).nox (aL st) t/\t { nx:=λ_ H'=>Q .non H',rt:=Q } (dQ N vs) H):bw P w K mg base bY (k+1) f fd ps sp :=
 F.ok S len λcdv A outer s H vs Q E hr h=>let ⟨t,q,r⟩:=hbody cdv A outer s H vs Q E hr h; ⟨t,q.h,r⟩
section
variable {X:Cx}{pins:List (Addr × Obj)}{σ:St}{H:Hp}{s:Shared}{h':Heap}
theorem ad.turnedL{t':Nat}{fp:List Addr}(I:ad X pins σ H s)(k : ∀ b o,b∉fp->s.heap.get? b=some o->h'.get? b=some o)(hf : ∀ b∈fp,c6 X pins H b):ad X pins σ H { s with heap:=h',toks:=t' }:=by
 have nit : ∀ b u,H b=some u->b∉fp:=λb u e z=>by rw[(hf b z).1]at e; cases e
 refine I.step (g':=s.gens) (d':=s.drawn) (ch:=fp) (λb hb=>?_) (λb o _ _ hc e _=>k b o hc e) (λb o _ _ hc e _=>⟨o.slots,k b o hc e⟩) (λ_ _ _ _ n=>n) (λb o hc e=>⟨o,k b o hc e⟩) (λ_ _ e=>e) (λ_ _ _ e=>e) (λb ps e=>⟨#[],by rw[e]; simp⟩) (λm hm=>?_) (λb u e=>?_) I.bare
 ·obtain⟨f0,f1,f2,f3,f4,f5⟩:=hf b hb
  exact⟨f3,f1,f4,f5⟩
 ·obtain⟨o,es,ep,ho,r⟩:=hm
  exact⟨o,es,ep,k _ o (λz=>(hf _ z).2.1 rfl) ho,r⟩
 ·refine (I.hok b u e).stay (λc v hc q=>k c v ?_ q) (λ_ q=>q) λ_ _ q=>q
  rcases hc with z | z
  ·rw[z]; exact nit b u e
  ·exact nit c _ z
theorem ad.turnedN{t':Nat}{fp:List Addr}{T:Addr}{ob:HO}(I:ad X pins σ H s)(k : ∀ b o,b∉fp->s.heap.get? b=some o->h'.get? b=some o)(hf : ∀ b∈fp,c6 X pins H b)(hT:s.heap.objs.size<=T)
 (new:aH X.prog X.w (upd H T ob) h' T ob):ad X pins σ (upd H T ob) { s with heap:=h',toks:=t' }:=by
 have I1:ad X pins σ H { s with heap:=h',toks:=t' }:=I.turnedL k hf
 have hn:H T=none:=I.hok.fresh hT
 have ne : ∀ b u,H b=some u->b≠T:=λb u e z=>by rw[z,hn]at e; cases e
 refine I.step (g':=s.gens) (d':=s.drawn) (ch:=fp) (λb hb=>?_) (λb o _ _ hc e _=>k b o hc e) (λb o _ _ hc e _=>⟨o.slots,k b o hc e⟩) (λb o _ e n=>?_) (λb o hc e=>⟨o,k b o hc e⟩) (λb xs e=>by rw[aj (ne b _ e)]; exact e) (λb o u e=>by rw[aj (ne b _ e)]; exact e) (λb ps e=>⟨#[],by rw[aj (ne b _ e),e]; simp⟩) (λm hm=>?_) (I1.hok.adopt hn new) I.bare
 ·obtain⟨f0,f1,f2,f3,f4,f5⟩:=hf b hb
  exact⟨f3,f1,f4,f5⟩
 ·rw[aj (λz=>absurd (Nat.lt_of_lt_of_le (Heap.lt_size e) (by rw[z]; exact hT)) (Nat.lt_irrefl _))]
  exact n
 ·obtain⟨o,es,ep,ho,r⟩:=hm
  exact⟨o,es,ep,k _ o (λz=>(hf _ z).2.1 rfl) ho,r⟩
end
def gv(K:W.Frag)(a:Addr):It :=
 ⟨λi H=>∃ xs x,az K H a xs/\xs[i]? = some x,λi H x H'=>∃ p v,x=.ref p/\(∀ xs,az K H a xs->xs[i]? = some v)/\aI H p (.tup [.int (i:Int),v]) H',λi H=>∃ xs,az K H a xs/\xs.length<=i⟩
theorem mf{P:Program}{w:World}{H:Hp}{h:Heap}{T:Addr}{v1 v2:V}{u1 u2:Value}(hT:h.IsTuple T #[u1,u2])(r1:ar v1 u1)(r2:ar v2 u2):aH P w (upd H T (.tup [v1,v2])) h T (.tup [v1,v2]):=by
 refine⟨sz rfl,[u1,u2],.cons r1 (.cons r2 .nil),?_⟩
 exact hT
theorem vH{P:Program}{w:World}{K:W.Frag}{es:List Expr}{kk:Nat}{pp:Pos}(a e it:Addr)(hei:e≠it):dX P w K (.Tuple es kk pp) (gv K a) [e,it] e (λi h=>(∃ old,IsEnum h e it i old)/\h.IsListIter it a i) where
 mem:=by simp
 obj:=λi h st b hb=>by
  obtain⟨⟨old,h1⟩,o,e2,c,d⟩:=st
  have hb':b=e\/b=it:=by simpa using hb
  rcases hb' with z | z
  ·subst z
   exact⟨_,h1,λv z=>by cases (show Data.fields _=Data.cell v from z)⟩
  ·subst z
   exact⟨o,e2,λv z=>by rw[d]at z; cases z⟩
 keep:=λi h h' st k=>by
  obtain⟨⟨old,h1⟩,h2⟩:=st
  exact⟨⟨old,k e (by simp) _ h1⟩,h2.at λo x=>k it (by simp) o x⟩
 item:=by
  intro X hP hw hK hc i pins s σ H E I hf st hg
  subst hP hw hK
  obtain⟨⟨old,h1⟩,h2⟩:=st
  obtain⟨xs,x,hq,hx⟩:=hg
  obtain⟨its,rv,p,hz⟩:=I.list hq
  obtain⟨u,hu,ru⟩:=rv.get hx
  have helt:e < s.heap.objs.size:=Heap.lt_size h1
  have hilt:it < s.heap.objs.size:=by obtain⟨_,z,_⟩:=h2; exact Heap.lt_size z
  refine wpAny_pyNext_enum_item h1 h2 p.isList (x:=u) (by simpa using hu) hei λh' ho hit' hT hsz hk=>?_
  refine⟨_,rfl,wpAny_letOwnedTupleGo_enum (s:={ s with heap:=h',toks:=s.toks+1 }) ho λh'' he' hs'=>?_⟩
  have hTe:s.heap.objs.size≠e:=Nat.ne_of_gt helt
  have hT2:h''.get? s.heap.objs.size=some { cls:=.type "tuple",data:=.seq #[.int i s.toks,u] }:=(hs'.2 _ hTe).trans hT
  have I2:ad X pins σ (upd H s.heap.objs.size (.tup [.int (i:Int),x])) { s with heap:=h'',toks:=s.toks+1 }:=by
   refine I.turnedN (fp:=[e,it]) (λb o hb eo=>?_) hf (Nat.le_refl _) (mf ⟨_,hT2,rfl,_,rfl⟩ ⟨_,rfl⟩ ru)
   have hbe:b≠e:=λz=>hb (by simp[z])
   have hbi:b≠it:=λz=>hb (by simp[z])
   exact (hs'.2 b hbe).trans (hk b o hbe hbi eo)
  refine⟨.ref s.heap.objs.size,_,I2,rfl,⟨_,x,rfl,λys hy=>by rw[I.list_inj hy hq]; exact hx,.mk' I.fresh⟩,⟨⟨_,by simpa using he'⟩,hit'.at λo y=>(hs'.2 it hei.symm).trans y⟩,λb hb=>?_⟩
  have hb':b=e\/b=it:=by simpa using hb
  rw[aj (by rcases hb' with z | z <;> (rw[z]; first | exact Nat.ne_of_lt helt | exact Nat.ne_of_lt hilt))]
  exact (hf b hb).1
 done:=by
  intro X hP hw hK hc i pins s σ H E I hf st hg
  subst hP hw hK
  obtain⟨⟨old,h1⟩,h2⟩:=st
  obtain⟨xs,hq,hx⟩:=hg
  obtain⟨its,rv,p,hz⟩:=I.list hq
  have hl:=rv.length
  refine wpAny_pyNext_enum_end (I.ok.hd hc) h1 h2 p.isList (by simp; omega) λh' eb=>⟨rfl,I.turnedL (t':=s.toks) (fp:=[e,it]) (λb o hb eo=>eb b o (λz=>hb (by simp[z])) eo) hf⟩
 self:=λ_ _ _ _ _ st h=>wpAny_pyIter_enum st.1.choose_spec h
def sS(K:W.Frag)(ta:TA):TI:=λσ H R=>ta σ H λvs H1=>∃ a xs,vs=[.ref a]/\az K H1 a xs/\R (gv K a) H1
section
variable {X:Cx}{tg:Expr}{es:List Expr}{kk:Nat}{pp:Pos}
theorem yH {a:Expr} {ta:TA} {p pos:Pos} (hg:Gl X "enumerate") (hm:X.mg "enumerate" = none) (ha:PA X [a] ta) (hs:starEach [a] X.env=[(false,eval a X.env)]:=by rfl):PI X (.Tuple es kk pp) (.Call (.Name "enumerate" p) [a] [] pos) (sS X.K ta):=by
 intro pins s σ H R I h
 refine Call_ (fX I hg hm boot_enumerate (PyProof.Rows.callWith_type1 (ai (ha pos pins s σ H _ I h) λus s1 ⟨vs,H1,I1,r1,q1⟩=>?_) hs rfl))
 obtain⟨l,xs,e,hq,q⟩:=q1
 subst e
 cases r1 with
 | cons r rr =>
  cases rr
  cases r
  obtain⟨its,rv,pl,hz⟩:=I1.list hq
  refine call_enumerate_list pl.isList λh' he hit hsz hk=>?_
  refine wpAny_pyIter_enum (s:={ s1 with heap:=h' }) he ?_
  have I2:ad X pins σ H1 { s1 with heap:=h' }:=I1.kept (t':=s1.toks) hk
  refine⟨s1.heap.objs.size+1,[s1.heap.objs.size+1,s1.heap.objs.size],_,gv X.K l,H1,rfl,I2,vH l _ _ (Nat.succ_ne_self _),⟨⟨_,he⟩,hit⟩,λb hb=>?_,q⟩
  have hb':b=s1.heap.objs.size+1\/b=s1.heap.objs.size:=by simpa using hb
  have hle:s1.heap.objs.size<=b:=by
   rcases hb' with z | z
   ·rw[z]; exact Nat.le_succ _
   ·rw[z]; exact Nat.le_refl _
  exact I1.fpOk hle (I1.hok.fresh hle)
end
section
variable {X:Cx}{tg:Expr}
theorem tG{K:W.Frag}{a:Addr}{xs:List V}{g:TG}{tb:TS}{D:cG}{σ:St}{H:Hp}(Pv:Nat->St->Hp->Prop)(h0:Pv 0 σ H)(hl : ∀ i σ H,i<=xs.length->Pv i σ H->az K H a xs)
 (hs : ∀ i x p σ H H',xs[i]? = some x->Pv i σ H->aI H p (.tup [.int (i:Int),x]) H'->g (.ref p) σ H' λσ2 H2=>tb { D with nx:=Pv (i+1),ct:=Pv (i+1),bk:=D.nx } σ2 H2) (hd : ∀ σ H,Pv xs.length σ H->D.nx σ H) :
 ∃ W:Nat->Nat->St->Hp->Prop,(∃ m,W 0 m σ H)/\∀ i m σ H,W i m σ H ->
  ((gv K a).stop i H/\D.nx σ H)\/((gv K a).go i H/\∃ N:St->Hp->Prop,(∀ σ' H',N σ' H'->∃ m',m' < m/\W (i+1) m' σ' H')/\∀ x H',(gv K a).yld i H x H'->g x σ H' λσ2 H2=>tb { D with nx:=N,ct:=N,bk:=D.nx } σ2 H2):=by
 refine⟨λi m σ H=>m=xs.length - i/\i<=xs.length/\Pv i σ H,⟨xs.length,by simp,Nat.zero_le _,h0⟩,?_⟩
 rintro i m σ H ⟨rfl,hi,p⟩
 have q:=hl i σ H hi p
 by_cases hlt:i < xs.length
 ·refine .inr ⟨⟨xs,xs[i],q,by simp[hlt]⟩,Pv (i+1),λσ' H' p'=>⟨xs.length - (i+1),by omega,rfl,hlt,p'⟩,λx H' y=>?_⟩
  obtain⟨pp,v,rfl,y,gr⟩:=y
  exact hs i v pp σ H H' (y xs q) p gr
 ·have e:i=xs.length:=by omega
  subst e
  exact .inl ⟨⟨xs,q,Nat.le_refl _⟩,hd σ H p⟩
end
def mP(K:W.Frag):List V->Hp->VK->Prop:=λxs H Q=>match xs with
 | [.ref p]=>∃ ns:List Int,az K H p (ns.map V.int)/\Q (.int ns.sum) H
 | _=>False
theorem rp(ns:List Int) : ∀ k,k<=ns.length->preSum (λi=>(ns[i]?).getD 0) k=(ns.take k).sum
 | 0,_=>by simp[preSum]
 | k+1,h=>by
  have hk:k < ns.length:=by omega
  rw[preSum,rp ns k (by omega),<- List.take_append_getElem hk,List.sum_append]
  simp[List.getElem?_eq_getElem hk]
theorem C3 {X:Cx} (hc:X.calm=true):bd X (.builtin "sum") (mP X.K):=by
 intro pins s σ H xs us Q I r q
 unfold mP at q
 split at q
 ·rename_i p
  obtain⟨ns,hq,q⟩:=q
  obtain⟨u,rfl,rx⟩:=fJ r
  cases rx
  obtain⟨its,rv,pl,_⟩:=I.list hq
  have hl:=rv.length
  rw[List.length_map]at hl
  have hlt:p < s.heap.objs.size:=by
   obtain⟨o,n,e,_⟩:=pl
   exact Heap.lt_size e
  have hne:p≠s.heap.objs.size:=Nat.ne_of_lt hlt
  refine call_sum_walkG (wpAny_pyIter_list pl.isList ⟨s.heap.objs.size,_,_,_,_,_,λi=>(ns[i]?).getD 0,rfl,Walks.list (A:=X.A.in1) (show X.A.in1.handled=none from I.ok.hd hc) s.heap.objs.size p hne its.toArray,⟨⟨_,Heap.get?_push_size _ rfl,rfl,rfl⟩,?_⟩,λb hb=>?_,λi v hv=>?_,λh' tk t' k=>?_⟩)
  ·exact pl.isList.at λo e=>Heap.get?_push_of_some _ e
  ·have hb':b=s.heap.objs.size\/b=p:=by simpa using hb
   show b < (s.heap.push _).objs.size
   rw[Heap.size_push]
   rcases hb' with z | z
   ·rw[z]; exact Nat.lt_succ_self _
   ·rw[z]; exact Nat.lt_succ_of_lt hlt
  ·have hi:i < its.length:=by
    have:=(Array.getElem?_eq_some_iff.mp hv).1
    simpa using this
   have hb:i < ns.length:=by omega
   obtain⟨u,hu,ru⟩:=rv.get (i:=i) (x:=V.int ns[i]) (by simp[hb])
   have e:its.toArray[i]? = some u:=by simpa using hu
   rw[e]at hv
   cases hv
   obtain⟨t,rfl⟩:=ru
   exact⟨t,by simp[hb]⟩
  ·refine⟨.int ns.sum,H,I.kept (h':=h') (t':=tk) λb o e=>k b o (λz=>?_) (Heap.get?_push_of_some _ e),⟨t',?_⟩,q⟩
   ·have e':b=s.heap.objs.size:=by simpa using z
    exact absurd (Heap.lt_size e) (by rw[e']; exact Nat.lt_irrefl _)
   ·rw[List.size_toArray,<- hl,rp ns _ (Nat.le_refl _),List.take_length]
 ·exact q.elim
theorem CM{K:W.Frag}{a:Addr}{xs:List V}{cs:St}{tt:TT}{te:TE}{H:Hp}{Q:VK}(Pv:Nat->List V->Hp->Prop)(h0:Pv 0 [] H)(hl : ∀ i ys H,i<=xs.length->Pv i ys H->az K H a xs/\ys.length<=i)(hz:xs.length<=sizeLine)
 (hs : ∀ i x ys H H' (N:List V->Hp->Prop),xs[i]? = some x->Pv i ys H->af H H'->(∀ ys' H',Pv (i+1) ys' H'->N ys' H')->tt (some (.int (i:Int)) :: some x :: cs) H' λb H4=>if b=true then te (some (.int (i:Int)) :: some x :: cs) H4 λy H5=>N (ys++[y]) H5 else N ys H4)
 (hd : ∀ ys H p H',Pv xs.length ys H->aI H p (.lst ys) H'->Q (.ref p) H') :
 fI (gv K a) H (List.replicate 2 none++cs) (iz K 2 (fj (bG 0) (fj (bG 1) jb))) tt te Q:=by
 refine⟨λi m ys σ H=>m=xs.length - i/\i<=xs.length/\Pv i ys H/\∃ v0 v1,σ=v0 :: v1 :: cs,⟨xs.length,by simp,Nat.zero_le _,h0,none,none,rfl⟩,?_⟩
 rintro i m ys σ H2 ⟨rfl,hi,p,v0,v1,rfl⟩
 obtain⟨q,ql⟩:=hl i ys H2 hi p
 by_cases hlt:i < xs.length
 ·refine .inr ⟨⟨xs,xs[i],q,by simp[hlt]⟩,by omega,λys' σ' H'=>Pv (i+1) ys' H'/\∃ v0 v1,σ'=v0 :: v1 :: cs,λys' σ' H' ⟨p',e⟩=>⟨xs.length - (i+1),by omega,rfl,hlt,p',e⟩,λx H' y=>?_⟩
  obtain⟨pp,v,rfl,y,gr⟩:=y
  refine⟨pp,_,rfl,gr.tup,rfl,_,_,rfl,_,_,rfl,rfl,?_⟩
  exact hs i v ys H2 H' (λys' H'=>Pv (i+1) ys' H'/\∃ v0 v1,some (V.int (i:Int)) :: some v :: cs=v0 :: v1 :: cs) (y xs q) p gr.sm λ_ _ z=>⟨z,_,_,rfl⟩
 ·have e:i=xs.length:=by omega
  subst e
  exact .inl ⟨⟨xs,q,Nat.le_refl _⟩,by omega,λp' H' g=>hd ys H2 p' H' p g⟩
section
variable {X:Cx}{K:W.Frag}{a b c e o:Expr}{es rest:List Expr}{pos p p2 pos2:Pos}{t:TA}{kk:Nat}
theorem C2 (h:X.K=K) (hc:X.calm=true):bd X (.builtin "sum") (mP K):=by subst h; exact C3 hc
theorem lV (h:X.K=K) (hg:Gl X "enumerate") (hm:X.mg "enumerate" = none) (ha:QA X [a] t) (hs:dG a=false:=by rfl):QI X (.Tuple es kk p2) (.Call (.Name "enumerate" p) [a] [] pos) (sS K t):=by subst h; exact⟨yH hg hm ha.h (dB hs)⟩
end
theorem aI.after{H H1 H2:Hp}{p:Addr}{o:HO}(s:af H H1)(g:aI H1 p o H2):aI H p o H2:=⟨s.free g.nw,s.trans g.sm,g.at_⟩
theorem pN{α:Type}{rs:List α}{i:Nat}{y:α}(h:rs[i]? = some y):rs.take (i+1)=rs.take i++[y]:=by rw[List.take_add_one,h]; rfl
theorem Bo{α β:Type}{xs:List α}{rs:List β}{i:Nat}{x:α}(hl:rs.length=xs.length)(h:xs[i]? = some x) : ∃ y,rs[i]? = some y:=by
 have:=(List.getElem?_eq_some_iff.mp h).1
 exact⟨rs[i]'(by omega),by simp⟩
theorem nZ{K:W.Frag}{a:Addr}{xs:List V}{cs:St}{te:TE}{H:Hp}{Q:VK}(rs:List V)(hl:rs.length=xs.length)(hq:az K H a xs)(hz:xs.length<=sizeLine)
 (hs : ∀ (i:Nat) x y H' (N:VK),xs[i]? = some x->rs[i]? = some y->af H H'->(∀ H'',af H' H''->N y H'')->te (some x :: cs) H' N) (hd : ∀ p H',aI H p (.lst rs) H'->Q (.ref p) H') :
 fI (gu K a) H (List.replicate 1 none++cs) (bG 0) eZ te Q:=by
 refine CK (λi ys H'=>af H H'/\ys=rs.take i) ⟨af.refl _,rfl⟩ (λi ys H' hi z=>⟨z.1.seq hq,by rw[z.2,List.length_take]; omega⟩) hz (λi x ys H' N hx z hN=>?_) λys H' p H'' z g=>?_
 ·obtain⟨s,rfl⟩:=z
  obtain⟨y,hy⟩:=Bo hl hx
  simp only [eZ,if_true]
  exact hs i x y H' _ hx hy s λH'' s'=>hN _ _ ⟨s.trans s',by rw[pN hy]⟩
 ·obtain⟨s,rfl⟩:=z
  rw[<- hl,List.take_length]at g
  exact hd p H'' (g.after s)
theorem mF{ns:List Int}{i:Nat}{x:V}(h:(ns.map V.int)[i]? = some x) : ∃ p,ns[i]? = some p/\x=.int p:=by
 rw[List.getElem?_map]at h
 cases e:ns[i]? with
 | none=>rw[e]at h; cases h
 | some p=>rw[e]at h; cases h; exact⟨p,rfl,rfl⟩
theorem ly{t u:TS}{D:cG}{σ:St}{H:Hp}(M:St->Hp->Prop)(h1 : ∀ nx:St->Hp->Prop,(∀ σ' H',M σ' H'->nx σ' H')->t { D with nx:=nx } σ H)(h2 : ∀ σ' H',M σ' H'->u D σ' H'):kZ t u D σ H:=h1 (u D) h2
structure kQ (P:Program) (w:World) (K:W.Frag) (mg:Str->Option Value) (base:Heap) (C:Addr) (m:Str) (k:Nat) (f:Addr) (fd:FuncData) (ps:List Str) (sp:Sp):Prop where
 c:cK K C
 mt:fD K C m f
 b:aD K fd ps []
 ok:bw P w K mg base bY k f fd ps sp
structure Ey (P:Program) (w:World) (K:W.Frag) (mg:Str->Option Value) (base:Heap) (x:Str) (C:Addr) (k:Nat) (f:Addr) (fd:FuncData) (ps:List Str) (sp:Sp):Prop where
 g:mg x=some (.ref C)
 mkx:Mk K C f
 b:aD K fd ps []
 ok:bw P w K mg base bY k f fd ps sp
section
variable {X:Cx}{K:W.Frag}{k j:Nat}{f C:Addr}{fd:FuncData}{ps:List Str}{sp:Sp}{x m:Str}{p pos apos pos':Pos}{e o value:Expr}{es:List Expr}{ta tv:TE}{t:TA}
theorem me{X:Cx}:fA bY X E0:=λ_ _ _ _ _ _ _ z=>z.elim
theorem xQ{pl:Sem Bool}(F:kQ X.prog X.w X.K X.mg X.base C m j f fd ps sp)(hr:aP k X.A)(ho:QE X o ta)(ha:QA X (e :: es) t)(hj:j<=k:=by decide)(hn:cn (e :: es)=true:=by rfl)
 (ht:eval (.Call (.Attribute o m apos) (e :: es) [] pos) X.env=(do
   let ov <- eval o X.env
   standAt apos.atName
   let (f,first) <- holding [ov] (getMethod ov m pl)
   callWith pos f first (backTo pos (starEach (e :: es) X.env)) (backToKw pos (keywordEach [] X.env))):=by rfl) :
 QE X (.Call (.Attribute o m apos) (e :: es) [] pos) (jz C m sp [] E0 ta t) :=
 ⟨yS (pl:=pl) ho.h F.c F.mt F.ok (hr.mono hj) F.b .nil me ha.h (dB (cT hn).1) (fU (cT hn).2) ht⟩
theorem xP{pl:Sem Bool}(F:kQ X.prog X.w X.K X.mg X.base C m j f fd ps sp)(hr:aP k X.A)(ho:QE X o ta)(hj:j<=k:=by decide)
 (ht:eval (.Call (.Attribute o m apos) [] [] pos) X.env=(do
   let ov <- eval o X.env
   standAt apos.atName
   let (f,first) <- holding [ov] (getMethod ov m pl)
   callWith pos f first (backTo pos (starEach [] X.env)) (backToKw pos (keywordEach [] X.env))):=by rfl) :
 QE X (.Call (.Attribute o m apos) [] [] pos) (jz C m sp [] E0 ta jx) :=
 ⟨yR (pl:=pl) ho.h F.c F.mt F.ok (hr.mono hj) F.b .nil me ht⟩
theorem jQ{f:Str}(h:X.K=K)(he:QE X e ta)(hb:attributeBase e f X.env (eval e X.env)=eval e X.env:=by rfl):QE X (.Attribute e f pos) (qi K ta f):=by subst h; exact⟨yX he.h hb⟩
theorem lS{f:Str}(h:X.K=K)(ha:QE X o ta)(hv:QE X value tv)(hs:swapsWith value (some (.Attribute o f pos')) pos.line X.env=pure false:=by rfl):QS X (.Assign [.Attribute o f pos'] value pos) (qE K ta tv f):=by subst h; exact⟨yt ha.h hv.h hs⟩
end
structure Ep (K:W.Frag) (C:Addr):Prop where
 makes:W.makesIn K C=true
 init:W.findIn K (.ref C) "__init__" = some (some (.builtin "object.__init__"))
 kp:W.keepIn K (.ref C)=true
structure ED (K:W.Frag) (x qual:Str) (st:Stmt) (f:Addr) (fd:FuncData) (vs:List Value):Prop where
 ex : ∃ (oc:Value) (od:Option Addr) (kV doc pm:Value) (an:Option Addr) (cdv ct:Value) (osl:Array (Option Value)) (d:Addr) (dc:Value) (dd:Option Addr) (n:Nat) (dsl:Array (Option Value)),
  fd=W.fnOf x qual (aQ st) (aL st) (ao st) (.ref d) kV doc pm an cdv ct/\K.lookup f=some ⟨oc,od,.func fd,osl⟩/\W.codeIn K cdv qual=true/\K.lookup d=some ⟨dc,dd,.seq vs.toArray n,dsl⟩
 kp:W.keepIn K (.ref f)=true
structure Ew (P:Program) (w:World) (K:W.Frag) (mg:Str->Option Value) (base:Heap) (C:Addr) (m:Str) (k:Nat) (f:Addr) (fd:FuncData) (ps:List Str) (dvs:List V) (sp:Sp):Prop where
 c:cK K C
 mt:fD K C m f
 b : ∃ ds,aD K fd ps ds/\aq dvs ds
 ok:bw P w K mg base bY k f fd ps sp
def vI:Value->Option Int
 | .int k _=>some k
 | _=>none
def vR:Value->Option Addr
 | .ref a=>some a
 | _=>none
def dictOf:List DictEntry->Option (List (Int × Addr))
 | []=>some []
 | e :: r=>(vI e.key).bind λk=>(vR e.val).bind λa=>if e.hash == hashInt k then (dictOf r).bind λl=>some ((k,a) :: l) else none
structure EF (K:W.Frag) (a:Addr) (m:List (Int × Addr)):Prop where
 ex : ∃ es ep,K.lookup a=some ⟨.type "dict",none,.dict es ep,#[]⟩/\dictOf es.toList=some m
 nd:(m.map (·.1)).Nodup
 ns:(a == sysModules)=false
structure jj (h:Heap) (e C:Addr) (od:Option Addr) (tb:Value) (oe:Obj) (vs:Array Value) (q:Bool:=false):Prop where
 at_:h.get? e=some oe
 cls:oe.cls=.ref C
 dict:oe.dict=od
 data:oe.data=.fields vs
 size:vs.size=6
 tb1:vs[1]? = some tb
 cx:q=false->vs[2]? = some .none
def pA(h:Heap)(e T:Addr)(fl:Value):Prop:=∃ oT ts,h.get? T=some oT/\oT.data=.fields ts/\ts[3]? = some fl/\T≠e
section
variable {M:Model}{A:Around}{E:Value->Shared->Prop}{s:Shared}
structure Eo (l:List Env) (e C T':Addr) (od:Option Addr) (tb fl:Value) (h h':Heap) (q:Bool:=false):Prop where
 keep : ∀ b o,h.get? b=some o->b≠e->.ref b≠tb->b∉cb l->h'.get? b=some o
 slot : ∀ b o,h.get? b=some o->b∈cb l->∃ sl,h'.get? b=some { o with slots:=sl }
 there : ∀ b o,h.get? b=some o->∃ o',h'.get? b=some o'
 new:h.objs.size<=T'
 size:h.objs.size<=h'.objs.size
 exc : ∃ oe vs,jj h' e C od (.ref T') oe vs q
 ent:pA h' e T' fl
def D8(h:Heap)(e:Addr)(tb:Value):Prop:=tb=.none\/∃ T,tb=.ref T/\pA h e T .none
end
def xφ(e C:Addr)(od:Option Addr)(q:Bool):Heap->Prop:=λh=>∃ tb oe vs,jj h e C od tb oe vs q
def xν(e C:Addr)(od:Option Addr):Heap->Prop:=λh=>∃ oe vs,jj h e C od .none oe vs
def XO(e C:Addr)(od:Option Addr)(q:Bool:=false):HO:=.ext (xφ e C od q)
def XN(e C:Addr)(od:Option Addr):HO:=.ext (xν e C od)
def pG(P:Program)(w:World):cL:=λouter H s E v s'=>∃ (e C T:Addr) (od:Option Addr) (q:Bool) (H':Hp) (oe:Obj) (vs:Array Value),v=.ref e/\s'.os=s.os/\AllBare s'.gens /\
 Un (cb outer) [] H H' s.heap s'.heap/\aM P w H' s'.heap/\H' e=some (XO e C od q)/\s.heap.get? e=none/\s.heap.objs.size<=T/\s.heap.objs.size<=s'.heap.objs.size/\H' T=none /\
 jj s'.heap e C od (.ref T) oe vs q/\pA s'.heap e T .none/\E (.ref C) (some e) H'
def Ee(X:Cx)(pins:List (Addr × Obj))(Es:St->XK)(v:Value)(s':Shared):Prop:=∃ (σ:St) (H':Hp) (e C:Addr) (od:Option Addr) (q:Bool) (tb:Value) (oe:Obj) (vs:Array Value),v=.ref e/\ad X pins σ H' s' /\
 H' e=some (XO e C od q)/\jj s'.heap e C od tb oe vs q/\D8 s'.heap e tb/\(∀ T,tb=.ref T->H' T=none/\X.s₀.heap.objs.size<=T/\∀ p∈X.pn++pins,p.1≠T)/\(X.ex=[]->X.s₀.heap.get? e=none)/\Es σ (.ref C) (some e) H'
structure Er (X:Cx) (Es:St->XK):Prop where
 up : ∀ pins v s',Ee X pins Es v s'->X.xe v s'
structure Eu (P:Program) (w:World) (K:W.Frag) (mg:Str->Option Value) (base:Heap) (x:Str) (k:Nat) (f:Addr) (fd:FuncData) (ps:List Str) (dvs:List V) (sp:Sp):Prop where
 g:mg x=some (.ref f)
 kp:W.keepIn K (.ref f)=true
 b : ∃ ds,aD K fd ps ds/\aq dvs ds
 ok:bw P w K mg base (pG P w) k f fd ps sp
structure Ev (P:Program) (w:World) (K:W.Frag) (mg:Str->Option Value) (base:Heap) (C:Addr) (m:Str) (k:Nat) (f:Addr) (fd:FuncData) (ps:List Str) (dvs:List V) (sp:Sp):Prop where
 c:cK K C
 mt:fD K C m f
 b : ∃ ds,aD K fd ps ds/\aq dvs ds
 ok:bw P w K mg base (pG P w) k f fd ps sp
structure Ex (P:Program) (w:World) (K:W.Frag) (mg:Str->Option Value) (base:Heap) (x:Str) (C:Addr) (k:Nat) (f:Addr) (fd:FuncData) (ps:List Str) (dvs:List V) (sp:Sp):Prop where
 g:mg x=some (.ref C)
 mkx:Mk K C f
 b : ∃ ds,aD K fd ps ds/\aq dvs ds
 ok:bw P w K mg base (pG P w) k f fd ps sp
abbrev ui:List Value:=[.type "ValueError",.type "Exception",.type "BaseException",.type "object"]
structure uG (P:Program) (w:World) (K:W.Frag) (mg:Str->Option Value) (base:Heap) (x:Str) (C:Addr) (k:Nat) (f:Addr) (fd:FuncData) (ps:List Str) (dvs:List V) (sp:Sp):Prop where
 g:mg x=some (.ref C)
 mkx:Mk K C f
 b : ∃ ds,aD K fd ps ds/\aq dvs ds
 ok:bw P w K mg base bY k f fd ps sp
section
variable {X:Cx}{k j:Nat}{f C:Addr}{fd:FuncData}{ps:List Str}{sp:Sp}{x:Str}{p pos:Pos}{e:Expr}{es:List Expr}{t:TA}{dvs:List V}
theorem xT(F:uG X.prog X.w X.K X.mg X.base x C j f fd ps dvs sp)(hr:aP k X.A)(ha:QA X (e :: es) t)(hj:j+1<=k:=by decide)(hg:Gl X x:=by rfl)(hdb:(x == ("__debug__" : Str))=false:=by decide)(hn:cn (e :: es)=true:=by rfl) :
 QE X (.Call (.Name x p) (e :: es) [] pos) (qd C sp dvs E0 t):=by
 obtain⟨ds,hb,hd⟩:=F.b
 exact⟨yT F.mkx F.ok (hr.mono hj) hg F.g hb hd me ha.h hdb (dB (cT hn).1) (fU (cT hn).2)⟩
end
end L2
namespace L2
open PySem PySem.Spec PyProof.Rows PySem.W
structure pq (K:W.Frag) (C:Addr):Prop where
 ga:findIn K (.ref C) "__getattribute__" = some (some (.builtin "BaseException.__getattribute__"))
 noga:findIn K (.ref C) "__getattr__" = some none
 base:mroIn K C (.type "BaseException")=some true
 obj:mroIn K C (.type "object")=some true
 hd:hasDictIn K C=true
 cls:findIn K (.ref C) "__class__" = some (some (.builtin "object.__class__"))
 clsG:specialIn K (.builtin "object.__class__") "__get__" = some (some (.builtin "getset_descriptor.__get__"))
 clsT:takesIn K (.builtin "object.__class__")=some true
inductive pv (K:W.Frag) (H:Hp):V->Value->Prop where
 | of {x:V} {t:Value} (h:cc K H x t):pv K H x t
 | exc {e C:Addr} {q:Bool} (h:H e=some (XO e C none q)) (c:pq K C):pv K H (.ref e) (.ref C)
def tJ(K:W.Frag)(C:Addr)(bmB:List Value)(newId:String):Bool:=match K.lookup C with
 | some ⟨.type "type",_,.cls cd,sl⟩=>(match cd.mro,sl.toList with
  | .ref C' :: bm,[_,_,_,_,some (.builtin n),_]=>C' == C && (n == newId && (!cd.hasDel && (W.tailIn K bmB bm && W.nsOkIn K cd.ns)))
  | _,_=>false)
 | _=>false
structure uC (K:W.Frag) (C f:Addr):Prop where
 x:tJ K C ui "ValueError.__new__" = true
 init:W.findIn K (.ref C) "__init__" = some (some (.ref f))
 fn:W.isFn K (.ref f)=true
 kp:W.keepIn K (.ref C)=true
structure EB (P:Program) (w:World) (K:W.Frag) (mg:Str->Option Value) (base:Heap) (x:Str) (C:Addr) (k:Nat) (f:Addr) (fd:FuncData) (ps:List Str) (sp:Sp):Prop where
 g:mg x=some (.ref C)
 mkx:uC K C f
 b:aD K fd ps []
 ok:bw P w K mg base bY k f fd ps sp
section
variable {X:Cx}{pins:List (Addr × Obj)}{σ:St}{H:Hp}{s:Shared}{h':Heap}{e C d0:Addr}{fs:List (Str × V)}{f:Str}
structure En (K:W.Frag) (C:Addr):Prop where
 x:tJ K C ui "ValueError.__new__" = true
 c:pq K C
 sa:W.findIn K (.ref C) "__setattr__" = some (some (.builtin "object.__setattr__"))
end
structure EH (K:W.Frag) (Y:Addr):Prop where
 sp:W.specialIn K (.ref Y) "__getattribute__" = some (some (.builtin "type.__getattribute__"))
 rd:W.readsIn K Y (.type "type")=true
 fc:W.findCls K (.ref Y) (.type "type") "__init__" = some (.val (.builtin "ValueError.__init__"))
inductive uv (K:W.Frag) (H:Hp):V->Value->Prop where
 | of {x:V} {t:Value} (h:pv K H x t):uv K H x t
 | exd {e C d0:Addr} {fs:List (Str × V)} (h:H e=some (XN e C (some d0))\/∃ q,H e=some (XO e C (some d0) q)) (hd:H d0=some (.xd fs)) (c:pq K C):uv K H (.ref e) (.ref C)
structure D9 (k:Nat) (A:Around):Prop where
 dp:A.depth+3*k+5 < recursionLimit
 un:A.units+16*k+200 < cLine
structure uI (P:Program) (w:World) (K:W.Frag) (mg:Str->Option Value) (base:Heap) (k:Nat) (f:Addr) (fd:FuncData) (ps:List Str) (sp:Sp):Prop where
 len : ∀ vs H Q E,sp vs H Q E->vs.length=ps.length
 run : ∀ (A:Around) (outer:List Env) (s:Shared) (H:Hp) (args:Args) (us:List Value) (vs:List V) (Q:VK) (E:XK),D9 k A->c7 P w K mg base A outer s H->BindsTo s fd args (ps.zip us)->aq vs us->sp vs H Q E ->
  codeAny (model P w) A (.call (.ref f) args) (CR bY outer P w H s Q E) s
structure EA (P:Program) (w:World) (K:W.Frag) (mg:Str->Option Value) (base:Heap) (x:Str) (C:Addr) (k:Nat) (f:Addr) (fd:FuncData) (ps:List Str) (sp:Sp):Prop where
 g:mg x=some (.ref C)
 mkx:uC K C f
 b:aD K fd ps []
 ok:uI P w K mg base k f fd ps sp
section
variable {X:Cx}{k j:Nat}{f C:Addr}{fd:FuncData}{ps:List Str}{sp:Sp}{x m:Str}{p pos:Pos}{e:Expr}{es:List Expr}{t:TA}{dvs:List V}{ds:List Value}{Es:St->XK}
structure Ez (P:Program) (w:World) (K:W.Frag) (mg:Str->Option Value) (base:Heap) (x:Str) (k:Nat) (f:Addr) (fd:FuncData) (ps:List Str) (sp:Sp):Prop where
 g:mg x=some (.ref f)
 kp:W.keepIn K (.ref f)=true
 b:aD K fd ps []
 ok:uI P w K mg base k f fd ps sp
end
section
variable {X:Cx}{K:W.Frag}{o i value:Expr}{td ty tv:TE}{pos pos':Pos}
theorem jR(hu:X.A.units+64 < cLine)(ho:QE X o td)(hi:QE X i ty)(hs:jo i:=by intro _ _; rfl):QE X (.Subscript o i pos) (qo td ty):=⟨y0 (by omega) ho.h hi.h hs⟩
theorem iX(hu:X.A.units+64 < cLine)(ho:QE X o td)(hi:QE X i ty)(hv:QE X value tv)(hs:swapsWith value (some (.Subscript o i pos')) pos.line X.env=pure false:=by rfl):QS X (.Assign [.Subscript o i pos'] value pos) (qF td ty tv):=⟨yw (by omega) ho.h hi.h hv.h hs⟩
end
section
variable {X:Cx}{K:W.Frag}
def B9:R2:=λy x H Q=>∃ a ov,x=.ref a/\dy H a y ov/\Q (.bl ov.isSome) H
theorem BQ(hu:X.A.units+64 < cLine):aF X (compareOp .In) B9:=by
 intro pins s σ H x y v u Q I rx ry q
 obtain⟨a,ov,rfl,g,q⟩:=q
 obtain rfl:u=Value.ref a:=ry
 exact Cw (by omega) I g rx λs' I'=>⟨.bl ov.isSome,H,I',rfl,q⟩
end
section
open HT
variable {prog:Program}{w:World}{A:Around}{E:Value->Shared->Prop}{s:Shared}
theorem Br{t sl:Addr}{items:Array Value}{vl vu:Value}{lo hi:Option Int}{Q:Value->Shared->Prop}(ht:IsTup s.heap t items)(hs:s.heap.IsSliceOf sl vl vu .none)(pl:IsPart vl lo)(pu:IsPart vu hi)
 (hw:sIx items.size 0 lo=0/\sIx items.size items.size hi=items.size) (h:Q (.ref t) s):wpAny (model prog w) A (getItem (.ref t) (.ref sl)) Q E s:=by
 obtain⟨os,hos,hcs,hds⟩:=id hs
 have hTs:s.TypeIs (.ref sl) "slice":=⟨os,hos,hcs⟩
 unfold getItem
 try with_reducible refine wpAny_holding ?_
 first | refine wpAny_bind (wpAny_pure ?_) | skip
 refine wpAny_bind (wpAny_sequenceKey ht.typeIs (by decide) ?_)
 refine wpAny_bind (wpAny_callSpecial?_slot (name:=Str.ofString "__getitem__") ht.typeIs PyProof.Rows.slot_tuple_getitem
  (wpAny_call_entry PyProof.Rows.slot_tuple_getitem ht.typeIs entry_tuple_getitem ?_ (args_tuple_getitem _ _)))
 show wpAny _ _ (Builtin.Tuple.tupleItemsOf (.ref t) >>= _) _ _ s
 refine wpAny_bind (tupleItemsOf_ ht ?_)
 refine wpAny_bind (wpAny_typeOf hTs ?_)
 rw[if_pos (by decide)]
 refine wpAny_bind (qz hs pl pu ?_)
 have hyes:((((sIx items.size 0 lo:Nat):Int) == 0 && (1:Int) == 1 && (sIx items.size items.size hi - sIx items.size 0 lo) == items.size)=true):=by
  rw[hw.1,hw.2]
  simp
 show wpAny _ _ (if (((sIx items.size 0 lo:Nat):Int) == 0 && (1:Int) == 1 && (sIx items.size items.size hi - sIx items.size 0 lo) == items.size)=true then _ else _) _ _ s
 rw[if_pos hyes]
 unfold Builtin.Tuple.tupleIsExact
 refine wpAny_bind (wpAny_bind (wpAny_typeOf ht.typeIs (wpAny_pure ?_)))
 rw[if_pos (by decide)]
 refine wpAny_bind (wpAny_rule ?_)
 first
  | exact wpAny_pure ⟨_,rfl,wpAny_pure h⟩
  | exact wpAny_bind (wpAny_pure ⟨_,rfl,wpAny_pure h⟩)
  | exact wpAny_bind (wpAny_pure (wpAny_pure ⟨_,rfl,wpAny_pure h⟩))
end
section
variable {X:Cx}{K:W.Frag}{pos:Pos}
def Ag:TE:=λ_ H Q=>∀ p H',aI H p (.dT []) H'->Q (.ref p) H'
theorem qV:QE X (.Dict [] [] pos) Ag:=⟨yY.imp λσ H Q q=>λp hp=>q p _ (.mk' hp)⟩
def tp(K:W.Frag):V->Option Int->Option Int->Hp->VK->Prop:=λx lo hi H Q=>match x with
 | .ref a=>∃ xs,bP K H a xs/\H a=some (.tup xs)/\∀ p H',af H H'->H' p=some (.tup (cy xs lo hi))->Q (.ref p) H'
 | _=>False
theorem BD:fx X (tp X.K):=by
 intro pins s σ H x v vl vu lo hi sl Q I rx hs pl pu q
 cases x with
 | ref a =>
  obtain⟨xs,h1,h2,q⟩:=q
  by_cases hw:HT.sIx xs.length 0 lo=0/\HT.sIx xs.length xs.length hi=xs.length
  ·cases rx
   obtain⟨its,r,ht,hz⟩:=I.tuple h1
   have hlen:its.toArray.size=xs.length:=by rw[List.size_toArray]; exact r.length.symm
   refine⟨"tuple",_,PyProof.Rows.slot_tuple_getitem.lookup,ht.typeIs,?_⟩
   refine Br ht hs pl pu (by rw[hlen]; exact hw) ?_
   refine⟨.ref a,H,I,rfl,q a H (af.refl _) ?_⟩
   rw[h2]
   unfold cy
   rw[hw.1,hw.2,List.drop_zero,List.take_of_length_le (by omega)]
  ·exact wI pins s σ H _ v vl vu lo hi sl Q I rx hs pl pu ⟨a,xs,rfl,h1,hw,λp hp=>q p _ (aI.mk' hp).sm (aI.mk' hp).at_⟩
 | _=>exact False.elim q
theorem tj(h:X.K=K):fx X (tp K):=by subst h; exact BD
end
theorem Paired.nth{α β:Type}{F:α->β->Prop} : ∀ {l₁:List α} {l₂:List β},Paired F l₁ l₂->∀ {i:Nat} {a:α} {b:β},l₁[i]? = some a->l₂[i]? = some b->F a b
 | _,_,.nil,_,_,_,h,_=>by simp at h
 | _,_,.cons r t,0,_,_,h,h'=>by simp at h h'; subst h; subst h'; exact r
 | _,_,.cons r t,i+1,_,_,h,h'=>Paired.nth t (i:=i) (by simpa using h) (by simpa using h')
theorem AA{P:Program}{w:World}{k:ak}{u:Value}(h:(bL P w).is k u=true):ar (kV k) u:=by
 rw[zH]at h
 cases k with
 | inl i =>
  cases u <;> simp[eJ,Value.isInt]at h
  subst h
  exact⟨_,rfl⟩
 | inr x =>
  cases u <;> simp[eJ,Value.isStrOf]at h
  subst h
  exact⟨_,rfl⟩
theorem tM:entryFor table "dict_itemiterator.__iter__" = some Builtin.«dict_keyiterator.__iter__» :=
 entryFor_alias (id' := "dict_keyiterator.__iter__") (by kernel_rfl) (by first | rfl | decide +kernel | (unfold String.splitOn; simp +decide [String.splitOnAux])) (by decide +kernel) (by kernel_rfl)
def gq(d:Addr)(ob:Obj)(kvs:List (ak × V)):It :=
 ⟨λi H=>H d=some (.frz ob (.dK kvs))/\i < kvs.length,λi H x H'=>∃ p k v,x=.ref p/\kvs[i]? = some (k,v)/\aI H p (.tup [kV k,v]) H',λi H=>H d=some (.frz ob (.dK kvs))/\kvs.length<=i⟩
theorem kg{X:Cx}{pins:List (Addr × Obj)}{σ:St}{H:Hp}{s:Shared}{d:Addr}{ob:Obj}{kvs:List (ak × V)}{es:Array DictEntry}{ep:Nat}(I:ad X pins σ H s)(h:H d=some (.frz ob (.dK kvs)))(he:ob.data=.dict es ep) : ∃ vs,KV kvs vs/\s.heap.DictAt (bL X.prog X.w) d vs ep:=by
 obtain⟨e1,z,hd,vs,rel,o',es',ep',e2,c1,c2,c3⟩:=I.hok d _ h
 rw[e1]at e2; cases e2
 rw[he]at c2; cases c2
 exact⟨vs,rel,ob,es,e1,c1,he,c3⟩
theorem vG{P:Program}{w:World}{K:W.Frag}{tes:List Expr}{kk:Nat}{pp:Pos}(d it:Addr)(ob:Obj)(kvs:List (ak × V))(es:Array DictEntry)(ep:Nat)(he:ob.data=.dict es ep)(hdi:d≠it):dX P w K (.Tuple tes kk pp) (gq d ob kvs) [it] it (λi h=>∃ ok ov,IsItemIter h it d i kvs.length ep ok ov) where
 mem:=by simp
 obj:=λi h st b hb=>by
  obtain⟨ok,ov,h1⟩:=st
  have hb':b=it:=by simpa using hb
  subst hb'
  exact⟨_,h1,λv z=>by cases (show Data.fields _=Data.cell v from z)⟩
 keep:=λi h h' st k=>by
  obtain⟨ok,ov,h1⟩:=st
  exact⟨ok,ov,k it (by simp) _ h1⟩
 item:=by
  intro X hP hw hK hc i pins s σ H E I hf st hg
  subst hP hw hK
  obtain⟨ok,ov,h1⟩:=st
  obtain⟨hq,hi⟩:=hg
  obtain⟨vs,rel,da⟩:=kg I hq he
  have hl:=rel.length
  obtain⟨⟨k,v⟩,hkv⟩ : ∃ kv,kvs[i]? = some kv:=⟨_,List.getElem?_eq_getElem hi⟩
  obtain⟨⟨k',u⟩,hvs,hk',ru⟩ : ∃ q,vs[i]? = some q/\k=q.1/\ar v q.2:=by
   obtain⟨q,hq2⟩ : ∃ q,vs[i]? = some q:=⟨_,List.getElem?_eq_getElem (by omega)⟩
   exact⟨q,hq2,Paired.nth rel hkv hq2⟩
  obtain rfl:k=k':=hk'
  have hilt:it < s.heap.objs.size:=Heap.lt_size h1
  rw[hl]at h1
  refine wpAny_pyNext_items_item h1 da hvs λkey h' hkey ho hT hsz hk=>?_
  refine⟨_,rfl,wpAny_letOwnedTupleGo_items (s:={ s with heap:=h' }) ho λh'' he' hs'=>?_⟩
  have hTe:s.heap.objs.size≠it:=Nat.ne_of_gt hilt
  have hT2:h''.get? s.heap.objs.size=some { cls:=.type "tuple",data:=.seq #[key,u] }:=(hs'.2 _ hTe).trans hT
  have I2:ad X pins σ (upd H s.heap.objs.size (.tup [kV k,v])) { s with heap:=h'' }:=by
   refine I.turnedN (t':=s.toks) (fp:=[it]) (λb o hb eo=>?_) hf (Nat.le_refl _) (mf ⟨_,hT2,rfl,_,rfl⟩ (AA hkey) ru)
   have hbe:b≠it:=λz=>hb (by simp[z])
   exact (hs'.2 b hbe).trans (hk b o hbe eo)
  refine⟨.ref s.heap.objs.size,_,I2,rfl,⟨_,k,v,rfl,hkv,.mk' I.fresh⟩,⟨_,_,by rw[hl]; exact he'⟩,λb hb=>?_⟩
  have hb':b=it:=by simpa using hb
  rw[aj (by rw[hb']; exact Nat.ne_of_lt hilt)]
  exact (hf b hb).1
 done:=by
  intro X hP hw hK hc i pins s σ H E I hf st hg
  subst hP hw hK
  obtain⟨ok,ov,h1⟩:=st
  obtain⟨hq,hi⟩:=hg
  obtain⟨vs,rel,da⟩:=kg I hq he
  have hl:=rel.length
  rw[hl]at h1
  exact wpAny_pyNext_items_end (I.ok.hd hc) h1 da (List.getElem?_eq_none (by omega)) λh' eb=>⟨rfl,I.turnedL (t':=s.toks) (fp:=[it]) (λb o hb eo=>eb b o (λz=>hb (by simp[z])) eo) hf⟩
 self:=λA i s Q E st h=>by
  obtain⟨ok,ov,h1⟩:=st
  have hT:s.TypeIs (.ref it) "dict_itemiterator":=⟨_,h1,rfl⟩
  refine wpAny_pyIter_slot hT PySem.F.slot_dict_itemiterator_iter (wpAny_call_entry PySem.F.slot_dict_itemiterator_iter hT tM ?_ (PySem.F.args_dict_itemiterator_iter_1 _))
  show wpAny _ _ (ret (.ref it)) _ _ s
  exact wpAny_pure ⟨_,rfl, "dict_itemiterator",_,hT,PySem.F.slot_dict_itemiterator_next.lookup,h⟩
def sR(td:TE):TI:=λσ H R=>td σ H λx H1=>∃ d kvs,x=.ref d/\H1 d=some (.dK kvs)/\∀ ob,R (gq d ob kvs) (upd H1 d (.frz ob (.dK kvs)))
section
variable {X:Cx}{o:Expr}{es:List Expr}{kk:Nat}{pp apos cpos:Pos}{td:TE}
theorem yG (ho:PE X o td) (hb:attributeBase o "items" X.env (eval o X.env)=eval o X.env) (hl:(apos.endLine == cpos.line)=true):PI X (.Tuple es kk pp) (.Call (.Attribute o "items" apos) [] [] cpos) (sR td):=by
 intro pins s σ H R I h
 refine wpAny_Call_method (T := "dict") (id := "dict.items") hb rfl hl PySem.F.plainAttrs_dict PySem.F.slot_dict_items PySem.F.type_dict_items (ai (ho pins s σ H _ I h) λu s1 ⟨x,H1,I1,rx,d,kvs,ex,hd,q⟩=>?_)
 subst ex
 obtain rfl:u=Value.ref d:=rx
 obtain⟨z,hdS,vs,rel,dd⟩:=ku I1.hok hd
 refine⟨dd.typeIs,dd.mapOf.noDict,?_⟩
 show wpAny _ _ (callWith cpos (.builtin "dict.items") [.ref d] [] []) _ _ s1
 refine method_meetsIn PySem.F.slot_dict_items PySem.F.entry_dict_items rfl (PyProof.Rows.evalArgs_none ⟨rfl,dd.typeIs,PySem.F.args_dict_items_1 _,_,meets_dict_items (bL X.prog X.w) d hdS,⟨vs,dd⟩,?_⟩)
 obtain⟨ep,da⟩:=dd.dictAt
 refine wpAny_pyIter_items (knd:=bL X.prog X.w) (d:=d) (kvs:=vs) (ep:=ep) ⟨_,Heap.get?_push_size _ rfl,rfl,rfl⟩ (da.push _) ?_
 obtain⟨ob,es',ho1,c1,c2,c3⟩:=id da
 have hsz:(s1.heap.push { cls:=.type "dict_items",data:=.fields #[.ref d] }).objs.size=s1.heap.objs.size+1:=Heap.size_push ..
 have k2 : ∀ b o,s1.heap.get? b=some o->((s1.heap.push { cls:=.type "dict_items",data:=.fields #[.ref d] }).push { cls:=.type "dict_itemiterator",data:=.fields #[.none,.bool false,.ref d,.int 0 0,.int vs.length 0,.int ep 0,.none,.none] }).get? b=some o:=λb o e=>Heap.get?_push_of_some _ (Heap.get?_push_of_some _ e)
 have I2:=I1.kept (t':=s1.toks) k2
 have hd2:=k2 d ob ho1
 have I3:=I2.write (x:=d) (e:=d) (o:=.frz ob (.dK kvs)) (t':=s1.toks) (by rw[hd]; exact True.intro) (.inl rfl) (λb u _ e=>e) ⟨ob,hd2⟩ ⟨hd2,z,hdS,vs,rel,ob,es',ep,hd2,c1,c2,c3⟩
 have hle:s1.heap.objs.size<=(s1.heap.push { cls:=.type "dict_items",data:=.fields #[.ref d] }).objs.size:=by rw[hsz]; exact Nat.le_succ _
 have hdi:d≠(s1.heap.push { cls:=.type "dict_items",data:=.fields #[.ref d] }).objs.size:=by rw[hsz]; exact Nat.ne_of_lt (Nat.lt_succ_of_lt (Heap.lt_size ho1))
 refine⟨_,[_],_,gq d ob kvs,_,rfl,I3,vG d _ ob kvs es' ep c2 hdi,⟨.none,.none,by rw[rel.length]; exact Heap.get?_push_size _ rfl⟩,λb hb=>?_,q ob⟩
 have hb':b=(s1.heap.push { cls:=.type "dict_items",data:=.fields #[.ref d] }).objs.size:=by simpa using hb
 have f1:=I1.fpOk (b:=b) (by rw[hb']; exact hle) (I1.hok.fresh (by rw[hb']; exact hle))
 obtain⟨f0,f⟩:=f1
 exact⟨by rw[aj (by rw[hb']; exact hdi.symm)]; exact f0,f⟩
theorem jN (ho:QE X o td) (hb:attributeBase o "items" X.env (eval o X.env)=eval o X.env:=by rfl) (hl:(apos.endLine == cpos.line)=true:=by rfl):QI X (.Tuple es kk pp) (.Call (.Attribute o "items" apos) [] [] cpos) (sR td):=⟨yG ho.h hb hl⟩
theorem Cd{d:Addr}{ob:Obj}{kvs:List (ak × V)}{g:TG}{tb:TS}{D:cG}{σ:St}{H:Hp}(Pv:Nat->St->Hp->Prop)(h0:Pv 0 σ H)(hl : ∀ i σ H,i<=kvs.length->Pv i σ H->H d=some (.frz ob (.dK kvs)))
 (hs : ∀ i k v p σ H H',kvs[i]? = some (k,v)->Pv i σ H->aI H p (.tup [kV k,v]) H'->g (.ref p) σ H' λσ2 H2=>tb { D with nx:=Pv (i+1),ct:=Pv (i+1),bk:=D.nx } σ2 H2) (hd : ∀ σ H,Pv kvs.length σ H->D.nx σ H) :
 ∃ W:Nat->Nat->St->Hp->Prop,(∃ m,W 0 m σ H)/\∀ i m σ H,W i m σ H ->
  ((gq d ob kvs).stop i H/\D.nx σ H)\/((gq d ob kvs).go i H/\∃ N:St->Hp->Prop,(∀ σ' H',N σ' H'->∃ m',m' < m/\W (i+1) m' σ' H')/\∀ x H',(gq d ob kvs).yld i H x H'->g x σ H' λσ2 H2=>tb { D with nx:=N,ct:=N,bk:=D.nx } σ2 H2):=by
 refine⟨λi m σ H=>m=kvs.length - i/\i<=kvs.length/\Pv i σ H,⟨kvs.length,by simp,Nat.zero_le _,h0⟩,?_⟩
 rintro i m σ H ⟨rfl,hi,p⟩
 have q:=hl i σ H hi p
 by_cases hlt:i < kvs.length
 ·refine .inr ⟨⟨q,hlt⟩,Pv (i+1),λσ' H' p'=>⟨kvs.length - (i+1),by omega,rfl,hlt,p'⟩,λx H' y=>?_⟩
  obtain⟨pp,k,v,rfl,y,gr⟩:=y
  exact hs i k v pp σ H H' y p gr
 ·have e:i=kvs.length:=by omega
  subst e
  exact .inl ⟨⟨q,Nat.le_refl _⟩,hd σ H p⟩
end
structure Eb (h:Heap) (d:Addr) (es:Array DictEntry) (ep:Nat):Prop where
 big:(d == sysModules)=false
 obj : ∃ o,h.get? d=some o/\o.ExactDict/\o.data=.dict es ep
abbrev iD:=Int × List Int
def wc(x:iD × Addr × Value):DictEntry:=⟨reduceHash (Builtin.Tuple.tupleHashOf [hashInt x.1.1,reduceHash (Builtin.Tuple.tupleHashOf (x.1.2.map hashInt))]),.ref x.2.1,x.2.2⟩
def Ej(a:Addr)(xs:List (iD × Addr × Value))(ep:Nat):HO:=.ext λh=>Eb h a (xs.map wc).toArray ep
def Ed(H:Hp)(k:iD)(p:Addr):Prop:=∃ b,H p=some (.tup [.int k.1,.ref b])/\H b=some (.tup (k.2.map V.int))
abbrev KN:List (iD × Addr × V)->List (iD × Addr × Value)->Prop:=Paired λp q=>p.1=q.1/\p.2.1=q.2.1/\ar p.2.2 q.2.2
structure DN (H:Hp) (a:Addr) (kvs:List (iD × Addr × V)):Prop where
 ex : ∃ xs ep,H a=some (Ej a xs ep)/\KN kvs xs
 key : ∀ x∈kvs,Ed H x.1 x.2.1
 nd:(kvs.map (·.1)).Nodup
 le:kvs.length<=sizeLine
section
variable {prog:Program}{w:World}{A:Around}{E:Value->Shared->Prop}{s:Shared}
theorem CT{t b:Addr}{ws:Array Value}{Q:Value->Shared->Prop}(ht:IsTup s.heap t #[])(hb:IsTup s.heap b ws)(q:Q (.ref b) s):wpAny (model prog w) A (binaryOp .Add (.ref t) (.ref b)) Q E s:=by
 obtain⟨⟨c1,d1,e1,l1⟩,o1,z1,n1,y1⟩:=ht
 obtain⟨⟨c2,d2,e2,l2⟩,o2,z2,n2,y2⟩:=hb
 simp only at z1 y1 z2 y2
 subst z1 y1 z2 y2
 exact concat_meets ⟨_,o1,rfl⟩ ⟨_,o2,rfl⟩ noFill_tuple_add seq_tuple_add PySem.F.slot_tuple_add PySem.F.entry_tuple_add (PySem.F.args_tuple_add_2 _ _) (tuple_addW0 t b #[] ws n1 n2 d1 d2 l1 l2 rfl) ⟨o1,o2,q⟩
end
def Ca(K:W.Frag):R2:=λx y H Q=>∃ a b xs ys,x=.ref a/\y=.ref b/\H a=some (.tup xs)/\H b=some (.tup ys)/\xs.length+ys.length<=sizeLine/\∀ p H',af H H'->H' p=some (.tup (xs++ys))->Q (.ref p) H'
section
variable {X:Cx}{K:W.Frag}{a e tg:Expr}{ta:TA}{te:TE}{p pos pos':Pos}
theorem BV(h:X.K=K):aF X (binaryOp .Add) (Ca K):=by
 subst h
 intro pins s σ H x y v u Q I rx ry q
 obtain⟨a,b,xs,ys,rfl,rfl,ha,hb,hz,q⟩:=q
 by_cases hx:xs=[]
 ·subst hx
  cases rx
  cases ry
  obtain⟨its,r1,p1,_⟩:=I.tuple (.of ha)
  obtain⟨its2,r2,p2,_⟩:=I.tuple (.of hb)
  cases r1
  exact CT p1 p2 ⟨.ref b,H,I,rfl,q b H (af.refl _) hb⟩
 ·refine zq pins s σ H _ _ v u Q I rx ry ⟨a,b,xs,ys,rfl,rfl,.of ha,.of hb,hx,hz,λz=>?_,λ_ l hl=>q l _ (af.new hl) aN⟩
  subst z
  exact q a H (af.refl _) (by rw[List.append_nil]; exact ha)
end
theorem n5{K:W.Frag}{d:Addr}{ob:Obj}{kvs:List (ak × V)}{cs:St}{tt:TT}{te:TE}{H:Hp}{Q:VK}(Pv:Nat->List V->Hp->Prop)(h0:Pv 0 [] H)(hl : ∀ i ys H,i<=kvs.length->Pv i ys H->H d=some (.frz ob (.dK kvs))/\ys.length<=i)(hz:kvs.length<=sizeLine)
 (hs : ∀ i k v ys H H' (N:List V->Hp->Prop),kvs[i]? = some (k,v)->Pv i ys H->af H H'->(∀ ys' H',Pv (i+1) ys' H'->N ys' H')->tt (some (kV k) :: some v :: cs) H' λb H4=>if b=true then te (some (kV k) :: some v :: cs) H4 λy H5=>N (ys++[y]) H5 else N ys H4)
 (hd : ∀ ys H p H',Pv kvs.length ys H->aI H p (.lst ys) H'->Q (.ref p) H') :
 fI (gq d ob kvs) H (List.replicate 2 none++cs) (iz K 2 (fj (bG 0) (fj (bG 1) jb))) tt te Q:=by
 refine⟨λi m ys σ H=>m=kvs.length - i/\i<=kvs.length/\Pv i ys H/\∃ v0 v1,σ=v0 :: v1 :: cs,⟨kvs.length,by simp,Nat.zero_le _,h0,none,none,rfl⟩,?_⟩
 rintro i m ys σ H2 ⟨rfl,hi,p,v0,v1,rfl⟩
 obtain⟨q,ql⟩:=hl i ys H2 hi p
 by_cases hlt:i < kvs.length
 ·refine .inr ⟨⟨q,hlt⟩,by omega,λys' σ' H'=>Pv (i+1) ys' H'/\∃ v0 v1,σ'=v0 :: v1 :: cs,λys' σ' H' ⟨p',e⟩=>⟨kvs.length - (i+1),by omega,rfl,hlt,p',e⟩,λx H' y=>?_⟩
  obtain⟨pp,k,v,rfl,y,gr⟩:=y
  refine⟨pp,_,rfl,gr.tup,rfl,_,_,rfl,_,_,rfl,rfl,?_⟩
  exact hs i k v ys H2 H' (λys' H'=>Pv (i+1) ys' H'/\∃ v0 v1,some (kV k) :: some v :: cs=v0 :: v1 :: cs) y p gr.sm λ_ _ z=>⟨z,_,_,rfl⟩
 ·have e:i=kvs.length:=by omega
  subst e
  exact .inl ⟨⟨q,Nat.le_refl _⟩,by omega,λp' H' g=>hd ys H2 p' H' p g⟩
def iI(d:Addr)(ob:Obj)(kvs:List (ak × V)):It :=
 ⟨λi H=>H d=some (.frz ob (.dK kvs))/\i < kvs.length,λi H x H'=>H'=H/\∃ k,kvs[i]? = some (k,x),λi H=>H d=some (.frz ob (.dK kvs))/\kvs.length<=i⟩
theorem Cj:entryFor table "dict_valueiterator.__iter__" = some Builtin.«dict_keyiterator.__iter__» :=
 entryFor_alias (id' := "dict_keyiterator.__iter__") (by kernel_rfl) rfl (by decide +kernel) (by kernel_rfl)
theorem vC{P:Program}{w:World}{K:W.Frag}{tg:Expr}(d it:Addr)(ob:Obj)(kvs:List (ak × V))(es:Array DictEntry)(ep:Nat)(he:ob.data=.dict es ep):dX P w K tg (iI d ob kvs) [it] it (λi h=>h.IsValIter it d i kvs.length ep) where
 mem:=by simp
 obj:=λi h st b hb=>by
  have e:b=it:=by simpa using hb
  subst e
  obtain⟨o,e,c,dd⟩:=st
  exact⟨o,e,λv z=>by rw[dd]at z; cases z⟩
 keep:=λi h h' st k=>by
  obtain⟨o,e,c⟩:=st
  exact⟨o,k it (by simp) o e,c⟩
 item:=by
  intro X hP hw hK hc i pins s σ H E I hf st hg
  subst hP hw hK
  obtain⟨hq,hi⟩:=hg
  obtain⟨vs,rel,da⟩:=kg I hq he
  have hl:=rel.length
  obtain⟨⟨k,v⟩,hkv⟩ : ∃ kv,kvs[i]? = some kv:=⟨_,List.getElem?_eq_getElem hi⟩
  obtain⟨⟨k',u⟩,hvs,hk',ru⟩ : ∃ q,vs[i]? = some q/\k=q.1/\ar v q.2:=by
   obtain⟨q,hq2⟩ : ∃ q,vs[i]? = some q:=⟨_,List.getElem?_eq_getElem (by omega)⟩
   exact⟨q,hq2,Paired.nth rel hkv hq2⟩
  obtain⟨f0,f1,f2,f3,f4,f5⟩:=hf it (by simp)
  rw[hl]at st
  refine wpAny_pyNext_values_item st da hvs λh' st' sb=>?_
  have I1:ad X pins σ H { s with heap:=h' }:=I.turned (t':=s.toks) (λb o hb e=>(sb.2 b hb).trans e) f0 f1 f3 f4 f5
  obtain⟨o,e,c,dd⟩:=id st'
  exact⟨u,rfl,ja (s:={ s with heap:=h' }) e c dd (by decide) ⟨v,H,I1,ru,⟨rfl,k,hkv⟩,by rw[hl]; exact st',λb hb=>(hf b hb).1⟩⟩
 done:=by
  intro X hP hw hK hc i pins s σ H E I hf st hg
  subst hP hw hK
  obtain⟨hq,hi⟩:=hg
  obtain⟨vs,rel,da⟩:=kg I hq he
  have hl:=rel.length
  rw[hl]at st
  exact wpAny_pyNext_values_end (I.ok.hd hc) st da (List.getElem?_eq_none (by omega)) λh' eb=>⟨rfl,I.turnedL (t':=s.toks) (fp:=[it]) (λb o hb eo=>eb b o (λz=>hb (by simp[z])) eo) hf⟩
 self:=λA i s Q E st h=>by
  have hT:=st.typeIs
  refine wpAny_pyIter_slot hT PySem.F.slot_dict_valueiterator_iter (wpAny_call_entry PySem.F.slot_dict_valueiterator_iter hT Cj ?_ (PySem.F.args_dict_valueiterator_iter_1 _))
  show wpAny _ _ (ret (.ref it)) _ _ s
  exact wpAny_pure ⟨_,rfl, "dict_valueiterator",_,hT,PySem.F.slot_dict_valueiterator_next.lookup,h⟩
def sP(td:TE):TI:=λσ H R=>td σ H λx H1=>∃ d kvs,x=.ref d/\H1 d=some (.dK kvs)/\∀ ob,R (iI d ob kvs) (upd H1 d (.frz ob (.dK kvs)))
section
variable {X:Cx}{o tg:Expr}{apos cpos:Pos}{td:TE}
theorem yD (ho:PE X o td) (hb:attributeBase o "values" X.env (eval o X.env)=eval o X.env) (hl:(apos.endLine == cpos.line)=true):PI X tg (.Call (.Attribute o "values" apos) [] [] cpos) (sP td):=by
 intro pins s σ H R I h
 refine wpAny_Call_method (T := "dict") (id := "dict.values") hb rfl hl PySem.F.plainAttrs_dict PySem.F.slot_dict_values PySem.F.type_dict_values (ai (ho pins s σ H _ I h) λu s1 ⟨x,H1,I1,rx,d,kvs,ex,hd,q⟩=>?_)
 subst ex
 obtain rfl:u=Value.ref d:=rx
 obtain⟨z,hdS,vs,rel,dd⟩:=ku I1.hok hd
 refine⟨dd.typeIs,dd.mapOf.noDict,?_⟩
 show wpAny _ _ (callWith cpos (.builtin "dict.values") [.ref d] [] []) _ _ s1
 refine method_meetsIn PySem.F.slot_dict_values PySem.F.entry_dict_values rfl (PyProof.Rows.evalArgs_none ⟨rfl,dd.typeIs,PySem.F.args_dict_values_1 _,_,meets_dict_values (bL X.prog X.w) d hdS,⟨vs,dd⟩,?_⟩)
 obtain⟨ep,da⟩:=dd.dictAt
 refine wpAny_pyIter_values (knd:=bL X.prog X.w) (d:=d) (kvs:=vs) (ep:=ep) ⟨_,Heap.get?_push_size _ rfl,rfl,rfl⟩ (da.push _) ?_
 obtain⟨ob,es',ho1,c1,c2,c3⟩:=id da
 have hsz:(s1.heap.push { cls:=.type "dict_values",data:=.fields #[.ref d] }).objs.size=s1.heap.objs.size+1:=Heap.size_push ..
 have k2 : ∀ b o,s1.heap.get? b=some o->((s1.heap.push { cls:=.type "dict_values",data:=.fields #[.ref d] }).push { cls:=.type "dict_valueiterator",data:=.fields #[.ref d,.int 0 0,.int vs.length 0,.int ep 0] }).get? b=some o:=λb o e=>Heap.get?_push_of_some _ (Heap.get?_push_of_some _ e)
 have I2:=I1.kept (t':=s1.toks) k2
 have hd2:=k2 d ob ho1
 have I3:=I2.write (x:=d) (e:=d) (o:=.frz ob (.dK kvs)) (t':=s1.toks) (by rw[hd]; exact True.intro) (.inl rfl) (λb u _ e=>e) ⟨ob,hd2⟩ ⟨hd2,z,hdS,vs,rel,ob,es',ep,hd2,c1,c2,c3⟩
 have hle:s1.heap.objs.size<=(s1.heap.push { cls:=.type "dict_values",data:=.fields #[.ref d] }).objs.size:=by rw[hsz]; exact Nat.le_succ _
 have hdi:d≠(s1.heap.push { cls:=.type "dict_values",data:=.fields #[.ref d] }).objs.size:=by rw[hsz]; exact Nat.ne_of_lt (Nat.lt_succ_of_lt (Heap.lt_size ho1))
 refine⟨_,[_],_,iI d ob kvs,_,rfl,I3,vC d _ ob kvs es' ep c2,⟨_,Heap.get?_push_size _ rfl,rfl,by rw[rel.length]; rfl⟩,λb hb=>?_,q ob⟩
 have hb':b=(s1.heap.push { cls:=.type "dict_values",data:=.fields #[.ref d] }).objs.size:=by simpa using hb
 have f1:=I1.fpOk (b:=b) (by rw[hb']; exact hle) (I1.hok.fresh (by rw[hb']; exact hle))
 obtain⟨f0,f⟩:=f1
 exact⟨by rw[aj (by rw[hb']; exact hdi.symm)]; exact f0,f⟩
theorem xG (ho:QE X o td) (hb:attributeBase o "values" X.env (eval o X.env)=eval o X.env:=by rfl) (hl:(apos.endLine == cpos.line)=true:=by rfl):QI X tg (.Call (.Attribute o "values" apos) [] [] cpos) (sP td):=⟨yD ho.h hb hl⟩
end
section
variable {X:Cx}{pins:List (Addr × Obj)}{σ:St}{H:Hp}{s:Shared}{d:Addr}{ob:Obj}{u:HO}
theorem ad.thaw(I:ad X pins σ H s)(h:H d=some (.frz ob u))(n0 : ∀ o v,X.H₀ d≠some (.frz o v)):ad X pins σ (upd H d u) s:=by
 have nn : ∀ {b:Addr},H b=none->b≠d:=λ{b} e z=>by rw[z,h]at e; cases e
 have nd : ∀ {b:Addr} {v:HO},H b=some v->(∀ o w,v ≠ .frz o w)->b≠d:=λ{b v} e k z=>by
  rw[z,h]at e
  exact k _ _ (Option.some.inj e).symm
 obtain⟨hob,hu⟩:=(show aH X.prog X.w H s.heap d (.frz ob u) from I.hok d _ h)
 have st : ∀ {b:Addr} {v:HO},aH X.prog X.w H s.heap b v->aH X.prog X.w (upd H d u) s.heap b v:=λ{b v} x =>
  x.stay (λc v hc r=>r) (λc r=>by rw[aj (nd r λo w z=>nomatch z)]; exact r) λc xs r=>by rw[aj (nd r λo w z=>nomatch z)]; exact r
 refine⟨I.ok,I.os,I.bare,⟨I.base.keep,I.base.slot,λb o e n hx=>?_,I.base.there,λb xs e=>?_,λb o v e=>?_,λb ps e=>?_⟩,I.loc,I.cell,?_,λx c e=>?_,λp hp=>?_,λb v e=>?_,I.len⟩
 ·have:=I.base.free b o e n hx
  rw[aj (nn this)]
  exact this
 ·have:=I.base.tups b xs e
  rw[aj (nd this λo w z=>nomatch z)]
  exact this
 ·have q:=I.base.frzs b o v e
  rw[aj (show b≠d from λz=>n0 o v (by rw[<- z]; exact e))]
  exact q
 ·obtain⟨m,q⟩:=I.base.tbls b ps e
  exact⟨m,by rw[aj (nd q λo w z=>nomatch z)]; exact q⟩
 ·rw[aj (nn I.free)]; exact I.free
 ·rw[aj (nn (I.freeC x c e))]; exact I.freeC x c e
 ·obtain⟨a1,a2,a3⟩:=I.pin p hp
  exact⟨a1,by rw[aj (nn a2)]; exact a2,a3⟩
 ·by_cases z:b=d
  ·subst z
   rw[aN]at e
   cases e
   exact st hu
  ·rw[aj z]at e
   exact st (I.hok b v e)
def pR(t:TE):TE:=λσ H Q=>∃ d u,(∀ o v,H d≠some (.frz o v))/\t σ H λx H'=>(∃ ob,H' d=some (.frz ob u))/\Q x (upd H' d u)
theorem yN{e:Expr}{t:TE}(h:PE X e t):PE X e (pR t):=by
 intro pins s σ H Q I q
 obtain⟨d,u,nf,q⟩:=q
 refine wpAny_mono (h pins s σ H _ I q) (λv s1 z=>?_) λ_ _ e=>e
 obtain⟨x,H1,I1,r,⟨ob,ho⟩,k⟩:=z
 exact⟨x,_,I1.thaw ho λo v e=>nf o v (I.base.frzs _ _ _ e),r,k⟩
theorem qN{e:Expr}{t:TE}(h:QE X e t):QE X e (pR t):=⟨yN h.h⟩
end
end L2
namespace L2
open PySem PySem.Spec PyProof.Rows PySem.W
structure dL (h:Heap) (d:Addr) (es:Array DictEntry) (ep:Nat):Prop where
 big:(d == sysModules)=false
 obj : ∃ o,h.get? d=some o/\o.ExactDict/\o.data=.dict es ep
section
variable {prog:Program}{w:World}{A:Around}{E:Value->Shared->Prop}{s:Shared}{it d:Addr}{i ep:Nat}{es:Array DictEntry}{ok ov:Value}
theorem jE{h:Heap}{it:Addr}{vs:Array Value}{c x:Value}{i:Nat}(k:h.get? it=some { cls:=c,data:=.fields vs }):(h.update it (Obj.mapFields (·.setIfInBounds i x))).get? it=some { cls:=c,data:=.fields (vs.setIfInBounds i x) }/\Heap.SameBut it h (h.update it (Obj.mapFields (·.setIfInBounds i x))):=by
 refine⟨?_,Heap.SameBut.update ..⟩
 rw[Heap.get?_update_self _ k (Obj.isFreed_of_fields (Obj.data_mapFields rfl _))]
 rfl
theorem xo{e:DictEntry}{Q:Option Value->Shared->Prop}(ki:IsItemIter s.heap it d i es.size ep ok ov)(r:dL s.heap d es ep)(he:es[i]? = some e)
 (q : ∀ h',IsItemIterOut h' it d (i+1) es.size ep e.key e.val s.heap.objs.size->h'.get? s.heap.objs.size=some { cls:=.type "tuple",data:=.seq #[e.key,e.val] }->(∀ b o,b≠it->s.heap.get? b=some o->h'.get? b=some o)->Q (some (.ref s.heap.objs.size)) { s with heap:=h' }):wpAny (model prog w) A (pyNext (.ref it)) Q E s:=by
 have ty:s.TypeIs (.ref it) "dict_itemiterator":=⟨_,ki,rfl⟩
 obtain⟨u,e1,e2,e3⟩:=r.obj
 unfold pyNext
 refine wpAny_bind (wpAny_attempt (wpAny_callSpecial?_slot (name:=Str.ofString "__next__") ty PySem.F.slot_dict_itemiterator_next (wpAny_call_entry PySem.F.slot_dict_itemiterator_next ty PySem.F.entry_dict_itemiterator_next ?_ (PySem.F.args_dict_itemiterator_next_1 _))))
 refine wpAny_bind (wpAny_pure (wpAny_bind (wpAny_bind ?_)))
 first | refine wpAny_bind (wpAny_typeNameOfWhole_itemiter ty (wpAny_pure ?_)) | refine wpAny_bind (wpAny_typeNameOf_itemiter ty (wpAny_pure ?_))
 refine wpAny_bind (wpAny_fieldsOf ki rfl ?_)
 simp only [show Builtin.Dict_items.ownsTuple "dict_itemiterator" = true by decide,if_true]
 show wpAny _ _ (if (Value.ref d == Value.none)=true then _ else _) _ _ _
 rw[if_neg (by intro z; cases z)]
 refine wpAny_bind (wpAny_pure (wpAny_bind (wpAny_dictEntries e1 e3 ?_)))
 rw[if_neg (by simp)]
 refine wpAny_bind (wpAny_pure (wpAny_bind (wpAny_dictEpoch e1 e3 ?_)))
 rw[if_neg (by simp)]
 refine wpAny_pure ?_
 simp only [show ¬ ((i:Int) < 0) by omega,if_false,Int.toNat_natCast,he]
 refine wpAny_bind ?_
 first | refine wpAny_bind (wpAny_typeNameOfWhole_itemiter ty (wpAny_pure ?_)) | refine wpAny_bind (wpAny_typeNameOf_itemiter ty (wpAny_pure ?_))
 refine wpAny_bind (wpAny_isOneOf_itemiter ty ?_)
 show wpAny _ _ (setField (.ref it) 3 (rawInt ((i:Int)+1)) >>= _) _ _ _
 obtain⟨h1,eh1⟩ : ∃ h1,h1=s.heap.update it (Obj.mapFields (·.setIfInBounds 3 (rawInt ((i:Int)+1)))):=⟨_,rfl⟩
 have k1:IsItemIter h1 it d (i+1) es.size ep ok ov:=by
  rw[eh1]
  show _=_
  rw[Heap.get?_update_self _ ki (Obj.isFreed_of_fields (Obj.data_mapFields rfl _))]
  rfl
 have sb1:Heap.SameBut it s.heap h1:=by rw[eh1]; exact Heap.SameBut.update ..
 refine wpAny_bind (wpAny_setField ki rfl (by simp) ?_)
 rw[<- eh1]
 clear eh1
 have ty1:(Shared.TypeIs { s with heap:=h1 } (.ref it) "dict_itemiterator"):=⟨_,k1,rfl⟩
 refine wpAny_bind (wpAny_holding (wpAny_bind (wpAny_isOneOf_itemiter (s:={ s with heap:=h1 }) ty1 ?_)))
 rw[if_neg (by decide)]
 refine wpAny_bind (wpAny_isOneOf_itemiter (s:={ s with heap:=h1 }) ty1 ?_)
 rw[if_neg (by decide)]
 unfold Builtin.Dict_items.pairFromOwner
 refine wpAny_bind (wpAny_newTuple ?_ (by show 2<=_; decide))
 have hz:h1.objs.size=s.heap.objs.size:=sb1.1
 obtain⟨h2,eh2⟩ : ∃ h2,h2=h1.push { cls:=.type "tuple",data:=.seq [e.key,e.val].toArray }:=⟨_,rfl⟩
 have k2:IsItemIter h2 it d (i+1) es.size ep ok ov:=by rw[eh2]; exact Heap.get?_push_of_some _ k1
 have t2:h2.get? s.heap.objs.size=some { cls:=.type "tuple",data:=.seq #[e.key,e.val] }:=by rw[eh2,<- hz]; exact Heap.get?_push_size _ rfl
 have kp2 : ∀ b o,b≠it->s.heap.get? b=some o->h2.get? b=some o:=λb o hb z=>by rw[eh2]; exact Heap.get?_push_of_some _ ((sb1.2 b hb).trans z)
 rw[<- eh2]
 dsimp only
 rw[hz]
 clear eh2
 unfold Builtin.Dict_items.ownedTupleIsFree
 refine wpAny_bind (wpAny_bind (wpAny_field (s:={ s with heap:=h2 }) (x:=.none) k2 rfl rfl (wpAny_pure ?_)))
 show wpAny _ _ (if true=true then _ else _) _ _ _
 rw[if_pos rfl]
 refine wpAny_bind (wpAny_field (s:={ s with heap:=h2 }) (x:=ok) k2 rfl rfl ?_)
 refine wpAny_bind (wpAny_field (s:={ s with heap:=h2 }) (x:=ov) k2 rfl rfl ?_)
 obtain⟨k3,b3⟩:=jE (i:=6) (x:=e.key) k2
 refine wpAny_bind (wpAny_setField (s:={ s with heap:=h2 }) k2 rfl (by simp) ?_)
 generalize (h2.update it (Obj.mapFields (·.setIfInBounds 6 e.key)))=h3 at k3 b3 ⊢
 obtain⟨k4,b4⟩:=jE (i:=7) (x:=e.val) k3
 refine wpAny_bind (wpAny_setField (s:={ s with heap:=h3 }) k3 rfl (by simp) ?_)
 generalize (h3.update it (Obj.mapFields (·.setIfInBounds 7 e.val)))=h4 at k4 b4 ⊢
 obtain⟨k5,b5⟩:=jE (i:=0) (x:=rawInt (s.heap.objs.size:Nat)) k4
 refine wpAny_bind (wpAny_setField (s:={ s with heap:=h4 }) k4 rfl (by simp) ?_)
 generalize (h4.update it (Obj.mapFields (·.setIfInBounds 0 (rawInt (s.heap.objs.size:Nat)))))=h5 at k5 b5 ⊢
 obtain⟨k6,b6⟩:=jE (i:=1) (x:=.bool false) k5
 refine wpAny_bind (wpAny_setField (s:={ s with heap:=h5 }) k5 rfl (by simp) ?_)
 generalize (h5.update it (Obj.mapFields (·.setIfInBounds 1 (.bool false))))=h6 at k6 b6 ⊢
 refine wpAny_bind (wpAny_letGo (wpAny_pure ?_))
 have kk : ∀ b,b≠it->h6.get? b=h2.get? b:=λb hb=>(b6.2 b hb).trans ((b5.2 b hb).trans ((b4.2 b hb).trans (b3.2 b hb)))
 have nt:s.heap.objs.size≠it:=Nat.ne_of_gt (Heap.lt_size ki)
 exact wpAny_pure ⟨_,rfl,wpAny_pure (q h6 k6 ((kk _ nt).trans t2) λb o hb z=>(kk b hb).trans (kp2 b o hb z))⟩
theorem xp{Q:Option Value->Shared->Prop}(hh:A.handled=none)(ki:IsItemIter s.heap it d i es.size ep ok ov)(r:dL s.heap d es ep)(he:es.size<=i)(q : ∀ h',Heap.ExtBut it s.heap h'->Q none { s with heap:=h' }):wpAny (model prog w) A (pyNext (.ref it)) Q E s:=by
 have ty:s.TypeIs (.ref it) "dict_itemiterator":=⟨_,ki,rfl⟩
 obtain⟨u,e1,e2,e3⟩:=r.obj
 unfold pyNext
 refine wpAny_bind (wpAny_attempt (wpAny_callSpecial?_slot (name:=Str.ofString "__next__") ty PySem.F.slot_dict_itemiterator_next (wpAny_call_entry PySem.F.slot_dict_itemiterator_next ty PySem.F.entry_dict_itemiterator_next ?_ (PySem.F.args_dict_itemiterator_next_1 _))))
 refine wpAny_bind (wpAny_pure (wpAny_bind (wpAny_bind ?_)))
 first | refine wpAny_bind (wpAny_typeNameOfWhole_itemiter ty (wpAny_pure ?_)) | refine wpAny_bind (wpAny_typeNameOf_itemiter ty (wpAny_pure ?_))
 refine wpAny_bind (wpAny_fieldsOf ki rfl ?_)
 simp only [show Builtin.Dict_items.ownsTuple "dict_itemiterator" = true by decide,if_true]
 show wpAny _ _ (if (Value.ref d == Value.none)=true then _ else _) _ _ _
 rw[if_neg (by intro z; cases z)]
 refine wpAny_bind (wpAny_pure (wpAny_bind (wpAny_dictEntries e1 e3 ?_)))
 rw[if_neg (by simp)]
 refine wpAny_bind (wpAny_pure (wpAny_bind (wpAny_dictEpoch e1 e3 ?_)))
 rw[if_neg (by simp)]
 refine wpAny_pure ?_
 simp only [show ¬ ((i:Int) < 0) by omega,if_false,Int.toNat_natCast,Array.getElem?_eq_none he]
 refine wpAny_bind ?_
 first | refine wpAny_bind (wpAny_typeNameOfWhole_itemiter ty (wpAny_pure ?_)) | refine wpAny_bind (wpAny_typeNameOf_itemiter ty (wpAny_pure ?_))
 show wpAny _ _ (setField (.ref it) 2 .none >>= _) _ _ _
 refine wpAny_bind (wpAny_setField ki rfl (by simp) ?_)
 show wpAny _ _ (newExc (.type "StopIteration") [] >>= _) _ _ _
 refine wpAny_bind ?_
 simp only [newExc,newTuple]
 refine wpAny_bind (wpAny_newObj_type ?_ (by size_fits))
 refine wpAny_bind (m:=firstArgMember _ _) (wpAny_of_eq (a:=Value.none) (by first | rfl | (simp only [firstArgMember]; rfl)) (wpAny_newObj_type ?_ (by size_fits)))
 simp only [raiseNew]
 refine wpAny_bind (wpAny_handled ?_)
 rw[show A.in1.handled=none from hh]
 refine wpAny_bind (wpAny_pure (wpAny_throw ?_))
 refine wpAny_bind (wpAny_isInstance (T := "StopIteration") (b:=true) ⟨_,Heap.get?_push_size _ rfl,by rfl⟩ isSubtype_stop ?_)
 exact wpAny_pure (q _ (((Heap.SameBut.update ..).extBut.push _).push _))
theorem zL(d:Addr)(lo:(d == sysModules)=false):MeetsIn prog w (Builtin.«dict.items» { pos:=[Value.ref d] }) λx R s=>s.TypeIs (.ref d) "dict"/\R (Except.ok (Flow.ret (Value.ref s.heap.objs.size))) { s with heap:=s.heap.push { cls:=Value.type "dict_items",data:=Data.fields #[Value.ref d] } }:=by
 intro A R s ⟨ty,q⟩
 unfold Builtin.«dict.items» Builtin.Dict.noArgs
 refine wpAny_bind (wpAny_bind (wpAny_notOrdered_dict ty ?_))
 refine wpAny_bind (m:=Builtin.Dict.nameIsSure _ _ _) ?_
 show wpAny _ _ (pure ()) _ _ _
 refine wpAny_pure ?_
 refine wpAny_bind (m:=selfOnly _ _) ?_
 show wpAny _ _ (pure (Value.ref d)) _ _ _
 refine wpAny_pure ?_
 show wpAny _ _ (pure d) _ _ _
 refine wpAny_pure ?_
 unfold Builtin.Dict.showsAll
 rw[if_neg (by rw[lo]; decide)]
 refine wpAny_bind (wpAny_pure (wpAny_bind (wpAny_newObj_type (wpAny_pure q))))
theorem xn{v:Addr}{Q:Value->Shared->Prop}(hv:s.heap.IsItemsView v d)(r:dL s.heap d es ep)(q:Q (.ref s.heap.objs.size) { s with heap:=s.heap.push { cls:=.type "dict_itemiterator",data:=.fields #[.none,.bool false,.ref d,.int 0 0,.int es.size 0,.int ep 0,.none,.none] } }):wpAny (model prog w) A (pyIter (.ref v)) Q E s:=by
 obtain⟨o,v1,v2,v3⟩:=id hv
 have ty:s.TypeIs (.ref v) "dict_items":=⟨o,v1,v2⟩
 obtain⟨u,e1,e2,e3⟩:=r.obj
 refine wpAny_pyIter_slot ty PySem.F.slot_dict_items_iter (wpAny_call_entry PySem.F.slot_dict_items_iter ty PySem.F.entry_dict_items_iter ?_ (PySem.F.args_dict_items_iter_1 _))
 unfold Builtin.«dict_items.__iter__» Builtin.Dict_items.slot0
 refine wpAny_bind (wpAny_bind ?_)
 show wpAny _ _ (pure (Value.ref v,[])) _ _ _
 refine wpAny_pure (wpAny_pure ?_)
 unfold Builtin.Dict_items.dictOf
 refine wpAny_bind (wpAny_bind (wpAny_field (x:=.ref d) v1 v3 rfl ?_))
 show wpAny _ _ (pure d) _ _ _
 refine wpAny_pure ?_
 unfold Builtin.Dict_items.newIterator
 refine wpAny_bind (wpAny_bind (wpAny_dictEntries e1 e3 (wpAny_bind (wpAny_dictEpoch e1 e3 ?_))))
 refine wpAny_newObj_type (wpAny_pure ⟨_,rfl, "dict_itemiterator",_,⟨_,Heap.get?_push_size _ rfl,rfl⟩,PySem.F.slot_dict_itemiterator_next.lookup,?_⟩) (by show (8:Nat)<=sizeLine+2; decide)
 exact q
end
section
variable {prog:Program}{w:World}
def cr(prog:Program)(w:World)(h:Heap)(k:List Int × List Int)(a:Addr):Prop :=
 ∃ (o:Obj) (c b n:Nat),h.get? a=some o/\o.cls=.type "tuple"/\o.data=.seq #[.ref c,.ref b] n/\IsTupleKey (intKind prog w) h k.1 c/\IsTupleKey (intKind prog w) h k.2 b
theorem cr.ty {s:Shared} {k:List Int × List Int} {a:Addr} (x:cr prog w s.heap k a):s.TypeIs (.ref a) "tuple":=by
 obtain⟨o,c,b,n,h1,h2,_⟩:=x
 exact⟨o,h1,h2⟩
theorem cr.one{h:Heap}{a:Addr}{x y:List Int × List Int}(hx:cr prog w h x a)(hy:cr prog w h y a):x=y:=by
 obtain⟨o,c,b,n,h1,_,h3,h0,h4⟩:=hx
 obtain⟨o',c',b',n',g1,_,g3,g0,g4⟩:=hy
 rw[h1]at g1; cases g1
 rw[h3]at g3
 injection g3 with e _
 injection e with e
 injection e with e1 e2
 injection e1 with e1
 injection e2 with e2 _
 injection e2 with e2
 subst e1
 subst e2
 exact Prod.ext (h0.inj g0) (h4.inj g4)
theorem cr.stay{h h':Heap}{k:List Int × List Int}{a d:Addr}{o:Obj}{es:Array DictEntry}{ep:Nat}(x:cr prog w h k a)(ho:h.get? d=some o)(hd:o.data=.dict es ep)(sb:Heap.SameBut d h h'):cr prog w h' k a:=by
 obtain⟨u,c,b,n,h1,h2,h3,h0,h4⟩:=x
 refine⟨u,c,b,n,(sb.2 a ?_).trans h1,h2,h3,h0.keeps ho hd sb,h4.keeps ho hd sb⟩
 intro z
 subst z
 rw[h1]at ho; cases ho
 rw[hd]at h3; cases h3
variable {A:Around}{E:Value->Shared->Prop}{s:Shared}
def rc(prog:Program)(w:World)(k:List Int × List Int):Int:=reduceHash (Builtin.Tuple.tupleHashOf [tupleKeyHash (intKind prog w) k.1,tupleKeyHash (intKind prog w) k.2])
theorem yb{k:List Int × List Int}{a:Addr}{Q:Int->Shared->Prop}(hu:A.units+8 < cLine)(hk:cr prog w s.heap k a)(q:Q (rc prog w k) { s with toks:=s.toks+(k.1.length+k.2.length+3) }):wpAny (model prog w) A (pyHash (.ref a)) Q E s:=by
 have ty:=hk.ty
 obtain⟨o,c,b,n,h1,h2,h3,h0,h4⟩:=hk
 unfold pyHash
 first | unfold pyHashByItsType | skip
 first | refine wpAny_bind (wpAny_cRoomFor_or (.inr (by omega)) ?_) | skip
 refine wpAny_bind (wpAny_specialOf ty PySem.F.slot_tuple_hash.lookup ?_)
 show wpAny _ _ (if (some (Value.builtin "tuple.__hash__") == some Value.none)=true then _ else _) _ _ _
 rw[if_neg (by rw[beq_builtin_none]; decide)]
 refine wpAny_bind (wpAny_specialOf ty PySem.F.slot_tuple_hash.lookup ?_)
 show wpAny _ _ (callSpecialIfBoundUnlessNone? (.ref a) "__hash__" _ >>= _) _ _ _
 refine wpAny_bind (wpAny_callSpecialIfBoundUnlessNone?_slot ty PySem.F.slot_tuple_hash (wpAny_call_entry PySem.F.slot_tuple_hash ty PySem.F.entry_tuple_hash ?_ (PySem.F.args_tuple_hash_1 _)))
 show wpAny _ _ (Builtin.Tuple.tupleItemsOf (.ref a) >>= _) _ _ _
 refine wpAny_bind (wpAny_tupleItemsOf h1 h3 ?_)
 refine wpAny_bind ?_
 rw[<- Array.forIn_toList]
 rw[List.forIn_cons]
 refine wpAny_bind (wpAny_bind (wpAny_pyHash_tuple (knd:=intKind prog w) (ks:=k.1) ?_ h0 ?_))
 ·show A.units+1 < cLine
  omega
 first
  | refine wpAny_pure ?_
  | refine wpAny_bind (wpAny_pure (wpAny_pure ?_))
 dsimp only
 rw[List.forIn_cons]
 refine wpAny_bind (wpAny_bind (wpAny_pyHash_tuple (knd:=intKind prog w) (ks:=k.2) ?_ h4 ?_))
 ·show A.units+1 < cLine
  omega
 first
  | refine wpAny_pure ?_
  | refine wpAny_bind (wpAny_pure (wpAny_pure ?_))
 dsimp only
 rw[List.forIn_nil]
 refine wpAny_pure ?_
 refine wpAny_ret_mkInt ?_
 have e:((#[].push (tupleKeyHash (intKind prog w) k.1)).push (tupleKeyHash (intKind prog w) k.2)).toList=[tupleKeyHash (intKind prog w) k.1,tupleKeyHash (intKind prog w) k.2]:=rfl
 rw[e]
 generalize eH:Builtin.Tuple.tupleHashOf [tupleKeyHash (intKind prog w) k.1,tupleKeyHash (intKind prog w) k.2]=N
 have q':Q (reduceHash N) { s with toks:=s.toks+(k.1.length+k.2.length+3) }:=by rw[<- eH]; exact q
 unfold reduceHash at q'
 have et:s.toks+(k.1.length+1)+(k.2.length+1)+1=s.toks+(k.1.length+k.2.length+3):=by omega
 show wpAny _ _ (if (decide (-(2:Int) ^ 63<=N) && decide (N < 2 ^ 63))=true then _ else _) _ _ { s with toks:=s.toks+(k.1.length+1)+(k.2.length+1)+1 }
 rw[et]
 split
 ·rename_i c
  rw[if_pos c]at q'
  exact wpAny_pure q'
 ·rename_i c
  rw[if_neg c]at q'
  exact wpAny_bind (wpAny_rule (wpAny_pure q'))
theorem yc{x y:List Int × List Int}{a b:Addr}{P:Fin->Shared->Prop}(hu:A.units+4 < cLine)(hx:cr prog w s.heap x a)(hy:cr prog w s.heap y b)(q:P (.done (.ret (.bool (decide (x=y))))) s) :
 wpAny (model prog w) A (Builtin.«tuple.__eq__» ⟨[.ref a,.ref b],[]⟩) P E s:=by
 have ty:=hy.ty
 obtain⟨o,t,c,n,h1,h2,h3,h0,h4⟩:=hx
 obtain⟨o',t',c',n',g1,g2,g3,g0,g4⟩:=hy
 show wpAny _ _ (isInstance (.ref b) (.type "tuple") >>= _) _ _ _
 refine wpAny_bind (wpAny_isInstance ty isSubtype_tuple_tuple ?_)
 simp only [Bool.not_true,Bool.false_eq_true,if_false]
 refine wpAny_bind (wpAny_tupleItemsOf h1 h3 ?_)
 refine wpAny_bind (wpAny_tupleItemsOf g1 g3 ?_)
 refine wpAny_bind ?_
 show wpAny _ _ (forIn [(Value.ref t,Value.ref t'),(Value.ref c,Value.ref c')] _ _) _ _ _
 rw[List.forIn_cons]
 refine wpAny_bind (wpAny_bind (wpAny_eqBool_tuple (knd:=intKind prog w) (x:=x.1) (y:=y.1) (by omega) h0 g0 ?_))
 by_cases e1:x.1=y.1
 ·rw[decide_eq_true e1]
  simp only [Bool.not_true,Bool.false_eq_true,if_false]
  refine wpAny_pure ?_
  dsimp only
  rw[List.forIn_cons]
  refine wpAny_bind (wpAny_bind (wpAny_eqBool_tuple (knd:=intKind prog w) (x:=x.2) (y:=y.2) (by omega) h4 g4 ?_))
  by_cases e2:x.2=y.2
  ·rw[decide_eq_true e2]
   simp only [Bool.not_true,Bool.false_eq_true,if_false]
   refine wpAny_pure ?_
   dsimp only
   rw[List.forIn_nil]
   refine wpAny_pure (wpAny_pure ?_)
   rw[decide_eq_true (Prod.ext e1 e2)]at q
   exact q
  ·rw[decide_eq_false e2]
   simp only [Bool.not_false,if_true]
   rw[decide_eq_false (λz=>e2 (by rw[z]))]at q
   exact wpAny_bind (wpAny_pure (wpAny_pure (wpAny_pure (wpAny_pure q))))
 ·rw[decide_eq_false e1]
  simp only [Bool.not_false,if_true]
  rw[decide_eq_false (λz=>e1 (by rw[z]))]at q
  exact wpAny_bind (wpAny_pure (wpAny_pure (wpAny_pure (wpAny_pure q))))
theorem yd{x y:List Int × List Int}{a b:Addr}{Q:Bool->Shared->Prop}(hu:A.units+8 < cLine)(hx:cr prog w s.heap x a)(hy:cr prog w s.heap y b)(q:Q (decide (x=y)) s):wpAny (model prog w) A (eqBool (.ref a) (.ref b)) Q E s:=by
 unfold eqBool
 try with_reducible refine wpAny_holding ?_
 show wpAny _ _ (if (Value.ref a == Value.ref b)=true then _ else _) _ _ _
 by_cases e:(Value.ref a == Value.ref b)=true
 ·rw[if_pos e]
  have z:a=b:=by
   have:=eq_of_beq e
   injection this
  subst z
  obtain rfl:=hx.one hy
  rw[decide_eq_true rfl]at q
  exact wpAny_bind (wpAny_rule (wpAny_pure q))
 ·rw[if_neg e]
  exact wpAny_bind (wpAny_richCompare_same_room (op:=.Eq) hx.ty hy.ty PySem.F.slot_tuple_eq (wpAny_call_entry PySem.F.slot_tuple_eq hx.ty PySem.F.entry_tuple_eq (yc (by show A.units+1+4 < cLine; omega) hx hy ⟨_,rfl,nofun,wpAny_truthy_bool q⟩) (PySem.F.args_tuple_eq_2 _ _)) (by omega))
theorem qL(n:Nat){ks:List Int}{a:Addr}{Q:Bool->Shared->Prop}(hk:IsTupleKey (intKind prog w) s.heap ks a)(q:Q true s):wpAny (model prog w) A (eqIsQuiet (n+1) (.ref a)) Q E s:=by
 have ty:=hk.typeIs
 obtain⟨o,its,m,h1,_,h3,h4⟩:=hk
 unfold eqIsQuiet
 refine wpAny_bind (wpAny_specialOf ty PySem.F.slot_tuple_eq.lookup ?_)
 show wpAny _ _ (isInstance (.ref a) (.type "tuple") >>= _) _ _ _
 refine wpAny_bind (wpAny_isInstance ty isSubtype_tuple_tuple ?_)
 simp only [Bool.not_true,Bool.false_eq_true,if_false]
 refine wpAny_bind (wpAny_seqItems h1 h3 ?_)
 refine wpAny_bind ?_
 show wpAny _ _ (forIn its _ _) _ _ _
 rw[<- Array.forIn_toList]
 refine wpAny_forIn_list _ (λl r s'=>r.1=none/\s'=s/\∀ v∈l,carriedByValue v=true) _ ?_ ?_ _ _ ⟨rfl,rfl,h4.byValue⟩
 ·rintro v l r s' ⟨hr,rfl,al⟩
  rw[eqIsQuiet_byValue _ (al v (List.mem_cons_self ..))]
  refine wpAny_bind (wpAny_pure ?_)
  simp only [Bool.not_true,Bool.false_eq_true,if_false]
  exact wpAny_pure ⟨rfl,rfl,λu z=>al u (List.mem_cons_of_mem _ z)⟩
 ·rintro⟨r1,r2⟩ s' ⟨hr,rfl,_⟩
  obtain rfl:r1=none:=hr
  exact wpAny_pure q
theorem ya{k:List Int × List Int}{a:Addr}{Q:Bool->Shared->Prop}(hk:cr prog w s.heap k a)(q:Q true s):wpAny (model prog w) A (eqIsQuiet 8 (.ref a)) Q E s:=by
 have ty:=hk.ty
 obtain⟨o,c,b,n,h1,h2,h3,h0,h4⟩:=hk
 unfold eqIsQuiet
 refine wpAny_bind (wpAny_specialOf ty PySem.F.slot_tuple_eq.lookup ?_)
 show wpAny _ _ (isInstance (.ref a) (.type "tuple") >>= _) _ _ _
 refine wpAny_bind (wpAny_isInstance ty isSubtype_tuple_tuple ?_)
 simp only [Bool.not_true,Bool.false_eq_true,if_false]
 refine wpAny_bind (wpAny_seqItems h1 h3 ?_)
 refine wpAny_bind ?_
 show wpAny _ _ (forIn #[Value.ref c,Value.ref b] _ _) _ _ _
 rw[<- Array.forIn_toList]
 rw[List.forIn_cons]
 refine wpAny_bind (wpAny_bind (qL 6 h0 ?_))
 simp only [Bool.not_true,Bool.false_eq_true,if_false]
 refine wpAny_pure ?_
 dsimp only
 rw[List.forIn_cons]
 refine wpAny_bind (wpAny_bind (qL 6 h4 ?_))
 simp only [Bool.not_true,Bool.false_eq_true,if_false]
 refine wpAny_pure ?_
 dsimp only
 rw[List.forIn_nil]
 exact wpAny_pure (wpAny_pure q)
def ij(prog:Program)(w:World):HeapKind prog w (List Int × List Int) where
 is:=cr prog w
 hash:=rc prog w
 draws:=λk=>k.1.length+k.2.length+3
 room:=λA=>A.units+8 < cLine
 inj:=λx y=>x.one y
 keeps:=λx ho hd sb=>x.stay ho hd sb
 pyHash:=λhu hk q=>yb hu hk q
 eqBool:=λhu hx hy q=>yd hu hx hy q
 quiet:=λhk q=>ya hk q
end
structure cA (h:Heap) (d:Addr) (es:Array DictEntry) (ep:Nat):Prop where
 big:(d == sysModules)=false
 obj : ∃ o,h.get? d=some o/\o.ExactDict/\o.data=.dict es ep
theorem cA.ty {s:Shared} {d:Addr} {es:Array DictEntry} {ep:Nat} (r:cA s.heap d es ep):s.TypeIs (.ref d) "dict":=by
 obtain⟨o,e,c,_⟩:=r.obj
 exact⟨o,e,c.1⟩
theorem cA.to{h h':Heap}{d:Addr}{es:Array DictEntry}{ep:Nat}(r:cA h d es ep)(k : ∀ o,h.get? d=some o->h'.get? d=some o):cA h' d es ep:=by
 obtain⟨b,o,e,c⟩:=r
 exact⟨b,o,k o e,c⟩
theorem cA.lt{h:Heap}{d:Addr}{es:Array DictEntry}{ep:Nat}(r:cA h d es ep):d < h.objs.size:=by
 obtain⟨o,e,_⟩:=r.obj
 exact Heap.lt_size e
section
variable {prog:Program}{w:World}{A:Around}{E:Value->Shared->Prop}{s:Shared}{it d:Addr}{i ep:Nat}{es:Array DictEntry}
theorem jK{Q:Value->Shared->Prop}(r:cA s.heap d es ep)(q:Q (.ref s.heap.objs.size) { s with heap:=s.heap.push { cls:=.type "dict_keyiterator",data:=.fields #[.ref d,.int 0 0,.int es.size 0,.int ep 0] } }):wpAny (model prog w) A (pyIter (.ref d)) Q E s:=by
 have ty:=r.ty
 obtain⟨o,e1,e2,e3⟩:=r.obj
 refine wpAny_pyIter_slot ty PySem.F.slot_dict_iter (wpAny_call_entry PySem.F.slot_dict_iter ty PySem.F.entry_dict_iter ?_ (PySem.F.args_dict_iter_1 _))
 unfold Builtin.«dict.__iter__» Builtin.Dict.dictSlotNone
 refine wpAny_bind (wpAny_bind (wpAny_notOrdered_dict ty ?_))
 show wpAny _ _ (pure (Value.ref d)) _ _ _
 refine wpAny_pure ?_
 show wpAny _ _ (Builtin.Dict.showsAll d >>= _) _ _ _
 unfold Builtin.Dict.showsAll
 rw[if_neg (by rw[r.big]; decide)]
 refine wpAny_bind (wpAny_pure (wpAny_bind (wpAny_dictEntries e1 e3 (wpAny_bind (wpAny_dictEpoch e1 e3 ?_)))))
 refine wpAny_bind (wpAny_newObj_type (wpAny_pure ⟨_,rfl, "dict_keyiterator",_,⟨_,Heap.get?_push_size _ rfl,rfl⟩,PySem.F.slot_dict_keyiterator_next.lookup,?_⟩))
 exact q
theorem iU{e:DictEntry}{Q:Option Value->Shared->Prop}(ki:s.heap.IsKeyIter it d i es.size ep)(r:cA s.heap d es ep)(he:es[i]? = some e)
 (q : ∀ h',h'.IsKeyIter it d (i+1) es.size ep->Heap.SameBut it s.heap h'->Q (some e.key) { s with heap:=h' }):wpAny (model prog w) A (pyNext (.ref it)) Q E s:=by
 obtain⟨o,k1,k2,k3⟩:=id ki
 obtain⟨u,e1,e2,e3⟩:=r.obj
 unfold pyNext
 refine wpAny_bind (wpAny_attempt (wpAny_callSpecial?_slot (name:=Str.ofString "__next__") ki.typeIs PySem.F.slot_dict_keyiterator_next (wpAny_call_entry PySem.F.slot_dict_keyiterator_next ki.typeIs PySem.F.entry_dict_keyiterator_next ?_ (PySem.F.args_dict_keyiterator_next_1 _))))
 refine wpAny_bind (wpAny_pure (wpAny_bind (wpAny_bind ?_)))
 first | refine wpAny_bind (wpAny_typeNameOfWhole_keyiter ki.typeIs (wpAny_pure ?_)) | refine wpAny_bind (wpAny_typeNameOf_keyiter ki.typeIs (wpAny_pure ?_))
 refine wpAny_bind (wpAny_fieldsOf k1 k3 ?_)
 simp only [show Builtin.Dict_items.ownsTuple "dict_keyiterator" = false by decide,Bool.false_eq_true,if_false]
 show wpAny _ _ (if (Value.ref d == Value.none)=true then _ else _) _ _ _
 rw[if_neg (by intro z; cases z)]
 refine wpAny_bind (wpAny_pure (wpAny_bind (wpAny_dictEntries e1 e3 ?_)))
 rw[if_neg (by simp)]
 refine wpAny_bind (wpAny_pure (wpAny_bind (wpAny_dictEpoch e1 e3 ?_)))
 rw[if_neg (by simp)]
 refine wpAny_pure ?_
 simp only [show ¬ ((i:Int) < 0) by omega,if_false,Int.toNat_natCast,he]
 refine wpAny_bind ?_
 first | refine wpAny_bind (wpAny_typeNameOfWhole_keyiter ki.typeIs (wpAny_pure ?_)) | refine wpAny_bind (wpAny_typeNameOf_keyiter ki.typeIs (wpAny_pure ?_))
 refine wpAny_bind (wpAny_isOneOf_keyiter ki.typeIs ?_)
 show wpAny _ _ (setField (.ref it) 1 (rawInt ((i:Int)+1)) >>= _) _ _ _
 refine wpAny_bind (wpAny_setField k1 k3 (by simp) ?_)
 have nx:(s.heap.update it (Obj.mapFields (·.setIfInBounds 1 (rawInt ((i:Int)+1))))).IsKeyIter it d (i+1) es.size ep:=⟨_,Heap.get?_update_self _ k1 (Obj.isFreed_of_fields (Obj.data_mapFields k3 _)),(Obj.cls_mapFields ..).trans k2,by rw[Obj.data_mapFields k3]; simp[rawInt]⟩
 refine wpAny_bind (wpAny_holding (wpAny_bind (wpAny_isOneOf_keyiter (s:={ s with heap:=s.heap.update it (Obj.mapFields (·.setIfInBounds 1 (rawInt ((i:Int)+1)))) }) nx.typeIs ?_)))
 show wpAny _ _ (pure e.key) _ _ _
 exact wpAny_pure (wpAny_pure ⟨_,rfl,wpAny_pure (q _ nx (Heap.SameBut.update ..))⟩)
theorem jL{Q:Option Value->Shared->Prop}(hh:A.handled=none)(ki:s.heap.IsKeyIter it d i es.size ep)(r:cA s.heap d es ep)(he:es.size<=i)(q : ∀ h',Heap.ExtBut it s.heap h'->Q none { s with heap:=h' }):wpAny (model prog w) A (pyNext (.ref it)) Q E s:=by
 obtain⟨o,k1,k2,k3⟩:=id ki
 obtain⟨u,e1,e2,e3⟩:=r.obj
 unfold pyNext
 refine wpAny_bind (wpAny_attempt (wpAny_callSpecial?_slot (name:=Str.ofString "__next__") ki.typeIs PySem.F.slot_dict_keyiterator_next (wpAny_call_entry PySem.F.slot_dict_keyiterator_next ki.typeIs PySem.F.entry_dict_keyiterator_next ?_ (PySem.F.args_dict_keyiterator_next_1 _))))
 refine wpAny_bind (wpAny_pure (wpAny_bind (wpAny_bind ?_)))
 first | refine wpAny_bind (wpAny_typeNameOfWhole_keyiter ki.typeIs (wpAny_pure ?_)) | refine wpAny_bind (wpAny_typeNameOf_keyiter ki.typeIs (wpAny_pure ?_))
 refine wpAny_bind (wpAny_fieldsOf k1 k3 ?_)
 simp only [show Builtin.Dict_items.ownsTuple "dict_keyiterator" = false by decide,Bool.false_eq_true,if_false]
 show wpAny _ _ (if (Value.ref d == Value.none)=true then _ else _) _ _ _
 rw[if_neg (by intro z; cases z)]
 refine wpAny_bind (wpAny_pure (wpAny_bind (wpAny_dictEntries e1 e3 ?_)))
 rw[if_neg (by simp)]
 refine wpAny_bind (wpAny_pure (wpAny_bind (wpAny_dictEpoch e1 e3 ?_)))
 rw[if_neg (by simp)]
 refine wpAny_pure ?_
 simp only [show ¬ ((i:Int) < 0) by omega,if_false,Int.toNat_natCast,Array.getElem?_eq_none he]
 refine wpAny_bind ?_
 first | refine wpAny_bind (wpAny_typeNameOfWhole_keyiter ki.typeIs (wpAny_pure ?_)) | refine wpAny_bind (wpAny_typeNameOf_keyiter ki.typeIs (wpAny_pure ?_))
 show wpAny _ _ (setField (.ref it) 0 .none >>= _) _ _ _
 refine wpAny_bind (wpAny_setField k1 k3 (by simp) ?_)
 show wpAny _ _ (newExc (.type "StopIteration") [] >>= _) _ _ _
 refine wpAny_bind ?_
 simp only [newExc,newTuple]
 refine wpAny_bind (wpAny_newObj_type ?_ (by size_fits))
 refine wpAny_bind (m:=firstArgMember _ _) (wpAny_of_eq (a:=Value.none) (by first | rfl | (simp only [firstArgMember]; rfl)) (wpAny_newObj_type ?_ (by size_fits)))
 simp only [raiseNew]
 refine wpAny_bind (wpAny_handled ?_)
 rw[show A.in1.handled=none from hh]
 refine wpAny_bind (wpAny_pure (wpAny_throw ?_))
 refine wpAny_bind (wpAny_isInstance (T := "StopIteration") (b:=true) ⟨_,Heap.get?_push_size _ rfl,by rfl⟩ isSubtype_stop ?_)
 exact wpAny_pure (q _ (((Heap.SameBut.update ..).extBut.push _).push _))
end
abbrev aa:=List Int × List Int
def bC(x:aa × Addr × Value):DictEntry:=⟨reduceHash (Builtin.Tuple.tupleHashOf [reduceHash (Builtin.Tuple.tupleHashOf (x.1.1.map hashInt)),reduceHash (Builtin.Tuple.tupleHashOf (x.1.2.map hashInt))]),.ref x.2.1,x.2.2⟩
theorem re(P:Program)(w:World):entryOfKey (ij P w)=bC:=rfl
def c8(a:Addr)(xs:List (aa × Addr × Value))(ep:Nat):HO:=.ext λh=>cA h a (xs.map bC).toArray ep
def aC(H:Hp)(k:aa)(p:Addr):Prop:=∃ c b,H p=some (.tup [.ref c,.ref b])/\H c=some (.tup (k.1.map V.int))/\H b=some (.tup (k.2.map V.int))
abbrev KP:List (aa × Addr × V)->List (aa × Addr × Value)->Prop:=Paired λp q=>p.1=q.1/\p.2.1=q.2.1/\ar p.2.2 q.2.2
structure DP (H:Hp) (a:Addr) (kvs:List (aa × Addr × V)):Prop where
 ex : ∃ xs ep,H a=some (c8 a xs ep)/\KP kvs xs
 key : ∀ x∈kvs,aC H x.1 x.2.1
 nd:(kvs.map (·.1)).Nodup
 le:kvs.length<=sizeLine
theorem aC.same{H H':Hp}{k:aa}{p:Addr}(s:af H H')(h:aC H k p):aC H' k p:=by
 obtain⟨c,b,h1,h0,h2⟩:=h
 exact⟨c,b,s _ _ h1,s _ _ h0,s _ _ h2⟩
theorem DP.same{H H':Hp}{a:Addr}{kvs:List (aa × Addr × V)}(s:af H H')(d:DP H a kvs):DP H' a kvs:=by
 obtain⟨⟨xs,ep,h1,h2⟩,k,n,l⟩:=d
 exact⟨⟨xs,ep,s _ _ h1,h2⟩,λx hx=>(k x hx).same s,n,l⟩
def aA(kvs:List (aa × Addr × V))(k:aa):Option V:=(kvs.find? λx=>decide (x.1=k)).map (·.2.2)
def bK(kvs:List (aa × Addr × V))(k:aa)(b:Addr)(v:V):List (aa × Addr × V) :=
 if (aA kvs k).isSome then kvs.map (λx=>if x.1=k then (x.1,x.2.1,v) else x) else kvs++[(k,b,v)]
theorem KP.val{kvs:List (aa × Addr × V)}{xs:List (aa × Addr × Value)}(r:KP kvs xs)(k:aa):bR (aA kvs k) ((atKey xs k).map (·.2)):=by
 induction r with
 | nil=>exact True.intro
 | @cons p q ps qs h t ih =>
  obtain⟨h1,_,h2⟩:=h
  by_cases e:p.1=k
  ·have e':q.1=k:=h1.symm.trans e
   have b:atKey (q :: qs) k=some q.2:=by simp[atKey,List.find?_cons,e']
   have c:aA (p :: ps) k=some p.2.2:=by simp[aA,List.find?_cons,e]
   rw[b,c]
   exact h2
  ·have e' : ¬ q.1=k:=λz=>e (h1.trans z)
   have b:atKey (q :: qs) k=atKey qs k:=by simp[atKey,List.find?_cons,e']
   have c:aA (p :: ps) k=aA ps k:=by simp[aA,List.find?_cons,e]
   rw[b,c]
   exact ih
theorem KP.put{kvs:List (aa × Addr × V)}{xs:List (aa × Addr × Value)}(r:KP kvs xs)(k:aa){b:Addr}{y:V}{u:Value}(ry:ar y u):KP (bK kvs k b y) (storedH xs k b u):=by
 have e:(aA kvs k).isSome=(atKey xs k).isSome:=by rw[(r.val k).isSome_eq,Option.isSome_map]
 unfold bK storedH
 rw[e]
 split
 ·induction r with
  | nil=>exact .nil
  | @cons p q ps qs h t ih =>
   rw[List.map_cons,List.map_cons]
   have all : ∀ {l m},KP l m->KP (l.map λx=>if x.1=k then (x.1,x.2.1,y) else x) (m.map (putAt k u)):=by
    intro l m r
    induction r with
    | nil=>exact .nil
    | @cons p q ps qs h t ih =>
     rw[List.map_cons,List.map_cons]
     refine .cons ?_ ih
     obtain⟨h1,h2,h3⟩:=h
     unfold putAt
     by_cases z:p.1=k
     ·rw[if_pos z,if_pos (h1.symm.trans z)]; exact⟨h1,h2,ry⟩
     ·rw[if_neg z,if_neg (λy=>z (h1.trans y))]; exact⟨h1,h2,h3⟩
   exact all (.cons h t)
 ·exact Paired.snoc r ⟨rfl,rfl,ry⟩
theorem KP.keys{kvs:List (aa × Addr × V)}{xs:List (aa × Addr × Value)}(r:KP kvs xs):kvs.map (·.1)=xs.map (·.1):=by
 induction r with
 | nil=>rfl
 | cons h t ih=>rw[List.map_cons,List.map_cons,ih,h.1]
theorem i9 : ∀ {kvs:List (aa × Addr × V)} {xs:List (aa × Addr × Value)},KP kvs xs->∀ {i:Nat} {a:aa × Addr × V} {b:aa × Addr × Value},kvs[i]? = some a->xs[i]? = some b->a.1=b.1/\a.2.1=b.2.1/\ar a.2.2 b.2.2
 | _,_,.nil,_,_,_,h,_=>by simp at h
 | _,_,.cons r t,0,_,_,h,h'=>by simp at h h'; subst h; subst h'; exact r
 | _,_,.cons r t,i+1,_,_,h,h'=>i9 t (i:=i) (by simpa using h) (by simpa using h')
theorem x6(kvs:List (aa × Addr × V))(k:aa)(b:Addr)(v:V) : ∀ x∈bK kvs k b v,(∃ y∈kvs,y.1=x.1/\y.2.1=x.2.1)\/x=(k,b,v):=by
 intro x hx
 unfold bK at hx
 split at hx
 ·obtain⟨y,hy,rfl⟩:=List.mem_map.mp hx
  refine .inl ⟨y,hy,?_⟩
  split <;> exact⟨rfl,rfl⟩
 ·rcases List.mem_append.mp hx with z | z
  ·exact .inl ⟨x,z,rfl,rfl⟩
  ·exact .inr (List.mem_singleton.mp z)
theorem qZ(kvs:List (aa × Addr × V))(k:aa)(b:Addr)(v:V):(bK kvs k b v).length<=kvs.length+1:=by
 unfold bK
 split <;> simp
theorem jS{P:Program}{w:World}{H:Hp}{h:Heap}{k:aa}{p:Addr}(ok:aM P w H h)(e:aC H k p):cr P w h k p:=by
 obtain⟨c,b,h1,h0,h2⟩:=e
 obtain⟨_,its,r,o,a1,a2,n,a3⟩:=(show aH P w H h p (.tup [.ref c,.ref b]) from ok p _ h1)
 have all : ∀ {ks:List Int} {us:List Value},aq (ks.map V.int) us->ItemsAre (intKind P w) ks us:=by
  intro ks
  induction ks with
  | nil=>intro us r; cases r; exact .nil
  | cons k ks ih =>
   intro us r
   cases r with
   | cons a b =>
    obtain⟨t,rfl⟩:=a
    exact .cons (by exact beq_self_eq_true k) (ih b)
 have one : ∀ {a:Addr} {ks:List Int},H a=some (.tup (ks.map V.int))->IsTupleKey (intKind P w) h ks a:=λ{a ks} ha=>by
  obtain⟨_,its2,r2,o2,b1,b2,n2,b3⟩:=(show aH P w H h a (.tup (ks.map V.int)) from ok a _ ha)
  exact⟨o2,its2.toArray,n2,b1,b2,b3,by simpa using all r2⟩
 cases r with
 | cons c1 r=>cases r with
  | cons c2 r=>cases r with
   | nil =>
    cases c1
    cases c2
    exact⟨o,c,b,n,a1,a2,a3,one h0,one h2⟩
section
variable {X:Cx}{pins:List (Addr × Obj)}{σ:St}{H:Hp}{s:Shared}{a b:Addr}{kvs:List (aa × Addr × V)}{k:aa}{v:V}{A:Around}{E:Value->Shared->Prop}
theorem fm(I:ad X pins σ H s)(d:DP H a kvs) : ∃ xs ep,H a=some (c8 a xs ep)/\KP kvs xs/\cA s.heap a (xs.map bC).toArray ep/\s.heap.DictOfH (ij X.prog X.w) a xs:=by
 obtain⟨⟨xs,ep,h1,h2⟩,ky,nd,le⟩:=d
 obtain⟨r,_⟩:=I.hok a _ h1
 obtain⟨o,e1,e2,e3⟩:=r.obj
 refine⟨xs,ep,h1,h2,r,o,_,ep,e1,e2,e3,by rw[re],λx hx=>?_,by rw[<- h2.keys]; exact nd⟩
 have all : ∀ {l m},KP l m->(∀ x∈l,aC H x.1 x.2.1)->∀ x∈m,cr X.prog X.w s.heap x.1 x.2.1:=by
  intro l m r
  induction r with
  | nil=>intro _ x hx; cases hx
  | @cons p q ps qs h t ih =>
   intro al x hx
   rcases List.mem_cons.mp hx with z | z
   ·subst z
    rw[<- h.1,<- h.2.1]
    exact jS I.hok (al p (List.mem_cons_self ..))
   ·exact ih (λy hy=>al y (List.mem_cons_of_mem _ hy)) x z
 exact all h2 ky x hx
theorem tP{Q:Value->Shared->Prop}(hu:A.units+16 < cLine)(I:ad X pins σ H s)(d:DP H a kvs)(ky:aC H k b)(e:aA kvs k=some v)(q : ∀ w' s',ad X pins σ H s'->ar v w'->Q w' s'):wpAny (model X.prog X.w) A (getItem (.ref a) (.ref b)) Q E s:=by
 obtain⟨xs,ep,h1,h2,r,dd⟩:=fm I d
 obtain⟨w',hw,rw'⟩:=bR.some_of (v:=v) (o:=(atKey xs k).map (·.2)) (by rw[<- e]; exact h2.val k)
 obtain⟨p,hp,hp2⟩:=Option.map_eq_some_iff.mp hw
 refine wpAny_getItem_heap (knd:=ij X.prog X.w) (by show A.units+1+8 < cLine; omega) (jS I.hok ky) dd hp ?_
 rw[hp2]
 exact q w' _ (I.tok _) rw'
theorem tO{u:Value}{Q:Unit->Shared->Prop}(hu:A.units+16 < cLine)(I:ad X pins σ H s)(d:DP H a kvs)(ky:aC H k b)(hl:kvs.length < sizeLine)(rv:ar v u)(q : ∀ H' s',ad X pins σ H' s'->DP H' a (bK kvs k b v)->(∀ c,c≠a->H' c=H c)->Q () s'):wpAny (model X.prog X.w) A (setItem (.ref a) (.ref b) u) Q E s:=by
 obtain⟨xs,ep,h1,h2,r,dd⟩:=fm I d
 have hz:xs.length<=sizeLine:=by rw[<- Paired.length h2]; exact d.le
 refine wpAny_setItem_heap (hsz:=hz) (knd:=ij X.prog X.w) (by show A.units+1+8 < cLine; omega) (jS I.hok ky) dd λh' dd' hs=>?_
 obtain⟨o,es,ep',e1,e2,e3,e4,e5,e6⟩:=dd'
 have nk : ∀ c ys,H c=some (.tup ys)->c≠a:=λc ys z y=>by subst y; rw[h1]at z; cases z
 have es':es=((storedH xs k b u).map bC).toArray:=by
  rw[re]at e4
  rw[<- e4,Array.toArray_toList]
 have I':ad X pins σ (upd H a (c8 a (storedH xs k b u) ep')) { s with heap:=h',toks:=s.toks+(ij X.prog X.w).draws k }:=by
  refine jd I (by rw[h1]; exact True.intro) hs ⟨o,e1⟩ ⟨⟨r.big,o,e1,e2,by rw[e3,es']⟩,⟨o,e1⟩,λg1 g2 f kk=>f.to kk⟩
 refine q _ _ I' ⟨⟨_,ep',aN,h2.put k rv⟩,λx hx=>?_,?_,?_⟩ λc hc=>aj hc
 ·have ky':aC H x.1 x.2.1:=by
   rcases x6 kvs k b v x hx with ⟨y,hy,z1,z2⟩ | z
   ·rw[<- z1,<- z2]; exact d.key y hy
   ·rw[z]; exact ky
  obtain⟨c,d,c1,c0,c2⟩:=ky'
  exact⟨c,d,by rw[aj (nk _ _ c1)]; exact c1,by rw[aj (nk _ _ c0)]; exact c0,by rw[aj (nk _ _ c2)]; exact c2⟩
 ·rw[(h2.put k rv).keys]; exact e6
 ·have:=qZ kvs k b v; omega
end
def Ai:TE:=λ_ H Q=>∀ p H',aI H p (c8 p [] 0) H'->Q (.ref p) H'
theorem DP.new{H H':Hp}{p:Addr}(g:aI H p (c8 p [] 0) H'):DP H' p []:=⟨⟨[],0,g.at_,.nil⟩,λ_ hx=>(nomatch hx),List.nodup_nil,Nat.zero_le _⟩
def v9(td ty:TE):TE:=λσ H Q=>td σ H λx H1=>ty σ H1 λy H2=>∃ a b kvs k v,x=.ref a/\y=.ref b/\DP H2 a kvs/\aC H2 k b/\aA kvs k=some v/\Q v H2
def xc(td ty tv:TE):TS:=λD σ H=>tv σ H λv H1=>td σ H1 λx H2=>ty σ H2 λy H3=>∃ a b kvs k,x=.ref a/\y=.ref b/\DP H3 a kvs/\aC H3 k b/\kvs.length < sizeLine/\∀ H4,DP H4 a (bK kvs k b v)->(∀ c,c≠a->H4 c=H3 c)->D.nx σ H4
def gn(d:Addr)(o:HO)(kvs:List (aa × Addr × V)):It :=
 ⟨λi H=>H d=some o/\i < kvs.length,λi H x H'=>H'=H/\∃ k b v,kvs[i]? = some (k,b,v)/\x=.ref b,λi H=>H d=some o/\kvs.length<=i⟩
def AO(td:TE):TI:=λσ H R=>td σ H λx H1=>∃ d kvs,x=.ref d/\DP H1 d kvs/\∀ o,H1 d=some o->R (gn d o kvs) H1
def B6:List V->Hp->VK->Prop:=λus H Q=>∃ a kvs,us=[.ref a]/\DP H a kvs/\∀ p H',aI H p (.lst (kvs.map λx=>V.ref x.2.1)) H'->Q (.ref p) H'
theorem vK{P:Program}{w:World}{K:W.Frag}{tg:Expr}(d it:Addr)(xs:List (aa × Addr × Value))(ep:Nat)(kvs:List (aa × Addr × V))(kn:KP kvs xs):dX P w K tg (gn d (c8 d xs ep) kvs) [it] it (λi h=>h.IsKeyIter it d i (xs.map bC).toArray.size ep) where
 mem:=by simp
 obj:=λi h st b hb=>by
  have e:b=it:=by simpa using hb
  subst e
  obtain⟨o,e,c,d⟩:=st
  exact⟨o,e,λv z=>by rw[d]at z; cases z⟩
 keep:=λi h h' st k=>st.at λo e=>k it (by simp) o e
 item:=by
  intro X hP hw hK hc i pins s σ H E I hf st hg
  subst hP hw hK
  obtain⟨hq,hi⟩:=hg
  obtain⟨r,_⟩:=I.hok d _ hq
  obtain⟨f0,f1,f2,f3,f4,f5⟩:=hf it (by simp)
  have hl:=Paired.length kn
  obtain⟨⟨k,b,v⟩,hkv⟩ : ∃ y,kvs[i]? = some y:=⟨_,List.getElem?_eq_getElem hi⟩
  obtain⟨⟨k',b',u⟩,hxs⟩ : ∃ y,xs[i]? = some y:=⟨_,List.getElem?_eq_getElem (by omega)⟩
  obtain⟨z1,z2,z3⟩:=i9 kn hkv hxs
  have z2':b=b':=z2
  subst z2'
  refine iU (e:=bC (k',b,u)) st r (by rw[List.getElem?_toArray,List.getElem?_map,hxs]; rfl) λh' st' sb=>?_
  have I1:ad X pins σ H { s with heap:=h' }:=I.turned (t':=s.toks) (λb o hb e=>(sb.2 b hb).trans e) f0 f1 f3 f4 f5
  obtain⟨o,e,c,dd⟩:=id st'
  exact⟨.ref b,rfl,ja (s:={ s with heap:=h' }) e c dd (by decide) ⟨.ref b,H,I1,rfl,⟨rfl,k,b,v,hkv,rfl⟩,st',λb hb=>(hf b hb).1⟩⟩
 done:=by
  intro X hP hw hK hc i pins s σ H E I hf st hg
  subst hP hw hK
  obtain⟨hq,hi⟩:=hg
  obtain⟨r,_⟩:=I.hok d _ hq
  obtain⟨f0,f1,f2,f3,f4,f5⟩:=hf it (by simp)
  have hl:=Paired.length kn
  exact jL (I.ok.hd hc) st r (by simp; omega) λh' eb=>⟨rfl,I.turned (t':=s.toks) (λb o hb e=>eb b o hb e) f0 f1 f3 f4 f5⟩
 self:=λ_ _ _ _ _ st h=>wpAny_pyIter_keyiter st h
theorem qJ {P:Program} {w:World} (d:Addr) (es:Array DictEntry) (ep:Nat):W.KdlSrc P w "dict" d d es.size (λi v=>∃ e,es[i]? = some e/\v=e.key) (λh=>cA h d es ep) where
 type:=λ_ r=>r.ty
 there:=λ_ r=>⟨r.lt,r.lt⟩
 keep:=λ_ _ r k=>r.to λo e=>k d (.inl rfl) o e
 notList:=by decide
 notTuple:=by decide
 hint:=λ_ _ _ _ r q=>W.kdl_hint_dict r.ty q
 iter:=λA s hh r=>⟨_,λi h=>h.IsKeyIter s.heap.objs.size d i es.size ep/\cA h d es ep,(λ_ _ q=>jK r q),{
  sub:=λb hb=>by simp at hb; simp[hb]
  frame:=λ_ _ _ st hk=>⟨st.1.at λo e=>hk _ (by simp) o e,st.2.to λo e=>hk d (by simp) o e⟩
  item:=λi s1 Q E hi st hQ=>by
   obtain⟨e,he⟩ : ∃ e,es[i]? = some e:=⟨_,Array.getElem?_eq_getElem hi⟩
   refine iU st.1 st.2 he λh' st' sb=>hQ _ h' s1.toks ⟨e,he,rfl⟩ ⟨st',st.2.to λo z=>(sb.2 d (Nat.ne_of_lt r.lt)).trans z⟩ λb o hb z=>(sb.2 b (λy=>hb (by simp[y]))).trans z
  done:=λs1 Q E st hQ=>jL hh st.1 st.2 (Nat.le_refl _) λh' eb=>hQ h' s1.toks λb o hb z=>eb b o (λy=>hb (by simp[y])) z
  self:=λ_ _ _ _ st q=>wpAny_pyIter_keyiter st.1 q },⟨⟨_,Heap.get?_push_size _ rfl,rfl,rfl⟩,r.to λo e=>Heap.get?_push_of_some _ e⟩⟩
section
variable {X:Cx}{K:W.Frag}{o i e f value tg l:Expr}{td ty tx tv tl:TE}{pos pos' apos cpos:Pos}
theorem ie:QE X (.Dict [] [] pos) Ai:=⟨λpins s σ H Q I h=>by
 refine wpAny_Dict_empty ⟨.ref s.heap.objs.size,_,I.laid (a:=s.heap.objs.size) (o:=c8 s.heap.objs.size [] 0) (t':=s.toks) (λ_ _ q=>Heap.get?_push_of_some _ q) (Nat.le_refl _) ?_,rfl,h _ _ (.mk' (I.hok.fresh (Nat.le_refl _)))⟩
 refine⟨⟨beq_eq_false_iff_ne.mpr (Ne.symm (Nat.ne_of_lt I.big)),_,Heap.get?_push_size _ rfl,⟨rfl,rfl,rfl⟩,rfl⟩,⟨_,Heap.get?_push_size _ rfl⟩,λg1 g2 f kk=>f.to kk⟩⟩
theorem cS(hu:X.A.units+64 < cLine)(ho:QE X o td)(hi:QE X i ty)(hs:jo i:=by intro _ _; rfl):QE X (.Subscript o i pos) (v9 td ty):=⟨λpins s σ H Q I h=>by
 refine lh PySem.F.slot_dict_getitem.lookup hs (ai (ho.h pins s σ H _ I h) λu s1 ⟨x,H1,I1,rx,q1⟩=>ai (hi.h pins s1 σ H1 _ I1 q1) λiv s2 ⟨y,H2,I2,ry,a,b,kvs,k,v,ex,ey,d,ky,ev,q2⟩=>?_)
 subst ex ey
 obtain rfl:u=Value.ref a:=rx
 obtain rfl:iv=Value.ref b:=ry
 obtain⟨xs,ep,_,_,r,_⟩:=fm I2 d
 exact⟨r.ty,tP (by omega) I2 d ky ev λw' s3 I3 rw'=>⟨v,H2,I3,rw',q2⟩⟩⟩
theorem ii(hu:X.A.units+64 < cLine)(ho:QE X o td)(hi:QE X i ty)(hv:QE X value tv)(hs:swapsWith value (some (.Subscript o i pos')) pos.line X.env=pure false:=by rfl):QS X (.Assign [.Subscript o i pos'] value pos) (xc td ty tv):=⟨λpins s σ H D I h=>by
 refine wpAny_Assign_Subscript (ai (hv.h pins s σ H _ I h) λr s1 ⟨v,H1,I1,rv,q1⟩=>ai (ho.h pins s1 σ H1 _ I1 q1) λu s2 ⟨x,H2,I2,rx,q2⟩=>ai (hi.h pins s2 σ H2 _ I2 q2) λiv s3 ⟨y,H3,I3,ry,a,b,kvs,k,ex,ey,d,ky,lt,q3⟩=>?_) hs
 subst ex ey
 obtain rfl:u=Value.ref a:=rx
 obtain rfl:iv=Value.ref b:=ry
 exact tO (by omega) I3 d ky lt rv λH4 s4 I4 d4 k4=>⟨σ,H4,I4,q3 H4 d4 k4⟩⟩
theorem qQ(hl:QE X l tl):QI X tg l (AO tl):=⟨λpins s σ H R I h=>by
 refine ai (hl.h pins s σ H _ I h) λv s1 ⟨x,H1,I1,r1,d,kvs,ex,dn,q⟩=>?_
 subst ex
 obtain rfl:v=Value.ref d:=r1
 obtain⟨xs,ep,h1,h2,r,_⟩:=fm I1 dn
 refine jK r ?_
 refine⟨s1.heap.objs.size,[s1.heap.objs.size],_,gn d (c8 d xs ep) kvs,H1,rfl,I1.kept (t':=s1.toks) λb o e=>Heap.get?_push_of_some _ e,vK d _ xs ep kvs h2,⟨_,Heap.get?_push_size _ rfl,rfl,rfl⟩,λb hb=>?_,q _ h1⟩
 have e:b=s1.heap.objs.size:=by simpa using hb
 subst e
 exact I1.fpOk (Nat.le_refl _) (I1.hok.fresh (Nat.le_refl _))⟩
theorem Ce{d:Addr}{o:HO}{kvs:List (aa × Addr × V)}{g:TG}{tb:TS}{D:cG}{σ:St}{H:Hp}(Pv:Nat->St->Hp->Prop)(h0:Pv 0 σ H)(hl : ∀ i σ H,i<=kvs.length->Pv i σ H->H d=some o)
 (hs : ∀ i k b v σ H,kvs[i]? = some (k,b,v)->Pv i σ H->g (.ref b) σ H λσ2 H2=>tb { D with nx:=Pv (i+1),ct:=Pv (i+1),bk:=D.nx } σ2 H2) (hd : ∀ σ H,Pv kvs.length σ H->D.nx σ H) :
 ∃ W:Nat->Nat->St->Hp->Prop,(∃ m,W 0 m σ H)/\∀ i m σ H,W i m σ H ->
  ((gn d o kvs).stop i H/\D.nx σ H)\/((gn d o kvs).go i H/\∃ N:St->Hp->Prop,(∀ σ' H',N σ' H'->∃ m',m' < m/\W (i+1) m' σ' H')/\∀ x H',(gn d o kvs).yld i H x H'->g x σ H' λσ2 H2=>tb { D with nx:=N,ct:=N,bk:=D.nx } σ2 H2):=by
 refine⟨λi m σ H=>m=kvs.length - i/\i<=kvs.length/\Pv i σ H,⟨kvs.length,by simp,Nat.zero_le _,h0⟩,?_⟩
 rintro i m σ H ⟨rfl,hi,p⟩
 have q:=hl i σ H hi p
 by_cases hlt:i < kvs.length
 ·refine .inr ⟨⟨q,hlt⟩,Pv (i+1),λσ' H' p'=>⟨kvs.length - (i+1),by omega,rfl,hlt,p'⟩,λx H' y=>?_⟩
  obtain⟨rfl,k,b,v,y,rfl⟩:=y
  exact hs i k b v σ H' y p
 ·have e:i=kvs.length:=by omega
  subst e
  exact .inl ⟨⟨q,Nat.le_refl _⟩,hd σ H p⟩
theorem C8 (hc:X.calm=true):bd X (.type "list") B6:=by
 intro pins s σ H us vs Q I r q
 obtain⟨a,kvs,rfl,d,q⟩:=q
 cases r with
 | cons r1 r2=>cases r2 with
  | nil =>
   cases r1
   obtain⟨xs,ep,h1,h2,rw',_⟩:=fm I d
   have hl:=Paired.length h2
   have sz:(xs.map bC).toArray.size=kvs.length:=by simp[hl]
   refine W.kdl_call (qJ a _ ep) (I.ok.hd hc) rw' (by rw[sz]; exact d.le) λh' tk acc c hk hD ha=>?_
   have hn:=I.hok.fresh (Nat.le_refl s.heap.objs.size)
   refine⟨.ref s.heap.objs.size,upd H s.heap.objs.size (.lst (kvs.map λx=>V.ref x.2.1)),I.laid (a:=s.heap.objs.size) (o:=.lst (kvs.map λx=>V.ref x.2.1)) (t':=tk) hk (Nat.le_refl _) ⟨by rw[List.length_map]; exact d.le,acc.toList,c,?_,by rw[Array.toArray_toList]; exact hD⟩,rfl,q _ _ (.mk' hn)⟩
   obtain⟨ha1,ha2⟩:=ha
   have go : ∀ (ys:List (aa × Addr × V)) (zs:List (aa × Addr × Value)) (us:List Value) (_:KP ys zs) (_:us.length=zs.length) (_ : ∀ (j:Nat) (v:Value),us[j]? = some v->∃ z:aa × Addr × Value,zs[j]? = some z/\v=Value.ref z.2.1),aq (ys.map λx=>V.ref x.2.1) us:=by
    intro ys zs us kn
    induction kn generalizing us with
    | nil =>
     intro l _
     obtain rfl:=List.eq_nil_of_length_eq_zero l
     exact .nil
    | @cons p q ps qs h t ih =>
     intro l al
     cases us with
     | nil=>simp at l
     | cons u us =>
      obtain⟨z,e1,e2⟩:=al 0 u rfl
      simp at e1
      subst e1
      refine .cons ?_ (ih us (by simpa using l) λj v hj=>?_)
      ·rw[e2]
       show Value.ref q.2.1=Value.ref p.2.1
       rw[h.2.1]
      ·obtain⟨z,e1,e2⟩:=al (j+1) v (by simpa using hj)
       exact⟨z,by simpa using e1,e2⟩
   refine go kvs xs acc.toList h2 (by rw[Array.length_toList,ha1,sz,hl]) λj v hj=>?_
   obtain⟨e,e1,e2⟩:=ha2 j v (by rw[<- Array.getElem?_toList]; exact hj)
   rw[List.getElem?_toArray,List.getElem?_map]at e1
   obtain⟨z,z1,z2⟩:=Option.map_eq_some_iff.mp e1
   exact⟨z,z1,by rw[e2,<- z2]; rfl⟩
end
section
variable {prog:Program}{w:World}{A:Around}{E:Value->Shared->Prop}{s:Shared}{d:Addr}{es:Array DictEntry}{ep:Nat}
theorem lI (r:dL s.heap d es ep):s.TypeIs (.ref d) "dict":=by
 obtain⟨_,o,e,c,_⟩:=r
 exact⟨o,e,c.1⟩
theorem xr(d:Addr)(es:Array DictEntry)(ep:Nat):MeetsIn prog w (Builtin.«dict.__len__» ⟨[.ref d],[]⟩) (λ_ R s=>dL s.heap d es ep/\R (.ok (.ret (.int es.size s.toks))) { s with toks:=s.toks+1 }) :=
 .of_wp λA R s ⟨hm,h⟩=>by
  obtain⟨hd,o,ho,hc,hdat⟩:=hm
  show wpAny _ _ (dictSize d >>= _) _ _ s
  unfold dictSize
  refine wpAny_bind (wpAny_bind (wpAny_dictEntries ho hdat (wpAny_pure ?_)))
  show wpAny _ _ (Builtin.Dict.pendingCount d >>= _) _ _ s
  refine wpAny_bind (wpAny_pendingCount_other hd ?_)
  refine wpAny_ret_mkInt ?_
  rw[Nat.add_zero]; exact h
theorem qK{Q:Value->Shared->Prop}(hm:dL s.heap d es ep)(hfit:(es.size:Int) < 2 ^ 63)(h:Q (.int es.size (s.toks+1)) { s with toks:=s.toks+1+1 }) :
 wpAny (model prog w) A (Builtin.«len» ⟨[.ref d],[]⟩) (λfin s'=>∃ r,fin=.done (.ret r)/\Q r s') E s:=by
 have ty:=lI hm
 unfold Builtin.«len»
 refine wpAny_bind (m:=oneArg "len" _) (wpAny_pure ?_)
 refine wpAny_bind (m:=callSpecial? (.ref d) (Str.ofString "__len__")) (wpAny_callSpecial?_slot (name:=Str.ofString "__len__") ty PySem.F.slot_dict_len
  (call_meetsIn PySem.F.slot_dict_len ty PySem.F.entry_dict_len (PySem.F.args_dict_len_1 _) (xr d es ep) ⟨hm,?_⟩))
 show wpAny _ _ _ _ _ { s with toks:=s.toks+1 }
 refine wpAny_bind (wpAny_holding (wpAny_pure ?_))
 refine wpAny_bind (wpAny_letGo ?_)
 show wpAny _ _ (if ((es.size:Nat):Int) < 0 then _ else _) _ _ _
 rw[if_neg (by omega)]
 show wpAny _ _ (if ((es.size:Nat):Int)>=2 ^ 63 then _ else _) _ _ _
 rw[if_neg (by omega)]
 exact wpAny_bind (wpAny_mkInt (wpAny_pure ⟨_,rfl,h⟩))
theorem xq{Q:Bool->Shared->Prop}(hm:dL s.heap d es ep)(hfit:(es.size:Int) < 2 ^ 63)(h:Q (es.size != 0) { s with toks:=s.toks+1+1 }):wpAny (model prog w) A (truthy (.ref d)) Q E s:=by
 have ty:=lI hm
 have hne:((es.size:Int) != 0)=(es.size != 0):=by
  by_cases e:es.size=0
  ·rw[e]; rfl
  ·have e2 : ¬ (es.size:Int)=0:=by omega
   rw[bne_iff_ne.mpr e2,bne_iff_ne.mpr e]
 have key:wpAny (model prog w) A (runValue (.builtin "len" ⟨[.ref d],[]⟩)) (λr s'=>r=.int es.size (s.toks+1)/\Q (es.size != 0) s') E s:=by
  refine wpAny_runValue (codeAny_builtin entry_len ?_)
  rw[Around.under_plainId plain_len _]
  exact wpAny_mono (qK (Q:=λr s'=>r=.int es.size (s.toks+1)/\Q (es.size != 0) s') hm hfit ⟨rfl,h⟩)
   (λfin s' h'=>by obtain⟨r,rfl,hq⟩:=h'; exact hq) λ_ _ e=>e
 unfold truthy
 first
  | refine wpAny_bind (wpAny_callSpecial?_none (name:=Str.ofString "__bool__") ty noBool_dict ?_)
  | refine wpAny_bind (wpAny_pure (wpAny_bind (wpAny_callSpecial?_none (name:=Str.ofString "__bool__") ty noBool_dict ?_)))
 first
  | refine wpAny_bind (wpAny_specialOf (name:=Str.ofString "__len__") ty PySem.F.slot_dict_len.lookup ?_)
  | refine wpAny_bind (wpAny_pure (wpAny_bind (wpAny_specialOf (name:=Str.ofString "__len__") ty PySem.F.slot_dict_len.lookup ?_)))
 first
  | exact wpAny_bind (wpAny_mono key (λr s' h'=>by obtain⟨rfl,hq⟩:=h'; exact wpAny_pure (hne ▸ hq)) λ_ _ e=>e)
  | exact wpAny_bind (wpAny_pure (wpAny_bind (wpAny_mono key (λr s' h'=>by obtain⟨rfl,hq⟩:=h'; exact wpAny_pure (hne ▸ hq)) λ_ _ e=>e)))
end
def pF(H:Hp)(d:Addr)(n:Nat):Prop:=(∃ kvs:List (ak × V),H d=some (.dK kvs)/\n=kvs.length)\/(∃ kvs:List (List ak × V),H d=some (.dT kvs)/\n=kvs.length)\/∃ kvs,DP H d kvs/\n=kvs.length
section
variable {X:Cx}{pins:List (Addr × Obj)}{σ:St}{H:Hp}{s:Shared}{d:Addr}{n:Nat}
theorem tR(I:ad X pins σ H s)(h:pF H d n) : ∃ es ep,dL s.heap d es ep/\es.size=n/\n<=sizeLine:=by
 rcases h with ⟨kvs,h,rfl⟩ | ⟨kvs,h,rfl⟩ | ⟨kvs,h,rfl⟩
 ·obtain⟨z,hdS,vs,rel,o,es,ep,e1,e2,e3,e4,e5,e6⟩:=ku I.hok h
  refine⟨es,ep,⟨hdS,o,e1,e2,e3⟩,?_,z⟩
  have:=e5.length
  have:=rel.length
  rw[Array.length_toList]at *
  omega
 ·obtain⟨z,hdS,xs,rel,o,es,ep,e1,e2,e3,e4,e5⟩:=(show aH X.prog X.w H s.heap d (.dT kvs) from I.hok d _ h)
  refine⟨es,ep,⟨hdS,o,e1,e2,e3⟩,?_,z⟩
  have h1:=congrArg List.length e4
  rw[List.length_map,Array.length_toList]at h1
  rw[h1,Paired.length rel]
 ·obtain⟨xs,ep,h1,h2,r,_⟩:=fm I h
  refine⟨_,ep,⟨r.big,r.obj⟩,?_,h.le⟩
  rw[List.size_toArray,List.length_map]
  exact (Paired.length h2).symm
theorem qA{n:Nat}(h:n<=sizeLine):(n:Int) < 2 ^ 63:=by rw[sizeLine_eq]at h; omega
end
def vT(t:TE):TT:=λσ H Q=>t σ H λx H1=>∃ d n,x=.ref d/\pF H1 d n/\Q (n != 0) H1
def B7:List V->Hp->VK->Prop:=λxs H Q=>∃ d n,xs=[.ref d]/\pF H d n/\Q (.int (n:Int)) H
def B8(neg:Bool):R2:=λx y H Q=>∃ b a kvs k,x=.ref b/\y=.ref a/\DP H a kvs/\aC H k b/\Q (.bl (if neg then !(aA kvs k).isSome else (aA kvs k).isSome)) H
section
variable {X:Cx}
theorem qM{e:Expr}{t:TE}(h:QE X e t)(he : ∀ whole,isTrue e X.env whole=(do let v <- whole; standAt e.pos; holding [v] (truthy v)):=by intro _; rfl):QT X e (vT t):=⟨by
 intro pins s σ H Q I hw
 refine isTrue_plain (ai (h.h pins s σ H _ I hw) λv s1 ⟨x,H1,I1,r1,d,n,ex,dl,q1⟩=>?_) (he _)
 subst ex
 obtain rfl:v=Value.ref d:=r1
 obtain⟨es,ep,r,e1,e2⟩:=tR I1 dl
 refine xq r (qA (by omega)) ?_
 rw[e1]
 exact⟨_,I1.tok _,q1⟩⟩
theorem Da:bd X (.builtin "len") B7:=by
 intro pins s σ H us vs Q I r q
 obtain⟨d,n,rfl,dl,q⟩:=q
 obtain⟨u,rfl,rx⟩:=fJ r
 cases rx
 obtain⟨es,ep,rr,e1,e2⟩:=tR I dl
 refine Calls.call_function_entry kind_len plain_len entry_len (args_len1 _) (qK rr (qA (by omega)) ?_)
 rw[e1]
 exact⟨.int (n:Int),H,I.tok _,⟨_,rfl⟩,q⟩
theorem mK(hu:X.A.units+64 < cLine):aF X (compareOp .NotIn) (B8 true):=by
 intro pins s σ H x y v u Q I rx ry q
 obtain⟨b,a,kvs,k,rfl,rfl,dp,ky,q⟩:=q
 cases rx
 cases ry
 obtain⟨xs,ep,h1,h2,r,dd⟩:=fm I dp
 refine wpAny_notIn_heap (knd:=ij X.prog X.w) (by show X.A.units+1+8 < cLine; omega) (jS I.hok ky) r.big dd ?_
 refine⟨.bl _,H,I.tok _,rfl,?_⟩
 have e:(aA kvs k).isSome=(atKey xs k).isSome:=by rw[(h2.val k).isSome_eq,Option.isSome_map]
 rw[<- e]
 exact q
end
def gp(d:Addr)(o:HO)(kvs:List (aa × Addr × V)):It :=
 ⟨λi H=>H d=some o/\i < kvs.length,λi H x H'=>∃ p k b v,x=.ref p/\kvs[i]? = some (k,b,v)/\aI H p (.tup [.ref b,v]) H',λi H=>H d=some o/\kvs.length<=i⟩
theorem vF{P:Program}{w:World}{K:W.Frag}{tes:List Expr}{kk:Nat}{pp:Pos}(d it:Addr)(xs:List (aa × Addr × Value))(ep:Nat)(kvs:List (aa × Addr × V))(kn:KP kvs xs)(hdi:d≠it):dX P w K (.Tuple tes kk pp) (gp d (c8 d xs ep) kvs) [it] it (λi h=>∃ ok ov,IsItemIter h it d i (xs.map bC).toArray.size ep ok ov) where
 mem:=by simp
 obj:=λi h st b hb=>by
  obtain⟨ok,ov,h1⟩:=st
  have hb':b=it:=by simpa using hb
  subst hb'
  exact⟨_,h1,λv z=>by cases (show Data.fields _=Data.cell v from z)⟩
 keep:=λi h h' st k=>by
  obtain⟨ok,ov,h1⟩:=st
  exact⟨ok,ov,k it (by simp) _ h1⟩
 item:=by
  intro X hP hw hK hc i pins s σ H E I hf st hg
  subst hP hw hK
  obtain⟨ok,ov,h1⟩:=st
  obtain⟨hq,hi⟩:=hg
  obtain⟨r,_⟩:=I.hok d _ hq
  have raw:dL s.heap d (xs.map bC).toArray ep:=⟨r.big,r.obj⟩
  have hl:=Paired.length kn
  obtain⟨⟨k,b,v⟩,hkv⟩ : ∃ y,kvs[i]? = some y:=⟨_,List.getElem?_eq_getElem hi⟩
  obtain⟨⟨k',b',u⟩,hxs⟩ : ∃ y,xs[i]? = some y:=⟨_,List.getElem?_eq_getElem (by omega)⟩
  obtain⟨z1,z2,z3⟩:=i9 kn hkv hxs
  have z2':b=b':=z2
  subst z2'
  have hilt:it < s.heap.objs.size:=Heap.lt_size h1
  refine xo (e:=bC (k',b,u)) h1 raw (by rw[List.getElem?_toArray,List.getElem?_map,hxs]; rfl) λh' ho hT hk=>?_
  refine⟨_,rfl,wpAny_letOwnedTupleGo_items (s:={ s with heap:=h' }) ho λh'' he' hs'=>?_⟩
  have hTe:s.heap.objs.size≠it:=Nat.ne_of_gt hilt
  have hT2:h''.get? s.heap.objs.size=some { cls:=.type "tuple",data:=.seq #[.ref b,u] }:=(hs'.2 _ hTe).trans hT
  have I2:ad X pins σ (upd H s.heap.objs.size (.tup [.ref b,v])) { s with heap:=h'' }:=by
   refine I.turnedN (t':=s.toks) (fp:=[it]) (λb o hb eo=>?_) hf (Nat.le_refl _) (mf ⟨_,hT2,rfl,_,rfl⟩ rfl z3)
   have hbe:b≠it:=λz=>hb (by simp[z])
   exact (hs'.2 b hbe).trans (hk b o hbe eo)
  refine⟨.ref s.heap.objs.size,_,I2,rfl,⟨_,k,b,v,rfl,hkv,.mk' I.fresh⟩,⟨_,_,he'⟩,λb hb=>?_⟩
  have hb':b=it:=by simpa using hb
  rw[aj (by rw[hb']; exact Nat.ne_of_lt hilt)]
  exact (hf b hb).1
 done:=by
  intro X hP hw hK hc i pins s σ H E I hf st hg
  subst hP hw hK
  obtain⟨ok,ov,h1⟩:=st
  obtain⟨hq,hi⟩:=hg
  obtain⟨r,_⟩:=I.hok d _ hq
  have raw:dL s.heap d (xs.map bC).toArray ep:=⟨r.big,r.obj⟩
  have hl:=Paired.length kn
  exact xp (I.ok.hd hc) h1 raw (by simp; omega) λh' eb=>⟨rfl,I.turnedL (t':=s.toks) (fp:=[it]) (λb o hb eo=>eb b o (λz=>hb (by simp[z])) eo) hf⟩
 self:=λA i s Q E st h=>by
  obtain⟨ok,ov,h1⟩:=st
  have hT:s.TypeIs (.ref it) "dict_itemiterator":=⟨_,h1,rfl⟩
  refine wpAny_pyIter_slot hT PySem.F.slot_dict_itemiterator_iter (wpAny_call_entry PySem.F.slot_dict_itemiterator_iter hT tM ?_ (PySem.F.args_dict_itemiterator_iter_1 _))
  show wpAny _ _ (ret (.ref it)) _ _ s
  exact wpAny_pure ⟨_,rfl, "dict_itemiterator",_,hT,PySem.F.slot_dict_itemiterator_next.lookup,h⟩
def AM(td:TE):TI:=λσ H R=>td σ H λx H1=>∃ d kvs,x=.ref d/\DP H1 d kvs/\∀ o,H1 d=some o->R (gp d o kvs) H1
section
variable {X:Cx}{o:Expr}{es:List Expr}{kk:Nat}{pp apos cpos:Pos}{td:TE}
theorem lT (ho:QE X o td) (hb:attributeBase o "items" X.env (eval o X.env)=eval o X.env:=by rfl) (hl:(apos.endLine == cpos.line)=true:=by rfl):QI X (.Tuple es kk pp) (.Call (.Attribute o "items" apos) [] [] cpos) (AM td):=⟨by
 intro pins s σ H R I h
 refine wpAny_Call_method (T := "dict") (id := "dict.items") hb rfl hl PySem.F.plainAttrs_dict PySem.F.slot_dict_items PySem.F.type_dict_items (ai (ho.h pins s σ H _ I h) λu s1 ⟨x,H1,I1,rx,d,kvs,ex,dp,q⟩=>?_)
 subst ex
 obtain rfl:u=Value.ref d:=rx
 obtain⟨xs,ep,h1,h2,r,dd⟩:=fm I1 dp
 have raw:dL s1.heap d (xs.map bC).toArray ep:=⟨r.big,r.obj⟩
 have ty:=lI raw
 obtain⟨ob,ho1,c1,c2⟩:=r.obj
 refine⟨ty,λb z=>by cases z; exact⟨ob,ho1,c1.2.1⟩,?_⟩
 show wpAny _ _ (callWith cpos (.builtin "dict.items") [.ref d] [] []) _ _ s1
 refine method_meetsIn PySem.F.slot_dict_items PySem.F.entry_dict_items rfl (PyProof.Rows.evalArgs_none ⟨rfl,ty,PySem.F.args_dict_items_1 _,_,zL d r.big,ty,?_⟩)
 refine xn (d:=d) (es:=(xs.map bC).toArray) (ep:=ep) ⟨_,Heap.get?_push_size _ rfl,rfl,rfl⟩ ⟨r.big,ob,Heap.get?_push_of_some _ ho1,c1,c2⟩ ?_
 have hsz:(s1.heap.push { cls:=.type "dict_items",data:=.fields #[.ref d] }).objs.size=s1.heap.objs.size+1:=Heap.size_push ..
 have k2 : ∀ b o,s1.heap.get? b=some o->((s1.heap.push { cls:=.type "dict_items",data:=.fields #[.ref d] }).push { cls:=.type "dict_itemiterator",data:=.fields #[.none,.bool false,.ref d,.int 0 0,.int (xs.map bC).toArray.size 0,.int ep 0,.none,.none] }).get? b=some o:=λb o e=>Heap.get?_push_of_some _ (Heap.get?_push_of_some _ e)
 have I2:=I1.kept (t':=s1.toks) k2
 have hle:s1.heap.objs.size<=(s1.heap.push { cls:=.type "dict_items",data:=.fields #[.ref d] }).objs.size:=by rw[hsz]; exact Nat.le_succ _
 have hdi:d≠(s1.heap.push { cls:=.type "dict_items",data:=.fields #[.ref d] }).objs.size:=by rw[hsz]; exact Nat.ne_of_lt (Nat.lt_succ_of_lt (Heap.lt_size ho1))
 refine⟨_,[_],_,gp d (c8 d xs ep) kvs,_,rfl,I2,vF d _ xs ep kvs h2 hdi,⟨.none,.none,Heap.get?_push_size _ rfl⟩,λb hb=>?_,q _ h1⟩
 have hb':b=(s1.heap.push { cls:=.type "dict_items",data:=.fields #[.ref d] }).objs.size:=by simpa using hb
 exact I1.fpOk (b:=b) (by rw[hb']; exact hle) (I1.hok.fresh (by rw[hb']; exact hle))⟩
end
theorem tF{d:Addr}{o:HO}{kvs:List (aa × Addr × V)}{g:TG}{tb:TS}{D:cG}{σ:St}{H:Hp}(Pv:Nat->St->Hp->Prop)(h0:Pv 0 σ H)(hl : ∀ i σ H,i<=kvs.length->Pv i σ H->H d=some o)
 (hs : ∀ i k b v p σ H H',kvs[i]? = some (k,b,v)->Pv i σ H->aI H p (.tup [.ref b,v]) H'->g (.ref p) σ H' λσ2 H2=>tb { D with nx:=Pv (i+1),ct:=Pv (i+1),bk:=D.nx } σ2 H2) (hd : ∀ σ H,Pv kvs.length σ H->D.nx σ H) :
 ∃ W:Nat->Nat->St->Hp->Prop,(∃ m,W 0 m σ H)/\∀ i m σ H,W i m σ H ->
  ((gp d o kvs).stop i H/\D.nx σ H)\/((gp d o kvs).go i H/\∃ N:St->Hp->Prop,(∀ σ' H',N σ' H'->∃ m',m' < m/\W (i+1) m' σ' H')/\∀ x H',(gp d o kvs).yld i H x H'->g x σ H' λσ2 H2=>tb { D with nx:=N,ct:=N,bk:=D.nx } σ2 H2):=by
 refine⟨λi m σ H=>m=kvs.length - i/\i<=kvs.length/\Pv i σ H,⟨kvs.length,by simp,Nat.zero_le _,h0⟩,?_⟩
 rintro i m σ H ⟨rfl,hi,p⟩
 have q:=hl i σ H hi p
 by_cases hlt:i < kvs.length
 ·refine .inr ⟨⟨q,hlt⟩,Pv (i+1),λσ' H' p'=>⟨kvs.length - (i+1),by omega,rfl,hlt,p'⟩,λx H' y=>?_⟩
  obtain⟨pp,k,b,v,rfl,y,gr⟩:=y
  exact hs i k b v pp σ H H' y p gr
 ·have e:i=kvs.length:=by omega
  subst e
  exact .inl ⟨⟨q,Nat.le_refl _⟩,hd σ H p⟩
theorem CL{K:W.Frag}{d:Addr}{o:HO}{kvs:List (aa × Addr × V)}{cs:St}{tt:TT}{te:TE}{H:Hp}{Q:VK}(Pv:Nat->List V->Hp->Prop)(h0:Pv 0 [] H)(hl : ∀ i ys H,i<=kvs.length->Pv i ys H->H d=some o/\ys.length<=i)(hz:kvs.length<=sizeLine)
 (hs : ∀ i k b v ys H H' (N:List V->Hp->Prop),kvs[i]? = some (k,b,v)->Pv i ys H->af H H'->(∀ ys' H',Pv (i+1) ys' H'->N ys' H')->tt (some (.ref b) :: some v :: cs) H' λc H4=>if c=true then te (some (.ref b) :: some v :: cs) H4 λy H5=>N (ys++[y]) H5 else N ys H4)
 (hd : ∀ ys H p H',Pv kvs.length ys H->aI H p (.lst ys) H'->Q (.ref p) H') :
 fI (gp d o kvs) H (List.replicate 2 none++cs) (iz K 2 (fj (bG 0) (fj (bG 1) jb))) tt te Q:=by
 refine⟨λi m ys σ H=>m=kvs.length - i/\i<=kvs.length/\Pv i ys H/\∃ v0 v1,σ=v0 :: v1 :: cs,⟨kvs.length,by simp,Nat.zero_le _,h0,none,none,rfl⟩,?_⟩
 rintro i m ys σ H2 ⟨rfl,hi,p,v0,v1,rfl⟩
 obtain⟨q,ql⟩:=hl i ys H2 hi p
 by_cases hlt:i < kvs.length
 ·refine .inr ⟨⟨q,hlt⟩,by omega,λys' σ' H'=>Pv (i+1) ys' H'/\∃ v0 v1,σ'=v0 :: v1 :: cs,λys' σ' H' ⟨p',e⟩=>⟨kvs.length - (i+1),by omega,rfl,hlt,p',e⟩,λx H' y=>?_⟩
  obtain⟨pp,k,b,v,rfl,y,gr⟩:=y
  refine⟨pp,_,rfl,gr.tup,rfl,_,_,rfl,_,_,rfl,rfl,?_⟩
  exact hs i k b v ys H2 H' (λys' H'=>Pv (i+1) ys' H'/\∃ v0 v1,some (.ref b) :: some v :: cs=v0 :: v1 :: cs) y p gr.sm λ_ _ z=>⟨z,_,_,rfl⟩
 ·have e:i=kvs.length:=by omega
  subst e
  exact .inl ⟨⟨q,Nat.le_refl _⟩,by omega,λp' H' g=>hd ys H2 p' H' p g⟩
theorem CN{d:Addr}{o:HO}{kvs:List (aa × Addr × V)}{cs:St}{tt:TT}{te:TE}{H:Hp}{Q:VK}(Pv:Nat->List V->Hp->Prop)(h0:Pv 0 [] H)(hl : ∀ i ys H,i<=kvs.length->Pv i ys H->H d=some o/\ys.length<=i)(hz:kvs.length<=sizeLine)
 (hs : ∀ i k b v ys H (N:List V->Hp->Prop),kvs[i]? = some (k,b,v)->Pv i ys H->(∀ ys' H',Pv (i+1) ys' H'->N ys' H')->tt (some (.ref b) :: cs) H λc H4=>if c=true then te (some (.ref b) :: cs) H4 λy H5=>N (ys++[y]) H5 else N ys H4)
 (hd : ∀ ys H p H',Pv kvs.length ys H->aI H p (.lst ys) H'->Q (.ref p) H') :
 fI (gn d o kvs) H (List.replicate 1 none++cs) (bG 0) tt te Q:=by
 refine⟨λi m ys σ H=>m=kvs.length - i/\i<=kvs.length/\Pv i ys H/\∃ v0,σ=v0 :: cs,⟨kvs.length,by simp,Nat.zero_le _,h0,none,rfl⟩,?_⟩
 rintro i m ys σ H2 ⟨rfl,hi,p,v0,rfl⟩
 obtain⟨q,ql⟩:=hl i ys H2 hi p
 by_cases hlt:i < kvs.length
 ·refine .inr ⟨⟨q,hlt⟩,by omega,λys' σ' H'=>Pv (i+1) ys' H'/\∃ v0,σ'=v0 :: cs,λys' σ' H' ⟨p',e⟩=>⟨kvs.length - (i+1),by omega,rfl,hlt,p',e⟩,λx H' y=>?_⟩
  obtain⟨rfl,k,b,v,y,rfl⟩:=y
  exact hs i k b v ys H' (λys' H'=>Pv (i+1) ys' H'/\∃ v0,some (.ref b) :: cs=v0 :: cs) y p λ_ _ z=>⟨z,_,rfl⟩
 ·have e:i=kvs.length:=by omega
  subst e
  exact .inl ⟨⟨q,Nat.le_refl _⟩,by omega,λp' H' g=>hd ys H2 p' H' p g⟩
theorem Cc{d:Addr}{ob:Obj}{kvs:List (ak × V)}{g:TG}{tb:TS}{D:cG}{σ:St}{H:Hp}(Pv:Nat->St->Hp->Prop)(h0:Pv 0 σ H)(hl : ∀ i σ H,i<=kvs.length->Pv i σ H->H d=some (.frz ob (.dK kvs)))
 (hs : ∀ i k v σ H,kvs[i]? = some (k,v)->Pv i σ H->g v σ H λσ2 H2=>tb { D with nx:=Pv (i+1),ct:=Pv (i+1),bk:=D.nx } σ2 H2) (hd : ∀ σ H,Pv kvs.length σ H->D.nx σ H) :
 ∃ W:Nat->Nat->St->Hp->Prop,(∃ m,W 0 m σ H)/\∀ i m σ H,W i m σ H ->
  ((iI d ob kvs).stop i H/\D.nx σ H)\/((iI d ob kvs).go i H/\∃ N:St->Hp->Prop,(∀ σ' H',N σ' H'->∃ m',m' < m/\W (i+1) m' σ' H')/\∀ x H',(iI d ob kvs).yld i H x H'->g x σ H' λσ2 H2=>tb { D with nx:=N,ct:=N,bk:=D.nx } σ2 H2):=by
 refine⟨λi m σ H=>m=kvs.length - i/\i<=kvs.length/\Pv i σ H,⟨kvs.length,by simp,Nat.zero_le _,h0⟩,?_⟩
 rintro i m σ H ⟨rfl,hi,p⟩
 have q:=hl i σ H hi p
 by_cases hlt:i < kvs.length
 ·refine .inr ⟨⟨q,hlt⟩,Pv (i+1),λσ' H' p'=>⟨kvs.length - (i+1),by omega,rfl,hlt,p'⟩,λx H' y=>?_⟩
  obtain⟨rfl,k,y⟩:=y
  exact hs i k x σ H' y p
 ·have e:i=kvs.length:=by omega
  subst e
  exact .inl ⟨⟨q,Nat.le_refl _⟩,hd σ H p⟩
section
variable {X:Cx}
def vU(t:TS):TS:=λD σ H=>∃ d u,(∀ o v,H d≠some (.frz o v))/\t { D with nx:=λσ' H'=>(∃ ob,H' d=some (.frz ob u))/\D.nx σ' (upd H' d u) } σ H
theorem lJ{e:Stmt}{t:TS}(h:QS X e t):QS X e (vU t):=⟨λpins s σ H D I q=>by
 obtain⟨d,u,nf,q⟩:=q
 refine wpAny_mono (h.h pins s σ H _ I q) (λf s1 z=>?_) λ_ _ e=>e
 cases f with
 | next =>
  obtain⟨σ1,H1,I1,⟨ob,ho⟩,k⟩:=z
  exact⟨σ1,_,I1.thaw ho λo v e=>nf o v (I.base.frzs _ _ _ e),k⟩
 | brk=>exact z
 | cont=>exact z
 | ret v=>exact z⟩
end
def xf(r:R2)(td ty tv:TE):TS:=λD σ H=>td σ H λx H1=>ty σ H1 λy H2=>∃ a b kvs k v,x=.ref a/\y=.ref b/\DP H2 a kvs/\aC H2 k b/\kvs.length < sizeLine/\aA kvs k=some v /\
 tv σ H2 λu H3=>r v u H3 λz H4=>H4=H2/\∀ H5,DP H5 a (bK kvs k b z)->(∀ c,c≠a->H5 c=H4 c)->D.nx σ H5
section
variable {X:Cx}{o i value:Expr}{td ty tv:TE}{pos tpos:Pos}
theorem xW{op:Operator}{r:R2}(hu:X.A.units+64 < cLine)(ho:QE X o td)(hi:QE X i ty)(hv:QE X value tv)(hr:aF X (inplaceOp op) r)
 (hs : ∀ (ov iv new:Value),augStore i ov iv new=(do holding [new,ov,iv] (setItem ov iv new); release [new,ov,iv] []; pure Flow.next):=by intro _ _ _; rfl):QS X (.AugAssign (.Subscript o i tpos) op value pos) (xf r td ty tv):=⟨λpins s σ H D I h=>by
 refine wpAny_AugAssign_SubscriptAny (ai (ho.h pins s σ H _ I h) λu s1 ⟨x,H1,I1,rx,q1⟩=>ai (hi.h pins s1 σ H1 _ I1 q1) λiv s2 ⟨y,H2,I2,ry,a,b,kvs,k,v,ex,ey,d,ky,lt,ev,q2⟩=>?_) hs
 subst ex ey
 obtain rfl:u=Value.ref a:=rx
 obtain rfl:iv=Value.ref b:=ry
 refine tP (by omega) I2 d ky ev λw' s3 I3 rw'=>?_
 refine ai (hv.h pins s3 σ H2 _ I3 q2) λv4 s4 ⟨u4,H4,I4,r4,q4⟩=>?_
 refine ai (hr pins s4 σ H4 _ _ _ _ _ I4 rw' r4 q4) λv5 s5 ⟨z,H5,I5,r5,e5,q5⟩=>?_
 subst e5
 exact tO (by omega) I5 d ky lt r5 λH6 s6 I6 d6 k6=>⟨σ,H6,I6,q5 H6 d6 k6⟩⟩
end
def kN(Pt:Addr)(H:Hp):Prop:=H Pt=some (.tbl #[])/\∀ b,b≠Pt->H b=none\/∃ o xs,H b=some (.frz o (.lst xs))
theorem Ap{P:Program}{w:World}{K:W.Frag}{mg mb:Str->Option Value}{CX:cL}{k:Nat}{fa a Pt c:Addr}{fd:FuncData}{x:Str}{sp:Sp}{s₁:Shared}{vs:List Value}{ns:List Int}
 (KX:K.In s₁.heap) (hns:s₁.heap.Ns mainGlobals mg) (hb:s₁.heap.Ns builtinsNs mb) (hbb : ∀ x:Str,x ≠ "__name__"->mb x=bootBuiltins x) (hlim:s₁.heap.NoLimit) (hg:s₁.gens = #[])
 (hKP:K.lookup Pt=none) (hTab:s₁.heap.get? Pt=some (W.tabObj #[])) (hcd:W.codeHdIn K c Pt=true) (hbm:s₁.heap.BuiltinsAt mg Pt)
 (ha:s₁.heap.get? a=some { cls:=.type "list",data:=.seq vs.toArray }) (hi:IntsAre vs ns) (hl:ns.length<=sizeLine) (hr:aP k callerA)
 (F : ∀ base:Heap,K.In base->base.Ns mainGlobals mg->base.BuiltinsAt mg Pt->bw P w K mg base CX k fa fd [x] sp) (hbind : ∀ (s:Shared) (u:Value),BindsTo s fd ⟨[u],[]⟩ [(x,u)])
 (hsp : ∀ H:Hp,kN Pt H->az K H a (ns.map V.int)->sp [.ref a] H (λv _=>v=.bl true) λ_ _ _=>False)
 (hCX : ∀ H e s',CX [] H s₁ (λ_ _ _=>False) e s'->False) :
 codeAny (model P w) callerA (.call (.ref fa) ⟨[.ref a],[]⟩) (λr s'=>r=.ok (.ret (.bool true))/\OldK s₁.heap s'.heap/\s'.os=s₁.os/\AllBare s'.gens) s₁:=by
 have rv:=kT hi
 have lenV:=hi.length
 have haP:a≠Pt:=λz=>by rw[z,hTab]at ha; cases ha
 have core : ∀ H:Hp,kN Pt H->az K H a (ns.map V.int)->aM P w H s₁.heap->(∀ b,H b≠none->b=a\/b=Pt)->(H a≠none->K.lookup a=none) ->
  codeAny (model P w) callerA (.call (.ref fa) ⟨[.ref a],[]⟩) (λr s'=>r=.ok (.ret (.bool true))/\OldK s₁.heap s'.heap/\s'.os=s₁.os/\AllBare s'.gens) s₁:=by
  intro H hO hS hok hA hK
  have base_of : ∀ {b:Addr} {o:Obj},s₁.heap.get? b=some o->H b=none->(cF s₁.heap H).get? b=some o:=λe n=>sV e n
  have noA : ∀ {b:Addr} {o:Obj},s₁.heap.get? b=some o->(∀ z n,o.data ≠ .seq z n)->(∀ z,o.data ≠ .fields z)->H b=none:=λ{b o} e d1 d2=>by
   cases q:H b with
   | none=>rfl
   | some u =>
    rcases hA b (by rw[q]; simp) with e' | e'
    ·subst e'
     rw[ha]at e; cases e
     exact (d1 _ _ rfl).elim
    ·subst e'
     rw[hTab]at e; cases e
     exact (d2 _ rfl).elim
  have nsK : ∀ {b:Addr} {m:Str->Option Value},s₁.heap.Ns b m->(cF s₁.heap H).Ns b m:=λ{b m} ⟨o,es,ep,e,d,r⟩=>⟨o,es,ep,base_of e (noA e (λz n q=>by rw[d]at q; cases q) (λz q=>by rw[d]at q; cases q)),d,r⟩
  have hKb:K.In (cF s₁.heap H):=λb o e=>base_of (KX b o e) (by
   cases q:H b with
   | none=>rfl
   | some u =>
    rcases hA b (by rw[q]; simp) with e' | e'
    ·subst e'
     rw[hK (by rw[q]; simp)]at e; cases e
    ·subst e'
     rw[hKP]at e; cases e)
  have hM:Mod K mg (cF s₁.heap H):=⟨hKb,nsK hns,⟨mb,nsK hb,hbb⟩,let ⟨mc,h1,h2⟩:=hlim; ⟨mc,nsK h1,h2⟩⟩
  have hB:(cF s₁.heap H).BuiltinsAt mg Pt:=by
   obtain⟨bm,o,b1,b2,b3,b4,b5,b6,b7,b8⟩:=hbm
   exact⟨bm,o,b1,b2,b3,b4,base_of b5 (noA b5 (λz n q=>by rw[b8]at q; cases q) (λz q=>by rw[b8]at q; cases q)),b6,b7,b8⟩
  have e0:c7 P w K mg (cF s₁.heap H) callerA [] s₁ H:=⟨rfl,hM,λb o e=>rS e,Nat.le_of_eq (sU _ _),trivial,λb hb=>absurd (show b∈([]:List Addr) from hb) (by simp),hok,.of_eq hg⟩
  refine codeAny_mono ((F _ hKb (nsK hns) hB).run callerA [] s₁ H ⟨[.ref a],[]⟩ [.ref a] [.ref a] _ _ hr e0 (hbind s₁ (.ref a)) (.cons rfl .nil) (hsp H hO hS)) λr s' h=>?_
  cases r with
  | error e=>exact (hCX H e s' h).elim
  | ok fl =>
   cases fl with
   | next=>exact False.elim h
   | brk=>exact False.elim h
   | cont=>exact False.elim h
   | ret u =>
    obtain⟨v,H',os,bare,un,hok',r',q⟩:=h
    have q':v=.bl true:=q
    subst q'
    obtain rfl:u=Value.bool true:=r'
    have C:=W.codeHd_of_K KX hcd
    refine⟨rfl,⟨λb o e=>?_,λb o e=>un.there b o e (by simp)⟩,os,bare⟩
    by_cases hb:b=Pt
    ·subst hb
     rw[hTab]at e; cases e
     obtain⟨more,e2⟩:=un.tbls b #[] hO.1
     have e3:=hok' b _ e2
     exact .inr (.inl ⟨(C.tab hTab).isCodeTable,rfl,#[],more,rfl,e3⟩)
    ·refine .inl ?_
     cases q:H b with
     | none=>exact un.keep b o e q (by intro z; exact absurd (show b∈([]:List Addr) from z) (by simp)) (by simp)
     | some u =>
      rcases hO.2 b hb with z | ⟨ob,xs,z⟩
      ·rw[q]at z; cases z
      ·have z2:=un.frzs b ob _ z
       obtain⟨e1,_⟩:=hok b _ z
       obtain⟨e2,_⟩:=hok' b _ z2
       rw[e]at e1; cases e1
       exact e2
 have tabOk : ∀ H:Hp,aH P w H s₁.heap Pt (.tbl #[]):=λH=>hTab
 cases hk:K.lookup a with
 | some o =>
  have e:=KX a o hk
  rw[ha]at e
  cases e
  refine core (λb=>if b=Pt then some (.tbl #[]) else none) ⟨if_pos rfl,λb hb=>.inl (if_neg hb)⟩ (.inr ⟨_,vs.toArray,_,hk,rfl,rfl,rfl,by rw[List.size_toArray,lenV]; exact hl,by simpa using rv⟩) (λb u z=>?_) (λb z=>?_) λz=>absurd (if_neg haP) z
  ·by_cases hb:b=Pt
   ·have z':=(if_pos hb).symm.trans z
    cases z'
    subst hb
    exact hTab
   ·have z':=(if_neg hb).symm.trans z
    cases z'
  ·by_cases hb:b=Pt
   ·exact .inr hb
   ·exact absurd (if_neg hb) z
 | none =>
  refine core (λb=>if b=Pt then some (.tbl #[]) else if b=a then some (.frz { cls:=.type "list",data:=.seq vs.toArray } (.lst (ns.map V.int))) else none) ⟨if_pos rfl,λb hb=>?_⟩ (.inl (.inr ⟨{ cls:=.type "list",data:=.seq vs.toArray },(if_neg haP).trans (if_pos rfl)⟩)) (λb u z=>?_) (λb z=>?_) λ_=>hk
  ·dsimp only
   rw[if_neg hb]
   by_cases hb:b=a
   ·exact .inr ⟨_,_,if_pos hb⟩
   ·exact .inl (if_neg hb)
  ·by_cases hp:b=Pt
   ·have z':=(if_pos hp).symm.trans z
    cases z'
    subst hp
    exact hTab
   ·have z:=(if_neg hp).symm.trans z
    by_cases hb:b=a
    ·have z':=(if_pos hb).symm.trans z
     cases z'
     subst hb
     exact⟨ha,by rw[List.length_map]; exact hl,vs,_,rv,ha⟩
    ·have z':=(if_neg hb).symm.trans z
     cases z'
  ·by_cases hp:b=Pt
   ·exact .inr hp
   ·by_cases hb:b=a
    ·exact .inl hb
    ·exact absurd ((if_neg hp).trans (if_neg hb)) z
theorem walk_ofT{l:W.OpenLaw}{n k:Nat}{q:Program}{loose:List Str}{XP:(Str->Option Value)->Heap->Prop}{YP:World->Heap->Prop}{d:DefRec}{K:Params->W.Frag}{CX:World->cL}{sp:World->Sp}{x:Str}{Pt c:Addr}
 (hn:l.most=some n) (hn2:n<=sizeLine) (hdf:d.params.defaults=[]) (hr:aP k callerA)
 (hY : ∀ (w:World) (h:Heap),YP w h->(K w.params).In h/\h.get? Pt=some (W.tabObj #[]))
 (hKP : ∀ w:World,(K w.params).lookup Pt=none) (hcd : ∀ w:World,W.codeHdIn (K w.params) c Pt=true)
 (F : ∀ (w:World) (mg:Str->Option Value) (fa:Addr) (h:Heap),(K w.params).In h->h.Ns mainGlobals mg->mg d.name=some (.ref fa) ->
   ∃ fd:FuncData,(∀ (s:Shared) (u:Value),BindsTo s fd ⟨[u],[]⟩ [(x,u)]) /\
    ∀ base:Heap,(K w.params).In base->base.Ns mainGlobals mg->base.BuiltinsAt mg Pt->bw l.prog w (K w.params) mg base (CX w) k fa fd [x] (sp w))
 (hsp : ∀ (w:World) (H:Hp) (a:Addr) (ns:List Int),ns.length<=n->kN Pt H->az (K w.params) H a (ns.map V.int)->sp w [.ref a] H (λv _=>v=.bl true) λ_ _ _=>False)
 (hCX : ∀ (w:World) (H:Hp) (s:Shared) (e:Value) (s':Shared),CX w [] H s (λ_ _ _=>False) e s'->False) :
 W.WalkO q loose XP YP l.row.toRowW d [] (λf vs=>PySem.call f vs):=by
 refine Att.attach_call hn hdf λw s₀ s₁ mg mb fa o pm cd doc a vs ns G Y ho hd hcd' hmg hobj hints hlen hg=>?_
 obtain⟨KX,hTab⟩:=hY w _ Y
 obtain⟨fd,hb,hF⟩:=F w mg fa _ KX G.T.g hmg
 have hbm:s₁.heap.BuiltinsAt mg Pt:=by
  obtain⟨bm,ob,b1,b2,b3,b4,b5,b6⟩:=G.T.bmain
  have hbP:bm≠Pt:=λq=>by
   rw[q,hTab]at b3; cases b3; cases b4
  have hbG:bm≠mainGlobals:=λq=>by
   obtain⟨o,es,ep,e,hd,_⟩:=G.T.g
   rw[q,e]at b3; cases b3; rw[hd]at b6; cases b6
  exact⟨bm,ob,b1,b2,hbG,hbP,b3,b4,b5,b6⟩
 exact Ap KX G.T.g G.T.b G.T.builtins G.T.nolimit hg (hKP w) hTab (hcd w) hbm hobj hints (Nat.le_trans hlen hn2) hr hF hb (λH hO hS=>hsp w H a ns hlen hO hS) λH e s'=>hCX w H s₁ e s'
def kz(P:Program)(w:World)(K:W.Frag)(mg:Str->Option Value)(base:Heap)(x y:Str)(qual:Str)(scope:Scope)(f c0:Addr)(cd:Value)(A:Around)(outer:List Env)(s:Shared)(H:Hp):Cx where
 prog:=P
 w:=w
 K:=K
 mg:=mg
 base:=base
 A:=A.deeper (W.envX qual scope s.heap.objs.size f cd [(y,c0)])
 N:=[x,y]
 s₀:=s
 H₀:=H
 env:=W.envX qual scope s.heap.objs.size f cd [(y,c0)]
 outer:=outer
 stack:=W.envX qual scope s.heap.objs.size f cd [(y,c0)] :: outer
 ex:=[]
 calm:=true
 fn:=λ_=>false
 pn:=[]
 xe:=λ_ _=>False
structure uE (x y:Str) (sc:Scope):Prop where
 kind:sc.kind=.function
 co:sc.isCoroutine=false
 gen:sc.isGenerator=false
 ne:x≠y
 hx:sc.names.lookup x=some .local
 hy:sc.names.lookup y=some .free
 nocell : ∀ z∈sc.names,z.2 ≠ .cell
 only : ∀ z∈sc.names,z.2=.free->z.1=y
theorem Ar{P:Program}{w:World}{K:W.Frag}{mg:Str->Option Value}{base:Heap}{A:Around}{outer:List Env}{s:Shared}{H:Hp}{f c' c0:Addr}{name qual x y:Str}{params:Arguments}{body:Expr}{scope:Scope}{pm ctv:Value}{v vy:V}{u uy:Value}{t:TE}{Q:VK}{k:Nat}
 (hr:aP (k+1) A) (e0:c7 P w K mg base A outer s H) (S:uE x y scope)
 (hf:s.heap.get? f=some (W.kla_obj name qual params body scope [(y,c0)] pm c' ctv)) (hcd:s.heap.CodeRec (.ref c') qual)
 (hc0:s.heap.IsCell c0 (some uy)) (hH0:H c0=none) (rvy:ar vy uy) (rv:ar v u)
 (hb:bindArgs (W.kla_fn name qual params body scope [(y,c0)] pm (.ref c') ctv) ⟨[u],[]⟩=pure [(x,u)])
 (ht:QE (kz P w K mg base x y qual scope f c0 (.ref c') A outer s H) body t) (q:t [some v,some vy] H Q) :
 codeAny (model P w) A (.call (.ref f) ⟨[u],[]⟩) (CR bY outer P w H s Q E0) s:=by
 have lim:s.heap.NoLimit:=e0.mod.nolimit.keeps λb o e=>(e0.bs b o e).1
 refine W.kla_callFunE hr.depth hf rfl S.co S.gen rfl hcd ?_
 rw[hb]
 refine wpAny_pure (wpAny_newFunctionEnv S.nocell (λz hz=>by rw[List.mem_singleton.mp hz]; exact S.hx) (λh₁ hns hsb=>⟨lim.fresh _ hsb,?_⟩) S.kind)
 show codeAny _ _ (.expr body (W.envX qual scope s.heap.objs.size f (.ref c') [(y,c0)])) _ _
 have hk₁ : ∀ b o,s.heap.get? b=some o->h₁.get? b=some o:=λb o e=>hsb.extBut b o (Nat.ne_of_lt (Heap.lt_size e)) (Heap.get?_push_of_some _ e)
 have noA : ∀ b:Addr,b∉(kz P w K mg base x y qual scope f c0 (.ref c') A outer s H).ex:=λb z=>absurd (show b∈([]:List Addr) from z) (by simp)
 have cl1 : ∀ (z:Str) (c:Addr),([(y,c0)]:List (Str × Addr)).lookup z=some c->z=y/\c=c0:=λz c h=>by
  rw[List.lookup_cons]at h
  split at h
  ·rename_i e
   cases h
   exact⟨eq_of_beq e,rfl⟩
  ·cases h
 have yl:([(y,c0)]:List (Str × Addr)).lookup y=some c0:=by rw[List.lookup_cons]; simp
 have I:ad (kz P w K mg base x y qual scope f c0 (.ref c') A outer s H) [] [some v,some vy] H { s with heap:=h₁,toks:=s.toks+[(x,u)].length }:=by
  refine⟨⟨e0.mod,S.kind,rfl,rfl,Nat.le_refl _,λy' z c h1 h2=>?_,λy' hy'=>?_,λy' c hc h=>(nomatch hc),λ_=>hr.hd,Around.frames_deeper e0.frames,.inr ⟨rfl,rfl⟩,λb z=>absurd z (noA b),e0.bs,e0.bsz,λb _ _=>noA b,λb z=>absurd z (noA b),e0.funs,e0.frf⟩,
   rfl,e0.bare,Un.kept hk₁,⟨_,hns,λi y' v' h1 h2 h3=>?_⟩,λy' c h=>?_,e0.hok.fresh (Nat.le_refl _),λy' c h=>?_,λp hp=>absurd (show p∈([]:List (Addr × Obj)) from hp) (by simp),e0.hok.kept hk₁,rfl⟩
  ·exact (cl1 _ _ h1).1.trans (cl1 _ _ h2).1.symm
  ·have hy':scope.names.lookup y'=some .cell\/scope.names.lookup y'=some .free:=hy'
   rcases hy' with hy' | hy'
   ·exact absurd rfl (S.nocell _ (PySem.mem_of_lookup hy'))
   ·have e:=S.only _ (PySem.mem_of_lookup hy') rfl
    exact⟨c0,by have e:y'=y:=e; rw[e]; exact yl⟩
  ·match i with
   | 0 =>
    have e1:x=y':=Option.some.inj h1
    have e2:v=v':=Option.some.inj (Option.some.inj h2)
    subst e1; subst e2
    exact⟨u,rv,.inl ⟨S.hx,by show List.lookup x [(x,u)]=_; rw[List.lookup_cons]; simp⟩⟩
   | 1 =>
    have e1:y=y':=Option.some.inj h1
    have e2:vy=v':=Option.some.inj (Option.some.inj h2)
    subst e1; subst e2
    exact⟨uy,rvy,.inr ⟨.inr S.hy,c0,yl,hc0.keeps hk₁⟩⟩
   | i+2=>exact nomatch h1
  ·obtain⟨_,rfl⟩:=cl1 _ _ h
   exact⟨_,hc0.keeps hk₁⟩
  ·obtain⟨_,rfl⟩:=cl1 _ _ h
   exact hH0
 refine W.kla_codeExpr (wpAny_mono (ht.h [] _ _ H _ I q) (λz s' hs=>?_) λe s' hs=>False.elim hs)
 obtain⟨v',H',J,rv',q'⟩:=hs
 exact⟨v',H',J.os,J.bare,J.base,J.hok,rv',q'⟩
def cf(a:Addr)(o:Obj):HO:=.ext λh=>h.get? a=some o
theorem cf.mk{P:Program}{w:World}{H:Hp}{h:Heap}{a:Addr}{o:Obj}(e:h.get? a=some o):aH P w H h a (cf a o):=⟨e,⟨o,e⟩,λ_ _ p k=>k _ p⟩
theorem cf.at{P:Program}{w:World}{H:Hp}{h:Heap}{a:Addr}{o:Obj}(x:aM P w H h)(e:H a=some (cf a o)):h.get? a=some o:=(x a _ e).1
structure jr (H:Hp) (c:Addr) (qual:Str):Prop where
 ex : ∃ oc vs t,H c=some (cf c oc)/\oc.data=.fields vs/\vs[1]? = some (.str qual t)
def cH(H:Hp)(Pt:Addr)(qual:Str)(pos:Pos):Prop :=
 H Pt=some (.tbl #[])\/∃ c',H Pt=some (.tbl #[rawInt pos.line,rawInt pos.col,.ref c'])/\jr H c' qual
theorem cH.tbl{H:Hp}{Pt:Addr}{qual:Str}{pos:Pos}(h:cH H Pt qual pos) : ∃ ps,H Pt=some (.tbl ps):=by
 rcases h with h | ⟨_,h,_⟩
 ·exact⟨_,h⟩
 ·exact⟨_,h⟩
theorem jr.cd{P:Program}{w:World}{H:Hp}{h:Heap}{c:Addr}{qual:Str}(x:aM P w H h)(e:jr H c qual):h.CodeRec (.ref c) qual:=by
 obtain⟨oc,vs,t,e,d,v⟩:=e
 exact⟨c,oc,vs,t,rfl,cf.at x e,d,v⟩
theorem zE{X:Cx}{pins:List (Addr × Obj)}{σ:St}{H:Hp}{s:Shared}{c Pt:Addr}{params:Arguments}{body:Expr}{scope:Scope}{pos:Pos}{clos:List (Str × Addr)}{Q:Value->Shared->Prop}{E:Value->Shared->Prop}{M:Model}{A:Around}
 (I:ad X pins σ H s) (hdef:defaultsOf params X.env=([],[])) (hcl:closureFor scope X.env=pure clos) (hcode:X.env.code=.ref c) (hhd:W.codeHdIn X.K c Pt=true) (hb:X.base.BuiltinsAt X.mg Pt)
 (hT:cH H Pt (X.env.qual ++ "<lambda>") pos)
 (h : ∀ (f c':Addr) (ctv:Value) (H':Hp) (s':Shared),H f=none->H' f=some (cf f (W.kla_obj "<lambda>" (X.env.qual ++ "<lambda>") params body scope clos ((X.mg "__name__").getD .none) c' ctv)) ->
   H' Pt=some (.tbl #[rawInt pos.line,rawInt pos.col,.ref c'])->jr H' c' (X.env.qual ++ "<lambda>")->(∀ b o,b≠Pt->H b=some o->H' b=some o)->ad X pins σ H' s'->Q (.ref f) s') :
 wpAny M A (eval (.Lambda params body scope pos) X.env) Q E s:=by
 have C:=W.codeHd_of_K I.kIn hhd
 have hbs:=hb.keeps I.bk
 have hg:s.heap.Ns mainGlobals X.mg:=by
  obtain⟨o,es,ep,e,r⟩:=I.ok.mod.glob
  exact⟨o,es,ep,I.bk _ _ e,r⟩
 refine W.kla_eval hdef ?_
 rcases hT with hT | ⟨c',hT,hco⟩
 ·have hP:s.heap.get? Pt=some (W.tabObj #[]):=I.hok Pt _ hT
  have hgP:mainGlobals≠Pt:=λq=>by
   obtain⟨o,es,ep,e,d,_⟩:=hg
   rw[q,hP]at e; cases e; cases d
  refine W.kla_makeFunction (mg:=X.mg) hcl I.ok.glob hg hcode C hP trivial rfl hgP hbs λc' ctv h' tk hx hge hlt hrec htb=>?_
  obtain⟨c₂,oc,vs,tq,e2,hoc,hdc,hvc⟩:=hrec
  cases e2
  generalize hfo:W.kla_obj "<lambda>" (X.env.qual ++ "<lambda>") params body scope clos ((X.mg "__name__").getD .none) c' ctv=fo
  have hfr:fo.isFreed=false:=by rw[<- hfo]; rfl
  have hPs:Pt < s.heap.objs.size:=Heap.lt_size hP
  have hPc:Pt≠c':=Nat.ne_of_lt (Nat.lt_of_lt_of_le hPs hge)
  have hcf:c'≠h'.objs.size:=Nat.ne_of_lt hlt
  have hPf:Pt≠h'.objs.size:=Nat.ne_of_lt (Nat.lt_trans (Nat.lt_of_lt_of_le hPs hge) hlt)
  have nc:H c'=none:=I.hok.fresh hge
  have nf:H h'.objs.size=none:=I.hok.fresh (Nat.le_trans hge (Nat.le_of_lt hlt))
  have old : ∀ b o,b≠Pt->s.heap.get? b=some o->(h'.push fo).get? b=some o:=λb o hb e=>Heap.get?_push_of_some _ (hx b o hb e)
  have eP:(h'.push fo).get? Pt=some (W.tabObj #[rawInt pos.line,rawInt pos.col,.ref c']):=by
   have:=Heap.get?_push_of_some fo htb
   simpa using this
  let H3:Hp:=upd (upd (upd H Pt (.tbl #[rawInt pos.line,rawInt pos.col,.ref c'])) c' (cf c' oc)) h'.objs.size (cf h'.objs.size fo)
  have h3o : ∀ b,b≠Pt->b≠c'->b≠h'.objs.size->H3 b=H b:=λb h1 h2 h3=>by
   show upd (upd (upd H Pt _) c' _) h'.objs.size _ b=_
   rw[aj h3,aj h2,aj h1]
  have h3P:H3 Pt=some (.tbl #[rawInt pos.line,rawInt pos.col,.ref c']):=by
   show upd (upd (upd H Pt _) c' _) h'.objs.size _ Pt=_
   rw[aj hPf,aj hPc,aN]
  have h3c:H3 c'=some (cf c' oc):=by
   show upd (upd (upd H Pt _) c' _) h'.objs.size _ c'=_
   rw[aj hcf,aN]
  have h3f:H3 h'.objs.size=some (cf h'.objs.size fo):=aN
  have h3s : ∀ b o,b≠Pt->H b=some o->H3 b=some o:=λb o hb e=>by
   rw[h3o b hb (λz=>by rw[z,nc]at e; cases e) (λz=>by rw[z,nf]at e; cases e)]
   exact e
  refine h _ c' ctv H3 _ nf (by rw[hfo]; exact h3f) h3P ⟨oc,vs,tq,h3c,hdc,hvc⟩ h3s ?_
  refine I.un (H':=H3) (h':=h'.push fo) (t':=tk) ⟨λb o e n _ _=>old b o (λz=>by rw[z,hT]at n; cases n) e,λb o e n _ _=>⟨o.slots,old b o (λz=>by rw[z,hT]at n; cases n) e⟩,λb o e n _=>?_,λb o e _=>?_,λb xs e=>h3s b _ (λz=>by rw[z,hT]at e; cases e) e,λb o u e=>h3s b _ (λz=>by rw[z,hT]at e; cases e) e,λb ps e=>?_⟩ λb u e=>?_
  ·have l:b < s.heap.objs.size:=Heap.lt_size e
   rw[h3o b (λz=>by rw[z,hT]at n; cases n) (Nat.ne_of_lt (Nat.lt_of_lt_of_le l hge)) (Nat.ne_of_lt (Nat.lt_trans (Nat.lt_of_lt_of_le l hge) hlt))]
   exact n
  ·by_cases hb':b=Pt
   ·exact⟨_,hb' ▸ eP⟩
   ·exact⟨o,old b o hb' e⟩
  ·by_cases hb':b=Pt
   ·rw[hb',hT]at e; cases e
    exact⟨#[rawInt pos.line,rawInt pos.col,.ref c'],by rw[hb',h3P]; simp⟩
   ·exact⟨#[],by rw[h3s b _ hb' e]; simp⟩
  ·by_cases h1:b=h'.objs.size
   ·rw[h1,h3f]at e; cases e
    rw[h1]
    exact cf.mk (Heap.get?_push_size _ hfr)
   ·by_cases h2:b=c'
    ·rw[h2,h3c]at e; cases e
     rw[h2]
     exact cf.mk (Heap.get?_push_of_some _ hoc)
    ·by_cases h4:b=Pt
     ·rw[h4,h3P]at e; cases e
      rw[h4]
      exact eP
     ·rw[h3o b h4 h2 h1]at e
      refine (I.hok b u e).stay (λa o ha q=>old a o (λz=>?_) q) (λa q=>h3s a _ (λz=>by rw[z,hT]at q; cases q) q) λa xs q=>h3s a _ (λz=>by rw[z,hT]at q; cases q) q
      rcases ha with ha | ha
      ·exact h4 (ha.symm.trans z)
      ·rw[z,hT]at ha; cases ha
 ·have hP:s.heap.get? Pt=some (W.tabObj #[rawInt pos.line,rawInt pos.col,.ref c']):=I.hok Pt _ hT
  have hf:codeAmong pos (#[rawInt pos.line,rawInt pos.col,Value.ref c']:Array Value).toList=some (.ref c'):=by
   show codeAmong pos [rawInt pos.line,rawInt pos.col,.ref c']=_
   simp[codeAmong,rawInt]
  refine W.kla_makeFunctionHit (mg:=X.mg) hcl I.ok.glob hg hcode C hP trivial hf hbs λctv h' tk hk hsz=>?_
  generalize hfo:({ cls:=.type "function",data:=.func (W.kla_fn "<lambda>" (X.env.qual ++ "<lambda>") params body scope clos ((X.mg "__name__").getD .none) (.ref c') ctv) }:Obj)=fo
  have hfr:fo.isFreed=false:=by rw[<- hfo]; rfl
  have nf:H h'.objs.size=none:=I.hok.fresh hsz
  have hk' : ∀ b o,s.heap.get? b=some o->(h'.push fo).get? b=some o:=λb o e=>Heap.get?_push_of_some _ (hk b o e)
  have h3s : ∀ b o,H b=some o->upd H h'.objs.size (cf h'.objs.size fo) b=some o:=λb o e=>by
   rw[aj (λz=>by rw[z,nf]at e; cases e)]
   exact e
  refine h _ c' ctv (upd H h'.objs.size (cf h'.objs.size fo)) _ nf (by rw[aN,<- hfo]) (h3s _ _ hT) ?_ (λb o _ e=>h3s b o e) (I.laid (a:=h'.objs.size) (o:=cf h'.objs.size fo) (t':=tk) hk' hsz (cf.mk (Heap.get?_push_size _ hfr)))
  obtain⟨oc,vs,t,e,d,v⟩:=hco
  exact⟨oc,vs,t,h3s _ _ e,d,v⟩
structure bI (X:Cx) (pins:List (Addr × Obj)) (H:Hp) (a:Addr):Prop where
 no:H a=none
 loc:a≠X.env.locals
 fs:a∉X.fs
 new:X.s₀.heap.objs.size<=a
 cell : ∀ x c,X.env.cells.lookup x=some c->c≠a
 pin : ∀ p∈X.pn++pins,p.1≠a
section
variable {X:Cx}{pins:List (Addr × Obj)}{σ:St}{H:Hp}{s:Shared}
theorem bI.fresh(I:ad X pins σ H s){a:Addr}(h:s.heap.objs.size<=a):bI X pins H a :=
 ⟨I.hok.fresh h,λz=>absurd (Nat.lt_of_lt_of_le I.lt h) (by rw[z]; exact Nat.lt_irrefl _),I.nofs h,Nat.le_trans I.sz h,
  λx c e z=>by
   obtain⟨v,o,ho,_⟩:=I.cell x c e
   exact absurd (Nat.lt_of_lt_of_le (Heap.lt_size ho) h) (by rw[z]; exact Nat.lt_irrefl _),
  λp hp z=>by
   have ho:=(I.pin p hp).1
   exact absurd (Nat.lt_of_lt_of_le (Heap.lt_size ho) h) (by rw[z]; exact Nat.lt_irrefl _)⟩
theorem bI.turned{a:Addr}{h':Heap}{t':Nat}(o:bI X pins H a)(I:ad X pins σ H s)(k : ∀ b u,b≠a->s.heap.get? b=some u->h'.get? b=some u):ad X pins σ H { s with heap:=h',toks:=t' } :=
 I.turned k o.no o.loc (.inr o.new) o.cell o.pin
structure eT (X:Cx) (pins:List (Addr × Obj)) (σ:St) (H:Hp) (it S d:Addr) (n ep j:Nat) (arr:Array Value) (s:Shared):Prop where
 inv:ad X pins σ H s
 seq : ∃ c,s.heap.get? S=some (seqObj "list" arr c)
 iter:s.heap.IsKeyIter it d j n ep
theorem eT.call{it S d:Addr}{n ep j:Nat}{arr:Array Value}(m:eT X pins σ H it S d n ep j arr s)(oS:bI X pins H S)(oI:bI X pins H it){M:Model}{A:Around}{tree:Sem Value}{q:Value->Prop}{Q:Value->Shared->Prop}{E:Value->Shared->Prop}
 (turn : ∀ pins' s',ad X pins' σ H s'->wpAny M A tree (λu s2=>ad X pins' σ H s2/\q u) (λ_ _=>False) s')
 (h : ∀ u s2,eT X pins σ H it S d n ep j arr s2->q u->Q u s2):wpAny M A tree Q E s:=by
 obtain⟨I,⟨c,eS⟩,ki⟩:=m
 obtain⟨o,e1,e2,e3⟩:=ki
 have I':ad X ((S,seqObj "list" arr c) :: (it,o) :: pins) σ H s:=I.pins_of λp hp=>by
  rcases List.mem_cons.mp hp with z | hp
  ·subst z
   exact⟨eS,oS.no,oS.loc,oS.fs,λv z=>by cases z⟩
  ·rcases List.mem_cons.mp hp with z | hp
   ·subst z
    exact⟨e1,oI.no,oI.loc,oI.fs,λv z=>by have z':o.data=.cell v:=z; rw[e3]at z'; cases z'⟩
   ·exact I.pin p (List.mem_append_right _ hp)
 refine wpAny_mono (turn _ s I') (λu s2 hu=>?_) λ_ _ f=>f.elim
 obtain⟨J,hq⟩:=hu
 have pS:=(J.pin (S,seqObj "list" arr c) (List.mem_append_right _ (.head _))).1
 have pI:=(J.pin (it,o) (List.mem_append_right _ (.tail _ (.head _)))).1
 exact h u s2 ⟨J.pins_of λp hp=>J.pin p (List.mem_append_right _ (.tail _ (.tail _ hp))),⟨c,pS⟩,⟨o,pI,e2,e3⟩⟩ hq
theorem eT.write{it S d:Addr}{n ep j:Nat}{arr:Array Value}(arr':Array Value)(m:eT X pins σ H it S d n ep j arr s)(oS:bI X pins H S)(hSI:S≠it){t':Nat} :
 eT X pins σ H it S d n ep j arr' { s with heap:=s.heap.update S (Obj.mapSeq λ_=>arr'),toks:=t' }:=by
 obtain⟨I,⟨c,eS⟩,ki⟩:=m
 have s1:=Heap.SameBut.update s.heap S (Obj.mapSeq λ_=>arr')
 obtain⟨o,e1,e2,e3⟩:=ki
 exact⟨oS.turned I λb u hb e=>(s1.2 b hb).trans e,⟨_,get?_update_seq eS λ_=>arr'⟩,⟨o,(s1.2 it hSI.symm).trans e1,e2,e3⟩⟩
variable {d it S f:Addr}{xs:List (aa × Addr × Value)}{ep:Nat}{kvs:List (aa × Addr × V)}{R:Result->Shared->Prop}
theorem Ab(kn:KP kvs xs)(hd:H d=some (c8 d xs ep))(kf:Nat->Int)(hh:X.A.handled=none)(oS:bI X pins H S)(oI:bI X pins H it)(hSI:S≠it)
 (turn : ∀ (i:Nat) k b v,kvs[i]? = some (k,b,v)->∀ pins' s',ad X pins' σ H s'->wpAny (model X.prog X.w) X.A.in1 (call (.ref f) [.ref b]) (λu s2=>ad X pins' σ H s2/\∃ t,u=.int (kf i) t) (λ_ _=>False) s')
 (hR : ∀ i k b v s',kvs[i]? = some (k,b,v)->(∀ j,j < kvs.length->kf i>=kf j/\(j < i->kf i > kf j))->ad X pins σ H s'->R (.ok (.ret (.ref b))) s') :
 ∀ (r j i:Nat) (s:Shared) (b:Addr) (tb:Tok) (k:aa) (v:V),kvs.length - (j+1)=r->j+1<=kvs.length->eT X pins σ H it S d (xs.map bC).toArray.size ep (j+1) #[.ref b,.int (kf i) tb] s->kvs[i]? = some (k,b,v)->i<=j ->
  (∀ j',j'<=j->kf i>=kf j'/\(j' < i->kf i > kf j'))->codeAny (model X.prog X.w) X.A (.builtin "max.loop" ⟨[.ref it,.ref f,.ref S],[]⟩) R s:=by
 have hname:(toString "max"++toString ".loop" : String) = "max.loop":=by decide
 have hl:=Paired.length kn
 have hsz:(xs.map bC).toArray.size=kvs.length:=by rw[List.size_toArray,List.length_map,hl]
 intro r
 induction r with
 | zero =>
  intro j i s b tb k v hr hj m hb hij hbest
  have hin:j+1=kvs.length:=by omega
  obtain⟨I,⟨c,eS⟩,ki⟩:=m
  obtain⟨raw,_⟩:=I.hok d _ hd
  refine codeAny_builtin PySem.F.entry_max_loop ?_
  rw[Around.under_plainId PySem.F.plain_max_loop _]
  show wpAny _ X.A.in1 (seqItems? (.ref S) >>= _) _ _ _
  refine wpAny_bind (wpAny_seqItems eS rfl ?_)
  show wpAny _ X.A.in1 (tryCatch (pyNext (.ref it)) _ >>= _) _ _ _
  refine wpAny_bind (wpAny_tryCatch (jL (A:=X.A.in1) hh ki raw (by rw[hsz]; omega) λh' hx=>?_))
  have I1:ad X pins σ H { s with heap:=h' }:=oI.turned (t':=s.toks) I λb u hb e=>hx b u hb e
  have eS1:h'.get? S=some (seqObj "list" #[.ref b,.int (kf i) tb] c):=hx S _ hSI eS
  show wpAny _ X.A.in1 (updateSeq S (λ_=>#[]) >>= _) _ _ _
  refine wpAny_bind ?_
  refine wpAny_updateSeq eS1 rfl (wpAny_bind (wpAny_letGo (wpAny_pure ?_)))
  have s1:=Heap.SameBut.update h' S (Obj.mapSeq λ_=>(#[]:Array Value))
  exact hR i k b v _ hb (λj' hj'=>hbest j' (by omega)) (oS.turned I1 λb u hb e=>(s1.2 b hb).trans e)
 | succ r ih =>
  intro j i s b tb k v hr hj m hb hij hbest
  have hlt:j+1 < kvs.length:=by omega
  obtain⟨I,⟨c,eS⟩,ki⟩:=m
  obtain⟨raw,_⟩:=I.hok d _ hd
  obtain⟨⟨k1,b1,v1⟩,hkv⟩ : ∃ y,kvs[j+1]? = some y:=⟨_,List.getElem?_eq_getElem hlt⟩
  obtain⟨⟨k2,b2,u2⟩,hxs⟩ : ∃ y,xs[j+1]? = some y:=⟨_,List.getElem?_eq_getElem (by omega)⟩
  obtain⟨_,z2,_⟩:=i9 kn hkv hxs
  have z2':b1=b2:=z2
  subst z2'
  refine codeAny_builtin PySem.F.entry_max_loop ?_
  rw[Around.under_plainId PySem.F.plain_max_loop _]
  show wpAny _ X.A.in1 (seqItems? (.ref S) >>= _) _ _ _
  refine wpAny_bind (wpAny_seqItems eS rfl ?_)
  show wpAny _ X.A.in1 (tryCatch (pyNext (.ref it)) _ >>= _) _ _ _
  refine wpAny_bind (wpAny_tryCatch (iU (e:=bC (k2,b1,u2)) ki raw (by rw[List.getElem?_toArray,List.getElem?_map,hxs]; rfl) λh' ki' sb=>?_))
  have m1:eT X pins σ H it S d (xs.map bC).toArray.size ep (j+1+1) #[.ref b,.int (kf i) tb] { s with heap:=h' }:=⟨oI.turned (t':=s.toks) I λb u hb e=>(sb.2 b hb).trans e,⟨c,(sb.2 S hSI).trans eS⟩,ki'⟩
  show wpAny _ X.A.in1 (tryCatch (holding [.ref b1] (call (.ref f) [.ref b1])) _ >>= _) _ _ _
  refine wpAny_bind (wpAny_tryCatch (wpAny_holding (m1.call oS oI (turn (j+1) k1 b1 v1 hkv) λu s2 m2 hu=>?_)))
  obtain⟨t2,rfl⟩:=hu
  show wpAny _ X.A.in1 (tryCatch (holding [.ref b1,.int (kf (j+1)) t2] (richCompare .Gt (.int (kf (j+1)) t2) (.int (kf i) tb) >>= _)) _ >>= _) _ _ _
  refine wpAny_bind (wpAny_tryCatch (wpAny_holding (wpAny_bind (CmpOf.ints_gt (prog:=X.prog) (w:=X.w) (A:=X.A.in1) (P:=λi v=>∃ t,v=.int (kf i) t) kf (λi v h=>h) (j+1) i _ _ _ _ _ ⟨t2,rfl⟩ ⟨tb,rfl⟩ ?_))))
  refine wpAny_bind (wpAny_holding (wpAny_truthy_bool ?_))
  refine wpAny_bind (wpAny_letGo (wpAny_pure ?_))
  by_cases hb':kf (j+1) > kf i
  ·simp only [hb',decide_true,if_true]
   obtain⟨c2,eS2⟩:=m2.seq
   refine wpAny_bind ?_
   refine wpAny_updateSeq eS2 rfl (wpAny_bind (wpAny_letGo ?_))
   rw[hname]
   refine wpAny_pure ⟨plainId_quiet PySem.F.plain_max_loop _,ih (j+1) (j+1) _ b1 t2 k1 v1 (by omega) hlt (m2.write _ oS hSI) hkv (Nat.le_refl _) λj' hj'=>?_⟩
   by_cases e:j'=j+1
   ·subst e
    exact⟨by omega,λ_=>by omega⟩
   ·have hb1:=hbest j' (by omega)
    have hb2:=hb1.1
    exact⟨by omega,λ_=>by omega⟩
  ·simp only [hb',decide_false,Bool.false_eq_true,if_false]
   refine wpAny_bind (wpAny_letGo ?_)
   rw[hname]
   refine wpAny_pure ⟨plainId_quiet PySem.F.plain_max_loop _,ih (j+1) i _ b tb k v (by omega) hlt m2 hb (by omega) λj' hj'=>?_⟩
   by_cases e:j'=j+1
   ·subst e
    exact⟨by omega,λ_=>by omega⟩
   ·exact hbest j' (by omega)
theorem Ac{Q:Value->Shared->Prop}{E:Value->Shared->Prop}(I:ad X pins σ H s)(kn:KP kvs xs)(hd:H d=some (c8 d xs ep))(kf:Nat->Int)(hh:X.A.handled=none)(hne:0 < kvs.length)
 (turn : ∀ (i:Nat) k b v,kvs[i]? = some (k,b,v)->∀ pins' s',ad X pins' σ H s'->wpAny (model X.prog X.w) X.A.in1 (call (.ref f) [.ref b]) (λu s2=>ad X pins' σ H s2/\∃ t,u=.int (kf i) t) (λ_ _=>False) s')
 (hQ : ∀ i k b v s',kvs[i]? = some (k,b,v)->(∀ j,j < kvs.length->kf i>=kf j/\(j < i->kf i > kf j))->ad X pins σ H s'->Q (.ref b) s') :
 wpAny (model X.prog X.w) X.A (call (.builtin "max") [.ref d] [(Str.ofString "key",.ref f)]) Q E s:=by
 have hname:(toString "max"++toString ".loop" : String) = "max.loop":=by decide
 have hl:=Paired.length kn
 have hsz:(xs.map bC).toArray.size=kvs.length:=by rw[List.size_toArray,List.length_map,hl]
 obtain⟨raw,_⟩:=I.hok d _ hd
 refine kmk_tree PySem.F.kind_max PySem.F.plain_max PySem.F.entry_max (kmk_max_key _ _) ?_
 show wpAny _ X.A.in1 (Builtin.Builtins.bindParams "max" ["key", "default"] 0 ⟨[],[(Str.ofString "key",.ref f)]⟩ >>= _) _ _ s
 refine wpAny_bind (wpAny_of_eq (show Builtin.Builtins.bindParams "max" ["key", "default"] 0 ⟨[],[(Str.ofString "key",.ref f)]⟩=pure [some (.ref f),none] from rfl) ?_)
 refine wpAny_bind (wpAny_pure ?_)
 refine wpAny_bind (jK raw ?_)
 refine wpAny_bind (wpAny_newList ?_ (Nat.zero_le _))
 rw[hname]
 generalize hIo:({ cls:=.type "dict_keyiterator",data:=.fields #[.ref d,.int 0 0,.int ((xs.map bC).toArray.size:Int) 0,.int ep 0] }:Obj)=oi
 have hfr:oi.isFreed=false:=by rw[<- hIo]; rfl
 have hS:(s.heap.push oi).objs.size=s.heap.objs.size+1:=size_push' ..
 have oI:bI X pins H s.heap.objs.size:=.fresh I (Nat.le_refl _)
 have oS:bI X pins H (s.heap.push oi).objs.size:=.fresh I (by rw[hS]; exact Nat.le_succ _)
 have hSI:(s.heap.push oi).objs.size≠s.heap.objs.size:=by rw[hS]; exact Nat.ne_of_gt (Nat.lt_succ_self _)
 have kp : ∀ b u,s.heap.get? b=some u->((s.heap.push oi).push (seqObj "list" #[] 0)).get? b=some u:=λb u e=>Heap.get?_push_of_some _ (Heap.get?_push_of_some _ e)
 have gI:((s.heap.push oi).push (seqObj "list" #[] 0)).get? s.heap.objs.size=some oi:=Heap.get?_push_of_some _ (Heap.get?_push_size _ hfr)
 have gS:((s.heap.push oi).push (seqObj "list" #[] 0)).get? (s.heap.push oi).objs.size=some (seqObj "list" #[] 0):=Heap.get?_push_size _ rfl
 have I0:ad X pins σ H { s with heap:=(s.heap.push oi).push (seqObj "list" #[] 0) }:=I.kept (t':=s.toks) kp
 have ki0:((s.heap.push oi).push (seqObj "list" #[] 0)).IsKeyIter s.heap.objs.size d 0 (xs.map bC).toArray.size ep:=⟨oi,gI,by rw[<- hIo],by rw[<- hIo]; rfl⟩
 refine wpAny_pure ⟨plainId_quiet PySem.F.plain_max_loop _,?_⟩
 obtain⟨⟨k1,b1,v1⟩,hkv⟩ : ∃ y,kvs[0]? = some y:=⟨_,List.getElem?_eq_getElem hne⟩
 obtain⟨⟨k2,b2,u2⟩,hxs⟩ : ∃ y,xs[0]? = some y:=⟨_,List.getElem?_eq_getElem (by omega)⟩
 obtain⟨_,z2,_⟩:=i9 kn hkv hxs
 have z2':b1=b2:=z2
 subst z2'
 obtain⟨raw0,_⟩:=I0.hok d _ hd
 refine codeAny_builtin PySem.F.entry_max_loop ?_
 rw[Around.under_plainId PySem.F.plain_max_loop _]
 show wpAny _ X.A.in1 (seqItems? (.ref _) >>= _) _ _ _
 refine wpAny_bind (wpAny_seqItems gS rfl ?_)
 show wpAny _ X.A.in1 (tryCatch (pyNext (.ref s.heap.objs.size)) _ >>= _) _ _ _
 refine wpAny_bind (wpAny_tryCatch (iU (e:=bC (k2,b1,u2)) ki0 raw0 (by rw[List.getElem?_toArray,List.getElem?_map,hxs]; rfl) λh' ki' sb=>?_))
 have m1:eT X pins σ H s.heap.objs.size (s.heap.push oi).objs.size d (xs.map bC).toArray.size ep 1 #[] { s with heap:=h' }:=⟨oI.turned (s:={ s with heap:=(s.heap.push oi).push (seqObj "list" #[] 0) }) (t':=s.toks) I0 λb u hb e=>(sb.2 b hb).trans e,⟨0,(sb.2 _ hSI).trans gS⟩,ki'⟩
 show wpAny _ X.A.in1 (tryCatch (holding [.ref b1] (call (.ref f) [.ref b1])) _ >>= _) _ _ _
 refine wpAny_bind (wpAny_tryCatch (wpAny_holding (m1.call oS oI (turn 0 k1 b1 v1 hkv) λu s2 m2 hu=>?_)))
 obtain⟨t2,rfl⟩:=hu
 obtain⟨c2,eS2⟩:=m2.seq
 show wpAny _ X.A.in1 (updateSeq (s.heap.push oi).objs.size (λ_=>#[.ref b1,.int (kf 0) t2]) >>= _) _ _ _
 refine wpAny_bind ?_
 refine wpAny_updateSeq eS2 rfl ?_
 rw[hname]
 refine wpAny_pure ⟨plainId_quiet PySem.F.plain_max_loop _,Ab kn hd kf hh oS oI hSI turn hQ _ 0 0 _ b1 t2 k1 v1 rfl hne (m2.write _ oS hSI) hkv (Nat.le_refl _) λj' hj'=>?_⟩
 have e:j'=0:=by omega
 subst e
 exact⟨by omega,λh=>absurd h (Nat.lt_irrefl _)⟩
end
def dJ(Pt:Addr)(H H':Hp):Prop:=∀ b o,b≠Pt->H b=some o->H' b=some o
theorem dJ.trans{Pt:Addr}{H H1 H2:Hp}(a:dJ Pt H H1)(b:dJ Pt H1 H2):dJ Pt H H2:=λc o n h=>b c o n (a c o n h)
theorem af.one{Pt:Addr}{H H':Hp}(a:af H H'):dJ Pt H H':=λc o _ h=>a c o h
def vV(Pt:Addr)(qual:Str)(lpos:Pos)(iy:Nat)(te tb:TE):TE:=λσ H Q=>te σ H λx H1=>∃ d kvs vy,x=.ref d/\DP H1 d kvs/\kvs≠[]/\σ[iy]? = some (some vy)/\cH H1 Pt qual lpos/\∃ kf:Nat->Int,
 (∀ H2,dJ Pt H1 H2->∀ i k b v,kvs[i]? = some (k,b,v)->tb [some (.ref b),some vy] H2 λw H'=>w=.int (kf i)/\H'=H2) /\
 ∀ H2,dJ Pt H1 H2->cH H2 Pt qual lpos->∀ i k b v,kvs[i]? = some (k,b,v)->(∀ j,j < kvs.length->kf i>=kf j/\(j < i->kf i > kf j))->Q (.ref b) H2
theorem CQ{env:Env}{scope:Scope}{x y:Str}{c0:Addr}(hnm:scope.names=[(x,.local),(y,.free)])(h:env.cells.lookup y=some c0):closureFor scope env=pure [(y,c0)]:=by
 unfold closureFor
 rw[hnm]
 simp[cellOf,h]
section
variable {X:Cx}{e body:Expr}{te tb:TE}{x y:Str}{scope:Scope}{params:Arguments}{lpos kp pos p:Pos}{c Pt:Addr}{k iy:Nat}
theorem xR(hr:aP (k+2) X.A)(hcode:X.env.code=.ref c)(hhd:W.codeHdIn X.K c Pt=true)(hbi:X.base.BuiltinsAt X.mg Pt)
 (hy:X.N[iy]? = some y) (hvy:X.env.scope.names.lookup y=some .cell) (hne:x≠y) (hnm:scope.names=[(x,.local),(y,.free)]) (hkd:scope.kind=.function) (hco:scope.isCoroutine=false) (hge:scope.isGenerator=false)
 (hdef:defaultsOf params X.env=([],[]))
 (hbd : ∀ (qual:Str) (pm:Value) (c' c0:Addr) (ctv u:Value),bindArgs (W.kla_fn "<lambda>" qual params body scope [(y,c0)] pm (.ref c') ctv) ⟨[u],[]⟩=pure [(x,u)])
 (hb : ∀ f c0 cd A outer s H,aP (k+1) A->QE (kz X.prog X.w X.K X.mg X.base x y (X.env.qual ++ "<lambda>") scope f c0 cd A outer s H) body tb)
 (he:QE X e te) (hm:X.mg "max" = none) (hg:Gl X "max") (hs:starEach [e] X.env=(false,eval e X.env) :: starEach [] X.env:=by rfl) :
 QE X (.Call (.Name "max" p) [e] [⟨some "key",.Lambda params body scope lpos,kp⟩] pos) (vV Pt (X.env.qual ++ "<lambda>") lpos iy te tb):=⟨λpins s σ H Q I h=>by
 have S:uE x y scope:=by
  refine⟨hkd,hco,hge,hne,?_,?_,?_,?_⟩
  ·rw[hnm,List.lookup_cons]; simp
  ·rw[hnm,List.lookup_cons]
   have:(y == x)=false:=beq_eq_false_iff_ne.mpr (Ne.symm hne)
   simp[this]
  ·rw[hnm]; intro z hz
   rcases List.mem_cons.mp hz with z1 | hz
   ·rw[z1]; exact λq=>nomatch q
   ·rw[List.mem_singleton.mp hz]; exact λq=>nomatch q
  ·rw[hnm]; intro z hz hf
   rcases List.mem_cons.mp hz with z1 | hz
   ·rw[z1]at hf; cases hf
   ·rw[List.mem_singleton.mp hz]
 have e1:backTo pos (starEach [e] X.env)=[(false,eval e X.env)]:=by
  unfold backTo; rw[hs]; rfl
 have e2:backTo pos (starEach ([]:List Expr) X.env)=[]:=rfl
 refine wpAny_Call_Name_kw (fX I hg hm (show bootBuiltins "max" = some (.builtin "max") by decide +kernel) ?_ (by decide) (by decide))
 refine callWith_kw (e:=e) (rest:=[]) (kws:=[⟨some "key",.Lambda params body scope lpos,kp⟩]) ?_ (by rw[e1,e2]) (by rw[e1]; rfl) rfl rfl
 rw[e1]
 refine Calls.spliced_cons (ai (he.h pins s σ H _ I h) λu s1 ⟨x',H1,I1,r1,d,kvs,vy,ex,hD,hkn,hvy',hT,kf,hk,hq⟩=>Calls.spliced_nil ?_)
 subst ex
 obtain rfl:u=Value.ref d:=r1
 obtain⟨m,hn,hl⟩:=id I1.loc
 obtain⟨c0,hc0⟩:=I1.ok.has y (.inl hvy)
 refine kws_cons (zE I1 hdef (CQ hnm hc0) hcode hhd hbi hT λf c' ctv H2 s2 nf hf hP hC hs1 I2=>kws_nil ?_)
 have T2:cH H2 Pt (X.env.qual ++ "<lambda>") lpos:=.inr ⟨c',hP,hC⟩
 obtain⟨⟨xs,ep,hd1,kn⟩,ky,nd,le⟩:=id hD
 have dPt:d≠Pt:=λz=>by
  obtain⟨ps,hp⟩:=hT.tbl
  rw[z,hp]at hd1; cases hd1
 have hd2:H2 d=some (c8 d xs ep):=hs1 d _ dPt hd1
 show wpAny _ _ (call (.builtin "max") [.ref d] [(Str.ofString "key",.ref f)]) _ _ _
 refine Ac I2 kn hd2 kf hr.hd (List.length_pos_iff.mpr hkn) (λi k' b v hi pins' s' I'=>?_) λi k' b v s' hi hb' I'=>?_
 ·have fo:=cf.at I'.hok hf
  have co:=jr.cd I'.hok hC
  obtain⟨m',hn',hl'⟩:=id I'.loc
  obtain⟨uy,ruy,lk⟩:=hl' iy y vy hy hvy' (.inr (.inl hvy))
  have hcell:s'.heap.IsCell c0 (some uy):=by
   rcases lk with ⟨q,_⟩ | ⟨_,c1,e1,z⟩
   ·have q':X.env.scope.names.lookup y=some .local:=q
    rw[hvy]at q'; cases q'
   ·rw[hc0]at e1; cases e1
    exact z
  refine wpAny_call (codeAny_mono (Ar (k:=k) (v:=.ref b) (t:=tb) (Q:=λw H'=>w=.int (kf i)/\H'=H2) hr.in1 I'.env0.in1 S fo co hcell (I'.freeC y c0 hc0) ruy (u:=.ref b) rfl (hbd _ _ _ _ _ _) (hb _ _ _ _ _ _ _ hr.in1) (hk H2 hs1 i k' b v hi)) λr s'' hr'=>?_)
  cases r with
  | error e=>exact False.elim hr'
  | ok fl =>
   cases fl with
   | next=>exact False.elim hr'
   | brk=>exact False.elim hr'
   | cont=>exact False.elim hr'
   | ret u =>
    obtain⟨v',H',J,rv',rfl,rfl⟩:=I'.after hr'
    exact⟨J,rv'⟩
 ·exact⟨.ref b,H2,I',rfl,hq H2 hs1 T2 i k' b v hi hb'⟩⟩
end
abbrev ay:=List Int
def eX(x:ay × Addr × Value):DictEntry:=⟨reduceHash (Builtin.Tuple.tupleHashOf (x.1.map hashInt)),.ref x.2.1,x.2.2⟩
theorem kX(P:Program)(w:World):entryOfKey (tupleKind (intKind P w))=eX:=rfl
def eU(a:Addr)(xs:List (ay × Addr × Value))(ep:Nat):HO:=.ext λh=>cA h a (xs.map eX).toArray ep
def cJ(H:Hp)(k:ay)(p:Addr):Prop:=H p=some (.tup (k.map V.int))
abbrev KQ:List (ay × Addr × V)->List (ay × Addr × Value)->Prop:=Paired λp q=>p.1=q.1/\p.2.1=q.2.1/\ar p.2.2 q.2.2
structure DQ (H:Hp) (a:Addr) (kvs:List (ay × Addr × V)):Prop where
 ex : ∃ xs ep,H a=some (eU a xs ep)/\KQ kvs xs
 key : ∀ x∈kvs,cJ H x.1 x.2.1
 nd:(kvs.map (·.1)).Nodup
 le:kvs.length<=sizeLine
theorem cJ.same{H H':Hp}{k:ay}{p:Addr}(s:af H H')(h:cJ H k p):cJ H' k p:=s _ _ h
theorem DQ.same{H H':Hp}{a:Addr}{kvs:List (ay × Addr × V)}(s:af H H')(d:DQ H a kvs):DQ H' a kvs:=by
 obtain⟨⟨xs,ep,h1,h2⟩,k,n,l⟩:=d
 exact⟨⟨xs,ep,s _ _ h1,h2⟩,λx hx=>(k x hx).same s,n,l⟩
def bq(kvs:List (ay × Addr × V))(k:ay):Option V:=(kvs.find? λx=>decide (x.1=k)).map (·.2.2)
def ci(kvs:List (ay × Addr × V))(k:ay)(b:Addr)(v:V):List (ay × Addr × V) :=
 if (bq kvs k).isSome then kvs.map (λx=>if x.1=k then (x.1,x.2.1,v) else x) else kvs++[(k,b,v)]
theorem KQ.val{kvs:List (ay × Addr × V)}{xs:List (ay × Addr × Value)}(r:KQ kvs xs)(k:ay):bR (bq kvs k) ((atKey xs k).map (·.2)):=by
 induction r with
 | nil=>exact True.intro
 | @cons p q ps qs h t ih =>
  obtain⟨h1,_,h2⟩:=h
  by_cases e:p.1=k
  ·have e':q.1=k:=h1.symm.trans e
   have b:atKey (q :: qs) k=some q.2:=by simp[atKey,List.find?_cons,e']
   have c:bq (p :: ps) k=some p.2.2:=by simp[bq,List.find?_cons,e]
   rw[b,c]
   exact h2
  ·have e' : ¬ q.1=k:=λz=>e (h1.trans z)
   have b:atKey (q :: qs) k=atKey qs k:=by simp[atKey,List.find?_cons,e']
   have c:bq (p :: ps) k=bq ps k:=by simp[bq,List.find?_cons,e]
   rw[b,c]
   exact ih
theorem KQ.put{kvs:List (ay × Addr × V)}{xs:List (ay × Addr × Value)}(r:KQ kvs xs)(k:ay){b:Addr}{y:V}{u:Value}(ry:ar y u):KQ (ci kvs k b y) (storedH xs k b u):=by
 have e:(bq kvs k).isSome=(atKey xs k).isSome:=by rw[(r.val k).isSome_eq,Option.isSome_map]
 unfold ci storedH
 rw[e]
 split
 ·induction r with
  | nil=>exact .nil
  | @cons p q ps qs h t ih =>
   rw[List.map_cons,List.map_cons]
   have all : ∀ {l m},KQ l m->KQ (l.map λx=>if x.1=k then (x.1,x.2.1,y) else x) (m.map (putAt k u)):=by
    intro l m r
    induction r with
    | nil=>exact .nil
    | @cons p q ps qs h t ih =>
     rw[List.map_cons,List.map_cons]
     refine .cons ?_ ih
     obtain⟨h1,h2,h3⟩:=h
     unfold putAt
     by_cases z:p.1=k
     ·rw[if_pos z,if_pos (h1.symm.trans z)]; exact⟨h1,h2,ry⟩
     ·rw[if_neg z,if_neg (λy=>z (h1.trans y))]; exact⟨h1,h2,h3⟩
   exact all (.cons h t)
 ·exact Paired.snoc r ⟨rfl,rfl,ry⟩
theorem KQ.keys{kvs:List (ay × Addr × V)}{xs:List (ay × Addr × Value)}(r:KQ kvs xs):kvs.map (·.1)=xs.map (·.1):=by
 induction r with
 | nil=>rfl
 | cons h t ih=>rw[List.map_cons,List.map_cons,ih,h.1]
theorem sA : ∀ {kvs:List (ay × Addr × V)} {xs:List (ay × Addr × Value)},KQ kvs xs->∀ {i:Nat} {a:ay × Addr × V} {b:ay × Addr × Value},kvs[i]? = some a->xs[i]? = some b->a.1=b.1/\a.2.1=b.2.1/\ar a.2.2 b.2.2
 | _,_,.nil,_,_,_,h,_=>by simp at h
 | _,_,.cons r t,0,_,_,h,h'=>by simp at h h'; subst h; subst h'; exact r
 | _,_,.cons r t,i+1,_,_,h,h'=>sA t (i:=i) (by simpa using h) (by simpa using h')
theorem qY(kvs:List (ay × Addr × V))(k:ay)(b:Addr)(v:V) : ∀ x∈ci kvs k b v,(∃ y∈kvs,y.1=x.1/\y.2.1=x.2.1)\/x=(k,b,v):=by
 intro x hx
 unfold ci at hx
 split at hx
 ·obtain⟨y,hy,rfl⟩:=List.mem_map.mp hx
  refine .inl ⟨y,hy,?_⟩
  split <;> exact⟨rfl,rfl⟩
 ·rcases List.mem_append.mp hx with z | z
  ·exact .inl ⟨x,z,rfl,rfl⟩
  ·exact .inr (List.mem_singleton.mp z)
theorem lY(kvs:List (ay × Addr × V))(k:ay)(b:Addr)(v:V):(ci kvs k b v).length<=kvs.length+1:=by
 unfold ci
 split <;> simp
theorem jv{P:Program}{w:World}{H:Hp}{h:Heap}{k:ay}{p:Addr}(ok:aM P w H h)(e:cJ H k p):IsTupleKey (intKind P w) h k p:=by
 have all : ∀ {ks:List Int} {us:List Value},aq (ks.map V.int) us->ItemsAre (intKind P w) ks us:=by
  intro ks
  induction ks with
  | nil=>intro us r; cases r; exact .nil
  | cons k ks ih =>
   intro us r
   cases r with
   | cons a b =>
    obtain⟨t,rfl⟩:=a
    exact .cons (by exact beq_self_eq_true k) (ih b)
 obtain⟨_,its2,r2,o2,b1,b2,n2,b3⟩:=(show aH P w H h p (.tup (k.map V.int)) from ok p _ e)
 exact⟨o2,its2.toArray,n2,b1,b2,b3,by simpa using all r2⟩
section
variable {X:Cx}{pins:List (Addr × Obj)}{σ:St}{H:Hp}{s:Shared}{a b:Addr}{kvs:List (ay × Addr × V)}{k:ay}{v:V}{A:Around}{E:Value->Shared->Prop}
theorem gf(I:ad X pins σ H s)(d:DQ H a kvs) : ∃ xs ep,H a=some (eU a xs ep)/\KQ kvs xs/\cA s.heap a (xs.map eX).toArray ep/\s.heap.DictOfH (tupleKind (intKind X.prog X.w)) a xs:=by
 obtain⟨⟨xs,ep,h1,h2⟩,ky,nd,le⟩:=d
 obtain⟨r,_⟩:=I.hok a _ h1
 obtain⟨o,e1,e2,e3⟩:=r.obj
 refine⟨xs,ep,h1,h2,r,o,_,ep,e1,e2,e3,by rw[kX],λx hx=>?_,by rw[<- h2.keys]; exact nd⟩
 have all : ∀ {l m},KQ l m->(∀ x∈l,cJ H x.1 x.2.1)->∀ x∈m,IsTupleKey (intKind X.prog X.w) s.heap x.1 x.2.1:=by
  intro l m r
  induction r with
  | nil=>intro _ x hx; cases hx
  | @cons p q ps qs h t ih =>
   intro al x hx
   rcases List.mem_cons.mp hx with z | z
   ·subst z
    rw[<- h.1,<- h.2.1]
    exact jv I.hok (al p (List.mem_cons_self ..))
   ·exact ih (λy hy=>al y (List.mem_cons_of_mem _ hy)) x z
 exact all h2 ky x hx
theorem Cr{Q:Value->Shared->Prop}(hu:A.units+16 < cLine)(I:ad X pins σ H s)(d:DQ H a kvs)(ky:cJ H k b)(e:bq kvs k=some v)(q : ∀ w' s',ad X pins σ H s'->ar v w'->Q w' s'):wpAny (model X.prog X.w) A (getItem (.ref a) (.ref b)) Q E s:=by
 obtain⟨xs,ep,h1,h2,r,dd⟩:=gf I d
 obtain⟨w',hw,rw'⟩:=bR.some_of (v:=v) (o:=(atKey xs k).map (·.2)) (by rw[<- e]; exact h2.val k)
 obtain⟨p,hp,hp2⟩:=Option.map_eq_some_iff.mp hw
 refine wpAny_getItem_heap (knd:=tupleKind (intKind X.prog X.w)) (by show A.units+1 < cLine; omega) (jv I.hok ky) dd hp ?_
 rw[hp2]
 exact q w' _ (I.tok _) rw'
theorem Cq{u:Value}{Q:Unit->Shared->Prop}(hu:A.units+16 < cLine)(I:ad X pins σ H s)(d:DQ H a kvs)(ky:cJ H k b)(hl:kvs.length < sizeLine)(rv:ar v u)(q : ∀ H' s',ad X pins σ H' s'->DQ H' a (ci kvs k b v)->(∀ c,c≠a->H' c=H c)->Q () s'):wpAny (model X.prog X.w) A (setItem (.ref a) (.ref b) u) Q E s:=by
 obtain⟨xs,ep,h1,h2,r,dd⟩:=gf I d
 have hz:xs.length<=sizeLine:=by rw[<- Paired.length h2]; exact d.le
 refine wpAny_setItem_heap (hsz:=hz) (knd:=tupleKind (intKind X.prog X.w)) (by show A.units+1 < cLine; omega) (jv I.hok ky) dd λh' dd' hs=>?_
 obtain⟨o,es,ep',e1,e2,e3,e4,e5,e6⟩:=dd'
 have nk : ∀ c ys,H c=some (.tup ys)->c≠a:=λc ys z y=>by subst y; rw[h1]at z; cases z
 have es':es=((storedH xs k b u).map eX).toArray:=by
  rw[kX]at e4
  rw[<- e4,Array.toArray_toList]
 have I':ad X pins σ (upd H a (eU a (storedH xs k b u) ep')) { s with heap:=h',toks:=s.toks+(tupleKind (intKind X.prog X.w)).draws k }:=by
  refine jd I (by rw[h1]; exact True.intro) hs ⟨o,e1⟩ ⟨⟨r.big,o,e1,e2,by rw[e3,es']⟩,⟨o,e1⟩,λg1 g2 f kk=>f.to kk⟩
 refine q _ _ I' ⟨⟨_,ep',aN,h2.put k rv⟩,λx hx=>?_,?_,?_⟩ λc hc=>aj hc
 ·have ky':cJ H x.1 x.2.1:=by
   rcases qY kvs k b v x hx with ⟨y,hy,z1,z2⟩ | z
   ·rw[<- z1,<- z2]; exact d.key y hy
   ·rw[z]; exact ky
  show upd H a _ _=_
  rw[aj (nk _ _ ky')]
  exact ky'
 ·rw[(h2.put k rv).keys]; exact e6
 ·have:=lY kvs k b v; omega
end
def Ah:TE:=λ_ H Q=>∀ p H',aI H p (eU p [] 0) H'->Q (.ref p) H'
theorem DQ.new{H H':Hp}{p:Addr}(g:aI H p (eU p [] 0) H'):DQ H' p []:=⟨⟨[],0,g.at_,.nil⟩,λ_ hx=>(nomatch hx),List.nodup_nil,Nat.zero_le _⟩
def v8(td ty:TE):TE:=λσ H Q=>td σ H λx H1=>ty σ H1 λy H2=>∃ a b kvs k v,x=.ref a/\y=.ref b/\DQ H2 a kvs/\cJ H2 k b/\bq kvs k=some v/\Q v H2
def xb(td ty tv:TE):TS:=λD σ H=>tv σ H λv H1=>td σ H1 λx H2=>ty σ H2 λy H3=>∃ a b kvs k,x=.ref a/\y=.ref b/\DQ H3 a kvs/\cJ H3 k b/\kvs.length < sizeLine/\∀ H4,DQ H4 a (ci kvs k b v)->(∀ c,c≠a->H4 c=H3 c)->D.nx σ H4
def iJ(d:Addr)(o:HO)(kvs:List (ay × Addr × V)):It :=
 ⟨λi H=>H d=some o/\i < kvs.length,λi H x H'=>H'=H/\∃ k b v,kvs[i]? = some (k,b,v)/\x=.ref b,λi H=>H d=some o/\kvs.length<=i⟩
def AN(td:TE):TI:=λσ H R=>td σ H λx H1=>∃ d kvs,x=.ref d/\DQ H1 d kvs/\∀ o,H1 d=some o->R (iJ d o kvs) H1
def B5:List V->Hp->VK->Prop:=λus H Q=>∃ a kvs,us=[.ref a]/\DQ H a kvs/\∀ p H',aI H p (.lst (kvs.map λx=>V.ref x.2.1)) H'->Q (.ref p) H'
theorem vJ{P:Program}{w:World}{K:W.Frag}{tg:Expr}(d it:Addr)(xs:List (ay × Addr × Value))(ep:Nat)(kvs:List (ay × Addr × V))(kn:KQ kvs xs):dX P w K tg (iJ d (eU d xs ep) kvs) [it] it (λi h=>h.IsKeyIter it d i (xs.map eX).toArray.size ep) where
 mem:=by simp
 obj:=λi h st b hb=>by
  have e:b=it:=by simpa using hb
  subst e
  obtain⟨o,e,c,d⟩:=st
  exact⟨o,e,λv z=>by rw[d]at z; cases z⟩
 keep:=λi h h' st k=>st.at λo e=>k it (by simp) o e
 item:=by
  intro X hP hw hK hc i pins s σ H E I hf st hg
  subst hP hw hK
  obtain⟨hq,hi⟩:=hg
  obtain⟨r,_⟩:=I.hok d _ hq
  obtain⟨f0,f1,f2,f3,f4,f5⟩:=hf it (by simp)
  have hl:=Paired.length kn
  obtain⟨⟨k,b,v⟩,hkv⟩ : ∃ y,kvs[i]? = some y:=⟨_,List.getElem?_eq_getElem hi⟩
  obtain⟨⟨k',b',u⟩,hxs⟩ : ∃ y,xs[i]? = some y:=⟨_,List.getElem?_eq_getElem (by omega)⟩
  obtain⟨z1,z2,z3⟩:=sA kn hkv hxs
  have z2':b=b':=z2
  subst z2'
  refine iU (e:=eX (k',b,u)) st r (by rw[List.getElem?_toArray,List.getElem?_map,hxs]; rfl) λh' st' sb=>?_
  have I1:ad X pins σ H { s with heap:=h' }:=I.turned (t':=s.toks) (λb o hb e=>(sb.2 b hb).trans e) f0 f1 f3 f4 f5
  obtain⟨o,e,c,dd⟩:=id st'
  exact⟨.ref b,rfl,ja (s:={ s with heap:=h' }) e c dd (by decide) ⟨.ref b,H,I1,rfl,⟨rfl,k,b,v,hkv,rfl⟩,st',λb hb=>(hf b hb).1⟩⟩
 done:=by
  intro X hP hw hK hc i pins s σ H E I hf st hg
  subst hP hw hK
  obtain⟨hq,hi⟩:=hg
  obtain⟨r,_⟩:=I.hok d _ hq
  obtain⟨f0,f1,f2,f3,f4,f5⟩:=hf it (by simp)
  have hl:=Paired.length kn
  exact jL (I.ok.hd hc) st r (by simp; omega) λh' eb=>⟨rfl,I.turned (t':=s.toks) (λb o hb e=>eb b o hb e) f0 f1 f3 f4 f5⟩
 self:=λ_ _ _ _ _ st h=>wpAny_pyIter_keyiter st h
section
variable {X:Cx}{K:W.Frag}{o i e f value tg l:Expr}{td ty tx tv tl:TE}{pos pos' apos cpos:Pos}
theorem qW:QE X (.Dict [] [] pos) Ah:=⟨λpins s σ H Q I h=>by
 refine wpAny_Dict_empty ⟨.ref s.heap.objs.size,_,I.laid (a:=s.heap.objs.size) (o:=eU s.heap.objs.size [] 0) (t':=s.toks) (λ_ _ q=>Heap.get?_push_of_some _ q) (Nat.le_refl _) ?_,rfl,h _ _ (.mk' (I.hok.fresh (Nat.le_refl _)))⟩
 refine⟨⟨beq_eq_false_iff_ne.mpr (Ne.symm (Nat.ne_of_lt I.big)),_,Heap.get?_push_size _ rfl,⟨rfl,rfl,rfl⟩,rfl⟩,⟨_,Heap.get?_push_size _ rfl⟩,λg1 g2 f kk=>f.to kk⟩⟩
theorem iY(hu:X.A.units+64 < cLine)(ho:QE X o td)(hi:QE X i ty)(hs:jo i:=by intro _ _; rfl):QE X (.Subscript o i pos) (v8 td ty):=⟨λpins s σ H Q I h=>by
 refine lh PySem.F.slot_dict_getitem.lookup hs (ai (ho.h pins s σ H _ I h) λu s1 ⟨x,H1,I1,rx,q1⟩=>ai (hi.h pins s1 σ H1 _ I1 q1) λiv s2 ⟨y,H2,I2,ry,a,b,kvs,k,v,ex,ey,d,ky,ev,q2⟩=>?_)
 subst ex ey
 obtain rfl:u=Value.ref a:=rx
 obtain rfl:iv=Value.ref b:=ry
 obtain⟨xs,ep,_,_,r,_⟩:=gf I2 d
 exact⟨r.ty,Cr (by omega) I2 d ky ev λw' s3 I3 rw'=>⟨v,H2,I3,rw',q2⟩⟩⟩
theorem xV(hu:X.A.units+64 < cLine)(ho:QE X o td)(hi:QE X i ty)(hv:QE X value tv)(hs:swapsWith value (some (.Subscript o i pos')) pos.line X.env=pure false:=by rfl):QS X (.Assign [.Subscript o i pos'] value pos) (xb td ty tv):=⟨λpins s σ H D I h=>by
 refine wpAny_Assign_Subscript (ai (hv.h pins s σ H _ I h) λr s1 ⟨v,H1,I1,rv,q1⟩=>ai (ho.h pins s1 σ H1 _ I1 q1) λu s2 ⟨x,H2,I2,rx,q2⟩=>ai (hi.h pins s2 σ H2 _ I2 q2) λiv s3 ⟨y,H3,I3,ry,a,b,kvs,k,ex,ey,d,ky,lt,q3⟩=>?_) hs
 subst ex ey
 obtain rfl:u=Value.ref a:=rx
 obtain rfl:iv=Value.ref b:=ry
 exact Cq (by omega) I3 d ky lt rv λH4 s4 I4 d4 k4=>⟨σ,H4,I4,q3 H4 d4 k4⟩⟩
theorem qP(hl:QE X l tl):QI X tg l (AN tl):=⟨λpins s σ H R I h=>by
 refine ai (hl.h pins s σ H _ I h) λv s1 ⟨x,H1,I1,r1,d,kvs,ex,dn,q⟩=>?_
 subst ex
 obtain rfl:v=Value.ref d:=r1
 obtain⟨xs,ep,h1,h2,r,_⟩:=gf I1 dn
 refine jK r ?_
 refine⟨s1.heap.objs.size,[s1.heap.objs.size],_,iJ d (eU d xs ep) kvs,H1,rfl,I1.kept (t':=s1.toks) λb o e=>Heap.get?_push_of_some _ e,vJ d _ xs ep kvs h2,⟨_,Heap.get?_push_size _ rfl,rfl,rfl⟩,λb hb=>?_,q _ h1⟩
 have e:b=s1.heap.objs.size:=by simpa using hb
 subst e
 exact I1.fpOk (Nat.le_refl _) (I1.hok.fresh (Nat.le_refl _))⟩
theorem tH{d:Addr}{o:HO}{kvs:List (ay × Addr × V)}{g:TG}{tb:TS}{D:cG}{σ:St}{H:Hp}(Pv:Nat->St->Hp->Prop)(h0:Pv 0 σ H)(hl : ∀ i σ H,i<=kvs.length->Pv i σ H->H d=some o)
 (hs : ∀ i k b v σ H,kvs[i]? = some (k,b,v)->Pv i σ H->g (.ref b) σ H λσ2 H2=>tb { D with nx:=Pv (i+1),ct:=Pv (i+1),bk:=D.nx } σ2 H2) (hd : ∀ σ H,Pv kvs.length σ H->D.nx σ H) :
 ∃ W:Nat->Nat->St->Hp->Prop,(∃ m,W 0 m σ H)/\∀ i m σ H,W i m σ H ->
  ((iJ d o kvs).stop i H/\D.nx σ H)\/((iJ d o kvs).go i H/\∃ N:St->Hp->Prop,(∀ σ' H',N σ' H'->∃ m',m' < m/\W (i+1) m' σ' H')/\∀ x H',(iJ d o kvs).yld i H x H'->g x σ H' λσ2 H2=>tb { D with nx:=N,ct:=N,bk:=D.nx } σ2 H2):=by
 refine⟨λi m σ H=>m=kvs.length - i/\i<=kvs.length/\Pv i σ H,⟨kvs.length,by simp,Nat.zero_le _,h0⟩,?_⟩
 rintro i m σ H ⟨rfl,hi,p⟩
 have q:=hl i σ H hi p
 by_cases hlt:i < kvs.length
 ·refine .inr ⟨⟨q,hlt⟩,Pv (i+1),λσ' H' p'=>⟨kvs.length - (i+1),by omega,rfl,hlt,p'⟩,λx H' y=>?_⟩
  obtain⟨rfl,k,b,v,y,rfl⟩:=y
  exact hs i k b v σ H' y p
 ·have e:i=kvs.length:=by omega
  subst e
  exact .inl ⟨⟨q,Nat.le_refl _⟩,hd σ H p⟩
end
section
variable {prog:Program}{w:World}{A:Around}{E:Value->Shared->Prop}{s:Shared}{K:Type}[DecidableEq K]{knd:HeapKind prog w K}
theorem wO{d a:Addr}{xs:List (K × Addr × Value)}{k:K}{v:Value}{Q:Value->Shared->Prop}(hu:knd.room A)(hkey:knd.is s.heap k a)(hm:s.heap.DictOfH knd d xs)
 (h1 : ∀ p,atKey xs k=some p->Q p.2 { s with toks:=s.toks+knd.draws k })
 (h2:atKey xs k=none->∀ h',h'.DictOfH knd d (storedH xs k a v)->Heap.SameBut d s.heap h'->Q v { s with heap:=h',toks:=s.toks+knd.draws k })
 (hsz:xs.length<=sizeLine) :
 wpAny (model prog w) A (dictSetDefault d (.ref a) v) Q E s:=by
 obtain⟨o,es,ep,ho,hc,hd,he,his,hn⟩:=hm
 unfold dictSetDefault
 try with_reducible refine wpAny_holding ?_
 refine wpAny_bind (knd.pyHash hu hkey ?_)
 refine wpAny_bind (wpAny_dictFind_heap (s:={ s with toks:=s.toks+knd.draws k }) hu hkey ho hd he his hn ?_ ?_)
 ·intro hno
  have hnot:k∉xs.map (·.1):=not_mem_keys_of_get hno
  refine wpAny_bind (wpAny_rule (wpAny_bind (wpAny_updateDictKeys (hz:=by have e:=size_of_entries he; omega) (s:={ s with toks:=s.toks+knd.draws k }) ho hd (wpAny_pure (h2 (atKey_none_of_get hno) _ ⟨_,_,ep+1,Heap.get?_update_self _ ho (Obj.isFreed_of_dict (Obj.data_mapDictKeys hd _)),
   hc.mapDictKeys _,Obj.data_mapDictKeys hd _,?_,?_,?_⟩ (Heap.SameBut.update ..))))))
  ·rw[storedH_new (atKey_none_of_get hno)]
   simp[he,entryOfKey]
  ·rw[storedH_new (atKey_none_of_get hno)]
   intro x hx
   rcases List.mem_append.mp hx with hx | hx
   ·exact knd.keeps (his x hx) ho hd (Heap.SameBut.update ..)
   ·simp only [List.mem_singleton]at hx
    subst hx
    exact knd.keeps hkey ho hd (Heap.SameBut.update ..)
  ·rw[storedH_new (atKey_none_of_get hno)]
   rw[List.map_append,List.nodup_append]
   refine⟨hn,by simp,?_⟩
   intro x hx y hy
   simp only [List.map_cons,List.map_nil,List.mem_singleton]at hy
   subst hy
   exact λe=>hnot (e ▸ hx)
 ·intro j p hj
  refine wpAny_bind (wpAny_dictEntries (s:={ s with toks:=s.toks+knd.draws k }) ho hd ?_)
  have e1:es[j]? = some (entryOfKey knd (k,p)):=by
   rw[<- Array.getElem?_toList,he,List.getElem?_map,hj]; rfl
  rw[e1]
  exact wpAny_bind (wpAny_rule (wpAny_pure (h1 p (atKey_of_get hn hj))))
theorem zM{d a:Addr}(hd:(d == sysModules)=false)(dflt:Value) :
 MeetsIn prog w (Builtin.«dict.setdefault» ⟨[.ref d,.ref a,dflt],[]⟩) (λA R s=>knd.room A.in1/\∃ k xs,knd.is s.heap k a/\s.heap.DictOfH knd d xs/\xs.length<=sizeLine /\
  (∀ p,atKey xs k=some p->R (.ok (.ret p.2)) { s with toks:=s.toks+knd.draws k }) /\
  (atKey xs k=none->∀ h',h'.DictOfH knd d (storedH xs k a dflt)->Heap.SameBut d s.heap h'->R (.ok (.ret dflt)) { s with heap:=h',toks:=s.toks+knd.draws k })) :=
 .of_wp λA R s ⟨hu,k,xs,hkey,hm,hz,h1,h2⟩=>by
  unfold Builtin.«dict.setdefault»
  refine wpAny_bind ?_
  unfold Builtin.Dict.keyAndDefault
  refine wpAny_bind (wpAny_notOrdered_dict hm.typeIs ?_)
  show wpAny _ _ (pure (d,Value.ref a,some dflt)) _ _ s
  refine wpAny_pure ?_
  show wpAny _ _ (if (d == sysModules)=true then _ else (dictSetDefault d (.ref a) dflt >>= _)) _ _ s
  rw[if_neg (by rw[hd]; exact Bool.false_ne_true)]
  exact wpAny_bind (wO hu hkey hm (λp hp=>wpAny_pure ⟨_,rfl,h1 p hp⟩) (λhn h' hm' hs'=>wpAny_pure ⟨dflt,rfl,h2 hn h' hm' hs'⟩) hz)
end
def vX(td ty tx:TE):TE:=λσ H Q=>td σ H λx H1=>∃ a kv0,x=.ref a/\DQ H1 a kv0/\ty σ H1 λy H2=>tx σ H2 λz H3=>∃ b kvs k,y=.ref b/\DQ H3 a kvs/\cJ H3 k b/\kvs.length < sizeLine /\
 (∀ v,bq kvs k=some v->Q v H3)/\(bq kvs k=none->∀ H4,DQ H4 a (ci kvs k b z)->(∀ c,c≠a->H4 c=H3 c)->Q z H4)
section
variable {X:Cx}{pins:List (Addr × Obj)}{σ:St}{H:Hp}{s:Shared}{a b:Addr}{kvs:List (ay × Addr × V)}{k:ay}{v:V}{A:Around}{E:Value->Shared->Prop}
theorem Cp{u:Value}{Q:Value->Shared->Prop}(hu:A.units+16 < cLine)(I:ad X pins σ H s)(d:DQ H a kvs)(ky:cJ H k b)(hl:kvs.length < sizeLine)(rv:ar v u)
 (q1 : ∀ v' w' s',bq kvs k=some v'->ad X pins σ H s'->ar v' w'->Q w' s')
 (q:bq kvs k=none->∀ H' s',ad X pins σ H' s'->DQ H' a (ci kvs k b v)->(∀ c,c≠a->H' c=H c)->Q u s'):wpAny (model X.prog X.w) A (call (.builtin "dict.setdefault") [.ref a,.ref b,u]) Q E s:=by
 obtain⟨xs,ep,h1,h2,r,dd⟩:=gf I d
 have hz:xs.length<=sizeLine:=by rw[<- Paired.length h2]; exact d.le
 refine call_meetsIn PySem.F.slot_dict_setdefault dd.typeIs PySem.F.entry_dict_setdefault (PySem.F.args_dict_setdefault_3 _ _ _) (zM (knd:=tupleKind (intKind X.prog X.w)) r.big u) ⟨by show A.units+1 < cLine; omega,k,xs,jv I.hok ky,dd,hz,λp hp=>?_,λhn h' dd' hs=>?_⟩
 ·have e:=h2.val k
  rw[hp]at e
  cases ev:bq kvs k with
  | none=>rw[ev]at e; exact e.elim
  | some v'=>rw[ev]at e; exact q1 v' _ _ ev (I.tok _) e
 ·have en:bq kvs k=none:=by
   have e:=h2.val k
   rw[hn]at e
   cases ev:bq kvs k with
   | none=>rfl
   | some v'=>rw[ev]at e; exact e.elim
  obtain⟨o,es,ep',e1,e2,e3,e4,e5,e6⟩:=dd'
  have nk : ∀ c ys,H c=some (.tup ys)->c≠a:=λc ys z y=>by subst y; rw[h1]at z; cases z
  have es':es=((storedH xs k b u).map eX).toArray:=by
   rw[kX]at e4
   rw[<- e4,Array.toArray_toList]
  have I':ad X pins σ (upd H a (eU a (storedH xs k b u) ep')) { s with heap:=h',toks:=s.toks+(tupleKind (intKind X.prog X.w)).draws k }:=by
   refine jd I (by rw[h1]; exact True.intro) hs ⟨o,e1⟩ ⟨⟨r.big,o,e1,e2,by rw[e3,es']⟩,⟨o,e1⟩,λg1 g2 f kk=>f.to kk⟩
  refine q en _ _ I' ⟨⟨_,ep',aN,h2.put k rv⟩,λx hx=>?_,?_,?_⟩ λc hc=>aj hc
  ·have ky':cJ H x.1 x.2.1:=by
    rcases qY kvs k b v x hx with ⟨y,hy,z1,z2⟩ | z
    ·rw[<- z1,<- z2]; exact d.key y hy
    ·rw[z]; exact ky
   show upd H a _ _=_
   rw[aj (nk _ _ ky')]
   exact ky'
  ·rw[(h2.put k rv).keys]; exact e6
  ·have:=lY kvs k b v; omega
end
section
variable {X:Cx}{o e f:Expr}{td ty tx:TE}{apos cpos:Pos}
theorem xU (hu:X.A.units+64 < cLine) (ho:QE X o td) (he:QE X e ty) (hf:QE X f tx) (hb:attributeBase o "setdefault" X.env (eval o X.env)=eval o X.env:=by rfl)
 (hw:((backTo cpos (starEach [e,f] X.env)).all (λx=>!x.1) && (backToKw cpos (keywordEach [] X.env)).all (λx=>x.1.isSome)
   && decide (([e,f]:List Expr).length+([]:List Keyword).length+(if ([]:List Keyword).isEmpty then 0 else 1) < 30))=true:=by rfl)
 (hl:(apos.endLine == cpos.line)=true:=by rfl) (ht:backTo cpos (starEach [e,f] X.env)=[(false,eval e X.env),(false,eval f X.env)]:=by rfl) :
 QE X (.Call (.Attribute o "setdefault" apos) [e,f] [] cpos) (vX td ty tx):=⟨λpins s σ H Q I h=>by
 refine wpAny_Call_method hb hw hl PySem.F.plainAttrs_dict PySem.F.slot_dict_setdefault PySem.F.type_dict_setdefault (ai (ho.h pins s σ H _ I h) λu s1 ⟨x,H1,I1,rx,a,kv0,ex,d,q1⟩=>?_)
 subst ex
 obtain rfl:u=Value.ref a:=rx
 obtain⟨xs,ep,_,_,r,_⟩:=gf I1 d
 refine⟨r.ty,λb z=>?_,?_⟩
 ·cases z
  obtain⟨ob,e1,e2,_⟩:=r.obj
  exact⟨ob,e1,e2.2.1⟩
 rw[ht]
 refine Calls.callWith_builtin rfl (Calls.evalArgs_plain (Calls.spliced_cons (ai (he.h pins s1 σ H1 _ I1 q1) λiv s2 ⟨y,H2,I2,ry,q2⟩ =>
  Calls.spliced_cons (ai (hf.h pins s2 σ H2 _ I2 q2) λfv s3 ⟨z,H3,I3,rz,b,kvs,k,ey,d3,ky,hl3,q3,q4⟩=>Calls.spliced_nil ?_))))
 subst ey
 obtain rfl:iv=Value.ref b:=ry
 exact Cp (by omega) I3 d3 ky hl3 rz (λv' w' s4 ev I4 rw'=>⟨v',H3,I4,rw',q3 v' ev⟩) λen H4 s4 I4 d4 k4=>⟨z,H4,I4,rz,q4 en H4 d4 k4⟩⟩
end
def cU(a b:Int × Int):Bool:=if a.1=b.1 then decide (a.2 > b.2) else decide (a.1 > b.1)
def gh(h:Heap)(x:Addr)(a:Int × Int):Prop:=∃ o t u n,h.get? x=some o/\o.cls=.type "tuple"/\o.data=.seq #[.int a.1 t,.int a.2 u] n
section
variable {prog:Program}{w:World}{A:Around}{E:Value->Shared->Prop}{s:Shared}
theorem gh.ty {x:Addr} {a:Int × Int} (h:gh s.heap x a):s.TypeIs (.ref x) "tuple":=by
 obtain⟨o,t,u,n,h1,h2,_⟩:=h
 exact⟨o,h1,h2⟩
theorem vM{x y:Addr}{a b:Int × Int}{P:Fin->Shared->Prop}(hu:A.units+4 < cLine)(hx:gh s.heap x a)(hy:gh s.heap y b)(q:P (.done (.ret (.bool (cU a b)))) s) :
 wpAny (model prog w) A (Builtin.«tuple.__gt__» ⟨[.ref x,.ref y],[]⟩) P E s:=by
 have ty:=hy.ty
 obtain⟨o,t,u,n,h1,h2,h3⟩:=hx
 obtain⟨o',t',u',n',g1,g2,g3⟩:=hy
 show wpAny _ _ (isInstance (.ref y) (.type "tuple") >>= _) _ _ _
 refine wpAny_bind (wpAny_isInstance ty isSubtype_tuple_tuple ?_)
 simp only [Bool.not_true,Bool.false_eq_true,if_false]
 refine wpAny_bind (wpAny_tupleItemsOf h1 h3 ?_)
 refine wpAny_bind (wpAny_tupleItemsOf g1 g3 ?_)
 refine wpAny_bind ?_
 show wpAny _ _ (forIn [(Value.int a.1 t,Value.int b.1 t'),(Value.int a.2 u,Value.int b.2 u')] _ _) _ _ _
 rw[List.forIn_cons]
 refine wpAny_bind (wpAny_bind (wpAny_eqBool_int ?_))
 unfold cU at q
 by_cases e1:a.1=b.1
 ·rw[if_pos e1]at q
  rw[beq_iff_eq.mpr e1]
  simp only [Bool.not_true,Bool.false_eq_true,if_false]
  refine wpAny_pure ?_
  dsimp only
  rw[List.forIn_cons]
  refine wpAny_bind (wpAny_bind (wpAny_eqBool_int ?_))
  by_cases e2:a.2=b.2
  ·rw[beq_iff_eq.mpr e2]
   simp only [Bool.not_true,Bool.false_eq_true,if_false]
   refine wpAny_pure ?_
   dsimp only
   rw[List.forIn_nil]
   refine wpAny_pure (wpAny_pure ?_)
   rw[decide_eq_false (by omega)]at q
   exact q
  ·rw[beq_eq_false_iff_ne.mpr e2]
   simp only [Bool.not_false,if_true]
   refine wpAny_bind (wpAny_rule (wpAny_bind (CmpOf.ints_gt (prog:=prog) (w:=w) (P:=λi v=>∃ t,v=.int (if i=0 then a.2 else b.2) t) (λi=>if i=0 then a.2 else b.2) (λi v h=>h) 0 1 _ _ _ _ _ ⟨u,rfl⟩ ⟨u',rfl⟩ ?_)))
   exact wpAny_bind (wpAny_pure (wpAny_pure (wpAny_pure (wpAny_pure q))))
 ·rw[if_neg e1]at q
  rw[beq_eq_false_iff_ne.mpr e1]
  simp only [Bool.not_false,if_true]
  refine wpAny_bind (wpAny_rule (wpAny_bind (CmpOf.ints_gt (prog:=prog) (w:=w) (P:=λi v=>∃ t,v=.int (if i=0 then a.1 else b.1) t) (λi=>if i=0 then a.1 else b.1) (λi v h=>h) 0 1 _ _ _ _ _ ⟨t,rfl⟩ ⟨t',rfl⟩ ?_)))
  exact wpAny_bind (wpAny_pure (wpAny_pure (wpAny_pure (wpAny_pure q))))
theorem vN{x y:Addr}{a b:Int × Int}{Q:Value->Shared->Prop}(hu:A.units+8 < cLine)(hx:gh s.heap x a)(hy:gh s.heap y b)(q:Q (.bool (cU a b)) s) :
 wpAny (model prog w) A (richCompare .Gt (.ref x) (.ref y)) Q E s :=
 wpAny_richCompare_same_room (op:=.Gt) hx.ty hy.ty PySem.F.slot_tuple_gt (wpAny_call_entry PySem.F.slot_tuple_gt hx.ty PySem.F.entry_tuple_gt (vM (by show A.units+1+4 < cLine; omega) hx hy ⟨_,rfl,nofun,q⟩) (PySem.F.args_tuple_gt_2 _ _)) (by omega)
end
section
variable {X:Cx}{pins:List (Addr × Obj)}{σ:St}{H:Hp}{s:Shared}
theorem rA{x:Addr}{a:Int × Int}(I:ad X pins σ H s)(h:H x=some (.tup [.int a.1,.int a.2])):gh s.heap x a:=by
 obtain⟨_,its,r,o,a1,a2,n,a3⟩:=(show aH X.prog X.w H s.heap x (.tup [.int a.1,.int a.2]) from I.hok x _ h)
 cases r with
 | cons c1 r=>cases r with
  | cons c2 r=>cases r with
   | nil =>
    obtain⟨t,rfl⟩:=c1
    obtain⟨u,rfl⟩:=c2
    exact⟨o,t,u,n,a1,a2,a3⟩
structure iH (X:Cx) (pins:List (Addr × Obj)) (σ:St) (H:Hp) (it S l:Addr) (j:Nat) (arr:Array Value) (s:Shared):Prop where
 inv:ad X pins σ H s
 seq : ∃ c,s.heap.get? S=some (seqObj "list" arr c)
 iter:s.heap.IsListIter it l j
theorem iH.write{it S l:Addr}{j:Nat}{arr:Array Value}(arr':Array Value)(m:iH X pins σ H it S l j arr s)(oS:bI X pins H S)(hSI:S≠it){t':Nat} :
 iH X pins σ H it S l j arr' { s with heap:=s.heap.update S (Obj.mapSeq λ_=>arr'),toks:=t' }:=by
 obtain⟨I,⟨c,eS⟩,ki⟩:=m
 have s1:=Heap.SameBut.update s.heap S (Obj.mapSeq λ_=>arr')
 obtain⟨o,e1,e2,e3⟩:=ki
 exact⟨oS.turned I λb u hb e=>(s1.2 b hb).trans e,⟨_,get?_update_seq eS λ_=>arr'⟩,⟨o,(s1.2 it hSI.symm).trans e1,e2,e3⟩⟩
variable {l it S:Addr}{ts:List (Addr × Int × Int)}{R:Result->Shared->Prop}{dv:Value}
theorem jZ(I:ad X pins σ H s)(hl:H l=some (.lst (ts.map λx=>V.ref x.1))):s.heap.IsList l (ts.map λx=>Value.ref x.1).toArray:=by
 obtain⟨_,its,n,r,e⟩:=(show aH X.prog X.w H s.heap l (.lst (ts.map λx=>V.ref x.1)) from I.hok l _ hl)
 have all : ∀ {ys:List (Addr × Int × Int)} {us:List Value},aq (ys.map λx=>V.ref x.1) us->us=ys.map λx=>Value.ref x.1:=by
  intro ys
  induction ys with
  | nil=>intro us r; cases r; rfl
  | cons y ys ih =>
   intro us r
   cases r with
   | cons a b =>
    rw[List.map_cons,ih b]
    rw[show _=Value.ref y.1 from a]
 rw[all r]at e
 exact⟨_,e,rfl,n,rfl⟩
theorem zY(hl:H l=some (.lst (ts.map λx=>V.ref x.1)))(ht : ∀ x∈ts,H x.1=some (.tup [.int x.2.1,.int x.2.2]))(hh:X.A.handled=none)(hu:X.A.units+16 < cLine)(oS:bI X pins H S)(oI:bI X pins H it)(hSI:S≠it)(hli:l≠it)
 (hR : ∀ (i:Nat) (x:Addr × Int × Int) s',ts[i]? = some x->(∀ (j:Nat) (y:Addr × Int × Int),ts[j]? = some y->cU y.2 x.2=false)->ad X pins σ H s'->R (.ok (.ret (.ref x.1))) s') :
 ∀ (r j i:Nat) (s:Shared) (x:Addr × Int × Int),ts.length - (j+1)=r->j+1<=ts.length->iH X pins σ H it S l (j+1) #[.ref x.1,.ref x.1] s->ts[i]? = some x->i<=j ->
  (∀ j' y,j'<=j->ts[j']? = some y->cU y.2 x.2=false)->codeAny (model X.prog X.w) X.A (.builtin "max.loop" ⟨[.ref it,.none,.ref S],[(Str.ofString "default",dv)]⟩) R s:=by
 have hname:(toString "max"++toString ".loop" : String) = "max.loop":=by decide
 have W:=Walks.list (prog:=X.prog) (w:=X.w) (A:=X.A.in1) hh it l hli (ts.map λx=>Value.ref x.1).toArray
 have hsz:(ts.map λx=>Value.ref x.1).toArray.size=ts.length:=by rw[List.size_toArray,List.length_map]
 intro r
 induction r with
 | zero =>
  intro j i s x hr hj m hx hij hbest
  have hin:j+1=ts.length:=by omega
  obtain⟨I,⟨c,eS⟩,ki⟩:=m
  refine codeAny_builtin PySem.F.entry_max_loop ?_
  rw[Around.under_plainId PySem.F.plain_max_loop _]
  show wpAny _ X.A.in1 (seqItems? (.ref S) >>= _) _ _ _
  refine wpAny_bind (wpAny_seqItems eS rfl ?_)
  show wpAny _ X.A.in1 (tryCatch (pyNext (.ref it)) _ >>= _) _ _ _
  refine wpAny_bind (wpAny_tryCatch (W.done _ _ _ ⟨by rw[hsz,<- hin]; exact ki,jZ I hl⟩ λh' tk' hk'=>?_))
  have I1:ad X pins σ H { s with heap:=h',toks:=tk' }:=oI.turned I λb u hb e=>hk' b u (by simpa using hb) e
  have eS1:h'.get? S=some (seqObj "list" #[.ref x.1,.ref x.1] c):=hk' S _ (by simpa using hSI) eS
  show wpAny _ X.A.in1 (updateSeq S (λ_=>#[]) >>= _) _ _ _
  refine wpAny_bind ?_
  refine wpAny_updateSeq eS1 rfl (wpAny_bind (wpAny_letGo (wpAny_pure ?_)))
  have s1:=Heap.SameBut.update h' S (Obj.mapSeq λ_=>(#[]:Array Value))
  refine hR i x _ hx (λj' y hy=>hbest j' y ?_ hy) (oS.turned I1 λb u hb e=>(s1.2 b hb).trans e)
  have:=(List.getElem?_eq_some_iff.mp hy).1
  omega
 | succ r ih =>
  intro j i s x hr hj m hx hij hbest
  have hlt:j+1 < ts.length:=by omega
  obtain⟨I,⟨c,eS⟩,ki⟩:=m
  obtain⟨y,hy⟩ : ∃ y,ts[j+1]? = some y:=⟨_,List.getElem?_eq_getElem hlt⟩
  refine codeAny_builtin PySem.F.entry_max_loop ?_
  rw[Around.under_plainId PySem.F.plain_max_loop _]
  show wpAny _ X.A.in1 (seqItems? (.ref S) >>= _) _ _ _
  refine wpAny_bind (wpAny_seqItems eS rfl ?_)
  show wpAny _ X.A.in1 (tryCatch (pyNext (.ref it)) _ >>= _) _ _ _
  refine wpAny_bind (wpAny_tryCatch (W.item (j+1) _ _ _ (by rw[hsz]; exact hlt) ⟨ki,jZ I hl⟩ λv h' tk' hP hst' hk'=>?_))
  have hv:v=Value.ref y.1:=by
   have z:(ts.map λx=>Value.ref x.1).toArray[j+1]? = some v:=hP
   rw[List.getElem?_toArray,List.getElem?_map,hy]at z
   exact (Option.some.inj z).symm
  subst hv
  have m1:iH X pins σ H it S l (j+1+1) #[.ref x.1,.ref x.1] { s with heap:=h',toks:=tk' }:=⟨oI.turned I λb u hb e=>hk' b u (by simpa using hb) e,⟨c,hk' S _ (by simpa using hSI) eS⟩,hst'.1⟩
  show wpAny _ X.A.in1 (tryCatch (holding [.ref y.1,.ref y.1] (richCompare .Gt (.ref y.1) (.ref x.1) >>= _)) _ >>= _) _ _ _
  refine wpAny_bind (wpAny_tryCatch (wpAny_holding (wpAny_bind (vN (a:=y.2) (b:=x.2) (by show X.A.units+1+8 < cLine; omega) (rA m1.inv (ht y (List.mem_of_getElem? hy))) (rA m1.inv (ht x (List.mem_of_getElem? hx))) ?_))))
  refine wpAny_bind (wpAny_holding (wpAny_truthy_bool ?_))
  refine wpAny_bind (wpAny_letGo (wpAny_pure ?_))
  have irr:cU y.2 y.2=false:=by unfold cU; rw[if_pos rfl]; exact decide_eq_false (by omega)
  cases hb':cU y.2 x.2 with
  | true =>
   simp only [if_true]
   obtain⟨c2,eS2⟩:=m1.seq
   refine wpAny_bind ?_
   refine wpAny_updateSeq eS2 rfl (wpAny_bind (wpAny_letGo ?_))
   rw[hname]
   refine wpAny_pure ⟨plainId_quiet PySem.F.plain_max_loop _,ih (j+1) (j+1) _ y (by omega) hlt (m1.write _ oS hSI) hy (Nat.le_refl _) λj' z hj' hz=>?_⟩
   by_cases e:j'=j+1
   ·subst e
    rw[hy]at hz; cases hz
    exact irr
   ·have h1:=hbest j' z (by omega) hz
    unfold cU at h1 hb' ⊢
    split at h1 <;> split at hb' <;> split <;> simp only [decide_eq_true_eq,decide_eq_false_iff_not]at * <;> omega
  | false =>
   simp only [Bool.false_eq_true,if_false]
   refine wpAny_bind (wpAny_letGo ?_)
   rw[hname]
   refine wpAny_pure ⟨plainId_quiet PySem.F.plain_max_loop _,ih (j+1) i _ x (by omega) hlt m1 hx (by omega) λj' z hj' hz=>?_⟩
   by_cases e:j'=j+1
   ·subst e
    rw[hy]at hz; cases hz
    exact hb'
   ·exact hbest j' z (by omega) hz
theorem zZ (a v:Value):argsOk "max" ⟨[a],[(Str.ofString "default",v)]⟩:=by unfold argsOk; kernel_rfl
theorem Aa{Q:Value->Shared->Prop}{E:Value->Shared->Prop}(I:ad X pins σ H s)(hl:H l=some (.lst (ts.map λx=>V.ref x.1)))(ht : ∀ x∈ts,H x.1=some (.tup [.int x.2.1,.int x.2.2]))(hh:X.A.handled=none)(hu:X.A.units+16 < cLine)
 (h0:ts=[]->∀ s',ad X pins σ H s'->Q dv s')
 (hQ : ∀ (i:Nat) (x:Addr × Int × Int) s',ts[i]? = some x->(∀ (j:Nat) (y:Addr × Int × Int),ts[j]? = some y->cU y.2 x.2=false)->ad X pins σ H s'->Q (.ref x.1) s') :
 wpAny (model X.prog X.w) X.A (call (.builtin "max") [.ref l] [(Str.ofString "default",dv)]) Q E s:=by
 have hname:(toString "max"++toString ".loop" : String) = "max.loop":=by decide
 have hsz:(ts.map λx=>Value.ref x.1).toArray.size=ts.length:=by rw[List.size_toArray,List.length_map]
 have hls:=jZ I hl
 obtain⟨ol,hol,_⟩:=id hls
 have hll:l < s.heap.objs.size:=Heap.lt_size hol
 refine kmk_tree PySem.F.kind_max PySem.F.plain_max PySem.F.entry_max (zZ _ _) ?_
 show wpAny _ X.A.in1 (Builtin.Builtins.bindParams "max" ["key", "default"] 0 ⟨[],[(Str.ofString "default",dv)]⟩ >>= _) _ _ s
 refine wpAny_bind (wpAny_of_eq (show Builtin.Builtins.bindParams "max" ["key", "default"] 0 ⟨[],[(Str.ofString "default",dv)]⟩=pure [none,some dv] from rfl) ?_)
 refine wpAny_bind (wpAny_pure ?_)
 refine wpAny_bind (wpAny_pyIter_list hls ?_)
 refine wpAny_bind (wpAny_newList ?_ (Nat.zero_le _))
 rw[hname]
 generalize hIo:({ cls:=.type "list_iterator",data:=.fields #[.ref l,.int 0 0] }:Obj)=oi
 have hfr:oi.isFreed=false:=by rw[<- hIo]; rfl
 have hS:(s.heap.push oi).objs.size=s.heap.objs.size+1:=size_push' ..
 have oI:bI X pins H s.heap.objs.size:=.fresh I (Nat.le_refl _)
 have oS:bI X pins H (s.heap.push oi).objs.size:=.fresh I (by rw[hS]; exact Nat.le_succ _)
 have hSI:(s.heap.push oi).objs.size≠s.heap.objs.size:=by rw[hS]; exact Nat.ne_of_gt (Nat.lt_succ_self _)
 have hli:l≠s.heap.objs.size:=Nat.ne_of_lt hll
 have kp : ∀ b u,s.heap.get? b=some u->((s.heap.push oi).push (seqObj "list" #[] 0)).get? b=some u:=λb u e=>Heap.get?_push_of_some _ (Heap.get?_push_of_some _ e)
 have gI:((s.heap.push oi).push (seqObj "list" #[] 0)).get? s.heap.objs.size=some oi:=Heap.get?_push_of_some _ (Heap.get?_push_size _ hfr)
 have gS:((s.heap.push oi).push (seqObj "list" #[] 0)).get? (s.heap.push oi).objs.size=some (seqObj "list" #[] 0):=Heap.get?_push_size _ rfl
 have I0:ad X pins σ H { s with heap:=(s.heap.push oi).push (seqObj "list" #[] 0) }:=I.kept (t':=s.toks) kp
 have ki0:((s.heap.push oi).push (seqObj "list" #[] 0)).IsListIter s.heap.objs.size l 0:=⟨oi,gI,by rw[<- hIo],by rw[<- hIo]; rfl⟩
 have W:=Walks.list (prog:=X.prog) (w:=X.w) (A:=X.A.in1) hh s.heap.objs.size l hli (ts.map λx=>Value.ref x.1).toArray
 refine wpAny_pure ⟨plainId_quiet PySem.F.plain_max_loop _,?_⟩
 refine codeAny_builtin PySem.F.entry_max_loop ?_
 rw[Around.under_plainId PySem.F.plain_max_loop _]
 show wpAny _ X.A.in1 (seqItems? (.ref _) >>= _) _ _ _
 refine wpAny_bind (wpAny_seqItems gS rfl ?_)
 show wpAny _ X.A.in1 (tryCatch (pyNext (.ref s.heap.objs.size)) _ >>= _) _ _ _
 have hL0:=jZ (s:={ s with heap:=(s.heap.push oi).push (seqObj "list" #[] 0) }) I0 hl
 by_cases hne:ts=[]
 ·refine wpAny_bind (wpAny_tryCatch (W.done _ _ _ ⟨by rw[hsz,hne]; exact ki0,hL0⟩ λh' tk' hk'=>?_))
  show wpAny _ X.A.in1 (rule _ >>= _) _ _ _
  refine wpAny_bind (wpAny_rule (wpAny_pure ?_))
  exact h0 hne _ (oI.turned (s:={ s with heap:=(s.heap.push oi).push (seqObj "list" #[] 0) }) I0 λb u hb e=>hk' b u (by simpa using hb) e)
 ·have hpos:0 < ts.length:=List.length_pos_iff.mpr hne
  obtain⟨y,hy⟩ : ∃ y,ts[0]? = some y:=⟨_,List.getElem?_eq_getElem hpos⟩
  refine wpAny_bind (wpAny_tryCatch (W.item 0 _ _ _ (by rw[hsz]; exact hpos) ⟨ki0,hL0⟩ λv h' tk' hP hst' hk'=>?_))
  have hv:v=Value.ref y.1:=by
   have z:(ts.map λx=>Value.ref x.1).toArray[0]? = some v:=hP
   rw[List.getElem?_toArray,List.getElem?_map,hy]at z
   exact (Option.some.inj z).symm
  subst hv
  have m1:iH X pins σ H s.heap.objs.size (s.heap.push oi).objs.size l 1 #[] { s with heap:=h',toks:=tk' }:=⟨oI.turned (s:={ s with heap:=(s.heap.push oi).push (seqObj "list" #[] 0) }) I0 λb u hb e=>hk' b u (by simpa using hb) e,⟨0,hk' _ _ (by simpa using hSI) gS⟩,hst'.1⟩
  obtain⟨c2,eS2⟩:=m1.seq
  show wpAny _ X.A.in1 (updateSeq (s.heap.push oi).objs.size (λ_=>#[.ref y.1,.ref y.1]) >>= _) _ _ _
  refine wpAny_bind ?_
  refine wpAny_updateSeq eS2 rfl ?_
  rw[hname]
  refine wpAny_pure ⟨plainId_quiet PySem.F.plain_max_loop _,zY hl ht hh hu oS oI hSI hli hQ _ 0 0 _ y rfl hpos (m1.write _ oS hSI) hy (Nat.le_refl _) λj' z hj' hz=>?_⟩
  have e:j'=0:=by omega
  subst e
  rw[hy]at hz; cases hz
  unfold cU; rw[if_pos rfl]; exact decide_eq_false (by omega)
end
def vW(te td:TE):TE:=λσ H Q=>te σ H λx H1=>td σ H1 λy H2=>∃ l ts,x=.ref l/\H2 l=some (.lst (ts.map λx:Addr × Int × Int=>V.ref x.1))/\(∀ x∈ts,H2 x.1=some (.tup [.int x.2.1,.int x.2.2])) /\
 (ts=[]->Q y H2)/\∀ x∈ts,(∀ z∈ts,cU z.2 x.2=false)->Q (.ref x.1) H2
theorem xS {X:Cx} {e ed:Expr} {te td:TE} {p pos kp:Pos} {k:Nat} (hr:aP k X.A) (he:QE X e te) (hd:QE X ed td) (hm:X.mg "max" = none) (hg:Gl X "max") (hs:starEach [e] X.env=(false,eval e X.env) :: starEach [] X.env:=by rfl) :
 QE X (.Call (.Name "max" p) [e] [⟨some "default",ed,kp⟩] pos) (vW te td):=⟨λpins s σ H Q I h=>by
 have e1:backTo pos (starEach [e] X.env)=[(false,eval e X.env)]:=by
  unfold backTo; rw[hs]; rfl
 have e2:backTo pos (starEach ([]:List Expr) X.env)=[]:=rfl
 refine wpAny_Call_Name_kw (fX I hg hm (show bootBuiltins "max" = some (.builtin "max") by decide +kernel) ?_ (by decide) (by decide))
 refine callWith_kw (e:=e) (rest:=[]) (kws:=[⟨some "default",ed,kp⟩]) ?_ (by rw[e1,e2]) (by rw[e1]; rfl) rfl rfl
 rw[e1]
 refine Calls.spliced_cons (ai (he.h pins s σ H _ I h) λu s1 ⟨x,H1,I1,r1,q1⟩=>Calls.spliced_nil ?_)
 refine kws_cons (ai (hd.h pins s1 σ H1 _ I1 q1) λdv s2 ⟨y,H2,I2,r2,l,ts,ex,hl,ht,h0,hq⟩=>kws_nil ?_)
 subst ex
 obtain rfl:u=Value.ref l:=r1
 show wpAny _ _ (call (.builtin "max") [.ref l] [(Str.ofString "default",dv)]) _ _ _
 have:=hr.un
 exact Aa I2 hl ht hr.hd (by omega) (λhn s' I'=>⟨y,H2,I',r2,h0 hn⟩) λi x s' hx hb I'=>⟨.ref x.1,H2,I',rfl,hq x (List.mem_of_getElem? hx) λz hz=>by
  obtain⟨j,hj⟩:=List.getElem?_of_mem hz
  exact hb j z hj⟩⟩
structure kR (K:W.Frag) (x qual:Str) (st:Stmt) (f:Addr) (fd:FuncData) (c Pt:Addr):Prop where
 ex : ∃ (oc:Value) (od:Option Addr) (kV doc pm:Value) (an:Option Addr) (ct:Value) (osl:Array (Option Value)),
  fd=W.fnOf x qual (aQ st) (aL st) (ao st) .none kV doc pm an (.ref c) ct/\K.lookup f=some ⟨oc,od,.func fd,osl⟩/\W.codeIn K (.ref c) qual=true
 hd:W.codeHdIn K c Pt=true
theorem Cb{K:W.Frag}{x qual:Str}{st:Stmt}{f c Pt:Addr}{oc:Value}{od an:Option Addr}{osl:Array (Option Value)}{kV doc pm ct:Value}(l:K.lookup f=some ⟨oc,od,.func (W.fnOf x qual (aQ st) (aL st) (ao st) .none kV doc pm an (.ref c) ct),osl⟩)
 (h:W.codeIn K (.ref c) qual=true) (k:W.codeHdIn K c Pt=true):kR K x qual st f (W.fnOf x qual (aQ st) (aL st) (ao st) .none kV doc pm an (.ref c) ct) c Pt:=⟨⟨oc,od,kV,doc,pm,an,ct,osl,rfl,l,h⟩,k⟩
theorem kR.okQ{P:Program}{w:World}{K:W.Frag}{mg:Str->Option Value}{base:Heap}{x qual:Str}{st:Stmt}{f c Pt:Addr}{fd:FuncData}{N ps:List Str}{k:Nat}{sp:Sp}(F:kR K x qual st f fd c Pt)(S:aU N ps (ao st))(len : ∀ vs H Q E,sp vs H Q E->vs.length=ps.length)
 (hbody : ∀ (A:Around) (outer:List Env) (s:Shared) (H:Hp) (vs:List V) (Q:VK) (E:XK),aP k (A.deeper (envOfC qual (ao st) s.heap.objs.size f (.ref c)))->sp vs H Q E ->
   ∃ t,dZ (fq bY P w K mg base N qual (ao st) f (.ref c) A outer s H E).nox (aL st) t/\t { nx:=λ_ H'=>Q .non H',rt:=Q } (dQ N vs) H):bw P w K mg base bY (k+1) f fd ps sp:=by
 obtain⟨oc,od,kV,doc,pm,an,ct,osl,rfl,lk,hcd⟩:=F.ex
 refine tI lk hcd S len λA outer s H vs Q E hr hsp=>?_
 obtain⟨t,h,q⟩:=hbody A outer s H vs Q E hr hsp
 exact⟨t,h.h.nox,q⟩
def dR(m x:Nat):Nat:=(x*5+1)%m
def iu(m:Nat):Nat->Nat->Nat
 | 0,x=>x
 | n+1,x=>iu m n (dR m x)
def rL(m:Nat):Nat->Nat->Nat->Nat
 | 0,_,acc=>acc
 | n+1,x,acc=>rL m n (dR m x) (acc ||| (1 <<< x))
def D3(m:Nat):Prop:=rL m m 0 0=2 ^ m - 1/\iu m m 0=0
section
variable {prog:Program}{w:World}{A:Around}{E:Value->Shared->Prop}{s:Shared}
structure SI (prog:Program) (w:World) (h:Heap) (a:Addr) (o:Obj) (es:Array (Int × Value)) (ep:Nat) (t:SetTable):Prop where
 ho:h.get? a=some o
 hex:o.ExactSet
 hd:o.data=.set es ep t
 hel:ElemsOf (intKind prog w) es.toList
 hb:es.size < scanBound
 hf:t.fits es.size=true
end
end L2
namespace L2
open PySem PySem.Spec PyProof.Rows PySem.W
def kP(n:Nat)(lt:Nat->Nat->Bool){α:Type}(Q:α->Prop):KasT α->Prop
 | .ret a=>Q a
 | .ask i j k=>i < n/\j < n/\kP n lt Q (k (lt i j))
theorem iq{n:Nat}{lt:Nat->Nat->Bool}{α β:Type}{Q:β->Prop}{f:α->KasT β} : ∀ (t:KasT α),kP n lt (λa=>kP n lt Q (f a)) t->kP n lt Q (t.bind f)
 | .ret _,h=>h
 | .ask _ _ k,⟨a,b,h⟩=>⟨a,b,iq (k _) h⟩
theorem sK{n:Nat}{lt:Nat->Nat->Bool}{α:Type}{cmp:Nat->Nat->(Bool->Shared->Prop)->Shared->Prop}{s:Shared}{Q:α->Shared->Prop}(hc : ∀ i j (C:Bool->Shared->Prop),i < n->j < n->C (lt i j) s->cmp i j C s) : ∀ (t:KasT α),kP n lt (λa=>Q a s) t->t.kasWp cmp Q s
 | .ret _,h=>h
 | .ask i j k,⟨a,b,h⟩=>hc i j _ a b (sK hc (k (lt i j)) h)
structure d5 (n:Nat) (lt:Nat->Nat->Bool):Prop where
 irr : ∀ a,lt a a=false
 tr : ∀ a b c,a < n->b < n->c < n->lt a b=true->lt b c=true->lt a c=true
 tot : ∀ a b,a < n->b < n->a≠b->lt a b=false->lt b a=true
structure Gp (n:Nat) (p:Array Nat):Prop where
 sz:p.size=n
 lt : ∀ i,i < n->p.getD i 0 < n
 inj : ∀ i j,i < n->j < n->p.getD i 0=p.getD j 0->i=j
def cX(lt:Nat->Nat->Bool)(p:Array Nat)(m:Nat):Prop:=∀ i j,i < j->j < m->lt (p.getD i 0) (p.getD j 0)=true
def vj(lt:Nat->Nat->Bool)(p:Array Nat)(m:Nat):Prop:=∀ i j,i < j->j < m->lt (p.getD j 0) (p.getD i 0)=true
section
variable {n:Nat}{lt:Nat->Nat->Bool}{p:Array Nat}
theorem eL(p:Array Nat)(i:Nat):p.getD i 0=(p[i]?).getD 0:=by
 by_cases h:i < p.size <;> simp[Array.getD,h]
theorem mJ(hz:p.size=n){m:Nat}(hm:m<=n)(k:Nat):(kas_rev p 0 m).getD k 0=if k < m then p.getD (m - 1 - k) 0 else p.getD k 0:=by
 rw[eL,eL,eL]
 unfold kas_rev
 rw[getElem?_mirror_all (by omega)]
 by_cases c:k < m
 ·rw[if_pos ⟨Nat.zero_le _,c⟩,if_pos c]
  congr 2
  omega
 ·rw[if_neg (λz=>c z.2),if_neg c]
theorem mN(hz:p.size=n){k l:Nat}(hk:k < n)(hl:l<=k)(x:Nat):(bubble p k (k - l)).getD x 0=if x=l then p.getD k 0 else if l < x/\x<=k then p.getD (x - 1) 0 else p.getD x 0:=by
 rw[eL,eL,eL,eL,getElem?_bubble (by omega) _ (by omega)]
 have e:k - (k - l)=l:=by omega
 rw[e]
 repeat' split
 all_goals rfl
theorem Gp.rev(g:Gp n p){m:Nat}(hm:m<=n):Gp n (kas_rev p 0 m):=by
 have e:=mJ g.sz hm
 refine⟨(kas_rev_size 0 m).trans g.sz,λi hi=>?_,λi j hi hj z=>?_⟩
 ·rw[e]
  split
  ·exact g.lt _ (by omega)
  ·exact g.lt _ hi
 ·rw[e,e]at z
  by_cases c1:i < m
  ·by_cases c2:j < m
   ·rw[if_pos c1,if_pos c2]at z
    have:=g.inj _ _ (by omega) (by omega) z
    omega
   ·rw[if_pos c1,if_neg c2]at z
    have:=g.inj _ _ (by omega) (by omega) z
    omega
  ·by_cases c2:j < m
   ·rw[if_neg c1,if_pos c2]at z
    have:=g.inj _ _ (by omega) (by omega) z
    omega
   ·rw[if_neg c1,if_neg c2]at z
    exact g.inj _ _ hi hj z
theorem Gp.bub(g:Gp n p){k l:Nat}(hk:k < n)(hl:l<=k):Gp n (bubble p k (k - l)):=by
 have e:=mN g.sz hk hl
 have ix : ∀ x,x < n->∃ y,y < n/\(bubble p k (k - l)).getD x 0=p.getD y 0/\(y=if x=l then k else if l < x/\x<=k then x - 1 else x):=λx hx=>by
  rw[e]
  by_cases c1:x=l
  ·rw[if_pos c1]; exact⟨k,hk,rfl,by rw[if_pos c1]⟩
  ·by_cases c2:l < x/\x<=k
   ·rw[if_neg c1,if_pos c2]; exact⟨x - 1,by omega,rfl,by rw[if_neg c1,if_pos c2]⟩
   ·rw[if_neg c1,if_neg c2]; exact⟨x,hx,rfl,by rw[if_neg c1,if_neg c2]⟩
 refine⟨(bubble_size _ _ _).trans g.sz,λi hi=>?_,λi j hi hj z=>?_⟩
 ·obtain⟨y,hy,ey,_⟩:=ix i hi
  rw[ey]; exact g.lt y hy
 ·obtain⟨y,hy,ey,fy⟩:=ix i hi
  obtain⟨y',hy',ey',fy'⟩:=ix j hj
  rw[ey,ey']at z
  have:=g.inj _ _ hy hy' z
  rw[fy,fy']at this
  repeat' split at this
  all_goals omega
theorem mi(O:d5 n lt)(g:Gp n p){Q:Nat->Prop} : ∀ f m,1<=m->m+f=n->cX lt p m->(∀ m',m<=m'->m'<=n->cX lt p m'->(m'=n\/lt (p.getD m' 0) (p.getD (m' - 1) 0)=true)->Q m')->kP n lt Q (kas_asc p f m)
 | 0,m,h1,hf,hs,hq=>hq m (Nat.le_refl _) (by omega) hs (.inl (by omega))
 | f+1,m,h1,hf,hs,hq=>by
  refine⟨g.lt _ (by omega),g.lt _ (by omega),?_⟩
  cases c:lt (p.getD m 0) (p.getD (m - 1) 0) with
  | true=>exact hq m (Nat.le_refl _) (by omega) hs (.inr c)
  | false =>
   refine mi O g f (m+1) (by omega) (by omega) (λi j hij hj=>?_) λm' a b d e=>hq m' (by omega) b d e
   by_cases jm:j < m
   ·exact hs i j hij jm
   ·have:j=m:=by omega
    subst this
    have last:lt (p.getD (j - 1) 0) (p.getD j 0)=true:=O.tot _ _ (g.lt _ (by omega)) (g.lt _ (by omega)) (λz=>by have:=g.inj _ _ (by omega) (by omega) z; omega) c
    by_cases im:i=j - 1
    ·rw[im]; exact last
    ·exact O.tr _ _ _ (g.lt _ (by omega)) (g.lt _ (by omega)) (g.lt _ (by omega)) (hs i (j - 1) (by omega) (by omega)) last
theorem rJ(O:d5 n lt)(g:Gp n p){Q:Array Nat × Nat × Nat->Prop} : ∀ f m,1<=m->m+f=n->vj lt p m->(∀ m',m<=m'->m'<=n->vj lt p m'->Q (p,m',0))->kP n lt Q (kas_desc f p m 0)
 | 0,m,h1,hf,hs,hq=>hq m (Nat.le_refl _) (by omega) hs
 | f+1,m,h1,hf,hs,hq=>by
  refine⟨g.lt _ (by omega),g.lt _ (by omega),?_⟩
  cases c:lt (p.getD m 0) (p.getD (m - 1) 0) with
  | true =>
   refine rJ O g f (m+1) (by omega) (by omega) (λi j hij hj=>?_) λm' a b d=>hq m' (by omega) b d
   by_cases jm:j < m
   ·exact hs i j hij jm
   ·have:j=m:=by omega
    subst this
    by_cases im:i=j - 1
    ·rw[im]; exact c
    ·exact O.tr _ _ _ (g.lt _ (by omega)) (g.lt _ (by omega)) (g.lt _ (by omega)) c (hs i (j - 1) (by omega) (by omega))
  | false =>
   refine⟨g.lt _ (by omega),g.lt _ (by omega),?_⟩
   rw[O.tot _ _ (g.lt _ (by omega)) (g.lt _ (by omega)) (λz=>by have:=g.inj _ _ (by omega) (by omega) z; omega) c]
   exact hq m (Nat.le_refl _) (by omega) hs
theorem zg(O:d5 n lt)(g:Gp n p)(hn:2<=n){Q:Nat × Array Nat->Prop}(hq : ∀ m p',1<=m->m<=n->Gp n p'->cX lt p' m->Q (m,p')):kP n lt Q (kas_count n p):=by
 unfold kas_count
 refine iq _ (mi O g (n - 1) 1 (Nat.le_refl _) (by omega) (λi j a b=>by omega) λm m1 m2 hs he=>?_)
 by_cases c:(m == n)=true
 ·rw[if_pos c]
  exact hq m p m1 m2 g hs
 ·rw[if_neg c]
  have mn:m≠n:=λz=>c (beq_iff_eq.mpr z)
  have he:=he.resolve_left mn
  by_cases c2:m > 1
  ·rw[if_pos c2]
   refine⟨g.lt _ (by omega),g.lt _ (by omega),?_⟩
   rw[hs 0 (m - 1) (by omega) (by omega)]
   exact hq m p m1 m2 g hs
  ·rw[if_neg c2]
   have:m=1:=by omega
   subst this
   unfold kas_descPart
   refine iq _ (rJ O g (n - (1+1)) (1+1) (by omega) (by omega) (λi j a b=>?_) λm' a b d=>?_)
   ·have i0:i=0:=by omega
    have j1:j=1:=by omega
    subst i0 j1
    exact he
   ·rw[if_neg (show ¬ ((p,m',0):Array Nat × Nat × Nat).2.2 > 0 by show ¬ 0 > 0; omega)]
    unfold kas_tail3
    have g':=g.rev (m:=m') b
    refine iq _ (mi O g' (n - m') m' (by omega) (by omega) (λi j hij hj=>?_) λm'' a' b' d' _=>hq m'' _ (by omega) b' g' d')
    rw[mJ g.sz b,mJ g.sz b,if_pos (show i < m' by omega),if_pos hj]
    exact d _ _ (by omega) (by omega)
theorem mh(O:d5 n lt)(g:Gp n p){k:Nat}(hk:k < n){Q:Nat->Prop}(hq : ∀ l,l<=k->(∀ i,i < l->lt (p.getD i 0) (p.getD k 0)=true)->(∀ i,l<=i->i < k->lt (p.getD k 0) (p.getD i 0)=true)->Q l)(hs:cX lt p k) :
 ∀ f l r,l<=r->r<=k->r - l<=f->(∀ i,i < l->lt (p.getD i 0) (p.getD k 0)=true)->(∀ i,r<=i->i < k->lt (p.getD k 0) (p.getD i 0)=true)->kP n lt Q (kas_place p k f l r)
 | 0,l,r,a,b,c,d,e=>hq l (by omega) d λi x y=>e i (by omega) y
 | f+1,l,r,a,b,c,d,e=>by
  unfold kas_place
  by_cases lr:l>=r
  ·rw[if_pos lr]
   exact hq l (by omega) d λi x y=>e i (by omega) y
  ·rw[if_neg lr]
   have mk:(l+r) / 2 < k:=by omega
   refine⟨g.lt _ hk,g.lt _ (by omega),?_⟩
   cases q:lt (p.getD k 0) (p.getD ((l+r) / 2) 0) with
   | true =>
    refine mh O g hk hq hs f l ((l+r) / 2) (by omega) (by omega) (by omega) d λi x y=>?_
    by_cases z:i=(l+r) / 2
    ·rw[z]; exact q
    ·exact O.tr _ _ _ (g.lt _ hk) (g.lt _ (by omega)) (g.lt _ (by omega)) q (hs _ i (by omega) y)
   | false =>
    have q':lt (p.getD ((l+r) / 2) 0) (p.getD k 0)=true:=O.tot _ _ (g.lt _ hk) (g.lt _ (by omega)) (λz=>by have:=g.inj _ _ hk (by omega) z; omega) q
    refine mh O g hk hq hs f ((l+r) / 2+1) r (by omega) b (by omega) (λi x=>?_) e
    by_cases z:i=(l+r) / 2
    ·rw[z]; exact q'
    ·exact O.tr _ _ _ (g.lt _ (by omega)) (g.lt _ (by omega)) (g.lt _ hk) (hs i _ (by omega) mk) q'
end
theorem rK{n:Nat}{lt:Nat->Nat->Bool}(O:d5 n lt){Q:Array Nat->Prop}(hq : ∀ p,Gp n p->cX lt p n->Q p) : ∀ f k p,Gp n p->k+f=n->cX lt p k->kP n lt Q (kas_bin f p k)
 | 0,k,p,g,hf,hs=>hq p g (by rw[<- hf]; exact hs)
 | f+1,k,p,g,hf,hs=>by
  show kP n lt Q ((kas_place p k k 0 k).bind λl=>kas_bin f (bubble p k (k - l)) (k+1))
  have hk:k < n:=by omega
  refine iq _ (mh O g hk (λl hl b1 b2=>?_) hs k 0 k (Nat.zero_le _) (Nat.le_refl _) (by omega) (λi z=>by omega) λi x y=>by omega)
  refine rK O hq f (k+1) _ (g.bub hk hl) (by omega) λi j hij hj=>?_
  rw[mN g.sz hk hl,mN g.sz hk hl]
  by_cases j1:j=l
  ·rw[if_neg (show i≠l by omega),if_neg (by omega),if_pos j1]
   exact b1 i (by omega)
  ·rw[if_neg j1]
   by_cases i1:i=l
   ·rw[if_pos i1,if_pos (by omega)]
    exact b2 _ (by omega) (by omega)
   ·rw[if_neg i1]
    by_cases i2:l < i/\i<=k
    ·rw[if_pos i2,if_pos (by omega)]
     exact hs _ _ (by omega) (by omega)
    ·rw[if_neg i2]
     by_cases j2:l < j/\j<=k
     ·rw[if_pos j2]
      by_cases z:i=j - 1
      ·omega
      ·exact hs _ _ (by omega) (by omega)
     ·rw[if_neg j2]
      exact hs _ _ hij (by omega)
theorem zf{n:Nat}{lt:Nat->Nat->Bool}(O:d5 n lt)(hn:2<=n){Q:Array Nat->Prop}(hq : ∀ p,Gp n p->cX lt p n->Q p):kP n lt Q (kas_sort n):=by
 have g0:Gp n (List.toArray (List.range n)):=by
  have e : ∀ i,i < n->(List.toArray (List.range n)).getD i 0=i:=λi hi=>by rw[eL]; simp[hi]
  exact⟨by simp,λi hi=>by rw[e i hi]; exact hi,λi j hi hj z=>by rw[e i hi,e j hj]at z; exact z⟩
 unfold kas_sort
 refine iq _ (zg O g0 hn λm p' m1 m2 g hs=>?_)
 by_cases c:m < n
 ·rw[if_pos c]
  have e:max m 1=m:=by omega
  show kP n lt Q (kas_bin (n - max m 1) p' (max m 1))
  rw[e]
  exact rK O hq _ _ _ g (by omega) hs
 ·rw[if_neg c]
  have:m=n:=by omega
  subst this
  exact hq p' g hs
section
variable {prog:Program}{w:World}{A:Around}{E:Value->Shared->Prop}{s:Shared}{a:Addr}{vs:List Value}{κ:SortKind}{lt:Nat->Nat->Bool}
abbrev Kp(h h':Heap)(a:Addr):Prop:=∀ b o,b≠a->h.get? b=some o->h'.get? b=some o
theorem wE {n:Nat} {P:PySem.Fin->Shared->Prop} (O:d5 vs.length lt) (ho:s.heap.get? a=some (seqObj "list" vs.toArray n)) (h2:2<=vs.length) (h64:vs.length < 64)
 (hk : ∀ h' (Q:SortKind->Shared->Prop),Kp s.heap h' a->Q κ { s with heap:=h' }->wpAny (model prog w) A (keyKind' vs.toArray) Q E { s with heap:=h' })
 (hc : ∀ h' i j (C:Bool->Shared->Prop),Kp s.heap h' a->i < vs.length->j < vs.length->C (lt i j) { s with heap:=h' }->wpAny (model prog w) A (keyLt' κ (vs.getD i Value.none) (vs.getD j Value.none)) C (λ_ _=>False) { s with heap:=h' })
 (hq : ∀ h' c p,Kp s.heap h' a->Gp vs.length p->cX lt p vs.length->h'.get? a=some (seqObj "list" (List.toArray (p.toList.map λi=>vs.getD i Value.none)) c)->P (.done (.ret .none)) { s with heap:=h' }) :
 wpAny (model prog w) A (Builtin.«list.sort» ⟨[.ref a],[]⟩) P E s:=by
 have ha:a < s.heap.objs.size:=Heap.lt_size ho
 have u1:=Heap.SameBut.update s.heap a (Obj.mapSeq λ_=>(#[]:Array Value))
 obtain⟨e1,ho1⟩ : ∃ e1,(s.heap.update a (Obj.mapSeq λ_=>(#[]:Array Value))).get? a=some (seqObj "list" #[] e1):=⟨_,get?_update_seq ho λ_=>#[]⟩
 obtain⟨H3,eH3⟩ : ∃ H3,H3=((s.heap.update a (Obj.mapSeq λ_=>(#[]:Array Value))).push (seqObj "tuple" vs.toArray 0)).push (seqObj "list" #[] 0):=⟨_,rfl⟩
 have k3:Kp s.heap H3 a:=λb o hb e=>by
  rw[eH3]
  exact Heap.get?_push_of_some _ (Heap.get?_push_of_some _ ((u1.2 b hb).trans e))
 have ho3:H3.get? a=some (seqObj "list" #[] e1):=by
  rw[eH3]
  exact Heap.get?_push_of_some _ (Heap.get?_push_of_some _ ho1)
 rw[list_sort_plain]
 refine wpAny_bind (listItems_at ho rfl (wpAny_bind (listUpdate_at ho rfl ?_ (by rw[List.size_toArray,sizeLine_eq]; omega) (Nat.zero_le _))))
 refine wpAny_bind (seqEpoch_at ho1 rfl (wpAny_bind (wpAny_newTuple ?_ (by show vs.length<=_; rw[sizeLine_eq]; omega))))
 refine wpAny_bind (wpAny_newList ?_ (Nat.zero_le _))
 refine wpAny_holding ?_
 show wpAny (model prog w) A _ P E { s with heap:=((s.heap.update a (Obj.mapSeq λ_=>(#[]:Array Value))).push (seqObj "tuple" vs.toArray 0)).push (seqObj "list" #[] 0) }
 rw[<- eH3]
 dsimp only
 have nz : ¬ vs.toArray.size < 2:=by rw[List.size_toArray]; omega
 rw[if_neg nz,if_neg nz]
 refine wpAny_bind (hk H3 _ k3 ?_)
 have st0:SortSt.mk' κ (vs.toArray.zip vs.toArray) #[] 7 none=kas_st κ (pairsOf vs) (List.toArray (List.range vs.length)):=by
  have e:=kas_range (pairsOf vs)
  rw[pairsOf_size]at e
  show SortSt.mk' κ (pairsOf vs) #[] 7 none=SortSt.mk' κ ((List.toArray (List.range vs.length)).map (kas_item (pairsOf vs))) #[] 7 none
  rw[e]
 have ask:(kas_sort vs.length).kasWp (kas_cmp prog w A κ (pairsOf vs)) (λp s'=>s' = { s with heap:=H3 }/\Gp vs.length p/\cX lt p vs.length) { s with heap:=H3 }:=by
  refine sK (lt:=lt) (λi j C hi hj q=>?_) _ (zf O h2 λp g r=>⟨rfl,g,r⟩)
  unfold kas_cmp
  rw[kas_item_eq,kas_item_eq]
  exact hc H3 i j C k3 hi hj q
 have go:=kas_runs (E:=E) (Q:=λ_ st' s'=>∃ p:Array Nat,p.size=vs.length/\arrOf st'=p.map (kas_item (pairsOf vs))/\failedOf st'=none/\s' = { s with heap:=H3 }/\Gp vs.length p/\cX lt p vs.length) h2 h64 (λp' st' s' a1 a2 a3 a4=>⟨p',a1,a2,a3,a4⟩) ask
 rw[<- st0]at go
 refine wpAny_bind (wpAny_mono go ?_ λ_ _ e=>e)
 rintro⟨⟨⟩,st'⟩ s' ⟨p,hp,har,hf,rfl,g,r⟩
 dsimp only
 have hout:(arrOf st').map (·.2)=List.toArray (p.toList.map λi=>vs.getD i Value.none):=by
  apply Array.toList_inj.mp
  rw[har,Array.map_map,Array.toList_map]
  exact List.map_congr_left λi _=>by show (kas_item (pairsOf vs) i).2=_; rw[kas_item_eq]
 have hz:(List.toArray (p.toList.map λi=>vs.getD i Value.none)).size=vs.length:=by rw[List.size_toArray,List.length_map,Array.length_toList,hp]
 rw[hout]
 have u2:=Heap.SameBut.update H3 a (Obj.mapSeq λ_=>List.toArray (p.toList.map λi=>vs.getD i Value.none))
 obtain⟨c2,hc2⟩ : ∃ c2,(H3.update a (Obj.mapSeq λ_=>List.toArray (p.toList.map λi=>vs.getD i Value.none))).get? a=some (seqObj "list" (List.toArray (p.toList.map λi=>vs.getD i Value.none)) c2):=⟨_,get?_update_seq ho3 λ_=>List.toArray (p.toList.map λi=>vs.getD i Value.none)⟩
 refine wpAny_bind (seqEpoch_at (s:={ s with heap:=H3 }) ho3 rfl (wpAny_bind (listUpdate_at (s:={ s with heap:=H3 }) ho3 rfl ?_ (Nat.zero_le _) (Nat.le_trans (Nat.le_of_eq hz) (by rw[sizeLine_eq]; omega)))))
 rw[hf]
 simp only [bne_self_eq_false,Bool.false_eq_true,if_false]
 exact wpAny_pure (hq _ c2 p (λb o hb e=>(u2.2 b hb).trans (k3 b o hb e)) g r hc2)
end
end L2
namespace L2
open PySem PySem.Spec PyProof.Rows PySem.W
section
variable {prog:Program}{w:World}{A:Around}{R:Result->Shared->Prop}{I:Addr}{fp wr:List Addr}{G:Array GenState->Array GenState->Prop}{P:Nat->Value->Prop}{St:Nat->Shared->Prop}
def hK(ks:List Int):Int:=reduceHash (Builtin.Tuple.tupleHashOf (ks.map hashInt))
end
end L2
namespace L2
open PySem PySem.Spec PyProof.Rows PySem.W
theorem mv : ∀ l:List Int,HT.lexLt l l=false
 | []=>rfl
 | a :: r=>by rw[HT.lexLt_cons,if_pos rfl]; exact mv r
theorem mq : ∀ a b c:List Int,HT.lexLt a b=true->HT.lexLt b c=true->HT.lexLt a c=true
 | [],[],_,h,_=>by cases h
 | [],_ :: _,[],_,h=>by cases h
 | [],_ :: _,_ :: _,_,_=>rfl
 | _ :: _,[],_,h,_=>by cases h
 | _ :: _,_ :: _,[],_,h=>by cases h
 | x :: a,y :: b,z :: c,h,k=>by
  rw[HT.lexLt_cons]at h k ⊢
  by_cases c1:x=y
  ·rw[if_pos c1]at h
   by_cases c2:y=z
   ·rw[if_pos c2]at k
    rw[if_pos (c1.trans c2)]
    exact mq a b c h k
   ·rw[if_neg c2]at k
    rw[if_neg (by omega)]
    subst c1
    exact k
  ·rw[if_neg c1]at h
   by_cases c2:y=z
   ·subst c2
    rw[if_neg c1]
    exact h
   ·rw[if_neg c2]at k
    have h:=of_decide_eq_true h
    have k:=of_decide_eq_true k
    rw[if_neg (by omega)]
    exact decide_eq_true (by omega)
theorem mr : ∀ a b:List Int,a≠b->HT.lexLt a b=false->HT.lexLt b a=true
 | [],[],h,_=>absurd rfl h
 | [],_ :: _,_,h=>by cases h
 | _ :: _,[],_,_=>rfl
 | x :: a,y :: b,h,k=>by
  rw[HT.lexLt_cons]at k ⊢
  by_cases c:x=y
  ·subst c
   rw[if_pos rfl]at k ⊢
   exact mr a b (λz=>h (by rw[z])) k
  ·rw[if_neg c]at k
   have k:=of_decide_eq_false k
   rw[if_neg (Ne.symm c)]
   exact decide_eq_true (by omega)
abbrev eV:=Addr × List Int
def jY(ps:List eV)(i j:Nat):Bool:=HT.lexLt (ps.getD i (0,[])).2 (ps.getD j (0,[])).2
theorem fZ{α:Type}{l:List α}{i:Nat}{d:α}(h:i < l.length):l.getD i d=l[i]:=by
 rw[List.getD_eq_getElem?_getD,List.getElem?_eq_getElem h]; rfl
theorem zi{ps:List eV}(nd:(ps.map λq=>q.2).Nodup):d5 ps.length (jY ps) where
 irr:=λa=>mv _
 tr:=λa b c _ _ _=>mq _ _ _
 tot:=λa b ha hb ne h=>mr _ _ (λz=>ne (by
  rw[fZ ha,fZ hb]at z
  have e:(ps.map λq=>q.2)[a]'(by rw[List.length_map]; exact ha)=(ps.map λq=>q.2)[b]'(by rw[List.length_map]; exact hb):=by rw[List.getElem_map,List.getElem_map]; exact z
  have nd:=List.pairwise_iff_getElem.mp nd
  rcases Nat.lt_trichotomy a b with c | c | c
  ·exact absurd e (nd a b _ _ c)
  ·exact c
  ·exact absurd e.symm (nd b a _ _ c))) h
theorem rB{α:Type}[DecidableEq α] : ∀ {l m:List α},l.Nodup->(∀ a∈l,a∈m)->m.length<=l.length->List.Perm l m
 | [],m,_,_,h=>by
  obtain rfl:=List.eq_nil_of_length_eq_zero (Nat.le_zero.mp h)
  exact .refl _
 | a :: r,m,nd,sb,h=>by
  obtain⟨na,nr⟩:=List.nodup_cons.mp nd
  have am:=sb a (List.mem_cons_self ..)
  have pe:=List.perm_cons_erase am
  have le:=pe.length_eq
  rw[List.length_cons]at le h
  refine .trans (.cons a (rB (m:=m.erase a) nr (λb hb=>?_) (by omega))) pe.symm
  exact (List.mem_erase_of_ne (λz:b=a=>na (z ▸ hb))).mpr (sb b (List.mem_cons_of_mem _ hb))
theorem tf{n:Nat}{p:Array Nat}(g:Gp n p):List.Perm p.toList (List.range n):=by
 have ge : ∀ i,i < p.size->p.getD i 0=p.toList[i]!:=λi h=>by simp[Array.getD,h]
 refine rB ?_ (λa ha=>?_) (by rw[List.length_range,Array.length_toList,g.sz]; exact Nat.le_refl _)
 ·refine List.pairwise_iff_getElem.mpr λi j hi hj hij z=>?_
  rw[Array.length_toList]at hi hj
  rw[Array.getElem_toList,Array.getElem_toList]at z
  have:=g.inj i j (by rw[<- g.sz]; exact hi) (by rw[<- g.sz]; exact hj) (by simp only [Array.getD,hi,hj,dif_pos]; exact z)
  omega
 ·obtain⟨i,hi,e⟩:=List.getElem_of_mem ha
  rw[Array.length_toList]at hi
  have:=g.lt i (by rw[<- g.sz]; exact hi)
  refine List.mem_range.mpr ?_
  rw[<- e]
  simpa [Array.getD,hi] using this
theorem xi{α:Type}(d:α)(l:List α):(List.range l.length).map (λi=>l.getD i d)=l:=by
 refine List.ext_getElem (by simp) λi h1 h2=>?_
 rw[List.getElem_map,List.getElem_range,fZ h2]
theorem wb{ps:List eV}{p:Array Nat}(g:Gp ps.length p)(s:cX (jY ps) p ps.length):List.Perm (p.toList.map λi=>ps.getD i (0,[])) ps/\(p.toList.map λi=>ps.getD i (0,[])).Pairwise λa b=>HT.lexLt a.2 b.2=true:=by
 refine⟨((tf g).map _).trans (.of_eq (xi _ _)),?_⟩
 rw[List.pairwise_map,List.pairwise_iff_getElem]
 intro i j hi hj hij
 rw[Array.length_toList,g.sz]at hi hj
 have:=s i j hij hj
 unfold jY at this
 simpa [Array.getD,g.sz,hi,hj] using this
theorem qH : ∀ {ps:List eV} {us:List Value},aq (ps.map λq=>V.ref q.1) us->us=ps.map λq=>Value.ref q.1
 | [],us,h=>by cases h; rfl
 | q :: ps,us,h=>by
  cases h with
  | cons a b =>
   rw[List.map_cons,qH b]
   rw[show _=Value.ref q.1 from a]
theorem pJ : ∀ (ps:List eV),aq (ps.map λq=>V.ref q.1) (ps.map λq=>Value.ref q.1)
 | []=>.nil
 | _ :: ps=>.cons rfl (pJ ps)
theorem iw : ∀ {ns:List Int} {us:List Value},aq (ns.map V.int) us->IntsAre us ns
 | [],us,h=>by cases h; exact .nil
 | n :: ns,us,h=>by
  cases h with
  | cons a b =>
   obtain⟨t,rfl⟩:=a
   exact .cons n t (iw b)
theorem mm{ps:List eV}{i:Nat}(h:i < ps.length):(ps.map λq=>Value.ref q.1).getD i Value.none=.ref (ps.getD i (0,[])).1:=by
 rw[fZ (by rw[List.length_map]; exact h),List.getElem_map,fZ h]
theorem zh{ps:List eV}{p:Array Nat}(g:Gp ps.length p):(p.toList.map λi=>(ps.map λq=>Value.ref q.1).getD i Value.none)=(p.toList.map λi=>ps.getD i (0,[])).map λq=>Value.ref q.1:=by
 rw[List.map_map]
 refine List.map_congr_left λi hi=>mm ?_
 exact List.mem_range.mp ((tf g).mem_iff.mp hi)
end L2
namespace L2
open PySem PySem.Spec PyProof.Rows PySem.W
def Ea(xs:Array Nat):Prop:=xs.toList.Pairwise (· < ·)
structure Jt (t:SetTable) (n:Nat) (led:Bool):Prop where
 sz:t.place.size=n
 dm:t.dummies = #[]
 pl:t.plain=true
 ld:t.led=led
 rs:Ea t.place
 wh:D3 (t.mask+1)
 rm:n*5 < t.mask*3
end L2
namespace L2
open PySem PySem.Spec PyProof.Rows PySem.W
section
variable {prog:Program}{w:World}{A:Around}{E:Value->Shared->Prop}{s:Shared}{a:Addr}{vs:List Value}{κ:SortKind}{lt:Nat->Nat->Bool}
theorem wF {n:Nat} {P:PySem.Fin->Shared->Prop} (O:d5 vs.length lt) (ho:s.heap.get? a=some (seqObj "list" vs.toArray n)) (h64:vs.length < 64)
 (hk:2<=vs.length->∀ h' (Q:SortKind->Shared->Prop),Kp s.heap h' a->Q κ { s with heap:=h' }->wpAny (model prog w) A (keyKind' vs.toArray) Q E { s with heap:=h' })
 (hc : ∀ h' i j (C:Bool->Shared->Prop),Kp s.heap h' a->i < vs.length->j < vs.length->C (lt i j) { s with heap:=h' }->wpAny (model prog w) A (keyLt' κ (vs.getD i Value.none) (vs.getD j Value.none)) C (λ_ _=>False) { s with heap:=h' })
 (hq : ∀ h' c p,Kp s.heap h' a->Gp vs.length p->cX lt p vs.length->h'.get? a=some (seqObj "list" (List.toArray (p.toList.map λi=>vs.getD i Value.none)) c)->P (.done (.ret .none)) { s with heap:=h' }) :
 wpAny (model prog w) A (Builtin.«list.sort» ⟨[.ref a],[]⟩) P E s:=by
 by_cases h2:2<=vs.length
 ·exact wE O ho h2 h64 (hk h2) hc hq
 have u1:=Heap.SameBut.update s.heap a (Obj.mapSeq λ_=>(#[]:Array Value))
 obtain⟨e1,ho1⟩ : ∃ e1,(s.heap.update a (Obj.mapSeq λ_=>(#[]:Array Value))).get? a=some (seqObj "list" #[] e1):=⟨_,get?_update_seq ho λ_=>#[]⟩
 obtain⟨H3,eH3⟩ : ∃ H3,H3=((s.heap.update a (Obj.mapSeq λ_=>(#[]:Array Value))).push (seqObj "tuple" vs.toArray 0)).push (seqObj "list" #[] 0):=⟨_,rfl⟩
 have k3:Kp s.heap H3 a:=λb o hb e=>by
  rw[eH3]
  exact Heap.get?_push_of_some _ (Heap.get?_push_of_some _ ((u1.2 b hb).trans e))
 have ho3:H3.get? a=some (seqObj "list" #[] e1):=by
  rw[eH3]
  exact Heap.get?_push_of_some _ (Heap.get?_push_of_some _ ho1)
 rw[list_sort_plain]
 refine wpAny_bind (listItems_at ho rfl (wpAny_bind (listUpdate_at ho rfl ?_ (by rw[List.size_toArray,sizeLine_eq]; omega) (Nat.zero_le _))))
 refine wpAny_bind (seqEpoch_at ho1 rfl (wpAny_bind (wpAny_newTuple ?_ (by show vs.length<=_; rw[sizeLine_eq]; omega))))
 refine wpAny_bind (wpAny_newList ?_ (Nat.zero_le _))
 refine wpAny_holding ?_
 show wpAny (model prog w) A _ P E { s with heap:=((s.heap.update a (Obj.mapSeq λ_=>(#[]:Array Value))).push (seqObj "tuple" vs.toArray 0)).push (seqObj "list" #[] 0) }
 rw[<- eH3]
 dsimp only
 have nz:vs.toArray.size < 2:=by rw[List.size_toArray]; omega
 rw[if_pos nz,if_pos nz]
 refine wpAny_bind (wpAny_pure ?_)
 refine wpAny_bind (m:=(pure ():StateT SortSt Sem Unit).run _) (wpAny_pure ?_)
 dsimp only
 have hout:(arrOf (SortSt.mk' general' (vs.toArray.zip vs.toArray) #[] 7 none)).map (·.2)=vs.toArray:=by
  show (vs.toArray.zip vs.toArray).map (·.2)=vs.toArray
  apply Array.toList_inj.mp
  simp
  exact List.map_snd_zip (Nat.le_refl _)
 rw[hout]
 have u2:=Heap.SameBut.update H3 a (Obj.mapSeq λ_=>vs.toArray)
 obtain⟨c2,hc2⟩ : ∃ c2,(H3.update a (Obj.mapSeq λ_=>vs.toArray)).get? a=some (seqObj "list" vs.toArray c2):=⟨_,get?_update_seq ho3 λ_=>vs.toArray⟩
 refine wpAny_bind (seqEpoch_at (s:={ s with heap:=H3 }) ho3 rfl (wpAny_bind (listUpdate_at (s:={ s with heap:=H3 }) ho3 rfl ?_ (Nat.zero_le _) (by show vs.toArray.size<=_; rw[List.size_toArray,sizeLine_eq]; omega))))
 show wpAny _ _ (if (e1 != e1)=true then _ else _) _ _ _
 simp only [bne_self_eq_false,Bool.false_eq_true,if_false]
 have er:(List.range vs.length).map (λi=>vs.getD i Value.none)=vs:=by
  refine List.ext_getElem (by simp) λi h1 h2=>?_
  rw[List.getElem_map,List.getElem_range,List.getD_eq_getElem?_getD,List.getElem?_eq_getElem h2]
  rfl
 refine wpAny_pure (hq _ c2 (List.toArray (List.range vs.length)) (λb o hb e=>(u2.2 b hb).trans (k3 b o hb e)) ?_ (λi j hij hj=>by omega) (by rw[List.toList_toArray,er]; exact hc2))
 have e : ∀ i,i < vs.length->(List.toArray (List.range vs.length)).getD i 0=i:=λi hi=>by rw[eL]; simp[hi]
 exact⟨by simp,λi hi=>by rw[e i hi]; exact hi,λi j hi hj z=>by rw[e i hi,e j hj]at z; exact z⟩
theorem wD{x:Value}{Q:Value->Shared->Prop}(O:d5 vs.length lt)(h64:vs.length < 64)
 (hx : ∀ (R:List Value->Shared->Prop),(∀ h' tk,s.heap.objs.size<=h'.objs.size->(∀ b o,s.heap.get? b=some o->h'.get? b=some o)->R vs { s with heap:=h',toks:=tk })->wpAny (model prog w) A.in1 (collect x) R E s)
 (hk:2<=vs.length->∀ h' tk (R:SortKind->Shared->Prop),(∀ b o,s.heap.get? b=some o->h'.get? b=some o)->R κ { s with heap:=h',toks:=tk }->wpAny (model prog w) A.in1.in1 (keyKind' vs.toArray) R E { s with heap:=h',toks:=tk })
 (hc : ∀ h' tk i j (C:Bool->Shared->Prop),(∀ b o,s.heap.get? b=some o->h'.get? b=some o)->i < vs.length->j < vs.length->C (lt i j) { s with heap:=h',toks:=tk }->wpAny (model prog w) A.in1.in1 (keyLt' κ (vs.getD i Value.none) (vs.getD j Value.none)) C (λ_ _=>False) { s with heap:=h',toks:=tk })
 (hq : ∀ h' tk c p d,s.heap.objs.size<=d->(∀ b o,s.heap.get? b=some o->h'.get? b=some o)->Gp vs.length p->cX lt p vs.length->h'.get? d=some (seqObj "list" (List.toArray (p.toList.map λi=>vs.getD i Value.none)) c)->Q (.ref d) { s with heap:=h',toks:=tk }) :
 wpAny (model prog w) A (call (.builtin "sorted") [x]) Q E s:=by
 refine Calls.call_function_entry kind_sorted plain_sorted entry_sorted (args_sorted1 _) ?_
 unfold Builtin.«sorted»
 refine wpAny_bind (m:=checkCount "sorted" 1 1 _) (wpAny_pure ?_)
 refine wpAny_bind (hx _ λh1 tk z1 kp1=>?_)
 refine wpAny_bind (wpAny_newList ?_ (Nat.le_trans (Nat.le_of_lt h64) (by rw[sizeLine_eq]; omega)))
 have hL:(h1.push (seqObj "list" vs.toArray 0)).get? h1.objs.size=some (seqObj "list" vs.toArray 0):=Heap.get?_push_size _ rfl
 have kp2 : ∀ b o,s.heap.get? b=some o->(h1.push (seqObj "list" vs.toArray 0)).get? b=some o:=λb o e=>Heap.get?_push_of_some _ (kp1 b o e)
 have nb : ∀ b o,s.heap.get? b=some o->b≠h1.objs.size:=λb o e=>Nat.ne_of_lt (Nat.lt_of_lt_of_le (Heap.lt_size e) z1)
 show wpAny _ _ _ _ _ { s with heap:=h1.push (seqObj "list" vs.toArray 0),toks:=tk }
 refine wpAny_bind (wpAny_holding (wpAny_call_entry slot_list_sort ⟨_,hL,rfl⟩ entry_list_sort (wF (s:={ s with heap:=h1.push (seqObj "list" vs.toArray 0),toks:=tk }) O hL h64 (λl2 h' R kp q=>hk l2 h' tk R (λb o e=>kp b o (nb b o e) (kp2 b o e)) q) (λh' i j C kp hi hj q=>hc h' tk i j C (λb o e=>kp b o (nb b o e) (kp2 b o e)) hi hj q) λh' c p kp g r e=>⟨_,rfl,?_⟩) (args_list_sort _)))
 exact wpAny_pure ⟨_,rfl,hq h' tk c p _ z1 (λb o z=>kp b o (nb b o z) (kp2 b o z)) g r e⟩
end
end L2
namespace HT
open PySem PyProof.Rows
section
open PySem.SeqAt
open PySem.AutoSeq1 (wpAny_loadPart')
open PySem.MeetsSeq PySem.MeetsSeq2 PySem.MeetsSeq3
theorem xl(A:Around)(s:Shared)(a:Int)(t:Tok)(c:Int)(u:Tok)(prog:Program)(w:World)(E:Value->Shared->Prop)(Q:Value->Shared->Prop)(h:Q (.bool (decide (c < a))) s) :
 wpAny (model prog w) A (richCompare .Gt (.int a t) (.int c u)) Q E s :=
 CmpOf.ints_gt (prog:=prog) (w:=w) (P:=λi v=>∃ t,v=.int (if i=0 then a else c) t) (λi=>if i=0 then a else c) (λi v h=>h) 0 1 _ _ _ _ _ ⟨t,rfl⟩ ⟨u,rfl⟩ h
theorem vL(l b:Addr)(items items2:Array Value)(n n2:Nat)(dd dd2:Option Addr)(sl sl2:Array (Option Value))(ns ms:List Int)(hi:IntsAre items.toList ns)(hj:IntsAre items2.toList ms) :
 Meets (Builtin.«tuple.__gt__» ⟨[.ref l,.ref b],[]⟩)
  (λ_ R s=>s.heap.get? l=some { cls:=.type "tuple",dict:=dd,data:=.seq items n,slots:=sl }/\s.heap.get? b=some { cls:=.type "tuple",dict:=dd2,data:=.seq items2 n2,slots:=sl2 } /\
    R (.ok (.ret (.bool (lexLt ms ns)))) s) :=
 .of_wp λprog w A R s h=>by
  obtain⟨hp,g,d,tk,os⟩:=s; obtain⟨hl,hb,h⟩:=h
  have f2:=AutoSeq1.sub_tuple_tuple
  have z1:items.size=ns.length:=by rw[<- hi.length]; simp
  have z2:items2.size=ms.length:=by rw[<- hj.length]; simp
  wp_walk using wpAny_loadPart' hl,wpAny_loadPart' hb,wpAny_forIn_list _ (λrest b s'=>b.1=none/\s'=⟨hp,g,d,tk,os⟩/\∃ (vs ws:List Value) (ns' ms':List Int),rest=vs.zip ws /\
   IntsAre vs ns'/\IntsAre ws ms'/\ns'.length+items2.size=ms'.length+items.size/\R (.ok (.ret (.bool (lexLt ms' ns')))) ⟨hp,g,d,tk,os⟩) _
  case turn =>
   rintro⟨y,x⟩ rest b s' ⟨hb',rfl,vs,ws,ns',ms',hz,hvi,hwi,hlen,hR⟩
   cases hvi with
   | nil=>rw[List.zip_nil_left]at hz; cases hz
   | cons a t hvi' =>
    cases hwi with
    | nil=>rw[List.zip_nil_right]at hz; cases hz
    | cons c u hwi' =>
     rw[List.zip_cons_cons]at hz
     injection hz with hyx hrest
     injection hyx with hy hx
     subst hy hx
     rw[lexLt_cons]at hR
     simp only [List.length_cons]at hlen
     obtain⟨e,he,hiff⟩:=tL A.in1 ⟨hp,g,d,tk,os⟩ a t c u
     refine wpAny_bind (he prog w _ _ ?_)
     cases e with
     | true =>
      rw[if_pos (hiff.mp rfl).symm]at hR
      wp_walk
      exact⟨rfl,rfl,_,_,_,_,hrest,hvi',hwi',by omega,hR⟩
     | false =>
      rw[if_neg (λq=>absurd (hiff.mpr q.symm) Bool.false_ne_true)]at hR
      have hri:=xl A.in1 ⟨hp,g,d,tk,os⟩ a t c u prog w
      wp_walk using hri
      exact⟨_,rfl,by simpa using hR⟩
  case fin =>
   rintro⟨b1,b2⟩ s' ⟨hb',rfl,vs,ws,ns',ms',hz,hvi,hwi,hlen,hR⟩
   simp only at hb'
   subst hb'
   have hv:lexLt ms' ns'=decide (items2.size < items.size):=by
    cases hvi with
    | nil =>
     cases hwi with
     | nil =>
      simp only [List.length_nil]at hlen
      rw[ss]
      exact (decide_eq_false (by omega)).symm
     | cons c u hw =>
      simp only [List.length_nil,List.length_cons]at hlen
      rw[sv]
      exact (decide_eq_false (by omega)).symm
    | cons a t hv =>
     cases hwi with
     | nil =>
      simp only [List.length_nil,List.length_cons]at hlen
      rw[su]
      exact (decide_eq_true (by omega)).symm
     | cons c u hw =>
      rw[List.zip_cons_cons]at hz
      cases hz
   rw[hv]at hR
   wp_walk
   exact⟨_,rfl,by simpa [Builtin.Tuple.tupleCompareSizes] using hR⟩
  case h =>
   exact⟨rfl,rfl,items.toList,items2.toList,ns,ms,rfl,hi,hj,by omega,h⟩
end
section
variable {prog:Program}{w:World}{A:Around}{E:Value->Shared->Prop}{s:Shared}
theorem gt_tupInts{l b:Addr}{items items2:Array Value}{ns ms:List Int}{Q:Value->Shared->Prop}(hl:IsTup s.heap l items)(hb:IsTup s.heap b items2)(hi:IntsAre items.toList ns)(hj:IntsAre items2.toList ms)
 (hu:A.units < cLine) (h:Q (.bool (lexLt ms ns)) s):wpAny (model prog w) A (richCompare .Gt (.ref l) (.ref b)) Q E s:=by
 obtain⟨⟨cls,dd,data,sl⟩,ho,hc,n,hd⟩:=id hl
 obtain⟨⟨cls2,dd2,data2,sl2⟩,ho2,hc2,n2,hd2⟩:=id hb
 simp only at hc hd hc2 hd2
 subst hc hd hc2 hd2
 exact richCompare_meets_room (op:=.Gt) ⟨_,ho,rfl⟩ ⟨_,ho2,rfl⟩ PySem.F.slot_tuple_gt PySem.F.entry_tuple_gt (PySem.F.args_tuple_gt_2 _ _) (vL l b items items2 n n2 dd dd2 sl sl2 ns ms hi hj)
  ⟨ho,ho2,show Value.bool (lexLt ms ns)≠Value.notImplemented/\Q (.bool (lexLt ms ns)) s from ⟨(λx=>nomatch x),h⟩⟩ hu
end
end HT
namespace L2
open PySem PySem.Spec PyProof.Rows
section
variable {X:Cx}{pins:List (Addr × Obj)}{σ:St}{H:Hp}{s:Shared}
theorem zW (a b:Value):argsOk "max" ⟨[a,b],[]⟩:=by unfold argsOk; kernel_rfl
theorem zX{x y:Addr}{ns ms:List Int}{Q E:Value->Shared->Prop}(I:ad X pins σ H s)(hx:H x=some (.tup (ns.map V.int)))(hy:H y=some (.tup (ms.map V.int)))(hh:X.A.handled=none)(hu:X.A.units+16 < cLine)
 (hQ : ∀ s',ad X pins σ H s'->Q (.ref (if HT.lexLt ns ms then y else x)) s'):wpAny (model X.prog X.w) X.A (call (.builtin "max") [.ref x,.ref y]) Q E s:=by
 have hname:(toString "max"++toString ".loop" : String) = "max.loop":=by decide
 refine kmk_tree PySem.F.kind_max PySem.F.plain_max PySem.F.entry_max (zW _ _) ?_
 show wpAny _ X.A.in1 (Builtin.Builtins.bindParams "max" ["key", "default"] 0 ⟨[],[]⟩ >>= _) _ _ s
 refine wpAny_bind (wpAny_of_eq (show Builtin.Builtins.bindParams "max" ["key", "default"] 0 ⟨[],[]⟩=pure [none,none] from rfl) ?_)
 show wpAny _ X.A.in1 (newTuple [.ref x,.ref y] >>= _) _ _ s
 refine wpAny_bind (wpAny_newTuple ?_)
 generalize hTo:({ cls:=.type "tuple",data:=.seq [Value.ref x,.ref y].toArray }:Obj)=ot
 have htf:ot.isFreed=false:=by rw[<- hTo]; rfl
 have gT0:(s.heap.push ot).get? s.heap.objs.size=some ot:=Heap.get?_push_size _ htf
 have isT : ∀ h:Heap,h.get? s.heap.objs.size=some ot->h.IsTuple s.heap.objs.size #[.ref x,.ref y]:=λh e=>⟨ot,e,by rw[<- hTo],0,by rw[<- hTo]⟩
 refine wpAny_bind (wpAny_pyIter_tuple (isT _ gT0) ?_)
 refine wpAny_bind (wpAny_newList ?_ (Nat.zero_le _))
 rw[hname]
 generalize hIo:({ cls:=.type "tuple_iterator",data:=.fields #[.ref s.heap.objs.size,.int 0 0] }:Obj)=oi
 have hif:oi.isFreed=false:=by rw[<- hIo]; rfl
 obtain⟨h1,e1⟩ : ∃ h1,h1=s.heap.push ot:=⟨_,rfl⟩
 obtain⟨h2,e2⟩ : ∃ h2,h2=h1.push oi:=⟨_,rfl⟩
 obtain⟨h3,e3⟩ : ∃ h3,h3=h2.push (seqObj "list" #[] 0):=⟨_,rfl⟩
 show wpAny _ _ _ _ _ { s with heap:=((s.heap.push ot).push oi).push (seqObj "list" #[] 0) }
 have z1:h1.objs.size=s.heap.objs.size+1:=by rw[e1]; exact size_push' ..
 have z2:h2.objs.size=s.heap.objs.size+2:=by rw[e2,size_push',z1]
 rw[<- e1,<- e2,<- e3]
 have oT:bI X pins H s.heap.objs.size:=.fresh I (Nat.le_refl _)
 have oI:bI X pins H h1.objs.size:=.fresh I (by rw[z1]; exact Nat.le_succ _)
 have oS:bI X pins H h2.objs.size:=.fresh I (by rw[z2]; exact Nat.le_add_right _ _)
 have nTI:s.heap.objs.size≠h1.objs.size:=by rw[z1]; exact Nat.ne_of_lt (Nat.lt_succ_self _)
 have nSI:h2.objs.size≠h1.objs.size:=by rw[z1,z2]; exact Nat.ne_of_gt (Nat.lt_succ_self _)
 have nTS:s.heap.objs.size≠h2.objs.size:=by rw[z2]; exact Nat.ne_of_lt (Nat.lt_add_of_pos_right (by decide))
 have kp : ∀ b u,s.heap.get? b=some u->h3.get? b=some u:=λb u e=>by rw[e3,e2,e1]; exact Heap.get?_push_of_some _ (Heap.get?_push_of_some _ (Heap.get?_push_of_some _ e))
 have gT:h3.get? s.heap.objs.size=some ot:=by rw[e3,e2]; exact Heap.get?_push_of_some _ (Heap.get?_push_of_some _ (by rw[e1]; exact gT0))
 have gI:h3.get? h1.objs.size=some oi:=by rw[e3,e2]; exact Heap.get?_push_of_some _ (Heap.get?_push_size _ hif)
 have gS:h3.get? h2.objs.size=some (seqObj "list" #[] 0):=by rw[e3]; exact Heap.get?_push_size _ rfl
 have I0:ad X pins σ H { s with heap:=h3 }:=I.kept (t':=s.toks) kp
 have k0:h3.IsTupleIter h1.objs.size s.heap.objs.size 0:=⟨oi,gI,by rw[<- hIo],by rw[<- hIo]; rfl⟩
 have W:=Walks.tuple (prog:=X.prog) (w:=X.w) (A:=X.A.in1) hh h1.objs.size s.heap.objs.size nTI #[.ref x,.ref y]
 clear e1 e2 e3 hTo hIo
 refine wpAny_pure ⟨plainId_quiet PySem.F.plain_max_loop _,?_⟩
 refine codeAny_builtin PySem.F.entry_max_loop ?_
 rw[Around.under_plainId PySem.F.plain_max_loop _]
 show wpAny _ X.A.in1 (seqItems? (.ref h2.objs.size) >>= _) _ _ _
 refine wpAny_bind (wpAny_seqItems gS rfl ?_)
 show wpAny _ X.A.in1 (tryCatch (pyNext (.ref h1.objs.size)) _ >>= _) _ _ _
 refine wpAny_bind (wpAny_tryCatch (W.item 0 _ _ _ (show 0 < 2 by decide) ⟨k0,isT _ gT⟩ λv h4 t4 hP st4 k4=>?_))
 have hv:v=Value.ref x:=(Option.some.inj hP).symm
 subst hv
 have I4:ad X pins σ H { s with heap:=h4,toks:=t4 }:=oI.turned (s:={ s with heap:=h3 }) I0 λb u hb e=>k4 b u (by simpa using hb) e
 have gS4:h4.get? h2.objs.size=some (seqObj "list" #[] 0):=k4 _ _ (by simpa using nSI) gS
 have gT4:h4.get? s.heap.objs.size=some ot:=k4 _ _ (by simpa using nTI) gT
 show wpAny _ X.A.in1 (updateSeq h2.objs.size (λ_=>#[.ref x,.ref x]) >>= _) _ _ _
 refine wpAny_bind ?_
 refine wpAny_updateSeq gS4 rfl ?_
 obtain⟨h5,e5⟩ : ∃ h5,h5=h4.update h2.objs.size (Obj.mapSeq λ_=>#[.ref x,.ref x]):=⟨_,rfl⟩
 have s5:=Heap.SameBut.update h4 h2.objs.size (Obj.mapSeq λ_=>(#[.ref x,.ref x]:Array Value))
 have gS5 : ∃ c,h5.get? h2.objs.size=some (seqObj "list" #[.ref x,.ref x] c):=⟨_,by rw[e5]; exact get?_update_seq gS4 λ_=>#[.ref x,.ref x]⟩
 have k5 : ∀ b u,b≠h2.objs.size->h4.get? b=some u->h5.get? b=some u:=λb u hb e=>by rw[e5]; exact (s5.2 b hb).trans e
 rw[hname]
 show wpAny _ _ _ _ _ { s with heap:=h4.update h2.objs.size (Obj.mapSeq λ_=>#[.ref x,.ref x]),toks:=t4 }
 rw[<- e5]
 clear e5 s5
 have I5:ad X pins σ H { s with heap:=h5,toks:=t4 }:=oS.turned (s:={ s with heap:=h4,toks:=t4 }) I4 λb u hb e=>k5 b u hb e
 have gT5:=k5 _ _ nTS gT4
 have iu:h5.IsTupleIter h1.objs.size s.heap.objs.size 1:=by obtain⟨o,q1,q2,q3⟩:=st4.1; exact⟨o,k5 _ _ nSI.symm q1,q2,q3⟩
 obtain⟨c5,gS5⟩:=gS5
 refine wpAny_pure ⟨plainId_quiet PySem.F.plain_max_loop _,?_⟩
 refine codeAny_builtin PySem.F.entry_max_loop ?_
 rw[Around.under_plainId PySem.F.plain_max_loop _]
 show wpAny _ X.A.in1 (seqItems? (.ref h2.objs.size) >>= _) _ _ _
 refine wpAny_bind (wpAny_seqItems gS5 rfl ?_)
 show wpAny _ X.A.in1 (tryCatch (pyNext (.ref h1.objs.size)) _ >>= _) _ _ _
 refine wpAny_bind (wpAny_tryCatch (W.item 1 _ _ _ (show 1 < 2 by decide) ⟨iu,isT _ gT5⟩ λv h6 t6 hP st6 k6=>?_))
 have hv:v=Value.ref y:=(Option.some.inj hP).symm
 subst hv
 have I6:ad X pins σ H { s with heap:=h6,toks:=t6 }:=oI.turned (s:={ s with heap:=h5,toks:=t4 }) I5 λb u hb e=>k6 b u (by simpa using hb) e
 have gS6:=k6 _ _ (by simpa using nSI) gS5
 have gT6:=k6 _ _ (by simpa using nTI) gT5
 obtain⟨ix,rx,tx,_⟩:=I6.tuple (.of hx)
 obtain⟨iy,ry,ty,_⟩:=I6.tuple (.of hy)
 show wpAny _ X.A.in1 (tryCatch (holding [.ref y,.ref y] (richCompare .Gt (.ref y) (.ref x) >>= _)) _ >>= _) _ _ _
 refine wpAny_bind (wpAny_tryCatch (wpAny_holding (wpAny_bind (HT.gt_tupInts (s:={ s with heap:=h6,toks:=t6 }) ty tx (by simpa using iw ry) (by simpa using iw rx) (by show X.A.units+1 < cLine; omega) ?_))))
 refine wpAny_bind (wpAny_holding (wpAny_truthy_bool ?_))
 refine wpAny_bind (wpAny_letGo (wpAny_pure ?_))
 have fin : ∀ (z:Addr) (h7:Heap) (t7:Nat) (c:Nat),h7.get? h2.objs.size=some (seqObj "list" #[.ref z,.ref z] c)->h7.get? s.heap.objs.size=some ot->h7.IsTupleIter h1.objs.size s.heap.objs.size 2->ad X pins σ H { s with heap:=h7,toks:=t7 }->(∀ s',ad X pins σ H s'->Q (.ref z) s') ->
  codeAny (model X.prog X.w) X.A (.builtin "max.loop" ⟨[.ref h1.objs.size,.none,.ref h2.objs.size],[]⟩) (λr s'=>match r with | .ok (.ret v)=>Q v s' | .ok _=>False | .error e=>E e s') { s with heap:=h7,toks:=t7 }:=by
  intro z h7 t7 c gS7 gT7 it7 I7 hz
  refine codeAny_builtin PySem.F.entry_max_loop ?_
  rw[Around.under_plainId PySem.F.plain_max_loop _]
  show wpAny _ X.A.in1 (seqItems? (.ref h2.objs.size) >>= _) _ _ _
  refine wpAny_bind (wpAny_seqItems gS7 rfl ?_)
  show wpAny _ X.A.in1 (tryCatch (pyNext (.ref h1.objs.size)) _ >>= _) _ _ _
  refine wpAny_bind (wpAny_tryCatch (W.done _ _ _ ⟨it7,isT _ gT7⟩ λh8 t8 k8=>?_))
  have I8:ad X pins σ H { s with heap:=h8,toks:=t8 }:=oI.turned (s:={ s with heap:=h7,toks:=t7 }) I7 λb u hb e=>k8 b u (by simpa using hb) e
  have gS8:=k8 _ _ (by simpa using nSI) gS7
  show wpAny _ X.A.in1 (updateSeq h2.objs.size (λ_=>#[]) >>= _) _ _ _
  refine wpAny_bind ?_
  refine wpAny_updateSeq gS8 rfl (wpAny_bind (wpAny_letGo (wpAny_pure ?_)))
  have s9:=Heap.SameBut.update h8 h2.objs.size (Obj.mapSeq λ_=>(#[]:Array Value))
  exact hz _ (oS.turned (s:={ s with heap:=h8,toks:=t8 }) I8 λb u hb e=>(s9.2 b hb).trans e)
 cases hb:HT.lexLt ns ms with
 | true =>
  rw[hb]at hQ
  simp only [if_true]
  refine wpAny_bind ?_
  refine wpAny_updateSeq gS6 rfl (wpAny_bind (wpAny_letGo ?_))
  rw[hname]
  have s7:=Heap.SameBut.update h6 h2.objs.size (Obj.mapSeq λ_=>(#[.ref y,.ref y]:Array Value))
  refine wpAny_pure ⟨plainId_quiet PySem.F.plain_max_loop _,fin y _ _ _ (get?_update_seq gS6 λ_=>#[.ref y,.ref y]) ((s7.2 _ nTS).trans gT6) ?_ (oS.turned (s:={ s with heap:=h6,toks:=t6 }) I6 λb u hb e=>(s7.2 b hb).trans e) hQ⟩
  obtain⟨o,q1,q2,q3⟩:=st6.1
  exact⟨o,(s7.2 _ nSI.symm).trans q1,q2,q3⟩
 | false =>
  rw[hb]at hQ
  simp only [Bool.false_eq_true,if_false]
  refine wpAny_bind (wpAny_letGo ?_)
  rw[hname]
  exact wpAny_pure ⟨plainId_quiet PySem.F.plain_max_loop _,fin x _ _ _ gS6 gT6 st6.1 I6 hQ⟩
theorem zJ (a b:Value):argsOk "min" ⟨[a,b],[]⟩:=by unfold argsOk; kernel_rfl
theorem zK{x y:Addr}{ns ms:List Int}{Q E:Value->Shared->Prop}(I:ad X pins σ H s)(hx:H x=some (.tup (ns.map V.int)))(hy:H y=some (.tup (ms.map V.int)))(hh:X.A.handled=none)(hu:X.A.units+16 < cLine)
 (hQ : ∀ s',ad X pins σ H s'->Q (.ref (if HT.lexLt ms ns then y else x)) s'):wpAny (model X.prog X.w) X.A (call (.builtin "min") [.ref x,.ref y]) Q E s:=by
 have hname:(toString "min"++toString ".loop" : String) = "min.loop":=by decide
 refine kmk_tree PySem.F.kind_min PySem.F.plain_min PySem.F.entry_min (zJ _ _) ?_
 show wpAny _ X.A.in1 (Builtin.Builtins.bindParams "min" ["key", "default"] 0 ⟨[],[]⟩ >>= _) _ _ s
 refine wpAny_bind (wpAny_of_eq (show Builtin.Builtins.bindParams "min" ["key", "default"] 0 ⟨[],[]⟩=pure [none,none] from rfl) ?_)
 show wpAny _ X.A.in1 (newTuple [.ref x,.ref y] >>= _) _ _ s
 refine wpAny_bind (wpAny_newTuple ?_)
 generalize hTo:({ cls:=.type "tuple",data:=.seq [Value.ref x,.ref y].toArray }:Obj)=ot
 have htf:ot.isFreed=false:=by rw[<- hTo]; rfl
 have gT0:(s.heap.push ot).get? s.heap.objs.size=some ot:=Heap.get?_push_size _ htf
 have isT : ∀ h:Heap,h.get? s.heap.objs.size=some ot->h.IsTuple s.heap.objs.size #[.ref x,.ref y]:=λh e=>⟨ot,e,by rw[<- hTo],0,by rw[<- hTo]⟩
 refine wpAny_bind (wpAny_pyIter_tuple (isT _ gT0) ?_)
 refine wpAny_bind (wpAny_newList ?_ (Nat.zero_le _))
 rw[hname]
 generalize hIo:({ cls:=.type "tuple_iterator",data:=.fields #[.ref s.heap.objs.size,.int 0 0] }:Obj)=oi
 have hif:oi.isFreed=false:=by rw[<- hIo]; rfl
 obtain⟨h1,e1⟩ : ∃ h1,h1=s.heap.push ot:=⟨_,rfl⟩
 obtain⟨h2,e2⟩ : ∃ h2,h2=h1.push oi:=⟨_,rfl⟩
 obtain⟨h3,e3⟩ : ∃ h3,h3=h2.push (seqObj "list" #[] 0):=⟨_,rfl⟩
 show wpAny _ _ _ _ _ { s with heap:=((s.heap.push ot).push oi).push (seqObj "list" #[] 0) }
 have z1:h1.objs.size=s.heap.objs.size+1:=by rw[e1]; exact size_push' ..
 have z2:h2.objs.size=s.heap.objs.size+2:=by rw[e2,size_push',z1]
 rw[<- e1,<- e2,<- e3]
 have oT:bI X pins H s.heap.objs.size:=.fresh I (Nat.le_refl _)
 have oI:bI X pins H h1.objs.size:=.fresh I (by rw[z1]; exact Nat.le_succ _)
 have oS:bI X pins H h2.objs.size:=.fresh I (by rw[z2]; exact Nat.le_add_right _ _)
 have nTI:s.heap.objs.size≠h1.objs.size:=by rw[z1]; exact Nat.ne_of_lt (Nat.lt_succ_self _)
 have nSI:h2.objs.size≠h1.objs.size:=by rw[z1,z2]; exact Nat.ne_of_gt (Nat.lt_succ_self _)
 have nTS:s.heap.objs.size≠h2.objs.size:=by rw[z2]; exact Nat.ne_of_lt (Nat.lt_add_of_pos_right (by decide))
 have kp : ∀ b u,s.heap.get? b=some u->h3.get? b=some u:=λb u e=>by rw[e3,e2,e1]; exact Heap.get?_push_of_some _ (Heap.get?_push_of_some _ (Heap.get?_push_of_some _ e))
 have gT:h3.get? s.heap.objs.size=some ot:=by rw[e3,e2]; exact Heap.get?_push_of_some _ (Heap.get?_push_of_some _ (by rw[e1]; exact gT0))
 have gI:h3.get? h1.objs.size=some oi:=by rw[e3,e2]; exact Heap.get?_push_of_some _ (Heap.get?_push_size _ hif)
 have gS:h3.get? h2.objs.size=some (seqObj "list" #[] 0):=by rw[e3]; exact Heap.get?_push_size _ rfl
 have I0:ad X pins σ H { s with heap:=h3 }:=I.kept (t':=s.toks) kp
 have k0:h3.IsTupleIter h1.objs.size s.heap.objs.size 0:=⟨oi,gI,by rw[<- hIo],by rw[<- hIo]; rfl⟩
 have W:=Walks.tuple (prog:=X.prog) (w:=X.w) (A:=X.A.in1) hh h1.objs.size s.heap.objs.size nTI #[.ref x,.ref y]
 clear e1 e2 e3 hTo hIo
 refine wpAny_pure ⟨plainId_quiet PySem.F.plain_min_loop _,?_⟩
 refine codeAny_builtin PySem.F.entry_min_loop ?_
 rw[Around.under_plainId PySem.F.plain_min_loop _]
 show wpAny _ X.A.in1 (seqItems? (.ref h2.objs.size) >>= _) _ _ _
 refine wpAny_bind (wpAny_seqItems gS rfl ?_)
 show wpAny _ X.A.in1 (tryCatch (pyNext (.ref h1.objs.size)) _ >>= _) _ _ _
 refine wpAny_bind (wpAny_tryCatch (W.item 0 _ _ _ (show 0 < 2 by decide) ⟨k0,isT _ gT⟩ λv h4 t4 hP st4 k4=>?_))
 have hv:v=Value.ref x:=(Option.some.inj hP).symm
 subst hv
 have I4:ad X pins σ H { s with heap:=h4,toks:=t4 }:=oI.turned (s:={ s with heap:=h3 }) I0 λb u hb e=>k4 b u (by simpa using hb) e
 have gS4:h4.get? h2.objs.size=some (seqObj "list" #[] 0):=k4 _ _ (by simpa using nSI) gS
 have gT4:h4.get? s.heap.objs.size=some ot:=k4 _ _ (by simpa using nTI) gT
 show wpAny _ X.A.in1 (updateSeq h2.objs.size (λ_=>#[.ref x,.ref x]) >>= _) _ _ _
 refine wpAny_bind ?_
 refine wpAny_updateSeq gS4 rfl ?_
 obtain⟨h5,e5⟩ : ∃ h5,h5=h4.update h2.objs.size (Obj.mapSeq λ_=>#[.ref x,.ref x]):=⟨_,rfl⟩
 have s5:=Heap.SameBut.update h4 h2.objs.size (Obj.mapSeq λ_=>(#[.ref x,.ref x]:Array Value))
 have gS5 : ∃ c,h5.get? h2.objs.size=some (seqObj "list" #[.ref x,.ref x] c):=⟨_,by rw[e5]; exact get?_update_seq gS4 λ_=>#[.ref x,.ref x]⟩
 have k5 : ∀ b u,b≠h2.objs.size->h4.get? b=some u->h5.get? b=some u:=λb u hb e=>by rw[e5]; exact (s5.2 b hb).trans e
 rw[hname]
 show wpAny _ _ _ _ _ { s with heap:=h4.update h2.objs.size (Obj.mapSeq λ_=>#[.ref x,.ref x]),toks:=t4 }
 rw[<- e5]
 clear e5 s5
 have I5:ad X pins σ H { s with heap:=h5,toks:=t4 }:=oS.turned (s:={ s with heap:=h4,toks:=t4 }) I4 λb u hb e=>k5 b u hb e
 have gT5:=k5 _ _ nTS gT4
 have iu:h5.IsTupleIter h1.objs.size s.heap.objs.size 1:=by obtain⟨o,q1,q2,q3⟩:=st4.1; exact⟨o,k5 _ _ nSI.symm q1,q2,q3⟩
 obtain⟨c5,gS5⟩:=gS5
 refine wpAny_pure ⟨plainId_quiet PySem.F.plain_min_loop _,?_⟩
 refine codeAny_builtin PySem.F.entry_min_loop ?_
 rw[Around.under_plainId PySem.F.plain_min_loop _]
 show wpAny _ X.A.in1 (seqItems? (.ref h2.objs.size) >>= _) _ _ _
 refine wpAny_bind (wpAny_seqItems gS5 rfl ?_)
 show wpAny _ X.A.in1 (tryCatch (pyNext (.ref h1.objs.size)) _ >>= _) _ _ _
 refine wpAny_bind (wpAny_tryCatch (W.item 1 _ _ _ (show 1 < 2 by decide) ⟨iu,isT _ gT5⟩ λv h6 t6 hP st6 k6=>?_))
 have hv:v=Value.ref y:=(Option.some.inj hP).symm
 subst hv
 have I6:ad X pins σ H { s with heap:=h6,toks:=t6 }:=oI.turned (s:={ s with heap:=h5,toks:=t4 }) I5 λb u hb e=>k6 b u (by simpa using hb) e
 have gS6:=k6 _ _ (by simpa using nSI) gS5
 have gT6:=k6 _ _ (by simpa using nTI) gT5
 obtain⟨ix,rx,tx,_⟩:=I6.tuple (.of hx)
 obtain⟨iy,ry,ty,_⟩:=I6.tuple (.of hy)
 show wpAny _ X.A.in1 (tryCatch (holding [.ref y,.ref y] (richCompare .Lt (.ref y) (.ref x) >>= _)) _ >>= _) _ _ _
 refine wpAny_bind (wpAny_tryCatch (wpAny_holding (wpAny_bind (HT.lt_tupInts (s:={ s with heap:=h6,toks:=t6 }) ty tx (by simpa using iw ry) (by simpa using iw rx) (by show X.A.units+1 < cLine; omega) ?_))))
 refine wpAny_bind (wpAny_holding (wpAny_truthy_bool ?_))
 refine wpAny_bind (wpAny_letGo (wpAny_pure ?_))
 have fin : ∀ (z:Addr) (h7:Heap) (t7:Nat) (c:Nat),h7.get? h2.objs.size=some (seqObj "list" #[.ref z,.ref z] c)->h7.get? s.heap.objs.size=some ot->h7.IsTupleIter h1.objs.size s.heap.objs.size 2->ad X pins σ H { s with heap:=h7,toks:=t7 }->(∀ s',ad X pins σ H s'->Q (.ref z) s') ->
  codeAny (model X.prog X.w) X.A (.builtin "min.loop" ⟨[.ref h1.objs.size,.none,.ref h2.objs.size],[]⟩) (λr s'=>match r with | .ok (.ret v)=>Q v s' | .ok _=>False | .error e=>E e s') { s with heap:=h7,toks:=t7 }:=by
  intro z h7 t7 c gS7 gT7 it7 I7 hz
  refine codeAny_builtin PySem.F.entry_min_loop ?_
  rw[Around.under_plainId PySem.F.plain_min_loop _]
  show wpAny _ X.A.in1 (seqItems? (.ref h2.objs.size) >>= _) _ _ _
  refine wpAny_bind (wpAny_seqItems gS7 rfl ?_)
  show wpAny _ X.A.in1 (tryCatch (pyNext (.ref h1.objs.size)) _ >>= _) _ _ _
  refine wpAny_bind (wpAny_tryCatch (W.done _ _ _ ⟨it7,isT _ gT7⟩ λh8 t8 k8=>?_))
  have I8:ad X pins σ H { s with heap:=h8,toks:=t8 }:=oI.turned (s:={ s with heap:=h7,toks:=t7 }) I7 λb u hb e=>k8 b u (by simpa using hb) e
  have gS8:=k8 _ _ (by simpa using nSI) gS7
  show wpAny _ X.A.in1 (updateSeq h2.objs.size (λ_=>#[]) >>= _) _ _ _
  refine wpAny_bind ?_
  refine wpAny_updateSeq gS8 rfl (wpAny_bind (wpAny_letGo (wpAny_pure ?_)))
  have s9:=Heap.SameBut.update h8 h2.objs.size (Obj.mapSeq λ_=>(#[]:Array Value))
  exact hz _ (oS.turned (s:={ s with heap:=h8,toks:=t8 }) I8 λb u hb e=>(s9.2 b hb).trans e)
 cases hb:HT.lexLt ms ns with
 | true =>
  rw[hb]at hQ
  simp only [if_true]
  refine wpAny_bind ?_
  refine wpAny_updateSeq gS6 rfl (wpAny_bind (wpAny_letGo ?_))
  rw[hname]
  have s7:=Heap.SameBut.update h6 h2.objs.size (Obj.mapSeq λ_=>(#[.ref y,.ref y]:Array Value))
  refine wpAny_pure ⟨plainId_quiet PySem.F.plain_min_loop _,fin y _ _ _ (get?_update_seq gS6 λ_=>#[.ref y,.ref y]) ((s7.2 _ nTS).trans gT6) ?_ (oS.turned (s:={ s with heap:=h6,toks:=t6 }) I6 λb u hb e=>(s7.2 b hb).trans e) hQ⟩
  obtain⟨o,q1,q2,q3⟩:=st6.1
  exact⟨o,(s7.2 _ nSI.symm).trans q1,q2,q3⟩
 | false =>
  rw[hb]at hQ
  simp only [Bool.false_eq_true,if_false]
  refine wpAny_bind (wpAny_letGo ?_)
  rw[hname]
  exact wpAny_pure ⟨plainId_quiet PySem.F.plain_min_loop _,fin x _ _ _ gS6 gT6 st6.1 I6 hQ⟩
def B2:List V->Hp->VK->Prop:=λxs H Q=>∃ (x y:Addr) (ns ms:List Int),xs=[.ref x,.ref y]/\H x=some (.tup (ns.map V.int))/\H y=some (.tup (ms.map V.int))/\Q (.ref (if HT.lexLt ms ns then y else x)) H
def B3:List V->Hp->VK->Prop:=λxs H Q=>∃ (x y:Addr) (ns ms:List Int),xs=[.ref x,.ref y]/\H x=some (.tup (ns.map V.int))/\H y=some (.tup (ms.map V.int))/\Q (.ref (if HT.lexLt ns ms then y else x)) H
theorem C5 (hu:X.A.units+64 < cLine) (hc:X.calm=true):bd X (.builtin "min") B2:=by
 intro pins s σ H xs us Q I r q
 obtain⟨x,y,ns,ms,rfl,hx,hy,q⟩:=q
 obtain⟨u,w',rfl,rx,ry⟩:=jt r
 cases rx; cases ry
 exact zK I hx hy (I.ok.hd hc) (by omega) λs' I'=>⟨.ref (if HT.lexLt ms ns then y else x),H,I',rfl,q⟩
theorem C6 (hu:X.A.units+64 < cLine) (hc:X.calm=true):bd X (.builtin "max") B3:=by
 intro pins s σ H xs us Q I r q
 obtain⟨x,y,ns,ms,rfl,hx,hy,q⟩:=q
 obtain⟨u,w',rfl,rx,ry⟩:=jt r
 cases rx; cases ry
 exact zX I hx hy (I.ok.hd hc) (by omega) λs' I'=>⟨.ref (if HT.lexLt ns ms then y else x),H,I',rfl,q⟩
end
end L2
namespace L2
open PySem PySem.Spec PyProof.Rows PySem.W
section
variable {X:Cx}
theorem C7 (hc:X.calm=true):bd X (.type "list") B5:=by
 intro pins s σ H us vs Q I r q
 obtain⟨a,kvs,rfl,d,q⟩:=q
 cases r with
 | cons r1 r2=>cases r2 with
  | nil =>
   cases r1
   obtain⟨xs,ep,h1,h2,rw',_⟩:=gf I d
   have hl:=Paired.length h2
   have sz:(xs.map eX).toArray.size=kvs.length:=by simp[hl]
   refine W.kdl_call (qJ a _ ep) (I.ok.hd hc) rw' (by rw[sz]; exact d.le) λh' tk acc c hk hD ha=>?_
   have hn:=I.hok.fresh (Nat.le_refl s.heap.objs.size)
   refine⟨.ref s.heap.objs.size,upd H s.heap.objs.size (.lst (kvs.map λx=>V.ref x.2.1)),I.laid (a:=s.heap.objs.size) (o:=.lst (kvs.map λx=>V.ref x.2.1)) (t':=tk) hk (Nat.le_refl _) ⟨by rw[List.length_map]; exact d.le,acc.toList,c,?_,by rw[Array.toArray_toList]; exact hD⟩,rfl,q _ _ (.mk' hn)⟩
   obtain⟨ha1,ha2⟩:=ha
   have go : ∀ (ys:List (ay × Addr × V)) (zs:List (ay × Addr × Value)) (us:List Value) (_:KQ ys zs) (_:us.length=zs.length) (_ : ∀ (j:Nat) (v:Value),us[j]? = some v->∃ z:ay × Addr × Value,zs[j]? = some z/\v=Value.ref z.2.1),aq (ys.map λx=>V.ref x.2.1) us:=by
    intro ys zs us kn
    induction kn generalizing us with
    | nil =>
     intro l _
     obtain rfl:=List.eq_nil_of_length_eq_zero l
     exact .nil
    | @cons p q ps qs h t ih =>
     intro l al
     cases us with
     | nil=>simp at l
     | cons u us =>
      obtain⟨z,e1,e2⟩:=al 0 u rfl
      simp at e1
      subst e1
      refine .cons ?_ (ih us (by simpa using l) λj v hj=>?_)
      ·rw[e2]
       show Value.ref q.2.1=Value.ref p.2.1
       rw[h.2.1]
      ·obtain⟨z,e1,e2⟩:=al (j+1) v (by simpa using hj)
       exact⟨z,by simpa using e1,e2⟩
   refine go kvs xs acc.toList h2 (by rw[Array.length_toList,ha1,sz,hl]) λj v hj=>?_
   obtain⟨e,e1,e2⟩:=ha2 j v (by rw[<- Array.getElem?_toList]; exact hj)
   rw[List.getElem?_toArray,List.getElem?_map]at e1
   obtain⟨z,z1,z2⟩:=Option.map_eq_some_iff.mp e1
   exact⟨z,z1,by rw[e2,<- z2]; rfl⟩
end
section
variable {M:Model}{prog:Program}{w:World}{A:Around}{E:Value->Shared->Prop}{s:Shared}
theorem pH{α β:Type}{f:α->Sem β}{g:α->β} : ∀ (l:List α) {Q:List β->Shared->Prop},(∀ v∈l,∀ Q':β->Shared->Prop,Q' (g v) s->wpAny M A (f v) Q' E s)->Q (l.map g) s->wpAny M A (List.mapM f l) Q E s
 | [],Q,_,q=>by rw[List.mapM_nil]; exact wpAny_pure q
 | x :: l,Q,h,q=>by
  rw[List.mapM_cons]
  exact wpAny_bind (h x (List.mem_cons_self ..) _ (wpAny_bind (pH l (λv hv=>h v (List.mem_cons_of_mem _ hv)) (wpAny_pure q))))
def gd(h:Heap)(v:Value):Option Value:=match v with
 | .ref a=>match h.get? a with
  | some o=>match o.data with
   | .seq its _=>its[0]?
   | _=>none
  | none=>none
 | _=>none
theorem Cf{a:Addr}{its:Array Value}{Q:Option Value->Shared->Prop}(h:s.heap.IsTuple a its)(q:Q its[0]? s):wpAny (model prog w) A (firstOfTuple' (.ref a)) Q E s:=by
 obtain⟨o,ho,hc,n,hd⟩:=h
 show wpAny _ _ (typeOf (.ref a) >>= _) _ _ _
 refine wpAny_bind (wpAny_typeOf_ref ho ?_)
 rw[hc]
 show wpAny _ _ (Builtin.List.listItems (.ref a) >>= _) _ _ _
 exact wpAny_bind (wpAny_listItems ho hd (wpAny_pure q))
theorem As{vs:List Value}{v0:Value}{Q:SortKind->Shared->Prop}(hT : ∀ v∈v0 :: vs,∃ a its,v=.ref a/\s.heap.IsTuple a its)(h0 : ∃ a,v0=.ref a/\s.heap.IsTuple a #[])(hQ:Q oneType' s) :
 wpAny (model prog w) A (keyKind' (v0 :: vs).toArray) Q E s:=by
 rw[keyKind'_eq,List.mapM_toArray,map_eq_pure_bind]
 refine wpAny_bind (wpAny_bind (pH (g:=gd s.heap) _ (λv hv Q' q=>?_) (wpAny_pure ?_)))
 ·obtain⟨a,its,rfl,ht⟩:=hT v hv
  refine Cf ht ?_
  obtain⟨o,ho,hc,n,hd⟩:=ht
  have e:gd s.heap (.ref a)=its[0]?:=by unfold gd; dsimp only; rw[ho]; dsimp only; rw[hd]
  rw[<- e]
  exact q
 ·have f0:gd s.heap v0=none:=by
   obtain⟨a,rfl,o,ho,hc,n,hd⟩:=h0
   unfold gd; dsimp only; rw[ho]; dsimp only; rw[hd]; rfl
  have e1:((v0 :: vs).map (gd s.heap)).toArray.all (λx=>x.isSome)=false:=by
   rw[List.map_cons,f0]
   simp
  rw[e1]
  simp only [Bool.false_eq_true,if_false]
  have e2:(((v0 :: vs).map (gd s.heap)).toArray[0]?.bind id).isSome=false:=by
   rw[List.map_cons,f0]
   rfl
  rw[e2]
  simp only [Bool.false_eq_true,if_false]
  refine wpAny_bind ?_
  rw[oneTypeOnly'_eq,List.mapM_toArray,map_eq_pure_bind]
  refine wpAny_bind (wpAny_bind (kas_mapM (r:=Value.type "tuple") _ (λv hv Q' q=>?_) (wpAny_pure ?_)))
  ·obtain⟨a,its,rfl,o,ho,hc,n,hd⟩:=hT v hv
   refine wpAny_typeOf_ref ho ?_
   rw[hc]
   exact q
  ·have e3:(((v0 :: vs).map λ_=>Value.type "tuple").toArray.all λx=>x == Value.type "tuple")=true:=by
    rw[List.all_toArray,List.all_eq_true]
    intro x hx
    obtain⟨_,_,rfl⟩:=List.mem_map.mp hx
    decide
   show wpAny _ _ (pure (if (((v0 :: vs).map λ_=>Value.type "tuple").toArray.all λx=>x == Value.type "tuple")=true then some (Value.type "tuple") else none)) _ _ _
   rw[e3]
   exact wpAny_pure (wpAny_pure hQ)
theorem Aj{l b:Addr}{its its2:Array Value}{ns ms:List Int}{C:Bool->Shared->Prop}(hl:s.heap.IsTuple l its)(hb:s.heap.IsTuple b its2)(hi:IntsAre its.toList ns)(hj:IntsAre its2.toList ms)(hu:A.units < cLine)(h:C (HT.lexLt ns ms) s) :
 wpAny (model prog w) A (keyLt' oneType' (.ref l) (.ref b)) C E s:=by
 rw[keyLt'_oneType,oneLt'_eq]
 simp only [if_true]
 obtain⟨⟨cls,dd,data,sl⟩,ho,hc,n,hd⟩:=id hl
 obtain⟨⟨cls2,dd2,data2,sl2⟩,ho2,hc2,n2,hd2⟩:=id hb
 simp only at hc hd hc2 hd2
 subst hc hd hc2 hd2
 refine wpAny_bind (wpAny_cRoomFor hu ?_)
 refine wpAny_bind (wpAny_callSpecialIfBound?_slot ⟨_,ho,rfl⟩ PySem.F.slot_tuple_lt (call_meets PySem.F.slot_tuple_lt ⟨_,ho,rfl⟩ PySem.F.entry_tuple_lt (PySem.F.args_tuple_lt_2 _ _) (HT.tuple_lt_ints l b its its2 n n2 dd dd2 sl sl2 ns ms hi hj) ⟨ho,ho2,?_⟩))
 exact wpAny_truthy_bool h
end
section
variable {X:Cx}{pins:List (Addr × Obj)}{σ:St}{H:Hp}{s:Shared}
def B1(K:W.Frag)(xs:List V)(H:Hp)(Q:VK):Prop:=∃ (p:Addr) (ps:List eV),xs=[.ref p]/\az K H p (ps.map λq=>V.ref q.1)/\(∀ q∈ps,bP K H q.1 (q.2.map V.int))/\(∀ q,ps[0]? = some q->q.2=[])/\(ps.map λq=>q.2).Nodup/\ps.length < 64 /\
 ∀ d qs H',aI H d (.lst (qs.map λq=>V.ref q.1)) H'->List.Perm qs ps->Q (.ref d) H'
theorem C4 {K:W.Frag} (hK:X.K=K) (hu:X.A.units+64 < cLine):bd X (.builtin "sorted") (B1 K):=by
 subst hK
 intro pins s σ H xs us Q I r q
 obtain⟨p,ps,rfl,hp,hq,hf,nd,l64,q⟩:=q
 obtain⟨u,rfl,rx⟩:=fJ r
 cases rx
 obtain⟨its,rv,pl,_⟩:=I.list hp
 obtain rfl:=qH rv
 have lv:(ps.map λq=>Value.ref q.1).length=ps.length:=List.length_map ..
 have at_ : ∀ h':Heap,(∀ b o,s.heap.get? b=some o->h'.get? b=some o)->∀ i,i < ps.length->∃ a:Array Value,h'.IsTuple (ps.getD i (0,[])).1 a/\IntsAre a.toList (ps.getD i (0,[])).2:=λh' k i hi=>by
  rw[fZ hi]
  obtain⟨its,rv,pl,_⟩:=I.tuple (hq _ (List.getElem_mem hi))
  refine⟨its.toArray,?_,by simpa using iw rv⟩
  obtain⟨o,ho,hc,n,hd⟩:=pl
  exact⟨o,k _ _ ho,hc,n,hd⟩
 refine wD (vs:=ps.map λq=>Value.ref q.1) (κ:=oneType') (lt:=jY ps) (by rw[lv]; exact zi nd) (by omega) (λR hR=>?_) (λl2 h' tk R k hR=>?_) (λh' tk i j C k hi hj hC=>?_) λh' tk c pp d hd k g sr e=>?_
 ·refine collect_list pl.isList ?_ (by rw[sizeLine_eq]; omega)
  have u1:=Heap.SameBut.update (s.heap.push (seqObj "list" #[] 0)) s.heap.objs.size (Obj.mapSeq (·++(ps.map λq=>Value.ref q.1).toArray))
  refine hR _ s.toks (by rw[u1.1,Heap.size_push]; exact Nat.le_succ _) λb o e=>?_
  exact (u1.2 b (Nat.ne_of_lt (Heap.lt_size e))).trans (Heap.get?_push_of_some _ e)
 ·cases ps with
  | nil=>rw[List.map_nil]at l2; exact absurd l2 (by decide)
  | cons q0 ps =>
   rw[List.map_cons]
   refine As (s:={ s with heap:=h',toks:=tk }) (λv hv=>?_) ?_ hR
   ·rw[<- List.map_cons (f:=λq:eV=>Value.ref q.1)]at hv
    obtain⟨qq,hqq,rfl⟩:=List.mem_map.mp hv
    obtain⟨i,hi,e⟩:=List.getElem_of_mem hqq
    obtain⟨a,ht,_⟩:=at_ h' k i hi
    rw[fZ hi,e]at ht
    exact⟨qq.1,a,rfl,ht⟩
   ·obtain⟨a,ht,ia⟩:=at_ h' k 0 (Nat.succ_pos _)
    have e0:q0.2=[]:=hf q0 rfl
    have ia:IntsAre a.toList q0.2:=ia
    rw[e0]at ia
    have ht:h'.IsTuple q0.1 a:=ht
    have:a = #[]:=by
     have l:=ia.length
     exact Array.eq_empty_of_size_eq_zero (by rw[<- Array.length_toList,l]; rfl)
    rw[this]at ht
    exact⟨q0.1,rfl,ht⟩
 ·rw[lv]at hi hj
  rw[mm hi,mm hj]
  obtain⟨a,a1,a2⟩:=at_ h' k i hi
  obtain⟨b,b1,b2⟩:=at_ h' k j hj
  exact Aj (s:={ s with heap:=h',toks:=tk }) a1 b1 a2 b2 (by show X.A.units+1+1 < cLine; omega) hC
 ·rw[lv]at g sr
  rw[zh g]at e
  obtain⟨o1,o2⟩:=wb g sr
  have hn:=I.hok.fresh hd
  refine⟨.ref d,upd H d (.lst ((pp.toList.map λi=>ps.getD i (0,[])).map λq=>V.ref q.1)),I.laid (a:=d) (t':=tk) k hd ⟨?_,_,c,pJ _,e⟩,rfl,q d _ _ (.mk' hn) o1⟩
  rw[List.length_map,o1.length_eq,sizeLine_eq]
  omega
end
def strOf? : Value->Option Str
 | .str x _=>some x
 | _=>none
def refOf? : Value->Option Addr
 | .ref a=>some a
 | _=>none
def tS:List DictEntry->Option (List (Int × Str × Addr))
 | []=>some []
 | e :: r=>(strOf? e.key).bind λx=>(refOf? e.val).bind λa=>(tS r).map λl=>(e.hash,x,a) :: l
structure EE (K:W.Frag) (w:World) (a:Addr) (m:List (Int × Str × Addr)):Prop where
 ex : ∃ es ep,K.lookup a=some ⟨.type "dict",none,.dict es ep,#[]⟩/\tS es.toList=some m
 hs : ∀ p∈m,p.1=hashStr w p.2.1
 nd:(m.map (·.2.1)).Nodup
 ns:(a == sysModules)=false
structure EC (P:Program) (w:World) (K:W.Frag) (mg:Str->Option Value) (base:Heap) (x:Str) (k:Nat) (f:Addr) (fd:FuncData) (ps:List Str) (dvs:List V) (sp:Sp):Prop where
 g:mg x=some (.ref f)
 kp:W.keepIn K (.ref f)=true
 b : ∃ ds,aD K fd ps ds/\aq dvs ds
 ok:bw P w K mg base bY k f fd ps sp
end L2
namespace My
open PySem L2
def bb(i:Nat):Stmt:=PySem.Challenge.pw_bytetongue_k85_whole_slack_is_the_greate.main.body.getD i (.Pass ⟨0,0,0,0⟩)
abbrev gN:Stmt:=bb 2
abbrev hV:Stmt:=bb 3
abbrev hU:Stmt:=bb 4
abbrev hW:Stmt:=bb 5
abbrev ff:Stmt:=bb 6
abbrev gO:Stmt:=bb 7
abbrev fM:Stmt:=bb 8
abbrev gM:Stmt:=bb 9
abbrev ez:Stmt:=bb 10
abbrev hJ:Stmt:=bb 15
abbrev gU:Stmt:=bb 24
abbrev gY:Stmt:=bb 25
abbrev gW:Stmt:=bb 26
abbrev gP:Stmt:=bb 27
abbrev gR:Stmt:=bb 28
abbrev gQ:Stmt:=bb 29
abbrev fN:Stmt:=bb 30
abbrev gX:Stmt:=bb 36
abbrev gZ:Stmt:=bb 37
abbrev hE:Stmt:=bb 38
abbrev hX:Stmt:=mG (bb 39) 0
abbrev hZ:Stmt:=mG (bb 39) 1
abbrev fO:Stmt:=mG (bb 39) 2
abbrev gH:Stmt:=bb 41
abbrev gG:Stmt:=bb 42
abbrev fb:Stmt:=bb 43
abbrev gJ:Stmt:=bb 44
abbrev gF:Stmt:=bb 45
abbrev gL:Stmt:=bb 46
abbrev fe:Stmt:=bb 47
theorem gz:aU ["tongue", "steps", "sign", "row", "size", "begun"] ["tongue"] (ao gN):=by constructor<;>first|rfl|decide +kernel
theorem jI:aU ["steps", "one", "other", "found", "byte", "goal"] ["steps", "one", "other"] (ao hV):=by constructor<;>first|rfl|decide +kernel
theorem jH:aU ["steps", "apart", "one", "other"] ["steps"] (ao hU):=by constructor<;>first|rfl|decide +kernel
theorem gC:aU ["apart", "found", "pair", "behind", "goal"] ["apart"] (ao hW):=by constructor<;>first|rfl|decide +kernel
theorem ej:aU ["apart", "far", "ahead", "unknown", "pair", "behind", "known", "earlier"] ["apart"] (ao ff):=by constructor<;>first|rfl|decide +kernel
theorem jG:aU ["apart", "far", "pair", "row", "byte"] ["apart", "far", "pair"] (ao gO):=by constructor<;>first|rfl|decide +kernel
theorem iS:aU ["apart", "far", "pair", "row", "met", "onward"] ["apart", "far", "pair"] (ao fM):=by constructor<;>first|rfl|decide +kernel
theorem wS:aU ["pair", "row"] ["pair", "row"] (ao gM):=by constructor<;>first|rfl|decide +kernel
theorem gA:aU ["tongue", "apart", "far", "endless", "trip", "pair"] ["tongue"] (ao ez):=by constructor<;>first|rfl|decide +kernel
theorem w6:aU ["one", "other"] ["one", "other"] (ao hJ):=by constructor<;>first|rfl|decide +kernel
theorem wX:aU ["thing"] ["thing"] (ao gU):=by constructor<;>first|rfl|decide +kernel
theorem w4:aU ["thing"] ["thing"] (ao gY):=by constructor<;>first|rfl|decide +kernel
theorem wY:aU ["number"] ["number"] (ao gW):=by constructor<;>first|rfl|decide +kernel
theorem wT:aU ["number"] ["number"] (ao gP):=by constructor<;>first|rfl|decide +kernel
theorem wV:aU ["thing"] ["thing"] (ao gR):=by constructor<;>first|rfl|decide +kernel
theorem wU:aU ["thing"] ["thing"] (ao gQ):=by constructor<;>first|rfl|decide +kernel
theorem wW:aU ["thing"] ["thing"] (ao fN):=by constructor<;>first|rfl|decide +kernel
theorem wZ:aU ["thing"] ["thing"] (ao gX):=by constructor<;>first|rfl|decide +kernel
theorem w5:aU ["one", "other"] ["one", "other"] (ao gZ):=by constructor<;>first|rfl|decide +kernel
theorem iT:aU ["rows", "other", "entry", "one", "earlier"] ["rows"] (ao hE):=by constructor<;>first|rfl|decide +kernel
theorem qC:aU ["self", "rows", "entry"] ["self", "rows"] (ao hX):=by constructor<;>first|rfl|decide +kernel
theorem qD:aU ["self", "sign", "row", "size"] ["self", "sign", "row"] (ao hZ):=by constructor<;>first|rfl|decide +kernel
theorem w9:aU ["self"] ["self"] (ao fO):=by constructor<;>first|rfl|decide +kernel
theorem wR:aU ["_law_script", "_law_k"] ["_law_script", "_law_k"] (ao gH):=by constructor<;>first|rfl|decide +kernel
theorem wQ:aU ["_law_found"] ["_law_found"] (ao gG):=by constructor<;>first|rfl|decide +kernel
theorem fK:aU ["_law_cells", "_law_found", "_law_cell", "_law_number", "_law_row", "_law_k"] ["_law_cells"] (ao fb):=by constructor<;>first|rfl|decide +kernel
theorem lC:aU ["_law_rows_here", "_law_begun", "_law_byte", "_law_there", "_law_row"] ["_law_rows_here", "_law_begun", "_law_byte"] (ao gJ):=by constructor<;>first|rfl|decide +kernel
theorem jF:aU ["_law_rows_here", "_law_found", "_law_row", "_law_k"] ["_law_rows_here"] (ao gF):=by constructor<;>first|rfl|decide +kernel
theorem fL:aU ["_law_rows_here", "_law_held", "_law_found", "_law_one", "_law_other", "_law_byte", "_law_here", "_law_there"] ["_law_rows_here", "_law_held"] (ao gL):=by constructor<;>first|rfl|decide +kernel
theorem cM:aU ["_law_script", "_law_rows_here", "_law_spots_here", "_law_held", "_law_k", "_law_first", "_law_word", "_law_many", "_law_witness"] ["_law_script"] (ao fe):=by constructor<;>first|rfl|decide +kernel
set_option genInjectivity false in
structure Adr where
 oM:Addr
 ni:FuncData
 o7:Addr
 nO:FuncData
 o6:Addr
 nN:FuncData
 o9:Addr
 nP:FuncData
 oZ:Addr
 nJ:FuncData
 oN:Addr
 nj:FuncData
 oK:Addr
 nh:FuncData
 oJ:Addr
 m9:FuncData
 kK:Addr
 kh:FuncData
 o5:Addr
 nM:FuncData
 oV:Addr
 nB:FuncData
 oY:Addr
 nI:FuncData
 oW:Addr
 nC:FuncData
 oP:Addr
 nq:FuncData
 oR:Addr
 ny:FuncData
 oQ:Addr
 nu:FuncData
 oU:Addr
 nA:FuncData
 oX:Addr
 nH:FuncData
 o0:Addr
 nK:FuncData
 o4:Addr
 nL:FuncData
 kL:Addr
 ko:FuncData
 ph:Addr
 nR:FuncData
 pb:Addr
 nQ:FuncData
 oF:Addr
 m5:FuncData
 oE:Addr
 m4:FuncData
 oB:Addr
 mZ:FuncData
 oG:Addr
 m7:FuncData
 oz:Addr
 mY:FuncData
 oH:Addr
 m8:FuncData
 oO:Addr
 kj:FuncData
 bF:Addr
 vB:Tok
 vA:Tok
 vz:Tok
 vx:Tok
 vw:Tok
 vt:Tok
 vo:Tok
 vn:Tok
 vm:Tok
structure Txt (K:PySem.W.Frag) (mg:Str->Option Value) (t:Adr):Prop where
 uR:aR K "steps_of" "steps_of" gN t.oM t.ni
 Dx:aD K t.ni ["tongue"] []
 BB:mg "steps_of" = some (.ref t.oM)
 vh:aR K "apart_behind" "apart_behind" hV t.o7 t.nO
 DS:aD K t.nO ["steps", "one", "other"] []
 BY:mg "apart_behind" = some (.ref t.o7)
 vg:aR K "apart_of" "apart_of" hU t.o6 t.nN
 DR:aD K t.nN ["steps"] []
 BX:mg "apart_of" = some (.ref t.o6)
 vi:aR K "ahead_of" "ahead_of" hW t.o9 t.nP
 DT:aD K t.nP ["apart"] []
 BZ:mg "ahead_of" = some (.ref t.o9)
 va:aR K "farthest" "farthest" ff t.oZ t.nJ
 DK:aD K t.nJ ["apart"] []
 BR:mg "farthest" = some (.ref t.oZ)
 uS:aR K "row_apart" "row_apart" gO t.oN t.nj
 Dz:aD K t.nj ["apart", "far", "pair"] []
 BF:mg "row_apart" = some (.ref t.oN)
 uQ:aR K "trip_from" "trip_from" fM t.oK t.nh
 Dw:aD K t.nh ["apart", "far", "pair"] []
 BA:mg "trip_from" = some (.ref t.oK)
 uP:aR K "witness" "witness" gM t.oJ t.m9
 Dv:aD K t.m9 ["pair", "row"] []
 Bz:mg "witness" = some (.ref t.oJ)
 Ef:aR K "slack" "slack" ez t.kK t.kh
 uF:kR K "slack" "slack" ez t.kK t.kh 77 75
 Dy:aD K t.kh ["tongue"] []
 BC:mg "slack" = some (.ref t.kK)
 vf:aR K "begins" "begins" hJ t.o5 t.nM
 DO:aD K t.nM ["one", "other"] []
 BW:mg "begins" = some (.ref t.o5)
 uX:aR K "is_number" "is_number" gU t.oV t.nB
 DG:aD K t.nB ["thing"] []
 BM:mg "is_number" = some (.ref t.oV)
 u9:aR K "is_byte" "is_byte" gY t.oY t.nI
 DJ:aD K t.nI ["thing"] []
 BP:mg "is_byte" = some (.ref t.oY)
 uY:aR K "is_head" "is_head" gW t.oW t.nC
 DH:aD K t.nC ["number"] []
 BN:mg "is_head" = some (.ref t.oW)
 uT:aR K "is_tail" "is_tail" gP t.oP t.nq
 DC:aD K t.nq ["number"] []
 BI:mg "is_tail" = some (.ref t.oP)
 uV:aR K "is_seen_byte" "is_seen_byte" gR t.oR t.ny
 DE:aD K t.ny ["thing"] []
 BK:mg "is_seen_byte" = some (.ref t.oR)
 uU:aR K "is_sign" "is_sign" gQ t.oQ t.nu
 DD:aD K t.nu ["thing"] []
 BJ:mg "is_sign" = some (.ref t.oQ)
 uW:aR K "is_row" "is_row" fN t.oU t.nA
 DF:aD K t.nA ["thing"] []
 BL:mg "is_row" = some (.ref t.oU)
 uZ:aR K "is_entry" "is_entry" gX t.oX t.nH
 DI:aD K t.nH ["thing"] []
 BO:mg "is_entry" = some (.ref t.oX)
 vd:aR K "collide" "collide" gZ t.o0 t.nK
 DL:aD K t.nK ["one", "other"] []
 BT:mg "collide" = some (.ref t.o0)
 ve:aR K "check_table" "check_table" hE t.o4 t.nL
 DM:aD K t.nL ["rows"] []
 BU:mg "check_table" = some (.ref t.o4)
 Eh:aR K "__init__" "TableTongue.__init__" hX t.kL t.ko
 DV:aD K t.ko ["self", "rows"] []
 Ei:aR K "enter" "TableTongue.enter" hZ t.ph t.nR
 DW:aD K t.nR ["self", "sign", "row"] []
 Eg:aR K "rows" "TableTongue.rows" fO t.pb t.nQ
 DU:aD K t.nQ ["self"] []
 uM:aR K "_law_pick" "_law_pick" gH t.oF t.m5
 Ds:aD K t.m5 ["_law_script", "_law_k"] []
 Bw:mg "_law_pick" = some (.ref t.oF)
 uL:aR K "_law_plain" "_law_plain" gG t.oE t.m4
 Dr:aD K t.m4 ["_law_found"] []
 Bv:mg "_law_plain" = some (.ref t.oE)
 uK:aR K "_law_rows" "_law_rows" fb t.oB t.mZ
 Dq:aD K t.mZ ["_law_cells"] []
 Bu:mg "_law_rows" = some (.ref t.oB)
 uN:aR K "_law_next" "_law_next" gJ t.oG t.m7
 Dt:aD K t.m7 ["_law_rows_here", "_law_begun", "_law_byte"] []
 Bx:mg "_law_next" = some (.ref t.oG)
 uJ:aR K "_law_spots" "_law_spots" gF t.oz t.mY
 Dp:aD K t.mY ["_law_rows_here"] []
 Bt:mg "_law_spots" = some (.ref t.oz)
 uO:aR K "_law_led_on" "_law_led_on" gL t.oH t.m8
 Du:aD K t.m8 ["_law_rows_here", "_law_held"] []
 By:mg "_law_led_on" = some (.ref t.oH)
 pD:aR K "law" "law" fe t.oO t.kj
 DA:aD K t.kj ["_law_script"] []
 tm:mg "law" = some (.ref t.oO)
 Bs:mg "TableTongue" = some (.ref t.bF)
 eM:cK K t.bF
 zF:Mk K t.bF t.kL
 zD:fD K t.bF "enter" t.ph
 zC:fD K t.bF "rows" t.pb
 rY:eR K t.bF "rest_by_row"
 ml:eR K t.bF "row_by_sign"
 rX:eR K t.bF "sign_by_row"
 El : ∀ H a dx fs,H a=some (.ins t.bF dx fs)->cc K H (.ref a) (.ref t.bF)
 Dl:mg "FIRST_HEAD" = some (.int 55296 t.vB)
 Dk:mg "FIRST_SEEN" = some (.int 61184 t.vA)
 uh:mg "FIRST_TAIL" = some (.int 56320 t.vz)
 Dj:mg "LAST_BYTE" = some (.int 255 t.vx)
 Di:mg "LAST_SEEN" = some (.int 61439 t.vw)
 Dh:mg "LAST_SIGN" = some (.int 1114111 t.vt)
 Dg:mg "LAST_TAIL" = some (.int 57343 t.vo)
 Df:mg "MOST_BYTES" = some (.int 6 t.vn)
 De:mg "MOST_TUPLES" = some (.int 64 t.vm)
 n_all:mg "all" = none
 n_bool:mg "bool" = none
 n_enumerate:mg "enumerate" = none
 n_int:mg "int" = none
 n_isinstance:mg "isinstance" = none
 n_len:mg "len" = none
 n_list:mg "list" = none
 n_max:mg "max" = none
 n_min:mg "min" = none
 n_range:mg "range" = none
 n_sorted:mg "sorted" = none
 n_sum:mg "sum" = none
 n_tuple:mg "tuple" = none
end My
namespace My
open PySem L2
def fY:V->Bool
 | .int _=>true
 | _=>false
def bT(v:V)(lo hi:Int):Bool:=match v with
 | .int i=>decide (lo<=i) && decide (i<=hi)
 | _=>false
def eK(v:V):Bool:=bT v 0 1114111 && !(bT v 55296 57343) && !(bT v 61184 61439)
theorem mC{v:V}(h:fY v=true) : ∃ i,v=.int i:=by
 cases v <;> first | exact⟨_,rfl⟩ | cases h
def iR(f:V->Bool)(K:PySem.W.Frag):Sp:=λvs H Q _=>∃ v,vs=[v]/\cY K H v/\Q (.bl (f v)) H
def lw(f:Int->Bool):Sp:=λvs H Q _=>∃ i,vs=[.int i]/\Q (.bl (f i)) H
theorem j4{f:V->Bool}{K:PySem.W.Frag}{x:Str} : ∀ vs H Q E,iR f K vs H Q E->vs.length=[x].length:=λvs H Q E h=>by
 obtain⟨v,rfl,_⟩:=h
 rfl
theorem sy{f:Int->Bool}{x:Str} : ∀ vs H Q E,lw f vs H Q E->vs.length=[x].length:=λvs H Q E h=>by
 obtain⟨v,rfl,_⟩:=h
 rfl
def Sg(n:Int):Prop:=0<=n/\n<=1114111/\¬ (55296<=n/\n<=57343)/\¬ (61184<=n/\n<=61439)
theorem wL(n:Int):eK (.int n)=true ↔ Sg n:=by
 unfold eK bT Sg
 simp
 omega
def au{α β:Type}(R:α->β->Prop)(xs:List α)(ys:List β):Prop:=xs.length=ys.length/\∀ (i:Nat) x y,xs[i]? = some x->ys[i]? = some y->R x y
theorem au.nil{α β:Type}{R:α->β->Prop}:au R [] []:=⟨rfl,λi x y h=>by simp at h⟩
theorem au.cons{α β:Type}{R:α->β->Prop}{x:α}{y:β}{xs:List α}{ys:List β}(h:R x y)(t:au R xs ys):au R (x :: xs) (y :: ys):=⟨by simp[t.1],λi a b ha hb=>by
 cases i with
 | zero=>simp at ha hb; subst ha hb; exact h
 | succ i=>exact t.2 i a b (by simpa using ha) (by simpa using hb)⟩
theorem au.head{α β:Type}{R:α->β->Prop}{x:α}{y:β}{xs:List α}{ys:List β}(h:au R (x :: xs) (y :: ys)):R x y:=h.2 0 x y rfl rfl
theorem au.tail{α β:Type}{R:α->β->Prop}{x:α}{y:β}{xs:List α}{ys:List β}(h:au R (x :: xs) (y :: ys)):au R xs ys:=⟨by have:=h.1; simpa using this,λi a b ha hb=>h.2 (i+1) a b (by simpa using ha) (by simpa using hb)⟩
theorem au.imp{α β:Type}{R S:α->β->Prop}{xs:List α}{ys:List β}(h:au R xs ys)(k : ∀ x y,R x y->S x y):au S xs ys:=⟨h.1,λi x y a b=>k x y (h.2 i x y a b)⟩
theorem au.app{α β:Type}{R:α->β->Prop}{xs us:List α}{ys vs:List β}(h:au R xs ys)(k:au R us vs):au R (xs++us) (ys++vs):=by
 refine⟨by simp[h.1,k.1],λi x y a b=>?_⟩
 by_cases hi:i < xs.length
 ·rw[List.getElem?_append_left hi]at a
  rw[List.getElem?_append_left (by rw[<- h.1]; exact hi)]at b
  exact h.2 i x y a b
 ·rw[List.getElem?_append_right (by omega)]at a
  rw[List.getElem?_append_right (by rw[<- h.1]; omega),<- h.1]at b
  exact k.2 _ x y a b
theorem au.right{α β:Type}{R:α->β->Prop}{xs:List α}{ys:List β}(h:au R xs ys){i:Nat}{x:α}(hx:xs[i]? = some x) : ∃ y,ys[i]? = some y/\R x y:=by
 have hi:=(List.getElem?_eq_some_iff.mp hx).1
 have hy:ys[i]? = some (ys[i]'(by rw[<- h.1]; exact hi)):=by simp
 exact⟨_,hy,h.2 i x _ hx hy⟩
theorem au.left{α β:Type}{R:α->β->Prop}{xs:List α}{ys:List β}(h:au R xs ys){i:Nat}{y:β}(hy:ys[i]? = some y) : ∃ x,xs[i]? = some x/\R x y:=by
 have hi:=(List.getElem?_eq_some_iff.mp hy).1
 have hx:xs[i]? = some (xs[i]'(by rw[h.1]; exact hi)):=by simp
 exact⟨_,hx,h.2 i _ y hx hy⟩
def Kp(a:Addr)(H H':Hp):Prop:=∀ c u,c≠a->H c=some u->H' c=some u
theorem Kp.trans{a:Addr}{H H1 H2:Hp}(h:Kp a H H1)(h':Kp a H1 H2):Kp a H H2:=λc u n e=>h' c u n (h c u n e)
theorem Kp.of{a:Addr}{H H1:Hp}(h:af H H1):Kp a H H1:=λc u _ e=>h c u e
theorem Kp.upd{a:Addr}{H:Hp}{o:HO}:Kp a H (upd H a o):=λc u n e=>by rw[aj n]; exact e
end My
namespace My
open PySem L2
section
variable {P:Program}{w:World}{K:PySem.W.Frag}{mg:Str->Option Value}{base:Heap}{t:Adr}
theorem mI (T:Txt K mg t):bi P w K mg base "is_number" 1 t.oV t.nB ["thing"] (iR fY K):=by
 refine⟨T.BM,T.uX.kp,T.DG,T.uX.okQ wX j4 λcdv A outer s H vs Q E hr h=>?_⟩
 obtain⟨v,rfl,kd,k⟩:=h
 refine⟨_,(av (aT (dk (bj (jg (K:=K) rfl) T.n_isinstance PyProof.Rows.boot_isinstance (ae (ab 0) (ae (iZ rfl T.n_int PyProof.Rows.boot_int) ag))) (cQ (qT (bj (jg (K:=K) rfl) T.n_isinstance PyProof.Rows.boot_isinstance (ae (ab 0) (ae (iZ rfl T.n_bool PyProof.Rows.boot_bool) ag)))))))),?_⟩
 obtain⟨ty,hty,e0⟩:=kd.isInt
 refine⟨ty,_,hty,e0,?_⟩
 refine aG (λe=>?_) (λe=>?_)
 ·obtain⟨ty,hty,e0⟩:=kd.isBl
  refine⟨ty,_,hty,e0,?_⟩
  exact bu k (by cases v <;> simp_all [fY,mD,sO])
 ·exact bu k (by cases v <;> simp_all [fY,mD])
theorem A9 (T:Txt K mg t):bi P w K mg base "is_head" 1 t.oW t.nC ["number"] (lw λi=>decide (55296<=i) && decide (i < 56320)):=by
 refine⟨T.BN,T.uY.kp,T.DH,T.uY.okQ wY sy λcdv A outer s H vs Q E hr h=>?_⟩
 obtain⟨i,rfl,k⟩:=h
 refine⟨_,(av (aT (iW dt mL (dS T.Dl) (ab 0) (dS T.uh)))),?_⟩
 refine aG (λe1=>?_) (λe1=>?_)
 ·exact bu k (by simp at *; omega)
 ·exact bu k (by simp at *; omega)
theorem A5 (T:Txt K mg t):bi P w K mg base "is_tail" 1 t.oP t.nq ["number"] (lw λi=>decide (56320<=i) && decide (i<=57343)):=by
 refine⟨T.BI,T.uT.kp,T.DC,T.uT.okQ wT sy λcdv A outer s H vs Q E hr h=>?_⟩
 obtain⟨i,rfl,k⟩:=h
 refine⟨_,(av (aT (iW dt dt (dS T.uh) (ab 0) (dS T.Dg)))),?_⟩
 refine aG (λe1=>?_) (λe1=>?_)
 ·exact bu k (by simp at *; omega)
 ·exact bu k (by simp at *; omega)
theorem A7 (T:Txt K mg t):bi P w K mg base "is_seen_byte" 2 t.oR t.ny ["thing"] (iR (λv=>bT v 61184 61439) K):=by
 refine⟨T.BK,T.uV.kp,T.DE,T.uV.okQ wV j4 λcdv A outer s H vs Q E hr h=>?_⟩
 obtain⟨v,rfl,kd,k⟩:=h
 refine⟨_,(av (aT (dk (aX (mI T) hr (ae (ab 0) ag)) (cQ (iW dt dt (dS T.Dk) (ab 0) (dS T.Di)))))),?_⟩
 refine⟨v,rfl,kd,?_⟩
 refine aG (λe=>?_) (λe=>?_)
 ·obtain⟨i,rfl⟩:=mC e
  refine aG (λe1=>?_) (λe1=>?_)
  ·exact bu k (by simp[bT]at *; omega)
  ·exact bu k (by simp[bT]at *; omega)
 ·exact bu k (by cases v <;> simp_all [fY,bT])
theorem A6 (T:Txt K mg t):bi P w K mg base "is_sign" 3 t.oQ t.nu ["thing"] (iR eK K):=by
 refine⟨T.BJ,T.uU.kp,T.DD,T.uU.okQ wU j4 λcdv A outer s H vs Q E hr h=>?_⟩
 obtain⟨v,rfl,kd,k⟩:=h
 refine⟨_,(aw (ca (i3 (jM (fQ (ic (aX (mI T) hr (ae (ab 0) ag)))) (lK (fQ (xO dt dt aB (ab 0) (dS T.Dh)))))) (av (aT fT)) bZ)
  (av (aT (qT (iV (aX (A9 T) hr (ae (ab 0) ag)) (iV (aX (A5 T) hr (ae (ab 0) ag)) (cQ (aX (A7 T) hr (ae (ab 0) ag))))))))),?_⟩
 refine⟨v,rfl,kd,?_⟩
 refine aG (λe=>?_) (λe=>?_)
 ·refine dU ?_
  exact bu k (by cases v <;> simp_all [fY,bT,eK])
 ·obtain⟨i,rfl⟩:=mC (v:=v) (by simpa using e)
  refine aG (λe1=>?_) (λe1=>?_)
  ·refine aG (λe2=>?_) (λe2=>?_)
   ·exact bu k (by simp[eK,bT]at *; omega)
   ·refine⟨i,rfl,?_⟩
    refine aG (λe3=>?_) (λe3=>?_)
    ·exact bu k (by simp[eK,bT]at *; omega)
    ·refine⟨i,rfl,?_⟩
     refine aG (λe4=>?_) (λe4=>?_)
     ·exact bu k (by simp[eK,bT]at *; omega)
     ·refine⟨_,rfl,kd,?_⟩
      exact bu k (by rw[Bool.eq_iff_iff]; simp[eK,bT]at *; omega)
  ·refine dU ?_
   exact bu k (by simp[eK,bT]at *; omega)
theorem Bb (T:Txt K mg t):bi P w K mg base "is_byte" 2 t.oY t.nI ["thing"] (iR (λv=>bT v 0 255) K):=by
 refine⟨T.BP,T.u9.kp,T.DJ,T.u9.okQ w4 j4 λcdv A outer s H vs Q E hr h=>?_⟩
 obtain⟨v,rfl,kd,k⟩:=h
 refine⟨_,(av (aT (dk (aX (mI T) hr (ae (ab 0) ag)) (cQ (iW dt dt aB (ab 0) (dS T.Dj)))))),?_⟩
 refine⟨v,rfl,kd,?_⟩
 refine aG (λe=>?_) (λe=>?_)
 ·obtain⟨i,rfl⟩:=mC e
  refine aG (λe1=>?_) (λe1=>?_)
  ·exact bu k (by simp[bT]at *; omega)
  ·exact bu k (by simp[bT]at *; omega)
 ·exact bu k (by cases v <;> simp_all [fY,bT])
def bp(one other:List Int):Bool:=decide (other.take one.length=one)
def wA(K:PySem.W.Frag):Sp:=λvs H Q _=>∃ (a b:Addr) (x y:List Int),vs=[.ref a,.ref b]/\az K H a (x.map V.int)/\az K H b (y.map V.int)/\∀ H',af H H'->Q (.bl (bp x y)) H'
theorem ft(ns:List Int)(k:Nat):cy (ns.map V.int) none (some (k:Int))=(ns.take k).map V.int:=by rw[kB,t5]
theorem s0 (T:Txt K mg t):bi P w K mg base "begins" 1 t.o5 t.nM ["one", "other"] (wA K):=by
 refine⟨T.BW,T.vf.kp,T.DO,T.vf.okQ w6 (λvs H Q E h=>by obtain⟨a,b,x,y,rfl,_⟩:=h; rfl) λcdv A outer s H vs Q E hr h=>?_⟩
 obtain⟨a,b,x,y,rfl,ha,hb,k⟩:=h
 have hu:=hr.units
 refine⟨_,(av (aT (dj (du (K:=K) rfl hu) (cP (dH (K:=K) rfl) (ab 1) dC (cD (bj (cz (K:=K) rfl) T.n_len PySem.boot_len (ae (ab 0) ag)))) (ab 0) (bf _)))),?_⟩
 refine⟨_,.inl ha,_,rfl,_,hb,λp1 H1 g1=>?_⟩
 rw[List.length_map,ft]at g1
 exact jc g1.lst (g1.sm.seq ha) (k H1 g1.sm)
structure gw (H:Hp) (p:Addr) (s:Int) (r:List Int):Prop where
 h : ∃ q,H p=some (.tup [.int s,.ref q])/\H q=some (.lst (r.map V.int))
 l:1<=r.length/\r.length<=6
theorem gw.mono{H H':Hp}{p:Addr}{s:Int}{r:List Int}(h:gw H p s r)(k:af H H'):gw H' p s r:=by
 obtain⟨⟨q,a,b⟩,l⟩:=h
 exact⟨⟨q,k _ _ a,k _ _ b⟩,l⟩
def cV(e f:Int × List Int):Bool:=decide (e.1=f.1) || bp e.2 f.2 || bp f.2 e.2
def wx:Sp:=λvs H Q _=>∃ (a b:Addr) (e f:Int × List Int),vs=[.ref a,.ref b]/\gw H a e.1 e.2/\gw H b f.1 f.2/\∀ H',af H H'->Q (.bl (cV e f)) H'
theorem Bd (T:Txt K mg t):bi P w K mg base "collide" 2 t.o0 t.nK ["one", "other"] wx:=by
 refine⟨T.BT,T.vd.kp,T.DL,T.vd.okQ w5 (λvs H Q E h=>by obtain⟨a,b,x,y,rfl,_⟩:=h; rfl) λcdv A outer s H vs Q E hr h=>?_⟩
 obtain⟨a,b,⟨s1,r1⟩,⟨s2,r2⟩,rfl,⟨⟨q1,ha,hq1⟩,_⟩,⟨⟨q2,hb,hq2⟩,_⟩,k⟩:=h
 dsimp only at ha hq1 hb hq2
 have hu:=hr.units
 refine⟨_,(av (aT (iV (dj (du (K:=K) rfl hu) (be (bh (K:=K) rfl) (ab 0) aB (λ_ _=>rfl)) (be (bh (K:=K) rfl) (ab 1) aB (λ_ _=>rfl)) (bf _)) (iV (aX (s0 T) hr (ae (be (bh (K:=K) rfl) (ab 0) aB (λ_ _=>rfl)) (ae (be (bh (K:=K) rfl) (ab 1) aB (λ_ _=>rfl)) ag))) (cQ (aX (s0 T) hr (ae (be (bh (K:=K) rfl) (ab 1) aB (λ_ _=>rfl)) (ae (be (bh (K:=K) rfl) (ab 0) aB (λ_ _=>rfl)) ag)))))))),?_⟩
 refine⟨_,_,.inr (.of ha),bW (j:=0) rfl,?_⟩
 refine⟨_,_,.inr (.of hb),bW (j:=0) rfl,?_⟩
 refine aG (λz=>?_) (λz=>?_)
 ·refine bu (k H (af.refl _)) ?_
  have z:decide (s1=s2)=true:=z
  show (decide (s1=s2) || bp r1 r2 || bp r2 r1)=true
  rw[z]; rfl
 have z : ¬ decide (s1=s2)=true:=z
 refine⟨_,_,.inr (.of ha),bW (j:=1) rfl,?_⟩
 refine⟨_,_,.inr (.of hb),bW (j:=1) rfl,?_⟩
 refine⟨q1,q2,r1,r2,rfl,.of hq1,.of hq2,λH1 k1=>?_⟩
 refine aG (λy=>?_) (λy=>?_)
 ·refine bu (k H1 k1) ?_
  have y:bp r1 r2=true:=y
  show (decide (s1=s2) || bp r1 r2 || bp r2 r1)=true
  rw[y]; simp
 have y : ¬ bp r1 r2=true:=y
 refine⟨_,_,.inr (.of (k1 _ _ hb)),bW (j:=1) rfl,?_⟩
 refine⟨_,_,.inr (.of (k1 _ _ ha)),bW (j:=1) rfl,?_⟩
 refine⟨q2,q1,r2,r1,rfl,.of (k1 _ _ hq2),.of (k1 _ _ hq1),λH2 k2=>?_⟩
 refine bu (k H2 (k1.trans k2)) ?_
 show (decide (s1=s2) || bp r1 r2 || bp r2 r1)=bp r2 r1
 simp at z y
 simp[z,y]
structure Es (es:List (Int × List Int)):Prop where
 sg : ∀ e∈es,Sg e.1/\1<=e.2.length/\e.2.length<=6/\∀ b∈e.2,0<=b/\b<=255
 pw:es.Pairwise λe f=>cV e f=false
 l:es.length<=64
theorem CP(e f:Int × List Int):cV e f=cV f e:=by
 unfold cV
 rw[show decide (e.1=f.1)=decide (f.1=e.1) by simp[eq_comm],Bool.or_assoc,Bool.or_assoc,Bool.or_comm (bp e.2 f.2)]
theorem Es.two{es:List (Int × List Int)}(h:Es es){e f:Int × List Int}(he:e∈es)(hf:f∈es):e=f\/cV e f=false:=by
 obtain⟨i,hi,rfl⟩:=List.mem_iff_getElem.mp he
 obtain⟨j,hj,rfl⟩:=List.mem_iff_getElem.mp hf
 rcases Nat.lt_trichotomy i j with c | c | c
 ·exact .inr (List.pairwise_iff_getElem.mp h.pw i j hi hj c)
 ·subst c; exact .inl rfl
 ·rw[CP]; exact .inr (List.pairwise_iff_getElem.mp h.pw j i hj hi c)
def pE(H:Hp)(ps:List Addr)(es:List (Int × List Int)):Prop:=au (λa e=>gw H a e.1 e.2) ps es
def wd(K:PySem.W.Frag):Sp:=λvs H Q _=>∃ (q:Addr) (r:List Int),vs=[.ref q]/\H q=some (.lst (r.map V.int))/\(∀ b∈r,0<=b/\b<=255)/\r.length<=1000/\∀ H',af H H'->Q (.bl true) H'
theorem A8 (T:Txt K mg t):bi P w K mg base "is_row" 3 t.oU t.nA ["thing"] (wd K):=by
 refine⟨T.BL,T.uW.kp,T.DF,T.uW.okQ wW (λvs H Q E h=>by obtain⟨q,r,rfl,_⟩:=h; rfl) λcdv A outer s H vs Q E hr h=>?_⟩
 obtain⟨q,r,rfl,hq,hb,hl,k⟩:=h
 refine⟨_,(av (aT (dk (bj (jg (K:=K) rfl) T.n_isinstance PyProof.Rows.boot_isinstance (ae (ab 0) (ae (iZ rfl T.n_list PyProof.Rows.boot_list) ag))) (cQ (bj (ug (K:=K) rfl rfl) T.n_all PyProof.Rows.boot_all (ae (fS rfl (cg.of (fns:=(ao fN).names) (N:=["thing"]) (Nc:=["each"]) (nv:=1) (caps:=[]) rfl rfl (by decide +kernel)) (dD (K:=K) rfl (ab 0)) (λ_ _ _ _=>(aE (i:=0) (show List.Nodup (["each"]:List Str) by decide +kernel) rfl (Or.inl rfl) (Or.inr rfl))) (λ_ _ _ _=>fP) (λ_ _ _ _=>(aX (Bb T) hr (ae (ab 0) ag)))) ag)))))),?_⟩
 refine⟨_,_,.lst hq,by with_unfolding_all rfl,?_⟩
 refine dU ?_
 refine⟨q,rfl,⟨_,.of hq⟩,nZ ((r.map λ_=>true).map V.bl) (by simp) (.of hq) (dg (by rw[List.length_map]; omega)) (λi x y H4 N hx hy s4 hN=>?_) λp3 H3 g3=>?_⟩
 ·obtain⟨o,ho,rfl⟩:=mF hx
  rw[List.getElem?_map,List.getElem?_map,ho]at hy
  cases hy
  have:=hb o (List.mem_of_getElem? ho)
  exact⟨_,rfl,.int _,bu (hN _ (af.refl _)) (by simp[bT]; omega)⟩
 refine⟨_,g3.lst,?_⟩
 exact bu (k H3 g3.sm) (by simp)
def ww(K:PySem.W.Frag):Sp:=λvs H Q _=>∃ (p:Addr) (e:Int × List Int),vs=[.ref p]/\gw H p e.1 e.2/\Sg e.1/\(∀ b∈e.2,0<=b/\b<=255)/\∀ H',af H H'->Q (.bl true) H'
theorem Ba (T:Txt K mg t):bi P w K mg base "is_entry" 4 t.oX t.nH ["thing"] (ww K):=by
 refine⟨T.BO,T.uZ.kp,T.DI,T.uZ.okQ wZ (λvs H Q E h=>by obtain⟨p,e,rfl,_⟩:=h; rfl) λcdv A outer s H vs Q E hr h=>?_⟩
 obtain⟨p,⟨sg,r⟩,rfl,⟨⟨q,hp,hq⟩,l1,l6⟩,hs,hb,k⟩:=h
 dsimp only at hp hq l1 l6 hs hb
 have hu:=hr.units
 refine⟨_,(aw (ca (i3 (jM (fQ (ic (bj (jg (K:=K) rfl) T.n_isinstance PyProof.Rows.boot_isinstance (ae (ab 0) (ae (iZ rfl T.n_tuple PyProof.Rows.boot_tuple) ag))))) (lK (bJ (gb (K:=K) rfl hu) (bj (cz (K:=K) rfl) T.n_len PySem.boot_len (ae (ab 0) ag)) aB (bf _))))) (av (aT fT)) bZ)
  (av (aT (dk (aX (A6 T) hr (ae (be (bh (K:=K) rfl) (ab 0) aB (λ_ _=>rfl)) ag)) (dk (aX (A8 T) hr (ae (be (bh (K:=K) rfl) (ab 0) aB (λ_ _=>rfl)) ag)) (cQ (iW dt dt aB (bj (cz (K:=K) rfl) T.n_len PySem.boot_len (ae (be (bh (K:=K) rfl) (ab 0) aB (λ_ _=>rfl)) ag)) (dS T.Df)))))))),?_⟩
 refine⟨_,_,.tup hp,by with_unfolding_all rfl,?_⟩
 refine aG (λz=>absurd z (by decide)) (λ_=>?_)
 refine⟨_,.inr (.of hp),?_⟩
 refine⟨_,_,.inr (.of hp),bW (j:=0) rfl,?_⟩
 refine⟨_,rfl,.int _,?_⟩
 refine aG (λ_=>?_) (λz=>absurd ((wL sg).mpr hs) z)
 refine⟨_,_,.inr (.of hp),bW (j:=1) rfl,?_⟩
 refine⟨q,r,rfl,hq,hb,by omega,λH1 s1=>?_⟩
 refine dU ?_
 refine⟨_,_,.inr (.of (s1 _ _ hp)),bW (j:=1) rfl,?_⟩
 refine⟨_,.inl (.of (s1 _ _ hq)),?_⟩
 refine aG (λz=>?_) (λz=>?_)
 ·exact bu (k H1 s1) (by rw[List.length_map]; simp; omega)
 ·exact absurd (show decide ((1:Int)<=((r.map V.int).length:Int))=true by rw[List.length_map]; simp; omega) z
def wy:Sp:=λvs H Q _=>∃ (a:Addr) (ps:List Addr) (es:List (Int × List Int)),vs=[.ref a]/\H a=some (.lst (ps.map V.ref))/\pE H ps es/\Es es/\∀ H',af H H'->Q .non H'
theorem CB(xs:List V)(k:Nat):cy xs none (some (k:Int))=xs.take k:=t5 xs k
theorem jJ{qs:List Addr}{i:Nat}{x:V}(h:(qs.map V.ref)[i]? = some x) : ∃ q,qs[i]? = some q/\x=.ref q:=by
 rw[List.getElem?_map]at h
 obtain⟨q,hq,rfl⟩:=Option.map_eq_some_iff.mp h
 exact⟨q,hq,rfl⟩
theorem Be (T:Txt K mg t):bi P w K mg base "check_table" 5 t.o4 t.nL ["rows"] wy:=by
 refine⟨T.BU,T.ve.kp,T.DM,T.ve.okQ iT (λvs H Q E h=>by obtain⟨a,ps,es,rfl,_⟩:=h; rfl) λcdv A outer s H vs Q E hr h=>?_⟩
 obtain⟨a,ps,es,rfl,ha,en,ok,k⟩:=h
 have hu:=hr.units
 refine⟨_,(aw (ca (bJ mM (bj (cz (K:=K) rfl) T.n_len PySem.boot_len (ae (ab 0) ag)) (dS T.De) (bf _)) (av lR) bZ)
  (av (bB PassesOwn.never rfl (lV (K:=K) rfl rfl T.n_enumerate (ae (ab 0) ag)) (cO (K:=K) rfl rfl (bn (aE (i:=1) iT.nd rfl (.inl rfl)) (bn (aE (i:=2) iT.nd rfl (.inl rfl)) cN))) (aw (ca (fQ (ic (aX (Ba T) hr (ae (ab 2) ag)))) (av lR) bZ)
  (av (bB PassesOwn.never rfl (lV (K:=K) rfl rfl T.n_enumerate (ae (cP (dH (K:=K) rfl) (ab 0) dC (cD (ab 1))) ag)) (cO (K:=K) rfl rfl (bn (aE (i:=3) iT.nd rfl (.inl rfl)) (bn (aE (i:=4) iT.nd rfl (.inl rfl)) cN))) (av (ca (ic (aX (Bd T) hr (ae (ab 4) (ae (ab 2) ag)))) (av lR) bZ)))))))),?_⟩
 have lp:ps.length=es.length:=en.1
 have l64:=ok.l
 refine⟨_,.inl (.of ha),?_⟩
 refine aG (λz=>?_) (λ_=>?_)
 ·have z:((ps.map V.ref).length:Int) > 64:=of_decide_eq_true z
  rw[List.length_map]at z
  omega
 refine⟨a,_,rfl,.of ha,tG (K:=K) (a:=a) (xs:=ps.map V.ref) (λi σ H'=>af H H'/\∃ v1 v2 v3 v4,σ=[some (.ref a),v1,v2,v3,v4]) ⟨af.refl _,_,_,_,_,rfl⟩ (λi σ H' _ z=>z.1.seq (.of ha)) ?_ ?_⟩
 ·rintro i x p σ H2 H3 hx ⟨s2,v1,v2,v3,v4,rfl⟩ g3
  obtain⟨px,hpx,rfl⟩:=jJ hx
  obtain⟨e,he,ee⟩:=en.right hpx
  refine⟨p,_,rfl,g3.tup,rfl,_,_,rfl,_,_,rfl,rfl,?_⟩
  have s3:=s2.trans g3.sm
  obtain⟨k1,k2,k3,k4⟩:=ok.sg e (List.mem_of_getElem? he)
  refine⟨px,e,rfl,ee.mono s3,k1,k4,λH4 s4=>?_⟩
  refine aG (λz=>absurd (show (!true)=true from z) (by decide)) (λ_=>?_)
  have s04:=s3.trans s4
  refine⟨_,rfl,_,s04.seq (.of ha),λp1 H5 g5=>?_⟩
  rw[CB]at g5
  have s05:=s04.trans g5.sm
  refine⟨p1,_,rfl,g5.lst,tG (K:=K) (a:=p1) (xs:=(ps.map V.ref).take i) (λj σ H'=>af H5 H'/\∃ v3 v4,σ=[some (.ref a),some (.int (i:Int)),some (.ref px),v3,v4]) ⟨af.refl _,_,_,rfl⟩ (λi σ H' _ z=>z.1.seq g5.lst) ?_ ?_⟩
  ·rintro j u pj σ H6 H7 hju ⟨s6,v3,v4,rfl⟩ g7
   have hji:j < i:=by have:=(List.getElem?_eq_some_iff.mp hju).1; rw[List.length_take]at this; omega
   rw[List.getElem?_take_of_lt hji]at hju
   obtain⟨pu,hpu,rfl⟩:=jJ hju
   obtain⟨f,hf,ef⟩:=en.right hpu
   refine⟨pj,_,rfl,g7.tup,rfl,_,_,rfl,_,_,rfl,rfl,?_⟩
   have s07:=s05.trans (s6.trans g7.sm)
   refine⟨pu,px,f,e,rfl,ef.mono s07,ee.mono s07,λH8 s8=>?_⟩
   have nc:cV f e=false:=by
    obtain⟨a1,e1⟩:=List.getElem?_eq_some_iff.mp hf
    obtain⟨a2,e2⟩:=List.getElem?_eq_some_iff.mp he
    rw[<- e1,<- e2]
    exact List.pairwise_iff_getElem.mp ok.pw j i a1 a2 hji
   refine aG (λz=>absurd (show cV f e=true from z) (by rw[nc]; decide)) (λ_=>?_)
   exact⟨s6.trans (g7.sm.trans s8),_,_,rfl⟩
  ·rintro σ H6 ⟨s6,v3,v4,rfl⟩
   exact⟨s05.trans s6,_,_,_,_,rfl⟩
 ·rintro σ H2 ⟨s2,_⟩
  exact k H2 s2
structure Ft where
 dx:Addr
 d1:Addr
 d2:Addr
 d3:Addr
def bN(r:List Int):List ak:=r.map Sum.inl
theorem sC(r:List Int):r.map V.int=(bN r).map kV:=by
 unfold bN
 rw[List.map_map]; rfl
theorem sH{r s:List Int}(h:bN r=bN s):r=s:=by
 unfold bN at h
 induction r generalizing s with
 | nil=>cases s with
  | nil=>rfl
  | cons _ _=>cases h
 | cons x r ih=>cases s with
  | nil=>cases h
  | cons y s=>simp at h; rw[h.1,ih (by simpa using h.2)]
structure Kv (H:Hp) (k1:List (ak × V)) (k2 k3:List (List ak × V)) (es:List (Int × List Int)):Prop where
 a : ∀ e∈es,∃ q,aJ k1 (.inl e.1)=some (.ref q)/\H q=some (.tup (e.2.map V.int))
 b : ∀ e∈es,aJ k2 (bN e.2)=some (.int e.1)
 b' : ∀ r:List Int,(∀ e∈es,e.2≠r)->aJ k2 (bN r)=none
 c : ∀ e∈es,∀ m,m<=e.2.length->∃ q ys,aJ k3 (bN (e.2.take m))=some (.ref q)/\H q=some (.tup ys)
 d:k1.map (λx=>x.1)=es.map λe=>Sum.inl e.1
structure Tt (t:Adr) (H:Hp) (a:Addr) (f:Ft) (es:List (Int × List Int)) (n:Nat):Prop where
 o:H a=some (.ins t.bF f.dx [("row_by_sign",.ref f.d1),("sign_by_row",.ref f.d2),("rest_by_row",.ref f.d3)])
 k : ∃ k1 k2 k3,H f.d1=some (.dK k1)/\H f.d2=some (.dT k2)/\H f.d3=some (.dT k3)/\k1.length<=n/\k2.length<=n/\k3.length<=n/\Kv H k1 k2 k3 es
 ne:f.d2≠f.d3
variable {H H':Hp}{a:Addr}{f:Ft}{es:List (Int × List Int)}{n:Nat}
theorem Kv.mono{k1:List (ak × V)}{k2 k3:List (List ak × V)}(h:Kv H k1 k2 k3 es)(s : ∀ q xs,H q=some (.tup xs)->H' q=some (.tup xs)):Kv H' k1 k2 k3 es:=by
 refine⟨λe he=>?_,h.b,h.b',λe he m hm=>?_,h.d⟩
 ·obtain⟨q,x,y⟩:=h.a e he
  exact⟨q,x,s _ _ y⟩
 ·obtain⟨q,ys,x,y⟩:=h.c e he m hm
  exact⟨q,ys,x,s _ _ y⟩
theorem Tt.mono(h:Tt t H a f es n)(s:af H H'):Tt t H' a f es n:=by
 obtain⟨o,⟨k1,k2,k3,a1,a2,a3,l1,l2,l3,kv⟩,ne⟩:=h
 exact⟨s _ _ o,⟨k1,k2,k3,s _ _ a1,s _ _ a2,s _ _ a3,l1,l2,l3,kv.mono λq xs e=>s _ _ e⟩,ne⟩
theorem ax{c d:Addr}{u v:HO}(h:H c=some u)(k:H d=some v)(n:u≠v):c≠d:=λz=>by rw[z,k]at h; exact n (Option.some.inj h).symm
def cq(f:Ft)(H H':Hp):Prop:=∀ c u,c≠f.d1->c≠f.d2->c≠f.d3->H c=some u->H' c=some u
theorem cq.trans{H H1 H2:Hp}(h:cq f H H1)(h':cq f H1 H2):cq f H H2:=λc u n1 n2 n3 e=>h' c u n1 n2 n3 (h c u n1 n2 n3 e)
theorem cq.of{H H1:Hp}(h:af H H1):cq f H H1:=λc u _ _ _ e=>h c u e
theorem Tt.tup{q:Addr}{xs:List V}(h:Tt t H a f es n)(hq:H q=some (.tup xs))(k:cq f H H'):H' q=some (.tup xs):=by
 obtain⟨o,⟨k1,k2,k3,a1,a2,a3,_⟩,ne⟩:=h
 exact k _ _ (ax hq a1 (by intro z; cases z)) (ax hq a2 (by intro z; cases z)) (ax hq a3 (by intro z; cases z)) hq
theorem kU{kvs:List (ak × V)}{k:ak}(h:k∉kvs.map λx=>x.1):aJ kvs k=none:=by
 unfold aJ
 rw[Option.map_eq_none_iff,List.find?_eq_none]
 intro x hx z
 exact h (List.mem_map.mpr ⟨x,hx,of_decide_eq_true z⟩)
def wv(t:Adr):Sp:=λvs H Q _=>∃ (a:Addr) (f:Ft) (q:Addr) (n:Nat) (s:Int) (r:List Int) (es:List (Int × List Int)),vs=[.ref a,.int s,.ref q]/\Tt t H a f es n/\H q=some (.tup (r.map V.int))/\r.length<=6/\n<=1000/\(∀ e∈es,e.1≠s/\e.2≠r) /\
 ∀ H',Tt t H' a f (es++[(s,r)]) (n+9)->cq f H H'->Q .non H'
theorem Bj (T:Txt K mg t):kQ P w K mg base t.bF "enter" 1 t.ph t.nR ["self", "sign", "row"] (wv t):=by
 refine⟨T.eM,T.zD,T.DW,T.Ei.okQ qD (λvs H Q E h=>by obtain⟨a,f,q,n,s,r,es,rfl,_⟩:=h; rfl) λcdv A outer s H vs Q E hr h=>?_⟩
 obtain⟨a,f,q,n,sg,r,es,rfl,tb,hq,lr,ln,new,k⟩:=h
 have hu:=hr.units
 obtain⟨o,⟨k1,k2,k3,a1,a2,a3,l1,l2,l3,kv⟩,ne⟩:=id tb
 refine⟨_,(aw (iX hu (jQ (K:=K) rfl (ab 0)) (ab 1) (ab 2))
  (aw (iX hu (jQ (K:=K) rfl (ab 0)) (ab 2) (ab 1))
  (av (bB PassesOwn.never rfl (fR rfl T.n_range (ae (di (dI (K:=K) rfl) (bj (cz (K:=K) rfl) T.n_len PySem.boot_len (ae (ab 2) ag)) aB) ag)) (aE (i:=3) qD.nd rfl (.inl rfl)) (av (iX hu (jQ (K:=K) rfl (ab 0)) (cP (tj (K:=K) rfl) (ab 2) dC (cD (ab 3))) (cP (tj (K:=K) rfl) (ab 2) (cD (ab 3)) dC))))))),?_⟩
 have n12:f.d1≠f.d2:=ax a1 a2 (by intro z; cases z)
 have n13:f.d1≠f.d3:=ax a1 a3 (by intro z; cases z)
 have na1:a≠f.d1:=ax o a1 (by intro z; cases z)
 have na2:a≠f.d2:=ax o a2 (by intro z; cases z)
 have na3:a≠f.d3:=ax o a3 (by intro z; cases z)
 refine⟨a,_,f.dx,_,_,rfl,o,T.eM,T.ml,rfl,?_⟩
 refine⟨f.d1,_,rfl,dN.k (k:=.inl sg) a1 (dP (by omega)),?_⟩
 obtain⟨H1,e1⟩ : ∃ H1,H1=upd H f.d1 (.dK (aW k1 (.inl sg) (.ref q))):=⟨_,rfl⟩
 rw[<- e1]
 have o1:cq f H H1:=λc u m1 m2 m3 e=>by rw[e1,aj m1]; exact e
 have b1:H1 f.d1=some (.dK (aW k1 (.inl sg) (.ref q))):=by rw[e1,aN]
 have b2:H1 f.d2=some (.dT k2):=by rw[e1,aj n12.symm]; exact a2
 have b3:H1 f.d3=some (.dT k3):=by rw[e1,aj n13.symm]; exact a3
 clear e1
 refine⟨a,_,f.dx,_,_,rfl,o1 _ _ na1 na2 na3 o,T.eM,T.rX,rfl,?_⟩
 have hq1:=tb.tup hq o1
 refine⟨f.d2,_,rfl,dN.t (k:=bN r) b2 (by rw[<- sC]; exact hq1) (dP (by omega)),?_⟩
 obtain⟨H2,e2⟩ : ∃ H2,H2=upd H1 f.d2 (.dT (aW k2 (bN r) (.int sg))):=⟨_,rfl⟩
 rw[<- e2]
 have o2:cq f H1 H2:=λc u m1 m2 m3 e=>by rw[e2,aj m2]; exact e
 have c1:H2 f.d1=some (.dK (aW k1 (.inl sg) (.ref q))):=by rw[e2,aj n12]; exact b1
 have c2:H2 f.d2=some (.dT (aW k2 (bN r) (.int sg))):=by rw[e2,aN]
 have c3:H2 f.d3=some (.dT k3):=by rw[e2,aj ne.symm]; exact b3
 clear e2
 have o02:=o1.trans o2
 have hq2:=tb.tup hq o02
 refine⟨_,.inr (.of hq2),?_⟩
 refine⟨_,rfl,by rw[List.length_map]; omega,by rw[List.length_map]; omega,?_⟩
 rw[List.length_map]
 refine iA (lo:=0) (n:=((r.length:Int)+1).toNat) (λi σ H'=>cq f H H'/\H' f.d1=some (.dK (aW k1 (.inl sg) (.ref q)))/\H' f.d2=some (.dT (aW k2 (bN r) (.int sg)))/\(∃ k3',H' f.d3=some (.dT k3')/\k3'.length<=n+i/\(∀ m,m < i->∃ q ys,aJ k3' (bN (r.take m))=some (.ref q)/\H' q=some (.tup ys))/\(∀ e∈es,∀ m,m<=e.2.length->∃ q ys,aJ k3' (bN (e.2.take m))=some (.ref q)/\H' q=some (.tup ys)))/\∃ v3,σ=[some (.ref a),some (.int sg),some (.ref q),v3]) ⟨o02,c1,c2,⟨k3,c3,by omega,(λm h=>absurd h (by omega)),λe he m hm=>?_⟩,_,rfl⟩ ?_ ?_
 ·obtain⟨q',ys,x,y⟩:=kv.c e he m hm
  exact⟨q',ys,x,tb.tup y o02⟩
 ·rintro i σ H3 hi ⟨o3,d1,d2,⟨k3',d3,l3',new3,old3⟩,v3,rfl⟩
  have hq3:=tb.tup hq o3
  refine⟨_,rfl,_,.of hq3,hq3,λp4 H4 s4 h4=>?_⟩
  refine⟨a,_,f.dx,_,_,rfl,s4 _ _ (o3 _ _ na1 na2 na3 o),T.eM,T.rY,rfl,?_⟩
  refine⟨_,rfl,_,.of (s4 _ _ hq3),s4 _ _ hq3,λp5 H5 s5 h5=>?_⟩
  rw[Int.zero_add,ft,sC]at h5
  have s35:=s4.trans s5
  refine⟨f.d3,_,rfl,dN.t (k:=bN (r.take i)) (s35 _ _ d3) h5 (dP (by omega)),?_⟩
  obtain⟨H6,e6⟩ : ∃ H6,H6=upd H5 f.d3 (.dT (aW k3' (bN (r.take i)) (.ref p4))):=⟨_,rfl⟩
  rw[<- e6]
  have t6 : ∀ c u,c≠f.d3->H3 c=some u->H6 c=some u:=λc u m e=>by rw[e6,aj m]; exact s35 _ _ e
  have n43:p4≠f.d3:=ax (s5 _ _ h4) (s35 _ _ d3) (by intro z; cases z)
  have h46:H6 p4=some (.tup (cy (r.map V.int) (some (0+(i:Int))) none)):=by rw[e6,aj n43]; exact s5 _ _ h4
  have b6:H6 f.d3=some (.dT (aW k3' (bN (r.take i)) (.ref p4))):=by rw[e6,aN]
  clear e6
  have keep : ∀ kk,(∃ q ys,aJ k3' kk=some (.ref q)/\H3 q=some (.tup ys))->∃ q ys,aJ (aW k3' (bN (r.take i)) (.ref p4)) kk=some (.ref q)/\H6 q=some (.tup ys):=by
   rintro kk ⟨q',ys,x,y⟩
   rw[dz]
   by_cases c:kk=bN (r.take i)
   ·rw[if_pos c]; exact⟨p4,_,rfl,h46⟩
   ·rw[if_neg c]; exact⟨q',ys,x,t6 _ _ (ax y d3 (by intro z; cases z)) y⟩
  refine⟨λc u m1 m2 m3 e=>t6 _ _ m3 (o3 c u m1 m2 m3 e),t6 _ _ n13 d1,t6 _ _ ne d2,⟨_,b6,?_,λm hm=>?_,λe he m hm=>keep _ (old3 e he m hm)⟩,_,rfl⟩
  ·have:=fW k3' (bN (r.take i)) (.ref p4); omega
  ·by_cases c:m < i
   ·exact keep _ (new3 m c)
   ·obtain rfl:m=i:=by omega
    refine⟨p4,_,?_,h46⟩
    rw[dz,if_pos rfl]
 ·rintro σ H3 ⟨o3,d1,d2,⟨k3',d3,l3',new3,old3⟩,_⟩
  refine k _ ⟨o3 _ _ na1 na2 na3 o,⟨_,_,k3',d1,d2,d3,?_,?_,by omega,?_⟩,ne⟩ o3
  ·have:=fW k1 (.inl sg) (.ref q); omega
  ·have:=fW k2 (bN r) (.int sg); omega
  ·refine⟨λe he=>?_,λe he=>?_,λr' hr'=>?_,λe he m hm=>?_,?_⟩
   ·rcases List.mem_append.mp he with he | he
    ·rw[dz,if_neg (λz=>(new e he).1 (Sum.inl.inj z))]
     obtain⟨q',x,y⟩:=kv.a e he
     exact⟨q',x,tb.tup y o3⟩
    ·rw[List.mem_singleton.mp he,dz,if_pos rfl]
     exact⟨q,rfl,tb.tup hq o3⟩
   ·rcases List.mem_append.mp he with he | he
    ·rw[dz,if_neg (λz=>(new e he).2 (sH z))]
     exact kv.b e he
    ·rw[List.mem_singleton.mp he,dz,if_pos rfl]
   ·rw[dz,if_neg (λz=>hr' (sg,r) (by simp) (sH z).symm)]
    exact kv.b' r' λe he=>hr' e (by simp[he])
   ·rcases List.mem_append.mp he with he | he
    ·exact old3 e he m hm
    ·rw[List.mem_singleton.mp he]at hm ⊢
     exact new3 m (by dsimp only at hm; omega)
   ·have no:aJ k1 (.inl sg)=none:=by
     refine kU λz=>?_
     rw[kv.d]at z
     obtain⟨e,he,ee⟩:=List.mem_map.mp z
     exact (new e he).1 (Sum.inl.inj ee)
    rw[q9 _ no,List.map_append,List.map_append,kv.d]
    rfl
def qw(t:Adr):Sp:=λvs H Q _=>∃ (a dx p:Addr) (ps:List Addr) (es:List (Int × List Int)),vs=[.ref a,.ref p]/\H a=some (.ins t.bF dx [])/\H p=some (.lst (ps.map V.ref))/\pE H ps es/\Es es /\
 ∀ f H',Kp a H H'->Tt t H' a f es 1000->Q .non H'
theorem Tt.up{H:Hp}{a:Addr}{f:Ft}{es:List (Int × List Int)}{n m:Nat}(h:Tt t H a f es n)(hm:n<=m):Tt t H a f es m:=by
 obtain⟨o,⟨k1,k2,k3,a1,a2,a3,l1,l2,l3,kv⟩,ne⟩:=h
 exact⟨o,⟨k1,k2,k3,a1,a2,a3,by omega,by omega,by omega,kv⟩,ne⟩
theorem zt (T:Txt K mg t):bw P w K mg base bY 6 t.kL t.ko ["self", "rows"] (qw t):=by
 refine T.Eh.okQ qC (λvs H Q E h=>by obtain⟨a,dx,p,ps,es,rfl,_⟩:=h; rfl) λcdv A outer s H vs Q E hr h=>?_
 obtain⟨a,dx,p,ps,es,rfl,ha,hp,en,ok,kq⟩:=h
 have hu:=hr.units
 refine⟨_,(aw (eC (aX (Be T) hr (ae (ab 1) ag)))
  (aw (lS (K:=K) rfl (ab 0) lX)
  (aw (lS (K:=K) rfl (ab 0) qV)
  (aw (lS (K:=K) rfl (ab 0) qV)
  (av (bB PassesOwn.never rfl (dD (K:=K) rfl (ab 1)) (aE (i:=2) qC.nd rfl (.inl rfl)) (av (eC (xQ (Bj T) hr (ab 0) (ae (be (bh (K:=K) rfl) (ab 2) aB (λ_ _=>rfl)) (ae (dE (kJ (K:=K) rfl) T.n_tuple PyProof.Rows.boot_tuple (ae (be (bh (K:=K) rfl) (ab 2) aB (λ_ _=>rfl)) ag)) ag))))))))))),?_⟩
 refine⟨p,ps,es,rfl,hp,en,ok,λH1 s1=>?_⟩
 refine λd1 H2 g2=>?_
 refine⟨a,_,dx,_,rfl,g2.sm _ _ (s1 _ _ ha),T.eM,T.ml,Nat.lt_of_lt_of_le Nat.zero_lt_one (by decide),?_⟩
 obtain⟨H3,e3⟩ : ∃ H3,H3=upd H2 a (HO.ins t.bF dx (bU "row_by_sign" (.ref d1) [])):=⟨_,rfl⟩
 have a3:H3 a=some (.ins t.bF dx [("row_by_sign",.ref d1)]):=by rw[e3,aN]; rfl
 have k3:Kp a H2 H3:=by rw[e3]; exact Kp.upd
 rw[<- e3]
 clear e3
 refine λd2 H4 g4=>?_
 refine⟨a,_,dx,_,rfl,g4.sm _ _ a3,T.eM,T.rX,Nat.lt_of_lt_of_le (Nat.lt_succ_self 1) (by decide),?_⟩
 obtain⟨H5,e5⟩ : ∃ H5,H5=upd H4 a (HO.ins t.bF dx (bU "sign_by_row" (.ref d2) [("row_by_sign",.ref d1)])):=⟨_,rfl⟩
 have a5:H5 a=some (.ins t.bF dx [("row_by_sign",.ref d1),("sign_by_row",.ref d2)]):=by rw[e5,aN]; rfl
 have k5:Kp a H4 H5:=by rw[e5]; exact Kp.upd
 rw[<- e5]
 clear e5
 refine λd3 H6 g6=>?_
 refine⟨a,_,dx,_,rfl,g6.sm _ _ a5,T.eM,T.rY,Nat.lt_of_lt_of_le (Nat.lt_succ_self 2) (by decide),?_⟩
 obtain⟨H7,e7⟩ : ∃ H7,H7=upd H6 a (HO.ins t.bF dx (bU "rest_by_row" (.ref d3) [("row_by_sign",.ref d1),("sign_by_row",.ref d2)])):=⟨_,rfl⟩
 have a7:H7 a=some (.ins t.bF dx [("row_by_sign",.ref d1),("sign_by_row",.ref d2),("rest_by_row",.ref d3)]):=by rw[e7,aN]; rfl
 have k7:Kp a H6 H7:=by rw[e7]; exact Kp.upd
 rw[<- e7]
 clear e7
 have n1:d1≠a:=(bD (s1 _ _ ha) g2.nw).symm
 have n2:d2≠a:=(bD a3 g4.nw).symm
 have n3:d3≠a:=(bD a5 g6.nw).symm
 have k35:Kp a H3 H5:=(Kp.of g4.sm).trans k5
 have k57:Kp a H5 H7:=(Kp.of g6.sm).trans k7
 have k37:Kp a H3 H7:=k35.trans k57
 have k17:Kp a H1 H7:=(Kp.of g2.sm).trans (k3.trans k37)
 have k07:Kp a H H7:=(Kp.of s1).trans k17
 have b2:H5 d2=some (.dT []):=k5 _ _ n2 g4.at_
 have n23:d2≠d3:=bD b2 g6.nw
 have tb:Tt t H7 a ⟨dx,d1,d2,d3⟩ [] 0:=⟨a7,⟨[],[],[],k37 _ _ n1 (k3 _ _ n1 g2.at_),k57 _ _ n2 b2,k7 _ _ n3 g6.at_,Nat.le_refl _,Nat.le_refl _,Nat.le_refl _,⟨(λe h=>nomatch h),(λe h=>nomatch h),(λr _=>rfl),(λe h=>nomatch h),rfl⟩⟩,n23⟩
 have f1:H d1=none:=s1.free g2.nw
 have f2 : ∀ c u,H c=some u->c≠a->c≠d2:=λc u e n=>bD (k3 _ _ n (g2.sm _ _ (s1 _ _ e))) g4.nw
 have f3 : ∀ c u,H c=some u->c≠a->c≠d3:=λc u e n=>bD (k35 _ _ n (k3 _ _ n (g2.sm _ _ (s1 _ _ e)))) g6.nw
 have lx:=en.1
 have l64:=ok.l
 have kpo : ∀ H',cq ⟨dx,d1,d2,d3⟩ H7 H'->Kp a H H':=λH' o c u n e=>o c u (bD e f1) (f2 c u e n) (f3 c u e n) (k07 c u n e)
 have px : ∀ H',cq ⟨dx,d1,d2,d3⟩ H7 H'->H' p=some (.lst (ps.map V.ref)):=λH' o=>kpo H' o _ _ (ax hp ha (by intro z; cases z)) hp
 refine⟨p,rfl,⟨_,.of (px H7 (cq.of (af.refl _)))⟩,fk (K:=K) (a:=p) (xs:=ps.map V.ref) (λi σ H'=>Tt t H' a ⟨dx,d1,d2,d3⟩ (es.take i) (i*9)/\cq ⟨dx,d1,d2,d3⟩ H7 H'/\∃ v2,σ=[some (.ref a),some (.ref p),v2]) ⟨tb.up (by omega),cq.of (af.refl _),_,rfl⟩ (λi σ H' _ z=>.of (px H' z.2.1)) ?_ ?_⟩
 ·rintro i x σ H8 hx ⟨tb8,o8,v2,rfl⟩
  obtain⟨pe,hpe,rfl⟩:=jJ hx
  obtain⟨e,he,⟨q,hq1,hq2⟩,l1,l6⟩:=en.right hpe
  have he8:=kpo _ o8 _ _ (ax hq1 ha (by intro z; cases z)) hq1
  have hq8:=kpo _ o8 _ _ (ax hq2 ha (by intro z; cases z)) hq2
  have hi:i < ps.length:=(List.getElem?_eq_some_iff.mp hpe).1
  refine⟨a,dx,_,rfl,tb8.o,rfl,?_⟩
  refine⟨_,_,.inr (.of he8),bW (j:=0) rfl,?_⟩
  refine⟨_,_,.inr (.of he8),bW (j:=1) rfl,?_⟩
  refine⟨_,.of hq8,λpt H9 g9=>?_⟩
  refine⟨a,⟨dx,d1,d2,d3⟩,pt,i*9,e.1,e.2,es.take i,rfl,tb8.mono g9.sm,g9.at_,l6,by omega,λe' he'=>?_,λHA tA oA=>?_⟩
  ·obtain⟨j,hj,rfl⟩:=List.mem_iff_getElem.mp he'
   obtain⟨a2,e2⟩:=List.getElem?_eq_some_iff.mp he
   rw[List.length_take]at hj
   have nc:=List.pairwise_iff_getElem.mp ok.pw j i (by omega) a2 (by omega)
   rw[e2]at nc
   rw[List.getElem_take]
   unfold cV bp at nc
   refine⟨λz=>?_,λz=>?_⟩
   ·rw[decide_eq_true z]at nc; cases nc
   ·rw[z]at nc; simp at nc
  ·have et:es.take (i+1)=es.take i++[(e.1,e.2)]:=pN he
   rw[et]
   exact⟨tA.up (by omega),o8.trans ((cq.of g9.sm).trans oA),_,rfl⟩
 ·rintro σ H8 ⟨t8,o8,_⟩
  rw[List.length_map,lx,List.take_length]at t8
  exact kq _ _ (kpo _ o8) (t8.up (by omega))
theorem AQ (T:Txt K mg t):uG P w K mg base "TableTongue" t.bF 6 t.kL t.ko ["self", "rows"] [] (qw t):=⟨T.Bs,T.zF,⟨[],T.DV,.nil⟩,zt T⟩
theorem iK : ∀ {kvs:List (ak × V)} {i:Nat} {k:ak} {v:V},(kvs.map λx=>x.1).Nodup->kvs[i]? = some (k,v)->aJ kvs k=some v
 | [],_,_,_,_,h=>by simp at h
 | q :: r,0,k,v,_,h=>by
  simp at h
  subst h
  exact c9 rfl
 | q :: r,i+1,k,v,nd,h=>by
  obtain⟨a,b⟩:=List.nodup_cons.mp nd
  have h:r[i]? = some (k,v):=by simpa using h
  have ne : ¬ q.1=k:=λz=>a (List.mem_map.mpr ⟨(k,v),List.mem_of_getElem? h,z.symm⟩)
  rw[db ne]
  exact iK b h
def wl(t:Adr):Sp:=λvs H Q _=>∃ (a:Addr) (f:Ft) (es:List (Int × List Int)) (n:Nat),vs=[.ref a]/\Tt t H a f es n/\n<=1000/\(es.map λe=>e.1).Nodup/\∀ (p:Addr) (ps:List Addr) H',af H H'->H' p=some (.lst (ps.map V.ref))->au (λq (e:Int × List Int)=>∃ l,H' q=some (.tup [.int e.1,.ref l])/\H' l=some (.lst (e.2.map V.int))) ps es->Q (.ref p) H'
theorem Bi (T:Txt K mg t):kQ P w K mg base t.bF "rows" 1 t.pb t.nQ ["self"] (wl t):=by
 refine⟨T.eM,T.zC,T.DU,T.Eg.okQ w9 (λvs H Q E h=>by obtain⟨a,f,es,n,rfl,_⟩:=h; rfl) λcdv A outer s H vs Q E hr h=>?_⟩
 obtain⟨a,f,es,n,rfl,tt,hn,nd,k⟩:=h
 obtain⟨o,⟨k1,k2,k3,a1,a2,a3,l1,l2,l3,kv⟩,ne⟩:=id tt
 refine⟨_,(av (aT (qN (fS rfl (cg.of (fns:=(ao fO).names) (N:=["self"]) (Nc:=["sign", "row"]) (nv:=2) (caps:=[]) rfl rfl (by decide +kernel)) (jN (jQ (K:=K) rfl (ab 0))) (λ_ _ _ _=>(cO (K:=K) rfl (n:=2) rfl (bn (aE (i:=0) (show List.Nodup (["sign", "row"]:List Str) by decide +kernel) rfl (Or.inl rfl) (Or.inr rfl)) (bn (aE (i:=1) (show List.Nodup (["sign", "row"]:List Str) by decide +kernel) rfl (Or.inl rfl) (Or.inr rfl)) cN)))) (λ_ _ _ _=>fP) (λ_ _ _ _=>(cv (ae (ab 0) (ae (dE (jf (K:=K) rfl) T.n_list PyProof.Rows.boot_list (ae (ab 1) ag)) ag)))))))),?_⟩
 refine⟨f.d1,.dK k1,(λob v z=>by rw[a1]at z; cases z),?_⟩
 refine⟨a,_,f.dx,_,_,rfl,o,T.eM,T.ml,rfl,?_⟩
 refine⟨f.d1,k1,rfl,a1,λob=>?_⟩
 have el:es.length=k1.length:=by have:=congrArg List.length kv.d; rw[List.length_map,List.length_map]at this; exact this.symm
 obtain⟨H1,e1⟩ : ∃ H1,H1=upd H f.d1 (.frz ob (.dK k1)):=⟨_,rfl⟩
 have d1:H1 f.d1=some (.frz ob (.dK k1)):=by rw[e1,aN]
 have b1 : ∀ c u,c≠f.d1->H c=some u->H1 c=some u:=λc u n e=>by rw[e1,aj n]; exact e
 rw[<- e1]
 clear e1
 refine n5 (K:=K) (λi ys H'=>af H1 H'/\i<=k1.length/\∃ ps:List Addr,ys=ps.map V.ref/\au (λq (e:Int × List Int)=>∃ l,H' q=some (.tup [.int e.1,.ref l])/\H' l=some (.lst (e.2.map V.int))) ps (es.take i)) ⟨af.refl _,Nat.zero_le _,[],rfl,au.nil⟩ (λi ys H' hi z=>⟨z.1 _ _ d1,?_⟩) (dg (by omega)) (λi ky v ys H2 H3 N hkv z s23 hN=>?_) λys H2 p H3 z g=>?_
 ·obtain⟨_,_,ps,rfl,al⟩:=z
  have:=al.1
  rw[List.length_take]at this
  rw[List.length_map]
  omega
 ·obtain⟨s2,_,ps,rfl,al⟩:=z
  have hi:i < k1.length:=(List.getElem?_eq_some_iff.mp hkv).1
  obtain⟨e,he⟩ : ∃ e,es[i]? = some e:=⟨_,List.getElem?_eq_getElem (by omega)⟩
  have ek:ky=Sum.inl e.1:=by
   have q1:(k1.map λx=>x.1)[i]? = some ky:=by rw[List.getElem?_map,hkv]; rfl
   rw[kv.d,List.getElem?_map,he]at q1
   exact (Option.some.inj q1).symm
  subst ek
  obtain⟨q,vq,hq⟩:=kv.a e (List.mem_of_getElem? he)
  have ev:v=.ref q:=by
   have nk:(k1.map λx=>x.1).Nodup:=by
    rw[kv.d]
    have nd:=List.pairwise_map.mp nd
    exact List.pairwise_map.mpr (nd.imp λh z=>h (Sum.inl.inj z))
   have:=iK nk hkv
   rw[vq]at this
   exact (Option.some.inj this).symm
  subst ev
  simp only [eZ,if_true]
  have q3:H3 q=some (.tup (e.2.map V.int)):=s23 _ _ (s2 _ _ (b1 _ _ (ax hq a1 (by intro z; cases z)) hq))
  refine⟨_,.inr (.of q3),λl4 H4 g4=>?_⟩
  refine⟨sz rfl,λp5 H5 g5=>hN _ _ ⟨s2.trans (s23.trans (g4.sm.trans g5.sm)),hi,ps++[p5],by rw[List.map_append]; rfl,?_⟩⟩
  rw[List.take_add_one,he]
  refine au.app (al.imp λc e' h=>?_) (au.cons ⟨l4,g5.at_,g5.sm _ _ g4.at_⟩ au.nil)
  obtain⟨l,h,h'⟩:=h
  exact⟨l,g5.sm _ _ (g4.sm _ _ (s23 _ _ h)),g5.sm _ _ (g4.sm _ _ (s23 _ _ h'))⟩
 ·obtain⟨s2,_,ps,rfl,al⟩:=z
  refine⟨⟨ob,g.sm _ _ (s2 _ _ d1)⟩,k p ps _ (λc u e=>?_) ?_ ?_⟩
  ·by_cases n:c=f.d1
   ·subst n
    rw[aN,<- a1,e]
   ·rw[aj n]
    exact g.sm _ _ (s2 _ _ (b1 c u n e))
  ·rw[aj (bD (s2 _ _ d1) g.nw).symm]
   exact g.at_
  ·rw[List.take_of_length_le (by omega)]at al
   refine al.imp λc e h=>?_
   obtain⟨l,h,h'⟩:=h
   exact⟨l,by rw[aj (ax (g.sm _ _ h) (g.sm _ _ (s2 _ _ d1)) (by intro z; cases z))]; exact g.sm _ _ h,by rw[aj (ax (g.sm _ _ h') (g.sm _ _ (s2 _ _ d1)) (by intro z; cases z))]; exact g.sm _ _ h'⟩
def bt(rows:List (List Int))(p:List Int):List Int:=if p∈rows then [] else p
structure kO (H:Hp) (rows PS:List (List Int)) (b:List Int) (ks:List (ak × V)):Prop where
 nd:(ks.map λy=>y.1).Nodup
 int : ∀ y∈ks,∃ x:Int,y.1=.inl x
 yes : ∀ x,b++[x]∈PS->∃ q,aJ ks (.inl x)=some (.ref q)/\H q=some (.tup ((bt rows (b++[x])).map V.int))
 no : ∀ x,b++[x]∉PS->aJ ks (.inl x)=none
 len:ks.length<=PS.length
structure bH (H:Hp) (p:Addr) (rows PS:List (List Int)) (ky:List Int->Prop) (kvs:List (ay × Addr × V)):Prop where
 dq:DQ H p kvs
 key : ∀ b,b∈kvs.map (λe=>e.1) ↔ ky b
 met : ∀ b x,b++[x]∈PS->ky b
 val : ∀ e∈kvs,∃ d ks,e.2.2=.ref d/\H d=some (.dK ks)/\kO H rows PS e.1 ks
 inj : ∀ e∈kvs,∀ e'∈kvs,e.2.2=e'.2.2->e.1=e'.1
theorem kO.mono{H H':Hp}{rows PS:List (List Int)}{b:List Int}{ks:List (ak × V)}(h:kO H rows PS b ks)(s : ∀ q xs,H q=some (.tup xs)->H' q=some (.tup xs)):kO H' rows PS b ks :=
 ⟨h.nd,h.int,λx hx=>let ⟨q,a,b⟩:=h.yes x hx; ⟨q,a,s _ _ b⟩,h.no,h.len⟩
theorem bH.same{H H':Hp}{p:Addr}{rows PS:List (List Int)}{ky:List Int->Prop}{kvs:List (ay × Addr × V)}(h:bH H p rows PS ky kvs)(s:af H H'):bH H' p rows PS ky kvs :=
 ⟨h.dq.same s,h.key,h.met,λe he=>let ⟨d,ks,a,b,c⟩:=h.val e he; ⟨d,ks,a,s _ _ b,c.mono λq xs z=>s _ _ z⟩,h.inj⟩
theorem vk{kvs:List (ay × Addr × V)}{b:List Int}(h:b∉kvs.map λe=>e.1):bq kvs b=none:=by
 unfold bq
 rw[Option.map_eq_none_iff,List.find?_eq_none]
 intro x hx z
 exact h (List.mem_map.mpr ⟨x,hx,of_decide_eq_true z⟩)
theorem eW{kvs:List (ay × Addr × V)}{b:List Int}{v:V}(h:bq kvs b=some v) : ∃ e∈kvs,e.1=b/\e.2.2=v:=by
 unfold bq at h
 obtain⟨e,he,rfl⟩:=Option.map_eq_some_iff.mp h
 exact⟨e,List.mem_of_find?_eq_some he,by have z:=List.find?_some he; exact of_decide_eq_true z,rfl⟩
theorem iM{kvs:List (ay × Addr × V)}{b:List Int}(h:b∈kvs.map λe=>e.1) : ∃ v,bq kvs b=some v:=by
 cases e:bq kvs b with
 | some v=>exact⟨v,rfl⟩
 | none =>
  unfold bq at e
  rw[Option.map_eq_none_iff,List.find?_eq_none]at e
  obtain⟨x,hx,rfl⟩:=List.mem_map.mp h
  exact absurd (decide_eq_true rfl) (e x hx)
theorem qX{kvs:List (ay × Addr × V)}{b:List Int}{q:Addr}{v:V}(h:bq kvs b=none):ci kvs b q v=kvs++[(b,q,v)]:=by
 unfold ci
 rw[h]
 rfl
theorem tN{H H':Hp}{a d:Addr}{kvs:List (ay × Addr × V)}{ks:List (ak × V)}(h:DQ H a kvs)(hd:H d=some (.dK ks))(s : ∀ c,c≠d->H' c=H c):DQ H' a kvs:=by
 obtain⟨⟨xs,ep,h1,h2⟩,k,n,l⟩:=h
 refine⟨⟨xs,ep,?_,h2⟩,λx hx=>?_,n,l⟩
 ·rw[s a (ax h1 hd (by intro z; cases z))]; exact h1
 ·have z:=k x hx
  show H' x.2.1=_
  rw[s _ (ax z hd (by intro z; cases z))]
  exact z
theorem j5(kvs:List (ak × V))(k:ak)(v:V):(k∈(kvs.map λx=>x.1)/\((aW kvs k v).map λx=>x.1)=kvs.map λx=>x.1)\/(k∉(kvs.map λx=>x.1)/\((aW kvs k v).map λx=>x.1)=(kvs.map λx=>x.1)++[k]):=by
 by_cases h:k∈(kvs.map λx=>x.1)
 ·refine .inl ⟨h,?_⟩
  unfold aW
  obtain⟨y,hy,ey⟩:=List.mem_map.mp h
  rw[if_pos (List.any_eq_true.mpr ⟨y,hy,decide_eq_true ey⟩),List.map_map]
  refine List.map_congr_left λy hy=>?_
  show (if y.1=k then (y.1,v) else y).1=y.1
  split <;> rfl
 ·refine .inr ⟨h,?_⟩
  rw[q9 v (kU h),List.map_append]
  rfl
theorem bH.put{H H':Hp}{p d qg:Addr}{rows PS:List (List Int)}{ky:List Int->Prop}{kvs:List (ay × Addr × V)}{b:List Int}{x:Int}{ks:List (ak × V)}(h:bH H p rows PS ky kvs)(hv:bq kvs b=some (.ref d))(hd:H d=some (.dK ks))(hq:H qg=some (.tup ((bt rows (b++[x])).map V.int)))
 (e':H'=upd H d (.dK (aW ks (.inl x) (.ref qg)))):bH H' p rows (PS++[b++[x]]) ky kvs:=by
 have so : ∀ c,c≠d->H' c=H c:=λc n=>by rw[e',aj n]
 have tu : ∀ q xs,H q=some (.tup xs)->H' q=some (.tup xs):=λq xs z=>by rw[so q (ax z hd (by intro z; cases z))]; exact z
 have kb:ky b:=by
  obtain⟨e,he,e1,_⟩:=eW hv
  exact (h.key b).mp (List.mem_map.mpr ⟨e,he,e1⟩)
 refine⟨tN h.dq hd so,h.key,λb' x' hx=>?_,λe he=>?_,h.inj⟩
 ·rcases List.mem_append.mp hx with z | z
  ·exact h.met b' x' z
  ·have z:=List.append_inj_left' (List.mem_singleton.mp z) rfl
   rw[z]; exact kb
 ·obtain⟨d1,ks1,a1,a2,a3⟩:=h.val e he
  by_cases c:d1=d
  ·subst c
   rw[hd]at a2; cases a2
   obtain⟨e0,he0,e1,e2⟩:=eW hv
   have eb:e.1=b:=by rw[<- e1]; exact h.inj e he e0 he0 (a1.trans e2.symm)
   refine⟨d1,_,a1,by rw[e',aN],?_⟩
   rw[eb]at a3 ⊢
   refine⟨?_,λy hy=>?_,λx' hx=>?_,λx' hx=>?_,by have:=fW ks (.inl x) (.ref qg); have:=a3.len; rw[List.length_append]; simp; omega⟩
   ·rcases j5 ks (.inl x) (.ref qg) with ⟨_,z2⟩ | ⟨z,z2⟩
    ·rw[z2]; exact a3.nd
    ·rw[z2]
     refine List.nodup_append.mpr ⟨a3.nd,by simp,λu hu v hv=>?_⟩
     rw[List.mem_singleton.mp hv]
     exact λe=>z (e ▸ hu)
   ·have hm:y.1∈(aW ks (.inl x) (.ref qg)).map λx=>x.1:=List.mem_map.mpr ⟨y,hy,rfl⟩
    have old:y.1∈(ks.map λx=>x.1)->∃ x:Int,y.1=.inl x:=λz=>by
     obtain⟨u,hu,eu⟩:=List.mem_map.mp z
     obtain⟨x,ex⟩:=a3.int u hu
     exact⟨x,eu.symm.trans ex⟩
    rcases j5 ks (.inl x) (.ref qg) with ⟨_,z2⟩ | ⟨_,z2⟩
    ·rw[z2]at hm; exact old hm
    ·rw[z2]at hm
     rcases List.mem_append.mp hm with z | z
     ·exact old z
     ·exact⟨x,List.mem_singleton.mp z⟩
   ·rw[dz]
    by_cases c:(Sum.inl x':ak)=.inl x
    ·rw[if_pos c]
     cases Sum.inl.inj c
     exact⟨qg,rfl,tu _ _ hq⟩
    ·rw[if_neg c]
     have hx:b++[x']∈PS:=by
      rcases List.mem_append.mp hx with z | z
      ·exact z
      ·have z:=List.append_inj_right' (List.mem_singleton.mp z) rfl
       cases z
       exact absurd rfl c
     obtain⟨q,b1,b2⟩:=a3.yes x' hx
     exact⟨q,b1,tu _ _ b2⟩
   ·rw[dz]
    by_cases c:(Sum.inl x':ak)=.inl x
    ·cases Sum.inl.inj c
     exact absurd (List.mem_append_right _ (List.mem_singleton.mpr rfl)) hx
    ·rw[if_neg c]
     exact a3.no x' λz=>hx (List.mem_append_left _ z)
  ·refine⟨d1,ks1,a1,by rw[so d1 c]; exact a2,?_⟩
   have nb:e.1≠b:=λz=>by
    obtain⟨e0,he0,e1,e2⟩:=eW hv
    have nd:=h.dq.nd
    have:e=e0:=by
     have:=List.pairwise_map.mp nd
     obtain⟨i,hi⟩:=List.getElem?_of_mem he
     obtain⟨j,hj⟩:=List.getElem?_of_mem he0
     have l1:=(List.getElem?_eq_some_iff.mp hi).1
     have l2:=(List.getElem?_eq_some_iff.mp hj).1
     have:i=j:=by
      have q1:(kvs.map λe=>e.1)[i]? = some b:=by rw[List.getElem?_map,hi]; exact congrArg some z
      have q2:(kvs.map λe=>e.1)[j]? = some b:=by rw[List.getElem?_map,hj]; exact congrArg some e1
      exact (List.getElem?_inj (by rw[List.length_map]; exact l1) nd).mp (q1.trans q2.symm)
     subst this
     rw[hi]at hj; cases hj; rfl
    subst this
    rw[a1]at e2; cases e2
    exact c rfl
   refine⟨a3.nd,a3.int,λx' hx=>?_,λx' hx=>a3.no x' λz=>hx (List.mem_append_left _ z),by have:=a3.len; rw[List.length_append]; omega⟩
   have hx:e.1++[x']∈PS:=by
    rcases List.mem_append.mp hx with z | z
    ·exact z
    ·exact absurd (List.append_inj_left' (List.mem_singleton.mp z) rfl) nb
   obtain⟨q,b1,b2⟩:=a3.yes x' hx
   exact⟨q,b1,tu _ _ b2⟩
theorem bH.new{H H':Hp}{p dn q:Addr}{rows PS:List (List Int)}{ky:List Int->Prop}{kvs:List (ay × Addr × V)}{b:List Int}(h:bH H p rows PS ky kvs)(nb : ¬ ky b)(hn:H dn=some (.dK []))(nn : ∀ e∈kvs,e.2.2 ≠ .ref dn)
 (dq:DQ H' p (kvs++[(b,q,.ref dn)])) (so : ∀ c,c≠p->H' c=H c):bH H' p rows PS (λc=>ky c\/c=b) (kvs++[(b,q,.ref dn)]):=by
 obtain⟨xs,ep,h1,_⟩:=h.dq.ex
 have tu : ∀ q xs,H q=some (.tup xs)->H' q=some (.tup xs):=λq xs z=>by rw[so q (ax z h1 (by intro z; cases z))]; exact z
 refine⟨dq,λc=>?_,λc x hx=>.inl (h.met c x hx),λe he=>?_,λe he e' he' z=>?_⟩
 ·rw[List.map_append,List.mem_append,h.key]
  simp
 ·rcases List.mem_append.mp he with he | he
  ·obtain⟨d1,ks1,a1,a2,a3⟩:=h.val e he
   exact⟨d1,ks1,a1,by rw[so d1 (ax a2 h1 (by intro z; cases z))]; exact a2,a3.mono tu⟩
  ·cases List.mem_singleton.mp he
   exact⟨dn,[],rfl,by rw[so dn (ax hn h1 (by intro z; cases z))]; exact hn,.nil,(λy hy=>nomatch hy),(λx hx=>absurd (h.met b x hx) nb),(λx _=>rfl),Nat.zero_le _⟩
 ·rcases List.mem_append.mp he with he | he <;> rcases List.mem_append.mp he' with he' | he'
  ·exact h.inj e he e' he' z
  ·cases List.mem_singleton.mp he'
   exact absurd z (nn e he)
  ·cases List.mem_singleton.mp he
   exact absurd z.symm (nn e' he')
  ·cases List.mem_singleton.mp he
   cases List.mem_singleton.mp he'
   rfl
def bz(r:List Int)(n:Nat):List (List Int):=(List.range n).map λk=>r.take (k+1)
def ap(rows:List (List Int)):List (List Int):=rows.flatMap λr=>bz r r.length
theorem ro(r:List Int)(n:Nat):bz r (n+1)=bz r n++[r.take (n+1)]:=by
 unfold bz
 rw[List.range_succ,List.map_append]
 rfl
theorem ri(rows:List (List Int))(r:List Int):ap (rows++[r])=ap rows++bz r r.length:=by
 unfold ap
 rw[List.flatMap_append]
 simp
theorem rj{rows:List (List Int)}(h : ∀ r∈rows,r.length<=6):(ap rows).length<=6*rows.length:=by
 induction rows with
 | nil=>exact Nat.zero_le _
 | cons r rows ih =>
  have h1:=h r (List.mem_cons_self ..)
  have h2:=ih λx hx=>h x (List.mem_cons_of_mem _ hx)
  show (bz r r.length++ap rows).length<=_
  rw[List.length_append]
  have:(bz r r.length).length=r.length:=by unfold bz; rw[List.length_map,List.length_range]
  rw[List.length_cons]
  omega
theorem rZ{r q:List Int}:q∈bz r r.length ↔ q≠[]/\q <+: r:=by
 unfold bz
 rw[List.mem_map]
 constructor
 ·rintro⟨k,hk,rfl⟩
  have hk:=List.mem_range.mp hk
  refine⟨λz=>?_,List.take_prefix _ _⟩
  have:=congrArg List.length z
  simp only [List.length_take,List.length_nil]at this
  omega
 ·rintro⟨h1,h2⟩
  have hl:0 < q.length:=List.length_pos_iff.mpr h1
  have h3:=h2.length_le
  refine⟨q.length - 1,List.mem_range.mpr (by omega),?_⟩
  rw[show q.length - 1+1=q.length by omega]
  exact (List.prefix_iff_eq_take.mp h2).symm
theorem eE{rows:List (List Int)}{q:List Int}:q∈ap rows ↔ q≠[]/\∃ r∈rows,q <+: r:=by
 unfold ap
 rw[List.mem_flatMap]
 constructor
 ·rintro⟨r,hr,h⟩
  obtain⟨h1,h2⟩:=rZ.mp h
  exact⟨h1,r,hr,h2⟩
 ·rintro⟨h1,r,hr,h2⟩
  exact⟨r,hr,rZ.mpr ⟨h1,h2⟩⟩
theorem bH.kyE{H:Hp}{p:Addr}{rows PS:List (List Int)}{ky ky':List Int->Prop}{kvs:List (ay × Addr × V)}(h:bH H p rows PS ky kvs)(e : ∀ b,ky b ↔ ky' b):bH H p rows PS ky' kvs :=
 ⟨h.dq,λb=>(h.key b).trans (e b),λb x hx=>(e b).mp (h.met b x hx),h.val,h.inj⟩
def bM(PS:List (List Int)):List Int->Prop:=λb=>∃ x,b++[x]∈PS
theorem bH.nil{H:Hp}{p:Addr}(rows:List (List Int))(h:DQ H p []):bH H p rows [] (bM []) []:=by
 refine⟨h,λb=>⟨λz=>?_,λz=>?_⟩,λb x hx=>?_,λe he=>?_,λe he=>?_⟩
 ·cases z
 ·obtain⟨x,hx⟩:=z; cases hx
 ·cases hx
 ·cases he
 ·cases he
def eQ(p:Addr)(H H':Hp):Prop:=∀ c u,c≠p->H c=some u->H' c=some u
def pC(H:Hp)(kvs:List (ay × Addr × V)):Prop:=∀ e∈kvs,∀ d,e.2.2=.ref d->H d=none
theorem Bm{rows:List (List Int)}{r:List Int}{j:Nat}(pf : ∀ x∈rows,∀ y∈rows,x <+: y->x=y)(hr:r∈rows)(hj:j < r.length):bt rows (r.take (j+1))=if j+1 < r.length then r.take (j+1) else []:=by
 unfold bt
 by_cases c:j+1 < r.length
 ·rw[if_pos c,if_neg λz=>?_]
  have:=congrArg List.length (pf _ z _ hr (List.take_prefix _ _))
  rw[List.length_take]at this
  omega
 ·rw[if_neg c,List.take_of_length_le (by omega),if_pos hr]
def wg(t:Adr):Sp:=λvs H Q _=>∃ (a:Addr) (f:Ft) (es:List (Int × List Int)) (n:Nat),vs=[.ref a]/\Tt t H a f es n/\n<=1000/\Es es /\
 ∀ p kvs H',af H H'->H p=none->bH H' p (es.map λe=>e.2) (ap (es.map λe=>e.2)) (bM (ap (es.map λe=>e.2))) kvs->kvs.length<=(ap (es.map λe=>e.2)).length->Q (.ref p) H'
theorem AY (T:Txt K mg t):bi P w K mg base "steps_of" 2 t.oM t.ni ["tongue"] (wg t):=by
 refine⟨T.BB,T.uR.kp,T.Dx,T.uR.okQ gz (λvs H Q E h=>by obtain⟨a,f,es,n,rfl,_⟩:=h; rfl) λcdv A outer s H vs Q E hr h=>?_⟩
 obtain⟨a,f,es,n,rfl,tt,hn,ok,k⟩:=h
 have hu:=hr.units
 refine⟨_,(aw (aS (i:=1) gz.nd rfl (.inl rfl) qW)
  (aw (bB PassesOwn.never rfl (dD (K:=K) rfl (xP (Bi T) hr (ab 0))) (cO (K:=K) rfl rfl (bn (aE (i:=2) gz.nd rfl (.inl rfl)) (bn (aE (i:=3) gz.nd rfl (.inl rfl)) cN))) (av (bB PassesOwn.never rfl (fR rfl T.n_range (ae (bj (cz (K:=K) rfl) T.n_len PySem.boot_len (ae (ab 3) ag)) ag)) (aE (i:=4) gz.nd rfl (.inl rfl)) (aw (aS (i:=5) gz.nd rfl (.inl rfl) (dE (kJ (K:=K) rfl) T.n_tuple PyProof.Rows.boot_tuple (ae (cP (dH (K:=K) rfl) (ab 3) dC (cD (ab 4))) ag)))
  (aw (eC (xU hu (ab 1) (ab 5) lX))
  (av (iX hu (iY hu (ab 1) (ab 5)) (be (bh (K:=K) rfl) (ab 3) (ab 4) (λ_ _=>rfl)) (xJ (bJ mL (di (dI (K:=K) rfl) (ab 4) aB) (bj (cz (K:=K) rfl) T.n_len PySem.boot_len (ae (ab 3) ag)) (bf _)) (dE (kJ (K:=K) rfl) T.n_tuple PyProof.Rows.boot_tuple (ae (cP (dH (K:=K) rfl) (ab 3) dC (cD (di (dI (K:=K) rfl) (ab 4) aB))) ag)) (cv ag)))))))))
  (av (aT (ab 1))))),?_⟩
 refine λp1 H1 g1=>?_
 refine⟨a,f.dx,_,rfl,g1.sm _ _ tt.o,rfl,?_⟩
 obtain⟨rows,er⟩ : ∃ rows,rows=es.map λe=>e.2:=⟨_,rfl⟩
 have pf : ∀ x∈rows,∀ y∈rows,x <+: y->x=y:=by
  intro x hx y hy hp
  rw[er]at hx hy
  obtain⟨e1,h1,rfl⟩:=List.mem_map.mp hx
  obtain⟨e2,h2,rfl⟩:=List.mem_map.mp hy
  rcases ok.two h1 h2 with z | z
  ·rw[z]
  ·have:bp e1.2 e2.2=true:=decide_eq_true (List.prefix_iff_eq_take.mp hp).symm
   unfold cV at z
   rw[this]at z
   simp at z
 have nds:(es.map λe=>e.1).Nodup:=by
  refine List.pairwise_map.mpr (ok.pw.imp λ{e1 e2} z=>?_)
  unfold cV at z
  intro c
  rw[decide_eq_true c]at z
  simp at z
 refine⟨a,f,es,n,rfl,tt.mono g1.sm,hn,nds,λp2 ps H2 s2 h2 al=>?_⟩
 have lps:ps.length=es.length:=al.1
 have lr:rows.length=es.length:=by rw[er,List.length_map]
 have d0:DQ H2 p1 []:=(DQ.new g1).same s2
 obtain⟨xs0,ep0,dh,_⟩:=d0.ex
 have S0:bH H2 p1 rows (ap (rows.take 0)) (bM (ap (rows.take 0))) []:=bH.nil rows d0
 refine⟨p2,rfl,⟨_,.of h2⟩,fk (K:=K) (a:=p2) (xs:=ps.map V.ref) (λi σ H'=>eQ p1 H2 H'/\(∃ kvs,bH H' p1 rows (ap (rows.take i)) (bM (ap (rows.take i))) kvs/\kvs.length<=(ap (rows.take i)).length/\pC H2 kvs)/\∃ v2 v3 v4 v5,σ=[some (.ref a),some (.ref p1),v2,v3,v4,v5]) ⟨λc u _ e=>e,⟨[],S0,Nat.zero_le _,λe he=>by cases he⟩,_,_,_,_,rfl⟩ (λi σ H' _ z=>.of (z.1 _ _ (ax h2 dh (by intro z; cases z)) h2)) ?_ ?_⟩
 ·rintro i x σ H3 hx ⟨b3,⟨kvs,st,lk,nv⟩,v2,v3,v4,v5,rfl⟩
  rw[List.getElem?_map]at hx
  obtain⟨q,hq,rfl⟩:=Option.map_eq_some_iff.mp hx
  obtain⟨e,he,l,e1,e2⟩:=al.right hq
  have em:e∈es:=List.mem_of_getElem? he
  have hri:rows[i]? = some e.2:=by rw[er,List.getElem?_map,he]; rfl
  have hrm:e.2∈rows:=List.mem_of_getElem? hri
  have le:=(ok.sg e em).2.2.1
  have il:i < 64:=by have:=(List.getElem?_eq_some_iff.mp he).1; have:=ok.l; omega
  have q3:=b3 _ _ (ax e1 dh (by intro z; cases z)) e1
  have l3:=b3 _ _ (ax e2 dh (by intro z; cases z)) e2
  refine⟨q,_,rfl,.of q3,rfl,?_⟩
  refine⟨_,_,rfl,_,_,rfl,rfl,?_⟩
  refine⟨_,.inl (.of l3),?_⟩
  refine⟨_,rfl,by rw[List.length_map]; omega,by rw[List.length_map]; omega,?_⟩
  rw[List.length_map]
  refine iA (lo:=0) (n:=(e.2.length:Int).toNat) (λj σ H'=>eQ p1 H2 H'/\(∃ kvs,bH H' p1 rows (ap (rows.take i)++bz e.2 j) (bM (ap (rows.take i)++bz e.2 j)) kvs/\kvs.length<=(ap (rows.take i)++bz e.2 j).length/\pC H2 kvs)/\∃ v4 v5,σ=[some (.ref a),some (.ref p1),some (.int e.1),some (.ref l),v4,v5]) ⟨b3,⟨kvs,by rw[show bz e.2 0=[] from rfl,List.append_nil]; exact st,by rw[show bz e.2 0=[] from rfl,List.append_nil]; exact lk,nv⟩,_,_,rfl⟩ ?_ ?_
  ·rintro j σ H4 hj ⟨b4,⟨kvs4,st4,lk4,nv4⟩,v4,v5,rfl⟩
   rw[Int.toNat_natCast]at hj
   obtain⟨PS,ePS⟩ : ∃ PS,PS=ap (rows.take i)++bz e.2 j:=⟨_,rfl⟩
   rw[<- ePS]at st4 lk4
   have lPS:PS.length<=390:=by
    have:=rj (rows:=rows.take i) λr hr=>by
     have hr:=List.mem_of_mem_take hr
     rw[er]at hr
     obtain⟨e1,h1,rfl⟩:=List.mem_map.mp hr
     exact (ok.sg e1 h1).2.2.1
    rw[ePS,List.length_append]
    have l2:(bz e.2 j).length=j:=by unfold bz; rw[List.length_map,List.length_range]
    rw[List.length_take]at this
    omega
   obtain⟨x,hx⟩ : ∃ x,e.2[j]? = some x:=⟨_,List.getElem?_eq_getElem hj⟩
   have tk:e.2.take (j+1)=e.2.take j++[x]:=by rw[List.take_add_one,hx]; rfl
   obtain⟨b,eb⟩ : ∃ b,b=e.2.take j:=⟨_,rfl⟩
   rw[<- eb]at tk
   have l4:=b4 _ _ (ax e2 dh (by intro z; cases z)) e2
   obtain⟨xs4,ep4,dh4,_⟩:=st4.dq.ex
   refine⟨_,rfl,_,.of l4,λp5 H5 g5=>?_⟩
   rw[Int.zero_add,ft,<- eb]at g5
   refine⟨_,.of g5.at_,λp6 H6 g6=>?_⟩
   have s46:=g5.sm.trans g6.sm
   dsimp only [bG]
   refine ly (λσ' H'=>σ'=[some (.ref a),some (.ref p1),some (.int e.1),some (.ref l),some (.int (0+(j:Int))),some (.ref p6)]/\eQ p1 H6 H'/\∃ kvs8,bH H' p1 rows PS (λc=>bM PS c\/c=b) kvs8/\kvs8.length<=PS.length+1/\pC H2 kvs8/\b∈kvs8.map λe=>e.1) (λnx hnx=>?_) λσ' H8 z=>?_
   ·refine⟨p1,kvs4,rfl,st4.dq.same s46,λp7 H7 g7=>?_⟩
    have s47:=s46.trans g7.sm
    have st7:=st4.same s47
    refine⟨p6,kvs4,b,rfl,st7.dq,g7.sm _ _ g6.at_,dP (by omega),λv hv=>?_,λhv H8 d8 so=>?_⟩
    ·obtain⟨e0,he0,e01,e02⟩:=eW hv
     have kb:b∈kvs4.map λe=>e.1:=List.mem_map.mpr ⟨e0,he0,e01⟩
     have kyb:=(st7.key b).mp kb
     refine hnx _ _ ⟨rfl,λc u _ z=>g7.sm _ _ z,kvs4,st7.kyE λc=>⟨.inl,λz=>?_⟩,by omega,nv4,kb⟩
     rcases z with z | z
     ·exact z
     ·rw[z]; exact kyb
    ·rw[qX hv]at d8
     have nb : ¬ bM PS b:=λz=>by
      obtain⟨v,hv'⟩:=iM ((st7.key b).mpr z)
      rw[hv]at hv'; cases hv'
     have np:p7≠p1:=λz=>by have:=g7.nw; rw[z,s46 _ _ dh4]at this; cases this
     have n2:H2 p7=none:=by
      cases c:H2 p7 with
      | none=>rfl
      | some u =>
       have:=s46 _ _ (b4 _ _ np c)
       rw[g7.nw]at this; cases this
     have nn : ∀ e∈kvs4,e.2.2 ≠ .ref p7:=λe0 he0 z=>by
      obtain⟨d1,ks1,a1,a2,_⟩:=st4.val e0 he0
      rw[z]at a1; cases a1
      have:=s46 _ _ a2
      rw[g7.nw]at this; cases this
     refine hnx _ _ ⟨rfl,λc u n z=>by rw[so c n]; exact g7.sm _ _ z,_,st7.new nb g7.at_ nn d8 so,by rw[List.length_append]; simp; omega,λe0 he0 d hd=>?_,by rw[List.map_append]; exact List.mem_append_right _ (List.mem_singleton.mpr rfl)⟩
     rcases List.mem_append.mp he0 with z | z
     ·exact nv4 e0 z d hd
     ·cases List.mem_singleton.mp z
      cases hd
      exact n2
   ·obtain⟨rfl,b8,kvs8,st8,lk8,nv8,kb8⟩:=z
    have b28:eQ p1 H2 H8:=λc u n z=>b8 c u n (s46 _ _ (b4 c u n z))
    have l8:=b28 _ _ (ax e2 dh (by intro z; cases z)) e2
    have q8:=b8 _ _ (λz=>by have:=g6.nw; rw[z,g5.sm _ _ dh4]at this; cases this) g6.at_
    have gl:=Bm pf hrm hj
    rw[tk]at gl
    refine⟨_,.inl (.of l8),?_⟩
    rw[List.length_map]
    refine aG (λc=>?A) (λc=>?B)
    case' A =>
     refine⟨_,rfl,_,.of l8,λp9 H9 g9=>?_⟩
     rw[Int.zero_add,show ((j:Int)+1)=((j+1:Nat):Int) by omega,ft,tk]at g9
     refine⟨_,.of g9.at_,λq10 H10 g10=>?_⟩
     have s8:af H8 H10:=g9.sm.trans g10.sm
     have h10:H10 q10=some (.tup ((bt rows (b++[x])).map V.int)):=by
      rw[gl,if_pos (by have:=of_decide_eq_true c; omega)]; exact g10.at_
     clear g9 g10
    case' B =>
     refine⟨sz rfl,λq10 H10 g10=>?_⟩
     have s8:af H8 H10:=g10.sm
     have h10:H10 q10=some (.tup ((bt rows (b++[x])).map V.int)):=by
      rw[gl,if_neg (λz=>c (decide_eq_true (by omega)))]; exact g10.at_
     clear g10
    all_goals
     have st10:=st8.same s8
     obtain⟨v,hv⟩:=iM kb8
     obtain⟨e0,he0,e01,e02⟩:=eW hv
     obtain⟨d,ks,a1,a2,a3⟩:=st10.val e0 he0
     rw[e02]at a1
     subst a1
     refine⟨p1,p6,kvs8,b,.ref d,rfl,rfl,st10.dq,s8 _ _ q8,hv,?_⟩
     refine⟨_,.int x,.inl (.of (s8 _ _ l8)),?_,?_⟩
     ·rw[Int.zero_add]
      exact bW (by rw[List.getElem?_map,hx]; rfl)
     refine⟨d,_,rfl,dN.k (k:=.inl x) a2 (dP (by have:=a3.len; omega)),?_⟩
     have nd:H2 d=none:=nv8 e0 he0 d e02
     refine⟨λc u n z=>?_,⟨kvs8,?_,by rw[ro,<- List.append_assoc,<- ePS,List.length_append]; exact lk8,nv8⟩,_,_,rfl⟩
     ·rw[aj (λz'=>by rw[z',nd]at z; cases z)]
      exact s8 _ _ (b28 c u n z)
     ·rw[ro,<- List.append_assoc,<- ePS,tk]
      refine (st10.put hv a2 h10 rfl).kyE λc=>?_
      constructor
      ·rintro (⟨y,hy⟩ | rfl)
       ·exact⟨y,List.mem_append_left _ hy⟩
       ·exact⟨x,List.mem_append_right _ (List.mem_singleton.mpr rfl)⟩
      ·rintro⟨y,hy⟩
       rcases List.mem_append.mp hy with z | z
       ·exact .inl ⟨y,z⟩
       ·exact .inr (List.append_inj_left' (List.mem_singleton.mp z) rfl)
  ·rintro σ H4 ⟨b4,⟨kvs4,st4,lk4,nv4⟩,v4,v5,rfl⟩
   rw[Int.toNat_natCast]at st4 lk4
   have et:ap (rows.take (i+1))=ap (rows.take i)++bz e.2 e.2.length:=by
    rw[List.take_add_one,hri]
    rw[show (some e.2).toList=[e.2] from rfl,ri]
   refine⟨b4,⟨kvs4,?_,by rw[et]; exact lk4,nv4⟩,_,_,_,_,rfl⟩
   rw[et]
   exact st4
 ·rintro σ H3 ⟨b3,⟨kvs,st,lk,nv⟩,v2,v3,v4,v5,rfl⟩
  have sm:af H H3:=λc u e=>b3 c u (λz=>by rw[z,g1.nw]at e; cases e) (s2 _ _ (g1.sm _ _ e))
  rw[List.length_map,lps,<- lr,List.take_length]at st lk
  have:=rj (rows:=rows) λr hr=>by
   rw[er]at hr
   obtain⟨e1,h1,rfl⟩:=List.mem_map.mp hr
   exact (ok.sg e1 h1).2.2.1
  have:=ok.l
  rw[er]at st lk
  exact k p1 kvs H3 sm g1.nw st lk
theorem fh{σ:St}{i:Nat}{v:V}{H:Hp}{Q:VK}(h:σ[i]? = some (some v))(q:Q v H):mV i σ H Q:=by
 unfold mV
 rw[h]
 exact q
theorem nS{K:PySem.W.Frag}{H:Hp}{a b:Addr}{ns ms:List Int}{neg:Bool}{Q:VK}(h1:H a=some (.tup (ns.map V.int)))(h2:H b=some (.tup (ms.map V.int)))(q:Q (.bl (if neg then !decide (ns=ms) else decide (ns=ms))) H) :
 gc K neg (.ref a) (.ref b) H Q:=by
 refine⟨_,_,aZ.tup (.of h1) (cB.ints ns),aZ.tup (.of h2) (cB.ints ms),PySem.W.ke_shaped_ints ns,PySem.W.ke_shaped_ints ms,?_⟩
 have e:PyData.eqv (.tuple (ns.map PyData.int)) (.tuple (ms.map PyData.int))=decide (ns=ms):=by
  show PyData.eqvAll _ _=_
  exact PySem.W.ked_eqvAll ns ms
 rw[e]
 exact q
def bO(rows PS:List (List Int))(b c:List Int)(x:Int):Option aa :=
 if b++[x]∈PS/\c++[x]∈PS/\bt rows (c++[x])≠bt rows (b++[x]) then some (bt rows (b++[x]),bt rows (c++[x])) else none
structure cu (H:Hp) (F:Int->Option aa) (S:Int->Prop) (n:Nat) (ks:List (ak × V)):Prop where
 nd:(ks.map λy=>y.1).Nodup
 int : ∀ y∈ks,∃ x:Int,y.1=.inl x
 yes : ∀ x g,S x->F x=some g->∃ q,aJ ks (.inl x)=some (.ref q)/\aC H g q
 no : ∀ x,(S x->F x=none)->aJ ks (.inl x)=none
 len:ks.length<=n
theorem cu.mono{H H':Hp}{F:Int->Option aa}{S:Int->Prop}{n:Nat}{ks:List (ak × V)}(h:cu H F S n ks)(s : ∀ q xs,H q=some (.tup xs)->H' q=some (.tup xs)):cu H' F S n ks :=
 ⟨h.nd,h.int,λx g a b=>by
  obtain⟨q,h1,c,d,h2,h3,h4⟩:=h.yes x g a b
  exact⟨q,h1,c,d,s _ _ h2,s _ _ h3,s _ _ h4⟩,h.no,h.len⟩
theorem cu.skip{H:Hp}{F:Int->Option aa}{S S':Int->Prop}{n:Nat}{ks:List (ak × V)}{x:Int}(h:cu H F S n ks)(hS : ∀ z,S' z ↔ S z\/z=x)(hF:F x=none):cu H F S' (n+1) ks:=by
 refine⟨h.nd,h.int,λz g a b=>?_,λz a=>h.no z λc=>a ((hS z).mpr (.inl c)),by have:=h.len; omega⟩
 rcases (hS z).mp a with a | a
 ·exact h.yes z g a b
 ·rw[a,hF]at b; cases b
theorem cu.put{H:Hp}{F:Int->Option aa}{S S':Int->Prop}{n:Nat}{ks:List (ak × V)}{x:Int}{g:aa}{q:Addr}(h:cu H F S n ks)(hS : ∀ z,S' z ↔ S z\/z=x)(hF:F x=some g)(hq:aC H g q):cu H F S' (n+1) (aW ks (.inl x) (.ref q)):=by
 refine⟨?_,λy hy=>?_,λz g' a b=>?_,λz a=>?_,by have:=fW ks (.inl x) (.ref q); have:=h.len; omega⟩
 ·rcases j5 ks (.inl x) (.ref q) with ⟨_,z2⟩ | ⟨z,z2⟩
  ·rw[z2]; exact h.nd
  ·rw[z2]
   refine List.nodup_append.mpr ⟨h.nd,by simp,λu hu v hv=>?_⟩
   rw[List.mem_singleton.mp hv]
   exact λe=>z (e ▸ hu)
 ·have hm:y.1∈(aW ks (.inl x) (.ref q)).map λx=>x.1:=List.mem_map.mpr ⟨y,hy,rfl⟩
  have old:y.1∈(ks.map λx=>x.1)->∃ x:Int,y.1=.inl x:=λz=>by
   obtain⟨u,hu,eu⟩:=List.mem_map.mp z
   obtain⟨x,ex⟩:=h.int u hu
   exact⟨x,eu.symm.trans ex⟩
  rcases j5 ks (.inl x) (.ref q) with ⟨_,z2⟩ | ⟨_,z2⟩
  ·rw[z2]at hm; exact old hm
  ·rw[z2]at hm
   rcases List.mem_append.mp hm with z | z
   ·exact old z
   ·exact⟨x,List.mem_singleton.mp z⟩
 ·rw[dz]
  by_cases c:(Sum.inl z:ak)=.inl x
  ·rw[if_pos c]
   cases Sum.inl.inj c
   rw[hF]at b; cases b
   exact⟨q,rfl,hq⟩
  ·rw[if_neg c]
   rcases (hS z).mp a with a | a
   ·exact h.yes z g' a b
   ·exact absurd (by rw[a]) c
 ·rw[dz]
  by_cases c:(Sum.inl z:ak)=.inl x
  ·cases Sum.inl.inj c
   have:=a ((hS x).mpr (.inr rfl))
   rw[hF]at this; cases this
  ·rw[if_neg c]
   exact h.no z λy=>a ((hS z).mpr (.inl y))
def wz:Sp:=λvs H Q _=>∃ (p b c:Addr) (rows PS:List (List Int)) (ky:List Int->Prop) (kvs:List (ay × Addr × V)) (kb kc:List Int),vs=[.ref p,.ref b,.ref c]/\bH H p rows PS ky kvs/\PS.length<=390 /\
 H b=some (.tup (kb.map V.int))/\H c=some (.tup (kc.map V.int))/\ky kb/\ky kc/\kb≠kc /\
 ∀ d ks H',af H H'->H d=none->H' d=some (.dK ks)->cu H' (bO rows PS kb kc) (λ_=>True) 390 ks->Q (.ref d) H'
theorem Bg (T:Txt K mg t):bi P w K mg base "apart_behind" 1 t.o7 t.nO ["steps", "one", "other"] wz:=by
 refine⟨T.BY,T.vh.kp,T.DS,T.vh.okQ jI (λvs H Q E h=>by obtain⟨p,b,c,rows,PS,ky,kvs,kb,kc,rfl,_⟩:=h; rfl) λcdv A outer s H vs Q E hr h=>?_⟩
 obtain⟨p,b,c,rows,PS,ky,kvs,kb,kc,rfl,st,lP,hb,hc,kyb,kyc,ne,k⟩:=h
 have hu:=hr.units
 refine⟨_,(aw (aS (i:=3) jI.nd rfl (.inl rfl) lX)
  (aw (lJ (bB PassesOwn.never rfl (jN (iY hu (ab 0) (ab 1))) (cO (K:=K) rfl rfl (bn (aE (i:=4) jI.nd rfl (.inl rfl)) (bn (aE (i:=5) jI.nd rfl (.inl rfl)) cN))) (av (ca (i3 (lL (bJ (BQ hu) (ab 4) (iY hu (ab 0) (ab 2)) (by with_unfolding_all rfl)) (qO (bJ (gb (K:=K) rfl hu) (jR hu (iY hu (ab 0) (ab 2)) (ab 4)) (ab 5) (bf _))))) (av (iX hu (ab 3) (ab 4) (cv (ae (ab 5) (ae (jR hu (iY hu (ab 0) (ab 2)) (ab 4)) ag))))) bZ))))
  (av (aT (ab 3))))),?_⟩
 refine λpf H1 g1=>?_
 have st1:=st.same g1.sm
 obtain⟨v1,hv1⟩:=iM ((st1.key kb).mpr kyb)
 obtain⟨e1,he1,e11,e12⟩:=eW hv1
 obtain⟨d1,ks1,a1,a2,a3⟩:=st1.val e1 he1
 rw[e12]at a1; subst a1
 obtain⟨v2,hv2⟩:=iM ((st1.key kc).mpr kyc)
 obtain⟨e2,he2,e21,e22⟩:=eW hv2
 obtain⟨d2,ks2,b1,b2,b3'⟩:=st1.val e2 he2
 rw[e22]at b1; subst b1
 rw[e11]at a3
 rw[e21]at b3'
 have nd:d2≠d1:=λz=>by
  subst z
  exact ne (by rw[<- e11,<- e21]; exact st1.inj e1 he1 e2 he2 (e12.trans e22.symm))
 have npd:pf≠d1:=λz=>by
  obtain⟨d0,k0,z1,z2,_⟩:=st.val e1 he1
  rw[e12]at z1; cases z1
  have:=g1.nw; rw[z,z2]at this; cases this
 refine⟨d1,.dK ks1,(λo v z=>by rw[a2]at z; cases z),?_⟩
 refine⟨p,b,kvs,kb,.ref d1,rfl,rfl,st1.dq,g1.sm _ _ hb,hv1,?_⟩
 refine⟨d1,ks1,rfl,a2,λob=>?_⟩
 obtain⟨H2,eH2⟩ : ∃ H2,H2=upd H1 d1 (.frz ob (.dK ks1)):=⟨_,rfl⟩
 have f2:H2 d1=some (.frz ob (.dK ks1)):=by rw[eH2,aN]
 have o2 : ∀ c u,c≠d1->H1 c=some u->H2 c=some u:=λc u n e=>by rw[eH2,aj n]; exact e
 have o2' : ∀ c u,c≠d1->H2 c=some u->H1 c=some u:=λc u n e=>by rw[eH2,aj n]at e; exact e
 rw[<- eH2]
 have dq2:DQ H2 p kvs:=tN st1.dq a2 λc n=>by rw[eH2,aj n]
 have tu2 : ∀ q xs,H1 q=some (.tup xs)->H2 q=some (.tup xs):=λq xs z=>o2 _ _ (ax z a2 (by intro z; cases z)) z
 have pf2:=o2 _ _ npd g1.at_
 clear eH2
 refine Cd (λi σ H'=>eQ pf H2 H'/\(∃ ksf,H' pf=some (.dK ksf)/\cu H' (bO rows PS kb kc) (λx=>(Sum.inl x:ak)∈(ks1.take i).map λy=>y.1) i ksf)/\∃ v4 v5,σ=[some (.ref p),some (.ref b),some (.ref c),some (.ref pf),v4,v5]) ⟨λc u _ e=>e,⟨[],pf2,.nil,(λy hy=>nomatch hy),(λx g a=>nomatch a),(λx _=>rfl),Nat.zero_le _⟩,_,_,rfl⟩ (λi σ H' _ z=>z.1 _ _ npd.symm f2) ?_ ?_
 ·rintro i key v pt σ H3 H4 hkv ⟨b3,⟨ksf,f3,fn⟩,v4,v5,rfl⟩ g4
  obtain⟨x,hx⟩:=a3.int _ (List.mem_of_getElem? hkv)
  have hx:key=.inl x:=hx
  subst hx
  have hv:=iK a3.nd hkv
  have inP:kb++[x]∈PS:=Classical.byContradiction λz=>by rw[a3.no x z]at hv; cases hv
  obtain⟨q1,y1,y2⟩:=a3.yes x inP
  rw[hv]at y1
  cases y1
  have hi:i < ks1.length:=(List.getElem?_eq_some_iff.mp hkv).1
  have b4:eQ pf H2 H4:=λc u n e=>g4.sm _ _ (b3 c u n e)
  obtain⟨xs2,ep2,dh2,_⟩:=dq2.ex
  have npf : ∀ q xs,H2 q=some (.tup xs)->q≠pf:=λq xs z=>ax z pf2 (by intro z; cases z)
  have tu4 : ∀ q xs,H1 q=some (.tup xs)->H4 q=some (.tup xs):=λq xs z=>b4 _ _ (npf _ _ (tu2 _ _ z)) (tu2 _ _ z)
  have dq4:DQ H4 p kvs:=by
   obtain⟨⟨xs,ep,h1,h2⟩,kk,n,l⟩:=dq2
   exact⟨⟨xs,ep,b4 _ _ (ax h1 pf2 (by intro z; cases z)) h1,h2⟩,λx hx=>b4 _ _ (npf _ _ (kk x hx)) (kk x hx),n,l⟩
  have npd2:pf≠d2:=λz=>by
   obtain⟨d0,k0,z1,z2,_⟩:=st.val e2 he2
   rw[e22]at z1; cases z1
   have:=g1.nw; rw[z,z2]at this; cases this
  have d24:H4 d2=some (.dK ks2):=b4 _ _ npd2.symm (o2 _ _ nd b2)
  have take : ∀ z:Int,(Sum.inl z:ak)∈((ks1.take (i+1)).map λy=>y.1) ↔ ((Sum.inl z:ak)∈(ks1.take i).map λy=>y.1)\/z=x:=λz=>by
   rw[List.take_add_one,hkv,List.map_append,List.mem_append]
   constructor
   ·rintro (h | h)
    ·exact .inl h
    ·exact .inr (Sum.inl.inj (List.mem_singleton.mp h))
   ·rintro (h | h)
    ·exact .inl h
    ·exact .inr (by rw[h]; exact List.mem_singleton.mpr rfl)
  have xnew:(Sum.inl x:ak)∉(ks1.take i).map λy=>y.1:=λz=>by
   obtain⟨j,hj⟩:=List.getElem?_of_mem z
   have jl:=(List.getElem?_eq_some_iff.mp hj).1
   rw[List.length_map,List.length_take]at jl
   rw[List.getElem?_map,List.getElem?_take_of_lt (by omega),<- List.getElem?_map]at hj
   have h2:(ks1.map λy=>y.1)[i]? = some (Sum.inl x):=by rw[List.getElem?_map,hkv]; rfl
   have:=(List.getElem?_inj (by rw[List.length_map]; omega) a3.nd).mp (hj.trans h2.symm)
   omega
  refine⟨pt,_,rfl,.of g4.at_,rfl,?_⟩
  refine⟨_,_,rfl,_,_,rfl,rfl,?_⟩
  refine⟨p,c,kvs,kc,.ref d2,rfl,rfl,dq4,tu4 _ _ (g1.sm _ _ hc),hv2,?_⟩
  refine⟨d2,_,rfl,dy.k (k:=.inl x) d24,?_⟩
  have fn4:=fn.mono λq xs z=>g4.sm _ _ z
  have hc4:=tu4 _ _ (g1.sm _ _ hc)
  by_cases inC:kc++[x]∈PS
  ·obtain⟨q2,z1,z2⟩:=b3'.yes x inC
   refine aG (λ_=>?_) (λz=>absurd (show (aJ ks2 (.inl x)).isSome=true by rw[z1]; rfl) z)
   refine⟨p,c,kvs,kc,.ref d2,rfl,rfl,dq4,hc4,hv2,?_⟩
   refine⟨d2,_,rfl,by have:=dy.k (k:=.inl x) d24; rw[z1]at this; exact this,?_⟩
   refine fh (by rfl) ?_
   refine nS (tu4 _ _ z2) (tu4 _ _ y2) ?_
   refine aG (λz=>?_) (λz=>?_)
   ·have ne':bt rows (kc++[x])≠bt rows (kb++[x]):=λe=>by
     have z:(!decide (bt rows (kc++[x])=bt rows (kb++[x])))=true:=z
     rw[decide_eq_true e]at z; cases z
    have hF:bO rows PS kb kc x=some (bt rows (kb++[x]),bt rows (kc++[x])):=if_pos ⟨inP,inC,ne'⟩
    refine⟨p,c,kvs,kc,.ref d2,rfl,rfl,dq4,hc4,hv2,?_⟩
    refine⟨d2,_,rfl,by have:=dy.k (k:=.inl x) d24; rw[z1]at this; exact this,?_⟩
    refine⟨sz rfl,λp6 H6 g6=>?_⟩
    refine⟨pf,_,rfl,dN.k (k:=.inl x) (g6.sm _ _ (g4.sm _ _ f3)) (dP (by have:=fn.len; have:=a3.len; omega)),?_⟩
    have f6:=g6.sm _ _ (g4.sm _ _ f3)
    refine⟨λc u n e=>by rw[aj n]; exact g6.sm _ _ (b4 c u n e),⟨_,aN,?_⟩,_,_,rfl⟩
    refine ((fn4.mono λq xs z=>g6.sm _ _ z).put take hF ⟨q1,q2,g6.at_,g6.sm _ _ (tu4 _ _ y2),g6.sm _ _ (tu4 _ _ z2)⟩).mono λq xs z=>?_
    rw[aj (ax z f6 (by intro z; cases z))]; exact z
   ·have e:bt rows (kc++[x])=bt rows (kb++[x]):=Classical.byContradiction λe=>z (by show (!decide (bt rows (kc++[x])=bt rows (kb++[x])))=true; rw[decide_eq_false e]; rfl)
    exact⟨b4,⟨ksf,g4.sm _ _ f3,fn4.skip take (if_neg λy=>y.2.2 e)⟩,_,_,rfl⟩
  ·have z1:=b3'.no x inC
   refine aG (λz=>absurd (show (aJ ks2 (.inl x)).isSome=true from z) (by rw[z1]; decide)) (λ_=>?_)
   refine AE ?_
   exact⟨b4,⟨ksf,g4.sm _ _ f3,fn4.skip take (if_neg λy=>inC y.2.1)⟩,_,_,rfl⟩
 ·rintro σ H3 ⟨b3,⟨ksf,f3,fn⟩,v4,v5,rfl⟩
  refine⟨⟨ob,b3 _ _ npd.symm f2⟩,?_⟩
  rw[List.take_length]at fn
  have nn:pf≠d1:=npd
  refine k pf ksf _ (λc u e=>?_) g1.nw (by rw[aj nn]; exact f3) ?_
  ·by_cases c1:c=d1
   ·subst c1
    have:=g1.sm _ _ e
    rw[a2]at this
    rw[aN,<- this]
   ·rw[aj c1]
    exact b3 _ _ (λz=>by rw[z,g1.nw]at e; cases e) (o2 _ _ c1 (g1.sm _ _ e))
  ·refine (show cu H3 (bO rows PS kb kc) (λ_=>True) 390 ksf from ⟨fn.nd,fn.int,λx g _ hg=>?_,λx hx=>fn.no x λ_=>hx trivial,by have:=fn.len; have:=a3.len; omega⟩).mono λq xs z=>by
    rw[aj (ax z (b3 _ _ npd.symm f2) (by intro z; cases z))]; exact z
   refine fn.yes x g ?_ hg
   unfold bO at hg
   split at hg
   ·rename_i z
    obtain⟨q,hq,_⟩:=a3.yes x z.1
    by_cases c1:(Sum.inl x:ak)∈ks1.map λy=>y.1
    ·exact c1
    ·rw[kU c1]at hq; cases hq
   ·cases hg
structure Gr (H:Hp) (a:Addr) (kvs:List (aa × Addr × V)) (F:aa->Int->Option aa) (N:aa->Prop):Prop where
 dp:DP H a kvs
 key : ∀ k,k∈kvs.map (λe=>e.1) ↔ N k
 val : ∀ e∈kvs,∃ d ks,e.2.2=.ref d/\H d=some (.dK ks)/\cu H (F e.1) (λ_=>True) 390 ks
theorem Gr.same{H H':Hp}{a:Addr}{kvs:List (aa × Addr × V)}{F:aa->Int->Option aa}{N:aa->Prop}(h:Gr H a kvs F N)(s:af H H'):Gr H' a kvs F N :=
 ⟨h.dp.same s,h.key,λe he=>let ⟨d,ks,a,b,c⟩:=h.val e he; ⟨d,ks,a,s _ _ b,c.mono λq xs z=>s _ _ z⟩⟩
theorem Gr.nE{H:Hp}{a:Addr}{kvs:List (aa × Addr × V)}{F:aa->Int->Option aa}{N N':aa->Prop}(h:Gr H a kvs F N)(e : ∀ k,N k ↔ N' k):Gr H a kvs F N':=⟨h.dp,λk=>(h.key k).trans (e k),h.val⟩
theorem iO{kvs:List (aa × Addr × V)}{b:aa}(h:b∉kvs.map λe=>e.1):aA kvs b=none:=by
 unfold aA
 rw[Option.map_eq_none_iff,List.find?_eq_none]
 intro x hx z
 exact h (List.mem_map.mpr ⟨x,hx,of_decide_eq_true z⟩)
theorem dO{kvs:List (aa × Addr × V)}{b:aa}{v:V}(h:aA kvs b=some v) : ∃ e∈kvs,e.1=b/\e.2.2=v:=by
 unfold aA at h
 obtain⟨e,he,rfl⟩:=Option.map_eq_some_iff.mp h
 exact⟨e,List.mem_of_find?_eq_some he,by have z:=List.find?_some he; exact of_decide_eq_true z,rfl⟩
theorem dA{kvs:List (aa × Addr × V)}{b:aa}(h:b∈kvs.map λe=>e.1) : ∃ v,aA kvs b=some v:=by
 cases e:aA kvs b with
 | some v=>exact⟨v,rfl⟩
 | none =>
  unfold aA at e
  rw[Option.map_eq_none_iff,List.find?_eq_none]at e
  obtain⟨x,hx,rfl⟩:=List.mem_map.mp h
  exact absurd (decide_eq_true rfl) (e x hx)
theorem i4{kvs:List (aa × Addr × V)}{b:aa}{q:Addr}{v:V}(h:aA kvs b=none):bK kvs b q v=kvs++[(b,q,v)]:=by
 unfold bK
 rw[h]
 rfl
theorem Gr.put{H H':Hp}{a q d:Addr}{kvs:List (aa × Addr × V)}{F:aa->Int->Option aa}{N:aa->Prop}{k:aa}{ks:List (ak × V)}(h:Gr H a kvs F N)(nk : ¬ N k)(hd:H d=some (.dK ks))(hf:cu H (F k) (λ_=>True) 390 ks)
 (dp:DP H' a (bK kvs k q (.ref d))) (so : ∀ c,c≠a->H' c=H c):Gr H' a (kvs++[(k,q,.ref d)]) F (λx=>N x\/x=k):=by
 obtain⟨xs,ep,h1,_⟩:=h.dp.ex
 have tu : ∀ q xs,H q=some (.tup xs)->H' q=some (.tup xs):=λq xs z=>by rw[so q (ax z h1 (by intro z; cases z))]; exact z
 have nv:aA kvs k=none:=iO λz=>nk ((h.key k).mp z)
 rw[i4 nv]at dp
 refine⟨dp,λx=>?_,λe he=>?_⟩
 ·rw[List.map_append,List.mem_append,h.key]
  simp
 ·rcases List.mem_append.mp he with he | he
  ·obtain⟨d1,ks1,a1,a2,a3⟩:=h.val e he
   exact⟨d1,ks1,a1,by rw[so d1 (ax a2 h1 (by intro z; cases z))]; exact a2,a3.mono tu⟩
  ·cases List.mem_singleton.mp he
   exact⟨d,ks,rfl,by rw[so d (ax hd h1 (by intro z; cases z))]; exact hd,hf.mono tu⟩
theorem jV{α:Type}{ns:List α}{i:Nat}{x:α}(nd:ns.Nodup)(h:ns[i]? = some x):x∉ns.take i:=λz=>by
 obtain⟨j,hj⟩:=List.getElem?_of_mem z
 have jl:=(List.getElem?_eq_some_iff.mp hj).1
 rw[List.length_take]at jl
 rw[List.getElem?_take_of_lt (by omega)]at hj
 have:=(List.getElem?_inj (by omega) nd).mp (hj.trans h.symm)
 omega
theorem cw{α:Type}{ns:List α}{i:Nat}{x y:α}(h:ns[i]? = some x):y∈ns.take (i+1) ↔ y∈ns.take i\/y=x:=by
 rw[List.take_add_one,h,List.mem_append]
 exact or_congr Iff.rfl List.mem_singleton
def aV(PS:List (List Int)):aa->Prop:=λk=>bM PS k.1/\bM PS k.2/\k.1≠k.2
def wB:Sp:=λvs H Q _=>∃ (p:Addr) (rows PS:List (List Int)) (kvs:List (ay × Addr × V)),vs=[.ref p]/\bH H p rows PS (bM PS) kvs/\PS.length<=390/\kvs.length<=400 /\
 ∀ a kvA H',af H H'->H a=none->Gr H' a kvA (λk=>bO rows PS k.1 k.2) (aV PS)->kvA.length<=kvs.length*kvs.length->Q (.ref a) H'
theorem Bf (T:Txt K mg t):bi P w K mg base "apart_of" 2 t.o6 t.nN ["steps"] wB:=by
 refine⟨T.BX,T.vg.kp,T.DR,T.vg.okQ jH (λvs H Q E h=>by obtain⟨p,rows,PS,kvs,rfl,_⟩:=h; rfl) λcdv A outer s H vs Q E hr h=>?_⟩
 obtain⟨p,rows,PS,kvs,rfl,st,lP,lk,k⟩:=h
 have hu:=hr.units
 refine⟨_,(aw (aS (i:=1) jH.nd rfl (.inl rfl) ie)
  (aw (bB PassesOwn.never rfl (qP (ab 0)) (aE (i:=2) jH.nd rfl (.inl rfl)) (av (bB PassesOwn.never rfl (qP (ab 0)) (aE (i:=3) jH.nd rfl (.inl rfl)) (av (ca (bJ (gb (K:=K) rfl hu) (ab 2) (ab 3) (bf _)) (av (ii hu (ab 1) (cv (ae (ab 2) (ae (ab 3) ag))) (aX (Bg T) hr (ae (ab 0) (ae (ab 2) (ae (ab 3) ag)))))) bZ)))))
  (av (aT (ab 1))))),?_⟩
 refine λpa H1 g1=>?_
 obtain⟨ns,ens⟩ : ∃ ns,ns=kvs.map λe=>e.1:=⟨_,rfl⟩
 have nsN:ns.Nodup:=by rw[ens]; exact st.dq.nd
 have nsk : ∀ b,b∈ns ↔ bM PS b:=λb=>by rw[ens]; exact st.key b
 have lns:ns.length=kvs.length:=by rw[ens,List.length_map]
 obtain⟨xs0,ep0,dh,_⟩:=st.dq.ex
 have st1:=st.same g1.sm
 refine⟨p,kvs,rfl,st1.dq,λo ho=>?_⟩
 rw[g1.sm _ _ dh]at ho
 cases ho
 have G0:Gr H1 pa [] (λk=>bO rows PS k.1 k.2) (λk=>k.1≠k.2/\k.1∈ns.take 0/\k.2∈ns):=⟨DP.new g1,λk=>⟨(λz=>nomatch z),(λz=>nomatch z.2.1)⟩,λe he=>nomatch he⟩
 refine tH (λi σ H'=>af H H'/\(∃ kvA,Gr H' pa kvA (λk=>bO rows PS k.1 k.2) (λk=>k.1≠k.2/\k.1∈ns.take i/\k.2∈ns)/\kvA.length<=kvs.length*i)/\∃ v2 v3,σ=[some (.ref p),some (.ref pa),v2,v3]) ⟨g1.sm,⟨[],G0,Nat.zero_le _⟩,_,_,rfl⟩ (λi σ H' _ z=>z.1 _ _ dh) ?_ ?_
 ·rintro i b qb vb σ H2 hi ⟨s2,⟨kvA,gr,lA⟩,v2,v3,rfl⟩
  have hbi:ns[i]? = some b:=by rw[ens,List.getElem?_map,hi]; rfl
  have bm:b∈ns:=List.mem_of_getElem? hbi
  have il:i < kvs.length:=(List.getElem?_eq_some_iff.mp hi).1
  have kb0:H qb=some (.tup (b.map V.int)):=st.dq.key _ (List.mem_of_getElem? hi)
  refine⟨p,kvs,rfl,(st.same s2).dq,λo ho=>?_⟩
  rw[s2 _ _ dh]at ho
  cases ho
  refine tH (λj σ H'=>af H H'/\(∃ kvA,Gr H' pa kvA (λk=>bO rows PS k.1 k.2) (λk=>k.1≠k.2/\(k.1∈ns.take i/\k.2∈ns\/k.1=b/\k.2∈ns.take j))/\kvA.length<=kvs.length*i+j)/\∃ v3,σ=[some (.ref p),some (.ref pa),some (.ref qb),v3]) ⟨s2,⟨kvA,gr.nE λx=>⟨λz=>⟨z.1,.inl z.2⟩,λz=>⟨z.1,z.2.elim id λy=>nomatch y.2⟩⟩,lA⟩,_,rfl⟩ (λi σ H' _ z=>z.1 _ _ dh) ?_ ?_
  ·rintro j c qc vc σ H3 hj ⟨s3,⟨kvB,gr3,lB⟩,v3,rfl⟩
   have hcj:ns[j]? = some c:=by rw[ens,List.getElem?_map,hj]; rfl
   have cm:c∈ns:=List.mem_of_getElem? hcj
   have jl:j < kvs.length:=(List.getElem?_eq_some_iff.mp hj).1
   have kc0:H qc=some (.tup (c.map V.int)):=st.dq.key _ (List.mem_of_getElem? hj)
   dsimp only [bG]
   unfold jA mB de
   refine fh (v:=.ref qb) rfl ?_
   refine fh (v:=.ref qc) rfl ?_
   refine nS (s3 _ _ kb0) (s3 _ _ kc0) ?_
   refine aG (λz=>?_) (λz=>?_)
   ·have ne:b≠c:=λe=>by
     have z:(!decide (b=c))=true:=z
     rw[decide_eq_true e]at z; cases z
    refine⟨p,qb,qc,rows,PS,bM PS,kvs,b,c,rfl,st.same s3,lP,s3 _ _ kb0,s3 _ _ kc0,(nsk b).mp bm,(nsk c).mp cm,ne,λd ks H4 s4 n4 h4 fd=>?_⟩
    refine⟨sz rfl,λq5 H5 g5=>?_⟩
    have s35:=s4.trans g5.sm
    have gr5:=gr3.same s35
    refine⟨pa,q5,kvB,(b,c),rfl,rfl,gr5.dp,⟨qb,qc,g5.at_,s35 _ _ (s3 _ _ kb0),s35 _ _ (s3 _ _ kc0)⟩,?_,λH6 d6 so=>?_⟩
    ·have:kvs.length*i<=400*400:=Nat.mul_le_mul lk (by omega)
     rw[sizeLine_eq]
     omega
    ·refine⟨λc0 u e=>?_,⟨_,(gr5.put (k:=(b,c)) (λz=>?_) (g5.sm _ _ h4) (fd.mono λq xs z=>g5.sm _ _ z) d6 so).nE λx=>?_,by rw[List.length_append]; simp; omega⟩,_,rfl⟩
     ·rw[so c0 (λz=>by rw[z,g1.nw]at e; cases e)]
      exact s35 _ _ (s3 _ _ e)
     ·rcases z.2 with z | z
      ·exact jV nsN hbi z.1
      ·exact jV nsN hcj z.2
     ·rw[cw hcj]
      constructor
      ·rintro (z | rfl)
       ·exact⟨z.1,z.2.imp id λy=>⟨y.1,.inl y.2⟩⟩
       ·exact⟨ne,.inr ⟨rfl,.inr rfl⟩⟩
      ·rintro⟨z1,z | ⟨z2,z | z⟩⟩
       ·exact .inl ⟨z1,.inl z⟩
       ·exact .inl ⟨z1,.inr ⟨z2,z⟩⟩
       ·exact .inr (Prod.ext z2 z)
   ·have e:b=c:=Classical.byContradiction λe=>z (by show (!decide (b=c))=true; rw[decide_eq_false e]; rfl)
    refine⟨s3,⟨kvB,gr3.nE λx=>?_,by omega⟩,_,rfl⟩
    rw[cw hcj]
    constructor
    ·exact λz=>⟨z.1,z.2.imp id λy=>⟨y.1,.inl y.2⟩⟩
    ·rintro⟨z1,z | ⟨z2,z | z⟩⟩
     ·exact⟨z1,.inl z⟩
     ·exact⟨z1,.inr ⟨z2,z⟩⟩
     ·exact absurd (z2.trans (e.trans z.symm)) z1
  ·rintro σ H3 ⟨s3,⟨kvB,gr3,lB⟩,v3,rfl⟩
   refine⟨s3,⟨kvB,gr3.nE λx=>?_,by rw[Nat.mul_succ]; exact lB⟩,_,_,rfl⟩
   rw[<- lns,List.take_length,cw hbi]
   constructor
   ·rintro⟨z1,z | z⟩
    ·exact⟨z1,.inl z.1,z.2⟩
    ·exact⟨z1,.inr z.1,z.2⟩
   ·rintro⟨z1,z | z,z2⟩
    ·exact⟨z1,.inl ⟨z,z2⟩⟩
    ·exact⟨z1,.inr ⟨z,z2⟩⟩
 ·rintro σ H2 ⟨s2,⟨kvA,gr,lA⟩,v2,v3,rfl⟩
  refine k pa kvA H2 s2 g1.nw (gr.nE λx=>?_) lA
  rw[<- lns,List.take_length]
  show _ ↔ bM PS x.1/\bM PS x.2/\x.1≠x.2
  rw[<- nsk,<- nsk]
  exact⟨λz=>⟨z.2.1,z.2.2,z.1⟩,λz=>⟨z.2.2,z.1,z.2.1⟩⟩
def aK(F:aa->Int->Option aa):aa->List Int->Option aa
 | k,[]=>some k
 | k,x :: r=>(F k x).bind λg=>aK F g r
theorem jT(F:aa->Int->Option aa)(k:aa)(r:List Int)(x:Int):aK F k (r++[x])=(aK F k r).bind λg=>F g x:=by
 induction r generalizing k with
 | nil =>
  show (F k x).bind (λg=>some g)=F k x
  cases F k x <;> rfl
 | cons y r ih =>
  show (F k y).bind (λg=>aK F g (r++[x]))=((F k y).bind λg=>aK F g r).bind λg=>F g x
  cases F k y with
  | none=>rfl
  | some g=>exact ih g
def uH(F:aa->Int->Option aa)(k:aa)(n:Nat):Prop:=∀ r g,aK F k r=some g->r.length<=n
def bA(H:Hp)(kvs:List (aa × Addr × V))(k:aa)(q:Addr)(n:Nat)(bv:V):Prop:=aA kvs k=some (.ref q)/\H q=some (.tup [.int (n:Int),bv])
structure fF (H:Hp) (a:Addr) (kvs:List (aa × Addr × V)) (F:aa->Int->Option aa) (N:aa->Prop):Prop where
 dp:DP H a kvs
 sub : ∀ k,k∈kvs.map (λe=>e.1)->N k
 val : ∀ k,k∈kvs.map (λe=>e.1)->∃ q n bv,bA H kvs k q n bv/\(n<=160000/\uH F k n)/\(n=0\/∃ x g q' bv',bv=.int x/\F k x=some g/\bA H kvs g q' (n - 1) bv')
theorem bA.key{H:Hp}{kvs:List (aa × Addr × V)}{k:aa}{q:Addr}{n:Nat}{bv:V}(h:bA H kvs k q n bv):k∈kvs.map λe=>e.1:=by
 obtain⟨e,he,e1,_⟩:=dO h.1
 exact List.mem_map.mpr ⟨e,he,e1⟩
theorem bA.same{H H':Hp}{kvs:List (aa × Addr × V)}{k:aa}{q:Addr}{n:Nat}{bv:V}(h:bA H kvs k q n bv)(s : ∀ q xs,H q=some (.tup xs)->H' q=some (.tup xs)):bA H' kvs k q n bv:=⟨h.1,s _ _ h.2⟩
theorem fF.same{H H':Hp}{a:Addr}{kvs:List (aa × Addr × V)}{F:aa->Int->Option aa}{N:aa->Prop}(h:fF H a kvs F N)(s:af H H'):fF H' a kvs F N :=
 ⟨h.dp.same s,h.sub,λk hk=>by
  obtain⟨q,n,bv,a,l,b⟩:=h.val k hk
  refine⟨q,n,bv,a.same λq xs z=>s _ _ z,l,b.imp id ?_⟩
  rintro⟨x,g,q',bv',b1,b2,b3⟩
  exact⟨x,g,q',bv',b1,b2,b3.same λq xs z=>s _ _ z⟩⟩
theorem bA.one{H:Hp}{kvs:List (aa × Addr × V)}{k:aa}{q q':Addr}{n n':Nat}{bv bv':V}(h:bA H kvs k q n bv)(h':bA H kvs k q' n' bv'):q=q'/\n=n'/\bv=bv':=by
 obtain⟨h1,h2⟩:=h
 obtain⟨g1,g2⟩:=h'
 rw[h1]at g1; cases g1
 rw[h2]at g2
 injection g2 with e
 injection e with e
 injection e with e1 e2
 injection e2 with e2 _
 injection e1 with e1
 exact⟨rfl,by omega,e2⟩
def wn:Sp:=λvs H Q _=>∃ (a fa q:Addr) (kvA kvF:List (aa × Addr × V)) (F:aa->Int->Option aa) (N:aa->Prop) (k:aa) (qv:Addr) (n:Nat) (bv:V),vs=[.ref a,.ref fa,.ref q]/\Gr H a kvA F N/\fF H fa kvF F N/\aC H k q/\bA H kvF k qv n bv /\
 ∀ l r H',af H H'->H l=none->H' l=some (.lst (r.map V.int))->r.length=n->(∃ g,aK F k r=some g)->Q (.ref l) H'
theorem A3 (T:Txt K mg t):bi P w K mg base "row_apart" 1 t.oN t.nj ["apart", "far", "pair"] wn:=by
 refine⟨T.BF,T.uS.kp,T.Dz,T.uS.okQ jG (λvs H Q E h=>by obtain⟨a,fa,q,kvA,kvF,F,N,k,qv,n,bv,rfl,_⟩:=h; rfl) λcdv A outer s H vs Q E hr h=>?_⟩
 obtain⟨a,fa,q,kvA,kvF,F,N,k,qv,n,bv,rfl,gr,fr,kq,fv,kk⟩:=h
 have hu:=hr.units
 have nl:n<=160000:=by
  obtain⟨q0,n0,bv0,fv0,l0,_⟩:=fr.val k fv.key
  obtain⟨_,rfl,_⟩:=fv0.one fv
  exact l0.1
 refine⟨_,(aw (aS (i:=3) jG.nd rfl (.inl rfl) (cR ag))
  (aw (lO PassesOwn.never (bJ mM (be (bh (K:=K) rfl) (cS hu (ab 1) (ab 2)) aB (λ_ _=>rfl)) aB (bf _)) (aw (aS (i:=4) jG.nd rfl (.inl rfl) (be (bh (K:=K) rfl) (cS hu (ab 1) (ab 2)) aB (λ_ _=>rfl)))
  (aw (eC (ib (K:=K) rfl PySem.F.plainAttrs_list PySem.F.slot_list_append PySem.F.type_list_append ip (ab 3) (ae (ab 4) ag)))
  (av (aS (i:=2) jG.nd rfl (.inl rfl) (jR hu (cS hu (ab 0) (ab 2)) (ab 4)))))))
  (av (aT (ab 3))))),?_⟩
 refine⟨sz rfl,λl H1 g1=>?_⟩
 have sl : ∀ {H':Hp},eQ l H1 H'->af H H':=λ{H'} b c u e=>b c u (λz=>by rw[z,g1.nw]at e; cases e) (g1.sm _ _ e)
 refine⟨λm σ H'=>eQ l H1 H'/\∃ q' k' qv' bv' r v4,σ=[some (.ref a),some (.ref fa),some (.ref q'),some (.ref l),v4]/\aC H' k' q'/\bA H' kvF k' qv' m bv'/\H' l=some (.lst (r.map V.int))/\r.length+m=n/\aK F k r=some k',⟨n,λc u _ e=>e,q,k,qv,bv,[],_,rfl,kq.same g1.sm,fv.same λq xs z=>g1.sm _ _ z,g1.at_,by simp,rfl⟩,?_⟩
 rintro m σ H2 ⟨b2,q',k',qv',bv',r,v4,rfl,kq',fv',hl,ln,hp⟩
 have s2:=sl b2
 have fr2:=fr.same s2
 have gr2:=gr.same s2
 refine⟨fa,q',kvF,k',.ref qv',rfl,rfl,fr2.dp,kq',fv'.1,?_⟩
 refine⟨_,.int (m:Int),.inr (.of fv'.2),rfl,?_⟩
 refine aG (λz=>?_) (λz=>?_)
 ·have mp:0 < m:=by have:=of_decide_eq_true z; omega
  obtain⟨q0,n0,bv0,fv0,l0,c0⟩:=fr2.val k' fv'.key
  obtain⟨rfl,rfl,rfl⟩:=fv0.one fv'
  rcases c0 with c0 | ⟨x,g,q1,bv1,rfl,c2,c3⟩
  ·omega
  obtain⟨v,hv⟩:=dA ((gr2.key k').mpr (fr2.sub k' fv'.key))
  obtain⟨e0,he0,e01,e02⟩:=dO hv
  obtain⟨d,ks,a1,a2,a3⟩:=gr2.val e0 he0
  rw[e02]at a1
  subst a1
  rw[e01]at a3
  obtain⟨qg,y1,y2⟩:=a3.yes x g trivial c2
  refine⟨_,λσ' H' h=>⟨n0 - 1,by omega,h⟩,?_⟩
  refine⟨fa,q',kvF,k',.ref q0,rfl,rfl,fr2.dp,kq',fv'.1,?_⟩
  refine⟨_,.int x,.inr (.of fv'.2),rfl,?_⟩
  refine⟨.inl ⟨rfl,_,.of hl⟩,_,hl,?_,?_⟩
  ·rw[List.length_map,sizeLine_eq]
   omega
  obtain⟨H3,e3⟩ : ∃ H3,H3=upd H2 l (.lst (r.map V.int++[.int x])):=⟨_,rfl⟩
  have l3:H3 l=some (.lst ((r++[x]).map V.int)):=by rw[e3,aN,List.map_append]; rfl
  have b3:eQ l H1 H3:=λc u n e=>by rw[e3,aj n]; exact b2 c u n e
  have tu3 : ∀ q xs,H2 q=some (.tup xs)->H3 q=some (.tup xs):=λq xs z=>by rw[e3,aj (ax z hl (by intro z; cases z))]; exact z
  rw[<- e3]
  have s3:=sl b3
  have gr3:=gr.same s3
  have d3:H3 d=some (.dK ks):=by rw[e3,aj (ax a2 hl (by intro z; cases z))]; exact a2
  have ky3 : ∀ {k:aa} {q:Addr},aC H2 k q->aC H3 k q:=λ{k q} h=>by
   obtain⟨c,b,h1,h2,h3⟩:=h
   exact⟨c,b,tu3 _ _ h1,tu3 _ _ h2,tu3 _ _ h3⟩
  clear e3
  refine⟨a,q',kvA,k',.ref d,rfl,rfl,gr3.dp,ky3 kq',hv,?_⟩
  refine⟨d,_,rfl,by have:=dy.k (k:=.inl x) d3; rw[y1]at this; exact this,?_⟩
  refine⟨b3,qg,g,q1,bv1,r++[x],_,rfl,ky3 y2,c3.same tu3,l3,by rw[List.length_append]; simp; omega,?_⟩
  rw[jT,hp]
  exact c2
 ·have m0:m=0:=by
   cases m with
   | zero=>rfl
   | succ m=>exact absurd (decide_eq_true (by omega)) z
  exact kk l r H2 s2 g1.nw hl (by omega) ⟨k',hp⟩
structure iC (F:aa->Int->Option aa) (N:aa->Prop) (k:aa) (r:List Int) (kvM:List (aa × Addr × V)):Prop where
 len:kvM.length=r.length
 at_ : ∀ (i:Nat) e,kvM[i]? = some e->e.2.2=.int (i:Int)/\aK F k (r.take i)=some e.1/\N e.1
theorem ik(F:aa->Int->Option aa)(k:aa)(r s:List Int):aK F k (r++s)=(aK F k r).bind λg=>aK F g s:=by
 induction r generalizing k with
 | nil=>rfl
 | cons y r ih =>
  show (F k y).bind (λg=>aK F g (r++s))=((F k y).bind λg=>aK F g r).bind λg=>aK F g s
  cases F k y with
  | none=>rfl
  | some g=>exact ih g
theorem tQ{H H':Hp}{a d:Addr}{kvs:List (aa × Addr × V)}{ks:List (ak × V)}(h:DP H a kvs)(hd:H d=some (.dK ks))(s : ∀ c,c≠d->H' c=H c):DP H' a kvs:=by
 obtain⟨⟨xs,ep,h1,h2⟩,k,n,l⟩:=h
 have tu : ∀ q xs,H q=some (.tup xs)->H' q=some (.tup xs):=λq xs z=>by rw[s q (ax z hd (by intro z; cases z))]; exact z
 refine⟨⟨xs,ep,?_,h2⟩,λx hx=>?_,n,l⟩
 ·rw[s a (ax h1 hd (by intro z; cases z))]; exact h1
 ·obtain⟨c,b,z1,z2,z3⟩:=k x hx
  exact⟨c,b,tu _ _ z1,tu _ _ z2,tu _ _ z3⟩
theorem iB{H H':Hp}{a d:Addr}{kvs:List (aa × Addr × V)}{ys:List V}(h:DP H a kvs)(hd:H d=some (.lst ys))(s : ∀ c,c≠d->H' c=H c):DP H' a kvs:=by
 obtain⟨⟨xs,ep,h1,h2⟩,k,n,l⟩:=h
 have tu : ∀ q xs,H q=some (.tup xs)->H' q=some (.tup xs):=λq xs z=>by rw[s q (ax z hd (by intro z; cases z))]; exact z
 refine⟨⟨xs,ep,?_,h2⟩,λx hx=>?_,n,l⟩
 ·rw[s a (ax h1 hd (by intro z; cases z))]; exact h1
 ·obtain⟨c,b,z1,z2,z3⟩:=k x hx
  exact⟨c,b,tu _ _ z1,tu _ _ z2,tu _ _ z3⟩
theorem CC(ns:List Int)(i:Nat):cy (ns.map V.int) (some (i:Int)) none=(ns.drop i).map V.int:=by
 rw[kB,CF]
def wf:Sp:=λvs H Q _=>∃ (a fa q:Addr) (kvA kvF:List (aa × Addr × V)) (F:aa->Int->Option aa) (N:aa->Prop) (k:aa),vs=[.ref a,.ref fa,.ref q]/\Gr H a kvA F N/\kvA.length<=160000/\DP H fa kvF/\(∀ k x g,N k->F k x=some g->N g) /\
 (∀ k,N k->k∉kvF.map (λe=>e.1)->∃ x g,F k x=some g/\g∉kvF.map λe=>e.1)/\aC H k q/\N k/\k∉kvF.map (λe=>e.1) /\
 ∀ p q' l k' r H',af H H'->H' p=some (.tup [.ref q',.ref l])->H l=none->aC H' k' q'->N k'->H' l=some (.lst (r.map V.int))->r≠[]->r.length<=kvA.length->aK F k' r=some k'->Q (.ref p) H'
theorem AX (T:Txt K mg t):bi P w K mg base "trip_from" 1 t.oK t.nh ["apart", "far", "pair"] wf:=by
 refine⟨T.BA,T.uQ.kp,T.Dw,T.uQ.okQ iS (λvs H Q E h=>by obtain⟨a,fa,q,kvA,kvF,F,N,k,rfl,_⟩:=h; rfl) λcdv A outer s H vs Q E hr h=>?_⟩
 obtain⟨a,fa,q,kvA,kvF,F,N,k,rfl,gr,lA,df,cl,out,kq,nk,kf,kk⟩:=h
 have hu:=hr.units
 refine⟨_,(aw (aS (i:=3) iS.nd rfl (.inl rfl) (cR ag))
  (aw (aS (i:=4) iS.nd rfl (.inl rfl) ie)
  (aw (lO PassesOwn.never (bJ (mK hu) (ab 2) (ab 4) (by with_unfolding_all rfl)) (aw (ii hu (ab 4) (ab 2) (bj (cz (K:=K) rfl) T.n_len PySem.boot_len (ae (ab 3) ag)))
  (aw (lJ (lQ (i:=5) iS.nd rfl (.inl rfl) rfl (cg.of (fns:=(ao fM).names) (N:=["apart", "far", "pair", "row", "met", "onward"]) (Nc:=["byte", "goal", "far"]) (nv:=2) (caps:=[1]) rfl rfl (by decide +kernel)) (jN (cS hu (ab 0) (ab 2))) (λ_ _ _ _=>(cO (K:=K) rfl (n:=2) rfl (bn (aE (i:=0) (show List.Nodup (["byte", "goal", "far"]:List Str) by decide +kernel) rfl (Or.inl rfl) (Or.inr rfl)) (bn (aE (i:=1) (show List.Nodup (["byte", "goal", "far"]:List Str) by decide +kernel) rfl (Or.inl rfl) (Or.inr rfl)) cN)))) (λ_ _ _ _=>(lN (bJ (mK hu) (ab 1) (ab 2) (by with_unfolding_all rfl)))) (λ_ _ _ _=>(ab 0))))
  (aw (eC (ib (K:=K) rfl PySem.F.plainAttrs_list PySem.F.slot_list_append PySem.F.type_list_append ip (ab 3) (ae (be (bh (K:=K) rfl) (ab 5) aB (λ_ _=>rfl)) ag)))
  (av (aS (i:=2) iS.nd rfl (.inl rfl) (jR hu (cS hu (ab 0) (ab 2)) (be (bh (K:=K) rfl) (ab 5) aB (λ_ _=>rfl)))))))))
  (av (aT (cv (ae (ab 2) (ae (cP (dH (K:=K) rfl) (ab 3) (cD (cS hu (ab 4) (ab 2))) dC) ag)))))))),?_⟩
 refine⟨sz rfl,λl H1 g1=>?_⟩
 refine λpm H2 g2=>?_
 have npl:pm≠l:=λz=>by have:=g2.nw; rw[z,g1.at_]at this; cases this
 have npm:H pm=none:=by
  cases c:H pm with
  | none=>rfl
  | some u=>have:=g1.sm _ _ c; rw[g2.nw]at this; cases this
 refine⟨λm σ H'=>af H H'/\∃ q' k' r kvM v5,σ=[some (.ref a),some (.ref fa),some (.ref q'),some (.ref l),some (.ref pm),v5]/\aC H' k' q'/\N k'/\k'∉kvF.map (λe=>e.1)/\H' l=some (.lst (r.map V.int))/\DP H' pm kvM/\iC F N k r kvM/\aK F k r=some k'/\m=kvA.length - kvM.length,⟨kvA.length,g1.sm.trans g2.sm,q,k,[],[],_,rfl,kq.same (g1.sm.trans g2.sm),nk,kf,g2.sm _ _ g1.at_,DP.new g2,⟨rfl,λi e h=>by simp at h⟩,rfl,rfl⟩,?_⟩
 rintro m σ H3 ⟨s3,q',k',r,kvM,v5,rfl,kq',nk',kf',hl,dm,vs,hp,rfl⟩
 have gr3:=gr.same s3
 have mk : ∀ k0,k0∈kvM.map (λe=>e.1)->k0∈kvA.map λe=>e.1:=λk0 h=>by
  obtain⟨e,he,rfl⟩:=List.mem_map.mp h
  obtain⟨i,hi⟩:=List.getElem?_of_mem he
  exact (gr3.key _).mpr (vs.at_ i e hi).2.2
 have lM:kvM.length<=kvA.length:=by
  have:=List.Nodup.length_le_of_subset dm.nd mk
  rwa [List.length_map,List.length_map]at this
 refine⟨q',pm,kvM,k',rfl,rfl,dm,kq',?_⟩
 refine aG (λz=>?_) (λz=>?_)
 ·have hn:aA kvM k'=none:=by
   cases c:aA kvM k' with
   | none=>rfl
   | some v =>
    have z:(!(aA kvM k').isSome)=true:=z
    rw[c]at z; cases z
  have nm:k'∉kvM.map λe=>e.1:=λh=>by
   obtain⟨v,hv⟩:=dA h
   rw[hn]at hv; cases hv
  have ka:k'∈kvA.map λe=>e.1:=(gr3.key k').mpr nk'
  have lt:kvM.length+1<=kvA.length:=by
   have:=List.Nodup.length_le_of_subset (List.nodup_cons.mpr ⟨nm,dm.nd⟩) (l₂:=kvA.map λe=>e.1) λx hx=>by
    rcases List.mem_cons.mp hx with h | h
    ·rw[h]; exact ka
    ·exact mk x h
   rwa [List.length_cons,List.length_map,List.length_map]at this
  refine⟨_,λσ' H' h=>⟨kvA.length - (kvM.length+1),by omega,h⟩,?_⟩
  refine⟨_,.inl (.of hl),?_⟩
  refine⟨pm,q',kvM,k',rfl,rfl,dm,kq',by rw[sizeLine_eq]; omega,λH4 d4 so4=>?_⟩
  rw[List.length_map,i4 hn]at d4
  have st4 : ∀ {c u},c≠pm->H3 c=some u->H4 c=some u:=λ{c u} n e=>by rw[so4 c n]; exact e
  obtain⟨xsm,epm,dhm,_⟩:=dm.ex
  have tu4 : ∀ q xs,H3 q=some (.tup xs)->H4 q=some (.tup xs):=λq xs z=>st4 (ax z dhm (by intro z; cases z)) z
  have s4:af H H4:=λc u e=>st4 (λz=>by rw[z,npm]at e; cases e) (s3 _ _ e)
  have gr4:=gr.same s4
  have df4:=df.same s4
  have ky4 : ∀ {H H':Hp} {k:aa} {q:Addr},(∀ q xs,H q=some (.tup xs)->H' q=some (.tup xs))->aC H k q->aC H' k q:=λs h=>by
   obtain⟨c,b,h1,h2,h3⟩:=h
   exact⟨c,b,s _ _ h1,s _ _ h2,s _ _ h3⟩
  have l4:H4 l=some (.lst (r.map V.int)):=st4 npl.symm hl
  obtain⟨v,hv⟩:=dA ka
  obtain⟨e0,he0,e01,e02⟩:=dO hv
  obtain⟨d,ks,a1,a2,a3⟩:=gr4.val e0 he0
  rw[e02]at a1
  subst a1
  rw[e01]at a3
  obtain⟨x1,g1',o1,o2⟩:=out k' nk' kf'
  obtain⟨qx,y1,_⟩:=a3.yes x1 g1' trivial o1
  refine⟨d,.dK ks,(λo v z=>by rw[a2]at z; cases z),?_⟩
  refine⟨a,q',kvA,k',.ref d,rfl,rfl,gr4.dp,ky4 tu4 kq',hv,?_⟩
  refine⟨d,ks,rfl,a2,λob=>?_⟩
  obtain⟨H5,e5⟩ : ∃ H5,H5=upd H4 d (.frz ob (.dK ks)):=⟨_,rfl⟩
  have f5:H5 d=some (.frz ob (.dK ks)):=by rw[e5,aN]
  have b5 : ∀ {c u},c≠d->H4 c=some u->H5 c=some u:=λ{c u} n e=>by rw[e5,aj n]; exact e
  have df5:DP H5 fa kvF:=tQ df4 a2 λc n=>by rw[e5,aj n]
  have tu5 : ∀ q xs,H4 q=some (.tup xs)->H5 q=some (.tup xs):=λq xs z=>b5 (ax z a2 (by intro z; cases z)) z
  rw[<- e5]
  clear e5
  refine n5 (K:=K) (λi ys H'=>af H5 H'/\∃ bs:List Int,ys=bs.map V.int/\bs.length<=i/\(∀ x∈bs,∃ g,F k' x=some g/\g∉kvF.map λe=>e.1)/\∀ j x v,j < i->ks[j]? = some (.inl x,v)->∀ g,F k' x=some g->g∉kvF.map (λe=>e.1)->bs≠[]) ⟨af.refl _,[],rfl,Nat.zero_le _,(λx h=>nomatch h),λj x v h=>absurd h (by omega)⟩ (λi ys H' hi z=>⟨z.1 _ _ f5,?_⟩) (dg (by have:=a3.len; omega)) (λi ky v ys H6 H7 NN hkv z s67 hN=>?_) λys H6 p7 H7 z g7=>?_
  ·obtain⟨_,bs,rfl,lb,_⟩:=z
   rw[List.length_map]; exact lb
  ·obtain⟨s6,bs,rfl,lb,al,ne⟩:=z
   obtain⟨x,hx⟩:=a3.int _ (List.mem_of_getElem? hkv)
   have hx:ky=.inl x:=hx
   subst hx
   have hvx:=iK a3.nd hkv
   obtain⟨g,hg⟩ : ∃ g,F k' x=some g:=by
    cases c:F k' x with
    | some g=>exact⟨g,rfl⟩
    | none=>rw[a3.no x λ_=>c]at hvx; cases hvx
   obtain⟨qg,w1,w2⟩:=a3.yes x g trivial hg
   rw[hvx]at w1
   cases w1
   have s57:=s6.trans s67
   refine⟨qg,fa,kvF,g,rfl,rfl,df5.same s57,ky4 (λq xs z=>s57 _ _ (tu5 _ _ z)) w2,?_⟩
   have old : ∀ j x' v',j < i+1->ks[j]? = some (.inl x',v')->j < i\/x'=x:=λj x' v' hj hk=>by
    by_cases c:j=i
    ·subst c
     rw[hkv]at hk; cases hk
     exact .inr rfl
    ·exact .inl (by omega)
   refine aG (λz=>?_) (λz=>?_)
   ·have ng:g∉kvF.map λe=>e.1:=λh=>by
     obtain⟨v,hv⟩:=dA h
     have z:(!(aA kvF g).isSome)=true:=z
     rw[hv]at z; cases z
    refine hN _ _ ⟨s57,bs++[x],by rw[List.map_append]; rfl,by rw[List.length_append]; simp; omega,λy hy=>?_,λ_ _ _ _ _ _ _ _=>by simp⟩
    rcases List.mem_append.mp hy with h | h
    ·exact al y h
    ·rw[List.mem_singleton.mp h]; exact⟨g,hg,ng⟩
   ·have ig:g∈kvF.map λe=>e.1:=Classical.byContradiction λh=>z (by show (!(aA kvF g).isSome)=true; rw[iO h]; rfl)
    refine hN _ _ ⟨s57,bs,rfl,by omega,al,λj x' v' hj hk g' hg' ng'=>?_⟩
    rcases old j x' v' hj hk with c | c
    ·exact ne j x' v' c hk g' hg' ng'
    ·rw[c,hg]at hg'; cases hg'
     exact absurd ig ng'
  ·obtain⟨s6,bs,rfl,lb,al,ne⟩:=z
   have s57:=s6.trans g7.sm
   have bne:bs≠[]:=by
    unfold aJ at y1
    obtain⟨y,hy,_⟩:=Option.map_eq_some_iff.mp y1
    have ey:y.1=.inl x1:=by have z:=List.find?_some hy; exact of_decide_eq_true z
    obtain⟨j,hj⟩:=List.getElem?_of_mem (List.mem_of_find?_eq_some hy)
    exact ne j x1 y.2 (List.getElem?_eq_some_iff.mp hj).1 (by rw[hj,<- ey]) g1' o1 o2
   obtain⟨x0,tl,rfl⟩ : ∃ x0 tl,bs=x0 :: tl:=by
    cases bs with
    | nil=>exact absurd rfl bne
    | cons x0 tl=>exact⟨x0,tl,rfl⟩
   obtain⟨g,hg,ng⟩:=al x0 (List.mem_cons_self ..)
   obtain⟨qg,w1,w2⟩:=a3.yes x0 g trivial hg
   refine⟨⟨ob,s57 _ _ f5⟩,?_⟩
   obtain⟨H8,e8⟩ : ∃ H8,H8=upd H7 d (.dK ks):=⟨_,rfl⟩
   have d8:H8 d=some (.dK ks):=by rw[e8,aN]
   have s48:af H4 H8:=λc u e=>by
    by_cases n:c=d
    ·subst n
     rw[a2]at e; cases e
     exact d8
    ·rw[e8,aj n]
     exact s57 _ _ (b5 n e)
   have p8:H8 p7=some (.lst ((x0 :: tl).map V.int)):=by rw[e8,aj (ax g7.at_ (s57 _ _ f5) (by intro z; cases z))]; exact g7.at_
   rw[<- e8]
   clear e8
   have l8:=s48 _ _ l4
   have rl:r.length<=160000:=by have:=vs.len; omega
   have n7l:p7≠l:=λz=>by have:=g7.nw; rw[z,s6 _ _ (b5 (ax l4 a2 (by intro z; cases z)) l4)]at this; cases this
   refine⟨.inl ⟨rfl,_,.of l8⟩,_,.int x0,.inl (.of p8),bW (j:=0) rfl,_,l8,by rw[List.length_map,sizeLine_eq]; omega,?_⟩
   obtain⟨H9,e9⟩ : ∃ H9,H9=upd H8 l (.lst (r.map V.int++[.int x0])):=⟨_,rfl⟩
   have l9:H9 l=some (.lst ((r++[x0]).map V.int)):=by rw[e9,aN,List.map_append]; rfl
   have so9 : ∀ c,c≠l->H9 c=H8 c:=λc n=>by rw[e9,aj n]
   have tu9 : ∀ q xs,H8 q=some (.tup xs)->H9 q=some (.tup xs):=λq xs z=>by rw[so9 q (ax z l8 (by intro z; cases z))]; exact z
   have s9:af H H9:=λc u e=>by rw[so9 c (λz=>by rw[z,g1.nw]at e; cases e)]; exact s48 _ _ (s4 _ _ e)
   rw[<- e9]
   clear e9
   have p9:H9 p7=some (.lst ((x0 :: tl).map V.int)):=by rw[so9 _ n7l]; exact p8
   have d9:H9 d=some (.dK ks):=by rw[so9 _ (ax d8 l8 (by intro z; cases z))]; exact d8
   have tu39 : ∀ q xs,H3 q=some (.tup xs)->H9 q=some (.tup xs):=λq xs z=>tu9 _ _ (s48 _ _ (tu4 _ _ z))
   refine⟨a,q',kvA,k',.ref d,rfl,rfl,(gr.same s9).dp,ky4 tu39 kq',hv,?_⟩
   refine⟨_,.int x0,.inl (.of p9),bW (j:=0) rfl,?_⟩
   refine⟨d,_,rfl,by have:=dy.k (k:=.inl x0) d9; rw[w1]at this; exact this,?_⟩
   refine⟨s9,qg,g,r++[x0],kvM++[(k',q',.int (r.length:Int))],_,rfl,ky4 (λq xs z=>tu9 _ _ (s48 _ _ z)) w2,cl k' x0 g nk' hg,ng,l9,iB (d4.same s48) l8 so9,⟨by rw[List.length_append,List.length_append,vs.len]; rfl,λi e hi=>?_⟩,?_,by rw[List.length_append]; rfl⟩
   ·by_cases c:i < kvM.length
    ·rw[List.getElem?_append_left c]at hi
     obtain⟨v1,v2,v3⟩:=vs.at_ i e hi
     have:=vs.len
     exact⟨v1,by rw[List.take_append_of_le_length (by omega)]; exact v2,v3⟩
    ·have il:=(List.getElem?_eq_some_iff.mp hi).1
     rw[List.length_append]at il
     have il:i < kvM.length+1:=il
     have ei:i=kvM.length:=by omega
     subst ei
     rw[List.getElem?_append_right (Nat.le_refl _),Nat.sub_self]at hi
     cases hi
     refine⟨by rw[vs.len],?_,nk'⟩
     rw[vs.len,List.take_append_of_le_length (Nat.le_refl _),List.take_length]
     exact hp
   ·rw[jT,hp]
    exact hg
 ·obtain⟨v,hv⟩ : ∃ v,aA kvM k'=some v:=by
   cases c:aA kvM k' with
   | some v=>exact⟨v,rfl⟩
   | none=>exact absurd (show (!(aA kvM k').isSome)=true by rw[c]; rfl) z
  obtain⟨e,he,e1,e2⟩:=dO hv
  obtain⟨i,hi⟩:=List.getElem?_of_mem he
  obtain⟨v1,v2,v3⟩:=vs.at_ i e hi
  rw[e2]at v1
  subst v1
  rw[e1]at v2
  have il:i < r.length:=by have:=(List.getElem?_eq_some_iff.mp hi).1; have:=vs.len; omega
  refine⟨pm,q',kvM,k',.int (i:Int),rfl,rfl,dm,kq',hv,?_⟩
  refine⟨_,rfl,_,.of hl,λl5 H5 g5=>?_⟩
  refine⟨sz rfl,λp6 H6 g6=>?_⟩
  have s6:=s3.trans (g5.sm.trans g6.sm)
  refine kk p6 q' l5 k' (r.drop i) H6 s6 g6.at_ ?_ (kq'.same (g5.sm.trans g6.sm)) nk' ?_ ?_ (by rw[List.length_drop]; have:=vs.len; omega) ?_
  ·cases c:H l5 with
   | none=>rfl
   | some u=>have:=s3 _ _ c; rw[g5.nw]at this; cases this
  ·have:=g6.sm _ _ g5.at_
   rw[CC]at this
   exact this
  ·intro c
   have:=congrArg List.length c
   rw[List.length_drop]at this
   simp at this
   omega
  ·have:=ik F k (r.take i) (r.drop i)
   rw[List.take_append_drop,hp,v2]at this
   exact this.symm
def we:Sp:=λvs H Q _=>∃ (q l:Addr) (k:aa),vs=[.ref q,.ref l]/\aC H k q /\
 ∀ p l1 l2 H',af H H'->H' p=some (.tup [.ref l1,.ref l2,.ref l])->H l1=none->H l2=none->l1≠l2->H' l1=some (.lst (k.1.map V.int))->H' l2=some (.lst (k.2.map V.int))->Q (.ref p) H'
theorem sZ (T:Txt K mg t):bi P w K mg base "witness" 1 t.oJ t.m9 ["pair", "row"] we:=by
 refine⟨T.Bz,T.uP.kp,T.Dv,T.uP.okQ wS (λvs H Q E h=>by obtain⟨q,l,k,rfl,_⟩:=h; rfl) λcdv A outer s H vs Q E hr h=>?_⟩
 obtain⟨q,l,k,rfl,⟨c,b,h1,h2,h3⟩,kk⟩:=h
 have hu:=hr.units
 refine⟨_,(av (aT (cv (ae (dE (jf (K:=K) rfl) T.n_list PyProof.Rows.boot_list (ae (be (bh (K:=K) rfl) (ab 0) aB (λ_ _=>rfl)) ag)) (ae (dE (jf (K:=K) rfl) T.n_list PyProof.Rows.boot_list (ae (be (bh (K:=K) rfl) (ab 0) aB (λ_ _=>rfl)) ag)) (ae (ab 1) ag)))))),?_⟩
 refine⟨_,.ref c,.inr (.of h1),rfl,?_⟩
 refine⟨_,.inr (.of h2),λl1 H1 g1=>?_⟩
 refine⟨_,.ref b,.inr (.of (g1.sm _ _ h1)),rfl,?_⟩
 refine⟨_,.inr (.of (g1.sm _ _ h3)),λl2 H2 g2=>?_⟩
 refine⟨sz rfl,λp H3 g3=>?_⟩
 have n2:H l2=none:=by
  cases c:H l2 with
  | none=>rfl
  | some u=>have:=g1.sm _ _ c; rw[g2.nw]at this; cases this
 exact kk p l1 l2 H3 (g1.sm.trans (g2.sm.trans g3.sm)) g3.at_ g1.nw n2 (λz=>by have:=g2.nw; rw[<- z,g1.at_]at this; cases this) (g3.sm _ _ (g2.sm _ _ g1.at_)) (g3.sm _ _ g2.at_)
def fG(H:Hp)(F:Int->Option aa)(y:ak × V)(e:Int × aa):Prop:=y.1=.inl e.1/\F e.1=some e.2/\∃ q,y.2=.ref q/\aC H e.2 q
theorem Cm{H:Hp}{F:Int->Option aa}{n:Nat}{ks:List (ak × V)}(h:cu H F (λ_=>True) n ks) : ∃ es:List (Int × aa),au (fG H F) ks es:=by
 have all : ∀ y∈ks,∃ e,fG H F y e:=λy hy=>by
  obtain⟨i,hi⟩:=List.getElem?_of_mem hy
  obtain⟨x,hx⟩:=h.int y hy
  have hv:=iK (k:=y.1) (v:=y.2) h.nd hi
  rw[hx]at hv
  cases c:F x with
  | none=>rw[h.no x λ_=>c]at hv; cases hv
  | some g =>
   obtain⟨q,y1,y2⟩:=h.yes x g trivial c
   rw[hv]at y1
   exact⟨(x,g),hx,c,q,Option.some.inj y1,y2⟩
 clear h
 induction ks with
 | nil=>exact⟨[],au.nil⟩
 | cons y ks ih =>
  obtain⟨e,he⟩:=all y (List.mem_cons_self ..)
  obtain⟨es,h⟩:=ih λz hz=>all z (List.mem_cons_of_mem _ hz)
  exact⟨e :: es,au.cons he h⟩
structure jq (H:Hp) (a:Addr) (kvs:List (aa × Addr × V)) (F:aa->Int->Option aa) (N:aa->Prop) (E:aa->List (Int × aa)):Prop where
 dp:DP H a kvs
 key : ∀ k,k∈kvs.map (λe=>e.1) ↔ N k
 val : ∀ e∈kvs,∃ d ks,e.2.2=.ref d/\H d=some (.dK ks)/\cu H (F e.1) (λ_=>True) 390 ks/\au (fG H (F e.1)) ks (E e.1)
theorem fG.mono{H H':Hp}{F:Int->Option aa}{ks:List (ak × V)}{es:List (Int × aa)}(h:au (fG H F) ks es)(s : ∀ q xs,H q=some (.tup xs)->H' q=some (.tup xs)):au (fG H' F) ks es :=
 h.imp λy e ⟨a,b,q,c,x,y,z1,z2,z3⟩=>⟨a,b,q,c,x,y,s _ _ z1,s _ _ z2,s _ _ z3⟩
theorem jq.same{H H':Hp}{a:Addr}{kvs:List (aa × Addr × V)}{F:aa->Int->Option aa}{N:aa->Prop}{E:aa->List (Int × aa)}(h:jq H a kvs F N E)(s:af H H'):jq H' a kvs F N E :=
 ⟨h.dp.same s,h.key,λe he=>let ⟨d,ks,a,b,c,f⟩:=h.val e he; ⟨d,ks,a,s _ _ b,c.mono λq xs z=>s _ _ z,fG.mono f λq xs z=>s _ _ z⟩⟩
theorem rR{kvs:List (aa × Addr × V)}(nd:(kvs.map λe=>e.1).Nodup){e e':aa × Addr × V}(h:e∈kvs)(h':e'∈kvs)(k:e.1=e'.1):e=e':=by
 obtain⟨i,hi⟩:=List.getElem?_of_mem h
 obtain⟨j,hj⟩:=List.getElem?_of_mem h'
 have l1:=(List.getElem?_eq_some_iff.mp hi).1
 have q1:(kvs.map λe=>e.1)[i]? = some e'.1:=by rw[List.getElem?_map,hi]; exact congrArg some k
 have q2:(kvs.map λe=>e.1)[j]? = some e'.1:=by rw[List.getElem?_map,hj]; rfl
 have:=(List.getElem?_inj (by rw[List.length_map]; exact l1) nd).mp (q1.trans q2.symm)
 subst this
 rw[hi]at hj; cases hj; rfl
theorem Bk{H:Hp}{a:Addr}{kvs:List (aa × Addr × V)}{F:aa->Int->Option aa}{N:aa->Prop}(h:Gr H a kvs F N) : ∃ E,jq H a kvs F N E:=by
 have all : ∀ k,∃ es,∀ e∈kvs,e.1=k->∃ d ks,e.2.2=.ref d/\H d=some (.dK ks)/\cu H (F e.1) (λ_=>True) 390 ks/\au (fG H (F e.1)) ks es:=λk=>by
  by_cases c:k∈kvs.map λe=>e.1
  ·obtain⟨e,he,rfl⟩:=List.mem_map.mp c
   obtain⟨d,ks,a1,a2,a3⟩:=h.val e he
   obtain⟨es,a4⟩:=Cm a3
   refine⟨es,λe' he' ek=>?_⟩
   cases rR h.dp.nd he' he ek
   exact⟨d,ks,a1,a2,a3,a4⟩
  ·exact⟨[],λe he ek=>absurd (List.mem_map.mpr ⟨e,he,ek⟩) c⟩
 exact⟨λk=>Classical.choose (all k),h.dp,h.key,λe he=>Classical.choose_spec (all e.1) e he rfl⟩
structure ba (H:Hp) (a:Addr) (kvs:List (aa × Addr × V)) (N:aa->Prop) (ed:List (aa × aa)):Prop where
 dp:DP H a kvs
 key : ∀ k,k∈kvs.map (λe=>e.1) ↔ N k
 val : ∀ e∈kvs,∃ l qs,e.2.2=.ref l/\H l=some (.lst (qs.map V.ref))/\au (λq p=>aC H p q) qs ((ed.filter λpg=>decide (pg.2=e.1)).map λpg=>pg.1)
 inj : ∀ e∈kvs,∀ e'∈kvs,e.2.2=e'.2.2->e.1=e'.1
theorem ba.nE{H:Hp}{a:Addr}{kvs:List (aa × Addr × V)}{N N':aa->Prop}{ed:List (aa × aa)}(h:ba H a kvs N ed)(e : ∀ k,N k ↔ N' k):ba H a kvs N' ed:=⟨h.dp,λk=>(h.key k).trans (e k),h.val,h.inj⟩
theorem ba.same{H H':Hp}{a:Addr}{kvs:List (aa × Addr × V)}{N:aa->Prop}{ed:List (aa × aa)}(h:ba H a kvs N ed)(s:af H H'):ba H' a kvs N ed :=
 ⟨h.dp.same s,h.key,λe he=>let ⟨l,qs,a,b,c⟩:=h.val e he; ⟨l,qs,a,s _ _ b,c.imp λq p z=>z.same s⟩,h.inj⟩
theorem br{H H':Hp}{k:aa}{q:Addr}(h:aC H k q)(s : ∀ q xs,H q=some (.tup xs)->H' q=some (.tup xs)):aC H' k q:=by
 obtain⟨c,b,h1,h2,h3⟩:=h
 exact⟨c,b,s _ _ h1,s _ _ h2,s _ _ h3⟩
theorem ba.but{H H':Hp}{a d:Addr}{kvs:List (aa × Addr × V)}{N:aa->Prop}{ed:List (aa × aa)}{u:HO}(h:ba H a kvs N ed)(hd:H d=some u)(n1 : ∀ xs,u ≠ .tup xs)(n2 : ∀ xs,u ≠ .lst xs)(n3 : ∀ f,u ≠ .ext f)(s : ∀ c,c≠d->H' c=H c):ba H' a kvs N ed:=by
 have tu : ∀ q xs,H q=some (.tup xs)->H' q=some (.tup xs):=λq xs z=>by rw[s q (ax z hd (n1 xs).symm)]; exact z
 obtain⟨⟨⟨xs,ep,h1,h2⟩,k,n,l⟩,hk,hv,hj⟩:=h
 refine⟨⟨⟨xs,ep,by rw[s a (ax h1 hd (n3 _).symm)]; exact h1,h2⟩,λx hx=>br (k x hx) tu,n,l⟩,hk,λe he=>?_,hj⟩
 obtain⟨l,qs,a1,a2,a3⟩:=hv e he
 exact⟨l,qs,a1,by rw[s l (ax a2 hd (n2 _).symm)]; exact a2,a3.imp λq p z=>br z tu⟩
theorem ba.put{H H':Hp}{a l q:Addr}{kvs:List (aa × Addr × V)}{N:aa->Prop}{ed:List (aa × aa)}{p g:aa}{ys:List V}(h:ba H a kvs N ed)(hv:aA kvs g=some (.ref l))(hl:H l=some (.lst ys))(hq:aC H p q)
 (e':H'=upd H l (.lst (ys++[.ref q]))):ba H' a kvs N (ed++[(p,g)]):=by
 have so : ∀ c,c≠l->H' c=H c:=λc n=>by rw[e',aj n]
 have tu : ∀ q xs,H q=some (.tup xs)->H' q=some (.tup xs):=λq xs z=>by rw[so q (ax z hl (by intro z; cases z))]; exact z
 obtain⟨e0,he0,e01,e02⟩:=dO hv
 refine⟨iB h.dp hl so,h.key,λe he=>?_,h.inj⟩
 obtain⟨l1,qs,a1,a2,a3⟩:=h.val e he
 by_cases c:l1=l
 ·subst c
  have eg:e.1=g:=by rw[<- e01]; exact h.inj e he e0 he0 (a1.trans e02.symm)
  rw[hl]at a2; cases a2
  refine⟨l1,qs++[q],a1,by rw[e',aN,List.map_append]; rfl,?_⟩
  rw[List.filter_append,List.map_append]
  refine au.app (a3.imp λq p z=>br z tu) ?_
  rw[List.filter_cons_of_pos (by exact decide_eq_true eg.symm)]
  exact au.cons (br hq tu) au.nil
 ·refine⟨l1,qs,a1,by rw[so l1 c]; exact a2,?_⟩
  have ng : ¬ g=e.1:=λz=>by
   cases rR h.dp.nd he he0 (z.symm.trans e01.symm)
   rw[a1]at e02; cases e02
   exact c rfl
  rw[List.filter_append,List.filter_cons_of_neg (by simpa using ng),List.filter_nil,List.append_nil]
  exact a3.imp λq p z=>br z tu
theorem ba.new{H H':Hp}{a l q:Addr}{kvs:List (aa × Addr × V)}{N:aa->Prop}{k:aa}(h:ba H a kvs N [])(nk : ¬ N k)(hl:H l=some (.lst []))(nn : ∀ e∈kvs,e.2.2 ≠ .ref l)
 (dp:DP H' a (bK kvs k q (.ref l))) (so : ∀ c,c≠a->H' c=H c):ba H' a (kvs++[(k,q,.ref l)]) (λx=>N x\/x=k) []:=by
 obtain⟨xs,ep,h1,_⟩:=h.dp.ex
 have nv:aA kvs k=none:=iO λz=>nk ((h.key k).mp z)
 rw[i4 nv]at dp
 refine⟨dp,λx=>?_,λe he=>?_,λe he e' he' z=>?_⟩
 ·rw[List.map_append,List.mem_append,h.key]
  simp
 ·rcases List.mem_append.mp he with he | he
  ·obtain⟨l1,qs,a1,a2,a3⟩:=h.val e he
   have:qs=[]:=List.eq_nil_of_length_eq_zero a3.1
   subst this
   exact⟨l1,[],a1,by rw[so l1 (ax a2 h1 (by intro z; cases z))]; exact a2,au.nil⟩
  ·cases List.mem_singleton.mp he
   exact⟨l,[],rfl,by rw[so l (ax hl h1 (by intro z; cases z))]; exact hl,au.nil⟩
 ·rcases List.mem_append.mp he with he | he <;> rcases List.mem_append.mp he' with he' | he'
  ·exact h.inj e he e' he' z
  ·cases List.mem_singleton.mp he'
   exact absurd z (nn e he)
  ·cases List.mem_singleton.mp he
   exact absurd z.symm (nn e' he')
  ·cases List.mem_singleton.mp he
   cases List.mem_singleton.mp he'
   rfl
def bV(E:aa->List (Int × aa))(ks:List aa):List (aa × aa):=ks.flatMap λk=>(E k).map λxg=>(k,xg.2)
theorem Ck(E:aa->List (Int × aa))(ks:List aa)(k:aa):bV E (ks++[k])=bV E ks++(E k).map λxg=>(k,xg.2):=by
 unfold bV
 rw[List.flatMap_append]
 simp
theorem Cl{E:aa->List (Int × aa)}{ks:List aa}(h : ∀ k∈ks,(E k).length<=390):(bV E ks).length<=390*ks.length:=by
 induction ks with
 | nil=>exact Nat.zero_le _
 | cons k ks ih =>
  have h1:=h k (List.mem_cons_self ..)
  have h2:=ih λx hx=>h x (List.mem_cons_of_mem _ hx)
  show (((E k).map λxg=>(k,xg.2))++bV E ks).length<=_
  rw[List.length_append,List.length_map,List.length_cons]
  omega
def uA(H:Hp)(kvs:List (aa × Addr × V)):Prop:=∀ e∈kvs,∀ l,e.2.2=.ref l->H l=none
def wC:Sp:=λvs H Q _=>∃ (a:Addr) (kvA:List (aa × Addr × V)) (F:aa->Int->Option aa) (N:aa->Prop) (E:aa->List (Int × aa)),vs=[.ref a]/\jq H a kvA F N E/\(∀ k x g,N k->F k x=some g->N g)/\kvA.length<=40000 /\
 ∀ fd kvH H',af H H'->H fd=none->ba H' fd kvH N (bV E (kvA.map λe=>e.1))->uA H kvH->Q (.ref fd) H'
theorem Bh (T:Txt K mg t):bi P w K mg base "ahead_of" 1 t.o9 t.nP ["apart"] wC:=by
 refine⟨T.BZ,T.vi.kp,T.DT,T.vi.okQ gC (λvs H Q E h=>by obtain⟨a,kvA,F,N,E,rfl,_⟩:=h; rfl) λcdv A outer s H vs Q E hr h=>?_⟩
 obtain⟨a,kvA,F,N,E,rfl,gr,cl,lA,kk⟩:=h
 have hu:=hr.units
 refine⟨_,(aw (aS (i:=1) gC.nd rfl (.inl rfl) ie)
  (aw (bB PassesOwn.never rfl (qQ (ab 0)) (aE (i:=2) gC.nd rfl (.inl rfl)) (av (ii hu (ab 1) (ab 2) (cR ag))))
  (aw (bB PassesOwn.never rfl (lT (ab 0)) (cO (K:=K) rfl rfl (bn (aE (i:=2) gC.nd rfl (.inl rfl)) (bn (aE (i:=3) gC.nd rfl (.inl rfl)) cN))) (av (lJ (bB PassesOwn.never rfl (xG (ab 3)) (aE (i:=4) gC.nd rfl (.inl rfl)) (av (eC (ib (K:=K) rfl PySem.F.plainAttrs_list PySem.F.slot_list_append PySem.F.type_list_append ip (cS hu (ab 1) (ab 4)) (ae (ab 2) ag))))))))
  (av (aT (ab 1)))))),?_⟩
 refine λfd H1 g1=>?_
 obtain⟨ns,ens⟩ : ∃ ns,ns=kvA.map λe=>e.1:=⟨_,rfl⟩
 have nsN:ns.Nodup:=by rw[ens]; exact gr.dp.nd
 have lns:ns.length=kvA.length:=by rw[ens,List.length_map]
 have lE : ∀ k∈ns,(E k).length<=390:=λk hk=>by
  rw[ens]at hk
  obtain⟨e,he,rfl⟩:=List.mem_map.mp hk
  obtain⟨d,ks,_,_,a3,a4⟩:=gr.val e he
  have:=a3.len
  have:=a4.1
  omega
 obtain⟨xs0,ep0,dh,_⟩:=gr.dp.ex
 refine⟨a,kvA,rfl,gr.dp.same g1.sm,λo ho=>?_⟩
 rw[g1.sm _ _ dh]at ho
 cases ho
 have A0:ba H1 fd [] (λk=>k∈ns.take 0) []:=by
  refine⟨DP.new g1,λk=>⟨λz=>?_,λz=>?_⟩,λe he=>?_,λe he=>?_⟩
  ·cases z
  ·cases z
  ·cases he
  ·cases he
 refine Ce (λi σ H'=>af H H'/\(∃ kvH,ba H' fd kvH (λk=>k∈ns.take i) []/\uA H kvH/\kvH.length<=i)/\∃ v2 v3 v4,σ=[some (.ref a),some (.ref fd),v2,v3,v4]) ⟨g1.sm,⟨[],A0,(λe he=>by cases he),Nat.zero_le _⟩,_,_,_,rfl⟩ (λi σ H' _ z=>z.1 _ _ dh) ?_ ?_
 ·rintro i k qb v σ H2 hi ⟨s2,⟨kvH,ah,nw,lH⟩,v2,v3,v4,rfl⟩
  have hki:ns[i]? = some k:=by rw[ens,List.getElem?_map,hi]; rfl
  have il:i < kvA.length:=(List.getElem?_eq_some_iff.mp hi).1
  have kb0:aC H k qb:=gr.dp.key _ (List.mem_of_getElem? hi)
  refine⟨sz rfl,λl H3 g3=>?_⟩
  have s3:=s2.trans g3.sm
  have ah3:=ah.same g3.sm
  refine⟨fd,qb,kvH,k,rfl,rfl,ah3.dp,kb0.same s3,by rw[sizeLine_eq]; omega,λH4 d4 so=>?_⟩
  have nl:H l=none:=by
   cases c:H l with
   | none=>rfl
   | some u=>have:=s2 _ _ c; rw[g3.nw]at this; cases this
  have ah4:=ah3.new (k:=k) (q:=qb) (jV nsN hki) g3.at_ (λe he z=>by
   obtain⟨l1,qs,a1,a2,_⟩:=ah.val e he
   rw[z]at a1; cases a1
   rw[g3.nw]at a2; cases a2) d4 so
  refine⟨λc u e=>by rw[so c (λz=>by rw[z,g1.nw]at e; cases e)]; exact s3 _ _ e,⟨_,ah4.nE λx=>(cw hki).symm,λe he l1 hl1=>?_,by rw[List.length_append]; simp; omega⟩,_,_,_,rfl⟩
  rcases List.mem_append.mp he with h | h
  ·exact nw e h l1 hl1
  ·cases List.mem_singleton.mp h
   cases hl1
   exact nl
 ·rintro σ H2 ⟨s2,⟨kvH,ah,nw,lH⟩,v2,v3,v4,rfl⟩
  have ah2:ba H2 fd kvH N (bV E (ns.take 0)):=ah.nE λx=>by
   rw[<- lns,List.take_length,ens]
   exact gr.key x
  clear ah
  refine⟨a,kvA,rfl,gr.dp.same s2,λo ho=>?_⟩
  rw[s2 _ _ dh]at ho
  cases ho
  refine tF (λi σ H'=>af H H'/\ba H' fd kvH N (bV E (ns.take i))/\∃ v2 v3 v4,σ=[some (.ref a),some (.ref fd),v2,v3,v4]) ⟨s2,ah2,_,_,_,rfl⟩ (λi σ H' _ z=>z.1 _ _ dh) ?_ ?_
  ·rintro i k qb v pt σ H3 H4 hi ⟨s3,ah3,v2,v3,v4,rfl⟩ g4
   have hki:ns[i]? = some k:=by rw[ens,List.getElem?_map,hi]; rfl
   have il:i < kvA.length:=(List.getElem?_eq_some_iff.mp hi).1
   have em:=List.mem_of_getElem? hi
   have kb0:aC H k qb:=gr.dp.key _ em
   have nk:N k:=(gr.key k).mp (List.mem_map.mpr ⟨_,em,rfl⟩)
   obtain⟨d,ks,a1,a2,a3,a4⟩:=gr.val _ em
   have a1:v=.ref d:=a1
   subst a1
   have s4:=s3.trans g4.sm
   have d4:=s4 _ _ a2
   have lk:=a3.len
   refine⟨pt,_,rfl,.of g4.at_,rfl,?_⟩
   refine⟨_,_,rfl,_,_,rfl,rfl,?_⟩
   refine⟨d,.dK ks,(λo v z=>by rw[d4]at z; cases z),?_⟩
   refine⟨d,ks,rfl,d4,λob=>?_⟩
   obtain⟨H5,e5⟩ : ∃ H5,H5=upd H4 d (.frz ob (.dK ks)):=⟨_,rfl⟩
   have f5:H5 d=some (.frz ob (.dK ks)):=by rw[e5,aN]
   have b5 : ∀ c u,c≠d->H c=some u->H5 c=some u:=λc u n e=>by rw[e5,aj n]; exact s4 _ _ e
   have ah5:ba H5 fd kvH N (bV E (ns.take i)):=(ah3.same g4.sm).but d4 (λ_ z=>nomatch z) (λ_ z=>nomatch z) (λ_ z=>nomatch z) λc n=>by rw[e5,aj n]
   rw[<- e5]
   clear e5
   have el:(bV E (ns.take i)).length<=390*40000:=by
    have:=Cl (E:=E) (ks:=ns.take i) λk hk=>lE k (List.mem_of_mem_take hk)
    rw[List.length_take]at this
    omega
   refine Cc (λj σ H'=>(∀ c u,c≠d->H c=some u->H' c=some u)/\H' d=some (.frz ob (.dK ks))/\ba H' fd kvH N (bV E (ns.take i)++((E k).take j).map λxg=>(k,xg.2))/\∃ v4,σ=[some (.ref a),some (.ref fd),some (.ref qb),some (.ref d),v4]) ⟨b5,f5,by simpa using ah5,_,rfl⟩ (λi σ H' _ z=>z.2.1) ?_ ?_
   ·rintro j ky vv σ H6 hj ⟨b6,f6,ah6,v4,rfl⟩
    obtain⟨xg,hx,r1,r2,qg,r3,r4⟩:=a4.right hj
    have r3:vv=.ref qg:=r3
    subst r3
    have r2:F k xg.1=some xg.2:=r2
    have tu6 : ∀ q xs,H q=some (.tup xs)->H6 q=some (.tup xs):=λq xs z=>b6 _ _ (ax z a2 (by intro z; cases z)) z
    have ng:N xg.2:=cl k xg.1 xg.2 nk r2
    obtain⟨vl,hvl⟩:=dA ((ah6.key xg.2).mpr ng)
    obtain⟨e0,he0,e01,e02⟩:=dO hvl
    obtain⟨l,qs,c1,c2,c3⟩:=ah6.val e0 he0
    rw[e02]at c1
    subst c1
    have jl:j < ks.length:=(List.getElem?_eq_some_iff.mp hj).1
    have lq:qs.length<=390*40000+390:=by
     rw[c3.1,List.length_map]
     refine Nat.le_trans (List.length_filter_le _ _) ?_
     rw[List.length_append,List.length_map,List.length_take]
     omega
    refine⟨fd,qg,kvH,xg.2,.ref l,rfl,rfl,ah6.dp,br r4 tu6,hvl,?_⟩
    refine⟨.inl ⟨rfl,_,.of c2⟩,_,c2,by rw[List.length_map,sizeLine_eq]; omega,?_⟩
    have nl:=nw e0 he0 l e02
    have ndl:d≠l:=λz=>by rw[z,nl]at a2; cases a2
    refine⟨λc u n e=>by rw[aj (λz=>by rw[z,nl]at e; cases e)]; exact b6 c u n e,by rw[aj ndl]; exact f6,?_,_,rfl⟩
    have:=ah6.put (p:=k) hvl c2 (br kb0 tu6) rfl
    rw[List.take_add_one,hx,List.map_append,<- List.append_assoc]
    exact this
   ·rintro σ H6 ⟨b6,f6,ah6,v4,rfl⟩
    refine⟨⟨ob,f6⟩,λc u e=>?_,?_,_,_,_,rfl⟩
    ·by_cases n:c=d
     ·subst n
      rw[a2]at e; cases e
      rw[aN]
     ·rw[aj n]
      exact b6 c u n e
    ·have et:bV E (ns.take (i+1))=bV E (ns.take i)++(E k).map λxg=>(k,xg.2):=by
      rw[List.take_add_one,hki]
      exact Ck E _ k
     rw[show (E k).take ks.length=E k from List.take_of_length_le (Nat.le_of_eq a4.1.symm),<- et]at ah6
     exact ah6.but f6 (λ_ z=>nomatch z) (λ_ z=>nomatch z) (λ_ z=>nomatch z) λc n=>by rw[aj n]
  ·rintro σ H3 ⟨s3,ah3,v2,v3,v4,rfl⟩
   rw[<- lns,List.take_length,ens]at ah3
   exact kk fd kvH H3 s3 g1.nw ah3 nw
theorem eh(e:aa × Addr × V)(kvs:List (aa × Addr × V))(x:aa):aA (e :: kvs) x=if e.1=x then some e.2.2 else aA kvs x:=by
 unfold aA
 rw[List.find?_cons]
 by_cases c:e.1=x
 ·rw[if_pos c,decide_eq_true c]; rfl
 ·rw[if_neg c,decide_eq_false c]
theorem iN(kvs:List (aa × Addr × V))(k:aa)(b:Addr)(v:V)(x:aa):aA (bK kvs k b v) x=if x=k then some v else aA kvs x:=by
 have snoc : ∀ kvs:List (aa × Addr × V),aA kvs k=none->aA (kvs++[(k,b,v)]) x=if x=k then some v else aA kvs x:=by
  intro kvs
  induction kvs with
  | nil =>
   intro _
   show aA [(k,b,v)] x=_
   rw[eh]
   by_cases c:x=k
   ·rw[if_pos c,if_pos c.symm]
   ·rw[if_neg c,if_neg (Ne.symm c)]
  | cons e kvs ih =>
   intro h
   rw[eh]at h
   have ne : ¬ e.1=k:=λz=>by rw[if_pos z]at h; cases h
   rw[if_neg ne]at h
   rw[List.cons_append,eh,eh,ih h]
   by_cases c:e.1=x
   ·rw[if_pos c,if_pos c,if_neg (λz=>ne (c.trans z))]
   ·rw[if_neg c,if_neg c]
 have mp : ∀ kvs:List (aa × Addr × V),(aA kvs k).isSome=true->aA (kvs.map λy=>if y.1=k then (y.1,y.2.1,v) else y) x=if x=k then some v else aA kvs x:=by
  intro kvs
  induction kvs with
  | nil=>intro h; cases h
  | cons e kvs ih =>
   intro h
   rw[List.map_cons,eh,eh]
   rw[eh]at h
   by_cases ek:e.1=k
   ·rw[if_pos ek]
    by_cases c:e.1=x
    ·rw[if_pos (show (e.1,e.2.1,v).1=x from c),if_pos (c.symm.trans ek)]
    ·rw[if_neg (show ¬ (e.1,e.2.1,v).1=x from c),if_neg (λz=>c (ek.trans z.symm)),if_neg c]
     have nx : ¬ x=k:=λz=>c (ek.trans z.symm)
     clear ih h
     induction kvs with
     | nil=>rfl
     | cons y kvs ih2 =>
      rw[List.map_cons,eh,eh,ih2]
      by_cases yk:y.1=k
      ·rw[if_pos yk,if_neg (show ¬ (y.1,y.2.1,v).1=x from λz=>nx (z.symm.trans yk)),if_neg (λz=>nx (z.symm.trans yk))]
      ·rw[if_neg yk]
   ·rw[if_neg ek]at h ⊢
    rw[ih h]
    by_cases c:e.1=x
    ·rw[if_pos c,if_pos c,if_neg (λz=>ek (c.trans z))]
    ·rw[if_neg c,if_neg c]
 unfold bK
 by_cases h:(aA kvs k).isSome=true
 ·rw[if_pos h]
  exact mp kvs h
 ·rw[if_neg h]
  exact snoc kvs (Option.not_isSome_iff_eq_none.mp h)
structure bX (H:Hp) (a:Addr) (kvs:List (aa × Addr × V)) (N:aa->Prop) (c:aa->Nat):Prop where
 dp:DP H a kvs
 val : ∀ k,N k->aA kvs k=some (.int (c k:Int))
 sub : ∀ k,(aA kvs k).isSome=true->N k
theorem bX.same{H H':Hp}{a:Addr}{kvs:List (aa × Addr × V)}{N:aa->Prop}{c:aa->Nat}(h:bX H a kvs N c)(s:af H H'):bX H' a kvs N c:=⟨h.dp.same s,h.val,h.sub⟩
theorem bX.put{H H':Hp}{a b:Addr}{kvs:List (aa × Addr × V)}{N N':aa->Prop}{c c':aa->Nat}{k:aa}{m:Nat}(h:bX H a kvs N c)(dp:DP H' a (bK kvs k b (.int (m:Int))))(hN : ∀ x,N' x ↔ N x\/x=k)(ck:c' k=m)(cx : ∀ x,x≠k->c' x=c x):bX H' a (bK kvs k b (.int (m:Int))) N' c':=by
 refine⟨dp,λx hx=>?_,λx hx=>?_⟩
 ·rw[iN]
  by_cases e:x=k
  ·rw[if_pos e,e,ck]
  ·rw[if_neg e,cx x e]
   exact h.val x (((hN x).mp hx).resolve_right e)
 ·rw[iN]at hx
  by_cases e:x=k
  ·exact (hN x).mpr (.inr e)
  ·rw[if_neg e]at hx
   exact (hN x).mpr (.inl (h.sub x hx))
def bo(E:aa->List (Int × aa))(S:List aa)(p:aa):Nat:=((E p).filter λxg=>decide (xg.2∉S)).length
theorem zj(E:aa->List (Int × aa))(S:List aa)(g p:aa)(hg:g∉S):bo E S p=bo E (S++[g]) p+((E p).filter λxg=>decide (xg.2=g)).length:=by
 unfold bo
 induction E p with
 | nil=>rfl
 | cons y ys ih =>
  rw[List.filter_cons,List.filter_cons,List.filter_cons]
  by_cases c:y.2=g
  ·rw[if_pos (decide_eq_true (by rw[c]; exact hg)),if_neg (by rw[decide_eq_true_iff,c]; simp),if_pos (decide_eq_true c),List.length_cons,List.length_cons,ih]
   omega
  ·have h3 : ¬ decide (y.2=g)=true:=by rw[decide_eq_true_iff]; exact c
   by_cases d:y.2∈S
   ·have h1 : ¬ decide (y.2∉S)=true:=by rw[decide_eq_true_iff]; exact λz=>z d
    have h2 : ¬ decide (y.2∉S++[g])=true:=by rw[decide_eq_true_iff]; exact λz=>z (List.mem_append_left _ d)
    rw[if_neg h1,if_neg h2,if_neg h3,ih]
   ·have h1:decide (y.2∉S)=true:=decide_eq_true d
    have h2:decide (y.2∉S++[g])=true:=decide_eq_true (by
     rw[List.mem_append]
     rintro (z | z)
     ·exact d z
     ·exact c (List.mem_singleton.mp z))
    rw[if_pos h1,if_pos h2,if_neg h3,List.length_cons,List.length_cons,ih]
    omega
theorem rM{E:aa->List (Int × aa)}{S:List aa}{p:aa}:bo E S p=0 ↔ ∀ xg∈E p,xg.2∈S:=by
 unfold bo
 rw[List.length_eq_zero_iff,List.filter_eq_nil_iff]
 constructor
 ·intro h xg hx
  have:=h xg hx
  rw[decide_eq_true_iff]at this
  exact Classical.byContradiction this
 ·intro h xg hx
  rw[decide_eq_true_iff]
  exact λz=>z (h xg hx)
theorem CH(E:aa->List (Int × aa))(ks:List aa)(nd:ks.Nodup)(g p:aa):(((bV E ks).filter λpg=>decide (pg.2=g)).map λpg=>pg.1).count p=if p∈ks then ((E p).filter λxg=>decide (xg.2=g)).length else 0:=by
 induction ks with
 | nil=>rfl
 | cons k ks ih =>
  obtain⟨n1,n2⟩:=List.nodup_cons.mp nd
  show (((((E k).map λxg=>(k,xg.2))++bV E ks).filter λpg=>decide (pg.2=g)).map λpg=>pg.1).count p=_
  rw[List.filter_append,List.map_append,List.count_append,ih n2]
  have one : ∀ l:List (Int × aa),(((l.map λxg=>(k,xg.2)).filter λpg=>decide (pg.2=g)).map λpg=>pg.1)=List.replicate (l.filter λxg=>decide (xg.2=g)).length k:=by
   intro l
   induction l with
   | nil=>rfl
   | cons y l ih =>
    rw[List.map_cons,List.filter_cons,List.filter_cons]
    by_cases c:y.2=g
    ·rw[if_pos (decide_eq_true c),if_pos (decide_eq_true c),List.map_cons,ih,List.length_cons,List.replicate_succ]
    ·rw[if_neg (by rw[decide_eq_true_iff]; exact c),if_neg (by rw[decide_eq_true_iff]; exact c),ih]
  rw[one,List.count_replicate]
  by_cases c:p=k
  ·subst c
   rw[if_pos (by simp),if_neg n1,if_pos (List.mem_cons_self ..)]
   omega
  ·rw[if_neg (by simpa using Ne.symm c)]
   by_cases d:p∈ks
   ·rw[if_pos d,if_pos (List.mem_cons_of_mem _ d)]; omega
   ·rw[if_neg d,if_neg (λz=>(List.mem_cons.mp z).elim c d)]
structure bS (H:Hp) (a:Addr) (kvs:List (aa × Addr × V)) (F:aa->Int->Option aa) (N:aa->Prop):Prop where
 dp:DP H a kvs
 sub : ∀ k,k∈kvs.map (λe=>e.1)->N k
 val : ∀ k,k∈kvs.map (λe=>e.1)->∃ q n bv,bA H kvs k q n bv/\(n<=kvs.length/\uH F k n)/\(n=0\/∃ x g q' bv',bv=.int x/\F k x=some g/\bA H kvs g q' (n - 1) bv')
theorem bS.far{H:Hp}{a:Addr}{kvs:List (aa × Addr × V)}{F:aa->Int->Option aa}{N:aa->Prop}(h:bS H a kvs F N)(l:kvs.length<=160000):fF H a kvs F N :=
 ⟨h.dp,h.sub,λk hk=>let ⟨q,n,bv,a,b,c⟩:=h.val k hk; ⟨q,n,bv,a,⟨Nat.le_trans b.1 l,b.2⟩,c⟩⟩
theorem bS.same{H H':Hp}{a:Addr}{kvs:List (aa × Addr × V)}{F:aa->Int->Option aa}{N:aa->Prop}(h:bS H a kvs F N)(s:af H H'):bS H' a kvs F N :=
 ⟨h.dp.same s,h.sub,λk hk=>by
  obtain⟨q,n,bv,a,l,b⟩:=h.val k hk
  refine⟨q,n,bv,a.same λq xs z=>s _ _ z,l,b.imp id ?_⟩
  rintro⟨x,g,q',bv',b1,b2,b3⟩
  exact⟨x,g,q',bv',b1,b2,b3.same λq xs z=>s _ _ z⟩⟩
theorem bS.nil{H:Hp}{a:Addr}{F:aa->Int->Option aa}{N:aa->Prop}(h:DP H a []):bS H a [] F N:=by
 refine⟨h,λk hk=>?_,λk hk=>?_⟩
 ·cases hk
 ·cases hk
theorem bS.put{H H':Hp}{a b q:Addr}{kvs:List (aa × Addr × V)}{F:aa->Int->Option aa}{N:aa->Prop}{k:aa}{n:Nat}{bv:V}(h:bS H a kvs F N)(nk:k∉kvs.map λe=>e.1)(Nk:N k)(hq:H q=some (.tup [.int (n:Int),bv]))
 (hn:n=0\/∃ x g q' bv',bv=.int x/\F k x=some g/\0 < n/\bA H kvs g q' (n - 1) bv') (hm : ∀ x g,F k x=some g->∃ q' m bv',bA H kvs g q' m bv'/\m+1<=n) (dp:DP H' a (bK kvs k b (.ref q))) (so : ∀ c,c≠a->H' c=H c):bS H' a (kvs++[(k,b,.ref q)]) F N:=by
 obtain⟨xs,ep,h1,_⟩:=h.dp.ex
 have tu : ∀ q xs,H q=some (.tup xs)->H' q=some (.tup xs):=λq xs z=>by rw[so q (ax z h1 (by intro z; cases z))]; exact z
 have nv:aA kvs k=none:=iO nk
 have vp : ∀ x,aA (kvs++[(k,b,V.ref q)]) x=if x=k then some (.ref q) else aA kvs x:=λx=>by rw[<- i4 nv]; exact iN ..
 have fv : ∀ {g q' m bv'},bA H kvs g q' m bv'->bA H' (kvs++[(k,b,V.ref q)]) g q' m bv':=λ{g q' m bv'} z=>⟨by rw[vp,if_neg (λe=>by have:=z.key; rw[e]at this; exact nk this)]; exact z.1,tu _ _ z.2⟩
 rw[i4 nv]at dp
 have ll:(kvs++[(k,b,V.ref q)]).length=kvs.length+1:=by rw[List.length_append]; rfl
 refine⟨dp,λx hx=>?_,λx hx=>?_⟩
 ·rw[List.map_append]at hx
  rcases List.mem_append.mp hx with z | z
  ·exact h.sub x z
  ·rw[List.mem_singleton.mp z]; exact Nk
 ·rw[List.map_append]at hx
  rcases List.mem_append.mp hx with z | z
  ·obtain⟨q1,n1,bv1,a1,a2,a3⟩:=h.val x z
   refine⟨q1,n1,bv1,fv a1,⟨by rw[ll]; have:=a2.1; omega,a2.2⟩,a3.imp id ?_⟩
   rintro⟨y,g,q',bv',b1,b2,b3⟩
   exact⟨y,g,q',bv',b1,b2,fv b3⟩
  ·rw[List.mem_singleton.mp z]
   refine⟨q,n,bv,⟨by rw[vp,if_pos rfl],tu _ _ hq⟩,⟨?_,?_⟩,hn.imp id ?_⟩
   ·rw[ll]
    rcases hn with z | ⟨y,g,q',bv',b1,b2,b3,b4⟩
    ·omega
    ·obtain⟨q1,n1,bv1,a1,a2,_⟩:=h.val g b4.key
     obtain⟨_,e,_⟩:=a1.one b4
     have:=a2.1
     omega
   ·intro r g hp
    cases r with
    | nil=>exact Nat.zero_le _
    | cons y r =>
     have hp:(F k y).bind (λg=>aK F g r)=some g:=hp
     cases c:F k y with
     | none=>rw[c]at hp; cases hp
     | some g1 =>
      rw[c]at hp
      obtain⟨q',m,bv',b1,b2⟩:=hm y g1 c
      obtain⟨q1,n1,bv1,a1,a2,_⟩:=h.val g1 b1.key
      obtain⟨_,e,_⟩:=a1.one b1
      have:=a2.2 r g hp
      rw[List.length_cons]
      omega
   ·rintro⟨y,g,q',bv',b1,b2,_,b4⟩
    exact⟨y,g,q',bv',b1,b2,fv b4⟩
def wu:Sp:=λvs H Q _=>∃ (a:Addr) (kvA:List (aa × Addr × V)) (F:aa->Int->Option aa) (N:aa->Prop),vs=[.ref a]/\Gr H a kvA F N/\(∀ k x g,N k->F k x=some g->N g)/\kvA.length<=40000 /\
 ∀ fa kvF H',af H H'->H fa=none->fF H' fa kvF F N->(∀ k,N k->k∉kvF.map (λe=>e.1)->∃ x g,F k x=some g/\g∉kvF.map λe=>e.1)->Q (.ref fa) H'
structure Lp (H0 H:Hp) (a fa fd un kl:Addr) (kvA kvH:List (aa × Addr × V)) (F:aa->Int->Option aa) (N:aa->Prop) (E:aa->List (Int × aa)) (kvF kvU:List (aa × Addr × V)) (qs:List Addr) (kn:List aa):Prop where
 sm:af H0 H
 far:bS H fa kvF F N
 unk:bX H un kvU N (bo E (kvF.map λe=>e.1))
 ah:ba H fd kvH N (bV E (kvA.map λe=>e.1))
 ls:H kl=some (.lst (qs.map V.ref))
 kq:au (λq p=>aC H p q) qs kn
 nd:kn.Nodup
 out : ∀ p∈kn,p∉kvF.map (λe=>e.1)/\N p
 zero : ∀ p,N p->(bo E (kvF.map λe=>e.1) p=0 ↔ p∈kn\/p∈kvF.map λe=>e.1)
theorem bS.butL{H H':Hp}{a d:Addr}{kvs:List (aa × Addr × V)}{F:aa->Int->Option aa}{N:aa->Prop}{ys:List V}(h:bS H a kvs F N)(hd:H d=some (.lst ys))(s : ∀ c,c≠d->H' c=H c):bS H' a kvs F N:=by
 have tu : ∀ q xs,H q=some (.tup xs)->H' q=some (.tup xs):=λq xs z=>by rw[s q (ax z hd (by intro z; cases z))]; exact z
 refine⟨iB h.dp hd s,h.sub,λk hk=>?_⟩
 obtain⟨q,n,bv,a1,a2,a3⟩:=h.val k hk
 refine⟨q,n,bv,a1.same tu,a2,a3.imp id ?_⟩
 rintro⟨x,g,q',bv',b1,b2,b3⟩
 exact⟨x,g,q',bv',b1,b2,b3.same tu⟩
theorem ba.butL{H H':Hp}{a d:Addr}{kvs:List (aa × Addr × V)}{N:aa->Prop}{ed:List (aa × aa)}{ys:List V}(h:ba H a kvs N ed)(hd:H d=some (.lst ys))(nn : ∀ e∈kvs,e.2.2 ≠ .ref d)(s : ∀ c,c≠d->H' c=H c):ba H' a kvs N ed:=by
 have tu : ∀ q xs,H q=some (.tup xs)->H' q=some (.tup xs):=λq xs z=>by rw[s q (ax z hd (by intro z; cases z))]; exact z
 refine⟨iB h.dp hd s,h.key,λe he=>?_,h.inj⟩
 obtain⟨l,qs,a1,a2,a3⟩:=h.val e he
 exact⟨l,qs,a1,by rw[s l (λz=>nn e he (by rw[a1,z]))]; exact a2,a3.imp λq p z=>br z tu⟩
theorem nU{H H':Hp}{a d:Addr}{kvs:List (aa × Addr × V)}{f:Heap->Prop}(h:DP H a kvs)(hd:H d=some (.ext f))(ne:a≠d)(s : ∀ c,c≠d->H' c=H c):DP H' a kvs:=by
 obtain⟨⟨xs,ep,h1,h2⟩,k,n,l⟩:=h
 have tu : ∀ q xs,H q=some (.tup xs)->H' q=some (.tup xs):=λq xs z=>by rw[s q (ax z hd (by intro z; cases z))]; exact z
 exact⟨⟨xs,ep,by rw[s a ne]; exact h1,h2⟩,λx hx=>br (k x hx) tu,n,l⟩
theorem ba.butD{H H':Hp}{a d:Addr}{kvs:List (aa × Addr × V)}{N:aa->Prop}{ed:List (aa × aa)}{f:Heap->Prop}(h:ba H a kvs N ed)(hd:H d=some (.ext f))(ne:a≠d)(s : ∀ c,c≠d->H' c=H c):ba H' a kvs N ed:=by
 have tu : ∀ q xs,H q=some (.tup xs)->H' q=some (.tup xs):=λq xs z=>by rw[s q (ax z hd (by intro z; cases z))]; exact z
 refine⟨nU h.dp hd ne s,h.key,λe he=>?_,h.inj⟩
 obtain⟨l,qs,a1,a2,a3⟩:=h.val e he
 exact⟨l,qs,a1,by rw[s l (ax a2 hd (by intro z; cases z))]; exact a2,a3.imp λq p z=>br z tu⟩
theorem bS.butD{H H':Hp}{a d:Addr}{kvs:List (aa × Addr × V)}{F:aa->Int->Option aa}{N:aa->Prop}{f:Heap->Prop}(h:bS H a kvs F N)(hd:H d=some (.ext f))(ne:a≠d)(s : ∀ c,c≠d->H' c=H c):bS H' a kvs F N:=by
 have tu : ∀ q xs,H q=some (.tup xs)->H' q=some (.tup xs):=λq xs z=>by rw[s q (ax z hd (by intro z; cases z))]; exact z
 refine⟨nU h.dp hd ne s,h.sub,λk hk=>?_⟩
 obtain⟨q,n,bv,a1,a2,a3⟩:=h.val k hk
 refine⟨q,n,bv,a1.same tu,a2,a3.imp id ?_⟩
 rintro⟨x,g,q',bv',b1,b2,b3⟩
 exact⟨x,g,q',bv',b1,b2,b3.same tu⟩
theorem bX.cE{H:Hp}{a:Addr}{kvs:List (aa × Addr × V)}{N:aa->Prop}{c c':aa->Nat}(h:bX H a kvs N c)(e : ∀ k,N k->c k=c' k):bX H a kvs N c':=⟨h.dp,λk hk=>by rw[<- e k hk]; exact h.val k hk,h.sub⟩
theorem bX.len{H:Hp}{a:Addr}{kvs kvA:List (aa × Addr × V)}{N:aa->Prop}{c:aa->Nat}(h:bX H a kvs N c)(k : ∀ k,N k->k∈kvA.map λe=>e.1):kvs.length<=kvA.length:=by
 have:=List.Nodup.length_le_of_subset h.dp.nd (l₂:=kvA.map λe=>e.1) λx hx=>k x (h.sub x (by obtain⟨v,hv⟩:=dA hx; rw[hv]; rfl))
 rwa [List.length_map,List.length_map]at this
theorem Bc (T:Txt K mg t):bi P w K mg base "farthest" 2 t.oZ t.nJ ["apart"] wu:=by
 refine⟨T.BR,T.va.kp,T.DK,T.va.okQ ej (λvs H Q E h=>by obtain⟨a,kvA,F,N,rfl,_⟩:=h; rfl) λcdv A outer s H vs Q E hr h=>?_⟩
 obtain⟨a,kvA,F,N,rfl,gr,cl,lA,kk⟩:=h
 obtain⟨E,ge⟩:=Bk gr
 have hu:=hr.units
 refine⟨_,(aw (aS (i:=1) ej.nd rfl (.inr rfl) ie)
  (aw (aS (i:=2) ej.nd rfl (.inl rfl) (aX (Bh T) hr (ae (ab 0) ag)))
  (aw (aS (i:=3) ej.nd rfl (.inl rfl) ie)
  (aw (bB PassesOwn.never rfl (lT (ab 0)) (cO (K:=K) rfl rfl (bn (aE (i:=4) ej.nd rfl (.inl rfl)) (bn (aE (i:=5) ej.nd rfl (.inl rfl)) cN))) (av (ii hu (ab 3) (ab 4) (bj Da T.n_len PySem.boot_len (ae (ab 5) ag)))))
  (aw (lQ (i:=6) ej.nd rfl (.inl rfl) rfl (cg.of (fns:=(ao ff).names) (N:=["apart", "far", "ahead", "unknown", "pair", "behind", "known", "earlier"]) (Nc:=["pair", "behind"]) (nv:=2) (caps:=[]) rfl rfl (by decide +kernel)) (lT (ab 0)) (λ_ _ _ _=>(cO (K:=K) rfl (n:=2) rfl (bn (aE (i:=0) (show List.Nodup (["pair", "behind"]:List Str) by decide +kernel) rfl (Or.inl rfl) (Or.inr rfl)) (bn (aE (i:=1) (show List.Nodup (["pair", "behind"]:List Str) by decide +kernel) rfl (Or.inl rfl) (Or.inr rfl)) cN)))) (λ_ _ _ _=>(lN (fQ (qM (ab 1))))) (λ_ _ _ _=>(ab 0)))
  (aw (lO PassesOwn.never (qR (K:=K) rfl (ab 6)) (aw (aS (i:=4) ej.nd rfl (.inl rfl) (xK (K:=K) rfl PySem.F.plainAttrs_list PySem.F.slot_list_pop PySem.F.type_list_pop zy (ab 6)))
  (aw (ii hu (ab 1) (ab 4) (xS hr (qN (fS rfl (cg.of (fns:=(ao ff).names) (N:=["apart", "far", "ahead", "unknown", "pair", "behind", "known", "earlier"]) (Nc:=["byte", "goal", "far"]) (nv:=2) (caps:=[1]) rfl rfl (by decide +kernel)) (jN (cS hu (ab 0) (ab 4))) (λ_ _ _ _=>(cO (K:=K) rfl (n:=2) rfl (bn (aE (i:=0) (show List.Nodup (["byte", "goal", "far"]:List Str) by decide +kernel) rfl (Or.inl rfl) (Or.inr rfl)) (bn (aE (i:=1) (show List.Nodup (["byte", "goal", "far"]:List Str) by decide +kernel) rfl (Or.inl rfl) (Or.inr rfl)) cN)))) (λ_ _ _ _=>fP) (λ_ _ _ _=>(cv (ae (di (dI (K:=K) rfl) (be (bh (K:=K) rfl) (cS hu (ab 2) (ab 1)) aB (λ_ _=>rfl)) aB) (ae (ab 0) ag)))))) (cv (ae aB (ae jO ag))) T.n_max rfl))
  (av (bB PassesOwn.never rfl (dD (K:=K) rfl (cS hu (ab 2) (ab 4))) (aE (i:=7) ej.nd rfl (.inl rfl)) (aw (xW hu (ab 3) (ab 7) aB AG)
  (av (ca (bJ (du (K:=K) rfl hu) (cS hu (ab 3) (ab 7)) aB (bf _)) (av (eC (ib (K:=K) rfl PySem.F.plainAttrs_list PySem.F.slot_list_append PySem.F.type_list_append ip (ab 6) (ae (ab 7) ag)))) bZ))))))))
  (av (aT (ab 1))))))))),?_⟩
 refine λfa H1 g1=>?_
 refine⟨a,kvA,F,N,E,rfl,ge.same g1.sm,cl,lA,λfd kvH H2 s2 n2 ah nw=>?_⟩
 refine λun H3 g3=>?_
 obtain⟨ns,ens⟩ : ∃ ns,ns=kvA.map λe=>e.1:=⟨_,rfl⟩
 have nsN:ns.Nodup:=by rw[ens]; exact gr.dp.nd
 have lns:ns.length=kvA.length:=by rw[ens,List.length_map]
 obtain⟨xs0,ep0,dh,_⟩:=gr.dp.ex
 have s3:af H H3:=g1.sm.trans (s2.trans g3.sm)
 have fdfa:fd≠fa:=λz=>by rw[z,g1.at_]at n2; cases n2
 obtain⟨xsh,eph,dhh,_⟩:=ah.dp.ex
 have unfa:un≠fa:=λz=>by have:=g3.nw; rw[z,s2 _ _ g1.at_]at this; cases this
 have unfd:un≠fd:=λz=>by have:=g3.nw; rw[z,dhh]at this; cases this
 have nun:H un=none:=by
  cases c:H un with
  | none=>rfl
  | some u=>have:=s2 _ _ (g1.sm _ _ c); rw[g3.nw]at this; cases this
 refine⟨a,kvA,rfl,gr.dp.same s3,λo ho=>?_⟩
 rw[s3 _ _ dh]at ho
 cases ho
 have U0:bX H3 un [] (λk=>k∈ns.take 0) (bo E []):=⟨DP.new g3,(λk hk=>by cases hk),λk hk=>by cases hk⟩
 refine tF (λi σ H'=>(∀ c u,c≠un->H3 c=some u->H' c=some u)/\(∃ kvU,bX H' un kvU (λk=>k∈ns.take i) (bo E [])/\kvU.length<=i)/\∃ v4 v5 v6 v7,σ=[some (.ref a),some (.ref fa),some (.ref fd),some (.ref un),v4,v5,v6,v7]) ⟨λc u _ e=>e,⟨[],U0,Nat.zero_le _⟩,_,_,_,_,rfl⟩ (λi σ H' _ z=>z.1 _ _ (λe=>by rw[<- e,dh]at nun; cases nun) (s3 _ _ dh)) ?_ ?_
 ·rintro i k qb v pt σ H4 H5 hi ⟨b4,⟨kvU,uk,lU⟩,v4,v5,v6,v7,rfl⟩ g5
  have hki:ns[i]? = some k:=by rw[ens,List.getElem?_map,hi]; rfl
  have il:i < kvA.length:=(List.getElem?_eq_some_iff.mp hi).1
  have em:=List.mem_of_getElem? hi
  have kb0:aC H k qb:=gr.dp.key _ em
  obtain⟨d,ks,a1,a2,a3,a4⟩:=ge.val _ em
  have a1:v=.ref d:=a1
  subst a1
  have b5 : ∀ c u,c≠un->H3 c=some u->H5 c=some u:=λc u n e=>g5.sm _ _ (b4 c u n e)
  have s5:af H H5:=λc u e=>b5 c u (λz=>by rw[z,nun]at e; cases e) (s3 _ _ e)
  refine⟨pt,_,rfl,.of g5.at_,rfl,?_⟩
  refine⟨_,_,rfl,_,_,rfl,rfl,?_⟩
  refine⟨d,ks.length,rfl,.inl ⟨ks,s5 _ _ a2,rfl⟩,?_⟩
  refine⟨un,qb,kvU,k,rfl,rfl,uk.dp.same g5.sm,kb0.same s5,by rw[sizeLine_eq]; omega,λH6 d6 so=>?_⟩
  refine⟨λc u n e=>by rw[so c n]; exact b5 c u n e,⟨_,(uk.same g5.sm).put (m:=ks.length) d6 (λx=>cw hki) ?_ (λ_ _=>rfl),by have:=qZ kvU k qb (.int (ks.length:Int)); omega⟩,_,_,_,_,rfl⟩
  unfold bo
  rw[List.filter_eq_self.mpr (λy _=>by simp)]
  exact a4.1.symm
 ·rintro σ H4 ⟨b4,⟨kvU,uk,lU⟩,v4,v5,v6,v7,rfl⟩
  have uk4:bX H4 un kvU N (bo E []):=by
   refine⟨uk.dp,λk hk=>uk.val k ?_,λk hk=>?_⟩
   ·rw[<- lns,List.take_length,ens]; exact (gr.key k).mpr hk
   ·have:=uk.sub k hk
    rw[<- lns,List.take_length,ens]at this
    exact (gr.key k).mp this
  have s4:af H H4:=λc u e=>b4 c u (λz=>by rw[z,nun]at e; cases e) (s3 _ _ e)
  have op0 : ∀ p,bo E [] p=(E p).length:=λp=>by unfold bo; rw[List.filter_eq_self.mpr (λy _=>by simp)]
  clear uk
  refine⟨a,kvA,rfl,gr.dp.same s4,λo ho=>?_⟩
  rw[s4 _ _ dh]at ho
  cases ho
  refine CL (K:=K) (λi ys H'=>af H4 H'/\∃ qs kn,ys=qs.map V.ref/\au (λq p=>aC H' p q) qs kn/\kn.Nodup/\(∀ p∈kn,p∈ns.take i)/\(∀ p∈ns.take i,bo E [] p=0 ↔ p∈kn)/\qs.length<=i) ⟨af.refl _,[],[],rfl,au.nil,.nil,(λp h=>by cases h),(λp h=>by cases h),Nat.zero_le _⟩ (λi ys H' hi z=>⟨z.1 _ _ (s4 _ _ dh),?_⟩) (dg (by omega)) (λi k qb v ys H5 H6 NN hkv z s56 hN=>?_) λys H5 kl H6 z g6=>?_
  ·obtain⟨_,qs,kn,rfl,_,_,_,_,l⟩:=z
   rw[List.length_map]; exact l
  ·obtain⟨s5,qs,kn,rfl,al,nd,sub,iff,lq⟩:=z
   have hki:ns[i]? = some k:=by rw[ens,List.getElem?_map,hkv]; rfl
   have em:=List.mem_of_getElem? hkv
   have kb0:aC H k qb:=gr.dp.key _ em
   obtain⟨d,ks,a1,a2,a3,a4⟩:=ge.val _ em
   have a1:v=.ref d:=a1
   subst a1
   have s46:=s5.trans s56
   have s6:af H H6:=s4.trans s46
   have le:bo E [] k=ks.length:=by rw[op0]; exact a4.1.symm
   have nk:=jV nsN hki
   refine⟨d,ks.length,rfl,.inl ⟨ks,s6 _ _ a2,rfl⟩,?_⟩
   refine aG (λz=>?_) (λz=>?_)
   ·have l0:ks.length=0:=by
     have z:(!(ks.length != 0))=true:=z
     simpa using z
    refine hN _ _ ⟨s46,qs++[qb],kn++[k],by rw[List.map_append]; rfl,au.app (al.imp λq p z=>z.same s56) (au.cons (kb0.same s6) au.nil),?_,λp hp=>?_,λp hp=>?_,by rw[List.length_append]; simp; omega⟩
    ·refine List.nodup_append.mpr ⟨nd,by simp,λu hu v hv e=>?_⟩
     rw[List.mem_singleton.mp hv]at e
     exact nk (e ▸ sub u hu)
    ·rw[cw hki]
     rcases List.mem_append.mp hp with h | h
     ·exact .inl (sub p h)
     ·exact .inr (List.mem_singleton.mp h)
    ·rw[cw hki]at hp
     rw[List.mem_append]
     by_cases c:p=k
     ·exact⟨λ_=>.inr (by rw[c]; exact List.mem_singleton.mpr rfl),λ_=>by rw[c,le,l0]⟩
     ·rw[iff p (hp.resolve_right c)]
      exact⟨.inl,λh=>h.elim id λh=>absurd (List.mem_singleton.mp h) c⟩
   ·have l0:ks.length≠0:=λc=>z (by show (!(ks.length != 0))=true; rw[c]; rfl)
    refine hN _ _ ⟨s46,qs,kn,rfl,al.imp λq p z=>z.same s56,nd,λp hp=>(cw hki).mpr (.inl (sub p hp)),λp hp=>?_,by omega⟩
    rw[cw hki]at hp
    by_cases c:p=k
    ·exact⟨λh=>absurd (by rw[<- le,<- c]; exact h) l0,λh=>absurd (by rw[<- c]; exact sub p h) nk⟩
    ·exact iff p (hp.resolve_right c)
  ·obtain⟨s5,qs0,kn0,rfl,al,nd,sub,iff,lq⟩:=z
   have s46:=s5.trans g6.sm
   have s6:af H H6:=s4.trans s46
   have b36 : ∀ c u,c≠un->H3 c=some u->H6 c=some u:=λc u n e=>s46 _ _ (b4 c u n e)
   rw[<- lns,List.take_length]at sub iff
   have nkl:H kl=none:=by
    cases c:H kl with
    | none=>rfl
    | some u=>have:=s5 _ _ (s4 _ _ c); rw[g6.nw]at this; cases this
   have L0:Lp H H6 a fa fd un kl kvA kvH F N E [] kvU qs0 kn0:=by
    refine⟨s6,bS.nil ((DP.new g1).same λc u e=>?_),uk4.same s46,ah.same λc u e=>?_,g6.at_,al.imp λq p z=>z.same g6.sm,nd,λp hp=>⟨(λz=>by cases z),(gr.key p).mp (by rw[<- ens]; exact sub p hp)⟩,λp hp=>?_⟩
    ·exact b36 _ _ (λz=>by have:=g3.nw; rw[<- z,s2 _ _ e]at this; cases this) (g3.sm _ _ (s2 _ _ e))
    ·exact b36 _ _ (λz=>by have:=g3.nw; rw[<- z,e]at this; cases this) (g3.sm _ _ e)
    ·rw[show ([]:List (aa × Addr × V)).map (λe=>e.1)=[] from rfl,iff p (by rw[ens]; exact (gr.key p).mpr hp)]
     exact⟨.inl,λh=>h.elim id λh=>by cases h⟩
   have nlk : ∀ e∈kvH,e.2.2 ≠ .ref kl:=λe he z=>by
    obtain⟨l,qs,c1,c2,_⟩:=ah.val e he
    rw[z]at c1; cases c1
    have:=s5 _ _ (b4 _ _ (λz=>by have:=g3.nw; rw[<- z,c2]at this; cases this) (g3.sm _ _ c2))
    rw[g6.nw]at this; cases this
   refine⟨λm σ H'=>∃ kvF kvU qs kn v4 v5 v7,σ=[some (.ref a),some (.ref fa),some (.ref fd),some (.ref un),v4,v5,some (.ref kl),v7]/\Lp H H' a fa fd un kl kvA kvH F N E kvF kvU qs kn/\kvU.length<=kvA.length/\m=kvA.length - kvF.length,⟨_,[],kvU,qs0,kn0,_,_,_,rfl,L0,lU,rfl⟩,?_⟩
   rintro m σ H7 ⟨kvF,kvU,qs,kn,v4,v5,v7,rfl,L,lU,rfl⟩
   have lF:kvF.length<=kvA.length:=by
    have:=List.Nodup.length_le_of_subset L.far.dp.nd (l₂:=kvA.map λe=>e.1) λx hx=>(gr.key x).mpr (L.far.sub x hx)
    rwa [List.length_map,List.length_map]at this
   refine⟨_,.inl (.of L.ls),?_⟩
   refine aG (λz=>?_) (λz=>?_)
   ·obtain⟨qs1,q,rfl⟩ : ∃ qs1 q,qs=qs1++[q]:=by
     rcases List.eq_nil_or_concat qs with h | ⟨qs1,q,h⟩
     ·rw[h]at z; cases z
     ·exact⟨qs1,q,by rw[h,List.concat_eq_append]⟩
    obtain⟨kn1,k,rfl⟩ : ∃ kn1 k,kn=kn1++[k]:=by
     rcases List.eq_nil_or_concat kn with h | ⟨kn1,k,h⟩
     ·have:=L.kq.1; rw[h]at this; simp at this
     ·exact⟨kn1,k,by rw[h,List.concat_eq_append]⟩
    have ln:qs1.length=kn1.length:=by have:=L.kq.1; simpa using this
    have kq7:aC H7 k q:=L.kq.2 qs1.length q k (by simp) (by rw[ln]; simp)
    have al1:au (λq p=>aC H7 p q) qs1 kn1:=⟨ln,λi x y hx hy=>L.kq.2 i x y (by rw[List.getElem?_append_left (List.getElem?_eq_some_iff.mp hx).1]; exact hx) (by rw[List.getElem?_append_left (List.getElem?_eq_some_iff.mp hy).1]; exact hy)⟩
    have km:k∈kn1++[k]:=List.mem_append_right _ (List.mem_singleton.mpr rfl)
    obtain⟨kS,Nk⟩:=L.out k km
    have all0:=rM.mp ((L.zero k Nk).mpr (.inl km))
    have kA:k∈kvA.map λe=>e.1:=(gr.key k).mpr Nk
    have ltF:kvF.length+1<=kvA.length:=by
     have:=List.Nodup.length_le_of_subset (List.nodup_cons.mpr ⟨kS,L.far.dp.nd⟩) (l₂:=kvA.map λe=>e.1) λx hx=>by
      rcases List.mem_cons.mp hx with h | h
      ·rw[h]; exact kA
      ·exact (gr.key x).mpr (L.far.sub x h)
     rwa [List.length_cons,List.length_map,List.length_map]at this
    refine⟨_,λσ' H' h=>⟨kvA.length - (kvF.length+1),by omega,h⟩,?_⟩
    refine⟨.inl ⟨rfl,_,.of L.ls⟩,kl,_,.ref q,rfl,rfl,L.ls,by simp,?_⟩
    obtain⟨H8,e8⟩ : ∃ H8,H8=upd H7 kl (.lst (((qs1++[q]).map V.ref).dropLast)):=⟨_,rfl⟩
    have so8 : ∀ c,c≠kl->H8 c=H7 c:=λc n=>by rw[e8,aj n]
    have l8:H8 kl=some (.lst (qs1.map V.ref)):=by rw[e8,aN,List.map_append]; simp
    rw[<- e8]
    clear e8
    have tu8 : ∀ q xs,H7 q=some (.tup xs)->H8 q=some (.tup xs):=λq xs z=>by rw[so8 q (ax z L.ls (by intro z; cases z))]; exact z
    have far8:=L.far.butL L.ls so8
    have unk8:bX H8 un kvU N (bo E (kvF.map λe=>e.1)):=⟨iB L.unk.dp L.ls so8,L.unk.val,L.unk.sub⟩
    have ah8:=L.ah.butL L.ls nlk so8
    have s8:af H H8:=λc u e=>by rw[so8 c (λz=>by rw[z,nkl]at e; cases e)]; exact L.sm _ _ e
    have ge8:=ge.same s8
    have ky8:=br kq7 tu8
    have al8:au (λq p=>aC H8 p q) qs1 kn1:=al1.imp λq p z=>br z tu8
    dsimp only [bG]
    refine ly (λσ' H'=>σ'=[some (.ref a),some (.ref fa),some (.ref fd),some (.ref un),some (.ref q),v5,some (.ref kl),v7]/\af H H'/\(∃ kvF',kvF'.map (λe=>e.1)=kvF.map (λe=>e.1)++[k]/\bS H' fa kvF' F N)/\bX H' un kvU N (bo E (kvF.map λe=>e.1))/\ba H' fd kvH N (bV E (kvA.map λe=>e.1))/\H' kl=some (.lst (qs1.map V.ref))/\au (λq p=>aC H' p q) qs1 kn1/\aC H' k q) (λnx hnx=>?_) λσ' H' z=>?_
    ·obtain⟨v,hv⟩:=dA kA
     obtain⟨e0,he0,e01,e02⟩:=dO hv
     obtain⟨d,ks,a1,a2,a3,a4⟩:=ge8.val e0 he0
     rw[e02]at a1
     subst a1
     rw[e01]at a3 a4
     refine⟨d,.dK ks,(λo v z=>by rw[a2]at z; cases z),?_⟩
     refine⟨a,q,kvA,k,.ref d,rfl,rfl,ge8.dp,ky8,hv,?_⟩
     refine⟨d,ks,rfl,a2,λob=>?_⟩
     obtain⟨H9,e9⟩ : ∃ H9,H9=upd H8 d (.frz ob (.dK ks)):=⟨_,rfl⟩
     have f9:H9 d=some (.frz ob (.dK ks)):=by rw[e9,aN]
     have b9 : ∀ c u,c≠d->H8 c=some u->H9 c=some u:=λc u n e=>by rw[e9,aj n]; exact e
     have df9:DP H9 fa kvF:=tQ far8.dp a2 λc n=>by rw[e9,aj n]
     have tu9 : ∀ q xs,H8 q=some (.tup xs)->H9 q=some (.tup xs):=λq xs z=>b9 _ _ (ax z a2 (by intro z; cases z)) z
     rw[<- e9]
     clear e9
     refine n5 (K:=K) (λi ys H'=>af H9 H'/\∃ ts:List (Addr × Int × Int),ys=ts.map (λx=>V.ref x.1)/\ts.length=i/\(∀ x∈ts,H' x.1=some (.tup [.int x.2.1,.int x.2.2])/\∃ (g:aa) (q':Addr) (n:Nat) (bv':V),F k x.2.2=some g/\bA H8 kvF g q' n bv'/\x.2.1=(n:Int)+1)/\∀ (j:Nat) xg,j < i->(E k)[j]? = some xg->∃ x∈ts,∃ q' n bv',bA H8 kvF xg.2 q' n bv'/\x.2.1=((n:Nat):Int)+1) ⟨af.refl _,[],rfl,rfl,(λx h=>by cases h),λj xg h=>absurd h (Nat.not_lt_zero _)⟩ (λi ys H' hi z=>⟨z.1 _ _ f9,?_⟩) (dg (by have:=a3.len; omega)) (λi ky v ys H10 H11 NN hkv z s10 hN=>?_) λys H10 p H11 z g11=>?_
     ·obtain⟨_,ts,rfl,lt,_⟩:=z
      rw[List.length_map]; omega
     ·obtain⟨s9,ts,rfl,lt,al,cov⟩:=z
      obtain⟨xg,hx,r1,r2,qg,r3,r4⟩:=a4.right hkv
      have r1:ky=.inl xg.1:=r1
      have r3:v=.ref qg:=r3
      subst r1 r3
      obtain⟨q',n,bv',fv,_,_⟩:=far8.val xg.2 (all0 xg (List.mem_of_getElem? hx))
      have s911:=s9.trans s10
      simp only [eZ,if_true]
      refine⟨fa,qg,kvF,xg.2,.ref q',rfl,rfl,df9.same s911,br r4 λq xs z=>s911 _ _ (tu9 _ _ z),fv.1,?_⟩
      refine⟨_,.int (n:Int),.inr (.of (s911 _ _ (tu9 _ _ fv.2))),rfl,?_⟩
      refine⟨sz rfl,λp H12 g12=>hN _ _ ⟨s911.trans g12.sm,ts++[(p,(n:Int)+1,xg.1)],by rw[List.map_append]; rfl,by rw[List.length_append,lt]; rfl,λx hx=>?_,λj xg' hj hx'=>?_⟩⟩
      ·rcases List.mem_append.mp hx with h | h
       ·obtain⟨c1,c2⟩:=al x h
        exact⟨g12.sm _ _ (s10 _ _ c1),c2⟩
       ·rw[List.mem_singleton.mp h]
        exact⟨g12.at_,xg.2,q',n,bv',r2,fv,rfl⟩
      ·by_cases c:j < i
       ·obtain⟨x,xm,z⟩:=cov j xg' c hx'
        exact⟨x,List.mem_append_left _ xm,z⟩
       ·obtain rfl:j=i:=by omega
        rw[hx]at hx'
        cases hx'
        exact⟨_,List.mem_append_right _ (List.mem_singleton.mpr rfl),q',n,bv',fv,rfl⟩
     ·obtain⟨s9,ts,rfl,lt,al,cov⟩:=z
      have s911:=s9.trans g11.sm
      refine⟨⟨ob,s911 _ _ f9⟩,?_⟩
      obtain⟨H12,e12⟩ : ∃ H12,H12=upd H11 d (.dK ks):=⟨_,rfl⟩
      have s812:af H8 H12:=λc u e=>by
       by_cases n:c=d
       ·subst n
        rw[a2]at e; cases e
        rw[e12,aN]
       ·rw[e12,aj n]
        exact s911 _ _ (b9 _ _ n e)
      have o12 : ∀ c u,H11 c=some u->u ≠ .frz ob (.dK ks)->H12 c=some u:=λc u e ne=>by
       rw[e12,aj (λz=>by rw[z,s911 _ _ f9]at e; exact ne (Option.some.inj e).symm)]
       exact e
      rw[<- e12]
      clear e12
      refine⟨sz rfl,λpd H13 g13=>?_⟩
      have s813:=s812.trans g13.sm
      have far13:=far8.same s813
      obtain⟨xsf,epf,dhf,_⟩:=far13.dp.ex
      have fin : ∀ (qv:Addr) (n:Nat) (bv:V),H13 qv=some (.tup [.int (n:Int),bv])->(n=0\/∃ x g q' bv',bv=.int x/\F k x=some g/\0 < n/\bA H13 kvF g q' (n - 1) bv')->(∀ x g,F k x=some g->∃ q' m bv',bA H13 kvF g q' m bv'/\m+1<=n)->∀ H14,DP H14 fa (bK kvF k q (.ref qv))->(∀ c,c≠fa->H14 c=H13 c)->nx [some (.ref a),some (.ref fa),some (.ref fd),some (.ref un),some (.ref q),v5,some (.ref kl),v7] H14:=λqv n bv h1 h2 hm H14 d14 so=>by
       have tu14 : ∀ q xs,H13 q=some (.tup xs)->H14 q=some (.tup xs):=λq xs z=>by rw[so q (ax z dhf (by intro z; cases z))]; exact z
       refine hnx _ _ ⟨rfl,λc u e=>by rw[so c (λz=>by rw[z,g1.nw]at e; cases e)]; exact s813 _ _ (s8 _ _ e),⟨_,by rw[List.map_append]; rfl,far13.put kS Nk h1 h2 hm d14 so⟩,?_,(ah8.same s813).butD dhf fdfa so,?_,al8.imp λq p z=>br (z.same s813) tu14,br (ky8.same s813) tu14⟩
       ·have u13:=unk8.same s813
        exact⟨nU u13.dp dhf unfa so,u13.val,u13.sub⟩
       ·rw[so kl (ax (s813 _ _ l8) dhf (by intro z; cases z))]
        exact s813 _ _ l8
      have lz:kvF.length < sizeLine:=by rw[sizeLine_eq]; omega
      have edg : ∀ x g,F k x=some g->∃ y∈ts,∃ q' m bv',bA H13 kvF g q' m bv'/\y.2.1=((m:Nat):Int)+1:=λx g hF=>by
       obtain⟨q1,w1,w2⟩:=a3.yes x g trivial hF
       unfold aJ at w1
       obtain⟨y,hy,_⟩:=Option.map_eq_some_iff.mp w1
       have ey:y.1=.inl x:=by have z:=List.find?_some hy; exact of_decide_eq_true z
       obtain⟨j,hj⟩:=List.getElem?_of_mem (List.mem_of_find?_eq_some hy)
       obtain⟨xg,hx,r1,r2,_⟩:=a4.right hj
       rw[ey]at r1
       cases r1
       rw[hF]at r2
       cases r2
       obtain⟨u,um,q',m,bv',b1,b2⟩:=cov j xg (List.getElem?_eq_some_iff.mp hj).1 hx
       exact⟨u,um,q',m,bv',b1.same λq xs z=>s813 _ _ z,b2⟩
      refine⟨p,ts,rfl,g13.sm _ _ (o12 _ _ g11.at_ (by intro z; cases z)),λx hx=>g13.sm _ _ (o12 _ _ (g11.sm _ _ (al x hx).1) (by intro z; cases z)),λt0=>?_,λx hx mx=>?_⟩
      ·exact⟨fa,q,kvF,k,rfl,rfl,far13.dp,ky8.same s813,lz,λH14 d14 so=>fin pd 0 .non g13.at_ (.inl rfl) (λx g hF=>by obtain⟨y,ym,_⟩:=edg x g hF; rw[t0]at ym; cases ym) H14 d14 so⟩
      ·obtain⟨c1,g,q',n,bv',c2,c3,c4⟩:=al x hx
       refine⟨fa,q,kvF,k,rfl,rfl,far13.dp,ky8.same s813,lz,λH14 d14 so=>fin x.1 (n+1) (.int x.2.2) ?_ (.inr ⟨x.2.2,g,q',bv',rfl,c2,by omega,c3.same λq xs z=>s813 _ _ z⟩) (λx1 g1 hF=>?_) H14 d14 so⟩
       ·have:=g13.sm _ _ (o12 _ _ (g11.sm _ _ c1) (by intro z; cases z))
        rw[c4]at this
        exact this
       ·obtain⟨y,ym,q',m,bv',b1,b2⟩:=edg x1 g1 hF
        refine⟨q',m,bv',b1,?_⟩
        have:=mx y ym
        unfold cU at this
        split at this
        ·omega
        ·have:=of_decide_eq_false this
         omega
    ·obtain⟨rfl,s9,⟨kvF',eF,far9⟩,unk9,ah9,lk9,al9,ky9⟩:=z
     have lF':kvF'.length=kvF.length+1:=by
      have:=congrArg List.length eF
      rw[List.length_append,List.length_map,List.length_map]at this
      exact this
     obtain⟨v,hv⟩:=dA ((ah9.key k).mpr Nk)
     obtain⟨e0,he0,e01,e02⟩:=dO hv
     obtain⟨l,qa,c1,c2,c3⟩:=ah9.val e0 he0
     rw[e02]at c1
     subst c1
     rw[e01]at c3
     obtain⟨pa,epa⟩ : ∃ pa,pa=((bV E (kvA.map λe=>e.1)).filter λpg=>decide (pg.2=k)).map λpg=>pg.1:=⟨_,rfl⟩
     rw[<- epa]at c3
     have cnt : ∀ p,pa.count p=if p∈kvA.map (λe=>e.1) then ((E p).filter λxg=>decide (xg.2=k)).length else 0:=λp=>by rw[epa]; exact CH E _ gr.dp.nd k p
     have paN : ∀ p∈pa,N p:=λp hp=>by
      have:=List.count_pos_iff.mpr hp
      rw[cnt]at this
      by_cases c:p∈kvA.map λe=>e.1
      ·exact (gr.key p).mp c
      ·rw[if_neg c]at this; omega
     have nlk':l≠kl:=λz=>nlk e0 he0 (by rw[e02,z])
     have opS : ∀ p,N p->bo E (kvF.map λe=>e.1) p=bo E (kvF.map (λe=>e.1)++[k]) p+(pa.drop 0).count p:=λp hp=>by
      rw[zj E _ k p kS,List.drop_zero,cnt,if_pos ((gr.key p).mpr hp)]
     have ndk:=List.nodup_append.mp L.nd
     refine⟨fd,q,kvH,k,.ref l,rfl,rfl,ah9.dp,ky9,hv,?_⟩
     refine⟨l,rfl,⟨_,.of c2⟩,fk (K:=K) (a:=l) (xs:=qa.map V.ref) (λj σ H'=>af H H'/\bS H' fa kvF' F N/\ba H' fd kvH N (bV E (kvA.map λe=>e.1))/\(∃ kvU,bX H' un kvU N (λp=>bo E (kvF.map (λe=>e.1)++[k]) p+(pa.drop j).count p))/\(∃ qs kn,H' kl=some (.lst (qs.map V.ref))/\au (λq p=>aC H' p q) qs kn/\kn.Nodup/\(∀ p∈kn,p∉kvF.map (λe=>e.1)++[k]/\N p)/\∀ p,N p->(bo E (kvF.map (λe=>e.1)++[k]) p+(pa.drop j).count p=0 ↔ p∈kn\/p∈kvF.map (λe=>e.1)++[k]))/\H' l=some (.lst (qa.map V.ref))/\au (λq p=>aC H' p q) qa pa/\∃ v7,σ=[some (.ref a),some (.ref fa),some (.ref fd),some (.ref un),some (.ref q),v5,some (.ref kl),v7]) ⟨s9,far9,ah9,⟨kvU,unk9.cE opS⟩,⟨qs1,kn1,lk9,al9,ndk.1,λp hp=>⟨λz=>?_,(L.out p (List.mem_append_left _ hp)).2⟩,λp hp=>?_⟩,c2,c3,_,rfl⟩ (λi σ H' _ z=>.of z.2.2.2.2.2.1) ?_ ?_⟩
     ·rcases List.mem_append.mp z with h | h
      ·exact (L.out p (List.mem_append_left _ hp)).1 h
      ·exact ndk.2.2 p hp k (List.mem_singleton.mpr rfl) (List.mem_singleton.mp h)
     ·rw[<- opS p hp,L.zero p hp,List.mem_append,List.mem_append]
      constructor
      ·rintro ((h | h) | h)
       ·exact .inl h
       ·exact .inr (.inr h)
       ·exact .inr (.inl h)
      ·rintro (h | h | h)
       ·exact .inl (.inl h)
       ·exact .inr h
       ·exact .inl (.inr h)
     ·rintro j x σ H10 hx ⟨s10,far10,ah10,⟨kvU',uk⟩,⟨qs,kn,lk10,al10,nd10,out10,zero10⟩,hl10,ap10,v7',rfl⟩
      rw[List.getElem?_map]at hx
      obtain⟨qj,hq,rfl⟩:=Option.map_eq_some_iff.mp hx
      obtain⟨pj,hp,kyj⟩:=ap10.right hq
      have Np:N pj:=paN pj (List.mem_of_getElem? hp)
      have dr:pa.drop j=pj :: pa.drop (j+1):=by
       have jl:=(List.getElem?_eq_some_iff.mp hp).1
       rw[List.drop_eq_getElem_cons jl,(List.getElem?_eq_some_iff.mp hp).2]
      have cj:(pa.drop j).count pj=(pa.drop (j+1)).count pj+1:=by rw[dr,List.count_cons_self]
      have co : ∀ p,p≠pj->(pa.drop j).count p=(pa.drop (j+1)).count p:=λp n=>by rw[dr,List.count_cons_of_ne (Ne.symm n)]
      obtain⟨xsu,epu,dhu,_⟩:=uk.dp.ex
      have lU':=uk.len (kvA:=kvA) λk hk=>(gr.key k).mpr hk
      dsimp only [bG]
      refine⟨un,qj,kvU',pj,_,rfl,rfl,uk.dp,kyj,by rw[sizeLine_eq]; omega,uk.val pj Np,?_⟩
      refine⟨_,_,rfl,rfl,rfl,λH11 d11 so=>?_⟩
      have tu11 : ∀ q xs,H10 q=some (.tup xs)->H11 q=some (.tup xs):=λq xs z=>by rw[so q (ax z dhu (by intro z; cases z))]; exact z
      have li11 : ∀ q xs,H10 q=some (.lst xs)->H11 q=some (.lst xs):=λq xs z=>by rw[so q (ax z dhu (by intro z; cases z))]; exact z
      have s11:af H H11:=λc u e=>by rw[so c (λz=>by rw[z,nun]at e; cases e)]; exact s10 _ _ e
      have far11:=far10.butD dhu unfa.symm so
      have ah11:=ah10.butD dhu unfd.symm so
      have lk11:=li11 _ _ lk10
      have al11:au (λq p=>aC H11 p q) qs kn:=al10.imp λq p z=>br z tu11
      have ap11:au (λq p=>aC H11 p q) qa pa:=ap10.imp λq p z=>br z tu11
      have ec:(((bo E (kvF.map (λe=>e.1)++[k]) pj+(pa.drop j).count pj:Nat):Int) - 1)=((bo E (kvF.map (λe=>e.1)++[k]) pj+(pa.drop (j+1)).count pj:Nat):Int):=by omega
      dsimp only at d11
      rw[ec]at d11
      have uk11:bX H11 un _ N (λp=>bo E (kvF.map (λe=>e.1)++[k]) p+(pa.drop (j+1)).count p):=uk.put (N':=N) d11 (λx=>⟨.inl,λh=>h.elim id λe=>e ▸ Np⟩) rfl λx n=>by rw[co x n]
      have z1:=zero10 pj Np
      have npk:pj∉kn/\pj∉kvF.map (λe=>e.1)++[k]:=by
       have : ¬ (pj∈kn\/pj∈kvF.map (λe=>e.1)++[k]):=λh=>by have:=z1.mpr h; omega
       exact⟨λh=>this (.inl h),λh=>this (.inr h)⟩
      refine⟨un,qj,_,pj,_,rfl,rfl,uk11.dp,br kyj tu11,uk11.val pj Np,?_⟩
      refine aG (λz=>?_) (λz=>?_)
      ·have c0:bo E (kvF.map (λe=>e.1)++[k]) pj+(pa.drop (j+1)).count pj=0:=by have:=of_decide_eq_true z; omega
       have lkn:qs.length<=40000:=by
        have:=List.Nodup.length_le_of_subset nd10 (l₂:=kvA.map λe=>e.1) λx hx=>(gr.key x).mpr (out10 x hx).2
        rw[List.length_map]at this
        have:=al10.1
        omega
       refine⟨.inl ⟨rfl,_,.of lk11⟩,_,lk11,by rw[List.length_map,sizeLine_eq]; omega,?_⟩
       obtain⟨H12,e12⟩ : ∃ H12,H12=upd H11 kl (.lst (qs.map V.ref++[.ref qj])):=⟨_,rfl⟩
       have so12 : ∀ c,c≠kl->H12 c=H11 c:=λc n=>by rw[e12,aj n]
       have l12:H12 kl=some (.lst ((qs++[qj]).map V.ref)):=by rw[e12,aN,List.map_append]; rfl
       have tu12 : ∀ q xs,H11 q=some (.tup xs)->H12 q=some (.tup xs):=λq xs z=>by rw[so12 q (ax z lk11 (by intro z; cases z))]; exact z
       rw[<- e12]
       clear e12
       refine⟨λc u e=>by rw[so12 c (λz=>by rw[z,nkl]at e; cases e)]; exact s11 _ _ e,far11.butL lk11 so12,ah11.butL lk11 nlk so12,⟨_,⟨iB uk11.dp lk11 so12,uk11.val,uk11.sub⟩⟩,⟨qs++[qj],kn++[pj],l12,au.app (al11.imp λq p z=>br z tu12) (au.cons (br (br kyj tu11) tu12) au.nil),?_,λp hp=>?_,λp hp=>?_⟩,by rw[so12 l nlk']; exact li11 _ _ hl10,ap11.imp λq p z=>br z tu12,_,rfl⟩
       ·refine List.nodup_append.mpr ⟨nd10,by simp,λu hu v hv e=>?_⟩
        rw[List.mem_singleton.mp hv]at e
        exact npk.1 (e ▸ hu)
       ·rcases List.mem_append.mp hp with h | h
        ·exact out10 p h
        ·rw[List.mem_singleton.mp h]; exact⟨npk.2,Np⟩
       ·rw[List.mem_append]
        by_cases c:p=pj
        ·rw[c]; exact⟨λ_=>.inl (.inr (List.mem_singleton.mpr rfl)),λ_=>c0⟩
        ·rw[<- co p c,zero10 p hp]
         exact⟨λh=>h.imp .inl id,λh=>h.imp (λh=>h.elim id λh=>absurd (List.mem_singleton.mp h) c) id⟩
      ·have c0 : ¬ bo E (kvF.map (λe=>e.1)++[k]) pj+(pa.drop (j+1)).count pj=0:=λc=>z (decide_eq_true (by omega))
       refine⟨s11,far11,ah11,⟨_,uk11⟩,⟨qs,kn,lk11,al11,nd10,out10,λp hp=>?_⟩,li11 _ _ hl10,ap11,_,rfl⟩
       by_cases c:p=pj
       ·rw[c]; exact⟨λh=>absurd h c0,λh=>absurd h (not_or.mpr npk)⟩
       ·rw[<- co p c]; exact zero10 p hp
     ·rintro σ H10 ⟨s10,far10,ah10,⟨kvU',uk⟩,⟨qs,kn,lk10,al10,nd10,out10,zero10⟩,hl10,ap10,v7',rfl⟩
      have d0:pa.drop (qa.map V.ref).length=[]:=List.drop_of_length_le (by rw[List.length_map,c3.1]; exact Nat.le_refl _)
      rw[d0]at uk zero10
      refine⟨kvF',kvU',qs,kn,_,_,_,rfl,⟨s10,far10,?_,ah10,lk10,al10,nd10,?_,?_⟩,uk.len λk hk=>(gr.key k).mpr hk,by rw[lF']⟩
      ·rw[eF]; exact uk.cE λp _=>by simp
      ·rw[eF]; exact out10
      ·rw[eF]; intro p hp; have:=zero10 p hp; simpa using this
   ·have q0:qs=[]:=by
     cases qs with
     | nil=>rfl
     | cons q qs=>exact absurd rfl z
    have k0:kn=[]:=List.eq_nil_of_length_eq_zero (by have:=L.kq.1; rw[q0]at this; exact this.symm)
    refine kk fa kvF H7 L.sm g1.nw (L.far.far (by omega)) λk hk nk=>?_
    have no : ¬ bo E (kvF.map λe=>e.1) k=0:=λc=>by
     rcases (L.zero k hk).mp c with h | h
     ·rw[k0]at h; cases h
     ·exact nk h
    obtain⟨e,he,ek⟩:=List.mem_map.mp ((gr.key k).mpr hk)
    obtain⟨d,ks,a1,a2,a3,a4⟩:=ge.val e he
    rw[ek]at a4
    apply Classical.byContradiction
    intro hno
    refine no (rM.mpr λxg hx=>Classical.byContradiction λc=>hno ?_)
    obtain⟨j,hj⟩:=List.getElem?_of_mem hx
    obtain⟨y,_,_,r2,_⟩:=a4.left hj
    exact⟨xg.1,xg.2,r2,c⟩
abbrev qS:Str:=(("slack" : Str) ++ ".<locals>.") ++ "<lambda>"
abbrev pS:Pos:=⟨76,26,76,51⟩
structure D2 (H H':Hp) (v:V) (k:aa) (r:List Int):Prop where
 ex : ∃ wt l1 l2 l,v=.ref wt/\H' wt=some (.tup [.ref l1,.ref l2,.ref l])/\H' l1=some (.lst (k.1.map V.int))/\H' l2=some (.lst (k.2.map V.int))/\H' l=some (.lst (r.map V.int))/\H l1=none/\H l2=none/\H l=none/\l1≠l2/\l1≠l/\l2≠l
def D7(H H':Hp)(rows:List (List Int))(s:Str)(n:Int)(v:V):Prop :=
 ((∀ k,¬ aV (ap rows) k)/\s = "within"/\n=0/\v=.non) \/
 ∃ k r,aV (ap rows) k/\r.length<=160000/\D2 H H' v k r/\((s = "never"/\n=0/\r≠[]/\aK (λk=>bO rows (ap rows) k.1 k.2) k r=some k)\/(s = "within"/\(r.length:Int)=n/\(∃ g,aK (λk=>bO rows (ap rows) k.1 k.2) k r=some g)/\∀ k' r' g',aV (ap rows) k'->aK (λk=>bO rows (ap rows) k.1 k.2) k' r'=some g'->(r'.length:Int)<=n))
def wk(t:Adr):Sp:=λvs H Q _=>∃ (a:Addr) (f:Ft) (es:List (Int × List Int)) (n:Nat),vs=[.ref a]/\Tt t H a f es n/\n<=1000/\Es es/\(ap (es.map λe=>e.2)).length<=200/\cH H 75 qS pS /\
 ∀ p s m v H',dJ 75 H H'->cH H' 75 qS pS->H' p=some (.tup [.str s,.int m,v])->D7 H H' (es.map λe=>e.2) s m v->Q (.ref p) H'
theorem ox{rows:List (List Int)}(pf : ∀ x∈rows,∀ y∈rows,x <+: y->x=y)(ne : ∀ r∈rows,r≠[]) : ∀ k x g,aV (ap rows) k->bO rows (ap rows) k.1 k.2 x=some g->aV (ap rows) g:=by
 intro k x g hk hg
 unfold bO at hg
 split at hg
 ·rename_i z
  cases hg
  have one : ∀ b,b++[x]∈ap rows->bM (ap rows) (bt rows (b++[x])):=λb hb=>by
   obtain⟨h1,r,hr,hp⟩:=eE.mp hb
   unfold bt
   split
   ·obtain⟨y,ys,e⟩ : ∃ y ys,r=y :: ys:=by
     cases r with
     | nil=>exact absurd rfl (ne _ hr)
     | cons y ys=>exact⟨y,ys,rfl⟩
    exact⟨y,eE.mpr ⟨by simp,r,hr,by rw[e]; exact⟨ys,rfl⟩⟩⟩
   ·rename_i nr
    obtain⟨s,e⟩:=hp
    cases s with
    | nil=>rw[List.append_nil]at e; rw[e]at nr; exact absurd hr nr
    | cons y ys=>exact⟨y,eE.mpr ⟨by simp,r,hr,by rw[<- e]; exact⟨ys,by simp⟩⟩⟩
  exact⟨one _ z.1,one _ z.2.1,λe=>z.2.2 e.symm⟩
 ·cases hg
theorem iQ{H H':Hp}{q:Str}{pos:Pos}(h:cH H 75 q pos)(s:af H H'):cH H' 75 q pos:=by
 rcases h with h | ⟨c,h,oc,vs,t,h1,h2,h3⟩
 ·exact .inl (s _ _ h)
 ·exact .inr ⟨c,s _ _ h,oc,vs,t,s _ _ h1,h2,h3⟩
def iE(H H':Hp):Prop:=∀ c u,H c=some u->(∀ ps,u ≠ .tbl ps)->H' c=some u
theorem lD{H H':Hp}{q:Str}{pos:Pos}(h:cH H 75 q pos)(s:dJ 75 H H'):iE H H':=λc u e n=>by
 obtain⟨ps,ht⟩:=cH.tbl h
 exact s c u (λz=>by rw[z,ht]at e; exact n ps (Option.some.inj e).symm) e
theorem nV{H H':Hp}{a:Addr}{kvs:List (aa × Addr × V)}(h:DP H a kvs)(s:iE H H'):DP H' a kvs:=by
 obtain⟨⟨xs,ep,h1,h2⟩,k,n,l⟩:=h
 exact⟨⟨xs,ep,s _ _ h1 (by intro ps z; cases z),h2⟩,λx hx=>br (k x hx) λq xs z=>s _ _ z (by intro ps z; cases z),n,l⟩
theorem Bl{H H':Hp}{a:Addr}{kvs:List (aa × Addr × V)}{F:aa->Int->Option aa}{N:aa->Prop}(h:Gr H a kvs F N)(s:iE H H'):Gr H' a kvs F N :=
 ⟨nV h.dp s,h.key,λe he=>let ⟨d,ks,a,b,c⟩:=h.val e he; ⟨d,ks,a,s _ _ b (by intro ps z; cases z),c.mono λq xs z=>s _ _ z (by intro ps z; cases z)⟩⟩
theorem Cg{H H':Hp}{a:Addr}{kvs:List (aa × Addr × V)}{F:aa->Int->Option aa}{N:aa->Prop}(h:fF H a kvs F N)(s:iE H H'):fF H' a kvs F N:=by
 have tu : ∀ q xs,H q=some (.tup xs)->H' q=some (.tup xs):=λq xs z=>s _ _ z (by intro ps z; cases z)
 refine⟨nV h.dp s,h.sub,λk hk=>?_⟩
 obtain⟨q,n,bv,a,l,b⟩:=h.val k hk
 refine⟨q,n,bv,a.same tu,l,b.imp id ?_⟩
 rintro⟨x,g,q',bv',b1,b2,b3⟩
 exact⟨x,g,q',bv',b1,b2,b3.same tu⟩
theorem AZ (T:Txt K mg t) (hBI:base.BuiltinsAt mg 75):bi P w K mg base "slack" 6 t.kK t.kh ["tongue"] (wk t):=by
 refine⟨T.BC,T.Ef.kp,T.Dy,T.uF.okQ gA (λvs H Q E h=>by obtain⟨a,f,es,n,rfl,_⟩:=h; rfl) λA outer s H vs Q E hr h=>?_⟩
 obtain⟨a,f,es,n,rfl,tt,hn,ok,lp,tab,kk⟩:=h
 have hu:=hr.units
 refine⟨_,(aw (aS (i:=1) gA.nd rfl (.inl rfl) (aX (Bf T) hr (ae (aX (AY T) hr (ae (ab 0) ag)) ag)))
  (aw (ca (fQ (qM (ab 1))) (av (aT (cv (lW rfl)))) bZ)
  (aw (aS (i:=2) gA.nd rfl (.inr rfl) (aX (Bc T) hr (ae (ab 1) ag)))
  (aw (lQ (i:=3) gA.nd rfl (.inl rfl) rfl (cg.of (fns:=(ao ez).names) (N:=["tongue", "apart", "far", "endless", "trip", "pair"]) (Nc:=["pair", "far"]) (nv:=1) (caps:=[2]) rfl rfl (by decide +kernel)) (qQ (ab 1)) (λ_ _ _ _=>(aE (i:=0) (show List.Nodup (["pair", "far"]:List Str) by decide +kernel) rfl (Or.inl rfl) (Or.inr rfl))) (λ_ _ _ _=>(lN (bJ (mK hu) (ab 0) (ab 1) (by with_unfolding_all rfl)))) (λ_ _ _ _=>(ab 0)))
  (aw (ca (qR (K:=K) rfl (ab 3)) (aw (aS (i:=4) gA.nd rfl (.inl rfl) (aX (AX T) hr (ae (ab 1) (ae (ab 2) (ae (be (bh (K:=K) rfl) (ab 3) aB (λ_ _=>rfl)) ag)))))
  (av (aT (cv (ae h9 (ae aB (ae (aX (sZ T) hr (ae (be (bh (K:=K) rfl) (ab 4) aB (λ_ _=>rfl)) (ae (be (bh (K:=K) rfl) (ab 4) aB (λ_ _=>rfl)) ag))) ag))))))) bZ)
  (aw (aS (i:=5) gA.nd rfl (.inl rfl) (xR (x := "each") (y := "far") (iy:=2) hr rfl T.uF.hd hBI rfl rfl (by decide) rfl rfl rfl rfl rfl (λ_ _ _ _ _ _=>rfl) (λ_ _ _ _ _ _ _ hr=>have hu:=(hr.deeper _).units; (be (bh (K:=K) rfl) (cS hu (ab 1) (ab 0)) aB (λ_ _=>rfl))) (ab 1) T.n_max rfl))
  (av (aT (cv (ae h9 (ae (be (bh (K:=K) rfl) (cS hu (ab 2) (ab 5)) aB (λ_ _=>rfl)) (ae (aX (sZ T) hr (ae (ab 5) (ae (aX (A3 T) hr (ae (ab 1) (ae (ab 2) (ae (ab 5) ag)))) ag))) ag)))))))))))),?_⟩
 obtain⟨rows,er⟩ : ∃ rows,rows=es.map λe=>e.2:=⟨_,rfl⟩
 refine⟨a,f,es,n,rfl,tt,hn,ok,λp1 kvs H1 s1 n1 st l1=>?_⟩
 rw[<- er]at st l1 lp kk
 have pf : ∀ x∈rows,∀ y∈rows,x <+: y->x=y:=by
  intro x hx y hy hp
  rw[er]at hx hy
  obtain⟨e1,h1,rfl⟩:=List.mem_map.mp hx
  obtain⟨e2,h2,rfl⟩:=List.mem_map.mp hy
  rcases ok.two h1 h2 with z | z
  ·rw[z]
  ·have:bp e1.2 e2.2=true:=decide_eq_true (List.prefix_iff_eq_take.mp hp).symm
   unfold cV at z
   rw[this]at z
   simp at z
 have ner : ∀ r∈rows,r≠[]:=λr hr z=>by
  rw[er]at hr
  obtain⟨e1,h1,rfl⟩:=List.mem_map.mp hr
  have:=(ok.sg e1 h1).2.1
  rw[z]at this
  simp at this
 refine⟨p1,rows,ap rows,kvs,rfl,st,by omega,by omega,λa2 kvA H2 s2 n2 gr lA=>?_⟩
 have lA':kvA.length<=40000:=Nat.le_trans lA (Nat.mul_le_mul (show kvs.length<=200 by omega) (show kvs.length<=200 by omega))
 have s02:=s1.trans s2
 have cl:=ox pf ner
 refine⟨a2,kvA.length,rfl,.inr (.inr ⟨kvA,gr.dp,rfl⟩),?_⟩
 refine aG (λz=>?_) (λz=>?_)
 ·have l0:kvA=[]:=by
   have z:(!(kvA.length != 0))=true:=z
   have:kvA.length=0:=by simpa using z
   exact List.eq_nil_of_length_eq_zero this
  refine⟨sz rfl,λp H3 g3=>?_⟩
  refine kk p _ _ _ H3 (s02.trans g3.sm).one (iQ tab (s02.trans g3.sm)) g3.at_ (.inl ⟨λk hk=>?_,rfl,rfl,rfl⟩)
  have:=(gr.key k).mpr hk
  rw[l0]at this; cases this
 ·refine⟨a2,kvA,_,_,rfl,gr,cl,lA',λfa kvF H3 s3 n3 far out=>?_⟩
  have s03:=s02.trans s3
  have gr3:=gr.same s3
  obtain⟨ns,ens⟩ : ∃ ns,ns=kvA.map λe=>e.1:=⟨_,rfl⟩
  obtain⟨xs0,ep0,dh,_⟩:=gr3.dp.ex
  refine⟨a2,kvA,rfl,gr3.dp,λo ho=>?_⟩
  rw[dh]at ho
  cases ho
  refine CN (λi ys H'=>af H3 H'/\∃ qs kn,ys=qs.map V.ref/\au (λq p=>aC H' p q) qs kn/\(∀ p∈kn,aV (ap rows) p/\p∉kvF.map λe=>e.1)/\(∀ p∈ns.take i,p∉kvF.map (λe=>e.1)->kn≠[])/\qs.length<=i) ⟨af.refl _,[],[],rfl,au.nil,(λp h=>by cases h),(λp h=>by cases h),Nat.zero_le _⟩ (λi ys H' hi z=>⟨z.1 _ _ dh,?_⟩) (dg (by omega)) (λi k qb v ys H4 NN hkv z hN=>?_) λys H4 pe H5 z g5=>?_
  ·obtain⟨_,qs,kn,rfl,_,_,_,l⟩:=z
   rw[List.length_map]; exact l
  ·obtain⟨s4,qs,kn,rfl,al,oo,ne,l⟩:=z
   have hki:ns[i]? = some k:=by rw[ens,List.getElem?_map,hkv]; rfl
   have em:=List.mem_of_getElem? hkv
   have kb:aC H3 k qb:=gr3.dp.key _ em
   have nk:aV (ap rows) k:=(gr.key k).mp (List.mem_map.mpr ⟨_,em,rfl⟩)
   refine⟨qb,fa,kvF,k,rfl,rfl,far.dp.same s4,kb.same s4,?_⟩
   refine aG (λz=>?_) (λz=>?_)
   ·have nF:k∉kvF.map λe=>e.1:=λh=>by
     obtain⟨v,hv⟩:=dA h
     have z:(!(aA kvF k).isSome)=true:=z
     rw[hv]at z; cases z
    refine hN _ _ ⟨s4,qs++[qb],kn++[k],by rw[List.map_append]; rfl,au.app al (au.cons (kb.same s4) au.nil),λp hp=>?_,λ_ _ _=>by simp,by rw[List.length_append]; simp; omega⟩
    rcases List.mem_append.mp hp with h | h
    ·exact oo p h
    ·rw[List.mem_singleton.mp h]; exact⟨nk,nF⟩
   ·have iF:k∈kvF.map λe=>e.1:=Classical.byContradiction λh=>z (by show (!(aA kvF k).isSome)=true; rw[iO h]; rfl)
    refine hN _ _ ⟨s4,qs,kn,rfl,al,oo,λp hp np=>?_,by omega⟩
    rcases (cw hki).mp hp with h | h
    ·exact ne p h np
    ·rw[h]at np; exact absurd iF np
  ·obtain⟨s4,qs,kn,rfl,al,oo,ne,l⟩:=z
   have s35:=s4.trans g5.sm
   have s05:=s03.trans s35
   have gr5:=gr3.same s35
   have lns:ns.length=kvA.length:=by rw[ens,List.length_map]
   rw[<- lns,List.take_length]at ne
   refine⟨_,.inl (.of g5.at_),?_⟩
   refine aG (λz=>?_) (λz=>?_)
   ·obtain⟨q0,qt,rfl⟩ : ∃ q0 qt,qs=q0 :: qt:=by
     cases qs with
     | nil=>cases z
     | cons q0 qt=>exact⟨q0,qt,rfl⟩
    obtain⟨k0,hk0,ky0⟩:=al.right (i:=0) (x:=q0) rfl
    obtain⟨nk0,nF0⟩:=oo k0 (List.mem_of_getElem? hk0)
    refine⟨_,.ref q0,.inl (.of g5.at_),bW (j:=0) rfl,?_⟩
    refine⟨a2,fa,q0,kvA,kvF,_,_,k0,rfl,gr5,by omega,far.dp.same s35,cl,out,ky0.same g5.sm,nk0,nF0,λp q' l k' r H6 s6 hp nl ky nk' hl rne lr hpth=>?_⟩
    refine⟨_,.ref q',.inr (.of hp),rfl,?_⟩
    refine⟨_,.ref l,.inr (.of hp),rfl,?_⟩
    refine⟨q',l,k',rfl,ky,λp7 l1 l2 H7 s7 h7 m1 m2 m12 h71 h72=>?_⟩
    refine⟨sz rfl,λp8 H8 g8=>?_⟩
    have s06:=s05.trans s6
    have nn : ∀ {c:Addr},H6 c=none->H c=none:=λ{c} h=>by
     cases e:H c with
     | none=>rfl
     | some u=>have:=s06 _ _ e; rw[h]at this; cases this
    have nn5:H l=none:=by
     cases e:H l with
     | none=>rfl
     | some u=>have:=s05 _ _ e; rw[nl]at this; cases this
    have s08:=s06.trans (s7.trans g8.sm)
    exact kk p8 _ _ _ H8 s08.one (iQ tab s08) g8.at_ (.inr ⟨k',r,nk',by omega,⟨p7,l1,l2,l,rfl,g8.sm _ _ h7,g8.sm _ _ h71,g8.sm _ _ h72,g8.sm _ _ (s7 _ _ hl),nn m1,nn m2,nn5,m12,(λe=>by rw[e,hl]at m1; cases m1),λe=>by rw[e,hl]at m2; cases m2⟩,.inl ⟨rfl,rfl,rne,hpth⟩⟩)
   ·have k0:kn=[]:=by
     cases qs with
     | nil=>exact List.eq_nil_of_length_eq_zero al.1.symm
     | cons q0 qt=>exact absurd rfl z
    have allF : ∀ p∈ns,p∈kvF.map λe=>e.1:=λp hp=>Classical.byContradiction λh=>ne p hp h k0
    have tab5:=iQ tab s05
    have far5:=far.same s35
    have kne:kvA≠[]:=λh=>by rename_i z0 _; exact z0 (by show (!(kvA.length != 0))=true; rw[h]; rfl)
    have all : ∀ i:Nat,∃ n:Int,∀ k b v,kvA[i]? = some (k,b,v)->∃ q m bv,bA H5 kvF k q m bv/\n=(m:Int):=λi=>by
     cases c:kvA[i]? with
     | none=>exact⟨0,λk b v h=>by cases h⟩
     | some e =>
      obtain⟨q,m,bv,fv,_⟩:=far5.val e.1 (allF e.1 (by rw[ens]; exact List.mem_map.mpr ⟨e,List.mem_of_getElem? c,rfl⟩))
      exact⟨m,λk b v h=>by cases h; exact⟨q,m,bv,fv,rfl⟩⟩
    unfold jy
    dsimp only
    refine⟨a2,kvA,.ref fa,rfl,gr5.dp,kne,rfl,tab5,λi=>Classical.choose (all i),λH6 s6 i k b v hi=>?_,λH6 s6 tab6 i k b v hi hmax=>?_⟩
    ·have sT:=lD tab5 s6
     have tu : ∀ q xs,H5 q=some (.tup xs)->H6 q=some (.tup xs):=λq xs z=>sT _ _ z (by intro ps z; cases z)
     obtain⟨q,m,bv,fv,em⟩:=Classical.choose_spec (all i) k b v hi
     refine⟨fa,b,kvF,k,.ref q,rfl,rfl,nV far5.dp sT,br (gr5.dp.key _ (List.mem_of_getElem? hi)) tu,fv.1,?_⟩
     exact⟨_,.int (m:Int),.inr (.of (tu _ _ fv.2)),rfl,congrArg V.int em.symm,rfl⟩
    ·have sT:=lD tab5 s6
     have tu : ∀ q xs,H5 q=some (.tup xs)->H6 q=some (.tup xs):=λq xs z=>sT _ _ z (by intro ps z; cases z)
     obtain⟨q,m,bv,fv,em⟩:=Classical.choose_spec (all i) k b v hi
     have kb6:=br (gr5.dp.key _ (List.mem_of_getElem? hi)) tu
     have far6:=Cg far5 sT
     have nk:aV (ap rows) k:=(gr.key k).mp (List.mem_map.mpr ⟨_,List.mem_of_getElem? hi,rfl⟩)
     refine⟨fa,b,kvF,k,.ref q,rfl,rfl,far6.dp,kb6,fv.1,?_⟩
     refine⟨_,.int (m:Int),.inr (.of (tu _ _ fv.2)),rfl,?_⟩
     refine⟨a2,fa,b,kvA,kvF,_,_,k,q,m,bv,rfl,Bl gr5 sT,far6,kb6,fv.same tu,λl r H7 s7 nl hl lr hp=>?_⟩
     refine⟨b,l,k,rfl,kb6.same s7,λp8 l1 l2 H8 s8 h8 m1 m2 m12 h81 h82=>?_⟩
     refine⟨sz rfl,λp9 H9 g9=>?_⟩
     have s06:dJ 75 H H6:=s05.one.trans s6
     have s09:dJ 75 H H9:=s06.trans (s7.trans (s8.trans g9.sm)).one
     have n75 : ∀ {c:Addr},H6 c=none->c≠75:=λ{c} h z=>by
      obtain⟨ps,ht⟩:=cH.tbl tab6
      rw[z,ht]at h; cases h
     have nn6 : ∀ {c:Addr},H6 c=none->H c=none:=λ{c} h=>by
      cases e:H c with
      | none=>rfl
      | some u=>have:=s06 _ _ (n75 h) e; rw[h]at this; cases this
     have nn7 : ∀ {c:Addr},H7 c=none->H6 c=none:=λ{c} h=>by
      cases e:H6 c with
      | none=>rfl
      | some u=>have:=s7 _ _ e; rw[h]at this; cases this
     have l160:r.length<=160000:=by
      obtain⟨q3,m3,bv3,fv3,⟨l3,_⟩,_⟩:=far5.val k fv.key
      obtain⟨_,e3,_⟩:=fv3.one fv
      omega
     refine kk p9 _ _ _ H9 s09 (iQ tab6 (s7.trans (s8.trans g9.sm))) g9.at_ (.inr ⟨k,r,nk,l160,⟨p8,l1,l2,l,rfl,g9.sm _ _ h8,g9.sm _ _ h81,g9.sm _ _ h82,g9.sm _ _ (s8 _ _ hl),nn6 (nn7 m1),nn6 (nn7 m2),nn6 nl,m12,(λe=>by rw[e,hl]at m1; cases m1),λe=>by rw[e,hl]at m2; cases m2⟩,.inr ⟨rfl,by rw[lr],hp,λk1 r1 g1 nk1 hp1=>?_⟩⟩)
     obtain⟨e1,he1,ek1⟩:=List.mem_map.mp ((gr.key k1).mpr nk1)
     obtain⟨j,hj⟩:=List.getElem?_of_mem he1
     obtain⟨q2,m2,bv2,fv2,em2⟩:=Classical.choose_spec (all j) e1.1 e1.2.1 e1.2.2 hj
     obtain⟨q3,m3,bv3,fv3,⟨_,gst⟩,_⟩:=far5.val e1.1 fv2.key
     obtain⟨_,e3,_⟩:=fv3.one fv2
     rw[ek1]at gst
     have l1:=gst r1 g1 hp1
     have l2:Classical.choose (all i)>=Classical.choose (all j):=(hmax j (List.getElem?_eq_some_iff.mp hj).1).1
     rw[em,em2]at l2
     omega
theorem cC{i:Nat}{v:V}{σ:St}{H:Hp}{Q:St->Hp->Prop}(h:Q (σ.set i (some v)) H):bG i v σ H Q:=h
theorem AV (T:Txt K mg t):bi P w K mg base "_law_plain" 1 t.oE t.m4 ["_law_found"] (λvs H Q _=>∃ i,vs=[.int i]/\Q (.bl true) H):=by
 refine⟨T.Bv,T.uL.kp,T.Dr,T.uL.okQ wQ (λvs H Q E h=>by obtain⟨i,rfl,_⟩:=h; rfl) λcdv A outer s H vs Q E hr h=>?_⟩
 obtain⟨i,rfl,k⟩:=h
 refine⟨_,(av (aT (dk (bj (jg (K:=K) rfl) T.n_isinstance PyProof.Rows.boot_isinstance (ae (ab 0) (ae (iZ rfl T.n_int PyProof.Rows.boot_int) ag))) (dk (dj j9 (ab 0) fT (bf _)) (cQ (dj j9 (ab 0) fT (bf _))))))),?_⟩
 obtain⟨ty,hty,e0⟩:=(cY.int (K:=K) (H:=H) i).isInt
 refine⟨ty,_,hty,e0,?_⟩
 refine dU ?_
 refine⟨(λf z=>nomatch z),?_⟩
 refine dU ?_
 exact⟨(λf z=>nomatch z),k⟩
structure fz (rs:List (List Int)):Prop where
 sg : ∀ r∈rs,1<=r.length/\r.length<=6/\∀ b∈r,0<=b/\b<=255
 pw:rs.Pairwise λa b=>bp a b=false/\bp b a=false
 tot:(rs.map λr=>r.length).sum<=60
 by4 : ∀ r∈rs,∀ b∈r,b∈([0,1,7,255]:List Int)
abbrev AL:=Addr × List Int
theorem wa(ps:List AL):(ps.map λx=>(x.2.length:Int)).sum=(((ps.map λx=>x.2).map λr=>r.length).sum:Nat):=by
 induction ps with
 | nil=>rfl
 | cons p ps ih =>
  simp only [List.map_cons,List.sum_cons]at *
  rw[ih]
  omega
def wm(K:PySem.W.Frag):Sp:=λvs H Q _=>∃ (a:Addr) (cs:List Int),vs=[.ref a]/\az K H a (cs.map V.int)/\cs.length<=12/\∀ (p:Addr) (ps:List AL) H',af H H'->H' p=some (.lst (ps.map λx=>V.ref x.1))->(∀ x∈ps,H' x.1=some (.lst (x.2.map V.int)))->fz (ps.map λx=>x.2)->ps.length<=12->Q (.ref p) H'
theorem AU (T:Txt K mg t):bi P w K mg base "_law_rows" 1 t.oB t.mZ ["_law_cells"] (wm K):=by
 refine⟨T.Bu,T.uK.kp,T.Dq,T.uK.okQ fK (λvs H Q E h=>by obtain⟨a,cs,rfl,_⟩:=h; rfl) λcdv A outer s H vs Q E hr h=>?_⟩
 obtain⟨a,cs,rfl,ha,lc,k⟩:=h
 have hu:=hr.units
 refine⟨_,(aw (aS (i:=1) fK.nd rfl (.inl rfl) (cR ag))
  (aw (bB PassesOwn.never rfl (dD (K:=K) rfl (ab 0)) (aE (i:=2) fK.nd rfl (.inl rfl)) (aw (aS (i:=3) fK.nd rfl (.inl rfl) (qU (ab 2)))
  (aw (aS (i:=4) fK.nd rfl (.inr rfl) (cR ag))
  (aw (bB PassesOwn.never rfl (fR rfl T.n_range (ae (be (bh (K:=K) rfl) (cR (ae aB (ae aB (ae aB (ae aB (ae aB (ae (di (dI (K:=K) rfl) aB (jP (ab 3))) ag))))))) (jP (ab 2)) (λ_ _=>rfl)) ag)) (aE (i:=5) fK.nd rfl (.inl rfl)) (aw (eC (ib (K:=K) rfl PySem.F.plainAttrs_list PySem.F.slot_list_append PySem.F.type_list_append ip (ab 4) (ae (be (bh (K:=K) rfl) (cR (lW rfl)) (jP (ab 3)) (λ_ _=>rfl)) ag)))
  (av (aS (i:=3) fK.nd rfl (.inl rfl) (qU (ab 3))))))
  (av (ca (bJ dt (di (dI (K:=K) rfl) (bj (C2 (K:=K) rfl rfl) T.n_sum PyProof.Rows.boot_sum (ae (fS rfl (cg.of (fns:=(ao fb).names) (N:=["_law_cells", "_law_found", "_law_cell", "_law_number", "_law_row", "_law_k"]) (Nc:=["_law_one"]) (nv:=1) (caps:=[]) rfl rfl (by decide +kernel)) (dD (K:=K) rfl (ab 1)) (λ_ _ _ _=>(aE (i:=0) (show List.Nodup (["_law_one"]:List Str) by decide +kernel) rfl (Or.inl rfl) (Or.inr rfl))) (λ_ _ _ _=>fP) (λ_ _ _ _=>(bj (cz (K:=K) rfl) T.n_len PySem.boot_len (ae (ab 0) ag)))) ag)) (bj (cz (K:=K) rfl) T.n_len PySem.boot_len (ae (ab 4) ag))) aB (bf _)) (av (ca (ic (bj (ug (K:=K) rfl rfl) T.n_all PyProof.Rows.boot_all (ae (fS rfl (cg.of (fns:=(ao fb).names) (N:=["_law_cells", "_law_found", "_law_cell", "_law_number", "_law_row", "_law_k"]) (Nc:=["_law_one", "_law_row"]) (nv:=1) (caps:=[4]) rfl rfl (by decide +kernel)) (dD (K:=K) rfl (ab 1)) (λ_ _ _ _=>(aE (i:=0) (show List.Nodup (["_law_one", "_law_row"]:List Str) by decide +kernel) rfl (Or.inl rfl) (Or.inr rfl))) (λ_ _ _ _=>fP) (λ_ _ _ _=>(dk (dj (gb (K:=K) rfl hu) (cP (dH (K:=K) rfl) (ab 1) dC (cD (bj (cz (K:=K) rfl) T.n_len PySem.boot_len (ae (ab 0) ag)))) (ab 0) (bf _)) (cQ (dj (gb (K:=K) rfl hu) (cP (dH (K:=K) rfl) (ab 0) dC (cD (bj (cz (K:=K) rfl) T.n_len PySem.boot_len (ae (ab 1) ag)))) (ab 1) (bf _)))))) ag))) (av (eC (ib (K:=K) rfl PySem.F.plainAttrs_list PySem.F.slot_list_append PySem.F.type_list_append ip (ab 1) (ae (ab 4) ag)))) bZ)) bZ))))))
  (av (aT (ab 1))))),?_⟩
 refine⟨sz rfl,λp H1 g1=>?_⟩
 refine⟨a,rfl,⟨_,g1.sm.seq ha⟩,fk (K:=K) (a:=a) (xs:=cs.map V.int) (λi σ H'=>af H H'/\(∃ ps:List AL,H' p=some (.lst (ps.map λx=>V.ref x.1))/\(∀ x∈ps,x.1≠p/\H' x.1=some (.lst (x.2.map V.int)))/\fz (ps.map λx=>x.2)/\ps.length<=i)/\∃ v2 v3 v4 v5,σ=[some (.ref a),some (.ref p),v2,v3,v4,v5]) ⟨g1.sm,⟨[],g1.at_,(λx h=>nomatch h),⟨(λr h=>nomatch h),.nil,Nat.zero_le _,λr h=>nomatch h⟩,Nat.zero_le _⟩,_,_,_,_,rfl⟩ (λi σ H' _ z=>z.1.seq ha) ?_ ?_⟩
 ·rintro i x σ H2 hx ⟨s2,⟨ps,p2,hp2,rw2,l2⟩,v2,v3,v4,v5,rfl⟩
  obtain⟨c,hc,rfl⟩:=mF hx
  have hi:i < cs.length:=(List.getElem?_eq_some_iff.mp hc).1
  refine⟨sz rfl,λr H3 g3=>?_⟩
  refine⟨sz rfl,λl H4 g4=>?_⟩
  obtain⟨m,hm,m1,m6⟩ : ∃ m:Nat,eO [V.int 1,.int 2,.int 3,.int 2,.int 3,.int (4+c / 6%3)] (c%6)=some (.int (m:Int))/\1<=m/\m<=6:=by
   have h0:=Int.emod_nonneg c (b:=6) (by decide)
   have h6:=Int.emod_lt_of_pos c (b:=6) (by decide)
   obtain⟨j,hj⟩ : ∃ j:Nat,c%6=(j:Int):=⟨(c%6).toNat,by omega⟩
   have:j < 6:=by omega
   rw[hj]
   match j,this with
   | 0,_=>exact⟨1,rfl,by decide,by decide⟩
   | 1,_=>exact⟨2,rfl,by decide,by decide⟩
   | 2,_=>exact⟨3,rfl,by decide,by decide⟩
   | 3,_=>exact⟨2,rfl,by decide,by decide⟩
   | 4,_=>exact⟨3,rfl,by decide,by decide⟩
   | 5,_=>exact⟨(4+c / 6%3).toNat,by rw[bW (j:=5) rfl]; congr 2; omega,by omega,by omega⟩
  refine⟨_,.int (m:Int),.inl g4.lst,hm,?_⟩
  refine⟨(m:Int),rfl,by omega,by omega,?_⟩
  rw[Int.toNat_natCast]
  have r2:H2 r=none:=g3.nw
  have r4:H4 r=some (.lst []):=g4.sm _ _ g3.at_
  refine iA (lo:=0) (n:=m) (λj σ H'=>af H2 H'/\(∃ xs:List Int,H' r=some (.lst (xs.map V.int))/\xs.length=j/\∀ b∈xs,b∈([0,1,7,255]:List Int))/\∃ (n:Int) (v5:Option V),σ=[some (.ref a),some (.ref p),some (.int c),some (.int n),some (.ref r),v5]) ⟨g3.sm.trans g4.sm,⟨[],r4,rfl,λb h=>nomatch h⟩,_,_,rfl⟩ ?_ ?_
  ·rintro j σ H5 hj ⟨s5,⟨xs,r5,lx,bx⟩,n,v5,rfl⟩
   refine⟨.inl ⟨rfl,_,.of r5⟩,?_⟩
   refine⟨sz rfl,λl6 H6 g6=>?_⟩
   obtain⟨b,hb,b4⟩ : ∃ b:Int,eO [V.int 0,.int 7,.int 255,.int 0,.int 7,.int 255,.int 1] (n%7)=some (.int b)/\b∈([0,1,7,255]:List Int):=by
    have h0:=Int.emod_nonneg n (b:=7) (by decide)
    have h6:=Int.emod_lt_of_pos n (b:=7) (by decide)
    obtain⟨j,hj⟩ : ∃ j:Nat,n%7=(j:Int):=⟨(n%7).toNat,by omega⟩
    have:j < 7:=by omega
    rw[hj]
    match j,this with
    | 0,_=>exact⟨0,rfl,by decide⟩
    | 1,_=>exact⟨7,rfl,by decide⟩
    | 2,_=>exact⟨255,rfl,by decide⟩
    | 3,_=>exact⟨0,rfl,by decide⟩
    | 4,_=>exact⟨7,rfl,by decide⟩
    | 5,_=>exact⟨255,rfl,by decide⟩
    | 6,_=>exact⟨1,rfl,by decide⟩
   refine⟨_,.int b,.inl g6.lst,hb,?_⟩
   refine⟨_,g6.sm _ _ r5,dP (by rw[List.length_map]; omega),?_⟩
   refine⟨(s5.trans g6.sm).put r2,⟨xs++[b],by rw[aN,List.map_append]; rfl,by rw[List.length_append,lx]; rfl,λx hx=>?_⟩,_,_,rfl⟩
   rcases List.mem_append.mp hx with h | h
   ·exact bx x h
   ·rw[List.mem_singleton.mp h]; exact b4
  rintro σ H5 ⟨s5,⟨xs,r5,lx,bx⟩,n,v5,rfl⟩
  have p5:=s5 _ _ p2
  have hp5 : ∀ x∈ps,H5 x.1=some (.lst (x.2.map V.int)):=λx hx=>s5 _ _ (hp2 x hx).2
  have stay : ∀ H',af H5 H'->((af H H'/\(∃ ps:List AL,H' p=some (.lst (ps.map λx=>V.ref x.1))/\(∀ x∈ps,x.1≠p/\H' x.1=some (.lst (x.2.map V.int)))/\fz (ps.map λx=>x.2)/\ps.length<=i+1))):=λH' s'=>⟨s2.trans (s5.trans s'),ps,s' _ _ p5,λx hx=>⟨(hp2 x hx).1,s' _ _ (hp5 x hx)⟩,rw2,by omega⟩
  have lps:ps.length<=12:=by omega
  have atp : ∀ {j:Nat} {x:V},(ps.map λx=>V.ref x.1)[j]? = some x->∃ q∈ps,ps[j]? = some q/\x=.ref q.1:=λ{j x} h=>by
   rw[List.getElem?_map]at h
   obtain⟨q,hq,e⟩:=Option.map_eq_some_iff.mp h
   exact⟨q,List.mem_of_getElem? hq,hq,e.symm⟩
  refine⟨p,rfl,⟨_,.of p5⟩,nZ ((ps.map λx=>(x.2.length:Int)).map V.int) (by simp) (.of p5) (dg (by rw[List.length_map]; omega)) (λj x y H6 N hx hy s6 hN=>?_) λp6 H6 g6=>?_⟩
  ·obtain⟨q,hq,hqj,rfl⟩:=atp hx
   rw[List.getElem?_map,List.getElem?_map,hqj]at hy
   cases hy
   refine⟨_,.inl (.of (s6 _ _ (hp5 q hq))),?_⟩
   rw[List.length_map]
   exact hN _ (af.refl _)
  refine⟨_,g6.lst,?_⟩
  refine⟨_,.inl (.of (g6.sm _ _ r5)),?_⟩
  refine aG (λe60=>?_) (λ_=>?_)
  ·have e60:=of_decide_eq_true e60
   rw[wa,List.length_map]at e60
   refine⟨p,rfl,⟨_,.of (g6.sm _ _ p5)⟩,nZ ((ps.map λx=>(!bp x.2 xs && !bp xs x.2)).map V.bl) (by simp) (.of (g6.sm _ _ p5)) (dg (by rw[List.length_map]; omega)) (λj x y H7 N hx hy s7 hN=>?_) λp7 H7 g7=>?_⟩
   ·obtain⟨q,hq,hqj,rfl⟩:=atp hx
    rw[List.getElem?_map,List.getElem?_map,hqj]at hy
    cases hy
    have q7:=s7 _ _ (g6.sm _ _ (hp5 q hq))
    have r7:=s7 _ _ (g6.sm _ _ r5)
    refine⟨_,.inl (.of q7),_,rfl,_,.of r7,λp8 H8 g8=>?_⟩
    rw[List.length_map,ft]at g8
    have q8:=g8.sm _ _ q7
    have r8:=g8.sm _ _ r7
    refine fh (by rfl) (jc g8.lst (.of q8) ?_)
    have hN : ∀ H'',af H7 H''->N (.bl (!bp q.2 xs && !bp xs q.2)) H'':=hN
    refine aG (λe=>?_) (λe=>?_)
    ·refine⟨_,.inl (.of r8),_,rfl,_,.of q8,λp9 H9 g9=>?_⟩
     rw[List.length_map,ft]at g9
     refine fh (by rfl) (jc g9.lst (.of (g9.sm _ _ r8)) ?_)
     have:=hN H9 (g8.sm.trans g9.sm)
     have e:(!bp q.2 xs)=true:=e
     rw[e,Bool.true_and]at this
     exact this
    ·have:=hN H8 g8.sm
     have e:(!bp q.2 xs)=false:=Bool.eq_false_iff.mpr e
     rw[e,Bool.false_and]at this
     exact this
   ·refine⟨_,g7.lst,?_⟩
    refine aG (λe=>?_) (λ_=>?_)
    ·have e:(ps.map λx=>(!bp x.2 xs && !bp xs x.2)).all id=true:=e
     have s57:=g6.sm.trans g7.sm
     have p7:=s57 _ _ p5
     have np:r≠p:=λz=>by rw[z,p2]at r2; cases r2
     refine⟨.inl ⟨rfl,_,.of p7⟩,?_⟩
     refine⟨_,p7,dP (by rw[List.length_map]; omega),?_⟩
     refine⟨((s2.trans s5).trans s57).put g1.nw,⟨ps++[(r,xs)],by rw[aN,List.map_append]; rfl,λx hx=>?_,⟨λy hy=>?_,?_,?_,λy hy=>?_⟩,by rw[List.length_append]; exact Nat.succ_le_succ l2⟩,_,_,_,_,rfl⟩
     ·rcases List.mem_append.mp hx with h | h
      ·exact⟨(hp2 x h).1,by rw[aj (hp2 x h).1]; exact s57 _ _ (hp5 x h)⟩
      ·rw[List.mem_singleton.mp h]
       exact⟨np,by rw[aj np]; exact s57 _ _ r5⟩
     ·rw[List.map_append]at hy
      rcases List.mem_append.mp hy with h | h
      ·exact rw2.sg y h
      ·rw[List.mem_singleton.mp h]
       exact⟨by show 1<=xs.length; omega,by show xs.length<=6; omega,λb hb=>by have:=bx b hb; simp at this; omega⟩
     ·rw[List.map_append]
      refine List.pairwise_append.mpr ⟨rw2.pw,List.pairwise_singleton ..,λy hy z hz=>?_⟩
      rw[List.mem_singleton.mp hz]
      obtain⟨x,hx,rfl⟩:=List.mem_map.mp hy
      have:=List.all_eq_true.mp e _ (List.mem_map.mpr ⟨x,hx,rfl⟩)
      simpa using this
     ·rw[List.map_append,List.map_append,List.sum_append]
      simp only [List.map_cons,List.map_nil,List.sum_cons,List.sum_nil]
      omega
     ·rw[List.map_append]at hy
      rcases List.mem_append.mp hy with h | h
      ·exact rw2.by4 y h
      ·rw[List.mem_singleton.mp h]; exact bx
    ·have st:=stay _ (g6.sm.trans g7.sm)
     exact⟨st.1,st.2,_,_,_,_,rfl⟩
  ·exact⟨(stay _ g6.sm).1,(stay _ g6.sm).2,_,_,_,_,rfl⟩
 ·rintro σ H2 ⟨s2,⟨ps,p2,hp2,rw2,l2⟩,v2,v3,v4,v5,rfl⟩
  exact k p ps H2 s2 p2 (λx hx=>(hp2 x hx).2) rw2 (by rw[List.length_map]at l2; omega)
def js(rows:List (List Int))(b:List Int):Prop:=∃ r∈rows,∃ k,k < r.length/\b=r.take k
theorem jh{rows:List (List Int)}{b:List Int}:js rows b ↔ bM (ap rows) b:=by
 constructor
 ·rintro⟨r,hr,k,hk,rfl⟩
  refine⟨r[k],eE.mpr ⟨(λz=>by have:=congrArg List.length z; rw[List.length_append]at this; cases this),r,hr,?_⟩⟩
  rw[List.take_append_getElem hk]
  exact List.take_prefix _ _
 ·rintro⟨x,hx⟩
  obtain⟨_,r,hr,hp⟩:=eE.mp hx
  have hl:=hp.length_le
  rw[List.length_append]at hl
  simp only [List.length_cons,List.length_nil]at hl
  refine⟨r,hr,b.length,by omega,?_⟩
  exact List.prefix_iff_eq_take.mp ((List.prefix_append b [x]).trans hp)
def Pf(rows:List (List Int)):Prop:=∀ x∈rows,∀ y∈rows,x <+: y->x=y
theorem pP{te:TE}{σ:St}{H:Hp}{Q:Bool->Hp->Prop}(h:te σ H λx H1=>match x with | .bl c=>Q c H1 | _=>False):mB te σ H Q:=h
theorem pO{g:R2}{l r:TE}{σ:St}{H:Hp}{Q:VK}(h:l σ H λx H1=>r σ H1 λy H2=>g x y H2 Q):de g l r σ H Q:=h
theorem my{α:Type}{f:α->PyData}{n:Nat}(h : ∀ x,(f x).canLay0=true/\(f x).depth<=n) : ∀ l:List α,PyData.canLayAll0 (l.map f)=true/\PyData.depthAll (l.map f)<=n
 | []=>⟨rfl,Nat.zero_le _⟩
 | x :: l=>by
  obtain⟨a,b⟩:=my h l
  obtain⟨c,d⟩:=h x
  refine⟨?_,?_⟩
  ·rw[List.map_cons,PyData.canLayAll0,a,c]; rfl
  ·rw[List.map_cons,PyData.depthAll]; omega
theorem Ao{α:Type}{f:α->PyData}{n:Nat}(h : ∀ x,(f x).canLay0=true/\(f x).depth<=n)(l:List α):(PyData.list (l.map f)).canLay0=true/\(PyData.list (l.map f)).depth<=n+1:=by
 obtain⟨a,b⟩:=my h l
 exact⟨by simpa [PyData.canLay0] using a,by simp[PyData.depth]; omega⟩
theorem wK{d:PyData}{n:Nat}(h:d.canLay0=true/\d.depth<=n)(hn:n<=64):SeqAt.shaped d=true:=by
 unfold SeqAt.shaped
 rw[h.1,decide_eq_true (by omega:d.depth<=64)]
 rfl
theorem rh(rs:List (List Int)):(ap rs).length=(rs.map λr=>r.length).sum:=by
 induction rs with
 | nil=>rfl
 | cons r rs ih =>
  show (bz r r.length++ap rs).length=_
  rw[List.length_append,ih]
  have:(bz r r.length).length=r.length:=by unfold bz; rw[List.length_map,List.length_range]
  rw[this]
  rfl
def eY(n:Int)(d:Int)(rs:List (List Int)):List (Int × List Int):=rs.mapIdx λk r=>(n+d*(k:Int),r)
theorem kY{n d:Int}{rs:List (List Int)}{i:Nat}{r:List Int}(h:rs[i]? = some r):(eY n d rs)[i]? = some (n+d*(i:Int),r):=by
 unfold eY
 rw[List.getElem?_mapIdx,h]
 rfl
theorem jw(n d:Int)(rs:List (List Int)):(eY n d rs).length=rs.length:=by unfold eY; rw[List.length_mapIdx]
theorem vO(n d:Int)(rs:List (List Int)):((eY n d rs).map λe=>e.2)=rs:=by
 refine List.ext_getElem? λi=>?_
 rw[List.getElem?_map]
 cases c:rs[i]? with
 | none =>
  have:=List.getElem?_eq_none_iff.mp c
  rw[List.getElem?_eq_none_iff.mpr (by rw[jw]; exact this)]
  rfl
 | some r=>rw[kY c]; rfl
theorem vP{n d:Int}{rs:List (List Int)}(h:fz rs)(l:rs.length<=12)(d1:d=1\/d = -1)(n0:20<=n)(n1:n<=2000):Es (eY n d rs):=by
 have at_ : ∀ {i:Nat} {e:Int × List Int},(eY n d rs)[i]? = some e->∃ r,rs[i]? = some r/\e=(n+d*(i:Int),r)/\i < 12:=λ{i e} he=>by
  have il:=(List.getElem?_eq_some_iff.mp he).1
  rw[jw]at il
  have hr:rs[i]? = some rs[i]:=List.getElem?_eq_getElem il
  rw[kY hr]at he
  exact⟨_,hr,(Option.some.inj he).symm,by omega⟩
 refine⟨λe he=>?_,?_,by rw[jw]; omega⟩
 ·obtain⟨i,hi⟩:=List.getElem?_of_mem he
  obtain⟨r,hr,rfl,il⟩:=at_ hi
  obtain⟨a,b,c⟩:=h.sg r (List.mem_of_getElem? hr)
  refine⟨?_,a,b,c⟩
  unfold Sg
  dsimp only
  rcases d1 with rfl | rfl <;> omega
 ·refine List.pairwise_iff_getElem.mpr λi j hi hj hij=>?_
  obtain⟨r,hr,e1,il⟩:=at_ (List.getElem?_eq_getElem hi)
  obtain⟨r',hr',e2,jl⟩:=at_ (List.getElem?_eq_getElem hj)
  rw[e1,e2]
  have i2:=(List.getElem?_eq_some_iff.mp hr)
  have j2:=(List.getElem?_eq_some_iff.mp hr')
  have n2:=List.pairwise_iff_getElem.mp h.pw i j i2.1 j2.1 hij
  rw[i2.2,j2.2]at n2
  unfold cV
  dsimp only
  rw[n2.1,n2.2,decide_eq_false (by rcases d1 with rfl | rfl <;> omega)]
  rfl
def wo(K:PySem.W.Frag):Sp:=λvs H Q _=>∃ (a:Addr) (ns:List Int) (k:Nat),vs=[.ref a,.int (k:Int)]/\az K H a (ns.map V.int)/\ns.length<=1000/\∀ H',af H H'->Q (.int (ns.getD k 0)) H'
theorem AW (T:Txt K mg t):bi P w K mg base "_law_pick" 1 t.oF t.m5 ["_law_script", "_law_k"] (wo K):=by
 refine⟨T.Bw,T.uM.kp,T.Ds,T.uM.okQ wR (λvs H Q E h=>by obtain⟨a,ns,i,rfl,_⟩:=h; rfl) λcdv A outer s H vs Q E hr h=>?_⟩
 obtain⟨a,ns,i,rfl,h1,hl,k⟩:=h
 refine⟨_,(av (aT (be (bh (K:=K) rfl) (di (dI (K:=K) rfl) (cP (dH (K:=K) rfl) (ab 0) (cD (ab 1)) (cD (di (dI (K:=K) rfl) (ab 1) aB))) (cR (ae aB ag))) aB (λ_ _=>rfl)))),?_⟩
 refine⟨_,rfl,_,rfl,_,h1,λp1 H1 g1=>?_⟩
 have e:cy (ns.map V.int) (some (i:Int)) (some ((i:Int)+1))=((ns.drop i).take 1).map V.int:=by rw[kB]; exact congrArg _ (ua ns i 1)
 rw[e]at g1
 refine⟨sz rfl,λp2 H2 g2=>?_⟩
 refine⟨_,_,g2.sm.seq g1.lst,g2.lst,?_,λp3 H3 g3=>?_⟩
 ·rw[List.length_map,List.length_take]
  exact Nat.le_trans (Nat.add_le_add_right (Nat.min_le_left _ _) 1) (by decide)
 have e3:((ns.drop i).take 1).map V.int++[V.int 0]=(((ns.drop i).take 1)++[0]).map V.int:=by simp
 rw[e3]at g3
 have hv:(((ns.drop i).take 1)++[0])[0]? = some (ns.getD i 0):=by
  have e0:ns[i]? = (ns.drop i)[0]?:=by rw[List.getElem?_drop]; rfl
  rw[List.getD_eq_getElem?_getD,e0]
  cases ns.drop i with
  | nil=>rfl
  | cons x r=>rfl
 refine⟨_,.int (ns.getD i 0),.inl g3.lst,bW (j:=0) (by rw[List.getElem?_map,hv]; rfl),?_⟩
 exact k _ ((g1.sm.trans g2.sm).trans g3.sm)
theorem fz.pf{rs:List (List Int)}(h:fz rs):Pf rs:=by
 intro x hx y hy hp
 have b1:bp x y=true:=decide_eq_true (List.prefix_iff_eq_take.mp hp).symm
 obtain⟨i,hi,rfl⟩:=List.mem_iff_getElem.mp hx
 obtain⟨j,hj,rfl⟩:=List.mem_iff_getElem.mp hy
 rcases Nat.lt_trichotomy i j with c | c | c
 ·have:=(List.pairwise_iff_getElem.mp h.pw i j hi hj c).1
  rw[b1]at this; cases this
 ·subst c; rfl
 ·have:=(List.pairwise_iff_getElem.mp h.pw j i hj hi c).2
  rw[b1]at this; cases this
def d7(H:Hp)(a:Addr)(us:List AL):Prop:=H a=some (.lst (us.map λu=>V.ref u.1))/\∀ u∈us,H u.1=some (.lst (u.2.map V.int))
theorem d7.mono{H H':Hp}{a:Addr}{us:List AL}(h:d7 H a us)(s:af H H'):d7 H' a us:=⟨s _ _ h.1,λu hu=>s _ _ (h.2 u hu)⟩
theorem Ak{H H':Hp}{a:Addr}{us:List AL}(h:d7 H a us)(s:iE H H'):d7 H' a us:=⟨s _ _ h.1 (by intro ps z; cases z),λu hu=>s _ _ (h.2 u hu) (by intro ps z; cases z)⟩
theorem oy{ps:List AL}{j:Nat}{x:V}(h:(ps.map λx=>V.ref x.1)[j]? = some x) : ∃ q∈ps,ps[j]? = some q/\x=.ref q.1:=by
 rw[List.getElem?_map]at h
 obtain⟨q,hq,e⟩:=Option.map_eq_some_iff.mp h
 exact⟨q,List.mem_of_getElem? hq,hq,e.symm⟩
def io(rows:List (List Int))(b:List Int)(x:Int):Option (List Int):=if b++[x]∈ap rows then some (bt rows (b++[x])) else none
def wp(K:PySem.W.Frag):Sp:=λvs H Q _=>∃ (a b:Addr) (ps:List AL) (rows:List (List Int)) (bs:List Int) (x:Int),vs=[.ref a,.ref b,.int x]/\d7 H a ps/\(ps.map λp=>p.2)=rows/\Pf rows/\ps.length<=100/\H b=some (.tup (bs.map V.int))/\bs.length<=1000 /\
 (io rows bs x=none->∀ H',af H H'->Q .non H')/\∀ q u H',io rows bs x=some u->af H H'->H' q=some (.tup (u.map V.int))->Q (.ref q) H'
theorem sX (T:Txt K mg t):bi P w K mg base "_law_next" 1 t.oG t.m7 ["_law_rows_here", "_law_begun", "_law_byte"] (wp K):=by
 refine⟨T.Bx,T.uN.kp,T.Dt,T.uN.okQ lC (λvs H Q E h=>by obtain⟨a,b,ps,rows,bs,x,rfl,_⟩:=h; rfl) λcdv A outer s H vs Q E hr h=>?_⟩
 obtain⟨a,b,ps,rows,bs,x,rfl,ls,er,pf,lp,hb,lb,k0,k1⟩:=h
 have hu:=hr.units
 refine⟨_,(aw (aS (i:=3) lC.nd rfl (.inl rfl) (di (BV (K:=K) rfl) (ab 1) (cv (ae (ab 2) ag))))
  (aw (bB PassesOwn.never rfl (dD (K:=K) rfl (ab 0)) (aE (i:=4) lC.nd rfl (.inl rfl)) (aw (ca (bJ (du (K:=K) rfl hu) (ab 4) (dE (jf (K:=K) rfl) T.n_list PyProof.Rows.boot_list (ae (ab 3) ag)) (bf _)) (av (aT (cv ag))) bZ)
  (av (ca (bJ (du (K:=K) rfl hu) (cP (dH (K:=K) rfl) (ab 4) dC (cD (bj (cz (K:=K) rfl) T.n_len PySem.boot_len (ae (ab 3) ag)))) (dE (jf (K:=K) rfl) T.n_list PyProof.Rows.boot_list (ae (ab 3) ag)) (bf _)) (av (aT (ab 3))) bZ))))
  (av (aT jO)))),?_⟩
 refine⟨sz rfl,λp1 H1 g1=>?_⟩
 refine⟨b,p1,_,_,rfl,rfl,g1.sm _ _ hb,g1.at_,dg (by rw[List.length_map]; simp; omega),λbg H2 s2 hbg=>?_⟩
 have e2:bs.map V.int++[V.int x]=(bs++[x]).map V.int:=by simp
 rw[e2]at hbg
 have s02:=g1.sm.trans s2
 obtain⟨bx,ebx⟩ : ∃ bx,bx=bs++[x]:=⟨_,rfl⟩
 have nb:bx≠[]:=by rw[ebx]; simp
 have nxe:io rows bs x=if bx∈ap rows then some (bt rows bx) else none:=by rw[ebx]; rfl
 rw[<- ebx]at hbg
 have ls2:=ls.mono s02
 refine cC ?_
 refine⟨a,rfl,⟨_,.of ls2.1⟩,fk (K:=K) (a:=a) (xs:=ps.map λq=>V.ref q.1) (λj σ H'=>af H2 H'/\(∀ r∈rows.take j,¬ bx <+: r)/\∃ v4,σ=[some (.ref a),some (.ref b),some (.int x),some (.ref bg),v4]) ⟨af.refl _,(λr h=>nomatch h),_,rfl⟩ (λj σ H' _ z=>.of (z.1 _ _ ls2.1)) ?_ ?_⟩
 ·rintro j y σ H3 hy ⟨s3,no,v4,rfl⟩
  obtain⟨q,qm,hq,rfl⟩:=oy hy
  have q3:=s3 _ _ (ls2.2 q qm)
  have hrj:rows[j]? = some q.2:=by rw[<- er,List.getElem?_map,hq]; rfl
  have rm:=List.mem_of_getElem? hrj
  have b3:=s3 _ _ hbg
  refine cC ?_
  refine⟨_,.inr (.of b3),λl4 H4 g4=>?_⟩
  have q4:=g4.sm _ _ q3
  have b4:=g4.sm _ _ b3
  have s04:=s02.trans (s3.trans g4.sm)
  refine jc (.of q4) g4.lst ?_
  refine aG (λz=>?_) (λz=>?_)
  ·have z:q.2=bx:=of_decide_eq_true z
   refine⟨sz rfl,λp5 H5 g5=>?_⟩
   have mp:bx∈ap rows:=eE.mpr ⟨nb,q.2,rm,by rw[z]; exact List.prefix_rfl⟩
   refine k1 p5 [] H5 ?_ (s04.trans g5.sm) g5.at_
   rw[nxe,if_pos mp]
   unfold bt
   rw[if_pos (by rw[<- z]; exact rm)]
  ·have z : ¬ q.2=bx:=λh=>z (decide_eq_true h)
   refine⟨_,.inr (.of b4),_,rfl,_,.of q4,λp5 H5 g5=>?_⟩
   rw[List.length_map,ft]at g5
   refine⟨_,.inr (.of (g5.sm _ _ b4)),λp6 H6 g6=>?_⟩
   refine jc (g6.sm.seq g5.lst) g6.lst ?_
   refine aG (λy=>?_) (λy=>?_)
   ·have y:q.2.take bx.length=bx:=of_decide_eq_true y
    have pre:bx <+: q.2:=List.prefix_iff_eq_take.mpr y.symm
    have mp:bx∈ap rows:=eE.mpr ⟨nb,q.2,rm,pre⟩
    refine k1 bg bx H6 ?_ (s04.trans (g5.sm.trans g6.sm)) (g6.sm _ _ (g5.sm _ _ b4))
    rw[nxe,if_pos mp]
    unfold bt
    rw[if_neg λh=>z (pf _ h _ rm pre).symm]
   ·have y : ¬ q.2.take bx.length=bx:=λh=>y (decide_eq_true h)
    refine⟨s3.trans (g4.sm.trans (g5.sm.trans g6.sm)),λr hr=>?_,_,rfl⟩
    rcases (cw hrj).mp hr with h | h
    ·exact no r h
    ·rw[h]; exact λz=>y (List.prefix_iff_eq_take.mp z).symm
 ·rintro σ H3 ⟨s3,no,v4,rfl⟩
  have no : ∀ r∈rows.take (ps.map λq=>V.ref q.1).length,¬ bx <+: r:=no
  have lq:ps.length=rows.length:=by have:=congrArg List.length er; rw[List.length_map]at this; exact this
  rw[List.length_map,lq,List.take_length]at no
  refine k0 ?_ H3 (s02.trans s3)
  rw[nxe,if_neg λh=>?_]
  obtain⟨_,r,hr,hp⟩:=eE.mp h
  exact no r hr hp
def D4(H:Hp)(a:Addr)(us:List AL):Prop:=H a=some (.lst (us.map λu=>V.ref u.1))/\∀ u∈us,H u.1=some (.tup (u.2.map V.int))
structure uw (H:Hp) (d:Addr) (S:List Int->Prop) (n:Nat) (kvs:List (ay × Addr × V)):Prop where
 dq:DQ H d kvs
 mem : ∀ b,b∈(kvs.map λe=>e.1) ↔ S b
 fst : ∀ e,kvs[0]? = some e->e.1=[]
 len:kvs.length<=n
theorem x4(kvs:List (ay × Addr × V))(k:ay)(b:Addr)(v:V)(x:ay):x∈((ci kvs k b v).map λe=>e.1) ↔ x∈(kvs.map λe=>e.1)\/x=k:=by
 by_cases h:k∈kvs.map λe=>e.1
 ·obtain⟨w,hw⟩:=iM h
  obtain⟨e0,he0,e1,_⟩:=eW hw
  have ek:((ci kvs k b v).map λe=>e.1)=kvs.map λe=>e.1:=by
   unfold ci
   split
   ·rw[List.map_map]
    refine List.map_congr_left λy hy=>?_
    show (if y.1=k then _ else y).1=y.1
    split <;> rfl
   ·rename_i c
    rw[hw]at c
    exact absurd rfl c
  rw[ek]
  exact⟨.inl,λz=>z.elim id λe=>e ▸ h⟩
 ·rw[qX (vk h),List.map_append,List.mem_append]
  simp
theorem x5{kvs:List (ay × Addr × V)}{k:ay}{b:Addr}{v:V}(h : ∀ e,kvs[0]? = some e->e.1=[])(h0:kvs=[]->k=[]) : ∀ e,(ci kvs k b v)[0]? = some e->e.1=[]:=by
 intro e he
 unfold ci at he
 split at he
 ·rw[List.getElem?_map]at he
  obtain⟨y,hy,rfl⟩:=Option.map_eq_some_iff.mp he
  have:=h y hy
  show (if y.1=k then _ else y).1=[]
  split
  ·exact this
  ·exact this
 ·cases kvs with
  | nil=>simp at he; rw[<- he]; exact h0 rfl
  | cons y ys=>exact h e (by simpa using he)
def wj(K:PySem.W.Frag):Sp:=λvs H Q _=>∃ (a:Addr) (ps:List AL) (rows:List (List Int)),vs=[.ref a]/\d7 H a ps/\(ps.map λp=>p.2)=rows/\fz rows/\ps.length<=12 /\
 ∀ p (us:List AL) H',af H H'->D4 H' p us->(us.map λu=>u.2).Nodup->(∀ b,b∈(us.map λu=>u.2) ↔ js rows b)->us.length<=60->Q (.ref p) H'
theorem AT (T:Txt K mg t):bi P w K mg base "_law_spots" 1 t.oz t.mY ["_law_rows_here"] (wj K):=by
 refine⟨T.Bt,T.uJ.kp,T.Dp,T.uJ.okQ jF (λvs H Q E h=>by obtain⟨a,ps,rows,rfl,_⟩:=h; rfl) λcdv A outer s H vs Q E hr h=>?_⟩
 obtain⟨a,ps,rows,rfl,ls,er,rws,lp,k⟩:=h
 have hu:=hr.units
 refine⟨_,(aw (aS (i:=1) jF.nd rfl (.inl rfl) qW)
  (aw (bB PassesOwn.never rfl (dD (K:=K) rfl (ab 0)) (aE (i:=2) jF.nd rfl (.inl rfl)) (av (bB PassesOwn.never rfl (fR rfl T.n_range (ae (bj (cz (K:=K) rfl) T.n_len PySem.boot_len (ae (ab 2) ag)) ag)) (aE (i:=3) jF.nd rfl (.inl rfl)) (av (xV hu (ab 1) (dE (kJ (K:=K) rfl) T.n_tuple PyProof.Rows.boot_tuple (ae (cP (dH (K:=K) rfl) (ab 2) dC (cD (ab 3))) ag)) fT)))))
  (av (aT (bj (C4 (K:=K) rfl hu) T.n_sorted PyProof.Rows.boot_sorted (ae (dE (C7 rfl) T.n_list PyProof.Rows.boot_list (ae (ab 1) ag)) ag)))))),?_⟩
 intro d H1 g1
 have hd:=g1.nw
 refine cC ?_
 have lq:ps.length=rows.length:=by have:=congrArg List.length er; rw[List.length_map]at this; exact this
 have tot : ∀ i,(ap (rows.take i)).length<=60:=λi=>by
  have h1:=rws.tot
  have h2:(ap rows).length=(ap (rows.take i)).length+(ap (rows.drop i)).length:=by
   rw[<- List.length_append]
   congr 1
   unfold ap
   rw[<- List.flatMap_append,List.take_append_drop]
  rw[rh]at h2
  omega
 refine⟨a,rfl,⟨_,.of (g1.sm _ _ ls.1)⟩,fk (K:=K) (a:=a) (xs:=ps.map λq=>V.ref q.1) (λj σ H'=>af H H'/\(∃ kvs,uw H' d (js (rows.take j)) (ap (rows.take j)).length kvs)/\∃ v2 v3,σ=[some (.ref a),some (.ref d),v2,v3]) ⟨g1.sm,⟨[],DQ.new g1,λb=>⟨(λh=>nomatch h),λ⟨r,h,_⟩=>nomatch h⟩,(λe h=>nomatch h),Nat.zero_le _⟩,_,_,rfl⟩ (λj σ H' _ z=>.of (z.1 _ _ ls.1)) ?_ ?_⟩
 ·rintro j y σ H2 hy ⟨s2,⟨kvs,sp⟩,v2,v3,rfl⟩
  obtain⟨q,qm,hq,rfl⟩:=oy hy
  have hrj:rows[j]? = some q.2:=by rw[<- er,List.getElem?_map,hq]; rfl
  obtain⟨r1,r6,_⟩:=rws.sg q.2 (List.mem_of_getElem? hrj)
  have q2:=ls.2 q qm
  refine cC ?_
  refine⟨_,.inl (.of (s2 _ _ q2)),?_⟩
  rw[List.length_map]
  refine⟨(q.2.length:Int),rfl,by omega,by omega,?_⟩
  rw[Int.toNat_natCast]
  refine iA (lo:=0) (n:=q.2.length) (λm σ H'=>af H H'/\(∃ kvs,uw H' d (λb=>js (rows.take j) b\/∃ k,k < m/\b=q.2.take k) ((ap (rows.take j)).length+m) kvs)/\∃ v3,σ=[some (.ref a),some (.ref d),some (.ref q.1),v3]) ⟨s2,⟨kvs,⟨sp.dq,λb=>(sp.mem b).trans ⟨.inl,λh=>h.elim id λ⟨k,hk,_⟩=>absurd hk (Nat.not_lt_zero _)⟩,sp.fst,sp.len⟩⟩,_,rfl⟩ ?_ ?_
  ·rintro m σ H3 hm ⟨s3,⟨kvs,sp⟩,v3,rfl⟩
   have q3:=s3 _ _ q2
   have lt:=tot j
   refine cC ?_
   refine⟨_,rfl,_,.of q3,λp4 H4 g4=>?_⟩
   rw[Int.zero_add,ft]at g4
   refine⟨_,.of g4.at_,λp5 H5 g5=>?_⟩
   have s35:=g4.sm.trans g5.sm
   have lk:=sp.len
   refine⟨d,p5,kvs,q.2.take m,rfl,rfl,sp.dq.same s35,g5.at_,dP (by omega),λH6 d6 so=>?_⟩
   refine⟨λc u e=>by rw[so c (λz=>by rw[z,hd]at e; cases e)]; exact s35 _ _ (s3 _ _ e),⟨_,d6,λb=>?_,x5 sp.fst (λe=>?_),Nat.le_trans (lY ..) (by omega)⟩,_,rfl⟩
   ·rw[x4,sp.mem]
    constructor
    ·rintro ((h | ⟨k,hk,e⟩) | e)
     ·exact .inl h
     ·exact .inr ⟨k,Nat.lt_succ_of_lt hk,e⟩
     ·exact .inr ⟨m,Nat.lt_succ_self _,e⟩
    ·rintro (h | ⟨k,hk,e⟩)
     ·exact .inl (.inl h)
     ·by_cases c:k < m
      ·exact .inl (.inr ⟨k,c,e⟩)
      ·obtain rfl:k=m:=by omega
       exact .inr e
   ·cases m with
    | zero=>rfl
    | succ m =>
     have:=(sp.mem (q.2.take 0)).mpr (.inr ⟨0,Nat.succ_pos _,rfl⟩)
     rw[e]at this
     cases this
  ·rintro σ H3 ⟨s3,⟨kvs,sp⟩,v3,rfl⟩
   have et:rows.take (j+1)=rows.take j++[q.2]:=by rw[List.take_add_one,hrj]; rfl
   have lpres:(bz q.2 q.2.length).length=q.2.length:=by unfold bz; rw[List.length_map,List.length_range]
   refine⟨s3,⟨kvs,sp.dq,λb=>(sp.mem b).trans ?_,sp.fst,?_⟩,_,_,rfl⟩
   ·constructor
    ·rintro (⟨r,hr,z⟩ | ⟨k,hk,e⟩)
     ·exact⟨r,(cw hrj).mpr (.inl hr),z⟩
     ·exact⟨_,(cw hrj).mpr (.inr rfl),k,hk,e⟩
    ·rintro⟨r,hr,k,hk,e⟩
     rcases (cw hrj).mp hr with h | h
     ·exact .inl ⟨r,h,k,hk,e⟩
     ·rw[h]at hk e; exact .inr ⟨k,hk,e⟩
   ·rw[et,ri,List.length_append,lpres]
    exact sp.len
 ·rintro σ H2 ⟨s2,⟨kvs,sp⟩,v2,v3,rfl⟩
  rw[List.length_map,lq,List.take_length]at sp
  have tl:=tot rows.length
  rw[List.take_length]at tl
  have lk:=sp.len
  refine⟨d,kvs,rfl,sp.dq,λp3 H3 g3=>?_⟩
  have e3:(kvs.map λx=>V.ref x.2.1)=(kvs.map λx=>((x.2.1,x.1):AL)).map λq=>V.ref q.1:=by rw[List.map_map]; rfl
  have e4:((kvs.map λx=>((x.2.1,x.1):AL)).map λq=>q.2)=kvs.map λx=>x.1:=by rw[List.map_map]; rfl
  rw[e3]at g3
  refine⟨p3,kvs.map λx=>(x.2.1,x.1),rfl,.of g3.at_,λu hu=>?_,λu hu=>?_,by rw[e4]; exact sp.dq.nd,by rw[List.length_map]; omega,λd4 qs H4 g4 pm=>?_⟩
  ·obtain⟨x,hx,rfl⟩:=List.mem_map.mp hu
   exact .of (g3.sm _ _ (sp.dq.key x hx))
  ·rw[List.getElem?_map]at hu
   obtain⟨x,hx,rfl⟩:=Option.map_eq_some_iff.mp hu
   exact sp.fst x hx
  ·have pm2:=pm.map λq:AL=>q.2
   rw[e4]at pm2
   refine k d4 qs H4 (s2.trans (g3.sm.trans g4.sm)) ⟨g4.at_,λu hu=>?_⟩ (pm2.nodup_iff.mpr sp.dq.nd) (λb=>pm2.mem_iff.trans (sp.mem b)) (by rw[pm.length_eq,List.length_map]; omega)
   obtain⟨x,hx,rfl⟩:=List.mem_map.mp (pm.mem_iff.mp hu)
   exact g4.sm _ _ (g3.sm _ _ (sp.dq.key x hx))
end
end My
namespace My
open PySem L2
def sw(k:aa):aa:=(k.2,k.1)
theorem jD(k:aa):sw (sw k)=k:=rfl
abbrev aO(rows:List (List Int)):aa->Int->Option aa:=λk=>bO rows (ap rows) k.1 k.2
theorem ut{rows:List (List Int)}{k g:aa}{x:Int}(h:aO rows k x=some g):aO rows (sw k) x=some (sw g):=by
 unfold aO bO at h ⊢
 split at h
 ·rename_i z
  cases h
  rw[if_pos ⟨z.2.1,z.1,λe=>z.2.2 e.symm⟩]
  rfl
 ·cases h
theorem lZ{rows:List (List Int)} : ∀ {r:List Int} {k g:aa},aK (aO rows) k r=some g->aK (aO rows) (sw k) r=some (sw g)
 | [],k,g,h=>by cases h; rfl
 | x :: r,k,g,h=>by
  have h:(aO rows k x).bind (λg=>aK (aO rows) g r)=some g:=h
  show (aO rows (sw k) x).bind (λg=>aK (aO rows) g r)=some (sw g)
  cases c:aO rows k x with
  | none=>rw[c]at h; cases h
  | some k' =>
   rw[c]at h
   rw[ut c]
   exact lZ h
def ce(rows:List (List Int))(m:Nat)(g:aa):Prop:=∃ k r,aV (ap rows) k/\r.length=m/\aK (aO rows) k r=some g
theorem l7{rows:List (List Int)}{k:aa}(h:aV (ap rows) k):aV (ap rows) (sw k):=⟨h.2.1,h.1,λe=>h.2.2 e.symm⟩
theorem ce.sw{rows:List (List Int)}{m:Nat}{g:aa}(h:ce rows m g):ce rows m (sw g):=by
 obtain⟨k,r,nk,l,hp⟩:=h
 exact⟨My.sw k,r,l7 nk,l,lZ hp⟩
theorem ce.step{rows:List (List Int)}{m:Nat}{k g:aa}{x:Int}(h:ce rows m k)(hx:aO rows k x=some g):ce rows (m+1) g:=by
 obtain⟨k0,r,nk,l,hp⟩:=h
 refine⟨k0,r++[x],nk,by rw[List.length_append,l]; rfl,?_⟩
 rw[jT,hp]
 exact hx
theorem ce.back{rows:List (List Int)}{m:Nat}{g:aa}(h:ce rows (m+1) g) : ∃ k x,ce rows m k/\aO rows k x=some g:=by
 obtain⟨k0,r,nk,l,hp⟩:=h
 have rn:r≠[]:=λe=>by rw[e]at l; cases l
 obtain⟨r',x,e⟩ : ∃ r' x,r=r'++[x]:=⟨r.dropLast,r.getLast rn,(List.dropLast_concat_getLast rn).symm⟩
 subst e
 rw[jT]at hp
 cases c:aK (aO rows) k0 r' with
 | none=>rw[c]at hp; cases hp
 | some k =>
  rw[c]at hp
  refine⟨k,x,⟨k0,r',nk,?_,c⟩,hp⟩
  rw[List.length_append]at l
  exact Nat.succ.inj l
def fH(rows:List (List Int))(m:Nat)(ks:List aa):Prop:=∀ g,(g∈ks\/sw g∈ks) ↔ ce rows m g
def uD(rows:List (List Int))(ks ks':List aa):Prop:=(∀ g'∈ks',∃ k∈ks,∃ x g,aO rows k x=some g/\(g'=g\/g'=sw g))/\∀ k∈ks,∀ x g,aO rows k x=some g->g∈ks'\/sw g∈ks'
theorem fH.led{rows:List (List Int)}{m:Nat}{ks ks':List aa}(h:fH rows m ks)(l:uD rows ks ks'):fH rows (m+1) ks':=λg'=>by
 have one : ∀ g',g'∈ks'->ce rows (m+1) g':=λg' hg=>by
  obtain⟨k,hk,x,g,hx,e⟩:=l.1 g' hg
  have r:=((h k).mp (.inl hk)).step hx
  rcases e with rfl | rfl
  ·exact r
  ·exact r.sw
 constructor
 ·rintro (hg | hg)
  ·exact one _ hg
  ·exact (one _ hg).sw
 ·intro r
  obtain⟨k,x,rk,hx⟩:=r.back
  rcases (h k).mpr rk with hk | hk
  ·exact l.2 k hk x g' hx
  ·rcases l.2 _ hk x _ (ut hx) with z | z
   ·exact .inr z
   ·exact .inl z
theorem fH.ne{rows:List (List Int)}{m:Nat}{ks:List aa}(h:fH rows m ks):ks≠[] ↔ ∃ g,ce rows m g:=by
 constructor
 ·intro n
  cases ks with
  | nil=>exact absurd rfl n
  | cons k ks=>exact⟨k,(h k).mp (.inl (List.mem_cons_self ..))⟩
 ·rintro⟨g,r⟩ e
  rcases (h g).mpr r with z | z <;> (rw[e]at z; cases z)
def Mx(rows:List (List Int))(n:Nat):Prop:=∀ k r g,aV (ap rows) k->aK (aO rows) k r=some g->r.length<=n
theorem Mx.none{rows:List (List Int)}{n:Nat}(h:Mx rows n)(g:aa) : ¬ ce rows (n+1) g:=by
 rintro⟨k,r,nk,l,hp⟩
 have:=h k r g nk hp
 omega
theorem rf{F:aa->Int->Option aa}{k:aa}{r:List Int}(h:aK F k r=some k) : ∀ m,aK F k (List.replicate m r).flatten=some k
 | 0=>rfl
 | m+1=>by
  rw[List.replicate_succ,List.flatten_cons,ik,h]
  exact rf h m
theorem qG(r:List Int) : ∀ m,(List.replicate m r).flatten.length=m*r.length
 | 0=>by simp
 | m+1=>by rw[List.replicate_succ,List.flatten_cons,List.length_append,qG r m,Nat.succ_mul,Nat.add_comm]
theorem tZ{rows:List (List Int)}{k:aa}{r:List Int}(nk:aV (ap rows) k)(rn:r≠[])(h:aK (aO rows) k r=some k)(m:Nat) : ∃ g,ce rows m g:=by
 have hl:=List.length_pos_iff.mpr rn
 have hp:=rf h m
 have:=ik (aO rows) k ((List.replicate m r).flatten.take m) ((List.replicate m r).flatten.drop m)
 rw[List.take_append_drop,hp]at this
 cases c:aK (aO rows) k ((List.replicate m r).flatten.take m) with
 | none=>rw[c]at this; cases this
 | some g =>
  refine⟨g,k,_,nk,?_,c⟩
  rw[List.length_take,qG]
  exact Nat.min_eq_left (Nat.le_mul_of_pos_right m hl)
theorem rV{rows:List (List Int)}{n:Nat}(h:Mx rows n){k:aa}{r:List Int}(nk:aV (ap rows) k)(rn:r≠[]):aK (aO rows) k r≠some k:=λz=>by
 obtain⟨g,k',r',nk',l,hp⟩:=tZ nk rn z (n+1)
 have:=h k' r' g nk' hp
 omega
theorem rg{rows:List (List Int)}(cl : ∀ k x g,aV (ap rows) k->bO rows (ap rows) k.1 k.2 x=some g->aV (ap rows) g) : ∀ {r:List Int} {k g:aa},aV (ap rows) k->aK (aO rows) k r=some g->aV (ap rows) g
 | [],k,g,nk,h=>by cases h; exact nk
 | x :: r,k,g,nk,h=>by
  have h:(aO rows k x).bind (λg=>aK (aO rows) g r)=some g:=h
  cases c:aO rows k x with
  | none=>rw[c]at h; cases h
  | some k' =>
   rw[c]at h
   exact rg cl (cl k x k' nk c) h
theorem mX{rows:List (List Int)}(cl : ∀ k x g,aV (ap rows) k->bO rows (ap rows) k.1 k.2 x=some g->aV (ap rows) g){n:Nat}(h:Mx rows n){ks:List aa}(cov:fH rows 0 ks){k g:aa}{r:List Int}(nk:aV (ap rows) k)(hp:aK (aO rows) k r=some g):r.length < ks.length:=by
 have at_ : ∀ i,∃ g,aK (aO rows) k (r.take i)=some g:=λi=>by
  have:=ik (aO rows) k (r.take i) (r.drop i)
  rw[List.take_append_drop,hp]at this
  cases c:aK (aO rows) k (r.take i) with
  | none=>rw[c]at this; cases this
  | some g'=>exact⟨g',rfl⟩
 let G:Nat->aa:=λi=>Classical.choose (at_ i)
 have hG : ∀ i,aK (aO rows) k (r.take i)=some (G i):=λi=>Classical.choose_spec (at_ i)
 have nG : ∀ i,aV (ap rows) (G i):=λi=>rg cl nk (hG i)
 have seg : ∀ i j,i<=j->aK (aO rows) (G i) ((r.drop i).take (j - i))=some (G j):=λi j hij=>by
  have e:r.take j=r.take i++(r.drop i).take (j - i):=by
   rw[<- List.take_add,show i+(j - i)=j by omega]
  have:=hG j
  rw[e,ik,hG i]at this
  exact this
 have far : ∀ i j,i < j->j<=r.length->G i≠G j/\G i≠sw (G j):=λi j hij hj=>by
  have s1:=seg i j (Nat.le_of_lt hij)
  have sn:(r.drop i).take (j - i)≠[]:=λz=>by
   have:=congrArg List.length z
   rw[List.length_take,List.length_drop]at this
   simp only [List.length_nil]at this
   omega
  constructor
  ·intro e
   rw[<- e]at s1
   exact rV h (nG i) sn s1
  ·intro e
   have e':sw (G i)=G j:=by rw[e,jD]
   have s2:=lZ s1
   rw[e',<- e]at s2
   have s3:aK (aO rows) (G i) ((r.drop i).take (j - i)++(r.drop i).take (j - i))=some (G i):=by
    rw[ik,s1]
    exact s2
   exact rV h (nG i) (λz=>sn (List.append_eq_nil_iff.mp z).1) s3
 open Classical in
 let C:Nat->aa:=λi=>if G i∈ks then G i else sw (G i)
 have hC : ∀ i,C i∈ks:=λi=>by
  show (if G i∈ks then G i else sw (G i))∈ks
  by_cases c:G i∈ks
  ·rw[if_pos c]; exact c
  ·rw[if_neg c]
   exact ((cov (G i)).mpr ⟨G i,[],nG i,rfl,rfl⟩).resolve_left c
 have oC : ∀ i,C i=G i\/C i=sw (G i):=λi=>by
  show (if G i∈ks then G i else sw (G i))=_\/(if G i∈ks then G i else sw (G i))=_
  by_cases c:G i∈ks
  ·rw[if_pos c]; exact .inl rfl
  ·rw[if_neg c]; exact .inr rfl
 have nd:((List.range (r.length+1)).map C).Nodup:=by
  refine List.pairwise_map.mpr ((List.pairwise_lt_range).imp_of_mem λ{i j} hi hj hij e=>?_)
  have hj:=List.mem_range.mp hj
  obtain⟨n1,n2⟩:=far i j hij (by omega)
  rcases oC i with a | a <;> rcases oC j with b | b <;> rw[a,b]at e
  ·exact n1 e
  ·exact n2 e
  ·exact n2 (by rw[<- e,jD])
  ·exact n1 (by rw[<- jD (G i),e,jD])
 have:=List.Nodup.length_le_of_subset nd (l₂:=ks) λx hx=>by
  obtain⟨i,_,rfl⟩:=List.mem_map.mp hx
  exact hC i
 rw[List.length_map,List.length_range]at this
 omega
end My
namespace My
open PySem L2
section
variable {P:Program}{w:World}{K:PySem.W.Frag}{mg:Str->Option Value}{base:Heap}{t:Adr}
theorem i5(kvs:List (aa × Addr × V))(k:aa)(b:Addr)(v:V)(x:aa):x∈((bK kvs k b v).map λe=>e.1) ↔ x∈(kvs.map λe=>e.1)\/x=k:=by
 constructor
 ·intro h
  obtain⟨w,hw⟩:=dA h
  rw[iN]at hw
  by_cases c:x=k
  ·exact .inr c
  ·rw[if_neg c]at hw
   obtain⟨e,he,e1,_⟩:=dO hw
   exact .inl (List.mem_map.mpr ⟨e,he,e1⟩)
 ·intro h
  have : ∃ w,aA (bK kvs k b v) x=some w:=by
   rw[iN]
   by_cases c:x=k
   ·rw[if_pos c]; exact⟨_,rfl⟩
   ·rw[if_neg c]; exact dA (h.resolve_right c)
  obtain⟨w,hw⟩:=this
  obtain⟨e,he,e1,_⟩:=dO hw
  exact List.mem_map.mpr ⟨e,he,e1⟩
theorem ji{rows:List (List Int)}{k g:aa}{x:Int}:aO rows k x=some g ↔ io rows k.1 x=some g.1/\io rows k.2 x=some g.2/\g.1≠g.2:=by
 unfold aO bO io
 constructor
 ·intro h
  split at h
  ·rename_i z
   cases h
   rw[if_pos z.1,if_pos z.2.1]
   exact⟨rfl,rfl,λe=>z.2.2 e.symm⟩
  ·cases h
 ·rintro⟨h1,h2,n⟩
  split at h1
  ·split at h2
   ·rename_i z1 z2
    have e1:=Option.some.inj h1
    have e2:=Option.some.inj h2
    rw[if_pos ⟨z1,z2,by rw[e1,e2]; exact λe=>n e.symm⟩,e1,e2]
   ·cases h2
  ·cases h1
theorem AK{c:TT}{tb te:TS}{D:cG}{σ:St}{H:Hp}(h:c σ H λb H1=>if b=true then tb D σ H1 else te D σ H1):jA c tb te D σ H:=h
theorem vQ{a b:TT}{σ:St}{H:Hp}{Q:Bool->Hp->Prop}(h:a σ H λc H1=>if c=true then b σ H1 Q else Q false H1):jC a b σ H Q:=h
theorem DB{i:Nat}{q:Addr}{σ:St}{H:Hp}{Q:Bool->Hp->Prop}(h:σ[i]? = some (some (.ref q)))(k:Q true H):mB (de (mS true) (mV i) (tC .non)) σ H Q:=pP (pO (fh h k))
theorem uu{i:Nat}{q:Addr}{b:TT}{σ:St}{H:Hp}{Q:Bool->Hp->Prop}(h:σ[i]? = some (some (.ref q)))(k:b σ H Q):jC (mB (de (mS true) (mV i) (tC .non))) b σ H Q:=vQ (DB h (by rw[if_pos rfl]; exact k))
def dM(H:Hp)(a:Addr)(ks:List aa):Prop:=∃ qs:List Addr,H a=some (.lst (qs.map V.ref))/\au (λq k=>aC H k q) qs ks
theorem dM.mono{H H':Hp}{a:Addr}{ks:List aa}(h:dM H a ks)(s:af H H'):dM H' a ks:=by
 obtain⟨qs,h1,h2⟩:=h
 exact⟨qs,s _ _ h1,h2.imp λq k z=>z.same s⟩
abbrev B4:List Int:=[0,1,7,255]
structure dw (H:Hp) (d:Addr) (rows:List (List Int)) (ks:List aa) (S:aa->Int->Prop) (kvs:List (aa × Addr × V)):Prop where
 dp:DP H d kvs
 one : ∀ g'∈(kvs.map λe=>e.1),∃ k∈ks,∃ x g,aO rows k x=some g/\(g'=g\/g'=sw g)
 two : ∀ k x g,S k x->aO rows k x=some g->g∈(kvs.map λe=>e.1)\/sw g∈(kvs.map λe=>e.1)
theorem dw.same{H H':Hp}{d:Addr}{rows:List (List Int)}{ks:List aa}{S:aa->Int->Prop}{kvs:List (aa × Addr × V)}(h:dw H d rows ks S kvs)(s:af H H'):dw H' d rows ks S kvs:=⟨h.dp.same s,h.one,h.two⟩
theorem dw.sE{H:Hp}{d:Addr}{rows:List (List Int)}{ks:List aa}{S S':aa->Int->Prop}{kvs:List (aa × Addr × V)}(h:dw H d rows ks S kvs)(s : ∀ k x g,aO rows k x=some g->S' k x->S k x):dw H d rows ks S' kvs:=⟨h.dp,h.one,λk x g hs hx=>h.two k x g (s k x g hx hs) hx⟩
theorem dw.len{H:Hp}{d:Addr}{rows:List (List Int)}{ks:List aa}{S:aa->Int->Prop}{kvs:List (aa × Addr × V)}{sp:List (List Int)}(h:dw H d rows ks S kvs)(hs : ∀ b,bM (ap rows) b->b∈sp)(l:sp.length<=60)(cl : ∀ k x g,aV (ap rows) k->bO rows (ap rows) k.1 k.2 x=some g->aV (ap rows) g)(nk : ∀ k∈ks,aV (ap rows) k):kvs.length<=3600/\∀ g'∈(kvs.map λe=>e.1),aV (ap rows) g':=by
 have nn : ∀ g'∈(kvs.map λe=>e.1),aV (ap rows) g':=λg' hg=>by
  obtain⟨k,hk,x,g,hx,e⟩:=h.one g' hg
  have:=cl k x g (nk k hk) hx
  rcases e with rfl | rfl
  ·exact this
  ·exact l7 this
 refine⟨?_,nn⟩
 have:=List.Nodup.length_le_of_subset h.dp.nd (l₂:=sp.flatMap λa=>sp.map λb=>((a,b):aa)) λx hx=>by
  obtain⟨a,b,_⟩:=nn x hx
  exact List.mem_flatMap.mpr ⟨x.1,hs _ a,List.mem_map.mpr ⟨x.2,hs _ b,rfl⟩⟩
 have al : ∀ l m:List (List Int),(l.flatMap λa=>m.map λb=>((a,b):aa)).length=l.length*m.length:=by
  intro l m
  induction l with
  | nil=>simp
  | cons a l ih=>rw[List.flatMap_cons,List.length_append,ih,List.length_map,List.length_cons,Nat.succ_mul,Nat.add_comm]
 rw[al,List.length_map]at this
 have:sp.length*sp.length<=60*60:=Nat.mul_le_mul l l
 omega
def wq(K:PySem.W.Frag):Sp:=λvs H Q _=>∃ (a h:Addr) (ps:List AL) (rows sp:List (List Int)) (ks:List aa),vs=[.ref a,.ref h]/\d7 H a ps/\(ps.map λp=>p.2)=rows/\fz rows/\ps.length<=12/\(∀ b,bM (ap rows) b->b∈sp)/\sp.length<=60/\dM H h ks/\(∀ k∈ks,aV (ap rows) k)/\ks.length<=3600 /\
 ∀ p ks' H',af H H'->dM H' p ks'->uD rows ks ks'->(∀ k∈ks',aV (ap rows) k)->ks'.length<=3600->Q (.ref p) H'
theorem sY (T:Txt K mg t):bi P w K mg base "_law_led_on" 2 t.oH t.m8 ["_law_rows_here", "_law_held"] (wq K):=by
 refine⟨T.By,T.uO.kp,T.Du,T.uO.okQ fL (λvs H Q E h=>by obtain⟨a,h,ps,rows,sp,ks,rfl,_⟩:=h; rfl) λcdv A outer s H vs Q E hr h=>?_⟩
 obtain⟨a,h,ps,rows,sp,ks,rfl,ls,er,rws,lp,hs,lsp,⟨qs,hh,al⟩,nk,lk,kk⟩:=h
 have hu:=hr.units
 have ner : ∀ r∈rows,r≠[]:=λr hr z=>by have:=(rws.sg r hr).1; rw[z]at this; cases this
 have cl:=ox rws.pf ner
 have l6 : ∀ b,bM (ap rows) b->b.length<=6:=λb hb=>by
  obtain⟨r,hr,j,hj,rfl⟩:=jh.mpr hb
  have:=(rws.sg r hr).2.1
  rw[List.length_take]
  omega
 refine⟨_,(aw (aS (i:=2) fL.nd rfl (.inl rfl) ie)
  (aw (bB PassesOwn.never rfl (dD (K:=K) rfl (ab 1)) (cO (K:=K) rfl rfl (bn (aE (i:=3) fL.nd rfl (.inl rfl)) (bn (aE (i:=4) fL.nd rfl (.inl rfl)) cN))) (av (bB PassesOwn.never rfl (dD (K:=K) rfl (cR (lW rfl))) (aE (i:=5) fL.nd rfl (.inl rfl)) (aw (aS (i:=6) fL.nd rfl (.inl rfl) (aX (sX T) hr (ae (ab 0) (ae (ab 3) (ae (ab 5) ag)))))
  (aw (aS (i:=7) fL.nd rfl (.inl rfl) (aX (sX T) hr (ae (ab 0) (ae (ab 4) (ae (ab 5) ag)))))
  (av (ca (i3 (lL (bJ j9 (ab 6) jO (bf _)) (lL (bJ j9 (ab 7) jO (bf _)) (qO (bJ (gb (K:=K) rfl hu) (ab 6) (ab 7) (bf _)))))) (av (ii hu (ab 2) (cv (ae (bj (C5 hu rfl) T.n_min PyProof.Rows.boot_min (ae (ab 6) (ae (ab 7) ag))) (ae (bj (C6 hu rfl) T.n_max PyProof.Rows.boot_max (ae (ab 6) (ae (ab 7) ag))) ag))) fT)) bZ)))))))
  (av (aT (dE (C8 rfl) T.n_list PyProof.Rows.boot_list (ae (ab 2) ag)))))),?_⟩
 intro d H1 g1
 have hd:=g1.nw
 refine cC ?_
 refine⟨h,rfl,⟨_,.of (g1.sm _ _ hh)⟩,fk (K:=K) (a:=h) (xs:=qs.map V.ref) (λi σ H'=>af H H'/\(∃ kvs,dw H' d rows ks (λk x=>k∈ks.take i) kvs)/\∃ v3 v4 v5 v6 v7,σ=[some (.ref a),some (.ref h),some (.ref d),v3,v4,v5,v6,v7]) ⟨g1.sm,⟨[],DP.new g1,(λg' h=>nomatch h),λk x g h=>nomatch h⟩,_,_,_,_,_,rfl⟩ (λi σ H' _ z=>.of (z.1 _ _ hh)) ?_ ?_⟩
 ·rintro i y σ H2 hy ⟨s2,⟨kvs,ld⟩,v3,v4,v5,v6,v7,rfl⟩
  obtain⟨q,hq,rfl⟩:=jJ hy
  obtain⟨k,hk,c,b,k1,k2,k3⟩:=al.right hq
  have km:=List.mem_of_getElem? hk
  have nkk:=nk k km
  refine⟨q,_,rfl,.of (s2 _ _ k1),rfl,_,_,rfl,_,_,rfl,rfl,?_⟩
  refine⟨sz rfl,λpl H3 g3=>?_⟩
  have s3:=s2.trans g3.sm
  refine⟨pl,rfl,⟨_,g3.lst⟩,fk (K:=K) (a:=pl) (xs:=B4.map V.int) (λj σ H'=>af H H'/\H' pl=some (.lst (B4.map V.int))/\(∃ kvs,dw H' d rows ks (λk' x=>k'∈ks.take i\/(k'=k/\x∈B4.take j)) kvs)/\∃ v5 v6 v7,σ=[some (.ref a),some (.ref h),some (.ref d),some (.ref c),some (.ref b),v5,v6,v7]) ⟨s3,g3.at_,⟨kvs,(ld.same g3.sm).sE λk' x g hx z=>z.elim id λz=>absurd z.2 (by simp)⟩,_,_,_,rfl⟩ (λj σ H' _ z=>.of z.2.1) ?_ ?_⟩
  ·rintro j y σ H4 hy ⟨s4,pl4,⟨kvs,ld⟩,v5,v6,v7,rfl⟩
   obtain⟨x,hx,rfl⟩:=mF hy
   have ls4:=ls.mono s4
   have c4:=s4 _ _ k2
   have b4:=s4 _ _ k3
   have fin : ∀ H',af H H'->H' pl=some (.lst (B4.map V.int))->(∃ kvs,dw H' d rows ks (λk' x'=>k'∈ks.take i\/(k'=k/\x'∈B4.take j)) kvs/\∀ g,aO rows k x=some g->g∈(kvs.map λe=>e.1)\/sw g∈(kvs.map λe=>e.1))->∀ v6 v7,(af H H'/\H' pl=some (.lst (B4.map V.int))/\(∃ kvs,dw H' d rows ks (λk' x=>k'∈ks.take i\/(k'=k/\x∈B4.take (j+1))) kvs)/\∃ v5 v6' v7',[some (V.ref a),some (.ref h),some (.ref d),some (.ref c),some (.ref b),some (.int x),v6,v7]=[some (.ref a),some (.ref h),some (.ref d),some (.ref c),some (.ref b),v5,v6',v7']):=by
    rintro H' s' p' ⟨kvs,ld,nw⟩ v6 v7
    refine⟨s',p',⟨kvs,ld.dp,ld.one,λk' x' g hS hx'=>?_⟩,_,_,_,rfl⟩
    rcases hS with z | ⟨rfl,z⟩
    ·exact ld.two k' x' g (.inl z) hx'
    ·rcases (cw hx).mp z with z | z
     ·exact ld.two k' x' g (.inr ⟨rfl,z⟩) hx'
     ·rw[z]at hx'; exact nw g hx'
   refine cC ?_
   refine⟨a,c,ps,rows,k.1,x,rfl,ls4,er,rws.pf,by omega,c4,Nat.le_trans (l6 _ nkk.1) (by decide),λen H5 s5=>?_,λqh u H5 en s5 hqh=>?_⟩
   ·refine cC ?_
    refine⟨a,b,ps,rows,k.2,x,rfl,ls4.mono s5,er,rws.pf,by omega,s5 _ _ b4,Nat.le_trans (l6 _ nkk.2.1) (by decide),λen2 H6 s6=>?_,λqt v H6 en2 s6 hqt=>?_⟩
    ·exact fin H6 (s4.trans (s5.trans s6)) (s6 _ _ (s5 _ _ pl4)) ⟨kvs,ld.same (s5.trans s6),λg hg=>by have:=(ji.mp hg).1; rw[en]at this; cases this⟩ _ _
    ·exact fin H6 (s4.trans (s5.trans s6)) (s6 _ _ (s5 _ _ pl4)) ⟨kvs,ld.same (s5.trans s6),λg hg=>by have:=(ji.mp hg).1; rw[en]at this; cases this⟩ _ _
   ·refine cC ?_
    refine⟨a,b,ps,rows,k.2,x,rfl,ls4.mono s5,er,rws.pf,by omega,s5 _ _ b4,Nat.le_trans (l6 _ nkk.2.1) (by decide),λen2 H6 s6=>?_,λqt v H6 en2 s6 hqt=>?_⟩
    ·exact fin H6 (s4.trans (s5.trans s6)) (s6 _ _ (s5 _ _ pl4)) ⟨kvs,ld.same (s5.trans s6),λg hg=>by have:=(ji.mp hg).2.1; rw[en2]at this; cases this⟩ _ _
    ·have s46:=s5.trans s6
     have h6:=s6 _ _ hqh
     refine cC ?_
     dsimp only
     refine AK (uu (q:=qh) (by rfl) (uu (q:=qt) (by rfl) ?_))
     refine pP (pO ?_)
     refine fh (by rfl) (fh (by rfl) (nS (K:=K) h6 hqt ?_))
     refine aG (λz=>?_) (λz=>?_)
     ·have z:(!decide (u=v))=true:=z
      have nuv:u≠v:=by simpa using z
      have hg:aO rows k x=some (u,v):=ji.mpr ⟨en,en2,nuv⟩
      refine⟨qh,qt,u,v,rfl,h6,hqt,?_⟩
      refine⟨qh,qt,u,v,rfl,h6,hqt,?_⟩
      obtain⟨A1,eA⟩ : ∃ A1,A1=if HT.lexLt v u=true then qt else qh:=⟨_,rfl⟩
      obtain⟨A2,eB⟩ : ∃ A2,A2=if HT.lexLt u v=true then qt else qh:=⟨_,rfl⟩
      rw[<- eA,<- eB]
      obtain⟨ky,hky,hA,hB⟩ : ∃ ky:aa,(ky=(u,v)\/ky=sw (u,v))/\H6 A1=some (.tup (ky.1.map V.int))/\H6 A2=some (.tup (ky.2.map V.int)):=by
       cases c:HT.lexLt v u with
       | true =>
        have c2:HT.lexLt u v=false:=by
         cases c3:HT.lexLt u v with
         | false=>rfl
         | true=>have:=mq _ _ _ c c3; rw[mv]at this; cases this
        refine⟨(v,u),.inr rfl,?_,?_⟩
        ·rw[eA,c]; exact hqt
        ·rw[eB,c2]; exact h6
       | false =>
        have c2:HT.lexLt u v=true:=mr _ _ nuv.symm c
        refine⟨(u,v),.inl rfl,?_,?_⟩
        ·rw[eA,c]; exact h6
        ·rw[eB,c2]; exact hqt
      refine⟨sz rfl,λpk H7 g7=>?_⟩
      have s47:=s46.trans g7.sm
      have ld7:=ld.same s47
      obtain⟨lk7,_⟩:=ld7.len hs lsp cl nk
      refine⟨d,pk,kvs,ky,rfl,rfl,ld7.dp,⟨A1,A2,g7.at_,g7.sm _ _ hA,g7.sm _ _ hB⟩,dP (by omega),λH8 d8 so=>?_⟩
      obtain⟨xsd,epd,dhd,_⟩:=ld7.dp.ex
      refine fin H8 (λc u e=>by rw[so c (λz=>by rw[z,hd]at e; cases e)]; exact s47 _ _ (s4 _ _ e)) (by rw[so pl (ax (s47 _ _ pl4) dhd (by intro z; cases z))]; exact s47 _ _ pl4) ⟨_,⟨d8,λg' hg'=>?_,λk' x' g hS hx'=>?_⟩,λg hg'=>?_⟩ _ _
      ·rcases (i5 ..).mp hg' with w | rfl
       ·exact ld.one g' w
       ·exact⟨k,km,x,(u,v),hg,hky⟩
      ·rcases ld.two k' x' g hS hx' with w | w
       ·exact .inl ((i5 ..).mpr (.inl w))
       ·exact .inr ((i5 ..).mpr (.inl w))
      ·rw[hg]at hg'
       cases hg'
       rcases hky with w | w
       ·exact .inl ((i5 ..).mpr (.inr w.symm))
       ·exact .inr ((i5 ..).mpr (.inr w.symm))
     ·have e:u=v:=Classical.byContradiction λn=>z (show (!decide (u=v))=true by simp[n])
      refine fin H6 (s4.trans s46) (s46 _ _ pl4) ⟨kvs,ld.same s46,λg hg=>?_⟩ _ _
      obtain⟨e1,e2,n⟩:=ji.mp hg
      rw[en]at e1
      rw[en2]at e2
      exact absurd ((Option.some.inj e1).symm.trans (e.trans (Option.some.inj e2))) n
  ·rintro σ H4 ⟨s4,pl4,⟨kvs,ld⟩,v5,v6,v7,rfl⟩
   refine⟨s4,⟨kvs,ld.sE λk' x g hx z=>?_⟩,_,_,_,_,_,rfl⟩
   rcases (cw hk).mp z with z | rfl
   ·exact .inl z
   ·refine .inr ⟨rfl,?_⟩
    rw[List.take_of_length_le (by rw[List.length_map]; exact Nat.le_refl _)]
    unfold aO bO at hx
    split at hx
    ·rename_i w
     obtain⟨_,r,hr,hp⟩:=eE.mp w.1
     exact rws.by4 r hr x (hp.subset (List.mem_append_right _ (List.mem_singleton.mpr rfl)))
    ·cases hx
 ·rintro σ H2 ⟨s2,⟨kvs,ld⟩,v3,v4,v5,v6,v7,rfl⟩
  obtain⟨l1,l2⟩:=ld.len hs lsp cl nk
  refine⟨d,kvs,rfl,ld.dp,λp3 H3 g3=>?_⟩
  refine kk p3 (kvs.map λe=>e.1) H3 (s2.trans g3.sm) ⟨kvs.map λe=>e.2.1,by rw[List.map_map]; exact g3.at_,by rw[List.length_map,List.length_map],λi q k hq hk=>?_⟩ ⟨ld.one,λk hk x g hx=>ld.two k x g ?_ hx⟩ l2 (by rw[List.length_map]; exact l1)
  ·rw[List.getElem?_map]at hq hk
   obtain⟨e,he,rfl⟩:=Option.map_eq_some_iff.mp hq
   rw[he]at hk
   cases hk
   exact (ld.dp.key e (List.mem_of_getElem? he)).same g3.sm
  ·show k∈ks.take _
   rw[List.length_map,al.1,List.take_length]
   exact hk
def dF(sp:List (List Int))(n:Nat):List aa:=(List.range n).flatMap λk=>(List.range k).map λj=>(sp.getD j [],sp.getD k [])
theorem rq(sp:List (List Int))(n:Nat):dF sp (n+1)=dF sp n++(List.range n).map λj=>(sp.getD j [],sp.getD n []):=by
 unfold dF
 rw[List.range_succ,List.flatMap_append]
 simp
theorem ma{sp:List (List Int)}{n:Nat}{g:aa}:g∈dF sp n ↔ ∃ j k,j < k/\k < n/\g=(sp.getD j [],sp.getD k []):=by
 unfold dF
 rw[List.mem_flatMap]
 constructor
 ·rintro⟨k,hk,h⟩
  obtain⟨j,hj,rfl⟩:=List.mem_map.mp h
  exact⟨j,k,List.mem_range.mp hj,List.mem_range.mp hk,rfl⟩
 ·rintro⟨j,k,h1,h2,rfl⟩
  exact⟨k,List.mem_range.mpr h2,List.mem_map.mpr ⟨j,List.mem_range.mpr h1,rfl⟩⟩
theorem md(sp:List (List Int)) : ∀ n,n<=60->(dF sp n).length<=60*n
 | 0,_=>Nat.zero_le _
 | n+1,h=>by
  rw[rq,List.length_append,List.length_map,List.length_range]
  have:=md sp n (by omega)
  omega
theorem CG{rows sp:List (List Int)}(nd:sp.Nodup)(mem : ∀ b,b∈sp ↔ js rows b):fH rows 0 (dF sp sp.length)/\∀ g∈dF sp sp.length,aV (ap rows) g:=by
 have at_ : ∀ i,i < sp.length->sp[i]? = some (sp.getD i []):=λi hi=>by rw[List.getD_eq_getElem?_getD,List.getElem?_eq_getElem hi]; rfl
 have inn : ∀ i,i < sp.length->bM (ap rows) (sp.getD i []):=λi hi=>jh.mp ((mem _).mp (List.mem_of_getElem? (at_ i hi)))
 have fw : ∀ g∈dF sp sp.length,aV (ap rows) g:=λg hg=>by
  obtain⟨j,k,h1,h2,rfl⟩:=ma.mp hg
  refine⟨inn j (by omega),inn k h2,λe=>?_⟩
  have e:sp.getD j []=sp.getD k []:=e
  have:=(List.getElem?_inj (by omega) nd).mp ((at_ j (by omega)).trans ((congrArg some e).trans (at_ k h2).symm))
  omega
 refine⟨λg=>⟨λh=>?_,?_⟩,fw⟩
 ·rcases h with h | h
  ·exact⟨g,[],fw g h,rfl,rfl⟩
  ·have:=l7 (fw _ h)
   exact⟨g,[],this,rfl,rfl⟩
 ·rintro⟨k,r,nk,l,hp⟩
  have:r=[]:=List.eq_nil_of_length_eq_zero l
  subst this
  cases hp
  obtain⟨i,hi⟩:=List.getElem?_of_mem ((mem _).mpr (jh.mpr nk.1))
  obtain⟨j,hj⟩:=List.getElem?_of_mem ((mem _).mpr (jh.mpr nk.2.1))
  have li:=(List.getElem?_eq_some_iff.mp hi).1
  have lj:=(List.getElem?_eq_some_iff.mp hj).1
  have e1:g.1=sp.getD i []:=by have:=at_ i li; rw[hi]at this; exact Option.some.inj this
  have e2:g.2=sp.getD j []:=by have:=at_ j lj; rw[hj]at this; exact Option.some.inj this
  rcases Nat.lt_trichotomy i j with c | c | c
  ·exact .inl (ma.mpr ⟨i,j,c,lj,Prod.ext e1 e2⟩)
  ·subst c; exact absurd (e1.trans e2.symm) nk.2.2
  ·exact .inr (ma.mpr ⟨j,i,c,li,Prod.ext e2 e1⟩)
theorem AR{H H':Hp}{a:Addr}{ks:List aa}(h:dM H a ks)(s:iE H H'):dM H' a ks:=by
 obtain⟨qs,h1,h2⟩:=h
 exact⟨qs,s _ _ h1 (by intro ps z; cases z),h2.imp λq k z=>br z λq xs z=>s _ _ z (by intro ps z; cases z)⟩
def je(r:List Int):PyData:=.tuple (r.map PyData.int)
theorem An{α:Type}{f:α->PyData}{n:Nat}(h : ∀ x,(f x).canLay0=true/\(f x).depth<=n)(l:List α):(PyData.tuple (l.map f)).canLay0=true/\(PyData.tuple (l.map f)).depth<=n+1:=by
 obtain⟨a,b⟩:=my h l
 exact⟨by simpa [PyData.canLay0] using a,by simp[PyData.depth]; omega⟩
theorem tX(r:List Int):(je r).canLay0=true/\(je r).depth<=2:=An (n:=1) (λx=>⟨rfl,by simp[PyData.depth]⟩) r
theorem tY{H:Hp}{a:Addr}{r:List Int}(h:H a=some (.tup (r.map V.int))):aZ K H (je r) (.ref a):=aZ.tup (.of h) (cB.ints r)
def gg(k:aa):PyData:=.tuple [je k.1,je k.2]
theorem Cz(k:aa):(gg k).canLay0=true/\(gg k).depth<=3:=by
 obtain⟨a,b⟩:=tX k.1
 obtain⟨c,d⟩:=tX k.2
 unfold gg
 refine⟨by simp[PyData.canLay0,PyData.canLayAll0,a,c],?_⟩
 simp[PyData.depth,PyData.depthAll]
 omega
theorem CA{H:Hp}{q:Addr}{k:aa}(h:aC H k q):aZ K H (gg k) (.ref q):=by
 obtain⟨c,b,h1,h2,h3⟩:=h
 exact aZ.tup (.of h1) (.cons (tY h2) (.cons (tY h3) .nil))
theorem sW{H:Hp} : ∀ {qs:List Addr} {ks:List aa},au (λq k=>aC H k q) qs ks->cB K H (ks.map gg) (qs.map V.ref)
 | [],[],_=>.nil
 | [],_ :: _,h=>by have:=h.1; cases this
 | _ :: _,[],h=>by have:=h.1; cases this
 | q :: qs,k :: ks,h=>.cons (CA h.head) (sW h.tail)
theorem nT{H:Hp}{a b:Addr}{ks:List aa}{neg:Bool}{Q:VK}(h:dM H a ks)(hb:H b=some (.lst []))(k:Q (.bl (if neg then !decide (ks=[]) else decide (ks=[]))) H):gc K neg (.ref a) (.ref b) H Q:=by
 obtain⟨qs,h1,h2⟩:=h
 refine⟨.list (ks.map gg),.list [],aZ.lst (.of h1) (sW h2),aZ.lst (.of hb) .nil,wK (Ao Cz _) (by decide),by decide +kernel,?_⟩
 have e:PyData.eqv (.list (ks.map gg)) (.list [])=decide (ks=[]):=by
  show PyData.eqvAll _ _=_
  cases ks <;> rfl
 rw[e]
 exact k
def lm(K:PySem.W.Frag):Sp:=λvs H Q _=>∃ a,vs=[.ref a]/\∃ ns:List Int,az K H a (ns.map V.int)/\ns.length<=63/\kN 75 H/\∀ H',Q (.bl true) H'
theorem A4 (T:Txt K mg t) (hBI:base.BuiltinsAt mg 75):bi P w K mg base "law" 10 t.oO t.kj ["_law_script"] (lm K):=by
 refine⟨T.tm,T.pD.kp,T.DA,T.pD.okQ cM (λvs H Q E h=>by obtain⟨a,rfl,_⟩:=h; rfl) λcdv A outer s H vs Q E hr h=>?_⟩
 obtain⟨a,rfl,sc,h1,hc,hO,k⟩:=h
 have hu:=hr.units
 refine⟨_,(aw (aS (i:=1) cM.nd rfl (.inl rfl) (aX (AU T) hr (ae (cP (dH (K:=K) rfl) (ab 0) (cD aB) (cD aB)) ag)))
  (aw (aS (i:=2) cM.nd rfl (.inr rfl) (aX (AT T) hr (ae (ab 1) ag)))
  (aw (aS (i:=3) cM.nd rfl (.inl rfl) (cR ag))
  (aw (bB PassesOwn.never rfl (fR rfl T.n_range (ae (bj (cz (K:=K) rfl) T.n_len PySem.boot_len (ae (ab 2) ag)) ag)) (aE (i:=4) cM.nd rfl (.inr rfl)) (av (aS (i:=3) cM.nd rfl (.inl rfl) (di (dI (K:=K) rfl) (ab 3) (fS rfl (cg.of (fns:=(ao fe).names) (N:=["_law_script", "_law_rows_here", "_law_spots_here", "_law_held", "_law_k", "_law_first", "_law_word", "_law_many", "_law_witness"]) (Nc:=["_law_j", "_law_spots_here", "_law_k"]) (nv:=1) (caps:=[2,4]) rfl rfl (by decide +kernel)) (fR rfl T.n_range (ae (ab 4) ag)) (λ_ _ _ _=>(aE (i:=0) (show List.Nodup (["_law_j", "_law_spots_here", "_law_k"]:List Str) by decide +kernel) rfl (Or.inl rfl) (Or.inr rfl))) (λ_ _ _ _=>fP) (λ_ _ _ _=>(cv (ae (be (bh (K:=K) rfl) (ab 1) (ab 0) (λ_ _=>rfl)) (ae (be (bh (K:=K) rfl) (ab 1) (ab 2) (λ_ _=>rfl)) ag)))))))))
  (aw (aS (i:=5) cM.nd rfl (.inr rfl) (di (dI (K:=K) rfl) aB (jP (aX (AW T) hr (ae (ab 0) (ae aB ag))))))
  (aw (xF (aX (AZ T hBI) hr (ae (xT (AQ T) hr (ae (fS rfl (cg.of (fns:=(ao fe).names) (N:=["_law_script", "_law_rows_here", "_law_spots_here", "_law_held", "_law_k", "_law_first", "_law_word", "_law_many", "_law_witness"]) (Nc:=["_law_k", "_law_row", "_law_first"]) (nv:=2) (caps:=[5]) rfl rfl (by decide +kernel)) (lV (K:=K) rfl rfl T.n_enumerate (ae (ab 1) ag)) (λ_ _ _ _=>(cO (K:=K) rfl (n:=2) rfl (bn (aE (i:=0) (show List.Nodup (["_law_k", "_law_row", "_law_first"]:List Str) by decide +kernel) rfl (Or.inl rfl) (Or.inr rfl)) (bn (aE (i:=1) (show List.Nodup (["_law_k", "_law_row", "_law_first"]:List Str) by decide +kernel) rfl (Or.inl rfl) (Or.inr rfl)) cN)))) (λ_ _ _ _=>fP) (λ_ _ _ _=>(cv (ae (di (dI (K:=K) rfl) (ab 2) (ab 0)) (ae (ab 1) ag))))) ag)) ag)) (cO (K:=K) rfl rfl (bn (aE (i:=6) cM.nd rfl (.inl rfl)) (bn (aE (i:=7) cM.nd rfl (.inl rfl)) (bn (aE (i:=8) cM.nd rfl (.inl rfl)) cN)))))
  (aw (ca (i3 (jM (fQ (ic (aX (AV T) hr (ae (ab 7) ag)))) (jM (bJ mL (ab 7) aB (bf _)) (lK (bJ mM (ab 7) (bj (cz (K:=K) rfl) T.n_len PySem.boot_len (ae (ab 3) ag)) (bf _)))))) (av (aT fT)) bZ)
  (aw (ca (bJ (du (K:=K) rfl hu) (ab 3) (cR ag) (bf _)) (av (aT (dk (dj (du (K:=K) rfl hu) (ab 6) h9 (bf _)) (cQ (dj (du (K:=K) rfl hu) (ab 7) aB (bf _)))))) bZ)
  (aw (ca (bJ (du (K:=K) rfl hu) (ab 6) h9 (bf _)) (av (aS (i:=7) cM.nd rfl (.inl rfl) aB)) bZ)
  (aw (bB PassesOwn.never rfl (fR rfl T.n_range (ae (ab 7) ag)) (aE (i:=4) cM.nd rfl (.inr rfl)) (av (aS (i:=3) cM.nd rfl (.inl rfl) (aX (sY T) hr (ae (ab 1) (ae (ab 3) ag))))))
  (av (aT (dk (dj (gb (K:=K) rfl hu) (ab 3) (cR ag) (bf _)) (cQ (iV (dj (du (K:=K) rfl hu) (ab 6) h9 (bf _)) (cQ (dk (dj (du (K:=K) rfl hu) (ab 6) h9 (bf _)) (cQ (dj (du (K:=K) rfl hu) (aX (sY T) hr (ae (ab 1) (ae (ab 3) ag))) (cR ag) (bf _)))))))))))))))))))),?_⟩
 have tab0:cH H 75 qS pS:=.inl hO.1
 refine⟨_,rfl,_,rfl,_,h1,λpc H1 g1=>?_⟩
 rw[show cy (sc.map V.int) (some 1) (some 8)=((sc.drop 1).take 7).map V.int by rw[kB]; exact congrArg _ (ua sc 1 7)]at g1
 refine⟨pc,_,rfl,g1.lst,by rw[List.length_take]; omega,λp ps H2 s2 hp hps rws lps=>?_⟩
 obtain⟨rows,er⟩ : ∃ rows,rows=ps.map λx=>x.2:=⟨_,rfl⟩
 rw[<- er]at rws
 have lrp:rows.length=ps.length:=by rw[er,List.length_map]
 have s02:=g1.sm.trans s2
 have ls2:d7 H2 p ps:=⟨hp,hps⟩
 refine cC ?_
 refine⟨p,ps,rows,rfl,ls2,er.symm,rws,by omega,λpu us H3 s3 ts nd mem lu=>?_⟩
 obtain⟨sp,esp⟩ : ∃ sp,sp=us.map λu=>u.2:=⟨_,rfl⟩
 rw[<- esp]at nd mem
 have lsp:sp.length=us.length:=by rw[esp,List.length_map]
 obtain⟨cv0,pn0⟩:=CG nd mem
 have s03:=s02.trans s3
 refine cC ?_
 refine⟨sz rfl,λp0 H4 g4=>?_⟩
 refine cC ?_
 refine⟨_,.inl (.of (g4.sm _ _ ts.1)),?_⟩
 rw[List.length_map]
 refine⟨(us.length:Int),rfl,by omega,by omega,?_⟩
 rw[Int.toNat_natCast]
 refine iA (lo:=0) (n:=us.length) (λi σ H'=>af H3 H'/\∃ hl v4,dM H' hl (dF sp i)/\σ=[some (.ref a),some (.ref p),some (.ref pu),some (.ref hl),v4,none,none,none,none]) ⟨g4.sm,p0,_,⟨[],g4.at_,au.nil⟩,rfl⟩ ?_ ?_
 ·rintro i σ H5 hi ⟨s5,hl,v4,⟨qs,hq,al⟩,rfl⟩
  have atu : ∀ j,j < us.length->∃ u,us[j]? = some u/\u∈us/\u.2=sp.getD j []:=λj hj=>by
   refine⟨us[j],List.getElem?_eq_getElem hj,List.getElem_mem hj,?_⟩
   rw[esp,List.getD_eq_getElem?_getD,List.getElem?_map,List.getElem?_eq_getElem hj]
   rfl
  have pu5:=s5 _ _ ts.1
  refine cC ?_
  refine⟨0+(i:Int),rfl,by omega,by omega,?_⟩
  rw[Int.zero_add,Int.toNat_natCast]
  refine CJ (lo:=0) (n:=i) (λj ys H'=>af H5 H'/\∃ qs:List Addr,ys=qs.map V.ref/\au (λq k=>aC H' k q) qs ((List.range j).map λj=>(sp.getD j [],sp.getD i []))) ⟨af.refl _,[],rfl,au.nil⟩ (λj ys H' _ z=>?_) (dg (by omega)) (λj ys H6 N hj z hN=>?_) λys H6 pn H7 z g7=>?_
  ·obtain⟨_,qs,rfl,al⟩:=z
   have:=al.1
   rw[List.length_map,List.length_range]at this
   rw[List.length_map]; omega
  ·obtain⟨s6,qs,rfl,al⟩:=z
   obtain⟨u,hu1,um,eu⟩:=atu j (by omega)
   obtain⟨u',hu2,um',eu'⟩:=atu i hi
   simp only [eZ,if_true]
   have pu6:=s6 _ _ pu5
   refine⟨_,.ref u.1,.inl (.of pu6),by rw[Int.zero_add]; exact bW (by rw[List.getElem?_map,hu1]; rfl),?_⟩
   refine⟨_,.ref u'.1,.inl (.of pu6),bW (by rw[List.getElem?_map,hu2]; rfl),?_⟩
   refine⟨sz rfl,λq7 H7 g7=>hN _ _ ⟨s6.trans g7.sm,qs++[q7],by rw[List.map_append]; rfl,?_⟩⟩
   rw[List.range_succ,List.map_append]
   refine au.app (al.imp λq k z=>z.same g7.sm) (au.cons ⟨u.1,u'.1,g7.at_,?_,?_⟩ au.nil)
   ·show H7 u.1=some (.tup ((sp.getD j []).map V.int))
    rw[<- eu]
    exact (s5.trans (s6.trans g7.sm)) _ _ (ts.2 u um)
   ·show H7 u'.1=some (.tup ((sp.getD i []).map V.int))
    rw[<- eu']
    exact (s5.trans (s6.trans g7.sm)) _ _ (ts.2 u' um')
  ·obtain⟨s6,qn,rfl,aln⟩:=z
   have s57:=s6.trans g7.sm
   have l1:=al.1
   have l2:=md sp i (by omega)
   have l3:=aln.1
   rw[List.length_map,List.length_range]at l3
   refine⟨_,_,.of (s57 _ _ hq),g7.lst,dg (by rw[List.length_map,List.length_map]; omega),λp8 H8 g8=>?_⟩
   rw[<- List.map_append]at g8
   have s58:=s57.trans g8.sm
   refine⟨s5.trans s58,p8,_,⟨qs++qn,g8.at_,?_⟩,rfl⟩
   rw[rq]
   exact au.app (al.imp λq k z=>z.same s58) (aln.imp λq k z=>z.same (g7.sm.trans g8.sm))
 ·rintro σ H5 ⟨s5,hl,v4,hd,rfl⟩
  dsimp only
  obtain⟨ks,eks⟩ : ∃ ks,ks=dF sp sp.length:=⟨_,rfl⟩
  rw[<- eks]at cv0 pn0
  rw[<- lsp,<- eks]at hd
  have lks:ks.length<=3600:=by
   have:=md sp sp.length (by omega)
   rw[<- eks]at this
   omega
  have s05:=s03.trans s5
  refine⟨a,sc,0,rfl,s05.seq h1,by omega,λH6 s6=>?_⟩
  have s06:=s05.trans s6
  obtain⟨fi,efi⟩ : ∃ fi:Int,fi=65+sc.getD 0 0%1000:=⟨_,rfl⟩
  have f0:65<=fi/\fi<=1064:=by
   have h0:=Int.emod_nonneg (sc.getD 0 0) (b:=1000) (by decide)
   have h1:=Int.emod_lt_of_pos (sc.getD 0 0) (b:=1000) (by decide)
   omega
  have s36:=s5.trans s6
  have ls6:=ls2.mono (s3.trans s36)
  obtain⟨es,ees⟩ : ∃ es,es=eY fi 1 rows:=⟨_,rfl⟩
  have esok:Es es:=by rw[ees]; exact vP rws (by omega) (.inl rfl) (by omega) (by omega)
  have les:es.length=rows.length:=by rw[ees,jw]
  have erow:(es.map λe=>e.2)=rows:=by rw[ees]; exact vO ..
  refine⟨p,_,rfl,.of ls6.1,?_⟩
  refine CM (K:=K) (a:=p) (xs:=ps.map λx=>V.ref x.1) (λi ys H'=>af H6 H'/\∃ ts:List Addr,ys=ts.map V.ref/\pE H' ts (es.take i)) ⟨af.refl _,[],rfl,au.nil⟩ (λi ys H' hi z=>⟨.of (z.1 _ _ ls6.1),?_⟩) (dg (by rw[List.length_map]; omega)) (λi x ys H' HB N hx z sB hN=>?_) λys H' pr HB z gB=>?_
  ·obtain⟨_,ts,rfl,al⟩:=z
   have:=al.1
   rw[List.length_take]at this
   rw[List.length_map]
   omega
  ·obtain⟨s',ts,rfl,al⟩:=z
   obtain⟨q,hq,hqi,rfl⟩:=oy hx
   simp only [eZ,if_true]
   have sAB:=s'.trans sB
   have hri:rows[i]? = some q.2:=by rw[er,List.getElem?_map,hqi]; rfl
   have hei:es[i]? = some (65+sc.getD 0 0%1000+(i:Int),q.2):=by rw[ees,kY hri,Int.one_mul,efi]
   refine⟨sz rfl,λp5 HD gD=>hN _ _ ⟨sAB.trans gD.sm,ts++[p5],by rw[List.map_append]; rfl,?_⟩⟩
   obtain⟨r1,r6,_⟩:=rws.sg q.2 (List.mem_of_getElem? hri)
   rw[List.take_add_one,hei]
   exact au.app (al.imp λc e' h=>h.mono (sB.trans gD.sm)) (au.cons ⟨⟨q.1,gD.at_,gD.sm _ _ (sAB _ _ (ls6.2 q hq))⟩,r1,r6⟩ au.nil)
  obtain⟨s7,tsr,rfl,al⟩:=z
  rw[List.length_map,<- lrp,<- les,List.take_length]at al
  refine λx dx hxn hdx hne=>?_
  have s6B:=s7.trans gB.sm
  obtain⟨H9,e9⟩ : ∃ H9,H9=upd (upd HB dx (.own x)) x (.ins t.bF dx []):=⟨_,rfl⟩
  have sB9:af HB H9:=λb ob q=>by rw[e9,aj (bD q hxn),aj (bD q hdx)]; exact q
  have a9:H9 x=some (.ins t.bF dx []):=by rw[e9]; exact aN
  rw[<- e9]
  clear e9
  refine⟨x,dx,pr,tsr,es,rfl,a9,sB9 _ _ gB.at_,(al.imp λc e' h=>h.mono (gB.sm.trans sB9)),esok,λf HC kC ttC=>⟨rfl,?_⟩⟩
  have sBC:af HB HC:=λb ob q=>kC _ _ (bD q hxn) (sB9 _ _ q)
  have s6C:=s6B.trans sBC
  have s0C:=s06.trans s6C
  have tabC:=iQ tab0 s0C
  have lp:(ap (es.map λe=>e.2)).length<=200:=by rw[erow,rh]; have:=rws.tot; omega
  refine⟨x,f,es,1000,rfl,ttC,Nat.le_refl _,esok,lp,tabC,λpf sw m v HD sD tabD hpf told=>?_⟩
  rw[erow]at told
  have tD:=lD tabC sD
  refine⟨pf,_,rfl,.of hpf,rfl,_,_,rfl,_,_,rfl,_,_,rfl,rfl,?_⟩
  have lsD:d7 HD p ps:=Ak (ls6.mono s6C) tD
  have hdD:dM HD hl ks:=AR ((hd.mono s6).mono s6C) tD
  have ner : ∀ r∈rows,r≠[]:=λr hr z=>by have:=(rws.sg r hr).1; rw[z]at this; cases this
  have cl:=ox rws.pf ner
  have spk : ∀ b,bM (ap rows) b->b∈sp:=λb hb=>(mem b).mpr (jh.mpr hb)
  have cs : ∃ n:Nat,m=(n:Int)/\n<=ks.length/\n<=160000/\((ks=[]/\sw = "within"/\n=0)\/(ks≠[]/\sw = "never"/\∀ j,∃ g,ce rows j g)\/(ks≠[]/\sw = "within"/\(∃ g,ce rows n g)/\Mx rows n)):=by
   have kne : ∀ k',aV (ap rows) k'->ks≠[]:=λk' nk'=>cv0.ne.mpr ⟨k',k',[],nk',rfl,rfl⟩
   rcases told with ⟨no,e1,e2,e3⟩ | ⟨k',r',nk',lr',_,⟨e1,e2,rne,hp'⟩ | ⟨e1,e2,⟨g',hg'⟩,mx⟩⟩
   ·refine⟨0,e2,Nat.zero_le _,by omega,.inl ⟨?_,e1,rfl⟩⟩
    exact Classical.byContradiction λn=>by
     obtain⟨g,k',r,nk',_⟩:=cv0.ne.mp n
     exact no k' nk'
   ·exact⟨0,e2,Nat.zero_le _,by omega,.inr (.inl ⟨kne k' nk',e1,λj=>tZ nk' rne hp' j⟩)⟩
   ·have hmx:Mx rows r'.length:=λk r g nk hp=>by have:=mx k r g nk hp; omega
    exact⟨r'.length,e2.symm,Nat.le_of_lt (mX cl hmx cv0 nk' hg'),lr',.inr (.inr ⟨kne k' nk',e1,⟨g',k',r',nk',rfl,hg'⟩,hmx⟩)⟩
  obtain⟨n,rfl,nl,n16,cs⟩:=cs
  obtain⟨qs,hq,alq⟩:=id hdD
  refine⟨(n:Int),rfl,?_⟩
  refine aG (λz=>absurd (show (!true)=true from z) (by decide)) (λ_=>?_)
  refine⟨_,.inl (.of hq),?_⟩
  rw[List.length_map]
  refine aG (λz=>?_) (λ_=>?_)
  ·have:=of_decide_eq_true (show decide ((qs.length:Int) < (n:Int))=true from z)
   have:=alq.1
   omega
  unfold jy
  dsimp only
  refine⟨sz rfl,λpe HE gE=>?_⟩
  refine nT (hdD.mono gE.sm) gE.at_ ?_
  refine aG (λz=>?_) (λz=>?_)
  ·have z:ks=[]:=of_decide_eq_true z
   rcases cs with ⟨_,rfl,rfl⟩ | ⟨w,_⟩ | ⟨w,_⟩
   ·refine⟨_,_,aZ.str _,aZ.str _,by decide +kernel,by decide +kernel,?_⟩
    have e1:PyData.eqv (.str ("within" : Str)) (.str ("within" : Str))=true:=by decide
    rw[e1]
    refine dU ?_
    exact k _
   ·exact absurd z w
   ·exact absurd z w
  have z:ks≠[]:=λe=>z (decide_eq_true e)
  dsimp only
  obtain⟨N,eN⟩ : ∃ N:Nat,N=if sw = "never" then 8 else n:=⟨_,rfl⟩
  have cs2:(sw = "never"/\N=8/\∀ j,∃ g,ce rows j g)\/(sw = "within"/\N=n/\(∃ g,ce rows n g)/\Mx rows n):=by
   rcases cs with ⟨w,_⟩ | ⟨_,e,h⟩ | ⟨_,e,h1,h2⟩
   ·exact absurd w z
   ·exact .inl ⟨e,by rw[eN,if_pos e],h⟩
   ·exact .inr ⟨e,by rw[eN,if_neg (by rw[e]; decide)],h1,h2⟩
  have hok:SeqAt.shaped (.str sw)=true:=by
   rcases cs2 with ⟨e,_⟩ | ⟨e,_⟩ <;> (rw[e]; decide +kernel)
  refine ly (λσ' H'=>af HE H'/\∃ v4,σ'=[some (.ref a),some (.ref p),some (.ref pu),some (.ref hl),v4,some (.int (65+sc.getD 0 0%1000)),some (.str sw),some (.int (N:Int)),some v]) (λnx hn=>?_) ?_
  ·refine⟨_,_,aZ.str _,aZ.str _,hok,by decide +kernel,?_⟩
   rcases cs2 with ⟨rfl,rfl,_⟩ | ⟨rfl,rfl,_⟩
   ·have e1:PyData.eqv (.str ("never" : Str)) (.str ("never" : Str))=true:=by decide
    rw[e1]
    refine dU ?_
    exact hn _ _ ⟨af.refl _,_,rfl⟩
   ·have e1:PyData.eqv (.str ("within" : Str)) (.str ("never" : Str))=false:=by decide
    rw[e1]
    refine aG (λz=>absurd (show false=true from z) (by decide)) (λ_=>?_)
    exact hn _ _ ⟨af.refl _,_,rfl⟩
  rintro σ' HF ⟨sF,v4',rfl⟩
  have sDF:=gE.sm.trans sF
  have N16:N<=160000:=by
   rcases cs2 with ⟨_,e,_⟩ | ⟨_,e,_⟩ <;> omega
  refine⟨(N:Int),rfl,by omega,by omega,?_⟩
  rw[Int.toNat_natCast]
  refine iA (lo:=0) (n:=N) (λj σ H'=>af HD H'/\∃ hl ks v4,dM H' hl ks/\fH rows j ks/\(∀ k∈ks,aV (ap rows) k)/\ks.length<=3600/\σ=[some (.ref a),some (.ref p),some (.ref pu),some (.ref hl),v4,some (.int (65+sc.getD 0 0%1000)),some (.str sw),some (.int (N:Int)),some v]) ⟨sDF,hl,ks,_,hdD.mono sDF,cv0,pn0,lks,rfl⟩ ?_ ?_
  ·rintro j σ HG hj ⟨sG,hl,ks,v4,hdG,cvj,pnj,lkj,rfl⟩
   refine cC ?_
   exact⟨p,hl,ps,rows,sp,ks,rfl,lsD.mono sG,er.symm,rws,by omega,spk,by omega,hdG,pnj,lkj,λp' ks' HI sI hdI led pnI lkI=>⟨sG.trans sI,p',ks',_,hdI,cvj.led led,pnI,lkI,rfl⟩⟩
  ·rintro σ HG ⟨sG,hl,ks,v4,hdG,cvj,pnj,lkj,rfl⟩
   dsimp only
   refine⟨sz rfl,λpz HI gI=>?_⟩
   refine nT (hdG.mono gI.sm) gI.at_ ?_
   have kne:ks≠[]:=by
    rcases cs2 with ⟨_,_,h⟩ | ⟨_,e,h,_⟩
    ·exact cvj.ne.mpr (h N)
    ·exact cvj.ne.mpr (by rw[e]; exact h)
   refine aG (λ_=>?_) (λw=>absurd (show (!decide (ks=[]))=true by simp[kne]) w)
   refine⟨_,_,aZ.str _,aZ.str _,hok,by decide +kernel,?_⟩
   rcases cs2 with ⟨rfl,_,_⟩ | ⟨rfl,eNn,_,mx⟩
   ·have e1:PyData.eqv (.str ("never" : Str)) (.str ("never" : Str))=true:=by decide
    rw[e1]
    refine dU ?_
    exact k _
   ·have e1:PyData.eqv (.str ("within" : Str)) (.str ("never" : Str))=false:=by decide
    rw[e1]
    refine aG (λz=>absurd (show false=true from z) (by decide)) (λ_=>?_)
    refine⟨_,_,aZ.str _,aZ.str _,by decide +kernel,by decide +kernel,?_⟩
    have e1:PyData.eqv (.str ("within" : Str)) (.str ("within" : Str))=true:=by decide
    rw[e1]
    refine dU ?_
    refine⟨p,hl,ps,rows,sp,ks,rfl,lsD.mono (sG.trans gI.sm),er.symm,rws,by omega,spk,by omega,hdG.mono gI.sm,pnj,lkj,λp' ks' HJ sJ hdJ led pnJ lkJ=>?_⟩
    refine⟨sz rfl,λpw HK gK=>?_⟩
    refine nT (hdJ.mono gK.sm) gK.at_ ?_
    have cv2:=cvj.led led
    have:ks'=[]:=Classical.byContradiction λw=>by
     obtain⟨g,r⟩:=cv2.ne.mp w
     rw[eNn]at r
     exact mx.none g r
    exact bu (k _) (decide_eq_true this).symm
end
end My
namespace My
open PySem L2
theorem Am{Pm:List Value->Prop}(h : ∀ _:Unit,Pm []) : ∀ us:List Value,us.length=0->Pm us
 | [],_=>h ()
theorem bQ{Pm:List Value->Prop}(h : ∀ x0,Pm [x0]) : ∀ us:List Value,us.length=1->Pm us
 | x0 :: us,e=>Am (Pm:=λus=>Pm (x0 :: us)) (λ_=>h x0) us (Nat.succ.inj e)
theorem fV{Pm:List Value->Prop}(h : ∀ x0 x1,Pm [x0,x1]) : ∀ us:List Value,us.length=2->Pm us
 | x0 :: us,e=>bQ (Pm:=λus=>Pm (x0 :: us)) (λx1=>h x0 x1) us (Nat.succ.inj e)
theorem i8{Pm:List Value->Prop}(h : ∀ x0 x1 x2,Pm [x0,x1,x2]) : ∀ us:List Value,us.length=3->Pm us
 | x0 :: us,e=>fV (Pm:=λus=>Pm (x0 :: us)) (λx1 x2=>h x0 x1 x2) us (Nat.succ.inj e)
theorem txt_mk{K:W.Frag}{h:Heap}{mg:Str->Option Value}(X:K.In h)(G:h.Ns mainGlobals mg)
 {a0:Addr} {od0 an0:Option Addr} {sl0:Array (Option Value)} {oc0 kV0 dc0 pm0 cd0 ct0:Value}
 {a1:Addr} {od1 an1:Option Addr} {sl1:Array (Option Value)} {oc1 kV1 dc1 pm1 cd1 ct1:Value}
 {a2:Addr} {od2 an2:Option Addr} {sl2:Array (Option Value)} {oc2 kV2 dc2 pm2 cd2 ct2:Value}
 {a3:Addr} {od3 an3:Option Addr} {sl3:Array (Option Value)} {oc3 kV3 dc3 pm3 cd3 ct3:Value}
 {a4:Addr} {od4 an4:Option Addr} {sl4:Array (Option Value)} {oc4 kV4 dc4 pm4 cd4 ct4:Value}
 {a5:Addr} {od5 an5:Option Addr} {sl5:Array (Option Value)} {oc5 kV5 dc5 pm5 cd5 ct5:Value}
 {a6:Addr} {od6 an6:Option Addr} {sl6:Array (Option Value)} {oc6 kV6 dc6 pm6 cd6 ct6:Value}
 {a7:Addr} {od7 an7:Option Addr} {sl7:Array (Option Value)} {oc7 kV7 dc7 pm7 cd7 ct7:Value}
 {a8:Addr} {od8 an8:Option Addr} {sl8:Array (Option Value)} {oc8 kV8 dc8 pm8 ct8:Value}
 {a9:Addr} {od9 an9:Option Addr} {sl9:Array (Option Value)} {oc9 kV9 dc9 pm9 cd9 ct9:Value}
 {a10:Addr} {od10 an10:Option Addr} {sl10:Array (Option Value)} {oc10 kV10 dc10 pm10 cd10 ct10:Value}
 {a11:Addr} {od11 an11:Option Addr} {sl11:Array (Option Value)} {oc11 kV11 dc11 pm11 cd11 ct11:Value}
 {a12:Addr} {od12 an12:Option Addr} {sl12:Array (Option Value)} {oc12 kV12 dc12 pm12 cd12 ct12:Value}
 {a13:Addr} {od13 an13:Option Addr} {sl13:Array (Option Value)} {oc13 kV13 dc13 pm13 cd13 ct13:Value}
 {a14:Addr} {od14 an14:Option Addr} {sl14:Array (Option Value)} {oc14 kV14 dc14 pm14 cd14 ct14:Value}
 {a15:Addr} {od15 an15:Option Addr} {sl15:Array (Option Value)} {oc15 kV15 dc15 pm15 cd15 ct15:Value}
 {a16:Addr} {od16 an16:Option Addr} {sl16:Array (Option Value)} {oc16 kV16 dc16 pm16 cd16 ct16:Value}
 {a17:Addr} {od17 an17:Option Addr} {sl17:Array (Option Value)} {oc17 kV17 dc17 pm17 cd17 ct17:Value}
 {a18:Addr} {od18 an18:Option Addr} {sl18:Array (Option Value)} {oc18 kV18 dc18 pm18 cd18 ct18:Value}
 {a19:Addr} {od19 an19:Option Addr} {sl19:Array (Option Value)} {oc19 kV19 dc19 pm19 cd19 ct19:Value}
 {a20:Addr} {od20 an20:Option Addr} {sl20:Array (Option Value)} {oc20 kV20 dc20 pm20 cd20 ct20:Value}
 {ccTableTongue:Addr}
 {a21:Addr} {od21 an21:Option Addr} {sl21:Array (Option Value)} {oc21 kV21 dc21 pm21 cd21 ct21:Value}
 {a22:Addr} {od22 an22:Option Addr} {sl22:Array (Option Value)} {oc22 kV22 dc22 pm22 cd22 ct22:Value}
 {a23:Addr} {od23 an23:Option Addr} {sl23:Array (Option Value)} {oc23 kV23 dc23 pm23 cd23 ct23:Value}
 {a24:Addr} {od24 an24:Option Addr} {sl24:Array (Option Value)} {oc24 kV24 dc24 pm24 cd24 ct24:Value}
 {a25:Addr} {od25 an25:Option Addr} {sl25:Array (Option Value)} {oc25 kV25 dc25 pm25 cd25 ct25:Value}
 {a26:Addr} {od26 an26:Option Addr} {sl26:Array (Option Value)} {oc26 kV26 dc26 pm26 cd26 ct26:Value}
 {a27:Addr} {od27 an27:Option Addr} {sl27:Array (Option Value)} {oc27 kV27 dc27 pm27 cd27 ct27:Value}
 {a28:Addr} {od28 an28:Option Addr} {sl28:Array (Option Value)} {oc28 kV28 dc28 pm28 cd28 ct28:Value}
 {a29:Addr} {od29 an29:Option Addr} {sl29:Array (Option Value)} {oc29 kV29 dc29 pm29 cd29 ct29:Value}
 {u0:Tok}
 {u1:Tok}
 {u2:Tok}
 {u3:Tok}
 {u4:Tok}
 {u5:Tok}
 {u6:Tok}
 {u7:Tok}
 {u8:Tok}
 (h0a:W.nsIn K mainGlobals "steps_of" = some (some (.ref a0)))
 (h0l:K.lookup a0=some ⟨oc0,od0,.func (W.fnOf "steps_of" "steps_of" (aQ gN) (aL gN) (ao gN) .none kV0 dc0 pm0 an0 cd0 ct0),sl0⟩)
 (h0c:W.codeIn K cd0 "steps_of" = true)
 (h0k:W.keepIn K (.ref a0)=true)
 (h1a:W.nsIn K mainGlobals "apart_behind" = some (some (.ref a1)))
 (h1l:K.lookup a1=some ⟨oc1,od1,.func (W.fnOf "apart_behind" "apart_behind" (aQ hV) (aL hV) (ao hV) .none kV1 dc1 pm1 an1 cd1 ct1),sl1⟩)
 (h1c:W.codeIn K cd1 "apart_behind" = true)
 (h1k:W.keepIn K (.ref a1)=true)
 (h2a:W.nsIn K mainGlobals "apart_of" = some (some (.ref a2)))
 (h2l:K.lookup a2=some ⟨oc2,od2,.func (W.fnOf "apart_of" "apart_of" (aQ hU) (aL hU) (ao hU) .none kV2 dc2 pm2 an2 cd2 ct2),sl2⟩)
 (h2c:W.codeIn K cd2 "apart_of" = true)
 (h2k:W.keepIn K (.ref a2)=true)
 (h3a:W.nsIn K mainGlobals "ahead_of" = some (some (.ref a3)))
 (h3l:K.lookup a3=some ⟨oc3,od3,.func (W.fnOf "ahead_of" "ahead_of" (aQ hW) (aL hW) (ao hW) .none kV3 dc3 pm3 an3 cd3 ct3),sl3⟩)
 (h3c:W.codeIn K cd3 "ahead_of" = true)
 (h3k:W.keepIn K (.ref a3)=true)
 (h4a:W.nsIn K mainGlobals "farthest" = some (some (.ref a4)))
 (h4l:K.lookup a4=some ⟨oc4,od4,.func (W.fnOf "farthest" "farthest" (aQ ff) (aL ff) (ao ff) .none kV4 dc4 pm4 an4 cd4 ct4),sl4⟩)
 (h4c:W.codeIn K cd4 "farthest" = true)
 (h4k:W.keepIn K (.ref a4)=true)
 (h5a:W.nsIn K mainGlobals "row_apart" = some (some (.ref a5)))
 (h5l:K.lookup a5=some ⟨oc5,od5,.func (W.fnOf "row_apart" "row_apart" (aQ gO) (aL gO) (ao gO) .none kV5 dc5 pm5 an5 cd5 ct5),sl5⟩)
 (h5c:W.codeIn K cd5 "row_apart" = true)
 (h5k:W.keepIn K (.ref a5)=true)
 (h6a:W.nsIn K mainGlobals "trip_from" = some (some (.ref a6)))
 (h6l:K.lookup a6=some ⟨oc6,od6,.func (W.fnOf "trip_from" "trip_from" (aQ fM) (aL fM) (ao fM) .none kV6 dc6 pm6 an6 cd6 ct6),sl6⟩)
 (h6c:W.codeIn K cd6 "trip_from" = true)
 (h6k:W.keepIn K (.ref a6)=true)
 (h7a:W.nsIn K mainGlobals "witness" = some (some (.ref a7)))
 (h7l:K.lookup a7=some ⟨oc7,od7,.func (W.fnOf "witness" "witness" (aQ gM) (aL gM) (ao gM) .none kV7 dc7 pm7 an7 cd7 ct7),sl7⟩)
 (h7c:W.codeIn K cd7 "witness" = true)
 (h7k:W.keepIn K (.ref a7)=true)
 (h8a:W.nsIn K mainGlobals "slack" = some (some (.ref a8)))
 (h8l:K.lookup a8=some ⟨oc8,od8,.func (W.fnOf "slack" "slack" (aQ ez) (aL ez) (ao ez) .none kV8 dc8 pm8 an8 (.ref 77) ct8),sl8⟩)
 (h8c:W.codeIn K (.ref 77) "slack" = true)
 (xt_h8t:W.codeHdIn K 77 75=true)
 (h8k:W.keepIn K (.ref a8)=true)
 (h9a:W.nsIn K mainGlobals "begins" = some (some (.ref a9)))
 (h9l:K.lookup a9=some ⟨oc9,od9,.func (W.fnOf "begins" "begins" (aQ hJ) (aL hJ) (ao hJ) .none kV9 dc9 pm9 an9 cd9 ct9),sl9⟩)
 (h9c:W.codeIn K cd9 "begins" = true)
 (h9k:W.keepIn K (.ref a9)=true)
 (h10a:W.nsIn K mainGlobals "is_number" = some (some (.ref a10)))
 (h10l:K.lookup a10=some ⟨oc10,od10,.func (W.fnOf "is_number" "is_number" (aQ gU) (aL gU) (ao gU) .none kV10 dc10 pm10 an10 cd10 ct10),sl10⟩)
 (h10c:W.codeIn K cd10 "is_number" = true)
 (h10k:W.keepIn K (.ref a10)=true)
 (h11a:W.nsIn K mainGlobals "is_byte" = some (some (.ref a11)))
 (h11l:K.lookup a11=some ⟨oc11,od11,.func (W.fnOf "is_byte" "is_byte" (aQ gY) (aL gY) (ao gY) .none kV11 dc11 pm11 an11 cd11 ct11),sl11⟩)
 (h11c:W.codeIn K cd11 "is_byte" = true)
 (h11k:W.keepIn K (.ref a11)=true)
 (h12a:W.nsIn K mainGlobals "is_head" = some (some (.ref a12)))
 (h12l:K.lookup a12=some ⟨oc12,od12,.func (W.fnOf "is_head" "is_head" (aQ gW) (aL gW) (ao gW) .none kV12 dc12 pm12 an12 cd12 ct12),sl12⟩)
 (h12c:W.codeIn K cd12 "is_head" = true)
 (h12k:W.keepIn K (.ref a12)=true)
 (h13a:W.nsIn K mainGlobals "is_tail" = some (some (.ref a13)))
 (h13l:K.lookup a13=some ⟨oc13,od13,.func (W.fnOf "is_tail" "is_tail" (aQ gP) (aL gP) (ao gP) .none kV13 dc13 pm13 an13 cd13 ct13),sl13⟩)
 (h13c:W.codeIn K cd13 "is_tail" = true)
 (h13k:W.keepIn K (.ref a13)=true)
 (h14a:W.nsIn K mainGlobals "is_seen_byte" = some (some (.ref a14)))
 (h14l:K.lookup a14=some ⟨oc14,od14,.func (W.fnOf "is_seen_byte" "is_seen_byte" (aQ gR) (aL gR) (ao gR) .none kV14 dc14 pm14 an14 cd14 ct14),sl14⟩)
 (h14c:W.codeIn K cd14 "is_seen_byte" = true)
 (h14k:W.keepIn K (.ref a14)=true)
 (h15a:W.nsIn K mainGlobals "is_sign" = some (some (.ref a15)))
 (h15l:K.lookup a15=some ⟨oc15,od15,.func (W.fnOf "is_sign" "is_sign" (aQ gQ) (aL gQ) (ao gQ) .none kV15 dc15 pm15 an15 cd15 ct15),sl15⟩)
 (h15c:W.codeIn K cd15 "is_sign" = true)
 (h15k:W.keepIn K (.ref a15)=true)
 (h16a:W.nsIn K mainGlobals "is_row" = some (some (.ref a16)))
 (h16l:K.lookup a16=some ⟨oc16,od16,.func (W.fnOf "is_row" "is_row" (aQ fN) (aL fN) (ao fN) .none kV16 dc16 pm16 an16 cd16 ct16),sl16⟩)
 (h16c:W.codeIn K cd16 "is_row" = true)
 (h16k:W.keepIn K (.ref a16)=true)
 (h17a:W.nsIn K mainGlobals "is_entry" = some (some (.ref a17)))
 (h17l:K.lookup a17=some ⟨oc17,od17,.func (W.fnOf "is_entry" "is_entry" (aQ gX) (aL gX) (ao gX) .none kV17 dc17 pm17 an17 cd17 ct17),sl17⟩)
 (h17c:W.codeIn K cd17 "is_entry" = true)
 (h17k:W.keepIn K (.ref a17)=true)
 (h18a:W.nsIn K mainGlobals "collide" = some (some (.ref a18)))
 (h18l:K.lookup a18=some ⟨oc18,od18,.func (W.fnOf "collide" "collide" (aQ gZ) (aL gZ) (ao gZ) .none kV18 dc18 pm18 an18 cd18 ct18),sl18⟩)
 (h18c:W.codeIn K cd18 "collide" = true)
 (h18k:W.keepIn K (.ref a18)=true)
 (h19a:W.nsIn K mainGlobals "check_table" = some (some (.ref a19)))
 (h19l:K.lookup a19=some ⟨oc19,od19,.func (W.fnOf "check_table" "check_table" (aQ hE) (aL hE) (ao hE) .none kV19 dc19 pm19 an19 cd19 ct19),sl19⟩)
 (h19c:W.codeIn K cd19 "check_table" = true)
 (h19k:W.keepIn K (.ref a19)=true)
 (ou:W.nsIn K mainGlobals "TableTongue" = some (some (.ref ccTableTongue)))
 (kE:W.plainGet K ccTableTongue Str.empty=true)
 (kI:W.hasDictIn K ccTableTongue=true)
 (kH:W.plainOver K ccTableTongue=true)
 (kD:W.findIn K (.ref ccTableTongue) "__setattr__" = some (some (.builtin "object.__setattr__")))
 (oh:W.makesIn K ccTableTongue=true)
 (oq:W.keepIn K (.ref ccTableTongue)=true)
 (nY:W.findIn K (.ref ccTableTongue) "__class__" = some (some (.builtin "object.__class__")))
 (nX:W.specialIn K (.builtin "object.__class__") "__get__" = some (some (.builtin "getset_descriptor.__get__")))
 (nW:W.takesIn K (.builtin "object.__class__")=some true)
 (cw_TableTongue:W.mroIn K ccTableTongue (.type "object")=some true)
 (og:W.findIn K (.ref ccTableTongue) "rest_by_row" = some none)
 (oa:W.findIn K (.ref ccTableTongue) "row_by_sign" = some none)
 (n6:W.findIn K (.ref ccTableTongue) "sign_by_row" = some none)
 (h20a:W.findIn K (.ref ccTableTongue) "__init__" = some (some (.ref a20)))
 (h20f:W.isFn K (.ref a20)=true)
 (h20l:K.lookup a20=some ⟨oc20,od20,.func (W.fnOf "__init__" "TableTongue.__init__" (aQ hX) (aL hX) (ao hX) .none kV20 dc20 pm20 an20 cd20 ct20),sl20⟩)
 (h20c:W.codeIn K cd20 "TableTongue.__init__" = true)
 (h20k:W.keepIn K (.ref a20)=true)
 (h21a:W.findIn K (.ref ccTableTongue) "enter" = some (some (.ref a21)))
 (h21f:W.isFn K (.ref a21)=true)
 (h21l:K.lookup a21=some ⟨oc21,od21,.func (W.fnOf "enter" "TableTongue.enter" (aQ hZ) (aL hZ) (ao hZ) .none kV21 dc21 pm21 an21 cd21 ct21),sl21⟩)
 (h21c:W.codeIn K cd21 "TableTongue.enter" = true)
 (h21k:W.keepIn K (.ref a21)=true)
 (h22a:W.findIn K (.ref ccTableTongue) "rows" = some (some (.ref a22)))
 (h22f:W.isFn K (.ref a22)=true)
 (h22l:K.lookup a22=some ⟨oc22,od22,.func (W.fnOf "rows" "TableTongue.rows" (aQ fO) (aL fO) (ao fO) .none kV22 dc22 pm22 an22 cd22 ct22),sl22⟩)
 (h22c:W.codeIn K cd22 "TableTongue.rows" = true)
 (h22k:W.keepIn K (.ref a22)=true)
 (h23a:W.nsIn K mainGlobals "_law_pick" = some (some (.ref a23)))
 (h23l:K.lookup a23=some ⟨oc23,od23,.func (W.fnOf "_law_pick" "_law_pick" (aQ gH) (aL gH) (ao gH) .none kV23 dc23 pm23 an23 cd23 ct23),sl23⟩)
 (h23c:W.codeIn K cd23 "_law_pick" = true)
 (h23k:W.keepIn K (.ref a23)=true)
 (h24a:W.nsIn K mainGlobals "_law_plain" = some (some (.ref a24)))
 (h24l:K.lookup a24=some ⟨oc24,od24,.func (W.fnOf "_law_plain" "_law_plain" (aQ gG) (aL gG) (ao gG) .none kV24 dc24 pm24 an24 cd24 ct24),sl24⟩)
 (h24c:W.codeIn K cd24 "_law_plain" = true)
 (h24k:W.keepIn K (.ref a24)=true)
 (h25a:W.nsIn K mainGlobals "_law_rows" = some (some (.ref a25)))
 (h25l:K.lookup a25=some ⟨oc25,od25,.func (W.fnOf "_law_rows" "_law_rows" (aQ fb) (aL fb) (ao fb) .none kV25 dc25 pm25 an25 cd25 ct25),sl25⟩)
 (h25c:W.codeIn K cd25 "_law_rows" = true)
 (h25k:W.keepIn K (.ref a25)=true)
 (h26a:W.nsIn K mainGlobals "_law_next" = some (some (.ref a26)))
 (h26l:K.lookup a26=some ⟨oc26,od26,.func (W.fnOf "_law_next" "_law_next" (aQ gJ) (aL gJ) (ao gJ) .none kV26 dc26 pm26 an26 cd26 ct26),sl26⟩)
 (h26c:W.codeIn K cd26 "_law_next" = true)
 (h26k:W.keepIn K (.ref a26)=true)
 (h27a:W.nsIn K mainGlobals "_law_spots" = some (some (.ref a27)))
 (h27l:K.lookup a27=some ⟨oc27,od27,.func (W.fnOf "_law_spots" "_law_spots" (aQ gF) (aL gF) (ao gF) .none kV27 dc27 pm27 an27 cd27 ct27),sl27⟩)
 (h27c:W.codeIn K cd27 "_law_spots" = true)
 (h27k:W.keepIn K (.ref a27)=true)
 (h28a:W.nsIn K mainGlobals "_law_led_on" = some (some (.ref a28)))
 (h28l:K.lookup a28=some ⟨oc28,od28,.func (W.fnOf "_law_led_on" "_law_led_on" (aQ gL) (aL gL) (ao gL) .none kV28 dc28 pm28 an28 cd28 ct28),sl28⟩)
 (h28c:W.codeIn K cd28 "_law_led_on" = true)
 (h28k:W.keepIn K (.ref a28)=true)
 (h29a:W.nsIn K mainGlobals "law" = some (some (.ref a29)))
 (h29l:K.lookup a29=some ⟨oc29,od29,.func (W.fnOf "law" "law" (aQ fe) (aL fe) (ao fe) .none kV29 dc29 pm29 an29 cd29 ct29),sl29⟩)
 (h29c:W.codeIn K cd29 "law" = true)
 (h29k:W.keepIn K (.ref a29)=true)
 (k0:W.nsIn K mainGlobals "FIRST_HEAD" = some (some (.int 55296 u0)))
 (k1:W.nsIn K mainGlobals "FIRST_SEEN" = some (some (.int 61184 u1)))
 (k2:W.nsIn K mainGlobals "FIRST_TAIL" = some (some (.int 56320 u2)))
 (k3:W.nsIn K mainGlobals "LAST_BYTE" = some (some (.int 255 u3)))
 (k4:W.nsIn K mainGlobals "LAST_SEEN" = some (some (.int 61439 u4)))
 (k5:W.nsIn K mainGlobals "LAST_SIGN" = some (some (.int 1114111 u5)))
 (k6:W.nsIn K mainGlobals "LAST_TAIL" = some (some (.int 57343 u6)))
 (k7:W.nsIn K mainGlobals "MOST_BYTES" = some (some (.int 6 u7)))
 (k8:W.nsIn K mainGlobals "MOST_TUPLES" = some (some (.int 64 u8)))
 (z0:W.nsIn K mainGlobals "all" = some none)
 (z1:W.nsIn K mainGlobals "bool" = some none)
 (z2:W.nsIn K mainGlobals "enumerate" = some none)
 (z3:W.nsIn K mainGlobals "int" = some none)
 (z4:W.nsIn K mainGlobals "isinstance" = some none)
 (z5:W.nsIn K mainGlobals "len" = some none)
 (z6:W.nsIn K mainGlobals "list" = some none)
 (z7:W.nsIn K mainGlobals "max" = some none)
 (z8:W.nsIn K mainGlobals "min" = some none)
 (z9:W.nsIn K mainGlobals "range" = some none)
 (z10:W.nsIn K mainGlobals "sorted" = some none)
 (z11:W.nsIn K mainGlobals "sum" = some none)
 (z12:W.nsIn K mainGlobals "tuple" = some none) : ∃ t,Txt K mg t:=by
  have F0:=bc (st:=gN) h0l h0c h0k
  have b0:=F0.binds (ps:=["tongue"]) (by intro _ _ _ _ _ _ us hl; revert us; exact bQ (λ_=>rfl))
  have F1:=bc (st:=hV) h1l h1c h1k
  have b1:=F1.binds (ps:=["steps", "one", "other"]) (by intro _ _ _ _ _ _ us hl; revert us; exact i8 (λ_ _ _=>rfl))
  have F2:=bc (st:=hU) h2l h2c h2k
  have b2:=F2.binds (ps:=["steps"]) (by intro _ _ _ _ _ _ us hl; revert us; exact bQ (λ_=>rfl))
  have F3:=bc (st:=hW) h3l h3c h3k
  have b3:=F3.binds (ps:=["apart"]) (by intro _ _ _ _ _ _ us hl; revert us; exact bQ (λ_=>rfl))
  have F4:=bc (st:=ff) h4l h4c h4k
  have b4:=F4.binds (ps:=["apart"]) (by intro _ _ _ _ _ _ us hl; revert us; exact bQ (λ_=>rfl))
  have F5:=bc (st:=gO) h5l h5c h5k
  have b5:=F5.binds (ps:=["apart", "far", "pair"]) (by intro _ _ _ _ _ _ us hl; revert us; exact i8 (λ_ _ _=>rfl))
  have F6:=bc (st:=fM) h6l h6c h6k
  have b6:=F6.binds (ps:=["apart", "far", "pair"]) (by intro _ _ _ _ _ _ us hl; revert us; exact i8 (λ_ _ _=>rfl))
  have F7:=bc (st:=gM) h7l h7c h7k
  have b7:=F7.binds (ps:=["pair", "row"]) (by intro _ _ _ _ _ _ us hl; revert us; exact fV (λ_ _=>rfl))
  have F8:=bc (st:=ez) h8l h8c h8k
  have b8:=F8.binds (ps:=["tongue"]) (by intro _ _ _ _ _ _ us hl; revert us; exact bQ (λ_=>rfl))
  have F9:=bc (st:=hJ) h9l h9c h9k
  have b9:=F9.binds (ps:=["one", "other"]) (by intro _ _ _ _ _ _ us hl; revert us; exact fV (λ_ _=>rfl))
  have F10:=bc (st:=gU) h10l h10c h10k
  have b10:=F10.binds (ps:=["thing"]) (by intro _ _ _ _ _ _ us hl; revert us; exact bQ (λ_=>rfl))
  have F11:=bc (st:=gY) h11l h11c h11k
  have b11:=F11.binds (ps:=["thing"]) (by intro _ _ _ _ _ _ us hl; revert us; exact bQ (λ_=>rfl))
  have F12:=bc (st:=gW) h12l h12c h12k
  have b12:=F12.binds (ps:=["number"]) (by intro _ _ _ _ _ _ us hl; revert us; exact bQ (λ_=>rfl))
  have F13:=bc (st:=gP) h13l h13c h13k
  have b13:=F13.binds (ps:=["number"]) (by intro _ _ _ _ _ _ us hl; revert us; exact bQ (λ_=>rfl))
  have F14:=bc (st:=gR) h14l h14c h14k
  have b14:=F14.binds (ps:=["thing"]) (by intro _ _ _ _ _ _ us hl; revert us; exact bQ (λ_=>rfl))
  have F15:=bc (st:=gQ) h15l h15c h15k
  have b15:=F15.binds (ps:=["thing"]) (by intro _ _ _ _ _ _ us hl; revert us; exact bQ (λ_=>rfl))
  have F16:=bc (st:=fN) h16l h16c h16k
  have b16:=F16.binds (ps:=["thing"]) (by intro _ _ _ _ _ _ us hl; revert us; exact bQ (λ_=>rfl))
  have F17:=bc (st:=gX) h17l h17c h17k
  have b17:=F17.binds (ps:=["thing"]) (by intro _ _ _ _ _ _ us hl; revert us; exact bQ (λ_=>rfl))
  have F18:=bc (st:=gZ) h18l h18c h18k
  have b18:=F18.binds (ps:=["one", "other"]) (by intro _ _ _ _ _ _ us hl; revert us; exact fV (λ_ _=>rfl))
  have F19:=bc (st:=hE) h19l h19c h19k
  have b19:=F19.binds (ps:=["rows"]) (by intro _ _ _ _ _ _ us hl; revert us; exact bQ (λ_=>rfl))
  have F20:=bc (st:=hX) h20l h20c h20k
  have b20:=F20.binds (ps:=["self", "rows"]) (by intro _ _ _ _ _ _ us hl; revert us; exact fV (λ_ _=>rfl))
  have F21:=bc (st:=hZ) h21l h21c h21k
  have b21:=F21.binds (ps:=["self", "sign", "row"]) (by intro _ _ _ _ _ _ us hl; revert us; exact i8 (λ_ _ _=>rfl))
  have F22:=bc (st:=fO) h22l h22c h22k
  have b22:=F22.binds (ps:=["self"]) (by intro _ _ _ _ _ _ us hl; revert us; exact bQ (λ_=>rfl))
  have F23:=bc (st:=gH) h23l h23c h23k
  have b23:=F23.binds (ps:=["_law_script", "_law_k"]) (by intro _ _ _ _ _ _ us hl; revert us; exact fV (λ_ _=>rfl))
  have F24:=bc (st:=gG) h24l h24c h24k
  have b24:=F24.binds (ps:=["_law_found"]) (by intro _ _ _ _ _ _ us hl; revert us; exact bQ (λ_=>rfl))
  have F25:=bc (st:=fb) h25l h25c h25k
  have b25:=F25.binds (ps:=["_law_cells"]) (by intro _ _ _ _ _ _ us hl; revert us; exact bQ (λ_=>rfl))
  have F26:=bc (st:=gJ) h26l h26c h26k
  have b26:=F26.binds (ps:=["_law_rows_here", "_law_begun", "_law_byte"]) (by intro _ _ _ _ _ _ us hl; revert us; exact i8 (λ_ _ _=>rfl))
  have F27:=bc (st:=gF) h27l h27c h27k
  have b27:=F27.binds (ps:=["_law_rows_here"]) (by intro _ _ _ _ _ _ us hl; revert us; exact bQ (λ_=>rfl))
  have F28:=bc (st:=gL) h28l h28c h28k
  have b28:=F28.binds (ps:=["_law_rows_here", "_law_held"]) (by intro _ _ _ _ _ _ us hl; revert us; exact fV (λ_ _=>rfl))
  have F29:=bc (st:=fe) h29l h29c h29k
  have b29:=F29.binds (ps:=["_law_script"]) (by intro _ _ _ _ _ _ us hl; revert us; exact bQ (λ_=>rfl))
  exact⟨⟨a0,_,a1,_,a2,_,a3,_,a4,_,a5,_,a6,_,a7,_,a8,_,a9,_,a10,_,a11,_,a12,_,a13,_,a14,_,a15,_,a16,_,a17,_,a18,_,a19,_,a20,_,a21,_,a22,_,a23,_,a24,_,a25,_,a26,_,a27,_,a28,_,a29,_,ccTableTongue,u0,u1,u2,u3,u4,u5,u6,u7,u8⟩,⟨F0,b0,W.mg_of X G h0a,F1,b1,W.mg_of X G h1a,F2,b2,W.mg_of X G h2a,F3,b3,W.mg_of X G h3a,F4,b4,W.mg_of X G h4a,F5,b5,W.mg_of X G h5a,F6,b6,W.mg_of X G h6a,F7,b7,W.mg_of X G h7a,F8,Cb (st:=ez) h8l h8c xt_h8t,b8,W.mg_of X G h8a,F9,b9,W.mg_of X G h9a,F10,b10,W.mg_of X G h10a,F11,b11,W.mg_of X G h11a,F12,b12,W.mg_of X G h12a,F13,b13,W.mg_of X G h13a,F14,b14,W.mg_of X G h14a,F15,b15,W.mg_of X G h15a,F16,b16,W.mg_of X G h16a,F17,b17,W.mg_of X G h17a,F18,b18,W.mg_of X G h18a,F19,b19,W.mg_of X G h19a,F20,b20,F21,b21,F22,b22,F23,b23,W.mg_of X G h23a,F24,b24,W.mg_of X G h24a,F25,b25,W.mg_of X G h25a,F26,b26,W.mg_of X G h26a,F27,b27,W.mg_of X G h27a,F28,b28,W.mg_of X G h28a,F29,b29,W.mg_of X G h29a,W.mg_of X G ou,⟨kE,kI,kH,kD⟩,⟨oh,h20a,h20f,oq⟩,⟨h21a,h21f,h21k⟩,⟨h22a,h22f,h22k⟩,og,oa,n6,λH a dx fs e=>.ins e ⟨kE,kI,kH,kD⟩ nY nX nW cw_TableTongue,W.mg_of X G k0,W.mg_of X G k1,W.mg_of X G k2,W.mg_of X G k3,W.mg_of X G k4,W.mg_of X G k5,W.mg_of X G k6,W.mg_of X G k7,W.mg_of X G k8,W.mg_none_of X G z0,W.mg_none_of X G z1,W.mg_none_of X G z2,W.mg_none_of X G z3,W.mg_none_of X G z4,W.mg_none_of X G z5,W.mg_none_of X G z6,W.mg_none_of X G z7,W.mg_none_of X G z8,W.mg_none_of X G z9,W.mg_none_of X G z10,W.mg_none_of X G z11,W.mg_none_of X G z12⟩⟩
theorem walk {l:PySem.W.OpenLaw} {q:Program} {loose:List Str} {XP:(Str->Option Value)->Heap->Prop} {YP:World->Heap->Prop} {d:DefRec} {K:Params->PySem.W.Frag} (hn:l.most=some 63) (hdf:d.params.defaults=[]) (hnm:d.name = "law")
 (hY : ∀ (w:World) (h:Heap),YP w h->(K w.params).In h/\h.get? 75=some (PySem.W.tabObj #[])) (hKP : ∀ w:World,(K w.params).lookup 75=none) (hcd : ∀ w:World,PySem.W.codeHdIn (K w.params) 77 75=true)
 (F : ∀ (w:World) (mg:Str->Option Value) (h:Heap),(K w.params).In h->h.Ns mainGlobals mg->∃ t,Txt (K w.params) mg t) :
 PySem.W.WalkO q loose XP YP l.row.toRowW d [] (λf vs=>PySem.call f vs):=by
 refine L2.walk_ofT (n:=63) (k:=10) (x := "_law_script") (Pt:=75) (c:=77) (CX:=λ_=>bY) (sp:=λw=>lm (K w.params)) hn (by decide) hdf ⟨rfl,by decide,by decide⟩ hY hKP hcd (λw mg fa h KX G hmg=>?_) (λ_ _ a ns hl hO hS=>⟨a,rfl,ns,hS,hl,hO,λ_=>rfl⟩) λ_ _ _ _ _ z=>z
 obtain⟨t,T⟩:=F w mg h KX G
 rw[hnm]at hmg
 have e:=hmg.symm.trans T.tm
 cases e
 obtain⟨oc,od,kV,doc,pm,an,cdv,ct,osl,e1,lk,hcd⟩:=T.pD.ex
 refine⟨t.kj,λs u=>?_,λbase _ _ hB=>(A4 (P:=l.prog) (w:=w) (base:=base) T hB).ok⟩
 rw[e1]
 exact .of_eq rfl
end My
structure PySem.W.Fast:Prop where
 (tw10169696793347048048 tw10240039829563569342 tw10252642735428900629 tw10380053596850667942 tw10503397645288950971 tw10663219111060519152 tw10714724671677771513 tw10822506735740860119 tw11025534586369564714 tw11031329243468010739 tw11043621909159535078 tw11130864075771261402 tw11235691773914752214 tw11373336325862526128 tw11449188433441971151 tw11785921508352389605 tw11968479781632765623 tw12108947180561185100 tw12140238391853759471 tw12294462930551623128 tw12384580696507264159 tw12410819561734169971 tw12713853841112336983 tw12903403299651584910 tw13026842401432184030 tw13434800046314595936 tw13573866389395856621 tw13589563788981716936 tw13639913406297110326 tw13724194311520622284 tw13748636364686694195 tw13819027532129106254 tw13941718374320047889 tw14236717258399057889 tw1427905416488753024 tw14852098512759827218 tw15273923982955409343 tw15403456645410728501 tw1558634468246506545 tw15824651964905460954 tw15850065930826349941 tw16961202031526427108 tw17139391285544729910 tw1765076904739485742 tw17791276939581490919 tw18162100747991329271 tw18286258353621251018 tw18393822229549726149 tw1926164463882201127 tw1949377657364679374 tw206548733102921105 tw241001831901210250 tw2447479557062452005 tw2461757955059755952 tw2518271695002901822 tw27781210929353566 tw3473245004917245396 tw3503362675406316879 tw3594950338199184798 tw4026632758912620074 tw4045970833049405118 tw4331644364258240072 tw4343905384085238046 tw4514703553654950518 tw4676153743897559230 tw4985144947384728709 tw501514012925644455 tw5067771243726341871 tw5147047036749208594 tw5512118183346763155 tw5846088601214458060 tw5866900878731221868 tw6132085100673002754 tw6162618053719426477 tw6338204453947155658 tw6583218933562286044 tw6762665481123258871 tw6769812325628139401 tw693524046654717191 tw6994201298994021333 tw7080696623672428262 tw7149108821491445995 tw7177710086087081240 tw786025172886169485 tw7879741264866462543 tw7901861555132636999 tw7970193067083033512 tw8021908698523018837 tw8051943940303266090 tw8176918693577671084 tw8188284334953962477 tw8335933418943257015 tw8395237023565232270 tw8621905141186458954 tw8647199537258828847 tw8701237458944644989 tw875593012497944529 tw8789247598402216772 tw8850514349853120150 tw9261787096414572163 tw9308614224780779613 tw9760318744765080862 tw9813944034544506254 tw9826435297511556950 tw9868793125970720126 tw9902019546454481787 tw9903439883868009891:True)
open PySem PySem.W PyProof.Rows
set_option maxRecDepth 100000 in
set_option maxHeartbeats 0 in
theorem PySem.Challenge.cw_bytetongue_k85_whole_slack_is_the_greate_holds : PySem.Challenge.rw_bytetongue_k85_whole_slack_is_the_greate.Holds := by
 w_on; o_law; k_head; (case hw=>w_witness2)
 k_fill
 refine My.walk (l:=PySem.Challenge.rw_bytetongue_k85_whole_slack_is_the_greate) rfl rfl rfl (λw h Y=>⟨PySem.W.km_in_of Y,PySem.W.km_tabs_of Y 75 (by simp)⟩) (λw=>by kernel_rfl) (λw=>by kernel_rfl) ?F
 case F =>
  intro w mg h KX G
  refine' My.txt_mk KX G ?h0a ?h0l ?h0c ?h0k ?h1a ?h1l ?h1c ?h1k ?h2a ?h2l ?h2c ?h2k ?h3a ?h3l ?h3c ?h3k ?h4a ?h4l ?h4c ?h4k ?h5a ?h5l ?h5c ?h5k ?h6a ?h6l ?h6c ?h6k ?h7a ?h7l ?h7c ?h7k ?h8a ?h8l ?h8c ?xt_h8t ?h8k ?h9a ?h9l ?h9c ?h9k ?h10a ?h10l ?h10c ?h10k ?h11a ?h11l ?h11c ?h11k ?h12a ?h12l ?h12c ?h12k ?h13a ?h13l ?h13c ?h13k ?h14a ?h14l ?h14c ?h14k ?h15a ?h15l ?h15c ?h15k ?h16a ?h16l ?h16c ?h16k ?h17a ?h17l ?h17c ?h17k ?h18a ?h18l ?h18c ?h18k ?h19a ?h19l ?h19c ?h19k ?ou ?kE ?kI ?kH ?kD ?oh ?oq ?nY ?nX ?nW ?cw_TableTongue ?og ?oa ?n6 ?h20a ?h20f ?h20l ?h20c ?h20k ?h21a ?h21f ?h21l ?h21c ?h21k ?h22a ?h22f ?h22l ?h22c ?h22k ?h23a ?h23l ?h23c ?h23k ?h24a ?h24l ?h24c ?h24k ?h25a ?h25l ?h25c ?h25k ?h26a ?h26l ?h26c ?h26k ?h27a ?h27l ?h27c ?h27k ?h28a ?h28l ?h28c ?h28k ?h29a ?h29l ?h29c ?h29k ?k0 ?k1 ?k2 ?k3 ?k4 ?k5 ?k6 ?k7 ?k8 ?z0 ?z1 ?z2 ?z3 ?z4 ?z5 ?z6 ?z7 ?z8 ?z9 ?z10 ?z11 ?z12
  case h0a|h0l|h0c|h0k|h1a|h1l|h1c|h1k|h2a|h2l|h2c|h2k|h3a|h3l|h3c|h3k|h4a|h4l|h4c|h4k|h5a|h5l|h5c|h5k|h6a|h6l|h6c|h6k|h7a|h7l|h7c|h7k|h8a|h8l|h8c=>k_is
  (case xt_h8t=>kernel_rfl)
  case h8k|h9a|h9l|h9c|h9k|h10a|h10l|h10c|h10k|h11a|h11l|h11c|h11k|h12a|h12l|h12c|h12k|h13a|h13l|h13c|h13k|h14a|h14l|h14c|h14k|h15a|h15l|h15c|h15k|h16a|h16l|h16c|h16k|h17a|h17l|h17c|h17k|h18a|h18l|h18c|h18k|h19a|h19l|h19c|h19k|ou|kE|kI|kH|kD|oh|oq|nY|nX|nW|cw_TableTongue|og|oa|n6|h20a=>k_is
  case h20f|h20l|h20c|h20k|h21a|h21f|h21l|h21c|h21k|h22a|h22f|h22l|h22c|h22k|h23a|h23l|h23c|h23k|h24a|h24l|h24c|h24k|h25a|h25l|h25c|h25k|h26a|h26l|h26c|h26k|h27a|h27l|h27c|h27k|h28a|h28l|h28c|h28k|h29a|h29l|h29c|h29k|k0|k1|k2|k3|k4|k5|k6|k7|k8|z0|z1|z2|z3|z4|z5|z6|z7|z8=>k_is
  case z9|z10|z11|z12=>k_is
